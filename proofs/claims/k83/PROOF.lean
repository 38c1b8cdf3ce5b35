import PyProof.Rows.All
import Wide.All
import OpenK.AllK
import Wide.FinOn
import PyProof.EqAt
import PyProof.EqKinds
import PyProof.TupleCall
import PyProof.TupleKey
import PyProof.NeKinds
import PyProof.ExcArgsOwn
import PyProof.ExcAttrAll.ValueError
import PyProof.IsiH_tuple
import PyProof.Rows.TopTwo
import PyProof.ExcBaseAll.ValueError
import PyProof.RulesAs
import PyProof.RulesDel
import PyProof.Rows.Catch
import PyProof.WalkInts
import PyProof.SumWalkG
import PyProof.Rows.TupAssign
import PyProof.FactsAll.tuple_1
import PyProof.FactsAll.tuple_2
import PyProof.FactsAll.tuple_3
import PyProof.ZipIter
import PyProof.Rows.ZipGen
import PyProof.Draws
import PyProof.EnumMake
import PyProof.LayNew
import OpenK.KTop
import PyProof.DictWalks
import PyProof.ListRange
import PyProof.Rows.SortWalk
import PyProof.Rows.Range3
import PyProof.MinMaxWalk
import PyProof.SetKind
import PyProof.Rows.SetFrom
import PyProof.CollectWalk
import PyProof.FactsAll.set_1
import PyProof.FactsAll.set_2
import PyProof.StrCalls
import PyProof.StrBlock
import PyProof.StrBlockH
import PyProof.FactsAll.list_3
import KE.KMinKey
import PyProof.DictRoadsH
import KE.KLam
import KE.KDictOf
import PyProof.StrWalks
import PyProof.Rows.SortStr
import PyProof.StrCalls2
import PyProof.FString
import PyProof.AttrMissSeq
import KE.KItemsList
import KE.KEqDict
import PyProof.Commute
import Lean
import PySem.Challenge.RW_fourfold_k83_whole_album_twins
set_option Elab.async false
set_option linter.all false
set_option maxRecDepth 100000
set_option linter.all false
noncomputable section
def F3:=@PySem.wpAny_bind
def F4:=@PySem.Heap.get?_push_of_some
def F5:=@List.map_cons
def F6:=@PySem.wpAny_pure
def F7:=@Nat.le_refl
def F8:=@PySem.Heap.lt_size
def F9:=@List.size_toArray
def Ga:=@And.intro
def Gb:=@List.length_cons
def Gc:=@List.getElem?_eq_some_iff
def Ge:=@PySem.Heap.get?_push_size
def Gf:=@Nat.ne_of_lt
def Gg:=@List.length_map
def Gh:=@decide_eq_false
def Gi:=@List.mem_cons
def Gj:=@Bool.and_eq_true
def Gk:=@Nat.le_of_ble_eq_true
def Gm:=@Nat.lt_of_lt_of_le
def Go:=@PySem.sizeLine_eq
def Gp:=@PySem.mem_of_lookup
def Gq:=@List.getElem?_eq_getElem
def Gr:=@List.getElem?_set_self
def Gs:=@List.append_nil
def Gt:=@if_false
def Gu:=@List.getElem?_map
def Gv:=@Bool.false_ne_true
def Gw:=@True.intro
def Gy:=@ite_false
def Gz:=@if_true
def GA:=@congrArg
def GB:=@List.getElem?_set_ne
def GC:=@List.lookup_cons
def GD:=@ite_true
def GF:=@Nat.le_trans
def GG:=@decide_eq_true
def GH:=@List.getElem?_append_right
def GI:=@List.mem_cons_of_mem
def GJ:=@List.getElem?_append_left
def GK:=@List.mem_map
def GM:=@Ne.symm
def GN:=@PySem.wpAny_mono
def GO:=@List.nodup_cons
def GP:=@List.mem_singleton
def GQ:=@Nat.zero_le
def GR:=@PySem.Heap.get?_update_other
def GS:=@List.mem_map_of_mem
def GV:=@List.mem_append_right
def GY:=@List.find?_cons
def GZ:=@List.mem_cons_self
def G1:=@List.length_append
def G2:=@PySem.Heap.size_push
def G3:=@PySem.F.plain_extend_loop
def G4:=@PySem.wpAny_Call_Name_kw
def G5:=@Option.isSome_iff_exists
def G6:=@PySem.AutoSeq1.sub_tuple_tuple
def G7:=@List.filter_cons
def G8:=@List.pairwise_cons
def G9:=@PySem.Around.under_plainId
def Ha:=@PySem.wpAny_truthy_bool
def Hb:=@PyProof.Rows.callWith_type1
def Hc:=@beq_eq_false_iff_ne
def Hd:=@List.map_nil
def He:=@List.all_eq_true
def Hf:=@List.length_replicate
def Hg:=@List.length_filter_le
def Hh:=@PySem.codeAny_builtin
def Hi:=@decide_eq_true_eq
def Hj:=@PySem.wpAny_loadPart_at
def Hk:=@List.length_eq_zero_iff
def Hl:=@beq_iff_eq
def Hm:=@PySem.AutoSeq1.sub_list_list
def Hn:=@Nat.le_of_lt
def Ho:=@List.map_map
def Hq:=@Option.some.inj
def Hr:=@List.length_nil
def Hs:=@List.map_append
def Ht:=@Nat.lt_irrefl
def Hu:=@PySem.plainId_quiet
def Hv:=@List.length_range
def Hw:=@PySem.PassesOwn.leaving
def Hx:=@List.mem_of_getElem?
def Hy:=@PySem.call_meets
def Hz:=@List.drop_eq_getElem_cons
def HA:=@PySem.wpAny_call_entry
def HB:=@List.not_mem_nil
def HC:=@List.getElem?_replicate
def HD:=@Int.eq_ofNat_of_zero_le
def HE:=@PySem.wpAny_holding
def HF:=@List.mem_filter
def HG:=@PySem.wpAny_updateSeq
def HH:=@PySem.F.slot_zip_next
def HI:=@List.drop_eq_nil_of_le
def HJ:=@PySem.codeAny_mono
def HK:=@PySem.F.slot_int_rmul
def HL:=@List.mem_append_left
def HM:=@List.length_take
def HN:=@PySem.AutoSeq1.idx_int
def HP:=@PySem.wpAny_newFunctionEnv_cells
def HQ:=@List.all_cons
def HR:=@PySem.F.excBase_ValueError
def HS:=@List.mem_append
def HU:=@PySem.wpAny_passesOwn
def HV:=@List.of_mem_zip
def HY:=@List.cons.injEq
def HZ:=@PySem.Calls.spliced_cons
def Ia:=@PySem.F.args_tuple_add_2
def Ib:=@Bool.false_eq_true
def Ic:=@PySem.tupleKind_room_in1
def Ie:=@PySem.F.slot_list_getattribute
def Ii:=@PySem.F.entry_tuple_add
def Ij:=@PySem.AutoSeq1.sub_tuple_list
def Ik:=@PySem.AutoSeq1.sub_list_tuple
def Il:=@PySem.F.plainAttrs_list
def Im:=@PySem.wpAny_callSpecial?_slot
def Io:=@PySem.Calls.spliced_nil
def Ip:=@Array.size_append
def Iq:=@Option.some.injEq
def Ir:=@List.nodup_append
def Is:=@PySem.F.slot_tuple_add
def Iu:=@PySem.Calls.callWith_builtin
def Iw:=@List.findIdx?_eq_some_iff_getElem
def Ix:=@List.any_cons
def Iy:=@PySem.codeAny_call_function
def Iz:=@PySem.Heap.get?_update_self
def IA:=@Bool.beq_eq_decide_eq
def IB:=@PySem.wpAny_execs_nil
def IC:=@PySem.wpAny_rule
def ID:=@PySem.Around.frames_deeper
def IE:=@PySem.Calls.evalArgs_plain
def IF:=@List.forIn_cons
def IG:=@Nat.lt_asymm
def IH:=@Option.map_some
def II:=@PySem.F.slot_zip_iter
def IJ:=@PySem.wpAny_typeOf
def IK:=@PySem.wpAny_specialOf
def IL:=@List.eq_nil_of_length_eq_zero
def IM:=@PySem.Value.isStrOf_shape
def IN:=@List.filterMap_cons
def IP:=@PySem.W.plainGet_of
def IQ:=@PySem.F.entry_extend_loop
def IS:=@PySem.wpAny_seqItems
def IT:=@List.nodup_nil
def IU:=@PyProof.Rows.assignInOrder_cons
def IV:=@List.mem_filterMap
def IW:=@List.lookup_append
def IZ:=@PySem.Paired.length
def Ja:=@PySem.Calls.Name_function_global
def Jb:=@Bool.or_false
def Jc:=@PySem.F.slot_tuple_iterator_next
def Jd:=@PySem.wpAny_newObj_type
def Je:=@List.Pairwise.nil
def Jf:=@List.append_assoc
def Jg:=@PySem.wpAny_pyIter_list
def Jh:=@Option.isSome_map
def Ji:=@List.filter_congr
def Jj:=@PySem.wpAny_call
def Jk:=@PyProof.Rows.Subscript_
def Jl:=@PySem.typeIs_int
def Jm:=@PySem.wpAny_binaryOp_repeat_ref
def Jn:=@PySem.F.slot_dict_delitem
def Jo:=@Nat.lt_succ_self
def Jp:=@List.getElem?_take_of_lt
def Jq:=@PySem.concat_meets
def Jr:=@PySem.noFill_tuple_add
def Js:=@Option.getD_none
def Jt:=@PySem.wpAny_getItem_list_slice
def Ju:=@or_false
def Jv:=@Nat.add_zero
def Jw:=@List.cons_append
def Jx:=@List.map_snd_zip
def Jy:=@Nat.le_add_right
def Jz:=@PySem.F.args_int_rmul_2
def JA:=@PySem.F.plainAttrs_dict
def JB:=@PySem.F.plain_list_iadd
def JC:=@PySem.F.slot_dict_items
def JD:=@List.nil_append
def JE:=@Bool.eq_iff_iff
def JF:=@PySem.wpAny_ite_split
def JG:=@PySem.wpAny_pyNext_list_item
def JH:=@Nat.le_succ
def JI:=@PyProof.Rows.subscriptTail_builtinR
def JJ:=@PySem.F.slot_int_index
def JK:=@PySem.F.entry_int_rmul
def JL:=@PySem.wpAny_letGo
def JM:=@List.mem_range
def JN:=@PySem.wpAny_isTrue_Compare1
def JO:=@PySem.wpAny_bindName
def JP:=@PySem.wpAny_pyNext_list_end
def JQ:=@Bool.and_false
def JR:=@List.getElem?_eq_none
def JS:=@PySem.F.fills_int_mul
def JT:=@List.length_singleton
def JV:=@PySem.F.typeOf_object_class
def JW:=@PySem.callType_codes
def JY:=@PySem.F.slot_dict_pop
def JZ:=@PySem.builtinLookup_eq_fast
def J0:=@PySem.Obj.isFreed_of_fields
def J8:=@PySem.seq_tuple_add
def J9:=@PySem.evalPart_none
def Ka:=@Bool.not_true
def Kb:=@PySem.F.slot_gs_get
def Kc:=@PySem.wpAny_onRaise
def Kd:=@Nat.ne_of_gt
def Ke:=@PySem.name_of_addr
def Kf:=@PySem.codeAny_func
def Kg:=@PySem.W.looks_findIn
def Kh:=@PySem.call_meetsIn
def Ki:=@List.all_nil
end
section
open PySem PySem.Spec
abbrev KU:=Value->Shared->Prop
abbrev KW:=Str->Option Value
abbrev La:=Nat->Addr
abbrev Lb:=Nat->Nat->Int
abbrev Lg:=Shared->Prop
abbrev Ll:=List (Addr×Obj)
abbrev Lm:=Option Value
abbrev Lo:=List Stmt
abbrev Lp:=List Expr
end
open PySem.W (TabsAt callWith_K cellsFrom_some codeIn codeRec_of emptyDict envX excIn fnOf hideAll instObj isFn keepIn kia_one kitOne kla_fn kla_obj lookIn makesIn methodCall_KW mg_none_of mg_of nsIn plainOver tabIn tabObj takerIn Frag subIn findIn plainGet OpenLaw)
noncomputable section
namespace L2
open PySem PySem.Spec PyProof.Rows
section
abbrev Key:=Sum Int Str
def keyIs:Key->Value->Bool
 | .inl k,v=>Value.isInt k v
 | .inr x,v=>Value.isStrOf x v
def keyH (w:World):Key->Int
 | .inl k=>hashInt k
 | .inr x=>hashStr w x
theorem aH:∀ {k:Key} {v:Value},keyIs k v=true->(∃ i t,k=Sum.inl i/\v=Value.int i t)\/(∃ x t,k=Sum.inr x/\v=Value.str x t)
 | .inl i,v,h=>by
  obtain⟨t,e⟩:=Value.isInt_shape h;exact .inl ⟨i,t,rfl,e⟩
 | .inr x,v,h=>by
  obtain⟨t,e⟩:=IM h;exact .inr ⟨x,t,rfl,e⟩
theorem vB (i:Int)(t:Tok):keyIs (.inl i) (.int i t)=true:=by simp[keyIs,Value.isInt]
theorem vC (x:Str)(t:Tok):keyIs (.inr x) (.str x t)=true:=by simp[keyIs,Value.isStrOf]
theorem CL (a b:Int):decide ((Sum.inl a:Key)=Sum.inl b)=(a==b):=by grind
theorem CM (a b:Str):decide ((Sum.inr a:Key)=Sum.inr b)=decide (a=b):=by grind
theorem CN (a:Int)(b:Str):decide ((Sum.inl a:Key)=Sum.inr b)=false:=Gh (λq=>nomatch q)
theorem CO (a:Str)(b:Int):decide ((Sum.inr a:Key)=Sum.inl b)=false:=Gh (λq=>nomatch q)
def mixKind (prog:Program)(w:World):PySem.KeyKind prog w Key where
 is:=keyIs
 hash:=keyH w
 inj:=λv a b ha hb=>by
  rcases aH ha with ⟨i,t,rfl,rfl⟩ | ⟨x,t,rfl,rfl⟩
  ·rcases aH hb with ⟨j,u,rfl,e⟩ | ⟨y,u,rfl,e⟩
   ·injection e with e1 _;rw[e1]
   ·exact nomatch e
  ·rcases aH hb with ⟨j,u,rfl,e⟩ | ⟨y,u,rfl,e⟩
   ·exact nomatch e
   ·injection e with e1 _;rw[e1]
 byValue:=λk v h=>by
  rcases aH h with ⟨i,t,rfl,rfl⟩ | ⟨x,t,rfl,rfl⟩<;>rfl
 pyHash:=λhv h=>by
  rcases aH hv with ⟨i,t,rfl,rfl⟩ | ⟨x,t,rfl,rfl⟩
  ·exact wpAny_pyHash_int h
  ·exact wpAny_pyHash_str h
 eqBool:=λhu hv h=>by
  rcases aH hu with ⟨i,t,rfl,rfl⟩ | ⟨x,t,rfl,rfl⟩
  ·rcases aH hv with ⟨j,u,rfl,rfl⟩ | ⟨y,u,rfl,rfl⟩
   ·rw[CL]at h;exact wpAny_eqBool_int h
   ·rw[CN]at h;exact SeqAt.EqAt.int_str i t y u _ _ _ _ h
  ·rcases aH hv with ⟨j,u,rfl,rfl⟩ | ⟨y,u,rfl,rfl⟩
   ·rw[CO]at h;exact SeqAt.EqAt.str_int x t j u _ _ _ _ h
   ·rw[CM]at h;exact wpAny_eqBool_str h
 «strs»:=λk x t v h=>by
  rcases aH h with ⟨i,u,rfl,e⟩ | ⟨y,u,rfl,e⟩
  ·exact nomatch e
  ·injection e with e1 _
   subst e1;cases v<;>rfl
theorem qD (prog:Program)(w:World)(i:Int)(t:Tok):(mixKind prog w).is (.inl i) (.int i t)=true:=vB i t
theorem qF (prog:Program)(w:World)(x:Str)(t:Tok):(mixKind prog w).is (.inr x) (.str x t)=true:=vC x t
end
section
variable {a b x e:Addr}{h h':Heap}{P:Program}{w:World}{its:Array Value}
inductive V where
 | non | bl (b:Bool) | int (i:Int) | str (x:Str) | byt (b:Array UInt8) | flt (b:UInt64) | ref (a:Addr) | ty (n:String)
 deriving DecidableEq
def RelV:V->Value->Prop
 | .non,u=>u=Value.none
 | .bl b,u=>u=Value.bool b
 | .int i,u=>∃ t,u=Value.int i t
 | .str x,u=>∃ t,u=Value.str x t
 | .byt b,u=>∃ t,u=Value.bytes b t
 | .flt b,u=>∃ t,u=Value.float b t
 | .ref a,u=>u=Value.ref a
 | .ty n,u=>u=Value.type n
abbrev Vals:List V->List Value->Prop:=Paired RelV
theorem Vals.length {xs:List V}{us:List Value}(r:Vals xs us):xs.length=us.length:=IZ r
theorem Vals.get:∀ {xs:List V} {us:List Value} {i:Nat} {x:V},Vals xs us->xs[i]?=some x->∃ u,us[i]?=some u/\RelV x u
 | _,_,_,_,.nil,e=>by simp at e
 | _,_,0,_,.cons r _,e=>by simp at e;subst e;exact⟨_,rfl,r⟩
 | _,_,i+1,x,.cons _ t,e=>by
  obtain⟨u,h1,h2⟩:=Vals.get t (by simpa using e);exact⟨u,by simpa using h1,h2⟩
theorem Vals.append:∀ {xs ys:List V} {us ws:List Value},Vals xs us->Vals ys ws->Vals (xs++ys) (us++ws)
 | _,_,_,_,.nil,s=>s
 | _,_,_,_,.cons r t,s=>.cons r (Vals.append t s)
theorem Vals.take:∀ {xs:List V} {us:List Value} (n:Nat),Vals xs us->Vals (xs.take n) (us.take n)
 | _,_,0,_=>.nil
 | _,_,_+1,.nil=>.nil
 | _,_,n+1,.cons r t=>.cons r (Vals.take n t)
theorem Vals.drop:∀ {xs:List V} {us:List Value} (n:Nat),Vals xs us->Vals (xs.drop n) (us.drop n)
 | _,_,0,r=>r
 | _,_,_+1,.nil=>.nil
 | _,_,n+1,.cons _ t=>Vals.drop n t
def RelO:Option V->Option Value->Prop
 | some v,some u=>RelV v u
 | none,none=>True
 | _,_=>False
def KV {κ:Type}:List (κ×V)->List (κ×Value)->Prop:=Paired λ(p:κ×V) (q:κ×Value)=>p.1=q.1/\RelV p.2 q.2
def kV:Key->V
 | .inl i=>.int i
 | .inr x=>.str x
abbrev Ln:=List (Str×V)
inductive HO where
 | lst (xs:List V)
 | tup (xs:List V)
 | dK (Gn:List (Key×V)) | dT (Gn:List (List Key×V))
 | set (S:Int->Bool) (n:Nat)
 | ins (C dx:Addr) (fs:Ln)
 | own (x:Addr)
 | xd (fs:Ln)
 | met (f x:Addr)
 | rng (lo hi:Int)
 | frz (o:Obj) (u:HO)
 | tbl (ps:Array Value)
 | ext (φ:Heap->Prop)
variable {o u:HO}
abbrev Hp:=Addr->Option HO
variable {H:Hp}
def upd (H:Hp)(a:Addr)(o:HO):Hp:=λb=>if b=a then some o else H b
theorem ah :upd H a o a=some o:=by unfold upd;rw[if_pos rfl]
theorem ae (h:b≠a):upd H a o b=H b:=by unfold upd;rw[if_neg h]
theorem El (h:H a=some o)(h':H b=some u)(d:o≠u):a≠b:=by grind
theorem aE (h:H a=some o)(h':H b=none):a≠b:=by grind
def TupO (h:Heap)(a:Addr)(its:Array Value):Prop:=∃ o,h.get? a=some o/\o.cls=.type "tuple" /\ o.dict=none/\∃ n,o.data=.seq its n
theorem TupO.is (p:TupO h a its):IsTup h a its:=let ⟨o,e,c,_,d⟩:=p;⟨o,e,c,d⟩
theorem TupO.lt (p:TupO h a its):a < h.objs.size:=p.is.lt
theorem TupO.new (h:Heap)(its:Array Value):TupO (h.push { cls:=.type "tuple",data:=.seq its }) h.objs.size its:=⟨_,Ge _ rfl,rfl,rfl,_,rfl⟩
section
variable (P:Program)(w:World)
def ObjOk (H:Hp)(h:Heap)(a:Addr):HO->Prop
 | .lst xs=>xs.length<=sizeLine/\∃ (its:List Value) (n:Nat),Vals xs its/\h.get? a=some { cls:=.type "list",data:=.seq its.toArray n }
 | .tup xs=>xs.length<=sizeLine/\∃ its:List Value,Vals xs its/\TupO h a its.toArray
 | .dK Gn=>Gn.length<=sizeLine/\(a==sysModules)=false/\∃ vs,KV Gn vs/\h.DictOf (mixKind P w) a vs
 | .dT Gn=>Gn.length<=sizeLine/\(a==sysModules)=false/\∃ xs:List (List Key×Addr×Value),
   Paired (λ(p:List Key×V) (q:List Key×Addr×Value)=>p.1=q.1/\H q.2.1=some (.tup (p.1.map kV))/\RelV p.2 q.2.2) Gn xs /\
   ∃ o es ep,h.get? a=some o/\o.ExactDict/\o.data=.dict es ep/\es.toList=xs.map (entryOfKey (tupleKind (mixKind P w)))/\(xs.map (·.1)).Nodup
 | .set S n=>h.SetOf (intKind P w) a S n
 | .ins C dx fs=>H dx=some (.own a)/\fs.length<=1000/\dx≠a/\h.get? a=some (instObj C dx) /\
   ∃ mA,h.Ns1 dx mA/\(∀ f,RelO (fs.lookup f) (mA f))/\PySem.Within mA (fs.map (·.1))
 | .own _=>∃ o,h.get? a=some o
 | .xd fs=>∃ mA,h.Ns1 a mA/\∀ f,RelO (fs.lookup f) (mA f)
 | .rng lo hi=>∃ t u v,h.get? a=some { cls:=.type "range",data:=.fields #[.int lo t,.int hi u,.int 1 v] }
 | .frz o u=>h.get? a=some o/\ObjOk H h a u
 | .tbl ps=>h.get? a=some { cls:=.none,data:=.fields ps }
 | .met f x=>h.get? a=some (PySem.W.methodObj (.ref f) (.ref x))
 | .ext φ=>φ h/\(∃ o,h.get? a=some o)/\∀ h1 h2:Heap,φ h1->(∀ o,h1.get? a=some o->h2.get? a=some o)->φ h2
def HOk (H:Hp)(h:Heap):Prop:=∀ a o,H a=some o->ObjOk P w H h a o
end
section
variable {H':Hp}
theorem ObjOk.lt (x:ObjOk P w H h a o):a < h.objs.size:=by
 cases o with
 | lst xs=>obtain⟨_,_,_,_,e⟩:=x;exact F8 e
 | tup xs=>obtain⟨_,_,_,p⟩:=x;exact p.lt
 | dK Gn=>obtain⟨_,_,_,_,o,_,_,e,_⟩:=x;exact F8 e
 | dT Gn=>obtain⟨_,_,_,_,o,_,_,e,_⟩:=x;exact F8 e
 | set S n=>obtain⟨o,_,_,_,e,_⟩:=x;exact F8 e
 | ins C dx fs=>obtain⟨_,_,_,e,_⟩:=x;exact F8 e
 | own y=>obtain⟨_,e⟩:=x;exact F8 e
 | xd fs=>obtain⟨_,⟨_,_,_,e,_⟩,_⟩:=x;exact F8 e
 | rng lo hi=>obtain⟨_,_,_,e⟩:=x;exact F8 e
 | frz ob u=>obtain⟨e,_⟩:=x;exact F8 e
 | tbl ps=>exact F8 (show h.get? a=some _ from x)
 | met f y=>exact F8 (show h.get? a=some _ from x)
 | ext φ=>obtain⟨_,⟨_,e⟩,_⟩:=x;exact F8 e
theorem Paired.mapP {α β:Type}{F G:α->β->Prop}:∀ {l₁:List α} {l₂:List β},Paired F l₁ l₂->(∀ a b,F a b->G a b)->Paired G l₁ l₂
 | _,_,.nil,_=>.nil
 | _,_,.cons r t,f=>.cons (f _ _ r) (Paired.mapP t f)
theorem ObjOk.stay (x:ObjOk P w H h a o)(k:∀ b u,(b=a\/H b=some (.own a))->h.get? b=some u->h'.get? b=some u)
  (ho:∀ b,H b=some (.own a)->H' b=some (.own a)) (ht:∀ b xs,H b=some (.tup xs)->H' b=some (.tup xs)):ObjOk P w H' h' a o:=by
 induction o with
 | lst xs=>obtain⟨z,its,n,r,e⟩:=x;exact⟨z,its,n,r,k _ _ (.inl rfl) e⟩
 | tup xs=>obtain⟨z,its,r,ob,e,c⟩:=x;exact⟨z,its,r,ob,k _ _ (.inl rfl) e,c⟩
 | dK Gn=>obtain⟨z,y,vs,r,ob,es,ep,e,c⟩:=x;exact⟨z,y,vs,r,ob,es,ep,k _ _ (.inl rfl) e,c⟩
 | dT Gn =>
  obtain⟨z,y,xs,r,ob,es,ep,e,c⟩:=x;exact⟨z,y,xs,Paired.mapP r λp q z=>⟨z.1,ht _ _ z.2.1,z.2.2⟩,ob,es,ep,k _ _ (.inl rfl) e,c⟩
 | set S n=>obtain⟨ob,es,ep,t,e,c⟩:=x;exact⟨ob,es,ep,t,k _ _ (.inl rfl) e,c⟩
 | ins C dx fs =>
  obtain⟨d,z,ne,e,mA,⟨od,es,ep,e2,c⟩,r⟩:=x;exact⟨ho _ d,z,ne,k _ _ (.inl rfl) e,mA,⟨od,es,ep,k _ _ (.inr d) e2,c⟩,r⟩
 | own y=>obtain⟨ob,e⟩:=x;exact⟨ob,k _ _ (.inl rfl) e⟩
 | xd fs=>obtain⟨mA,⟨od,es,ep,e,c⟩,r⟩:=x;exact⟨mA,⟨od,es,ep,k _ _ (.inl rfl) e,c⟩,r⟩
 | rng lo hi=>obtain⟨t,u,v,e⟩:=x;exact⟨t,u,v,k _ _ (.inl rfl) e⟩
 | frz ob u ih=>obtain⟨e,q⟩:=x;exact⟨k _ _ (.inl rfl) e,ih q⟩
 | tbl ps =>
  have e:=x;exact k a _ (.inl rfl) e
 | met f y =>
  have e:=x;exact k a _ (.inl rfl) e
 | ext φ=>obtain⟨p,⟨o,e⟩,st⟩:=x;exact⟨st _ _ p λo q=>k _ _ (.inl rfl) q,⟨o,k _ _ (.inl rfl) e⟩,st⟩
theorem HOk.lt (x:HOk P w H h)(e:H a=some o):a < h.objs.size:=(x a o e).lt
theorem HOk.fresh (x:HOk P w H h)(e:h.objs.size<=a):H a=none:=by
 cases q:H a with
 | none=>rfl
 | some u=>exact absurd (Gm (x.lt q) e) (Ht _)
theorem HOk.kept (x:HOk P w H h)(k:∀ b u,h.get? b=some u->h'.get? b=some u):HOk P w H h':=λa o e =>
 (x a o e).stay (λb u _ q=>k b u q) (λ_ q=>q) λ_ _ q=>q
theorem HOk.laid (x:HOk P w H h)(k:∀ b u,h.get? b=some u->h'.get? b=some u)(hp:h.objs.size<=a)(new:ObjOk P w (upd H a o) h' a o):HOk P w (upd H a o) h':=λb u e=>by
 have hn:=x.fresh hp;by_cases hb:b=a
 ·subst hb;rw[ah]at e;cases e;exact new
 ·rw[ae hb]at e;exact(x b u e).stay (λc v _ q=>k c v q) (λc q=>by rw[ae (aE q hn)];exact q) λc xs q=>by rw[ae (aE q hn)];exact q
end
def Rd (H:Hp)(a:Addr)(u:HO):Prop:=H a=some u\/∃ o,H a=some (.frz o u)
theorem Rd.of (h:H a=some u):Rd H a u:=.inl h
theorem Rd.ok (r:Rd H a u)(x:HOk P w H h):ObjOk P w H h a u:=by
 rcases r with r | ⟨o,r⟩
 ·exact x a u r
 ·obtain⟨_,q⟩:=x a _ r;exact q
def Mut:Option HO->Prop
 | some (.lst _)=>True
 | some (.dK _)=>True
 | some (.dT _)=>True
 | some (.set _ _)=>True
 | some (.ins _ _ _)=>True
 | some (.ext _)=>True
 | _=>False
section
variable {o':HO}
theorem HOk.write (ok:HOk P w H h)(mu:Mut (H x))(he:e=x\/H e=some (.own x))(k:∀ b u,b≠e->h.get? b=some u->h'.get? b=some u)(heo:∃ u,h'.get? e=some u)
  (new:ObjOk P w (upd H x o') h' x o'):HOk P w (upd H x o') h':=λb u q=>by
 have nown:∀ c y,H c=some (.own y)->c≠x:=λc y r z=>by subst z;rw[r]at mu;exact mu
 have ntup:∀ c xs,H c=some (.tup xs)->c≠x:=λc xs r z=>by subst z;rw[r]at mu;exact mu
 by_cases hb:b=x
 ·subst hb;rw[ah]at q;cases q;exact new
 ·rw[ae hb]at q;by_cases hbe:b=e
  ·have q':H b=some (.own x):=by
    grind
   rw[q]at q';cases q';obtain⟨v,hv⟩:=heo;exact⟨v,by rw[hbe];exact hv⟩
  ·refine(ok b u q).stay (λc v hc r=>k c v ?_ r) (λc r=>by rw[ae (nown c b r)];exact r) λc xs r=>by rw[ae (ntup c xs r)];exact r
   grind
end
structure Un (fs ex:List Addr)(H H':Hp)(h h':Heap):Prop where
 keep:∀ b o,h.get? b=some o->H b=none->b∉fs->b∉ex->h'.get? b=some o
 slot:∀ b o,h.get? b=some o->H b=none->b∈fs->b∉ex->∃ sl,h'.get? b=some { o with slots:=sl }
 free:∀ b o,h.get? b=some o->H b=none->b∉ex->H' b=none
 there:∀ b o,h.get? b=some o->b∉ex->∃ o',h'.get? b=some o'
 tups:∀ b xs,H b=some (.tup xs)->H' b=some (.tup xs)
 frzs:∀ b o u,H b=some (.frz o u)->H' b=some (.frz o u)
 tbls:∀ b ps,H b=some (.tbl ps)->∃ more,H' b=some (.tbl (ps++more))
section
variable {fs fs' ex ex':List Addr}{H1 H2:Hp}{h1 h2:Heap}
theorem Un.any (u:Un fs ex H H1 h h1){ob:Obj}(q:h.get? b=some ob)(n:H b=none)(hx:b∉ex):∃ sl,h1.get? b=some { ob with slots:=sl }:=by
 by_cases hb:b∈fs
 ·exact u.slot b ob q n hb hx
 ·exact⟨ob.slots,u.keep b ob q n hb hx⟩
theorem Un.trans (a:Un fs ex H H1 h h1)(b:Un fs ex H1 H2 h1 h2):Un fs ex H H2 h h2 where
 keep:=λc ob q n hc hx=>b.keep c ob (a.keep c ob q n hc hx) (a.free c ob q n hx) hc hx
 slot:=λc ob q n hc hx=>by
  obtain⟨sl,e1⟩:=a.slot c ob q n hc hx;obtain⟨sl',e2⟩:=b.slot c _ e1 (a.free c ob q n hx) hc hx;exact⟨sl',e2⟩
 free:=λc ob q n hx=>by
  obtain⟨o',e1⟩:=a.there c ob q hx;exact b.free c o' e1 (a.free c ob q n hx) hx
 there:=λc ob q hx=>by
  obtain⟨o',e1⟩:=a.there c ob q hx;exact b.there c o' e1 hx
 tups:=λc xs q=>b.tups c xs (a.tups c xs q)
 frzs:=λc ob xs q=>b.frzs c ob xs (a.frzs c ob xs q)
 tbls:=λc ps q=>by
  obtain⟨m1,e1⟩:=a.tbls c ps q;obtain⟨m2,e2⟩:=b.tbls c _ e1;exact⟨m1++m2,by rw[e2,Array.append_assoc]⟩
theorem Un.kept (k:∀ b u,h.get? b=some u->h'.get? b=some u):Un fs ex H H h h' :=
 ⟨λb ob q _ _ _=>k b ob q,λb ob q _ _ _=>⟨ob.slots,k b ob q⟩,λ_ _ _ n _=>n,λb ob q _=>⟨ob,k b ob q⟩,λ_ _ q=>q,λ_ _ _ q=>q,λ_ ps q=>⟨#[],by rw[q];simp⟩⟩
theorem Un.refl:Un fs ex H H h h:=Un.kept λ_ _ q=>q
theorem Un.laid (k:∀ b u,h.get? b=some u->h'.get? b=some u)(hp:h.objs.size<=a)(hn:H a=none):Un fs ex H (upd H a o) h h' where
 keep:=λb u q _ _ _=>k b u q
 slot:=λb u q _ _ _=>⟨u.slots,k b u q⟩
 free:=λb u q n _=>by rw[ae (Gf (Gm (F8 q) hp))];exact n
 there:=λb u q _=>⟨u,k b u q⟩
 tups:=λb xs q=>by rw[ae (aE q hn)];exact q
 frzs:=λb u xs q=>by rw[ae (aE q hn)];exact q
 tbls:=λb ps q=>⟨#[],by rw[ae (aE q hn),q];simp⟩
theorem Un.write (mu:Mut (H x))(he:e=x\/H e=some (.own x))(k:∀ b u,b≠e->h.get? b=some u->h'.get? b=some u)(heo:∃ u,h'.get? e=some u):Un fs ex H (upd H x o) h h':=by
 have hx:∀ b,H b=none->b≠x:=λb n z=>by subst z;rw[n]at mu;exact mu
 have hb:∀ b,H b=none->b≠e:=λb n z=>by
  subst z;rcases he with r | r
  ·exact hx b n r
  ·rw[n]at r;cases r
 have hm:∀ b u,H b=some u->¬ Mut (some u)->b≠x:=λb u q nm z=>by subst z;rw[q]at mu;exact nm mu
 refine⟨λb u q n _ _=>k b u (hb b n) q,λb u q n _ _=>⟨u.slots,k b u (hb b n) q⟩,λb u q n _=>by rw[ae (hx b n)];exact n,λb u q _=>?_,
  λb xs q=>by rw[ae (hm b _ q λz=>z)];exact q,λb u xs q=>by rw[ae (hm b _ q λz=>z)];exact q,λb ps q=>⟨#[],by rw[ae (hm b _ q λz=>z),q];simp⟩⟩
 by_cases hbe:b=e
 ·subst hbe;exact heo
 ·exact⟨u,k b u hbe q⟩
end
def trk (h:Heap)(H:Hp):List Addr:=(List.range h.objs.size).filter λa=>(H a).isSome
def hidT (h:Heap)(H:Hp):Heap:=hideAll h (trk h H)
theorem vD (h:Heap)(H:Hp):(hidT h H).objs.size=h.objs.size:=PySem.W.hideAll_size _ _
theorem xj {o:Obj}(e:h.get? b=some o)(n:H b=none):(hidT h H).get? b=some o :=
 PySem.W.hideAll_get _ e λhm=>by
  have q:=(HF.mp hm).2;rw[n]at q;simp at q
theorem Ao {o:Obj}(e:(hidT h H).get? b=some o):h.get? b=some o/\H b=none:=by
 have e':=PySem.W.of_hideAll (trk h H) e;refine⟨e',?_⟩;cases q:H b with
 | none=>rfl
 | some x =>
  have hm:b∈trk h H:=HF.mpr ⟨JM.mpr (F8 e'),by simp[q]⟩;have z:(hidT h H).get? b=none:=PySem.W.hideAll_none (trk h H) hm;rw[z]at e;cases e
def allNews (g h:Heap)(L:Addr):Ll:=(List.range h.objs.size).filterMap λa=>if a=L\/(g.get? a).isSome=true then none else (h.get? a).map λo=>(a,o)
def rest (g h:Heap)(L d:Addr):Ll:=(allNews g h L).filter λp=>decide (p.1≠d)
end
section
variable {t' i:Nat}{ch:List Addr}{x:Str}{M:Model}{A:Around}{E:KU}{s:Shared}{a:Addr}{g':Array GenState}{d':Drawn}{u:Value}
structure Mod (K:Frag)(mg:KW)(base:Heap):Prop where
 kin:K.In base
 glob:base.Ns mainGlobals mg
 blt:∃ mb,base.Ns builtinsNs mb/\∀ x:Str,x ≠ "__name__" -> mb x=bootBuiltins x
 nolimit:base.NoLimit
structure Cx where
 prog:Program
 w:World
 K:Frag
 mg:KW
 base:Heap
 A:Around
 N:List Str
 s₀:Shared
 H₀:Hp
 env:Env
 outer:List Env
 stack:List Env
 ex:List Addr
 fn:Str->Bool
 calm:Bool
 pn:Ll
 xe:KU
def frs (l:List Env):List Addr:=l.filterMap (·.frame)
abbrev Cx.fs (X:Cx):List Addr:=frs X.outer
def Vis (sc:Scope)(x:Str):Prop:=sc.names.lookup x=some .local\/sc.names.lookup x=some .cell\/sc.names.lookup x=some .free
def Loc (sc:Scope)(x:Str):Prop:=sc.names.lookup x=some .local\/sc.names.lookup x=some .cell
def Look (env:Env)(h:Heap)(m:KW)(x:Str)(u:Value):Prop :=
 (env.kindOf x=some .local/\m x=some u)\/((env.kindOf x=some .cell\/env.kindOf x=some .free)/\∃ c,env.cells.lookup x=some c/\h.IsCell c (some u))
structure Cx.Ok (X:Cx):Prop where
 mod:Mod X.K X.mg X.base
 kind:X.env.scope.kind=.function
 glob:X.env.globals=mainGlobals
 blt:X.env.builtins=builtinsNs
 above:X.s₀.heap.objs.size<=X.env.locals
 inj:∀ x y c,X.env.cells.lookup x=some c->X.env.cells.lookup y=some c->x=y
 has:∀ x,(X.env.kindOf x=some .cell\/X.env.kindOf x=some .free)->∃ c,X.env.cells.lookup x=some c
 cab:∀ x c,X.fn x=true->X.env.cells.lookup x=some c->X.s₀.heap.objs.size<=c
 hd:X.calm=true->X.A.handled=none
 frames:X.A.frames=some X.stack
 stk:X.stack=X.outer\/(X.stack=X.env::X.outer/\X.env.frame=some X.env.locals)
 exf:∀ b∈X.ex,b≠X.env.locals/\∀ x c,X.env.cells.lookup x=some c->c≠b
 bs:∀ b o,X.base.get? b=some o->X.s₀.heap.get? b=some o/\X.H₀ b=none
 bsz:X.base.objs.size<=X.s₀.heap.objs.size
 noex:∀ b o,X.base.get? b=some o->b∉X.ex
 exfs:∀ b∈X.ex,b∉X.fs
 funs:X.s₀.heap.FunFrames X.base X.outer
 frf:∀ b∈X.fs,X.H₀ b=none
structure Inv (X:Cx)(am:Ll)(σ:List (Option V))(H:Hp)(s:Shared):Prop where
 ok:X.Ok
 os:s.os=X.s₀.os
 bare:AllBare s.gens
 base:Un X.fs X.ex X.H₀ H X.s₀.heap s.heap
 loc:∃ m,s.heap.Ns X.env.locals m/\∀ (i:Nat) (x:Str) (v:V),X.N[i]?=some x->σ[i]?=some (some v)->Vis X.env.scope x->∃ u,RelV v u/\Look X.env s.heap m x u
 cell:∀ x c,X.env.cells.lookup x=some c->∃ v,s.heap.IsCell c v
 free:H X.env.locals=none
 freeC:∀ x c,X.env.cells.lookup x=some c->H c=none
 pin:∀ p∈X.pn++am,s.heap.get? p.1=some p.2/\H p.1=none/\p.1≠X.env.locals/\p.1∉X.fs/\∀ v,p.2.data≠.cell v
 hok:HOk X.prog X.w H s.heap
 len:σ.length=X.N.length
section
variable {X:Cx}{am:Ll}{σ:List (Option V)}{H H':Hp}{h':Heap}
theorem Cx.Ok.nofr (ok:X.Ok){b:Addr}{o:Obj}(e:X.base.get? b=some o):b∉X.fs:=λhb=>by
 have:=(ok.funs.mem hb).1
 grind
theorem Inv.bs (I:Inv X am σ H s):∀ b o,X.base.get? b=some o->s.heap.get? b=some o/\H b=none:=λb o e =>
 ⟨I.base.keep b o (I.ok.bs b o e).1 (I.ok.bs b o e).2 (I.ok.nofr e) (I.ok.noex b o e),I.base.free b o (I.ok.bs b o e).1 (I.ok.bs b o e).2 (I.ok.noex b o e)⟩
theorem Inv.bk (I:Inv X am σ H s):∀ b o,X.base.get? b=some o->s.heap.get? b=some o:=λb o e=>(I.bs b o e).1
theorem Inv.mod (I:Inv X am σ H s):Mod X.K X.mg X.base:=I.ok.mod
theorem Inv.kIn (I:Inv X am σ H s):X.K.In s.heap:=I.ok.mod.kin.keeps I.bk
theorem Inv.nolimit (I:Inv X am σ H s):s.heap.NoLimit:=I.ok.mod.nolimit.keeps I.bk
theorem Inv.lt (I:Inv X am σ H s):X.env.locals < s.heap.objs.size:=let ⟨_,hn,_⟩:=I.loc;hn.lt
theorem Inv.sz (I:Inv X am σ H s):X.s₀.heap.objs.size<=s.heap.objs.size:=GF I.ok.above (Hn I.lt)
theorem Inv.nofs (I:Inv X am σ H s)(h:s.heap.objs.size<=a):a∉X.fs:=λhb=>by
 obtain⟨_,o,ho,_⟩:=I.ok.funs.mem hb;exact absurd (Gm (F8 ho) (GF I.sz h)) (Ht _)
theorem Inv.cne (I:Inv X am σ H s):∀ x c,X.env.cells.lookup x=some c->c≠X.env.locals:=λx c e z=>by
 obtain⟨v,o,ho,hd⟩:=I.cell x c e;obtain⟨m,⟨o',es,ep,ho',hd',_⟩,_⟩:=I.loc
 grind
theorem Inv.funs (I:Inv X am σ H s):s.heap.FunFrames X.base X.outer:=by
 have all:∀ (l:List Env),(∀ b∈frs l,b∈X.fs)->X.s₀.heap.FunFrames X.base l->s.heap.FunFrames X.base l:=by
  intro l
  induction l with
  | nil=>intro _ _;trivial
  | cons env r ih =>
   intro hs hl;obtain⟨hk,⟨L,o,hf,hn,ho,hd⟩,hr⟩:=hl;have hL:L∈X.fs:=hs L (by unfold frs;rw[IN,hf];exact GZ);obtain⟨sl,e⟩:=I.base.slot L o ho (I.ok.frf L hL) hL λz=>I.ok.exfs L z hL
   exact⟨hk,⟨L,_,hf,hn,e,hd⟩,ih (λb hb=>hs b (by unfold frs;rw[IN,hf];exact GI _ hb)) hr⟩
 exact all X.outer (λ_ hb=>hb) I.ok.funs
theorem Inv.stack (I:Inv X am σ H s):s.heap.FunFrames X.base X.stack:=by
 rcases I.ok.stk with e | ⟨e,hf⟩
 ·rw[e];exact I.funs
 ·rw[e];obtain⟨m,hn,_⟩:=I.loc;refine .cons (by rw[I.ok.kind];decide) hf hn ?_ I.funs;exact Heap.get?_none_of_le (GF I.ok.bsz I.ok.above)
theorem Inv.stkSub (I:Inv X am σ H s):∀ b∈frs X.stack,b∈X.env.locals::X.fs:=λb hb=>by
 rcases I.ok.stk with e | ⟨e,hf⟩
 ·grind
 ·rw[e]at hb;unfold frs at hb;rw[IN,hf]at hb;exact hb
theorem Inv.stkFree (I:Inv X am σ H s):∀ b∈frs X.stack,H b=none:=λb hb=>by
 rcases Gi.mp (I.stkSub b hb) with e | hb
 ·rw[e];exact I.free
 ·obtain⟨_,o,ho,_⟩:=I.ok.funs.mem hb;exact I.base.free b o ho (I.ok.frf b hb) λz=>I.ok.exfs b z hb
theorem Inv.step (I:Inv X am σ H s)
  (hch:∀ b∈ch,(b∈X.ex\/X.s₀.heap.objs.size<=b)/\b≠X.env.locals/\(∀ x c,X.env.cells.lookup x=some c->c≠b)/\∀ p∈X.pn++am,p.1≠b)
  (keep:∀ b o,b≠X.env.locals->b∉X.fs->b∉ch->s.heap.get? b=some o->H b=none->h'.get? b=some o)
  (slot:∀ b o,b≠X.env.locals->b∈X.fs->b∉ch->s.heap.get? b=some o->H b=none->∃ sl,h'.get? b=some { o with slots:=sl }) (free:∀ b o,b∉ch->s.heap.get? b=some o->H b=none->H' b=none)
  (there:∀ b o,b∉ch->s.heap.get? b=some o->∃ o',h'.get? b=some o')
  (tups:∀ b xs,H b=some (.tup xs)->H' b=some (.tup xs)) (frzs:∀ b o u,H b=some (.frz o u)->H' b=some (.frz o u)) (tbls:∀ b ps,H b=some (.tbl ps)->∃ more,H' b=some (.tbl (ps++more)))
  (ns:∀ m,s.heap.Ns X.env.locals m->h'.Ns X.env.locals m) (hok:HOk X.prog X.w H' h') (hg:AllBare g') :
  Inv X am σ H' { s with heap:=h',gens:=g',drawn:=d',toks:=t' }:=by
 have neL:∀ b o,X.s₀.heap.get? b=some o->b≠X.env.locals:=λb o e=>Gf (Gm (F8 e) I.ok.above)
 have neC:∀ b o,X.s₀.heap.get? b=some o->b∉X.ex->b∉ch:=λb o e hx hb=>by
  rcases(hch b hb).1 with z | z
  ·exact hx z
  ·exact absurd (Gm (F8 e) z) (Ht _)
 have cellK:∀ x c,X.env.cells.lookup x=some c->∀ v,s.heap.IsCell c v->h'.IsCell c v:=λx c e v ⟨o,ho,hd⟩=>by
  have nch:c∉ch:=λz=>(hch c z).2.2.1 x c e rfl
  by_cases hc:c∈X.fs
  ·obtain⟨sl,q⟩:=slot c o (I.cne x c e) hc nch ho (I.freeC x c e);exact⟨_,q,hd⟩
  ·exact⟨o,keep c o (I.cne x c e) hc nch ho (I.freeC x c e),hd⟩
 refine⟨I.ok,I.os,hg,⟨λb o e n hb hx=>?_,λb o e n hb hx=>?_,λb o e n hx=>?_,λb o e hx=>?_,λb xs e=>tups b xs (I.base.tups b xs e),λb o xs e=>frzs b o xs (I.base.frzs b o xs e),λb ps e=>?_⟩,?_,λx c e=>?_,?_,λx c e=>?_,λp hp=>?_,hok,I.len⟩
 ·exact keep b o (neL b o e) hb (neC b o e hx) (I.base.keep b o e n hb hx) (I.base.free b o e n hx)
 ·obtain⟨sl,e1⟩:=I.base.slot b o e n hb hx;obtain⟨sl',e2⟩:=slot b _ (neL b o e) hb (neC b o e hx) e1 (I.base.free b o e n hx);exact⟨sl',e2⟩
 ·obtain⟨o',e1⟩:=I.base.there b o e hx;exact free b o' (neC b o e hx) e1 (I.base.free b o e n hx)
 ·obtain⟨o',e1⟩:=I.base.there b o e hx;exact there b o' (neC b o e hx) e1
 ·obtain⟨m1,e1⟩:=I.base.tbls b ps e;obtain⟨m2,e2⟩:=tbls b _ e1;exact⟨m1++m2,by rw[e2,Array.append_assoc]⟩
 ·obtain⟨m,hn,hl⟩:=I.loc;refine⟨m,ns m hn,λi x v e1 e2 e3=>?_⟩;obtain⟨u,r,l⟩:=hl i x v e1 e2 e3;refine⟨u,r,?_⟩;rcases l with l | ⟨k,c,e,z⟩
  ·exact .inl l
  ·exact .inr ⟨k,c,e,cellK x c e _ z⟩
 ·obtain⟨v,z⟩:=I.cell x c e;exact⟨v,cellK x c e v z⟩
 ·obtain⟨m,⟨o,_,_,ho,_⟩,_⟩:=I.loc;exact free _ o (λz=>(hch _ z).2.1 rfl) ho I.free
 ·obtain⟨v,o,ho,hd⟩:=I.cell x c e;exact free c o (λz=>(hch c z).2.2.1 x c e rfl) ho (I.freeC x c e)
 ·obtain⟨e,n,ne,nf,d⟩:=I.pin p hp;have nch:p.1∉ch:=λz=>(hch p.1 z).2.2.2 p hp rfl
  exact⟨keep p.1 p.2 ne nf nch e n,free p.1 p.2 nch e n,ne,nf,d⟩
theorem Inv.un (I:Inv X am σ H s)(u:Un X.fs [] H H' s.heap h')(hok:HOk X.prog X.w H' h'):Inv X am σ H' { s with heap:=h',toks:=t' }:=by
 obtain⟨m,⟨o,es,ep,ho,r⟩,_⟩:=id I.loc;obtain⟨sl,hL⟩:=u.any ho I.free (by simp);exact I.step (ch:=[]) (λ_ z=>nomatch z) (λb o _ hb _ e n=>u.keep b o e n hb (by simp)) (λb o _ hb _ e n=>u.slot b o e n hb (by simp)) (λb o _ e n=>u.free b o e n (by simp)) (λb o _ e=>u.there b o e (by simp)) u.tups u.frzs u.tbls (λm' hm=>by
  obtain⟨o',es',ep',ho',r'⟩:=hm;rw[ho]at ho';cases ho';exact⟨_,es',ep',hL,r'⟩) hok I.bare
theorem Inv.call (I:Inv X am σ H s)(u:Un (frs X.stack) ch H H' s.heap h')(hok:HOk X.prog X.w H' h')(hg:AllBare g')
  (hch:∀ b∈ch,(b∈X.ex\/X.s₀.heap.objs.size<=b)/\b≠X.env.locals/\(∀ x c,X.env.cells.lookup x=some c->c≠b)/\∀ p∈X.pn++am,p.1≠b) :
  Inv X am σ H' { s with heap:=h',gens:=g',drawn:=d',toks:=t' }:=by
 obtain⟨m,⟨o,es,ep,ho,r⟩,_⟩:=id I.loc;obtain⟨sl,hL⟩:=u.any ho I.free λz=>(hch _ z).2.1 rfl
 exact I.step hch (λb o hL hb hc e n=>u.keep b o e n (λz=>(Gi.mp (I.stkSub b z)).elim hL hb) hc) (λb o _ _ hc e n=>u.any e n hc) (λb o hc e n=>u.free b o e n hc) (λb o hc e=>u.there b o e hc) u.tups u.frzs u.tbls (λm' hm=>by
  obtain⟨o',es',ep',ho',r'⟩:=hm;rw[ho]at ho';cases ho';exact⟨_,es',ep',hL,r'⟩) hok hg
theorem Inv.turned {it:Addr}(I:Inv X am σ H s)(k:∀ b o,b≠it->s.heap.get? b=some o->h'.get? b=some o)(hn:H it=none)(hL:it≠X.env.locals)
  (h1:it∈X.ex\/X.s₀.heap.objs.size<=it) (h2:∀ x c,X.env.cells.lookup x=some c->c≠it) (h3:∀ p∈X.pn++am,p.1≠it):Inv X am σ H { s with heap:=h',toks:=t' }:=by
 have nit:∀ b u,H b=some u->b≠it:=λb u e z=>by rw[z,hn]at e;cases e
 refine I.step (ch:=[it]) (λb hb=>?_) (λb o _ _ hc e _=>k b o (λz=>hc (by simp[z])) e) (λb o _ _ hc e _=>⟨o.slots,k b o (λz=>hc (by simp[z])) e⟩) (λ_ _ _ _ n=>n)
  (λb o hc e=>⟨o,k b o (λz=>hc (by simp[z])) e⟩) (λ_ _ e=>e) (λ_ _ _ e=>e) (λb ps e=>⟨#[],by rw[e];simp⟩) (λm hm=>?_) (λb u e=>?_) I.bare
 ·have e:b=it:=by simpa using hb
  subst e;exact⟨h1,hL,h2,h3⟩
 ·obtain⟨o,es,ep,ho,r⟩:=hm;exact⟨o,es,ep,k _ o (GM hL) ho,r⟩
 ·refine(I.hok b u e).stay (λc v hc q=>k c v ?_ q) (λ_ q=>q) λ_ _ q=>q
  rcases hc with z | z
  ·rw[z];exact nit b u e
  ·exact nit c _ z
theorem Inv.tok (I:Inv X am σ H s)(t:Nat):Inv X am σ H { s with toks:=t }:=I.un Un.refl I.hok
theorem Inv.kept (I:Inv X am σ H s)(k:∀ b u,s.heap.get? b=some u->h'.get? b=some u):Inv X am σ H { s with heap:=h',toks:=t' }:=I.un (Un.kept k) (I.hok.kept k)
theorem Inv.laid {o:HO}(I:Inv X am σ H s)(k:∀ b u,s.heap.get? b=some u->h'.get? b=some u)(hp:s.heap.objs.size<=a)(new:ObjOk X.prog X.w (upd H a o) h' a o) :
  Inv X am σ (upd H a o) { s with heap:=h',toks:=t' }:=I.un (Un.laid k hp (I.hok.fresh hp)) (I.hok.laid k hp new)
theorem Inv.write {x e:Addr}{o:HO}(I:Inv X am σ H s)(mu:Mut (H x))(he:e=x\/H e=some (.own x))(k:∀ b u,b≠e->s.heap.get? b=some u->h'.get? b=some u)(heo:∃ u,h'.get? e=some u)
  (new:ObjOk X.prog X.w (upd H x o) h' x o):Inv X am σ (upd H x o) { s with heap:=h',toks:=t' }:=I.un (Un.write mu he k heo) (I.hok.write mu he k heo new)
theorem Inv.pins_of {pins':Ll}(I:Inv X am σ H s)(h:∀ p∈pins',s.heap.get? p.1=some p.2/\H p.1=none/\p.1≠X.env.locals/\p.1∉X.fs/\∀ v,p.2.data≠.cell v):Inv X pins' σ H s :=
 ⟨I.ok,I.os,I.bare,I.base,I.loc,I.cell,I.free,I.freeC,λp hp=>(HS.mp hp).elim (λz=>I.pin p (HL _ z)) (h p),I.hok,I.len⟩
theorem lC {N:List Str}(hN:N.Nodup){j:Nat}(a:N[i]?=some x)(b:N[j]?=some x):i=j:=by
 obtain⟨h1,e1⟩:=Gc.mp a;obtain⟨h2,e2⟩:=Gc.mp b;exact(List.getElem_inj hN).mp (e1.trans e2.symm)
abbrev KJ (X:Cx)(x:Str):Prop:=X.fn x=true\/X.env.scope.names.lookup x=some .local
theorem vE {v:V}{Q:Unit->Lg}(I:Inv X am σ H s)(hN:X.N.Nodup)(hi:X.N[i]?=some x)(hx:Loc X.env.scope x)(r:RelV v u)
  (h:∀ s',Inv X am (σ.set i (some v)) H s'->(∃ a,Heap.SameBut a s.heap s'.heap/\(a=X.env.locals\/X.env.cells.lookup x=some a))->Q () s') (hf:KJ X x:=by first | exact .inl rfl | exact .inr rfl | assumption):wpAny M A (storeName X.env x u) Q E s:=by
 obtain⟨m,hn,hl⟩:=id I.loc;have hcls:(X.env.scope.kind==.class||(X.env.scope.kind==.module&&X.env.locals != X.env.globals))=false:=by rw[I.ok.kind];rfl
 have hiσ:i < σ.length:=by rw[I.len];exact(Gc.mp hi).1
 have cne:=I.cne;have tracked:∀ {a:Addr} {h':Heap},(∃ o,s.heap.get? a=some o/\H a=none)->Heap.SameBut a s.heap h'->HOk X.prog X.w H h':=λ{a h'} ha hs b ob e=>by
  obtain⟨_,_,hfree⟩:=ha;refine(I.hok b ob e).stay (λc w' hc q=>(hs.2 c ?_).trans q) (λ_ q=>q) λ_ _ q=>q
  rintro rfl
  rcases hc with rfl | hc
  ·rw[hfree]at e;cases e
  ·rw[hfree]at hc;cases hc
 rcases hx with hk | hk
 ·refine wpAny_storeName_local hk hn (λh' hn' hs=>?_) hcls;obtain⟨oL,_,_,hoL,_⟩:=id hn;refine h _ ⟨I.ok,I.os,I.bare,⟨λb o e n hb hx=>?_,λb o e n hb hx=>?_,I.base.free,λb o e hx=>?_,I.base.tups,I.base.frzs,I.base.tbls⟩,⟨_,hn',λj y v' e1 e2 e3=>?_⟩,λy c e=>?_,I.free,I.freeC,λp hp=>?_,tracked ⟨oL,hoL,I.free⟩ hs,by simpa using I.len⟩ ⟨_,hs,.inl rfl⟩
  ·exact(hs.2 b (Gf (Gm (F8 e) I.ok.above))).trans (I.base.keep b o e n hb hx)
  ·obtain⟨sl,e1⟩:=I.base.slot b o e n hb hx;exact⟨sl,(hs.2 b (Gf (Gm (F8 e) I.ok.above))).trans e1⟩
  ·obtain⟨o',e1⟩:=I.base.there b o e hx;exact⟨o',(hs.2 b (Gf (Gm (F8 e) I.ok.above))).trans e1⟩
  ·by_cases hj:j=i
   ·subst hj;rw[hi]at e1;cases e1;rw[Gr hiσ]at e2;cases e2;exact⟨u,r,.inl ⟨hk,by simp⟩⟩
   ·rw[GB (GM hj)]at e2;obtain⟨u',r',q⟩:=hl j y v' e1 e2 e3;refine⟨u',r',?_⟩;rcases q with ⟨k,e⟩ | ⟨k,c,e,z⟩
    ·refine .inl ⟨k,?_⟩;have:y≠x:=λe=>hj (lC hN e1 (e ▸ hi))
     simp[this,e]
    ·exact .inr ⟨k,c,e,z.sameBut hs (cne y c e)⟩
  ·obtain⟨w',z⟩:=I.cell y c e;exact⟨w',z.sameBut hs (cne y c e)⟩
  ·obtain⟨e,n,ne,nf,d⟩:=I.pin p hp;exact⟨(hs.2 p.1 ne).trans e,n,ne,nf,d⟩
 ·have hfn:X.fn x=true:=by
   rcases hf with z | z
   ·exact z
   ·rw[z]at hk;cases hk
  obtain⟨c,hc⟩:=I.ok.has x (.inl hk);obtain⟨w',z⟩:=I.cell x c hc;refine wpAny_storeName_cell I.ok.kind hk hc z (λh' hc' hs=>?_);obtain⟨oc,hoc,hocd⟩:=id z;refine h { s with heap:=h' } ⟨I.ok,I.os,I.bare,⟨λb o e n hb hx=>?_,λb o e n hb hx=>?_,I.base.free,λb o e hx=>?_,I.base.tups,I.base.frzs,I.base.tbls⟩,⟨m,hn.sameBut hs (GM (cne x c hc)),λj y v' e1 e2 e3=>?_⟩,λy c' e=>?_,I.free,I.freeC,λp hp=>?_,tracked ⟨oc,hoc,I.freeC x c hc⟩ hs,by simpa using I.len⟩ ⟨c,hs,.inr hc⟩
  ·exact(hs.2 b (Gf (Gm (F8 e) (I.ok.cab x c hfn hc)))).trans (I.base.keep b o e n hb hx)
  ·obtain⟨sl,e1⟩:=I.base.slot b o e n hb hx;exact⟨sl,(hs.2 b (Gf (Gm (F8 e) (I.ok.cab x c hfn hc)))).trans e1⟩
  ·obtain⟨o',e1⟩:=I.base.there b o e hx;exact⟨o',(hs.2 b (Gf (Gm (F8 e) (I.ok.cab x c hfn hc)))).trans e1⟩
  ·by_cases hj:j=i
   ·subst hj;rw[hi]at e1;cases e1;rw[Gr hiσ]at e2;cases e2;exact⟨u,r,.inr ⟨.inl hk,c,hc,hc'⟩⟩
   ·rw[GB (GM hj)]at e2;obtain⟨u',r',q⟩:=hl j y v' e1 e2 e3;refine⟨u',r',?_⟩;rcases q with q | ⟨k,c',e,z'⟩
    ·exact .inl q
    ·refine .inr ⟨k,c',e,z'.sameBut hs ?_⟩
     rintro rfl
     exact hj (lC hN e1 (I.ok.inj _ _ _ e hc ▸ hi))
  ·by_cases hcc:c'=c
   ·subst hcc;exact⟨_,hc'⟩
   ·obtain⟨w2,z2⟩:=I.cell y c' e;exact⟨w2,z2.sameBut hs hcc⟩
  ·obtain⟨e,n,ne,nf,d⟩:=I.pin p hp;refine⟨(hs.2 p.1 ?_).trans e,n,ne,nf,d⟩;intro q;rw[q,hoc]at e;have q':oc=p.2:=Hq e;exact d w' (by rw[<- q'];exact hocd)
theorem eU {v:V}{Q:Unit->Lg}(I:Inv X am σ H s)(hN:X.N.Nodup)(hi:X.N[i]?=some x)(hx:Loc X.env.scope x)(r:RelV v u)
  (h:∀ s',Inv X am (σ.set i (some v)) H s'->Q () s') (hf:KJ X x:=by first | exact .inl rfl | exact .inr rfl | assumption):wpAny M A (storeName X.env x u) Q E s :=
 vE I hN hi hx r (λs' I' _=>h s' I') hf
theorem Inv.call' {s':Shared}(I:Inv X am σ H s)(ho:s'.os=s.os)(u:Un (frs X.stack) ch H H' s.heap s'.heap)(hok:HOk X.prog X.w H' s'.heap)(hg:AllBare s'.gens)
  (hch:∀ b∈ch,(b∈X.ex\/X.s₀.heap.objs.size<=b)/\b≠X.env.locals/\(∀ x c,X.env.cells.lookup x=some c->c≠b)/\∀ p∈X.pn++am,p.1≠b):Inv X am σ H' s':=by
 obtain⟨h',g',d',t',o'⟩:=s';have e:o'=s.os:=ho;subst e;exact I.call u hok hg hch
end
abbrev Lh:=Hp->Prop
abbrev XK:=Value->Option Addr->Lh
abbrev St:=List (Option V)
abbrev VK:=V->Lh
abbrev Ld:=Hp->VK->Prop
abbrev TE:=St->Ld
abbrev TT:=St->Hp->(Bool->Lh)->Prop
abbrev TA:=St->Hp->(List V->Lh)->Prop
structure Ends where
 nx:St->Lh
 rt:VK
 bk:St->Lh:=λ_ _=>False
 ct:St->Lh:=λ_ _=>False
abbrev TS:=Ends->St->Lh
def EP (X:Cx)(am:Ll)(σ:St)(Q:VK)(u:Value)(s':Shared):Prop:=∃ v H',Inv X am σ H' s'/\RelV v u/\Q v H'
def TP (X:Cx)(am:Ll)(σ:St)(Q:Bool->Lh)(b:Bool)(s':Shared):Prop:=∃ H',Inv X am σ H' s'/\Q b H'
def AP (X:Cx)(am:Ll)(σ:St)(Q:List V->Lh)(us:List Value)(s':Shared):Prop:=∃ vs H',Inv X am σ H' s'/\Vals vs us/\Q vs H'
def SP (X:Cx)(am:Ll)(D:Ends)(f:Flow)(s':Shared):Prop :=
 match f with
 | .next=>∃ σ' H',Inv X am σ' H' s'/\D.nx σ' H'
 | .brk=>∃ σ' H',Inv X am σ' H' s'/\D.bk σ' H'
 | .cont=>∃ σ' H',Inv X am σ' H' s'/\D.ct σ' H'
 | .ret u=>∃ v σ' H',Inv X am σ' H' s'/\RelV v u/\D.rt v H'
def PE (X:Cx)(e:Expr)(t:TE):Prop :=
 ∀ (am:Ll) (s:Shared) (σ:St) (H:Hp) (Q:VK),Inv X am σ H s->t σ H Q->wpAny (model X.prog X.w) X.A (eval e X.env) (EP X am σ Q) X.xe s
def PT (X:Cx)(e:Expr)(t:TT):Prop :=
 ∀ (am:Ll) (s:Shared) (σ:St) (H:Hp) (Q:Bool->Lh),Inv X am σ H s->t σ H Q->wpAny (model X.prog X.w) X.A (isTrue e X.env (eval e X.env)) (TP X am σ Q) X.xe s
def PW (X:Cx)(e:Expr)(t:TT):Prop :=
 ∀ (whole:Sem Value) (am:Ll) (s:Shared) (σ:St) (H:Hp) (Q:Bool->Lh),Inv X am σ H s->t σ H Q->wpAny (model X.prog X.w) X.A (isTrue e X.env whole) (TP X am σ Q) X.xe s
theorem PW.pt {X:Cx}{e:Expr}{t:TT}(h:PW X e t):PT X e t:=h _
def PA (X:Cx)(es:Lp)(t:TA):Prop :=
 ∀ (pos:Pos) (am:Ll) (s:Shared) (σ:St) (H:Hp) (Q:List V->Lh),Inv X am σ H s->t σ H Q->wpAny (model X.prog X.w) X.A (spliced (backTo pos (starEach es X.env))) (AP X am σ Q) X.xe s
def PS (X:Cx)(st:Stmt)(t:TS):Prop :=
 ∀ (am:Ll) (s:Shared) (σ:St) (H:Hp) (D:Ends),Inv X am σ H s->t D σ H->wpAny (model X.prog X.w) X.A (exec st X.env) (SP X am D) X.xe s
def PSs (X:Cx)(st:Lo)(t:TS):Prop :=
 ∀ (am:Ll) (s:Shared) (σ:St) (H:Hp) (D:Ends),Inv X am σ H s->t D σ H->wpAny (model X.prog X.w) X.A (execs st X.env) (SP X am D) X.xe s
theorem thn {α:Type}{t:Sem α}{Q Q':α->Lg}(h:wpAny M A t Q E s)(hQ:∀ a s,Q a s->Q' a s):wpAny M A t Q' E s:=GN h hQ λ_ _ x=>x
end
section
variable {u:Value}{t:TE}{am:Ll}{s:Shared}{σ:St}{H:Hp}{a:Expr}{E:KU}
section
variable {X:Cx}
theorem bin {b:Expr}{ta tb:TE}(ha:PE X a ta)(hb:PE X b tb){R:V->V->Lh}(I:Inv X am σ H s)(h:ta σ H λx H1=>tb σ H1 λy H2=>R x y H2)
  {α:Type} {Q:α->Lg} {f:Value->Value->Sem α}
  (hf:∀ v u s2 x y H2,Inv X am σ H2 s2->RelV x v->RelV y u->R x y H2->wpAny (model X.prog X.w) X.A (f v u) Q X.xe s2) :
  wpAny (model X.prog X.w) X.A (eval a X.env) (λv s₁=>wpAny (model X.prog X.w) X.A (eval b X.env) (λu s₂=>wpAny (model X.prog X.w) X.A (f v u) Q X.xe s₂) X.xe s₁) X.xe s:=by
 refine thn (ha am s σ H _ I h) λv s1 ⟨x,H1,I1,r1,q1⟩=>?_
 refine thn (hb am s1 σ H1 _ I1 q1) λu s2 ⟨y,H2,I2,r2,q2⟩=>?_
 exact hf v u s2 x y H2 I2 r1 r2 q2
def tVar (i:Nat):TE:=λσ H Q=>∃ v,σ[i]?=some (some v)/\Q v H
def tC (v:V):TE:=λ_ H Q=>Q v H
abbrev KH (x:Str):Prop:=(x==("__debug__":Str))=false
abbrev KK (x:Str):Prop:=(x==("__classdict__":Str))=false
theorem f8 {i:Nat}{x:Str}{pos:Pos}(hN:X.N[i]?=some x)(hv:Vis X.env.scope x)(hd:KH x:=by decide)(Ks:KK x:=by decide):PE X (.Name x pos) (tVar i):=by
 intro am s σ H Q I h;obtain⟨v,e,h⟩:=h;obtain⟨m,hn,hl⟩:=I.loc;obtain⟨u,r,l⟩:=hl i x v hN e hv;have fin:EP X am σ Q u s:=⟨v,H,I,r,h⟩;rcases l with ⟨hk,hm⟩ | ⟨hk,c,hc,hcell⟩
 ·exact wpAny_Name (wpAny_loadName_local I.ok.kind hk hn hm fin) hd
 ·rcases hk with hk | hk
  ·exact wpAny_Name (wpAny_loadName_cell I.ok.kind hk hc hcell fin) hd
  ·exact wpAny_Name (wpAny_loadName_free I.ok.kind hk hc hcell fin Ks) hd
theorem xk {i j pos}:PE X (.Constant (.int i) j pos) (tC (.int i)):=λ_ _ _ H _ I h=>wpAny_Constant_int ⟨.int i,H,I.tok _,⟨_,rfl⟩,h⟩
theorem Em {b j pos}:PE X (.Constant (.bool b) j pos) (tC (.bl b)):=λ_ _ _ H _ I h=>Constant_bool ⟨.bl b,H,I,rfl,h⟩
theorem CP {j pos}:PE X (.Constant .none j pos) (tC .non):=λ_ _ _ H _ I h=>Constant_none ⟨.non,H,I,rfl,h⟩
theorem xl {x j pos}:PE X (.Constant (.str x) j pos) (tC (.str x)):=λ_ _ _ H _ I h=>Calls.Constant_str ⟨.str x,H,I.tok _,⟨_,rfl⟩,h⟩
def Gl (X:Cx)(x:Str):Prop:=X.env.kindOf x=some .globalImplicit
theorem dD {x:Str}{pos:Pos}{Q:KU}(I:Inv X am σ H s)(hg:Gl X x)(hm:X.mg x=some u)(h:Q u s)
  (hd:KH x:=by decide):wpAny (model X.prog X.w) X.A (eval (.Name x pos) X.env) Q E s :=
 Ja I.ok.kind hg (Calls.loadGlobal_global (by rw[I.ok.glob];exact I.mod.glob.keeps I.bk) hm h) hd
theorem iK {x:Str}{pos:Pos}{Q:KU}(I:Inv X am σ H s)(hg:Gl X x)(hm:X.mg x=none)(hv:bootBuiltins x=some u)(h:Q u s)
  (hn:x ≠ "__name__" := by decide) (hd:KH x:=by decide):wpAny (model X.prog X.w) X.A (eval (.Name x pos) X.env) Q E s:=by
 obtain⟨mb,h1,h2⟩:=I.mod.blt;exact Ja I.ok.kind hg (Calls.loadGlobal_builtin (by rw[I.ok.glob];exact I.mod.glob.keeps I.bk) hm (by rw[I.ok.blt];exact h1.keeps I.bk) ((h2 x hn).trans hv) h) hd
theorem aR {x:Str}{v:V}{pos:Pos}(hg:Gl X x)(hm:X.mg x=some u)(r:RelV v u)(hd:KH x:=by decide):PE X (.Name x pos) (tC v) :=
 λ_ _ _ H _ I h=>dD I hg hm ⟨v,H,I,r,h⟩ hd
theorem Ap {x:Str}{v:V}{pos:Pos}(hg:Gl X x)(hm:X.mg x=none)(hv:bootBuiltins x=some u)(r:RelV v u)(hn:x ≠ "__name__" := by decide)(hd:KH x:=by decide):PE X (.Name x pos) (tC v) :=
 λ_ _ _ H _ I h=>iK I hg hm hv ⟨v,H,I,r,h⟩ hn hd
variable {b:Expr}{ta tb:TE}{pos:Pos}
def PC (X:Cx)(op:CmpOp)(a b:Expr)(t:TE):Prop :=
 ∀ (am:Ll) (s:Shared) (σ:St) (H:Hp) (Q:VK),Inv X am σ H s->t σ H Q ->
  wpAny (model X.prog X.w) X.A (eval a X.env) (λv s₁=>wpAny (model X.prog X.w) X.A (eval b X.env) (λu s₂=>wpAny (model X.prog X.w) X.A (compareOp op v u) (EP X am σ Q) X.xe s₂) X.xe s₁) X.xe s
theorem nobehind (b:Expr){op:CmpOp}(h:op≠.In)(h2:op≠.NotIn):behindInMarks op b=false:=by
 have e1:(op==CmpOp.In)=false:=by cases op<;>first | rfl | exact absurd rfl h
 have e2:(op==CmpOp.NotIn)=false:=by cases op<;>first | rfl | exact absurd rfl h2
 cases b<;>simp[behindInMarks,e1,e2]
def tB (t:TE):TT:=λσ H Q=>t σ H λx H1=>∃ c,x=.bl c/\Q c H1
theorem CQ {op:CmpOp}(h:PC X op a b t)(h1:behindInMarks op b=false:=by first | exact nobehind _ (by decide) (by decide) | rfl):PE X (.Compare a [op] [b] pos) t:=λam s σ H Q I hw=>wpAny_Compare1 (h am s σ H Q I hw) h1
theorem CS {op:CmpOp}(h:PC X op a b t)(h1:behindInMarks op b=false:=by first | exact nobehind _ (by decide) (by decide) | rfl):PT X (.Compare a [op] [b] pos) (tB t):=by
 intro am s σ H Q I hw;refine JN (thn (h am s σ H _ I hw) λv s1 h1=>thn h1 λu s2 h2=>thn h2 λc s3 ⟨x,H1,I1,r1,q1⟩=>?_) h1;obtain⟨d,rfl,q⟩:=q1;cases r1;exact Ha ⟨H1,I1,q⟩
theorem CT {e:Expr}(h:PE X e t)(he:∀ whole,isTrue e X.env whole=(do let v <- whole;standAt e.pos;holding [v] (truthy v)):=by intro _;rfl):PT X e (tB t):=by
 intro am s σ H Q I hw;refine isTrue_plain (thn (h am s σ H _ I hw) λv s1 ⟨x,H1,I1,r1,q1⟩=>?_) (he _);obtain⟨d,rfl,q⟩:=q1;cases r1;exact Ha ⟨H1,I1,q⟩
variable {tA tB':TT}{rest:Lp}
def tAnd (t u:TT):TT:=λσ H Q=>t σ H λc H1=>if c=true then u σ H1 Q else Q false H1
def tOr (t u:TT):TT:=λσ H Q=>t σ H λc H1=>if c=true then Q true H1 else u σ H1 Q
def tNot (t:TT):TT:=λσ H Q=>t σ H λc H1=>Q (!c) H1
theorem Aq (ha:PT X a tA):PW X (.BoolOp .And [a] pos) tA:=by
 intro wh am s σ H Q I h;refine isTrue_and (thn (ha am s σ H Q I h) λc s1 e=>?_);cases c with
 | true=>exact isTrue_and_nil e
 | false=>exact e
theorem xm (ha:PT X a tA):PW X (.BoolOp .Or [a] pos) tA:=by
 intro wh am s σ H Q I h;refine isTrue_or (thn (ha am s σ H Q I h) λc s1 e=>?_);cases c with
 | false=>exact isTrue_or_nil e
 | true=>exact e
theorem CU (ha:PT X a tA)(hb:PW X (.BoolOp .And (b::rest) pos) tB'):PW X (.BoolOp .And (a::b::rest) pos) (tAnd tA tB'):=by
 intro wh am s σ H Q I h;refine isTrue_and (thn (ha am s σ H _ I h) λc s1 ⟨H1,I1,q1⟩=>?_);cases c with
 | true=>exact hb wh am s1 σ H1 Q I1 q1
 | false=>exact⟨H1,I1,q1⟩
theorem Cq (ha:PT X a tA)(hb:PW X (.BoolOp .Or (b::rest) pos) tB'):PW X (.BoolOp .Or (a::b::rest) pos) (tOr tA tB'):=by
 intro wh am s σ H Q I h;refine isTrue_or (thn (ha am s σ H _ I h) λc s1 ⟨H1,I1,q1⟩=>?_);cases c with
 | true=>exact⟨H1,I1,q1⟩
 | false=>exact hb wh am s1 σ H1 Q I1 q1
theorem CV (ha:PT X a tA):PT X (.UnaryOp .Not a pos) (tNot tA):=by
 intro am s σ H Q I h;exact isTrue_not (ha am s σ H (λc H1=>Q (!c) H1) I h)
def tAndV (ta tb:TE):TE:=λσ H Q=>ta σ H λx H1=>∃ c,x=.bl c/\if c=true then tb σ H1 Q else Q (.bl false) H1
def tNotV (ta:TE):TE:=λσ H Q=>ta σ H λx H1=>∃ c,x=.bl c/\Q (.bl (!c)) H1
theorem CW {op}(h:PE X a t):PE X (.BoolOp op [a] pos) t:=λam s σ H Q I hw=>BoolOp_one (h am s σ H Q I hw)
theorem CY (ha:PE X a ta)(hb:PE X (.BoolOp .And (b::rest) pos) tb):PE X (.BoolOp .And (a::b::rest) pos) (tAndV ta tb):=by
 intro am s σ H Q I h;refine BoolOp_and (thn (ha am s σ H _ I h) λv s1 ⟨x,H1,I1,r1,q1⟩=>?_);obtain⟨c,rfl,q1⟩:=q1;cases r1
 wp_walk
 cases c with
 | true=>exact hb am s1 σ H1 Q I1 q1
 | false=>exact⟨.bl false,H1,I1,rfl,q1⟩
theorem CZ (ha:PE X a ta):PE X (.UnaryOp .Not a pos) (tNotV ta):=by
 intro am s σ H Q I h;refine UnaryOp_ (thn (ha am s σ H _ I h) λv s1 ⟨x,H1,I1,r1,q1⟩=>?_);obtain⟨c,rfl,q1⟩:=q1;cases r1;exact not_of (Ha ⟨.bl (!c),H1,I1,rfl,q1⟩)
def tIf (t:TT)(ta tb:TE):TE:=λσ H Q=>t σ H λc H1=>if c=true then ta σ H1 Q else tb σ H1 Q
theorem qG {c:Expr}(hc:PT X c tA)(ha:PE X a ta)(hb:PE X b tb):PE X (.IfExp c a b pos) (tIf tA ta tb):=by
 intro am s σ H Q I h;refine wpAny_IfExp (thn (hc am s σ H _ I h) λd s1 ⟨H1,I1,q1⟩=>?_);cases d with
 | true=>exact ha am s1 σ H1 Q I1 q1
 | false=>exact hb am s1 σ H1 Q I1 q1
end
end
section
variable {K:Frag}{tg e:Expr}{am:Ll}{σ:St}{H:Hp}{u:Value}{te:TE}{pos:Pos}{i:Nat}{x:Str}{P:Program}{w:World}{E:KU}{es:Lp}
def SqL (K:Frag)(H:Hp)(a:Addr)(xs:List V):Prop :=
 Rd H a (.lst xs) \/
  ∃ (o:Obj) (its:Array Value) (n:Nat),K.lookup a=some o/\o.cls=.type "list" /\ o.dict=none/\o.data=.seq its n/\its.size<=sizeLine/\Vals xs its.toList
def SqT (K:Frag)(H:Hp)(a:Addr)(xs:List V):Prop :=
 Rd H a (.tup xs) \/
  ∃ (o:Obj) (its:Array Value) (n:Nat),K.lookup a=some o/\o.cls=.type "tuple" /\ o.dict=none/\o.data=.seq its n/\its.size<=sizeLine/\Vals xs its.toList
def absV:Value->Option V
 | .none=>some .non
 | .bool b=>some (.bl b)
 | .int i _=>some (.int i)
 | .str x _=>some (.str x)
 | .bytes b _=>some (.byt b)
 | .float b _=>some (.flt b)
 | .ref a=>some (.ref a)
 | .type n=>some (.ty n)
 | _=>none
theorem RelV.abs {x:V}(r:RelV x u):absV u=some x:=by
 cases x with
 | non=>cases r;rfl
 | bl _=>cases r;rfl
 | int _=>obtain⟨t,rfl⟩:=r;rfl
 | str _=>obtain⟨t,rfl⟩:=r;rfl
 | byt _=>obtain⟨t,rfl⟩:=r;rfl
 | flt _=>obtain⟨t,rfl⟩:=r;rfl
 | ref _=>cases r;rfl
 | ty _=>cases r;rfl
theorem RelV.inj {x y:V}(r:RelV x u)(q:RelV y u):x=y:=Hq (r.abs.symm.trans q.abs)
theorem Vals.inj:∀ {xs ys:List V} {us:List Value},Vals xs us->Vals ys us->xs=ys
 | _,_,_,.nil,.nil=>rfl
 | _,_,_,.cons r t,.cons r' t'=>by rw[r.inj r',Vals.inj t t']
section
variable {X:Cx}{s:Shared}{a:Addr}{xs ys:List V}
theorem SqL.of (h:H a=some (.lst xs)):SqL K H a xs:=.inl (.inl h)
theorem SqT.of (h:H a=some (.tup xs)):SqT K H a xs:=.inl (.inl h)
theorem Inv.list (I:Inv X am σ H s)(h:SqL X.K H a xs):∃ its:List Value,Vals xs its/\PlainL s.heap a its.toArray/\xs.length<=sizeLine:=by
 rcases h with h | ⟨o,its,n,hk,hc,hd,hs,hz,r⟩
 ·obtain⟨z,its,n,r,e⟩:=h.ok I.hok;exact⟨its,r,⟨_,n,e,rfl,rfl,rfl⟩,z⟩
 ·refine⟨its.toList,r,⟨o,n,I.kIn a o hk,hc,hd,by simpa using hs⟩,?_⟩;have e:=r.length;simp only[Array.length_toList]at e;omega
theorem Inv.tuple (I:Inv X am σ H s)(h:SqT X.K H a xs):∃ its:List Value,Vals xs its/\IsTup s.heap a its.toArray/\xs.length<=sizeLine:=by
 rcases h with h | ⟨o,its,n,hk,hc,_,hs,hz,r⟩
 ·obtain⟨z,its,r,p⟩:=h.ok I.hok;exact⟨its,r,p.is,z⟩
 ·refine⟨its.toList,r,⟨o,I.kIn a o hk,hc,n,by simpa using hs⟩,?_⟩;have e:=r.length;simp only[Array.length_toList]at e;omega
theorem Inv.list_inj (I:Inv X am σ H s)(h:SqL X.K H a xs)(h':SqL X.K H a ys):xs=ys:=by
 obtain⟨its,r,⟨o,n,e,_,_,d⟩,_⟩:=I.list h;obtain⟨KB,r',⟨o',n',e',_,_,d'⟩,_⟩:=I.list h';rw[e]at e';cases e';rw[d]at d';injection d' with d1 _
 have:its=KB:=by simpa using GA Array.toList d1
 subst this;exact r.inj r'
theorem Inv.tuple_inj (I:Inv X am σ H s)(h:SqT X.K H a xs)(h':SqT X.K H a ys):xs=ys:=by
 obtain⟨its,r,⟨o,e,_,n,d⟩,_⟩:=I.tuple h;obtain⟨KB,r',⟨o',e',_,n',d'⟩,_⟩:=I.tuple h';rw[e]at e';cases e';rw[d]at d';injection d' with d1 _
 have:its=KB:=by simpa using GA Array.toList d1
 subst this;exact r.inj r'
end
section
variable {X:Cx}{s:Shared}
end
section
variable {X:Cx}{st:Stmt}{rest:Lo}{t u:TS}
def tNext:TS:=λD σ H=>D.nx σ H
def tSeq (t u:TS):TS:=λD σ H=>t { D with nx:=u D } σ H
theorem ul:PSs X [] tNext:=λ_ _ σ H _ I h=>IB ⟨σ,H,I,h⟩
theorem bu (h1:PS X st t)(h2:PSs X rest u):PSs X (st::rest) (tSeq t u):=by
 intro am s σ H D I h;refine wpAny_execs_cons (thn (h1 am s σ H { D with nx:=u D } I h) λf s1 q=>?_);cases f with
 | next =>
  obtain⟨σ',H',I',q⟩:=q;exact h2 am s1 σ' H' D I' q
 | ret v=>exact q
 | brk=>exact q
 | cont=>exact q
theorem kZ (h1:PS X st t):PSs X [st] t:=by
 intro am s σ H D I h;refine wpAny_execs_cons (thn (h1 am s σ H D I h) λf s1 q=>?_);cases f with
 | next=>exact IB q
 | ret v=>exact q
 | brk=>exact q
 | cont=>exact q
theorem Inv.quiet {s:Shared}(I:Inv X am σ H s):interactive X.env=false:=by simp[interactive,I.ok.kind]
def tDrop (te:TE):TS:=λD σ H=>te σ H λ_ H1=>D.nx σ H1
theorem k6 (he:PE X e te)(hs:swapsWith e none pos.line X.env=pure false:=by rfl):PS X (.Expr e pos) (tDrop te):=by
 intro am s σ H D I h;exact wpAny_Expr_any (thn (he am s σ H _ I h) λv s1 ⟨x,H1,I1,r1,q1⟩=>⟨σ,H1,I1,q1⟩) I.quiet hs
def tRet (te:TE):TS:=λD σ H=>te σ H D.rt
theorem sy (he:PE X e te):PS X (.Return (some e) pos) (tRet te):=by
 intro am s σ H D I h;exact wpAny_Return_some (thn (he am s σ H _ I h) λv s1 ⟨x,H1,I1,r1,q1⟩=>⟨x,σ,H1,I1,r1,q1⟩)
def tIfS (c:TT)(t u:TS):TS:=λD σ H=>c σ H λb H1=>if b=true then t D σ H1 else u D σ H1
theorem Cr {c:Expr}{a b:Lo}{tc:TT}(hc:PT X c tc)(ha:PSs X a t)(hb:PSs X b u):PS X (.If c a b pos) (tIfS tc t u):=by
 intro am s σ H D I h;refine wpAny_If (thn (hc am s σ H _ I h) λd s1 ⟨H1,I1,q1⟩=>?_);cases d with
 | true=>exact ha am s1 σ H1 D I1 q1
 | false=>exact hb am s1 σ H1 D I1 q1
def tNever:TS:=λ_ _ _=>False
theorem gX {sts:Lo}:PSs X sts tNever:=λ_ _ _ _ _ _ h=>h.elim
end
abbrev TG:=V->St->Hp->(St->Lh)->Prop
abbrev TGs:=List V->St->Hp->(St->Lh)->Prop
def PG (X:Cx)(target:Expr)(t:TG):Prop :=
 ∀ (am:Ll) (s:Shared) (σ:St) (H:Hp) (v:V) (u:Value) (Q:St->Lh),Inv X am σ H s->RelV v u->t v σ H Q ->
  wpAny (model X.prog X.w) X.A (assign target X.env u) (λ_ s'=>∃ σ' H',Inv X am σ' H' s'/\Q σ' H') X.xe s
def PGs (X:Cx)(ts:Lp)(t:TGs):Prop :=
 ∀ (am:Ll) (s:Shared) (σ:St) (H:Hp) (vs:List V) (us:List Value) (Q:St->Lh),Inv X am σ H s->Vals vs us->t vs σ H Q ->
  wpAny (model X.prog X.w) X.A (assignInOrder ((assignEach ts X.env).map (·.2)) us) (λ_ s'=>∃ σ' H',Inv X am σ' H' s'/\Q σ' H') X.xe s
section
variable {X:Cx}
def gName (i:Nat):TG:=λv σ H Q=>Q (σ.set i (some v)) H
theorem i0 (hN:X.N.Nodup)(hi:X.N[i]?=some x)(hx:Loc X.env.scope x)(hf:KJ X x:=by first | exact .inl rfl | exact .inr rfl | assumption):PG X (.Name x pos) (gName i):=by
 intro am s σ H v u Q I r h;exact wpAny_assign_Name (eU I hN hi hx r (λs' I'=>⟨_,H,I',h⟩) hf)
def gNil:TGs:=λvs σ H Q=>vs=[]/\Q σ H
def gCons (t:TG)(u:TGs):TGs:=λvs σ H Q=>∃ v r,vs=v::r/\t v σ H λσ' H'=>u r σ' H' Q
theorem um:PGs X [] gNil:=by
 intro am s σ H vs us Q I r h;obtain⟨e,h⟩:=h;subst e;cases r;exact assignInOrder_nil ⟨σ,H,I,h⟩
theorem i4 {t:TG}{u:TGs}(h1:PG X e t)(h2:PGs X es u)
  (hs:(assignEach (e::es) X.env).map (·.2)=assign e X.env::(assignEach es X.env).map (·.2):=by rfl):PGs X (e::es) (gCons t u):=by
 intro am s σ H vs us Q I r h;obtain⟨v,vr,e1,h⟩:=h;subst e1;cases r with
 | cons r rr =>
  rw[hs];refine IU (thn (h1 am s σ H _ _ _ I r h) λ_ s1 ⟨σ1,H1,I1,q1⟩=>?_);exact h2 am s1 σ1 H1 _ _ Q I1 rr q1
def gTup (K:Frag)(n:Nat)(t:TGs):TG:=λv σ H Q=>∃ a xs,v=.ref a/\SqT K H a xs/\xs.length=n/\t xs σ H Q
theorem xn {k:Nat}{t:TGs}{n:Nat}(hc:X.calm=true)(h:PGs X es t)
  (hn:(assignEach es X.env).length=n:=by rfl) (K8:(assignEach es X.env).findIdx? (·.1)=none:=by rfl):PG X (.Tuple es k pos) (gTup X.K n t):=by
 intro am s σ H v u Q I r hw;obtain⟨a,xs,e1,hq,hl,hw⟩:=hw;subst e1;cases r;obtain⟨its,rv,ht,hz⟩:=I.tuple hq;refine assign_Tuple_tuple (I.ok.hd hc) ht (by simp[hn,<- hl,rv.length]) K8 λh' hx=>?_
 have I1:=I.kept (t':=s.toks) λb o e=>hx b o (Gf (F8 e)) e
 exact h am _ σ H xs _ Q I1 (by simpa using rv) hw
def tAsg (te:TE)(g:TG):TS:=λD σ H=>te σ H λx H1=>g x σ H1 D.nx
theorem Da {g:TG}(he:PE X e te)(hg:PG X tg g)(hs:swapsWithSole [tg] e pos.line X.env=pure false:=by rfl)(hw:swappedStores [tg] e X.env=pure none:=by rfl)
  (h1:(assignEach [tg] X.env).map (·.2)=[assign tg X.env]:=by rfl):PS X (.Assign [tg] e pos) (tAsg te g):=by
 intro am s σ H D I h;refine wpAny_Assign_stores (thn (he am s σ H _ I h) λv s1 ⟨x,H1,I1,r1,q1⟩=>?_) hs hw;rw[h1];exact thn (hg am s1 σ H1 x v _ I1 r1 q1) λ_ s2 q=>q
theorem pq {Kn:Pos}(hN:X.N.Nodup)(hi:X.N[i]?=some x)(hx:Loc X.env.scope x)(he:PE X e te)(hs:swapsWith e (some (.Name x Kn)) pos.line X.env=pure false:=by rfl)(hf:KJ X x:=by first | exact .inl rfl | exact .inr rfl | assumption) :
  PS X (.Assign [.Name x Kn] e pos) (tAsg te (gName i)):=by
 intro am s σ H D I h;refine wpAny_Assign_Name (thn (he am s σ H _ I h) λv s1 ⟨y,H1,I1,r1,q1⟩=>?_) hs;exact eU I1 hN hi hx r1 (λs2 I2=>⟨_,H1,I2,q1⟩) hf
def tPar (i j:Nat)(ta:TA):TS:=λD σ H=>ta σ H λvs H1=>∃ v w,vs=[v,w]/\D.nx ((σ.set i (some v)).set j (some w)) H1
theorem xo {j:Nat}{y:Str}{a b:Expr}{ta:TA}{px py pt:Pos}{kt k2 pt2}(hc:X.calm=true)(hN:X.N.Nodup)(hi:X.N[i]?=some x)(hj:X.N[j]?=some y)(hij:i≠j)
  (hx:X.env.scope.names.lookup x=some .local) (hy:X.env.scope.names.lookup y=some .local) (ha:PA X [a,b] ta)
  (hw:swappedStores [.Tuple [.Name x px,.Name y py] kt pt] (.Tuple [a,b] k2 pt2) X.env=pure (some [x,y]))
  (hs:swapsWithSole [.Tuple [.Name x px,.Name y py] kt pt] (.Tuple [a,b] k2 pt2) pos.line X.env=pure false:=by rfl) :
  PS X (.Assign [.Tuple [.Name x px,.Name y py] kt pt] (.Tuple [a,b] k2 pt2) pos) (tPar i j ta):=by
 intro am s σ H D I h;rw[exec_Assign_arm];refine F3 (wpAny_standAt ?_);rw[hs];refine F3 (F6 ?_);rw[if_neg (by decide)];refine F3 (Tuple_ (thn (ha _ am s σ H _ I h) λus s1 ⟨vs,H1,I1,r1,q1⟩=>?_));obtain⟨v,w,e1,q1⟩:=q1;subst e1;obtain⟨u1,u2,rfl,rv,rw'⟩:∃ u1 u2,us=[u1,u2]/\RelV v u1/\RelV w u2:=by
  cases r1 with
  | cons p q =>
   cases q with
   | cons p' q' =>
    cases q';exact⟨_,_,rfl,p,p'⟩
 refine Jd ?_ (by show 2<=sizeLine;decide);have I2:Inv X am σ H1 { s1 with heap:=s1.heap.push { cls:=.type "tuple",data:=.seq [u1,u2].toArray } }:=I1.kept λb o e=>F4 _ e
 rw[hw];refine F3 (F6 ?_);refine F3 (IC (F3 (unpackItems_tuple (items:=#[u1,u2]) (I.ok.hd hc) (IsTup.new s1.heap _) λh' hx'=>?_)));have I3:=I2.kept (t':=s1.toks) λb o e=>hx' b o (Gf (F8 e)) e
 refine F3 (IU (JO (eU I3 hN hj (.inl hy) rw' (λs2 I4=>?_) (.inr hy))));refine IU (JO (eU I4 hN hi (.inl hx) rv (λs3 I5=>assignInOrder_nil (F6 ?_)) (.inr hx)));rw[List.set_comm _ _ (GM hij)]at I5;exact⟨_,H1,I5,q1⟩
end
section
variable {X:Cx}
end
structure It where
 go:Nat->Lh
 yld:Nat->Hp->V->Lh
 stop:Nat->Lh
def FpOk (X:Cx)(am:Ll)(H:Hp)(b:Addr):Prop :=
 H b=none/\b≠X.env.locals/\b∉X.fs/\(b∈X.ex\/X.s₀.heap.objs.size<=b)/\(∀ x c,X.env.cells.lookup x=some c->c≠b)/\∀ p∈X.pn++am,p.1≠b
theorem Inv.fpOk {X:Cx}{H':Hp}{s:Shared}{b:Addr}(I:Inv X am σ H s)(hb:s.heap.objs.size<=b)(hn:H' b=none):FpOk X am H' b:=by
 refine⟨hn,Kd (Gm I.lt hb),I.nofs hb,.inr (GF I.sz hb),λx c e z=>?_,λp hp z=>?_⟩
 ·obtain⟨v,q⟩:=I.cell x c e;exact absurd (Gm q.lt (by rw[z];exact hb)) (Ht _)
 ·exact absurd (Gm (F8 (I.pin p hp).1) (by rw[z];exact hb)) (Ht _)
structure Turn (P:Program)(w:World)(K:Frag)(tg:Expr)(J:It)(fp:List Addr)(it:Addr)(tn:Nat->Heap->Prop):Prop where
 mem:it∈fp
 obj:∀ i h,tn i h->∀ b∈fp,∃ o,h.get? b=some o/\∀ v,o.data≠.cell v
 keep:∀ i h h',tn i h->(∀ b∈fp,∀ o,h.get? b=some o->h'.get? b=some o)->tn i h'
 item:∀ (X:Cx),X.prog=P->X.w=w->X.K=K->X.calm=true->∀ (i:Nat) (am:Ll) (s:Shared) (σ:St) (H:Hp) (E:KU),Inv X am σ H s->(∀ b∈fp,FpOk X am H b)->tn i s.heap->J.go i H ->
  wpAny (model P w) X.A (pyNext (.ref it)) (λr s1=>∃ u,r=some u /\
   wpAny (model P w) X.A (letOwnedTupleGo tg (.ref it) u) (λ_ s2=>∃ x H',Inv X am σ H' s2/\RelV x u/\J.yld i H x H'/\tn (i+1) s2.heap/\∀ b∈fp,H' b=none) E s1) E s
 done:∀ (X:Cx),X.prog=P->X.w=w->X.K=K->X.calm=true->∀ (i:Nat) (am:Ll) (s:Shared) (σ:St) (H:Hp) (E:KU),Inv X am σ H s->(∀ b∈fp,FpOk X am H b)->tn i s.heap->J.stop i H ->
  wpAny (model P w) X.A (pyNext (.ref it)) (λr s1=>r=none/\Inv X am σ H s1) E s
 self:∀ (A:Around) (i:Nat) (s:Shared) (Q:KU) (E:KU),tn i s.heap->Q (.ref it) s->wpAny (model P w) A (pyIter (.ref it)) Q E s
abbrev TI:=St->Hp->(It->Lh)->Prop
def PIE (X:Cx)(am:Ll)(σ:St)(tg:Expr)(R:It->Lh)(itv:Value)(s2:Shared):Prop :=
 ∃ (it:Addr) (fp:List Addr) (tn:Nat->Heap->Prop) (J:It) (H':Hp),itv=.ref it/\Inv X am σ H' s2/\Turn X.prog X.w X.K tg J fp it tn/\tn 0 s2.heap/\(∀ b∈fp,FpOk X am H' b)/\R J H'
def PI (X:Cx)(tg iter:Expr)(wi:TI):Prop :=
 ∀ (am:Ll) (s:Shared) (σ:St) (H:Hp) (R:It->Lh),Inv X am σ H s->wi σ H R ->
  wpAny (model X.prog X.w) X.A (eval iter X.env) (λv s1=>wpAny (model X.prog X.w) X.A (pyIter v) (PIE X am σ tg R) X.xe s1) X.xe s
theorem oi {M:Model}{A:Around}{s:Shared}{it:Addr}{o:Obj}{n:String}{vs:Array Value}{Q:Unit->Lg}(ho:s.heap.get? it=some o)(hc:o.cls=.type n)(hd:o.data=.fields vs)
  (hn:["enumerate","zip","dict_itemiterator","dict_reverseitemiterator","odict_iterator","itertools.zip_longest","itertools.pairwise"].contains n=false) (hQ:Q () s):wpAny M A (letOwnedTupleGo tg (.ref it) u) Q E s:=by
 unfold letOwnedTupleGo;cases tg<;>first
  | exact F6 hQ
  | (cases u<;>first
    | exact F6 hQ
    | (refine F3 (wpAny_load ho ?_)
       rw[hc,hd];show wpAny M A (if (["enumerate","zip","dict_itemiterator","dict_reverseitemiterator","odict_iterator","itertools.zip_longest","itertools.pairwise"].contains n&&vs[0]?==some (rawInt _))=true then _ else _) Q E s;rw[if_neg (by intro h;rw[hn,Bool.false_and]at h;cases h)];exact F6 hQ))
def Itl (K:Frag)(a:Addr):It :=
 ⟨λi H=>∃ xs x,SqL K H a xs/\xs[i]?=some x,λi H x H'=>H'=H/\∀ xs,SqL K H a xs->xs[i]?=some x,λi H=>∃ xs,SqL K H a xs/\xs.length<=i⟩
def Itt (K:Frag)(a:Addr):It :=
 ⟨λi H=>∃ xs x,SqT K H a xs/\xs[i]?=some x,λi H x H'=>H'=H/\∀ xs,SqT K H a xs->xs[i]?=some x,λi H=>∃ xs,SqT K H a xs/\xs.length<=i⟩
def Itr (lo:Int)(n:Nat):It:=⟨λi _=>i < n,λi H x H'=>H'=H/\x=.int (lo+i),λi _=>n<=i⟩
theorem vF (a it:Addr):Turn P w K tg (Itl K a) [it] it (λi h=>h.IsListIter it a i) where
 mem:=by simp
 obj:=λi h st b hb=>by
  have e:b=it:=by simpa using hb
  subst e;obtain⟨o,e,c,d⟩:=st;exact⟨o,e,λv z=>by rw[d]at z;cases z⟩
 keep:=λi h h' st k=>st.at λo e=>k it (by simp) o e
 item:=by
  intro X hP hw hK hc i am s σ H E I hf st hg;subst hP hw hK;obtain⟨xs,x,hq,hx⟩:=hg;obtain⟨its,rv,p,hz⟩:=I.list hq;obtain⟨u,hu,ru⟩:=rv.get hx;obtain⟨f0,f1,f2,f3,f4,f5⟩:=hf it (by simp);refine JG st p.isList (x:=u) (by simpa using hu) λh' st' sb=>?_
  have I1:=I.turned (t':=s.toks) (λb o hb e=>(sb.2 b hb).trans e) f0 f1 f3 f4 f5;obtain⟨o,e,c,d⟩:=id st';exact⟨u,rfl,oi e c d (by decide) ⟨x,H,I1,ru,⟨rfl,λys hy=>by rw[I.list_inj hy hq];exact hx⟩,st',λb hb=>(hf b hb).1⟩⟩
 done:=by
  intro X hP hw hK hc i am s σ H E I hf st hg;subst hP hw hK;obtain⟨xs,hq,hx⟩:=hg;obtain⟨its,rv,p,hz⟩:=I.list hq;obtain⟨f0,f1,f2,f3,f4,f5⟩:=hf it (by simp);have hl:=rv.length;exact JP (I.ok.hd hc) st p.isList (by simp;omega) λh' eb=>⟨rfl,I.turned (t':=s.toks) (λb o hb e=>eb b o hb e) f0 f1 f3 f4 f5⟩
 self:=λ_ _ _ _ _ st h=>wpAny_pyIter_listiter st h
theorem sA (a it:Addr):Turn P w K tg (Itt K a) [it] it (λi h=>h.IsTupleIter it a i) where
 mem:=by simp
 obj:=λi h st b hb=>by
  have e:b=it:=by simpa using hb
  subst e;obtain⟨o,e,c,d⟩:=st;exact⟨o,e,λv z=>by rw[d]at z;cases z⟩
 keep:=λi h h' st k=>st.at λo e=>k it (by simp) o e
 item:=by
  intro X hP hw hK hc i am s σ H E I hf st hg;subst hP hw hK;obtain⟨xs,x,hq,hx⟩:=hg;obtain⟨its,rv,p,hz⟩:=I.tuple hq;obtain⟨u,hu,ru⟩:=rv.get hx;obtain⟨f0,f1,f2,f3,f4,f5⟩:=hf it (by simp);refine wpAny_pyNext_tuple_item st (show s.heap.IsTuple a its.toArray from p) (x:=u) (by simpa using hu) λh' st' sb=>?_
  have I1:=I.turned (t':=s.toks) (λb o hb e=>(sb.2 b hb).trans e) f0 f1 f3 f4 f5;obtain⟨o,e,c,d⟩:=id st';exact⟨u,rfl,oi e c d (by decide) ⟨x,H,I1,ru,⟨rfl,λys hy=>by rw[I.tuple_inj hy hq];exact hx⟩,st',λb hb=>(hf b hb).1⟩⟩
 done:=by
  intro X hP hw hK hc i am s σ H E I hf st hg;subst hP hw hK;obtain⟨xs,hq,hx⟩:=hg;obtain⟨its,rv,p,hz⟩:=I.tuple hq;obtain⟨f0,f1,f2,f3,f4,f5⟩:=hf it (by simp);have hl:=rv.length;exact wpAny_pyNext_tuple_end (I.ok.hd hc) st (show s.heap.IsTuple a its.toArray from p) (by simp;omega) λh' eb=>⟨rfl,I.turned (t':=s.toks) (λb o hb e=>eb b o hb e) f0 f1 f3 f4 f5⟩
 self:=λ_ _ _ _ _ st h=>wpAny_pyIter_tupleiter st h
theorem sB (it:Addr)(lo:Int)(n:Nat):Turn P w K tg (Itr lo n) [it] it (λi h=>IsRangeIter h it (lo+(i:Nat)*1) ((n:Int) - (i:Nat)) 1) where
 mem:=by simp
 obj:=λi h st b hb=>by
  have e:b=it:=by simpa using hb
  subst e;exact⟨_,st,λv z=>by
   have z':Data.fields _=Data.cell v:=z;cases z'⟩
 keep:=λi h h' st k=>k it (by simp) _ st
 item:=by
  intro X hP hw hK hc i am s σ H E I hf st hg;subst hP hw hK;obtain⟨f0,f1,f2,f3,f4,f5⟩:=hf it (by simp);have W:=Walks.range (prog:=X.prog) (w:=X.w) (I.ok.hd hc) it lo 1 n;refine W.item i s _ _ hg st λv h' tk hv st' kk=>?_
  obtain⟨t,rfl⟩:=hv;have I1:Inv X am σ H { s with heap:=h',toks:=tk }:=I.turned (λb o hb e=>kk b o (by simpa using hb) e) f0 f1 f3 f4 f5;refine⟨_,rfl,oi (s:={ s with heap:=h',toks:=tk }) (n := "range_iterator") st' rfl rfl (by decide) ⟨.int (lo+i),H,I1,⟨t,?_⟩,⟨rfl,rfl⟩,st',λb hb=>(hf b hb).1⟩⟩;rw[Int.mul_one]
 done:=by
  intro X hP hw hK hc i am s σ H E I hf st hg;subst hP hw hK;obtain⟨f0,f1,f2,f3,f4,f5⟩:=hf it (by simp);exact wpAny_pyNext_range_end (I.ok.hd hc) st (by have:n<=i:=hg;omega) λh' eb=>⟨rfl,I.turned (t':=s.toks) (λb o hb e=>eb b o hb e) f0 f1 f3 f4 f5⟩
 self:=λ_ _ _ _ _ st h=>wpAny_pyIter_rangeiter st h
end
section
variable {am:Ll}{σ:St}{H:Hp}{s:Shared}{fp:List Addr}{pos:Pos}{h:Heap}
section
variable {X:Cx}{tg:Expr}
theorem xp {R:It->Lh}{E:KU}{lo hi:Int}{t u v:Tok}{tk:Nat}(I:Inv X am σ H s)(h1 : -(2^62)<=lo)(h2:lo < 2^62)(h3 : -(2^62)<=hi)(h4:hi < 2^62)
  (q:R (Itr lo (hi - lo).toNat) H):wpAny (model X.prog X.w) X.A (pyIter (.ref s.heap.objs.size)) (PIE X am σ tg R) E { s with heap:=s.heap.push { cls:=.type "range",data:=.fields #[.int lo t,.int hi u,.int 1 v] },toks:=tk }:=by
 refine wpAny_pyIter_range (IsRange.new ..) (small_one h1 h2 h3 h4) ?_;have I1:Inv X am σ H { s with heap:=s.heap.push { cls:=.type "range",data:=.fields #[.int lo t,.int hi u,.int 1 v] },toks:=tk }:=I.kept λb o e=>F4 _ e
 refine⟨(s.heap.push { cls:=.type "range",data:=.fields #[.int lo t,.int hi u,.int 1 v] }).objs.size,[(s.heap.push { cls:=.type "range",data:=.fields #[.int lo t,.int hi u,.int 1 v] }).objs.size],_,_,H,rfl,
  I1.kept (t':=tk) λb o e=>F4 _ e,sB _ lo (hi - lo).toNat,?_,λb hb=>?_,q⟩
 ·have e1:lo+((0:Nat):Int)*1=lo:=by simp
  have e2:(((hi - lo).toNat:Nat):Int) - ((0:Nat):Int)=Builtin.Range.rangeSize lo hi 1:=by rw[rangeSize_one];split<;>omega
  show IsRangeIter _ _ (lo+((0:Nat):Int)*1) ((((hi - lo).toNat:Nat):Int) - ((0:Nat):Int)) 1;rw[e1,e2];exact Ge _ rfl
 ·have e:b=(s.heap.push { cls:=.type "range",data:=.fields #[.int lo t,.int hi u,.int 1 v] }).objs.size:=by simpa using hb
  subst e;exact I1.fpOk (F7 _) (I1.hok.fresh (F7 _))
def iRng1 (ta:TA):TI:=λσ H R=>ta σ H λvs H1=>∃ j:Int,vs=[.int j]/\-(2^62)<=j/\j < 2^62/\R (Itr 0 j.toNat) H1
theorem vG {a:Expr}{ta:TA}{p:Pos}(hg:Gl X "range")(hm:X.mg "range"=none)(ha:PA X [a] ta)(hs:starEach [a] X.env=[(false,eval a X.env)]:=by rfl):PI X tg (.Call (.Name "range" p) [a] [] pos) (iRng1 ta):=by
 intro am s σ H R I h;refine Call_ (iK I hg hm boot_range (Hb (thn (ha pos am s σ H _ I h) λus s1 ⟨vs,H1,I1,r1,q1⟩=>?_) hs rfl));obtain⟨j,e,q1,q2,q⟩:=q1;subst e;cases r1 with
 | cons r rr =>
  cases rr;obtain⟨t,rfl⟩:=r;exact call_range_1 (xp I1 (by omega) (by omega) q1 q2 (by grind))
def tFor (wi:TI)(g:TG)(tb:TS):TS:=λD σ H=>wi σ H λJ H1=>∃ W:Nat->Nat->St->Lh,(∃ m,W 0 m σ H1)/\∀ i m σ H,W i m σ H ->
 (J.stop i H/\D.nx σ H)\/(J.go i H/\∃ N:St->Lh,(∀ σ' H',N σ' H'->∃ m',m' < m/\W (i+1) m' σ' H')/\∀ x H',J.yld i H x H'->g x σ H' λσ2 H2=>tb { D with nx:=N,ct:=N,bk:=D.nx } σ2 H2)
def pinsAt (fp:List Addr)(h:Heap):Ll:=fp.filterMap λb=>(h.get? b).map λo=>(b,o)
theorem fc {b:Addr}{o:Obj}(hb:b∈fp)(e:h.get? b=some o):(b,o)∈pinsAt fp h:=IV.mpr ⟨b,hb,by rw[e];rfl⟩
theorem vH {p:Addr×Obj}(hp:p∈pinsAt fp h):p.1∈fp/\h.get? p.1=some p.2:=by
 obtain⟨b,hb,e⟩:=IV.mp hp;cases q:h.get? b with
 | none=>rw[q]at e;cases e
 | some o =>
  grind
theorem Inv.pinned (I:Inv X am σ H s)(hf:∀ b∈fp,FpOk X am H b)(ho:∀ b∈fp,∃ o,s.heap.get? b=some o/\∀ v,o.data≠.cell v):Inv X (am++pinsAt fp s.heap) σ H s :=
 I.pins_of λp hp=>(HS.mp hp).elim (λz=>I.pin p (GV _ z)) λz=>by
  obtain⟨hb,e⟩:=vH z;obtain⟨f0,f1,f2,_⟩:=hf p.1 hb
  grind
theorem Inv.unpinned {pl:Ll}(I:Inv X (am++pl) σ H s):Inv X am σ H s:=I.pins_of λp hp=>I.pin p (GV _ (HL _ hp))
theorem sC {iter:Expr}{body:Lo}{wi:TI}{g:TG}{tb:TS}(hp:PassesOwn (model X.prog X.w) X.A X.env X.xe)(hc:X.calm=true)(hi:PI X tg iter wi)(hg:PG X tg g)(hb:PSs X body tb)
  (hs:∀ x,foldedSetIterable iter X.env x=pure x:=by intro _;rfl):PS X (.For tg iter body [] pos) (tFor wi g tb):=by
 intro am s σ H D I h;refine wpAny_For (thn (hi am s σ H _ I h) λv s1 h1=>thn h1 λitv s2 h2=>?_) hs;obtain⟨it,fp,tn,J,H2,e,I2,T,st2,f2,W,⟨m0,w0⟩,turn⟩:=h2;subst e;have stat:∀ {H':Hp},(∀ b∈fp,H' b=none)->∀ b∈fp,FpOk X am H' b:=λhn b hb=>⟨hn b hb,(f2 b hb).2⟩
 refine codeAny_forLoop_any (λn s'=>∃ i σ' H',Inv X am σ' H' s'/\tn i s'.heap/\(∀ b∈fp,H' b=none)/\W i n σ' H') ?_ m0 ⟨0,σ,H2,I2,st2,λb hb=>(f2 b hb).1,w0⟩
 rintro n s3 ⟨i,σ3,H3,I3,st3,fr3,w3⟩
 rcases turn i n σ3 H3 w3 with ⟨stop,qn⟩ | ⟨go,N,hN,step⟩
 ·refine HU hp (thn (T.done X rfl rfl rfl hc i am s3 σ3 H3 X.xe I3 (stat fr3) st3 stop) λr s4 ⟨hr,I4⟩=>?_);subst hr;exact IB ⟨σ3,H3,I4,qn⟩
 ·refine HU hp (thn (T.item X rfl rfl rfl hc i am s3 σ3 H3 X.xe I3 (stat fr3) st3 go) λr s4 ⟨u,hr,h4⟩=>?_);subst hr;refine HU hp (thn h4 λ_ s5 ⟨x,H5,I5,r5,y5,st5,fr5⟩=>?_);have I5':=I5.pinned (stat fr5) (T.obj _ _ st5);refine HU hp (thn (hg _ s5 σ3 H5 x u _ I5' r5 (step x H5 y5)) λ_ s6 ⟨σ6,H6,I6,q6⟩=>?_);refine HU hp (thn (hb _ s6 σ6 H6 _ I6 q6) λf s7 q7=>?_);have again:∀ {σ7:St} {H7:Hp},Inv X (am++pinsAt fp s5.heap) σ7 H7 s7->N σ7 H7->∃ m,m < n/\∃ i σ' H',Inv X am σ' H' s7/\tn i s7.heap/\(∀ b∈fp,H' b=none)/\W i m σ' H':=λ{σ7 H7} I7 n7=>by
   obtain⟨m',hm,w7⟩:=hN σ7 H7 n7;refine⟨m',hm,i+1,σ7,H7,I7.unpinned,T.keep _ _ _ st5 λb hb o e=>(I7.pin (b,o) (GV _ (GV _ (fc hb e)))).1,λb hb=>?_,w7⟩;obtain⟨o,e,d⟩:=T.obj _ _ st5 b hb;exact(I7.pin (b,o) (GV _ (GV _ (fc hb e)))).2.1
  cases f with
  | next=>obtain⟨σ7,H7,I7,n7⟩:=q7;exact again I7 n7
  | cont=>obtain⟨σ7,H7,I7,n7⟩:=q7;exact again I7 n7
  | brk=>obtain⟨σ7,H7,I7,q7⟩:=q7;exact⟨σ7,H7,I7.unpinned,q7⟩
  | ret v=>obtain⟨x7,σ7,H7,I7,r7,q7⟩:=q7;exact⟨x7,σ7,H7,I7.unpinned,r7,q7⟩
end
end
section
variable {f:Value->Value->Sem Value}{op op':CmpOp}{a b c:Expr}{pos:Pos}{am:Ll}{g:Int->Int->Int}{us:List Value}
abbrev R2:=V->V->Ld
def OpR (X:Cx)(f:Value->Value->Sem Value)(r:R2):Prop :=
 ∀ (am:Ll) (s:Shared) (σ:St) (H:Hp) (x y:V) (v u:Value) (Q:VK),Inv X am σ H s->RelV x v->RelV y u->r x y H Q ->
  wpAny (model X.prog X.w) X.A (f v u) (EP X am σ Q) X.xe s
def UnR (X:Cx)(f:Value->Sem Value)(r:V->Ld):Prop :=
 ∀ (am:Ll) (s:Shared) (σ:St) (H:Hp) (x:V) (v:Value) (Q:VK),Inv X am σ H s->RelV x v->r x H Q ->
  wpAny (model X.prog X.w) X.A (f v) (EP X am σ Q) X.xe s
abbrev Lc:=List V->Ld
def CallR (X:Cx)(f:Value)(r:Lc):Prop :=
 ∀ (am:Ll) (s:Shared) (σ:St) (H:Hp) (xs:List V) (us:List Value) (Q:VK),Inv X am σ H s->Vals xs us->r xs H Q ->
  wpAny (model X.prog X.w) X.A (call f us) (EP X am σ Q) X.xe s
def TruR (X:Cx)(r:V->Hp->(Bool->Lh)->Prop):Prop :=
 ∀ (am:Ll) (s:Shared) (σ:St) (H:Hp) (x:V) (v:Value) (Q:Bool->Lh),Inv X am σ H s->RelV x v->r x H Q ->
  wpAny (model X.prog X.w) X.A (truthy v) (TP X am σ Q) X.xe s
def tOp (r:R2)(ta tb:TE):TE:=λσ H Q=>ta σ H λx H1=>tb σ H1 λy H2=>r x y H2 Q
def tUn (r:V->Ld)(ta:TE):TE:=λσ H Q=>ta σ H λx H1=>r x H1 Q
def rI (C:Int->Int->Prop)(g:Int->Int->V):R2:=λx y H Q=>∃ i j,x=.int i/\y=.int j/\C i j/\Q (g i j) H
def rI0 (g:Int->Int->V):R2:=λx y H Q=>∃ i j,x=.int i/\y=.int j/\Q (g i j) H
def rU (g:Int->V):V->Ld:=λx H Q=>∃ i,x=.int i/\Q (g i) H
section
variable {X:Cx}{ta tb tc:TE}
theorem binT (ha:PE X a ta)(hb:PE X b tb){s:Shared}{σ:St}{H:Hp}{R:V->V->Lh}(I:Inv X am σ H s)
  (h:ta σ H λx H1=>tb σ H1 λy H2=>R x y H2) {Q:KU} 
  (hf:∀ v u s2 x y H2,Inv X am σ H2 s2->RelV x v->RelV y u->R x y H2->wpAny (model X.prog X.w) X.A (f v u) Q X.xe s2) :
  wpAny (model X.prog X.w) X.A (eval a X.env) (λv s₁=>wpAny (model X.prog X.w) X.A (eval b X.env) (λu s₂=>wpAny (model X.prog X.w) X.A (f v u) Q X.xe s₂) X.xe s₁) X.xe s:=by
 refine thn (ha am s σ H _ I h) λv s1 ⟨x,H1,I1,r1,q1⟩=>?_
 refine thn (hb am s1 σ H1 _ I1 q1) λu s2 ⟨y,H2,I2,r2,q2⟩=>?_
 exact hf v u s2 x y H2 I2 r1 r2 q2
theorem Eo {op:Operator}{r:R2}(ho:OpR X (binaryOp op) r)(ha:PE X a ta)(hb:PE X b tb):PE X (.BinOp a op b pos) (tOp r ta tb):=by
 intro am s σ H Q I h;exact wpAny_BinOp (binT ha hb I h λv u s2 x y H2 I2 rx ry q=>ho am s2 σ H2 x y v u Q I2 rx ry q)
theorem Cs {op:UnaryOp}{r:V->Ld}(ho:UnR X (unaryOp op) r)(ha:PE X a ta):PE X (.UnaryOp op a pos) (tUn r ta):=by
 intro am s σ H Q I h;exact UnaryOp_ (thn (ha am s σ H _ I h) λv s1 ⟨x,H1,I1,r1,q1⟩=>ho am s1 σ H1 x v Q I1 r1 q1)
theorem opI {C:Int->Int->Prop}
  (rule:∀ (i j:Int) (t u:Tok) (s:Shared) (Q:KU) (E:KU),C i j->Q (.int (g i j) s.toks) { s with toks:=s.toks+1 }->wpAny (model X.prog X.w) X.A (f (.int i t) (.int j u)) Q E s) :
  OpR X f (rI C λi j=>.int (g i j)):=by
 intro am s σ H x y v u Q I rx ry h;obtain⟨i,j,rfl,rfl,hc,q⟩:=h;obtain⟨t,rfl⟩:=rx;obtain⟨t',rfl⟩:=ry;exact rule i j t t' s _ _ hc ⟨.int (g i j),H,I.tok _,⟨_,rfl⟩,q⟩
theorem opI0 
  (rule:∀ (i j:Int) (t u:Tok) (s:Shared) (Q:KU) (E:KU),Q (.int (g i j) s.toks) { s with toks:=s.toks+1 }->wpAny (model X.prog X.w) X.A (f (.int i t) (.int j u)) Q E s) :
  OpR X f (rI0 λi j=>.int (g i j)):=by
 intro am s σ H x y v u Q I rx ry h;obtain⟨i,j,rfl,rfl,q⟩:=h;obtain⟨t,rfl⟩:=rx;obtain⟨t',rfl⟩:=ry;exact rule i j t t' s _ _ ⟨.int (g i j),H,I.tok _,⟨_,rfl⟩,q⟩
theorem opB0 {g:Int->Int->Bool}
  (rule:∀ (i j:Int) (t u:Tok) (s:Shared) (Q:KU) (E:KU),Q (.bool (g i j)) s->wpAny (model X.prog X.w) X.A (f (.int i t) (.int j u)) Q E s) :
  OpR X f (rI0 λi j=>.bl (g i j)):=by
 intro am s σ H x y v u Q I rx ry h;obtain⟨i,j,rfl,rfl,q⟩:=h;obtain⟨t,rfl⟩:=rx;obtain⟨t',rfl⟩:=ry;exact rule i j t t' s _ _ ⟨.bl (g i j),H,I,rfl,q⟩
def CDiv (i j:Int):Prop:=0 < j/\j < 1073741824
def CMul (i j:Int):Prop:=(-(2^64) < i/\i < 2^64)\/(-(2^64) < j/\j < 2^64)
theorem CMul.ok {i j:Int}(h:CMul i j):IntMulOk i j:=by
 rcases h with ⟨h1,h2⟩ | ⟨h1,h2⟩
 ·exact .of_left (intBits_le_64 h1 h2)
 ·exact .of_right (intBits_le_64 h1 h2)
theorem Db:OpR X (binaryOp .Add) (rI0 λi j=>.int (i+j)):=opI0 λ_ _ _ _ _ _ _ q=>add_int q
theorem Dc:OpR X (binaryOp .Sub) (rI0 λi j=>.int (i - j)):=opI0 λ_ _ _ _ _ _ _ q=>sub_int q
theorem De:OpR X (binaryOp .Mult) (rI CMul λi j=>.int (i*j)):=opI λ_ _ _ _ _ _ _ hc q=>mul_int q hc.ok
theorem Ar:OpR X (binaryOp .FloorDiv) (rI CDiv λi j=>.int (i/j)):=opI λi j _ _ _ _ _ hc q=>by
 have h1:=hc.1;have h2:=hc.2;exact floordiv_int (by omega) (by rw[Int.fdiv_eq_ediv_of_nonneg i (by omega)];exact q) (.inl (PyProof.noPylong_small (by omega)))
theorem Df:OpR X (binaryOp .Mod) (rI (λ_ j=>0 < j) λi j=>.int (i%j)):=opI λi j _ _ _ _ _ hc q=>by
 have h1:=hc;exact mod_int' (by omega) (by rw[Int.fmod_eq_emod_of_nonneg i (by omega)];exact q)
theorem unI {f:Value->Sem Value}{g:Int->Int}
  (rule:∀ (i:Int) (t:Tok) (s:Shared) (Q:KU) (E:KU),Q (.int (g i) s.toks) { s with toks:=s.toks+1 }->wpAny (model X.prog X.w) X.A (f (.int i t)) Q E s) :
  UnR X f (rU λi=>.int (g i)):=by
 intro am s σ H x v Q I rx h;obtain⟨i,rfl,q⟩:=h;obtain⟨t,rfl⟩:=rx;exact rule i t s _ _ ⟨.int (g i),H,I.tok _,⟨_,rfl⟩,q⟩
theorem xq:UnR X (unaryOp .USub) (rU λi=>.int (-i)):=unI λ_ _ _ _ _ q=>neg_int q
end
section
variable {X:Cx}{ta tb tc:TE}
theorem Dg {σ:St}{H:Hp}{s:Shared}{Q:VK}{k k':Bool}(I:Inv X am σ H s)(q:Q (.bl k) H)(e:k=k'):EP X am σ Q (.bool k') s:=by
 subst e;exact⟨.bl k,H,I,rfl,q⟩
theorem Ct:OpR X (compareOp .Lt) (rI0 λi j=>.bl (decide (i < j))):=opB0 λ_ _ _ _ _ _ _ q=>lt_int q
theorem qH:OpR X (compareOp .LtE) (rI0 λi j=>.bl (decide (i<=j))):=opB0 λ_ _ _ _ _ _ _ q=>le_int q
theorem Ep:OpR X (compareOp .GtE) (rI0 λi j=>.bl (decide (j<=i))):=opB0 λ_ _ _ _ _ _ _ q=>ge_int q
theorem vI:OpR X (compareOp .In) (λx y H Q=>∃ i j,x=.str i/\y=.str j/\Q (.bl (!(Builtin.Str.occurrences j i 0 j.length 1).isEmpty)) H):=by
 intro am s σ H x y v u Q I rx ry h;obtain⟨i,j,rfl,rfl,q⟩:=h;obtain⟨t,rfl⟩:=rx;obtain⟨t',rfl⟩:=ry;exact in_str (Dg I q rfl)
theorem OpR.or {r r':R2}(h:OpR X f r)(h':OpR X f r'):OpR X f (λx y H Q=>r x y H Q\/r' x y H Q):=by
 intro am s σ H x y v u Q I rx ry q;rcases q with q | q
 ·exact h am s σ H x y v u Q I rx ry q
 ·exact h' am s σ H x y v u Q I rx ry q
theorem nomark (b:Expr)(h:op≠.In:=by decide)(h2:op≠.NotIn:=by decide):behindInMarks op b=false:=by
 have e1:(op==CmpOp.In)=false:=by cases op<;>first | rfl | exact absurd rfl h
 have e2:(op==CmpOp.NotIn)=false:=by cases op<;>first | rfl | exact absurd rfl h2
 cases b<;>simp[behindInMarks,e1,e2]
theorem As {r:R2}(ho:OpR X (compareOp op) r)(ha:PE X a ta)(hb:PE X b tb)(hm:behindInMarks op b=false):PE X (.Compare a [op] [b] pos) (tOp r ta tb):=by
 intro am s σ H Q I h;exact wpAny_Compare1 (binT ha hb I h λv u s2 x y H2 I2 rx ry q=>ho am s2 σ H2 x y v u Q I2 rx ry q) hm
def tTest (t:TE):TT:=λσ H Q=>t σ H λx H'=>∃ k,x=.bl k/\Q k H'
theorem uo {r:R2}(ho:OpR X (compareOp op) r)(ha:PE X a ta)(hb:PE X b tb)(hm:behindInMarks op b=false):PT X (.Compare a [op] [b] pos) (tTest (tOp r ta tb)):=by
 intro am s σ H Q I h;refine JN (thn (ha am s σ H _ I h) λv s1 ⟨x,H1,I1,r1,q1⟩=>thn (hb am s1 σ H1 _ I1 q1) λu s2 ⟨y,H2,I2,r2,q2⟩ =>
  thn (ho am s2 σ H2 x y v u _ I2 r1 r2 q2) λc s3 ⟨z,H3,I3,r3,k,e,q3⟩=>?_) hm
 subst e;cases r3;exact Ha ⟨H3,I3,q3⟩
def tChain (r r':R2)(ta tb tc:TE):TE:=λσ H Q=>ta σ H λx H1=>tb σ H1 λy H2=>r x y H2 λz H3=>∃ k,z=.bl k /\
 (if k=true then tc σ H3 λw' H4=>r' y w' H4 Q else Q (.bl false) H3)
theorem xr {r r':R2}(ho:OpR X (compareOp op) r)(ho':OpR X (compareOp op') r')(ha:PE X a ta)(hb:PE X b tb)(hc:PE X c tc)
  (hm:lastMarks [op,op'] [b,c]=false:=by with_unfolding_all rfl):PE X (.Compare a [op,op'] [b,c] pos) (tChain r r' ta tb tc):=by
 intro am s σ H Q I h;refine Compare_chain (thn (ha am s σ H _ I h) λv s1 ⟨x,H1,I1,r1,q1⟩=>chain_link (thn (hb am s1 σ H1 _ I1 q1) λu s2 ⟨y,H2,I2,r2,q2⟩ =>
  thn (ho am s2 σ H2 x y v u _ I2 r1 r2 q2) λd s3 ⟨z,H3,I3,r3,k,e,q3⟩=>?_)) hm
 subst e;cases r3
 wp_walk
 cases k with
 | false=>exact ite_ff ⟨.bl false,H3,I3,rfl,q3⟩
 | true=>exact ite_tt (chain_last (thn (hc am s3 σ H3 _ I3 q3) λw' s4 ⟨z',H4,I4,r4,q4⟩=>ho' am s4 σ H4 y z' u w' Q I4 r2 r4 q4))
theorem xt {r r':R2}(ho:OpR X (compareOp op) r)(ho':OpR X (compareOp op') r')(ha:PE X a ta)(hb:PE X b tb)(hc:PE X c tc)
  (hm:lastMarks [op,op'] [b,c]=false:=by with_unfolding_all rfl):PT X (.Compare a [op,op'] [b,c] pos) (tTest (tChain r r' ta tb tc)):=by
 intro am s σ H Q I h;refine isTrue_chain (thn (ha am s σ H _ I h) λv s1 ⟨x,H1,I1,r1,q1⟩=>test_link (thn (hb am s1 σ H1 _ I1 q1) λu s2 ⟨y,H2,I2,r2,q2⟩ =>
  thn (ho am s2 σ H2 x y v u _ I2 r1 r2 q2) λd s3 ⟨z,H3,I3,r3,k,e,q3⟩=>?_)) hm
 subst e;cases r3;refine Ha ?_;cases k with
 | false =>
  obtain⟨k',e',q'⟩:=q3;cases e';exact ite_ff ⟨H3,I3,q'⟩
 | true =>
  refine ite_tt (test_last (thn (hc am s3 σ H3 _ I3 q3) λw' s4 ⟨z',H4,I4,r4,q4⟩=>thn (ho' am s4 σ H4 y z' u w' _ I4 r2 r4 q4) λd' s5 ⟨z2,H5,I5,r5,k2,e2,q5⟩=>?_));subst e2;cases r5;exact Ha ⟨H5,I5,q5⟩
def TruV (K:Frag)(x:V)(H:Hp)(k:Bool):Prop :=
 match x with
 | .non=>k=false
 | .bl b=>k=b
 | .int i=>k=(i != 0)
 | .str y=>y.length<=sizeLine/\k=((y.length:Int) != 0)
 | .byt y=>y.size<=sizeLine/\k=((y.size:Int) != 0)
 | .ref p=>(∃ xs,SqL K H p xs/\k = !xs.isEmpty)\/(∃ xs,SqT K H p xs/\k = !xs.isEmpty)\/∃ Gn,H p=some (.dK Gn)/\k = !Gn.isEmpty
 | _=>False
theorem sD {κ:Type}{Gn:List (κ×V)}{vs:List (κ×Value)}(r:KV Gn vs):(!vs.isEmpty) = !Gn.isEmpty:=by
 cases r<;>rfl
theorem lD {xs:List V}{its:List Value}(r:Vals xs its):(!its.toArray.isEmpty) = !xs.isEmpty:=by
 cases r<;>simp
theorem line63:(sizeLine:Nat) < 2^63:=by rw[Go];decide
theorem Fb:TruR X (λx H Q=>∃ k,TruV X.K x H k/\Q k H):=by
 intro am s σ H x v Q I rx h;obtain⟨k,e,q⟩:=h;have hl:=line63;have hs:=Go;cases x with
 | non =>
  cases rx;have e':k=false:=e;subst e';exact truthy_none ⟨H,I,q⟩
 | bl b =>
  cases rx;have e':k=b:=e;subst e';exact Ha ⟨H,I,q⟩
 | int i =>
  obtain⟨t,rfl⟩:=rx;have e':=e;subst e';exact PySem.P.truthy_int ⟨H,I,q⟩
 | str y =>
  obtain⟨t,rfl⟩:=rx;obtain⟨hy,e'⟩:y.length<=sizeLine/\k=((y.length:Int) != 0):=e;subst e';exact PySem.P.truthy_str (by omega) ⟨H,I.tok _,q⟩
 | byt y =>
  obtain⟨t,rfl⟩:=rx;obtain⟨hy,e'⟩:y.size<=sizeLine/\k=((y.size:Int) != 0):=e;subst e';exact PySem.W.truthy_bytes (by omega) ⟨H,I.tok _,q⟩
 | ref p =>
  cases rx;have e':=e;rcases e' with ⟨xs,hx,e'⟩ | ⟨xs,hx,e'⟩ | ⟨Gn,hx,e'⟩
  ·subst e';obtain⟨its,r,pl,hz⟩:=I.list hx;have Km:=r.length;exact wpAny_truthy_list pl.isList (by simp only[F9];omega) ⟨H,I.tok _,by rw[lD r];exact q⟩
  ·subst e';obtain⟨its,r,pl,hz⟩:=I.tuple hx;have Km:=r.length;exact truthy_tuple pl (by simp only[F9];omega) ⟨H,I.tok _,by rw[lD r];exact q⟩
  ·subst e';obtain⟨hz,hS,vs,r,m⟩:Gn.length<=sizeLine/\(p==sysModules)=false/\∃ vs,KV Gn vs/\s.heap.DictOf (mixKind X.prog X.w) p vs:=I.hok p _ hx;have Km:=IZ r;exact wpAny_truthy_dict hS m (by omega) ⟨H,I.tok _,by rw[sD r];exact q⟩
 | _=>exact(show False from e).elim
def PlainIxT (b:Expr):Prop:=∀ o i,subscripted b false o i=operate [o,i] (getItem o i)
theorem vals1 {x:V}(r:Vals [x] us):∃ u,us=[u]/\RelV x u:=by
 cases r with
 | cons r1 r2=>cases r2;exact⟨_,rfl,r1⟩
theorem vals2 {x y:V}(r:Vals [x,y] us):∃ u w',us=[u,w']/\RelV x u/\RelV y w':=by
 cases r with
 | cons r1 r2 =>
  cases r2 with
  | cons r3 r4=>cases r4;exact⟨_,_,rfl,r1,r3⟩
theorem xv:CallR X (.builtin "abs") (λxs H Q=>∃ i,xs=[.int i]/\Q (.int (if i < 0 then -i else i)) H):=by
 intro am s σ H xs us Q I r h;obtain⟨i,rfl,q⟩:=h;obtain⟨u,rfl,t,rfl⟩:=vals1 r;exact call_abs_int λu tk=>⟨.int (if i < 0 then -i else i),H,I.tok _,⟨_,rfl⟩,q⟩
theorem vJ (hc:X.calm=true):CallR X (.builtin "max") (λxs H Q=>∃ i j,xs=[.int i,.int j]/\Q (.int (if j > i then j else i)) H):=by
 intro am s σ H xs us Q I r h;obtain⟨i,j,rfl,q⟩:=h;obtain⟨u,w',rfl,⟨t,rfl⟩,⟨t',rfl⟩⟩:=vals2 r;refine max_two_ints (I.ok.hd hc) λh' tk k=>⟨_,H,I.kept k,?_,q⟩
 by_cases hj:j > i
 ·rw[if_pos hj,if_pos hj];exact⟨_,rfl⟩
 ·rw[if_neg hj,if_neg hj];exact⟨_,rfl⟩
theorem vK (hc:X.calm=true):CallR X (.builtin "min") (λxs H Q=>∃ i j,xs=[.int i,.int j]/\Q (.int (if j < i then j else i)) H):=by
 intro am s σ H xs us Q I r h;obtain⟨i,j,rfl,q⟩:=h;obtain⟨u,w',rfl,⟨t,rfl⟩,⟨t',rfl⟩⟩:=vals2 r;refine min_two_ints (I.ok.hd hc) λh' tk k=>⟨_,H,I.kept k,?_,q⟩
 by_cases hj:j < i
 ·rw[if_pos hj,if_pos hj];exact⟨_,rfl⟩
 ·rw[if_neg hj,if_neg hj];exact⟨_,rfl⟩
theorem vL:CallR X (.type "int") (λxs H Q=>(∃ i,xs=[.int i]/\Q (.int i) H)\/∃ k,xs=[.bl k]/\Q (.int (if k then 1 else 0)) H):=by
 intro am s σ H xs us Q I r h;rcases h with ⟨i,rfl,q⟩ | ⟨k,rfl,q⟩
 ·obtain⟨u,rfl,t,rfl⟩:=vals1 r;exact call_int_int ⟨.int i,H,I,⟨_,rfl⟩,q⟩
 ·obtain⟨u,rfl,r1⟩:=vals1 r;cases r1;exact call_int_bool ⟨.int (if k then 1 else 0),H,I.tok _,⟨_,rfl⟩,q⟩
def LenV (K:Frag)(x:V)(H:Hp)(n:Nat):Prop :=
 match x with
 | .str y=>y.length<=sizeLine/\n=y.length
 | .byt y=>y.size<=sizeLine/\n=y.size
 | .ref p=>(∃ xs,SqL K H p xs/\n=xs.length)\/∃ xs,SqT K H p xs/\n=xs.length
 | _=>False
theorem xw:CallR X (.builtin "len") (λxs H Q=>∃ x n,xs=[x]/\LenV X.K x H n/\Q (.int n) H):=by
 intro am s σ H xs us Q I r h;obtain⟨x,n,rfl,e,q⟩:=h;obtain⟨u,rfl,rx⟩:=vals1 r;have hl:=line63;have hs:=Go;cases x with
 | str y =>
  obtain⟨t,rfl⟩:=rx;obtain⟨hy,e'⟩:y.length<=sizeLine/\n=y.length:=e;subst e';exact len_str (by omega) ⟨.int _,H,I.tok _,⟨_,rfl⟩,q⟩
 | byt y =>
  obtain⟨t,rfl⟩:=rx;obtain⟨hy,e'⟩:y.size<=sizeLine/\n=y.size:=e;subst e';exact PySem.W.len_bytes (by omega) ⟨.int _,H,I.tok _,⟨_,rfl⟩,q⟩
 | ref p =>
  cases rx;have e':=e;rcases e' with ⟨xs,hx,e'⟩ | ⟨xs,hx,e'⟩
  ·subst e';obtain⟨its,r',pl,hz⟩:=I.list hx;have Km:=r'.length;exact Calls.call_len_list pl.isList (by simp only[F9];omega) ⟨.int xs.length,H,I.tok _,⟨_,by simp only[F9];rw[Km]⟩,q⟩
  ·subst e';obtain⟨its,r',pl,hz⟩:=I.tuple hx;have Km:=r'.length;exact len_tuple pl (by simp only[F9];omega) ⟨.int xs.length,H,I.tok _,⟨_,by simp only[F9];rw[Km]⟩,q⟩
 | _=>exact(show False from e).elim
end
end
section
variable {C dx x a:Addr}{s:Shared}{H:Hp}{f:Str}{mA:KW}{w:World}{A:Around}{E:KU}{K:Frag}{pl:Sem Bool}{v:V}{X:Cx}{am:Ll}{σ:St}{prog:Program}{o:Lm}{u:Value}{b:Bool}{pos:Pos}
structure ObjM (h:Heap)(x dx C:Addr)(mA:KW):Prop where
 obj:h.get? x=some (instObj C dx)
 ns:h.Ns1 dx mA
 ne:dx≠x
theorem vM {h:Heap}(n:h.Ns1 dx mA):∃ od,h.get? dx=some od/\∀ name,lookIn name od=some (mA name):=by
 obtain⟨o,es,ep,ho,hd,hk,_,hm⟩:=n;refine⟨o,ho,λname=>?_⟩;have e:=hm name;unfold nsFind findBy at e;rw[<- Array.find?_toList]at e;unfold lookIn;rw[hd]
 dsimp only
 split
 ·rename_i y q;rw[q]at e;exact GA some e
 ·rename_i q;rw[q]at e;have a:es.toList.any (·.refKey)=false:=by
   rw[List.any_eq_false];intro y hy;obtain⟨z,t,hkey⟩:=hk y (Array.mem_toList_iff.mp hy)
   simp[DictEntry.refKey,hkey]
  have a':¬ es.toList.any (·.refKey)=true:=by rw[a];exact Gv
  rw[if_neg a'];exact GA some e
theorem ObjM.look {h:Heap}(I:ObjM h x dx C mA):∃ od,PySem.W.InstAt h x (instObj C dx) C (some od)/\∀ name,lookIn name od=some (mA name) :=
 let ⟨od,ho,hl⟩:=vM I.ns
 ⟨od,⟨I.obj,rfl,rfl,ho⟩,hl⟩
section
variable {f:Addr}{name:Str}{v:Value}
theorem At {expr:Bool}{Q:KU}(X:K.In s.heap)(I:ObjM s.heap x dx C mA)(hg:plainGet K C name=true)(hh:PySem.W.hasDictIn K C=true)
  (ha:findIn K (.ref C) name=some none) (hv:mA name=some v) (hv':PySem.W.handedIn v=true) (h:Q v { s with toks:=s.toks+1 }) :
  wpAny (model prog w) A (getAttr (.ref x) name expr) Q E s:=by
 obtain⟨od,J,hl⟩:=I.look;exact PySem.W.get_value X J (IP hg).1 (PySem.W.findObj_own hh ha rfl (by rw[hl,hv])) hv' h
theorem xx {Q:Value×List Value->Lg}(X:K.In s.heap)(I:ObjM s.heap x dx C mA)(hg:plainGet K C name=true)
  (hf:findIn K (.ref C) name=some (some (.ref f))) (ht:isFn K (.ref f)=true) (hv:mA name=none) (h:Q (.ref f,[.ref x]) s) :
  wpAny (model prog w) A (getMethod (.ref x) name pl) Q E s:=by
 obtain⟨od,J,hl⟩:=I.look;exact PySem.W.method_fn X J (IP hg).1 (IP hg).2 hf (Hl.mp ht) (by show (lookIn name od).map (·.isSome)=some false;rw[hl,hv];rfl) h
theorem Au {ns:List Str}{Q:Unit->Lg}(X:K.In s.heap)(I:ObjM s.heap x dx C mA)
  (hs:findIn K (.ref C) "__setattr__"=some (some (.builtin "object.__setattr__"))) (hp:plainOver K C=true) (ht:takerIn K C name=some none) (hh:PySem.W.hasDictIn K C=true)
  (hw:PySem.Within mA ns) (K2:ns.length<=sizeLine)
  (h:∀ h',ObjM h' x dx C (λy=>if y=name then some v else mA y)->Heap.SameBut dx s.heap h'->Q () { s with heap:=h',toks:=s.toks+2 }) :
  wpAny (model prog w) A (setAttr (.ref x) name v) Q E s:=by
 obtain⟨od,J,hl⟩:=I.look;refine PySem.W.set_plain X J hs (PySem.W.osa_open X J hp ht λb=>?_);obtain⟨cd,hc,hd'⟩:=PySem.W.any_some hh;have hx:=I.obj;refine F3 (F6 (F3 (F3 (wpAny_loadPart hx (F3 (PySem.W.Looks.here (PySem.W.looks_clsIn X hc) ?_))))));rw[hd'];refine F6 (F3 (F6 (F3 ?_)));refine wpAny_nsSet1 I.ns λh' hn2 hs2=>?_
 obtain⟨oD,esD,epD,hoD,hdD,hcD⟩:=hn2.count (PySem.Within.cons name v hw);refine F3 (wpAny_lookBehind hoD (by rw[hdD];exact pastItsLine_dict (GF hcD (by grind))) ?_);exact F6 (h _ ⟨(hs2.2 _ (GM I.ne)).trans I.obj,hn2,I.ne⟩ hs2)
theorem xy {R:Result->Lg}{vs:List Value}{kw:List (Str×Value)}(X:K.In s.heap)(hm:makesIn K C=true)
  (hi:findIn K (.ref C) "__init__"=some (some (.ref f))) (hf:PySem.W.typeIn K (.ref f)=some (.type "function"))
  (h:codeAny (model prog w) (A.under (.builtin "type.__call__" ⟨.ref C::vs,kw⟩)) (.call (.ref f) ⟨.ref (s.heap.objs.size+1)::vs,kw⟩) (PySem.W.InitBack (s.heap.objs.size+1) R)
   { s with heap:=(s.heap.push emptyDict).push (instObj C s.heap.objs.size) }) :
  codeAny (model prog w) A (.call (.ref C) ⟨vs,kw⟩) R s:=by
 obtain⟨hh,g,d,t,os⟩:=s;exact PySem.W.make_core (PySem.W.makes_of X hm) (PySem.W.looks_findIn X hi) (λself=>PySem.W.bind_fn X self hf) (.inl rfl) h
end
def putF (f:Str)(v:V):List (Str×V)->Ln
 | []=>[(f,v)]
 | (g,x)::r=>if g=f then (g,v)::r else (g,x)::putF f v r
theorem kF (f g:Str)(v:V):∀ fs:Ln,(putF f v fs).lookup g=if g=f then some v else fs.lookup g
 | []=>by
  show List.lookup g [(f,v)]=_;by_cases h:g=f
  ·have hb:=Hl.mpr h;simp only[List.lookup,hb,if_pos h]
  ·have hb:=Hc.mpr h;simp only[List.lookup,hb,if_neg h]
 | (k,x)::r=>by
  have ih:=kF f g v r;rw[show putF f v ((k,x)::r)=(if k=f then (k,v)::r else (k,x)::putF f v r) from rfl];by_cases hk:k=f
  ·rw[if_pos hk];by_cases h:g=k
   ·have hb:=Hl.mpr h;simp only[List.lookup,hb,if_pos (h.trans hk)]
   ·have hb:=Hc.mpr h;simp only[List.lookup,hb,if_neg (λe:g=f=>h (e.trans hk.symm))]
  ·rw[if_neg hk];by_cases h:g=k
   ·have hb:=Hl.mpr h;simp only[List.lookup,hb,if_neg (λe:g=f=>hk (h.symm.trans e))]
   ·have hb:=Hc.mpr h;simp only[List.lookup,hb];exact ih
theorem jQ (f:Str)(v:V):∀ fs:Ln,f∈(putF f v fs).map (·.1)/\∀ g,g∈fs.map (·.1)->g∈(putF f v fs).map (·.1)
 | []=>⟨by simp[putF],λg h=>by simp at h⟩
 | (k,x)::r=>by
  obtain⟨i1,i2⟩:=jQ f v r;rw[show putF f v ((k,x)::r)=(if k=f then (k,v)::r else (k,x)::putF f v r) from rfl];by_cases hk:k=f
  ·rw[if_pos hk];subst hk;exact⟨by simp,λg h=>by simpa using h⟩
  ·rw[if_neg hk];refine⟨?_,λg h=>?_⟩
   ·rw[F5];exact GI _ i1
   ·rw[F5]at h ⊢;rcases Gi.mp h with e | e
    ·exact Gi.mpr (.inl e)
    ·exact GI _ (i2 g e)
theorem kG (f:Str)(v:V):∀ fs:Ln,(putF f v fs).length<=fs.length+1
 | []=>by simp[putF]
 | (k,x)::r=>by
  have ih:=kG f v r;rw[show putF f v ((k,x)::r)=(if k=f then (k,v)::r else (k,x)::putF f v r) from rfl];by_cases hk:k=f
  ·rw[if_pos hk,Gb,Gb];omega
  ·rw[if_neg hk,Gb,Gb];omega
theorem RelO.some_of (r:RelO (some v) o):∃ u,o=some u/\RelV v u:=by
 cases o with
 | none=>exact(show False from r).elim
 | some u=>exact⟨u,rfl,r⟩
theorem RelO.none_of (r:RelO none o):o=none:=by
 cases o with
 | none=>rfl
 | some u=>exact(show False from r).elim
theorem vN (r:RelV v u):PySem.W.handedIn u=true:=by
 cases v with
 | non=>cases (show u=Value.none from r);rfl
 | bl b=>cases (show u=Value.bool b from r);rfl
 | int i=>obtain⟨t,e⟩:=(show ∃ t,u=Value.int i t from r);cases e;rfl
 | str x=>obtain⟨t,e⟩:=(show ∃ t,u=Value.str x t from r);cases e;rfl
 | byt b=>obtain⟨t,e⟩:=(show ∃ t,u=Value.bytes b t from r);cases e;rfl
 | flt b=>obtain⟨t,e⟩:=(show ∃ t,u=Value.float b t from r);cases e;rfl
 | ref a=>cases (show u=Value.ref a from r);rfl
 | ty n=>cases (show u=Value.type n from r);rfl
section
variable {P:Program}{H':Hp}{h h':Heap}{fs fs':Ln}
theorem pz (hok:HOk P w H h)(e:H a=some (.ins C dx fs)):∃ mA,ObjM h a dx C mA/\(∀ f,RelO (fs.lookup f) (mA f))/\PySem.Within mA (fs.map (·.1))/\fs.length<=1000/\H dx=some (.own a):=by
 obtain⟨d,z,ne,ob,mA,n,r,q⟩:=(show ObjOk P w H h a (.ins C dx fs) from hok a _ e);exact⟨mA,⟨ob,n,ne⟩,r,q,z,d⟩
end
structure Cls (K:Frag)(C:Addr):Prop where
 pg:plainGet K C Str.empty=true
 hd:PySem.W.hasDictIn K C=true
 po:plainOver K C=true
 sa:findIn K (.ref C) "__setattr__"=some (some (.builtin "object.__setattr__"))
theorem Cls.get (c:Cls K C)(f:Str):plainGet K C f=true:=c.pg
def NoAttr (K:Frag)(C:Addr)(f:Str):Prop:=findIn K (.ref C) f=some none
theorem NoAttr.taker (n:NoAttr K C f):takerIn K C f=some none:=by
 unfold takerIn;rw[show findIn K (.ref C) f=some none from n];rfl
structure Meth (K:Frag)(C:Addr)(m:Str)(f:Addr):Prop where
 at_:findIn K (.ref C) m=some (some (.ref f))
 fn:isFn K (.ref f)=true
 kp:keepIn K (.ref f)=true
section
variable {fs:Ln}
theorem sE {Q:KU}(I:Inv X am σ H s)(e:H a=some (.ins C dx fs))(c:Cls X.K C)(n:NoAttr X.K C f)(l:fs.lookup f=some v)
  (h:∀ u s',Inv X am σ H s'->RelV v u->Q u s'):wpAny (model X.prog X.w) A (getAttr (.ref a) f b) Q E s:=by
 obtain⟨mA,O,r,_,_,_⟩:=pz I.hok e;obtain⟨u,hu,ru⟩:=RelO.some_of (by rw[<- l];exact r f);exact At I.kIn O (c.get f) c.hd n hu (vN ru) (h u _ (I.tok _) ru)
theorem iL {m:Str}{g:Addr}{Q:Value×List Value->Lg}(I:Inv X am σ H s)(e:H a=some (.ins C dx fs))(c:Cls X.K C)(k:Meth X.K C m g)(l:fs.lookup m=none)
  (h:Q (.ref g,[.ref a]) s):wpAny (model X.prog X.w) A (getMethod (.ref a) m pl) Q E s:=by
 obtain⟨mA,O,r,_,_,_⟩:=pz I.hok e;have hn:mA m=none:=RelO.none_of (by rw[<- l];exact r m);exact xx I.kIn O (c.get m) k.at_ k.fn hn h
theorem sF {y:V}{Q:Unit->Lg}(I:Inv X am σ H s)(e:H a=some (.ins C dx fs))(c:Cls X.K C)(n:NoAttr X.K C f)(hl:fs.length < 1000)(ry:RelV y u)
  (h:∀ s',Inv X am σ (upd H a (.ins C dx (putF f y fs))) s'->Q () s'):wpAny (model X.prog X.w) A (setAttr (.ref a) f u) Q E s:=by
 obtain⟨mA,O,r,wi,_,ho⟩:=pz I.hok e;have hz:(fs.map (·.1)).length<=sizeLine:=by rw[Gg,Go];omega
 refine Au I.kIn O c.sa c.po n.taker c.hd wi hz λh' O' sb=>h _ ?_
 have hd:∃ o,h'.get? dx=some o:=let ⟨o,_,_,e',_⟩:=O'.ns;⟨o,e'⟩;refine I.write (by rw[e];exact Gw) (.inr ho) (λb q hb z=>(sb.2 b hb).trans z) hd ?_;refine⟨by rw[ae O.ne];exact ho,?_,O.ne,O'.obj,_,O'.ns,λg=>?_,λg hg=>?_⟩
 ·have:=kG f y fs;omega
 ·rw[kF];by_cases q:g=f
  ·rw[if_pos q,if_pos q];exact ry
  ·rw[if_neg q,if_neg q];exact r g
 ·by_cases q:g=f
  ·rw[q];exact(jQ f y fs).1
  ·refine(jQ f y fs).2 g (wi g λz=>hg ?_);show (if g=f then some u else mA g)=none;rw[if_neg q];exact z
theorem Inv.made (I:Inv X am σ H s):Inv X am σ (upd (upd H s.heap.objs.size (.own (s.heap.objs.size+1))) (s.heap.objs.size+1) (.ins C s.heap.objs.size []))
  { s with heap:=(s.heap.push emptyDict).push (instObj C s.heap.objs.size) }:=by
 have e1:(s.heap.push emptyDict).get? s.heap.objs.size=some emptyDict:=Ge s.heap rfl;have e2:((s.heap.push emptyDict).push (instObj C s.heap.objs.size)).get? (s.heap.objs.size+1)=some (instObj C s.heap.objs.size):=by
  have:=Ge (s.heap.push emptyDict) (o:=instObj C s.heap.objs.size) rfl
  rwa [G2]at this
 have e3:(s.heap.push emptyDict).Ns s.heap.objs.size (λ_=>none):=⟨emptyDict,#[],_,e1,rfl,(λe he=>absurd he (by simp)),λ_=>rfl⟩;have I1:=I.laid (o:=.own (s.heap.objs.size+1)) (t':=s.toks) (λb u q=>F4 _ q) (F7 _) ⟨_,e1⟩;refine I1.laid (λb u q=>F4 _ q) (Nat.le_of_eq (G2 _ _)) ?_;have ne:s.heap.objs.size≠s.heap.objs.size+1:=Gf (Jo _);refine⟨by rw[ae ne,ah],GQ _,ne,e2,λ_=>none,(Heap.Ns1.of_empty e3).at λo q=>F4 _ q,λ_=>Gw,λy hy=>absurd rfl hy⟩
theorem Av {env:Env}{e:Expr}{Q:KU}(hb:attributeBase e f env (eval e env)=eval e env)
  (h:wpAny (model prog w) A (eval e env) (λo s₁=>wpAny (model prog w) A (getAttr o f true) Q E s₁) E s):wpAny (model prog w) A (eval (.Attribute e f pos) env) Q E s :=
 Attribute_any_ h (by rw[arm_eval_Attribute,hb])
end
def tFld (K:Frag)(ta:TE)(f:Str):TE:=λσ H Q=>ta σ H λx H1=>∃ a C dx fs v,x=.ref a/\H1 a=some (.ins C dx fs)/\Cls K C/\NoAttr K C f/\fs.lookup f=some v/\Q v H1
def sFld (K:Frag)(ta tv:TE)(f:Str):TS:=λD σ H=>tv σ H λy H1=>ta σ H1 λx H2=>∃ a C dx fs,x=.ref a/\H2 a=some (.ins C dx fs)/\Cls K C/\NoAttr K C f/\fs.length < 1000 /\
 D.nx σ (upd H2 a (.ins C dx (putF f y fs)))
section
variable {o e value:Expr}{Kn tpos:Pos}{ta tv:TE}
theorem Dh (he:PE X e ta)(hb:attributeBase e f X.env (eval e X.env)=eval e X.env):PE X (.Attribute e f pos) (tFld X.K ta f):=by
 intro am s σ H Q I h;refine Av hb (thn (he am s σ H _ I h) λu s1 ⟨x,H1,I1,rx,a,C,dx,fs,v,ex,ea,c,n,l,q⟩=>?_);subst ex;obtain rfl:u=Value.ref a:=rx;exact sE I1 ea c n l λu' s2 I2 ru=>⟨v,H1,I2,ru,q⟩
theorem Di (ha:PE X o ta)(hv:PE X value tv)(hs:swapsWith value (some (.Attribute o f Kn)) pos.line X.env=pure false):PS X (.Assign [.Attribute o f Kn] value pos) (sFld X.K ta tv f):=by
 intro am s σ H D I h;refine plainObj_wpAny_Assign_Attribute (thn (hv am s σ H _ I h) λu s1 ⟨y,H1,I1,ry,q⟩=>thn (ha am s1 σ H1 _ I1 q) λov s2 ⟨x,H2,I2,rx,a,C,dx,fs,ex,ea,c,n,l,q2⟩=>?_) hs;subst ex;obtain rfl:ov=Value.ref a:=rx;exact sF I2 ea c n l ry λs3 I3=>⟨σ,_,I3,q2⟩
theorem Cu {m:Str}{IR:Pos}{args:Lp}{Q:KU}{te:TE}(he:PE X e te)(I:Inv X am σ H s)
  (h:te σ H λx H1=>∃ a C dx fs g,x=.ref a/\H1 a=some (.ins C dx fs)/\Cls X.K C/\Meth X.K C m g/\fs.lookup m=none /\
   ∀ s1,Inv X am σ H1 s1->wpAny (model X.prog X.w) X.A (callWith pos (.ref g) [.ref a] (backTo pos (starEach args X.env)) (backToKw pos (keywordEach [] X.env))) Q X.xe s1)
  (ht:eval (.Call (.Attribute e m IR) args [] pos) X.env=(do
   let ov <- eval e X.env
   standAt IR.atName
   let (f,first) <- holding [ov] (getMethod ov m pl)
   callWith pos f first (backTo pos (starEach args X.env)) (backToKw pos (keywordEach [] X.env)))) :
  wpAny (model X.prog X.w) X.A (eval (.Call (.Attribute e m IR) args [] pos) X.env) Q X.xe s:=by
 refine methodCall_KW (thn (he am s σ H _ I h) λu s1 ⟨x,H1,I1,rx,a,C,dx,fs,g,ex,ea,c,k,l,q⟩=>?_) ht;subst ex;obtain rfl:u=Value.ref a:=rx;exact iL I1 ea c k l (q s1 I1)
end
section
variable {Q:KU}{c:Value}
inductive TyOf (K:Frag)(H:Hp):V->Value->Prop where
 | non:TyOf K H .non (.type "NoneType")
 | bl (x:Bool):TyOf K H (.bl x) (.type "bool")
 | int (i:Int):TyOf K H (.int i) (.type "int")
 | str (x:Str):TyOf K H (.str x) (.type "str")
 | flt (x:UInt64):TyOf K H (.flt x) (.type "float")
 | lst {a:Addr} {xs:List V} (e:H a=some (.lst xs)):TyOf K H (.ref a) (.type "list")
 | frz {a:Addr} {o:Obj} {xs:List V} (e:H a=some (.frz o (.lst xs))):TyOf K H (.ref a) (.type "list")
 | tup {a:Addr} {xs:List V} (e:H a=some (.tup xs)):TyOf K H (.ref a) (.type "tuple")
 | dK {a:Addr} {Gn:List (Key×V)} (e:H a=some (.dK Gn)):TyOf K H (.ref a) (.type "dict")
 | dT {a:Addr} {Gn:List (List Key×V)} (e:H a=some (.dT Gn)):TyOf K H (.ref a) (.type "dict")
 | ins {a C dx:Addr} {fs:Ln} (e:H a=some (.ins C dx fs)) (cl:Cls K C) (ha:findIn K (.ref C) "__class__"=some (some (.builtin "object.__class__")))
   (hn:PySem.W.specialIn K (.builtin "object.__class__") "__get__"=some (some (.builtin "getset_descriptor.__get__"))) (htk:PySem.W.takesIn K (.builtin "object.__class__")=some true)
   (hm:PySem.W.mroIn K C (.type "object")=some true):TyOf K H (.ref a) (.ref C)
end
end
section
variable {A:Around}{k:Nat}{us:List Value}{s:Shared}{H:Hp}{ps N:List Str}{C f:Addr}{X:Cx}{K:Frag}{kindOf:Str->Option NameKind}{e o:Expr}{es:Lp}{t:TA}{pos IR:Pos}{P:Program}{mg:KW}{base:Heap}{am:Ll}{σ:St}{fd:FuncData}{E:XK}{vs:List V}{kw:List (Str×Value)}{outer:List Env}{pl:Sem Bool}{v:Value}{qual:Str}{scope:Scope}
structure Room (k:Nat)(A:Around):Prop where
 hd:A.handled=none
 dp:A.depth+3*k+5 < recursionLimit
 un:A.units+16*k+200 < cLine
theorem Room.mono {j:Nat}(r:Room k A)(h:j<=k):Room j A:=⟨r.hd,by have:=r.dp;omega,by have:=r.un;omega⟩
theorem Room.deeper (r:Room (k+1) A)(env:Env):Room k (A.deeper env) :=
 ⟨r.hd,by have:=r.dp;show A.depth+1+3*k+5 < _;omega,by have:=r.un;show A.units+3+16*k+200 < _;omega⟩
structure RoomW (k:Nat)(A:Around):Prop where
 hd:A.handled=none
 dp:A.depth+3*k+3 < recursionLimit
 un:A.units+16*k+190 < cLine
theorem Room.w (r:Room k A):RoomW k A:=⟨r.hd,by have:=r.dp;omega,by have:=r.un;omega⟩
theorem RoomW.deeper (r:RoomW (k+1) A)(env:Env):Room k (A.deeper env) :=
 ⟨r.hd,by have:=r.dp;show A.depth+1+3*k+5 < _;omega,by have:=r.un;show A.units+3+16*k+200 < _;omega⟩
theorem RoomW.depth (r:RoomW k A):A.depth < recursionLimit:=by have:=r.dp;omega
theorem sG :(A.under (.builtin "type.__call__" ⟨.ref C::us,kw⟩)).depth=A.depth+1:=by
 first | rfl | simp[Around.under,Code.weight,Code.isCreation,Code.isGuard,Code.isCaller,Code.frames,Code.isFrame,guardIds]
theorem sH :(A.under (.builtin "type.__call__" ⟨.ref C::us,kw⟩)).units=A.units+1:=by
 first | rfl | simp[Around.under,Code.cUnits,Code.frames,Code.isFrame]
theorem Room.make (r:Room k A)(C:Addr)(us:List Value)(kw:List (Str×Value)):RoomW k (A.under (.builtin "type.__call__" ⟨.ref C::us,kw⟩)) :=
 ⟨r.hd,by have:=r.dp;rw[sG];omega,by have:=r.un;rw[sH];omega⟩
def tNil:TA:=λ_ H Q=>Q [] H
def tCons (ta:TE)(tr:TA):TA:=λσ H Q=>ta σ H λx H1=>tr σ H1 λxs H2=>Q (x::xs) H2
section
variable {te:TE}
theorem iM:PA X [] tNil:=λ_ _ _ _ H Q I h=>Io ⟨[],H,I,.nil,h⟩
abbrev Id (X:Cx)(e:Expr)(es:Lp):Prop:=starEach (e::es) X.env=(false,eval e X.env)::starEach es X.env
theorem cj (ha:PE X e te)(hr:PA X es t)(hs:Id X e es:=by rfl):PA X (e::es) (tCons te t):=by
 intro pos am s σ H Q I h;rw[hs];refine HZ (thn (ha am s σ H _ I h) λu s1 ⟨x,H1,I1,r1,q1⟩=>?_);exact thn (hr pos am s1 σ H1 _ I1 q1) λus s2 ⟨xs,H2,I2,r2,q2⟩=>⟨x::xs,H2,I2,.cons r1 r2,q2⟩
def tTup (t:TA):TE:=λσ H Q=>t σ H λxs H1=>xs.length<=sizeLine/\∀ p,H1 p=none->Q (.ref p) (upd H1 p (.tup xs))
def tLst (t:TA):TE:=λσ H Q=>t σ H λxs H1=>xs.length<=sizeLine/\∀ p,H1 p=none->Q (.ref p) (upd H1 p (.lst xs))
theorem Dj {x1}(h:PA X es t):PE X (.Tuple es x1 pos) (tTup t):=by
 intro am s σ H Q I hq;refine wpAny_Tuple_spliced (thn (h pos am s σ H _ I hq) λus s1 ⟨xs,H1,I1,r,z,q⟩=>⟨by rw[<- r.length];exact z,?_⟩);have hf:=I1.hok.fresh (F7 _);refine⟨.ref s1.heap.objs.size,upd H1 s1.heap.objs.size (.tup xs),I1.laid (λb u e=>F4 _ e) (F7 _) ?_,rfl,q _ hf⟩;exact⟨z,us,r,TupO.new _ _⟩
theorem xz (h:PA X es t):PE X (.List es pos) (tLst t):=by
 intro am s σ H Q I hq;refine wpAny_List_spliced (thn (h pos am s σ H _ I hq) λus s1 ⟨xs,H1,I1,r,z,q⟩=>⟨by rw[<- r.length];exact z,?_⟩);have hf:=I1.hok.fresh (F7 _);refine⟨.ref s1.heap.objs.size,upd H1 s1.heap.objs.size (.lst xs),I1.laid (λb u e=>F4 _ e) (F7 _) ?_,rfl,q _ hf⟩;exact⟨z,us,0,r,Ge _ rfl⟩
end
abbrev Sp:=List V->Hp->VK->XK->Prop
variable {sp:Sp}
abbrev CXT:=List Env->Hp->Shared->XK->KU
variable {CX:CXT}
structure Env0 (P:Program)(w:World)(K:Frag)(mg:KW)(base:Heap)(A:Around)(outer:List Env)(s:Shared)(H:Hp):Prop where
 frames:A.frames=some outer
 mod:Mod K mg base
 bs:∀ b o,base.get? b=some o->s.heap.get? b=some o/\H b=none
 bsz:base.objs.size<=s.heap.objs.size
 funs:s.heap.FunFrames base outer
 frf:∀ b∈frs outer,H b=none
 hok:HOk P w H s.heap
 bare:AllBare s.gens
def CE (outer:List Env)(P:Program)(w:World)(H:Hp)(s:Shared)(Q:VK)(u:Value)(s':Shared):Prop :=
 ∃ v H',s'.os=s.os/\AllBare s'.gens/\Un (frs outer) [] H H' s.heap s'.heap/\HOk P w H' s'.heap/\RelV v u/\Q v H'
def CR (CX:CXT)(outer:List Env)(P:Program)(w:World)(H:Hp)(s:Shared)(Q:VK)(E:XK)(r:Result)(s':Shared):Prop :=
 match r with
 | .ok (.ret u)=>CE outer P w H s Q u s'
 | .ok _=>False
 | .error e=>CX outer H s E e s'
structure FnOk (P:Program)(w:World)(K:Frag)(mg:KW)(base:Heap)(CX:CXT)(k:Nat)(f:Addr)(fd:FuncData)(ps:List Str)(sp:Sp):Prop where
 len:∀ vs H Q E,sp vs H Q E->vs.length=ps.length
 run:∀ (A:Around) (outer:List Env) (s:Shared) (H:Hp) (args:Args) (us:List Value) (vs:List V) (Q:VK) (E:XK),RoomW k A->Env0 P w K mg base A outer s H->BindsTo s fd args (ps.zip us)->Vals vs us->sp vs H Q E ->
  codeAny (model P w) A (.call (.ref f) args) (CR CX outer P w H s Q E) s
theorem Env0.make {w:World}(e:Env0 P w K mg base A outer s H)(C:Addr)(us:List Value)(kw:List (Str×Value)) :
  Env0 P w K mg base (A.under (.builtin "type.__call__" ⟨.ref C::us,kw⟩)) outer s H:=⟨by first | exact e.frames | (simpa [Around.under,Code.envs,Code.isFrame,pushEnvs] using e.frames),e.mod,e.bs,e.bsz,e.funs,e.frf,e.hok,e.bare⟩
section
variable {s':Shared}
theorem Inv.env0 (I:Inv X am σ H s):Env0 X.prog X.w X.K X.mg X.base X.A X.stack s H :=
 ⟨I.ok.frames,I.ok.mod,I.bs,GF I.ok.bsz I.sz,I.stack,I.stkFree,I.hok,I.bare⟩
theorem Inv.after {Q:VK}{u:Value}(I:Inv X am σ H s)(h:CE X.stack X.prog X.w H s Q u s'):EP X am σ Q u s':=by
 obtain⟨v,H',os,bare,un,hok,r,q⟩:=h;obtain⟨hh,g,d,t,os'⟩:=s';obtain rfl:os'=s.os:=os;exact⟨v,H',I.call un hok bare (λb z=>absurd z (by simp)),r,q⟩
end
def tCall (sp:Sp)(dvs:List V)(E:XK)(t:TA):TE:=λσ H Q=>t σ H λvs H1=>sp (vs++dvs) H1 Q E
def tMeth (C:Addr)(m:Str)(sp:Sp)(dvs:List V)(E:XK)(ta:TE)(t:TA):TE:=λσ H Q=>ta σ H λx H1=>∃ a dx fs,x=.ref a/\H1 a=some (.ins C dx fs)/\fs.lookup m=none /\
 t σ H1 λvs H2=>sp (x::(vs++dvs)) H2 Q E
def tMake (C:Addr)(sp:Sp)(dvs:List V)(E:XK)(t:TA):TE:=λσ H Q=>t σ H λvs H1=>∀ x dx,H1 x=none->H1 dx=none->dx≠x ->
 sp (.ref x::(vs++dvs)) (upd (upd H1 dx (.own x)) x (.ins C dx [])) (λv H2=>v=.non/\Q (.ref x) H2) E
def Binds (K:Frag)(fd:FuncData)(ps:List Str)(ds:List Value):Prop :=
 ∀ (s:Shared) (us:List Value),K.In s.heap->(us++ds).length=ps.length->BindsTo s fd ⟨us,[]⟩ (ps.zip (us++ds))
theorem Binds.all (h:∀ us:List Value,us.length=ps.length->bindArgs fd ⟨us,[]⟩=pure (ps.zip us)):Binds K fd ps []:=λs us _ hl=>by
 rw[Gs]at hl ⊢;exact .of_eq (h us hl)
def Passes (CX:CXT)(X:Cx)(E:XK):Prop:=∀ (am:Ll) (σ:St) (H:Hp) (s:Shared) (e:Value) (s':Shared),Inv X am σ H s->CX X.stack H s E e s'->X.xe e s'
section
variable {dvs:List V}{ds:List Value}{x m:Str}{p:Pos}{ta:TE}
theorem pA {Q:VK}(F:FnOk X.prog X.w X.K X.mg X.base CX k f fd ps sp)(hr:Room k X.A)(hb:Binds X.K fd ps ds)(hd:Vals dvs ds)(hx:Passes CX X E)
  (I:Inv X am σ H s) (r:Vals vs us) (h:sp (vs++dvs) H Q E):wpAny (model X.prog X.w) X.A (call (.ref f) us) (EP X am σ Q) X.xe s:=by
 have r2:Vals (vs++dvs) (us++ds):=r.append hd;have hl:(us++ds).length=ps.length:=by rw[<- r2.length];exact F.len _ _ _ _ h
 refine Jj (HJ (F.run X.A X.stack s H ⟨us,[]⟩ (us++ds) (vs++dvs) Q E hr.w I.env0 (hb s us I.kIn hl) r2 h) λr s' hq=>?_);cases r with
 | error e=>exact hx am σ H s e s' I hq
 | ok fl =>
  cases fl with
  | ret u=>exact I.after hq
  | next=>exact False.elim hq
  | brk=>exact False.elim hq
  | cont=>exact False.elim hq
abbrev IO (X:Cx)(p:Pos)(es:Lp):Prop:=(backTo p (starEach es X.env)).any (·.1)=false
theorem uq (F:FnOk X.prog X.w X.K X.mg X.base CX k f fd ps sp)(hr:Room k X.A)(hg:Gl X x)(hm:X.mg x=some (.ref f))(hk:keepIn X.K (.ref f)=true)(hb:Binds X.K fd ps ds)(hd:Vals dvs ds)(hx:Passes CX X E)
  (ha:PA X (e::es) t) (K6:KH x:=by decide) (he:Id X e es:=by rfl) (hpl:IO X pos es:=by rfl) :
  PE X (.Call (.Name x p) (e::es) [] pos) (tCall sp dvs E t):=by
 intro am s σ H Q I h;refine G4 (dD I hg hm ?_ K6);refine callWith_K (h₀:=X.base) I.ok.mod.kin hk (thn (ha pos am s σ H _ I h) λus s1 ⟨vs,H1,I1,r,q⟩=>⟨I1.kIn,?_⟩) he hpl;exact pA F hr hb hd hx I1 r q
abbrev KL (X:Cx)(o:Expr)(m:Str)(q:Pos)(es:Lp)(p:Pos)(pl:Sem Bool):Prop:=eval (.Call (.Attribute o m q) es [] p) X.env=(do
 let ov <- eval o X.env
 standAt q.atName
 let (f,first) <- holding [ov] (getMethod ov m pl)
 callWith p f first (backTo p (starEach es X.env)) (backToKw p (keywordEach [] X.env)))
theorem ur (he:PE X o ta)(c:Cls X.K C)(hm:Meth X.K C m f)(F:FnOk X.prog X.w X.K X.mg X.base CX k f fd ps sp)(hr:Room k X.A)(hb:Binds X.K fd ps ds)(hd:Vals dvs ds)(hx:Passes CX X E)(ha:PA X (e::es) t)
  (K8:Id X e es:=by rfl) (hpl:IO X pos es:=by rfl)
  (ht:KL X o m IR (e::es) pos pl:=by rfl) :
  PE X (.Call (.Attribute o m IR) (e::es) [] pos) (tMeth C m sp dvs E ta t):=by
 intro am s σ H Q I h;refine methodCall_KW (pl:=pl) (thn (he am s σ H _ I h) λu s1 ⟨x,H1,I1,rx,a,dx,fs,ex,ea,l,q⟩=>?_) ht;subst ex;obtain rfl:u=Value.ref a:=rx;refine iL I1 ea c hm l ?_;refine callWith_K (first:=[.ref a]) (h₀:=X.base) I.ok.mod.kin hm.kp (thn (ha pos am s1 σ H1 _ I1 q) λus s2 ⟨vs,H2,I2,r,q2⟩=>⟨I2.kIn,?_⟩) K8 hpl;exact pA (us:=.ref a::us) (vs:=.ref a::vs) F hr hb hd hx I2 (.cons rfl r) q2
theorem qI (he:PE X o ta)(c:Cls X.K C)(hm:Meth X.K C m f)(F:FnOk X.prog X.w X.K X.mg X.base CX k f fd ps sp)(hr:Room k X.A)(hb:Binds X.K fd ps ds)(hd:Vals dvs ds)(hx:Passes CX X E)
  (ht:KL X o m IR [] pos pl:=by rfl) :
  PE X (.Call (.Attribute o m IR) [] [] pos) (tMeth C m sp dvs E ta tNil):=by
 intro am s σ H Q I h;refine methodCall_KW (pl:=pl) (thn (he am s σ H _ I h) λu s1 ⟨x,H1,I1,rx,a,dx,fs,ex,ea,l,q⟩=>?_) ht;subst ex;obtain rfl:u=Value.ref a:=rx;refine iL I1 ea c hm l ?_;exact PySem.W.callWith_K0 (first:=[.ref a]) I1.kIn hm.kp (pA (us:=[.ref a]) (vs:=[.ref a]) F hr hb hd hx I1 (.cons rfl .nil) q)
structure Mk (K:Frag)(C f:Addr):Prop where
 makes:makesIn K C=true
 init:findIn K (.ref C) "__init__"=some (some (.ref f))
 fn:isFn K (.ref f)=true
 kp:keepIn K (.ref C)=true
theorem qJ {Q:VK}(M:Mk X.K C f)(F:FnOk X.prog X.w X.K X.mg X.base CX k f fd ps sp)(hr:Room k X.A)(hb:Binds X.K fd ps ds)(hd:Vals dvs ds)
  (hx:Passes CX X E) (I:Inv X am σ H s) (r:Vals vs us)
  (h:∀ x dx,H x=none->H dx=none->dx≠x->sp (.ref x::(vs++dvs)) (upd (upd H dx (.own x)) x (.ins C dx [])) (λv H2=>v=.non/\Q (.ref x) H2) E) :
  wpAny (model X.prog X.w) X.A (call (.ref C) us) (EP X am σ Q) X.xe s:=by
 have hq:=h (s.heap.objs.size+1) s.heap.objs.size (I.hok.fresh (JH _)) (I.hok.fresh (F7 _)) (Gf (Jo _));have I2:=Inv.made (C:=C) I;have r2:Vals (V.ref (s.heap.objs.size+1)::(vs++dvs)) (Value.ref (s.heap.objs.size+1)::(us++ds)):=.cons rfl (r.append hd);have hl:(Value.ref (s.heap.objs.size+1)::us++ds).length=ps.length:=by
  have e:=r2.length;rw[F.len _ _ _ _ hq]at e;exact e.symm
 refine Jj (xy (f:=f) I.kIn M.makes M.init (Hl.mp M.fn) (HJ (F.run _ X.stack _ _ ⟨Value.ref (s.heap.objs.size+1)::us,[]⟩ (Value.ref (s.heap.objs.size+1)::(us++ds)) _ _ E (hr.make C us [])
  (I2.env0.make C us []) (hb _ (Value.ref (s.heap.objs.size+1)::us) I2.kIn hl) r2 hq) λr s' hq'=>?_))
 cases r with
 | error e=>exact hx am σ _ _ e s' I2 hq'
 | ok fl =>
  cases fl with
  | ret u =>
   obtain⟨v,H',I3,rv,ev,q3⟩:=I2.after hq';subst ev;exact⟨rv,⟨V.ref (s.heap.objs.size+1),H',I3,rfl,q3⟩⟩
  | next=>exact False.elim hq'
  | brk=>exact False.elim hq'
  | cont=>exact False.elim hq'
theorem Aw (M:Mk X.K C f)(F:FnOk X.prog X.w X.K X.mg X.base CX k f fd ps sp)(hr:Room k X.A)(hg:Gl X x)(hm:X.mg x=some (.ref C))(hb:Binds X.K fd ps ds)(hd:Vals dvs ds)(hx:Passes CX X E)
  (ha:PA X (e::es) t) (K6:KH x:=by decide) (he:Id X e es:=by rfl) (hpl:IO X pos es:=by rfl) :
  PE X (.Call (.Name x p) (e::es) [] pos) (tMake C sp dvs E t):=by
 intro am s σ H Q I h;refine G4 (dD I hg hm ?_ K6);refine callWith_K I.ok.mod.kin M.kp (thn (ha pos am s σ H _ I h) λus s1 ⟨vs,H1,I1,r,q⟩=>⟨I1.kIn,?_⟩) he hpl;exact qJ M F hr hb hd hx I1 r q
theorem xA (M:Mk X.K C f)(F:FnOk X.prog X.w X.K X.mg X.base CX k f fd ps sp)(hr:Room k X.A)(hg:Gl X x)(hm:X.mg x=some (.ref C))(hb:Binds X.K fd ps ds)(hd:Vals dvs ds)(hx:Passes CX X E)
  (K6:KH x:=by decide):PE X (.Call (.Name x p) [] [] pos) (tMake C sp dvs E tNil):=by
 intro am s σ H Q I h;refine G4 (dD I hg hm ?_ K6);exact PySem.W.callWith_K0 I.kIn M.kp (qJ M F hr hb hd hx I .nil h)
end
section
variable {ks:List Str}{x m:Str}{p kpos:Pos}{kws:List Keyword}{te ta:TE}{tk:TA}{nm:Option Str}
variable {g:List Value->List Value->List Value}{gV:List V->List V->List V}
end
structure FnScope (N P:List Str)(sc:Scope):Prop where
 kind:sc.kind=.function
 co:sc.isCoroutine=false
 gen:sc.isGenerator=false
 nd:N.Nodup
 pre:N.take P.length=P
 par:∀ x∈P,sc.names.lookup x=some .local\/sc.names.lookup x=some .cell
 nofree:∀ y∈sc.names,y.2≠.free
theorem oj {kindOf:Str->Option NameKind}{x:Str}:∀ {binds:List (Str×Value)} {m:KW},(∀ v,(x,v)∉binds)->bindL kindOf binds m x=m x
 | [],_,_=>rfl
 | (n,v)::r,m,h=>by
  unfold bindL;rw[oj λw hw=>h w (GI _ hw)];split
  ·have:x≠n:=by rintro rfl;exact h v GZ
   simp[this]
  ·rfl
theorem om {kindOf:Str->Option NameKind}{x:Str}:∀ {binds:List (Str×Value)} {m:KW},(∀ v,(x,v)∉binds)->bindC kindOf binds m x=m x
 | [],_,_=>rfl
 | (n,v)::r,m,h=>by
  unfold bindC;rw[om λw hw=>h w (GI _ hw)];split
  ·rfl
  ·have:x≠n:=by rintro rfl;exact h v GZ
   simp[this]
theorem jR {kindOf:Str->Option NameKind}{x:Str}{v:Value}:∀ {P:List Str} {vs:List Value} {i:Nat} {m:KW},P.Nodup->P[i]?=some x->vs[i]?=some v->kindOf x=some .local ->
  bindL kindOf (P.zip vs) m x=some v
 | [],_,_,_,_,h,_,_=>by simp at h
 | _::_,[],_,_,_,_,h,_=>by simp at h
 | p::P,w::vs,0,m,nd,h1,h2,hk=>by
  simp at h1 h2;subst h1;subst h2
  show bindL kindOf ((p,w)::P.zip vs) m p=_;unfold bindL;rw[oj λv hv=>(GO.mp nd).1 (HV hv).1,if_pos hk]
  simp
 | p::P,w::vs,i+1,m,nd,h1,h2,hk=>by
  unfold bindL;exact jR (GO.mp nd).2 (by simpa using h1) (by simpa using h2) hk
theorem jS {kindOf:Str->Option NameKind}{x:Str}{v:Value}:∀ {P:List Str} {vs:List Value} {i:Nat} {m:KW},P.Nodup->P[i]?=some x->vs[i]?=some v->kindOf x≠some .local ->
  bindC kindOf (P.zip vs) m x=some v
 | [],_,_,_,_,h,_,_=>by simp at h
 | _::_,[],_,_,_,_,h,_=>by simp at h
 | p::P,w::vs,0,m,nd,h1,h2,hk=>by
  simp at h1 h2;subst h1;subst h2
  show bindC kindOf ((p,w)::P.zip vs) m p=_;unfold bindC;rw[om λv hv=>(GO.mp nd).1 (HV hv).1,if_neg hk]
  simp
 | p::P,w::vs,i+1,m,nd,h1,h2,hk=>by
  unfold bindC;exact jS (GO.mp nd).2 (by simpa using h1) (by simpa using h2) hk
def start (N:List Str)(vs:List V):St:=vs.map some++List.replicate (N.length - vs.length) none
def cxOf (CX:CXT)(P:Program)(w:World)(K:Frag)(mg:KW)(base:Heap)(N:List Str)(qual:Str)(scope:Scope)(f:Addr)(cd:Value)(A:Around)(outer:List Env)(s:Shared)(H:Hp)(E:XK):Cx where
 prog:=P
 w:=w
 K:=K
 mg:=mg
 base:=base
 A:=A.deeper (envOfC qual scope s.heap.objs.size f cd)
 N:=N
 s₀:=s
 H₀:=H
 env:=envOfC qual scope s.heap.objs.size f cd
 outer:=outer
 stack:=envOfC qual scope s.heap.objs.size f cd::outer
 ex:=[]
 calm:=true
 fn:=λ_=>true
 pn:=[]
 xe:=λe s'=>wpAny (model P w) (A.deeper (envOfC qual scope s.heap.objs.size f cd)) (leaving (envOfC qual scope s.heap.objs.size f cd) e) (λ_ s''=>CX outer H s E e s'') (λe' s''=>CX outer H s E e' s'') s'
theorem i5 {sc:Scope}{n:Nat}{x:Str}(h:sc.names.lookup x=some .cell):∃ c,(cellsFrom n sc.names []).lookup x=some c:=by
 have q:=cellsFrom_some sc.names n [] (.inl h);exact G5.mp q
theorem oo {w:World}{cd:Value}{s1:Shared}
  (S:FnScope N ps scope) (hd:A.handled=none) (e0:Env0 P w K mg base A outer s H) (hl:vs.length=ps.length) (r:Vals vs us)
  (x:InCallC s s.heap.objs.size (bindL (envOfC qual scope s.heap.objs.size f cd).kindOf (ps.zip us) λ_=>none) (cellsFrom (s.heap.objs.size+1) scope.names []) (bindC (envOfC qual scope s.heap.objs.size f cd).kindOf (ps.zip us) λ_=>none) s1) :
  Inv (cxOf CX P w K mg base N qual scope f cd A outer s H E) [] (start N vs) H s1:=by
 have hpl:ps.length<=N.length:=by have:=GA List.length S.pre;rw[HM]at this;omega
 obtain⟨h1,tk,rfl,hk⟩:=x.done;have noA:∀ b:Addr,b∉(cxOf CX P w K mg base N qual scope f cd A outer s H E).ex:=λb z=>absurd (show b∈([]:List Addr) from z) (by simp)
 refine⟨⟨e0.mod,S.kind,rfl,rfl,F7 _,λy z c h1 h2=>?_,λy hy=>?_,λy c _ h=>?_,λ_=>hd,ID e0.frames,.inr ⟨rfl,rfl⟩,λb z=>absurd z (noA b),e0.bs,e0.bsz,λb _ _=>noA b,λb z=>absurd z (noA b),e0.funs,e0.frf⟩,
  rfl,e0.bare,Un.kept hk,⟨_,x.toInCall.ns,λi y v h1 h2 h3=>?_⟩,λy c h=>⟨_,x.cell y c h⟩,e0.hok.fresh (F7 _),λy c h=>?_,λp hp=>absurd (show p∈([]:Ll) from hp) (by simp),e0.hok.kept hk,?_⟩
 ·exact Ke x.apart (Gp h1) (Gp h2)
 ·have hy:=hy;rcases hy with hy | hy
  ·exact i5 hy
  ·exact absurd rfl (S.nofree _ (Gp hy))
 ·exact Hn (x.above y c (Gp h))
 ·have hi:i < vs.length:=by
   unfold start at h2;by_cases hi:i < vs.length
   ·exact hi
   ·rw[GH (by simpa using hi)]at h2;rw[HC]at h2;split at h2<;>cases h2
  have ha:vs[i]?=some v:=by
   unfold start at h2;rw[GJ (by simpa using hi),Gu]at h2;cases e:vs[i]? with
   | none=>rw[e]at h2;cases h2
   | some a=>rw[e]at h2;cases h2;rfl
  obtain⟨u,hu,rv⟩:=r.get ha;have hp:ps[i]?=some y:=by
   rw[<- S.pre,Jp (by omega)];exact h1
  have ndP:ps.Nodup:=by rw[<- S.pre];exact S.nd.sublist (List.take_sublist _ _)
  refine⟨u,rv,?_⟩;rcases S.par y (Hx hp) with k | k
  ·exact .inl ⟨k,jR ndP hp hu k⟩
  ·obtain⟨c,e⟩:=i5 k;refine .inr ⟨.inl k,c,e,?_⟩;have q:=x.cell y c e;rw[jS ndP hp hu (by show scope.names.lookup y≠_;rw[k];decide)]at q;exact q
 ·exact e0.hok.fresh (Hn (x.above y c (Gp h)))
 ·unfold start;show _=N.length;rw[G1,Gg,Hf];omega
theorem oq {w:World}{name:Str}{params:Arguments}{body:Lo}{dV kV doc pm J4 ct oc:Value}{an od:Option Addr}
  {osl:Array (Lm)}   (lk:K.lookup f=some ⟨oc,od,.func (fnOf name qual params body scope dV kV doc pm an J4 ct),osl⟩) (Ks:codeIn K J4 qual=true) (S:FnScope N ps scope)
  (len:∀ vs H Q E,sp vs H Q E->vs.length=ps.length)
  (hbody:∀ (A:Around) (outer:List Env) (s:Shared) (H:Hp) (vs:List V) (Q:VK) (E:XK),Room k (A.deeper (envOfC qual scope s.heap.objs.size f J4))->sp vs H Q E ->
   ∃ t,PSs (cxOf CX P w K mg base N qual scope f J4 A outer s H E) body t/\t { nx:=λ_ H'=>Q .non H',rt:=Q } (start N vs) H) :
  FnOk P w K mg base CX (k+1) f (fnOf name qual params body scope dV kV doc pm an J4 ct) ps sp:=by
 refine⟨len,λA outer s H args us vs Q E hr e0 hb r hsp=>?_⟩;have hl:=len _ _ _ _ hsp;have KX:K.In s.heap:=e0.mod.kin.keeps λb o e=>(e0.bs b o e).1
 have lim:=e0.mod.nolimit.keeps λb o e=>(e0.bs b o e).1
 have hkind:∀ y∈ps.zip us,scope.names.lookup y.1=some .local\/(scope.names.lookup y.1=some .cell/\((cellsFrom (s.heap.objs.size+1) scope.names []).lookup y.1).isSome=true):=λ⟨n,v⟩ hy=>by
  rcases S.par n (HV hy).1 with q | q
  ·exact .inl q
  ·exact .inr ⟨q,cellsFrom_some _ _ _ (.inl q)⟩
 refine Iy hr.depth (KX _ _ lk) rfl S.co S.gen rfl (codeRec_of KX Ks) (hb _ _ _ _ ?_);refine HP S.kind hkind λenv he s1 x=>?_
 subst he;refine⟨lim.keeps x.toInCall.keep,Kf ?_⟩;obtain⟨t,ht,hq⟩:=hbody A outer s H vs Q E (hr.deeper _) hsp;have I:Inv (cxOf CX P w K mg base N qual scope f J4 A outer s H E) [] (start N vs) H s1:=oo S hr.hd e0 hl r x;refine GN (ht [] s1 (start N vs) H _ I hq) (λfl s' hs=>?_) λe s' hs=>hs
 have fin:∀ {σ':St} {H':Hp} {v:V} {u:Value},Inv (cxOf CX P w K mg base N qual scope f J4 A outer s H E) [] σ' H' s'->RelV v u->Q v H'->CE outer P w H s Q u s' :=
  λ{σ' H' v u} J rv q=>⟨v,H',J.os,J.bare,J.base,J.hok,rv,q⟩
 cases fl with
 | ret u =>
  obtain⟨v,σ',H',J,rv,q⟩:=hs;exact fin J rv q
 | next =>
  obtain⟨σ',H',J,q⟩:=hs;exact fin (v:=V.non) J rfl q
 | brk =>
  obtain⟨_,_,_,q⟩:=hs;exact False.elim q
 | cont =>
  obtain⟨_,_,_,q⟩:=hs;exact False.elim q
end
section
section
variable {X:Cx}{x:Str}{p pos:Pos}{e:Expr}{es:Lp}{t:TA}{id T:String}{r:Lc}
def tCB (r:Lc)(t:TA):TE:=λσ H Q=>t σ H λvs H1=>r vs H1 Q
theorem f9 (hc:CallR X (.builtin id) r)(hg:Gl X x)(hm:X.mg x=none)(hv:bootBuiltins x=some (.builtin id))(ha:PA X (e::es) t)(hn:x ≠ "__name__" := by decide)(K6:KH x:=by decide)
  (he:Id X e es:=by rfl) (hpl:IO X pos es:=by rfl):PE X (.Call (.Name x p) (e::es) [] pos) (tCB r t):=by
 intro am s σ H Q I h;refine G4 (iK I hg hm hv ?_ hn K6);exact PyProof.Rows.callWith_builtin1 (thn (ha pos am s σ H _ I h) λus s1 ⟨vs,H1,I1,r1,q1⟩=>hc am s1 σ H1 vs us Q I1 r1 q1) he hpl
theorem gY (hc:CallR X (.type T) r)(hg:Gl X x)(hm:X.mg x=none)(hv:bootBuiltins x=some (.type T))(ha:PA X (e::es) t)(hn:x ≠ "__name__" := by decide)(K6:KH x:=by decide)
  (he:Id X e es:=by rfl) (hpl:IO X pos es:=by rfl):PE X (.Call (.Name x p) (e::es) [] pos) (tCB r t):=by
 intro am s σ H Q I h;refine G4 (iK I hg hm hv ?_ hn K6);exact Hb (thn (ha pos am s σ H _ I h) λus s1 ⟨vs,H1,I1,r1,q1⟩=>hc am s1 σ H1 vs us Q I1 r1 q1) he hpl
end
end
end L2
namespace HT
open PySem PyProof.Rows
section
open PySem.SeqAt
open PySem.AutoSeq1 (wpAny_loadPart')
open PySem.MeetsSeq PySem.MeetsSeq2 PySem.MeetsSeq3
end
section
variable {prog:Program}{w:World}{A:Around}{E:KU}{s:Shared}
theorem Ax {t b:Addr}{vs ws:List Value}{Q:KU}(ht:IsTup s.heap t vs.toArray)(hb:IsTup s.heap b ws.toArray)(hv:vs≠[])
  (h1:ws=[]->Q (.ref t) s) (h2:ws≠[]->Q (.ref s.heap.objs.size) { s with heap:=s.heap.push { cls:=.type "tuple",data:=.seq (vs++ws).toArray } })
  (K2:vs.length+ws.length<=sizeLine):wpAny (model prog w) A (binaryOp .Add (.ref t) (.ref b)) Q E s:=by
 obtain⟨⟨cls,dd,data,sl⟩,ho,hc,n,hd⟩:=id ht;obtain⟨⟨cls2,dd2,data2,sl2⟩,ho2,hc2,n2,hd2⟩:=id hb;simp only at hc hd hc2 hd2;subst hc hd hc2 hd2;have e:vs.toArray++ws.toArray=(vs++ws).toArray:=by simp
 by_cases hw:ws=[]
 ·exact Jq ⟨_,ho,rfl⟩ ⟨_,ho2,rfl⟩ Jr J8 Is Ii (Ia _ _)
   (tuple_addW1 t b vs.toArray ws.toArray n n2 dd dd2 sl sl2 (by simpa using hv) (by simp[hw])) ⟨ho,ho2,h1 hw⟩
 ·refine Jq ⟨_,ho,rfl⟩ ⟨_,ho2,rfl⟩ Jr J8 Is Ii (Ia _ _)
   (tuple_addW2 t b vs.toArray ws.toArray n n2 dd dd2 sl sl2 (by simpa using hv) (by simpa using hw) (by rw[F9,F9];exact K2)) ⟨ho,ho2,?_⟩
  rw[e];exact h2 hw
def sIx (n d:Nat):Option Int->Nat
 | none=>d
 | some v=>if v < 0 then (v+(n:Int)).toNat else min v.toNat n
theorem xB (n d:Nat):sIx n d none=d:=rfl
end
end HT
namespace L2
open PySem PySem.Spec PyProof.Rows
section
abbrev TO:=St->Hp->(Option Int->Lh)->Prop
def PO (X:Cx)(e:Option Expr)(t:TO):Prop :=
 ∀ (am:Ll) (s:Shared) (σ:St) (H:Hp) (Q:Option Int->Lh),Inv X am σ H s->t σ H Q ->
  wpAny (model X.prog X.w) X.A (evalPart e X.env) (λu s'=>∃ o H',Inv X am σ H' s'/\IsPart u o/\Q o H') X.xe s
def tNoPart:TO:=λ_ H Q=>Q none H
def tPart (t:TE):TO:=λσ H Q=>t σ H λx H1=>∃ i,x=.int i/\Q (some i) H1
section
variable {X:Cx}{e:Expr}{te:TE}{lo hi:Option Expr}{tl th:TO}{pos p2:Pos}
theorem Ay:PO X none tNoPart:=by
 intro am s σ H Q I h;rw[J9];exact F6 ⟨none,H,I,.none,h⟩
theorem Az (h:PE X e te):PO X (some e) (tPart te):=by
 intro am s σ H Q I hw;rw[evalPart_some];refine thn (h am s σ H _ I hw) λu s1 ⟨x,H1,I1,r1,q1⟩=>?_
 obtain⟨i,rfl,q⟩:=q1;obtain⟨t,rfl⟩:=r1;exact⟨some i,H1,I1,.int i t,q⟩
def SlR (X:Cx)(r:V->Option Int->Option Int->Ld):Prop :=
 ∀ (am:Ll) (s:Shared) (σ:St) (H:Hp) (x:V) (v vl vu:Value) (lo hi:Option Int) (sl:Addr) (Q:VK),Inv X am σ H s->RelV x v->s.heap.IsSliceOf sl vl vu .none->IsPart vl lo->IsPart vu hi->r x lo hi H Q ->
  ∃ T id,typeLookup (.type T) "__getitem__"=pure (some (.builtin id))/\s.TypeIs v T/\wpAny (model X.prog X.w) X.A (getItem v (.ref sl)) (EP X am σ Q) X.xe s
def tSl (r:V->Option Int->Option Int->Ld)(te:TE)(tl th:TO):TE:=λσ H Q=>te σ H λx H1=>tl σ H1 λl H2=>th σ H2 λu H3=>r x l u H3 Q
theorem xC {r:V->Option Int->Option Int->Ld}(hr:SlR X r)(he:PE X e te)(hl:PO X lo tl)(hu:PO X hi th):PE X (.Subscript e (.Slice lo hi none p2) pos) (tSl r te tl th):=by
 intro am s σ H Q I h;refine Jk (thn (he am s σ H _ I h) λv s1 ⟨x,H1,I1,r1,q1⟩=>?_);refine wpAny_Slice (thn (hl am s1 σ H1 _ I1 q1) λvl s2 ⟨l,H2,I2,pl,q2⟩=>thn (hu am s2 σ H2 _ I2 q2) λvu s3 ⟨u,H3,I3,pu,q3⟩=>?_);rw[J9];refine F6 ?_;have I4:Inv X am σ H3 { s3 with heap:=s3.heap.push { cls:=.type "slice",data:=.fields #[vl,vu,.none] } }:=I3.kept λb ob q=>F4 _ q
 obtain⟨T,id,hT,ht,hg⟩:=hr am { s3 with heap:=s3.heap.push { cls:=.type "slice",data:=.fields #[vl,vu,.none] } } σ H3 x v vl vu l u s3.heap.objs.size Q I4 r1 (Heap.IsSliceOf.new ..) pl pu q3;exact tail_any ht hT hg (by with_unfolding_all rfl)
def cutV (xs:List V)(lo hi:Option Int):List V:=(xs.drop (HT.sIx xs.length 0 lo)).take (HT.sIx xs.length xs.length hi - HT.sIx xs.length 0 lo)
theorem qK (xs:List V)(lo hi:Option Int):(cutV xs lo hi).length<=xs.length:=by
 unfold cutV;rw[HM,List.length_drop];omega
def rCatT (K:Frag):R2:=λx y H Q=>∃ a b xs ys,x=.ref a/\y=.ref b/\SqT K H a xs/\SqT K H b ys/\xs≠[]/\xs.length+ys.length<=sizeLine /\
 (ys=[]->Q (.ref a) H)/\(ys≠[]->∀ p,H p=none->Q (.ref p) (upd H p (.tup (xs++ys))))
theorem Vals.nil_iff {xs:List V}{us:List Value}(r:Vals xs us):us=[]↔xs=[]:=by
 cases r with
 | nil=>simp
 | cons _ _=>simp
theorem AA:OpR X (binaryOp .Add) (rCatT X.K):=by
 intro am s σ H x y v u Q I rx ry h;obtain⟨a,b,xs,ys,rfl,rfl,ha,hb,hx,hz,q1,q2⟩:=h;cases rx;cases ry;obtain⟨its,r1,p1,_⟩:=I.tuple ha;obtain⟨Kt,r2,p2,_⟩:=I.tuple hb;refine HT.Ax p1 p2 (λz=>hx (r1.nil_iff.mp z)) (λz=>⟨.ref a,H,I,rfl,q1 (r2.nil_iff.mp z)⟩) (λz=>?_) (by rw[<- r1.length,<- r2.length];exact hz);refine⟨.ref s.heap.objs.size,_,I.laid (t':=s.toks) (o:=.tup (xs++ys)) (λb ob q=>F4 _ q) (F7 _) ?_,rfl,q2 (λw=>z (r2.nil_iff.mpr w)) _ (I.hok.fresh (F7 _))⟩;exact⟨by rw[G1];exact hz,_,r1.append r2,TupO.new _ _⟩
end
end
section
variable {v:Value}
def ixN (n:Nat)(i:Int):Option Nat:=if 0<=i then (if i < n then some i.toNat else none) else if -(n:Int)<=i then some (i+n).toNat else none
def atI {α:Type}(xs:List α)(i:Int):Option α:=(ixN xs.length i).bind λj=>xs[j]?
theorem AB {n:Nat}{i:Int}{j:Nat}(h:ixN n i=some j):seqIndex? i n=some j/\j < n/\-(n:Int)<=i/\i < n:=by
 unfold ixN at h;by_cases h0:0<=i
 ·rw[if_pos h0]at h;by_cases h1:i < n
  ·rw[if_pos h1]at h;have e:i.toNat=j:=Hq h;exact⟨by rw[seqIndex_of h0 h1,e],by omega,by omega,h1⟩
  ·grind
 ·rw[if_neg h0]at h;by_cases h1 : -(n:Int)<=i
  ·rw[if_pos h1]at h;have e:(i+n).toNat=j:=Hq h;exact⟨by rw[seqIndex_neg (by omega) h1,e],by omega,h1,by omega⟩
  ·grind
theorem pB {α:Type}{xs:List α}{i:Int}{v:α}(h:atI xs i=some v):∃ j,seqIndex? i xs.length=some j/\xs[j]?=some v/\j < xs.length/\-(xs.length:Int)<=i/\i < xs.length:=by
 unfold atI at h;cases e:ixN xs.length i with
 | none=>rw[e]at h;cases h
 | some j =>
  rw[e]at h;obtain⟨h1,h2,h3,h4⟩:=AB e
  grind
theorem ut {α:Type}{xs:List α}{j:Nat}{v:α}(h:xs[j]?=some v):atI xs (j:Int)=some v:=by
 have hj:j < xs.length:=(Gc.mp h).1;have e:ixN xs.length (j:Int)=some j:=by
  unfold ixN;rw[if_pos (by omega),if_pos (by omega)];simp
 unfold atI;rw[e];exact h
def PlainIx (b:Expr):Prop:=∀ o i,subscripted b false o i=operate [o,i] (getItem o i)
def IxR (X:Cx)(r:R2):Prop :=
 ∀ (value slice:Expr) (am:Ll) (s:Shared) (σ:St) (H:Hp) (x y:V) (v u:Value) (Q:VK),Inv X am σ H s->RelV x v->RelV y u->r x y H Q ->
  subscripted slice false v u=operate [v,u] (getItem v u)->wpAny (model X.prog X.w) X.A (subscriptTail value slice v u) (EP X am σ Q) X.xe s
def MtR (X:Cx)(id:String)(r:V->Lc):Prop :=
 ∀ (am:Ll) (s:Shared) (σ:St) (H:Hp) (x:V) (xs:List V) (v:Value) (us:List Value) (Q:VK),Inv X am σ H s->RelV x v->Vals xs us->r x xs H Q ->
  wpAny (model X.prog X.w) X.A (call (.builtin id) (v::us)) (EP X am σ Q) X.xe s
section
variable {X:Cx}{a b:Expr}{ta tb:TE}{pos:Pos}
theorem IxR.or {r r':R2}(h:IxR X r)(h':IxR X r'):IxR X (λx y H Q=>r x y H Q\/r' x y H Q):=by
 intro value slice am s σ H x y v u Q I rx ry q hs;rcases q with q | q
 ·exact h value slice am s σ H x y v u Q I rx ry q hs
 ·exact h' value slice am s σ H x y v u Q I rx ry q hs
theorem Cv {r:R2}(hr:IxR X r)(ha:PE X a ta)(hb:PE X b tb)(hs:PlainIx b):PE X (.Subscript a b pos) (tOp r ta tb):=by
 intro am s σ H Q I h;exact Jk (binT ha hb I h λv u s2 x y H2 I2 rx ry q=>hr a b am s2 σ H2 x y v u Q I2 rx ry q (hs _ _))
def rIxL (K:Frag):R2:=λx y H Q=>∃ p xs i v,x=.ref p/\y=.int i/\SqL K H p xs/\atI xs i=some v/\Q v H
def rIxT (K:Frag):R2:=λx y H Q=>∃ p xs i v,x=.ref p/\y=.int i/\SqT K H p xs/\atI xs i=some v/\Q v H
def rIxS:R2:=λx y H Q=>∃ z i c,x=.str z/\y=.int i/\z.length<=sizeLine/\atI z.cps.toList i=some c/\Q (.str ⟨#[c]⟩) H
theorem AC:IxR X (rIxL X.K):=by
 intro value slice am s σ H x y v u Q I rx ry h hs;obtain⟨p,xs,i,z,rfl,rfl,hq,he,q⟩:=h;cases rx;obtain⟨t,rfl⟩:=ry;obtain⟨its,r,pl,hz⟩:=I.list hq;obtain⟨j,h1,h2,h3,h4,h5⟩:=pB he;obtain⟨w,ew,rw'⟩:=r.get h2;have hl:=r.length;have hn:=line63;have fin:EP X am σ Q w s:=⟨z,H,I,rw',q⟩;by_cases h0:0<=i
 ·have hj:i.toNat=j:=by
   rw[seqIndex_of h0 h5]at h1;exact Hq h1
  exact item_listR pl.isList h0 (by omega) (by rw[hj];simpa using ew) fin hs
 ·have hj:(i+(its.toArray.size:Int)).toNat=j:=by
   rw[seqIndex_neg (by omega) h4]at h1;rw[F9,<- hl];exact Hq h1
  exact JI (x:=w) pl.isList.typeIs slot_list_getitem.lookup
   (wpAny_getItem_list_neg (Q:=λr s'=>r=w/\EP X am σ Q r s') pl.isList (by omega) (by rw[F9]<;>omega) (by omega) (by rw[hj];simpa using ew) ⟨rfl,fin⟩) hs
theorem Dk:IxR X (rIxT X.K):=by
 intro value slice am s σ H x y v u Q I rx ry h hs;obtain⟨p,xs,i,z,rfl,rfl,hq,he,q⟩:=h;cases rx;obtain⟨t,rfl⟩:=ry;obtain⟨its,r,pl,hz⟩:=I.tuple hq;obtain⟨j,h1,h2,h3,h4,h5⟩:=pB he;obtain⟨w,ew,rw'⟩:=r.get h2;have hl:=r.length;have hn:=line63;have fin:EP X am σ Q w s:=⟨z,H,I,rw',q⟩;exact JI (x:=w) pl.typeIs slot_tuple_getitem.lookup
  (getItem_tuple (j:=j) (Q:=λr s'=>r=w/\EP X am σ Q r s') pl (by omega) (by omega) (by rw[F9,<- hl];exact h1) (by simpa using ew) ⟨rfl,fin⟩) hs
theorem Dl:IxR X rIxS:=by
 intro value slice am s σ H x y v u Q I rx ry h hs;obtain⟨z,i,c,rfl,rfl,hz,he,q⟩:=h;obtain⟨t,rfl⟩:=rx;obtain⟨t',rfl⟩:=ry;obtain⟨j,h1,h2,h3,h4,h5⟩:=pB he;have hl:z.cps.toList.length=z.length:=by simp[Str.length]
 rw[hl]at h1 h4 h5;have hn:=line63;exact tail_any (typeIs_str s z t) slot_str_getitem.lookup (getItem_str (c:=c) (by
  have e1:decide (i < -(2^63:Int))=false:=Gh (by omega);have e2:decide (i≥2^63)=false:=Gh (by omega);rw[e1,e2,Jb]) (by rw[h1];simpa using h2) ⟨.str ⟨#[c]⟩,H,I.tok _,⟨_,rfl⟩,q⟩) hs
def rIx (K:Frag):R2:=λx y H Q=>rIxL K x y H Q\/rIxT K x y H Q\/rIxS x y H Q
theorem xD:IxR X (rIx X.K):=AC.or (Dk.or Dl)
theorem pC (lo hi:Option Int)(n:Nat):(sliceBounds lo hi none n).1=((HT.sIx n 0 lo:Nat):Int)/\(sliceBounds lo hi none n).2.1=((HT.sIx n n hi:Nat):Int)/\(sliceBounds lo hi none n).2.2=1:=by
 refine⟨?_,?_,rfl⟩
 ·cases lo with
  | none=>simp[sliceBounds,HT.sIx]
  | some i =>
   simp only[sliceBounds,HT.sIx,Js,show (1:Int) > 0 by decide,Gz];by_cases h:i < 0
   ·simp only[h,Gz]<;>omega
   ·simp only[h,Gt]<;>omega
 ·cases hi with
  | none=>simp[sliceBounds,HT.sIx]
  | some i =>
   simp only[sliceBounds,HT.sIx,Js,show (1:Int) > 0 by decide,Gz];by_cases h:i < 0
   ·simp only[h,Gz]<;>omega
   ·simp only[h,Gt]<;>omega
theorem ng (its:List Value)(lo hi:Option Int):slicePick its.toArray lo hi none=((its.drop (HT.sIx its.length 0 lo)).take (HT.sIx its.length its.length hi - HT.sIx its.length 0 lo)).toArray:=by
 obtain⟨h1,h2,h3⟩:=pC lo hi its.toArray.size;unfold slicePick;rw[h1,h2,h3];simp only[sliceRange_one,pick_run,F9]<;>rfl
def rSlL (K:Frag):V->Option Int->Option Int->Ld:=λx lo hi H Q=>∃ a xs,x=.ref a/\SqL K H a xs/\∀ p,H p=none->Q (.ref p) (upd H p (.lst (cutV xs lo hi)))
theorem AD:SlR X (rSlL X.K):=by
 intro am s σ H x v vl vu lo hi sl Q I rx hs pl pu h;obtain⟨a,xs,rfl,hx,q⟩:=h;cases rx;obtain⟨its,r,ht,hz⟩:=I.list hx;have Km:=r.length;refine⟨"list",_,slot_list_getitem.lookup,ht.isList.typeIs,?_⟩;refine Jt ht.isList hs pl pu .none (by simp) ?_ (by rw[F9]<;>omega);rw[ng,<- Km];refine⟨.ref s.heap.objs.size,_,I.laid (λb ob q=>F4 _ q) (F7 _) ?_,rfl,q _ (I.hok.fresh (F7 _))⟩;exact⟨GF (qK xs lo hi) hz,_,0,(r.drop (HT.sIx xs.length 0 lo)).take (HT.sIx xs.length xs.length hi - HT.sIx xs.length 0 lo),Ge _ rfl⟩
def flatV:V->Bool
 | .non=>true
 | .bl _=>true
 | .int _=>true
 | .str _=>true
 | _=>false
def eqV:V->V->Bool
 | .non,.non=>true
 | .bl a,.bl b=>a==b
 | .bl a,.int b=>(if a then 1 else 0)==b
 | .int a,.bl b=>a==(if b then 1 else 0)
 | .int a,.int b=>a==b
 | .str a,.str b=>a==b
 | _,_=>false
theorem Dn {A:Around}{s:Shared}{y x:V}{u:Value}(ry:RelV y u)(rx:RelV x v)(fy:flatV y=true)(fx:flatV x=true):SeqAt.EqAt A s u v (eqV y x):=by
 cases y with
 | non =>
  cases ry;cases x with
  | non=>cases rx;exact SeqAt.EqAt.same _
  | bl b=>cases rx;exact SeqAt.EqAt.none_bool b
  | int b=>obtain⟨t,rfl⟩:=rx;exact SeqAt.EqAt.none_int b t
  | str b=>obtain⟨t,rfl⟩:=rx;exact SeqAt.EqAt.none_str b t
  | _=>exact absurd (show false=true from fx) Gv
 | bl a =>
  cases ry;cases x with
  | non=>cases rx;exact SeqAt.EqAt.bool_none a
  | bl b=>cases rx;exact SeqAt.EqAt.bool_bool a b
  | int b=>obtain⟨t,rfl⟩:=rx;exact SeqAt.EqAt.bool_int a b t
  | str b=>obtain⟨t,rfl⟩:=rx;exact SeqAt.EqAt.bool_str a b t
  | _=>exact absurd (show false=true from fx) Gv
 | int a =>
  obtain⟨t',rfl⟩:=ry;cases x with
  | non=>cases rx;exact SeqAt.EqAt.int_none a t'
  | bl b=>cases rx;exact SeqAt.EqAt.int_bool a t' b
  | int b=>obtain⟨t,rfl⟩:=rx;exact SeqAt.EqAt.int_int a t' b t
  | str b=>obtain⟨t,rfl⟩:=rx;exact SeqAt.EqAt.int_str a t' b t
  | _=>exact absurd (show false=true from fx) Gv
 | str a =>
  obtain⟨t',rfl⟩:=ry;cases x with
  | non=>cases rx;exact SeqAt.EqAt.str_none a t'
  | bl b=>cases rx;exact SeqAt.EqAt.str_bool a t' b
  | int b=>obtain⟨t,rfl⟩:=rx;exact SeqAt.EqAt.str_int a t' b t
  | str b=>obtain⟨t,rfl⟩:=rx;exact SeqAt.EqAt.str_str a t' b t
  | _=>exact absurd (show false=true from fx) Gv
 | _=>exact absurd (show false=true from fy) Gv
theorem pD:CallR X (.builtin "len") (λxs H Q=>∃ p ys,xs=[.ref p]/\(SqL X.K H p ys\/SqT X.K H p ys)/\Q (.int ys.length) H):=by
 intro am s σ H xs us Q I r h;obtain⟨p,ys,rfl,hq,q⟩:=h;obtain⟨u,rfl,rx⟩:=vals1 r;cases rx;have hn:=line63;rcases hq with hq | hq
 ·obtain⟨its,r',pl,hz⟩:=I.list hq;have Km:=r'.length;exact Calls.call_len_list pl.isList (by simp only[F9]<;>omega) ⟨.int ys.length,H,I.tok _,⟨s.toks+1,by rw[F9,Km]⟩,q⟩
 ·obtain⟨its,r',pl,hz⟩:=I.tuple hq;have Km:=r'.length;exact len_tuple pl (by simp only[F9]<;>omega) ⟨.int ys.length,H,I.tok _,⟨s.toks+1,by rw[F9,Km]⟩,q⟩
theorem pE:CallR X (.type "list") (λxs H Q=>∃ p ys,xs=[.ref p]/\(SqL X.K H p ys\/SqT X.K H p ys)/\∀ l,H l=none->Q (.ref l) (upd H l (.lst ys))):=by
 intro am s σ H xs us Q I r h;obtain⟨p,ys,rfl,hq,q⟩:=h;obtain⟨u,rfl,rx⟩:=vals1 r;cases rx;have fin:∀ (its:List Value),Vals ys its->ys.length<=sizeLine->∀ (h':Heap) (c':Nat),(∀ b o',s.heap.get? b=some o'->h'.get? b=some o') ->
   h'.get? s.heap.objs.size=some { cls:=.type "list",dict:=none,data:=.seq its.toArray c',slots:=#[] }->EP X am σ Q (.ref s.heap.objs.size) { s with heap:=h' }:=λits r' hz h' c' kp e =>
  ⟨.ref s.heap.objs.size,_,I.laid (t':=s.toks) kp (F7 _) (show ObjOk X.prog X.w _ h' _ (.lst ys) from ⟨hz,its,c',r',e⟩),rfl,q _ (I.hok.fresh (F7 _))⟩
 rcases hq with hq | hq
 ·obtain⟨its,r',pl,hz⟩:=I.list hq;have Km:=r'.length;obtain⟨o,ho,hc,n,hd⟩:=pl.isList;exact call_list_seq p (.inl rfl) ho hc hd (λh' c' kp e=>fin its r' hz h' c' kp e) (by simp only[F9]<;>omega)
 ·obtain⟨its,r',pl,hz⟩:=I.tuple hq;have Km:=r'.length;obtain⟨o,ho,hc,n,hd⟩:=pl;exact call_list_seq p (.inr rfl) ho hc hd (λh' c' kp e=>fin its r' hz h' c' kp e) (by simp only[F9]<;>omega)
theorem nh:CallR X (.type "tuple") (λxs H Q=>∃ p ys,xs=[.ref p]/\((SqL X.K H p ys/\∀ l,H l=none->Q (.ref l) (upd H l (.tup ys)))\/(SqT X.K H p ys/\Q (.ref p) H))):=by
 intro am s σ H xs us Q I r h;obtain⟨p,ys,rfl,h⟩:=h;obtain⟨u,rfl,rx⟩:=vals1 r;cases rx;rcases h with ⟨hq,q⟩ | ⟨hq,q⟩
 ·obtain⟨its,r',pl,hz⟩:=I.list hq;have Km:=r'.length;refine call_tuple_list pl.isList (λh' kp=>?_) (by simp only[F9]<;>omega);have I1:=I.kept (t':=s.toks) kp;have I2:Inv X am σ (upd H h'.objs.size (.tup ys)) { s with heap:=h'.push { cls:=.type "tuple",data:=.seq its.toArray } } :=
   I1.laid (t':=s.toks) (λb o e=>F4 _ e) (F7 _) (show ObjOk X.prog X.w _ _ _ (.tup ys) from ⟨hz,its,r',TupO.new _ _⟩)
  exact⟨.ref h'.objs.size,_,I2,rfl,q _ (I1.hok.fresh (F7 _))⟩
 ·obtain⟨its,r',pl,hz⟩:=I.tuple hq;exact call_tuple_same pl ⟨.ref p,H,I,rfl,q⟩
def tyV (K:Frag)(T:String)(x:V)(H:Hp):Prop:=match x with
 | .str _=>T="str"
 | .int _=>T="int"
 | .ref p=>(T="list" /\ ∃ xs,SqL K H p xs)\/(T="tuple" /\ ∃ o,K.lookup p=some o/\o.cls=.type "tuple" /\ o.dict=none) \/
   (T="dict" /\ ((∃ Gn,H p=some (.dK Gn))\/∃ Gn,H p=some (.dT Gn)))\/(T="set" /\ ∃ S n,H p=some (.set S n))
 | _=>False
theorem Do {am:Ll}{σ:St}{H:Hp}{s:Shared}{T:String}{x:V}(I:Inv X am σ H s)(r:RelV x v)(ty:tyV X.K T x H) :
  s.TypeIs v T/\∀ a,v=.ref a->∃ ob,s.heap.get? a=some ob/\ob.dict=none:=by
 cases x with
 | str z =>
  obtain⟨t,rfl⟩:=r;cases (show T="str" from ty);exact⟨typeIs_str s z t,λ_ e=>nomatch e⟩
 | int i =>
  obtain⟨t,rfl⟩:=r;cases (show T="int" from ty);exact⟨Jl s i t,λ_ e=>nomatch e⟩
 | ref p =>
  cases r;rcases ty with ⟨rfl,xs,hq⟩ | ⟨rfl,o,hk,hc,hd⟩ | ⟨rfl,hk⟩ | ⟨rfl,S,n,hk⟩
  ·obtain⟨its,_,pl,_⟩:=I.list hq;refine⟨pl.isList.typeIs,λa e=>?_⟩;cases e;obtain⟨o,n,e,c,hd,_⟩:=pl;exact⟨o,e,hd⟩
  ·refine⟨⟨o,I.kIn p o hk,hc⟩,λa e=>?_⟩;cases e;exact⟨o,I.kIn _ o hk,hd⟩
  ·have z:∃ o,s.heap.get? p=some o/\o.ExactDict:=by
    rcases hk with ⟨Gn,hk⟩ | ⟨Gn,hk⟩
    ·obtain⟨_,_,_,_,o,_,_,e,ex,_⟩:=I.hok p _ hk;exact⟨o,e,ex⟩
    ·obtain⟨_,_,_,_,o,_,_,e,ex,_⟩:=I.hok p _ hk;exact⟨o,e,ex⟩
   obtain⟨o,e,ex⟩:=z;refine⟨⟨o,e,ex.1⟩,λa e2=>?_⟩;cases e2;exact⟨o,e,ex.2.1⟩
  ·obtain⟨o,_,_,_,e,ex,_⟩:=I.hok p _ hk;refine⟨⟨o,e,ex.1⟩,λa e2=>?_⟩;cases e2;exact⟨o,e,ex.2.1⟩
 | _=>exact False.elim ty
def tBM (K:Frag)(T:String)(r:V->Lc)(to:TE)(t:TA):TE:=λσ H Q=>to σ H λx H1=>tyV K T x H1/\t σ H1 λxs H2=>r x xs H2 Q
variable {o e:Expr}{es:Lp}{to:TE}{t:TA}{name:Str}{IR IY:Pos}{T id:String}{r:V->Lc}
theorem xE (pa:PlainAttrs T)(slot:Slot T name id)(hty:typeOf (.builtin id)=pure (.type "method_descriptor"))(hm:MtR X id r)(ho:PE X o to)(ha:PA X (e::es) t)
  (Kx:attributeBase o name X.env (eval o X.env)=eval o X.env:=by rfl)
  (hfew:((backTo IY (starEach (e::es) X.env)).all (λx=>!x.1)&&(backToKw IY (keywordEach [] X.env)).all (λx=>x.1.isSome)
   && decide ((e::es).length+([]:List Keyword).length+(if ([]:List Keyword).isEmpty then 0 else 1) < 30))=true:=by rfl)
  (Kw:(IR.endLine==IY.line)=true:=by rfl) (hs:Id X e es:=by rfl) (K0:IO X IY es:=by rfl) :
  PE X (.Call (.Attribute o name IR) (e::es) [] IY) (tBM X.K T r to t):=by
 intro am s σ H Q I h;refine wpAny_Call_method_late Kx hfew Kw rfl (thn (ho am s σ H _ I h) λv s1 ⟨x,H1,I1,r1,ty,q1⟩=>?_);obtain⟨h1,h2⟩:=Do I1 r1 ty;refine⟨T,id,pa,slot,hty,h1,h2,?_⟩;have hA:=ha IY am s1 σ H1 _ I1 q1;rw[hs]at hA ⊢;refine Iu (by show (false||(backTo IY (starEach es X.env)).any (·.1))=false;rw[K0]<;>rfl) (IE ?_);exact thn hA λus s2 ⟨vs,H2,I2,r2,q2⟩=>hm am s2 σ H2 x vs v us Q I2 r1 r2 q2
end
end
section
variable {X:Cx}{s:Shared}{t':Nat}
def MtM (X:Cx)(id:String)(r:V->Lc):Prop :=
 ∀ (am:Ll) (s:Shared) (σ:St) (H:Hp) (x:V) (xs:List V) (v:Value) (us:List Value) (Q:VK),Inv X am σ H s->RelV x v->Vals xs us->r x xs H Q ->
  wpAny (model X.prog X.w) X.A (call (.builtin id) (v::us)) (EP X am σ Q) X.xe s
theorem Vals.one:∀ {x:V} {us:List Value},Vals [x] us->∃ u,us=[u]/\RelV x u
 | _,_,.cons r .nil=>⟨_,rfl,r⟩
section
variable {am:Ll}{σ:St}{H:Hp}{l b:Addr}{xs ys zs:List V}
theorem Inv.lset {its KB:List Value}{n:Nat}{f:Array Value->Array Value}(I:Inv X am σ H s)(hH:H l=some (.lst xs))
  (e:s.heap.get? l=some { cls:=.type "list",data:=.seq its.toArray n }) (hf:f its.toArray=KB.toArray) (hv:Vals ys KB) (hz:ys.length<=sizeLine) :
  Inv X am σ (upd H l (.lst ys)) { s with heap:=s.heap.update l (Obj.mapSeq f),toks:=t' }:=by
 have q:=PySem.IsL.update e f;rw[hf]at q;refine I.write (by rw[hH];exact trivial) (.inl rfl) (λb' u hb hu=>(GR s.heap (Obj.mapSeq f) (GM hb)).trans hu) ⟨_,q⟩ ?_;exact⟨hz,KB,_,hv,q⟩
theorem Inv.lnew {its:List Value}(I:Inv X am σ H s)(hv:Vals ys its)(hz:ys.length<=sizeLine) :
  Inv X am σ (upd H s.heap.objs.size (.lst ys)) { s with heap:=s.heap.push { cls:=.type "list",data:=.seq its.toArray },toks:=t' } :=
 I.laid (λ_ _ q=>F4 _ q) (F7 _) ⟨hz,its,0,hv,Ge _ rfl⟩
theorem Inv.fresh (I:Inv X am σ H s):H s.heap.objs.size=none:=I.hok.fresh (F7 _)
theorem Inv.lstM (I:Inv X am σ H s)(hH:H l=some (.lst xs)):xs.length<=sizeLine/\∃ (its:List Value) (n:Nat),Vals xs its/\xs.length=its.length/\s.heap.get? l=some { cls:=.type "list",data:=.seq its.toArray n }:=by
 obtain⟨z,its,n,r,e⟩:=I.hok l _ hH;exact⟨z,its,n,r,r.length,e⟩
theorem notLongL {n:Nat}(h:n<=sizeLine):Builtin.List.listTooLong n=false:=by
 unfold Builtin.List.listTooLong
 grind
end
section
def rAppend:V->Lc:=λx vs H Q=>∃ l xs y,x=.ref l/\vs=[y]/\H l=some (.lst xs)/\xs.length < sizeLine/\Q .non (upd H l (.lst (xs++[y])))
theorem vO:MtM X "list.append" rAppend:=by
 intro am s σ H x vs v us Q I rx rv h;obtain⟨l,xs,y,rfl,rfl,hH,hz,q⟩:=h;cases rx;obtain⟨u,rfl,ru⟩:=rv.one;obtain⟨z,its,n,r,hl,e⟩:=I.lstM hH;refine Hy F.slot_list_append ⟨_,e,rfl⟩ F.entry_list_append (F.args_list_append_2 _ _) (PySem.list_append l its.toArray n u (by grind)) ⟨e,?_⟩;refine⟨.non,_,I.lset hH e (by simp) (r.append (.cons ru .nil)) ?_,rfl,q⟩
 grind
end
section
variable {prog:Program}{w:World}{A:Around}{E:KU}
set_option maxRecDepth 100000 in
end
end
end L2
namespace Att
open PySem PySem.W PySem.Calls PyProof.Rows
variable {n:Nat}{P:Params}{h:Heap}{l:OpenLaw}
theorem kU :∀ (ns:List Int) (vs:List Value),WellAll P h vs (ns.map WData.int)->IntsAre vs ns:=by
 intro ns
 induction ns with
 | nil =>
  intro vs w;rw[Hd]at w;cases w;exact .nil
 | cons n ns ih =>
  intro vs w;rw[F5]at w;cases w with
  | cons a b =>
   cases a;exact .cons _ _ (ih _ b)
theorem vP (hn:l.most=some n){args:List WData}{vals:List Value}
  (hpre:l.row.toRowW.claim.pre args=true) (hwl:WellAll P h vals args) :
  ∃ a vs ns,vals=[Value.ref a]/\args=[WData.list (ns.map WData.int)]/\h.get? a=some { cls:=.type "list",data:=.seq vs.toArray }/\IntsAre vs ns/\ns.length<=n:=by
 have hsh:=(pre_splitW hpre).1;have hc:l.pre.holds [] { args:=args }=true:=(pre_splitW hpre).2;obtain⟨d,r,rfl,h1,h2⟩:=hasAllW_cons hsh;obtain rfl:=hasAllW_nil h2;obtain⟨xs,rfl,h3⟩:=hasW_list h1;obtain⟨ns,rfl⟩:=items_int h3;have Km:ns.length<=n:=by
  unfold OpenLaw.pre at hc;have h4:(WTm.not (.lt (.lit (.int (n:Int))) (.len (.arg 0)))).holds [] { args:=[.list (ns.map .int)] }=true:=by
   have h4:=(holds_andW hc).1;rw[hn]at h4;exact h4
  have h5:=condW_of h4 (w_not (w_lt w_lit (w_len_list (w_arg rfl))));rw[Gg]at h5;refine Nat.le_of_not_lt λq=>?_
  have q':(n:Int) < ((ns.length:Nat):Int):=by omega
  first
   | (rw[GG q']at h5;exact absurd h5 (by decide))
   | (simp at h5;omega)
 cases hwl with
 | cons w1 w2 =>
  cases w2;cases w1 with
  | list ho Ku=>exact⟨_,_,ns,rfl,rfl,ho,kU ns _ Ku,Km⟩
theorem vQ (l:OpenLaw)(args:List WData):l.row.toRowW.claim.post args (.bool true) args=true :=
 postW_of
  (show WShape.has [] (.bool true) .bool=true by first | rfl | decide | simp[WShape.has,WShape.arms,WShape.armsAll])
  (show (WTm.eq .res (.lit (.bool true))).value [] { args:=args,res:=some (.bool true),after:=args }=some (.bool (true==true)) from w_eq_bool (w_res rfl) w_lit) rfl
theorem attach_call {q:Program}{Kz:List Str}{XP:(KW)->Heap->Prop}{YP:World->Heap->Prop}{d:DefRec}
  (hn:l.most=some n) (hdf:d.params.defaults=[])
  (call:∀ (w:World) (s₀ s₁:Shared) (mg mb:KW) (fa:Addr) (o:Obj) (pm cd doc:Value) (a:Addr) (vs:List Value) (ns:List Int),
   Ground q Kz [] XP w s₀ mg mb s₁.heap->YP w s₁.heap ->
   s₁.heap.get? fa=some o->o.data=.func (docDef d.name d.params d.body d.scope pm cd doc)->s₁.heap.CodeRec cd d.name->mg d.name=some (.ref fa) ->
   s₁.heap.get? a=some { cls:=.type "list",data:=.seq vs.toArray }->IntsAre vs ns->ns.length<=n->s₁.gens = #[] ->
   codeAny (model l.prog w) callerA (.call (.ref fa) ⟨[.ref a],[]⟩) (λr s'=>r=.ok (.ret (.bool true))/\OldK s₁.heap s'.heap/\s'.os=s₁.os/\AllBare s'.gens) s₁) :
  WalkO q Kz XP YP l.row.toRowW d [] (λf vs=>PySem.call f vs):=by
 intro w s₀ s₁ mg mb G Y fa o pm cd doc dV kV ho hd Ks hD hmg hg args vals as hpre hlay hrd hwl hlo;obtain rfl:dV=.none:=Dflts.none hD hdf;obtain rfl:kV=.none:=Dflts.noKw hD;obtain⟨a,vs,ns,rfl,rfl,hobj,hints,Km⟩:=vP hn hpre hwl;refine enter_call (HJ (call w s₀ s₁ mg mb fa o pm cd doc a vs ns G Y ho (fd_plain hd) Ks hmg hobj hints Km hg) λr s' hq=>?_);obtain⟨rfl,h2,h3,h4⟩:=hq;exact⟨.inl ⟨.bool true,.bool true,[],rfl,λ_=>rfl,.bool true,vQ l _,λ_=>⟨Je,λ_ hm=>(nomatch hm)⟩⟩,h2,h3,h4⟩
section
variable {prog:Program}{w:World}{A:Around}{E:KU}{s:Shared}{K:Frag}
theorem Ej {x C:Addr}{ox:Obj}{es:List DictEntry}{name:Str}{expr:Bool}{v:Value}{Q:KU}
  (X:K.In s.heap) (I:PySem.W.InstAt s.heap x ox C (some (dictOf es n))) (hg:plainGet K C name=true) (hh:hasDictIn K C=true) (ha:findIn K (.ref C) name=some none)
  (hl:getL name es=some (some v)) (hv:handedIn v=true) (h:Q v { s with toks:=s.toks+1 }):wpAny (model prog w) A (getAttr (.ref x) name expr) Q E s :=
 get_value X I (plainGet_of hg).1 (findObj_own hh ha rfl hl) hv h
end
end Att
namespace L2
open PySem PySem.Spec PyProof.Rows
section
theorem ot:∀ {vs:List Value} {ns:List Int},IntsAre vs ns->Vals (ns.map V.int) vs
 | _,_,.nil=>.nil
 | _,_,.cons n t h=>.cons ⟨t,rfl⟩ (ot h)
end
section
end
section
variable {x qual:Str}{H:Hp}{K:Frag}{st:Stmt}{f:Addr}
def defArgs (s:Stmt):Arguments:=match s with
 | .FunctionDef _ a _ _ _ _ _ _ _ _=>a
 | _=>{ posonlyargs:=[],args:=[],vararg:=none,kwonlyargs:=[],kw_defaults:=[],kwarg:=none,defaults:=[] }
def defBody (s:Stmt):Lo:=match s with
 | .FunctionDef _ _ b _ _ _ _ _ _ _=>b
 | _=>[]
def defScope (s:Stmt):Scope:=match s with
 | .FunctionDef _ _ _ _ _ _ sc _ _ _=>sc
 | _=>{ kind:=.function,names:=[],isGenerator:=false,isCoroutine:=false }
abbrev CX0:CXT:=λ_ _ _ _ _ _=>False
abbrev E0:XK:=λ_ _ _=>False
structure Fun (K:Frag)(x qual:Str)(st:Stmt)(f:Addr)(fd:FuncData):Prop where
 ex:∃ (oc:Value) (od:Option Addr) (kV doc pm:Value) (an:Option Addr) (J4 ct:Value) (osl:Array (Lm)),
  fd=fnOf x qual (defArgs st) (defBody st) (defScope st) .none kV doc pm an J4 ct/\K.lookup f=some ⟨oc,od,.func fd,osl⟩/\codeIn K J4 qual=true
 kp:keepIn K (.ref f)=true
section
variable {P:Program}{w:World}{mg:KW}{base:Heap}
theorem Fun.binds {fd:FuncData}{ps:List Str}(F:Fun K x qual st f fd)
  (h:∀ (kV doc pm:Value) (an:Option Addr) (J4 ct:Value) (us:List Value),us.length=ps.length->bindArgs (fnOf x qual (defArgs st) (defBody st) (defScope st) .none kV doc pm an J4 ct) ⟨us,[]⟩=pure (ps.zip us)):Binds K fd ps []:=by
 obtain⟨oc,od,kV,doc,pm,an,J4,ct,osl,rfl,lk,Ks⟩:=F.ex;exact .all (h kV doc pm an J4 ct)
theorem iN {oc:Value}{od an:Option Addr}{osl:Array (Lm)}{kV doc pm J4 ct:Value}(l:K.lookup f=some ⟨oc,od,.func (fnOf x qual (defArgs st) (defBody st) (defScope st) .none kV doc pm an J4 ct),osl⟩)
  (c:codeIn K J4 qual=true) (k:keepIn K (.ref f)=true):Fun K x qual st f (fnOf x qual (defArgs st) (defBody st) (defScope st) .none kV doc pm an J4 ct):=⟨⟨oc,od,kV,doc,pm,an,J4,ct,osl,rfl,l,c⟩,k⟩
end
section
variable {X:Cx}
theorem pv (i:Nat){pos:Pos}(hN:X.N[i]?=some x:=by rfl)(hv:Vis X.env.scope x:=by first | exact Or.inl rfl | exact Or.inr (Or.inl rfl) | exact Or.inr (Or.inr rfl))(hd:KH x:=by decide)
  (Ks:KK x:=by decide):PE X (.Name x pos) (tVar i):=f8 hN hv hd Ks
end
def Same (H H':Hp):Prop:=∀ b o,H b=some o->H' b=some o
theorem Same.refl (H:Hp):Same H H:=λ_ _ h=>h
theorem Same.trans {H1 H2:Hp}(a:Same H H1)(b:Same H1 H2):Same H H2:=λc o h=>b c o (a c o h)
theorem Same.free {H':Hp}(e:Same H H'){l:Addr}(h:H' l=Option.none):H l=Option.none:=by
 cases q:H l with
 | none=>rfl
 | some o =>
  rw[e l o q]at h;cases h
theorem Same.seq {H':Hp}{a:Addr}{xs:List V}(e:Same H H')(h:SqL K H a xs):SqL K H' a xs:=by
 rcases h with (h | ⟨o,h⟩) | h
 ·exact .inl (.inl (e _ _ h))
 ·exact .inl (.inr ⟨o,e _ _ h⟩)
 ·exact .inr h
end
end L2
end
noncomputable section
namespace FF
abbrev St:=L2.St
end FF
namespace FF
open PySem
section
open AutoSeq1 (wpAny_loadPart')
theorem jT:fillsNumberSlot (.type "tuple") "mul"=pure false :=
 fillsNumberSlot_seq F.slot_tuple_mul.lookup (by decide +kernel) F.slot_tuple_rmul.lookup (by decide +kernel)
theorem pF:seqRepeat? (.type "tuple")=pure (some (.builtin "tuple.__mul__")):=by
 unfold seqRepeat?;rw[seqSlot_of (name := "__mul__") F.slot_tuple_mul.lookup (by decide +kernel),seqSlot_of (name := "__rmul__") F.slot_tuple_rmul.lookup (by decide +kernel)];rfl
theorem lE (a:Int)(t:Tok)(l:Addr)(items:Array Value)(n:Nat)(dd:Option Addr)(sl:Array (Lm)) :
  Meets (Builtin.«int.__rmul__» ⟨[.int a t,.ref l],[]⟩) (λ_ R s=>s.heap.get? l=some { cls:=.type "tuple",dict:=dd,data:=.seq items n,slots:=sl }/\R (.ok (.ret Value.notImplemented)) s) :=
 .of_wp λprog w A R s h=>by obtain⟨hp,g,d,tk,os⟩:=s;obtain⟨hl,h⟩:=h;wp_walk;exact⟨_,rfl,h⟩
theorem ni (l:Addr)(items:Array Value)(n:Nat)(k:Int)(t:Tok)(dd:Option Addr)(sl:Array (Lm))(h0:2<=k)(h1:k < 1000000)(K2:items.size*k.toNat<=sizeLine)(hne:items.isEmpty=false) :
  Meets (Builtin.«tuple.__mul__» ⟨[.ref l,.int k t],[]⟩) (λ_ R s=>s.heap.get? l=some { cls:=.type "tuple",dict:=dd,data:=.seq items n,slots:=sl } /\
   R (.ok (.ret (.ref s.heap.objs.size))) { s with heap:=s.heap.push { cls:=.type "tuple",data:=.seq (List.foldl (λx1 x2=>x1++x2) #[] (List.replicate k.toNat items)) } }) :=
 .of_wp λprog w A R s h=>by
  obtain⟨hp,g,d,tk,os⟩:=s;obtain⟨hl,h⟩:=h;have f1:=HN;have f2:=G6;have c0:¬ (decide (k < -2^63)||decide (k≥2^63))=true:=by
   simp only[Bool.or_eq_true,Hi];omega
  have c1:¬ (items.isEmpty||k==1)=true:=by
   rw[hne,Bool.false_or,Hl];omega
  have c2:¬ (decide (k<=0)||items.isEmpty)=true:=by
   rw[hne,Jb,Hi];omega
  have hs:=Go;have hk:(items.size:Int)*k=((items.size*k.toNat:Nat):Int):=by
   rw[Int.natCast_mul,Int.toNat_of_nonneg (by omega)]
  have c3:¬ ((items.size:Int)*k > (2^63 - 1)/8):=by
   rw[hk];omega
  have c4:¬ Builtin.Tuple.tupleTooMany ((items.size:Int)*k)=true:=by
   rw[hk];unfold Builtin.Tuple.tupleTooMany;simp only[Hi];omega
  have Km:(List.foldl (λx1 x2=>x1++x2) #[] (List.replicate k.toNat items)).size<=sizeLine:=by
   have:∀ (m:Nat) (acc:Array Value),(List.foldl (λx1 x2=>x1++x2) acc (List.replicate m items)).size=acc.size+m*items.size:=by
    intro m
    induction m with
    | zero=>intro acc;simp
    | succ m ih=>intro acc;rw[List.replicate_succ,List.foldl_cons,ih,Ip,Nat.succ_mul];omega
   rw[this,Nat.mul_comm];simpa using K2
  unfold Builtin.«tuple.__mul__»
  wp_walk using wpAny_loadPart' hl
  rw[if_neg c0]
  wp_walk using wpAny_loadPart' hl
  rw[if_neg c1]
  try wp_walk using wpAny_loadPart' hl
  rw[if_neg c2]
  try wp_walk using wpAny_loadPart' hl
  rw[if_neg c3]
  try wp_walk using wpAny_loadPart' hl
  rw[if_neg c4]
  try wp_walk using wpAny_loadPart' hl
  rw[if_neg (Nat.not_lt.mpr Km)]
  try wp_walk using wpAny_loadPart' hl
  exact⟨_,rfl,h⟩
end
section
theorem fe (env:Env):∀ (names:List (Str×NameKind)) (acc:List (Str×Addr)),(∀ y∈names,y.2=.free->∃ c,env.cells.lookup y.1=some c)->(∀ n c,acc.lookup n=some c->env.cells.lookup n=some c) ->
  ∃ cl,(forIn names acc λ(x:Str×NameKind) (cs:List (Str×Addr))=>(do
    if x.2==.free then let a <- cellOf env x.1;pure (ForInStep.yield ((x.1,a)::cs)) else pure (ForInStep.yield cs):Sem (ForInStep (List (Str×Addr)))))=pure cl /\
   (∀ n c,cl.lookup n=some c->env.cells.lookup n=some c)/\(∀ n c,acc.lookup n=some c->∃ c',cl.lookup n=some c')/\(∀ y∈names,y.2=.free->∃ c,cl.lookup y.1=some c)
 | [],acc,_,h=>⟨acc,rfl,h,λn c e=>⟨c,e⟩,λ_ z=>nomatch z⟩
 | (n,k)::r,acc,hf,h=>by
  by_cases hk:k=.free
  ·subst hk;obtain⟨c,hc⟩:=hf (n,.free) GZ rfl;have h':∀ m d,List.lookup m ((n,c)::acc)=some d->env.cells.lookup m=some d:=λm d e=>by
    by_cases q:(m==n)=true
    ·have q':m=n:=eq_of_beq q;simp only[List.lookup,q]at e;cases e;rw[q'];exact hc
    ·have q':(m==n)=false:=by simpa using q
     simp only[List.lookup,q']at e;exact h m d e
   obtain⟨cl,e1,e2,e3,e4⟩:=fe env r ((n,c)::acc) (λy hy=>hf y (GI _ hy)) h';have self:List.lookup n ((n,c)::acc)=some c:=by simp[List.lookup]
   refine⟨cl,?_,e2,λm d e=>?_,λy hy hy2=>?_⟩
   ·rw[IF];have:cellOf env n=pure c:=by unfold cellOf;rw[hc]
    simp only[beq_self_eq_true,Gz,this];exact e1
   ·by_cases q:(m==n)=true
    ·have q':m=n:=eq_of_beq q;rw[q'];exact e3 n c self
    ·have q':(m==n)=false:=by simpa using q
     exact e3 m d (by simp only[List.lookup,q'];exact e)
   ·rcases Gi.mp hy with z | z
    ·subst z;exact e3 n c self
    ·exact e4 y z hy2
  ·have hb:(k==NameKind.free)=false:=by simpa using hk
   obtain⟨cl,e1,e2,e3,e4⟩:=fe env r acc (λy hy=>hf y (GI _ hy)) h;refine⟨cl,?_,e2,e3,λy hy hy2=>?_⟩
   ·rw[IF];simp only[hb,Ib,Gt];exact e1
   ·rcases Gi.mp hy with z | z
    ·subst z;exact absurd hy2 hk
    ·exact e4 y z hy2
theorem sI (scope:Scope)(env:Env)(h:∀ y∈scope.names,y.2=.free->∃ c,env.cells.lookup y.1=some c) :
  ∃ cl,closureFor scope env=pure cl/\(∀ n c,cl.lookup n=some c->env.cells.lookup n=some c)/\(∀ y∈scope.names,y.2=.free->∃ c,cl.lookup y.1=some c):=by
 obtain⟨cl,e1,e2,_,e4⟩:=fe env scope.names [] h (λn c e=>by simp at e);refine⟨cl,?_,e2,e4⟩;exact(GA (λt:Sem (List (Str×Addr))=>t >>= λs=>pure s) e1).trans rfl
end
section
def tests (ifs:Lp)(env:Env):Sem Bool:=match ifs with
 | []=>pure true
 | c::_=>isTrue c env (eval c env)
theorem vR {prog:Program}{w:World}{A:Around}{R:Result->Lg}{s:Shared}{elt target iter:Expr}{ifs:Lp}{scope:Scope}{pos:Pos}{it acc:Value}{env:Env}(hifs:ifs.length<=1)(W:Nat->Lg)
  (turn:∀ n s,W n s->wpAny (model prog w) A (pyNext it) (λr s1=>match r with
   | none=>R (.ok .next) s1
   | some v=>wpAny (model prog w) A (letOwnedTupleGo target it v) (λ_ s2=>wpAny (model prog w) A (assign target env v) (λ_ s3=>wpAny (model prog w) A (tests ifs env) (λok s4 =>
     if ok=true then wpAny (model prog w) A (eval elt env) (λx s5=>wpAny (model prog w) A (call (.builtin "list.append") [acc,x]) (λ_ s6=>∃ m,m < n/\W m s6) (λ_ _=>False) s5) (λ_ _=>False) s4
     else ∃ m,m < n/\W m s4) (λ_ _=>False) s3) (λ_ _=>False) s2) (λ_ _=>False) s1) (λ_ _=>False) s)
  (n:Nat) (h:W n s):codeAny (model prog w) A (.compLoop (.ListComp elt [⟨target,iter,ifs,0⟩] scope pos) 0 it acc env) R s:=by
 have weak:∀ {α:Type} {t:Sem α} {Q Q':α->Lg} {E:KU} {s:Shared},wpAny (model prog w) A t Q (λ_ _=>False) s->(∀ a s,Q a s->Q' a s)->wpAny (model prog w) A t Q' E s :=
  λh k=>GN h k λ_ _ z=>z.elim
 refine codeAny_loop rfl W (λn s hW=>?_) n h;refine wpAny_noted ?_;rw[compTurn_list];refine F3 (wpAny_standAt (F3 (weak (turn n s hW) λr s1 h1=>?_)));cases r with
 | none=>exact F6 h1
 | some v =>
  refine F3 (weak h1 λ_ s2 h2=>F3 (weak h2 λ_ s3 h3=>F3 ?_));have fin:∀ ok s4,(if ok=true then wpAny (model prog w) A (eval elt env) (λx s5=>wpAny (model prog w) A (call (.builtin "list.append") [acc,x]) (λ_ s6=>∃ m,m < n/\W m s6) (λ_ _=>False) s5) (λ_ _=>False) s4
     else ∃ m,m < n/\W m s4)->wpAny (model prog w) A (if ok=true then ((do let _ <- call (.builtin "list.append") [acc,<- eval elt env];pure ()) >>= λ_=>again (.compLoop (.ListComp elt [⟨target,iter,ifs,0⟩] scope pos) 0 it acc env)) else again (.compLoop (.ListComp elt [⟨target,iter,ifs,0⟩] scope pos) 0 it acc env))
      (λfin s'=>match fin with | .done f=>R (.ok f) s' | .again c'=>c'=(.compLoop (.ListComp elt [⟨target,iter,ifs,0⟩] scope pos) 0 it acc env)/\∃ m,m < n/\W m s') (notedBy (model prog w) A env λe s'=>R (.error e) s') s4:=by
   intro ok s4 h4;cases ok with
   | true=>exact F3 (F3 (weak h4 λx s5 h5=>F3 (weak h5 λ_ s6 h6=>F6 (F6 ⟨rfl,h6⟩))))
   | false=>exact F6 ⟨rfl,h4⟩
  match ifs,hifs,h3,fin with
  | [],_,h3,fin =>
   refine wpAny_tests_nil ?_;exact F3 (m:=(pure true:Sem Bool)) (weak h3 fin)
  | [c],_,h3,fin =>
   refine wpAny_tests_one ?_;exact weak h3 fin
end
end FF
namespace FF
open PySem PyProof.Rows
open AutoSeq1 (wpAny_loadPart')
theorem vT (l b:Addr)(items Kj:Array Value)(n n2:Nat)(dd dd2:Option Addr)(sl sl2:Array (Lm))(K2:items.size+Kj.size<=sizeLine) :
  Meets (Builtin.«list.__add__» ⟨[.ref l,.ref b],[]⟩) (λ_ R s=>s.heap.get? l=some { cls:=.type "list",dict:=dd,data:=.seq items n,slots:=sl }/\s.heap.get? b=some { cls:=.type "list",dict:=dd2,data:=.seq Kj n2,slots:=sl2 } /\
   R (.ok (.ret (.ref s.heap.objs.size))) { s with heap:=s.heap.push { cls:=.type "list",data:=.seq (items++Kj) } }) :=
 .of_wp λprog w A R s h=>by
  obtain⟨hp,g,d,tk,os⟩:=s;obtain⟨hl,hb,h⟩:=h;have f1:=HN;have f2:=G6;have f3:=Hm;have f4:=Ij;have f5:=Ik;have hl0:¬ Builtin.List.listTooLong (items.size+Kj.size)=true:=by rw[L2.notLongL K2];exact Gv
  have hz:(items++Kj).size<=sizeLine:=by rw[Ip];exact K2
  wp_walk using wpAny_loadPart' hl,wpAny_loadPart' hb
  all_goals first | exact⟨_,rfl,h⟩ | trace_state
theorem vU (l:Addr)(items:Array Value)(n:Nat)(k:Int)(t:Tok)(dd:Option Addr)(sl:Array (Lm))(h0 : -(2^63)<=k)(h1:k < 2^63)(K2:items.size*k.toNat<=sizeLine) :
  Meets (Builtin.«list.__mul__» ⟨[.ref l,.int k t],[]⟩) (λ_ R s=>s.heap.get? l=some { cls:=.type "list",dict:=dd,data:=.seq items n,slots:=sl } /\
   R (.ok (.ret (.ref s.heap.objs.size))) { s with heap:=s.heap.push { cls:=.type "list",data:=.seq (List.foldl (λx1 x2=>x1++x2) #[] (List.replicate (if items.isEmpty=true then 0 else k.toNat) items)) } }) :=
 .of_wp λprog w A R s h=>by
  obtain⟨hp,g,d,tk,os⟩:=s;obtain⟨hl,h⟩:=h;have f1:=HN;have f2:=G6;have f3:=Hm;have hs:=Go;have c1:¬ items.size*k.toNat > (2^63 - 1)/8:=by omega
  have c2:¬ (!Builtin.List.listFitsIndex k)=true:=by rw[fitsIndex_both h0 h1];exact Gv
  have c3:¬ Builtin.List.listTooLong (items.size*k.toNat)=true:=by rw[L2.notLongL K2];exact Gv
  have hz:=AutoListH.joined_fits c3
  wp_walk using wpAny_loadPart' hl
  rw[if_neg (Nat.not_lt.mpr hz)]
  wp_walk
  exact⟨_,rfl,h⟩
theorem nj (a:Int)(t:Tok)(l:Addr)(items:Array Value)(n:Nat)(dd:Option Addr)(sl:Array (Lm)) :
  Meets (Builtin.«int.__rmul__» ⟨[.int a t,.ref l],[]⟩) (λ_ R s=>s.heap.get? l=some { cls:=.type "list",dict:=dd,data:=.seq items n,slots:=sl }/\R (.ok (.ret Value.notImplemented)) s) :=
 .of_wp λprog w A R s h=>by obtain⟨hp,g,d,tk,os⟩:=s;obtain⟨hl,h⟩:=h;wp_walk;exact⟨_,rfl,h⟩
theorem vV (l b:Addr)(items Kj:Array Value)(n n2:Nat)(dd2:Option Addr)(sl2:Array (Lm))(K2:items.size+Kj.size<=sizeLine) :
  Meets (Builtin.«list.extend» ⟨[.ref l,.ref b],[]⟩) (λ_ R s=>s.heap.get? l=some { cls:=.type "list",data:=.seq items n }/\s.heap.get? b=some { cls:=.type "list",dict:=dd2,data:=.seq Kj n2,slots:=sl2 } /\
   R (.ok (.ret .none)) { s with heap:=s.heap.update l (Obj.mapSeq λx=>x++Kj) }) :=
 .of_wp λprog w A R s h=>by
  obtain⟨hp,g,d,tk,os⟩:=s;obtain⟨hl,hb,h⟩:=h;have f1:=HN;have f2:=G6;have f3:=Hm;have f4:=Ij;have f5:=Ik;have hc0:¬(!items.isEmpty&&Builtin.List.listTooLong (items.size+Kj.size))=true:=by rw[L2.notLongL K2,JQ];exact Gv
  have hc1:items.size<=sizeLine:=by omega
  have hs2:items.size+Kj.size<=sizeLine+1:=by omega
  have hz':(items++Kj).size<=sizeLine+1:=by rw[Ip];omega
  wp_walk using (HG hl rfl),wpAny_loadPart' hl,wpAny_loadPart' hb
  exact⟨_,rfl,h⟩
theorem vW (l b:Addr)(items Kj:Array Value)(n n2:Nat)(dd2:Option Addr)(sl2:Array (Lm))(K2:items.size+Kj.size<=sizeLine) :
  Meets (Builtin.«list.extend» ⟨[.ref l,.ref b],[]⟩) (λ_ R s=>s.heap.get? l=some { cls:=.type "list",data:=.seq items n }/\s.heap.get? b=some { cls:=.type "tuple",dict:=dd2,data:=.seq Kj n2,slots:=sl2 } /\
   R (.ok (.ret .none)) { s with heap:=s.heap.update l (Obj.mapSeq λx=>x++Kj) }) :=
 .of_wp λprog w A R s h=>by
  obtain⟨hp,g,d,tk,os⟩:=s;obtain⟨hl,hb,h⟩:=h;have f1:=HN;have f2:=G6;have f3:=Hm;have f4:=Ij;have f5:=Ik;have hc0:¬(!items.isEmpty&&Builtin.List.listTooLong (items.size+Kj.size))=true:=by rw[L2.notLongL K2,JQ];exact Gv
  have hc1:items.size<=sizeLine:=by omega
  have hs2:items.size+Kj.size<=sizeLine+1:=by omega
  have hz':(items++Kj).size<=sizeLine+1:=by rw[Ip];omega
  wp_walk using (HG hl rfl),wpAny_loadPart' hl,wpAny_loadPart' hb
  exact⟨_,rfl,h⟩
end FF
end
noncomputable section
namespace FF
open PySem PySem.Spec PyProof.Rows L2
variable {Z H H' Z' Z1:Hp}{X:Cx}{K:Frag}{σ:St}{pos:Pos}{C:La}{vs xs us:List V}{v:V}{c b tg elt iter:Expr}{k n:Nat}{am:Ll}{N ps:List Str}{ifs:Lp}{scope:Scope}{cap:List Nat}{t:TT}{A:Around}{cl:List (Str×Addr)}{qual:Str}{fp:List Addr}{s':Shared}{P:Program}{st:Stmt}{g:Int->Int->V}{M:Model}{B base:Heap}{mg:KW}{f ea:Addr}
inductive D where
 | non | bl (b:Bool) | int (i:Int) | str (x:Str) | tup (xs:List D) | lst (xs:List D) | exc (k:Nat) | fn (k:Nat) | tab (ks:List (List Int)) (xs:List D) | dic (ks:List Key) (xs:List D) | ptr (a:Addr)
inductive R (α:Type) where
 | ok (a:α) | err (k:Nat) | stuck
noncomputable def R.bind {α β:Type}(r:R α)(f:α->R β):R β:=match r with
 | .ok a=>f a
 | .err k=>.err k
 | .stuck=>.stuck
@[simp] theorem R.bind_ok {α β:Type}(a:α)(f:α->R β):(R.ok a).bind f=f a:=rfl
@[simp] theorem R.bind_err {α β:Type}(k:Nat)(f:α->R β):(R.err k:R α).bind f=.err k:=rfl
@[simp] theorem R.bind_stuck {α β:Type}(f:α->R β):(R.stuck:R α).bind f=.stuck:=rfl
def excO (C:La)(k:Nat)(a:Addr):HO :=
 .ext λh=>∃ o,h.get? a=some o/\o.cls=.ref (C k)/\∃ vs,o.data=.fields vs
abbrev TKV:=List Int×Addr×V
abbrev TKU:=List Int×Addr×Value
def hashT (ks:List Int):Int:=reduceHash (Builtin.Tuple.tupleHashOf (ks.map hashInt))
def tabR (p:TKV)(q:TKU):Prop:=p.1=q.1/\p.2.1=q.2.1/\RelV p.2.2 q.2.2
def tabφ (a:Addr)(Gn:List TKV)(h:Heap):Prop:=∃ xs:List TKU,Paired tabR Gn xs/\xs.length<=sizeLine/\(a==sysModules)=false/\∃ o es ep,h.get? a=some o/\o.ExactDict/\o.data=.dict es ep /\
 es.toList=xs.map (λx=>(⟨hashT x.1,.ref x.2.1,x.2.2⟩:DictEntry))/\(xs.map (·.1)).Nodup
def tabO (a:Addr)(Gn:List TKV):HO:=.ext (tabφ a Gn)
mutual
def Rep (K:Frag)(C:La)(Z:Hp):D->V->Prop
 | .non,v=>v=.non
 | .bl b,v=>v=.bl b
 | .int i,v=>v=.int i
 | .str x,v=>v=.str x
 | .tup ds,v=>∃ a vs,v=.ref a/\SqT K Z a vs/\Reps K C Z ds vs
 | .lst ds,v=>∃ a vs,v=.ref a/\SqL K Z a vs/\Reps K C Z ds vs
 | .exc k,v=>∃ a,v=.ref a/\Z a=some (excO C k a)
 | .fn k,v=>v=.ref (C k)
 | .tab ks ds,v=>∃ a Gn,v=.ref a/\Z a=some (tabO a Gn)/\Gn.map (·.1)=ks/\(∀ x∈Gn,SqT K Z x.2.1 (x.1.map V.int))/\Reps K C Z ds (Gn.map (·.2.2))
 | .dic ks ds,v=>∃ a Gn,v=.ref a/\(∃ o,Z a=some (.frz o (.dK Gn)))/\Gn.map (·.1)=ks/\Reps K C Z ds (Gn.map (·.2))
 | .ptr a,v=>v=.ref a
def Reps (K:Frag)(C:La)(Z:Hp):List D->List V->Prop
 | [],vs=>vs=[]
 | d::ds,vs=>∃ v r,vs=v::r/\Rep K C Z d v/\Reps K C Z ds r
end
theorem _root_.L2.SqT.mono {a:Addr}(e:Same Z Z')(h:SqT K Z a xs):SqT K Z' a xs:=by
 rcases h with (h | ⟨o,h⟩) | h
 ·exact .inl (.inl (e _ _ h))
 ·exact .inl (.inr ⟨o,e _ _ h⟩)
 ·exact .inr h
section
mutual
theorem Rep.mono (e:Same Z Z'):∀ (d:D) (v:V),Rep K C Z d v->Rep K C Z' d v
 | .non,v,h=>by rw[Rep]at h ⊢;exact h
 | .bl b,v,h=>by rw[Rep]at h ⊢;exact h
 | .int i,v,h=>by rw[Rep]at h ⊢;exact h
 | .str x,v,h=>by rw[Rep]at h ⊢;exact h
 | .fn k,v,h=>by rw[Rep]at h ⊢;exact h
 | .tup ds,v,h=>by
  rw[Rep]at h ⊢;obtain⟨a,vs,h1,h2,h3⟩:=h;exact⟨a,vs,h1,h2.mono e,Reps.mono e ds vs h3⟩
 | .lst ds,v,h=>by
  rw[Rep]at h ⊢;obtain⟨a,vs,h1,h2,h3⟩:=h;exact⟨a,vs,h1,e.seq h2,Reps.mono e ds vs h3⟩
 | .exc k,v,h=>by
  rw[Rep]at h ⊢;obtain⟨a,h1,h2⟩:=h;exact⟨a,h1,e _ _ h2⟩
 | .tab ks ds,v,h=>by
  rw[Rep]at h ⊢;obtain⟨a,Gn,h1,h2,h3,h5,h4⟩:=h;exact⟨a,Gn,h1,e _ _ h2,h3,λx hx=>(h5 x hx).mono e,Reps.mono e ds _ h4⟩
 | .dic ks ds,v,h=>by
  rw[Rep]at h ⊢;obtain⟨a,Gn,h1,⟨o,h2⟩,h3,h4⟩:=h;exact⟨a,Gn,h1,⟨o,e _ _ h2⟩,h3,Reps.mono e ds _ h4⟩
 | .ptr a,v,h=>by
  rw[Rep]at h ⊢;exact h
theorem Reps.mono (e:Same Z Z'):∀ (ds:List D) (vs:List V),Reps K C Z ds vs->Reps K C Z' ds vs
 | [],vs,h=>by rw[Reps]at h ⊢;exact h
 | d::ds,vs,h=>by
  rw[Reps]at h ⊢;obtain⟨v,r,h1,h2,h3⟩:=h;exact⟨v,r,h1,Rep.mono e d v h2,Reps.mono e ds r h3⟩
end
theorem Reps.nil:Reps K C Z [] []:=by rw[Reps]
theorem Reps.cons {d:D}{v:V}{ds:List D}{vs:List V}(h:Rep K C Z d v)(t:Reps K C Z ds vs):Reps K C Z (d::ds) (v::vs):=by
 rw[Reps];exact⟨v,vs,rfl,h,t⟩
theorem Reps.uncons {d:D}{ds:List D}(h:Reps K C Z (d::ds) (v::vs)):Rep K C Z d v/\Reps K C Z ds vs:=by
 rw[Reps]at h
 grind
theorem Reps.length:∀ {ds:List D} {vs:List V},Reps K C Z ds vs->ds.length=vs.length
 | [],vs,h=>by rw[Reps]at h;subst h;rfl
 | d::ds,vs,h=>by
  rw[Reps]at h;obtain⟨v,r,e,_,h2⟩:=h;subst e
  simp[Reps.length h2]
theorem Reps.get:∀ {ds:List D} {vs:List V} {i:Nat} {d:D},Reps K C Z ds vs->ds[i]?=some d->∃ v,vs[i]?=some v/\Rep K C Z d v
 | [],vs,i,d,h,e=>by simp at e
 | d'::ds,vs,i,d,h,e=>by
  rw[Reps]at h;obtain⟨v,r,q,h1,h2⟩:=h;subst q;cases i with
  | zero=>simp at e;subst e;exact⟨v,rfl,h1⟩
  | succ i =>
   obtain⟨v',e1,h3⟩:=Reps.get h2 (by simpa using e);exact⟨v',by simpa using e1,h3⟩
theorem Reps.get':∀ {ds:List D} {vs:List V} {i:Nat} {v:V},Reps K C Z ds vs->vs[i]?=some v->∃ d,ds[i]?=some d/\Rep K C Z d v
 | [],vs,i,v,h,e=>by rw[Reps]at h;subst h;simp at e
 | d'::ds,vs,i,v,h,e=>by
  rw[Reps]at h;obtain⟨v0,r,q,h1,h2⟩:=h;subst q;cases i with
  | zero=>simp at e;subst e;exact⟨d',rfl,h1⟩
  | succ i =>
   obtain⟨d,e1,h3⟩:=Reps.get' h2 (by simpa using e);exact⟨d,by simpa using e1,h3⟩
theorem Reps.append:∀ {ds es:List D} {vs us:List V},Reps K C Z ds vs->Reps K C Z es us->Reps K C Z (ds++es) (vs++us)
 | [],es,vs,us,h,h'=>by rw[Reps]at h;subst h;exact h'
 | d::ds,es,vs,us,h,h'=>by
  rw[Reps]at h;obtain⟨v,r,q,h1,h2⟩:=h;subst q;exact Reps.cons h1 (Reps.append h2 h')
theorem Reps.take:∀ {ds:List D} {vs:List V} (n:Nat),Reps K C Z ds vs->Reps K C Z (ds.take n) (vs.take n)
 | [],vs,n,h=>by rw[Reps]at h;subst h;simpa using Reps.nil
 | d::ds,vs,n,h=>by
  rw[Reps]at h;obtain⟨v,r,q,h1,h2⟩:=h;subst q;cases n with
  | zero=>exact Reps.nil
  | succ n=>exact Reps.cons h1 (Reps.take n h2)
theorem Reps.drop:∀ {ds:List D} {vs:List V} (n:Nat),Reps K C Z ds vs->Reps K C Z (ds.drop n) (vs.drop n)
 | [],vs,n,h=>by rw[Reps]at h;subst h;simpa using Reps.nil
 | d::ds,vs,n,h=>by
  rw[Reps]at h;obtain⟨v,r,q,h1,h2⟩:=h;subst q;cases n with
  | zero=>exact Reps.cons h1 h2
  | succ n=>exact Reps.drop n h2
end
structure Ex (H Z H' Z':Hp):Prop where
 same:Same H H'
 z:Same Z Z'
 sub:Same Z' H'
 new:∀ b,Z' b≠none->Z b≠none\/H b=none
theorem Ex.refl (s:Same Z H):Ex H Z H Z:=⟨Same.refl _,Same.refl _,s,λ_ h=>.inl h⟩
theorem Ex.trans {H1 H2 Z2:Hp}(a:Ex H Z H1 Z1)(b:Ex H1 Z1 H2 Z2):Ex H Z H2 Z2 :=
 ⟨a.same.trans b.same,a.z.trans b.z,b.sub,λc h=>(b.new c h).elim (λh1=>a.new c h1) λh1=>.inr (a.same.free h1)⟩
theorem ar {p:Addr}{o:HO}(h:H p=none):Same H (upd H p o):=λb u e=>by
 rw[ae (aE e h)];exact e
theorem Ex.alloc {p:Addr}{o:HO}(s:Same Z H)(h:H p=none):Ex H Z (upd H p o) (upd Z p o):=by
 have hz:Z p=none:=s.free h;refine⟨ar h,ar hz,λb u e=>?_,λb hb=>?_⟩
 ·by_cases q:b=p
  ·subst q;rw[ah]at e ⊢;exact e
  ·rw[ae q]at e ⊢;exact s b u e
 ·by_cases q:b=p
  ·subst q;exact .inr h
  ·rw[ae q]at hb;exact .inl hb
theorem Ex.hidden {p:Addr}{o:HO}(s:Same Z H)(h:H p=none):Ex H Z (upd H p o) Z :=
 ⟨ar h,Same.refl _,s.trans (ar h),λ_ hb=>.inl hb⟩
inductive Sl where
 | val (d:D) | own (ds:List D) | mat (m:List (List D)) | dic (m:List (Key×D)) | dit (m:List (List Int×D))
abbrev SS:=List (Option Sl)
variable {S:SS}
structure Fx where
 K:Frag
 C:La
 H0:Hp
 Z0:Hp
 E:XK
variable {F:Fx}
def Rows (F:Fx)(H Z:Hp):List (List D)->List Addr->Prop
 | [],[]=>True
 | ds::m,r::rs=>(∃ vs,H r=some (.lst vs)/\Reps F.K F.C Z ds vs)/\Rows F H Z m rs
 | _,_=>False
def Pairs {κ:Type}(F:Fx)(Z:Hp)(m:List (κ×D))(Gn:List (κ×V)):Prop:=Gn.map Prod.fst=m.map Prod.fst/\Reps F.K F.C Z (m.map Prod.snd) (Gn.map Prod.snd)
def Ow (F:Fx)(H Z:Hp):Sl->V->List Addr->Prop
 | .val d,v,A=>A=[]/\Rep F.K F.C Z d v
 | .own ds,v,A=>∃ a vs,v=.ref a/\A=[a]/\H a=some (.lst vs)/\Reps F.K F.C Z ds vs
 | .mat m,v,A=>∃ a rs,v=.ref a/\A=a::rs/\H a=some (.lst (rs.map V.ref))/\Rows F H Z m rs
 | .dic m,v,A=>∃ a Gn,v=.ref a/\A=[a]/\H a=some (.dK Gn)/\Pairs F Z m Gn
 | .dit m,v,A=>∃ a Gn,v=.ref a/\A=[a]/\H a=some (tabO a Gn)/\Gn.map (·.1)=m.map (·.1)/\(∀ x∈Gn,SqT F.K Z x.2.1 (x.1.map V.int))/\Reps F.K F.C Z (m.map (·.2)) (Gn.map (·.2.2))
structure Priv (F:Fx)(Z:Hp)(A:List Addr):Prop where
 nd:A.Nodup
 z:∀ a∈A,Z a=none
 h0:∀ a∈A,F.H0 a=none
structure StOk (F:Fx)(H Z:Hp)(S:SS)(σ:St):Prop where
 ex:Ex F.H0 F.Z0 H Z
 len:S.length=σ.length
 sl:∀ (i:Nat) (x:Sl),S[i]?=some (some x)->∃ v A,σ[i]?=some (some v)/\Ow F H Z x v A/\Priv F Z A
 dj:∀ (i j:Nat) (x y:Sl) (v w:V) (A B:List Addr),i≠j->S[i]?=some (some x)->S[j]?=some (some y)->σ[i]?=some (some v)->σ[j]?=some (some w)->Ow F H Z x v A->Ow F H Z y w B->∀ a∈A,a∉B
section
variable {x:Sl}{A B:List Addr}
theorem Rows.mono (hz:Same Z Z'):∀ {m:List (List D)} {rs:List Addr},Rows F H Z m rs->(∀ a∈rs,∀ o,H a=some o->H' a=some o)->Rows F H' Z' m rs
 | [],[],_,_=>trivial
 | ds::m,r::rs,h,k=>by
  obtain⟨⟨vs,e,q⟩,h⟩:=h;exact⟨⟨vs,k r (.head _) _ e,q.mono hz⟩,Rows.mono hz h λa ha=>k a (.tail _ ha)⟩
 | [],_::_,h,_=>h.elim
 | _::_,[],h,_=>h.elim
theorem Rows.there:∀ {m:List (List D)} {rs:List Addr},Rows F H Z m rs->∀ a∈rs,∃ o,H a=some o
 | [],[],_,a,ha=>nomatch ha
 | ds::m,r::rs,h,a,ha=>by
  obtain⟨⟨vs,e,q⟩,h⟩:=h;rcases Gi.mp ha with rfl | ha
  ·exact⟨_,e⟩
  ·exact Rows.there h a ha
 | [],_::_,h,_,_=>h.elim
 | _::_,[],h,_,_=>h.elim
theorem Rows.len:∀ {m:List (List D)} {rs:List Addr},Rows F H Z m rs->rs.length=m.length
 | [],[],_=>rfl
 | ds::m,r::rs,h=>by rw[Gb,Gb,Rows.len h.2]
 | [],_::_,h=>h.elim
 | _::_,[],h=>h.elim
theorem qL:∀ {rs qs:List Addr},rs.map V.ref=qs.map V.ref->rs=qs
 | [],[],_=>rfl
 | r::rs,q::qs,h=>by
  rw[F5,F5]at h;injection h with h1 h2
  injection h1 with h1
  rw[h1,qL h2]
 | [],_::_,h=>nomatch h
 | _::_,[],h=>nomatch h
theorem Ow.mono (hz:Same Z Z')(h:Ow F H Z x v A)(hs:∀ a∈A,∀ o,H a=some o->H' a=some o):Ow F H' Z' x v A:=by
 cases x with
 | val d=>exact⟨h.1,h.2.mono hz⟩
 | own ds =>
  obtain⟨a,vs,e1,e2,e3,r⟩:=h;exact⟨a,vs,e1,e2,hs a (by grind) _ e3,r.mono hz⟩
 | mat m =>
  obtain⟨a,rs,e1,e2,e3,r⟩:=h;exact⟨a,rs,e1,e2,hs a (by grind) _ e3,r.mono hz λb hb=>hs b (by grind)⟩
 | dic m =>
  obtain⟨a,vs,e1,e2,e3,r⟩:=h;exact⟨a,vs,e1,e2,hs a (by grind) _ e3,r.1,r.2.mono hz⟩
 | dit m =>
  obtain⟨a,vs,e1,e2,e3,r⟩:=h;exact⟨a,vs,e1,e2,hs a (by grind) _ e3,r.1,λx hx=>(r.2.1 x hx).mono hz,r.2.2.mono hz⟩
theorem Ow.det (h:Ow F H Z x v A)(h':Ow F H Z x v B):A=B:=by
 cases x with
 | val d=>rw[h.1,h'.1]
 | own ds =>
  obtain⟨a,vs,e1,e2,_⟩:=h;obtain⟨b,us,f1,f2,_⟩:=h'
  grind
 | mat m =>
  obtain⟨a,rs,e1,e2,e3,_⟩:=h;obtain⟨b,qs,f1,f2,f3,_⟩:=h';rw[e1]at f1;cases f1;rw[e3]at f3;injection f3 with f3
  injection f3 with f3
  rw[e2,f2,qL f3]
 | dic m =>
  obtain⟨a,vs,e1,e2,_⟩:=h;obtain⟨b,us,f1,f2,_⟩:=h'
  grind
 | dit m =>
  obtain⟨a,vs,e1,e2,_⟩:=h;obtain⟨b,us,f1,f2,_⟩:=h'
  grind
theorem Ow.there (h:Ow F H Z x v A):∀ a∈A,∃ o,H a=some o:=λa ha=>by
 cases x with
 | val d=>rw[h.1]at ha;cases ha
 | own ds =>
  obtain⟨b,vs,e1,e2,e3,r⟩:=h
  grind
 | mat m =>
  obtain⟨b,rs,e1,e2,e3,r⟩:=h;rw[e2]at ha;rcases Gi.mp ha with rfl | ha
  ·exact⟨_,e3⟩
  ·exact r.there a ha
 | dic m =>
  obtain⟨b,vs,e1,e2,e3,r⟩:=h
  grind
 | dit m =>
  obtain⟨b,vs,e1,e2,e3,r⟩:=h
  grind
theorem StOk.sub (h:StOk F H Z S σ):Same Z H:=h.ex.sub
theorem StOk.more (h:StOk F H Z S σ)(x:Ex H Z H' Z'):StOk F H' Z' S σ:=by
 have up:∀ {y:Sl} {v:V} {A:List Addr},Ow F H Z y v A->Ow F H' Z' y v A:=λo=>o.mono x.z λa _ o e=>x.same _ _ e
 refine⟨h.ex.trans x,h.len,λi y e=>?_,λi j y z v w A B hij e1 e2 e3 e4 o1 o2=>?_⟩
 ·obtain⟨v,A,e1,o,p⟩:=h.sl i y e;refine⟨v,A,e1,up o,p.nd,λa ha=>?_,p.h0⟩;cases q:Z' a with
  | none=>rfl
  | some u =>
   obtain⟨w,hw⟩:=o.there a ha;rcases x.new a (by rw[q];simp) with z | z
   ·exact absurd (p.z a ha) z
   ·rw[hw]at z;cases z
 ·obtain⟨v',A',f1,q1,_⟩:=h.sl i y e1;obtain⟨w',B',f2,q2,_⟩:=h.sl j z e2;rw[e3]at f1;cases f1;rw[e4]at f2;cases f2;rw[o1.det (up q1),o2.det (up q2)];exact h.dj i j y z v w A' B' hij e1 e2 e3 e4 q1 q2
theorem StOk.val (h:StOk F H Z S σ)(i:Nat)(d:D)(e:S[i]?=some (some (.val d))):∃ v,σ[i]?=some (some v)/\Rep F.K F.C Z d v:=by
 obtain⟨v,A,e1,o,_⟩:=h.sl i _ e;exact⟨v,e1,o.2⟩
theorem StOk.own (h:StOk F H Z S σ)(i:Nat)(ds:List D)(e:S[i]?=some (some (.own ds))):∃ a vs,σ[i]?=some (some (.ref a))/\H a=some (.lst vs)/\Z a=none/\F.H0 a=none/\Reps F.K F.C Z ds vs:=by
 obtain⟨v,A,e1,⟨a,vs,rfl,rfl,q,r⟩,p⟩:=h.sl i _ e;exact⟨a,vs,e1,q,p.z a (.head _),p.h0 a (.head _),r⟩
theorem StOk.put (h:StOk F H Z S σ){i:Nat}(o:Ow F H Z x v A)(p:Priv F Z A)(hn:∀ (j:Nat) (y:Sl) (w:V) (B:List Addr),j≠i->S[j]?=some (some y)->σ[j]?=some (some w)->Ow F H Z y w B->∀ a∈A,a∉B) :
  StOk F H Z (S.set i (some x)) (σ.set i (some v)):=by
 have self:∀ {y:Option Sl},(S.set i (some x))[i]?=some y->y=some x/\i < S.length:=λ{y} e=>by
  by_cases hl:i < S.length
  ·rw[Gr hl]at e;cases e;exact⟨rfl,hl⟩
  ·rw[JR (by simpa using hl)]at e;cases e
 refine⟨h.ex,by simp[h.len],λj y e=>?_,λj k y z w u A' B' hjk e1 e2 e3 e4 o1 o2=>?_⟩
 ·by_cases q:i=j
  ·subst q;obtain⟨z,hl⟩:=self e;cases z;exact⟨v,A,by rw[Gr (by rw[<- h.len];exact hl)],o,p⟩
  ·rw[GB q]at e ⊢;exact h.sl j y e
 ·by_cases q:i=j
  ·have q2:i≠k:=λz=>hjk (q ▸ z)
   subst q;obtain⟨z,hl⟩:=self e1;cases z;rw[Gr (by rw[<- h.len];exact hl)]at e3;cases e3;rw[GB q2]at e2 e4;rw[o1.det o];exact hn k _ _ _ (GM q2) e2 e4 o2
  ·rw[GB q]at e1 e3;by_cases q2:i=k
   ·subst q2;obtain⟨z,hl⟩:=self e2;cases z;rw[Gr (by rw[<- h.len];exact hl)]at e4;cases e4;rw[o2.det o];exact λa ha hb=>hn j _ _ _ (GM q) e1 e3 o1 a hb ha
   ·rw[GB q2]at e2 e4;exact h.dj j k _ _ _ _ _ _ hjk e1 e2 e3 e4 o1 o2
theorem Priv.nil:Priv F Z []:=⟨Je,(λ_ h=>nomatch h),(λ_ h=>nomatch h)⟩
theorem StOk.setVal (h:StOk F H Z S σ){i:Nat}{d:D}(r:Rep F.K F.C Z d v):StOk F H Z (S.set i (some (.val d))) (σ.set i (some v)) :=
 h.put ⟨rfl,r⟩ Priv.nil λ_ _ _ _ _ _ _ _ _ ha=>nomatch ha
theorem StOk.putNew (h:StOk F H Z S σ){i:Nat}(e:Ex H Z H' Z')(o:Ow F H' Z' x v A)(p:Priv F Z' A)(hn:∀ a∈A,H a=none):StOk F H' Z' (S.set i (some x)) (σ.set i (some v)):=by
 refine(h.more e).put o p λj y w B hj e1 e2 o2 a ha hb=>?_
 obtain⟨w',B',f1,q,_⟩:=h.sl j y e1;rw[e2]at f1;cases f1;rw[o2.det (q.mono e.z λa _ o e'=>e.same _ _ e')]at hb;obtain⟨u,hu⟩:=q.there a hb;rw[hn a ha]at hu;cases hu
theorem StOk.newOwn (h:StOk F H Z S σ){i:Nat}{a:Addr}{ds:List D}(hp:H a=none)(r:Reps F.K F.C Z ds vs):StOk F (upd H a (.lst vs)) Z (S.set i (some (.own ds))) (σ.set i (some (.ref a))) :=
 h.putNew (Ex.hidden h.sub hp) ⟨a,vs,rfl,rfl,ah,r⟩ ⟨by simp,λb hb=>by cases GP.mp hb;exact h.sub.free hp,λb hb=>by cases GP.mp hb;exact h.ex.same.free hp⟩ λb hb=>by cases GP.mp hb;exact hp
theorem StOk.rewr (h:StOk F H Z S σ){i:Nat}{x':Sl}(e:S[i]?=some (some x))(ev:σ[i]?=some (some v))(o:Ow F H Z x v A)(o':Ow F H' Z x' v A)(hH:∀ b,b∉A->H' b=H b):StOk F H' Z (S.set i (some x')) σ:=by
 have hl:=(Gc.mp e).1;obtain⟨v',A',f1,q1,p⟩:=h.sl i x e;rw[ev]at f1;cases f1;cases o.det q1;have up:∀ {j:Nat} {y:Sl} {w:V} {B:List Addr},j≠i->S[j]?=some (some y)->σ[j]?=some (some w)->Ow F H Z y w B->Ow F H' Z y w B:=λ{j y w B} hj e1 e2 q=>q.mono (Same.refl _) λb hb u eu=>by
  rw[hH b (h.dj j i y x w v B A hj e1 e e2 ev q o b hb)];exact eu
 refine⟨⟨λb u q=>?_,h.ex.z,λb u q=>?_,h.ex.new⟩,by simp[h.len],λj y q=>?_,λj k y z w u A' B' hjk e1 e2 e3 e4 o1 o2=>?_⟩
 ·rw[hH b λz=>by rw[p.h0 b z]at q;cases q];exact h.ex.same b u q
 ·rw[hH b λz=>by rw[p.z b z]at q;cases q];exact h.ex.sub b u q
 ·by_cases z:i=j
  ·subst z;rw[Gr hl]at q;cases q;exact⟨v,A,ev,o',p⟩
  ·rw[GB z]at q;obtain⟨w,B,g1,g2,g3⟩:=h.sl j y q;exact⟨w,B,g1,up (GM z) q g1 g2,g3⟩
 ·have one:∀ {j:Nat} {y:Sl} {w:V} {B:List Addr},(S.set i (some x'))[j]?=some (some y)->σ[j]?=some (some w)->Ow F H' Z y w B->∃ y0,S[j]?=some (some y0)/\Ow F H Z y0 w B:=λ{j y w B} g1 g2 g3=>by
   by_cases z:i=j
   ·subst z;rw[Gr hl]at g1;cases g1;rw[ev]at g2;cases g2;rw[g3.det o'];exact⟨x,e,o⟩
   ·rw[GB z]at g1;obtain⟨w',B',k1,k2,_⟩:=h.sl j y g1;rw[g2]at k1;cases k1;rw[g3.det (up (GM z) g1 g2 k2)];exact⟨y,g1,k2⟩
  obtain⟨y0,a1,a2⟩:=one e1 e3 o1;obtain⟨z0,b1,b2⟩:=one e2 e4 o2;exact h.dj j k y0 z0 w u A' B' hjk a1 b1 e3 e4 a2 b2
theorem StOk.write (h:StOk F H Z S σ){i:Nat}{ds es:List D}{a:Addr}(e:S[i]?=some (some (.own ds)))(ha:σ[i]?=some (some (.ref a)))(r:Reps F.K F.C Z es us) :
  StOk F (upd H a (.lst us)) Z (S.set i (some (.own es))) σ:=by
 obtain⟨a',vs,e1,e2,e3,e4,r0⟩:=h.own i ds e;rw[ha]at e1;cases e1;exact h.rewr e ha ⟨a,vs,rfl,rfl,e2,r0⟩ ⟨a,us,rfl,rfl,ah,r⟩ λb hb=>ae λz=>hb (by rw[z];exact .head _)
theorem StOk.frzAllH {ρ:St}{d:D}(h:StOk F H Z S ρ){i:Nat}(e:S[i]?=some (some x))(ev:ρ[i]?=some (some v))(o:Ow F H Z x v A)(hH:∀ b,b∉A->H' b=H b)(hz:Same Z Z')(hsub:Same Z' H')(K5:∀ b,Z' b≠none->Z b≠none\/b∈A)(r:Rep F.K F.C Z' d v):StOk F H' Z' (S.set i (some (.val d))) ρ:=by
 have hl:=(Gc.mp e).1;obtain⟨v',A',f1,q1,p⟩:=h.sl i x e;rw[ev]at f1;cases f1;cases o.det q1;have up:∀ {j:Nat} {y:Sl} {w:V} {B:List Addr},j≠i->S[j]?=some (some y)->ρ[j]?=some (some w)->Ow F H Z y w B->Ow F H' Z' y w B:=λ{j y w B} hj e1 e2 q=>q.mono hz λb hb u eu=>by
  rw[hH b (h.dj j i y x w v B A hj e1 e e2 ev q o b hb)];exact eu
 refine⟨⟨λb u q=>?_,h.ex.z.trans hz,hsub,λb q=>?_⟩,by simp[h.len],λj y q=>?_,λj k y z w u A' B' hjk e1 e2 e3 e4 o1 o2=>?_⟩
 ·rw[hH b λz=>by rw[p.h0 b z]at q;cases q];exact h.ex.same b u q
 ·rcases K5 b q with z | z
  ·exact h.ex.new b z
  ·exact .inr (p.h0 b z)
 ·by_cases z:i=j
  ·subst z;rw[Gr hl]at q;cases q;exact⟨v,[],ev,⟨rfl,r⟩,Priv.nil⟩
  ·rw[GB z]at q;obtain⟨w,B,g1,g2,g3⟩:=h.sl j y q;refine⟨w,B,g1,up (GM z) q g1 g2,g3.nd,λb hb=>?_,g3.h0⟩;cases qz:Z' b with
   | none=>rfl
   | some u =>
    rcases K5 b (by rw[qz];simp) with y1 | y1
    ·exact absurd (g3.z b hb) y1
    ·exact absurd y1 (h.dj j i _ _ _ _ _ _ (GM z) q e g1 ev g2 o b hb)
 ·have one:∀ {j:Nat} {y:Sl} {w:V} {B:List Addr},(S.set i (some (.val d)))[j]?=some (some y)->ρ[j]?=some (some w)->Ow F H' Z' y w B->B=[]\/(j≠i/\S[j]?=some (some y)/\Ow F H Z y w B):=λ{j y w B} g1 g2 g3=>by
   by_cases z:i=j
   ·subst z;rw[Gr hl]at g1;cases g1;exact .inl g3.1
   ·rw[GB z]at g1;obtain⟨w',B',k1,k2,_⟩:=h.sl j y g1;rw[g2]at k1;cases k1;rw[g3.det (up (GM z) g1 g2 k2)];exact .inr ⟨GM z,g1,k2⟩
  rcases one e1 e3 o1 with z1 | ⟨_,z1,z2⟩
  ·rw[z1];exact λa ha=>nomatch ha
  ·rcases one e2 e4 o2 with y1 | ⟨_,y1,y2⟩
   ·rw[y1];exact λa _ ha=>nomatch ha
   ·exact h.dj j k _ _ _ _ _ _ hjk z1 y1 e3 e4 z2 y2
theorem StOk.frzAll (h:StOk F H Z S σ){i:Nat}{d:D}(e:S[i]?=some (some x))(ev:σ[i]?=some (some v))(o:Ow F H Z x v A)(hz:Same Z Z')(hsub:Same Z' H)(K5:∀ b,Z' b≠none->Z b≠none\/b∈A)(r:Rep F.K F.C Z' d v):StOk F H Z' (S.set i (some (.val d))) σ:=h.frzAllH e ev o (λ_ _=>rfl) hz hsub K5 r
theorem StOk.freeze (h:StOk F H Z S σ){i:Nat}{ds:List D}(e:S[i]?=some (some (.own ds))):∃ Z',Same Z Z'/\StOk F H Z' (S.set i (some (.val (.lst ds)))) σ:=by
 obtain⟨a,vs,e1,e2,e3,e4,r⟩:=h.own i ds e;have hz:Same Z (upd Z a (.lst vs)):=ar e3;refine⟨upd Z a (.lst vs),hz,h.frzAll e e1 ⟨a,vs,rfl,rfl,e2,r⟩ hz (λb o q=>?_) (λb q=>?_) (by rw[Rep];exact⟨a,vs,rfl,SqL.of ah,r.mono hz⟩)⟩
 ·by_cases y:b=a
  ·subst y;rw[ah]at q;cases q;exact e2
  ·rw[ae y]at q;exact h.ex.sub b o q
 ·by_cases y:b=a
  ·exact .inr (by rw[y];exact .head _)
  ·rw[ae y]at q;exact .inl q
end
theorem xF {F G:Fx}{H Z:Hp}(hK:G.K=F.K:=by rfl)(hC:G.C=F.C:=by rfl):∀ {m:List (List D)} {rs:List Addr},Rows F H Z m rs->Rows G H Z m rs
 | [],[],_=>trivial
 | ds::m,r::rs,h=>by
  obtain⟨⟨vs,e,q⟩,h⟩:=h;exact⟨⟨vs,e,by rw[hK,hC];exact q⟩,xF hK hC h⟩
 | [],_::_,h=>h.elim
 | _::_,[],h=>h.elim
theorem ow_K {G:Fx}{x:Sl}{A:List Addr}(h:Ow F H Z x v A)(hK:G.K=F.K:=by rfl)(hC:G.C=F.C:=by rfl):Ow G H Z x v A:=by
 cases x with
 | val d=>exact⟨h.1,by rw[hK,hC];exact h.2⟩
 | own ds=>obtain⟨a,vs,e1,e2,e3,r⟩:=h;exact⟨a,vs,e1,e2,e3,by rw[hK,hC];exact r⟩
 | mat m=>obtain⟨a,rs,e1,e2,e3,r⟩:=h;exact⟨a,rs,e1,e2,e3,xF hK hC r⟩
 | dic m=>obtain⟨a,vs,e1,e2,e3,r⟩:=h;exact⟨a,vs,e1,e2,e3,r.1,by rw[hK,hC];exact r.2⟩
 | dit m=>obtain⟨a,vs,e1,e2,e3,r⟩:=h;exact⟨a,vs,e1,e2,e3,r.1,by rw[hK];exact r.2.1,by rw[hK,hC];exact r.2.2⟩
def WG {α:Type}(F:Fx)(H Z:Hp)(r:R α)(P:α->Hp->Lh):Prop:=match r with
 | .ok a=>∀ H' Z',Ex H Z H' Z'->P a H' Z'
 | .err k=>∀ H',Same H H'->F.E (.ref (F.C k)) none H'
 | .stuck=>False
section
variable {α:Type}{H1:Hp}{r:R α}{P P':α->Hp->Lh}
theorem WG.more (w:WG F H Z r P)(x:Ex H Z H1 Z1):WG F H1 Z1 r P:=by
 cases r with
 | ok a=>exact λH' Z' y=>w H' Z' (x.trans y)
 | err k=>exact λH' y=>w H' (x.same.trans y)
 | stuck=>exact w
theorem WG.now {a:α}(w:WG F H Z (.ok a) P)(s:Same Z H):P a H Z:=w H Z (Ex.refl s)
end
abbrev KZ:=SS->R D
def tE (F:Fx)(g:KZ):TE:=λσ H Q=>∃ Z S,StOk F H Z S σ/\WG F H Z (g S) λd H' Z'=>∀ v,Rep F.K F.C Z' d v->Q v H'
abbrev Le:=SS->R Bool
def tT (F:Fx)(g:Le):TT:=λσ H Q=>∃ Z S,StOk F H Z S σ/\WG F H Z (g S) λb H' _=>Q b H'
abbrev KY:=SS->R (List D)
def tAl (F:Fx)(g:KY):TA:=λσ H Q=>∃ Z S,StOk F H Z S σ/\WG F H Z (g S) λds H' Z'=>∀ vs,Reps F.K F.C Z' ds vs->Q vs H'
inductive O where
 | nx (S:SS) | rt (d:D) | er (k:Nat) | bk (S:SS) | ct (S:SS) | stuck
def WO (F:Fx)(Z:Hp)(o:O)(D:Ends):Prop:=match o with
 | .nx S=>∀ σ H Z',Same Z Z'->StOk F H Z' S σ->D.nx σ H
 | .rt d=>∀ v H Z',Ex F.H0 F.Z0 H Z'->Rep F.K F.C Z' d v->D.rt v H
 | .er k=>∀ H,Same F.H0 H->F.E (.ref (F.C k)) none H
 | .bk S=>∀ σ H Z',Same Z Z'->StOk F H Z' S σ->D.bk σ H
 | .ct S=>∀ σ H Z',Same Z Z'->StOk F H Z' S σ->D.ct σ H
 | .stuck=>False
theorem WO.more {o:O}{D:Ends}(w:WO F Z o D)(z:Same Z Z1):WO F Z1 o D:=by
 cases o with
 | nx S=>exact λσ H Z' q=>w σ H Z' (z.trans q)
 | rt d=>exact w
 | er k=>exact w
 | bk S=>exact λσ H Z' q=>w σ H Z' (z.trans q)
 | ct S=>exact λσ H Z' q=>w σ H Z' (z.trans q)
 | stuck=>exact w
def tS (F:Fx)(g:SS->O):TS:=λD σ H=>∃ Z S,StOk F H Z S σ/\WO F Z (g S) D
abbrev FE (X:Cx)(F:Fx)(e:Expr)(g:KZ):Prop:=PE X e (tE F g)
abbrev FT (X:Cx)(F:Fx)(e:Expr)(g:Le):Prop:=PT X e (tT F g)
abbrev FW (X:Cx)(F:Fx)(e:Expr)(g:Le):Prop:=PW X e (tT F g)
abbrev FA (X:Cx)(F:Fx)(es:Lp)(g:KY):Prop:=PA X es (tAl F g)
abbrev FS (X:Cx)(F:Fx)(st:Stmt)(g:SS->O):Prop:=PS X st (tS F g)
abbrev FSs (X:Cx)(F:Fx)(sts:Lo)(g:SS->O):Prop:=PSs X sts (tS F g)
theorem _root_.L2.PE.weak {e:Expr}{t t':TE}(h:PE X e t)(w:∀ σ H Q,t' σ H Q->t σ H Q):PE X e t':=λam s σ H Q I q=>h am s σ H Q I (w σ H Q q)
theorem _root_.L2.PT.weak {e:Expr}{t':TT}(h:PT X e t)(w:∀ σ H Q,t' σ H Q->t σ H Q):PT X e t':=λam s σ H Q I q=>h am s σ H Q I (w σ H Q q)
theorem _root_.L2.PW.weak {e:Expr}{t':TT}(h:PW X e t)(w:∀ σ H Q,t' σ H Q->t σ H Q):PW X e t':=λwh am s σ H Q I q=>h wh am s σ H Q I (w σ H Q q)
theorem _root_.L2.PA.weak {e:Lp}{t t':TA}(h:PA X e t)(w:∀ σ H Q,t' σ H Q->t σ H Q):PA X e t':=λp am s σ H Q I q=>h p am s σ H Q I (w σ H Q q)
theorem _root_.L2.PS.weak {e:Stmt}{t t':TS}(h:PS X e t)(w:∀ D σ H,t' D σ H->t D σ H):PS X e t':=λam s σ H D I q=>h am s σ H D I (w D σ H q)
theorem _root_.L2.PSs.weak {e:Lo}{t t':TS}(h:PSs X e t)(w:∀ D σ H,t' D σ H->t D σ H):PSs X e t':=λam s σ H D I q=>h am s σ H D I (w D σ H q)
section
theorem ak {α:Type}{g:KZ}{k:D->R α}{P:α->Hp->Lh}{Q:VK}(ok:StOk F H Z S σ)(w:WG F H Z ((g S).bind k) P)
  (h:∀ d v H1 Z1,StOk F H1 Z1 S σ->Ex H Z H1 Z1->Rep F.K F.C Z1 d v->WG F H1 Z1 (k d) P->Q v H1):tE F g σ H Q:=by
 refine⟨Z,S,ok,?_⟩;cases e:g S with
 | ok d =>
  rw[e]at w;intro H1 Z1 x v r;exact h d v H1 Z1 (ok.more x) x r (WG.more w x)
 | err k=>rw[e]at w;exact w
 | stuck=>rw[e]at w;exact w
theorem i6 {α:Type}{g:Le}{k:Bool->R α}{P:α->Hp->Lh}{Q:Bool->Lh}(ok:StOk F H Z S σ)(w:WG F H Z ((g S).bind k) P)
  (h:∀ b H1 Z1,StOk F H1 Z1 S σ->Ex H Z H1 Z1->WG F H1 Z1 (k b) P->Q b H1):tT F g σ H Q:=by
 refine⟨Z,S,ok,?_⟩;cases e:g S with
 | ok d =>
  rw[e]at w;intro H1 Z1 x;exact h d H1 Z1 (ok.more x) x (WG.more w x)
 | err k=>rw[e]at w;exact w
 | stuck=>rw[e]at w;exact w
theorem aS {α:Type}{g:KY}{k:List D->R α}{P:α->Hp->Lh}{Q:List V->Lh}(ok:StOk F H Z S σ)(w:WG F H Z ((g S).bind k) P)
  (h:∀ ds vs H1 Z1,StOk F H1 Z1 S σ->Ex H Z H1 Z1->Reps F.K F.C Z1 ds vs->WG F H1 Z1 (k ds) P->Q vs H1):tAl F g σ H Q:=by
 refine⟨Z,S,ok,?_⟩;cases e:g S with
 | ok d =>
  rw[e]at w;intro H1 Z1 x v r;exact h d v H1 Z1 (ok.more x) x r (WG.more w x)
 | err k=>rw[e]at w;exact w
 | stuck=>rw[e]at w;exact w
end
def eVar (i:Nat):KZ:=λS=>match S[i]? with
 | some (some (.val d))=>.ok d
 | _=>.stuck
def eC (d:D):KZ:=λ_=>.ok d
section
variable {e a:Expr}{g ga gb:KZ}
theorem dE {d:D}(h:PE X e (tC v))(r:∀ Z,Rep F.K F.C Z d v):FE X F e (eC d):=h.weak λσ H Q ⟨Z,S,ok,w⟩=>WG.now w ok.sub v (r Z)
theorem ac {i j pos}:FE X F (.Constant (.int i) j pos) (eC (.int i)):=dE xk λ_=>by rw[Rep]
theorem gh {b j pos}:FE X F (.Constant (.bool b) j pos) (eC (.bl b)):=dE Em λ_=>by rw[Rep]
theorem Dp {j pos}:FE X F (.Constant .none j pos) (eC .non):=dE CP λ_=>by rw[Rep]
theorem aj {x j pos}:FE X F (.Constant (.str x) j pos) (eC (.str x)):=dE xl λ_=>by rw[Rep]
theorem aa (i:Nat){x:Str}(hN:X.N[i]?=some x:=by rfl)(hv:Vis X.env.scope x:=by first | exact Or.inl rfl | exact Or.inr (Or.inl rfl) | exact Or.inr (Or.inr rfl))(hd:KH x:=by decide)
  (Ks:KK x:=by decide):FE X F (.Name x pos) (eVar i):=(f8 hN hv hd Ks).weak λσ H Q ⟨Z,S,ok,w⟩=>by
 unfold eVar at w;split at w
 ·rename_i d e;obtain⟨v,e1,r⟩:=ok.val i d e;exact⟨v,e1,WG.now w ok.sub v r⟩
 ·exact w.elim
end
abbrev Lf:=D->D->R D
def OpD (F:Fx)(r:R2)(f:Lf):Prop:=∀ (H Z:Hp) (x y:V) (dx dy:D) (Q:VK),Same Z H->Rep F.K F.C Z dx x->Rep F.K F.C Z dy y ->
 WG F H Z (f dx dy) (λd H' Z'=>∀ v,Rep F.K F.C Z' d v->Q v H')->r x y H Q
noncomputable def eOp (f:Lf)(ga gb:KZ):KZ:=λS=>(ga S).bind λx=>(gb S).bind λy=>f x y
section
variable {e a:Expr}{ga gb gc:KZ}{r:R2}{f:Lf}
theorem pG (hd:OpD F r f):∀ σ H Q,tE F (eOp f ga gb) σ H Q->tOp r (tE F ga) (tE F gb) σ H Q:=λσ H Q ⟨Z,S,ok,w⟩ =>
 ak ok w λdx x H1 Z1 ok1 x1 rx w1=>ak ok1 w1 λdy y H2 Z2 ok2 x2 ry w2=>hd H2 Z2 x y dx dy Q ok2.sub (rx.mono x2.z) ry w2
theorem qM {op:Operator}(ho:OpR X (binaryOp op) r)(hd:OpD F r f)(ha:FE X F a ga)(hb:FE X F b gb):FE X F (.BinOp a op b pos) (eOp f ga gb):=(Eo ho ha hb).weak (pG hd)
theorem Dq {op:CmpOp}(ho:OpR X (compareOp op) r)(hd:OpD F r f)(ha:FE X F a ga)(hb:FE X F b gb)(hm:behindInMarks op b=false:=by first | exact nomark _ | rfl):FE X F (.Compare a [op] [b] pos) (eOp f ga gb) :=
 (As ho ha hb hm).weak (pG hd)
theorem Er (ho:IxR X r)(hd:OpD F r f)(ha:FE X F a ga)(hb:FE X F b gb)(hs:PlainIx b:=by intro _ _;rfl):FE X F (.Subscript a b pos) (eOp f ga gb):=(Cv ho ha hb hs).weak (pG hd)
noncomputable def asB (r:R D):R Bool:=r.bind λd=>match d with
 | .bl b=>.ok b
 | _=>.stuck
def gB (g:KZ):Le:=λS=>asB (g S)
theorem uu {t:TE}{g:KZ}(h:∀ σ H Q,tE F g σ H Q->t σ H Q):∀ σ H Q,tT F (gB g) σ H Q->tTest t σ H Q:=λσ H Q ⟨Z,S,ok,w⟩=>by
 refine h σ H _ (ak ok w λd v H1 Z1 ok1 x1 rv w1=>?_);cases d with
 | bl b=>rw[Rep]at rv;exact⟨b,rv,WG.now w1 ok1.sub⟩
 | _=>exact w1.elim
theorem bF {g:KZ}(h:FE X F e g)(he:∀ whole,isTrue e X.env whole=(do let v <- whole;standAt e.pos;holding [v] (truthy v)):=by intro _;rfl):FT X F e (gB g) :=
 (CT h he).weak (uu λ_ _ _ q=>q)
theorem iO {op:CmpOp}(ho:OpR X (compareOp op) r)(hd:OpD F r f)(ha:FE X F a ga)(hb:FE X F b gb)(hm:behindInMarks op b=false:=by first | exact nomark _ | rfl):FT X F (.Compare a [op] [b] pos) (gB (eOp f ga gb)) :=
 (uo ho ha hb hm).weak (uu (pG hd))
end
def gAnd (a b:Le):Le:=λS=>(a S).bind λc=>if c=true then b S else .ok false
def gOr (a b:Le):Le:=λS=>(a S).bind λc=>if c=true then .ok true else b S
def gNot (a:Le):Le:=λS=>(a S).bind λc=>.ok (!c)
def eIf (c:Le)(a b:KZ):KZ:=λS=>(c S).bind λt=>if t=true then a S else b S
section
variable {e a:Expr}{rest:Lp}{ta tb tc:Le}{ga gb:KZ}
theorem pH (h:FT X F a ta):FW X F (.BoolOp .And [a] pos) ta:=Aq h
theorem iP (h:FT X F a ta):FW X F (.BoolOp .Or [a] pos) ta:=xm h
theorem sJ (ha:FT X F a ta)(hb:FW X F (.BoolOp .And (b::rest) pos) tb):FW X F (.BoolOp .And (a::b::rest) pos) (gAnd ta tb) :=
 (CU ha hb).weak λσ H Q ⟨Z,S,ok,w⟩=>i6 ok w λd H1 Z1 ok1 x1 w1=>by
  cases d with
  | true=>exact⟨Z1,S,ok1,w1⟩
  | false=>exact WG.now w1 ok1.sub
theorem lF (ha:FT X F a ta)(hb:FW X F (.BoolOp .Or (b::rest) pos) tb):FW X F (.BoolOp .Or (a::b::rest) pos) (gOr ta tb) :=
 (Cq ha hb).weak λσ H Q ⟨Z,S,ok,w⟩=>i6 ok w λd H1 Z1 ok1 x1 w1=>by
  cases d with
  | true=>exact WG.now w1 ok1.sub
  | false=>exact⟨Z1,S,ok1,w1⟩
theorem ft_w (h:FW X F e ta):FT X F e ta:=h.pt
theorem bG (h:FT X F a ta):FT X F (.UnaryOp .Not a pos) (gNot ta) :=
 (CV h).weak λσ H Q ⟨Z,S,ok,w⟩=>i6 ok w λd H1 Z1 ok1 x1 w1=>WG.now w1 ok1.sub
theorem pI {op}(h:FE X F a ga):FE X F (.BoolOp op [a] pos) ga:=CW h
def eAnd (a b:KZ):KZ:=λS=>(asB (a S)).bind λc=>if c=true then b S else .ok (.bl false)
def eNot (a:KZ):KZ:=λS=>(asB (a S)).bind λc=>.ok (.bl (!c))
theorem xG {α:Type}{g:KZ}{k:Bool->R α}{P:α->Hp->Lh}{Q:VK}(ok:StOk F H Z S σ)(w:WG F H Z ((asB (g S)).bind k) P)
  (h:∀ c H1 Z1,StOk F H1 Z1 S σ->Ex H Z H1 Z1->WG F H1 Z1 (k c) P->Q (.bl c) H1):tE F g σ H Q:=by
 have e:(asB (g S)).bind k=(g S).bind λd=>(match d with | .bl b=>R.ok b | _=>R.stuck).bind k:=by
  unfold asB;cases g S<;>rfl
 rw[e]at w;refine ak ok w λd v H1 Z1 ok1 x1 rv w1=>?_
 cases d with
 | bl b=>rw[Rep]at rv;subst rv;exact h b H1 Z1 ok1 x1 w1
 | _=>exact w1.elim
theorem pJ (ha:FE X F a ga)(hb:FE X F (.BoolOp .And (b::rest) pos) gb):FE X F (.BoolOp .And (a::b::rest) pos) (eAnd ga gb) :=
 (CY ha hb).weak λσ H Q ⟨Z,S,ok,w⟩=>xG ok w λc H1 Z1 ok1 x1 w1=>⟨c,rfl,by
  cases c with
  | true=>exact⟨Z1,S,ok1,w1⟩
  | false=>exact WG.now w1 ok1.sub _ (by rw[Rep])⟩
theorem sK (ha:FE X F a ga):FE X F (.UnaryOp .Not a pos) (eNot ga) :=
 (CZ ha).weak λσ H Q ⟨Z,S,ok,w⟩=>xG ok w λc H1 Z1 ok1 x1 w1=>⟨c,rfl,WG.now w1 ok1.sub _ (by rw[Rep])⟩
theorem xH (hc:FT X F c tc)(ha:FE X F a ga)(hb:FE X F b gb):FE X F (.IfExp c a b pos) (eIf tc ga gb) :=
 (qG hc ha hb).weak λσ H Q ⟨Z,S,ok,w⟩=>i6 ok w λd H1 Z1 ok1 x1 w1=>by
  cases d with
  | true=>exact⟨Z1,S,ok1,w1⟩
  | false=>exact⟨Z1,S,ok1,w1⟩
end
def aNil:KY:=λ_=>.ok []
def aCons (g:KZ)(gs:KY):KY:=λS=>(g S).bind λd=>(gs S).bind λds=>.ok (d::ds)
def eTup (gs:KY):KZ:=λS=>(gs S).bind λds=>if ds.length<=16777216 then .ok (.tup ds) else .stuck
def eLst (gs:KY):KZ:=λS=>(gs S).bind λds=>if ds.length<=16777216 then .ok (.lst ds) else .stuck
section
variable {e:Expr}{es:Lp}{g:KZ}{gs:KY}
theorem Dr:FA X F [] aNil:=iM.weak λσ H Q ⟨Z,S,ok,w⟩=>WG.now w ok.sub [] Reps.nil
theorem AE (ha:FE X F e g)(hr:FA X F es gs)(hs:Id X e es:=by rfl):FA X F (e::es) (aCons g gs) :=
 (cj ha hr hs).weak λσ H Q ⟨Z,S,ok,w⟩=>ak ok w λd v H1 Z1 ok1 x1 rv w1=>aS ok1 w1 λds vs H2 Z2 ok2 x2 rs w2=>WG.now w2 ok2.sub _ (Reps.cons (rv.mono x2.z) rs)
theorem Ds {x1}(h:FA X F es gs):FE X F (.Tuple es x1 pos) (eTup gs) :=
 (Dj h).weak λσ H Q ⟨Z,S,ok,w⟩=>aS ok w λds vs H1 Z1 ok1 x1 rs w1=>by
  split at w1
  ·rename_i hl;refine⟨by rw[<- rs.length,Go];exact hl,λp hp=>?_⟩;have z:Same Z1 (upd Z1 p (.tup vs)):=ar (ok1.sub.free hp);exact w1 _ _ (Ex.alloc ok1.sub hp) _ (by rw[Rep];exact⟨p,vs,rfl,SqT.of ah,rs.mono z⟩)
  ·exact w1.elim
theorem Dt (h:FA X F es gs):FE X F (.List es pos) (eLst gs) :=
 (xz h).weak λσ H Q ⟨Z,S,ok,w⟩=>aS ok w λds vs H1 Z1 ok1 x1 rs w1=>by
  split at w1
  ·rename_i hl;refine⟨by rw[<- rs.length,Go];exact hl,λp hp=>?_⟩;have z:Same Z1 (upd Z1 p (.lst vs)):=ar (ok1.sub.free hp);exact w1 _ _ (Ex.alloc ok1.sub hp) _ (by rw[Rep];exact⟨p,vs,rfl,SqL.of ah,rs.mono z⟩)
  ·exact w1.elim
end
def rO (r:R O):O:=match r with
 | .ok o=>o
 | .err k=>.er k
 | .stuck=>.stuck
def sDrop (g:KZ):SS->O:=λS=>rO ((g S).bind λ_=>.ok (.nx S))
def sRet (g:KZ):SS->O:=λS=>rO ((g S).bind λd=>.ok (.rt d))
def sSet (i:Nat)(g:KZ):SS->O:=λS=>rO ((g S).bind λd=>.ok (.nx (S.set i (some (.val d)))))
section
variable {rest:Lo}{e:Expr}{g:KZ}{gt:Le}{ga gb:SS->O}
theorem WO.wg {D:Ends}{r:R O}(ok:StOk F H Z S σ)(w:WO F Z (rO r) D):WG F H Z r λo _ Z'=>WO F Z' o D:=by
 cases r with
 | ok o=>exact λ_ _ x=>WO.more w x.z
 | err k=>exact λH' s=>w H' (ok.ex.same.trans s)
 | stuck=>exact w
theorem AF (h:FE X F e g)(hs:swapsWith e none pos.line X.env=pure false:=by rfl):FS X F (.Expr e pos) (sDrop g) :=
 (k6 h hs).weak λD σ H ⟨Z,S,ok,w⟩=>ak ok (WO.wg ok w) λd v H1 Z1 ok1 x1 rv w1=>WG.now w1 ok1.sub σ H1 Z1 (Same.refl _) ok1
theorem pK (h:FE X F e g):FS X F (.Return (some e) pos) (sRet g) :=
 (sy h).weak λD σ H ⟨Z,S,ok,w⟩=>ak ok (WO.wg ok w) λd v H1 Z1 ok1 x1 rv w1=>WG.now w1 ok1.sub v H1 Z1 ok1.ex rv
theorem lG (i:Nat){x:Str}{Kn:Pos}(hN:X.N.Nodup)(h:FE X F e g)(hi:X.N[i]?=some x:=by rfl)(hx:Loc X.env.scope x:=by first | exact Or.inl rfl | exact Or.inr rfl)
  (hs:swapsWith e (some (.Name x Kn)) pos.line X.env=pure false:=by rfl) (hf:KJ X x:=by first | exact .inl rfl | exact .inr rfl):FS X F (.Assign [.Name x Kn] e pos) (sSet i g) :=
 (pq hN hi hx h hs hf).weak λD σ H ⟨Z,S,ok,w⟩=>ak ok (WO.wg ok w) λd v H1 Z1 ok1 x1 rv w1=>WG.now w1 ok1.sub _ _ _ (Same.refl _) (ok1.setVal rv)
end
theorem OpD.or {r r':R2}{f f':Lf}(p:D->D->Bool)(h:OpD F r f)(h':OpD F r' f'):OpD F (λx y H Q=>r x y H Q\/r' x y H Q) (λx y=>if p x y=true then f x y else f' x y):=by
 intro H Z x y dx dy Q s rx ry w;by_cases e:p dx dy=true
 ·dsimp only at w;rw[if_pos e]at w;exact .inl (h H Z x y dx dy Q s rx ry w)
 ·dsimp only at w;rw[if_neg e]at w;exact .inr (h' H Z x y dx dy Q s rx ry w)
def dI (c:Int->Int->Bool)(g:Int->Int->D):Lf
 | .int i,.int j=>if c i j=true then .ok (g i j) else .stuck
 | _,_=>.stuck
def dI0 (g:Int->Int->D):Lf
 | .int i,.int j=>.ok (g i j)
 | _,_=>.stuck
theorem xI {C:Int->Int->Prop}{c:Int->Int->Bool}{g':Int->Int->D}(hc:∀ i j,c i j=true->C i j)(hg:∀ i j Z,Rep F.K F.C Z (g' i j) (g i j)):OpD F (rI C g) (dI c g'):=by
 intro H Z x y dx dy Q s rx ry w;cases dx with
 | int i =>
  cases dy with
  | int j =>
   rw[Rep]at rx;rw[Rep]at ry;subst rx;subst ry;unfold dI at w
   dsimp only at w
   split at w
   ·rename_i q;exact⟨i,j,rfl,rfl,hc i j q,WG.now w s _ (hg i j Z)⟩
   ·exact w.elim
  | _=>exact w.elim
 | _=>exact w.elim
theorem dP {g':Int->Int->D}(hg:∀ i j Z,Rep F.K F.C Z (g' i j) (g i j)):OpD F (rI0 g) (dI0 g'):=by
 intro H Z x y dx dy Q s rx ry w;cases dx with
 | int i =>
  cases dy with
  | int j =>
   rw[Rep]at rx;rw[Rep]at ry;subst rx;subst ry;exact⟨i,j,rfl,rfl,WG.now w s _ (hg i j Z)⟩
  | _=>exact w.elim
 | _=>exact w.elim
def cMul (i j:Int):Bool:=(decide (-(2^64) < i)&&decide (i < 2^64))||(decide (-(2^64) < j)&&decide (j < 2^64))
def cDiv (i j:Int):Bool:=decide (0 < j)&&decide (j < 1073741824)
theorem AG (i j:Int)(h:cMul i j=true):CMul i j:=by
 unfold cMul at h;simp only[Bool.or_eq_true,Gj,Hi]at h;exact h
theorem AH (i j:Int)(h:cDiv i j=true):CDiv i j:=by
 unfold cDiv at h;simp only[Gj,Hi]at h;exact h
def isInt:D->Bool
 | .int _=>true
 | _=>false
def isTup:D->Bool
 | .tup _=>true
 | _=>false
def isLst:D->Bool
 | .lst _=>true
 | _=>false
def dCatT:Lf
 | .tup xs,.tup ys=>if xs.length+ys.length<=16777216 then .ok (.tup (xs++ys)) else .stuck
 | _,_=>.stuck
def dCatL:Lf
 | .lst xs,.lst ys=>if xs.length+ys.length<=16777216 then .ok (.lst (xs++ys)) else .stuck
 | _,_=>.stuck
def dIx:Lf
 | .tup xs,.int i=>match atI xs i with
  | some d=>.ok d
  | none=>.stuck
 | .lst xs,.int i=>match atI xs i with
  | some d=>.ok d
  | none=>.stuck
 | _,_=>.stuck
theorem Reps.at {ds:List D}{i:Int}{d:D}(r:Reps K C Z ds vs)(h:atI ds i=some d):∃ v,atI vs i=some v/\Rep K C Z d v:=by
 unfold atI at h ⊢;rw[<- r.length];cases e:ixN ds.length i with
 | none=>rw[e]at h;cases h
 | some j =>
  rw[e]at h;exact r.get h
theorem xJ :OpD F (rIx F.K) dIx:=by
 intro H Z x y dx dy Q s rx ry w;cases dx with
 | tup ds =>
  cases dy with
  | int i =>
   rw[Rep]at rx;rw[Rep]at ry;obtain⟨a,vs,rfl,h1,h2⟩:=rx;subst ry;unfold dIx at w
   dsimp only at w
   split at w
   ·rename_i d e;obtain⟨v,e1,r⟩:=h2.at e;exact .inr (.inl ⟨a,vs,i,v,rfl,rfl,h1.mono s,e1,WG.now w s v r⟩)
   ·exact w.elim
  | _=>exact w.elim
 | lst ds =>
  cases dy with
  | int i =>
   rw[Rep]at rx;rw[Rep]at ry;obtain⟨a,vs,rfl,h1,h2⟩:=rx;subst ry;unfold dIx at w
   dsimp only at w
   split at w
   ·rename_i d e;obtain⟨v,e1,r⟩:=h2.at e;exact .inl ⟨a,vs,i,v,rfl,rfl,s.seq h1,e1,WG.now w s v r⟩
   ·exact w.elim
  | _=>exact w.elim
 | _=>exact w.elim
section
open AutoSeq1 (wpAny_loadPart')
theorem qN (l b:Addr)(items Kj:Array Value)(n n2:Nat)(dd dd2:Option Addr)(sl sl2:Array (Lm))(hc0:items.isEmpty=true) :
  Meets (Builtin.«tuple.__add__» ⟨[.ref l,.ref b],[]⟩) (λ_ R s=>s.heap.get? l=some { cls:=.type "tuple",dict:=dd,data:=.seq items n,slots:=sl }/\s.heap.get? b=some { cls:=.type "tuple",dict:=dd2,data:=.seq Kj n2,slots:=sl2 }/\R (.ok (.ret (.ref b))) s) :=
 .of_wp λprog w A R s h=>by
  obtain⟨hp,g,d,tk,os⟩:=s;obtain⟨hl,hb,h⟩:=h;have f2:=G6;have f3:=Hm
  wp_walk using wpAny_loadPart' hl,wpAny_loadPart' hb
  exact⟨_,rfl,h⟩
end
def rCat2 (K:Frag):R2:=λx y H Q=>∃ a b xs ys,x=.ref a/\y=.ref b/\SqT K H a xs/\SqT K H b ys/\xs.length+ys.length<=sizeLine/\(∀ p,H p=none->Q (.ref p) (upd H p (.tup (xs++ys))))/\(ys=[]->Q (.ref a) H)/\(xs=[]->Q (.ref b) H)
theorem AI :OpR X (binaryOp .Add) (rCat2 X.K):=by
 intro am s σ H x y v u Q I rx ry h;obtain⟨a,b,xs,ys,rfl,rfl,ha,hb,hz,q1,q2,q3⟩:=h;by_cases hx:xs=[]
 ·cases rx;cases ry;obtain⟨its,r1,p1,_⟩:=I.tuple ha;obtain⟨Kt,r2,p2,_⟩:=I.tuple hb;obtain⟨⟨cls,dd,data,sl⟩,ho,hc,n,hd⟩:=id p1;obtain⟨⟨cls2,dd2,data2,sl2⟩,ho2,hc2,n2,hd2⟩:=id p2;simp only at hc hd hc2 hd2;subst hc hd hc2 hd2;have he:its=[]:=by
   have:=r1.length;rw[hx]at this;exact Hk.mp this.symm
  exact Jq ⟨_,ho,rfl⟩ ⟨_,ho2,rfl⟩ Jr J8 Is Ii (Ia _ _)
   (qN a b its.toArray Kt.toArray n n2 dd dd2 sl sl2 (by simp[he])) ⟨ho,ho2,⟨.ref b,H,I,rfl,q3 hx⟩⟩
 ·exact AA am s σ H _ _ v u Q I rx ry ⟨a,b,xs,ys,rfl,rfl,ha,hb,hx,hz,q2,λ_=>q1⟩
theorem xK :OpD F (rCat2 F.K) dCatT:=by
 intro H Z x y dx dy Q s rx ry w;cases dx with
 | tup ds =>
  cases dy with
  | tup es =>
   rw[Rep]at rx;rw[Rep]at ry;obtain⟨a,vs,rfl,h1,h2⟩:=rx;obtain⟨b,us,rfl,k1,k2⟩:=ry;unfold dCatT at w
   dsimp only at w
   split at w
   ·rename_i hl;refine⟨a,b,vs,us,rfl,rfl,h1.mono s,k1.mono s,by rw[<- h2.length,<- k2.length,Go];exact hl,λp hp=>?_,λe=>?_,λe=>?_⟩
    ·have z:Same Z (upd Z p (.tup (vs++us))):=ar (s.free hp);exact w _ _ (Ex.alloc s hp) _ (by rw[Rep];exact⟨p,_,rfl,SqT.of ah,(h2.append k2).mono z⟩)
    ·have:es=[]:=Hk.mp (by rw[k2.length,e];rfl);subst this;exact WG.now w s _ (by rw[Gs,Rep];exact⟨a,vs,rfl,h1,h2⟩)
    ·have:ds=[]:=Hk.mp (by rw[h2.length,e];rfl);subst this;exact WG.now w s _ (by rw[JD,Rep];exact⟨b,us,rfl,k1,k2⟩)
   ·exact w.elim
  | _=>exact w.elim
 | _=>exact w.elim
theorem xL :OpD F (λx y H Q=>∃ a b xs ys,x=.ref a/\y=.ref b/\SqL F.K H a xs/\SqL F.K H b ys/\xs.length+ys.length<=sizeLine/\∀ p,H p=none->Q (.ref p) (upd H p (.lst (xs++ys)))) dCatL:=by
 intro H Z x y dx dy Q s rx ry w;cases dx with
 | lst ds =>
  cases dy with
  | lst es =>
   rw[Rep]at rx;rw[Rep]at ry;obtain⟨a,vs,rfl,h1,h2⟩:=rx;obtain⟨b,us,rfl,k1,k2⟩:=ry;unfold dCatL at w
   dsimp only at w
   split at w
   ·rename_i hl;refine⟨a,b,vs,us,rfl,rfl,s.seq h1,s.seq k1,by rw[<- h2.length,<- k2.length,Go];exact hl,λp hp=>?_⟩;have z:Same Z (upd Z p (.lst (vs++us))):=ar (s.free hp);exact w _ _ (Ex.alloc s hp) _ (by rw[Rep];exact⟨p,_,rfl,SqL.of ah,(h2.append k2).mono z⟩)
   ·exact w.elim
  | _=>exact w.elim
 | _=>exact w.elim
theorem xM :OpR X (binaryOp .Add) (λx y H Q=>∃ a b xs ys,x=.ref a/\y=.ref b/\SqL X.K H a xs/\SqL X.K H b ys/\xs.length+ys.length<=sizeLine/\∀ p,H p=none->Q (.ref p) (upd H p (.lst (xs++ys)))):=by
 intro am s σ H x y v u Q I rx ry h;obtain⟨a,b,xs,ys,rfl,rfl,ha,hb,hz,q⟩:=h;cases rx;cases ry;obtain⟨its,r,⟨o,n,e,c1,c2,c3⟩,_⟩:=I.list ha;obtain⟨Kt,r2,⟨o2,n2,e2,d1,d2,d3⟩,_⟩:=I.list hb;have l1:=r.length;have l2:=r2.length;obtain⟨cls,dd,data,sl⟩:=o;obtain⟨cls2,dd2,data2,sl2⟩:=o2;simp only at c1 c3 d1 d3;subst c1 c3 d1 d3;refine Jq ⟨_,e,rfl⟩ ⟨_,e2,rfl⟩ noFill_list_add seq_list_add PySem.F.slot_list_add PySem.F.entry_list_add (PySem.F.args_list_add_2 _ _) (vT a b its.toArray Kt.toArray n n2 dd dd2 sl sl2 (by rw[F9,F9];omega)) ⟨e,e2,?_⟩;have ea:its.toArray++Kt.toArray=(its++Kt).toArray:=by simp
 rw[ea];exact⟨.ref _,_,I.lnew (r.append r2) (by rw[G1];omega),rfl,q _ I.fresh⟩
mutual
def eqD:D->D->Bool
 | .non,.non=>true
 | .bl a,.bl b=>a==b
 | .bl a,.int b=>(if a then 1 else 0)==b
 | .int a,.bl b=>a==(if b then 1 else 0)
 | .int a,.int b=>a==b
 | .str a,.str b=>a==b
 | .tup xs,.tup ys=>eqDs xs ys
 | .lst xs,.lst ys=>eqDs xs ys
 | _,_=>false
def eqDs:List D->List D->Bool
 | [],[]=>true
 | x::xs,y::ys=>eqD x y&&eqDs xs ys
 | _,_=>false
end
mutual
def good:Nat->D->Bool
 | _,.exc _=>false
 | _,.fn _=>false
 | _,.tab _ _=>false
 | _,.dic _ _=>false
 | _,.ptr _=>false
 | 0,.tup _=>false
 | 0,.lst _=>false
 | n+1,.tup xs=>goods n xs
 | n+1,.lst xs=>goods n xs
 | _,_=>true
def goods:Nat->List D->Bool
 | _,[]=>true
 | n,x::xs=>good n x&&goods n xs
end
def relabN (names:List (Str×NameKind))(env:Env):List (Str×NameKind) :=
 names.map λ(n,k)=>if (k==.free&&env.scope.kind==.function&&env.kindOf n==some .cell) then (n,.cell) else (n,k)
theorem lH {env:Env}:∀ {names:List (Str×NameKind)} {x:Str},names.lookup x=some .free->(relabN names env).lookup x=some .cell\/(relabN names env).lookup x=some .free
 | [],_,h=>by simp at h
 | (n,k)::r,x,h=>by
  have ih:=@lH env r x;show List.lookup x ((if (k==NameKind.free&&env.scope.kind==.function&&env.kindOf n==some .cell)=true then (n,NameKind.cell) else (n,k))::relabN r env)=_\/List.lookup x ((if (k==NameKind.free&&env.scope.kind==.function&&env.kindOf n==some .cell)=true then (n,NameKind.cell) else (n,k))::relabN r env)=_;cases hx:x==n with
  | true =>
   simp only[GC,hx]at h;cases h;split
   ·exact .inl (by simp[GC,hx])
   ·exact .inr (by simp[GC,hx])
  | false =>
   simp only[GC,hx]at h;split<;>(simp only[GC,hx];exact ih h)
theorem lI {env:Env}:∀ {names:List (Str×NameKind)} {x:Str},((relabN names env).lookup x=some .cell\/(relabN names env).lookup x=some .free)->∃ y∈names,y.1=x/\(y.2=.free\/y.2=.cell)
 | [],_,h=>by simp[relabN]at h
 | (n,k)::r,x,h=>by
  have ih:=@lI env r x
  change List.lookup x ((if (k==NameKind.free&&env.scope.kind==.function&&env.kindOf n==some .cell)=true then (n,NameKind.cell) else (n,k))::relabN r env)=_\/List.lookup x ((if (k==NameKind.free&&env.scope.kind==.function&&env.kindOf n==some .cell)=true then (n,NameKind.cell) else (n,k))::relabN r env)=_ at h
  cases hx:x==n with
  | true =>
   have e:x=n:=eq_of_beq hx;refine⟨(n,k),GZ,e.symm,?_⟩;by_cases hq:(k==NameKind.free&&env.scope.kind==.function&&env.kindOf n==some .cell)=true
   ·simp only[Gj,Hl]at hq;exact .inl hq.1.1
   ·rw[if_neg hq]at h;simp only[GC,hx]at h;rcases h with h | h
    ·cases h;exact .inr rfl
    ·cases h;exact .inl rfl
  | false =>
   have h':(relabN r env).lookup x=some .cell\/(relabN r env).lookup x=some .free:=by
    by_cases hq:(k==NameKind.free&&env.scope.kind==.function&&env.kindOf n==some .cell)=true
    ·rw[if_pos hq]at h;simpa only[GC,hx] using h
    ·rw[if_neg hq]at h;simpa only[GC,hx] using h
   obtain⟨y,hy,e⟩:=ih h';exact⟨y,GI _ hy,e⟩
theorem bc:∀ (names:List (Str×NameKind)) (n:Nat) (acc:List (Str×Addr)),cellsFrom n names acc=cellsFrom n names []++acc
 | [],_,_=>rfl
 | (name,kind)::r,n,acc=>by
  unfold cellsFrom;split
  ·rw[bc r (n+1) ((name,n)::acc),bc r (n+1) [(name,n)],Jf];rfl
  ·exact bc r n acc
theorem jU:∀ (names:List (Str×NameKind)) (n:Nat) {x:Str} {c:Addr},(x,c)∈cellsFrom n names []->(x,NameKind.cell)∈names
 | [],_,_,_,h=>nomatch h
 | (name,kind)::r,n,x,c,h=>by
  unfold cellsFrom at h;split at h
  ·rename_i hk;rw[bc]at h;rcases HS.mp h with h | h
   ·exact GI _ (jU r _ h)
   ·rw[GP]at h;cases h;rw[eq_of_beq hk];exact GZ
  ·exact GI _ (jU r _ h)
theorem jV:∀ (names:List (Str×NameKind)) (n:Nat) {x:Str},(x,NameKind.cell)∈names->∃ c,(cellsFrom n names []).lookup x=some c
 | [],_,_,h=>nomatch h
 | (name,kind)::r,n,x,h=>by
  by_cases hr:(x,NameKind.cell)∈r
  ·unfold cellsFrom;split
   ·obtain⟨c,hc⟩:=jV r (n+1) hr;rw[bc,IW,hc];exact⟨c,rfl⟩
   ·exact jV r n hr
  ·rcases Gi.mp h with e | e
   ·cases e;unfold cellsFrom;rw[if_pos (by rfl),bc,IW];cases (cellsFrom (n+1) r []).lookup name with
    | some c=>exact⟨c,rfl⟩
    | none=>exact⟨n,by simp[GC]⟩
   ·exact absurd e hr
structure CellsB (scope:Scope)(cl cl2:List (Str×Addr))(C:Addr)(h:Heap):Prop where
 old:∀ n c,cl2.lookup n=some c->(cl.lookup n=some c/\(n,NameKind.cell)∉scope.names)\/(C < c/\h.IsCell c none/\(n,NameKind.cell)∈scope.names)
 keep:∀ n,(n,NameKind.cell)∉scope.names->cl2.lookup n=cl.lookup n
 mine:∀ n,(n,NameKind.cell)∈scope.names->∃ c,cl2.lookup n=some c
 inj:∀ x y c,C < c->cl2.lookup x=some c->cl2.lookup y=some c->(x,NameKind.cell)∈scope.names->(y,NameKind.cell)∈scope.names->x=y
section
variable {E:KU}{s:Shared}
theorem pL {globals:Addr}{env:Env}{Q:Env->Lg}
  (hQ:∀ h' cl2,h'.Ns s.heap.objs.size (λ_=>none)->(∀ b o,s.heap.get? b=some o->h'.get? b=some o)->CellsB scope cl cl2 s.heap.objs.size h'->Q (newEnv scope s.heap.objs.size globals cl2 qual none .none (some env) builtinsNs) { s with heap:=h' }) :
  wpAny M A (newFunctionEnv scope globals cl [] qual none .none (some env)) Q E s:=by
 simp only[newFunctionEnv,Option.isSome_some,Gz];refine F3 (wpAny_alloc ?_);refine F3 (wpAny_layCells _ (λname kind cells=>by cases hkc:kind==NameKind.cell<;>simp[hkc]) _ _ _ _ ?_);have ok:=cellsFrom_ok scope.names (s.heap.push { cls:=.type "dict",data:=.dict #[] }) (s.heap.objs.size+1) [] ⟨λ_ _ hm=>(nomatch hm),Je⟩ (by simp);rw[G2]at ok;rw[show ({ s with heap:=s.heap.push { cls:=.type "dict",data:=.dict #[] } }:Shared).heap.objs.size=s.heap.objs.size+1 from G2 ..]
 simp
 refine F3 (F6 (F6 ?_));refine hQ _ _ ((Heap.Ns.new s.heap (.type "dict")).keeps (pushCells_keeps _ _)) (λb o e=>pushCells_keeps _ _ b o (F4 _ e)) ?_;have look:∀ n,(cellsFrom (s.heap.objs.size+1) scope.names cl).lookup n=((cellsFrom (s.heap.objs.size+1) scope.names []).lookup n).or (cl.lookup n):=λn=>by rw[bc,IW]
 have no:∀ n,(n,NameKind.cell)∉scope.names->(cellsFrom (s.heap.objs.size+1) scope.names []).lookup n=none:=λn hn=>by
  cases e:(cellsFrom (s.heap.objs.size+1) scope.names []).lookup n with
  | none=>rfl
  | some c=>exact absurd (jU _ _ (Gp e)) hn
 have keep:∀ n,(n,NameKind.cell)∉scope.names->(cellsFrom (s.heap.objs.size+1) scope.names cl).lookup n=cl.lookup n:=λn hn=>by rw[look,no n hn];rfl
 have new:∀ n,(n,NameKind.cell)∈scope.names->∃ c,(cellsFrom (s.heap.objs.size+1) scope.names []).lookup n=some c/\(cellsFrom (s.heap.objs.size+1) scope.names cl).lookup n=some c:=λn hn=>by
  obtain⟨c,hc⟩:=jV scope.names (s.heap.objs.size+1) hn
  grind
 refine⟨λn c e=>?_,keep,λn hn=>?_,λx y c _ ex ey hx hy=>?_⟩
 ·by_cases hn:(n,NameKind.cell)∈scope.names
  ·obtain⟨c',h1,h2⟩:=new n hn;rw[e]at h2;cases h2;have:=ok.empty n c (Gp h1)
   grind
  ·grind
 ·grind
 ·obtain⟨c1,h1,h2⟩:=new x hx;obtain⟨c2,h3,h4⟩:=new y hy;rw[ex]at h2;cases h2;rw[ey]at h4;cases h4;exact Ke ok.apart (Gp h1) (Gp h3)
end
theorem gj {names:List (Str×NameKind)}{x:Str}{k:NameKind}(h:names.lookup x=some k):(x,k)∈names:=Gp h
def blk (X:Cx)(scope:Scope)(cl:List (Str×Addr))(C:Addr)(s:Shared)(H:Hp)(fp:List Addr)(N:List Str):Cx where
 prog:=X.prog
 w:=X.w
 K:=X.K
 mg:=X.mg
 base:=X.base
 A:=X.A
 N:=N
 s₀:=s
 H₀:=H
 env:=compEnvC scope cl C X.env
 outer:=X.stack
 stack:=X.stack
 ex:=fp
 fn:=λx=>scope.names.lookup x==some .cell
 calm:=true
 pn:=[]
 xe:=λ_ _=>False
def startB (own:Nat)(cap:List Nat)(σ:St):St:=List.replicate own none++cap.map λi=>(σ[i]?).getD none
structure BlkOk (XN:List Str)(osc scope:Scope)(N:List Str)(own:Nat)(cap:List Nat):Prop where
 kind:scope.kind=.function
 ncell:∀ y∈scope.names,y.2=.cell->scope.names.lookup y.1=some .cell
 nfree:∀ y∈scope.names,y.2=.free->scope.names.lookup y.1=some .free
 nloc:∀ y∈scope.names,y.2=.local->scope.names.lookup y.1=some .local
 free:∀ y∈scope.names,y.2=.free->osc.names.lookup y.1=some .cell\/osc.names.lookup y.1=some .free
 len:N.length=own+cap.length
 capN:∀ j i,cap[j]?=some i->∃ x,N[own+j]?=some x/\XN[i]?=some x/\scope.names.lookup x=some .free
section
variable {s:Shared}{own:Nat}
theorem AJ {cl2:List (Str×Addr)}(b:BlkOk X.N X.env.scope scope N own cap)(hc:X.calm=true)(I:Inv X am σ H s)(hf:∀ b∈fp,FpOk X am H b)(hfo:∀ b∈fp,b < s.heap.objs.size)(c1:∀ n c,cl.lookup n=some c->X.env.cells.lookup n=some c)
  (c2:∀ y∈scope.names,y.2=.free->∃ c,cl.lookup y.1=some c) {h':Heap} {t':Nat} {m:KW} (hns:h'.Ns s.heap.objs.size m) (hk:∀ b o,s.heap.get? b=some o->h'.get? b=some o) (cb:CellsB scope cl cl2 s.heap.objs.size h') :
  Inv (blk X scope cl2 s.heap.objs.size s H fp N) [] (startB own cap σ) H { s with heap:=h',toks:=t' }:=by
 have hC:=I.hok.fresh (F7 _);have lt:∀ n c,cl.lookup n=some c->c < s.heap.objs.size:=λn c e=>by obtain⟨v,hv⟩:=I.cell n c (c1 n c e);exact hv.lt
 have inj:∀ x y c,cl2.lookup x=some c->cl2.lookup y=some c->x=y:=λx y c h1 h2=>by
  rcases cb.old x c h1 with ⟨a1,_⟩ | ⟨a1,_,a2⟩<;>rcases cb.old y c h2 with ⟨b1,_⟩ | ⟨b1,_,b2⟩
  ·exact I.ok.inj x y c (c1 x c a1) (c1 y c b1)
  ·exact absurd (lt x c a1) (IG b1)
  ·exact absurd (lt y c b1) (IG a1)
  ·exact cb.inj x y c a1 h1 h2 a2 b2
 refine⟨⟨I.ok.mod,b.kind,I.ok.glob,I.ok.blt,F7 _,inj,λx hx=>?_,λx c hx e=>?_,λ_=>I.ok.hd hc,I.ok.frames,.inl rfl,λb' hb=>?_,I.bs,GF I.ok.bsz I.sz,λb' o e hb=>?_,λb' hb hm=>?_,I.stack,I.stkFree⟩,rfl,I.bare,Un.kept hk,⟨m,hns,λi x v h1 h2 h3=>?_⟩,λx c e=>?_,hC,λx c e=>?_,λp hp=>(nomatch hp),I.hok.kept hk,?_⟩
 ·obtain⟨y,hy,e1,e2⟩:=lI hx;rcases e2 with e2 | e2
  ·obtain⟨c,e⟩:=c2 y hy e2;have hn:(y.1,NameKind.cell)∉scope.names:=λz=>by
    have q1:=b.nfree y hy e2;have q2:=b.ncell _ z rfl;rw[q1]at q2;cases q2
   exact⟨c,by rw[<- e1];show cl2.lookup y.1=some c;rw[cb.keep _ hn];exact e⟩
  ·obtain⟨c,e⟩:=cb.mine y.1 (by rw[<- e2];exact hy);exact⟨c,by rw[<- e1];exact e⟩
 ·rcases cb.old x c e with ⟨a1,a2⟩ | ⟨a1,_,_⟩
  ·have hx':=hx;exact absurd (gj (eq_of_beq hx')) a2
  ·exact Hn a1
 ·refine⟨Gf (hfo b' hb),λx c e=>?_⟩;rcases cb.old x c e with ⟨a1,_⟩ | ⟨a1,_,_⟩
  ·exact(hf b' hb).2.2.2.2.1 x c (c1 x c a1)
  ·exact λz=>IG a1 (z ▸ hfo b' hb)
 ·rcases(hf b' hb).2.2.2.1 with z | z
  ·exact I.ok.noex b' o e z
  ·have:=F8 (I.ok.bs b' o e).1;exact absurd (Gm this z) (Ht _)
 ·rcases Gi.mp (I.stkSub b' hm) with z | z
  ·exact(hf b' hb).2.1 z
  ·exact(hf b' hb).2.2.1 z
 ·
  unfold startB at h2;by_cases hi:i < own
  ·rw[GJ (by simpa using hi),HC]at h2;split at h2<;>cases h2
  ·rw[GH (by simpa using hi),Hf,Gu]at h2;cases e:cap[i - own]? with
   | none=>rw[e]at h2;cases h2
   | some k =>
    rw[e]at h2;obtain⟨x',f1,f2,f3⟩:=b.capN _ _ e;rw[show own+(i - own)=i by omega]at f1;have h1':N[i]?=some x:=h1;rw[h1']at f1;cases f1;have h2':σ[k]?=some (some v):=by
     cases q:σ[k]? with
     | none=>simp only[IH,q,Js,Iq]at h2;cases h2
     | some o=>simp only[IH,q,Option.getD_some,Iq]at h2;rw[h2]
    obtain⟨m0,_,hl⟩:=I.loc;have kf:=b.free (x,.free) (gj f3) rfl;obtain⟨u,r,l⟩:=hl k x v f2 h2' (kf.elim (λz=>.inr (.inl z)) λz=>.inr (.inr z));refine⟨u,r,?_⟩;rcases l with ⟨z,_⟩ | ⟨_,c,e1,e2⟩
    ·have z':X.env.scope.names.lookup x=some .local:=z;rcases kf with y | y
     ·have y':=y;rw[z']at y';cases y'
     ·have y':=y;rw[z']at y';cases y'
    ·obtain⟨c',g1⟩:=c2 (x,.free) (gj f3) rfl;have g2:=c1 x c' g1;rw[e1]at g2;cases g2;have hn:(x,NameKind.cell)∉scope.names:=λz=>by
      have q2:=b.ncell _ z rfl;have q2':=q2;rw[f3]at q2';cases q2'
     exact .inr ⟨lH f3,c,by show cl2.lookup x=some c;rw[cb.keep _ hn];exact g1,by obtain⟨o,ho,hd⟩:=e2;exact⟨o,hk _ _ ho,hd⟩⟩
 ·rcases cb.old x c e with ⟨a1,_⟩ | ⟨_,a2,_⟩
  ·obtain⟨v,o,ho,hd⟩:=I.cell x c (c1 x c a1);exact⟨v,o,hk _ _ ho,hd⟩
  ·exact⟨none,a2⟩
 ·rcases cb.old x c e with ⟨a1,_⟩ | ⟨a1,_,_⟩
  ·exact I.freeC x c (c1 x c a1)
  ·exact I.hok.fresh (Hn a1)
 ·unfold startB;show _=N.length;rw[G1,Hf,Gg,b.len]
theorem xN {s3:Shared}{H3:Hp}{σ':St}{pl:Ll}{D C:Addr}(I:Inv X am σ H s)(hf:∀ b∈fp,FpOk X am H b)(hD:D=s.heap.objs.size)(h3:s3={ s with heap:=s.heap.push { cls:=.type "list",data:=.seq #[] } })(hH:H3=upd H D (.lst []))(hC:C=s3.heap.objs.size)
  (J:Inv (blk X scope cl C s3 H3 fp N) pl σ' H' s'):Inv X am σ H' s'/\FpOk X am H' C/\∃ m,s'.heap.Ns C m:=by
 subst h3;have hs:s.heap.objs.size<=C:=by rw[hC];rw[G2];exact JH _
 have u1:Un (frs X.stack) fp H H3 s.heap (s.heap.push { cls:=.type "list",data:=.seq #[] }):=by
  rw[hH,hD];exact Un.laid (λb u e=>F4 _ e) (F7 _) (I.hok.fresh (F7 _))
 have u2:=J.base;have os:=J.os;refine⟨I.call' os (u1.trans u2) J.hok J.bare λb hb=>?_,I.fpOk hs J.free,?_⟩
 ·obtain⟨_,f1,f2,f3,f4,f5⟩:=hf b hb;exact⟨f3,f1,f4,f5⟩
 ·obtain⟨m,hn,_⟩:=J.loc;exact⟨m,hn⟩
end
def tTests (ifs:Lp)(t:TT):TT:=match ifs with
 | []=>λ_ H Q=>Q true H
 | _::_=>t
theorem sL {Q:Bool->Lh}(e:ifs=[])(h:tTests ifs t σ H Q):Q true H:=by subst e;exact h
theorem sM {Q:Bool->Lh}(e:ifs=[c])(h:tTests ifs t σ H Q):t σ H Q:=by subst e;exact h
theorem vX {env:Env}{Q:Bool->Lg}{E:KU}{s:Shared}(hifs:ifs.length<=1)(h0:ifs=[]->Q true s)(h1:∀ c,ifs=[c]->wpAny M A (isTrue c env (eval c env)) Q E s):wpAny M A (tests ifs env) Q E s:=by
 match ifs,hifs,h0,h1 with
 | [],_,h0,_=>exact F6 (h0 rfl)
 | [c],_,_,h1=>exact h1 c rfl
def BlkW (sz:Nat)(J:It)(g:TG)(tc:TT)(te:TE)(D:Addr)(Fin:Hp->List V->Prop)(W:Nat->Nat->St->Hp->List V->Prop):Prop :=
 ∀ i m σ H ys,W i m σ H ys->H D=some (.lst ys)/\((J.stop i H/\Fin H ys)\/(J.go i H/\∀ x H',J.yld i H x H'->g x σ H' λσ2 H2=>tc σ2 H2 λok H3 =>
  if ok=true then te σ2 H3 λy H4=>H4 D=some (.lst ys)/\ys.length < sz/\∃ m',m' < m/\W (i+1) m' σ2 (upd H4 D (.lst (ys++[y]))) (ys++[y])
  else ∃ m',m' < m/\W (i+1) m' σ2 H3 ys))
section
variable {own:Nat}{wi:TI}{g:TG}{tc:TT}{te:TE}
set_option maxHeartbeats 4000000 in
theorem xO {s:Shared}{it:Addr}{tn:Nat->Heap->Prop}{J:It}{E:KU}{RR:Value->Addr->Result->Lg}{Fin:Addr->Hp->List V->Prop}
  (b:BlkOk X.N X.env.scope scope N own cap) (hc:X.calm=true) (hifs:ifs.length<=1)
  (hg:∀ cl C s H fp,PG (blk X scope cl C s H fp N) tg g) (ht:∀ c,ifs=[c]->∀ cl C s H fp,PT (blk X scope cl C s H fp N) c tc) (he:∀ cl C s H fp,PE (blk X scope cl C s H fp N) elt te)
  (hclos:closureFor scope X.env=pure cl) (c1:∀ n c,cl.lookup n=some c->X.env.cells.lookup n=some c) (c2:∀ y∈scope.names,y.2=.free->∃ c,cl.lookup y.1=some c)
  (I:Inv X am σ H s) (T:Turn X.prog X.w X.K tg J fp it tn) (st:tn 0 s.heap) (hf:∀ b∈fp,FpOk X am H b)
  (hW:∀ D,H D=none->∃ W,BlkW sizeLine J g (tTests ifs tc) te D (Fin D) W/\∃ m,W 0 m (startB own cap σ) (upd H D (.lst [])) [])
  (fin:∀ D C s' H' ys,Inv X am σ H' s'->FpOk X am H' C->(∃ m,s'.heap.Ns C m)->H' D=some (.lst ys)->Fin D H' ys->RR (.ref D) C (.ok .next) s') :
  wpAny (model X.prog X.w) X.A (newList []) (λacc s3=>wpAny (model X.prog X.w) X.A (newFunctionEnv scope X.env.globals cl [] X.env.qual none .none (some X.env)) (λcenv s4 =>
   codeAny (model X.prog X.w) X.A (.compStart (.ListComp elt [⟨tg,iter,ifs,0⟩] scope pos) 0 (.ref it) acc { cenv with scope:=relabel scope X.env }) (RR acc cenv.locals) s4) E s3) E s:=by
 have hfo:∀ b∈fp,b < s.heap.objs.size:=λb hb=>by
  obtain⟨o,e,_⟩:=T.obj 0 _ st b hb;exact F8 e
 have hD:=I.hok.fresh (F7 _);obtain⟨W,hturn,m0,w0⟩:=hW _ hD;refine Jd (pL λh1 cl2 hns kk cb=>?_);have I3:=I.lnew (t':=s.toks) (its:=[]) .nil (GQ _);have hfp3:∀ b∈fp,FpOk X am (upd H s.heap.objs.size (.lst [])) b:=λb hb=>⟨by rw[ae (Gf (hfo b hb))];exact(hf b hb).1,(hf b hb).2⟩
 have st1:tn 0 h1:=T.keep 0 _ _ st λb hb o e=>kk b o (F4 _ e)
 generalize hX:blk X scope cl2 (s.heap.push { cls:=.type "list",data:=.seq #[] }).objs.size { s with heap:=s.heap.push { cls:=.type "list",data:=.seq #[] } } (upd H s.heap.objs.size (.lst [])) fp N=X';have I4:Inv X' [] (startB own cap σ) (upd H s.heap.objs.size (.lst [])) { s with heap:=h1 }:=by
  rw[<- hX];exact AJ b hc I3 hfp3 (λb hb=>Gm (hfo b hb) (by rw[G2];exact JH _)) c1 c2 hns kk cb
 have eP:X'.prog=X.prog:=by rw[<- hX];rfl
 have ew:X'.w=X.w:=by rw[<- hX];rfl
 have eK:X'.K=X.K:=by rw[<- hX];rfl
 have eA:X'.A=X.A:=by rw[<- hX];rfl
 have ec:X'.calm=true:=by rw[<- hX];rfl
 have ee:X'.env=compEnvC scope cl2 (s.heap.push { cls:=.type "list",data:=.seq #[] }).objs.size X.env:=by rw[<- hX];rfl
 have ex:X'.xe=λ_ _=>False:=by rw[<- hX];rfl
 have epn:X'.pn=[]:=by rw[<- hX];rfl
 have eex:X'.ex=fp:=by rw[<- hX];rfl
 have pg:PG X' tg g:=by rw[<- hX];exact hg _ _ _ _ _
 have pe:PE X' elt te:=by rw[<- hX];exact he _ _ _ _ _
 have pt:∀ c,ifs=[c]->PT X' c tc:=λc q=>by rw[<- hX];exact ht c q _ _ _ _ _
 have fpB:∀ {H':Hp},(∀ b∈fp,H' b=none)->∀ {s'':Shared} {σ':St},Inv X' [] σ' H' s''->∀ b∈fp,FpOk X' [] H' b:=λ{H'} hn {s'' σ'} Iv b hb =>
  ⟨hn b hb,(Iv.ok.exf b (by rw[eex];exact hb)).1,Iv.ok.exfs b (by rw[eex];exact hb),.inl (by rw[eex];exact hb),(Iv.ok.exf b (by rw[eex];exact hb)).2,λp hp=>by rw[epn]at hp;exact(nomatch hp)⟩
 have loop:codeAny (model X.prog X.w) X.A (.compLoop (.ListComp elt [⟨tg,iter,ifs,0⟩] scope pos) 0 (.ref it) (.ref s.heap.objs.size) (compEnvC scope cl2 (s.heap.push { cls:=.type "list",data:=.seq #[] }).objs.size X.env))
   (RR (.ref s.heap.objs.size) (s.heap.push { cls:=.type "list",data:=.seq #[] }).objs.size) { s with heap:=h1 }:=by
  refine vR hifs (λn s'=>∃ i σ' H' ys,Inv X' [] σ' H' s'/\tn i s'.heap/\(∀ b∈fp,H' b=none)/\W i n σ' H' ys) (λn s5 ⟨i,σ5,H5,ys,I5,st5,fr5,w5⟩=>?_) m0
   ⟨0,startB own cap σ,_,[],I4,st1,λb hb=>(hfp3 b hb).1,w0⟩
  obtain⟨hDy,hgo⟩:=hturn i n σ5 H5 ys w5;have hs5:=fpB fr5 I5;rcases hgo with ⟨stop,hfin⟩ | ⟨go,step⟩
  ·have q:=T.done X' eP ew eK ec i [] s5 σ5 H5 (λ_ _=>False) I5 hs5 st5 stop;rw[eA]at q;refine GN q (λr s6 ⟨hr,I6⟩=>?_) λ_ _ z=>z
   subst hr;rw[<- hX]at I6;obtain⟨J1,J2,J3⟩:=xN I hf rfl rfl rfl rfl I6;exact fin _ _ s6 H5 ys J1 J2 J3 hDy hfin
  ·have q:=T.item X' eP ew eK ec i [] s5 σ5 H5 (λ_ _=>False) I5 hs5 st5 go;rw[eA]at q;refine GN q (λr s6 ⟨u,hr,h6⟩=>?_) λ_ _ z=>z
   subst hr;refine GN h6 (λ_ s7 ⟨x,H7,I7,r7,y7,st7,fr7⟩=>?_) λ_ _ z=>z
   have I7':=I7.pinned (fpB fr7 I7) (T.obj _ _ st7);rw[JD]at I7';have qg:=pg _ s7 σ5 H7 x u _ I7' r7 (step x H7 y7);rw[eP,ew,eA,ee,ex]at qg;refine GN qg (λ_ s8 ⟨σ8,H8,I8,q8⟩=>?_) λ_ _ z=>z
   have again:∀ {s9:Shared} {H9:Hp} {zs:List V},Inv X' (pinsAt fp s7.heap) σ8 H9 s9->(∃ m',m' < n/\W (i+1) m' σ8 H9 zs) ->
     ∃ m,m < n/\∃ i σ' H' ys,Inv X' [] σ' H' s9/\tn i s9.heap/\(∀ b∈fp,H' b=none)/\W i m σ' H' ys:=λ{s9 H9 zs} I9 ⟨m',hm,w9⟩=>by
    have I9':Inv X' ([]++pinsAt fp s7.heap) σ8 H9 s9:=by rw[JD];exact I9
    refine⟨m',hm,i+1,σ8,H9,zs,I9'.unpinned,T.keep _ _ _ st7 λb hb o e=>(I9.pin (b,o) (GV _ (fc hb e))).1,λb hb=>?_,w9⟩;obtain⟨o,e,d⟩:=T.obj _ _ st7 b hb;exact(I9.pin (b,o) (GV _ (fc hb e))).2.1
   have body:∀ (ok:Bool) (s9:Shared),(∃ H9,Inv X' (pinsAt fp s7.heap) σ8 H9 s9/\(if ok=true then te σ8 H9 λy H4=>H4 s.heap.objs.size=some (.lst ys)/\ys.length < sizeLine/\∃ m',m' < n/\W (i+1) m' σ8 (upd H4 s.heap.objs.size (.lst (ys++[y]))) (ys++[y]) else ∃ m',m' < n/\W (i+1) m' σ8 H9 ys)) ->
     if ok=true then wpAny (model X.prog X.w) X.A (eval elt (compEnvC scope cl2 (s.heap.push { cls:=.type "list",data:=.seq #[] }).objs.size X.env)) (λx s5=>wpAny (model X.prog X.w) X.A (call (.builtin "list.append") [.ref s.heap.objs.size,x]) (λ_ s6=>∃ m,m < n/\∃ i σ' H' ys,Inv X' [] σ' H' s6/\tn i s6.heap/\(∀ b∈fp,H' b=none)/\W i m σ' H' ys) (λ_ _=>False) s5) (λ_ _=>False) s9
     else ∃ m,m < n/\∃ i σ' H' ys,Inv X' [] σ' H' s9/\tn i s9.heap/\(∀ b∈fp,H' b=none)/\W i m σ' H' ys:=by
    intro ok s9 ⟨H9,I9,h9⟩;cases ok with
    | false=>exact again I9 h9
    | true =>
     have qe:=pe _ s9 σ8 H9 _ I9 h9;rw[eP,ew,eA,ee,ex]at qe;refine GN qe (λu s10 ⟨y,H10,I10,r10,hD10,K4,m',hm,w10⟩=>?_) λ_ _ z=>z
     have qa:=vO (X:=X') (pinsAt fp s7.heap) s10 σ8 H10 (.ref s.heap.objs.size) [y] (.ref s.heap.objs.size) [u] (λ_ H11=>H11=upd H10 s.heap.objs.size (.lst (ys++[y]))) I10 rfl (.cons r10 .nil)
      ⟨s.heap.objs.size,ys,y,rfl,rfl,hD10,K4,rfl⟩
     rw[eP,ew,eA,ex]at qa;refine GN qa (λ_ s11 ⟨_,H11,I11,_,e11⟩=>?_) λ_ _ z=>z
     subst e11;exact again I11 ⟨m',hm,w10⟩
   refine vX hifs (λq=>body true s8 ⟨H8,I8,sL q q8⟩) λc q=>?_
   have qt:=pt c q _ s8 σ8 H8 _ I8 (sM q q8);rw[eP,ew,eA,ee,ex]at qt;exact GN qt (λok s9 ⟨H9,I9,h9⟩=>body ok s9 ⟨H9,I9,h9⟩) λ_ _ z=>z
 exact codeAny_compStart_list loop (T.self _ 0 _ _ _ st1 loop)
def tComp (own:Nat)(cap:List Nat)(wi:TI)(g:TG)(tc:TT)(te:TE):TE:=λσ H Q=>wi σ H λJ H1=>∀ D,H1 D=none->∃ W,BlkW sizeLine J g tc te D (λH' _=>Q (.ref D) H') W/\∃ m,W 0 m (startB own cap σ) (upd H1 D (.lst [])) []
theorem uw (b:BlkOk X.N X.env.scope scope N own cap)(hc:X.calm=true)(hifs:ifs.length<=1)(hi:PI X tg iter wi)
  (hg:∀ cl C s H fp,PG (blk X scope cl C s H fp N) tg g) (ht:∀ c,ifs=[c]->∀ cl C s H fp,PT (blk X scope cl C s H fp N) c tc) (he:∀ cl C s H fp,PE (blk X scope cl C s H fp N) elt te)
  (hs:∀ x,foldedSetIterable iter X.env x=pure x:=by intro _;rfl):PE X (.ListComp elt [⟨tg,iter,ifs,0⟩] scope pos) (tComp own cap wi g (tTests ifs tc) te):=by
 intro am s σ H Q I h;obtain⟨cl,hclos,c1,c2⟩:=sI scope X.env λy hy hf=>I.ok.has y.1 (b.free y hy hf)
 rw[eval_ListComp];refine wpAny_comprehension_free rfl hs hclos b.kind b.nloc (thn (hi am s σ H _ I h) λv s1 h1=>thn h1 λitv s2 h2=>?_);obtain⟨it,fp,tn,J,H2,e,I2,T,st2,f2,hW⟩:=h2;subst e;refine xO b hc hifs hg ht he hclos c1 c2 I2 T st2 f2 hW λD C s' H' ys J1 J2 ⟨m,hm⟩ hD hQ=>?_
 refine⟨m,hm,λh' hsb=>⟨.ref D,H',?_,rfl,hQ⟩⟩;obtain⟨f0,f1,f2,f3,f4,f5⟩:=J2;exact J1.turned (λb o hb e=>(hsb.2 b hb).trans e) f0 f1 f3 f4 f5
end
theorem objThere {w:World}{h:Heap}{a:Addr}{o:HO}(x:ObjOk P w H h a o):∃ ob,h.get? a=some ob:=by
 cases o with
 | lst xs=>obtain⟨_,_,_,_,e⟩:=x;exact⟨_,e⟩
 | tup xs=>obtain⟨_,_,_,o,e,_⟩:=x;exact⟨o,e⟩
 | dK Gn=>obtain⟨_,_,_,_,o,_,_,e,_⟩:=x;exact⟨o,e⟩
 | dT Gn=>obtain⟨_,_,_,_,o,_,_,e,_⟩:=x;exact⟨o,e⟩
 | set S n=>obtain⟨o,_,_,_,e,_⟩:=x;exact⟨o,e⟩
 | ins C dx fs=>obtain⟨_,_,_,e,_⟩:=x;exact⟨_,e⟩
 | own y=>exact x
 | xd fs=>obtain⟨_,⟨o,_,_,e,_⟩,_⟩:=x;exact⟨o,e⟩
 | rng lo hi=>obtain⟨_,_,_,e⟩:=x;exact⟨_,e⟩
 | frz ob u=>obtain⟨e,_⟩:=x;exact⟨_,e⟩
 | tbl ps=>exact⟨_,(show h.get? a=some _ from x)⟩
 | met f y=>exact⟨_,(show h.get? a=some _ from x)⟩
 | ext φ=>obtain⟨_,e,_⟩:=x;exact e
def Cov (B:Heap)(h h':Heap)(H':Hp)(l:List Env):Prop:=∀ b o,h'.get? b=some o->(H' b≠none\/∃ o',h.get? b=some o')->b∉frs l->B.get? b=some o
def CXE (P:Program)(w:World):CXT:=λouter H s E e s' =>
 ∃ (ea C t:Addr) (H':Hp) (B:Heap),e=.ref ea/\s'.os=s.os/\AllBare s'.gens/\Un (frs outer) [] H H' s.heap s'.heap/\HOk P w H' s'.heap /\
  Heap.FlyingW B outer ea (.ref C) (.ref t) s'.heap/\H' ea=none/\Cov B s.heap s'.heap H' outer/\E (.ref C) none H'
section
variable {s:Shared}
theorem AK {h2:Heap}{sc:Shared}(J:Inv X am σ H' s')(I:∃ σ0 H0 pl,Inv X pl σ0 H0 sc)(hp:∀ p∈X.pn++am,∃ o,sc.heap.get? p.1=some o)(hl:∀ o,s'.heap.get? X.env.locals=some o->∃ o',sc.heap.get? X.env.locals=some o')
  (cov:Cov B sc.heap s'.heap H' X.stack) (hB:B.StaysIn h2) (up:s'.heap.UpToSlots h2):Inv X am σ H' { s' with heap:=h2 }:=by
 obtain⟨σ0,H0,pl,I0⟩:=I;have ins:=λb o e hx=>I0.base.there b o e hx
 have nloc:∀ b o,X.s₀.heap.get? b=some o->b≠X.env.locals:=λb o e=>Gf (Gm (F8 e) J.ok.above)
 have KC:∀ b,b≠X.env.locals->b∉X.fs->b∉frs X.stack:=λb h1 h2 z=>(Gi.mp (J.stkSub b z)).elim h1 h2
 have trk:=λb o e ht=>hB b o (cov b o e (.inl ht) λz=>ht (J.stkFree b z))
 have nf:∀ b∈X.fs,∀ o,s'.heap.get? b=some o->∀ vs,o.data≠.fields vs:=λb hb o e=>by
  obtain⟨_,o',e',d⟩:=J.funs.mem hb
  grind
 refine⟨J.ok,J.os,J.bare,⟨λb o e n hb hx=>?_,λb o e n hb hx=>?_,J.base.free,λb o e hx=>?_,J.base.tups,J.base.frzs,J.base.tbls⟩,?_,λx c e=>?_,J.free,J.freeC,λp hpp=>?_,λb u e=>?_,J.len⟩
 ·have e1:=J.base.keep b o e n hb hx;exact hB b o (cov b o e1 (.inr (ins b o e hx)) (KC b (nloc b o e) hb))
 ·obtain⟨sl,e1⟩:=J.base.slot b o e n hb hx;obtain⟨sl',e2⟩:=up b _ e1 (nf b hb _ e1);exact⟨sl',e2⟩
 ·obtain⟨o',e1⟩:=J.base.there b o e hx;by_cases hb:b∈X.fs
  ·obtain⟨sl',e2⟩:=up b _ e1 (nf b hb _ e1);exact⟨_,e2⟩
  ·exact⟨o',hB b o' (cov b o' e1 (.inr (ins b o e hx)) (KC b (nloc b o e) hb))⟩
 ·obtain⟨m,hn,hv⟩:=J.loc;refine⟨m,up.ns hn,λi x v h1 h2 h3=>?_⟩;obtain⟨u,r,l⟩:=hv i x v h1 h2 h3;refine⟨u,r,?_⟩;rcases l with l | ⟨k,c,e,⟨o,ho,hd⟩⟩
  ·exact .inl l
  ·obtain⟨sl,e2⟩:=up c o ho λvs q=>by rw[hd]at q;cases q
   exact .inr ⟨k,c,e,⟨_,e2,hd⟩⟩
 ·obtain⟨v,o,ho,hd⟩:=J.cell x c e;obtain⟨sl,e2⟩:=up c o ho λvs q=>by rw[hd]at q;cases q
  exact⟨v,_,e2,hd⟩
 ·obtain⟨e,n,ne,nf',d⟩:=J.pin p hpp;exact⟨hB _ _ (cov p.1 p.2 e (.inr (hp p hpp)) (KC _ ne nf')),n,ne,nf',d⟩
 ·refine(J.hok b u e).stay (λc v hc q=>trk c v q ?_) (λ_ q=>q) λ_ _ q=>q
  grind
end
section
variable {w:World}{cd:Value}{outer:List Env}{s0:Shared}{H0:Hp}{E:XK}
abbrev bodyX (P:Program)(w:World)(K:Frag)(mg:KW)(base:Heap)(N:List Str)(qual:Str)(scope:Scope)(f:Addr)(cd:Value)(A:Around)(outer:List Env)(s0:Shared)(H0:Hp)(E:XK):Cx :=
 cxOf (CXE P w) P w K mg base N qual scope f cd A outer s0 H0 E
theorem ux {h2:Heap}{C t:Addr}(J:Inv (bodyX P w K mg base N qual scope f cd A outer s0 H0 E) am σ H' s')
  (cov:Cov B s0.heap s'.heap H' (envOfC qual scope s0.heap.objs.size f cd::outer)) (up:s'.heap.UpToSlots h2) (fl:Heap.FlyingW B outer ea (.ref C) (.ref t) h2) (hn:H' ea=none) (hE:E (.ref C) none H') :
  CXE P w outer H0 s0 E (.ref ea) { s' with heap:=h2 }:=by
 have hB:=fl.1;have nloc:∀ b o,s0.heap.get? b=some o->b≠s0.heap.objs.size:=λb o e=>Gf (F8 e)
 have KC:∀ b,b≠s0.heap.objs.size->b∉frs outer->b∉frs (envOfC qual scope s0.heap.objs.size f cd::outer):=λb h1 h2 z=>(Gi.mp (J.stkSub b z)).elim h1 h2
 have trk:=λb o e ht=>cov b o e (.inl ht) λz=>ht (J.stkFree b z)
 have noe:∀ b:Addr,b∉([]:List Addr):=λ_ z=>nomatch z
 have nf:∀ b∈frs outer,∀ o,s'.heap.get? b=some o->∀ vs,o.data≠.fields vs:=λb hb o e=>by
  obtain⟨_,o',e',d⟩:=J.funs.mem hb;rw[e]at e';cases e';exact d
 have thr:∀ b o,s0.heap.get? b=some o->∃ o',s'.heap.get? b=some o'/\(b∉frs outer->B.get? b=some o'):=λb o e=>by
  obtain⟨o',e1⟩:=J.base.there b o e (noe b);exact⟨o',e1,λhb=>cov b o' e1 (.inr ⟨o,e⟩) (KC b (nloc b o e) hb)⟩
 refine⟨ea,C,t,H',B,rfl,J.os,J.bare,⟨λb o e n hb hx=>?_,λb o e n hb hx=>?_,J.base.free,λb o e hx=>?_,J.base.tups,J.base.frzs,J.base.tbls⟩,λb u e=>?_,fl,hn,λb o e hc hb=>?_,hE⟩
 ·have e1:=J.base.keep b o e n hb hx;exact hB b o (cov b o e1 (.inr ⟨o,e⟩) (KC b (nloc b o e) hb))
 ·obtain⟨sl,e1⟩:=J.base.slot b o e n hb hx;obtain⟨sl',e2⟩:=up b _ e1 (nf b hb _ e1);exact⟨sl',e2⟩
 ·obtain⟨o',e1,e2⟩:=thr b o e;by_cases hb:b∈frs outer
  ·obtain⟨sl',e3⟩:=up b _ e1 (nf b hb _ e1);exact⟨_,e3⟩
  ·exact⟨o',hB b o' (e2 hb)⟩
 ·refine(J.hok b u e).stay (λc v hc q=>hB c v (trk c v q ?_)) (λ_ q=>q) λ_ _ q=>q
  rcases hc with z | z
  ·subst z;rw[e];simp
  ·rw[z];simp
 ·have same:∀ o',s'.heap.get? b=some o'->B.get? b=some o'->B.get? b=some o:=λo' _ q=>by
   have:=hB b o' q;have e':=e;rw[e']at this;cases this;exact q
  rcases hc with z | ⟨o',z⟩
  ·cases q:H' b with
   | none=>exact absurd q z
   | some u =>
    obtain⟨o',e1⟩:=objThere (J.hok b u q);exact same o' e1 (trk b o' e1 (by rw[q];simp))
  ·obtain⟨o'',e1,e2⟩:=thr b o' z;exact same o'' e1 (e2 hb)
theorem b0:Passes (CXE P w) (bodyX P w K mg base N qual scope f cd A outer s0 H0 E) E:=by
 intro am σ H s e s' I h;obtain⟨ea,C,t,H',B,rfl,os,bare,un,hok,fl,hn,cov,hE⟩:=h;have J:=I.call' os un hok bare λb z=>nomatch z
 refine wpAny_leaves_onW I.ok.frames rfl fl λh2 fl2 up=>?_
 refine ux J (λb o e hc hb=>cov b o e ?_ hb) up fl2 hn hE;rcases hc with z | ⟨o',z⟩
 ·exact .inl z
 ·obtain⟨o'',z'⟩:=I.base.there b o' z (λq=>nomatch q);exact .inr ⟨o'',z'⟩
theorem eV {s:Shared}{h1:Heap}{C:Addr}{args:List Value}(I:Inv (bodyX P w K mg base N qual scope f cd A outer s0 H0 E) am σ H s)(hx:Heap.MadeExcOf s.heap h1 ea (.ref C) args)(hE:E (.ref C) none H) :
  (bodyX P w K mg base N qual scope f cd A outer s0 H0 E).xe (.ref ea) { s with heap:=h1 }:=by
 have hin:∀ env∈(envOfC qual scope s0.heap.objs.size f cd::outer),∀ a,env.frame=some a->a∈frs (envOfC qual scope s0.heap.objs.size f cd::outer):=λenv he a ha=>IV.mpr ⟨env,he,ha⟩
 refine wpAny_leaves_madeW I.ok.frames rfl (λb o q=>PySem.W.of_hideAll _ q) (PySem.W.funFrames_hide I.stack hin) hx λh2 t fl _ _ up=>?_
 have hn:H ea=none:=by
  cases q:H ea with
  | none=>rfl
  | some u =>
   obtain⟨o,e⟩:=objThere (I.hok ea u q);rw[hx.new]at e;cases e
 exact ux (s':=s) I (λb o e _ hb=>PySem.W.hideAll_get _ e hb) ((Heap.UpToSlots.of_keeps hx.keeps).trans up) fl hn hE
end
def Walk (J:It)(vs:List V)(Ok:Lh):Prop:=∀ (i:Nat) (H:Hp),Ok H->(i < vs.length->J.go i H/\∀ x H',J.yld i H x H'->H'=H/\vs[i]?=some x)/\(vs.length<=i->J.stop i H)
def WalkG (F:Fx)(J:It)(ds:List D)(Z1:Hp):Prop:=∀ (i:Nat) (H Z:Hp),Same Z1 Z->Same Z H->(i < ds.length->J.go i H/\∀ x H',J.yld i H x H'->∃ Z' d,Ex H Z H' Z'/\ds[i]?=some d/\Rep F.K F.C Z' d x)/\(ds.length<=i->J.stop i H)
theorem lJ {J:It}{ds:List D}(rs:Reps F.K F.C Z1 ds vs)(w:Walk J vs (Same Z1)):WalkG F J ds Z1:=λi H Z z1 z2=>by
 obtain⟨k1,k2⟩:=w i H (z1.trans z2);have hl:=rs.length;refine⟨λhi=>?_,λhi=>k2 (by omega)⟩;obtain⟨go,y⟩:=k1 (by omega);exact⟨go,λx H' hy=>by
  obtain⟨e0,e2⟩:=y x H' hy;subst e0;obtain⟨d,e3,rd⟩:=rs.get' e2;exact⟨Z,d,Ex.refl z2,e3,rd.mono z1⟩⟩
def tI (F:Fx)(g:KY):TI:=λσ H Q=>∃ Z S,StOk F H Z S σ/\WG F H Z (g S) λds H' Z'=>∀ J,WalkG F J ds Z'->ds.length<=16777216->Q J H'
abbrev FI (X:Cx)(F:Fx)(tg e:Expr)(g:KY):Prop:=PI X tg e (tI F g)
def asSeq:D->R (List D)
 | .tup xs=>.ok xs
 | .lst xs=>.ok xs
 | _=>.stuck
def iSeq (g:KZ):KY:=λS=>(g S).bind λd=>(asSeq d).bind λds=>if ds.length<=16777216 then .ok ds else .stuck
theorem _root_.L2.PI.weak {e:Expr}{t t':TI}(h:PI X tg e t)(w:∀ σ H Q,t' σ H Q->t σ H Q):PI X tg e t':=λam s σ H Q I q=>h am s σ H Q I (w σ H Q q)
theorem vY {a:Addr}(h:SqL K Z a vs):Walk (Itl K a) vs (Same Z):=λi H hz =>
 ⟨λhi=>⟨⟨vs,vs[i],hz.seq h,by simp[hi]⟩,λx H' ⟨e,y⟩=>⟨e,y vs (hz.seq h)⟩⟩,λhi=>⟨vs,hz.seq h,hi⟩⟩
theorem xP {a:Addr}(h:SqT K Z a vs):Walk (Itt K a) vs (Same Z):=λi H hz =>
 ⟨λhi=>⟨⟨vs,vs[i],h.mono hz,by simp[hi]⟩,λx H' ⟨e,y⟩=>⟨e,y vs (h.mono hz)⟩⟩,λhi=>⟨vs,h.mono hz,hi⟩⟩
theorem sN {lo:Int}:Walk (Itr lo n) ((List.range n).map λi=>.int (lo+(i:Nat))) (Same Z):=λi H hz=>by
 refine⟨λhi=>?_,λhi=>?_⟩
 ·have hi':i < n:=by simpa using hi
  exact⟨hi',λx H' ⟨e,y⟩=>⟨e,by rw[y];simp[hi']⟩⟩
 ·show n<=i
  simpa using hi
theorem Du {l:Expr}{tl:TE}(hl:PE X l tl):PI X tg l (λσ H R=>tl σ H λx H1=>∃ a,x=.ref a/\(((∃ xs,SqL X.K H1 a xs)/\R (Itl X.K a) H1)\/((∃ xs,SqT X.K H1 a xs)/\R (Itt X.K a) H1))):=by
 intro am s σ H Q I h;refine thn (hl am s σ H _ I h) λv s1 ⟨x,H1,I1,r1,a,e,q⟩=>?_
 subst e;cases r1;rcases q with ⟨⟨xs,hq⟩,q⟩ | ⟨⟨xs,hq⟩,q⟩
 ·obtain⟨its,rv,p,hz⟩:=I1.list hq;refine Jg p.isList ⟨s1.heap.objs.size,[s1.heap.objs.size],_,_,H1,rfl,I1.kept λb o e=>F4 _ e,vF a _,⟨_,Ge _ rfl,rfl,rfl⟩,λb hb=>?_,q⟩;obtain rfl:b=s1.heap.objs.size:=by simpa using hb
  exact I1.fpOk (F7 _) (I1.hok.fresh (F7 _))
 ·obtain⟨its,rv,p,hz⟩:=I1.tuple hq;refine wpAny_pyIter_tuple (show s1.heap.IsTuple a its.toArray from p) ⟨s1.heap.objs.size,[s1.heap.objs.size],_,_,H1,rfl,I1.kept λb o e=>F4 _ e,sA a _,⟨_,Ge _ rfl,rfl,rfl⟩,λb hb=>?_,q⟩;obtain rfl:b=s1.heap.objs.size:=by simpa using hb
  exact I1.fpOk (F7 _) (I1.hok.fresh (F7 _))
section
variable {e:Expr}{g:KZ}{gs:KY}
theorem dQ (hK:X.K=F.K)(h:FE X F e g):FI X F tg e (iSeq g):=(Du h).weak λσ H Q ⟨Z,S,ok,w⟩=>ak ok w λd v H1 Z1 ok1 x1 rv w1=>by
 rw[hK];cases d with
 | tup ds =>
  rw[Rep]at rv;obtain⟨a,vs,rfl,h1,h2⟩:=rv;have w2:WG F H1 Z1 (if ds.length<=16777216 then R.ok ds else .stuck) _:=w1;split at w2
  ·rename_i hl;exact⟨a,rfl,.inr ⟨⟨vs,h1.mono ok1.sub⟩,WG.now w2 ok1.sub _ (lJ h2 (xP h1)) hl⟩⟩
  ·exact w2.elim
 | lst ds =>
  rw[Rep]at rv;obtain⟨a,vs,rfl,h1,h2⟩:=rv;have w2:WG F H1 Z1 (if ds.length<=16777216 then R.ok ds else .stuck) _:=w1;split at w2
  ·rename_i hl;exact⟨a,rfl,.inl ⟨⟨vs,ok1.sub.seq h1⟩,WG.now w2 ok1.sub _ (lJ h2 (vY h1)) hl⟩⟩
  ·exact w2.elim
 | _=>exact w1.elim
def rngD (lo:Int)(n:Nat):List D:=(List.range n).map λi=>.int (lo+(i:Nat))
def rng1:List D->R (List D)
 | [.int j]=>if -16777216<=j/\j<=16777216 then .ok (rngD 0 j.toNat) else .stuck
 | _=>.stuck
def iRange1 (gs:KY):KY:=λS=>(gs S).bind rng1
theorem qO {K:Frag}{C:La}{Z:Hp}(lo:Int):∀ (l:List Nat),Reps K C Z (l.map λi=>.int (lo+(i:Nat))) (l.map λi=>.int (lo+(i:Nat)))
 | []=>Reps.nil
 | a::r=>Reps.cons (by rw[Rep]) (qO lo r)
theorem pM {j:Int}(r:Reps K C Z [.int j] vs):vs=[.int j]:=by
 rw[Reps]at r;obtain⟨v,r',rfl,h1,h2⟩:=r;rw[Reps]at h2;rw[Rep]at h1;rw[h1,h2]
theorem qP {i j:Int}(r:Reps K C Z [.int i,.int j] vs):vs=[.int i,.int j]:=by
 rw[Reps]at r;obtain⟨v,r',rfl,h1,h2⟩:=r;rw[Rep]at h1;rw[h1,pM h2]
theorem AL {ds:List D}{es:List D}(h:rng1 ds=.ok es):∃ j:Int,ds=[.int j]/\(-16777216<=j/\j<=16777216)/\es=rngD 0 j.toNat:=by
 unfold rng1 at h;split at h
 ·rename_i j;split at h
  ·rename_i q;cases h;exact⟨j,rfl,q,rfl⟩
  ·cases h
 ·cases h
theorem AM {ds:List D}(h:rng1 ds=.err k):False:=by
 unfold rng1 at h;split at h
 ·split at h<;>cases h
 ·cases h
theorem c8 {a:Expr}{p:Pos}(hg:Gl X "range")(hm:X.mg "range"=none)(ha:FA X F [a] gs)(hs:starEach [a] X.env=[(false,eval a X.env)]:=by rfl):FI X F tg (.Call (.Name "range" p) [a] [] pos) (iRange1 gs) :=
 (vG hg hm ha hs).weak λσ H Q ⟨Z,S,ok,w⟩=>aS ok w λds vs H1 Z1 ok1 x1 rs w1=>by
  cases e:rng1 ds with
  | err k=>exact(AM e).elim
  | stuck=>rw[e]at w1;exact w1.elim
  | ok es =>
   rw[e]at w1;obtain⟨j,rfl,hj,rfl⟩:=AL e;exact⟨j,pM rs,by omega,by omega,WG.now w1 ok1.sub _ (lJ (qO 0 _) sN) (by unfold rngD;rw[Gg,Hv];omega)⟩
end
abbrev Li:=D->SS->R SS
def tGd (F:Fx)(g:Li):TG:=λv σ H Q=>∃ Z S d,StOk F H Z S σ/\Rep F.K F.C Z d v/\WG F H Z (g d S) λS' H' Z'=>∀ σ',StOk F H' Z' S' σ'->Q σ' H'
abbrev FG (X:Cx)(F:Fx)(tg:Expr)(g:Li):Prop:=PG X tg (tGd F g)
def gNm (i:Nat):Li:=λd S=>.ok (S.set i (some (.val d)))
theorem _root_.L2.PG.weak {t t':TG}(h:PG X tg t)(w:∀ v σ H Q,t' v σ H Q->t v σ H Q):PG X tg t':=λam s σ H v u Q I r q=>h am s σ H v u Q I r (w v σ H Q q)
theorem aT (i:Nat){x:Str}(hN:X.N.Nodup)(hi:X.N[i]?=some x:=by rfl)(hx:Loc X.env.scope x:=by first | exact Or.inl rfl | exact Or.inr rfl)(hf:KJ X x:=by first | exact .inl rfl | exact .inr rfl) :
  FG X F (.Name x pos) (gNm i):=(i0 hN hi hx hf).weak λv σ H Q ⟨Z,S,d,ok,r,w⟩=>WG.now w ok.sub _ (ok.setVal r)
abbrev KS:=List D->R D
def spF (K:Frag)(C:La)(n:Nat)(f:KS):Sp:=λvs H Q E =>
 vs.length=n/\∃ Z ds,Same Z H/\Reps K C Z ds vs/\WG ⟨K,C,H,Z,E⟩ H Z (f ds) λd H' Z'=>∀ v,Rep K C Z' d v->Q v H'
def outD (o:O):R D:=match o with
 | .nx _=>.ok .non
 | .rt d=>.ok d
 | .er k=>.err k
 | _=>.stuck
def startS (n:Nat)(ds:List D):SS:=ds.map (λd=>some (.val d))++List.replicate (n - ds.length) none
def fnD (n:Nat)(body:SS->O):KS:=λds=>outD (body (startS n ds))
theorem cC {ds:List D}(z:Same F.Z0 F.H0)(r:Reps F.K F.C F.Z0 ds vs):StOk F F.H0 F.Z0 (startS N.length ds) (start N vs):=by
 have hl:=r.length;have at_:∀ {i:Nat} {x:Option Sl},(startS N.length ds)[i]?=some x->(i < ds.length/\∃ d,ds[i]?=some d/\x=some (.val d))\/x=none:=λ{i x} e=>by
  unfold startS at e
  grind
 refine⟨Ex.refl z,?_,λi d e=>?_,λi j x y v w A B _ e1 _ _ _ o1 _=>?_⟩
 ·unfold startS L2.start
  simp[hl]
 ·rcases at_ e with ⟨hi,d',e1,e2⟩ | e2
  ·cases e2;obtain⟨v,e3,rv⟩:=r.get e1;refine⟨v,[],?_,⟨rfl,rv⟩,Priv.nil⟩;unfold L2.start
   grind
  ·cases e2
 ·rcases at_ e1 with ⟨_,d',_,e2⟩ | e2
  ·cases e2;rw[o1.1];exact λa ha=>nomatch ha
  ·cases e2
section
variable {w:World}
structure BX (X:Cx)(F:Fx)(k:Nat):Prop where
 room:Room k X.A
 K:X.K=F.K
 calm:X.calm=true
 pass:Passes (CXE X.prog X.w) X F.E
theorem Fc {x:Str}{fd:FuncData}{body:SS->O}(F:Fun K x qual st f fd)(S:FnScope N ps (defScope st))
  (h:∀ (J4:Value) (A:Around) (outer:List Env) (s:Shared) (H Z:Hp) (E:XK),BX (bodyX P w K mg base N qual (defScope st) f J4 A outer s H E) ⟨K,C,H,Z,E⟩ k ->
   PassesOwn (model P w) (bodyX P w K mg base N qual (defScope st) f J4 A outer s H E).A (bodyX P w K mg base N qual (defScope st) f J4 A outer s H E).env (bodyX P w K mg base N qual (defScope st) f J4 A outer s H E).xe ->
   FSs (bodyX P w K mg base N qual (defScope st) f J4 A outer s H E) ⟨K,C,H,Z,E⟩ (defBody st) body) :
  FnOk P w K mg base (CXE P w) (k+1) f fd ps (spF K C ps.length (fnD N.length body)):=by
 obtain⟨oc,od,kV,doc,pm,an,J4,ct,osl,rfl,lk,Ks⟩:=F.ex;refine oq lk Ks S (λvs H Q E q=>q.1) λA outer s H vs Q E hr hsp=>?_
 obtain⟨_,Z,ds,z,r,w⟩:=hsp;refine⟨_,h J4 A outer s H Z E ⟨hr,rfl,rfl,b0⟩ Hw,Z,startS N.length ds,cC (F:=⟨K,C,H,Z,E⟩) (N:=N) z r,?_⟩;unfold fnD at w;cases e:body (startS N.length ds) with
 | nx S'=>rw[e]at w;exact λσ' H' Z' _ ok=>w H' Z' ok.ex .non (by rw[Rep])
 | rt d=>rw[e]at w;exact λv H' Z' x rv=>w H' Z' x v rv
 | er k=>rw[e]at w;exact w
 | bk S'=>rw[e]at w;exact w.elim
 | ct S'=>rw[e]at w;exact w.elim
 | stuck=>rw[e]at w;exact w
end
structure Fn1 (P:Program)(w:World)(K:Frag)(mg:KW)(base:Heap)(C:La)(k:Nat)(x:Str)(ps:List Str)(f:KS):Prop where
 ex:∃ a fd,FnOk P w K mg base (CXE P w) k a fd ps (spF K C ps.length f)/\mg x=some (.ref a)/\keepIn K (.ref a)=true/\Binds K fd ps []
def eCall (f:KS)(gs:KY):KZ:=λS=>(gs S).bind f
section
variable {x:Str}{p:Pos}{e:Expr}{es:Lp}{gs:KY}{f:KS}
theorem xQ (n:Nat)(hn:∀ S ds,gs S=.ok ds->ds.length=n):∀ σ H Q,tE F (eCall f gs) σ H Q->tCall (spF F.K F.C n f) [] F.E (tAl F gs) σ H Q:=λσ H Q ⟨Z,S,ok,w⟩=>by
 refine⟨Z,S,ok,?_⟩;cases e:gs S with
 | err k=>unfold eCall at w;rw[e]at w;exact w
 | stuck=>unfold eCall at w;rw[e]at w;exact w
 | ok ds =>
  unfold eCall at w;rw[e]at w;intro H1 Z1 x1 vs rs;have w1:=WG.more (r:=f ds) w x1;refine⟨by rw[Gs,<- rs.length];exact hn S ds e,Z1,ds,x1.sub,by rw[Gs];exact rs,?_⟩;cases q:f ds with
  | ok d=>rw[q]at w1;exact w1
  | err k=>rw[q]at w1;exact w1
  | stuck=>rw[q]at w1;exact w1
theorem AN (b:BX X F k)(h:Fn1 X.prog X.w F.K X.mg X.base F.C k x ps f)(hg:Gl X x)(ha:FA X F (e::es) gs)(hn:∀ S ds,gs S=.ok ds->ds.length=ps.length)(K6:KH x:=by decide)
  (he:Id X e es:=by rfl) (hpl:IO X pos es:=by rfl):FE X F (.Call (.Name x p) (e::es) [] pos) (eCall f gs):=by
 obtain⟨a,fd,h1,h2,h3,h4⟩:=h.ex;have hK:=b.K;exact(uq (by rw[hK];exact h1) b.room hg h2 (by grind) (by grind) .nil b.pass ha K6 he hpl).weak (xQ ps.length hn)
theorem ou {g:KZ}(h:∀ S ds,gs S=.ok ds->ds.length=n):∀ S ds,aCons g gs S=.ok ds->ds.length=n+1:=λS ds e=>by
 unfold aCons at e;cases q:g S with
 | err k=>rw[q]at e;cases e
 | stuck=>rw[q]at e;cases e
 | ok d =>
  rw[q]at e;cases q2:gs S with
  | err k=>rw[R.bind_ok,q2]at e;cases e
  | stuck=>rw[R.bind_ok,q2]at e;cases e
  | ok r =>
   rw[R.bind_ok,q2]at e;cases e
   simp[h S r q2]
end
def noErr {α:Type}(r:R α):R α:=match r with
 | .ok a=>.ok a
 | _=>.stuck
def blkS (own:Nat)(cap:List Nat)(S:SS):SS:=List.replicate own none++cap.map λi=>match S[i]? with
 | some (some (.val d))=>some (.val d)
 | _=>none
def compGo (S:SS)(g:Li)(c:Le)(e:KZ):List D->R (List D)
 | []=>.ok []
 | d::r=>(g d S).bind λS1=>(c S1).bind λt=>if t=true then (e S1).bind λy=>(compGo S g c e r).bind λys=>.ok (y::ys) else compGo S g c e r
def eComp (own:Nat)(cap:List Nat)(it:KY)(g:Li)(c:Le)(e:KZ):KZ:=λS=>(it S).bind λds=>(noErr (compGo (blkS own cap S) g c e ds)).bind λys=>.ok (.lst ys)
def tTrue:Le:=λ_=>.ok true
abbrev noE (F:Fx):Fx:={ F with E:=λ_ _ _=>False }
def Own (own:Nat)(g:Li):Prop:=∀ d S S1,g d S=.ok S1->S1.length=S.length/\∀ i,own<=i->S1[i]?=S[i]?
theorem bd (bx:BX X F k){C:Addr}{s:Shared}:BX (blk X scope cl C s H fp N) (noE F) k :=
 ⟨bx.room,bx.K,rfl,λam σ H s e s' _ h=>by
  obtain⟨_,_,_,_,_,_,_,_,_,_,_,_,_,hE⟩:=h;exact hE.elim⟩
theorem fg {own i:Nat}(h:i < own):Own own (gNm i):=λd S S1 e=>by
 cases e;exact⟨by simp,λj hj=>GB (by omega)⟩
theorem StOk.forget {S0:SS}(h:StOk F H Z S σ)(hl:S0.length=S.length)(hs:∀ (i:Nat) (x:Sl),S0[i]?=some (some x)->S[i]?=some (some x)):StOk F H Z S0 σ :=
 ⟨h.ex,hl.trans h.len,λi x e=>h.sl i x (hs i _ e),λi j x y v w A B hij e1 e2=>h.dj i j x y v w A B hij (hs i _ e1) (hs j _ e2)⟩
theorem i7 {own:Nat}{i:Nat}{x:Sl}(e:(blkS own cap S)[i]?=some (some x)):own<=i/\∃ k d,cap[i - own]?=some k/\S[k]?=some (some (.val d))/\x=.val d:=by
 unfold blkS at e;by_cases hi:i < own
 ·rw[GJ (by simpa using hi),HC]at e;split at e<;>cases e
 ·rw[GH (by simpa using hi),Hf,Gu]at e;cases q:cap[i - own]? with
  | none=>rw[q]at e;cases e
  | some k =>
   rw[q]at e;simp only[IH,Iq]at e;split at e
   ·rename_i d q2;cases e;exact⟨by omega,k,d,rfl,q2,rfl⟩
   ·cases e
theorem vZ {own:Nat}{D:Addr}(ok:StOk F H Z S σ)(hD:H D=none):StOk (noE F) (upd H D (.lst [])) Z (blkS own cap S) (startB own cap σ):=by
 refine⟨ok.ex.trans (Ex.hidden ok.sub hD),by simp[blkS,startB],λi x e=>?_,λi j x y v w A B _ e1 _ _ _ o1 _=>?_⟩
 ·obtain⟨hi,k,d',q1,q2,q3⟩:=i7 e;cases q3;obtain⟨v,e1,r⟩:=ok.val k d' q2;refine⟨v,[],?_,⟨rfl,r⟩,Priv.nil⟩;unfold startB;rw[GH (by simpa using hi),Hf,Gu,q1]
  simp[e1]
 ·obtain⟨_,_,_,_,_,q⟩:=i7 e1;cases q;rw[o1.1];exact λa ha=>nomatch ha
section
variable {own:Nat}{git:KY}{g:Li}{gc:Le}{ge:KZ}
theorem sO {P:D->Hp->Lh}{Q:Addr->Lh}(hgc:ifs=[]->gc=tTrue)(hgo:Own own g)(ok:StOk F H Z S σ)(w:WG F H Z (eComp own cap git g gc ge S) P)
  (hP:∀ D ys ds H1 Z1 H' Z',Ex H Z H1 Z1->H1 D=none->Ex H1 Z1 H' Z'->Z' D=none->(∀ H'' Z'',Ex H1 Z1 H'' Z''->P (.lst ds) H'' Z'')->H' D=some (.lst ys)->Reps F.K F.C Z' ds ys->Q D H') :
  tI F git σ H λJ H1=>∀ D,H1 D=none->∃ W,BlkW sizeLine J (tGd (noE F) g) (tTests ifs (tT (noE F) gc)) (tE (noE F) ge) D (λH' _=>Q D H') W/\∃ m,W 0 m (startB own cap σ) (upd H1 D (.lst [])) []:=by
 refine⟨Z,S,ok,?_⟩;unfold eComp at w;cases e:git S with
 | err k=>rw[e]at w;exact w
 | stuck=>rw[e]at w;exact w
 | ok ds =>
  rw[e]at w;intro H1 Z1 x1 J wk Km D hD;have w1:=WG.more w x1;have ok1:=ok.more x1;have hS:=Go;refine⟨λi m σ' H' ys=>m=ds.length - i/\i<=ds.length/\H' D=some (.lst ys)/\ys.length<=i/\∃ Z' acc,Ex H1 Z1 H' Z'/\Z' D=none/\Reps F.K F.C Z' acc ys/\StOk (noE F) H' Z' (blkS own cap S) σ' /\
   WG F H1 Z1 ((noErr (compGo (blkS own cap S) g gc ge (ds.drop i))).bind λzs=>R.ok (FF.D.lst (acc++zs))) P,?_,ds.length,rfl,GQ _,ah,F7 _,Z1,[],Ex.hidden ok1.sub hD,ok1.sub.free hD,Reps.nil,vZ ok1 hD,w1⟩
  rintro i m σ2 H2 ys ⟨rfl,hle,hDy,hyl,Z2,acc,x2,hZD,ra,ok2,w2⟩
  refine⟨hDy,?_⟩;obtain⟨k1,k2⟩:=wk i H2 Z2 x2.z x2.sub;by_cases K4:i < ds.length
  ·obtain⟨go,y⟩:=k1 K4;refine .inr ⟨go,λx H' hy=>?_⟩;obtain⟨Z2',d,x',e3,rd⟩:=y x H' hy;have ok2:=ok2.more x';have hZD:Z2' D=none:=by
    cases r:Z2' D with
    | none=>rfl
    | some o =>
     rcases x'.new D (by rw[r];simp) with z | z
     ·exact absurd hZD z
     ·rw[hDy]at z;cases z
   have hDy:=x'.same _ _ hDy;have x2:=x2.trans x';have ra:=ra.mono x'.z;have hd:ds.drop i=d::ds.drop (i+1):=by
    obtain⟨hi,e4⟩:=Gc.mp e3;rw[Hz hi,e4]
   rw[hd]at w2;unfold compGo at w2;refine⟨Z2',blkS own cap S,d,ok2,rd,?_⟩;cases qg:g d (blkS own cap S) with
   | err k=>rw[qg]at w2;exact w2.elim
   | stuck=>rw[qg]at w2;exact w2.elim
   | ok S1 =>
    rw[qg,R.bind_ok]at w2;intro H3 Z3 x3 σ3 ok3;obtain⟨gl,gk⟩:=hgo _ _ _ qg;have back:∀ {H Z:Hp},StOk (noE F) H Z S1 σ3->StOk (noE F) H Z (blkS own cap S) σ3:=λh=>h.forget gl.symm λj z q=>by
     rw[gk j (i7 q).1];exact q
    have hD3:=x3.same _ _ hDy;have x13:=x2.trans x3;have zD:∀ {H Z:Hp},Ex H1 Z1 H Z->Ex H' Z2' H Z->Z D=none:=λ{H Z} _ q=>by
     cases r:Z D with
     | none=>rfl
     | some o =>
      rcases q.new D (by rw[r];simp) with z | z
      ·exact absurd hZD z
      ·rw[hDy]at z;cases z
    have fin:∀ (t:Bool) (H4 Z4:Hp),Ex H' Z2' H4 Z4->StOk (noE F) H4 Z4 S1 σ3->gc S1=.ok t->if t=true then tE (noE F) ge σ3 H4 λy H5=>H5 D=some (.lst ys)/\ys.length < sizeLine/\∃ m',m' < ds.length - i/\(m'=ds.length - (i+1)/\i+1<=ds.length/\(upd H5 D (.lst (ys++[y]))) D=some (.lst (ys++[y]))/\(ys++[y]).length<=i+1/\∃ Z' acc,Ex H1 Z1 (upd H5 D (.lst (ys++[y]))) Z'/\Z' D=none/\Reps F.K F.C Z' acc (ys++[y])/\StOk (noE F) (upd H5 D (.lst (ys++[y]))) Z' (blkS own cap S) σ3 /\
      WG F H1 Z1 ((noErr (compGo (blkS own cap S) g gc ge (ds.drop (i+1)))).bind λzs=>R.ok (FF.D.lst (acc++zs))) P)
      else ∃ m',m' < ds.length - i/\(m'=ds.length - (i+1)/\i+1<=ds.length/\H4 D=some (.lst ys)/\ys.length<=i+1/\∃ Z' acc,Ex H1 Z1 H4 Z'/\Z' D=none/\Reps F.K F.C Z' acc ys/\StOk (noE F) H4 Z' (blkS own cap S) σ3 /\
      WG F H1 Z1 ((noErr (compGo (blkS own cap S) g gc ge (ds.drop (i+1)))).bind λzs=>R.ok (FF.D.lst (acc++zs))) P):=by
     intro t H4 Z4 x4 ok4 qc;rw[qc,R.bind_ok]at w2;cases t with
     | false =>
      rw[if_neg Gv]at w2 ⊢;exact⟨ds.length - (i+1),by omega,rfl,K4,x4.same _ _ hDy,by omega,Z4,acc,x2.trans x4,zD (x2.trans x4) x4,ra.mono x4.z,back ok4,w2⟩
     | true =>
      rw[if_pos rfl]at w2 ⊢;refine⟨Z4,S1,ok4,?_⟩;cases qe:ge S1 with
      | err k=>rw[qe]at w2;exact w2.elim
      | stuck=>rw[qe]at w2;exact w2.elim
      | ok yd =>
       rw[qe,R.bind_ok]at w2;intro H5 Z5 x5 yv ry;have hD5:=x5.same _ _ (x4.same _ _ hDy);have x25:=x4.trans x5;have z5:=zD (x2.trans x25) x25;have ok5:=ok4.more x5;have n0:=ok1.ex.same.free hD;have xu:Ex H1 Z1 (upd H5 D (.lst (ys++[yv]))) Z5:=by
        have q:=x2.trans x25;refine⟨λb o e=>?_,q.z,λb o e=>?_,q.new⟩
        ·rw[ae (λz=>by subst z;rw[hD]at e;cases e)];exact q.same b o e
        ·rw[ae (λz=>by subst z;rw[z5]at e;cases e)];exact q.sub b o e
       refine⟨hD5,by omega,ds.length - (i+1),by omega,rfl,K4,ah,by simp;omega,Z5,acc++[yd],xu,z5,(ra.mono x25.z).append (Reps.cons ry Reps.nil),?_,?_⟩
       ·have q:=back ok5;refine⟨⟨λb o e=>?_,q.ex.z,λb o e=>?_,q.ex.new⟩,q.len,λj x e=>?_,λj k x y v w A B _ e1 _ _ _ o1 _=>?_⟩
        ·rw[ae (λz=>by subst z;have e':=e;rw[n0]at e';cases e')];exact q.ex.same b o e
        ·rw[ae (λz=>by subst z;rw[z5]at e;cases e)];exact q.ex.sub b o e
        ·obtain⟨_,_,_,_,_,z⟩:=i7 e;cases z;obtain⟨v,e1,r⟩:=q.val j _ e;exact⟨v,[],e1,⟨rfl,r⟩,Priv.nil⟩
        ·obtain⟨_,_,_,_,_,z⟩:=i7 e1;cases z;rw[o1.1];exact λa ha=>nomatch ha
       ·cases qr:compGo (blkS own cap S) g gc ge (ds.drop (i+1)) with
        | err k=>rw[qr]at w2;exact w2.elim
        | stuck=>rw[qr]at w2;exact w2.elim
        | ok zs=>rw[qr]at w2;simpa [noErr,Jf] using w2
    cases qc:gc S1 with
    | err k=>rw[qc]at w2;exact w2.elim
    | stuck=>rw[qc]at w2;exact w2.elim
    | ok t =>
     cases ifs with
     | nil =>
      have:=hgc rfl;subst this;cases qc;exact fin true H3 Z3 x3 ok3 rfl
     | cons c r =>
      refine⟨Z3,S1,ok3,?_⟩;rw[qc];intro H4 Z4 x4;exact fin t H4 Z4 (x3.trans x4) (ok3.more x4) qc
  ·have ei:i=ds.length:=by omega
   refine .inl ⟨k2 (by omega),?_⟩;rw[HI (by omega)]at w2;have w3:WG F H1 Z1 (R.ok (FF.D.lst (acc++[]))) P:=w2;rw[Gs]at w3;exact hP D ys acc H1 Z1 H2 Z2 x1 hD x2 hZD w3 hDy ra
theorem oy {P:D->Hp->Lh}{Q:Addr->Lh}(hgc:ifs=[]->gc=tTrue)(hgo:Own own g)(ok:StOk F H Z S σ)(w:WG F H Z (eComp own cap git g gc ge S) P)(hP:∀ D ys ds H' Z',Ex H Z H' Z'->P (.lst ds) H' Z'->H' D=some (.lst ys)->Z' D=some (.lst ys)->Reps F.K F.C Z' ds ys->Q D H') :
  tI F git σ H λJ H1=>∀ D,H1 D=none->∃ W,BlkW sizeLine J (tGd (noE F) g) (tTests ifs (tT (noE F) gc)) (tE (noE F) ge) D (λH' _=>Q D H') W/\∃ m,W 0 m (startB own cap σ) (upd H1 D (.lst [])) [] :=
 sO hgc hgo ok w λD ys ds H1 Z1 H2 Z2 x1 hD x2 hZD w3 hDy ra=>by
  have hz:Same Z2 (upd Z2 D (.lst ys)):=ar hZD;have xf:Ex H1 Z1 H2 (upd Z2 D (.lst ys)):=by
   refine⟨x2.same,x2.z.trans hz,λb o e=>?_,λb hb=>?_⟩
   ·by_cases q:b=D
    ·subst q;rw[ah]at e;cases e;exact hDy
    ·rw[ae q]at e;exact x2.sub b o e
   ·by_cases q:b=D
    ·subst q;exact .inr hD
    ·rw[ae q]at hb;exact x2.new b hb
  exact hP D ys ds H2 _ (x1.trans xf) (w3 H2 _ xf) hDy ah (ra.mono hz)
theorem fi (bx:BX X F k)(b:BlkOk X.N X.env.scope scope N own cap)(hi:FI X F tg iter git)(hgo:Own own g)
  (hg:∀ cl C s H fp,FG (blk X scope cl C s H fp N) (noE F) tg g) (he:∀ cl C s H fp,FE (blk X scope cl C s H fp N) (noE F) elt ge)
  (hs:∀ x,foldedSetIterable iter X.env x=pure x:=by intro _;rfl):FE X F (.ListComp elt [⟨tg,iter,[],0⟩] scope pos) (eComp own cap git g tTrue ge) :=
 (uw (ifs:=[]) b bx.calm (by simp) hi hg (λc q=>nomatch q) he hs).weak λσ H Q ⟨Z,S,ok,w⟩ =>
  oy (λ_=>rfl) hgo ok w λD ys ds H' Z' _ p h1 h2 r=>p _ (by rw[Rep];exact⟨D,ys,rfl,SqL.of h2,r⟩)
theorem oz (bx:BX X F k)(b:BlkOk X.N X.env.scope scope N own cap)(hi:FI X F tg iter git)(hgo:Own own g)
  (hg:∀ cl C s H fp,FG (blk X scope cl C s H fp N) (noE F) tg g) (ht:∀ cl C s H fp,FT (blk X scope cl C s H fp N) (noE F) c gc) (he:∀ cl C s H fp,FE (blk X scope cl C s H fp N) (noE F) elt ge)
  (hs:∀ x,foldedSetIterable iter X.env x=pure x:=by intro _;rfl):FE X F (.ListComp elt [⟨tg,iter,[c],0⟩] scope pos) (eComp own cap git g gc ge) :=
 (uw b bx.calm (by simp) hi hg (λc' q=>by cases q;exact ht) he hs).weak λσ H Q ⟨Z,S,ok,w⟩ =>
  oy (λq=>nomatch q) hgo ok w λD ys ds H' Z' _ p h1 h2 r=>p _ (by rw[Rep];exact⟨D,ys,rfl,SqL.of h2,r⟩)
end
mutual
theorem gn:∀ (n:Nat) (d:D),good n d=true->eqD d d=true
 | n,.non,_=>by simp[eqD]
 | n,.bl b,_=>by simp[eqD]
 | n,.int i,_=>by simp[eqD]
 | n,.str x,_=>by simp[eqD]
 | 0,.tup xs,h=>by simp[good]at h
 | 0,.lst xs,h=>by simp[good]at h
 | n+1,.tup xs,h=>by rw[good]at h;rw[eqD];exact jW n xs h
 | n+1,.lst xs,h=>by rw[good]at h;rw[eqD];exact jW n xs h
 | n,.exc k,h=>by cases n<;>simp[good]at h
 | n,.fn k,h=>by cases n<;>simp[good]at h
 | n,.tab ks xs,h=>by cases n<;>simp[good]at h
 | n,.dic ks xs,h=>by cases n<;>simp[good]at h
 | n,.ptr a,h=>by cases n<;>simp[good]at h
theorem jW:∀ (n:Nat) (ds:List D),goods n ds=true->eqDs ds ds=true
 | n,[],_=>by simp[eqDs]
 | n,d::ds,h=>by
  rw[goods,Gj]at h;rw[eqDs,gn n d h.1,jW n ds h.2];rfl
end
theorem gZ {n:Nat}:∀ {ds:List D} {i:Nat} {d:D},goods n ds=true->ds[i]?=some d->good n d=true
 | [],_,_,_,e=>by simp at e
 | x::xs,0,d,h,e=>by
  rw[goods,Gj]at h
  simp at e;subst e;exact h.1
 | x::xs,i+1,d,h,e=>by
  rw[goods,Gj]at h;exact gZ h.2 (by simpa using e)
theorem qQ:∀ (ds es:List D),eqDs ds es=((List.range (min ds.length es.length)).all (λj=>eqD (ds.getD j .non) (es.getD j .non))&&ds.length==es.length)
 | [],[]=>by simp[eqDs]
 | [],e::es=>by simp[eqDs]
 | d::ds,[]=>by simp[eqDs]
 | d::ds,e::es=>by
  rw[eqDs,qQ ds es];have h1:min (d::ds).length (e::es).length=min ds.length es.length+1:=by simp only[Gb];omega
  rw[h1,List.range_succ_eq_map,HQ,List.all_map];have h2:((d::ds).length==(e::es).length)=(ds.length==es.length):=by simp
  rw[h2];simp only[List.getD_cons_zero,Bool.and_assoc];rfl
section
variable {s:Shared}
theorem oA {a:Addr}{ys:List V}(I:Inv X am σ H s)(h:SqL X.K H a xs)(h':SqT X.K H a ys):False:=by
 obtain⟨its,r,p,_⟩:=I.list h;obtain⟨KB,r',p',_⟩:=I.tuple h';exact SeqAt.ne_of_list_tuple p.isList (show s.heap.IsTuple a KB.toArray from p') rfl
mutual
theorem pN {K:Frag}{C:La}(hK:X.K=K)(I:Inv X am σ H s)(z:Same Z H):∀ (n:Nat) (d e:D) (v:V),good n d=true->good n e=true->Rep K C Z d v->Rep K C Z e v->d=e
 | n,.non,e,v,g1,g2,h,h'=>by rw[Rep]at h;subst h;cases e<;>rw[Rep]at h'<;>first | rfl | (obtain⟨_,_,q,_⟩:=h';cases q;done) | (obtain⟨_,q,_⟩:=h';cases q;done) | (cases h';done)
 | n,.bl b,e,v,g1,g2,h,h'=>by rw[Rep]at h;subst h;cases e<;>rw[Rep]at h'<;>first | (cases h';rfl) | (obtain⟨_,_,q,_⟩:=h';cases q;done) | (obtain⟨_,q,_⟩:=h';cases q;done) | (cases h';done)
 | n,.int b,e,v,g1,g2,h,h'=>by rw[Rep]at h;subst h;cases e<;>rw[Rep]at h'<;>first | (cases h';rfl) | (obtain⟨_,_,q,_⟩:=h';cases q;done) | (obtain⟨_,q,_⟩:=h';cases q;done) | (cases h';done)
 | n,.str b,e,v,g1,g2,h,h'=>by rw[Rep]at h;subst h;cases e<;>rw[Rep]at h'<;>first | (cases h';rfl) | (obtain⟨_,_,q,_⟩:=h';cases q;done) | (obtain⟨_,q,_⟩:=h';cases q;done) | (cases h';done)
 | 0,.tup xs,e,v,g1,g2,h,h'=>by simp[good]at g1
 | 0,.lst xs,e,v,g1,g2,h,h'=>by simp[good]at g1
 | n,.exc k,e,v,g1,g2,h,h'=>by cases n<;>simp[good]at g1
 | n,.fn k,e,v,g1,g2,h,h'=>by cases n<;>simp[good]at g1
 | n,.tab ks xs,e,v,g1,g2,h,h'=>by cases n<;>simp[good]at g1
 | n,.dic ks xs,e,v,g1,g2,h,h'=>by cases n<;>simp[good]at g1
 | n,.ptr a,e,v,g1,g2,h,h'=>by cases n<;>simp[good]at g1
 | n+1,.tup ds,e,v,g1,g2,h,h'=>by
  rw[Rep]at h;obtain⟨a,vs,rfl,h1,h2⟩:=h;cases e with
  | tup es =>
   rw[Rep]at h';obtain⟨b,us,q,k1,k2⟩:=h';cases q;have e1:vs=us:=I.tuple_inj (by rw[hK];exact h1.mono z) (by rw[hK];exact k1.mono z);subst e1;rw[good]at g1 g2;rw[lK hK I z n ds es vs g1 g2 h2 k2]
  | lst es =>
   rw[Rep]at h';obtain⟨b,us,q,k1,k2⟩:=h';cases q;exact(oA I (by rw[hK];exact z.seq k1) (by rw[hK];exact h1.mono z)).elim
  | exc k=>simp[good]at g2
  | fn k=>simp[good]at g2
  | tab ks xs=>simp[good]at g2
  | dic ks xs=>simp[good]at g2
  | ptr a=>simp[good]at g2
  | _=>rw[Rep]at h';cases h'
 | n+1,.lst ds,e,v,g1,g2,h,h'=>by
  rw[Rep]at h;obtain⟨a,vs,rfl,h1,h2⟩:=h;cases e with
  | lst es =>
   rw[Rep]at h';obtain⟨b,us,q,k1,k2⟩:=h';cases q;have e1:vs=us:=I.list_inj (by rw[hK];exact z.seq h1) (by rw[hK];exact z.seq k1);subst e1;rw[good]at g1 g2;rw[lK hK I z n ds es vs g1 g2 h2 k2]
  | tup es =>
   rw[Rep]at h';obtain⟨b,us,q,k1,k2⟩:=h';cases q;exact(oA I (by rw[hK];exact z.seq h1) (by rw[hK];exact k1.mono z)).elim
  | exc k=>simp[good]at g2
  | fn k=>simp[good]at g2
  | tab ks xs=>simp[good]at g2
  | dic ks xs=>simp[good]at g2
  | ptr a=>simp[good]at g2
  | _=>rw[Rep]at h';cases h'
theorem lK {K:Frag}{C:La}(hK:X.K=K)(I:Inv X am σ H s)(z:Same Z H):∀ (n:Nat) (ds es:List D) (vs:List V),goods n ds=true->goods n es=true->Reps K C Z ds vs->Reps K C Z es vs->ds=es
 | n,[],es,vs,g1,g2,h,h'=>by
  rw[Reps]at h;subst h;cases es with
  | nil=>rfl
  | cons e es=>rw[Reps]at h';obtain⟨_,_,q,_⟩:=h';cases q
 | n,d::ds,es,vs,g1,g2,h,h'=>by
  rw[Reps]at h;obtain⟨v,r,rfl,h1,h2⟩:=h;cases es with
  | nil=>rw[Reps]at h';cases h'
  | cons e es =>
   obtain⟨k1,k2⟩:=h'.uncons;rw[goods,Gj]at g1 g2;rw[pN hK I z n d e v g1.1 g2.1 h1 k1,lK hK I z n ds es r g1.2 g2.2 h2 k2]
end
def flatD:D->Bool
 | .non=>true
 | .bl _=>true
 | .int _=>true
 | .str _=>true
 | _=>false
theorem qR {d:D}(f:flatD d=true)(h:Rep K C Z d v):flatV v=true:=by
 cases d<;>first | (rw[Rep]at h;subst h;rfl) | simp[flatD]at f
theorem xR {d e:D}{u:V}(f1:flatD d=true)(f2:flatD e=true)(h:Rep K C Z d v)(h':Rep K C Z e u):eqV v u=eqD d e:=by
 cases d<;>first | (simp[flatD]at f1;done) | (cases e<;>first | (simp[flatD]at f2;done) | (rw[Rep]at h;rw[Rep]at h';subst h;subst h';simp[eqV,eqD]))
section
theorem kd (hK:X.K=K)(I:Inv X am σ H s)(z:Same Z H){d:D}{x:Value}(g:good n d=true)(h:Rep K C Z d v)(r:RelV v x) :
  (d=.non/\x=.none)\/(∃ b,d=.bl b/\x=.bool b)\/(∃ i t,d=.int i/\x=.int i t)\/(∃ a t,d=.str a/\x=.str a t) \/
  ∃ m ds vs its a,n=m+1/\goods m ds=true/\Reps K C Z ds vs/\Vals vs its/\v=.ref a/\x=.ref a/\((d=.tup ds/\s.heap.IsTuple a its.toArray)\/(d=.lst ds/\s.heap.IsList a its.toArray)):=by
 subst hK;cases d with
 | non=>rw[Rep]at h;subst h;cases r;exact .inl ⟨rfl,rfl⟩
 | bl b=>rw[Rep]at h;subst h;cases r;exact .inr (.inl ⟨_,rfl,rfl⟩)
 | int i=>rw[Rep]at h;subst h;obtain⟨t,rfl⟩:=r;exact .inr (.inr (.inl ⟨_,_,rfl,rfl⟩))
 | str a=>rw[Rep]at h;subst h;obtain⟨t,rfl⟩:=r;exact .inr (.inr (.inr (.inl ⟨_,_,rfl,rfl⟩)))
 | tup ds =>
  cases n with
  | zero=>simp[good]at g
  | succ m =>
   rw[Rep]at h;obtain⟨a,vs,rfl,h1,h2⟩:=h;cases r;obtain⟨its,r,p,_⟩:=I.tuple (h1.mono z);exact .inr (.inr (.inr (.inr ⟨m,ds,vs,its,a,rfl,g,h2,r,rfl,rfl,.inl ⟨rfl,p⟩⟩)))
 | lst ds =>
  cases n with
  | zero=>simp[good]at g
  | succ m =>
   rw[Rep]at h;obtain⟨a,vs,rfl,h1,h2⟩:=h;cases r;obtain⟨its,r,p,_⟩:=I.list (z.seq h1);exact .inr (.inr (.inr (.inr ⟨m,ds,vs,its,a,rfl,g,h2,r,rfl,rfl,.inr ⟨rfl,p.isList⟩⟩)))
 | _=>cases n<;>simp[good]at g
theorem els (ih:∀ (d e:D) (v u:V) (x y:Value),good n d=true->good n e=true->Rep K C Z d v->Rep K C Z e u->RelV v x->RelV u y->SeqAt.EqAt A s x y (eqD d e)){ds es:List D}{its Kt:List Value}(g1:goods n ds=true)(g2:goods n es=true)(h2:Reps K C Z ds vs)(k2:Reps K C Z es us)(r:Vals vs its)(r2:Vals us Kt)
  (j:Nat) (j1:j < its.toArray.size) (j2:j < Kt.toArray.size):SeqAt.EqAt A s its.toArray[j] Kt.toArray[j] (eqD (ds.getD j .non) (es.getD j .non)):=by
 have l1:j < ds.length:=by rw[h2.length,r.length];simpa using j1
 have l2:j < es.length:=by rw[k2.length,r2.length];simpa using j2
 have e1:ds[j]?=some ds[j]:=by simp
 have e2:es[j]?=some es[j]:=by simp
 obtain⟨w1,f1,f2⟩:=h2.get e1;obtain⟨w2,f3,f4⟩:=k2.get e2;obtain⟨z1,m1,m2⟩:=r.get f1;obtain⟨z2,m3,m4⟩:=r2.get f3;have n1:its.toArray[j]=z1:=by simpa [show j < its.length by simpa using j1] using m1
 have n2:Kt.toArray[j]=z2:=by simpa [show j < Kt.length by simpa using j2] using m3
 rw[n1,n2,show ds.getD j .non=ds[j] by simp[l1],show es.getD j .non=es[j] by simp[l2]];exact ih _ _ w1 w2 z1 z2 (gZ g1 e1) (gZ g2 e2) f2 f4 m2 m4
set_option maxHeartbeats 4000000 in
theorem eqB (hK:X.K=K)(I:Inv X am σ H s)(z:Same Z H):∀ (n:Nat) (A:Around) (d e:D) (v u:V) (x y:Value),good n d=true->good n e=true->Rep K C Z d v->Rep K C Z e u->RelV v x->RelV u y->A.units+n < cLine->SeqAt.EqAt A s x y (eqD d e)/\SeqAt.RcAt A s x y (eqD d e)/\SeqAt.RcNeAt A s x y (!eqD d e)
 | n,A,d,e,v,u,x,y,g1,g2,h,h',rx,ry,hu=>by
  have u0:A.units < cLine:=by omega
  have hh:=h;have hh':=h';have fl:flatD d=true->flatD e=true->SeqAt.EqAt A s x y (eqD d e):=λf1 f2=>by rw[<- xR f1 f2 h h'];exact Dn rx ry (qR f1 h) (qR f2 h')
  rcases kd hK I z g1 h rx with ⟨rfl,rfl⟩ | ⟨_,rfl,rfl⟩ | ⟨_,_,rfl,rfl⟩ | ⟨_,_,rfl,rfl⟩ | ⟨m,ds,vs,its,a,rfl,w1,h2,r,rfl,rfl,⟨rfl,p⟩ | ⟨rfl,p⟩⟩ <;>
  rcases kd hK I z g2 h' ry with ⟨rfl,rfl⟩ | ⟨_,rfl,rfl⟩ | ⟨_,_,rfl,rfl⟩ | ⟨_,_,rfl,rfl⟩ | ⟨m2,es,us,Kt,b,e0,w2,k2,r2,rfl,rfl,⟨rfl,q⟩ | ⟨rfl,q⟩⟩ <;>
  simp only[eqD,Bool.not_false,Ka]at fl ⊢ <;>
  try (refine⟨?_,?_,?_⟩<;>with_reducible first
   | exact fl rfl rfl
   | exact .none_none | exact .none_bool _ | exact .none_int _ _ | exact .none_str _ _ | exact .none_tuple q u0 | exact .none_list q u0
   | exact .bool_none _ | exact .bool_bool _ _ | exact .bool_int _ _ _ | exact .bool_str _ _ _ | exact .bool_tuple _ q u0 | exact .bool_list _ q u0
   | exact .int_none _ _ | exact .int_bool _ _ _ | exact .int_int _ _ _ _ | exact .int_str _ _ _ _ | exact .int_tuple _ _ q u0 | exact .int_list _ _ q u0
   | exact .str_none _ _ | exact .str_bool _ _ _ | exact .str_int _ _ _ _ | exact .str_str _ _ _ _ | exact .str_tuple _ _ q u0 | exact .str_list _ _ q u0
   | exact .tuple_none p u0 | exact .tuple_bool _ p u0 | exact .tuple_int _ _ p u0 | exact .tuple_str _ _ p u0 | exact .tuple_list p q u0
   | exact .list_none p u0 | exact .list_bool _ p u0 | exact .list_int _ _ p u0 | exact .list_str _ _ p u0 | exact .list_tuple p q u0)
  all_goals
   cases e0;have el:=els (A:=A.in1) (λd e v u x y g1 g2 h h' rx ry=>(eqB hK I z m A.in1 d e v u x y g1 g2 h h' rx ry (by show A.units+1+m < cLine;omega)).1) w1 w2 h2 k2 r r2;have s1:its.toArray.size=ds.length:=by rw[F9,h2.length,r.length]
   have s2:Kt.toArray.size=es.length:=by rw[F9,k2.length,r2.length]
   have both:∀ {c:Bool},(a=b->c=true)->SeqAt.RcAt A s (.ref a) (.ref b) c->SeqAt.EqAt A s (.ref a) (.ref b) c:=λ{c} hc w=>by
    by_cases hab:a=b
    ·subst hab;rw[hc rfl];exact .same _
    ·exact .of_refs hab w
   have rf:a=b->eqDs ds es=true:=λhab=>by
    subst hab;have t:=pN hK I z (m+1) _ _ _ g1 g2 hh hh';have w:=gn (m+1) _ g1;cases t
    simpa only[eqD] using w
   rw[qQ]at rf ⊢
  ·have q1:=SeqAt.RcAt.tuples (A:=A) (e:=λj=>eqD (ds.getD j .non) (es.getD j .non)) p q u0 el;have q2:=SeqAt.RcNeAt.tuples (A:=A) (e:=λj=>eqD (ds.getD j .non) (es.getD j .non)) p q u0 el;rw[s1,s2]at q1 q2;exact⟨both rf q1,q1,q2⟩
  ·by_cases hs:ds.length=es.length
   ·have q1:=SeqAt.RcAt.lists (A:=A) (e:=λj=>eqD (ds.getD j .non) (es.getD j .non)) p q (by rw[s1,s2];exact hs) u0 el;have q2:=SeqAt.RcNeAt.lists (A:=A) (e:=λj=>eqD (ds.getD j .non) (es.getD j .non)) p q (by rw[s1,s2];exact hs) u0 el;rw[s1]at q1 q2;rw[hs,Nat.min_self,beq_self_eq_true,Bool.and_true,<- hs]at rf ⊢;exact⟨both rf q1,q1,q2⟩
   ·rw[show (ds.length==es.length)=false by simpa using hs,JQ]at rf ⊢;have q1:=SeqAt.RcAt.lists_lengths (A:=A) p q (by rw[s1,s2];simpa using hs) u0;exact⟨both rf q1,q1,SeqAt.RcNeAt.lists_lengths p q (by rw[s1,s2];simpa using hs) u0⟩
end
theorem sP (hK:X.K=K)(I:Inv X am σ H s)(z:Same Z H)(n:Nat)(A:Around)(d e:D)(v u:V)(x y:Value)(g1:good n d=true)(g2:good n e=true)(h:Rep K C Z d v)(h':Rep K C Z e u)(rx:RelV v x)(ry:RelV u y)(hu:A.units+n < cLine):SeqAt.EqAt A s x y (eqD d e):=(eqB hK I z n A d e v u x y g1 g2 h h' rx ry hu).1
end
def dAdd (x y:D):R D:=if isInt x=true then dI0 (λi j=>.int (i+j)) x y else if isTup x=true then dCatT x y else dCatL x y
def dSub:Lf:=dI0 λi j=>.int (i - j)
def dM4:Lf
 | .tup [x],.int 4=>.ok (.tup [x,x,x,x])
 | _,_=>.stuck
def dM1:Lf
 | .lst [x],.int k=>if k=0 then .ok (.lst []) else if k=1 then .ok (.lst [x]) else .stuck
 | _,_=>.stuck
def dMul (x y:D):R D:=if isInt x=true then dI cMul (λi j=>.int (i*j)) x y else if isTup x=true then dM4 x y else dM1 x y
def dDiv:Lf:=dI cDiv λi j=>.int (i/j)
def dMod:Lf:=dI (λ_ j=>decide (0 < j)) λi j=>.int (i%j)
def dLt:Lf:=dI0 λi j=>.bl (decide (i < j))
def dLe:Lf:=dI0 λi j=>.bl (decide (i<=j))
def dGt:Lf:=dI0 λi j=>.bl (decide (j < i))
def dGe:Lf:=dI0 λi j=>.bl (decide (j<=i))
theorem aM {i:Int}:Rep K C Z (.int i) (.int i):=by rw[Rep]
theorem aG {i:Bool}:Rep K C Z (.bl i) (.bl i):=by rw[Rep]
theorem aN {d:D}(r:Reps K C Z [d] vs):∃ v,vs=[v]/\Rep K C Z d v:=by
 rw[Reps]at r;obtain⟨v,r',rfl,h1,h2⟩:=r;rw[Reps]at h2
 grind
def dLen:KS
 | [.lst xs]=>.ok (.int xs.length)
 | [.tup xs]=>.ok (.int xs.length)
 | _=>.stuck
section
variable {a:Expr}{ga gb gc:KZ}
theorem dR (ha:FE X F a ga)(hb:FE X F b gb):FE X F (.BinOp a .Sub b pos) (eOp dSub ga gb):=qM Dc (dP λ_ _ _=>aM) ha hb
theorem Dv (ha:FE X F a ga)(hb:FE X F b gb):FE X F (.BinOp a .FloorDiv b pos) (eOp dDiv ga gb):=qM Ar (xI AH λ_ _ _=>aM) ha hb
theorem iQ (ha:FE X F a ga)(hb:FE X F b gb):FE X F (.BinOp a .Mod b pos) (eOp dMod ga gb):=qM Df (xI (λi j h=>of_decide_eq_true h) λ_ _ _=>aM) ha hb
theorem xS (ha:FE X F a ga)(hb:FE X F b gb):FT X F (.Compare a [.Lt] [b] pos) (gB (eOp dLt ga gb)):=iO Ct (dP λ_ _ _=>aG) ha hb
theorem Es (ha:FE X F a ga)(hb:FE X F b gb):FT X F (.Compare a [.GtE] [b] pos) (gB (eOp dGe ga gb)):=iO Ep (dP λ_ _ _=>aG) ha hb
theorem af (hK:X.K=F.K)(ha:FE X F a ga)(hb:FE X F b gb)(hs:PlainIx b:=by intro _ _;rfl):FE X F (.Subscript a b pos) (eOp dIx ga gb):=Er xD (by rw[hK];exact xJ) ha hb hs
theorem AO:OpR X (binaryOp .Add) (λx y H Q=>rI0 (λi j=>.int (i+j)) x y H Q\/(rCat2 X.K x y H Q\/∃ a b xs ys,x=.ref a/\y=.ref b/\SqL X.K H a xs/\SqL X.K H b ys/\xs.length+ys.length<=sizeLine/\∀ p,H p=none->Q (.ref p) (upd H p (.lst (xs++ys))))) :=
 Db.or (AI.or xM)
theorem ax (hK:X.K=F.K)(ha:FE X F a ga)(hb:FE X F b gb):FE X F (.BinOp a .Add b pos) (eOp dAdd ga gb) :=
 qM AO (by rw[hK];exact OpD.or (λx _=>isInt x) (dP λ_ _ _=>aM) (OpD.or (λx _=>isTup x) xK xL)) ha hb
theorem Et:OpR X (binaryOp .Mult) (λx y H Q=>∃ a v,x=.ref a/\y=.int 4/\SqT X.K H a [v]/\∀ p,H p=none->Q (.ref p) (upd H p (.tup [v,v,v,v]))):=by
 intro am s σ H x y v u Q I rx ry ⟨a,z,ex,ey,ha,q⟩;subst ex ey;cases rx;obtain⟨t,rfl⟩:=ry;obtain⟨its,r,p1,_⟩:=I.tuple ha;obtain _ | ⟨b,r⟩:=r
 cases r;obtain⟨⟨cls,dd,data,sl⟩,ho,hc,n,hd⟩:=id p1;simp only at hc hd;subst hc hd;exact Jm (by decide) ⟨_,ho,rfl⟩ (λs'=>Jl s' 4 t) jT JS HK pF JJ.lookup
  (Hy HK (Jl s 4 t) JK (Jz _ _) (lE 4 t a _ n dd sl) ⟨ho,rfl,⟨_,ho,rfl⟩,
   Hy PySem.F.slot_tuple_mul ⟨_,ho,rfl⟩ PySem.F.entry_tuple_mul (PySem.F.args_tuple_mul_2 _ _) (ni a _ n 4 t dd sl (by decide) (by decide) (by rw[Go];exact Gk rfl) rfl)
    ⟨ho,.ref s.heap.objs.size,_,I.laid (o:=.tup [z,z,z,z]) (λb ob q=>F4 _ q) (F7 _) ⟨by rw[Go];exact Gk rfl,_,.cons b (.cons b (.cons b (.cons b .nil))),TupO.new _ _⟩,rfl,q _ I.fresh⟩⟩)
theorem Eu:OpR X (binaryOp .Mult) (λx y H Q=>∃ a k v,x=.ref a/\y=.int k/\(k=0\/k=1)/\SqL X.K H a [v]/\∀ p,H p=none->Q (.ref p) (upd H p (.lst (if k=0 then [] else [v])))):=by
 intro am s σ H x y v u Q I rx ry ⟨a,k,z,ex,ey,hk,ha,q⟩;subst ex ey;cases rx;obtain⟨t,rfl⟩:=ry;obtain⟨its,r,⟨⟨cls,dd,data,sl⟩,n,e,c1,c2,c3⟩,_⟩:=I.list ha;obtain _ | ⟨b,r⟩:=r
 cases r;simp only at c1 c3;subst c1 c3;have hs:=Go;refine Jm (by decide) ⟨_,e,rfl⟩ (λs'=>Jl s' k t) noFill_list_mul JS HK repeat_list JJ.lookup
  (Hy HK (Jl s k t) JK (Jz _ _) (nj k t a _ n dd sl) ⟨e,rfl,⟨_,e,rfl⟩,
   Hy PySem.F.slot_list_mul ⟨_,e,rfl⟩ PySem.F.entry_list_mul (PySem.F.args_list_mul_2 _ _) (vU a _ n k t dd sl (by omega) (by omega) (by rw[F9];simp only[JT];omega)) ⟨e,?_⟩⟩)
 obtain rfl | rfl:=hk
 ·exact⟨.ref _,_,I.lnew .nil (GQ _),rfl,q _ I.fresh⟩
 ·exact⟨.ref _,_,I.lnew (.cons b .nil) (by rw[hs];exact Gk rfl),rfl,q _ I.fresh⟩
theorem dg (hK:X.K=F.K)(ha:FE X F a ga)(hb:FE X F b gb):FE X F (.BinOp a .Mult b pos) (eOp dMul ga gb) :=
 qM (De.or (Et.or Eu)) (by
  rw[hK];refine OpD.or (λx _=>isInt x) (xI AG λ_ _ _=>aM) (OpD.or (λx _=>isTup x) ?_ ?_)<;>intro H Z x y dx dy Q s rx ry w
  ·unfold dM4 at w;split at w
   ·rw[Rep]at rx;rw[Rep]at ry;obtain⟨a,vs,rfl,h1,h2⟩:=rx;obtain⟨v,rfl,h3⟩:=aN h2;exact⟨a,v,rfl,ry,h1.mono s,λp hp=>w _ _ (Ex.alloc s hp) _ (by
     have h:=h3.mono (ar (o:=.tup [v,v,v,v]) (s.free hp));rw[Rep];exact⟨p,_,rfl,SqT.of ah,Reps.cons h (Reps.cons h (Reps.cons h (Reps.cons h Reps.nil)))⟩)⟩
   ·exact w.elim
  ·unfold dM1 at w;split at w
   ·rename_i d k;rw[Rep]at rx;rw[Rep]at ry;obtain⟨a,vs,rfl,h1,h2⟩:=rx;obtain⟨v,rfl,h3⟩:=aN h2;have hk:k=0\/k=1:=by
     split at w
     ·omega
     ·split at w
      ·omega
      ·exact w.elim
    refine⟨a,k,v,rfl,ry,hk,s.seq h1,λp hp=>?_⟩;have h:=h3.mono (ar (o:=.lst (if k=0 then [] else [v])) (s.free hp));obtain rfl | rfl:=hk
    ·exact w _ _ (Ex.alloc s hp) _ (by rw[Rep];exact⟨p,_,rfl,SqL.of ah,Reps.nil⟩)
    ·exact w _ _ (Ex.alloc s hp) _ (by rw[Rep];exact⟨p,_,rfl,SqL.of ah,Reps.cons h Reps.nil⟩)
   ·exact w.elim) ha hb
end
def dEq (x y:D):R D:=if good 60 x=true/\good 60 y=true then .ok (.bl (eqD x y)) else .stuck
def rEqD (K:Frag)(C:La):R2:=λx y H Q=>∃ Z d e,Same Z H/\Rep K C Z d x/\Rep K C Z e y/\good 60 d=true/\good 60 e=true/\Q (.bl (eqD d e)) H
section
variable {a:Expr}{ga gb gc:KZ}
theorem Dw (hK:X.K=F.K)(hr:Room k X.A):OpR X (compareOp .Eq) (rEqD F.K F.C):=by
 intro am s σ H x y v u Q I rx ry h;obtain⟨Z,d,e,z,h1,h2,g1,g2,q⟩:=h;have hu:X.A.units+60 < cLine:=by have:=hr.un;omega
 exact(eqB hK I z 60 X.A d e x y v u g1 g2 h1 h2 rx ry hu).2.1 X.prog X.w X.xe _ ⟨.bl (eqD d e),H,I,rfl,q⟩
theorem Dx:OpD F (rEqD F.K F.C) dEq:=by
 intro H Z x y dx dy Q s rx ry w;unfold dEq at w;split at w
 ·rename_i g;exact⟨Z,dx,dy,s,rx,ry,g.1,g.2,WG.now w s _ aG⟩
 ·exact w.elim
theorem bZ (bx:BX X F k)(ha:FE X F a ga)(hb:FE X F b gb):FT X F (.Compare a [.Eq] [b] pos) (gB (eOp dEq ga gb)):=iO (Dw bx.K bx.room) Dx ha hb
end
def eChain (f f':Lf)(ga gb gc:KZ):KZ:=λS=>(ga S).bind λx=>(gb S).bind λy=>(asB (f x y)).bind λk=>if k=true then (gc S).bind λw=>f' y w else .ok (.bl false)
section
variable {a:Expr}{ga gb gc:KZ}{r r':R2}{f f':Lf}{op op':CmpOp}
theorem oB (hd:OpD F r f)(hd':OpD F r' f'):∀ σ H Q,tE F (eChain f f' ga gb gc) σ H Q->tChain r r' (tE F ga) (tE F gb) (tE F gc) σ H Q:=λσ H Q ⟨Z,S,ok,w⟩ =>
 ak ok w λdx x H1 Z1 ok1 x1 rx w1=>ak ok1 w1 λdy y H2 Z2 ok2 x2 ry w2=>hd H2 Z2 x y dx dy _ ok2.sub (rx.mono x2.z) ry (by
  cases e:f dx dy with
  | err k=>rw[e]at w2;exact w2
  | stuck=>rw[e]at w2;exact w2
  | ok d =>
   rw[e]at w2;intro H3 Z3 x3 v rv;cases d with
   | bl k =>
    rw[Rep]at rv;subst rv;have w3:=WG.more w2 x3;refine⟨k,rfl,?_⟩;have ok3:=ok2.more x3;cases k with
    | false=>exact WG.now w3 ok3.sub _ aG
    | true=>exact ak ok3 w3 λdw wv H4 Z4 ok4 x4 rw' w4=>hd' H4 Z4 y wv dy dw Q ok4.sub (ry.mono (x3.z.trans x4.z)) rw' w4
   | _=>exact w2.elim)
theorem xT (ho:OpR X (compareOp op) r)(ho':OpR X (compareOp op') r')(hd:OpD F r f)(hd':OpD F r' f')(ha:FE X F a ga)(hb:FE X F b gb)(hc:FE X F c gc)(hm:lastMarks [op,op'] [b,c]=false:=by with_unfolding_all rfl) :
  FE X F (.Compare a [op,op'] [b,c] pos) (eChain f f' ga gb gc):=(xr ho ho' ha hb hc hm).weak (oB hd hd')
theorem qS (ho:OpR X (compareOp op) r)(ho':OpR X (compareOp op') r')(hd:OpD F r f)(hd':OpD F r' f')(ha:FE X F a ga)(hb:FE X F b gb)(hc:FE X F c gc)(hm:lastMarks [op,op'] [b,c]=false:=by with_unfolding_all rfl) :
  FT X F (.Compare a [op,op'] [b,c] pos) (gB (eChain f f' ga gb gc)):=(xt ho ho' ha hb hc hm).weak (uu (oB hd hd'))
theorem uy (ha:FE X F a ga)(hb:FE X F b gb)(hc:FE X F c gc)(hm:lastMarks [.LtE,.LtE] [b,c]=false:=by with_unfolding_all rfl):FE X F (.Compare a [.LtE,.LtE] [b,c] pos) (eChain dLe dLe ga gb gc):=xT qH qH (dP λ_ _ _=>aG) (dP λ_ _ _=>aG) ha hb hc hm
theorem AQ (ha:FE X F a ga)(hb:FE X F b gb)(hc:FE X F c gc)(hm:lastMarks [.LtE,.LtE] [b,c]=false:=by with_unfolding_all rfl):FT X F (.Compare a [.LtE,.LtE] [b,c] pos) (gB (eChain dLe dLe ga gb gc)):=qS qH qH (dP λ_ _ _=>aG) (dP λ_ _ _=>aG) ha hb hc hm
theorem AR (ha:FE X F a ga)(hb:FE X F b gb)(hc:FE X F c gc)(hm:lastMarks [.LtE,.Lt] [b,c]=false:=by with_unfolding_all rfl):FT X F (.Compare a [.LtE,.Lt] [b,c] pos) (gB (eChain dLe dLt ga gb gc)):=qS qH Ct (dP λ_ _ _=>aG) (dP λ_ _ _=>aG) ha hb hc hm
end
def dIs:Lf
 | x,.non=>.ok (.bl (match x with | .non=>true | _=>false))
 | x,.bl b=>.ok (.bl (match x with | .bl a=>a==b | _=>false))
 | _,_=>.stuck
section
variable {a:Expr}{ga gb:KZ}
end
def cutD (xs:List D)(lo hi:Option Int):List D:=(xs.drop (HT.sIx xs.length 0 lo)).take (HT.sIx xs.length xs.length hi - HT.sIx xs.length 0 lo)
theorem Reps.cut {ds:List D}(r:Reps K C Z ds vs)(lo hi:Option Int):Reps K C Z (cutD ds lo hi) (cutV vs lo hi):=by
 unfold cutD cutV;rw[r.length];exact(r.drop _).take _
def dSl (d:D)(lo hi:Option Int):R D:=match d with
 | .lst xs=>.ok (.lst (cutD xs lo hi))
 | .tup xs=>if HT.sIx xs.length 0 lo=0/\HT.sIx xs.length xs.length hi=xs.length then .stuck else .ok (.tup (cutD xs lo hi))
 | _=>.stuck
def asI (d:D):R (Option Int):=match d with
 | .int i=>.ok (some i)
 | _=>.stuck
def pNo:SS->R (Option Int):=λ_=>.ok none
def pSo (g:KZ):SS->R (Option Int):=λS=>(g S).bind asI
def tP (F:Fx)(g:SS->R (Option Int)):TO:=λσ H Q=>∃ Z S,StOk F H Z S σ/\WG F H Z (g S) λo H' _=>Q o H'
section
variable {e:Expr}{lo hi:Option Expr}{g:KZ}{l h:SS->R (Option Int)}{p2:Pos}
theorem Ev:PO X none (tP F pNo):=λam s σ H Q I ⟨Z,S,ok,w⟩=>Ay am s σ H Q I (WG.now w ok.sub)
theorem Ew (he:FE X F e g):PO X (some e) (tP F (pSo g)):=λam s σ H Q I ⟨Z,S,ok,w⟩=>Az he am s σ H Q I (ak ok w λd v H1 Z1 ok1 x1 rv w1=>by
 cases d with
 | int i=>rw[Rep]at rv;exact⟨i,rv,WG.now w1 ok1.sub⟩
 | _=>exact w1.elim)
theorem uz {α:Type}{k:Option Int->R α}{P:α->Hp->Lh}{Q:Option Int->Lh}(ok:StOk F H Z S σ)(w:WG F H Z ((l S).bind k) P)
  (h:∀ o H1 Z1,StOk F H1 Z1 S σ->Ex H Z H1 Z1->WG F H1 Z1 (k o) P->Q o H1):tP F l σ H Q:=by
 refine⟨Z,S,ok,?_⟩;cases e:l S with
 | ok d =>
  rw[e]at w;intro H1 Z1 x;exact h d H1 Z1 (ok.more x) x (WG.more w x)
 | err k=>rw[e]at w;exact w
 | stuck=>rw[e]at w;exact w
end
def CallD (F:Fx)(r:Lc)(f:KS):Prop:=∀ (H Z:Hp) (xs:List V) (ds:List D) (Q:VK),Same Z H->Reps F.K F.C Z ds xs->WG F H Z (f ds) (λd H' Z'=>∀ v,Rep F.K F.C Z' d v->Q v H')->r xs H Q
section
variable {x:Str}{p:Pos}{e:Expr}{es:Lp}{gs:KY}{id T:String}{r:Lc}{f:KS}
theorem xU (hd:CallD F r f):∀ σ H Q,tE F (eCall f gs) σ H Q->tCB r (tAl F gs) σ H Q:=λσ H Q ⟨Z,S,ok,w⟩=>aS ok w λds vs H1 Z1 ok1 x1 rs w1=>hd H1 Z1 vs ds Q ok1.sub rs w1
theorem gp (hc:CallR X (.builtin id) r)(hd:CallD F r f)(hg:Gl X x)(hm:X.mg x=none)(hv:bootBuiltins x=some (.builtin id))(ha:FA X F (e::es) gs)(hn:x ≠ "__name__" := by decide)(K6:KH x:=by decide)
  (he:Id X e es:=by rfl) (hpl:IO X pos es:=by rfl):FE X F (.Call (.Name x p) (e::es) [] pos) (eCall f gs):=(f9 hc hg hm hv ha hn K6 he hpl).weak (xU hd)
theorem jX (hc:CallR X (.type T) r)(hd:CallD F r f)(hg:Gl X x)(hm:X.mg x=none)(hv:bootBuiltins x=some (.type T))(ha:FA X F (e::es) gs)(hn:x ≠ "__name__" := by decide)(K6:KH x:=by decide)
  (he:Id X e es:=by rfl) (hpl:IO X pos es:=by rfl):FE X F (.Call (.Name x p) (e::es) [] pos) (eCall f gs):=(gY hc hg hm hv ha hn K6 he hpl).weak (xU hd)
end
theorem v4 :CallD F (λxs H Q=>∃ p ys,xs=[.ref p]/\(SqL F.K H p ys\/SqT F.K H p ys)/\Q (.int ys.length) H) dLen:=by
 intro H Z xs ds Q s rs w;unfold dLen at w;split at w
 ·obtain⟨v,rfl,h⟩:=aN rs;rw[Rep]at h;obtain⟨a,vs,rfl,h1,h2⟩:=h;exact⟨a,vs,rfl,.inl (s.seq h1),by rw[<- h2.length];exact WG.now w s _ aM⟩
 ·obtain⟨v,rfl,h⟩:=aN rs;rw[Rep]at h;obtain⟨a,vs,rfl,h1,h2⟩:=h;exact⟨a,vs,rfl,.inr (h1.mono s),by rw[<- h2.length];exact WG.now w s _ aM⟩
 ·exact w.elim
def dMax2:KS
 | [.int i,.int j]=>.ok (.int (if j > i then j else i))
 | _=>.stuck
theorem sQ :CallD F (λxs H Q=>∃ i j,xs=[.int i,.int j]/\Q (.int (if j > i then j else i)) H) dMax2:=by
 intro H Z xs ds Q s rs w;unfold dMax2 at w;split at w
 ·exact⟨_,_,qP rs,WG.now w s _ aM⟩
 ·exact w.elim
def dTuple:KS
 | [.lst xs]=>.ok (.tup xs)
 | [.tup xs]=>.ok (.tup xs)
 | _=>.stuck
theorem qT :CallD F (λxs H Q=>∃ p ys,xs=[.ref p]/\((SqL F.K H p ys/\∀ l,H l=none->Q (.ref l) (upd H l (.tup ys)))\/(SqT F.K H p ys/\Q (.ref p) H))) dTuple:=by
 intro H Z xs ds Q s rs w;unfold dTuple at w;split at w
 ·obtain⟨v,rfl,h⟩:=aN rs;rw[Rep]at h;obtain⟨a,vs,rfl,h1,h2⟩:=h;refine⟨a,vs,rfl,.inl ⟨s.seq h1,λp hp=>?_⟩⟩;have z:Same Z (upd Z p (.tup vs)):=ar (s.free hp);exact w _ _ (Ex.alloc s hp) _ (by rw[Rep];exact⟨p,_,rfl,SqT.of ah,h2.mono z⟩)
 ·obtain⟨v,rfl,h⟩:=aN rs;have hh:=h;rw[Rep]at h;obtain⟨a,vs,rfl,h1,h2⟩:=h;exact⟨a,vs,rfl,.inr ⟨h1.mono s,WG.now w s _ hh⟩⟩
 ·exact w.elim
def boolsD:List D->Option (List Bool)
 | []=>some []
 | .bl b::r=>(boolsD r).map (b::·)
 | _::_=>none
theorem fj {K:Frag}{C:La}{Z:Hp}:∀ {ds:List D} {vs:List V} {bs:List Bool},Reps K C Z ds vs->boolsD ds=some bs->vs=bs.map V.bl
 | [],vs,bs,r,e=>by rw[Reps]at r;cases e;exact r
 | d::ds,vs,bs,r,e=>by
  rw[Reps]at r;obtain⟨v,r',rfl,h1,h2⟩:=r;cases d with
  | bl b =>
   rw[boolsD]at e;cases q:boolsD ds with
   | none=>rw[q]at e;cases e
   | some bs' =>
    rw[q]at e;cases e;rw[Rep]at h1;rw[h1,fj h2 q];rfl
  | _=>simp[boolsD]at e
def dAll:KS
 | [.lst xs]=>match boolsD xs with
  | some bs=>.ok (.bl (bs.all id))
  | none=>.stuck
 | _=>.stuck
theorem fk:∀ {bs:List Bool} {us:List Value},Vals (bs.map V.bl) us->us=bs.map Value.bool
 | [],us,h=>by rw[Hd]at h;cases h;rfl
 | b::bs,us,h=>by
  rw[F5]at h;cases h with
  | cons r t =>
   have r':=r;rw[r',fk t];rfl
theorem lL (hc:X.calm=true):CallR X (.builtin "all") (λxs H Q=>∃ (p:Addr) (bs:List Bool),xs=[.ref p]/\SqL X.K H p (bs.map V.bl)/\Q (.bl (bs.all id)) H):=by
 intro am s σ H xs us Q I r h;obtain⟨p,bs,rfl,hq,q⟩:=h;obtain⟨u,rfl,ru⟩:=vals1 r;cases ru;obtain⟨its,rv,pl,hz⟩:=I.list hq;have e:=fk rv;subst e;have K4:p < s.heap.objs.size:=by obtain⟨o,_,ho,_⟩:=pl;exact F8 ho
 refine call_all_walk (Jg pl.isList ⟨s.heap.objs.size,_,_,_,_,_,λi=>bs.getD i false,rfl,Walks.list (show X.A.in1.handled=none from I.ok.hd hc) s.heap.objs.size p (Gf K4) (bs.map Value.bool).toArray,⟨⟨_,Ge _ rfl,rfl,rfl⟩,?_⟩,?_,λh' tk hk=>?_⟩)
 ·obtain⟨o,ho,h2,n,h3⟩:=pl.isList;exact⟨o,F4 _ ho,h2,n,h3⟩
 ·intro i v s' Q' E' hp hq';have hp':bs[i]?.map Value.bool=some v:=by simpa using hp
  cases e:bs[i]? with
  | none=>rw[e]at hp';cases hp'
  | some b =>
   rw[e]at hp';cases hp';refine Ha ?_;have:bs.getD i false=b:=by simp[List.getD,e]
   have hq2:Q' (bs.getD i false) s':=hq';rw[this]at hq2;exact hq2
 ·have Ku:(List.range (bs.map Value.bool).toArray.size).all (λi=>bs.getD i false)=bs.all id:=by
   rw[F9,Gg];rw[JE,He,He];constructor
   ·intro h b hb;obtain⟨i,hi,rfl⟩:=List.mem_iff_getElem.mp hb;have:=h i (JM.mpr hi)
    simpa [List.getD,hi] using this
   ·intro h i hi;have hi':=JM.mp hi;have:=h bs[i] (List.getElem_mem hi')
    simpa [List.getD,hi'] using this
  rw[Ku];exact⟨.bl (bs.all id),H,I.kept λb o e=>hk b o (by simp;exact Gf (F8 e)) (F4 _ e),rfl,q⟩
theorem v5 :CallD F (λxs H Q=>∃ (p:Addr) (bs:List Bool),xs=[.ref p]/\SqL F.K H p (bs.map V.bl)/\Q (.bl (bs.all id)) H) dAll:=by
 intro H Z xs ds Q s rs w;unfold dAll at w;split at w
 ·split at w
  ·rename_i bs e;obtain⟨v,rfl,h⟩:=aN rs;rw[Rep]at h;obtain⟨a,vs,rfl,h1,h2⟩:=h;have e2:=fj h2 e;subst e2;exact⟨a,bs,rfl,s.seq h1,WG.now w s _ aG⟩
  ·exact w.elim
 ·exact w.elim
section
variable {p:Pos}{e:Expr}{es:Lp}{gs:KY}
theorem iR (bx:BX X F k)(hg:Gl X "len")(hm:X.mg "len"=none)(ha:FA X F [e] gs)(he:Id X e []:=by rfl)(hpl:IO X pos []:=by rfl):FE X F (.Call (.Name "len" p) [e] [] pos) (eCall dLen gs) :=
 gp (by have:=pD (X:=X);rw[bx.K]at this;exact this) v4 hg hm PySem.boot_len ha (he:=he)
theorem AS {e2:Expr}(bx:BX X F k)(hg:Gl X "max")(hm:X.mg "max"=none)(ha:FA X F [e,e2] gs)(he:Id X e [e2]:=by rfl)(hpl:IO X pos [e2]:=by rfl) :
  FE X F (.Call (.Name "max" p) [e,e2] [] pos) (eCall dMax2 gs):=gp (vJ bx.calm) sQ hg hm (by decide +kernel) ha (he:=he) (hpl:=hpl)
theorem i8 (bx:BX X F k)(hg:Gl X "tuple")(hm:X.mg "tuple"=none)(ha:FA X F [e] gs)(he:Id X e []:=by rfl)(hpl:IO X pos []:=by rfl):FE X F (.Call (.Name "tuple" p) [e] [] pos) (eCall dTuple gs) :=
 jX (by have:=nh (X:=X);rw[bx.K]at this;exact this) qT hg hm (by decide +kernel) ha (he:=he)
theorem xV (bx:BX X F k)(hg:Gl X "all")(hm:X.mg "all"=none)(ha:FA X F [e] gs)(he:Id X e []:=by rfl)(hpl:IO X pos []:=by rfl):FE X F (.Call (.Name "all" p) [e] [] pos) (eCall dAll gs) :=
 gp (by have:=lL bx.calm;rw[bx.K]at this;exact this) v5 hg hm (by decide +kernel) ha (he:=he)
end
end FF
end
noncomputable section
namespace FF
open PySem PySem.Spec PySem.Calls PyProof.Rows PySem.W
variable {M:Model}{tk:Tok}
def ExcAt (a C:Addr)(h:Heap):Prop:=∃ o,h.get? a=some o/\o.cls=.ref C/\∃ vs,o.data=.fields vs
structure ExcK (K:Frag)(C:Addr):Prop where
 ga:findIn K (.ref C) "__getattribute__"=some (some (.builtin "BaseException.__getattribute__"))
 gt:findIn K (.ref C) "__getattr__"=some none
 cl:findIn K (.ref C) "__class__"=some (some (.builtin "object.__class__"))
 be:subIn K (.ref C) (.type "BaseException")=some true
 ob:subIn K (.ref C) (.type "object")=some true
 ty:(clsIn K C).isSome=true
section
variable {prog:Program}{w:World}{A:Around}{E:KU}{h:Heap}{g:Array GenState}{d:Drawn}{t:Nat}{os:OsState}{a C:Addr}{K:Frag}{o:Obj}{vs:Array Value}
theorem sR (p:ExcAt a C h):Looks M h (typeOf (.ref a)) (.ref C):=by
 obtain⟨o,h1,h2,h3⟩:=p;exact h2 ▸ (Looks.ld h1).andThen .now
theorem sS (X:K.In h)(k:ExcK K C):Looks M h (isType (.ref C)) true:=by
 have z:=k.ty;unfold clsIn at z;split at z
 ·rename_i c' d' cd' sl' ho;intro A' Q' E' s' kk q;unfold isType loadHead;exact F3 (wpAny_loadPart (kk _ _ (X _ _ ho)) (F6 q))
 ·cases z
theorem nq {R:Result->Lg}(X:K.In h)(k:ExcK K C)(hx:h.get? a=some o)(hc:o.cls=.ref C)(hq:R (.ok (.ret (.ref C))) ⟨h,g,d,t,os⟩) :
  codeAny (model prog w) A (.call (.builtin "getset_descriptor.__get__") ⟨[.builtin "object.__class__",.ref a,.ref C],[]⟩) R ⟨h,g,d,t,os⟩:=by
 have hT5:=JV;have L8:Looks (model prog w) h (isSubtype (.ref C) (.type (".".intercalate ("object.__class__".cutAt '.').dropLast))) true:=by
  rw[F.owner_object_class];exact looks_subIn X k.ob
 refine codeAny_call_builtin Kb.plain F.entry_gs_get (Kb.check _ _ _ _ _ _ _ _ hT5 (F.args_gs_get _ _ _) ?_)
 repeat (any_goals (first | assumption | (with_reducible refine Hj hx ?_;rw[hc]) | (with_reducible refine L8.at ?_) | wp_step))
 refine⟨Code.quiet_builtin _ (by simp),Hh F.entry_object_class ?_⟩
 repeat (any_goals (first | assumption | (with_reducible refine Hj hx ?_;rw[hc]) | wp_step))
theorem kW {Q:Fin->Lg}(X:K.In h)(k:ExcK K C)(hx:h.get? a=some o)(hc:o.cls=.ref C)(hq:Q (.done (.ret (.ref C))) ⟨h,g,d,t,os⟩) :
  wpAny (model prog w) A (Builtin.«object.__getattribute__» ⟨[.ref a,.str "__class__" tk],[]⟩) Q E ⟨h,g,d,t,os⟩:=by
 have f5:=JV;have f6:=Kb.lookup;have f7:=F.slot_gs_set.lookup;have L4:Looks (model prog w) h (typeLookup (.ref C) "__class__") _:=Kg X k.cl
 repeat (any_goals (first | assumption | (with_reducible refine Hj hx ?_;rw[hc]) | (with_reducible refine L4.at ?_) | wp_step))
 refine nq X k hx hc ?_
 repeat (any_goals (first | assumption | wp_step))
theorem v6 {nameV:Value}{Q:Unit->Lg}(X:K.In h)(k:ExcK K C)(hx:h.get? a=some o)(hc:o.cls=.ref C)(hq:Q () ⟨h,g,d,t,os⟩):wpAny M A (checkBuiltinCall "BaseException.__getattribute__" ⟨[.ref a,nameV],[]⟩) Q E ⟨h,g,d,t,os⟩:=by
 have hk:builtinKind "BaseException.__getattribute__"=some .slot:=by decide +kernel
 have hsplit:splitId "BaseException.__getattribute__"=some ("BaseException","__getattribute__"):=by decide +kernel
 have L8:Looks M h (isSubtype (.ref C) (.type "BaseException")) true:=looks_subIn X k.be;have ha:=F.args_bexc_ga (.ref a) nameV;simp only[checkBuiltinCall,hk,hsplit];refine F3 ?_
 ·unfold isInstance
  repeat (first | (with_reducible refine Hj hx ?_;rw[hc]) | (with_reducible refine L8.at ?_) | wp_step)
  exact hq
theorem lM {R:Result->Lg}(X:K.In h)(k:ExcK K C)(hx:h.get? a=some o)(hc:o.cls=.ref C)(hq:R (.ok (.ret (.ref C))) ⟨h,g,d,t,os⟩) :
  codeAny (model prog w) A (.call (.builtin "BaseException.__getattribute__") ⟨[.ref a,.str "__class__" tk],[]⟩) R ⟨h,g,d,t,os⟩ :=
 codeAny_call_builtin F.attr_ValueError.ga.plain F.entry_bexc_ga (v6 X k hx hc (kW X k hx hc hq))
theorem pO {Q:KU}(X:K.In h)(k:ExcK K C)(hx:h.get? a=some o)(hc:o.cls=.ref C)(hq:Q (.ref C) ⟨h,g,d,t,os⟩) :
  wpAny (model prog w) A (getAttrBy (.ref a) (.str "__class__" tk) false) Q E ⟨h,g,d,t,os⟩:=by
 have f3:=F.attr_ValueError.ga.bind (.ref a);have L1:Looks (model prog w) h (typeLookup (.ref C) "__getattribute__") _:=Kg X k.ga;have L2:Looks (model prog w) h (typeLookup (.ref C) "__getattr__") _:=Kg X k.gt;have hx2:(Value.builtin "BaseException.__getattribute__" == Value.builtin "object.__getattribute__")=false:=by decide +kernel
 have hx1:(onTheHeap (Value.ref C)&&Value.builtin "BaseException.__getattribute__" == Value.builtin "object.__getattribute__")=false:=by rw[hx2];rfl
 repeat (any_goals (first | assumption | (with_reducible refine Hj hx ?_;rw[hc]) | (with_reducible refine L1.at ?_) | (with_reducible refine L2.at ?_) | wp_step))
 refine lM X k hx hc ?_
 repeat (any_goals (first | assumption | wp_step))
theorem lN {Q:Option Value->Lg}(X:K.In h)(k:ExcK K C)(hx:h.get? a=some o)(hc:o.cls=.ref C)(hq:Q (some (.ref C)) ⟨h,g,d,t+1,os⟩) :
  wpAny (model prog w) A (getAttr? (.ref a) "__class__") Q E ⟨h,g,d,t,os⟩:=by
 unfold getAttr? getAttrBy?
 repeat (any_goals (first | assumption | with_reducible apply pO X k hx hc | wp_step))
end
end FF
end
noncomputable section
namespace FF
open PySem PySem.Spec PyProof.Rows L2
variable {X:Cx}{K:Frag}{C:La}{pos IR IY np:Pos}{k:Nat}{e:Expr}{g:KZ}{gs:KY}{x:Str}{σ:St}{H:Hp}{a C0:Addr}{es:Lp}{am:Ll}{h:Heap}{M:Model}{E:KU}{q:Nat->Bool}
theorem xW {C:Addr}(k:ExcK K C):PySem.W.KitX K (.ref a) (.ref C) (ExcAt a C) where
 ty:=λ_ _ _ p=>sR p
 it:=λ_ _ X _=>sS X k
 ne:=λh tp dd its n sl X htp=>by
  refine Bool.eq_false_iff.mpr λq=>?_
  have e:C=tp:=Value.ref.inj (Hl.mp q);subst e;have z:=k.ty;unfold PySem.W.clsIn at z;split at z
  ·rename_i c' d' cd' sl' ho;have z:=(X _ _ ho).symm.trans htp;cases z
  ·cases z
 ca:=λ{_ _ _ _ _ s} X p h=>by
  obtain⟨hh,g,d,t,os⟩:=s;obtain⟨o,h1,h2,_⟩:=p;exact lN X k h1 h2 h
def tyD (C:La):D->Value
 | .non=>.type "NoneType"
 | .bl _=>.type "bool"
 | .int _=>.type "int"
 | .str _=>.type "str"
 | .tup _=>.type "tuple"
 | .lst _=>.type "list"
 | .exc k=>.ref (C k)
 | .fn _=>.none
 | .tab _ _=>.none
 | .dic _ _=>.none
 | .ptr _=>.none
def isDct:D->Bool
 | .tab _ _=>true
 | .dic _ _=>true
 | .ptr _=>true
 | _=>false
def cV:V->Value
 | .ty n=>.type n
 | .ref a=>.ref a
 | _=>.none
theorem kH :CallR X (.builtin "isinstance") (λxs H Q=>∃ (Z:Hp) (d:D) (x y:V) (b:Bool),xs=[x,y]/\Same Z H/\Rep X.K C Z d x/\((∃ n,y=.ty n)\/∃ a,y=.ref a) /\
  kitOne X.K (tyD C d) (cV y)=some b/\(∀ j,d=.exc j->ExcK X.K (C j))/\(∀ j,d≠.fn j)/\isDct d=false/\Q (.bl b) H):=by
 intro am s σ H xs us Q I r h;obtain⟨Z,d,x,y,b,rfl,sm,rp,hy,e,he,hf,hdc,q⟩:=h;obtain⟨u,c,rfl,ru,rc⟩:=vals2 r;have hc:c=cV y:=by
  rcases hy with ⟨n,rfl⟩ | ⟨a,rfl⟩<;>exact rc
 subst hc;have fin:∀ tk,EP X am σ Q (.bool b) { s with toks:=tk }:=λtk=>⟨.bl b,H,I.tok tk,rfl,q⟩
 cases d with
 | non=>rw[Rep]at rp;subst rp;cases (show u=Value.none from ru);exact kia_one PySem.W.kitx_none I.kIn Gw e (λz=>nomatch z) fin
 | bl k=>rw[Rep]at rp;subst rp;cases (show u=Value.bool k from ru);exact kia_one PySem.W.kitx_bool I.kIn Gw e (λz=>nomatch z) fin
 | int i=>rw[Rep]at rp;subst rp;obtain⟨t,rfl⟩:=(show ∃ t,u=Value.int i t from ru);exact kia_one PySem.W.kitx_int I.kIn Gw e (λz=>nomatch z) fin
 | str i=>rw[Rep]at rp;subst rp;obtain⟨t,rfl⟩:=(show ∃ t,u=Value.str i t from ru);exact kia_one PySem.W.kitx_str I.kIn Gw e (λz=>nomatch z) fin
 | tup ds =>
  rw[Rep]at rp;obtain⟨a,vs,rfl,h1,h2⟩:=rp;cases (show u=Value.ref a from ru);obtain⟨its,_,⟨o,p1,p2,_⟩,_⟩:=I.tuple (h1.mono sm);exact kia_one PySem.W.kitx_tuple I.kIn ⟨o,p1,p2⟩ e (λz=>nomatch z) fin
 | lst ds =>
  rw[Rep]at rp;obtain⟨a,vs,rfl,h1,h2⟩:=rp;cases (show u=Value.ref a from ru);obtain⟨its,_,⟨o,n,p1,p2,_⟩,_⟩:=I.list (sm.seq h1);exact kia_one PySem.W.kitx_list I.kIn ⟨o,p1,p2⟩ e (λz=>nomatch z) fin
 | fn k=>exact absurd rfl (hf k)
 | tab _ _=>cases hdc
 | dic _ _=>cases hdc
 | ptr _=>cases hdc
 | exc k =>
  rw[Rep]at rp;obtain⟨a,rfl,h1⟩:=rp;cases (show u=Value.ref a from ru);obtain⟨o,h2,h3,h5⟩:=(show ObjOk X.prog X.w H s.heap a (excO C k a) from I.hok a _ (sm a _ h1)).1;exact kia_one (xW (he k rfl)) I.kIn ⟨o,h2,h3,h5⟩ e (λz=>nomatch z) fin
abbrev Lk:=D->Option Bool
def dIsA (q:Lk)(d:D):R D:=match q d with
 | some b=>.ok (.bl b)
 | none=>.stuck
def eIs (q:Lk)(g:KZ):KZ:=λS=>(g S).bind (dIsA q)
structure IsA (K:Frag)(C:La)(y:V)(q:Lk):Prop where
 one:(∃ n,y=.ty n)\/∃ a,y=.ref a
 ans:∀ d b,q d=some b->kitOne K (tyD C d) (cV y)=some b
 exc:∀ j b,q (.exc j)=some b->ExcK K (C j)
 fn:∀ j,q (.fn j)=none
 dct:∀ d,isDct d=true->q d=none
section
variable {F:Fx}{p:Pos}{ec:Expr}{y:V}{q:Lk}
theorem Dy (bx:BX X F k)(hq:IsA F.K F.C y q):∀ σ H Q,tE F (eIs q g) σ H Q->tCB (λxs H Q=>∃ (Z:Hp) (d:D) (x y:V) (b:Bool),xs=[x,y]/\Same Z H/\Rep X.K F.C Z d x/\((∃ n,y=.ty n)\/∃ a,y=.ref a) /\
  kitOne X.K (tyD F.C d) (cV y)=some b/\(∀ j,d=.exc j->ExcK X.K (F.C j))/\(∀ j,d≠.fn j)/\isDct d=false/\Q (.bl b) H) (tCons (tE F g) (tCons (tC y) tNil)) σ H Q:=λσ H Q ⟨Z,S,ok,w⟩ =>
 ak ok w λd v H1 Z1 ok1 x1 rv w1=>by
  cases e:q d with
  | none=>unfold dIsA at w1;rw[e]at w1;exact w1.elim
  | some b =>
   unfold dIsA at w1;rw[e]at w1;refine⟨Z1,d,v,y,b,rfl,ok1.sub,by rw[bx.K];exact rv,hq.one,by rw[bx.K];exact hq.ans d b e,λj ej=>?_,λj ej=>(by rw[ej,hq.fn j]at e;cases e),(by cases hd:isDct d with | false=>rfl | true=>rw[hq.dct d hd]at e;cases e),WG.now w1 ok1.sub _ aG⟩;subst ej;rw[bx.K];exact hq.exc j b e
theorem aC (bx:BX X F k)(hg:Gl X "isinstance")(hm:X.mg "isinstance"=none)(hq:IsA F.K F.C y q)(ha:FE X F e g)(hc:PE X ec (tC y))(he:Id X e [ec]:=by rfl)
  (he2:Id X ec []:=by rfl) (hpl:IO X pos [ec]:=by rfl) :
  FE X F (.Call (.Name "isinstance" p) [e,ec] [] pos) (eIs q g) :=
 (f9 kH hg hm (by decide +kernel) (cj ha (cj hc iM he2) he) (he:=he) (hpl:=hpl)).weak (Dy bx hq)
end
def qTup:Lk
 | .tup _=>some true
 | .exc _=>none
 | .fn _=>none
 | .tab _ _=>none
 | .dic _ _=>none
 | .ptr _=>none
 | _=>some false
def qInt:Lk
 | .int _=>some true
 | .bl _=>some true
 | .exc _=>none
 | .fn _=>none
 | .tab _ _=>none
 | .dic _ _=>none
 | .ptr _=>none
 | _=>some false
def qBool:Lk
 | .bl _=>some true
 | .exc _=>none
 | .fn _=>none
 | .tab _ _=>none
 | .dic _ _=>none
 | .ptr _=>none
 | _=>some false
def qStr:Lk
 | .str _=>some true
 | .exc _=>none
 | .fn _=>none
 | .tab _ _=>none
 | .dic _ _=>none
 | .ptr _=>none
 | _=>some false
theorem dF :IsA K C (.ty "tuple") qTup:=⟨.inl ⟨_,rfl⟩,λd b e=>by cases d<;>cases e<;>with_unfolding_all rfl,λj b e=>(nomatch e),λ_=>rfl,λd h=>by cases d<;>first | rfl | cases h⟩
theorem AT :IsA K C (.ty "int") qInt:=⟨.inl ⟨_,rfl⟩,λd b e=>by cases d<;>cases e<;>with_unfolding_all rfl,λj b e=>(nomatch e),λ_=>rfl,λd h=>by cases d<;>first | rfl | cases h⟩
theorem xX :IsA K C (.ty "bool") qBool:=⟨.inl ⟨_,rfl⟩,λd b e=>by cases d<;>cases e<;>with_unfolding_all rfl,λj b e=>(nomatch e),λ_=>rfl,λd h=>by cases d<;>first | rfl | cases h⟩
theorem k7 :IsA K C (.ty "str") qStr:=⟨.inl ⟨_,rfl⟩,λd b e=>by cases d<;>cases e<;>with_unfolding_all rfl,λj b e=>(nomatch e),λ_=>rfl,λd h=>by cases d<;>first | rfl | cases h⟩
def sOwn (i:Nat)(gs:KY):SS->O:=λS=>rO ((gs S).bind λds=>if ds.length<=16777216 then .ok (.nx (S.set i (some (.own ds)))) else .stuck)
def sApp (i:Nat)(gs:KY):SS->O:=λS=>match S[i]? with
 | some (some (.own ds))=>rO ((gs S).bind λes=>match es with
  | [d]=>if ds.length < 16777216 then .ok (.nx (S.set i (some (.own (ds++[d]))))) else .stuck
  | _=>.stuck)
 | _=>.stuck
def sExt (i:Nat)(gs:KY):SS->O:=λS=>match S[i]? with
 | some (some (.own ds))=>rO ((gs S).bind λes=>match es with
  | [.lst xs]=>if ds.length+xs.length<=16777216 then .ok (.nx (S.set i (some (.own (ds++xs))))) else .stuck
  | [.tup xs]=>if ds.length+xs.length<=16777216 then .ok (.nx (S.set i (some (.own (ds++xs))))) else .stuck
  | _=>.stuck)
 | _=>.stuck
def rExt (K:Frag):V->Lc:=λx vs H Q=>∃ l b xs zs,x=.ref l/\vs=[.ref b]/\H l=some (.lst xs)/\(SqL K H b zs\/SqT K H b zs)/\xs.length+zs.length<=sizeLine/\Q .non (upd H l (.lst (xs++zs)))
theorem Dz :MtR X "list.extend" (rExt X.K):=by
 intro am s σ H x vs v us Q I rx rv h;obtain⟨l,b,xs,zs,rfl,rfl,hH,hB,hz,q⟩:=h;cases rx;obtain⟨u,rfl,ru⟩:=rv.one;cases ru;obtain⟨z,its,n,r,hl,e⟩:=I.lstM hH;rcases hB with hB | hB
 ·obtain⟨Kt,r2,⟨⟨c2,d2,dt2,sl2⟩,n2,e2,p2,p3,p4⟩,z2⟩:=I.list hB;simp only at p2 p3 p4;subst p2 p3 p4;have hl2:=r2.length;have K2:its.toArray.size+Kt.toArray.size<=sizeLine:=by rw[F9,F9];omega
  refine Hy F.slot_list_extend ⟨_,e,rfl⟩ F.entry_list_extend (F.args_list_extend_2 _ _) (vV l b its.toArray Kt.toArray n n2 _ _ K2) ⟨e,e2,?_⟩;refine⟨.non,_,I.lset hH e (by simp) (r.append r2) ?_,rfl,q⟩
  grind
 ·obtain⟨Kt,r2,⟨⟨c2,d2,dt2,sl2⟩,e2,p2,n2,p3⟩,z2⟩:=I.tuple hB;simp only at p2 p3;subst p2 p3;have hl2:=r2.length;have K2:its.toArray.size+Kt.toArray.size<=sizeLine:=by rw[F9,F9];omega
  refine Hy F.slot_list_extend ⟨_,e,rfl⟩ F.entry_list_extend (F.args_list_extend_2 _ _) (vW l b its.toArray Kt.toArray n n2 _ _ K2) ⟨e,e2,?_⟩;refine⟨.non,_,I.lset hH e (by simp) (r.append r2) ?_,rfl,q⟩
  grind
section
variable {F:Fx}{p0 Kv:Pos}
theorem xY (i:Nat){Kn:Pos}(hN:X.N.Nodup)(h:FA X F es gs)(hi:X.N[i]?=some x:=by rfl)(hx:Loc X.env.scope x:=by first | exact Or.inl rfl | exact Or.inr rfl)
  (hs:swapsWith (.List es Kv) (some (.Name x Kn)) pos.line X.env=pure false:=by rfl) (hf:KJ X x:=by first | exact .inl rfl | exact .inr rfl):FS X F (.Assign [.Name x Kn] (.List es Kv) pos) (sOwn i gs) :=
 (pq hN hi hx (xz h) hs hf).weak λD σ H ⟨Z,S,ok,w⟩=>aS ok (WO.wg ok w) λds vs H1 Z1 ok1 x1 rs w1=>by
  split at w1
  ·rename_i hl;refine⟨by rw[<- rs.length,Go];exact hl,λp hp=>?_⟩;have w2:=WG.now w1 ok1.sub;exact w2 _ _ Z1 (Same.refl _) (ok1.newOwn hp rs)
  ·exact w1.elim
abbrev KI (X:Cx)(p:Pos)(e:Expr):Prop:=((backTo p (starEach [e] X.env)).all (λx=>!x.1)&&(backToKw p (keywordEach [] X.env)).all (λx=>x.1.isSome)&&decide ([e].length+([]:List Keyword).length+(if ([]:List Keyword).isEmpty then 0 else 1)<30))=true
theorem oC (i:Nat)(bK:X.K=F.K)(ha:FA X F [e] gs)(hi:X.N[i]?=some x:=by rfl)(hv:Vis X.env.scope x:=by first | exact Or.inl rfl | exact Or.inr (Or.inl rfl) | exact Or.inr (Or.inr rfl))(hd:KH x:=by decide)
  (Ks:KK x:=by decide)
  (Kx:attributeBase (.Name x p0) "extend" X.env (eval (.Name x p0) X.env)=eval (.Name x p0) X.env:=by rfl)
  (hfew:KI X IY e:=by rfl)
  (Kw:(IR.endLine==IY.line)=true:=by rfl) (hs:Id X e []:=by rfl) (K0:IO X IY []:=by rfl)
  (hsw:swapsWith (.Call (.Attribute (.Name x p0) "extend" IR) [e] [] IY) none pos.line X.env=pure false:=by rfl) :
  FS X F (.Expr (.Call (.Attribute (.Name x p0) "extend" IR) [e] [] IY) pos) (sExt i gs) :=
 (k6 (xE Il PySem.F.slot_list_extend (by kernel_rfl) (Dz) (f8 hi hv hd Ks) ha Kx hfew Kw hs K0) hsw).weak λD σ H ⟨Z,S,ok,w⟩=>by
  unfold sExt at w;split at w
  ·rename_i ds e0;obtain⟨a,vs,e1,e2,e3,e4,r⟩:=ok.own i ds e0;refine⟨.ref a,e1,.inl ⟨rfl,vs,SqL.of e2⟩,aS ok (WO.wg ok w) λes' us H1 Z1 ok1 x1 rs w1=>?_⟩;split at w1
   ·rename_i xs;split at w1
    ·rename_i hl;obtain⟨y,rfl,ry⟩:=aN rs;rw[Rep]at ry;obtain⟨b,zs,rfl,h1,h2⟩:=ry;have w2:=WG.now w1 ok1.sub;refine⟨a,b,vs,zs,rfl,rfl,x1.same _ _ e2,.inl (by rw[bK];exact ok1.sub.seq h1),by rw[<- r.length,<- h2.length,Go];exact hl,?_⟩;exact w2 σ _ Z1 (Same.refl _) (ok1.write e0 e1 ((r.mono x1.z).append h2))
    ·exact w1.elim
   ·rename_i xs;split at w1
    ·rename_i hl;obtain⟨y,rfl,ry⟩:=aN rs;rw[Rep]at ry;obtain⟨b,zs,rfl,h1,h2⟩:=ry;have w2:=WG.now w1 ok1.sub;refine⟨a,b,vs,zs,rfl,rfl,x1.same _ _ e2,.inr (by rw[bK];exact h1.mono ok1.sub),by rw[<- r.length,<- h2.length,Go];exact hl,?_⟩;exact w2 σ _ Z1 (Same.refl _) (ok1.write e0 e1 ((r.mono x1.z).append h2))
    ·exact w1.elim
   ·exact w1.elim
  ·exact w.elim
end
def dCount (xs es:List D):R D:=match es with
 | [.bl k]=>match boolsD xs with
  | some bs=>.ok (.int (bs.countP (· == k):Nat))
  | none=>.stuck
 | _=>.stuck
def dIndex (xs es:List D):R D:=match es with
 | [.bl k]=>match boolsD xs with
  | some bs=>if bs.idxOf k < bs.length then .ok (.int (bs.idxOf k:Nat)) else .stuck
  | none=>.stuck
 | _=>.stuck
def eMethL (f:List D->KS)(g:KZ)(gs:KY):KZ:=λS=>(g S).bind λd=>match d with
 | .lst xs=>(gs S).bind λes=>f xs es
 | _=>.stuck
def rCountB (K:Frag):V->Lc:=λx vs H Q=>∃ (l:Addr) (bs:List Bool) (k:Bool),x=.ref l/\vs=[.bl k]/\SqL K H l (bs.map V.bl)/\Q (.int (bs.countP (· == k):Nat)) H
def rIndexB (K:Frag):V->Lc:=λx vs H Q=>∃ (l:Addr) (bs:List Bool) (k:Bool),x=.ref l/\vs=[.bl k]/\SqL K H l (bs.map V.bl)/\bs.idxOf k < bs.length/\Q (.int (bs.idxOf k:Nat)) H
theorem lO {s:Shared}(I:Inv X am σ H s){A:Around}(hu:A.units < cLine)(b k:Bool):SeqAt.EqAt A s (.bool b) (.bool k) (b==k) :=
 sP (C:=λ_=>0) (Z:=λ_=>none) rfl I (λ_ _ e=>nomatch e) 0 A (.bl b) (.bl k) (.bl b) (.bl k) _ _ rfl rfl aG aG rfl rfl (by omega)
def isB (k:Bool):Value->Bool
 | .bool b=>b==k
 | _=>false
section
variable {F:Fx}{o:Expr}
theorem xZ {Z:Hp}{k:Bool}{vs:List V}(r:Reps K C Z [.bl k] vs):vs=[.bl k]:=by
 obtain⟨v,rfl,h⟩:=aN r;rw[Rep]at h;rw[h]
def MethD (F:Fx)(r:V->Lc)(f:List D->KS):Prop:=∀ (H Z:Hp) (a:Addr) (vs:List V) (xs:List D) (us:List V) (es:List D) (Q:VK),Same Z H->SqL F.K H a vs->Reps F.K F.C Z xs vs->Reps F.K F.C Z es us ->
 WG F H Z (f xs es) (λd H' Z'=>∀ v,Rep F.K F.C Z' d v->Q v H')->r (.ref a) us H Q
theorem qU:MethD F (rCountB F.K) dCount:=by
 intro H Z a vs xs us es Q s h1 h2 rs w;unfold dCount at w;split at w
 ·rename_i k;split at w
  ·rename_i bs eb;have e3:=fj h2 eb;subst e3;exact⟨a,bs,k,rfl,xZ rs,h1,WG.now w s _ aM⟩
  ·exact w.elim
 ·exact w.elim
theorem qV:MethD F (rIndexB F.K) dIndex:=by
 intro H Z a vs xs us es Q s h1 h2 rs w;unfold dIndex at w;split at w
 ·rename_i k;split at w
  ·rename_i bs eb;have e3:=fj h2 eb;subst e3;split at w
   ·rename_i hl;exact⟨a,bs,k,rfl,xZ rs,h1,hl,WG.now w s _ aM⟩
   ·exact w.elim
  ·exact w.elim
 ·exact w.elim
theorem oE {r:V->Lc}{f:List D->KS}(hd:MethD F r f):∀ σ H Q,tE F (eMethL f g gs) σ H Q->tBM F.K "list" r (tE F g) (tAl F gs) σ H Q:=λσ H Q ⟨Z,S,ok,w⟩=>ak ok w λd v H1 Z1 ok1 x1 rv w1=>by
 cases d with
 | lst xs =>
  rw[Rep]at rv;obtain⟨a,vs,rfl,h1,h2⟩:=rv;exact⟨.inl ⟨rfl,vs,ok1.sub.seq h1⟩,aS ok1 w1 λes us H2 Z2 ok2 x2 rs w2=>hd H2 Z2 a vs xs us es Q ok2.sub (ok2.sub.seq (x2.z.seq h1)) (h2.mono x2.z) rs w2⟩
 | _=>exact w1.elim
end
def MadeX (X:Cx)(F:Fx):Prop:=∀ (am:Ll) (σ:St) (H:Hp) (s:Shared) (h1:Heap) (ea C:Addr) (args:List Value),Inv X am σ H s->Heap.MadeExcOf s.heap h1 ea (.ref C) args->F.E (.ref C) none H->X.xe (.ref ea) { s with heap:=h1 }
def bmVE:List Value:=[.type "ValueError",.type "Exception",.type "BaseException",.type "object"]
theorem uA {C:Addr}{bmB:List Value}{newId:String}(X:K.In h)(q:excIn K C bmB newId=true) :
  ∃ (bm:List Value) (N:Addr) (nm qn:Str) (bs:List Value) (hdct:Bool) (sn:List Str) (sub:List Value) (ab:Bool) (col:Option Bool) (dd:Option Addr) (k0 k1 k2 k3 k5:Lm) (mN:KW),
   h.get? C=some (excClassObj nm qn C N bs bm hdct sn sub ab col dd k0 k1 k2 k3 k5 newId)/\h.Ns N mN/\mN "__init__"=none/\OwnTail h bmB bm:=by
 unfold excIn at q;split at q
 ·rename_i dd cd sl ho;split at q
  ·rename_i C' bm k0 k1 k2 k3 n k5 hm hs;simp only[Gj,Hl,Bool.not_eq_true']at q;obtain⟨⟨⟨⟨⟨rfl,rfl⟩,hdel⟩,ht⟩,hok⟩,hni⟩:=q;obtain⟨nm,bs,mro,ns,qn,hd,sn,sub,ab,col,del⟩:=cd
   dsimp only at hm hdel hok hni
   subst hm hdel;have hsl:sl = #[k0,k1,k2,k3,some (.builtin n),k5]:=by
    grind
   subst hsl;exact⟨bm,ns,nm,qn,bs,hd,sn,sub,ab,col,dd,k0,k1,k2,k3,k5,_,X _ _ ho,.of_isNs (PySem.W.isNs_of_in X hok),PySem.W.nsMap_none_of_in X hok hni,PySem.W.tail_of_in X ht⟩
  ·cases q
 ·cases q
def sRaise (j:Nat)(gs:KY):SS->O:=λS=>rO ((gs S).bind λds=>if ds.length<=1000 then .ok (.er j) else .stuck)
section
variable {F:Fx}{j:Nat}
theorem cD (j:Nat)(bx:BX X F k)(hmade:MadeX X F)(hg:Gl X x)(hm:X.mg x=some (.ref (F.C j)))(q:excIn F.K (F.C j) bmVE "ValueError.__new__"=true)(ha:FA X F (e::es) gs)(hd:KH x:=by decide)
  (he:Id X e es:=by rfl) (hpl:IO X IY es:=by rfl) :
  FS X F (.Raise (some (.Call (.Name x np) (e::es) [] IY)) none pos) (sRaise j gs):=by
 intro am s σ H D I h;obtain⟨Z,S,ok,w⟩:=h;have q':=q;rw[<- bx.K]at q';obtain⟨bm,N,nm,qn,bs,hdct,sn,sub,ab,col,dd,k0,k1,k2,k3,k5,mN,hC0,hN0,hni0,T0⟩:=uA I.ok.mod.kin q';have hb:∀ {pl σ' H' s'},Inv X pl σ' H' s'->∀ b o,X.base.get? b=some o->s'.heap.get? b=some o:=λI'=>I'.bk
 refine wpAny_Raise_call_subU (nm:=nm) (q:=qn) (N:=N) (bs:=bs) (hdct:=hdct) (sn:=sn) (sub:=sub) (ab:=ab) (col:=col) (dd:=dd) (k0:=k0) (k1:=k1) (k2:=k2) (k3:=k3) (k5:=k5) HR (by decide) HR (T0.hasType HR.hasBase) (I.ok.hd bx.calm) (by rw[he];show (false||(backTo IY (starEach es X.env)).any (·.1))=false;rw[hpl];rfl) hni0 (dD I hg hm ⟨rfl,?_⟩ hd);have hA:=ha IY am s σ H (λvs H1=>vs.length<=1000/\F.E (.ref (F.C j)) none H1) I (aS ok (WO.wg ok w) λds vs H1 Z1 ok1 x1 rs w1=>by
  split at w1
  ·rename_i hl;exact⟨by rw[<- rs.length];exact hl,WG.now w1 ok1.sub H1 ok1.ex.same⟩
  ·exact w1.elim)
 rw[he]at hA ⊢;refine IE (thn hA λus s2 ⟨vs,H2,I2,r2,q2⟩=>⟨rfl,?_,hb I2 _ _ hC0,hN0.keeps (hb I2),T0.keeps (hb I2),λh' e hm'=>hmade am σ H2 s2 h' e _ us I2 hm' q2.2⟩);rw[<- r2.length,Go];omega
end
section
variable {s:Shared}
theorem lP (I:Inv X am σ H s){A:Around}{calm:Bool}{pn pins':Ll}{xe:KU}(hf:A.frames=X.A.frames)(hc:calm=true->A.handled=none)(hp:∀ p∈pn++pins',p∈X.pn++am) :
  Inv { X with A:=A,calm:=calm,pn:=pn,xe:=xe } pins' σ H s :=
 ⟨⟨I.ok.mod,I.ok.kind,I.ok.glob,I.ok.blt,I.ok.above,I.ok.inj,I.ok.has,I.ok.cab,hc,hf.trans I.ok.frames,I.ok.stk,I.ok.exf,I.ok.bs,I.ok.bsz,I.ok.noex,I.ok.exfs,I.ok.funs,I.ok.frf⟩,I.os,I.bare,I.base,I.loc,I.cell,I.free,I.freeC,
  λp hpp=>I.pin p (hp p hpp),I.hok,I.len⟩
theorem v7 (I:Inv X am σ H s){o:HO}(hn:H a=none)(h0:X.s₀.heap.get? a=none)(hl:a≠X.env.locals)(hc:∀ x c,X.env.cells.lookup x=some c->c≠a)(hp:∀ p∈X.pn++am,p.1≠a)
  (ho:ObjOk X.prog X.w (upd H a o) s.heap a o):Inv X am σ (upd H a o) s:=by
 have nn:∀ {b:Addr} {u:HO},H b=some u->upd H a o b=some u:=λ{b u} e=>by rw[ae (aE e hn)];exact e
 refine⟨I.ok,I.os,I.bare,⟨I.base.keep,I.base.slot,λb ob e n hx=>?_,I.base.there,λb xs e=>nn (I.base.tups b xs e),λb o' u e=>nn (I.base.frzs b o' u e),λb ps e=>?_⟩,I.loc,I.cell,?_,λx c e=>?_,λp h=>?_,λb u e=>?_,I.len⟩
 ·rw[ae (by grind)];exact I.base.free b ob e n hx
 ·obtain⟨more,q⟩:=I.base.tbls b ps e;exact⟨more,nn q⟩
 ·rw[ae (GM hl)];exact I.free
 ·rw[ae (hc x c e)];exact I.freeC x c e
 ·obtain⟨a1,a2,a3⟩:=I.pin p h;exact⟨a1,by rw[ae (hp p h)];exact a2,a3⟩
 ·by_cases q:b=a
  ·subst q;rw[ah]at e;cases e;exact ho
  ·rw[ae q]at e;exact(I.hok b u e).stay (λ_ _ _ z=>z) (λc z=>nn z) λc xs z=>nn z
theorem v8 {A:Around}{i:Nat}{n:Str}{v:V}{Q:Unit->Lg}(I:Inv X am σ H s)(hN:X.N.Nodup)(hi:X.N[i]?=some n)(hk:X.env.kindOf n=some .local)(hs:X.env.scope.names.lookup n=some .local)(hv:σ[i]?=some (some v))
  (h:∀ s',Inv X am (σ.set i none) H s'->Q () s'):wpAny M A (unbindName X.env n) Q E s:=by
 obtain⟨m,hn,hl⟩:=id I.loc;have hcls:(X.env.scope.kind==.class||(X.env.scope.kind==.module&&X.env.locals != X.env.globals))=false:=by rw[I.ok.kind];rfl
 obtain⟨u,ru,lk⟩:=hl i n v hi hv (.inl hs);have hm:m n=some u:=by
  rcases lk with ⟨_,e⟩ | ⟨z,_⟩
  ·exact e
  ·rw[hk]at z;rcases z with z | z<;>cases z
 have cne:=I.cne;have hiσ:=(Gc.mp hv).1;refine wpAny_unbindName_local hk hn hm hcls λh' u' hn' hs'=>?_
 obtain⟨oL,_,_,hoL,_⟩:=id hn;have nl:∀ b o,X.s₀.heap.get? b=some o->b≠X.env.locals:=λb o e=>Gf (Gm (F8 e) I.ok.above)
 refine h _ ⟨I.ok,I.os,I.bare,⟨λb o e nn hb hx=>(hs'.2 b (nl b o e)).trans (I.base.keep b o e nn hb hx),λb o e nn hb hx=>?_,I.base.free,λb o e hx=>?_,I.base.tups,I.base.frzs,I.base.tbls⟩,⟨_,hn',λj y v' e1 e2 e3=>?_⟩,λy c e=>?_,I.free,I.freeC,λp hp=>?_,λb ob e=>?_,by simpa using I.len⟩
 ·obtain⟨sl,e1⟩:=I.base.slot b o e nn hb hx;exact⟨sl,(hs'.2 b (nl b o e)).trans e1⟩
 ·obtain⟨o',e1⟩:=I.base.there b o e hx;exact⟨o',(hs'.2 b (nl b o e)).trans e1⟩
 ·have hj:j≠i:=λq=>by
   subst q;rw[Gr hiσ]at e2;cases e2
  rw[GB (GM hj)]at e2;obtain⟨u2,r2,q⟩:=hl j y v' e1 e2 e3;refine⟨u2,r2,?_⟩;rcases q with ⟨k,e⟩ | ⟨k,c,e,z⟩
  ·refine .inl ⟨k,?_⟩;have:y≠n:=λe=>hj (lC hN e1 (e ▸ hi))
   simp[this,e]
  ·exact .inr ⟨k,c,e,z.sameBut hs' (cne y c e)⟩
 ·obtain⟨w',z⟩:=I.cell y c e;exact⟨w',z.sameBut hs' (cne y c e)⟩
 ·obtain⟨e,nn,ne,nf,d⟩:=I.pin p hp;exact⟨(hs'.2 p.1 ne).trans e,nn,ne,nf,d⟩
 ·refine(I.hok b ob e).stay (λc w' hc q=>(hs'.2 c ?_).trans q) (λ_ q=>q) λ_ _ q=>q
  rintro rfl
  rcases hc with z | z
  ·subst z;rw[I.free]at e;cases e
  ·rw[I.free]at z;cases z
end
structure Takes (K:Frag)(C:La)(C0:Addr)(q:Nat->Bool):Prop where
 exc:excIn K C0 bmVE "ValueError.__new__"=true
 sub:∀ k,q k=true->subIn K (.ref (C k)) (.ref C0)=some true
theorem qW (T:Takes K C C0 q){A:Around}{g:Array GenState}{d:Drawn}{t:Nat}{os:OsState}{e:Addr}{oe:Obj}{Q:Bool->Lg}
  (X:K.In h) (he:h.get? e=some oe) (hc:oe.cls=.ref (C k)) (hk:q k=true) (hq:Q true ⟨h,g,d,t,os⟩):wpAny M A (excMatches (.ref e) (.ref C0)) Q E ⟨h,g,d,t,os⟩:=by
 obtain⟨bm,N,nm,qn,bs,hdct,sn,sub,ab,col,dd,k0,k1,k2,k3,k5,mN,hC,hN,hni,TL⟩:=uA X T.exc;have hcB:(Value.ref C0::bm).contains (.type "BaseException")=true:=by rw[List.contains_cons,TL.hasType (show bmVE.contains (.type "BaseException")=true by decide),Bool.or_true]
 have L3:=PySem.W.looks_subIn (M:=M) X (T.sub k hk);have f:=tc_notTuple;unfold excMatches
 repeat (first | (with_reducible refine Hj he ?_;rw[hc]) | with_reducible refine Hj hC ?_ | (with_reducible refine wpAny_isSubtype_exc hC ?_;rw[hcB]) | (with_reducible refine L3.at ?_) | wp_step)
 exact hq
abbrev tryX (X:Cx)(pn:Ll)(xe:KU):Cx:={ X with A:=X.A,calm:=X.calm,pn:=pn,xe:=xe }
section
variable {F:Fx}{Z:Hp}{S:SS}
end
section
variable {F:Fx}{body:Lo}{g:SS->O}{c n y:Str}{np2 kp hpos:Pos}
end
def eNeg (g:KZ):KZ:=λS=>(g S).bind λd=>match d with
 | .int i=>.ok (.int (-i))
 | _=>.stuck
section
variable {F:Fx}{a:Expr}{i:Int}
theorem pP (h:FE X F a g):FE X F (.UnaryOp .USub a pos) (eNeg g):=(Cs xq h).weak λσ H Q ⟨Z,S,ok,w⟩=>ak ok w λd v H1 Z1 ok1 x1 rv w1=>by
 cases d with
 | int i=>rw[Rep]at rv;exact⟨i,rv,WG.now w1 ok1.sub _ aM⟩
 | _=>exact w1.elim
theorem g6 (h:∃ t,X.mg x=some (.int i t))(hg:Gl X x)(hd:KH x:=by decide):FE X F (.Name x pos) (eC (.int i)):=by
 obtain⟨t,e⟩:=h;exact dE (aR (v:=.int i) hg e ⟨t,rfl⟩ hd) λ_=>aM
end
end FF
end
noncomputable section
namespace FF
open PySem L2
def tupI (l:List Int):D:=.tup (l.map .int)
def intsOf:List D->Option (List Int)
 | []=>some []
 | .int i::r=>(intsOf r).map (i::·)
 | _::_=>none
def sumI (is:List Int):Int:=is.foldl (· + ·) 0
def dSum:KS
 | [.lst xs]=>match intsOf xs with
  | some is=>.ok (.int (sumI is))
  | none=>.stuck
 | [.tup xs]=>match intsOf xs with
  | some is=>.ok (.int (sumI is))
  | none=>.stuck
 | _=>.stuck
def setAll:List Nat->List D->SS->SS
 | i::r,d::ds,S=>setAll r ds (S.set i (some (.val d)))
 | _,_,S=>S
def gTup (ix:List Nat):Li:=λd S=>match d with
 | .tup ds=>if ds.length=ix.length then .ok (setAll ix ds S) else .stuck
 | _=>.stuck
def sAsg (g:Li)(e:KZ):SS->O:=λS=>rO ((e S).bind λd=>(g d S).bind λS1=>.ok (.nx S1))
end FF
end
noncomputable section
namespace FF
open PySem PySem.Spec PyProof.Rows L2
variable {X:Cx}{F:Fx}{pos:Pos}{e:Expr}{gs:KY}
def TupK (K:Frag)(a:Addr)(l:List Int):Prop :=
 ∃ (o:Obj) (its:Array Value) (n:Nat),K.lookup a=some o/\o.cls=.type "tuple" /\ o.dict=none/\o.data=.seq its n/\its.size<=sizeLine/\Vals (l.map V.int) its.toList
theorem oF {K:Frag}{C:La}{Z:Hp}:∀ ns:List Int,Reps K C Z (ns.map .int) (ns.map V.int)
 | []=>by rw[Hd,Hd,Reps]
 | i::ns=>by rw[F5,F5,Reps];exact⟨_,_,rfl,aM,oF ns⟩
theorem uB {x:Str}{l:List Int}(h:∃ a,X.mg x=some (.ref a)/\TupK F.K a l)(hg:Gl X x)(hd:KH x:=by decide):FE X F (.Name x pos) (eC (tupI l)):=by
 obtain⟨a,e,o,its,n,h1,h2,h2d,h3,h4,h5⟩:=h;exact dE (aR (v:=.ref a) hg e rfl hd) λZ=>by
  unfold tupI;rw[Rep];exact⟨a,_,rfl,.inr ⟨o,its,n,h1,h2,h2d,h3,h4,h5⟩,oF l⟩
section
variable {p:Pos}{k:Nat}
end
section
variable {o:Expr}{g:KZ}{IR IY:Pos}{k:Nat}
end
end FF
namespace HT
open PySem PyProof.Rows
end HT
namespace FF
open PySem PySem.Spec PyProof.Rows L2
variable {pos p2:Pos}
section
variable {X:Cx}{F:Fx}{e:Expr}{lo hi:Option Expr}{g:KZ}{l h:SS->R (Option Int)}
end
theorem R.bind_assoc {α β γ:Type}(r:R α)(f:α->R β)(g:β->R γ):(r.bind f).bind g=r.bind λx=>(f x).bind g:=by cases r<;>rfl
theorem uC (i j:Nat){X:Cx}{F:Fx}{x y:Str}{p1 tp pt2:Pos}{k k2:_}{n:Nat}{a b:Expr}{gs:KY}(bx:BX X F n)(hN:X.N.Nodup)(ha:FA X F [a,b] gs)(hij:i≠j:=by decide)(hi:X.N[i]?=some x:=by rfl)(hj:X.N[j]?=some y:=by rfl)
  (hx:X.env.scope.names.lookup x=some .local:=by rfl) (hy:X.env.scope.names.lookup y=some .local:=by rfl)
  (hw:swappedStores [.Tuple [.Name x p1,.Name y p2] k tp] (.Tuple [a,b] k2 pt2) X.env=pure (some [x,y]):=by rfl) (hs:swapsWithSole [.Tuple [.Name x p1,.Name y p2] k tp] (.Tuple [a,b] k2 pt2) pos.line X.env=pure false:=by rfl) :
  FS X F (.Assign [.Tuple [.Name x p1,.Name y p2] k tp] (.Tuple [a,b] k2 pt2) pos) (sAsg (gTup [i,j]) (eTup gs)) :=
 (xo bx.calm hN hi hj hij hx hy ha hw hs).weak λD σ H ⟨Z,S,ok,w⟩=>by
  have w0:WG F H Z ((gs S).bind λds=>(if ds.length<=16777216 then R.ok (FF.D.tup ds) else R.stuck).bind λd=>(gTup [i,j] d S).bind λS1=>R.ok (O.nx S1)) λo _ Z'=>WO F Z' o D:=by
   rw[<- R.bind_assoc];exact WO.wg ok w
  refine aS ok w0 λds vs H1 Z1 ok1 x1 rs w1=>?_
  split at w1
  ·have w2:WG F H1 Z1 (R.bind (if ds.length=2 then R.ok (setAll [i,j] ds S) else R.stuck) λS1=>R.ok (O.nx S1)) λo _ Z'=>WO F Z' o D:=w1
   split at w2
   ·rename_i hl
    match ds,hl,rs with
    | [d1,d2],_,h2 =>
     rw[Reps]at h2;obtain⟨v1,r,rfl,q1,h2⟩:=h2;rw[Reps]at h2;obtain⟨v2,r,rfl,q2,h2⟩:=h2;rw[Reps]at h2;subst h2;refine⟨v1,v2,rfl,?_⟩;have w3:=WG.now w2 ok1.sub;exact w3 _ _ _ (Same.refl _) ((ok1.setVal q1).setVal q2)
   ·exact w2.elim
  ·exact w1.elim
end FF
end
noncomputable section
namespace FF
open PySem L2
end FF
end
noncomputable section
namespace PySem.SeqAt
open AutoSeq1 (wpAny_loadPart')
open MeetsSeq MeetsSeq2 MeetsSeq3 SeqRoads2
end PySem.SeqAt
namespace FF
open PySem PySem.Spec PyProof.Rows L2
variable {X:Cx}{F:Fx}{k:Nat}{pos IR IY:Pos}{a b e o:Expr}{ga gb g:KZ}{gs:KY}{K:Frag}{C:La}{es:List Nat}
section
variable {p:Pos}{ge:KZ}{ei:Expr}{x:Str}
end
def dNf (x y:D):R D:=if good 60 x=true/\good 60 y=true then .ok (.bl (!eqD x y)) else .stuck
def rNf (K:Frag)(C:La):R2:=λx y H Q=>∃ Z d e,Same Z H/\Rep K C Z d x/\Rep K C Z e y/\good 60 d=true/\good 60 e=true/\Q (.bl (!eqD d e)) H
section
theorem Cw (hK:X.K=F.K)(hr:Room k X.A):OpR X (compareOp .NotEq) (rNf F.K F.C):=by
 intro am s σ H x y v u Q I rx ry h;obtain⟨Z,d,e,z,h1,h2,g1,g2,q⟩:=h;have hu:X.A.units+60 < cLine:=by have:=hr.un;omega
 exact(eqB hK I z 60 X.A d e x y v u g1 g2 h1 h2 rx ry hu).2.2 X.prog X.w X.xe _ ⟨.bl (!eqD d e),H,I,rfl,q⟩
theorem sT:OpD F (rNf F.K F.C) dNf:=by
 intro H Z x y dx dy Q s rx ry w;unfold dNf at w;split at w
 ·rename_i g;exact⟨Z,dx,dy,s,rx,ry,g.1,g.2,WG.now w s _ aG⟩
 ·exact w.elim
theorem kI (bx:BX X F k)(ha:FE X F a ga)(hb:FE X F b gb):FT X F (.Compare a [.NotEq] [b] pos) (gB (eOp dNf ga gb)):=iO (Cw bx.K bx.room) sT ha hb
end
def qEx (es:List Nat)(i:Nat):Lk
 | .exc j=>if es.contains j=true then some (i==j||i==0) else none
 | _=>none
def qVx (es:List Nat):Lk
 | .exc j=>if es.contains j=true then some true else none
 | _=>none
def qTk (es:List Nat)(j:Nat):Bool:=es.contains j
theorem DA {i:Nat}(h:∀ j∈es,kitOne K (.ref (C j)) (.ref (C i))=some (i==j||i==0))(hx:∀ j∈es,ExcK K (C j)):IsA K C (.ref (C i)) (qEx es i):=by
 refine⟨.inr ⟨_,rfl⟩,λd b e=>?_,λj b e=>?_,λ_=>rfl,λd h=>by cases d<;>first | rfl | cases h⟩
 ·cases d with
  | exc j =>
   have e':(if es.contains j=true then some (i==j||i==0) else none)=some b:=e;by_cases hj:es.contains j=true
   ·rw[if_pos hj]at e';cases e';exact h j (by grind)
   ·grind
  | _=>cases e
 ·have e':(if es.contains j=true then some (i==j||i==0) else none)=some b:=e
  grind
theorem DB (h:∀ j∈es,kitOne K (.ref (C j)) (.type "ValueError")=some true)(hx:∀ j∈es,ExcK K (C j)):IsA K C (.ty "ValueError") (qVx es):=by
 refine⟨.inl ⟨_,rfl⟩,λd b e=>?_,λj b e=>?_,λ_=>rfl,λd h=>by cases d<;>first | rfl | cases h⟩
 ·cases d with
  | exc j =>
   have e':(if es.contains j=true then some true else none)=some b:=e;by_cases hj:es.contains j=true
   ·rw[if_pos hj]at e';cases e';exact h j (by grind)
   ·grind
  | _=>cases e
 ·have e':(if es.contains j=true then some true else none)=some b:=e
  grind
theorem ya (h:excIn K (C 0) bmVE "ValueError.__new__"=true)(hs:∀ j∈es,subIn K (.ref (C j)) (.ref (C 0))=some true):Takes K C (C 0) (qTk es) :=
 ⟨h,λk e=>hs k (by simpa [qTk] using e)⟩
end FF
end
noncomputable section
namespace FF
open PySem L2
inductive L (σ:Type) where
 | nx (s:σ) | rt (d:D) | er (k:Nat) | stuck
noncomputable def lB {α σ:Type}(r:R α)(k:α->L σ):L σ:=match r with
 | .ok a=>k a
 | .err e=>.er e
 | .stuck=>.stuck
noncomputable def lS {τ σ:Type}(l:L τ)(k:τ->L σ):L σ:=match l with
 | .nx s=>k s
 | .rt d=>.rt d
 | .er e=>.er e
 | .stuck=>.stuck
noncomputable def lFor {α τ:Type}(f:τ->α->L τ):List α->τ->L τ
 | [],s=>.nx s
 | d::r,s=>lS (f s d) λs'=>lFor f r s'
def lTry {τ σ:Type}(q:Nat->Bool)(l:L τ)(k:τ->L σ)(h:Nat->L σ):L σ:=match l with
 | .nx s=>k s
 | .rt d=>.rt d
 | .er e=>if q e=true then h e else .stuck
 | .stuck=>.stuck
def outL {σ:Type}(l:L σ):R D:=match l with
 | .nx _=>.ok .non
 | .rt d=>.ok d
 | .er k=>.err k
 | .stuck=>.stuck
section
variable {α τ σ:Type}
@[simp] theorem gq (a:α)(k:α->L σ):lB (.ok a) k=k a:=rfl
@[simp] theorem DC (e:Nat)(k:α->L σ):lB (.err e) k=.er e:=rfl
@[simp] theorem Ey (k:α->L σ):lB .stuck k=.stuck:=rfl
@[simp] theorem uD (s:τ)(k:τ->L σ):lS (.nx s) k=k s:=rfl
@[simp] theorem Ez (d:D)(k:τ->L σ):lS (.rt d) k=.rt d:=rfl
@[simp] theorem EA (e:Nat)(k:τ->L σ):lS (.er e) k=.er e:=rfl
@[simp] theorem EB (k:τ->L σ):lS .stuck k=.stuck:=rfl
@[simp] theorem EC (f:τ->α->L τ)(s:τ):lFor f [] s=.nx s:=rfl
theorem eW (f:τ->α->L τ)(d:α)(r:List α)(s:τ):lFor f (d::r) s=lS (f s d) λs'=>lFor f r s':=rfl
@[simp] theorem E8 (q:Nat->Bool)(s:τ)(k:τ->L σ)(h:Nat->L σ):lTry q (.nx s) k h=k s:=rfl
@[simp] theorem E9 (q:Nat->Bool)(d:D)(k:τ->L σ)(h:Nat->L σ):lTry q (.rt d:L τ) k h=.rt d:=rfl
@[simp] theorem Fa (q:Nat->Bool)(e:Nat)(k:τ->L σ)(h:Nat->L σ):lTry q (.er e:L τ) k h=if q e=true then h e else .stuck:=rfl
@[simp] theorem AU (s:σ):outL (.nx s)=.ok .non:=rfl
@[simp] theorem AV (d:D):outL (.rt d:L σ)=.ok d:=rfl
@[simp] theorem AW (k:Nat):outL (.er k:L σ)=.err k:=rfl
end
noncomputable def rAnd (a b:R Bool):R Bool:=a.bind λc=>if c=true then b else .ok false
noncomputable def rOr (a b:R Bool):R Bool:=a.bind λc=>if c=true then .ok true else b
def rNot (a:R Bool):R Bool:=a.bind λc=>.ok (!c)
def vAnd (a b:R D):R D:=(asB a).bind λc=>if c=true then b else .ok (.bl false)
def vOr (a b:R D):R D:=(asB a).bind λc=>if c=true then .ok (.bl true) else b
def vNot (a:R D):R D:=(asB a).bind λc=>.ok (.bl (!c))
noncomputable def rIf (c:R Bool)(a b:R D):R D:=c.bind λt=>if t=true then a else b
def rCh (f f':Lf)(x y:D)(w:R D):R D:=(asB (f x y)).bind λk=>if k=true then w.bind λw=>f' y w else .ok (.bl false)
@[simp] theorem jY (b:Bool):asB (.ok (.bl b))=.ok b:=rfl
@[simp] theorem DD (b:R Bool):rAnd (.ok true) b=b:=rfl
@[simp] theorem DE (b:R Bool):rAnd (.ok false) b=.ok false:=rfl
@[simp] theorem ED (b:R Bool):rOr (.ok true) b=.ok true:=rfl
@[simp] theorem EE (b:R Bool):rOr (.ok false) b=b:=rfl
@[simp] theorem pQ (b:Bool):rNot (.ok b)=.ok (!b):=rfl
@[simp] theorem DF (b:R D):vAnd (.ok (.bl true)) b=b:=rfl
@[simp] theorem DG (b:R D):vAnd (.ok (.bl false)) b=.ok (.bl false):=rfl
@[simp] theorem EF (b:R D):vOr (.ok (.bl true)) b=.ok (.bl true):=rfl
@[simp] theorem EG (b:R D):vOr (.ok (.bl false)) b=b:=rfl
@[simp] theorem AX (b:Bool):vNot (.ok (.bl b))=.ok (.bl (!b)):=rfl
@[simp] theorem yb (a b:R D):rIf (.ok true) a b=a:=rfl
@[simp] theorem yc (a b:R D):rIf (.ok false) a b=b:=rfl
def bA {α:Type}:List (R D)->(List D->R α)->R α
 | [],k=>k []
 | r::rs,k=>r.bind λd=>bA rs λds=>k (d::ds)
def cGo (c:D->R Bool)(e:D->R D):List D->R (List D)
 | []=>.ok []
 | d::r=>match c d with
  | .ok true=>match e d with
   | .ok y=>match cGo c e r with
    | .ok ys=>.ok (y::ys)
    | _=>.stuck
   | _=>.stuck
  | .ok false=>cGo c e r
  | _=>.stuck
def cMap (e:D->R D)(xs:List D):R D:=(cGo (λ_=>.ok true) e xs).bind λys=>.ok (.lst ys)
def cFil (c:D->R Bool)(e:D->R D)(xs:List D):R D:=(cGo c e xs).bind λys=>.ok (.lst ys)
def un2 {α:Type}(d:D)(k:D->D->R α):R α:=match d with
 | .tup [a,b]=>k a b
 | _=>.stuck
def sq (d:D):R (List D):=(asSeq d).bind λds=>if ds.length<=16777216 then .ok ds else .stuck
def dInD (x y:D):R D:=match y with
 | .tup ds=>if good 60 x=true/\goods 60 ds=true then .ok (.bl (ds.any λe=>eqD e x)) else .stuck
 | .lst ds=>if good 60 x=true/\goods 60 ds=true then .ok (.bl (ds.any λe=>eqD e x)) else .stuck
 | _=>.stuck
def dNotInD (x y:D):R D:=(asB (dInD x y)).bind λk=>.ok (.bl (!k))
def dList:KS
 | [.lst xs]=>.ok (.lst xs)
 | [.tup xs]=>.ok (.lst xs)
 | _=>.stuck
def dLenSet:KS
 | [.lst xs]=>match intsOf xs with
  | some is=>if is.length<=4000 then .ok (.int (is.eraseDups.length:Nat)) else .stuck
  | none=>.stuck
 | _=>.stuck
def dRev (d:D):R D:=match d with
 | .lst xs=>.ok (.lst xs.reverse)
 | .tup xs=>.ok (.tup xs.reverse)
 | _=>.stuck
def dMin2:KS
 | [.int i,.int j]=>.ok (.int (if j < i then j else i))
 | _=>.stuck
def dIntB:KS
 | [.bl b]=>.ok (.int (if b then 1 else 0))
 | _=>.stuck
def dAbs:KS
 | [.int i]=>.ok (.int (i.natAbs:Int))
 | _=>.stuck
def onF {α:Type}(fs:List Nat)(f:D)(k:Nat->R α):R α:=match f with
 | .fn i=>if fs.contains i=true then k i else .stuck
 | _=>.stuck
def onL {α:Type}(d:D)(k:List D->R α):R α:=match d with
 | .lst xs=>k xs
 | _=>.stuck
def dTab (l:List (Str×Nat))(x:D):R D:=match x with
 | .str s=>match l.lookup s with
  | some k=>.ok (.fn k)
  | none=>.stuck
 | _=>.stuck
def tabK (l:List (Str×Nat)):D:=.lst (l.map λp=>.str p.1)
def dNeg (d:D):R D:=match d with
 | .int i=>.ok (.int (-i))
 | _=>.stuck
def oApp (ds:List D)(v:D):R (List D):=if ds.length < 16777216 then .ok (ds++[v]) else .stuck
def oExt (ds:List D)(v:D):R (List D):=match v with
 | .lst xs=>if ds.length+xs.length<=16777216 then .ok (ds++xs) else .stuck
 | .tup xs=>if ds.length+xs.length<=16777216 then .ok (ds++xs) else .stuck
 | _=>.stuck
def a0 (k:L Unit):KS
 | []=>outL k
 | _=>.stuck
abbrev Lj:=D->L Unit
def a1 (k:Lj):KS
 | [a]=>outL (k a)
 | _=>.stuck
def a2 (k:D->Lj):KS
 | [a,b]=>outL (k a b)
 | _=>.stuck
def a3 (k:D->D->Lj):KS
 | [a,b,c]=>outL (k a b c)
 | _=>.stuck
def a4 (k:D->D->D->Lj):KS
 | [a,b,c,d]=>outL (k a b c d)
 | _=>.stuck
def a5 (k:D->D->D->D->Lj):KS
 | [a,b,c,d,e]=>outL (k a b c d e)
 | _=>.stuck
def a6 (k:D->D->D->D->D->Lj):KS
 | [a,b,c,d,e,f]=>outL (k a b c d e f)
 | _=>.stuck
end FF
end
noncomputable section
namespace FF
open PySem PySem.Spec PyProof.Rows L2
variable {Z H HW H' Z' Z1 H0 Kp HW0:Hp}{X:Cx}{S S':SS}{k i own:Nat}{pos IR np np2 hpos p2:Pos}{K:Frag}{C:La}{ρ:St}{st:Stmt}{es:Lp}{E:XK}{f y c n:Str}{body sts:Lo}{gt:Le}{q:Nat->Bool}{C0 a b:Addr}{v:V}{tg:Expr}{cap:List Nat}{P:Program}{mg:KW}{base:Heap}{N:List Str}{A:Around}
section
variable {F:Fx}{e:Expr}{g:KZ}{gs:KY}
end
section
variable {α τ σ W:Type}
def WL (F:Fx)(Z:Hp)(J:σ->SS->Prop)(l:L σ)(D:Ends):Prop:=match l with
 | .nx s=>∀ S ρ H Z',J s S->Same Z Z'->StOk F H Z' S ρ->D.nx ρ H
 | .rt d=>∀ v H Z',Ex F.H0 F.Z0 H Z'->Rep F.K F.C Z' d v->D.rt v H
 | .er k=>∀ H,Same F.H0 H->F.E (.ref (F.C k)) none H
 | .stuck=>False
theorem WL.more {F:Fx}{J:σ->SS->Prop}{l:L σ}{D:Ends}(w:WL F Z J l D)(z:Same Z Z1):WL F Z1 J l D:=by
 cases l with
 | nx s=>exact λS ρ H Z' j q=>w S ρ H Z' j (z.trans q)
 | rt d=>exact w
 | er k=>exact w
 | stuck=>exact w
def tL (F:Fx)(S:SS)(J:σ->SS->Prop)(l:L σ):TS:=λD ρ H=>∃ Z,StOk F H Z S ρ/\WL F Z J l D
abbrev FL (X:Cx)(F:Fx)(S:SS)(sts:Lo)(J:σ->SS->Prop)(l:L σ):Prop:=PSs X sts (tL F S J l)
abbrev FL1 (X:Cx)(F:Fx)(S:SS)(st:Stmt)(J:σ->SS->Prop)(l:L σ):Prop:=PS X st (tL F S J l)
def JX (inj:τ->W->SS):τ->SS->Prop:=λs S=>∃ w,S=inj s w
def JU:Unit->SS->Prop:=λ_ _=>True
abbrev vv (d:D):Option Sl:=some (.val d)
abbrev ow (ds:List D):Option Sl:=some (.own ds)
abbrev nn:Option Sl:=none
variable {F:Fx}{rest:Lo}{J:σ->SS->Prop}{J1:τ->SS->Prop}
theorem fm {t:α->TS}(h:∀ a,PSs X sts (t a)):PSs X sts (λD ρ H=>∃ a,t a D ρ H):=λam s ρ H D I ⟨a,w⟩=>h a am s ρ H D I w
theorem WL.wg {D:Ends}{r:R α}{k:α->L σ}(ok:StOk F H Z S ρ)(w:WL F Z J (lB r k) D):WG F H Z r λa _ Z'=>WL F Z' J (k a) D:=by
 cases r with
 | ok o=>exact λ_ _ x=>WL.more w x.z
 | err k=>exact λH' s=>w H' (ok.ex.same.trans s)
 | stuck=>exact w
theorem bJ {s:σ}(h:J s S):FL X F S [] J (.nx s):=ul.weak λD ρ H ⟨Z,ok,w⟩=>w S ρ H Z h (Same.refl _) ok
theorem k8 {g:SS->O}{r:R α}{S':α->SS}{k:α->L σ}(h:FS X F st g)(hg:g S=rO (r.bind λa=>.ok (.nx (S' a))))(hk:∀ a,FL X F (S' a) rest J (k a)):FL X F S (st::rest) J (lB r k) :=
 (bu h (fm hk)).weak λD ρ H ⟨Z,ok,w⟩=>⟨Z,S,ok,by
  rw[hg];cases r with
  | ok a=>exact λρ' H' Z' z ok'=>⟨a,Z',ok',WL.more w z⟩
  | err k=>exact w
  | stuck=>exact w⟩
theorem qX {g:SS->O}{l:L σ}(h:FS X F st g)(hg:g S=.nx S')(hk:FL X F S' rest J l):FL X F S (st::rest) J l :=
 (bu h hk).weak λD ρ H ⟨Z,ok,w⟩=>⟨Z,S,ok,by rw[hg];exact λρ' H' Z' z ok'=>⟨Z',ok',WL.more w z⟩⟩
theorem ye {g:KZ}{r:R D}(h:FS X F st (sRet g))(hr:g S=r):FL X F S (st::rest) J (lB r .rt) :=
 (bu h gX).weak λD ρ H ⟨Z,ok,w⟩=>⟨Z,S,ok,by
  unfold sRet;rw[hr];cases r with
  | ok a=>exact w
  | err k=>exact w
  | stuck=>exact w⟩
theorem EH {g:SS->O}(h:FS X F st g)(hg:g S=.er k):FL X F S (st::rest) J (.er k) :=
 (bu h gX).weak λD ρ H ⟨Z,ok,w⟩=>⟨Z,S,ok,by rw[hg];exact w⟩
theorem yf (i:Nat){ds:List D}{l:L σ}(hi:S[i]?=some (some (.own ds)))(hS:S.set i (some (.val (.lst ds)))=S')(h:FL X F S' sts J l):FL X F S sts J l :=
 h.weak λD ρ H ⟨Z,ok,w⟩=>by
  obtain⟨Z',z,ok'⟩:=ok.freeze hi;rw[hS]at ok';exact⟨Z',ok',WL.more w z⟩
theorem gr {c:Expr}{a b:Lo}{r:R Bool}{A B:L σ}(hc:FT X F c gt)(hr:gt S=r)(ha:FL X F S a J A)(hb:FL X F S b J B):FL1 X F S (.If c a b pos) J (lB r λt=>if t=true then A else B) :=
 (Cr hc ha hb).weak λD ρ H ⟨Z,ok,w⟩=>i6 (P:=λt _ Z'=>WL F Z' J (if t=true then A else B) D) ok (by
  rw[hr];have:=WL.wg ok w;cases r<;>exact this) λt H1 Z1 ok1 x1 w1=>by
  have w2:=WG.now w1 ok1.sub;cases t with
  | true=>exact⟨Z1,ok1,w2⟩
  | false=>exact⟨Z1,ok1,w2⟩
theorem lQ {l:L σ}(h:FL1 X F S st J l):FL X F S [st] J l:=kZ h
theorem jZ {l:L τ}{k:τ->L σ}{inj:τ->W->SS}(h:FL1 X F S st (JX inj) l)(hk:∀ s w,FL X F (inj s w) rest J (k s)):FL X F S (st::rest) J (lS l k) :=
 (bu h (fm (λs=>fm λw=>hk s w))).weak λD ρ H ⟨Z,ok,w⟩=>⟨Z,ok,by
  cases l with
  | nx s=>exact λS' ρ' H' Z' ⟨x,e⟩ z ok'=>⟨s,x,Z',by rw[<- e];exact ok',WL.more w z⟩
  | rt d=>exact w
  | er k=>exact w
  | stuck=>exact w⟩
end
section
variable {σ τ W:Type}{F:Fx}{iter:Expr}{git:KY}{g:Li}{inj:τ->W->SS}{step:τ->D->L τ}
theorem yg {r:R (List D)}{s0:τ}(w0:W)(hp:PassesOwn (model X.prog X.w) X.A X.env X.xe)(hc:X.calm=true)(hi:FI X F tg iter git)(hr:git S=r)(hg:FG X F tg g)
  (hb:∀ s w x S1,g x (inj s w)=.ok S1->FL X F S1 body (JX inj) (step s x)) (hno:∀ s w x k,g x (inj s w)≠.err k) (K8:∀ s w x,g x (inj s w)=.stuck->step s x=.stuck)
  (hS:S=inj s0 w0) (hs:∀ x,foldedSetIterable iter X.env x=pure x:=by intro _;rfl):FL1 X F S (.For tg iter body [] pos) (JX inj) (lB r λxs=>lFor step xs s0):=by
 have hbb:PSs X body (λD ρ H=>∃ (q:τ×W×FF.D×SS) (_:g q.2.2.1 (inj q.1 q.2.1)=.ok q.2.2.2),tL F q.2.2.2 (JX inj) (step q.1 q.2.2.1) D ρ H):=λam s ρ H D I ⟨q,e,w⟩=>hb q.1 q.2.1 q.2.2.1 q.2.2.2 e am s ρ H D I w
 refine(sC hp hc hi hg hbb hs).weak λD ρ H ⟨Z,ok,w⟩=>?_
 refine⟨Z,S,ok,?_⟩;have w00:=WL.wg ok w;rw[hr];cases r with
 | err k=>exact w00
 | stuck=>exact w00
 | ok ds =>
  intro H1 Z1 x1;have w1:=w00 H1 Z1 x1;intro J wk _;refine⟨λi m ρ H=>m=ds.length - i/\i<=ds.length/\∃ Z2 s w,StOk F H Z2 (inj s w) ρ/\Same Z1 Z2/\WL F Z2 (JX inj) (lFor step (ds.drop i) s) D,⟨ds.length,rfl,GQ _,Z1,s0,w0,by rw[<- hS];exact ok.more x1,Same.refl _,w1⟩,?_⟩
  rintro i m ρ2 H2 ⟨rfl,hle,Z2,s,w2,ok2,z2,wl2⟩
  obtain⟨k1,k2⟩:=wk i H2 Z2 z2 ok2.sub;by_cases K4:i < ds.length
  ·obtain⟨go,y⟩:=k1 K4;refine .inr ⟨go,λρ' H'=>∃ Z3 s3 w3,StOk F H' Z3 (inj s3 w3) ρ'/\Same Z1 Z3/\WL F Z3 (JX inj) (lFor step (ds.drop (i+1)) s3) D,λρ' H' ⟨Z3,s3,w3,q⟩=>⟨ds.length - (i+1),by omega,rfl,K4,Z3,s3,w3,q⟩,λx H' hy=>?_⟩;obtain⟨Z2',d,x',e3,rd⟩:=y x H' hy;have ok2:=ok2.more x';have hd:ds.drop i=d::ds.drop (i+1):=by
    obtain⟨hi,e4⟩:=Gc.mp e3;rw[Hz hi,e4]
   rw[hd,eW]at wl2;refine⟨Z2',inj s w2,d,ok2,rd,?_⟩;cases q:g d (inj s w2) with
   | err k=>exact absurd q (hno s w2 d k)
   | stuck=>rw[K8 s w2 d q]at wl2;exact wl2
   | ok S1 =>
    intro H4 Z4 x4 ρ4 ok4;refine⟨⟨s,w2,d,S1⟩,q,Z4,ok4,?_⟩;have z14:Same Z1 Z4:=(z2.trans x'.z).trans x4.z;cases qb:step s d with
    | nx s5 =>
     rw[qb]at wl2;exact λS5 ρ5 H5 Z5 ⟨w5,e5⟩ z5 ok5=>⟨Z5,s5,w5,by rw[<- e5];exact ok5,z14.trans z5,WL.more wl2 ((x'.z.trans x4.z).trans z5)⟩
    | rt d=>rw[qb]at wl2;exact wl2
    | er k=>rw[qb]at wl2;exact wl2
    | stuck=>rw[qb]at wl2;exact wl2
  ·refine .inl ⟨k2 (by omega),?_⟩;rw[HI (by omega)]at wl2;exact wl2 (inj s w2) ρ2 H2 Z2 ⟨w2,rfl⟩ (Same.refl _) ok2
theorem pR (i:Nat){r:R (List D)}{s0:τ}{B:τ->W->D->SS}(w0:W)(hp:PassesOwn (model X.prog X.w) X.A X.env X.xe)(hc:X.calm=true)(hi:FI X F tg iter git)(hr:git S=r)(hg:FG X F tg (gNm i))
  (hS:S=inj s0 w0) (hB:∀ s w x,(inj s w).set i (some (.val x))=B s w x) (hb:∀ s w x,FL X F (B s w x) body (JX inj) (step s x))
  (hs:∀ x,foldedSetIterable iter X.env x=pure x:=by intro _;rfl):FL1 X F S (.For tg iter body [] pos) (JX inj) (lB r λxs=>lFor step xs s0) :=
 yg w0 hp hc hi hr hg (λs w x S1 e=>by cases e;rw[hB];exact hb s w x) (λs w x k e=>nomatch e) (λs w x e=>nomatch e) hS hs
end
section
variable {σ τ W:Type}{F:Fx}{rest:Lo}{J:σ->SS->Prop}
end
section
variable {σ τ W:Type}{F:Fx}{g:SS->O}{kp:Pos}
end
section
variable {σ τ W:Type}{F:Fx}{rest:Lo}{J:σ->SS->Prop}
end
section
variable {F:Fx}{e:Expr}{g g':KZ}{gs:List (KZ)}{f:KS}
theorem i9 (h:FE X F e g)(hg:∀ S,g S=g' S):FE X F e g':=by
 have:g=g':=funext hg;rw[<- this];exact h
theorem k9 {g g':SS->O}(h:FS X F st g)(hg:∀ S,g S=g' S):FS X F st g':=by
 have:g=g':=funext hg;rw[<- this];exact h
def aL:List (KZ)->KY
 | []=>aNil
 | g::gs=>aCons g (aL gs)
def eBA {α:Type}(f:List D->R α)(gs:List (KZ)):SS->R α:=λS=>bA (gs.map λg=>g S) f
theorem g7 {α β:Type}{r:R α}{f f':α->R β}(h:∀ a,f a=f' a):r.bind f=r.bind f':=by cases r<;>first | exact h _ | rfl
theorem cL {α:Type}(S:SS):∀ (gs:List (KZ)) (f:List D->R α),(aL gs S).bind f=eBA f gs S
 | [],f=>rfl
 | g::gs,f=>by
  show ((g S).bind λd=>(aL gs S).bind λds=>R.ok (d::ds)).bind f=(g S).bind λd=>bA (gs.map λg=>g S) λds=>f (d::ds)
  rw[R.bind_assoc];refine g7 λd=>?_
  rw[R.bind_assoc];exact cL S gs λds=>f (d::ds)
theorem j0 {S:SS}:∀ {gs:List (KZ)} {ds:List D},aL gs S=.ok ds->ds.length=gs.length
 | [],ds,h=>by cases h;rfl
 | g::gs,ds,h=>ou (λS' ds' h'=>by
   by_cases q:S'=S
   ·subst q;exact j0 h'
   ·exact j0 h') S ds h
structure FAL (X:Cx)(F:Fx)(es:Lp)(gs:List (KZ)):Prop where
 out:FA X F es (aL gs)
theorem cM:FAL X F [] []:=⟨Dr⟩
theorem lR (ha:FE X F e g)(hr:FAL X F es gs)(hs:Id X e es:=by rfl):FAL X F (e::es) (g::gs):=⟨AE ha hr.out hs⟩
theorem fe_N (h:FE X F e (eCall f (aL gs))):FE X F e (eBA f gs):=i9 h λS=>cL S gs f
theorem ag {x:Str}{p:Pos}{ps:List Str}(b:BX X F k)(h:Fn1 X.prog X.w F.K X.mg X.base F.C k x ps f)(hg:Gl X x)(ha:FAL X F (e::es) gs)(hn:gs.length=ps.length:=by rfl)(K6:KH x:=by decide)
  (he:Id X e es:=by rfl) (hpl:IO X pos es:=by rfl):FE X F (.Call (.Name x p) (e::es) [] pos) (eBA f gs) :=
 fe_N (AN b h hg ha.out (λS ds q=>(j0 q).trans hn) K6 he hpl)
theorem ap {x1}(h:FAL X F es gs)(hl:gs.length<=16777216:=by exact Gk rfl):FE X F (.Tuple es x1 pos) (eBA (λds=>.ok (.tup ds)) gs) :=
 i9 (Ds h.out) λS=>by
  rw[<- cL];show (aL gs S).bind _=_;cases q:aL gs S with
  | ok ds=>show (if ds.length<=16777216 then R.ok (FF.D.tup ds) else R.stuck)=_;rw[if_pos (by rw[j0 q];exact hl)];rfl
  | err k=>rfl
  | stuck=>rfl
theorem aA (h:FAL X F es gs)(hl:gs.length<=16777216:=by exact Gk rfl):FE X F (.List es pos) (eBA (λds=>.ok (.lst ds)) gs) :=
 i9 (Dt h.out) λS=>by
  rw[<- cL];show (aL gs S).bind _=_;cases q:aL gs S with
  | ok ds=>show (if ds.length<=16777216 then R.ok (FF.D.lst ds) else R.stuck)=_;rw[if_pos (by rw[j0 q];exact hl)];rfl
  | err k=>rfl
  | stuck=>rfl
end
section
variable {F:Fx}{e f:Expr}{p:Pos}{x:Str}
theorem EI (hm:X.mg x=some (.ref (F.C i)))(hg:Gl X x)(hd:KH x:=by decide):FE X F (.Name x pos) (eC (.fn i)) :=
 dE (aR (v:=.ref (F.C i)) hg hm rfl hd) λ_=>by rw[Rep]
theorem yh {CX:CXT}{tf:TE}{t:TA}(hf:PE X f tf)(hr:Room k X.A)(hx:Passes CX X E)(ha:PA X (e::es) t)
  (hev:eval (.Call f (e::es) [] pos) X.env=(do callWith pos (<- eval f X.env) [] (backTo pos (starEach (e::es) X.env)) (backToKw pos (keywordEach [] X.env))):=by rfl)
  (he:Id X e es:=by rfl) (hpl:IO X pos es:=by rfl) :
  PE X (.Call f (e::es) [] pos) (λσ H Q=>tf σ H λv H1=>∃ a fd ps sp,v=.ref a/\FnOk X.prog X.w X.K X.mg X.base CX k a fd ps sp/\keepIn X.K (.ref a)=true/\Binds X.K fd ps []/\t σ H1 λvs H2=>sp (vs++[]) H2 Q E):=by
 intro am s σ H Q I h;rw[hev];refine F3 (thn (hf am s σ H _ I h) λu s1 ⟨v,H1,I1,r,a,fd,ps,sp,ev,FO,hk,hb,q⟩=>?_);subst ev;cases r;refine callWith_K I1.ok.mod.kin hk (thn (ha pos am s1 σ H1 _ I1 q) λus s2 ⟨vs,H2,I2,r2,q2⟩=>⟨I2.kIn,?_⟩) he hpl;exact pA FO hr hb .nil hx I2 r2 q2
structure FnV (P:Program)(w:World)(K:Frag)(mg:KW)(base:Heap)(C:La)(k:Nat)(i:Nat)(f:KS):Prop where
 ex:∃ fd ps,FnOk P w K mg base (CXE P w) k (C i) fd ps (spF K C ps.length f)/\keepIn K (.ref (C i))=true/\Binds K fd ps []/\∀ ds,ds.length≠ps.length->f ds=.stuck
abbrev KP:=Nat->KS
def eCV (fs:List Nat)(t:KP)(gf:KZ)(gs:List (KZ)):KZ:=λS=>(gf S).bind λf=>onF fs f λi=>bA (gs.map λg=>g S) (t i)
theorem qY {fs:List Nat}{t:KP}{gf:KZ}{gs:List (KZ)}(b:BX X F k)(hT:∀ i∈fs,FnV X.prog X.w F.K X.mg X.base F.C k i (t i))(hf:FE X F f gf)(ha:FAL X F (e::es) gs)
  (hev:eval (.Call f (e::es) [] pos) X.env=(do callWith pos (<- eval f X.env) [] (backTo pos (starEach (e::es) X.env)) (backToKw pos (keywordEach [] X.env))):=by rfl)
  (he:Id X e es:=by rfl) (hpl:IO X pos es:=by rfl) :
  FE X F (.Call f (e::es) [] pos) (eCV fs t gf gs) :=
 (yh hf b.room b.pass ha.out hev he hpl).weak λσ H Q ⟨Z,S,ok,w⟩=>by
  refine ak ok w λd v H1 Z1 ok1 x1 rv w1=>?_
  cases d with
  | fn i =>
   by_cases hi:fs.contains i=true
   ·rw[Rep]at rv;obtain⟨fd,ps,h1,h2,h3,h4⟩:=(hT i (by simpa using hi)).ex;refine⟨F.C i,fd,ps,_,rv,by rw[b.K];exact h1,by rw[b.K];exact h2,by rw[b.K];exact h3,?_⟩;have e0:onF fs (.fn i) (λi=>bA (gs.map λg=>g S) (t i))=(aL gs S).bind (t i):=by
     rw[cL];show (if fs.contains i=true then _ else R.stuck)=_;rw[if_pos hi];rfl
    rw[e0]at w1;refine aS ok1 w1 λds vs H2 Z2 ok2 x2 rs w4=>?_
    by_cases hl:ds.length=ps.length
    ·refine⟨by rw[Gs,<- rs.length];exact hl,Z2,ds,ok2.sub,by rw[Gs];exact rs,?_⟩;cases q:t i ds with
     | ok d=>rw[q]at w4;exact w4
     | err k=>rw[q]at w4;exact w4
     | stuck=>rw[q]at w4;exact w4
    ·rw[h4 ds hl]at w4;exact w4.elim
   ·have e0:onF fs (.fn i) (λi=>bA (gs.map λg=>g S) (t i))=.stuck:=by
     show (if fs.contains i=true then _ else R.stuck)=_;rw[if_neg hi]
    rw[e0]at w1;exact w1.elim
  | _=>exact w1.elim
end
theorem qZ {S:SS}{g:Li}{c:Le}{e:KZ}:∀ ds,noErr (compGo S g c e ds)=cGo (λd=>(g d S).bind c) (λd=>(g d S).bind e) ds
 | []=>rfl
 | d::r=>by
  have ih:=qZ (S:=S) (g:=g) (c:=c) (e:=e) r;rw[cGo,compGo];cases q:g d S with
  | err k=>rfl
  | stuck=>rfl
  | ok S1 =>
   show noErr ((c S1).bind λt=>if t=true then (e S1).bind λy=>(compGo S g c e r).bind λys=>.ok (y::ys) else compGo S g c e r)=(match c S1 with
    | .ok true=>match e S1 with
     | .ok y=>match cGo _ _ r with
      | .ok ys=>.ok (y::ys)
      | _=>.stuck
     | _=>.stuck
    | .ok false=>cGo _ _ r
    | _=>.stuck)
   cases qc:c S1 with
   | err k=>rfl
   | stuck=>rfl
   | ok t =>
    cases t with
    | false=>exact ih
    | true =>
     cases qe:e S1 with
     | err k=>rfl
     | stuck=>rfl
     | ok y =>
      rw[<- ih];cases compGo S g c e r<;>rfl
def eCC (own:Nat)(cap:List Nat)(it:KY)(g:Li)(c:Le)(e:KZ):KZ:=λS=>(it S).bind λds=>(cGo (λd=>(g d (blkS own cap S)).bind c) (λd=>(g d (blkS own cap S)).bind e) ds).bind λys=>.ok (.lst ys)
theorem yi {it:KY}{g:Li}{c:Le}{e:KZ}(S:SS):eComp own cap it g c e S=eCC own cap it g c e S:=by
 unfold eComp eCC;exact g7 λds=>by rw[qZ]
theorem fe_C {F:Fx}{e:Expr}{it:KY}{g:Li}{c:Le}{el:KZ}(h:FE X F e (eComp own cap it g c el)):FE X F e (eCC own cap it g c el):=i9 h yi
section
variable {F:Fx}{g:KZ}
def sAppC (i:Nat)(g:KZ):SS->O:=λS=>match S[i]? with
 | some (some (.own ds))=>rO (((g S).bind λv=>oApp ds v).bind λds'=>.ok (.nx (S.set i (some (.own ds')))))
 | _=>.stuck
theorem yj {α:Type}(r:R D)(f:List D->R α):((r.bind λd=>(R.ok []:R (List D)).bind λds=>R.ok (d::ds)).bind f)=r.bind λd=>f [d]:=by cases r<;>rfl
def sExtC (i:Nat)(g:KZ):SS->O:=λS=>match S[i]? with
 | some (some (.own ds))=>rO (((g S).bind λv=>oExt ds v).bind λds'=>.ok (.nx (S.set i (some (.own ds')))))
 | _=>.stuck
theorem fs_X (h:FS X F st (sExt i (aL [g]))):FS X F st (sExtC i g):=k9 h λS=>by
 unfold sExt sExtC;cases q:S[i]? with
 | none=>rfl
 | some o =>
  cases o with
  | none=>rfl
  | some x =>
   cases x with
   | val d=>rfl
   | mat m=>rfl
   | dic m=>rfl
   | dit m=>rfl
   | own ds =>
    show rO (((g S).bind λd=>(R.ok []:R (List D)).bind λds=>R.ok (d::ds)).bind _)=rO _;rw[yj,R.bind_assoc];refine GA rO (g7 λv=>?_);unfold oExt;cases v with
    | lst xs=>by_cases hl:ds.length+xs.length<=16777216<;>simp[hl]
    | tup xs=>by_cases hl:ds.length+xs.length<=16777216<;>simp[hl]
    | _=>rfl
def sOwnC (i:Nat)(gs:List (KZ)):SS->O:=λS=>rO ((eBA .ok gs S).bind λds=>.ok (.nx (S.set i (some (.own ds)))))
theorem fs_O {gs:List (KZ)}(h:FS X F st (sOwn i (aL gs)))(hl:gs.length<=16777216:=by exact Gk rfl):FS X F st (sOwnC i gs):=k9 h λS=>by
 unfold sOwn sOwnC;rw[<- cL,R.bind_assoc];refine GA rO ?_;cases q:aL gs S with
 | ok ds=>show (if ds.length<=16777216 then _ else _)=_;rw[if_pos (by rw[j0 q];exact hl)];rfl
 | err k=>rfl
 | stuck=>rfl
end
section
variable {F:Fx}{e:Expr}{g ga:KZ}{f:List D->KS}{gs:List (KZ)}
def eML (f:List D->KS)(g:KZ)(gs:List (KZ)):KZ:=λS=>(g S).bind λd=>onL d λxs=>bA (gs.map λg=>g S) (f xs)
theorem Cy (h:FE X F e (eMethL f g (aL gs))):FE X F e (eML f g gs):=i9 h λS=>by
 unfold eMethL eML;refine g7 λd=>?_
 cases d with
 | lst xs=>exact cL S gs (f xs)
 | _=>rfl
theorem AY {g g':KY}(h:FI X F tg e g)(hg:∀ S,g S=g' S):FI X F tg e g':=by
 have:g=g':=funext hg;rw[<- this];exact h
theorem oG (h:FI X F tg e (iRange1 (aL gs))):FI X F tg e (eBA rng1 gs):=AY h λS=>cL S gs rng1
end
theorem EJ {k:Lj}{ds:List D}(h:ds.length≠1):a1 k ds=.stuck:=by
 match ds,h with
 | [],_=>rfl
 | [_],h=>exact absurd rfl h
 | _::_::_,_=>rfl
theorem kJ {k:D->Lj}{ds:List D}(h:ds.length≠2):a2 k ds=.stuck:=by
 match ds,h with
 | [],_=>rfl
 | [_],_=>rfl
 | [_,_],h=>exact absurd rfl h
 | _::_::_::_,_=>rfl
section
variable {σ:Type}{F:Fx}{rest:Lo}{J:σ->SS->Prop}
theorem AZ (i j:Nat){ga gb:KZ}{ra rb:R D}{S':D->D->SS}{k:D->D->L σ}(h:FS X F st (sAsg (gTup [i,j]) (eTup (aL [ga,gb]))))(ha:ga S=ra)(hb:gb S=rb)(hS:∀ x y,(S.set i (some (.val x))).set j (some (.val y))=S' x y)
  (hk:∀ x y,FL X F (S' x y) rest J (k x y)):FL X F S (st::rest) J (lB ra λx=>lB rb λy=>k x y):=by
 have e:sAsg (gTup [i,j]) (eTup (aL [ga,gb])) S=rO ((ra.bind λx=>rb.bind λy=>R.ok (x,y)).bind λp=>.ok (.nx (S' p.1 p.2))):=by
  unfold sAsg eTup;show rO (((((ga S).bind λd=>((gb S).bind λd=>(R.ok []:R (List D)).bind λds=>R.ok (d::ds)).bind λds=>R.ok (d::ds)).bind λds=>if ds.length<=16777216 then R.ok (FF.D.tup ds) else .stuck)).bind λd=>(gTup [i,j] d S).bind λS1=>R.ok (O.nx S1))=_;rw[ha,hb];cases ra with
  | err k=>rfl
  | stuck=>rfl
  | ok x =>
   cases rb with
   | err k=>rfl
   | stuck=>rfl
   | ok y=>show O.nx ((S.set i (some (.val x))).set j (some (.val y)))=O.nx (S' x y);rw[hS]
 have:=k8 (r:=ra.bind λx=>rb.bind λy=>R.ok (x,y)) h e λp=>hk p.1 p.2
 have q:lB (ra.bind λx=>rb.bind λy=>R.ok (x,y)) (λp=>k p.1 p.2)=lB ra λx=>lB rb λy=>k x y:=by
  cases ra with
  | ok x=>cases rb<;>rfl
  | err k=>rfl
  | stuck=>rfl
 grind
end
section
variable {w:World}
theorem A0 {x qual:Str}{f:Addr}{fd:FuncData}{ps:List Str}{fn:KS}(F:Fun K x qual st f fd)(S:FnScope N ps (defScope st))
  (h:∀ (J4:Value) (A:Around) (outer:List Env) (s:Shared) (H Z:Hp) (E:XK),BX (bodyX P w K mg base N qual (defScope st) f J4 A outer s H E) ⟨K,C,H,Z,E⟩ k ->
   PassesOwn (model P w) (bodyX P w K mg base N qual (defScope st) f J4 A outer s H E).A (bodyX P w K mg base N qual (defScope st) f J4 A outer s H E).env (bodyX P w K mg base N qual (defScope st) f J4 A outer s H E).xe ->
   MadeX (bodyX P w K mg base N qual (defScope st) f J4 A outer s H E) ⟨K,C,H,Z,E⟩ ->
   ∀ ds,ds.length=ps.length->∃ l:L Unit,fn ds=outL l/\FL (bodyX P w K mg base N qual (defScope st) f J4 A outer s H E) ⟨K,C,H,Z,E⟩ (startS N.length ds) (defBody st) JU l) :
  FnOk P w K mg base (CXE P w) (k+1) f fd ps (spF K C ps.length fn):=by
 obtain⟨oc,od,kV,doc,pm,an,J4,ct,osl,rfl,lk,Ks⟩:=F.ex;refine oq lk Ks S (λvs H Q E q=>q.1) λA outer s H vs Q E hr hsp=>?_
 obtain⟨hv,Z,ds,z,r,w⟩:=hsp;obtain⟨l,e,hl⟩:=h J4 A outer s H Z E ⟨hr,rfl,rfl,b0⟩ Hw (λam σ H1 s1 h1 ea C1 args I hx hE=>eV I hx hE) ds (by rw[r.length];exact hv);refine⟨_,hl,Z,cC z r,?_⟩;rw[e]at w;cases l with
 | nx u=>exact λS' ρ' H' Z' _ _ ok=>w H' Z' ok.ex .non (by rw[Rep])
 | rt d=>exact λv H' Z' x rv=>w H' Z' x v rv
 | er k=>exact w
 | stuck=>exact w
end
theorem len0 {ds:List D}(h:ds.length=0):ds=[]:=Hk.mp h
theorem len1 {ds:List D}(h:ds.length=1):∃ a,ds=[a]:=by
 match ds,h with
 | [a],_=>exact⟨a,rfl⟩
theorem len2 {ds:List D}(h:ds.length=2):∃ a b,ds=[a,b]:=by
 match ds,h with
 | [a,b],_=>exact⟨a,b,rfl⟩
theorem len3 {ds:List D}(h:ds.length=3):∃ a b c,ds=[a,b,c]:=by
 match ds,h with
 | [a,b,c],_=>exact⟨a,b,c,rfl⟩
theorem len4 {ds:List D}(h:ds.length=4):∃ a b c d,ds=[a,b,c,d]:=by
 match ds,h with
 | [a,b,c,d],_=>exact⟨a,b,c,d,rfl⟩
theorem len5 {ds:List D}(h:ds.length=5):∃ a b c d e,ds=[a,b,c,d,e]:=by
 match ds,h with
 | [a,b,c,d,e],_=>exact⟨a,b,c,d,e,rfl⟩
inductive OC where
 | ins (c:Nat) (fs:List (Str×D)) | lst (ds:List D)
abbrev Wd:=Addr->Option OC
variable {W:Wd}
def wput (W:Wd)(a:Addr)(o:OC):Wd:=λb=>if b=a then some o else W b
def WObj (K:Frag)(C:La)(H Z:Hp)(a:Addr):OC->Prop
 | .ins c fs=>∃ dx vs,H a=some (.ins (C c) dx vs)/\H dx=some (.own a)/\Cls K (C c)/\vs.map Prod.fst=fs.map Prod.fst/\Reps K C Z (fs.map Prod.snd) (vs.map Prod.snd)
 | .lst ds=>∃ vs,H a=some (.lst vs)/\Reps K C Z ds vs
def TblOk (H:Hp)(P:Addr)(q:Str):Prop:=∃ ps,H P=some (.tbl ps)/\TriplesOk ps.toList /\
 ∀ pos cv,codeAmong pos ps.toList=some cv->∃ c oc ws t,cv=.ref c/\H c=some (.frz oc (.own 0))/\oc.data=.fields ws/\ws[1]?=some (.str q t)
def qOf (K:Frag)(f:Addr):Str:=match K.lookup f with
 | some ⟨_,_,.func fd,_⟩=>fd.qualname ++ ".<locals>." ++ "<lambda>"
 | _=>Str.empty
def Tbs (K:Frag)(C:La)(H:Hp):Prop:=∀ i,i < C 900->TblOk H (C (901+2*i)) (qOf K (C (902+2*i)))
theorem Tbs.mono (h:Tbs K C H)(x:Same H H'):Tbs K C H':=λi hi=>by
 obtain⟨ps,e,t,k⟩:=h i hi;refine⟨ps,x _ _ e,t,λpos cv q=>?_⟩;obtain⟨c,oc,ws,t,e1,e2,r⟩:=k pos cv q;exact⟨c,oc,ws,t,e1,x _ _ e2,r⟩
theorem Tbs.put {o:HO}(h:Tbs K C H)(m:Mut (H a)):Tbs K C (upd H a o):=λi hi=>by
 obtain⟨ps,e,t,k⟩:=h i hi;refine⟨ps,by rw[ae (λz=>by rw[<- z,e]at m;exact m)];exact e,t,λpos cv q=>?_⟩;obtain⟨c,oc,ws,t,e1,e2,r⟩:=k pos cv q;exact⟨c,oc,ws,t,e1,by rw[ae (λz=>by rw[<- z,e2]at m;exact m)];exact e2,r⟩
structure WdOk (K:Frag)(C:La)(H Z:Hp)(W:Wd):Prop where
 wo:∀ a o,W a=some o->WObj K C H Z a o
 tb:Tbs K C H
instance {K:Frag}{C:La}{H Z:Hp}{W:Wd}:CoeFun (WdOk K C H Z W) (λ_=>∀ a o,W a=some o->WObj K C H Z a o):=⟨WdOk.wo⟩
theorem WObj.mono {o:OC}(h:WObj K C H Z a o)(x:Same H H')(z:Same Z Z'):WObj K C H' Z' a o:=by
 cases o with
 | ins c fs=>obtain⟨dx,vs,e1,e2,c,e3,r⟩:=h;exact⟨dx,vs,x _ _ e1,x _ _ e2,c,e3,r.mono z⟩
 | lst ds=>obtain⟨vs,e1,r⟩:=h;exact⟨vs,x _ _ e1,r.mono z⟩
theorem WdOk.mono (h:WdOk K C H Z W)(x:Same H H')(z:Same Z Z'):WdOk K C H' Z' W:=⟨λa o e=>(h.wo a o e).mono x z,h.tb.mono x⟩
structure GX (HW Z H Ko Z' H':Hp):Prop where
 fr:∀ b o,HW b=none->H b=some o->H' b=some o
 z:Same Z Z'
 zh:Same Z' H'
 wh:Same Ko H'
 dm:∀ b,HW b≠none->Ko b≠none
 nw:∀ b,Ko b≠none->HW b≠none\/H b=none
 nz:∀ b,Z' b≠none->Z b≠none\/H b=none
 dj:∀ b,Ko b≠none->Z' b=none
theorem uE {o:Option HO}(h:o≠none):∃ u,o=some u:=by cases o with | none=>exact absurd rfl h | some u=>exact⟨u,rfl⟩
theorem bb {o:Option HO}{u:HO}(h:o=some u):o≠none:=by rw[h];simp
theorem GX.refl (zh:Same Z H)(wh:Same HW H)(dj:∀ b,HW b≠none->Z b=none):GX HW Z H HW Z H :=
 ⟨λ_ _ _ e=>e,Same.refl _,zh,wh,λ_ h=>h,λ_ h=>.inl h,λ_ h=>.inl h,dj⟩
theorem GX.trans {H1 HW2 Z2 H2:Hp}(a:GX HW Z H Kp Z1 H1)(b:GX Kp Z1 H1 HW2 Z2 H2):GX HW Z H HW2 Z2 H2:=by
 have back:∀ c,H1 c=none->H c=none\/HW c≠none:=λc h=>by
  cases e:HW c with
  | some o=>exact .inr (by simp)
  | none =>
   cases e2:H c with
   | none=>exact .inl rfl
   | some o=>have:=a.fr c o e e2;rw[h]at this;cases this
 refine⟨λc o h1 h2=>?_,a.z.trans b.z,b.zh,b.wh,λc h=>b.dm c (a.dm c h),λc h=>?_,λc h=>?_,b.dj⟩
 ·have e:=a.fr c o h1 h2;cases q:Kp c with
  | none=>exact b.fr c o q e
  | some u =>
   rcases a.nw c (bb q) with z | z
   ·exact absurd h1 z
   ·rw[h2]at z;cases z
 ·rcases b.nw c h with z | z
  ·exact a.nw c z
  ·exact(back c z).symm
 ·rcases b.nz c h with z | z
  ·exact a.nz c z
  ·rcases back c z with q | q
   ·exact .inr q
   ·exact absurd (b.dj c (b.dm c (a.dm c q))) h
def kp (HW Z HW0 H0 H:Hp):Hp:=λb=>if HW b≠none\/Z b≠none\/(HW0 b=none/\H0 b≠none) then H b else none
theorem pS :Same (kp HW Z HW0 H0 H) H:=λb o e=>by
 unfold kp at e
 grind
section
variable {Z0:Hp}
theorem kp_w (g:GX HW0 Z0 H0 HW Z H):Same HW (kp HW Z HW0 H0 H):=λb o e=>by
 unfold kp;rw[if_pos (.inl (bb e))];exact g.wh b o e
theorem kp_z (g:GX HW0 Z0 H0 HW Z H):Same Z (kp HW Z HW0 H0 H):=λb o e=>by
 unfold kp;rw[if_pos (.inr (.inl (bb e)))];exact g.zh b o e
theorem kp_0 (g:GX HW0 Z0 H0 HW Z H){o:HO}(h:HW0 b=none)(e:H0 b=some o):kp HW Z HW0 H0 H b=some o:=by
 unfold kp;rw[if_pos (.inr (.inr ⟨h,bb e⟩))];exact g.fr b o h e
theorem g8 (g:GX HW0 Z0 H0 HW Z H)(h:kp HW Z HW0 H0 H b=none):HW b=none/\Z b=none/\(HW0 b≠none\/H0 b=none):=by
 refine⟨?_,?_,?_⟩
 ·cases e:HW b with
  | none=>rfl
  | some o=>rw[kp_w g b o e]at h;cases h
 ·cases e:Z b with
  | none=>rfl
  | some o=>rw[kp_z g b o e]at h;cases h
 ·cases e:HW0 b with
  | some o=>exact .inl (by simp)
  | none =>
   cases e2:H0 b with
   | none=>exact .inr rfl
   | some o=>rw[kp_0 g e e2]at h;cases h
theorem Cz (h1:HW b=none)(h2:Z b=none)(h3:HW0 b≠none\/H0 b=none):kp HW Z HW0 H0 H b=none:=by
 unfold kp;rw[if_neg]
 rintro (z | z | z)
 ·exact z h1
 ·exact z h2
 ·rcases h3 with q | q
  ·exact q z.1
  ·exact z.2 q
theorem GX.err (g:GX HW0 Z0 H0 HW Z H)(s:Same (kp HW Z HW0 H0 H) H'):GX HW0 Z0 H0 HW Z H' :=
 ⟨λb o h e=>s b o (kp_0 g h e),g.z,(kp_z g).trans s,(kp_w g).trans s,g.dm,g.nw,g.nz,g.dj⟩
theorem GX.after (g:GX HW0 Z0 H0 HW Z H)(x:Ex (kp HW Z HW0 H0 H) Z H' Z'):GX HW0 Z0 H0 HW Z' H':=by
 have e:=g.err x.same;refine⟨e.fr,g.z.trans x.z,x.sub,e.wh,g.dm,g.nw,λb h=>?_,λb h=>?_⟩
 ·rcases x.new b h with q | q
  ·exact g.nz b q
  ·rcases(g8 g q).2.2 with z | z
   ·exact absurd (g8 g q).1 (g.dm b z)
   ·exact .inr z
 ·cases q:Z' b with
  | none=>rfl
  | some o =>
   rcases x.new b (bb q) with z | z
   ·exact absurd (g.dj b h) z
   ·exact absurd (g8 g z).1 h
theorem GX.ex (zh:Same Z H)(wh:Same HW H)(dj:∀ b,HW b≠none->Z b=none)(x:Ex H Z H' Z'):GX HW Z H HW Z' H' :=
 ⟨λb o _ e=>x.same b o e,x.z,x.sub,wh.trans x.same,λ_ h=>h,λ_ h=>.inl h,x.new,λb h=>by
  cases q:Z' b with
  | none=>rfl
  | some o =>
   rcases x.new b (bb q) with z | z
   ·exact absurd (dj b h) z
   ·obtain⟨u,e⟩:=uE h;rw[wh b u e]at z;cases z⟩
end
theorem StOk.rebase {F F':Fx}{σ:St}(h:StOk F H Z S σ)(x:Ex F'.H0 F'.Z0 H Z)(hp:∀ a o,H a=some o->Z a=none->F.H0 a=none->F'.H0 a=none)(hK:F'.K=F.K:=by rfl)(hC:F'.C=F.C:=by rfl):StOk F' H Z S σ:=by
 refine⟨x,h.len,λi y e=>?_,λi j y z v w A B hij e1 e2 e3 e4 o1 o2=>?_⟩
 ·obtain⟨v,A,e1,o,p⟩:=h.sl i y e;exact⟨v,A,e1,ow_K o hK hC,⟨p.nd,p.z,λa ha=>let ⟨u,hu⟩:=o.there a ha;hp a u hu (p.z a ha) (p.h0 a ha)⟩⟩
 ·exact h.dj i j y z v w A B hij e1 e2 e3 e4 (ow_K o1 hK.symm hC.symm) (ow_K o2 hK.symm hC.symm)
structure Gx where
 K:Frag
 C:La
 HW0:Hp
 Z0:Hp
 H0:Hp
 E:XK
variable {G:Gx}
abbrev Gx.at (G:Gx)(H0 Z0:Hp):Fx:=⟨G.K,G.C,H0,Z0,G.E⟩
abbrev Gx.fx (G:Gx)(HW Z H:Hp):Fx:=⟨G.K,G.C,kp HW Z G.HW0 G.H0 H,Z,G.E⟩
structure GOk (G:Gx)(W:Wd)(HW Z H:Hp)(S:SS)(ρ:St):Prop where
 gx:GX G.HW0 G.Z0 G.H0 HW Z H
 wd:WdOk G.K G.C HW Z W
 nm:StOk (G.fx HW Z H) H Z S ρ
abbrev Wk (F:Fx)(W:Wd):Prop:=WdOk F.K F.C F.H0 F.Z0 W
section
variable {W':Wd}{Ko:Hp}{ρ':St}
theorem GOk.wk (h:GOk G W HW Z H S ρ):Wk (G.fx HW Z H) W:=h.wd.mono (kp_w h.gx) (Same.refl _)
theorem GOk.after (h:GOk G W HW Z H S ρ)(k:StOk (G.fx HW Z H) H' Z' S' ρ'):GOk G W HW Z' H' S' ρ':=by
 have g:=h.gx.after k.ex;refine⟨g,h.wd.mono (Same.refl _) k.ex.z,k.rebase ⟨pS,Same.refl _,k.sub,λ_ q=>.inl q⟩ λa o e z n=>?_⟩;have q:=g8 h.gx n;exact Cz q.1 z q.2.2
theorem GOk.more (h:GOk G W HW Z H S ρ)(x:GX HW Z H Ko Z' H')(w:WdOk G.K G.C Ko Z' W'):GOk G W' Ko Z' H' S ρ:=by
 have g:=h.gx.trans x;have keep:∀ {y:Sl} {v:V} {A:List Addr},Ow (G.fx HW Z H) H Z y v A->Priv (G.fx HW Z H) Z A->Ow (G.fx Ko Z' H') H' Z' y v A:=λo p=>ow_K (o.mono x.z λa ha u e=>x.fr a u (g8 h.gx (p.h0 a ha)).1 e)
 refine⟨g,w,⟨⟨pS,Same.refl _,x.zh,λ_ q=>.inl q⟩,h.nm.len,λi y e=>?_,λi j y z v w A B hij e1 e2 e3 e4 o1 o2=>?_⟩⟩
 ·obtain⟨v,A,e1,o,p⟩:=h.nm.sl i y e;refine⟨v,A,e1,keep o p,⟨p.nd,λa ha=>?_,λa ha=>?_⟩⟩
  ·obtain⟨u,hu⟩:=o.there a ha;cases q:Z' a with
   | none=>rfl
   | some r =>
    rcases x.nz a (bb q) with z | z
    ·exact absurd (p.z a ha) z
    ·rw[hu]at z;cases z
  ·obtain⟨u,hu⟩:=o.there a ha;have n:=g8 h.gx (p.h0 a ha);refine Cz ?_ ?_ n.2.2
   ·cases q:Ko a with
    | none=>rfl
    | some r =>
     rcases x.nw a (bb q) with z | z
     ·exact absurd n.1 z
     ·rw[hu]at z;cases z
   ·cases q:Z' a with
    | none=>rfl
    | some r =>
     rcases x.nz a (bb q) with z | z
     ·grind
     ·rw[hu]at z;cases z
 ·obtain⟨v',A',f1,q1,p1⟩:=h.nm.sl i y e1;obtain⟨w',B',f2,q2,p2⟩:=h.nm.sl j z e2;rw[e3]at f1;cases f1;rw[e4]at f2;cases f2;rw[o1.det (keep q1 p1),o2.det (keep q2 p2)];exact h.nm.dj i j y z v w A' B' hij e1 e2 e3 e4 q1 q2
end
inductive RW where
 | ok (w:Wd) (d:D) | er (w:Wd) (k:Nat) | al (w:Wd) (f:Addr->RW) | stuck
inductive LW (σ:Type) where
 | nx (w:Wd) (s:σ) | rt (w:Wd) (d:D) | er (w:Wd) (k:Nat) | al (w:Wd) (f:Addr->LW σ) | stuck
def WRW (K:Frag)(C:La)(E:XK)(HW Z H:Hp)(P:Wd->D->Hp->Hp->Lh):RW->Prop
 | .ok w d=>∀ Ko Z' H',GX HW Z H Ko Z' H'->WdOk K C Ko Z' w->P w d Ko Z' H'
 | .er w k=>∀ Ko Z' H',GX HW Z H Ko Z' H'->WdOk K C Ko Z' w->E (.ref (C k)) none H'
 | .al w f=>∀ a,w a=none->WRW K C E HW Z H P (f a)
 | .stuck=>False
theorem WRW.more {K:Frag}{C:La}{E:XK}{HW Z H Kp Z1 H1:Hp}{P:Wd->D->Hp->Hp->Lh}(x:GX HW Z H Kp Z1 H1):∀ {r:RW},WRW K C E HW Z H P r->WRW K C E Kp Z1 H1 P r
 | .ok w d,h=>λa b c y=>h a b c (x.trans y)
 | .er w k,h=>λa b c y=>h a b c (x.trans y)
 | .al w f,h=>λa e=>WRW.more x (h a e)
 | .stuck,h=>h
theorem WRW.imp {K:Frag}{C:La}{E:XK}{HW Z H:Hp}{P P':Wd->D->Hp->Hp->Lh}(hp:∀ w d Ko Z' H',GX HW Z H Ko Z' H'->WdOk K C Ko Z' w->P w d Ko Z' H'->P' w d Ko Z' H'):∀ {r:RW},WRW K C E HW Z H P r->WRW K C E HW Z H P' r
 | .ok w d,h=>λa b c y z=>hp w d a b c y z (h a b c y z)
 | .er w k,h=>h
 | .al w f,h=>λa e=>WRW.imp hp (h a e)
 | .stuck,h=>h
def WGL {σ:Type}(G:Gx)(Z1:Hp)(J:σ->SS->Prop)(D:Ends):LW σ->Prop
 | .nx w s=>∀ S ρ HW Z H,J s S->Same Z1 Z->GOk G w HW Z H S ρ->D.nx ρ H
 | .rt w d=>∀ v HW Z H,GX G.HW0 G.Z0 G.H0 HW Z H->WdOk G.K G.C HW Z w->Rep G.K G.C Z d v->D.rt v H
 | .er w k=>∀ HW Z H,Same Z1 Z->GX G.HW0 G.Z0 G.H0 HW Z H->WdOk G.K G.C HW Z w->G.E (.ref (G.C k)) none H
 | .al w f=>∀ a,w a=none->WGL G Z1 J D (f a)
 | .stuck=>False
theorem WGL.more {σ:Type}{G:Gx}{Z1 Z2:Hp}{J:σ->SS->Prop}{D:Ends}(z:Same Z1 Z2):∀ {l:LW σ},WGL G Z1 J D l->WGL G Z2 J D l
 | .nx w s,h=>λS ρ HW Z H j q=>h S ρ HW Z H j (z.trans q)
 | .rt w d,h=>h
 | .er w k,h=>λHW Z H q=>h HW Z H (z.trans q)
 | .al w f,h=>λa e=>WGL.more z (h a e)
 | .stuck,h=>h
def tGL {σ:Type}(G:Gx)(W:Wd)(S:SS)(J:σ->SS->Prop)(l:LW σ):TS:=λD ρ H=>∃ HW Z,GOk G W HW Z H S ρ/\WGL G Z J D l
abbrev GL {σ:Type}(X:Cx)(G:Gx)(W:Wd)(S:SS)(sts:Lo)(J:σ->SS->Prop)(l:LW σ):Prop:=PSs X sts (tGL G W S J l)
abbrev GL1 {σ:Type}(X:Cx)(G:Gx)(W:Wd)(S:SS)(st:Stmt)(J:σ->SS->Prop)(l:LW σ):Prop:=PS X st (tGL G W S J l)
def tGE (G:Gx)(W:Wd)(S:SS)(r:RW):TE:=λρ H Q=>∃ HW Z,GOk G W HW Z H S ρ/\WRW G.K G.C G.E HW Z H (λ_ d _ Z' H'=>∀ v,Rep G.K G.C Z' d v->Q v H') r
abbrev GE (X:Cx)(G:Gx)(W:Wd)(S:SS)(e:Expr)(r:RW):Prop:=PE X e (tGE G W S r)
noncomputable def rwR (W:Wd)(r:R D):RW:=match r with
 | .ok d=>.ok W d
 | .err k=>.er W k
 | .stuck=>.stuck
noncomputable def rwA {α:Type}(W:Wd)(r:R α)(k:α->RW):RW:=match r with
 | .ok a=>k a
 | .err e=>.er W e
 | .stuck=>.stuck
noncomputable def lwB {σ:Type}:RW->(Wd->D->LW σ)->LW σ
 | .ok w d,k=>k w d
 | .er w e,_=>.er w e
 | .al w f,k=>.al w λa=>lwB (f a) k
 | .stuck,_=>.stuck
noncomputable def rwB:RW->(Wd->D->RW)->RW
 | .ok w d,k=>k w d
 | .er w e,_=>.er w e
 | .al w f,k=>.al w λa=>rwB (f a) k
 | .stuck,_=>.stuck
noncomputable def lwS {τ σ:Type}:LW τ->(Wd->τ->LW σ)->LW σ
 | .nx w s,k=>k w s
 | .rt w d,_=>.rt w d
 | .er w e,_=>.er w e
 | .al w f,k=>.al w λa=>lwS (f a) k
 | .stuck,_=>.stuck
def outW {σ:Type}:LW σ->RW
 | .nx w _=>.ok w .non
 | .rt w d=>.ok w d
 | .er w k=>.er w k
 | .al w f=>.al w λa=>outW (f a)
 | .stuck=>.stuck
section
variable {e:Expr}{rest:Lo}{σ τ V':Type}{J:σ->SS->Prop}
theorem GOk.wh (h:GOk G W HW Z H S ρ):Same HW H:=h.gx.wh
theorem GOk.zh (h:GOk G W HW Z H S ρ):Same Z H:=h.gx.zh
theorem GOk.self (h:GOk G W HW Z H S ρ):GX HW Z H HW Z H:=GX.refl h.gx.zh h.gx.wh h.gx.dj
theorem GOk.ex (h:GOk G W HW Z H S ρ)(x:Ex H Z H' Z'):GX HW Z H HW Z' H':=GX.ex h.gx.zh h.gx.wh h.gx.dj x
abbrev KM (G:Gx)(W:Wd)(P:Fx->Prop):Prop:=∀ H0 Z0,Wk (G.at H0 Z0) W->P (G.at H0 Z0)
theorem bi {g:KZ}(h:KM G W λF=>FE X F e g):GE X G W S e (rwR W (g S)):=λam s ρ H Q I ⟨HW,Z,ok,w⟩=>by
 refine h _ _ ok.wk am s ρ H Q I ⟨Z,S,ok.nm,?_⟩;cases q:g S with
 | ok d=>rw[q]at w;exact λH' Z' x=>w HW Z' H' (ok.ex x) (ok.wd.mono (Same.refl _) x.z)
 | err k=>rw[q]at w;exact λH' x=>w HW Z H' ⟨λb o _ e=>x b o e,Same.refl _,ok.zh.trans x,ok.wh.trans x,λ_ h=>h,λ_ h=>.inl h,λ_ h=>.inl h,ok.gx.dj⟩ ok.wd
 | stuck=>rw[q]at w;exact w
theorem pT {gs:KY}(h:KM G W λF=>FA X F es gs) :
  PA X es (λρ H Q=>∃ HW Z,GOk G W HW Z H S ρ/\match gs S with
   | .ok ds=>∀ H' Z',Ex H Z H' Z'->∀ vs,Reps G.K G.C Z' ds vs->Q vs H'
   | .err e=>∀ Ko Z' H',GX HW Z H Ko Z' H'->WdOk G.K G.C Ko Z' W->G.E (.ref (G.C e)) none H'
   | .stuck=>False):=λpos am s ρ H Q I ⟨HW,Z,ok,w⟩=>by
 refine h _ _ ok.wk pos am s ρ H Q I ⟨Z,S,ok.nm,?_⟩;cases q:gs S with
 | ok d=>rw[q]at w;exact w
 | err k=>rw[q]at w;exact λH' x=>w HW Z H' ⟨λb o _ e=>x b o e,Same.refl _,ok.zh.trans x,ok.wh.trans x,λ_ h=>h,λ_ h=>.inl h,λ_ h=>.inl h,ok.gx.dj⟩ ok.wd
 | stuck=>rw[q]at w;exact w
theorem bL {s:σ}(h:J s S):GL X G W S [] J (.nx W s):=ul.weak λD ρ H ⟨HW,Z,ok,w⟩=>w S ρ HW Z H h (Same.refl _) ok
theorem sU {l:LW σ}(h:GL1 X G W S st J l):GL X G W S [st] J l:=kZ h
theorem WGL.bind {D:Ends}{J1:τ->SS->Prop}{Z:Hp}{k:Wd->τ->LW σ}{N:St->Lh}(hN:∀ w s S ρ HW Z' H,J1 s S->Same Z Z'->GOk G w HW Z' H S ρ->WGL G Z' J D (k w s)->N ρ H):∀ {l:LW τ},WGL G Z J D (lwS l k)->WGL G Z J1 { D with nx:=N } l
 | .nx w s,h=>λS ρ HW Z' H j z ok=>hN w s S ρ HW Z' H j z ok (h.more z)
 | .rt w d,h=>h
 | .er w k,h=>h
 | .al w f,h=>λa e=>WGL.bind hN (h a e)
 | .stuck,h=>h
theorem iS {l:LW τ}{k:Wd->τ->LW σ}{inj:τ->V'->SS}(h:GL1 X G W S st (JX inj) l)(hk:∀ w s x,GL X G w (inj s x) rest J (k w s)):GL X G W S (st::rest) J (lwS l k) :=
 (bu h (fm λw=>fm λs=>fm λx=>hk w s x)).weak λD ρ H ⟨HW,Z,ok,w⟩=>⟨HW,Z,ok,WGL.bind (λw' s S' ρ' Ko Z' H' ⟨x,e⟩ z ok' wk=>⟨w',s,x,Ko,Z',e ▸ ok',wk⟩) w⟩
theorem WRW.gl {D:Ends}{HW Z H:Hp}{ρ:St}{k:Wd->FF.D->LW σ}{Q:VK}(ok:GOk G W HW Z H S ρ)(hQ:∀ w d Ko Z' H' v,GOk G w Ko Z' H' S ρ->Same Z Z'->Rep G.K G.C Z' d v->WGL G Z' J D (k w d)->Q v H'):∀ {r:RW},WGL G Z J D (lwB r k)->WRW G.K G.C G.E HW Z H (λ_ d _ Z' H'=>∀ v,Rep G.K G.C Z' d v->Q v H') r
 | .ok w d,h=>λKo Z' H' x wd v r=>hQ w d Ko Z' H' v (ok.more x wd) x.z r (h.more x.z)
 | .er w k,h=>λKo Z' H' x wd=>h Ko Z' H' x.z (ok.gx.trans x) wd
 | .al w f,h=>λa e=>WRW.gl ok hQ (h a e)
 | .stuck,h=>h
end
structure BG (X:Cx)(G:Gx)(k:Nat):Prop where
 room:Room k X.A
 K:X.K=G.K
 calm:X.calm=true
 pass:Passes (CXE X.prog X.w) X G.E
section
variable {F:Fx}
theorem BG.bx (b:BG X G k){Z0:Hp}:BX X (G.at H0 Z0) k:=⟨b.room,b.K,b.calm,b.pass⟩
end
def dFld (c:Nat)(W:Wd)(f:Str)(d:D):R D:=match d with
 | .ptr a=>match W a with
  | some (.ins c' fs)=>if c'=c then match fs.lookup f with
   | some x=>.ok x
   | none=>.stuck
   else .stuck
  | _=>.stuck
 | _=>.stuck
def eFld (c:Nat)(W:Wd)(f:Str)(g:KZ):KZ:=λS=>(g S).bind (dFld c W f)
theorem uF {K:Frag}{C:La}{Z:Hp}{f:Str}:∀ {fs:List (Str×D)} {vs:Ln} {x:D},vs.map Prod.fst=fs.map Prod.fst->Reps K C Z (fs.map Prod.snd) (vs.map Prod.snd)->fs.lookup f=some x->∃ v,vs.lookup f=some v/\Rep K C Z x v
 | [],_,_,_,_,e=>by simp at e
 | (g,d)::fs,[],_,h,_,_=>by simp at h
 | (g,d)::fs,(g',v)::vs,x,h,r,e=>by
  rw[F5,F5,HY]at h;obtain⟨h1,h2⟩:=h;have h1:g'=g:=h1;subst h1;rw[F5,F5,Reps]at r;obtain⟨v0,r0,q,r1,r2⟩:=r;rw[HY]at q;obtain⟨q1,q2⟩:=q;subst q1 q2;rw[GC]at e ⊢;cases hb:(f==g') with
  | true=>rw[hb]at e;cases e;exact⟨v,rfl,r1⟩
  | false=>rw[hb]at e;exact uF h2 r2 e
section
variable {F:Fx}{c:Nat}{e:Expr}{g:KZ}
theorem aQ (hK:X.K=F.K)(wk:Wk F W)(hn:NoAttr X.K (F.C c) f)(he:FE X F e g)(hb:attributeBase e f X.env (eval e X.env)=eval e X.env:=by rfl):FE X F (.Attribute e f pos) (eFld c W f g) :=
 (Dh he hb).weak λσ H Q ⟨Z,S,ok,w⟩=>by
  refine ak ok w λd v H1 Z1 ok1 x1 r w1=>?_
  unfold dFld at w1;split at w1
  ·rename_i a;split at w1
   ·rename_i c' fs ew;split at w1
    ·rename_i ec;subst ec;split at w1
     ·rename_i x ex;rw[Rep]at r;subst r;obtain⟨dx,vs,e1,e2,cl,e3,rr⟩:=wk a _ ew;obtain⟨v,ev,rv⟩:=uF e3 rr ex;exact⟨a,F.C c',dx,vs,v,rfl,ok1.ex.same _ _ e1,by rw[hK];exact cl,hn,ev,WG.now w1 ok1.sub _ (rv.mono ok1.ex.z)⟩
     ·exact w1.elim
    ·exact w1.elim
   ·exact w1.elim
  ·exact w1.elim
end
def putD (f:Str)(d:D):List (Str×D)->List (Str×D)
 | []=>[(f,d)]
 | (g,x)::r=>if g=f then (g,d)::r else (g,x)::putD f d r
theorem oH {K:Frag}{C:La}{Z:Hp}{f:Str}{d:D}{v:V}(rd:Rep K C Z d v):∀ {fs:List (Str×D)} {vs:Ln},vs.map Prod.fst=fs.map Prod.fst->Reps K C Z (fs.map Prod.snd) (vs.map Prod.snd) ->
  (putF f v vs).map Prod.fst=(putD f d fs).map Prod.fst/\Reps K C Z ((putD f d fs).map Prod.snd) ((putF f v vs).map Prod.snd)
 | [],[],_,_=>⟨rfl,Reps.cons rd Reps.nil⟩
 | [],_::_,h,_=>by simp at h
 | _::_,[],h,_=>by simp at h
 | (g,x)::fs,(g',y)::vs,h,r=>by
  rw[F5,F5,HY]at h;obtain⟨h1,h2⟩:=h;have h1:g'=g:=h1;subst h1;rw[F5,F5,Reps]at r;obtain⟨v0,r0,q,r1,r2⟩:=r;rw[HY]at q;obtain⟨q1,q2⟩:=q;subst q1 q2;unfold putF putD;by_cases c:g'=f
  ·rw[if_pos c,if_pos c];exact⟨by rw[F5,F5,h2],Reps.cons rd r2⟩
  ·rw[if_neg c,if_neg c];obtain⟨a,b⟩:=oH rd h2 r2;exact⟨by rw[F5,F5,a],Reps.cons r1 b⟩
def wFld {σ:Type}(c:Nat)(W:Wd)(f:Str)(o d:D)(k:Wd->LW σ):LW σ:=match o with
 | .ptr a=>match W a with
  | some (.ins c' fs)=>if c'=c/\fs.length < 900 then k (wput W a (.ins c (putD f d fs))) else .stuck
  | _=>.stuck
 | _=>.stuck
section
theorem GOk.put (h:GOk G W HW Z H S ρ){o:HO}{oc:OC}(ha:HW a≠none)(hm:Mut (HW a))(hw:∀ H',Same Z Z->H' a=some o->(∀ b,b≠a->H' b=HW b)->WObj G.K G.C H' Z a oc)(hd:∀ b u,HW b=some (.own u)->b≠a) :
  GX HW Z H (upd HW a o) Z (upd H a o)/\GOk G (wput W a oc) (upd HW a o) Z (upd H a o) S ρ:=by
 have gx:GX HW Z H (upd HW a o) Z (upd H a o):=by
  refine⟨λb u h1 h2=>?_,Same.refl _,λb u e=>?_,λb u e=>?_,λb q=>?_,λb q=>?_,λb q=>.inl q,λb q=>?_⟩
  ·rw[ae (λz=>ha (by rw[<- z];exact h1))];exact h2
  ·rw[ae (λz=>by rw[z,h.gx.dj a ha]at e;cases e)];exact h.zh b u e
  ·by_cases z:b=a
   ·subst z;rw[ah]at e ⊢;exact e
   ·rw[ae z]at e ⊢;exact h.wh b u e
  ·by_cases z:b=a
   ·subst z;rw[ah];simp
   ·rw[ae z];exact q
  ·by_cases z:b=a
   ·subst z;exact .inl ha
   ·rw[ae z]at q;exact .inl q
  ·by_cases z:b=a
   ·subst z;exact h.gx.dj b ha
   ·rw[ae z]at q;exact h.gx.dj b q
 refine⟨gx,h.more gx ⟨λb u e=>?_,h.wd.tb.put hm⟩⟩;unfold wput at e;split at e
 ·rename_i z;subst z;cases e;exact hw (upd HW b o) (Same.refl _) ah λc hc=>ae hc
 ·rename_i z;have q:=h.wd b u e;cases u with
  | ins c fs=>obtain⟨dx,vs,e1,e2,cl,e3,r⟩:=q;exact⟨dx,vs,by rw[ae z];exact e1,by rw[ae (hd dx b e2)];exact e2,cl,e3,r⟩
  | lst ds=>obtain⟨vs,e1,r⟩:=q;exact⟨vs,by rw[ae z];exact e1,r⟩
end
section
variable {o e:Expr}{σ:Type}{J:σ->SS->Prop}{r:RW}{Kn:Pos}{c:Nat}
theorem A1 {go:KZ}{po:D}{s:σ}(hK:X.K=G.K)(hn:NoAttr X.K (G.C c) f)(hv:GE X G W S e r)(ho:∀ H0 Z0 W',Wk (G.at H0 Z0) W'->FE X (G.at H0 Z0) o go)(hS:go S=.ok po)(hJ:J s S)
  (hs:swapsWith e (some (.Attribute o f Kn)) pos.line X.env=pure false:=by rfl):GL1 X G W S (.Assign [.Attribute o f Kn] e pos) J (lwB r λw d=>wFld c w f po d λw'=>.nx w' s):=by
 have ho':PE X o (λρ H Q=>∃ W' HW Z,GOk G W' HW Z H S ρ/\tE (G.fx HW Z H) go ρ H Q):=λam s ρ H Q I ⟨W',HW,Z,ok,t⟩=>ho _ _ W' ok.wk am s ρ H Q I t
 refine(Di ho' hv hs).weak λD ρ H ⟨HW,Z,ok,w⟩=>⟨HW,Z,ok,WRW.gl ok (λw1 d Kp Z1 H1 v ok1 z1 rd wl=>?_) w⟩
 refine⟨w1,Kp,Z1,ok1,Z1,S,ok1.nm,?_⟩;rw[hS];intro H2 Z2 x2 vo ro;unfold wFld at wl;cases po with
 | ptr a =>
  simp only at wl;cases ew:w1 a with
  | none=>rw[ew]at wl;exact wl.elim
  | some oc =>
   cases oc with
   | lst ds=>rw[ew]at wl;exact wl.elim
   | ins c' fs =>
   rw[ew]at wl;simp only at wl;by_cases ec:c'=c/\fs.length < 900
   ·rw[if_pos ec]at wl;obtain⟨rfl,hl⟩:=ec;have ok2:=ok1.more (ok1.ex x2) (ok1.wd.mono (Same.refl _) x2.z);rw[Rep]at ro;subst ro;obtain⟨dx,vs,e1,e2,cl,e3,rr⟩:=ok2.wd a _ ew;have lv:vs.length=fs.length:=by have:=GA List.length e3;simpa using this
    have rd2:=rd.mono x2.z;obtain⟨k1,k2⟩:=oH rd2 e3 rr;obtain⟨gx,ok3⟩:=ok2.put (oc:=.ins c' (putD f d fs)) (bb e1) (by rw[e1];exact Gw) (λH' _ ha hb=>⟨dx,_,ha,by rw[hb dx (λz=>by rw[z,e1]at e2;cases e2)];exact e2,cl,k1,k2⟩) (λb u q z=>by rw[z,e1]at q;cases q);exact⟨a,G.C c',dx,vs,rfl,ok2.wh _ _ e1,by rw[hK];exact cl,hn,by omega,wl S ρ _ Z2 _ hJ x2.z ok3⟩
   ·rw[if_neg ec]at wl;exact wl.elim
 | _=>exact wl.elim
theorem yk {s:σ}(h:GE X G W S e r)(hJ:J s S)(hs:swapsWith e none pos.line X.env=pure false:=by rfl):GL1 X G W S (.Expr e pos) J (lwB r λw _=>.nx w s) :=
 (k6 h hs).weak λD ρ H ⟨HW,Z,ok,w⟩=>⟨HW,Z,ok,WRW.gl (k:=λw _=>.nx w s) ok (λw1 d Kp Z1 H1 v ok1 z1 rd wl=>wl S ρ Kp Z1 H1 hJ (Same.refl _) ok1) w⟩
theorem uG (h:GE X G W S e r):GL1 X G W S (.Return (some e) pos) J (lwB r λw d=>.rt w d) :=
 (sy h).weak λD ρ H ⟨HW,Z,ok,w⟩=>⟨HW,Z,ok,WRW.gl (k:=λw d=>.rt w d) ok (λw1 d Kp Z1 H1 v ok1 z1 rd wl=>wl v Kp Z1 H1 ok1.gx ok1.wd rd) w⟩
theorem A2 {x:Str}{px:Pos}(hN:X.N.Nodup)(hi:X.N[i]?=some x)(hx:Loc X.env.scope x)(h:GE X G W S e r)(hf:KJ X x)(hs:swapsWith e (some (.Name x px)) pos.line X.env=pure false:=by rfl) :
  GL1 X G W S (.Assign [.Name x px] e pos) (JX λ(d:D) (_:Unit)=>S.set i (vv d)) (lwB r λw d=>.nx w d) :=
 (pq hN hi hx h hs).weak λD ρ H ⟨HW,Z,ok,w⟩=>⟨HW,Z,ok,WRW.gl (k:=λw d=>.nx w d) ok (λw1 d Kp Z1 H1 v ok1 z1 rd wl=>wl _ _ Kp Z1 H1 ⟨(),rfl⟩ (Same.refl _) ⟨ok1.gx,ok1.wd,ok1.nm.setVal rd⟩) w⟩
end
abbrev KR:=Wd->List D->RW
def spG (K:Frag)(C:La)(n:Nat)(f:KR):Sp:=λvs H Q E =>
 vs.length=n/\∃ W HW Z ds,Same Z H/\Same HW H/\(∀ b,HW b≠none->Z b=none)/\WdOk K C HW Z W/\Reps K C Z ds vs/\WRW K C E HW Z H (λ_ d _ Z' H'=>∀ v,Rep K C Z' d v->Q v H') (f W ds)
section
variable {w:World}
theorem WGL.start {G:Gx}{Q:VK}{Z1:Hp}:∀ {l:LW Unit},WRW G.K G.C G.E G.HW0 G.Z0 G.H0 (λ_ d _ Z' H'=>∀ v,Rep G.K G.C Z' d v->Q v H') (outW l)->WGL G Z1 JU { nx:=λ_ H'=>Q .non H',rt:=Q } l
 | .nx w s,h=>λS ρ HW Z H _ _ ok=>h HW Z H ok.gx ok.wd .non (by rw[Rep])
 | .rt w d,h=>λv HW Z H x wd r=>h HW Z H x wd v r
 | .er w k,h=>λHW Z H _ gx wd=>h HW Z H gx wd
 | .al w f,h=>λa e=>WGL.start (h a e)
 | .stuck,h=>h
theorem GOk.start {ds:List D}{vs:List V}(zh:Same Z H)(wh:Same HW H)(dj:∀ b,HW b≠none->Z b=none)(wd:WdOk K C HW Z W)(r:Reps K C Z ds vs) :
  GOk ⟨K,C,HW,Z,H,E⟩ W HW Z H (startS N.length ds) (start N vs):=by
 have gx:GX HW Z H HW Z H:=GX.refl zh wh dj;refine⟨gx,wd,?_⟩;have s:=cC (F:=⟨K,C,H,Z,E⟩) (N:=N) zh r;exact s.rebase ⟨pS,Same.refl _,zh,λ_ q=>.inl q⟩ λa o e _ n=>by
  have e:H a=some o:=e;have n:H a=none:=n;rw[e]at n;cases n
end
structure FnW (P:Program)(w:World)(K:Frag)(mg:KW)(base:Heap)(C:La)(k:Nat)(x:Str)(ps:List Str)(f:KR):Prop where
 ex:∃ a fd,FnOk P w K mg base (CXE P w) k a fd ps (spG K C ps.length f)/\mg x=some (.ref a)/\keepIn K (.ref a)=true/\Binds K fd ps []
structure MeW (P:Program)(w:World)(K:Frag)(mg:KW)(base:Heap)(C:La)(k:Nat)(c:Nat)(m:Str)(ps:List Str)(f:KR):Prop where
 ex:∃ a fd,FnOk P w K mg base (CXE P w) k a fd ps (spG K C ps.length f)/\Meth K (C c) m a/\Binds K fd ps []
structure MkW (P:Program)(w:World)(K:Frag)(mg:KW)(base:Heap)(C:La)(k:Nat)(c:Nat)(x:Str)(ps:List Str)(f:KR):Prop where
 ex:∃ a fd,FnOk P w K mg base (CXE P w) k a fd ps (spG K C ps.length f)/\Mk K (C c) a/\mg x=some (.ref (C c))/\Binds K fd ps []
 cls:Cls K (C c)
def rwM (c:Nat)(m:Str)(W:Wd)(o:D)(k:RW):RW:=match o with
 | .ptr a=>match W a with
  | some (.ins c' fs)=>if c'=c/\fs.lookup m=none then k else .stuck
  | _=>.stuck
 | _=>.stuck
def rwNew (c:Nat)(W:Wd)(f:KR)(ds:List D):RW:=.al W λa=>rwB (f (wput W a (.ins c [])) (.ptr a::ds)) λw d=>match d with
 | .non=>.ok w (.ptr a)
 | _=>.stuck
theorem lc {f:Str}:∀ {fs:List (Str×D)} {vs:Ln},vs.map Prod.fst=fs.map Prod.fst->fs.lookup f=none->vs.lookup f=none
 | [],[],_,_=>rfl
 | [],_::_,h,_=>by simp at h
 | _::_,[],h,_=>by simp at h
 | (g,x)::fs,(g',y)::vs,h,e=>by
  rw[F5,F5,HY]at h;obtain⟨h1,h2⟩:=h;have h1:g'=g:=h1;subst h1;rw[GC]at e ⊢;cases hb:(f==g') with
  | true=>rw[hb]at e;cases e
  | false=>rw[hb]at e;exact lc h2 e
section
variable {o e:Expr}{x m:Str}{ps:List Str}{f:KR}{gs:KY}{p:Pos}{c:Nat}
theorem EK {ds:List D}{vs:List V}{Q:VK}(ok:GOk G W HW Z H S ρ)(x:Ex H Z H' Z')(rs:Reps G.K G.C Z' ds vs)(hn:ds.length=ps.length)(w:WRW G.K G.C G.E HW Z H (λ_ d _ Z' H'=>∀ v,Rep G.K G.C Z' d v->Q v H') (f W ds)):spG G.K G.C ps.length f (vs++[]) H' Q G.E:=by
 have g:=ok.ex x;refine⟨by rw[Gs,<- rs.length];exact hn,W,HW,Z',ds,g.zh,g.wh,g.dj,ok.wd.mono (Same.refl _) x.z,by rw[Gs];exact rs,w.more g⟩
theorem dG (b:BG X G k)(h:FnW X.prog X.w G.K X.mg X.base G.C k x ps f)(hg:Gl X x)(ha:KM G W λF=>FA X F (e::es) gs)(hn:∀ S ds,gs S=.ok ds->ds.length=ps.length)(K6:KH x:=by decide)
  (he:Id X e es:=by rfl) (hpl:IO X pos es:=by rfl):GE X G W S (.Call (.Name x p) (e::es) [] pos) (rwA W (gs S) (f W)):=by
 obtain⟨a,fd,h1,h2,h3,h4⟩:=h.ex;have hK:=b.K;refine(uq (by rw[hK];exact h1) b.room hg h2 (by grind) (by grind) .nil b.pass (pT ha) K6 he hpl).weak λρ H Q ⟨HW,Z,ok,w⟩=>⟨HW,Z,ok,?_⟩
 cases q:gs S with
 | ok ds=>rw[q]at w;exact λH' Z' x vs rs=>EK ok x rs (hn S ds q) w
 | err k=>rw[q]at w;exact w
 | stuck=>rw[q]at w;exact w
def tArgs (G:Gx)(W:Wd)(S:SS)(gs:KY):TA:=λρ H Q=>∃ HW Z,GOk G W HW Z H S ρ/\match gs S with
 | .ok ds=>∀ H' Z',Ex H Z H' Z'->∀ vs,Reps G.K G.C Z' ds vs->Q vs H'
 | .err e=>∀ Ko Z' H',GX HW Z H Ko Z' H'->WdOk G.K G.C Ko Z' W->G.E (.ref (G.C e)) none H'
 | .stuck=>False
theorem CA {call:Expr}(h:MkW X.prog X.w G.K X.mg X.base G.C k c x ps f)(hn:∀ S ds,gs S=.ok ds->ds.length+1=ps.length)(hp:PE X call (tMake (G.C c) (spG G.K G.C ps.length f) [] G.E (tArgs G W S gs))):GE X G W S call (rwA W (gs S) (rwNew c W f)):=by
 refine hp.weak λρ H Q ⟨HW,Z,ok,w⟩=>⟨HW,Z,ok,?_⟩
 cases q:gs S with
 | err k=>rw[q]at w;exact w
 | stuck=>rw[q]at w;exact w
 | ok ds =>
  rw[q]at w;intro H1 Z1 x1 vs rs y dx hy hdx ne;have g:=ok.ex x1;have wn:W y=none:=by
   cases e:W y with
   | none=>rfl
   | some oc =>
    have q:=ok.wd y oc e;have:HW y≠none:=by cases oc with
     | ins c fs=>obtain⟨dx,vs,e1,_⟩:=q;exact bb e1
     | lst ds=>obtain⟨vs,e1,_⟩:=q;exact bb e1
    obtain⟨u,eu⟩:=uE this;rw[g.wh y u eu]at hy;cases hy
  have w1:=w y wn;have g2:GX HW Z1 H1 (upd (upd HW dx (.own y)) y (.ins (G.C c) dx [])) Z1 (upd (upd H1 dx (.own y)) y (.ins (G.C c) dx [])):=by
   have fz:∀ b,H1 b=none->Z1 b=none:=λb h=>g.zh.free h
   refine⟨λb u h1 h2=>?_,Same.refl _,λb u e=>?_,λb u e=>?_,λb z=>?_,λb z=>?_,λb z=>.inl z,λb z=>?_⟩
   ·rw[ae (λz=>by rw[z,hy]at h2;cases h2),ae (λz=>by rw[z,hdx]at h2;cases h2)];exact h2
   ·have e1:=g.zh b u e;rw[ae (λz=>by rw[z,hy]at e1;cases e1),ae (λz=>by rw[z,hdx]at e1;cases e1)];exact e1
   ·by_cases z:b=y
    ·subst z;rw[ah]at e ⊢;exact e
    ·rw[ae z]at e ⊢;by_cases z2:b=dx
     ·subst z2;rw[ah]at e ⊢;exact e
     ·rw[ae z2]at e ⊢;exact g.wh b u e
   ·by_cases q:b=y
    ·subst q;rw[ah];simp
    ·rw[ae q];by_cases z2:b=dx
     ·subst z2;rw[ah];simp
     ·rw[ae z2];exact z
   ·by_cases q:b=y
    ·subst q;exact .inr hy
    ·rw[ae q]at z;by_cases z2:b=dx
     ·subst z2;exact .inr hdx
     ·rw[ae z2]at z;exact .inl z
   ·by_cases q:b=y
    ·subst q;exact fz b hy
    ·rw[ae q]at z;by_cases z2:b=dx
     ·subst z2;exact fz b hdx
     ·rw[ae z2]at z;exact g.dj b z
  have gg:=g.trans g2;have wd2:WdOk G.K G.C (upd (upd HW dx (.own y)) y (.ins (G.C c) dx [])) Z1 (wput W y (.ins c [])):=by
   have sm:Same HW (upd (upd HW dx (.own y)) y (.ins (G.C c) dx [])):=λb2 u2 e2=>by
    have e3:=g.wh b2 u2 e2;rw[ae (λz=>by rw[z,hy]at e3;cases e3),ae (λz=>by rw[z,hdx]at e3;cases e3)];exact e2
   refine⟨λb u e=>?_,ok.wd.tb.mono sm⟩;unfold wput at e;split at e
   ·rename_i z;subst z;cases e;exact⟨dx,[],ah,by rw[ae ne];exact ah,h.cls,rfl,Reps.nil⟩
   ·exact((ok.wd b u e).mono (Same.refl _) x1.z).mono sm (Same.refl _)
  refine⟨?_,_,_,Z1,.ptr y::ds,gg.zh,gg.wh,gg.dj,wd2,?_,?_⟩
  ·rw[Gs,Gb,<- rs.length];exact hn S ds q
  ·rw[Gs];exact Reps.cons (by rw[Rep]) rs
  ·have goal:∀ {r:RW},WRW G.K G.C G.E HW Z H (λ_ d _ Z' H'=>∀ v,Rep G.K G.C Z' d v->Q v H') (rwB r λw d=>match d with | .non=>.ok w (.ptr y) | _=>.stuck) ->
     WRW G.K G.C G.E HW Z H (λ_ d _ Z' H'=>∀ v,Rep G.K G.C Z' d v->v=.non/\Q (.ref y) H') r:=λ{r}=>by
    induction r with
    | ok w d =>
     intro h;cases d with
     | non=>exact λKo Z' H' x wd v r=>⟨by rw[Rep]at r;exact r,h Ko Z' H' x wd (.ref y) (by rw[Rep])⟩
     | _=>exact h.elim
    | er w k=>exact λh=>h
    | al w f ih=>exact λh a e=>ih a (h a e)
    | stuck=>exact λh=>h
   exact(goal w1).more gg
theorem uH (b:BG X G k)(h:MkW X.prog X.w G.K X.mg X.base G.C k c x ps f)(hg:Gl X x)(ha:KM G W λF=>FA X F (e::es) gs)(hn:∀ S ds,gs S=.ok ds->ds.length+1=ps.length)(K6:KH x:=by decide)
  (he:Id X e es:=by rfl) (hpl:IO X pos es:=by rfl):GE X G W S (.Call (.Name x p) (e::es) [] pos) (rwA W (gs S) (rwNew c W f)):=by
 obtain⟨a,fd,h1,h2,h3,h4⟩:=h.ex;have hK:=b.K;exact CA h hn (Aw (ds:=[]) (dvs:=[]) (E:=G.E) (by rw[hK];exact h2) (by rw[hK];exact h1) b.room hg h3 (by rw[hK];exact h4) .nil b.pass (pT (S:=S) ha) K6 he hpl)
end
theorem WRW.bind {K:Frag}{C:La}{E:XK}{HW Z H:Hp}{P P1:Wd->D->Hp->Hp->Lh}{k:Wd->D->RW}(hp:∀ w d Ko Z' H',GX HW Z H Ko Z' H'->WdOk K C Ko Z' w->WRW K C E Ko Z' H' P (k w d)->P1 w d Ko Z' H'):∀ {r:RW},WRW K C E HW Z H P (rwB r k)->WRW K C E HW Z H P1 r
 | .ok w d,h=>λa b c x y=>hp w d a b c x y (h.more x)
 | .er w k,h=>h
 | .al w f,h=>λa e=>WRW.bind hp (h a e)
 | .stuck,h=>h
section
variable {o a b c e:Expr}{x m:Str}{ps:List Str}{f:KR}{gs:KY}{go gb:KZ}{p:Pos}{cl:Nat}{r r1 r2:RW}
theorem yl {g:KZ}(h:∀ H0 Z0 W',Wk (G.at H0 Z0) W'->FE X (G.at H0 Z0) e g):PE X e (λρ H Q=>∃ W' HW Z,GOk G W' HW Z H S ρ/\tE (G.fx HW Z H) g ρ H Q):=λam s ρ H Q I ⟨W',HW,Z,ok,t⟩=>h _ _ W' ok.wk am s ρ H Q I t
theorem ym {g:KZ}{α:Type}{kk:D->RW}{P:Wd->D->Hp->Hp->Lh}{Q:VK}(ok:GOk G W HW Z H S ρ)(w:WRW G.K G.C G.E HW Z H P (rwA W (g S) kk))
  (h:∀ d v H1 Z1,GOk G W HW Z1 H1 S ρ->GX HW Z H HW Z1 H1->Rep G.K G.C Z1 d v->WRW G.K G.C G.E HW Z1 H1 P (kk d)->Q v H1):tE (G.fx HW Z H) g ρ H Q:=by
 refine⟨Z,S,ok.nm,?_⟩;cases q:g S with
 | ok d =>
  rw[q]at w;intro H1 Z1 x v rv;have gx:=ok.ex x;exact h d v H1 Z1 (ok.more gx (ok.wd.mono (Same.refl _) x.z)) gx rv (WRW.more gx w)
 | err k=>rw[q]at w;exact λH' x=>w HW Z H' ⟨λb o _ e=>x b o e,Same.refl _,ok.zh.trans x,ok.wh.trans x,λ_ h=>h,λ_ h=>.inl h,λ_ h=>.inl h,ok.gx.dj⟩ ok.wd
 | stuck=>rw[q]at w;exact w
theorem yn {po:D}{kk:RW}{P:Wd->D->Hp->Hp->Lh}(ok:GOk G W HW Z H S ρ)(rv:Rep G.K G.C Z po v)(w:WRW G.K G.C G.E HW Z H P (rwM cl m W po kk)) :
  ∃ a dx fs,v=.ref a/\H a=some (.ins (G.C cl) dx fs)/\fs.lookup m=none/\WRW G.K G.C G.E HW Z H P kk:=by
 unfold rwM at w;cases po with
 | ptr a =>
  simp only at w;cases ew:W a with
  | none=>rw[ew]at w;exact w.elim
  | some oc =>
   cases oc with
   | lst ds=>rw[ew]at w;exact w.elim
   | ins c' fs =>
    rw[ew]at w;simp only at w;by_cases ec:c'=cl/\fs.lookup m=none
    ·rw[if_pos ec]at w;obtain⟨rfl,hl⟩:=ec;rw[Rep]at rv;obtain⟨dx,vs,e1,e2,cl,e3,rr⟩:=ok.wd a _ ew;exact⟨a,dx,vs,rv,ok.wh _ _ e1,lc e3 hl,w⟩
    ·rw[if_neg ec]at w;exact w.elim
 | _=>exact w.elim
theorem bv {pl:Sem Bool}(bg:BG X G k)(h:MeW X.prog X.w G.K X.mg X.base G.C k cl m ps f)(hc:Cls X.K (G.C cl))(hn:ps.length=1)(ho:KM G W λF=>FE X F o go)
  (ht:KL X o m IR [] pos pl:=by rfl) :
  GE X G W S (.Call (.Attribute o m IR) [] [] pos) (rwA W (go S) λpo=>rwM cl m W po (f W [po])):=by
 obtain⟨a,fd,h1,h2,h3⟩:=h.ex;have hK:=bg.K;have ho':PE X o (λρ H Q=>∃ HW Z,GOk G W HW Z H S ρ/\tE (G.fx HW Z H) go ρ H Q):=λam s ρ H Q I ⟨HW,Z,ok,t⟩=>ho _ _ ok.wk am s ρ H Q I t
 refine(qI ho' hc (by rw[hK];exact h2) (by rw[hK];exact h1) bg.room (by grind) .nil bg.pass ht).weak λρ H Q ⟨HW,Z,ok,w⟩=>⟨HW,Z,ok,?_⟩
 refine ym (α:=Unit) ok w λd v H1 Z1 ok1 gx rv w1=>?_
 obtain⟨a,dx,fs,e1,e2,e3,w2⟩:=yn ok1 rv w1;exact⟨a,dx,fs,e1,e2,e3,hn.symm,W,HW,Z1,[d],ok1.zh,ok1.wh,ok1.gx.dj,ok1.wd,Reps.cons rv Reps.nil,w2⟩
theorem bC {pl:Sem Bool}(bg:BG X G k)(h:MeW X.prog X.w G.K X.mg X.base G.C k cl m ps f)(hc:Cls X.K (G.C cl))(ho:KM G W λF=>FE X F o go)(ha:KM G W λF=>FA X F (e::es) gs)(hn:∀ S ds,gs S=.ok ds->ds.length+1=ps.length)
  (K8:Id X e es:=by rfl) (hpl:IO X pos es:=by rfl)
  (ht:KL X o m IR (e::es) pos pl:=by rfl) :
  GE X G W S (.Call (.Attribute o m IR) (e::es) [] pos) (rwA W (go S) λpo=>rwM cl m W po (rwA W (gs S) λds=>f W (po::ds))):=by
 obtain⟨a,fd,h1,h2,h3⟩:=h.ex;have hK:=bg.K;have ho':PE X o (λρ H Q=>∃ HW Z,GOk G W HW Z H S ρ/\tE (G.fx HW Z H) go ρ H Q):=λam s ρ H Q I ⟨HW,Z,ok,t⟩=>ho _ _ ok.wk am s ρ H Q I t
 refine(ur ho' hc (by rw[hK];exact h2) (by rw[hK];exact h1) bg.room (by rw[hK];exact h3) .nil bg.pass (pT (S:=S) ha) K8 hpl ht).weak λρ H Q ⟨HW,Z,ok,w⟩=>⟨HW,Z,ok,?_⟩
 refine ym (α:=Unit) ok w λd v H1 Z1 ok1 gx rv w1=>?_
 obtain⟨a,dx,fs,e1,e2,e3,w2⟩:=yn ok1 rv w1;refine⟨a,dx,fs,e1,e2,e3,HW,Z1,ok1,?_⟩;cases q:gs S with
 | err k=>rw[q]at w2;exact w2
 | stuck=>rw[q]at w2;exact w2
 | ok ds =>
  rw[q]at w2;intro H2 Z2 x2 vs rs;have g:=ok1.ex x2;refine⟨by rw[Gs,Gb,<- rs.length];exact hn S ds q,W,HW,Z2,d::ds,g.zh,g.wh,g.dj,ok1.wd.mono (Same.refl _) x2.z,?_,WRW.more g w2⟩;rw[Gs];exact Reps.cons (rv.mono x2.z) rs
def tGT (G:Gx)(W:Wd)(S:SS)(r:RW):TT:=λρ H Q=>∃ HW Z,GOk G W HW Z H S ρ/\WRW G.K G.C G.E HW Z H (λ_ d _ _ H'=>∃ t,d=.bl t/\Q t H') r
abbrev GT (X:Cx)(G:Gx)(W:Wd)(S:SS)(e:Expr)(r:RW):Prop:=PT X e (tGT G W S r)
def rwNot (r:RW):RW:=rwB r λw d=>match d with
 | .bl t=>.ok w (.bl (!t))
 | _=>.stuck
theorem bj (h:KM G W λF=>FT X F e gt):GT X G W S e (rwR W ((gt S).bind λt=>.ok (.bl t))):=λam s ρ H Q I ⟨HW,Z,ok,w⟩=>by
 refine h _ _ ok.wk am s ρ H Q I ⟨Z,S,ok.nm,?_⟩;cases q:gt S with
 | ok t=>rw[q]at w;exact λH' Z' x=>let ⟨_,e,q⟩:=w HW Z' H' (ok.ex x) (ok.wd.mono (Same.refl _) x.z);by cases e;exact q
 | err k=>rw[q]at w;exact λH' x=>w HW Z H' ⟨λb o _ e=>x b o e,Same.refl _,ok.zh.trans x,ok.wh.trans x,λ_ h=>h,λ_ h=>.inl h,λ_ h=>.inl h,ok.gx.dj⟩ ok.wd
 | stuck=>rw[q]at w;exact w
noncomputable def lwT {σ:Type}(r:RW)(A B:Wd->LW σ):LW σ:=lwB r λw d=>match d with
 | .bl true=>A w
 | .bl false=>B w
 | _=>.stuck
theorem WRW.glT {σ:Type}{J:σ->SS->Prop}{D:Ends}{HW Z H:Hp}{ρ:St}{A B:Wd->LW σ}{Q:Bool->Lh}(ok:GOk G W HW Z H S ρ)(hQ:∀ w t Ko Z' H',GOk G w Ko Z' H' S ρ->Same Z Z'->WGL G Z' J D (if t=true then A w else B w)->Q t H'):∀ {r:RW},WGL G Z J D (lwT r A B)->WRW G.K G.C G.E HW Z H (λ_ d _ _ H'=>∃ t,d=.bl t/\Q t H') r
 | .ok w d,h=>λKo Z' H' x wd=>by
  cases d with
  | bl t=>exact⟨t,rfl,hQ w t Ko Z' H' (ok.more x wd) x.z (by cases t<;>exact WGL.more x.z h)⟩
  | _=>exact h.elim
 | .er w k,h=>λKo Z' H' x wd=>h Ko Z' H' x.z (ok.gx.trans x) wd
 | .al w f,h=>λa e=>WRW.glT ok hQ (h a e)
 | .stuck,h=>h
theorem yo {σ:Type}{J:σ->SS->Prop}{sa sb:Lo}{A B:Wd->LW σ}(hc:GT X G W S c r)(ha:∀ w,GL X G w S sa J (A w))(hb:∀ w,GL X G w S sb J (B w)):GL1 X G W S (.If c sa sb pos) J (lwT r A B) :=
 (Cr hc (fm ha) (fm hb)).weak λD ρ H ⟨HW,Z,ok,w⟩=>⟨HW,Z,ok,WRW.glT ok (λw1 t Kp Z1 H1 ok1 z1 wl=>by
  cases t with
  | true=>exact⟨w1,Kp,Z1,ok1,wl⟩
  | false=>exact⟨w1,Kp,Z1,ok1,wl⟩) w⟩
theorem yq (hc:KM G W λF=>FT X F c gt)(ha:GE X G W S a r1)(hb:GE X G W S b r2):GE X G W S (.IfExp c a b pos) (rwA W (gt S) λt=>if t=true then r1 else r2):=by
 refine(qG (bj hc) ha hb).weak λρ H Q ⟨HW,Z,ok,w⟩=>⟨HW,Z,ok,?_⟩
 cases q:gt S with
 | err k=>rw[q]at w;exact w
 | stuck=>rw[q]at w;exact w
 | ok t =>
  rw[q]at w;refine λKo Z' H' x wd=>⟨t,rfl,?_⟩
  have w1:=WRW.more x w;have ok1:=ok.more x wd;cases t with
  | true=>exact⟨Ko,Z',ok1,w1⟩
  | false=>exact⟨Ko,Z',ok1,w1⟩
end
section
variable {kp:Pos}{tb:XK->TS}
end
section
variable {τ σ V':Type}{J:σ->SS->Prop}{rest:Lo}{kp:Pos}
end
section
variable {prog:Program}{w:World}{E:KU}{s:Shared}
def SIt (h:Heap)(b:Bool)(it a:Addr)(k:Nat):Prop:=if b=true then h.IsTupleIter it a k else h.IsListIter it a k
def IsZ (h:Heap)(z TI TO:Addr)(f0 f1:Value):Prop:=h.get? z=some { cls:=.type "zip",dict:=none,data:=.fields #[f0,f1,.bool false,.ref TI,.ref TO],slots:=#[] }
structure Zs (h:Heap)(z TI TO i1 i2 l1 l2:Addr)(b1 b2:Bool)(k:Nat)(f0:Value):Prop where
 z:∃ u,IsZ h z TI TO f0 (.bool u)
 ti:IsPair h TI (.ref i1) (.ref i2)
 to:∃ a b,IsPair h TO a b
 h1:SIt h b1 i1 l1 k
 h2:SIt h b2 i2 l2 k
theorem cE {z TI TO i1 i2 l1 l2:Addr}{b1 b2:Bool}{f0:Value}{Q:KU}(hz:Zs s.heap z TI TO i1 i2 l1 l2 b1 b2 k f0)(h:Q (.ref z) s):wpAny (model prog w) A (pyIter (.ref z)) Q E s:=by
 obtain⟨⟨u,e1⟩,_⟩:=hz;have hT:s.TypeIs (.ref z) "zip" := ⟨_,e1,rfl⟩;refine wpAny_pyIter_slot hT II (HA II hT F.entry_zip_iter ?_ (F.args_zip_iter_1 _));show wpAny _ _ (ret (.ref z)) _ _ s;exact F6 ⟨_,rfl,"zip",_,hT,HH.lookup,h⟩
end
section
variable {F:Fx}{g ge:KZ}
end
theorem yr {v':V}{u:Value}(h:RelV v u)(h':RelV v' u):v=v':=by
 cases v<;>cases v'<;>simp only[L2.RelV]at h h'<;>first
  | rfl
  | (subst h;cases h';rfl)
  | (subst h;cases h';done)
  | (obtain⟨t,rfl⟩:=h;obtain⟨t',e⟩:=h';cases e;rfl)
  | (obtain⟨t,rfl⟩:=h;obtain⟨t',e⟩:=h';cases e;done)
  | (obtain⟨t,rfl⟩:=h;cases h';done)
  | (subst h;obtain⟨t',e⟩:=h';cases e;done)
section
variable {F:Fx}{am:Ll}{σ:St}{s:Shared}
open Classical in
noncomputable def itemB (P:Value->Prop) (u:Value):Bool:=if P u then true else false
theorem ja {n:Nat}{dx:D}{vx:V}{x:Value}(hK:X.K=K)(I:Inv X am σ H s)(z:Same Z H)(gx:good n dx=true)(rx:Rep K C Z dx vx)(hx:RelV vx x)(hu:A.units+n < cLine)(ds:List D)(hg:goods n ds=true){vs:List V}{us:List Value}(rs:Reps K C Z ds vs)(hv:Vals vs us) :
  ∃ e:Value->Bool,(∀ u∈us,SeqAt.EqAt A s u x (e u))/\us.any e=ds.any λd=>eqD d dx:=by
 refine⟨itemB λu=>∃ d v,good n d=true/\Rep K C Z d v/\RelV v u/\eqD d dx=true,?_⟩;have key:∀ (d:D) (v:V) (u:Value),good n d=true->Rep K C Z d v->RelV v u->itemB (λu=>∃ d v,good n d=true/\Rep K C Z d v/\RelV v u/\eqD d dx=true) u=eqD d dx:=λd v u gd rd hd=>by
  unfold itemB;by_cases h:eqD d dx=true
  ·rw[if_pos ⟨d,v,gd,rd,hd,h⟩,h]
  ·rw[if_neg,(by simpa using h:eqD d dx=false)]
   rintro ⟨d',v',g',r',h1,h2⟩
   have e1:=yr h1 hd;subst e1;rw[pN hK I z n d' d v' g' gd r' rd]at h2;exact h h2
 induction ds generalizing vs us with
 | nil =>
  rw[Reps]at rs;subst rs;cases hv
  grind
 | cons d ds ih =>
  rw[Reps]at rs;obtain⟨v,r,rfl,r1,r2⟩:=rs;rw[goods,Gj]at hg;cases hv with
  | cons hv1 hv2 =>
   obtain⟨i1,i2⟩:=ih hg.2 r2 hv2;refine⟨λu hu'=>?_,?_⟩
   ·rcases Gi.mp hu' with e | e
    ·subst e;rw[key d v _ hg.1 r1 hv1];exact sP hK I z n A d dx v vx _ _ hg.1 gx r1 rx hv1 hx hu
    ·exact i1 u e
   ·grind
end
def rInD (K:Frag)(C:La)(neg:Bool):R2:=λx y H Q=>∃ (Z:Hp) (dx:D) (ds:List D) (p:Addr) (vs:List V),Same Z H/\Rep K C Z dx x/\good 60 dx=true/\y=.ref p/\(SqL K Z p vs\/SqT K Z p vs)/\Reps K C Z ds vs/\goods 60 ds=true/\Q (.bl (if neg then !(ds.any λd=>eqD d dx) else ds.any λd=>eqD d dx)) H
section
variable {F:Fx}{a b:Expr}{ga gb:KZ}
theorem DH (hK:X.K=F.K)(hr:Room k X.A):OpR X (compareOp .In) (rInD F.K F.C false):=by
 intro am s σ H x y v u Q I rx ry h;obtain⟨Z,dx,ds,p,vs,z,rd,gd,rfl,hq,rs,gs,q⟩:=h;cases ry;have hu:X.A.in1.units+60 < cLine:=by have:=hr.un;show X.A.units+1+60 < cLine;omega
 rcases hq with hq | hq
 ·obtain⟨its,r,pl,hz⟩:=I.list (by rw[hK];exact z.seq hq);obtain⟨e,e1,e2⟩:=ja hK I z gd rd rx hu ds gs rs r;refine SeqAt.in_listAt e pl.isList (λw hw=>e1 w (by simpa using hw)) ⟨.bl _,H,I,rfl,?_⟩;rw[show its.toArray.any e=its.any e by simp,e2];exact q
 ·obtain⟨its,r,pl,hz⟩:=I.tuple (by rw[hK];exact hq.mono z);obtain⟨e,e1,e2⟩:=ja hK I z gd rd rx hu ds gs rs r;refine SeqAt.in_tupleAt e pl (λw hw=>e1 w (by simpa using hw)) ⟨.bl _,H,I,rfl,?_⟩;rw[show its.toArray.any e=its.any e by simp,e2];exact q
theorem wa (hK:X.K=F.K)(hr:Room k X.A):OpR X (compareOp .NotIn) (rInD F.K F.C true):=by
 intro am s σ H x y v u Q I rx ry h;obtain⟨Z,dx,ds,p,vs,z,rd,gd,rfl,hq,rs,gs,q⟩:=h;cases ry;have hu:X.A.in1.units+60 < cLine:=by have:=hr.un;show X.A.units+1+60 < cLine;omega
 rcases hq with hq | hq
 ·obtain⟨its,r,pl,hz⟩:=I.list (by rw[hK];exact z.seq hq);obtain⟨e,e1,e2⟩:=ja hK I z gd rd rx hu ds gs rs r;refine SeqAt.notIn_listAt e pl.isList (λw hw=>e1 w (by simpa using hw)) ⟨.bl _,H,I,rfl,?_⟩;rw[show its.toArray.any e=its.any e by simp,e2];exact q
 ·obtain⟨its,r,pl,hz⟩:=I.tuple (by rw[hK];exact hq.mono z);obtain⟨e,e1,e2⟩:=ja hK I z gd rd rx hu ds gs rs r;refine SeqAt.notIn_tupleAt e pl (λw hw=>e1 w (by simpa using hw)) ⟨.bl _,H,I,rfl,?_⟩;rw[show its.toArray.any e=its.any e by simp,e2];exact q
theorem uI {dx dy:D}{r:R D}(h:dInD dx dy=r):(∃ ds,(dy=.tup ds\/dy=.lst ds)/\good 60 dx=true/\goods 60 ds=true/\r=.ok (.bl (ds.any λd=>eqD d dx)))\/r=.stuck:=by
 subst h;cases dy with
 | tup ds =>
  by_cases q:good 60 dx=true/\goods 60 ds=true
  ·exact .inl ⟨ds,.inl rfl,q.1,q.2,if_pos q⟩
  ·exact .inr (if_neg q)
 | lst ds =>
  by_cases q:good 60 dx=true/\goods 60 ds=true
  ·exact .inl ⟨ds,.inr rfl,q.1,q.2,if_pos q⟩
  ·exact .inr (if_neg q)
 | _=>exact .inr rfl
theorem A7:OpD F (rInD F.K F.C false) dInD:=by
 intro H Z x y dx dy Q s rx ry w;rcases uI rfl with ⟨ds,hd,g1,g2,e⟩ | e
 ·rw[e]at w;rcases hd with rfl | rfl
  ·rw[Rep]at ry;obtain⟨p,vs,rfl,h1,h2⟩:=ry;exact⟨Z,dx,ds,p,vs,s,rx,g1,rfl,.inr h1,h2,g2,WG.now w s _ aG⟩
  ·rw[Rep]at ry;obtain⟨p,vs,rfl,h1,h2⟩:=ry;exact⟨Z,dx,ds,p,vs,s,rx,g1,rfl,.inl h1,h2,g2,WG.now w s _ aG⟩
 ·rw[e]at w;exact w.elim
theorem sV:OpD F (rInD F.K F.C true) dNotInD:=by
 intro H Z x y dx dy Q s rx ry w;unfold dNotInD at w;rcases uI rfl with ⟨ds,hd,g1,g2,e⟩ | e
 ·rw[e]at w;have w2:=w;rcases hd with rfl | rfl
  ·rw[Rep]at ry;obtain⟨p,vs,rfl,h1,h2⟩:=ry;exact⟨Z,dx,ds,p,vs,s,rx,g1,rfl,.inr h1,h2,g2,WG.now w2 s _ aG⟩
  ·rw[Rep]at ry;obtain⟨p,vs,rfl,h1,h2⟩:=ry;exact⟨Z,dx,ds,p,vs,s,rx,g1,rfl,.inl h1,h2,g2,WG.now w2 s _ aG⟩
 ·rw[e]at w;exact w.elim
theorem DI (bx:BX X F k)(ha:FE X F a ga)(hb:FE X F b gb)(hm:behindInMarks .In b=false:=by rfl):FT X F (.Compare a [.In] [b] pos) (gB (eOp dInD ga gb)):=iO (DH bx.K bx.room) A7 ha hb (hm:=hm)
theorem wb (bx:BX X F k)(ha:FE X F a ga)(hb:FE X F b gb)(hm:behindInMarks .NotIn b=false:=by rfl):FT X F (.Compare a [.NotIn] [b] pos) (gB (eOp dNotInD ga gb)):=iO (wa bx.K bx.room) sV ha hb (hm:=hm)
end
section
variable {F:Fx}{p:Pos}{e e2:Expr}{gs:KY}
theorem sW:CallD F (λxs H Q=>∃ i j,xs=[.int i,.int j]/\Q (.int (if j < i then j else i)) H) dMin2:=by
 intro H Z xs ds Q s rs w;unfold dMin2 at w;split at w
 ·exact⟨_,_,qP rs,WG.now w s _ aM⟩
 ·exact w.elim
theorem A8 (bx:BX X F k)(hg:Gl X "min")(hm:X.mg "min"=none)(ha:FA X F [e,e2] gs)(he:Id X e [e2]:=by rfl)(hpl:IO X pos [e2]:=by rfl) :
  FE X F (.Call (.Name "min" p) [e,e2] [] pos) (eCall dMin2 gs):=gp (vK bx.calm) sW hg hm (by decide +kernel) ha (he:=he) (hpl:=hpl)
theorem wc:CallD F (λxs H Q=>∃ i,xs=[.int i]/\Q (.int (if i < 0 then -i else i)) H) dAbs:=by
 intro H Z xs ds Q s rs w;unfold dAbs at w;split at w
 ·rename_i i;have e:(i.natAbs:Int)=if i < 0 then -i else i:=by split<;>omega
  rw[e]at w;exact⟨_,pM rs,WG.now w s _ aM⟩
 ·exact w.elim
theorem DJ (bx:BX X F k)(hg:Gl X "abs")(hm:X.mg "abs"=none)(ha:FA X F [e] gs)(he:Id X e []:=by rfl)(hpl:IO X pos []:=by rfl) :
  FE X F (.Call (.Name "abs" p) [e] [] pos) (eCall dAbs gs):=gp xv wc hg hm (by decide +kernel) ha (he:=he)
theorem sX:CallD F (λxs H Q=>(∃ i,xs=[.int i]/\Q (.int i) H)\/∃ k,xs=[.bl k]/\Q (.int (if k then 1 else 0)) H) dIntB:=by
 intro H Z xs ds Q s rs w;unfold dIntB at w;split at w
 ·rename_i b;obtain⟨v,rfl,h⟩:=aN rs;rw[Rep]at h;subst h;exact .inr ⟨b,rfl,WG.now w s _ aM⟩
 ·exact w.elim
theorem uJ (bx:BX X F k)(hg:Gl X "int")(hm:X.mg "int"=none)(ha:FA X F [e] gs)(he:Id X e []:=by rfl)(hpl:IO X pos []:=by rfl) :
  FE X F (.Call (.Name "int" p) [e] [] pos) (eCall dIntB gs):=jX vL sX hg hm (by decide +kernel) ha (he:=he) (hpl:=hpl)
theorem sY:CallD F (λxs H Q=>∃ p ys,xs=[.ref p]/\(SqL F.K H p ys\/SqT F.K H p ys)/\∀ l,H l=none->Q (.ref l) (upd H l (.lst ys))) dList:=by
 intro H Z xs ds Q s rs w;unfold dList at w;split at w
 ·rename_i ys;obtain⟨v,rfl,h⟩:=aN rs;rw[Rep]at h;obtain⟨a,vs,rfl,h1,h2⟩:=h;refine⟨a,vs,rfl,.inl (s.seq h1),λl hl=>?_⟩;have z:Same Z (upd Z l (.lst vs)):=ar (s.free hl);exact w _ _ (Ex.alloc s hl) _ (by rw[Rep];exact⟨l,vs,rfl,SqL.of ah,h2.mono z⟩)
 ·rename_i ys;obtain⟨v,rfl,h⟩:=aN rs;rw[Rep]at h;obtain⟨a,vs,rfl,h1,h2⟩:=h;refine⟨a,vs,rfl,.inr (h1.mono s),λl hl=>?_⟩;have z:Same Z (upd Z l (.lst vs)):=ar (s.free hl);exact w _ _ (Ex.alloc s hl) _ (by rw[Rep];exact⟨l,vs,rfl,SqL.of ah,h2.mono z⟩)
 ·exact w.elim
theorem A9 (bx:BX X F k)(hg:Gl X "list")(hm:X.mg "list"=none)(ha:FA X F [e] gs)(he:Id X e []:=by rfl)(hpl:IO X pos []:=by rfl) :
  FE X F (.Call (.Name "list" p) [e] [] pos) (eCall dList gs):=jX (by have:=pE (X:=X);rw[bx.K]at this;exact this) sY hg hm (by decide +kernel) ha (he:=he) (hpl:=hpl)
end
section
variable {F:Fx}{p1:Pos}{x:Str}{kk:Nat}
theorem Ba (i j:Nat)(hc:X.calm=true)(hN:X.N.Nodup)(hij:i≠j:=by decide)(hi:X.N[i]?=some x:=by rfl)(hj:X.N[j]?=some y:=by rfl)(hx:Loc X.env.scope x:=by first | exact Or.inl rfl | exact Or.inr rfl)(hy:Loc X.env.scope y:=by first | exact Or.inl rfl | exact Or.inr rfl)
  (hfx:KJ X x:=by first | exact .inl rfl | exact .inr rfl) (hfy:KJ X y:=by first | exact .inl rfl | exact .inr rfl)
  (hK:X.K=F.K:=by first | rfl | assumption) (hn:(assignEach [.Name x p1,.Name y p2] X.env).length=2:=by rfl) (K8:(assignEach [.Name x p1,.Name y p2] X.env).findIdx? (·.1)=none:=by rfl):FG X F (.Tuple [.Name x p1,.Name y p2] kk pos) (gTup [i,j]) :=
 (xn hc (i4 (i0 (i:=i) hN hi hx hfx) (i4 (i0 (i:=j) hN hj hy hfy) um)) hn K8).weak λv σ H Q ⟨Z,S,d,ok,rd,w⟩=>by
  cases d with
  | tup ds =>
   match ds with
   | [a,b] =>
    rw[Rep]at rd;obtain⟨c,vs,rfl,h1,h2⟩:=rd;rw[Reps]at h2;obtain⟨v1,r,rfl,q1,h2⟩:=h2;rw[Reps]at h2;obtain⟨v2,r,rfl,q2,h2⟩:=h2;rw[Reps]at h2;subst h2;refine⟨c,[v1,v2],rfl,by rw[hK];exact h1.mono ok.sub,rfl,v1,[v2],rfl,v2,[],rfl,rfl,?_⟩;exact WG.now w ok.sub _ ((ok.setVal (i:=i) q1).setVal (i:=j) q2)
   | []=>exact w.elim
   | [_]=>exact w.elim
   | a::b::c::r =>
    have e:gTup [i,j] (.tup (a::b::c::r)) S=.stuck:=by unfold gTup;simp
    rw[e]at w;exact w.elim
  | _=>exact w.elim
end
section
variable {F:Fx}{p pos2:Pos}{e:Expr}{gs:KY}
end
section
variable {F:Fx}
def gNames:List Nat->TGs
 | []=>gNil
 | i::r=>gCons (gName i) (gNames r)
theorem oI {H Z:Hp}{Q:St->Lh}:∀ (ix:List Nat) (ds:List D) (vs:List V) (S:SS) (σ:St),ds.length=ix.length->Reps F.K F.C Z ds vs->StOk F H Z S σ->(∀ σ',StOk F H Z (setAll ix ds S) σ'->Q σ' H)->gNames ix vs σ H Q
 | [],[],vs,S,σ,_,rs,ok,h=>by
  rw[Reps]at rs;subst rs;exact⟨rfl,h σ ok⟩
 | i::ix,d::ds,vs,S,σ,hl,rs,ok,h=>by
  rw[Reps]at rs;obtain⟨v,r,rfl,q,rs⟩:=rs;exact⟨v,r,rfl,oI ix ds r _ _ (by simpa using hl) rs (ok.setVal q) h⟩
 | [],_::_,_,_,_,hl,_,_,_=>by simp at hl
 | _::_,[],_,_,_,hl,_,_,_=>by simp at hl
variable {σ:Type}{rest:Lo}{J:σ->SS->Prop}{e:Expr}{ge:KZ}{r:R D}{n:Nat}
end
end FF
end
noncomputable section
namespace L2
open PySem PySem.Spec PyProof.Rows
section
variable {X:Cx}{pos:Pos}
end
end L2
namespace FF
open PySem PySem.Spec PyProof.Rows L2
variable {X:Cx}{k own n ep:Nat}{w:World}{pos p2:Pos}{prog:Program}{N XN ps:List Str}{s:Shared}{A:Around}{C:La}{e a b tg iter elt:Expr}{us:List Value}{x q:Str}{E:KU}{scope:Scope}{S:SS}{K:Frag}{cap:List Nat}{st:Stmt}{am:Ll}{Gn:List (Str×Value)}
section
variable {F:Fx}{σ:Type}{rest:Lo}{J:σ->SS->Prop}
end
section
variable {σ:St}{H:Hp}{h':Heap}
end
section
variable {F:Fx}{ga gb:KZ}
end
section
variable {R:Result->Lg}{I S:Addr}{res:Value}
end
theorem we:bootBuiltins "list"=some (.type "list"):=by decide +kernel
section
variable {σ:St}{H1:Hp}{S z TI TO i1 i2 a1 a2:Addr}{b1 b2:Bool}{xs ys:List V}
end
theorem uK {K:Frag}{C:La}{Z:Hp}:∀ {ds:List D} {vs:List V},ds.length=vs.length->(∀ (j:Nat) (d:D) (v:V),ds[j]?=some d->vs[j]?=some v->Rep K C Z d v)->Reps K C Z ds vs
 | [],[],_,_=>Reps.nil
 | d::ds,v::vs,hl,h=>Reps.cons (h 0 d v rfl rfl) (uK (by simpa using hl) λj d' v' e1 e2=>h (j+1) d' v' (by simpa using e1) (by simpa using e2))
 | [],_::_,hl,_=>by simp at hl
 | _::_,[],hl,_=>by simp at hl
section
variable {F:Fx}{ga gb:KZ}
end
def TabE (C:La):List DictEntry->List (Str×Nat)->Prop
 | [],[]=>True
 | e::es,p::l=>(∃ t,e.key=.str p.1 t)/\e.val=.ref (C p.2)/\TabE C es l
 | _,_=>False
def TabK (K:Frag)(C:La)(P:Params)(a:Addr)(l:List (Str×Nat)):Prop :=
 ∃ es n,K.lookup a=some ⟨.type "dict",none,.dict es n,#[]⟩/\PySem.W.KeysLit P es.toList/\TabE C es.toList l/\(l.map (·.1)).Nodup/\l.length<=1000/\(a==sysModules)=false
theorem re {C:La}{z:Str}{k:Nat}:∀ {es:List DictEntry} {l:List (Str×Nat)},TabE C es l->l.lookup z=some k->(es.find? λe=>Value.isStrOf z e.key).map (·.val)=some (.ref (C k))
 | [],[],_,h=>by simp at h
 | e::es,p::l,⟨⟨t,e1⟩,e2,r⟩,h=>by
  rw[GY,e1];by_cases q:z=p.1
  ·have h1:Value.isStrOf z (.str p.1 t)=true:=by rw[q];simp[Value.isStrOf]
   rw[h1];rw[GC]at h;have h2:(z==p.1)=true:=by rw[q];simp
   rw[h2]at h;cases h
   simp[e2]
  ·have h1:Value.isStrOf z (.str p.1 t)=false:=by
    simp only[Value.isStrOf]
    simpa using λe=>q e.symm
   rw[h1];rw[GC]at h;have h2:(z==p.1)=false:=by simpa using q
   rw[h2]at h;exact re r h
 | [],_::_,h,_=>h.elim
 | _::_,[],h,_=>h.elim
section
variable {F:Fx}{g:KZ}{l:List (Str×Nat)}{p:Pos}
theorem DK {te:TE}{a:Addr}(hg:Gl X x)(hm:X.mg x=some (.ref a))(C:La)(hT:TabK X.K C X.w.params a l)(he:PE X e te)(hs:PlainIxT e)(hd:KH x) :
  PE X (.Subscript (.Name x p) e pos) (tOp (λu y H Q=>∃ z k,u=.ref a/\y=.str z/\l.lookup z=some k/\Q (.ref (C k)) H) (tC (.ref a)) te):=by
 obtain⟨es,n,h1,h2,h3,_⟩:=hT;intro am s σ H Q I h;refine Jk (binT (aR (v:=.ref a) hg hm rfl hd) he I h λv u s2 x' y H2 I2 rx ry q=>?_);obtain⟨z,k,rfl,rfl,hl,q⟩:=q;cases rx;obtain⟨t,rfl⟩:=ry;have hM:=PySem.W.mapOf_K (prog:=X.prog) I2.kIn h1 h2;have hfind:findBy Value.isStrOf es z=some (.ref (C k)):=by
  unfold findBy;rw[<- re h3 hl,<- Array.find?_toList]
 exact tail_any hM.typeIs slot_dict_getitem.lookup (wpAny_getItem_of (strKind_is X.prog X.w z t) hM hfind ⟨.ref (C k),H2,I2.tok _,rfl,q⟩) (hs _ _)
theorem DL (bx:BX X F k)(hT:∃ a,X.mg x=some (.ref a)/\TabK X.K F.C X.w.params a l)(hg:Gl X x)(he:FE X F e g)(hs:PlainIxT e:=by intro _ _;rfl)(hd:KH x:=by decide):FE X F (.Subscript (.Name x p) e pos) (λS=>(g S).bind λy=>dTab l y):=by
 obtain⟨a,hm,hT⟩:=hT;refine(DK hg hm F.C hT he hs hd).weak λσ H Q ⟨Z,S,ok,w⟩=>?_
 refine ak ok w λd v H1 Z1 ok1 x1 rv w1=>?_
 cases d with
 | str z =>
  have w2:WG F H1 Z1 (match l.lookup z with | some k=>R.ok (D.fn k) | none=>R.stuck) _:=w1;cases hl:l.lookup z with
  | none=>rw[hl]at w2;exact w2.elim
  | some kk =>
   rw[hl]at w2;rw[Rep]at rv;exact⟨z,kk,rfl,rv,hl,WG.now w2 ok1.sub _ (by rw[Rep])⟩
 | _=>exact w1.elim
end
theorem oJ {prog:Program}{w:World}{C:La}:∀ {es:List DictEntry} {l:List (Str×Nat)},TabE C es l->PySem.Pairs (PySem.strKind prog w) es (l.map λp=>(p.1,Value.ref (C p.2)))
 | [],[],_=>.nil
 | e::es,p::l,⟨⟨t,e1⟩,e2,r⟩=>.cons (by rw[e1];exact strKind_is prog w p.1 t) e2 (oJ r)
 | [],_::_,h=>h.elim
 | _::_,[],h=>h.elim
section
theorem rh {κ:Type}[DecidableEq κ]{knd:PySem.KeyKind prog w κ}{R:Result->Lg}{d:Addr}{Gn:List (κ×Value)}(hh:A.handled=none)(hd:(d==sysModules)=false)(hm:s.heap.DictAt knd d Gn ep)(Km:Gn.length<=1000)(S:Addr)(res:Value)(c₀:Nat)(hS:s.heap.get? S=some { cls:=.type "list",data:=.seq #[] c₀ })
  (hR:∀ h' tk Kr c',(∀ b o,b≠S->s.heap.get? b=some o->h'.get? b=some o)->h'.get? S=some { cls:=.type "list",dict:=none,data:=.seq Kr c',slots:=#[] } ->
   ItemsOf (λi v=>∃ k x,Gn[i]?=some (k,x)/\knd.is k v=true) Kr Gn.length->R (.ok (.ret res)) { s with heap:=h',toks:=tk }) :
  wpAny (model prog w) A.in1 (Builtin.List.listExtendWith (.ref S) (.ref d) res)
   (λfin s'=>match fin with | .done f=>R (.ok f) s' | .again c'=>c'.quiet=true/\codeAny (model prog w) A c' R s') (λe s'=>R (.error e) s') s:=by
 have hT:s.TypeIs (.ref d) "dict" := hm.dictOf.typeIs;have hSd:S≠d:=λe=>by
  obtain⟨o,ho,hc⟩:=hT;subst e;rw[hS]at ho;cases ho;have hc':Value.type "list"=Value.type "dict" := hc
  revert hc';decide
 have hSlt:S < s.heap.objs.size:=F8 hS;have hSI:S≠s.heap.objs.size:=Gf hSlt;have hdI:d≠s.heap.objs.size:=by obtain⟨o,ho,_⟩:=hT;exact Gf (F8 ho)
 have hSf:S∉[s.heap.objs.size,d]:=λhm=>by
  simp only[Gi,HB,Ju]at hm;rcases hm with h | h
  ·exact hSI h
  ·exact hSd h
 have W:=(Walks.dictKeys (prog:=prog) (w:=w) (A:=A.in1) (knd:=knd) hh s.heap.objs.size d hdI Gn ep).toS;have key:∀ (h:Heap) (c₁ tk:Nat),h.IsKeyIter s.heap.objs.size d 0 Gn.length ep->h.DictAt knd d Gn ep->(∀ b o,b≠S->s.heap.get? b=some o->h.get? b=some o) ->
   h.get? S=some { cls:=.type "list",data:=.seq #[] c₁ }->codeAny (model prog w) A (.builtin "list.extend.loop" ⟨[.ref S,.ref s.heap.objs.size,res],[]⟩) R { s with heap:=h,toks:=tk }:=by
  intro h c₁ tk hit hD hk hS₁;refine codeAny_extend_loopS W (by rw[Go];omega) S hSf res Gn.length 0 _ #[] c₁ rfl (GQ _) ⟨hit,hD⟩ hS₁ (ItemsOf.nil _) λs' Kr c' hm hS' K7=>?_
  rw[Moved.eq_with hm];refine hR s'.heap s'.toks Kr c' (λb o hb e=>hm.heap b o (λhmem=>?_) (hk b o hb e)) hS' K7;rcases Gi.mp hmem with e' | hmem
  ·exact hb e'
  ·exact absurd (F8 e) (by rw[GP.mp hmem];exact Ht _)
 unfold Builtin.List.listExtendWith;refine F3 (IJ (T := "dict") hT ?_);have h1:Builtin.List.listSameRef (.ref S) (.ref d)=false:=by simp[Builtin.List.listSameRef,hSd]
 have h2:(Value.type "dict" == Value.type "list")=false:=by decide
 have h3:(Value.type "dict" == Value.type "tuple")=false:=by decide
 simp only[h1,h2,h3,Jb,Ib,Gt];refine F3 (wpAny_pyIter_dict hd hm ?_);have hT₁:Shared.TypeIs { s with heap:=s.heap.push { cls:=.type "dict_keyiterator",data:=.fields #[.ref d,.int 0 0,.int Gn.length 0,.int ep 0] } } (.ref d) "dict" := by obtain⟨o,ho,hc⟩:=hT;exact⟨o,F4 _ ho,hc⟩
 refine F3 (HE ?_);unfold Builtin.List.listLengthHint;refine F3 (IK hT₁ F.slot_dict_len.lookup ?_);generalize hid:("dict.__len__":String)=id0
 wp_delta
 rw[show splitId id0=some ("dict","__len__") from by subst hid;decide +kernel];subst hid;refine F3 (wpAny_isInstance (T := "dict") (b:=true) hT₁ (by rw[isSubtype_type];kernel_rfl) ?_);refine JF (λhab=>absurd hab (by decide)) (λ_=>?_);refine JF (λ_=>?_) (λhab=>absurd (by decide +kernel) hab);refine F3 (IJ (T := "dict") hT₁ ?_);refine F6 ?_;have hit₁:(s.heap.push { cls:=.type "dict_keyiterator",data:=.fields #[.ref d,.int 0 0,.int Gn.length 0,.int ep 0] }).IsKeyIter s.heap.objs.size d 0 Gn.length ep:=⟨_,Ge _ rfl,rfl,rfl⟩;have hD₁:(s.heap.push { cls:=.type "dict_keyiterator",data:=.fields #[.ref d,.int 0 0,.int Gn.length 0,.int ep 0] }).DictAt knd d Gn ep:=hm.at' λo e=>F4 _ e
 have hS₁:=F4 { cls:=.type "dict_keyiterator",data:=.fields #[.ref d,.int 0 0,.int Gn.length 0,.int ep 0] } hS;refine JF (λ_=>?_) (λ_=>F6 ⟨Hu G3 _,key _ c₀ _ hit₁ hD₁ (λb o _ e=>F4 _ e) hS₁⟩);refine F3 (IC ?_);refine F3 ?_;show wpAny _ _ (updateSeq S (·.push .none) >>= λ_=>updateSeq S (·.pop)) _ _ _;refine F3 (HG hS₁ rfl ?_);have hS₂:=Iz (Obj.mapSeq (·.push Value.none)) hS₁ rfl;refine HG (hz:=by seq_fits) hS₂ rfl ?_;have hS₃:=Iz (Obj.mapSeq (·.pop)) hS₂ rfl;refine F6 ⟨Hu G3 _,key _ _ _ (hit₁.at λo e=>?_) (hD₁.at' λo e=>?_) (λb o hb e=>?_) hS₃⟩
 ·exact(GR _ _ hSI).trans ((GR _ _ hSI).trans e)
 ·exact(GR _ _ hSd).trans ((GR _ _ hSd).trans e)
 ·exact(GR _ _ (GM hb)).trans ((GR _ _ (GM hb)).trans (F4 _ e))
theorem wf {R:Result->Lg}{d:Addr}(hh:A.handled=none)(hd:(d==sysModules)=false)(hm:s.heap.DictAt (PySem.strKind prog w) d Gn ep)(Km:Gn.length<=1000)(S:Addr)(hS:s.heap.get? S=some { cls:=.type "list",data:=.seq #[] })
  (hR:∀ h' tk Kr c',(∀ b o,b≠S->s.heap.get? b=some o->h'.get? b=some o)->h'.get? S=some { cls:=.type "list",dict:=none,data:=.seq Kr c',slots:=#[] } ->
   ItemsOf (λi v=>∃ k x,Gn[i]?=some (k,x)/\(PySem.strKind prog w).is k v=true) Kr Gn.length->R (.ok (.ret .none)) { s with heap:=h',toks:=tk }) :
  wpAny (model prog w) A.in1 (Builtin.«list.__init__» ⟨[.ref S,.ref d],[]⟩)
   (λfin s'=>match fin with | .done f=>R (.ok f) s' | .again c'=>c'.quiet=true/\codeAny (model prog w) A c' R s') (λe s'=>R (.error e) s') s:=by
 have hSd:S≠d:=λe=>by
  obtain⟨o,ho,hc⟩:=hm.dictOf.typeIs;subst e;rw[hS]at ho;cases ho;have hc':=hc
  revert hc';decide
 refine F3 ?_;unfold Builtin.List.listItems;refine F3 (IS hS rfl (F6 ?_));refine F3 (HG hS rfl ?_);have hS₂:=Iz (Obj.mapSeq (λ_=>(#[]:Array Value))) hS rfl;have oth:∀ b o,b≠S->s.heap.get? b=some o->(s.heap.update S (Obj.mapSeq (λ_=>(#[]:Array Value)))).get? b=some o :=
  λb o hb e=>(GR _ _ (GM hb)).trans e
 refine F3 (JL ?_);refine rh hh hd (hm.at' λo e=>oth d o (GM hSd) e) Km S .none _ hS₂ λh' tk Kr c' hk hS' K7=>?_
 exact hR h' tk Kr c' (λb o hb e=>hk b o hb (oth b o hb e)) hS' K7
theorem lT {Q:KU}{d:Addr}(hh:A.handled=none)(hd:(d==sysModules)=false)(hm:s.heap.DictAt (PySem.strKind prog w) d Gn ep)(Km:Gn.length<=1000)
  (hQ:∀ h' tk Kr c',(∀ b o,s.heap.get? b=some o->h'.get? b=some o)->h'.get? s.heap.objs.size=some { cls:=.type "list",dict:=none,data:=.seq Kr c',slots:=#[] } ->
   ItemsOf (λi v=>∃ k x,Gn[i]?=some (k,x)/\(PySem.strKind prog w).is k v=true) Kr Gn.length->Q (.ref s.heap.objs.size) { s with heap:=h',toks:=tk }) :
  wpAny (model prog w) A (call (.type "list") [.ref d]) Q E s:=by
 refine JW (Q₁:=λobj s₁=>obj=.ref s.heap.objs.size/\s₁={ s with heap:=s.heap.push { cls:=.type "list",data:=.seq #[] } }) F.called_list (F.typeCall_list_1 _) F.entry_list_init
  (code_list_new _ ⟨rfl,rfl⟩) λobj s₁ h₁=>?_
 obtain⟨rfl,rfl⟩:=h₁;have hS:(s.heap.push { cls:=.type "list",data:=.seq #[] }).get? s.heap.objs.size=some { cls:=.type "list",data:=.seq #[] }:=Ge _ rfl;refine⟨⟨_,hS,rfl⟩,F.args_list_init_2 _ _,wf (A:=A.in1) hh hd (hm.at' λo e=>F4 _ e) Km _ hS λh' tk Kr c' hk hS' K7=>?_⟩;exact⟨rfl,hQ h' tk Kr c' (λb o e=>hk b o (Gf (F8 e)) (F4 _ e)) hS' K7⟩
end
section
variable {F:Fx}{l:List (Str×Nat)}{p:Pos}
theorem sZ {a:Addr}(hc:X.calm=true)(hg:Gl X "list")(hm:X.mg "list"=none)(hgx:Gl X x)(hmx:X.mg x=some (.ref a))(C:La)(hT:TabK X.K C X.w.params a l)(hd:KH x)
  (hs:starEach [.Name x p2] X.env=[(false,eval (.Name x p2) X.env)]) :
  PE X (.Call (.Name "list" p) [.Name x p2] [] pos) (λσ H Q=>∀ q,H q=none->Q (.ref q) (upd H q (.lst (l.map λp=>.str p.1)))):=by
 obtain⟨es,n,h1,h2,h3,h4,h5,h6⟩:=hT;intro am s σ H Q I h;refine Call_ (iK I hg hm we (Hb ?_ (by rw[hs];rfl) (by rfl)));rw[hs];refine HZ (thn (aR (v:=.ref a) hgx hmx rfl hd am s σ H (λv H'=>v=.ref a/\H'=H) I ⟨rfl,rfl⟩) λv s1 ⟨y,H1,I1,r1,q1⟩=>Io ?_);obtain⟨rfl,rfl⟩:=q1;cases r1;have hD:s1.heap.DictAt (PySem.strKind X.prog X.w) a (l.map λp=>(p.1,Value.ref (C p.2))) n:=by
  obtain⟨o,es',n',ho,hx,hdat,hk,_⟩:=PySem.W.mapOf_K I1.kIn h1 h2;have e1:=(I1.kIn a _ h1).symm.trans ho;cases e1;cases hdat;exact⟨_,es,ho,hx,rfl,hk,oJ h3,by rw[Ho];exact h4⟩
 refine lT (I1.ok.hd hc) h6 hD (by simpa using h5) λh' tk Kr c' hk hS K7=>?_
 have hv:Vals (l.map λp=>V.str p.1) Kr.toList:=by
  have:∀ (l:List (Str×Nat)) (vs:List Value),vs.length=l.length->(∀ (j:Nat) (p:Str×Nat) (v:Value),l[j]?=some p->vs[j]?=some v->∃ t,v=.str p.1 t)->Vals (l.map λp=>V.str p.1) vs:=by
   intro l
   induction l with
   | nil=>intro vs hl _;cases vs with
    | nil=>exact .nil
    | cons _ _=>simp at hl
   | cons p l ih =>
    intro vs hl h;cases vs with
    | nil=>simp at hl
    | cons v vs=>exact .cons (h 0 p v rfl rfl) (ih vs (by simpa using hl) λj q u e1 e2=>h (j+1) q u (by simpa using e1) (by simpa using e2))
  refine this l Kr.toList (by have:=K7.1;simpa using this) λj p v e1 e2=>?_
  obtain⟨k,y,f1,f2⟩:=K7.2 j v (by simpa using e2);have f1':(l[j]?).map (λp=>(p.1,Value.ref (C p.2)))=some (k,y):=by simpa using f1
  rw[e1]at f1';cases f1';obtain⟨t,rfl⟩:=IM f2;exact⟨t,rfl⟩
 refine⟨.ref s1.heap.objs.size,upd H1 s1.heap.objs.size (.lst (l.map λp=>.str p.1)),I1.laid hk (F7 _) ⟨by rw[Go,Gg];omega,Kr.toList,c',hv,by simpa using hS⟩,rfl,h _ (I1.hok.fresh (F7 _))⟩
theorem tj (bx:BX X F k)(hg:Gl X "list")(hm:X.mg "list"=none)(hT:∃ a,X.mg x=some (.ref a)/\TabK X.K F.C X.w.params a l)(hgx:Gl X x)(hd:KH x:=by decide)
  (hs:starEach [.Name x p2] X.env=[(false,eval (.Name x p2) X.env)]:=by rfl):FE X F (.Call (.Name "list" p) [.Name x p2] [] pos) (λ_=>R.ok (tabK l)):=by
 obtain⟨a,hmx,hT⟩:=hT;refine(sZ bx.calm hg hm hgx hmx F.C hT hd hs).weak λσ H Q ⟨Z,S,ok,w⟩=>λq hq=>?_
 have z:Same Z (upd Z q (.lst (l.map λp=>V.str p.1))):=ar (ok.sub.free hq);refine w _ _ (Ex.alloc ok.sub hq) _ ?_;unfold tabK;rw[Rep];refine⟨q,_,rfl,SqL.of ah,?_⟩;have:∀ l:List (Str×Nat),Reps F.K F.C (upd Z q (.lst ((l.map λp=>V.str p.1)))) (l.map λp=>D.str p.1) (l.map λp=>V.str p.1)->True:=λ_ _=>trivial
 refine uK (by simp) λj d v e1 e2=>?_
 simp only[Gu]at e1 e2;cases hl:l[j]? with
 | none=>rw[hl]at e1;cases e1
 | some pr =>
  rw[hl]at e1 e2;cases e1;cases e2;rw[Rep]
end
open AutoSeq1 (wpAny_loadPart')
section
variable {F:Fx}{ga:KZ}
end
section
variable {F:Fx}{ga:KZ}{p pos2:Pos}
end
section
variable {F:Fx}
variable {σ:Type}{rest:Lo}{J:σ->SS->Prop}{ge:KZ}{r:R D}
end
section
variable {F:Fx}
end
def capB (XN:List Str)(scope:Scope)(N:List Str)(own:Nat):Nat->List Nat->Bool
 | _,[]=>true
 | j,i::r=>(match N[own+j]?,XN[i]? with
  | some x,some y=>x==y&&scope.names.lookup x==some .free
  | _,_=>false)&&capB XN scope N own (j+1) r
def blkB (XN:List Str)(osc scope:Scope)(N:List Str)(own:Nat)(cap:List Nat):Bool :=
 scope.kind==.function&&(scope.names.all λy=>scope.names.lookup y.1==some y.2)&&(scope.names.all λy=>!(y.2==.free)||(osc.names.lookup y.1==some .cell||osc.names.lookup y.1==some .free))&&N.length==own+cap.length&&capB XN scope N own 0 cap
theorem uL {XN:List Str}{scope:Scope}{N:List Str}{own:Nat}:∀ {cap:List Nat} {k:Nat},capB XN scope N own k cap=true->∀ j i,cap[j]?=some i->∃ x,N[own+(k+j)]?=some x/\XN[i]?=some x/\scope.names.lookup x=some .free
 | [],_,_,j,i,e=>by simp at e
 | c::r,k,h,j,i,e=>by
  unfold capB at h;rw[Gj]at h;cases j with
  | zero =>
   simp only[List.getElem?_cons_zero,Iq]at e;subst e;have h1:=h.1;split at h1
   ·rename_i x y e1 e2;rw[Gj]at h1;have:=eq_of_beq h1.1;subst this;exact⟨x,by rw[Jv];exact e1,e2,eq_of_beq h1.2⟩
   ·cases h1
  | succ j =>
   obtain⟨x,a,b⟩:=uL h.2 j i (by simpa using e);exact⟨x,by rw[<- a];congr 1;omega,b⟩
theorem BlkOk.of {osc:Scope}(h:blkB XN osc scope N own cap=true):BlkOk XN osc scope N own cap:=by
 unfold blkB at h;simp only[Gj,He]at h;obtain⟨⟨⟨⟨h1,h2⟩,h3⟩,h4⟩,h5⟩:=h;have look:=λy hy=>eq_of_beq (h2 y hy)
 refine⟨eq_of_beq h1,λy hy e=>by rw[look y hy,e],λy hy e=>by rw[look y hy,e],λy hy e=>by rw[look y hy,e],λy hy e=>?_,eq_of_beq h4,λj i e=>?_⟩
 ·grind
 ·have:=uL h5 j i e
  grind
section
variable {F:Fx}{o:Expr}{g:KZ}{gs:List (KZ)}{IR IY:Pos}
end
def OkD (P:Program)(w:World)(K:Frag)(mg:KW)(base:Heap)(C:La)(k:Nat)(x:Str)(st:Stmt)(ps:List Str)(fn:KS):Prop :=
 ∀ {f:Addr} {fd:FuncData},Fun K x x st f fd->FnOk P w K mg base (CXE P w) (k+1) f fd ps (spF K C ps.length fn)
def OkB (P:Program)(w:World)(K:Frag)(mg:KW)(base:Heap)(C:La)(k:Nat)(N:List Str)(x:Str)(st:Stmt)(ds:List D)(l:L Unit):Prop :=
 ∀ {f:Addr} {J4:Value} {A:Around} {outer:List Env} {s:Shared} {H Z:Hp} {E:XK},(λ(X:Cx) (F:Fx)=>BX X F k->PassesOwn (model P w) X.A X.env X.xe->MadeX X F->FL X F (startS N.length ds) (defBody st) JU l) (bodyX P w K mg base N x (defScope st) f J4 A outer s H E) ⟨K,C,H,Z,E⟩
theorem mkSc {sc:Scope}(a:sc.kind=.function:=by rfl)(b:sc.isCoroutine=false:=by rfl)(c:sc.isGenerator=false:=by rfl)(d:N.Nodup:=by decide +kernel)(e:N.take ps.length=ps:=by rfl)
  (f:∀ x∈ps,sc.names.lookup x=some .local\/sc.names.lookup x=some .cell:=by decide +kernel) (g:∀ y∈sc.names,y.2≠.free:=by decide +kernel):FnScope N ps sc:=⟨a,b,c,d,e,f,g⟩
section
variable {P:Program}{mg:KW}{base:Heap}
theorem okd {fn:KS}(S:FnScope N ps (defScope st))(h:∀ ds,ds.length=ps.length->∃ l,fn ds=outL l/\OkB P w K mg base C k N x st ds l):OkD P w K mg base C k x st ps fn:=λF =>
 A0 F S λJ4 A outer s H Z E bx hp md ds hl=>by
  obtain⟨l,e,o⟩:=h ds hl;exact⟨l,e,@o _ J4 A outer s H Z E bx hp md⟩
theorem ok0 {c:L Unit}(S:FnScope N [] (defScope st))(h:OkB P w K mg base C k N x st [] c):OkD P w K mg base C k x st [] (a0 c):=okd S λds hl=>by cases len0 hl;exact⟨c,rfl,h⟩
theorem ok1 {p:Str}{c:Lj}(S:FnScope N [p] (defScope st))(h:∀ a,OkB P w K mg base C k N x st [a] (c a)):OkD P w K mg base C k x st [p] (a1 c):=okd S λds hl=>by obtain⟨a,rfl⟩:=len1 hl;exact⟨c a,rfl,h a⟩
theorem ok2 {p:Str}{c:D->Lj}(S:FnScope N [p,q] (defScope st))(h:∀ a b,OkB P w K mg base C k N x st [a,b] (c a b)):OkD P w K mg base C k x st [p,q] (a2 c):=okd S λds hl=>by obtain⟨a,b,rfl⟩:=len2 hl;exact⟨c a b,rfl,h a b⟩
theorem ok3 {p r:Str}{c:D->D->Lj}(S:FnScope N [p,q,r] (defScope st))(h:∀ a b d,OkB P w K mg base C k N x st [a,b,d] (c a b d)):OkD P w K mg base C k x st [p,q,r] (a3 c):=okd S λds hl=>by obtain⟨a,b,d,rfl⟩:=len3 hl;exact⟨c a b d,rfl,h a b d⟩
theorem ok4 {p r s:Str}{c:D->D->D->Lj}(S:FnScope N [p,q,r,s] (defScope st))(h:∀ a b d e,OkB P w K mg base C k N x st [a,b,d,e] (c a b d e)):OkD P w K mg base C k x st [p,q,r,s] (a4 c):=okd S λds hl=>by obtain⟨a,b,d,e,rfl⟩:=len4 hl;exact⟨c a b d e,rfl,h a b d e⟩
theorem ok5 {p r s t:Str}{c:D->D->D->D->Lj}(S:FnScope N [p,q,r,s,t] (defScope st))(h:∀ a b d e f,OkB P w K mg base C k N x st [a,b,d,e,f] (c a b d e f)):OkD P w K mg base C k x st [p,q,r,s,t] (a5 c):=okd S λds hl=>by obtain⟨a,b,d,e,f,rfl⟩:=len5 hl;exact⟨c a b d e f,rfl,h a b d e f⟩
structure Fd (K:Frag)(mg:KW)(x:Str)(ps:List Str)(st:Stmt):Prop where
 ex:∃ a fd,Fun K x x st a fd/\mg x=some (.ref a)/\Binds K fd ps []
theorem ri {f:Addr}{fd:FuncData}:FnOk P w K mg base (CXE P w) k f fd ps (spF K C n λ_=>.stuck) :=
 ⟨λvs H Q E h=>by obtain⟨_,_,_,_,_,z⟩:=h;exact z.elim,λA outer s H args us vs Q E _ _ _ _ h=>by obtain⟨_,_,_,_,_,z⟩:=h;exact z.elim⟩
theorem jb {i:Nat}(F:Fd K mg x ps st)(hf:mg x=some (.ref (C i))):FnV P w K mg base C 0 i λ_=>.stuck:=by
 obtain⟨a,fd,F,h,b⟩:=F.ex;rw[hf]at h;cases h;exact⟨fd,ps,ri,F.kp,b,λ_ _=>rfl⟩
theorem jc {i:Nat}{fn:KS}(F:Fd K mg x ps st)(hf:mg x=some (.ref (C i)))(ok:OkD P w K mg base C k x st ps fn)(hl:∀ ds,ds.length≠ps.length->fn ds=.stuck):FnV P w K mg base C (k+1) i fn:=by
 obtain⟨a,fd,F,h,b⟩:=F.ex;rw[hf]at h;cases h;exact⟨fd,ps,ok F,F.kp,b,hl⟩
theorem g0 (F:Fd K mg x ps st):Fn1 P w K mg base C 0 x ps (λ_=>.stuck):=by obtain⟨a,fd,F,h,b⟩:=F.ex;exact⟨a,fd,ri,h,F.kp,b⟩
theorem g1 {fn:KS}(F:Fd K mg x ps st)(ok:OkD P w K mg base C k x st ps fn):Fn1 P w K mg base C (k+1) x ps fn:=by obtain⟨a,fd,F,h,b⟩:=F.ex;exact⟨a,fd,ok F,h,F.kp,b⟩
section
variable {h:Heap}{f:Addr}{oc:Value}{od an:Option Addr}{osl:Array (Lm)}{kV doc pm J4 ct:Value}
theorem EL (X:K.In h)(G:h.Ns mainGlobals mg)(hb:∀ (kV doc pm:Value) (an:Option Addr) (J4 ct:Value) (us:List Value),us.length=ps.length->bindArgs (fnOf x x (defArgs st) (defBody st) (defScope st) .none kV doc pm an J4 ct) ⟨us,[]⟩=pure (ps.zip us))
  (a:nsIn K mainGlobals x=some (some (.ref f))) (l:K.lookup f=some ⟨oc,od,.func (fnOf x x (defArgs st) (defBody st) (defScope st) .none kV doc pm an J4 ct),osl⟩) (c:codeIn K J4 x=true) (k:keepIn K (.ref f)=true):Fd K mg x ps st :=
 ⟨f,_,iN l c k,mg_of X G a,(iN l c k).binds hb⟩
end
theorem ln1 (h:us.length=1):∃ a,us=[a]:=match us,h with | [a],_=>⟨a,rfl⟩
theorem ln2 (h:us.length=2):∃ a b,us=[a,b]:=match us,h with | [a,b],_=>⟨a,b,rfl⟩
theorem ln3 (h:us.length=3):∃ a b c,us=[a,b,c]:=match us,h with | [a,b,c],_=>⟨a,b,c,rfl⟩
theorem ln4 (h:us.length=4):∃ a b c d,us=[a,b,c,d]:=match us,h with | [a,b,c,d],_=>⟨a,b,c,d,rfl⟩
theorem ln5 (h:us.length=5):∃ a b c d e,us=[a,b,c,d,e]:=match us,h with | [a,b,c,d,e],_=>⟨a,b,c,d,e,rfl⟩
end
abbrev Ng (K:Frag)(x:Str)(v:Lm):Prop:=nsIn K mainGlobals x=some v
theorem uM {K:Frag}{C:La}{Z:Hp}:∀ ns:List Int,Reps K C Z (ns.map .int) (ns.map V.int)
 | []=>by rw[Hd,Hd,Reps]
 | i::ns=>by rw[F5,F5,Reps];exact⟨_,_,rfl,aM,uM ns⟩
section
variable {σ:Type}{F:Fx}{J:σ->SS->Prop}
end
section
variable {F:Fx}{ey ex:Expr}{ge gy gx:KZ}
end
section
variable {F:Fx}{git:KY}
end
section
variable {F:Fx}{ifs:Lp}{git:KY}{g:Li}{gc:Le}{ge:KZ}
end
section
variable {F:Fx}{p p1 p3:Pos}{g:KZ}
end
end FF
end
noncomputable section
namespace L2
open PySem PySem.Spec PyProof.Rows
variable {H H':Hp}{X:Cx}{a:Addr}{u:Value}{y v:V}{w:World}{Gn:List (Key×V)}{am:Ll}{P:Program}{A:Around}{E:KU}{pos:Pos}{o:Option V}{value e:Expr}{trs:List (TE×TE)}
section
variable {κ:Type}[DecidableEq κ]
def valV (Gn:List (κ×V))(k:κ):Option V:=(Gn.find? λkv=>decide (kv.1=k)).map (·.2)
def putK (Gn:List (κ×V))(k:κ)(v:V):List (κ×V) :=
 if (Gn.any λkv=>decide (kv.1=k))=true then Gn.map (λkv=>if kv.1=k then (kv.1,v) else kv) else Gn++[(k,v)]
def dropK (Gn:List (κ×V))(k:κ):List (κ×V):=Gn.filter λkv=>decide (kv.1≠k)
theorem jd {p:κ×V}{r:List (κ×V)}{k:κ}(e:p.1=k):valV (p::r) k=some p.2:=by simp[valV,GY,e]
theorem je {p:κ×V}{r:List (κ×V)}{k:κ}(e:¬ p.1=k):valV (p::r) k=valV r k:=by simp[valV,GY,e]
theorem rj (k:κ):∀ Gn:List (κ×V),(Gn.any λkv=>decide (kv.1=k))=(valV Gn k).isSome
 | []=>rfl
 | p::r=>by
  rw[Ix];by_cases e:p.1=k
  ·simp only[jd e,GG e,Bool.true_or,Option.isSome_some]
  ·rw[je e,Gh e,Bool.false_or];exact rj k r
theorem gu (Gn:List (κ×V))(k:κ)(v:V):(putK Gn k v).length<=Gn.length+1:=by
 unfold putK
 grind
theorem RelO.isSome_eq {u:Lm}(r:RelO o u):o.isSome=u.isSome:=by
 cases o with
 | none=>cases u with
  | none=>rfl
  | some _=>exact(show False from r).elim
 | some _=>cases u with
  | none=>exact(show False from r).elim
  | some _=>rfl
theorem KV.val {Gn:List (κ×V)}{vs:List (κ×Value)}(r:KV Gn vs)(k:κ):RelO (valV Gn k) (valueAt vs k):=by
 unfold KV at r
 induction r with
 | nil=>exact Gw
 | @cons p q ps qs h t ih =>
  obtain⟨h1,h2⟩:=h;by_cases e:p.1=k
  ·have e':q.1=k:=h1.symm.trans e;have b:valueAt (q::qs) k=some q.2:=by simp[valueAt,GY,e']
   rw[jd e,b];exact h2
  ·have e':¬ q.1=k:=λz=>e (h1.trans z)
   have b:valueAt (q::qs) k=valueAt qs k:=by simp[valueAt,GY,e']
   rw[je e,b];exact ih
theorem KV.any {Gn:List (κ×V)}{vs:List (κ×Value)}(r:KV Gn vs)(k:κ):(Gn.any λkv=>decide (kv.1=k))=vs.any λkv=>decide (kv.1=k):=by
 unfold KV at r
 induction r with
 | nil=>rfl
 | cons h t ih=>rw[Ix,Ix,ih,h.1]
theorem KV.repl {Gn:List (κ×V)}{vs:List (κ×Value)}(r:KV Gn vs)(k:κ)(ry:RelV y u) :
  KV (Gn.map λkv=>if kv.1=k then (kv.1,y) else kv) (vs.map λkv=>if kv.1=k then (kv.1,u) else kv):=by
 unfold KV at r ⊢
 induction r with
 | nil=>exact .nil
 | @cons p q ps qs h t ih =>
  rw[F5,F5];refine .cons ?_ ih
  grind
theorem KV.put {Gn:List (κ×V)}{vs:List (κ×Value)}(r:KV Gn vs)(k:κ)(ry:RelV y u):KV (putK Gn k y) (stored vs k u):=by
 unfold putK stored;rw[r.any k];by_cases e:(vs.any λkv=>decide (kv.1=k))=true
 ·rw[if_pos e,if_pos e];exact r.repl k ry
 ·rw[if_neg e,if_neg e];exact Paired.snoc r ⟨rfl,ry⟩
theorem KV.drop {Gn:List (κ×V)}{vs:List (κ×Value)}(r:KV Gn vs)(k:κ):KV (dropK Gn k) (without vs k):=by
 unfold KV at r ⊢;unfold dropK without
 induction r with
 | nil=>exact .nil
 | @cons p q ps qs h t ih =>
  obtain⟨h1,h2⟩:=h;rw[G7,G7];by_cases e:p.1=k
  ·have a:¬ decide (p.1≠k)=true:=by simp[e]
   have b:¬ decide (q.1≠k)=true:=by simp[h1.symm.trans e]
   rw[if_neg a,if_neg b];exact ih
  ·have e':¬ q.1=k:=λz=>e (h1.trans z)
   have a:decide (p.1≠k)=true:=by simp[e]
   have b:decide (q.1≠k)=true:=by simp[e']
   rw[if_pos a,if_pos b];exact .cons ⟨h1,h2⟩ ih
theorem KV.length {Gn:List (κ×V)}{vs:List (κ×Value)}(r:KV Gn vs):Gn.length=vs.length:=IZ r
theorem rm (Gn:List (κ×V))(k:κ):(dropK Gn k).length<=Gn.length:=Hg _ _
end
theorem jf {k:Key}(r:RelV (kV k) u):(mixKind P w).is k u=true:=by
 cases k with
 | inl i=>obtain⟨t,e⟩:=(show ∃ t,u=Value.int i t from r);subst e;exact qD P w i t
 | inr x=>obtain⟨t,e⟩:=(show ∃ t,u=Value.str x t from r);subst e;exact qF P w x t
theorem oK {P:Program}{w:World}:∀ {ks:List Key} {us:List Value},Vals (ks.map kV) us->ItemsAre (mixKind P w) ks us
 | [],_,r=>by rw[Hd]at r;cases r;exact .nil
 | k::ks,_,r=>by
  rw[F5]at r;cases r with
  | cons h t=>exact .cons (jf h) (oK t)
abbrev KT (H:Hp):List (List Key×V)->List (List Key×Addr×Value)->Prop:=Paired λp q=>p.1=q.1/\H q.2.1=some (.tup (p.1.map kV))/\RelV p.2 q.2.2
theorem KT.val {Gn:List (List Key×V)}{xs:List (List Key×Addr×Value)}(r:KT H Gn xs)(k:List Key):RelO (valV Gn k) ((atKey xs k).map (·.2)):=by
 induction r with
 | nil=>exact Gw
 | @cons p q ps qs h t ih =>
  obtain⟨h1,_,h2⟩:=h;by_cases e:p.1=k
  ·have e':q.1=k:=h1.symm.trans e;have b:atKey (q::qs) k=some q.2:=by simp[atKey,GY,e']
   rw[jd e,b];exact h2
  ·have e':¬ q.1=k:=λz=>e (h1.trans z)
   have b:atKey (q::qs) k=atKey qs k:=by simp[atKey,GY,e']
   rw[je e,b];exact ih
theorem KT.repl {Gn:List (List Key×V)}{xs:List (List Key×Addr×Value)}(r:KT H Gn xs)(k:List Key)(ry:RelV y u) :
  KT H (Gn.map λkv=>if kv.1=k then (kv.1,y) else kv) (xs.map (putAt k u)):=by
 induction r with
 | nil=>exact .nil
 | @cons p q ps qs h t ih =>
  rw[F5,F5];refine .cons ?_ ih;obtain⟨h1,h2,h3⟩:=h;unfold putAt;by_cases e:p.1=k
  ·rw[if_pos e,if_pos (h1.symm.trans e)];exact⟨h1,h2,ry⟩
  ·rw[if_neg e,if_neg (λz=>e (h1.trans z))];exact⟨h1,h2,h3⟩
theorem KT.put {Gn:List (List Key×V)}{xs:List (List Key×Addr×Value)}(r:KT H Gn xs)(k:List Key){b:Addr}(hb:H b=some (.tup (k.map kV)))(ry:RelV y u) :
  KT H (putK Gn k y) (storedH xs k b u):=by
 have e:(Gn.any λkv=>decide (kv.1=k))=(atKey xs k).isSome:=by
  rw[rj,(r.val k).isSome_eq,Jh]
 unfold putK storedH;rw[e];by_cases q:(atKey xs k).isSome=true
 ·rw[if_pos q,if_pos q];exact r.repl k ry
 ·rw[if_neg q,if_neg q];exact Paired.snoc r ⟨rfl,hb,ry⟩
theorem KT.keeps {Gn:List (List Key×V)}{xs:List (List Key×Addr×Value)}(r:KT H Gn xs)(ht:∀ b ys,H b=some (.tup ys)->H' b=some (.tup ys)):KT H' Gn xs :=
 Paired.mapP r λ_ _ z=>⟨z.1,ht _ _ z.2.1,z.2.2⟩
section
variable {h:Heap}
theorem CB {u:HO}(ok:HOk P w H h)(e:Rd H a u):ObjOk P w H h a u:=e.ok ok
theorem kK (ok:HOk P w H h)(e:Rd H a (.dK Gn)):Gn.length<=sizeLine/\(a==sysModules)=false/\∃ vs,KV Gn vs/\h.DictOf (mixKind P w) a vs :=
 show ObjOk P w H h a (.dK Gn) from CB ok e
theorem uN (ok:HOk P w H h)(e:H a=some (.dK Gn)):Gn.length<=sizeLine/\(a==sysModules)=false/\∃ vs,KV Gn vs/\h.DictOf (mixKind P w) a vs:=kK ok (.inl e)
theorem lU {ks:List Key}(ok:HOk P w H h)(e:H a=some (.tup (ks.map kV))):(tupleKind (mixKind P w)).is h ks a:=by
 obtain⟨_,its,r,o,h1,h2,_,n,h3⟩:=(show ObjOk P w H h a (.tup (ks.map kV)) from ok a _ e);exact⟨o,its.toArray,n,h1,h2,h3,by simpa using oK r⟩
theorem oM {Gn:List (List Key×V)}(ok:HOk P w H h)(e:Rd H a (.dT Gn)):Gn.length<=sizeLine/\(a==sysModules)=false /\
  ∃ xs,KT H Gn xs/\h.DictOfH (tupleKind (mixKind P w)) a xs:=by
 obtain⟨z,y,xs,r,o,es,ep,h1,h2,h3,h4,h5⟩:=(show ObjOk P w H h a (.dT Gn) from CB ok e);refine⟨z,y,xs,r,o,es,ep,h1,h2,h3,h4,λx hx=>?_,h5⟩;have all:∀ {l:List (List Key×V)} {m:List (List Key×Addr×Value)},KT H l m->∀ x∈m,(tupleKind (mixKind P w)).is h x.1 x.2.1:=by
  intro l m q
  induction q with
  | nil=>intro x hx;exact nomatch hx
  | @cons p q ps qs hq t ih =>
   intro x hx;rcases Gi.mp hx with e | hx
   ·subst e;exact lU ok (by grind)
   ·exact ih x hx
 exact all r x hx
theorem EM {Gn:List (List Key×V)}(ok:HOk P w H h)(e:H a=some (.dT Gn)):Gn.length<=sizeLine/\(a==sysModules)=false /\
  ∃ xs,KT H Gn xs/\h.DictOfH (tupleKind (mixKind P w)) a xs:=oM ok (.inl e)
end
def DGet (H:Hp)(a:Addr)(y:V)(r:Option V):Prop :=
 (∃ Gn k,Rd H a (.dK Gn)/\y=kV k/\r=valV Gn k)\/∃ Gn k b,Rd H a (.dT Gn)/\y=.ref b/\H b=some (.tup (k.map kV))/\r=valV Gn k
def DPut (H:Hp)(a:Addr)(y v:V)(H':Hp):Prop :=
 (∃ Gn k,H a=some (.dK Gn)/\y=kV k/\Gn.length < sizeLine/\H'=upd H a (.dK (putK Gn k v))) \/
 ∃ Gn k b,H a=some (.dT Gn)/\y=.ref b/\H b=some (.tup (k.map kV))/\Gn.length < sizeLine/\H'=upd H a (.dT (putK Gn k v))
theorem DGet.k {k:Key}(e:H a=some (.dK Gn)):DGet H a (kV k) (valV Gn k):=.inl ⟨Gn,k,.inl e,rfl,rfl⟩
theorem DPut.k {k:Key}(e:H a=some (.dK Gn))(hl:Gn.length < sizeLine):DPut H a (kV k) v (upd H a (.dK (putK Gn k v))):=.inl ⟨Gn,k,e,rfl,hl,rfl⟩
section
variable {σ:St}{s:Shared}{r:Value}
theorem Inv.big (I:Inv X am σ H s):sysModules < s.heap.objs.size:=by
 have h:=(I.mod.glob.keeps I.bk).lt;exact Nat.lt_trans (by decide) h
theorem wj {Q:KU}(hu:A.units+1 < cLine)(I:Inv X am σ H s)(g:DGet H a y (some v))(ry:RelV y u)(h:∀ w' s',Inv X am σ H s'->RelV v w'->Q w' s') :
  wpAny (model X.prog X.w) A (getItem (.ref a) u) Q E s:=by
 rcases g with ⟨Gn,k,e,ey,l⟩ | ⟨Gn,k,b,e,ey,eb,l⟩
 ·subst ey;obtain⟨z,hd,vs,rel,dd⟩:=kK I.hok e;obtain⟨w',hw,rw'⟩:=RelO.some_of (by rw[l];exact rel.val k);exact wpAny_getItem_of (jf ry) dd.mapOf hw (h w' _ (I.tok _) rw')
 ·subst ey;cases (show u=Value.ref b from ry);obtain⟨z,hd,xs,rel,dd⟩:=oM I.hok e;obtain⟨w',hw,rw'⟩:=RelO.some_of (by rw[l];exact rel.val k);obtain⟨p,hp,hp2⟩:=Option.map_eq_some_iff.mp hw;refine wpAny_getItem_heap (Ic hu) (lU I.hok eb) dd hp ?_;rw[hp2];exact h w' _ (I.tok _) rw'
theorem d_in {Q:KU}(hu:A.units+1 < cLine)(I:Inv X am σ H s)(g:DGet H a y o)(ry:RelV y u)(h:∀ s',Inv X am σ H s'->Q (.bool o.isSome) s') :
  wpAny (model X.prog X.w) A (compareOp .In u (.ref a)) Q E s:=by
 rcases g with ⟨Gn,k,e,ey,l⟩ | ⟨Gn,k,b,e,ey,eb,l⟩
 ·subst ey;obtain⟨z,hd,vs,rel,dd⟩:=kK I.hok e;refine wpAny_in_of (jf ry) hd dd.mapOf ?_;rw[<- (rel.val k).isSome_eq,<- l];exact h _ (I.tok _)
 ·subst ey;cases (show u=Value.ref b from ry);obtain⟨z,hd,xs,rel,dd⟩:=oM I.hok e;refine wpAny_in_heap (Ic hu) (lU I.hok eb) hd dd ?_;have q:=(rel.val k).isSome_eq;rw[Jh]at q;rw[<- q,<- l];exact h _ (I.tok _)
theorem Bb {Q:KU}(hu:A.units+1 < cLine)(I:Inv X am σ H s)(g:DGet H a y o)(ry:RelV y u)(h:∀ s',Inv X am σ H s'->Q (.bool (!o.isSome)) s') :
  wpAny (model X.prog X.w) A (compareOp .NotIn u (.ref a)) Q E s:=by
 rcases g with ⟨Gn,k,e,ey,l⟩ | ⟨Gn,k,b,e,ey,eb,l⟩
 ·subst ey;obtain⟨z,hd,vs,rel,dd⟩:=kK I.hok e;refine wpAny_notIn_of (jf ry) hd dd.mapOf ?_;rw[<- (rel.val k).isSome_eq,<- l];exact h _ (I.tok _)
 ·subst ey;cases (show u=Value.ref b from ry);obtain⟨z,hd,xs,rel,dd⟩:=oM I.hok e;refine wpAny_notIn_heap (Ic hu) (lU I.hok eb) hd dd ?_;have q:=(rel.val k).isSome_eq;rw[Jh]at q;rw[<- q,<- l];exact h _ (I.tok _)
theorem g9 {h':Heap}{t':Nat}{ob:HO}(I:Inv X am σ H s)(mu:Mut (H a))(hs:Heap.SameBut a s.heap h')(he:∃ q,h'.get? a=some q)(new:ObjOk X.prog X.w (upd H a ob) h' a ob) :
  Inv X am σ (upd H a ob) { s with heap:=h',toks:=t' } :=
 I.write mu (.inl rfl) (λb q hb z=>(hs.2 b hb).trans z) he new
theorem pU {h':Heap}{vs:List (Key×Value)}(z:Gn.length<=sizeLine)(hd:(a==sysModules)=false)(rel:KV Gn vs)(dd:h'.DictOf (mixKind P w) a vs) :
  ObjOk P w H' h' a (.dK Gn):=⟨z,hd,vs,rel,dd⟩
theorem wm {Q:Unit->Lg}(hu:A.units+1 < cLine)(I:Inv X am σ H s)(g:DPut H a y v H')(ry:RelV y u)(rv:RelV v r)(h:∀ s',Inv X am σ H' s'->Q () s') :
  wpAny (model X.prog X.w) A (setItem (.ref a) u r) Q E s:=by
 rcases g with ⟨Gn,k,e,ey,l,eH⟩ | ⟨Gn,k,b,e,ey,eb,l,eH⟩
 ·subst ey eH;obtain⟨z,hd,vs,rel,dd⟩:=uN I.hok e;have hz:vs.length<=sizeLine:=by rw[<- rel.length];exact z
  have hl:(putK Gn k v).length<=sizeLine:=by have:=gu Gn k v;omega
  refine wpAny_setItem_pairs (jf ry) dd λh' dd' hs=>h _ ?_
  have he:∃ q,h'.get? a=some q:=let ⟨q,_,_,hq,_⟩:=dd';⟨q,hq⟩;exact g9 I (by rw[e];exact Gw) hs he (pU hl hd (rel.put k rv) dd')
 ·subst ey eH;cases (show u=Value.ref b from ry);obtain⟨z,hd,xs,rel,dd⟩:=EM I.hok e;have hz:xs.length<=sizeLine:=by rw[<- IZ rel];exact z
  have hl:(putK Gn k v).length<=sizeLine:=by have:=gu Gn k v;omega
  refine wpAny_setItem_heap (Ic hu) (lU I.hok eb) dd λh' dd' hs=>h _ ?_
  obtain⟨q,es,ep,hq,h2,h3,h4,_,h5⟩:=dd';refine g9 I (by rw[e];exact Gw) hs ⟨q,hq⟩ ⟨hl,hd,_,(rel.put k eb rv).keeps λc ys ec=>?_,q,es,ep,hq,h2,h3,h4,h5⟩;rw[ae (El ec e (λz=>nomatch z))];exact ec
end
section
variable {σ:St}{s:Shared}{k:Key}
theorem Ek {Q:Unit->Lg}(I:Inv X am σ H s)(e:H a=some (.dK Gn))(ry:RelV (kV k) u)(l:(valV Gn k).isSome=true)(h:∀ s',Inv X am σ (upd H a (.dK (dropK Gn k))) s'->Q () s') :
  wpAny (model X.prog X.w) A (delItem (.ref a) u) Q E s:=by
 obtain⟨z,hd,vs,rel,dd⟩:=uN I.hok e;refine wpAny_delItem_slot dd.typeIs (by decide) Jn
  (Kh Jn dd.typeIs PySem.F.entry_dict_delitem (PySem.F.args_dict_delitem_2 _ _) (meets_dict_delitem_pairs (mixKind X.prog X.w) a (jf ry)) ⟨vs,dd,by rw[<- rel.length];exact z,by rw[<- (rel.val k).isSome_eq];exact l,λh' dd' hs=>h _ ?_⟩)
 have he:∃ q,h'.get? a=some q:=let ⟨q,_,_,hq,_⟩:=dd';⟨q,hq⟩;exact g9 I (by rw[e];exact Gw) hs he (pU (GF (rm Gn k) z) hd (rel.drop k) dd')
theorem EN {more:List Value}{Q:KU}(I:Inv X am σ H s)(e:H a=some (.dK Gn))(ry:RelV (kV k) u)(l:valV Gn k=some v)(hm:more=[]\/∃ x,more=[x])
  (h:∀ w' s',Inv X am σ (upd H a (.dK (dropK Gn k))) s'->RelV v w'->Q w' s'):wpAny (model X.prog X.w) A (call (.builtin "dict.pop") (.ref a::u::more)) Q E s:=by
 obtain⟨z,hd,vs,rel,dd⟩:=uN I.hok e;obtain⟨w',hw,rw'⟩:=RelO.some_of (by rw[<- l];exact rel.val k);have hp:(keyPart u).isSome=true:=by
  cases k with
  | inl i=>obtain⟨t,q⟩:=(show ∃ t,u=Value.int i t from ry);subst q;rfl
  | inr x=>obtain⟨t,q⟩:=(show ∃ t,u=Value.str x t from ry);subst q;rfl
 have ha:argsOk "dict.pop" ⟨.ref a::u::more,[]⟩:=by
  rcases hm with q | ⟨x,q⟩
  ·subst q;exact PySem.F.args_dict_pop_2 _ _
  ·subst q;exact PySem.F.args_dict_pop_3 _ _ _
 refine Kh JY dd.typeIs PySem.F.entry_dict_pop ha (meets_dict_pop_there (mixKind X.prog X.w) a (jf ry) more hm hp)
  ⟨vs,w',dd,by rw[<- rel.length];exact z,hw,λh' dd' hs=>h w' _ ?_ rw'⟩
 have he:∃ q,h'.get? a=some q:=let ⟨q,_,_,hq,_⟩:=dd';⟨q,hq⟩;exact g9 I (by rw[e];exact Gw) hs he (pU (GF (rm Gn k) z) hd (rel.drop k) dd')
end
def NoSl (i:Expr):Prop:=∀ ov iv,subscripted i false ov iv=operate [ov,iv] (getItem ov iv)
theorem Bc {prog:Program}{s:Shared}{env:Env}{slice:Expr}{T id:String}{Q:KU}
  (hl:typeLookup (.type T) "__getitem__"=pure (some (.builtin id))) (hs:NoSl slice)
  (h:wpAny (model prog w) A (eval value env) (λo s₁=>wpAny (model prog w) A (eval slice env) (λi s₂=>s₂.TypeIs o T/\wpAny (model prog w) A (getItem o i) Q E s₂) E s₁) E s) :
  wpAny (model prog w) A (eval (.Subscript value slice pos) env) Q E s:=by
 refine Jk (GN h (λo s₁ h₁=>GN h₁ (λi s₂ h₂=>?_) λ_ _ x=>x) λ_ _ x=>x);obtain⟨hT,h₂⟩:=h₂;unfold subscriptTail;refine F3 ?_;rw[getitemInPython_of_ne hT.not_modules];refine F3 (IK hT hl ?_);have fin:wpAny (model prog w) A (subscripted slice false o i) (λr s₃=>wpAny (model prog w) A (letTemporaryGo value o r >>= λ_=>pure r) Q E s₃) E s₂:=by
  rw[hs o i];exact wpAny_operating (GN h₂ (λr s₃ h₃=>F3 (wpAny_letTemporaryGo (F6 h₃))) λ_ _ x=>x)
 first
  | exact F6 (F3 fin)
  | exact F3 (F6 (F3 fin))
  | exact F3 fin
theorem rn {σ:St}{s:Shared}(I:Inv X am σ H s)(g:DGet H a y o):s.TypeIs (.ref a) "dict" := by
 rcases g with ⟨Gn,k,e,_,_⟩ | ⟨Gn,k,b,e,_,_,_⟩
 ·obtain⟨_,_,vs,_,dd⟩:=kK I.hok e;exact dd.typeIs
 ·obtain⟨_,_,xs,_,dd⟩:=oM I.hok e;exact dd.typeIs
def tDGet (td ty:TE):TE:=λσ H Q=>td σ H λx H1=>ty σ H1 λy H2=>∃ a v,x=.ref a/\DGet H2 a y (some v)/\Q v H2
def tDIn (ty td:TE):TE:=λσ H Q=>ty σ H λy H1=>td σ H1 λx H2=>∃ a o,x=.ref a/\DGet H2 a y o/\Q (.bl o.isSome) H2
def tDNotIn (ty td:TE):TE:=λσ H Q=>ty σ H λy H1=>td σ H1 λx H2=>∃ a o,x=.ref a/\DGet H2 a y o/\Q (.bl (!o.isSome)) H2
def sDPut (td ty tv:TE):TS:=λD σ H=>tv σ H λv H1=>td σ H1 λx H2=>ty σ H2 λy H3=>∃ a H4,x=.ref a/\DPut H3 a y v H4/\D.nx σ H4
section
variable {o i:Expr}{Kn tpos:Pos}{td ty tv:TE}
theorem uO (hu:X.A.units+1 < cLine)(ho:PE X o td)(hi:PE X i ty)(hs:NoSl i):PE X (.Subscript o i pos) (tDGet td ty):=by
 intro am s σ H Q I h;refine Bc PySem.F.slot_dict_getitem.lookup hs (thn (ho am s σ H _ I h) λu s1 ⟨x,H1,I1,rx,q1⟩=>thn (hi am s1 σ H1 _ I1 q1) λiv s2 ⟨y,H2,I2,ry,a,v,ex,g,q2⟩=>?_);subst ex;obtain rfl:u=Value.ref a:=rx;exact⟨rn I2 g,wj hu I2 g ry λw' s3 I3 rw'=>⟨v,H2,I3,rw',q2⟩⟩
theorem DM (hu:X.A.units+1 < cLine)(hi:PE X i ty)(ho:PE X o td):PC X .In i o (tDIn ty td):=by
 intro am s σ H Q I h;refine thn (hi am s σ H _ I h) λiv s1 ⟨y,H1,I1,ry,q1⟩=>thn (ho am s1 σ H1 _ I1 q1) λu s2 ⟨x,H2,I2,rx,a,ov,ex,g,q2⟩=>?_
 subst ex;obtain rfl:u=Value.ref a:=rx;exact d_in hu I2 g ry λs3 I3=>⟨.bl ov.isSome,H2,I3,rfl,q2⟩
theorem wq (hu:X.A.units+1 < cLine)(hi:PE X i ty)(ho:PE X o td):PC X .NotIn i o (tDNotIn ty td):=by
 intro am s σ H Q I h;refine thn (hi am s σ H _ I h) λiv s1 ⟨y,H1,I1,ry,q1⟩=>thn (ho am s1 σ H1 _ I1 q1) λu s2 ⟨x,H2,I2,rx,a,ov,ex,g,q2⟩=>?_
 subst ex;obtain rfl:u=Value.ref a:=rx;exact Bb hu I2 g ry λs3 I3=>⟨.bl (!ov.isSome),H2,I3,rfl,q2⟩
theorem Bd (hu:X.A.units+1 < cLine)(ho:PE X o td)(hi:PE X i ty)(hv:PE X value tv)(hs:swapsWith value (some (.Subscript o i Kn)) pos.line X.env=pure false) :
  PS X (.Assign [.Subscript o i Kn] value pos) (sDPut td ty tv):=by
 intro am s σ H D I h;refine wpAny_Assign_Subscript (thn (hv am s σ H _ I h) λr s1 ⟨v,H1,I1,rv,q1⟩=>thn (ho am s1 σ H1 _ I1 q1) λu s2 ⟨x,H2,I2,rx,q2⟩=>thn (hi am s2 σ H2 _ I2 q2) λiv s3 ⟨y,H3,I3,ry,a,H4,ex,g,q3⟩=>?_) hs;subst ex;obtain rfl:u=Value.ref a:=rx;exact wm hu I3 g ry rv λs4 I4=>⟨σ,H4,I4,q3⟩
end
theorem rq (h:Heap)(hb:sysModules < h.objs.size):ObjOk P w H (h.push { cls:=.type "dict",data:=.dict #[] }) h.objs.size (.dK []) :=
 ⟨GQ _,Hc.mpr (GM (Gf hb)),[],.nil,Heap.DictOf.new h⟩
def tPairs:List (TE×TE)->St->Hp->(List (V×V)->Lh)->Prop
 | [],_,H,Q=>Q [] H
 | (tk,tv)::r,σ,H,Q=>tk σ H λx H1=>tv σ H1 λy H2=>tPairs r σ H2 λps H3=>Q ((x,y)::ps) H3
abbrev VV:List (V×V)->List (Value×Value)->Prop:=Paired λp q=>RelV p.1 q.1/\RelV p.2 q.2
def PPs (X:Cx)(pos:Pos)(keys:List (Option Expr))(values:Lp)(trs:List (TE×TE)):Prop :=
 ∀ (am:Ll) (s:Shared) (σ:St) (H:Hp) (Q:List (V×V)->Lh),Inv X am σ H s->tPairs trs σ H Q ->
  wpAny (model X.prog X.w) X.A (evalPairs (pairTrees keys values X.env pos)) (λvs s'=>∃ ps H',Inv X am σ H' s'/\VV ps vs/\Q ps H') X.xe s
theorem Be :PPs X pos [] [] []:=λam s σ H Q I h=>pairTrees_nil_walk ⟨[],H,I,.nil,h⟩
theorem yt {k v:Expr}{ks:List (Option Expr)}{vs:Lp}{tk tv:TE}(hk:PE X k tk)(hv:PE X v tv)(hr:PPs X pos ks vs trs) :
  PPs X pos (some k::ks) (v::vs) ((tk,tv)::trs):=λam s σ H Q I h =>
 pairTrees_cons_walk (thn (hk am s σ H _ I h) λu s1 ⟨x,H1,I1,rx,q1⟩=>thn (hv am s1 σ H1 _ I1 q1) λw2 s2 ⟨y,H2,I2,ry,q2⟩ =>
  thn (hr am s2 σ H2 _ I2 q2) λws s3 ⟨ps,H3,I3,rel,q3⟩=>⟨(x,y)::ps,H3,I3,.cons ⟨rx,ry⟩ rel,q3⟩)
def mergeK (Gn more:List (Key×V)):List (Key×V):=more.foldl (λacc kv=>putK acc kv.1 kv.2) Gn
theorem KV.merge:∀ {more:List (Key×V)} {rs:List (Key×Value)} {Gn:List (Key×V)} {vs:List (Key×Value)},KV more rs->KV Gn vs->KV (mergeK Gn more) (merged vs rs):=by
 intro more rs Gn vs r;unfold KV at r
 induction r generalizing Gn vs with
 | nil=>intro q;exact q
 | @cons p q ps qs h t ih =>
  intro r0;have e:KV (putK Gn p.1 p.2) (stored vs q.1 q.2):=by
   have:=r0.put p.1 h.2;rw[<- h.1];exact this
  exact ih e
theorem dS:∀ (more Gn:List (Key×V)),(mergeK Gn more).length<=Gn.length+more.length
 | [],Gn=>by show Gn.length<=Gn.length+0;omega
 | p::r,Gn=>by
  have h1:=dS r (putK Gn p.1 p.2);have h2:=gu Gn p.1 p.2;show (mergeK (putK Gn p.1 p.2) r).length<=_;rw[Gb];omega
theorem lV {P:Program}{w:World}:∀ {Gn:List (Key×V)} {ws:List (Value×Value)},VV (Gn.map λkv=>(kV kv.1,kv.2)) ws->∃ rs,Carries (mixKind P w) ws rs/\KV Gn rs
 | [],_,r=>by rw[Hd]at r;cases r;exact⟨[],Gw,.nil⟩
 | p::Gn,_,r=>by
  rw[F5]at r;cases r with
  | @cons a b as bs h t =>
   obtain⟨rs,c,q⟩:=lV (P:=P) (w:=w) t;obtain⟨b1,b2⟩:=b;exact⟨(p.1,b2)::rs,⟨jf h.1,rfl,c⟩,.cons ⟨rfl,h.2⟩ q⟩
def tDisp (trs:List (TE×TE)):TE:=λσ H Q=>∀ p,H p=none->tPairs trs σ (upd H p (.dK [])) λps H2=>H2 p=some (.dK [])/\∃ Gn:List (Key×V),ps=Gn.map (λkv=>(kV kv.1,kv.2))/\Gn.length<=15/\Q (.ref p) (upd H2 p (.dK (mergeK [] Gn)))
theorem Bf {keys:List (Option Expr)}{values:Lp}(h:PPs X pos keys values trs)(Ku:keys.all (·.isSome)=true)(hl:keys.length=values.length)(h0:keys≠[])
  (h15:keys.length<=15):PE X (.Dict keys values pos) (tDisp trs):=by
 intro am s σ H Q I q;have hn:=I.hok.fresh (F7 s.heap.objs.size);have I1:=I.laid (a:=s.heap.objs.size) (o:=.dK []) (h':=s.heap.push { cls:=.type "dict",data:=.dict #[] }) (t':=s.toks) (λ_ _ q=>F4 _ q) (F7 _) (rq s.heap I.big);refine wpAny_Dict_walk (knd:=mixKind X.prog X.w) Ku hl h0 h15 (thn (h am _ σ _ _ I1 (q _ hn)) λws s2 ⟨ps,H2,I2,rel,e,Gn,ep,lk,q2⟩=>?_);subst ep;obtain⟨rs,c,rk⟩:=lV (P:=X.prog) (w:=X.w) rel;obtain⟨z,hd,vs0,r0,dd⟩:=uN I2.hok e;cases r0;refine⟨rs,c,dd,λh' dd' hs=>⟨.ref s.heap.objs.size,_,?_,rfl,q2⟩⟩;have hz:(mergeK [] Gn).length<=sizeLine:=by
  have h1:=dS Gn [];rw[Hr]at h1;rw[Go];omega
 have he:∃ q,h'.get? s.heap.objs.size=some q:=let ⟨q,_,_,hq,_⟩:=dd';⟨q,hq⟩;exact g9 I2 (by rw[e];exact Gw) hs he (pU hz hd (rk.merge .nil) dd')
structure M1 (X:Cx)(o:Expr)(m:Str)(IR:Pos)(e:Expr)(IY:Pos):Prop where
 base:attributeBase o m X.env (eval o X.env)=eval o X.env
 few:((backTo IY (starEach [e] X.env)).all (λx=>!x.1)&&(backToKw IY (keywordEach [] X.env)).all (λx=>x.1.isSome)
  && decide (([e]:Lp).length+([]:List Keyword).length+(if ([]:List Keyword).isEmpty then 0 else 1) < 30))=true
 line:(IR.endLine==IY.line)=true
 trees:backTo IY (starEach [e] X.env)=[(false,eval e X.env)]
def IsD (H:Hp)(a:Addr):Prop:=(∃ Gn,Rd H a (.dK Gn))\/∃ Gn,Rd H a (.dT Gn)
theorem DN {σ:St}{s:Shared}(I:Inv X am σ H s)(d:IsD H a) :
  s.TypeIs (.ref a) "dict" /\ (∀ b,Value.ref a=.ref b->∃ ob,s.heap.get? b=some ob/\ob.dict=none)/\(a==sysModules)=false:=by
 rcases d with ⟨Gn,e⟩ | ⟨Gn,e⟩
 ·obtain⟨_,hd,vs,_,dd⟩:=kK I.hok e;refine⟨dd.typeIs,λb q=>?_,hd⟩;cases q;obtain⟨ob,_,_,h1,h2,_⟩:=dd;exact⟨ob,h1,h2.2.1⟩
 ·obtain⟨_,hd,xs,_,dd⟩:=oM I.hok e;refine⟨dd.typeIs,λb q=>?_,hd⟩;cases q;obtain⟨ob,_,_,h1,h2,_⟩:=dd;exact⟨ob,h1,h2.2.1⟩
section
variable {σ:St}{s:Shared}{d:V}{r:Value}
end
def tDPop1 (td ty:TE):TE:=λσ H Q=>td σ H λx H1=>∃ a,x=.ref a/\IsD H1 a/\ty σ H1 λy H2=>∃ Gn k v,H2 a=some (.dK Gn)/\y=kV k/\valV Gn k=some v/\Q v (upd H2 a (.dK (dropK Gn k)))
section
variable {o f:Expr}{IR IY:Pos}{td ty tx:TE}
theorem yu (ho:PE X o td)(he:PE X e ty)(m:M1 X o "pop" IR e IY):PE X (.Call (.Attribute o "pop" IR) [e] [] IY) (tDPop1 td ty):=by
 intro am s σ H Q I h;refine wpAny_Call_method m.base m.few m.line JA JY PySem.F.type_dict_pop (thn (ho am s σ H _ I h) λu s1 ⟨x,H1,I1,rx,a,ex,d,q1⟩=>?_);subst ex;obtain rfl:u=Value.ref a:=rx;obtain⟨t1,t2,_⟩:=DN I1 d;refine⟨t1,t2,?_⟩;rw[m.trees];refine Iu rfl (IE (HZ (thn (he am s1 σ H1 _ I1 q1) λiv s2 ⟨y,H2,I2,ry,Gn,k,v,ea,ey,l,q2⟩=>Io ?_)));subst ey;exact EN I2 ea ry l (.inl rfl) λw' s3 I3 rw'=>⟨v,_,I3,rw',q2⟩
end
section
variable {σ:St}{s:Shared}
end
section
variable {σ:St}{s:Shared}
end
end L2
end
noncomputable section
namespace FF
open PySem PySem.Spec PyProof.Rows L2
variable {F:Fx}{X:Cx}{pos p p0:Pos}{e:Expr}{Z:Hp}{k:Nat}{g:KZ}{x:Str}
def keyOf:D->Option Key
 | .int i=>some (.inl i)
 | .str s=>some (.inr s)
 | _=>none
def dicGet {κ:Type}[DecidableEq κ](m:List (κ×D))(k:κ):Option D:=(m.find? λp=>decide (p.1=k)).map (·.2)
def dicPut {κ:Type}[DecidableEq κ](m:List (κ×D))(k:κ)(d:D):List (κ×D):=if (m.any λp=>decide (p.1=k))=true then m.map (λp=>if p.1=k then (p.1,d) else p) else m++[(k,d)]
def oDIx (m:List (Key×D))(k:D):R D:=match keyOf k with
 | some k=>match dicGet m k with
  | some d=>.ok d
  | none=>.stuck
 | none=>.stuck
def oDSt (m:List (Key×D))(k d:D):R (List (Key×D)):=match keyOf k with
 | some k=>if m.length < 1000000 then .ok (dicPut m k d) else .stuck
 | none=>.stuck
section
variable {κ:Type}{m:List (κ×D)}{Gn:List (κ×V)}{k:κ}{d:D}{v:V}
theorem Pairs.cons (r:Rep F.K F.C Z d v)(h:Pairs F Z m Gn):Pairs F Z ((k,d)::m) ((k,v)::Gn) :=
 ⟨by rw[F5,F5,h.1],by rw[F5,F5,Reps];exact⟨_,_,rfl,r,h.2⟩⟩
theorem Pairs.nil:Pairs F Z ([]:List (κ×D)) []:=⟨rfl,by rw[Hd,Reps];rfl⟩
theorem Pairs.inv (h:Pairs F Z ((k,d)::m) Gn):∃ v r,Gn=(k,v)::r/\Rep F.K F.C Z d v/\Pairs F Z m r:=by
 cases Gn with
 | nil=>have:=h.1;cases this
 | cons p r =>
  obtain⟨k',v⟩:=p;obtain⟨h1,h2⟩:=h;rw[F5,F5]at h1;injection h1 with h1 h3
  rw[F5,F5,Reps]at h2;obtain⟨v',r',e,q1,q2⟩:=h2;injection e with e1 e2
  subst e1 e2;cases (show k'=k from h1);exact⟨v,r,rfl,q1,h3,q2⟩
theorem Pairs.inv0 (h:Pairs F Z ([]:List (κ×D)) Gn):Gn=[]:=by
 cases Gn with
 | nil=>rfl
 | cons p r=>have:=h.1;cases this
theorem Pairs.mono {Z':Hp}(h:Pairs F Z m Gn)(s:Same Z Z'):Pairs F Z' m Gn:=⟨h.1,h.2.mono s⟩
theorem Pairs.length (h:Pairs F Z m Gn):Gn.length=m.length:=by have:=GA List.length h.1;simpa using this
theorem Pairs.append {m':List (κ×D)}{r:List (κ×V)}:∀ {m:List (κ×D)} {Gn:List (κ×V)},Pairs F Z m Gn->Pairs F Z m' r->Pairs F Z (m++m') (Gn++r)
 | [],Gn,h,h'=>by rw[h.inv0];exact h'
 | (k,d)::m,Gn,h,h'=>by
  obtain⟨v,q,rfl,h1,h2⟩:=h.inv;exact(h2.append h').cons h1
variable [DecidableEq κ]
theorem Pairs.get:∀ {m:List (κ×D)} {Gn:List (κ×V)},Pairs F Z m Gn->dicGet m k=some d->∃ v,valV Gn k=some v/\Rep F.K F.C Z d v
 | [],Gn,h,e=>nomatch e
 | (k',d')::m,Gn,h,e=>by
  obtain⟨v,q,rfl,h1,h2⟩:=h.inv;unfold dicGet at e;rw[GY]at e;by_cases hk:k'=k
  ·rw[GG (show (k',d').1=k from hk)]at e;cases e;exact⟨v,jd hk,h1⟩
  ·rw[Gh (show ¬ (k',d').1=k from hk)]at e;obtain⟨u,e1,e2⟩:=h2.get e;exact⟨u,by rw[je hk];exact e1,e2⟩
theorem Pairs.any:∀ {m:List (κ×D)} {Gn:List (κ×V)},Pairs F Z m Gn->(Gn.any λkv=>decide (kv.1=k))=(m.any λp=>decide (p.1=k))
 | [],Gn,h=>by rw[h.inv0];rfl
 | (k',d')::m,Gn,h=>by
  obtain⟨v,q,rfl,h1,h2⟩:=h.inv;rw[Ix,Ix,h2.any]
theorem Pairs.upd (r:Rep F.K F.C Z d v):∀ {m:List (κ×D)} {Gn:List (κ×V)},Pairs F Z m Gn->Pairs F Z (m.map λp=>if p.1=k then (p.1,d) else p) (Gn.map λkv=>if kv.1=k then (kv.1,v) else kv)
 | [],Gn,h=>by rw[h.inv0];exact Pairs.nil
 | (k',d')::m,Gn,h=>by
  obtain⟨u,q,rfl,h1,h2⟩:=h.inv;rw[F5,F5];by_cases hk:k'=k
  ·rw[if_pos (show (k',d').1=k from hk),if_pos (show (k',u).1=k from hk)];exact(h2.upd r).cons r
  ·rw[if_neg (show ¬ (k',d').1=k from hk),if_neg (show ¬ (k',u).1=k from hk)];exact(h2.upd r).cons h1
theorem Pairs.put (r:Rep F.K F.C Z d v)(h:Pairs F Z m Gn):Pairs F Z (dicPut m k d) (putK Gn k v):=by
 unfold dicPut putK;rw[h.any];split
 ·exact h.upd r
 ·exact h.append (Pairs.nil.cons r)
end
section
variable {H:Hp}{S:SS}{σ:St}
theorem StOk.dic (h:StOk F H Z S σ)(i:Nat)(m:List (Key×D))(e:S[i]?=some (some (.dic m))):∃ a Gn,σ[i]?=some (some (.ref a))/\H a=some (.dK Gn)/\Pairs F Z m Gn:=by
 obtain⟨v,A,e1,⟨a,Gn,rfl,rfl,e2,r⟩,_⟩:=h.sl i _ e
 grind
theorem b7 {K:Frag}{C:La}{d:D}{k:Key}{y:V}(e:keyOf d=some k)(r:Rep K C Z d y):y=kV k:=by
 cases d with
 | int i=>cases e;rw[Rep]at r;exact r
 | str s=>cases e;rw[Rep]at r;exact r
 | _=>cases e
end
def eDicIx (i:Nat)(g:KZ):KZ:=λS=>match S[i]? with
 | some (some (.dic m))=>(g S).bind λk=>oDIx m k
 | _=>.stuck
def sDicSt (i:Nat)(gi ge:KZ):SS->O:=λS=>match S[i]? with
 | some (some (.dic m))=>rO (((ge S).bind λv=>(gi S).bind λk=>oDSt m k v).bind λm'=>.ok (.nx (S.set i (some (.dic m')))))
 | _=>.stuck
section
variable {ge:KZ}{ei:Expr}
theorem EO (i:Nat)(bx:BX X F k)(he:FE X F e g)(hs:NoSl e:=by intro _ _;rfl)(hi:X.N[i]?=some x:=by rfl)(hv:Vis X.env.scope x:=by first | exact Or.inl rfl | exact Or.inr (Or.inl rfl) | exact Or.inr (Or.inr rfl))(hd:KH x:=by decide)
  (Ks:KK x:=by decide):FE X F (.Subscript (.Name x p0) e pos) (eDicIx i g) :=
 (uO (by have:=bx.room.un;omega) (f8 hi hv hd Ks) he hs).weak λσ H Q ⟨Z,S,ok,w⟩=>by
  unfold eDicIx at w;split at w
  ·rename_i m e0;obtain⟨a,Gn,e1,e2,r⟩:=ok.dic i m e0;refine⟨.ref a,e1,ak ok w λd y H1 Z1 ok1 x1 ry w1=>?_⟩;unfold oDIx at w1;split at w1
   ·rename_i kk ek;split at w1
    ·rename_i d' ed;obtain⟨v,f1,f2⟩:=(r.mono x1.z).get ed;rw[b7 ek ry];refine⟨a,v,rfl,?_,WG.now w1 ok1.sub v f2⟩;rw[<- f1];exact DGet.k (x1.same _ _ e2)
    ·exact w1.elim
   ·exact w1.elim
  ·exact w.elim
theorem yw (i:Nat){Kn:Pos}(bx:BX X F k)(he:FE X F e ge)(hix:FE X F ei g)(hi:X.N[i]?=some x:=by rfl)(hv:Vis X.env.scope x:=by first | exact Or.inl rfl | exact Or.inr (Or.inl rfl) | exact Or.inr (Or.inr rfl))(hd:KH x:=by decide)
  (Ks:KK x:=by decide) (hs:swapsWith e (some (.Subscript (.Name x p0) ei Kn)) pos.line X.env=pure false:=by rfl) :
  FS X F (.Assign [.Subscript (.Name x p0) ei Kn] e pos) (sDicSt i g ge) :=
 (Bd (by have:=bx.room.un;omega) (f8 hi hv hd Ks) hix he hs).weak λD σ H ⟨Z,S,ok,w⟩=>by
  unfold sDicSt at w;split at w
  ·rename_i m e0;have w0:=WO.wg ok w;rw[R.bind_assoc]at w0;refine ak ok w0 λd v H1 Z1 ok1 x1 rv w1=>?_
   obtain⟨a,Gn,e1,e2,r⟩:=ok1.dic i m e0;rw[R.bind_assoc]at w1;refine⟨.ref a,e1,ak ok1 w1 λdk y H2 Z2 ok2 x2 ry w2=>?_⟩;unfold oDSt at w2;split at w2
   ·rename_i kk ek;split at w2
    ·rename_i hl;rw[b7 ek ry];have e3:=x2.same _ _ e2;have r2:=r.mono x2.z;refine⟨a,_,rfl,DPut.k e3 (by rw[r2.length,Go];omega),?_⟩;have w3:=WG.now w2 ok2.sub;exact w3 σ _ Z2 (Same.refl _) (ok2.rewr e0 e1 ⟨a,Gn,rfl,rfl,e3,r2⟩ ⟨a,_,rfl,rfl,ah,r2.put (rv.mono x2.z)⟩ λb hb=>ae (λz=>hb (by rw[z];exact GP.mpr rfl)))
    ·exact w2.elim
   ·exact w2.elim
  ·exact w.elim
end
def dicMk (ks:List Key)(ds:List D):List (Key×D):=(ks.zip ds).foldl (λa p=>dicPut a p.1 p.2) []
theorem Pairs.fold {F:Fx}{Z:Hp}:∀ (ks:List Key) {ds:List D} {vs:List V} {m:List (Key×D)} {Gn:List (Key×V)},Reps F.K F.C Z ds vs->Pairs F Z m Gn->Pairs F Z ((ks.zip ds).foldl (λa p=>dicPut a p.1 p.2) m) ((ks.zip vs).foldl (λa p=>putK a p.1 p.2) Gn)
 | [],_,_,_,_,_,h=>h
 | k::ks,[],vs,_,_,r,h=>by
  rw[Reps]at r;subst r;exact h
 | k::ks,d::ds,vs,_,_,r,h=>by
  rw[Reps]at r;obtain⟨v,q,rfl,h1,h2⟩:=r;exact Pairs.fold ks h2 (h.put h1)
def prs (ks:List Key)(vs:List V):List (V×V):=(ks.zip vs).map λp=>(kV p.1,p.2)
structure FD (X:Cx)(F:Fx)(pos:Pos)(keys:List (Option Expr))(values:Lp)(ks:List Key)(gs:List (KZ)):Prop where
 out:∃ trs,PPs X pos keys values trs/\∀ σ H Q,tAl F (aL gs) σ H (λvs H'=>Q (prs ks vs) H')->tPairs trs σ H Q
section
variable {keys:List (Option Expr)}{values:Lp}{ks:List Key}{gs:List (KZ)}
theorem yx:FD X F pos [] [] [] []:=⟨[],Be,λσ H Q ⟨Z,S,ok,w⟩=>WG.now (a:=([]:List D)) w ok.sub [] Reps.nil⟩
theorem Bg {x j pk}(hv:FE X F e g)(hr:FD X F pos keys values ks gs):FD X F pos (some (.Constant (.str x) j pk)::keys) (e::values) (.inr x::ks) (g::gs):=by
 obtain⟨trs,h1,h2⟩:=hr.out;refine⟨_,yt xl hv h1,λσ H Q ⟨Z,S,ok,w⟩=>?_⟩;exact ak (Q:=λy H2=>tPairs trs σ H2 λps H3=>Q ((.str x,y)::ps) H3) ok w λd v H1 Z1 ok1 x1 rv w1=>h2 _ _ _ (aS ok1 w1 λds vs H2 Z2 ok2 x2 rs w2=>WG.now w2 ok2.sub _ (Reps.cons (rv.mono x2.z) rs))
end
section
variable {gs:KY}
end
section
variable {ga gb:KZ}{a b:Expr}
end
section
variable {prog:Program}{w:World}{A:Around}{E:KU}{s:Shared}
end
section
variable {st:Expr}{te:TE}{p2:Pos}
theorem EQ {j p3}:PE X (.UnaryOp .USub (.Constant (.int 1) j p3) pos) (tC (.int (-1))):=(Cs xq xk).weak λσ H Q h=>⟨1,rfl,h⟩
end
end FF
end
noncomputable section
namespace HT
open PySem PyProof.Rows
section
open PySem.SeqAt
open PySem.AutoSeq1 (wpAny_loadPart')
open PySem.MeetsSeq PySem.MeetsSeq2 PySem.MeetsSeq3
end
section
variable {prog:Program}{w:World}{A:Around}{E:KU}{s:Shared}
end
end HT
end
noncomputable section
namespace FF
open PySem PySem.Spec PyProof.Rows L2
variable {X:Cx}{A:Around}{E:KU}{s s0:Shared}{w:World}{prog:Program}{F:Fx}{pos p p2 pos2:Pos}{k own:Nat}{e tg elt iter:Expr}{N:List Str}{scope:Scope}{am:Ll}{cap:List Nat}
section
variable {a b:Expr}{ga gb:KZ}
end
section
variable {M:Model}
end
section
variable {P:Program}{K:Frag}{mg:KW}{base:Heap}{qual:Str}{f:Addr}{cd:Value}{outer:List Env}{H0:Hp}{E:XK}
end
section
variable {E:XK}{cl:List (Str×Addr)}{C:Addr}{H:Hp}{fp:List Addr}{σ:L2.St}{H1:Hp}{s1:Shared}
end
section
variable {E:XK}{wi:TI}{g:TG}{tc:TT}{te:TE}
set_option maxHeartbeats 4000000 in
end
section
variable {git:KY}{g:Li}{ge:KZ}
end
section
variable {kws:List Keyword}{gs:KY}
end
section
variable {gs:KY}
end
section
variable {R:Result->Lg}{h₀:Heap}{l I S:Addr}{its:List Value}{ks:Nat->List Int}
end
section
variable {gs:KY}
end
section
variable {gs:KY}
end
section
abbrev byT (w:World):Bool:=w.params.followText "set-order"
end
section
variable {R:Result->Lg}
abbrev bare (w:World):Obj:={ cls:=.type "set",dict:=none,data:=.set #[] 0 (.fresh 0 0 (!byT w)) }
end
section
abbrev lobj (xs:Array Value)(c:Nat):Obj:={ cls:=.type "list",dict:=none,data:=.seq xs c,slots:=#[] }
end
section
variable {gs:KY}
end
section
variable {σ':Type}{S:SS}{st:Stmt}{rest:Lo}{J:σ'->SS->Prop}
end
inductive Prd {α β:Type}(R:α->β->Prop):List α->List β->Prop
 | nil:Prd R [] []
 | cons {a b l r}:R a b->Prd R l r->Prd R (a::l) (b::r)
theorem Prd.length {α β:Type}{R:α->β->Prop}:∀ {l:List α} {r:List β},Prd R l r->l.length=r.length
 | _,_,.nil=>rfl
 | _,_,.cons _ t=>by rw[Gb,Gb,t.length]
section
variable {R:Result->Lg}
end
section
variable {gs:KY}{σ:List (Option V)}{H:Hp}
end
end FF
end
noncomputable section
set_option maxRecDepth 1000000
namespace FF
open PySem PySem.Spec PyProof.Rows L2
variable {X:Cx}{pos IR IY Kn p0:Pos}{k c n:Nat}{e a b ei oe:Expr}{S:SS}{p q m qual:Str}{G:Gx}{W:Wd}{ps N:List Str}{w:World}{st:Stmt}{A:Around}{σ:St}{f:Addr}{g:SS->O}{E:KU}{s:Shared}{am:Ll}{fd:FuncData}{H0 Z:Hp}{Gn:List TKV}{ks:List Int}{P prog:Program}{K:Frag}{mg:KW}{base:Heap}{es:Lp}{pl:Sem Bool}{C:La}{sa sb:Lo}
def ltOf:Code->Option Value->Option Bool
 | .call (.builtin id) ⟨[.int a _,.int b _],[]⟩,none=>if id="int.__lt__" then some (decide (a < b)) else none
 | _,_=>none
def ev {α:Type}(σ:Setting):Sem α->Option α
 | .pure a=>some a
 | .rule _ k=>ev σ (k ())
 | .point _ k=>ev σ (k ())
 | .ask k=>ev σ (k σ)
 | .call c h _ _ k=>match ltOf c h with
  | some b=>ev σ (k (.ok (.ret (.bool b))))
  | none=>none
 | _=>none
def known (f:Nat->Int)(t:Nat->Tok):List Value:=(List.range 64).map λi=>.int (f i) (t i)
section
variable {F:Fx}{p:Pos}{gs:KY}
end
section
variable {F:Fx}{g ge:KZ}{x:Str}
end
def dAddS:Lf
 | .str a,.str b=>if a.length+b.length<=16777216 then .ok (.str (a++b)) else .stuck
 | _,_=>.stuck
def dStrI:KS
 | [.int i]=>if i.natAbs.log2 < 1920 then .ok (.str (toString i)) else .stuck
 | _=>.stuck
def dLenS:KS
 | [.str y]=>if y.length<=16777216 then .ok (.int (y.length:Nat)) else .stuck
 | _=>.stuck
section
variable {F:Fx}{p:Pos}{ga gb:KZ}{gs:KY}
theorem Bh (bx:BX X F k)(hg:Gl X "len")(hm:X.mg "len"=none)(ha:FA X F [e] gs)(he:Id X e []:=by rfl)(hpl:IO X pos []:=by rfl) :
  FE X F (.Call (.Name "len" p) [e] [] pos) (eCall dLenS gs) :=
 (f9 xw hg hm PySem.boot_len ha (he:=he)).weak λσ H Q ⟨Z,S,ok,w⟩=>by
  refine aS ok w λds vs H1 Z1 ok1 x1 rs w1=>?_
  unfold dLenS at w1;split at w1
  ·rename_i y;split at w1
   ·rename_i hl;obtain⟨v,rfl,h⟩:=aN rs;rw[Rep]at h;subst h;exact⟨.str y,y.length,rfl,⟨by rw[Go];exact hl,rfl⟩,WG.now w1 ok1.sub _ aM⟩
   ·exact w1.elim
  ·exact w1.elim
end
section
variable {F:Fx}{o:Expr}{g:KZ}{gs:List (KZ)}
end
section
variable {F:Fx}{lo hi:Option Expr}{g:KZ}{l h:SS->R (Option Int)}{p2:Pos}
end
section
variable {F:Fx}{gs:KY}{x:Str}
end
section
variable {F:Fx}{t:KS}{ds:List D}{l I S:Addr}{Z0:Hp}{R:Result->Lg}{d:D}
end
section
variable {F:Fx}{p kp np:Pos}{g:KZ}{x:Str}{t:KS}
end
section
variable {xs:List TKU}
end
section
variable {H:Hp}{a b:Addr}
end
section
variable {o i value:Expr}{td ty tv:TE}
end
section
variable {F:Fx}{Z':Hp}{m:List (List Int×D)}{d:D}{v:V}{b:Addr}
end
abbrev dt (m:List (List Int×D)):Option Sl:=some (.dit m)
section
variable {F:Fx}{H:Hp}
end
section
variable {F:Fx}{p:Pos}{g ge:KZ}{x:Str}
end
section
variable {σ:Type}{F:Fx}{J:σ->SS->Prop}
end
section
variable {F:Fx}
theorem Bi {x y:Str}(h:∃ t,X.mg x=some (.str y t))(hg:Gl X x)(hd:KH x:=by decide):FE X F (.Name x pos) (eC (.str y)):=by
 obtain⟨t,e⟩:=h;exact dE (aR (v:=.str y) hg e ⟨t,rfl⟩ hd) λ_=>by rw[Rep]
variable {σ':Type}{rest:Lo}{J:σ'->SS->Prop}
end
noncomputable def lwR {α σ:Type}(W:Wd)(r:R α)(k:α->LW σ):LW σ:=match r with
 | .ok a=>k a
 | .err e=>.er W e
 | .stuck=>.stuck
section
variable {rest:Lo}{α σ τ V':Type}{J:σ->SS->Prop}{r:RW}
theorem lh (h:KM G W λF=>FS X F st g):PS X st (λD ρ H=>∃ HW Z,GOk G W HW Z H S ρ/\WO (G.fx HW Z H) Z (g S) D):=λam s ρ H D I ⟨HW,Z,ok,w⟩=>h _ _ ok.wk am s ρ H D I ⟨Z,S,ok.nm,w⟩
theorem pV {r:R α}{S':α->SS}{k:α->LW σ}(h:KM G W λF=>FS X F st g)(hg:g S=rO (r.bind λa=>.ok (.nx (S' a))))(hk:∀ a,GL X G W (S' a) rest J (k a)):GL X G W S (st::rest) J (lwR W r k) :=
 (bu (lh h) (fm hk)).weak λD ρ H ⟨HW,Z,ok,w⟩=>⟨HW,Z,ok,by
  rw[hg];cases r with
  | ok a=>exact λρ' H' Z' z ok'=>⟨a,HW,Z',ok.after ok',WGL.more z w⟩
  | err k=>exact λH' x=>w HW Z H' (Same.refl _) (ok.gx.err x) ok.wd
  | stuck=>exact w⟩
theorem yy {S':SS}{l:LW σ}(h:KM G W λF=>FS X F st g)(hg:g S=.nx S')(hk:GL X G W S' rest J l):GL X G W S (st::rest) J l :=
 (bu (lh (S:=S) h) hk).weak λD ρ H ⟨HW,Z,ok,w⟩=>⟨HW,Z,ok,by rw[hg];exact λρ' H' Z' z ok'=>⟨HW,Z',ok.after ok',WGL.more z w⟩⟩
theorem uP {g:KZ}{r:R D}(h:KM G W λF=>FS X F st (sRet g))(hr:g S=r):GL X G W S (st::rest) J (lwR W r λd=>.rt W d) :=
 (bu (lh h) gX).weak λD ρ H ⟨HW,Z,ok,w⟩=>⟨HW,Z,ok,by
  unfold sRet;rw[hr];cases r with
  | ok d=>exact λv H' Z' x rv=>w v HW Z' H' (ok.gx.after x) (ok.wd.mono (Same.refl _) x.z) rv
  | err k=>exact λH' x=>w HW Z H' (Same.refl _) (ok.gx.err x) ok.wd
  | stuck=>exact w⟩
theorem DO {e:Nat}(h:KM G W λF=>FS X F st g)(hg:g S=.er e):GL X G W S (st::rest) J (.er W e) :=
 (bu (lh (S:=S) h) gX).weak λD ρ H ⟨HW,Z,ok,w⟩=>⟨HW,Z,ok,by rw[hg];exact λH' x=>w HW Z H' (Same.refl _) (ok.gx.err x) ok.wd⟩
end
theorem WGL.bind2 {τ σ:Type}{G:Gx}{J:σ->SS->Prop}{D D':Ends}{J1:τ->SS->Prop}{Z:Hp}{k:Wd->τ->LW σ}(hr:D'.rt=D.rt)(hN:∀ w s S ρ HW Z' H,J1 s S->Same Z Z'->GOk G w HW Z' H S ρ->WGL G Z' J D (k w s)->D'.nx ρ H):∀ {l:LW τ},WGL G Z J D (lwS l k)->WGL G Z J1 D' l
 | .nx w s,h=>λS ρ HW Z' H j z ok=>hN w s S ρ HW Z' H j z ok (h.more z)
 | .rt w d,h=>by
  show ∀ v HW Z H,GX G.HW0 G.Z0 G.H0 HW Z H->WdOk G.K G.C HW Z w->Rep G.K G.C Z d v->D'.rt v H;rw[hr];exact h
 | .er w k,h=>h
 | .al w f,h=>λa e=>WGL.bind2 hr hN (h a e)
 | .stuck,h=>h
noncomputable def lwFor {τ:Type}(step:Wd->τ->D->LW τ):List D->Wd->τ->LW τ
 | [],w,s=>.nx w s
 | d::r,w,s=>lwS (step w s d) λw' s'=>lwFor step r w' s'
section
variable {τ V':Type}{tg iter:Expr}{body:Lo}{git:KY}{inj:τ->V'->SS}{step:Wd->τ->D->LW τ}
theorem jg (i:Nat){s0:τ}{B:τ->V'->D->SS}(w0:V')(hp:PassesOwn (model X.prog X.w) X.A X.env X.xe)(hc:X.calm=true)(hi:KM G W λF=>FI X F tg iter git)(hg:∀ H0 Z0 W',Wk (G.at H0 Z0) W'->FG X (G.at H0 Z0) tg (gNm i))
  (hS:S=inj s0 w0) (hB:∀ s w x,(inj s w).set i (some (.val x))=B s w x) (hb:∀ W' s w x,GL X G W' (B s w x) body (JX inj) (step W' s x))
  (hs:∀ x,foldedSetIterable iter X.env x=pure x:=by intro _;rfl):GL1 X G W S (.For tg iter body [] pos) (JX inj) (lwR W (git S) λxs=>lwFor step xs W s0):=by
 have hi':PI X tg iter (λρ H Q=>∃ HW Z,GOk G W HW Z H S ρ/\tI (G.fx HW Z H) git ρ H Q):=λam s ρ H Q I ⟨HW,Z,ok,t⟩=>hi _ _ ok.wk am s ρ H Q I t
 have hg':PG X tg (λv ρ H Q=>∃ W' HW Z S',GOk G W' HW Z H S' ρ/\tGd (G.fx HW Z H) (gNm i) v ρ H Q):=λam s ρ H v u Q I r ⟨W',HW,Z,S',ok,t⟩=>hg _ _ W' ok.wk am s ρ H v u Q I r t
 have hbb:PSs X body (λD ρ H=>∃ q:Wd×τ×V'×FF.D,tGL G q.1 (B q.2.1 q.2.2.1 q.2.2.2) (JX inj) (step q.1 q.2.1 q.2.2.2) D ρ H):=λam s ρ H D I ⟨q,t⟩=>hb q.1 q.2.1 q.2.2.1 q.2.2.2 am s ρ H D I t
 refine(sC hp hc hi' hg' hbb hs).weak λD ρ H ⟨HW,Z,ok,w⟩=>⟨HW,Z,ok,Z,S,ok.nm,?_⟩
 cases q:git S with
 | err e=>rw[q]at w;exact λH' x=>w HW Z H' (Same.refl _) (ok.gx.trans ⟨λb o _ e=>x b o e,Same.refl _,ok.zh.trans x,ok.wh.trans x,λ_ h=>h,λ_ h=>.inl h,λ_ h=>.inl h,ok.gx.dj⟩) ok.wd
 | stuck=>rw[q]at w;exact w
 | ok ds =>
  rw[q]at w;intro H1 Z1 x1;have w1:=WGL.more x1.z w;have okA:=ok.more (ok.ex x1) (ok.wd.mono (Same.refl _) x1.z);intro It wk _;refine⟨λn m ρ H=>m=ds.length - n/\n<=ds.length/\∃ W2 HW2 Z2 s w,GOk G W2 HW2 Z2 H (inj s w) ρ/\Same Z1 Z2/\WGL G Z2 (JX inj) D (lwFor step (ds.drop n) W2 s),⟨ds.length,rfl,GQ _,W,HW,Z1,s0,w0,by rw[<- hS];exact okA,Same.refl _,w1⟩,?_⟩
  rintro n m ρ2 H2 ⟨rfl,hle,W2,HW2,Z2,s,w2,ok2,z2,wl2⟩
  obtain⟨k1,k2⟩:=wk n H2 Z2 z2 ok2.zh;by_cases K4:n < ds.length
  ·obtain⟨go,y⟩:=k1 K4;refine .inr ⟨go,λρ' H'=>∃ W3 HW3 Z3 s3 w3,GOk G W3 HW3 Z3 H' (inj s3 w3) ρ'/\Same Z1 Z3/\WGL G Z3 (JX inj) D (lwFor step (ds.drop (n+1)) W3 s3),λρ' H' ⟨W3,HW3,Z3,s3,w3,q⟩=>⟨ds.length - (n+1),by omega,rfl,K4,W3,HW3,Z3,s3,w3,q⟩,λx H' hy=>?_⟩;obtain⟨Z2',d,x',e3,rd⟩:=y x H' hy;have ok2:=ok2.more (ok2.ex x') (ok2.wd.mono (Same.refl _) x'.z);have hd:ds.drop n=d::ds.drop (n+1):=by
    obtain⟨hi,e4⟩:=Gc.mp e3;rw[Hz hi,e4]
   rw[hd]at wl2;refine⟨W2,HW2,Z2',inj s w2,ok2,Z2',inj s w2,d,ok2.nm,rd,?_⟩;intro H4 Z4 x4 ρ4 ok4;have okB:=ok2.after ok4;refine⟨⟨W2,s,w2,d⟩,HW2,Z4,by rw[<- hB];exact okB,?_⟩;have z14:Same Z1 Z4:=(z2.trans x'.z).trans x4.z;refine WGL.bind2 (by rfl) ?_ (WGL.more (x'.z.trans x4.z) wl2);intro w3 s3 S3 ρ3 HW3 Z3 H3 ⟨w5,e5⟩ z3 ok3 wl3;exact⟨w3,HW3,Z3,s3,w5,e5 ▸ ok3,z14.trans z3,wl3⟩
  ·refine .inl ⟨k2 (by omega),?_⟩;rw[HI (by omega)]at wl2;exact wl2 (inj s w2) ρ2 HW2 Z2 H2 ⟨w2,rfl⟩ (Same.refl _) ok2
end
def MadeG (X:Cx)(G:Gx):Prop:=∀ F:Fx,F.E=G.E->MadeX X F
theorem MadeG.of (m:MadeG X G){Z0:Hp}:MadeX X (G.at H0 Z0):=m _ rfl
abbrev KQ:=Wd->KS
def spR (K:Frag)(C:La)(n:Nat)(f:KQ):Sp:=λvs H Q E =>
 vs.length=n/\∃ W Z ds,Same Z H/\WdOk K C H Z W/\Reps K C Z ds vs/\WG ⟨K,C,H,Z,E⟩ H Z (f W ds) λd H' Z'=>∀ v,Rep K C Z' d v->Q v H'
structure MeR (P:Program)(w:World)(K:Frag)(mg:KW)(base:Heap)(C:La)(k:Nat)(c:Nat)(m:Str)(f:KQ):Prop where
 ex:∃ a fd x,FnOk P w K mg base (CXE P w) k a fd [x] (spR K C 1 f)/\Meth K (C c) m a/\Binds K fd [x] []
 cls:Cls K (C c)
def rM (c:Nat)(m:Str)(W:Wd)(o:D)(k:R D):R D:=match o with
 | .ptr a=>match W a with
  | some (.ins c' fs)=>if c'=c/\fs.lookup m=none then k else .stuck
  | _=>.stuck
 | _=>.stuck
def eMe0 (c:Nat)(m:Str)(W:Wd)(f:KQ)(go:KZ):KZ:=λS=>(go S).bind λo=>rM c m W o (f W [o])
section
variable {F:Fx}{o:Expr}{go:KZ}{f:KQ}
theorem b8 (bx:BX X F k)(wk:Wk F W)(h:MeR X.prog X.w F.K X.mg X.base F.C k c m f)(ho:FE X F o go)
  (ht:KL X o m IR [] pos pl:=by rfl) :
  FE X F (.Call (.Attribute o m IR) [] [] pos) (eMe0 c m W f go):=by
 obtain⟨a,fd,x,h1,h2,h3⟩:=h.ex;have hK:=bx.K;refine(qI ho (by rw[hK];exact h.cls) (by rw[hK];exact h2) (by rw[hK];exact h1) bx.room (by grind) .nil bx.pass ht).weak λρ H Q ⟨Z,S,ok,w⟩=>?_
 refine ak ok w λd v H1 Z1 ok1 x1 rv w1=>?_
 unfold rM at w1;cases d with
 | ptr p =>
  simp only at w1;cases ew:W p with
  | none=>rw[ew]at w1;exact w1.elim
  | some oc =>
   cases oc with
   | lst ds=>rw[ew]at w1;exact w1.elim
   | ins c' fs =>
    rw[ew]at w1;simp only at w1;by_cases ec:c'=c/\fs.lookup m=none
    ·rw[if_pos ec]at w1;obtain⟨rfl,hl⟩:=ec;obtain⟨dx,vs,e1,e2,cl,e3,rr⟩:=wk p _ ew;have wd1:=wk.mono ok1.ex.same ok1.ex.z;have rv':=rv;rw[Rep]at rv';refine⟨p,dx,vs,rv',ok1.ex.same _ _ e1,lc e3 hl,rfl,W,Z1,[.ptr p],ok1.sub,wd1,Reps.cons rv Reps.nil,?_⟩;cases q:f W [.ptr p] with
     | ok z=>rw[q]at w1;exact w1
     | err e=>rw[q]at w1;exact w1
     | stuck=>rw[q]at w1;exact w1
    ·rw[if_neg ec]at w1;exact w1.elim
 | _=>exact w1.elim
end
def OkG (P:Program)(w:World)(K:Frag)(mg:KW)(base:Heap)(C:La)(k:Nat)(x qual:Str)(st:Stmt)(ps:List Str)(fn:KR):Prop :=
 ∀ {f:Addr} {fd:FuncData},Fun K x qual st f fd->FnOk P w K mg base (CXE P w) (k+1) f fd ps (spG K C ps.length fn)
def OkGB (P:Program)(w:World)(K:Frag)(mg:KW)(base:Heap)(C:La)(k:Nat)(N:List Str)(qual:Str)(st:Stmt)(W:Wd)(ds:List D)(l:LW Unit):Prop :=
 ∀ {f:Addr} {J4:Value} {A:Around} {outer:List Env} {s:Shared} {HW Z H:Hp} {E:XK},(λ(X:Cx) (G:Gx)=>BG X G k->PassesOwn (model P w) X.A X.env X.xe->MadeG X G->GL X G W (startS N.length ds) (defBody st) JU l) (bodyX P w K mg base N qual (defScope st) f J4 A outer s H E) ⟨K,C,HW,Z,H,E⟩
def OkR (P:Program)(w:World)(K:Frag)(mg:KW)(base:Heap)(C:La)(k:Nat)(x qual:Str)(st:Stmt)(p:Str)(fn:KQ):Prop :=
 ∀ {f:Addr} {fd:FuncData},Fun K x qual st f fd->FnOk P w K mg base (CXE P w) (k+1) f fd [p] (spR K C 1 fn)
def OkRB (P:Program)(w:World)(K:Frag)(mg:KW)(base:Heap)(C:La)(k:Nat)(N:List Str)(qual:Str)(st:Stmt)(W:Wd)(ds:List D)(l:L Unit):Prop :=
 ∀ {f:Addr} {J4:Value} {A:Around} {outer:List Env} {s:Shared} {H Z:Hp} {E:XK},(λ(X:Cx) (F:Fx)=>BX X F k->Wk F W->FL X F (startS N.length ds) (defBody st) JU l) (bodyX P w K mg base N qual (defScope st) f J4 A outer s H E) ⟨K,C,H,Z,E⟩
def b1 (k:Wd->D->LW Unit):KR
 | W,[a]=>outW (k W a)
 | _,_=>.stuck
def b2 (k:Wd->D->D->LW Unit):KR
 | W,[a,b]=>outW (k W a b)
 | _,_=>.stuck
def b3 (k:Wd->D->D->D->LW Unit):KR
 | W,[a,b,c]=>outW (k W a b c)
 | _,_=>.stuck
def b4 (k:Wd->D->D->D->D->LW Unit):KR
 | W,[a,b,c,d]=>outW (k W a b c d)
 | _,_=>.stuck
def b5 (k:Wd->D->D->D->D->D->LW Unit):KR
 | W,[a,b,c,d,e]=>outW (k W a b c d e)
 | _,_=>.stuck
def r1 (k:Wd->Lj):KQ
 | W,[a]=>outL (k W a)
 | _,_=>.stuck
section
variable {x:Str}
theorem okg {fn:KR}(S:FnScope N ps (defScope st))(h:∀ W ds,ds.length=ps.length->∃ l,fn W ds=outW l/\OkGB P w K mg base C k N qual st W ds l):OkG P w K mg base C k x qual st ps fn:=λ{f fd} F=>by
 obtain⟨oc,od,kV,doc,pm,an,J4,ct,osl,rfl,lk,Ks⟩:=F.ex;refine oq lk Ks S (λvs H Q E q=>q.1) λA outer s H vs Q E hr hsp=>?_
 obtain⟨hl,W,HW,Z,ds,zh,wh,dj,wd,r,wr⟩:=hsp;obtain⟨l,e,o⟩:=h W ds (by rw[r.length];exact hl);rw[e]at wr;exact⟨_,@o _ J4 A outer s HW Z H E ⟨hr,rfl,rfl,b0⟩ Hw (λF' e' am σ H1 s1 h1 ea C1 args I hx hE=>eV I hx (by grind)),HW,Z,GOk.start zh wh dj wd r,WGL.start wr⟩
theorem okr {fn:KQ}(S:FnScope N [p] (defScope st))(h:∀ W d,∃ l,fn W [d]=outL l/\OkRB P w K mg base C k N qual st W [d] l):OkR P w K mg base C k x qual st p fn:=λ{f fd} F=>by
 obtain⟨oc,od,kV,doc,pm,an,J4,ct,osl,rfl,lk,Ks⟩:=F.ex;refine oq lk Ks S (λvs H Q E q=>q.1) λA outer s H vs Q E hr hsp=>?_
 obtain⟨hl,W,Z,ds,z,wd,r,wr⟩:=hsp;obtain⟨d,rfl⟩:=len1 (by rw[r.length];exact hl);obtain⟨l,e,o⟩:=h W d;refine⟨_,@o _ J4 A outer s H Z E ⟨hr,rfl,rfl,b0⟩ wd,Z,cC z r,?_⟩;rw[e]at wr;cases l with
 | nx u=>exact λS' ρ' H' Z' _ _ ok=>wr H' Z' ok.ex .non (by rw[Rep])
 | rt d=>exact λv H' Z' x rv=>wr H' Z' x v rv
 | er k=>exact wr
 | stuck=>exact wr
theorem okg1 {c:Wd->D->LW Unit}(S:FnScope N [p] (defScope st))(h:∀ W a,OkGB P w K mg base C k N qual st W [a] (c W a)):OkG P w K mg base C k x qual st [p] (b1 c):=okg S λW ds hl=>by obtain⟨a,rfl⟩:=len1 hl;exact⟨c W a,rfl,h W a⟩
theorem okg2 {c:Wd->D->D->LW Unit}(S:FnScope N [p,q] (defScope st))(h:∀ W a b,OkGB P w K mg base C k N qual st W [a,b] (c W a b)):OkG P w K mg base C k x qual st [p,q] (b2 c):=okg S λW ds hl=>by obtain⟨a,b,rfl⟩:=len2 hl;exact⟨c W a b,rfl,h W a b⟩
theorem okg3 {r:Str}{c:Wd->D->D->D->LW Unit}(S:FnScope N [p,q,r] (defScope st))(h:∀ W a b d,OkGB P w K mg base C k N qual st W [a,b,d] (c W a b d)):OkG P w K mg base C k x qual st [p,q,r] (b3 c):=okg S λW ds hl=>by obtain⟨a,b,d,rfl⟩:=len3 hl;exact⟨c W a b d,rfl,h W a b d⟩
theorem okg4 {r s:Str}{c:Wd->D->D->D->D->LW Unit}(S:FnScope N [p,q,r,s] (defScope st))(h:∀ W a b d e,OkGB P w K mg base C k N qual st W [a,b,d,e] (c W a b d e)):OkG P w K mg base C k x qual st [p,q,r,s] (b4 c):=okg S λW ds hl=>by obtain⟨a,b,d,e,rfl⟩:=len4 hl;exact⟨c W a b d e,rfl,h W a b d e⟩
theorem okg5 {r s t:Str}{c:Wd->D->D->D->D->D->LW Unit}(S:FnScope N [p,q,r,s,t] (defScope st))(h:∀ W a b d e f,OkGB P w K mg base C k N qual st W [a,b,d,e,f] (c W a b d e f)):OkG P w K mg base C k x qual st [p,q,r,s,t] (b5 c):=okg S λW ds hl=>by obtain⟨a,b,d,e,f,rfl⟩:=len5 hl;exact⟨c W a b d e f,rfl,h W a b d e f⟩
theorem okr1 {c:Wd->Lj}(S:FnScope N [p] (defScope st))(h:∀ W a,OkRB P w K mg base C k N qual st W [a] (c W a)):OkR P w K mg base C k x qual st p (r1 c):=okr S λW d=>⟨c W d,rfl,h W d⟩
theorem hI :FnOk P w K mg base (CXE P w) k f fd ps (spG K C n λ_ _=>.stuck) :=
 ⟨λvs H Q E h=>by obtain⟨_,_,_,_,_,_,_,_,_,_,z⟩:=h;exact z.elim,λA outer s H args us vs Q E _ _ _ _ h=>by obtain⟨_,_,_,_,_,_,_,_,_,_,z⟩:=h;exact z.elim⟩
theorem oN :FnOk P w K mg base (CXE P w) k f fd ps (spR K C n λ_ _=>.stuck) :=
 ⟨λvs H Q E h=>by obtain⟨_,_,_,_,_,_,_,z⟩:=h;exact z.elim,λA outer s H args us vs Q E _ _ _ _ h=>by obtain⟨_,_,_,_,_,_,_,z⟩:=h;exact z.elim⟩
structure Md (K:Frag)(C:La)(c:Nat)(m qual:Str)(ps:List Str)(st:Stmt):Prop where
 ex:∃ a fd,Fun K m qual st a fd/\Meth K (C c) m a/\Binds K fd ps []
structure Kl (K:Frag)(mg:KW)(C:La)(c:Nat)(x qual:Str)(ps:List Str)(st:Stmt):Prop where
 ex:∃ a fd,Fun K "__init__" qual st a fd/\Mk K (C c) a/\mg x=some (.ref (C c))/\Binds K fd ps []
 cls:Cls K (C c)
variable {fn:KR}{fr:KQ}
theorem w0 (F:Fd K mg x ps st):FnW P w K mg base C 0 x ps (λ_ _=>.stuck):=by obtain⟨a,fd,F,h,b⟩:=F.ex;exact⟨a,fd,hI,h,F.kp,b⟩
theorem w1 (F:Fd K mg x ps st)(ok:OkG P w K mg base C k x x st ps fn):FnW P w K mg base C (k+1) x ps fn:=by obtain⟨a,fd,F,h,b⟩:=F.ex;exact⟨a,fd,ok F,h,F.kp,b⟩
theorem m0 (F:Md K C c m qual ps st):MeW P w K mg base C 0 c m ps (λ_ _=>.stuck):=by obtain⟨a,fd,F,h,b⟩:=F.ex;exact⟨a,fd,hI,h,b⟩
theorem m1 (F:Md K C c m qual ps st)(ok:OkG P w K mg base C k m qual st ps fn):MeW P w K mg base C (k+1) c m ps fn:=by obtain⟨a,fd,F,h,b⟩:=F.ex;exact⟨a,fd,ok F,h,b⟩
theorem e0 (F:Md K C c m qual [p] st)(cl:Cls K (C c)):MeR P w K mg base C 0 c m (λ_ _=>.stuck):=by obtain⟨a,fd,F,h,b⟩:=F.ex;exact⟨⟨a,fd,p,oN,h,b⟩,cl⟩
theorem e1 (F:Md K C c m qual [p] st)(cl:Cls K (C c))(ok:OkR P w K mg base C k m qual st p fr):MeR P w K mg base C (k+1) c m fr:=by obtain⟨a,fd,F,h,b⟩:=F.ex;exact⟨⟨a,fd,p,ok F,h,b⟩,cl⟩
theorem n0 (F:Kl K mg C c x qual ps st):MkW P w K mg base C 0 c x ps (λ_ _=>.stuck):=by obtain⟨a,fd,F1,h,h2,b⟩:=F.ex;exact⟨⟨a,fd,hI,h,h2,b⟩,F.cls⟩
theorem n1 (F:Kl K mg C c x qual ps st)(ok:OkG P w K mg base C k "__init__" qual st ps fn):MkW P w K mg base C (k+1) c x ps fn:=by obtain⟨a,fd,F1,h,h2,b⟩:=F.ex;exact⟨⟨a,fd,ok F1,h,h2,b⟩,F.cls⟩
end
def rL:List (R D)->R (List D)
 | []=>.ok []
 | r::rs=>r.bind λd=>(rL rs).bind λds=>.ok (d::ds)
theorem hU {τ σ:Type}(f:Wd->D->LW τ)(k:Wd->τ->LW σ):∀ r:RW,lwS (lwB r f) k=lwB r λw d=>lwS (f w d) k
 | .ok w d=>rfl
 | .er w e=>rfl
 | .al w g=>by
  show LW.al w (λa=>lwS (lwB (g a) f) k)=LW.al w λa=>lwB (g a) λw d=>lwS (f w d) k
  congr 1;funext a;exact hU f k (g a)
 | .stuck=>rfl
theorem yz {τ σ:Type}{w:Wd}{f:Str}{o d:D}{g:Wd->LW τ}{k:Wd->τ->LW σ}:lwS (wFld c w f o d g) k=wFld c w f o d λw'=>lwS (g w') k:=by
 unfold wFld;cases o with
 | ptr a =>
  simp only;cases w a with
  | none=>rfl
  | some oc =>
   cases oc with
   | lst ds=>rfl
   | ins c' fs =>
    simp only;by_cases h:c'=c/\fs.length < 900
    ·rw[if_pos h,if_pos h]
    ·rw[if_neg h,if_neg h];rfl
 | _=>rfl
section
variable {o ie:Expr}{rest:Lo}{σ:Type}{J:σ->SS->Prop}{r0 r:RW}{gb go gi:KZ}
theorem lW (i:Nat){x:Str}{px:Pos}{S':D->SS}{k:Wd->D->LW σ}(hN:X.N.Nodup)(h:GE X G W S e r0)(hr:r0=r)(hS:∀ d,S.set i (vv d)=S' d)(hk:∀ w d,GL X G w (S' d) rest J (k w d))(hi:X.N[i]?=some x:=by rfl)(hx:Loc X.env.scope x:=by first | exact Or.inl rfl | exact Or.inr rfl)
  (hf:KJ X x:=by first | exact .inl rfl | exact .inr rfl) (hs:swapsWith e (some (.Name x px)) pos.line X.env=pure false:=by rfl):GL X G W S (.Assign [.Name x px] e pos::rest) J (lwB r k):=by
 have:=iS (A2 hN hi hx h hf hs) (λw d _=>by rw[hS];exact hk w d);rw[hU,hr]at this;exact this
theorem Bj {k:Wd->LW σ}(h:GE X G W S e r0)(hr:r0=r)(hk:∀ w,GL X G w S rest J (k w))(hs:swapsWith e none pos.line X.env=pure false:=by rfl):GL X G W S (.Expr e pos::rest) J (lwB r λw _=>k w):=by
 have:=iS (yk (s:=()) h ⟨(),rfl⟩ hs) (λw _ _=>hk w);rw[hU,hr]at this;exact this
theorem Bk (h:GE X G W S e r0)(hr:r0=r):GL X G W S [.Return (some e) pos] J (lwB r λw d=>.rt w d):=by subst hr;exact sU (uG h)
theorem DP {f:Str}{po:D}{k:Wd->LW σ}(bg:X.K=G.K)(hn:NoAttr X.K (G.C c) f)(hv:GE X G W S e r0)(hr:r0=r)(ho:∀ H0 Z0 W',Wk (G.at H0 Z0) W'->FE X (G.at H0 Z0) o go)(hS:go S=.ok po)(hk:∀ w,GL X G w S rest J (k w))
  (hs:swapsWith e (some (.Attribute o f Kn)) pos.line X.env=pure false:=by rfl):GL X G W S (.Assign [.Attribute o f Kn] e pos::rest) J (lwB r λw d=>wFld c w f po d k):=by
 have:=iS (A1 (s:=()) bg hn hv ho hS ⟨(),rfl⟩ hs) (λw _ _=>hk w);rw[hU,hr]at this;simp only[yz]at this;exact this
theorem Bl (i j:Nat){ga:KZ}{ra rb:R D}{S':D->D->SS}{k:D->D->LW σ}(h:KM G W λF=>FS X F st (sAsg (gTup [i,j]) (eTup (aL [ga,gb]))))(ha:ga S=ra)(hb:gb S=rb)(hS:∀ x y,(S.set i (some (.val x))).set j (some (.val y))=S' x y)
  (hk:∀ x y,GL X G W (S' x y) rest J (k x y)):GL X G W S (st::rest) J (lwR W ra λx=>lwR W rb λy=>k x y):=by
 have e:sAsg (gTup [i,j]) (eTup (aL [ga,gb])) S=rO ((ra.bind λx=>rb.bind λy=>R.ok (x,y)).bind λp=>.ok (.nx (S' p.1 p.2))):=by
  unfold sAsg eTup;show rO (((((ga S).bind λd=>((gb S).bind λd=>(R.ok []:R (List D)).bind λds=>R.ok (d::ds)).bind λds=>R.ok (d::ds)).bind λds=>if ds.length<=16777216 then R.ok (FF.D.tup ds) else .stuck)).bind λd=>(gTup [i,j] d S).bind λS1=>R.ok (O.nx S1))=_;rw[ha,hb];cases ra with
  | err k=>rfl
  | stuck=>rfl
  | ok x =>
   cases rb with
   | err k=>rfl
   | stuck=>rfl
   | ok y =>
    show _=O.nx (S' x y);rw[<- hS];rfl
 have:=pV (rest:=rest) (J:=J) (k:=λp:D×D=>k p.1 p.2) h e (λp=>hk p.1 p.2);cases ra with
 | err k=>exact this
 | stuck=>exact this
 | ok x=>cases rb<;>exact this
theorem yA {c:Expr}{A B:Wd->LW σ}(hc:GT X G W S c r0)(hr:r0=r)(ha:∀ w,GL X G w S sa J (A w))(hb:∀ w,GL X G w S sb J (B w)):GL X G W S [.If c sa sb pos] J (lwT r A B):=by subst hr;exact sU (yo hc ha hb)
theorem uQ {τ V':Type}{c:Expr}{inj:τ->V'->SS}{A B:Wd->LW τ}{k:Wd->τ->LW σ}(hc:GT X G W S c r0)(hr:r0=r)(ha:∀ w,GL X G w S sa (JX inj) (A w))(hb:∀ w,GL X G w S sb (JX inj) (B w))(hk:∀ w s x,GL X G w (inj s x) rest J (k w s)):GL X G W S (.If c sa sb pos::rest) J (lwS (lwT r A B) k):=by subst hr;exact iS (yo hc ha hb) hk
theorem hV {τ V':Type}{inj:τ->V'->SS}{l0 l:LW τ}{k:Wd->τ->LW σ}(hl:l0=l)(h:GL1 X G W S st (JX inj) l0)(hk:∀ w s x,GL X G w (inj s x) rest J (k w s)):GL X G W S (st::rest) J (lwS l k):=by subst hl;exact iS h hk
theorem pW:∀ {gs:List (KZ)} {S:SS} {ds:List D},aL gs S=.ok ds->ds.length=gs.length
 | [],S,ds,h=>by cases h;rfl
 | g::gs,S,ds,h=>ou (λS ds h=>pW h) S ds h
theorem dH {gs:List (KZ)}{ds:List D}(h:aL gs S=.ok ds)(hn:gs.length=n:=by rfl):ds.length=n:=(pW h).trans hn
theorem ay {gs:List (KZ)}{ds:List D}(h:aL gs S=.ok ds)(hn:gs.length+1=n:=by rfl):ds.length+1=n:=by rw[pW h];exact hn
end
structure MeRs (P:Program)(w:World)(K:Frag)(mg:KW)(base:Heap)(C:La)(k:Nat)(c:Nat)(m:Str)(ps:List Str)(f:KQ):Prop where
 ex:∃ a fd,FnOk P w K mg base (CXE P w) k a fd ps (spR K C ps.length f)/\Meth K (C c) m a/\Binds K fd ps []
 cls:Cls K (C c)
def eMe (c:Nat)(m:Str)(W:Wd)(f:KQ)(go:KZ)(gs:KY):KZ:=λS=>(go S).bind λo=>rM c m W o ((gs S).bind λds=>f W (o::ds))
section
variable {F:Fx}{o:Expr}{go:KZ}{gs:KY}{f:KQ}
theorem rz (bx:BX X F k)(wk:Wk F W)(h:MeRs X.prog X.w F.K X.mg X.base F.C k c m ps f)(ho:FE X F o go)(ha:FA X F (e::es) gs)(hn:∀ S ds,gs S=.ok ds->ds.length+1=ps.length)
  (K8:Id X e es:=by rfl) (hpl:IO X pos es:=by rfl)
  (ht:KL X o m IR (e::es) pos pl:=by rfl) :
  FE X F (.Call (.Attribute o m IR) (e::es) [] pos) (eMe c m W f go gs):=by
 obtain⟨a,fd,h1,h2,h3⟩:=h.ex;have hK:=bx.K;refine(ur ho (by rw[hK];exact h.cls) (by rw[hK];exact h2) (by rw[hK];exact h1) bx.room (by grind) .nil bx.pass ha K8 hpl ht).weak λρ H Q ⟨Z,S,ok,w⟩=>?_
 refine ak ok w λd v H1 Z1 ok1 x1 rv w1=>?_
 unfold rM at w1;cases d with
 | ptr p =>
  simp only at w1;cases ew:W p with
  | none=>rw[ew]at w1;exact w1.elim
  | some oc =>
   cases oc with
   | lst ds=>rw[ew]at w1;exact w1.elim
   | ins c' fs =>
    rw[ew]at w1;simp only at w1;by_cases ec:c'=c/\fs.lookup m=none
    ·rw[if_pos ec]at w1;obtain⟨rfl,hl⟩:=ec;obtain⟨dx,vs,e1,e2,cl,e3,rr⟩:=wk p _ ew;have rv':=rv;rw[Rep]at rv';refine⟨p,dx,vs,rv',ok1.ex.same _ _ e1,lc e3 hl,Z1,S,ok1,?_⟩;cases q:gs S with
     | err k=>rw[q]at w1;exact w1
     | stuck=>rw[q]at w1;exact w1
     | ok ds =>
      rw[q]at w1;intro H2 Z2 x2 us rs;have ok2:=ok1.more x2;have w2:=WG.more (r:=f W (.ptr p::ds)) w1 x2;refine⟨by rw[Gs,Gb,<- rs.length];exact hn S ds q,W,Z2,.ptr p::ds,ok2.sub,wk.mono ok2.ex.same ok2.ex.z,by rw[Gs];exact Reps.cons (rv.mono x2.z) rs,?_⟩;cases q2:f W (.ptr p::ds) with
      | ok z=>rw[q2]at w2;exact w2
      | err e=>rw[q2]at w2;exact w2
      | stuck=>rw[q2]at w2;exact w2
    ·rw[if_neg ec]at w1;exact w1.elim
 | _=>exact w1.elim
end
section
variable {x:Str}{f:KR}{p:Pos}
theorem rA (b:BG X G k)(h:MkW X.prog X.w G.K X.mg X.base G.C k c x ps f)(hn:ps.length=1)(hg:Gl X x)(K6:KH x:=by decide):GE X G W S (.Call (.Name x p) [] [] pos) (rwNew c W f []):=by
 obtain⟨a,fd,h1,h2,h3,h4⟩:=h.ex;have hK:=b.K;exact CA (gs:=λ_=>.ok []) h (λS ds e=>by cases e;exact hn.symm) ((xA (ds:=[]) (dvs:=[]) (E:=G.E) (by rw[hK];exact h2) (by rw[hK];exact h1) b.room hg h3 (by rw[hK];exact h4) .nil b.pass K6).weak λρ H Q ⟨HW,Z,ok,w⟩=>w H Z (Ex.refl ok.zh) [] Reps.nil)
end
def wApp (W:Wd)(o:D)(k:R (List D)):RW:=match o with
 | .ptr a=>match W a with
  | some (.lst xs)=>rwA W k λds=>match ds with
   | [d]=>if xs.length < 16777216 then .ok (wput W a (.lst (xs++[d]))) .non else .stuck
   | _=>.stuck
  | _=>.stuck
 | _=>.stuck
section
variable {go:KZ}{gs:KY}
end
def OkRs (P:Program)(w:World)(K:Frag)(mg:KW)(base:Heap)(C:La)(k:Nat)(x qual:Str)(st:Stmt)(ps:List Str)(fn:KQ):Prop :=
 ∀ {f:Addr} {fd:FuncData},Fun K x qual st f fd->FnOk P w K mg base (CXE P w) (k+1) f fd ps (spR K C ps.length fn)
def OkRBm (P:Program)(w:World)(K:Frag)(mg:KW)(base:Heap)(C:La)(k:Nat)(N:List Str)(qual:Str)(st:Stmt)(W:Wd)(ds:List D)(l:L Unit):Prop :=
 ∀ {f:Addr} {J4:Value} {A:Around} {outer:List Env} {s:Shared} {H Z:Hp} {E:XK},(λ(X:Cx) (F:Fx)=>BX X F k->Wk F W->PassesOwn (model P w) X.A X.env X.xe->MadeX X F->FL X F (startS N.length ds) (defBody st) JU l) (bodyX P w K mg base N qual (defScope st) f J4 A outer s H E) ⟨K,C,H,Z,E⟩
def r2 (k:Wd->D->Lj):KQ
 | W,[a,b]=>outL (k W a b)
 | _,_=>.stuck
def r3 (k:Wd->D->D->Lj):KQ
 | W,[a,b,c]=>outL (k W a b c)
 | _,_=>.stuck
section
variable {x:Str}
theorem okrs {fn:KQ}(S:FnScope N ps (defScope st))(h:∀ W ds,ds.length=ps.length->∃ l,fn W ds=outL l/\OkRBm P w K mg base C k N qual st W ds l):OkRs P w K mg base C k x qual st ps fn:=λ{f fd} F=>by
 obtain⟨oc,od,kV,doc,pm,an,J4,ct,osl,rfl,lk,Ks⟩:=F.ex;refine oq lk Ks S (λvs H Q E q=>q.1) λA outer s H vs Q E hr hsp=>?_
 obtain⟨hl,W,Z,ds,z,wd,r,wr⟩:=hsp;obtain⟨l,e,o⟩:=h W ds (by rw[r.length];exact hl);refine⟨_,@o _ J4 A outer s H Z E ⟨hr,rfl,rfl,b0⟩ wd Hw (λam σ H1 s1 h1 ea C1 args I hx hE=>eV I hx hE),Z,cC z r,?_⟩;rw[e]at wr;cases l with
 | nx u=>exact λS' ρ' H' Z' _ _ ok=>wr H' Z' ok.ex .non (by rw[Rep])
 | rt d=>exact λv H' Z' x rv=>wr H' Z' x v rv
 | er k=>exact wr
 | stuck=>exact wr
theorem okrs2 {c:Wd->D->Lj}(S:FnScope N [p,q] (defScope st))(h:∀ W a b,OkRBm P w K mg base C k N qual st W [a,b] (c W a b)):OkRs P w K mg base C k x qual st [p,q] (r2 c):=okrs S λW ds hl=>by obtain⟨a,b,rfl⟩:=len2 hl;exact⟨c W a b,rfl,h W a b⟩
variable {fr:KQ}
theorem es0 (F:Md K C c m qual ps st)(cl:Cls K (C c)):MeRs P w K mg base C 0 c m ps (λ_ _=>.stuck):=by obtain⟨a,fd,F,h,b⟩:=F.ex;exact⟨⟨a,fd,oN,h,b⟩,cl⟩
theorem es1 (F:Md K C c m qual ps st)(cl:Cls K (C c))(ok:OkRs P w K mg base C k m qual st ps fr):MeRs P w K mg base C (k+1) c m ps fr:=by obtain⟨a,fd,F,h,b⟩:=F.ex;exact⟨⟨a,fd,ok F,h,b⟩,cl⟩
end
section
variable {r:RW}{gb:KZ}
end
def lamX (P:Program)(w:World)(K:Frag)(mg:KW)(base:Heap)(N:List Str)(qual:Str)(scope:Scope)(f:Addr)(cd:Value)(cl:List (Str×Addr))(A:Around)(outer:List Env)(s:Shared)(H:Hp)(E:XK):Cx where
 prog:=P
 w:=w
 K:=K
 mg:=mg
 base:=base
 A:=A.deeper (envX qual scope s.heap.objs.size f cd cl)
 N:=N
 s₀:=s
 H₀:=H
 env:=envX qual scope s.heap.objs.size f cd cl
 outer:=outer
 stack:=envX qual scope s.heap.objs.size f cd cl::outer
 ex:=[]
 calm:=true
 fn:=λ_=>false
 pn:=[]
 xe:=λe s'=>wpAny (model P w) (A.deeper (envX qual scope s.heap.objs.size f cd cl)) (leaving (envX qual scope s.heap.objs.size f cd cl) e) (λ_ s''=>CXE P w outer H s E e s'') (λe' s''=>CXE P w outer H s E e' s'') s'
section
variable {scope:Scope}{cd:Value}{cl:List (Str×Addr)}{outer:List Env}{s0:Shared}{E:XK}
theorem yB {H':Hp}{s':Shared}{B h2:Heap}{ea C t:Addr}(J:Inv (lamX P w K mg base N qual scope f cd cl A outer s0 H0 E) am σ H' s')
  (cov:Cov B s0.heap s'.heap H' (envX qual scope s0.heap.objs.size f cd cl::outer)) (up:s'.heap.UpToSlots h2) (fl:Heap.FlyingW B outer ea (.ref C) (.ref t) h2) (hn:H' ea=none) (hE:E (.ref C) none H') :
  CXE P w outer H0 s0 E (.ref ea) { s' with heap:=h2 }:=by
 have hB:=fl.1;have nloc:∀ b o,s0.heap.get? b=some o->b≠s0.heap.objs.size:=λb o e=>Gf (F8 e)
 have KC:∀ b,b≠s0.heap.objs.size->b∉frs outer->b∉frs (envX qual scope s0.heap.objs.size f cd cl::outer):=λb h1 h2 z=>(Gi.mp (J.stkSub b z)).elim h1 h2
 have trk:=λb o e ht=>cov b o e (.inl ht) λz=>ht (J.stkFree b z)
 have noe:∀ b:Addr,b∉([]:List Addr):=λ_ z=>nomatch z
 have nf:∀ b∈frs outer,∀ o,s'.heap.get? b=some o->∀ vs,o.data≠.fields vs:=λb hb o e=>by
  obtain⟨_,o',e',d⟩:=J.funs.mem hb
  grind
 have thr:∀ b o,s0.heap.get? b=some o->∃ o',s'.heap.get? b=some o'/\(b∉frs outer->B.get? b=some o'):=λb o e=>by
  obtain⟨o',e1⟩:=J.base.there b o e (noe b);exact⟨o',e1,λhb=>cov b o' e1 (.inr ⟨o,e⟩) (KC b (nloc b o e) hb)⟩
 refine⟨ea,C,t,H',B,rfl,J.os,J.bare,⟨λb o e n hb hx=>?_,λb o e n hb hx=>?_,J.base.free,λb o e hx=>?_,J.base.tups,J.base.frzs,J.base.tbls⟩,λb u e=>?_,fl,hn,λb o e hc hb=>?_,hE⟩
 ·have e1:=J.base.keep b o e n hb hx;exact hB b o (cov b o e1 (.inr ⟨o,e⟩) (KC b (nloc b o e) hb))
 ·obtain⟨sl,e1⟩:=J.base.slot b o e n hb hx;obtain⟨sl',e2⟩:=up b _ e1 (nf b hb _ e1);exact⟨sl',e2⟩
 ·obtain⟨o',e1,e2⟩:=thr b o e;by_cases hb:b∈frs outer
  ·obtain⟨sl',e3⟩:=up b _ e1 (nf b hb _ e1);exact⟨_,e3⟩
  ·exact⟨o',hB b o' (e2 hb)⟩
 ·refine(J.hok b u e).stay (λc v hc q=>hB c v (trk c v q ?_)) (λ_ q=>q) λ_ _ q=>q
  grind
 ·have same:∀ o',s'.heap.get? b=some o'->B.get? b=some o'->B.get? b=some o:=λo' _ q=>by
   have:=hB b o' q
   grind
  rcases hc with z | ⟨o',z⟩
  ·cases q:H' b with
   | none=>exact absurd q z
   | some u =>
    obtain⟨o',e1⟩:=objThere (J.hok b u q)
    grind
  ·grind
theorem yC:Passes (CXE P w) (lamX P w K mg base N qual scope f cd cl A outer s0 H0 E) E:=by
 intro am σ H s e s' I h;obtain⟨ea,C,t,H',B,rfl,os,bare,un,hok,fl,hn,cov,hE⟩:=h;have J:=I.call' os un hok bare λb z=>nomatch z
 refine wpAny_leaves_onW I.ok.frames rfl fl λh2 fl2 up=>?_
 refine yB J (λb o e hc hb=>cov b o e ?_ hb) up fl2 hn hE;rcases hc with z | ⟨o',z⟩
 ·exact .inl z
 ·obtain⟨o'',z'⟩:=I.base.there b o' z (λq=>nomatch q);exact .inr ⟨o'',z'⟩
end
end FF
namespace L2
open PySem PySem.Spec PyProof.Rows
variable {A:Around}{k:Nat}{CX:CXT}{P:Program}{w:World}{K:Frag}{mg:KW}{base:Heap}{f:Addr}{qual name:Str}{scope:Scope}{N ps:List Str}{outer:List Env}{s:Shared}{H:Hp}{us:List Value}{vs:List V}{E:XK}{params:Arguments}{body:Lo}{dV doc pm J4 ct oc:Value}{od:Option Addr}{osl:Array (Lm)}{args:Args}
structure RoomH (k:Nat)(A:Around):Prop where
 dp:A.depth+3*k+3 < recursionLimit
 un:A.units+16*k+190 < cLine
theorem RoomH.deeper (r:RoomH (k+1) A)(env:Env):RoomH k (A.deeper env) :=
 ⟨by have:=r.dp;show A.depth+1+3*k+3 < _;omega,by have:=r.un;show A.units+3+16*k+190 < _;omega⟩
theorem RoomH.depth (r:RoomH k A):A.depth < recursionLimit:=by have:=r.dp;omega
def cxOfH (CX:CXT)(P:Program)(w:World)(K:Frag)(mg:KW)(base:Heap)(N:List Str)(qual:Str)(scope:Scope)(f:Addr)(cd:Value)(A:Around)(outer:List Env)(s:Shared)(H:Hp)(E:XK):Cx :=
 { cxOf CX P w K mg base N qual scope f cd A outer s H E with calm:=false }
theorem ER {kV:Value}{an:Option Addr}
           {Q:VK}  {t:TS} (lk:K.lookup f=some ⟨oc,od,.func (fnOf name qual params body scope dV kV doc pm an J4 ct),osl⟩) (Ks:codeIn K J4 qual=true) (S:FnScope N ps scope)
  (hl:vs.length=ps.length) (hr:RoomW (k+1) A) (e0:Env0 P w K mg base A outer s H) (hb:BindsTo s (fnOf name qual params body scope dV kV doc pm an J4 ct) args (ps.zip us)) (r:Vals vs us)
  (ht:PSs (cxOf CX P w K mg base N qual scope f J4 A outer s H E) body t) (hq:t { nx:=λ_ H'=>Q .non H',rt:=Q } (start N vs) H) :
  codeAny (model P w) A (.call (.ref f) args) (CR CX outer P w H s Q E) s:=by
 have KX:K.In s.heap:=e0.mod.kin.keeps λb o e=>(e0.bs b o e).1
 have lim:=e0.mod.nolimit.keeps λb o e=>(e0.bs b o e).1
 have hkind:∀ y∈ps.zip us,scope.names.lookup y.1=some .local\/(scope.names.lookup y.1=some .cell/\((cellsFrom (s.heap.objs.size+1) scope.names []).lookup y.1).isSome=true):=λ⟨n,v⟩ hy=>by
  rcases S.par n (HV hy).1 with q | q
  ·exact .inl q
  ·exact .inr ⟨q,cellsFrom_some _ _ _ (.inl q)⟩
 refine Iy hr.depth (KX _ _ lk) rfl S.co S.gen rfl (codeRec_of KX Ks) (hb _ _ _ _ ?_);refine HP S.kind hkind λenv he s1 x=>?_
 subst he;refine⟨lim.keeps x.toInCall.keep,Kf ?_⟩;have I:Inv (cxOf CX P w K mg base N qual scope f J4 A outer s H E) [] (start N vs) H s1:=oo S hr.hd e0 hl r x;refine GN (ht [] s1 (start N vs) H _ I hq) (λfl s' hs=>?_) λe s' hs=>hs
 have fin:∀ {σ':St} {H':Hp} {v:V} {u:Value},Inv (cxOf CX P w K mg base N qual scope f J4 A outer s H E) [] σ' H' s'->RelV v u->Q v H'->CE outer P w H s Q u s' :=
  λ{σ' H' v u} J rv q=>⟨v,H',J.os,J.bare,J.base,J.hok,rv,q⟩
 cases fl with
 | ret u =>
  obtain⟨v,σ',H',J,rv,q⟩:=hs;exact fin J rv q
 | next =>
  obtain⟨σ',H',J,q⟩:=hs;exact fin (v:=V.non) J rfl q
 | brk =>
  obtain⟨_,_,_,q⟩:=hs;exact False.elim q
 | cont =>
  obtain⟨_,_,_,q⟩:=hs;exact False.elim q
theorem tm {cd:Value}{s1:Shared}
  (S:FnScope N ps scope) (e0:Env0 P w K mg base A outer s H) (hl:vs.length=ps.length) (r:Vals vs us)
  (x:InCallC s s.heap.objs.size (bindL (envOfC qual scope s.heap.objs.size f cd).kindOf (ps.zip us) λ_=>none) (cellsFrom (s.heap.objs.size+1) scope.names []) (bindC (envOfC qual scope s.heap.objs.size f cd).kindOf (ps.zip us) λ_=>none) s1) :
  Inv (cxOfH CX P w K mg base N qual scope f cd A outer s H E) [] (start N vs) H s1:=by
 have hpl:ps.length<=N.length:=by have:=GA List.length S.pre;rw[HM]at this;omega
 obtain⟨h1,tk,rfl,hk⟩:=x.done;have noA:∀ b:Addr,b∉(cxOfH CX P w K mg base N qual scope f cd A outer s H E).ex:=λb z=>absurd (show b∈([]:List Addr) from z) (by simp)
 refine⟨⟨e0.mod,S.kind,rfl,rfl,F7 _,λy z c h1 h2=>?_,λy hy=>?_,λy c _ h=>?_,(λz=>nomatch z),ID e0.frames,.inr ⟨rfl,rfl⟩,λb z=>absurd z (noA b),e0.bs,e0.bsz,λb _ _=>noA b,λb z=>absurd z (noA b),e0.funs,e0.frf⟩,
  rfl,e0.bare,Un.kept hk,⟨_,x.toInCall.ns,λi y v h1 h2 h3=>?_⟩,λy c h=>⟨_,x.cell y c h⟩,e0.hok.fresh (F7 _),λy c h=>?_,λp hp=>absurd (show p∈([]:Ll) from hp) (by simp),e0.hok.kept hk,?_⟩
 ·exact Ke x.apart (Gp h1) (Gp h2)
 ·have hy:=hy;rcases hy with hy | hy
  ·exact i5 hy
  ·exact absurd rfl (S.nofree _ (Gp hy))
 ·exact Hn (x.above y c (Gp h))
 ·have hi:i < vs.length:=by
   unfold start at h2;by_cases hi:i < vs.length
   ·exact hi
   ·rw[GH (by simpa using hi)]at h2;rw[HC]at h2;split at h2<;>cases h2
  have ha:vs[i]?=some v:=by
   unfold start at h2;rw[GJ (by simpa using hi),Gu]at h2;cases e:vs[i]? with
   | none=>rw[e]at h2;cases h2
   | some a=>rw[e]at h2;cases h2;rfl
  obtain⟨u,hu,rv⟩:=r.get ha;have hp:ps[i]?=some y:=by
   rw[<- S.pre,Jp (by omega)];exact h1
  have ndP:ps.Nodup:=by rw[<- S.pre];exact S.nd.sublist (List.take_sublist _ _)
  refine⟨u,rv,?_⟩;rcases S.par y (Hx hp) with k | k
  ·exact .inl ⟨k,jR ndP hp hu k⟩
  ·obtain⟨c,e⟩:=i5 k;refine .inr ⟨.inl k,c,e,?_⟩;have q:=x.cell y c e;rw[jS ndP hp hu (by show scope.names.lookup y≠_;rw[k];decide)]at q;exact q
 ·exact e0.hok.fresh (Hn (x.above y c (Gp h)))
 ·unfold start;show _=N.length;rw[G1,Gg,Hf];omega
theorem DQ {kV:Value}{an:Option Addr}
           {Q:VK}  {t:TS} (lk:K.lookup f=some ⟨oc,od,.func (fnOf name qual params body scope dV kV doc pm an J4 ct),osl⟩) (Ks:codeIn K J4 qual=true) (S:FnScope N ps scope)
  (hl:vs.length=ps.length) (hr:RoomH (k+1) A) (e0:Env0 P w K mg base A outer s H) (hb:BindsTo s (fnOf name qual params body scope dV kV doc pm an J4 ct) args (ps.zip us)) (r:Vals vs us)
  (ht:PSs (cxOfH CX P w K mg base N qual scope f J4 A outer s H E) body t) (hq:t { nx:=λ_ H'=>Q .non H',rt:=Q } (start N vs) H) :
  codeAny (model P w) A (.call (.ref f) args) (CR CX outer P w H s Q E) s:=by
 have KX:K.In s.heap:=e0.mod.kin.keeps λb o e=>(e0.bs b o e).1
 have lim:=e0.mod.nolimit.keeps λb o e=>(e0.bs b o e).1
 have hkind:∀ y∈ps.zip us,scope.names.lookup y.1=some .local\/(scope.names.lookup y.1=some .cell/\((cellsFrom (s.heap.objs.size+1) scope.names []).lookup y.1).isSome=true):=λ⟨n,v⟩ hy=>by
  rcases S.par n (HV hy).1 with q | q
  ·exact .inl q
  ·exact .inr ⟨q,cellsFrom_some _ _ _ (.inl q)⟩
 refine Iy hr.depth (KX _ _ lk) rfl S.co S.gen rfl (codeRec_of KX Ks) (hb _ _ _ _ ?_);refine HP S.kind hkind λenv he s1 x=>?_
 subst he;refine⟨lim.keeps x.toInCall.keep,Kf ?_⟩;have I:Inv (cxOfH CX P w K mg base N qual scope f J4 A outer s H E) [] (start N vs) H s1:=tm S e0 hl r x;refine GN (ht [] s1 (start N vs) H _ I hq) (λfl s' hs=>?_) λe s' hs=>hs
 have fin:∀ {σ':St} {H':Hp} {v:V} {u:Value},Inv (cxOfH CX P w K mg base N qual scope f J4 A outer s H E) [] σ' H' s'->RelV v u->Q v H'->CE outer P w H s Q u s' :=
  λ{σ' H' v u} J rv q=>⟨v,H',J.os,J.bare,J.base,J.hok,rv,q⟩
 cases fl with
 | ret u =>
  obtain⟨v,σ',H',J,rv,q⟩:=hs;exact fin J rv q
 | next =>
  obtain⟨σ',H',J,q⟩:=hs;exact fin (v:=V.non) J rfl q
 | brk =>
  obtain⟨_,_,_,q⟩:=hs;exact False.elim q
 | cont =>
  obtain⟨_,_,_,q⟩:=hs;exact False.elim q
end L2
end
noncomputable section
namespace FF
open PySem PySem.Spec PyProof.Rows L2
variable {k j:Nat}{X:Cx}{pos p Kv IR IY np np2 cp rp hpos:Pos}{x y qual cl yp:Str}{K:Frag}{H Z:Hp}{N fr:List Str}{G:Gx}{C:La}{a f c C0:Addr}{P:Program}{mg:KW}{base h0:Heap}{W:Wd}{S:SS}{am:Ll}{s:Shared}{params:Arguments}{scope:Scope}{body e:Expr}{vs:List V}{cells clos:List (Str×Addr)}{st:Stmt}{A:Around}{fh:KS}{q:Nat->Bool}
structure Lam (h:Heap)(H:Hp)(qual:Str)(params:Arguments)(scope:Scope)(body:Expr)(N:List Str)(f:Addr)(vs:List V):Prop where
 ex:∃ pm c Ky cl oc ws t,H f=some (.frz (kla_obj "<lambda>" qual params body scope cl pm c Ky) (.own 0))/\H c=some (.frz oc (.own 0))/\oc.data=.fields ws/\ws[1]?=some (.str qual t) /\
  (∀ x y a,cl.lookup x=some a->cl.lookup y=some a->x=y)/\(∀ x a,cl.lookup x=some a->(∃ v,h.IsCell a v)/\H a=none) /\
  (∀ x,scope.names.lookup x=some .free->∃ a,cl.lookup x=some a) /\
  (∀ (i:Nat) (x:Str) (v:V),N[i]?=some x->vs[i]?=some v->scope.names.lookup x=some .free/\∃ u a,RelV v u/\cl.lookup x=some a/\h.IsCell a (some u))
section
variable {σ:St}
theorem rB {H0:Hp}{h:Heap}{fs:List Addr}{v:Lm}(u:Un fs [] H0 H h0 h)(n:H0 a=none)(c:h0.IsCell a v):h.IsCell a v:=by
 obtain⟨o,e,d⟩:=c;obtain⟨sl,e2⟩:=u.any e n (by simp);exact⟨_,e2,d⟩
theorem Lam.later {H0:Hp}{h:Heap}{fs:List Addr}(L:Lam h0 H0 qual params scope body N f vs)(u:Un fs [] H0 H h0 h):Lam h H qual params scope body N f vs:=by
 obtain⟨pm,c,Ky,cl,oc,ws,t,e1,e2,e3,e4,e5,e6,e7,e8⟩:=L.ex;refine⟨pm,c,Ky,cl,oc,ws,t,u.frzs _ _ _ e1,u.frzs _ _ _ e2,e3,e4,e5,λx a q=>?_,e7,λi x v q1 q2=>?_⟩
 ·obtain⟨⟨v,k⟩,n⟩:=e6 x a q;obtain⟨o,ho,_⟩:=id k;exact⟨⟨v,rB u n k⟩,u.free a o ho n (by simp)⟩
 ·obtain⟨k,w,a,r,q,z⟩:=e8 i x v q1 q2;exact⟨k,w,a,r,q,rB u (e6 x a q).2 z⟩
theorem oO (h:vs.length=N.length):L2.start N vs=vs.map some:=by
 unfold L2.start
 simp_all
theorem Bm {w:World}{cd:Value}{cl:List (Str×Addr)}{outer:List Env}{E:XK}{h1:Heap}{tk:Nat}{m:KW}
  (hd:A.handled=none) (e0:Env0 P w K mg base A outer s H) (sk:scope.kind=.function) (snc:∀ x∈scope.names,x.2≠.cell) (hvl:vs.length=N.length) (hns:h1.Ns s.heap.objs.size m) (hk:∀ b o,s.heap.get? b=some o->h1.get? b=some o)
  (e5:∀ x y a,cl.lookup x=some a->cl.lookup y=some a->x=y) (e6:∀ x a,cl.lookup x=some a->(∃ v,s.heap.IsCell a v)/\H a=none) (e7:∀ x,scope.names.lookup x=some .free->∃ a,cl.lookup x=some a)
  (e8:∀ (i:Nat) (x:Str) (v:V),N[i]?=some x->vs[i]?=some v->scope.names.lookup x=some .free/\∃ u a,RelV v u/\cl.lookup x=some a/\s.heap.IsCell a (some u)) :
  Inv (lamX P w K mg base N qual scope f cd cl A outer s H E) [] (L2.start N vs) H { s with heap:=h1,toks:=tk }:=by
 have ck:∀ {a:Addr} {v:Lm},s.heap.IsCell a v->h1.IsCell a v:=λ⟨o,e,d⟩=>⟨o,hk _ _ e,d⟩
 have noA:∀ b:Addr,b∉(lamX P w K mg base N qual scope f cd cl A outer s H E).ex:=λb z=>absurd (show b∈([]:List Addr) from z) (by simp)
 refine⟨⟨e0.mod,sk,rfl,rfl,F7 _,e5,λy hy=>?_,λy c hf _=>absurd (show false=true from hf) Gv,λ_=>hd,ID e0.frames,.inr ⟨rfl,rfl⟩,λb z=>absurd z (noA b),e0.bs,e0.bsz,λb _ _=>noA b,λb z=>absurd z (noA b),e0.funs,e0.frf⟩,
  rfl,e0.bare,Un.kept hk,⟨m,hns,λi y v h1 h2 h3=>?_⟩,λy c h=>?_,e0.hok.fresh (F7 _),λy c h=>(e6 y c h).2,λp hp=>absurd (show p∈([]:Ll) from hp) (by simp),e0.hok.kept hk,?_⟩
 ·have hy:=hy;rcases hy with hy | hy
  ·exact absurd rfl (snc _ (Gp hy))
  ·exact e7 y hy
 ·rw[oO hvl,Gu]at h2;cases q:vs[i]? with
  | none=>rw[q]at h2;cases h2
  | some v' =>
   rw[q]at h2;cases h2;obtain⟨k,u,a,r,q2,z⟩:=e8 i y v h1 q;exact⟨u,r,.inr ⟨.inr k,a,q2,ck z⟩⟩
 ·obtain⟨⟨v,z⟩,_⟩:=e6 y c h;exact⟨v,ck z⟩
 ·show (L2.start N vs).length=N.length;rw[oO hvl,Gg,hvl]
theorem Bn {E:XK}{Q:VK}(I:Inv X am σ H s)(hc:X.calm=true)(L:Lam s.heap H qual params scope body N f vs)(hr:Room (k+1) X.A)(hx:Passes (CXE X.prog X.w) X E)
  (sk:scope.kind=.function) (sco:scope.isCoroutine=false) (sgen:scope.isGenerator=false) (snc:∀ x∈scope.names,x.2≠.cell) (hvl:vs.length=N.length)
  (hbind:∀ cl pm c Ky,bindArgs (kla_fn "<lambda>" qual params body scope cl pm c Ky) ⟨[],[]⟩=pure [])
  (hb:∀ cd cl,Room k (X.A.deeper (envX qual scope s.heap.objs.size f cd cl))->∃ t,PE (lamX X.prog X.w X.K X.mg X.base N qual scope f cd cl X.A X.stack s H E) body t/\t (L2.start N vs) H Q) :
  wpAny (model X.prog X.w) X.A (call (.ref f) []) (EP X am σ Q) X.xe s:=by
 obtain⟨pm,c,Ky,cl,oc,ws,tq,e1,e2,e3,e4,e5,e6,e7,e8⟩:=L.ex;have ho:=(I.hok f _ e1).1;have hoc:=(I.hok c _ e2).1;refine Jj (HJ (R:=CR (CXE X.prog X.w) X.stack X.prog X.w H s Q E) ?_ λr s' hq=>?_)
 ·refine PySem.W.kla_callFunE (by have:=hr.dp;omega) ho rfl sco sgen rfl ⟨c,oc,ws,tq,rfl,hoc,e3,e4⟩ ?_;rw[hbind];refine F6 (wpAny_newFunctionEnv snc (λx hx=>nomatch hx) (λh₁ hns hsb=>?_) sk);have hk₁:=λb o e=>hsb.extBut b o (Gf (F8 e)) (F4 _ e)
  refine⟨I.nolimit.keeps hk₁,?_⟩;obtain⟨t,hp,ht⟩:=hb (.ref c) cl (hr.deeper _);have I₁:Inv (lamX X.prog X.w X.K X.mg X.base N qual scope f (.ref c) cl X.A X.stack s H E) [] (L2.start N vs) H { s with heap:=h₁,toks:=s.toks+([]:List (Str×Value)).length } :=
   Bm (I.ok.hd hc) I.env0 sk snc hvl hns hk₁ e5 e6 e7 e8
  refine PySem.W.kla_codeExpr (GN (hp [] _ _ _ _ I₁ ht) (λv s' hv=>?_) λe s' he=>he);obtain⟨v',H',J,rv,q⟩:=hv;exact⟨v',H',J.os,J.bare,J.base,J.hok,rv,q⟩
 ·cases r with
  | error e=>exact hx am σ H s e s' I hq
  | ok fl =>
   cases fl with
   | ret u=>exact I.after hq
   | next=>exact False.elim hq
   | brk=>exact False.elim hq
   | cont=>exact False.elim hq
theorem tz {E:XK}{i:Nat}{T:St->Ld}(hc:X.calm=true)(hr:Room (k+1) X.A)(hx:Passes (CXE X.prog X.w) X E)
  (sk:scope.kind=.function) (sco:scope.isCoroutine=false) (sgen:scope.isGenerator=false) (snc:∀ x∈scope.names,x.2≠.cell) (hvl:vs.length=N.length)
  (hbind:∀ cl pm c Ky,bindArgs (kla_fn "<lambda>" qual params body scope cl pm c Ky) ⟨[],[]⟩=pure []) (hN:X.N[i]?=some x) (hv:Vis X.env.scope x)
  (hL:∀ am σ H s,Inv X am σ H s->Lam s.heap H qual params scope body N f vs)
  (hT:∀ σ H Q,T σ H Q->σ[i]?=some (some (.ref f)))
  (hb:∀ am σ H s Q,Inv X am σ H s->T σ H Q->∀ cd cl,Room k (X.A.deeper (envX qual scope s.heap.objs.size f cd cl))->∃ t,PE (lamX X.prog X.w X.K X.mg X.base N qual scope f cd cl X.A X.stack s H E) body t/\t (L2.start N vs) H Q)
  (hd:KH x:=by decide) (Ks:KK x:=by decide):PE X (.Call (.Name x p) [] [] pos) T:=by
 intro am s σ H Q I h;refine G4 ?_;refine thn (f8 hN hv hd Ks am s σ H (λv H'=>v=.ref f/\H'=H) I ⟨.ref f,hT _ _ _ h,rfl,rfl⟩) λu s1 ⟨v,H1,I1,r,e1,e2⟩=>?_
 subst e1 e2;cases r;obtain⟨pm,c,Ky,cl,oc,ws,tq,e1,_⟩:=(hL am σ H1 s1 I1).ex;refine PySem.W.callWith_F0 ⟨_,_,_,_,(I1.hok f _ e1).1⟩ ?_;exact Bn I1 hc (hL am σ H1 s1 I1) hr hx sk sco sgen snc hvl hbind (hb am σ H1 s1 Q I1 h)
end
def CodeK (K:Frag)(c P:Addr):Prop :=
 ∃ o vs file tf flags tg inF text tt,K.lookup c=some o/\o.cls=.type "code" /\ o.data=.fields vs/\vs[11]?=some (.ref P)/\vs.getD 11 .none=.ref P/\vs.getD 18 .none=.str file tf /\
  vs.getD 7 .none=.int flags tg/\vs.getD 9 .none=.bool inF/\vs.getD 10 .none=.int text tt/\c≠P
theorem CodeK.hd {P:Addr}{h:Heap}(x:CodeK K c P)(k:K.In h):PySem.W.CodeHd h c P :=
 let ⟨o,vs,file,tf,flags,tg,inF,text,tt,e,r⟩:=x;⟨o,vs,file,tf,flags,tg,inF,text,tt,k _ _ e,r⟩
def BMn (mg:KW)(base:Heap):Prop:=∃ bm ob,mg "__builtins__"=some (.ref bm)/\bm≠builtinsNs/\base.get? bm=some ob/\ob.cls=.type "module" /\ ob.dict=some builtinsNs/\ob.data=.plain
structure LamX (X:Cx)(K:Frag)(C:La)(i:Nat):Prop where
 lt:i < C 900
 q:qOf K (C (902+2*i))=X.env.qual ++ "<lambda>"
 cd:∃ c,X.env.code=.ref c/\CodeK K c (C (901+2*i))
 bm:BMn X.mg X.base
 inj:∀ j,j < C 900->C (901+2*j)=C (901+2*i)->j=i
theorem ww (m:List Value)(l:List Value)(h:TriplesOk l):codeAmong pos (l++m)=(codeAmong pos l).or (codeAmong pos m):=by
 fun_induction TriplesOk l with
 | case1=>simp[codeAmong]
 | case2 a t b u x rest ih =>
  simp only[Jw,codeAmong]
  grind
 | case3 l h1 h2=>exact h.elim
section
variable {HW:Hp}{ρ:St}
theorem DR {Q:KU}(i:Nat)(I:Inv X am ρ H s)(ok:GOk G W HW Z H S ρ)(hK:X.K=G.K)(lx:LamX X G.K G.C i)(hcl:closureFor scope X.env=pure clos)(hdef:defaultsOf params X.env=([],[]))
  (h:∀ f c Ky oc ws t pm s1 H1 Kp,Inv X am ρ H1 s1->GX HW Z H Kp Z H1->WdOk G.K G.C Kp Z W->H1 f=some (.frz (kla_obj "<lambda>" (X.env.qual ++ "<lambda>") params body scope clos pm c Ky) (.own 0)) ->
   H1 c=some (.frz oc (.own 0))->oc.data=.fields ws->ws[1]?=some (.str (X.env.qual ++ "<lambda>") t)->Q (.ref f) s1) :
  wpAny (model X.prog X.w) X.A (eval (.Lambda params body scope Kv) X.env) Q X.xe s:=by
 obtain⟨c,hcode,ck⟩:=lx.cd;obtain⟨ps,hP,tp,hits⟩:=ok.wd.tb i lx.lt;rw[lx.q]at hits;have tbo:=ok.wd.tb;have q0:=lx.q;generalize hPe:G.C (901+2*i)=P at hP ck;have hP':=ok.wh _ _ hP;have heP:=I.hok P _ hP';have CH:=ck.hd (hK ▸ I.kIn);have hg:=I.ok.mod.glob.keeps I.bk;have hbs:∀ b o,X.base.get? b=some o->b≠P:=λb o e z=>by
  have:=(I.bs b o e).2;rw[z,hP']at this;cases this
 have hgP:mainGlobals≠P:=by obtain⟨o,es,ep,e,_⟩:=I.ok.mod.glob;exact hbs _ _ e
 obtain⟨bm,ob,b1,b2,b3,b4,b5,b6⟩:=lx.bm;have hbG:bm≠mainGlobals:=λq=>by
  obtain⟨o,es,ep,e,hd,_⟩:=I.ok.mod.glob;rw[q,e]at b3;cases b3;rw[hd]at b6;cases b6
 have hb:s.heap.BuiltinsAt X.mg P:=⟨bm,ob,b1,b2,hbG,hbs _ _ b3,I.bk _ _ b3,b4,b5,b6⟩;refine PySem.W.kla_eval hdef ?_;cases hq:codeAmong Kv ps.toList with
 | some cv =>
  obtain⟨c',oc,ws,t,rfl,hc',d1,d2⟩:=hits Kv cv hq;refine PySem.W.kla_makeFunctionHit hcl I.ok.glob hg hcode CH heP tp hq hb λKy h' tk hk K2=>?_
  have hf:=I.hok.fresh K2;have hcH:=ok.wh _ _ hc';refine h _ c' Ky oc ws t _ _ _ HW (I.laid (o:=.frz (kla_obj "<lambda>" (X.env.qual ++ "<lambda>") params body scope clos ((X.mg "__name__").getD .none) c' Ky) (.own 0)) (λb u e=>F4 _ (hk b u e)) K2 ⟨Ge _ rfl,⟨_,Ge _ rfl⟩⟩) ?_ ok.wd ah ?_ d1 d2
  ·exact ok.ex ⟨λb u e=>by rw[ae (aE e hf)];exact e,Same.refl _,λb u e=>by have e1:=ok.zh b u e;rw[ae (aE e1 hf)];exact e1,λ_ q=>.inl q⟩
  ·rw[ae (aE hcH hf)];exact hcH
 | none =>
  refine PySem.W.kla_makeFunction hcl I.ok.glob hg hcode CH heP tp hq hgP hb λc' Ky h' tk hx hge K4 hrec htb=>?_
  obtain⟨c2,oc,ws,t,ec,hoc,d1,d2⟩:=hrec;cases ec;have hszf:=GF hge (Hn K4);have hc0:H c'=none:=I.hok.fresh hge;have hf0:=I.hok.fresh hszf;have ncf:=Gf K4;have ncP:P≠c':=aE hP' hc0;have nfP:=aE hP' hf0
  let fo:HO:=.frz (kla_obj "<lambda>" (X.env.qual ++ "<lambda>") params body scope clos ((X.mg "__name__").getD .none) c' Ky) (.own 0)
  let H1:Hp:=upd (upd (upd H P (.tbl (ps++#[rawInt Kv.line,rawInt Kv.col,.ref c']))) c' (.frz oc (.own 0))) h'.objs.size fo
  let Kp:Hp:=upd (upd HW P (.tbl (ps++#[rawInt Kv.line,rawInt Kv.col,.ref c']))) c' (.frz oc (.own 0))
  have a1:H1 h'.objs.size=some fo:=ah;have a2:H1 c'=some (.frz oc (.own 0)):=by show upd _ _ _ c'=_;rw[ae ncf,ah]
  have a3:H1 P=some (.tbl (ps++#[rawInt Kv.line,rawInt Kv.col,.ref c'])):=by show upd _ _ _ P=_;rw[ae nfP,ae ncP,ah]
  have a4:∀ b,b≠P->H b≠none->H1 b=H b:=λb h1 h2=>by
   show upd _ _ _ b=_;rw[ae (λz=>h2 (by rw[z];exact hf0)),ae (λz=>h2 (by rw[z];exact hc0)),ae h1]
  have w2:Kp c'=some (.frz oc (.own 0)):=ah;have w3:Kp P=some (.tbl (ps++#[rawInt Kv.line,rawInt Kv.col,.ref c'])):=by show upd _ _ _ P=_;rw[ae ncP,ah]
  have wc0:=ok.wh.free hc0;have w4:∀ b,b≠P->HW b≠none->Kp b=HW b:=λb h1 h2=>by
   show upd _ _ _ b=_;rw[ae (λz=>h2 (by rw[z];exact wc0)),ae h1]
  have g1:∀ b o,b≠P->s.heap.get? b=some o->(h'.push (kla_obj "<lambda>" (X.env.qual ++ "<lambda>") params body scope clos ((X.mg "__name__").getD .none) c' Ky)).get? b=some o:=λb o hb e=>F4 _ (hx b o hb e)
  have nP:∀ b,H b=none->b≠P:=λb n z=>by rw[z,hP']at n;cases n
  have nsz:∀ b o,s.heap.get? b=some o->b≠c'/\b≠h'.objs.size:=λb o e=>⟨Gf (Gm (F8 e) hge),Gf (Gm (F8 e) hszf)⟩
  have un:Un X.fs [] H H1 s.heap (h'.push (kla_obj "<lambda>" (X.env.qual ++ "<lambda>") params body scope clos ((X.mg "__name__").getD .none) c' Ky)):=by
   refine⟨λb o e n _ _=>g1 b o (nP b n) e,λb o e n _ _=>⟨o.slots,g1 b o (nP b n) e⟩,λb o e n _=>?_,λb o e _=>?_,λb xs e=>?_,λb o u e=>?_,λb qs e=>?_⟩
   ·show upd _ _ _ b=_;rw[ae (nsz b o e).2,ae (nsz b o e).1,ae (nP b n)];exact n
   ·by_cases hb:b=P
    ·exact⟨_,by rw[hb];exact F4 _ htb⟩
    ·exact⟨o,g1 b o hb e⟩
   ·rw[a4 b (λz=>by rw[z,hP']at e;cases e) (by rw[e];simp)];exact e
   ·rw[a4 b (λz=>by rw[z,hP']at e;cases e) (by rw[e];simp)];exact e
   ·by_cases hb:b=P
    ·subst hb;rw[hP']at e;cases e;exact⟨_,a3⟩
    ·exact⟨#[],by rw[a4 b hb (by rw[e];simp),e];simp⟩
  have hok:HOk X.prog X.w H1 (h'.push (kla_obj "<lambda>" (X.env.qual ++ "<lambda>") params body scope clos ((X.mg "__name__").getD .none) c' Ky)):=λb u e=>by
   by_cases hb1:b=h'.objs.size
   ·subst hb1;rw[a1]at e;cases e;exact⟨Ge _ rfl,⟨_,Ge _ rfl⟩⟩
   ·by_cases hb2:b=c'
    ·subst hb2;rw[a2]at e;cases e;exact⟨F4 _ hoc,⟨_,F4 _ hoc⟩⟩
    ·by_cases hb3:b=P
     ·subst hb3;rw[a3]at e;cases e;exact F4 _ htb
     ·have e0:H b=some u:=by
       have:H1 b=H b:=by show upd _ _ _ b=_;rw[ae hb1,ae hb2,ae hb3]
       rw[<- this];exact e
      refine(I.hok b u e0).stay (λd v hd q=>g1 d v ?_ q) (λd q=>?_) λd xs q=>?_
      ·rcases hd with z | z
       ·rw[z];exact hb3
       ·intro z2;rw[z2,hP']at z;cases z
      ·rw[a4 d (λz=>by rw[z,hP']at q;cases q) (by rw[q];simp)];exact q
      ·rw[a4 d (λz=>by rw[z,hP']at q;cases q) (by rw[q];simp)];exact q
  have gx:GX HW Z H Kp Z H1:=by
   refine⟨λb o n e=>?_,Same.refl _,λb o e=>?_,λb o e=>?_,λb n=>?_,λb n=>?_,λb n=>.inl n,λb n=>?_⟩
   ·rw[a4 b (λz=>by rw[z,hP]at n;cases n) (by rw[e];simp)];exact e
   ·have e1:=ok.zh b o e;rw[a4 b (λz=>by rw[z]at e;rw[ok.gx.dj P (bb hP)]at e;cases e) (by rw[e1];simp)];exact e1
   ·by_cases hb:b=P
    ·subst hb;rw[w3]at e;rw[a3];exact e
    ·by_cases hb2:b=c'
     ·subst hb2;rw[w2]at e;rw[a2];exact e
     ·have e0:HW b=some o:=by
       have:Kp b=HW b:=by show upd _ _ _ b=_;rw[ae hb2,ae hb]
       rw[<- this];exact e
      have e1:=ok.wh b o e0;rw[a4 b hb (by rw[e1];simp)];exact e1
   ·by_cases hb:b=P
    ·rw[hb,w3];simp
    ·rw[w4 b hb n];exact n
   ·by_cases hb:b=P
    ·exact .inl (by rw[hb,hP];simp)
    ·by_cases hb2:b=c'
     ·exact .inr (by rw[hb2];exact hc0)
     ·have:Kp b=HW b:=by show upd _ _ _ b=_;rw[ae hb2,ae hb]
      rw[this]at n;exact .inl n
   ·by_cases hb:b=P
    ·rw[hb];exact ok.gx.dj P (bb hP)
    ·by_cases hb2:b=c'
     ·rw[hb2];exact ok.zh.free hc0
     ·have:Kp b=HW b:=by show upd _ _ _ b=_;rw[ae hb2,ae hb]
      rw[this]at n;exact ok.gx.dj b n
  have keepW:∀ b u,HW b=some u->(∀ qs,u≠.tbl qs)->Kp b=some u:=λb u e hn=>by
   rw[w4 b (λz=>by rw[z,hP]at e;cases e;exact hn _ rfl) (by rw[e];simp)];exact e
  have wd:WdOk G.K G.C Kp Z W:=by
   refine⟨λb o e=>?_,λj hj=>?_⟩
   ·have q:=ok.wd b o e;cases o with
    | ins n fs=>obtain⟨dx,vs,e1,e2,cl,e3,r⟩:=q;exact⟨dx,vs,keepW _ _ e1 (λ_ z=>nomatch z),keepW _ _ e2 (λ_ z=>nomatch z),cl,e3,r⟩
    | lst ds=>obtain⟨vs,e1,r⟩:=q;exact⟨vs,keepW _ _ e1 (λ_ z=>nomatch z),r⟩
   ·obtain⟨qs,f1,f2,f3⟩:=tbo j hj;by_cases hb:G.C (901+2*j)=P
    ·rw[hb]at f1 ⊢;have ej:qs=ps:=by rw[hP]at f1;cases f1;rfl
     subst ej;refine⟨_,w3,?_,λpos cv q=>?_⟩
     ·rw[Array.toList_append];exact TriplesOk_snoc _ _ _ _ f2
     ·rw[Array.toList_append,ww _ _ f2]at q;cases hh:codeAmong pos qs.toList with
      | some v =>
       rw[hh]at q;cases q;obtain⟨c3,oc3,ws3,t3,k1,k2,k3,k4⟩:=f3 pos cv hh;exact⟨c3,oc3,ws3,t3,k1,keepW _ _ k2 (λ_ z=>nomatch z),k3,k4⟩
      | none =>
       rw[hh]at q;have q':=q;simp only[codeAmong,rawInt]at q';split at q'
       ·cases q';refine⟨c',oc,ws,t,rfl,w2,d1,?_⟩;rw[d2];rw[lx.inj j hj (hb.trans hPe.symm),q0]
       ·cases q'
    ·refine⟨qs,by rw[w4 _ hb (by rw[f1];simp)];exact f1,f2,λpos cv q=>?_⟩;obtain⟨c3,oc3,ws3,t3,k1,k2,k3,k4⟩:=f3 pos cv q;exact⟨c3,oc3,ws3,t3,k1,keepW _ _ k2 (λ_ z=>nomatch z),k3,k4⟩
  exact h _ c' Ky oc ws t _ _ H1 Kp (I.un un hok) gx wd a1 a2 d1 d2
end
theorem BG.mono (b:BG X G k)(h:j<=k):BG X G j:=⟨b.room.mono h,b.K,b.calm,b.pass⟩
def LamB (P:Program)(w:World)(K:Frag)(mg:KW)(base:Heap)(C:La)(k:Nat)(N:List Str)(qual:Str)(scope:Scope)(body:Expr)(ds:List D)(rf:Wd->RW):Prop :=
 ∀ (f:Addr) (cd:Value) (cl:List (Str×Addr)) (A:Around) (outer:List Env) (s:Shared) (HW Z H:Hp) (E:XK) (W:Wd),BG (lamX P w K mg base N qual scope f cd cl A outer s H E) ⟨K,C,HW,Z,H,E⟩ k ->
  GE (lamX P w K mg base N qual scope f cd cl A outer s H E) ⟨K,C,HW,Z,H,E⟩ W (startS N.length ds) body (rf W)
structure LamSc (scope:Scope)(params:Arguments)(body:Expr)(qual:Str):Prop where
 sk:scope.kind=.function
 sco:scope.isCoroutine=false
 sgen:scope.isGenerator=false
 snc:∀ x∈scope.names,x.2≠.cell
 hb:∀ cl pm c Ky,bindArgs (kla_fn "<lambda>" qual params body scope cl pm c Ky) ⟨[],[]⟩=pure []
def DeedAt (X0:Cx)(G0:Gx)(k:Nat)(i:Nat)(x:Str)(f:Addr)(rf:Wd->RW):Prop:=∀ pn xe E' p pos W S,BG (tryX X0 pn xe) { G0 with E:=E' } k->S[i]?=some (some (.val (.ptr f))) ->
 GE (tryX X0 pn xe) { G0 with E:=E' } W S (.Call (.Name x p) [] [] pos) (rf W)
section
variable {ds:List D}{rf:Wd->RW}
theorem Bo (i:Nat)(bg:BG X G (k+1))(hex:X.ex=[])(L:Lam X.s₀.heap X.H₀ qual params scope body N f vs)(sc:LamSc scope params body qual)(hr:Reps G.K G.C G.Z0 ds vs)(hl:vs.length=N.length)
  (hS:S[i]?=some (some (.val (.ptr f)))) (hb:LamB X.prog X.w X.K X.mg X.base G.C k N qual scope body ds rf) (hi:X.N[i]?=some x) (hv:Vis X.env.scope x)
  (hd:KH x) (Ks:KK x):GE X G W S (.Call (.Name x p) [] [] pos) (rf W):=by
 have hK:=bg.K;refine tz bg.calm bg.room bg.pass sc.sk sc.sco sc.sgen sc.snc hl sc.hb hi hv
  (λam σ H s I=>L.later (by have:=I.base;rw[hex]at this;exact this)) (λσ H Q ⟨HW,Z,ok,w⟩=>?_) (λam σ H s Q I ⟨HW,Z,ok,w⟩ cd cl room=>?_) hd Ks
 ·obtain⟨v,A,e,o,_⟩:=ok.nm.sl i _ hS;have r:=o.2;rw[Rep]at r;rw[e,r]
 ·have b':BG (lamX X.prog X.w X.K X.mg X.base N qual scope f cd cl X.A X.stack s H G.E) ⟨X.K,G.C,HW,Z,H,G.E⟩ k:=⟨room,rfl,rfl,yC⟩;refine⟨_,hb f cd cl X.A X.stack s HW Z H G.E W b',HW,Z,GOk.start ok.zh ok.wh ok.gx.dj (by rw[hK];exact ok.wd) (by rw[hK];exact hr.mono ok.gx.z),?_⟩;rw[hK];exact w
inductive Cap (X:Cx)(S:SS)(scope:Scope):List Str->List D->Prop
 | nil:Cap X S scope [] []
 | cons (i:Nat) {x:Str} {d:D} {N:List Str} {ds:List D} (h1:X.N[i]?=some x) (h2:S[i]?=some (some (.val d))) (h3:X.env.scope.names.lookup x=some .cell) (h4:scope.names.lookup x=some .free) (r:Cap X S scope N ds):Cap X S scope (x::N) (d::ds)
theorem Cap.vals {HW Z H:Hp}{ρ:St}{am:Ll}{s:Shared}(ok:GOk G W HW Z H S ρ)(I:Inv X am ρ H s):∀ {N:List Str} {ds:List D},Cap X S scope N ds->∃ vs,Reps G.K G.C Z ds vs/\vs.length=N.length /\
  ∀ (i:Nat) (x:Str) (v:V),N[i]?=some x->vs[i]?=some v->scope.names.lookup x=some .free/\∃ u a,RelV v u/\X.env.cells.lookup x=some a/\s.heap.IsCell a (some u)
 | _,_,.nil=>⟨[],Reps.nil,rfl,λi x v e _=>by simp at e⟩
 | _,_,.cons i h1 h2 h3 h4 r=>by
  obtain⟨vs,rs,hl,k⟩:=Cap.vals ok I r;obtain⟨v,A,e,o,_⟩:=ok.nm.sl i _ h2;obtain⟨m,hn,hv⟩:=I.loc;obtain⟨u,ru,lk⟩:=hv i _ v h1 e (.inr (.inl h3));refine⟨v::vs,Reps.cons o.2 rs,by rw[Gb,Gb,hl],λj y w e1 e2=>?_⟩;cases j with
  | zero =>
   simp at e1 e2
   subst e1 e2;refine⟨h4,u,?_⟩;rcases lk with ⟨z,_⟩ | ⟨_,a,ea,z⟩
   ·have z:X.env.scope.names.lookup _=some .local:=z;rw[h3]at z;cases z
   ·exact⟨a,ru,ea,z⟩
  | succ j=>exact k j y w (by simpa using e1) (by simpa using e2)
def closOf (cells:List (Str×Addr))(fr:List Str):List (Str×Addr):=fr.map λx=>(x,(cells.lookup x).getD 0)
theorem jh {cells:List (Str×Addr)}{y:Str}{a:Addr}:∀ {fr:List Str},fr.all (λx=>(cells.lookup x).isSome)=true->(closOf cells fr).lookup y=some a->cells.lookup y=some a
 | [],_,e=>by simp[closOf]at e
 | x::fr,h,e=>by
  rw[HQ,Gj]at h;unfold closOf at e;rw[F5,GC]at e;cases q:(y==x) with
  | true =>
   rw[q]at e;have hy:y=x:=eq_of_beq q;subst hy;cases q2:cells.lookup y with
   | none=>rw[q2]at h;exact absurd h.1 (by simp)
   | some b=>rw[q2]at e;exact e
  | false=>rw[q]at e;exact jh h.2 e
theorem lX {cells:List (Str×Addr)}{y:Str}:∀ {fr:List Str},y∈fr->∃ a,(closOf cells fr).lookup y=some a
 | x::fr,h=>by
  unfold closOf;rw[F5,GC];cases q:(y==x) with
  | true=>exact⟨_,rfl⟩
  | false =>
   rcases Gi.mp h with z | z
   ·rw[z]at q;simp at q
   ·exact lX z
theorem yD (h:fr.all (λx=>(cells.lookup x).isSome)=true)(hy:y∈fr)(e:cells.lookup y=some a):(closOf cells fr).lookup y=some a:=by
 obtain⟨b,q⟩:=lX hy;have:=jh h q
 grind
def tLam (G:Gx)(W:Wd)(S:SS)(qual:Str)(params:Arguments)(scope:Scope)(body:Expr)(clos:List (Str×Addr)):TE:=λρ H Q=>∃ HW Z,GOk G W HW Z H S ρ/\∀ f c Ky oc ws t pm H1 Kp,GX HW Z H Kp Z H1->WdOk G.K G.C Kp Z W ->
 H1 f=some (.frz (kla_obj "<lambda>" qual params body scope clos pm c Ky) (.own 0))->H1 c=some (.frz oc (.own 0))->oc.data=.fields ws->ws[1]?=some (.str qual t)->Q (.ref f) H1
theorem DS (i:Nat)(hK:X.K=G.K)(lx:LamX X G.K G.C i)(hcl:closureFor scope X.env=pure clos)(hdef:defaultsOf params X.env=([],[])) :
  PE X (.Lambda params body scope Kv) (tLam G W S (X.env.qual ++ "<lambda>") params scope body clos):=λam s ρ H Q I ⟨HW,Z,ok,w⟩ =>
 DR i I ok hK lx hcl hdef λf c Ky oc ws t pm s1 H1 Kp I1 gx wd a1 a2 a3 a4=>⟨.ref f,H1,I1,rfl,w f c Ky oc ws t pm H1 Kp gx wd a1 a2 a3 a4⟩
def ToldB (P:Program)(w:World)(K:Frag)(mg:KW)(base:Heap)(C:La)(k:Nat)(NT:List Str)(Kk dn:Str)(st:Stmt)(rf:Wd->RW)(lt:Wd->LW Unit):Prop :=
 ∀ (f:Addr) (J4:Value) (A:Around) (outer:List Env) (s:Shared) (HW Z H:Hp) (E:XK) (fl:Addr),BG (bodyX P w K mg base NT Kk (defScope st) f J4 A outer s H E) ⟨K,C,HW,Z,H,E⟩ k ->
  PassesOwn (model P w) (bodyX P w K mg base NT Kk (defScope st) f J4 A outer s H E).A (bodyX P w K mg base NT Kk (defScope st) f J4 A outer s H E).env (bodyX P w K mg base NT Kk (defScope st) f J4 A outer s H E).xe ->
  MadeG (bodyX P w K mg base NT Kk (defScope st) f J4 A outer s H E) ⟨K,C,HW,Z,H,E⟩->DeedAt (bodyX P w K mg base NT Kk (defScope st) f J4 A outer s H E) ⟨K,C,HW,Z,H,E⟩ k 0 dn fl rf ->
  ∀ W,GL (bodyX P w K mg base NT Kk (defScope st) f J4 A outer s H E) ⟨K,C,HW,Z,H,E⟩ W (startS NT.length [.ptr fl]) (defBody st) JU (lt W)
theorem h7 {Kk dn:Str}{NT:List Str}{lt:Wd->LW Unit}(i:Nat)(bg:BG X G (k+2))(lx:LamX X G.K G.C i)(FT:Fd G.K X.mg Kk [dn] st)(scT:FnScope NT [dn] (defScope st))(hN0:NT[0]?=some dn)(hg:Gl X Kk)
  (cap:Cap X S scope fr ds) (sc:LamSc scope params body (X.env.qual ++ "<lambda>"))
  (hb:LamB X.prog X.w X.K X.mg X.base G.C k fr (X.env.qual ++ "<lambda>") scope body ds rf) (hT:ToldB X.prog X.w X.K X.mg X.base G.C (k+1) NT Kk dn st rf lt)
  (hcl:closureFor scope X.env=pure (closOf X.env.cells fr):=by rfl) (Ku:fr.all (λx=>(X.env.cells.lookup x).isSome)=true:=by rfl) (hfr:scope.names.all (λp=>p.2 != .free||fr.contains p.1)=true:=by rfl)
  (hdef:defaultsOf params X.env=([],[]):=by rfl) (K6:KH Kk:=by decide) (hdd:KH dn:=by decide) (hdc:KK dn:=by decide)
  (he:starEach [.Lambda params body scope Kv] X.env=(false,eval (.Lambda params body scope Kv) X.env)::starEach [] X.env:=by rfl) (hpl:IO X pos []:=by rfl) :
  GE X G W S (.Call (.Name Kk p) [.Lambda params body scope Kv] [] pos) (outW (lt W)):=by
 have hK:=bg.K;obtain⟨a,fd,F,hm,hbd⟩:=FT.ex;obtain⟨oc,od,kV,doc,pm,an,J4,ct,osl,rfl,lk,Ks⟩:=F.ex;intro am s ρ H Q I ⟨HW,Z,ok,w⟩;refine G4 (dD I hg hm ?_ K6);refine callWith_K I.ok.mod.kin (by rw[hK];exact F.kp) (thn (cj (DS i hK lx hcl hdef) iM he pos am s ρ H
  (λvs H1=>∃ f c Ky oc ws t pm Kp,vs=[.ref f]/\GX HW Z H Kp Z H1/\WdOk G.K G.C Kp Z W/\H1 f=some (.frz (kla_obj "<lambda>" (X.env.qual ++ "<lambda>") params body scope (closOf X.env.cells fr) pm c Ky) (.own 0))/\H1 c=some (.frz oc (.own 0))/\oc.data=.fields ws/\ws[1]?=some (.str (X.env.qual ++ "<lambda>") t)) I
  ⟨HW,Z,ok,λf c Ky oc ws t pm H1 Kp gx wd a1 a2 a3 a4=>⟨f,c,Ky,oc,ws,t,pm,Kp,rfl,gx,wd,a1,a2,a3,a4⟩⟩) λus s1 ⟨vs1,H1,I1,r1,q1⟩=>⟨I1.kIn,?_⟩) he hpl
 obtain⟨f,c,Ky,oc',ws,t,pm',Kp,rfl,gx,wd,a1,a2,a3,a4⟩:=q1;have ok1:=ok.more gx wd;obtain⟨vs,rs,hl,kk⟩:=Cap.vals ok1 I1 cap;have memfr:∀ x,scope.names.lookup x=some .free->x∈fr:=λx e=>by
  have m:=He.mp hfr _ (Gp e)
  simpa using m
 have L:Lam s1.heap H1 (X.env.qual ++ "<lambda>") params scope body fr f vs:=by
  refine⟨pm',c,Ky,closOf X.env.cells fr,oc',ws,t,a1,a2,a3,a4,λx y b e1 e2=>I1.ok.inj x y b (jh Ku e1) (jh Ku e2),λx b e=>?_,λx e=>lX (memfr x e),λj x v e1 e2=>?_⟩
  ·have e':=jh Ku e;exact⟨I1.cell x b e',I1.freeC x b e'⟩
  ·obtain⟨z,u,b,r,e,q⟩:=kk j x v e1 e2;exact⟨z,u,b,r,yD Ku (memfr x z) e,q⟩
 obtain⟨u,rfl,ru⟩:=r1.one;have r':Vals [.ref f] [u]:=.cons ru .nil;have Km:([u]++([]:List Value)).length=[dn].length:=rfl;have hbind:=(hbd s1 [u] (hK ▸ I1.kIn) Km);have hWR:=w.more gx;have bT:BG (bodyX X.prog X.w X.K X.mg X.base NT Kk (defScope st) a J4 X.A X.stack s1 H1 G.E) ⟨X.K,G.C,Kp,Z,H1,G.E⟩ (k+1):=⟨bg.room.deeper _,rfl,rfl,b0⟩;have hrun:=ER
  (by rw[hK];exact lk) (by rw[hK];exact Ks) scT rfl bg.room.w I1.env0 (by simpa using hbind) r'
  (hT a J4 X.A X.stack s1 Kp Z H1 G.E f bT Hw (λF' e' am σ H1 s1 h1 ea C1 args I hx hE=>eV I hx (by rw[e']at hE;exact hE))
   (λpn xe E' p pos W S b hS=>Bo 0 b rfl L sc (by rw[hK];exact rs) hl hS hb hN0 ((scT.par dn (by simp)).imp id .inl) hdd hdc) W)
  ⟨Kp,Z,GOk.start ok1.zh ok1.wh ok1.gx.dj (by rw[hK];exact wd) (Reps.cons (by rw[Rep]) Reps.nil),WGL.start (by rw[hK];exact hWR)⟩
 refine Jj (HJ hrun λr s' hq=>?_);cases r with
 | error e=>exact bg.pass am ρ H1 s1 e s' I1 hq
 | ok fl =>
  cases fl with
  | ret u=>exact I1.after hq
  | next=>exact False.elim hq
  | brk=>exact False.elim hq
  | cont=>exact False.elim hq
end
structure HX (X:Cx)(F:Fx)(k:Nat):Prop where
 room:RoomH k X.A
 K:X.K=F.K
theorem wx (hr:RoomH k X.A):MtR X "list.count" (rCountB X.K):=by
 intro am s σ H x vs v us Q I rx rv h;obtain⟨l,bs,k,rfl,rfl,hH,q⟩:=h;cases rx;obtain⟨u,rfl,ru⟩:=rv.one;cases ru;obtain⟨its,r,⟨⟨c2,d2,dt2,sl2⟩,n2,e2,p2,p3,p4⟩,z2⟩:=I.list hH;have e:=fk r;subst e;simp only at p2 p3 p4;subst p2 p3 p4;refine Hy F.slot_list_count ⟨_,e2,rfl⟩ F.entry_list_count (F.args_list_count_2 _ _) (SeqAt.list_countAt l _ n2 _ _ (.bool k) (isB k)) ⟨e2,λy hy=>?_,?_⟩
 ·have hy':y∈bs.map Value.bool:=by simpa using hy
  obtain⟨b,_,rfl⟩:=GK.mp hy';exact lO I (by have:=hr.un;show X.A.units+1 < cLine;omega) b k
 ·have hc:((bs.map Value.bool).toArray.toList.countP (isB k))=bs.countP (· == k):=by
   rw[List.countP_map];rfl
  rw[hc];exact⟨.int _,H,I.tok _,⟨_,rfl⟩,q⟩
theorem wy (hr:RoomH k X.A):MtR X "list.index" (rIndexB X.K):=by
 intro am s σ H x vs v us Q I rx rv h;obtain⟨l,bs,k,rfl,rfl,hH,hj,q⟩:=h;cases rx;obtain⟨u,rfl,ru⟩:=rv.one;cases ru;obtain⟨its,r,⟨⟨c2,d2,dt2,sl2⟩,n2,e2,p2,p3,p4⟩,z2⟩:=I.list hH;have e:=fk r;subst e;simp only at p2 p3 p4;subst p2 p3 p4;rw[Gg,Go]at z2;have K2:bs.idxOf k < (bs.map Value.bool).toArray.size:=by rw[F9,Gg];exact hj
 have hat:∀ m (hm:m < (bs.map Value.bool).toArray.size) (hm':m < bs.length),isB k (bs.map Value.bool).toArray[m]=(bs[m]==k):=λm hm hm'=>by simp[isB]
 refine Hy F.slot_list_index ⟨_,e2,rfl⟩ F.entry_list_index (F.args_list_index_2 _ _) (SeqAt.list_indexAt l _ n2 _ _ (.bool k) (isB k) (bs.idxOf k) K2 (by omega) ?_ ?_) ⟨e2,λy hy=>?_,⟨.int _,H,I.tok _,⟨_,rfl⟩,q⟩⟩
 ·rw[hat _ _ hj];exact List.findIdx_getElem (w:=hj)
 ·intro m hm K4;have hm':m < bs.length:=by omega
  rw[hat _ _ hm'];exact Bool.eq_false_iff.mpr (by simpa using List.not_of_lt_findIdx K4)
 ·have hy':y∈bs.map Value.bool:=by simpa using hy
  obtain⟨b,_,rfl⟩:=GK.mp hy';exact lO I (by have:=hr.un;show X.A.units+1 < cLine;omega) b k
section
variable {F:Fx}{o a b:Expr}{g ga gb:KZ}{gs:KY}{ec:Expr}{y:V}{q:Lk}
theorem wz (bx:HX X F k)(ho:FE X F o g)(ha:FA X F [e] gs)
  (Kx:attributeBase o "count" X.env (eval o X.env)=eval o X.env:=by rfl)
  (hfew:KI X IY e:=by rfl)
  (Kw:(IR.endLine==IY.line)=true:=by rfl) (hs:Id X e []:=by rfl) (K0:IO X IY []:=by rfl) :
  FE X F (.Call (.Attribute o "count" IR) [e] [] IY) (eMethL dCount g gs) :=
 (xE Il PySem.F.slot_list_count (by kernel_rfl) (wx bx.room) ho ha Kx hfew Kw hs K0).weak (by rw[bx.K];exact oE qU)
theorem tF (bx:HX X F k)(ho:FE X F o g)(ha:FA X F [e] gs)
  (Kx:attributeBase o "index" X.env (eval o X.env)=eval o X.env:=by rfl)
  (hfew:KI X IY e:=by rfl)
  (Kw:(IR.endLine==IY.line)=true:=by rfl) (hs:Id X e []:=by rfl) (K0:IO X IY []:=by rfl) :
  FE X F (.Call (.Attribute o "index" IR) [e] [] IY) (eMethL dIndex g gs) :=
 (xE Il PySem.F.slot_list_index (by kernel_rfl) (wy bx.room) ho ha Kx hfew Kw hs K0).weak (by rw[bx.K];exact oE qV)
theorem Bp (bx:HX X F k)(hq:IsA F.K F.C y q):∀ σ H Q,tE F (eIs q g) σ H Q->tCB (λxs H Q=>∃ (Z:Hp) (d:D) (x y:V) (b:Bool),xs=[x,y]/\Same Z H/\Rep X.K F.C Z d x/\((∃ n,y=.ty n)\/∃ a,y=.ref a) /\
  kitOne X.K (tyD F.C d) (cV y)=some b/\(∀ j,d=.exc j->ExcK X.K (F.C j))/\(∀ j,d≠.fn j)/\isDct d=false/\Q (.bl b) H) (tCons (tE F g) (tCons (tC y) tNil)) σ H Q:=λσ H Q ⟨Z,S,ok,w⟩ =>
 ak ok w λd v H1 Z1 ok1 x1 rv w1=>by
  cases e:q d with
  | none=>unfold dIsA at w1;rw[e]at w1;exact w1.elim
  | some b =>
   unfold dIsA at w1;rw[e]at w1;refine⟨Z1,d,v,y,b,rfl,ok1.sub,by rw[bx.K];exact rv,hq.one,by rw[bx.K];exact hq.ans d b e,λj ej=>?_,λj ej=>(by rw[ej,hq.fn j]at e;cases e),(by cases hd:isDct d with | false=>rfl | true=>rw[hq.dct d hd]at e;cases e),WG.now w1 ok1.sub _ aG⟩;subst ej;rw[bx.K];exact hq.exc j b e
theorem aF (bx:HX X F k)(hg:Gl X "isinstance")(hm:X.mg "isinstance"=none)(hq:IsA F.K F.C y q)(ha:FE X F e g)(hc:PE X ec (tC y))(he:Id X e [ec]:=by rfl)
  (he2:Id X ec []:=by rfl) (hpl:IO X pos [ec]:=by rfl) :
  FE X F (.Call (.Name "isinstance" p) [e,ec] [] pos) (eIs q g) :=
 (f9 kH hg hm (by decide +kernel) (cj ha (cj hc iM he2) he) (he:=he) (hpl:=hpl)).weak (Bp bx hq)
theorem DT (hK:X.K=F.K)(hr:RoomH k X.A):OpR X (compareOp .NotEq) (rNf F.K F.C):=by
 intro am s σ H x y v u Q I rx ry h;obtain⟨Z,d,e,z,h1,h2,g1,g2,q⟩:=h;have hu:X.A.units+60 < cLine:=by have:=hr.un;omega
 exact(eqB hK I z 60 X.A d e x y v u g1 g2 h1 h2 rx ry hu).2.2 X.prog X.w X.xe _ ⟨.bl (!eqD d e),H,I,rfl,q⟩
theorem DU (bx:HX X F k)(ha:FE X F a ga)(hb:FE X F b gb):FT X F (.Compare a [.NotEq] [b] pos) (gB (eOp dNf ga gb)):=iO (DT bx.K bx.room) sT ha hb
end
structure FnHd (P:Program)(w:World)(K:Frag)(mg:KW)(base:Heap)(C:La)(k:Nat)(x:Str)(ps:List Str)(f:KS):Prop where
 ex:∃ a fd,(∀ (A:Around) (outer:List Env) (s:Shared) (H:Hp) (args:Args) (us:List Value) (vs:List V) (Q:VK),RoomH k A->Env0 P w K mg base A outer s H->BindsTo s fd args (ps.zip us)->Vals vs us->spF K C ps.length f vs H Q E0 ->
  codeAny (model P w) A (.call (.ref a) args) (CR CX0 outer P w H s Q E0) s)/\mg x=some (.ref a)/\keepIn K (.ref a)=true/\Binds K fd ps []
def OkHB (P:Program)(w:World)(K:Frag)(mg:KW)(base:Heap)(C:La)(k:Nat)(N:List Str)(x:Str)(st:Stmt)(ds:List D)(l:L Unit):Prop :=
 ∀ (f:Addr) (J4:Value) (A:Around) (outer:List Env) (s:Shared) (H Z:Hp),HX (cxOfH CX0 P w K mg base N x (defScope st) f J4 A outer s H E0) ⟨K,C,H,Z,E0⟩ k ->
  FL (cxOfH CX0 P w K mg base N x (defScope st) f J4 A outer s H E0) ⟨K,C,H,Z,E0⟩ (startS N.length ds) (defBody st) JU l
section
variable {w:World}{p:Str}
theorem DV (F:Fd K mg x [p] st):FnHd P w K mg base C 0 x [p] (λ_=>.stuck):=by
 obtain⟨a,fd,F,h,b⟩:=F.ex;exact⟨a,fd,λA outer s H args us vs Q _ _ _ _ z=>by obtain⟨_,_,_,_,_,z⟩:=z;exact z.elim,h,F.kp,b⟩
theorem tG {c:Lj}(F:Fd K mg x [p] st)(S:FnScope N [p] (defScope st))(h:∀ a,OkHB P w K mg base C k N x st [a] (c a)):FnHd P w K mg base C (k+1) x [p] (a1 c):=by
 obtain⟨a,fd,F,hm,b⟩:=F.ex;obtain⟨oc,od,kV,doc,pm,an,J4,ct,osl,rfl,lk,Ks⟩:=F.ex;refine⟨a,_,λA outer s H args us vs Q hr e0 hb r hsp=>?_,hm,F.kp,b⟩;obtain⟨hl,Z,ds,z,rs,wr⟩:=hsp;obtain⟨d,rfl⟩:=len1 (by rw[rs.length];exact hl);refine DQ lk Ks S hl hr e0 hb r (h d a J4 A outer s H Z ⟨hr.deeper _,rfl⟩) ⟨Z,cC z rs,?_⟩;have wr:WG ⟨K,C,H,Z,E0⟩ H Z (outL (c d)) λd H' Z'=>∀ v,Rep K C Z' d v->Q v H':=wr
 cases q:c d with
 | nx u=>rw[q]at wr;exact λS' ρ' H' Z' _ _ ok=>wr H' Z' ok.ex .non (by rw[Rep])
 | rt d=>rw[q]at wr;exact λv H' Z' x rv=>wr H' Z' x v rv
 | er k=>rw[q]at wr;exact wr
 | stuck=>rw[q]at wr;exact wr
end
def tCallH (K:Frag)(C:La)(f:KS)(te:TE):TE:=λσ H Q=>te σ H λv H1=>spF K C 1 f [v] H1 Q E0
theorem yE {f:KS}{te:TE}(h:FnHd X.prog X.w X.K X.mg X.base C k x [y] f)(hr:RoomH k X.A)(hg:Gl X x)(ha:PE X e te)
  (K6:KH x) (he:Id X e []) (hpl:IO X pos []):PE X (.Call (.Name x p) [e] [] pos) (tCallH X.K C f te):=by
 obtain⟨a,fd,h1,h2,h3,h4⟩:=h.ex;intro am s σ H Q I hq;refine G4 (dD I hg h2 ?_ K6);refine callWith_K I.ok.mod.kin h3 (thn (cj ha iM he pos am s σ H (λvs H1=>∃ v,vs=[v]/\spF X.K C 1 f [v] H1 Q E0) I (by
  refine(show te σ H _ from ?_);exact cast (GA (te σ H) (by funext v H1;exact propext ⟨λz=>⟨v,rfl,z⟩,λ⟨v',e1,z⟩=>by cases e1;exact z⟩)) hq)) λus s1 ⟨vs,H1,I1,r,q⟩=>⟨I1.kIn,?_⟩) he hpl
 obtain⟨v,rfl,q⟩:=q;have Km:(us++([]:List Value)).length=[y].length:=by rw[Gs,<- r.length];rfl
 have hb:=h4 s1 us I1.kIn Km;rw[Gs]at hb;refine Jj (HJ (h1 X.A X.stack s1 H1 ⟨us,[]⟩ us [v] Q hr I1.env0 hb r q) λr s' hq=>?_);cases r with
 | error e=>exact False.elim hq
 | ok fl =>
  cases fl with
  | ret u=>exact I1.after hq
  | next=>exact False.elim hq
  | brk=>exact False.elim hq
  | cont=>exact False.elim hq
theorem yF {o:HO}(h:Same Z H):Same (upd Z a o) (upd H a o):=λb u e=>by
 by_cases z:b=a
 ·subst z;rw[ah]at e ⊢;exact e
 ·rw[ae z]at e ⊢;exact h b u e
section
variable {body:Lo}{c n:Str}{tb:XK->TS}
def tTryR (K:Frag)(C:La)(q:Nat->Bool)(fh:KS)(tb:XK->TS):TS:=λD σ H=>∃ E':XK,(∀ cls x H',E' cls x H'->∃ k Z',cls=.ref (C k)/\q k=true/\Same Z' H'/\∀ ea,H' ea=none ->
 WG ⟨K,C,upd H' ea (excO C k ea),upd Z' ea (excO C k ea),E0⟩ (upd H' ea (excO C k ea)) (upd Z' ea (excO C k ea)) (fh [.exc k]) λd H2 Z2=>∀ v,Rep K C Z2 d v->D.rt v H2)/\tb E' D σ H
theorem Bq (i:Nat)(hr:RoomH k X.A)(hcf:FnHd X.prog X.w X.K X.mg X.base C k cl [yp] fh)(hgc:Gl X cl)(K8:X.stack=X.env::X.outer)(hfm:X.env.frame=some X.env.locals)(hex:X.ex=[])(hN:X.N.Nodup)(hg:Gl X c)(hm:X.mg c=some (.ref C0))(T:Takes X.K C C0 q)
  (hb:∀ pn xe E',Passes (CXE X.prog X.w) (tryX X pn xe) E'->PSs (tryX X pn xe) body (tb E'))
  (hi:X.N[i]?=some n:=by rfl) (hn:X.env.scope.names.lookup n=some .local:=by rfl) (KG:X.env.kindOf n=some .local:=by rfl)
  (he:starEach [.Name n np2] X.env=(false,eval (.Name n np2) X.env)::starEach [] X.env:=by rfl) (hpl:IO X IR []:=by rfl) (hdl:KH cl:=by decide) (hdc:KH c:=by decide) (hdn:KH n:=by decide) (Ks:KK n:=by decide) :
  PS X (.Try body [.ExceptHandler (some (.Name c np)) (some n) [.Return (some (.Call (.Name cl cp) [.Name n np2] [] IR)) rp] hpos] [] [] pos) (tTryR X.K C q fh tb):=by
 intro am s σ H D I h;obtain⟨E',hE',w⟩:=h;refine wpAny_Try_except ?_;have hil:=(Gc.mp hi).1
 let txe:KU:=λe s₁=>wpAny (model X.prog X.w) X.A (noteFrame e X.env) (λ_ s₂=>wpAny (model X.prog X.w) X.A (setFlight e none) (λ_ s₃=>wpAny (model X.prog X.w) X.A (handleBy e X.env [.ExceptHandler (some (.Name c np)) (some n) [.Return (some (.Call (.Name cl cp) [.Name n np2] [] IR)) rp] hpos]) (SP X am D) X.xe s₃) X.xe s₂) X.xe s₁
 have back:∀ {pl:Ll} {σ':St} {H':Hp} {s':Shared},Inv (tryX X (X.pn++am) txe) pl σ' H' s'->Inv X am σ' H' s':=λJ=>lP J rfl I.ok.hd λp hp=>HL _ hp
 have ps:Passes (CXE X.prog X.w) (tryX X (X.pn++am) txe) E':=by
  intro pl σ1 H1 s1 e s2 I1 hx;obtain⟨ea,Ce,t,H2,B,rfl,os,bare,un,hok,fl,hn2,cov,hE⟩:=hx;obtain⟨k',Z',hC,hk,zs,w1⟩:=hE' _ _ _ hE;have J:=I1.call' (ch:=[]) os un hok bare (λb z=>nomatch z);obtain⟨oe0,ws0,ge0,_,gd0,_⟩:=fl.first
  obtain⟨mL1,nL1,_⟩:=I1.loc;obtain⟨oL1,_,_,hoL1,_⟩:=id nL1;have hnf:ea∉frs X.stack:=λz=>by
   rcases Gi.mp (J.stkSub ea z) with z1 | z1
   ·obtain⟨mL,nL,_⟩:=J.loc;obtain⟨oL,es,ep,hoL,hdL,_⟩:=nL;have hoL':s2.heap.get? ea=some oL:=by rw[z1];exact hoL
    rw[ge0]at hoL';cases hoL';rw[hdL]at gd0;cases gd0
   ·obtain⟨_,o',e',d⟩:=J.funs.mem z1;rw[ge0]at e';cases e';exact d _ gd0
  have K5:∀ o,s1.heap.get? ea≠some o:=λo z=>by
   have:=cov ea oe0 ge0 (.inr ⟨o,z⟩) hnf;rw[fl.2.1]at this;cases this
  have h0:X.s₀.heap.get? ea=none:=by
   cases z:X.s₀.heap.get? ea with
   | none=>rfl
   | some o =>
    obtain⟨o',z'⟩:=I1.base.there ea o z (by rw[hex];exact λq=>nomatch q);exact absurd z' (K5 o')
  have hnl:ea≠X.env.locals:=λz=>K5 oL1 (by rw[z];exact hoL1)
  obtain⟨hp2,g2,d2,t2,os2⟩:=s2;have fl':=fl;rw[show (tryX X (X.pn++am) txe).stack=X.env::X.outer from K8]at fl';refine wpAny_looks_onW (I.ok.frames.trans (by rw[K8])) hfm fl' λh4 held4 up4=>?_
  refine wpAny_landsW held4 λh5 fl5 up5=>?_
  have fly:∀ {h6:Heap},B.StaysIn h6->hp2.UpToSlots h6->Inv (tryX X (X.pn++am) txe) pl σ1 H2 ⟨h6,g2,d2,t2,os2⟩:=λ{h6} a b=>AK J ⟨σ1,H1,pl,I1⟩ (λp hp=>⟨_,(I1.pin p hp).1⟩) (λo _=>⟨oL1,hoL1⟩) cov a b
  have J5:=fly fl5.1 (up4.trans up5)
  let Xm:Cx:={ tryX X (X.pn++am) txe with A:=X.A.mark (some (.ref ea)),calm:=false,pn:=X.pn++am,xe:=λ_ _=>False }
  have J5m:Inv Xm pl σ1 H2 ⟨h5,g2,d2,t2,os2⟩:=lP J5 rfl (λz=>nomatch z) λp hp=>hp
  refine wpAny_handleBy_cons (codeAny_handlers_test (dD (X:=Xm) J5m hg hm ?_ hdc)) (by intro z;cases z);obtain⟨ob,hob,hobc⟩:=fl5.there;refine qW T (J5.kIn) hob (hobc.trans hC) hk ?_;refine codeAny_handlers_suite_as ?_;refine lands_againW fl5 λh6 fl6 up6=>?_
  have J6:=fly fl6.1 ((up4.trans up5).trans up6);obtain⟨oe,ws,hoe,hoec,hoed,_⟩:=fl6.first
  have J7:=v7 J6 (a:=ea) (o:=excO C k' ea) hn2 h0 hnl (λx c' e z=>by
    obtain⟨v,o,ho,_⟩:=I1.cell x c' e;exact K5 o (by rw[<- z];exact ho)) (λp hp z=>K5 p.2 (by rw[<- z];exact(I1.pin p hp).1)) ⟨⟨oe,hoe,hoec.trans hC,ws,hoed⟩,⟨oe,hoe⟩,λh1 h2 ⟨o,a1,a2,a3⟩ kk=>⟨o,kk o a1,a2,a3⟩⟩
  have J7m:Inv Xm pl σ1 (upd H2 ea (excO C k' ea)) ⟨h6,g2,d2,t2,os2⟩:=lP J7 rfl (λz=>nomatch z) λp hp=>hp
  have hl1:=I1.len;refine eU (X:=Xm) (v:=.ref ea) J7m hN hi (.inl hn) rfl (λs8 I8=>?_) (.inr hn);have st:=kZ (sy (X:=Xm) (pos:=rp) (yE (X:=Xm) (p:=cp) hcf ⟨hr.dp,hr.un⟩ hgc (f8 (X:=Xm) (pos:=np2) hi (.inl hn) hdn Ks) hdl he hpl));have w2:=w1 ea hn2;refine GN (st pl s8 _ _ ⟨λ_ _=>False,D.rt,λ_ _=>False,λ_ _=>False⟩ I8 ⟨.ref ea,by rw[Gr (by rw[hl1];exact hil)],rfl,_,_,yF zs,Reps.cons (by rw[Rep];exact⟨ea,rfl,ah⟩) Reps.nil,w2⟩) (λf s9 h9=>?_) λ_ _ z=>z.elim
  cases f with
  | ret u =>
   obtain⟨v9,σ9,H9,I9,rv9,q9⟩:=h9;have hl9:=I9.len;refine F3 (JO (eU (X:=Xm) (v:=.non) I9 hN hi (.inl hn) rfl (λs10 I10=>?_) (.inr hn)));unfold unbindBehindTheSuite;refine Kc (v8 (X:=Xm) (v:=.non) I10 hN hi KG hn (by rw[Gr (by rw[hl9];exact hil)]) λs11 I11=>?_);have IX:Inv X am _ _ s11:=lP (X:=Xm) I11 rfl I.ok.hd λp hp=>HL _ hp
   exact⟨v9,_,_,IX,rv9,q9⟩
  | _=>first | (obtain⟨_,_,_,z⟩:=h9;exact z.elim) | (obtain⟨_,_,_,_,_,z⟩:=h9;exact z.elim)
 have run:=hb (X.pn++am) txe E' ps [] s σ H D (lP I rfl I.ok.hd (by simp)) w;refine GN run (λf s1 h1=>?_) λ_ _ x=>x
 cases f with
 | next =>
  obtain⟨σ',H',I',d'⟩:=h1;exact IB ⟨σ',H',back I',d'⟩
 | brk =>
  obtain⟨σ',H',I',d'⟩:=h1;exact⟨σ',H',back I',d'⟩
 | cont =>
  obtain⟨σ',H',I',d'⟩:=h1;exact⟨σ',H',back I',d'⟩
 | ret u =>
  obtain⟨v,σ',H',I',r,d'⟩:=h1;exact⟨v,σ',H',back I',r,d'⟩
end
def lwTryR {σ:Type}(q:Nat->Bool)(fh:KS):LW Unit->LW σ
 | .nx _ _=>.stuck
 | .rt w d=>.rt w d
 | .er w e=>if q e=true then (match fh [.exc e] with | .ok d=>.rt w d | _=>.stuck) else .stuck
 | .al w f=>.al w λa=>lwTryR q fh (f a)
 | .stuck=>.stuck
section
variable {σ:Type}{J:σ->SS->Prop}{body:Lo}{c n:Str}
theorem Br (i:Nat){l:LW Unit}(bg:BG X G k)(hcf:FnHd X.prog X.w X.K X.mg X.base G.C k cl [yp] fh)(hgc:Gl X cl)(K8:X.stack=X.env::X.outer)(hfm:X.env.frame=some X.env.locals)(hex:X.ex=[])(hN:X.N.Nodup)(hg:Gl X c)(hm:X.mg c=some (.ref C0))(T:Takes G.K G.C C0 q)
  (hb:∀ pn xe E',BG (tryX X pn xe) { G with E:=E' } k->GL (tryX X pn xe) { G with E:=E' } W S body JU l)
  (hi:X.N[i]?=some n:=by rfl) (hn:X.env.scope.names.lookup n=some .local:=by rfl) (KG:X.env.kindOf n=some .local:=by rfl)
  (he:starEach [.Name n np2] X.env=(false,eval (.Name n np2) X.env)::starEach [] X.env:=by rfl) (hpl:IO X IR []:=by rfl) (hdl:KH cl:=by decide)
  (hdc:KH c:=by decide) (hdn:KH n:=by decide) (Ks:KK n:=by decide) :
  GL X G W S [.Try body [.ExceptHandler (some (.Name c np)) (some n) [.Return (some (.Call (.Name cl cp) [.Name n np2] [] IR)) rp] hpos] [] [] pos] J (lwTryR q fh l):=by
 have hK:=bg.K;have ht:=Bq (X:=X) (C:=G.C) (q:=q) (np:=np) (np2:=np2) (cp:=cp) (rp:=rp) (hpos:=hpos) (pos:=pos) i ⟨by have:=bg.room.dp;omega,by have:=bg.room.un;omega⟩ hcf hgc K8 hfm hex hN hg hm (by rw[hK];exact T)
  (λpn xe E' ps=>hb pn xe E' ⟨bg.room,bg.K,bg.calm,ps⟩) hi hn KG he hpl hdl hdc hdn Ks
 refine(kZ ht).weak λD ρ H ⟨HW,Z,ok,w⟩=>?_
 let E':XK:=λcls _ H'=>∃ e w' Ko Z' d,cls=.ref (G.C e)/\q e=true/\GX G.HW0 G.Z0 G.H0 Ko Z' H'/\WdOk G.K G.C Ko Z' w'/\fh [.exc e]=.ok d/\WGL G Z' J D (.rt w' d)
 refine⟨E',λcls x H' ⟨e,w',Ko,Z',d,e1,e2,e3,e4,e5,e6⟩=>⟨e,Z',e1,e2,e3.zh,λea hn=>?_⟩,HW,Z,⟨ok.gx,ok.wd,ok.nm.rebase ⟨pS,Same.refl _,ok.zh,λ_ q=>.inl q⟩ (λ_ _ _ _ h=>h)⟩,?_⟩
 ·rw[e5];intro H2 Z2 x2 v rv;have x1:Ex H' Z' (upd H' ea (excO G.C e ea)) (upd Z' ea (excO G.C e ea)):=Ex.alloc e3.zh hn;have g1:=GX.ex e3.zh e3.wh e3.dj x1;have g2:=GX.ex g1.zh g1.wh g1.dj x2;have gg:=(e3.trans g1).trans g2;exact e6 v Ko Z2 H2 gg (e4.mono (Same.refl _) (x1.z.trans x2.z)) (by rw[<- hK];exact rv)
 have key:∀ {l:LW Unit},WGL G Z J D (lwTryR q fh l)->WGL { G with E:=E' } Z JU D l:=λ{l}=>by
  induction l with
  | nx w s=>exact λh=>h.elim
  | rt w d=>exact λh=>h
  | er w e =>
   intro h Ko Z' H' zz gx wd;unfold lwTryR at h;by_cases hq:q e=true
   ·rw[if_pos hq]at h;cases hf:fh [.exc e] with
    | ok d=>rw[hf]at h;exact⟨e,w,Ko,Z',d,rfl,hq,gx,wd,hf,WGL.more zz h⟩
    | err k=>rw[hf]at h;exact h.elim
    | stuck=>rw[hf]at h;exact h.elim
   ·rw[if_neg hq]at h;exact h.elim
  | al w f ih=>exact λh a e=>ih a (h a e)
  | stuck=>exact λh=>h
 exact key w
end
section
variable {σ:Type}{J:σ->SS->Prop}{r:RW}{rest:Lo}{Kn p0:Pos}
end
structure LamK (K:Frag)(C:La)(i:Nat):Prop where
 lt:i < C 900
 inj:∀ j,j < C 900->C (901+2*j)=C (901+2*i)->j=i
 cd:∃ c oc od fd sl,K.lookup (C (902+2*i))=some ⟨oc,od,.func fd,sl⟩/\fd.code=.ref c/\CodeK K c (C (901+2*i))
def OkGL (P:Program)(w:World)(K:Frag)(mg:KW)(base:Heap)(C:La)(k i:Nat)(x:Str)(st:Stmt)(ps:List Str)(fn:KR):Prop :=
 ∀ {f:Addr} {fd:FuncData},Fun K x x st f fd->f=C (902+2*i)->LamK K C i->BMn mg base->FnOk P w K mg base (CXE P w) (k+1) f fd ps (spG K C ps.length fn)
def OkGBL (P:Program)(w:World)(K:Frag)(mg:KW)(base:Heap)(C:La)(k i:Nat)(N:List Str)(x:Str)(st:Stmt)(W:Wd)(ds:List D)(l:LW Unit):Prop :=
 ∀ {f:Addr} {J4:Value} {A:Around} {outer:List Env} {s:Shared} {HW Z H:Hp} {E:XK},(λ(X:Cx) (G:Gx)=>BG X G k->PassesOwn (model P w) X.A X.env X.xe->MadeG X G->LamX X K C i->GL X G W (startS N.length ds) (defBody st) JU l) (bodyX P w K mg base N x (defScope st) f J4 A outer s H E) ⟨K,C,HW,Z,H,E⟩
section
variable {w:World}{i:Nat}{ps:List Str}{fn:KR}
theorem okgl (S:FnScope N ps (defScope st))(h:∀ W ds,ds.length=ps.length->∃ l,fn W ds=outW l/\OkGBL P w K mg base C k i N x st W ds l):OkGL P w K mg base C k i x st ps fn:=λ{f fd} F hf lk bm=>by
 obtain⟨oc,od,kV,doc,pm,an,J4,ct,osl,rfl,lo,Ks⟩:=F.ex;obtain⟨c,oc',od',fd',sl',l1,l2,l3⟩:=lk.cd;rw[<- hf,lo]at l1;cases l1;have l2:=l2;refine oq lo Ks S (λvs H Q E q=>q.1) λA outer s H vs Q E hr hsp=>?_
 obtain⟨hl,W,HW,Z,ds,zh,wh,dj,wd,r,wr⟩:=hsp;obtain⟨l,e,o⟩:=h W ds (by rw[r.length];exact hl);rw[e]at wr;have lx:LamX (bodyX P w K mg base N x (defScope st) f J4 A outer s H E) K C i:=⟨lk.lt,by rw[<- hf];unfold qOf;rw[lo];rfl,⟨c,l2,l3⟩,bm,lk.inj⟩;exact⟨_,@o _ J4 A outer s HW Z H E ⟨hr,rfl,rfl,b0⟩ Hw (λF' e' am σ H1 s1 h1 ea C1 args I hx hE=>eV I hx (by grind)) lx,HW,Z,GOk.start zh wh dj wd r,WGL.start wr⟩
theorem okgl1 {p:Str}{c:Wd->D->LW Unit}(S:FnScope N [p] (defScope st))(h:∀ W a,OkGBL P w K mg base C k i N x st W [a] (c W a)):OkGL P w K mg base C k i x st [p] (b1 c):=okgl S λW ds hl=>by obtain⟨a,rfl⟩:=len1 hl;exact⟨c W a,rfl,h W a⟩
theorem okgl2 {p q:Str}{c:Wd->D->D->LW Unit}(S:FnScope N [p,q] (defScope st))(h:∀ W a b,OkGBL P w K mg base C k i N x st W [a,b] (c W a b)):OkGL P w K mg base C k i x st [p,q] (b2 c):=okgl S λW ds hl=>by obtain⟨a,b,rfl⟩:=len2 hl;exact⟨c W a b,rfl,h W a b⟩
theorem wl1 (F:Fd K mg x ps st)(hx:mg x=some (.ref (C (902+2*i))))(lk:LamK K C i)(bm:BMn mg base)(ok:OkGL P w K mg base C k i x st ps fn):FnW P w K mg base C (k+1) x ps fn:=by
 obtain⟨a,fd,F,h,b⟩:=F.ex;have e:a=C (902+2*i):=by rw[h]at hx;cases hx;rfl
 exact⟨a,fd,ok F e lk bm,h,F.kp,b⟩
end
theorem _root_.L2.RoomH.mono (r:RoomH k A)(h:j<=k):RoomH j A:=⟨by have:=r.dp;omega,by have:=r.un;omega⟩
theorem FnHd.mono {w:World}{ps:List Str}{f:KS}(h:FnHd P w K mg base C j x ps f)(hj:j<=k):FnHd P w K mg base C k x ps f:=by
 obtain⟨a,fd,h1,h2⟩:=h.ex;exact⟨a,fd,λA outer s H args us vs Q hr=>h1 A outer s H args us vs Q (hr.mono hj),h2⟩
def codeKB (K:Frag)(c P:Addr):Bool:=match K.lookup c with
 | some ⟨.type n,_,.fields vs,_⟩=>(n == "code")&&(match (vs[11]?:Lm),vs.getD 18 .none,vs.getD 7 .none,vs.getD 9 .none,vs.getD 10 .none with
  | some (.ref P'),.str _ _,.int _ _,.bool _,.int _ _=>(P'==P) && !(c==P)
  | _,_,_,_,_=>false)
 | _=>false
theorem yG {P:Addr}(h:codeKB K c P=true):CodeK K c P:=by
 unfold codeKB at h;split at h
 ·rename_i n d vs sl e;rw[Gj]at h;obtain⟨h1,h2⟩:=h;have hn:n="code" := eq_of_beq h1;subst hn;split at h2
  ·rename_i P' f tf fl tg b tx tt e1 e2 e3 e4 e5;rw[Gj]at h2;have hP:P'=P:=eq_of_beq h2.1;subst hP;have hc:c≠P':=λz=>by rw[z]at h2;simp at h2
   refine⟨_,vs,f,tf,fl,tg,b,tx,tt,e,rfl,rfl,e1,?_,e2,e3,e4,e5,hc⟩
   simp_all
  ·cases h2
 ·cases h
end FF
namespace L2
open PySem PySem.Spec PyProof.Rows
def OnlyT (tabs:List (Addr×Addr))(H:Hp):Prop:=(∀ b,H b=none\/(∃ o xs,H b=some (.frz o (.lst xs)))\/(b∈tabs.map (·.2)/\H b=some (.tbl #[])))/\∀ q∈tabs,H q.2=some (.tbl #[])
theorem wA {P:Program}{w:World}{K:Frag}{mg mb:KW}{CX:CXT}{k:Nat}{fa a:Addr}{fd:FuncData}{x:Str}{sp:Sp}{s₁:Shared}{vs:List Value}{ns:List Int}{tabs:List (Addr×Addr)}
  (hT:TabsAt tabs s₁.heap) (hKT:∀ q∈tabs,K.lookup q.2=none) (bmn:FF.BMn mg s₁.heap)
  (KX:K.In s₁.heap) (hns:s₁.heap.Ns mainGlobals mg) (hb:s₁.heap.Ns builtinsNs mb) (hbb:∀ x:Str,x ≠ "__name__" -> mb x=bootBuiltins x) (hlim:s₁.heap.NoLimit) (hg:s₁.gens = #[])
  (ha:s₁.heap.get? a=some { cls:=.type "list",data:=.seq vs.toArray }) (hi:IntsAre vs ns) (hl:ns.length<=sizeLine) (hr:Room k callerA)
  (F:∀ base:Heap,K.In base->base.Ns mainGlobals mg->FF.BMn mg base->FnOk P w K mg base CX k fa fd [x] sp) (hbind:∀ (s:Shared) (u:Value),BindsTo s fd ⟨[u],[]⟩ [(x,u)])
  (hsp:∀ H:Hp,OnlyT tabs H->SqL K H a (ns.map V.int)->sp [.ref a] H (λv _=>v=.bl true) λ_ _ _=>False)
  (hCX:∀ H e s',CX [] H s₁ (λ_ _ _=>False) e s'->False) :
  codeAny (model P w) callerA (.call (.ref fa) ⟨[.ref a],[]⟩) (λr s'=>r=.ok (.ret (.bool true))/\OldK s₁.heap s'.heap/\s'.os=s₁.os/\AllBare s'.gens) s₁:=by
 have rv:=ot hi;have lenV:=hi.length;have core:∀ H:Hp,OnlyT tabs H->SqL K H a (ns.map V.int)->HOk P w H s₁.heap->(∀ b,H b≠none->b=a\/b∈tabs.map (·.2))->(H a≠none->K.lookup a=none) ->
   codeAny (model P w) callerA (.call (.ref fa) ⟨[.ref a],[]⟩) (λr s'=>r=.ok (.ret (.bool true))/\OldK s₁.heap s'.heap/\s'.os=s₁.os/\AllBare s'.gens) s₁:=by
  intro H hO hS hok hA hK;have base_of:∀ {b:Addr} {o:Obj},s₁.heap.get? b=some o->H b=none->(hidT s₁.heap H).get? b=some o:=λe n=>xj e n
  have tabO:∀ b∈tabs.map (·.2),s₁.heap.get? b=some (tabObj #[]):=λb hb'=>by
   obtain⟨q,hq,rfl⟩:=GK.mp hb';exact(hT q hq).2
  have noD:∀ {b:Addr} {o:Obj},s₁.heap.get? b=some o->(∀ ys n,o.data≠.seq ys n)->(∀ ys,o.data≠.fields ys)->H b=none:=λ{b o} e d1 d2=>by
   cases q:H b with
   | none=>rfl
   | some u =>
    rcases hA b (by rw[q];simp) with e' | e'
    ·subst e';rw[ha]at e;cases e;exact absurd rfl (d1 _ _)
    ·rw[tabO b e']at e;cases e;exact absurd rfl (d2 _)
  have noA:∀ {b:Addr} {o:Obj} {es:Array DictEntry} {ep:Nat},s₁.heap.get? b=some o->o.data=.dict es ep->H b=none:=λ{b o es ep} e d=>noD e (λ_ _ z=>by rw[d]at z;cases z) (λ_ z=>by rw[d]at z;cases z)
  have nsK:∀ {b:Addr} {m:KW},s₁.heap.Ns b m->(hidT s₁.heap H).Ns b m:=λ{b m} ⟨o,es,ep,e,d,r⟩=>⟨o,es,ep,base_of e (noA e d),d,r⟩
  have hKb:=λb o e=>base_of (KX b o e) (by
   cases q:H b with
   | none=>rfl
   | some u =>
    rcases hA b (by rw[q];simp) with e' | e'
    ·subst e';rw[hK (by rw[q];simp)]at e;cases e
    ·obtain⟨q',hq',rfl⟩:=GK.mp e';rw[hKT q' hq']at e;cases e)
  have hM:Mod K mg (hidT s₁.heap H):=⟨hKb,nsK hns,⟨mb,nsK hb,hbb⟩,let ⟨mc,h1,h2⟩:=hlim;⟨mc,nsK h1,h2⟩⟩;have hbm:FF.BMn mg (hidT s₁.heap H):=by
   obtain⟨bm,ob,b1,b2,b3,b4,b5,b6⟩:=bmn;exact⟨bm,ob,b1,b2,base_of b3 (noD b3 (λ_ _ z=>by rw[b6]at z;cases z) (λ_ z=>by rw[b6]at z;cases z)),b4,b5,b6⟩
  have e0:Env0 P w K mg (hidT s₁.heap H) callerA [] s₁ H:=⟨rfl,hM,λb o e=>Ao e,Nat.le_of_eq (vD _ _),trivial,λb hb=>absurd (show b∈([]:List Addr) from hb) (by simp),hok,.of_eq hg⟩;refine HJ ((F _ hKb (nsK hns) hbm).run callerA [] s₁ H ⟨[.ref a],[]⟩ [.ref a] [.ref a] _ _ hr.w e0 (hbind s₁ (.ref a)) (.cons rfl .nil) (hsp H hO hS)) λr s' h=>?_
  cases r with
  | error e=>exact(hCX H e s' h).elim
  | ok fl =>
   cases fl with
   | next=>exact False.elim h
   | brk=>exact False.elim h
   | cont=>exact False.elim h
   | ret u =>
    obtain⟨v,H',os,bare,un,hok',r',q⟩:=h;have q':=q;subst q';obtain rfl:u=Value.bool true:=r';have both:∀ b o,s₁.heap.get? b=some o->s'.heap.get? b=some o\/(isCodeTable s₁.heap b/\o=tabObj #[]/\∃ ps,s'.heap.get? b=some (tabObj ps)):=λb o e=>by
     cases q:H b with
     | none=>exact .inl (un.keep b o e q (by intro z;exact absurd (show b∈([]:List Addr) from z) (by simp)) (by simp))
     | some u =>
      rcases hO.1 b with z | ⟨ob,xs,z⟩ | ⟨hm,z⟩
      ·rw[q]at z;cases z
      ·have z2:=un.frzs b ob _ z;obtain⟨e1,_⟩:=hok b _ z;obtain⟨e2,_⟩:=hok' b _ z2;rw[e]at e1;cases e1;exact .inl e2
      ·obtain⟨more,z2⟩:=un.tbls b _ z;have e2:=hok' b _ z2;obtain⟨qq,hq,rfl⟩:=GK.mp hm;have e3:=(hT qq hq).2;rw[e]at e3;exact .inr ⟨((hT qq hq).1.tab (hT qq hq).2).isCodeTable,Hq e3,_,e2⟩
    refine⟨rfl,⟨λb o e=>?_,λb o e=>?_⟩,os,bare⟩
    ·rcases both b o e with z | ⟨z1,rfl,ps,z2⟩
     ·exact .inl z
     ·exact .inr (.inl ⟨z1,rfl,#[],ps,rfl,by rw[Array.empty_append];exact z2⟩)
    ·rcases both b o e with z | ⟨z1,rfl,ps,z2⟩
     ·exact⟨_,z⟩
     ·exact⟨_,z2⟩
 have nta:a∉tabs.map (·.2):=λz=>by
  obtain⟨q,hq,e⟩:=GK.mp z;have:=(hT q hq).2;rw[e,ha]at this;cases this
 have tobj:∀ b∈tabs.map (·.2),s₁.heap.get? b=some { cls:=.none,data:=.fields #[] }:=λb hb'=>by
  obtain⟨q,hq,rfl⟩:=GK.mp hb';exact(hT q hq).2
 cases hk:K.lookup a with
 | some o =>
  have e:=KX a o hk;rw[ha]at e;cases e;refine core (λb=>if b∈tabs.map (·.2) then some (.tbl #[]) else none) ⟨λb=>?_,λq hq=>if_pos (GS hq)⟩ (.inr ⟨_,vs.toArray,_,hk,rfl,rfl,rfl,by rw[F9,lenV];exact hl,by simpa using rv⟩) (λb u z=>?_) (λb z=>?_) λz=>absurd (if_neg nta) z
  ·by_cases hb:b∈tabs.map (·.2)
   ·exact .inr (.inr ⟨hb,if_pos hb⟩)
   ·exact .inl (if_neg hb)
  ·by_cases hb:b∈tabs.map (·.2)
   ·have z':=(if_pos hb).symm.trans z;cases z';exact tobj b hb
   ·have z':=(if_neg hb).symm.trans z;cases z'
  ·by_cases hb:b∈tabs.map (·.2)
   ·exact .inr hb
   ·exact absurd (if_neg hb) z
 | none =>
  refine core (λb=>if b=a then some (.frz { cls:=.type "list",data:=.seq vs.toArray } (.lst (ns.map V.int))) else if b∈tabs.map (·.2) then some (.tbl #[]) else none) ⟨λb=>?_,λq hq=>?_⟩ (.inl (.inr ⟨{ cls:=.type "list",data:=.seq vs.toArray },if_pos rfl⟩)) (λb u z=>?_) (λb z=>?_) λ_=>hk
  ·by_cases hb:b=a
   ·exact .inr (.inl ⟨_,_,if_pos hb⟩)
   ·by_cases hb2:b∈tabs.map (·.2)
    ·exact .inr (.inr ⟨hb2,(if_neg hb).trans (if_pos hb2)⟩)
    ·exact .inl ((if_neg hb).trans (if_neg hb2))
  ·have hm:=GS (f:=(·.2)) hq;exact(if_neg λ(z:q.2=a)=>nta (by rw[<- z];exact hm)).trans (if_pos hm)
  ·by_cases hb:b=a
   ·have z':=(if_pos hb).symm.trans z;cases z';subst hb;exact⟨ha,by rw[Gg];exact hl,vs,_,rv,ha⟩
   ·have z1:=(if_neg hb).symm.trans z;by_cases hb2:b∈tabs.map (·.2)
    ·have z':=(if_pos hb2).symm.trans z1;cases z';exact tobj b hb2
    ·have z':=(if_neg hb2).symm.trans z1;cases z'
  ·by_cases hb:b=a
   ·exact .inl hb
   ·by_cases hb2:b∈tabs.map (·.2)
    ·exact .inr hb2
    ·exact absurd ((if_neg hb).trans (if_neg hb2)) z
theorem yH {l:OpenLaw}{n k:Nat}{q:Program}{Kz:List Str}{XP:(KW)->Heap->Prop}{YP:World->Heap->Prop}{d:DefRec}{K:Params->Frag}{CX:World->CXT}{sp:World->Sp}{x:Str}{tabs:World->List (Addr×Addr)}
  (hT:∀ (w:World) (Kz:List Str) (mean:ExcName->Lm) (mg mb:KW) (h:Heap),Top q Kz mean mg mb h->(K w.params).In h->TabsAt (tabs w) h) (hKT:∀ (w:World),∀ q∈tabs w,(K w.params).lookup q.2=none)
  (hn:l.most=some n) (hn2:n<=sizeLine) (hdf:d.params.defaults=[]) (hr:Room k callerA)
  (hY:∀ (w:World) (h:Heap),YP w h->(K w.params).In h)
  (F:∀ (w:World) (mg:KW) (fa:Addr) (h:Heap),(K w.params).In h->h.Ns mainGlobals mg->mg d.name=some (.ref fa) ->
   ∃ fd:FuncData,(∀ (s:Shared) (u:Value),BindsTo s fd ⟨[u],[]⟩ [(x,u)]) /\
    ∀ base:Heap,(K w.params).In base->base.Ns mainGlobals mg->FF.BMn mg base->FnOk l.prog w (K w.params) mg base (CX w) k fa fd [x] (sp w))
  (hsp:∀ (w:World) (H:Hp) (a:Addr) (ns:List Int),ns.length<=n->OnlyT (tabs w) H->SqL (K w.params) H a (ns.map V.int)->sp w [.ref a] H (λv _=>v=.bl true) λ_ _ _=>False)
  (hCX:∀ (w:World) (H:Hp) (s:Shared) (e:Value) (s':Shared),CX w [] H s (λ_ _ _=>False) e s'->False) :
  PySem.W.WalkO q Kz XP YP l.row.toRowW d [] (λf vs=>PySem.call f vs):=by
 refine Att.attach_call hn hdf λw s₀ s₁ mg mb fa o pm cd doc a vs ns G Y ho hd Ks hmg hobj hints Km hg=>?_
 have KX:=hY w _ Y;obtain⟨fd,hb,hF⟩:=F w mg fa _ KX G.T.g hmg;exact wA (hT w _ _ mg mb _ G.T KX) (hKT w) G.T.bmain KX G.T.g G.T.b G.T.builtins G.T.nolimit hg hobj hints (GF Km hn2) hr hF hb (λH hO hS=>hsp w H a ns Km hO hS) λH e s'=>hCX w H s₁ e s'
end L2
end
noncomputable section
namespace FF
open PySem PySem.Spec PyProof.Rows L2
section
variable {K:Frag}{x:Str}{C:La}{mg:KW}
def tabOf (K:Frag)(x:Str):Addr×Addr:=(tabIn K x).getD (0,0)
def tabOkB (K:Frag)(x:Str):Bool:=match tabIn K x with
 | some (c,P)=>codeKB K c P&&(K.lookup P).isNone
 | none=>false
theorem lY (h:tabOkB K x=true):tabIn K x=some (tabOf K x)/\CodeK K (tabOf K x).1 (tabOf K x).2/\K.lookup (tabOf K x).2=none:=by
 unfold tabOkB at h;unfold tabOf;cases q:tabIn K x with
 | none=>rw[q]at h;cases h
 | some p =>
  rw[q]at h;have h:=h;rw[Gj]at h;exact⟨rfl,yG h.1,Option.isNone_iff_eq_none.mp h.2⟩
theorem DW {c P f:Addr}(h:tabIn K x=some (c,P))(hf:nsIn K mainGlobals x=some (some (.ref f))):∃ oc od fd sl,K.lookup f=some ⟨oc,od,.func fd,sl⟩/\fd.code=.ref c:=by
 unfold tabIn at h;rw[hf]at h
 grind
theorem Bs {q:Program}{Kz:List Str}{mean:ExcName->Lm}{mb:KW}{h:Heap}{xs:List Str}(hB:∀ x∈xs,tabOkB K x=true)(hR:∀ x∈xs,((recsOf q).find? (λe=>e.name==x)).isSome=true)
  (T:Top q Kz mean mg mb h) (X:K.In h):TabsAt (xs.map (tabOf K)) h:=λp hp=>by
 obtain⟨x,hx,rfl⟩:=GK.mp hp;obtain⟨d,hd⟩:=G5.mp (hR x hx);exact PySem.W.tab_of T X hd (lY (hB x hx)).1
theorem wB {HW:Hp}(h:∀ i,i < C 900->HW (C (901+2*i))=some (.tbl #[])):Tbs K C HW:=λi hi=>⟨#[],h i hi,trivial,λpos cv q=>by simp[codeAmong]at q⟩
theorem yI {H:Hp}{a:Addr}{ns:List Int}{tabs:List (Addr×Addr)}{f:KR}(hO:OnlyT tabs H)(hS:SqL K H a (ns.map V.int))(hC:∀ i,i < C 900->C (901+2*i)∈tabs.map (·.2))
  (hw:∀ HW Z,WRW K C (λ_ _ _=>False) HW Z H (λ_ d _ Z' H'=>∀ v,Rep K C Z' d v->v=.bl true) (f (λ_=>none) [.lst (ns.map .int)])) :
  spG K C 1 f [.ref a] H (λv _=>v=.bl true) λ_ _ _=>False:=by
 refine⟨rfl,λ_=>none,λb=>match H b with | some (.tbl ps)=>some (.tbl ps) | _=>none,λb=>match H b with | some (.frz o u)=>some (.frz o u) | _=>none,[.lst (ns.map .int)],λb o e=>?_,λb o e=>?_,λb h=>?_,⟨λ_ _ e=>(nomatch e),wB λi hi=>?_⟩,?_,hw _ _⟩
 ·grind
 ·grind
 ·grind
 ·obtain⟨q,hq,e⟩:=GK.mp (hC i hi);have z:=hO.2 q hq
  grind
 ·rw[Reps];refine⟨_,_,rfl,?_,Reps.nil⟩;rw[Rep];refine⟨a,_,rfl,?_,uM ns⟩;rcases hS with (z | ⟨o,z⟩) | z
  ·rcases hO.1 a with q | ⟨o,xs,q⟩ | ⟨_,q⟩<;>(rw[z]at q;cases q)
  ·exact .inl (.inr ⟨o,by simp only[z]⟩)
  ·exact .inr z
theorem wS {P:Program}{w:World}{base:Heap}{k:Nat}{ps:List Str}{st:Stmt}(F:Fd K mg x ps st):FnW P w K mg base C k x ps (λ_ _=>.stuck):=by obtain⟨a,fd,F,h,b⟩:=F.ex;exact⟨a,fd,hI,h,F.kp,b⟩
theorem j7 {X:Cx}{G:Gx}{W:Wd}{S:SS}{e:Expr}{r0 r:RW}(h:GE X G W S e r0)(hr:r0=r):GE X G W S e r:=hr ▸ h
end
section
variable {X:Cx}{F:Fx}{Z H:Hp}{pos Kn p0 IR IY:Pos}{k ep:Nat}{tg o:Expr}{a b:Str}{K:Frag}{es:Lp}{Gn:List (Key×V)}{P:Program}
def isStar:Expr->Bool
 | .Starred ..=>true
 | _=>false
theorem yJ {e:Expr}{env:Env}(h:isStar e=false):starEach (e::es) env=(false,eval e env)::starEach es env:=by
 cases e<;>first | rfl | cases h
def dDx (d k:D):R D:=match d with
 | .dic ks xs=>match keyOf k with
  | some k=>match dicGet (ks.zip xs) k with
   | some d=>.ok d
   | none=>.stuck
  | none=>.stuck
 | _=>.stuck
section
variable {e:Expr}{go g:KZ}
theorem DGet.kf {a:Addr}{o:Obj}{k:Key}(e:H a=some (.frz o (.dK Gn))):DGet H a (kV k) (valV Gn k):=.inl ⟨Gn,k,.inr ⟨o,e⟩,rfl,rfl⟩
theorem fq {ks:List Key}{xs:List D}{v:V}(h:Rep F.K F.C Z (.dic ks xs) v):∃ a Gn o,v=.ref a/\Z a=some (.frz o (.dK Gn))/\Pairs F Z (ks.zip xs) Gn:=by
 rw[Rep]at h;obtain⟨a,Gn,h1,⟨o,h2⟩,h3,h4⟩:=h;have l1:ks.length=Gn.length:=by rw[<- h3,Gg]
 have l2:xs.length=Gn.length:=by have:=h4.length;rw[Gg]at this;exact this
 refine⟨a,Gn,o,h1,h2,?_,?_⟩
 ·rw[List.map_fst_zip (by omega)];exact h3
 ·rw[Jx (by omega)];exact h4
theorem h8 (bx:BX X F k)(ho:FE X F o go)(he:FE X F e g)(hs:NoSl e:=by intro _ _;rfl):FE X F (.Subscript o e pos) (eOp dDx go g) :=
 (uO (by have:=bx.room.un;omega) ho he hs).weak λσ H Q ⟨Z,S,ok,w⟩=>by
  refine ak ok w λd x H1 Z1 ok1 x1 rx w1=>ak ok1 w1 λdk y H2 Z2 ok2 x2 ry w2=>?_
  cases d with
  | dic ks xs =>
   obtain⟨a,Gn,o,rfl,ez,r⟩:=fq rx;unfold dDx at w2;simp only at w2;cases ek:keyOf dk with
   | none=>rw[ek]at w2;exact w2.elim
   | some kk =>
    rw[ek]at w2;simp only at w2;cases ed:dicGet (ks.zip xs) kk with
    | none=>rw[ed]at w2;exact w2.elim
    | some d' =>
     rw[ed]at w2;obtain⟨v,f1,f2⟩:=(r.mono x2.z).get ed;rw[b7 ek ry];refine⟨a,v,rfl,?_,WG.now w2 ok2.sub v f2⟩;rw[<- f1];exact DGet.kf (ok2.sub _ _ (x2.z _ _ ez))
  | _=>exact w2.elim
def dDin (x d:D):R D:=match d with
 | .dic ks xs=>match keyOf x with
  | some k=>.ok (.bl (dicGet (ks.zip xs) k).isSome)
  | none=>.stuck
 | _=>.stuck
def dDnin (x d:D):R D:=match d with
 | .dic ks xs=>match keyOf x with
  | some k=>.ok (.bl (!(dicGet (ks.zip xs) k).isSome))
  | none=>.stuck
 | _=>.stuck
theorem Pairs.some {κ:Type}[DecidableEq κ]{Z:Hp}{k:κ}:∀ {m:List (κ×D)} {Gn:List (κ×V)},Pairs F Z m Gn->(valV Gn k).isSome=(dicGet m k).isSome
 | [],Gn,h=>by rw[h.inv0];rfl
 | (k',d')::m,Gn,h=>by
  obtain⟨v,q,rfl,h1,h2⟩:=h.inv;have ih:=Pairs.some (k:=k) h2;unfold valV dicGet at ih ⊢;rw[GY,GY];by_cases c:k'=k
  ·simp[c]
  ·simpa [c] using ih
theorem Bt (bx:BX X F k)(ho:FE X F o go)(he:FE X F e g):∀ σ H Q,tE F (eOp dDin g go) σ H Q->tDIn (tE F g) (tE F go) σ H Q:=λσ H Q ⟨Z,S,ok,w⟩=>by
 refine ak ok w λdk y H1 Z1 ok1 x1 ry w1=>ak ok1 w1 λd x H2 Z2 ok2 x2 rx w2=>?_
 cases d with
 | dic ks xs =>
  obtain⟨a,Gn,o,rfl,ez,r⟩:=fq rx;unfold dDin at w2;simp only at w2;cases ek:keyOf dk with
  | none=>rw[ek]at w2;exact w2.elim
  | some kk =>
   rw[ek]at w2;rw[b7 ek ry];refine⟨a,valV Gn kk,rfl,DGet.kf (ok2.sub _ _ ez),?_⟩;rw[r.some];exact WG.now w2 ok2.sub _ aG
 | _=>exact w2.elim
theorem yK (bx:BX X F k)(ho:FE X F o go)(he:FE X F e g):∀ σ H Q,tE F (eOp dDnin g go) σ H Q->tDNotIn (tE F g) (tE F go) σ H Q:=λσ H Q ⟨Z,S,ok,w⟩=>by
 refine ak ok w λdk y H1 Z1 ok1 x1 ry w1=>ak ok1 w1 λd x H2 Z2 ok2 x2 rx w2=>?_
 cases d with
 | dic ks xs =>
  obtain⟨a,Gn,o,rfl,ez,r⟩:=fq rx;unfold dDnin at w2;simp only at w2;cases ek:keyOf dk with
  | none=>rw[ek]at w2;exact w2.elim
  | some kk =>
   rw[ek]at w2;rw[b7 ek ry];refine⟨a,valV Gn kk,rfl,DGet.kf (ok2.sub _ _ ez),?_⟩;rw[r.some];exact WG.now w2 ok2.sub _ aG
 | _=>exact w2.elim
theorem uR (bx:BX X F k)(he:FE X F e g)(ho:FE X F o go)(hm:behindInMarks .In o=false:=by rfl):FE X F (.Compare e [.In] [o] pos) (eOp dDin g go):=(CQ (DM (by have:=bx.room.un;omega) he ho) hm).weak (Bt bx ho he)
theorem rC (bx:BX X F k)(he:FE X F e g)(ho:FE X F o go)(hm:behindInMarks .NotIn o=false:=by rfl):FT X F (.Compare e [.NotIn] [o] pos) (gB (eOp dDnin g go)):=(CS (wq (by have:=bx.room.un;omega) he ho) hm).weak (uu (yK bx ho he))
end
def dicD (m:List (Key×D)):D:=.dic (m.map (·.1)) (m.map (·.2))
section
variable {S:SS}{σ:Type}{J:σ->SS->Prop}
theorem StOk.freezeD {ρ:St}(h:StOk F H Z S ρ){i:Nat}{m:List (Key×D)}(e:S[i]?=some (some (.dic m))):∃ a Gn,H a=some (.dK Gn)/\Same Z (upd Z a (.dK Gn))/\∀ o:Obj,Same Z (upd Z a (.frz o (.dK Gn)))/\StOk F (upd H a (.frz o (.dK Gn))) (upd Z a (.frz o (.dK Gn))) (S.set i (some (.val (dicD m)))) ρ:=by
 obtain⟨v,A,e1,ow,p⟩:=h.sl i _ e;obtain⟨a,Gn,rfl,rfl,e2,r⟩:=id ow;have zn:Z a=none:=p.z a (.head _);refine⟨a,Gn,e2,ar zn,λo=>?_⟩;have hz:Same Z (upd Z a (.frz o (.dK Gn))):=ar zn;refine⟨hz,h.frzAllH e e1 ow (λb hb=>ae λz=>hb (by rw[z];exact .head _)) hz (λb u q=>?_) (λb q=>?_) (by rw[dicD,Rep];exact⟨a,Gn,rfl,⟨o,ah⟩,r.1,r.2.mono hz⟩)⟩
 ·by_cases z:b=a
  ·subst z;rw[ah]at q ⊢;exact q
  ·rw[ae z]at q ⊢;exact h.sub b u q
 ·by_cases z:b=a
  ·subst z;exact .inr (.head _)
  ·rw[ae z]at q;exact .inl q
theorem uS {am:Ll}{s:Shared}{ρ:St}{a:Addr}(I:Inv X am ρ H s)(e:H a=some (.dK Gn)):∃ o,Inv X am ρ (upd H a (.frz o (.dK Gn))) s:=by
 obtain⟨hz,hs,vs,kv,o,es,ep,e1,dd⟩:=I.hok a _ e;exact⟨o,g9 I (by rw[e];trivial) ⟨rfl,λ_ _=>rfl⟩ ⟨o,e1⟩ ⟨e1,hz,hs,vs,kv,o,es,ep,e1,dd⟩⟩
end
def Itx (x:Str):It where
 go:=λi _=>i < x.cps.size
 yld:=λi H v H'=>H'=H/\∃ c,x.cps[i]?=some c/\v=.str ⟨#[c]⟩
 stop:=λi _=>x.cps.size<=i
theorem tH {w:World}(x:Str)(t:Tok)(it:Addr):Turn P w K tg (Itx x) [it] it (λi h=>h.IsStrIter it "str_ascii_iterator" x t i) where
 mem:=by simp
 obj:=λi h st b hb=>by
  have e:b=it:=by simpa using hb
  subst e;obtain⟨o,ho,_,hd⟩:=st
  grind
 keep:=λi h h' st k=>let ⟨o,ho,r⟩:=st;⟨o,k it (by simp) o ho,r⟩
 item:=by
  intro X hP hw hK hc i am s σ H E I hf st hg;subst hP hw hK;have hg:i < x.cps.size:=hg;obtain⟨f0,f1,f2,f3,f4,f5⟩:=hf it (by simp);refine wpAny_pyNext_ascii_item st (c:=x.cps[i]) (by simp) λh' st' sb=>?_
  have I1:=I.turned (t':=s.toks+1) (λb o hb e=>(sb.2 b hb).trans e) f0 f1 f3 f4 f5;obtain⟨o,e,c,d⟩:=id st';exact⟨_,rfl,oi e c d (by decide) ⟨.str ⟨#[x.cps[i]]⟩,H,I1,⟨_,rfl⟩,⟨rfl,x.cps[i],by simp[hg],rfl⟩,st',λb hb=>(hf b hb).1⟩⟩
 done:=by
  intro X hP hw hK hc i am s σ H E I hf st hg;subst hP hw hK;have hg:x.cps.size<=i:=hg;obtain⟨f0,f1,f2,f3,f4,f5⟩:=hf it (by simp);exact wpAny_pyNext_ascii_end (I.ok.hd hc) st (by grind) λh' eb=>⟨rfl,I.turned (t':=s.toks) (λb o hb e=>eb b o hb e) f0 f1 f3 f4 f5⟩
 self:=λ_ _ _ _ _ st h=>wpAny_pyIter_striter_ascii st h
theorem wC {w:World}(x:Str)(t:Tok)(it:Addr):Turn P w K tg (Itx x) [it] it (λi h=>h.IsStrIter it "str_iterator" x t i) where
 mem:=by simp
 obj:=λi h st b hb=>by
  have e:b=it:=by simpa using hb
  subst e;obtain⟨o,ho,_,hd⟩:=st;exact⟨o,ho,λv z=>by rw[hd]at z;cases z⟩
 keep:=λi h h' st k=>let ⟨o,ho,r⟩:=st;⟨o,k it (by simp) o ho,r⟩
 item:=by
  intro X hP hw hK hc i am s σ H E I hf st hg;subst hP hw hK;have hg:i < x.cps.size:=hg;obtain⟨f0,f1,f2,f3,f4,f5⟩:=hf it (by simp);refine wpAny_pyNext_wide_item st (c:=x.cps[i]) (by simp[hg]) λh' st' sb=>?_
  have I1:=I.turned (t':=s.toks+1) (λb o hb e=>(sb.2 b hb).trans e) f0 f1 f3 f4 f5;obtain⟨o,e,c,d⟩:=id st';exact⟨_,rfl,oi e c d (by decide) ⟨.str ⟨#[x.cps[i]]⟩,H,I1,⟨_,rfl⟩,⟨rfl,x.cps[i],by simp[hg],rfl⟩,st',λb hb=>(hf b hb).1⟩⟩
 done:=by
  intro X hP hw hK hc i am s σ H E I hf st hg;subst hP hw hK;have hg:x.cps.size<=i:=hg;obtain⟨f0,f1,f2,f3,f4,f5⟩:=hf it (by simp);exact wpAny_pyNext_wide_end (I.ok.hd hc) st (by simp[hg]) λh' eb=>⟨rfl,I.turned (t':=s.toks) (λb o hb e=>eb b o hb e) f0 f1 f3 f4 f5⟩
 self:=λ_ _ _ _ _ st h=>wpAny_pyIter_striter_wide st h
def signs (x:Str):List D:=x.cps.toList.map λc=>.str ⟨#[c]⟩
def asTxt:D->R (List D)
 | .str x=>if x.cps.size<=16777216 then .ok (signs x) else .stuck
 | _=>.stuck
def iTxt (g:KZ):KY:=λS=>(g S).bind asTxt
theorem yL {x:Str}:WalkG F (Itx x) (signs x) Z:=λi H Z' z1 z2=>by
 have hl:(signs x).length=x.cps.size:=by simp[signs]
 refine⟨λhi=>⟨by rw[hl]at hi;exact hi,λv H' ⟨e,c,h1,h2⟩=>?_⟩,λhi=>by rw[hl]at hi;exact hi⟩;subst e h2;refine⟨Z',.str ⟨#[c]⟩,Ex.refl z2,?_,by rw[Rep]⟩;simp only[signs,Gu,Array.getElem?_toList,h1];rfl
theorem DX {l:Expr}{tl:TE}(hl:PE X l tl):PI X tg l (λσ H R=>tl σ H λv H1=>∃ x,v=.str x/\R (Itx x) H1):=by
 intro am s σ H R I h;refine thn (hl am s σ H _ I h) λv s1 ⟨y,H1,I1,r1,x,e,q⟩=>?_
 subst e;obtain⟨t,rfl⟩:=r1;have fin:∀ b∈[s1.heap.objs.size],FpOk X am H1 b:=λb hb=>by
  have e:b=s1.heap.objs.size:=by simpa using hb
  subst e;exact I1.fpOk (F7 _) (I1.hok.fresh (F7 _))
 cases ha:x.cps.all (· < 128)
 ·exact wpAny_pyIter_wide ha ⟨s1.heap.objs.size,[s1.heap.objs.size],_,_,H1,rfl,I1.kept λb o e=>F4 _ e,wC x t _,⟨_,Ge _ rfl,rfl,rfl⟩,fin,q⟩
 ·exact wpAny_pyIter_ascii ha ⟨s1.heap.objs.size,[s1.heap.objs.size],_,_,H1,rfl,I1.kept λb o e=>F4 _ e,tH x t _,⟨_,Ge _ rfl,rfl,rfl⟩,fin,q⟩
section
variable {a b e:Expr}{g ga gb go:KZ}{gs:KY}{p:Pos}
theorem DY (h:FE X F e g):FI X F tg e (iTxt g):=(DX h).weak λσ H Q ⟨Z,S,ok,w⟩=>ak ok w λd v H1 Z1 ok1 x1 rv w1=>by
 cases d with
 | str x =>
  rw[Rep]at rv;have w2:WG F H1 Z1 (if x.cps.size<=16777216 then R.ok (signs x) else .stuck) _:=w1;split at w2
  ·rename_i hl;exact⟨x,rv,WG.now w2 ok1.sub _ yL (by simp[signs];exact hl)⟩
  ·exact w2.elim
 | _=>exact w1.elim
def dInS:Lf
 | .str i,.str j=>.ok (.bl (!(Builtin.Str.occurrences j i 0 j.length 1).isEmpty))
 | _,_=>.stuck
theorem Bu:OpD F (λx y H Q=>∃ i j,x=.str i/\y=.str j/\Q (.bl (!(Builtin.Str.occurrences j i 0 j.length 1).isEmpty)) H) dInS:=by
 intro H Z x y dx dy Q s rx ry w;unfold dInS at w;split at w
 ·rename_i i j;rw[Rep]at rx ry;subst rx;subst ry;exact⟨i,j,rfl,rfl,WG.now w s _ aG⟩
 ·exact w.elim
theorem DZ (ha:FE X F a ga)(hb:FE X F b gb)(hm:behindInMarks .In b=false:=by rfl):FE X F (.Compare a [.In] [b] pos) (eOp dInS ga gb):=Dq vI Bu ha hb hm
def emptyO:Obj:={ cls:=.type "dict",data:=.dict #[] }
theorem yM:PE X (.Dict [] [] pos) (λ_ H Q=>∀ p,H p=none->Q (.ref p) (upd H p (.frz emptyO (.dK [])))):=λam s σ H Q I h =>
 wpAny_Dict_empty ⟨.ref s.heap.objs.size,_,I.laid (o:=.frz emptyO (.dK [])) (λ_ _ q=>F4 _ q) (F7 _) ⟨Ge _ rfl,rq s.heap I.big⟩,rfl,h _ (I.hok.fresh (F7 _))⟩
theorem lZ:FE X F (.Dict [] [] pos) (λ_=>.ok (.dic [] [])):=yM.weak λσ H Q ⟨Z,S,ok,w⟩=>λq hq =>
 w _ _ (Ex.alloc ok.sub hq) _ (by rw[Rep];exact⟨q,[],rfl,⟨emptyO,ah⟩,rfl,Reps.nil⟩)
end
theorem tJ :CallR X (.type "dict") (λxs H Q=>∃ a Gn,xs=[.ref a]/\Rd H a (.dK Gn)/\∀ p,H p=none->Q (.ref p) (upd H p (.dK Gn))):=by
 intro am s σ H xs us Q I r h;obtain⟨a,Gn,rfl,e,q⟩:=h;obtain⟨u,rfl,ru⟩:=r.one;cases ru;obtain⟨hz,hs,vs,kv,hd⟩:=kK I.hok e;refine kt_call_dict hs hd (by have:=kv.length;omega) λh' hm sb=>?_
 have hf:=I.hok.fresh (F7 _);have kp:∀ b u,s.heap.get? b=some u->h'.get? b=some u:=λb u e=>(sb.2 b (Gf (F8 e))).trans (F4 _ e)
 exact⟨.ref s.heap.objs.size,_,I.laid (o:=.dK Gn) kp (F7 _) ⟨hz,Hc.mpr (GM (Gf I.big)),vs,kv,hm⟩,rfl,q _ hf⟩
section
variable {e ei:Expr}{g:KZ}{gs:KY}{p:Pos}{x:Str}
def sDicOf (i:Nat)(gs:KY):SS->O:=λS=>rO ((gs S).bind λds=>match ds with
 | [.dic ks xs]=>if ks.length=xs.length then .ok (.nx (S.set i (some (.dic (ks.zip xs))))) else .stuck
 | _=>.stuck)
theorem rD (i:Nat)(bx:BX X F k)(hN:X.N.Nodup)(hg:Gl X "dict")(hm:X.mg "dict"=none)(ha:FA X F [e] gs)(hi:X.N[i]?=some x:=by rfl)(hx:Loc X.env.scope x:=by first | exact Or.inl rfl | exact Or.inr rfl)
  (hs:swapsWith (.Call (.Name "dict" p) [e] [] IY) (some (.Name x Kn)) pos.line X.env=pure false:=by rfl) (hf:KJ X x:=by first | exact .inl rfl | exact .inr rfl)
  (he:Id X e []:=by rfl) (hpl:IO X IY []:=by rfl) :
  FS X F (.Assign [.Name x Kn] (.Call (.Name "dict" p) [e] [] IY) pos) (sDicOf i gs) :=
 (pq hN hi hx (gY tJ hg hm (by decide +kernel) ha (he:=he)) hs hf).weak λD σ H ⟨Z,S,ok,w⟩=>aS ok (WO.wg ok w) λds vs H1 Z1 ok1 x1 rs w1=>by
  split at w1
  ·rename_i ks xs;split at w1
   ·rename_i hl;obtain⟨v,rfl,rv⟩:=aN rs;obtain⟨a,Gn,o,rfl,ez,r⟩:=fq rv;refine⟨a,Gn,rfl,.inr ⟨o,ok1.sub _ _ ez⟩,λq hq=>?_⟩;have w2:=WG.now w1 ok1.sub;exact w2 _ _ Z1 (Same.refl _) (ok1.putNew (Ex.hidden ok1.sub hq) ⟨q,Gn,rfl,rfl,ah,r⟩ ⟨by simp,λb hb=>by cases GP.mp hb;exact ok1.sub.free hq,λb hb=>by cases GP.mp hb;exact ok1.ex.same.free hq⟩ λb hb=>by cases GP.mp hb;exact hq)
   ·exact w1.elim
  ·exact w1.elim
def dropD (m:List (Key×D))(k:Key):List (Key×D):=m.filter λp=>!decide (p.1=k)
theorem Pairs.drop {Z:Hp}{k:Key}:∀ {m:List (Key×D)} {Gn:List (Key×V)},Pairs F Z m Gn->Pairs F Z (dropD m k) (dropK Gn k)
 | [],Gn,h=>by rw[h.inv0];exact Pairs.nil
 | (k',d')::m,Gn,h=>by
  obtain⟨v,q,rfl,h1,h2⟩:=h.inv;have ih:=Pairs.drop (k:=k) h2;unfold dropD dropK at ih ⊢;rw[G7,G7];by_cases c:k'=k
  ·rw[if_neg (by simp[c]),if_neg (by simp[c])];exact ih
  ·rw[if_pos (by simp[c]),if_pos (by simp[c])];exact⟨by rw[F5,F5,ih.1],Reps.cons h1 ih.2⟩
def sDicPop (i:Nat)(g:KZ):SS->O:=λS=>match S[i]? with
 | some (some (.dic m))=>rO ((g S).bind λdk=>match keyOf dk with
  | some kk=>if (dicGet m kk).isSome=true then .ok (.nx (S.set i (some (.dic (dropD m kk))))) else .stuck
  | none=>.stuck)
 | _=>.stuck
theorem wD (i:Nat)(he:FE X F e g)(hi:X.N[i]?=some x:=by rfl)(hv:Vis X.env.scope x:=by first | exact Or.inl rfl | exact Or.inr (Or.inl rfl) | exact Or.inr (Or.inr rfl))(hd:KH x:=by decide)
  (Ks:KK x:=by decide) (m1:M1 X (.Name x p0) "pop" IR e IY) (hsw:swapsWith (.Call (.Attribute (.Name x p0) "pop" IR) [e] [] IY) none pos.line X.env=pure false:=by rfl) :
  FS X F (.Expr (.Call (.Attribute (.Name x p0) "pop" IR) [e] [] IY) pos) (sDicPop i g) :=
 (k6 (yu (f8 hi hv hd Ks) he m1) hsw).weak λD σ H ⟨Z,S,ok,w⟩=>by
  unfold sDicPop at w;split at w
  ·rename_i m e0;obtain⟨a,Gn,e1,e2,r⟩:=ok.dic i m e0;refine⟨.ref a,e1,a,rfl,.inl ⟨_,Rd.of e2⟩,ak ok (WO.wg ok w) λdk y H1 Z1 ok1 x1 ry w1=>?_⟩;split at w1
   ·rename_i kk ek;split at w1
    ·rename_i hs;obtain⟨d',hd'⟩:=G5.mp hs;obtain⟨v,f1,f2⟩:=(r.mono x1.z).get hd';have w2:=WG.now w1 ok1.sub;refine⟨Gn,kk,v,x1.same _ _ e2,b7 ek ry,f1,?_⟩;exact w2 σ _ Z1 (Same.refl _) (ok1.rewr e0 e1 ⟨a,Gn,rfl,rfl,x1.same _ _ e2,r.mono x1.z⟩ ⟨a,_,rfl,rfl,ah,(r.mono x1.z).drop⟩ λb hb=>ae λz=>hb (by rw[z];exact .head _))
    ·exact w1.elim
   ·exact w1.elim
  ·exact w.elim
end
def leT (a b:Str):Bool:=!ltCps b.cps.toList a.cps.toList
def insT (x:Str):List Str->List Str
 | []=>[x]
 | y::r=>if leT x y=true then x::y::r else y::insT x r
def sortT:List Str->List Str
 | []=>[]
 | x::r=>insT x (sortT r)
theorem pX :leT a b=true↔a.cps.toList<=b.cps.toList:=by
 unfold leT;rw[ltCps_eq,Bool.not_eq_true',decide_eq_false_iff_not];exact List.not_lt
theorem wE (h:¬ leT a b=true):leT b a=true:=by
 rw[pX]at h ⊢;rcases List.le_total a.cps.toList b.cps.toList with z | z
 ·exact absurd z h
 ·exact z
theorem yN (h1:leT a b=true)(h2:leT b a=true):a=b:=by
 rw[pX]at h1 h2;have e:=List.le_antisymm h1 h2;cases a with | mk x=>cases b with | mk y=>exact GA Str.mk (Array.toList_inj.mp e)
theorem oP {c:Str}(h1:leT a b=true)(h2:leT b c=true):leT a c=true:=by
 rw[pX]at h1 h2 ⊢;exact List.le_trans h1 h2
theorem ke (x:Str):∀ l,(insT x l).Perm (x::l)
 | []=>.refl _
 | y::r=>by
  unfold insT;split
  ·exact .refl _
  ·exact((ke x r).cons y).trans (.swap x y r)
theorem iT:∀ l,(sortT l).Perm l
 | []=>.refl _
 | x::r=>(ke x _).trans ((iT r).cons x)
theorem uT (x:Str):∀ l,l.Pairwise (λa b=>leT a b=true)->(insT x l).Pairwise λa b=>leT a b=true
 | [],_=>by unfold insT;simp
 | y::r,h=>by
  have h1:=G8.mp h;unfold insT;split
  ·rename_i c;exact G8.mpr ⟨λz hz=>by
    rcases Gi.mp hz with e | hz
    ·rw[e];exact c
    ·exact oP c (h1.1 z hz),h⟩
  ·rename_i c;refine G8.mpr ⟨λz hz=>?_,uT x r h1.2⟩;rcases Gi.mp ((ke x r).mem_iff.mp hz) with e | hz
   ·rw[e];exact wE c
   ·exact h1.1 z hz
theorem rE:∀ l,(sortT l).Pairwise λa b=>leT a b=true
 | []=>.nil
 | x::r=>uT x _ (rE r)
theorem l7:∀ (l:List Str),sortedS l=true->l.Pairwise λa b=>leT a b=true
 | [],_=>.nil
 | [x],_=>by simp
 | x::y::r,h=>by
  have h':(leT x y&&risingS y r)=true:=h;rw[Gj]at h';have ih:=l7 (y::r) h'.2;refine G8.mpr ⟨λz hz=>?_,ih⟩;rcases Gi.mp hz with e | hz
  ·rw[e];exact h'.1
  ·exact oP h'.1 ((G8.mp ih).1 z hz)
theorem oQ:∀ {a b:List Str},a.Perm b->a.Pairwise (λa b=>leT a b=true)->b.Pairwise (λa b=>leT a b=true)->a=b
 | [],b,p,_,_=>(List.nil_perm.mp p).symm
 | x::xs,[],p,_,_=>nomatch p.length_eq
 | x::xs,y::ys,p,ha,hb=>by
  have h1:=G8.mp ha;have h2:=G8.mp hb;have e:x=y:=by
   have m1:x∈y::ys:=p.subset GZ;have m2:y∈x::xs:=p.symm.subset GZ;rcases Gi.mp m1 with e | m1
   ·exact e
   ·rcases Gi.mp m2 with e | m2
    ·exact e.symm
    ·exact yN (h1.1 y m2) (h2.1 x m1)
  subst e;exact GA (x::·) (oQ (p.cons_inv) h1.2 h2.2)
section
variable {prog:Program}{w:World}{A:Around}{E:KU}{s:Shared}{κ:Type}[DecidableEq κ]{knd:PySem.KeyKind prog w κ}
theorem tK {S d:Addr}{Gn:List (κ×Value)}{c:Nat}{R:Result->Lg}(hh:A.handled=none)(hd:(d==sysModules)=false)(hm:s.heap.DictAt knd d Gn ep)(Km:Gn.length<=1000)(hl:s.heap.get? S=some (lobj #[] c))
  (q:∀ h' tk Kr c',(∀ b o,b≠S->s.heap.get? b=some o->h'.get? b=some o)->h'.get? S=some { cls:=.type "list",dict:=none,data:=.seq Kr c',slots:=#[] } ->
   ItemsOf (λi v=>∃ k x,Gn[i]?=some (k,x)/\knd.is k v=true) Kr Gn.length->R (.ok (.ret (.ref S))) { s with heap:=h',toks:=tk }) :
  codeAny (model prog w) A (.builtin "list.__iadd__" ⟨[.ref S,.ref d],[]⟩) R s:=by
 refine Hh PySem.F.entry_list_iadd ?_;rw[G9 JB _];have go:wpAny (model prog w) A.in1 (Builtin.List.listExtendWith (.ref S) (.ref d) (.ref S)) (λfin s'=>match fin with | .done f=>R (.ok f) s' | .again c'=>c'.quiet=true/\codeAny (model prog w) A c' R s') (λe s'=>R (.error e) s') s :=
  rh (by grind) hd hm Km S (.ref S) c hl q
 exact go
theorem nr {d:Addr}{Gn:List (κ×Value)}{Q:List Value->Lg}(hh:A.handled=none)(hd:(d==sysModules)=false)(hm:s.heap.DictAt knd d Gn ep)(Km:Gn.length<=1000)
  (q:∀ h' tk (acc:Array Value),(∀ b o,s.heap.get? b=some o->h'.get? b=some o)->ItemsOf (λi v=>∃ k x,Gn[i]?=some (k,x)/\knd.is k v=true) acc Gn.length->Q acc.toList { s with heap:=h',toks:=tk }):wpAny (model prog w) A (collect (.ref d)) Q E s:=by
 unfold collect;refine F3 (wpAny_runValue (Hh PySem.F.entry_proto_collect ?_));rw[G9 PySem.F.plain_proto_collect _];unfold Builtin.«proto.collect»;have hm1:(s.heap.push (lobj #[] 0)).DictAt knd d Gn ep:=hm.at' λo e=>F4 _ e
 refine F3 (wpAny_newList (F6 ⟨Hu JB _,tK (by grind) hd hm1 Km (Ge _ rfl) λh' tk Kr c' hk hS K7=>?_⟩));refine F3 (wpAny_load hS (F6 ?_));exact q h' tk Kr (λb o e=>hk b o (Gf (F8 e)) (F4 _ e)) K7
theorem pY {d:Addr}{Gn:List (Key×Value)}{ss:List Str}{Q:KU}(hh:A.handled=none)(hd:(d==sysModules)=false)(hm:s.heap.DictAt (mixKind prog w) d Gn ep)(hs:Gn.map (·.1)=ss.map .inr)(h64:ss.length < 64)
  (q:∀ (h1 h':Heap) tk vs n,(∀ b o,s.heap.get? b=some o->h1.get? b=some o)->(∀ b o,h1.get? b=some o->h'.get? b=some o)->StrsAre vs (sortT ss)->h'.get? h1.objs.size=some (seqObj "list" vs.toArray n)->Q (.ref h1.objs.size) { s with heap:=h',toks:=tk }) :
  wpAny (model prog w) A (call (.builtin "sorted") [.ref d]) Q E s:=by
 have lk:Gn.length=ss.length:=by have:=GA List.length hs;simpa using this
 refine Calls.call_function_entry kind_sorted plain_sorted entry_sorted (args_sorted1 _) ?_;have go:wpAny (model prog w) A.in1 (collect (.ref d) >>= λxs=>newList xs >>= λl=>holding [l] (call (.builtin "list.sort") [l]) >>= λ_=>ret l) (λfin s'=>∃ v,fin=.done (.ret v)/\Q v s') E s:=by
  refine F3 (nr (by simpa using hh) hd hm (by omega) λh1 tk acc k1 it=>?_);have vS:StrsAre acc.toList ss:=by
   have:∀ (ss:List Str) (vs:List Value),vs.length=ss.length->(∀ (j:Nat) (y:Str) (v:Value),ss[j]?=some y->vs[j]?=some v->∃ t,v=.str y t)->StrsAre vs ss:=by
    intro ss
    induction ss with
    | nil=>intro vs hl _;cases vs with
     | nil=>exact .nil
     | cons _ _=>simp at hl
    | cons y l ih =>
     intro vs hl h;cases vs with
     | nil=>simp at hl
     | cons v vs =>
      obtain⟨t,e⟩:=h 0 y v rfl rfl;subst e;exact .cons y t (ih vs (by simpa using hl) λj q u e1 e2=>h (j+1) q u (by simpa using e1) (by simpa using e2))
   refine this ss acc.toList (by have:=it.1;simp;omega) λj y v e1 e2=>?_
   obtain⟨k,x,f1,f2⟩:=it.2 j v (by simpa using e2);have f3:(Gn.map (·.1))[j]?=some k:=by rw[Gu,f1];rfl
   rw[hs,Gu,e1]at f3;cases f3;exact IM f2
  have lv:acc.toList.length < 64:=by have:=it.1;simp;omega
  refine F3 (wpAny_newList ?_ (by rw[Go];omega));have e1:(h1.push (seqObj "list" acc.toList.toArray 0)).get? h1.objs.size=some (seqObj "list" acc.toList.toArray 0):=Ge _ rfl;refine F3 (HE (HA slot_list_sort ⟨_,e1,rfl⟩ entry_list_sort (list_sort_treeK strKind_oneLt e1 vS.keysOf (λv₁ v₂ rest e=>keyKind_strs (by rw[<- e];exact vS)) lv λst' a1 a2=>⟨_,rfl,?_⟩) (args_list_sort _)));obtain⟨ss',b1,b2,b3⟩:=sorted_out_str vS a1 a2;have e2:=oQ (b2.trans (iT ss).symm) (l7 _ b3) (rE ss);subst e2;obtain⟨n,hn⟩:=sortedHeap_at (out:=(arrOf st').map (·.2)) e1;refine F6 ⟨_,rfl,q h1 _ _ ((arrOf st').map (·.2)).toList n k1 (λb o e=>?_) b1 (by rw[Array.toArray_toList];exact hn)⟩;have lt:=F8 e;refine(sortedHeap_old (Gf lt) ?_).trans (F4 _ e);rw[size_push'];exact Nat.lt_succ_of_lt lt
 exact go
end
def textsOf:List Key->Option (List Str)
 | []=>some []
 | .inr x::r=>(textsOf r).map (x::·)
 | .inl _::_=>none
theorem kL:∀ {ks:List Key} {ss:List Str},textsOf ks=some ss->ks=ss.map .inr
 | [],ss,h=>by cases h;rfl
 | .inl _::_,ss,h=>nomatch h
 | .inr x::r,ss,h=>by
  unfold textsOf at h;cases q:textsOf r with
  | none=>rw[q]at h;cases h
  | some l=>rw[q]at h;cases h;rw[kL q];rfl
def dSortD:KS
 | [.dic ks _]=>match textsOf ks with
  | some ss=>if ss.length < 64 then .ok (.lst ((sortT ss).map .str)) else .stuck
  | none=>.stuck
 | _=>.stuck
theorem oR:∀ {vs:List Value} {ss:List Str},StrsAre vs ss->Vals (ss.map V.str) vs
 | _,_,.nil=>.nil
 | _,_,.cons y t h=>.cons ⟨t,rfl⟩ (oR h)
theorem oS {K:Frag}{C:La}{Z:Hp}:∀ ss:List Str,Reps K C Z (ss.map .str) (ss.map V.str)
 | []=>Reps.nil
 | x::r=>Reps.cons (by rw[Rep]) (oS r)
theorem uU {κ:Type}:∀ {Gn:List (κ×V)} {vs:List (κ×Value)},KV Gn vs->Gn.map (·.1)=vs.map (·.1)
 | _,_,.nil=>rfl
 | _,_,.cons r t=>by rw[F5,F5,r.1,uU t]
theorem pZ (hc:X.calm=true):CallR X (.builtin "sorted") (λxs H Q=>∃ a Gn ss,xs=[.ref a]/\Rd H a (.dK Gn)/\Gn.map (·.1)=ss.map .inr/\ss.length < 64/\∀ p,H p=none->Q (.ref p) (upd H p (.lst ((sortT ss).map V.str)))):=by
 intro am s σ H xs us Q I r h;obtain⟨a,Gn,ss,rfl,e,hk,h64,q⟩:=h;obtain⟨u,rfl,ru⟩:=r.one;cases ru;obtain⟨hz,hs,vs,kv,o,es,ep,dd⟩:=kK I.hok e;have hk2:vs.map (·.1)=ss.map .inr:=by
  rw[<- hk];exact(uU kv).symm
 refine pY (ep:=ep) (I.ok.hd hc) hs ⟨o,es,dd⟩ hk2 h64 λh1 h' tk ws n k1 k2 vS e1=>?_
 have I1:=I.kept (t':=tk) k1;exact⟨.ref h1.objs.size,_,I1.laid (a:=h1.objs.size) (o:=.lst ((sortT ss).map V.str)) (t':=tk) k2 (F7 _) ⟨by rw[Gg,(iT ss).length_eq,Go];omega,ws,n,oR vS,e1⟩,rfl,q _ (I1.hok.fresh (F7 _))⟩
section
variable {e:Expr}{gs:KY}{p:Pos}
theorem tM (bx:BX X F k)(hg:Gl X "sorted")(hm:X.mg "sorted"=none)(ha:FA X F [e] gs)(he:Id X e []:=by rfl)(hpl:IO X pos []:=by rfl) :
  FE X F (.Call (.Name "sorted" p) [e] [] pos) (eCall dSortD gs) :=
 (f9 (id := "sorted") (pZ bx.calm) hg hm (by decide +kernel) ha (he:=he) (hpl:=hpl)).weak λσ H Q ⟨Z,S,ok,w⟩=>by
  refine aS ok w λds vs H1 Z1 ok1 x1 rs w1=>?_
  unfold dSortD at w1;split at w1
  ·rename_i ks xs;split at w1
   ·rename_i ss et;split at w1
    ·rename_i hl;obtain⟨v,rfl,rv⟩:=aN rs;rw[Rep]at rv;obtain⟨a,Gn,rfl,⟨o,ez⟩,e3,e4⟩:=rv;have et:=kL et;refine⟨a,Gn,ss,rfl,.inr ⟨o,ok1.sub _ _ ez⟩,e3.trans et,hl,λq hq=>?_⟩;have w2:=w1;exact w2 _ _ (Ex.alloc ok1.sub hq) _ (by rw[Rep];exact⟨q,_,rfl,SqL.of ah,oS _⟩)
    ·exact w1.elim
   ·exact w1.elim
  ·exact w1.elim
end
structure FSw (X:Cx)(F:Fx)(st:Stmt)(g:SS->O):Prop where
 out:FS X F st g
structure FEw (X:Cx)(F:Fx)(e:Expr)(g:KZ):Prop where
 out:FE X F e g
section
variable {e:Expr}{g:KZ}{gs:List (KZ)}{x:Str}{Kv:Pos}
theorem cN {i j pos}:FEw X F (.Constant (.int i) j pos) (eC (.int i)):=⟨ac⟩
theorem bM {i j pos}:FEw X F (.Constant (.str i) j pos) (eC (.str i)):=⟨aj⟩
theorem li {x1}(h:FAL X F es gs)(hl:gs.length<=16777216:=by exact Gk rfl):FEw X F (.Tuple es x1 pos) (eBA (λds=>.ok (.tup ds)) gs):=⟨ap h hl⟩
theorem uV (h:FAL X F es gs)(hl:gs.length<=16777216:=by exact Gk rfl):FEw X F (.List es pos) (eBA (λds=>.ok (.lst ds)) gs):=⟨aA h hl⟩
theorem falw (ha:FEw X F e g)(hr:FAL X F es gs)(hs:isStar e=false:=by rfl):FAL X F (e::es) (g::gs):=lR ha.out hr (yJ hs)
theorem Bv (i:Nat)(hN:X.N.Nodup)(h:FEw X F e g)(hi:X.N[i]?=some x:=by rfl)(hx:Loc X.env.scope x:=by first | exact Or.inl rfl | exact Or.inr rfl)(hf:KJ X x:=by first | exact .inl rfl | exact .inr rfl)
  (hs:swapsWith e (some (.Name x Kn)) pos.line X.env=pure false:=by rfl):FSw X F (.Assign [.Name x Kn] e pos) (sSet i g):=⟨lG i hN h.out hi hx hs hf⟩
end
section
variable {G:Gx}{W:Wd}{S:SS}{σ:Type}{J:σ->SS->Prop}{st:Stmt}{rest:Lo}{α:Type}
end
end
section
variable {X:Cx}{k:Nat}{F:Fx}{g:KZ}{e o:Expr}{G:Gx}{W:Wd}{st:Stmt}{gs:List (KZ)}{sts:Lo}{pos IR IY:Pos}{P:Wd->D->Hp->Hp->Lh}
structure GLw {σ:Type}(X:Cx)(G:Gx)(W:Wd)(S:SS)(sts:Lo)(J:σ->SS->Prop)(l:LW σ):Prop where
 out:GL X G W S sts J l
section
variable {S:SS}{σ:Type}{J:σ->SS->Prop}{rest:Lo}{α:Type}
end
section
variable {P:Program}{w:World}{K:Frag}{mg:KW}{base:Heap}{C:La}{i:Nat}{N ps:List Str}{x:Str}{fn:KR}
def OkGBLw (P:Program)(w:World)(K:Frag)(mg:KW)(base:Heap)(C:La)(k i:Nat)(N:List Str)(x:Str)(st:Stmt)(W:Wd)(ds:List D)(l:LW Unit):Prop :=
 ∀ {f:Addr} {J4:Value} {A:Around} {outer:List Env} {s:Shared} {HW Z H:Hp} {E:XK},(λ(X:Cx) (G:Gx)=>BG X G k->PassesOwn (model P w) X.A X.env X.xe->MadeG X G->LamX X K C i->GLw X G W (startS N.length ds) (defBody st) JU l) (bodyX P w K mg base N x (defScope st) f J4 A outer s H E) ⟨K,C,HW,Z,H,E⟩
theorem okgl1w {p:Str}{c:Wd->D->LW Unit}(S:FnScope N [p] (defScope st))(h:∀ W a,OkGBLw P w K mg base C k i N x st W [a] (c W a)):OkGL P w K mg base C k i x st [p] (b1 c):=okgl1 S λW a=>λb1 b2 b3 b4=>(h W a b1 b2 b3 b4).out
end
def dicOf:D->R (List (Key×D))
 | .dic ks xs=>if ks.length=xs.length then .ok (ks.zip xs) else .stuck
 | _=>.stuck
def oDPop (m:List (Key×D))(dk:D):R (List (Key×D)):=match keyOf dk with
 | some kk=>if (dicGet m kk).isSome=true then .ok (dropD m kk) else .stuck
 | none=>.stuck
def sDicOfC (i:Nat)(g:KZ):SS->O:=λS=>rO (((g S).bind dicOf).bind λm=>.ok (.nx (S.set i (some (.dic m)))))
def sDicPopC (i:Nat)(g:KZ):SS->O:=λS=>match S[i]? with
 | some (some (.dic m))=>rO (((g S).bind (oDPop m)).bind λm'=>.ok (.nx (S.set i (some (.dic m')))))
 | _=>.stuck
section
variable {i:Nat}
theorem oU (h:FS X F st (sDicOf i (aL [g]))):FS X F st (sDicOfC i g):=k9 h λS=>by
 unfold sDicOf sDicOfC;rw[show aL [g] S=(g S).bind λd=>R.ok [d] from rfl];cases q:g S with
 | ok d =>
  cases d with
  | dic ks xs =>
   show rO (if ks.length=xs.length then R.ok (O.nx (S.set i (some (.dic (ks.zip xs))))) else .stuck)=rO ((if ks.length=xs.length then R.ok (ks.zip xs) else .stuck).bind _);by_cases c:ks.length=xs.length
   ·simp_all
   ·simp_all
  | _=>rfl
 | err k=>rfl
 | stuck=>rfl
theorem tN (h:FS X F st (sDicPop i g)):FS X F st (sDicPopC i g):=k9 h λS=>by
 unfold sDicPop sDicPopC;cases q:S[i]? with
 | none=>rfl
 | some o =>
  cases o with
  | none=>rfl
  | some y =>
   cases y with
   | dic m =>
    simp only;cases q2:g S with
    | ok d =>
     show rO (match keyOf d with | some kk=>if (dicGet m kk).isSome=true then R.ok (O.nx (S.set i (some (.dic (dropD m kk))))) else .stuck | none=>.stuck)=rO ((oDPop m d).bind _);unfold oDPop;cases keyOf d with
     | none=>rfl
     | some kk =>
      simp only;by_cases c:(dicGet m kk).isSome=true
      ·simp_all
      ·simp_all
    | err k=>rfl
    | stuck=>rfl
   | _=>rfl
end
section
variable {S:SS}{σ:Type}{J:σ->SS->Prop}
theorem uW (i:Nat){m:List (Key×D)}{S':SS}{l:LW σ}(hi:S[i]?=some (some (.dic m)))(hS:S.set i (some (.val (dicD m)))=S')(h:GL X G W S' sts J l):GL X G W S sts J l :=
 λam s ρ H D I ⟨HW,Z,ok,w⟩=>by
  obtain⟨a,Gn,e,_,k⟩:=ok.nm.freezeD hi;obtain⟨o,I'⟩:=uS I e;obtain⟨z,ok'⟩:=k o;rw[hS]at ok';exact h am s ρ _ D I' ⟨HW,_,ok.after ok',WGL.more z w⟩
end
section
variable {S:SS}{a b:Expr}{rest:Lp}{r:RW}{r2:Wd->RW}{gb:KZ}
theorem WRW.ge {HW Z H:Hp}{ρ:St}{P:Wd->D->Hp->Hp->Lh}{k:Wd->D->RW}{Q:VK}(ok:GOk G W HW Z H S ρ)(hQ:∀ w d Ko Z' H' v,GOk G w Ko Z' H' S ρ->Same Z Z'->Rep G.K G.C Z' d v->WRW G.K G.C G.E Ko Z' H' P (k w d)->Q v H'):∀ {r:RW},WRW G.K G.C G.E HW Z H P (rwB r k)->WRW G.K G.C G.E HW Z H (λ_ d _ Z' H'=>∀ v,Rep G.K G.C Z' d v->Q v H') r
 | .ok w d,h=>λKo Z' H' x wd v r=>hQ w d Ko Z' H' v (ok.more x wd) x.z r (WRW.more x h)
 | .er w k,h=>h
 | .al w f,h=>λa e=>WRW.ge ok hQ (h a e)
 | .stuck,h=>h
theorem CC (bg:BG X G k)(ha:GE X G W S a r)(hb:∀ H0 Z0 W',Wk (G.at H0 Z0) W'->FE X (G.at H0 Z0) b gb)(hs:PlainIx b:=by intro _ _;rfl):GE X G W S (.Subscript a b pos) (rwB r λw d=>rwA w (gb S) λy=>rwR w (dIx d y)):=by
 have hb':PE X b (λρ H Q=>∃ W' HW Z,GOk G W' HW Z H S ρ/\tE (G.fx HW Z H) gb ρ H Q):=λam s ρ H Q I ⟨W',HW,Z,ok,t⟩=>hb _ _ W' ok.wk am s ρ H Q I t
 refine(Cv (xD (X:=X)) ha hb' hs).weak λρ H Q ⟨HW,Z,ok,w⟩=>⟨HW,Z,ok,WRW.ge ok (λw1 d Kp Z1 H1 v ok1 z1 rd wl=>?_) w⟩
 refine⟨w1,Kp,Z1,ok1,Z1,S,ok1.nm,?_⟩;cases q:gb S with
 | err k=>rw[q]at wl;exact λH' x=>wl Kp Z1 H' ⟨λb o _ e=>x b o e,Same.refl _,ok1.zh.trans x,ok1.wh.trans x,λ_ h=>h,λ_ h=>.inl h,λ_ h=>.inl h,ok1.gx.dj⟩ ok1.wd
 | stuck=>rw[q]at wl;exact wl
 | ok y =>
  rw[q]at wl;intro H2 Z2 x2 u ru;have g2:=ok1.ex x2;have w3:WRW G.K G.C G.E Kp Z2 H2 (λ_ d _ Z' H'=>∀ v,Rep G.K G.C Z' d v->Q v H') (rwR w1 (dIx d y)):=WRW.more g2 wl;have key:=xJ (F:=G.at (λ_=>none) (λ_=>none)) H2 Z2 v u d y Q x2.sub (rd.mono x2.z) ru;rw[bg.K];refine key ?_;cases q2:dIx d y with
  | ok z=>rw[q2]at w3;exact λH3 Z3 x3 v3 r3=>w3 Kp Z3 H3 (GX.ex g2.zh g2.wh g2.dj x3) ((ok1.wd.mono (Same.refl _) x2.z).mono (Same.refl _) x3.z) v3 r3
  | err e =>
   rw[q2]at w3;exact λH' x=>w3 Kp Z2 H' ⟨λb o _ e=>x b o e,Same.refl _,g2.zh.trans x,g2.wh.trans x,λ_ h=>h,λ_ h=>.inl h,λ_ h=>.inl h,g2.dj⟩ (ok1.wd.mono (Same.refl _) x2.z)
  | stuck=>rw[q2]at w3;exact w3
def rwAnd (r:RW)(k:Wd->RW):RW:=rwB r λw d=>match d with
 | .bl true=>k w
 | .bl false=>.ok w (.bl false)
 | _=>.stuck
def rwOr (r:RW)(k:Wd->RW):RW:=rwB r λw d=>match d with
 | .bl true=>.ok w (.bl true)
 | .bl false=>k w
 | _=>.stuck
theorem WRW.gt {HW Z H:Hp}{ρ:St}{P:Wd->D->Hp->Hp->Lh}{k:Wd->D->RW}{Q:Bool->Lh}(ok:GOk G W HW Z H S ρ)(hQ:∀ w d Ko Z' H',GOk G w Ko Z' H' S ρ->Same Z Z'->WRW G.K G.C G.E Ko Z' H' P (k w d)->∃ t,d=.bl t/\Q t H'):∀ {r:RW},WRW G.K G.C G.E HW Z H P (rwB r k)->WRW G.K G.C G.E HW Z H (λ_ d _ Z' H'=>∃ t,d=.bl t/\Q t H') r
 | .ok w d,h=>λKo Z' H' x wd=>hQ w d Ko Z' H' (ok.more x wd) x.z (WRW.more x h)
 | .er w k,h=>h
 | .al w f,h=>λa e=>WRW.gt ok hQ (h a e)
 | .stuck,h=>h
abbrev GW (X:Cx)(G:Gx)(W:Wd)(S:SS)(e:Expr)(r:RW):Prop:=PW X e (tGT G W S r)
theorem tO (h:GT X G W S a r):GW X G W S (.BoolOp .Or [a] pos) r:=xm h
theorem gt_w (h:GW X G W S e r):GT X G W S e r:=h.pt
theorem yO (ha:GT X G W S a r)(hb:∀ w,GW X G w S (.BoolOp .Or (b::rest) pos) (r2 w)):GW X G W S (.BoolOp .Or (a::b::rest) pos) (rwOr r r2):=by
 have hb':PW X (.BoolOp .Or (b::rest) pos) (λρ H Q=>∃ w,tGT G w S (r2 w) ρ H Q):=λwh am s ρ H Q I ⟨w,t⟩=>hb w wh am s ρ H Q I t
 refine λwh am s ρ H Q I ⟨HW,Z,ok,w⟩=>Cq ha hb' wh am s ρ H Q I ⟨HW,Z,ok,WRW.gt ok (λw1 d Kp Z1 H1 ok1 z1 wl=>?_) w⟩
 cases d with
 | bl t =>
  refine⟨t,rfl,?_⟩;cases t with
  | true =>
   rw[if_pos rfl];obtain⟨t,e,q⟩:=wl Kp Z1 H1 ok1.self ok1.wd;cases e;exact q
  | false=>rw[if_neg Gv];exact⟨w1,Kp,Z1,ok1,wl⟩
 | _=>exact wl.elim
theorem yP {op:CmpOp}{rr:R2}{ff:Lf}(ho:OpR X (compareOp op) rr)(hd:∀ H0 Z0,OpD (G.at H0 Z0) rr ff)(ha:GE X G W S a r)(hb:∀ H0 Z0 W',Wk (G.at H0 Z0) W'->FE X (G.at H0 Z0) b gb)(hm:behindInMarks op b=false:=by first | exact nomark _ | rfl) :
  GT X G W S (.Compare a [op] [b] pos) (rwB r λw d=>rwA w (gb S) λy=>rwR w (ff d y)) :=
 (uo ho ha (yl hb) hm).weak λρ H Q ⟨HW,Z,ok,w⟩=>by
  have w':WRW G.K G.C G.E HW Z H (λ_ d _ Z' H'=>∀ v,Rep G.K G.C Z' d v->∃ t,v=.bl t/\Q t H') (rwB r λw d=>rwA w (gb S) λy=>rwR w (ff d y)):=w.imp λw1 d Ko Z' H' x wd ⟨t,e,q⟩ v rv=>by subst e;rw[Rep]at rv;exact⟨t,rv,q⟩
  exact⟨HW,Z,ok,WRW.bind (λw1 d Kp Z1 H1 x1 wd1 w2 v rv=>by
   have ok1:=ok.more x1 wd1;refine⟨w1,Kp,Z1,ok1,ym (α:=Unit) ok1 w2 λy vy H2 Z2 ok2 gx2 ry w3=>?_⟩;refine hd (kp Kp Z2 G.HW0 G.H0 H2) Z2 H2 Z2 v vy d y (λv H'=>∃ t,v=.bl t/\Q t H') ok2.zh (rv.mono gx2.z) ry ?_;cases q:ff d y with
   | ok z=>rw[q]at w3;exact λH3 Z3 x3=>w3 Kp Z3 H3 (ok2.ex x3) (ok2.wd.mono (Same.refl _) x3.z)
   | err k=>rw[q]at w3;exact λH' x=>w3 Kp Z2 H' ⟨λb o _ e=>x b o e,Same.refl _,ok2.zh.trans x,ok2.wh.trans x,λ_ h=>h,λ_ h=>.inl h,λ_ h=>.inl h,ok2.gx.dj⟩ ok2.wd
   | stuck=>rw[q]at w3;exact w3) w'⟩
theorem yQ (bg:BG X G k)(ha:GE X G W S a r)(hb:∀ H0 Z0 W',Wk (G.at H0 Z0) W'->FE X (G.at H0 Z0) b gb):GT X G W S (.Compare a [.NotEq] [b] pos) (rwB r λw d=>rwA w (gb S) λy=>rwR w (dNf d y)) :=
 yP (Cw (F:=G.at G.H0 G.Z0) bg.K bg.room) (λ_ _=>sT) ha hb
end
section
open Builtin Builtin.Str in
end
section
variable {e':Expr}{es:Lp}
end
end
end FF
end
noncomputable section
namespace L2
open PySem PySem.Spec PyProof.Rows
section
variable {X:Cx}{am:Ll}{σ:List (Option V)}{H H':Hp}{s:Shared}{h':Heap}
theorem Inv.laidN {t':Nat}(I:Inv X am σ H s)(k:∀ b u,s.heap.get? b=some u->h'.get? b=some u)(old:∀ b,b < s.heap.objs.size->H' b=H b)(new:∀ b u,s.heap.objs.size<=b->H' b=some u->ObjOk X.prog X.w H' h' b u):Inv X am σ H' { s with heap:=h',toks:=t' }:=by
 have up:∀ b u,H b=some u->H' b=some u:=λb u e=>by rw[old b (I.hok.lt e)];exact e
 refine I.un ⟨λb u q _ _ _=>k b u q,λb u q _ _ _=>⟨u.slots,k b u q⟩,λb u q n _=>by rw[old b (F8 q)];exact n,λb u q _=>⟨u,k b u q⟩,λb xs q=>up b _ q,λb u xs q=>up b _ q,λb ps q=>⟨#[],by rw[up b _ q];simp⟩⟩ λb u e=>?_
 by_cases hb:b < s.heap.objs.size
 ·rw[old b hb]at e;exact(I.hok b u e).stay (λc v _ q=>k c v q) (λc q=>up c _ q) λc xs q=>up c _ q
 ·grind
end
theorem uX {P:Program}{w:World}{k:Key}{u:Value}(h:(mixKind P w).is k u=true):RelV (kV k) u:=by
 rcases aH (show keyIs k u=true from h) with ⟨i,t,rfl,rfl⟩ | ⟨x,t,rfl,rfl⟩
 ·exact⟨t,rfl⟩
 ·exact⟨t,rfl⟩
end L2
namespace FF
open PySem PySem.Spec PyProof.Rows L2
section
variable {Gn:List (Key×V)}{vs:List (Key×Value)}{tg:Expr}{X:Cx}{Z:Hp}{F:Fx}{K:Frag}{a:Addr}
def Idk (a:Addr)(o:Obj)(Gn:List (Key×V)):It where
 go:=λi H=>i < Gn.length/\H a=some (.frz o (.dK Gn))
 yld:=λi H v H'=>H'=H/\∃ k x,Gn[i]?=some (k,x)/\v=kV k
 stop:=λi H=>Gn.length<=i/\H a=some (.frz o (.dK Gn))
theorem yR {Gn:List (Key×V)}{vs:List (Key×Value)}:∀ {i:Nat} {k:Key} {x:V},KV Gn vs->Gn[i]?=some (k,x)->∃ y,vs[i]?=some (k,y)/\RelV x y
 | 0,k,x,.cons (b:=b) r t,e=>by
  simp at e
  subst e;obtain⟨b1,b2⟩:=b;have r1:k=b1:=r.1;subst r1;exact⟨b2,rfl,r.2⟩
 | i+1,k,x,.cons r t,e=>by
  obtain⟨y,h1,h2⟩:=yR t (by simpa using e);exact⟨y,by simpa using h1,h2⟩
 | i,k,x,.nil,e=>by simp at e
theorem yS {P:Program}{w:World}{it:Addr}{o:Obj}{ep:Nat}(kv:KV Gn vs)(hd:∀ h:Heap,h.get? a=some o->h.DictAt (mixKind P w) a vs ep) :
  Turn P w K tg (Idk a o Gn) [it] it (λi h=>h.IsKeyIter it a i vs.length ep) where
 mem:=by simp
 obj:=λi h st b hb=>by
  have e:b=it:=by simpa using hb
  subst e;obtain⟨o,ho,_,hd⟩:=st;exact⟨o,ho,λv z=>by rw[hd]at z;cases z⟩
 keep:=λi h h' st k=>let ⟨o,ho,r⟩:=st;⟨o,k it (by simp) o ho,r⟩
 item:=by
  intro X hP hw hK hc i am s σ H E I hf st hg;subst hP hw hK;obtain⟨hi,hz⟩:=(show i < Gn.length/\H a=some (.frz o (.dK Gn)) from hg);obtain⟨f0,f1,f2,f3,f4,f5⟩:=hf it (by simp);have dm:=hd s.heap (I.hok a _ hz).1;have ex:=Gq hi;obtain⟨y,e1,_⟩:=yR kv ex;refine wpAny_pyNext_dict_item st dm e1 λkey h' hkey st' sb=>?_
  have I1:=I.turned (t':=s.toks) (λb o hb e=>(sb.2 b hb).trans e) f0 f1 f3 f4 f5;obtain⟨o',e,c,d⟩:=id st';exact⟨_,rfl,oi e c d (by decide) ⟨kV Gn[i].1,H,I1,uX hkey,⟨rfl,_,_,ex,rfl⟩,st',λb hb=>(hf b hb).1⟩⟩
 done:=by
  intro X hP hw hK hc i am s σ H E I hf st hg;subst hP hw hK;obtain⟨hi,hz⟩:=(show Gn.length<=i/\H a=some (.frz o (.dK Gn)) from hg);obtain⟨f0,f1,f2,f3,f4,f5⟩:=hf it (by simp);have dm:=hd s.heap (I.hok a _ hz).1;exact wpAny_pyNext_dict_end (I.ok.hd hc) st dm (JR (by rw[<- kv.length];exact hi)) λh' eb=>⟨rfl,I.turned (λb o hb e=>eb b o hb e) f0 f1 f3 f4 f5⟩
 self:=λ_ _ _ _ _ st h=>wpAny_pyIter_keyiter st h
theorem D0 {l:Expr}{tl:TE}(hl:PE X l tl):PI X tg l (λσ H R=>tl σ H λv H1=>∃ a o Gn,v=.ref a/\H1 a=some (.frz o (.dK Gn))/\R (Idk a o Gn) H1):=by
 intro am s σ H R I h;refine thn (hl am s σ H _ I h) λv s1 ⟨y,H1,I1,r1,a,o,Gn,e,ez,q⟩=>?_
 subst e;cases r1;have fin:∀ b∈[s1.heap.objs.size],FpOk X am H1 b:=λb hb=>by
  have e:b=s1.heap.objs.size:=by simpa using hb
  subst e;exact I1.fpOk (F7 _) (I1.hok.fresh (F7 _))
 obtain⟨e1,hz,hs,vs,kv,o',es,ep,e2,dd⟩:=I1.hok a _ ez;rw[e1]at e2;cases e2;have hd:∀ h:Heap,h.get? a=some o->h.DictAt (mixKind X.prog X.w) a vs ep:=λh e=>⟨o,es,e,dd⟩
 exact wpAny_pyIter_dict hs (hd _ e1) ⟨s1.heap.objs.size,[s1.heap.objs.size],_,_,H1,rfl,I1.kept λb o e=>F4 _ e,yS kv hd,⟨_,Ge _ rfl,rfl,rfl⟩,fin,q⟩
def keyD:Key->D
 | .inl i=>.int i
 | .inr x=>.str x
theorem uY {C:La}(k:Key):Rep K C Z (keyD k) (kV k):=by cases k<;>(unfold keyD;rw[Rep];rfl)
def asKeys:D->R (List D)
 | .dic ks _=>if ks.length<=1000000 then .ok (ks.map keyD) else .stuck
 | _=>.stuck
def iDic (g:KZ):KY:=λS=>(g S).bind asKeys
theorem yT {o:Obj}{ks:List Key}(hz:Z a=some (.frz o (.dK Gn)))(hk:Gn.map (·.1)=ks):WalkG F (Idk a o Gn) (ks.map keyD) Z:=λi H Z' z1 z2=>by
 subst hk;have hl:((Gn.map (·.1)).map keyD).length=Gn.length:=by simp
 have e:=z2 _ _ (z1 _ _ hz);refine⟨λhi=>⟨⟨by rw[hl]at hi;exact hi,e⟩,λv H' ⟨e',k,x,h1,h2⟩=>?_⟩,λhi=>⟨by rw[hl]at hi;exact hi,e⟩⟩;subst e' h2;exact⟨Z',keyD k,Ex.refl z2,by rw[Ho,Gu,h1];rfl,uY k⟩
section
variable {a b e o:Expr}{g ga gb go:KZ}{gs:KY}{p pos IR IY:Pos}{k:Nat}
theorem D1 (h:FE X F e g):FI X F tg e (iDic g):=(D0 h).weak λσ H Q ⟨Z,S,ok,w⟩=>ak ok w λd v H1 Z1 ok1 x1 rv w1=>by
 cases d with
 | dic ks xs =>
  rw[Rep]at rv;obtain⟨a,Gn,rfl,⟨o,ez⟩,hk,r⟩:=rv;have w2:WG F H1 Z1 (if ks.length<=1000000 then R.ok (ks.map keyD) else .stuck) _:=w1;split at w2
  ·rename_i hl;exact⟨a,o,Gn,rfl,ok1.sub _ _ ez,WG.now w2 ok1.sub _ (yT ez hk) (by rw[Gg];omega)⟩
  ·exact w2.elim
 | _=>exact w1.elim
def dicEq (ka kb:List (Key×D)):Bool:=ka.length==kb.length&&ka.all λp=>match dicGet kb p.1 with
 | some y=>eqD p.2 y
 | none=>false
def dDEq:Lf
 | .dic ks xs,.dic js ys=>if (ks.length=xs.length/\js.length=ys.length)/\goods 60 xs=true/\goods 60 ys=true then .ok (.bl (dicEq (ks.zip xs) (js.zip ys))) else .stuck
 | _,_=>.stuck
def dDNe:Lf
 | .dic ks xs,.dic js ys=>if (ks.length=xs.length/\js.length=ys.length)/\goods 60 xs=true/\goods 60 ys=true then .ok (.bl (!dicEq (ks.zip xs) (js.zip ys))) else .stuck
 | _,_=>.stuck
theorem yU (r:KV Gn vs)(k:Key):RelO (valV Gn k) (valueAt vs k):=r.val k
theorem uZ {X:Cx}{F:Fx}{am:Ll}{σ:St}{H Z:Hp}{s:Shared}{A:Around}(hK:X.K=F.K)(I:Inv X am σ H s)(z:Same Z H)(hu:A.units+60 < cLine){mb:List (Key×D)}{kb:List (Key×V)}{vb:List (Key×Value)}(pb:Pairs F Z mb kb)(rb:KV kb vb)(gb:goods 60 (mb.map (·.2))=true) :
  ∀ {ma:List (Key×D)} {ka:List (Key×V)} {va:List (Key×Value)},Pairs F Z ma ka->KV ka va->goods 60 (ma.map (·.2))=true->PySem.W.KeqHits A s vb va (ma.all λp=>match dicGet mb p.1 with | some y=>eqD p.2 y | none=>false)
 | [],ka,va,pa,ra,_=>by
  rw[pa.inv0]at ra;cases ra;exact .nil
 | (k,d)::ma,ka,va,pa,ra,ga=>by
  obtain⟨v,q,rfl,h1,h2⟩:=pa.inv;cases ra with
  | cons r t =>
   rename_i u va;obtain⟨uk,uv⟩:=u;obtain⟨r1,r2⟩:=r;have r1:k=uk:=r1;subst r1;rw[F5,goods,Gj]at ga;have ih:=uZ hK I z hu pb rb gb h2 t ga.2;rw[HQ];cases e:dicGet mb k with
   | none =>
    have n:valV kb k=none:=by
     have:=pb.some (k:=k);rw[e]at this;cases q2:valV kb k with
     | none=>rfl
     | some _=>rw[q2]at this;cases this
    have n2:valueAt vb k=none:=by
     have:=yU rb k;rw[n]at this;cases q3:valueAt vb k with
     | none=>rfl
     | some _=>rw[q3]at this;exact absurd this (by intro h;cases h)
    simp only[e,Bool.false_and];exact .miss n2
   | some y =>
    obtain⟨w,f1,f2⟩:=pb.get e;have:=yU rb k;rw[f1]at this;cases q3:valueAt vb k with
    | none=>rw[q3]at this;exact absurd this (by intro h;cases h)
    | some wv =>
     rw[q3]at this;have rw':RelV w wv:=this;simp only[e];refine .hit q3 (sP hK I z 60 A d y v w uv wv ga.1 ?_ h1 f2 r2 rw' hu) ih;have hm:y∈mb.map (·.2):=by
      unfold dicGet at e;cases q4:mb.find? λkv=>decide (kv.1=k) with
      | none=>rw[q4]at e;cases e
      | some p =>
       rw[q4]at e;cases e;exact GS (List.mem_of_find?_eq_some q4)
     obtain⟨j,hj⟩:=List.mem_iff_getElem?.mp hm;exact gZ gb hj
end
end
section
variable {s:Shared}{prog:Program}{A:Around}{E:KU}
def rDE (K:Frag)(C:La)(ne:Bool):R2:=λx y H Q=>∃ Z ks xs js ys,Same Z H/\Rep K C Z (.dic ks xs) x/\Rep K C Z (.dic js ys) y/\(ks.length=xs.length/\js.length=ys.length)/\(goods 60 xs=true/\goods 60 ys=true)/\Q (.bl (xor ne (dicEq (ks.zip xs) (js.zip ys)))) H
section
variable {X:Cx}{F:Fx}{a b:Expr}{ga gb:KZ}{pos:Pos}{k:Nat}
theorem rF {K:Frag}{C:La}{ne:Bool}{am:Ll}{σ:St}{H:Hp}{x y:V}{v u:Value}{Q:VK}(hK:X.K=K)(hr:X.A.units+64 < cLine)(I:Inv X am σ H s)(rx:RelV x v)(ry:RelV y u)(h:rDE K C ne x y H Q) :
  ∃ a b va vb r,v=.ref a/\u=.ref b/\(a==sysModules)=false/\(b==sysModules)=false/\s.heap.DictOf (mixKind X.prog X.w) a va/\s.heap.DictOf (mixKind X.prog X.w) b vb/\PySem.W.KeqHits X.A.in1 s vb va r/\EP X am σ Q (.bool (xor ne (va.length==vb.length&&r))) s:=by
 obtain⟨Z,ks,xs,js,ys,z,h1,h2,⟨l1,l2⟩,⟨g1,g2⟩,q⟩:=h;obtain⟨a,ka,oa,rfl,ea,pa⟩:=fq (F:=⟨K,C,H,Z,λ_ _ _=>False⟩) h1;obtain⟨b,kb,ob,rfl,eb,pb⟩:=fq (F:=⟨K,C,H,Z,λ_ _ _=>False⟩) h2;cases rx;cases ry;obtain⟨_,_,hsa,va,kva,da⟩:=I.hok a _ (z _ _ ea);obtain⟨_,_,hsb,vb,kvb,db⟩:=I.hok b _ (z _ _ eb);have m1:(ks.zip xs).map (·.2)=xs:=Jx (by omega);have m2:(js.zip ys).map (·.2)=ys:=Jx (by omega);have hits:=uZ (A:=X.A.in1) hK I z (by show X.A.units+1+60 < cLine;omega) pb kvb (by rw[m2];exact g2) pa kva (by rw[m1];exact g1);have la:va.length=(ks.zip xs).length:=by
  rw[<- kva.length];have:=GA List.length pa.1
  simpa using this
 have lb:vb.length=(js.zip ys).length:=by
  rw[<- kvb.length];have:=GA List.length pb.1
  simpa using this
 refine⟨a,b,va,vb,_,rfl,rfl,hsa,hsb,da,db,hits,.bl (xor ne (dicEq (ks.zip xs) (js.zip ys))),H,I,?_,q⟩;rw[la,lb];rfl
theorem Fe (hK:X.K=F.K)(hr:Room k X.A):OpR X (compareOp .Eq) (rDE F.K F.C false):=by
 intro am s σ H x y v u Q I rx ry h;obtain⟨a,b,va,vb,r,rfl,rfl,h1,h2,da,db,hits,q⟩:=rF hK (by have:=hr.un;omega) I rx ry h;exact PySem.W.keq_eq h1 h2 da db (by have:=hr.un;omega) (λ_=>hits) (by simpa using q)
theorem D2 (hK:X.K=F.K)(hr:Room k X.A):OpR X (compareOp .NotEq) (rDE F.K F.C true):=by
 intro am s σ H x y v u Q I rx ry h;obtain⟨a,b,va,vb,r,rfl,rfl,h1,h2,da,db,hits,q⟩:=rF hK (by have:=hr.un;omega) I rx ry h;exact PySem.W.keq_ne h1 h2 da db (by have:=hr.un;omega) (λ_=>hits) (by simpa using q)
theorem Bw:OpD F (rDE F.K F.C true) dDNe:=by
 intro H Z x y dx dy Q s rx ry w;unfold dDNe at w;split at w
 ·split at w
  ·rename_i g;exact⟨Z,_,_,_,_,s,rx,ry,g.1,g.2,WG.now w s _ (by rw[Bool.true_xor];exact aG)⟩
  ·exact w.elim
 ·exact w.elim
end
theorem l8:typeLookup (.type "list") "keys"=pure none:=by rw[typeLookup_type,JZ];kernel_rfl
set_option maxHeartbeats 1000000 in
theorem iU {w:World}{a:Addr}{o:Obj}{xs:Array Value}{k:Nat}{name:Str}{Q:Option Value->Lg}
  (hx:s.heap.get? a=some o) (hc:o.cls=.type "list") (hdat:o.data=.seq xs k) (hd:o.dict=none) (hmiss:typeLookup (.type "list") name=pure none) (hname:(["__module__","__name__","__qualname__","__doc__","__annotations__"]:List Str).contains name=false) (hA:A.handled=none)
  (h:∀ h' tk,(∀ b o,s.heap.get? b=some o->h'.get? b=some o)->Q none { s with heap:=h',toks:=tk }) (K2:name.length+100<=sizeLine:=by size_fits) :
  wpAny (model prog w) A (getAttr? (.ref a) name) Q E s:=by
 obtain⟨c,dct,dat,sl⟩:=o;simp only at hc hdat hd;subst hc hdat hd;obtain⟨hp,g,d,tk,os⟩:=s;have hT:∀ tk',(⟨hp,g,d,tk',os⟩:Shared).TypeIs (.ref a) "list" := λ_=>⟨_,hx,rfl⟩
 have f1:=sub_AttributeError;have f3:=Ie.lookup;have f4:=Ie.bind (.ref a);have f5:=am_list_getattr_none;unfold getAttr? getAttrBy? getAttrBy
 repeat (any_goals (first | assumption | exact hT _ | ((with_reducible show wpAny _ _ (call (Value.builtin "list.__getattribute__") _ _) _ _ _);refine Hy Ie (hT _) am_entry_list_getattribute (F.args_list_getattribute_2 _ _) (meets_getattribute_miss_list a xs k sl name _ hmiss hname K2) ⟨hx,hA,λh' tk' e hx'=>?_⟩) | wp_step))
 obtain⟨t',u',he⟩:=hx'.there;unfold getattributeRaised
 repeat (any_goals (first | assumption | wp_step))
 exact h _ _ hx'.keeps
theorem ia:plainId "dict.update.loop"=true:=by decide +kernel
theorem oV:entryFor table "dict.update.loop"=some Builtin.«dict.update.loop»:=entryFor_of_tree (by kernel_rfl)
section
variable {w:World}{R:Result->Lg}
theorem wF {d it l:Addr}{items:Array Value}{res:Value}(hh:A.handled=none)(hdi:d≠it)(hdl:d≠l)(hli:l≠it):∀ (n:Nat) (i:Nat) (acc rest:List (Key×Value)) (s:Shared),n=rest.length->items.size=i+n->acc.length+n<=1000000 ->
  s.heap.IsListIter it l i->s.heap.IsList l items->s.heap.DictOf (mixKind prog w) d acc ->
  (∀ (j:Nat) (p:Key×Value),rest[j]?=some p->∃ b key,items[i+j]?=some (.ref b)/\b≠d/\b≠it/\(mixKind prog w).is p.1 key=true/\IsTup s.heap b #[key,p.2]) ->
  (∀ h' tk,h'.DictOf (mixKind prog w) d (merged acc rest)->(∀ b o,b≠d->b≠it->s.heap.get? b=some o->h'.get? b=some o)->R (.ok (.ret res)) { s with heap:=h',toks:=tk }) ->
  codeAny (model prog w) A (.builtin "dict.update.loop" ⟨[.ref d,.ref it,rawInt i,res],[]⟩) R s:=by
 intro n
 induction n with
 | zero =>
  intro i acc rest s hn K2 hl hit hL hD hP hR;have hr:rest=[]:=IL hn.symm;subst hr;refine Hh oV ?_;rw[G9 ia _];unfold Builtin.«dict.update.loop»;refine F3 (JP (by simpa using hh) hit hL (by rw[Array.getElem?_eq_none_iff];omega) λh' eb=>?_);refine F3 (F6 (F6 ?_));exact hR h' s.toks (by
   obtain⟨o,es,ep,e,r⟩:=hD;exact⟨o,es,ep,eb d o hdi e,r⟩) λb o h1 h2 e=>eb b o h2 e
 | succ n ih =>
  intro i acc rest s hn K2 hl hit hL hD hP hR;cases rest with
  | nil=>simp at hn
  | cons p rest =>
   obtain⟨k,v⟩:=p;obtain⟨b,key,e1,b1,b2,hkey,hT⟩:=hP 0 (k,v) rfl;rw[Jv]at e1;refine Hh oV ?_;rw[G9 ia _];unfold Builtin.«dict.update.loop»;refine F3 (JG hit hL e1 λh1 hit1 sb=>?_);obtain⟨ob,hb,hbc,nb,hbd⟩:=hT;have hb1:=(sb.2 b b2).trans hb;refine F3 (HE ?_);refine F3 (wpAny_tryCatch ?_);unfold Builtin.Dict.pairItems;refine F3 (IJ ⟨ob,hb1,hbc⟩ ?_);rw[if_pos (by decide)];refine F3 (IS hb1 hbd (F6 ?_));have hD1:h1.DictOf (mixKind prog w) d acc:=by
    obtain⟨o,es,ep,e,r⟩:=hD;exact⟨o,es,ep,(sb.2 d hdi).trans e,r⟩
   refine HE (wpAny_dictSet_pairs hkey hD1 (λh2 hD2 sb2=>?_) (by rw[Go];omega));refine F6 ⟨Hu ia _,?_⟩;have kp:∀ c o,c≠d->c≠it->s.heap.get? c=some o->h2.get? c=some o:=λc o h1 h2 e=>(sb2.2 c h1).trans ((sb.2 c h2).trans e)
   have hit2:h2.IsListIter it l (i+1):=by
    obtain⟨o,e,r⟩:=hit1;exact⟨o,(sb2.2 it (GM hdi)).trans e,r⟩
   have hL2:h2.IsList l items:=by
    obtain⟨o,e,r⟩:=hL;exact⟨o,kp l o (GM hdl) hli e,r⟩
   have Km:(stored acc k v).length<=acc.length+1:=by
    unfold stored;split<;>simp
   have e0:rawInt ((i:Int)+1)=rawInt ((i+1:Nat):Int):=by congr 1
   rw[Gb]at hn;rw[e0];refine ih (i+1) (stored acc k v) rest _ (by omega) (by omega) (by omega) hit2 hL2 hD2 (λj q hq=>?_) λh' tk hD' kp'=>?_
   ·obtain⟨c,ky,f1,f2,f3,f4,oc,g1,g2⟩:=hP (j+1) q (by simpa using hq);exact⟨c,ky,by rw[show i+1+j=i+(j+1) by omega];exact f1,f2,f3,f4,oc,kp c oc f2 f3 g1,g2⟩
   ·exact hR h' tk hD' λc o h1 h2 e=>kp' c o h1 h2 (kp c o h1 h2 e)
end
end
section
variable {X:Cx}{H Z:Hp}{pos p p2 IR IY tp pos2:Pos}{K:Frag}{e a b:Expr}{n k j kk:Nat}{C:La}{S:SS}{es:Lp}{x:Str}{am:Ll}{go gb g:KZ}{st:Stmt}{S':D->D->SS}{gs:List (KZ)}{f:Obj->Obj}
inductive Prs (K:Frag)(H:Hp):List V->List (Key×V)->Prop
 | nil:Prs K H [] []
 | cons {b:Addr} {k:Key} {v:V} {ps:List V} {Gn:List (Key×V)} (h:SqT K H b [kV k,v]) (t:Prs K H ps Gn):Prs K H (.ref b::ps) ((k,v)::Gn)
theorem oW {X:Cx}{am:Ll}{σ:St}{H:Hp}{s:Shared}(I:Inv X am σ H s):∀ {ps:List V} {Gn:List (Key×V)} {its:List Value},Prs X.K H ps Gn->Vals ps its->∃ rest:List (Key×Value),KV Gn rest/\rest.length=its.length /\
  ∀ (j:Nat) (p:Key×Value),rest[j]?=some p->∃ b key,its[j]?=some (.ref b)/\(mixKind X.prog X.w).is p.1 key=true/\IsTup s.heap b #[key,p.2]
 | _,_,_,.nil,.nil=>⟨[],.nil,rfl,λj p e=>by simp at e⟩
 | _,_,_,.cons (b:=b) (k:=k) h t,.cons r rs=>by
  cases r;obtain⟨rest,h1,h2,h3⟩:=oW I t rs;obtain⟨ws,rw',tu,_⟩:=I.tuple h;obtain⟨u,y,rfl,ru,ry⟩:=vals2 rw';refine⟨(k,y)::rest,.cons ⟨rfl,ry⟩ h1,by rw[Gb,Gb,h2],λj p e=>?_⟩;cases j with
  | zero=>simp at e;subst e;exact⟨b,u,rfl,jf ru,tu⟩
  | succ j =>
   obtain⟨c,key,f1,f2,f3⟩:=h3 j p (by simpa using e);exact⟨c,key,by simpa using f1,f2,f3⟩
theorem tQ (hc:X.calm=true):CallR X (.type "dict") (λxs H Q=>∃ a ps Gn,xs=[.ref a]/\SqL X.K H a ps/\Gn.length<=100000/\Prs X.K H ps Gn/\∀ p o,H p=none->Q (.ref p) (upd H p (.frz o (.dK (mergeK [] Gn))))):=by
 intro am s σ H xs us Q I r h;obtain⟨a,ps,Gn,rfl,hq,hz,hp,q⟩:=h;obtain⟨u,rfl,ru⟩:=r.one;cases ru;obtain⟨its,rv,⟨ol,nl,el,hlc,hld,hls⟩,_⟩:=I.list hq;obtain⟨rest,kvr,hrl,hrp⟩:=oW I hp rv;have hA:=I.ok.hd hc;have K4:∀ {b:Addr} {o:Obj},s.heap.get? b=some o->b≠s.heap.objs.size:=λe=>Gf (F8 e)
 refine JW (Q₁:=λobj s₁=>obj=.ref s.heap.objs.size/\s₁={ s with heap:=s.heap.push { cls:=.type "dict",data:=.dict #[] } }) F.kt_called_dict (F.kt_typeCall_dict_1 _) F.entry_dict_init (kt_code_dict_new _ ⟨rfl,rfl⟩) ?_
 rintro obj s₁ ⟨rfl,rfl⟩
 have K5:(s.heap.push { cls:=.type "dict",data:=.dict #[] }).DictOf (mixKind X.prog X.w) s.heap.objs.size []:=Heap.DictOf.new s.heap;have el1:(s.heap.push { cls:=.type "dict",data:=.dict #[] }).get? a=some ol:=F4 _ el;refine⟨K5.typeIs,F.args_dict_init_2 _ _,?_⟩;unfold Builtin.«dict.__init__»;refine F3 ?_;unfold Builtin.Dict.selfAndRest;refine F3 (wpAny_notOrdered_dict K5.typeIs ?_);refine F6 ?_;show wpAny _ _ (Builtin.Dict.updateFrom "dict.__init__" s.heap.objs.size (.ref a) [] .none) _ _ _;unfold Builtin.Dict.updateFrom;refine F3 (IJ ⟨ol,el1,hlc⟩ ?_);rw[if_pos (by decide)];refine F3 (iU el1 hlc hls hld l8 (by decide +kernel) (by simpa using hA) (λh1 tk1 k1=>?_) (by decide +kernel));have el2:=k1 _ _ el1;have hL2:h1.IsList a its.toArray:=⟨ol,el2,hlc,nl,hls⟩;have hD2:h1.DictOf (mixKind X.prog X.w) s.heap.objs.size []:=by
  obtain⟨o,es,ep,e,r⟩:=K5;exact⟨o,es,ep,k1 _ _ e,r⟩
 have hDlt:s.heap.objs.size < h1.objs.size:=by
  obtain⟨o,es,ep,e,r⟩:=hD2;exact F8 e
 rw[if_pos (show (none:Lm).isNone=true from rfl)];refine F3 (IC ?_);refine F3 (Jg hL2 ?_);refine F6 ⟨Hu ia _,?_⟩;have K2:its.toArray.size=0+rest.length:=by rw[F9,hrl];omega
 have hkl:=kvr.length.symm;refine wF (by simpa using hA) (Gf hDlt) (GM (K4 el)) (Gf (F8 el2)) rest.length 0 [] rest _ rfl K2 (by rw[Hr];omega) ⟨_,Ge _ rfl,rfl,rfl⟩
  (by obtain⟨o,e,r⟩:=hL2;exact⟨o,F4 _ e,r⟩) (by obtain⟨o,es,ep,e,r⟩:=hD2;exact⟨o,es,ep,F4 _ e,r⟩) (λj p e=>?_) λh' tk hD' kp=>?_
 ·obtain⟨b,key,f1,f2,ob,g1,g2⟩:=hrp j p e;have g1':=k1 _ _ (F4 _ g1);exact⟨b,key,by rw[Nat.zero_add];simpa using f1,K4 g1,Gf (F8 g1'),f2,ob,F4 _ g1',g2⟩
 ·have kp':=λb u e=>by
   have e1:h1.get? b=some u:=k1 _ _ (F4 _ e);exact kp b u (K4 e) (Gf (F8 e1)) (F4 _ e1)
  have hf:=I.hok.fresh (F7 _);obtain⟨o,es,ep,eo,dd⟩:=id hD';have hm:=KV.merge kvr .nil;have hml:(mergeK [] Gn).length<=sizeLine:=by have:=dS Gn [];rw[Go];simp at this;omega
  refine⟨rfl,.ref s.heap.objs.size,_,I.laid (o:=.frz o (.dK (mergeK [] Gn))) kp' (F7 _) ⟨eo,hml,Hc.mpr (GM (Gf I.big)),_,hm,hD'⟩,rfl,q _ o hf⟩
def pairsD:List D->Option (List (Key×D))
 | []=>some []
 | .tup [k,v]::r=>match keyOf k,pairsD r with
  | some kk,some l=>some ((kk,v)::l)
  | _,_=>none
 | _=>none
def mergeD (m l:List (Key×D)):List (Key×D):=l.foldl (λm p=>dicPut m p.1 p.2) m
def dDictP:KS
 | [.lst ps]=>match pairsD ps with
  | some m=>if m.length<=100000 then .ok (dicD (mergeD [] m)) else .stuck
  | none=>.stuck
 | _=>.stuck
theorem Pairs.merge {F:Fx}{Z:Hp}:∀ {l:List (Key×D)} {Gn:List (Key×V)} {m0:List (Key×D)} {k0:List (Key×V)},Pairs F Z m0 k0->Pairs F Z l Gn->Pairs F Z (mergeD m0 l) (mergeK k0 Gn)
 | [],Gn,m0,k0,h,h2=>by rw[h2.inv0];exact h
 | (k,d)::l,Gn,m0,k0,h,h2=>by
  obtain⟨v,q,rfl,h3,h4⟩:=h2.inv;show Pairs F Z (mergeD (dicPut m0 k d) l) (mergeK (putK k0 k v) q);exact Pairs.merge (h.put h3) h4
theorem oX {F:Fx}{Z:Hp}:∀ {ps:List D} {m:List (Key×D)} {vs:List V},pairsD ps=some m->Reps F.K F.C Z ps vs->∃ Gn,Prs F.K Z vs Gn/\Pairs F Z m Gn
 | [],m,vs,e,r=>by cases e;rw[Reps]at r;subst r;exact⟨[],.nil,Pairs.nil⟩
 | d::ps,m,vs,e,r=>by
  rw[Reps]at r;obtain⟨v,q,rfl,h1,h2⟩:=r;unfold pairsD at e;split at e
  ·rename_i heq;cases heq
  ·rename_i dk dv ps' heq;cases heq;split at e
   ·rename_i kk l e1 e2;cases e;obtain⟨Gn,p1,p2⟩:=oX e2 h2;rw[Rep]at h1;obtain⟨b,us,rfl,sq,ru⟩:=h1;rw[Reps]at ru;obtain⟨u1,r1,rfl,q1,ru⟩:=ru;rw[Reps]at ru;obtain⟨u2,r2,rfl,q2,ru⟩:=ru;rw[Reps]at ru;subst ru;have ek:=b7 e1 q1;subst ek;exact⟨(kk,u2)::Gn,.cons sq p1,⟨by rw[F5,F5,p2.1],Reps.cons q2 p2.2⟩⟩
   ·cases e
  ·cases e
theorem Prs.mono {K:Frag}{Z H:Hp}(z:Same Z H):∀ {ps:List V} {Gn:List (Key×V)},Prs K Z ps Gn->Prs K H ps Gn
 | _,_,.nil=>.nil
 | _,_,.cons h t=>.cons (h.mono z) (Prs.mono z t)
theorem Prs.length :∀ {ps:List V} {Gn:List (Key×V)},Prs K H ps Gn->ps.length=Gn.length
 | _,_,.nil=>rfl
 | _,_,.cons h t=>by rw[Gb,Gb,t.length]
section
variable {F:Fx}{o:Expr}{gs:KY}
theorem ji (bx:BX X F k)(hg:Gl X "dict")(hm:X.mg "dict"=none)(ha:FA X F [e] gs)(he:Id X e []:=by rfl)(hpl:IO X pos []:=by rfl) :
  FE X F (.Call (.Name "dict" p) [e] [] pos) (eCall dDictP gs) :=
 (gY (tQ bx.calm) hg hm (by decide +kernel) ha (he:=he)).weak λσ H Q ⟨Z,S,ok,w⟩=>by
  refine aS ok w λds vs H1 Z1 ok1 x1 rs w1=>?_
  unfold dDictP at w1;split at w1
  ·rename_i ps;split at w1
   ·rename_i m em;split at w1
    ·rename_i hl;obtain⟨v,rfl,rv⟩:=aN rs;rw[Rep]at rv;obtain⟨a,us,rfl,sq,ru⟩:=rv;obtain⟨Gn,p1,p2⟩:=oX em ru;have hkl:Gn.length=m.length:=by have:=GA List.length p2.1;simpa using this
     refine⟨a,us,Gn,rfl,by rw[bx.K];exact ok1.sub.seq sq,by omega,by rw[bx.K];exact p1.mono ok1.sub,λq ob hq=>?_⟩;have zs:Same Z1 (upd Z1 q (.frz ob (.dK (mergeK [] Gn)))):=ar (ok1.sub.free hq);have pm:=Pairs.merge Pairs.nil p2;exact w1 _ _ (Ex.alloc ok1.sub hq) _ (by rw[dicD,Rep];exact⟨q,_,rfl,⟨ob,ah⟩,pm.1,pm.2.mono zs⟩)
    ·exact w1.elim
   ·exact w1.elim
  ·exact w1.elim
def viewO (p a:Addr):HO:=.ext λh=>h.IsItemsView p a
theorem yV {to:TE}(ho:PE X o to)(Kx:attributeBase o "items" X.env (eval o X.env)=eval o X.env:=by rfl)(Kw:(IR.endLine==IY.line)=true:=by rfl) :
  PE X (.Call (.Attribute o "items" IR) [] [] IY) (λσ H Q=>to σ H λx H1=>∃ a ob Gn,x=.ref a/\H1 a=some (.frz ob (.dK Gn))/\∀ p,H1 p=none->Q (.ref p) (upd H1 p (viewO p a))):=by
 intro am s σ H Q I h;refine wpAny_Call_method0_late Kx Kw (thn (ho am s σ H _ I h) λv s1 ⟨x,H1,I1,r1,a,ob,Gn,e,ea,q⟩=>?_);subst e;cases r1;obtain⟨e1,hz,hs,vs,kv,dd⟩:=I1.hok a _ ea;have dd':=dd;obtain⟨o',es,ep,e2,ex,_⟩:=dd;refine⟨"dict","dict.items",JA,JC,by kernel_rfl,dd'.typeIs,λb eb=>by cases eb;exact⟨o',e2,ex.2.1⟩,Iu rfl (PySem.evalArgs_none ?_)⟩;refine Kh JC dd'.typeIs PySem.F.entry_dict_items (PySem.F.args_dict_items_1 _) (meets_dict_items (mixKind X.prog X.w) a hs) ⟨⟨vs,dd'⟩,?_⟩;have hf:=I1.hok.fresh (F7 _);refine⟨.ref s1.heap.objs.size,_,I1.laid (o:=viewO s1.heap.objs.size a) (λb u e=>F4 _ e) (F7 _) ⟨⟨_,Ge _ rfl,rfl,rfl⟩,⟨_,Ge _ rfl⟩,λh1 h2 ⟨o,e,r⟩ k=>⟨o,k o e,r⟩⟩,rfl,q _ hf⟩
end
structure LayL (H H':Hp)(p:Addr)(as:List Addr)(Gn:List (Key×V)):Prop where
 fr:H p=none
 fa:∀ x∈as,H x=none
 len:as.length=Gn.length
 same:Same H H'
 l:H' p=some (.lst (as.map V.ref))
 t:∀ (j:Nat) (x:Addr) (k:Key) (v:V),as[j]?=some x->Gn[j]?=some (k,v)->H' x=some (.tup [kV k,v])
theorem ES {as:List Addr}(h:as.Pairwise (· < ·)){i:Nat}{x:Addr}(a:as[i]?=some x)(b:as[j]?=some x):i=j:=by
 have nd:as.Nodup:=h.imp λh=>Gf h
 obtain⟨h1,e1⟩:=Gc.mp a;obtain⟨h2,e2⟩:=Gc.mp b;exact(List.getElem_inj nd).mp (e1.trans e2.symm)
theorem tR (hc:X.calm=true):CallR X (.type "list") (λxs H Q=>∃ r a ob Gn,xs=[.ref r]/\H r=some (viewO r a)/\H a=some (.frz ob (.dK Gn))/\Gn.length<=100000/\∀ p as H',LayL H H' p as Gn->Q (.ref p) H'):=by
 intro am s σ H xs us Q I r h;obtain⟨rv,a,ob,Gn,rfl,hv,ha,hl,q⟩:=h;obtain⟨u,rfl,ru⟩:=r.one;cases ru;obtain⟨hvw,_,_⟩:=I.hok rv _ hv;obtain⟨e1,hz,hs,vs,kv,o',es,ep,dd⟩:=I.hok a _ ha;have hkl:=kv.length;refine PySem.W.kdx_call (I.ok.hd hc) hvw ⟨o',es,dd⟩ (by rw[<- hkl];exact hz) λh' tk acc c as kp hS hal hG K7=>?_
 have alo:=λx hx=>hG.above x hx
 let T:Nat->Option HO:=λj=>match Gn[j]? with
  | some (k,v)=>some (.tup [kV k,v])
  | none=>none
 let H':Hp:=λb=>if b < s.heap.objs.size then H b else if b=s.heap.objs.size then some (.lst (as.map V.ref)) else match as.findIdx? (λx=>x==b) with
  | some j=>T j
  | none=>none
 have H'old:∀ b,b < s.heap.objs.size->H' b=H b:=λb hb=>if_pos hb
 have H'p:H' s.heap.objs.size=some (.lst (as.map V.ref)):=by
  show (if s.heap.objs.size < s.heap.objs.size then _ else if s.heap.objs.size=s.heap.objs.size then _ else _)=_;rw[if_neg (Ht _),if_pos rfl]
 have H'new:∀ b u,s.heap.objs.size < b->H' b=some u->∃ j x k v,as[j]?=some b/\Gn[j]?=some (k,v)/\u=.tup [kV k,v]/\x=b:=λb u hb e=>by
  have e':(match as.findIdx? (λx=>x==b) with | some j=>T j | none=>none)=some u:=by
   have:=e;simp only[H']at this;rw[if_neg (λz=>IG hb z),if_neg (λz:b=s.heap.objs.size=>Kd hb z)]at this;exact this
  cases q1:as.findIdx? (λx=>x==b) with
  | none=>rw[q1]at e';cases e'
  | some j =>
   rw[q1]at e';have hj:=Iw.mp q1;obtain⟨hj1,hj2,_⟩:=hj;have hb':as[j]=b:=by simpa using hj2
   have e'':(match Gn[j]? with | some (k,v)=>some (HO.tup [kV k,v]) | none=>none)=some u:=e';cases q2:Gn[j]? with
   | none=>rw[q2]at e'';cases e''
   | some p =>
    obtain⟨k,v⟩:=p;rw[q2]at e'';cases e'';exact⟨j,b,k,v,by rw[Gq hj1,hb'],q2,rfl,rfl⟩
 have H't:∀ (j:Nat) (x:Addr) (k:Key) (v:V),as[j]?=some x->Gn[j]?=some (k,v)->H' x=some (.tup [kV k,v]):=λj x k v e1 e2=>by
  have hx:=alo x (Hx e1);show (if x < s.heap.objs.size then H x else if x=s.heap.objs.size then some (.lst (as.map V.ref)) else match as.findIdx? (λy=>y==x) with | some j=>T j | none=>none)=_;rw[if_neg (λz=>IG hx z),if_neg (λz:x=s.heap.objs.size=>Kd hx z)];cases q1:as.findIdx? (λy=>y==x) with
  | none =>
   have:=List.findIdx?_eq_none_iff.mp q1 x (Hx e1)
   simp at this
  | some i =>
   obtain⟨hi1,hi2,_⟩:=Iw.mp q1;have hx':as[i]=x:=by simpa using hi2
   have:i=j:=ES hG.rise (by rw[Gq hi1,hx']) e1;subst this;show (match Gn[i]? with | some (k,v)=>some (HO.tup [kV k,v]) | none=>none)=_;rw[e2]
 have I':Inv X am σ H' { s with heap:=h',toks:=tk }:=by
  refine I.laidN kp H'old λb u hb e=>?_
  rcases Nat.eq_or_lt_of_le hb with z | z
  ·subst z;rw[H'p]at e;cases e;refine⟨by rw[Gg,hal,<- hkl];exact hz,acc.toList,c,?_,by rw[Array.toArray_toList];exact hS⟩;rw[K7];have:∀ l:List Addr,Vals (l.map V.ref) (l.map Value.ref):=λl=>by
    induction l with
    | nil=>exact .nil
    | cons x l ih=>exact .cons rfl ih
   exact this as
  ·obtain⟨j,x,k,v,f1,f2,rfl,rfl⟩:=H'new b u z e;obtain⟨key,k',y,g1,g2,g3⟩:=hG.pairs j x f1;obtain⟨y',g4,g5⟩:=yR kv f2;rw[g1]at g4;cases g4;exact⟨by rw[Go];show 2<=16777216;decide,[key,y],.cons (uX g2) (.cons g5 .nil),{ cls:=.type "tuple",data:=.seq #[key,y] },g3,rfl,rfl,_,rfl⟩
 have sm:Same H H':=λb u e=>by rw[H'old b (I.hok.lt e)];exact e
 exact⟨.ref s.heap.objs.size,H',I',rfl,q _ as H' ⟨I.hok.fresh (F7 _),λx hx=>I.hok.fresh (Hn (alo x hx)),by rw[hal,hkl],sm,H'p,H't⟩⟩
def dItems:D->R D
 | .dic ks xs=>if ks.length=xs.length/\ks.length<=100000 then .ok (.lst ((ks.zip xs).map λp=>.tup [keyD p.1,p.2])) else .stuck
 | _=>.stuck
theorem rG {K:Frag}{C:La}{F:Fx}(hK:F.K=K)(hC:F.C=C){Z Z':Hp}(z:Same Z Z'):∀ {m:List (Key×D)} {Gn:List (Key×V)} {as:List Addr},Pairs F Z m Gn->as.length=Gn.length->(∀ (j:Nat) (x:Addr) (k:Key) (v:V),as[j]?=some x->Gn[j]?=some (k,v)->Z' x=some (.tup [kV k,v])) ->
  Reps K C Z' (m.map λp=>.tup [keyD p.1,p.2]) (as.map V.ref)
 | [],Gn,as,h,hl,_=>by
  rw[h.inv0]at hl;have:as=[]:=IL hl;subst this;exact Reps.nil
 | (k,d)::m,Gn,as,h,hl,ht=>by
  obtain⟨v,q,rfl,h1,h2⟩:=h.inv;cases as with
  | nil=>simp at hl
  | cons x as =>
   refine Reps.cons ?_ (rG hK hC z h2 (by simpa using hl) λj y k' v' e1 e2=>ht (j+1) y k' v' (by simpa using e1) (by simpa using e2));rw[Rep];exact⟨x,[kV k,v],rfl,SqT.of (ht 0 x k v rfl rfl),Reps.cons (uY k) (Reps.cons (by rw[<- hK,<- hC];exact h1.mono z) Reps.nil)⟩
section
variable {F:Fx}{o:Expr}
theorem rH (bx:BX X F k)(hg:Gl X "list")(hm:X.mg "list"=none)(ho:FE X F o go)(Kx:attributeBase o "items" X.env (eval o X.env)=eval o X.env:=by rfl)(Kw:(IR.endLine==IY.line)=true:=by rfl)
  (he:starEach [.Call (.Attribute o "items" IR) [] [] IY] X.env=(false,eval (.Call (.Attribute o "items" IR) [] [] IY) X.env)::starEach [] X.env:=by rfl) (hpl:IO X pos []:=by rfl) :
  FE X F (.Call (.Name "list" p) [.Call (.Attribute o "items" IR) [] [] IY] [] pos) (λS=>(go S).bind dItems) :=
 (gY (tR bx.calm) hg hm (by decide +kernel) (cj (yV ho Kx Kw) iM he)).weak λσ H Q ⟨Z,S,ok,w⟩=>by
  refine ak ok w λd v H1 Z1 ok1 x1 rv w1=>?_
  cases d with
  | dic ks xs =>
   have w1:WG F H1 Z1 (if ks.length=xs.length/\ks.length<=100000 then R.ok (D.lst ((ks.zip xs).map λp=>D.tup [keyD p.1,p.2])) else .stuck) _:=w1;by_cases hl:ks.length=xs.length/\ks.length<=100000
   ·rw[if_pos hl]at w1;obtain⟨a,Gn,ob,rfl,ez,pr⟩:=fq rv;refine⟨a,ob,Gn,rfl,ok1.sub _ _ ez,λr hr=>?_⟩;have ne:a≠r:=λz=>by rw[<- z,ok1.sub _ _ ez]at hr;cases hr
    have hkl:Gn.length=(ks.zip xs).length:=by have:=GA List.length pr.1;simpa using this
    refine⟨r,a,ob,Gn,rfl,ah,by rw[ae ne];exact ok1.sub _ _ ez,by rw[hkl,List.length_zip];omega,λp as H' L=>?_⟩;have x2:Ex H1 Z1 (upd H1 r (viewO r a)) Z1:=Ex.hidden ok1.sub hr;have fresh1:∀ b,(upd H1 r (viewO r a)) b=none->H1 b=none:=λb e=>by
     by_cases z:b=r
     ·rw[z];exact hr
     ·rw[ae z]at e;exact e
    let Z':Hp:=λb=>if b=p\/b∈as then H' b else Z1 b
    have zs:Same Z1 Z':=λb u e=>by
     show (if b=p\/b∈as then H' b else Z1 b)=_;have e1:=x2.sub b u e;rw[if_neg]
     ·exact e
     ·rintro (z | z)
      ·rw[z,L.fr]at e1;cases e1
      ·rw[L.fa b z]at e1;cases e1
    have ex:Ex H1 Z1 H' Z':=⟨x2.same.trans L.same,zs,λb u e=>by
     have e':(if b=p\/b∈as then H' b else Z1 b)=some u:=e;split at e'
     ·exact e'
     ·exact L.same b u (x2.sub b u e'),λb e=>by
     have e':(if b=p\/b∈as then H' b else Z1 b)≠none:=e;split at e'
     ·rename_i z;rcases z with z | z
      ·rw[z];exact .inr (fresh1 p L.fr)
      ·exact .inr (fresh1 b (L.fa b z))
     ·exact .inl e'⟩
    refine w1 H' Z' ex _ ?_;rw[Rep];refine⟨p,as.map V.ref,rfl,SqL.of (by show (if p=p\/p∈as then H' p else Z1 p)=_;rw[if_pos (.inl rfl)];exact L.l),rG rfl rfl zs pr L.len λj x k v e1 e2=>?_⟩;show (if x=p\/x∈as then H' x else Z1 x)=_;rw[if_pos (.inr (Hx e1))];exact L.t j x k v e1 e2
   ·rw[if_neg hl]at w1;exact w1.elim
  | _=>exact w1.elim
end
def lwUn2 {σ:Type}(d:D)(k:D->D->LW σ):LW σ:=match d with
 | .tup [a,b]=>k a b
 | _=>.stuck
section
variable {G:Gx}{W:Wd}{rest:Lo}{α σ τ V':Type}{J:σ->SS->Prop}{r r0:RW}{Kn:Pos}
theorem Bx {tg:Expr}{ix:List Nat}(bg:BG X G n)(h:GE X G W S e r)(hg:PGs X es (gNames ix))(hn:(assignEach es X.env).length=ix.length)(K8:(assignEach es X.env).findIdx? (·.1)=none)
  (hs:swapsWithSole [.Tuple es kk tp] e pos.line X.env=pure false) (hw:swappedStores [.Tuple es kk tp] e X.env=pure none) (h1:(assignEach [.Tuple es kk tp] X.env).map (·.2)=[assign (.Tuple es kk tp) X.env]) :
  GL1 X G W S (.Assign [.Tuple es kk tp] e pos) (JX λ(ds:List D) (_:Unit)=>setAll ix ds S) (lwB r λw d=>match d with
   | .tup ds=>if ds.length=ix.length then .nx w ds else .stuck
   | _=>.stuck) :=
 (Da h (xn bg.calm hg hn K8) hs hw h1).weak λD ρ H ⟨HW,Z,ok,w⟩=>⟨HW,Z,ok,WRW.gl ok (λw1 d Kp Z1 H1 v ok1 z1 rd wl=>by
  cases d with
  | tup ds =>
   simp only at wl;by_cases hl:ds.length=ix.length
   ·rw[if_pos hl]at wl;have rd':=rd;rw[Rep]at rd';obtain⟨c,vs,rfl,h1,h2⟩:=rd';refine⟨c,vs,rfl,by rw[bg.K];exact h1.mono ok1.zh,by rw[<- h2.length,hl],?_⟩;refine oI ix ds vs S ρ hl h2 ok1.nm λσ' ok'=>?_
    exact wl _ _ Kp Z1 H1 ⟨(),rfl⟩ (Same.refl _) ⟨ok1.gx,ok1.wd,ok'⟩
   ·rw[if_neg hl]at wl;exact wl.elim
  | _=>exact wl.elim) w⟩
theorem yW (i j:Nat){y:Str}{p1:Pos}{k:Wd->D->D->LW σ}(bg:BG X G n)(hN:X.N.Nodup)(he:GE X G W S e r0)(hr:r0=r)(hS:∀ a b,(S.set i (vv a)).set j (vv b)=S' a b)(hk:∀ w a b,GL X G w (S' a b) rest J (k w a b))
  (hi:X.N[i]?=some x:=by rfl) (hj:X.N[j]?=some y:=by rfl) (hx:Loc X.env.scope x:=by first | exact Or.inl rfl | exact Or.inr rfl) (hy:Loc X.env.scope y:=by first | exact Or.inl rfl | exact Or.inr rfl)
  (hfx:KJ X x:=by first | exact .inl rfl | exact .inr rfl) (hfy:KJ X y:=by first | exact .inl rfl | exact .inr rfl)
  (hn:(assignEach [.Name x p1,.Name y p2] X.env).length=2:=by rfl) (K8:(assignEach [.Name x p1,.Name y p2] X.env).findIdx? (·.1)=none:=by rfl)
  (hs:swapsWithSole [.Tuple [.Name x p1,.Name y p2] kk tp] e pos.line X.env=pure false:=by rfl) (hw:swappedStores [.Tuple [.Name x p1,.Name y p2] kk tp] e X.env=pure none:=by rfl)
  (h1:(assignEach [.Tuple [.Name x p1,.Name y p2] kk tp] X.env).map (·.2)=[assign (.Tuple [.Name x p1,.Name y p2] kk tp) X.env]:=by rfl):GL X G W S (.Assign [.Tuple [.Name x p1,.Name y p2] kk tp] e pos::rest) J (lwB r λw d=>lwUn2 d λa b=>k w a b):=by
 have:=iS (rest:=rest) (J:=J) (k:=λw (ds:List D)=>match ds with
  | [a,b]=>k w a b
  | _=>.stuck) (Bx (tg:=.Tuple [.Name x p1,.Name y p2] kk tp) (ix:=[i,j]) (pos:=pos) bg he (i4 (i0 hN hi hx hfx) (i4 (i0 hN hj hy hfy) um)) hn K8 hs hw h1) (λw ds _=>by
   match ds with
   | [a,b]=>have:=hk w a b;rw[<- hS]at this;exact this
   | []=>intro am s σ' H D I ⟨HW,Z,ok,w⟩;exact w.elim
   | [_]=>intro am s σ' H D I ⟨HW,Z,ok,w⟩;exact w.elim
   | _::_::_::_=>intro am s σ' H D I ⟨HW,Z,ok,w⟩;exact w.elim)
 rw[hU,hr]at this;have e:(λw d=>lwS (τ:=List D) (match d with
   | .tup ds=>if ds.length=[i,j].length then .nx w ds else .stuck
   | _=>.stuck) (λw (ds:List D)=>match ds with
  | [a,b]=>k w a b
  | _=>.stuck))=λw d=>lwUn2 d λa b=>k w a b:=by
  funext w d
  cases d with
  | tup ds =>
   match ds with
   | [a,b]=>rfl
   | []=>rfl
   | [_]=>rfl
   | _::_::_::l=>show lwS (if _=_ then _ else _) _=_;rw[if_neg (by simp)];rfl
  | _=>rfl
 rw[e]at this;exact this
theorem By (i j:Nat){y:Str}{px py pt:Pos}{kt k2 pt2}{k:Wd->D->D->LW σ}(bg:BG X G n)(hN:X.N.Nodup)(ha:GE X G W S a r0)(hr:r0=r)(hb:∀ H0 Z0 W',Wk (G.at H0 Z0) W'->FE X (G.at H0 Z0) b gb){rb:R D}(hrb:gb S=rb)(hS:∀ a b,(S.set i (vv a)).set j (vv b)=S' a b)(hk:∀ w a b,GL X G w (S' a b) rest J (k w a b))
  (hij:i≠j:=by decide) (hi:X.N[i]?=some x:=by rfl) (hj:X.N[j]?=some y:=by rfl) (hx:X.env.scope.names.lookup x=some .local:=by rfl) (hy:X.env.scope.names.lookup y=some .local:=by rfl)
  (he:Id X a [b]:=by rfl) (he2:Id X b []:=by rfl)
  (hw:swappedStores [.Tuple [.Name x px,.Name y py] kt pt] (.Tuple [a,b] k2 pt2) X.env=pure (some [x,y]):=by rfl)
  (hs:swapsWithSole [.Tuple [.Name x px,.Name y py] kt pt] (.Tuple [a,b] k2 pt2) pos.line X.env=pure false:=by rfl) :
  GL X G W S (.Assign [.Tuple [.Name x px,.Name y py] kt pt] (.Tuple [a,b] k2 pt2) pos::rest) J (lwB r λw u=>lwR w rb λv=>k w u v):=by
 subst hr hrb;have h1:GL1 X G W S (.Assign [.Tuple [.Name x px,.Name y py] kt pt] (.Tuple [a,b] k2 pt2) pos) (JX λ(p:D×D) (_:Unit)=>(S.set i (vv p.1)).set j (vv p.2)) (lwB r0 λw u=>lwR w (gb S) λv=>.nx w (u,v)) :=
  (xo bg.calm hN hi hj hij hx hy (cj ha (cj (yl hb) iM he2) he) hw hs).weak λD ρ H ⟨HW,Z,ok,w⟩=>⟨HW,Z,ok,WRW.gl ok (λw1 d Kp Z1 H1 v ok1 z1 rd wl=>by
   refine⟨w1,Kp,Z1,ok1,Z1,S,ok1.nm,?_⟩;cases q:gb S with
   | ok d2 =>
    rw[q]at wl;intro H2 Z2 x2 v2 rv2;have gx:=ok1.ex x2;have ok2:=ok1.more gx (ok1.wd.mono (Same.refl _) x2.z);refine⟨v,v2,rfl,?_⟩;exact wl _ _ Kp Z2 H2 ⟨(),rfl⟩ x2.z ⟨ok2.gx,ok2.wd,(ok2.nm.setVal (rd.mono x2.z)).setVal rv2⟩
   | err k=>rw[q]at wl;exact λH' x=>wl Kp Z1 H' (Same.refl _) (ok1.gx.trans ⟨λb o _ e=>x b o e,Same.refl _,ok1.zh.trans x,ok1.wh.trans x,λ_ h=>h,λ_ h=>.inl h,λ_ h=>.inl h,ok1.gx.dj⟩) ok1.wd
   | stuck=>rw[q]at wl;exact wl.elim) w⟩
 have:=iS h1 (λw p _=>by have:=hk w p.1 p.2;rw[<- hS]at this;exact this);rw[hU]at this;have e:(λw d=>lwS (lwR w (gb S) λv=>(LW.nx w (d,v):LW (D×D))) λw (p:D×D)=>k w p.1 p.2)=λw u=>lwR w (gb S) λv=>k w u v:=by
  funext w d
  cases gb S<;>rfl
 rw[e]at this;exact this
theorem p5 (bg:BG X G n)(ha:GE X G W S a r)(hb:∀ H0 Z0 W',Wk (G.at H0 Z0) W'->FE X (G.at H0 Z0) b gb):GT X G W S (.Compare a [.NotEq] [b] pos) (rwB r λw d=>rwA w (gb S) λy=>rwR w (dDNe d y)) :=
 yP (D2 (F:=G.at G.H0 G.Z0) bg.K bg.room) (λ_ _=>Bw) ha hb
end
def tabsApart (K:Frag)(xs:List Str):Bool:=decide ((xs.map λx=>(tabOf K x).2).Nodup)
theorem p6 {xs:List Str}{f:Addr}(i:Nat)(h0:C 900=xs.length)(hC:∀ j,j < xs.length->∃ y,xs[j]?=some y/\C (901+2*j)=(tabOf K y).2)(hx:xs[i]?=some x)(h2:C (902+2*i)=f)(hB:tabOkB K x=true)(hf:nsIn K mainGlobals x=some (some (.ref f)))(hD:tabsApart K xs=true):LamK K C i:=by
 obtain⟨a,b,_⟩:=lY hB;obtain⟨oc,od,fd,sl,l1,l2⟩:=DW a hf;obtain⟨hi,ei⟩:=Gc.mp hx;obtain⟨y,ey,h1⟩:=hC i hi;rw[hx]at ey;cases ey;refine⟨by rw[h0];exact hi,λj hj e=>?_,_,oc,od,fd,sl,by rw[h2];exact l1,l2,by rw[h1];exact b⟩;rw[h0]at hj;obtain⟨y,ey,hy⟩:=hC j hj;rw[hy,h1]at e;have nd:=of_decide_eq_true hD;have q1:(xs.map λx=>(tabOf K x).2)[j]?=some (tabOf K y).2:=by rw[Gu,ey];rfl
 have q2:(xs.map λx=>(tabOf K x).2)[i]?=some (tabOf K y).2:=by rw[Gu,hx,e];rfl
 exact(List.getElem?_inj (by simpa using hj) nd).mp (q1.trans q2.symm)
structure FLw {σ:Type}(X:Cx)(F:Fx)(S:SS)(sts:Lo)(J:σ->SS->Prop)(l:L σ):Prop where
 out:FL X F S sts J l
section
variable {F:Fx}{σ τ W:Type}{J:σ->SS->Prop}{rest:Lo}
theorem Bz {l:L τ}{k:τ->L σ}{inj:τ->W->SS}(h:FL1 X F S st (JX inj) l)(hk:∀ s w,FLw X F (inj s w) rest J (k s)):FL X F S (st::rest) J (lS l k):=jZ h λs w=>(hk s w).out
theorem wG {g:SS->O}{S':SS}{l:L σ}(h:FSw X F st g)(hg:g S=.nx S')(hk:FL X F S' rest J l):FLw X F S (st::rest) J l:=⟨qX h.out hg hk⟩
end
section
variable {F:Fx}{keys:List (Option Expr)}{values:Lp}{ks:List Key}{te:TE}
theorem BA (h:PE X e te):PE X e (λσ H Q=>te σ H λv H1=>∃ a Gn,v=.ref a/\H1 a=some (.dK Gn)/\∀ o,Q v (upd H1 a (.frz o (.dK Gn)))):=λam s σ H Q I q =>
 thn (h am s σ H _ I q) λu s1 ⟨x,H1,I1,r1,a,Gn,e,ea,k⟩=>by
  obtain⟨o,I2⟩:=uS I1 ea;exact⟨x,_,I2,r1,k o⟩
def eDicV (ks:List Key)(gs:List (KZ)):KZ:=λS=>(eBA .ok gs S).bind λds=>.ok (dicD (dicMk ks ds))
theorem BB (h:FD X F p keys values ks gs)(hl:ks.length=gs.length:=by rfl)(h15:ks.length<=15:=by decide)(Ku:keys.all (·.isSome)=true:=by rfl)(KF:keys.length=values.length:=by rfl)(h0:keys≠[]:=by simp)(hk15:keys.length<=15:=by decide) :
  FE X F (.Dict keys values p) (eDicV ks gs):=by
 obtain⟨trs,h1,h2⟩:=h.out;refine(BA (Bf h1 Ku KF h0 hk15)).weak λσ H Q ⟨Z,S,ok,w⟩=>λa hp=>?_
 unfold eDicV at w;rw[<- cL,R.bind_assoc]at w;have x0:Ex H Z (upd H a (.dK [])) Z:=Ex.hidden ok.sub hp;have ok0:=ok.more x0;refine h2 _ _ _ ⟨Z,S,ok0,?_⟩;cases q:aL gs S with
 | err k=>rw[q]at w;exact λH' y=>w H' (x0.same.trans y)
 | stuck=>rw[q]at w;exact w
 | ok ds =>
 rw[q]at w;intro H1 Z1 x1 vs rs;have ok1:=ok0.more x1;have ea:=x1.same _ _ ah;have za:Z1 a=none:=by
  cases q:Z1 a with
  | none=>rfl
  | some o =>
   rcases x1.new a (by rw[q];exact λz=>nomatch z) with z | z
   ·exact absurd (ok.sub.free hp) z
   ·rw[ah]at z;cases z
 refine⟨ea,ks.zip vs,rfl,?_,a,_,rfl,ah,λo=>?_⟩
 ·rw[List.length_zip];omega
 ·have zs:Same Z1 (upd Z1 a (.frz o (.dK (mergeK [] (ks.zip vs))))):=ar za;have exF:Ex H Z (upd (upd H1 a (.dK (mergeK [] (ks.zip vs)))) a (.frz o (.dK (mergeK [] (ks.zip vs))))) (upd Z1 a (.frz o (.dK (mergeK [] (ks.zip vs))))):=by
   refine⟨λb u e=>?_,x1.z.trans zs,λb u e=>?_,λb hb=>?_⟩
   ·have hb:b≠a:=λz=>by rw[z,hp]at e;cases e
    rw[ae hb,ae hb];exact x1.same _ _ (x0.same _ _ e)
   ·by_cases hb:b=a
    ·rw[hb,ah]at e ⊢;exact e
    ·rw[ae hb]at e;rw[ae hb,ae hb];exact ok1.sub _ _ e
   ·by_cases hba:b=a
    ·exact .inr (by rw[hba];exact hp)
    ·rw[ae hba]at hb;exact(x1.new b hb).elim .inl λz=>.inr (x0.same.free z)
  have pm:=Pairs.fold ks rs Pairs.nil;have w2:=w;exact w2 _ _ exF _ (by rw[dicD,Rep];exact⟨a,_,rfl,⟨o,ah⟩,pm.1,pm.2.mono zs⟩)
end
def isBI (s:String):Option (Lm)->Bool
 | some (some (.builtin t))=>t==s
 | _=>false
def isNo:Option (Lm)->Bool
 | some none=>true
 | _=>false
def excKB (K:Frag)(a:Addr):Bool:=isBI "BaseException.__getattribute__" (findIn K (.ref a) "__getattribute__")&&isNo (findIn K (.ref a) "__getattr__")&&isBI "object.__class__" (findIn K (.ref a) "__class__")&&subIn K (.ref a) (.type "BaseException")==some true&&subIn K (.ref a) (.type "object")==some true&&(PySem.W.clsIn K a).isSome
def excAllB (K:Frag)(C:La)(es is:List Nat):Bool:=excIn K (C 0) bmVE "ValueError.__new__" && es.all λj=>excKB K (C j)&&excIn K (C j) bmVE "ValueError.__new__" && subIn K (.ref (C j)) (.ref (C 0))==some true&&kitOne K (.ref (C j)) (.type "ValueError")==some true&&is.all λi=>kitOne K (.ref (C j)) (.ref (C i))==some (i==j||i==0)
section
variable {es is:List Nat}{a:Addr}
theorem u3 {s:String}{r:Option (Lm)}(h:isBI s r=true):r=some (some (.builtin s)):=by
 unfold isBI at h
 grind
theorem BC (h:excKB K a=true):ExcK K a:=by
 unfold excKB at h;simp only[Gj,Hl]at h;obtain⟨⟨⟨⟨⟨a1,a2⟩,a3⟩,a4⟩,a5⟩,a6⟩:=h;refine⟨u3 a1,?_,u3 a3,a4,a5,a6⟩;unfold isNo at a2
 grind
theorem c9 (h:excAllB K C es is=true)(hj:j∈es):ExcK K (C j)/\excIn K (C j) bmVE "ValueError.__new__"=true/\subIn K (.ref (C j)) (.ref (C 0))=some true/\kitOne K (.ref (C j)) (.type "ValueError")=some true/\∀ i∈is,kitOne K (.ref (C j)) (.ref (C i))=some (i==j||i==0):=by
 unfold excAllB at h;simp only[Gj,He,Hl]at h;obtain⟨⟨⟨⟨b1,b2⟩,b3⟩,b4⟩,b5⟩:=h.2 j hj;exact⟨BC b1,b2,b3,b4,b5⟩
theorem yX (h:excAllB K C es is=true):excIn K (C 0) bmVE "ValueError.__new__"=true:=by
 unfold excAllB at h
 grind
theorem bf (h:excAllB K C es is=true)(i:Nat)(hi:i∈is):IsA K C (.ref (C i)) (qEx es i):=DA (λ_ hj=>(c9 h hj).2.2.2.2 i hi) λ_ hj=>(c9 h hj).1
theorem yY (h:excAllB K C es is=true):IsA K C (.ty "ValueError") (qVx es):=DB (λ_ hj=>(c9 h hj).2.2.2.1) λ_ hj=>(c9 h hj).1
theorem yZ (h:excAllB K C es is=true):Takes K C (C 0) (qTk es):=ya (yX h) λ_ hj=>(c9 h hj).2.2.1
theorem eX (h:excAllB K C es is=true)(j:Nat)(hj:j∈es):excIn K (C j) bmVE "ValueError.__new__"=true:=(c9 h hj).2.1
end
section
variable {F:Fx}
theorem fac (ha:FE X F e g)(hr:FAL X F es gs)(hs:isStar e=false:=by rfl):FAL X F (e::es) (g::gs):=lR ha hr (yJ hs)
theorem fac1 (ha:FE X F e g)(hs:isStar e=false:=by rfl):FAL X F [e] [g]:=lR ha cM (yJ hs)
end
def dSwL (d:D)(lo hi:Option Int):R D:=match d with
 | .lst xs=>.ok (.lst (cutD xs lo hi))
 | _=>.stuck
def eSwL (g:KZ)(l h:SS->R (Option Int)):KZ:=λS=>(g S).bind λd=>(l S).bind λlo=>(h S).bind λhi=>dSwL d lo hi
section
variable {F:Fx}{lo hi:Option Expr}{l h:SS->R (Option Int)}
theorem D3 (hK:X.K=F.K)(he:FE X F e g)(hl:PO X lo (tP F l))(hh:PO X hi (tP F h)):FE X F (.Subscript e (.Slice lo hi none p2) pos) (eSwL g l h) :=
 (xC AD he hl hh).weak λσ H Q ⟨Z,S,ok,w⟩=>ak ok w λd v H1 Z1 ok1 x1 rv w1=>uz ok1 w1 λo H2 Z2 ok2 x2 w2=>uz ok2 w2 λo' H3 Z3 ok3 x3 w3=>by
  have rv3:=rv.mono (x2.z.trans x3.z);cases d with
  | lst ds =>
   rw[Rep]at rv3;obtain⟨a,vs,rfl,h1,h2⟩:=rv3;refine⟨a,vs,rfl,by rw[hK];exact ok3.sub.seq h1,λp hp=>?_⟩;have z:Same Z3 (upd Z3 p (.lst (cutV vs o o'))):=ar (ok3.sub.free hp);exact w3 _ _ (Ex.alloc ok3.sub hp) _ (by rw[Rep];exact⟨p,_,rfl,SqL.of ah,(h2.cut o o').mono z⟩)
  | _=>exact w3.elim
end
def hpL (h:Heap)(cs:List Obj):Heap:=cs.foldl Heap.push h
theorem jj:∀ (cs:List Obj) (h:Heap),(hpL h cs).objs.size=h.objs.size+cs.length
 | [],h=>rfl
 | c::cs,h=>by
  show (hpL (h.push c) cs).objs.size=_;rw[jj cs,G2,Gb];omega
theorem jk {c:Addr}{o:Obj}:∀ (cs:List Obj) {h:Heap},h.get? c=some o->(hpL h cs).get? c=some o
 | [],h,e=>e
 | x::cs,h,e=>jk cs (F4 x e)
theorem aO {o:Obj}(hf:o.isFreed=false):∀ {cs:List Obj} {j:Nat} {h:Heap},cs[j]?=some o->(hpL h cs).get? (h.objs.size+j)=some o
 | c::cs,0,h,e=>by cases e;exact jk cs (Ge _ hf)
 | c::cs,j+1,h,e=>by
  have:=aO hf (h:=h.push c) (show cs[j]?=some o from e);rw[G2,Nat.add_assoc,Nat.add_comm 1]at this;exact this
theorem u4 {f:Obj->Obj}{a:Addr}:∀ (cs:List Obj) {h:Heap},a < h.objs.size->(hpL h cs).update a f=hpL (h.update a f) cs
 | [],h,e=>rfl
 | c::cs,h,e=>by
  show (hpL (h.push c) cs).update a f=_;rw[u4 cs (by rw[G2];exact Nat.lt_succ_of_lt e),Heap.update_push _ _ _ _ (Gf e)];rfl
theorem y6 (h:Heap)(c:Obj)(f:Obj->Obj):(h.push c).update h.objs.size f=h.push (f c):=by
 obtain⟨o,l⟩:=h;show Heap.mk ((o.push c).modify o.size f) l=Heap.mk (o.push (f c)) l
 congr 1
 ext i h1 h2
 ·simp
 ·rw[Array.getElem_modify];simp only[Array.getElem_push]
  grind
theorem p7 {f:Obj->Obj}:∀ {cs:List Obj} {j:Nat} {h:Heap},j < cs.length->(hpL h cs).update (h.objs.size+j) f=hpL h (cs.modify j f)
 | c::cs,0,h,e=>by
  show (hpL (h.push c) cs).update h.objs.size f=_;rw[u4 cs (by rw[G2];exact Jo _),y6];rfl
 | c::cs,j+1,h,e=>by
  have:=p7 (f:=f) (h:=h.push c) (Nat.lt_of_succ_lt_succ e);rw[G2,Nat.add_assoc,Nat.add_comm 1]at this;exact this
abbrev zSt (s:Shared)(cs:List Obj):Shared:={ s with heap:=hpL s.heap cs }
section
variable {prog:Program}{w:World}{A:Around}{E:KU}{s:Shared}{cs:List Obj}{o:Obj}{vs:Array Value}{i m:Nat}{x:Value}
theorem CD (e:cs[j]?=some o):j < cs.length:=(Gc.mp e).1
theorem ip {Q:KU}(e:cs[j]?=some o)(ed:o.data=.fields vs)(ex:vs[i]?=some x)(q:Q x (zSt s cs)):wpAny (model prog w) A (field (.ref (s.heap.objs.size+j)) i) Q E (zSt s cs) :=
 wpAny_field (aO (J0 ed) e) ed ex q
theorem oY {Q:Unit->Lg}(e:cs[j]?=some o)(ed:o.data=.fields vs)(hi:i < vs.size)(q:Q () (zSt s (cs.modify j (Obj.mapFields (·.setIfInBounds i x))))):wpAny (model prog w) A (setField (.ref (s.heap.objs.size+j)) i x) Q E (zSt s cs) :=
 wpAny_setField (aO (J0 ed) e) ed hi (by rw[show (zSt s cs).heap=hpL s.heap cs from rfl,p7 (CD e)];exact q)
theorem oZ {Q:Option (Array Value)->Lg}(e:cs[j]?=some o)(ed:o.data=.seq vs m)(q:Q (some vs) (zSt s cs))(hf:o.isFreed=false:=by rfl):wpAny (model prog w) A (seqItems? (.ref (s.heap.objs.size+j))) Q E (zSt s cs) :=
 IS (aO hf e) ed q
theorem l9 {Q:Unit->Lg}{f:Array Value->Array Value}(e:cs[j]?=some o)(ed:o.data=.seq vs m)(q:Q () (zSt s (cs.modify j (Obj.mapSeq f))))(hx:vs.size<=100:=by exact Gk rfl)(hy:(f vs).size<=100:=by exact Gk rfl)(hf:o.isFreed=false:=by rfl) :
  wpAny (model prog w) A (updateSeq (s.heap.objs.size+j) f) Q E (zSt s cs) :=
 HG (aO hf e) ed (by rw[show (zSt s cs).heap=hpL s.heap cs from rfl,p7 (CD e)];exact q) (by rw[Go];omega) (by rw[Go];omega)
theorem rJ {Q:KU}{T:String}{data:Data}(q:Q (.ref (s.heap.objs.size+cs.length)) (zSt s (cs++[{ cls:=.type T,data:=data }])))(hz:sizeOk data:=by size_fits):wpAny (model prog w) A (newObj (.type T) data) Q E (zSt s cs) :=
 Jd (by
  have e:(zSt s cs).heap.push { cls:=.type T,data:=data }=hpL s.heap (cs++[{ cls:=.type T,data:=data }]):=by show _=List.foldl _ _ _;rw[List.foldl_append];rfl
  rw[e,show (zSt s cs).heap.objs.size=_ from jj cs s.heap];exact q) hz
theorem BD {Q:Option Obj->Lg}(e:cs[j]?=some o)(hf:o.isFreed=false)(q:Q (some o) (zSt s cs)):wpAny (model prog w) A (loadIfAlive ((s.heap.objs.size+j:Nat):Int).toNat) Q E (zSt s cs):=λΓ p hΓ=>by
 show Sem.wp _ Γ (.loadIfAlive _ .pure) _ _ p _;rw[Sem.wp_loadIfAlive,Int.toNat_natCast,aO hf e];exact q
def itO (l:Addr)(k:Int):Obj:={ cls:=.type "tuple_iterator",data:=.fields #[.ref l,.int k 0] }
def prO (a b:Value):Obj:={ cls:=.type "tuple",data:=.seq #[a,b] }
def zO (n:Nat)(f:Value)(u:Bool):Obj:={ cls:=.type "zip",data:=.fields #[f,.bool u,.bool false,.ref (n+2),.ref (n+3)] }
theorem z_nx {l:Addr}{k:Int}{xs:Array Value}{Q:KU}(e:cs[j]?=some (itO l k))(hl:s.heap.IsTuple l xs)(q:∀ x,xs[k.toNat]?=some x->Q x (zSt s (cs.modify j (Obj.mapFields (·.setIfInBounds 1 (.int (k+1) 0))))))
  (hE:xs[k.toNat]?=none->A.handled=none/\∀ cs' b,(zSt s cs').TypeIs b "StopIteration" -> (∃ t,cs'=cs.modify j (Obj.mapFields (·.setIfInBounds 0 .none))++t)->E b (zSt s cs')):wpAny (model prog w) A (Builtin.SmallTypes.nextOf (.ref (s.heap.objs.size+j))) Q E (zSt s cs):=by
 have hT:(zSt s cs).TypeIs (.ref (s.heap.objs.size+j)) "tuple_iterator" := ⟨_,aO rfl e,rfl⟩;obtain⟨ol,hol,_,nl,hdl⟩:=hl;unfold Builtin.SmallTypes.nextOf;refine F3 (Im hT Jc (HA Jc hT F.entry_tuple_iterator_next ?_ (F.args_tuple_iterator_next_1 _)));show wpAny _ _ (field _ 0 >>= _) _ _ _;refine F3 (ip (x:=.ref l) e rfl rfl ?_);rw[if_neg (show ¬ ((Value.ref l==Value.none)=true) from Gv)];refine F3 (ip e rfl rfl (F3 (IS (jk cs hol) hdl ?_)));cases hx:xs[k.toNat]? with
 | some x =>
  simp only[hx];exact F3 (oY e rfl (by simp) (F6 ⟨x,rfl,F6 (q x hx)⟩))
 | none =>
  obtain⟨hh,hE⟩:=hE hx;simp only[hx];refine F3 (IC (F3 (oY e rfl (by simp) (F3 ?_))));simp only[newExc,newTuple];refine F3 (rJ (F3 (wpAny_of_eq (by first | rfl | (simp only[firstArgMember];rfl)) (rJ ?_))));simp only[raiseNew];refine F3 (wpAny_handled ?_);rw[show A.in1.handled=none from hh];refine F3 (F6 (wpAny_throw ?_));exact hE _ _ ⟨_,aO rfl List.getElem?_concat_length,rfl⟩ ⟨_,Jf ..⟩
variable {l₁ l₂:Addr}{k:Int}{xs ys:Array Value}{y:Value}{u:Bool}{rest:List Obj}{f:Value}
abbrev zC (n:Nat)(l₁ l₂:Addr)(k:Int)(a b f:Value)(u:Bool)(rest:List Obj):List Obj:=itO l₁ k::itO l₂ k::prO (.ref (n+0)) (.ref (n+1))::prO a b::zO n f u::rest
theorem BE {Q:Option Value->Lg}(h1:s.heap.IsTuple l₁ xs)(h2:s.heap.IsTuple l₂ ys)(hx:xs[0]?=some x)(hy:ys[0]?=some y)
  (q:Q (some (.ref (s.heap.objs.size+(rest.length+5)))) (zSt s (zC s.heap.objs.size l₁ l₂ 1 x y (rawInt (s.heap.objs.size+(rest.length+5):Nat)) false (rest++[prO x y])))) :
  wpAny (model prog w) A (pyNext (.ref (s.heap.objs.size+4))) Q E (zSt s (zC s.heap.objs.size l₁ l₂ 0 .none .none .none false rest)):=by
 have hT:(zSt s (zC s.heap.objs.size l₁ l₂ 0 .none .none .none false rest)).TypeIs (.ref (s.heap.objs.size+4)) "zip" := ⟨_,aO rfl rfl,rfl⟩;unfold pyNext;refine F3 (wpAny_attempt (Im hT HH (HA HH hT F.entry_zip_next ?_ (F.args_zip_next_1 _))));show wpAny _ _ (field _ 2 >>= _) _ _ _;refine F3 (ip rfl rfl rfl (F3 (ip rfl rfl rfl (F3 (oZ rfl rfl (F3 ?_))))));unfold Builtin.SmallTypes.ownedTupleIsFree;refine F3 (ip rfl rfl rfl (F6 ?_));simp only[Gz];refine F3 (IC (F3 (ip rfl rfl rfl (F3 (oY rfl rfl (by simp) (F3 ?_))))));simp only[List.zipIdx_cons,List.zipIdx_nil,IF,List.forIn_nil];refine F3 (F3 (Kc (F3 (z_nx rfl h1 (λx' e=>?_) λe=>nomatch hx.symm.trans e))));cases hx.symm.trans e;refine F6 (F3 (oZ rfl rfl (F3 (l9 rfl rfl (F3 (JL (F6 ?_)))))));refine F3 (F3 (Kc (F3 (z_nx rfl h2 (λy' e=>?_) λe=>nomatch hy.symm.trans e))));cases hy.symm.trans e;refine F6 (F3 (oZ rfl rfl (F3 (l9 rfl rfl (F3 (JL (F6 (F6 ?_))))))));refine F3 (oZ (vs:=#[x,y]) rfl rfl (F3 (rJ (F3 ?_))));unfold Builtin.SmallTypes.ownedTupleHandOut;exact F3 (oY rfl rfl (by simp) (oY rfl rfl (by simp) (F6 ⟨_,rfl,F6 q⟩)))
theorem y8 {Q:Option Value->Lg}{a b:Value}{T:Nat}(h1:s.heap.IsTuple l₁ xs)(h2:s.heap.IsTuple l₂ ys)(hk:ys[k.toNat]?=none->xs[k.toNat]?=none)(hh:A.handled=none)(hT:(rest[T]?).isSome=true)(hf:∀ o,rest[T]?=some o->o.isFreed=false)
  (q:∀ x y,xs[k.toNat]?=some x->ys[k.toNat]?=some y->Q (some (.ref (s.heap.objs.size+(rest.length+5)))) (zSt s (zC s.heap.objs.size l₁ l₂ (k+1) a b (rawInt (s.heap.objs.size+(T+5):Nat)) true (rest++[prO x y]))))
  (qE:xs[k.toNat]?=none->∀ it t,Q none (zSt s (it::itO l₂ k::prO (.ref (s.heap.objs.size+0)) (.ref (s.heap.objs.size+1))::prO a b::zO s.heap.objs.size (rawInt (s.heap.objs.size+(T+5):Nat)) true::rest++t))) :
  wpAny (model prog w) A (pyNext (.ref (s.heap.objs.size+4))) Q E (zSt s (zC s.heap.objs.size l₁ l₂ k a b (rawInt (s.heap.objs.size+(T+5):Nat)) u rest)):=by
 have hZ:(zSt s (zC s.heap.objs.size l₁ l₂ k a b (rawInt (s.heap.objs.size+(T+5):Nat)) u rest)).TypeIs (.ref (s.heap.objs.size+4)) "zip" := ⟨_,aO rfl rfl,rfl⟩;obtain⟨oT,hT⟩:=G5.mp hT;unfold pyNext;refine F3 (wpAny_attempt (Im hZ HH (HA HH hZ F.entry_zip_next ?_ (F.args_zip_next_1 _))));show wpAny _ _ (field _ 2 >>= _) _ _ _;refine F3 (ip rfl rfl rfl (F3 (ip rfl rfl rfl (F3 (oZ rfl rfl (F3 ?_))))));unfold Builtin.SmallTypes.ownedTupleIsFree;refine F3 (ip rfl rfl rfl ?_);refine F3 (BD hT (hf oT hT) (F3 (ip rfl rfl rfl ?_)));cases u
 all_goals first
  | refine F3 (oY rfl rfl (by simp) (F6 ?_))
  | refine F6 ?_
 all_goals
  simp only[Ib,Gt];refine F3 ?_;simp only[List.forIn_toArray,IF,List.forIn_nil];refine F3 (F3 (HE (F3 (z_nx rfl h1 (λx hx=>?_) λe=>⟨hh,λcs' b ht ⟨t,et⟩=>?_⟩))))
  ·refine F6 (F6 (F3 (F3 (HE (F3 (z_nx rfl h2 (λy hy=>?_) λe=>nomatch hx.symm.trans (hk e)))))));exact F6 (F6 (F6 (F3 (rJ (F6 ⟨_,rfl,F6 (q x y hx hy)⟩) (show 2<=sizeLine by decide)))))
  ·subst et;exact F3 (wpAny_isInstance ht isSubtype_stop (F6 (qE e _ _)))
theorem y9 {l:Addr}{Q:KU}(hl:s.heap.IsTuple l xs)(q:Q (.ref (s.heap.objs.size+cs.length)) (zSt s (cs++[itO l 0]))):wpAny (model prog w) A (pyIter (.ref l)) Q E (zSt s cs):=by
 obtain⟨o,e,r⟩:=hl;refine wpAny_pyIter_tuple ⟨o,jk cs e,r⟩ ?_;rw[show (zSt s cs).heap.objs.size=_ from jj cs s.heap];have e:(zSt s cs).heap.push (itO l 0)=hpL s.heap (cs++[itO l 0]):=by show _=List.foldl _ _ _;rw[List.foldl_append];rfl
 exact e ▸ q
theorem tU (l₁ l₂:Addr)(xs ys:Array Value):Meets (Builtin.«zip.__new__» ⟨[.type "zip",.ref l₁,.ref l₂],[]⟩) (λ_ R s=>s.heap.IsTuple l₁ xs/\s.heap.IsTuple l₂ ys /\
   R (.ok (.ret (.ref (s.heap.objs.size+4)))) (zSt s (zC s.heap.objs.size l₁ l₂ 0 .none .none .none false []))) :=
 .of_wp λprog w A R s h=>by
  obtain⟨h1,h2,h⟩:=h;have hsub:=sub_zip
  change wpAny _ _ _ _ _ (zSt s [])
  wp_walk using (y9 h1),(y9 h2),rJ
  exact⟨_,rfl,h⟩
  all_goals (exact Gk rfl)
theorem zb (x:Str)(h:x="__len__" \/ x="__length_hint__"):typeLookup (.type "zip") x=pure none:=by rcases h with rfl | rfl<;>(rw[typeLookup_type,JZ];kernel_rfl)
theorem wH {Q:KU}{a₀ a₁ a₂ a₃ b₀ b₁ b₂ b₃:Value}(h1:s.heap.IsTuple l₁ #[a₀,a₁,a₂,a₃])(h2:s.heap.IsTuple l₂ #[b₀,b₁,b₂,b₃])(hh:A.handled=none)
  (q:∀ c₀ c₁ c₂ c₃ c₄ m t,Q (.ref (s.heap.objs.size+5)) (zSt s (c₀::c₁::c₂::c₃::c₄::{ cls:=.type "list",data:=.seq #[.ref (s.heap.objs.size+6),.ref (s.heap.objs.size+7),.ref (s.heap.objs.size+8),.ref (s.heap.objs.size+9)] m }::prO a₀ b₀::prO a₁ b₁::prO a₂ b₂::prO a₃ b₃::t))) :
  wpAny (model prog w) A (call (.type "list") [.ref (s.heap.objs.size+4)]) Q E (zSt s (zC s.heap.objs.size l₁ l₂ 0 .none .none .none false [])):=by
 refine JW (Q₁:=λobj s₁=>obj=.ref (s.heap.objs.size+5)/\s₁=zSt s (zC s.heap.objs.size l₁ l₂ 0 .none .none .none false [{ cls:=.type "list",data:=.seq #[] }])) F.called_list (F.typeCall_list_1 _) F.entry_list_init (code_list_new _ ⟨GA Value.ref (jj _ s.heap),rfl⟩) λobj s₁ h₁=>?_
 obtain⟨rfl,rfl⟩:=h₁;refine⟨⟨_,aO rfl rfl,rfl⟩,F.args_list_init_2 _ _,F3 ?_⟩;unfold Builtin.List.listItems;refine F3 (oZ rfl rfl (F6 (F3 (l9 rfl rfl (F3 (JL ?_))))));have hT:(zSt s ((zC s.heap.objs.size l₁ l₂ 0 .none .none .none false [{ cls:=.type "list",data:=.seq #[] }]).modify 5 (Obj.mapSeq λ_=>#[]))).TypeIs (.ref (s.heap.objs.size+4)) "zip" := ⟨_,aO rfl rfl,rfl⟩;unfold Builtin.List.listExtendWith;refine F3 (IJ hT ?_);have n1:Builtin.List.listSameRef (.ref (s.heap.objs.size+5)) (.ref (s.heap.objs.size+4))=false:=by simp[Builtin.List.listSameRef]
 have n2:(Value.type "zip" == Value.type "list")=false/\(Value.type "zip" == Value.type "tuple")=false:=by decide
 simp only[n1,n2.1,n2.2,Jb,Ib,Gt];refine F3 (wpAny_pyIter_slot hT II (HA II hT F.entry_zip_iter (F6 ⟨_,rfl,"zip",_,hT,HH.lookup,?_⟩) (F.args_zip_iter_1 _)));refine F3 (HE ?_);unfold Builtin.List.listLengthHint;refine F3 (IK hT (zb _ (.inl rfl)) (F3 (IK hT (zb _ (.inr rfl)) (F6 (F3 (IC (F3 (F3 (l9 rfl rfl (l9 rfl rfl (F6 ⟨Hu G3 _,?_⟩)))))))))));refine Hh IQ ?_;rw[G9 G3 _];refine F3 (BE h1 h2 rfl rfl (F3 (l9 rfl rfl (F6 ⟨Hu G3 _,?_⟩))))
 iterate 3
  refine Hh IQ ?_;rw[G9 G3 _];refine F3 (y8 h1 h2 (λe=>nomatch e) hh rfl (λo e=>by cases e;rfl) (λx y ex ey=>?_) λe=>nomatch e);cases ex;cases ey;refine F3 (l9 rfl rfl (F6 ⟨Hu G3 _,?_⟩))
 refine Hh IQ ?_;rw[G9 G3 _];exact F3 (y8 h1 h2 (λe=>rfl) hh rfl (λo e=>by cases e;rfl) (λx y ex=>nomatch ex) λ_ it t=>F6 ⟨rfl,q _ _ _ _ _ _ _⟩)
end
theorem laidM {σ:St}{H':Hp}{s:Shared}{h':Heap}(I:Inv X am σ H s)(k:∀ b u,s.heap.get? b=some u->h'.get? b=some u)(sm:Same H H')(nw:∀ b,b < s.heap.objs.size->H b=none->H' b=none)
  (ok:∀ b o,H b=none->H' b=some o->ObjOk X.prog X.w H' h' b o):Inv X am σ H' { s with heap:=h' }:=by
 refine I.step (ch:=[]) (λ_ z=>nomatch z) (λb o _ _ _ e _=>k b o e) (λb o _ _ _ e _=>⟨o.slots,k b o e⟩) (λb o _ e n=>nw b (F8 e) n) (λb o _ e=>⟨o,k b o e⟩) (λb xs e=>sm b _ e) (λb o u e=>sm b _ e) (λb ps e=>⟨#[],by rw[sm b _ e];simp⟩) (λm hm=>?_) (λb o e=>?_) I.bare
 ·obtain⟨o,es,ep,ho,r⟩:=hm;exact⟨o,es,ep,k _ o ho,r⟩
 ·cases q:H b with
  | none=>exact ok b o q e
  | some u =>
   cases (sm b u q).symm.trans e;exact(I.hok b o q).stay (λc v _ z=>k c v z) (λc z=>sm c _ z) λc xs z=>sm c _ z
def dZ4:D->D->R (List D)
 | .tup [a,b,c,d],.tup [e,f,g,h]=>.ok [.tup [a,e],.tup [b,f],.tup [c,g],.tup [d,h]]
 | _,_=>.stuck
theorem reps4 {a b c d:D}{vs:List V}(r:Reps K C Z [a,b,c,d] vs):∃ x y z w,vs=[x,y,z,w]/\Rep K C Z a x/\Rep K C Z b y/\Rep K C Z c z/\Rep K C Z d w:=by
 rw[Reps]at r;obtain⟨x,_,rfl,h1,r⟩:=r;rw[Reps]at r;obtain⟨y,_,rfl,h2,r⟩:=r;rw[Reps]at r;obtain⟨z,_,rfl,h3,r⟩:=r;rw[Reps]at r;obtain⟨w,_,rfl,h4,r⟩:=r;rw[Reps]at r;subst r;exact⟨x,y,z,w,rfl,h1,h2,h3,h4⟩
section
variable {F:Fx}{ga:KZ}
theorem u5:bootBuiltins "zip"=some (.type "zip")/\bootBuiltins "list"=some (.type "list"):=by decide +kernel
def H5 (H:Hp)(n:Nat)(t:Nat->List V)(b:Nat):Option HO:=if b=n+5 then some (.lst [.ref (n+6),.ref (n+7),.ref (n+8),.ref (n+9)]) else if n+6<=b/\b<=n+9 then some (.tup (t (b - (n+6)))) else H b
theorem tV {b:Nat}{t:Nat->List V}(hb:b < n):H5 H n t b=H b:=by unfold H5;rw[if_neg (by omega),if_neg (by omega)]
theorem p8 {t:Nat->List V}(fr:∀ b:Nat,n<=b->H b=none):Same H (H5 H n t):=λb o e=>(tV (Nat.lt_of_not_le λz=>nomatch (fr b z).symm.trans e)).trans e
theorem u6 {t:Nat->List V}(i:Nat)(hi:i < 4:=by decide):H5 H n t (n+(i+6))=some (.tup (t i)):=by
 unfold H5;rw[if_neg (by omega),if_pos (by omega),show n+(i+6) - (n+6)=i by omega]
theorem ET {t:Nat->List V}(sub:Same Z H)(fr:∀ b:Nat,n<=b->H b=none):Ex H Z (H5 H n t) (H5 Z n t):=by
 refine⟨p8 fr,p8 λb hb=>sub.free (fr b hb),λb o e=>?_,λ(b:Nat) hb=>?_⟩
 ·have:=sub b o;unfold H5 at e ⊢
  grind
 ·by_cases q:b < n
  ·rw[tV q]at hb;exact .inl hb
  ·exact .inr (fr b (Nat.le_of_not_lt q))
theorem BF {ta:TA}(hc:X.calm=true)(hg:Gl X "list")(hm:X.mg "list"=none)(hg2:Gl X "zip")(hm2:X.mg "zip"=none)(ha:PA X [a,b] ta)
  (hs:starEach [a,b] X.env=[(false,eval a X.env),(false,eval b X.env)]) (hs2:starEach [b] X.env=[(false,eval b X.env)]) (hs3:starEach [.Call (.Name "zip" p2) [a,b] [] pos2] X.env=[(false,eval (.Call (.Name "zip" p2) [a,b] [] pos2) X.env)]) :
  PE X (.Call (.Name "list" p) [.Call (.Name "zip" p2) [a,b] [] pos2] [] pos) (λσ H Q=>ta σ H λws H1=>∃ a1 a2 x0 x1 x2 x3 y0 y1 y2 y3,ws=[.ref a1,.ref a2]/\SqT X.K H1 a1 [x0,x1,x2,x3]/\SqT X.K H1 a2 [y0,y1,y2,y3] /\
   ∀ n,(∀ b,n<=b->H1 b=none)->Q (.ref (n+5)) (H5 H1 n λi=>[[x0,y0],[x1,y1],[x2,y2],[x3,y3]].getD i [])):=by
 intro am s σ H Q I h;refine Call_ (iK I hg hm u5.2 (Hb ?_ (by rw[hs3];rfl) (by rfl)));rw[hs3];refine HZ ?_;refine Call_ (iK I hg2 hm2 u5.1 (Hb (thn (ha pos2 am s σ H _ I h) λus s1 ⟨vs,H1,I1,r1,q1⟩=>?_) (by rw[hs,hs2]) (by rw[hs2];rfl)));obtain⟨a1,a2,x0,x1,x2,x3,y0,y1,y2,y3,rfl,hx,hy,q⟩:=q1;cases r1 with | cons r rr=>cases rr with | cons r' rr =>
 cases rr;cases r;cases r';obtain⟨is1,rv1,o1,_⟩:=I1.tuple hx;obtain⟨is2,rv2,o2,_⟩:=I1.tuple hy;cases rv1 with | cons e0 r=>cases r with | cons e1 r=>cases r with | cons e2 r=>cases r with | cons e3 r =>
 cases rv2 with | cons f0 r'=>cases r' with | cons f1 r'=>cases r' with | cons f2 r'=>cases r' with | cons f3 r' =>
 cases r;cases r';refine callType_new F.called_zip (by decide) (F.typeCall_zip_2 _ _) (F.newCall_zip_2 _ _) (λobj=>F.args_object_init_3 obj _ _) F.entry_zip_new (tU a1 a2 _ _) ⟨o1,o2,⟨_,aO rfl rfl,rfl⟩,Io ?_⟩;refine wH o1 o2 (I.ok.hd hc) λc₀ c₁ c₂ c₃ c₄ m t=>⟨.ref _,_,laidM I1 (λb u e=>jk _ e) (p8 λb hb=>I1.hok.fresh hb) (λb hb e=>(tV hb).trans e) (λb o n e=>?_),rfl,q _ λb hb=>I1.hok.fresh hb⟩
 unfold H5 at e;split at e
 ·rename_i hb;subst hb;cases e;exact⟨Gk rfl,_,m,.cons rfl (.cons rfl (.cons rfl (.cons rfl .nil))),aO rfl rfl⟩
 ·split at e
  ·rename_i hb;cases e;obtain⟨i,rfl,hi⟩:∃ i,@Eq Nat b (s1.heap.objs.size+(i+6))/\i < 4:=⟨b - (s1.heap.objs.size+6),by omega,by omega⟩;rw[show s1.heap.objs.size+(i+6) - (s1.heap.objs.size+6)=i by omega];rcases i with _ | _ | _ | _ | i
   ·exact⟨Gk rfl,_,.cons e0 (.cons f0 .nil),_,aO rfl rfl,rfl,rfl,_,rfl⟩
   ·exact⟨Gk rfl,_,.cons e1 (.cons f1 .nil),_,aO rfl rfl,rfl,rfl,_,rfl⟩
   ·exact⟨Gk rfl,_,.cons e2 (.cons f2 .nil),_,aO rfl rfl,rfl,rfl,_,rfl⟩
   ·exact⟨Gk rfl,_,.cons e3 (.cons f3 .nil),_,aO rfl rfl,rfl,rfl,_,rfl⟩
   ·omega
  ·rw[n]at e;cases e
theorem BH (bx:BX X F k)(hg:Gl X "list")(hm:X.mg "list"=none)(hg2:Gl X "zip")(hm2:X.mg "zip"=none)(ha:FAL X F [a,b] [ga,gb])
  (hs:starEach [a,b] X.env=[(false,eval a X.env),(false,eval b X.env)]:=by rfl) (hs2:starEach [b] X.env=[(false,eval b X.env)]:=by rfl) (hs3:starEach [.Call (.Name "zip" p2) [a,b] [] pos2] X.env=[(false,eval (.Call (.Name "zip" p2) [a,b] [] pos2) X.env)]:=by rfl) :
  FE X F (.Call (.Name "list" p) [.Call (.Name "zip" p2) [a,b] [] pos2] [] pos) (λS=>((ga S).bind λx=>(gb S).bind λy=>dZ4 x y).bind λws=>R.ok (FF.D.lst ws)) :=
 (BF bx.calm hg hm hg2 hm2 (FAL.out ha) hs hs2 hs3).weak λσ H Q ⟨Z,S,ok,w⟩=>by
  have e:((ga S).bind λx=>(gb S).bind λy=>dZ4 x y).bind (λws=>R.ok (FF.D.lst ws))=((aL [ga,gb]) S).bind λds=>match ds with | [x,y]=>(dZ4 x y).bind λws=>R.ok (FF.D.lst ws) | _=>R.stuck:=by
   show _=((ga S).bind λd=>((gb S).bind λd=>R.ok [d]).bind λds=>R.ok (d::ds)).bind _;cases ga S with
   | ok x=>cases gb S<;>rfl
   | _=>rfl
  have w:WG F H Z (((ga S).bind λx=>(gb S).bind λy=>dZ4 x y).bind λws=>R.ok (FF.D.lst ws)) _:=w;rw[e]at w;refine aS ok w λds vs H1 Z1 ok1 x1 rs w1=>?_
  split at w1
  ·rename_i x y;unfold dZ4 at w1;split at w1
   ·rw[Reps]at rs;obtain⟨_,_,rfl,q1,rs⟩:=rs;rw[Reps]at rs;obtain⟨_,_,rfl,q2,rs⟩:=rs;rw[Reps]at rs;subst rs;rw[Rep]at q1 q2;obtain⟨a1,_,rfl,t1,r1⟩:=q1;obtain⟨a2,_,rfl,t2,r2⟩:=q2;obtain⟨x0,x1,x2,x3,rfl,p0,p1,p2,p3⟩:=reps4 r1;obtain⟨y0,y1,y2,y3,rfl,s0,s1,s2,s3⟩:=reps4 r2;rw[bx.K];refine⟨a1,a2,x0,x1,x2,x3,y0,y1,y2,y3,rfl,t1.mono ok1.sub,t2.mono ok1.sub,λn fr=>?_⟩;have x5:=ET (t:=λi=>[[x0,y0],[x1,y1],[x2,y2],[x3,y3]].getD i []) ok1.sub fr;refine w1 _ _ x5 _ ?_;have R2:∀ {x y:D} {u v:V} {a:Addr},H5 Z1 n (λi=>[[x0,y0],[x1,y1],[x2,y2],[x3,y3]].getD i []) a=some (.tup [u,v])->Rep F.K F.C Z1 x u->Rep F.K F.C Z1 y v->Rep F.K F.C _ (.tup [x,y]) (.ref a):=λe r r'=>by
     rw[Rep];exact⟨_,_,rfl,SqT.of e,Reps.cons (r.mono x5.z) (Reps.cons (r'.mono x5.z) Reps.nil)⟩
    rw[Rep];exact⟨n+5,_,rfl,SqL.of (if_pos rfl),Reps.cons (R2 (u6 0) p0 s0) (Reps.cons (R2 (u6 1) p1 s1) (Reps.cons (R2 (u6 2) p2 s2) (Reps.cons (R2 (u6 3) p3 s3) Reps.nil)))⟩
   ·exact w1.elim
  ·exact w1.elim
end
section
variable {τ W:Type}{F:Fx}{c:Expr}{body:Lo}{inj:τ->W->SS}{gt:Le}{r:τ->R Bool}{step:τ->L τ}
end
end
end FF
end
noncomputable section

end
noncomputable section
namespace FF
open PySem PySem.Spec PyProof.Rows L2
variable {X:Cx}{pos Kn:Pos}{g:SS->O}{e c:Expr}{r:R D}{S:SS}{x:Str}{G:Gx}{W:Wd}{k:Nat}{F:Fx}{st:Stmt}
section
variable {τ V':Type}{tg iter:Expr}{body:Lo}{git:KY}{inj:τ->V'->SS}
theorem zc (i j:Nat){s0:τ}{B:τ->V'->D->D->SS}{step:Wd->τ->D->D->LW τ}(w0:V')(hp:PassesOwn (model X.prog X.w) X.A X.env X.xe)(hc:X.calm=true)(hi:KM G W λF=>FI X F tg iter git)(hg:∀ H0 Z0 W',Wk (G.at H0 Z0) W'->FG X (G.at H0 Z0) tg (gTup [i,j]))
  (hS:S=inj s0 w0) (hB:∀ s w x y,((inj s w).set i (some (.val x))).set j (some (.val y))=B s w x y) (hb:∀ W' s w x y,GL X G W' (B s w x y) body (JX inj) (step W' s x y))
  (hs:∀ x,foldedSetIterable iter X.env x=pure x:=by intro _;rfl):GL1 X G W S (.For tg iter body [] pos) (JX inj) (lwR W (git S) λxs=>lwFor (λW s p=>lwUn2 p λx y=>step W s x y) xs W s0):=by
 have hi':PI X tg iter (λρ H Q=>∃ HW Z,GOk G W HW Z H S ρ/\tI (G.fx HW Z H) git ρ H Q):=λam s ρ H Q I ⟨HW,Z,ok,t⟩=>hi _ _ ok.wk am s ρ H Q I t
 have hg':PG X tg (λv ρ H Q=>∃ W' HW Z S',GOk G W' HW Z H S' ρ/\tGd (G.fx HW Z H) (gTup [i,j]) v ρ H Q):=λam s ρ H v u Q I r ⟨W',HW,Z,S',ok,t⟩=>hg _ _ W' ok.wk am s ρ H v u Q I r t
 have hbb:PSs X body (λD ρ H=>∃ q:Wd×τ×V'×FF.D×FF.D,tGL G q.1 (B q.2.1 q.2.2.1 q.2.2.2.1 q.2.2.2.2) (JX inj) (step q.1 q.2.1 q.2.2.2.1 q.2.2.2.2) D ρ H):=λam s ρ H D I ⟨q,t⟩=>hb q.1 q.2.1 q.2.2.1 q.2.2.2.1 q.2.2.2.2 am s ρ H D I t
 refine(sC hp hc hi' hg' hbb hs).weak λD ρ H ⟨HW,Z,ok,w⟩=>⟨HW,Z,ok,Z,S,ok.nm,?_⟩
 cases q:git S with
 | err e=>rw[q]at w;exact λH' x=>w HW Z H' (Same.refl _) (ok.gx.trans ⟨λb o _ e=>x b o e,Same.refl _,ok.zh.trans x,ok.wh.trans x,λ_ h=>h,λ_ h=>.inl h,λ_ h=>.inl h,ok.gx.dj⟩) ok.wd
 | stuck=>rw[q]at w;exact w
 | ok ds =>
  rw[q]at w;intro H1 Z1 x1;have w1:=WGL.more x1.z w;have okA:=ok.more (ok.ex x1) (ok.wd.mono (Same.refl _) x1.z);intro It wk _;refine⟨λn m ρ H=>m=ds.length - n/\n<=ds.length/\∃ W2 HW2 Z2 s w,GOk G W2 HW2 Z2 H (inj s w) ρ/\Same Z1 Z2/\WGL G Z2 (JX inj) D (lwFor (λW s p=>lwUn2 p λx y=>step W s x y) (ds.drop n) W2 s),⟨ds.length,rfl,GQ _,W,HW,Z1,s0,w0,by rw[<- hS];exact okA,Same.refl _,w1⟩,?_⟩
  rintro n m ρ2 H2 ⟨rfl,hle,W2,HW2,Z2,s,w2,ok2,z2,wl2⟩
  obtain⟨k1,k2⟩:=wk n H2 Z2 z2 ok2.zh;by_cases K4:n < ds.length
  ·obtain⟨go,y⟩:=k1 K4;refine .inr ⟨go,λρ' H'=>∃ W3 HW3 Z3 s3 w3,GOk G W3 HW3 Z3 H' (inj s3 w3) ρ'/\Same Z1 Z3/\WGL G Z3 (JX inj) D (lwFor (λW s p=>lwUn2 p λx y=>step W s x y) (ds.drop (n+1)) W3 s3),λρ' H' ⟨W3,HW3,Z3,s3,w3,q⟩=>⟨ds.length - (n+1),by omega,rfl,K4,W3,HW3,Z3,s3,w3,q⟩,λx H' hy=>?_⟩;obtain⟨Z2',d,x',e3,rd⟩:=y x H' hy;have ok2:=ok2.more (ok2.ex x') (ok2.wd.mono (Same.refl _) x'.z);have hd:ds.drop n=d::ds.drop (n+1):=by
    obtain⟨hi,e4⟩:=Gc.mp e3;rw[Hz hi,e4]
   rw[hd]at wl2;refine⟨W2,HW2,Z2',inj s w2,ok2,Z2',inj s w2,d,ok2.nm,rd,?_⟩
   match d,rd,wl2 with
   | .tup [x1',x2'],rd,wl2 =>
     intro H4 Z4 x4 ρ4 ok4;have okB:=ok2.after ok4;refine⟨⟨W2,s,w2,x1',x2'⟩,HW2,Z4,by rw[<- hB];exact okB,?_⟩;have z14:Same Z1 Z4:=(z2.trans x'.z).trans x4.z;refine WGL.bind2 (by rfl) ?_ (WGL.more (x'.z.trans x4.z) wl2);intro w3 s3 S3 ρ3 HW3 Z3 H3 ⟨w5,e5⟩ z3 ok3 wl3;exact⟨w3,HW3,Z3,s3,w5,e5 ▸ ok3,z14.trans z3,wl3⟩
   | .tup [],_,wl2=>exact wl2.elim
   | .tup [_],_,wl2=>exact wl2.elim
   | .tup (_::_::_::_),_,wl2=>exact wl2.elim
   | .non,_,wl2=>exact wl2.elim
   | .bl _,_,wl2=>exact wl2.elim
   | .int _,_,wl2=>exact wl2.elim
   | .str _,_,wl2=>exact wl2.elim
   | .lst _,_,wl2=>exact wl2.elim
   | .exc _,_,wl2=>exact wl2.elim
   | .fn _,_,wl2=>exact wl2.elim
   | .tab _ _,_,wl2=>exact wl2.elim
   | .dic _ _,_,wl2=>exact wl2.elim
   | .ptr _,_,wl2=>exact wl2.elim
  ·refine .inl ⟨k2 (by omega),?_⟩;rw[HI (by omega)]at wl2;exact wl2 (inj s w2) ρ2 HW2 Z2 H2 ⟨w2,rfl⟩ (Same.refl _) ok2
end
section
variable {g:KZ}{keys:List (Option Expr)}{values:Lp}{ks:List Key}{gs:List (KZ)}
theorem zd:FEw X F (.Dict [] [] pos) (λ_=>.ok (.dic [] [])):=⟨lZ⟩
theorem fdw {x j pk}(hv:FEw X F e g)(hr:FD X F pos keys values ks gs):FD X F pos (some (.Constant (.str x) j pk)::keys) (e::values) (.inr x::ks) (g::gs):=Bg hv.out hr
theorem u7 {k:Option Expr}(h:FD X F pos (k::keys) values ks gs)(hl:ks.length=gs.length:=by rfl)(h15:Nat.ble ks.length 15=true:=by rfl)(Ku:(k::keys).all (·.isSome)=true:=by rfl)(KF:(k::keys).length=values.length:=by rfl)(hk15:Nat.ble (k::keys).length 15=true:=by rfl):FEw X F (.Dict (k::keys) values pos) (eDicV ks gs) :=
 ⟨BB h hl (Gk h15) Ku KF (by simp) (Gk hk15)⟩
end
section
variable {a b:Expr}{es:Lp}{rest:Lo}{α σ τ V':Type}{J:σ->SS->Prop}{n:Nat}{r r0:RW}{gb:KZ}
theorem ze (i j:Nat){y:Str}{px py pt:Pos}{kt k2 pt2}{S':D->D->SS}{k:Wd->D->D->LW σ}(bg:BG X G n)(hN:X.N.Nodup)(ha:GE X G W S a r0)(hr:r0=r)(hb:∀ H0 Z0 W',Wk (G.at H0 Z0) W'->FEw X (G.at H0 Z0) b gb){rb:R D}(hrb:gb S=rb)(hS:∀ a b,(S.set i (vv a)).set j (vv b)=S' a b)(hk:∀ w a b,GL X G w (S' a b) rest J (k w a b))
  (hij:i≠j:=by decide) (hi:X.N[i]?=some x:=by rfl) (hj:X.N[j]?=some y:=by rfl) (hx:X.env.scope.names.lookup x=some .local:=by rfl) (hy:X.env.scope.names.lookup y=some .local:=by rfl)
  (he:Id X a [b]:=by rfl) (he2:Id X b []:=by rfl)
  (hw:swappedStores [.Tuple [.Name x px,.Name y py] kt pt] (.Tuple [a,b] k2 pt2) X.env=pure (some [x,y]):=by rfl)
  (hs:swapsWithSole [.Tuple [.Name x px,.Name y py] kt pt] (.Tuple [a,b] k2 pt2) pos.line X.env=pure false:=by rfl) :
  GLw X G W S (.Assign [.Tuple [.Name x px,.Name y py] kt pt] (.Tuple [a,b] k2 pt2) pos::rest) J (lwB r λw u=>lwR w rb λv=>k w u v) :=
 ⟨By i j bg hN ha hr (λa b c d=>(hb a b c d).out) hrb hS hk hij hi hj hx hy he he2 hw hs⟩
end
def dRev2:D->R D
 | .lst [x,y]=>.ok (.lst [y,x])
 | _=>.stuck
section
variable {st:Expr}{te:TE}{g:KZ}{p2:Pos}
theorem BI (he:PE X e te)(K8:PE X st (tC (.int (-1)))):PE X (.Subscript e (.Slice none none (some st) p2) pos) (λσ H Q=>te σ H λx H1=>∃ a y z,x=.ref a/\SqL X.K H1 a [y,z]/\∀ p,H1 p=none->Q (.ref p) (upd H1 p (.lst [z,y]))):=by
 intro am s σ H Q I h;refine Jk (thn (he am s σ H _ I h) λv s1 ⟨x,H1,I1,r1,a,y,z,ex,hx,q⟩=>?_);refine wpAny_Slice ?_;rw[J9];refine F6 (F6 ?_);rw[evalPart_some];refine thn (K8 am s1 σ H1 (λy H2=>y=.int (-1)/\H2=H1) I1 ⟨rfl,rfl⟩) λu s2 ⟨y',H2,I2,r2,ey,eh⟩=>?_
 subst ey eh ex;obtain⟨tk,rfl⟩:=r2;cases r1;have I4:Inv X am σ H2 { s2 with heap:=s2.heap.push { cls:=.type "slice",data:=.fields #[.none,.none,.int (-1) tk] } }:=I2.kept λb ob q=>F4 _ q
 obtain⟨its,r,pl,hz⟩:=I4.list hx;obtain _ | ⟨b1,r⟩:=r;obtain _ | ⟨b2,r⟩:=r;cases r;rename_i u1 u2;refine tail_any pl.isList.typeIs list_getitem_lookup ?_ (by with_unfolding_all rfl);refine Jt pl.isList (Heap.IsSliceOf.new ..) .none .none (.int _ _) (by decide) ?_ hz;have e:slicePick [u1,u2].toArray none none (some (-1))=[u2,u1].toArray:=by first | with_unfolding_all rfl | kernel_rfl
 rw[e];exact⟨.ref _,_,I4.lnew (.cons b2 (.cons b1 .nil)) hz,rfl,q _ (I4.hok.fresh (F7 _))⟩
theorem BJ (hK:X.K=F.K)(he:FE X F e g)(K8:PE X st (tC (.int (-1)))):FE X F (.Subscript e (.Slice none none (some st) p2) pos) (λS=>(g S).bind dRev2) :=
 (BI he K8).weak λσ H Q ⟨Z,S,ok,w⟩=>ak ok w λd v H1 Z1 ok1 x1 rv w1=>by
  unfold dRev2 at w1;split at w1
  ·rw[Rep]at rv;obtain⟨a,vs,rfl,h1,h2⟩:=rv;rw[Reps]at h2;obtain⟨y,vs,rfl,hy,h2⟩:=h2;obtain⟨z,rfl,hz⟩:=aN h2;exact⟨a,y,z,rfl,by rw[hK];exact ok1.sub.seq h1,λp hp=>w1 _ _ (Ex.alloc ok1.sub hp) _ (by
    have s:=ar (o:=.lst [z,y]) (ok1.sub.free hp);rw[Rep];exact⟨p,_,rfl,SqL.of ah,Reps.cons (hz.mono s) (Reps.cons (hy.mono s) Reps.nil)⟩)⟩
  ·exact w1.elim
end
section
variable {σ τ α:Type}{rest:Lo}{J:σ->SS->Prop}{g:KZ}
theorem fl_1 (h:FE X F e g)(hr:g S=r:=by rfl):FL X F S (.Return (some e) pos::rest) J (lB r .rt):=ye (pK h) hr
theorem fl_2 {v:D}(h:FE X F e g)(hr:g S=.ok v:=by rfl):FL X F S (.Return (some e) pos::rest) J (.rt v):=ye (pK h) hr
theorem fl_3 {g:SS->O}{r:R α}{S':α->SS}{k:α->L σ}(h:FS X F st g)(hk:∀ a,FL X F (S' a) rest J (k a))(hg:g S=rO (r.bind λa=>.ok (.nx (S' a))):=by rfl):FL X F S (st::rest) J (lB r k):=k8 h hg hk
theorem fl_4 {g:SS->O}{S':SS}{l:L σ}(h:FS X F st g)(hk:FL X F S' rest J l)(hg:g S=.nx S':=by rfl):FL X F S (st::rest) J l:=qX h hg hk
theorem fl_5 {g:SS->O}(h:FS X F st g)(hg:g S=.er k:=by rfl):FL X F S (st::rest) J (.er k):=EH h hg
theorem fl_6 {a:Lo}{gt:Le}{r:R Bool}{A:L Unit}{k:L σ}(hc:FT X F c gt)(ha:FL X F S a (JX λ(_ _:Unit)=>S) A)(hk:FL X F S rest J k)(hr:gt S=r:=by rfl):FL X F S (.If c a [] pos::rest) J (lS (lB r λt=>if t=true then A else .nx ()) λ_=>k) :=
 jZ (inj:=λ(_ _:Unit)=>S) (gr hc hr ha (bJ ⟨(),rfl⟩)) λ_ _=>hk
theorem fl_7 (i:Nat){k:D->L σ}(hN:X.N.Nodup)(h:FE X F e g)(hk:∀ a,FL X F (S.set i (vv a)) rest J (k a))(hr:g S=r:=by rfl)(hi:X.N[i]?=some x:=by rfl)(hx:Loc X.env.scope x:=by first | exact Or.inl rfl | exact Or.inr rfl)
  (hs:swapsWith e (some (.Name x Kn)) pos.line X.env=pure false:=by rfl) (hf:KJ X x:=by first | exact .inl rfl | exact .inr rfl):FL X F S (.Assign [.Name x Kn] e pos::rest) J (lB r k):=k8 (lG i hN h hi hx hs hf) (by rw[<- hr];rfl) hk
theorem fl_8 {k:L σ}(h:FE X F e g)(hk:FL X F S rest J k)(hr:g S=r:=by rfl)(hs:swapsWith e none pos.line X.env=pure false:=by rfl):FL X F S (.Expr e pos::rest) J (lB r λ_=>k):=k8 (AF h hs) (by rw[<- hr];rfl) λ_=>hk
theorem fao (ha:FE X F e g)(hs:isStar e=false:=by rfl):FA X F [e] (aL [g]):=FAL.out (fac1 ha hs)
theorem pe_b {v:V}{u:Value}(hm:X.mg x=none)(hg:Gl X x:=by rfl)(r:RelV v u:=by rfl)(hv:bootBuiltins x=some u:=by decide +kernel)(hn:x ≠ "__name__" := by decide)(hd:KH x:=by decide):PE X (.Name x pos) (tC v):=Ap hg hm hv r hn hd
end
section
variable {σ α:Type}{rest:Lo}{J:σ->SS->Prop}{o:Expr}{g go:KZ}{r0 r:RW}
theorem gl_1 {r:R D}(h:KM G W λF=>FE X F e g)(hr:g S=r:=by rfl):GL X G W S (.Return (some e) pos::rest) J (lwR W r λd=>.rt W d):=uP (λ_ _ w=>pK (h _ _ w)) hr
theorem gl_2 {d:D}(h:KM G W λF=>FE X F e g)(hr:g S=.ok d:=by rfl):GL X G W S (.Return (some e) pos::rest) J (.rt W d):=uP (λ_ _ w=>pK (h _ _ w)) hr
theorem gl_3 {g:SS->O}{r:R α}{S':α->SS}{k:α->LW σ}(h:KM G W λF=>FS X F st g)(hk:∀ a,GL X G W (S' a) rest J (k a))(hg:g S=rO (r.bind λa=>.ok (.nx (S' a))):=by rfl):GL X G W S (st::rest) J (lwR W r k):=pV h hg hk
theorem gl_4 {g:SS->O}{S':SS}{l:LW σ}(h:KM G W λF=>FS X F st g)(hk:GL X G W S' rest J l)(hg:g S=.nx S':=by rfl):GL X G W S (st::rest) J l:=yy h hg hk
theorem gl_5 {g:SS->O}(h:KM G W λF=>FS X F st g)(hg:g S=.er k:=by rfl):GL X G W S (st::rest) J (.er W k):=DO h hg
theorem gl_6 {sa:Lo}{A:Wd->LW Unit}{k:Wd->LW σ}(hc:GT X G W S c r0)(ha:∀ w,GL X G w S sa (JX λ(_ _:Unit)=>S) (A w))(hk:∀ w,GL X G w S rest J (k w))(hr:r0=r:=by rfl):GL X G W S (.If c sa [] pos::rest) J (lwS (lwT r A λw=>.nx w ()) λw _=>k w) :=
 uQ (inj:=λ(_ _:Unit)=>S) hc hr ha (λ_=>bL ⟨(),rfl⟩) λw _ _=>hk w
theorem gl_7 (i:Nat){r:R D}{k:D->LW σ}(hN:X.N.Nodup)(h:KM G W λF=>FE X F e g)(hk:∀ a,GL X G W (S.set i (vv a)) rest J (k a))(hr:g S=r:=by rfl)(hi:X.N[i]?=some x:=by rfl)(hx:Loc X.env.scope x:=by first | exact Or.inl rfl | exact Or.inr rfl)
  (hs:swapsWith e (some (.Name x Kn)) pos.line X.env=pure false:=by rfl) (hf:KJ X x:=by first | exact .inl rfl | exact .inr rfl):GL X G W S (.Assign [.Name x Kn] e pos::rest) J (lwR W r k):=pV (λ_ _ w=>lG i hN (h _ _ w) hi hx hs hf) (by rw[<- hr];rfl) hk
theorem gl_8 {k:Wd->LW σ}(h:GE X G W S e r0)(hk:∀ w,GL X G w S rest J (k w))(hr:r0=r:=by rfl)(hs:swapsWith e none pos.line X.env=pure false:=by rfl):GL X G W S (.Expr e pos::rest) J (lwB r λw _=>k w):=Bj h hr hk hs
theorem gl_9 (h:GE X G W S e r0)(hr:r0=r:=by rfl):GL X G W S [.Return (some e) pos] J (lwB r λw d=>.rt w d):=Bk h hr
theorem iq {f:Str}{c:Nat}{po:D}{k:Wd->LW σ}(bg:X.K=G.K)(hn:NoAttr X.K (G.C c) f)(hv:GE X G W S e r0)(ho:∀ H0 Z0 W',Wk (G.at H0 Z0) W'->FE X (G.at H0 Z0) o go)(hk:∀ w,GL X G w S rest J (k w))(hr:r0=r:=by rfl)(hS:go S=.ok po:=by rfl)
  (hs:swapsWith e (some (.Attribute o f Kn)) pos.line X.env=pure false:=by rfl):GL X G W S (.Assign [.Attribute o f Kn] e pos::rest) J (lwB r λw d=>wFld c w f po d k):=DP bg hn hv hr ho hS hk hs
end
end FF
end
noncomputable section
namespace Lw
open PySem FF
def esL:List Nat:=[1,2,4,5,9,11]
namespace F
abbrev aE:Nat:=20
abbrev ay:Nat:=21
abbrev aI:Nat:=22
abbrev aD:Nat:=23
abbrev aB:Nat:=24
abbrev aw:Nat:=25
abbrev aA:Nat:=26
abbrev az:Nat:=105
abbrev aH:Nat:=27
abbrev an:Nat:=28
abbrev aC:Nat:=29
abbrev ax:Nat:=69
abbrev aJ:Nat:=70
abbrev aN:Nat:=125
abbrev aK:Nat:=84
abbrev aF:Nat:=127
abbrev ah:Nat:=128
abbrev ao:Nat:=146
abbrev aq:Nat:=147
abbrev ap:Nat:=148
abbrev af:Nat:=149
abbrev av:Nat:=150
abbrev ai:Nat:=151
abbrev ak:Nat:=152
abbrev al:Nat:=153
abbrev aL:Nat:=154
abbrev aa:Nat:=155
abbrev ar:Nat:=158
abbrev ag:Nat:=159
abbrev ae:Nat:=160
abbrev ad:Nat:=161
abbrev aG:Nat:=280
abbrev ac:Nat:=334
abbrev aO:Nat:=30
abbrev ab:Nat:=31
abbrev au:Nat:=32
abbrev aj:Nat:=89
abbrev aM:Nat:=265
end F
def fvL:List Nat:=[21,146,147,148,149,150,151,152,153]
def ft:List (Str×Nat):=[("first",F.ao),("last",F.aq),("least",F.ap),("greatest",F.af),("sum",F.av),("times",F.ai),("less",F.ak),("same",F.al)]
def iV (t:KP)(GU:D):L Unit :=
 lB (vAnd (dIsA qInt GU) (vNot (dIsA qBool GU))) .rt
def fu (t:KP)(GU:D):L Unit :=
 lB (vAnd (t F.aE [GU]) (rCh dLe dLe (.int 0) GU (.ok (.int 9)))) .rt
def ib (t:KP)(GU:D):L Unit :=
 lB (vAnd (t F.aE [GU]) (rCh dLe dLe (.int 0) GU (.ok (.int 3)))) .rt
def eY (t:KP)(size_:D)(GU:D)(is_end:D):L Unit :=
 lS (lB (σ:=Unit) (rNot (asB (dIsA qTup GU))) λb=>if b=true then lB (onF fvL is_end λi=>t i [GU]) .rt else .nx ()) λ_ =>
 lS (lB (σ:=Unit) (rOr (asB (dEq size_ (.int 0))) (asB ((dLen [GU]).bind λx=>dNf x (.int 4)))) λb1=>if b1=true then .rt (.bl false) else .nx ()) λ_ =>
 lB (((sq GU).bind λxs=>cMap (λpart=>(dSub size_ (.int 1)).bind λx1=>t F.aD [x1,part,is_end]) xs).bind λx2=>dAll [x2]) .rt
def bD (t:KP)(GU:D)(is_end:D):L Unit :=
 lS (lB (σ:=Unit) (rOr (rNot (asB (dIsA qTup GU))) (asB ((dLen [GU]).bind λx=>dNf x (.int 2)))) λb=>if b=true then .rt (.bl false) else .nx ()) λ_ =>
 lB (vAnd ((dIx GU (.int 0)).bind λx3=>t F.aI [x3]) ((dIx GU (.int 0)).bind λx1=>(dIx GU (.int 1)).bind λx2=>t F.aD [x1,x2,is_end])) .rt
def bN (t:KP)(four:D):L Unit :=
 lB (dIx four (.int 0)) λfirst =>
 lS (lB (σ:=Unit) (rAnd (rNot (asB (dIsA qTup first))) (asB (dEq four (.tup [first,first,first,first])))) λb=>if b=true then .rt first else .nx ()) λ_ =>
 .rt four
def cF (t:KP)(Kq:D):L Unit :=
 lS (lB (σ:=Unit) (rNot (asB (dIsA qTup Kq))) λb=>if b=true then .rt Kq else .nx ()) λ_ =>
 lB ((((sq Kq).bind λxs=>cMap (λpart=>t F.aA [part]) xs).bind λx=>dTuple [x]).bind λx1=>t F.aw [x1]) .rt
def cm (t:KP)(Kq:D):L Unit :=
 lS (lB (σ:=Unit) (asB (dIsA qTup Kq)) λb=>if b=true then .rt Kq else .nx ()) λ_ =>
 .rt (.tup [Kq,Kq,Kq,Kq])
def cO (t:KP)(GU:D):L Unit :=
 lB (t F.aB [GU,(.fn F.ay)]) .rt
def bE (t:KP)(GU:D):L Unit :=
 lB (rNot (asB (t F.aH [GU]))) λb=>if b=true then .er 1 else .nx ()
def p9 (t:KP)(Ig:D):L Unit :=
 lB (t F.an [Ig]) λ_ =>
 lB ((dIx Ig (.int 0)).bind λx=>((dIx Ig (.int 1)).bind λx1=>t F.aA [x1]).bind λx2=>.ok (.tup [x,x2])) .rt
def bO (t:KP)(Kq:D)(KA:D):L Unit :=
 lS (lB (σ:=Unit) (rNot (asB (dIsA qTup Kq))) λb=>if b=true then .rt Kq else .nx ()) λ_ =>
 lB (((sq KA).bind λxs=>cMap (λnumber=>(dIx Kq number).bind λx=>t F.ax [x,KA]) xs).bind λx1=>dTuple [x1]) .rt
def lj (t:KP)(Ig:D)(KA:D):L Unit :=
 lB (t F.aC [Ig]) λshown =>
 lB ((dIx shown (.int 0)).bind λx=>((dIx shown (.int 1)).bind λx1=>t F.ax [x1,KA]).bind λx2=>.ok (.tup [x,x2])) .rt
def jl (t:KP)(Ig:D):L Unit :=
 lB (t F.aJ [Ig,(tupI [2,0,3,1])]) .rt
def fw (t:KP)(Ig:D):L Unit :=
 lB (t F.aJ [Ig,(tupI [1,0,3,2])]) .rt
def cG (t:KP)(GU:D):L Unit :=
 lB (rOr (rNot (asB (t F.aE [GU]))) (rNot (asB (rCh dLe dLt (.int 0) GU (.ok (.int 8)))))) λb=>if b=true then .er 2 else .nx ()
def dJ (t:KP)(Kk:D)(step:D):L (D) :=
 lB (t F.aN [Kk]) λtold1 =>
 .nx told1
def gw (t:KP)(Ig:D)(way:D):L Unit :=
 lB (t F.aC [Ig]) λKk =>
 lB (t F.aF [way]) λ_ =>
 lS (lB (σ:=D) (asB (dGe way (.int 4))) λb=>if b=true then lB (t F.aK [Kk]) λtold1 =>
 .nx told1 else .nx Kk) λtold2 =>
 lS (lB ((dMod way (.int 4)).bind λx=>rng1 [x]) λxs=>lFor (τ:=D) (λs x=>dJ t s x) xs told2) λtold4 =>
 .rt told4
def ir (t:KP)(one:D)(Ih:D):L Unit :=
 .rt one
def jm (t:KP)(one:D)(Ih:D):L Unit :=
 .rt Ih
def iu (t:KP)(one:D)(Ih:D):L Unit :=
 lB (dMin2 [one,Ih]) .rt
def eZ (t:KP)(one:D)(Ih:D):L Unit :=
 lB (dMax2 [one,Ih]) .rt
def kM (t:KP)(one:D)(Ih:D):L Unit :=
 lB ((dAdd one Ih).bind λx=>dMod x (.int 10)) .rt
def cn (t:KP)(one:D)(Ih:D):L Unit :=
 lB ((dMul one Ih).bind λx=>dMod x (.int 10)) .rt
def cP (t:KP)(one:D)(Ih:D):L Unit :=
 lB ((dSub one Ih).bind λx=>dAbs [x]) .rt
def cQ (t:KP)(one:D)(Ih:D):L Unit :=
 lB (rIf (asB (dEq one Ih)) (.ok (.int 1)) (.ok (.int 0))) .rt
def cR (t:KP)(GU:D)(words:D):L Unit :=
 lB (asB (dNotInD GU words)) λb=>if b=true then .er 5 else .nx ()
def cS (t:KP)(GU:D):L Unit :=
 lB (t F.aL [GU,(tabK ft)]) λ_ =>
 .nx ()
def bn (t:KP)(K3:D)(GU:D):L (Unit) :=
 lB (asB ((dIx GU (.int 0)).bind λx=>((dIx K3 (.int 0)).bind λx1=>dIx x1 (.int 0)).bind λx2=>dNf x x2)) λb=>if b=true then .er 4 else .nx ()
def bw (t:KP)(K3:D):L Unit :=
 lS (lB (sq K3) λxs=>lFor (τ:=Unit) (λ_ x=>bn t K3 x) xs ()) λ_ =>
 .nx ()
def aX (t:KP)(Ig:D):L (Unit) :=
 lB (t F.an [Ig]) λ_ =>
 .nx ()
def aY (t:KP)(K1:D):L Unit :=
 lS (lB (sq K1) λxs=>lFor (τ:=Unit) (λ_ x=>aX t x) xs ()) λ_ =>
 lB (t F.ar [K1]) λ_ =>
 .nx ()
def bz (t:KP)(make:D)(one:D)(Ih:D):L Unit :=
 lS (lB (σ:=Unit) (rAnd (rNot (asB (dIsA qTup one))) (rNot (asB (dIsA qTup Ih)))) λb=>if b=true then lB (onF fvL make λi=>t i [one,Ih]) .rt else .nx ()) λ_ =>
 lB (((t F.az [one]).bind λx=>(t F.az [Ih]).bind λx1=>dZ4 x x1).bind λzs=>.ok (.lst zs)) λcouples =>
 lB ((((sq couples).bind λxs=>cMap (λcouple=>(dIx couple (.int 0)).bind λx2=>(dIx couple (.int 1)).bind λx3=>t F.ae [make,x2,x3]) xs).bind λx4=>dTuple [x4]).bind λx5=>t F.aw [x5]) .rt
def gz (t:KP)(rule:D)(one:D)(Ih:D):L Unit :=
 lB (t F.aa [rule]) λ_ =>
 lB (t F.ag [(.lst [one,Ih])]) λ_ =>
 lB ((dIx one (.int 0)).bind λx=>((dTab ft rule).bind λx1=>(dIx one (.int 1)).bind λx2=>(dIx Ih (.int 1)).bind λx3=>t F.ae [x1,x2,x3]).bind λx4=>.ok (.tup [x,x4])) .rt
def kg (t:KP)(GU:D):L Unit :=
 lS (lB (σ:=Unit) (rOr (rNot (asB (dIsA qStr GU))) (rNot (asB ((dLenS [GU]).bind λx=>rCh dLe dLe (.int 1) x (.ok (.int 5)))))) λb=>if b=true then .rt (.bl false) else .nx ()) λ_ =>
 lB (((asTxt GU).bind λxs=>cMap (λsign=>dInS sign (.str "abcdefghijklmnopqrstuvwxyz")) xs).bind λx1=>dAll [x1]) .rt
def cT (t:KP)(GU:D):L Unit :=
 lB (rNot (asB (t F.aG [GU]))) λb=>if b=true then .er 11 else .nx ()
def jn (t:KP)(Fg:D)(Fq:D):L Unit :=
 lS (lB (σ:=Unit) (asB ((dLen [Fg]).bind λx=>dLt Fq x)) λb=>if b=true then lB (dIx Fg Fq) .rt else .nx ()) λ_ =>
 lS (lB (σ:=Unit) (asB (dEq Fg (.lst []))) λb1=>if b1=true then .rt (.int 0) else .nx ()) λ_ =>
 lB (((((dLen [Fg]).bind λx1=>dMod Fq x1).bind λx2=>dIx Fg x2).bind λx3=>dMul x3 (.int 31)).bind λx4=>dAdd x4 Fq) .rt
def jo (t:KP)(Fg:D)(Fq:D)(Fp:D):L Unit :=
 lB ((((t F.aO [Fg,Fq]).bind λx=>((dAdd Fq (.int 1)).bind λx1=>dMul (.int 6151) x1).bind λx2=>dAdd x x2).bind λx3=>dMul x3 (.int 40692)).bind λx4=>dMod x4 (.int 2147483399)) λFJ =>
 lB ((((dMul FJ FJ).bind λx5=>(dDiv FJ (.int 31)).bind λx6=>dAdd x5 x6).bind λx7=>dMod x7 (.int 2147483629)).bind λx8=>dMod x8 Fp) .rt
def gA (t:KP)(Fg:D)(Fo:D)(Fv:D):L Unit :=
 lB (t F.ab [Fg,Fo,.int 6]) λFu =>
 lS (lB (σ:=Unit) (rOr (asB (dEq Fv (.int 0))) (asB (dLt Fu (.int 2)))) λb=>if b=true then lB ((((dAdd Fo (.int 1)).bind λx=>t F.ab [Fg,x,.int 10]).bind λx1=>.ok (.lst [.int 0,.int 1,.int 1,.int 2,.int 9,x1])).bind λx2=>((dAdd Fo (.int 2)).bind λx3=>t F.ab [Fg,x3,.int 6]).bind λx4=>dIx x2 x4) .rt else .nx ()) λ_ =>
 lS (lB (σ:=Unit) (asB (dEq Fu (.int 2))) λb1=>if b1=true then lB ((((dAdd Fo (.int 3)).bind λx5=>(dSub Fv (.int 1)).bind λx6=>t F.au [Fg,x5,x6]).bind λx7=>.ok (.tup [x7])).bind λx8=>dMul x8 (.int 4)) .rt else .nx ()) λ_ =>
 lB (((rng1 [.int 4]).bind λxs=>cMap (λFq=>(((dMul (.int 5) Fo).bind λx9=>dAdd x9 (.int 7)).bind λx10=>(dMul (.int 11) Fq).bind λx11=>dAdd x10 x11).bind λx12=>(dSub Fv (.int 1)).bind λx13=>t F.au [Fg,x12,x13]) xs).bind λx14=>dTuple [x14]) .rt
def o0 (t:KP)(Fl:D):L Unit :=
 lB ((dIsA (qEx esL 3) Fl).bind λx=>(dIsA (qEx esL 6) Fl).bind λx1=>(dIsA (qEx esL 7) Fl).bind λx2=>.ok [x,x1,x2]) λFR=>lB (((dIsA (qEx esL 11) Fl).bind λx3=>.ok (.lst [x3])).bind λx4=>oExt FR x4) λFw =>
 lB (((dIsA (qEx esL 8) Fl).bind λx5=>(dIsA (qEx esL 1) Fl).bind λx6=>(dIsA (qEx esL 5) Fl).bind λx7=>.ok (.lst [x5,x6,x7])).bind λx8=>dAdd (.lst Fw) x8) λFN =>
 lB (((dIsA (qEx esL 2) Fl).bind λx9=>(dIsA (qEx esL 10) Fl).bind λx10=>(dIsA (qEx esL 9) Fl).bind λx11=>.ok (.lst [x9,x10,x11])).bind λx12=>dAdd FN x12) λFP =>
 lB (((dIsA (qEx esL 4) Fl).bind λx13=>.ok (.lst [x13])).bind λx14=>dAdd FP x14) λFy =>
 lS (lB (σ:=Unit) (rOr (asB ((onL Fy λls=>dCount ls [(.bl true)]).bind λx15=>dNf x15 (.int 1))) (rNot (asB (dIsA (qVx esL) Fl)))) λb=>if b=true then .rt (.str "wrong") else .nx ()) λ_ =>
 lB (oExt [(.str "bad box"),(.str "no blocks"),(.str "no change"),(.str "no name"),(.str "no number"),(.str "no picture"),(.str "no rule")] (.lst [(.str "no spot"),(.str "no text")])) λFB =>
 lB ((dAdd (.lst FB) (.lst [(.str "nothing done"),(.str "unlike")])).bind λx16=>(onL Fy λls1=>dIndex ls1 [(.bl true)]).bind λx17=>dIx x16 x17) .rt
def jp (t:KP)(Fg:D)(Fo:D):L Unit :=
 lB ((t F.ab [Fg,Fo,.int 4]).bind λx=>dIx (.lst [(.str "a"),(.str "tu"),(.str "iklmn"),(.str "opqrs")]) x) λFk =>
 lB ((dAdd Fo (.int 1)).bind λx1=>t F.ab [Fg,x1,.int 8]) λFu =>
 lS (lB (σ:=Unit) (asB (dLt Fu (.int 3))) λb=>if b=true then lB (((dAdd Fo (.int 2)).bind λx2=>t F.ab [Fg,x2,.int 4]).bind λx3=>dIx (.lst [.int 1,.int 1,.int 2,.int 0]) x3) λFv =>
 lB ((((dAdd Fo (.int 10)).bind λx4=>t F.au [Fg,x4,Fv]).bind λx5=>.ok (.tup [Fv,x5])).bind λx6=>.ok (.tup [(.str "put"),Fk,x6])) .rt else .nx ()) λ_ =>
 lS (lB (σ:=Unit) (asB (dEq Fu (.int 3))) λb1=>if b1=true then .rt (.tup [(.str "take"),Fk]) else .nx ()) λ_ =>
 lS (lB (σ:=Unit) (asB (dEq Fu (.int 4))) λb2=>if b2=true then lB (((dAdd Fo (.int 3)).bind λx7=>t F.ab [Fg,x7,.int 9]).bind λx8=>.ok (.tup [(.str "move"),Fk,x8])) .rt else .nx ()) λ_ =>
 lB (((dAdd Fo (.int 4)).bind λx9=>t F.ab [Fg,x9,.int 11]).bind λx10=>dIx (.lst [(.str "first"),(.str "last"),(.str "first"),(.str "last"),(.str "least"),(.str "sum"),(.str "less"),(.str "same"),(.str "most"),(.str "greatest"),(.str "times")]) x10) λFV =>
 lB ((((dAdd Fo (.int 5)).bind λx11=>t F.ab [Fg,x11,.int 4]).bind λx12=>dIx (.lst [(.str "a"),(.str "tu"),(.str "iklmn"),(.str "opqrs")]) x12).bind λx13=>(((dAdd Fo (.int 6)).bind λx14=>t F.ab [Fg,x14,.int 4]).bind λx15=>dIx (.lst [(.str "a"),(.str "tu"),(.str "iklmn"),(.str "opqrs")]) x15).bind λx16=>.ok (.tup [(.str "join"),Fk,FV,x13,x16])) .rt
def pf:Nat->KP
 | 0,_=>λ_=>.stuck
 | n+1,i=>match i with
  | 20=>a1 (iV (pf n))
  | 21=>a1 (fu (pf n))
  | 22=>a1 (ib (pf n))
  | 23=>a3 (eY (pf n))
  | 24=>a2 (bD (pf n))
  | 25=>a1 (bN (pf n))
  | 26=>a1 (cF (pf n))
  | 105=>a1 (cm (pf n))
  | 27=>a1 (cO (pf n))
  | 28=>a1 (bE (pf n))
  | 29=>a1 (p9 (pf n))
  | 69=>a2 (bO (pf n))
  | 70=>a2 (lj (pf n))
  | 125=>a1 (jl (pf n))
  | 84=>a1 (fw (pf n))
  | 127=>a1 (cG (pf n))
  | 128=>a2 (gw (pf n))
  | 146=>a2 (ir (pf n))
  | 147=>a2 (jm (pf n))
  | 148=>a2 (iu (pf n))
  | 149=>a2 (eZ (pf n))
  | 150=>a2 (kM (pf n))
  | 151=>a2 (cn (pf n))
  | 152=>a2 (cP (pf n))
  | 153=>a2 (cQ (pf n))
  | 154=>a2 (cR (pf n))
  | 155=>a1 (cS (pf n))
  | 158=>a1 (bw (pf n))
  | 159=>a1 (aY (pf n))
  | 160=>a3 (bz (pf n))
  | 161=>a3 (gz (pf n))
  | 280=>a1 (kg (pf n))
  | 334=>a1 (cT (pf n))
  | 30=>a2 (jn (pf n))
  | 31=>a3 (jo (pf n))
  | 32=>a3 (gA (pf n))
  | 89=>a1 (o0 (pf n))
  | 265=>a2 (jp (pf n))
  | _=>λ_=>.stuck
theorem rK (n:Nat)(a0:D):pf (n+1) F.aE [a0]=outL (iV (pf n) a0):=rfl
theorem rN (n:Nat)(a0:D):pf (n+1) F.ay [a0]=outL (fu (pf n) a0):=rfl
theorem tW (n:Nat)(a0:D):pf (n+1) F.aI [a0]=outL (ib (pf n) a0):=rfl
theorem me (n:Nat)(a0 a1 a2:D):pf (n+1) F.aD [a0,a1,a2]=outL (eY (pf n) a0 a1 a2):=rfl
theorem kh (n:Nat)(a0 a1:D):pf (n+1) F.aB [a0,a1]=outL (bD (pf n) a0 a1):=rfl
theorem kX (n:Nat)(a0:D):pf (n+1) F.aw [a0]=outL (bN (pf n) a0):=rfl
theorem jq (n:Nat)(a0:D):pf (n+1) F.aA [a0]=outL (cF (pf n) a0):=rfl
theorem mf (n:Nat)(a0:D):pf (n+1) F.az [a0]=outL (cm (pf n) a0):=rfl
theorem nt (n:Nat)(a0:D):pf (n+1) F.aH [a0]=outL (cO (pf n) a0):=rfl
theorem ki (n:Nat)(a0:D):pf (n+1) F.an [a0]=outL (bE (pf n) a0):=rfl
theorem BK (n:Nat)(a0:D):pf (n+1) F.aC [a0]=outL (p9 (pf n) a0):=rfl
theorem iw (n:Nat)(a0 a1:D):pf (n+1) F.ax [a0,a1]=outL (bO (pf n) a0 a1):=rfl
theorem zf (n:Nat)(a0 a1:D):pf (n+1) F.aJ [a0,a1]=outL (lj (pf n) a0 a1):=rfl
theorem wI (n:Nat)(a0:D):pf (n+1) F.aN [a0]=outL (jl (pf n) a0):=rfl
theorem rP (n:Nat)(a0:D):pf (n+1) F.aK [a0]=outL (fw (pf n) a0):=rfl
theorem jr (n:Nat)(a0:D):pf (n+1) F.aF [a0]=outL (cG (pf n) a0):=rfl
theorem o5 (n:Nat)(a0 a1:D):pf (n+1) F.ah [a0,a1]=outL (gw (pf n) a0 a1):=rfl
theorem mh (n:Nat)(a0 a1:D):pf (n+1) F.ai [a0,a1]=outL (cn (pf n) a0 a1):=rfl
theorem nu (n:Nat)(a0 a1:D):pf (n+1) F.ak [a0,a1]=outL (cP (pf n) a0 a1):=rfl
theorem nv (n:Nat)(a0 a1:D):pf (n+1) F.al [a0,a1]=outL (cQ (pf n) a0 a1):=rfl
theorem ny (n:Nat)(a0 a1:D):pf (n+1) F.aL [a0,a1]=outL (cR (pf n) a0 a1):=rfl
theorem nC (n:Nat)(a0:D):pf (n+1) F.aa [a0]=outL (cS (pf n) a0):=rfl
theorem gC (n:Nat)(a0:D):pf (n+1) F.ar [a0]=outL (bw (pf n) a0):=rfl
theorem dL (n:Nat)(a0:D):pf (n+1) F.ag [a0]=outL (aY (pf n) a0):=rfl
theorem gD (n:Nat)(a0 a1 a2:D):pf (n+1) F.ae [a0,a1,a2]=outL (bz (pf n) a0 a1 a2):=rfl
theorem o6 (n:Nat)(a0 a1 a2:D):pf (n+1) F.ad [a0,a1,a2]=outL (gz (pf n) a0 a1 a2):=rfl
theorem nD (n:Nat)(a0:D):pf (n+1) F.ac [a0]=outL (cT (pf n) a0):=rfl
theorem wJ (n:Nat)(a0 a1:D):pf (n+1) F.aO [a0,a1]=outL (jn (pf n) a0 a1):=rfl
theorem wK (n:Nat)(a0 a1 a2:D):pf (n+1) F.ab [a0,a1,a2]=outL (jo (pf n) a0 a1 a2):=rfl
theorem o8 (n:Nat)(a0 a1 a2:D):pf (n+1) F.au [a0,a1,a2]=outL (gA (pf n) a0 a1 a2):=rfl
theorem wL (n:Nat)(a0 a1:D):pf (n+1) F.aM [a0,a1]=outL (jp (pf n) a0 a1):=rfl
namespace M
abbrev uqs:Nat:=1
abbrev uqp:Nat:=2
abbrev uqu:Nat:=3
abbrev uja:Nat:=4
abbrev ujm:Nat:=5
abbrev ujn:Nat:=6
abbrev ujr:Nat:=7
abbrev uqy:Nat:=8
abbrev uqz:Nat:=9
abbrev uqg:Nat:=10
abbrev uqm:Nat:=11
abbrev uqj:Nat:=12
abbrev uqa:Nat:=13
abbrev uqn:Nat:=14
abbrev uqe:Nat:=15
abbrev uqi:Nat:=16
abbrev uq0:Nat:=17
abbrev uqf:Nat:=18
abbrev uqw:Nat:=19
abbrev uqx:Nat:=20
abbrev ujs:Nat:=21
abbrev L_behind_w:Nat:=22
abbrev L_did_w:Nat:=23
abbrev L_all_of_w:Nat:=24
abbrev law_k83:Nat:=25
end M
def aw (t:KP)(rf:Wd->RW)(W:Wd):LW Unit :=
 lwTryR (qTk esL) (t F.aj) (lwB (rf W) λw d=>.rt w d)
abbrev KN:=Nat->KQ
abbrev KO:=Nat->KR
def cU (t:KP)(tr:KN)(tw:KO)(W:Wd)(self:D)(first:D):LW Unit :=
 lwB (rwR W (.ok (.lst [first]))) λw d=>wFld 12 w "pages" self d λw1 =>
 lwB (rwR w1 (.ok (.int 0))) λw2 d1=>wFld 12 w2 "place" self d1 λw3 =>
 .nx w3 ()
def cW (t:KP)(tr:KN)(W:Wd)(self:D):L Unit :=
 lB ((dFld 12 W "pages" self).bind λx=>(dFld 12 W "place" self).bind λx1=>dIx x x1) .rt
def cq (t:KP)(tr:KN)(tw:KO)(W:Wd)(self:D)(page:D):LW Unit :=
 lwB (rwR W ((dFld 12 W "place" self).bind λx=>dAdd x (.int 1))) λw d=>wFld 12 w "place" self d λw1 =>
 lwB (rwR w1 (((dFld 12 w1 "pages" self).bind λx1=>((dFld 12 w1 "place" self).bind asI).bind λi=>dSwL x1 none i).bind λx2=>dAdd x2 (.lst [page]))) λw2 d1=>wFld 12 w2 "pages" self d1 λw3 =>
 .nx w3 ()
def bP (t:KP)(tr:KN)(tw:KO)(W:Wd)(self:D):LW Unit :=
 lwS (lwT (σ:=Unit) (rwR W (((asB ((dFld 12 W "place" self).bind λx=>dEq x (.int 0)))).bind λt=>.ok (.bl t))) (λw=>.er w 9) (λw1=>.nx w1 ())) λw2 _ =>
 lwR w2 (rM 12 "here" w2 self (tr M.uqp w2 [self])) λleft =>
 lwB (rwR w2 ((dFld 12 w2 "place" self).bind λx1=>dSub x1 (.int 1))) λw3 d=>wFld 12 w3 "place" self d λw4 =>
 .rt w4 left
def cr (t:KP)(tr:KN)(tw:KO)(W:Wd)(self:D):LW Unit :=
 lwS (lwT (σ:=Unit) (rwR W (((asB ((dFld 12 W "place" self).bind λx=>(((dFld 12 W "pages" self).bind λx1=>dLen [x1]).bind λx2=>dSub x2 (.int 1)).bind λx3=>dEq x x3))).bind λt=>.ok (.bl t))) (λw=>.er w 9) (λw1=>.nx w1 ())) λw2 _ =>
 lwB (rwR w2 ((dFld 12 w2 "place" self).bind λx4=>dAdd x4 (.int 1))) λw3 d=>wFld 12 w3 "place" self d λw4 =>
 lwR w4 (rM 12 "here" w4 self (tr M.uqp w4 [self])) λd=>.rt w4 d
def cu (t:KP)(tr:KN)(W:Wd)(self:D):L Unit :=
 lB ((dFld 12 W "place" self).bind λx=>((((dFld 12 W "pages" self).bind λx1=>dLen [x1]).bind λx2=>dSub x2 (.int 1)).bind λx3=>(dFld 12 W "place" self).bind λx4=>dSub x3 x4).bind λx5=>.ok (.tup [x,x5])) .rt
def cX (t:KP)(tr:KN)(tw:KO)(W:Wd)(self:D):LW Unit :=
 lwB (rwA W (rL [(.ok .non)]) (rwNew 12 W (tw M.uqs))) λw Ih =>
 lwB (rwR w ((dFld 12 w "pages" self).bind λx=>dList [x])) λw1 d=>wFld 12 w1 "pages" Ih d λw2 =>
 lwB (rwR w2 (dFld 12 w2 "place" self)) λw3 d1=>wFld 12 w3 "place" Ih d1 λw4 =>
 .rt w4 Ih
def cY (t:KP)(tr:KN)(tw:KO)(W:Wd)(self:D):LW Unit :=
 lwB (rwA W (.ok self) λo=>rwM 13 "begin" W o (rwA W (rL [(.ok (.dic [] []))]) λds=>tw M.uqz W (o::ds))) λw _ =>
 .nx w ()
def cw (t:KP)(tr:KN)(tw:KO)(W:Wd)(self:D)(KD:D):LW Unit :=
 lwB (rwA W (rL [(.ok (.tup [(.str ""),KD]))]) (rwNew 12 W (tw M.uqs))) λw d=>wFld 13 w "steps" self d λw1 =>
 .nx w1 ()
def bo (t:KP)(tr:KN)(W:Wd)(self:D):L Unit :=
 lB (((dFld 13 W "steps" self).bind λx=>rM 12 "here" W x (tr M.uqp W [x])).bind λx1=>dIx x1 (.int 1)) .rt
def cx (t:KP)(tr:KN)(tw:KO)(W:Wd)(self:D)(word:D)(name:D)(Ig:D):LW Unit :=
 lwR W ((rM 13 "pictures" W self (tr M.uqg W [self])).bind λx=>dicOf x) λKD =>
 lwR W (oDSt KD name Ig) λK9 =>
 lwB (rwA W (dFld 13 W "steps" self) λo=>rwM 12 "go_on" W o (rwA W (rL [(.ok (.tup [word,(dicD K9)]))]) λds=>tw M.uqu W (o::ds))) λw _ =>
 .nx w ()
def dM (t:KP)(tr:KN)(tw:KO)(W:Wd)(self:D)(name:D)(Ig:D):LW Unit :=
 lwR W (t F.aC [Ig]) λKk =>
 lwB (rwR W (t F.ac [name])) λw _ =>
 lwR w ((rM 13 "pictures" w self (tr M.uqg w [self])).bind λx=>dDin name x) λhad =>
 lwB (rwA w (.ok self) λo=>rwM 13 "go_on" w o (rwA w (rL [(.ok (.str "put")),(.ok name),(.ok Kk)]) λds=>tw M.uqm w (o::ds))) λw1 _ =>
 .rt w1 had
def aJ (t:KP)(tr:KN)(W:Wd)(self:D)(name:D):L Unit :=
 lS (lB (σ:=Unit) (rOr (rNot (asB (t F.aG [name]))) (asB ((rM 13 "pictures" W self (tr M.uqg W [self])).bind λx=>dDnin name x))) λb=>if b=true then .er 11 else .nx ()) λ_ =>
 lB ((rM 13 "pictures" W self (tr M.uqg W [self])).bind λx1=>dDx x1 name) .rt
def bQ (t:KP)(tr:KN)(tw:KO)(W:Wd)(self:D)(name:D):LW Unit :=
 lwR W (rM 13 "picture_of" W self ((rL [(.ok name)]).bind λds=>tr M.uqa W (self::ds))) λKk =>
 lwR W ((rM 13 "pictures" W self (tr M.uqg W [self])).bind λx=>dicOf x) λKD =>
 lwR W (oDPop KD name) λK9 =>
 lwB (rwA W (dFld 13 W "steps" self) λo=>rwM 12 "go_on" W o (rwA W (rL [(.ok (.tup [(.str "take"),(dicD K9)]))]) λds=>tw M.uqu W (o::ds))) λw _ =>
 .rt w Kk
def bR (t:KP)(tr:KN)(tw:KO)(W:Wd)(self:D)(name:D)(rule:D)(one:D)(Ih:D):LW Unit :=
 lwB (rwR W (t F.aa [rule])) λw _ =>
 lwB (rwR w (t F.ac [name])) λw1 _ =>
 lwR w1 ((rM 13 "picture_of" w1 self ((rL [(.ok one)]).bind λds=>tr M.uqa w1 (self::ds))).bind λx=>(rM 13 "picture_of" w1 self ((rL [(.ok Ih)]).bind λds1=>tr M.uqa w1 (self::ds1))).bind λx1=>t F.ad [rule,x,x1]) λKk =>
 lwB (rwA w1 (.ok self) λo=>rwM 13 "go_on" w1 o (rwA w1 (rL [(.ok (.str "join")),(.ok name),(.ok Kk)]) λds=>tw M.uqm w1 (o::ds))) λw2 _ =>
 .rt w2 Kk
def bp (t:KP)(tr:KN)(tw:KO)(W:Wd)(self:D)(name:D)(way:D):LW Unit :=
 lwR W ((rM 13 "picture_of" W self ((rL [(.ok name)]).bind λds=>tr M.uqa W (self::ds))).bind λx=>t F.ah [x,way]) λKk =>
 lwB (rwA W (.ok self) λo=>rwM 13 "go_on" W o (rwA W (rL [(.ok (.str "move")),(.ok name),(.ok Kk)]) λds=>tw M.uqm W (o::ds))) λw _ =>
 .rt w Kk
def cy (t:KP)(tr:KN)(W:Wd)(self:D):L Unit :=
 lB ((rM 13 "pictures" W self (tr M.uqg W [self])).bind λx=>dSortD [x]) .rt
def bS (t:KP)(tr:KN)(tw:KO)(W:Wd)(self:D):LW Unit :=
 lwB (rwB (rwA W (dFld 13 W "steps" self) λo=>rwM 12 "back" W o (tw M.uja W [o])) λw d=>rwA w (.ok (.int 0)) λy=>rwR w (dIx d y)) λw d=>.rt w d
def cz (t:KP)(tr:KN)(tw:KO)(W:Wd)(self:D):LW Unit :=
 lwB (rwB (rwA W (dFld 13 W "steps" self) λo=>rwM 12 "forth" W o (tw M.ujm W [o])) λw d=>rwA w (.ok (.int 0)) λy=>rwR w (dIx d y)) λw d=>.rt w d
def cA (t:KP)(tr:KN)(W:Wd)(self:D):L Unit :=
 lB ((dFld 13 W "steps" self).bind λx=>rM 12 "marks" W x (tr M.ujn W [x])) .rt
def cZ (t:KP)(tr:KN)(tw:KO)(W:Wd)(self:D):LW Unit :=
 lwB (rwNew 13 W (tw M.uqy) []) λw Ih =>
 lwB (rwA w (dFld 13 w "steps" self) λo=>rwM 12 "twin" w o (tw M.ujr w [o])) λw1 d=>wFld 13 w1 "steps" Ih d λw2 =>
 .rt w2 Ih
def aB (t:KP)(tr:KN)(tw:KO)(W:Wd)(Fj:D)(Ff:D):LW Unit :=
 lwR W (((asKeys Fj).bind λxs=>cFil (λFk=>(asB ((dIx Ff (.int 1)).bind λx1=>dNf Fk x1))) (λFk=>(dDx Fj Fk).bind λx=>.ok (.tup [Fk,x])) xs).bind λx2=>dDictP [x2]) λFC =>
 lwS (lwT (σ:=Unit) (rwR W (((asB ((dIx Ff (.int 0)).bind λx3=>dEq x3 (.str "put")))).bind λt=>.ok (.bl t))) (λw=>lwR w ((((dItems FC).bind λx4=>(((dIx Ff (.int 1)).bind λx5=>((dIx Ff (.int 2)).bind λx6=>t F.aC [x6]).bind λx7=>.ok (.tup [x5,x7])).bind λx8=>.ok (.lst [x8])).bind λx9=>dAdd x4 x9).bind λx10=>dDictP [x10]).bind λx11=>((dIx Ff (.int 1)).bind λx12=>dDin x12 Fj).bind λx13=>.ok (.tup [x11,x13])) λd=>.rt w d) (λw1=>.nx w1 ())) λw2 _ =>
 lwS (lwT (σ:=Unit) (rwR w2 (((rAnd (asB ((dIx Ff (.int 0)).bind λx15=>dEq x15 (.str "join"))) (asB ((dIx Ff (.int 2)).bind λx14=>dEq x14 (.str "most"))))).bind λt=>.ok (.bl t))) (λw3=>.rt w3 (.tup [Fj,(.str "no rule")])) (λw4=>.nx w4 ())) λw5 _ =>
 lwR w5 (rIf (asB ((dIx Ff (.int 0)).bind λx16=>dNf x16 (.str "join"))) ((dIx Ff (.int 1)).bind λx17=>.ok (.lst [x17])) ((dIx Ff (.int 3)).bind λx18=>(dIx Ff (.int 4)).bind λx19=>.ok (.lst [x18,x19]))) λFM =>
 lwS (lwT (σ:=Unit) (rwR w5 (((asB (((sq FM).bind λxs1=>cFil (λFi=>(asB (dDnin Fi Fj))) (λFi=>.ok Fi) xs1).bind λx20=>dNf x20 (.lst [])))).bind λt=>.ok (.bl t))) (λw6=>.rt w6 (.tup [Fj,(.str "no name")])) (λw7=>.nx w7 ())) λw8 _ =>
 lwS (lwT (σ:=Unit) (rwR w8 (((asB ((dIx Ff (.int 0)).bind λx21=>dEq x21 (.str "take")))).bind λt=>.ok (.bl t))) (λw9=>lwR w9 (((dIx Ff (.int 1)).bind λx22=>dDx Fj x22).bind λx23=>.ok (.tup [FC,x23])) λd=>.rt w9 d) (λw10=>.nx w10 ())) λw11 _ =>
 lwS (lwT (σ:=D) (rwR w11 (((asB ((dIx Ff (.int 0)).bind λx24=>dEq x24 (.str "move")))).bind λt=>.ok (.bl t))) (λw12=>lwB (outW (aw t (λw14=>rwR w14 (((dIx Ff (.int 1)).bind λx25=>dDx Fj x25).bind λx26=>(dIx Ff (.int 2)).bind λx27=>t F.ah [x26,x27])) w12)) λw15 FX =>
 .nx w15 FX) (λw13=>lwB (outW (aw t (λw16=>rwR w16 ((dIx Ff (.int 2)).bind λx28=>((dIx Ff (.int 3)).bind λx29=>dDx Fj x29).bind λx30=>((dIx Ff (.int 4)).bind λx31=>dDx Fj x31).bind λx32=>t F.ad [x28,x30,x32])) w13)) λw17 FU =>
 .nx w17 FU)) λw18 Ft =>
 lwS (lwT (σ:=Unit) (rwR w18 (((asB (dIsA qStr Ft))).bind λt=>.ok (.bl t))) (λw19=>.rt w19 (.tup [Fj,Ft])) (λw20=>.nx w20 ())) λw21 _ =>
 lwR w21 ((((dItems FC).bind λx33=>(((dIx Ff (.int 1)).bind λx34=>.ok (.tup [x34,Ft])).bind λx35=>.ok (.lst [x35])).bind λx36=>dAdd x33 x36).bind λx37=>dDictP [x37]).bind λx38=>.ok (.tup [x38,Ft])) λd=>.rt w21 d
def b9 (t:KP)(tr:KN)(tw:KO)(W:Wd)(Fh:D)(Ff:D):LW Unit :=
 lwS (lwT (σ:=Unit) (rwR W (((asB ((dIx Ff (.int 0)).bind λx=>dInD x (.tup [(.str "put"),(.str "take")])))).bind λt=>.ok (.bl t))) (λw=>lwB (outW (aw t (λw2=>rwA w2 (asB ((dIx Ff (.int 0)).bind λx1=>dEq x1 (.str "put"))) λt1=>if t1=true then rwA w2 (.ok Fh) λo=>rwM 13 "put" w2 o (rwA w2 (rL [(dIx Ff (.int 1)),(dIx Ff (.int 2))]) λds=>tw M.uqj w2 (o::ds)) else rwA w2 (.ok Fh) λo1=>rwM 13 "take" w2 o1 (rwA w2 (rL [(dIx Ff (.int 1))]) λds=>tw M.uqn w2 (o1::ds))) w)) λw d=>.rt w d) (λw1=>.nx w1 ())) λw3 _ =>
 lwS (lwT (σ:=Unit) (rwR w3 (((asB ((dIx Ff (.int 0)).bind λx2=>dEq x2 (.str "move")))).bind λt=>.ok (.bl t))) (λw4=>lwB (outW (aw t (λw6=>rwA w6 (.ok Fh) λo2=>rwM 13 "move" w6 o2 (rwA w6 (rL [(dIx Ff (.int 1)),(dIx Ff (.int 2))]) λds=>tw M.uqi w6 (o2::ds))) w4)) λw d=>.rt w d) (λw5=>.nx w5 ())) λw7 _ =>
 lwB (outW (aw t (λw8=>rwA w8 (.ok Fh) λo3=>rwM 13 "join" w8 o3 (rwA w8 (rL [(dIx Ff (.int 1)),(dIx Ff (.int 2)),(dIx Ff (.int 3)),(dIx Ff (.int 4))]) λds=>tw M.uqe w8 (o3::ds))) w7)) λw d=>.rt w d
def c6 (t:KP)(tr:KN)(tw:KO)(W:Wd)(Fh:D):LW Unit :=
 lwR W ((((rM 13 "names" W Fh (tr M.uq0 W [Fh])).bind λx=>sq x).bind λxs=>cMap (λFk=>(rM 13 "picture_of" W Fh ((rL [(.ok Fk)]).bind λds=>tr M.uqa W (Fh::ds))).bind λx1=>.ok (.tup [Fk,x1])) xs).bind λx2=>dDictP [x2]) λd=>.rt W d
def bq (t:KP)(tr:KN)(tw:KO)(Fg:D)(Fh:D)(W:Wd)(s:D)(Fq:D):LW (D) :=
 lwR W (((dMul (.int 300) Fq).bind λx=>dAdd (.int 1000) x).bind λx1=>t F.aM [Fg,x1]) λFf =>
 lwB (rwA W (rL [(dIx s (.int (-1))),(.ok Ff)]) (tw M.L_behind_w W)) λw d=>lwUn2 d λFj FK =>
 lwB (rwA w (rL [(.ok Fh),(.ok Ff)]) (tw M.L_did_w w)) λw1 _ =>
 lwR w1 ((((vNot (dIsA qStr FK)).bind λx2=>dIntB [x2]).bind λx3=>dMul (.lst [Fj]) x3).bind λx4=>dAdd s x4) λFs =>
 .nx w1 Fs
def a7 (t:KP)(tr:KN)(tw:KO)(Fs:D)(Fn:D)(W:Wd)(Fq:D):LW Unit :=
 lwB (rwA W (.ok Fn) λo=>rwM 13 "forth" W o (tw M.uqw W [o])) λw _ =>
 lwT (rwB (rwA w (rL [(.ok Fn)]) (tw M.L_all_of_w w)) λw1 d=>rwA w1 ((dNeg Fq).bind λx=>dIx Fs x) λy=>rwR w1 (dDNe d y)) (λw2=>.rt w2 (.bl false)) (λw3=>.nx w3 ())
def br (t:KP)(tr:KN)(tw:KO)(Fg:D)(Fn:D)(Fo:D)(W:Wd)(s:D×D)(Fq:D):LW (D×D) :=
 lwR W (((dMul (.int 300) Fq).bind λx=>dAdd Fo x).bind λx1=>t F.aM [Fg,x1]) λFf =>
 lwB (rwA W (rL [(.ok s.1),(.ok Ff)]) (tw M.L_behind_w W)) λw d=>lwUn2 d λFH FK =>
 lwS (lwT (σ:=Unit) (rwB (rwA w (rL [(.ok Fn),(.ok Ff)]) (tw M.L_did_w w)) λw1 d1=>rwA w1 (.ok FK) λy=>rwR w1 (dNf d1 y)) (λw2=>.rt w2 (.bl false)) (λw3=>.nx w3 ())) λw4 _ =>
 lwR w4 (((vNot (dIsA qStr FK)).bind λx2=>dIntB [x2]).bind λx3=>dAdd s.2 x3) λFz =>
 .nx w4 (FH,Fz)
def bU (t:KP)(tr:KN)(tw:KO)(Fn:D)(W:Wd)(Fq:D):LW Unit :=
 lwB (rwA W (.ok Fn) λo=>rwM 13 "back" W o (tw M.uqf W [o])) λw _ =>
 .nx w ()
def bV (t:KP)(tr:KN)(tw:KO)(Fn:D)(W:Wd)(Fq:D):LW Unit :=
 lwB (rwA W (.ok Fn) λo=>rwM 13 "forth" W o (tw M.uqw W [o])) λw _ =>
 .nx w ()
def a8 (t:KP)(tr:KN)(tw:KO)(Fg:D)(Fs:D)(Fp:D)(W:Wd)(Fn Fo:D):LW Unit :=
 lwS (lwR W (sq (.tup [.int 2,.int 1])) λxs=>lwFor (τ:=Unit) (λW _ x=>a7 t tr tw Fs Fn W x) xs W ()) λw5 _ =>
 lwR w5 (dIx Fs (.int (-1))) λFH =>
 lwR w5 (.ok Fp) λFz =>
 lwS (lwR w5 (rng1 [.int 3]) λxs=>lwFor (τ:=D×D) (λW s x=>br t tr tw Fg Fn Fo W s x) xs w5 (FH,Fz)) λw12 s2 =>
 lwS (lwR w12 (rng1 [s2.2]) λxs=>lwFor (τ:=Unit) (λW _ x=>bU t tr tw Fn W x) xs w12 ()) λw15 _ =>
 lwS (lwT (σ:=Unit) (rwOr (rwB (rwA w15 (rL [(.ok Fn)]) (tw M.L_all_of_w w15)) λw16 d3=>rwA w16 (.ok (.dic [] [])) λy2=>rwR w16 (dDNe d3 y2)) λw17=>rwB (outW (aw t (λw18=>rwA w18 (.ok Fn) λo2=>rwM 13 "back" w18 o2 (tw M.uqf w18 [o2])) w17)) λw19 d4=>rwA w19 (.ok (.str "nothing done")) λy3=>rwR w19 (dNf d4 y3)) (λw20=>.rt w20 (.bl false)) (λw21=>.nx w21 ())) λw22 _ =>
 lwS (lwR w22 (rng1 [s2.2]) λxs=>lwFor (τ:=Unit) (λW _ x=>bV t tr tw Fn W x) xs w22 ()) λw25 _ =>
 lwT (rwOr (rwB (rwA w25 (rL [(.ok Fn)]) (tw M.L_all_of_w w25)) λw26 d5=>rwA w26 (.ok s2.1) λy4=>rwR w26 (dDNe d5 y4)) λw27=>rwR w27 (((asB ((rM 13 "marks" w27 Fn (tr M.uqx w27 [Fn])).bind λx9=>dNf x9 (.tup [s2.2,.int 0])))).bind λt=>.ok (.bl t))) (λw28=>.rt w28 (.bl false)) (λw29=>.nx w29 ())
def ic (t:KP)(tr:KN)(tw:KO)(W:Wd)(Fg:D):LW Unit :=
 lwB (rwNew 13 W (tw M.uqy) []) λw Fh=>lwR w (.ok (.lst [(.dic [] []),(dicD (dicMk [.inr "a"] [(.tup [.int 0,.int 1])])),(dicD (dicMk [.inr "a",.inr "b"] [(.tup [.int 0,.int 1]),(.tup [.int 1,(.tup [.int 1,.int 2,.int 3,.int 4])])]))])) λFs =>
 lwB (rwA w (.ok Fh) λo=>rwM 13 "put" w o (rwA w (rL [(.ok (.str "a")),(.ok (.tup [.int 0,.int 1]))]) λds=>tw M.uqj w (o::ds))) λw1 _ =>
 lwB (rwA w1 (.ok Fh) λo1=>rwM 13 "put" w1 o1 (rwA w1 (rL [(.ok (.str "b")),(.ok (.tup [.int 1,(.tup [.int 1,.int 2,.int 3,.int 4])]))]) λds=>tw M.uqj w1 (o1::ds))) λw2 _ =>
 lwS (lwR w2 (rng1 [.int 8]) λxs=>lwFor (τ:=D) (λW s x=>bq t tr tw Fg Fh W s x) xs w2 Fs) λw6 s1 =>
 lwR w6 ((dLen [s1]).bind λx6=>dSub x6 (.int 1)) λFp =>
 lwB (rwA w6 (.ok Fh) λo2=>rwM 13 "back" w6 o2 (tw M.uqf w6 [o2])) λw7 _ =>
 lwB (rwA w7 (.ok Fh) λo3=>rwM 13 "back" w7 o3 (tw M.uqf w7 [o3])) λw8 _ =>
 lwB (rwA w8 (.ok Fh) λo4=>rwM 13 "twin" w8 o4 (tw M.ujs w8 [o4])) λw9 Fm =>
 lwS (lwT (σ:=Unit) (rwOr (rwR w9 (((asB ((rM 13 "marks" w9 Fm (tr M.uqx w9 [Fm])).bind λx7=>((dSub Fp (.int 2)).bind λx8=>.ok (.tup [x8,.int 2])).bind λx9=>dNf x7 x9))).bind λt=>.ok (.bl t))) λw10=>rwB (rwA w10 (rL [(.ok Fm)]) (tw M.L_all_of_w w10)) λw11 d1=>rwA w11 (dIx s1 (.int (-3))) λy=>rwR w11 (dDNe d1 y)) (λw12=>.rt w12 (.bl false)) (λw13=>.nx w13 ())) λw14 _ =>
 lwS (lwR w14 ((rIf (asB ((t F.ab [Fg,.int 5,.int 2]).bind λx10=>dEq x10 (.int 0))) (.ok (.lst [(.tup [Fh,.int 5000]),(.tup [Fm,.int 7000])])) (dRev2 (.lst [(.tup [Fh,.int 5000]),(.tup [Fm,.int 7000])]))).bind λx11=>sq x11) λxs=>lwFor (τ:=Unit) (λW _ p=>lwUn2 p λx y=>a8 t tr tw Fg s1 Fp W x y) xs w14 ()) λw46 _ =>
 .rt w46 (.bl true)
def pr:Nat->KN
 | 0,_=>λ_ _=>.stuck
 | n+1,i=>match i with
  | 2=>r1 (cW (pf n) (pr n))
  | 6=>r1 (cu (pf n) (pr n))
  | 10=>r1 (bo (pf n) (pr n))
  | 13=>r2 (aJ (pf n) (pr n))
  | 17=>r1 (cy (pf n) (pr n))
  | 20=>r1 (cA (pf n) (pr n))
  | _=>λ_ _=>.stuck
def pw:Nat->KO
 | 0,_=>λ_ _=>.stuck
 | n+1,i=>match i with
  | 1=>b2 (cU (pf n) (pr n) (pw n))
  | 3=>b2 (cq (pf n) (pr n) (pw n))
  | 4=>b1 (bP (pf n) (pr n) (pw n))
  | 5=>b1 (cr (pf n) (pr n) (pw n))
  | 7=>b1 (cX (pf n) (pr n) (pw n))
  | 8=>b1 (cY (pf n) (pr n) (pw n))
  | 9=>b2 (cw (pf n) (pr n) (pw n))
  | 11=>b4 (cx (pf n) (pr n) (pw n))
  | 12=>b3 (dM (pf n) (pr n) (pw n))
  | 14=>b2 (bQ (pf n) (pr n) (pw n))
  | 15=>b5 (bR (pf n) (pr n) (pw n))
  | 16=>b3 (bp (pf n) (pr n) (pw n))
  | 18=>b1 (bS (pf n) (pr n) (pw n))
  | 19=>b1 (cz (pf n) (pr n) (pw n))
  | 21=>b1 (cZ (pf n) (pr n) (pw n))
  | 22=>match n with
   | m+2=>b2 (aB (pf m) (pr m) (pw m))
   | _=>λ_ _=>.stuck
  | 23=>match n with
   | m+2=>b2 (b9 (pf m) (pr m) (pw m))
   | _=>λ_ _=>.stuck
  | 24=>b1 (c6 (pf n) (pr n) (pw n))
  | 25=>match n with
   | m+2=>b1 (ic (pf m) (pr m) (pw m))
   | _=>λ_ _=>.stuck
  | _=>λ_ _=>.stuck
theorem nE (n:Nat)(W:Wd)(a0 a1:D):pw (n+1) M.uqs W [a0,a1]=outW (cU (pf n) (pr n) (pw n) W a0 a1):=rfl
theorem nF (n:Nat)(W:Wd)(a0:D):pr (n+1) M.uqp W [a0]=outL (cW (pf n) (pr n) W a0):=rfl
theorem mi (n:Nat)(W:Wd)(a0 a1:D):pw (n+1) M.uqu W [a0,a1]=outW (cq (pf n) (pr n) (pw n) W a0 a1):=rfl
theorem iy (n:Nat)(W:Wd)(a0:D):pw (n+1) M.uja W [a0]=outW (bP (pf n) (pr n) (pw n) W a0):=rfl
theorem mj (n:Nat)(W:Wd)(a0:D):pw (n+1) M.ujm W [a0]=outW (cr (pf n) (pr n) (pw n) W a0):=rfl
theorem ml (n:Nat)(W:Wd)(a0:D):pr (n+1) M.ujn W [a0]=outL (cu (pf n) (pr n) W a0):=rfl
theorem nG (n:Nat)(W:Wd)(a0:D):pw (n+1) M.ujr W [a0]=outW (cX (pf n) (pr n) (pw n) W a0):=rfl
theorem nH (n:Nat)(W:Wd)(a0:D):pw (n+1) M.uqy W [a0]=outW (cY (pf n) (pr n) (pw n) W a0):=rfl
theorem mm (n:Nat)(W:Wd)(a0 a1:D):pw (n+1) M.uqz W [a0,a1]=outW (cw (pf n) (pr n) (pw n) W a0 a1):=rfl
theorem jt (n:Nat)(W:Wd)(a0:D):pr (n+1) M.uqg W [a0]=outL (bo (pf n) (pr n) W a0):=rfl
theorem mn (n:Nat)(W:Wd)(a0 a1 a2 a3:D):pw (n+1) M.uqm W [a0,a1,a2,a3]=outW (cx (pf n) (pr n) (pw n) W a0 a1 a2 a3):=rfl
theorem qd (n:Nat)(W:Wd)(a0 a1 a2:D):pw (n+1) M.uqj W [a0,a1,a2]=outW (dM (pf n) (pr n) (pw n) W a0 a1 a2):=rfl
theorem cK (n:Nat)(W:Wd)(a0 a1:D):pr (n+1) M.uqa W [a0,a1]=outL (aJ (pf n) (pr n) W a0 a1):=rfl
theorem iz (n:Nat)(W:Wd)(a0 a1:D):pw (n+1) M.uqn W [a0,a1]=outW (bQ (pf n) (pr n) (pw n) W a0 a1):=rfl
theorem iA (n:Nat)(W:Wd)(a0 a1 a2 a3 a4:D):pw (n+1) M.uqe W [a0,a1,a2,a3,a4]=outW (bR (pf n) (pr n) (pw n) W a0 a1 a2 a3 a4):=rfl
theorem dU (n:Nat)(W:Wd)(a0 a1 a2:D):pw (n+1) M.uqi W [a0,a1,a2]=outW (bp (pf n) (pr n) (pw n) W a0 a1 a2):=rfl
theorem mo (n:Nat)(W:Wd)(a0:D):pr (n+1) M.uq0 W [a0]=outL (cy (pf n) (pr n) W a0):=rfl
theorem iB (n:Nat)(W:Wd)(a0:D):pw (n+1) M.uqf W [a0]=outW (bS (pf n) (pr n) (pw n) W a0):=rfl
theorem mq (n:Nat)(W:Wd)(a0:D):pw (n+1) M.uqw W [a0]=outW (cz (pf n) (pr n) (pw n) W a0):=rfl
theorem mr (n:Nat)(W:Wd)(a0:D):pr (n+1) M.uqx W [a0]=outL (cA (pf n) (pr n) W a0):=rfl
theorem nI (n:Nat)(W:Wd)(a0:D):pw (n+1) M.ujs W [a0]=outW (cZ (pf n) (pr n) (pw n) W a0):=rfl
theorem aU (n:Nat)(W:Wd)(a0 a1:D):pw (n+3) M.L_behind_w W [a0,a1]=outW (aB (pf n) (pr n) (pw n) W a0 a1):=rfl
theorem fA (n:Nat)(W:Wd)(a0 a1:D):pw (n+3) M.L_did_w W [a0,a1]=outW (b9 (pf n) (pr n) (pw n) W a0 a1):=rfl
theorem nJ (n:Nat)(W:Wd)(a0:D):pw (n+1) M.L_all_of_w W [a0]=outW (c6 (pf n) (pr n) (pw n) W a0):=rfl
theorem tX (n:Nat)(W:Wd)(a0:D):pw (n+3) M.law_k83 W [a0]=outW (ic (pf n) (pr n) (pw n) W a0):=rfl
end Lw
end
noncomputable section
set_option maxHeartbeats 4000000
namespace Lw
open PySem PySem.Spec PyProof.Rows L2 FF
variable {P:Program}{w:World}{K:Frag}{mg:KW}{base:Heap}{C:La}{k:Nat}{t:Nat->List FF.D->FF.R FF.D}
def top (i:Nat):Stmt:=PySem.Challenge.pw_fourfold_k83_whole_album_twins.main.body.getD i (.Pass ⟨0,0,0,0⟩)
abbrev iW:Stmt:=top 17
theorem rQ:FnScope ["thing"] ["thing"] (defScope iW):=mkSc
abbrev iX:Stmt:=top 18
theorem rR:FnScope ["thing"] ["thing"] (defScope iX):=mkSc
abbrev kj:Stmt:=top 19
theorem tY:FnScope ["thing"] ["thing"] (defScope kj):=mkSc
abbrev kl:Stmt:=top 20
theorem tZ:FnScope ["size","thing","is_end"] ["size","thing","is_end"] (defScope kl):=mkSc
abbrev cI:Stmt:=top 21
theorem kn:FnScope ["thing","is_end"] ["thing","is_end"] (defScope cI):=mkSc
abbrev dh:Stmt:=top 22
theorem fZ:FnScope ["four","first"] ["four"] (defScope dh):=mkSc
abbrev gE:Stmt:=top 23
theorem qf:FnScope ["tree"] ["tree"] (defScope gE):=mkSc
abbrev dW:Stmt:=top 24
theorem ms:FnScope ["tree"] ["tree"] (defScope dW):=mkSc
abbrev fB:Stmt:=top 26
theorem nK:FnScope ["thing"] ["thing"] (defScope fB):=mkSc
abbrev cJ:Stmt:=top 27
theorem ko:FnScope ["thing"] ["thing"] (defScope cJ):=mkSc
abbrev t0:Stmt:=top 28
theorem BL:FnScope ["picture"] ["picture"] (defScope t0):=mkSc
abbrev fC:Stmt:=top 34
theorem nM:FnScope ["tree","order"] ["tree","order"] (defScope fC):=mkSc
abbrev qh:Stmt:=top 35
theorem rS:FnScope ["picture","order","shown"] ["picture","order"] (defScope qh):=mkSc
abbrev mt:Stmt:=top 36
theorem wM:FnScope ["picture"] ["picture"] (defScope mt):=mkSc
abbrev iY:Stmt:=top 37
theorem rT:FnScope ["picture"] ["picture"] (defScope iY):=mkSc
abbrev gF:Stmt:=top 38
theorem qi:FnScope ["thing"] ["thing"] (defScope gF):=mkSc
abbrev mw:Stmt:=top 39
theorem e9:FnScope ["picture","way","told","step"] ["picture","way"] (defScope mw):=mkSc
abbrev dX:Stmt:=top 43
theorem mx:FnScope ["one","other"] ["one","other"] (defScope dX):=mkSc
abbrev fD:Stmt:=top 44
theorem nN:FnScope ["one","other"] ["one","other"] (defScope fD):=mkSc
abbrev dY:Stmt:=top 45
theorem my:FnScope ["one","other"] ["one","other"] (defScope dY):=mkSc
abbrev cc:Stmt:=top 46
theorem ju:FnScope ["one","other"] ["one","other"] (defScope cc):=mkSc
abbrev gG:Stmt:=top 47
theorem qj:FnScope ["one","other"] ["one","other"] (defScope gG):=mkSc
abbrev dZ:Stmt:=top 48
theorem mz:FnScope ["one","other"] ["one","other"] (defScope dZ):=mkSc
abbrev fE:Stmt:=top 49
theorem nO:FnScope ["one","other"] ["one","other"] (defScope fE):=mkSc
abbrev fF:Stmt:=top 50
theorem nQ:FnScope ["one","other"] ["one","other"] (defScope fF):=mkSc
abbrev fG:Stmt:=top 52
theorem nR:FnScope ["thing","words"] ["thing","words"] (defScope fG):=mkSc
abbrev fH:Stmt:=top 53
theorem nS:FnScope ["thing"] ["thing"] (defScope fH):=mkSc
abbrev d0:Stmt:=top 54
theorem gH:FnScope ["things","thing"] ["things"] (defScope d0):=mkSc
abbrev ce:Stmt:=top 55
theorem dN:FnScope ["pictures","picture"] ["pictures"] (defScope ce):=mkSc
abbrev d6:Stmt:=top 56
theorem gI:FnScope ["make","one","other","couples"] ["make","one","other"] (defScope d6):=mkSc
abbrev mB:Stmt:=top 57
theorem wN:FnScope ["rule","one","other"] ["rule","one","other"] (defScope mB):=mkSc
abbrev kq:Stmt:=top 61
theorem t4:FnScope ["thing"] ["thing"] (defScope kq):=mkSc
abbrev fI:Stmt:=top 62
theorem nT:FnScope ["thing"] ["thing"] (defScope fI):=mkSc
abbrev mC:Stmt:=top 65
theorem wO:FnScope ["_law_script","_law_k"] ["_law_script","_law_k"] (defScope mC):=mkSc
abbrev mD:Stmt:=top 66
theorem o9:FnScope ["_law_script","_law_k","_law_many","_law_drawn"] ["_law_script","_law_k","_law_many"] (defScope mD):=mkSc
abbrev mE:Stmt:=top 67
theorem pd:FnScope ["_law_script","_law_at","_law_size","_law_way"] ["_law_script","_law_at","_law_size"] (defScope mE):=mkSc
abbrev kr:Stmt:=top 68
theorem bh:FnScope ["_law_kept","_law_kinds","_law_some"] ["_law_kept"] (defScope kr):=mkSc
abbrev mF:Stmt:=top 70
theorem dc:FnScope ["_law_script","_law_at","_law_names","_law_name","_law_way","_law_size","_law_rules","_law_rule"] ["_law_script","_law_at"] (defScope mF):=mkSc
structure Txt (K:Frag)(mg:KW)(C:La)(wP:Params):Prop where
 b_ValueError:mg "ValueError"=none
 uzk:mg "abs"=none
 uzh:mg "all"=none
 uzj:mg "bool"=none
 uj0:mg "dict"=none
 uxm:mg "int"=none
 uqb:mg "isinstance"=none
 ujw:mg "len"=none
 uj9:mg "list"=none
 uzl:mg "max"=none
 uzm:mg "min"=none
 uju:mg "range"=none
 uxy:mg "sorted"=none
 uk3:mg "str"=none
 uqr:mg "tuple"=none
 uzn:mg "zip"=none
 k_GREATEST_WORTH:∃ t,mg "GREATEST_WORTH"=some (.int 9 t)
 ukq:∃ t,mg "LARGEST_SIZE"=some (.int 3 t)
 ukr:∃ t,mg "LONGEST_NAME"=some (.int 5 t)
 k_TURNS:∃ t,mg "TURNS"=some (.int 4 t)
 k_WAYS:∃ t,mg "WAYS"=some (.int 8 t)
 uxx:∃ t,mg "LETTERS"=some (.str "abcdefghijklmnopqrstuvwxyz" t)
 t_BY_MIRRORING:∃ a,mg "BY_MIRRORING"=some (.ref a)/\TupK K a [1,0,3,2]
 t_BY_TURNING:∃ a,mg "BY_TURNING"=some (.ref a)/\TupK K a [2,0,3,1]
 d_RULES:∃ a,mg "RULES"=some (.ref a)/\TabK K C wP a ft
 f_is_worth:mg "is_worth"=some (.ref (C F.ay))
 f_first_worth:mg "first_worth"=some (.ref (C F.ao))
 f_last_worth:mg "last_worth"=some (.ref (C F.aq))
 f_least_worth:mg "least_worth"=some (.ref (C F.ap))
 f_greatest_worth:mg "greatest_worth"=some (.ref (C F.af))
 f_sum_worth:mg "sum_worth"=some (.ref (C F.av))
 f_times_worth:mg "times_worth"=some (.ref (C F.ai))
 f_less_worth:mg "less_worth"=some (.ref (C F.ak))
 f_same_worth:mg "same_worth"=some (.ref (C F.al))
 uxe:mg "FourError"=some (.ref (C 0))
 ukf:mg "NoPicture"=some (.ref (C 1))
 uk4:mg "NoSpot"=some (.ref (C 2))
 uxz:mg "BadBox"=some (.ref (C 3))
 uk5:mg "Unlike"=some (.ref (C 4))
 uk6:mg "NoRule"=some (.ref (C 5))
 uxn:mg "NoBlocks"=some (.ref (C 6))
 uxo:mg "NoChange"=some (.ref (C 7))
 uxp:mg "NoNumber"=some (.ref (C 8))
 ujp:mg "NothingDone"=some (.ref (C 9))
 ux0:mg "NoText"=some (.ref (C 10))
 ukg:mg "NoName"=some (.ref (C 11))
 uxf:excIn K (C 1) bmVE "ValueError.__new__"=true
 ux1:excIn K (C 2) bmVE "ValueError.__new__"=true
 ux2:excIn K (C 4) bmVE "ValueError.__new__"=true
 ux3:excIn K (C 5) bmVE "ValueError.__new__"=true
 uj4:excIn K (C 9) bmVE "ValueError.__new__"=true
 uk7:excIn K (C 11) bmVE "ValueError.__new__"=true
 ux4:IsA K C (.ref (C 3)) (qEx esL 3)
 uxq:IsA K C (.ref (C 6)) (qEx esL 6)
 uxr:IsA K C (.ref (C 7)) (qEx esL 7)
 ux5:IsA K C (.ref (C 11)) (qEx esL 11)
 uxs:IsA K C (.ref (C 8)) (qEx esL 8)
 uxg:IsA K C (.ref (C 1)) (qEx esL 1)
 ux6:IsA K C (.ref (C 5)) (qEx esL 5)
 ux7:IsA K C (.ref (C 2)) (qEx esL 2)
 ux8:IsA K C (.ref (C 10)) (qEx esL 10)
 uks:IsA K C (.ref (C 9)) (qEx esL 9)
 ux9:IsA K C (.ref (C 4)) (qEx esL 4)
 i_ValueError:IsA K C (.ty "ValueError") (qVx esL)
 takes:Takes K C (C 0) (qTk esL)
 uqq:Cls K (C 12)
 uqc:Cls K (C 13)
 uqk:NoAttr K (C 12) "pages"
 uqd:NoAttr K (C 12) "place"
 uqh:NoAttr K (C 13) "steps"
structure Tab (P:Program)(w:World)(K:Frag)(mg:KW)(base:Heap)(C:La)(k:Nat)(t:Nat->List FF.D->FF.R FF.D):Prop where
 g20:Fn1 P w K mg base C k "is_whole" ["thing"] (t F.aE)
 g21:Fn1 P w K mg base C k "is_worth" ["thing"] (t F.ay)
 g22:Fn1 P w K mg base C k "is_size" ["thing"] (t F.aI)
 g23:Fn1 P w K mg base C k "is_tree" ["size","thing","is_end"] (t F.aD)
 g24:Fn1 P w K mg base C k "is_sized_tree" ["thing","is_end"] (t F.aB)
 g25:Fn1 P w K mg base C k "put_together" ["four"] (t F.aw)
 g26:Fn1 P w K mg base C k "lean_tree" ["tree"] (t F.aA)
 g105:Fn1 P w K mg base C k "quarters_in" ["tree"] (t F.az)
 g27:Fn1 P w K mg base C k "is_picture" ["thing"] (t F.aH)
 g28:Fn1 P w K mg base C k "check_picture" ["thing"] (t F.an)
 g29:Fn1 P w K mg base C k "lean" ["picture"] (t F.aC)
 g69:Fn1 P w K mg base C k "moved_tree" ["tree","order"] (t F.ax)
 g70:Fn1 P w K mg base C k "moved" ["picture","order"] (t F.aJ)
 g125:Fn1 P w K mg base C k "turned" ["picture"] (t F.aN)
 g84:Fn1 P w K mg base C k "mirrored" ["picture"] (t F.aK)
 g127:Fn1 P w K mg base C k "check_way" ["thing"] (t F.aF)
 g128:Fn1 P w K mg base C k "by_way" ["picture","way"] (t F.ah)
 g146:Fn1 P w K mg base C k "first_worth" ["one","other"] (t F.ao)
 g147:Fn1 P w K mg base C k "last_worth" ["one","other"] (t F.aq)
 g148:Fn1 P w K mg base C k "least_worth" ["one","other"] (t F.ap)
 g149:Fn1 P w K mg base C k "greatest_worth" ["one","other"] (t F.af)
 g150:Fn1 P w K mg base C k "sum_worth" ["one","other"] (t F.av)
 g151:Fn1 P w K mg base C k "times_worth" ["one","other"] (t F.ai)
 g152:Fn1 P w K mg base C k "less_worth" ["one","other"] (t F.ak)
 g153:Fn1 P w K mg base C k "same_worth" ["one","other"] (t F.al)
 g154:Fn1 P w K mg base C k "check_word" ["thing","words"] (t F.aL)
 g155:Fn1 P w K mg base C k "check_rule" ["thing"] (t F.aa)
 g158:Fn1 P w K mg base C k "check_sizes" ["things"] (t F.ar)
 g159:Fn1 P w K mg base C k "check_pictures" ["pictures"] (t F.ag)
 g160:Fn1 P w K mg base C k "joined_tree" ["make","one","other"] (t F.ae)
 g161:Fn1 P w K mg base C k "joined" ["rule","one","other"] (t F.ad)
 g280:Fn1 P w K mg base C k "is_name" ["thing"] (t F.aG)
 g334:Fn1 P w K mg base C k "check_name" ["thing"] (t F.ac)
 g30:Fn1 P w K mg base C k "_law_cell" ["_law_script","_law_k"] (t F.aO)
 g31:Fn1 P w K mg base C k "_law_pick" ["_law_script","_law_k","_law_many"] (t F.ab)
 g32:Fn1 P w K mg base C k "_law_tree" ["_law_script","_law_at","_law_size"] (t F.au)
 g265:Fn1 P w K mg base C k "_law_deed" ["_law_script","_law_at"] (t F.aM)
 v:∀ i∈fvL,FnV P w K mg base C k i (t i)
section
variable (T:Txt K mg C w.params)(G:Tab P w K mg base C k t)
include T G
theorem rV:OkD P w K mg base C k "is_whole" iW ["thing"] (a1 (iV t)):=ok1 rQ λGU=>λbx _ _=>by
 exact fl_1 (pJ (aC bx rfl T.uqb AT (aa 0) (pe_b T.uxm)) (pI (sK (aC bx rfl T.uqb xX (aa 0) (pe_b T.uzj)))))
theorem kN:OkD P w K mg base C k "is_worth" iX ["thing"] (a1 (fu t)):=ok1 rR λGU=>λbx _ _=>by
 exact fl_1 (pJ (ag bx G.g20 rfl (fac1 (aa 0))) (pI (uy ac (aa 0) (g6 T.k_GREATEST_WORTH rfl))))
theorem t5:OkD P w K mg base C k "is_size" kj ["thing"] (a1 (ib t)):=ok1 tY λGU=>λbx _ _=>by
 exact fl_1 (pJ (ag bx G.g20 rfl (fac1 (aa 0))) (pI (uy ac (aa 0) (g6 T.ukq rfl))))
theorem t6:OkD P w K mg base C k "is_tree" kl ["size","thing","is_end"] (a3 (eY t)):=ok3 tZ λsize_ GU is_end=>λbx _ _=>by
 refine fl_6 (bG (bF (aC bx rfl T.uqb dF (aa 1) (pe_b T.uqr)))) ?_ ?_
 ·exact fl_1 (qY bx G.v (aa 2) (fac1 (aa 1)))
 refine fl_6 (ft_w (lF (bZ bx (aa 0) ac) (iP (kI bx (fe_N (iR bx rfl T.ujw (fao (aa 1)))) ac)))) ?_ ?_
 ·exact fl_2 gh
 exact fl_1 (fe_N (xV bx rfl T.uzh (fao (fe_C (fi (N:=["part","is_end","size"]) (own:=1) (cap:=[2,0]) bx (BlkOk.of (by kernel_rfl)) (dQ bx.K (aa 1)) (fg (by decide)) (λ_ _ _ _ _=>aT 0 (show List.Nodup (α:=Str) ["part","is_end","size"] by decide +kernel)) (λ_ _ _ _ _=>(ag (bd bx) G.g23 rfl (fac (dR (aa 2) ac) (fac (aa 0) (fac1 (aa 1)))))))))))
theorem ku:OkD P w K mg base C k "is_sized_tree" cI ["thing","is_end"] (a2 (bD t)):=ok2 kn λGU is_end=>λbx _ _=>by
 refine fl_6 (ft_w (lF (bG (bF (aC bx rfl T.uqb dF (aa 0) (pe_b T.uqr)))) (iP (kI bx (fe_N (iR bx rfl T.ujw (fao (aa 0)))) ac)))) ?_ ?_
 ·exact fl_2 gh
 exact fl_1 (pJ (ag bx G.g22 rfl (fac1 (af bx.K (aa 0) ac))) (pI (ag bx G.g23 rfl (fac (af bx.K (aa 0) ac) (fac (af bx.K (aa 0) ac) (fac1 (aa 1)))))))
theorem kY:OkD P w K mg base C k "put_together" dh ["four"] (a1 (bN t)):=ok1 fZ λfour=>λbx _ _=>by
 refine fl_7 1 fZ.nd (af bx.K (aa 0) ac) λfirst=>?_
 refine fl_6 (ft_w (sJ (bG (bF (aC bx rfl T.uqb dF (aa 1) (pe_b T.uqr)))) (pH (bZ bx (aa 0) (ap (fac (aa 1) (fac (aa 1) (fac (aa 1) (fac1 (aa 1)))))))))) ?_ ?_
 ·exact fl_2 (aa 1)
 exact fl_2 (aa 0)
theorem qk:OkD P w K mg base C k "lean_tree" gE ["tree"] (a1 (cF t)):=ok1 qf λKq=>λbx _ _=>by
 refine fl_6 (bG (bF (aC bx rfl T.uqb dF (aa 0) (pe_b T.uqr)))) ?_ ?_
 ·exact fl_2 (aa 0)
 exact fl_1 (ag bx G.g25 rfl (fac1 (fe_N (i8 bx rfl T.uqr (fao (fe_C (fi (N:=["part"]) (own:=1) (cap:=[]) bx (BlkOk.of (by kernel_rfl)) (dQ bx.K (aa 0)) (fg (by decide)) (λ_ _ _ _ _=>aT 0 (show List.Nodup (α:=Str) ["part"] by decide +kernel)) (λ_ _ _ _ _=>(ag (bd bx) G.g26 rfl (fac1 (aa 0)))))))))))
theorem mG:OkD P w K mg base C k "quarters_in" dW ["tree"] (a1 (cm t)):=ok1 ms λKq=>λbx _ _=>by
 refine fl_6 (bF (aC bx rfl T.uqb dF (aa 0) (pe_b T.uqr))) ?_ ?_
 ·exact fl_2 (aa 0)
 exact fl_2 (ap (fac (aa 0) (fac (aa 0) (fac (aa 0) (fac1 (aa 0))))))
theorem nU:OkD P w K mg base C k "is_picture" fB ["thing"] (a1 (cO t)):=ok1 nK λGU=>λbx _ _=>by
 exact fl_1 (ag bx G.g24 rfl (fac (aa 0) (fac1 (EI T.f_is_worth rfl))))
theorem kx:OkD P w K mg base C k "check_picture" cJ ["thing"] (a1 (bE t)):=ok1 ko λGU=>λbx _ made=>by
 refine lQ (gr (bG (bF (ag bx G.g27 rfl (fac1 (aa 0))))) ?_ ?_ ?_);rfl
 ·exact fl_5 (cD 1 bx made rfl T.ukf T.uxf (fao aj))
 ·exact bJ Gw
theorem BM:OkD P w K mg base C k "lean" t0 ["picture"] (a1 (p9 t)):=ok1 BL λIg=>λbx _ _=>by
 refine fl_8 (ag bx G.g28 rfl (fac1 (aa 0))) ?_;exact fl_1 (ap (fac (af bx.K (aa 0) ac) (fac1 (ag bx G.g26 rfl (fac1 (af bx.K (aa 0) ac))))))
theorem nV:OkD P w K mg base C k "moved_tree" fC ["tree","order"] (a2 (bO t)):=ok2 nM λKq KA=>λbx _ _=>by
 refine fl_6 (bG (bF (aC bx rfl T.uqb dF (aa 0) (pe_b T.uqr)))) ?_ ?_
 ·exact fl_2 (aa 0)
 exact fl_1 (fe_N (i8 bx rfl T.uqr (fao (fe_C (fi (N:=["number","order","tree"]) (own:=1) (cap:=[1,0]) bx (BlkOk.of (by kernel_rfl)) (dQ bx.K (aa 1)) (fg (by decide)) (λ_ _ _ _ _=>aT 0 (show List.Nodup (α:=Str) ["number","order","tree"] by decide +kernel)) (λ_ _ _ _ _=>(ag (bd bx) G.g69 rfl (fac (af (bd bx).K (aa 2) (aa 0)) (fac1 (aa 1))))))))))
theorem zg:OkD P w K mg base C k "moved" qh ["picture","order"] (a2 (lj t)):=ok2 rS λIg KA=>λbx _ _=>by
 refine fl_7 2 rS.nd (ag bx G.g29 rfl (fac1 (aa 0))) λshown=>?_
 exact fl_1 (ap (fac (af bx.K (aa 2) ac) (fac1 (ag bx G.g69 rfl (fac (af bx.K (aa 2) ac) (fac1 (aa 1)))))))
theorem wQ:OkD P w K mg base C k "turned" mt ["picture"] (a1 (jl t)):=ok1 wM λIg=>λbx _ _=>by
 exact fl_1 (ag bx G.g70 rfl (fac (aa 0) (fac1 (uB T.t_BY_TURNING rfl))))
theorem rW:OkD P w K mg base C k "mirrored" iY ["picture"] (a1 (fw t)):=ok1 rT λIg=>λbx _ _=>by
 exact fl_1 (ag bx G.g70 rfl (fac (aa 0) (fac1 (uB T.t_BY_MIRRORING rfl))))
theorem ql:OkD P w K mg base C k "check_way" gF ["thing"] (a1 (cG t)):=ok1 qi λGU=>λbx _ made=>by
 refine lQ (gr (ft_w (lF (bG (bF (ag bx G.g20 rfl (fac1 (aa 0))))) (iP (bG (AR ac (aa 0) (g6 T.k_WAYS rfl)))))) ?_ ?_ ?_);rfl
 ·exact fl_5 (cD 2 bx made rfl T.uk4 T.ux1 (fao aj))
 ·exact bJ Gw
theorem wR:OkD P w K mg base C k "by_way" mw ["picture","way"] (a2 (gw t)):=ok2 e9 λIg way=>λbx hpo _=>by
 refine fl_7 2 e9.nd (ag bx G.g29 rfl (fac1 (aa 0))) λKk=>?_
 refine fl_8 (ag bx G.g127 rfl (fac1 (aa 1))) ?_;refine jZ (inj:=λ(told2:D) (w:Unit)=>[vv Ig,vv way,vv told2,nn]) (gr (Es (aa 1) (g6 T.k_TURNS rfl)) ?_ ?_ ?_) (λtold2 w=>?_);rfl
 ·refine fl_7 2 e9.nd (ag bx G.g84 rfl (fac1 (aa 2))) λtold1=>?_
  exact bJ ⟨(),rfl⟩
 ·exact bJ ⟨(),rfl⟩
 refine jZ (inj:=λ(s:D) (w1:Option Sl)=>[vv Ig,vv way,vv s,w1]) (pR 3 nn hpo rfl (oG (c8 rfl T.uju (fao (iQ (aa 1) (g6 T.k_TURNS rfl))))) ?_ (aT 3 e9.nd) rfl (λ_ _ _=>rfl) (λs w1 x1=>?_)) (λtold4 w2=>?_);rfl
 ·refine fl_7 2 e9.nd (ag bx G.g125 rfl (fac1 (aa 2))) λtold3=>?_
  exact bJ ⟨vv x1,rfl⟩
 exact fl_2 (aa 2)
theorem gJ:OkD P w K mg base C k "first_worth" dX ["one","other"] (a2 (ir t)):=ok2 mx λone Ih _ _ _ _ _ _ _ _ _ _ _=>by
 exact fl_2 (aa 0)
theorem iC:OkD P w K mg base C k "last_worth" fD ["one","other"] (a2 (jm t)):=ok2 nN λone Ih _ _ _ _ _ _ _ _ _ _ _=>by
 exact fl_2 (aa 1)
theorem gK:OkD P w K mg base C k "least_worth" dY ["one","other"] (a2 (iu t)):=ok2 my λone Ih=>λbx _ _=>by
 exact fl_1 (fe_N (A8 bx rfl T.uzm (FAL.out (fac (aa 0) (fac1 (aa 1))))))
theorem dO:OkD P w K mg base C k "greatest_worth" cc ["one","other"] (a2 (eZ t)):=ok2 ju λone Ih=>λbx _ _=>by
 exact fl_1 (fe_N (AS bx rfl T.uzl (FAL.out (fac (aa 0) (fac1 (aa 1))))))
theorem jv:OkD P w K mg base C k "sum_worth" gG ["one","other"] (a2 (kM t)):=ok2 qj λone Ih=>λbx _ _=>by
 exact fl_1 (iQ (ax bx.K (aa 0) (aa 1)) ac)
theorem gL:OkD P w K mg base C k "times_worth" dZ ["one","other"] (a2 (cn t)):=ok2 mz λone Ih=>λbx _ _=>by
 exact fl_1 (iQ (dg bx.K (aa 0) (aa 1)) ac)
theorem iD:OkD P w K mg base C k "less_worth" fE ["one","other"] (a2 (cP t)):=ok2 nO λone Ih=>λbx _ _=>by
 exact fl_1 (fe_N (DJ bx rfl T.uzk (fao (dR (aa 0) (aa 1)))))
theorem iE:OkD P w K mg base C k "same_worth" fF ["one","other"] (a2 (cQ t)):=ok2 nQ λone Ih=>λbx _ _=>by
 exact fl_1 (xH (bZ bx (aa 0) (aa 1)) ac ac)
theorem nW:OkD P w K mg base C k "check_word" fG ["thing","words"] (a2 (cR t)):=ok2 nR λGU words=>λbx _ made=>by
 refine lQ (gr (wb bx (aa 0) (aa 1)) ?_ ?_ ?_);rfl
 ·exact fl_5 (cD 5 bx made rfl T.uk6 T.ux3 (fao aj))
 ·exact bJ Gw
theorem nX:OkD P w K mg base C k "check_rule" fH ["thing"] (a1 (cS t)):=ok1 nS λGU=>λbx _ _=>by
 refine fl_8 (ag bx G.g154 rfl (fac (aa 0) (fac1 (tj bx rfl T.uj9 T.d_RULES rfl)))) ?_;exact bJ Gw
theorem mH:OkD P w K mg base C k "check_sizes" d0 ["things"] (a1 (bw t)):=ok1 gH λK3=>λbx hpo made=>by
 refine jZ (inj:=λ(s:Unit) (w:Option Sl)=>[vv K3,w]) (pR 1 nn hpo rfl (dQ bx.K (aa 0)) ?_ (aT 1 gH.nd) rfl (λ_ _ _=>rfl) (λs w x=>?_)) (λ_ w1=>?_);rfl
 ·refine lQ (gr (kI bx (af bx.K (aa 1) ac) (af bx.K (af bx.K (aa 0) ac) ac)) ?_ ?_ ?_);rfl
  ·exact fl_5 (cD 4 bx made rfl T.uk5 T.ux2 (fao aj))
  ·exact bJ ⟨vv x,rfl⟩
 exact bJ Gw
theorem jw:OkD P w K mg base C k "check_pictures" ce ["pictures"] (a1 (aY t)):=ok1 dN λK1=>λbx hpo _=>by
 refine jZ (inj:=λ(s:Unit) (w:Option Sl)=>[vv K1,w]) (pR 1 nn hpo rfl (dQ bx.K (aa 0)) ?_ (aT 1 dN.nd) rfl (λ_ _ _=>rfl) (λs w x=>?_)) (λ_ w1=>?_);rfl
 ·refine fl_8 (ag bx G.g28 rfl (fac1 (aa 1))) ?_;exact bJ ⟨vv x,rfl⟩
 refine fl_8 (ag bx G.g158 rfl (fac1 (aa 0))) ?_;exact bJ Gw
theorem mI:OkD P w K mg base C k "joined_tree" d6 ["make","one","other"] (a3 (bz t)):=ok3 gI λmake one Ih=>λbx _ _=>by
 refine fl_6 (ft_w (sJ (bG (bF (aC bx rfl T.uqb dF (aa 1) (pe_b T.uqr)))) (pH (bG (bF (aC bx rfl T.uqb dF (aa 2) (pe_b T.uqr))))))) ?_ ?_
 ·exact fl_1 (qY bx G.v (aa 0) (fac (aa 1) (fac1 (aa 2))))
 refine fl_7 3 gI.nd (BH bx rfl T.uj9 rfl T.uzn (fac (ag bx G.g105 rfl (fac1 (aa 1))) (fac1 (ag bx G.g105 rfl (fac1 (aa 2)))))) λcouples=>?_
 exact fl_1 (ag bx G.g25 rfl (fac1 (fe_N (i8 bx rfl T.uqr (fao (fe_C (fi (N:=["couple","make"]) (own:=1) (cap:=[0]) bx (BlkOk.of (by kernel_rfl)) (dQ bx.K (aa 3)) (fg (by decide)) (λ_ _ _ _ _=>aT 0 (show List.Nodup (α:=Str) ["couple","make"] by decide +kernel)) (λ_ _ _ _ _=>(ag (bd bx) G.g160 rfl (fac (aa 1) (fac (af (bd bx).K (aa 0) ac) (fac1 (af (bd bx).K (aa 0) ac)))))))))))))
theorem wT:OkD P w K mg base C k "joined" mB ["rule","one","other"] (a3 (gz t)):=ok3 wN λrule one Ih=>λbx _ _=>by
 refine fl_8 (ag bx G.g155 rfl (fac1 (aa 0))) ?_;refine fl_8 (ag bx G.g159 rfl (fac1 (aA (fac (aa 1) (fac1 (aa 2)))))) ?_;exact fl_1 (ap (fac (af bx.K (aa 1) ac) (fac1 (ag bx G.g160 rfl (fac (DL bx T.d_RULES rfl (aa 0)) (fac (af bx.K (aa 1) ac) (fac1 (af bx.K (aa 2) ac))))))))
theorem t7:OkD P w K mg base C k "is_name" kq ["thing"] (a1 (kg t)):=ok1 t4 λGU=>λbx _ _=>by
 refine fl_6 (ft_w (lF (bG (bF (aC bx rfl T.uqb k7 (aa 0) (pe_b T.uk3)))) (iP (bG (AQ ac (fe_N (Bh bx rfl T.ujw (fao (aa 0)))) (g6 T.ukr rfl)))))) ?_ ?_
 ·exact fl_2 gh
 exact fl_1 (fe_N (xV bx rfl T.uzh (fao (fe_C (fi (N:=["sign"]) (own:=1) (cap:=[]) bx (BlkOk.of (by kernel_rfl)) (DY (aa 0)) (fg (by decide)) (λ_ _ _ _ _=>aT 0 (show List.Nodup (α:=Str) ["sign"] by decide +kernel)) (λ_ _ _ _ _=>(DZ (aa 0) (Bi T.uxx rfl))))))))
theorem nY:OkD P w K mg base C k "check_name" fI ["thing"] (a1 (cT t)):=ok1 nT λGU=>λbx _ made=>by
 refine lQ (gr (bG (bF (ag bx G.g280 rfl (fac1 (aa 0))))) ?_ ?_ ?_);rfl
 ·exact fl_5 (cD 11 bx made rfl T.ukg T.uk7 (fao aj))
 ·exact bJ Gw
theorem wU:OkD P w K mg base C k "_law_cell" mC ["_law_script","_law_k"] (a2 (jn t)):=ok2 wO λFg Fq=>λbx _ _=>by
 refine fl_6 (xS (aa 1) (fe_N (iR bx rfl T.ujw (fao (aa 0))))) ?_ ?_
 ·exact fl_1 (af bx.K (aa 0) (aa 1))
 refine fl_6 (bZ bx (aa 0) (aA cM)) ?_ ?_
 ·exact fl_2 ac
 exact fl_1 (ax bx.K (dg bx.K (af bx.K (aa 0) (iQ (aa 1) (fe_N (iR bx rfl T.ujw (fao (aa 0)))))) ac) (aa 1))
theorem wV:OkD P w K mg base C k "_law_pick" mD ["_law_script","_law_k","_law_many"] (a3 (jo t)):=ok3 o9 λFg Fq Fp=>λbx _ _=>by
 refine fl_7 3 o9.nd (iQ (dg bx.K (ax bx.K (ag bx G.g30 rfl (fac (aa 0) (fac1 (aa 1)))) (dg bx.K ac (ax bx.K (aa 1) ac))) ac) ac) λFJ=>?_
 exact fl_1 (iQ (iQ (ax bx.K (dg bx.K (aa 3) (aa 3)) (Dv (aa 3) ac)) ac) (aa 2))
theorem wW:OkD P w K mg base C k "_law_tree" mE ["_law_script","_law_at","_law_size"] (a3 (gA t)):=ok3 pd λFg Fo Fv=>λbx _ _=>by
 refine fl_7 3 pd.nd (ag bx G.g31 rfl (fac (aa 0) (fac (aa 1) (fac1 ac)))) λFu=>?_
 refine fl_6 (ft_w (lF (bZ bx (aa 2) ac) (iP (xS (aa 3) ac)))) ?_ ?_
 ·exact fl_1 (af bx.K (aA (by exact(fac ac (fac ac (fac ac (fac ac (fac ac (fac1 (ag bx G.g31 rfl (fac (aa 0) (fac (ax bx.K (aa 1) ac) (fac1 ac)))))))))))) (ag bx G.g31 rfl (fac (aa 0) (fac (ax bx.K (aa 1) ac) (fac1 ac)))))
 refine fl_6 (bZ bx (aa 3) ac) ?_ ?_
 ·exact fl_1 (dg bx.K (ap (fac1 (ag bx G.g32 rfl (fac (aa 0) (fac (ax bx.K (aa 1) ac) (fac1 (dR (aa 2) ac))))))) ac)
 exact fl_1 (fe_N (i8 bx rfl T.uqr (fao (fe_C (fi (N:=["_law_k","_law_script","_law_size","_law_at"]) (own:=1) (cap:=[0,2,1]) bx (BlkOk.of (by kernel_rfl)) (oG (c8 rfl T.uju (fao ac))) (fg (by decide)) (λ_ _ _ _ _=>aT 0 (show List.Nodup (α:=Str) ["_law_k","_law_script","_law_size","_law_at"] by decide +kernel)) (λ_ _ _ _ _=>(ag (bd bx) G.g32 rfl (fac (aa 1) (fac (ax (bd bx).K (ax (bd bx).K (dg (bd bx).K ac (aa 3)) ac) (dg (bd bx).K ac (aa 0))) (fac1 (dR (aa 2) ac)))))))))))
theorem wX:OkD P w K mg base C k "_law_deed" mF ["_law_script","_law_at"] (a2 (jp t)):=ok2 dc λFg Fo=>λbx _ _=>by
 refine fl_4 (lG 2 dc.nd (aA (fac aj (fac aj (fac aj (fac1 aj)))))) ?_;refine AZ 3 4 (uC 3 4 bx dc.nd (FAL.out (fac (af bx.K (aa 2) (ag bx G.g31 rfl (fac (aa 0) (fac (aa 1) (fac1 ac))))) (fac1 (ag bx G.g31 rfl (fac (aa 0) (fac (ax bx.K (aa 1) ac) (fac1 ac)))))))) ?_ ?_ (λ_ _=>rfl) (λFk Fu=>?_);rfl;rfl;refine fl_6 (xS (aa 4) ac) ?_ ?_
 ·refine fl_7 5 dc.nd (af bx.K (aA (fac ac (fac ac (fac ac (fac1 ac))))) (ag bx G.g31 rfl (fac (aa 0) (fac (ax bx.K (aa 1) ac) (fac1 ac))))) λFv=>?_
  exact fl_1 (ap (fac aj (fac (aa 3) (fac1 (ap (fac (aa 5) (fac1 (ag bx G.g32 rfl (fac (aa 0) (fac (ax bx.K (aa 1) ac) (fac1 (aa 5))))))))))))
 refine fl_6 (bZ bx (aa 4) ac) ?_ ?_
 ·exact fl_2 (ap (fac aj (fac1 (aa 3))))
 refine Bz (inj:=λ(_:Unit) (w2:Unit)=>[vv Fg,vv Fo,vv (.lst [(.str "a"),(.str "tu"),(.str "iklmn"),(.str "opqrs")]),vv Fk,vv Fu,nn,nn,nn]) (gr (bZ bx (aa 4) ac) ?_ ?_ ?_) (λ_ w2=>?_);rfl
 ·exact fl_1 (ap (fac aj (fac (aa 3) (fac1 (ag bx G.g31 rfl (fac (aa 0) (fac (ax bx.K (aa 1) ac) (fac1 ac))))))))
 ·exact bJ ⟨(),rfl⟩
 refine wG (S':=[vv Fg,vv Fo,vv (.lst [(.str "a"),(.str "tu"),(.str "iklmn"),(.str "opqrs")]),vv Fk,vv Fu,nn,vv (.lst [(.str "first"),(.str "last"),(.str "first"),(.str "last"),(.str "least"),(.str "sum"),(.str "less"),(.str "same"),(.str "most"),(.str "greatest"),(.str "times")]),nn]) (Bv 6 dc.nd (uV (falw bM (falw bM (falw bM (falw bM (falw bM (falw bM (falw bM (falw bM (falw bM (falw bM (falw bM cM))))))))))))) ?_ ?_;rfl;refine fl_7 7 dc.nd (af bx.K (aa 6) (ag bx G.g31 rfl (fac (aa 0) (fac (ax bx.K (aa 1) ac) (fac1 ac))))) λFV=>?_
 exact fl_1 (ap (fac aj (fac (aa 3) (fac (aa 7) (fac (af bx.K (aa 2) (ag bx G.g31 rfl (fac (aa 0) (fac (ax bx.K (aa 1) ac) (fac1 ac))))) (fac1 (af bx.K (aa 2) (ag bx G.g31 rfl (fac (aa 0) (fac (ax bx.K (aa 1) ac) (fac1 ac)))))))))))
end
def mth (s:Stmt)(j:Nat):Stmt:=match s with
 | .ClassDef _ _ _ b _ _ _ _ _ _ _=>b.getD j (.Pass ⟨0,0,0,0⟩)
 | _=>.Pass ⟨0,0,0,0⟩
abbrev fJ:Stmt:=mth (top 41) 0
theorem nZ:FnScope ["self","first"] ["self","first"] (defScope fJ):=mkSc
abbrev fK:Stmt:=mth (top 41) 1
theorem n5:FnScope ["self"] ["self"] (defScope fK):=mkSc
abbrev d7:Stmt:=mth (top 41) 2
theorem mJ:FnScope ["self","page"] ["self","page"] (defScope d7):=mkSc
abbrev fL:Stmt:=mth (top 41) 3
theorem iF:FnScope ["self","left"] ["self"] (defScope fL):=mkSc
abbrev d8:Stmt:=mth (top 41) 4
theorem mK:FnScope ["self"] ["self"] (defScope d8):=mkSc
abbrev d9:Stmt:=mth (top 41) 5
theorem mM:FnScope ["self"] ["self"] (defScope d9):=mkSc
abbrev fM:Stmt:=mth (top 41) 6
theorem iG:FnScope ["self","other"] ["self"] (defScope fM):=mkSc
abbrev fN:Stmt:=mth (top 63) 0
theorem n6:FnScope ["self"] ["self"] (defScope fN):=mkSc
abbrev ef:Stmt:=mth (top 63) 1
theorem mO:FnScope ["self","held"] ["self","held"] (defScope ef):=mkSc
abbrev cf:Stmt:=mth (top 63) 2
theorem jx:FnScope ["self"] ["self"] (defScope cf):=mkSc
abbrev eg:Stmt:=mth (top 63) 3
theorem gM:FnScope ["self","word","name","picture","held"] ["self","word","name","picture"] (defScope eg):=mkSc
abbrev gN:Stmt:=mth (top 63) 4
theorem fO:FnScope ["self","name","picture","told","had"] ["self","name","picture"] (defScope gN):=mkSc
abbrev bH:Stmt:=mth (top 63) 5
theorem io:FnScope ["self","name"] ["self","name"] (defScope bH):=mkSc
abbrev fP:Stmt:=mth (top 63) 6
theorem eB:FnScope ["self","name","told","held"] ["self","name"] (defScope fP):=mkSc
abbrev fQ:Stmt:=mth (top 63) 7
theorem iH:FnScope ["self","name","rule","one","other","told"] ["self","name","rule","one","other"] (defScope fQ):=mkSc
abbrev fR:Stmt:=mth (top 63) 8
theorem iI:FnScope ["self","name","way","told"] ["self","name","way"] (defScope fR):=mkSc
abbrev eD:Stmt:=mth (top 63) 9
theorem mP:FnScope ["self"] ["self"] (defScope eD):=mkSc
abbrev fS:Stmt:=mth (top 63) 11
theorem n8:FnScope ["self"] ["self"] (defScope fS):=mkSc
abbrev eE:Stmt:=mth (top 63) 12
theorem mQ:FnScope ["self"] ["self"] (defScope eE):=mkSc
abbrev eF:Stmt:=mth (top 63) 13
theorem mR:FnScope ["self"] ["self"] (defScope eF):=mkSc
abbrev fT:Stmt:=mth (top 63) 14
theorem iJ:FnScope ["self","other"] ["self"] (defScope fT):=mkSc
abbrev fU:Stmt:=top 71
theorem bB:FnScope ["_law_known","_law_deed_here","_law_rest","_law_needed","_law_made"] ["_law_known","_law_deed_here"] (defScope fU):=mkSc
abbrev kz:Stmt:=top 72
theorem t8:FnScope ["_law_album","_law_deed_here"] ["_law_album","_law_deed_here"] (defScope kz):=mkSc
abbrev fV:Stmt:=top 73
theorem n9:FnScope ["_law_album"] ["_law_album"] (defScope fV):=mkSc
abbrev ba:Stmt:=top 74
theorem aq:FnScope ["_law_script","_law_album","_law_rows","_law_k","_law_deed_here","_law_known","_law_due","_law_many","_law_other","_law_rounds","_law_one","_law_at","_law_here","_law_count"] ["_law_script"] (defScope ba):=mkSc
abbrev jy:Stmt:=top 69
theorem cg:FnScope ["_law_deed_here","e"] ["_law_deed_here"] (defScope jy):=mkSc
structure TabQ (P:Program)(w:World)(K:Frag)(mg:KW)(base:Heap)(C:La)(k:Nat)(t:Nat->List FF.D->FF.R FF.D)(tr:Nat->Wd->List FF.D->FF.R FF.D)(tw:Nat->Wd->List FF.D->RW):Prop where
 uxj:MkW P w K mg base C k 12 "Steps" ["self","first"] (tw M.uqs)
 ujv:MeR P w K mg base C k 12 "here" (tr M.uqp)
 uj5:MeW P w K mg base C k 12 "go_on" ["self","page"] (tw M.uqu)
 uk8:MeW P w K mg base C k 12 "back" ["self"] (tw M.uja)
 ukt:MeW P w K mg base C k 12 "forth" ["self"] (tw M.ujm)
 uku:MeR P w K mg base C k 12 "marks" (tr M.ujn)
 uk9:MeW P w K mg base C k 12 "twin" ["self"] (tw M.ujr)
 uxk:MkW P w K mg base C k 13 "Album" ["self"] (tw M.uqy)
 ukv:MeW P w K mg base C k 13 "begin" ["self","held"] (tw M.uqz)
 uql:MeR P w K mg base C k 13 "pictures" (tr M.uqg)
 ujq:MeW P w K mg base C k 13 "go_on" ["self","word","name","picture"] (tw M.uqm)
 ujz:MeW P w K mg base C k 13 "put" ["self","name","picture"] (tw M.uqj)
 uqo:MeRs P w K mg base C k 13 "picture_of" ["self","name"] (tr M.uqa)
 uxa:MeW P w K mg base C k 13 "take" ["self","name"] (tw M.uqn)
 uxb:MeW P w K mg base C k 13 "join" ["self","name","rule","one","other"] (tw M.uqe)
 uxc:MeW P w K mg base C k 13 "move" ["self","name","way"] (tw M.uqi)
 ukw:MeR P w K mg base C k 13 "names" (tr M.uq0)
 ujb:MeW P w K mg base C k 13 "back" ["self"] (tw M.uqf)
 uj6:MeW P w K mg base C k 13 "forth" ["self"] (tw M.uqw)
 uj7:MeR P w K mg base C k 13 "marks" (tr M.uqx)
 uxd:MeW P w K mg base C k 13 "twin" ["self"] (tw M.ujs)
 ukh:FnW P w K mg base C k "_law_behind" ["_law_known","_law_deed_here"] (tw M.L_behind_w)
 uxl:FnW P w K mg base C k "_law_did" ["_law_album","_law_deed_here"] (tw M.L_did_w)
 ujt:FnW P w K mg base C k "_law_all_of" ["_law_album"] (tw M.L_all_of_w)
 hc:FnHd P w K mg base C k "_law_class" ["_law_kept"] (t F.aj)
 uq9:Fd K mg "_law_told" ["_law_deed_here"] jy
theorem gO (T:Txt K mg C w.params)(Fl:FF.D):OkHB P w K mg base C k ["_law_kept","_law_kinds","_law_some"] "_law_class" kr [Fl] (o0 t Fl):=λ_ _ _ _ _ _ _ bx=>by
 refine fl_3 (fs_O (xY 1 bh.nd (FAL.out (fac (aF bx rfl T.uqb T.ux4 (aa 0) (aR rfl T.uxz rfl)) (fac (aF bx rfl T.uqb T.uxq (aa 0) (aR rfl T.uxn rfl)) (fac1 (aF bx rfl T.uqb T.uxr (aa 0) (aR rfl T.uxo rfl)))))))) λFR=>?_
 refine fl_3 (S':=λFw=>[vv Fl,ow Fw,nn]) (fs_X (oC 1 bx.K (fao (aA (fac1 (aF bx rfl T.uqb T.ux5 (aa 0) (aR rfl T.ukg rfl))))))) λFw=>?_
 refine yf 1 (S':=[vv Fl,vv (.lst Fw),nn]) rfl rfl ?_;refine fl_7 1 bh.nd (ax bx.K (aa 1) (aA (fac (aF bx rfl T.uqb T.uxs (aa 0) (aR rfl T.uxp rfl)) (fac (aF bx rfl T.uqb T.uxg (aa 0) (aR rfl T.ukf rfl)) (fac1 (aF bx rfl T.uqb T.ux6 (aa 0) (aR rfl T.uk6 rfl))))))) λFN=>?_
 refine fl_7 1 bh.nd (ax bx.K (aa 1) (aA (fac (aF bx rfl T.uqb T.ux7 (aa 0) (aR rfl T.uk4 rfl)) (fac (aF bx rfl T.uqb T.ux8 (aa 0) (aR rfl T.ux0 rfl)) (fac1 (aF bx rfl T.uqb T.uks (aa 0) (aR rfl T.ujp rfl))))))) λFP=>?_
 refine fl_7 1 bh.nd (ax bx.K (aa 1) (aA (fac1 (aF bx rfl T.uqb T.ux9 (aa 0) (aR rfl T.uk5 rfl))))) λFy=>?_
 refine fl_6 (ft_w (lF (DU bx (Cy (wz bx (aa 1) (fao gh))) ac) (iP (bG (bF (aF bx rfl T.uqb T.i_ValueError (aa 0) (pe_b T.b_ValueError))))))) ?_ ?_
 ·exact fl_2 aj
 refine fl_4 (fs_O (xY 2 bh.nd (FAL.out (by exact(fac aj (fac aj (fac aj (fac aj (fac aj (fac aj (fac1 aj))))))))))) ?_;refine fl_3 (S':=λFB=>[vv Fl,vv Fy,ow FB]) (fs_X (oC 2 bx.K (fao (aA (fac aj (fac1 aj)))))) λFB=>?_
 refine yf 2 (S':=[vv Fl,vv Fy,vv (.lst FB)]) rfl rfl ?_;exact fl_1 (af bx.K (ax bx.K (aa 2) (aA (fac aj (fac1 aj)))) (Cy (tF bx (aa 1) (fao gh))))
section
variable {tr:Nat->Wd->List FF.D->FF.R FF.D}{tw:Nat->Wd->List FF.D->RW}(T:Txt K mg C w.params)(G:Tab P w K mg base C k t)(Q:TabQ P w K mg base C k t tr tw)
include T G Q
theorem ci (rf:Wd->RW):ToldB P w K mg base C (k+1) ["_law_deed_here","e"] "_law_told" "_law_deed_here" jy rf (aw t rf):=λ_ _ _ _ _ _ _ _ _ _ bg _ _ deed W =>
 Br 1 bg (Q.hc.mono (JH k)) rfl rfl rfl rfl cg.nd rfl T.uxe T.takes (λpn xe E' bg'=>sU (uG (deed pn xe E' _ _ W _ bg' rfl)))
theorem eG:OkG P w K mg base C k "__init__" "Steps.__init__" fJ ["self","first"] (b2 (cU t tr tw)):=okg2 nZ λW self first=>λbg hpo made=>by
 refine iq bg.K T.uqk (bi (λ_ _ wk=>(aA (fac1 (aa 1))))) (λ_ _ _ wk=>(aa 0)) λw1=>?_
 refine iq bg.K T.uqd (bi (λ_ _ wk=>ac)) (λ_ _ _ wk=>(aa 0)) λw3=>?_
 exact bL Gw
theorem eI:OkR P w K mg base C k "here" "Steps.here" fK "self" (r1 (cW t tr)):=okr1 n5 λW self=>λbx wk=>by
 exact fl_1 (af bx.K (aQ bx.K wk T.uqk (aa 0)) (aQ bx.K wk T.uqd (aa 0)))
theorem di:OkG P w K mg base C k "go_on" "Steps.go_on" d7 ["self","page"] (b2 (cq t tr tw)):=okg2 mJ λW self page=>λbg hpo made=>by
 refine iq bg.K T.uqd (bi (λ_ _ wk=>(ax bg.bx.K (aQ bg.bx.K wk T.uqd (aa 0)) ac))) (λ_ _ _ wk=>(aa 0)) λw1=>?_
 refine iq bg.K T.uqk (bi (λ_ _ wk=>(ax bg.bx.K (D3 bg.bx.K (aQ bg.bx.K wk T.uqk (aa 0)) Ev (Ew (aQ bg.bx.K wk T.uqd (aa 0)))) (aA (fac1 (aa 1)))))) (λ_ _ _ wk=>(aa 0)) λw3=>?_
 exact bL Gw
theorem eJ:OkG P w K mg base C k "back" "Steps.back" fL ["self"] (b1 (bP t tr tw)):=okg1 iF λW self=>λbg hpo made=>by
 refine gl_6 (bj (λ_ _ wk=>(bZ bg.bx (aQ bg.bx.K wk T.uqd (aa 0)) ac))) (λw=>?_) λw2=>?_
 ·exact gl_5 (λ_ _ wk=>cD 9 bg.bx made.of rfl T.ujp T.uj4 (fao aj))
 refine gl_7 1 iF.nd (λ_ _ wk=>b8 bg.bx wk Q.ujv (aa 0)) λleft=>?_
 refine iq bg.K T.uqd (bi (λ_ _ wk=>(dR (aQ bg.bx.K wk T.uqd (aa 0)) ac))) (λ_ _ _ wk=>(aa 0)) λw4=>?_
 exact gl_2 λ_ _ wk=>aa 1
theorem dl:OkG P w K mg base C k "forth" "Steps.forth" d8 ["self"] (b1 (cr t tr tw)):=okg1 mK λW self=>λbg hpo made=>by
 refine gl_6 (bj (λ_ _ wk=>(bZ bg.bx (aQ bg.bx.K wk T.uqd (aa 0)) (dR (fe_N (iR bg.bx rfl T.ujw (fao (aQ bg.bx.K wk T.uqk (aa 0))))) ac)))) (λw=>?_) λw2=>?_
 ·exact gl_5 (λ_ _ wk=>cD 9 bg.bx made.of rfl T.ujp T.uj4 (fao aj))
 refine iq bg.K T.uqd (bi (λ_ _ wk=>(ax bg.bx.K (aQ bg.bx.K wk T.uqd (aa 0)) ac))) (λ_ _ _ wk=>(aa 0)) λw4=>?_
 exact gl_1 λ_ _ wk=>b8 bg.bx wk Q.ujv (aa 0)
theorem dq:OkR P w K mg base C k "marks" "Steps.marks" d9 "self" (r1 (cu t tr)):=okr1 mM λW self=>λbx wk=>by
 exact fl_1 (ap (fac (aQ bx.K wk T.uqd (aa 0)) (fac1 (dR (dR (fe_N (iR bx rfl T.ujw (fao (aQ bx.K wk T.uqk (aa 0))))) ac) (aQ bx.K wk T.uqd (aa 0))))))
theorem eL:OkG P w K mg base C k "twin" "Steps.twin" fM ["self"] (b1 (cX t tr tw)):=okg1 iG λW self=>λbg hpo made=>by
 refine lW 1 iG.nd (uH bg Q.uxj rfl (λ_ _ wk=>(fao Dp)) (λS ds h=>ay h)) ?_ (λ_=>rfl) (λw Ih=>?_);rfl;refine iq bg.K T.uqk (bi (λ_ _ wk=>(fe_N (A9 bg.bx rfl T.uj9 (fao (aQ bg.bx.K wk T.uqk (aa 0))))))) (λ_ _ _ wk=>(aa 1)) λw2=>?_
 refine iq bg.K T.uqd (bi (λ_ _ wk=>(aQ bg.bx.K wk T.uqd (aa 0)))) (λ_ _ _ wk=>(aa 1)) λw4=>?_
 exact gl_2 λ_ _ wk=>aa 1
theorem eM:OkG P w K mg base C k "__init__" "Album.__init__" fN ["self"] (b1 (cY t tr tw)):=okg1 n6 λW self=>λbg hpo made=>by
 refine gl_8 (bC bg Q.ukv T.uqc (λ_ _ wk=>(aa 0)) (λ_ _ wk=>(fao lZ)) (λS ds h=>ay h)) λw=>?_
 exact bL Gw
theorem dr:OkG P w K mg base C k "begin" "Album.begin" ef ["self","held"] (b2 (cw t tr tw)):=okg2 mO λW self KD=>λbg hpo made=>by
 refine iq bg.K T.uqh (uH bg Q.uxj rfl (λ_ _ wk=>(fao (ap (fac aj (fac1 (aa 1)))))) (λS ds h=>ay h)) (λ_ _ _ wk=>(aa 0)) λw1=>?_
 exact bL Gw
theorem bW:OkR P w K mg base C k "pictures" "Album.pictures" cf "self" (r1 (bo t tr)):=okr1 jx λW self=>λbx wk=>by
 exact fl_1 (af bx.K (b8 bx wk Q.ujv (aQ bx.K wk T.uqh (aa 0))) ac)
theorem du:OkG P w K mg base C k "go_on" "Album.go_on" eg ["self","word","name","picture"] (b4 (cx t tr tw)):=okg4 gM λW self word name Ig=>λbg hpo made=>by
 refine gl_3 (λ_ _ wk=>(oU (rD 4 bg.bx gM.nd rfl T.uj0 (fao (b8 bg.bx wk Q.uql (aa 0)))))) λKD=>?_
 refine gl_3 (λ_ _ wk=>(yw 4 bg.bx (aa 3) (aa 2))) λK9=>?_
 refine uW 4 (S':=[vv self,vv word,vv name,vv Ig,vv (dicD K9)]) rfl rfl ?_;refine gl_8 (bC bg Q.uj5 T.uqq (λ_ _ wk=>(aQ bg.bx.K wk T.uqh (aa 0))) (λ_ _ wk=>(fao (ap (fac (aa 1) (fac1 (aa 4)))))) (λS ds h=>ay h)) λw=>?_
 exact bL Gw
theorem fW:OkG P w K mg base C k "put" "Album.put" gN ["self","name","picture"] (b3 (dM t tr tw)):=okg3 fO λW self name Ig=>λbg hpo made=>by
 refine gl_7 3 fO.nd (λ_ _ wk=>ag bg.bx G.g29 rfl (fac1 (aa 2))) λKk=>?_
 refine gl_8 (bi (λ_ _ wk=>(ag bg.bx G.g334 rfl (fac1 (aa 1))))) λw=>?_
 refine gl_7 4 fO.nd (λ_ _ wk=>uR bg.bx (aa 1) (b8 bg.bx wk Q.uql (aa 0))) λhad=>?_
 refine gl_8 (bC bg Q.ujq T.uqc (λ_ _ wk=>(aa 0)) (λ_ _ wk=>(FAL.out (fac aj (fac (aa 1) (fac1 (aa 3)))))) (λS ds h=>ay h)) λw1=>?_
 exact gl_2 λ_ _ wk=>aa 4
theorem bt:OkRs P w K mg base C k "picture_of" "Album.picture_of" bH ["self","name"] (r2 (aJ t tr)):=okrs2 io λW self name=>λbx wk hpo made=>by
 refine fl_6 (ft_w (lF (bG (bF (ag bx G.g280 rfl (fac1 (aa 1))))) (iP (rC bx (aa 1) (b8 bx wk Q.uql (aa 0)))))) ?_ ?_
 ·exact fl_5 (cD 11 bx made rfl T.ukg T.uk7 (fao aj))
 exact fl_1 (h8 bx (b8 bx wk Q.uql (aa 0)) (aa 1))
theorem eN:OkG P w K mg base C k "take" "Album.take" fP ["self","name"] (b2 (bQ t tr tw)):=okg2 eB λW self name=>λbg hpo made=>by
 refine gl_7 2 eB.nd (λ_ _ wk=>rz bg.bx wk Q.uqo (aa 0) (fao (aa 1)) (λS ds h=>ay h)) λKk=>?_
 refine gl_3 (λ_ _ wk=>(oU (rD 3 bg.bx eB.nd rfl T.uj0 (fao (b8 bg.bx wk Q.uql (aa 0)))))) λKD=>?_
 refine gl_3 (λ_ _ wk=>(tN (wD 3 (aa 1) (m1:=⟨rfl,rfl,rfl,rfl⟩)))) λK9=>?_
 refine uW 3 (S':=[vv self,vv name,vv Kk,vv (dicD K9)]) rfl rfl ?_;refine gl_8 (bC bg Q.uj5 T.uqq (λ_ _ wk=>(aQ bg.bx.K wk T.uqh (aa 0))) (λ_ _ wk=>(fao (ap (fac aj (fac1 (aa 3)))))) (λS ds h=>ay h)) λw=>?_
 exact gl_2 λ_ _ wk=>aa 2
theorem eO:OkG P w K mg base C k "join" "Album.join" fQ ["self","name","rule","one","other"] (b5 (bR t tr tw)):=okg5 iH λW self name rule one Ih=>λbg hpo made=>by
 refine gl_8 (bi (λ_ _ wk=>(ag bg.bx G.g155 rfl (fac1 (aa 2))))) λw=>?_
 refine gl_8 (bi (λ_ _ wk=>(ag bg.bx G.g334 rfl (fac1 (aa 1))))) λw1=>?_
 refine gl_7 5 iH.nd (λ_ _ wk=>ag bg.bx G.g161 rfl (fac (aa 2) (fac (rz bg.bx wk Q.uqo (aa 0) (fao (aa 3)) (λS ds h=>ay h)) (fac1 (rz bg.bx wk Q.uqo (aa 0) (fao (aa 4)) (λS ds h=>ay h)))))) λKk=>?_
 refine gl_8 (bC bg Q.ujq T.uqc (λ_ _ wk=>(aa 0)) (λ_ _ wk=>(FAL.out (fac aj (fac (aa 1) (fac1 (aa 5)))))) (λS ds h=>ay h)) λw2=>?_
 exact gl_2 λ_ _ wk=>aa 5
theorem eQ:OkG P w K mg base C k "move" "Album.move" fR ["self","name","way"] (b3 (bp t tr tw)):=okg3 iI λW self name way=>λbg hpo made=>by
 refine gl_7 3 iI.nd (λ_ _ wk=>ag bg.bx G.g128 rfl (fac (rz bg.bx wk Q.uqo (aa 0) (fao (aa 1)) (λS ds h=>ay h)) (fac1 (aa 2)))) λKk=>?_
 refine gl_8 (bC bg Q.ujq T.uqc (λ_ _ wk=>(aa 0)) (λ_ _ wk=>(FAL.out (fac aj (fac (aa 1) (fac1 (aa 3)))))) (λS ds h=>ay h)) λw=>?_
 exact gl_2 λ_ _ wk=>aa 3
theorem dz:OkR P w K mg base C k "names" "Album.names" eD "self" (r1 (cy t tr)):=okr1 mP λW self=>λbx wk=>by
 exact fl_1 (fe_N (tM bx rfl T.uxy (fao (b8 bx wk Q.uql (aa 0)))))
theorem eR:OkG P w K mg base C k "back" "Album.back" fS ["self"] (b1 (bS t tr tw)):=okg1 n8 λW self=>λbg hpo made=>by
 exact gl_9 (CC bg (bv bg Q.uk8 T.uqq rfl (λ_ _ wk=>(aQ bg.bx.K wk T.uqh (aa 0)))) (λ_ _ _ wk=>ac))
theorem dA:OkG P w K mg base C k "forth" "Album.forth" eE ["self"] (b1 (cz t tr tw)):=okg1 mQ λW self=>λbg hpo made=>by
 exact gl_9 (CC bg (bv bg Q.ukt T.uqq rfl (λ_ _ wk=>(aQ bg.bx.K wk T.uqh (aa 0)))) (λ_ _ _ wk=>ac))
theorem dB:OkR P w K mg base C k "marks" "Album.marks" eF "self" (r1 (cA t tr)):=okr1 mR λW self=>λbx wk=>by
 exact fl_1 (b8 bx wk Q.uku (aQ bx.K wk T.uqh (aa 0)))
theorem eS:OkG P w K mg base C k "twin" "Album.twin" fT ["self"] (b1 (cZ t tr tw)):=okg1 iJ λW self=>λbg hpo made=>by
 refine lW 1 iJ.nd (rA bg Q.uxk rfl rfl) ?_ (λ_=>rfl) (λw Ih=>?_);rfl;refine iq bg.K T.uqh (bv bg Q.uk9 T.uqq rfl (λ_ _ wk=>(aQ bg.bx.K wk T.uqh (aa 0)))) (λ_ _ _ wk=>(aa 1)) λw2=>?_
 exact gl_2 λ_ _ wk=>aa 1
theorem og:OkGL P w K mg base C (k+2) 0 "_law_behind" fU ["_law_known","_law_deed_here"] (b2 (aB t tr tw)):=okgl2 bB λW Fj Ff=>λbg2 hpo made lx=>by
 have bg:=bg2.mono (Jy k 2);refine gl_7 2 bB.nd (λ_ _ wk=>fe_N (ji bg.bx rfl T.uj0 (fao (fe_C (oz (N:=["_law_name","_law_known","_law_deed_here"]) (own:=1) (cap:=[0,1]) bg.bx (BlkOk.of (by kernel_rfl)) (D1 (aa 0)) (fg (by decide)) (λ_ _ _ _ _=>aT 0 (show List.Nodup (α:=Str) ["_law_name","_law_known","_law_deed_here"] by decide +kernel)) (λ_ _ _ _ _=>(kI (bd bg.bx) (aa 0) (af (bd bg.bx).K (aa 2) ac))) (λ_ _ _ _ _=>(ap (fac (aa 0) (fac1 (h8 (bd bg.bx) (aa 1) (aa 0))))))))))) λFC=>?_
 refine gl_6 (bj (λ_ _ wk=>(bZ bg.bx (af bg.bx.K (aa 1) ac) aj))) (λw=>?_) λw2=>?_
 ·exact gl_1 λ_ _ wk=>ap (fac (fe_N (ji bg.bx rfl T.uj0 (fao (ax bg.bx.K (rH bg.bx rfl T.uj9 (aa 2)) (aA (fac1 (ap (fac (af bg.bx.K (aa 1) ac) (fac1 (ag bg.bx G.g29 rfl (fac1 (af bg.bx.K (aa 1) ac)))))))))))) (fac1 (uR bg.bx (af bg.bx.K (aa 1) ac) (aa 0))))
 refine gl_6 (bj (λ_ _ wk=>(ft_w (sJ (bZ bg.bx (af bg.bx.K (aa 1) ac) aj) (pH (bZ bg.bx (af bg.bx.K (aa 1) ac) aj)))))) (λw3=>?_) λw5=>?_
 ·exact gl_2 λ_ _ wk=>ap (fac (aa 0) (fac1 aj))
 refine gl_7 3 bB.nd (λ_ _ wk=>xH (kI bg.bx (af bg.bx.K (aa 1) ac) aj) (aA (fac1 (af bg.bx.K (aa 1) ac))) (aA (fac (af bg.bx.K (aa 1) ac) (fac1 (af bg.bx.K (aa 1) ac))))) λFM=>?_
 refine gl_6 (bj (λ_ _ wk=>(kI bg.bx (fe_C (oz (N:=["_law_name","_law_known"]) (own:=1) (cap:=[0]) bg.bx (BlkOk.of (by kernel_rfl)) (dQ bg.bx.K (aa 3)) (fg (by decide)) (λ_ _ _ _ _=>aT 0 (show List.Nodup (α:=Str) ["_law_name","_law_known"] by decide +kernel)) (λ_ _ _ _ _=>(rC (bd bg.bx) (aa 0) (aa 1))) (λ_ _ _ _ _=>(aa 0)))) (aA cM)))) (λw6=>?_) λw8=>?_
 ·exact gl_2 λ_ _ wk=>ap (fac (aa 0) (fac1 aj))
 refine gl_6 (bj (λ_ _ wk=>(bZ bg.bx (af bg.bx.K (aa 1) ac) aj))) (λw9=>?_) λw11=>?_
 ·exact gl_1 λ_ _ wk=>ap (fac (aa 2) (fac1 (h8 bg.bx (aa 0) (af bg.bx.K (aa 1) ac))))
 refine uQ (inj:=λ(Ft:D) (j4:Unit)=>[vv Fj,vv Ff,vv FC,vv FM,vv Ft]) (bj (λ_ _ wk=>(bZ bg.bx (af bg.bx.K (aa 1) ac) aj))) ?_ (λw12=>?_) (λw13=>?_) (λw18 Ft j4=>?_);rfl
 ·refine lW 4 bB.nd (h7 (k:=k) (fr:=["_law_known","_law_deed_here"]) (ds:=[Fj,Ff]) (rf:=(λw14=>rwR w14 (((dIx Ff (.int 1)).bind λx25=>dDx Fj x25).bind λx26=>(dIx Ff (.int 2)).bind λx27=>t F.ah [x26,x27]))) (lt:=aw t (λw14=>rwR w14 (((dIx Ff (.int 1)).bind λx25=>dDx Fj x25).bind λx26=>(dIx Ff (.int 2)).bind λx27=>t F.ah [x26,x27]))) 0 bg2 lx Q.uq9 cg rfl rfl (.cons 0 rfl rfl rfl rfl (.cons 1 rfl rfl rfl rfl .nil)) ⟨rfl,rfl,rfl,by decide,λ_ _ _ _=>rfl⟩ (λ_ _ _ _ _ _ _ _ _ _ w14 bg=>j7 (bi (λ_ _ wk=>(ag bg.bx G.g128 rfl (fac (h8 bg.bx (aa 0) (af bg.bx.K (aa 1) ac)) (fac1 (af bg.bx.K (aa 1) ac)))))) rfl) (ci T G Q (λw14=>rwR w14 (((dIx Ff (.int 1)).bind λx25=>dDx Fj x25).bind λx26=>(dIx Ff (.int 2)).bind λx27=>t F.ah [x26,x27])))) ?_ (λ_=>rfl) (λw15 FX=>?_);rfl;exact bL ⟨(),rfl⟩
 ·refine lW 4 bB.nd (h7 (k:=k) (fr:=["_law_known","_law_deed_here"]) (ds:=[Fj,Ff]) (rf:=(λw16=>rwR w16 ((dIx Ff (.int 2)).bind λx28=>((dIx Ff (.int 3)).bind λx29=>dDx Fj x29).bind λx30=>((dIx Ff (.int 4)).bind λx31=>dDx Fj x31).bind λx32=>t F.ad [x28,x30,x32]))) (lt:=aw t (λw16=>rwR w16 ((dIx Ff (.int 2)).bind λx28=>((dIx Ff (.int 3)).bind λx29=>dDx Fj x29).bind λx30=>((dIx Ff (.int 4)).bind λx31=>dDx Fj x31).bind λx32=>t F.ad [x28,x30,x32]))) 0 bg2 lx Q.uq9 cg rfl rfl (.cons 0 rfl rfl rfl rfl (.cons 1 rfl rfl rfl rfl .nil)) ⟨rfl,rfl,rfl,by decide,λ_ _ _ _=>rfl⟩ (λ_ _ _ _ _ _ _ _ _ _ w16 bg=>j7 (bi (λ_ _ wk=>(ag bg.bx G.g161 rfl (fac (af bg.bx.K (aa 1) ac) (fac (h8 bg.bx (aa 0) (af bg.bx.K (aa 1) ac)) (fac1 (h8 bg.bx (aa 0) (af bg.bx.K (aa 1) ac)))))))) rfl) (ci T G Q (λw16=>rwR w16 ((dIx Ff (.int 2)).bind λx28=>((dIx Ff (.int 3)).bind λx29=>dDx Fj x29).bind λx30=>((dIx Ff (.int 4)).bind λx31=>dDx Fj x31).bind λx32=>t F.ad [x28,x30,x32])))) ?_ (λ_=>rfl) (λw17 FU=>?_);rfl;exact bL ⟨(),rfl⟩
 refine gl_6 (bj (λ_ _ wk=>(bF (aC bg.bx rfl T.uqb k7 (aa 4) (pe_b T.uk3))))) (λw19=>?_) λw21=>?_
 ·exact gl_2 λ_ _ wk=>ap (fac (aa 0) (fac1 (aa 4)))
 exact gl_1 λ_ _ wk=>ap (fac (fe_N (ji bg.bx rfl T.uj0 (fao (ax bg.bx.K (rH bg.bx rfl T.uj9 (aa 2)) (aA (fac1 (ap (fac (af bg.bx.K (aa 1) ac) (fac1 (aa 4)))))))))) (fac1 (aa 4)))
theorem t9:OkGL P w K mg base C (k+2) 1 "_law_did" kz ["_law_album","_law_deed_here"] (b2 (b9 t tr tw)):=okgl2 t8 λW Fh Ff=>λbg2 hpo made lx=>by
 have bg:=bg2.mono (Jy k 2);refine gl_6 (bj (λ_ _ wk=>(DI bg.bx (af bg.bx.K (aa 1) ac) (ap (fac aj (fac1 aj)))))) (λw=>?_) λw3=>?_
 ·exact gl_9 (h7 (k:=k) (fr:=["_law_deed_here","_law_album"]) (ds:=[Ff,Fh]) (rf:=(λw2=>rwA w2 (asB ((dIx Ff (.int 0)).bind λx1=>dEq x1 (.str "put"))) λt1=>if t1=true then rwA w2 (.ok Fh) λo=>rwM 13 "put" w2 o (rwA w2 (rL [(dIx Ff (.int 1)),(dIx Ff (.int 2))]) λds=>tw M.uqj w2 (o::ds)) else rwA w2 (.ok Fh) λo1=>rwM 13 "take" w2 o1 (rwA w2 (rL [(dIx Ff (.int 1))]) λds=>tw M.uqn w2 (o1::ds)))) (lt:=aw t (λw2=>rwA w2 (asB ((dIx Ff (.int 0)).bind λx1=>dEq x1 (.str "put"))) λt1=>if t1=true then rwA w2 (.ok Fh) λo=>rwM 13 "put" w2 o (rwA w2 (rL [(dIx Ff (.int 1)),(dIx Ff (.int 2))]) λds=>tw M.uqj w2 (o::ds)) else rwA w2 (.ok Fh) λo1=>rwM 13 "take" w2 o1 (rwA w2 (rL [(dIx Ff (.int 1))]) λds=>tw M.uqn w2 (o1::ds)))) 1 bg2 lx Q.uq9 cg rfl rfl (.cons 1 rfl rfl rfl rfl (.cons 0 rfl rfl rfl rfl .nil)) ⟨rfl,rfl,rfl,by decide,λ_ _ _ _=>rfl⟩ (λ_ _ _ _ _ _ _ _ _ _ w2 bg=>j7 (yq (λ_ _ wk=>(bZ bg.bx (af bg.bx.K (aa 0) ac) aj)) (bC bg Q.ujz T.uqc (λ_ _ wk=>(aa 1)) (λ_ _ wk=>(FAL.out (fac (af bg.bx.K (aa 0) ac) (fac1 (af bg.bx.K (aa 0) ac))))) (λS ds h=>ay h)) (bC bg Q.uxa T.uqc (λ_ _ wk=>(aa 1)) (λ_ _ wk=>(fao (af bg.bx.K (aa 0) ac))) (λS ds h=>ay h))) rfl) (ci T G Q (λw2=>rwA w2 (asB ((dIx Ff (.int 0)).bind λx1=>dEq x1 (.str "put"))) λt1=>if t1=true then rwA w2 (.ok Fh) λo=>rwM 13 "put" w2 o (rwA w2 (rL [(dIx Ff (.int 1)),(dIx Ff (.int 2))]) λds=>tw M.uqj w2 (o::ds)) else rwA w2 (.ok Fh) λo1=>rwM 13 "take" w2 o1 (rwA w2 (rL [(dIx Ff (.int 1))]) λds=>tw M.uqn w2 (o1::ds)))))
 refine gl_6 (bj (λ_ _ wk=>(bZ bg.bx (af bg.bx.K (aa 1) ac) aj))) (λw4=>?_) λw7=>?_
 ·exact gl_9 (h7 (k:=k) (fr:=["_law_deed_here","_law_album"]) (ds:=[Ff,Fh]) (rf:=(λw6=>rwA w6 (.ok Fh) λo2=>rwM 13 "move" w6 o2 (rwA w6 (rL [(dIx Ff (.int 1)),(dIx Ff (.int 2))]) λds=>tw M.uqi w6 (o2::ds)))) (lt:=aw t (λw6=>rwA w6 (.ok Fh) λo2=>rwM 13 "move" w6 o2 (rwA w6 (rL [(dIx Ff (.int 1)),(dIx Ff (.int 2))]) λds=>tw M.uqi w6 (o2::ds)))) 1 bg2 lx Q.uq9 cg rfl rfl (.cons 1 rfl rfl rfl rfl (.cons 0 rfl rfl rfl rfl .nil)) ⟨rfl,rfl,rfl,by decide,λ_ _ _ _=>rfl⟩ (λ_ _ _ _ _ _ _ _ _ _ w6 bg=>j7 (bC bg Q.uxc T.uqc (λ_ _ wk=>(aa 1)) (λ_ _ wk=>(FAL.out (fac (af bg.bx.K (aa 0) ac) (fac1 (af bg.bx.K (aa 0) ac))))) (λS ds h=>ay h)) rfl) (ci T G Q (λw6=>rwA w6 (.ok Fh) λo2=>rwM 13 "move" w6 o2 (rwA w6 (rL [(dIx Ff (.int 1)),(dIx Ff (.int 2))]) λds=>tw M.uqi w6 (o2::ds)))))
 exact gl_9 (h7 (k:=k) (fr:=["_law_deed_here","_law_album"]) (ds:=[Ff,Fh]) (rf:=(λw8=>rwA w8 (.ok Fh) λo3=>rwM 13 "join" w8 o3 (rwA w8 (rL [(dIx Ff (.int 1)),(dIx Ff (.int 2)),(dIx Ff (.int 3)),(dIx Ff (.int 4))]) λds=>tw M.uqe w8 (o3::ds)))) (lt:=aw t (λw8=>rwA w8 (.ok Fh) λo3=>rwM 13 "join" w8 o3 (rwA w8 (rL [(dIx Ff (.int 1)),(dIx Ff (.int 2)),(dIx Ff (.int 3)),(dIx Ff (.int 4))]) λds=>tw M.uqe w8 (o3::ds)))) 1 bg2 lx Q.uq9 cg rfl rfl (.cons 1 rfl rfl rfl rfl (.cons 0 rfl rfl rfl rfl .nil)) ⟨rfl,rfl,rfl,by decide,λ_ _ _ _=>rfl⟩ (λ_ _ _ _ _ _ _ _ _ _ w8 bg=>j7 (bC bg Q.uxb T.uqc (λ_ _ wk=>(aa 1)) (λ_ _ wk=>(FAL.out (fac (af bg.bx.K (aa 0) ac) (fac (af bg.bx.K (aa 0) ac) (fac (af bg.bx.K (aa 0) ac) (fac1 (af bg.bx.K (aa 0) ac))))))) (λS ds h=>ay h)) rfl) (ci T G Q (λw8=>rwA w8 (.ok Fh) λo3=>rwM 13 "join" w8 o3 (rwA w8 (rL [(dIx Ff (.int 1)),(dIx Ff (.int 2)),(dIx Ff (.int 3)),(dIx Ff (.int 4))]) λds=>tw M.uqe w8 (o3::ds)))))
theorem eT:OkG P w K mg base C k "_law_all_of" "_law_all_of" fV ["_law_album"] (b1 (c6 t tr tw)):=okg1 n9 λW Fh=>λbg hpo made=>by
 exact gl_1 λ_ _ wk=>fe_N (ji bg.bx rfl T.uj0 (fao (fe_C (fi (N:=["_law_name","_law_album"]) (own:=1) (cap:=[0]) bg.bx (BlkOk.of (by kernel_rfl)) (dQ bg.bx.K (b8 bg.bx wk Q.ukw (aa 0))) (fg (by decide)) (λ_ _ _ _ _=>aT 0 (show List.Nodup (α:=Str) ["_law_name","_law_album"] by decide +kernel)) (λ_ _ _ _ _=>(ap (fac (aa 0) (fac1 (rz (bd bg.bx) wk Q.uqo (aa 1) (fao (aa 0)) (λS ds h=>ay h))))))))))
theorem ub:OkGL P w K mg base C (k+2) 2 "law" ba ["_law_script"] (b1 (ic t tr tw)):=okgl1w aq λW Fg=>λbg2 hpo made lx=>by
 have bg:=bg2.mono (Jy k 2);show GLw _ _ W [vv Fg,nn,nn,nn,nn,nn,nn,nn,nn,nn,nn,nn,nn,nn] _ _ _;refine ze 1 2 bg aq.nd (rA bg Q.uxk rfl rfl) ?_ (λ_ _ _ wk=>(uV (falw zd (falw (u7 (fdw (li (falw cN (falw cN cM))) yx)) (falw (u7 (fdw (li (falw cN (falw cN cM))) (fdw (li (falw cN (falw (li (falw cN (falw cN (falw cN (falw cN cM))))) cM))) yx))) cM))))) ?_ (λ_ _=>rfl) (λw Fh Fs=>?_);rfl;rfl;refine gl_8 (bC bg Q.ujz T.uqc (λ_ _ wk=>(aa 1)) (λ_ _ wk=>(FAL.out (fac aj (fac1 (ap (fac ac (fac1 ac))))))) (λS ds h=>ay h)) λw1=>?_
 refine gl_8 (bC bg Q.ujz T.uqc (λ_ _ wk=>(aa 1)) (λ_ _ wk=>(FAL.out (by exact(fac aj (fac1 (ap (fac ac (fac1 (ap (fac ac (fac ac (fac ac (fac1 ac))))))))))))) (λS ds h=>ay h)) λw2=>?_
 refine hV (inj:=λ(s:D) (j:Option Sl×Option Sl×Option Sl×Option Sl)=>[vv Fg,vv Fh,vv s,j.1,j.2.1,j.2.2.1,j.2.2.2,nn,nn,nn,nn,nn,nn,nn]) ?_ (jg 3 (s0:=Fs) (step:=λW s x=>bq t tr tw Fg Fh W s x) (nn,nn,nn,nn) hpo rfl (λ_ _ wk=>(oG (c8 rfl T.uju (fao ac)))) (λ_ _ _ _=>aT 3 aq.nd) rfl (λ_ _ _=>rfl) (λw3 s j x=>?_)) (λw6 s1 j1=>?_);rfl
 ·refine gl_7 4 aq.nd (λ_ _ wk=>ag bg.bx G.g265 rfl (fac (aa 0) (fac1 (ax bg.bx.K ac (dg bg.bx.K ac (aa 3)))))) λFf=>?_
  refine yW 5 6 bg aq.nd (dG bg Q.ukh rfl (λ_ _ wk=>(FAL.out (fac (af bg.bx.K (aa 2) (pP ac)) (fac1 (aa 4))))) (λS ds h=>dH h)) ?_ (λ_ _=>rfl) (λw4 Fj FK=>?_);rfl;refine gl_8 (dG bg Q.uxl rfl (λ_ _ wk=>(FAL.out (fac (aa 1) (fac1 (aa 4))))) (λS ds h=>dH h)) λw5=>?_
  refine gl_7 2 aq.nd (λ_ _ wk=>ax bg.bx.K (aa 2) (dg bg.bx.K (aA (fac1 (aa 5))) (fe_N (uJ bg.bx rfl T.uxm (fao (sK (aC bg.bx rfl T.uqb k7 (aa 6) (pe_b T.uk3)))))))) λF0=>?_
  exact bL ⟨(vv x,vv Ff,vv Fj,vv FK),rfl⟩
 refine gl_7 7 aq.nd (λ_ _ wk=>dR (fe_N (iR bg.bx rfl T.ujw (fao (aa 2)))) ac) λFp=>?_
 refine gl_8 (bv bg Q.ujb T.uqc rfl (λ_ _ wk=>(aa 1))) λw7=>?_
 refine gl_8 (bv bg Q.ujb T.uqc rfl (λ_ _ wk=>(aa 1))) λw8=>?_
 refine lW 8 aq.nd (bv bg Q.uxd T.uqc rfl (λ_ _ wk=>(aa 1))) ?_ (λ_=>rfl) (λw9 Fm=>?_);rfl;refine gl_6 (gt_w (yO (bj (λ_ _ wk=>(kI bg.bx (b8 bg.bx wk Q.uj7 (aa 8)) (ap (fac (dR (aa 7) ac) (fac1 ac)))))) (λw10=>(tO (p5 bg (dG bg Q.ujt rfl (λ_ _ wk=>(fao (aa 8))) (λS ds h=>dH h)) (λ_ _ _ wk=>(af bg.bx.K (aa 2) (pP ac)))))))) (λw12=>?_) λw14=>?_
 ·exact gl_2 λ_ _ wk=>gh
 refine gl_4 (λ_ _ wk=>lG 9 aq.nd (aA (fac (ap (fac (aa 1) (fac1 ac))) (fac1 (ap (fac (aa 8) (fac1 ac))))))) ?_;refine hV (inj:=λ(_:Unit) (j3:Option Sl×Option Sl×Option Sl×Option Sl×Option Sl×Option Sl×Option Sl)=>[vv Fg,vv Fh,vv s1,j3.1,j3.2.1,j1.2.2.1,j3.2.2.1,vv Fp,vv Fm,vv (.lst [(.tup [Fh,.int 5000]),(.tup [Fm,.int 7000])]),j3.2.2.2.1,j3.2.2.2.2.1,j3.2.2.2.2.2.1,j3.2.2.2.2.2.2]) ?_ (zc 10 11 (s0:=()) (step:=λW _ x y=>a8 t tr tw Fg s1 Fp W x y) (j1.1,j1.2.1,j1.2.2.2,nn,nn,nn,nn) hpo rfl (λ_ _ wk=>(dQ bg.bx.K (xH (bZ bg.bx (ag bg.bx G.g31 rfl (fac (aa 0) (fac ac (fac1 ac)))) ac) (aa 9) (BJ bg.bx.K (aa 9) EQ)))) (λ_ _ _ _=>Ba 10 11 rfl aq.nd) rfl (λ_ _ _ _=>rfl) (λw15 _ j3 x12 x13=>?_)) (λw46 _ j14=>?_);rfl
 ·refine hV (inj:=λ(_:Unit) (j4:Option Sl)=>[vv Fg,vv Fh,vv s1,j4,j3.2.1,j1.2.2.1,j3.2.2.1,vv Fp,vv Fm,vv (.lst [(.tup [Fh,.int 5000]),(.tup [Fm,.int 7000])]),vv x12,vv x13,j3.2.2.2.2.2.1,j3.2.2.2.2.2.2]) ?_ (jg 3 (s0:=()) (step:=λW _ x=>a7 t tr tw s1 x12 W x) j3.1 hpo rfl (λ_ _ wk=>(dQ bg.bx.K (ap (fac ac (fac1 ac))))) (λ_ _ _ _=>aT 3 aq.nd) rfl (λ_ _ _=>rfl) (λw16 _ j4 x14=>?_)) (λw21 _ j5=>?_);rfl
  ·refine gl_8 (bv bg Q.uj6 T.uqc rfl (λ_ _ wk=>(aa 10))) λw17=>?_
   refine yA (p5 bg (dG bg Q.ujt rfl (λ_ _ wk=>(fao (aa 10))) (λS ds h=>dH h)) (λ_ _ _ wk=>(af bg.bx.K (aa 2) (pP (aa 3))))) ?_ (λw19=>?_) (λw20=>?_);rfl
   ·exact gl_2 λ_ _ wk=>gh
   ·exact bL ⟨vv x14,rfl⟩
  refine Bl 12 13 (λ_ _ wk=>uC 12 13 bg.bx aq.nd (FAL.out (fac (af bg.bx.K (aa 2) (pP ac)) (fac1 (aa 7))))) ?_ ?_ (λ_ _=>rfl) (λFH Fz=>?_);rfl;rfl;refine hV (inj:=λ(s2:D×D) (j6:Option Sl×Option Sl×Option Sl)=>[vv Fg,vv Fh,vv s1,j6.1,j6.2.1,j1.2.2.1,j6.2.2,vv Fp,vv Fm,vv (.lst [(.tup [Fh,.int 5000]),(.tup [Fm,.int 7000])]),vv x12,vv x13,vv s2.1,vv s2.2]) ?_ (jg 3 (s0:=(FH,Fz)) (step:=λW s x=>br t tr tw Fg x12 x13 W s x) (j5,j3.2.1,j3.2.2.1) hpo rfl (λ_ _ wk=>(oG (c8 rfl T.uju (fao ac)))) (λ_ _ _ _=>aT 3 aq.nd) rfl (λ_ _ _=>rfl) (λw22 s2 j6 x16=>?_)) (λw28 s3 j8=>?_);rfl
  ·refine gl_7 4 aq.nd (λ_ _ wk=>ag bg.bx G.g265 rfl (fac (aa 0) (fac1 (ax bg.bx.K (aa 11) (dg bg.bx.K ac (aa 3)))))) λFQ=>?_
   refine yW 12 6 bg aq.nd (dG bg Q.ukh rfl (λ_ _ wk=>(FAL.out (fac (aa 12) (fac1 (aa 4))))) (λS ds h=>dH h)) ?_ (λ_ _=>rfl) (λw23 F2 FY=>?_);rfl;refine gl_6 (yQ bg (dG bg Q.uxl rfl (λ_ _ wk=>(FAL.out (fac (aa 10) (fac1 (aa 4))))) (λS ds h=>dH h)) (λ_ _ _ wk=>(aa 6))) (λw25=>?_) λw27=>?_
   ·exact gl_2 λ_ _ wk=>gh
   refine gl_7 13 aq.nd (λ_ _ wk=>ax bg.bx.K (aa 13) (fe_N (uJ bg.bx rfl T.uxm (fao (sK (aC bg.bx rfl T.uqb k7 (aa 6) (pe_b T.uk3))))))) λFZ=>?_
   exact bL ⟨(vv x16,vv FQ,vv FY),rfl⟩
  refine hV (inj:=λ(_:Unit) (j9:Option Sl)=>[vv Fg,vv Fh,vv s1,j9,j8.2.1,j1.2.2.1,j8.2.2,vv Fp,vv Fm,vv (.lst [(.tup [Fh,.int 5000]),(.tup [Fm,.int 7000])]),vv x12,vv x13,vv s3.1,vv s3.2]) ?_ (jg 3 (s0:=()) (step:=λW _ x=>bU t tr tw x12 W x) j8.1 hpo rfl (λ_ _ wk=>(oG (c8 rfl T.uju (fao (aa 13))))) (λ_ _ _ _=>aT 3 aq.nd) rfl (λ_ _ _=>rfl) (λw29 _ j9 x21=>?_)) (λw31 _ j10=>?_);rfl
  ·refine gl_8 (bv bg Q.ujb T.uqc rfl (λ_ _ wk=>(aa 10))) λw30=>?_
   exact bL ⟨vv x21,rfl⟩
  refine gl_6 (gt_w (yO (p5 bg (dG bg Q.ujt rfl (λ_ _ wk=>(fao (aa 10))) (λS ds h=>dH h)) (λ_ _ _ wk=>lZ)) (λw33=>(tO (yQ bg (h7 (k:=k) (fr:=["_law_one"]) (ds:=[x12]) (rf:=(λw34=>rwA w34 (.ok x12) λo7=>rwM 13 "back" w34 o7 (tw M.uqf w34 [o7]))) (lt:=aw t (λw34=>rwA w34 (.ok x12) λo7=>rwM 13 "back" w34 o7 (tw M.uqf w34 [o7]))) 2 bg2 lx Q.uq9 cg rfl rfl (.cons 10 rfl rfl rfl rfl .nil) ⟨rfl,rfl,rfl,by decide,λ_ _ _ _=>rfl⟩ (λ_ _ _ _ _ _ _ _ _ _ w34 bg=>j7 (bv bg Q.ujb T.uqc rfl (λ_ _ wk=>(aa 0))) rfl) (ci T G Q (λw34=>rwA w34 (.ok x12) λo7=>rwM 13 "back" w34 o7 (tw M.uqf w34 [o7])))) (λ_ _ _ wk=>aj)))))) (λw36=>?_) λw38=>?_
  ·exact gl_2 λ_ _ wk=>gh
  refine hV (inj:=λ(_:Unit) (j12:Option Sl)=>[vv Fg,vv Fh,vv s1,j12,j8.2.1,j1.2.2.1,j8.2.2,vv Fp,vv Fm,vv (.lst [(.tup [Fh,.int 5000]),(.tup [Fm,.int 7000])]),vv x12,vv x13,vv s3.1,vv s3.2]) ?_ (jg 3 (s0:=()) (step:=λW _ x=>bV t tr tw x12 W x) j10 hpo rfl (λ_ _ wk=>(oG (c8 rfl T.uju (fao (aa 13))))) (λ_ _ _ _=>aT 3 aq.nd) rfl (λ_ _ _=>rfl) (λw39 _ j12 x22=>?_)) (λw41 _ j13=>?_);rfl
  ·refine gl_8 (bv bg Q.uj6 T.uqc rfl (λ_ _ wk=>(aa 10))) λw40=>?_
   exact bL ⟨vv x22,rfl⟩
  refine yA (gt_w (yO (p5 bg (dG bg Q.ujt rfl (λ_ _ wk=>(fao (aa 10))) (λS ds h=>dH h)) (λ_ _ _ wk=>(aa 12))) (λw43=>(tO (bj (λ_ _ wk=>(kI bg.bx (b8 bg.bx wk Q.uj7 (aa 10)) (ap (fac (aa 13) (fac1 ac)))))))))) ?_ (λw44=>?_) (λw45=>?_);rfl
  ·exact gl_2 λ_ _ wk=>gh
  ·exact bL ⟨(j13,j8.2.1,j8.2.2,vv x12,vv x13,vv s3.1,vv s3.2),rfl⟩
 exact gl_2 λ_ _ wk=>gh
end
end Lw
end
noncomputable section
section
namespace Lw
open PySem FF
variable {n i sz s j s1 s2:Nat}{x y u:D}{W W':Wd}{m':List (L2.Key×D)}{v:Int}{nm:Str}{f:Int->Int->Int}{g':Lb}{ns:List Int}{P P':Wd->D->Prop}{rf:Wd->RW}{α:Sort _}
inductive Q (α:Type) where
 | lf (a:α) | nd (a b c d:Q α)
 deriving DecidableEq
variable {t t' tr:Q Int}
section
variable {α β γ:Type}
def Q.dep:Q α->Nat
 | .lf _=>0
 | .nd a b c d=>1+max (max a.dep b.dep) (max c.dep d.dep)
def Q.at:Nat->Q α->Nat->Nat->α
 | _,.lf a,_,_=>a
 | 0,.nd a _ _ _,x,y=>Q.at 0 a x y
 | n+1,.nd a b c d,x,y=>if y < 2^n then (if x < 2^n then a.at n x y else b.at n (x - 2^n) y) else (if x < 2^n then c.at n x (y - 2^n) else d.at n (x - 2^n) (y - 2^n))
def Q.All (p:α->Prop):Q α->Prop
 | .lf a=>p a
 | .nd a b c d=>a.All p/\b.All p/\c.All p/\d.All p
def sh (f:Nat->Nat->α)(a b:Nat):Nat->Nat->α:=λx y=>f (x+a) (y+b)
@[simp] theorem rX (n:Nat)(a:α)(x y:Nat):Q.at n (.lf a) x y=a:=by cases n<;>rfl
variable [DecidableEq α][DecidableEq β][DecidableEq γ]
def put4 (a b c d:Q α):Q α:=match a with
 | .lf v=>if b=.lf v/\c=.lf v/\d=.lf v then .lf v else .nd a b c d
 | _=>.nd a b c d
def T (f:Nat->Nat->α):Nat->Q α
 | 0=>.lf (f 0 0)
 | n+1=>put4 (T f n) (T (sh f (2^n) 0) n) (T (sh f 0 (2^n)) n) (T (sh f (2^n) (2^n)) n)
def Q.lean:Q α->Q α
 | .lf a=>.lf a
 | .nd a b c d=>put4 a.lean b.lean c.lean d.lean
theorem ll (n:Nat):(2^(n+1):Nat)=2^n+2^n:=by rw[Nat.pow_succ];omega
theorem ig (v:α):put4 (.lf v) (.lf v) (.lf v) (.lf v)=.lf v:=by simp[put4]
theorem BN (n:Nat)(a b c d:Q α)(x y:Nat):(put4 a b c d).at (n+1) x y=(Q.nd a b c d).at (n+1) x y:=by
 unfold put4;split
 ·split
  ·rename_i h;obtain⟨rfl,rfl,rfl⟩:=h;simp only[Q.at,rX,ite_self]
  ·rfl
 ·rfl
theorem zi (n:Nat)(a b c d:Q α)(ha:a.dep<=n)(hb:b.dep<=n)(hc:c.dep<=n)(hd:d.dep<=n):(put4 a b c d).dep<=n+1:=by
 unfold put4;split
 ·split
  ·exact GQ _
  ·simp only[Q.dep] at *;omega
 ·simp only[Q.dep] at *;omega
theorem aD:∀ (n:Nat) (f g:Nat->Nat->α),(∀ x y,x < 2^n->y < 2^n->f x y=g x y)->T f n=T g n
 | 0,f,g,h=>by rw[T,T,h 0 0 (by decide) (by decide)]
 | n+1,f,g,h=>by
  rw[ll]at h;rw[T,T,aD n f g λx y hx hy=>h x y (by omega) (by omega),aD n (sh f (2^n) 0) (sh g (2^n) 0) λx y hx hy=>h _ _ (by omega) (by omega),
   aD n (sh f 0 (2^n)) (sh g 0 (2^n)) λx y hx hy=>h _ _ (by omega) (by omega),aD n (sh f (2^n) (2^n)) (sh g (2^n) (2^n)) λx y hx hy=>h _ _ (by omega) (by omega)]
theorem qm (v:α):∀ n,T (λ_ _=>v) n=.lf v
 | 0=>rfl
 | n+1=>by
  rw[T];show put4 (T (λ_ _=>v) n) (T (λ_ _=>v) n) (T (λ_ _=>v) n) (T (λ_ _=>v) n)=_;rw[qm v n,ig]
theorem gP:∀ (n:Nat) (f:Nat->Nat->α),(T f n).dep<=n
 | 0,f=>F7 _
 | n+1,f=>zi n _ _ _ _ (gP n _) (gP n _) (gP n _) (gP n _)
theorem T_at:∀ (n:Nat) (f:Nat->Nat->α) (x y:Nat),x < 2^n->y < 2^n->(T f n).at n x y=f x y
 | 0,f,x,y,hx,hy=>by
  have:x=0:=by simp at hx;exact hx
  have:y=0:=by simp at hy;exact hy
  subst x;subst y;rfl
 | n+1,f,x,y,hx,hy=>by
  rw[ll]at hx hy;rw[T,BN,Q.at];by_cases h1:y < 2^n
  ·rw[if_pos h1];by_cases h2:x < 2^n
   ·rw[if_pos h2,T_at n f x y h2 h1]
   ·rw[if_neg h2,T_at n _ _ _ (by omega) h1];unfold sh;rw[show x - 2^n+2^n=x by omega,Jv]
  ·rw[if_neg h1];by_cases h2:x < 2^n
   ·rw[if_pos h2,T_at n _ _ _ h2 (by omega)];unfold sh;rw[show y - 2^n+2^n=y by omega,Jv]
   ·rw[if_neg h2,T_at n _ _ _ (by omega) (by omega)];unfold sh;rw[show x - 2^n+2^n=x by omega,show y - 2^n+2^n=y by omega]
theorem rY {p:α->Prop}:∀ (n:Nat) (f:Nat->Nat->α),(∀ x y,x < 2^n->y < 2^n->p (f x y))->(T f n).All p
 | 0,f,h=>h 0 0 (by decide) (by decide)
 | n+1,f,h=>by
  rw[ll]at h;have ha:=rY n f λx y hx hy=>h x y (by omega) (by omega)
  have hb:=rY n (sh f (2^n) 0) λx y hx hy=>h _ _ (by omega) (by omega)
  have hc:=rY n (sh f 0 (2^n)) λx y hx hy=>h _ _ (by omega) (by omega)
  have hd:=rY n (sh f (2^n) (2^n)) λx y hx hy=>h _ _ (by omega) (by omega)
  rw[T];unfold put4;split
  ·rename_i v e;split
   ·rw[e]at ha;exact ha
   ·exact⟨ha,hb,hc,hd⟩
  ·exact⟨ha,hb,hc,hd⟩
theorem kA {p:α->Prop}:∀ (n:Nat) (t:Q α) (x y:Nat),t.All p->p (t.at n x y)
 | n,.lf a,x,y,h=>by rw[rX];exact h
 | 0,.nd a _ _ _,x,y,h=>kA 0 a x y h.1
 | n+1,.nd a b c d,x,y,h=>by
  rw[Q.at];split
  ·split
   ·exact kA n a _ _ h.1
   ·exact kA n b _ _ h.2.1
  ·split
   ·exact kA n c _ _ h.2.2.1
   ·exact kA n d _ _ h.2.2.2
theorem zj (n:Nat)(a b c d:Q α):T ((Q.nd a b c d).at (n+1)) (n+1)=put4 (T (a.at n) n) (T (b.at n) n) (T (c.at n) n) (T (d.at n) n):=by
 rw[T]
 congr 1
 ·exact aD n _ _ λx y hx hy=>by rw[Q.at,if_pos hy,if_pos hx]
 ·exact aD n _ _ λx y hx hy=>by
   unfold sh;rw[Q.at,if_pos (by omega),if_neg (by omega)]
   simp
 ·exact aD n _ _ λx y hx hy=>by
   unfold sh;rw[Q.at,if_neg (by omega),if_pos (by omega)]
   simp
 ·exact aD n _ _ λx y hx hy=>by
   unfold sh;rw[Q.at,if_neg (by omega),if_neg (by omega)]
   simp
def Q.qs:Q α->Q α×Q α×Q α×Q α
 | .lf a=>(.lf a,.lf a,.lf a,.lf a)
 | .nd a b c d=>(a,b,c,d)
theorem kB:∀ (n:Nat) (t:Q α),t.dep<=n->t.lean=T (t.at n) n
 | n,.lf a,_=>by
  rw[Q.lean];exact(qm a n).symm.trans (aD _ _ _ λx y _ _=>(rX _ _ _ _).symm)
 | 0,.nd a b c d,h=>by simp[Q.dep]at h
 | n+1,.nd a b c d,h=>by
  have h':1+max (max a.dep b.dep) (max c.dep d.dep)<=n+1:=h;rw[zj,Q.lean,kB n a (by omega),kB n b (by omega),kB n c (by omega),kB n d (by omega)]
theorem jz {t:Q α}(h:t.dep<=n):t.lean.dep<=n:=by rw[kB n t h];exact gP n _
structure En (e:α->D):Prop where
 tup:∀ a,isTup (e a)=false
 gd:∀ n a,good n (e a)=true
 eq:∀ a b,eqD (e a) (e b)=decide (a=b)
 tD:∀ a xs,eqD (e a) (.tup xs)=false
 dT:∀ a xs,eqD (.tup xs) (e a)=false
end
section
variable {α:Type}[DecidableEq α]{e:α->D}
def Q.d (e:α->D):Q α->D
 | .lf a=>e a
 | .nd a b c d=>.tup [a.d e,b.d e,c.d e,d.d e]
theorem Q.gd (E:En e):∀ (n:Nat) (t:Q α),t.dep<=n->good n (t.d e)=true
 | n,.lf a,_=>E.gd n a
 | 0,.nd a b c d,h=>by simp[Q.dep]at h
 | n+1,.nd a b c d,h=>by
  have h':1+max (max a.dep b.dep) (max c.dep d.dep)<=n+1:=h;rw[Q.d,good,goods,goods,goods,goods,goods,Q.gd E n a (by omega),Q.gd E n b (by omega),Q.gd E n c (by omega),Q.gd E n d (by omega)];rfl
theorem Q.eqd (E:En e):∀ (s t:Q α),eqD (s.d e) (t.d e)=decide (s=t)
 | .lf a,.lf b=>by rw[Q.d,Q.d,E.eq];simp
 | .lf a,.nd ..=>by rw[Q.d,Q.d,E.tD];simp
 | .nd ..,.lf b=>by rw[Q.d,Q.d,E.dT];simp
 | .nd a b c d,.nd a' b' c' d'=>by
  rw[Q.d,Q.d,eqD,eqDs,eqDs,eqDs,eqDs,eqDs,Q.eqd E a a',Q.eqd E b b',Q.eqd E c c',Q.eqd E d d']
  simp[JE]
end
theorem En.int:En FF.D.int:=⟨λ_=>rfl,λn a=>by cases n<;>rfl,λa b=>by simp[eqD,IA],λa xs=>by simp[eqD],λa xs=>by simp[eqD]⟩
theorem zk {xs:List D}(h:xs.length<=16777216):sq (.tup xs)=.ok xs:=by unfold sq asSeq;rw[R.bind_ok,if_pos h]
theorem zl {xs:List D}(h:xs.length<=16777216):sq (.lst xs)=.ok xs:=by unfold sq asSeq;rw[R.bind_ok,if_pos h]
theorem sq4 (a b c d:D):sq (.tup [a,b,c,d])=.ok [a,b,c,d]:=zk (by simp)
theorem zm {e:D->R D}{f:D->D}:∀ {xs:List D},(∀ d∈xs,e d=.ok (f d))->cGo (λ_=>.ok true) e xs=.ok (xs.map f)
 | [],_=>rfl
 | x::xs,h=>by
  rw[cGo];simp only;rw[h x (.head _),zm λd hd=>h d (.tail _ hd)];rfl
theorem BO {e:D->R D}{xs:List D}(f:D->D)(h:∀ d∈xs,e d=.ok (f d)):cMap e xs=.ok (.lst (xs.map f)):=by
 unfold cMap;rw[zm h];rfl
theorem BP {α:Type}{e:D->R D}{l:List α}(c g:α->D)(h:∀ a∈l,e (c a)=.ok (g a)):cMap e (l.map c)=.ok (.lst (l.map g)):=by
 unfold cMap;have:∀ {l:List α},(∀ a∈l,e (c a)=.ok (g a))->cGo (λ_=>.ok true) e (l.map c)=.ok (l.map g):=by
  intro l
  induction l with
  | nil=>intro _;rfl
  | cons a l ih =>
   intro h;rw[F5,cGo]
   grind
 rw[this h];rfl
theorem cMap4 {e:D->R D}{a b c d a' b' c' d':D}(ha:e a=.ok a')(hb:e b=.ok b')(hc:e c=.ok c')(hd:e d=.ok d'):cMap e [a,b,c,d]=.ok (.lst [a',b',c',d']):=by
 unfold cMap;simp only[cGo,ha,hb,hc,hd];rfl
theorem u8 {α:Type}{c:D->R Bool}{e:D->R D}{l:List α}(k g:α->D)(p:α->Bool)(h:∀ a∈l,c (k a)=.ok (p a)/\(p a=true->e (k a)=.ok (g a))):cFil c e (l.map k)=.ok (.lst ((l.filter p).map g)):=by
 unfold cFil;have:∀ {l:List α},(∀ a∈l,c (k a)=.ok (p a)/\(p a=true->e (k a)=.ok (g a)))->cGo c e (l.map k)=.ok ((l.filter p).map g):=by
  intro l
  induction l with
  | nil=>intro _;rfl
  | cons a l ih =>
   intro h;have h1:=h a (.head _);have h2:=ih λb hb=>h b (.tail _ hb)
   rw[F5,cGo,h1.1]
   grind
 rw[this h];rfl
@[simp] theorem uc (xs:List D):dTuple [.lst xs]=.ok (.tup xs):=rfl
@[simp] theorem ue (xs:List D):dTuple [.tup xs]=.ok (.tup xs):=rfl
@[simp] theorem wY (xs:List D):dList [.tup xs]=.ok (.lst xs):=rfl
@[simp] theorem wZ (xs:List D):dList [.lst xs]=.ok (.lst xs):=rfl
@[simp] theorem mS (xs:List D):dLen [.tup xs]=.ok (.int xs.length):=rfl
@[simp] theorem jA (xs:List D):dLen [.lst xs]=.ok (.int xs.length):=rfl
@[simp] theorem aZ (a b:Int):dAdd (.int a) (.int b)=.ok (.int (a+b)):=rfl
@[simp] theorem bX (a b:Int):dSub (.int a) (.int b)=.ok (.int (a - b)):=rfl
@[simp] theorem qo (a b:Int):dLt (.int a) (.int b)=.ok (.bl (decide (a < b))):=rfl
@[simp] theorem BQ (a b:Int):dLe (.int a) (.int b)=.ok (.bl (decide (a<=b))):=rfl
@[simp] theorem BR (a b:Int):dGt (.int a) (.int b)=.ok (.bl (decide (b < a))):=rfl
@[simp] theorem BS (a b:Int):dGe (.int a) (.int b)=.ok (.bl (decide (b<=a))):=rfl
@[simp] theorem bY (a b:Int):dEq (.int a) (.int b)=.ok (.bl (decide (a=b))):=by
 show R.ok (D.bl (a==b))=_;rw[IA]
@[simp] theorem qp (a b:Int):dNf (.int a) (.int b)=.ok (.bl (!decide (a=b))):=by
 show R.ok (D.bl (!(a==b)))=_;rw[IA]
theorem cH {a b:Int}(h:(-(2^64) < b/\b < 2^64)\/(-(2^64) < a/\a < 2^64)):dMul (.int a) (.int b)=.ok (.int (a*b)):=by
 have:cMul a b=true:=by unfold cMul;simp;rcases h with h | h;exact .inr h;exact .inl h
 show (if cMul a b=true then R.ok (D.int (a*b)) else R.stuck)=_;rw[if_pos this]
theorem zo {a b:Int}(h0:0 < b)(h1:b < 1073741824):dDiv (.int a) (.int b)=.ok (.int (a/b)):=by
 have:cDiv a b=true:=by unfold cDiv;simp;exact⟨h0,h1⟩
 show (if cDiv a b=true then R.ok (D.int (a/b)) else R.stuck)=_;rw[if_pos this]
theorem gQ {a b:Int}(h0:0 < b):dMod (.int a) (.int b)=.ok (.int (a%b)):=by
 show (if decide (0 < b)=true then R.ok (D.int (a%b)) else R.stuck)=_
 grind
theorem rZ (hx:good 60 x=true)(hy:good 60 y=true):dEq x y=.ok (.bl (eqD x y)):=by unfold dEq;rw[if_pos ⟨hx,hy⟩]
theorem mT (hx:good 60 x=true)(hy:good 60 y=true):dNf x y=.ok (.bl (!eqD x y)):=by unfold dNf;rw[if_pos ⟨hx,hy⟩]
theorem ut {α:Type}{xs:List α}{x:α}(h:xs[i]?=some x):L2.atI xs ((i:Nat):Int)=some x:=by
 have hi:i < xs.length:=(Gc.mp h).1;unfold L2.atI L2.ixN
 grind
theorem ixL {xs:List D}(h:xs[i]?=some x):dIx (.lst xs) (.int ((i:Nat):Int))=.ok x:=by
 show (match L2.atI xs (i:Int) with | some d=>R.ok d | none=>R.stuck)=_;rw[ut h]
@[simp] theorem ix20 (a b:D):dIx (.tup [a,b]) (.int 0)=.ok a:=rfl
@[simp] theorem ix21 (a b:D):dIx (.tup [a,b]) (.int 1)=.ok b:=rfl
@[simp] theorem ix40 (a b c d:D):dIx (.tup [a,b,c,d]) (.int 0)=.ok a:=rfl
@[simp] theorem ix41 (a b c d:D):dIx (.tup [a,b,c,d]) (.int 1)=.ok b:=rfl
@[simp] theorem ix42 (a b c d:D):dIx (.tup [a,b,c,d]) (.int 2)=.ok c:=rfl
@[simp] theorem ix43 (a b c d:D):dIx (.tup [a,b,c,d]) (.int 3)=.ok d:=rfl
@[simp] theorem kC (xs:List D):dIsA qTup (.tup xs)=.ok (.bl true):=rfl
@[simp] theorem xa (i:Int):dIsA qTup (.int i)=.ok (.bl false):=rfl
theorem mU {α:Type}(p:α->Bool):∀ l:List α,boolsD (l.map λd=>D.bl (p d))=some (l.map p)
 | []=>rfl
 | a::r=>by simp only[F5,boolsD,mU p r,IH]
theorem zp {α:Type}(p:α->Bool)(l:List α):dAll [.lst (l.map λd=>D.bl (p d))]=.ok (.bl (l.all p)):=by
 show (match boolsD (l.map λd=>D.bl (p d)) with | some bs=>R.ok (D.bl (bs.all id)) | none=>R.stuck)=_;rw[mU]
 simp[List.all_map,Function.comp_def]
theorem u9 (f:Int->Int->Bool)(F' G':Lf){x y w:Int}{g:Int->Int->Bool}(h1:F' (.int x) (.int y)=.ok (.bl (f x y)))(h2:G' (.int y) (.int w)=.ok (.bl (g y w))):rCh F' G' (.int x) (.int y) (.ok (.int w))=.ok (.bl (f x y&&g y w)):=by
 unfold rCh;rw[h1];cases f x y with
 | true=>show G' (.int y) (.int w)=_;rw[h2];rfl
 | false=>rfl
@[simp] theorem zq (x y w:Int):rCh dLe dLe (.int x) (.int y) (.ok (.int w))=.ok (.bl (decide (x<=y)&&decide (y<=w))):=u9 (λa b=>decide (a<=b)) _ _ (g:=λa b=>decide (a<=b)) rfl rfl
@[simp] theorem zr (x y w:Int):rCh dLe dLt (.int x) (.int y) (.ok (.int w))=.ok (.bl (decide (x<=y)&&decide (y < w))):=u9 (λa b=>decide (a<=b)) _ _ (g:=λa b=>decide (a < b)) rfl rfl
theorem BT (a b:Bool):vAnd (.ok (.bl a)) (.ok (.bl b))=.ok (.bl (a&&b)):=by cases a<;>rfl
theorem D4 (a b:Bool):vOr (.ok (.bl a)) (.ok (.bl b))=.ok (.bl (a||b)):=by cases a<;>rfl
theorem BU (a b:Bool):rAnd (.ok a) (.ok b)=.ok (a&&b):=by cases a<;>rfl
theorem uf (a b:Bool):rOr (.ok a) (.ok b)=.ok (a||b):=by cases a<;>rfl
def isW:D->Bool
 | .int _=>true
 | _=>false
def noX:D->Bool
 | .tab _ _=>false
 | .dic _ _=>false
 | .ptr _=>false
 | .exc _=>false
 | .fn _=>false
 | _=>true
def inTo (hi:Int):D->Bool
 | .int i=>decide (0<=i)&&decide (i<=hi)
 | _=>false
theorem dC {d:D}(h:good n d=true):noX d=true:=by
 cases d<;>first | rfl | (cases n<;>simp[good]at h)
theorem jB (hn:1<=n){d:D}(h:noX d=true):pf n F.aE [d]=.ok (.bl (isW d)):=by
 obtain⟨m,rfl⟩:∃ m,n=m+1:=⟨n - 1,by omega⟩;rw[rK];cases d<;>first | rfl | (cases h)
theorem zt (hn:2<=n){d:D}(h:noX d=true):pf n F.ay [d]=.ok (.bl (inTo 9 d)):=by
 obtain⟨m,rfl⟩:∃ m,n=m+1:=⟨n - 1,by omega⟩;rw[rN,fu,jB (by omega) h];cases d<;>first | rfl | (cases h;done) | skip
 simp[isW,inTo]
theorem BV (hn:2<=n){d:D}(h:noX d=true):pf n F.aI [d]=.ok (.bl (inTo 3 d)):=by
 obtain⟨m,rfl⟩:∃ m,n=m+1:=⟨n - 1,by omega⟩;rw[tW,ib,jB (by omega) h];cases d<;>first | rfl | (cases h;done) | skip
 simp[isW,inTo]
def STP:=Ga @gq (Ga @DC (Ga @uD (Ga @Ez (Ga @EA (Ga @AV (Ga @AU (Ga @AW (Ga @R.bind_ok (Ga @R.bind_err (Ga @jY (Ga @pQ (Ga @BU (Ga @uf (Ga @DD (Ga @DE (Ga @ED (Ga @EE (Ga @DF (Ga @DG (Ga @EF (Ga @EG (Ga @BT (Ga @D4 (Ga @AX (Ga @yb (Ga @yc (Ga @Bool.not_true (Ga @Bool.not_false (Ga @Bool.false_or (Ga @Bool.true_or (Ga @Bool.or_false (Ga @Bool.or_true (Ga @Bool.true_and (Ga @Bool.false_and (Ga @Bool.and_true (Ga @Bool.and_false (Ga @Bool.false_eq_true (@Bool.true_eq_false))))))))))))))))))))))))))))))))))))))
def OPP:=Ga @aZ (Ga @bX (Ga @qo (Ga @BQ (Ga @BR (Ga @BS (Ga @bY (Ga @qp (Ga @mS (Ga @jA (Ga @uc (Ga @ue (Ga @wY (Ga @wZ (Ga @ix20 (Ga @ix21 (Ga @ix40 (Ga @ix41 (Ga @ix42 (Ga @ix43 (Ga @kC (Ga @xa (Ga @zq (@zr)))))))))))))))))))))))
def slim:Nat->D->Bool
 | n+1,.tup xs=>decide (xs.length<=1000)&&xs.all (slim n)
 | n+1,.lst xs=>decide (xs.length<=1000)&&xs.all (slim n)
 | _,_=>true
def treeOk (p:D->Bool):Nat->Int->D->Bool
 | n+1,s,.tup xs=>decide (s≠0)&&(decide (xs.length=4)&&xs.all (treeOk p n (s - 1)))
 | _,_,d=>p d
theorem df {n:Nat}:∀ {xs:List D},goods n xs=true->∀ d∈xs,good n d=true
 | x::xs,h,d,hd=>by
  rw[goods,Gj]at h;cases hd with
  | head=>exact h.1
  | tail _ hd=>exact df h.2 d hd
theorem mV {n:Nat}:∀ {xs:List D},(∀ d∈xs,good n d=true)->goods n xs=true
 | [],_=>rfl
 | x::xs,h=>by rw[goods,h x (.head _),mV λd hd=>h d (.tail _ hd)];rfl
theorem ex1 {k:Nat}(h:k+1<=n):∃ m,n=m+1/\k<=m:=⟨n - 1,by omega,by omega⟩
theorem gR {d:D}(h:isTup d=false)(h':noX d=true):dIsA qTup d=.ok (.bl false):=by cases d<;>first | rfl | (cases h;done) | (cases h';done)
theorem BW {c:Nat}{p:D->Bool}(hi:fvL.contains i=true)(hp:∀ m d,c<=m->noX d=true->pf m i [d]=.ok (.bl (p d))):∀ (n m:Nat) (s:Int) (d:D),good n d=true->slim n d=true->n+c+1<=m->pf m F.aD [.int s,d,.fn i]=.ok (.bl (treeOk p n s d)):=by
 have flat:∀ (n m:Nat) (s:Int) (d:D),isTup d=false->noX d=true->c+1<=m->treeOk p n s d=p d->pf m F.aD [.int s,d,.fn i]=.ok (.bl (treeOk p n s d)):=λn m s d ht hx hm e=>by
  obtain⟨m,rfl,hm⟩:=ex1 hm;rw[me,eY,gR ht hx,e];have:onF fvL (.fn i) (λi=>pf m i [d])=.ok (.bl (p d)):=by
   show (if fvL.contains i=true then pf m i [d] else R.stuck)=_
   grind
  simp[this]
 intro n
 induction n with
 | zero =>
  intro m s d hg hs hm;have ht:isTup d=false:=by cases d<;>first | rfl | (simp[good]at hg)
  exact flat 0 m s d ht (dC hg) (by omega) (by cases d<;>rfl)
 | succ n ih =>
  intro m s d hg hs hm;by_cases ht:isTup d=true
  ·cases d with
   | tup xs =>
    rw[good]at hg;rw[slim,Gj,Hi,He]at hs;obtain⟨m,rfl,hm⟩:=ex1 (show n+c+1+1<=m by omega);rw[me,eY];have hc:cMap (λpart=>(dSub (.int s) (.int 1)).bind λx1=>pf m F.aD [x1,part,.fn i]) xs=.ok (.lst (xs.map λd=>.bl (treeOk p n (s - 1) d))) :=
     BO _ λd hd=>by rw[bX,R.bind_ok];exact ih m (s - 1) d (df hg d hd) (hs.2 d hd) (by omega)
    simp only[kC,jY,pQ,Ka,gq,uD,bY,mS,R.bind_ok,qp,uf,zk (show xs.length<=16777216 by omega),hc,zp,treeOk];by_cases h0:s=0
    ·simp[h0]
    ·by_cases h4:xs.length=4
     ·simp[h0,h4]
     ·have h4':¬ ((xs.length:Int)=4):=by omega
      simp[h0,h4,h4']
   | _=>cases ht
  ·have ht':isTup d=false:=by simpa using ht
   exact flat (n+1) m s d ht' (dC hg) (by omega) (by cases d<;>first | rfl | (cases ht';done))
def sizedOk (p:D->Bool)(n:Nat):D->Bool
 | .tup [s,t]=>inTo 3 s&&(match s with
  | .int i=>treeOk p n i t
  | _=>false)
 | _=>false
theorem zu {c:Nat}{p:D->Bool}(hc:2<=c)(hi:fvL.contains i=true)(hp:∀ m d,c<=m->noX d=true->pf m i [d]=.ok (.bl (p d)))(n m:Nat)(d:D)(hg:good (n+1) d=true)(hs:slim (n+1) d=true)(hm:n+c+2<=m):pf m F.aB [d,.fn i]=.ok (.bl (sizedOk p n d)):=by
 obtain⟨m,rfl,hm⟩:=ex1 (show n+c+1+1<=m by omega);rw[kh,bD];by_cases ht:isTup d=true
 ·cases d with
  | tup xs =>
   rw[good]at hg;rw[slim,Gj,Hi,He]at hs;by_cases h2:xs.length=2
   ·match xs,h2 with
    | [a,b],_ =>
     have ga:=df hg a (by simp);have gb:=df hg b (by simp);have sb:=hs.2 b (by simp);have hz:pf m F.aI [a]=.ok (.bl (inTo 3 a)):=BV (by omega) (dC ga);simp only[kC,jY,pQ,Ka,mS,R.bind_ok,qp,ix20,ix21,uf,Gb,Hr,hz];cases a with
     | int v =>
      rw[BW hi hp n m v b gb sb (by omega)];by_cases hv:inTo 3 (.int v)=true
      ·simp[hv,sizedOk]
      ·have hv':inTo 3 (.int v)=false:=by simpa using hv
       simp[hv',sizedOk]
     | _=>simp[sizedOk,inTo]
   ·have h2':¬ ((xs.length:Int)=2):=by omega
    have e:sizedOk p n (.tup xs)=false:=by
     match xs,h2 with
     | [],_=>rfl
     | [_],_=>rfl
     | _::_::_::_,_=>rfl
    simp[h2',e]
  | _=>cases ht
 ·have ht':isTup d=false:=by simpa using ht
  rw[gR ht' (dC hg)];have e:sizedOk p n d=false:=by cases d<;>first | rfl | (cases ht';done)
  simp[e]
def scr (ns:List Int):D:=.lst (ns.map .int)
def cell (ns:List Int)(k:Nat):Int:=if k < ns.length then ns.getD k 0 else if ns=[] then 0 else ns.getD (k%ns.length) 0*31+k
def pk (ns:List Int)(k:Nat)(m:Int):Int :=
 let d:=(cell ns k+6151*((k:Int)+1))*40692%2147483399
 (d*d+d/31)%2147483629%m
theorem jC {k:Nat}{m:Int}(h:0 < m):0<=pk ns k m:=Int.emod_nonneg _ (by omega)
theorem jD {k:Nat}{m:Int}(h:0 < m):pk ns k m < m:=Int.emod_lt_of_pos _ h
theorem ph (n:Nat):∀ ns:List Int,goods n (ns.map .int)=true
 | []=>rfl
 | i::r=>by rw[F5,goods,ph n r];cases n<;>rfl
theorem BY (hn:1<=n)(ns:List Int)(k:Nat):pf n F.aO [scr ns,.int k]=.ok (.int (cell ns k)):=by
 obtain⟨n,rfl,hn⟩:=ex1 hn;rw[wJ,jn];unfold scr cell;by_cases h:k < ns.length
 ·have h':((k:Int) < (ns.length:Int)):=by omega
  have e0:=ixL (xs:=ns.map .int) (i:=k) (x:=.int (ns.getD k 0)) (by rw[Gu,Gq h];simp[List.getD,h]);simp only[STP,Gz,Gt,GD,Gy,reduceIte,reduceCtorEq,OPP,Gg,GG h',e0,if_pos h]
 ·have h':¬ ((k:Int) < (ns.length:Int)):=by omega
  cases ns with
  | nil =>
   have e1:dEq (.lst []) (.lst [])=.ok (.bl true):=rfl;have h2:¬ ((k:Int) < ((0:Nat):Int)):=by omega
   simp only[STP,Gz,Gt,GD,Gy,reduceIte,reduceCtorEq,OPP,Hd,Hr,Gh h2,e1,if_neg (Nat.not_lt_zero k)]
  | cons a r =>
   have hl:0 < (a::r).length:=by simp
   have hk:k%(a::r).length < (a::r).length:=Nat.mod_lt _ hl;have e1:dEq (.lst ((a::r).map .int)) (.lst [])=.ok (.bl false):=by
    rw[rZ (by rw[good];exact ph _ _) rfl]
    simp[eqD,eqDs]
   have e2:dMod (.int (k:Int)) (.int ((a::r).length:Int))=.ok (.int ((k%(a::r).length:Nat):Int)):=by
    rw[gQ (by omega)];rfl
   have e3:dIx (.lst ((a::r).map .int)) (.int ((k%(a::r).length:Nat):Int))=.ok (.int ((a::r).getD (k%(a::r).length) 0)) :=
    ixL (by rw[Gu,Gq hk,List.getD,Gq hk];rfl)
   have e4:=cH (a:=(a::r).getD (k%(a::r).length) 0) (b:=31) (.inl (by decide));simp only[STP,Gz,Gt,GD,Gy,reduceIte,reduceCtorEq,OPP,Gg,Gh h',e1,e2,e3,e4,if_neg h]
theorem lq (hn:2<=n)(ns:List Int)(k:Nat){m:Int}(hm:0 < m):pf n F.ab [scr ns,.int k,.int m]=.ok (.int (pk ns k m)):=by
 obtain⟨n,rfl,hn⟩:=ex1 hn;rw[wK,jo,BY (by omega)];simp only[R.bind_ok,aZ];rw[cH (.inr (by decide))];simp only[R.bind_ok,aZ];rw[cH (.inl (by decide))];simp only[R.bind_ok];rw[gQ (by decide)];simp only[gq];have h0:0<=(cell ns k+6151*((k:Int)+1))*40692%2147483399:=Int.emod_nonneg _ (by decide);have h1:(cell ns k+6151*((k:Int)+1))*40692%2147483399 < 2147483399:=Int.emod_lt_of_pos _ (by decide);rw[cH (.inl ⟨by omega,by omega⟩),zo (by decide) (by decide)];simp only[R.bind_ok,aZ];rw[gQ (by decide)];simp only[R.bind_ok];rw[gQ hm];rfl
theorem lr (hn:2<=n)(ns:List Int)(k:Nat){a m:Int}(ha:a=(k:Int))(hm:0 < m):pf n F.ab [scr ns,.int a,.int m]=.ok (.int (pk ns k m)):=by subst ha;exact lq hn ns k hm
def W9 (v:Int):Prop:=0<=v/\v<=9
def dleaf (ns:List Int)(k:Nat):Int:=[0,1,1,2,9,pk ns (k+1) 10].getD (pk ns (k+2) 6).toNat 0
def dt (ns:List Int):Nat->Nat->Q Int
 | 0,k=>.lf (dleaf ns k)
 | n+1,k=>if pk ns k 6 < 2 then .lf (dleaf ns k) else if pk ns k 6=2 then .nd (dt ns n (k+3)) (dt ns n (k+3)) (dt ns n (k+3)) (dt ns n (k+3)) else
  .nd (dt ns n (5*k+7)) (dt ns n (5*k+18)) (dt ns n (5*k+29)) (dt ns n (5*k+40))
theorem vc (ns:List Int)(k:Nat):W9 (dleaf ns k):=by
 unfold dleaf W9;have h0:=jC (ns:=ns) (k:=k+2) (m:=6) (by decide);have h1:=jD (ns:=ns) (k:=k+2) (m:=6) (by decide);have g0:=jC (ns:=ns) (k:=k+1) (m:=10) (by decide);have g1:=jD (ns:=ns) (k:=k+1) (m:=10) (by decide);obtain⟨j,hj⟩:∃ j:Nat,pk ns (k+2) 6=(j:Int):=⟨(pk ns (k+2) 6).toNat,by omega⟩;rw[hj]at h1 ⊢;have:j < 6:=by omega
 rcases j with _ | _ | _ | _ | _ | _ | j<;>first | (simp;done) | (simp;omega) | omega
theorem zv (ns:List Int):∀ n k,(dt ns n k).dep<=n
 | 0,k=>F7 _
 | n+1,k=>by
  rw[dt];have h1:=zv ns n;split
  ·exact GQ _
  ·split
   ·have:=h1 (k+3);simp only[Q.dep];omega
   ·have a:=h1 (5*k+7);have b:=h1 (5*k+18);have c:=h1 (5*k+29);have d:=h1 (5*k+40);simp only[Q.dep];omega
theorem zw (ns:List Int):∀ n k,(dt ns n k).All W9
 | 0,k=>vc ns k
 | n+1,k=>by
  rw[dt];have h1:=zw ns n;split
  ·exact vc ns k
  ·split
   ·exact⟨h1 _,h1 _,h1 _,h1 _⟩
   ·exact⟨h1 _,h1 _,h1 _,h1 _⟩
theorem r6 (hn:2<=n)(ns:List Int)(k:Nat):((((dAdd (.int (k:Int)) (.int 1)).bind λx=>pf n F.ab [scr ns,x,.int 10]).bind λx1=>.ok (.lst [.int 0,.int 1,.int 1,.int 2,.int 9,x1])).bind λx2=>((dAdd (.int (k:Int)) (.int 2)).bind λx3=>pf n F.ab [scr ns,x3,.int 6]).bind λx4=>dIx x2 x4)=.ok (.int (dleaf ns k)):=by
 simp only[aZ,R.bind_ok];rw[lr hn ns (k+1) (by omega) (by decide),lr hn ns (k+2) (by omega) (by decide)];simp only[R.bind_ok];have h0:=jC (ns:=ns) (k:=k+2) (m:=6) (by decide);have h1:=jD (ns:=ns) (k:=k+2) (m:=6) (by decide);unfold dleaf;obtain⟨j,hj⟩:∃ j:Nat,pk ns (k+2) 6=(j:Int):=⟨(pk ns (k+2) 6).toNat,by omega⟩;rw[hj]at h1 ⊢;have:j < 6:=by omega
 rcases j with _ | _ | _ | _ | _ | _ | j<;>first | rfl | omega
theorem rep4 (x:D):dMul (.tup [x]) (.int 4)=.ok (.tup [x,x,x,x]):=rfl
theorem rng4:rng1 [.int 4]=.ok [.int 0,.int 1,.int 2,.int 3]:=rfl
theorem zx (ns:List Int):∀ (s k n:Nat),s+3<=n->pf n F.au [scr ns,.int k,.int s]=.ok ((dt ns s k).d .int):=by
 intro s
 induction s with
 | zero =>
  intro k n hn;obtain⟨n,rfl,hn⟩:=ex1 (show 2+1<=n by omega);rw[o8,gA,lq (by omega) ns k (by decide)];simp only[gq];rw[r6 (by omega)]
  simp[dt,Q.d]
 | succ s ih =>
  intro k n hn;obtain⟨n,rfl,hn⟩:=ex1 (show s+3+1<=n by omega);rw[o8,gA,lq (by omega) ns k (by decide)];simp only[gq];rw[r6 (by omega)];have hs:¬ (((s+1:Nat):Int)=0):=by omega
  have hs1:((s+1:Nat):Int) - 1=(s:Int):=by omega
  have ih':∀ (a:Int) (j:Nat),a=(j:Int)->pf n F.au [scr ns,.int a,.int (s:Int)]=.ok ((dt ns s j).d .int):=λa j e=>by subst e;exact ih j n (by omega)
  rw[dt];by_cases h2:pk ns k 6 < 2
  ·simp only[STP,Gz,Gt,GD,Gy,reduceIte,reduceCtorEq,OPP,Gh hs,GG h2,if_pos h2,Q.d]
  ·by_cases h3:pk ns k 6=2
   ·have e:=ih' ((k:Int)+3) (k+3) (by omega);simp only[STP,Gz,Gt,GD,Gy,reduceIte,reduceCtorEq,OPP,Gh hs,Gh h2,GG h3,if_neg h2,if_pos h3,hs1,e,rep4,Q.d]
   ·have step:∀ (i:Nat) ,(((dMul (.int 5) (.int (k:Int))).bind λx9=>dAdd x9 (.int 7)).bind λx10=>(dMul (.int 11) (.int (i:Int))).bind λx11=>dAdd x10 x11).bind (λx12=>pf n F.au [scr ns,x12,.int (s:Int)])=.ok ((dt ns s (5*k+7+11*i)).d .int):=λi=>by
     rw[cH (.inr (by decide)),cH (.inr (by decide))];simp only[R.bind_ok,aZ];exact ih' _ _ (by omega)
    have e:cMap (λFq=>(((dMul (.int 5) (.int (k:Int))).bind λx9=>dAdd x9 (.int 7)).bind λx10=>(dMul (.int 11) Fq).bind λx11=>dAdd x10 x11).bind λx12=>pf n F.au [scr ns,x12,.int (s:Int)]) [.int 0,.int 1,.int 2,.int 3]=.ok (.lst [(dt ns s (5*k+7)).d .int,(dt ns s (5*k+18)).d .int,(dt ns s (5*k+29)).d .int,(dt ns s (5*k+40)).d .int]):=cMap4 (step 0) (step 1) (step 2) (step 3);simp only[STP,Gz,Gt,GD,Gy,reduceIte,reduceCtorEq,OPP,Gh hs,Gh h2,Gh h3,if_neg h2,if_neg h3,hs1,rng4];rw[e];rfl
structure Pc (sz:Nat)(t:Q Int):Prop where
 h3:sz<=3
 dep:t.dep<=sz
 all:t.All W9
def picD (sz:Nat)(t:Q Int):D:=.tup [.int (sz:Int),t.d .int]
abbrev Dm:=List (L2.Key×D)
variable {k m:Dm}
def Nk (m:Dm):Prop:=(m.map (·.1)).Nodup
def Sm (m k:Dm):Prop:=∀ x,dicGet m x=dicGet k x
section
variable {x y:L2.Key}{d:D}
theorem a9 (p:L2.Key×D)(m:Dm):dicGet (p::m) x=if p.1=x then some p.2 else dicGet m x:=by
 unfold dicGet;rw[GY];by_cases h:p.1=x
 ·rw[GG h,if_pos h];rfl
 ·rw[Gh h,if_neg h]
theorem qu:dicGet ([]:Dm) x=none:=rfl
theorem mW:∀ {m:Dm},dicGet m x=some d->(x,d)∈m
 | [],h=>nomatch h
 | p::m,h=>by
  rw[a9]at h;split at h
  ·rename_i e;cases h;subst e;exact .head _
  ·exact .tail _ (mW h)
theorem jE:∀ {m:Dm},Nk m->(x,d)∈m->dicGet m x=some d
 | [],_,h=>nomatch h
 | p::m,n,h=>by
  have n':p.1∉m.map (·.1)/\Nk m:=GO.mp n;rw[a9];cases h with
  | head=>rw[if_pos rfl]
  | tail _ h =>
   rw[if_neg λe=>n'.1 (by rw[e];exact GS (f:=(·.1)) h)];exact jE n'.2 h
theorem jF:(dicGet m x).isSome=true↔x∈m.map (·.1):=by
 constructor
 ·intro h;obtain⟨d,e⟩:=G5.mp h;exact GS (f:=(·.1)) (mW e)
 ·intro h
  induction m with
  | nil=>cases h
  | cons p m ih =>
   rw[a9]
   grind
theorem r8:dicGet m x=none↔x∉m.map (·.1):=by
 rw[<- jF]
 simp_all
theorem vd:dicGet (m++k) x=(dicGet m x).or (dicGet k x):=by
 induction m with
 | nil=>rfl
 | cons p m ih =>
  rw[Jw,a9,a9,ih];split<;>rfl
theorem lu:(m.any λp=>decide (p.1=x))=true↔x∈m.map (·.1):=by grind
theorem r9:(x∈m.map (·.1)/\(dicPut m x d).map (·.1)=m.map (·.1))\/(x∉m.map (·.1)/\(dicPut m x d).map (·.1)=m.map (·.1)++[x]):=by
 unfold dicPut;by_cases h:x∈m.map (·.1)
 ·refine .inl ⟨h,?_⟩;rw[if_pos (lu.mpr h),Ho];apply List.map_congr_left
  grind
 ·grind
theorem D5 (h:Nk m):Nk (dicPut m x d):=by
 unfold Nk;rcases r9 (m:=m) (x:=x) (d:=d) with ⟨_,e⟩ | ⟨q,e⟩
 ·rw[e];exact h
 ·rw[e,Ir];exact⟨h,by simp,λa ha b hb z=>by simp at hb;rw[hb]at z;rw[z]at ha;exact q ha⟩
theorem ve:dicGet (dicPut m x d) y=if y=x then some d else dicGet m y:=by
 unfold dicPut;split
 ·rename_i h;have hx:=lu.mp h
  clear h
  induction m with
  | nil=>cases hx
  | cons p m ih =>
   rw[F5,a9,a9];by_cases e:p.1=x
   ·rw[if_pos e];by_cases e2:y=x
    ·rw[if_pos e2,if_pos (e.trans e2.symm)]
    ·rw[if_neg e2,if_neg λz=>e2 (z.symm.trans e),if_neg λz=>e2 (z.symm.trans e)];by_cases q:x∈m.map (·.1)
     ·rw[ih q,if_neg e2]
     ·have:m.map (λp=>if p.1=x then (p.1,d) else p)=m:=by
       conv=>rhs;rw[<- List.map_id m]
       apply List.map_congr_left;intro a ha;rw[if_neg λz=>q (by rw[<- z];exact GS (f:=(·.1)) ha)];rfl
      rw[this]
   ·rw[if_neg e];rw[F5,Gi]at hx;have hx:=hx.resolve_left λz=>e z.symm
    by_cases e2:p.1=y
    ·rw[if_pos e2,if_pos e2,if_neg λz=>e (e2.trans z)]
    ·rw[if_neg e2,if_neg e2,ih hx]
 ·rename_i h;have hx:x∉m.map (·.1):=λz=>h (lu.mpr z)
  rw[vd,a9,qu];by_cases e:y=x
  ·rw[if_pos e,e,r8.mpr hx,if_pos rfl];rfl
  ·rw[if_neg e,if_neg λz=>e z.symm];cases dicGet m y<;>rfl
theorem vf (h:x∉m.map (·.1)):dicPut m x d=m++[(x,d)]:=by
 unfold dicPut;rw[if_neg λz=>h (lu.mp z)]
theorem jG:dicGet (dropD m x) y=if y=x then none else dicGet m y:=by
 unfold dropD
 induction m with
 | nil=>rw[List.filter_nil,qu];split<;>rfl
 | cons p m ih =>
  rw[G7];by_cases e:p.1=x
  ·rw[GG e,if_neg (by decide),ih,a9];by_cases e2:y=x
   ·rw[if_pos e2,if_pos e2]
   ·rw[if_neg e2,if_neg e2,if_neg λz=>e2 (z.symm.trans e)]
  ·rw[Gh e,if_pos (by decide),a9,ih,a9];by_cases e2:p.1=y
   ·rw[if_pos e2,if_pos e2,if_neg λz=>e (e2.trans z)]
   ·rw[if_neg e2,if_neg e2]
theorem kD:(dropD m x).map (·.1)=(m.map (·.1)).filter λy=>!decide (y=x):=by
 unfold dropD;rw[List.filter_map];rfl
theorem jH (h:Nk m):Nk (dropD m x):=by
 unfold Nk;rw[kD];exact h.filter _
theorem se:∀ {l acc:Dm},Nk (acc++l)->mergeD acc l=acc++l
 | [],acc,_=>(Gs acc).symm
 | p::l,acc,h=>by
  have e:acc++p::l=(acc++[p])++l:=by simp
  rw[e]at h ⊢;have q:p.1∉acc.map (·.1):=by
   unfold Nk at h;rw[Hs,Hs,Ir,Ir]at h;exact λz=>h.1.2.2 _ z p.1 (by simp) rfl
  show mergeD (dicPut acc p.1 p.2) l=_;rw[vf q];exact se h
theorem cE (m:Dm):(m.map (·.1)).zip (m.map (·.2))=m:=by
 induction m with
 | nil=>rfl
 | cons p m ih=>rw[F5,F5,List.zip_cons_cons,ih]
theorem pi:∀ (m:Dm),pairsD (m.map λp=>.tup [keyD p.1,p.2])=some m
 | []=>rfl
 | (a,b)::m=>by
  rw[F5];have e:keyOf (keyD a)=some a:=by cases a<;>rfl
  show (match keyOf (keyD a),pairsD (m.map λp=>.tup [keyD p.1,p.2]) with
   | some kk,some l=>some ((kk,b)::l)
   | _,_=>none)=_
  rw[e,pi m]
theorem mX (h:Nk m)(hl:m.length<=100000):dDictP [.lst (m.map λp=>.tup [keyD p.1,p.2])]=.ok (dicD m):=by
 show (match pairsD (m.map λp=>.tup [keyD p.1,p.2]) with
  | some m=>if m.length<=100000 then R.ok (dicD (mergeD [] m)) else .stuck
  | none=>.stuck)=_
 rw[pi];simp only;rw[if_pos hl,se (acc:=[]) h];rfl
theorem zy (hl:m.length<=100000):dItems (dicD m)=.ok (.lst (m.map λp=>.tup [keyD p.1,p.2])):=by
 show (if (m.map (·.1)).length=(m.map (·.2)).length/\(m.map (·.1)).length<=100000 then R.ok (D.lst (((m.map (·.1)).zip (m.map (·.2))).map λp=>D.tup [keyD p.1,p.2])) else .stuck)=_;rw[if_pos ⟨by simp,by simpa using hl⟩,cE]
theorem BZ (hl:m.length<=1000):asKeys (dicD m)=.ok (m.map λp=>keyD p.1):=by
 show (if (m.map (·.1)).length<=1000000 then R.ok ((m.map (·.1)).map keyD) else .stuck)=_;rw[if_pos (by rw[Gg];omega),Ho];rfl
theorem jI {s:Str}(h:dicGet m (.inr s)=some d):dDx (dicD m) (.str s)=.ok d:=by
 show (match dicGet ((m.map (·.1)).zip (m.map (·.2))) (.inr s) with
   | some d=>R.ok d
   | none=>.stuck)=_
 rw[cE,h]
theorem qv {s:Str}:dDin (.str s) (dicD m)=.ok (.bl (dicGet m (.inr s)).isSome):=by
 show R.ok (D.bl (dicGet ((m.map (·.1)).zip (m.map (·.2))) (.inr s)).isSome)=_;rw[cE]
theorem qw {s:Str}:dDnin (.str s) (dicD m)=.ok (.bl (!(dicGet m (.inr s)).isSome)):=by
 show R.ok (D.bl (!(dicGet ((m.map (·.1)).zip (m.map (·.2))) (.inr s)).isSome))=_;rw[cE]
theorem fb:dicOf (dicD m)=.ok m:=by
 show (if (m.map (·.1)).length=(m.map (·.2)).length then R.ok ((m.map (·.1)).zip (m.map (·.2))) else .stuck)=_;rw[if_pos (by simp),cE]
theorem jJ {s:Str}(hl:m.length<=1000):oDSt m (.str s) d=.ok (dicPut m (.inr s) d):=by
 show (if m.length < 1000000 then R.ok (dicPut m (.inr s) d) else .stuck)=_;rw[if_pos (by omega)]
theorem zA {s:Str}(h:(dicGet m (.inr s)).isSome=true):oDPop m (.str s)=.ok (dropD m (.inr s)):=by
 show (if (dicGet m (.inr s)).isSome=true then R.ok (dropD m (.inr s)) else .stuck)=_;rw[if_pos h]
theorem Sm.len (hm:Nk m)(hk:Nk k)(h:Sm m k):m.length=k.length:=by
 have p:(m.map (·.1)).Perm (k.map (·.1)):=(List.perm_ext_iff_of_nodup hm hk).mpr λa=>by rw[<- jF,<- jF,h a]
 simpa using p.length_eq
def Gd (m:Dm):Prop:=∀ p∈m,good 60 p.2=true
theorem pj (h:Gd m):goods 60 (m.map (·.2))=true:=by
 induction m with
 | nil=>rfl
 | cons p m ih =>
  show (good 60 p.2&&goods 60 (m.map (·.2)))=true;rw[h p (.head _),ih λq hq=>h q (.tail _ hq)];rfl
theorem D6 (hm:Nk m)(hk:Nk k)(gm:Gd m)(gk:Gd k)(h:Sm m k):dDNe (dicD m) (dicD k)=.ok (.bl false):=by
 show (if ((m.map (·.1)).length=(m.map (·.2)).length/\(k.map (·.1)).length=(k.map (·.2)).length)/\goods 60 (m.map (·.2))=true/\goods 60 (k.map (·.2))=true then R.ok (D.bl (!dicEq ((m.map (·.1)).zip (m.map (·.2))) ((k.map (·.1)).zip (k.map (·.2))))) else .stuck)=_;rw[if_pos ⟨⟨by simp,by simp⟩,pj gm,pj gk⟩,cE,cE];have e:dicEq m k=true:=by
  unfold dicEq;rw[Sm.len hm hk h,Gj];refine⟨by simp,?_⟩;rw[He];intro p hp;have:=jE (x:=p.1) (d:=p.2) hm hp;rw[<- h,this];exact FF.gn 60 _ (gm p hp)
 rw[e];rfl
end
def Up (L:List Str):Prop:=L.Pairwise λa b=>leT a b=true/\leT b a=false
theorem kO:∀ {L:List Str} {x:Str} {p:Str->Bool},Up L->L.Nodup->x∈L->p x=false->insT x (L.filter p)=L.filter λy=>decide (y=x)||p y
 | [],x,p,_,_,h,_=>nomatch h
 | y::L,x,p,u,n,h,hp=>by
  have u':=G8.mp u;have n':=GO.mp n;by_cases e:y=x
  ·subst e;have e1:(y::L).filter p=L.filter p:=by rw[G7,if_neg (by rw[hp];decide)]
   have e2:(L.filter λz=>decide (z=y)||p z)=L.filter p:=by
    apply Ji;intro z hz;rw[Gh (λq:z=y=>n'.1 (by rw[<- q];exact hz))];rfl
   rw[e1,G7,if_pos (by simp),e2];cases q:L.filter p with
   | nil=>rfl
   | cons z r =>
    have hz:z∈L:=(HF.mp (q ▸ GZ)).1;show (if leT y z=true then y::z::r else z::insT y r)=_;rw[if_pos (u'.1 z hz).1]
  ·have hx:x∈L:=by
    cases h with
    | head=>exact absurd rfl e
    | tail _ h=>exact h
   have ih:=kO (p:=p) u'.2 n'.2 hx hp;rw[G7,G7];by_cases py:p y=true
   ·rw[if_pos py,if_pos (by rw[py];simp)];show (if leT x y=true then x::y::L.filter p else y::insT x (L.filter p))=_;rw[if_neg (by rw[(u'.1 x hx).2];decide),ih]
   ·rw[if_neg py,if_neg (by rw[Gh e];simpa using py),ih]
theorem jK {L:List Str}(u:Up L)(n:L.Nodup):∀ {ss:List Str},ss.Nodup->(∀ s∈ss,s∈L)->sortT ss=L.filter λy=>decide (y∈ss)
 | [],_,_=>by
  rw[List.filter_eq_nil_iff.mpr]
  ·rfl
  ·intro a _;simp
 | x::r,hn,hs=>by
  have n':=GO.mp hn;show insT x (sortT r)=_;rw[jK u n n'.2 λs h=>hs s (.tail _ h),kO u n (hs x (.head _)) (Gh n'.1)];apply Ji;intro y _;simp only[Gi,Bool.decide_or]
def namesOf (L:List Str)(m:Dm):List Str:=L.filter λs=>(dicGet m (.inr s)).isSome
def Kin (L:List Str)(m:Dm):Prop:=∀ x∈m.map (·.1),∃ s∈L,x=.inr s
theorem kP:∀ (ss:List Str),textsOf (ss.map .inr)=some ss
 | []=>rfl
 | s::r=>by show (textsOf (r.map .inr)).map (s::·)=_;rw[kP r];rfl
theorem kE {L:List Str}:∀ {ks:List L2.Key},(∀ x∈ks,∃ s∈L,x=.inr s)->∃ ss:List Str,ks=ss.map .inr/\∀ s∈ss,s∈L
 | [],_=>⟨[],rfl,λ_ h=>nomatch h⟩
 | x::ks,h=>by
  obtain⟨s,hs,rfl⟩:=h x (.head _);obtain⟨ss,rfl,hss⟩:=kE λy hy=>h y (.tail _ hy)
  exact⟨s::ss,rfl,λt ht=>by cases ht with | head=>exact hs | tail _ ht=>exact hss t ht⟩
theorem fX {α β:Type}{f:α->β}:∀ {l:List α},(l.map f).Nodup->l.Nodup
 | [],_=>IT
 | a::l,h=>by
  have h':=GO.mp h;exact GO.mpr ⟨λz=>h'.1 (GS z),fX h'.2⟩
theorem iZ:∀ {ss L:List Str},ss.Nodup->(∀ s∈ss,s∈L)->ss.length<=L.length
 | [],_,_,_=>GQ _
 | s::ss,L,n,h=>by
  have n':=GO.mp n;have hs:=h s (.head _);have:=iZ (L:=L.erase s) n'.2 λt ht=>(List.mem_erase_of_ne (λe:t=s=>n'.1 (by rw[<- e];exact ht))).mpr (h t (.tail _ ht))
  rw[List.length_erase_of_mem hs]at this;have:=List.length_pos_of_mem hs;rw[Gb];omega
theorem zB {L:List Str}(u:Up L)(n:L.Nodup)(h:Nk m)(hk:Kin L m)(hl:L.length < 64):dSortD [dicD m]=.ok (.lst ((namesOf L m).map .str)):=by
 obtain⟨ss,e,hs⟩:=kE hk;have nd:ss.Nodup:=by
  have h':(m.map (·.1)).Nodup:=h;rw[e]at h';exact fX h'
 show (match textsOf (m.map (·.1)) with
  | some ss=>if ss.length < 64 then R.ok (D.lst ((sortT ss).map .str)) else .stuck
  | none=>.stuck)=_
 rw[e,kP];simp only;have len:ss.length<=L.length:=iZ nd hs;rw[if_pos (by omega),jK u n nd hs]
 congr 3
 apply Ji;intro y _;rw[JE,jF,e]
 simp
theorem gS {L:List Str}{s:Str}(h:s∈namesOf L m):s∈L/\∃ d,dicGet m (.inr s)=some d:=by
 obtain⟨a,b⟩:=HF.mp h;exact⟨a,G5.mp b⟩
theorem vg (l:List Str)(h:l.length<=1000):sq (.lst (l.map .str))=.ok (l.map .str):=zl (by rw[Gg];omega)
theorem pp:∀ (l:List Str),goods 59 (l.map .str)=true
 | []=>rfl
 | s::l=>by show (good 59 (.str s)&&goods 59 (l.map .str))=true;rw[pp l];rfl
def All (P:Wd->D->Prop):RW->Prop
 | .ok w d=>P w d
 | .er _ _=>False
 | .al w f=>∀ a,w a=none->All P (f a)
 | .stuck=>False
theorem All.lwB {P P':Wd->D->Prop}{k:Wd->D->LW Unit}(hk:∀ w d,P w d->All P' (outW (k w d))):∀ {r:RW},All P r->All P' (outW (lwB r k))
 | .ok w d,h=>hk w d h
 | .er _ _,h=>h.elim
 | .al w f,h=>λa e=>All.lwB hk (h a e)
 | .stuck,h=>h.elim
theorem All.rwB {P P':Wd->D->Prop}{k:Wd->D->RW}(hk:∀ w d,P w d->All P' (k w d)):∀ {r:RW},All P r->All P' (rwB r k)
 | .ok w d,h=>hk w d h
 | .er _ _,h=>h.elim
 | .al w f,h=>λa e=>All.rwB hk (h a e)
 | .stuck,h=>h.elim
abbrev tx (s:String):D:=.str (PySem.Str.ofString s)
abbrev nSt:Str:=PySem.Str.ofString "steps"
abbrev nPg:Str:=PySem.Str.ofString "pages"
abbrev nPl:Str:=PySem.Str.ofString "place"
theorem aV (w:Wd)(d:D):rwR w (.ok d)=.ok w d:=rfl
theorem zE (w:Wd)(j:Nat):rwR w (.err j)=.er w j:=rfl
theorem ai {α:Type}(w:Wd)(a:α)(k:α->RW):rwA w (.ok a) k=k a:=rfl
theorem au {α σ:Type}(w:Wd)(a:α)(k:α->LW σ):lwR w (.ok a) k=k a:=rfl
theorem aW {σ:Type}(w:Wd)(d:D)(k:Wd->D->LW σ):lwB (.ok w d) k=k w d:=rfl
theorem aI (w:Wd)(a:Nat)(o:OC):wput w a o a=some o:=if_pos rfl
theorem av {w:Wd}{a b:Nat}{o:OC}(h:b≠a):wput w a o b=w b:=if_neg h
theorem az {c:Nat}{w:Wd}{f:Str}{a:Nat}{fs:List (Str×D)}(h:w a=some (.ins c fs))(hf:fs.lookup f=some x):dFld c w f (.ptr a)=.ok x:=by
 show (match w a with | some (.ins c' fs)=>if c'=c then match fs.lookup f with | some x=>R.ok x | none=>.stuck else .stuck | _=>.stuck)=_
 grind
theorem cB {c:Nat}{w:Wd}{f:Str}{a:Nat}{fs:List (Str×D)}{d:D}{σ:Type}{k:Wd->LW σ}(h:w a=some (.ins c fs))(hl:fs.length < 900):wFld c w f (.ptr a) d k=k (wput w a (.ins c (putD f d fs))):=by
 show (match w a with | some (.ins c' fs)=>if c'=c/\fs.length < 900 then k (wput w a (.ins c (putD f d fs))) else .stuck | _=>.stuck)=_
 grind
theorem bI {c:Nat}{w:Wd}{m:Str}{a:Nat}{fs:List (Str×D)}{k:R D}(h:w a=some (.ins c fs))(hf:fs.lookup m=none):rM c m w (.ptr a) k=k:=by
 show (match w a with | some (.ins c' fs)=>if c'=c/\fs.lookup m=none then k else .stuck | _=>.stuck)=_
 grind
theorem aK {c:Nat}{w:Wd}{m:Str}{a:Nat}{fs:List (Str×D)}{k:RW}(h:w a=some (.ins c fs))(hf:fs.lookup m=none):rwM c m w (.ptr a) k=k:=by
 show (match w a with | some (.ins c' fs)=>if c'=c/\fs.lookup m=none then k else .stuck | _=>.stuck)=_
 grind
theorem zF (i:Int):asI (.int i)=.ok (some i):=rfl
theorem B0 {xs:List D}{a:Nat}(h:a<=xs.length):cutD xs none (some ((a:Nat):Int))=xs.take a:=by
 unfold cutD;have e:HT.sIx xs.length xs.length (some (a:Int))=a:=by
  show (if ((a:Int) < 0) then (((a:Int)+(xs.length:Int)).toNat) else min ((a:Int).toNat) xs.length)=a
  grind
 rw[e,HT.xB]
 simp
def stO (pg:List D)(i:Int):OC:=.ins 12 [(nPg,.lst pg),(nPl,.int i)]
structure PW (w:Wd)(p s:Nat)(pg:List D)(i:Nat):Prop where
 hp:w p=some (.ins 13 [(nSt,.ptr s)])
 hs:w s=some (stO pg i)
 ne:p≠s
def onW (w:Wd)(s:Nat)(pg:List D)(i:Nat)(d:D):Wd:=wput (wput w s (stO pg ((i:Int)+1))) s (stO (pg.take (i+1)++[d]) ((i:Int)+1))
def atW (w:Wd)(s:Nat)(pg:List D)(j:Int):Wd:=wput w s (stO pg j)
section
variable {w:Wd}{p:Nat}{pg:List D}{d:D}
theorem qx (h:PW w p s pg i)(hi:pg[i]?=some d):pr (n+1) M.uqp w [.ptr s]=.ok d:=by
 rw[nF,cW,az (x:=.lst pg) h.hs rfl,R.bind_ok,az (x:=.int (i:Int)) h.hs rfl,R.bind_ok,ixL hi];rfl
theorem zG (h:PW w p s pg i):pr (n+1) M.ujn w [.ptr s]=.ok (.tup [.int (i:Int),.int ((pg.length:Int) - 1 - (i:Int))]):=by
 rw[ml,cu,az (x:=.int (i:Int)) h.hs rfl,R.bind_ok,az (x:=.lst pg) h.hs rfl,R.bind_ok,jA,R.bind_ok,bX,R.bind_ok,R.bind_ok,bX];rfl
theorem xb (h:PW w p s pg i):pr (n+2) M.uqx w [.ptr p]=.ok (.tup [.int (i:Int),.int ((pg.length:Int) - 1 - (i:Int))]):=by
 rw[mr,cA,az (x:=.ptr s) h.hp rfl,R.bind_ok,bI h.hs rfl,zG h];rfl
theorem CF (h:PW w p s pg i)(hi:i < pg.length)(hl:pg.length<=1000)(d:D):pw (n+1) M.uqu w [.ptr s,d]=.ok (onW w s pg i d) .non:=by
 have e1:wput w s (stO pg ((i:Int)+1)) s=some (stO pg ((i:Int)+1)):=aI _ _ _;have c1:cutD pg none (some ((i:Int)+1))=pg.take (i+1):=by
  have:=B0 (xs:=pg) (a:=i+1) (by omega);rw[<- this];rfl
 have sl:dSwL (.lst pg) none (some ((i:Int)+1))=.ok (.lst (pg.take (i+1))):=by show R.ok (D.lst (cutD pg none (some ((i:Int)+1))))=_;rw[c1]
 have ad:dAdd (.lst (pg.take (i+1))) (.lst [d])=.ok (.lst (pg.take (i+1)++[d])):=by
  show (if (pg.take (i+1)).length+[d].length<=16777216 then _ else _)=_;rw[if_pos (by rw[HM,JT];omega)]
 rw[mi,cq,az (x:=.int (i:Int)) h.hs rfl,R.bind_ok,aZ];simp only[aV,aW];rw[cB h.hs (by show 2 < 900;decide)];show outW (lwB (rwR (wput w s (stO pg ((i:Int)+1))) (((dFld 12 (wput w s (stO pg ((i:Int)+1))) nPg (.ptr s)).bind λx1=>((dFld 12 (wput w s (stO pg ((i:Int)+1))) nPl (.ptr s)).bind asI).bind λi=>dSwL x1 none i).bind λx2=>dAdd x2 (.lst [d]))) _)=_;rw[az (x:=.lst pg) e1 rfl,R.bind_ok,az (x:=.int ((i:Int)+1)) e1 rfl,R.bind_ok,zF,R.bind_ok,sl,R.bind_ok,ad];simp only[aV,aW];rw[cB e1 (by show 2 < 900;decide)];rfl
theorem PW.on (h:PW w p s pg i)(d:D):PW (onW w s pg i d) p s (pg.take (i+1)++[d]) (i+1) :=
 ⟨by unfold onW;rw[av h.ne,av h.ne];exact h.hp,by unfold onW;rw[aI];rfl,h.ne⟩
theorem PW.at_ (h:PW w p s pg i)(j:Nat):PW (atW w s pg (j:Int)) p s pg j:=⟨by unfold atW;rw[av h.ne];exact h.hp,by unfold atW;rw[aI],h.ne⟩
variable {wd nm z:D}
theorem ii (h:PW w p s pg i)(hi:pg[i]?=some (.tup [wd,d])):pr (n+2) M.uqg w [.ptr p]=.ok d:=by
 rw[jt,bo,az (x:=.ptr s) h.hp rfl,R.bind_ok,bI h.hs rfl,qx h hi];rfl
theorem ug (h:PW w p s pg i)(hi:pg[i]?=some (.tup [wd,d]))(hl:pg.length<=1000){m:List (L2.Key×D)}(hm:dicOf d=.ok m)(hs:oDSt m nm x=.ok m')(v:D):pw (n+3) M.uqm w [.ptr p,v,nm,x]=.ok (onW w s pg i (.tup [v,dicD m'])) .non:=by
 rw[mn,cx,bI h.hp rfl,ii (n:=n) h hi,R.bind_ok,hm,au,hs,au,az (x:=.ptr s) h.hp rfl,ai,aK h.hs rfl];show outW (lwB (pw (n+2) M.uqu w [.ptr s,.tup [v,dicD m']]) _)=_;rw[CF h (Gc.mp hi).1 hl];rfl
theorem qy (h:PW w p s pg i)(hi:pg[i]?=some (.tup [wd,d]))(hl:pg.length<=1000){m:List (L2.Key×D)}(hx:pf (n+3) F.aC [x]=.ok y)(hn:pf (n+3) F.ac [nm]=.ok z){b:D}(hd:dDin nm d=.ok b)(hm:dicOf d=.ok m)(hs:oDSt m nm y=.ok m') :
  pw (n+4) M.uqj w [.ptr p,nm,x]=.ok (onW w s pg i (.tup [tx "put",dicD m'])) b:=by
 rw[qd,dM,hx,au,hn,aV,aW,bI h.hp rfl,ii (n:=n+1) h hi,R.bind_ok,hd,au,ai,aK h.hp rfl];show outW (lwB (pw (n+3) M.uqm w [.ptr p,tx "put",nm,y]) _)=_;rw[ug h hi hl hm hs];rfl
theorem zH (h:PW w p s pg i)(hi:pg[i]?=some (.tup [wd,d]))(hn:pf (n+2) F.aG [nm]=.ok (.bl true))(hd:dDnin nm d=.ok (.bl true)):pr (n+3) M.uqa w [.ptr p,nm]=.err 11:=by
 rw[cK,aJ,hn,bI h.hp rfl,ii (n:=n) h hi,R.bind_ok,hd];rfl
theorem D7 (h:PW w p s pg i)(hi:pg[i]?=some (.tup [wd,d]))(hn:pf (n+2) F.aG [nm]=.ok (.bl true))(hd:dDnin nm d=.ok (.bl false))(hx:dDx d nm=.ok x):pr (n+3) M.uqa w [.ptr p,nm]=.ok x:=by
 rw[cK,aJ,hn,bI h.hp rfl,ii (n:=n) h hi,R.bind_ok,hd,R.bind_ok,hx];rfl
theorem zI (h:PW w p s pg i)(hp:pr n M.uqa w [.ptr p,nm]=.err j):pw (n+1) M.uqn w [.ptr p,nm]=.er w j:=by
 rw[iz,bQ,bI h.hp rfl];show outW (lwR w (pr n M.uqa w [.ptr p,nm]) _)=_;rw[hp];rfl
theorem B1 (h:PW w p s pg i)(hi:pg[i]?=some (.tup [wd,d]))(hl:pg.length<=1000)(hp:pr (n+2) M.uqa w [.ptr p,nm]=.ok x){m:List (L2.Key×D)}(hm:dicOf d=.ok m)(hs:oDPop m nm=.ok m'):pw (n+3) M.uqn w [.ptr p,nm]=.ok (onW w s pg i (.tup [tx "take",dicD m'])) x:=by
 rw[iz,bQ,bI h.hp rfl];show outW (lwR w (pr (n+2) M.uqa w [.ptr p,nm]) _)=_;rw[hp,au,bI h.hp rfl,ii (n:=n) h hi,R.bind_ok,hm,au,hs,au,az (x:=.ptr s) h.hp rfl,ai,aK h.hs rfl];show outW (lwB (pw (n+2) M.uqu w [.ptr s,.tup [tx "take",dicD m']]) _)=_;rw[CF h (Gc.mp hi).1 hl];rfl
theorem zJ (h:PW w p s pg i)(hp:pr n M.uqa w [.ptr p,nm]=.err j):pw (n+1) M.uqi w [.ptr p,nm,x]=.er w j:=by
 rw[dU,bp,bI h.hp rfl];show outW (lwR w ((pr n M.uqa w [.ptr p,nm]).bind _) _)=_;rw[hp];rfl
theorem zK (h:PW w p s pg i)(hp:pr n M.uqa w [.ptr p,nm]=.ok y)(hw:pf n F.ah [y,x]=.err j):pw (n+1) M.uqi w [.ptr p,nm,x]=.er w j:=by
 rw[dU,bp,bI h.hp rfl];show outW (lwR w ((pr n M.uqa w [.ptr p,nm]).bind _) _)=_;rw[hp,R.bind_ok,hw];rfl
theorem B2 (h:PW w p s pg i)(hi:pg[i]?=some (.tup [wd,d]))(hl:pg.length<=1000)(hp:pr (n+3) M.uqa w [.ptr p,nm]=.ok y)(hw:pf (n+3) F.ah [y,x]=.ok z){m:List (L2.Key×D)}(hm:dicOf d=.ok m)(hs:oDSt m nm z=.ok m'):pw (n+4) M.uqi w [.ptr p,nm,x]=.ok (onW w s pg i (.tup [tx "move",dicD m'])) z:=by
 rw[dU,bp,bI h.hp rfl];show outW (lwR w ((pr (n+3) M.uqa w [.ptr p,nm]).bind _) _)=_;rw[hp,R.bind_ok,hw,au,ai,aK h.hp rfl];show outW (lwB (pw (n+3) M.uqm w [.ptr p,tx "move",nm,z]) _)=_;rw[ug h hi hl hm hs];rfl
variable {ru a b:D}
theorem zL (hr:pf n F.aa [ru]=.err j):pw (n+1) M.uqe w [.ptr p,nm,ru,a,b]=.er w j:=by
 rw[iA,bR,hr];rfl
theorem lw (h:PW w p s pg i)(hr:pf n F.aa [ru]=.ok x)(hn:pf n F.ac [nm]=.ok y):pw (n+1) M.uqe w [.ptr p,nm,ru,a,b]=outW (lwR w ((pr n M.uqa w [.ptr p,a]).bind λx=>(pr n M.uqa w [.ptr p,b]).bind λx1=>pf n F.ad [ru,x,x1]) λKk=>lwB (pw n M.uqm w [.ptr p,tx "join",nm,Kk]) λw2 _=>(.rt w2 Kk:LW Unit)):=by
 rw[iA,bR,hr,aV,aW,hn,aV,aW,bI h.hp rfl,bI h.hp rfl];refine GA outW (GA _ (funext λKk=>?_));rw[ai,aK h.hp rfl];rfl
theorem B3 (h:PW w p s pg i)(hr:pf n F.aa [ru]=.ok x)(hn:pf n F.ac [nm]=.ok y)(ha:pr n M.uqa w [.ptr p,a]=.err j):pw (n+1) M.uqe w [.ptr p,nm,ru,a,b]=.er w j:=by
 rw[lw h hr hn,ha];rfl
theorem B4 (h:PW w p s pg i)(hr:pf n F.aa [ru]=.ok x)(hn:pf n F.ac [nm]=.ok y)(ha:pr n M.uqa w [.ptr p,a]=.ok u)(hb:pr n M.uqa w [.ptr p,b]=.err j):pw (n+1) M.uqe w [.ptr p,nm,ru,a,b]=.er w j:=by
 rw[lw h hr hn,ha,hb];rfl
theorem B5 (h:PW w p s pg i)(hr:pf n F.aa [ru]=.ok x)(hn:pf n F.ac [nm]=.ok y){v:D}(ha:pr n M.uqa w [.ptr p,a]=.ok u)(hb:pr n M.uqa w [.ptr p,b]=.ok v)(hj:pf n F.ad [ru,u,v]=.err j):pw (n+1) M.uqe w [.ptr p,nm,ru,a,b]=.er w j:=by
 rw[lw h hr hn,ha,hb,R.bind_ok,R.bind_ok,hj];rfl
theorem B7 (h:PW w p s pg i)(hi:pg[i]?=some (.tup [wd,d]))(hl:pg.length<=1000)(hr:pf (n+3) F.aa [ru]=.ok x)(hn:pf (n+3) F.ac [nm]=.ok y){v:D}(ha:pr (n+3) M.uqa w [.ptr p,a]=.ok u)(hb:pr (n+3) M.uqa w [.ptr p,b]=.ok v)(hj:pf (n+3) F.ad [ru,u,v]=.ok z)
  {m:List (L2.Key×D)} (hm:dicOf d=.ok m) (hs:oDSt m nm z=.ok m'):pw (n+4) M.uqe w [.ptr p,nm,ru,a,b]=.ok (onW w s pg i (.tup [tx "join",dicD m'])) z:=by
 rw[lw h hr hn,ha,hb,R.bind_ok,R.bind_ok,hj,au,ug h hi hl hm hs];rfl
theorem zM (h:PW w p s pg i)(hi:pg[i]?=some (.tup [wd,d]))(hd:dSortD [d]=.ok x):pr (n+3) M.uq0 w [.ptr p]=.ok x:=by
 rw[mo,cy,bI h.hp rfl,ii (n:=n) h hi,R.bind_ok,hd];rfl
end
theorem sf (h:W s=some (.ins 12 []))(d:D):pw (n+1) M.uqs W [.ptr s,d]=.ok (wput (wput W s (.ins 12 [(nPg,.lst [d])])) s (stO [d] 0)) .non:=by
 rw[nE,cU,aV,aW,cB h (by decide),aV,aW];rw[cB (aI W s (.ins 12 (putD "pages" (.lst [d]) []))) (by show 1 < 900;decide)];rfl
section
variable {α:Type}[DecidableEq α]{e:α->D}
theorem ij:∀ {n m:Nat} {d:D},good n d=true->n<=m->good m d=true
 | n,m,.non,_,_=>by cases m<;>rfl
 | n,m,.bl _,_,_=>by cases m<;>rfl
 | n,m,.int _,_,_=>by cases m<;>rfl
 | n,m,.str _,_,_=>by cases m<;>rfl
 | n,m,.exc _,h,_=>by cases n<;>simp[good]at h
 | n,m,.fn _,h,_=>by cases n<;>simp[good]at h
 | 0,m,.tup _,h,_=>by simp[good]at h
 | 0,m,.lst _,h,_=>by simp[good]at h
 | n+1,0,.tup _,_,l=>by omega
 | n+1,0,.lst _,_,l=>by omega
 | n+1,m+1,.tup xs,h,l=>by
  rw[good]at h ⊢;exact mV λd hd=>ij (n:=n) (df h d hd) (by omega)
 | n+1,m+1,.lst xs,h,l=>by
  rw[good]at h ⊢;exact mV λd hd=>ij (n:=n) (df h d hd) (by omega)
theorem zN (E:En e)(hn:1<=n){a b c d:Q α}(ha:a.dep<=50)(hb:b.dep<=50)(hc:c.dep<=50)(hd:d.dep<=50):pf n F.aw [.tup [a.d e,b.d e,c.d e,d.d e]]=.ok ((put4 a b c d).d e):=by
 obtain⟨n,rfl,hn⟩:=ex1 hn;rw[kX,bN];cases a with
 | nd a1 a2 a3 a4=>simp only[STP,Gz,Gt,GD,Gy,reduceIte,reduceCtorEq,OPP,Q.d,put4]
 | lf v =>
  have e1:dIsA qTup (Q.d e (.lf v))=.ok (.bl false):=gR (E.tup v) (dC (E.gd 0 v));have gv:good 59 (e v)=true:=E.gd 59 v;have e2:dEq (.tup [Q.d e (.lf v),b.d e,c.d e,d.d e]) (.tup [Q.d e (.lf v),Q.d e (.lf v),Q.d e (.lf v),Q.d e (.lf v)])=.ok (.bl (decide (b=.lf v)&&(decide (c=.lf v)&&decide (d=.lf v)))):=by
   rw[rZ]
   ·rw[eqD,eqDs,eqDs,eqDs,eqDs,eqDs,Q.eqd E,Q.eqd E,Q.eqd E,Q.eqd E]
    simp
   ·rw[good,goods,goods,goods,goods,goods,ij (Q.gd E 50 b hb) (by decide),ij (Q.gd E 50 c hc) (by decide),ij (Q.gd E 50 d hd) (by decide),Q.d,gv];rfl
   ·rw[good,goods,goods,goods,goods,goods,Q.d,gv];rfl
  simp only[STP,Gz,Gt,GD,Gy,reduceIte,reduceCtorEq,OPP,e1,e2];unfold put4;by_cases hb':b=.lf v
  ·by_cases hc':c=.lf v
   ·by_cases hd':d=.lf v
    ·simp[hb',hc',hd']
    ·simp[hb',hc',hd',Q.d]
   ·simp[hb',hc',Q.d]
  ·simp[hb',Q.d]
theorem gT (E:En e):∀ (t:Q α) (n:Nat),t.dep<=40->t.dep+2<=n->pf n F.aA [t.d e]=.ok (t.lean.d e)
 | .lf a,n,_,hn=>by
  obtain⟨n,rfl,hn⟩:=ex1 (show 1+1<=n by omega);rw[jq,cF];have e1:dIsA qTup (Q.d e (.lf a))=.ok (.bl false):=gR (E.tup a) (dC (E.gd 0 a));simp only[STP,Gz,Gt,GD,Gy,reduceIte,reduceCtorEq,e1,Q.lean]
 | .nd a b c d,n,hd,hn=>by
  have hd':1+max (max a.dep b.dep) (max c.dep d.dep)<=40:=hd;have hn':1+max (max a.dep b.dep) (max c.dep d.dep)+2<=n:=hn;obtain⟨n,rfl,hn⟩:=ex1 (show max (max a.dep b.dep) (max c.dep d.dep)+2+1<=n by omega);rw[jq,cF];have ka:=gT E a n (by omega) (by omega);have kb:=gT E b n (by omega) (by omega);have kc:=gT E c n (by omega) (by omega);have kd:=gT E d n (by omega) (by omega);have hm:cMap (λpart=>pf n F.aA [part]) [a.d e,b.d e,c.d e,d.d e]=.ok (.lst [a.lean.d e,b.lean.d e,c.lean.d e,d.lean.d e]):=cMap4 ka kb kc kd;have hp:=zN E (n:=n) (by omega) (a:=a.lean) (b:=b.lean) (c:=c.lean) (d:=d.lean) (jz (n:=50) (by omega)) (jz (n:=50) (by omega)) (jz (n:=50) (by omega)) (jz (n:=50) (by omega));rw[Q.d];simp only[STP,Gz,Gt,GD,Gy,reduceIte,reduceCtorEq,OPP,sq4,hm,hp,Q.lean]
theorem vh:∀ {n:Nat} {d:D},isTup d=false->isLst d=false->slim n d=true
 | 0,d,_,_=>by cases d<;>rfl
 | n+1,d,h,h'=>by cases d<;>first | rfl | (cases h;done) | (cases h';done)
theorem mY (hl:∀ a,isLst (e a)=false)(E:En e):∀ (n:Nat) (t:Q α),slim n (t.d e)=true
 | n,.lf a=>vh (E.tup a) (hl a)
 | 0,.nd ..=>rfl
 | n+1,.nd a b c d=>by
  rw[Q.d,Lw.slim];simp only[HQ,Ki,mY hl E n a,mY hl E n b,mY hl E n c,mY hl E n d,Gb,Hr];rfl
theorem mZ {p:D->Bool}(E:En e):∀ (m:Nat) (s:Nat) (t:Q α),t.dep<=m->t.dep<=s->t.All (λa=>p (e a)=true)->treeOk p m s (t.d e)=true
 | m,s,.lf a,_,_,h=>by
  have:treeOk p m s (e a)=p (e a):=by
   have:=E.tup a;cases m with
   | zero=>cases e a<;>rfl
   | succ m=>cases q:e a<;>first | rfl | (rw[q]at this;cases this)
  exact this.trans h
 | 0,s,.nd a b c d,h,_,_=>by simp[Q.dep]at h
 | m+1,0,.nd a b c d,_,h,_=>by simp[Q.dep]at h
 | m+1,s+1,.nd a b c d,h,h',Ku=>by
  have h1:1+max (max a.dep b.dep) (max c.dep d.dep)<=m+1:=h;have h2:1+max (max a.dep b.dep) (max c.dep d.dep)<=s+1:=h';rw[Q.d,Lw.treeOk,show ((s+1:Nat):Int) - 1=(s:Int) by omega];have h0:((s+1:Nat):Int)≠0:=by omega
  simp only[HQ,Ki,mZ E m s a (by omega) (by omega) Ku.1,mZ E m s b (by omega) (by omega) Ku.2.1,mZ E m s c (by omega) (by omega) Ku.2.2.1,mZ E m s d (by omega) (by omega) Ku.2.2.2,Gb,Hr,GG h0];rfl
end
theorem jL {α:Type}{p q:α->Prop}(h:∀ a,p a->q a):∀ {t:Q α},t.All p->t.All q
 | .lf a,x=>h a x
 | .nd _ _ _ _,x=>⟨jL h x.1,jL h x.2.1,jL h x.2.2.1,jL h x.2.2.2⟩
theorem in9 (h:W9 v):inTo 9 (.int v)=true:=by simp[inTo,h.1,h.2]
theorem zP:fvL.contains F.ay=true:=by decide
theorem zQ {m:Nat}{d:D}(hg:good (m+1) d=true)(hs:slim (m+1) d=true)(hn:m+5<=n):pf n F.aH [d]=.ok (.bl (sizedOk (inTo 9) m d)):=by
 obtain⟨n,rfl,hn⟩:=ex1 (show m+4+1<=n by omega);rw[nt,cO,zu (c:=2) (p:=inTo 9) (by decide) zP (λm d h1 h2=>zt h1 h2) m n d hg hs (by omega)];rfl
theorem xc {m:Nat}{d:D}(hg:good (m+1) d=true)(hs:slim (m+1) d=true)(hn:m+6<=n):pf n F.an [d]=if sizedOk (inTo 9) m d=true then .ok .non else .err 1:=by
 obtain⟨n,rfl,hn⟩:=ex1 (show m+5+1<=n by omega);rw[ki,bE,zQ hg hs (by omega)];cases sizedOk (inTo 9) m d<;>rfl
section
theorem Pc.good (p:Pc sz t):good 4 (picD sz t)=true:=by
 unfold picD;rw[FF.good,goods,goods,goods,Q.gd En.int 3 t (GF p.dep p.h3)];rfl
theorem Pc.slim (p:Pc sz t):slim 4 (picD sz t)=true:=by
 unfold picD;rw[Lw.slim];simp only[HQ,Ki,mY (λ_=>rfl) En.int,vh (d:=.int (sz:Int)) rfl rfl,Gb,Hr];rfl
theorem Pc.sized (p:Pc sz t):sizedOk (inTo 9) 3 (picD sz t)=true:=by
 have h3:=p.h3;have h1:inTo 3 (.int (sz:Int))=true:=by simp[inTo];omega
 unfold picD sizedOk;simp only[h1,mZ En.int 3 sz t (GF p.dep p.h3) p.dep (jL (λa h=>in9 h) p.all)];rfl
theorem Pc.check (p:Pc sz t)(hn:9<=n):pf n F.an [picD sz t]=.ok .non:=by rw[xc p.good p.slim hn,p.sized];rfl
theorem Pc.lean (p:Pc sz t)(hn:10<=n):pf n F.aC [picD sz t]=.ok (picD sz (T (t.at sz) sz)):=by
 obtain⟨n,rfl,hn⟩:=ex1 (show 9+1<=n by omega);have h3:=p.h3;have hd:=p.dep;have e1:=p.check (n:=n) (by omega);have e2:=gT En.int t n (by omega) (by omega);rw[BK,p9,e1,<- kB sz t p.dep];unfold picD;simp only[STP,Gz,Gt,GD,Gy,reduceIte,reduceCtorEq,OPP,e2]
theorem pc_T {f:Lb}(h3:sz<=3)(h:∀ x y,x < 2^sz->y < 2^sz->W9 (f x y)):Pc sz (T f sz):=⟨h3,gP sz f,rY sz f h⟩
theorem Pc.at (p:Pc sz t)(x y:Nat):W9 (t.at sz x y):=kA sz t x y p.all
end
section
variable {α:Type}[DecidableEq α]{e:α->D}
end
theorem vi (h:s<=16777216):rng1 [.int (s:Int)]=.ok ((List.range s).map λi=>D.int ((i:Nat):Int)):=by
 show (if -16777216<=(s:Int)/\(s:Int)<=16777216 then R.ok (rngD 0 (s:Int).toNat) else R.stuck)=_;rw[if_pos ⟨by omega,by omega⟩];unfold rngD
 simp
def Wo (f:Lb)(sz:Nat):Prop:=∀ x y,x < 2^sz->y < 2^sz->W9 (f x y)
section
variable {α:Type}[DecidableEq α]{e:α->D}
end
theorem kQ {α τ:Type}(f:τ->α->L τ):∀ (xs ys:List α) (s:τ),lFor f (xs++ys) s=lS (lFor f xs s) λs'=>lFor f ys s'
 | [],ys,s=>rfl
 | x::xs,ys,s=>by
  rw[Jw,eW,eW];cases f s x with
  | nx s'=>exact kQ f xs ys s'
  | rt d=>rfl
  | er k=>rfl
  | stuck=>rfl
theorem sg {α τ:Type}{f:τ->α->L τ}(c:Nat->α)(inv:Nat->τ):∀ n,(∀ i,i < n->f (inv i) (c i)=.nx (inv (i+1)))->lFor f ((List.range n).map c) (inv 0)=.nx (inv n)
 | 0,_=>rfl
 | n+1,h=>by
  rw[List.range_succ,Hs,kQ,sg c inv n λi hi=>h i (by omega),uD,F5,Hd,eW,h n (by omega)];rfl
theorem m5 {α:Type}{f:Unit->α->L Unit}:∀ (l:List α),(∀ a∈l,f () a=.nx ())->lFor f l ()=.nx ()
 | [],_=>rfl
 | a::l,h=>by rw[eW,h a (.head _),uD];exact m5 l λb hb=>h b (.tail _ hb)
structure Sh (sz:Nat)(g:Lb)(t:Q Int):Prop where
 p:Pc sz t
 w:∀ x y,x < 2^sz->y < 2^sz->t.at sz x y=g x y
theorem Sh.wo {g:Lb}(h:Sh sz g t):Wo g sz:=λx y hx hy=>by rw[<- h.w x y hx hy];exact h.p.at x y
theorem sh_T {g:Lb}(h3:sz<=3)(h:Wo g sz):Sh sz g (T g sz):=⟨pc_T h3 h,λx y hx hy=>T_at sz g x y hx hy⟩
theorem Pc.sh (p:Pc sz t):Sh sz (t.at sz) t:=⟨p,λ_ _ _ _=>rfl⟩
section
variable {g:Lb}
theorem Sh.lean (q:Sh sz g t)(hn:10<=n):pf n F.aC [picD sz t]=.ok (picD sz (T g sz)):=by rw[q.p.lean hn,aD sz _ _ q.w]
end
section
variable {g:Lb}
end
theorem m6 (h:good 60 x=true):dNf x x=.ok (.bl false):=by rw[mT h h,FF.gn 60 x h];rfl
theorem Pc.g60 (p:Pc sz t):FF.good 60 (picD sz t)=true:=ij p.good (by decide)
section
variable {α:Type}[DecidableEq α]
theorem kR (n:Nat)(t:Q α){x y:Nat}(hx:x < 2^n)(hy:y < 2^n):t.at (n+1) x y=t.qs.1.at n x y/\t.at (n+1) (x+2^n) y=t.qs.2.1.at n x y/\t.at (n+1) x (y+2^n)=t.qs.2.2.1.at n x y/\t.at (n+1) (x+2^n) (y+2^n)=t.qs.2.2.2.at n x y:=by
 cases t with
 | lf a=>simp[Q.qs]
 | nd a b c d =>
  have e1:¬ (x+2^n < 2^n):=by omega
  have e2:¬ (y+2^n < 2^n):=by omega
  simp only[Q.at,Q.qs,if_pos hx,if_pos hy,if_neg e1,if_neg e2,Nat.add_sub_cancel]
  grind
theorem EU {β γ:Type}[DecidableEq β][DecidableEq γ](f:α->β->γ)(n:Nat)(t:Q α)(u:Q β):T (λx y=>f (t.at (n+1) x y) (u.at (n+1) x y)) (n+1) =
  put4 (T (λx y=>f (t.qs.1.at n x y) (u.qs.1.at n x y)) n) (T (λx y=>f (t.qs.2.1.at n x y) (u.qs.2.1.at n x y)) n) (T (λx y=>f (t.qs.2.2.1.at n x y) (u.qs.2.2.1.at n x y)) n) (T (λx y=>f (t.qs.2.2.2.at n x y) (u.qs.2.2.2.at n x y)) n):=by
 rw[T]
 congr 1
 ·exact aD n _ _ λx y hx hy=>by rw[(kR n t hx hy).1,(kR n u hx hy).1]
 ·exact aD n _ _ λx y hx hy=>by show f (t.at (n+1) (x+2^n) y) (u.at (n+1) (x+2^n) y)=_;rw[(kR n t hx hy).2.1,(kR n u hx hy).2.1]
 ·exact aD n _ _ λx y hx hy=>by show f (t.at (n+1) x (y+2^n)) (u.at (n+1) x (y+2^n))=_;rw[(kR n t hx hy).2.2.1,(kR n u hx hy).2.2.1]
 ·exact aD n _ _ λx y hx hy=>by show f (t.at (n+1) (x+2^n) (y+2^n)) (u.at (n+1) (x+2^n) (y+2^n))=_;rw[(kR n t hx hy).2.2.2,(kR n u hx hy).2.2.2]
theorem zR {t:Q α}(h:t.dep<=n+1):t.qs.1.dep<=n/\t.qs.2.1.dep<=n/\t.qs.2.2.1.dep<=n/\t.qs.2.2.2.dep<=n:=by
 cases t with
 | lf a=>exact⟨GQ _,GQ _,GQ _,GQ _⟩
 | nd a b c d =>
  rw[Q.dep]at h;simp only[Q.qs];omega
theorem zS {p:α->Prop}{t:Q α}(h:t.All p):t.qs.1.All p/\t.qs.2.1.All p/\t.qs.2.2.1.All p/\t.qs.2.2.2.All p:=by
 cases t with
 | lf a=>exact⟨h,h,h,h⟩
 | nd a b c d=>exact h
def isLf:Q α->Bool
 | .lf _=>true
 | _=>false
theorem qA {e:α->D}(E:En e)(t:Q α):dIsA qTup (t.d e)=.ok (.bl (!isLf t)):=by
 cases t with
 | lf a=>exact gR (E.tup a) (dC (E.gd 0 a))
 | nd a b c d=>rfl
theorem si {e:α->D}(E:En e)(t:Q α)(hn:1<=n):pf n F.az [t.d e]=.ok (.tup [t.qs.1.d e,t.qs.2.1.d e,t.qs.2.2.1.d e,t.qs.2.2.2.d e]):=by
 obtain⟨n,rfl,hn⟩:=ex1 hn;rw[mf,cm,qA E];cases t with
 | lf a=>rfl
 | nd a b c d=>rfl
end
structure Rul (i:Nat)(f:Int->Int->Int):Prop where
 fv:fvL.contains i=true
 w:∀ a b,W9 a->W9 b->W9 (f a b)
 ok:∀ m a b,1<=m->W9 a->W9 b->pf m i [.int a,.int b]=.ok (.int (f a b))
theorem B8 (a b c d:D):sq (.lst [a,b,c,d])=.ok [a,b,c,d]:=rfl
theorem EV (r:Rul i f):∀ (n m:Nat) (t u:Q Int),t.dep<=n->u.dep<=n->n<=40->t.All W9->u.All W9->n+3<=m->pf m F.ae [.fn i,t.d .int,u.d .int]=.ok ((T (λx y=>f (t.at n x y) (u.at n x y)) n).d .int):=by
 have both:∀ (n m:Nat) (a b:Int),W9 a->W9 b->2<=m->pf m F.ae [.fn i,.int a,.int b]=.ok ((T (λx y=>f ((Q.lf a).at n x y) ((Q.lf b).at n x y)) n).d .int):=λn m a b ha hb hm=>by
  obtain⟨m,rfl,hm⟩:=ex1 (show 1+1<=m by omega);have e:T (λx y=>f ((Q.lf a).at n x y) ((Q.lf b).at n x y)) n=.lf (f a b):=by
   rw[<- qm (f a b) n];exact aD n _ _ λx y _ _=>by rw[rX,rX]
  have o:onF fvL (.fn i) (λi=>pf m i [.int a,.int b])=.ok (.int (f a b)):=by
   show (if fvL.contains i=true then pf m i [.int a,.int b] else R.stuck)=_;rw[if_pos r.fv,r.ok m a b (by omega) ha hb]
  have h1:dIsA qTup (.int a)=.ok (.bl false):=rfl;have h2:dIsA qTup (.int b)=.ok (.bl false):=rfl;rw[gD,bz,e];simp only[STP,Gz,Gt,GD,Gy,reduceIte,reduceCtorEq,h1,h2,o];rfl
 intro n
 induction n with
 | zero =>
  intro m t u ht hu _ wt wu hm;cases t with
  | nd a b c d=>rw[Q.dep]at ht;omega
  | lf a =>
   cases u with
   | nd a b c d=>rw[Q.dep]at hu;omega
   | lf b=>exact both 0 m a b wt wu (by omega)
 | succ n ih =>
  intro m t u ht hu h40 wt wu hm;by_cases hb:isLf t=true/\isLf u=true
  ·cases t with
   | nd a b c d=>cases hb.1
   | lf a =>
    cases u with
    | nd a b c d=>cases hb.2
    | lf b=>exact both (n+1) m a b wt wu (by omega)
  ·obtain⟨m,rfl,hm⟩:=ex1 (show n+3+1<=m by omega);have td:=zR ht;have ud:=zR hu;have ta:=zS wt;have ua:=zS wu;have k1:=ih m t.qs.1 u.qs.1 td.1 ud.1 (by omega) ta.1 ua.1 (by omega);have k2:=ih m t.qs.2.1 u.qs.2.1 td.2.1 ud.2.1 (by omega) ta.2.1 ua.2.1 (by omega);have k3:=ih m t.qs.2.2.1 u.qs.2.2.1 td.2.2.1 ud.2.2.1 (by omega) ta.2.2.1 ua.2.2.1 (by omega);have k4:=ih m t.qs.2.2.2 u.qs.2.2.2 td.2.2.2 ud.2.2.2 (by omega) ta.2.2.2 ua.2.2.2 (by omega);have b1:rAnd (rNot (asB (dIsA qTup (t.d .int)))) (rNot (asB (dIsA qTup (u.d .int))))=.ok false:=by
    rw[qA En.int,qA En.int];cases h1:isLf t with
    | false=>rfl
    | true =>
     cases h2:isLf u with
     | false=>rfl
     | true=>exact(hb ⟨h1,h2⟩).elim
   have q1:=si En.int t (n:=m) (by omega);have q2:=si En.int u (n:=m) (by omega);have z4:∀ a b c d a' b' c' d':D,dZ4 (.tup [a,b,c,d]) (.tup [a',b',c',d'])=.ok [.tup [a,a'],.tup [b,b'],.tup [c,c'],.tup [d,d']]:=λ_ _ _ _ _ _ _ _=>rfl
   have step:∀ a b:D,((dIx (.tup [a,b]) (.int 0)).bind λx2=>(dIx (.tup [a,b]) (.int 1)).bind λx3=>pf m F.ae [.fn i,x2,x3])=pf m F.ae [.fn i,a,b]:=λa b=>by rw[ix20,ix21];rfl
   have hm4:=cMap4 (e:=λcouple=>(dIx couple (.int 0)).bind λx2=>(dIx couple (.int 1)).bind λx3=>pf m F.ae [.fn i,x2,x3]) ((step _ _).trans k1) ((step _ _).trans k2) ((step _ _).trans k3) ((step _ _).trans k4);have hp:=zN En.int (n:=m) (by omega) (a:=T (λx y=>f (t.qs.1.at n x y) (u.qs.1.at n x y)) n) (b:=T (λx y=>f (t.qs.2.1.at n x y) (u.qs.2.1.at n x y)) n) (c:=T (λx y=>f (t.qs.2.2.1.at n x y) (u.qs.2.2.1.at n x y)) n) (d:=T (λx y=>f (t.qs.2.2.2.at n x y) (u.qs.2.2.2.at n x y)) n)
    (GF (gP _ _) (by omega)) (GF (gP _ _) (by omega)) (GF (gP _ _) (by omega)) (GF (gP _ _) (by omega))
   rw[gD,bz,EU];simp only[STP,Gz,Gt,GD,Gy,reduceIte,reduceCtorEq,b1,q1,q2,z4,B8,hm4,OPP,hp]
def fMin (a b:Int):Int:=if b < a then b else a
def fMax (a b:Int):Int:=if b > a then b else a
def fAbs (a b:Int):Int:=((a - b).natAbs:Int)
def fSame (a b:Int):Int:=if a=b then 1 else 0
theorem B9:Rul F.ao (λa _=>a):=⟨by decide,λa b ha _=>ha,λm a b hm _ _=>by obtain⟨m,rfl,_⟩:=ex1 (k:=0) hm;rfl⟩
theorem D8:Rul F.aq (λ_ b=>b):=⟨by decide,λa b _ hb=>hb,λm a b hm _ _=>by obtain⟨m,rfl,_⟩:=ex1 (k:=0) hm;rfl⟩
theorem Ca:Rul F.ap fMin:=⟨by decide,λa b ha hb=>by unfold fMin;split<;>assumption,λm a b hm _ _=>by obtain⟨m,rfl,_⟩:=ex1 (k:=0) hm;rfl⟩
theorem Cb:Rul F.af fMax:=⟨by decide,λa b ha hb=>by unfold fMax;split<;>assumption,λm a b hm _ _=>by obtain⟨m,rfl,_⟩:=ex1 (k:=0) hm;rfl⟩
theorem EW:Rul F.av (λa b=>(a+b)%10):=⟨by decide,λa b ha hb=>by unfold W9;omega,λm a b hm _ _=>by obtain⟨m,rfl,_⟩:=ex1 (k:=0) hm;rfl⟩
theorem Cc:Rul F.ai (λa b=>a*b%10):=⟨by decide,λa b ha hb=>by unfold W9;omega,λm a b hm ha hb=>by
 obtain⟨m,rfl,_⟩:=ex1 (k:=0) hm;rw[mh,cn,cH (.inl ⟨by have:=hb.1;omega,by have:=hb.2;omega⟩)];rfl⟩
theorem D9:Rul F.ak fAbs:=⟨by decide,λa b ha hb=>by unfold fAbs W9 at *;omega,λm a b hm _ _=>by
 obtain⟨m,rfl,_⟩:=ex1 (k:=0) hm;rw[nu,cP,bX];rfl⟩
theorem Ea:Rul F.al fSame:=⟨by decide,λa b ha hb=>by unfold fSame W9;split<;>omega,λm a b hm _ _=>by
 obtain⟨m,rfl,_⟩:=ex1 (k:=0) hm;rw[nv,cQ,bY];unfold fSame;by_cases h:a=b
 ·simp_all
 ·rw[if_neg h,Gh h];rfl⟩
structure Wrd (r:PySem.Str)(i:Nat)(f:Int->Int->Int):Prop where
 look:ft.lookup r=some i
 word:dNotInD (.str r) (tabK ft)=.ok (.bl false)
 rul:Rul i f
theorem vj:Wrd "first" F.ao (λa _=>a):=⟨rfl,rfl,B9⟩
theorem zT:Wrd "last" F.aq (λ_ b=>b):=⟨rfl,rfl,D8⟩
theorem Cd:Wrd "least" F.ap fMin:=⟨rfl,rfl,Ca⟩
theorem Cf:Wrd "greatest" F.af fMax:=⟨rfl,rfl,Cb⟩
theorem EX:Wrd "sum" F.av (λa b=>(a+b)%10):=⟨rfl,rfl,EW⟩
theorem Cg:Wrd "times" F.ai (λa b=>a*b%10):=⟨rfl,rfl,Cc⟩
theorem Eb:Wrd "less" F.ak fAbs:=⟨rfl,rfl,D9⟩
theorem Ec:Wrd "same" F.al fSame:=⟨rfl,rfl,Ea⟩
section
variable {r:PySem.Str}
theorem Wrd.check (w:Wrd r i f)(hn:2<=n):pf n F.aa [.str r]=.ok .non:=by
 obtain⟨n,rfl,hn⟩:=ex1 (show 1+1<=n by omega);obtain⟨n,rfl,hn⟩:=ex1 (show 0+1<=n by omega);rw[nC,cS,ny,cR,w.word];rfl
theorem xg {l:List (Q Int)}(hl:l.length<=1000)(h:∀ t∈l,Pc sz t)(hn:10<=n):pf n F.ag [.lst (l.map (picD sz))]=.ok .non:=by
 obtain⟨n,rfl,hn⟩:=ex1 (show 9+1<=n by omega);have hs:sq (.lst (l.map (picD sz)))=.ok (l.map (picD sz)):=zl (by grind);have l1:lFor (τ:=Unit) (λ_ x=>aX (pf n) x) (l.map (picD sz)) ()=.nx ():=by
  refine m5 _ λa ha=>?_
  obtain⟨t,ht,rfl⟩:=GK.mp ha;unfold aX;rw[(h t ht).check (by omega)];rfl
 have l2:pf n F.ar [.lst (l.map (picD sz))]=.ok .non:=by
  obtain⟨n,rfl,hn⟩:=ex1 (show 8+1<=n by omega);rw[gC,bw,hs];have l3:lFor (τ:=Unit) (λ_ x=>bn (pf n) (.lst (l.map (picD sz))) x) (l.map (picD sz)) ()=.nx ():=by
   refine m5 _ λa ha=>?_
   obtain⟨t,ht,rfl⟩:=GK.mp ha;have h0:∃ u:Q Int,dIx (.lst (l.map (picD sz))) (.int 0)=.ok (picD sz u):=by
    cases l with
    | nil=>cases ht
    | cons u l=>exact⟨u,by
      show (match L2.atI (picD sz u::l.map (picD sz)) 0 with | some d=>R.ok d | none=>R.stuck)=_;have:L2.atI (picD sz u::l.map (picD sz)) 0=some (picD sz u):=by
       unfold L2.atI L2.ixN
       grind
      rw[this]⟩
   obtain⟨u,h0⟩:=h0;unfold bn;rw[h0];unfold picD
   simp_all
  simp_all
 rw[dL,aY]
 simp_all
variable {g:Lb}
theorem Wrd.joined (w:Wrd r i f)(q:Sh sz g t)(q':Sh sz g' t')(hn:11<=n):pf n F.ad [.str r,picD sz t,picD sz t']=.ok (picD sz (T (λx y=>f (g x y) (g' x y)) sz)):=by
 obtain⟨n,rfl,hn⟩:=ex1 (show 10+1<=n by omega);have h3:=q.p.h3;have e1:=w.check (n:=n) (by omega);have e2:pf n F.ag [.lst [picD sz t,picD sz t']]=.ok .non:=xg (l:=[t,t']) (by simp) (λu hu=>by
  simp only[Gi,HB,Ju]at hu;rcases hu with rfl | rfl
  ·exact q.p
  ·exact q'.p) (by omega)
 have e3:=EV w.rul sz n t t' q.p.dep q'.p.dep (by omega) q.p.all q'.p.all (by omega);have e4:dTab ft (.str r)=.ok (.fn i):=by show (match ft.lookup r with | some k=>R.ok (D.fn k) | none=>R.stuck)=_;rw[w.look]
 have e5:T (λx y=>f (t.at sz x y) (t'.at sz x y)) sz=T (λx y=>f (g x y) (g' x y)) sz:=aD sz _ _ λx y hx hy=>by rw[q.w x y hx hy,q'.w x y hx hy]
 rw[o6,gz,e1,gq,e2,gq];unfold picD;simp only[STP,Gz,Gt,GD,Gy,reduceIte,reduceCtorEq,ix20,ix21,e4,e3,e5]
end
def sel {β:Type}(k:Nat)(a b c d:β):β:=match k with
 | 0=>a
 | 1=>b
 | 2=>c
 | _=>d
section
variable {α:Type}[DecidableEq α]
def Q.mv (p q r s:Nat):Q α->Q α
 | .lf v=>.lf v
 | .nd a b c d=>.nd (sel p (a.mv p q r s) (b.mv p q r s) (c.mv p q r s) (d.mv p q r s)) (sel q (a.mv p q r s) (b.mv p q r s) (c.mv p q r s) (d.mv p q r s)) (sel r (a.mv p q r s) (b.mv p q r s) (c.mv p q r s) (d.mv p q r s)) (sel s (a.mv p q r s) (b.mv p q r s) (c.mv p q r s) (d.mv p q r s))
theorem vk {p q r:Nat}{t:Q α}{v:α}:t.mv p q r s=.lf v↔t=.lf v:=by cases t<;>simp[Q.mv]
theorem sj (a b c d:Q α):(∃ v,a=.lf v/\b=.lf v/\c=.lf v/\d=.lf v)\/put4 a b c d=.nd a b c d:=by
 unfold put4;split
 ·split
  ·rename_i h2;exact .inl ⟨_,rfl,h2⟩
  ·exact .inr rfl
 ·exact .inr rfl
structure Odr (p q r s:Nat)(m:Nat->(Lb)->Lb):Prop where
 lt:p < 4/\q < 4/\r < 4/\s < 4
 all:∀ k,k < 4->k=p\/k=q\/k=r\/k=s
 one:∀ g:Lb,m 1 g 0 0=g 0 0
 loc:∀ (n:Nat) (g:Lb) (x y:Nat),x < n->y < n->∃ x' y',x' < n/\y' < n/\∀ g':Lb,m n g' x y=g' x' y'
 q0:∀ (h:Nat) (g:Lb) (x y:Nat),x < h->y < h->m (h+h) g x y=m h (sel p g (sh g h 0) (sh g 0 h) (sh g h h)) x y
 q1:∀ (h:Nat) (g:Lb) (x y:Nat),x < h->y < h->m (h+h) g (x+h) y=m h (sel q g (sh g h 0) (sh g 0 h) (sh g h h)) x y
 q2:∀ (h:Nat) (g:Lb) (x y:Nat),x < h->y < h->m (h+h) g x (y+h)=m h (sel r g (sh g h 0) (sh g 0 h) (sh g h h)) x y
 q3:∀ (h:Nat) (g:Lb) (x y:Nat),x < h->y < h->m (h+h) g (x+h) (y+h)=m h (sel s g (sh g h 0) (sh g 0 h) (sh g h h)) x y
theorem sel4 {k:Nat}(h:k < 4):k=0\/k=1\/k=2\/k=3:=by omega
theorem Ch {p q r:Nat}{m:Nat->(Lb)->Lb}(o:Odr p q r s m)(a b c d:Q Int):(put4 a b c d).mv p q r s=put4 (sel p (a.mv p q r s) (b.mv p q r s) (c.mv p q r s) (d.mv p q r s)) (sel q (a.mv p q r s) (b.mv p q r s) (c.mv p q r s) (d.mv p q r s)) (sel r (a.mv p q r s) (b.mv p q r s) (c.mv p q r s) (d.mv p q r s)) (sel s (a.mv p q r s) (b.mv p q r s) (c.mv p q r s) (d.mv p q r s)):=by
 rcases sj a b c d with ⟨v,rfl,rfl,rfl,rfl⟩ | h
 ·have e:∀ k,sel k ((Q.lf v:Q Int).mv p q r s) ((Q.lf v).mv p q r s) ((Q.lf v).mv p q r s) ((Q.lf v).mv p q r s)=.lf v:=λk=>by unfold sel;split<;>rfl
  rw[ig,e,e,e,e,ig];rfl
 ·rw[h];rcases sj (sel p (a.mv p q r s) (b.mv p q r s) (c.mv p q r s) (d.mv p q r s)) (sel q (a.mv p q r s) (b.mv p q r s) (c.mv p q r s) (d.mv p q r s)) (sel r (a.mv p q r s) (b.mv p q r s) (c.mv p q r s) (d.mv p q r s)) (sel s (a.mv p q r s) (b.mv p q r s) (c.mv p q r s) (d.mv p q r s)) with ⟨v,h0,h1,h2,h3⟩ | h'
  ·have al:∀ k,k < 4->sel k (a.mv p q r s) (b.mv p q r s) (c.mv p q r s) (d.mv p q r s)=.lf v:=λk hk=>by
    rcases o.all k hk with h | h | h | h
    ·rw[h];exact h0
    ·rw[h];exact h1
    ·rw[h];exact h2
    ·rw[h];exact h3
   have ea:=vk.1 (al 0 (by omega));have eb:=vk.1 (al 1 (by omega));have ec:=vk.1 (al 2 (by omega));have ed:=vk.1 (al 3 (by omega));rw[ea,eb,ec,ed,ig]at h;cases h
  ·rw[h'];rfl
theorem mv_T {p q r s:Nat}{m:Nat->(Lb)->Lb}(o:Odr p q r s m):∀ (n:Nat) (g:Lb),(T g n).mv p q r s=T (m (2^n) g) n
 | 0,g=>by show (Q.lf (g 0 0)).mv p q r s=Q.lf (m 1 g 0 0);rw[o.one];rfl
 | n+1,g=>by
  rw[T,Ch o,T,ll];have e:∀ k,k < 4->sel k ((T g n).mv p q r s) ((T (sh g (2^n) 0) n).mv p q r s) ((T (sh g 0 (2^n)) n).mv p q r s) ((T (sh g (2^n) (2^n)) n).mv p q r s)=T (m (2^n) (sel k g (sh g (2^n) 0) (sh g 0 (2^n)) (sh g (2^n) (2^n)))) n:=λk hk=>by
   rcases sel4 hk with rfl | rfl | rfl | rfl<;>exact mv_T o n _
  rw[e p o.lt.1,e q o.lt.2.1,e r o.lt.2.2.1,e s o.lt.2.2.2]
  congr 1
  ·exact aD n _ _ λx y hx hy=>(o.q0 _ g x y hx hy).symm
  ·exact aD n _ _ λx y hx hy=>(o.q1 _ g x y hx hy).symm
  ·exact aD n _ _ λx y hx hy=>(o.q2 _ g x y hx hy).symm
  ·exact aD n _ _ λx y hx hy=>(o.q3 _ g x y hx hy).symm
end
def mTurn (s:Nat)(g:Lb):Lb:=λx y=>g y (s - 1 - x)
def mMirr (s:Nat)(g:Lb):Lb:=λx y=>g (s - 1 - x) y
theorem zU:Odr 2 0 3 1 mTurn:=⟨by decide,by decide,λg=>rfl,λn g x y hx hy=>⟨y,n - 1 - x,hy,by omega,λ_=>rfl⟩,
 λh g x y hx hy=>by simp only[mTurn,sel,sh];congr 1<;>omega,λh g x y hx hy=>by simp only[mTurn,sel,sh];congr 1<;>omega,λh g x y hx hy=>by simp only[mTurn,sel,sh];congr 1<;>omega,λh g x y hx hy=>by simp only[mTurn,sel,sh];congr 1<;>omega⟩
theorem uh:Odr 1 0 3 2 mMirr:=⟨by decide,by decide,λg=>rfl,λn g x y hx hy=>⟨n - 1 - x,y,by omega,hy,λ_=>rfl⟩,
 λh g x y hx hy=>by simp only[mMirr,sel,sh];congr 1<;>omega,λh g x y hx hy=>by simp only[mMirr,sel,sh];congr 1<;>omega,λh g x y hx hy=>by simp only[mMirr,sel,sh];congr 1<;>omega,λh g x y hx hy=>by simp only[mMirr,sel,sh];congr 1<;>omega⟩
section
variable {p q r:Nat}{m:Nat->(Lb)->Lb}
theorem zV (a b c d:Int):sq (tupI [a,b,c,d])=.ok [.int a,.int b,.int c,.int d]:=rfl
theorem Ed {k:Nat}(h:k < 4)(a b c d:D):dIx (.tup [a,b,c,d]) (.int (k:Int))=.ok (sel k a b c d):=by rcases sel4 h with rfl | rfl | rfl | rfl<;>rfl
theorem gU (o:Odr p q r s m):∀ (n:Nat) (t:Q Int),t.dep+1<=n->pf n F.ax [t.d .int,tupI [(p:Int),(q:Int),(r:Int),(s:Int)]]=.ok ((t.mv p q r s).d .int)
 | 0,t,h=>by omega
 | n+1,.lf v,h=>by rw[iw,bO];simp only[Q.d,STP,Gz,Gt,GD,Gy,reduceIte,reduceCtorEq,OPP];rfl
 | n+1,.nd a b c d,h=>by
  have hd:a.dep+1<=n/\b.dep+1<=n/\c.dep+1<=n/\d.dep+1<=n:=by simp only[Q.dep]at h;omega
  have ha:=gU o n a hd.1;have hb:=gU o n b hd.2.1;have hc:=gU o n c hd.2.2.1;have hdd:=gU o n d hd.2.2.2;have step:∀ k:Nat,k < 4->((dIx (.tup [a.d .int,b.d .int,c.d .int,d.d .int]) (.int (k:Int))).bind λx=>pf n F.ax [x,tupI [(p:Int),(q:Int),(r:Int),(s:Int)]])=.ok ((sel k (a.mv p q r s) (b.mv p q r s) (c.mv p q r s) (d.mv p q r s)).d .int):=λk hk=>by
   rw[Ed hk,R.bind_ok];rcases sel4 hk with rfl | rfl | rfl | rfl
   ·exact ha
   ·exact hb
   ·exact hc
   ·exact hdd
  rw[iw,bO];simp only[Q.d,STP,Gz,Gt,GD,Gy,reduceIte,reduceCtorEq,OPP,zV];rw[cMap4 (step p o.lt.1) (step q o.lt.2.1) (step r o.lt.2.2.1) (step s o.lt.2.2.2)];rfl
variable {g:Lb}
theorem Sh.moved (w:Sh sz g t)(o:Odr p q r s m)(hn:11<=n):pf n F.aJ [picD sz t,tupI [(p:Int),(q:Int),(r:Int),(s:Int)]]=.ok (picD sz (T (m (2^sz) g) sz)):=by
 obtain⟨n,rfl⟩:∃ j,n=j+1:=⟨n - 1,by omega⟩;have e1:=w.lean (n:=n) (by omega);have e2:=gU o n (T g sz) (by have:=gP sz g;have:=w.p.h3;omega);rw[mv_T o]at e2;have e3:dIx (picD sz (T g sz)) (.int 0)=.ok (.int (sz:Int)):=rfl;have e4:dIx (picD sz (T g sz)) (.int 1)=.ok ((T g sz).d .int):=rfl;rw[zf,lj];simp only[STP,Gz,Gt,GD,Gy,reduceIte,reduceCtorEq,e1,e2,e3,e4];rfl
theorem Sh.mv (w:Sh sz g t)(o:Odr p q r s m):Sh sz (m (2^sz) g) (T (m (2^sz) g) sz):=sh_T w.p.h3 λx y hx hy=>by
 obtain⟨x',y',h1,h2,h3⟩:=o.loc (2^sz) g x y hx hy;rw[h3];exact w.wo x' y' h1 h2
theorem Sh.turned (w:Sh sz g t)(hn:12<=n):pf n F.aN [picD sz t]=.ok (picD sz (T (mTurn (2^sz) g) sz)):=by
 obtain⟨n,rfl⟩:∃ j,n=j+1:=⟨n - 1,by omega⟩;have h:pf n F.aJ [picD sz t,tupI [2,0,3,1]]=_:=w.moved zU (n:=n) (by omega);rw[wI,jl];simp only[STP,Gz,Gt,GD,Gy,reduceIte,reduceCtorEq,h]
theorem Sh.mirrored (w:Sh sz g t)(hn:12<=n):pf n F.aK [picD sz t]=.ok (picD sz (T (mMirr (2^sz) g) sz)):=by
 obtain⟨n,rfl⟩:∃ j,n=j+1:=⟨n - 1,by omega⟩;have h:pf n F.aJ [picD sz t,tupI [1,0,3,2]]=_:=w.moved uh (n:=n) (by omega);rw[rP,fw];simp only[STP,Gz,Gt,GD,Gy,reduceIte,reduceCtorEq,h]
def turns (s:Nat):Nat->(Lb)->Lb
 | 0,g=>g
 | k+1,g=>mTurn s (turns s k g)
def mWay (s w:Nat)(g:Lb):Lb:=turns s (w%4) (if 4<=w then mMirr s g else g)
theorem jM (w:Sh sz g t):∀ k,∃ t',Sh sz (turns (2^sz) k g) t'
 | 0=>⟨t,w⟩
 | k+1=>by obtain⟨t',h⟩:=jM w k;exact⟨_,h.mv zU⟩
theorem Sh.way_ex (w:Sh sz g t)(k:Nat):∃ t',Sh sz (mWay (2^sz) k g) t':=by
 unfold mWay;split
 ·exact jM (w.mv uh) _
 ·exact jM w _
theorem Sh.way (w:Sh sz g t)(k:Nat):Sh sz (mWay (2^sz) k g) (T (mWay (2^sz) k g) sz):=by obtain⟨t',h⟩:=w.way_ex k;exact sh_T h.p.h3 h.wo
theorem m7 (w:Sh sz g t)(hn:12<=n):∀ k,lFor (τ:=D) (λs x=>dJ (pf n) s x) ((List.range k).map λi:Nat=>D.int (i:Int)) (picD sz (T g sz))=.nx (picD sz (T (turns (2^sz) k g) sz)):=λk =>
 sg (λi:Nat=>D.int (i:Int)) (λi=>picD sz (T (turns (2^sz) i g) sz)) k (λi _=>by
  obtain⟨t',h⟩:=jM w i;have:=(sh_T h.p.h3 h.wo).turned hn;show dJ (pf n) (picD sz (T (turns (2^sz) i g) sz)) (.int (i:Int))=_;unfold dJ;simp only[STP,Gz,Gt,GD,Gy,reduceIte,reduceCtorEq,this];rfl)
theorem so (hn:2<=n){k:Nat}(hk:k < 8):pf n F.aF [.int (k:Int)]=.ok .non:=by
 obtain⟨n,rfl⟩:∃ j,n=j+1:=⟨n - 1,by omega⟩;have h1:=jB (n:=n) (by omega) (d:=.int (k:Int)) rfl;have e:(decide ((0:Int)<=(k:Int))&&decide ((k:Int) < 8))=true:=by simp;omega
 rw[jr,cG];simp only[STP,Gz,Gt,GD,Gy,reduceIte,reduceCtorEq,OPP,h1,e];rfl
theorem Sh.byway (w:Sh sz g t)(hn:13<=n){k:Nat}(hk:k < 8):pf n F.ah [picD sz t,.int (k:Int)]=.ok (picD sz (T (mWay (2^sz) k g) sz)):=by
 obtain⟨n,rfl⟩:∃ j,n=j+1:=⟨n - 1,by omega⟩;have e1:=w.lean (n:=n) (by omega);have e2:=so (n:=n) (by omega) hk;have s:=sh_T w.p.h3 w.wo;have e3:=s.mirrored (n:=n) (by omega);have e4:(k:Int)%4=((k%4:Nat):Int):=by omega
 have e5:=vi (s:=k%4) (by omega);have e6:=m7 w (n:=n) (by omega) (k%4);have e7:=m7 (w.mv uh) (n:=n) (by omega) (k%4);rw[o5,gw];simp only[STP,Gz,Gt,GD,Gy,reduceIte,reduceCtorEq,OPP,e1,e2,gQ (show (0:Int) < 4 by decide),e4,e5];by_cases h:4<=k
 ·have d:decide ((4:Int)<=(k:Int))=true:=by simp;omega
  simp only[d,STP,Gz,Gt,GD,Gy,reduceIte,reduceCtorEq,e3,e7,mWay,if_pos h]
 ·have d:decide ((4:Int)<=(k:Int))=false:=by simp;omega
  simp only[d,STP,Gz,Gt,GD,Gy,reduceIte,reduceCtorEq,e6,mWay,if_neg h]
end
section
variable {g g'':Lb}{t'':Q Int}
end
section
variable {α β γ:Type}[DecidableEq α][DecidableEq β][DecidableEq γ]{ea:α->D}{eb:β->D}{ec:γ->D}
end
section
variable {α:Type}[DecidableEq α]{e:α->D}
end
section
variable {t:Q (Option Int)}
end
theorem sizes2 {a b:D}{m:Nat}(hm:1<=m):pf m F.ar [.lst [.tup [.int (s1:Int),a],.tup [.int (s2:Int),b]]]=if s1=s2 then .ok .non else .err 4:=by
 obtain⟨m,rfl,hm⟩:=ex1 (show 0+1<=m by omega);have hs:sq (.lst [.tup [.int (s1:Int),a],.tup [.int (s2:Int),b]])=.ok [.tup [.int (s1:Int),a],.tup [.int (s2:Int),b]]:=rfl;have e0:dIx (.lst [.tup [.int (s1:Int),a],.tup [.int (s2:Int),b]]) (.int 0)=.ok (.tup [.int (s1:Int),a]):=rfl;rw[gC,bw,hs];simp only[STP,Gz,Gt,GD,Gy,reduceIte,reduceCtorEq,OPP,lFor,bn,e0,decide_true];by_cases h:s1=s2
 ·rw[GG (show (s2:Int)=s1 by omega),if_pos h];simp only[STP,Gz,Gt,GD,Gy,reduceIte,reduceCtorEq]
 ·rw[Gh (show ¬ (s2:Int)=s1 by omega),if_neg h];simp only[STP,Gz,Gt,GD,Gy,reduceIte,reduceCtorEq]
section
variable {g:Lb}{c c':Nat->Nat->Option Int}{u u':Q (Option Int)}
end
def Pv (d:D):Prop:=∃ (sz:Nat) (g:Lb),sz<=3/\Wo g sz/\d=picD sz (T g sz)
theorem Pv.good {d:D}(h:Pv d):good 60 d=true:=by
 obtain⟨sz,g,h3,wo,rfl⟩:=h;exact(pc_T h3 wo).g60
theorem Pv.str {d:D}(h:Pv d):dIsA qStr d=.ok (.bl false):=by
 obtain⟨sz,g,h3,wo,rfl⟩:=h;rfl
theorem Pv.bool {d:D}(h:Pv d):dIsA qBool d=.ok (.bl false):=by
 obtain⟨sz,g,h3,wo,rfl⟩:=h;rfl
theorem Ci (p:Pc sz t):∃ y,Pv y/\∀ n,10<=n->pf n F.aC [picD sz t]=.ok y :=
 ⟨_,⟨sz,t.at sz,p.h3,p.sh.wo,rfl⟩,λn hn=>p.lean hn⟩
theorem zW (h:Pv x)(v:Int):(∀ n,14<=n->pf n F.ah [x,.int v]=.err 2)\/∃ y,Pv y/\∀ n,14<=n->pf n F.ah [x,.int v]=.ok y:=by
 obtain⟨sz,g,h3,wo,rfl⟩:=h;have q:=sh_T h3 wo;by_cases h:0<=v/\v < 8
 ·refine .inr ?_;obtain⟨k,rfl⟩:=HD h.1;exact⟨_,⟨sz,_,h3,(q.way k).wo,rfl⟩,λn hn=>q.byway (by omega) (show k < 8 by omega)⟩
 ·refine .inl λn hn=>?_
  obtain⟨n,rfl,hn⟩:=ex1 (show 13+1<=n by omega);have cb:pf n F.aF [.int v]=.err 2:=by
   obtain⟨n,rfl,hn⟩:=ex1 (show 12+1<=n by omega);have h1:=jB (n:=n) (by omega) (d:=.int v) rfl;have e:(decide ((0:Int)<=v)&&decide (v < 8))=false:=by simp;omega
   rw[jr,cG];simp only[STP,Gz,Gt,GD,Gy,reduceIte,reduceCtorEq,OPP,h1,e]
  rw[o5,gw,q.lean (by omega),gq,cb];rfl
theorem unlike2 {a b:Q Int}(pa:Pc s1 a)(pb:Pc s2 b)(h:s1≠s2){m:Nat}(hm:10<=m):pf m F.ag [.lst [picD s1 a,picD s2 b]]=.err 4:=by
 obtain⟨m,rfl,hm⟩:=ex1 (show 9+1<=m by omega);have hs:sq (.lst [picD s1 a,picD s2 b])=.ok [picD s1 a,picD s2 b]:=rfl;have h1:=pa.check (n:=m) (by omega);have h2:=pb.check (n:=m) (by omega);have l2:pf m F.ar [.lst [picD s1 a,picD s2 b]]=.err 4:=(sizes2 (by omega)).trans (if_neg h);rw[dL,aY];simp only[STP,Gz,Gt,GD,Gy,reduceIte,reduceCtorEq,hs,lFor,aX,h1,h2,l2]
theorem xh {r a b:D}{m k:Nat}(hr:pf m F.aa [r]=.ok .non)(h:pf m F.ag [.lst [a,b]]=.err k):pf (m+1) F.ad [r,a,b]=.err k:=by
 rw[o6,gz,hr,gq,h];rfl
theorem zX {r:Str}(w:Wrd r i f)(hx:Pv x)(hy:Pv y):(∀ n,12<=n->pf n F.ad [.str r,x,y]=.err 4)\/∃ z,Pv z/\∀ n,12<=n->pf n F.ad [.str r,x,y]=.ok z:=by
 obtain⟨s1,g1,h1,w1,rfl⟩:=hx;obtain⟨s2,g2,h2,w2,rfl⟩:=hy;by_cases e:s1=s2
 ·subst e;exact .inr ⟨_,⟨s1,λx y=>f (g1 x y) (g2 x y),h1,λx y a b=>w.rul.w _ _ (w1 x y a b) (w2 x y a b),rfl⟩,λn hn=>w.joined (sh_T h1 w1) (sh_T h2 w2) (by omega)⟩
 ·refine .inl λn hn=>?_
  obtain⟨n,rfl,hn⟩:=ex1 (show 11+1<=n by omega);exact xh (w.check (by omega)) (unlike2 (pc_T h1 w1) (pc_T h2 w2) e (by omega))
def LN:List Str:=["a","b","iklmn","opqrs","tu"].map PySem.Str.ofString
theorem EY:Up LN:=by unfold Up LN;decide +kernel
theorem vm:LN.Nodup:=by unfold LN;decide +kernel
theorem zY {s:Str}(h:s∈LN):s=PySem.Str.ofString "a" \/ s=PySem.Str.ofString "b" \/ s=PySem.Str.ofString "iklmn" \/ s=PySem.Str.ofString "opqrs" \/ s=PySem.Str.ofString "tu" := by
 simpa [LN] using h
def isT' (b:Bool):R D->Bool
 | .ok (.bl c)=>c==b
 | _=>false
theorem Cj {b:Bool}{r:R D}(h:isT' b r=true):r=.ok (.bl b):=by
 unfold isT' at h
 grind
theorem isn {s:Str}(h:s∈LN)(n:Nat):pf (n+1) F.aG [.str s]=.ok (.bl true):=by
 show outL (kg (λ_ _=>.stuck) (.str s))=_;rcases zY h with rfl | rfl | rfl | rfl | rfl<;>exact Cj (by decide +kernel)
theorem ckn {s:Str}(h:s∈LN)(n:Nat):pf (n+2) F.ac [.str s]=.ok .non:=by
 rw[nD,cT,isn h];rfl
theorem cl11 (n:Nat):pf (n+1) F.aj [.exc 11]=.ok (tx "no name"):=by rfl
theorem cl2 (n:Nat):pf (n+1) F.aj [.exc 2]=.ok (tx "no spot"):=by rfl
theorem cl4 (n:Nat):pf (n+1) F.aj [.exc 4]=.ok (tx "unlike"):=by rfl
theorem cl5 (n:Nat):pf (n+1) F.aj [.exc 5]=.ok (tx "no rule"):=by rfl
theorem ik {t:KP}{w:Wd}{d:D}(h:rf W=.ok w d):outW (aw t rf W)=.ok w d:=by
 unfold aw;rw[h];rfl
theorem il {t:KP}{w:Wd}{d:D}(h:rf W=.er w j)(hq:qTk esL j=true)(hc:t F.aj [.exc j]=.ok d):outW (aw t rf W)=.ok w d:=by
 unfold aw;rw[h];show outW (if qTk esL j=true then (match t F.aj [.exc j] with | .ok d=>LW.rt w d | _=>.stuck) else .stuck:LW Unit)=_;rw[if_pos hq,hc];rfl
inductive Dd:D->Prop
 | put (nm:Str) (sz:Nat) (t:Q Int) (hn:nm∈LN) (p:Pc sz t):Dd (.tup [tx "put",.str nm,picD sz t])
 | take (nm:Str) (hn:nm∈LN):Dd (.tup [tx "take",.str nm])
 | move (nm:Str) (v:Int) (hn:nm∈LN):Dd (.tup [tx "move",.str nm,.int v])
 | most (nm a b:Str) (hn:nm∈LN) (ha:a∈LN) (hb:b∈LN):Dd (.tup [tx "join",.str nm,tx "most",.str a,.str b])
 | join (nm r a b:Str) (i:Nat) (f:Int->Int->Int) (hn:nm∈LN) (ha:a∈LN) (hb:b∈LN) (w:Wrd r i f) (hr:dEq (.str r) (tx "most")=.ok (.bl false)):Dd (.tup [tx "join",.str nm,.str r,.str a,.str b])
theorem zZ (h0:0<=v)(h1:v < 4):∃ s∈LN,dIx (.lst [(.str "a"),(.str "tu"),(.str "iklmn"),(.str "opqrs")]) (.int v)=.ok (.str s):=by
 obtain⟨j,rfl⟩:=HD h0;rcases j with _ | _ | _ | _ | j
 ·exact⟨_,by simp[LN],rfl⟩
 ·exact⟨_,by simp[LN],rfl⟩
 ·exact⟨_,by simp[LN],rfl⟩
 ·exact⟨_,by simp[LN],rfl⟩
 ·omega
theorem EZ (h0:0<=v)(h1:v < 4):∃ c:Nat,c<=2/\dIx (.lst [.int 1,.int 1,.int 2,.int 0]) (.int v)=.ok (.int (c:Int)):=by
 obtain⟨j,rfl⟩:=HD h0;rcases j with _ | _ | _ | _ | j
 ·exact⟨1,by omega,rfl⟩
 ·exact⟨1,by omega,rfl⟩
 ·exact⟨2,by omega,rfl⟩
 ·exact⟨0,by omega,rfl⟩
 ·omega
theorem E1 (h0:0<=v)(h1:v < 11):∃ r:Str,dIx (.lst [(.str "first"),(.str "last"),(.str "first"),(.str "last"),(.str "least"),(.str "sum"),(.str "less"),(.str "same"),(.str "most"),(.str "greatest"),(.str "times")]) (.int v)=.ok (.str r)/\(r=PySem.Str.ofString "most" \/ (dEq (.str r) (tx "most")=.ok (.bl false)/\∃ i f,Wrd r i f)):=by
 obtain⟨j,rfl⟩:=HD h0;rcases j with _ | _ | _ | _ | _ | _ | _ | _ | _ | _ | _ | j
 ·exact⟨_,rfl,.inr ⟨rfl,_,_,vj⟩⟩
 ·exact⟨_,rfl,.inr ⟨rfl,_,_,zT⟩⟩
 ·exact⟨_,rfl,.inr ⟨rfl,_,_,vj⟩⟩
 ·exact⟨_,rfl,.inr ⟨rfl,_,_,zT⟩⟩
 ·exact⟨_,rfl,.inr ⟨rfl,_,_,Cd⟩⟩
 ·exact⟨_,rfl,.inr ⟨rfl,_,_,EX⟩⟩
 ·exact⟨_,rfl,.inr ⟨rfl,_,_,Eb⟩⟩
 ·exact⟨_,rfl,.inr ⟨rfl,_,_,Ec⟩⟩
 ·exact⟨_,rfl,.inl rfl⟩
 ·exact⟨_,rfl,.inr ⟨rfl,_,_,Cf⟩⟩
 ·exact⟨_,rfl,.inr ⟨rfl,_,_,Cg⟩⟩
 ·omega
theorem vn (ns:List Int)(k:Nat)(hn:8<=n):∃ d,Dd d/\pf n F.aM [scr ns,.int (k:Int)]=.ok d:=by
 obtain⟨n,rfl,hn⟩:=ex1 (show 7+1<=n by omega);have P:∀ (j:Nat) (a:Int),a=(j:Int)->∀ {m:Int},0 < m->(dAdd (.int (k:Int)) (.int a)).bind (λx=>pf n F.ab [scr ns,x,.int m])=.ok (.int (pk ns (k+j) m)):=λj a ha m hm=>by
  rw[aZ,R.bind_ok];exact lr (by omega) ns (k+j) (by rw[ha];omega) hm
 obtain⟨nm,hnm,e1⟩:=zZ (jC (ns:=ns) (k:=k) (m:=4) (by decide)) (jD (by decide));rw[wL,jp,lq (by omega) ns k (by decide),R.bind_ok,e1,gq,P 1 1 rfl (by decide),gq];generalize hv:pk ns (k+1) 8=v;have v0:0<=v:=by rw[<- hv];exact jC (by decide)
 have v1:v < 8:=by rw[<- hv];exact jD (by decide)
 by_cases c3:v < 3
 ·obtain⟨c,hc,e2⟩:=EZ (jC (ns:=ns) (k:=k+2) (m:=4) (by decide)) (jD (by decide));refine⟨_,.put nm c (dt ns c (k+10)) hnm ⟨by omega,zv _ _ _,zw _ _ _⟩,?_⟩;have lt:dLt (.int v) (.int 3)=.ok (.bl true):=by rw[qo,GG c3]
  have tr:(dAdd (.int (k:Int)) (.int 10)).bind (λx4=>pf n F.au [scr ns,x4,.int (c:Int)])=.ok ((dt ns c (k+10)).d .int):=by
   rw[aZ,R.bind_ok];exact zx ns c (k+10) n (by omega)
  rw[lt,P 2 2 rfl (by decide),R.bind_ok,e2];show outL (lS (lB (((dAdd (.int (k:Int)) (.int 10)).bind (λx4=>pf n F.au [scr ns,x4,.int (c:Int)])).bind _ |>.bind _) _) _)=_;rw[tr];rfl
 ·have lt:dLt (.int v) (.int 3)=.ok (.bl false):=by rw[qo,Gh c3]
  by_cases c4:v=3
  ·refine⟨_,.take nm hnm,?_⟩;have q:dEq (.int v) (.int 3)=.ok (.bl true):=by rw[bY,GG c4]
   rw[lt,q];rfl
  ·have q:dEq (.int v) (.int 3)=.ok (.bl false):=by rw[bY,Gh c4]
   by_cases c5:v=4
   ·refine⟨_,.move nm (pk ns (k+3) 9) hnm,?_⟩;have q2:dEq (.int v) (.int 4)=.ok (.bl true):=by rw[bY,GG c5]
    rw[lt,q,q2,P 3 3 rfl (by decide)];rfl
   ·have q2:dEq (.int v) (.int 4)=.ok (.bl false):=by rw[bY,Gh c5]
    obtain⟨r,e3,hr⟩:=E1 (jC (ns:=ns) (k:=k+4) (m:=11) (by decide)) (jD (by decide));obtain⟨a,ha,e4⟩:=zZ (jC (ns:=ns) (k:=k+5) (m:=4) (by decide)) (jD (by decide));obtain⟨b,hb,e5⟩:=zZ (jC (ns:=ns) (k:=k+6) (m:=4) (by decide)) (jD (by decide));refine⟨.tup [tx "join",.str nm,.str r,.str a,.str b],?_,?_⟩
    ·rcases hr with rfl | ⟨hr,i,f,w⟩
     ·exact .most nm a b hnm ha hb
     ·exact .join nm r a b i f hnm ha hb w hr
    ·rw[lt,q,q2,P 4 4 rfl (by decide),R.bind_ok,e3,P 5 5 rfl (by decide),R.bind_ok,e4,P 6 6 rfl (by decide),R.bind_ok,e5];rfl
theorem m8 {σ:Type}(w:Wd)(A B:Wd->LW σ):lwT (.ok w (.bl false)) A B=B w:=rfl
theorem aP {τ σ:Type}(w:Wd)(s:τ)(k:Wd->τ->LW σ):lwS (.nx w s) k=k w s:=rfl
theorem yb (a b:R D):rIf (.ok true) a b=a:=rfl
theorem yc (a b:R D):rIf (.ok false) a b=b:=rfl
theorem ui (b:Bool):asB (.ok (.bl b))=.ok b:=rfl
structure Rel (m k:Dm):Prop where
 nm:Nk m
 nk:Nk k
 km:Kin LN m
 kk:Kin LN k
 sm:Sm m k
 pv:∀ x d,dicGet m x=some d->Pv d
theorem jN (h:Nk m)(hk:Kin LN m):m.length<=5:=by
 obtain⟨ss,e,hs⟩:=kE hk;have nd:ss.Nodup:=by
  have h':(m.map (·.1)).Nodup:=h;rw[e]at h';exact fX h'
 have:=iZ nd hs;have e2:m.length=ss.length:=by have:=GA List.length e;simpa using this
 have e3:LN.length=5:=rfl;omega
theorem Rel.gk (h:Rel m k):Gd k:=λp hp=>(h.pv p.1 p.2 (by rw[h.sm];exact jE h.nk hp)).good
theorem Rel.nil:Rel [] []:=⟨IT,IT,λ_ h=>(nomatch h),λ_ h=>(nomatch h),λ_=>rfl,λ_ _ h=>(nomatch h)⟩
theorem vp {x:L2.Key}{d:D}(h:Nk m)(hx:x∉m.map (·.1)):Nk (m++[(x,d)]):=by
 unfold Nk;rw[Hs,Ir];exact⟨h,by simp,λa ha b hb z=>by simp at hb;rw[hb]at z;rw[z]at ha;exact hx ha⟩
theorem vq {x:L2.Key}:x∉(dropD m x).map (·.1):=by rw[kD];simp
theorem Cl {s:Str}{d:D}(h:Kin LN m)(hs:s∈LN):Kin LN (dicPut m (.inr s) d):=λx hx=>by
 rcases r9 (m:=m) (x:=.inr s) (d:=d) with ⟨_,e⟩ | ⟨_,e⟩
 ·rw[e]at hx;exact h x hx
 ·rw[e,HS]at hx;rcases hx with hx | hx
  ·exact h x hx
  ·grind
theorem m9 {y:L2.Key}(h:Kin LN m):Kin LN (dropD m y):=λx hx=>by
 rw[kD]at hx;exact h x (HF.mp hx).1
theorem Aa {s:Str}{d:D}(h:Kin LN m)(hs:s∈LN):Kin LN (m++[(.inr s,d)]):=λx hx=>by
 rw[Hs,HS]at hx;rcases hx with hx | hx
 ·exact h x hx
 ·grind
theorem Rel.put (h:Rel m k){s:Str}{d:D}(hs:s∈LN)(hd:Pv d):Rel (dicPut m (.inr s) d) (dropD k (.inr s)++[(.inr s,d)]):=by
 refine⟨D5 h.nm,vp (jH h.nk) vq,Cl h.km hs,Aa (m9 h.kk) hs,λx=>?_,λx y hx=>?_⟩
 ·rw[ve,vd,jG,a9,qu,h.sm]
  grind
 ·rw[ve]at hx;split at hx
  ·cases hx;exact hd
  ·exact h.pv x y hx
theorem Rel.drop (h:Rel m k)(y:L2.Key):Rel (dropD m y) (dropD k y) :=
 ⟨jH h.nm,jH h.nk,m9 h.km,m9 h.kk,λx=>by rw[jG,jG,h.sm],λx d hx=>by
  rw[jG]at hx;split at hx
  ·cases hx
  ·exact h.pv x d hx⟩
theorem vt {xs:List D}(h:xs.length<=1000):dAdd (.lst xs) (.lst [y])=.ok (.lst (xs++[y])):=by
 show (if xs.length+[y].length<=16777216 then _ else _)=_
 grind
theorem Ee (s t:Str):dNf (.str s) (.str t)=.ok (.bl (!decide ((.inr s:L2.Key)=.inr t))):=by
 rw[mT rfl rfl];have:eqD (.str s) (.str t)=decide ((.inr s:L2.Key)=.inr t):=by
  by_cases e:s=t
  ·subst e;rw[GG rfl];exact FF.gn 60 _ rfl
  ·rw[Gh λz=>e (Sum.inr.inj z)];show (s==t)=false;exact Hc.mpr e
 rw[this]
theorem fY {dd:D}(hk:Nk k)(hK:Kin LN k)(hd:dIx dd (.int 1)=.ok (.str nm)) :
  (((asKeys (dicD k)).bind λxs=>cFil (λFk=>(asB ((dIx dd (.int 1)).bind λx1=>dNf Fk x1))) (λFk=>(dDx (dicD k) Fk).bind λx=>.ok (.tup [Fk,x])) xs).bind λx2=>dDictP [x2])=.ok (dicD (dropD k (.inr nm))):=by
 have hl:=jN hk hK;rw[BZ (by omega),R.bind_ok,u8 (l:=k) (λp=>keyD p.1) (λp=>.tup [keyD p.1,p.2]) (λp=>!decide (p.1=.inr nm)) (λp hp=>?_),R.bind_ok]
 ·exact mX (m:=dropD k (.inr nm)) (jH hk) (by have:(dropD k (.inr nm)).length<=k.length:=Hg _ _;omega)
 ·obtain⟨s,hs,e⟩:=hK p.1 (GS (f:=(·.1)) hp);have g:dicGet k (.inr s)=some p.2:=by rw[<- e];exact jE hk hp
  rw[e,hd,R.bind_ok];exact⟨by show asB (dNf (.str s) (.str nm))=_;rw[Ee];rfl,λ_=>by show (dDx (dicD k) (.str s)).bind _=_;rw[jI g];rfl⟩
theorem Ab (nm:Str)(hk:Nk k)(hK:Kin LN k):dItems (dicD (dropD k (.inr nm)))=.ok (.lst ((dropD k (.inr nm)).map λp=>.tup [keyD p.1,p.2])) :=
 zy (by have:(dropD k (.inr nm)).length<=k.length:=Hg _ _;have:=jN hk hK;omega)
theorem Ac (nm:Str)(y:D)(hk:Nk k)(hK:Kin LN k):dAdd (.lst ((dropD k (.inr nm)).map λp=>.tup [keyD p.1,p.2])) (.lst [.tup [.str nm,y]])=.ok (.lst ((dropD k (.inr nm)++[((.inr nm:L2.Key),y)]).map λp=>.tup [keyD p.1,p.2])):=by
 rw[vt (by rw[Gg];have:(dropD k (.inr nm)).length<=k.length:=Hg _ _;have:=jN hk hK;omega),Hs];rfl
theorem Ad (nm:Str)(y:D)(hk:Nk k)(hK:Kin LN k):dDictP [.lst ((dropD k (.inr nm)++[((.inr nm:L2.Key),y)]).map λp=>.tup [keyD p.1,p.2])]=.ok (dicD (dropD k (.inr nm)++[((.inr nm:L2.Key),y)])) :=
 mX (vp (jH hk) vq) (by rw[G1];have:(dropD k (.inr nm)).length<=k.length:=Hg _ _;have:=jN hk hK;simp;omega)
theorem Ef (l:List Str):dNf (.lst (l.map .str)) (.lst [])=.ok (.bl (!l.isEmpty)):=by
 have g:good 60 (.lst (l.map .str))=true:=pp l;rw[mT g rfl];cases l<;>rfl
theorem vw (l:List Str)(k:Dm)(hl:l.length<=1000):(((sq (.lst (l.map .str))).bind λxs1=>cFil (λFi=>(asB (dDnin Fi (dicD k)))) (λFi=>.ok Fi) xs1).bind λx20=>dNf x20 (.lst []))=.ok (.bl (!(l.all λs=>(dicGet k (.inr s)).isSome))):=by
 rw[vg l hl,R.bind_ok,u8 (l:=l) (λs=>.str s) (λs=>.str s) (λs=>!(dicGet k (.inr s)).isSome) (λs _=>⟨by rw[qw];rfl,λ_=>rfl⟩),R.bind_ok,Ef]
 congr 3
 induction l with
 | nil=>rfl
 | cons s l ih =>
  grind
theorem need1 (k:Dm)(s:Str):(((sq (.lst [.str s])).bind λxs1=>cFil (λFi=>(asB (dDnin Fi (dicD k)))) (λFi=>.ok Fi) xs1).bind λx20=>dNf x20 (.lst []))=.ok (.bl (!(dicGet k (.inr s)).isSome)):=by
 have:=vw [s] k (by simp)
 simpa using this
theorem need2 (k:Dm)(s t:Str):(((sq (.lst [.str s,.str t])).bind λxs1=>cFil (λFi=>(asB (dDnin Fi (dicD k)))) (λFi=>.ok Fi) xs1).bind λx20=>dNf x20 (.lst []))=.ok (.bl (!((dicGet k (.inr s)).isSome&&(dicGet k (.inr t)).isSome))):=by
 have:=vw [s,t] k (by simp)
 simpa using this
theorem ZZ:(dEq (tx "put") (tx "put")=.ok (.bl true)) /\
  (dEq (tx "take") (tx "put")=.ok (.bl false)) /\
  (dEq (tx "move") (tx "put")=.ok (.bl false)) /\
  (dEq (tx "join") (tx "put")=.ok (.bl false)) /\
  (dEq (tx "take") (tx "join")=.ok (.bl false)) /\
  (dEq (tx "move") (tx "join")=.ok (.bl false)) /\
  (dEq (tx "join") (tx "join")=.ok (.bl true)) /\
  (dEq (tx "take") (tx "take")=.ok (.bl true)) /\
  (dEq (tx "move") (tx "take")=.ok (.bl false)) /\
  (dEq (tx "join") (tx "take")=.ok (.bl false)) /\
  (dEq (tx "move") (tx "move")=.ok (.bl true)) /\
  (dEq (tx "join") (tx "move")=.ok (.bl false)) /\
  (dEq (tx "most") (tx "most")=.ok (.bl true)) /\
  (dNf (tx "take") (tx "join")=.ok (.bl true)) /\
  (dNf (tx "move") (tx "join")=.ok (.bl true)) /\
  (dNf (tx "join") (tx "join")=.ok (.bl false)) /\
  (dInD (tx "put") (.tup [(tx "put"),(tx "take")])=.ok (.bl true)) /\
  (dInD (tx "take") (.tup [(tx "put"),(tx "take")])=.ok (.bl true)) /\
  (dInD (tx "move") (.tup [(tx "put"),(tx "take")])=.ok (.bl false)) /\
  (dInD (tx "join") (.tup [(tx "put"),(tx "take")])=.ok (.bl false)) /\
  (∀ x y:D,dIx (.tup [x,y]) (.int 0)=.ok x) /\
  (∀ x y:D,dIx (.tup [x,y]) (.int 1)=.ok y) /\
  (∀ x y z:D,dIx (.tup [x,y,z]) (.int 0)=.ok x) /\
  (∀ x y z:D,dIx (.tup [x,y,z]) (.int 1)=.ok y) /\
  (∀ x y z:D,dIx (.tup [x,y,z]) (.int 2)=.ok z) /\
  (∀ x y z u o:D,dIx (.tup [x,y,z,u,o]) (.int 0)=.ok x) /\
  (∀ x y z u o:D,dIx (.tup [x,y,z,u,o]) (.int 1)=.ok y) /\
  (∀ x y z u o:D,dIx (.tup [x,y,z,u,o]) (.int 2)=.ok z) /\
  (∀ x y z u o:D,dIx (.tup [x,y,z,u,o]) (.int 3)=.ok u) /\
  (∀ x y z u o:D,dIx (.tup [x,y,z,u,o]) (.int 4)=.ok o) /\
  (∀ (w:Wd) (d:D),rwR w (.ok d)=.ok w d) /\
  (∀ b,asB (.ok (.bl b))=.ok b) /\
  (∀ x,rAnd (.ok true) x=x) /\
  (∀ x,rAnd (.ok false) x=.ok false) /\
  (∀ a b,rIf (.ok true) a b=a) /\
  (∀ a b,rIf (.ok false) a b=b) /\
  (∀ s,dIsA qStr (.str s)=.ok (.bl true)) /\
  (∀ (σ:Type) (w:Wd) (A B:Wd->LW σ),lwT (.ok w (.bl true)) A B=A w) /\
  (∀ (σ:Type) (w:Wd) (A B:Wd->LW σ),lwT (.ok w (.bl false)) A B=B w) /\
  (∀ (τ σ:Type) (w:Wd) (s:τ) (k:Wd->τ->LW σ),lwS (.nx w s) k=k w s) /\
  (∀ (τ σ:Type) (w:Wd) (d:D) (k:Wd->τ->LW σ),lwS (.rt w d) k=.rt w d) /\
  (∀ (α σ:Type) (w:Wd) (a:α) (k:α->LW σ),lwR w (.ok a) k=k a) /\
  (∀ (σ:Type) (w:Wd) (d:D) (k:Wd->D->LW σ),lwB (.ok w d) k=k w d) /\
  (∀ (σ:Type) (w:Wd) (d:D),outW (.rt w d:LW σ)=.ok w d) /\
  (∀ (α β:Type) (a:α) (k:α->R β),(R.ok a).bind k=k a):=by
 refine⟨?_,?_,?_,?_,?_,?_,?_,?_,?_,?_,?_,?_,?_,?_,?_,?_,?_,?_,?_,?_,?_,?_,?_,?_,?_,?_,?_,?_,?_,?_,?_,?_,?_,?_,?_,?_,?_,?_,?_,?_,?_,?_,?_,?_,?_⟩<;>intros<;>rfl
section
variable {r a b:Str}{pic z v:D}
variable {o:D}
theorem uj (hk:Nk k)(hK:Kin LN k)(ly:pf n F.aC [pic]=.ok y):pw (n+3) M.L_behind_w W [dicD k,.tup [tx "put",.str nm,pic]]=.ok W (.tup [dicD (dropD k (.inr nm)++[(.inr nm,y)]),.bl (dicGet k (.inr nm)).isSome]):=by
 have rs:=fY (dd:=.tup [tx "put",.str nm,pic]) (nm:=nm) hk hK rfl;rw[aU,aB,rs,au];simp only[ZZ,ly,Ab nm hk hK,Ac nm y hk hK,Ad nm y hk hK,qv]
theorem jO (hk:Nk k)(hK:Kin LN k)(h:dicGet k (.inr nm)=none)(hd:(dd=.tup [tx "take",.str nm])\/∃ v,dd=.tup [tx "move",.str nm,v]):pw (n+3) M.L_behind_w W [dicD k,dd]=.ok W (.tup [dicD k,tx "no name"]):=by
 have i1:dIx dd (.int 1)=.ok (.str nm):=by rcases hd with rfl | ⟨v,rfl⟩<;>rfl
 have rs:=fY (dd:=dd) (nm:=nm) hk hK i1;have nd:((((sq (.lst [.str nm])).bind λxs1=>cFil (λFi=>(asB (dDnin Fi (dicD k)))) (λFi=>.ok Fi) xs1).bind λx20=>dNf x20 (.lst [])))=.ok (.bl true):=by rw[need1,h];rfl
 rw[aU,aB,rs,au];rcases hd with rfl | ⟨v,rfl⟩
 ·simp only[ZZ,nd]
 ·simp only[ZZ,nd]
theorem sr (hk:Nk k)(hK:Kin LN k)(h:dicGet k (.inr nm)=some x):pw (n+3) M.L_behind_w W [dicD k,.tup [tx "take",.str nm]]=.ok W (.tup [dicD (dropD k (.inr nm)),x]):=by
 have rs:=fY (dd:=.tup [tx "take",.str nm]) (nm:=nm) hk hK rfl;have nd:((((sq (.lst [.str nm])).bind λxs1=>cFil (λFi=>(asB (dDnin Fi (dicD k)))) (λFi=>.ok Fi) xs1).bind λx20=>dNf x20 (.lst [])))=.ok (.bl false):=by rw[need1,h];rfl
 rw[aU,aB,rs,au];simp only[ZZ,nd,jI h]
theorem tstr (s:Str):dIsA qStr (.str s)=.ok (.bl true):=rfl
theorem kS (hk:Nk k)(hK:Kin LN k)(h:dicGet k (.inr nm)=some x)(hn:1<=n):(pf n F.ah [x,v]=.err 2->pw (n+3) M.L_behind_w W [dicD k,.tup [tx "move",.str nm,v]]=.ok W (.tup [dicD k,tx "no spot"])) /\
  (Pv y->pf n F.ah [x,v]=.ok y->pw (n+3) M.L_behind_w W [dicD k,.tup [tx "move",.str nm,v]]=.ok W (.tup [dicD (dropD k (.inr nm)++[(.inr nm,y)]),y])):=by
 have rs:=fY (dd:=.tup [tx "move",.str nm,v]) (nm:=nm) hk hK rfl;have nd:((((sq (.lst [.str nm])).bind λxs1=>cFil (λFi=>(asB (dDnin Fi (dicD k)))) (λFi=>.ok Fi) xs1).bind λx20=>dNf x20 (.lst [])))=.ok (.bl false):=by rw[need1,h];rfl
 rw[aU,aB,rs,au];obtain⟨q,rfl⟩:∃ q,n=q+1:=⟨n - 1,by omega⟩;constructor
 ·intro e;have tl:outW (aw (pf (q+1)) (λw14=>rwR w14 (pf (q+1) F.ah [x,v])) W)=.ok W (tx "no spot"):=il (w:=W) (by rw[e,zE]) (by rfl) (cl2 q);simp only[ZZ,nd,jI h,tl]
 ·intro py e;have tl:outW (aw (pf (q+1)) (λw14=>rwR w14 (pf (q+1) F.ah [x,v])) W)=.ok W y:=ik (by rw[e,aV]);simp only[ZZ,nd,jI h,tl,py.str,Ab nm hk hK,Ac nm y hk hK,Ad nm y hk hK]
theorem su (hk:Nk k)(hK:Kin LN k):pw (n+3) M.L_behind_w W [dicD k,.tup [tx "join",.str nm,tx "most",.str a,.str b]]=.ok W (.tup [dicD k,tx "no rule"]):=by
 have rs:=fY (dd:=.tup [tx "join",.str nm,tx "most",.str a,.str b]) (nm:=nm) hk hK rfl;rw[aU,aB,rs,au];simp only[ZZ]
theorem jP (hk:Nk k)(hK:Kin LN k)(hr:dEq (.str r) (tx "most")=.ok (.bl false))(h:((dicGet k (.inr a)).isSome&&(dicGet k (.inr b)).isSome)=false):pw (n+3) M.L_behind_w W [dicD k,.tup [tx "join",.str nm,.str r,.str a,.str b]]=.ok W (.tup [dicD k,tx "no name"]):=by
 have rs:=fY (dd:=.tup [tx "join",.str nm,.str r,.str a,.str b]) (nm:=nm) hk hK rfl;have nd:((((sq (.lst [.str a,.str b])).bind λxs1=>cFil (λFi=>(asB (dDnin Fi (dicD k)))) (λFi=>.ok Fi) xs1).bind λx20=>dNf x20 (.lst [])))=.ok (.bl true):=by rw[need2,h];rfl
 rw[aU,aB,rs,au];simp only[ZZ,hr,nd]
theorem kT (hk:Nk k)(hK:Kin LN k)(hr:dEq (.str r) (tx "most")=.ok (.bl false))(ha:dicGet k (.inr a)=some x)(hb:dicGet k (.inr b)=some z)(hn:1<=n) :
  (pf n F.ad [.str r,x,z]=.err 4->pw (n+3) M.L_behind_w W [dicD k,.tup [tx "join",.str nm,.str r,.str a,.str b]]=.ok W (.tup [dicD k,tx "unlike"])) /\
  (Pv y->pf n F.ad [.str r,x,z]=.ok y->pw (n+3) M.L_behind_w W [dicD k,.tup [tx "join",.str nm,.str r,.str a,.str b]]=.ok W (.tup [dicD (dropD k (.inr nm)++[(.inr nm,y)]),y])):=by
 have rs:=fY (dd:=.tup [tx "join",.str nm,.str r,.str a,.str b]) (nm:=nm) hk hK rfl;have nd:((((sq (.lst [.str a,.str b])).bind λxs1=>cFil (λFi=>(asB (dDnin Fi (dicD k)))) (λFi=>.ok Fi) xs1).bind λx20=>dNf x20 (.lst [])))=.ok (.bl false):=by rw[need2,ha,hb];rfl
 rw[aU,aB,rs,au];obtain⟨q,rfl⟩:∃ q,n=q+1:=⟨n - 1,by omega⟩;constructor
 ·intro e;have tl:outW (aw (pf (q+1)) (λw14=>rwR w14 (pf (q+1) F.ad [.str r,x,z])) W)=.ok W (tx "unlike"):=il (w:=W) (by rw[e,zE]) (by rfl) (cl4 q);simp only[ZZ,hr,nd,jI ha,jI hb,tl]
 ·intro py e;have tl:outW (aw (pf (q+1)) (λw14=>rwR w14 (pf (q+1) F.ad [.str r,x,z])) W)=.ok W y:=ik (by rw[e,aV]);simp only[ZZ,hr,nd,jI ha,jI hb,tl,py.str,Ab nm hk hK,Ac nm y hk hK,Ad nm y hk hK]
variable {p:Nat}{pg:List D}{w':Wd}{d:D}{word:D}
theorem rL2 (x y:D):rL [.ok x,.ok y]=.ok [x,y]:=rfl
theorem rL1 (x:D):rL [.ok x]=.ok [x]:=rfl
theorem rL4 (x y z u:D):rL [.ok x,.ok y,.ok z,.ok u]=.ok [x,y,z,u]:=rfl
theorem E2 (a b:α):(if true=true then a else b)=a:=rfl
theorem CG (a b:α):(if false=true then a else b)=b:=rfl
theorem Cm (h:PW W p s pg i)(e:pw n M.uqj W [.ptr p,.str nm,pic]=.ok w' d):pw (n+3) M.L_did_w W [.ptr p,.tup [tx "put",.str nm,pic]]=.ok w' d:=by
 rw[fA,b9];simp only[ZZ];rw[ik (w:=w') (d:=d) (by rw[ai,E2,ai,aK h.hp rfl,rL2,ai];exact e)];rfl
theorem sv (h:PW W p s pg i):(pw n M.uqn W [.ptr p,.str nm]=.ok w' d->pw (n+3) M.L_did_w W [.ptr p,.tup [tx "take",.str nm]]=.ok w' d)/\(pw n M.uqn W [.ptr p,.str nm]=.er w' j->qTk esL j=true->pf n F.aj [.exc j]=.ok word->pw (n+3) M.L_did_w W [.ptr p,.tup [tx "take",.str nm]]=.ok w' word):=by
 rw[fA,b9];simp only[ZZ];constructor
 ·intro e;rw[ik (w:=w') (d:=d) (by rw[ai,CG,ai,aK h.hp rfl,rL1,ai];exact e)];rfl
 ·intro e q c;rw[il (w:=w') (j:=j) (d:=word) (by rw[ai,CG,ai,aK h.hp rfl,rL1,ai];exact e) q c];rfl
theorem nc (h:PW W p s pg i):(pw n M.uqi W [.ptr p,.str nm,v]=.ok w' d->pw (n+3) M.L_did_w W [.ptr p,.tup [tx "move",.str nm,v]]=.ok w' d)/\(pw n M.uqi W [.ptr p,.str nm,v]=.er w' j->qTk esL j=true->pf n F.aj [.exc j]=.ok word->pw (n+3) M.L_did_w W [.ptr p,.tup [tx "move",.str nm,v]]=.ok w' word):=by
 rw[fA,b9];simp only[ZZ];constructor
 ·intro e;rw[ik (w:=w') (d:=d) (by rw[ai,aK h.hp rfl,rL2,ai];exact e)];rfl
 ·intro e q c;rw[il (w:=w') (j:=j) (d:=word) (by rw[ai,aK h.hp rfl,rL2,ai];exact e) q c];rfl
theorem gW (h:PW W p s pg i):(pw n M.uqe W [.ptr p,.str nm,.str r,.str a,.str b]=.ok w' d->pw (n+3) M.L_did_w W [.ptr p,.tup [tx "join",.str nm,.str r,.str a,.str b]]=.ok w' d)/\(pw n M.uqe W [.ptr p,.str nm,.str r,.str a,.str b]=.er w' j->qTk esL j=true->pf n F.aj [.exc j]=.ok word->pw (n+3) M.L_did_w W [.ptr p,.tup [tx "join",.str nm,.str r,.str a,.str b]]=.ok w' word):=by
 rw[fA,b9];simp only[ZZ];constructor
 ·intro e;rw[ik (w:=w') (d:=d) (by rw[ai,aK h.hp rfl,rL4,ai];exact e)];rfl
 ·intro e q c;rw[il (w:=w') (j:=j) (d:=word) (by rw[ai,aK h.hp rfl,rL4,ai];exact e) q c];rfl
end
theorem qB {g:Str->D}:∀ {l:List Str},l.Nodup->(l.map ((λp:L2.Key×D=>p.1)∘λt=>((.inr t:L2.Key),g t))).Nodup
 | [],_=>IT
 | t::l,h=>by
  have h':=GO.mp h;rw[F5];refine GO.mpr ⟨λz=>?_,qB h'.2⟩;obtain⟨u,hu,e⟩:=GK.mp z;have e:(.inr u:L2.Key)=.inr t:=e;rw[Sum.inr.inj e]at hu;exact h'.1 hu
section
variable {q:Nat}{p:Nat}{pg:List D}{wd0:D}
theorem c7 (h:PW W p s pg i)(hi:pg[i]?=some (.tup [wd0,dicD m]))(hn:nm∈LN)(hx:dicGet m (.inr nm)=some x)(n:Nat):pr (n+3) M.uqa W [.ptr p,.str nm]=.ok x :=
 D7 h hi (isn hn _) (by rw[qw,hx];rfl) (jI hx)
theorem lz (h:PW W p s pg i)(hi:pg[i]?=some (.tup [wd0,dicD m]))(hn:nm∈LN)(hx:dicGet m (.inr nm)=none)(n:Nat):pr (n+3) M.uqa W [.ptr p,.str nm]=.err 11 :=
 zH h hi (isn hn _) (by rw[qw,hx];rfl)
def Step (q:Nat)(W:Wd)(m k:Dm)(p s i:Nat)(pg:List D)(dd:D):Prop :=
 ∃ due k',pw (q+20+3) M.L_behind_w W [dicD k,dd]=.ok W (.tup [dicD k',due])/\good 60 due=true /\
  ((∃ t,due=.str t/\k'=k/\pw (q+20+3) M.L_did_w W [.ptr p,dd]=.ok W due) \/
   (∃ m' wd,dIsA qStr due=.ok (.bl false)/\(∃ b,dIsA qBool due=.ok (.bl b))/\dIx dd (.int 0)=.ok (.str wd)/\Rel m' k'/\pw (q+20+3) M.L_did_w W [.ptr p,dd]=.ok (onW W s pg i (.tup [.str wd,dicD m'])) due))
theorem Cn (h:PW W p s pg i)(hi:pg[i]?=some (.tup [wd0,dicD m]))(hl:pg.length<=900)(R:Rel m k){dd:D}(hd:Dd dd):Step q W m k p s i pg dd:=by
 have hl':pg.length<=1000:=by omega
 have lm:m.length<=1000:=by have:=jN R.nm R.km;omega
 cases hd with
 | put nm sz t hn pc =>
  obtain⟨y,py,e⟩:=Ci pc;refine⟨_,_,uj R.nk R.kk (e _ (by omega)),rfl,.inr ⟨dicPut m (.inr nm) y,_,rfl,⟨_,rfl⟩,rfl,R.put hn py,?_⟩⟩;refine Cm h ?_;rw[<- R.sm];exact qy (n:=q+16) h hi hl' (e _ (by omega)) (ckn hn _) qv fb (jJ lm)
 | take nm hn =>
  cases g:dicGet m (.inr nm) with
  | none =>
   have gk:dicGet k (.inr nm)=none:=by rw[<- R.sm];exact g
   refine⟨_,_,jO R.nk R.kk gk (.inl rfl),rfl,.inl ⟨_,rfl,rfl,?_⟩⟩;exact(sv (d:=.non) h).2 (zI (n:=q+19) h (lz h hi hn g _)) (by rfl) (cl11 _)
  | some x =>
   have gk:dicGet k (.inr nm)=some x:=by rw[<- R.sm];exact g
   have px:=R.pv _ _ g;refine⟨_,_,sr R.nk R.kk gk,px.good,.inr ⟨dropD m (.inr nm),_,px.str,⟨_,px.bool⟩,rfl,R.drop _,?_⟩⟩;exact(sv (j:=0) (word:=x) h).1 (B1 (n:=q+17) h hi hl' (c7 h hi hn g _) fb (zA (by rw[g];rfl)))
 | move nm v hn =>
  cases g:dicGet m (.inr nm) with
  | none =>
   have gk:dicGet k (.inr nm)=none:=by rw[<- R.sm];exact g
   refine⟨_,_,jO R.nk R.kk gk (.inr ⟨_,rfl⟩),rfl,.inl ⟨_,rfl,rfl,?_⟩⟩;exact(nc (d:=.non) h).2 (zJ (n:=q+19) h (lz h hi hn g _)) (by rfl) (cl11 _)
  | some x =>
   have gk:dicGet k (.inr nm)=some x:=by rw[<- R.sm];exact g
   have px:=R.pv _ _ g;rcases zW px v with e | ⟨y,py,e⟩
   ·refine⟨_,_,(kS (y:=x) R.nk R.kk gk (by omega)).1 (e _ (by omega)),rfl,.inl ⟨_,rfl,rfl,?_⟩⟩;exact(nc (d:=.non) h).2 (zK (n:=q+19) h (c7 h hi hn g _) (e _ (by omega))) (by rfl) (cl2 _)
   ·refine⟨_,_,(kS R.nk R.kk gk (by omega)).2 py (e _ (by omega)),py.good,.inr ⟨dicPut m (.inr nm) y,_,py.str,⟨_,py.bool⟩,rfl,R.put hn py,?_⟩⟩;exact(nc (j:=0) (word:=x) h).1 (B2 (n:=q+16) h hi hl' (c7 h hi hn g _) (e _ (by omega)) fb (jJ lm))
 | most nm a b hn ha hb =>
  refine⟨_,_,su R.nk R.kk,rfl,.inl ⟨_,rfl,rfl,?_⟩⟩;exact(gW (d:=.non) h).2 (zL (n:=q+19) (by rfl)) (by rfl) (cl5 _)
 | join nm r a b i' f hn ha hb w hr =>
  have ck:=w.check (n:=q+19) (by omega);cases ga:dicGet m (.inr a) with
  | none =>
   have gk:dicGet k (.inr a)=none:=by rw[<- R.sm];exact ga
   refine⟨_,_,jP R.nk R.kk hr (by rw[gk];rfl),rfl,.inl ⟨_,rfl,rfl,?_⟩⟩;exact(gW (d:=.non) h).2 (B3 (n:=q+19) h ck (ckn hn _) (lz h hi ha ga _)) (by rfl) (cl11 _)
  | some x =>
   have gka:dicGet k (.inr a)=some x:=by rw[<- R.sm];exact ga
   cases gb:dicGet m (.inr b) with
   | none =>
    have gk:dicGet k (.inr b)=none:=by rw[<- R.sm];exact gb
    refine⟨_,_,jP R.nk R.kk hr (by rw[gk,Bool.and_comm];rfl),rfl,.inl ⟨_,rfl,rfl,?_⟩⟩;exact(gW (d:=.non) h).2 (B4 (n:=q+19) h ck (ckn hn _) (c7 h hi ha ga _) (lz h hi hb gb _)) (by rfl) (cl11 _)
   | some z =>
    have gkb:dicGet k (.inr b)=some z:=by rw[<- R.sm];exact gb
    rcases zX w (R.pv _ _ ga) (R.pv _ _ gb) with e | ⟨y,py,e⟩
    ·refine⟨_,_,(kT (y:=x) R.nk R.kk hr gka gkb (by omega)).1 (e _ (by omega)),rfl,.inl ⟨_,rfl,rfl,?_⟩⟩;exact(gW (d:=.non) h).2 (B5 (n:=q+19) h ck (ckn hn _) (c7 h hi ha ga _) (c7 h hi hb gb _) (e _ (by omega))) (by rfl) (cl4 _)
    ·refine⟨_,_,(kT R.nk R.kk hr gka gkb (by omega)).2 py (e _ (by omega)),py.good,.inr ⟨dicPut m (.inr nm) y,_,py.str,⟨_,py.bool⟩,rfl,R.put hn py,?_⟩⟩;exact(gW (j:=0) (word:=x) h).1 (B7 (n:=q+16) h hi hl' ck (ckn hn _) (c7 h hi ha ga _) (c7 h hi hb gb _) (e _ (by omega)) fb (jJ lm))
theorem Eg (h:PW W p s pg i)(hi:pg[i]?=some (.tup [wd0,dicD m]))(rl:Rel m k)(n:Nat):∃ l:Dm,pw (n+4) M.L_all_of_w W [.ptr p]=.ok W (dicD l)/\Nk l/\Gd l/\Sm l k:=by
 have sd:=zB EY vm rl.nm rl.km (by decide);have nl:(namesOf LN m).length<=5:=Hg _ _;refine⟨(namesOf LN m).map λt=>((.inr t:L2.Key),(dicGet m (.inr t)).getD .non),?_,?_,?_,?_⟩
 ·have na:pr (n+3) M.uq0 W [.ptr p]=.ok (.lst ((namesOf LN m).map .str)):=zM h hi sd;rw[nJ,c6,bI h.hp rfl,na,R.bind_ok,vg _ (by omega),R.bind_ok,
   BP (l:=namesOf LN m) (λt=>.str t) (λt=>.tup [.str t,(dicGet m (.inr t)).getD .non]) (λt ht=>?_),R.bind_ok]
  ·have:=mX (m:=(namesOf LN m).map λt=>((.inr t:L2.Key),(dicGet m (.inr t)).getD .non)) (by
    unfold Nk;rw[Ho];exact qB (vm.filter _)) (by rw[Gg];omega)
   rw[Ho]at this;show outW (lwR W (dDictP [.lst ((namesOf LN m).map λt=>.tup [.str t,(dicGet m (.inr t)).getD .non])]) _)=_;rw[show ((namesOf LN m).map λt=>D.tup [.str t,(dicGet m (.inr t)).getD .non])=(namesOf LN m).map ((λp:L2.Key×D=>D.tup [keyD p.1,p.2])∘λt=>((.inr t:L2.Key),(dicGet m (.inr t)).getD .non)) from rfl,this];rfl
  ·obtain⟨hl,d,hd⟩:=gS ht;rw[bI h.hp rfl,rL1,R.bind_ok,c7 h hi hl hd n,R.bind_ok,hd];rfl
 ·unfold Nk;rw[Ho];exact qB (vm.filter _)
 ·intro a ha;obtain⟨t,ht,rfl⟩:=GK.mp ha;obtain⟨hl,d,hd⟩:=gS ht;show good 60 ((dicGet m (.inr t)).getD .non)=true;rw[hd];exact(rl.pv _ _ hd).good
 ·intro x;rw[<- rl.sm];cases g:dicGet m x with
  | none =>
   refine r8.mpr λhx=>?_
   rw[Ho]at hx;obtain⟨t,ht,rfl⟩:=GK.mp hx;obtain⟨_,d,hd⟩:=gS ht;rw[show ((λp:L2.Key×D=>p.1)∘λt:Str=>((.inr t:L2.Key),(dicGet m (.inr t)).getD .non)) t=.inr t from rfl,hd]at g;cases g
  | some d =>
   obtain⟨t,ht,rfl⟩:=rl.km x (GS (f:=(·.1)) (mW g));refine jE ?_ ?_
   ·unfold Nk;rw[Ho];exact qB (vm.filter _)
   ·refine GK.mpr ⟨t,HF.mpr ⟨ht,by rw[g];rfl⟩,?_⟩;rw[g];rfl
end
section
variable {w:Wd}{p:Nat}{pg:List D}{d wd:D}
theorem Co (h:PW w p s pg (i+1))(hi:pg[i+1]?=some d):pw (n+2) M.uja w [.ptr s]=.ok (atW w s pg (i:Int)) d:=by
 have nx:pr (n+1) M.uqp w [.ptr s]=.ok d:=qx h hi;rw[iy,bP,az (x:=.int ((i+1:Nat):Int)) h.hs rfl,R.bind_ok,bY,jY];rw[Gh (show ¬ ((i+1:Nat):Int)=0 by omega)];show outW (lwR w (rM 12 "here" w (.ptr s) (pr (n+1) M.uqp w [.ptr s])) _)=_;rw[bI h.hs rfl,nx];show outW (lwB (rwR w ((dFld 12 w nPl (.ptr s)).bind λx1=>dSub x1 (.int 1))) _)=_;rw[az (x:=.int ((i+1:Nat):Int)) h.hs rfl,R.bind_ok,bX,show ((i+1:Nat):Int) - 1=(i:Int) by omega];simp only[aV,aW];rw[cB h.hs (by show 2 < 900;decide)];rfl
theorem Ae (h:PW w p s pg i)(hd:pg[i+1]?=some d):pw (n+2) M.ujm w [.ptr s]=.ok (atW w s pg ((i+1:Nat):Int)) d:=by
 have lt:i+1 < pg.length:=(Gc.mp hd).1;rw[mj,cr,az (x:=.int (i:Int)) h.hs rfl,R.bind_ok,az (x:=.lst pg) h.hs rfl,R.bind_ok,jA,R.bind_ok,bX,R.bind_ok,bY,jY];rw[Gh (show ¬ (i:Int)=(pg.length:Int) - 1 by omega)];show outW (lwB (rwR w ((dFld 12 w nPl (.ptr s)).bind λx4=>dAdd x4 (.int 1))) _)=_;rw[az (x:=.int (i:Int)) h.hs rfl,R.bind_ok,aZ];simp only[aV,aW];rw[cB h.hs (by show 2 < 900;decide)];show outW (lwR (atW w s pg ((i:Int)+1)) (rM 12 "here" (atW w s pg ((i:Int)+1)) (.ptr s) (pr (n+1) M.uqp (atW w s pg ((i:Int)+1)) [.ptr s])) _)=_;have h2:PW (atW w s pg ((i:Int)+1)) p s pg (i+1):=h.at_ (i+1)
 rw[bI h2.hs rfl,qx h2 hd];rfl
theorem Af (h:PW w p s pg (i+1))(hi:pg[i+1]?=some (.tup [wd,d])):pw (n+3) M.uqf w [.ptr p]=.ok (atW w s pg (i:Int)) wd:=by
 rw[iB,bS,az (x:=.ptr s) h.hp rfl,ai,aK h.hs rfl,Co h hi];rfl
theorem xi (h:PW w p s pg i)(hi:pg[i+1]?=some (.tup [wd,d])):pw (n+3) M.uqw w [.ptr p]=.ok (atW w s pg ((i+1:Nat):Int)) wd:=by
 rw[mq,cz,az (x:=.ptr s) h.hp rfl,ai,aK h.hs rfl,Ae h hi];rfl
theorem Cp (h:PW w p s pg 0):pw (n+1) M.uja w [.ptr s]=.er w 9:=by
 rw[iy,bP,az (x:=.int ((0:Nat):Int)) h.hs rfl,R.bind_ok,bY,jY];rfl
theorem Ag (h:PW w p s pg 0):pw (n+2) M.uqf w [.ptr p]=.er w 9:=by
 rw[iB,bS,az (x:=.ptr s) h.hp rfl,ai,aK h.hs rfl,Cp h];rfl
theorem cl9 (n:Nat):pf (n+1) F.aj [.exc 9]=.ok (tx "nothing done"):=by rfl
end
theorem qC (w:Wd)(k:Wd->RW):rwOr (.ok w (.bl false)) k=k w:=rfl
theorem im (w:Wd)(d:D)(k:Wd->D->RW):rwB (.ok w d) k=k w d:=rfl
theorem sw {σ:Type}(a b:D)(k:D->D->LW σ):lwUn2 (.tup [a,b]) k=k a b:=rfl
def rowsD (ks:List Dm):D:=.lst (ks.map dicD)
structure Al (W:Wd)(p s:Nat)(ks:List Dm)(i:Nat):Prop where
 ex:∃ pg:List D,PW W p s pg i/\pg.length=ks.length/\∀ (j:Nat) (k:Dm),ks[j]?=some k->∃ (m:Dm) (wd:D),pg[j]?=some (D.tup [wd,dicD m])/\Rel m k
 lt:i < ks.length
def Fr (W W':Wd)(s:Nat):Prop:=∀ c,c≠s->W' c=W c
section
variable {p:Nat}{ks:List Dm}
theorem Fr.trans {W1 W2 W3:Wd}(a:Fr W1 W2 s)(b:Fr W2 W3 s):Fr W1 W3 s:=λc h=>(b c h).trans (a c h)
theorem Al.fr (a:Al W p s ks i)(hp:W' p=W p)(hs:W' s=W s):Al W' p s ks i:=by
 obtain⟨pg,h,r⟩:=a.ex;exact⟨⟨pg,⟨hp.trans h.hp,hs.trans h.hs,h.ne⟩,r⟩,a.lt⟩
theorem Al.all (a:Al W p s ks i)(hk:ks[i]?=some k):∃ l,pw 37 M.L_all_of_w W [.ptr p]=.ok W l/\dDNe l (dicD k)=.ok (.bl false):=by
 obtain⟨pg,h,lp,hj⟩:=a.ex;obtain⟨m,wd,hi,rl⟩:=hj i k hk;obtain⟨l,al,ln,lg,ls⟩:=Eg h hi rl 33;exact⟨_,al,D6 ln rl.nk lg rl.gk ls⟩
theorem Al.marks (a:Al W p s ks i):rM 13 "marks" W (.ptr p) (pr 37 M.uqx W [.ptr p])=.ok (.tup [.int (i:Int),.int ((ks.length:Int) - 1 - (i:Int))]):=by
 obtain⟨pg,h,lp,_⟩:=a.ex;rw[bI h.hp rfl,xb (n:=35) h,lp]
theorem Al.back (a:Al W p s ks (i+1)):∃ W' d,rwM 13 "back" W (.ptr p) (pw 37 M.uqf W [.ptr p])=.ok W' d/\Al W' p s ks i/\Fr W W' s:=by
 obtain⟨pg,h,lp,hj⟩:=a.ex;have lt:=a.lt;obtain⟨m,wd,hi,_⟩:=hj (i+1) _ (Gq lt);exact⟨_,_,(aK h.hp rfl).trans (Af (n:=34) h hi),⟨⟨pg,h.at_ i,lp,hj⟩,by omega⟩,λc hc=>av hc⟩
theorem Al.forth (a:Al W p s ks i)(hl:i+1 < ks.length):∃ W' d,rwM 13 "forth" W (.ptr p) (pw 37 M.uqw W [.ptr p])=.ok W' d/\Al W' p s ks (i+1)/\Fr W W' s:=by
 obtain⟨pg,h,lp,hj⟩:=a.ex;obtain⟨m,wd,hi,_⟩:=hj (i+1) _ (Gq hl);exact⟨_,_,(aK h.hp rfl).trans (xi (n:=34) h hi),⟨⟨pg,h.at_ (i+1),lp,hj⟩,hl⟩,λc hc=>av hc⟩
theorem Al.no (a:Al W p s ks 0):rwM 13 "back" W (.ptr p) (pw 37 M.uqf W [.ptr p])=.er W 9:=by
 obtain⟨pg,h,_⟩:=a.ex;exact(aK h.hp rfl).trans (Ag (n:=35) h)
theorem Al.deed (a:Al W p s ks i)(he:i+1=ks.length)(hl:ks.length<=90){dd:D}(hd:Dd dd)(hk:ks[i]?=some k):∃ due k' W',pw 37 M.L_behind_w W [dicD k,dd]=.ok W (.tup [dicD k',due])/\good 60 due=true/\pw 37 M.L_did_w W [.ptr p,dd]=.ok W' due/\Fr W W' s /\
  ((dIsA qStr due=.ok (.bl true)/\k'=k/\W'=W)\/(dIsA qStr due=.ok (.bl false)/\Al W' p s (ks++[k']) (i+1))):=by
 obtain⟨pg,h,lp,hj⟩:=a.ex;obtain⟨m,wd,hi,rl⟩:=hj i k hk;obtain⟨due,k',eb,gd,alt⟩:=Cn (q:=14) h hi (by omega) rl hd;rcases alt with ⟨t,rfl,rfl,ed⟩ | ⟨m',w',hs,hb,h0,rl',ed⟩
 ·exact⟨_,_,W,eb,gd,ed,λ_ _=>rfl,.inl ⟨tstr t,rfl,rfl⟩⟩
 ·refine⟨_,k',_,eb,gd,ed,λc hc=>by unfold onW;rw[av hc,av hc],.inr ⟨hs,⟨⟨_,h.on _,?_,λj k2 hk2=>?_⟩,by rw[G1];simp;omega⟩⟩⟩
  ·rw[G1,G1,HM];simp;omega
  ·rw[List.take_of_length_le (by omega)];rcases Nat.lt_or_ge j ks.length with K4 | hge
   ·rw[GJ K4]at hk2;obtain⟨m2,wd2,e2,r2⟩:=hj j k2 hk2;exact⟨m2,wd2,by rw[GJ (by omega)];exact e2,r2⟩
   ·rw[GH hge]at hk2;cases q:j - ks.length with
    | zero =>
     rw[q]at hk2;cases hk2;exact⟨m',.str w',by rw[GH (by omega),show j - pg.length=0 by omega];rfl,rl'⟩
    | succ n=>rw[q]at hk2;cases hk2
end
theorem lA {ks:List Dm}(h:j+1+i=ks.length)(hk:ks[i]?=some k):dIx (rowsD ks) (.int (-((j:Int)+1)))=.ok (dicD k):=by
 unfold rowsD dIx;have e:L2.atI (ks.map dicD) (-((j:Int)+1))=some (dicD k):=by
  unfold L2.atI L2.ixN;rw[if_neg (by omega),if_pos (by rw[Gg];omega)];show (ks.map dicD)[(-((j:Int)+1)+((ks.map dicD).length:Int)).toNat]?=_;rw[show (-((j:Int)+1)+((ks.map dicD).length:Int)).toNat=i by rw[Gg];omega,Gu,hk];rfl
 simp only[e]
section
variable {p:Nat}{ks:List Dm}
theorem CI (a j:Nat):((dMul (.int 300) (.int (j:Int))).bind λx=>dAdd (.int (a:Int)) x)=.ok (.int ((a+300*j:Nat):Int)):=by
 rw[cH (.inr ⟨by decide,by decide⟩),R.bind_ok,aZ]
 congr 2
theorem sx (k:Dm)(b:Bool)(hl:ks.length<=100):(((vNot (.ok (.bl b))).bind λx2=>dIntB [x2]).bind λx3=>dMul (.lst [dicD k]) x3).bind (λx4=>dAdd (rowsD ks) x4)=.ok (rowsD (if b then ks else ks++[k])):=by
 cases b with
 | true =>
  show dAdd (rowsD ks) (.lst [])=_;unfold rowsD;show (if (ks.map dicD).length+0<=16777216 then R.ok (D.lst (ks.map dicD++[])) else .stuck)=_;rw[if_pos (by rw[Gg];omega),Gs];rfl
 | false =>
  show dAdd (rowsD ks) (.lst [dicD k])=_;unfold rowsD;rw[vt (by rw[Gg];omega)];show _=R.ok (D.lst ((ks++[k]).map dicD));rw[Hs];rfl
theorem Eh (hp:0 < ks.length):∃ k,ks[ks.length - 1]?=some k/\dIx (rowsD ks) (.int (-1))=.ok (dicD k):=by
 have e:=Gq (l:=ks) (i:=ks.length - 1) (by omega);exact⟨_,e,lA (j:=0) (by omega) e⟩
theorem E3 (ns:List Int)(a:Al W p s ks i)(he:i+1=ks.length)(hl:ks.length<=80)(j:Nat):∃ W' ks',bq (pf 37) (pr 37) (pw 37) (scr ns) (.ptr p) W (rowsD ks) (.int (j:Int))=.nx W' (rowsD ks')/\Fr W W' s/\ks'.length<=ks.length+1/\ks.length<=ks'.length/\ks'[0]?=ks[0]?/\∃ i',Al W' p s ks' i'/\i'+1=ks'.length:=by
 obtain⟨k,hk,ek⟩:=Eh (ks:=ks) (by omega);obtain⟨dd,hd,de⟩:=vn ns (1000+300*j) (n:=37) (by omega);rw[show ks.length - 1=i by omega]at hk;obtain⟨due,k',W',eb,gd,ed,fr,alt⟩:=a.deed he (by omega) hd hk;unfold bq;have ao:((dMul (.int 300) (.int (j:Int))).bind λx=>dAdd (.int 1000) x)=.ok (.int ((1000+300*j:Nat):Int)):=CI 1000 j;rw[ao,R.bind_ok,de,au,ek,rL2,ai,eb,aW,sw,rL2,ai,ed,aW];rcases alt with ⟨q,rfl,rfl⟩ | ⟨q,a'⟩
 ·rw[q];have:=sx (ks:=ks) k' true (by omega);rw[this,au];exact⟨W',ks,rfl,fr,by omega,by omega,rfl,i,a,he⟩
 ·rw[q];have:=sx (ks:=ks) k' false (by omega);rw[this,au];refine⟨W',ks++[k'],rfl,fr,by simp,by simp,?_,i+1,a',by simp;omega⟩;rw[GJ (by omega)]
theorem Ah (ns:List Int):∀ (js:List Nat) {W:Wd} {ks:List Dm} {i:Nat},Al W p s ks i->i+1=ks.length->ks.length+js.length<=80->∃ W' ks',lwFor (τ:=D) (λW s x=>bq (pf 37) (pr 37) (pw 37) (scr ns) (.ptr p) W s x) (js.map λj:Nat=>D.int (j:Int)) W (rowsD ks)=.nx W' (rowsD ks')/\Fr W W' s/\ks'.length<=ks.length+js.length/\ks.length<=ks'.length/\ks'[0]?=ks[0]?/\∃ i',Al W' p s ks' i'/\i'+1=ks'.length
 | [],W,ks,i,a,he,hl=>⟨W,ks,rfl,λ_ _=>rfl,by simp,by omega,rfl,i,a,he⟩
 | j::js,W,ks,i,a,he,hl=>by
  rw[Gb]at hl;obtain⟨W1,k1,e1,f1,l1,g1,z1,i1,a1,h1⟩:=E3 ns a he (by omega) j;obtain⟨W2,k2,e2,f2,l2,g2,z2,r2⟩:=Ah ns js a1 h1 (by omega);refine⟨W2,k2,?_,f1.trans f2,by rw[Gb];omega,by omega,z2.trans z1,r2⟩;rw[F5];show lwS (bq (pf 37) (pr 37) (pw 37) (scr ns) (.ptr p) W (rowsD ks) (.int (j:Int))) _=_;rw[e1,aP];exact e2
theorem backs:∀ (js:List D) {W:Wd},Al W p s ks js.length->∃ W',lwFor (τ:=Unit) (λW _ x=>bU (pf 37) (pr 37) (pw 37) (.ptr p) W x) js W ()=.nx W' ()/\Fr W W' s/\Al W' p s ks 0
 | [],W,a=>⟨W,rfl,λ_ _=>rfl,a⟩
 | j::js,W,a=>by
  obtain⟨W1,d,e,a1,f1⟩:=Al.back (i:=js.length) a;obtain⟨W2,e2,f2,a2⟩:=backs js a1;refine⟨W2,?_,f1.trans f2,a2⟩;show lwS (bU (pf 37) (pr 37) (pw 37) (.ptr p) W j) _=_;rw[bU,ai,e,aW,aP];exact e2
theorem forths:∀ (js:List D) {W:Wd} {i:Nat},Al W p s ks i->i+js.length < ks.length->∃ W',lwFor (τ:=Unit) (λW _ x=>bV (pf 37) (pr 37) (pw 37) (.ptr p) W x) js W ()=.nx W' ()/\Fr W W' s/\Al W' p s ks (i+js.length)
 | [],W,i,a,_=>⟨W,rfl,λ_ _=>rfl,a⟩
 | j::js,W,i,a,h=>by
  rw[Gb]at h;obtain⟨W1,d,e,a1,f1⟩:=a.forth (by omega);obtain⟨W2,e2,f2,a2⟩:=forths js a1 (by omega);refine⟨W2,?_,f1.trans f2,by rw[Gb,show i+(js.length+1)=i+1+js.length by omega];exact a2⟩;show lwS (bV (pf 37) (pr 37) (pw 37) (.ptr p) W j) _=_;rw[bV,ai,e,aW,aP];exact e2
theorem CJ (a:Al W p s ks i)(hl:i+1 < ks.length){rs:List Dm}(hk:ks[i+1]?=some k)(hr:dIx (rowsD rs) (.int (-((j:Int))))=.ok (dicD k)):∃ W',a7 (pf 37) (pr 37) (pw 37) (rowsD rs) (.ptr p) W (.int (j:Int))=.nx W' ()/\Al W' p s ks (i+1)/\Fr W W' s:=by
 obtain⟨W1,d,e,a1,f1⟩:=a.forth hl;obtain⟨l,el,en⟩:=a1.all hk;refine⟨W1,?_,a1,f1⟩;rw[a7,ai,e,aW,rL1,ai,el,im];rw[show dNeg (.int (j:Int))=.ok (.int (-(j:Int))) from rfl,R.bind_ok,hr,ai,en,aV,m8]
theorem E4 (ns:List Int)(a:Al W p s ks i)(he:i+1=ks.length)(hl:ks.length<=80)(hk:ks[i]?=some k)(at' j:Nat):∃ (W':Wd) (ks':List Dm) (i':Nat) (k':Dm),br (pf 37) (pr 37) (pw 37) (scr ns) (.ptr p) (.int (at':Int)) W (dicD k,.int (i:Int)) (.int (j:Int))=.nx W' (dicD k',.int (i':Int))/\Fr W W' s/\ks'.length<=ks.length+1/\ks'[0]?=ks[0]?/\Al W' p s ks' i'/\i'+1=ks'.length/\ks'[i']?=some k':=by
 obtain⟨dd,hd,de⟩:=vn ns (at'+300*j) (n:=37) (by omega);obtain⟨due,k',W',eb,gd,ed,fr,alt⟩:=a.deed he (by omega) hd hk;unfold br;simp only;rw[CI at' j,R.bind_ok,de,au,rL2,ai,eb,aW,sw,rL2,ai,ed,im,ai,m6 gd,aV,m8,aP];rcases alt with ⟨q,rfl,rfl⟩ | ⟨q,a'⟩
 ·rw[q];refine⟨W',ks,i,k',?_,fr,by omega,rfl,a,he,hk⟩;show lwR W' (dAdd (.int (i:Int)) (.int 0)) _=_;rw[aZ,au,Int.add_zero]
 ·rw[q];refine⟨W',ks++[k'],i+1,k',?_,fr,by simp,?_,a',by simp;omega,?_⟩
  ·show lwR W' (dAdd (.int (i:Int)) (.int 1)) _=_;rw[aZ,au];rfl
  ·rw[GJ (by omega)]
  ·rw[GH (by omega),show i+1 - ks.length=0 by omega];rfl
theorem Ai (ns:List Int)(at':Nat):∀ (js:List Nat) {W:Wd} {ks:List Dm} {i:Nat} {k:Dm},Al W p s ks i->i+1=ks.length->ks.length+js.length<=80->ks[i]?=some k->∃ (W':Wd) (ks':List Dm) (i':Nat) (k':Dm),lwFor (τ:=D×D) (λW s x=>br (pf 37) (pr 37) (pw 37) (scr ns) (.ptr p) (.int (at':Int)) W s x) (js.map λj:Nat=>D.int (j:Int)) W (dicD k,.int (i:Int))=.nx W' (dicD k',.int (i':Int))/\Fr W W' s/\ks'.length<=ks.length+js.length/\ks'[0]?=ks[0]?/\Al W' p s ks' i'/\i'+1=ks'.length/\ks'[i']?=some k'
 | [],W,ks,i,k,a,he,hl,hk=>⟨W,ks,i,k,rfl,λ_ _=>rfl,by simp,rfl,a,he,hk⟩
 | j::js,W,ks,i,k,a,he,hl,hk=>by
  rw[Gb]at hl;obtain⟨W1,s1,i1,k1,e1,f1,l1,z1,a1,h1,g1⟩:=E4 ns a he (by omega) hk at' j;obtain⟨W2,s2,i2,k2,e2,f2,l2,z2,r2⟩:=Ai ns at' js a1 h1 (by omega) g1;refine⟨W2,s2,i2,k2,?_,f1.trans f2,by rw[Gb];omega,z2.trans z1,r2⟩;rw[F5];show lwS (br (pf 37) (pr 37) (pw 37) (scr ns) (.ptr p) (.int (at':Int)) W (dicD k,.int (i:Int)) (.int (j:Int))) _=_;rw[e1,aP];exact e2
end
section
variable {p:Nat}{ks:List Dm}
theorem Aj {d:D}(h:W p=some (.ins 13 [])):All (λw r=>r=.non/\(∃ s,W s=none/\PW w p s [.tup [tx "",d]] 0)/\∀ c o,c≠p->W c=some o->w c=some o) (pw (n+2) M.uqz W [.ptr p,d]):=by
 rw[mm,cw];show All _ (outW (lwB (rwNew 12 W (pw (n+1) M.uqs) [.tup [tx "",d]]) _));refine All.lwB (P:=λw r=>∃ s,W s=none/\s≠p/\r=.ptr s/\w p=some (.ins 13 [])/\w s=some (stO [.tup [tx "",d]] 0)/\∀ c,c≠s->w c=W c) (λw r hw=>?_) ?_
 ·obtain⟨s,hn,ne,rfl,h1,h2,h3⟩:=hw;rw[cB h1 (by decide)];exact⟨rfl,⟨s,hn,by rw[aI];rfl,by rw[av ne];exact h2,ne.symm⟩,λc o hc e=>by rw[av hc,h3 c (λz=>by rw[z,hn]at e;cases e)];exact e⟩
 ·intro s hs;have ne:s≠p:=λz=>by rw[z,h]at hs;cases hs
  show All _ (rwB (pw (n+1) M.uqs (wput W s (.ins 12 [])) [.ptr s,.tup [tx "",d]]) _);rw[sf (aI _ _ _)];exact⟨s,hs,ne,rfl,by rw[av ne.symm,av ne.symm,av ne.symm];exact h,aI _ _ _,λc hc=>by rw[av hc,av hc,av hc]⟩
theorem Ak (h:W p=some (.ins 13 [])):All (λw r=>r=.non/\(∃ s,W s=none/\PW w p s [.tup [tx "",.dic [] []]] 0)/\∀ c o,c≠p->W c=some o->w c=some o) (pw (n+3) M.uqy W [.ptr p]):=by
 rw[nH,cY,ai,aK h rfl];show All _ (outW (lwB (pw (n+2) M.uqz W [.ptr p,.dic [] []]) _));refine All.lwB (P:=λw r=>r=.non/\(∃ s,W s=none/\PW w p s [.tup [tx "",.dic [] []]] 0)/\∀ c o,c≠p->W c=some o->w c=some o) (λw r hw=>?_) (Aj h);exact⟨rfl,hw.2⟩
theorem vz (n:Nat):All (λw d=>∃ p s,d=.ptr p/\W p=none/\PW w p s [.tup [tx "",.dic [] []]] 0/\∀ c o,W c=some o->w c=some o) (rwNew 13 W (pw (n+3) M.uqy) []):=by
 intro p hp;refine All.rwB (P:=λw d=>d=.non/\(∃ s,(wput W p (.ins 13 [])) s=none/\PW w p s [.tup [tx "",.dic [] []]] 0)/\∀ c o,c≠p->(wput W p (.ins 13 [])) c=some o->w c=some o) (λw d ⟨e,⟨s,_,h⟩,f⟩=>?_) (Ak (aI _ _ _));subst e;exact⟨p,s,rfl,hp,h,λc o e=>by
  have hc:c≠p:=λz=>by rw[z,hp]at e;cases e
  exact f c o hc (by rw[av hc];exact e)⟩
theorem Am {pg:List D}(h:PW W p s pg i)(n:Nat):All (λw d=>∃ a,W a=none/\d=.ptr a/\w a=some (stO pg i)/\∀ c,c≠a->w c=W c) (pw (n+2) M.ujr W [.ptr s]):=by
 rw[nG,cX,rL1,ai];refine All.lwB (P:=λw d=>∃ a,W a=none/\d=.ptr a/\w a=some (stO [.non] 0)/\∀ c,c≠a->w c=W c) (λw d hw=>?_) ?_
 ·obtain⟨a,ha,rfl,h1,h2⟩:=hw;have sa:s≠a:=λz=>by rw[<- z,h.hs]at ha;cases ha
  have hs:w s=some (stO pg i):=(h2 s sa).trans h.hs;rw[az (x:=.lst pg) hs rfl,R.bind_ok,show dList [.lst pg]=.ok (.lst pg) from rfl,aV,aW,cB h1 (by show 2 < 900;decide)];have e1:wput w a (.ins 12 (putD "pages" (.lst pg) [(nPg,.lst [.non]),(nPl,.int 0)])) s=some (stO pg i):=by rw[av sa];exact hs
  show All _ (outW (lwB (rwR (wput w a (stO pg 0)) (dFld 12 (wput w a (stO pg 0)) nPl (.ptr s))) _));rw[az (x:=.int (i:Int)) (fs:=[(nPg,.lst pg),(nPl,.int (i:Int))]) (by rw[av sa];exact hs) rfl,aV,aW,cB (aI w a (stO pg 0)) (by show 2 < 900;decide)];exact⟨a,ha,rfl,aI _ _ _,λc hc=>by rw[av hc,av hc];exact h2 c hc⟩
 ·intro a ha;show All _ (rwB (pw (n+1) M.uqs (wput W a (.ins 12 [])) [.ptr a,.non]) _);rw[sf (aI _ _ _)];exact⟨a,ha,rfl,aI _ _ _,λc hc=>by rw[av hc,av hc,av hc]⟩
theorem Al.twin (a:Al W p s ks i):All (λw d=>∃ p' s',d=.ptr p'/\p'≠s/\s'≠p/\s'≠s/\p'≠p/\Al w p s ks i/\Al w p' s' ks i) (rwM 13 "twin" W (.ptr p) (pw 37 M.ujs W [.ptr p])):=by
 obtain⟨pg,h,lp,hj⟩:=a.ex;rw[aK h.hp rfl,nI 36,cZ];refine All.lwB (P:=λw d=>∃ p s,d=.ptr p/\W p=none/\PW w p s [.tup [tx "",.dic [] []]] 0/\∀ c o,W c=some o->w c=some o) (λw d hw=>?_) (vz 33);obtain⟨p',s0,rfl,hn,g,f⟩:=hw;have hw:PW w p s pg i:=⟨f _ _ h.hp,f _ _ h.hs,h.ne⟩;have n1:p'≠p:=λz=>by rw[z,h.hp]at hn;cases hn
 have n2:p'≠s:=λz=>by rw[z,h.hs]at hn;cases hn
 rw[az (x:=.ptr s) hw.hp rfl,ai,aK hw.hs rfl];refine All.lwB (λw1 d hw1=>?_) (Am hw 34);obtain⟨b,hb,rfl,e1,e2⟩:=hw1;have b1:b≠p:=λz=>by rw[z,hw.hp]at hb;cases hb
 have b2:b≠s:=λz=>by rw[z,hw.hs]at hb;cases hb
 have b3:p'≠b:=λz=>by rw[<- z,g.hp]at hb;cases hb
 rw[cB ((e2 p' b3).trans g.hp) (by show 1 < 900;decide)];refine⟨p',b,rfl,n2,b1,b2,n1,⟨⟨pg,⟨by rw[av n1.symm,e2 p b1.symm];exact hw.hp,by rw[av n2.symm,e2 s b2.symm];exact hw.hs,h.ne⟩,lp,hj⟩,a.lt⟩,⟨⟨pg,⟨by rw[aI];rfl,by rw[av b3.symm];exact e1,b3⟩,lp,hj⟩,a.lt⟩⟩
end
section
variable {p:Nat}{ks:List Dm}
theorem CK (ns:List Int)(a:Al W p s ks i)(hi:i+3=ks.length)(hl:ks.length<=60)(h0:ks[0]?=some [])(at':Nat):∃ W',a8 (pf 37) (pr 37) (pw 37) (scr ns) (rowsD ks) (.int ((ks.length:Int) - 1)) W (.ptr p) (.int (at':Int))=.nx W' ()/\Fr W W' s:=by
 have g1:=Gq (l:=ks) (i:=i+1) (by omega);have g2:=Gq (l:=ks) (i:=i+1+1) (by omega);have r1:dIx (rowsD ks) (.int (-((2:Nat):Int)))=.ok (dicD ks[i+1]):=lA (j:=1) (by omega) g1;have r2:dIx (rowsD ks) (.int (-((1:Nat):Int)))=.ok (dicD ks[i+1+1]):=lA (j:=0) (by omega) g2;obtain⟨W1,e1,a1,f1⟩:=CJ a (by omega) (rs:=ks) (j:=2) g1 r1;obtain⟨W2,e2,a2,f2⟩:=CJ a1 (by omega) (rs:=ks) (j:=1) g2 r2;obtain⟨W3,ks3,i3,k3,e3,f3,l3,z3,a3,h3,g3⟩:=Ai ns at' (List.range 3) a2 (by omega) (by simp;omega) g2;rw[Hv]at l3;have rg:=vi (s:=i3) (by omega);obtain⟨W4,e4,f4,a4⟩:=backs (p:=p) (s:=s) (ks:=ks3) ((List.range i3).map λi=>D.int ((i:Nat):Int)) (W:=W3) (by rw[Gg,Hv];exact a3);obtain⟨l4,el4,en4⟩:=a4.all (z3.trans h0);have no:=il (t:=pf 37) (rf:=λw18=>rwA w18 (.ok (.ptr p)) λo2=>rwM 13 "back" w18 o2 (pw 37 M.uqf w18 [o2])) (W:=W4) (by rw[ai];exact a4.no) rfl (cl9 36);obtain⟨W5,e5,f5,a5⟩:=forths (p:=p) (s:=s) (ks:=ks3) ((List.range i3).map λi=>D.int ((i:Nat):Int)) a4 (by rw[Gg,Hv];omega);rw[Gg,Hv,Nat.zero_add]at a5;obtain⟨l5,el5,en5⟩:=a5.all g3;refine⟨W5,?_,(((f1.trans f2).trans f3).trans f4).trans f5⟩;unfold a8;have q1:lwFor (τ:=Unit) (λW _ x=>a7 (pf 37) (pr 37) (pw 37) (rowsD ks) (.ptr p) W x) [.int 2,.int 1] W ()=.nx W2 ():=by
  show lwS (a7 (pf 37) (pr 37) (pw 37) (rowsD ks) (.ptr p) W (.int ((2:Nat):Int))) _=_;rw[e1,aP];show lwS (a7 (pf 37) (pr 37) (pw 37) (rowsD ks) (.ptr p) W1 (.int ((1:Nat):Int))) _=_;rw[e2,aP];rfl
 rw[show sq (.tup [.int 2,.int 1])=.ok [.int 2,.int 1] from rfl,au,q1,aP,show (.int (-1):D)=.int (-((1:Nat):Int)) from rfl,r2,au,au];rw[show (ks.length:Int) - 1=((i+1+1:Nat):Int) by omega,show rng1 [.int 3]=.ok ((List.range 3).map λj:Nat=>D.int (j:Int)) from rfl,au,e3,aP];simp only;rw[rg,au,e4,aP,rL1,ai,el4,im,ai];rw[show dDNe l4 (.dic [] [])=.ok (.bl false) from en4,aV,qC,no,im,ai,show dNf (tx "nothing done") (tx "nothing done")=.ok (.bl false) from rfl,aV,m8,aP];rw[au,e5,aP,ai,el5,im,ai,en5,aV,qC,a5.marks,R.bind_ok];rw[show (ks3.length:Int) - 1 - (i3:Int)=0 by omega,m6 rfl,ui,R.bind_ok,aV,m8]
end
theorem An (ns:List Int){p1 p2:Nat}{ks:List Dm}(a1:Al W p1 s1 ks i)(a2:Al W p2 s2 ks i)(n1:p2≠s1)(n2:s2≠s1)(hi:i+3=ks.length)(hl:ks.length<=60)(h0:ks[0]?=some [])(t1 t2:Nat) :
  ∃ W',lwFor (τ:=Unit) (λW _ p=>lwUn2 p λx y=>a8 (pf 37) (pr 37) (pw 37) (scr ns) (rowsD ks) (.int ((ks.length:Int) - 1)) W x y) [.tup [.ptr p1,.int (t1:Int)],.tup [.ptr p2,.int (t2:Int)]] W ()=.nx W' ():=by
 obtain⟨W1,e1,f1⟩:=CK ns a1 hi hl h0 t1;obtain⟨W2,e2,f2⟩:=CK ns (a2.fr (f1 p2 n1) (f1 s2 n2)) hi hl h0 t2;refine⟨W2,?_⟩;show lwS (a8 (pf 37) (pr 37) (pw 37) (scr ns) (rowsD ks) (.int ((ks.length:Int) - 1)) W (.ptr p1) (.int (t1:Int))) _=_;rw[e1,aP];show lwS (a8 (pf 37) (pr 37) (pw 37) (scr ns) (rowsD ks) (.int ((ks.length:Int) - 1)) W1 (.ptr p2) (.int (t2:Int))) _=_;rw[e2,aP];rfl
abbrev nA:Str:=PySem.Str.ofString "a"
abbrev nB:Str:=PySem.Str.ofString "b"
abbrev v1:D:=.tup [.int 0,.int 1]
abbrev v2:D:=.tup [.int 1,.tup [.int 1,.int 2,.int 3,.int 4]]
def ks0:List Dm:=[[],[(.inr nA,v1)],[(.inr nA,v1),(.inr nB,v2)]]
theorem pv1:Pv v1:=⟨0,λ_ _=>1,by decide,λ_ _ _ _=>⟨by show (0:Int)<=1;decide,by show (1:Int)<=9;decide⟩,rfl⟩
theorem pv2:Pv v2:=⟨1,λx y=>1+(x:Int)+2*(y:Int),by decide,λx y hx hy=>⟨by show (0:Int)<=1+(x:Int)+2*(y:Int);omega,by show 1+(x:Int)+2*(y:Int)<=9;omega⟩,rfl⟩
theorem lean1:pf 36 F.aC [v1]=.ok v1:=by rfl
theorem lean2:pf 36 F.aC [v2]=.ok v2:=by rfl
theorem inA:nA∈LN:=by simp[LN]
theorem inB':nB∈LN:=by simp[LN]
theorem relA:Rel [(.inr nA,v1)] [(.inr nA,v1)]:=Rel.nil.put inA pv1
theorem putB:dicPut [((.inr nA:L2.Key),v1)] (.inr nB) v2=[(.inr nA,v1),(.inr nB,v2)]:=vf λh=>absurd (Sum.inr.inj (GP.mp h)) (by decide)
theorem relB:Rel [(.inr nA,v1),(.inr nB,v2)] [(.inr nA,v1),(.inr nB,v2)]:=by
 have h:=relA.put inB' pv2;rw[putB]at h;have e:dropD [((.inr nA:L2.Key),v1)] (.inr nB)=[(.inr nA,v1)]:=by rfl
 rw[e]at h;exact h
theorem cC {w:Wd}{p:Nat}(h:PW w p s [.tup [tx "",.dic [] []]] 0):∃ w1 b1 w2 b2,rwM 13 "put" w (.ptr p) (pw 37 M.uqj w [.ptr p,tx "a",v1])=.ok w1 b1/\rwM 13 "put" w1 (.ptr p) (pw 37 M.uqj w1 [.ptr p,tx "b",v2])=.ok w2 b2/\Al w2 p s ks0 2:=by
 have e1:=qy (n:=33) h rfl (by decide) lean1 (ckn inA 34) (qv (m:=[])) (fb (m:=[])) (jJ (by decide));have h1:PW _ p s [.tup [tx "",.dic [] []],.tup [tx "put",dicD [(.inr nA,v1)]]] 1:=h.on (.tup [tx "put",dicD (dicPut [] (.inr nA) v1)]);have e2:=qy (n:=33) (nm:=tx "b") h1 rfl (by show 2<=1000;decide) lean2 (ckn inB' 34) qv fb (jJ (s:=nB) (d:=v2) (by show 1<=1000;decide));rw[putB]at e2;refine⟨_,_,_,_,(aK h.hp rfl).trans e1,(aK h1.hp rfl).trans e2,⟨_,h1.on _,rfl,λj k hk=>?_⟩,by decide⟩
 match j,hk with
 | 0,hk=>cases hk;exact⟨[],tx "",rfl,Rel.nil⟩
 | 1,hk=>cases hk;exact⟨_,tx "put",rfl,relA⟩
 | 2,hk=>cases hk;exact⟨_,tx "put",rfl,relB⟩
theorem oh (ns:List Int):All (λ_ d=>d=.bl true) (pw 40 M.law_k83 (λ_=>none) [.lst (ns.map .int)]):=by
 rw[tX 37];unfold ic;refine All.lwB (λw d hw=>?_) (vz 34);obtain⟨p,s,rfl,_,g0,_⟩:=hw;obtain⟨w1,b1,w2,b2,e1,e2,A⟩:=cC g0;have rl:∀ x y:D,rL [(.ok x),(.ok y)]=.ok [x,y]:=λx y=>rfl
 obtain⟨w3,ks,e3,_,l3,g3,z3,i3,A3,h3⟩:=Ah ns (List.range 8) A rfl (by decide);have k3:ks0.length=3:=rfl;rw[Hv]at l3;obtain⟨j,rfl⟩:∃ j,i3=j+1+1:=⟨i3 - 2,by omega⟩;obtain⟨w4,d4,e4,A4,_⟩:=A3.back;obtain⟨w5,d5,e5,A5,_⟩:=A4.back;have z0:ks[0]?=some []:=z3.trans rfl;rw[au];rw[show (.lst [(.dic [] []),(dicD (dicMk [.inr "a"] [(.tup [.int 0,.int 1])])),(dicD (dicMk [.inr "a",.inr "b"] [(.tup [.int 0,.int 1]),(.tup [.int 1,(.tup [.int 1,.int 2,.int 3,.int 4])])]))]:D)=rowsD ks0 from rfl];rw[ai,rl,ai,e1,aW,ai,rl,ai,e2,aW];rw[show rng1 [.int 8]=.ok ((List.range 8).map λj:Nat=>D.int (j:Int)) from rfl,au,show (.lst (ns.map .int):D)=scr ns from rfl,e3,aP];rw[show dLen [rowsD ks]=.ok (.int ((ks.length:Nat):Int)) by unfold rowsD;rw[jA,Gg],R.bind_ok,bX,au,ai,e4,aW,ai,e5,aW,ai];refine All.lwB (λw6 d hw=>?_) A5.twin;obtain⟨p',s',rfl,n1,n2,n3,n4,A6,B6⟩:=hw;have gk:=Gq (l:=ks) (i:=j) (by omega);obtain⟨l6,el6,en6⟩:=B6.all gk;have rk:dIx (rowsD ks) (.int (-3))=.ok (dicD ks[j]):=lA (j:=2) (by omega) gk;rw[B6.marks,R.bind_ok,bX,R.bind_ok,R.bind_ok,show (ks.length:Int) - 1 - 2=(j:Int) by omega,show (ks.length:Int) - 1 - (j:Int)=2 by omega,m6 rfl,ui,R.bind_ok,aV,qC,rL1,ai,el6,im,rk,ai,en6,aV,m8,aP];rw[show pf 37 F.ab [scr ns,.int 5,.int 2]=.ok (.int (pk ns 5 2)) from lr (by omega) ns 5 rfl (by decide),R.bind_ok,bY,ui];by_cases c:pk ns 5 2=0
 ·rw[GG c,yb,R.bind_ok];obtain⟨w7,e7⟩:=An ns A6 B6 n1 n3 (by omega) (by omega) z0 5000 7000;rw[show sq (.lst [(.tup [(.ptr p),.int 5000]),(.tup [(.ptr p'),.int 7000])])=.ok [.tup [.ptr p,.int ((5000:Nat):Int)],.tup [.ptr p',.int ((7000:Nat):Int)]] from rfl,au,e7,aP];rfl
 ·rw[Gh c,yc];obtain⟨w7,e7⟩:=An ns B6 A6 n2.symm n3.symm (by omega) (by omega) z0 7000 5000;rw[show dRev2 (.lst [(.tup [(.ptr p),.int 5000]),(.tup [(.ptr p'),.int 7000])])=.ok (.lst [.tup [.ptr p',.int ((7000:Nat):Int)],.tup [.ptr p,.int ((5000:Nat):Int)]]) from rfl,R.bind_ok];rw[show sq (.lst [.tup [.ptr p',.int ((7000:Nat):Int)],.tup [.ptr p,.int ((5000:Nat):Int)]])=.ok [.tup [.ptr p',.int ((7000:Nat):Int)],.tup [.ptr p,.int ((5000:Nat):Int)]] from rfl,au,e7,aP];rfl
end Lw
end
end
noncomputable section
set_option maxHeartbeats 4000000
namespace Lw
open PySem PySem.Spec PyProof.Rows L2 FF
variable {K:Frag}{x qual:Str}{mg:KW}{c:Nat}{Ck f:Addr}{w:World}{ps:List Str}{st:Stmt}{oc doc pm J4 ct:Value}{od:Option Addr}{osl:Array (Lm)}{P:Program}{base:Heap}{C:La}{l:OpenLaw}
def cname:Nat->Str
 | 0 => "FourError"
 | 1 => "NoPicture"
 | 2 => "NoSpot"
 | 3 => "BadBox"
 | 4 => "Unlike"
 | 5 => "NoRule"
 | 6 => "NoBlocks"
 | 7 => "NoChange"
 | 8 => "NoNumber"
 | 9 => "NothingDone"
 | 10 => "NoText"
 | 11 => "NoName"
 | 12 => "Steps"
 | 13 => "Album"
 | 21 => "is_worth"
 | 146 => "first_worth"
 | 147 => "last_worth"
 | 148 => "least_worth"
 | 149 => "greatest_worth"
 | 150 => "sum_worth"
 | 151 => "times_worth"
 | 152 => "less_worth"
 | 153 => "same_worth"
 | 902 => "_law_behind"
 | 904 => "_law_did"
 | 906 => "law"
 | _ => "?"
def CofN (K:Frag)(i:Nat):Addr:=match nsIn K mainGlobals (cname i) with
 | some (some (.ref a))=>a
 | _=>0
def Cof (K:Frag):La
 | 900=>3
 | 901=>(tabOf K "_law_behind").2
 | 903=>(tabOf K "_law_did").2
 | 905=>(tabOf K "law").2
 | i=>CofN K i
theorem cof {i:Nat}{a:Addr}(h:Ng K x (some (.ref a)))(hx:cname i=x:=by rfl)(hi:Cof K i=CofN K i:=by rfl):Cof K i=a:=by rw[hi];unfold CofN;rw[hx,h]
structure Fds (K:Frag)(mg:KW):Prop where
 F20:Fd K mg "is_whole" ["thing"] iW
 F21:Fd K mg "is_worth" ["thing"] iX
 F22:Fd K mg "is_size" ["thing"] kj
 F23:Fd K mg "is_tree" ["size","thing","is_end"] kl
 F24:Fd K mg "is_sized_tree" ["thing","is_end"] cI
 F25:Fd K mg "put_together" ["four"] dh
 F26:Fd K mg "lean_tree" ["tree"] gE
 F105:Fd K mg "quarters_in" ["tree"] dW
 F27:Fd K mg "is_picture" ["thing"] fB
 F28:Fd K mg "check_picture" ["thing"] cJ
 F29:Fd K mg "lean" ["picture"] t0
 F69:Fd K mg "moved_tree" ["tree","order"] fC
 F70:Fd K mg "moved" ["picture","order"] qh
 F125:Fd K mg "turned" ["picture"] mt
 F84:Fd K mg "mirrored" ["picture"] iY
 F127:Fd K mg "check_way" ["thing"] gF
 F128:Fd K mg "by_way" ["picture","way"] mw
 F146:Fd K mg "first_worth" ["one","other"] dX
 F147:Fd K mg "last_worth" ["one","other"] fD
 F148:Fd K mg "least_worth" ["one","other"] dY
 F149:Fd K mg "greatest_worth" ["one","other"] cc
 F150:Fd K mg "sum_worth" ["one","other"] gG
 F151:Fd K mg "times_worth" ["one","other"] dZ
 F152:Fd K mg "less_worth" ["one","other"] fE
 F153:Fd K mg "same_worth" ["one","other"] fF
 F154:Fd K mg "check_word" ["thing","words"] fG
 F155:Fd K mg "check_rule" ["thing"] fH
 F158:Fd K mg "check_sizes" ["things"] d0
 F159:Fd K mg "check_pictures" ["pictures"] ce
 F160:Fd K mg "joined_tree" ["make","one","other"] d6
 F161:Fd K mg "joined" ["rule","one","other"] mB
 F280:Fd K mg "is_name" ["thing"] kq
 F334:Fd K mg "check_name" ["thing"] fI
 F30:Fd K mg "_law_cell" ["_law_script","_law_k"] mC
 F31:Fd K mg "_law_pick" ["_law_script","_law_k","_law_many"] mD
 F32:Fd K mg "_law_tree" ["_law_script","_law_at","_law_size"] mE
 F89:Fd K mg "_law_class" ["_law_kept"] kr
 F265:Fd K mg "_law_deed" ["_law_script","_law_at"] mF
 ujc:Fd K mg "_law_behind" ["_law_known","_law_deed_here"] fU
 ujx:Fd K mg "_law_did" ["_law_album","_law_deed_here"] kz
 ujd:Fd K mg "_law_all_of" ["_law_album"] fV
 F_law_k83:Fd K mg "law" ["_law_script"] ba
 uj3:Fd K mg "_law_told" ["_law_deed_here"] jy
structure Mds (K:Frag)(mg:KW):Prop where
 uj1:Kl K mg (Cof K) 12 "Steps" "Steps.__init__" ["self","first"] fJ
 uje:Md K (Cof K) 12 "here" "Steps.here" ["self"] fK
 uq1:Md K (Cof K) 12 "go_on" "Steps.go_on" ["self","page"] d7
 ujf:Md K (Cof K) 12 "back" "Steps.back" ["self"] fL
 uq2:Md K (Cof K) 12 "forth" "Steps.forth" ["self"] d8
 uq3:Md K (Cof K) 12 "marks" "Steps.marks" ["self"] d9
 ujg:Md K (Cof K) 12 "twin" "Steps.twin" ["self"] fM
 uj2:Kl K mg (Cof K) 13 "Album" "Album.__init__" ["self"] fN
 uq4:Md K (Cof K) 13 "begin" "Album.begin" ["self","held"] ef
 uqv:Md K (Cof K) 13 "pictures" "Album.pictures" ["self"] cf
 uq5:Md K (Cof K) 13 "go_on" "Album.go_on" ["self","word","name","picture"] eg
 ujo:Md K (Cof K) 13 "put" "Album.put" ["self","name","picture"] gN
 uqt:Md K (Cof K) 13 "picture_of" "Album.picture_of" ["self","name"] bH
 ujh:Md K (Cof K) 13 "take" "Album.take" ["self","name"] fP
 uji:Md K (Cof K) 13 "join" "Album.join" ["self","name","rule","one","other"] fQ
 ujj:Md K (Cof K) 13 "move" "Album.move" ["self","name","way"] fR
 uq6:Md K (Cof K) 13 "names" "Album.names" ["self"] eD
 ujk:Md K (Cof K) 13 "back" "Album.back" ["self"] fS
 uq7:Md K (Cof K) 13 "forth" "Album.forth" ["self"] eE
 uq8:Md K (Cof K) 13 "marks" "Album.marks" ["self"] eF
 ujl:Md K (Cof K) 13 "twin" "Album.twin" ["self"] fT
 ukx:NoAttr K (Cof K 12) "pages"
 uky:NoAttr K (Cof K 12) "place"
 ukz:NoAttr K (Cof K 13) "steps"
theorem E5 {m:Str}{an:Option Addr}{kV:Value}(hx:cname c=x)
  (hb:∀ (kV doc pm:Value) (an:Option Addr) (J4 ct:Value) (us:List Value),us.length=ps.length->bindArgs (fnOf m qual (defArgs st) (defBody st) (defScope st) .none kV doc pm an J4 ct) ⟨us,[]⟩=pure (ps.zip us))
  (z:Ng K x (some (.ref Ck))) (a:findIn K (.ref Ck) m=some (some (.ref f))) (i:isFn K (.ref f)=true) (l:K.lookup f=some ⟨oc,od,.func (fnOf m qual (defArgs st) (defBody st) (defScope st) .none kV doc pm an J4 ct),osl⟩) (c':codeIn K J4 qual=true) (k:keepIn K (.ref f)=true) (hi:Cof K c=CofN K c:=by rfl):Md K (Cof K) c m qual ps st :=
 ⟨f,_,iN l c' k,by rw[cof z hx hi];exact⟨a,i,k⟩,(iN l c' k).binds hb⟩
theorem E6 {h:Heap}{an:Option Addr}{kV:Value}(X:K.In h)(G:h.Ns mainGlobals mg)(hx:cname c=x)
  (hb:∀ (kV doc pm:Value) (an:Option Addr) (J4 ct:Value) (us:List Value),us.length=ps.length->bindArgs (fnOf "__init__" qual (defArgs st) (defBody st) (defScope st) .none kV doc pm an J4 ct) ⟨us,[]⟩=pure (ps.zip us))
  (z:Ng K x (some (.ref Ck))) (a:findIn K (.ref Ck) "__init__"=some (some (.ref f))) (i:isFn K (.ref f)=true) (l:K.lookup f=some ⟨oc,od,.func (fnOf "__init__" qual (defArgs st) (defBody st) (defScope st) .none kV doc pm an J4 ct),osl⟩) (c':codeIn K J4 qual=true) (k:keepIn K (.ref f)=true)
  (pg:plainGet K Ck Str.empty=true) (hd:PySem.W.hasDictIn K Ck=true) (po:plainOver K Ck=true) (sa:findIn K (.ref Ck) "__setattr__"=some (some (.builtin "object.__setattr__"))) (mk:makesIn K Ck=true) (kc:keepIn K (.ref Ck)=true) (hi:Cof K c=CofN K c:=by rfl):Kl K mg (Cof K) c x qual ps st :=
 ⟨⟨f,_,iN l c' k,by rw[cof z hx hi];exact⟨mk,a,i,kc⟩,by rw[cof z hx hi];exact mg_of X G z,(iN l c' k).binds hb⟩,by rw[cof z hx hi];exact⟨pg,hd,po,sa⟩⟩
theorem E7 {a:Str}(hx:cname c=x)(z:Ng K x (some (.ref Ck)))(n:findIn K (.ref Ck) a=some none)(hi:Cof K c=CofN K c:=by rfl):NoAttr K (Cof K c) a:=by rw[cof z hx hi];exact n
theorem tab {P:Program}{w:World}{K:Frag}{mg:KW}{base:Heap}{C:La}(T:Txt K mg C w.params)(S:Fds K mg):∀ n,Tab P w K mg base C n (pf n)
 | 0=>⟨g0 S.F20,g0 S.F21,g0 S.F22,g0 S.F23,g0 S.F24,g0 S.F25,g0 S.F26,g0 S.F105,g0 S.F27,g0 S.F28,g0 S.F29,g0 S.F69,g0 S.F70,g0 S.F125,g0 S.F84,g0 S.F127,g0 S.F128,g0 S.F146,g0 S.F147,g0 S.F148,g0 S.F149,g0 S.F150,g0 S.F151,g0 S.F152,g0 S.F153,g0 S.F154,g0 S.F155,g0 S.F158,g0 S.F159,g0 S.F160,g0 S.F161,g0 S.F280,g0 S.F334,g0 S.F30,g0 S.F31,g0 S.F32,g0 S.F265,
  λi hi=>by
  simp only[fvL,Gi,HB,Ju]at hi;rcases hi with rfl | rfl | rfl | rfl | rfl | rfl | rfl | rfl | rfl
  ·exact jb S.F21 T.f_is_worth
  ·exact jb S.F146 T.f_first_worth
  ·exact jb S.F147 T.f_last_worth
  ·exact jb S.F148 T.f_least_worth
  ·exact jb S.F149 T.f_greatest_worth
  ·exact jb S.F150 T.f_sum_worth
  ·exact jb S.F151 T.f_times_worth
  ·exact jb S.F152 T.f_less_worth
  ·exact jb S.F153 T.f_same_worth⟩
 | n+1=>by
  have G:=tab T S n (P:=P) (w:=w) (base:=base);exact⟨g1 S.F20 (rV T G),g1 S.F21 (kN T G),g1 S.F22 (t5 T G),g1 S.F23 (t6 T G),g1 S.F24 (ku T G),g1 S.F25 (kY T G),g1 S.F26 (qk T G),g1 S.F105 (mG T G),g1 S.F27 (nU T G),g1 S.F28 (kx T G),g1 S.F29 (BM T G),g1 S.F69 (nV T G),g1 S.F70 (zg T G),g1 S.F125 (wQ T G),g1 S.F84 (rW T G),g1 S.F127 (ql T G),g1 S.F128 (wR T G),g1 S.F146 (gJ T G),g1 S.F147 (iC T G),g1 S.F148 (gK T G),g1 S.F149 (dO T G),g1 S.F150 (jv T G),g1 S.F151 (gL T G),g1 S.F152 (iD T G),g1 S.F153 (iE T G),g1 S.F154 (nW T G),g1 S.F155 (nX T G),g1 S.F158 (mH T G),g1 S.F159 (jw T G),g1 S.F160 (mI T G),g1 S.F161 (wT T G),g1 S.F280 (t7 T G),g1 S.F334 (nY T G),g1 S.F30 (wU T G),g1 S.F31 (wV T G),g1 S.F32 (wW T G),g1 S.F265 (wX T G),
  λi hi=>by
  simp only[fvL,Gi,HB,Ju]at hi;rcases hi with rfl | rfl | rfl | rfl | rfl | rfl | rfl | rfl | rfl
  ·exact jc S.F21 T.f_is_worth (kN T G) (λds h=>EJ h)
  ·exact jc S.F146 T.f_first_worth (gJ T G) (λds h=>kJ h)
  ·exact jc S.F147 T.f_last_worth (iC T G) (λds h=>kJ h)
  ·exact jc S.F148 T.f_least_worth (gK T G) (λds h=>kJ h)
  ·exact jc S.F149 T.f_greatest_worth (dO T G) (λds h=>kJ h)
  ·exact jc S.F150 T.f_sum_worth (jv T G) (λds h=>kJ h)
  ·exact jc S.F151 T.f_times_worth (gL T G) (λds h=>kJ h)
  ·exact jc S.F152 T.f_less_worth (iD T G) (λds h=>kJ h)
  ·exact jc S.F153 T.f_same_worth (iE T G) (λds h=>kJ h)⟩
structure Lms (K:Frag)(mg:KW):Prop where
 x0:mg "_law_behind"=some (.ref (Cof K 902))
 l0:LamK K (Cof K) 0
 x1:mg "_law_did"=some (.ref (Cof K 904))
 l1:LamK K (Cof K) 1
 x2:mg "law"=some (.ref (Cof K 906))
 l2:LamK K (Cof K) 2
theorem tabQ (T:Txt K mg (Cof K) w.params)(S:Fds K mg)(S2:Mds K mg)(LM:Lms K mg)(bm:BMn mg base)(n:Nat):TabQ P w K mg base (Cof K) n (pf n) (pr n) (pw n):=Nat.strongRecOn n λn ih=>match n,ih with
 | 0,_=>⟨n0 S2.uj1,e0 S2.uje T.uqq,m0 S2.uq1,m0 S2.ujf,m0 S2.uq2,e0 S2.uq3 T.uqq,m0 S2.ujg,n0 S2.uj2,m0 S2.uq4,e0 S2.uqv T.uqc,m0 S2.uq5,m0 S2.ujo,es0 S2.uqt T.uqc,m0 S2.ujh,m0 S2.uji,m0 S2.ujj,e0 S2.uq6 T.uqc,m0 S2.ujk,m0 S2.uq7,e0 S2.uq8 T.uqc,m0 S2.ujl,wS S.ujc,wS S.ujx,wS S.ujd,DV S.F89,S.uj3⟩
 | 1,ih=>by
  have G:=tab T S 0 (P:=P) (w:=w) (base:=base);have Q:=ih 0 (by omega);exact⟨n1 S2.uj1 (eG T G Q),e1 S2.uje T.uqq (eI T G Q),m1 S2.uq1 (di T G Q),m1 S2.ujf (eJ T G Q),m1 S2.uq2 (dl T G Q),e1 S2.uq3 T.uqq (dq T G Q),m1 S2.ujg (eL T G Q),n1 S2.uj2 (eM T G Q),m1 S2.uq4 (dr T G Q),e1 S2.uqv T.uqc (bW T G Q),m1 S2.uq5 (du T G Q),m1 S2.ujo (fW T G Q),es1 S2.uqt T.uqc (bt T G Q),m1 S2.ujh (eN T G Q),m1 S2.uji (eO T G Q),m1 S2.ujj (eQ T G Q),e1 S2.uq6 T.uqc (dz T G Q),m1 S2.ujk (eR T G Q),m1 S2.uq7 (dA T G Q),e1 S2.uq8 T.uqc (dB T G Q),m1 S2.ujl (eS T G Q),wS S.ujc,wS S.ujx,w1 S.ujd (eT T G Q),tG S.F89 bh (gO T),S.uj3⟩
 | 2,ih=>by
  have G:=tab T S 1 (P:=P) (w:=w) (base:=base);have Q:=ih 1 (by omega);exact⟨n1 S2.uj1 (eG T G Q),e1 S2.uje T.uqq (eI T G Q),m1 S2.uq1 (di T G Q),m1 S2.ujf (eJ T G Q),m1 S2.uq2 (dl T G Q),e1 S2.uq3 T.uqq (dq T G Q),m1 S2.ujg (eL T G Q),n1 S2.uj2 (eM T G Q),m1 S2.uq4 (dr T G Q),e1 S2.uqv T.uqc (bW T G Q),m1 S2.uq5 (du T G Q),m1 S2.ujo (fW T G Q),es1 S2.uqt T.uqc (bt T G Q),m1 S2.ujh (eN T G Q),m1 S2.uji (eO T G Q),m1 S2.ujj (eQ T G Q),e1 S2.uq6 T.uqc (dz T G Q),m1 S2.ujk (eR T G Q),m1 S2.uq7 (dA T G Q),e1 S2.uq8 T.uqc (dB T G Q),m1 S2.ujl (eS T G Q),wS S.ujc,wS S.ujx,w1 S.ujd (eT T G Q),tG S.F89 bh (gO T),S.uj3⟩
 | m+3,ih=>by
  have G:=tab T S (m+2) (P:=P) (w:=w) (base:=base);have Q:=ih (m+2) (by omega);have G0:=tab T S m (P:=P) (w:=w) (base:=base);have Q0:=ih m (by omega);exact⟨n1 S2.uj1 (eG T G Q),e1 S2.uje T.uqq (eI T G Q),m1 S2.uq1 (di T G Q),m1 S2.ujf (eJ T G Q),m1 S2.uq2 (dl T G Q),e1 S2.uq3 T.uqq (dq T G Q),m1 S2.ujg (eL T G Q),n1 S2.uj2 (eM T G Q),m1 S2.uq4 (dr T G Q),e1 S2.uqv T.uqc (bW T G Q),m1 S2.uq5 (du T G Q),m1 S2.ujo (fW T G Q),es1 S2.uqt T.uqc (bt T G Q),m1 S2.ujh (eN T G Q),m1 S2.uji (eO T G Q),m1 S2.ujj (eQ T G Q),e1 S2.uq6 T.uqc (dz T G Q),m1 S2.ujk (eR T G Q),m1 S2.uq7 (dA T G Q),e1 S2.uq8 T.uqc (dB T G Q),m1 S2.ujl (eS T G Q),wl1 S.ujc (i:=0) LM.x0 LM.l0 bm (og T G0 Q0),wl1 S.ujx (i:=1) LM.x1 LM.l1 bm (t9 T G0 Q0),w1 S.ujd (eT T G Q),tG S.F89 bh (gO T),S.uj3⟩
theorem Ei {h:Heap}{fa f1 f17 f18 f19 f20 f21 f22 f23 f24 f38 C0 C1 C2 C3 C4 C5 C6 C7 C8 C9 C10 C11 lf0 lf1:Addr}(X:K.In h)(G:h.Ns mainGlobals mg)(hfa:mg "law"=some (.ref fa))(S:Fds K mg)(S2:Mds K mg)
  {od38 an38:Option Addr} {sl38:Array (Lm)} {oc38 kV38 dc38 pm38 cd38 ct38:Value} {uka uki ukj uza uzi uxt:Tok} {ujy uj8:Addr} {ukk uk0:Nat} {ukl uk1:Array (Lm)} {ukb ukc ukd uke ukm ukn uko ukp:Tok} {td_RULES:Addr} {dn_RULES:Nat} {dt_RULES_0 dt_RULES_1 dt_RULES_2 dt_RULES_3 dt_RULES_4 dt_RULES_5 dt_RULES_6 dt_RULES_7:Tok}
  (z0:Ng K "is_worth" (some (.ref f1)))
  (z1:Ng K "first_worth" (some (.ref f17)))
  (z2:Ng K "last_worth" (some (.ref f18)))
  (z3:Ng K "least_worth" (some (.ref f19)))
  (z4:Ng K "greatest_worth" (some (.ref f20)))
  (z5:Ng K "sum_worth" (some (.ref f21)))
  (z6:Ng K "times_worth" (some (.ref f22)))
  (z7:Ng K "less_worth" (some (.ref f23)))
  (z8:Ng K "same_worth" (some (.ref f24)))
  (z9:Ng K "law" (some (.ref f38)))
  (z10:K.lookup f38=some ⟨oc38,od38,.func (fnOf "law" "law" (defArgs ba) (defBody ba) (defScope ba) .none kV38 dc38 pm38 an38 cd38 ct38),sl38⟩)
  (z11:codeIn K cd38 "law"=true)
  (z12:keepIn K (.ref f38)=true)
  (z13:Ng K "_law_behind" (some (.ref lf0)))
  (z14:tabOkB K "_law_behind"=true)
  (z15:Ng K "_law_did" (some (.ref lf1)))
  (z16:tabOkB K "_law_did"=true)
  (z17:tabOkB K "law"=true)
  (z18:tabsApart K ["_law_behind","_law_did","law"]=true)
  (z19:Ng K "ValueError" none)
  (z20:Ng K "abs" none)
  (z21:Ng K "all" none)
  (z22:Ng K "bool" none)
  (z23:Ng K "dict" none)
  (z24:Ng K "int" none)
  (z25:Ng K "isinstance" none)
  (z26:Ng K "len" none)
  (z27:Ng K "list" none)
  (z28:Ng K "max" none)
  (z29:Ng K "min" none)
  (z30:Ng K "range" none)
  (z31:Ng K "sorted" none)
  (z32:Ng K "str" none)
  (z33:Ng K "tuple" none)
  (z34:Ng K "zip" none)
  (z35:Ng K "GREATEST_WORTH" (some (.int 9 uka)))
  (z36:Ng K "LARGEST_SIZE" (some (.int 3 uki)))
  (z37:Ng K "LONGEST_NAME" (some (.int 5 ukj)))
  (z38:Ng K "TURNS" (some (.int 4 uza)))
  (z39:Ng K "WAYS" (some (.int 8 uzi)))
  (z40:Ng K "LETTERS" (some (.str "abcdefghijklmnopqrstuvwxyz" uxt)))
  (z41:Ng K "BY_MIRRORING" (some (.ref ujy)))
  (z42:K.lookup ujy=some ⟨.type "tuple",none,.seq #[.int 1 ukb,.int 0 ukc,.int 3 ukd,.int 2 uke] ukk,ukl⟩)
  (z43:Ng K "BY_TURNING" (some (.ref uj8)))
  (z44:K.lookup uj8=some ⟨.type "tuple",none,.seq #[.int 2 ukm,.int 0 ukn,.int 3 uko,.int 1 ukp] uk0,uk1⟩)
  (z45:Ng K "RULES" (some (.ref td_RULES)))
  (z46:K.lookup td_RULES=some ⟨.type "dict",none,.dict #[⟨PyData.keyHash w.params "first",.str "first" dt_RULES_0,.ref f17⟩,⟨PyData.keyHash w.params "last",.str "last" dt_RULES_1,.ref f18⟩,⟨PyData.keyHash w.params "least",.str "least" dt_RULES_2,.ref f19⟩,⟨PyData.keyHash w.params "greatest",.str "greatest" dt_RULES_3,.ref f20⟩,⟨PyData.keyHash w.params "sum",.str "sum" dt_RULES_4,.ref f21⟩,⟨PyData.keyHash w.params "times",.str "times" dt_RULES_5,.ref f22⟩,⟨PyData.keyHash w.params "less",.str "less" dt_RULES_6,.ref f23⟩,⟨PyData.keyHash w.params "same",.str "same" dt_RULES_7,.ref f24⟩] dn_RULES,#[]⟩)
  (z47:(td_RULES==sysModules)=false)
  (z48:Ng K "FourError" (some (.ref C0)))
  (z49:Ng K "NoPicture" (some (.ref C1)))
  (z50:Ng K "NoSpot" (some (.ref C2)))
  (z51:Ng K "BadBox" (some (.ref C3)))
  (z52:Ng K "Unlike" (some (.ref C4)))
  (z53:Ng K "NoRule" (some (.ref C5)))
  (z54:Ng K "NoBlocks" (some (.ref C6)))
  (z55:Ng K "NoChange" (some (.ref C7)))
  (z56:Ng K "NoNumber" (some (.ref C8)))
  (z57:Ng K "NothingDone" (some (.ref C9)))
  (z58:Ng K "NoText" (some (.ref C10)))
  (z59:Ng K "NoName" (some (.ref C11)))
  (z60:excAllB K (Cof K) esL [1,2,3,4,5,6,7,8,9,10,11]=true) :
  ∃ fd:FuncData,(∀ (s:Shared) (v:Value),BindsTo s fd ⟨[v],[]⟩ [("_law_script",v)])/\∀ base:Heap,K.In base->base.Ns mainGlobals mg->BMn mg base->FnOk l.prog w K mg base (CXE l.prog w) 40 fa fd ["_law_script"] (spG K (Cof K) 1 (pw 40 Lw.M.law_k83)):=by
 have e:=hfa.symm.trans (mg_of X G z9);cases e;have uxh:Cof K 0=C0:=cof z48;have uxi:Cof K 1=C1:=cof z49;have uzb:Cof K 2=C2:=cof z50;have uzc:Cof K 3=C3:=cof z51;have uzd:Cof K 4=C4:=cof z52;have uze:Cof K 5=C5:=cof z53;have uxu:Cof K 6=C6:=cof z54;have uxv:Cof K 7=C7:=cof z55;have uxw:Cof K 8=C8:=cof z56;have uk2:Cof K 9=C9:=cof z57;have uzf:Cof K 10=C10:=cof z58;have uzg:Cof K 11=C11:=cof z59;have T:Txt K mg (Cof K) w.params:=⟨mg_none_of X G z19,
  mg_none_of X G z20,
  mg_none_of X G z21,
  mg_none_of X G z22,
  mg_none_of X G z23,
  mg_none_of X G z24,
  mg_none_of X G z25,
  mg_none_of X G z26,
  mg_none_of X G z27,
  mg_none_of X G z28,
  mg_none_of X G z29,
  mg_none_of X G z30,
  mg_none_of X G z31,
  mg_none_of X G z32,
  mg_none_of X G z33,
  mg_none_of X G z34,
  ⟨_,mg_of X G z35⟩,
  ⟨_,mg_of X G z36⟩,
  ⟨_,mg_of X G z37⟩,
  ⟨_,mg_of X G z38⟩,
  ⟨_,mg_of X G z39⟩,
  ⟨_,mg_of X G z40⟩,
  ⟨_,mg_of X G z41,_,_,_,z42,rfl,rfl,rfl,by show 4<=sizeLine;decide,(.cons ⟨_,rfl⟩ (.cons ⟨_,rfl⟩ (.cons ⟨_,rfl⟩ (.cons ⟨_,rfl⟩ .nil))))⟩,
  ⟨_,mg_of X G z43,_,_,_,z44,rfl,rfl,rfl,by show 4<=sizeLine;decide,(.cons ⟨_,rfl⟩ (.cons ⟨_,rfl⟩ (.cons ⟨_,rfl⟩ (.cons ⟨_,rfl⟩ .nil))))⟩,
  ⟨_,mg_of X G z45,_,_,z46,⟨⟨_,_,rfl,rfl⟩,⟨⟨_,_,rfl,rfl⟩,⟨⟨_,_,rfl,rfl⟩,⟨⟨_,_,rfl,rfl⟩,⟨⟨_,_,rfl,rfl⟩,⟨⟨_,_,rfl,rfl⟩,⟨⟨_,_,rfl,rfl⟩,⟨⟨_,_,rfl,rfl⟩,trivial⟩⟩⟩⟩⟩⟩⟩⟩,⟨⟨_,rfl⟩,GA Value.ref (cof (i:=F.ao) z1).symm,⟨⟨_,rfl⟩,GA Value.ref (cof (i:=F.aq) z2).symm,⟨⟨_,rfl⟩,GA Value.ref (cof (i:=F.ap) z3).symm,⟨⟨_,rfl⟩,GA Value.ref (cof (i:=F.af) z4).symm,⟨⟨_,rfl⟩,GA Value.ref (cof (i:=F.av) z5).symm,⟨⟨_,rfl⟩,GA Value.ref (cof (i:=F.ai) z6).symm,⟨⟨_,rfl⟩,GA Value.ref (cof (i:=F.ak) z7).symm,⟨⟨_,rfl⟩,GA Value.ref (cof (i:=F.al) z8).symm,trivial⟩⟩⟩⟩⟩⟩⟩⟩,by decide +kernel,by decide,z47⟩,
  (by rw[cof (i:=F.ay) z0];exact mg_of X G z0),
  (by rw[cof (i:=F.ao) z1];exact mg_of X G z1),
  (by rw[cof (i:=F.aq) z2];exact mg_of X G z2),
  (by rw[cof (i:=F.ap) z3];exact mg_of X G z3),
  (by rw[cof (i:=F.af) z4];exact mg_of X G z4),
  (by rw[cof (i:=F.av) z5];exact mg_of X G z5),
  (by rw[cof (i:=F.ai) z6];exact mg_of X G z6),
  (by rw[cof (i:=F.ak) z7];exact mg_of X G z7),
  (by rw[cof (i:=F.al) z8];exact mg_of X G z8),
  (by rw[uxh];exact mg_of X G z48),
  (by rw[uxi];exact mg_of X G z49),
  (by rw[uzb];exact mg_of X G z50),
  (by rw[uzc];exact mg_of X G z51),
  (by rw[uzd];exact mg_of X G z52),
  (by rw[uze];exact mg_of X G z53),
  (by rw[uxu];exact mg_of X G z54),
  (by rw[uxv];exact mg_of X G z55),
  (by rw[uxw];exact mg_of X G z56),
  (by rw[uk2];exact mg_of X G z57),
  (by rw[uzf];exact mg_of X G z58),
  (by rw[uzg];exact mg_of X G z59),
  eX z60 1 (by decide),
  eX z60 2 (by decide),
  eX z60 4 (by decide),
  eX z60 5 (by decide),
  eX z60 9 (by decide),
  eX z60 11 (by decide),
  bf z60 3 (by decide),
  bf z60 6 (by decide),
  bf z60 7 (by decide),
  bf z60 11 (by decide),
  bf z60 8 (by decide),
  bf z60 1 (by decide),
  bf z60 5 (by decide),
  bf z60 2 (by decide),
  bf z60 10 (by decide),
  bf z60 9 (by decide),
  bf z60 4 (by decide),
  yY z60,
  yZ z60,
  S2.uj1.cls,
  S2.uj2.cls,
  S2.ukx,
  S2.uky,
  S2.ukz⟩
 have FL:=iN (st:=ba) z10 z11 z12;have e902:Cof K 902=_:=cof z13;have e904:Cof K 904=_:=cof z15;have e906:Cof K 906=_:=cof z9;have LI:∀ j,j < (["_law_behind","_law_did","law"]:List Str).length->∃ y,(["_law_behind","_law_did","law"]:List Str)[j]?=some y/\Cof K (901+2*j)=(tabOf K y).2:=λj hj=>match j,hj with
  | 0,_=>⟨_,rfl,rfl⟩
  | 1,_=>⟨_,rfl,rfl⟩
  | 2,_=>⟨_,rfl,rfl⟩
  | n+3,h=>absurd (show Nat.lt (n+3) 3 from h) (Nat.not_lt_of_le (Nat.le_add_left 3 n))
 have LM:Lms K mg:=⟨by rw[e902];exact mg_of X G z13,p6 0 rfl LI rfl e902 z14 z13 z18,by rw[e904];exact mg_of X G z15,p6 1 rfl LI rfl e904 z16 z15 z18,by rw[e906];exact mg_of X G z9,p6 2 rfl LI rfl e906 z17 z9 z18⟩;exact⟨fnOf "law" "law" (defArgs ba) (defBody ba) (defScope ba) .none kV38 dc38 pm38 an38 cd38 ct38,λs v=>.of_eq rfl,λbase _ _ bm=>ub T (tab T S 37) (tabQ T S S2 LM bm 37) FL e906.symm LM.l2 bm⟩
theorem vA {K:Frag}{C:La}{E:L2.XK}{HW Z H:Hp}{P:Wd->FF.D->Hp->Hp->Lh}:∀ {r:RW},All (λ_ d=>d=.bl true) r->(∀ w d Ko Z' H',d=.bl true->P w d Ko Z' H')->WRW K C E HW Z H P r
 | .ok w d,h,k=>λKo Z' H' _ _=>k w d Ko Z' H' h
 | .er _ _,h,_=>h.elim
 | .al w f,h,k=>λa e=>vA (h a e) k
 | .stuck,h,_=>h.elim
theorem walk {q:Program}{Kz:List Str}{XP:(KW)->Heap->Prop}{YP:World->Heap->Prop}{d:DefRec}{K:Params->Frag}(hB:∀ w:World,∀ x∈(["_law_behind","_law_did","law"]:List Str),tabOkB (K w.params) x=true)(hR:∀ x∈(["_law_behind","_law_did","law"]:List Str),((recsOf q).find? (λe=>e.name==x)).isSome=true)(hn:l.most=some 63)(hdf:d.params.defaults=[])
  (hY:∀ (w:World) (h:Heap),YP w h->(K w.params).In h)
  (F:∀ (w:World) (mg:KW) (fa:Addr) (h:Heap),(K w.params).In h->h.Ns mainGlobals mg->mg d.name=some (.ref fa) ->
   ∃ fd:FuncData,(∀ (s:Shared) (u:Value),BindsTo s fd ⟨[u],[]⟩ [("_law_script",u)])/\∀ base:Heap,(K w.params).In base->base.Ns mainGlobals mg->BMn mg base->FnOk l.prog w (K w.params) mg base (CXE l.prog w) 40 fa fd ["_law_script"] (spG (K w.params) (Cof (K w.params)) 1 (pw 40 Lw.M.law_k83))) :
  PySem.W.WalkO q Kz XP YP l.row.toRowW d [] (λf vs=>PySem.call f vs) :=
 L2.yH (tabs:=λw=>(["_law_behind","_law_did","law"]:List Str).map (tabOf (K w.params))) (n:=63) (k:=40) (x := "_law_script") (CX:=λw=>CXE l.prog w) (sp:=λw=>spG (K w.params) (Cof (K w.params)) 1 (pw 40 Lw.M.law_k83))
  (λw _ _ _ _ _ T X=>Bs (hB w) hR T X) (λw q hq=>by obtain⟨x,hx,rfl⟩:=GK.mp hq;exact(lY (hB w x hx)).2.2) hn (by decide) hdf ⟨rfl,by decide,by decide⟩ hY F
  (λw H a ns hl hO hS=>yI hO hS (λi hi=>match i,hi with
   | 0,_=>.head _
   | 1,_=>.tail _ (.head _)
   | 2,_=>.tail _ (.tail _ (.head _))
   | n+3,h=>absurd (show Nat.lt (n+3) 3 from h) (Nat.not_lt_of_le (Nat.le_add_left 3 n))) (λHW Z=>vA (oh ns) (λw d HW Z H' e v rv=>by subst e;rw[Rep]at rv;exact rv)))
  λw H s e s' z=>by obtain⟨_,_,_,_,_,_,_,_,_,_,_,_,_,z⟩:=z;exact z
end Lw
open PySem PySem.W PyProof.Rows
structure PySem.W.Fast:Prop where
 (tw3483703584881263818 tw9562648318236589125 tw13592658192886749031 tw11548181543802136641 tw4934255651785211432 tw8878012594799711437 tw5842498558839339810 tw5342760591521855595 tw10224713346183475742 tw10679669779855538466 tw12984393738071679156 tw16223441239825673981 tw14994244241706810051 tw5490160751701973621 tw2495324431396754000 tw8717388277869169849 tw12548847582275539573 tw15963817118843986303 tw16741385534787296694 tw3926631765258164159 tw4116261256149529612 tw5107052836294279097 tw10590141949641757290 tw8391250667194843004 tw7465075663226091845 tw11001567976087764043 tw505480277343182379 tw9511053840971859890 tw16915837824698121734 tw13690978809193026237 tw12119706167143972606 tw9364541095315621119 tw6045154305644652146 tw1476260754419165797 tw16255906104845218192 tw14767584104923288258 tw2463399686925322376 tw8217650147051069327 tw16884579802895705018 tw9230546596855437572 tw10958690317812568184 tw1688968622729420729 tw5339509436234819879 tw10106599711300623258 tw2144525853053926518 tw18300026991218747370 tw13890409255639500178 tw10287129504714287633 tw13283109752079901491 tw8146466462046459441 tw17174276390987779364 tw608225148278486786 tw1888623461210988033 tw1276186257785548323 tw16758427590007662605 tw18097965130656140807 tw15024902859674145816 tw10380291685350964492 tw2870637873617860489 tw17358492023795555291 tw12977472747153177991 tw14550694488342740849 tw5895992948716975508 tw9749391272586143260 tw15729654945500947063 tw9473286192802621351 tw10509785716710845686 tw1316619408820423607 tw3300559494667453227 tw1115806382547842079 tw8765722295850279258 tw3341885591747663400 tw2975382894122132638 tw16720707135591728239 tw15720118436654276141 tw4287338243736589735 tw2327593684612775207 tw15434144878511590922 tw12686273048854334064 tw9604393113038808638 tw14429729143082781690 tw15791634643328166554 tw16551205469785024923 tw1719927849959006453 tw2194019174832019250 tw9597357526601750058 tw11782337607278816421 tw6545693165661910072 tw1471236733660416762 tw11059714294413425778 tw17269779410026027110 tw10339373070152732846 tw5225574423246279532 tw3781871341241241408 tw5101019396983352075 tw13738878625575364452 tw3504835371818022233 tw8695947938751810236 tw2996386444557176750 tw6700294526658785366 tw15279472665450685826 tw11995606779684382747 tw10460771564945967140 tw6668212292187819953 tw13649512031521664810 tw6338626967084691711 tw6883950934469823006 tw9965528268967500791 tw7811984028499531205 tw12223361149371871317 tw8310300989030467203 tw13873322470598832010 tw16661064682970683371 tw484843951908759827 tw15161858705066548486 tw9944935624878536153 tw3424424146436774761 tw3666734235345611369 tw11821523990390128773 tw740734124131894814 tw11232146212462126358 tw16668496407208058154 tw4080742126989426163 tw6527607084616692357 tw11493228994059084615 tw2503813955752400521 tw7905468549795839980 tw3421435901303075199 tw14351305678044673652 tw16231288311709459397 tw14194189843935721467 tw16585218839781618204 tw5580907719396349466 tw6250332453816254072 tw10123047068559177674 tw14741896597869859441 tw8252754957916597377 tw6763062931498693632 tw15096258208168721324 tw1945277211606237599 tw16879416314880110834 tw18127845338278542368 tw3745856492001045542 tw10988486770387912634 tw5900809074774299748 tw6494506490837242095 tw13465889750135422454 tw10719782537287904044 tw4742472219056918061 tw10335564939075067141 tw5146756149408585482 tw7971083534678028444 tw16514615751835606366 tw2886780018218032519 tw12792088625053152936 tw9100078139819385054 tw12262291140014680955 tw12180603958991525130 tw18043412838052085386 tw1041893794465957844 tw5555171215919437150 tw9569146789169193878 tw935218991093468569 tw3549180620426433939 tw2796694530537092948 tw13218529001048505744 tw8938174661897930675 tw93111201593342494 tw891564617528759532 tw4551118036033122036 tw2660517821616316341 tw13465678243186037503 tw10836341304861670763 tw13088709933995382637 tw4265663345673078854 tw7596549483667539974 tw8509235219777900899 tw4125463680865562417 tw2605467519167403755 tw8733215786094574892 tw18098062593495366739 tw3887216867200716863 tw9850027483673094831 tw10422418556615162142 tw15052733570579334951 tw5795123825237187425 tw4432664100651005039 tw6680842918278968476 tw7742654661026299962 tw14769082003982018563 tw11629844918151621876 tw8845890518015982676 tw17431700914176900913 tw10640123175719669517 tw18332046564675823107 tw2776159382777862108 tw7463055779117794077 tw1932703270544581960 tw8498339889232813716 tw12230024999216635036 tw13991848798331077181 tw12348603040498169020 tw9390565885535072801 tw18169222739875466793 tw3011526878575762049 tw1773356198384440351 tw4758004291337880387 tw4574791882527235731 tw15362517499398520921 tw14082975820070885571 tw1937559034044490706 tw12317615386639861968 tw10667684846590298588 tw12867301106838902345 tw6268580492805198043 tw8994221196650014137 tw12136625384810172121 tw15695038182091928403 tw1254662559788654884 tw12954776139946506461 tw3765930454847072593 tw10113746576766638193 tw3144264342792518812 tw15805886607985871013 tw584761273959216511 tw16971475257013250588 tw15306313491986332861 tw16565151056356392814 tw3930423774886720039 tw7080963627043516740 tw16107378067480517913 tw10051009324497608460 tw8559760809201610562 tw14699715945224933226 tw1108131371837861748 tw3395942947895839071 tw4650737666139726237 tw18280737177482820927 tw16591062241601747076 tw17944713377639868127 tw2214050038515058911 tw368343785429744896:True)
set_option maxRecDepth 100000 in
set_option maxHeartbeats 0 in
theorem PySem.Challenge.cw_fourfold_k83_whole_album_twins_holds : PySem.Challenge.rw_fourfold_k83_whole_album_twins.Holds := by
 w_on;o_law;k_head;(case hw=>w_witness2)
 k_fill
 refine Lw.walk (l:=PySem.Challenge.rw_fourfold_k83_whole_album_twins) ?B ?R rfl rfl (λw h Y=>by first | exact PySem.W.km_in_of Y | exact PySem.W.kIn_of Y) ?F
 case B =>
  intro w x hx
  simp only[Gi,HB,Ju]at hx
  rcases hx with rfl | rfl | rfl<;>kernel_rfl
 case R =>
  intro x hx
  simp only[Gi,HB,Ju]at hx
  rcases hx with rfl | rfl | rfl<;>rfl
 case F =>
  intro w mg fa h KX G hmg
  refine' Lw.Ei KX G hmg ?S ?S2 ?z0 ?z1 ?z2 ?z3 ?z4 ?z5 ?z6 ?z7 ?z8 ?z9 ?z10 ?z11 ?z12 ?z13 ?z14 ?z15 ?z16 ?z17 ?z18 ?z19 ?z20 ?z21 ?z22 ?z23 ?z24 ?z25 ?z26 ?z27 ?z28 ?z29 ?z30 ?z31 ?z32 ?z33 ?z34 ?z35 ?z36 ?z37 ?z38 ?z39 ?z40 ?z41 ?z42 ?z43 ?z44 ?z45 ?z46 ?z47 ?z48 ?z49 ?z50 ?z51 ?z52 ?z53 ?z54 ?z55 ?z56 ?z57 ?z58 ?z59 ?z60
  case S =>
   constructor
   all_goals
    refine' FF.EL KX G (λ_ _ _ _ _ _ us hl=>by first | (obtain⟨_,rfl⟩:=FF.ln1 hl;rfl) | (obtain⟨_,_,rfl⟩:=FF.ln2 hl;rfl) | (obtain⟨_,_,_,rfl⟩:=FF.ln3 hl;rfl) | (obtain⟨_,_,_,_,rfl⟩:=FF.ln4 hl;rfl) | (obtain⟨_,_,_,_,_,rfl⟩:=FF.ln5 hl;rfl) | (cases Hk.mp hl;rfl)) ?a ?l ?c ?k
    (case a|l|c|k=>k_is)
  case S2 =>
   constructor
   all_goals first | (refine' Lw.E5 rfl (λ_ _ _ _ _ _ us hl=>by first | (obtain⟨_,rfl⟩:=FF.ln1 hl;rfl) | (obtain⟨_,_,rfl⟩:=FF.ln2 hl;rfl) | (obtain⟨_,_,_,rfl⟩:=FF.ln3 hl;rfl) | (obtain⟨_,_,_,_,rfl⟩:=FF.ln4 hl;rfl) | (obtain⟨_,_,_,_,_,rfl⟩:=FF.ln5 hl;rfl)) ?z ?a ?i ?l ?c ?k;(case z=>show _=_;k_is);(case a|i|l|c|k=>k_is)) | (refine' Lw.E7 rfl ?z ?n;(case z=>show _=_;k_is);(case n=>k_is)) | (refine' Lw.E6 KX G rfl (λ_ _ _ _ _ _ us hl=>by first | (obtain⟨_,rfl⟩:=FF.ln1 hl;rfl) | (obtain⟨_,_,rfl⟩:=FF.ln2 hl;rfl) | (obtain⟨_,_,_,rfl⟩:=FF.ln3 hl;rfl) | (obtain⟨_,_,_,_,rfl⟩:=FF.ln4 hl;rfl) | (obtain⟨_,_,_,_,_,rfl⟩:=FF.ln5 hl;rfl)) ?z ?a ?i ?l ?c ?k ?pg ?hd ?po ?sa ?mk ?kc;(case z=>show _=_;k_is);(case a|i|l|c|k|pg|hd|po|sa|mk|kc=>k_is))
  (case z0|z1|z2|z3|z4|z5|z6|z7|z8|z9=>show _=_;k_is)
  (case z10|z11|z12=>k_is)
  (case z13=>show _=_;k_is)
  (case z14=>kernel_rfl)
  (case z15=>show _=_;k_is)
  (case z16|z17|z18=>kernel_rfl)
  (case z19|z20|z21|z22|z23|z24|z25|z26|z27|z28|z29|z30|z31|z32|z33|z34|z35|z36|z37|z38|z39|z40|z41=>show _=_;k_is)
  (case z42=>k_is)
  (case z43=>show _=_;k_is)
  (case z44=>k_is)
  (case z45=>show _=_;k_is)
  (case z46=>k_is)
  (case z47=>first | rfl | decide)
  (case z48|z49|z50|z51|z52|z53|z54|z55|z56|z57|z58|z59=>show _=_;k_is)
  (case z60=>kernel_rfl)
end
