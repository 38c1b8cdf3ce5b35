
import PyProof.Rows.All
import Wide.All
import OpenK.AllK
import Wide.FinOn
import PyProof.EqAt
import PyProof.EqKinds
import PyProof.TupleCall
import PyProof.TupleKey
import PyProof.NeKinds
import PyProof.ExcArgsOwn
import PyProof.ExcAttrAll.ValueError
import PyProof.IsiH_tuple
import PyProof.Rows.TopTwo
import PyProof.ExcBaseAll.ValueError
import PyProof.RulesAs
import PyProof.RulesDel
import PyProof.Rows.Catch
import PyProof.WalkInts
import PyProof.SumWalkG
import PyProof.Rows.TupAssign
import PyProof.FactsAll.tuple_1
import PyProof.FactsAll.tuple_2
import PyProof.FactsAll.tuple_3
import PyProof.ZipIter
import PyProof.Rows.ZipGen
import PyProof.Draws
import PyProof.EnumMake
import PyProof.LayNew
import OpenK.KTop
import PyProof.DictWalks
import PyProof.ListRange
import PyProof.Rows.SortWalk
import PyProof.Rows.Range3
import PyProof.MinMaxWalk
import PyProof.SetKind
import PyProof.Rows.SetFrom
import PyProof.CollectWalk
import PyProof.FactsAll.set_1
import PyProof.FactsAll.set_2
import PyProof.StrCalls
import PyProof.StrBlock
import PyProof.StrBlockH
import PyProof.FactsAll.list_3
import KE.KMinKey
import PyProof.DictRoadsH
import KE.KLam
import KE.KDictOf
import PyProof.StrWalks
import PyProof.Rows.SortStr
import PyProof.StrCalls2
import PyProof.FString
import PyProof.AttrMissSeq
import KE.KItemsList
import KE.KEqDict
import PyProof.Commute
import PyProof.FactsAll.list_4
import KE.KSortTup
import PyProof.MeetsSeq3
import Lean
import PySem.Challenge.RW_fourfold_k62_whole_areas
set_option genSizeOf false
set_option bootstrap.genMatcherCode false
set_option compiler.postponeCompile true
set_option compiler.extract_closed false
set_option Elab.async false
set_option linter.all false
set_option maxRecDepth 100000
set_option linter.all false
def YJ (h:True:=by first|exact .inl rfl|exact .inr rfl | assumption):=h
def YY:Lean.Syntax:=YJ._auto_1
def YU (h:True:=by decide):=h
def YQ:Lean.Syntax:=YU._auto_1
def YK (h:True:=by intro _;rfl):=h
def YZ:Lean.Syntax:=YK._auto_1
def YX (h:True:=by rfl):=h
def YW:Lean.Syntax:=YX._auto_1
def YV (h:True:=by with_unfolding_all rfl):=h
def YG:Lean.Syntax:=YV._auto_1
def Yj (h:True:=by first|exact Or.inl rfl|exact Or.inr (Or.inl rfl)|exact Or.inr (Or.inr rfl)):=h
def Yq:Lean.Syntax:=Yj._auto_1
def Yk (h:True:=by intro _ _;rfl):=h
def Yz:Lean.Syntax:=Yk._auto_1
def Yu (h:True:=by first|exact Or.inl rfl|exact Or.inr rfl):=h
def Yy:Lean.Syntax:=Yu._auto_1
def ZY (h:True:=by first|exact .inl rfl|exact .inr rfl):=h
def Yw:Lean.Syntax:=ZY._auto_1
def ZQ (h:True:=by first | rfl | assumption):=h
def ZJ:Lean.Syntax:=ZQ._auto_1
def ZZ (h:True:=by decide +kernel):=h
def ZU:Lean.Syntax:=ZZ._auto_1
noncomputable section
def Hk:=@PySem.wpAny_bind
def Hl:=@List.length_map
def Hn:=@PySem.Heap.get?_push_of_some
def Ho:=@List.mem_cons
def Hq:=@List.map_cons
def Hr:=@Nat.le_refl
def Hs:=@List.size_toArray
def Ht:=@ite_false
def Hu:=@if_false
def Hv:=@decide_eq_false
def Hw:=@PySem.wpAny_pure
def Hx:=@if_true
def Hy:=@ite_true
def Hz:=@decide_eq_true
def HA:=@And.intro
def HB:=@List.length_cons
def HC:=@PySem.Heap.lt_size
def HD:=@Bool.and_eq_true
def HE:=@List.mem_singleton
def HF:=@List.mem_map
def HG:=@List.mem_range
def HH:=@decide_eq_true_eq
def HI:=@List.mem_append
def HJ:=@List.length_append
def HK:=@Nat.le_trans
def HL:=@List.getElem?_set_self
def HM:=@List.getElem?_eq_some_iff
def HN:=@Nat.lt_of_lt_of_le
def HP:=@PySem.Heap.get?_push_size
def HQ:=@Nat.ne_of_lt
def HR:=@List.getElem?_set_ne
def HS:=@List.all_eq_true
def HU:=@List.getElem?_eq_getElem
def HV:=@PySem.sizeLine_eq
def HX:=@List.map_map
def HY:=@List.flatten_cons
def HZ:=@List.not_mem_nil
def Ia:=@List.mem_filter
def Ib:=@Bool.false_ne_true
def Ic:=@PySem.AutoSeq1.sub_tuple_tuple
def Ie:=@List.map_append
def Ig:=@List.length_range
def Ih:=@List.mem_cons_self
def Ii:=@List.length_eq_zero_iff
def Ij:=@List.nil_append
def Ik:=@of_decide_eq_true
def Il:=@List.mem_cons_of_mem
def Im:=@PySem.wpAny_mono
def Io:=@List.mem_append_right
def Ip:=@List.length_nil
def Iq:=@PySem.mem_of_lookup
def Ir:=@List.getElem?_map
def Iu:=@List.append_assoc
def Iw:=@PyProof.Rows.slot_tuple_getitem
def Ix:=@List.mem_append_left
def Iy:=@List.pairwise_cons
def Iz:=@Bool.decide_and
def IA:=@Nat.zero_le
def IB:=@decide_eq_decide
def IC:=@PySem.wpAny_truthy_bool
def ID:=@Array.size_map
def IE:=@Bool.eq_iff_iff
def IG:=@List.map_nil
def IH:=@List.append_nil
def II:=@PySem.call_meets
def IJ:=@Option.map_some
def IK:=@List.lookup_cons
def IL:=@Bool.not_true
def IM:=@Nat.mul_le_mul
def IN:=@PySem.wpAny_callSpecial?_slot
def IP:=@or_false
def IQ:=@Option.some.inj
def IR:=@List.nodup_cons
def IS:=@List.foldl_cons
def IT:=@List.range_succ
def IU:=@List.replicate_succ
def IV:=@List.map_congr_left
def IW:=@PySem.AutoSeq1.sub_list_list
def IY:=@List.getD_eq_getElem?_getD
def IZ:=@congrArg
def Ja:=@PySem.AutoSeq1.idx_int
def Jb:=@Nat.div_eq_of_lt
def Jc:=@List.mem_flatten
def Jd:=@Ne.symm
def Je:=@List.getElem?_eq_none
def Jf:=@Nat.le_of_ble_eq_true
def Jg:=@List.getElem?_append_left
def Jh:=@PySem.wpAny_newObj_type
def Ji:=@PySem.wpAny_loadPart_at
def Jj:=@List.pairwise_map
def Jk:=@PySem.F.plainAttrs_list
def Jl:=@Std.Legacy.Range.forIn_eq_forIn_range'
def Jm:=@PySem.wpAny_call_entry
def Jn:=@True.intro
def Jo:=@PyProof.Rows.callWith_type1
def Jp:=@PySem.wpAny_passesOwn
def Jq:=@List.length_replicate
def Jr:=@List.pairwise_flatten
def Js:=@PySem.wpAny_holding
def Jt:=@List.getElem?_append_right
def Ju:=@List.all_cons
def Jv:=@PySem.F.slot_tuple_iterator_next
def Jw:=@List.perm_ext_iff_of_nodup
def Jx:=@Int.toNat_natCast
def Jy:=@List.drop_eq_getElem_cons
def Jz:=@List.pairwise_append
def JA:=@Nat.le_succ
def JB:=@PySem.Heap.size_push
def JC:=@PySem.F.args_tuple_mul_2
def JD:=@List.any_eq_true
def JE:=@Bool.not_eq_true
def JF:=@Nat.mod_eq_of_lt
def JG:=@List.mem_flatMap
def JH:=@Array.length_toList
def JI:=@List.getElem?_replicate
def JJ:=@PySem.F.entry_tuple_mul
def JK:=@Nat.add_sub_cancel_left
def JL:=@Nat.lt_irrefl
def JM:=@Bool.or_eq_true
def JN:=@Bool.false_eq_true
def JO:=@PySem.wpAny_pyIter_tuple
def JP:=@List.find?_cons
def JQ:=@Option.map_none
def JR:=@PySem.wpAny_field
def JS:=@PySem.F.slot_tuple_mul
def JT:=@List.filter_eq_nil_iff
def JV:=@List.flatMap_cons
def JW:=@Nat.succ_mul
def JY:=@Nat.mul_comm
def JZ:=@PySem.F.slot_int_rmul
def J0:=@Array.getD_eq_getD_getElem?
def J4:=@List.length_take
def J8:=@List.mem_iff_getElem
def J9:=@List.getElem_mem
def Ka:=@List.map_flatMap
def Kb:=@List.mem_erase_of_ne
def Kc:=@PySem.F.excBase_ValueError
def Kd:=@List.exists_cons_of_ne_nil
def Ke:=@PySem.Heap.SameBut.update
def Kf:=@PySem.wpAny_execs_nil
def Kg:=@List.forIn_cons
def Kh:=@Option.isSome_iff_exists
def Ki:=@PySem.F.args_tuple_add_2
def Kj:=@List.zip_cons_cons
def Kk:=@List.length_erase_of_mem
def Kl:=@PySem.F.entry_tuple_add
def Km:=@PySem.AutoSeq1.sub_tuple_list
def Ko:=@PySem.AutoSeq1.sub_list_tuple
def Kp:=@List.pairwise_singleton
def Kq:=@Array.size_append
def Kr:=@Option.some.injEq
def Ks:=@Bool.eq_false_iff
def Kt:=@Nat.le_of_lt_succ
def Ku:=@Function.comp_def
def Kv:=@PySem.F.slot_tuple_add
def Kw:=@List.range_succ_eq_map
def Kx:=@List.not_of_lt_findIdx
def Kz:=@List.length_pos_of_mem
def KA:=@Bool.and_true
def KB:=@List.getElem_inj
def KC:=@List.cons_append
def KD:=@List.filter_cons
def KF:=@PySem.F.slot_enumerate_next
def KG:=@Bool.beq_eq_decide_eq
def KH:=@List.length_singleton
def KI:=@List.length_filter_le
def KJ:=@Nat.le_of_lt
def KL:=@List.findIdx_getElem
def KM:=@Nat.add_zero
def KN:=@Nat.add_comm
def KP:=@Nat.pow_succ
def KQ:=@Nat.pow_le_pow_right
def KR:=@List.filterMap_cons
def KS:=@List.eraseDups_cons
def KT:=@List.getElem?_range
def KU:=@List.flatMap_append
def KY:=@Prod.ext
def KZ:=@PySem.F.args_tuple_iterator_next_1
def K0:=@List.mem_filterMap
def K1:=@PySem.wpAny_Call_Name_kw
def K2:=@List.lookup_append
def K3:=@PySem.F.entry_tuple_iterator_next
def K4:=@PySem.tupleKind_room_in1
def K5:=@Nat.mod_eq_sub_mod
def K6:=@decide_eq_true_iff
def K7:=@PySem.Calls.Name_function_global
def K8:=@List.any_cons
def K9:=@Array.perm_iff_toList_perm
def La:=@List.Pairwise.nil
def Lb:=@PySem.wpAny_pyIter_list
def Lc:=@List.ext_getElem?
def Ld:=@Nat.lt_succ_of_lt
def Le:=@Array.map_extract
def Lf:=@Nat.add_div_right
def Lg:=@List.Pairwise.imp
def Lh:=@List.nodup_append
def Li:=@List.getElem?_eq_none_iff
def Lj:=@PySem.typeIs_int
def Lk:=@beq_iff_eq
def Ll:=@PySem.wpAny_binaryOp_repeat_ref
def Lm:=@PySem.Calls.call_function_entry
def Ln:=@Nat.max_lt
def Lo:=@PySem.concat_meets
def Lp:=@PySem.noFill_tuple_add
def Lq:=@List.length_drop
def Lr:=@Option.getD_none
def Ls:=@beq_self_eq_true
def Lu:=@PySem.wpAny_comprehension_free
def Lv:=@Nat.sub_zero
def Ly:=@Array.toList_map
def Lz:=@List.all_nil
def LA:=@List.Pairwise.imp_of_mem
def LB:=@PySem.F.args_int_rmul_2
def LC:=@PySem.F.slot_list_index
def LD:=@List.filter_cons_of_neg
def LF:=@List.filter_cons_of_pos
def LG:=@List.of_mem_zip
def LH:=@PySem.codeAny_builtin
def LI:=@StateT.run_bind
def LJ:=@PySem.W.cellsFrom_some
def LK:=@PyProof.Rows.subscriptTail_builtinR
def LL:=@PySem.Heap.get?_update_other
def LM:=@PySem.F.slot_int_index
def LN:=@PySem.F.entry_int_rmul
def LO:=@List.drop_eq_nil_of_le
def LP:=@List.pairwise_lt_range
def LQ:=@Nat.mod_eq_zero_of_dvd
def LR:=@PySem.wpAny_isTrue_Compare1
def LS:=@PySem.Heap.get?_update_self
def LU:=@Bool.and_false
def LV:=@PySem.F.fills_int_mul
def LX:=@PySem.F.typeOf_object_class
def LY:=@PySem.F.slot_enumerate_iter
def LZ:=@PySem.F.slot_dict_len
def L5:=@PySem.W.kas_swaps_map
def L6:=@Bool.decide_or
def L7:=@List.pairwise_flatMap
def L9:=@List.Perm.append_left
def Ma:=@PySem.wpAny_standAt
def Mb:=@PySem.seq_tuple_add
def Mc:=@Bool.or_false
def Md:=@PySem.F.slot_gs_get
def Me:=@PyProof.Rows.listUpdate_at
def Mf:=@List.sum_cons
def Mg:=@Bool.true_and
def Mh:=@PySem.codeAny_mono
def Mi:=@PySem.wpAny_typeOf
def Mj:=@PySem.seqIndex_neg
def Mk:=@Nat.lt_asymm
def Ml:=@PySem.W.looks_findIn
def Mm:=@Nat.zero_add
def Mn:=@List.any_map
end
section
open PySem PySem.Spec
abbrev MJ:=Value->Shared->Prop
abbrev MK:=Str->Option Value
abbrev MN:=Nat->Addr
abbrev MO:=Nat->Nat->Int
abbrev MT:=Shared->Prop
abbrev MZ:=List (Addr×Obj)
abbrev Na:=Option Value
abbrev Nc:=List Stmt
abbrev Nd:=List Expr
end
noncomputable abbrev PySem.Shared.zz (s:PySem.Shared):Nat:=s.heap.objs.size
open PySem.W (codeIn excIn fnOf hideAll keepIn kia_one kitOne mg_none_of mg_of nsIn typeIn Frag subIn findIn clsIn OpenLaw)
noncomputable section
namespace L2
open PySem PySem.Spec PyProof.Rows
section
abbrev Key:=Sum Int Str
noncomputable def Q4:Key->Value->Bool
 | .inl k,v=>Value.isInt k v
 | .inr x,v=>Value.isStrOf x v
noncomputable def SM (w:World):Key->Int
 | .inl k=>hashInt k
 | .inr x=>hashStr w x
theorem bg:∀ {k:Key} {v:Value},Q4 k v=true->(∃ i t,k=Sum.inl i/\v=Value.int i t)\/(∃ x t,k=Sum.inr x/\v=Value.str x t)
 | .inl i,v,h=>by
  obtain⟨t,e⟩:=Value.isInt_shape h;exact .inl ⟨i,t,rfl,e⟩
 | .inr x,v,h=>by
  obtain⟨t,e⟩:=Value.isStrOf_shape h;exact .inr ⟨x,t,rfl,e⟩
def D7 (a b:Int):decide ((Sum.inl a:Key)=Sum.inl b)=(a==b):=by grind
def D8 (a b:Str):decide ((Sum.inr a:Key)=Sum.inr b)=decide (a=b):=by grind
def D9 (a:Int)(b:Str):decide ((Sum.inl a:Key)=Sum.inr b)=false:=Hv (λq=>nomatch q)
def Ea (a:Str)(b:Int):decide ((Sum.inr a:Key)=Sum.inl b)=false:=Hv (λq=>nomatch q)
noncomputable def PR (prog:Program)(w:World):PySem.KeyKind prog w Key where
 is:=Q4
 hash:=SM w
 inj:=λv a b ha hb=>by
  rcases bg ha with ⟨i,t,rfl,rfl⟩ | ⟨x,t,rfl,rfl⟩
  ·rcases bg hb with ⟨j,u,rfl,e⟩ | ⟨y,u,rfl,e⟩
   ·injection e with e1 _;rw[e1]
   ·exact nomatch e
  ·rcases bg hb with ⟨j,u,rfl,e⟩ | ⟨y,u,rfl,e⟩
   ·exact nomatch e
   ·injection e with e1 _;rw[e1]
 byValue:=λk v h=>by
  rcases bg h with ⟨i,t,rfl,rfl⟩ | ⟨x,t,rfl,rfl⟩<;>rfl
 pyHash:=λhv h=>by
  rcases bg hv with ⟨i,t,rfl,rfl⟩ | ⟨x,t,rfl,rfl⟩
  ·exact wpAny_pyHash_int h
  ·exact wpAny_pyHash_str h
 eqBool:=λhu hv h=>by
  rcases bg hu with ⟨i,t,rfl,rfl⟩ | ⟨x,t,rfl,rfl⟩
  ·rcases bg hv with ⟨j,u,rfl,rfl⟩ | ⟨y,u,rfl,rfl⟩
   ·rw[D7]at h;exact wpAny_eqBool_int h
   ·rw[D9]at h;exact SeqAt.EqAt.int_str i t y u _ _ _ _ h
  ·rcases bg hv with ⟨j,u,rfl,rfl⟩ | ⟨y,u,rfl,rfl⟩
   ·rw[Ea]at h;exact SeqAt.EqAt.str_int x t j u _ _ _ _ h
   ·rw[D8]at h;exact wpAny_eqBool_str h
 «strs»:=λk x t v h=>by
  rcases bg h with ⟨i,u,rfl,e⟩ | ⟨y,u,rfl,e⟩
  ·exact nomatch e
  ·injection e with e1 _
   subst e1;cases v<;>rfl
end
section
variable {a b x e:Addr}{h h':Heap}{P:Program}{w:World}{its:Array Value}
inductive V where
 | non | bl (b:Bool) | int (i:Int) | str (x:Str) | byt (b:Array UInt8) | flt (b:UInt64) | ref (a:Addr) | ty (n:String)
 deriving DecidableEq
def RelV:V->Value->Prop
 | .non,u=>u=Value.none
 | .bl b,u=>u=Value.bool b
 | .int i,u=>∃ t,u=Value.int i t
 | .str x,u=>∃ t,u=Value.str x t
 | .byt b,u=>∃ t,u=Value.bytes b t
 | .flt b,u=>∃ t,u=Value.float b t
 | .ref a,u=>u=Value.ref a
 | .ty n,u=>u=Value.type n
abbrev Vals:List V->List Value->Prop:=Paired RelV
def Vals.length {xs:List V}{us:List Value}(r:Vals xs us):xs.length=us.length:=Paired.length r
theorem Vals.get:∀ {xs:List V} {us:List Value} {i:Nat} {x:V},Vals xs us->xs[i]?=some x->∃ u,us[i]?=some u/\RelV x u
 | _,_,_,_,.nil,e=>by simp at e
 | _,_,0,_,.cons r _,e=>by simp at e;subst e;exact⟨_,rfl,r⟩
 | _,_,i+1,x,.cons _ t,e=>by
  obtain⟨u,h1,h2⟩:=Vals.get t (by simpa using e);exact⟨u,by simpa using h1,h2⟩
theorem Vals.set {x:V}{u:Value}(r:RelV x u):∀ {xs:List V} {us:List Value} (i:Nat),Vals xs us->Vals (xs.set i x) (us.set i u)
 | _,_,_,.nil=>.nil
 | _,_,0,.cons _ t=>.cons r t
 | _,_,i+1,.cons q t=>.cons q (Vals.set r i t)
theorem Vals.append:∀ {xs ys:List V} {us ws:List Value},Vals xs us->Vals ys ws->Vals (xs++ys) (us++ws)
 | _,_,_,_,.nil,s=>s
 | _,_,_,_,.cons r t,s=>.cons r (Vals.append t s)
theorem Vals.take:∀ {xs:List V} {us:List Value} (n:Nat),Vals xs us->Vals (xs.take n) (us.take n)
 | _,_,0,_=>.nil
 | _,_,_+1,.nil=>.nil
 | _,_,n+1,.cons r t=>.cons r (Vals.take n t)
theorem Vals.drop:∀ {xs:List V} {us:List Value} (n:Nat),Vals xs us->Vals (xs.drop n) (us.drop n)
 | _,_,0,r=>r
 | _,_,_+1,.nil=>.nil
 | _,_,n+1,.cons _ t=>Vals.drop n t
def Vals.none_of:∀ {xs:List V} {us:List Value} {i:Nat},Vals xs us->xs[i]?=none->us[i]?=none:=λ{xs us i} r e=>by
 have h1:=r.length;have h2:xs.length<=i:=Li.mp e;exact Li.mpr (by omega)
def RelO:Option V->Option Value->Prop
 | some v,some u=>RelV v u
 | none,none=>True
 | _,_=>False
def KV {κ:Type}:List (κ×V)->List (κ×Value)->Prop:=Paired λ(p:κ×V) (q:κ×Value)=>p.1=q.1/\RelV p.2 q.2
noncomputable def kV:Key->V
 | .inl i=>.int i
 | .inr x=>.str x
inductive HO where
 | lst (xs:List V)
 | tup (xs:List V)
 | dK (kvs:List (Key×V)) | dT (kvs:List (List Key×V))
 | set (S:Int->Bool) (n:Nat)
 | ins (C dx:Addr) (fs:List (Str×V))
 | own (x:Addr)
 | xd (fs:List (Str×V))
 | met (f x:Addr)
 | rng (lo hi:Int)
 | frz (o:Obj) (u:HO)
 | tbl (ps:Array Value)
 | ext (φ:Heap->Prop)
variable {o:HO}
abbrev Hp:=Addr->Option HO
variable {H:Hp}
noncomputable def upd (H:Hp)(a:Addr)(o:HO):Hp:=λb=>if b=a then some o else H b
def az :upd H a o a=some o:=by unfold upd;rw[if_pos rfl]
def aE (h:b≠a):upd H a o b=H b:=by unfold upd;rw[if_neg h]
def ce (h:H a=some o)(h':H b=none):a≠b:=by grind
def TupO (h:Heap)(a:Addr)(its:Array Value):Prop:=∃ o,h.get? a=some o/\o.cls=.type "tuple" /\ o.dict=none/\∃ n,o.data=.seq its n
def TupO.is (p:TupO h a its):IsTup h a its:=let ⟨o,e,c,_,d⟩:=p;⟨o,e,c,d⟩
def TupO.lt (p:TupO h a its):a < h.objs.size:=p.is.lt
def TupO.new (h:Heap)(its:Array Value):TupO (h.push { cls:=.type "tuple",data:=.seq its }) h.objs.size its:=⟨_,HP _ rfl,rfl,rfl,_,rfl⟩
section
variable (P:Program)(w:World)
def ObjOk (H:Hp)(h:Heap)(a:Addr):HO->Prop
 | .lst xs=>xs.length<=sizeLine/\∃ (its:List Value) (n:Nat),Vals xs its/\h.get? a=some { cls:=.type "list",data:=.seq its.toArray n }
 | .tup xs=>xs.length<=sizeLine/\∃ its:List Value,Vals xs its/\TupO h a its.toArray
 | .dK kvs=>kvs.length<=sizeLine/\(a==sysModules)=false/\∃ vs,KV kvs vs/\h.DictOf (PR P w) a vs
 | .dT kvs=>kvs.length<=sizeLine/\(a==sysModules)=false/\∃ xs:List (List Key×Addr×Value),
   Paired (λ(p:List Key×V) (q:List Key×Addr×Value)=>p.1=q.1/\H q.2.1=some (.tup (p.1.map kV))/\RelV p.2 q.2.2) kvs xs /\
   ∃ o es ep,h.get? a=some o/\o.ExactDict/\o.data=.dict es ep/\es.toList=xs.map (entryOfKey (tupleKind (PR P w)))/\(xs.map (·.1)).Nodup
 | .set S n=>h.SetOf (intKind P w) a S n
 | .ins C dx fs=>H dx=some (.own a)/\fs.length<=1000/\dx≠a/\h.get? a=some (PySem.W.instObj C dx) /\
   ∃ mA,h.Ns1 dx mA/\(∀ f,RelO (fs.lookup f) (mA f))/\PySem.Within mA (fs.map (·.1))
 | .own _=>∃ o,h.get? a=some o
 | .xd fs=>∃ mA,h.Ns1 a mA/\∀ f,RelO (fs.lookup f) (mA f)
 | .rng lo hi=>∃ t u v,h.get? a=some { cls:=.type "range",data:=.fields #[.int lo t,.int hi u,.int 1 v] }
 | .frz o u=>h.get? a=some o/\ObjOk H h a u
 | .tbl ps=>h.get? a=some { cls:=.none,data:=.fields ps }
 | .met f x=>h.get? a=some (PySem.W.methodObj (.ref f) (.ref x))
 | .ext φ=>φ h/\(∃ o,h.get? a=some o)/\∀ h1 h2:Heap,φ h1->(∀ o,h1.get? a=some o->h2.get? a=some o)->φ h2
def HOk (H:Hp)(h:Heap):Prop:=∀ a o,H a=some o->ObjOk P w H h a o
end
section
variable {H':Hp}
def ObjOk.lt (x:ObjOk P w H h a o):a < h.objs.size:=by
 cases o with
 | lst xs=>obtain⟨_,_,_,_,e⟩:=x;exact HC e
 | tup xs=>obtain⟨_,_,_,p⟩:=x;exact p.lt
 | dK kvs=>obtain⟨_,_,_,_,o,_,_,e,_⟩:=x;exact HC e
 | dT kvs=>obtain⟨_,_,_,_,o,_,_,e,_⟩:=x;exact HC e
 | set S n=>obtain⟨o,_,_,_,e,_⟩:=x;exact HC e
 | ins C dx fs=>obtain⟨_,_,_,e,_⟩:=x;exact HC e
 | own y=>obtain⟨_,e⟩:=x;exact HC e
 | xd fs=>obtain⟨_,⟨_,_,_,e,_⟩,_⟩:=x;exact HC e
 | rng lo hi=>obtain⟨_,_,_,e⟩:=x;exact HC e
 | frz ob u=>obtain⟨e,_⟩:=x;exact HC e
 | tbl ps=>exact HC (show h.get? a=some _ from x)
 | met f y=>exact HC (show h.get? a=some _ from x)
 | ext φ=>obtain⟨_,⟨_,e⟩,_⟩:=x;exact HC e
theorem Paired.mapP {α β:Type}{F G:α->β->Prop}:∀ {l₁:List α} {l₂:List β},Paired F l₁ l₂->(∀ a b,F a b->G a b)->Paired G l₁ l₂
 | _,_,.nil,_=>.nil
 | _,_,.cons r t,f=>.cons (f _ _ r) (Paired.mapP t f)
def ObjOk.stay (x:ObjOk P w H h a o)(k:∀ b u,(b=a\/H b=some (.own a))->h.get? b=some u->h'.get? b=some u)
  (ho:∀ b,H b=some (.own a)->H' b=some (.own a)) (ht:∀ b xs,H b=some (.tup xs)->H' b=some (.tup xs)):ObjOk P w H' h' a o:=by
 induction o with
 | lst xs=>obtain⟨z,its,n,r,e⟩:=x;exact⟨z,its,n,r,k _ _ (.inl rfl) e⟩
 | tup xs=>obtain⟨z,its,r,ob,e,c⟩:=x;exact⟨z,its,r,ob,k _ _ (.inl rfl) e,c⟩
 | dK kvs=>obtain⟨z,y,vs,r,ob,es,ep,e,c⟩:=x;exact⟨z,y,vs,r,ob,es,ep,k _ _ (.inl rfl) e,c⟩
 | dT kvs =>
  obtain⟨z,y,xs,r,ob,es,ep,e,c⟩:=x;exact⟨z,y,xs,Paired.mapP r λp q z=>⟨z.1,ht _ _ z.2.1,z.2.2⟩,ob,es,ep,k _ _ (.inl rfl) e,c⟩
 | set S n=>obtain⟨ob,es,ep,t,e,c⟩:=x;exact⟨ob,es,ep,t,k _ _ (.inl rfl) e,c⟩
 | ins C dx fs =>
  obtain⟨d,z,ne,e,mA,⟨od,es,ep,e2,c⟩,r⟩:=x;exact⟨ho _ d,z,ne,k _ _ (.inl rfl) e,mA,⟨od,es,ep,k _ _ (.inr d) e2,c⟩,r⟩
 | own y=>obtain⟨ob,e⟩:=x;exact⟨ob,k _ _ (.inl rfl) e⟩
 | xd fs=>obtain⟨mA,⟨od,es,ep,e,c⟩,r⟩:=x;exact⟨mA,⟨od,es,ep,k _ _ (.inl rfl) e,c⟩,r⟩
 | rng lo hi=>obtain⟨t,u,v,e⟩:=x;exact⟨t,u,v,k _ _ (.inl rfl) e⟩
 | frz ob u ih=>obtain⟨e,q⟩:=x;exact⟨k _ _ (.inl rfl) e,ih q⟩
 | tbl ps =>
  have e:=x;exact k a _ (.inl rfl) e
 | met f y =>
  have e:=x;exact k a _ (.inl rfl) e
 | ext φ=>obtain⟨p,⟨o,e⟩,st⟩:=x;exact⟨st _ _ p λo q=>k _ _ (.inl rfl) q,⟨o,k _ _ (.inl rfl) e⟩,st⟩
def HOk.lt (x:HOk P w H h)(e:H a=some o):a < h.objs.size:=(x a o e).lt
def HOk.fresh (x:HOk P w H h)(e:h.objs.size<=a):H a=none:=by
 cases q:H a with
 | none=>rfl
 | some u=>exact absurd (HN (x.lt q) e) (JL _)
def HOk.kept (x:HOk P w H h)(k:∀ b u,h.get? b=some u->h'.get? b=some u):HOk P w H h':=λa o e =>
 (x a o e).stay (λb u _ q=>k b u q) (λ_ q=>q) λ_ _ q=>q
def HOk.laid (x:HOk P w H h)(k:∀ b u,h.get? b=some u->h'.get? b=some u)(hp:h.objs.size<=a)(new:ObjOk P w (upd H a o) h' a o):HOk P w (upd H a o) h':=λb u e=>by
 have hn:=x.fresh hp;by_cases hb:b=a
 ·subst hb;rw[az]at e;cases e;exact new
 ·rw[aE hb]at e;exact(x b u e).stay (λc v _ q=>k c v q) (λc q=>by rw[aE (ce q hn)];exact q) λc xs q=>by rw[aE (ce q hn)];exact q
def Rd (H:Hp)(a:Addr)(u:HO):Prop:=H a=some u\/∃ o,H a=some (.frz o u)
def Rd.ok {u:HO}(r:Rd H a u)(x:HOk P w H h):ObjOk P w H h a u:=by
 rcases r with r | ⟨o,r⟩
 ·exact x a u r
 ·obtain⟨_,q⟩:=x a _ r;exact q
def Mut:Option HO->Prop
 | some (.lst _)=>True
 | some (.dK _)=>True
 | some (.dT _)=>True
 | some (.set _ _)=>True
 | some (.ins _ _ _)=>True
 | some (.ext _)=>True
 | _=>False
variable {o':HO}
def HOk.write (ok:HOk P w H h)(mu:Mut (H x))(he:e=x\/H e=some (.own x))(k:∀ b u,b≠e->h.get? b=some u->h'.get? b=some u)(heo:∃ u,h'.get? e=some u)
  (new:ObjOk P w (upd H x o') h' x o'):HOk P w (upd H x o') h':=λb u q=>by
 have nown:∀ c y,H c=some (.own y)->c≠x:=λc y r z=>by subst z;rw[r]at mu;exact mu
 have ntup:∀ c xs,H c=some (.tup xs)->c≠x:=λc xs r z=>by subst z;rw[r]at mu;exact mu
 by_cases hb:b=x
 ·subst hb;rw[az]at q;cases q;exact new
 ·rw[aE hb]at q;by_cases hbe:b=e
  ·have q':H b=some (.own x):=by
    grind
   rw[q]at q';cases q';obtain⟨v,hv⟩:=heo;exact⟨v,by rw[hbe];exact hv⟩
  ·refine(ok b u q).stay (λc v hc r=>k c v ?_ r) (λc r=>by rw[aE (nown c b r)];exact r) λc xs r=>by rw[aE (ntup c xs r)];exact r
   grind
structure Un (fs ex:List Addr)(H H':Hp)(h h':Heap):Prop where
 keep:∀ b o,h.get? b=some o->H b=none->b∉fs->b∉ex->h'.get? b=some o
 slot:∀ b o,h.get? b=some o->H b=none->b∈fs->b∉ex->∃ sl,h'.get? b=some { o with slots:=sl }
 free:∀ b o,h.get? b=some o->H b=none->b∉ex->H' b=none
 there:∀ b o,h.get? b=some o->b∉ex->∃ o',h'.get? b=some o'
 tups:∀ b xs,H b=some (.tup xs)->H' b=some (.tup xs)
 frzs:∀ b o u,H b=some (.frz o u)->H' b=some (.frz o u)
 tbls:∀ b ps,H b=some (.tbl ps)->∃ more,H' b=some (.tbl (ps++more))
variable {fs fs' ex ex':List Addr}{H1 H2:Hp}{h1 h2:Heap}
def Un.any (u:Un fs ex H H1 h h1){ob:Obj}(q:h.get? b=some ob)(n:H b=none)(hx:b∉ex):∃ sl,h1.get? b=some { ob with slots:=sl }:=by
 by_cases hb:b∈fs
 ·exact u.slot b ob q n hb hx
 ·exact⟨ob.slots,u.keep b ob q n hb hx⟩
def Un.trans (a:Un fs ex H H1 h h1)(b:Un fs ex H1 H2 h1 h2):Un fs ex H H2 h h2 where
 keep:=λc ob q n hc hx=>b.keep c ob (a.keep c ob q n hc hx) (a.free c ob q n hx) hc hx
 slot:=λc ob q n hc hx=>by
  obtain⟨sl,e1⟩:=a.slot c ob q n hc hx;obtain⟨sl',e2⟩:=b.slot c _ e1 (a.free c ob q n hx) hc hx;exact⟨sl',e2⟩
 free:=λc ob q n hx=>by
  obtain⟨o',e1⟩:=a.there c ob q hx;exact b.free c o' e1 (a.free c ob q n hx) hx
 there:=λc ob q hx=>by
  obtain⟨o',e1⟩:=a.there c ob q hx;exact b.there c o' e1 hx
 tups:=λc xs q=>b.tups c xs (a.tups c xs q)
 frzs:=λc ob xs q=>b.frzs c ob xs (a.frzs c ob xs q)
 tbls:=λc ps q=>by
  obtain⟨m1,e1⟩:=a.tbls c ps q;obtain⟨m2,e2⟩:=b.tbls c _ e1;exact⟨m1++m2,by rw[e2,Array.append_assoc]⟩
def Un.kept (k:∀ b u,h.get? b=some u->h'.get? b=some u):Un fs ex H H h h' :=
 ⟨λb ob q _ _ _=>k b ob q,λb ob q _ _ _=>⟨ob.slots,k b ob q⟩,λ_ _ _ n _=>n,λb ob q _=>⟨ob,k b ob q⟩,λ_ _ q=>q,λ_ _ _ q=>q,λ_ ps q=>⟨#[],by rw[q];simp⟩⟩
def Un.refl:Un fs ex H H h h:=Un.kept λ_ _ q=>q
def Un.laid (k:∀ b u,h.get? b=some u->h'.get? b=some u)(hp:h.objs.size<=a)(hn:H a=none):Un fs ex H (upd H a o) h h' where
 keep:=λb u q _ _ _=>k b u q
 slot:=λb u q _ _ _=>⟨u.slots,k b u q⟩
 free:=λb u q n _=>by rw[aE (HQ (HN (HC q) hp))];exact n
 there:=λb u q _=>⟨u,k b u q⟩
 tups:=λb xs q=>by rw[aE (ce q hn)];exact q
 frzs:=λb u xs q=>by rw[aE (ce q hn)];exact q
 tbls:=λb ps q=>⟨#[],by rw[aE (ce q hn),q];simp⟩
def Un.write (mu:Mut (H x))(he:e=x\/H e=some (.own x))(k:∀ b u,b≠e->h.get? b=some u->h'.get? b=some u)(heo:∃ u,h'.get? e=some u):Un fs ex H (upd H x o) h h':=by
 have hx:∀ b,H b=none->b≠x:=λb n z=>by subst z;rw[n]at mu;exact mu
 have hb:∀ b,H b=none->b≠e:=λb n z=>by
  subst z;rcases he with r | r
  ·exact hx b n r
  ·rw[n]at r;cases r
 have hm:∀ b u,H b=some u->¬ Mut (some u)->b≠x:=λb u q nm z=>by subst z;rw[q]at mu;exact nm mu
 refine⟨λb u q n _ _=>k b u (hb b n) q,λb u q n _ _=>⟨u.slots,k b u (hb b n) q⟩,λb u q n _=>by rw[aE (hx b n)];exact n,λb u q _=>?_,
  λb xs q=>by rw[aE (hm b _ q λz=>z)];exact q,λb u xs q=>by rw[aE (hm b _ q λz=>z)];exact q,λb ps q=>⟨#[],by rw[aE (hm b _ q λz=>z),q];simp⟩⟩
 by_cases hbe:b=e
 ·subst hbe;exact heo
 ·exact⟨u,k b u hbe q⟩
end
noncomputable def trk (h:Heap)(H:Hp):List Addr:=(List.range h.objs.size).filter λa=>(H a).isSome
noncomputable def Pe (h:Heap)(H:Hp):Heap:=hideAll h (trk h H)
def xJ (h:Heap)(H:Hp):(Pe h H).objs.size=h.objs.size:=PySem.W.hideAll_size _ _
def zP {o:Obj}(e:h.get? b=some o)(n:H b=none):(Pe h H).get? b=some o :=
 PySem.W.hideAll_get _ e λhm=>by
  have q:=(Ia.mp hm).2;rw[n]at q;simp at q
def Ca {o:Obj}(e:(Pe h H).get? b=some o):h.get? b=some o/\H b=none:=by
 have e':=PySem.W.of_hideAll (trk h H) e;refine⟨e',?_⟩;cases q:H b with
 | none=>rfl
 | some x =>
  have hm:b∈trk h H:=Ia.mpr ⟨HG.mpr (HC e'),by simp[q]⟩;have z:(Pe h H).get? b=none:=PySem.W.hideAll_none (trk h H) hm;rw[z]at e;cases e
noncomputable def QS (g h:Heap)(L:Addr):MZ:=(List.range h.objs.size).filterMap λa=>if a=L\/(g.get? a).isSome=true then none else (h.get? a).map λo=>(a,o)
noncomputable def rest (g h:Heap)(L d:Addr):MZ:=(QS g h L).filter λp=>decide (p.1≠d)
end
section
variable {t' i:Nat}{ch:List Addr}{x:Str}{M:Model}{A:Around}{E:MJ}{s:Shared}{a:Addr}{g':Array GenState}{d':Drawn}{u:Value}
structure Mod (K:Frag)(mg:MK)(base:Heap):Prop where
 kin:K.In base
 glob:base.Ns mainGlobals mg
 blt:∃ mb,base.Ns builtinsNs mb/\∀ x:Str,x ≠ "__name__" -> mb x=bootBuiltins x
 nolimit:base.NoLimit
structure Cx where
 prog:Program
 w:World
 K:Frag
 mg:MK
 base:Heap
 A:Around
 N:List Str
 s₀:Shared
 H₀:Hp
 env:Env
 outer:List Env
 stack:List Env
 ex:List Addr
 fn:Str->Bool
 calm:Bool
 pn:MZ
 xe:MJ
noncomputable def frs (l:List Env):List Addr:=l.filterMap (·.frame)
noncomputable abbrev Cx.fs (X:Cx):List Addr:=frs X.outer
def Vis (sc:Scope)(x:Str):Prop:=sc.names.lookup x=some .local\/sc.names.lookup x=some .cell\/sc.names.lookup x=some .free
def Loc (sc:Scope)(x:Str):Prop:=sc.names.lookup x=some .local\/sc.names.lookup x=some .cell
def SZ (env:Env)(h:Heap)(m:MK)(x:Str)(u:Value):Prop :=
 (env.kindOf x=some .local/\m x=some u)\/((env.kindOf x=some .cell\/env.kindOf x=some .free)/\∃ c,env.cells.lookup x=some c/\h.IsCell c (some u))
structure Cx.Ok (X:Cx):Prop where
 mod:Mod X.K X.mg X.base
 kind:X.env.scope.kind=.function
 glob:X.env.globals=mainGlobals
 blt:X.env.builtins=builtinsNs
 above:X.s₀.heap.objs.size<=X.env.locals
 inj:∀ x y c,X.env.cells.lookup x=some c->X.env.cells.lookup y=some c->x=y
 has:∀ x,(X.env.kindOf x=some .cell\/X.env.kindOf x=some .free)->∃ c,X.env.cells.lookup x=some c
 cab:∀ x c,X.fn x=true->X.env.cells.lookup x=some c->X.s₀.heap.objs.size<=c
 hd:X.calm=true->X.A.handled=none
 frames:X.A.frames=some X.stack
 stk:X.stack=X.outer\/(X.stack=X.env::X.outer/\X.env.frame=some X.env.locals)
 exf:∀ b∈X.ex,b≠X.env.locals/\∀ x c,X.env.cells.lookup x=some c->c≠b
 bs:∀ b o,X.base.get? b=some o->X.s₀.heap.get? b=some o/\X.H₀ b=none
 bsz:X.base.objs.size<=X.s₀.heap.objs.size
 noex:∀ b o,X.base.get? b=some o->b∉X.ex
 exfs:∀ b∈X.ex,b∉X.fs
 funs:X.s₀.heap.FunFrames X.base X.outer
 frf:∀ b∈X.fs,X.H₀ b=none
structure Inv (X:Cx)(am:MZ)(σ:List (Option V))(H:Hp)(s:Shared):Prop where
 ok:X.Ok
 os:s.os=X.s₀.os
 bare:AllBare s.gens
 base:Un X.fs X.ex X.H₀ H X.s₀.heap s.heap
 loc:∃ m,s.heap.Ns X.env.locals m/\∀ (i:Nat) (x:Str) (v:V),X.N[i]?=some x->σ[i]?=some (some v)->Vis X.env.scope x->∃ u,RelV v u/\SZ X.env s.heap m x u
 cell:∀ x c,X.env.cells.lookup x=some c->∃ v,s.heap.IsCell c v
 free:H X.env.locals=none
 freeC:∀ x c,X.env.cells.lookup x=some c->H c=none
 pin:∀ p∈X.pn++am,s.heap.get? p.1=some p.2/\H p.1=none/\p.1≠X.env.locals/\p.1∉X.fs/\∀ v,p.2.data≠.cell v
 hok:HOk X.prog X.w H s.heap
 len:σ.length=X.N.length
section
variable {X:Cx}{am:MZ}{σ:List (Option V)}{H H':Hp}{h':Heap}
def Cx.Ok.nofr (ok:X.Ok){b:Addr}{o:Obj}(e:X.base.get? b=some o):b∉X.fs:=λhb=>by
 have:=(ok.funs.mem hb).1
 grind
def Inv.bs (I:Inv X am σ H s):∀ b o,X.base.get? b=some o->s.heap.get? b=some o/\H b=none:=λb o e =>
 ⟨I.base.keep b o (I.ok.bs b o e).1 (I.ok.bs b o e).2 (I.ok.nofr e) (I.ok.noex b o e),I.base.free b o (I.ok.bs b o e).1 (I.ok.bs b o e).2 (I.ok.noex b o e)⟩
def Inv.bk (I:Inv X am σ H s):∀ b o,X.base.get? b=some o->s.heap.get? b=some o:=λb o e=>(I.bs b o e).1
def Inv.mod (I:Inv X am σ H s):Mod X.K X.mg X.base:=I.ok.mod
def Inv.kIn (I:Inv X am σ H s):X.K.In s.heap:=I.ok.mod.kin.keeps I.bk
def Inv.lt (I:Inv X am σ H s):X.env.locals < s.zz:=let ⟨_,hn,_⟩:=I.loc;hn.lt
def Inv.sz (I:Inv X am σ H s):X.s₀.heap.objs.size<=s.zz:=HK I.ok.above (KJ I.lt)
def Inv.nofs (I:Inv X am σ H s)(h:s.zz<=a):a∉X.fs:=λhb=>by
 obtain⟨_,o,ho,_⟩:=I.ok.funs.mem hb;exact absurd (HN (HC ho) (HK I.sz h)) (JL _)
def Inv.cne (I:Inv X am σ H s):∀ x c,X.env.cells.lookup x=some c->c≠X.env.locals:=λx c e z=>by
 obtain⟨v,o,ho,hd⟩:=I.cell x c e;obtain⟨m,⟨o',es,ep,ho',hd',_⟩,_⟩:=I.loc
 grind
def Inv.funs (I:Inv X am σ H s):s.heap.FunFrames X.base X.outer:=by
 have all:∀ (l:List Env),(∀ b∈frs l,b∈X.fs)->X.s₀.heap.FunFrames X.base l->s.heap.FunFrames X.base l:=by
  intro l
  induction l with
  | nil=>intro _ _;trivial
  | cons env r ih =>
   intro hs hl;obtain⟨hk,⟨L,o,hf,hn,ho,hd⟩,hr⟩:=hl;have hL:L∈X.fs:=hs L (by unfold frs;rw[KR,hf];exact Ih);obtain⟨sl,e⟩:=I.base.slot L o ho (I.ok.frf L hL) hL λz=>I.ok.exfs L z hL
   exact⟨hk,⟨L,_,hf,hn,e,hd⟩,ih (λb hb=>hs b (by unfold frs;rw[KR,hf];exact Il _ hb)) hr⟩
 exact all X.outer (λ_ hb=>hb) I.ok.funs
def Inv.stack (I:Inv X am σ H s):s.heap.FunFrames X.base X.stack:=by
 rcases I.ok.stk with e | ⟨e,hf⟩
 ·rw[e];exact I.funs
 ·rw[e];obtain⟨m,hn,_⟩:=I.loc;refine .cons (by rw[I.ok.kind];decide) hf hn ?_ I.funs;exact Heap.get?_none_of_le (HK I.ok.bsz I.ok.above)
def Inv.stkSub (I:Inv X am σ H s):∀ b∈frs X.stack,b∈X.env.locals::X.fs:=λb hb=>by
 rcases I.ok.stk with e | ⟨e,hf⟩
 ·grind
 ·rw[e]at hb;unfold frs at hb;rw[KR,hf]at hb;exact hb
def Inv.stkFree (I:Inv X am σ H s):∀ b∈frs X.stack,H b=none:=λb hb=>by
 rcases Ho.mp (I.stkSub b hb) with e | hb
 ·rw[e];exact I.free
 ·obtain⟨_,o,ho,_⟩:=I.ok.funs.mem hb;exact I.base.free b o ho (I.ok.frf b hb) λz=>I.ok.exfs b z hb
def Inv.step (I:Inv X am σ H s)
  (hch:∀ b∈ch,(b∈X.ex\/X.s₀.heap.objs.size<=b)/\b≠X.env.locals/\(∀ x c,X.env.cells.lookup x=some c->c≠b)/\∀ p∈X.pn++am,p.1≠b)
  (keep:∀ b o,b≠X.env.locals->b∉X.fs->b∉ch->s.heap.get? b=some o->H b=none->h'.get? b=some o)
  (slot:∀ b o,b≠X.env.locals->b∈X.fs->b∉ch->s.heap.get? b=some o->H b=none->∃ sl,h'.get? b=some { o with slots:=sl }) (free:∀ b o,b∉ch->s.heap.get? b=some o->H b=none->H' b=none)
  (there:∀ b o,b∉ch->s.heap.get? b=some o->∃ o',h'.get? b=some o')
  (tups:∀ b xs,H b=some (.tup xs)->H' b=some (.tup xs)) (frzs:∀ b o u,H b=some (.frz o u)->H' b=some (.frz o u)) (tbls:∀ b ps,H b=some (.tbl ps)->∃ more,H' b=some (.tbl (ps++more)))
  (ns:∀ m,s.heap.Ns X.env.locals m->h'.Ns X.env.locals m) (hok:HOk X.prog X.w H' h') (hg:AllBare g') :
  Inv X am σ H' { s with heap:=h',gens:=g',drawn:=d',toks:=t' }:=by
 have neL:∀ b o,X.s₀.heap.get? b=some o->b≠X.env.locals:=λb o e=>HQ (HN (HC e) I.ok.above)
 have neC:∀ b o,X.s₀.heap.get? b=some o->b∉X.ex->b∉ch:=λb o e hx hb=>by
  rcases(hch b hb).1 with z | z
  ·exact hx z
  ·exact absurd (HN (HC e) z) (JL _)
 have cellK:∀ x c,X.env.cells.lookup x=some c->∀ v,s.heap.IsCell c v->h'.IsCell c v:=λx c e v ⟨o,ho,hd⟩=>by
  have nch:c∉ch:=λz=>(hch c z).2.2.1 x c e rfl
  by_cases hc:c∈X.fs
  ·obtain⟨sl,q⟩:=slot c o (I.cne x c e) hc nch ho (I.freeC x c e);exact⟨_,q,hd⟩
  ·exact⟨o,keep c o (I.cne x c e) hc nch ho (I.freeC x c e),hd⟩
 refine⟨I.ok,I.os,hg,⟨λb o e n hb hx=>?_,λb o e n hb hx=>?_,λb o e n hx=>?_,λb o e hx=>?_,λb xs e=>tups b xs (I.base.tups b xs e),λb o xs e=>frzs b o xs (I.base.frzs b o xs e),λb ps e=>?_⟩,?_,λx c e=>?_,?_,λx c e=>?_,λp hp=>?_,hok,I.len⟩
 ·exact keep b o (neL b o e) hb (neC b o e hx) (I.base.keep b o e n hb hx) (I.base.free b o e n hx)
 ·obtain⟨sl,e1⟩:=I.base.slot b o e n hb hx;obtain⟨sl',e2⟩:=slot b _ (neL b o e) hb (neC b o e hx) e1 (I.base.free b o e n hx);exact⟨sl',e2⟩
 ·obtain⟨o',e1⟩:=I.base.there b o e hx;exact free b o' (neC b o e hx) e1 (I.base.free b o e n hx)
 ·obtain⟨o',e1⟩:=I.base.there b o e hx;exact there b o' (neC b o e hx) e1
 ·obtain⟨m1,e1⟩:=I.base.tbls b ps e;obtain⟨m2,e2⟩:=tbls b _ e1;exact⟨m1++m2,by rw[e2,Array.append_assoc]⟩
 ·obtain⟨m,hn,hl⟩:=I.loc;refine⟨m,ns m hn,λi x v e1 e2 e3=>?_⟩;obtain⟨u,r,l⟩:=hl i x v e1 e2 e3;refine⟨u,r,?_⟩;rcases l with l | ⟨k,c,e,z⟩
  ·exact .inl l
  ·exact .inr ⟨k,c,e,cellK x c e _ z⟩
 ·obtain⟨v,z⟩:=I.cell x c e;exact⟨v,cellK x c e v z⟩
 ·obtain⟨m,⟨o,_,_,ho,_⟩,_⟩:=I.loc;exact free _ o (λz=>(hch _ z).2.1 rfl) ho I.free
 ·obtain⟨v,o,ho,hd⟩:=I.cell x c e;exact free c o (λz=>(hch c z).2.2.1 x c e rfl) ho (I.freeC x c e)
 ·obtain⟨e,n,ne,nf,d⟩:=I.pin p hp;have nch:p.1∉ch:=λz=>(hch p.1 z).2.2.2 p hp rfl
  exact⟨keep p.1 p.2 ne nf nch e n,free p.1 p.2 nch e n,ne,nf,d⟩
def Inv.un (I:Inv X am σ H s)(u:Un X.fs [] H H' s.heap h')(hok:HOk X.prog X.w H' h'):Inv X am σ H' { s with heap:=h',toks:=t' }:=by
 obtain⟨m,⟨o,es,ep,ho,r⟩,_⟩:=id I.loc;obtain⟨sl,hL⟩:=u.any ho I.free (by simp);exact I.step (ch:=[]) (λ_ z=>nomatch z) (λb o _ hb _ e n=>u.keep b o e n hb (by simp)) (λb o _ hb _ e n=>u.slot b o e n hb (by simp)) (λb o _ e n=>u.free b o e n (by simp)) (λb o _ e=>u.there b o e (by simp)) u.tups u.frzs u.tbls (λm' hm=>by
  obtain⟨o',es',ep',ho',r'⟩:=hm;rw[ho]at ho';cases ho';exact⟨_,es',ep',hL,r'⟩) hok I.bare
def Inv.call (I:Inv X am σ H s)(u:Un (frs X.stack) ch H H' s.heap h')(hok:HOk X.prog X.w H' h')(hg:AllBare g')
  (hch:∀ b∈ch,(b∈X.ex\/X.s₀.heap.objs.size<=b)/\b≠X.env.locals/\(∀ x c,X.env.cells.lookup x=some c->c≠b)/\∀ p∈X.pn++am,p.1≠b) :
  Inv X am σ H' { s with heap:=h',gens:=g',drawn:=d',toks:=t' }:=by
 obtain⟨m,⟨o,es,ep,ho,r⟩,_⟩:=id I.loc;obtain⟨sl,hL⟩:=u.any ho I.free λz=>(hch _ z).2.1 rfl
 exact I.step hch (λb o hL hb hc e n=>u.keep b o e n (λz=>(Ho.mp (I.stkSub b z)).elim hL hb) hc) (λb o _ _ hc e n=>u.any e n hc) (λb o hc e n=>u.free b o e n hc) (λb o hc e=>u.there b o e hc) u.tups u.frzs u.tbls (λm' hm=>by
  obtain⟨o',es',ep',ho',r'⟩:=hm;rw[ho]at ho';cases ho';exact⟨_,es',ep',hL,r'⟩) hok hg
def Inv.turned {it:Addr}(I:Inv X am σ H s)(k:∀ b o,b≠it->s.heap.get? b=some o->h'.get? b=some o)(hn:H it=none)(hL:it≠X.env.locals)
  (h1:it∈X.ex\/X.s₀.heap.objs.size<=it) (h2:∀ x c,X.env.cells.lookup x=some c->c≠it) (h3:∀ p∈X.pn++am,p.1≠it):Inv X am σ H { s with heap:=h',toks:=t' }:=by
 have nit:∀ b u,H b=some u->b≠it:=λb u e z=>by rw[z,hn]at e;cases e
 refine I.step (ch:=[it]) (λb hb=>?_) (λb o _ _ hc e _=>k b o (λz=>hc (by simp[z])) e) (λb o _ _ hc e _=>⟨o.slots,k b o (λz=>hc (by simp[z])) e⟩) (λ_ _ _ _ n=>n)
  (λb o hc e=>⟨o,k b o (λz=>hc (by simp[z])) e⟩) (λ_ _ e=>e) (λ_ _ _ e=>e) (λb ps e=>⟨#[],by rw[e];simp⟩) (λm hm=>?_) (λb u e=>?_) I.bare
 ·have e:b=it:=by simpa using hb
  subst e;exact⟨h1,hL,h2,h3⟩
 ·obtain⟨o,es,ep,ho,r⟩:=hm;exact⟨o,es,ep,k _ o (Jd hL) ho,r⟩
 ·refine(I.hok b u e).stay (λc v hc q=>k c v ?_ q) (λ_ q=>q) λ_ _ q=>q
  rcases hc with z | z
  ·rw[z];exact nit b u e
  ·exact nit c _ z
def Inv.tok (I:Inv X am σ H s)(t:Nat):Inv X am σ H { s with toks:=t }:=I.un Un.refl I.hok
def Inv.kept (I:Inv X am σ H s)(k:∀ b u,s.heap.get? b=some u->h'.get? b=some u):Inv X am σ H { s with heap:=h',toks:=t' }:=I.un (Un.kept k) (I.hok.kept k)
def Inv.laid {o:HO}(I:Inv X am σ H s)(k:∀ b u,s.heap.get? b=some u->h'.get? b=some u)(hp:s.zz<=a)(new:ObjOk X.prog X.w (upd H a o) h' a o) :
  Inv X am σ (upd H a o) { s with heap:=h',toks:=t' }:=I.un (Un.laid k hp (I.hok.fresh hp)) (I.hok.laid k hp new)
def Inv.write {x e:Addr}{o:HO}(I:Inv X am σ H s)(mu:Mut (H x))(he:e=x\/H e=some (.own x))(k:∀ b u,b≠e->s.heap.get? b=some u->h'.get? b=some u)(heo:∃ u,h'.get? e=some u)
  (new:ObjOk X.prog X.w (upd H x o) h' x o):Inv X am σ (upd H x o) { s with heap:=h',toks:=t' }:=I.un (Un.write mu he k heo) (I.hok.write mu he k heo new)
def Inv.pins_of {pins':MZ}(I:Inv X am σ H s)(h:∀ p∈pins',s.heap.get? p.1=some p.2/\H p.1=none/\p.1≠X.env.locals/\p.1∉X.fs/\∀ v,p.2.data≠.cell v):Inv X pins' σ H s :=
 ⟨I.ok,I.os,I.bare,I.base,I.loc,I.cell,I.free,I.freeC,λp hp=>(HI.mp hp).elim (λz=>I.pin p (Ix _ z)) (h p),I.hok,I.len⟩
def mM {N:List Str}(hN:N.Nodup){j:Nat}(a:N[i]?=some x)(b:N[j]?=some x):i=j:=by
 obtain⟨h1,e1⟩:=HM.mp a;obtain⟨h2,e2⟩:=HM.mp b;exact(KB hN).mp (e1.trans e2.symm)
abbrev MC (X:Cx)(x:Str):Prop:=X.fn x=true\/X.env.scope.names.lookup x=some .local
def pv {v:V}{Q:Unit->MT}(I:Inv X am σ H s)(hN:X.N.Nodup)(hi:X.N[i]?=some x)(hx:Loc X.env.scope x)(r:RelV v u)
  (h:∀ s',Inv X am (σ.set i (some v)) H s'->(∃ a,Heap.SameBut a s.heap s'.heap/\(a=X.env.locals\/X.env.cells.lookup x=some a))->Q () s') (hf:autoParam (MC X x) YY):wpAny M A (storeName X.env x u) Q E s:=by
 obtain⟨m,hn,hl⟩:=id I.loc;have hcls:(X.env.scope.kind==.class||(X.env.scope.kind==.module&&X.env.locals != X.env.globals))=false:=by rw[I.ok.kind];rfl
 have hiσ:i < σ.length:=by rw[I.len];exact(HM.mp hi).1
 have cne:=I.cne;have tracked:∀ {a:Addr} {h':Heap},(∃ o,s.heap.get? a=some o/\H a=none)->Heap.SameBut a s.heap h'->HOk X.prog X.w H h':=λ{a h'} ha hs b ob e=>by
  obtain⟨_,_,hfree⟩:=ha;refine(I.hok b ob e).stay (λc w' hc q=>(hs.2 c ?_).trans q) (λ_ q=>q) λ_ _ q=>q
  rintro rfl
  rcases hc with rfl | hc
  ·rw[hfree]at e;cases e
  ·rw[hfree]at hc;cases hc
 rcases hx with hk | hk
 ·refine wpAny_storeName_local hk hn (λh' hn' hs=>?_) hcls;obtain⟨oL,_,_,hoL,_⟩:=id hn;refine h _ ⟨I.ok,I.os,I.bare,⟨λb o e n hb hx=>?_,λb o e n hb hx=>?_,I.base.free,λb o e hx=>?_,I.base.tups,I.base.frzs,I.base.tbls⟩,⟨_,hn',λj y v' e1 e2 e3=>?_⟩,λy c e=>?_,I.free,I.freeC,λp hp=>?_,tracked ⟨oL,hoL,I.free⟩ hs,by simpa using I.len⟩ ⟨_,hs,.inl rfl⟩
  ·exact(hs.2 b (HQ (HN (HC e) I.ok.above))).trans (I.base.keep b o e n hb hx)
  ·obtain⟨sl,e1⟩:=I.base.slot b o e n hb hx;exact⟨sl,(hs.2 b (HQ (HN (HC e) I.ok.above))).trans e1⟩
  ·obtain⟨o',e1⟩:=I.base.there b o e hx;exact⟨o',(hs.2 b (HQ (HN (HC e) I.ok.above))).trans e1⟩
  ·by_cases hj:j=i
   ·subst hj;rw[hi]at e1;cases e1;rw[HL hiσ]at e2;cases e2;exact⟨u,r,.inl ⟨hk,by simp⟩⟩
   ·rw[HR (Jd hj)]at e2;obtain⟨u',r',q⟩:=hl j y v' e1 e2 e3;refine⟨u',r',?_⟩;rcases q with ⟨k,e⟩ | ⟨k,c,e,z⟩
    ·refine .inl ⟨k,?_⟩;have:y≠x:=λe=>hj (mM hN e1 (e ▸ hi))
     simp[this,e]
    ·exact .inr ⟨k,c,e,z.sameBut hs (cne y c e)⟩
  ·obtain⟨w',z⟩:=I.cell y c e;exact⟨w',z.sameBut hs (cne y c e)⟩
  ·obtain⟨e,n,ne,nf,d⟩:=I.pin p hp;exact⟨(hs.2 p.1 ne).trans e,n,ne,nf,d⟩
 ·have hfn:X.fn x=true:=by
   rcases hf with z | z
   ·exact z
   ·rw[z]at hk;cases hk
  obtain⟨c,hc⟩:=I.ok.has x (.inl hk);obtain⟨w',z⟩:=I.cell x c hc;refine wpAny_storeName_cell I.ok.kind hk hc z (λh' hc' hs=>?_);obtain⟨oc,hoc,hocd⟩:=id z;refine h { s with heap:=h' } ⟨I.ok,I.os,I.bare,⟨λb o e n hb hx=>?_,λb o e n hb hx=>?_,I.base.free,λb o e hx=>?_,I.base.tups,I.base.frzs,I.base.tbls⟩,⟨m,hn.sameBut hs (Jd (cne x c hc)),λj y v' e1 e2 e3=>?_⟩,λy c' e=>?_,I.free,I.freeC,λp hp=>?_,tracked ⟨oc,hoc,I.freeC x c hc⟩ hs,by simpa using I.len⟩ ⟨c,hs,.inr hc⟩
  ·exact(hs.2 b (HQ (HN (HC e) (I.ok.cab x c hfn hc)))).trans (I.base.keep b o e n hb hx)
  ·obtain⟨sl,e1⟩:=I.base.slot b o e n hb hx;exact⟨sl,(hs.2 b (HQ (HN (HC e) (I.ok.cab x c hfn hc)))).trans e1⟩
  ·obtain⟨o',e1⟩:=I.base.there b o e hx;exact⟨o',(hs.2 b (HQ (HN (HC e) (I.ok.cab x c hfn hc)))).trans e1⟩
  ·by_cases hj:j=i
   ·subst hj;rw[hi]at e1;cases e1;rw[HL hiσ]at e2;cases e2;exact⟨u,r,.inr ⟨.inl hk,c,hc,hc'⟩⟩
   ·rw[HR (Jd hj)]at e2;obtain⟨u',r',q⟩:=hl j y v' e1 e2 e3;refine⟨u',r',?_⟩;rcases q with q | ⟨k,c',e,z'⟩
    ·exact .inl q
    ·refine .inr ⟨k,c',e,z'.sameBut hs ?_⟩
     rintro rfl
     exact hj (mM hN e1 (I.ok.inj _ _ _ e hc ▸ hi))
  ·by_cases hcc:c'=c
   ·subst hcc;exact⟨_,hc'⟩
   ·obtain⟨w2,z2⟩:=I.cell y c' e;exact⟨w2,z2.sameBut hs hcc⟩
  ·obtain⟨e,n,ne,nf,d⟩:=I.pin p hp;refine⟨(hs.2 p.1 ?_).trans e,n,ne,nf,d⟩;intro q;rw[q,hoc]at e;have q':oc=p.2:=IQ e;exact d w' (by rw[<- q'];exact hocd)
def jE {v:V}{Q:Unit->MT}(I:Inv X am σ H s)(hN:X.N.Nodup)(hi:X.N[i]?=some x)(hx:Loc X.env.scope x)(r:RelV v u)
  (h:∀ s',Inv X am (σ.set i (some v)) H s'->Q () s') (hf:autoParam (MC X x) YY):wpAny M A (storeName X.env x u) Q E s :=
 pv I hN hi hx r (λs' I' _=>h s' I') hf
def Inv.call' {s':Shared}(I:Inv X am σ H s)(ho:s'.os=s.os)(u:Un (frs X.stack) ch H H' s.heap s'.heap)(hok:HOk X.prog X.w H' s'.heap)(hg:AllBare s'.gens)
  (hch:∀ b∈ch,(b∈X.ex\/X.s₀.heap.objs.size<=b)/\b≠X.env.locals/\(∀ x c,X.env.cells.lookup x=some c->c≠b)/\∀ p∈X.pn++am,p.1≠b):Inv X am σ H' s':=by
 obtain⟨h',g',d',t',o'⟩:=s';have e:o'=s.os:=ho;subst e;exact I.call u hok hg hch
end
abbrev MU:=Hp->Prop
abbrev XK:=Value->Option Addr->MU
abbrev St:=List (Option V)
abbrev VK:=V->MU
abbrev MQ:=Hp->VK->Prop
abbrev TE:=St->MQ
abbrev TT:=St->Hp->(Bool->MU)->Prop
abbrev TA:=St->Hp->(List V->MU)->Prop
structure OV where
 nx:St->MU
 rt:VK
 bk:St->MU:=λ_ _=>False
 ct:St->MU:=λ_ _=>False
abbrev TS:=OV->St->MU
def EP (X:Cx)(am:MZ)(σ:St)(Q:VK)(u:Value)(s':Shared):Prop:=∃ v H',Inv X am σ H' s'/\RelV v u/\Q v H'
def TP (X:Cx)(am:MZ)(σ:St)(Q:Bool->MU)(b:Bool)(s':Shared):Prop:=∃ H',Inv X am σ H' s'/\Q b H'
def AP (X:Cx)(am:MZ)(σ:St)(Q:List V->MU)(us:List Value)(s':Shared):Prop:=∃ vs H',Inv X am σ H' s'/\Vals vs us/\Q vs H'
def SP (X:Cx)(am:MZ)(D:OV)(f:Flow)(s':Shared):Prop :=
 match f with
 | .next=>∃ σ' H',Inv X am σ' H' s'/\D.nx σ' H'
 | .brk=>∃ σ' H',Inv X am σ' H' s'/\D.bk σ' H'
 | .cont=>∃ σ' H',Inv X am σ' H' s'/\D.ct σ' H'
 | .ret u=>∃ v σ' H',Inv X am σ' H' s'/\RelV v u/\D.rt v H'
def PE (X:Cx)(e:Expr)(t:TE):Prop :=
 ∀ (am:MZ) (s:Shared) (σ:St) (H:Hp) (Q:VK),Inv X am σ H s->t σ H Q->wpAny (model X.prog X.w) X.A (eval e X.env) (EP X am σ Q) X.xe s
def PT (X:Cx)(e:Expr)(t:TT):Prop :=
 ∀ (am:MZ) (s:Shared) (σ:St) (H:Hp) (Q:Bool->MU),Inv X am σ H s->t σ H Q->wpAny (model X.prog X.w) X.A (isTrue e X.env (eval e X.env)) (TP X am σ Q) X.xe s
def PW (X:Cx)(e:Expr)(t:TT):Prop :=
 ∀ (whole:Sem Value) (am:MZ) (s:Shared) (σ:St) (H:Hp) (Q:Bool->MU),Inv X am σ H s->t σ H Q->wpAny (model X.prog X.w) X.A (isTrue e X.env whole) (TP X am σ Q) X.xe s
def PW.pt {X:Cx}{e:Expr}{t:TT}(h:PW X e t):PT X e t:=h _
def PA (X:Cx)(es:Nd)(t:TA):Prop :=
 ∀ (pos:Pos) (am:MZ) (s:Shared) (σ:St) (H:Hp) (Q:List V->MU),Inv X am σ H s->t σ H Q->wpAny (model X.prog X.w) X.A (spliced (backTo pos (starEach es X.env))) (AP X am σ Q) X.xe s
def PS (X:Cx)(st:Stmt)(t:TS):Prop :=
 ∀ (am:MZ) (s:Shared) (σ:St) (H:Hp) (D:OV),Inv X am σ H s->t D σ H->wpAny (model X.prog X.w) X.A (exec st X.env) (SP X am D) X.xe s
def PSs (X:Cx)(st:Nc)(t:TS):Prop :=
 ∀ (am:MZ) (s:Shared) (σ:St) (H:Hp) (D:OV),Inv X am σ H s->t D σ H->wpAny (model X.prog X.w) X.A (execs st X.env) (SP X am D) X.xe s
def thn {α:Type}{t:Sem α}{Q Q':α->MT}(h:wpAny M A t Q E s)(hQ:∀ a s,Q a s->Q' a s):wpAny M A t Q' E s:=Im h hQ λ_ _ x=>x
end
section
variable {u:Value}{am:MZ}{s:Shared}{σ:St}{H:Hp}{t:TE}{a:Expr}{E:MJ}
section
variable {X:Cx}
def RA (i:Nat):TE:=λσ H Q=>∃ v,σ[i]?=some (some v)/\Q v H
def tC (v:V):TE:=λ_ H Q=>Q v H
abbrev MA (x:Str):Prop:=(x==("__debug__":Str))=false
abbrev MD (x:Str):Prop:=(x==("__classdict__":Str))=false
def fW {i:Nat}{x:Str}{pos:Pos}(hN:X.N[i]?=some x)(hv:Vis X.env.scope x)(hd:autoParam (MA x) YQ)(M1:autoParam (MD x) YQ):PE X (.Name x pos) (RA i):=by
 intro am s σ H Q I h;obtain⟨v,e,h⟩:=h;obtain⟨m,hn,hl⟩:=I.loc;obtain⟨u,r,l⟩:=hl i x v hN e hv;have fin:EP X am σ Q u s:=⟨v,H,I,r,h⟩;rcases l with ⟨hk,hm⟩ | ⟨hk,c,hc,hcell⟩
 ·exact wpAny_Name (wpAny_loadName_local I.ok.kind hk hn hm fin) hd
 ·rcases hk with hk | hk
  ·exact wpAny_Name (wpAny_loadName_cell I.ok.kind hk hc hcell fin) hd
  ·exact wpAny_Name (wpAny_loadName_free I.ok.kind hk hc hcell fin M1) hd
def Eb {i j pos}:PE X (.Constant (.int i) j pos) (tC (.int i)):=λ_ _ _ H _ I h=>wpAny_Constant_int ⟨.int i,H,I.tok _,⟨_,rfl⟩,h⟩
def Fo {b j pos}:PE X (.Constant (.bool b) j pos) (tC (.bl b)):=λ_ _ _ H _ I h=>Constant_bool ⟨.bl b,H,I,rfl,h⟩
def Ec {j pos}:PE X (.Constant .none j pos) (tC .non):=λ_ _ _ H _ I h=>Constant_none ⟨.non,H,I,rfl,h⟩
def Ed {x j pos}:PE X (.Constant (.str x) j pos) (tC (.str x)):=λ_ _ _ H _ I h=>Calls.Constant_str ⟨.str x,H,I.tok _,⟨_,rfl⟩,h⟩
def Gl (X:Cx)(x:Str):Prop:=X.env.kindOf x=some .globalImplicit
def mn {x:Str}{pos:Pos}{Q:MJ}(I:Inv X am σ H s)(hg:Gl X x)(hm:X.mg x=some u)(h:Q u s)
  (hd:autoParam (MA x) YQ):wpAny (model X.prog X.w) X.A (eval (.Name x pos) X.env) Q E s :=
 K7 I.ok.kind hg (Calls.loadGlobal_global (by rw[I.ok.glob];exact I.mod.glob.keeps I.bk) hm h) hd
def kw {x:Str}{pos:Pos}{Q:MJ}(I:Inv X am σ H s)(hg:Gl X x)(hm:X.mg x=none)(hv:bootBuiltins x=some u)(h:Q u s)
  (hn:autoParam (x ≠ "__name__") YQ) (hd:autoParam (MA x) YQ):wpAny (model X.prog X.w) X.A (eval (.Name x pos) X.env) Q E s:=by
 obtain⟨mb,h1,h2⟩:=I.mod.blt;exact K7 I.ok.kind hg (Calls.loadGlobal_builtin (by rw[I.ok.glob];exact I.mod.glob.keeps I.bk) hm (by rw[I.ok.blt];exact h1.keeps I.bk) ((h2 x hn).trans hv) h) hd
def bI {x:Str}{v:V}{pos:Pos}(hg:Gl X x)(hm:X.mg x=some u)(r:RelV v u)(hd:autoParam (MA x) YQ):PE X (.Name x pos) (tC v) :=
 λ_ _ _ H _ I h=>mn I hg hm ⟨v,H,I,r,h⟩ hd
def aW {x:Str}{v:V}{pos:Pos}(hg:Gl X x)(hm:X.mg x=none)(hv:bootBuiltins x=some u)(r:RelV v u)(hn:autoParam (x ≠ "__name__") YQ)(hd:autoParam (MA x) YQ):PE X (.Name x pos) (tC v) :=
 λ_ _ _ H _ I h=>kw I hg hm hv ⟨v,H,I,r,h⟩ hn hd
variable {b:Expr}{ta tb:TE}{pos:Pos}
def tB (t:TE):TT:=λσ H Q=>t σ H λx H1=>∃ c,x=.bl c/\Q c H1
def Ee {e:Expr}(h:PE X e t)(he:autoParam (∀ whole,isTrue e X.env whole=(do let v <- whole;standAt e.pos;holding [v] (truthy v))) YZ):PT X e (tB t):=by
 intro am s σ H Q I hw;refine isTrue_plain (thn (h am s σ H _ I hw) λv s1 ⟨x,H1,I1,r1,q1⟩=>?_) (he _);obtain⟨d,rfl,q⟩:=q1;cases r1;exact IC ⟨H1,I1,q⟩
variable {tA tB':TT}{rest:Nd}
def Su (t u:TT):TT:=λσ H Q=>t σ H λc H1=>if c=true then u σ H1 Q else Q false H1
def tOr (t u:TT):TT:=λσ H Q=>t σ H λc H1=>if c=true then Q true H1 else u σ H1 Q
def Sn (t:TT):TT:=λσ H Q=>t σ H λc H1=>Q (!c) H1
def Cb (ha:PT X a tA):PW X (.BoolOp .And [a] pos) tA:=by
 intro wh am s σ H Q I h;refine isTrue_and (thn (ha am s σ H Q I h) λc s1 e=>?_);cases c with
 | true=>exact isTrue_and_nil e
 | false=>exact e
def Ef (ha:PT X a tA):PW X (.BoolOp .Or [a] pos) tA:=by
 intro wh am s σ H Q I h;refine isTrue_or (thn (ha am s σ H Q I h) λc s1 e=>?_);cases c with
 | false=>exact isTrue_or_nil e
 | true=>exact e
def Eg (ha:PT X a tA)(hb:PW X (.BoolOp .And (b::rest) pos) tB'):PW X (.BoolOp .And (a::b::rest) pos) (Su tA tB'):=by
 intro wh am s σ H Q I h;refine isTrue_and (thn (ha am s σ H _ I h) λc s1 ⟨H1,I1,q1⟩=>?_);cases c with
 | true=>exact hb wh am s1 σ H1 Q I1 q1
 | false=>exact⟨H1,I1,q1⟩
def Fp (ha:PT X a tA)(hb:PW X (.BoolOp .Or (b::rest) pos) tB'):PW X (.BoolOp .Or (a::b::rest) pos) (tOr tA tB'):=by
 intro wh am s σ H Q I h;refine isTrue_or (thn (ha am s σ H _ I h) λc s1 ⟨H1,I1,q1⟩=>?_);cases c with
 | true=>exact⟨H1,I1,q1⟩
 | false=>exact hb wh am s1 σ H1 Q I1 q1
def Eh (ha:PT X a tA):PT X (.UnaryOp .Not a pos) (Sn tA):=by
 intro am s σ H Q I h;exact isTrue_not (ha am s σ H (λc H1=>Q (!c) H1) I h)
def R4 (ta tb:TE):TE:=λσ H Q=>ta σ H λx H1=>∃ c,x=.bl c/\if c=true then tb σ H1 Q else Q (.bl false) H1
def Sm (ta tb:TE):TE:=λσ H Q=>ta σ H λx H1=>∃ c,x=.bl c/\if c=true then Q (.bl true) H1 else tb σ H1 Q
def RZ (ta:TE):TE:=λσ H Q=>ta σ H λx H1=>∃ c,x=.bl c/\Q (.bl (!c)) H1
def Ei {op}(h:PE X a t):PE X (.BoolOp op [a] pos) t:=λam s σ H Q I hw=>BoolOp_one (h am s σ H Q I hw)
def Ej (ha:PE X a ta)(hb:PE X (.BoolOp .And (b::rest) pos) tb):PE X (.BoolOp .And (a::b::rest) pos) (R4 ta tb):=by
 intro am s σ H Q I h;refine BoolOp_and (thn (ha am s σ H _ I h) λv s1 ⟨x,H1,I1,r1,q1⟩=>?_);obtain⟨c,rfl,q1⟩:=q1;cases r1
 wp_walk
 cases c with
 | true=>exact hb am s1 σ H1 Q I1 q1
 | false=>exact⟨.bl false,H1,I1,rfl,q1⟩
def Fq (ha:PE X a ta)(hb:PE X (.BoolOp .Or (b::rest) pos) tb):PE X (.BoolOp .Or (a::b::rest) pos) (Sm ta tb):=by
 intro am s σ H Q I h;refine BoolOp_or (thn (ha am s σ H _ I h) λv s1 ⟨x,H1,I1,r1,q1⟩=>?_);obtain⟨c,rfl,q1⟩:=q1;cases r1;refine IC ?_;cases c with
 | false=>exact hb am s1 σ H1 Q I1 q1
 | true=>exact⟨.bl true,H1,I1,rfl,q1⟩
def Ek (ha:PE X a ta):PE X (.UnaryOp .Not a pos) (RZ ta):=by
 intro am s σ H Q I h;refine UnaryOp_ (thn (ha am s σ H _ I h) λv s1 ⟨x,H1,I1,r1,q1⟩=>?_);obtain⟨c,rfl,q1⟩:=q1;cases r1;exact not_of (IC ⟨.bl (!c),H1,I1,rfl,q1⟩)
def tIf (t:TT)(ta tb:TE):TE:=λσ H Q=>t σ H λc H1=>if c=true then ta σ H1 Q else tb σ H1 Q
def zQ {c:Expr}(hc:PT X c tA)(ha:PE X a ta)(hb:PE X b tb):PE X (.IfExp c a b pos) (tIf tA ta tb):=by
 intro am s σ H Q I h;refine wpAny_IfExp (thn (hc am s σ H _ I h) λd s1 ⟨H1,I1,q1⟩=>?_);cases d with
 | true=>exact ha am s1 σ H1 Q I1 q1
 | false=>exact hb am s1 σ H1 Q I1 q1
end
end
section
variable {K:Frag}{tg e c:Expr}{am:MZ}{σ:St}{H:Hp}{u:Value}{te:TE}{pos:Pos}{P:Program}{w:World}{E:MJ}{es:Nd}
def SqL (K:Frag)(H:Hp)(a:Addr)(xs:List V):Prop :=
 Rd H a (.lst xs) \/
  ∃ (o:Obj) (its:Array Value) (n:Nat),K.lookup a=some o/\o.cls=.type "list" /\ o.dict=none/\o.data=.seq its n/\its.size<=sizeLine/\Vals xs its.toList
def SqT (K:Frag)(H:Hp)(a:Addr)(xs:List V):Prop :=
 Rd H a (.tup xs) \/
  ∃ (o:Obj) (its:Array Value) (n:Nat),K.lookup a=some o/\o.cls=.type "tuple" /\ o.dict=none/\o.data=.seq its n/\its.size<=sizeLine/\Vals xs its.toList
noncomputable def SX:Value->Option V
 | .none=>some .non
 | .bool b=>some (.bl b)
 | .int i _=>some (.int i)
 | .str x _=>some (.str x)
 | .bytes b _=>some (.byt b)
 | .float b _=>some (.flt b)
 | .ref a=>some (.ref a)
 | .type n=>some (.ty n)
 | _=>none
def RelV.abs {x:V}(r:RelV x u):SX u=some x:=by
 cases x with
 | non=>cases r;rfl
 | bl _=>cases r;rfl
 | int _=>obtain⟨t,rfl⟩:=r;rfl
 | str _=>obtain⟨t,rfl⟩:=r;rfl
 | byt _=>obtain⟨t,rfl⟩:=r;rfl
 | flt _=>obtain⟨t,rfl⟩:=r;rfl
 | ref _=>cases r;rfl
 | ty _=>cases r;rfl
def RelV.inj {x y:V}(r:RelV x u)(q:RelV y u):x=y:=IQ (r.abs.symm.trans q.abs)
theorem Vals.inj:∀ {xs ys:List V} {us:List Value},Vals xs us->Vals ys us->xs=ys
 | _,_,_,.nil,.nil=>rfl
 | _,_,_,.cons r t,.cons r' t'=>by rw[r.inj r',Vals.inj t t']
section
variable {X:Cx}{s:Shared}{a:Addr}{xs ys:List V}
def SqL.of (h:H a=some (.lst xs)):SqL K H a xs:=.inl (.inl h)
def SqT.of (h:H a=some (.tup xs)):SqT K H a xs:=.inl (.inl h)
def Inv.list (I:Inv X am σ H s)(h:SqL X.K H a xs):∃ its:List Value,Vals xs its/\PlainL s.heap a its.toArray/\xs.length<=sizeLine:=by
 rcases h with h | ⟨o,its,n,hk,hc,hd,hs,hz,r⟩
 ·obtain⟨z,its,n,r,e⟩:=h.ok I.hok;exact⟨its,r,⟨_,n,e,rfl,rfl,rfl⟩,z⟩
 ·refine⟨its.toList,r,⟨o,n,I.kIn a o hk,hc,hd,by simpa using hs⟩,?_⟩;have e:=r.length;simp only[JH]at e;omega
def Inv.tuple (I:Inv X am σ H s)(h:SqT X.K H a xs):∃ its:List Value,Vals xs its/\IsTup s.heap a its.toArray/\xs.length<=sizeLine:=by
 rcases h with h | ⟨o,its,n,hk,hc,_,hs,hz,r⟩
 ·obtain⟨z,its,r,p⟩:=h.ok I.hok;exact⟨its,r,p.is,z⟩
 ·refine⟨its.toList,r,⟨o,I.kIn a o hk,hc,n,by simpa using hs⟩,?_⟩;have e:=r.length;simp only[JH]at e;omega
def Inv.list_inj (I:Inv X am σ H s)(h:SqL X.K H a xs)(h':SqL X.K H a ys):xs=ys:=by
 obtain⟨its,r,⟨o,n,e,_,_,d⟩,_⟩:=I.list h;obtain⟨Mx,r',⟨o',n',e',_,_,d'⟩,_⟩:=I.list h';rw[e]at e';cases e';rw[d]at d';injection d' with d1 _
 have:its=Mx:=by simpa using IZ Array.toList d1
 subst this;exact r.inj r'
def Inv.tuple_inj (I:Inv X am σ H s)(h:SqT X.K H a xs)(h':SqT X.K H a ys):xs=ys:=by
 obtain⟨its,r,⟨o,e,_,n,d⟩,_⟩:=I.tuple h;obtain⟨Mx,r',⟨o',e',_,n',d'⟩,_⟩:=I.tuple h';rw[e]at e';cases e';rw[d]at d';injection d' with d1 _
 have:its=Mx:=by simpa using IZ Array.toList d1
 subst this;exact r.inj r'
variable {st:Stmt}{rest:Nc}{t u:TS}
def R0:TS:=λD σ H=>D.nx σ H
def Sj (t u:TS):TS:=λD σ H=>t { D with nx:=u D } σ H
def Cc:PSs X [] R0:=λ_ _ σ H _ I h=>Kf ⟨σ,H,I,h⟩
def fI (h1:PS X st t)(h2:PSs X rest u):PSs X (st::rest) (Sj t u):=by
 intro am s σ H D I h;refine wpAny_execs_cons (thn (h1 am s σ H { D with nx:=u D } I h) λf s1 q=>?_);cases f with
 | next =>
  obtain⟨σ',H',I',q⟩:=q;exact h2 am s1 σ' H' D I' q
 | ret v=>exact q
 | brk=>exact q
 | cont=>exact q
def wu (h1:PS X st t):PSs X [st] t:=by
 intro am s σ H D I h;refine wpAny_execs_cons (thn (h1 am s σ H D I h) λf s1 q=>?_);cases f with
 | next=>exact Kf q
 | ret v=>exact q
 | brk=>exact q
 | cont=>exact q
def Inv.quiet {s:Shared}(I:Inv X am σ H s):interactive X.env=false:=by simp[interactive,I.ok.kind]
def R1 (te:TE):TS:=λD σ H=>te σ H λ_ H1=>D.nx σ H1
def qB (he:PE X e te)(hs:autoParam (swapsWith e none pos.line X.env=pure false) YW):PS X (.Expr e pos) (R1 te):=by
 intro am s σ H D I h;exact wpAny_Expr_any (thn (he am s σ H _ I h) λv s1 ⟨x,H1,I1,r1,q1⟩=>⟨σ,H1,I1,q1⟩) I.quiet hs
def Sk (te:TE):TS:=λD σ H=>te σ H D.rt
def El (he:PE X e te):PS X (.Return (some e) pos) (Sk te):=by
 intro am s σ H D I h;exact wpAny_Return_some (thn (he am s σ H _ I h) λv s1 ⟨x,H1,I1,r1,q1⟩=>⟨x,σ,H1,I1,r1,q1⟩)
def Sr (c:TT)(t u:TS):TS:=λD σ H=>c σ H λb H1=>if b=true then t D σ H1 else u D σ H1
def Fr {a b:Nc}{tc:TT}(hc:PT X c tc)(ha:PSs X a t)(hb:PSs X b u):PS X (.If c a b pos) (Sr tc t u):=by
 intro am s σ H D I h;refine wpAny_If (thn (hc am s σ H _ I h) λd s1 ⟨H1,I1,q1⟩=>?_);cases d with
 | true=>exact ha am s1 σ H1 D I1 q1
 | false=>exact hb am s1 σ H1 D I1 q1
def Ru:TS:=λ_ _ _=>False
def px {sts:Nc}:PSs X sts Ru:=λ_ _ _ _ _ _ h=>h.elim
end
abbrev TG:=V->St->Hp->(St->MU)->Prop
abbrev TGs:=List V->St->Hp->(St->MU)->Prop
def PG (X:Cx)(target:Expr)(t:TG):Prop :=
 ∀ (am:MZ) (s:Shared) (σ:St) (H:Hp) (v:V) (u:Value) (Q:St->MU),Inv X am σ H s->RelV v u->t v σ H Q ->
  wpAny (model X.prog X.w) X.A (assign target X.env u) (λ_ s'=>∃ σ' H',Inv X am σ' H' s'/\Q σ' H') X.xe s
def PGs (X:Cx)(ts:Nd)(t:TGs):Prop :=
 ∀ (am:MZ) (s:Shared) (σ:St) (H:Hp) (vs:List V) (us:List Value) (Q:St->MU),Inv X am σ H s->Vals vs us->t vs σ H Q ->
  wpAny (model X.prog X.w) X.A (assignInOrder ((assignEach ts X.env).map (·.2)) us) (λ_ s'=>∃ σ' H',Inv X am σ' H' s'/\Q σ' H') X.xe s
abbrev Ro:=V->V->V->Hp->(MU)->Prop
def RV (X:Cx)(t:Ro):Prop :=
 ∀ (am:MZ) (s:Shared) (σ:St) (H:Hp) (o i v:V) (ov iv u:Value) (Q:MU),Inv X am σ H s->RelV o ov->RelV i iv->RelV v u->t o i v H Q ->
  wpAny (model X.prog X.w) X.A (setItem ov iv u) (λ_ s'=>∃ H',Inv X am σ H' s'/\Q H') X.xe s
section
variable {X:Cx}
def Qj (i:Nat):TG:=λv σ H Q=>Q (σ.set i (some v)) H
def dJ {i:Nat}{x:Str}(hN:X.N.Nodup)(hi:X.N[i]?=some x)(hx:Loc X.env.scope x)(hf:autoParam (MC X x) YY):PG X (.Name x pos) (Qj i):=by
 intro am s σ H v u Q I r h;exact wpAny_assign_Name (jE I hN hi hx r (λs' I'=>⟨_,H,I',h⟩) hf)
def RP:TGs:=λvs σ H Q=>vs=[]/\Q σ H
def Q7 (t:TG)(u:TGs):TGs:=λvs σ H Q=>∃ v r,vs=v::r/\t v σ H λσ' H'=>u r σ' H' Q
def qD:PGs X [] RP:=by
 intro am s σ H vs us Q I r h;obtain⟨e,h⟩:=h;subst e;cases r;exact assignInOrder_nil ⟨σ,H,I,h⟩
def dh {t:TG}{u:TGs}(h1:PG X e t)(h2:PGs X es u)
  (hs:autoParam ((assignEach (e::es) X.env).map (·.2)=assign e X.env::(assignEach es X.env).map (·.2)) YW):PGs X (e::es) (Q7 t u):=by
 intro am s σ H vs us Q I r h;obtain⟨v,vr,e1,h⟩:=h;subst e1;cases r with
 | cons r rr =>
  rw[hs];refine assignInOrder_cons (thn (h1 am s σ H _ _ _ I r h) λ_ s1 ⟨σ1,H1,I1,q1⟩=>?_);exact h2 am s1 σ1 H1 _ _ Q I1 rr q1
def gTup (K:Frag)(n:Nat)(t:TGs):TG:=λv σ H Q=>∃ a xs,v=.ref a/\SqT K H a xs/\xs.length=n/\t xs σ H Q
def zR {k:Nat}{t:TGs}{n:Nat}(hc:X.calm=true)(h:PGs X es t)
  (hn:autoParam ((assignEach es X.env).length=n) YW) (M4:autoParam ((assignEach es X.env).findIdx? (·.1)=none) YW):PG X (.Tuple es k pos) (gTup X.K n t):=by
 intro am s σ H v u Q I r hw;obtain⟨a,xs,e1,hq,hl,hw⟩:=hw;subst e1;cases r;obtain⟨its,rv,ht,hz⟩:=I.tuple hq;refine assign_Tuple_tuple (I.ok.hd hc) ht (by simp[hn,<- hl,rv.length]) M4 λh' hx=>?_
 have I1:=I.kept (t':=s.toks) λb o e=>hx b o (HQ (HC e)) e
 exact h am _ σ H xs _ Q I1 (by simpa using rv) hw
def SO (to ti:TE)(t:Ro):TG:=λv σ H Q=>to σ H λo H1=>ti σ H1 λi H2=>t o i v H2 λH3=>Q σ H3
def Em {o i:Expr}{to ti:TE}{t:Ro}(ho:PE X o to)(hi:PE X i ti)(hs:RV X t)
  (ha:autoParam (∀ v,assign (.Subscript o i pos) X.env v=(do
   let ov <- holding [v] (eval o X.env)
   let iv <- holding [v,ov] (eval i X.env)
   standAt pos
   holding [v,ov,iv] (setItem ov iv v)
   release [v,ov,iv] [])) YZ):PG X (.Subscript o i pos) (SO to ti t):=by
 intro am s σ H v u Q I r h;rw[ha];refine Hk (Js (thn (ho am s σ H _ I h) λov s1 ⟨x,H1,I1,r1,q1⟩=>?_));refine Hk (Js (thn (hi am s1 σ H1 _ I1 q1) λiv s2 ⟨y,H2,I2,r2,q2⟩=>?_));refine Hk (Ma (Hk (Js (thn (hs am s2 σ H2 x y v ov iv u _ I2 r1 r2 r q2) λ_ s3 ⟨H3,I3,q3⟩=>?_))));exact wpAny_release ⟨σ,H3,I3,q3⟩
def RC (te:TE)(g:TG):TS:=λD σ H=>te σ H λx H1=>g x σ H1 D.nx
def zS {g:TG}(he:PE X e te)(hg:PG X tg g)(hs:autoParam (swapsWithSole [tg] e pos.line X.env=pure false) YW)(hw:autoParam (swappedStores [tg] e X.env=pure none) YW)
  (h1:autoParam ((assignEach [tg] X.env).map (·.2)=[assign tg X.env]) YW):PS X (.Assign [tg] e pos) (RC te g):=by
 intro am s σ H D I h;refine wpAny_Assign_stores (thn (he am s σ H _ I h) λv s1 ⟨x,H1,I1,r1,q1⟩=>?_) hs hw;rw[h1];exact thn (hg am s1 σ H1 x v _ I1 r1 q1) λ_ s2 q=>q
def qE {i:Nat}{x:Str}{pos':Pos}(hN:X.N.Nodup)(hi:X.N[i]?=some x)(hx:Loc X.env.scope x)(he:PE X e te)(hs:autoParam (swapsWith e (some (.Name x pos')) pos.line X.env=pure false) YW)(hf:autoParam (MC X x) YY) :
  PS X (.Assign [.Name x pos'] e pos) (RC te (Qj i)):=by
 intro am s σ H D I h;refine wpAny_Assign_Name (thn (he am s σ H _ I h) λv s1 ⟨y,H1,I1,r1,q1⟩=>?_) hs;exact jE I1 hN hi hx r1 (λs2 I2=>⟨_,H1,I2,q1⟩) hf
def Rt (c:TT)(tb:TS):TS:=λD σ H=>∃ W:Nat->St->MU,(∃ m,W m σ H)/\∀ m σ H,W m σ H ->
 c σ H λb H1=>if b=true then ∃ N:St->MU,(∀ σ' H',N σ' H'->∃ m',m' < m/\W m' σ' H')/\tb { D with nx:=N,ct:=N,bk:=D.nx } σ H1 else D.nx σ H1
def zT {body:Nc}{tc:TT}{tb:TS}(hp:PassesOwn (model X.prog X.w) X.A X.env X.xe)(hc:PT X c tc)(hb:PSs X body tb):PS X (.While c body [] pos) (Rt tc tb):=by
 intro am s σ H D I h;obtain⟨W,⟨m0,w0⟩,turn⟩:=h;refine wpAny_While (codeAny_whileLoop (λn s'=>∃ σ' H',Inv X am σ' H' s'/\W n σ' H') ?_ m0 ⟨σ,H,I,w0⟩)
 rintro n s1 ⟨σ1,H1,I1,w1⟩
 refine Jp hp (thn (hc am s1 σ1 H1 _ I1 (turn n σ1 H1 w1)) λb s2 ⟨H2,I2,q2⟩=>?_);cases b with
 | true =>
  obtain⟨N,hN,q2⟩:=q2;rw[if_pos rfl];refine Jp hp (thn (hb am s2 σ1 H2 _ I2 q2) λf s3 q3=>?_);cases f with
  | next =>
   obtain⟨σ3,H3,I3,n3⟩:=q3;obtain⟨m',hm,w3⟩:=hN σ3 H3 n3;exact⟨m',hm,σ3,H3,I3,w3⟩
  | cont =>
   obtain⟨σ3,H3,I3,n3⟩:=q3;obtain⟨m',hm,w3⟩:=hN σ3 H3 n3;exact⟨m',hm,σ3,H3,I3,w3⟩
  | brk=>exact q3
  | ret v=>exact q3
 | false =>
  rw[if_neg Ib];exact Kf ⟨σ1,H2,I2,q2⟩
end
structure It where
 go:Nat->MU
 yld:Nat->Hp->V->MU
 stop:Nat->MU
def Oy (X:Cx)(am:MZ)(H:Hp)(b:Addr):Prop :=
 H b=none/\b≠X.env.locals/\b∉X.fs/\(b∈X.ex\/X.s₀.heap.objs.size<=b)/\(∀ x c,X.env.cells.lookup x=some c->c≠b)/\∀ p∈X.pn++am,p.1≠b
def Inv.fpOk {X:Cx}{H':Hp}{s:Shared}{b:Addr}(I:Inv X am σ H s)(hb:s.zz<=b)(hn:H' b=none):Oy X am H' b:=by
 refine⟨hn,Nat.ne_of_gt (HN I.lt hb),I.nofs hb,.inr (HK I.sz hb),λx c e z=>?_,λp hp z=>?_⟩
 ·obtain⟨v,q⟩:=I.cell x c e;exact absurd (HN q.lt (by rw[z];exact hb)) (JL _)
 ·exact absurd (HN (HC (I.pin p hp).1) (by rw[z];exact hb)) (JL _)
structure P4 (P:Program)(w:World)(K:Frag)(tg:Expr)(J:It)(fp:List Addr)(it:Addr)(tn:Nat->Heap->Prop):Prop where
 mem:it∈fp
 obj:∀ i h,tn i h->∀ b∈fp,∃ o,h.get? b=some o/\∀ v,o.data≠.cell v
 keep:∀ i h h',tn i h->(∀ b∈fp,∀ o,h.get? b=some o->h'.get? b=some o)->tn i h'
 item:∀ (X:Cx),X.prog=P->X.w=w->X.K=K->X.calm=true->∀ (i:Nat) (am:MZ) (s:Shared) (σ:St) (H:Hp) (E:MJ),Inv X am σ H s->(∀ b∈fp,Oy X am H b)->tn i s.heap->J.go i H ->
  wpAny (model P w) X.A (pyNext (.ref it)) (λr s1=>∃ u,r=some u /\
   wpAny (model P w) X.A (letOwnedTupleGo tg (.ref it) u) (λ_ s2=>∃ x H',Inv X am σ H' s2/\RelV x u/\J.yld i H x H'/\tn (i+1) s2.heap/\∀ b∈fp,H' b=none) E s1) E s
 done:∀ (X:Cx),X.prog=P->X.w=w->X.K=K->X.calm=true->∀ (i:Nat) (am:MZ) (s:Shared) (σ:St) (H:Hp) (E:MJ),Inv X am σ H s->(∀ b∈fp,Oy X am H b)->tn i s.heap->J.stop i H ->
  wpAny (model P w) X.A (pyNext (.ref it)) (λr s1=>r=none/\Inv X am σ H s1) E s
 self:∀ (A:Around) (i:Nat) (s:Shared) (Q:MJ) (E:MJ),tn i s.heap->Q (.ref it) s->wpAny (model P w) A (pyIter (.ref it)) Q E s
abbrev TI:=St->Hp->(It->MU)->Prop
def PIE (X:Cx)(am:MZ)(σ:St)(tg:Expr)(R:It->MU)(itv:Value)(s2:Shared):Prop :=
 ∃ (it:Addr) (fp:List Addr) (tn:Nat->Heap->Prop) (J:It) (H':Hp),itv=.ref it/\Inv X am σ H' s2/\P4 X.prog X.w X.K tg J fp it tn/\tn 0 s2.heap/\(∀ b∈fp,Oy X am H' b)/\R J H'
def PI (X:Cx)(tg iter:Expr)(wi:TI):Prop :=
 ∀ (am:MZ) (s:Shared) (σ:St) (H:Hp) (R:It->MU),Inv X am σ H s->wi σ H R ->
  wpAny (model X.prog X.w) X.A (eval iter X.env) (λv s1=>wpAny (model X.prog X.w) X.A (pyIter v) (PIE X am σ tg R) X.xe s1) X.xe s
def zU {M:Model}{A:Around}{s:Shared}{it:Addr}{o:Obj}{n:String}{vs:Array Value}{Q:Unit->MT}(ho:s.heap.get? it=some o)(hc:o.cls=.type n)(hd:o.data=.fields vs)
  (hn:["enumerate","zip","dict_itemiterator","dict_reverseitemiterator","odict_iterator","itertools.zip_longest","itertools.pairwise"].contains n=false) (hQ:Q () s):wpAny M A (letOwnedTupleGo tg (.ref it) u) Q E s:=by
 unfold letOwnedTupleGo;cases tg<;>first
  | exact Hw hQ
  | (cases u<;>first
    | exact Hw hQ
    | (refine Hk (wpAny_load ho ?_)
       rw[hc,hd];show wpAny M A (if (["enumerate","zip","dict_itemiterator","dict_reverseitemiterator","odict_iterator","itertools.zip_longest","itertools.pairwise"].contains n&&vs[0]?==some (rawInt _))=true then _ else _) Q E s;rw[if_neg (by intro h;rw[hn,Bool.false_and]at h;cases h)];exact Hw hQ))
noncomputable def Itl (K:Frag)(a:Addr):It :=
 ⟨λi H=>∃ xs x,SqL K H a xs/\xs[i]?=some x,λi H x H'=>H'=H/\∀ xs,SqL K H a xs->xs[i]?=some x,λi H=>∃ xs,SqL K H a xs/\xs.length<=i⟩
noncomputable def Itt (K:Frag)(a:Addr):It :=
 ⟨λi H=>∃ xs x,SqT K H a xs/\xs[i]?=some x,λi H x H'=>H'=H/\∀ xs,SqT K H a xs->xs[i]?=some x,λi H=>∃ xs,SqT K H a xs/\xs.length<=i⟩
noncomputable def Itr (lo:Int)(n:Nat):It:=⟨λi _=>i < n,λi H x H'=>H'=H/\x=.int (lo+i),λi _=>n<=i⟩
def xK (a it:Addr):P4 P w K tg (Itl K a) [it] it (λi h=>h.IsListIter it a i) where
 mem:=by simp
 obj:=λi h st b hb=>by
  have e:b=it:=by simpa using hb
  subst e;obtain⟨o,e,c,d⟩:=st;exact⟨o,e,λv z=>by rw[d]at z;cases z⟩
 keep:=λi h h' st k=>st.at λo e=>k it (by simp) o e
 item:=by
  intro X hP hw hK hc i am s σ H E I hf st hg;subst hP hw hK;obtain⟨xs,x,hq,hx⟩:=hg;obtain⟨its,rv,p,hz⟩:=I.list hq;obtain⟨u,hu,ru⟩:=rv.get hx;obtain⟨f0,f1,f2,f3,f4,f5⟩:=hf it (by simp);refine wpAny_pyNext_list_item st p.isList (x:=u) (by simpa using hu) λh' st' sb=>?_
  have I1:=I.turned (t':=s.toks) (λb o hb e=>(sb.2 b hb).trans e) f0 f1 f3 f4 f5;obtain⟨o,e,c,d⟩:=id st';exact⟨u,rfl,zU e c d (by decide) ⟨x,H,I1,ru,⟨rfl,λys hy=>by rw[I.list_inj hy hq];exact hx⟩,st',λb hb=>(hf b hb).1⟩⟩
 done:=by
  intro X hP hw hK hc i am s σ H E I hf st hg;subst hP hw hK;obtain⟨xs,hq,hx⟩:=hg;obtain⟨its,rv,p,hz⟩:=I.list hq;obtain⟨f0,f1,f2,f3,f4,f5⟩:=hf it (by simp);have hl:=rv.length;exact wpAny_pyNext_list_end (I.ok.hd hc) st p.isList (by simp;omega) λh' eb=>⟨rfl,I.turned (t':=s.toks) (λb o hb e=>eb b o hb e) f0 f1 f3 f4 f5⟩
 self:=λ_ _ _ _ _ st h=>wpAny_pyIter_listiter st h
def u5 (a it:Addr):P4 P w K tg (Itt K a) [it] it (λi h=>h.IsTupleIter it a i) where
 mem:=by simp
 obj:=λi h st b hb=>by
  have e:b=it:=by simpa using hb
  subst e;obtain⟨o,e,c,d⟩:=st;exact⟨o,e,λv z=>by rw[d]at z;cases z⟩
 keep:=λi h h' st k=>st.at λo e=>k it (by simp) o e
 item:=by
  intro X hP hw hK hc i am s σ H E I hf st hg;subst hP hw hK;obtain⟨xs,x,hq,hx⟩:=hg;obtain⟨its,rv,p,hz⟩:=I.tuple hq;obtain⟨u,hu,ru⟩:=rv.get hx;obtain⟨f0,f1,f2,f3,f4,f5⟩:=hf it (by simp);refine wpAny_pyNext_tuple_item st (show s.heap.IsTuple a its.toArray from p) (x:=u) (by simpa using hu) λh' st' sb=>?_
  have I1:=I.turned (t':=s.toks) (λb o hb e=>(sb.2 b hb).trans e) f0 f1 f3 f4 f5;obtain⟨o,e,c,d⟩:=id st';exact⟨u,rfl,zU e c d (by decide) ⟨x,H,I1,ru,⟨rfl,λys hy=>by rw[I.tuple_inj hy hq];exact hx⟩,st',λb hb=>(hf b hb).1⟩⟩
 done:=by
  intro X hP hw hK hc i am s σ H E I hf st hg;subst hP hw hK;obtain⟨xs,hq,hx⟩:=hg;obtain⟨its,rv,p,hz⟩:=I.tuple hq;obtain⟨f0,f1,f2,f3,f4,f5⟩:=hf it (by simp);have hl:=rv.length;exact wpAny_pyNext_tuple_end (I.ok.hd hc) st (show s.heap.IsTuple a its.toArray from p) (by simp;omega) λh' eb=>⟨rfl,I.turned (t':=s.toks) (λb o hb e=>eb b o hb e) f0 f1 f3 f4 f5⟩
 self:=λ_ _ _ _ _ st h=>wpAny_pyIter_tupleiter st h
def u6 (it:Addr)(lo:Int)(n:Nat):P4 P w K tg (Itr lo n) [it] it (λi h=>IsRangeIter h it (lo+(i:Nat)*1) ((n:Int) - (i:Nat)) 1) where
 mem:=by simp
 obj:=λi h st b hb=>by
  have e:b=it:=by simpa using hb
  subst e;exact⟨_,st,λv z=>by
   have z':Data.fields _=Data.cell v:=z;cases z'⟩
 keep:=λi h h' st k=>k it (by simp) _ st
 item:=by
  intro X hP hw hK hc i am s σ H E I hf st hg;subst hP hw hK;obtain⟨f0,f1,f2,f3,f4,f5⟩:=hf it (by simp);have W:=Walks.range (prog:=X.prog) (w:=X.w) (I.ok.hd hc) it lo 1 n;refine W.item i s _ _ hg st λv h' tk hv st' kk=>?_
  obtain⟨t,rfl⟩:=hv;have I1:Inv X am σ H { s with heap:=h',toks:=tk }:=I.turned (λb o hb e=>kk b o (by simpa using hb) e) f0 f1 f3 f4 f5;refine⟨_,rfl,zU (s:={ s with heap:=h',toks:=tk }) (n := "range_iterator") st' rfl rfl (by decide) ⟨.int (lo+i),H,I1,⟨t,?_⟩,⟨rfl,rfl⟩,st',λb hb=>(hf b hb).1⟩⟩;rw[Int.mul_one]
 done:=by
  intro X hP hw hK hc i am s σ H E I hf st hg;subst hP hw hK;obtain⟨f0,f1,f2,f3,f4,f5⟩:=hf it (by simp);exact wpAny_pyNext_range_end (I.ok.hd hc) st (by have:n<=i:=hg;omega) λh' eb=>⟨rfl,I.turned (t':=s.toks) (λb o hb e=>eb b o hb e) f0 f1 f3 f4 f5⟩
 self:=λ_ _ _ _ _ st h=>wpAny_pyIter_rangeiter st h
end
section
variable {am:MZ}{σ:St}{H:Hp}{s:Shared}{pos:Pos}{fp:List Addr}{a:Expr}{h:Heap}
section
variable {X:Cx}{tg:Expr}
def r9 {R:It->MU}{E:MJ}{lo hi:Int}{t u v:Tok}{tk:Nat}(I:Inv X am σ H s)(h1 : -(2^62)<=lo)(h2:lo < 2^62)(h3 : -(2^62)<=hi)(h4:hi < 2^62)
  (q:R (Itr lo (hi - lo).toNat) H):wpAny (model X.prog X.w) X.A (pyIter (.ref s.zz)) (PIE X am σ tg R) E { s with heap:=s.heap.push { cls:=.type "range",data:=.fields #[.int lo t,.int hi u,.int 1 v] },toks:=tk }:=by
 refine wpAny_pyIter_range (IsRange.new ..) (small_one h1 h2 h3 h4) ?_;have I1:Inv X am σ H { s with heap:=s.heap.push { cls:=.type "range",data:=.fields #[.int lo t,.int hi u,.int 1 v] },toks:=tk }:=I.kept λb o e=>Hn _ e
 refine⟨(s.heap.push { cls:=.type "range",data:=.fields #[.int lo t,.int hi u,.int 1 v] }).objs.size,[(s.heap.push { cls:=.type "range",data:=.fields #[.int lo t,.int hi u,.int 1 v] }).objs.size],_,_,H,rfl,
  I1.kept (t':=tk) λb o e=>Hn _ e,u6 _ lo (hi - lo).toNat,?_,λb hb=>?_,q⟩
 ·have e1:lo+((0:Nat):Int)*1=lo:=by simp
  have e2:(((hi - lo).toNat:Nat):Int) - ((0:Nat):Int)=Builtin.Range.rangeSize lo hi 1:=by rw[rangeSize_one];split<;>omega
  show IsRangeIter _ _ (lo+((0:Nat):Int)*1) ((((hi - lo).toNat:Nat):Int) - ((0:Nat):Int)) 1;rw[e1,e2];exact HP _ rfl
 ·have e:b=(s.heap.push { cls:=.type "range",data:=.fields #[.int lo t,.int hi u,.int 1 v] }).objs.size:=by simpa using hb
  subst e;exact I1.fpOk (Hr _) (I1.hok.fresh (Hr _))
def Sa (ta:TA):TI:=λσ H R=>ta σ H λvs H1=>∃ j:Int,vs=[.int j]/\-(2^62)<=j/\j < 2^62/\R (Itr 0 j.toNat) H1
def R9 (ta:TA):TI:=λσ H R=>ta σ H λvs H1=>∃ i j:Int,vs=[.int i,.int j]/\(-(2^62)<=i/\i < 2^62/\-(2^62)<=j/\j < 2^62)/\R (Itr i (j - i).toNat) H1
def xL {ta:TA}{p:Pos}(hg:Gl X "range")(hm:X.mg "range"=none)(ha:PA X [a] ta)(hs:autoParam (starEach [a] X.env=[(false,eval a X.env)]) YW):PI X tg (.Call (.Name "range" p) [a] [] pos) (Sa ta):=by
 intro am s σ H R I h;refine Call_ (kw I hg hm boot_range (Jo (thn (ha pos am s σ H _ I h) λus s1 ⟨vs,H1,I1,r1,q1⟩=>?_) hs rfl));obtain⟨j,e,q1,q2,q⟩:=q1;subst e;cases r1 with
 | cons r rr =>
  cases rr;obtain⟨t,rfl⟩:=r;exact call_range_1 (r9 I1 (by omega) (by omega) q1 q2 (by grind))
def xM {b:Expr}{ta:TA}{p:Pos}(hg:Gl X "range")(hm:X.mg "range"=none)(ha:PA X [a,b] ta)(hs:autoParam (starEach [a,b] X.env=[(false,eval a X.env),(false,eval b X.env)]) YW)(hs2:autoParam (starEach [b] X.env=[(false,eval b X.env)]) YW) :
  PI X tg (.Call (.Name "range" p) [a,b] [] pos) (R9 ta):=by
 intro am s σ H R I h;refine Call_ (kw I hg hm boot_range (Jo (thn (ha pos am s σ H _ I h) λus s1 ⟨vs,H1,I1,r1,q1⟩=>?_) (by rw[hs,hs2]) (by rw[hs2];rfl)));obtain⟨i,j,e,⟨q1,q2,q3,q4⟩,q⟩:=q1;subst e;cases r1 with
 | cons r rr =>
  cases rr with
  | cons r' rr =>
   cases rr;obtain⟨t,rfl⟩:=r;obtain⟨t',rfl⟩:=r';exact call_range_2 (r9 I1 q1 q2 q3 q4 q)
def Ss (wi:TI)(g:TG)(tb:TS):TS:=λD σ H=>wi σ H λJ H1=>∃ W:Nat->Nat->St->MU,(∃ m,W 0 m σ H1)/\∀ i m σ H,W i m σ H ->
 (J.stop i H/\D.nx σ H)\/(J.go i H/\∃ N:St->MU,(∀ σ' H',N σ' H'->∃ m',m' < m/\W (i+1) m' σ' H')/\∀ x H',J.yld i H x H'->g x σ H' λσ2 H2=>tb { D with nx:=N,ct:=N,bk:=D.nx } σ2 H2)
noncomputable def Oj (fp:List Addr)(h:Heap):MZ:=fp.filterMap λb=>(h.get? b).map λo=>(b,o)
def fX {b:Addr}{o:Obj}(hb:b∈fp)(e:h.get? b=some o):(b,o)∈Oj fp h:=K0.mpr ⟨b,hb,by rw[e];rfl⟩
def xN {p:Addr×Obj}(hp:p∈Oj fp h):p.1∈fp/\h.get? p.1=some p.2:=by
 obtain⟨b,hb,e⟩:=K0.mp hp;cases q:h.get? b with
 | none=>rw[q]at e;cases e
 | some o =>
  grind
def Inv.pinned (I:Inv X am σ H s)(hf:∀ b∈fp,Oy X am H b)(ho:∀ b∈fp,∃ o,s.heap.get? b=some o/\∀ v,o.data≠.cell v):Inv X (am++Oj fp s.heap) σ H s :=
 I.pins_of λp hp=>(HI.mp hp).elim (λz=>I.pin p (Io _ z)) λz=>by
  obtain⟨hb,e⟩:=xN z;obtain⟨f0,f1,f2,_⟩:=hf p.1 hb
  grind
def Inv.unpinned {pl:MZ}(I:Inv X (am++pl) σ H s):Inv X am σ H s:=I.pins_of λp hp=>I.pin p (Io _ (Ix _ hp))
def Eo {iter:Expr}{body:Nc}{wi:TI}{g:TG}{tb:TS}(hp:PassesOwn (model X.prog X.w) X.A X.env X.xe)(hc:X.calm=true)(hi:PI X tg iter wi)(hg:PG X tg g)(hb:PSs X body tb)
  (hs:autoParam (∀ x,foldedSetIterable iter X.env x=pure x) YZ):PS X (.For tg iter body [] pos) (Ss wi g tb):=by
 intro am s σ H D I h;refine wpAny_For (thn (hi am s σ H _ I h) λv s1 h1=>thn h1 λitv s2 h2=>?_) hs;obtain⟨it,fp,tn,J,H2,e,I2,T,st2,f2,W,⟨m0,w0⟩,turn⟩:=h2;subst e;have stat:∀ {H':Hp},(∀ b∈fp,H' b=none)->∀ b∈fp,Oy X am H' b:=λhn b hb=>⟨hn b hb,(f2 b hb).2⟩
 refine codeAny_forLoop_any (λn s'=>∃ i σ' H',Inv X am σ' H' s'/\tn i s'.heap/\(∀ b∈fp,H' b=none)/\W i n σ' H') ?_ m0 ⟨0,σ,H2,I2,st2,λb hb=>(f2 b hb).1,w0⟩
 rintro n s3 ⟨i,σ3,H3,I3,st3,fr3,w3⟩
 rcases turn i n σ3 H3 w3 with ⟨stop,qn⟩ | ⟨go,N,hN,step⟩
 ·refine Jp hp (thn (T.done X rfl rfl rfl hc i am s3 σ3 H3 X.xe I3 (stat fr3) st3 stop) λr s4 ⟨hr,I4⟩=>?_);subst hr;exact Kf ⟨σ3,H3,I4,qn⟩
 ·refine Jp hp (thn (T.item X rfl rfl rfl hc i am s3 σ3 H3 X.xe I3 (stat fr3) st3 go) λr s4 ⟨u,hr,h4⟩=>?_);subst hr;refine Jp hp (thn h4 λ_ s5 ⟨x,H5,I5,r5,y5,st5,fr5⟩=>?_);have I5':=I5.pinned (stat fr5) (T.obj _ _ st5);refine Jp hp (thn (hg _ s5 σ3 H5 x u _ I5' r5 (step x H5 y5)) λ_ s6 ⟨σ6,H6,I6,q6⟩=>?_);refine Jp hp (thn (hb _ s6 σ6 H6 _ I6 q6) λf s7 q7=>?_);have again:∀ {σ7:St} {H7:Hp},Inv X (am++Oj fp s5.heap) σ7 H7 s7->N σ7 H7->∃ m,m < n/\∃ i σ' H',Inv X am σ' H' s7/\tn i s7.heap/\(∀ b∈fp,H' b=none)/\W i m σ' H':=λ{σ7 H7} I7 n7=>by
   obtain⟨m',hm,w7⟩:=hN σ7 H7 n7;refine⟨m',hm,i+1,σ7,H7,I7.unpinned,T.keep _ _ _ st5 λb hb o e=>(I7.pin (b,o) (Io _ (Io _ (fX hb e)))).1,λb hb=>?_,w7⟩;obtain⟨o,e,d⟩:=T.obj _ _ st5 b hb;exact(I7.pin (b,o) (Io _ (Io _ (fX hb e)))).2.1
  cases f with
  | next=>obtain⟨σ7,H7,I7,n7⟩:=q7;exact again I7 n7
  | cont=>obtain⟨σ7,H7,I7,n7⟩:=q7;exact again I7 n7
  | brk=>obtain⟨σ7,H7,I7,q7⟩:=q7;exact⟨σ7,H7,I7.unpinned,q7⟩
  | ret v=>obtain⟨x7,σ7,H7,I7,r7,q7⟩:=q7;exact⟨x7,σ7,H7,I7.unpinned,r7,q7⟩
end
end
section
variable {f:Value->Value->Sem Value}{op op':CmpOp}{a b c:Expr}{pos:Pos}{am:MZ}{s:Shared}{g:Int->Int->Int}{us:List Value}
abbrev R2:=V->V->MQ
variable {r r':R2}
def OpR (X:Cx)(f:Value->Value->Sem Value)(r:R2):Prop :=
 ∀ (am:MZ) (s:Shared) (σ:St) (H:Hp) (x y:V) (v u:Value) (Q:VK),Inv X am σ H s->RelV x v->RelV y u->r x y H Q ->
  wpAny (model X.prog X.w) X.A (f v u) (EP X am σ Q) X.xe s
def UnR (X:Cx)(f:Value->Sem Value)(r:V->MQ):Prop :=
 ∀ (am:MZ) (s:Shared) (σ:St) (H:Hp) (x:V) (v:Value) (Q:VK),Inv X am σ H s->RelV x v->r x H Q ->
  wpAny (model X.prog X.w) X.A (f v) (EP X am σ Q) X.xe s
abbrev MP:=List V->MQ
def NH (X:Cx)(f:Value)(r:MP):Prop :=
 ∀ (am:MZ) (s:Shared) (σ:St) (H:Hp) (xs:List V) (us:List Value) (Q:VK),Inv X am σ H s->Vals xs us->r xs H Q ->
  wpAny (model X.prog X.w) X.A (call f us) (EP X am σ Q) X.xe s
def tOp (r:R2)(ta tb:TE):TE:=λσ H Q=>ta σ H λx H1=>tb σ H1 λy H2=>r x y H2 Q
def tUn (r:V->MQ)(ta:TE):TE:=λσ H Q=>ta σ H λx H1=>r x H1 Q
def rI (C:Int->Int->Prop)(g:Int->Int->V):R2:=λx y H Q=>∃ i j,x=.int i/\y=.int j/\C i j/\Q (g i j) H
def rI0 (g:Int->Int->V):R2:=λx y H Q=>∃ i j,x=.int i/\y=.int j/\Q (g i j) H
def rU (g:Int->V):V->MQ:=λx H Q=>∃ i,x=.int i/\Q (g i) H
section
variable {X:Cx}{ta tb tc:TE}
def binT (ha:PE X a ta)(hb:PE X b tb){σ:St}{H:Hp}{R:V->V->MU}(I:Inv X am σ H s)
  (h:ta σ H λx H1=>tb σ H1 λy H2=>R x y H2) {Q:MJ} 
  (hf:∀ v u s2 x y H2,Inv X am σ H2 s2->RelV x v->RelV y u->R x y H2->wpAny (model X.prog X.w) X.A (f v u) Q X.xe s2) :
  wpAny (model X.prog X.w) X.A (eval a X.env) (λv s₁=>wpAny (model X.prog X.w) X.A (eval b X.env) (λu s₂=>wpAny (model X.prog X.w) X.A (f v u) Q X.xe s₂) X.xe s₁) X.xe s:=by
 refine thn (ha am s σ H _ I h) λv s1 ⟨x,H1,I1,r1,q1⟩=>?_
 refine thn (hb am s1 σ H1 _ I1 q1) λu s2 ⟨y,H2,I2,r2,q2⟩=>?_
 exact hf v u s2 x y H2 I2 r1 r2 q2
def Fs {op:Operator}(ho:OpR X (binaryOp op) r)(ha:PE X a ta)(hb:PE X b tb):PE X (.BinOp a op b pos) (tOp r ta tb):=by
 intro am s σ H Q I h;exact wpAny_BinOp (binT ha hb I h λv u s2 x y H2 I2 rx ry q=>ho am s2 σ H2 x y v u Q I2 rx ry q)
def Ft {op:UnaryOp}{r:V->MQ}(ho:UnR X (unaryOp op) r)(ha:PE X a ta):PE X (.UnaryOp op a pos) (tUn r ta):=by
 intro am s σ H Q I h;exact UnaryOp_ (thn (ha am s σ H _ I h) λv s1 ⟨x,H1,I1,r1,q1⟩=>ho am s1 σ H1 x v Q I1 r1 q1)
def opI {C:Int->Int->Prop}
  (rule:∀ (i j:Int) (t u:Tok) (s:Shared) (Q:MJ) (E:MJ),C i j->Q (.int (g i j) s.toks) { s with toks:=s.toks+1 }->wpAny (model X.prog X.w) X.A (f (.int i t) (.int j u)) Q E s) :
  OpR X f (rI C λi j=>.int (g i j)):=by
 intro am s σ H x y v u Q I rx ry h;obtain⟨i,j,rfl,rfl,hc,q⟩:=h;obtain⟨t,rfl⟩:=rx;obtain⟨t',rfl⟩:=ry;exact rule i j t t' s _ _ hc ⟨.int (g i j),H,I.tok _,⟨_,rfl⟩,q⟩
def RK 
  (rule:∀ (i j:Int) (t u:Tok) (s:Shared) (Q:MJ) (E:MJ),Q (.int (g i j) s.toks) { s with toks:=s.toks+1 }->wpAny (model X.prog X.w) X.A (f (.int i t) (.int j u)) Q E s) :
  OpR X f (rI0 λi j=>.int (g i j)):=by
 intro am s σ H x y v u Q I rx ry h;obtain⟨i,j,rfl,rfl,q⟩:=h;obtain⟨t,rfl⟩:=rx;obtain⟨t',rfl⟩:=ry;exact rule i j t t' s _ _ ⟨.int (g i j),H,I.tok _,⟨_,rfl⟩,q⟩
def QB {g:Int->Int->Bool}
  (rule:∀ (i j:Int) (t u:Tok) (s:Shared) (Q:MJ) (E:MJ),Q (.bool (g i j)) s->wpAny (model X.prog X.w) X.A (f (.int i t) (.int j u)) Q E s) :
  OpR X f (rI0 λi j=>.bl (g i j)):=by
 intro am s σ H x y v u Q I rx ry h;obtain⟨i,j,rfl,rfl,q⟩:=h;obtain⟨t,rfl⟩:=rx;obtain⟨t',rfl⟩:=ry;exact rule i j t t' s _ _ ⟨.bl (g i j),H,I,rfl,q⟩
def CDiv (i j:Int):Prop:=0 < j/\j < 1073741824
def CMul (i j:Int):Prop:=(-(2^64) < i/\i < 2^64)\/(-(2^64) < j/\j < 2^64)
def CMul.ok {i j:Int}(h:CMul i j):IntMulOk i j:=by
 rcases h with ⟨h1,h2⟩ | ⟨h1,h2⟩
 ·exact .of_left (intBits_le_64 h1 h2)
 ·exact .of_right (intBits_le_64 h1 h2)
def Ep:OpR X (binaryOp .Add) (rI0 λi j=>.int (i+j)):=RK λ_ _ _ _ _ _ _ q=>add_int q
def Er:OpR X (binaryOp .Sub) (rI0 λi j=>.int (i - j)):=RK λ_ _ _ _ _ _ _ q=>sub_int q
def Es:OpR X (binaryOp .Mult) (rI CMul λi j=>.int (i*j)):=opI λ_ _ _ _ _ _ _ hc q=>mul_int q hc.ok
def Cd:OpR X (binaryOp .FloorDiv) (rI CDiv λi j=>.int (i/j)):=opI λi j _ _ _ _ _ hc q=>by
 have h1:=hc.1;have h2:=hc.2;exact floordiv_int (by omega) (by rw[Int.fdiv_eq_ediv_of_nonneg i (by omega)];exact q) (.inl (PyProof.noPylong_small (by omega)))
def Et:OpR X (binaryOp .Mod) (rI (λ_ j=>0 < j) λi j=>.int (i%j)):=opI λi j _ _ _ _ _ hc q=>by
 have h1:=hc;exact mod_int' (by omega) (by rw[Int.fmod_eq_emod_of_nonneg i (by omega)];exact q)
def unI {f:Value->Sem Value}{g:Int->Int}
  (rule:∀ (i:Int) (t:Tok) (s:Shared) (Q:MJ) (E:MJ),Q (.int (g i) s.toks) { s with toks:=s.toks+1 }->wpAny (model X.prog X.w) X.A (f (.int i t)) Q E s) :
  UnR X f (rU λi=>.int (g i)):=by
 intro am s σ H x v Q I rx h;obtain⟨i,rfl,q⟩:=h;obtain⟨t,rfl⟩:=rx;exact rule i t s _ _ ⟨.int (g i),H,I.tok _,⟨_,rfl⟩,q⟩
def Eu:UnR X (unaryOp .USub) (rU λi=>.int (-i)):=unI λ_ _ _ _ _ q=>neg_int q
def gT {σ:St}{H:Hp}{Q:VK}{k k':Bool}(I:Inv X am σ H s)(q:Q (.bl k) H)(e:k=k'):EP X am σ Q (.bool k') s:=by
 subst e;exact⟨.bl k,H,I,rfl,q⟩
def wx:OpR X (compareOp .Lt) (rI0 λi j=>.bl (decide (i < j))):=QB λ_ _ _ _ _ _ _ q=>lt_int q
def pz:OpR X (compareOp .LtE) (rI0 λi j=>.bl (decide (i<=j))):=QB λ_ _ _ _ _ _ _ q=>le_int q
def Fu:OpR X (compareOp .Gt) (rI0 λi j=>.bl (decide (j < i))):=QB λ_ _ _ _ _ _ _ q=>gt_int q
def Fv:OpR X (compareOp .GtE) (rI0 λi j=>.bl (decide (j<=i))):=QB λ_ _ _ _ _ _ _ q=>ge_int q
def OpR.or (h:OpR X f r)(h':OpR X f r'):OpR X f (λx y H Q=>r x y H Q\/r' x y H Q):=by
 intro am s σ H x y v u Q I rx ry q;rcases q with q | q
 ·exact h am s σ H x y v u Q I rx ry q
 ·exact h' am s σ H x y v u Q I rx ry q
def Qr (b:Expr)(h:autoParam (op≠.In) YQ)(h2:autoParam (op≠.NotIn) YQ):behindInMarks op b=false:=by
 have e1:(op==CmpOp.In)=false:=by cases op<;>first | rfl | exact absurd rfl h
 have e2:(op==CmpOp.NotIn)=false:=by cases op<;>first | rfl | exact absurd rfl h2
 cases b<;>simp[behindInMarks,e1,e2]
def wy (ho:OpR X (compareOp op) r)(ha:PE X a ta)(hb:PE X b tb)(hm:behindInMarks op b=false):PE X (.Compare a [op] [b] pos) (tOp r ta tb):=by
 intro am s σ H Q I h;exact wpAny_Compare1 (binT ha hb I h λv u s2 x y H2 I2 rx ry q=>ho am s2 σ H2 x y v u Q I2 rx ry q) hm
def Qe (t:TE):TT:=λσ H Q=>t σ H λx H'=>∃ k,x=.bl k/\Q k H'
def wz (ho:OpR X (compareOp op) r)(ha:PE X a ta)(hb:PE X b tb)(hm:behindInMarks op b=false):PT X (.Compare a [op] [b] pos) (Qe (tOp r ta tb)):=by
 intro am s σ H Q I h;refine LR (thn (ha am s σ H _ I h) λv s1 ⟨x,H1,I1,r1,q1⟩=>thn (hb am s1 σ H1 _ I1 q1) λu s2 ⟨y,H2,I2,r2,q2⟩ =>
  thn (ho am s2 σ H2 x y v u _ I2 r1 r2 q2) λc s3 ⟨z,H3,I3,r3,k,e,q3⟩=>?_) hm
 subst e;cases r3;exact IC ⟨H3,I3,q3⟩
def Px (r r':R2)(ta tb tc:TE):TE:=λσ H Q=>ta σ H λx H1=>tb σ H1 λy H2=>r x y H2 λz H3=>∃ k,z=.bl k /\
 (if k=true then tc σ H3 λw' H4=>r' y w' H4 Q else Q (.bl false) H3)
def zV (ho:OpR X (compareOp op) r)(ho':OpR X (compareOp op') r')(ha:PE X a ta)(hb:PE X b tb)(hc:PE X c tc)
  (hm:autoParam (lastMarks [op,op'] [b,c]=false) YG):PE X (.Compare a [op,op'] [b,c] pos) (Px r r' ta tb tc):=by
 intro am s σ H Q I h;refine Compare_chain (thn (ha am s σ H _ I h) λv s1 ⟨x,H1,I1,r1,q1⟩=>chain_link (thn (hb am s1 σ H1 _ I1 q1) λu s2 ⟨y,H2,I2,r2,q2⟩ =>
  thn (ho am s2 σ H2 x y v u _ I2 r1 r2 q2) λd s3 ⟨z,H3,I3,r3,k,e,q3⟩=>?_)) hm
 subst e;cases r3
 wp_walk
 cases k with
 | false=>exact ite_ff ⟨.bl false,H3,I3,rfl,q3⟩
 | true=>exact ite_tt (chain_last (thn (hc am s3 σ H3 _ I3 q3) λw' s4 ⟨z',H4,I4,r4,q4⟩=>ho' am s4 σ H4 y z' u w' Q I4 r2 r4 q4))
def zW (ho:OpR X (compareOp op) r)(ho':OpR X (compareOp op') r')(ha:PE X a ta)(hb:PE X b tb)(hc:PE X c tc)
  (hm:autoParam (lastMarks [op,op'] [b,c]=false) YG):PT X (.Compare a [op,op'] [b,c] pos) (Qe (Px r r' ta tb tc)):=by
 intro am s σ H Q I h;refine isTrue_chain (thn (ha am s σ H _ I h) λv s1 ⟨x,H1,I1,r1,q1⟩=>test_link (thn (hb am s1 σ H1 _ I1 q1) λu s2 ⟨y,H2,I2,r2,q2⟩ =>
  thn (ho am s2 σ H2 x y v u _ I2 r1 r2 q2) λd s3 ⟨z,H3,I3,r3,k,e,q3⟩=>?_)) hm
 subst e;cases r3;refine IC ?_;cases k with
 | false =>
  obtain⟨k',e',q'⟩:=q3;cases e';exact ite_ff ⟨H3,I3,q'⟩
 | true =>
  refine ite_tt (test_last (thn (hc am s3 σ H3 _ I3 q3) λw' s4 ⟨z',H4,I4,r4,q4⟩=>thn (ho' am s4 σ H4 y z' u w' _ I4 r2 r4 q4) λd' s5 ⟨z2,H5,I5,r5,k2,e2,q5⟩=>?_));subst e2;cases r5;exact IC ⟨H5,I5,q5⟩
def O2:(sizeLine:Nat) < 2^63:=by rw[HV];decide
def N1 {x:V}(r:Vals [x] us):∃ u,us=[u]/\RelV x u:=by
 cases r with
 | cons r1 r2=>cases r2;exact⟨_,rfl,r1⟩
def QU {x y:V}(r:Vals [x,y] us):∃ u w',us=[u,w']/\RelV x u/\RelV y w':=by
 cases r with
 | cons r1 r2 =>
  cases r2 with
  | cons r3 r4=>cases r4;exact⟨_,_,rfl,r1,r3⟩
def xO (hc:X.calm=true):NH X (.builtin "min") (λxs H Q=>∃ i j,xs=[.int i,.int j]/\Q (.int (if j < i then j else i)) H):=by
 intro am s σ H xs us Q I r h;obtain⟨i,j,rfl,q⟩:=h;obtain⟨u,w',rfl,⟨t,rfl⟩,⟨t',rfl⟩⟩:=QU r;refine min_two_ints (I.ok.hd hc) λh' tk k=>⟨_,H,I.kept k,?_,q⟩
 by_cases hj:j < i
 ·rw[if_pos hj,if_pos hj];exact⟨_,rfl⟩
 ·rw[if_neg hj,if_neg hj];exact⟨_,rfl⟩
def xP:NH X (.type "int") (λxs H Q=>(∃ i,xs=[.int i]/\Q (.int i) H)\/∃ k,xs=[.bl k]/\Q (.int (if k then 1 else 0)) H):=by
 intro am s σ H xs us Q I r h;rcases h with ⟨i,rfl,q⟩ | ⟨k,rfl,q⟩
 ·obtain⟨u,rfl,t,rfl⟩:=N1 r;exact call_int_int ⟨.int i,H,I,⟨_,rfl⟩,q⟩
 ·obtain⟨u,rfl,r1⟩:=N1 r;cases r1;exact call_int_bool ⟨.int (if k then 1 else 0),H,I.tok _,⟨_,rfl⟩,q⟩
end
end
section
variable {A:Around}{E:MJ}{s:Shared}{dx C a:Addr}{H:Hp}{X:Cx}{w:World}{am:MZ}
section
variable {prog:Program}{K:Frag}{x f:Addr}{mA:MK}{name:Str}{v:Value}
def RelO.some_of {v:V}{o:Na}(r:RelO (some v) o):∃ u,o=some u/\RelV v u:=by
 cases o with
 | none=>exact(show False from r).elim
 | some u=>exact⟨u,rfl,r⟩
variable {P:Program}{H':Hp}{h h':Heap}{fs fs':List (Str×V)}
end
section
variable {σ:St}{fs:List (Str×V)}{f:Str}{v:V}
variable {o e value:Expr}{pos pos' tpos:Pos}{ta tv:TE}
variable {Q:MJ}{c:Value}{b:Bool}
end
end
section
variable {k:Nat}{ps N:List Str}{A:Around}{X:Cx}{f C:Addr}{kindOf:Str->Option NameKind}{e o:Expr}{es:Nd}{t:TA}{pos Mo:Pos}{H:Hp}{s:Shared}{K:Frag}{fd:FuncData}{E:XK}{am:MZ}{us:List Value}{vs:List V}{v:Value}{P:Program}{mg:MK}{base:Heap}{qual:Str}{scope:Scope}
structure Room (k:Nat)(A:Around):Prop where
 hd:A.handled=none
 dp:A.depth+3*k+5 < recursionLimit
 un:A.units+16*k+200 < cLine
structure RoomW (k:Nat)(A:Around):Prop where
 hd:A.handled=none
 dp:A.depth+3*k+3 < recursionLimit
 un:A.units+16*k+190 < cLine
def Room.w (r:Room k A):RoomW k A:=⟨r.hd,by have:=r.dp;omega,by have:=r.un;omega⟩
def RoomW.deeper (r:RoomW (k+1) A)(env:Env):Room k (A.deeper env) :=
 ⟨r.hd,by have:=r.dp;show A.depth+1+3*k+5 < _;omega,by have:=r.un;show A.units+3+16*k+200 < _;omega⟩
def RoomW.depth (r:RoomW k A):A.depth < recursionLimit:=by have:=r.dp;omega
def RB:TA:=λ_ H Q=>Q [] H
def Qf (ta:TE)(tr:TA):TA:=λσ H Q=>ta σ H λx H1=>tr σ H1 λxs H2=>Q (x::xs) H2
section
variable {te:TE}
def u7:PA X [] RB:=λ_ _ _ _ H Q I h=>Calls.spliced_nil ⟨[],H,I,.nil,h⟩
abbrev Id (X:Cx)(e:Expr)(es:Nd):Prop:=starEach (e::es) X.env=(false,eval e X.env)::starEach es X.env
def mq (ha:PE X e te)(hr:PA X es t)(hs:autoParam (Id X e es) YW):PA X (e::es) (Qf te t):=by
 intro pos am s σ H Q I h;rw[hs];refine Calls.spliced_cons (thn (ha am s σ H _ I h) λu s1 ⟨x,H1,I1,r1,q1⟩=>?_);exact thn (hr pos am s1 σ H1 _ I1 q1) λus s2 ⟨xs,H2,I2,r2,q2⟩=>⟨x::xs,H2,I2,.cons r1 r2,q2⟩
def Si (t:TA):TE:=λσ H Q=>t σ H λxs H1=>xs.length<=sizeLine/\∀ p,H1 p=none->Q (.ref p) (upd H1 p (.tup xs))
def Sq (t:TA):TE:=λσ H Q=>t σ H λxs H1=>xs.length<=sizeLine/\∀ p,H1 p=none->Q (.ref p) (upd H1 p (.lst xs))
def Ew {x1}(h:PA X es t):PE X (.Tuple es x1 pos) (Si t):=by
 intro am s σ H Q I hq;refine wpAny_Tuple_spliced (thn (h pos am s σ H _ I hq) λus s1 ⟨xs,H1,I1,r,z,q⟩=>⟨by rw[<- r.length];exact z,?_⟩);have hf:=I1.hok.fresh (Hr _);refine⟨.ref s1.zz,upd H1 s1.zz (.tup xs),I1.laid (λb u e=>Hn _ e) (Hr _) ?_,rfl,q _ hf⟩;exact⟨z,us,r,TupO.new _ _⟩
def zX (h:PA X es t):PE X (.List es pos) (Sq t):=by
 intro am s σ H Q I hq;refine wpAny_List_spliced (thn (h pos am s σ H _ I hq) λus s1 ⟨xs,H1,I1,r,z,q⟩=>⟨by rw[<- r.length];exact z,?_⟩);have hf:=I1.hok.fresh (Hr _);refine⟨.ref s1.zz,upd H1 s1.zz (.lst xs),I1.laid (λb u e=>Hn _ e) (Hr _) ?_,rfl,q _ hf⟩;exact⟨z,us,0,r,HP _ rfl⟩
end
abbrev Sp:=List V->Hp->VK->XK->Prop
variable {sp:Sp}
abbrev CXT:=List Env->Hp->Shared->XK->MJ
variable {CX:CXT}
structure QL (P:Program)(w:World)(K:Frag)(mg:MK)(base:Heap)(A:Around)(outer:List Env)(s:Shared)(H:Hp):Prop where
 frames:A.frames=some outer
 mod:Mod K mg base
 bs:∀ b o,base.get? b=some o->s.heap.get? b=some o/\H b=none
 bsz:base.objs.size<=s.zz
 funs:s.heap.FunFrames base outer
 frf:∀ b∈frs outer,H b=none
 hok:HOk P w H s.heap
 bare:AllBare s.gens
def CE (outer:List Env)(P:Program)(w:World)(H:Hp)(s:Shared)(Q:VK)(u:Value)(s':Shared):Prop :=
 ∃ v H',s'.os=s.os/\AllBare s'.gens/\Un (frs outer) [] H H' s.heap s'.heap/\HOk P w H' s'.heap/\RelV v u/\Q v H'
def CR (CX:CXT)(outer:List Env)(P:Program)(w:World)(H:Hp)(s:Shared)(Q:VK)(E:XK)(r:Result)(s':Shared):Prop :=
 match r with
 | .ok (.ret u)=>CE outer P w H s Q u s'
 | .ok _=>False
 | .error e=>CX outer H s E e s'
structure OM (P:Program)(w:World)(K:Frag)(mg:MK)(base:Heap)(CX:CXT)(k:Nat)(f:Addr)(fd:FuncData)(ps:List Str)(sp:Sp):Prop where
 len:∀ vs H Q E,sp vs H Q E->vs.length=ps.length
 run:∀ (A:Around) (outer:List Env) (s:Shared) (H:Hp) (args:Args) (us:List Value) (vs:List V) (Q:VK) (E:XK),RoomW k A->QL P w K mg base A outer s H->BindsTo s fd args (ps.zip us)->Vals vs us->sp vs H Q E ->
  codeAny (model P w) A (.call (.ref f) args) (CR CX outer P w H s Q E) s
section
variable {σ:St}{s':Shared}
def Inv.env0 (I:Inv X am σ H s):QL X.prog X.w X.K X.mg X.base X.A X.stack s H :=
 ⟨I.ok.frames,I.ok.mod,I.bs,HK I.ok.bsz I.sz,I.stack,I.stkFree,I.hok,I.bare⟩
def Inv.after {Q:VK}{u:Value}(I:Inv X am σ H s)(h:CE X.stack X.prog X.w H s Q u s'):EP X am σ Q u s':=by
 obtain⟨v,H',os,bare,un,hok,r,q⟩:=h;obtain⟨hh,g,d,t,os'⟩:=s';obtain rfl:os'=s.os:=os;exact⟨v,H',I.call un hok bare (λb z=>absurd z (by simp)),r,q⟩
def QW (sp:Sp)(M9:List V)(E:XK)(t:TA):TE:=λσ H Q=>t σ H λvs H1=>sp (vs++M9) H1 Q E
def Binds (K:Frag)(fd:FuncData)(ps:List Str)(ds:List Value):Prop :=
 ∀ (s:Shared) (us:List Value),K.In s.heap->(us++ds).length=ps.length->BindsTo s fd ⟨us,[]⟩ (ps.zip (us++ds))
def Binds.all (h:∀ us:List Value,us.length=ps.length->bindArgs fd ⟨us,[]⟩=pure (ps.zip us)):Binds K fd ps []:=λs us _ hl=>by
 rw[IH]at hl ⊢;exact .of_eq (h us hl)
def O3 (CX:CXT)(X:Cx)(E:XK):Prop:=∀ (am:MZ) (σ:St) (H:Hp) (s:Shared) (e:Value) (s':Shared),Inv X am σ H s->CX X.stack H s E e s'->X.xe e s'
variable {M9:List V}{ds:List Value}{x m:Str}{p:Pos}{ta:TE}
def zY {σ:St}{Q:VK}(F:OM X.prog X.w X.K X.mg X.base CX k f fd ps sp)(hr:Room k X.A)(hb:Binds X.K fd ps ds)(hd:Vals M9 ds)(hx:O3 CX X E)
  (I:Inv X am σ H s) (r:Vals vs us) (h:sp (vs++M9) H Q E):wpAny (model X.prog X.w) X.A (call (.ref f) us) (EP X am σ Q) X.xe s:=by
 have r2:Vals (vs++M9) (us++ds):=r.append hd;have hl:(us++ds).length=ps.length:=by rw[<- r2.length];exact F.len _ _ _ _ h
 refine wpAny_call (Mh (F.run X.A X.stack s H ⟨us,[]⟩ (us++ds) (vs++M9) Q E hr.w I.env0 (hb s us I.kIn hl) r2 h) λr s' hq=>?_);cases r with
 | error e=>exact hx am σ H s e s' I hq
 | ok fl =>
  cases fl with
  | ret u=>exact I.after hq
  | next=>exact False.elim hq
  | brk=>exact False.elim hq
  | cont=>exact False.elim hq
abbrev IO (X:Cx)(p:Pos)(es:Nd):Prop:=(backTo p (starEach es X.env)).any (·.1)=false
def Ce (F:OM X.prog X.w X.K X.mg X.base CX k f fd ps sp)(hr:Room k X.A)(hg:Gl X x)(hm:X.mg x=some (.ref f))(hk:keepIn X.K (.ref f)=true)(hb:Binds X.K fd ps ds)(hd:Vals M9 ds)(hx:O3 CX X E)
  (ha:PA X (e::es) t) (M5:autoParam (MA x) YQ) (he:autoParam (Id X e es) YW) (hpl:autoParam (IO X pos es) YW) :
  PE X (.Call (.Name x p) (e::es) [] pos) (QW sp M9 E t):=by
 intro am s σ H Q I h;refine K1 (mn I hg hm ?_ M5);refine PySem.W.callWith_K (h₀:=X.base) I.ok.mod.kin hk (thn (ha pos am s σ H _ I h) λus s1 ⟨vs,H1,I1,r,q⟩=>⟨I1.kIn,?_⟩) he hpl;exact zY F hr hb hd hx I1 r q
variable {ks:List Str}{kpos:Pos}{kws:List Keyword}{te:TE}{tk:TA}{nm:Option Str}
variable {g:List Value->List Value->List Value}{gV:List V->List V->List V}
end
structure MG (N P:List Str)(sc:Scope):Prop where
 kind:sc.kind=.function
 co:sc.isCoroutine=false
 gen:sc.isGenerator=false
 nd:N.Nodup
 pre:N.take P.length=P
 par:∀ x∈P,sc.names.lookup x=some .local\/sc.names.lookup x=some .cell
 nofree:∀ y∈sc.names,y.2≠.free
theorem pC {kindOf:Str->Option NameKind}{x:Str}:∀ {binds:List (Str×Value)} {m:MK},(∀ v,(x,v)∉binds)->bindL kindOf binds m x=m x
 | [],_,_=>rfl
 | (n,v)::r,m,h=>by
  unfold bindL;rw[pC λw hw=>h w (Il _ hw)];split
  ·have:x≠n:=by rintro rfl;exact h v Ih
   simp[this]
  ·rfl
theorem pF {kindOf:Str->Option NameKind}{x:Str}:∀ {binds:List (Str×Value)} {m:MK},(∀ v,(x,v)∉binds)->bindC kindOf binds m x=m x
 | [],_,_=>rfl
 | (n,v)::r,m,h=>by
  unfold bindC;rw[pF λw hw=>h w (Il _ hw)];split
  ·rfl
  ·have:x≠n:=by rintro rfl;exact h v Ih
   simp[this]
theorem pG {kindOf:Str->Option NameKind}{x:Str}{v:Value}:∀ {P:List Str} {vs:List Value} {i:Nat} {m:MK},P.Nodup->P[i]?=some x->vs[i]?=some v->kindOf x=some .local ->
  bindL kindOf (P.zip vs) m x=some v
 | [],_,_,_,_,h,_,_=>by simp at h
 | _::_,[],_,_,_,_,h,_=>by simp at h
 | p::P,w::vs,0,m,nd,h1,h2,hk=>by
  simp at h1 h2;subst h1;subst h2
  show bindL kindOf ((p,w)::P.zip vs) m p=_;unfold bindL;rw[pC λv hv=>(IR.mp nd).1 (LG hv).1,if_pos hk]
  simp
 | p::P,w::vs,i+1,m,nd,h1,h2,hk=>by
  unfold bindL;exact pG (IR.mp nd).2 (by simpa using h1) (by simpa using h2) hk
theorem pH {kindOf:Str->Option NameKind}{x:Str}{v:Value}:∀ {P:List Str} {vs:List Value} {i:Nat} {m:MK},P.Nodup->P[i]?=some x->vs[i]?=some v->kindOf x≠some .local ->
  bindC kindOf (P.zip vs) m x=some v
 | [],_,_,_,_,h,_,_=>by simp at h
 | _::_,[],_,_,_,_,h,_=>by simp at h
 | p::P,w::vs,0,m,nd,h1,h2,hk=>by
  simp at h1 h2;subst h1;subst h2
  show bindC kindOf ((p,w)::P.zip vs) m p=_;unfold bindC;rw[pF λv hv=>(IR.mp nd).1 (LG hv).1,if_neg hk]
  simp
 | p::P,w::vs,i+1,m,nd,h1,h2,hk=>by
  unfold bindC;exact pH (IR.mp nd).2 (by simpa using h1) (by simpa using h2) hk
noncomputable def Oq (N:List Str)(vs:List V):St:=vs.map some++List.replicate (N.length - vs.length) none
noncomputable def P1 (CX:CXT)(P:Program)(w:World)(K:Frag)(mg:MK)(base:Heap)(N:List Str)(qual:Str)(scope:Scope)(f:Addr)(cd:Value)(A:Around)(outer:List Env)(s:Shared)(H:Hp)(E:XK):Cx where
 prog:=P
 w:=w
 K:=K
 mg:=mg
 base:=base
 A:=A.deeper (envOfC qual scope s.zz f cd)
 N:=N
 s₀:=s
 H₀:=H
 env:=envOfC qual scope s.zz f cd
 outer:=outer
 stack:=envOfC qual scope s.zz f cd::outer
 ex:=[]
 calm:=true
 fn:=λ_=>true
 pn:=[]
 xe:=λe s'=>wpAny (model P w) (A.deeper (envOfC qual scope s.zz f cd)) (leaving (envOfC qual scope s.zz f cd) e) (λ_ s''=>CX outer H s E e s'') (λe' s''=>CX outer H s E e' s'') s'
def se {sc:Scope}{n:Nat}{x:Str}(h:sc.names.lookup x=some .cell):∃ c,(cellsFrom n sc.names []).lookup x=some c:=by
 have q:=LJ sc.names n [] (.inl h);exact Kh.mp q
def xQ {w:World}{cd:Value}{outer:List Env}{s1:Shared}
  (S:MG N ps scope) (hd:A.handled=none) (e0:QL P w K mg base A outer s H) (hl:vs.length=ps.length) (r:Vals vs us)
  (x:InCallC s s.zz (bindL (envOfC qual scope s.zz f cd).kindOf (ps.zip us) λ_=>none) (cellsFrom (s.zz+1) scope.names []) (bindC (envOfC qual scope s.zz f cd).kindOf (ps.zip us) λ_=>none) s1) :
  Inv (P1 CX P w K mg base N qual scope f cd A outer s H E) [] (Oq N vs) H s1:=by
 have hpl:ps.length<=N.length:=by have:=IZ List.length S.pre;rw[J4]at this;omega
 obtain⟨h1,tk,rfl,hk⟩:=x.done;have noA:∀ b:Addr,b∉(P1 CX P w K mg base N qual scope f cd A outer s H E).ex:=λb z=>absurd (show b∈([]:List Addr) from z) (by simp)
 refine⟨⟨e0.mod,S.kind,rfl,rfl,Hr _,λy z c h1 h2=>?_,λy hy=>?_,λy c _ h=>?_,λ_=>hd,Around.frames_deeper e0.frames,.inr ⟨rfl,rfl⟩,λb z=>absurd z (noA b),e0.bs,e0.bsz,λb _ _=>noA b,λb z=>absurd z (noA b),e0.funs,e0.frf⟩,
  rfl,e0.bare,Un.kept hk,⟨_,x.toInCall.ns,λi y v h1 h2 h3=>?_⟩,λy c h=>⟨_,x.cell y c h⟩,e0.hok.fresh (Hr _),λy c h=>?_,λp hp=>absurd (show p∈([]:MZ) from hp) (by simp),e0.hok.kept hk,?_⟩
 ·exact name_of_addr x.apart (Iq h1) (Iq h2)
 ·have hy:=hy;rcases hy with hy | hy
  ·exact se hy
  ·exact absurd rfl (S.nofree _ (Iq hy))
 ·exact KJ (x.above y c (Iq h))
 ·have hi:i < vs.length:=by
   unfold Oq at h2;by_cases hi:i < vs.length
   ·exact hi
   ·rw[Jt (by simpa using hi)]at h2;rw[JI]at h2;split at h2<;>cases h2
  have ha:vs[i]?=some v:=by
   unfold Oq at h2;rw[Jg (by simpa using hi),Ir]at h2;cases e:vs[i]? with
   | none=>rw[e]at h2;cases h2
   | some a=>rw[e]at h2;cases h2;rfl
  obtain⟨u,hu,rv⟩:=r.get ha;have hp:ps[i]?=some y:=by
   rw[<- S.pre,List.getElem?_take_of_lt (by omega)];exact h1
  have ndP:ps.Nodup:=by rw[<- S.pre];exact S.nd.sublist (List.take_sublist _ _)
  refine⟨u,rv,?_⟩;rcases S.par y (List.mem_of_getElem? hp) with k | k
  ·exact .inl ⟨k,pG ndP hp hu k⟩
  ·obtain⟨c,e⟩:=se k;refine .inr ⟨.inl k,c,e,?_⟩;have q:=x.cell y c e;rw[pH ndP hp hu (by show scope.names.lookup y≠_;rw[k];decide)]at q;exact q
 ·exact e0.hok.fresh (KJ (x.above y c (Iq h)))
 ·unfold Oq;show _=N.length;rw[HJ,Hl,Jq];omega
def Fw {w:World}{name:Str}{params:Arguments}{body:Nc}{dV kV doc pm Mt ct oc:Value}{an od:Option Addr}
  {osl:Array (Na)}   (lk:K.lookup f=some ⟨oc,od,.func (fnOf name qual params body scope dV kV doc pm an Mt ct),osl⟩) (M1:codeIn K Mt qual=true) (S:MG N ps scope)
  (len:∀ vs H Q E,sp vs H Q E->vs.length=ps.length)
  (hbody:∀ (A:Around) (outer:List Env) (s:Shared) (H:Hp) (vs:List V) (Q:VK) (E:XK),Room k (A.deeper (envOfC qual scope s.zz f Mt))->sp vs H Q E ->
   ∃ t,PSs (P1 CX P w K mg base N qual scope f Mt A outer s H E) body t/\t { nx:=λ_ H'=>Q .non H',rt:=Q } (Oq N vs) H) :
  OM P w K mg base CX (k+1) f (fnOf name qual params body scope dV kV doc pm an Mt ct) ps sp:=by
 refine⟨len,λA outer s H args us vs Q E hr e0 hb r hsp=>?_⟩;have hl:=len _ _ _ _ hsp;have KX:K.In s.heap:=e0.mod.kin.keeps λb o e=>(e0.bs b o e).1
 have lim:=e0.mod.nolimit.keeps λb o e=>(e0.bs b o e).1
 have hkind:∀ y∈ps.zip us,scope.names.lookup y.1=some .local\/(scope.names.lookup y.1=some .cell/\((cellsFrom (s.zz+1) scope.names []).lookup y.1).isSome=true):=λ⟨n,v⟩ hy=>by
  rcases S.par n (LG hy).1 with q | q
  ·exact .inl q
  ·exact .inr ⟨q,LJ _ _ _ (.inl q)⟩
 refine codeAny_call_function hr.depth (KX _ _ lk) rfl S.co S.gen rfl (PySem.W.codeRec_of KX M1) (hb _ _ _ _ ?_);refine wpAny_newFunctionEnv_cells S.kind hkind λenv he s1 x=>?_
 subst he;refine⟨lim.keeps x.toInCall.keep,codeAny_func ?_⟩;obtain⟨t,ht,hq⟩:=hbody A outer s H vs Q E (hr.deeper _) hsp;have I:Inv (P1 CX P w K mg base N qual scope f Mt A outer s H E) [] (Oq N vs) H s1:=xQ S hr.hd e0 hl r x;refine Im (ht [] s1 (Oq N vs) H _ I hq) (λfl s' hs=>?_) λe s' hs=>hs
 have fin:∀ {σ':St} {H':Hp} {v:V} {u:Value},Inv (P1 CX P w K mg base N qual scope f Mt A outer s H E) [] σ' H' s'->RelV v u->Q v H'->CE outer P w H s Q u s' :=
  λ{σ' H' v u} J rv q=>⟨v,H',J.os,J.bare,J.base,J.hok,rv,q⟩
 cases fl with
 | ret u =>
  obtain⟨v,σ',H',J,rv,q⟩:=hs;exact fin J rv q
 | next =>
  obtain⟨σ',H',J,q⟩:=hs;exact fin (v:=V.non) J rfl q
 | brk =>
  obtain⟨_,_,_,q⟩:=hs;exact False.elim q
 | cont =>
  obtain⟨_,_,_,q⟩:=hs;exact False.elim q
end
section
section
variable {X:Cx}{x:Str}{p pos:Pos}{e:Expr}{es:Nd}{t:TA}{id T:String}{r:MP}
def tCB (r:MP)(t:TA):TE:=λσ H Q=>t σ H λvs H1=>r vs H1 Q
def eD (hc:NH X (.builtin id) r)(hg:Gl X x)(hm:X.mg x=none)(hv:bootBuiltins x=some (.builtin id))(ha:PA X (e::es) t)(hn:autoParam (x ≠ "__name__") YQ)(M5:autoParam (MA x) YQ)
  (he:autoParam (Id X e es) YW) (hpl:autoParam (IO X pos es) YW):PE X (.Call (.Name x p) (e::es) [] pos) (tCB r t):=by
 intro am s σ H Q I h;refine K1 (kw I hg hm hv ?_ hn M5);exact PyProof.Rows.callWith_builtin1 (thn (ha pos am s σ H _ I h) λus s1 ⟨vs,H1,I1,r1,q1⟩=>hc am s1 σ H1 vs us Q I1 r1 q1) he hpl
def pI (hc:NH X (.type T) r)(hg:Gl X x)(hm:X.mg x=none)(hv:bootBuiltins x=some (.type T))(ha:PA X (e::es) t)(hn:autoParam (x ≠ "__name__") YQ)(M5:autoParam (MA x) YQ)
  (he:autoParam (Id X e es) YW) (hpl:autoParam (IO X pos es) YW):PE X (.Call (.Name x p) (e::es) [] pos) (tCB r t):=by
 intro am s σ H Q I h;refine K1 (kw I hg hm hv ?_ hn M5);exact Jo (thn (ha pos am s σ H _ I h) λus s1 ⟨vs,H1,I1,r1,q1⟩=>hc am s1 σ H1 vs us Q I1 r1 q1) he hpl
end
end
end L2
namespace HT
open PySem PyProof.Rows
variable {t sl:Addr}{vl vu:Value}{lo hi:Option Int}
section
open PySem.SeqAt
open PySem.AutoSeq1 (wpAny_loadPart')
open PySem.MeetsSeq PySem.MeetsSeq2 PySem.MeetsSeq3
end
section
variable {prog:Program}{w:World}{A:Around}{E:MJ}{s:Shared}
def Cf {b:Addr}{vs ws:List Value}{Q:MJ}(ht:IsTup s.heap t vs.toArray)(hb:IsTup s.heap b ws.toArray)(hv:vs≠[])
  (h1:ws=[]->Q (.ref t) s) (h2:ws≠[]->Q (.ref s.zz) { s with heap:=s.heap.push { cls:=.type "tuple",data:=.seq (vs++ws).toArray } })
  (hsz:vs.length+ws.length<=sizeLine):wpAny (model prog w) A (binaryOp .Add (.ref t) (.ref b)) Q E s:=by
 obtain⟨⟨cls,dd,data,sl⟩,ho,hc,n,hd⟩:=id ht;obtain⟨⟨cls2,dd2,data2,sl2⟩,ho2,hc2,n2,hd2⟩:=id hb;simp only at hc hd hc2 hd2;subst hc hd hc2 hd2;have e:vs.toArray++ws.toArray=(vs++ws).toArray:=by simp
 by_cases hw:ws=[]
 ·exact Lo ⟨_,ho,rfl⟩ ⟨_,ho2,rfl⟩ Lp Mb Kv Kl (Ki _ _)
   (tuple_addW1 t b vs.toArray ws.toArray n n2 dd dd2 sl sl2 (by simpa using hv) (by simp[hw])) ⟨ho,ho2,h1 hw⟩
 ·refine Lo ⟨_,ho,rfl⟩ ⟨_,ho2,rfl⟩ Lp Mb Kv Kl (Ki _ _)
   (tuple_addW2 t b vs.toArray ws.toArray n n2 dd dd2 sl sl2 (by simpa using hv) (by simpa using hw) (by rw[Hs,Hs];exact hsz)) ⟨ho,ho2,?_⟩
  rw[e];exact h2 hw
noncomputable def sIx (n d:Nat):Option Int->Nat
 | none=>d
 | some v=>if v < 0 then (v+(n:Int)).toNat else min v.toNat n
def sf (n d:Nat):sIx n d none=d:=rfl
def Ey (n d:Nat)(hd:d<=n)(o:Option Int):sIx n d o<=n:=by
 cases o with
 | none=>exact hd
 | some v =>
  show (if v < 0 then (v+(n:Int)).toNat else min v.toNat n)<=n;by_cases hv:v < 0
  ·rw[if_pos hv];omega
  ·rw[if_neg hv];exact Nat.min_le_right _ _
def wA (v:Int)(n d:Nat):(if v < 0 then max (v+(n:Int)) 0 else min v (n:Int))=((sIx n d (some v):Nat):Int):=by
 show (if v < 0 then max (v+(n:Int)) 0 else min v (n:Int))=(((if v < 0 then (v+(n:Int)).toNat else min v.toNat n):Nat):Int);by_cases hv:v < 0
 ·simp only[if_pos hv];omega
 ·simp only[if_neg hv];omega
def u8 (lo hi:Option Int)(n:Nat):Builtin.Slice.sliceAdjust lo hi 1 (n:Int)=(((sIx n 0 lo:Nat):Int),((sIx n n hi:Nat):Int)):=by
 have h1:¬ ((1:Int) < 0):=by omega
 unfold Builtin.Slice.sliceAdjust;simp only[h1,Hu];refine KY ?_ ?_
 ·cases lo with
  | none=>rfl
  | some v=>exact wA v n 0
 ·cases hi with
  | none=>rfl
  | some v=>exact wA v n n
def u9 (i j:Nat):Builtin.Slice.slicePlaces (i:Int) (j:Int) 1=j - i:=by
 unfold Builtin.Slice.slicePlaces;have h1:(1:Int) > 0:=by omega
 simp only[h1,Hx,Int.ediv_one];split<;>omega
def mO {v:Value}{o:Option Int}{Q:Option Int->MT}(p:IsPart v o)(h:Q o s):wpAny (model prog w) A (Builtin.Slice.slicePartIndex v) Q E s:=by
 cases p with
 | none=>exact slicePart_none h
 | int i t=>exact slicePart_int h
def fJ {n:Nat}{Q:Int×Int×Nat->MT}(hs:s.heap.IsSliceOf sl vl vu .none)(pl:IsPart vl lo)(pu:IsPart vu hi)
  (h:Q (((sIx n 0 lo:Nat):Int),1,sIx n n hi - sIx n 0 lo) s):wpAny (model prog w) A (Builtin.Slice.sliceApplied (.ref sl) (pure (n:Int))) Q E s:=by
 obtain⟨os,hos,hcs,hds⟩:=id hs;unfold Builtin.Slice.sliceApplied Builtin.Slice.sliceFields;refine Hk (Hk (JR hos hds rfl (Hk (JR hos hds rfl (Hk (JR hos hds rfl (Hw ?_)))))));refine Hk (slicePart_none ?_);rw[if_neg (by decide)];refine Hk (mO pl (Hk (mO pu (Hk (Hw ?_)))));show wpAny _ _ (match Builtin.Slice.sliceAdjust lo hi 1 (n:Int) with | (lo,hi)=>pure (lo,(1:Int),Builtin.Slice.slicePlaces lo hi 1)) _ _ s;rw[u8 lo hi n];show wpAny _ _ (pure (((sIx n 0 lo:Nat):Int),(1:Int),Builtin.Slice.slicePlaces ((sIx n 0 lo:Nat):Int) ((sIx n n hi:Nat):Int) 1)) _ _ s;rw[u9];exact Hw h
def zZ (xs:Array Value)(i k:Nat):((List.range k).filterMap λ(m:Nat)=>xs[((i:Int)+(m:Int)*1).toNat]?).toArray=((xs.toList.drop i).take k).toArray:=by
 have e:(λ(m:Nat)=>xs[((i:Int)+(m:Int)*1).toNat]?)=λm=>xs[i+m]?:=by
  funext m
  have:((i:Int)+(m:Int)*1).toNat=i+m:=by omega
  rw[this]
 rw[e];have:=pick_run xs i k;rw[List.filterMap_map]at this;have e2:((λx=>xs[x]?)∘λx=>i+x)=λm=>xs[i+m]?:=rfl
 rw[e2]at this;rw[this]
def jF {IF:Array Value}{Q:MJ}(ht:IsTup s.heap t IF)(hs:s.heap.IsSliceOf sl vl vu .none)(pl:IsPart vl lo)(pu:IsPart vu hi)
  (hw:¬ (sIx IF.size 0 lo=0/\sIx IF.size IF.size hi=IF.size))
  (h:Q (.ref s.zz) { s with heap:=s.heap.push { cls:=.type "tuple",data:=.seq ((IF.toList.drop (sIx IF.size 0 lo)).take (sIx IF.size IF.size hi - sIx IF.size 0 lo)).toArray } })
  (hsz:IF.size<=sizeLine):wpAny (model prog w) A (getItem (.ref t) (.ref sl)) Q E s:=by
 have htake:sizeOk (.seq ((IF.toList.drop (sIx IF.size 0 lo)).take (sIx IF.size IF.size hi - sIx IF.size 0 lo)).toArray):=by
  show ((IF.toList.drop (sIx IF.size 0 lo)).take (sIx IF.size IF.size hi - sIx IF.size 0 lo)).toArray.size<=sizeLine;rw[Hs,J4,Lq,JH];omega
 have hj:sIx IF.size IF.size hi<=IF.size:=Ey _ _ (Hr _) hi;obtain⟨os,hos,hcs,hds⟩:=id hs;have hTs:s.TypeIs (.ref sl) "slice" := ⟨os,hos,hcs⟩;unfold getItem
 try with_reducible refine Js ?_
 first | refine Hk (Hw ?_) | skip
 refine Hk (wpAny_sequenceKey ht.typeIs (by decide) ?_);refine Hk (IN ht.typeIs Iw
  (Jm Iw ht.typeIs entry_tuple_getitem ?_ (args_tuple_getitem _ _)))
 show wpAny _ _ (Builtin.Tuple.tupleItemsOf (.ref t) >>= _) _ _ s;refine Hk (tupleItemsOf_ ht ?_);refine Hk (Mi hTs ?_);rw[if_pos (by decide)];refine Hk (fJ hs pl pu ?_);have hno:¬ ((((sIx IF.size 0 lo:Nat):Int)==0&&(1:Int)==1&&(sIx IF.size IF.size hi - sIx IF.size 0 lo)==IF.size)=true):=by
  intro q;rw[HD,HD]at q;have q1:=eq_of_beq q.1.1;have q2:=eq_of_beq q.2;exact hw ⟨by omega,by omega⟩
 show wpAny _ _ (if (((sIx IF.size 0 lo:Nat):Int)==0&&(1:Int)==1&&(sIx IF.size IF.size hi - sIx IF.size 0 lo)==IF.size)=true then _ else _) _ _ s;rw[if_neg hno,zZ]
 first
  | exact Hk (Jh (Hw ⟨_,rfl,Hw h⟩) htake)
  | exact Hk (Jh (Hk (Hw (Hw ⟨_,rfl,Hw h⟩))) htake)
  | exact Hk (Hk (Jh (Hw (Hw ⟨_,rfl,Hw h⟩)) htake))
  | exact Hk (Hk (Jh (Hw ⟨_,rfl,Hw h⟩) htake))
end
end HT
namespace L2
open PySem PySem.Spec PyProof.Rows
section
abbrev TO:=St->Hp->(Option Int->MU)->Prop
def PO (X:Cx)(e:Option Expr)(t:TO):Prop :=
 ∀ (am:MZ) (s:Shared) (σ:St) (H:Hp) (Q:Option Int->MU),Inv X am σ H s->t σ H Q ->
  wpAny (model X.prog X.w) X.A (evalPart e X.env) (λu s'=>∃ o H',Inv X am σ H' s'/\IsPart u o/\Q o H') X.xe s
def QN:TO:=λ_ H Q=>Q none H
def RY (t:TE):TO:=λσ H Q=>t σ H λx H1=>∃ i,x=.int i/\Q (some i) H1
def mP {ns:List Int}:∀ {us:List Value},Vals (ns.map V.int) us->IntsAre us ns:=by
 induction ns with
 | nil=>intro us r;rw[IG]at r;cases r;exact .nil
 | cons n ns ih =>
  intro us r;rw[Hq]at r;cases r with
  | cons r1 r2 =>
   obtain⟨t,e⟩:=r1;subst e;exact .cons n t (ih r2)
section
variable {X:Cx}{e:Expr}{te:TE}{lo hi:Option Expr}{tl th:TO}{pos p2:Pos}
def Cg:PO X none QN:=by
 intro am s σ H Q I h;rw[evalPart_none];exact Hw ⟨none,H,I,.none,h⟩
def Ch (h:PE X e te):PO X (some e) (RY te):=by
 intro am s σ H Q I hw;rw[evalPart_some];refine thn (h am s σ H _ I hw) λu s1 ⟨x,H1,I1,r1,q1⟩=>?_
 obtain⟨i,rfl,q⟩:=q1;obtain⟨t,rfl⟩:=r1;exact⟨some i,H1,I1,.int i t,q⟩
def SlR (X:Cx)(r:V->Option Int->Option Int->MQ):Prop :=
 ∀ (am:MZ) (s:Shared) (σ:St) (H:Hp) (x:V) (v vl vu:Value) (lo hi:Option Int) (sl:Addr) (Q:VK),Inv X am σ H s->RelV x v->s.heap.IsSliceOf sl vl vu .none->IsPart vl lo->IsPart vu hi->r x lo hi H Q ->
  ∃ T id,typeLookup (.type T) "__getitem__"=pure (some (.builtin id))/\s.TypeIs v T/\wpAny (model X.prog X.w) X.A (getItem v (.ref sl)) (EP X am σ Q) X.xe s
def SlR.or {r r':V->Option Int->Option Int->MQ}(h:SlR X r)(h':SlR X r'):SlR X (λx lo hi H Q=>r x lo hi H Q\/r' x lo hi H Q):=by
 intro am s σ H x v vl vu lo hi sl Q I rx hs pl pu q;rcases q with q | q
 ·exact h am s σ H x v vl vu lo hi sl Q I rx hs pl pu q
 ·exact h' am s σ H x v vl vu lo hi sl Q I rx hs pl pu q
def tSl (r:V->Option Int->Option Int->MQ)(te:TE)(tl th:TO):TE:=λσ H Q=>te σ H λx H1=>tl σ H1 λl H2=>th σ H2 λu H3=>r x l u H3 Q
def Aa {r:V->Option Int->Option Int->MQ}(hr:SlR X r)(he:PE X e te)(hl:PO X lo tl)(hu:PO X hi th):PE X (.Subscript e (.Slice lo hi none p2) pos) (tSl r te tl th):=by
 intro am s σ H Q I h;refine Subscript_ (thn (he am s σ H _ I h) λv s1 ⟨x,H1,I1,r1,q1⟩=>?_);refine wpAny_Slice (thn (hl am s1 σ H1 _ I1 q1) λvl s2 ⟨l,H2,I2,pl,q2⟩=>thn (hu am s2 σ H2 _ I2 q2) λvu s3 ⟨u,H3,I3,pu,q3⟩=>?_);rw[evalPart_none];refine Hw ?_;have I4:Inv X am σ H3 { s3 with heap:=s3.heap.push { cls:=.type "slice",data:=.fields #[vl,vu,.none] } }:=I3.kept λb ob q=>Hn _ q
 obtain⟨T,id,hT,ht,hg⟩:=hr am { s3 with heap:=s3.heap.push { cls:=.type "slice",data:=.fields #[vl,vu,.none] } } σ H3 x v vl vu l u s3.zz Q I4 r1 (Heap.IsSliceOf.new ..) pl pu q3;exact tail_any ht hT hg (by with_unfolding_all rfl)
noncomputable def Pl (xs:List V)(lo hi:Option Int):List V:=(xs.drop (HT.sIx xs.length 0 lo)).take (HT.sIx xs.length xs.length hi - HT.sIx xs.length 0 lo)
def lR (xs:List V)(lo hi:Option Int):(Pl xs lo hi).length<=xs.length:=by
 unfold Pl;rw[J4,Lq];omega
def SB (K:Frag):V->Option Int->Option Int->MQ:=λx lo hi H Q=>∃ a xs,x=.ref a/\SqT K H a xs /\
 ¬ (HT.sIx xs.length 0 lo=0/\HT.sIx xs.length xs.length hi=xs.length)/\∀ p,H p=none->Q (.ref p) (upd H p (.tup (Pl xs lo hi)))
def Ez:SlR X (SB X.K):=by
 intro am s σ H x v vl vu lo hi sl Q I rx hs pl pu h;obtain⟨a,xs,rfl,hx,hw,q⟩:=h;cases rx;obtain⟨its,r,ht,hz⟩:=I.tuple hx;have Mq:its.toArray.size=xs.length:=by rw[Hs];exact r.length.symm
 refine⟨"tuple",_,Iw.lookup,ht.typeIs,?_⟩;refine HT.jF ht hs pl pu (by rw[Mq];exact hw) ?_ (by rw[Mq];exact hz);rw[Mq];refine⟨.ref s.zz,_,I.laid (λb ob q=>Hn _ q) (Hr _) ?_,rfl,q _ (I.hok.fresh (Hr _))⟩;exact⟨HK (lR xs lo hi) hz,_,(r.drop (HT.sIx xs.length 0 lo)).take (HT.sIx xs.length xs.length hi - HT.sIx xs.length 0 lo),TupO.new _ _⟩
def R8 (K:Frag):R2:=λx y H Q=>∃ a b xs ys,x=.ref a/\y=.ref b/\SqT K H a xs/\SqT K H b ys/\xs≠[]/\xs.length+ys.length<=sizeLine /\
 (ys=[]->Q (.ref a) H)/\(ys≠[]->∀ p,H p=none->Q (.ref p) (upd H p (.tup (xs++ys))))
def Vals.nil_iff {xs:List V}{us:List Value}(r:Vals xs us):us=[]↔xs=[]:=by
 cases r with
 | nil=>simp
 | cons _ _=>simp
def Ci:OpR X (binaryOp .Add) (R8 X.K):=by
 intro am s σ H x y v u Q I rx ry h;obtain⟨a,b,xs,ys,rfl,rfl,ha,hb,hx,hz,q1,q2⟩:=h;cases rx;cases ry;obtain⟨its,r1,p1,_⟩:=I.tuple ha;obtain⟨Ms,r2,p2,_⟩:=I.tuple hb;refine HT.Cf p1 p2 (λz=>hx (r1.nil_iff.mp z)) (λz=>⟨.ref a,H,I,rfl,q1 (r2.nil_iff.mp z)⟩) (λz=>?_) (by rw[<- r1.length,<- r2.length];exact hz);refine⟨.ref s.zz,_,I.laid (t':=s.toks) (o:=.tup (xs++ys)) (λb ob q=>Hn _ q) (Hr _) ?_,rfl,q2 (λw=>z (r2.nil_iff.mpr w)) _ (I.hok.fresh (Hr _))⟩;exact⟨by rw[HJ];exact hz,_,r1.append r2,TupO.new _ _⟩
end
end
section
variable {am:MZ}{σ:St}{H:Hp}{p:Addr}{v:Value}
noncomputable def ixN (n:Nat)(i:Int):Option Nat:=if 0<=i then (if i < n then some i.toNat else none) else if -(n:Int)<=i then some (i+n).toNat else none
noncomputable def atI {α:Type}(xs:List α)(i:Int):Option α:=(ixN xs.length i).bind λj=>xs[j]?
def wB {n:Nat}{i:Int}{j:Nat}(h:ixN n i=some j):seqIndex? i n=some j/\j < n/\-(n:Int)<=i/\i < n:=by
 unfold ixN at h;by_cases h0:0<=i
 ·rw[if_pos h0]at h;by_cases h1:i < n
  ·rw[if_pos h1]at h;have e:i.toNat=j:=IQ h;exact⟨by rw[seqIndex_of h0 h1,e],by omega,by omega,h1⟩
  ·grind
 ·rw[if_neg h0]at h;by_cases h1 : -(n:Int)<=i
  ·rw[if_pos h1]at h;have e:(i+n).toNat=j:=IQ h;exact⟨by rw[Mj (by omega) h1,e],by omega,h1,by omega⟩
  ·grind
def qF {α:Type}{xs:List α}{i:Int}{v:α}(h:atI xs i=some v):∃ j,seqIndex? i xs.length=some j/\xs[j]?=some v/\j < xs.length/\-(xs.length:Int)<=i/\i < xs.length:=by
 unfold atI at h;cases e:ixN xs.length i with
 | none=>rw[e]at h;cases h
 | some j =>
  rw[e]at h;obtain⟨h1,h2,h3,h4⟩:=wB e
  grind
def mr {α:Type}{xs:List α}{j:Nat}{v:α}(h:xs[j]?=some v):atI xs (j:Int)=some v:=by
 have hj:j < xs.length:=(HM.mp h).1;have e:ixN xs.length (j:Int)=some j:=by
  unfold ixN;rw[if_pos (by omega),if_pos (by omega)];simp
 unfold atI;rw[e];exact h
def OS (b:Expr):Prop:=∀ o i,subscripted b false o i=operate [o,i] (getItem o i)
def IxR (X:Cx)(r:R2):Prop :=
 ∀ (value slice:Expr) (am:MZ) (s:Shared) (σ:St) (H:Hp) (x y:V) (v u:Value) (Q:VK),Inv X am σ H s->RelV x v->RelV y u->r x y H Q ->
  subscripted slice false v u=operate [v,u] (getItem v u)->wpAny (model X.prog X.w) X.A (subscriptTail value slice v u) (EP X am σ Q) X.xe s
def MtR (X:Cx)(id:String)(r:V->MP):Prop :=
 ∀ (am:MZ) (s:Shared) (σ:St) (H:Hp) (x:V) (xs:List V) (v:Value) (us:List Value) (Q:VK),Inv X am σ H s->RelV x v->Vals xs us->r x xs H Q ->
  wpAny (model X.prog X.w) X.A (call (.builtin id) (v::us)) (EP X am σ Q) X.xe s
section
variable {X:Cx}{a b:Expr}{ta tb:TE}{pos:Pos}
def IxR.or {r r':R2}(h:IxR X r)(h':IxR X r'):IxR X (λx y H Q=>r x y H Q\/r' x y H Q):=by
 intro value slice am s σ H x y v u Q I rx ry q hs;rcases q with q | q
 ·exact h value slice am s σ H x y v u Q I rx ry q hs
 ·exact h' value slice am s σ H x y v u Q I rx ry q hs
def DX {r:R2}(hr:IxR X r)(ha:PE X a ta)(hb:PE X b tb)(hs:OS b):PE X (.Subscript a b pos) (tOp r ta tb):=by
 intro am s σ H Q I h;exact Subscript_ (binT ha hb I h λv u s2 x y H2 I2 rx ry q=>hr a b am s2 σ H2 x y v u Q I2 rx ry q (hs _ _))
def RI (K:Frag):R2:=λx y H Q=>∃ p xs i v,x=.ref p/\y=.int i/\SqL K H p xs/\atI xs i=some v/\Q v H
def RG (K:Frag):R2:=λx y H Q=>∃ p xs i v,x=.ref p/\y=.int i/\SqT K H p xs/\atI xs i=some v/\Q v H
def RH:R2:=λx y H Q=>∃ z i c,x=.str z/\y=.int i/\z.length<=sizeLine/\atI z.cps.toList i=some c/\Q (.str ⟨#[c]⟩) H
def wC:IxR X (RI X.K):=by
 intro value slice am s σ H x y v u Q I rx ry h hs;obtain⟨p,xs,i,z,rfl,rfl,hq,he,q⟩:=h;cases rx;obtain⟨t,rfl⟩:=ry;obtain⟨its,r,pl,hz⟩:=I.list hq;obtain⟨j,h1,h2,h3,h4,h5⟩:=qF he;obtain⟨w,ew,rw'⟩:=r.get h2;have hl:=r.length;have hn:=O2;have fin:EP X am σ Q w s:=⟨z,H,I,rw',q⟩;by_cases h0:0<=i
 ·have hj:i.toNat=j:=by
   rw[seqIndex_of h0 h5]at h1;exact IQ h1
  exact item_listR pl.isList h0 (by omega) (by rw[hj];simpa using ew) fin hs
 ·have hj:(i+(its.toArray.size:Int)).toNat=j:=by
   rw[Mj (by omega) h4]at h1;rw[Hs,<- hl];exact IQ h1
  exact LK (x:=w) pl.isList.typeIs slot_list_getitem.lookup
   (wpAny_getItem_list_neg (Q:=λr s'=>r=w/\EP X am σ Q r s') pl.isList (by omega) (by rw[Hs]<;>omega) (by omega) (by rw[hj];simpa using ew) ⟨rfl,fin⟩) hs
def EA:IxR X (RG X.K):=by
 intro value slice am s σ H x y v u Q I rx ry h hs;obtain⟨p,xs,i,z,rfl,rfl,hq,he,q⟩:=h;cases rx;obtain⟨t,rfl⟩:=ry;obtain⟨its,r,pl,hz⟩:=I.tuple hq;obtain⟨j,h1,h2,h3,h4,h5⟩:=qF he;obtain⟨w,ew,rw'⟩:=r.get h2;have hl:=r.length;have hn:=O2;have fin:EP X am σ Q w s:=⟨z,H,I,rw',q⟩;exact LK (x:=w) pl.typeIs slot_tuple_getitem.lookup
  (getItem_tuple (j:=j) (Q:=λr s'=>r=w/\EP X am σ Q r s') pl (by omega) (by omega) (by rw[Hs,<- hl];exact h1) (by simpa using ew) ⟨rfl,fin⟩) hs
def EB:IxR X RH:=by
 intro value slice am s σ H x y v u Q I rx ry h hs;obtain⟨z,i,c,rfl,rfl,hz,he,q⟩:=h;obtain⟨t,rfl⟩:=rx;obtain⟨t',rfl⟩:=ry;obtain⟨j,h1,h2,h3,h4,h5⟩:=qF he;have hl:z.cps.toList.length=z.length:=by simp[Str.length]
 rw[hl]at h1 h4 h5;have hn:=O2;exact tail_any (typeIs_str s z t) slot_str_getitem.lookup (getItem_str (c:=c) (by
  have e1:decide (i < -(2^63:Int))=false:=Hv (by omega);have e2:decide (i≥2^63)=false:=Hv (by omega);rw[e1,e2,Mc]) (by rw[h1];simpa using h2) ⟨.str ⟨#[c]⟩,H,I.tok _,⟨_,rfl⟩,q⟩) hs
def rIx (K:Frag):R2:=λx y H Q=>RI K x y H Q\/RG K x y H Q\/RH x y H Q
def EC:IxR X (rIx X.K):=wC.or (EA.or EB)
def va (its:List Value)(n j:Nat)(u:Value):Obj.mapSeq (·.setIfInBounds j u) { cls:=.type "list",data:=.seq its.toArray n }={ cls:=.type "list",data:=.seq (its.set j u).toArray n }:=by
 simp[Obj.mapSeq]
def Inv.lst {s:Shared}{xs:List V}(I:Inv X am σ H s)(h:H p=some (.lst xs)) :
  ∃ (its:List Value) (n:Nat),Vals xs its/\s.heap.get? p=some { cls:=.type "list",data:=.seq its.toArray n }/\xs.length<=sizeLine:=by
 obtain⟨z,its,n,r,e⟩:=I.hok p _ h;exact⟨its,n,r,e,z⟩
def Inv.lstUpd {s:Shared}{xs ys:List V}{its Mx:List Value}{n n':Nat}{f:Obj->Obj}(I:Inv X am σ H s)(h:H p=some (.lst xs))
  (ho:s.heap.get? p=some { cls:=.type "list",data:=.seq its.toArray n }) (hf:f { cls:=.type "list",data:=.seq its.toArray n }={ cls:=.type "list",data:=.seq Mx.toArray n' }) (r:Vals ys Mx) (hz:ys.length<=sizeLine) (t:Nat) :
  Inv X am σ (upd H p (.lst ys)) { s with heap:=s.heap.update p f,toks:=t }:=by
 have e:(s.heap.update p f).get? p=some { cls:=.type "list",data:=.seq Mx.toArray n' }:=by
  rw[LS f ho (by rw[hf]<;>rfl),hf]
 refine I.write (x:=p) (e:=p) (by rw[h];trivial) (.inl rfl) (λb u hb q=>(LL _ _ (Jd hb)).trans q) ⟨_,e⟩ ?_;exact⟨hz,Mx,n',r,e⟩
def R7:V->V->V->Hp->(MU)->Prop:=λo i v H Q=>∃ p xs k j,o=.ref p/\i=.int k/\H p=some (.lst xs)/\ixN xs.length k=some j/\Q (upd H p (.lst (xs.set j v)))
def Ac:RV X R7:=by
 intro am s σ H o i v ov iv u Q I ro ri rv h;obtain⟨p,xs,k,j,rfl,rfl,hp,hj,q⟩:=h;cases ro;obtain⟨t,rfl⟩:=ri;obtain⟨its,n,r,ho,hz⟩:=I.lst hp;obtain⟨h1,h2,h3,h4⟩:=wB hj;have hl:=r.length;have hn:=O2;have I':Inv X am σ (upd H p (.lst (xs.set j v))) { s with heap:=s.heap.update p (Obj.mapSeq (·.setIfInBounds j u)) } :=
  I.lstUpd hp ho (va its n j u) (r.set rv j) (by rw[List.length_set];exact hz) s.toks
 by_cases h0:0<=k
 ·have hk:k.toNat=j:=by
   rw[seqIndex_of h0 h4]at h1;exact IQ h1
  exact PySem.W.ki_setAt ho h0 (by omega) (by rw[Hs,<- hl];exact h4) (by rw[hk];exact⟨_,I',q⟩)
 ·have hk:(k+(its.toArray.size:Int)).toNat=j:=by
   rw[Mj (by omega) h3]at h1;rw[Hs,<- hl];exact IQ h1
  exact PySem.W.ki_setBack ho (by omega) (by rw[Hs,<- hl];exact h3) (by omega) (by rw[hk];exact⟨_,I',q⟩)
def qG (lo hi:Option Int)(n:Nat):(sliceBounds lo hi none n).1=((HT.sIx n 0 lo:Nat):Int)/\(sliceBounds lo hi none n).2.1=((HT.sIx n n hi:Nat):Int)/\(sliceBounds lo hi none n).2.2=1:=by
 refine⟨?_,?_,rfl⟩
 ·cases lo with
  | none=>simp[sliceBounds,HT.sIx]
  | some i =>
   simp only[sliceBounds,HT.sIx,Lr,show (1:Int) > 0 by decide,Hx];by_cases h:i < 0
   ·simp only[h,Hx]<;>omega
   ·simp only[h,Hu]<;>omega
 ·cases hi with
  | none=>simp[sliceBounds,HT.sIx]
  | some i =>
   simp only[sliceBounds,HT.sIx,Lr,show (1:Int) > 0 by decide,Hx];by_cases h:i < 0
   ·simp only[h,Hx]<;>omega
   ·simp only[h,Hu]<;>omega
def oI (its:List Value)(lo hi:Option Int):slicePick its.toArray lo hi none=((its.drop (HT.sIx its.length 0 lo)).take (HT.sIx its.length its.length hi - HT.sIx its.length 0 lo)).toArray:=by
 obtain⟨h1,h2,h3⟩:=qG lo hi its.toArray.size;unfold slicePick;rw[h1,h2,h3];simp only[sliceRange_one,pick_run,Hs]<;>rfl
def SC (K:Frag):V->Option Int->Option Int->MQ:=λx lo hi H Q=>∃ a xs,x=.ref a/\SqL K H a xs/\∀ p,H p=none->Q (.ref p) (upd H p (.lst (Pl xs lo hi)))
def Cj:SlR X (SC X.K):=by
 intro am s σ H x v vl vu lo hi sl Q I rx hs pl pu h;obtain⟨a,xs,rfl,hx,q⟩:=h;cases rx;obtain⟨its,r,ht,hz⟩:=I.list hx;have Mq:=r.length;refine⟨"list",_,slot_list_getitem.lookup,ht.isList.typeIs,?_⟩;refine wpAny_getItem_list_slice ht.isList hs pl pu .none (by simp) ?_ (by rw[Hs]<;>omega);rw[oI,<- Mq];refine⟨.ref s.zz,_,I.laid (λb ob q=>Hn _ q) (Hr _) ?_,rfl,q _ (I.hok.fresh (Hr _))⟩;exact⟨HK (lR xs lo hi) hz,_,0,(r.drop (HT.sIx xs.length 0 lo)).take (HT.sIx xs.length xs.length hi - HT.sIx xs.length 0 lo),HP _ rfl⟩
noncomputable def Qk:V->Bool
 | .non=>true
 | .bl _=>true
 | .int _=>true
 | .str _=>true
 | _=>false
noncomputable def eqV:V->V->Bool
 | .non,.non=>true
 | .bl a,.bl b=>a==b
 | .bl a,.int b=>(if a then 1 else 0)==b
 | .int a,.bl b=>a==(if b then 1 else 0)
 | .int a,.int b=>a==b
 | .str a,.str b=>a==b
 | _,_=>false
def ED {A:Around}{s:Shared}{y x:V}{u:Value}(ry:RelV y u)(rx:RelV x v)(fy:Qk y=true)(fx:Qk x=true):SeqAt.EqAt A s u v (eqV y x):=by
 cases y with
 | non =>
  cases ry;cases x with
  | non=>cases rx;exact SeqAt.EqAt.same _
  | bl b=>cases rx;exact SeqAt.EqAt.none_bool b
  | int b=>obtain⟨t,rfl⟩:=rx;exact SeqAt.EqAt.none_int b t
  | str b=>obtain⟨t,rfl⟩:=rx;exact SeqAt.EqAt.none_str b t
  | _=>exact absurd (show false=true from fx) Ib
 | bl a =>
  cases ry;cases x with
  | non=>cases rx;exact SeqAt.EqAt.bool_none a
  | bl b=>cases rx;exact SeqAt.EqAt.bool_bool a b
  | int b=>obtain⟨t,rfl⟩:=rx;exact SeqAt.EqAt.bool_int a b t
  | str b=>obtain⟨t,rfl⟩:=rx;exact SeqAt.EqAt.bool_str a b t
  | _=>exact absurd (show false=true from fx) Ib
 | int a =>
  obtain⟨t',rfl⟩:=ry;cases x with
  | non=>cases rx;exact SeqAt.EqAt.int_none a t'
  | bl b=>cases rx;exact SeqAt.EqAt.int_bool a t' b
  | int b=>obtain⟨t,rfl⟩:=rx;exact SeqAt.EqAt.int_int a t' b t
  | str b=>obtain⟨t,rfl⟩:=rx;exact SeqAt.EqAt.int_str a t' b t
  | _=>exact absurd (show false=true from fx) Ib
 | str a =>
  obtain⟨t',rfl⟩:=ry;cases x with
  | non=>cases rx;exact SeqAt.EqAt.str_none a t'
  | bl b=>cases rx;exact SeqAt.EqAt.str_bool a t' b
  | int b=>obtain⟨t,rfl⟩:=rx;exact SeqAt.EqAt.str_int a t' b t
  | str b=>obtain⟨t,rfl⟩:=rx;exact SeqAt.EqAt.str_str a t' b t
  | _=>exact absurd (show false=true from fx) Ib
 | _=>exact absurd (show false=true from fy) Ib
def qH:NH X (.builtin "len") (λxs H Q=>∃ p ys,xs=[.ref p]/\(SqL X.K H p ys\/SqT X.K H p ys)/\Q (.int ys.length) H):=by
 intro am s σ H xs us Q I r h;obtain⟨p,ys,rfl,hq,q⟩:=h;obtain⟨u,rfl,rx⟩:=N1 r;cases rx;have hn:=O2;rcases hq with hq | hq
 ·obtain⟨its,r',pl,hz⟩:=I.list hq;have Mq:=r'.length;exact Calls.call_len_list pl.isList (by simp only[Hs]<;>omega) ⟨.int ys.length,H,I.tok _,⟨s.toks+1,by rw[Hs,Mq]⟩,q⟩
 ·obtain⟨its,r',pl,hz⟩:=I.tuple hq;have Mq:=r'.length;exact len_tuple pl (by simp only[Hs]<;>omega) ⟨.int ys.length,H,I.tok _,⟨s.toks+1,by rw[Hs,Mq]⟩,q⟩
def oJ:NH X (.type "tuple") (λxs H Q=>∃ p ys,xs=[.ref p]/\((SqL X.K H p ys/\∀ l,H l=none->Q (.ref l) (upd H l (.tup ys)))\/(SqT X.K H p ys/\Q (.ref p) H))):=by
 intro am s σ H xs us Q I r h;obtain⟨p,ys,rfl,h⟩:=h;obtain⟨u,rfl,rx⟩:=N1 r;cases rx;rcases h with ⟨hq,q⟩ | ⟨hq,q⟩
 ·obtain⟨its,r',pl,hz⟩:=I.list hq;have Mq:=r'.length;refine call_tuple_list pl.isList (λh' kp=>?_) (by simp only[Hs]<;>omega);have I1:=I.kept (t':=s.toks) kp;have I2:Inv X am σ (upd H h'.objs.size (.tup ys)) { s with heap:=h'.push { cls:=.type "tuple",data:=.seq its.toArray } } :=
   I1.laid (t':=s.toks) (λb o e=>Hn _ e) (Hr _) (show ObjOk X.prog X.w _ _ _ (.tup ys) from ⟨hz,its,r',TupO.new _ _⟩)
  exact⟨.ref h'.objs.size,_,I2,rfl,q _ (I1.hok.fresh (Hr _))⟩
 ·obtain⟨its,r',pl,hz⟩:=I.tuple hq;exact call_tuple_same pl ⟨.ref p,H,I,rfl,q⟩
def tyV (K:Frag)(T:String)(x:V)(H:Hp):Prop:=match x with
 | .str _=>T="str"
 | .int _=>T="int"
 | .ref p=>(T="list" /\ ∃ xs,SqL K H p xs)\/(T="tuple" /\ ∃ o,K.lookup p=some o/\o.cls=.type "tuple" /\ o.dict=none) \/
   (T="dict" /\ ((∃ kvs,H p=some (.dK kvs))\/∃ kvs,H p=some (.dT kvs)))\/(T="set" /\ ∃ S n,H p=some (.set S n))
 | _=>False
def EE {s:Shared}{T:String}{x:V}(I:Inv X am σ H s)(r:RelV x v)(ty:tyV X.K T x H) :
  s.TypeIs v T/\∀ a,v=.ref a->∃ ob,s.heap.get? a=some ob/\ob.dict=none:=by
 cases x with
 | str z =>
  obtain⟨t,rfl⟩:=r;cases (show T="str" from ty);exact⟨typeIs_str s z t,λ_ e=>nomatch e⟩
 | int i =>
  obtain⟨t,rfl⟩:=r;cases (show T="int" from ty);exact⟨Lj s i t,λ_ e=>nomatch e⟩
 | ref p =>
  cases r;rcases ty with ⟨rfl,xs,hq⟩ | ⟨rfl,o,hk,hc,hd⟩ | ⟨rfl,hk⟩ | ⟨rfl,S,n,hk⟩
  ·obtain⟨its,_,pl,_⟩:=I.list hq;refine⟨pl.isList.typeIs,λa e=>?_⟩;cases e;obtain⟨o,n,e,c,hd,_⟩:=pl;exact⟨o,e,hd⟩
  ·refine⟨⟨o,I.kIn p o hk,hc⟩,λa e=>?_⟩;cases e;exact⟨o,I.kIn _ o hk,hd⟩
  ·have z:∃ o,s.heap.get? p=some o/\o.ExactDict:=by
    rcases hk with ⟨kvs,hk⟩ | ⟨kvs,hk⟩
    ·obtain⟨_,_,_,_,o,_,_,e,ex,_⟩:=I.hok p _ hk;exact⟨o,e,ex⟩
    ·obtain⟨_,_,_,_,o,_,_,e,ex,_⟩:=I.hok p _ hk;exact⟨o,e,ex⟩
   obtain⟨o,e,ex⟩:=z;refine⟨⟨o,e,ex.1⟩,λa e2=>?_⟩;cases e2;exact⟨o,e,ex.2.1⟩
  ·obtain⟨o,_,_,_,e,ex,_⟩:=I.hok p _ hk;refine⟨⟨o,e,ex.1⟩,λa e2=>?_⟩;cases e2;exact⟨o,e,ex.2.1⟩
 | _=>exact False.elim ty
def tBM (K:Frag)(T:String)(r:V->MP)(to:TE)(t:TA):TE:=λσ H Q=>to σ H λx H1=>tyV K T x H1/\t σ H1 λxs H2=>r x xs H2 Q
variable {o e:Expr}{es:Nd}{to:TE}{t:TA}{name:Str}{Mo KW:Pos}{T id:String}{r:V->MP}
def pJ (pa:PlainAttrs T)(slot:Slot T name id)(hty:typeOf (.builtin id)=pure (.type "method_descriptor"))(hm:MtR X id r)(ho:PE X o to)(ha:PA X (e::es) t)
  (Mv:autoParam (attributeBase o name X.env (eval o X.env)=eval o X.env) YW)
  (hfew:autoParam (((backTo KW (starEach (e::es) X.env)).all (λx=>!x.1)&&(backToKw KW (keywordEach [] X.env)).all (λx=>x.1.isSome)
   && decide ((e::es).length+([]:List Keyword).length+(if ([]:List Keyword).isEmpty then 0 else 1) < 30))=true) YW)
  (Mu:autoParam ((Mo.endLine==KW.line)=true) YW) (hs:autoParam (Id X e es) YW) (Mr:autoParam (IO X KW es) YW) :
  PE X (.Call (.Attribute o name Mo) (e::es) [] KW) (tBM X.K T r to t):=by
 intro am s σ H Q I h;refine wpAny_Call_method_late Mv hfew Mu rfl (thn (ho am s σ H _ I h) λv s1 ⟨x,H1,I1,r1,ty,q1⟩=>?_);obtain⟨h1,h2⟩:=EE I1 r1 ty;refine⟨T,id,pa,slot,hty,h1,h2,?_⟩;have hA:=ha KW am s1 σ H1 _ I1 q1;rw[hs]at hA ⊢;refine Calls.callWith_builtin (by show (false||(backTo KW (starEach es X.env)).any (·.1))=false;rw[Mr]<;>rfl) (Calls.evalArgs_plain ?_);exact thn hA λus s2 ⟨vs,H2,I2,r2,q2⟩=>hm am s2 σ H2 x vs v us Q I2 r1 r2 q2
end
end
section
variable {X:Cx}{xs:List V}{s:Shared}{t':Nat}
def MtM (X:Cx)(id:String)(r:V->MP):Prop :=
 ∀ (am:MZ) (s:Shared) (σ:St) (H:Hp) (x:V) (xs:List V) (v:Value) (us:List Value) (Q:VK),Inv X am σ H s->RelV x v->Vals xs us->r x xs H Q ->
  wpAny (model X.prog X.w) X.A (call (.builtin id) (v::us)) (EP X am σ Q) X.xe s
theorem Vals.one:∀ {x:V} {us:List Value},Vals [x] us->∃ u,us=[u]/\RelV x u
 | _,_,.cons r .nil=>⟨_,rfl,r⟩
theorem Vals.rep {xs:List V}{us:List Value}(h:Vals xs us):∀ k:Nat,Vals (List.replicate k xs).flatten (List.replicate k us).flatten
 | 0=>.nil
 | k+1=>by
  rw[IU,IU,HY,HY];exact Vals.append h (Vals.rep h k)
theorem kx (its:List Value):∀ (k:Nat) (L0:List Value),
  List.foldl (λx1 x2=>x1++x2) L0.toArray (List.replicate k its.toArray)=(L0++(List.replicate k its).flatten).toArray
 | 0,L0=>by simp
 | k+1,L0=>by
  have e:L0.toArray++its.toArray=(L0++its).toArray:=by simp
  have e2:(L0++its)++(List.replicate k its).flatten=L0++(List.replicate (k+1) its).flatten:=by
   rw[IU,HY,Iu]
  rw[<- e2,<- kx its k (L0++its),<- e,IU,IS]
section
variable {am:MZ}{σ:St}{H:Hp}{l b:Addr}{ys zs:List V}
def Inv.lset {its Mx:List Value}{n:Nat}{f:Array Value->Array Value}(I:Inv X am σ H s)(hH:H l=some (.lst xs))
  (e:s.heap.get? l=some { cls:=.type "list",data:=.seq its.toArray n }) (hf:f its.toArray=Mx.toArray) (hv:Vals ys Mx) (hz:ys.length<=sizeLine) :
  Inv X am σ (upd H l (.lst ys)) { s with heap:=s.heap.update l (Obj.mapSeq f),toks:=t' }:=by
 have q:=PySem.IsL.update e f;rw[hf]at q;refine I.write (by rw[hH];exact trivial) (.inl rfl) (λb' u hb hu=>(LL s.heap (Obj.mapSeq f) (Jd hb)).trans hu) ⟨_,q⟩ ?_;exact⟨hz,Mx,_,hv,q⟩
def Inv.lnew {its:List Value}(I:Inv X am σ H s)(hv:Vals ys its)(hz:ys.length<=sizeLine) :
  Inv X am σ (upd H s.zz (.lst ys)) { s with heap:=s.heap.push { cls:=.type "list",data:=.seq its.toArray },toks:=t' } :=
 I.laid (λ_ _ q=>Hn _ q) (Hr _) ⟨hz,its,0,hv,HP _ rfl⟩
def Inv.fresh (I:Inv X am σ H s):H s.zz=none:=I.hok.fresh (Hr _)
def Inv.lstM (I:Inv X am σ H s)(hH:H l=some (.lst xs)):xs.length<=sizeLine/\∃ (its:List Value) (n:Nat),Vals xs its/\xs.length=its.length/\s.heap.get? l=some { cls:=.type "list",data:=.seq its.toArray n }:=by
 obtain⟨z,its,n,r,e⟩:=I.hok l _ hH;exact⟨z,its,n,r,r.length,e⟩
def OI {n:Nat}(h:n<=sizeLine):Builtin.List.listTooLong n=false:=by
 unfold Builtin.List.listTooLong
 grind
def QQ:V->MP:=λx vs H Q=>∃ l xs y,x=.ref l/\vs=[y]/\H l=some (.lst xs)/\xs.length < sizeLine/\Q .non (upd H l (.lst (xs++[y])))
theorem pK:MtM X "list.append" QQ:=by
 intro am s σ H x vs v us Q I rx rv h;obtain⟨l,xs,y,rfl,rfl,hH,hz,q⟩:=h;cases rx;obtain⟨u,rfl,ru⟩:=rv.one;obtain⟨z,its,n,r,hl,e⟩:=I.lstM hH;refine II F.slot_list_append ⟨_,e,rfl⟩ F.entry_list_append (F.args_list_append_2 _ _) (PySem.list_append l its.toArray n u (by grind)) ⟨e,?_⟩;refine⟨.non,_,I.lset hH e (by simp) (r.append (.cons ru .nil)) ?_,rfl,q⟩
 grind
def wD {α:Type}(xs:List α)(k:Nat):(List.replicate k xs).flatten.length=k*xs.length:=by simp_all
variable {prog:Program}{w:World}{A:Around}{E:MJ}
set_option maxRecDepth 100000 in
end
end
end L2
namespace Att
open PySem PySem.W PySem.Calls PyProof.Rows
variable {P:Params}{h:Heap}{l:OpenLaw}
def l5 :∀ (ns:List Int) (vs:List Value),WellAll P h vs (ns.map WData.int)->IntsAre vs ns:=by
 intro ns
 induction ns with
 | nil =>
  intro vs w;rw[IG]at w;cases w;exact .nil
 | cons n ns ih =>
  intro vs w;rw[Hq]at w;cases w with
  | cons a b =>
   cases a;exact .cons _ _ (ih _ b)
def xR {n:Nat}(hn:l.most=some n){args:List WData}{vals:List Value}
  (hpre:l.row.toRowW.claim.pre args=true) (hwl:WellAll P h vals args) :
  ∃ a vs ns,vals=[Value.ref a]/\args=[WData.list (ns.map WData.int)]/\h.get? a=some { cls:=.type "list",data:=.seq vs.toArray }/\IntsAre vs ns/\ns.length<=n:=by
 have hsh:=(pre_splitW hpre).1;have hc:l.pre.holds [] { args:=args }=true:=(pre_splitW hpre).2;obtain⟨d,r,rfl,h1,h2⟩:=hasAllW_cons hsh;obtain rfl:=hasAllW_nil h2;obtain⟨xs,rfl,h3⟩:=hasW_list h1;obtain⟨ns,rfl⟩:=items_int h3;have Mq:ns.length<=n:=by
  unfold OpenLaw.pre at hc;have h4:(WTm.not (.lt (.lit (.int (n:Int))) (.len (.arg 0)))).holds [] { args:=[.list (ns.map .int)] }=true:=by
   have h4:=(holds_andW hc).1;rw[hn]at h4;exact h4
  have h5:=condW_of h4 (w_not (w_lt w_lit (w_len_list (w_arg rfl))));rw[Hl]at h5;refine Nat.le_of_not_lt λq=>?_
  have q':(n:Int) < ((ns.length:Nat):Int):=by omega
  first
   | (rw[Hz q']at h5;exact absurd h5 (by decide))
   | (simp at h5;omega)
 cases hwl with
 | cons w1 w2 =>
  cases w2;cases w1 with
  | list ho Mz=>exact⟨_,_,ns,rfl,rfl,ho,l5 ns _ Mz,Mq⟩
def xS (l:OpenLaw)(args:List WData):l.row.toRowW.claim.post args (.bool true) args=true :=
 postW_of
  (show WShape.has [] (.bool true) .bool=true by first | rfl | decide | simp[WShape.has,WShape.arms,WShape.armsAll])
  (show (WTm.eq .res (.lit (.bool true))).value [] { args:=args,res:=some (.bool true),after:=args }=some (.bool (true==true)) from w_eq_bool (w_res rfl) w_lit) rfl
def Ps {n:Nat}{q:Program}{M3:List Str}{XP:(MK)->Heap->Prop}{YP:World->Heap->Prop}{d:DefRec}
  (hn:l.most=some n) (hdf:d.params.defaults=[])
  (call:∀ (w:World) (s₀ s₁:Shared) (mg mb:MK) (fa:Addr) (o:Obj) (pm cd doc:Value) (a:Addr) (vs:List Value) (ns:List Int),
   Ground q M3 [] XP w s₀ mg mb s₁.heap->YP w s₁.heap ->
   s₁.heap.get? fa=some o->o.data=.func (docDef d.name d.params d.body d.scope pm cd doc)->s₁.heap.CodeRec cd d.name->mg d.name=some (.ref fa) ->
   s₁.heap.get? a=some { cls:=.type "list",data:=.seq vs.toArray }->IntsAre vs ns->ns.length<=n->s₁.gens = #[] ->
   codeAny (model l.prog w) callerA (.call (.ref fa) ⟨[.ref a],[]⟩) (λr s'=>r=.ok (.ret (.bool true))/\OldK s₁.heap s'.heap/\s'.os=s₁.os/\AllBare s'.gens) s₁) :
  WalkO q M3 XP YP l.row.toRowW d [] (λf vs=>PySem.call f vs):=by
 intro w s₀ s₁ mg mb G Y fa o pm cd doc dV kV ho hd M1 hD hmg hg args vals as hpre hlay hrd hwl hlo;obtain rfl:dV=.none:=Dflts.none hD hdf;obtain rfl:kV=.none:=Dflts.noKw hD;obtain⟨a,vs,ns,rfl,rfl,hobj,hints,Mq⟩:=xR hn hpre hwl;refine enter_call (Mh (call w s₀ s₁ mg mb fa o pm cd doc a vs ns G Y ho (fd_plain hd) M1 hmg hobj hints Mq hg) λr s' hq=>?_);obtain⟨rfl,h2,h3,h4⟩:=hq;exact⟨.inl ⟨.bool true,.bool true,[],rfl,λ_=>rfl,.bool true,xS l _,λ_=>⟨La,λ_ hm=>(nomatch hm)⟩⟩,h2,h3,h4⟩
section
variable {prog:Program}{w:World}{A:Around}{E:MJ}{s:Shared}{K:Frag}
end
end Att
namespace L2
open PySem PySem.Spec PyProof.Rows
section
theorem bG:∀ {vs:List Value} {ns:List Int},IntsAre vs ns->Vals (ns.map V.int) vs
 | _,_,.nil=>.nil
 | _,_,.cons n t h=>.cons ⟨t,rfl⟩ (bG h)
def Rp (H:Hp):Prop:=∀ b,H b=none\/∃ o xs,H b=some (.frz o (.lst xs))
def Ae {P:Program}{w:World}{K:Frag}{mg mb:MK}{CX:CXT}{k:Nat}{fa a:Addr}{fd:FuncData}{x:Str}{sp:Sp}{s₁:Shared}{vs:List Value}{ns:List Int}
  (KX:K.In s₁.heap) (hns:s₁.heap.Ns mainGlobals mg) (hb:s₁.heap.Ns builtinsNs mb) (hbb:∀ x:Str,x ≠ "__name__" -> mb x=bootBuiltins x) (hlim:s₁.heap.NoLimit) (hg:s₁.gens = #[])
  (ha:s₁.heap.get? a=some { cls:=.type "list",data:=.seq vs.toArray }) (hi:IntsAre vs ns) (hl:ns.length<=sizeLine) (hr:Room k callerA)
  (F:∀ base:Heap,K.In base->base.Ns mainGlobals mg->OM P w K mg base CX k fa fd [x] sp) (hbind:∀ (s:Shared) (u:Value),BindsTo s fd ⟨[u],[]⟩ [(x,u)])
  (hsp:∀ H:Hp,Rp H->SqL K H a (ns.map V.int)->sp [.ref a] H (λv _=>v=.bl true) λ_ _ _=>False)
  (hCX:∀ H e s',CX [] H s₁ (λ_ _ _=>False) e s'->False) :
  codeAny (model P w) callerA (.call (.ref fa) ⟨[.ref a],[]⟩) (λr s'=>r=.ok (.ret (.bool true))/\OldK s₁.heap s'.heap/\s'.os=s₁.os/\AllBare s'.gens) s₁:=by
 have rv:=bG hi;have lenV:=hi.length;have core:∀ H:Hp,Rp H->SqL K H a (ns.map V.int)->HOk P w H s₁.heap->(∀ b,H b≠none->b=a)->(H a≠none->K.lookup a=none) ->
   codeAny (model P w) callerA (.call (.ref fa) ⟨[.ref a],[]⟩) (λr s'=>r=.ok (.ret (.bool true))/\OldK s₁.heap s'.heap/\s'.os=s₁.os/\AllBare s'.gens) s₁:=by
  intro H hO hS hok hA hK;have base_of:∀ {b:Addr} {o:Obj},s₁.heap.get? b=some o->H b=none->(Pe s₁.heap H).get? b=some o:=λe n=>zP e n
  have noA:∀ {b:Addr} {o:Obj} {es:Array DictEntry} {ep:Nat},s₁.heap.get? b=some o->o.data=.dict es ep->H b=none:=λ{b o es ep} e d=>by
   cases q:H b with
   | none=>rfl
   | some u =>
    have e':b=a:=hA b (by rw[q];simp);subst e';rw[ha]at e;cases e;have d':Data.seq vs.toArray _=Data.dict es ep:=d;cases d'
  have nsK:∀ {b:Addr} {m:MK},s₁.heap.Ns b m->(Pe s₁.heap H).Ns b m:=λ{b m} ⟨o,es,ep,e,d,r⟩=>⟨o,es,ep,base_of e (noA e d),d,r⟩
  have hKb:K.In (Pe s₁.heap H):=λb o e=>base_of (KX b o e) (by
   cases q:H b with
   | none=>rfl
   | some u =>
    have e':b=a:=hA b (by rw[q];simp);subst e';rw[hK (by rw[q];simp)]at e;cases e)
  have hM:Mod K mg (Pe s₁.heap H):=⟨hKb,nsK hns,⟨mb,nsK hb,hbb⟩,let ⟨mc,h1,h2⟩:=hlim;⟨mc,nsK h1,h2⟩⟩;have e0:QL P w K mg (Pe s₁.heap H) callerA [] s₁ H:=⟨rfl,hM,λb o e=>Ca e,Nat.le_of_eq (xJ _ _),trivial,λb hb=>absurd (show b∈([]:List Addr) from hb) (by simp),hok,.of_eq hg⟩;refine Mh ((F _ hKb (nsK hns)).run callerA [] s₁ H ⟨[.ref a],[]⟩ [.ref a] [.ref a] _ _ hr.w e0 (hbind s₁ (.ref a)) (.cons rfl .nil) (hsp H hO hS)) λr s' h=>?_
  cases r with
  | error e=>exact(hCX H e s' h).elim
  | ok fl =>
   cases fl with
   | next=>exact False.elim h
   | brk=>exact False.elim h
   | cont=>exact False.elim h
   | ret u =>
    obtain⟨v,H',os,bare,un,hok',r',q⟩:=h;have q':v=.bl true:=q;subst q';obtain rfl:u=Value.bool true:=r';refine⟨rfl,OldK.of_keep λb o e=>?_,os,bare⟩;cases q:H b with
    | none=>exact un.keep b o e q (by intro z;exact absurd (show b∈([]:List Addr) from z) (by simp)) (by simp)
    | some u =>
     rcases hO b with z | ⟨ob,xs,z⟩
     ·rw[q]at z;cases z
     ·have z2:=un.frzs b ob _ z;obtain⟨e1,_⟩:=hok b _ z;obtain⟨e2,_⟩:=hok' b _ z2;rw[e]at e1;cases e1;exact e2
 cases hk:K.lookup a with
 | some o =>
  have e:=KX a o hk;rw[ha]at e;cases e;refine core (λ_=>none) (λ_=>.inl rfl) (.inr ⟨_,vs.toArray,_,hk,rfl,rfl,rfl,by rw[Hs,lenV];exact hl,by simpa using rv⟩) (λb u z=>by have z':(none:Option HO)=some u:=z;cases z') (λb z=>absurd rfl z) λz=>absurd rfl z
 | none =>
  refine core (λb=>if b=a then some (.frz { cls:=.type "list",data:=.seq vs.toArray } (.lst (ns.map V.int))) else none) (λb=>?_) (.inl (.inr ⟨{ cls:=.type "list",data:=.seq vs.toArray },if_pos rfl⟩)) (λb u z=>?_) (λb z=>?_) λ_=>hk
  ·by_cases hb:b=a
   ·exact .inr ⟨_,_,if_pos hb⟩
   ·exact .inl (if_neg hb)
  ·by_cases hb:b=a
   ·have z':=(if_pos hb).symm.trans z;cases z';subst hb;exact⟨ha,by rw[Hl];exact hl,vs,_,rv,ha⟩
   ·have z':=(if_neg hb).symm.trans z;cases z'
  ·by_cases hb:b=a
   ·exact hb
   ·exact absurd (if_neg hb) z
def Ck {l:OpenLaw}{n k:Nat}{q:Program}{M3:List Str}{XP:(MK)->Heap->Prop}{YP:World->Heap->Prop}{d:DefRec}{K:Params->Frag}{CX:World->CXT}{sp:World->Sp}{x:Str}
  (hn:l.most=some n) (hn2:n<=sizeLine) (hdf:d.params.defaults=[]) (hr:Room k callerA)
  (hY:∀ (w:World) (h:Heap),YP w h->(K w.params).In h)
  (F:∀ (w:World) (mg:MK) (fa:Addr) (h:Heap),(K w.params).In h->h.Ns mainGlobals mg->mg d.name=some (.ref fa) ->
   ∃ fd:FuncData,(∀ (s:Shared) (u:Value),BindsTo s fd ⟨[u],[]⟩ [(x,u)]) /\
    ∀ base:Heap,(K w.params).In base->base.Ns mainGlobals mg->OM l.prog w (K w.params) mg base (CX w) k fa fd [x] (sp w))
  (hsp:∀ (w:World) (H:Hp) (a:Addr) (ns:List Int),ns.length<=n->Rp H->SqL (K w.params) H a (ns.map V.int)->sp w [.ref a] H (λv _=>v=.bl true) λ_ _ _=>False)
  (hCX:∀ (w:World) (H:Hp) (s:Shared) (e:Value) (s':Shared),CX w [] H s (λ_ _ _=>False) e s'->False) :
  PySem.W.WalkO q M3 XP YP l.row.toRowW d [] (λf vs=>PySem.call f vs):=by
 refine Att.Ps hn hdf λw s₀ s₁ mg mb fa o pm cd doc a vs ns G Y ho hd M1 hmg hobj hints Mq hg=>?_
 have KX:=hY w _ Y;obtain⟨fd,hb,hF⟩:=F w mg fa _ KX G.T.g hmg;exact Ae KX G.T.g G.T.b G.T.builtins G.T.nolimit hg hobj hints (HK Mq hn2) hr hF hb (λH hO hS=>hsp w H a ns Mq hO hS) λH e s'=>hCX w H s₁ e s'
end
section
variable {H:Hp}{K:Frag}{qual:Str}{st:Stmt}{f:Addr}
noncomputable def NY (s:Stmt):Arguments:=match s with
 | .FunctionDef _ a _ _ _ _ _ _ _ _=>a
 | _=>{ posonlyargs:=[],args:=[],vararg:=none,kwonlyargs:=[],kw_defaults:=[],kwarg:=none,defaults:=[] }
noncomputable def NL (s:Stmt):Nc:=match s with
 | .FunctionDef _ _ b _ _ _ _ _ _ _=>b
 | _=>[]
noncomputable def ME (s:Stmt):Scope:=match s with
 | .FunctionDef _ _ _ _ _ _ sc _ _ _=>sc
 | _=>{ kind:=.function,names:=[],isGenerator:=false,isCoroutine:=false }
structure Fun (K:Frag)(x qual:Str)(st:Stmt)(f:Addr)(fd:FuncData):Prop where
 ex:∃ (oc:Value) (od:Option Addr) (kV doc pm:Value) (an:Option Addr) (Mt ct:Value) (osl:Array (Na)),
  fd=fnOf x qual (NY st) (NL st) (ME st) .none kV doc pm an Mt ct/\K.lookup f=some ⟨oc,od,.func fd,osl⟩/\codeIn K Mt qual=true
 kp:keepIn K (.ref f)=true
section
variable {P:Program}{w:World}{mg:MK}{base:Heap}
def Fun.binds {x:Str}{fd:FuncData}{ps:List Str}(F:Fun K x qual st f fd)
  (h:∀ (kV doc pm:Value) (an:Option Addr) (Mt ct:Value) (us:List Value),us.length=ps.length->bindArgs (fnOf x qual (NY st) (NL st) (ME st) .none kV doc pm an Mt ct) ⟨us,[]⟩=pure (ps.zip us)):Binds K fd ps []:=by
 obtain⟨oc,od,kV,doc,pm,an,Mt,ct,osl,rfl,lk,M1⟩:=F.ex;exact .all (h kV doc pm an Mt ct)
def vb {x:Str}{oc:Value}{od an:Option Addr}{osl:Array (Na)}{kV doc pm Mt ct:Value}(l:K.lookup f=some ⟨oc,od,.func (fnOf x qual (NY st) (NL st) (ME st) .none kV doc pm an Mt ct),osl⟩)
  (c:codeIn K Mt qual=true) (k:keepIn K (.ref f)=true):Fun K x qual st f (fnOf x qual (NY st) (NL st) (ME st) .none kV doc pm an Mt ct):=⟨⟨oc,od,kV,doc,pm,an,Mt,ct,osl,rfl,l,c⟩,k⟩
variable {X:Cx}
end
def Same (H H':Hp):Prop:=∀ b o,H b=some o->H' b=some o
def Same.refl (H:Hp):Same H H:=λ_ _ h=>h
def Same.trans {H1 H2:Hp}(a:Same H H1)(b:Same H1 H2):Same H H2:=λc o h=>b c o (a c o h)
def Same.free {H':Hp}(e:Same H H'){l:Addr}(h:H' l=Option.none):H l=Option.none:=by
 cases q:H l with
 | none=>rfl
 | some o =>
  rw[e l o q]at h;cases h
def Same.seq {H':Hp}{a:Addr}{xs:List V}(e:Same H H')(h:SqL K H a xs):SqL K H' a xs:=by
 rcases h with (h | ⟨o,h⟩) | h
 ·exact .inl (.inl (e _ _ h))
 ·exact .inl (.inr ⟨o,e _ _ h⟩)
 ·exact .inr h
end
end L2
namespace FF
abbrev St:=L2.St
end FF
namespace FF
open PySem
section
open AutoSeq1 (wpAny_loadPart')
theorem ky:fillsNumberSlot (.type "tuple") "mul"=pure false :=
 fillsNumberSlot_seq F.slot_tuple_mul.lookup (by decide +kernel) F.slot_tuple_rmul.lookup (by decide +kernel)
theorem qI:seqRepeat? (.type "tuple")=pure (some (.builtin "tuple.__mul__")):=by
 unfold seqRepeat?;rw[seqSlot_of (name := "__mul__") F.slot_tuple_mul.lookup (by decide +kernel),seqSlot_of (name := "__rmul__") F.slot_tuple_rmul.lookup (by decide +kernel)];rfl
def mQ (a:Int)(t:Tok)(l:Addr)(IF:Array Value)(n:Nat)(dd:Option Addr)(sl:Array (Na)) :
  Meets (Builtin.«int.__rmul__» ⟨[.int a t,.ref l],[]⟩) (λ_ R s=>s.heap.get? l=some { cls:=.type "tuple",dict:=dd,data:=.seq IF n,slots:=sl }/\R (.ok (.ret Value.notImplemented)) s) :=
 .of_wp λprog w A R s h=>by obtain⟨hp,g,d,tk,os⟩:=s;obtain⟨hl,h⟩:=h;wp_walk;exact⟨_,rfl,h⟩
def oK (l:Addr)(IF:Array Value)(n:Nat)(k:Int)(t:Tok)(dd:Option Addr)(sl:Array (Na))(h0:2<=k)(h1:k < 1000000)(hsz:IF.size*k.toNat<=sizeLine)(hne:IF.isEmpty=false) :
  Meets (Builtin.«tuple.__mul__» ⟨[.ref l,.int k t],[]⟩) (λ_ R s=>s.heap.get? l=some { cls:=.type "tuple",dict:=dd,data:=.seq IF n,slots:=sl } /\
   R (.ok (.ret (.ref s.zz))) { s with heap:=s.heap.push { cls:=.type "tuple",data:=.seq (List.foldl (λx1 x2=>x1++x2) #[] (List.replicate k.toNat IF)) } }) :=
 .of_wp λprog w A R s h=>by
  obtain⟨hp,g,d,tk,os⟩:=s;obtain⟨hl,h⟩:=h;have f1:=Ja;have f2:=Ic;have c0:¬ (decide (k < -2^63)||decide (k≥2^63))=true:=by
   simp only[JM,HH];omega
  have c1:¬ (IF.isEmpty||k==1)=true:=by
   rw[hne,Bool.false_or,Lk];omega
  have c2:¬ (decide (k<=0)||IF.isEmpty)=true:=by
   rw[hne,Mc,HH];omega
  have hs:=HV;have hk:(IF.size:Int)*k=((IF.size*k.toNat:Nat):Int):=by
   rw[Int.natCast_mul,Int.toNat_of_nonneg (by omega)]
  have c3:¬ ((IF.size:Int)*k > (2^63 - 1)/8):=by
   rw[hk];omega
  have c4:¬ Builtin.Tuple.tupleTooMany ((IF.size:Int)*k)=true:=by
   rw[hk];unfold Builtin.Tuple.tupleTooMany;simp only[HH];omega
  have Mq:(List.foldl (λx1 x2=>x1++x2) #[] (List.replicate k.toNat IF)).size<=sizeLine:=by
   have:∀ (m:Nat) (L0:Array Value),(List.foldl (λx1 x2=>x1++x2) L0 (List.replicate m IF)).size=L0.size+m*IF.size:=by
    intro m
    induction m with
    | zero=>intro L0;simp
    | succ m ih=>intro L0;rw[IU,IS,ih,Kq,JW];omega
   rw[this,JY];simpa using hsz
  unfold Builtin.«tuple.__mul__»
  wp_walk using wpAny_loadPart' hl
  rw[if_neg c0]
  wp_walk using wpAny_loadPart' hl
  rw[if_neg c1]
  try wp_walk using wpAny_loadPart' hl
  rw[if_neg c2]
  try wp_walk using wpAny_loadPart' hl
  rw[if_neg c3]
  try wp_walk using wpAny_loadPart' hl
  rw[if_neg c4]
  try wp_walk using wpAny_loadPart' hl
  rw[if_neg (Nat.not_lt.mpr Mq)]
  try wp_walk using wpAny_loadPart' hl
  exact⟨_,rfl,h⟩
def oM (l:Addr)(IF:Array Value)(n:Nat)(t:Tok)(dd:Option Addr)(sl:Array (Na)) :
  Meets (Builtin.«tuple.__mul__» ⟨[.ref l,.int 1 t],[]⟩) (λ_ R s=>s.heap.get? l=some { cls:=.type "tuple",dict:=dd,data:=.seq IF n,slots:=sl }/\R (.ok (.ret (.ref l))) s) :=
 .of_wp λprog w A R s h=>by
  obtain⟨hp,g,d,tk,os⟩:=s;obtain⟨hl,h⟩:=h;have f1:=Ja;have f2:=Ic;have c1:(IF.isEmpty||(1:Int)==1)=true:=by simp
  unfold Builtin.«tuple.__mul__»
  wp_walk using wpAny_loadPart' hl
  exact⟨_,rfl,h⟩
def oN (l:Addr)(n:Nat)(k:Int)(t:Tok)(dd:Option Addr)(sl:Array (Na))(h0:0<=k)(h1:k < 1000000) :
  Meets (Builtin.«tuple.__mul__» ⟨[.ref l,.int k t],[]⟩) (λ_ R s=>s.heap.get? l=some { cls:=.type "tuple",dict:=dd,data:=.seq #[] n,slots:=sl }/\R (.ok (.ret (.ref l))) s) :=
 .of_wp λprog w A R s h=>by
  obtain⟨hp,g,d,tk,os⟩:=s;obtain⟨hl,h⟩:=h;have f1:=Ja;have f2:=Ic;have c0:¬ (decide (k < -2^63)||decide (k≥2^63))=true:=by
   simp only[JM,HH];omega
  have c1:((#[]:Array Value).isEmpty||k==1)=true:=by simp
  unfold Builtin.«tuple.__mul__»
  wp_walk using wpAny_loadPart' hl
  rw[if_neg c0]
  wp_walk using wpAny_loadPart' hl
  exact⟨_,rfl,h⟩
def mR (l:Addr)(IF:Array Value)(n:Nat)(t:Tok)(dd:Option Addr)(sl:Array (Na))(hne:IF.isEmpty=false) :
  Meets (Builtin.«tuple.__mul__» ⟨[.ref l,.int 0 t],[]⟩) (λ_ R s=>s.heap.get? l=some { cls:=.type "tuple",dict:=dd,data:=.seq IF n,slots:=sl } /\
   R (.ok (.ret (.ref s.zz))) { s with heap:=s.heap.push { cls:=.type "tuple",data:=.seq #[] } }) :=
 .of_wp λprog w A R s h=>by
  obtain⟨hp,g,d,tk,os⟩:=s;obtain⟨hl,h⟩:=h;have f1:=Ja;have f2:=Ic;have c1:¬ (IF.isEmpty||(0:Int)==1)=true:=by rw[hne];decide
  have c2:(decide ((0:Int)<=0)||IF.isEmpty)=true:=by simp
  unfold Builtin.«tuple.__mul__»
  wp_walk using wpAny_loadPart' hl
  exact⟨_,rfl,h⟩
end
section
theorem fY (env:Env):∀ (names:List (Str×NameKind)) (L0:List (Str×Addr)),(∀ y∈names,y.2=.free->∃ c,env.cells.lookup y.1=some c)->(∀ n c,L0.lookup n=some c->env.cells.lookup n=some c) ->
  ∃ cl,(forIn names L0 λ(x:Str×NameKind) (cs:List (Str×Addr))=>(do
    if x.2==.free then let a <- cellOf env x.1;pure (ForInStep.yield ((x.1,a)::cs)) else pure (ForInStep.yield cs):Sem (ForInStep (List (Str×Addr)))))=pure cl /\
   (∀ n c,cl.lookup n=some c->env.cells.lookup n=some c)/\(∀ n c,L0.lookup n=some c->∃ c',cl.lookup n=some c')/\(∀ y∈names,y.2=.free->∃ c,cl.lookup y.1=some c)
 | [],L0,_,h=>⟨L0,rfl,h,λn c e=>⟨c,e⟩,λ_ z=>nomatch z⟩
 | (n,k)::r,L0,hf,h=>by
  by_cases hk:k=.free
  ·subst hk;obtain⟨c,hc⟩:=hf (n,.free) Ih rfl;have h':∀ m d,List.lookup m ((n,c)::L0)=some d->env.cells.lookup m=some d:=λm d e=>by
    by_cases q:(m==n)=true
    ·have q':m=n:=eq_of_beq q;simp only[List.lookup,q]at e;cases e;rw[q'];exact hc
    ·have q':(m==n)=false:=by simpa using q
     simp only[List.lookup,q']at e;exact h m d e
   obtain⟨cl,e1,e2,e3,e4⟩:=fY env r ((n,c)::L0) (λy hy=>hf y (Il _ hy)) h';have self:List.lookup n ((n,c)::L0)=some c:=by simp[List.lookup]
   refine⟨cl,?_,e2,λm d e=>?_,λy hy hy2=>?_⟩
   ·rw[Kg];have:cellOf env n=pure c:=by unfold cellOf;rw[hc]
    simp only[Ls,Hx,this];exact e1
   ·by_cases q:(m==n)=true
    ·have q':m=n:=eq_of_beq q;rw[q'];exact e3 n c self
    ·have q':(m==n)=false:=by simpa using q
     exact e3 m d (by simp only[List.lookup,q'];exact e)
   ·rcases Ho.mp hy with z | z
    ·subst z;exact e3 n c self
    ·exact e4 y z hy2
  ·have hb:(k==NameKind.free)=false:=by simpa using hk
   obtain⟨cl,e1,e2,e3,e4⟩:=fY env r L0 (λy hy=>hf y (Il _ hy)) h;refine⟨cl,?_,e2,e3,λy hy hy2=>?_⟩
   ·rw[Kg];simp only[hb,JN,Hu];exact e1
   ·rcases Ho.mp hy with z | z
    ·subst z;exact absurd hy2 hk
    ·exact e4 y z hy2
def mS (scope:Scope)(env:Env)(h:∀ y∈scope.names,y.2=.free->∃ c,env.cells.lookup y.1=some c) :
  ∃ cl,closureFor scope env=pure cl/\(∀ n c,cl.lookup n=some c->env.cells.lookup n=some c)/\(∀ y∈scope.names,y.2=.free->∃ c,cl.lookup y.1=some c):=by
 obtain⟨cl,e1,e2,_,e4⟩:=fY env scope.names [] h (λn c e=>by simp at e);refine⟨cl,?_,e2,e4⟩;exact(IZ (λt:Sem (List (Str×Addr))=>t >>= λs=>pure s) e1).trans rfl
noncomputable def QV (ifs:Nd)(env:Env):Sem Bool:=match ifs with
 | []=>pure true
 | c::_=>isTrue c env (eval c env)
def xT {prog:Program}{w:World}{A:Around}{R:Result->MT}{s:Shared}{elt target iter:Expr}{ifs:Nd}{scope:Scope}{pos:Pos}{it L0:Value}{env:Env}(hifs:ifs.length<=1)(W:Nat->MT)
  (turn:∀ n s,W n s->wpAny (model prog w) A (pyNext it) (λr s1=>match r with
   | none=>R (.ok .next) s1
   | some v=>wpAny (model prog w) A (letOwnedTupleGo target it v) (λ_ s2=>wpAny (model prog w) A (assign target env v) (λ_ s3=>wpAny (model prog w) A (QV ifs env) (λok s4 =>
     if ok=true then wpAny (model prog w) A (eval elt env) (λx s5=>wpAny (model prog w) A (call (.builtin "list.append") [L0,x]) (λ_ s6=>∃ m,m < n/\W m s6) (λ_ _=>False) s5) (λ_ _=>False) s4
     else ∃ m,m < n/\W m s4) (λ_ _=>False) s3) (λ_ _=>False) s2) (λ_ _=>False) s1) (λ_ _=>False) s)
  (n:Nat) (h:W n s):codeAny (model prog w) A (.compLoop (.ListComp elt [⟨target,iter,ifs,0⟩] scope pos) 0 it L0 env) R s:=by
 have weak:∀ {α:Type} {t:Sem α} {Q Q':α->MT} {E:MJ} {s:Shared},wpAny (model prog w) A t Q (λ_ _=>False) s->(∀ a s,Q a s->Q' a s)->wpAny (model prog w) A t Q' E s :=
  λh k=>Im h k λ_ _ z=>z.elim
 refine codeAny_loop rfl W (λn s hW=>?_) n h;refine wpAny_noted ?_;rw[compTurn_list];refine Hk (Ma (Hk (weak (turn n s hW) λr s1 h1=>?_)));cases r with
 | none=>exact Hw h1
 | some v =>
  refine Hk (weak h1 λ_ s2 h2=>Hk (weak h2 λ_ s3 h3=>Hk ?_));have fin:∀ ok s4,(if ok=true then wpAny (model prog w) A (eval elt env) (λx s5=>wpAny (model prog w) A (call (.builtin "list.append") [L0,x]) (λ_ s6=>∃ m,m < n/\W m s6) (λ_ _=>False) s5) (λ_ _=>False) s4
     else ∃ m,m < n/\W m s4)->wpAny (model prog w) A (if ok=true then ((do let _ <- call (.builtin "list.append") [L0,<- eval elt env];pure ()) >>= λ_=>again (.compLoop (.ListComp elt [⟨target,iter,ifs,0⟩] scope pos) 0 it L0 env)) else again (.compLoop (.ListComp elt [⟨target,iter,ifs,0⟩] scope pos) 0 it L0 env))
      (λfin s'=>match fin with | .done f=>R (.ok f) s' | .again c'=>c'=(.compLoop (.ListComp elt [⟨target,iter,ifs,0⟩] scope pos) 0 it L0 env)/\∃ m,m < n/\W m s') (notedBy (model prog w) A env λe s'=>R (.error e) s') s4:=by
   intro ok s4 h4;cases ok with
   | true=>exact Hk (Hk (weak h4 λx s5 h5=>Hk (weak h5 λ_ s6 h6=>Hw (Hw ⟨rfl,h6⟩))))
   | false=>exact Hw ⟨rfl,h4⟩
  match ifs,hifs,h3,fin with
  | [],_,h3,fin =>
   refine wpAny_tests_nil ?_;exact Hk (m:=(pure true:Sem Bool)) (weak h3 fin)
  | [c],_,h3,fin =>
   refine wpAny_tests_one ?_;exact weak h3 fin
end
end FF
namespace FF
open PySem PyProof.Rows
open AutoSeq1 (wpAny_loadPart')
def xU (l b:Addr)(IF LE:Array Value)(n n2:Nat)(dd dd2:Option Addr)(sl sl2:Array (Na))(hsz:IF.size+LE.size<=sizeLine) :
  Meets (Builtin.«list.__add__» ⟨[.ref l,.ref b],[]⟩) (λ_ R s=>s.heap.get? l=some { cls:=.type "list",dict:=dd,data:=.seq IF n,slots:=sl }/\s.heap.get? b=some { cls:=.type "list",dict:=dd2,data:=.seq LE n2,slots:=sl2 } /\
   R (.ok (.ret (.ref s.zz))) { s with heap:=s.heap.push { cls:=.type "list",data:=.seq (IF++LE) } }) :=
 .of_wp λprog w A R s h=>by
  obtain⟨hp,g,d,tk,os⟩:=s;obtain⟨hl,hb,h⟩:=h;have f1:=Ja;have f2:=Ic;have f3:=IW;have f4:=Km;have f5:=Ko;have hl0:¬ Builtin.List.listTooLong (IF.size+LE.size)=true:=by rw[L2.OI hsz];exact Ib
  have hz:(IF++LE).size<=sizeLine:=by rw[Kq];exact hsz
  wp_walk using wpAny_loadPart' hl,wpAny_loadPart' hb
  all_goals first | exact⟨_,rfl,h⟩ | trace_state
def xV (l:Addr)(IF:Array Value)(n:Nat)(k:Int)(t:Tok)(dd:Option Addr)(sl:Array (Na))(h0 : -(2^63)<=k)(h1:k < 2^63)(hsz:IF.size*k.toNat<=sizeLine) :
  Meets (Builtin.«list.__mul__» ⟨[.ref l,.int k t],[]⟩) (λ_ R s=>s.heap.get? l=some { cls:=.type "list",dict:=dd,data:=.seq IF n,slots:=sl } /\
   R (.ok (.ret (.ref s.zz))) { s with heap:=s.heap.push { cls:=.type "list",data:=.seq (List.foldl (λx1 x2=>x1++x2) #[] (List.replicate (if IF.isEmpty=true then 0 else k.toNat) IF)) } }) :=
 .of_wp λprog w A R s h=>by
  obtain⟨hp,g,d,tk,os⟩:=s;obtain⟨hl,h⟩:=h;have f1:=Ja;have f2:=Ic;have f3:=IW;have hs:=HV;have c1:¬ IF.size*k.toNat > (2^63 - 1)/8:=by omega
  have c2:¬ (!Builtin.List.listFitsIndex k)=true:=by rw[fitsIndex_both h0 h1];exact Ib
  have c3:¬ Builtin.List.listTooLong (IF.size*k.toNat)=true:=by rw[L2.OI hsz];exact Ib
  have hz:=AutoListH.joined_fits c3
  wp_walk using wpAny_loadPart' hl
  rw[if_neg (Nat.not_lt.mpr hz)]
  wp_walk
  exact⟨_,rfl,h⟩
def oO (a:Int)(t:Tok)(l:Addr)(IF:Array Value)(n:Nat)(dd:Option Addr)(sl:Array (Na)) :
  Meets (Builtin.«int.__rmul__» ⟨[.int a t,.ref l],[]⟩) (λ_ R s=>s.heap.get? l=some { cls:=.type "list",dict:=dd,data:=.seq IF n,slots:=sl }/\R (.ok (.ret Value.notImplemented)) s) :=
 .of_wp λprog w A R s h=>by obtain⟨hp,g,d,tk,os⟩:=s;obtain⟨hl,h⟩:=h;wp_walk;exact⟨_,rfl,h⟩
def xW (l b:Addr)(IF LE:Array Value)(n n2:Nat)(dd2:Option Addr)(sl2:Array (Na))(hsz:IF.size+LE.size<=sizeLine) :
  Meets (Builtin.«list.extend» ⟨[.ref l,.ref b],[]⟩) (λ_ R s=>s.heap.get? l=some { cls:=.type "list",data:=.seq IF n }/\s.heap.get? b=some { cls:=.type "list",dict:=dd2,data:=.seq LE n2,slots:=sl2 } /\
   R (.ok (.ret .none)) { s with heap:=s.heap.update l (Obj.mapSeq λx=>x++LE) }) :=
 .of_wp λprog w A R s h=>by
  obtain⟨hp,g,d,tk,os⟩:=s;obtain⟨hl,hb,h⟩:=h;have f1:=Ja;have f2:=Ic;have f3:=IW;have f4:=Km;have f5:=Ko;have hc0:¬(!IF.isEmpty&&Builtin.List.listTooLong (IF.size+LE.size))=true:=by rw[L2.OI hsz,LU];exact Ib
  have hc1:IF.size<=sizeLine:=by omega
  have hs2:IF.size+LE.size<=sizeLine+1:=by omega
  have hz':(IF++LE).size<=sizeLine+1:=by rw[Kq];omega
  wp_walk using (wpAny_updateSeq hl rfl),wpAny_loadPart' hl,wpAny_loadPart' hb
  exact⟨_,rfl,h⟩
def xX (l b:Addr)(IF LE:Array Value)(n n2:Nat)(dd2:Option Addr)(sl2:Array (Na))(hsz:IF.size+LE.size<=sizeLine) :
  Meets (Builtin.«list.extend» ⟨[.ref l,.ref b],[]⟩) (λ_ R s=>s.heap.get? l=some { cls:=.type "list",data:=.seq IF n }/\s.heap.get? b=some { cls:=.type "tuple",dict:=dd2,data:=.seq LE n2,slots:=sl2 } /\
   R (.ok (.ret .none)) { s with heap:=s.heap.update l (Obj.mapSeq λx=>x++LE) }) :=
 .of_wp λprog w A R s h=>by
  obtain⟨hp,g,d,tk,os⟩:=s;obtain⟨hl,hb,h⟩:=h;have f1:=Ja;have f2:=Ic;have f3:=IW;have f4:=Km;have f5:=Ko;have hc0:¬(!IF.isEmpty&&Builtin.List.listTooLong (IF.size+LE.size))=true:=by rw[L2.OI hsz,LU];exact Ib
  have hc1:IF.size<=sizeLine:=by omega
  have hs2:IF.size+LE.size<=sizeLine+1:=by omega
  have hz':(IF++LE).size<=sizeLine+1:=by rw[Kq];omega
  wp_walk using (wpAny_updateSeq hl rfl),wpAny_loadPart' hl,wpAny_loadPart' hb
  exact⟨_,rfl,h⟩
end FF
namespace FF
open PySem PySem.Spec PyProof.Rows L2
variable {Z H Z' H' Z1:Hp}{X:Cx}{K:Frag}{σ:St}{pos py spos:Pos}{C:MN}{vs xs us:List V}{v:V}{c b tg elt iter:Expr}{am:MZ}{ifs:Nd}{scope:Scope}{N:List Str}{cap:List Nat}{n:Nat}{t:TT}{A:Around}{cl:List (Str×Addr)}{fp:List Addr}{s':Shared}{P:Program}{g:Int->Int->V}{M:Model}{qual:Str}{B base:Heap}{mg:MK}{ea:Addr}
inductive D where
 | non | bl (b:Bool) | int (i:Int) | str (x:Str) | tup (xs:List D) | lst (xs:List D) | exc (k:Nat) | fn (k:Nat) | tab (ks:List (List Int)) (xs:List D) | dic (ks:List Key) (xs:List D) | ptr (a:Addr)
inductive R (α:Type) where
 | ok (a:α) | err (k:Nat) | stuck
noncomputable def R.bind {α β:Type}(r:R α)(f:α->R β):R β:=match r with
 | .ok a=>f a
 | .err k=>.err k
 | .stuck=>.stuck
@[simp] theorem R.bind_ok {α β:Type}(a:α)(f:α->R β):(R.ok a).bind f=f a:=rfl
@[simp] theorem R.bind_err {α β:Type}(k:Nat)(f:α->R β):(R.err k:R α).bind f=.err k:=rfl
@[simp] theorem R.bind_stuck {α β:Type}(f:α->R β):(R.stuck:R α).bind f=.stuck:=rfl
noncomputable def Pw (C:MN)(k:Nat)(a:Addr):HO :=
 .ext λh=>∃ o,h.get? a=some o/\o.cls=.ref (C k)/\∃ vs,o.data=.fields vs
abbrev TKV:=List Int×Addr×V
abbrev TKU:=List Int×Addr×Value
noncomputable def Q6 (ks:List Int):Int:=reduceHash (Builtin.Tuple.tupleHashOf (ks.map hashInt))
def Pd (p:TKV)(q:TKU):Prop:=p.1=q.1/\p.2.1=q.2.1/\RelV p.2.2 q.2.2
def Rz (a:Addr)(kvs:List TKV)(h:Heap):Prop:=∃ xs:List TKU,Paired Pd kvs xs/\xs.length<=sizeLine/\(a==sysModules)=false/\∃ o es ep,h.get? a=some o/\o.ExactDict/\o.data=.dict es ep /\
 es.toList=xs.map (λx=>(⟨Q6 x.1,.ref x.2.1,x.2.2⟩:DictEntry))/\(xs.map (·.1)).Nodup
noncomputable def NU (a:Addr)(kvs:List TKV):HO:=.ext (Rz a kvs)
abbrev RKV:=List (List Int)×Addr×V
abbrev RKU:=List (List Int)×Addr×Value
noncomputable def Sb (kss:List (List Int)):Int:=reduceHash (Builtin.Tuple.tupleHashOf (kss.map Q6))
def Sy (p:RKV)(q:RKU):Prop:=p.1=q.1/\p.2.1=q.2.1/\RelV p.2.2 q.2.2
def Sx (a:Addr)(kvs:List RKV)(h:Heap):Prop:=∃ xs:List RKU,Paired Sy kvs xs/\xs.length<=sizeLine/\(a==sysModules)=false/\∃ o es ep,h.get? a=some o/\o.ExactDict/\o.data=.dict es ep /\
 es.toList=xs.map (λx=>(⟨Sb x.1,.ref x.2.1,x.2.2⟩:DictEntry))/\(xs.map (·.1)).Nodup
noncomputable def Sz (a:Addr)(kvs:List RKV):HO:=.ext (Sx a kvs)
def RowsT (K:Frag)(Z:Hp):List Addr->List (List Int)->Prop
 | [],[]=>True
 | b::as,ks::kss=>SqT K Z b (ks.map V.int)/\RowsT K Z as kss
 | _,_=>False
def SqR (K:Frag)(Z:Hp)(a:Addr)(kss:List (List Int)):Prop:=∃ as:List Addr,SqT K Z a (as.map V.ref)/\RowsT K Z as kss
mutual
def Rep (K:Frag)(C:MN)(Z:Hp):D->V->Prop
 | .non,v=>v=.non
 | .bl b,v=>v=.bl b
 | .int i,v=>v=.int i
 | .str x,v=>v=.str x
 | .tup ds,v=>∃ a vs,v=.ref a/\SqT K Z a vs/\Reps K C Z ds vs
 | .lst ds,v=>∃ a vs,v=.ref a/\SqL K Z a vs/\Reps K C Z ds vs
 | .exc k,v=>∃ a,v=.ref a/\Z a=some (Pw C k a)
 | .fn k,v=>v=.ref (C k)
 | .tab ks ds,v=>∃ a kvs,v=.ref a/\Z a=some (NU a kvs)/\kvs.map (·.1)=ks/\(∀ x∈kvs,SqT K Z x.2.1 (x.1.map V.int))/\Reps K C Z ds (kvs.map (·.2.2))
 | .dic ks ds,v=>∃ a kvs,v=.ref a/\(∃ o,Z a=some (.frz o (.dK kvs)))/\kvs.map (·.1)=ks/\Reps K C Z ds (kvs.map (·.2))
 | .ptr a,v=>v=.ref a
def Reps (K:Frag)(C:MN)(Z:Hp):List D->List V->Prop
 | [],vs=>vs=[]
 | d::ds,vs=>∃ v r,vs=v::r/\Rep K C Z d v/\Reps K C Z ds r
end
def _root_.L2.SqT.mono {a:Addr}(e:Same Z Z')(h:SqT K Z a xs):SqT K Z' a xs:=by
 rcases h with (h | ⟨o,h⟩) | h
 ·exact .inl (.inl (e _ _ h))
 ·exact .inl (.inr ⟨o,e _ _ h⟩)
 ·exact .inr h
theorem RowsT.mono {K:Frag}{Z Z':Hp}(e:Same Z Z'):∀ {as:List Addr} {kss:List (List Int)},RowsT K Z as kss->RowsT K Z' as kss
 | [],[],_=>Jn
 | b::as,ks::kss,h=>⟨h.1.mono e,RowsT.mono e h.2⟩
 | [],_::_,h=>h.elim
 | _::_,[],h=>h.elim
def SqR.mono {a:Addr}{kss:List (List Int)}(h:SqR K Z a kss)(e:Same Z Z'):SqR K Z' a kss:=let ⟨as,p,q⟩:=h;⟨as,p.mono e,q.mono e⟩
section
mutual
theorem Rep.mono (e:Same Z Z'):∀ (d:D) (v:V),Rep K C Z d v->Rep K C Z' d v
 | .non,v,h=>by rw[Rep]at h ⊢;exact h
 | .bl b,v,h=>by rw[Rep]at h ⊢;exact h
 | .int i,v,h=>by rw[Rep]at h ⊢;exact h
 | .str x,v,h=>by rw[Rep]at h ⊢;exact h
 | .fn k,v,h=>by rw[Rep]at h ⊢;exact h
 | .tup ds,v,h=>by
  rw[Rep]at h ⊢;obtain⟨a,vs,h1,h2,h3⟩:=h;exact⟨a,vs,h1,h2.mono e,Reps.mono e ds vs h3⟩
 | .lst ds,v,h=>by
  rw[Rep]at h ⊢;obtain⟨a,vs,h1,h2,h3⟩:=h;exact⟨a,vs,h1,e.seq h2,Reps.mono e ds vs h3⟩
 | .exc k,v,h=>by
  rw[Rep]at h ⊢;obtain⟨a,h1,h2⟩:=h;exact⟨a,h1,e _ _ h2⟩
 | .tab ks ds,v,h=>by
  rw[Rep]at h ⊢;obtain⟨a,kvs,h1,h2,h3,h5,h4⟩:=h;exact⟨a,kvs,h1,e _ _ h2,h3,λx hx=>(h5 x hx).mono e,Reps.mono e ds _ h4⟩
 | .dic ks ds,v,h=>by
  rw[Rep]at h ⊢;obtain⟨a,kvs,h1,⟨o,h2⟩,h3,h4⟩:=h;exact⟨a,kvs,h1,⟨o,e _ _ h2⟩,h3,Reps.mono e ds _ h4⟩
 | .ptr a,v,h=>by
  rw[Rep]at h ⊢;exact h
theorem Reps.mono (e:Same Z Z'):∀ (ds:List D) (vs:List V),Reps K C Z ds vs->Reps K C Z' ds vs
 | [],vs,h=>by rw[Reps]at h ⊢;exact h
 | d::ds,vs,h=>by
  rw[Reps]at h ⊢;obtain⟨v,r,h1,h2,h3⟩:=h;exact⟨v,r,h1,Rep.mono e d v h2,Reps.mono e ds r h3⟩
end
def Reps.nil:Reps K C Z [] []:=by rw[Reps]
def Reps.cons {d:D}{ds:List D}(h:Rep K C Z d v)(t:Reps K C Z ds vs):Reps K C Z (d::ds) (v::vs):=by
 rw[Reps];exact⟨v,vs,rfl,h,t⟩
def Reps.uncons {d:D}{ds:List D}(h:Reps K C Z (d::ds) (v::vs)):Rep K C Z d v/\Reps K C Z ds vs:=by
 rw[Reps]at h
 grind
theorem Reps.length:∀ {ds:List D} {vs:List V},Reps K C Z ds vs->ds.length=vs.length
 | [],vs,h=>by rw[Reps]at h;subst h;rfl
 | d::ds,vs,h=>by
  rw[Reps]at h;obtain⟨v,r,e,_,h2⟩:=h;subst e
  simp[Reps.length h2]
theorem Reps.get:∀ {ds:List D} {vs:List V} {i:Nat} {d:D},Reps K C Z ds vs->ds[i]?=some d->∃ v,vs[i]?=some v/\Rep K C Z d v
 | [],vs,i,d,h,e=>by simp at e
 | d'::ds,vs,i,d,h,e=>by
  rw[Reps]at h;obtain⟨v,r,q,h1,h2⟩:=h;subst q;cases i with
  | zero=>simp at e;subst e;exact⟨v,rfl,h1⟩
  | succ i =>
   obtain⟨v',e1,h3⟩:=Reps.get h2 (by simpa using e);exact⟨v',by simpa using e1,h3⟩
theorem Reps.get':∀ {ds:List D} {vs:List V} {i:Nat} {v:V},Reps K C Z ds vs->vs[i]?=some v->∃ d,ds[i]?=some d/\Rep K C Z d v
 | [],vs,i,v,h,e=>by rw[Reps]at h;subst h;simp at e
 | d'::ds,vs,i,v,h,e=>by
  rw[Reps]at h;obtain⟨v0,r,q,h1,h2⟩:=h;subst q;cases i with
  | zero=>simp at e;subst e;exact⟨d',rfl,h1⟩
  | succ i =>
   obtain⟨d,e1,h3⟩:=Reps.get' h2 (by simpa using e);exact⟨d,by simpa using e1,h3⟩
theorem Reps.append:∀ {ds es:List D} {vs us:List V},Reps K C Z ds vs->Reps K C Z es us->Reps K C Z (ds++es) (vs++us)
 | [],es,vs,us,h,h'=>by rw[Reps]at h;subst h;exact h'
 | d::ds,es,vs,us,h,h'=>by
  rw[Reps]at h;obtain⟨v,r,q,h1,h2⟩:=h;subst q;exact Reps.cons h1 (Reps.append h2 h')
theorem Reps.take:∀ {ds:List D} {vs:List V} (n:Nat),Reps K C Z ds vs->Reps K C Z (ds.take n) (vs.take n)
 | [],vs,n,h=>by rw[Reps]at h;subst h;simpa using Reps.nil
 | d::ds,vs,n,h=>by
  rw[Reps]at h;obtain⟨v,r,q,h1,h2⟩:=h;subst q;cases n with
  | zero=>exact Reps.nil
  | succ n=>exact Reps.cons h1 (Reps.take n h2)
theorem Reps.drop:∀ {ds:List D} {vs:List V} (n:Nat),Reps K C Z ds vs->Reps K C Z (ds.drop n) (vs.drop n)
 | [],vs,n,h=>by rw[Reps]at h;subst h;simpa using Reps.nil
 | d::ds,vs,n,h=>by
  rw[Reps]at h;obtain⟨v,r,q,h1,h2⟩:=h;subst q;cases n with
  | zero=>exact Reps.cons h1 h2
  | succ n=>exact Reps.drop n h2
end
structure Ex (H Z H' Z':Hp):Prop where
 same:Same H H'
 z:Same Z Z'
 sub:Same Z' H'
 new:∀ b,Z' b≠none->Z b≠none\/H b=none
def Ex.refl (s:Same Z H):Ex H Z H Z:=⟨Same.refl _,Same.refl _,s,λ_ h=>.inl h⟩
def Ex.trans {H1 H2 Z2:Hp}(a:Ex H Z H1 Z1)(b:Ex H1 Z1 H2 Z2):Ex H Z H2 Z2 :=
 ⟨a.same.trans b.same,a.z.trans b.z,b.sub,λc h=>(b.new c h).elim (λh1=>a.new c h1) λh1=>.inr (a.same.free h1)⟩
def aN {p:Addr}{o:HO}(h:H p=none):Same H (upd H p o):=λb u e=>by
 rw[aE (ce e h)];exact e
def Ex.alloc {p:Addr}{o:HO}(s:Same Z H)(h:H p=none):Ex H Z (upd H p o) (upd Z p o):=by
 have hz:Z p=none:=s.free h;refine⟨aN h,aN hz,λb u e=>?_,λb hb=>?_⟩
 ·by_cases q:b=p
  ·subst q;rw[az]at e ⊢;exact e
  ·rw[aE q]at e ⊢;exact s b u e
 ·by_cases q:b=p
  ·subst q;exact .inr h
  ·rw[aE q]at hb;exact .inl hb
def Ex.hidden {p:Addr}{o:HO}(s:Same Z H)(h:H p=none):Ex H Z (upd H p o) Z :=
 ⟨aN h,Same.refl _,s.trans (aN h),λ_ hb=>.inl hb⟩
inductive Sl where
 | val (d:D) | own (ds:List D) | mat (m:List (List D)) | dic (m:List (Key×D)) | dit (m:List (List Int×D)) | dir (m:List (List (List Int)×D))
abbrev SS:=List (Option Sl)
variable {S:SS}
structure Fx where
 K:Frag
 C:MN
 H0:Hp
 Z0:Hp
 E:XK
variable {F:Fx}
def Rows (F:Fx)(H Z:Hp):List (List D)->List Addr->Prop
 | [],[]=>True
 | ds::m,r::rs=>(∃ vs,H r=some (.lst vs)/\Reps F.K F.C Z ds vs)/\Rows F H Z m rs
 | _,_=>False
def Se {κ:Type}(F:Fx)(Z:Hp)(m:List (κ×D))(kvs:List (κ×V)):Prop:=kvs.map Prod.fst=m.map Prod.fst/\Reps F.K F.C Z (m.map Prod.snd) (kvs.map Prod.snd)
def Ow (F:Fx)(H Z:Hp):Sl->V->List Addr->Prop
 | .val d,v,A=>A=[]/\Rep F.K F.C Z d v
 | .own ds,v,A=>∃ a vs,v=.ref a/\A=[a]/\H a=some (.lst vs)/\Reps F.K F.C Z ds vs
 | .mat m,v,A=>∃ a rs,v=.ref a/\A=a::rs/\H a=some (.lst (rs.map V.ref))/\Rows F H Z m rs
 | .dic m,v,A=>∃ a kvs,v=.ref a/\A=[a]/\H a=some (.dK kvs)/\Se F Z m kvs
 | .dit m,v,A=>∃ a kvs,v=.ref a/\A=[a]/\H a=some (NU a kvs)/\kvs.map (·.1)=m.map (·.1)/\(∀ x∈kvs,SqT F.K Z x.2.1 (x.1.map V.int))/\Reps F.K F.C Z (m.map (·.2)) (kvs.map (·.2.2))
 | .dir m,v,A=>∃ a kvs,v=.ref a/\A=[a]/\H a=some (Sz a kvs)/\kvs.map (·.1)=m.map (·.1)/\(∀ x∈kvs,SqR F.K Z x.2.1 x.1)/\Reps F.K F.C Z (m.map (·.2)) (kvs.map (·.2.2))
structure Priv (F:Fx)(Z:Hp)(A:List Addr):Prop where
 nd:A.Nodup
 z:∀ a∈A,Z a=none
 h0:∀ a∈A,F.H0 a=none
structure StOk (F:Fx)(H Z:Hp)(S:SS)(σ:St):Prop where
 ex:Ex F.H0 F.Z0 H Z
 len:S.length=σ.length
 sl:∀ (i:Nat) (x:Sl),S[i]?=some (some x)->∃ v A,σ[i]?=some (some v)/\Ow F H Z x v A/\Priv F Z A
 dj:∀ (i j:Nat) (x y:Sl) (v w:V) (A B:List Addr),i≠j->S[i]?=some (some x)->S[j]?=some (some y)->σ[i]?=some (some v)->σ[j]?=some (some w)->Ow F H Z x v A->Ow F H Z y w B->∀ a∈A,a∉B
section
variable {x:Sl}{A B:List Addr}
theorem Rows.mono (hz:Same Z Z'):∀ {m:List (List D)} {rs:List Addr},Rows F H Z m rs->(∀ a∈rs,∀ o,H a=some o->H' a=some o)->Rows F H' Z' m rs
 | [],[],_,_=>trivial
 | ds::m,r::rs,h,k=>by
  obtain⟨⟨vs,e,q⟩,h⟩:=h;exact⟨⟨vs,k r (.head _) _ e,q.mono hz⟩,Rows.mono hz h λa ha=>k a (.tail _ ha)⟩
 | [],_::_,h,_=>h.elim
 | _::_,[],h,_=>h.elim
theorem Rows.there:∀ {m:List (List D)} {rs:List Addr},Rows F H Z m rs->∀ a∈rs,∃ o,H a=some o
 | [],[],_,a,ha=>nomatch ha
 | ds::m,r::rs,h,a,ha=>by
  obtain⟨⟨vs,e,q⟩,h⟩:=h;rcases Ho.mp ha with rfl | ha
  ·exact⟨_,e⟩
  ·exact Rows.there h a ha
 | [],_::_,h,_,_=>h.elim
 | _::_,[],h,_,_=>h.elim
theorem Rows.len:∀ {m:List (List D)} {rs:List Addr},Rows F H Z m rs->rs.length=m.length
 | [],[],_=>rfl
 | ds::m,r::rs,h=>by rw[HB,HB,Rows.len h.2]
 | [],_::_,h=>h.elim
 | _::_,[],h=>h.elim
theorem si:∀ {rs qs:List Addr},rs.map V.ref=qs.map V.ref->rs=qs
 | [],[],_=>rfl
 | r::rs,q::qs,h=>by
  rw[Hq,Hq]at h;injection h with h1 h2
  injection h1 with h1
  rw[h1,si h2]
 | [],_::_,h=>nomatch h
 | _::_,[],h=>nomatch h
def Ow.mono (hz:Same Z Z')(h:Ow F H Z x v A)(hs:∀ a∈A,∀ o,H a=some o->H' a=some o):Ow F H' Z' x v A:=by
 cases x with
 | val d=>exact⟨h.1,h.2.mono hz⟩
 | own ds =>
  obtain⟨a,vs,e1,e2,e3,r⟩:=h;exact⟨a,vs,e1,e2,hs a (by grind) _ e3,r.mono hz⟩
 | mat m =>
  obtain⟨a,rs,e1,e2,e3,r⟩:=h;exact⟨a,rs,e1,e2,hs a (by grind) _ e3,r.mono hz λb hb=>hs b (by grind)⟩
 | dic m =>
  obtain⟨a,vs,e1,e2,e3,r⟩:=h;exact⟨a,vs,e1,e2,hs a (by grind) _ e3,r.1,r.2.mono hz⟩
 | dit m =>
  obtain⟨a,vs,e1,e2,e3,r⟩:=h;exact⟨a,vs,e1,e2,hs a (by grind) _ e3,r.1,λx hx=>(r.2.1 x hx).mono hz,r.2.2.mono hz⟩
 | dir m =>
  obtain⟨a,vs,e1,e2,e3,r⟩:=h;exact⟨a,vs,e1,e2,hs a (by grind) _ e3,r.1,λx hx=>(r.2.1 x hx).mono hz,r.2.2.mono hz⟩
def Ow.det (h:Ow F H Z x v A)(h':Ow F H Z x v B):A=B:=by
 cases x with
 | val d=>rw[h.1,h'.1]
 | own ds =>
  obtain⟨a,vs,e1,e2,_⟩:=h;obtain⟨b,us,f1,f2,_⟩:=h'
  grind
 | mat m =>
  obtain⟨a,rs,e1,e2,e3,_⟩:=h;obtain⟨b,qs,f1,f2,f3,_⟩:=h';rw[e1]at f1;cases f1;rw[e3]at f3;injection f3 with f3
  injection f3 with f3
  rw[e2,f2,si f3]
 | dic m =>
  obtain⟨a,vs,e1,e2,_⟩:=h;obtain⟨b,us,f1,f2,_⟩:=h'
  grind
 | dit m =>
  obtain⟨a,vs,e1,e2,_⟩:=h;obtain⟨b,us,f1,f2,_⟩:=h'
  grind
 | dir m =>
  obtain⟨a,vs,e1,e2,_⟩:=h;obtain⟨b,us,f1,f2,_⟩:=h'
  grind
def Ow.there (h:Ow F H Z x v A):∀ a∈A,∃ o,H a=some o:=λa ha=>by
 cases x with
 | val d=>rw[h.1]at ha;cases ha
 | own ds =>
  obtain⟨b,vs,e1,e2,e3,r⟩:=h
  grind
 | mat m =>
  obtain⟨b,rs,e1,e2,e3,r⟩:=h;rw[e2]at ha;rcases Ho.mp ha with rfl | ha
  ·exact⟨_,e3⟩
  ·exact r.there a ha
 | dic m =>
  obtain⟨b,vs,e1,e2,e3,r⟩:=h
  grind
 | dit m =>
  obtain⟨b,vs,e1,e2,e3,r⟩:=h
  grind
 | dir m =>
  obtain⟨b,vs,e1,e2,e3,r⟩:=h
  grind
def StOk.sub (h:StOk F H Z S σ):Same Z H:=h.ex.sub
def StOk.more (h:StOk F H Z S σ)(x:Ex H Z H' Z'):StOk F H' Z' S σ:=by
 have up:∀ {y:Sl} {v:V} {A:List Addr},Ow F H Z y v A->Ow F H' Z' y v A:=λo=>o.mono x.z λa _ o e=>x.same _ _ e
 refine⟨h.ex.trans x,h.len,λi y e=>?_,λi j y z v w A B hij e1 e2 e3 e4 o1 o2=>?_⟩
 ·obtain⟨v,A,e1,o,p⟩:=h.sl i y e;refine⟨v,A,e1,up o,p.nd,λa ha=>?_,p.h0⟩;cases q:Z' a with
  | none=>rfl
  | some u =>
   obtain⟨w,hw⟩:=o.there a ha;rcases x.new a (by rw[q];simp) with z | z
   ·exact absurd (p.z a ha) z
   ·rw[hw]at z;cases z
 ·obtain⟨v',A',f1,q1,_⟩:=h.sl i y e1;obtain⟨w',B',f2,q2,_⟩:=h.sl j z e2;rw[e3]at f1;cases f1;rw[e4]at f2;cases f2;rw[o1.det (up q1),o2.det (up q2)];exact h.dj i j y z v w A' B' hij e1 e2 e3 e4 q1 q2
def StOk.val (h:StOk F H Z S σ)(i:Nat)(d:D)(e:S[i]?=some (some (.val d))):∃ v,σ[i]?=some (some v)/\Rep F.K F.C Z d v:=by
 obtain⟨v,A,e1,o,_⟩:=h.sl i _ e;exact⟨v,e1,o.2⟩
def StOk.own (h:StOk F H Z S σ)(i:Nat)(ds:List D)(e:S[i]?=some (some (.own ds))):∃ a vs,σ[i]?=some (some (.ref a))/\H a=some (.lst vs)/\Z a=none/\F.H0 a=none/\Reps F.K F.C Z ds vs:=by
 obtain⟨v,A,e1,⟨a,vs,rfl,rfl,q,r⟩,p⟩:=h.sl i _ e;exact⟨a,vs,e1,q,p.z a (.head _),p.h0 a (.head _),r⟩
def StOk.put (h:StOk F H Z S σ){i:Nat}(o:Ow F H Z x v A)(p:Priv F Z A)(hn:∀ (j:Nat) (y:Sl) (w:V) (B:List Addr),j≠i->S[j]?=some (some y)->σ[j]?=some (some w)->Ow F H Z y w B->∀ a∈A,a∉B) :
  StOk F H Z (S.set i (some x)) (σ.set i (some v)):=by
 have self:∀ {y:Option Sl},(S.set i (some x))[i]?=some y->y=some x/\i < S.length:=λ{y} e=>by
  by_cases hl:i < S.length
  ·rw[HL hl]at e;cases e;exact⟨rfl,hl⟩
  ·rw[Je (by simpa using hl)]at e;cases e
 refine⟨h.ex,by simp[h.len],λj y e=>?_,λj k y z w u A' B' hjk e1 e2 e3 e4 o1 o2=>?_⟩
 ·by_cases q:i=j
  ·subst q;obtain⟨z,hl⟩:=self e;cases z;exact⟨v,A,by rw[HL (by rw[<- h.len];exact hl)],o,p⟩
  ·rw[HR q]at e ⊢;exact h.sl j y e
 ·by_cases q:i=j
  ·have q2:i≠k:=λz=>hjk (q ▸ z)
   subst q;obtain⟨z,hl⟩:=self e1;cases z;rw[HL (by rw[<- h.len];exact hl)]at e3;cases e3;rw[HR q2]at e2 e4;rw[o1.det o];exact hn k _ _ _ (Jd q2) e2 e4 o2
  ·rw[HR q]at e1 e3;by_cases q2:i=k
   ·subst q2;obtain⟨z,hl⟩:=self e2;cases z;rw[HL (by rw[<- h.len];exact hl)]at e4;cases e4;rw[o2.det o];exact λa ha hb=>hn j _ _ _ (Jd q) e1 e3 o1 a hb ha
   ·rw[HR q2]at e2 e4;exact h.dj j k _ _ _ _ _ _ hjk e1 e2 e3 e4 o1 o2
def Priv.nil:Priv F Z []:=⟨La,(λ_ h=>nomatch h),(λ_ h=>nomatch h)⟩
def StOk.setVal (h:StOk F H Z S σ){i:Nat}{d:D}(r:Rep F.K F.C Z d v):StOk F H Z (S.set i (some (.val d))) (σ.set i (some v)) :=
 h.put ⟨rfl,r⟩ Priv.nil λ_ _ _ _ _ _ _ _ _ ha=>nomatch ha
def StOk.putNew (h:StOk F H Z S σ){i:Nat}(e:Ex H Z H' Z')(o:Ow F H' Z' x v A)(p:Priv F Z' A)(hn:∀ a∈A,H a=none):StOk F H' Z' (S.set i (some x)) (σ.set i (some v)):=by
 refine(h.more e).put o p λj y w B hj e1 e2 o2 a ha hb=>?_
 obtain⟨w',B',f1,q,_⟩:=h.sl j y e1;rw[e2]at f1;cases f1;rw[o2.det (q.mono e.z λa _ o e'=>e.same _ _ e')]at hb;obtain⟨u,hu⟩:=q.there a hb;rw[hn a ha]at hu;cases hu
def StOk.newOwn (h:StOk F H Z S σ){i:Nat}{a:Addr}{ds:List D}(hp:H a=none)(r:Reps F.K F.C Z ds vs):StOk F (upd H a (.lst vs)) Z (S.set i (some (.own ds))) (σ.set i (some (.ref a))) :=
 h.putNew (Ex.hidden h.sub hp) ⟨a,vs,rfl,rfl,az,r⟩ ⟨by simp,λb hb=>by cases HE.mp hb;exact h.sub.free hp,λb hb=>by cases HE.mp hb;exact h.ex.same.free hp⟩ λb hb=>by cases HE.mp hb;exact hp
def StOk.rewr (h:StOk F H Z S σ){i:Nat}{x':Sl}(e:S[i]?=some (some x))(ev:σ[i]?=some (some v))(o:Ow F H Z x v A)(o':Ow F H' Z x' v A)(hH:∀ b,b∉A->H' b=H b):StOk F H' Z (S.set i (some x')) σ:=by
 have hl:=(HM.mp e).1;obtain⟨v',A',f1,q1,p⟩:=h.sl i x e;rw[ev]at f1;cases f1;cases o.det q1;have up:∀ {j:Nat} {y:Sl} {w:V} {B:List Addr},j≠i->S[j]?=some (some y)->σ[j]?=some (some w)->Ow F H Z y w B->Ow F H' Z y w B:=λ{j y w B} hj e1 e2 q=>q.mono (Same.refl _) λb hb u eu=>by
  rw[hH b (h.dj j i y x w v B A hj e1 e e2 ev q o b hb)];exact eu
 refine⟨⟨λb u q=>?_,h.ex.z,λb u q=>?_,h.ex.new⟩,by simp[h.len],λj y q=>?_,λj k y z w u A' B' hjk e1 e2 e3 e4 o1 o2=>?_⟩
 ·rw[hH b λz=>by rw[p.h0 b z]at q;cases q];exact h.ex.same b u q
 ·rw[hH b λz=>by rw[p.z b z]at q;cases q];exact h.ex.sub b u q
 ·by_cases z:i=j
  ·subst z;rw[HL hl]at q;cases q;exact⟨v,A,ev,o',p⟩
  ·rw[HR z]at q;obtain⟨w,B,g1,g2,g3⟩:=h.sl j y q;exact⟨w,B,g1,up (Jd z) q g1 g2,g3⟩
 ·have one:∀ {j:Nat} {y:Sl} {w:V} {B:List Addr},(S.set i (some x'))[j]?=some (some y)->σ[j]?=some (some w)->Ow F H' Z y w B->∃ y0,S[j]?=some (some y0)/\Ow F H Z y0 w B:=λ{j y w B} g1 g2 g3=>by
   by_cases z:i=j
   ·subst z;rw[HL hl]at g1;cases g1;rw[ev]at g2;cases g2;rw[g3.det o'];exact⟨x,e,o⟩
   ·rw[HR z]at g1;obtain⟨w',B',k1,k2,_⟩:=h.sl j y g1;rw[g2]at k1;cases k1;rw[g3.det (up (Jd z) g1 g2 k2)];exact⟨y,g1,k2⟩
  obtain⟨y0,a1,a2⟩:=one e1 e3 o1;obtain⟨z0,b1,b2⟩:=one e2 e4 o2;exact h.dj j k y0 z0 w u A' B' hjk a1 b1 e3 e4 a2 b2
def StOk.write (h:StOk F H Z S σ){i:Nat}{ds es:List D}{a:Addr}(e:S[i]?=some (some (.own ds)))(ha:σ[i]?=some (some (.ref a)))(r:Reps F.K F.C Z es us) :
  StOk F (upd H a (.lst us)) Z (S.set i (some (.own es))) σ:=by
 obtain⟨a',vs,e1,e2,e3,e4,r0⟩:=h.own i ds e;rw[ha]at e1;cases e1;exact h.rewr e ha ⟨a,vs,rfl,rfl,e2,r0⟩ ⟨a,us,rfl,rfl,az,r⟩ λb hb=>aE λz=>hb (by rw[z];exact .head _)
def StOk.frzAllH {ρ:St}{d:D}(h:StOk F H Z S ρ){i:Nat}(e:S[i]?=some (some x))(ev:ρ[i]?=some (some v))(o:Ow F H Z x v A)(hH:∀ b,b∉A->H' b=H b)(hz:Same Z Z')(hsub:Same Z' H')(M2:∀ b,Z' b≠none->Z b≠none\/b∈A)(r:Rep F.K F.C Z' d v):StOk F H' Z' (S.set i (some (.val d))) ρ:=by
 have hl:=(HM.mp e).1;obtain⟨v',A',f1,q1,p⟩:=h.sl i x e;rw[ev]at f1;cases f1;cases o.det q1;have up:∀ {j:Nat} {y:Sl} {w:V} {B:List Addr},j≠i->S[j]?=some (some y)->ρ[j]?=some (some w)->Ow F H Z y w B->Ow F H' Z' y w B:=λ{j y w B} hj e1 e2 q=>q.mono hz λb hb u eu=>by
  rw[hH b (h.dj j i y x w v B A hj e1 e e2 ev q o b hb)];exact eu
 refine⟨⟨λb u q=>?_,h.ex.z.trans hz,hsub,λb q=>?_⟩,by simp[h.len],λj y q=>?_,λj k y z w u A' B' hjk e1 e2 e3 e4 o1 o2=>?_⟩
 ·rw[hH b λz=>by rw[p.h0 b z]at q;cases q];exact h.ex.same b u q
 ·rcases M2 b q with z | z
  ·exact h.ex.new b z
  ·exact .inr (p.h0 b z)
 ·by_cases z:i=j
  ·subst z;rw[HL hl]at q;cases q;exact⟨v,[],ev,⟨rfl,r⟩,Priv.nil⟩
  ·rw[HR z]at q;obtain⟨w,B,g1,g2,g3⟩:=h.sl j y q;refine⟨w,B,g1,up (Jd z) q g1 g2,g3.nd,λb hb=>?_,g3.h0⟩;cases qz:Z' b with
   | none=>rfl
   | some u =>
    rcases M2 b (by rw[qz];simp) with y1 | y1
    ·exact absurd (g3.z b hb) y1
    ·exact absurd y1 (h.dj j i _ _ _ _ _ _ (Jd z) q e g1 ev g2 o b hb)
 ·have one:∀ {j:Nat} {y:Sl} {w:V} {B:List Addr},(S.set i (some (.val d)))[j]?=some (some y)->ρ[j]?=some (some w)->Ow F H' Z' y w B->B=[]\/(j≠i/\S[j]?=some (some y)/\Ow F H Z y w B):=λ{j y w B} g1 g2 g3=>by
   by_cases z:i=j
   ·subst z;rw[HL hl]at g1;cases g1;exact .inl g3.1
   ·rw[HR z]at g1;obtain⟨w',B',k1,k2,_⟩:=h.sl j y g1;rw[g2]at k1;cases k1;rw[g3.det (up (Jd z) g1 g2 k2)];exact .inr ⟨Jd z,g1,k2⟩
  rcases one e1 e3 o1 with z1 | ⟨_,z1,z2⟩
  ·rw[z1];exact λa ha=>nomatch ha
  ·rcases one e2 e4 o2 with y1 | ⟨_,y1,y2⟩
   ·rw[y1];exact λa _ ha=>nomatch ha
   ·exact h.dj j k _ _ _ _ _ _ hjk z1 y1 e3 e4 z2 y2
def StOk.frzAll (h:StOk F H Z S σ){i:Nat}{d:D}(e:S[i]?=some (some x))(ev:σ[i]?=some (some v))(o:Ow F H Z x v A)(hz:Same Z Z')(hsub:Same Z' H)(M2:∀ b,Z' b≠none->Z b≠none\/b∈A)(r:Rep F.K F.C Z' d v):StOk F H Z' (S.set i (some (.val d))) σ:=h.frzAllH e ev o (λ_ _=>rfl) hz hsub M2 r
def StOk.freeze (h:StOk F H Z S σ){i:Nat}{ds:List D}(e:S[i]?=some (some (.own ds))):∃ Z',Same Z Z'/\StOk F H Z' (S.set i (some (.val (.lst ds)))) σ:=by
 obtain⟨a,vs,e1,e2,e3,e4,r⟩:=h.own i ds e;have hz:Same Z (upd Z a (.lst vs)):=aN e3;refine⟨upd Z a (.lst vs),hz,h.frzAll e e1 ⟨a,vs,rfl,rfl,e2,r⟩ hz (λb o q=>?_) (λb q=>?_) (by rw[Rep];exact⟨a,vs,rfl,SqL.of az,r.mono hz⟩)⟩
 ·by_cases y:b=a
  ·subst y;rw[az]at q;cases q;exact e2
  ·rw[aE y]at q;exact h.ex.sub b o q
 ·by_cases y:b=a
  ·exact .inr (by rw[y];exact .head _)
  ·rw[aE y]at q;exact .inl q
end
theorem Af {F G:Fx}{H Z:Hp}(hK:autoParam (G.K=F.K) YW)(hC:autoParam (G.C=F.C) YW):∀ {m:List (List D)} {rs:List Addr},Rows F H Z m rs->Rows G H Z m rs
 | [],[],_=>trivial
 | ds::m,r::rs,h=>by
  obtain⟨⟨vs,e,q⟩,h⟩:=h;exact⟨⟨vs,e,by rw[hK,hC];exact q⟩,Af hK hC h⟩
 | [],_::_,h=>h.elim
 | _::_,[],h=>h.elim
def PY {G:Fx}{x:Sl}{A:List Addr}(h:Ow F H Z x v A)(hK:autoParam (G.K=F.K) YW)(hC:autoParam (G.C=F.C) YW):Ow G H Z x v A:=by
 cases x with
 | val d=>exact⟨h.1,by rw[hK,hC];exact h.2⟩
 | own ds=>obtain⟨a,vs,e1,e2,e3,r⟩:=h;exact⟨a,vs,e1,e2,e3,by rw[hK,hC];exact r⟩
 | mat m=>obtain⟨a,rs,e1,e2,e3,r⟩:=h;exact⟨a,rs,e1,e2,e3,Af hK hC r⟩
 | dic m=>obtain⟨a,vs,e1,e2,e3,r⟩:=h;exact⟨a,vs,e1,e2,e3,r.1,by rw[hK,hC];exact r.2⟩
 | dit m=>obtain⟨a,vs,e1,e2,e3,r⟩:=h;exact⟨a,vs,e1,e2,e3,r.1,by rw[hK];exact r.2.1,by rw[hK,hC];exact r.2.2⟩
 | dir m=>obtain⟨a,vs,e1,e2,e3,r⟩:=h;exact⟨a,vs,e1,e2,e3,r.1,by rw[hK];exact r.2.1,by rw[hK,hC];exact r.2.2⟩
def WG {α:Type}(F:Fx)(H Z:Hp)(r:R α)(P:α->Hp->MU):Prop:=match r with
 | .ok a=>∀ H' Z',Ex H Z H' Z'->P a H' Z'
 | .err k=>∀ H',Same H H'->F.E (.ref (F.C k)) none H'
 | .stuck=>False
section
variable {α:Type}{H1:Hp}{r:R α}{P P':α->Hp->MU}
def WG.more (w:WG F H Z r P)(x:Ex H Z H1 Z1):WG F H1 Z1 r P:=by
 cases r with
 | ok a=>exact λH' Z' y=>w H' Z' (x.trans y)
 | err k=>exact λH' y=>w H' (x.same.trans y)
 | stuck=>exact w
def WG.now {a:α}(w:WG F H Z (.ok a) P)(s:Same Z H):P a H Z:=w H Z (Ex.refl s)
end
abbrev MM:=SS->R D
def tE (F:Fx)(g:MM):TE:=λσ H Q=>∃ Z S,StOk F H Z S σ/\WG F H Z (g S) λd H' Z'=>∀ v,Rep F.K F.C Z' d v->Q v H'
abbrev MR:=SS->R Bool
def tT (F:Fx)(g:MR):TT:=λσ H Q=>∃ Z S,StOk F H Z S σ/\WG F H Z (g S) λb H' _=>Q b H'
abbrev ML:=SS->R (List D)
def tAl (F:Fx)(g:ML):TA:=λσ H Q=>∃ Z S,StOk F H Z S σ/\WG F H Z (g S) λds H' Z'=>∀ vs,Reps F.K F.C Z' ds vs->Q vs H'
inductive O where
 | nx (S:SS) | rt (d:D) | er (k:Nat) | bk (S:SS) | ct (S:SS) | stuck
def WO (F:Fx)(Z:Hp)(o:O)(D:OV):Prop:=match o with
 | .nx S=>∀ σ H Z',Same Z Z'->StOk F H Z' S σ->D.nx σ H
 | .rt d=>∀ v H Z',Ex F.H0 F.Z0 H Z'->Rep F.K F.C Z' d v->D.rt v H
 | .er k=>∀ H,Same F.H0 H->F.E (.ref (F.C k)) none H
 | .bk S=>∀ σ H Z',Same Z Z'->StOk F H Z' S σ->D.bk σ H
 | .ct S=>∀ σ H Z',Same Z Z'->StOk F H Z' S σ->D.ct σ H
 | .stuck=>False
def WO.more {o:O}{D:OV}(w:WO F Z o D)(z:Same Z Z1):WO F Z1 o D:=by
 cases o with
 | nx S=>exact λσ H Z' q=>w σ H Z' (z.trans q)
 | rt d=>exact w
 | er k=>exact w
 | bk S=>exact λσ H Z' q=>w σ H Z' (z.trans q)
 | ct S=>exact λσ H Z' q=>w σ H Z' (z.trans q)
 | stuck=>exact w
def tS (F:Fx)(g:SS->O):TS:=λD σ H=>∃ Z S,StOk F H Z S σ/\WO F Z (g S) D
abbrev FE (X:Cx)(F:Fx)(e:Expr)(g:MM):Prop:=PE X e (tE F g)
abbrev FT (X:Cx)(F:Fx)(e:Expr)(g:MR):Prop:=PT X e (tT F g)
abbrev FW (X:Cx)(F:Fx)(e:Expr)(g:MR):Prop:=PW X e (tT F g)
abbrev FA (X:Cx)(F:Fx)(es:Nd)(g:ML):Prop:=PA X es (tAl F g)
abbrev FS (X:Cx)(F:Fx)(st:Stmt)(g:SS->O):Prop:=PS X st (tS F g)
def _root_.L2.PE.weak {e:Expr}{t t':TE}(h:PE X e t)(w:∀ σ H Q,t' σ H Q->t σ H Q):PE X e t':=λam s σ H Q I q=>h am s σ H Q I (w σ H Q q)
def _root_.L2.PT.weak {e:Expr}{t':TT}(h:PT X e t)(w:∀ σ H Q,t' σ H Q->t σ H Q):PT X e t':=λam s σ H Q I q=>h am s σ H Q I (w σ H Q q)
def _root_.L2.PW.weak {e:Expr}{t':TT}(h:PW X e t)(w:∀ σ H Q,t' σ H Q->t σ H Q):PW X e t':=λwh am s σ H Q I q=>h wh am s σ H Q I (w σ H Q q)
def _root_.L2.PA.weak {e:Nd}{t t':TA}(h:PA X e t)(w:∀ σ H Q,t' σ H Q->t σ H Q):PA X e t':=λp am s σ H Q I q=>h p am s σ H Q I (w σ H Q q)
def _root_.L2.PS.weak {e:Stmt}{t t':TS}(h:PS X e t)(w:∀ D σ H,t' D σ H->t D σ H):PS X e t':=λam s σ H D I q=>h am s σ H D I (w D σ H q)
def _root_.L2.PSs.weak {e:Nc}{t t':TS}(h:PSs X e t)(w:∀ D σ H,t' D σ H->t D σ H):PSs X e t':=λam s σ H D I q=>h am s σ H D I (w D σ H q)
section
def aM {α:Type}{g:MM}{k:D->R α}{P:α->Hp->MU}{Q:VK}(ok:StOk F H Z S σ)(w:WG F H Z ((g S).bind k) P)
  (h:∀ d v H1 Z1,StOk F H1 Z1 S σ->Ex H Z H1 Z1->Rep F.K F.C Z1 d v->WG F H1 Z1 (k d) P->Q v H1):tE F g σ H Q:=by
 refine⟨Z,S,ok,?_⟩;cases e:g S with
 | ok d =>
  rw[e]at w;intro H1 Z1 x v r;exact h d v H1 Z1 (ok.more x) x r (WG.more w x)
 | err k=>rw[e]at w;exact w
 | stuck=>rw[e]at w;exact w
def iD {α:Type}{g:MR}{k:Bool->R α}{P:α->Hp->MU}{Q:Bool->MU}(ok:StOk F H Z S σ)(w:WG F H Z ((g S).bind k) P)
  (h:∀ b H1 Z1,StOk F H1 Z1 S σ->Ex H Z H1 Z1->WG F H1 Z1 (k b) P->Q b H1):tT F g σ H Q:=by
 refine⟨Z,S,ok,?_⟩;cases e:g S with
 | ok d =>
  rw[e]at w;intro H1 Z1 x;exact h d H1 Z1 (ok.more x) x (WG.more w x)
 | err k=>rw[e]at w;exact w
 | stuck=>rw[e]at w;exact w
def a8 {α:Type}{g:ML}{k:List D->R α}{P:α->Hp->MU}{Q:List V->MU}(ok:StOk F H Z S σ)(w:WG F H Z ((g S).bind k) P)
  (h:∀ ds vs H1 Z1,StOk F H1 Z1 S σ->Ex H Z H1 Z1->Reps F.K F.C Z1 ds vs->WG F H1 Z1 (k ds) P->Q vs H1):tAl F g σ H Q:=by
 refine⟨Z,S,ok,?_⟩;cases e:g S with
 | ok d =>
  rw[e]at w;intro H1 Z1 x v r;exact h d v H1 Z1 (ok.more x) x r (WG.more w x)
 | err k=>rw[e]at w;exact w
 | stuck=>rw[e]at w;exact w
noncomputable def RQ (i:Nat):MM:=λS=>match S[i]? with
 | some (some (.val d))=>.ok d
 | _=>.stuck
noncomputable def eC (d:D):MM:=λ_=>.ok d
variable {e a:Expr}{g ga gb:MM}
def fZ {d:D}(h:PE X e (tC v))(r:∀ Z,Rep F.K F.C Z d v):FE X F e (eC d):=h.weak λσ H Q ⟨Z,S,ok,w⟩=>WG.now w ok.sub v (r Z)
def af {i j pos}:FE X F (.Constant (.int i) j pos) (eC (.int i)):=fZ Eb λ_=>by rw[Rep]
def fc {b j pos}:FE X F (.Constant (.bool b) j pos) (eC (.bl b)):=fZ Fo λ_=>by rw[Rep]
def jb {j pos}:FE X F (.Constant .none j pos) (eC .non):=fZ Ec λ_=>by rw[Rep]
def bO {x j pos}:FE X F (.Constant (.str x) j pos) (eC (.str x)):=fZ Ed λ_=>by rw[Rep]
def ac (i:Nat){x:Str}(hN:autoParam (X.N[i]?=some x) YW)(hv:autoParam (Vis X.env.scope x) Yq)(hd:autoParam (MA x) YQ)
  (M1:autoParam (MD x) YQ):FE X F (.Name x pos) (RQ i):=(fW hN hv hd M1).weak λσ H Q ⟨Z,S,ok,w⟩=>by
 unfold RQ at w;split at w
 ·rename_i d e;obtain⟨v,e1,r⟩:=ok.val i d e;exact⟨v,e1,WG.now w ok.sub v r⟩
 ·exact w.elim
end
abbrev MS:=D->D->R D
def OpD (F:Fx)(r:R2)(f:MS):Prop:=∀ (H Z:Hp) (x y:V) (dx dy:D) (Q:VK),Same Z H->Rep F.K F.C Z dx x->Rep F.K F.C Z dy y ->
 WG F H Z (f dx dy) (λd H' Z'=>∀ v,Rep F.K F.C Z' d v->Q v H')->r x y H Q
noncomputable def eOp (f:MS)(ga gb:MM):MM:=λS=>(ga S).bind λx=>(gb S).bind λy=>f x y
section
variable {e a:Expr}{ga gb gc:MM}{r:R2}{f:MS}
def qJ (hd:OpD F r f):∀ σ H Q,tE F (eOp f ga gb) σ H Q->tOp r (tE F ga) (tE F gb) σ H Q:=λσ H Q ⟨Z,S,ok,w⟩ =>
 aM ok w λdx x H1 Z1 ok1 x1 rx w1=>aM ok1 w1 λdy y H2 Z2 ok2 x2 ry w2=>hd H2 Z2 x y dx dy Q ok2.sub (rx.mono x2.z) ry w2
def sj {op:Operator}(ho:OpR X (binaryOp op) r)(hd:OpD F r f)(ha:FE X F a ga)(hb:FE X F b gb):FE X F (.BinOp a op b pos) (eOp f ga gb):=(Fs ho ha hb).weak (qJ hd)
def mT {op:CmpOp}(ho:OpR X (compareOp op) r)(hd:OpD F r f)(ha:FE X F a ga)(hb:FE X F b gb)(hm:behindInMarks op b=false:=by first | exact Qr _ | rfl):FE X F (.Compare a [op] [b] pos) (eOp f ga gb) :=
 (wy ho ha hb hm).weak (qJ hd)
def Fy (ho:IxR X r)(hd:OpD F r f)(ha:FE X F a ga)(hb:FE X F b gb)(hs:autoParam (OS b) Yz):FE X F (.Subscript a b pos) (eOp f ga gb):=(DX ho ha hb hs).weak (qJ hd)
noncomputable def asB (r:R D):R Bool:=r.bind λd=>match d with
 | .bl b=>.ok b
 | _=>.stuck
def gB (g:MM):MR:=λS=>asB (g S)
def wE {t:TE}{g:MM}(h:∀ σ H Q,tE F g σ H Q->t σ H Q):∀ σ H Q,tT F (gB g) σ H Q->Qe t σ H Q:=λσ H Q ⟨Z,S,ok,w⟩=>by
 refine h σ H _ (aM ok w λd v H1 Z1 ok1 x1 rv w1=>?_);cases d with
 | bl b=>rw[Rep]at rv;exact⟨b,rv,WG.now w1 ok1.sub⟩
 | _=>exact w1.elim
def aR {g:MM}(h:FE X F e g)(he:autoParam (∀ whole,isTrue e X.env whole=(do let v <- whole;standAt e.pos;holding [v] (truthy v))) YZ):FT X F e (gB g) :=
 (Ee h he).weak (wE λ_ _ _ q=>q)
def gU {op:CmpOp}(ho:OpR X (compareOp op) r)(hd:OpD F r f)(ha:FE X F a ga)(hb:FE X F b gb)(hm:behindInMarks op b=false:=by first | exact Qr _ | rfl):FT X F (.Compare a [op] [b] pos) (gB (eOp f ga gb)) :=
 (wz ho ha hb hm).weak (wE (qJ hd))
def SR (a b:MR):MR:=λS=>(a S).bind λc=>if c=true then b S else .ok false
def gOr (a b:MR):MR:=λS=>(a S).bind λc=>if c=true then .ok true else b S
def SQ (a:MR):MR:=λS=>(a S).bind λc=>.ok (!c)
def eIf (c:MR)(a b:MM):MM:=λS=>(c S).bind λt=>if t=true then a S else b S
variable {rest:Nd}{ta tb tc:MR}
def jG (h:FT X F a ta):FW X F (.BoolOp .And [a] pos) ta:=Cb h
def cC (h:FT X F a ta):FW X F (.BoolOp .Or [a] pos) ta:=Ef h
def kz (ha:FT X F a ta)(hb:FW X F (.BoolOp .And (b::rest) pos) tb):FW X F (.BoolOp .And (a::b::rest) pos) (SR ta tb) :=
 (Eg ha hb).weak λσ H Q ⟨Z,S,ok,w⟩=>iD ok w λd H1 Z1 ok1 x1 w1=>by
  cases d with
  | true=>exact⟨Z1,S,ok1,w1⟩
  | false=>exact WG.now w1 ok1.sub
def di (ha:FT X F a ta)(hb:FW X F (.BoolOp .Or (b::rest) pos) tb):FW X F (.BoolOp .Or (a::b::rest) pos) (gOr ta tb) :=
 (Fp ha hb).weak λσ H Q ⟨Z,S,ok,w⟩=>iD ok w λd H1 Z1 ok1 x1 w1=>by
  cases d with
  | true=>exact WG.now w1 ok1.sub
  | false=>exact⟨Z1,S,ok1,w1⟩
def N7 (h:FW X F e ta):FT X F e ta:=h.pt
def a7 (h:FT X F a ta):FT X F (.UnaryOp .Not a pos) (SQ ta) :=
 (Eh h).weak λσ H Q ⟨Z,S,ok,w⟩=>iD ok w λd H1 Z1 ok1 x1 w1=>WG.now w1 ok1.sub
def bZ {op}(h:FE X F a ga):FE X F (.BoolOp op [a] pos) ga:=Ei h
def SW (a b:MM):MM:=λS=>(asB (a S)).bind λc=>if c=true then b S else .ok (.bl false)
def eOr (a b:MM):MM:=λS=>(asB (a S)).bind λc=>if c=true then .ok (.bl true) else b S
def SU (a:MM):MM:=λS=>(asB (a S)).bind λc=>.ok (.bl (!c))
def vc {α:Type}{g:MM}{k:Bool->R α}{P:α->Hp->MU}{Q:VK}(ok:StOk F H Z S σ)(w:WG F H Z ((asB (g S)).bind k) P)
  (h:∀ c H1 Z1,StOk F H1 Z1 S σ->Ex H Z H1 Z1->WG F H1 Z1 (k c) P->Q (.bl c) H1):tE F g σ H Q:=by
 have e:(asB (g S)).bind k=(g S).bind λd=>(match d with | .bl b=>R.ok b | _=>R.stuck).bind k:=by
  unfold asB;cases g S<;>rfl
 rw[e]at w;refine aM ok w λd v H1 Z1 ok1 x1 rv w1=>?_
 cases d with
 | bl b=>rw[Rep]at rv;subst rv;exact h b H1 Z1 ok1 x1 w1
 | _=>exact w1.elim
def cf (ha:FE X F a ga)(hb:FE X F (.BoolOp .And (b::rest) pos) gb):FE X F (.BoolOp .And (a::b::rest) pos) (SW ga gb) :=
 (Ej ha hb).weak λσ H Q ⟨Z,S,ok,w⟩=>vc ok w λc H1 Z1 ok1 x1 w1=>⟨c,rfl,by
  cases c with
  | true=>exact⟨Z1,S,ok1,w1⟩
  | false=>exact WG.now w1 ok1.sub _ (by rw[Rep])⟩
def Ag (ha:FE X F a ga)(hb:FE X F (.BoolOp .Or (b::rest) pos) gb):FE X F (.BoolOp .Or (a::b::rest) pos) (eOr ga gb) :=
 (Fq ha hb).weak λσ H Q ⟨Z,S,ok,w⟩=>vc ok w λc H1 Z1 ok1 x1 w1=>⟨c,rfl,by
  cases c with
  | true=>exact WG.now w1 ok1.sub _ (by rw[Rep])
  | false=>exact⟨Z1,S,ok1,w1⟩⟩
def EF (ha:FE X F a ga):FE X F (.UnaryOp .Not a pos) (SU ga) :=
 (Ek ha).weak λσ H Q ⟨Z,S,ok,w⟩=>vc ok w λc H1 Z1 ok1 x1 w1=>⟨c,rfl,WG.now w1 ok1.sub _ (by rw[Rep])⟩
def Ah (hc:FT X F c tc)(ha:FE X F a ga)(hb:FE X F b gb):FE X F (.IfExp c a b pos) (eIf tc ga gb) :=
 (zQ hc ha hb).weak λσ H Q ⟨Z,S,ok,w⟩=>iD ok w λd H1 Z1 ok1 x1 w1=>by
  cases d with
  | true=>exact⟨Z1,S,ok1,w1⟩
  | false=>exact⟨Z1,S,ok1,w1⟩
noncomputable def RU:ML:=λ_=>.ok []
def PH (g:MM)(gs:ML):ML:=λS=>(g S).bind λd=>(gs S).bind λds=>.ok (d::ds)
def Qc (gs:ML):MM:=λS=>(gs S).bind λds=>if ds.length<=16777216 then .ok (.tup ds) else .stuck
def SV (gs:ML):MM:=λS=>(gs S).bind λds=>if ds.length<=16777216 then .ok (.lst ds) else .stuck
variable {es:Nd}{g:MM}{gs:ML}
def EG:FA X F [] RU:=u7.weak λσ H Q ⟨Z,S,ok,w⟩=>WG.now w ok.sub [] Reps.nil
def Cl (ha:FE X F e g)(hr:FA X F es gs)(hs:autoParam (Id X e es) YW):FA X F (e::es) (PH g gs) :=
 (mq ha hr hs).weak λσ H Q ⟨Z,S,ok,w⟩=>aM ok w λd v H1 Z1 ok1 x1 rv w1=>a8 ok1 w1 λds vs H2 Z2 ok2 x2 rs w2=>WG.now w2 ok2.sub _ (Reps.cons (rv.mono x2.z) rs)
def Ai {x1}(h:FA X F es gs):FE X F (.Tuple es x1 pos) (Qc gs) :=
 (Ew h).weak λσ H Q ⟨Z,S,ok,w⟩=>a8 ok w λds vs H1 Z1 ok1 x1 rs w1=>by
  split at w1
  ·rename_i hl;refine⟨by rw[<- rs.length,HV];exact hl,λp hp=>?_⟩;have z:Same Z1 (upd Z1 p (.tup vs)):=aN (ok1.sub.free hp);exact w1 _ _ (Ex.alloc ok1.sub hp) _ (by rw[Rep];exact⟨p,vs,rfl,SqT.of az,rs.mono z⟩)
  ·exact w1.elim
def EH (h:FA X F es gs):FE X F (.List es pos) (SV gs) :=
 (zX h).weak λσ H Q ⟨Z,S,ok,w⟩=>a8 ok w λds vs H1 Z1 ok1 x1 rs w1=>by
  split at w1
  ·rename_i hl;refine⟨by rw[<- rs.length,HV];exact hl,λp hp=>?_⟩;have z:Same Z1 (upd Z1 p (.lst vs)):=aN (ok1.sub.free hp);exact w1 _ _ (Ex.alloc ok1.sub hp) _ (by rw[Rep];exact⟨p,vs,rfl,SqL.of az,rs.mono z⟩)
  ·exact w1.elim
end
noncomputable def rO (r:R O):O:=match r with
 | .ok o=>o
 | .err k=>.er k
 | .stuck=>.stuck
def R6 (g:MM):SS->O:=λS=>rO ((g S).bind λ_=>.ok (.nx S))
def Qv (g:MM):SS->O:=λS=>rO ((g S).bind λd=>.ok (.rt d))
def Pi (i:Nat)(g:MM):SS->O:=λS=>rO ((g S).bind λd=>.ok (.nx (S.set i (some (.val d)))))
section
variable {st:Stmt}{rest:Nc}{e:Expr}{g:MM}{gt:MR}{ga gb:SS->O}
def WO.wg {D:OV}{r:R O}(ok:StOk F H Z S σ)(w:WO F Z (rO r) D):WG F H Z r λo _ Z'=>WO F Z' o D:=by
 cases r with
 | ok o=>exact λ_ _ x=>WO.more w x.z
 | err k=>exact λH' s=>w H' (ok.ex.same.trans s)
 | stuck=>exact w
def iE (h:FE X F e g)(hs:autoParam (swapsWith e none pos.line X.env=pure false) YW):FS X F (.Expr e pos) (R6 g) :=
 (qB h hs).weak λD σ H ⟨Z,S,ok,w⟩=>aM ok (WO.wg ok w) λd v H1 Z1 ok1 x1 rv w1=>WG.now w1 ok1.sub σ H1 Z1 (Same.refl _) ok1
def aj (h:FE X F e g):FS X F (.Return (some e) pos) (Qv g) :=
 (El h).weak λD σ H ⟨Z,S,ok,w⟩=>aM ok (WO.wg ok w) λd v H1 Z1 ok1 x1 rv w1=>WG.now w1 ok1.sub v H1 Z1 ok1.ex rv
def ay (i:Nat){x:Str}{pos':Pos}(hN:X.N.Nodup)(h:FE X F e g)(hi:autoParam (X.N[i]?=some x) YW)(hx:autoParam (Loc X.env.scope x) Yy)
  (hs:autoParam (swapsWith e (some (.Name x pos')) pos.line X.env=pure false) YW) (hf:autoParam (MC X x) Yw):FS X F (.Assign [.Name x pos'] e pos) (Pi i g) :=
 (qE hN hi hx h hs hf).weak λD σ H ⟨Z,S,ok,w⟩=>aM ok (WO.wg ok w) λd v H1 Z1 ok1 x1 rv w1=>WG.now w1 ok1.sub _ _ _ (Same.refl _) (ok1.setVal rv)
end
def OpD.or {r r':R2}{f f':MS}(p:D->D->Bool)(h:OpD F r f)(h':OpD F r' f'):OpD F (λx y H Q=>r x y H Q\/r' x y H Q) (λx y=>if p x y=true then f x y else f' x y):=by
 intro H Z x y dx dy Q s rx ry w;by_cases e:p dx dy=true
 ·dsimp only at w;rw[if_pos e]at w;exact .inl (h H Z x y dx dy Q s rx ry w)
 ·dsimp only at w;rw[if_neg e]at w;exact .inr (h' H Z x y dx dy Q s rx ry w)
noncomputable def dI (c:Int->Int->Bool)(g:Int->Int->D):MS
 | .int i,.int j=>if c i j=true then .ok (g i j) else .stuck
 | _,_=>.stuck
noncomputable def dI0 (g:Int->Int->D):MS
 | .int i,.int j=>.ok (g i j)
 | _,_=>.stuck
def Aj {C:Int->Int->Prop}{c:Int->Int->Bool}{g':Int->Int->D}(hc:∀ i j,c i j=true->C i j)(hg:∀ i j Z,Rep F.K F.C Z (g' i j) (g i j)):OpD F (rI C g) (dI c g'):=by
 intro H Z x y dx dy Q s rx ry w;cases dx with
 | int i =>
  cases dy with
  | int j =>
   rw[Rep]at rx;rw[Rep]at ry;subst rx;subst ry;unfold dI at w
   dsimp only at w
   split at w
   ·rename_i q;exact⟨i,j,rfl,rfl,hc i j q,WG.now w s _ (hg i j Z)⟩
   ·exact w.elim
  | _=>exact w.elim
 | _=>exact w.elim
def cD {g':Int->Int->D}(hg:∀ i j Z,Rep F.K F.C Z (g' i j) (g i j)):OpD F (rI0 g) (dI0 g'):=by
 intro H Z x y dx dy Q s rx ry w;cases dx with
 | int i =>
  cases dy with
  | int j =>
   rw[Rep]at rx;rw[Rep]at ry;subst rx;subst ry;exact⟨i,j,rfl,rfl,WG.now w s _ (hg i j Z)⟩
  | _=>exact w.elim
 | _=>exact w.elim
noncomputable def P2 (i j:Int):Bool:=(decide (-(2^64) < i)&&decide (i < 2^64))||(decide (-(2^64) < j)&&decide (j < 2^64))
noncomputable def P3 (i j:Int):Bool:=decide (0 < j)&&decide (j < 1073741824)
def Cm (i j:Int)(h:P2 i j=true):CMul i j:=by
 unfold P2 at h;simp only[JM,HD,HH]at h;exact h
def Co (i j:Int)(h:P3 i j=true):CDiv i j:=by
 unfold P3 at h;simp only[HD,HH]at h;exact h
noncomputable def isInt:D->Bool
 | .int _=>true
 | _=>false
noncomputable def Nx:D->Bool
 | .tup _=>true
 | _=>false
noncomputable def Q5:D->Bool
 | .lst _=>true
 | _=>false
noncomputable def Qn:MS
 | .tup xs,.tup ys=>if xs.length+ys.length<=16777216 then .ok (.tup (xs++ys)) else .stuck
 | _,_=>.stuck
noncomputable def Qo:MS
 | .lst xs,.lst ys=>if xs.length+ys.length<=16777216 then .ok (.lst (xs++ys)) else .stuck
 | _,_=>.stuck
noncomputable def Ql:MS
 | .tup xs,.int k=>if 0<=k/\k < 1000000/\xs.length*k.toNat<=16777216 then .ok (.tup (List.replicate k.toNat xs).flatten) else .stuck
 | _,_=>.stuck
noncomputable def Qm:MS
 | .lst xs,.int k=>if 0<=k/\k < 1000000/\xs.length*k.toNat<=16777216 then .ok (.lst (List.replicate k.toNat xs).flatten) else .stuck
 | _,_=>.stuck
noncomputable def dIx:MS
 | .tup xs,.int i=>match atI xs i with
  | some d=>.ok d
  | none=>.stuck
 | .lst xs,.int i=>match atI xs i with
  | some d=>.ok d
  | none=>.stuck
 | _,_=>.stuck
def Reps.at {ds:List D}{i:Int}{d:D}(r:Reps K C Z ds vs)(h:atI ds i=some d):∃ v,atI vs i=some v/\Rep K C Z d v:=by
 unfold atI at h ⊢;rw[<- r.length];cases e:ixN ds.length i with
 | none=>rw[e]at h;cases h
 | some j =>
  rw[e]at h;exact r.get h
def EI :OpD F (rIx F.K) dIx:=by
 intro H Z x y dx dy Q s rx ry w;cases dx with
 | tup ds =>
  cases dy with
  | int i =>
   rw[Rep]at rx;rw[Rep]at ry;obtain⟨a,vs,rfl,h1,h2⟩:=rx;subst ry;unfold dIx at w
   dsimp only at w
   split at w
   ·rename_i d e;obtain⟨v,e1,r⟩:=h2.at e;exact .inr (.inl ⟨a,vs,i,v,rfl,rfl,h1.mono s,e1,WG.now w s v r⟩)
   ·exact w.elim
  | _=>exact w.elim
 | lst ds =>
  cases dy with
  | int i =>
   rw[Rep]at rx;rw[Rep]at ry;obtain⟨a,vs,rfl,h1,h2⟩:=rx;subst ry;unfold dIx at w
   dsimp only at w
   split at w
   ·rename_i d e;obtain⟨v,e1,r⟩:=h2.at e;exact .inl ⟨a,vs,i,v,rfl,rfl,s.seq h1,e1,WG.now w s v r⟩
   ·exact w.elim
  | _=>exact w.elim
 | _=>exact w.elim
section
open AutoSeq1 (wpAny_loadPart')
def sk (l b:Addr)(IF LE:Array Value)(n n2:Nat)(dd dd2:Option Addr)(sl sl2:Array (Na))(hc0:IF.isEmpty=true) :
  Meets (Builtin.«tuple.__add__» ⟨[.ref l,.ref b],[]⟩) (λ_ R s=>s.heap.get? l=some { cls:=.type "tuple",dict:=dd,data:=.seq IF n,slots:=sl }/\s.heap.get? b=some { cls:=.type "tuple",dict:=dd2,data:=.seq LE n2,slots:=sl2 }/\R (.ok (.ret (.ref b))) s) :=
 .of_wp λprog w A R s h=>by
  obtain⟨hp,g,d,tk,os⟩:=s;obtain⟨hl,hb,h⟩:=h;have f2:=Ic;have f3:=IW
  wp_walk using wpAny_loadPart' hl,wpAny_loadPart' hb
  exact⟨_,rfl,h⟩
end
theorem jH {K:Frag}{C:MN}{Z:Hp}{ds:List D}{vs:List V}(r:Reps K C Z ds vs):∀ k:Nat,Reps K C Z (List.replicate k ds).flatten (List.replicate k vs).flatten
 | 0=>Reps.nil
 | k+1=>by
  rw[IU,IU,HY,HY];exact r.append (jH r k)
def Qh (K:Frag):R2:=λx y H Q=>∃ a b xs ys,x=.ref a/\y=.ref b/\SqT K H a xs/\SqT K H b ys/\xs.length+ys.length<=sizeLine/\(∀ p,H p=none->Q (.ref p) (upd H p (.tup (xs++ys))))/\(ys=[]->Q (.ref a) H)/\(xs=[]->Q (.ref b) H)
def Cp :OpR X (binaryOp .Add) (Qh X.K):=by
 intro am s σ H x y v u Q I rx ry h;obtain⟨a,b,xs,ys,rfl,rfl,ha,hb,hz,q1,q2,q3⟩:=h;by_cases hx:xs=[]
 ·cases rx;cases ry;obtain⟨its,r1,p1,_⟩:=I.tuple ha;obtain⟨Ms,r2,p2,_⟩:=I.tuple hb;obtain⟨⟨cls,dd,data,sl⟩,ho,hc,n,hd⟩:=id p1;obtain⟨⟨cls2,dd2,data2,sl2⟩,ho2,hc2,n2,hd2⟩:=id p2;simp only at hc hd hc2 hd2;subst hc hd hc2 hd2;have he:its=[]:=by
   have:=r1.length;rw[hx]at this;exact Ii.mp this.symm
  exact Lo ⟨_,ho,rfl⟩ ⟨_,ho2,rfl⟩ Lp Mb Kv Kl (Ki _ _)
   (sk a b its.toArray Ms.toArray n n2 dd dd2 sl sl2 (by simp[he])) ⟨ho,ho2,⟨.ref b,H,I,rfl,q3 hx⟩⟩
 ·exact Ci am s σ H _ _ v u Q I rx ry ⟨a,b,xs,ys,rfl,rfl,ha,hb,hx,hz,q2,λ_=>q1⟩
def Ak :OpD F (Qh F.K) Qn:=by
 intro H Z x y dx dy Q s rx ry w;cases dx with
 | tup ds =>
  cases dy with
  | tup es =>
   rw[Rep]at rx;rw[Rep]at ry;obtain⟨a,vs,rfl,h1,h2⟩:=rx;obtain⟨b,us,rfl,k1,k2⟩:=ry;unfold Qn at w
   dsimp only at w
   split at w
   ·rename_i hl;refine⟨a,b,vs,us,rfl,rfl,h1.mono s,k1.mono s,by rw[<- h2.length,<- k2.length,HV];exact hl,λp hp=>?_,λe=>?_,λe=>?_⟩
    ·have z:Same Z (upd Z p (.tup (vs++us))):=aN (s.free hp);exact w _ _ (Ex.alloc s hp) _ (by rw[Rep];exact⟨p,_,rfl,SqT.of az,(h2.append k2).mono z⟩)
    ·have:es=[]:=Ii.mp (by rw[k2.length,e];rfl);subst this;exact WG.now w s _ (by rw[IH,Rep];exact⟨a,vs,rfl,h1,h2⟩)
    ·have:ds=[]:=Ii.mp (by rw[h2.length,e];rfl);subst this;exact WG.now w s _ (by rw[Ij,Rep];exact⟨b,us,rfl,k1,k2⟩)
   ·exact w.elim
  | _=>exact w.elim
 | _=>exact w.elim
def Q0 (K:Frag):R2:=λx y H Q=>∃ a k xs,x=.ref a/\y=.int k/\SqT K H a xs/\0<=k/\k < 1000000/\xs.length*k.toNat<=sizeLine/\(∀ p,H p=none->Q (.ref p) (upd H p (.tup (List.replicate k.toNat xs).flatten)))/\((List.replicate k.toNat xs).flatten=xs->Q (.ref a) H)
def Cq :OpR X (binaryOp .Mult) (Q0 X.K):=by
 intro am s σ H x y v u Q I rx ry h;obtain⟨a,k,xs,rfl,rfl,ha,h0,h1,hz,q1,q2⟩:=h;cases rx;obtain⟨t,rfl⟩:=ry;obtain⟨its,r,p1,_⟩:=I.tuple ha;have hl:=r.length;obtain⟨⟨cls,dd,data,sl⟩,ho,hc,n,hd⟩:=id p1;simp only at hc hd;subst hc hd;refine Ll (by decide) ⟨_,ho,rfl⟩ (λs'=>Lj s' k t) ky LV JZ qI LM.lookup
  (II JZ (Lj s k t) LN (LB _ _) (mQ k t a its.toArray n dd sl) ⟨ho,rfl,⟨_,ho,rfl⟩,?_⟩)
 cases its with
 | nil =>
  have hx:xs=[]:=Ii.mp hl;have e:(List.replicate k.toNat xs).flatten=xs:=by rw[hx];simp
  exact II JS ⟨_,ho,rfl⟩ JJ (JC _ _) (oN a n k t dd sl h0 h1) ⟨ho,⟨.ref a,H,I,rfl,q2 e⟩⟩
 | cons it Mx =>
  have hne:(it::Mx).toArray.isEmpty=false:=by simp
  by_cases k1:k=1
  ·subst k1;have e:(List.replicate (1:Int).toNat xs).flatten=xs:=by simp
   exact II JS ⟨_,ho,rfl⟩ JJ (JC _ _) (oM a _ n t dd sl) ⟨ho,⟨.ref a,H,I,rfl,q2 e⟩⟩
  ·by_cases k0:k=0
   ·subst k0;refine II JS ⟨_,ho,rfl⟩ JJ (JC _ _) (mR a _ n t dd sl hne) ⟨ho,?_⟩;refine⟨.ref s.zz,_,I.laid (λb ob q=>Hn _ q) (Hr _) ?_,rfl,q1 _ (I.hok.fresh (Hr _))⟩;exact⟨IA _,[],.nil,TupO.new _ _⟩
   ·refine II JS ⟨_,ho,rfl⟩ JJ (JC _ _) (oK a _ n k t dd sl (by omega) h1 (by rw[Hs,<- hl];exact hz) hne) ⟨ho,?_⟩;have ef:=kx (it::Mx) k.toNat [];rw[Ij]at ef;have ef':=ef;rw[ef'];refine⟨.ref s.zz,_,I.laid (λb ob q=>Hn _ q) (Hr _) ?_,rfl,q1 _ (I.hok.fresh (Hr _))⟩;exact⟨by rw[wD,JY];exact hz,_,r.rep k.toNat,TupO.new _ _⟩
def Al :OpD F (Q0 F.K) Ql:=by
 intro H Z x y dx dy Q s rx ry w;cases dx with
 | tup ds =>
  cases dy with
  | int k =>
   rw[Rep]at rx;rw[Rep]at ry;obtain⟨a,vs,rfl,h1,h2⟩:=rx;subst ry;unfold Ql at w
   dsimp only at w
   split at w
   ·rename_i hk;refine⟨a,k,vs,rfl,rfl,h1.mono s,hk.1,hk.2.1,by rw[<- h2.length,HV];exact hk.2.2,λp hp=>?_,λe=>?_⟩
    ·have z:Same Z (upd Z p (.tup (List.replicate k.toNat vs).flatten)):=aN (s.free hp);exact w _ _ (Ex.alloc s hp) _ (by rw[Rep];exact⟨p,_,rfl,SqT.of az,(jH h2 k.toNat).mono z⟩)
    ·refine WG.now w s _ ?_;rw[Rep];exact⟨a,vs,rfl,h1,by have:=jH h2 k.toNat;rw[e]at this;exact this⟩
   ·exact w.elim
  | _=>exact w.elim
 | _=>exact w.elim
def Am :OpD F (λx y H Q=>∃ a b xs ys,x=.ref a/\y=.ref b/\SqL F.K H a xs/\SqL F.K H b ys/\xs.length+ys.length<=sizeLine/\∀ p,H p=none->Q (.ref p) (upd H p (.lst (xs++ys)))) Qo:=by
 intro H Z x y dx dy Q s rx ry w;cases dx with
 | lst ds =>
  cases dy with
  | lst es =>
   rw[Rep]at rx;rw[Rep]at ry;obtain⟨a,vs,rfl,h1,h2⟩:=rx;obtain⟨b,us,rfl,k1,k2⟩:=ry;unfold Qo at w
   dsimp only at w
   split at w
   ·rename_i hl;refine⟨a,b,vs,us,rfl,rfl,s.seq h1,s.seq k1,by rw[<- h2.length,<- k2.length,HV];exact hl,λp hp=>?_⟩;have z:Same Z (upd Z p (.lst (vs++us))):=aN (s.free hp);exact w _ _ (Ex.alloc s hp) _ (by rw[Rep];exact⟨p,_,rfl,SqL.of az,(h2.append k2).mono z⟩)
   ·exact w.elim
  | _=>exact w.elim
 | _=>exact w.elim
def An :OpR X (binaryOp .Add) (λx y H Q=>∃ a b xs ys,x=.ref a/\y=.ref b/\SqL X.K H a xs/\SqL X.K H b ys/\xs.length+ys.length<=sizeLine/\∀ p,H p=none->Q (.ref p) (upd H p (.lst (xs++ys)))):=by
 intro am s σ H x y v u Q I rx ry h;obtain⟨a,b,xs,ys,rfl,rfl,ha,hb,hz,q⟩:=h;cases rx;cases ry;obtain⟨its,r,⟨o,n,e,c1,c2,c3⟩,_⟩:=I.list ha;obtain⟨Ms,r2,⟨o2,n2,e2,d1,d2,d3⟩,_⟩:=I.list hb;have l1:=r.length;have l2:=r2.length;obtain⟨cls,dd,data,sl⟩:=o;obtain⟨cls2,dd2,data2,sl2⟩:=o2;simp only at c1 c3 d1 d3;subst c1 c3 d1 d3;refine Lo ⟨_,e,rfl⟩ ⟨_,e2,rfl⟩ noFill_list_add seq_list_add PySem.F.slot_list_add PySem.F.entry_list_add (PySem.F.args_list_add_2 _ _) (xU a b its.toArray Ms.toArray n n2 dd dd2 sl sl2 (by rw[Hs,Hs];omega)) ⟨e,e2,?_⟩;have ea:its.toArray++Ms.toArray=(its++Ms).toArray:=by simp
 rw[ea];exact⟨.ref _,_,I.lnew (r.append r2) (by rw[HJ];omega),rfl,q _ I.fresh⟩
def Q1 (K:Frag):R2:=λx y H Q=>∃ a k xs,x=.ref a/\y=.int k/\SqL K H a xs/\0<=k/\k < 1000000/\xs.length*k.toNat<=sizeLine/\∀ p,H p=none->Q (.ref p) (upd H p (.lst (List.replicate k.toNat xs).flatten))
def Cr :OpR X (binaryOp .Mult) (Q1 X.K):=by
 intro am s σ H x y v u Q I rx ry h;obtain⟨a,k,xs,rfl,rfl,ha,h0,h1,hz,q⟩:=h;cases rx;obtain⟨t,rfl⟩:=ry;obtain⟨its,r,⟨o,n,e,c1,c2,c3⟩,_⟩:=I.list ha;have hl:=r.length;obtain⟨cls,dd,data,sl⟩:=o;simp only at c1 c3;subst c1 c3;refine Ll (by decide) ⟨_,e,rfl⟩ (λs'=>Lj s' k t) noFill_list_mul LV JZ repeat_list LM.lookup
  (II JZ (Lj s k t) LN (LB _ _) (oO k t a its.toArray n dd sl) ⟨e,rfl,⟨_,e,rfl⟩,
   II PySem.F.slot_list_mul ⟨_,e,rfl⟩ PySem.F.entry_list_mul (PySem.F.args_list_mul_2 _ _) (xV a its.toArray n k t dd sl (by omega) (by omega) (by rw[Hs,<- hl];exact hz)) ⟨e,?_⟩⟩)
 have M2:List.foldl (λx1 x2=>x1++x2) #[] (List.replicate (if its.toArray.isEmpty=true then 0 else k.toNat) its.toArray)=(List.replicate k.toNat its).flatten.toArray:=by
  have f0:=λm=>by
   have:=kx its m []
   rwa [Ij]at this
  rw[f0];cases its with
  | nil=>simp
  | cons a r'=>rw[if_neg (by simp)]
 rw[M2];exact⟨.ref _,_,I.lnew (r.rep k.toNat) (by rw[wD,JY];exact hz),rfl,q _ I.fresh⟩
def Ao :OpD F (Q1 F.K) Qm:=by
 intro H Z x y dx dy Q s rx ry w;cases dx with
 | lst ds =>
  cases dy with
  | int k =>
   rw[Rep]at rx;rw[Rep]at ry;obtain⟨a,vs,rfl,h1,h2⟩:=rx;subst ry;unfold Qm at w
   dsimp only at w
   split at w
   ·rename_i hk;refine⟨a,k,vs,rfl,rfl,s.seq h1,hk.1,hk.2.1,by rw[<- h2.length,HV];exact hk.2.2,λp hp=>?_⟩;have z:Same Z (upd Z p (.lst (List.replicate k.toNat vs).flatten)):=aN (s.free hp);exact w _ _ (Ex.alloc s hp) _ (by rw[Rep];exact⟨p,_,rfl,SqL.of az,(jH h2 k.toNat).mono z⟩)
   ·exact w.elim
  | _=>exact w.elim
 | _=>exact w.elim
mutual
noncomputable def eqD:D->D->Bool
 | .non,.non=>true
 | .bl a,.bl b=>a==b
 | .bl a,.int b=>(if a then 1 else 0)==b
 | .int a,.bl b=>a==(if b then 1 else 0)
 | .int a,.int b=>a==b
 | .str a,.str b=>a==b
 | .tup xs,.tup ys=>NO xs ys
 | .lst xs,.lst ys=>NO xs ys
 | _,_=>false
noncomputable def NO:List D->List D->Bool
 | [],[]=>true
 | x::xs,y::ys=>eqD x y&&NO xs ys
 | _,_=>false
end
mutual
noncomputable def good:Nat->D->Bool
 | _,.exc _=>false
 | _,.fn _=>false
 | _,.tab _ _=>false
 | _,.dic _ _=>false
 | _,.ptr _=>false
 | 0,.tup _=>false
 | 0,.lst _=>false
 | n+1,.tup xs=>MH n xs
 | n+1,.lst xs=>MH n xs
 | _,_=>true
noncomputable def MH:Nat->List D->Bool
 | _,[]=>true
 | n,x::xs=>good n x&&MH n xs
end
noncomputable def NW (names:List (Str×NameKind))(env:Env):List (Str×NameKind) :=
 names.map λ(n,k)=>if (k==.free&&env.scope.kind==.function&&env.kindOf n==some .cell) then (n,.cell) else (n,k)
theorem mU {env:Env}:∀ {names:List (Str×NameKind)} {x:Str},names.lookup x=some .free->(NW names env).lookup x=some .cell\/(NW names env).lookup x=some .free
 | [],_,h=>by simp at h
 | (n,k)::r,x,h=>by
  have ih:=@mU env r x;show List.lookup x ((if (k==NameKind.free&&env.scope.kind==.function&&env.kindOf n==some .cell)=true then (n,NameKind.cell) else (n,k))::NW r env)=_\/List.lookup x ((if (k==NameKind.free&&env.scope.kind==.function&&env.kindOf n==some .cell)=true then (n,NameKind.cell) else (n,k))::NW r env)=_;cases hx:x==n with
  | true =>
   simp only[IK,hx]at h;cases h;split
   ·exact .inl (by simp[IK,hx])
   ·exact .inr (by simp[IK,hx])
  | false =>
   simp only[IK,hx]at h;split<;>(simp only[IK,hx];exact ih h)
theorem mV {env:Env}:∀ {names:List (Str×NameKind)} {x:Str},((NW names env).lookup x=some .cell\/(NW names env).lookup x=some .free)->∃ y∈names,y.1=x/\(y.2=.free\/y.2=.cell)
 | [],_,h=>by simp[NW]at h
 | (n,k)::r,x,h=>by
  have ih:=@mV env r x
  change List.lookup x ((if (k==NameKind.free&&env.scope.kind==.function&&env.kindOf n==some .cell)=true then (n,NameKind.cell) else (n,k))::NW r env)=_\/List.lookup x ((if (k==NameKind.free&&env.scope.kind==.function&&env.kindOf n==some .cell)=true then (n,NameKind.cell) else (n,k))::NW r env)=_ at h
  cases hx:x==n with
  | true =>
   have e:x=n:=eq_of_beq hx;refine⟨(n,k),Ih,e.symm,?_⟩;by_cases hq:(k==NameKind.free&&env.scope.kind==.function&&env.kindOf n==some .cell)=true
   ·simp only[HD,Lk]at hq;exact .inl hq.1.1
   ·rw[if_neg hq]at h;simp only[IK,hx]at h;rcases h with h | h
    ·cases h;exact .inr rfl
    ·cases h;exact .inl rfl
  | false =>
   have h':(NW r env).lookup x=some .cell\/(NW r env).lookup x=some .free:=by
    by_cases hq:(k==NameKind.free&&env.scope.kind==.function&&env.kindOf n==some .cell)=true
    ·rw[if_pos hq]at h;simpa only[IK,hx] using h
    ·rw[if_neg hq]at h;simpa only[IK,hx] using h
   obtain⟨y,hy,e⟩:=ih h';exact⟨y,Il _ hy,e⟩
theorem bP:∀ (names:List (Str×NameKind)) (n:Nat) (L0:List (Str×Addr)),cellsFrom n names L0=cellsFrom n names []++L0
 | [],_,_=>rfl
 | (name,kind)::r,n,L0=>by
  unfold cellsFrom;split
  ·rw[bP r (n+1) ((name,n)::L0),bP r (n+1) [(name,n)],Iu];rfl
  ·exact bP r n L0
theorem kA:∀ (names:List (Str×NameKind)) (n:Nat) {x:Str} {c:Addr},(x,c)∈cellsFrom n names []->(x,NameKind.cell)∈names
 | [],_,_,_,h=>nomatch h
 | (name,kind)::r,n,x,c,h=>by
  unfold cellsFrom at h;split at h
  ·rename_i hk;rw[bP]at h;rcases HI.mp h with h | h
   ·exact Il _ (kA r _ h)
   ·rw[HE]at h;cases h;rw[eq_of_beq hk];exact Ih
  ·exact Il _ (kA r _ h)
theorem kB:∀ (names:List (Str×NameKind)) (n:Nat) {x:Str},(x,NameKind.cell)∈names->∃ c,(cellsFrom n names []).lookup x=some c
 | [],_,_,h=>nomatch h
 | (name,kind)::r,n,x,h=>by
  by_cases hr:(x,NameKind.cell)∈r
  ·unfold cellsFrom;split
   ·obtain⟨c,hc⟩:=kB r (n+1) hr;rw[bP,K2,hc];exact⟨c,rfl⟩
   ·exact kB r n hr
  ·rcases Ho.mp h with e | e
   ·cases e;unfold cellsFrom;rw[if_pos (by rfl),bP,K2];cases (cellsFrom (n+1) r []).lookup name with
    | some c=>exact⟨c,rfl⟩
    | none=>exact⟨n,by simp[IK]⟩
   ·exact absurd e hr
structure Qu (scope:Scope)(cl cl2:List (Str×Addr))(C:Addr)(h:Heap):Prop where
 old:∀ n c,cl2.lookup n=some c->(cl.lookup n=some c/\(n,NameKind.cell)∉scope.names)\/(C < c/\h.IsCell c none/\(n,NameKind.cell)∈scope.names)
 keep:∀ n,(n,NameKind.cell)∉scope.names->cl2.lookup n=cl.lookup n
 mine:∀ n,(n,NameKind.cell)∈scope.names->∃ c,cl2.lookup n=some c
 inj:∀ x y c,C < c->cl2.lookup x=some c->cl2.lookup y=some c->(x,NameKind.cell)∈scope.names->(y,NameKind.cell)∈scope.names->x=y
section
variable {E:MJ}{s:Shared}
def qK {globals:Addr}{env:Env}{Q:Env->MT}
  (hQ:∀ h' cl2,h'.Ns s.zz (λ_=>none)->(∀ b o,s.heap.get? b=some o->h'.get? b=some o)->Qu scope cl cl2 s.zz h'->Q (newEnv scope s.zz globals cl2 qual none .none (some env) builtinsNs) { s with heap:=h' }) :
  wpAny M A (newFunctionEnv scope globals cl [] qual none .none (some env)) Q E s:=by
 simp only[newFunctionEnv,Option.isSome_some,Hx];refine Hk (wpAny_alloc ?_);refine Hk (wpAny_layCells _ (λname kind cells=>by cases hkc:kind==NameKind.cell<;>simp[hkc]) _ _ _ _ ?_);have ok:=cellsFrom_ok scope.names (s.heap.push { cls:=.type "dict",data:=.dict #[] }) (s.zz+1) [] ⟨λ_ _ hm=>(nomatch hm),La⟩ (by simp);rw[JB]at ok;rw[show ({ s with heap:=s.heap.push { cls:=.type "dict",data:=.dict #[] } }:Shared).heap.objs.size=s.zz+1 from JB ..]
 simp
 refine Hk (Hw (Hw ?_));refine hQ _ _ ((Heap.Ns.new s.heap (.type "dict")).keeps (pushCells_keeps _ _)) (λb o e=>pushCells_keeps _ _ b o (Hn _ e)) ?_;have look:∀ n,(cellsFrom (s.zz+1) scope.names cl).lookup n=((cellsFrom (s.zz+1) scope.names []).lookup n).or (cl.lookup n):=λn=>by rw[bP,K2]
 have no:∀ n,(n,NameKind.cell)∉scope.names->(cellsFrom (s.zz+1) scope.names []).lookup n=none:=λn hn=>by
  cases e:(cellsFrom (s.zz+1) scope.names []).lookup n with
  | none=>rfl
  | some c=>exact absurd (kA _ _ (Iq e)) hn
 have keep:∀ n,(n,NameKind.cell)∉scope.names->(cellsFrom (s.zz+1) scope.names cl).lookup n=cl.lookup n:=λn hn=>by rw[look,no n hn];rfl
 have new:∀ n,(n,NameKind.cell)∈scope.names->∃ c,(cellsFrom (s.zz+1) scope.names []).lookup n=some c/\(cellsFrom (s.zz+1) scope.names cl).lookup n=some c:=λn hn=>by
  obtain⟨c,hc⟩:=kB scope.names (s.zz+1) hn
  grind
 refine⟨λn c e=>?_,keep,λn hn=>?_,λx y c _ ex ey hx hy=>?_⟩
 ·by_cases hn:(n,NameKind.cell)∈scope.names
  ·obtain⟨c',h1,h2⟩:=new n hn;rw[e]at h2;cases h2;have:=ok.empty n c (Iq h1)
   grind
  ·grind
 ·grind
 ·obtain⟨c1,h1,h2⟩:=new x hx;obtain⟨c2,h3,h4⟩:=new y hy;rw[ex]at h2;cases h2;rw[ey]at h4;cases h4;exact name_of_addr ok.apart (Iq h1) (Iq h3)
def gW {names:List (Str×NameKind)}{x:Str}{k:NameKind}(h:names.lookup x=some k):(x,k)∈names:=Iq h
noncomputable def blk (X:Cx)(scope:Scope)(cl:List (Str×Addr))(C:Addr)(s:Shared)(H:Hp)(fp:List Addr)(N:List Str):Cx where
 prog:=X.prog
 w:=X.w
 K:=X.K
 mg:=X.mg
 base:=X.base
 A:=X.A
 N:=N
 s₀:=s
 H₀:=H
 env:=compEnvC scope cl C X.env
 outer:=X.stack
 stack:=X.stack
 ex:=fp
 fn:=λx=>scope.names.lookup x==some .cell
 calm:=true
 pn:=[]
 xe:=λ_ _=>False
noncomputable def NI (own:Nat)(cap:List Nat)(σ:St):St:=List.replicate own none++cap.map λi=>(σ[i]?).getD none
structure BlkOk (XN:List Str)(osc scope:Scope)(N:List Str)(own:Nat)(cap:List Nat):Prop where
 kind:scope.kind=.function
 ncell:∀ y∈scope.names,y.2=.cell->scope.names.lookup y.1=some .cell
 nfree:∀ y∈scope.names,y.2=.free->scope.names.lookup y.1=some .free
 nloc:∀ y∈scope.names,y.2=.local->scope.names.lookup y.1=some .local
 free:∀ y∈scope.names,y.2=.free->osc.names.lookup y.1=some .cell\/osc.names.lookup y.1=some .free
 len:N.length=own+cap.length
 capN:∀ j i,cap[j]?=some i->∃ x,N[own+j]?=some x/\XN[i]?=some x/\scope.names.lookup x=some .free
variable {own:Nat}
def Cs {cl2:List (Str×Addr)}(b:BlkOk X.N X.env.scope scope N own cap)(hc:X.calm=true)(I:Inv X am σ H s)(hf:∀ b∈fp,Oy X am H b)(hfo:∀ b∈fp,b < s.heap.objs.size)(c1:∀ n c,cl.lookup n=some c->X.env.cells.lookup n=some c)
  (c2:∀ y∈scope.names,y.2=.free->∃ c,cl.lookup y.1=some c) {h':Heap} {t':Nat} {m:MK} (hns:h'.Ns s.heap.objs.size m) (hk:∀ b o,s.heap.get? b=some o->h'.get? b=some o) (cb:Qu scope cl cl2 s.heap.objs.size h') :
  Inv (blk X scope cl2 s.heap.objs.size s H fp N) [] (NI own cap σ) H { s with heap:=h',toks:=t' }:=by
 have hC:=I.hok.fresh (Hr _);have lt:∀ n c,cl.lookup n=some c->c < s.heap.objs.size:=λn c e=>by obtain⟨v,hv⟩:=I.cell n c (c1 n c e);exact hv.lt
 have inj:∀ x y c,cl2.lookup x=some c->cl2.lookup y=some c->x=y:=λx y c h1 h2=>by
  rcases cb.old x c h1 with ⟨a1,_⟩ | ⟨a1,_,a2⟩<;>rcases cb.old y c h2 with ⟨b1,_⟩ | ⟨b1,_,b2⟩
  ·exact I.ok.inj x y c (c1 x c a1) (c1 y c b1)
  ·exact absurd (lt x c a1) (Mk b1)
  ·exact absurd (lt y c b1) (Mk a1)
  ·exact cb.inj x y c a1 h1 h2 a2 b2
 refine⟨⟨I.ok.mod,b.kind,I.ok.glob,I.ok.blt,Hr _,inj,λx hx=>?_,λx c hx e=>?_,λ_=>I.ok.hd hc,I.ok.frames,.inl rfl,λb' hb=>?_,I.bs,HK I.ok.bsz I.sz,λb' o e hb=>?_,λb' hb hm=>?_,I.stack,I.stkFree⟩,rfl,I.bare,Un.kept hk,⟨m,hns,λi x v h1 h2 h3=>?_⟩,λx c e=>?_,hC,λx c e=>?_,λp hp=>(nomatch hp),I.hok.kept hk,?_⟩
 ·obtain⟨y,hy,e1,e2⟩:=mV hx;rcases e2 with e2 | e2
  ·obtain⟨c,e⟩:=c2 y hy e2;have hn:(y.1,NameKind.cell)∉scope.names:=λz=>by
    have q1:=b.nfree y hy e2;have q2:=b.ncell _ z rfl;rw[q1]at q2;cases q2
   exact⟨c,by rw[<- e1];show cl2.lookup y.1=some c;rw[cb.keep _ hn];exact e⟩
  ·obtain⟨c,e⟩:=cb.mine y.1 (by rw[<- e2];exact hy);exact⟨c,by rw[<- e1];exact e⟩
 ·rcases cb.old x c e with ⟨a1,a2⟩ | ⟨a1,_,_⟩
  ·have hx':=hx;exact absurd (gW (eq_of_beq hx')) a2
  ·exact KJ a1
 ·refine⟨HQ (hfo b' hb),λx c e=>?_⟩;rcases cb.old x c e with ⟨a1,_⟩ | ⟨a1,_,_⟩
  ·exact(hf b' hb).2.2.2.2.1 x c (c1 x c a1)
  ·exact λz=>Mk a1 (z ▸ hfo b' hb)
 ·rcases(hf b' hb).2.2.2.1 with z | z
  ·exact I.ok.noex b' o e z
  ·have:=HC (I.ok.bs b' o e).1;exact absurd (HN this z) (JL _)
 ·rcases Ho.mp (I.stkSub b' hm) with z | z
  ·exact(hf b' hb).2.1 z
  ·exact(hf b' hb).2.2.1 z
 ·
  unfold NI at h2;by_cases hi:i < own
  ·rw[Jg (by simpa using hi),JI]at h2;split at h2<;>cases h2
  ·rw[Jt (by simpa using hi),Jq,Ir]at h2;cases e:cap[i - own]? with
   | none=>rw[e]at h2;cases h2
   | some k =>
    rw[e]at h2;obtain⟨x',f1,f2,f3⟩:=b.capN _ _ e;rw[show own+(i - own)=i by omega]at f1;have h1':N[i]?=some x:=h1;rw[h1']at f1;cases f1;have h2':σ[k]?=some (some v):=by
     cases q:σ[k]? with
     | none=>simp only[IJ,q,Lr,Kr]at h2;cases h2
     | some o=>simp only[IJ,q,Option.getD_some,Kr]at h2;rw[h2]
    obtain⟨m0,_,hl⟩:=I.loc;have kf:=b.free (x,.free) (gW f3) rfl;obtain⟨u,r,l⟩:=hl k x v f2 h2' (kf.elim (λz=>.inr (.inl z)) λz=>.inr (.inr z));refine⟨u,r,?_⟩;rcases l with ⟨z,_⟩ | ⟨_,c,e1,e2⟩
    ·have z':X.env.scope.names.lookup x=some .local:=z;rcases kf with y | y
     ·have y':=y;rw[z']at y';cases y'
     ·have y':=y;rw[z']at y';cases y'
    ·obtain⟨c',g1⟩:=c2 (x,.free) (gW f3) rfl;have g2:=c1 x c' g1;rw[e1]at g2;cases g2;have hn:(x,NameKind.cell)∉scope.names:=λz=>by
      have q2:=b.ncell _ z rfl;have q2':=q2;rw[f3]at q2';cases q2'
     exact .inr ⟨mU f3,c,by show cl2.lookup x=some c;rw[cb.keep _ hn];exact g1,by obtain⟨o,ho,hd⟩:=e2;exact⟨o,hk _ _ ho,hd⟩⟩
 ·rcases cb.old x c e with ⟨a1,_⟩ | ⟨_,a2,_⟩
  ·obtain⟨v,o,ho,hd⟩:=I.cell x c (c1 x c a1);exact⟨v,o,hk _ _ ho,hd⟩
  ·exact⟨none,a2⟩
 ·rcases cb.old x c e with ⟨a1,_⟩ | ⟨a1,_,_⟩
  ·exact I.freeC x c (c1 x c a1)
  ·exact I.hok.fresh (KJ a1)
 ·unfold NI;show _=N.length;rw[HJ,Jq,Hl,b.len]
def Ap {s3:Shared}{H3:Hp}{σ':St}{pl:MZ}{D C:Addr}(I:Inv X am σ H s)(hf:∀ b∈fp,Oy X am H b)(hD:D=s.heap.objs.size)(h3:s3={ s with heap:=s.heap.push { cls:=.type "list",data:=.seq #[] } })(hH:H3=upd H D (.lst []))(hC:C=s3.heap.objs.size)
  (J:Inv (blk X scope cl C s3 H3 fp N) pl σ' H' s'):Inv X am σ H' s'/\Oy X am H' C/\∃ m,s'.heap.Ns C m:=by
 subst h3;have hs:s.heap.objs.size<=C:=by rw[hC];rw[JB];exact JA _
 have u1:Un (frs X.stack) fp H H3 s.heap (s.heap.push { cls:=.type "list",data:=.seq #[] }):=by
  rw[hH,hD];exact Un.laid (λb u e=>Hn _ e) (Hr _) (I.hok.fresh (Hr _))
 have u2:=J.base;have os:=J.os;refine⟨I.call' os (u1.trans u2) J.hok J.bare λb hb=>?_,I.fpOk hs J.free,?_⟩
 ·obtain⟨_,f1,f2,f3,f4,f5⟩:=hf b hb;exact⟨f3,f1,f4,f5⟩
 ·obtain⟨m,hn,_⟩:=J.loc;exact⟨m,hn⟩
def Oi (ifs:Nd)(t:TT):TT:=match ifs with
 | []=>λ_ H Q=>Q true H
 | _::_=>t
def vd {Q:Bool->MU}(e:ifs=[])(h:Oi ifs t σ H Q):Q true H:=by subst e;exact h
def ve {Q:Bool->MU}(e:ifs=[c])(h:Oi ifs t σ H Q):t σ H Q:=by subst e;exact h
def xY {env:Env}{Q:Bool->MT}{E:MJ}{s:Shared}(hifs:ifs.length<=1)(h0:ifs=[]->Q true s)(h1:∀ c,ifs=[c]->wpAny M A (isTrue c env (eval c env)) Q E s):wpAny M A (QV ifs env) Q E s:=by
 match ifs,hifs,h0,h1 with
 | [],_,h0,_=>exact Hw (h0 rfl)
 | [c],_,_,h1=>exact h1 c rfl
def Qd (sz:Nat)(J:It)(g:TG)(tc:TT)(te:TE)(D:Addr)(Fin:Hp->List V->Prop)(W:Nat->Nat->St->Hp->List V->Prop):Prop :=
 ∀ i m σ H ys,W i m σ H ys->H D=some (.lst ys)/\((J.stop i H/\Fin H ys)\/(J.go i H/\∀ x H',J.yld i H x H'->g x σ H' λσ2 H2=>tc σ2 H2 λok H3 =>
  if ok=true then te σ2 H3 λy H4=>H4 D=some (.lst ys)/\ys.length < sz/\∃ m',m' < m/\W (i+1) m' σ2 (upd H4 D (.lst (ys++[y]))) (ys++[y])
  else ∃ m',m' < m/\W (i+1) m' σ2 H3 ys))
variable {wi:TI}{g:TG}{tc:TT}{te:TE}
set_option maxHeartbeats 4000000 in
def sr {s:Shared}{it:Addr}{tn:Nat->Heap->Prop}{J:It}{E:MJ}{RR:Value->Addr->Result->MT}{Fin:Addr->Hp->List V->Prop}
  (b:BlkOk X.N X.env.scope scope N own cap) (hc:X.calm=true) (hifs:ifs.length<=1)
  (hg:∀ cl C s H fp,PG (blk X scope cl C s H fp N) tg g) (ht:∀ c,ifs=[c]->∀ cl C s H fp,PT (blk X scope cl C s H fp N) c tc) (he:∀ cl C s H fp,PE (blk X scope cl C s H fp N) elt te)
  (hclos:closureFor scope X.env=pure cl) (c1:∀ n c,cl.lookup n=some c->X.env.cells.lookup n=some c) (c2:∀ y∈scope.names,y.2=.free->∃ c,cl.lookup y.1=some c)
  (I:Inv X am σ H s) (T:P4 X.prog X.w X.K tg J fp it tn) (st:tn 0 s.heap) (hf:∀ b∈fp,Oy X am H b)
  (hW:∀ D,H D=none->∃ W,Qd sizeLine J g (Oi ifs tc) te D (Fin D) W/\∃ m,W 0 m (NI own cap σ) (upd H D (.lst [])) [])
  (fin:∀ D C s' H' ys,Inv X am σ H' s'->Oy X am H' C->(∃ m,s'.heap.Ns C m)->H' D=some (.lst ys)->Fin D H' ys->RR (.ref D) C (.ok .next) s') :
  wpAny (model X.prog X.w) X.A (newList []) (λL0 s3=>wpAny (model X.prog X.w) X.A (newFunctionEnv scope X.env.globals cl [] X.env.qual none .none (some X.env)) (λcenv s4 =>
   codeAny (model X.prog X.w) X.A (.compStart (.ListComp elt [⟨tg,iter,ifs,0⟩] scope pos) 0 (.ref it) L0 { cenv with scope:=relabel scope X.env }) (RR L0 cenv.locals) s4) E s3) E s:=by
 have hfo:∀ b∈fp,b < s.heap.objs.size:=λb hb=>by
  obtain⟨o,e,_⟩:=T.obj 0 _ st b hb;exact HC e
 have hD:=I.hok.fresh (Hr _);obtain⟨W,hturn,m0,w0⟩:=hW _ hD;refine Jh (qK λh1 cl2 hns kk cb=>?_);have I3:=I.lnew (t':=s.toks) (its:=[]) .nil (IA _);have hfp3:∀ b∈fp,Oy X am (upd H s.heap.objs.size (.lst [])) b:=λb hb=>⟨by rw[aE (HQ (hfo b hb))];exact(hf b hb).1,(hf b hb).2⟩
 have st1:tn 0 h1:=T.keep 0 _ _ st λb hb o e=>kk b o (Hn _ e)
 generalize hX:blk X scope cl2 (s.heap.push { cls:=.type "list",data:=.seq #[] }).objs.size { s with heap:=s.heap.push { cls:=.type "list",data:=.seq #[] } } (upd H s.heap.objs.size (.lst [])) fp N=X';have I4:Inv X' [] (NI own cap σ) (upd H s.heap.objs.size (.lst [])) { s with heap:=h1 }:=by
  rw[<- hX];exact Cs b hc I3 hfp3 (λb hb=>HN (hfo b hb) (by rw[JB];exact JA _)) c1 c2 hns kk cb
 have eP:X'.prog=X.prog:=by rw[<- hX];rfl
 have ew:X'.w=X.w:=by rw[<- hX];rfl
 have eK:X'.K=X.K:=by rw[<- hX];rfl
 have eA:X'.A=X.A:=by rw[<- hX];rfl
 have ec:X'.calm=true:=by rw[<- hX];rfl
 have ee:X'.env=compEnvC scope cl2 (s.heap.push { cls:=.type "list",data:=.seq #[] }).objs.size X.env:=by rw[<- hX];rfl
 have ex:X'.xe=λ_ _=>False:=by rw[<- hX];rfl
 have epn:X'.pn=[]:=by rw[<- hX];rfl
 have eex:X'.ex=fp:=by rw[<- hX];rfl
 have pg:PG X' tg g:=by rw[<- hX];exact hg _ _ _ _ _
 have pe:PE X' elt te:=by rw[<- hX];exact he _ _ _ _ _
 have pt:∀ c,ifs=[c]->PT X' c tc:=λc q=>by rw[<- hX];exact ht c q _ _ _ _ _
 have fpB:∀ {H':Hp},(∀ b∈fp,H' b=none)->∀ {s'':Shared} {σ':St},Inv X' [] σ' H' s''->∀ b∈fp,Oy X' [] H' b:=λ{H'} hn {s'' σ'} Iv b hb =>
  ⟨hn b hb,(Iv.ok.exf b (by rw[eex];exact hb)).1,Iv.ok.exfs b (by rw[eex];exact hb),.inl (by rw[eex];exact hb),(Iv.ok.exf b (by rw[eex];exact hb)).2,λp hp=>by rw[epn]at hp;exact(nomatch hp)⟩
 have loop:codeAny (model X.prog X.w) X.A (.compLoop (.ListComp elt [⟨tg,iter,ifs,0⟩] scope pos) 0 (.ref it) (.ref s.heap.objs.size) (compEnvC scope cl2 (s.heap.push { cls:=.type "list",data:=.seq #[] }).objs.size X.env))
   (RR (.ref s.heap.objs.size) (s.heap.push { cls:=.type "list",data:=.seq #[] }).objs.size) { s with heap:=h1 }:=by
  refine xT hifs (λn s'=>∃ i σ' H' ys,Inv X' [] σ' H' s'/\tn i s'.heap/\(∀ b∈fp,H' b=none)/\W i n σ' H' ys) (λn s5 ⟨i,σ5,H5,ys,I5,st5,fr5,w5⟩=>?_) m0
   ⟨0,NI own cap σ,_,[],I4,st1,λb hb=>(hfp3 b hb).1,w0⟩
  obtain⟨hDy,hgo⟩:=hturn i n σ5 H5 ys w5;have hs5:=fpB fr5 I5;rcases hgo with ⟨stop,hfin⟩ | ⟨go,step⟩
  ·have q:=T.done X' eP ew eK ec i [] s5 σ5 H5 (λ_ _=>False) I5 hs5 st5 stop;rw[eA]at q;refine Im q (λr s6 ⟨hr,I6⟩=>?_) λ_ _ z=>z
   subst hr;rw[<- hX]at I6;obtain⟨J1,J2,J3⟩:=Ap I hf rfl rfl rfl rfl I6;exact fin _ _ s6 H5 ys J1 J2 J3 hDy hfin
  ·have q:=T.item X' eP ew eK ec i [] s5 σ5 H5 (λ_ _=>False) I5 hs5 st5 go;rw[eA]at q;refine Im q (λr s6 ⟨u,hr,h6⟩=>?_) λ_ _ z=>z
   subst hr;refine Im h6 (λ_ s7 ⟨x,H7,I7,r7,y7,st7,fr7⟩=>?_) λ_ _ z=>z
   have I7':=I7.pinned (fpB fr7 I7) (T.obj _ _ st7);rw[Ij]at I7';have qg:=pg _ s7 σ5 H7 x u _ I7' r7 (step x H7 y7);rw[eP,ew,eA,ee,ex]at qg;refine Im qg (λ_ s8 ⟨σ8,H8,I8,q8⟩=>?_) λ_ _ z=>z
   have again:∀ {s9:Shared} {H9:Hp} {zs:List V},Inv X' (Oj fp s7.heap) σ8 H9 s9->(∃ m',m' < n/\W (i+1) m' σ8 H9 zs) ->
     ∃ m,m < n/\∃ i σ' H' ys,Inv X' [] σ' H' s9/\tn i s9.heap/\(∀ b∈fp,H' b=none)/\W i m σ' H' ys:=λ{s9 H9 zs} I9 ⟨m',hm,w9⟩=>by
    have I9':Inv X' ([]++Oj fp s7.heap) σ8 H9 s9:=by rw[Ij];exact I9
    refine⟨m',hm,i+1,σ8,H9,zs,I9'.unpinned,T.keep _ _ _ st7 λb hb o e=>(I9.pin (b,o) (Io _ (fX hb e))).1,λb hb=>?_,w9⟩;obtain⟨o,e,d⟩:=T.obj _ _ st7 b hb;exact(I9.pin (b,o) (Io _ (fX hb e))).2.1
   have body:∀ (ok:Bool) (s9:Shared),(∃ H9,Inv X' (Oj fp s7.heap) σ8 H9 s9/\(if ok=true then te σ8 H9 λy H4=>H4 s.heap.objs.size=some (.lst ys)/\ys.length < sizeLine/\∃ m',m' < n/\W (i+1) m' σ8 (upd H4 s.heap.objs.size (.lst (ys++[y]))) (ys++[y]) else ∃ m',m' < n/\W (i+1) m' σ8 H9 ys)) ->
     if ok=true then wpAny (model X.prog X.w) X.A (eval elt (compEnvC scope cl2 (s.heap.push { cls:=.type "list",data:=.seq #[] }).objs.size X.env)) (λx s5=>wpAny (model X.prog X.w) X.A (call (.builtin "list.append") [.ref s.heap.objs.size,x]) (λ_ s6=>∃ m,m < n/\∃ i σ' H' ys,Inv X' [] σ' H' s6/\tn i s6.heap/\(∀ b∈fp,H' b=none)/\W i m σ' H' ys) (λ_ _=>False) s5) (λ_ _=>False) s9
     else ∃ m,m < n/\∃ i σ' H' ys,Inv X' [] σ' H' s9/\tn i s9.heap/\(∀ b∈fp,H' b=none)/\W i m σ' H' ys:=by
    intro ok s9 ⟨H9,I9,h9⟩;cases ok with
    | false=>exact again I9 h9
    | true =>
     have qe:=pe _ s9 σ8 H9 _ I9 h9;rw[eP,ew,eA,ee,ex]at qe;refine Im qe (λu s10 ⟨y,H10,I10,r10,hD10,M0,m',hm,w10⟩=>?_) λ_ _ z=>z
     have qa:=pK (X:=X') (Oj fp s7.heap) s10 σ8 H10 (.ref s.heap.objs.size) [y] (.ref s.heap.objs.size) [u] (λ_ H11=>H11=upd H10 s.heap.objs.size (.lst (ys++[y]))) I10 rfl (.cons r10 .nil)
      ⟨s.heap.objs.size,ys,y,rfl,rfl,hD10,M0,rfl⟩
     rw[eP,ew,eA,ex]at qa;refine Im qa (λ_ s11 ⟨_,H11,I11,_,e11⟩=>?_) λ_ _ z=>z
     subst e11;exact again I11 ⟨m',hm,w10⟩
   refine xY hifs (λq=>body true s8 ⟨H8,I8,vd q q8⟩) λc q=>?_
   have qt:=pt c q _ s8 σ8 H8 _ I8 (ve q q8);rw[eP,ew,eA,ee,ex]at qt;exact Im qt (λok s9 ⟨H9,I9,h9⟩=>body ok s9 ⟨H9,I9,h9⟩) λ_ _ z=>z
 exact codeAny_compStart_list loop (T.self _ 0 _ _ _ st1 loop)
def R3 (own:Nat)(cap:List Nat)(wi:TI)(g:TG)(tc:TT)(te:TE):TE:=λσ H Q=>wi σ H λJ H1=>∀ D,H1 D=none->∃ W,Qd sizeLine J g tc te D (λH' _=>Q (.ref D) H') W/\∃ m,W 0 m (NI own cap σ) (upd H1 D (.lst [])) []
def wF (b:BlkOk X.N X.env.scope scope N own cap)(hc:X.calm=true)(hifs:ifs.length<=1)(hi:PI X tg iter wi)
  (hg:∀ cl C s H fp,PG (blk X scope cl C s H fp N) tg g) (ht:∀ c,ifs=[c]->∀ cl C s H fp,PT (blk X scope cl C s H fp N) c tc) (he:∀ cl C s H fp,PE (blk X scope cl C s H fp N) elt te)
  (hs:autoParam (∀ x,foldedSetIterable iter X.env x=pure x) YZ):PE X (.ListComp elt [⟨tg,iter,ifs,0⟩] scope pos) (R3 own cap wi g (Oi ifs tc) te):=by
 intro am s σ H Q I h;obtain⟨cl,hclos,c1,c2⟩:=mS scope X.env λy hy hf=>I.ok.has y.1 (b.free y hy hf)
 rw[eval_ListComp];refine Lu rfl hs hclos b.kind b.nloc (thn (hi am s σ H _ I h) λv s1 h1=>thn h1 λitv s2 h2=>?_);obtain⟨it,fp,tn,J,H2,e,I2,T,st2,f2,hW⟩:=h2;subst e;refine sr b hc hifs hg ht he hclos c1 c2 I2 T st2 f2 hW λD C s' H' ys J1 J2 ⟨m,hm⟩ hD hQ=>?_
 refine⟨m,hm,λh' hsb=>⟨.ref D,H',?_,rfl,hQ⟩⟩;obtain⟨f0,f1,f2,f3,f4,f5⟩:=J2;exact J1.turned (λb o hb e=>(hsb.2 b hb).trans e) f0 f1 f3 f4 f5
def Pq (i own:Nat)(cap:List Nat)(wi:TI)(g:TG)(tc:TT)(te:TE):TS:=λE σ H=>wi σ H λJ H1=>∀ D,H1 D=none->∃ W,Qd sizeLine J g tc te D (λH' _=>E.nx (σ.set i (some (.ref D))) H') W/\∃ m,W 0 m (NI own cap σ) (upd H1 D (.lst [])) []
def mW {i:Nat}{y:Str}(b:BlkOk X.N X.env.scope scope N own cap)(hc:X.calm=true)(hifs:ifs.length<=1)(hi:PI X tg iter wi)
  (hg:∀ cl C s H fp,PG (blk X scope cl C s H fp N) tg g) (ht:∀ c,ifs=[c]->∀ cl C s H fp,PT (blk X scope cl C s H fp N) c tc) (he:∀ cl C s H fp,PE (blk X scope cl C s H fp N) elt te)
  (hN:X.N.Nodup) (hiy:X.N[i]?=some y) (hy:Loc X.env.scope y) (hfn:MC X y)
  (hsw:swapsWith (.ListComp elt [⟨tg,iter,ifs,0⟩] scope pos) (some (.Name y py)) spos.line X.env=pure true)
  (hs:autoParam (∀ x,foldedSetIterable iter X.env x=pure x) YZ):PS X (.Assign [.Name y py] (.ListComp elt [⟨tg,iter,ifs,0⟩] scope pos) spos) (Pq i own cap wi g (Oi ifs tc) te):=by
 intro am s σ H E I h;obtain⟨cl,hclos,c1,c2⟩:=mS scope X.env λy hy hf=>I.ok.has y.1 (b.free y hy hf)
 rw[exec_Assign_Name_used _ _ _ _ hsw];refine Hk (Ma (Hk ?_));show wpAny _ X.A (do let _ <- comprehension (.ListComp elt [⟨tg,iter,ifs,0⟩] scope pos) scope X.env _ (newList []) false (eval iter X.env) (some (assign (.Name y py) X.env))) _ _ s;refine Hk (Im (Lu (use:=some (assign (.Name y py) X.env)) (Q:=λ_ s'=>SP X am E .next s') rfl hs hclos b.kind b.nloc (thn (hi am s σ H _ I h) λv s1 h1=>thn h1 λitv s2 h2=>?_)) (λ_ s' hq=>Hw (Hw hq)) λ_ _ e=>e);obtain⟨it,fp,tn,J,H2,e,I2,T,st2,f2,hW⟩:=h2;subst e;refine sr (RR:=λL0 C=>compPost (model X.prog X.w) X.A X.xe (some (assign (.Name y py) X.env)) (λ_ s'=>SP X am E .next s') L0 C) b hc hifs hg ht he hclos c1 c2 I2 T st2 f2 hW λD C s' H' ys J1 J2 ⟨m,hm⟩ hD hQ=>?_
 obtain⟨f0,f1,f2,f3,f4,f5⟩:=J2;refine wpAny_assign_Name (pv J1 hN hiy hy (v:=.ref D) rfl (λs'' I'' ⟨a,hsb,ha⟩=>?_) hfn);have hne:C≠a:=by
  rcases ha with z | z
  ·rw[z];exact f1
  ·exact λq=>f4 y a z q.symm
 refine⟨m,hm.sameBut hsb hne,λh' hs'=>⟨_,H',I''.turned (t':=s''.toks) (λb o hb e=>(hs'.2 b hb).trans e) f0 f1 f3 f4 f5,hQ⟩⟩
def Pr {w:World}{h:Heap}{a:Addr}{o:HO}(x:ObjOk P w H h a o):∃ ob,h.get? a=some ob:=by
 cases o with
 | lst xs=>obtain⟨_,_,_,_,e⟩:=x;exact⟨_,e⟩
 | tup xs=>obtain⟨_,_,_,o,e,_⟩:=x;exact⟨o,e⟩
 | dK kvs=>obtain⟨_,_,_,_,o,_,_,e,_⟩:=x;exact⟨o,e⟩
 | dT kvs=>obtain⟨_,_,_,_,o,_,_,e,_⟩:=x;exact⟨o,e⟩
 | set S n=>obtain⟨o,_,_,_,e,_⟩:=x;exact⟨o,e⟩
 | ins C dx fs=>obtain⟨_,_,_,e,_⟩:=x;exact⟨_,e⟩
 | own y=>exact x
 | xd fs=>obtain⟨_,⟨o,_,_,e,_⟩,_⟩:=x;exact⟨o,e⟩
 | rng lo hi=>obtain⟨_,_,_,e⟩:=x;exact⟨_,e⟩
 | frz ob u=>obtain⟨e,_⟩:=x;exact⟨_,e⟩
 | tbl ps=>exact⟨_,(show h.get? a=some _ from x)⟩
 | met f y=>exact⟨_,(show h.get? a=some _ from x)⟩
 | ext φ=>obtain⟨_,e,_⟩:=x;exact e
def Cov (B:Heap)(h h':Heap)(H':Hp)(l:List Env):Prop:=∀ b o,h'.get? b=some o->(H' b≠none\/∃ o',h.get? b=some o')->b∉frs l->B.get? b=some o
def CXE (P:Program)(w:World):CXT:=λouter H s E e s' =>
 ∃ (ea C t:Addr) (H':Hp) (B:Heap),e=.ref ea/\s'.os=s.os/\AllBare s'.gens/\Un (frs outer) [] H H' s.heap s'.heap/\HOk P w H' s'.heap /\
  Heap.FlyingW B outer ea (.ref C) (.ref t) s'.heap/\H' ea=none/\Cov B s.heap s'.heap H' outer/\E (.ref C) none H'
def Ct {h2:Heap}{sc:Shared}(J:Inv X am σ H' s')(I:∃ σ0 H0 pl,Inv X pl σ0 H0 sc)(hp:∀ p∈X.pn++am,∃ o,sc.heap.get? p.1=some o)(hl:∀ o,s'.heap.get? X.env.locals=some o->∃ o',sc.heap.get? X.env.locals=some o')
  (cov:Cov B sc.heap s'.heap H' X.stack) (hB:B.StaysIn h2) (up:s'.heap.UpToSlots h2):Inv X am σ H' { s' with heap:=h2 }:=by
 obtain⟨σ0,H0,pl,I0⟩:=I;have ins:=λb o e hx=>I0.base.there b o e hx
 have nloc:∀ b o,X.s₀.heap.get? b=some o->b≠X.env.locals:=λb o e=>HQ (HN (HC e) J.ok.above)
 have M6:∀ b,b≠X.env.locals->b∉X.fs->b∉frs X.stack:=λb h1 h2 z=>(Ho.mp (J.stkSub b z)).elim h1 h2
 have trk:=λb o e ht=>hB b o (cov b o e (.inl ht) λz=>ht (J.stkFree b z))
 have nf:∀ b∈X.fs,∀ o,s'.heap.get? b=some o->∀ vs,o.data≠.fields vs:=λb hb o e=>by
  obtain⟨_,o',e',d⟩:=J.funs.mem hb
  grind
 refine⟨J.ok,J.os,J.bare,⟨λb o e n hb hx=>?_,λb o e n hb hx=>?_,J.base.free,λb o e hx=>?_,J.base.tups,J.base.frzs,J.base.tbls⟩,?_,λx c e=>?_,J.free,J.freeC,λp hpp=>?_,λb u e=>?_,J.len⟩
 ·have e1:=J.base.keep b o e n hb hx;exact hB b o (cov b o e1 (.inr (ins b o e hx)) (M6 b (nloc b o e) hb))
 ·obtain⟨sl,e1⟩:=J.base.slot b o e n hb hx;obtain⟨sl',e2⟩:=up b _ e1 (nf b hb _ e1);exact⟨sl',e2⟩
 ·obtain⟨o',e1⟩:=J.base.there b o e hx;by_cases hb:b∈X.fs
  ·obtain⟨sl',e2⟩:=up b _ e1 (nf b hb _ e1);exact⟨_,e2⟩
  ·exact⟨o',hB b o' (cov b o' e1 (.inr (ins b o e hx)) (M6 b (nloc b o e) hb))⟩
 ·obtain⟨m,hn,hv⟩:=J.loc;refine⟨m,up.ns hn,λi x v h1 h2 h3=>?_⟩;obtain⟨u,r,l⟩:=hv i x v h1 h2 h3;refine⟨u,r,?_⟩;rcases l with l | ⟨k,c,e,⟨o,ho,hd⟩⟩
  ·exact .inl l
  ·obtain⟨sl,e2⟩:=up c o ho λvs q=>by rw[hd]at q;cases q
   exact .inr ⟨k,c,e,⟨_,e2,hd⟩⟩
 ·obtain⟨v,o,ho,hd⟩:=J.cell x c e;obtain⟨sl,e2⟩:=up c o ho λvs q=>by rw[hd]at q;cases q
  exact⟨v,_,e2,hd⟩
 ·obtain⟨e,n,ne,nf',d⟩:=J.pin p hpp;exact⟨hB _ _ (cov p.1 p.2 e (.inr (hp p hpp)) (M6 _ ne nf')),n,ne,nf',d⟩
 ·refine(J.hok b u e).stay (λc v hc q=>trk c v q ?_) (λ_ q=>q) λ_ _ q=>q
  grind
end
section
variable {w:World}{f:Addr}{cd:Value}{outer:List Env}{s0:Shared}{H0:Hp}{E:XK}
noncomputable abbrev NS (P:Program)(w:World)(K:Frag)(mg:MK)(base:Heap)(N:List Str)(qual:Str)(scope:Scope)(f:Addr)(cd:Value)(A:Around)(outer:List Env)(s0:Shared)(H0:Hp)(E:XK):Cx :=
 P1 (CXE P w) P w K mg base N qual scope f cd A outer s0 H0 E
def wG {h2:Heap}{C t:Addr}(J:Inv (NS P w K mg base N qual scope f cd A outer s0 H0 E) am σ H' s')
  (cov:Cov B s0.heap s'.heap H' (envOfC qual scope s0.zz f cd::outer)) (up:s'.heap.UpToSlots h2) (fl:Heap.FlyingW B outer ea (.ref C) (.ref t) h2) (hn:H' ea=none) (hE:E (.ref C) none H') :
  CXE P w outer H0 s0 E (.ref ea) { s' with heap:=h2 }:=by
 have hB:=fl.1;have nloc:∀ b o,s0.heap.get? b=some o->b≠s0.zz:=λb o e=>HQ (HC e)
 have M6:∀ b,b≠s0.zz->b∉frs outer->b∉frs (envOfC qual scope s0.zz f cd::outer):=λb h1 h2 z=>(Ho.mp (J.stkSub b z)).elim h1 h2
 have trk:=λb o e ht=>cov b o e (.inl ht) λz=>ht (J.stkFree b z)
 have noe:∀ b:Addr,b∉([]:List Addr):=λ_ z=>nomatch z
 have nf:∀ b∈frs outer,∀ o,s'.heap.get? b=some o->∀ vs,o.data≠.fields vs:=λb hb o e=>by
  obtain⟨_,o',e',d⟩:=J.funs.mem hb;rw[e]at e';cases e';exact d
 have thr:∀ b o,s0.heap.get? b=some o->∃ o',s'.heap.get? b=some o'/\(b∉frs outer->B.get? b=some o'):=λb o e=>by
  obtain⟨o',e1⟩:=J.base.there b o e (noe b);exact⟨o',e1,λhb=>cov b o' e1 (.inr ⟨o,e⟩) (M6 b (nloc b o e) hb)⟩
 refine⟨ea,C,t,H',B,rfl,J.os,J.bare,⟨λb o e n hb hx=>?_,λb o e n hb hx=>?_,J.base.free,λb o e hx=>?_,J.base.tups,J.base.frzs,J.base.tbls⟩,λb u e=>?_,fl,hn,λb o e hc hb=>?_,hE⟩
 ·have e1:=J.base.keep b o e n hb hx;exact hB b o (cov b o e1 (.inr ⟨o,e⟩) (M6 b (nloc b o e) hb))
 ·obtain⟨sl,e1⟩:=J.base.slot b o e n hb hx;obtain⟨sl',e2⟩:=up b _ e1 (nf b hb _ e1);exact⟨sl',e2⟩
 ·obtain⟨o',e1,e2⟩:=thr b o e;by_cases hb:b∈frs outer
  ·obtain⟨sl',e3⟩:=up b _ e1 (nf b hb _ e1);exact⟨_,e3⟩
  ·exact⟨o',hB b o' (e2 hb)⟩
 ·refine(J.hok b u e).stay (λc v hc q=>hB c v (trk c v q ?_)) (λ_ q=>q) λ_ _ q=>q
  rcases hc with z | z
  ·subst z;rw[e];simp
  ·rw[z];simp
 ·have same:∀ o',s'.heap.get? b=some o'->B.get? b=some o'->B.get? b=some o:=λo' _ q=>by
   have:=hB b o' q;have e':=e;rw[e']at this;cases this;exact q
  rcases hc with z | ⟨o',z⟩
  ·cases q:H' b with
   | none=>exact absurd q z
   | some u =>
    obtain⟨o',e1⟩:=Pr (J.hok b u q);exact same o' e1 (trk b o' e1 (by rw[q];simp))
  ·obtain⟨o'',e1,e2⟩:=thr b o' z;exact same o'' e1 (e2 hb)
def xZ:O3 (CXE P w) (NS P w K mg base N qual scope f cd A outer s0 H0 E) E:=by
 intro am σ H s e s' I h;obtain⟨ea,C,t,H',B,rfl,os,bare,un,hok,fl,hn,cov,hE⟩:=h;have J:=I.call' os un hok bare λb z=>nomatch z
 refine wpAny_leaves_onW I.ok.frames rfl fl λh2 fl2 up=>?_
 refine wG J (λb o e hc hb=>cov b o e ?_ hb) up fl2 hn hE;rcases hc with z | ⟨o',z⟩
 ·exact .inl z
 ·obtain⟨o'',z'⟩:=I.base.there b o' z (λq=>nomatch q);exact .inr ⟨o'',z'⟩
def ya {s:Shared}{h1:Heap}{C:Addr}{args:List Value}(I:Inv (NS P w K mg base N qual scope f cd A outer s0 H0 E) am σ H s)(hx:Heap.MadeExcOf s.heap h1 ea (.ref C) args)(hE:E (.ref C) none H) :
  (NS P w K mg base N qual scope f cd A outer s0 H0 E).xe (.ref ea) { s with heap:=h1 }:=by
 have hin:∀ env∈(envOfC qual scope s0.zz f cd::outer),∀ a,env.frame=some a->a∈frs (envOfC qual scope s0.zz f cd::outer):=λenv he a ha=>K0.mpr ⟨env,he,ha⟩
 refine wpAny_leaves_madeW I.ok.frames rfl (λb o q=>PySem.W.of_hideAll _ q) (PySem.W.funFrames_hide I.stack hin) hx λh2 t fl _ _ up=>?_
 have hn:H ea=none:=by
  cases q:H ea with
  | none=>rfl
  | some u =>
   obtain⟨o,e⟩:=Pr (I.hok ea u q);rw[hx.new]at e;cases e
 exact wG (s':=s) I (λb o e _ hb=>PySem.W.hideAll_get _ e hb) ((Heap.UpToSlots.of_keeps hx.keeps).trans up) fl hn hE
def QJ (J:It)(vs:List V)(Ok:MU):Prop:=∀ (i:Nat) (H:Hp),Ok H->(i < vs.length->J.go i H/\∀ x H',J.yld i H x H'->H'=H/\vs[i]?=some x)/\(vs.length<=i->J.stop i H)
def Qp (F:Fx)(J:It)(ds:List D)(Z1:Hp):Prop:=∀ (i:Nat) (H Z:Hp),Same Z1 Z->Same Z H->(i < ds.length->J.go i H/\∀ x H',J.yld i H x H'->∃ Z' d,Ex H Z H' Z'/\ds[i]?=some d/\Rep F.K F.C Z' d x)/\(ds.length<=i->J.stop i H)
def jI {J:It}{ds:List D}(rs:Reps F.K F.C Z1 ds vs)(w:QJ J vs (Same Z1)):Qp F J ds Z1:=λi H Z z1 z2=>by
 obtain⟨k1,k2⟩:=w i H (z1.trans z2);have hl:=rs.length;refine⟨λhi=>?_,λhi=>k2 (by omega)⟩;obtain⟨go,y⟩:=k1 (by omega);exact⟨go,λx H' hy=>by
  obtain⟨e0,e2⟩:=y x H' hy;subst e0;obtain⟨d,e3,rd⟩:=rs.get' e2;exact⟨Z,d,Ex.refl z2,e3,rd.mono z1⟩⟩
def tI (F:Fx)(g:ML):TI:=λσ H Q=>∃ Z S,StOk F H Z S σ/\WG F H Z (g S) λds H' Z'=>∀ J,Qp F J ds Z'->ds.length<=16777216->Q J H'
abbrev FI (X:Cx)(F:Fx)(tg e:Expr)(g:ML):Prop:=PI X tg e (tI F g)
noncomputable def O0:D->R (List D)
 | .tup xs=>.ok xs
 | .lst xs=>.ok xs
 | _=>.stuck
def SN (g:MM):ML:=λS=>(g S).bind λd=>(O0 d).bind λds=>if ds.length<=16777216 then .ok ds else .stuck
def _root_.L2.PI.weak {e:Expr}{t t':TI}(h:PI X tg e t)(w:∀ σ H Q,t' σ H Q->t σ H Q):PI X tg e t':=λam s σ H Q I q=>h am s σ H Q I (w σ H Q q)
def yb {a:Addr}(h:SqL K Z a vs):QJ (Itl K a) vs (Same Z):=λi H hz =>
 ⟨λhi=>⟨⟨vs,vs[i],hz.seq h,by simp[hi]⟩,λx H' ⟨e,y⟩=>⟨e,y vs (hz.seq h)⟩⟩,λhi=>⟨vs,hz.seq h,hi⟩⟩
def Aq {a:Addr}(h:SqT K Z a vs):QJ (Itt K a) vs (Same Z):=λi H hz =>
 ⟨λhi=>⟨⟨vs,vs[i],h.mono hz,by simp[hi]⟩,λx H' ⟨e,y⟩=>⟨e,y vs (h.mono hz)⟩⟩,λhi=>⟨vs,h.mono hz,hi⟩⟩
def mX {lo:Int}:QJ (Itr lo n) ((List.range n).map λi=>.int (lo+(i:Nat))) (Same Z):=λi H hz=>by
 refine⟨λhi=>?_,λhi=>?_⟩
 ·have hi':i < n:=by simpa using hi
  exact⟨hi',λx H' ⟨e,y⟩=>⟨e,by rw[y];simp[hi']⟩⟩
 ·show n<=i
  simpa using hi
def EJ {l:Expr}{tl:TE}(hl:PE X l tl):PI X tg l (λσ H R=>tl σ H λx H1=>∃ a,x=.ref a/\(((∃ xs,SqL X.K H1 a xs)/\R (Itl X.K a) H1)\/((∃ xs,SqT X.K H1 a xs)/\R (Itt X.K a) H1))):=by
 intro am s σ H Q I h;refine thn (hl am s σ H _ I h) λv s1 ⟨x,H1,I1,r1,a,e,q⟩=>?_
 subst e;cases r1;rcases q with ⟨⟨xs,hq⟩,q⟩ | ⟨⟨xs,hq⟩,q⟩
 ·obtain⟨its,rv,p,hz⟩:=I1.list hq;refine Lb p.isList ⟨s1.zz,[s1.zz],_,_,H1,rfl,I1.kept λb o e=>Hn _ e,xK a _,⟨_,HP _ rfl,rfl,rfl⟩,λb hb=>?_,q⟩;obtain rfl:b=s1.zz:=by simpa using hb
  exact I1.fpOk (Hr _) (I1.hok.fresh (Hr _))
 ·obtain⟨its,rv,p,hz⟩:=I1.tuple hq;refine JO (show s1.heap.IsTuple a its.toArray from p) ⟨s1.zz,[s1.zz],_,_,H1,rfl,I1.kept λb o e=>Hn _ e,u5 a _,⟨_,HP _ rfl,rfl,rfl⟩,λb hb=>?_,q⟩;obtain rfl:b=s1.zz:=by simpa using hb
  exact I1.fpOk (Hr _) (I1.hok.fresh (Hr _))
variable {e:Expr}{g:MM}{gs:ML}
def aF (hK:X.K=F.K)(h:FE X F e g):FI X F tg e (SN g):=(EJ h).weak λσ H Q ⟨Z,S,ok,w⟩=>aM ok w λd v H1 Z1 ok1 x1 rv w1=>by
 rw[hK];cases d with
 | tup ds =>
  rw[Rep]at rv;obtain⟨a,vs,rfl,h1,h2⟩:=rv;have w2:WG F H1 Z1 (if ds.length<=16777216 then R.ok ds else .stuck) _:=w1;split at w2
  ·rename_i hl;exact⟨a,rfl,.inr ⟨⟨vs,h1.mono ok1.sub⟩,WG.now w2 ok1.sub _ (jI h2 (Aq h1)) hl⟩⟩
  ·exact w2.elim
 | lst ds =>
  rw[Rep]at rv;obtain⟨a,vs,rfl,h1,h2⟩:=rv;have w2:WG F H1 Z1 (if ds.length<=16777216 then R.ok ds else .stuck) _:=w1;split at w2
  ·rename_i hl;exact⟨a,rfl,.inl ⟨⟨vs,ok1.sub.seq h1⟩,WG.now w2 ok1.sub _ (jI h2 (yb h1)) hl⟩⟩
  ·exact w2.elim
 | _=>exact w1.elim
noncomputable def O4 (lo:Int)(n:Nat):List D:=(List.range n).map λi=>.int (lo+(i:Nat))
noncomputable def Ny:List D->R (List D)
 | [.int j]=>if -16777216<=j/\j<=16777216 then .ok (O4 0 j.toNat) else .stuck
 | _=>.stuck
noncomputable def OC:List D->R (List D)
 | [.int i,.int j]=>if (-16777216<=i/\i<=16777216)/\(-16777216<=j/\j<=16777216)/\j - i<=16777216 then .ok (O4 i (j - i).toNat) else .stuck
 | _=>.stuck
def PV (gs:ML):ML:=λS=>(gs S).bind Ny
def PU (gs:ML):ML:=λS=>(gs S).bind OC
theorem mY {K:Frag}{C:MN}{Z:Hp}(lo:Int):∀ (l:List Nat),Reps K C Z (l.map λi=>.int (lo+(i:Nat))) (l.map λi=>.int (lo+(i:Nat)))
 | []=>Reps.nil
 | a::r=>Reps.cons (by rw[Rep]) (mY lo r)
def wH {j:Int}(r:Reps K C Z [.int j] vs):vs=[.int j]:=by
 rw[Reps]at r;obtain⟨v,r',rfl,h1,h2⟩:=r;rw[Reps]at h2;rw[Rep]at h1;rw[h1,h2]
def su {i j:Int}(r:Reps K C Z [.int i,.int j] vs):vs=[.int i,.int j]:=by
 rw[Reps]at r;obtain⟨v,r',rfl,h1,h2⟩:=r;rw[Rep]at h1;rw[h1,wH h2]
def Cu {ds:List D}{es:List D}(h:Ny ds=.ok es):∃ j:Int,ds=[.int j]/\(-16777216<=j/\j<=16777216)/\es=O4 0 j.toNat:=by
 unfold Ny at h;split at h
 ·rename_i j;split at h
  ·rename_i q;cases h;exact⟨j,rfl,q,rfl⟩
  ·cases h
 ·cases h
def Cv {ds:List D}{es:List D}(h:OC ds=.ok es):∃ i j:Int,ds=[.int i,.int j]/\((-16777216<=i/\i<=16777216)/\(-16777216<=j/\j<=16777216)/\j - i<=16777216)/\es=O4 i (j - i).toNat:=by
 unfold OC at h;split at h
 ·rename_i i j;split at h
  ·rename_i q;cases h;exact⟨i,j,rfl,q,rfl⟩
  ·cases h
 ·cases h
def Cw {ds:List D}{k:Nat}(h:Ny ds=.err k):False:=by
 unfold Ny at h;split at h
 ·split at h<;>cases h
 ·cases h
def Cy {ds:List D}{k:Nat}(h:OC ds=.err k):False:=by
 unfold OC at h;split at h
 ·split at h<;>cases h
 ·cases h
def aS {a:Expr}{p:Pos}(hg:Gl X "range")(hm:X.mg "range"=none)(ha:FA X F [a] gs)(hs:autoParam (starEach [a] X.env=[(false,eval a X.env)]) YW):FI X F tg (.Call (.Name "range" p) [a] [] pos) (PV gs) :=
 (xL hg hm ha hs).weak λσ H Q ⟨Z,S,ok,w⟩=>a8 ok w λds vs H1 Z1 ok1 x1 rs w1=>by
  cases e:Ny ds with
  | err k=>exact(Cw e).elim
  | stuck=>rw[e]at w1;exact w1.elim
  | ok es =>
   rw[e]at w1;obtain⟨j,rfl,hj,rfl⟩:=Cu e;exact⟨j,wH rs,by omega,by omega,WG.now w1 ok1.sub _ (jI (mY 0 _) mX) (by unfold O4;rw[Hl,Ig];omega)⟩
def kD {a:Expr}{p:Pos}(hg:Gl X "range")(hm:X.mg "range"=none)(ha:FA X F [a,b] gs)(hs:autoParam (starEach [a,b] X.env=[(false,eval a X.env),(false,eval b X.env)]) YW)(hs2:autoParam (starEach [b] X.env=[(false,eval b X.env)]) YW) :
  FI X F tg (.Call (.Name "range" p) [a,b] [] pos) (PU gs) :=
 (xM hg hm ha hs hs2).weak λσ H Q ⟨Z,S,ok,w⟩=>a8 ok w λds vs H1 Z1 ok1 x1 rs w1=>by
  cases e:OC ds with
  | err k=>exact(Cy e).elim
  | stuck=>rw[e]at w1;exact w1.elim
  | ok es =>
   rw[e]at w1;obtain⟨i,j,rfl,hj,rfl⟩:=Cv e;exact⟨i,j,su rs,⟨by omega,by omega,by omega,by omega⟩,WG.now w1 ok1.sub _ (jI (mY i _) mX) (by unfold O4;rw[Hl,Ig];omega)⟩
end
abbrev MV:=D->SS->R SS
def tGd (F:Fx)(g:MV):TG:=λv σ H Q=>∃ Z S d,StOk F H Z S σ/\Rep F.K F.C Z d v/\WG F H Z (g d S) λS' H' Z'=>∀ σ',StOk F H' Z' S' σ'->Q σ' H'
abbrev FG (X:Cx)(F:Fx)(tg:Expr)(g:MV):Prop:=PG X tg (tGd F g)
noncomputable def gNm (i:Nat):MV:=λd S=>.ok (S.set i (some (.val d)))
def _root_.L2.PG.weak {t t':TG}(h:PG X tg t)(w:∀ v σ H Q,t' v σ H Q->t v σ H Q):PG X tg t':=λam s σ H v u Q I r q=>h am s σ H v u Q I r (w v σ H Q q)
def ao (i:Nat){x:Str}(hN:X.N.Nodup)(hi:autoParam (X.N[i]?=some x) YW)(hx:autoParam (Loc X.env.scope x) Yy)(hf:autoParam (MC X x) Yw) :
  FG X F (.Name x pos) (gNm i):=(dJ hN hi hx hf).weak λv σ H Q ⟨Z,S,d,ok,r,w⟩=>WG.now w ok.sub _ (ok.setVal r)
abbrev MI:=List D->R D
def spF (K:Frag)(C:MN)(n:Nat)(f:MI):Sp:=λvs H Q E =>
 vs.length=n/\∃ Z ds,Same Z H/\Reps K C Z ds vs/\WG ⟨K,C,H,Z,E⟩ H Z (f ds) λd H' Z'=>∀ v,Rep K C Z' d v->Q v H'
noncomputable def ON (n:Nat)(ds:List D):SS:=ds.map (λd=>some (.val d))++List.replicate (n - ds.length) none
def Ar {ds:List D}(z:Same F.Z0 F.H0)(r:Reps F.K F.C F.Z0 ds vs):StOk F F.H0 F.Z0 (ON N.length ds) (Oq N vs):=by
 have hl:=r.length;have at_:∀ {i:Nat} {x:Option Sl},(ON N.length ds)[i]?=some x->(i < ds.length/\∃ d,ds[i]?=some d/\x=some (.val d))\/x=none:=λ{i x} e=>by
  unfold ON at e
  grind
 refine⟨Ex.refl z,?_,λi d e=>?_,λi j x y v w A B _ e1 _ _ _ o1 _=>?_⟩
 ·unfold ON L2.Oq
  simp[hl]
 ·rcases at_ e with ⟨hi,d',e1,e2⟩ | e2
  ·cases e2;obtain⟨v,e3,rv⟩:=r.get e1;refine⟨v,[],?_,⟨rfl,rv⟩,Priv.nil⟩;unfold L2.Oq
   grind
  ·cases e2
 ·rcases at_ e1 with ⟨_,d',_,e2⟩ | e2
  ·cases e2;rw[o1.1];exact λa ha=>nomatch ha
  ·cases e2
section
variable {w:World}
structure BX (X:Cx)(F:Fx)(k:Nat):Prop where
 room:Room k X.A
 K:X.K=F.K
 calm:X.calm=true
 pass:O3 (CXE X.prog X.w) X F.E
structure Fn1 (P:Program)(w:World)(K:Frag)(mg:MK)(base:Heap)(C:MN)(k:Nat)(x:Str)(ps:List Str)(f:MI):Prop where
 ex:∃ a fd,OM P w K mg base (CXE P w) k a fd ps (spF K C ps.length f)/\mg x=some (.ref a)/\keepIn K (.ref a)=true/\Binds K fd ps []
def ND (f:MI)(gs:ML):MM:=λS=>(gs S).bind f
variable {x:Str}{p:Pos}{e:Expr}{es:Nd}{gs:ML}{k:Nat}{ps:List Str}{f:MI}
def As (n:Nat)(hn:∀ S ds,gs S=.ok ds->ds.length=n):∀ σ H Q,tE F (ND f gs) σ H Q->QW (spF F.K F.C n f) [] F.E (tAl F gs) σ H Q:=λσ H Q ⟨Z,S,ok,w⟩=>by
 refine⟨Z,S,ok,?_⟩;cases e:gs S with
 | err k=>unfold ND at w;rw[e]at w;exact w
 | stuck=>unfold ND at w;rw[e]at w;exact w
 | ok ds =>
  unfold ND at w;rw[e]at w;intro H1 Z1 x1 vs rs;have w1:=WG.more (r:=f ds) w x1;refine⟨by rw[IH,<- rs.length];exact hn S ds e,Z1,ds,x1.sub,by rw[IH];exact rs,?_⟩;cases q:f ds with
  | ok d=>rw[q]at w1;exact w1
  | err k=>rw[q]at w1;exact w1
  | stuck=>rw[q]at w1;exact w1
def Cz (b:BX X F k)(h:Fn1 X.prog X.w F.K X.mg X.base F.C k x ps f)(hg:Gl X x)(ha:FA X F (e::es) gs)(hn:∀ S ds,gs S=.ok ds->ds.length=ps.length)(M5:autoParam (MA x) YQ)
  (he:autoParam (Id X e es) YW) (hpl:autoParam (IO X pos es) YW):FE X F (.Call (.Name x p) (e::es) [] pos) (ND f gs):=by
 obtain⟨a,fd,h1,h2,h3,h4⟩:=h.ex;have hK:=b.K;exact(Ce (by rw[hK];exact h1) b.room hg h2 (by grind) (by grind) .nil b.pass ha M5 he hpl).weak (As ps.length hn)
def yc {g:MM}(h:∀ S ds,gs S=.ok ds->ds.length=n):∀ S ds,PH g gs S=.ok ds->ds.length=n+1:=λS ds e=>by
 unfold PH at e;cases q:g S with
 | err k=>rw[q]at e;cases e
 | stuck=>rw[q]at e;cases e
 | ok d =>
  rw[q]at e;cases q2:gs S with
  | err k=>rw[R.bind_ok,q2]at e;cases e
  | stuck=>rw[R.bind_ok,q2]at e;cases e
  | ok r =>
   rw[R.bind_ok,q2]at e;cases e
   simp[h S r q2]
noncomputable def OY {α:Type}(r:R α):R α:=match r with
 | .ok a=>.ok a
 | _=>.stuck
noncomputable def Oe (own:Nat)(cap:List Nat)(S:SS):SS:=List.replicate own none++cap.map λi=>match S[i]? with
 | some (some (.val d))=>some (.val d)
 | _=>none
def NJ (S:SS)(g:MV)(c:MR)(e:MM):List D->R (List D)
 | []=>.ok []
 | d::r=>(g d S).bind λS1=>(c S1).bind λt=>if t=true then (e S1).bind λy=>(NJ S g c e r).bind λys=>.ok (y::ys) else NJ S g c e r
def N8 (own:Nat)(cap:List Nat)(it:ML)(g:MV)(c:MR)(e:MM):MM:=λS=>(it S).bind λds=>(OY (NJ (Oe own cap S) g c e ds)).bind λys=>.ok (.lst ys)
noncomputable def O8:MR:=λ_=>.ok true
noncomputable abbrev noE (F:Fx):Fx:={ F with E:=λ_ _ _=>False }
def Own (own:Nat)(g:MV):Prop:=∀ d S S1,g d S=.ok S1->S1.length=S.length/\∀ i,own<=i->S1[i]?=S[i]?
def ar {k:Nat}(bx:BX X F k){C:Addr}{s:Shared}:BX (blk X scope cl C s H fp N) (noE F) k :=
 ⟨bx.room,bx.K,rfl,λam σ H s e s' _ h=>by
  obtain⟨_,_,_,_,_,_,_,_,_,_,_,_,_,hE⟩:=h;exact hE.elim⟩
def aG {own i:Nat}(h:i < own):Own own (gNm i):=λd S S1 e=>by
 cases e;exact⟨by simp,λj hj=>HR (by omega)⟩
def StOk.forget {S0:SS}(h:StOk F H Z S σ)(hl:S0.length=S.length)(hs:∀ (i:Nat) (x:Sl),S0[i]?=some (some x)->S[i]?=some (some x)):StOk F H Z S0 σ :=
 ⟨h.ex,hl.trans h.len,λi x e=>h.sl i x (hs i _ e),λi j x y v w A B hij e1 e2=>h.dj i j x y v w A B hij (hs i _ e1) (hs j _ e2)⟩
def jJ {own:Nat}{i:Nat}{x:Sl}(e:(Oe own cap S)[i]?=some (some x)):own<=i/\∃ k d,cap[i - own]?=some k/\S[k]?=some (some (.val d))/\x=.val d:=by
 unfold Oe at e;by_cases hi:i < own
 ·rw[Jg (by simpa using hi),JI]at e;split at e<;>cases e
 ·rw[Jt (by simpa using hi),Jq,Ir]at e;cases q:cap[i - own]? with
  | none=>rw[q]at e;cases e
  | some k =>
   rw[q]at e;simp only[IJ,Kr]at e;split at e
   ·rename_i d q2;cases e;exact⟨by omega,k,d,rfl,q2,rfl⟩
   ·cases e
def ye {own:Nat}{D:Addr}(ok:StOk F H Z S σ)(hD:H D=none):StOk (noE F) (upd H D (.lst [])) Z (Oe own cap S) (NI own cap σ):=by
 refine⟨ok.ex.trans (Ex.hidden ok.sub hD),by simp[Oe,NI],λi x e=>?_,λi j x y v w A B _ e1 _ _ _ o1 _=>?_⟩
 ·obtain⟨hi,k,d',q1,q2,q3⟩:=jJ e;cases q3;obtain⟨v,e1,r⟩:=ok.val k d' q2;refine⟨v,[],?_,⟨rfl,r⟩,Priv.nil⟩;unfold NI;rw[Jt (by simpa using hi),Jq,Ir,q1]
  simp[e1]
 ·obtain⟨_,_,_,_,_,q⟩:=jJ e1;cases q;rw[o1.1];exact λa ha=>nomatch ha
variable {own:Nat}{git:ML}{g:MV}{gc:MR}{ge:MM}
def vf {P:D->Hp->MU}{Q:Addr->MU}(hgc:ifs=[]->gc=O8)(hgo:Own own g)(ok:StOk F H Z S σ)(w:WG F H Z (N8 own cap git g gc ge S) P)
  (hP:∀ D ys ds H1 Z1 H' Z',Ex H Z H1 Z1->H1 D=none->Ex H1 Z1 H' Z'->Z' D=none->(∀ H'' Z'',Ex H1 Z1 H'' Z''->P (.lst ds) H'' Z'')->H' D=some (.lst ys)->Reps F.K F.C Z' ds ys->Q D H') :
  tI F git σ H λJ H1=>∀ D,H1 D=none->∃ W,Qd sizeLine J (tGd (noE F) g) (Oi ifs (tT (noE F) gc)) (tE (noE F) ge) D (λH' _=>Q D H') W/\∃ m,W 0 m (NI own cap σ) (upd H1 D (.lst [])) []:=by
 refine⟨Z,S,ok,?_⟩;unfold N8 at w;cases e:git S with
 | err k=>rw[e]at w;exact w
 | stuck=>rw[e]at w;exact w
 | ok ds =>
  rw[e]at w;intro H1 Z1 x1 J wk Mq D hD;have w1:=WG.more w x1;have ok1:=ok.more x1;have hS:=HV;refine⟨λi m σ' H' ys=>m=ds.length - i/\i<=ds.length/\H' D=some (.lst ys)/\ys.length<=i/\∃ Z' L0,Ex H1 Z1 H' Z'/\Z' D=none/\Reps F.K F.C Z' L0 ys/\StOk (noE F) H' Z' (Oe own cap S) σ' /\
   WG F H1 Z1 ((OY (NJ (Oe own cap S) g gc ge (ds.drop i))).bind λzs=>R.ok (FF.D.lst (L0++zs))) P,?_,ds.length,rfl,IA _,az,Hr _,Z1,[],Ex.hidden ok1.sub hD,ok1.sub.free hD,Reps.nil,ye ok1 hD,w1⟩
  rintro i m σ2 H2 ys ⟨rfl,hle,hDy,hyl,Z2,L0,x2,hZD,ra,ok2,w2⟩
  refine⟨hDy,?_⟩;obtain⟨k1,k2⟩:=wk i H2 Z2 x2.z x2.sub;by_cases M0:i < ds.length
  ·obtain⟨go,y⟩:=k1 M0;refine .inr ⟨go,λx H' hy=>?_⟩;obtain⟨Z2',d,x',e3,rd⟩:=y x H' hy;have ok2:=ok2.more x';have hZD:Z2' D=none:=by
    cases r:Z2' D with
    | none=>rfl
    | some o =>
     rcases x'.new D (by rw[r];simp) with z | z
     ·exact absurd hZD z
     ·rw[hDy]at z;cases z
   have hDy:=x'.same _ _ hDy;have x2:=x2.trans x';have ra:=ra.mono x'.z;have hd:ds.drop i=d::ds.drop (i+1):=by
    obtain⟨hi,e4⟩:=HM.mp e3;rw[Jy hi,e4]
   rw[hd]at w2;unfold NJ at w2;refine⟨Z2',Oe own cap S,d,ok2,rd,?_⟩;cases qg:g d (Oe own cap S) with
   | err k=>rw[qg]at w2;exact w2.elim
   | stuck=>rw[qg]at w2;exact w2.elim
   | ok S1 =>
    rw[qg,R.bind_ok]at w2;intro H3 Z3 x3 σ3 ok3;obtain⟨gl,gk⟩:=hgo _ _ _ qg;have back:∀ {H Z:Hp},StOk (noE F) H Z S1 σ3->StOk (noE F) H Z (Oe own cap S) σ3:=λh=>h.forget gl.symm λj z q=>by
     rw[gk j (jJ q).1];exact q
    have hD3:=x3.same _ _ hDy;have x13:=x2.trans x3;have zD:∀ {H Z:Hp},Ex H1 Z1 H Z->Ex H' Z2' H Z->Z D=none:=λ{H Z} _ q=>by
     cases r:Z D with
     | none=>rfl
     | some o =>
      rcases q.new D (by rw[r];simp) with z | z
      ·exact absurd hZD z
      ·rw[hDy]at z;cases z
    have fin:∀ (t:Bool) (H4 Z4:Hp),Ex H' Z2' H4 Z4->StOk (noE F) H4 Z4 S1 σ3->gc S1=.ok t->if t=true then tE (noE F) ge σ3 H4 λy H5=>H5 D=some (.lst ys)/\ys.length < sizeLine/\∃ m',m' < ds.length - i/\(m'=ds.length - (i+1)/\i+1<=ds.length/\(upd H5 D (.lst (ys++[y]))) D=some (.lst (ys++[y]))/\(ys++[y]).length<=i+1/\∃ Z' L0,Ex H1 Z1 (upd H5 D (.lst (ys++[y]))) Z'/\Z' D=none/\Reps F.K F.C Z' L0 (ys++[y])/\StOk (noE F) (upd H5 D (.lst (ys++[y]))) Z' (Oe own cap S) σ3 /\
      WG F H1 Z1 ((OY (NJ (Oe own cap S) g gc ge (ds.drop (i+1)))).bind λzs=>R.ok (FF.D.lst (L0++zs))) P)
      else ∃ m',m' < ds.length - i/\(m'=ds.length - (i+1)/\i+1<=ds.length/\H4 D=some (.lst ys)/\ys.length<=i+1/\∃ Z' L0,Ex H1 Z1 H4 Z'/\Z' D=none/\Reps F.K F.C Z' L0 ys/\StOk (noE F) H4 Z' (Oe own cap S) σ3 /\
      WG F H1 Z1 ((OY (NJ (Oe own cap S) g gc ge (ds.drop (i+1)))).bind λzs=>R.ok (FF.D.lst (L0++zs))) P):=by
     intro t H4 Z4 x4 ok4 qc;rw[qc,R.bind_ok]at w2;cases t with
     | false =>
      rw[if_neg Ib]at w2 ⊢;exact⟨ds.length - (i+1),by omega,rfl,M0,x4.same _ _ hDy,by omega,Z4,L0,x2.trans x4,zD (x2.trans x4) x4,ra.mono x4.z,back ok4,w2⟩
     | true =>
      rw[if_pos rfl]at w2 ⊢;refine⟨Z4,S1,ok4,?_⟩;cases qe:ge S1 with
      | err k=>rw[qe]at w2;exact w2.elim
      | stuck=>rw[qe]at w2;exact w2.elim
      | ok yd =>
       rw[qe,R.bind_ok]at w2;intro H5 Z5 x5 yv ry;have hD5:=x5.same _ _ (x4.same _ _ hDy);have x25:=x4.trans x5;have z5:=zD (x2.trans x25) x25;have ok5:=ok4.more x5;have n0:=ok1.ex.same.free hD;have xu:Ex H1 Z1 (upd H5 D (.lst (ys++[yv]))) Z5:=by
        have q:=x2.trans x25;refine⟨λb o e=>?_,q.z,λb o e=>?_,q.new⟩
        ·rw[aE (λz=>by subst z;rw[hD]at e;cases e)];exact q.same b o e
        ·rw[aE (λz=>by subst z;rw[z5]at e;cases e)];exact q.sub b o e
       refine⟨hD5,by omega,ds.length - (i+1),by omega,rfl,M0,az,by simp;omega,Z5,L0++[yd],xu,z5,(ra.mono x25.z).append (Reps.cons ry Reps.nil),?_,?_⟩
       ·have q:=back ok5;refine⟨⟨λb o e=>?_,q.ex.z,λb o e=>?_,q.ex.new⟩,q.len,λj x e=>?_,λj k x y v w A B _ e1 _ _ _ o1 _=>?_⟩
        ·rw[aE (λz=>by subst z;have e':=e;rw[n0]at e';cases e')];exact q.ex.same b o e
        ·rw[aE (λz=>by subst z;rw[z5]at e;cases e)];exact q.ex.sub b o e
        ·obtain⟨_,_,_,_,_,z⟩:=jJ e;cases z;obtain⟨v,e1,r⟩:=q.val j _ e;exact⟨v,[],e1,⟨rfl,r⟩,Priv.nil⟩
        ·obtain⟨_,_,_,_,_,z⟩:=jJ e1;cases z;rw[o1.1];exact λa ha=>nomatch ha
       ·cases qr:NJ (Oe own cap S) g gc ge (ds.drop (i+1)) with
        | err k=>rw[qr]at w2;exact w2.elim
        | stuck=>rw[qr]at w2;exact w2.elim
        | ok zs=>rw[qr]at w2;simpa [OY,Iu] using w2
    cases qc:gc S1 with
    | err k=>rw[qc]at w2;exact w2.elim
    | stuck=>rw[qc]at w2;exact w2.elim
    | ok t =>
     cases ifs with
     | nil =>
      have:=hgc rfl;subst this;cases qc;exact fin true H3 Z3 x3 ok3 rfl
     | cons c r =>
      refine⟨Z3,S1,ok3,?_⟩;rw[qc];intro H4 Z4 x4;exact fin t H4 Z4 (x3.trans x4) (ok3.more x4) qc
  ·have ei:i=ds.length:=by omega
   refine .inl ⟨k2 (by omega),?_⟩;rw[LO (by omega)]at w2;have w3:WG F H1 Z1 (R.ok (FF.D.lst (L0++[]))) P:=w2;rw[IH]at w3;exact hP D ys L0 H1 Z1 H2 Z2 x1 hD x2 hZD w3 hDy ra
def kE {P:D->Hp->MU}{Q:Addr->MU}(hgc:ifs=[]->gc=O8)(hgo:Own own g)(ok:StOk F H Z S σ)(w:WG F H Z (N8 own cap git g gc ge S) P)(hP:∀ D ys ds H' Z',Ex H Z H' Z'->P (.lst ds) H' Z'->H' D=some (.lst ys)->Z' D=some (.lst ys)->Reps F.K F.C Z' ds ys->Q D H') :
  tI F git σ H λJ H1=>∀ D,H1 D=none->∃ W,Qd sizeLine J (tGd (noE F) g) (Oi ifs (tT (noE F) gc)) (tE (noE F) ge) D (λH' _=>Q D H') W/\∃ m,W 0 m (NI own cap σ) (upd H1 D (.lst [])) [] :=
 vf hgc hgo ok w λD ys ds H1 Z1 H2 Z2 x1 hD x2 hZD w3 hDy ra=>by
  have hz:Same Z2 (upd Z2 D (.lst ys)):=aN hZD;have xf:Ex H1 Z1 H2 (upd Z2 D (.lst ys)):=by
   refine⟨x2.same,x2.z.trans hz,λb o e=>?_,λb hb=>?_⟩
   ·by_cases q:b=D
    ·subst q;rw[az]at e;cases e;exact hDy
    ·rw[aE q]at e;exact x2.sub b o e
   ·by_cases q:b=D
    ·subst q;exact .inr hD
    ·rw[aE q]at hb;exact x2.new b hb
  exact hP D ys ds H2 _ (x1.trans xf) (w3 H2 _ xf) hDy az (ra.mono hz)
def aH {k:Nat}(bx:BX X F k)(b:BlkOk X.N X.env.scope scope N own cap)(hi:FI X F tg iter git)(hgo:Own own g)
  (hg:∀ cl C s H fp,FG (blk X scope cl C s H fp N) (noE F) tg g) (he:∀ cl C s H fp,FE (blk X scope cl C s H fp N) (noE F) elt ge)
  (hs:autoParam (∀ x,foldedSetIterable iter X.env x=pure x) YZ):FE X F (.ListComp elt [⟨tg,iter,[],0⟩] scope pos) (N8 own cap git g O8 ge) :=
 (wF (ifs:=[]) b bx.calm (by simp) hi hg (λc q=>nomatch q) he hs).weak λσ H Q ⟨Z,S,ok,w⟩ =>
  kE (λ_=>rfl) hgo ok w λD ys ds H' Z' _ p h1 h2 r=>p _ (by rw[Rep];exact⟨D,ys,rfl,SqL.of h2,r⟩)
def d7 {k:Nat}(bx:BX X F k)(b:BlkOk X.N X.env.scope scope N own cap)(hi:FI X F tg iter git)(hgo:Own own g)
  (hg:∀ cl C s H fp,FG (blk X scope cl C s H fp N) (noE F) tg g) (ht:∀ cl C s H fp,FT (blk X scope cl C s H fp N) (noE F) c gc) (he:∀ cl C s H fp,FE (blk X scope cl C s H fp N) (noE F) elt ge)
  (hs:autoParam (∀ x,foldedSetIterable iter X.env x=pure x) YZ):FE X F (.ListComp elt [⟨tg,iter,[c],0⟩] scope pos) (N8 own cap git g gc ge) :=
 (wF b bx.calm (by simp) hi hg (λc' q=>by cases q;exact ht) he hs).weak λσ H Q ⟨Z,S,ok,w⟩ =>
  kE (λq=>nomatch q) hgo ok w λD ys ds H' Z' _ p h1 h2 r=>p _ (by rw[Rep];exact⟨D,ys,rfl,SqL.of h2,r⟩)
def WG.unbind {α β:Type}{r:R α}{f:α->β}{P:β->Hp->MU}(w:WG F H Z (r.bind λd=>.ok (f d)) P):WG F H Z r λd H' Z'=>P (f d) H' Z':=by
 cases r with
 | ok d=>exact w
 | err k=>exact w
 | stuck=>exact w
def sv {i:Nat}{D:OV}(hgc:ifs=[]->gc=O8)(hgo:Own own g)(ok:StOk F H Z S σ)(w:WO F Z (Pi i (N8 own cap git g gc ge) S) D) :
  Pq i own cap (tI F git) (tGd (noE F) g) (Oi ifs (tT (noE F) gc)) (tE (noE F) ge) D σ H :=
 kE (P:=λd _ Z'=>WO F Z' (.nx (S.set i (some (.val d)))) D) (Q:=λa H'=>D.nx (σ.set i (some (.ref a))) H') hgc hgo ok (WG.unbind (WO.wg ok w)) λa ys ds H' Z' x p h1 h2 r =>
  p _ H' Z' (Same.refl _) ((ok.more x).setVal (by rw[Rep];exact⟨a,ys,rfl,SqL.of h2,r⟩))
def mZ {k:Nat}(i:Nat){y:Str}(bx:BX X F k)(b:BlkOk X.N X.env.scope scope N own cap)(hi:FI X F tg iter git)(hgo:Own own g)
  (hg:∀ cl C s H fp,FG (blk X scope cl C s H fp N) (noE F) tg g) (he:∀ cl C s H fp,FE (blk X scope cl C s H fp N) (noE F) elt ge) (hN:X.N.Nodup)
  (hsw:autoParam (swapsWith (.ListComp elt [⟨tg,iter,[],0⟩] scope pos) (some (.Name y py)) spos.line X.env=pure true) YW) (hiy:autoParam (X.N[i]?=some y) YW) (hy:autoParam (Loc X.env.scope y) Yy)
  (hfn:autoParam (MC X y) Yw) (hs:autoParam (∀ x,foldedSetIterable iter X.env x=pure x) YZ) :
  FS X F (.Assign [.Name y py] (.ListComp elt [⟨tg,iter,[],0⟩] scope pos) spos) (Pi i (N8 own cap git g O8 ge)) :=
 (mW (ifs:=[]) (tc:=tT (noE F) O8) b bx.calm (by simp) hi hg (λc q=>nomatch q) he hN hiy hy hfn hsw hs).weak λD σ H ⟨Z,S,ok,w⟩=>sv (λ_=>rfl) hgo ok w
def qL {k:Nat}(i:Nat){y:Str}(bx:BX X F k)(b:BlkOk X.N X.env.scope scope N own cap)(hi:FI X F tg iter git)(hgo:Own own g)
  (hg:∀ cl C s H fp,FG (blk X scope cl C s H fp N) (noE F) tg g) (ht:∀ cl C s H fp,FT (blk X scope cl C s H fp N) (noE F) c gc) (he:∀ cl C s H fp,FE (blk X scope cl C s H fp N) (noE F) elt ge) (hN:X.N.Nodup)
  (hsw:autoParam (swapsWith (.ListComp elt [⟨tg,iter,[c],0⟩] scope pos) (some (.Name y py)) spos.line X.env=pure true) YW) (hiy:autoParam (X.N[i]?=some y) YW) (hy:autoParam (Loc X.env.scope y) Yy)
  (hfn:autoParam (MC X y) Yw) (hs:autoParam (∀ x,foldedSetIterable iter X.env x=pure x) YZ) :
  FS X F (.Assign [.Name y py] (.ListComp elt [⟨tg,iter,[c],0⟩] scope pos) spos) (Pi i (N8 own cap git g gc ge)) :=
 (mW (ifs:=[c]) b bx.calm (by simp) hi hg (λc' q=>by cases q;exact ht) he hN hiy hy hfn hsw hs).weak λD σ H ⟨Z,S,ok,w⟩=>sv (λq=>nomatch q) hgo ok w
end
mutual
theorem m5:∀ (n:Nat) (d:D),good n d=true->eqD d d=true
 | n,.non,_=>by simp[eqD]
 | n,.bl b,_=>by simp[eqD]
 | n,.int i,_=>by simp[eqD]
 | n,.str x,_=>by simp[eqD]
 | 0,.tup xs,h=>by simp[good]at h
 | 0,.lst xs,h=>by simp[good]at h
 | n+1,.tup xs,h=>by rw[good]at h;rw[eqD];exact kF n xs h
 | n+1,.lst xs,h=>by rw[good]at h;rw[eqD];exact kF n xs h
 | n,.exc k,h=>by cases n<;>simp[good]at h
 | n,.fn k,h=>by cases n<;>simp[good]at h
 | n,.tab ks xs,h=>by cases n<;>simp[good]at h
 | n,.dic ks xs,h=>by cases n<;>simp[good]at h
 | n,.ptr a,h=>by cases n<;>simp[good]at h
theorem kF:∀ (n:Nat) (ds:List D),MH n ds=true->NO ds ds=true
 | n,[],_=>by simp[NO]
 | n,d::ds,h=>by
  rw[MH,HD]at h;rw[NO,m5 n d h.1,kF n ds h.2];rfl
end
theorem kG {n:Nat}:∀ {ds:List D} {i:Nat} {d:D},MH n ds=true->ds[i]?=some d->good n d=true
 | [],_,_,_,e=>by simp at e
 | x::xs,0,d,h,e=>by
  rw[MH,HD]at h
  simp at e;subst e;exact h.1
 | x::xs,i+1,d,h,e=>by
  rw[MH,HD]at h;exact kG h.2 (by simpa using e)
theorem sx:∀ (ds es:List D),NO ds es=((List.range (min ds.length es.length)).all (λj=>eqD (ds.getD j .non) (es.getD j .non))&&ds.length==es.length)
 | [],[]=>by simp[NO]
 | [],e::es=>by simp[NO]
 | d::ds,[]=>by simp[NO]
 | d::ds,e::es=>by
  rw[NO,sx ds es];have h1:min (d::ds).length (e::es).length=min ds.length es.length+1:=by simp only[HB];omega
  rw[h1,Kw,Ju,List.all_map];have h2:((d::ds).length==(e::es).length)=(ds.length==es.length):=by simp
  rw[h2];simp only[List.getD_cons_zero,Bool.and_assoc];rfl
section
variable {s:Shared}
def pL {a:Addr}{ys:List V}(I:Inv X am σ H s)(h:SqL X.K H a xs)(h':SqT X.K H a ys):False:=by
 obtain⟨its,r,p,_⟩:=I.list h;obtain⟨Mx,r',p',_⟩:=I.tuple h';exact SeqAt.ne_of_list_tuple p.isList (show s.heap.IsTuple a Mx.toArray from p') rfl
mutual
theorem qM {K:Frag}{C:MN}(hK:X.K=K)(I:Inv X am σ H s)(z:Same Z H):∀ (n:Nat) (d e:D) (v:V),good n d=true->good n e=true->Rep K C Z d v->Rep K C Z e v->d=e
 | n,.non,e,v,g1,g2,h,h'=>by rw[Rep]at h;subst h;cases e<;>rw[Rep]at h'<;>first | rfl | (obtain⟨_,_,q,_⟩:=h';cases q;done) | (obtain⟨_,q,_⟩:=h';cases q;done) | (cases h';done)
 | n,.bl b,e,v,g1,g2,h,h'=>by rw[Rep]at h;subst h;cases e<;>rw[Rep]at h'<;>first | (cases h';rfl) | (obtain⟨_,_,q,_⟩:=h';cases q;done) | (obtain⟨_,q,_⟩:=h';cases q;done) | (cases h';done)
 | n,.int b,e,v,g1,g2,h,h'=>by rw[Rep]at h;subst h;cases e<;>rw[Rep]at h'<;>first | (cases h';rfl) | (obtain⟨_,_,q,_⟩:=h';cases q;done) | (obtain⟨_,q,_⟩:=h';cases q;done) | (cases h';done)
 | n,.str b,e,v,g1,g2,h,h'=>by rw[Rep]at h;subst h;cases e<;>rw[Rep]at h'<;>first | (cases h';rfl) | (obtain⟨_,_,q,_⟩:=h';cases q;done) | (obtain⟨_,q,_⟩:=h';cases q;done) | (cases h';done)
 | 0,.tup xs,e,v,g1,g2,h,h'=>by simp[good]at g1
 | 0,.lst xs,e,v,g1,g2,h,h'=>by simp[good]at g1
 | n,.exc k,e,v,g1,g2,h,h'=>by cases n<;>simp[good]at g1
 | n,.fn k,e,v,g1,g2,h,h'=>by cases n<;>simp[good]at g1
 | n,.tab ks xs,e,v,g1,g2,h,h'=>by cases n<;>simp[good]at g1
 | n,.dic ks xs,e,v,g1,g2,h,h'=>by cases n<;>simp[good]at g1
 | n,.ptr a,e,v,g1,g2,h,h'=>by cases n<;>simp[good]at g1
 | n+1,.tup ds,e,v,g1,g2,h,h'=>by
  rw[Rep]at h;obtain⟨a,vs,rfl,h1,h2⟩:=h;cases e with
  | tup es =>
   rw[Rep]at h';obtain⟨b,us,q,k1,k2⟩:=h';cases q;have e1:vs=us:=I.tuple_inj (by rw[hK];exact h1.mono z) (by rw[hK];exact k1.mono z);subst e1;rw[good]at g1 g2;rw[m6 hK I z n ds es vs g1 g2 h2 k2]
  | lst es =>
   rw[Rep]at h';obtain⟨b,us,q,k1,k2⟩:=h';cases q;exact(pL I (by rw[hK];exact z.seq k1) (by rw[hK];exact h1.mono z)).elim
  | exc k=>simp[good]at g2
  | fn k=>simp[good]at g2
  | tab ks xs=>simp[good]at g2
  | dic ks xs=>simp[good]at g2
  | ptr a=>simp[good]at g2
  | _=>rw[Rep]at h';cases h'
 | n+1,.lst ds,e,v,g1,g2,h,h'=>by
  rw[Rep]at h;obtain⟨a,vs,rfl,h1,h2⟩:=h;cases e with
  | lst es =>
   rw[Rep]at h';obtain⟨b,us,q,k1,k2⟩:=h';cases q;have e1:vs=us:=I.list_inj (by rw[hK];exact z.seq h1) (by rw[hK];exact z.seq k1);subst e1;rw[good]at g1 g2;rw[m6 hK I z n ds es vs g1 g2 h2 k2]
  | tup es =>
   rw[Rep]at h';obtain⟨b,us,q,k1,k2⟩:=h';cases q;exact(pL I (by rw[hK];exact z.seq h1) (by rw[hK];exact k1.mono z)).elim
  | exc k=>simp[good]at g2
  | fn k=>simp[good]at g2
  | tab ks xs=>simp[good]at g2
  | dic ks xs=>simp[good]at g2
  | ptr a=>simp[good]at g2
  | _=>rw[Rep]at h';cases h'
theorem m6 {K:Frag}{C:MN}(hK:X.K=K)(I:Inv X am σ H s)(z:Same Z H):∀ (n:Nat) (ds es:List D) (vs:List V),MH n ds=true->MH n es=true->Reps K C Z ds vs->Reps K C Z es vs->ds=es
 | n,[],es,vs,g1,g2,h,h'=>by
  rw[Reps]at h;subst h;cases es with
  | nil=>rfl
  | cons e es=>rw[Reps]at h';obtain⟨_,_,q,_⟩:=h';cases q
 | n,d::ds,es,vs,g1,g2,h,h'=>by
  rw[Reps]at h;obtain⟨v,r,rfl,h1,h2⟩:=h;cases es with
  | nil=>rw[Reps]at h';cases h'
  | cons e es =>
   obtain⟨k1,k2⟩:=h'.uncons;rw[MH,HD]at g1 g2;rw[qM hK I z n d e v g1.1 g2.1 h1 k1,m6 hK I z n ds es r g1.2 g2.2 h2 k2]
end
noncomputable def NQ:D->Bool
 | .non=>true
 | .bl _=>true
 | .int _=>true
 | .str _=>true
 | _=>false
def sy {d:D}(f:NQ d=true)(h:Rep K C Z d v):Qk v=true:=by
 cases d<;>first | (rw[Rep]at h;subst h;rfl) | simp[NQ]at f
def At {d e:D}{u:V}(f1:NQ d=true)(f2:NQ e=true)(h:Rep K C Z d v)(h':Rep K C Z e u):eqV v u=eqD d e:=by
 cases d<;>first | (simp[NQ]at f1;done) | (cases e<;>first | (simp[NQ]at f2;done) | (rw[Rep]at h;rw[Rep]at h';subst h;subst h';simp[eqV,eqD]))
section
def kd (hK:X.K=K)(I:Inv X am σ H s)(z:Same Z H){d:D}{x:Value}(g:good n d=true)(h:Rep K C Z d v)(r:RelV v x) :
  (d=.non/\x=.none)\/(∃ b,d=.bl b/\x=.bool b)\/(∃ i t,d=.int i/\x=.int i t)\/(∃ a t,d=.str a/\x=.str a t) \/
  ∃ m ds vs its a,n=m+1/\MH m ds=true/\Reps K C Z ds vs/\Vals vs its/\v=.ref a/\x=.ref a/\((d=.tup ds/\s.heap.IsTuple a its.toArray)\/(d=.lst ds/\s.heap.IsList a its.toArray)):=by
 subst hK;cases d with
 | non=>rw[Rep]at h;subst h;cases r;exact .inl ⟨rfl,rfl⟩
 | bl b=>rw[Rep]at h;subst h;cases r;exact .inr (.inl ⟨_,rfl,rfl⟩)
 | int i=>rw[Rep]at h;subst h;obtain⟨t,rfl⟩:=r;exact .inr (.inr (.inl ⟨_,_,rfl,rfl⟩))
 | str a=>rw[Rep]at h;subst h;obtain⟨t,rfl⟩:=r;exact .inr (.inr (.inr (.inl ⟨_,_,rfl,rfl⟩)))
 | tup ds =>
  cases n with
  | zero=>simp[good]at g
  | succ m =>
   rw[Rep]at h;obtain⟨a,vs,rfl,h1,h2⟩:=h;cases r;obtain⟨its,r,p,_⟩:=I.tuple (h1.mono z);exact .inr (.inr (.inr (.inr ⟨m,ds,vs,its,a,rfl,g,h2,r,rfl,rfl,.inl ⟨rfl,p⟩⟩)))
 | lst ds =>
  cases n with
  | zero=>simp[good]at g
  | succ m =>
   rw[Rep]at h;obtain⟨a,vs,rfl,h1,h2⟩:=h;cases r;obtain⟨its,r,p,_⟩:=I.list (z.seq h1);exact .inr (.inr (.inr (.inr ⟨m,ds,vs,its,a,rfl,g,h2,r,rfl,rfl,.inr ⟨rfl,p.isList⟩⟩)))
 | _=>cases n<;>simp[good]at g
def els (ih:∀ (d e:D) (v u:V) (x y:Value),good n d=true->good n e=true->Rep K C Z d v->Rep K C Z e u->RelV v x->RelV u y->SeqAt.EqAt A s x y (eqD d e)){ds es:List D}{its Ms:List Value}(g1:MH n ds=true)(g2:MH n es=true)(h2:Reps K C Z ds vs)(k2:Reps K C Z es us)(r:Vals vs its)(r2:Vals us Ms)
  (j:Nat) (j1:j < its.toArray.size) (j2:j < Ms.toArray.size):SeqAt.EqAt A s its.toArray[j] Ms.toArray[j] (eqD (ds.getD j .non) (es.getD j .non)):=by
 have l1:j < ds.length:=by rw[h2.length,r.length];simpa using j1
 have l2:j < es.length:=by rw[k2.length,r2.length];simpa using j2
 have e1:ds[j]?=some ds[j]:=by simp
 have e2:es[j]?=some es[j]:=by simp
 obtain⟨w1,f1,f2⟩:=h2.get e1;obtain⟨w2,f3,f4⟩:=k2.get e2;obtain⟨z1,m1,m2⟩:=r.get f1;obtain⟨z2,m3,m4⟩:=r2.get f3;have n1:its.toArray[j]=z1:=by simpa [show j < its.length by simpa using j1] using m1
 have n2:Ms.toArray[j]=z2:=by simpa [show j < Ms.length by simpa using j2] using m3
 rw[n1,n2,show ds.getD j .non=ds[j] by simp[l1],show es.getD j .non=es[j] by simp[l2]];exact ih _ _ w1 w2 z1 z2 (kG g1 e1) (kG g2 e2) f2 f4 m2 m4
set_option maxHeartbeats 4000000 in
def eqB (hK:X.K=K)(I:Inv X am σ H s)(z:Same Z H):∀ (n:Nat) (A:Around) (d e:D) (v u:V) (x y:Value),good n d=true->good n e=true->Rep K C Z d v->Rep K C Z e u->RelV v x->RelV u y->A.units+n < cLine->SeqAt.EqAt A s x y (eqD d e)/\SeqAt.RcAt A s x y (eqD d e)/\SeqAt.RcNeAt A s x y (!eqD d e):=λn=>Nat.strongRecOn n λn ih A d e v u x y g1 g2 h h' rx ry hu=>by
  have u0:A.units < cLine:=by omega
  have hh:=h;have hh':=h';have fl:NQ d=true->NQ e=true->SeqAt.EqAt A s x y (eqD d e):=λf1 f2=>by rw[<- At f1 f2 h h'];exact ED rx ry (sy f1 h) (sy f2 h')
  rcases kd hK I z g1 h rx with ⟨rfl,rfl⟩ | ⟨_,rfl,rfl⟩ | ⟨_,_,rfl,rfl⟩ | ⟨_,_,rfl,rfl⟩ | ⟨m,ds,vs,its,a,rfl,w1,h2,r,rfl,rfl,⟨rfl,p⟩ | ⟨rfl,p⟩⟩ <;>
  rcases kd hK I z g2 h' ry with ⟨rfl,rfl⟩ | ⟨_,rfl,rfl⟩ | ⟨_,_,rfl,rfl⟩ | ⟨_,_,rfl,rfl⟩ | ⟨m2,es,us,Ms,b,e0,w2,k2,r2,rfl,rfl,⟨rfl,q⟩ | ⟨rfl,q⟩⟩ <;>
  simp only[eqD,Bool.not_false,IL]at fl ⊢ <;>
  try (refine⟨?_,?_,?_⟩<;>with_reducible first
   | exact fl rfl rfl
   | exact .none_none | exact .none_bool _ | exact .none_int _ _ | exact .none_str _ _ | exact .none_tuple q u0 | exact .none_list q u0
   | exact .bool_none _ | exact .bool_bool _ _ | exact .bool_int _ _ _ | exact .bool_str _ _ _ | exact .bool_tuple _ q u0 | exact .bool_list _ q u0
   | exact .int_none _ _ | exact .int_bool _ _ _ | exact .int_int _ _ _ _ | exact .int_str _ _ _ _ | exact .int_tuple _ _ q u0 | exact .int_list _ _ q u0
   | exact .str_none _ _ | exact .str_bool _ _ _ | exact .str_int _ _ _ _ | exact .str_str _ _ _ _ | exact .str_tuple _ _ q u0 | exact .str_list _ _ q u0
   | exact .tuple_none p u0 | exact .tuple_bool _ p u0 | exact .tuple_int _ _ p u0 | exact .tuple_str _ _ p u0 | exact .tuple_list p q u0
   | exact .list_none p u0 | exact .list_bool _ p u0 | exact .list_int _ _ p u0 | exact .list_str _ _ p u0 | exact .list_tuple p q u0)
  all_goals
   cases e0;have el:=els (A:=A.in1) (λd e v u x y g1 g2 h h' rx ry=>(ih m (Nat.lt_succ_self m) A.in1 d e v u x y g1 g2 h h' rx ry (by show A.units+1+m < cLine;omega)).1) w1 w2 h2 k2 r r2;have s1:its.toArray.size=ds.length:=by rw[Hs,h2.length,r.length]
   have s2:Ms.toArray.size=es.length:=by rw[Hs,k2.length,r2.length]
   have both:∀ {c:Bool},(a=b->c=true)->SeqAt.RcAt A s (.ref a) (.ref b) c->SeqAt.EqAt A s (.ref a) (.ref b) c:=λ{c} hc w=>by
    by_cases hab:a=b
    ·subst hab;rw[hc rfl];exact .same _
    ·exact .of_refs hab w
   have rf:a=b->NO ds es=true:=λhab=>by
    subst hab;have t:=qM hK I z (m+1) _ _ _ g1 g2 hh hh';have w:=m5 (m+1) _ g1;cases t
    simpa only[eqD] using w
   rw[sx]at rf ⊢
  ·have q1:=SeqAt.RcAt.tuples (A:=A) (e:=λj=>eqD (ds.getD j .non) (es.getD j .non)) p q u0 el;have q2:=SeqAt.RcNeAt.tuples (A:=A) (e:=λj=>eqD (ds.getD j .non) (es.getD j .non)) p q u0 el;rw[s1,s2]at q1 q2;exact⟨both rf q1,q1,q2⟩
  ·by_cases hs:ds.length=es.length
   ·have q1:=SeqAt.RcAt.lists (A:=A) (e:=λj=>eqD (ds.getD j .non) (es.getD j .non)) p q (by rw[s1,s2];exact hs) u0 el;have q2:=SeqAt.RcNeAt.lists (A:=A) (e:=λj=>eqD (ds.getD j .non) (es.getD j .non)) p q (by rw[s1,s2];exact hs) u0 el;rw[s1]at q1 q2;rw[hs,Nat.min_self,Ls,KA,<- hs]at rf ⊢;exact⟨both rf q1,q1,q2⟩
   ·rw[show (ds.length==es.length)=false by simpa using hs,LU]at rf ⊢;have q1:=SeqAt.RcAt.lists_lengths (A:=A) p q (by rw[s1,s2];simpa using hs) u0;exact⟨both rf q1,q1,SeqAt.RcNeAt.lists_lengths p q (by rw[s1,s2];simpa using hs) u0⟩
end
def vg (hK:X.K=K)(I:Inv X am σ H s)(z:Same Z H)(n:Nat)(A:Around)(d e:D)(v u:V)(x y:Value)(g1:good n d=true)(g2:good n e=true)(h:Rep K C Z d v)(h':Rep K C Z e u)(rx:RelV v x)(ry:RelV u y)(hu:A.units+n < cLine):SeqAt.EqAt A s x y (eqD d e):=(eqB hK I z n A d e v u x y g1 g2 h h' rx ry hu).1
end
noncomputable def Nf (x y:D):R D:=if isInt x=true then dI0 (λi j=>.int (i+j)) x y else if Nx x=true then Qn x y else Qo x y
noncomputable def Ob:MS:=dI0 λi j=>.int (i - j)
noncomputable def Nw (x y:D):R D:=if isInt x=true then dI P2 (λi j=>.int (i*j)) x y else if Nx x=true then Ql x y else Qm x y
noncomputable def OD:MS:=dI P3 λi j=>.int (i/j)
noncomputable def OJ:MS:=dI (λ_ j=>decide (0 < j)) λi j=>.int (i%j)
noncomputable def dLt:MS:=dI0 λi j=>.bl (decide (i < j))
noncomputable def dLe:MS:=dI0 λi j=>.bl (decide (i<=j))
noncomputable def dGt:MS:=dI0 λi j=>.bl (decide (j < i))
noncomputable def dGe:MS:=dI0 λi j=>.bl (decide (j<=i))
def aQ {i:Int}:Rep K C Z (.int i) (.int i):=by rw[Rep]
def aY {i:Bool}:Rep K C Z (.bl i) (.bl i):=by rw[Rep]
section
variable {a:Expr}{ga gb gc:MM}
def fB (ha:FE X F a ga)(hb:FE X F b gb):FE X F (.BinOp a .Sub b pos) (eOp Ob ga gb):=sj Er (cD λ_ _ _=>aQ) ha hb
def f8 (ha:FE X F a ga)(hb:FE X F b gb):FE X F (.BinOp a .FloorDiv b pos) (eOp OD ga gb):=sj Cd (Aj Co λ_ _ _=>aQ) ha hb
def f9 (ha:FE X F a ga)(hb:FE X F b gb):FE X F (.BinOp a .Mod b pos) (eOp OJ ga gb):=sj Et (Aj (λi j h=>Ik h) λ_ _ _=>aQ) ha hb
def DY (ha:FE X F a ga)(hb:FE X F b gb):FE X F (.Compare a [.Lt] [b] pos) (eOp dLt ga gb):=mT wx (cD λ_ _ _=>aY) ha hb
def Fz (ha:FE X F a ga)(hb:FE X F b gb):FE X F (.Compare a [.GtE] [b] pos) (eOp dGe ga gb):=mT Fv (cD λ_ _ _=>aY) ha hb
def wI (ha:FE X F a ga)(hb:FE X F b gb):FT X F (.Compare a [.Lt] [b] pos) (gB (eOp dLt ga gb)):=gU wx (cD λ_ _ _=>aY) ha hb
def DZ (ha:FE X F a ga)(hb:FE X F b gb):FT X F (.Compare a [.Gt] [b] pos) (gB (eOp dGt ga gb)):=gU Fu (cD λ_ _ _=>aY) ha hb
def ah (hK:X.K=F.K)(ha:FE X F a ga)(hb:FE X F b gb)(hs:autoParam (OS b) Yz):FE X F (.Subscript a b pos) (eOp dIx ga gb):=Fy EC (by rw[hK];exact EI) ha hb hs
def CA:OpR X (binaryOp .Add) (λx y H Q=>rI0 (λi j=>.int (i+j)) x y H Q\/(Qh X.K x y H Q\/∃ a b xs ys,x=.ref a/\y=.ref b/\SqL X.K H a xs/\SqL X.K H b ys/\xs.length+ys.length<=sizeLine/\∀ p,H p=none->Q (.ref p) (upd H p (.lst (xs++ys))))) :=
 Ep.or (Cp.or An)
def ax (hK:X.K=F.K)(ha:FE X F a ga)(hb:FE X F b gb):FE X F (.BinOp a .Add b pos) (eOp Nf ga gb) :=
 sj CA (by rw[hK];exact OpD.or (λx _=>isInt x) (cD λ_ _ _=>aQ) (OpD.or (λx _=>Nx x) Ak Am)) ha hb
def bB (hK:X.K=F.K)(ha:FE X F a ga)(hb:FE X F b gb):FE X F (.BinOp a .Mult b pos) (eOp Nw ga gb) :=
 sj (Es.or (Cq.or Cr)) (by rw[hK];exact OpD.or (λx _=>isInt x) (Aj Cm λ_ _ _=>aQ) (OpD.or (λx _=>Nx x) Al Ao)) ha hb
noncomputable def dEq (x y:D):R D:=if good 60 x=true/\good 60 y=true then .ok (.bl (eqD x y)) else .stuck
def RJ (K:Frag)(C:MN):R2:=λx y H Q=>∃ Z d e,Same Z H/\Rep K C Z d x/\Rep K C Z e y/\good 60 d=true/\good 60 e=true/\Q (.bl (eqD d e)) H
variable {k:Nat}
def Au (hK:X.K=F.K)(hr:Room k X.A):OpR X (compareOp .Eq) (RJ F.K F.C):=by
 intro am s σ H x y v u Q I rx ry h;obtain⟨Z,d,e,z,h1,h2,g1,g2,q⟩:=h;have hu:X.A.units+60 < cLine:=by have:=hr.un;omega
 exact(eqB hK I z 60 X.A d e x y v u g1 g2 h1 h2 rx ry hu).2.1 X.prog X.w X.xe _ ⟨.bl (eqD d e),H,I,rfl,q⟩
def Av:OpD F (RJ F.K F.C) dEq:=by
 intro H Z x y dx dy Q s rx ry w;unfold dEq at w;split at w
 ·rename_i g;exact⟨Z,dx,dy,s,rx,ry,g.1,g.2,WG.now w s _ aY⟩
 ·exact w.elim
def pM (bx:BX X F k)(ha:FE X F a ga)(hb:FE X F b gb):FE X F (.Compare a [.Eq] [b] pos) (eOp dEq ga gb):=mT (Au bx.K bx.room) Av ha hb
def fK (bx:BX X F k)(ha:FE X F a ga)(hb:FE X F b gb):FT X F (.Compare a [.Eq] [b] pos) (gB (eOp dEq ga gb)):=gU (Au bx.K bx.room) Av ha hb
def Oz (f f':MS)(ga gb gc:MM):MM:=λS=>(ga S).bind λx=>(gb S).bind λy=>(asB (f x y)).bind λk=>if k=true then (gc S).bind λw=>f' y w else .ok (.bl false)
variable {r r':R2}{f f':MS}{op op':CmpOp}
def pN (hd:OpD F r f)(hd':OpD F r' f'):∀ σ H Q,tE F (Oz f f' ga gb gc) σ H Q->Px r r' (tE F ga) (tE F gb) (tE F gc) σ H Q:=λσ H Q ⟨Z,S,ok,w⟩ =>
 aM ok w λdx x H1 Z1 ok1 x1 rx w1=>aM ok1 w1 λdy y H2 Z2 ok2 x2 ry w2=>hd H2 Z2 x y dx dy _ ok2.sub (rx.mono x2.z) ry (by
  cases e:f dx dy with
  | err k=>rw[e]at w2;exact w2
  | stuck=>rw[e]at w2;exact w2
  | ok d =>
   rw[e]at w2;intro H3 Z3 x3 v rv;cases d with
   | bl k =>
    rw[Rep]at rv;subst rv;have w3:=WG.more w2 x3;refine⟨k,rfl,?_⟩;have ok3:=ok2.more x3;cases k with
    | false=>exact WG.now w3 ok3.sub _ aY
    | true=>exact aM ok3 w3 λdw wv H4 Z4 ok4 x4 rw' w4=>hd' H4 Z4 y wv dy dw Q ok4.sub (ry.mono (x3.z.trans x4.z)) rw' w4
   | _=>exact w2.elim)
def sB (ho:OpR X (compareOp op) r)(ho':OpR X (compareOp op') r')(hd:OpD F r f)(hd':OpD F r' f')(ha:FE X F a ga)(hb:FE X F b gb)(hc:FE X F c gc)(hm:autoParam (lastMarks [op,op'] [b,c]=false) YG) :
  FE X F (.Compare a [op,op'] [b,c] pos) (Oz f f' ga gb gc):=(zV ho ho' ha hb hc hm).weak (pN hd hd')
def sC (ho:OpR X (compareOp op) r)(ho':OpR X (compareOp op') r')(hd:OpD F r f)(hd':OpD F r' f')(ha:FE X F a ga)(hb:FE X F b gb)(hc:FE X F c gc)(hm:autoParam (lastMarks [op,op'] [b,c]=false) YG) :
  FT X F (.Compare a [op,op'] [b,c] pos) (gB (Oz f f' ga gb gc)):=(zW ho ho' ha hb hc hm).weak (wE (pN hd hd'))
def mt (ha:FE X F a ga)(hb:FE X F b gb)(hc:FE X F c gc)(hm:autoParam (lastMarks [.LtE,.LtE] [b,c]=false) YG):FE X F (.Compare a [.LtE,.LtE] [b,c] pos) (Oz dLe dLe ga gb gc):=sB pz pz (cD λ_ _ _=>aY) (cD λ_ _ _=>aY) ha hb hc hm
def CB (ha:FE X F a ga)(hb:FE X F b gb)(hc:FE X F c gc)(hm:autoParam (lastMarks [.LtE,.LtE] [b,c]=false) YG):FT X F (.Compare a [.LtE,.LtE] [b,c] pos) (gB (Oz dLe dLe ga gb gc)):=sC pz pz (cD λ_ _ _=>aY) (cD λ_ _ _=>aY) ha hb hc hm
def qN (ha:FE X F a ga)(hb:FE X F b gb)(hc:FE X F c gc)(hm:autoParam (lastMarks [.LtE,.Lt] [b,c]=false) YG):FE X F (.Compare a [.LtE,.Lt] [b,c] pos) (Oz dLe dLt ga gb gc):=sB pz wx (cD λ_ _ _=>aY) (cD λ_ _ _=>aY) ha hb hc hm
def mw (ha:FE X F a ga)(hb:FE X F b gb)(hc:FE X F c gc)(hm:autoParam (lastMarks [.LtE,.Lt] [b,c]=false) YG):FT X F (.Compare a [.LtE,.Lt] [b,c] pos) (gB (Oz dLe dLt ga gb gc)):=sC pz wx (cD λ_ _ _=>aY) (cD λ_ _ _=>aY) ha hb hc hm
noncomputable def dIs:MS
 | x,.non=>.ok (.bl (match x with | .non=>true | _=>false))
 | x,.bl b=>.ok (.bl (match x with | .bl a=>a==b | _=>false))
 | _,_=>.stuck
def OB (x y:D):R D:=(asB (dIs x y)).bind λk=>.ok (.bl (!k))
noncomputable def isV:V->V->Bool
 | .non,.non=>true
 | .bl a,.bl b=>a==b
 | _,_=>false
def EK:OpR X (compareOp .Is) (λx y H Q=>(y=.non\/∃ b,y=.bl b)/\Q (.bl (isV x y)) H):=by
 intro am s σ H x y v u Q I rx ry h;obtain⟨hy,q⟩:=h;rcases hy with rfl | ⟨b,rfl⟩
 ·cases ry;refine is_none_gen (gT I q ?_);cases x<;>first
   | (cases rx;rfl)
   | (obtain⟨t,rfl⟩:=rx;rfl)
 ·cases ry;cases x<;>first
   | (obtain⟨t,rfl⟩:=rx;exact Hw (gT I q rfl))
   | (cases rx;exact Hw (gT I q rfl))
   | (cases rx;rename_i a;exact Hw (gT I q (by cases a<;>cases b<;>rfl)))
def yf:OpR X (compareOp .IsNot) (λx y H Q=>(y=.non\/∃ b,y=.bl b)/\Q (.bl (!isV x y)) H):=by
 intro am s σ H x y v u Q I rx ry h;obtain⟨hy,q⟩:=h;rcases hy with rfl | ⟨b,rfl⟩
 ·cases ry;refine isnot_none_gen (gT I q ?_);cases x<;>first
   | (cases rx;rfl)
   | (obtain⟨t,rfl⟩:=rx;rfl)
 ·cases ry;cases x<;>first
   | (obtain⟨t,rfl⟩:=rx;exact Hw (gT I q rfl))
   | (cases rx;exact Hw (gT I q rfl))
   | (cases rx;rename_i a;exact Hw (gT I q (by cases a<;>cases b<;>rfl)))
def wJ {d e:D}{x y:V}{r:D}(h:Rep K C Z d x)(h':Rep K C Z e y)(q:dIs d e=.ok r):(y=.non\/∃ b,y=.bl b)/\r=.bl (isV x y):=by
 cases e with
 | non =>
  rw[Rep]at h';subst h';cases q;refine⟨.inl rfl,?_⟩;cases d<;>rw[Rep]at h<;>first | (subst h;rfl) | (obtain⟨_,_,rfl,_⟩:=h;rfl) | (obtain⟨_,rfl,_⟩:=h;rfl)
 | bl b =>
  rw[Rep]at h';subst h';cases q;refine⟨.inr ⟨b,rfl⟩,?_⟩;cases d<;>rw[Rep]at h<;>first | (subst h;rfl) | (obtain⟨_,_,rfl,_⟩:=h;rfl) | (obtain⟨_,rfl,_⟩:=h;rfl)
 | _=>simp[dIs]at q
def Aw {d e:D}{k:Nat}(q:dIs d e=.err k):False:=by cases e<;>simp[dIs]at q
def EL:OpD F (λx y H Q=>(y=.non\/∃ b,y=.bl b)/\Q (.bl (isV x y)) H) dIs:=by
 intro H Z x y dx dy Q s rx ry w;cases e:dIs dx dy with
 | err k=>exact(Aw e).elim
 | stuck=>rw[e]at w;exact w.elim
 | ok r =>
  rw[e]at w;obtain⟨h1,rfl⟩:=wJ rx ry e;exact⟨h1,WG.now w s _ aY⟩
def yg:OpD F (λx y H Q=>(y=.non\/∃ b,y=.bl b)/\Q (.bl (!isV x y)) H) OB:=by
 intro H Z x y dx dy Q s rx ry w;unfold OB at w;cases e:dIs dx dy with
 | err k=>exact(Aw e).elim
 | stuck=>rw[e]at w;exact w.elim
 | ok r =>
  rw[e]at w;obtain⟨h1,rfl⟩:=wJ rx ry e;exact⟨h1,WG.now (a:=D.bl (!isV x y)) w s _ aY⟩
def D0 (ha:FE X F a ga)(hb:FE X F b gb):FT X F (.Compare a [.Is] [b] pos) (gB (eOp dIs ga gb)):=gU EK EL ha hb
def Ax (ha:FE X F a ga)(hb:FE X F b gb):FT X F (.Compare a [.IsNot] [b] pos) (gB (eOp OB ga gb)):=gU yf yg ha hb
noncomputable def N0 (xs:List D)(lo hi:Option Int):List D:=(xs.drop (HT.sIx xs.length 0 lo)).take (HT.sIx xs.length xs.length hi - HT.sIx xs.length 0 lo)
def Reps.cut {ds:List D}(r:Reps K C Z ds vs)(lo hi:Option Int):Reps K C Z (N0 ds lo hi) (Pl vs lo hi):=by
 unfold N0 Pl;rw[r.length];exact(r.drop _).take _
noncomputable def asI (d:D):R (Option Int):=match d with
 | .int i=>.ok (some i)
 | _=>.stuck
noncomputable def pNo:SS->R (Option Int):=λ_=>.ok none
def pSo (g:MM):SS->R (Option Int):=λS=>(g S).bind asI
def tP (F:Fx)(g:SS->R (Option Int)):TO:=λσ H Q=>∃ Z S,StOk F H Z S σ/\WG F H Z (g S) λo H' _=>Q o H'
variable {e:Expr}{lo hi:Option Expr}{g:MM}{l h:SS->R (Option Int)}{p2:Pos}
def Ay:PO X none (tP F pNo):=λam s σ H Q I ⟨Z,S,ok,w⟩=>Cg am s σ H Q I (WG.now w ok.sub)
def m7 (he:FE X F e g):PO X (some e) (tP F (pSo g)):=λam s σ H Q I ⟨Z,S,ok,w⟩=>Ch he am s σ H Q I (aM ok w λd v H1 Z1 ok1 x1 rv w1=>by
 cases d with
 | int i=>rw[Rep]at rv;exact⟨i,rv,WG.now w1 ok1.sub⟩
 | _=>exact w1.elim)
def wK {α:Type}{k:Option Int->R α}{P:α->Hp->MU}{Q:Option Int->MU}(ok:StOk F H Z S σ)(w:WG F H Z ((l S).bind k) P)
  (h:∀ o H1 Z1,StOk F H1 Z1 S σ->Ex H Z H1 Z1->WG F H1 Z1 (k o) P->Q o H1):tP F l σ H Q:=by
 refine⟨Z,S,ok,?_⟩;cases e:l S with
 | ok d =>
  rw[e]at w;intro H1 Z1 x;exact h d H1 Z1 (ok.more x) x (WG.more w x)
 | err k=>rw[e]at w;exact w
 | stuck=>rw[e]at w;exact w
end
def Ot (F:Fx)(r:MP)(f:MI):Prop:=∀ (H Z:Hp) (xs:List V) (ds:List D) (Q:VK),Same Z H->Reps F.K F.C Z ds xs->WG F H Z (f ds) (λd H' Z'=>∀ v,Rep F.K F.C Z' d v->Q v H')->r xs H Q
section
variable {x:Str}{p:Pos}{e:Expr}{es:Nd}{gs:ML}{id T:String}{r:MP}{f:MI}
def Az (hd:Ot F r f):∀ σ H Q,tE F (ND f gs) σ H Q->tCB r (tAl F gs) σ H Q:=λσ H Q ⟨Z,S,ok,w⟩=>a8 ok w λds vs H1 Z1 ok1 x1 rs w1=>hd H1 Z1 vs ds Q ok1.sub rs w1
def gX (hc:NH X (.builtin id) r)(hd:Ot F r f)(hg:Gl X x)(hm:X.mg x=none)(hv:bootBuiltins x=some (.builtin id))(ha:FA X F (e::es) gs)(hn:autoParam (x ≠ "__name__") YQ)(M5:autoParam (MA x) YQ)
  (he:autoParam (Id X e es) YW) (hpl:autoParam (IO X pos es) YW):FE X F (.Call (.Name x p) (e::es) [] pos) (ND f gs):=(eD hc hg hm hv ha hn M5 he hpl).weak (Az hd)
def pO (hc:NH X (.type T) r)(hd:Ot F r f)(hg:Gl X x)(hm:X.mg x=none)(hv:bootBuiltins x=some (.type T))(ha:FA X F (e::es) gs)(hn:autoParam (x ≠ "__name__") YQ)(M5:autoParam (MA x) YQ)
  (he:autoParam (Id X e es) YW) (hpl:autoParam (IO X pos es) YW):FE X F (.Call (.Name x p) (e::es) [] pos) (ND f gs):=(pI hc hg hm hv ha hn M5 he hpl).weak (Az hd)
end
def a9 {d:D}(r:Reps K C Z [d] vs):∃ v,vs=[v]/\Rep K C Z d v:=by
 rw[Reps]at r;obtain⟨v,r',rfl,h1,h2⟩:=r;rw[Reps]at h2
 grind
noncomputable def Nq:MI
 | [.lst xs]=>.ok (.int xs.length)
 | [.tup xs]=>.ok (.int xs.length)
 | _=>.stuck
def yh :Ot F (λxs H Q=>∃ p ys,xs=[.ref p]/\(SqL F.K H p ys\/SqT F.K H p ys)/\Q (.int ys.length) H) Nq:=by
 intro H Z xs ds Q s rs w;unfold Nq at w;split at w
 ·obtain⟨v,rfl,h⟩:=a9 rs;rw[Rep]at h;obtain⟨a,vs,rfl,h1,h2⟩:=h;exact⟨a,vs,rfl,.inl (s.seq h1),by rw[<- h2.length];exact WG.now w s _ aQ⟩
 ·obtain⟨v,rfl,h⟩:=a9 rs;rw[Rep]at h;obtain⟨a,vs,rfl,h1,h2⟩:=h;exact⟨a,vs,rfl,.inr (h1.mono s),by rw[<- h2.length];exact WG.now w s _ aQ⟩
 ·exact w.elim
noncomputable def Nu:MI
 | [.lst xs]=>.ok (.tup xs)
 | [.tup xs]=>.ok (.tup xs)
 | _=>.stuck
def sF :Ot F (λxs H Q=>∃ p ys,xs=[.ref p]/\((SqL F.K H p ys/\∀ l,H l=none->Q (.ref l) (upd H l (.tup ys)))\/(SqT F.K H p ys/\Q (.ref p) H))) Nu:=by
 intro H Z xs ds Q s rs w;unfold Nu at w;split at w
 ·obtain⟨v,rfl,h⟩:=a9 rs;rw[Rep]at h;obtain⟨a,vs,rfl,h1,h2⟩:=h;refine⟨a,vs,rfl,.inl ⟨s.seq h1,λp hp=>?_⟩⟩;have z:Same Z (upd Z p (.tup vs)):=aN (s.free hp);exact w _ _ (Ex.alloc s hp) _ (by rw[Rep];exact⟨p,_,rfl,SqT.of az,h2.mono z⟩)
 ·obtain⟨v,rfl,h⟩:=a9 rs;have hh:=h;rw[Rep]at h;obtain⟨a,vs,rfl,h1,h2⟩:=h;exact⟨a,vs,rfl,.inr ⟨h1.mono s,WG.now w s _ hh⟩⟩
 ·exact w.elim
noncomputable def NK:List D->Option (List Bool)
 | []=>some []
 | .bl b::r=>(NK r).map (b::·)
 | _::_=>none
theorem eF {K:Frag}{C:MN}{Z:Hp}:∀ {ds:List D} {vs:List V} {bs:List Bool},Reps K C Z ds vs->NK ds=some bs->vs=bs.map V.bl
 | [],vs,bs,r,e=>by rw[Reps]at r;cases e;exact r
 | d::ds,vs,bs,r,e=>by
  rw[Reps]at r;obtain⟨v,r',rfl,h1,h2⟩:=r;cases d with
  | bl b =>
   rw[NK]at e;cases q:NK ds with
   | none=>rw[q]at e;cases e
   | some bs' =>
    rw[q]at e;cases e;rw[Rep]at h1;rw[h1,eF h2 q];rfl
  | _=>simp[NK]at e
noncomputable def O6:MI
 | [.lst xs]=>match NK xs with
  | some bs=>.ok (.bl (bs.all id))
  | none=>.stuck
 | _=>.stuck
noncomputable def P0:MI
 | [.lst xs]=>match NK xs with
  | some bs=>.ok (.bl (bs.any id))
  | none=>.stuck
 | _=>.stuck
theorem eG:∀ {bs:List Bool} {us:List Value},Vals (bs.map V.bl) us->us=bs.map Value.bool
 | [],us,h=>by rw[IG]at h;cases h;rfl
 | b::bs,us,h=>by
  rw[Hq]at h;cases h with
  | cons r t =>
   have r':=r;rw[r',eG t];rfl
def m8 (hc:X.calm=true):NH X (.builtin "all") (λxs H Q=>∃ (p:Addr) (bs:List Bool),xs=[.ref p]/\SqL X.K H p (bs.map V.bl)/\Q (.bl (bs.all id)) H):=by
 intro am s σ H xs us Q I r h;obtain⟨p,bs,rfl,hq,q⟩:=h;obtain⟨u,rfl,ru⟩:=N1 r;cases ru;obtain⟨its,rv,pl,hz⟩:=I.list hq;have e:=eG rv;subst e;have M0:p < s.zz:=by obtain⟨o,_,ho,_⟩:=pl;exact HC ho
 refine call_all_walk (Lb pl.isList ⟨s.zz,_,_,_,_,_,λi=>bs.getD i false,rfl,Walks.list (show X.A.in1.handled=none from I.ok.hd hc) s.zz p (HQ M0) (bs.map Value.bool).toArray,⟨⟨_,HP _ rfl,rfl,rfl⟩,?_⟩,?_,λh' tk hk=>?_⟩)
 ·obtain⟨o,ho,h2,n,h3⟩:=pl.isList;exact⟨o,Hn _ ho,h2,n,h3⟩
 ·intro i v s' Q' E' hp hq';have hp':bs[i]?.map Value.bool=some v:=by simpa using hp
  cases e:bs[i]? with
  | none=>rw[e]at hp';cases hp'
  | some b =>
   rw[e]at hp';cases hp';refine IC ?_;have:bs.getD i false=b:=by simp[List.getD,e]
   have hq2:Q' (bs.getD i false) s':=hq';rw[this]at hq2;exact hq2
 ·have Mz:(List.range (bs.map Value.bool).toArray.size).all (λi=>bs.getD i false)=bs.all id:=by
   rw[Hs,Hl];rw[IE,HS,HS];constructor
   ·intro h b hb;obtain⟨i,hi,rfl⟩:=J8.mp hb;have:=h i (HG.mpr hi)
    simpa [List.getD,hi] using this
   ·intro h i hi;have hi':=HG.mp hi;have:=h bs[i] (J9 hi')
    simpa [List.getD,hi'] using this
  rw[Mz];exact⟨.bl (bs.all id),H,I.kept λb o e=>hk b o (by simp;exact HQ (HC e)) (Hn _ e),rfl,q⟩
def yi :Ot F (λxs H Q=>∃ (p:Addr) (bs:List Bool),xs=[.ref p]/\SqL F.K H p (bs.map V.bl)/\Q (.bl (bs.all id)) H) O6:=by
 intro H Z xs ds Q s rs w;unfold O6 at w;split at w
 ·split at w
  ·rename_i bs e;obtain⟨v,rfl,h⟩:=a9 rs;rw[Rep]at h;obtain⟨a,vs,rfl,h1,h2⟩:=h;have e2:=eF h2 e;subst e2;exact⟨a,bs,rfl,s.seq h1,WG.now w s _ aY⟩
  ·exact w.elim
 ·exact w.elim
section
variable {p:Pos}{e:Expr}{es:Nd}{gs:ML}{k:Nat}
def aZ (bx:BX X F k)(hg:Gl X "len")(hm:X.mg "len"=none)(ha:FA X F [e] gs)(he:autoParam (Id X e []) YW)(hpl:autoParam (IO X pos []) YW):FE X F (.Call (.Name "len" p) [e] [] pos) (ND Nq gs) :=
 gX (by have:=qH (X:=X);rw[bx.K]at this;exact this) yh hg hm PySem.boot_len ha (he:=he)
def bD (bx:BX X F k)(hg:Gl X "tuple")(hm:X.mg "tuple"=none)(ha:FA X F [e] gs)(he:autoParam (Id X e []) YW)(hpl:autoParam (IO X pos []) YW):FE X F (.Call (.Name "tuple" p) [e] [] pos) (ND Nu gs) :=
 pO (by have:=oJ (X:=X);rw[bx.K]at this;exact this) sF hg hm (by decide +kernel) ha (he:=he)
def qO (bx:BX X F k)(hg:Gl X "all")(hm:X.mg "all"=none)(ha:FA X F [e] gs)(he:autoParam (Id X e []) YW)(hpl:autoParam (IO X pos []) YW):FE X F (.Call (.Name "all" p) [e] [] pos) (ND O6 gs) :=
 gX (by have:=m8 bx.calm;rw[bx.K]at this;exact this) yi hg hm (by decide +kernel) ha (he:=he)
end
end FF
namespace FF
open PySem PySem.Spec PySem.Calls PyProof.Rows PySem.W
variable {M:Model}{tk:Tok}
def Rc (a C:Addr)(h:Heap):Prop:=∃ o,h.get? a=some o/\o.cls=.ref C/\∃ vs,o.data=.fields vs
structure Of (K:Frag)(C:Addr):Prop where
 ga:findIn K (.ref C) "__getattribute__"=some (some (.builtin "BaseException.__getattribute__"))
 gt:findIn K (.ref C) "__getattr__"=some none
 cl:findIn K (.ref C) "__class__"=some (some (.builtin "object.__class__"))
 be:subIn K (.ref C) (.type "BaseException")=some true
 ob:subIn K (.ref C) (.type "object")=some true
 ty:(clsIn K C).isSome=true
section
variable {prog:Program}{w:World}{A:Around}{E:MJ}{h:Heap}{g:Array GenState}{d:Drawn}{t:Nat}{os:OsState}{a C:Addr}{K:Frag}{o:Obj}{vs:Array Value}
def vh (p:Rc a C h):Looks M h (typeOf (.ref a)) (.ref C):=by
 obtain⟨o,h1,h2,h3⟩:=p;exact h2 ▸ (Looks.ld h1).andThen .now
def vi (X:K.In h)(k:Of K C):Looks M h (isType (.ref C)) true:=by
 have z:=k.ty;unfold clsIn at z;split at z
 ·rename_i c' d' cd' sl' ho;intro A' Q' E' s' kk q;unfold isType loadHead;exact Hk (wpAny_loadPart (kk _ _ (X _ _ ho)) (Hw q))
 ·cases z
theorem oP {R:Result->MT}(X:K.In h)(k:Of K C)(hx:h.get? a=some o)(hc:o.cls=.ref C)(hq:R (.ok (.ret (.ref C))) ⟨h,g,d,t,os⟩) :
  codeAny (model prog w) A (.call (.builtin "getset_descriptor.__get__") ⟨[.builtin "object.__class__",.ref a,.ref C],[]⟩) R ⟨h,g,d,t,os⟩:=by
 have hT5:=LX;have L8:Looks (model prog w) h (isSubtype (.ref C) (.type (".".intercalate ("object.__class__".cutAt '.').dropLast))) true:=by
  rw[F.owner_object_class];exact looks_subIn X k.ob
 refine codeAny_call_builtin Md.plain F.entry_gs_get (Md.check _ _ _ _ _ _ _ _ hT5 (F.args_gs_get _ _ _) ?_)
 repeat (any_goals (first | assumption | (with_reducible refine Ji hx ?_;rw[hc]) | (with_reducible refine L8.at ?_) | wp_step))
 refine⟨Code.quiet_builtin _ (by simp),LH F.entry_object_class ?_⟩
 repeat (any_goals (first | assumption | (with_reducible refine Ji hx ?_;rw[hc]) | wp_step))
theorem l6 {Q:Fin->MT}(X:K.In h)(k:Of K C)(hx:h.get? a=some o)(hc:o.cls=.ref C)(hq:Q (.done (.ret (.ref C))) ⟨h,g,d,t,os⟩) :
  wpAny (model prog w) A (Builtin.«object.__getattribute__» ⟨[.ref a,.str "__class__" tk],[]⟩) Q E ⟨h,g,d,t,os⟩:=by
 have f5:=LX;have f6:=Md.lookup;have f7:=F.slot_gs_set.lookup;have L4:Looks (model prog w) h (typeLookup (.ref C) "__class__") _:=Ml X k.cl
 repeat (any_goals (first | assumption | (with_reducible refine Ji hx ?_;rw[hc]) | (with_reducible refine L4.at ?_) | wp_step))
 refine oP X k hx hc ?_
 repeat (any_goals (first | assumption | wp_step))
theorem yj {nameV:Value}{Q:Unit->MT}(X:K.In h)(k:Of K C)(hx:h.get? a=some o)(hc:o.cls=.ref C)(hq:Q () ⟨h,g,d,t,os⟩):wpAny M A (checkBuiltinCall "BaseException.__getattribute__" ⟨[.ref a,nameV],[]⟩) Q E ⟨h,g,d,t,os⟩:=by
 have hk:builtinKind "BaseException.__getattribute__"=some .slot:=by decide +kernel
 have hsplit:splitId "BaseException.__getattribute__"=some ("BaseException","__getattribute__"):=by decide +kernel
 have L8:Looks M h (isSubtype (.ref C) (.type "BaseException")) true:=looks_subIn X k.be;have ha:=F.args_bexc_ga (.ref a) nameV;simp only[checkBuiltinCall,hk,hsplit];refine Hk ?_
 ·unfold isInstance
  repeat (first | (with_reducible refine Ji hx ?_;rw[hc]) | (with_reducible refine L8.at ?_) | wp_step)
  exact hq
theorem m9 {R:Result->MT}(X:K.In h)(k:Of K C)(hx:h.get? a=some o)(hc:o.cls=.ref C)(hq:R (.ok (.ret (.ref C))) ⟨h,g,d,t,os⟩) :
  codeAny (model prog w) A (.call (.builtin "BaseException.__getattribute__") ⟨[.ref a,.str "__class__" tk],[]⟩) R ⟨h,g,d,t,os⟩ :=
 codeAny_call_builtin F.attr_ValueError.ga.plain F.entry_bexc_ga (yj X k hx hc (l6 X k hx hc hq))
def qP {Q:MJ}(X:K.In h)(k:Of K C)(hx:h.get? a=some o)(hc:o.cls=.ref C)(hq:Q (.ref C) ⟨h,g,d,t,os⟩) :
  wpAny (model prog w) A (getAttrBy (.ref a) (.str "__class__" tk) false) Q E ⟨h,g,d,t,os⟩:=by
 have f3:=F.attr_ValueError.ga.bind (.ref a);have L1:Looks (model prog w) h (typeLookup (.ref C) "__getattribute__") _:=Ml X k.ga;have L2:Looks (model prog w) h (typeLookup (.ref C) "__getattr__") _:=Ml X k.gt;have hx2:(Value.builtin "BaseException.__getattribute__" == Value.builtin "object.__getattribute__")=false:=by decide +kernel
 have hx1:(onTheHeap (Value.ref C)&&Value.builtin "BaseException.__getattribute__" == Value.builtin "object.__getattribute__")=false:=by rw[hx2];rfl
 repeat (any_goals (first | assumption | (with_reducible refine Ji hx ?_;rw[hc]) | (with_reducible refine L1.at ?_) | (with_reducible refine L2.at ?_) | wp_step))
 refine m9 X k hx hc ?_
 repeat (any_goals (first | assumption | wp_step))
def ng {Q:Option Value->MT}(X:K.In h)(k:Of K C)(hx:h.get? a=some o)(hc:o.cls=.ref C)(hq:Q (some (.ref C)) ⟨h,g,d,t+1,os⟩) :
  wpAny (model prog w) A (getAttr? (.ref a) "__class__") Q E ⟨h,g,d,t,os⟩:=by
 unfold getAttr? getAttrBy?
 repeat (any_goals (first | assumption | with_reducible apply qP X k hx hc | wp_step))
end
end FF
namespace FF
open PySem PySem.Spec PyProof.Rows L2
variable {X:Cx}{K:Frag}{k:Nat}{C:MN}{pos Mo KW np:Pos}{e:Expr}{g:MM}{gs:ML}{x:Str}{σ σ':St}{H H':Hp}{a C0:Addr}{es:Nd}{am:MZ}{h:Heap}{M:Model}{E:MJ}{q:Nat->Bool}
def AA {C:Addr}(k:Of K C):PySem.W.KitX K (.ref a) (.ref C) (Rc a C) where
 ty:=λ_ _ _ p=>vh p
 it:=λ_ _ X _=>vi X k
 ne:=λh tp dd its n sl X htp=>by
  refine Ks.mpr λq=>?_
  have e:C=tp:=Value.ref.inj (Lk.mp q);subst e;have z:=k.ty;unfold clsIn at z;split at z
  ·rename_i c' d' cd' sl' ho;have z:=(X _ _ ho).symm.trans htp;cases z
  ·cases z
 ca:=λ{_ _ _ _ _ s} X p h=>by
  obtain⟨hh,g,d,t,os⟩:=s;obtain⟨o,h1,h2,_⟩:=p;exact ng X k h1 h2 h
noncomputable def tyD (C:MN):D->Value
 | .non=>.type "NoneType"
 | .bl _=>.type "bool"
 | .int _=>.type "int"
 | .str _=>.type "str"
 | .tup _=>.type "tuple"
 | .lst _=>.type "list"
 | .exc k=>.ref (C k)
 | .fn _=>.none
 | .tab _ _=>.none
 | .dic _ _=>.none
 | .ptr _=>.none
noncomputable def PD:D->Bool
 | .tab _ _=>true
 | .dic _ _=>true
 | .ptr _=>true
 | _=>false
noncomputable def cV:V->Value
 | .ty n=>.type n
 | .ref a=>.ref a
 | _=>.none
def sG :NH X (.builtin "isinstance") (λxs H Q=>∃ (Z:Hp) (d:D) (x y:V) (b:Bool),xs=[x,y]/\Same Z H/\Rep X.K C Z d x/\((∃ n,y=.ty n)\/∃ a,y=.ref a) /\
  kitOne X.K (tyD C d) (cV y)=some b/\(∀ j,d=.exc j->Of X.K (C j))/\(∀ j,d≠.fn j)/\PD d=false/\Q (.bl b) H):=by
 intro am s σ H xs us Q I r h;obtain⟨Z,d,x,y,b,rfl,sm,rp,hy,e,he,hf,hdc,q⟩:=h;obtain⟨u,c,rfl,ru,rc⟩:=QU r;have hc:c=cV y:=by
  rcases hy with ⟨n,rfl⟩ | ⟨a,rfl⟩<;>exact rc
 subst hc;have fin:∀ tk,EP X am σ Q (.bool b) { s with toks:=tk }:=λtk=>⟨.bl b,H,I.tok tk,rfl,q⟩
 cases d with
 | non=>rw[Rep]at rp;subst rp;cases (show u=Value.none from ru);exact kia_one PySem.W.kitx_none I.kIn Jn e (λz=>nomatch z) fin
 | bl k=>rw[Rep]at rp;subst rp;cases (show u=Value.bool k from ru);exact kia_one PySem.W.kitx_bool I.kIn Jn e (λz=>nomatch z) fin
 | int i=>rw[Rep]at rp;subst rp;obtain⟨t,rfl⟩:=(show ∃ t,u=Value.int i t from ru);exact kia_one PySem.W.kitx_int I.kIn Jn e (λz=>nomatch z) fin
 | str i=>rw[Rep]at rp;subst rp;obtain⟨t,rfl⟩:=(show ∃ t,u=Value.str i t from ru);exact kia_one PySem.W.kitx_str I.kIn Jn e (λz=>nomatch z) fin
 | tup ds =>
  rw[Rep]at rp;obtain⟨a,vs,rfl,h1,h2⟩:=rp;cases (show u=Value.ref a from ru);obtain⟨its,_,⟨o,p1,p2,_⟩,_⟩:=I.tuple (h1.mono sm);exact kia_one PySem.W.kitx_tuple I.kIn ⟨o,p1,p2⟩ e (λz=>nomatch z) fin
 | lst ds =>
  rw[Rep]at rp;obtain⟨a,vs,rfl,h1,h2⟩:=rp;cases (show u=Value.ref a from ru);obtain⟨its,_,⟨o,n,p1,p2,_⟩,_⟩:=I.list (sm.seq h1);exact kia_one PySem.W.kitx_list I.kIn ⟨o,p1,p2⟩ e (λz=>nomatch z) fin
 | fn k=>exact absurd rfl (hf k)
 | tab _ _=>cases hdc
 | dic _ _=>cases hdc
 | ptr _=>cases hdc
 | exc k =>
  rw[Rep]at rp;obtain⟨a,rfl,h1⟩:=rp;cases (show u=Value.ref a from ru);obtain⟨o,h2,h3,h5⟩:=(show ObjOk X.prog X.w H s.heap a (Pw C k a) from I.hok a _ (sm a _ h1)).1;exact kia_one (AA (he k rfl)) I.kIn ⟨o,h2,h3,h5⟩ e (λz=>nomatch z) fin
abbrev MY:=D->Option Bool
noncomputable def Nn (q:MY)(d:D):R D:=match q d with
 | some b=>.ok (.bl b)
 | none=>.stuck
def eIs (q:MY)(g:MM):MM:=λS=>(g S).bind (Nn q)
structure IsA (K:Frag)(C:MN)(y:V)(q:MY):Prop where
 one:(∃ n,y=.ty n)\/∃ a,y=.ref a
 ans:∀ d b,q d=some b->kitOne K (tyD C d) (cV y)=some b
 exc:∀ j b,q (.exc j)=some b->Of K (C j)
 fn:∀ j,q (.fn j)=none
 dct:∀ d,PD d=true->q d=none
section
variable {F:Fx}{p:Pos}{ec:Expr}{y:V}{q:MY}
def EM (bx:BX X F k)(hq:IsA F.K F.C y q):∀ σ H Q,tE F (eIs q g) σ H Q->tCB (λxs H Q=>∃ (Z:Hp) (d:D) (x y:V) (b:Bool),xs=[x,y]/\Same Z H/\Rep X.K F.C Z d x/\((∃ n,y=.ty n)\/∃ a,y=.ref a) /\
  kitOne X.K (tyD F.C d) (cV y)=some b/\(∀ j,d=.exc j->Of X.K (F.C j))/\(∀ j,d≠.fn j)/\PD d=false/\Q (.bl b) H) (Qf (tE F g) (Qf (tC y) RB)) σ H Q:=λσ H Q ⟨Z,S,ok,w⟩ =>
 aM ok w λd v H1 Z1 ok1 x1 rv w1=>by
  cases e:q d with
  | none=>unfold Nn at w1;rw[e]at w1;exact w1.elim
  | some b =>
   unfold Nn at w1;rw[e]at w1;refine⟨Z1,d,v,y,b,rfl,ok1.sub,by rw[bx.K];exact rv,hq.one,by rw[bx.K];exact hq.ans d b e,λj ej=>?_,λj ej=>(by rw[ej,hq.fn j]at e;cases e),(by cases hd:PD d with | false=>rfl | true=>rw[hq.dct d hd]at e;cases e),WG.now w1 ok1.sub _ aY⟩;subst ej;rw[bx.K];exact hq.exc j b e
def av (bx:BX X F k)(hg:Gl X "isinstance")(hm:X.mg "isinstance"=none)(hq:IsA F.K F.C y q)(ha:FE X F e g)(hc:PE X ec (tC y))(he:autoParam (Id X e [ec]) YW)
  (he2:autoParam (Id X ec []) YW) (hpl:autoParam (IO X pos [ec]) YW) :
  FE X F (.Call (.Name "isinstance" p) [e,ec] [] pos) (eIs q g) :=
 (eD sG hg hm (by decide +kernel) (mq ha (mq hc u7 he2) he) (he:=he) (hpl:=hpl)).weak (EM bx hq)
end
noncomputable def NT:MY
 | .tup _=>some true
 | .exc _=>none
 | .fn _=>none
 | .tab _ _=>none
 | .dic _ _=>none
 | .ptr _=>none
 | _=>some false
noncomputable def Pu:MY
 | .int _=>some true
 | .bl _=>some true
 | .exc _=>none
 | .fn _=>none
 | .tab _ _=>none
 | .dic _ _=>none
 | .ptr _=>none
 | _=>some false
noncomputable def OX:MY
 | .bl _=>some true
 | .exc _=>none
 | .fn _=>none
 | .tab _ _=>none
 | .dic _ _=>none
 | .ptr _=>none
 | _=>some false
noncomputable def Qi:MY
 | .lst _=>some true
 | .exc _=>none
 | .fn _=>none
 | .tab _ _=>none
 | .dic _ _=>none
 | .ptr _=>none
 | _=>some false
def bJ :IsA K C (.ty "tuple") NT:=⟨.inl ⟨_,rfl⟩,λd b e=>by cases d<;>cases e<;>with_unfolding_all rfl,λj b e=>(nomatch e),λ_=>rfl,λd h=>by cases d<;>first | rfl | cases h⟩
def qQ :IsA K C (.ty "int") Pu:=⟨.inl ⟨_,rfl⟩,λd b e=>by cases d<;>cases e<;>with_unfolding_all rfl,λj b e=>(nomatch e),λ_=>rfl,λd h=>by cases d<;>first | rfl | cases h⟩
def nh :IsA K C (.ty "bool") OX:=⟨.inl ⟨_,rfl⟩,λd b e=>by cases d<;>cases e<;>with_unfolding_all rfl,λj b e=>(nomatch e),λ_=>rfl,λd h=>by cases d<;>first | rfl | cases h⟩
def AB :IsA K C (.ty "list") Qi:=⟨.inl ⟨_,rfl⟩,λd b e=>by cases d<;>cases e<;>with_unfolding_all rfl,λj b e=>(nomatch e),λ_=>rfl,λd h=>by cases d<;>first | rfl | cases h⟩
def Rg (i:Nat)(gs:ML):SS->O:=λS=>rO ((gs S).bind λds=>if ds.length<=16777216 then .ok (.nx (S.set i (some (.own ds)))) else .stuck)
def Qx (i:Nat)(gs:ML):SS->O:=λS=>match S[i]? with
 | some (some (.own ds))=>rO ((gs S).bind λes=>match es with
  | [d]=>if ds.length < 16777216 then .ok (.nx (S.set i (some (.own (ds++[d]))))) else .stuck
  | _=>.stuck)
 | _=>.stuck
def Qw (i:Nat)(gs:ML):SS->O:=λS=>match S[i]? with
 | some (some (.own ds))=>rO ((gs S).bind λes=>match es with
  | [.lst xs]=>if ds.length+xs.length<=16777216 then .ok (.nx (S.set i (some (.own (ds++xs))))) else .stuck
  | [.tup xs]=>if ds.length+xs.length<=16777216 then .ok (.nx (S.set i (some (.own (ds++xs))))) else .stuck
  | _=>.stuck)
 | _=>.stuck
def SD (K:Frag):V->MP:=λx vs H Q=>∃ l b xs zs,x=.ref l/\vs=[.ref b]/\H l=some (.lst xs)/\(SqL K H b zs\/SqT K H b zs)/\xs.length+zs.length<=sizeLine/\Q .non (upd H l (.lst (xs++zs)))
theorem EN :MtR X "list.extend" (SD X.K):=by
 intro am s σ H x vs v us Q I rx rv h;obtain⟨l,b,xs,zs,rfl,rfl,hH,hB,hz,q⟩:=h;cases rx;obtain⟨u,rfl,ru⟩:=rv.one;cases ru;obtain⟨z,its,n,r,hl,e⟩:=I.lstM hH;rcases hB with hB | hB
 ·obtain⟨Ms,r2,⟨⟨c2,d2,dt2,sl2⟩,n2,e2,p2,p3,p4⟩,z2⟩:=I.list hB;simp only at p2 p3 p4;subst p2 p3 p4;have hl2:=r2.length;have hsz:its.toArray.size+Ms.toArray.size<=sizeLine:=by rw[Hs,Hs];omega
  refine II F.slot_list_extend ⟨_,e,rfl⟩ F.entry_list_extend (F.args_list_extend_2 _ _) (xW l b its.toArray Ms.toArray n n2 _ _ hsz) ⟨e,e2,?_⟩;refine⟨.non,_,I.lset hH e (by simp) (r.append r2) ?_,rfl,q⟩
  grind
 ·obtain⟨Ms,r2,⟨⟨c2,d2,dt2,sl2⟩,e2,p2,n2,p3⟩,z2⟩:=I.tuple hB;simp only at p2 p3;subst p2 p3;have hl2:=r2.length;have hsz:its.toArray.size+Ms.toArray.size<=sizeLine:=by rw[Hs,Hs];omega
  refine II F.slot_list_extend ⟨_,e,rfl⟩ F.entry_list_extend (F.args_list_extend_2 _ _) (xX l b its.toArray Ms.toArray n n2 _ _ hsz) ⟨e,e2,?_⟩;refine⟨.non,_,I.lset hH e (by simp) (r.append r2) ?_,rfl,q⟩
  grind
section
variable {F:Fx}{p0 M7:Pos}
def cg (i:Nat){pos':Pos}(hN:X.N.Nodup)(h:FA X F es gs)(hi:autoParam (X.N[i]?=some x) YW)(hx:autoParam (Loc X.env.scope x) Yy)
  (hs:autoParam (swapsWith (.List es M7) (some (.Name x pos')) pos.line X.env=pure false) YW) (hf:autoParam (MC X x) Yw):FS X F (.Assign [.Name x pos'] (.List es M7) pos) (Rg i gs) :=
 (qE hN hi hx (zX h) hs hf).weak λD σ H ⟨Z,S,ok,w⟩=>a8 ok (WO.wg ok w) λds vs H1 Z1 ok1 x1 rs w1=>by
  split at w1
  ·rename_i hl;refine⟨by rw[<- rs.length,HV];exact hl,λp hp=>?_⟩;have w2:=WG.now w1 ok1.sub;exact w2 _ _ Z1 (Same.refl _) (ok1.newOwn hp rs)
  ·exact w1.elim
abbrev MB (X:Cx)(p:Pos)(e:Expr):Prop:=((backTo p (starEach [e] X.env)).all (λx=>!x.1)&&(backToKw p (keywordEach [] X.env)).all (λx=>x.1.isSome)&&decide ([e].length+([]:List Keyword).length+(if ([]:List Keyword).isEmpty then 0 else 1)<30))=true
def fL (i:Nat)(ha:FA X F [e] gs)(hi:autoParam (X.N[i]?=some x) YW)(hv:autoParam (Vis X.env.scope x) Yq)(hd:autoParam (MA x) YQ)
  (M1:autoParam (MD x) YQ)
  (Mv:autoParam (attributeBase (.Name x p0) "append" X.env (eval (.Name x p0) X.env)=eval (.Name x p0) X.env) YW)
  (hfew:autoParam (MB X KW e) YW)
  (Mu:autoParam ((Mo.endLine==KW.line)=true) YW) (hs:autoParam (Id X e []) YW) (Mr:autoParam (IO X KW []) YW)
  (hsw:autoParam (swapsWith (.Call (.Attribute (.Name x p0) "append" Mo) [e] [] KW) none pos.line X.env=pure false) YW) :
  FS X F (.Expr (.Call (.Attribute (.Name x p0) "append" Mo) [e] [] KW) pos) (Qx i gs) :=
 (qB (pJ Jk PySem.F.slot_list_append (by kernel_rfl) (pK (X:=X)) (fW hi hv hd M1) ha Mv hfew Mu hs Mr) hsw).weak λD σ H ⟨Z,S,ok,w⟩=>by
  unfold Qx at w;split at w
  ·rename_i ds e0;obtain⟨a,vs,e1,e2,e3,e4,r⟩:=ok.own i ds e0;refine⟨.ref a,e1,.inl ⟨rfl,vs,SqL.of e2⟩,a8 ok (WO.wg ok w) λes' us H1 Z1 ok1 x1 rs w1=>?_⟩;split at w1
   ·rename_i d;split at w1
    ·rename_i hl;obtain⟨y,rfl,ry⟩:=a9 rs;have w2:=WG.now w1 ok1.sub;refine⟨a,vs,y,rfl,rfl,x1.same _ _ e2,by rw[<- r.length,HV];exact hl,?_⟩;exact w2 σ _ Z1 (Same.refl _) (ok1.write e0 e1 ((r.mono x1.z).append (Reps.cons ry Reps.nil)))
    ·exact w1.elim
   ·exact w1.elim
  ·exact w.elim
def bq (i:Nat)(bK:X.K=F.K)(ha:FA X F [e] gs)(hi:autoParam (X.N[i]?=some x) YW)(hv:autoParam (Vis X.env.scope x) Yq)(hd:autoParam (MA x) YQ)
  (M1:autoParam (MD x) YQ)
  (Mv:autoParam (attributeBase (.Name x p0) "extend" X.env (eval (.Name x p0) X.env)=eval (.Name x p0) X.env) YW)
  (hfew:autoParam (MB X KW e) YW)
  (Mu:autoParam ((Mo.endLine==KW.line)=true) YW) (hs:autoParam (Id X e []) YW) (Mr:autoParam (IO X KW []) YW)
  (hsw:autoParam (swapsWith (.Call (.Attribute (.Name x p0) "extend" Mo) [e] [] KW) none pos.line X.env=pure false) YW) :
  FS X F (.Expr (.Call (.Attribute (.Name x p0) "extend" Mo) [e] [] KW) pos) (Qw i gs) :=
 (qB (pJ Jk PySem.F.slot_list_extend (by kernel_rfl) (EN) (fW hi hv hd M1) ha Mv hfew Mu hs Mr) hsw).weak λD σ H ⟨Z,S,ok,w⟩=>by
  unfold Qw at w;split at w
  ·rename_i ds e0;obtain⟨a,vs,e1,e2,e3,e4,r⟩:=ok.own i ds e0;refine⟨.ref a,e1,.inl ⟨rfl,vs,SqL.of e2⟩,a8 ok (WO.wg ok w) λes' us H1 Z1 ok1 x1 rs w1=>?_⟩;split at w1
   ·rename_i xs;split at w1
    ·rename_i hl;obtain⟨y,rfl,ry⟩:=a9 rs;rw[Rep]at ry;obtain⟨b,zs,rfl,h1,h2⟩:=ry;have w2:=WG.now w1 ok1.sub;refine⟨a,b,vs,zs,rfl,rfl,x1.same _ _ e2,.inl (by rw[bK];exact ok1.sub.seq h1),by rw[<- r.length,<- h2.length,HV];exact hl,?_⟩;exact w2 σ _ Z1 (Same.refl _) (ok1.write e0 e1 ((r.mono x1.z).append h2))
    ·exact w1.elim
   ·rename_i xs;split at w1
    ·rename_i hl;obtain⟨y,rfl,ry⟩:=a9 rs;rw[Rep]at ry;obtain⟨b,zs,rfl,h1,h2⟩:=ry;have w2:=WG.now w1 ok1.sub;refine⟨a,b,vs,zs,rfl,rfl,x1.same _ _ e2,.inr (by rw[bK];exact h1.mono ok1.sub),by rw[<- r.length,<- h2.length,HV];exact hl,?_⟩;exact w2 σ _ Z1 (Same.refl _) (ok1.write e0 e1 ((r.mono x1.z).append h2))
    ·exact w1.elim
   ·exact w1.elim
  ·exact w.elim
noncomputable def Pg (xs es:List D):R D:=match es with
 | [.bl k]=>match NK xs with
  | some bs=>.ok (.int (bs.countP (· == k):Nat))
  | none=>.stuck
 | _=>.stuck
noncomputable def Pf (xs es:List D):R D:=match es with
 | [.bl k]=>match NK xs with
  | some bs=>if bs.idxOf k < bs.length then .ok (.int (bs.idxOf k:Nat)) else .stuck
  | none=>.stuck
 | _=>.stuck
def OO (f:List D->MI)(g:MM)(gs:ML):MM:=λS=>(g S).bind λd=>match d with
 | .lst xs=>(gs S).bind λes=>f xs es
 | _=>.stuck
def PQ (K:Frag):V->MP:=λx vs H Q=>∃ (l:Addr) (bs:List Bool) (k:Bool),x=.ref l/\vs=[.bl k]/\SqL K H l (bs.map V.bl)/\Q (.int (bs.countP (· == k):Nat)) H
def PP (K:Frag):V->MP:=λx vs H Q=>∃ (l:Addr) (bs:List Bool) (k:Bool),x=.ref l/\vs=[.bl k]/\SqL K H l (bs.map V.bl)/\bs.idxOf k < bs.length/\Q (.int (bs.idxOf k:Nat)) H
def ni {s:Shared}(I:Inv X am σ H s){A:Around}(hu:A.units < cLine)(b k:Bool):SeqAt.EqAt A s (.bool b) (.bool k) (b==k) :=
 vg (C:=λ_=>0) (Z:=λ_=>none) rfl I (λ_ _ e=>nomatch e) 0 A (.bl b) (.bl k) (.bl b) (.bl k) _ _ rfl rfl aY aY rfl rfl (by omega)
noncomputable def isB (k:Bool):Value->Bool
 | .bool b=>b==k
 | _=>false
theorem AC (hr:Room k X.A):MtR X "list.count" (PQ X.K):=by
 intro am s σ H x vs v us Q I rx rv h;obtain⟨l,bs,k,rfl,rfl,hH,q⟩:=h;cases rx;obtain⟨u,rfl,ru⟩:=rv.one;cases ru;obtain⟨its,r,⟨⟨c2,d2,dt2,sl2⟩,n2,e2,p2,p3,p4⟩,z2⟩:=I.list hH;have e:=eG r;subst e;simp only at p2 p3 p4;subst p2 p3 p4;refine II F.slot_list_count ⟨_,e2,rfl⟩ F.entry_list_count (F.args_list_count_2 _ _) (SeqAt.list_countAt l _ n2 _ _ (.bool k) (isB k)) ⟨e2,λy hy=>?_,?_⟩
 ·have hy':y∈bs.map Value.bool:=by simpa using hy
  obtain⟨b,_,rfl⟩:=HF.mp hy';exact ni I (by have:=hr.un;show X.A.units+1 < cLine;omega) b k
 ·have hc:((bs.map Value.bool).toArray.toList.countP (isB k))=bs.countP (· == k):=by
   rw[List.countP_map];rfl
  rw[hc];exact⟨.int _,H,I.tok _,⟨_,rfl⟩,q⟩
theorem AD (hr:Room k X.A):MtR X "list.index" (PP X.K):=by
 intro am s σ H x vs v us Q I rx rv h;obtain⟨l,bs,k,rfl,rfl,hH,hj,q⟩:=h;cases rx;obtain⟨u,rfl,ru⟩:=rv.one;cases ru;obtain⟨its,r,⟨⟨c2,d2,dt2,sl2⟩,n2,e2,p2,p3,p4⟩,z2⟩:=I.list hH;have e:=eG r;subst e;simp only at p2 p3 p4;subst p2 p3 p4;rw[Hl,HV]at z2;have hsz:bs.idxOf k < (bs.map Value.bool).toArray.size:=by rw[Hs,Hl];exact hj
 have hat:∀ m (hm:m < (bs.map Value.bool).toArray.size) (hm':m < bs.length),isB k (bs.map Value.bool).toArray[m]=(bs[m]==k):=λm hm hm'=>by simp[isB]
 refine II F.slot_list_index ⟨_,e2,rfl⟩ F.entry_list_index (F.args_list_index_2 _ _) (SeqAt.list_indexAt l _ n2 _ _ (.bool k) (isB k) (bs.idxOf k) hsz (by omega) ?_ ?_) ⟨e2,λy hy=>?_,⟨.int _,H,I.tok _,⟨_,rfl⟩,q⟩⟩
 ·rw[hat _ _ hj];exact KL (w:=hj)
 ·intro m hm M0;have hm':m < bs.length:=by omega
  rw[hat _ _ hm'];exact Ks.mpr (by simpa using Kx M0)
 ·have hy':y∈bs.map Value.bool:=by simpa using hy
  obtain⟨b,_,rfl⟩:=HF.mp hy';exact ni I (by have:=hr.un;show X.A.units+1 < cLine;omega) b k
variable {o:Expr}
def AE {Z:Hp}{k:Bool}{vs:List V}(r:Reps K C Z [.bl k] vs):vs=[.bl k]:=by
 obtain⟨v,rfl,h⟩:=a9 r;rw[Rep]at h;rw[h]
def PK (F:Fx)(r:V->MP)(f:List D->MI):Prop:=∀ (H Z:Hp) (a:Addr) (vs:List V) (xs:List D) (us:List V) (es:List D) (Q:VK),Same Z H->SqL F.K H a vs->Reps F.K F.C Z xs vs->Reps F.K F.C Z es us ->
 WG F H Z (f xs es) (λd H' Z'=>∀ v,Rep F.K F.C Z' d v->Q v H')->r (.ref a) us H Q
def sH:PK F (PQ F.K) Pg:=by
 intro H Z a vs xs us es Q s h1 h2 rs w;unfold Pg at w;split at w
 ·rename_i k;split at w
  ·rename_i bs eb;have e3:=eF h2 eb;subst e3;exact⟨a,bs,k,rfl,AE rs,h1,WG.now w s _ aQ⟩
  ·exact w.elim
 ·exact w.elim
def sJ:PK F (PP F.K) Pf:=by
 intro H Z a vs xs us es Q s h1 h2 rs w;unfold Pf at w;split at w
 ·rename_i k;split at w
  ·rename_i bs eb;have e3:=eF h2 eb;subst e3;split at w
   ·rename_i hl;exact⟨a,bs,k,rfl,AE rs,h1,hl,WG.now w s _ aQ⟩
   ·exact w.elim
  ·exact w.elim
 ·exact w.elim
def kH {r:V->MP}{f:List D->MI}(hd:PK F r f):∀ σ H Q,tE F (OO f g gs) σ H Q->tBM F.K "list" r (tE F g) (tAl F gs) σ H Q:=λσ H Q ⟨Z,S,ok,w⟩=>aM ok w λd v H1 Z1 ok1 x1 rv w1=>by
 cases d with
 | lst xs =>
  rw[Rep]at rv;obtain⟨a,vs,rfl,h1,h2⟩:=rv;exact⟨.inl ⟨rfl,vs,ok1.sub.seq h1⟩,a8 ok1 w1 λes us H2 Z2 ok2 x2 rs w2=>hd H2 Z2 a vs xs us es Q ok2.sub (ok2.sub.seq (x2.z.seq h1)) (h2.mono x2.z) rs w2⟩
 | _=>exact w1.elim
def AF (bx:BX X F k)(ho:FE X F o g)(ha:FA X F [e] gs)
  (Mv:autoParam (attributeBase o "count" X.env (eval o X.env)=eval o X.env) YW)
  (hfew:autoParam (MB X KW e) YW)
  (Mu:autoParam ((Mo.endLine==KW.line)=true) YW) (hs:autoParam (Id X e []) YW) (Mr:autoParam (IO X KW []) YW) :
  FE X F (.Call (.Attribute o "count" Mo) [e] [] KW) (OO Pg g gs) :=
 (pJ Jk PySem.F.slot_list_count (by kernel_rfl) (AC bx.room) ho ha Mv hfew Mu hs Mr).weak (by rw[bx.K];exact kH sH)
def yk (bx:BX X F k)(ho:FE X F o g)(ha:FA X F [e] gs)
  (Mv:autoParam (attributeBase o "index" X.env (eval o X.env)=eval o X.env) YW)
  (hfew:autoParam (MB X KW e) YW)
  (Mu:autoParam ((Mo.endLine==KW.line)=true) YW) (hs:autoParam (Id X e []) YW) (Mr:autoParam (IO X KW []) YW) :
  FE X F (.Call (.Attribute o "index" Mo) [e] [] KW) (OO Pf g gs) :=
 (pJ Jk LC (by kernel_rfl) (AD bx.room) ho ha Mv hfew Mu hs Mr).weak (by rw[bx.K];exact kH sJ)
def Qq (X:Cx)(F:Fx):Prop:=∀ (am:MZ) (σ:St) (H:Hp) (s:Shared) (h1:Heap) (ea C:Addr) (args:List Value),Inv X am σ H s->Heap.MadeExcOf s.heap h1 ea (.ref C) args->F.E (.ref C) none H->X.xe (.ref ea) { s with heap:=h1 }
def bmVE:List Value:=[.type "ValueError",.type "Exception",.type "BaseException",.type "object"]
def wL {C:Addr}{bmB:List Value}{newId:String}(X:K.In h)(q:excIn K C bmB newId=true) :
  ∃ (bm:List Value) (N:Addr) (nm qn:Str) (bs:List Value) (hdct:Bool) (sn:List Str) (sub:List Value) (ab:Bool) (col:Option Bool) (dd:Option Addr) (k0 k1 k2 k3 k5:Na) (mN:MK),
   h.get? C=some (excClassObj nm qn C N bs bm hdct sn sub ab col dd k0 k1 k2 k3 k5 newId)/\h.Ns N mN/\mN "__init__"=none/\OwnTail h bmB bm:=by
 unfold excIn at q;split at q
 ·rename_i dd cd sl ho;split at q
  ·rename_i C' bm k0 k1 k2 k3 n k5 hm hs;simp only[HD,Lk,Bool.not_eq_true']at q;obtain⟨⟨⟨⟨⟨rfl,rfl⟩,hdel⟩,ht⟩,hok⟩,hni⟩:=q;obtain⟨nm,bs,mro,ns,qn,hd,sn,sub,ab,col,del⟩:=cd
   dsimp only at hm hdel hok hni
   subst hm hdel;have hsl:sl = #[k0,k1,k2,k3,some (.builtin n),k5]:=by
    grind
   subst hsl;exact⟨bm,ns,nm,qn,bs,hd,sn,sub,ab,col,dd,k0,k1,k2,k3,k5,_,X _ _ ho,.of_isNs (PySem.W.isNs_of_in X hok),PySem.W.nsMap_none_of_in X hok hni,PySem.W.tail_of_in X ht⟩
  ·cases q
 ·cases q
def Rv (j:Nat)(gs:ML):SS->O:=λS=>rO ((gs S).bind λds=>if ds.length<=1000 then .ok (.er j) else .stuck)
variable {j:Nat}
def cE (j:Nat)(bx:BX X F k)(hmade:Qq X F)(hg:Gl X x)(hm:X.mg x=some (.ref (F.C j)))(q:excIn F.K (F.C j) bmVE "ValueError.__new__"=true)(ha:FA X F (e::es) gs)(hd:autoParam (MA x) YQ)
  (he:autoParam (Id X e es) YW) (hpl:autoParam (IO X KW es) YW) :
  FS X F (.Raise (some (.Call (.Name x np) (e::es) [] KW)) none pos) (Rv j gs):=by
 intro am s σ H D I h;obtain⟨Z,S,ok,w⟩:=h;have q':=q;rw[<- bx.K]at q';obtain⟨bm,N,nm,qn,bs,hdct,sn,sub,ab,col,dd,k0,k1,k2,k3,k5,mN,hC0,hN0,hni0,T0⟩:=wL I.ok.mod.kin q';have hb:∀ {pl σ' H' s'},Inv X pl σ' H' s'->∀ b o,X.base.get? b=some o->s'.heap.get? b=some o:=λI'=>I'.bk
 refine wpAny_Raise_call_subU (nm:=nm) (q:=qn) (N:=N) (bs:=bs) (hdct:=hdct) (sn:=sn) (sub:=sub) (ab:=ab) (col:=col) (dd:=dd) (k0:=k0) (k1:=k1) (k2:=k2) (k3:=k3) (k5:=k5) Kc (by decide) Kc (T0.hasType Kc.hasBase) (I.ok.hd bx.calm) (by rw[he];show (false||(backTo KW (starEach es X.env)).any (·.1))=false;rw[hpl];rfl) hni0 (mn I hg hm ⟨rfl,?_⟩ hd);have hA:=ha KW am s σ H (λvs H1=>vs.length<=1000/\F.E (.ref (F.C j)) none H1) I (a8 ok (WO.wg ok w) λds vs H1 Z1 ok1 x1 rs w1=>by
  split at w1
  ·rename_i hl;exact⟨by rw[<- rs.length];exact hl,WG.now w1 ok1.sub H1 ok1.ex.same⟩
  ·exact w1.elim)
 rw[he]at hA ⊢;refine Calls.evalArgs_plain (thn hA λus s2 ⟨vs,H2,I2,r2,q2⟩=>⟨rfl,?_,hb I2 _ _ hC0,hN0.keeps (hb I2),T0.keeps (hb I2),λh' e hm'=>hmade am σ H2 s2 h' e _ us I2 hm' q2.2⟩);rw[<- r2.length,HV];omega
variable {s:Shared}
def nj (I:Inv X am σ H s){A:Around}{calm:Bool}{pn pins':MZ}{xe:MJ}(hf:A.frames=X.A.frames)(hc:calm=true->A.handled=none)(hp:∀ p∈pn++pins',p∈X.pn++am) :
  Inv { X with A:=A,calm:=calm,pn:=pn,xe:=xe } pins' σ H s :=
 ⟨⟨I.ok.mod,I.ok.kind,I.ok.glob,I.ok.blt,I.ok.above,I.ok.inj,I.ok.has,I.ok.cab,hc,hf.trans I.ok.frames,I.ok.stk,I.ok.exf,I.ok.bs,I.ok.bsz,I.ok.noex,I.ok.exfs,I.ok.funs,I.ok.frf⟩,I.os,I.bare,I.base,I.loc,I.cell,I.free,I.freeC,
  λp hpp=>I.pin p (hp p hpp),I.hok,I.len⟩
def yl (I:Inv X am σ H s){o:HO}(hn:H a=none)(h0:X.s₀.heap.get? a=none)(hl:a≠X.env.locals)(hc:∀ x c,X.env.cells.lookup x=some c->c≠a)(hp:∀ p∈X.pn++am,p.1≠a)
  (ho:ObjOk X.prog X.w (upd H a o) s.heap a o):Inv X am σ (upd H a o) s:=by
 have nn:∀ {b:Addr} {u:HO},H b=some u->upd H a o b=some u:=λ{b u} e=>by rw[aE (ce e hn)];exact e
 refine⟨I.ok,I.os,I.bare,⟨I.base.keep,I.base.slot,λb ob e n hx=>?_,I.base.there,λb xs e=>nn (I.base.tups b xs e),λb o' u e=>nn (I.base.frzs b o' u e),λb ps e=>?_⟩,I.loc,I.cell,?_,λx c e=>?_,λp h=>?_,λb u e=>?_,I.len⟩
 ·rw[aE (by grind)];exact I.base.free b ob e n hx
 ·obtain⟨more,q⟩:=I.base.tbls b ps e;exact⟨more,nn q⟩
 ·rw[aE (Jd hl)];exact I.free
 ·rw[aE (hc x c e)];exact I.freeC x c e
 ·obtain⟨a1,a2,a3⟩:=I.pin p h;exact⟨a1,by rw[aE (hp p h)];exact a2,a3⟩
 ·by_cases q:b=a
  ·subst q;rw[az]at e;cases e;exact ho
  ·rw[aE q]at e;exact(I.hok b u e).stay (λ_ _ _ z=>z) (λc z=>nn z) λc xs z=>nn z
def ym {A:Around}{i:Nat}{n:Str}{v:V}{Q:Unit->MT}(I:Inv X am σ H s)(hN:X.N.Nodup)(hi:X.N[i]?=some n)(hk:X.env.kindOf n=some .local)(hs:X.env.scope.names.lookup n=some .local)(hv:σ[i]?=some (some v))
  (h:∀ s',Inv X am (σ.set i none) H s'->Q () s'):wpAny M A (unbindName X.env n) Q E s:=by
 obtain⟨m,hn,hl⟩:=id I.loc;have hcls:(X.env.scope.kind==.class||(X.env.scope.kind==.module&&X.env.locals != X.env.globals))=false:=by rw[I.ok.kind];rfl
 obtain⟨u,ru,lk⟩:=hl i n v hi hv (.inl hs);have hm:m n=some u:=by
  rcases lk with ⟨_,e⟩ | ⟨z,_⟩
  ·exact e
  ·rw[hk]at z;rcases z with z | z<;>cases z
 have cne:=I.cne;have hiσ:=(HM.mp hv).1;refine wpAny_unbindName_local hk hn hm hcls λh' u' hn' hs'=>?_
 obtain⟨oL,_,_,hoL,_⟩:=id hn;have nl:∀ b o,X.s₀.heap.get? b=some o->b≠X.env.locals:=λb o e=>HQ (HN (HC e) I.ok.above)
 refine h _ ⟨I.ok,I.os,I.bare,⟨λb o e nn hb hx=>(hs'.2 b (nl b o e)).trans (I.base.keep b o e nn hb hx),λb o e nn hb hx=>?_,I.base.free,λb o e hx=>?_,I.base.tups,I.base.frzs,I.base.tbls⟩,⟨_,hn',λj y v' e1 e2 e3=>?_⟩,λy c e=>?_,I.free,I.freeC,λp hp=>?_,λb ob e=>?_,by simpa using I.len⟩
 ·obtain⟨sl,e1⟩:=I.base.slot b o e nn hb hx;exact⟨sl,(hs'.2 b (nl b o e)).trans e1⟩
 ·obtain⟨o',e1⟩:=I.base.there b o e hx;exact⟨o',(hs'.2 b (nl b o e)).trans e1⟩
 ·have hj:j≠i:=λq=>by
   subst q;rw[HL hiσ]at e2;cases e2
  rw[HR (Jd hj)]at e2;obtain⟨u2,r2,q⟩:=hl j y v' e1 e2 e3;refine⟨u2,r2,?_⟩;rcases q with ⟨k,e⟩ | ⟨k,c,e,z⟩
  ·refine .inl ⟨k,?_⟩;have:y≠n:=λe=>hj (mM hN e1 (e ▸ hi))
   simp[this,e]
  ·exact .inr ⟨k,c,e,z.sameBut hs' (cne y c e)⟩
 ·obtain⟨w',z⟩:=I.cell y c e;exact⟨w',z.sameBut hs' (cne y c e)⟩
 ·obtain⟨e,nn,ne,nf,d⟩:=I.pin p hp;exact⟨(hs'.2 p.1 ne).trans e,nn,ne,nf,d⟩
 ·refine(I.hok b ob e).stay (λc w' hc q=>(hs'.2 c ?_).trans q) (λ_ q=>q) λ_ _ q=>q
  rintro rfl
  rcases hc with z | z
  ·subst z;rw[I.free]at e;cases e
  ·rw[I.free]at z;cases z
structure PJ (K:Frag)(C:MN)(C0:Addr)(q:Nat->Bool):Prop where
 exc:excIn K C0 bmVE "ValueError.__new__"=true
 sub:∀ k,q k=true->subIn K (.ref (C k)) (.ref C0)=some true
def sK (T:PJ K C C0 q){A:Around}{g:Array GenState}{d:Drawn}{t:Nat}{os:OsState}{e:Addr}{oe:Obj}{Q:Bool->MT}
  (X:K.In h) (he:h.get? e=some oe) (hc:oe.cls=.ref (C k)) (hk:q k=true) (hq:Q true ⟨h,g,d,t,os⟩):wpAny M A (excMatches (.ref e) (.ref C0)) Q E ⟨h,g,d,t,os⟩:=by
 obtain⟨bm,N,nm,qn,bs,hdct,sn,sub,ab,col,dd,k0,k1,k2,k3,k5,mN,hC,hN,hni,TL⟩:=wL X T.exc;have hcB:(Value.ref C0::bm).contains (.type "BaseException")=true:=by rw[List.contains_cons,TL.hasType (show bmVE.contains (.type "BaseException")=true by decide),Bool.or_true]
 have L3:=PySem.W.looks_subIn (M:=M) X (T.sub k hk);have f:=tc_notTuple;unfold excMatches
 repeat (first | (with_reducible refine Ji he ?_;rw[hc]) | with_reducible refine Ji hC ?_ | (with_reducible refine wpAny_isSubtype_exc hC ?_;rw[hcB]) | (with_reducible refine L3.at ?_) | wp_step)
 exact hq
noncomputable def NX (S:SS):SS:=List.replicate S.length none
noncomputable abbrev Pb (X:Cx)(pn:MZ)(xe:MJ):Cx:={ X with A:=X.A,calm:=X.calm,pn:=pn,xe:=xe }
noncomputable def NR (F:Fx)(Z:Hp):Hp:=λb=>match F.H0 b with
 | some o=>some o
 | none=>Z b
variable {Z:Hp}{S:SS}
def both1:Same F.H0 (NR F Z):=λb o e=>by unfold NR;rw[e]
def Sd (ok:StOk F H Z S σ):Same (NR F Z) H:=λb o e=>by
 unfold NR at e;split at e
 ·rename_i o' q;cases e;exact ok.ex.same b _ q
 ·exact ok.sub b o e
def Ra (ok:StOk F H Z S σ):Same Z (NR F Z):=λb o e=>by
 unfold NR;split
 ·rename_i o' q;have h1:=ok.ex.same b _ q;have h2:=ok.sub b _ e;rw[h1]at h2;exact h2
 ·exact e
def wM (ok:StOk F H Z S σ){Z':Hp}(x:Ex (NR F Z) Z H' Z'):Ex F.H0 F.Z0 H' Z':=by
 refine⟨both1.trans x.same,ok.ex.z.trans x.z,x.sub,λb h=>?_⟩;rcases x.new b h with z | z
 ·exact ok.ex.new b z
 ·exact .inr (both1.free z)
def CC (ok:StOk F H Z S σ){E:XK}{Z':Hp}{S':SS}(h:StOk ⟨F.K,F.C,NR F Z,Z,E⟩ H' Z' S' σ'):StOk F H' Z' S' σ' :=
 ⟨wM ok h.ex,h.len,λi x e=>by
  obtain⟨v,A,e1,o,p⟩:=h.sl i x e;exact⟨v,A,e1,PY o,p.nd,p.z,λa ha=>both1.free (p.h0 a ha)⟩,λi j x y v w A B hij e1 e2 e3 e4 o1 o2=>h.dj i j x y v w A B hij e1 e2 e3 e4 (PY o1) (PY o2)⟩
def CD (ok:StOk F H Z S σ){E:XK}:StOk ⟨F.K,F.C,NR F Z,Z,E⟩ H Z S σ :=
 ⟨⟨Sd ok,Same.refl _,ok.sub,λb h=>.inl h⟩,ok.len,λi x e=>by
  obtain⟨v,A,e1,o,p⟩:=ok.sl i x e;refine⟨v,A,e1,PY o,p.nd,p.z,λa ha=>?_⟩;show NR F Z a=none;unfold NR;rw[p.h0 a ha];exact p.z a ha,λi j x y v w A B hij e1 e2 e3 e4 o1 o2=>ok.dj i j x y v w A B hij e1 e2 e3 e4 (PY o1) (PY o2)⟩
def yn (ok:StOk F H Z S σ){j:Nat}{ea:Addr}(hs:Same (NR F Z) H')(hn:H' ea=none)(hl:S.length=σ'.length)(hv:j < σ'.length->σ'[j]?=some (some (.ref ea))) :
  ∃ Z',Same Z Z'/\StOk F (upd H' ea (Pw F.C k ea)) Z' ((NX S).set j (some (.val (.exc k)))) σ':=by
 have zn:Z ea=none:=(Ra ok).free (hs.free hn);have fn:F.H0 ea=none:=both1.free (hs.free hn);have one:∀ {i:Nat} {x:Sl},((NX S).set j (some (.val (.exc k))))[i]?=some (some x)->i=j/\x=.val (.exc k)/\j < S.length:=λ{i x} e=>by
  have Mq:(NX S).length=S.length:=by unfold NX;simp
  by_cases q:j=i
  ·subst q;by_cases hj:j < S.length
   ·rw[HL (by rw[Mq];exact hj)]at e;cases e;exact⟨rfl,rfl,hj⟩
   ·rw[Je (by simpa [Mq] using hj)]at e;cases e
  ·rw[HR q]at e;unfold NX at e;rw[JI]at e;split at e<;>cases e
 refine⟨upd Z ea (Pw F.C k ea),aN zn,⟨⟨(both1.trans hs).trans (aN hn),ok.ex.z.trans (aN zn),λb o e=>?_,λb h=>?_⟩,by simp[NX,hl],λi x e=>?_,λi1 i2 x y v w A B _ e1 _ _ _ o1 _=>?_⟩⟩
 ·by_cases q:b=ea
  ·subst q;rw[az]at e ⊢;exact e
  ·rw[aE q]at e ⊢;exact hs b o (Ra ok b o e)
 ·by_cases q:b=ea
  ·subst q;exact .inr fn
  ·rw[aE q]at h;exact ok.ex.new b h
 ·obtain⟨rfl,e2,hj⟩:=one e;cases e2;exact⟨.ref ea,[],hv (by rw[<- hl];exact hj),⟨rfl,by rw[Rep];exact⟨ea,rfl,az⟩⟩,Priv.nil⟩
 ·obtain⟨_,e2,_⟩:=one e1;cases e2;rw[o1.1];exact λa ha=>nomatch ha
variable {body:Nc}{g:SS->O}{c n y:Str}{np2 kp hpos:Pos}
end
def RS (g:MM):MM:=λS=>(g S).bind λd=>match d with
 | .int i=>.ok (.int (-i))
 | _=>.stuck
section
variable {F:Fx}{a:Expr}{i:Int}
def qR (h:FE X F a g):FE X F (.UnaryOp .USub a pos) (RS g):=(Ft Eu h).weak λσ H Q ⟨Z,S,ok,w⟩=>aM ok w λd v H1 Z1 ok1 x1 rv w1=>by
 cases d with
 | int i=>rw[Rep]at rv;exact⟨i,rv,WG.now w1 ok1.sub _ aQ⟩
 | _=>exact w1.elim
def wN (h:∃ t,X.mg x=some (.int i t))(hg:Gl X x)(hd:autoParam (MA x) YQ):FE X F (.Name x pos) (eC (.int i)):=by
 obtain⟨t,e⟩:=h;exact fZ (bI (v:=.int i) hg e ⟨t,rfl⟩ hd) λ_=>aQ
end
end FF
namespace FF
open PySem L2
noncomputable def NF (l:List Int):D:=.tup (l.map .int)
noncomputable def dSw (d:D)(lo hi:Option Int):R D:=match d with
 | .lst xs=>.ok (.lst (N0 xs lo hi))
 | .tup xs=>.ok (.tup (N0 xs lo hi))
 | _=>.stuck
def eSw (g:MM)(l h:SS->R (Option Int)):MM:=λS=>(g S).bind λd=>(l S).bind λlo=>(h S).bind λhi=>dSw d lo hi
noncomputable def NB:List D->Option (List Int)
 | []=>some []
 | .int i::r=>(NB r).map (i::·)
 | _::_=>none
noncomputable def Od (is:List Int):Int:=is.foldl (· + ·) 0
noncomputable def Pk:MI
 | [.lst xs]=>match NB xs with
  | some is=>.ok (.int (Od is))
  | none=>.stuck
 | [.tup xs]=>match NB xs with
  | some is=>.ok (.int (Od is))
  | none=>.stuck
 | _=>.stuck
noncomputable def O1:List Nat->List D->SS->SS
 | i::r,d::ds,S=>O1 r ds (S.set i (some (.val d)))
 | _,_,S=>S
noncomputable def gTup (ix:List Nat):MV:=λd S=>match d with
 | .tup ds=>if ds.length=ix.length then .ok (O1 ix ds S) else .stuck
 | _=>.stuck
def P5 (g:MV)(e:MM):SS->O:=λS=>rO ((e S).bind λd=>(g d S).bind λS1=>.ok (.nx S1))
end FF
namespace FF
open PySem PySem.Spec PyProof.Rows L2
variable {X:Cx}{F:Fx}{K:Frag}{C:MN}{Z:Hp}{pos:Pos}{e:Expr}{gs:ML}
def QK (K:Frag)(a:Addr)(l:List Int):Prop :=
 ∃ (o:Obj) (its:Array Value) (n:Nat),K.lookup a=some o/\o.cls=.type "tuple" /\ o.dict=none/\o.data=.seq its n/\its.size<=sizeLine/\Vals (l.map V.int) its.toList
theorem pP {K:Frag}{C:MN}{Z:Hp}:∀ ns:List Int,Reps K C Z (ns.map .int) (ns.map V.int)
 | []=>by rw[IG,IG,Reps]
 | i::ns=>by rw[Hq,Hq,Reps];exact⟨_,_,rfl,aQ,pP ns⟩
def iF {x:Str}{l:List Int}(h:∃ a,X.mg x=some (.ref a)/\QK F.K a l)(hg:Gl X x)(hd:autoParam (MA x) YQ):FE X F (.Name x pos) (eC (NF l)):=by
 obtain⟨a,e,o,its,n,h1,h2,h2d,h3,h4,h5⟩:=h;exact fZ (bI (v:=.ref a) hg e rfl hd) λZ=>by
  unfold NF;rw[Rep];exact⟨a,_,rfl,.inr ⟨o,its,n,h1,h2,h2d,h3,h4,h5⟩,pP l⟩
theorem bQ {K:Frag}{C:MN}{Z:Hp}:∀ {ds:List D} {vs:List V} {is:List Int},Reps K C Z ds vs->NB ds=some is->vs=is.map V.int
 | [],vs,is,r,e=>by rw[Reps]at r;cases e;exact r
 | d::ds,vs,is,r,e=>by
  rw[Reps]at r;obtain⟨v,r',rfl,h1,h2⟩:=r;cases d with
  | int i =>
   rw[NB]at e;cases q:NB ds with
   | none=>rw[q]at e;cases e
   | some is' =>
    rw[q]at e;cases e;rw[Rep]at h1;rw[h1,bQ h2 q];rfl
  | _=>simp[NB]at e
theorem bG:∀ {is:List Int} {us:List Value},Vals (is.map V.int) us->∃ ps:List (Int×Tok),us=ps.map (λp=>Value.int p.1 p.2)/\ps.map (·.1)=is
 | [],us,h=>by rw[IG]at h;cases h;exact⟨[],rfl,rfl⟩
 | i::is,us,h=>by
  rw[Hq]at h;cases h with
  | cons r t =>
   obtain⟨tk,e⟩:=(show ∃ t,_=Value.int i t from r);obtain⟨ps,e2,e3⟩:=bG t;exact⟨(i,tk)::ps,by rw[e,e2];rfl,by rw[<- e3];rfl⟩
def vj (ps:List (Int×Tok))(i:Nat)(x:Int)(h:(ps.map (·.1))[i]?=some x):numAt ps.toArray i=x:=by
 rw[Ir]at h;unfold numAt;rw[List.getElem?_toArray];rw[h];rfl
def lT (ps:List (Int×Tok)):(List.range ps.length).map (numAt ps.toArray)=ps.map (·.1):=by
 apply Lc;intro i;rw[Ir];by_cases hi:i < ps.length
 ·have hr:(List.range ps.length)[i]?=some i:=by simp[hi]
  have hx:(ps.map (·.1))[i]?=some (ps[i].1):=by simp[hi]
  rw[hr,hx];exact IZ some (vj ps i _ hx)
 ·have hr:(List.range ps.length)[i]?=none:=by simp;omega
  have hx:(ps.map (·.1))[i]?=none:=by simp;omega
  rw[hr,hx];rfl
theorem kI (val:Nat->Int):∀ n,preSum val n=Od ((List.range n).map val)
 | 0=>rfl
 | n+1=>by
  rw[preSum,kI val n,IT,Ie];unfold Od;rw[List.foldl_append];rfl
section
def yo {s:Shared}{l:Addr}{h':Heap}(hk:∀ b o,b∉[s.zz]->(s.heap.push { cls:=.type "tuple_iterator",data:=.fields #[.ref l,.int 0 0] }).get? b=some o->h'.get? b=some o) :
  ∀ b o,s.heap.get? b=some o->h'.get? b=some o:=λb o e=>by
 refine hk b o (λhm=>?_) (Hn _ e);rcases Ho.mp hm with e1 | hm
 ·exact absurd (e1 ▸ HC e) (JL _)
 ·cases hm
def oQ (hc:X.calm=true):NH X (.builtin "sum") (λxs H Q=>∃ (p:Addr) (is:List Int),xs=[.ref p]/\(SqL X.K H p (is.map V.int)\/SqT X.K H p (is.map V.int))/\Q (.int (Od is)) H):=by
 intro am s σ H xs us Q I r h;obtain⟨p,is,rfl,hq,q⟩:=h;obtain⟨u,rfl,ru⟩:=N1 r;cases ru;rcases hq with hq | hq
 ·obtain⟨its,rv,pl,hz⟩:=I.list hq;obtain⟨ps,rfl,e⟩:=bG rv;have hil:s.heap.IsList p (intItems ps.toArray):=by
   have:=pl.isList;unfold intItems
   simpa using this
  have es:preSum (numAt ps.toArray) ps.toArray.size=Od is:=by
   rw[kI,Hs,lT,e]
  refine call_sum_walkG (iter_intList hil λs₂ e2 st hfp hlI=>?_);subst e2;refine⟨_,_,_,_,_,_,numAt ps.toArray,rfl,Walks.list (A:=X.A.in1) (I.ok.hd hc) _ p hlI (intItems ps.toArray),st,hfp,(λ_ _=>intItems_at),λh' tk t' hk=>?_⟩;have hsz:(intItems ps.toArray).size=ps.toArray.size:=by simp[intItems]
  rw[hsz,es];exact⟨.int (Od is),H,I.kept (old_kept hk),⟨t',rfl⟩,q⟩
 ·obtain⟨its,rv,pl,hz⟩:=I.tuple hq;obtain⟨ps,rfl,e⟩:=bG rv;have hil:s.heap.IsTuple p (intItems ps.toArray):=by
   have pl':s.heap.IsTuple p (ps.map λp=>Value.int p.1 p.2).toArray:=pl;unfold intItems
   simpa using pl'
  have es:preSum (numAt ps.toArray) ps.toArray.size=Od is:=by
   rw[kI,Hs,lT,e]
  have M0:p < s.heap.objs.size:=by obtain⟨_,e,_⟩:=hil;exact HC e
  refine call_sum_walkG (JO hil ?_);refine⟨_,_,_,_,_,_,numAt ps.toArray,rfl,Walks.tuple (A:=X.A.in1) (I.ok.hd hc) s.heap.objs.size p (HQ M0) (intItems ps.toArray),⟨⟨_,HP _ rfl,rfl,rfl⟩,hil.push _⟩,λb hb=>?_,(λ_ _=>intItems_at),λh' tk t' hk=>?_⟩
  ·show b < (s.heap.push _).objs.size;rw[JB];rcases Ho.mp hb with rfl | hb
   ·exact Nat.lt_succ_self _
   ·rcases Ho.mp hb with rfl | hb
    ·exact Ld M0
    ·cases hb
  ·have hsz:(intItems ps.toArray).size=ps.toArray.size:=by simp[intItems]
   rw[hsz,es];exact⟨.int (Od is),H,I.kept (yo hk),⟨t',rfl⟩,q⟩
def yq :Ot F (λxs H Q=>∃ (p:Addr) (is:List Int),xs=[.ref p]/\(SqL F.K H p (is.map V.int)\/SqT F.K H p (is.map V.int))/\Q (.int (Od is)) H) Pk:=by
 intro H Z xs ds Q s rs w;unfold Pk at w;split at w
 ·split at w
  ·rename_i is e;obtain⟨v,rfl,h⟩:=a9 rs;rw[Rep]at h;obtain⟨a,vs,rfl,h1,h2⟩:=h;have e2:=bQ h2 e;subst e2;exact⟨a,is,rfl,.inl (s.seq h1),WG.now w s _ aQ⟩
  ·exact w.elim
 ·split at w
  ·rename_i is e;obtain⟨v,rfl,h⟩:=a9 rs;rw[Rep]at h;obtain⟨a,vs,rfl,h1,h2⟩:=h;have e2:=bQ h2 e;subst e2;exact⟨a,is,rfl,.inr (h1.mono s),WG.now w s _ aQ⟩
  ·exact w.elim
 ·exact w.elim
variable {p:Pos}{k:Nat}
def vk (bx:BX X F k)(hg:Gl X "sum")(hm:X.mg "sum"=none)(ha:FA X F [e] gs)(he:autoParam (Id X e []) YW)(hpl:autoParam (IO X pos []) YW):FE X F (.Call (.Name "sum" p) [e] [] pos) (ND Pk gs) :=
 gX (id := "sum") (by have:=oQ (X:=X) bx.calm;rw[bx.K]at this;exact this) yq hg hm (by decide +kernel) ha (he:=he) (hpl:=hpl)
def pQ {am:MZ}{σ:St}{H:Hp}{s:Shared}(I:Inv X am σ H s){A:Around}(hu:A.units < cLine)(b k:Int)(t t':Tok):SeqAt.EqAt A s (.int b t) (.int k t') (b==k) :=
 vg (K:=X.K) (C:=λ_=>0) (Z:=λ_=>none) rfl I (λ_ _ e=>nomatch e) 0 A (.int b) (.int k) (.int b) (.int k) _ _ rfl rfl aQ aQ ⟨t,rfl⟩ ⟨t',rfl⟩ (by omega)
noncomputable def isI (k:Int):Value->Bool
 | .int b _=>b==k
 | _=>false
variable {o:Expr}{g:MM}{Mo KW:Pos}
def wO {k:Int}{vs:List V}(r:Reps K C Z [.int k] vs):vs=[.int k]:=by
 obtain⟨v,rfl,h⟩:=a9 r;rw[Rep]at h;rw[h]
end
end FF
namespace HT
open PySem PyProof.Rows
def i5 {prog:Program}{w:World}{A:Around}{E:MJ}{s:Shared}{t sl:Addr}{IF:Array Value}{vl vu:Value}{lo hi:Option Int}{Q:MJ}(ht:IsTup s.heap t IF)(hs:s.heap.IsSliceOf sl vl vu .none)(pl:IsPart vl lo)(pu:IsPart vu hi)
  (hw:sIx IF.size 0 lo=0/\sIx IF.size IF.size hi=IF.size) (h:Q (.ref t) s):wpAny (model prog w) A (getItem (.ref t) (.ref sl)) Q E s:=by
 obtain⟨os,hos,hcs,hds⟩:=id hs;have hTs:s.TypeIs (.ref sl) "slice" := ⟨os,hos,hcs⟩;unfold getItem
 try with_reducible refine Js ?_
 first | refine Hk (Hw ?_) | skip
 refine Hk (wpAny_sequenceKey ht.typeIs (by decide) ?_);refine Hk (IN ht.typeIs Iw
  (Jm Iw ht.typeIs entry_tuple_getitem ?_ (args_tuple_getitem _ _)))
 show wpAny _ _ (Builtin.Tuple.tupleItemsOf (.ref t) >>= _) _ _ s;refine Hk (tupleItemsOf_ ht ?_);refine Hk (Mi hTs ?_);rw[if_pos (by decide)];refine Hk (fJ hs pl pu ?_);rw[hw.1,hw.2];show wpAny _ _ (if (((0:Nat):Int)==0&&(1:Int)==1&&(IF.size - 0)==IF.size)=true then _ else _) _ _ s;rw[if_pos (by simp)];unfold Builtin.Tuple.tupleIsExact;refine Hk (Hk (Mi ht.typeIs (Hw ?_)));rw[if_pos (by decide)];exact Hk (wpAny_rule (Hw ⟨_,rfl,Hw h⟩))
end HT
namespace FF
open PySem PySem.Spec PyProof.Rows L2
def SA (K:Frag):V->Option Int->Option Int->MQ:=λx lo hi H Q=>∃ a xs,x=.ref a/\SqT K H a xs/\(HT.sIx xs.length 0 lo=0/\HT.sIx xs.length xs.length hi=xs.length)/\Q (.ref a) H
def CF {X:Cx}:SlR X (SA X.K):=by
 intro am s σ H x v vl vu lo hi sl Q I rx hs pl pu h;obtain⟨a,xs,rfl,hx,hw,q⟩:=h;cases rx;obtain⟨its,r,ht,hz⟩:=I.tuple hx;have Mq:its.toArray.size=xs.length:=by rw[Hs];exact r.length.symm
 refine⟨"tuple",_,Iw.lookup,ht.typeIs,?_⟩;refine HT.i5 ht hs pl pu (by rw[Mq];exact hw) ?_;exact⟨.ref a,H,I,rfl,q⟩
def yr {xs:List D}{lo hi:Option Int}(h:HT.sIx xs.length 0 lo=0/\HT.sIx xs.length xs.length hi=xs.length):N0 xs lo hi=xs:=by
 unfold N0;rw[h.1,h.2,List.drop_zero,Lv,List.take_length]
section
variable {X:Cx}{F:Fx}{e:Expr}{lo hi:Option Expr}{g:MM}{l h:SS->R (Option Int)}{pos p2:Pos}
def nk (hK:X.K=F.K)(he:FE X F e g)(hl:PO X lo (tP F l))(hh:PO X hi (tP F h)):FE X F (.Subscript e (.Slice lo hi none p2) pos) (eSw g l h) :=
 (Aa (Cj.or (Ez.or CF)) he hl hh).weak λσ H Q ⟨Z,S,ok,w⟩=>aM ok w λd v H1 Z1 ok1 x1 rv w1=>wK ok1 w1 λo H2 Z2 ok2 x2 w2=>wK ok2 w2 λo' H3 Z3 ok3 x3 w3=>by
  have rv3:=rv.mono (x2.z.trans x3.z);cases d with
  | lst ds =>
   rw[Rep]at rv3;obtain⟨a,vs,rfl,h1,h2⟩:=rv3;refine .inl ⟨a,vs,rfl,by rw[hK];exact ok3.sub.seq h1,λp hp=>?_⟩;have z:Same Z3 (upd Z3 p (.lst (Pl vs o o'))):=aN (ok3.sub.free hp);exact w3 _ _ (Ex.alloc ok3.sub hp) _ (by rw[Rep];exact⟨p,_,rfl,SqL.of az,(h2.cut o o').mono z⟩)
  | tup ds =>
   have rv4:=rv3;rw[Rep]at rv3;obtain⟨a,vs,rfl,h1,h2⟩:=rv3;have w4:WG F H3 Z3 (R.ok (FF.D.tup (N0 ds o o'))) _:=w3;by_cases hw:HT.sIx ds.length 0 o=0/\HT.sIx ds.length ds.length o'=ds.length
   ·refine .inr (.inr ⟨a,vs,rfl,by rw[hK];exact h1.mono ok3.sub,by rw[<- h2.length];exact hw,?_⟩);rw[yr hw]at w4;exact WG.now w4 ok3.sub _ rv4
   ·refine .inr (.inl ⟨a,vs,rfl,by rw[hK];exact h1.mono ok3.sub,by rw[<- h2.length];exact hw,λp hp=>?_⟩);have z:Same Z3 (upd Z3 p (.tup (Pl vs o o'))):=aN (ok3.sub.free hp);exact w4 _ _ (Ex.alloc ok3.sub hp) _ (by rw[Rep];exact⟨p,_,rfl,SqT.of az,(h2.cut o o').mono z⟩)
  | _=>exact w3.elim
end
def R.bind_assoc {α β γ:Type}(r:R α)(f:α->R β)(g:β->R γ):(r.bind f).bind g=r.bind λx=>(f x).bind g:=by cases r<;>rfl
end FF
namespace FF
open PySem L2
noncomputable def NG (xs es:List D):R D:=match es with
 | [.int k]=>match NB xs with
  | some is=>if is.idxOf k < is.length then .ok (.int (is.idxOf k:Nat)) else .stuck
  | none=>.stuck
 | _=>.stuck
def PB (f:List D->MI)(g:MM)(gs:ML):MM:=λS=>(g S).bind λd=>match d with
 | .tup xs=>(gs S).bind λes=>f xs es
 | _=>.stuck
def Qt (i:Nat)(g:MM):MM:=λS=>match S[i]? with
 | some (some (.own ds))=>(g S).bind λk=>match k with
  | .int j=>match atI ds j with
   | some d=>.ok d
   | none=>.stuck
  | _=>.stuck
 | _=>.stuck
def Py (i:Nat)(gi ge:MM):SS->O:=λS=>rO ((ge S).bind λd=>match S[i]? with
 | some (some (.own ds))=>(gi S).bind λk=>match k with
  | .int j=>if 0<=j/\j < ds.length then .ok (.nx (S.set i (some (.own (ds.set j.toNat d))))) else .stuck
  | _=>.stuck
 | _=>.stuck)
end FF
namespace PySem.SeqAt
open AutoSeq1 (wpAny_loadPart')
open MeetsSeq MeetsSeq2 MeetsSeq3 SeqRoads2
def tuple_indexAt (l:Addr)(IF:Array Value)(n:Nat)(dd:Option Addr)(sl:Array (Na))(x:Value)(e:Value->Bool)(j:Nat)(hj:j < IF.size)
  (hit:e IF[j]=true) (hno:∀ m (hm:m < IF.size),m < j->e IF[m]=false) :
  Meets (Builtin.«tuple.index» ⟨[.ref l,x],[]⟩)
   (λA R s=>s.heap.get? l=some { cls:=.type "tuple",dict:=dd,data:=.seq IF n,slots:=sl }/\(∀ y,y∈IF->EqAt A.in1 s y x (e y))/\R (.ok (.ret (.int (j:Nat) s.toks))) { s with toks:=s.toks+1 }) :=
 .of_wp λprog w A R s h=>by
  obtain⟨hp,g,d,tk,os⟩:=s;obtain⟨hl,he,h⟩:=h
  wp_walk using wpAny_loadPart' hl
  have key:∀ (k i:Nat) (Q:Option Fin×Unit->MT) (E:MJ),k=IF.size - i->i<=j->Q (some (.done (.ret (.int (j:Nat) tk))),()) ⟨hp,g,d,tk+1,os⟩ ->
    wpAny (model prog w) A.in1 (forIn (List.range' i k) (none,()) λ(i:Nat) (_:Option Fin×Unit)=>(match IF[i]? with
     | some y=>do
      let b <- eqBool y x
      if b=true then do
       let r <- retInt (i:Int)
       pure (ForInStep.done (some r,()))
      else pure (ForInStep.yield (none,()))
     | _=>pure (ForInStep.yield (none,())):Sem (ForInStep (Option Fin×Unit)))) Q E ⟨hp,g,d,tk,os⟩:=λk=>by
   induction k with
   | zero=>intro i Q E hk hi hq;omega
   | succ k ih =>
    intro i Q E hk hi hq;have M0:i < IF.size:=by omega
    have hx:IF[i]?=some IF[i]:=by simp[M0]
    rw[List.range'_succ,Kg,hx];refine Hk (Hk (he IF[i] (by simp) prog w _ _ ?_));cases hy:e IF[i] with
    | true =>
     have hij:i=j:=by
      rcases Nat.lt_or_ge i j with h1 | h1
      ·rw[hno i M0 h1]at hy;cases hy
      ·omega
     subst hij;rw[if_pos rfl];unfold retInt
     wp_walk
     exact hq
    | false =>
     rw[if_neg (by decide)];have hne:i≠j:=λq=>by subst q;rw[hit]at hy;cases hy
     refine Hw ?_;exact ih (i+1) Q E (by omega) (by omega) hq
  show wpAny (model prog w) A.in1 (forIn ([:min IF.size IF.size]:Std.Legacy.Range) (none,()) λ(i:Nat) (_:Option Fin×Unit)=>(match IF[i]? with
     | some y=>do
      let b <- eqBool y x
      if b=true then do
       let r <- retInt (i:Int)
       pure (ForInStep.done (some r,()))
      else pure (ForInStep.yield (none,()))
     | _=>pure (ForInStep.yield (none,())):Sem (ForInStep (Option Fin×Unit)))) _ _ _
  rw[Jl];simp only[Std.Legacy.Range.size,Lv,Nat.add_sub_cancel,Nat.div_one,Nat.min_self];refine key _ 0 _ _ rfl (IA _) ?_
  wp_walk
  exact⟨_,rfl,h⟩
end PySem.SeqAt
namespace FF
open PySem PySem.Spec PyProof.Rows L2
variable {X:Cx}{k:Nat}{pos Mo KW p0:Pos}{K:Frag}{C:MN}{a b e o:Expr}{ga gb g:MM}{gs:ML}{es:List Nat}
section
variable {F:Fx}
theorem lU:∀ l:List Int,NB (l.map FF.D.int)=some l
 | []=>rfl
 | i::l=>by rw[Hq,NB,lU l];rfl
def QP (K:Frag):V->MP:=λx vs H Q=>∃ (l:Addr) (is:List Int) (k:Int),x=.ref l/\vs=[.int k]/\SqT K H l (is.map V.int)/\is.idxOf k < is.length/\Q (.int (is.idxOf k:Nat)) H
theorem yt (hr:Room k X.A):MtR X "tuple.index" (QP X.K):=by
 intro am s σ H x vs v us Q I rx rv h;obtain⟨l,is,k,rfl,rfl,hH,hj,q⟩:=h;cases rx;obtain⟨u,rfl,ru⟩:=rv.one;obtain⟨tk,rfl⟩:=(show ∃ t,u=Value.int k t from ru);obtain⟨its,r,ht,hz⟩:=I.tuple hH;obtain⟨ps,rfl,e⟩:=bG r;have hT:s.TypeIs (.ref l) "tuple" := ht.typeIs;obtain⟨⟨c2,d2,dt2,sl2⟩,e2,p2,n2,p3⟩:=ht;simp only at p2 p3;subst p2 p3;have hl:ps.length=is.length:=by have:=IZ List.length e;simpa using this
 have hsz:is.idxOf k < (ps.map λp=>Value.int p.1 p.2).toArray.size:=by rw[Hs,Hl,hl];exact hj
 have hat:∀ m (hm:m < (ps.map λp=>Value.int p.1 p.2).toArray.size) (hm':m < is.length),isI k (ps.map λp=>Value.int p.1 p.2).toArray[m]=(is[m]==k):=λm hm hm'=>by
  subst e
  simp[isI]
 refine II F.slot_tuple_index hT F.entry_tuple_index (F.args_tuple_index_2 _ _) (SeqAt.tuple_indexAt l _ n2 _ _ (.int k tk) (isI k) (is.idxOf k) hsz ?_ ?_) ⟨e2,λy hy=>?_,⟨.int _,H,I.tok _,⟨_,rfl⟩,q⟩⟩
 ·rw[hat _ _ hj];exact KL (w:=hj)
 ·intro m hm M0;have hm':m < is.length:=by omega
  rw[hat _ _ hm'];exact Ks.mpr (by simpa using Kx M0)
 ·have hy':y∈ps.map λp=>Value.int p.1 p.2:=by simpa using hy
  obtain⟨b,_,rfl⟩:=HF.mp hy';exact pQ I (by have:=hr.un;show X.A.units+1 < cLine;omega) b.1 k b.2 tk
def yu {l:List Int}{p:Pos}{x:Str}(bx:BX X F k)(h:∃ a,X.mg x=some (.ref a)/\QK F.K a l)(hg:Gl X x)(ha:FA X F [e] gs)(hd:autoParam (MA x) YQ)
  (Mv:autoParam (attributeBase (.Name x p) "index" X.env (eval (.Name x p) X.env)=eval (.Name x p) X.env) YW)
  (hfew:autoParam (MB X KW e) YW)
  (Mu:autoParam ((Mo.endLine==KW.line)=true) YW) (hs:autoParam (Id X e []) YW) (Mr:autoParam (IO X KW []) YW) :
  FE X F (.Call (.Attribute (.Name x p) "index" Mo) [e] [] KW) (PB NG (eC (NF l)) gs):=by
 obtain⟨a,em,o,its,n,h1,h2,h2d,h3,h4,h5⟩:=h;refine(pJ PySem.F.plainAttrs_tuple PySem.F.slot_tuple_index PySem.F.type_tuple_index (yt bx.room) (bI (v:=.ref a) hg em rfl hd) ha Mv hfew Mu hs Mr).weak λσ H Q ⟨Z,S,ok,w⟩=>?_
 have w0:WG F H Z ((gs S).bind λes=>NG (l.map .int) es) λd H' Z'=>∀ v,Rep F.K F.C Z' d v->Q v H':=w
 have sq:∀ H:Hp,SqT F.K H a (l.map V.int):=λH=>.inr ⟨o,its,n,h1,h2,h2d,h3,h4,h5⟩
 refine⟨.inr (.inl ⟨rfl,o,by rw[bx.K];exact h1,h2,h2d⟩),a8 ok w0 λes us H1 Z1 ok1 x1 rs w1=>?_⟩;rw[bx.K];unfold NG at w1;split at w1
 ·rename_i kk;split at w1
  ·rename_i is eb;rw[lU l]at eb;cases eb;split at w1
   ·rename_i hl;exact⟨a,l,kk,rfl,wO rs,sq H1,hl,WG.now w1 ok1.sub _ aQ⟩
   ·exact w1.elim
  ·exact w1.elim
 ·exact w1.elim
variable {p:Pos}{ge:MM}{ei:Expr}{x:Str}
def sL (i:Nat)(hK:X.K=F.K)(he:FE X F e g)(hs:autoParam (OS e) Yz)(hi:autoParam (X.N[i]?=some x) YW)(hv:autoParam (Vis X.env.scope x) Yq)(hd:autoParam (MA x) YQ)
  (M1:autoParam (MD x) YQ):FE X F (.Subscript (.Name x p0) e pos) (Qt i g) :=
 (DX wC (fW hi hv hd M1) he hs).weak λσ H Q ⟨Z,S,ok,w⟩=>by
  unfold Qt at w;split at w
  ·rename_i ds e0;obtain⟨a,vs,e1,e2,e3,e4,r⟩:=ok.own i ds e0;refine⟨.ref a,e1,aM ok w λd v H1 Z1 ok1 x1 rv w1=>?_⟩;cases d with
   | int j =>
    rw[Rep]at rv;have w2:WG F H1 Z1 (match atI ds j with | some d=>R.ok d | none=>R.stuck) _:=w1;cases q:atI ds j with
    | none=>rw[q]at w2;exact w2.elim
    | some d =>
     rw[q]at w2;obtain⟨v',f1,f2⟩:=(r.mono x1.z).at q;exact⟨a,vs,j,v',rfl,rv,SqL.of (x1.same _ _ e2),f1,WG.now w2 ok1.sub _ f2⟩
   | _=>exact w1.elim
  ·exact w.elim
theorem Reps.setAt {K:Frag}{C:MN}{Z:Hp}{d:D}{v:V}(q:Rep K C Z d v):∀ {ds:List D} {vs:List V} (j:Nat),Reps K C Z ds vs->Reps K C Z (ds.set j d) (vs.set j v)
 | [],vs,j,r=>by rw[Reps]at r;subst r;rw[List.set_nil,List.set_nil,Reps]
 | a::ds,vs,0,r=>by
  rw[Reps]at r;obtain⟨w,r',rfl,h1,h2⟩:=r;rw[List.set_cons_zero,List.set_cons_zero,Reps];exact⟨_,_,rfl,q,h2⟩
 | a::ds,vs,j+1,r=>by
  rw[Reps]at r;obtain⟨w,r',rfl,h1,h2⟩:=r;rw[List.set_cons_succ,List.set_cons_succ,Reps];exact⟨_,_,rfl,h1,Reps.setAt q j h2⟩
def AH (i:Nat){pos':Pos}(bx:BX X F k)(he:FE X F e ge)(hix:FE X F ei g)(hi:autoParam (X.N[i]?=some x) YW)(hv:autoParam (Vis X.env.scope x) Yq)(hd:autoParam (MA x) YQ)
  (M1:autoParam (MD x) YQ)
  (hasg:autoParam (∀ v,assign (.Subscript (.Name x p0) ei pos') X.env v=(do
   let ov <- holding [v] (eval (.Name x p0) X.env)
   let iv <- holding [v,ov] (eval ei X.env)
   standAt pos'
   holding [v,ov,iv] (setItem ov iv v)
   release [v,ov,iv] [])) YZ)
  (hs:autoParam (swapsWithSole [.Subscript (.Name x p0) ei pos'] e pos.line X.env=pure false) YW) (hw:autoParam (swappedStores [.Subscript (.Name x p0) ei pos'] e X.env=pure none) YW)
  (h1:autoParam ((assignEach [.Subscript (.Name x p0) ei pos'] X.env).map (·.2)=[assign (.Subscript (.Name x p0) ei pos') X.env]) YW) :
  FS X F (.Assign [.Subscript (.Name x p0) ei pos'] e pos) (Py i g ge) :=
 (zS he (Em (fW hi hv hd M1) hix Ac hasg) hs hw h1).weak λD σ H ⟨Z,S,ok,w⟩=>aM ok (WO.wg ok w) λd v H1 Z1 ok1 x1 rv w1=>by
  split at w1
  ·rename_i ds e0;obtain⟨a,vs,e1,e2,e3,e4,r⟩:=ok1.own i ds e0;refine⟨.ref a,e1,aM ok1 w1 λd2 v2 H2 Z2 ok2 x2 rv2 w2=>?_⟩;cases d2 with
   | int j =>
    rw[Rep]at rv2;have w3:WG F H2 Z2 (if 0<=j/\j < ds.length then R.ok (O.nx (S.set i (some (.own (ds.set j.toNat d))))) else R.stuck) _:=w2;split at w3
    ·rename_i hj;have hl:ixN vs.length j=some j.toNat:=by
      unfold ixN;rw[<- r.length,if_pos hj.1,if_pos hj.2]
     refine⟨a,vs,j,j.toNat,rfl,rv2,x2.same _ _ e2,hl,?_⟩;have w4:=WG.now w3 ok2.sub;exact w4 σ _ Z2 (Same.refl _) (ok2.write e0 e1 (Reps.setAt (rv.mono x2.z) j.toNat (r.mono x2.z)))
    ·exact w3.elim
   | _=>exact w2.elim
  ·exact w1.elim
noncomputable def dNf (x y:D):R D:=if good 60 x=true/\good 60 y=true then .ok (.bl (!eqD x y)) else .stuck
def rNf (K:Frag)(C:MN):R2:=λx y H Q=>∃ Z d e,Same Z H/\Rep K C Z d x/\Rep K C Z e y/\good 60 d=true/\good 60 e=true/\Q (.bl (!eqD d e)) H
def D1 (hK:X.K=F.K)(hr:Room k X.A):OpR X (compareOp .NotEq) (rNf F.K F.C):=by
 intro am s σ H x y v u Q I rx ry h;obtain⟨Z,d,e,z,h1,h2,g1,g2,q⟩:=h;have hu:X.A.units+60 < cLine:=by have:=hr.un;omega
 exact(eqB hK I z 60 X.A d e x y v u g1 g2 h1 h2 rx ry hu).2.2 X.prog X.w X.xe _ ⟨.bl (!eqD d e),H,I,rfl,q⟩
def AI:OpD F (rNf F.K F.C) dNf:=by
 intro H Z x y dx dy Q s rx ry w;unfold dNf at w;split at w
 ·rename_i g;exact⟨Z,dx,dy,s,rx,ry,g.1,g.2,WG.now w s _ aY⟩
 ·exact w.elim
def D2 (bx:BX X F k)(ha:FE X F a ga)(hb:FE X F b gb):FE X F (.Compare a [.NotEq] [b] pos) (eOp dNf ga gb):=mT (D1 bx.K bx.room) AI ha hb
def fe (bx:BX X F k)(ha:FE X F a ga)(hb:FE X F b gb):FT X F (.Compare a [.NotEq] [b] pos) (gB (eOp dNf ga gb)):=gU (D1 bx.K bx.room) AI ha hb
noncomputable def qEx (es:List Nat)(i:Nat):MY
 | .exc j=>if es.contains j=true then some (i==j||i==0) else none
 | _=>none
noncomputable def qVx (es:List Nat):MY
 | .exc j=>if es.contains j=true then some true else none
 | _=>none
noncomputable def qTk (es:List Nat)(j:Nat):Bool:=es.contains j
def fD {i:Nat}(h:∀ j∈es,kitOne K (.ref (C j)) (.ref (C i))=some (i==j||i==0))(hx:∀ j∈es,Of K (C j)):IsA K C (.ref (C i)) (qEx es i):=by
 refine⟨.inr ⟨_,rfl⟩,λd b e=>?_,λj b e=>?_,λ_=>rfl,λd h=>by cases d<;>first | rfl | cases h⟩
 ·cases d with
  | exc j =>
   have e':(if es.contains j=true then some (i==j||i==0) else none)=some b:=e;by_cases hj:es.contains j=true
   ·rw[if_pos hj]at e';cases e';exact h j (by grind)
   ·grind
  | _=>cases e
 ·have e':(if es.contains j=true then some (i==j||i==0) else none)=some b:=e
  grind
def EO (h:∀ j∈es,kitOne K (.ref (C j)) (.type "ValueError")=some true)(hx:∀ j∈es,Of K (C j)):IsA K C (.ty "ValueError") (qVx es):=by
 refine⟨.inl ⟨_,rfl⟩,λd b e=>?_,λj b e=>?_,λ_=>rfl,λd h=>by cases d<;>first | rfl | cases h⟩
 ·cases d with
  | exc j =>
   have e':(if es.contains j=true then some true else none)=some b:=e;by_cases hj:es.contains j=true
   ·rw[if_pos hj]at e';cases e';exact h j (by grind)
   ·grind
  | _=>cases e
 ·have e':(if es.contains j=true then some true else none)=some b:=e
  grind
def AJ (h:excIn K (C 0) bmVE "ValueError.__new__"=true)(hs:∀ j∈es,subIn K (.ref (C j)) (.ref (C 0))=some true):PJ K C (C 0) (qTk es) :=
 ⟨h,λk e=>hs k (by simpa [qTk] using e)⟩
def PM (K:Frag):V->MP:=λx vs H Q=>∃ (l:Addr) (is:List Int) (k:Int),x=.ref l/\vs=[.int k]/\SqL K H l (is.map V.int)/\is.idxOf k < is.length/\Q (.int (is.idxOf k:Nat)) H
theorem yw (hr:Room k X.A):MtR X "list.index" (PM X.K):=by
 intro am s σ H x vs v us Q I rx rv h;obtain⟨l,is,k,rfl,rfl,hH,hj,q⟩:=h;cases rx;obtain⟨u,rfl,ru⟩:=rv.one;obtain⟨tk,rfl⟩:=(show ∃ t,u=Value.int k t from ru);obtain⟨its,r,⟨⟨c2,d2,dt2,sl2⟩,n2,e2,p2,p3,p4⟩,z2⟩:=I.list hH;obtain⟨ps,rfl,e⟩:=bG r;simp only at p2 p3 p4;subst p2 p3 p4;have hl:ps.length=is.length:=by have:=IZ List.length e;simpa using this
 rw[Hl,HV]at z2;have hsz:is.idxOf k < (ps.map λp=>Value.int p.1 p.2).toArray.size:=by rw[Hs,Hl,hl];exact hj
 have hat:∀ m (hm:m < (ps.map λp=>Value.int p.1 p.2).toArray.size) (hm':m < is.length),isI k (ps.map λp=>Value.int p.1 p.2).toArray[m]=(is[m]==k):=λm hm hm'=>by
  subst e
  simp[isI]
 refine II F.slot_list_index ⟨_,e2,rfl⟩ F.entry_list_index (F.args_list_index_2 _ _) (SeqAt.list_indexAt l _ n2 _ _ (.int k tk) (isI k) (is.idxOf k) hsz (by omega) ?_ ?_) ⟨e2,λy hy=>?_,⟨.int _,H,I.tok _,⟨_,rfl⟩,q⟩⟩
 ·rw[hat _ _ hj];exact KL (w:=hj)
 ·intro m hm M0;have hm':m < is.length:=by omega
  rw[hat _ _ hm'];exact Ks.mpr (by simpa using Kx M0)
 ·have hy':y∈ps.map λp=>Value.int p.1 p.2:=by simpa using hy
  obtain⟨b,_,rfl⟩:=HF.mp hy';exact pQ I (by have:=hr.un;show X.A.units+1 < cLine;omega) b.1 k b.2 tk
def qS:PK F (PM F.K) NG:=by
 intro H Z a vs xs us es Q s h1 h2 rs w;unfold NG at w;split at w
 ·rename_i k;split at w
  ·rename_i is eb;have e3:=bQ h2 eb;subst e3;split at w
   ·rename_i hl;exact⟨a,is,k,rfl,wO rs,h1,hl,WG.now w s _ aQ⟩
   ·exact w.elim
  ·exact w.elim
 ·exact w.elim
def yx (bx:BX X F k)(ho:FE X F o g)(ha:FA X F [e] gs)
  (Mv:autoParam (attributeBase o "index" X.env (eval o X.env)=eval o X.env) YW)
  (hfew:autoParam (MB X KW e) YW)
  (Mu:autoParam ((Mo.endLine==KW.line)=true) YW) (hs:autoParam (Id X e []) YW) (Mr:autoParam (IO X KW []) YW) :
  FE X F (.Call (.Attribute o "index" Mo) [e] [] KW) (OO NG g gs) :=
 (pJ Jk LC (by kernel_rfl) (yw bx.room) ho ha Mv hfew Mu hs Mr).weak (by rw[bx.K];exact kH qS)
end
end FF
namespace FF
open PySem L2
inductive L (σ:Type) where
 | nx (s:σ) | rt (d:D) | er (k:Nat) | stuck
noncomputable def lB {α σ:Type}(r:R α)(k:α->L σ):L σ:=match r with
 | .ok a=>k a
 | .err e=>.er e
 | .stuck=>.stuck
noncomputable def lS {τ σ:Type}(l:L τ)(k:τ->L σ):L σ:=match l with
 | .nx s=>k s
 | .rt d=>.rt d
 | .er e=>.er e
 | .stuck=>.stuck
noncomputable def Nl {α τ:Type}(f:τ->α->L τ):List α->τ->L τ
 | [],s=>.nx s
 | d::r,s=>lS (f s d) λs'=>Nl f r s'
noncomputable def PZ {τ σ:Type}(q:Nat->Bool)(l:L τ)(k:τ->L σ)(h:Nat->L σ):L σ:=match l with
 | .nx s=>k s
 | .rt d=>.rt d
 | .er e=>if q e=true then h e else .stuck
 | .stuck=>.stuck
noncomputable def MW {σ:Type}(l:L σ):R D:=match l with
 | .nx _=>.ok .non
 | .rt d=>.ok d
 | .er k=>.err k
 | .stuck=>.stuck
section
variable {α τ σ:Type}
@[simp] theorem aw (a:α)(k:α->L σ):lB (.ok a) k=k a:=rfl
@[simp] theorem AK (e:Nat)(k:α->L σ):lB (.err e) k=.er e:=rfl
@[simp] theorem FB (k:α->L σ):lB .stuck k=.stuck:=rfl
@[simp] theorem aX (s:τ)(k:τ->L σ):lS (.nx s) k=k s:=rfl
@[simp] theorem FC (d:D)(k:τ->L σ):lS (.rt d) k=.rt d:=rfl
@[simp] theorem FD (e:Nat)(k:τ->L σ):lS (.er e) k=.er e:=rfl
@[simp] theorem FH (k:τ->L σ):lS .stuck k=.stuck:=rfl
@[simp] theorem nq (f:τ->α->L τ)(s:τ):Nl f [] s=.nx s:=rfl
def aK (f:τ->α->L τ)(d:α)(r:List α)(s:τ):Nl f (d::r) s=lS (f s d) λs'=>Nl f r s':=rfl
@[simp] theorem F4 (q:Nat->Bool)(s:τ)(k:τ->L σ)(h:Nat->L σ):PZ q (.nx s) k h=k s:=rfl
@[simp] theorem F5 (q:Nat->Bool)(d:D)(k:τ->L σ)(h:Nat->L σ):PZ q (.rt d:L τ) k h=.rt d:=rfl
@[simp] theorem CG (q:Nat->Bool)(e:Nat)(k:τ->L σ)(h:Nat->L σ):PZ q (.er e:L τ) k h=if q e=true then h e else .stuck:=rfl
@[simp] theorem CH (s:σ):MW (.nx s)=.ok .non:=rfl
@[simp] theorem CI (d:D):MW (.rt d:L σ)=.ok d:=rfl
@[simp] theorem CJ (k:Nat):MW (.er k:L σ)=.err k:=rfl
end
noncomputable def OQ (a b:R Bool):R Bool:=a.bind λc=>if c=true then b else .ok false
noncomputable def rOr (a b:R Bool):R Bool:=a.bind λc=>if c=true then .ok true else b
def NE (a:R Bool):R Bool:=a.bind λc=>.ok (!c)
def N9 (a b:R D):R D:=(asB a).bind λc=>if c=true then b else .ok (.bl false)
def vOr (a b:R D):R D:=(asB a).bind λc=>if c=true then .ok (.bl true) else b
def Ry (a:R D):R D:=(asB a).bind λc=>.ok (.bl (!c))
noncomputable def rIf (c:R Bool)(a b:R D):R D:=c.bind λt=>if t=true then a else b
def rCh (f f':MS)(x y:D)(w:R D):R D:=(asB (f x y)).bind λk=>if k=true then w.bind λw=>f' y w else .ok (.bl false)
@[simp] theorem aP (b:Bool):asB (.ok (.bl b))=.ok b:=rfl
@[simp] theorem EQ (b:R Bool):OQ (.ok true) b=b:=rfl
@[simp] theorem ER (b:R Bool):OQ (.ok false) b=.ok false:=rfl
@[simp] theorem FJ (b:R Bool):rOr (.ok true) b=.ok true:=rfl
@[simp] theorem sM (b:R Bool):rOr (.ok false) b=b:=rfl
@[simp] theorem cX (b:Bool):NE (.ok b)=.ok (!b):=rfl
@[simp] theorem AL (b:R D):N9 (.ok (.bl true)) b=b:=rfl
@[simp] theorem AM (b:R D):N9 (.ok (.bl false)) b=.ok (.bl false):=rfl
@[simp] theorem FK (b:R D):vOr (.ok (.bl true)) b=.ok (.bl true):=rfl
@[simp] theorem D3 (b:R D):vOr (.ok (.bl false)) b=b:=rfl
@[simp] theorem CK (b:Bool):Ry (.ok (.bl b))=.ok (.bl (!b)):=rfl
@[simp] theorem FM (a b:R D):rIf (.ok true) a b=a:=rfl
@[simp] theorem FN (a b:R D):rIf (.ok false) a b=b:=rfl
def bA {α:Type}:List (R D)->(List D->R α)->R α
 | [],k=>k []
 | r::rs,k=>r.bind λd=>bA rs λds=>k (d::ds)
noncomputable def cGo (c:D->R Bool)(e:D->R D):List D->R (List D)
 | []=>.ok []
 | d::r=>match c d with
  | .ok true=>match e d with
   | .ok y=>match cGo c e r with
    | .ok ys=>.ok (y::ys)
    | _=>.stuck
   | _=>.stuck
  | .ok false=>cGo c e r
  | _=>.stuck
def Nj (e:D->R D)(xs:List D):R D:=(cGo (λ_=>.ok true) e xs).bind λys=>.ok (.lst ys)
def OK (c:D->R Bool)(e:D->R D)(xs:List D):R D:=(cGo c e xs).bind λys=>.ok (.lst ys)
noncomputable def QE {σ:Type}(d:D)(k:D->D->L σ):L σ:=match d with
 | .tup [a,b]=>k a b
 | _=>.stuck
noncomputable def P9 {σ:Type}(d:D)(k:D->D->D->D->L σ):L σ:=match d with
 | .tup [a,b,c,e]=>k a b c e
 | _=>.stuck
def sq (d:D):R (List D):=(O0 d).bind λds=>if ds.length<=16777216 then .ok ds else .stuck
noncomputable def NV (x y:D):R D:=match y with
 | .tup ds=>if good 60 x=true/\MH 60 ds=true then .ok (.bl (ds.any λe=>eqD e x)) else .stuck
 | .lst ds=>if good 60 x=true/\MH 60 ds=true then .ok (.bl (ds.any λe=>eqD e x)) else .stuck
 | _=>.stuck
def NM (x y:D):R D:=(asB (NV x y)).bind λk=>.ok (.bl (!k))
noncomputable def Q8:MI
 | [.lst xs]=>.ok (.lst xs)
 | [.tup xs]=>.ok (.lst xs)
 | _=>.stuck
noncomputable def OG:MI
 | [.lst xs]=>match NB xs with
  | some is=>if is.length<=4000 then .ok (.int (is.eraseDups.length:Nat)) else .stuck
  | none=>.stuck
 | _=>.stuck
noncomputable def enD:List D->Nat->List D
 | [],_=>[]
 | d::r,i=>.tup [.int (i:Int),d]::enD r (i+1)
def OZ (d:D):R (List D):=(sq d).bind λds=>.ok (enD ds 0)
noncomputable def Po:MI
 | [.int i,.int j]=>.ok (.int (if j < i then j else i))
 | _=>.stuck
noncomputable def Pa:MI
 | [.bl b]=>.ok (.int (if b then 1 else 0))
 | _=>.stuck
noncomputable def onF {α:Type}(fs:List Nat)(f:D)(k:Nat->R α):R α:=match f with
 | .fn i=>if fs.contains i=true then k i else .stuck
 | _=>.stuck
noncomputable def onL {α:Type}(d:D)(k:List D->R α):R α:=match d with
 | .lst xs=>k xs
 | _=>.stuck
noncomputable def onT {α:Type}(d:D)(k:List D->R α):R α:=match d with
 | .tup xs=>k xs
 | _=>.stuck
noncomputable def oIx (ds:List D)(i:D):R D:=match i with
 | .int j=>match atI ds j with
  | some d=>.ok d
  | none=>.stuck
 | _=>.stuck
noncomputable def oSt (ds:List D)(i v:D):R (List D):=match i with
 | .int j=>if 0<=j/\j < ds.length then .ok (ds.set j.toNat v) else .stuck
 | _=>.stuck
noncomputable def O5 (ds:List D)(v:D):R (List D):=if ds.length < 16777216 then .ok (ds++[v]) else .stuck
noncomputable def N6 (ds:List D)(v:D):R (List D):=match v with
 | .lst xs=>if ds.length+xs.length<=16777216 then .ok (ds++xs) else .stuck
 | .tup xs=>if ds.length+xs.length<=16777216 then .ok (ds++xs) else .stuck
 | _=>.stuck
noncomputable def a1 (k:D->L Unit):MI
 | [a]=>MW (k a)
 | _=>.stuck
noncomputable def a2 (k:D->D->L Unit):MI
 | [a,b]=>MW (k a b)
 | _=>.stuck
noncomputable def a3 (k:D->D->D->L Unit):MI
 | [a,b,c]=>MW (k a b c)
 | _=>.stuck
noncomputable def a4 (k:D->D->D->D->L Unit):MI
 | [a,b,c,d]=>MW (k a b c d)
 | _=>.stuck
noncomputable def a5 (k:D->D->D->D->D->L Unit):MI
 | [a,b,c,d,e]=>MW (k a b c d e)
 | _=>.stuck
end FF
namespace FF
open PySem PySem.Spec PyProof.Rows L2
variable {X:Cx}{pos p Mo np np2 kp hpos p2:Pos}{S S':SS}{k i own kk:Nat}{e tg o:Expr}{st:Stmt}{G:Gx}{Z H HW:Hp}{g g':SS->O}{it a C0 t:Addr}{b:Bool}{body sts:Nc}{y n:Str}{q:Nat->Bool}{c:MR}{IF:Array Value}{ρ:St}{cap:List Nat}{K:Frag}{C:MN}{h base h':Heap}{P:Program}{mg:MK}{A:Around}
section
variable {F:Fx}{es:Nd}{g:MM}{gs:ML}
end
section
variable {α τ σ W:Type}
def WL (F:Fx)(Z:Hp)(J:σ->SS->Prop)(l:L σ)(D:OV):Prop:=match l with
 | .nx s=>∀ S ρ H Z',J s S->Same Z Z'->StOk F H Z' S ρ->D.nx ρ H
 | .rt d=>∀ v H Z',Ex F.H0 F.Z0 H Z'->Rep F.K F.C Z' d v->D.rt v H
 | .er k=>∀ H,Same F.H0 H->F.E (.ref (F.C k)) none H
 | .stuck=>False
def WL.more {F:Fx}{Z1:Hp}{J:σ->SS->Prop}{l:L σ}{D:OV}(w:WL F Z J l D)(z:Same Z Z1):WL F Z1 J l D:=by
 cases l with
 | nx s=>exact λS ρ H Z' j q=>w S ρ H Z' j (z.trans q)
 | rt d=>exact w
 | er k=>exact w
 | stuck=>exact w
def tL (F:Fx)(S:SS)(J:σ->SS->Prop)(l:L σ):TS:=λD ρ H=>∃ Z,StOk F H Z S ρ/\WL F Z J l D
abbrev FL (X:Cx)(F:Fx)(S:SS)(sts:Nc)(J:σ->SS->Prop)(l:L σ):Prop:=PSs X sts (tL F S J l)
abbrev FL1 (X:Cx)(F:Fx)(S:SS)(st:Stmt)(J:σ->SS->Prop)(l:L σ):Prop:=PS X st (tL F S J l)
def JX (inj:τ->W->SS):τ->SS->Prop:=λs S=>∃ w,S=inj s w
def JU:Unit->SS->Prop:=λ_ _=>True
noncomputable abbrev vv (d:D):Option Sl:=some (.val d)
noncomputable abbrev ow (ds:List D):Option Sl:=some (.own ds)
noncomputable abbrev nn:Option Sl:=none
variable {F:Fx}{rest:Nc}{J:σ->SS->Prop}{J1:τ->SS->Prop}
def qT {t:α->TS}(h:∀ a,PSs X sts (t a)):PSs X sts (λD ρ H=>∃ a,t a D ρ H):=λam s ρ H D I ⟨a,w⟩=>h a am s ρ H D I w
def WL.wg {D:OV}{r:R α}{k:α->L σ}(ok:StOk F H Z S ρ)(w:WL F Z J (lB r k) D):WG F H Z r λa _ Z'=>WL F Z' J (k a) D:=by
 cases r with
 | ok o=>exact λ_ _ x=>WL.more w x.z
 | err k=>exact λH' s=>w H' (ok.ex.same.trans s)
 | stuck=>exact w
def ap {s:σ}(h:J s S):FL X F S [] J (.nx s):=Cc.weak λD ρ H ⟨Z,ok,w⟩=>w S ρ H Z h (Same.refl _) ok
def ak {r:R α}{S':α->SS}{k:α->L σ}(h:FS X F st g)(hg:g S=rO (r.bind λa=>.ok (.nx (S' a))))(hk:∀ a,FL X F (S' a) rest J (k a)):FL X F S (st::rest) J (lB r k) :=
 (fI h (qT hk)).weak λD ρ H ⟨Z,ok,w⟩=>⟨Z,S,ok,by
  rw[hg];cases r with
  | ok a=>exact λρ' H' Z' z ok'=>⟨a,Z',ok',WL.more w z⟩
  | err k=>exact w
  | stuck=>exact w⟩
def aO {l:L σ}(h:FS X F st g)(hg:g S=.nx S')(hk:FL X F S' rest J l):FL X F S (st::rest) J l :=
 (fI h hk).weak λD ρ H ⟨Z,ok,w⟩=>⟨Z,S,ok,by rw[hg];exact λρ' H' Z' z ok'=>⟨Z',ok',WL.more w z⟩⟩
def aq {g:MM}{r:R D}(h:FS X F st (Qv g))(hr:g S=r):FL X F S (st::rest) J (lB r .rt) :=
 (fI h px).weak λD ρ H ⟨Z,ok,w⟩=>⟨Z,S,ok,by
  unfold Qv;rw[hr];cases r with
  | ok a=>exact w
  | err k=>exact w
  | stuck=>exact w⟩
def aI {g:MM}{v:D}(h:FS X F st (Qv g))(hr:g S=.ok v):FL X F S (st::rest) J (.rt v):=aq h hr
def jK (h:FS X F st g)(hg:g S=.er k):FL X F S (st::rest) J (.er k) :=
 (fI h px).weak λD ρ H ⟨Z,ok,w⟩=>⟨Z,S,ok,by rw[hg];exact w⟩
def cq (i:Nat){ds:List D}{l:L σ}(hi:S[i]?=some (some (.own ds)))(hS:S.set i (some (.val (.lst ds)))=S')(h:FL X F S' sts J l):FL X F S sts J l :=
 h.weak λD ρ H ⟨Z,ok,w⟩=>by
  obtain⟨Z',z,ok'⟩:=ok.freeze hi;rw[hS]at ok';exact⟨Z',ok',WL.more w z⟩
def aA {c:Expr}{a b:Nc}{gt:MR}{r:R Bool}{A B:L σ}(hc:FT X F c gt)(hr:gt S=r)(ha:FL X F S a J A)(hb:FL X F S b J B):FL1 X F S (.If c a b pos) J (lB r λt=>if t=true then A else B) :=
 (Fr hc ha hb).weak λD ρ H ⟨Z,ok,w⟩=>iD (P:=λt _ Z'=>WL F Z' J (if t=true then A else B) D) ok (by
  rw[hr];have:=WL.wg ok w;cases r<;>exact this) λt H1 Z1 ok1 x1 w1=>by
  have w2:=WG.now w1 ok1.sub;cases t with
  | true=>exact⟨Z1,ok1,w2⟩
  | false=>exact⟨Z1,ok1,w2⟩
def eI {l:L σ}(h:FL1 X F S st J l):FL X F S [st] J l:=wu h
def au {l:L τ}{k:τ->L σ}{inj:τ->W->SS}(h:FL1 X F S st (JX inj) l)(hk:∀ s w,FL X F (inj s w) rest J (k s)):FL X F S (st::rest) J (lS l k) :=
 (fI h (qT (λs=>qT λw=>hk s w))).weak λD ρ H ⟨Z,ok,w⟩=>⟨Z,ok,by
  cases l with
  | nx s=>exact λS' ρ' H' Z' ⟨x,e⟩ z ok'=>⟨s,x,Z',by rw[<- e];exact ok',WL.more w z⟩
  | rt d=>exact w
  | er k=>exact w
  | stuck=>exact w⟩
variable {iter:Expr}{git:ML}{g:MV}{inj:τ->W->SS}{step:τ->D->L τ}
def nr {r:R (List D)}{s0:τ}(w0:W)(hp:PassesOwn (model X.prog X.w) X.A X.env X.xe)(hc:X.calm=true)(hi:FI X F tg iter git)(hr:git S=r)(hg:FG X F tg g)
  (hb:∀ s w x S1,g x (inj s w)=.ok S1->FL X F S1 body (JX inj) (step s x)) (hno:∀ s w x k,g x (inj s w)≠.err k) (M4:∀ s w x,g x (inj s w)=.stuck->step s x=.stuck)
  (hS:S=inj s0 w0) (hs:autoParam (∀ x,foldedSetIterable iter X.env x=pure x) YZ):FL1 X F S (.For tg iter body [] pos) (JX inj) (lB r λxs=>Nl step xs s0):=by
 have hbb:PSs X body (λD ρ H=>∃ (q:τ×W×FF.D×SS) (_:g q.2.2.1 (inj q.1 q.2.1)=.ok q.2.2.2),tL F q.2.2.2 (JX inj) (step q.1 q.2.2.1) D ρ H):=λam s ρ H D I ⟨q,e,w⟩=>hb q.1 q.2.1 q.2.2.1 q.2.2.2 e am s ρ H D I w
 refine(Eo hp hc hi hg hbb hs).weak λD ρ H ⟨Z,ok,w⟩=>?_
 refine⟨Z,S,ok,?_⟩;have w00:=WL.wg ok w;rw[hr];cases r with
 | err k=>exact w00
 | stuck=>exact w00
 | ok ds =>
  intro H1 Z1 x1;have w1:=w00 H1 Z1 x1;intro J wk _;refine⟨λi m ρ H=>m=ds.length - i/\i<=ds.length/\∃ Z2 s w,StOk F H Z2 (inj s w) ρ/\Same Z1 Z2/\WL F Z2 (JX inj) (Nl step (ds.drop i) s) D,⟨ds.length,rfl,IA _,Z1,s0,w0,by rw[<- hS];exact ok.more x1,Same.refl _,w1⟩,?_⟩
  rintro i m ρ2 H2 ⟨rfl,hle,Z2,s,w2,ok2,z2,wl2⟩
  obtain⟨k1,k2⟩:=wk i H2 Z2 z2 ok2.sub;by_cases M0:i < ds.length
  ·obtain⟨go,y⟩:=k1 M0;refine .inr ⟨go,λρ' H'=>∃ Z3 s3 w3,StOk F H' Z3 (inj s3 w3) ρ'/\Same Z1 Z3/\WL F Z3 (JX inj) (Nl step (ds.drop (i+1)) s3) D,λρ' H' ⟨Z3,s3,w3,q⟩=>⟨ds.length - (i+1),by omega,rfl,M0,Z3,s3,w3,q⟩,λx H' hy=>?_⟩;obtain⟨Z2',d,x',e3,rd⟩:=y x H' hy;have ok2:=ok2.more x';have hd:ds.drop i=d::ds.drop (i+1):=by
    obtain⟨hi,e4⟩:=HM.mp e3;rw[Jy hi,e4]
   rw[hd,aK]at wl2;refine⟨Z2',inj s w2,d,ok2,rd,?_⟩;cases q:g d (inj s w2) with
   | err k=>exact absurd q (hno s w2 d k)
   | stuck=>rw[M4 s w2 d q]at wl2;exact wl2
   | ok S1 =>
    intro H4 Z4 x4 ρ4 ok4;refine⟨⟨s,w2,d,S1⟩,q,Z4,ok4,?_⟩;have z14:Same Z1 Z4:=(z2.trans x'.z).trans x4.z;cases qb:step s d with
    | nx s5 =>
     rw[qb]at wl2;exact λS5 ρ5 H5 Z5 ⟨w5,e5⟩ z5 ok5=>⟨Z5,s5,w5,by rw[<- e5];exact ok5,z14.trans z5,WL.more wl2 ((x'.z.trans x4.z).trans z5)⟩
    | rt d=>rw[qb]at wl2;exact wl2
    | er k=>rw[qb]at wl2;exact wl2
    | stuck=>rw[qb]at wl2;exact wl2
  ·refine .inl ⟨k2 (by omega),?_⟩;rw[LO (by omega)]at wl2;exact wl2 (inj s w2) ρ2 H2 Z2 ⟨w2,rfl⟩ (Same.refl _) ok2
def ba (i:Nat){r:R (List D)}{s0:τ}{B:τ->W->D->SS}(w0:W)(hp:PassesOwn (model X.prog X.w) X.A X.env X.xe)(hc:X.calm=true)(hi:FI X F tg iter git)(hr:git S=r)(hg:FG X F tg (gNm i))
  (hS:S=inj s0 w0) (hB:∀ s w x,(inj s w).set i (some (.val x))=B s w x) (hb:∀ s w x,FL X F (B s w x) body (JX inj) (step s x))
  (hs:autoParam (∀ x,foldedSetIterable iter X.env x=pure x) YZ):FL1 X F S (.For tg iter body [] pos) (JX inj) (lB r λxs=>Nl step xs s0) :=
 nr w0 hp hc hi hr hg (λs w x S1 e=>by cases e;rw[hB];exact hb s w x) (λs w x k e=>nomatch e) (λs w x e=>nomatch e) hS hs
def AN (i j:Nat){r:R (List D)}{s0:τ}{B:τ->W->D->D->SS}{step:τ->D->D->L τ}(w0:W)(hp:PassesOwn (model X.prog X.w) X.A X.env X.xe)(hc:X.calm=true)(hi:FI X F tg iter git)(hr:git S=r)(hg:FG X F tg (gTup [i,j]))
  (hS:S=inj s0 w0) (hB:∀ s w x y,((inj s w).set i (some (.val x))).set j (some (.val y))=B s w x y) (hb:∀ s w x y,FL X F (B s w x y) body (JX inj) (step s x y))
  (hs:autoParam (∀ x,foldedSetIterable iter X.env x=pure x) YZ):FL1 X F S (.For tg iter body [] pos) (JX inj) (lB r λxs=>Nl (λs p=>QE p λx y=>step s x y) xs s0):=by
 have two:∀ (p:D) (S0:SS),(∃ x y,p=.tup [x,y]/\gTup [i,j] p S0=.ok ((S0.set i (some (.val x))).set j (some (.val y))))\/(gTup [i,j] p S0=.stuck/\∀ (k:D->D->L τ),QE p k=.stuck):=λp S0=>by
  cases p with
  | tup ds =>
   match ds with
   | []=>exact .inr ⟨rfl,λ_=>rfl⟩
   | [_]=>exact .inr ⟨rfl,λ_=>rfl⟩
   | [x,y]=>exact .inl ⟨x,y,rfl,rfl⟩
   | _::_::_::_=>exact .inr ⟨by unfold gTup;simp,λ_=>rfl⟩
  | _=>exact .inr ⟨rfl,λ_=>rfl⟩
 refine nr w0 hp hc hi hr hg (λs w p S1 e=>?_) (λs w p k e=>?_) (λs w p e=>?_) hS hs
 ·rcases two p (inj s w) with ⟨x,y,rfl,q⟩ | ⟨q,_⟩
  ·rw[q]at e;cases e;rw[hB];exact hb s w x y
  ·rw[q]at e;cases e
 ·rcases two p (inj s w) with ⟨x,y,rfl,q⟩ | ⟨q,_⟩<;>rw[q]at e<;>cases e
 ·rcases two p (inj s w) with ⟨x,y,rfl,q⟩ | ⟨_,q⟩
  ·rw[q]at e;cases e
  ·exact q _
noncomputable def Re (q:Nat->Bool)(l:L τ):L (τ ⊕ Nat):=match l with
 | .nx s=>.nx (.inl s)
 | .rt d=>.rt d
 | .er e=>if q e=true then .nx (.inr e) else .stuck
 | .stuck=>.stuck
def tryJ (inj:τ->W->SS)(B:Nat->SS):τ ⊕ Nat->SS->Prop
 | .inl s,S=>∃ w,S=inj s w
 | .inr k,S=>S=B k
variable {c:Str}
def CL (i j:Nat){l:L τ}{inj:τ->W->SS}(bx:BX X F k)(hij:i≠j)(M4:X.stack=X.env::X.outer)(hfm:X.env.frame=some X.env.locals)(hex:X.ex=[])(hN:X.N.Nodup)(hg:Gl X c)(hm:X.mg c=some (.ref C0))(T:PJ F.K F.C C0 q)
  (hb:∀ pn xe H0 Z0 E,BX (Pb X pn xe) ⟨F.K,F.C,H0,Z0,E⟩ k->FL (Pb X pn xe) ⟨F.K,F.C,H0,Z0,E⟩ S body (JX inj) l)
  (hi:autoParam (X.N[i]?=some n) YW) (hj:autoParam (X.N[j]?=some y) YW) (hn:autoParam (X.env.scope.names.lookup n=some .local) YW) (hkn:autoParam (X.env.kindOf n=some .local) YW) (hy:autoParam (X.env.scope.names.lookup y=some .local) YW)
  (hs:autoParam (swapsWith (.Name n np2) (some (.Name y kp)) Mo.line X.env=pure false) YW) (hdc:autoParam (MA c) YQ) (hdn:autoParam (MA n) YQ) (M1:autoParam (MD n) YQ) :
  FL1 X F S (.Try body [.ExceptHandler (some (.Name c np)) (some n) [.Assign [.Name y kp] (.Name n np2) Mo] hpos] [] [] pos) (tryJ inj λe=>(NX S).set j (some (.val (.exc e)))) (Re q l):=by
 intro am s σ H D I h;obtain⟨Z,ok,w⟩:=h;refine wpAny_Try_except ?_;have hjl:j < X.N.length:=(HM.mp hj).1;have hil:i < X.N.length:=(HM.mp hi).1
 let txe:MJ:=λe s₁=>wpAny (model X.prog X.w) X.A (noteFrame e X.env) (λ_ s₂=>wpAny (model X.prog X.w) X.A (setFlight e none) (λ_ s₃=>wpAny (model X.prog X.w) X.A (handleBy e X.env [.ExceptHandler (some (.Name c np)) (some n) [.Assign [.Name y kp] (.Name n np2) Mo] hpos]) (SP X am D) X.xe s₃) X.xe s₂) X.xe s₁
 let E':XK:=λcls _ H'=>∃ k,cls=.ref (F.C k)/\q k=true/\Same (NR F Z) H'/\WL F Z (tryJ inj λe=>(NX S).set j (some (.val (.exc e)))) (.nx (.inr k)) D
 have back:∀ {pl:MZ} {σ':St} {H':Hp} {s':Shared},Inv (Pb X (X.pn++am) txe) pl σ' H' s'->Inv X am σ' H' s':=λJ=>nj (X:=Pb X (X.pn++am) txe) J rfl I.ok.hd λp hp=>Ix _ hp
 have bx':BX (Pb X (X.pn++am) txe) ⟨F.K,F.C,NR F Z,Z,E'⟩ k:=by
  refine⟨bx.room,bx.K,bx.calm,?_⟩;intro pl σ1 H1 s1 e s2 I1 hx;obtain⟨ea,C,t,H2,B,rfl,os,bare,un,hok,fl,hn2,cov,hE⟩:=hx;obtain⟨k',hC,hk,hsm,w1⟩:=hE;have J:Inv (Pb X (X.pn++am) txe) pl σ1 H2 s2:=I1.call' (ch:=[]) os un hok bare (λb z=>nomatch z);obtain⟨oe0,ws0,ge0,_,gd0,_⟩:=fl.first
  obtain⟨mL1,nL1,_⟩:=I1.loc;obtain⟨oL1,_,_,hoL1,_⟩:=id nL1;have hnf:ea∉frs X.stack:=λz=>by
   rcases Ho.mp (J.stkSub ea z) with z1 | z1
   ·obtain⟨mL,nL,_⟩:=J.loc;obtain⟨oL,es,ep,hoL,hdL,_⟩:=nL;have hoL':s2.heap.get? ea=some oL:=by rw[z1];exact hoL
    rw[ge0]at hoL';cases hoL';rw[hdL]at gd0;cases gd0
   ·obtain⟨_,o',e',d⟩:=J.funs.mem z1;rw[ge0]at e';cases e';exact d _ gd0
  have M2:∀ o,s1.heap.get? ea≠some o:=λo z=>by
   have:=cov ea oe0 ge0 (.inr ⟨o,z⟩) hnf;rw[fl.2.1]at this;cases this
  have h0:X.s₀.heap.get? ea=none:=by
   cases z:X.s₀.heap.get? ea with
   | none=>rfl
   | some o =>
    obtain⟨o',z'⟩:=I1.base.there ea o z (by show ea∉X.ex;rw[hex];exact λq=>nomatch q);exact absurd z' (M2 o')
  have hnl:ea≠X.env.locals:=λz=>M2 oL1 (by rw[z];exact hoL1)
  obtain⟨hp2,g2,d2,t2,os2⟩:=s2;have fl':=fl;rw[show (Pb X (X.pn++am) txe).stack=X.env::X.outer from M4]at fl';show txe (.ref ea) _;refine wpAny_looks_onW (I.ok.frames.trans (by rw[M4])) hfm fl' λh4 held4 up4=>?_
  refine wpAny_landsW held4 λh5 fl5 up5=>?_
  have fly:∀ {h6:Heap},B.StaysIn h6->hp2.UpToSlots h6->Inv (Pb X (X.pn++am) txe) pl σ1 H2 ⟨h6,g2,d2,t2,os2⟩:=λ{h6} a b=>Ct J ⟨σ1,H1,pl,I1⟩ (λp hp=>⟨_,(I1.pin p hp).1⟩) (λo _=>⟨oL1,hoL1⟩) cov a b
  have J5:=fly fl5.1 (up4.trans up5)
  let Xm:Cx:={ Pb X (X.pn++am) txe with A:=X.A.mark (some (.ref ea)),calm:=false,pn:=X.pn++am,xe:=λ_ _=>False }
  have J5m:Inv Xm pl σ1 H2 ⟨h5,g2,d2,t2,os2⟩:=nj J5 rfl (λz=>nomatch z) λp hp=>hp
  refine wpAny_handleBy_cons (codeAny_handlers_test (mn (X:=Xm) J5m hg hm ?_ hdc)) (by intro z;cases z);obtain⟨ob,hob,hobc⟩:=fl5.there;refine sK T (by have:=J5.kIn;rw[<- bx.K];exact this) hob (hobc.trans hC) hk ?_;refine codeAny_handlers_suite_as ?_;refine lands_againW fl5 λh6 fl6 up6=>?_
  have J6:=fly fl6.1 ((up4.trans up5).trans up6);obtain⟨oe,ws,hoe,hoec,hoed,_⟩:=fl6.first
  have J7:=yl J6 (a:=ea) (o:=Pw F.C k' ea) hn2 h0 hnl (λx c' e z=>by
    obtain⟨v,o,ho,_⟩:=I1.cell x c' e;exact M2 o (by rw[<- z];exact ho)) (λp hp z=>M2 p.2 (by rw[<- z];exact(I1.pin p hp).1)) ⟨⟨oe,hoe,hoec.trans hC,ws,hoed⟩,⟨oe,hoe⟩,λh1 h2 ⟨o,a1,a2,a3⟩ kk=>⟨o,kk o a1,a2,a3⟩⟩
  have J7m:Inv Xm pl σ1 (upd H2 ea (Pw F.C k' ea)) ⟨h6,g2,d2,t2,os2⟩:=nj J7 rfl (λz=>nomatch z) λp hp=>hp
  have hl1:σ1.length=X.N.length:=I1.len;refine jE (X:=Xm) (v:=.ref ea) J7m hN hi (.inl hn) rfl (λs8 I8=>?_) (.inr hn);have st:=wu (qE (X:=Xm) (pos:=Mo) (pos':=kp) hN hj (.inl hy) (fW (X:=Xm) (pos:=np2) hi (.inl hn) hdn M1) hs (.inr hy));refine Im (st pl s8 _ _ ⟨λσ' H'=>σ'=(σ1.set i (some (.ref ea))).set j (some (.ref ea))/\H'=upd H2 ea (Pw F.C k' ea),λ_ _=>False,λ_ _=>False,λ_ _=>False⟩ I8 ⟨.ref ea,by rw[HL (by rw[hl1];exact hil)],rfl,rfl⟩) (λf s9 h9=>?_) λ_ _ z=>z.elim
  cases f with
  | next =>
   obtain⟨σ9,H9,I9,rfl,rfl⟩:=h9;show wpAny (model X.prog X.w) X.A (do bindName X.env n .none;unbindBehindTheSuite X.env n hpos) _ X.xe s9;refine Hk (wpAny_bindName (jE (X:=Xm) (v:=.non) I9 hN hi (.inl hn) rfl (λs10 I10=>?_) (.inr hn)));unfold unbindBehindTheSuite;refine wpAny_onRaise (ym (X:=Xm) (v:=.non) I10 hN hi hkn hn (by rw[HL (by simp[hl1];exact hil)]) λs11 I11=>?_);have IX:Inv X am _ _ s11:=nj (X:=Xm) I11 rfl I.ok.hd λp hp=>Ix _ hp
   obtain⟨Z',z,ok'⟩:=yn (k:=k') (j:=j) (ea:=ea) (σ':=(((σ1.set i (some (.ref ea))).set j (some (.ref ea))).set i (some .non)).set i none) ok hsm hn2 (by rw[ok.len,I.len];simp[hl1]) (λ_=>by
    rw[HR hij,HR hij,HL (by simp[hl1];exact hjl)])
   exact⟨_,_,IX,w1 _ _ _ Z' rfl z ok'⟩
  | _=>first | (obtain⟨_,_,_,z⟩:=h9;exact z.elim) | (obtain⟨_,_,_,_,_,z⟩:=h9;exact z.elim)
 have w':WL ⟨F.K,F.C,NR F Z,Z,E'⟩ Z (JX inj) l D:=by
  cases l with
  | nx s'=>exact λS' ρ' H' Z' jx z o=>w S' ρ' H' Z' jx z (CC ok o)
  | rt d=>exact λv H' Z' x r=>w v H' Z' (wM ok x) r
  | er k' =>
   intro H' sm;unfold Re at w;by_cases hk:q k'=true
   ·simp only[hk,Hx]at w;exact⟨k',rfl,hk,sm,w⟩
   ·simp only[hk]at w;exact w.elim
  | stuck=>exact w
 have run:=hb (X.pn++am) txe (NR F Z) Z E' bx' [] s σ H D (nj I rfl I.ok.hd (by simp)) ⟨Z,CD ok,w'⟩;refine Im run (λf s1 h1=>?_) λ_ _ x=>x
 cases f with
 | next =>
  obtain⟨σ',H',I',d'⟩:=h1;exact Kf ⟨σ',H',back I',d'⟩
 | brk =>
  obtain⟨σ',H',I',d'⟩:=h1;exact⟨σ',H',back I',d'⟩
 | cont =>
  obtain⟨σ',H',I',d'⟩:=h1;exact⟨σ',H',back I',d'⟩
 | ret u =>
  obtain⟨v,σ',H',I',r,d'⟩:=h1;exact⟨v,σ',H',back I',r,d'⟩
def ES (i j:Nat){l:L τ}{inj:τ->W->SS}{B:Nat->SS}{n1:τ->L σ}{n2:Nat->L σ}(h:FL1 X F S st (tryJ inj λe=>(NX S).set j (some (.val (.exc e)))) (Re q l))
  (hB:∀ e,(NX S).set j (some (.val (.exc e)))=B e) (h1:∀ s w,FL X F (inj s w) rest J (n1 s)) (h2:∀ e,FL X F (B e) rest J (n2 e)):FL X F S (st::rest) J (PZ q l n1 n2):=by
 have hr:PSs X rest (λD ρ H=>(∃ s w,tL F (inj s w) J (n1 s) D ρ H)\/∃ e,tL F (B e) J (n2 e) D ρ H):=λam s ρ H D I z=>by
  rcases z with ⟨s',w',z⟩ | ⟨e,z⟩
  ·exact h1 s' w' am s ρ H D I z
  ·exact h2 e am s ρ H D I z
 refine(fI h hr).weak λD ρ H ⟨Z,ok,w⟩=>⟨Z,ok,?_⟩
 cases l with
 | nx s=>exact λS' ρ' H' Z' ⟨x,e⟩ z ok'=>.inl ⟨s,x,Z',by rw[<- e];exact ok',WL.more (l:=n1 s) w z⟩
 | rt d=>exact w
 | er e =>
  have w':WL F Z J (if q e=true then n2 e else .stuck) D:=w;by_cases hq:q e=true
  ·rw[if_pos hq]at w';show WL F Z _ (if q e=true then (L.nx (Sum.inr e):L (τ ⊕ Nat)) else L.stuck) _;rw[if_pos hq];exact λS' ρ' H' Z' hj z ok'=>.inr ⟨e,Z',by have hj':S'=(NX S).set j (some (.val (.exc e))):=hj;rw[<- hB e,<- hj'];exact ok',WL.more w' z⟩
  ·rw[if_neg hq]at w';exact w'.elim
 | stuck=>exact w
end
section
variable {F:Fx}{es:Nd}{g g':MM}{gs:List (MM)}{f:MI}
def iG (h:FE X F e g)(hg:∀ S,g S=g' S):FE X F e g':=by
 have:g=g':=funext hg;rw[<- this];exact h
def mx {g g':SS->O}(h:FS X F st g)(hg:∀ S,g S=g' S):FS X F st g':=by
 have:g=g':=funext hg;rw[<- this];exact h
def aL:List (MM)->ML
 | []=>RU
 | g::gs=>PH g (aL gs)
def eBA {α:Type}(f:List D->R α)(gs:List (MM)):SS->R α:=λS=>bA (gs.map λg=>g S) f
def cz {α β:Type}{r:R α}{f f':α->R β}(h:∀ a,f a=f' a):r.bind f=r.bind f':=by cases r<;>first | exact h _ | rfl
theorem cY {α:Type}(S:SS):∀ (gs:List (MM)) (f:List D->R α),(aL gs S).bind f=eBA f gs S
 | [],f=>rfl
 | g::gs,f=>by
  show ((g S).bind λd=>(aL gs S).bind λds=>R.ok (d::ds)).bind f=(g S).bind λd=>bA (gs.map λg=>g S) λds=>f (d::ds)
  rw[R.bind_assoc];refine cz λd=>?_
  rw[R.bind_assoc];exact cY S gs λds=>f (d::ds)
theorem kJ {S:SS}:∀ {gs:List (MM)} {ds:List D},aL gs S=.ok ds->ds.length=gs.length
 | [],ds,h=>by cases h;rfl
 | g::gs,ds,h=>yc (λS' ds' h'=>by
   by_cases q:S'=S
   ·subst q;exact kJ h'
   ·exact kJ h') S ds h
structure FAL (X:Cx)(F:Fx)(es:Nd)(gs:List (MM)):Prop where
 out:FA X F es (aL gs)
def ae:FAL X F [] []:=⟨EG⟩
def aa (ha:FE X F e g)(hr:FAL X F es gs)(hs:autoParam (Id X e es) YW):FAL X F (e::es) (g::gs):=⟨Cl ha hr.out hs⟩
def Nk (h:FE X F e (ND f (aL gs))):FE X F e (eBA f gs):=iG h λS=>cY S gs f
def ag {x:Str}{ps:List Str}(b:BX X F k)(h:Fn1 X.prog X.w F.K X.mg X.base F.C k x ps f)(hg:Gl X x)(ha:FAL X F (e::es) gs)(hn:autoParam (gs.length=ps.length) YW)(M5:autoParam (MA x) YQ)
  (he:autoParam (Id X e es) YW) (hpl:autoParam (IO X pos es) YW):FE X F (.Call (.Name x p) (e::es) [] pos) (eBA f gs) :=
 Nk (Cz b h hg ha.out (λS ds q=>(kJ q).trans hn) M5 he hpl)
def aC {x1}(h:FAL X F es gs)(hl:gs.length<=16777216:=by exact Jf rfl):FE X F (.Tuple es x1 pos) (eBA (λds=>.ok (.tup ds)) gs) :=
 iG (Ai h.out) λS=>by
  rw[<- cY];show (aL gs S).bind _=_;cases q:aL gs S with
  | ok ds=>show (if ds.length<=16777216 then R.ok (FF.D.tup ds) else R.stuck)=_;rw[if_pos (by rw[kJ q];exact hl)];rfl
  | err k=>rfl
  | stuck=>rfl
def a6 (h:FAL X F es gs)(hl:gs.length<=16777216:=by exact Jf rfl):FE X F (.List es pos) (eBA (λds=>.ok (.lst ds)) gs) :=
 iG (EH h.out) λS=>by
  rw[<- cY];show (aL gs S).bind _=_;cases q:aL gs S with
  | ok ds=>show (if ds.length<=16777216 then R.ok (FF.D.lst ds) else R.stuck)=_;rw[if_pos (by rw[kJ q];exact hl)];rfl
  | err k=>rfl
  | stuck=>rfl
end
section
variable {F:Fx}{f:Expr}{es:Nd}{x:Str}
def sN (hm:X.mg x=some (.ref (F.C i)))(hg:Gl X x)(hd:autoParam (MA x) YQ):FE X F (.Name x pos) (eC (.fn i)) :=
 fZ (bI (v:=.ref (F.C i)) hg hm rfl hd) λ_=>by rw[Rep]
def AO {CX:CXT}{E:XK}{tf:TE}{t:TA}(hf:PE X f tf)(hr:Room k X.A)(hx:O3 CX X E)(ha:PA X (e::es) t)
  (hev:autoParam (eval (.Call f (e::es) [] pos) X.env=(do callWith pos (<- eval f X.env) [] (backTo pos (starEach (e::es) X.env)) (backToKw pos (keywordEach [] X.env)))) YW)
  (he:autoParam (Id X e es) YW) (hpl:autoParam (IO X pos es) YW) :
  PE X (.Call f (e::es) [] pos) (λσ H Q=>tf σ H λv H1=>∃ a fd ps sp,v=.ref a/\OM X.prog X.w X.K X.mg X.base CX k a fd ps sp/\keepIn X.K (.ref a)=true/\Binds X.K fd ps []/\t σ H1 λvs H2=>sp (vs++[]) H2 Q E):=by
 intro am s σ H Q I h;rw[hev];refine Hk (thn (hf am s σ H _ I h) λu s1 ⟨v,H1,I1,r,a,fd,ps,sp,ev,FO,hk,hb,q⟩=>?_);subst ev;cases r;refine PySem.W.callWith_K I1.ok.mod.kin hk (thn (ha pos am s1 σ H1 _ I1 q) λus s2 ⟨vs,H2,I2,r2,q2⟩=>⟨I2.kIn,?_⟩) he hpl;exact zY FO hr hb .nil hx I2 r2 q2
structure FnV (P:Program)(w:World)(K:Frag)(mg:MK)(base:Heap)(C:MN)(k:Nat)(i:Nat)(f:MI):Prop where
 ex:∃ fd ps,OM P w K mg base (CXE P w) k (C i) fd ps (spF K C ps.length f)/\keepIn K (.ref (C i))=true/\Binds K fd ps []/\∀ ds,ds.length≠ps.length->f ds=.stuck
abbrev MF:=Nat->MI
def eCV (fs:List Nat)(t:MF)(gf:MM)(gs:List (MM)):MM:=λS=>(gf S).bind λf=>onF fs f λi=>bA (gs.map λg=>g S) (t i)
def sO {fs:List Nat}{t:MF}{gf:MM}{gs:List (MM)}(b:BX X F k)(hT:∀ i∈fs,FnV X.prog X.w F.K X.mg X.base F.C k i (t i))(hf:FE X F f gf)(ha:FAL X F (e::es) gs)
  (hev:autoParam (eval (.Call f (e::es) [] pos) X.env=(do callWith pos (<- eval f X.env) [] (backTo pos (starEach (e::es) X.env)) (backToKw pos (keywordEach [] X.env)))) YW)
  (he:autoParam (Id X e es) YW) (hpl:autoParam (IO X pos es) YW) :
  FE X F (.Call f (e::es) [] pos) (eCV fs t gf gs) :=
 (AO hf b.room b.pass ha.out hev he hpl).weak λσ H Q ⟨Z,S,ok,w⟩=>by
  refine aM ok w λd v H1 Z1 ok1 x1 rv w1=>?_
  cases d with
  | fn i =>
   by_cases hi:fs.contains i=true
   ·rw[Rep]at rv;obtain⟨fd,ps,h1,h2,h3,h4⟩:=(hT i (by simpa using hi)).ex;refine⟨F.C i,fd,ps,_,rv,by rw[b.K];exact h1,by rw[b.K];exact h2,by rw[b.K];exact h3,?_⟩;have e0:onF fs (.fn i) (λi=>bA (gs.map λg=>g S) (t i))=(aL gs S).bind (t i):=by
     rw[cY];show (if fs.contains i=true then _ else R.stuck)=_;rw[if_pos hi];rfl
    rw[e0]at w1;refine a8 ok1 w1 λds vs H2 Z2 ok2 x2 rs w4=>?_
    by_cases hl:ds.length=ps.length
    ·refine⟨by rw[IH,<- rs.length];exact hl,Z2,ds,ok2.sub,by rw[IH];exact rs,?_⟩;cases q:t i ds with
     | ok d=>rw[q]at w4;exact w4
     | err k=>rw[q]at w4;exact w4
     | stuck=>rw[q]at w4;exact w4
    ·rw[h4 ds hl]at w4;exact w4.elim
   ·have e0:onF fs (.fn i) (λi=>bA (gs.map λg=>g S) (t i))=.stuck:=by
     show (if fs.contains i=true then _ else R.stuck)=_;rw[if_neg hi]
    rw[e0]at w1;exact w1.elim
  | _=>exact w1.elim
theorem sP {S:SS}{g:MV}{c:MR}{e:MM}:∀ ds,OY (NJ S g c e ds)=cGo (λd=>(g d S).bind c) (λd=>(g d S).bind e) ds
 | []=>rfl
 | d::r=>by
  have ih:=sP (S:=S) (g:=g) (c:=c) (e:=e) r;rw[cGo,NJ];cases q:g d S with
  | err k=>rfl
  | stuck=>rfl
  | ok S1 =>
   show OY ((c S1).bind λt=>if t=true then (e S1).bind λy=>(NJ S g c e r).bind λys=>.ok (y::ys) else NJ S g c e r)=(match c S1 with
    | .ok true=>match e S1 with
     | .ok y=>match cGo _ _ r with
      | .ok ys=>.ok (y::ys)
      | _=>.stuck
     | _=>.stuck
    | .ok false=>cGo _ _ r
    | _=>.stuck)
   cases qc:c S1 with
   | err k=>rfl
   | stuck=>rfl
   | ok t =>
    cases t with
    | false=>exact ih
    | true =>
     cases qe:e S1 with
     | err k=>rfl
     | stuck=>rfl
     | ok y =>
      rw[<- ih];cases NJ S g c e r<;>rfl
def eCC (own:Nat)(cap:List Nat)(it:ML)(g:MV)(c:MR)(e:MM):MM:=λS=>(it S).bind λds=>(cGo (λd=>(g d (Oe own cap S)).bind c) (λd=>(g d (Oe own cap S)).bind e) ds).bind λys=>.ok (.lst ys)
def sQ {it:ML}{g:MV}{e:MM}(S:SS):N8 own cap it g c e S=eCC own cap it g c e S:=by
 unfold N8 eCC;exact cz λds=>by rw[sP]
def Nv {F:Fx}{it:ML}{g:MV}{el:MM}(h:FE X F e (N8 own cap it g c el)):FE X F e (eCC own cap it g c el):=iG h sQ
def Rl {F:Fx}{n:Nat}{it:ML}{g:MV}{el:MM}(h:FS X F st (Pi n (N8 own cap it g c el))):FS X F st (Pi n (eCC own cap it g c el)):=mx h λS=>by unfold Pi;rw[sQ]
variable {g:MM}
def QZ (i:Nat)(g:MM):SS->O:=λS=>match S[i]? with
 | some (some (.own ds))=>rO (((g S).bind λv=>O5 ds v).bind λds'=>.ok (.nx (S.set i (some (.own ds')))))
 | _=>.stuck
def sR {α:Type}(r:R D)(f:List D->R α):((r.bind λd=>(R.ok []:R (List D)).bind λds=>R.ok (d::ds)).bind f)=r.bind λd=>f [d]:=by cases r<;>rfl
def Qb (h:FS X F st (Qx i (aL [g]))):FS X F st (QZ i g):=mx h λS=>by
 unfold Qx QZ;cases q:S[i]? with
 | none=>rfl
 | some o =>
  cases o with
  | none=>rfl
  | some x =>
   cases x with
   | val d=>rfl
   | mat m=>rfl
   | dic m=>rfl
   | dit m=>rfl
   | dir m=>rfl
   | own ds =>
    show rO (((g S).bind λd=>(R.ok []:R (List D)).bind λds=>R.ok (d::ds)).bind _)=rO _;rw[sR,R.bind_assoc];refine IZ rO (cz λv=>?_);unfold O5;show (if _ then _ else _)=_;split<;>rfl
def QY (i:Nat)(g:MM):SS->O:=λS=>match S[i]? with
 | some (some (.own ds))=>rO (((g S).bind λv=>N6 ds v).bind λds'=>.ok (.nx (S.set i (some (.own ds')))))
 | _=>.stuck
def OU (h:FS X F st (Qw i (aL [g]))):FS X F st (QY i g):=mx h λS=>by
 unfold Qw QY;cases q:S[i]? with
 | none=>rfl
 | some o =>
  cases o with
  | none=>rfl
  | some x =>
   cases x with
   | val d=>rfl
   | mat m=>rfl
   | dic m=>rfl
   | dit m=>rfl
   | dir m=>rfl
   | own ds =>
    show rO (((g S).bind λd=>(R.ok []:R (List D)).bind λds=>R.ok (d::ds)).bind _)=rO _;rw[sR,R.bind_assoc];refine IZ rO (cz λv=>?_);unfold N6;cases v with
    | lst xs=>by_cases hl:ds.length+xs.length<=16777216<;>simp[hl]
    | tup xs=>by_cases hl:ds.length+xs.length<=16777216<;>simp[hl]
    | _=>rfl
def Qg (i:Nat)(gs:List (MM)):SS->O:=λS=>rO ((eBA .ok gs S).bind λds=>.ok (.nx (S.set i (some (.own ds)))))
def Ou {gs:List (MM)}(h:FS X F st (Rg i (aL gs)))(hl:gs.length<=16777216:=by exact Jf rfl):FS X F st (Qg i gs):=mx h λS=>by
 unfold Rg Qg;rw[<- cY,R.bind_assoc];refine IZ rO ?_;cases q:aL gs S with
 | ok ds=>show (if ds.length<=16777216 then _ else _)=_;rw[if_pos (by rw[kJ q];exact hl)];rfl
 | err k=>rfl
 | stuck=>rfl
end
section
variable {F:Fx}{g ga:MM}{f:List D->MI}{gs:List (MM)}
def eML (f:List D->MI)(g:MM)(gs:List (MM)):MM:=λS=>(g S).bind λd=>onL d λxs=>bA (gs.map λg=>g S) (f xs)
def AQ (h:FE X F e (OO f g (aL gs))):FE X F e (eML f g gs):=iG h λS=>by
 unfold OO eML;refine cz λd=>?_
 cases d with
 | lst xs=>exact cY S gs (f xs)
 | _=>rfl
def eMT (f:List D->MI)(g:MM)(gs:List (MM)):MM:=λS=>(g S).bind λd=>onT d λxs=>bA (gs.map λg=>g S) (f xs)
def FP (h:FE X F e (PB f g (aL gs))):FE X F e (eMT f g gs):=iG h λS=>by
 unfold PB eMT;refine cz λd=>?_
 cases d with
 | tup xs=>exact cY S gs (f xs)
 | _=>rfl
def wQ {g g':ML}(h:FI X F tg e g)(hg:∀ S,g S=g' S):FI X F tg e g':=by
 have:g=g':=funext hg;rw[<- this];exact h
def dm (h:FI X F tg e (PV (aL gs))):FI X F tg e (eBA Ny gs):=wQ h λS=>cY S gs Ny
def AR (h:FI X F tg e (PU (aL gs))):FI X F tg e (eBA OC gs):=wQ h λS=>cY S gs OC
def sS {k:D->L Unit}{ds:List D}(h:ds.length≠1):a1 k ds=.stuck:=by
 match ds,h with
 | [],_=>rfl
 | [_],h=>exact absurd rfl h
 | _::_::_,_=>rfl
variable {σ:Type}{rest:Nc}{J:σ->SS->Prop}
def CM (i j:Nat){ga gb:MM}{ra rb:R D}{S':D->D->SS}{k:D->D->L σ}(h:FS X F st (P5 (gTup [i,j]) (Qc (aL [ga,gb]))))(ha:ga S=ra)(hb:gb S=rb)(hS:∀ x y,(S.set i (some (.val x))).set j (some (.val y))=S' x y)
  (hk:∀ x y,FL X F (S' x y) rest J (k x y)):FL X F S (st::rest) J (lB ra λx=>lB rb λy=>k x y):=by
 have e:P5 (gTup [i,j]) (Qc (aL [ga,gb])) S=rO ((ra.bind λx=>rb.bind λy=>R.ok (x,y)).bind λp=>.ok (.nx (S' p.1 p.2))):=by
  unfold P5 Qc;show rO (((((ga S).bind λd=>((gb S).bind λd=>(R.ok []:R (List D)).bind λds=>R.ok (d::ds)).bind λds=>R.ok (d::ds)).bind λds=>if ds.length<=16777216 then R.ok (FF.D.tup ds) else .stuck)).bind λd=>(gTup [i,j] d S).bind λS1=>R.ok (O.nx S1))=_;rw[ha,hb];cases ra with
  | err k=>rfl
  | stuck=>rfl
  | ok x =>
   cases rb with
   | err k=>rfl
   | stuck=>rfl
   | ok y=>show O.nx ((S.set i (some (.val x))).set j (some (.val y)))=O.nx (S' x y);rw[hS]
 have:=ak (r:=ra.bind λx=>rb.bind λy=>R.ok (x,y)) h e λp=>hk p.1 p.2
 have q:lB (ra.bind λx=>rb.bind λy=>R.ok (x,y)) (λp=>k p.1 p.2)=lB ra λx=>lB rb λy=>k x y:=by
  cases ra with
  | ok x=>cases rb<;>rfl
  | err k=>rfl
  | stuck=>rfl
 grind
variable {w:World}
def CN {x qual:Str}{f:Addr}{fd:FuncData}{N ps:List Str}{fn:MI}(F:Fun K x qual st f fd)(S:MG N ps (ME st))
  (h:∀ (Mt:Value) (A:Around) (outer:List Env) (s:Shared) (H Z:Hp) (E:XK),BX (NS P w K mg base N qual (ME st) f Mt A outer s H E) ⟨K,C,H,Z,E⟩ k ->
   PassesOwn (model P w) (NS P w K mg base N qual (ME st) f Mt A outer s H E).A (NS P w K mg base N qual (ME st) f Mt A outer s H E).env (NS P w K mg base N qual (ME st) f Mt A outer s H E).xe ->
   Qq (NS P w K mg base N qual (ME st) f Mt A outer s H E) ⟨K,C,H,Z,E⟩ ->
   ∀ ds,ds.length=ps.length->∃ l:L Unit,fn ds=MW l/\FL (NS P w K mg base N qual (ME st) f Mt A outer s H E) ⟨K,C,H,Z,E⟩ (ON N.length ds) (NL st) JU l) :
  OM P w K mg base (CXE P w) (k+1) f fd ps (spF K C ps.length fn):=by
 obtain⟨oc,od,kV,doc,pm,an,Mt,ct,osl,rfl,lk,M1⟩:=F.ex;refine Fw lk M1 S (λvs H Q E q=>q.1) λA outer s H vs Q E hr hsp=>?_
 obtain⟨hv,Z,ds,z,r,w⟩:=hsp;obtain⟨l,e,hl⟩:=h Mt A outer s H Z E ⟨hr,rfl,rfl,xZ⟩ PassesOwn.leaving (λam σ H1 s1 h1 ea C1 args I hx hE=>ya I hx hE) ds (by rw[r.length];exact hv);refine⟨_,hl,Z,Ar z r,?_⟩;rw[e]at w;cases l with
 | nx u=>exact λS' ρ' H' Z' _ _ ok=>w H' Z' ok.ex .non (by rw[Rep])
 | rt d=>exact λv H' Z' x rv=>w H' Z' x v rv
 | er k=>exact w
 | stuck=>exact w
def SL {ds:List D}(h:ds.length=1):∃ a,ds=[a]:=by
 match ds,h with
 | [a],_=>exact⟨a,rfl⟩
def SK {ds:List D}(h:ds.length=2):∃ a b,ds=[a,b]:=by
 match ds,h with
 | [a,b],_=>exact⟨a,b,rfl⟩
def SJ {ds:List D}(h:ds.length=3):∃ a b c,ds=[a,b,c]:=by
 match ds,h with
 | [a,b,c],_=>exact⟨a,b,c,rfl⟩
def SI {ds:List D}(h:ds.length=4):∃ a b c d,ds=[a,b,c,d]:=by
 match ds,h with
 | [a,b,c,d],_=>exact⟨a,b,c,d,rfl⟩
def SH {ds:List D}(h:ds.length=5):∃ a b c d e,ds=[a,b,c,d,e]:=by
 match ds,h with
 | [a,b,c,d,e],_=>exact⟨a,b,c,d,e,rfl⟩
variable {HW0 Z0 H0:Hp}
variable {W W':Wd}{HW' Z' H':Hp}{ρ':St}
inductive LW (σ:Type) where
 | nx (w:Wd) (s:σ) | rt (w:Wd) (d:D) | er (w:Wd) (k:Nat) | al (w:Wd) (f:Addr->LW σ) | stuck
variable {es:Nd}{τ V':Type}
end
section
variable {F:Fx}{W:Wd}{c:Nat}{f:Str}{g:MM}
variable {σ:Type}{J:σ->SS->Prop}{r:RW}{pos':Pos}
variable {w:World}
end
section
variable {W:Wd}{es:Nd}{x m:Str}{ps:List Str}{f:Wd->List D->RW}{gs:ML}{c:Nat}
end
section
variable {W:Wd}{a b c:Expr}{es:Nd}{x m:Str}{ps:List Str}{f:Wd->List D->RW}{gs:ML}{go gb:MM}{cl:Nat}{r r1 r2:RW}
end
section
variable {c:Str}{tb:XK->TS}
variable {W:Wd}{τ σ V':Type}{J:σ->SS->Prop}{rest:Nc}
variable {prog:Program}{w:World}{E:MJ}{s:Shared}
def jL {x:Value}{Q:MJ}(hit:s.heap.IsTupleIter it t i)
  (hl:s.heap.IsTuple t IF) (hx:IF[i]?=some x)
  (hQ:∀ h',h'.IsTupleIter it t (i+1)->Heap.SameBut it s.heap h'->Q x { s with heap:=h' }) :
  wpAny (model prog w) A (Builtin.SmallTypes.nextOf (.ref it)) Q E s:=by
 obtain⟨o,ho,hc,hd⟩:=id hit;obtain⟨ol,hol,_,nl,hdl⟩:=hl;unfold Builtin.SmallTypes.nextOf;refine Hk (IN (name:=Str.ofString "__next__") hit.typeIs Jv
  (Jm Jv hit.typeIs K3 ?_ (KZ _)))
 show wpAny _ _ (field (.ref it) 0 >>= _) _ _ s;refine Hk (JR ho hd (x:=.ref t) rfl ?_);rw[if_neg (show ¬ ((Value.ref t==Value.none)=true) from Ib)];refine Hk (JR ho hd (x:=.int i 0) rfl ?_);refine Hk (wpAny_seqItems hol hdl ?_);simp only[Jx,hx];refine Hk (wpAny_setField ho hd (by simp) (Hw ⟨x,rfl,Hw (hQ _ ?_ (Ke ..))⟩));exact⟨_,LS _ ho (Obj.isFreed_of_fields (Obj.data_mapFields hd _)),(Obj.cls_mapFields ..).trans hc,by
  rw[Obj.data_mapFields hd];simp[rawInt]⟩
def kK {Q:MJ}(hh:A.handled=none)
  (hit:s.heap.IsTupleIter it t i) (hl:s.heap.IsTuple t IF) (hx:IF[i]?=none)
  (hE:∀ h' e,Heap.ExtBut it s.heap h'->(∃ o,h'.get? e=some o/\o.cls=.type "StopIteration")->E (.ref e) { s with heap:=h' }) :
  wpAny (model prog w) A (Builtin.SmallTypes.nextOf (.ref it)) Q E s:=by
 obtain⟨o,ho,hc,hd⟩:=id hit;obtain⟨ol,hol,_,nl,hdl⟩:=hl;unfold Builtin.SmallTypes.nextOf;refine Hk (IN (name:=Str.ofString "__next__") hit.typeIs Jv
  (Jm Jv hit.typeIs K3 ?_ (KZ _)))
 show wpAny _ _ (field (.ref it) 0 >>= _) _ _ s;refine Hk (JR ho hd (x:=.ref t) rfl ?_);rw[if_neg (show ¬ ((Value.ref t==Value.none)=true) from Ib)];refine Hk (JR ho hd (x:=.int i 0) rfl ?_);refine Hk (wpAny_seqItems hol hdl ?_);simp only[Jx,hx];refine Hk (wpAny_rule (Hk (wpAny_setField ho hd (by simp) ?_)));refine Hk ?_;simp only[newExc,newTuple];refine Hk (Jh ?_ (by size_fits));refine Hk (m:=firstArgMember _ _) (wpAny_of_eq (a:=Value.none) (by first | rfl | (simp only[firstArgMember];rfl)) ?_);refine Jh ?_ (by size_fits);simp only[raiseNew];refine Hk (wpAny_handled ?_)
 first | rw[show A.in1.handled=none from hh] | rw[hh]
 refine Hk (Hw (wpAny_throw ?_));exact hE _ _ (((Ke ..).extBut.push _).push _) ⟨_,HP _ rfl,rfl⟩
def SIt (h:Heap)(b:Bool)(it a:Addr)(k:Nat):Prop:=if b=true then h.IsTupleIter it a k else h.IsListIter it a k
def SOb (h:Heap)(b:Bool)(a:Addr)(xs:Array Value):Prop:=if b=true then h.IsTuple a xs else h.IsList a xs
def SIt.at (x:SIt h b it a k)(f:∀ o,h.get? it=some o->h'.get? it=some o):SIt h' b it a k:=by
 cases b<;>(obtain⟨o,ho,r⟩:=x;exact⟨o,f o ho,r⟩)
def SOb.at {xs:Array Value}(x:SOb h b a xs)(f:∀ o,h.get? a=some o->h'.get? a=some o):SOb h' b a xs:=by
 cases b<;>(obtain⟨o,ho,r⟩:=x;exact⟨o,f o ho,r⟩)
def SIt.lt (x:SIt h b it a k):∃ o,h.get? it=some o/\∀ v,o.data≠.cell v:=by
 cases b<;>(obtain⟨o,ho,_,hd⟩:=x;exact⟨o,ho,λv z=>by rw[hd]at z;cases z⟩)
def yy {x:Value}{Q:MJ}(hit:SIt s.heap b it a i)(hl:SOb s.heap b a IF)(hx:IF[i]?=some x)
  (hQ:∀ h',SIt h' b it a (i+1)->Heap.SameBut it s.heap h'->Q x { s with heap:=h' }):wpAny (model prog w) A (Builtin.SmallTypes.nextOf (.ref it)) Q E s:=by
 cases b with
 | true=>exact jL hit hl hx hQ
 | false=>exact wpAny_nextOf_list_item hit hl hx hQ
def sT {Q:MJ}(hh:A.handled=none)(hit:SIt s.heap b it a i)(hl:SOb s.heap b a IF)(hx:IF[i]?=none)
  (hE:∀ h' e,Heap.ExtBut it s.heap h'->(∃ o,h'.get? e=some o/\o.cls=.type "StopIteration")->E (.ref e) { s with heap:=h' }):wpAny (model prog w) A (Builtin.SmallTypes.nextOf (.ref it)) Q E s:=by
 cases b with
 | true=>exact kK hh hit hl hx hE
 | false=>exact wpAny_nextOf_list_end hh hit hl hx hE
variable {F:Fx}{g ge:MM}
def AS {g:SS->O}(h:FS X F st g)(hg:∀ S,g' S=.stuck\/g S=g' S):FS X F st g':=h.weak λD σ H ⟨Z,S,ok,w⟩=>⟨Z,S,ok,by
 rcases hg S with e | e
 ·rw[e]at w;exact w.elim
 ·rw[e];exact w⟩
def QX (i:Nat)(gi ge:MM):SS->O:=λS=>match S[i]? with
 | some (some (.own ds))=>rO (((ge S).bind λv=>(gi S).bind λk=>oSt ds k v).bind λds'=>.ok (.nx (S.set i (some (.own ds')))))
 | _=>.stuck
def ST (h:FS X F st (Py i g ge)):FS X F st (QX i g ge):=AS h λS=>by
 unfold Py QX;cases q:S[i]? with
 | none=>exact .inl rfl
 | some o =>
  cases o with
  | none=>exact .inl rfl
  | some x =>
   cases x with
   | val d=>exact .inl rfl
   | mat m=>exact .inl rfl
   | dic m=>exact .inl rfl
   | dit m=>exact .inl rfl
   | dir m=>exact .inl rfl
   | own ds =>
    refine .inr ?_;show rO ((ge S).bind λd=>(g S).bind λk=>_)=rO _;rw[R.bind_assoc];refine IZ rO (cz λv=>?_);rw[R.bind_assoc];refine cz λk=>?_
    cases k with
    | int j =>
     show (if 0<=j/\j < ds.length then R.ok _ else R.stuck)=(if 0<=j/\j < ds.length then R.ok _ else R.stuck).bind _;by_cases hj:0<=j/\j < ds.length
     ·rw[if_pos hj,if_pos hj];rfl
     ·rw[if_neg hj,if_neg hj];rfl
    | _=>rfl
end
def AT {v v':V}{u:Value}(h:RelV v u)(h':RelV v' u):v=v':=by
 cases v<;>cases v'<;>simp only[L2.RelV]at h h'<;>first
  | rfl
  | (subst h;cases h';rfl)
  | (subst h;cases h';done)
  | (obtain⟨t,rfl⟩:=h;obtain⟨t',e⟩:=h';cases e;rfl)
  | (obtain⟨t,rfl⟩:=h;obtain⟨t',e⟩:=h';cases e;done)
  | (obtain⟨t,rfl⟩:=h;cases h';done)
  | (subst h;obtain⟨t',e⟩:=h';cases e;done)
section
variable {F:Fx}{am:MZ}{σ:St}{s:Shared}
open Classical in
noncomputable def itemB (P:Value->Prop) (u:Value):Bool:=if P u then true else false
def jM {n:Nat}{dx:D}{vx:V}{x:Value}(hK:X.K=K)(I:Inv X am σ H s)(z:Same Z H)(gx:good n dx=true)(rx:Rep K C Z dx vx)(hx:RelV vx x)(hu:A.units+n < cLine)(ds:List D)(hg:MH n ds=true){vs:List V}{us:List Value}(rs:Reps K C Z ds vs)(hv:Vals vs us) :
  ∃ e:Value->Bool,(∀ u∈us,SeqAt.EqAt A s u x (e u))/\us.any e=ds.any λd=>eqD d dx:=by
 refine⟨itemB λu=>∃ d v,good n d=true/\Rep K C Z d v/\RelV v u/\eqD d dx=true,?_⟩;have key:∀ (d:D) (v:V) (u:Value),good n d=true->Rep K C Z d v->RelV v u->itemB (λu=>∃ d v,good n d=true/\Rep K C Z d v/\RelV v u/\eqD d dx=true) u=eqD d dx:=λd v u gd rd hd=>by
  unfold itemB;by_cases h:eqD d dx=true
  ·rw[if_pos ⟨d,v,gd,rd,hd,h⟩,h]
  ·rw[if_neg,(by simpa using h:eqD d dx=false)]
   rintro ⟨d',v',g',r',h1,h2⟩
   have e1:=AT h1 hd;subst e1;rw[qM hK I z n d' d v' g' gd r' rd]at h2;exact h h2
 induction ds generalizing vs us with
 | nil =>
  rw[Reps]at rs;subst rs;cases hv
  grind
 | cons d ds ih =>
  rw[Reps]at rs;obtain⟨v,r,rfl,r1,r2⟩:=rs;rw[MH,HD]at hg;cases hv with
  | cons hv1 hv2 =>
   obtain⟨i1,i2⟩:=ih hg.2 r2 hv2;refine⟨λu hu'=>?_,?_⟩
   ·rcases Ho.mp hu' with e | e
    ·subst e;rw[key d v _ hg.1 r1 hv1];exact vg hK I z n A d dx v vx _ _ hg.1 gx r1 rx hv1 hx hu
    ·exact i1 u e
   ·grind
end
def Qy (K:Frag)(C:MN)(neg:Bool):R2:=λx y H Q=>∃ (Z:Hp) (dx:D) (ds:List D) (p:Addr) (vs:List V),Same Z H/\Rep K C Z dx x/\good 60 dx=true/\y=.ref p/\(SqL K Z p vs\/SqT K Z p vs)/\Reps K C Z ds vs/\MH 60 ds=true/\Q (.bl (if neg then !(ds.any λd=>eqD d dx) else ds.any λd=>eqD d dx)) H
section
variable {F:Fx}{a b:Expr}{ga gb:MM}
def AU (hK:X.K=F.K)(hr:Room k X.A):OpR X (compareOp .In) (Qy F.K F.C false):=by
 intro am s σ H x y v u Q I rx ry h;obtain⟨Z,dx,ds,p,vs,z,rd,gd,rfl,hq,rs,gs,q⟩:=h;cases ry;have hu:X.A.in1.units+60 < cLine:=by have:=hr.un;show X.A.units+1+60 < cLine;omega
 rcases hq with hq | hq
 ·obtain⟨its,r,pl,hz⟩:=I.list (by rw[hK];exact z.seq hq);obtain⟨e,e1,e2⟩:=jM hK I z gd rd rx hu ds gs rs r;refine SeqAt.in_listAt e pl.isList (λw hw=>e1 w (by simpa using hw)) ⟨.bl _,H,I,rfl,?_⟩;rw[show its.toArray.any e=its.any e by simp,e2];exact q
 ·obtain⟨its,r,pl,hz⟩:=I.tuple (by rw[hK];exact hq.mono z);obtain⟨e,e1,e2⟩:=jM hK I z gd rd rx hu ds gs rs r;refine SeqAt.in_tupleAt e pl (λw hw=>e1 w (by simpa using hw)) ⟨.bl _,H,I,rfl,?_⟩;rw[show its.toArray.any e=its.any e by simp,e2];exact q
def yz (hK:X.K=F.K)(hr:Room k X.A):OpR X (compareOp .NotIn) (Qy F.K F.C true):=by
 intro am s σ H x y v u Q I rx ry h;obtain⟨Z,dx,ds,p,vs,z,rd,gd,rfl,hq,rs,gs,q⟩:=h;cases ry;have hu:X.A.in1.units+60 < cLine:=by have:=hr.un;show X.A.units+1+60 < cLine;omega
 rcases hq with hq | hq
 ·obtain⟨its,r,pl,hz⟩:=I.list (by rw[hK];exact z.seq hq);obtain⟨e,e1,e2⟩:=jM hK I z gd rd rx hu ds gs rs r;refine SeqAt.notIn_listAt e pl.isList (λw hw=>e1 w (by simpa using hw)) ⟨.bl _,H,I,rfl,?_⟩;rw[show its.toArray.any e=its.any e by simp,e2];exact q
 ·obtain⟨its,r,pl,hz⟩:=I.tuple (by rw[hK];exact hq.mono z);obtain⟨e,e1,e2⟩:=jM hK I z gd rd rx hu ds gs rs r;refine SeqAt.notIn_tupleAt e pl (λw hw=>e1 w (by simpa using hw)) ⟨.bl _,H,I,rfl,?_⟩;rw[show its.toArray.any e=its.any e by simp,e2];exact q
def wR {dx dy:D}{r:R D}(h:NV dx dy=r):(∃ ds,(dy=.tup ds\/dy=.lst ds)/\good 60 dx=true/\MH 60 ds=true/\r=.ok (.bl (ds.any λd=>eqD d dx)))\/r=.stuck:=by
 subst h;cases dy with
 | tup ds =>
  by_cases q:good 60 dx=true/\MH 60 ds=true
  ·exact .inl ⟨ds,.inl rfl,q.1,q.2,if_pos q⟩
  ·exact .inr (if_neg q)
 | lst ds =>
  by_cases q:good 60 dx=true/\MH 60 ds=true
  ·exact .inl ⟨ds,.inr rfl,q.1,q.2,if_pos q⟩
  ·exact .inr (if_neg q)
 | _=>exact .inr rfl
def wS:OpD F (Qy F.K F.C false) NV:=by
 intro H Z x y dx dy Q s rx ry w;rcases wR rfl with ⟨ds,hd,g1,g2,e⟩ | e
 ·rw[e]at w;rcases hd with rfl | rfl
  ·rw[Rep]at ry;obtain⟨p,vs,rfl,h1,h2⟩:=ry;exact⟨Z,dx,ds,p,vs,s,rx,g1,rfl,.inr h1,h2,g2,WG.now w s _ aY⟩
  ·rw[Rep]at ry;obtain⟨p,vs,rfl,h1,h2⟩:=ry;exact⟨Z,dx,ds,p,vs,s,rx,g1,rfl,.inl h1,h2,g2,WG.now w s _ aY⟩
 ·rw[e]at w;exact w.elim
def vm:OpD F (Qy F.K F.C true) NM:=by
 intro H Z x y dx dy Q s rx ry w;unfold NM at w;rcases wR rfl with ⟨ds,hd,g1,g2,e⟩ | e
 ·rw[e]at w;have w2:=w;rcases hd with rfl | rfl
  ·rw[Rep]at ry;obtain⟨p,vs,rfl,h1,h2⟩:=ry;exact⟨Z,dx,ds,p,vs,s,rx,g1,rfl,.inr h1,h2,g2,WG.now w2 s _ aY⟩
  ·rw[Rep]at ry;obtain⟨p,vs,rfl,h1,h2⟩:=ry;exact⟨Z,dx,ds,p,vs,s,rx,g1,rfl,.inl h1,h2,g2,WG.now w2 s _ aY⟩
 ·rw[e]at w;exact w.elim
def ET (bx:BX X F k)(ha:FE X F a ga)(hb:FE X F b gb)(hm:autoParam (behindInMarks .In b=false) YW):FE X F (.Compare a [.In] [b] pos) (eOp NV ga gb):=mT (AU bx.K bx.room) wS ha hb (hm:=hm)
def qU (bx:BX X F k)(ha:FE X F a ga)(hb:FE X F b gb)(hm:autoParam (behindInMarks .In b=false) YW):FT X F (.Compare a [.In] [b] pos) (gB (eOp NV ga gb)):=gU (AU bx.K bx.room) wS ha hb (hm:=hm)
def kL (bx:BX X F k)(ha:FE X F a ga)(hb:FE X F b gb)(hm:autoParam (behindInMarks .NotIn b=false) YW):FT X F (.Compare a [.NotIn] [b] pos) (gB (eOp NM ga gb)):=gU (yz bx.K bx.room) vm ha hb (hm:=hm)
end
section
variable {F:Fx}{e2:Expr}{gs:ML}
def vn:Ot F (λxs H Q=>∃ i j,xs=[.int i,.int j]/\Q (.int (if j < i then j else i)) H) Po:=by
 intro H Z xs ds Q s rs w;unfold Po at w;split at w
 ·exact⟨_,_,su rs,WG.now w s _ aQ⟩
 ·exact w.elim
def CO (bx:BX X F k)(hg:Gl X "min")(hm:X.mg "min"=none)(ha:FA X F [e,e2] gs)(he:autoParam (Id X e [e2]) YW)(hpl:autoParam (IO X pos [e2]) YW) :
  FE X F (.Call (.Name "min" p) [e,e2] [] pos) (ND Po gs):=gX (xO bx.calm) vn hg hm (by decide +kernel) ha (he:=he) (hpl:=hpl)
def vo:Ot F (λxs H Q=>(∃ i,xs=[.int i]/\Q (.int i) H)\/∃ k,xs=[.bl k]/\Q (.int (if k then 1 else 0)) H) Pa:=by
 intro H Z xs ds Q s rs w;unfold Pa at w;split at w
 ·rename_i b;obtain⟨v,rfl,h⟩:=a9 rs;rw[Rep]at h;subst h;exact .inr ⟨b,rfl,WG.now w s _ aQ⟩
 ·exact w.elim
def wT (bx:BX X F k)(hg:Gl X "int")(hm:X.mg "int"=none)(ha:FA X F [e] gs)(he:autoParam (Id X e []) YW)(hpl:autoParam (IO X pos []) YW) :
  FE X F (.Call (.Name "int" p) [e] [] pos) (ND Pa gs):=pO xP vo hg hm (by decide +kernel) ha (he:=he) (hpl:=hpl)
def nt (hc:X.calm=true):NH X (.builtin "any") (λxs H Q=>∃ (p:Addr) (bs:List Bool),xs=[.ref p]/\SqL X.K H p (bs.map V.bl)/\Q (.bl (bs.any id)) H):=by
 intro am s σ H xs us Q I r h;obtain⟨p,bs,rfl,hq,q⟩:=h;obtain⟨u,rfl,ru⟩:=N1 r;cases ru;obtain⟨its,rv,pl,hz⟩:=I.list hq;have e:=eG rv;subst e;have M0:p < s.zz:=by obtain⟨o,_,ho,_⟩:=pl;exact HC ho
 refine call_any_walk (Lb pl.isList ⟨s.zz,_,_,_,_,_,λi=>bs.getD i false,rfl,Walks.list (show X.A.in1.handled=none from I.ok.hd hc) s.zz p (HQ M0) (bs.map Value.bool).toArray,⟨⟨_,HP _ rfl,rfl,rfl⟩,?_⟩,?_,λh' tk hk=>?_⟩)
 ·obtain⟨o,ho,h2,n,h3⟩:=pl.isList;exact⟨o,Hn _ ho,h2,n,h3⟩
 ·intro i v s' Q' E' hp hq';have hp':bs[i]?.map Value.bool=some v:=by simpa using hp
  cases e:bs[i]? with
  | none=>rw[e]at hp';cases hp'
  | some b =>
   rw[e]at hp';cases hp';refine IC ?_;have:bs.getD i false=b:=by simp[List.getD,e]
   have hq2:Q' (bs.getD i false) s':=hq';rw[this]at hq2;exact hq2
 ·have Mz:(List.range (bs.map Value.bool).toArray.size).any (λi=>bs.getD i false)=bs.any id:=by
   rw[Hs,Hl];rw[IE,JD,JD];constructor
   ·rintro ⟨i,hi,h⟩
    have hi':=HG.mp hi;exact⟨bs[i],J9 hi',by simpa [List.getD,hi'] using h⟩
   ·rintro ⟨b,hb,h⟩
    obtain⟨i,hi,rfl⟩:=J8.mp hb;exact⟨i,HG.mpr hi,by simpa [List.getD,hi] using h⟩
  rw[Mz];exact⟨.bl (bs.any id),H,I.kept λb o e=>hk b o (by simp;exact HQ (HC e)) (Hn _ e),rfl,q⟩
def yA:Ot F (λxs H Q=>∃ (p:Addr) (bs:List Bool),xs=[.ref p]/\SqL F.K H p (bs.map V.bl)/\Q (.bl (bs.any id)) H) P0:=by
 intro H Z xs ds Q s rs w;unfold P0 at w;split at w
 ·split at w
  ·rename_i bs e;obtain⟨v,rfl,h⟩:=a9 rs;rw[Rep]at h;obtain⟨a,vs,rfl,h1,h2⟩:=h;have e2:=eF h2 e;subst e2;exact⟨a,bs,rfl,s.seq h1,WG.now w s _ aY⟩
  ·exact w.elim
 ·exact w.elim
def AV (bx:BX X F k)(hg:Gl X "any")(hm:X.mg "any"=none)(ha:FA X F [e] gs)(he:autoParam (Id X e []) YW)(hpl:autoParam (IO X pos []) YW):FE X F (.Call (.Name "any" p) [e] [] pos) (ND P0 gs) :=
 gX (id := "any") (by have:=nt (X:=X) bx.calm;rw[bx.K]at this;exact this) yA hg hm (by decide +kernel) ha (he:=he) (hpl:=hpl)
variable {p1:Pos}{x:Str}
def CP (i j:Nat)(hc:X.calm=true)(hN:X.N.Nodup)(hij:autoParam (i≠j) YQ)(hi:autoParam (X.N[i]?=some x) YW)(hj:autoParam (X.N[j]?=some y) YW)(hx:autoParam (Loc X.env.scope x) Yy)(hy:autoParam (Loc X.env.scope y) Yy)
  (hfx:autoParam (MC X x) Yw) (hfy:autoParam (MC X y) Yw)
  (hK:autoParam (X.K=F.K) ZJ) (hn:autoParam ((assignEach [.Name x p1,.Name y p2] X.env).length=2) YW) (M4:autoParam ((assignEach [.Name x p1,.Name y p2] X.env).findIdx? (·.1)=none) YW):FG X F (.Tuple [.Name x p1,.Name y p2] kk pos) (gTup [i,j]) :=
 (zR hc (dh (dJ (i:=i) hN hi hx hfx) (dh (dJ (i:=j) hN hj hy hfy) qD)) hn M4).weak λv σ H Q ⟨Z,S,d,ok,rd,w⟩=>by
  cases d with
  | tup ds =>
   match ds with
   | [a,b] =>
    rw[Rep]at rd;obtain⟨c,vs,rfl,h1,h2⟩:=rd;rw[Reps]at h2;obtain⟨v1,r,rfl,q1,h2⟩:=h2;rw[Reps]at h2;obtain⟨v2,r,rfl,q2,h2⟩:=h2;rw[Reps]at h2;subst h2;refine⟨c,[v1,v2],rfl,by rw[hK];exact h1.mono ok.sub,rfl,v1,[v2],rfl,v2,[],rfl,rfl,?_⟩;exact WG.now w ok.sub _ ((ok.setVal (i:=i) q1).setVal (i:=j) q2)
   | []=>exact w.elim
   | [_]=>exact w.elim
   | a::b::c::r =>
    have e:gTup [i,j] (.tup (a::b::c::r)) S=.stuck:=by unfold gTup;simp
    rw[e]at w;exact w.elim
  | _=>exact w.elim
theorem lV:∀ (l L0:List Int),l.foldl step_dedup L0=L0++(l.filter λx=>!L0.any (· == x)).eraseDups
 | [],L0=>by simp
 | x::l,L0=>by
  rw[IS,lV l];unfold step_dedup;by_cases h:L0.any (· == x)=true
  ·rw[if_pos h,LD (by rw[h];decide)]
  ·have h':L0.any (· == x)=false:=JE _ ▸ h;have ef:(l.filter λy=>!(L0++[x]).any (· == y))=(l.filter λy=>!L0.any (· == y)).filter λb=>!b==x:=by
    rw[List.filter_filter];refine List.filter_congr λy _=>?_
    rw[List.any_append];have:([x].any λz=>z==y)=(y==x):=by simp[Bool.beq_comm,BEq.comm]
    rw[this];cases L0.any (· == y)<;>cases (y==x)<;>rfl
   rw[if_neg h,LF (by rw[h'];rfl),KS,ef,Iu];rfl
def oR (is:List Int):(firstMet (λi=>is.getD i 0) is.length).length=is.eraseDups.length:=by
 unfold firstMet;rw[lV];have:(List.range is.length).map (λi=>is.getD i 0)=is:=by
  apply Lc;intro i;rw[Ir];by_cases h:i < is.length
  ·rw[KT h,HU h];simp[List.getD,h]
  ·rw[Je (by simpa using h),Je (by simpa using h)];rfl
 rw[this];have:(is.filter λx=>!([]:List Int).any (· == x))=is:=List.filter_eq_self.mpr λ_ _=>rfl
 rw[this,Ij]
variable {pos2:Pos}
def AW (hc:X.calm=true):NH X (.type "set") (λxs H Q=>∃ (p:Addr) (is:List Int),xs=[.ref p]/\SqL X.K H p (is.map V.int)/\is.length<=4000/\∀ a,H a=none->Q (.ref a) (upd H a (.set (λk'=>(firstMet (λi=>is.getD i 0) is.length).any (· == k')) is.eraseDups.length))):=by
 intro am s σ H xs us Q I r h;obtain⟨p,is,rfl,hq,hl,q⟩:=h;obtain⟨u,rfl,ru⟩:=N1 r;cases ru;obtain⟨its,rv,pl,hz⟩:=I.list hq;obtain⟨ps,rfl,e⟩:=bG rv;have Mq:ps.length=is.length:=by rw[<- e,Hl]
 have hs:(ps.map λp=>Value.int p.1 p.2).toArray.size=is.length:=by simp[Mq]
 refine call_set_list (ns:=is) (I.ok.hd hc) pl.isList ?_ (by rw[hs];show is.length+1 < 4096;omega) λh' tk hS hk=>?_
 ·have:∀ (ps:List (Int×Tok)),IntsAre (ps.map λp=>Value.int p.1 p.2) (ps.map (·.1)):=by
   intro ps
   induction ps with
   | nil=>exact .nil
   | cons a l ih=>exact .cons a.1 a.2 ih
  rw[<- e];exact this ps
 ·rw[hs,oR]at hS;exact⟨.ref s.zz,_,I.laid (o:=.set (λk'=>(firstMet (λi=>is.getD i 0) is.length).any (· == k')) is.eraseDups.length) (t':=tk) (λb u q=>hk b u (HC q) q) (Hr _) hS,rfl,q _ I.fresh⟩
def sU:NH X (.builtin "len") (λxs H Q=>∃ (a:Addr) (S:Int->Bool) (n:Nat),xs=[.ref a]/\H a=some (.set S n)/\Q (.int n) H):=by
 intro am s σ H xs us Q I r h;obtain⟨a,S,n,rfl,hq,q⟩:=h;obtain⟨u,rfl,ru⟩:=N1 r;cases ru;obtain⟨o,es,ep,t,h1,h2,h3,h4,h5,h6,h7,h8⟩:=(show s.heap.SetOf (intKind X.prog X.w) a S n from I.hok a _ hq);subst h8;have:es.size < 4096:=h6;exact call_len_set h1 h2 h3 h7 (by omega) ⟨.int es.size,H,I.tok _,⟨_,rfl⟩,q⟩
def yB (bx:BX X F k)(hg:Gl X "len")(hm:X.mg "len"=none)(hg2:Gl X "set")(hm2:X.mg "set"=none)(ha:FA X F [e] gs)(he:autoParam (Id X e []) YW)(hpl:autoParam (IO X pos2 []) YW)
  (he2:autoParam (starEach [.Call (.Name "set" p2) [e] [] pos2] X.env=(false,eval (.Call (.Name "set" p2) [e] [] pos2) X.env)::starEach [] X.env) YW) (hpl2:autoParam (IO X pos []) YW) :
  FE X F (.Call (.Name "len" p) [.Call (.Name "set" p2) [e] [] pos2] [] pos) (ND OG gs) :=
 (eD sU hg hm PySem.boot_len (mq (pI (AW bx.calm) hg2 hm2 (by decide +kernel) ha (he:=he) (hpl:=hpl)) u7 he2) (he:=he2) (hpl:=hpl2)).weak λσ H Q ⟨Z,S,ok,w⟩=>by
  refine a8 ok w λds vs H1 Z1 ok1 x1 rs w1=>?_
  unfold OG at w1;split at w1
  ·rename_i xs;split at w1
   ·rename_i is e;split at w1
    ·rename_i hl;obtain⟨v,rfl,h⟩:=a9 rs;rw[Rep]at h;obtain⟨a,us,rfl,h1,h2⟩:=h;have e2:=bQ h2 e;subst e2;refine⟨a,is,rfl,by rw[bx.K];exact ok1.sub.seq h1,hl,λc hc=>⟨c,_,_,rfl,az,?_⟩⟩;exact w1 _ _ (Ex.hidden ok1.sub hc) _ aQ
    ·exact w1.elim
   ·exact w1.elim
  ·exact w1.elim
def Pz:List Nat->TGs
 | []=>RP
 | i::r=>Q7 (Qj i) (Pz r)
theorem pR {H Z:Hp}{Q:St->MU}:∀ (ix:List Nat) (ds:List D) (vs:List V) (S:SS) (σ:St),ds.length=ix.length->Reps F.K F.C Z ds vs->StOk F H Z S σ->(∀ σ',StOk F H Z (O1 ix ds S) σ'->Q σ' H)->Pz ix vs σ H Q
 | [],[],vs,S,σ,_,rs,ok,h=>by
  rw[Reps]at rs;subst rs;exact⟨rfl,h σ ok⟩
 | i::ix,d::ds,vs,S,σ,hl,rs,ok,h=>by
  rw[Reps]at rs;obtain⟨v,r,rfl,q,rs⟩:=rs;exact⟨v,r,rfl,pR ix ds r _ _ (by simpa using hl) rs (ok.setVal q) h⟩
 | [],_::_,_,_,_,hl,_,_,_=>by simp at hl
 | _::_,[],_,_,_,hl,_,_,_=>by simp at hl
def sV {es:Nd}(ix:List Nat)(hc:X.calm=true)(h:PGs X es (Pz ix))(hn:(assignEach es X.env).length=ix.length)(M4:(assignEach es X.env).findIdx? (·.1)=none)(hK:X.K=F.K):FG X F (.Tuple es kk pos) (gTup ix) :=
 (zR hc h hn M4).weak λv σ H Q ⟨Z,S,d,ok,rd,w⟩=>by
  cases d with
  | tup ds =>
   by_cases hl:ds.length=ix.length
   ·have w':WG F H Z (R.ok (O1 ix ds S)) λS' H' Z'=>∀ σ',StOk F H' Z' S' σ'->Q σ' H':=by
     have e:gTup ix (.tup ds) S=R.ok (O1 ix ds S):=by unfold gTup;simp[hl]
     rw[e]at w;exact w
    have rd':=rd;rw[Rep]at rd';obtain⟨c,vs,rfl,h1,h2⟩:=rd';refine⟨c,vs,rfl,by rw[hK];exact h1.mono ok.sub,by rw[<- h2.length,hl],?_⟩;exact pR ix ds vs S σ hl h2 ok (WG.now w' ok.sub)
   ·have e:gTup ix (.tup ds) S=R.stuck:=by unfold gTup;simp[hl]
    rw[e]at w;exact w.elim
  | _=>exact w.elim
def CQ {ge:MM}{g:MV}(he:FE X F e ge)(hg:FG X F tg g)(hs:swapsWithSole [tg] e pos.line X.env=pure false)(hw:swappedStores [tg] e X.env=pure none)(h1:(assignEach [tg] X.env).map (·.2)=[assign tg X.env]):FS X F (.Assign [tg] e pos) (P5 g ge) :=
 (zS he hg hs hw h1).weak λD σ H ⟨Z,S,ok,w⟩=>aM ok (WO.wg ok w) λd v H1 Z1 ok1 x1 rv w1=>by
  refine⟨Z1,S,d,ok1,rv,?_⟩;cases q:g d S with
  | ok S1 =>
   rw[q]at w1;intro H' Z' x' σ' ok';exact(w1 H' Z' x') _ _ _ (Same.refl _) ok'
  | err k=>rw[q]at w1;exact w1
  | stuck=>rw[q]at w1;exact w1
variable {σ:Type}{rest:Nc}{J:σ->SS->Prop}{ge:MM}{r:R D}{n:Nat}
end
end FF
namespace L2
open PySem PySem.Spec PyProof.Rows
section
variable {X:Cx}{pos:Pos}
end
end L2
namespace FF
open PySem PySem.Spec PyProof.Rows L2
variable {k n own x1 t':Nat}{pos p2 ps p1:Pos}{w:World}{b:Bool}{K:Frag}{a it f:Addr}{prog P:Program}{A:Around}{N XN:List Str}{e tg iter elt:Expr}{x:Str}{us:List Value}{S:SS}{am:MZ}{σ:St}{H Z:Hp}{E:MJ}{scope:Scope}{C:MN}{IF:Array Value}{elts:Nd}{cap:List Nat}{st:Stmt}{h:Heap}{fp:List Addr}{ys:List V}{l:List (Str×Nat)}{old:Value}
section
variable {X:Cx}{F:Fx}{σ:Type}{rest:Nc}{J:σ->SS->Prop}
end
section
variable {X:Cx}{s:Shared}{h':Heap}
def sW {b:Addr}{o x:Obj}(q:b≠h.objs.size)(e:(h.push x).get? b=some o):h.get? b=some o:=by
 rcases Heap.get?_push_cases e with ⟨z,_⟩ | z
 ·exact absurd z q
 ·exact z
def PL (I:Inv X am σ H s)(hf:∀ b∈fp,Oy X am H b)(k:∀ b o,b∉fp->s.heap.get? b=some o->h'.get? b=some o):Inv X am σ H { s with heap:=h',toks:=t' }:=by
 have nit:∀ b u,H b=some u->b∉fp:=λb u e z=>by rw[(hf b z).1]at e;cases e
 refine I.step (λb hb=>?_) (λb o _ _ hc e _=>k b o hc e) (λb o _ _ hc e _=>⟨o.slots,k b o hc e⟩) (λ_ _ _ _ n=>n)
  (λb o hc e=>⟨o,k b o hc e⟩) (λ_ _ e=>e) (λ_ _ _ e=>e) (λb ps e=>⟨#[],by rw[e];simp⟩) (λm hm=>?_) (λb u e=>?_) I.bare
 ·obtain⟨_,f1,f2,f3,f4,f5⟩:=hf b hb;exact⟨f3,f1,f4,f5⟩
 ·obtain⟨o,es,ep,ho,r⟩:=hm;exact⟨o,es,ep,k _ o (λz=>(hf _ z).2.1 rfl) ho,r⟩
 ·refine(I.hok b u e).stay (λc v hc q=>k c v ?_ q) (λ_ q=>q) λ_ _ q=>q
  grind
def QM {x y:V}{u v:Value}(I:Inv X am σ H s)(hf:∀ b∈fp,Oy X am H b)(M0:∀ b∈fp,b≠s.heap.objs.size)(rx:RelV x u)(ry:RelV y v)(hp:IsPair h' s.heap.objs.size u v)
  (k:∀ b o,b∉fp->s.heap.get? b=some o->h'.get? b=some o):Inv X am σ (upd H s.heap.objs.size (.tup [x,y])) { s with heap:=h',toks:=t' }:=by
 have I1:Inv X am σ (upd H s.heap.objs.size (.tup [x,y])) { s with heap:=s.heap.push { cls:=.type "tuple",data:=.seq #[u,v] },toks:=s.toks }:=by
  refine I.laid (λb u e=>Hn _ e) (Hr _) ?_;exact⟨by show 2<=sizeLine;decide,[u,v],.cons rx (.cons ry .nil),TupO.new _ _⟩
 refine PL (s:={ s with heap:=s.heap.push { cls:=.type "tuple",data:=.seq #[u,v] },toks:=s.toks }) (fp:=fp) I1 (λb hb=>?_) λb o hb e=>?_
 ·obtain⟨f0,f1⟩:=hf b hb;exact⟨by rw[aE (M0 b hb)];exact f0,f1⟩
 ·by_cases q:b=s.heap.objs.size
  ·subst q;have e':=(HP s.heap rfl).symm.trans e;cases e';exact hp
  ·have e':s.heap.get? b=some o:=by
    exact sW q e
   exact k b o hb e'
def SqB (K:Frag)(H:Hp)(b:Bool)(a:Addr)(xs:List V):Prop:=if b=true then SqT K H a xs else SqL K H a xs
def vp {X:Cx}{s:Shared}{xs:List V}(I:Inv X am σ H s)(h:SqB X.K H b a xs):∃ its:List Value,Vals xs its/\SOb s.heap b a its.toArray/\xs.length<=sizeLine:=by
 cases b with
 | true =>
  obtain⟨its,rv,p,hz⟩:=I.tuple h;exact⟨its,rv,p,hz⟩
 | false =>
  obtain⟨its,rv,p,hz⟩:=I.list h;exact⟨its,rv,p.isList,hz⟩
def EU {X:Cx}{s:Shared}{xs:List V}(I:Inv X am σ H s)(h:SqB X.K H b a xs)(h':SqB X.K H b a ys):xs=ys:=by
 cases b with
 | true=>exact I.tuple_inj h h'
 | false=>exact I.list_inj h h'
def SqB.mono {xs:List V}(h:SqB K Z b a xs)(z:Same Z H):SqB K H b a xs:=by
 cases b with
 | true=>exact(show SqT K Z a xs from h).mono z
 | false=>exact z.seq h
def EV {d:D}{ds:List D}{v:V}(e:O0 d=.ok ds)(r:Rep K C Z d v):∃ b a vs,v=.ref a/\SqB K Z b a vs/\Reps K C Z ds vs:=by
 cases d with
 | tup xs =>
  cases e;rw[Rep]at r;obtain⟨a,vs,rfl,h1,h2⟩:=r;exact⟨true,a,vs,rfl,h1,h2⟩
 | lst xs =>
  cases e;rw[Rep]at r;obtain⟨a,vs,rfl,h1,h2⟩:=r;exact⟨false,a,vs,rfl,h1,h2⟩
 | _=>cases e
variable {F:Fx}{a b:Expr}{ga gb:MM}
variable {R:Result->MT}{I S:Addr}{res:Value}
variable {H1:Hp}{z TI TO i1 i2 a1 a2:Addr}{b1 b2:Bool}{xs:List V}
variable {g:MM}{p:Pos}
end
open AutoSeq1 (wpAny_loadPart')
def AX (hh:A.handled=none)(b:Bool)(it a:Addr)(hne:a≠it)(IF:Array Value) :
  Draws prog w A it [it,a] IF.size (λi v=>IF[i]?=some v) (λi h=>SIt h b it a i/\SOb h b a IF) where
 live:=λ_ _ st=>let ⟨o,ho,_⟩:=st.1.lt;⟨o,ho⟩
 frame:=λ_ _ _ st hk=>⟨st.1.at λo e=>hk it (by simp) o e,st.2.at λo e=>hk a (by simp) o e⟩
 item:=λi s Q E hi st hQ=>by
  refine yy st.1 st.2 (x:=IF[i]) (by simp[hi]) λh' hit' hs'=>?_
  exact hQ _ h' s.toks (by simp[hi]) ⟨hit',st.2.at λo e=>hs'.extBut _ _ hne e⟩ hs'
 done:=λs Q E st hE=>sT hh st.1 st.2 (by simp) hE
def nv (l:Addr)(IF:Array Value)(n:Nat)(dct:Option Addr)(sl:Array (Na)) :
  Meets (Builtin.«enumerate.__new__» ⟨[.type "enumerate",.ref l],[]⟩) (λ_ R s=>s.heap.get? l=some { cls:=.type "tuple",dict:=dct,data:=.seq IF n,slots:=sl } /\
   R (.ok (.ret (.ref (s.heap.push { cls:=.type "tuple_iterator",data:=.fields #[.ref l,.int 0 0] }).objs.size)))
    { s with heap:=(s.heap.push { cls:=.type "tuple_iterator",data:=.fields #[.ref l,.int 0 0] }).push { cls:=.type "enumerate",data:=.fields #[.none,.bool false,.ref s.zz,rawInt 0,.none,.none] } }) :=
 .of_wp λprog w A R s h=>by
  obtain⟨hp,g,d,tk,os⟩:=s;obtain⟨hl,h⟩:=h;have hsub:=sub_enumerate;have hL:Heap.IsTuple (Shared.heap ⟨hp,g,d,tk,os⟩) l IF:=⟨_,hl,rfl,n,rfl⟩
  wp_walk using wpAny_loadPart' hl
  refine wpAny_stack_any λst=>Hw ?_
  split
  ·rename_i c _ _ _ _ _;cases (c==Value.type "enumerate")
   ·wp_walk using wpAny_loadPart' hl,JO hL
    exact⟨_,rfl,h⟩
   ·wp_walk using wpAny_loadPart' hl,JO hL
    exact⟨_,rfl,h⟩
  ·wp_walk using wpAny_loadPart' hl,JO hL
   exact⟨_,rfl,h⟩
section
variable {s:Shared}
theorem oS {l:Addr}{Q:MJ}(hL:s.heap.IsTuple l IF)
  (h:∀ h',IsEnum h' (s.zz+1) s.zz 0 .none->h'.IsTupleIter s.zz l 0->h'.objs.size=s.zz+2 ->
   (∀ b o,s.heap.get? b=some o->h'.get? b=some o)->Q (.ref (s.zz+1)) { s with heap:=h' }) :
  wpAny (model prog w) A (call (.type "enumerate") [.ref l]) Q E s:=by
 obtain⟨⟨c,dct,dt,sl⟩,hl,hc,n,hd⟩:=hL
 replace hc:c=.type "tuple" := hc
 replace hd:dt=.seq IF n:=hd
 subst hc hd;refine callType_new F.called_enumerate (by decide) (F.typeCall_enumerate_1 _) (F.newCall_enumerate_1 _) (λobj=>F.args_object_init_2 obj _) F.entry_enumerate_new
  (nv l IF n dct sl) ⟨hl,?_⟩
 have hz:(s.heap.push { cls:=.type "tuple_iterator",data:=.fields #[.ref l,.int 0 0] }).objs.size=s.zz+1:=JB ..;show _/\_;rw[hz];have he:IsEnum ((s.heap.push { cls:=.type "tuple_iterator",data:=.fields #[.ref l,.int 0 0] }).push
   { cls:=.type "enumerate",data:=.fields #[.none,.bool false,.ref s.zz,rawInt 0,.none,.none] }) (s.zz+1) s.zz 0 .none:=by
  have:=HP (s.heap.push { cls:=.type "tuple_iterator",data:=.fields #[.ref l,.int 0 0] })
   (o:={ cls:=.type "enumerate",data:=.fields #[.none,.bool false,.ref s.zz,rawInt 0,.none,.none] }) rfl
  rw[hz]at this;exact this
 refine⟨⟨_,he,rfl⟩,h _ he ⟨_,Hn _ (HP _ rfl),rfl,rfl⟩ (by rw[JB,hz]) λb o x=>Hn _ (Hn _ x)⟩
def yC {l:Addr}{Q:MJ}(hL:SOb s.heap b l IF)
  (h:∀ h',IsEnum h' (s.zz+1) s.zz 0 .none->SIt h' b s.zz l 0->(∀ b o,s.heap.get? b=some o->h'.get? b=some o)->Q (.ref (s.zz+1)) { s with heap:=h' }) :
  wpAny (model prog w) A (call (.type "enumerate") [.ref l]) Q E s:=by
 cases b with
 | true=>exact oS hL λh' a1 a2 _ a3=>h h' a1 a2 a3
 | false=>exact call_enumerate_list hL λh' a1 a2 _ a3=>h h' a1 a2 a3
theorem pS {e:Addr}{i:Int}{Q:MJ}(he:IsEnum s.heap e it i old)(h:Q (.ref e) s):wpAny (model prog w) A (pyIter (.ref e)) Q E s:=by
 have hT:s.TypeIs (.ref e) "enumerate" := ⟨_,he,rfl⟩;refine wpAny_pyIter_slot hT LY (Jm LY hT F.entry_enumerate_iter ?_ (F.args_enumerate_iter_1 _));show wpAny _ _ (ret (.ref e)) _ _ s;exact Hw ⟨_,rfl,"enumerate",_,hT,KF.lookup,h⟩
theorem AY {e:Addr}{i:Int}{Q:Option Value->MT}(hh:A.handled=none)(he:IsEnum s.heap e it i old)(hit:SIt s.heap b it a k)(hl:SOb s.heap b a IF)(hx:IF[k]?=none)
  (hQ:∀ h',Heap.ExtBut it s.heap h'->Q none { s with heap:=h' }):wpAny (model prog w) A (pyNext (.ref e)) Q E s:=by
 have hT:s.TypeIs (.ref e) "enumerate" := ⟨_,he,rfl⟩;unfold pyNext;refine Hk (wpAny_attempt (IN (name:=Str.ofString "__next__") hT KF
  (Jm KF hT F.entry_enumerate_next ?_ (F.args_enumerate_next_1 _))))
 show wpAny _ _ (field (.ref e) 2 >>= _) _ _ _;refine Hk (JR he rfl (x:=.ref it) rfl ?_);refine Hk (sT (show A.in1.handled=none from hh) hit hl hx λh' x he' hx'=>?_);obtain⟨o,ho,hc⟩:=hx';refine Hk (wpAny_isInstance (T := "StopIteration") (b:=true) ⟨o,ho,hc⟩ isSubtype_stop ?_);exact Hw (hQ _ he')
noncomputable def Ite (K:Frag)(b:Bool)(a:Addr):It :=
 ⟨λi H=>∃ xs x,SqB K H b a xs/\xs[i]?=some x,
  λi H v H'=>∃ p x,H p=none/\v=.ref p/\(∀ xs,SqB K H b a xs->xs[i]?=some x)/\H'=upd H p (.tup [.int (i:Int),x]),
  λi H=>∃ xs,SqB K H b a xs/\xs.length<=i⟩
def yD {e:Addr}(b:Bool)(hei:e≠it)(hai:a≠it)(hea:e≠a) :
  P4 P w K (.Tuple elts x1 pos) (Ite K b a) [e,it] e (λi h=>(∃ old,IsEnum h e it i old)/\SIt h b it a i) where
 mem:=by simp
 obj:=λi h st c hb=>by
  obtain⟨⟨old,e1⟩,e2⟩:=st;simp only[Ho,HZ,IP]at hb;rcases hb with rfl | rfl
  ·exact⟨_,e1,λv z=>by have z':Data.fields _=Data.cell v:=z;cases z'⟩
  ·exact e2.lt
 keep:=λi h h' st k=>by
  obtain⟨⟨old,e1⟩,e2⟩:=st;exact⟨⟨old,k e (by simp) _ e1⟩,e2.at λo q=>k it (by simp) o q⟩
 item:=by
  intro X hP hw hK hc i am s σ H E I hf st hg;subst hP hw hK;obtain⟨xs,x,q1,hx⟩:=hg;obtain⟨⟨old,e1⟩,e2⟩:=st;obtain⟨is1,rv1,o1,_⟩:=vp I q1;obtain⟨u,hu,ru⟩:=rv1.get hx;have hl:=rv1.length;have hil:i < xs.length:=(HM.mp hx).1;have lt:∀ c∈[e,it],c≠s.zz:=λc hb=>by
   simp only[Ho,HZ,IP]at hb;rcases hb with rfl | rfl
   ·exact HQ (HC e1)
   ·obtain⟨o,ho,_⟩:=e2.lt;exact HQ (HC ho)
  have D:=AX (prog:=X.prog) (w:=X.w) (A:=X.A.in1) (show X.A.in1.handled=none from I.ok.hd hc) b it a hai is1.toArray;refine wpAny_pyNext_enum_itemD D e1 ⟨e2,o1⟩ (by simp;omega) hei (by simp[hei,hea]) λv h' tk hP ho hs' hT hsz hk=>?_
  have ev:v=u:=by
   have h1:is1[i]?=some v:=by simpa using hP
   rw[hu]at h1;cases h1;rfl
  subst ev;refine⟨_,rfl,wpAny_letOwnedTupleGo_enum (s:={ s with heap:=h',toks:=tk+1 }) ho λh2 he2 sb2=>?_⟩;have k2:∀ c o,c∉[e,it]->s.heap.get? c=some o->h2.get? c=some o:=λc o hb q=>by
   simp only[Ho,HZ,IP,not_or]at hb;exact sb2.extBut _ _ hb.1 (hk c o hb.1 hb.2 q)
  have hp2:IsPair h2 s.zz (.int i tk) v:=sb2.extBut _ _ (λq=>lt e (by simp) q.symm) hT;have I2:Inv X am σ (upd H s.zz (.tup [.int (i:Int),x])) { s with heap:=h2,toks:=tk+1 }:=QM I hf lt ⟨tk,rfl⟩ ru hp2 k2;exact⟨.ref s.zz,_,I2,rfl,⟨s.zz,x,I.hok.fresh (Hr _),rfl,λxs' q=>by rw[EU I q q1];exact hx,rfl⟩,⟨⟨_,by simpa using he2⟩,hs'.1.at λo q=>sb2.extBut _ _ (Jd hei) q⟩,λc hb=>by rw[aE (lt c hb)];exact(hf c hb).1⟩
 done:=by
  intro X hP hw hK hc i am s σ H E I hf st hg;subst hP hw hK;obtain⟨xs,q1,hx⟩:=hg;obtain⟨⟨old,e1⟩,e2⟩:=st;obtain⟨is1,rv1,o1,_⟩:=vp I q1;have hl:=rv1.length;refine AY (I.ok.hd hc) e1 e2 o1 (by simp;omega) λh' hk=>⟨rfl,PL (t':=s.toks) I hf λc o hb q=>?_⟩
  simp only[Ho,HZ,IP,not_or]at hb;exact hk c o hb.2 q
 self:=λ_ _ _ _ _ st h=>by obtain⟨⟨old,e1⟩,_⟩:=st;exact pS e1 h
def yE:bootBuiltins "enumerate"=some (.type "enumerate"):=by decide +kernel
def CS {X:Cx}{p:Pos}{a:Expr}{ta:TA}(hg:Gl X "enumerate")(hm:X.mg "enumerate"=none)(ha:PA X [a] ta)(hs:autoParam (starEach [a] X.env=[(false,eval a X.env)]) YW) :
  PI X (.Tuple elts x1 ps) (.Call (.Name "enumerate" p) [a] [] pos) (λσ H R=>ta σ H λvs H1=>∃ b a1,vs=[.ref a1]/\(∃ xs,SqB X.K H1 b a1 xs)/\R (Ite X.K b a1) H1):=by
 intro am s σ H R I h;refine Call_ (kw I hg hm yE (Jo (thn (ha pos am s σ H _ I h) λus s1 ⟨vs,H1,I1,r1,q1⟩=>?_) hs rfl));obtain⟨b,a1,e,⟨xs,hx⟩,q⟩:=q1;subst e;cases r1 with
 | cons r rr =>
  cases rr;cases r;obtain⟨is1,rv1,o1,_⟩:=vp I1 hx;have lt:a1 < s1.zz:=by cases b<;>(obtain⟨_,e,_⟩:=o1;exact HC e)
  refine yC o1 λh' he hi hk=>pS (s:={ s1 with heap:=h' }) he ?_
  have I2:Inv X am σ H1 { s1 with heap:=h',toks:=s1.toks }:=I1.kept hk;refine⟨_,_,_,_,H1,rfl,I2,yD b (Nat.succ_ne_self _) (HQ lt) (Nat.ne_of_gt (Ld lt)),⟨⟨_,he⟩,hi⟩,λc hc=>?_,q⟩;have hb:s1.zz<=c:=by
   simp only[Ho,HZ,IP]at hc;rcases hc with rfl | rfl
   ·exact Nat.le_add_right _ _
   ·exact Hr _
  exact I1.fpOk hb (I1.hok.fresh hb)
theorem wU:∀ {xs:List D} {k i:Nat} {x:D},xs[i]?=some x->(enD xs k)[i]?=some (.tup [.int ((k+i:Nat):Int),x])
 | a::xs,k,0,x,h=>by cases h;rfl
 | a::xs,k,i+1,x,h=>by
  have:=wU (xs:=xs) (k:=k+1) (i:=i) (by simpa using h);rw[show k+1+i=k+(i+1) by omega]at this
  simpa [enD] using this
 | [],_,_,_,h=>by simp at h
theorem qV:∀ (xs:List D) (k:Nat),(enD xs k).length=xs.length
 | [],_=>rfl
 | a::xs,k=>by show (enD xs (k+1)).length+1=_;rw[qV xs (k+1)];rfl
def yF {F:Fx}{xs:List D}{vs:List V}(h1:SqB F.K Z b a vs)(r1:Reps F.K F.C Z xs vs):Qp F (Ite F.K b a) (enD xs 0) Z:=λi H Z2 z1 z2=>by
 have l:=qV xs 0;have e1:=r1.length;refine⟨λhi=>?_,λhi=>⟨vs,h1.mono (z1.trans z2),by omega⟩⟩;have hx:vs[i]?=some vs[i]:=HU (by omega);refine⟨⟨vs,_,h1.mono (z1.trans z2),hx⟩,λv H' ⟨p,x,hp,e,qx,eH⟩=>?_⟩;subst e;subst eH;obtain⟨dx,f1,g1⟩:=r1.get' (qx _ (h1.mono (z1.trans z2)));have z3:Same Z (upd Z2 p (.tup [.int (i:Int),x])):=z1.trans (aN (z2.free hp));have f2:=wU (k:=0) f1;rw[Mm]at f2;refine⟨upd Z2 p (.tup [.int (i:Int),x]),.tup [.int (i:Int),dx],Ex.alloc z2 hp,f2,?_⟩;rw[Rep];exact⟨p,[.int (i:Int),x],rfl,SqT.of az,Reps.cons aQ (Reps.cons (g1.mono z3) Reps.nil)⟩
variable {X:Cx}{F:Fx}{a:Expr}{ga:MM}
def CT {α:Type}(f:D->R α):((aL [ga]) S).bind (λds=>match ds with | [x]=>f x | _=>R.stuck)=(ga S).bind λx=>f x:=by
 show (((ga S).bind λd=>(R.ok []:R (List D)).bind λds=>R.ok (d::ds))).bind _=_;cases ga S<;>rfl
def qW {p:Pos}(bx:BX X F k)(hg:Gl X "enumerate")(hm:X.mg "enumerate"=none)(ha:FE X F a ga)(hs:autoParam (starEach [a] X.env=[(false,eval a X.env)]) YW) :
  FI X F (.Tuple elts x1 ps) (.Call (.Name "enumerate" p) [a] [] pos) (λS=>(ga S).bind λx=>OZ x) :=
 (CS hg hm (FAL.out (aa ha ae (hs:=by show starEach _ _=_;rw[hs];rfl))) hs).weak λσ H Q ⟨Z,S,ok,w⟩=>by
  have w:WG F H Z ((ga S).bind λx=>OZ x) _:=w;rw[<- CT]at w;refine a8 ok w λds vs H1 Z1 ok1 x1 rs w1=>?_
  obtain⟨dx,rfl⟩:∃ dx,ds=[dx]:=by
   rcases ds with _ | ⟨dx,_ | ⟨dy,r⟩⟩
   ·exact False.elim w1
   ·exact⟨dx,rfl⟩
   ·exact False.elim w1
  focus
   have w2:WG F H1 Z1 (OZ dx) _:=w1;unfold OZ sq at w2;rw[Reps]at rs;obtain⟨v1,r,rfl,q1,rs⟩:=rs;rw[Reps]at rs;subst rs;cases e1:O0 dx with
   | err k=>rw[e1]at w2;cases dx<;>cases e1
   | stuck=>rw[e1]at w2;exact w2.elim
   | ok xs =>
    rw[e1]at w2;have w3:WG F H1 Z1 (R.bind (if xs.length<=16777216 then R.ok xs else R.stuck) λxs=>R.ok (enD xs 0)) _:=w2;split at w3
    ·rename_i hl1;obtain⟨b1,a1,us1,rfl,s1,t1⟩:=EV e1 q1;rw[bx.K];exact⟨b1,a1,rfl,⟨us1,s1.mono ok1.sub⟩,WG.now w3 ok1.sub _ (yF s1 t1) (by rw[qV];exact hl1)⟩
    ·exact w3.elim
variable {p pos2:Pos}
variable {σ:Type}{rest:Nc}{J:σ->SS->Prop}{ge:MM}{r:R D}
end
section
variable {X:Cx}{F:Fx}
def AZ (i j:Nat){y:Str}{tp pt2:Pos}{k k2:_}{a b:Expr}{gs:ML}(bx:BX X F n)(hN:X.N.Nodup)(ha:FA X F [a,b] gs)(hi:autoParam (X.N[i]?=some x) YW)(hj:autoParam (X.N[j]?=some y) YW)
  (hx:autoParam (Loc X.env.scope x) Yy) (hy:autoParam (Loc X.env.scope y) Yy)
  (hfx:autoParam (MC X x) Yw) (hfy:autoParam (MC X y) Yw)
  (hn:autoParam ((assignEach [.Name x p1,.Name y p2] X.env).length=2) YW) (M4:autoParam ((assignEach [.Name x p1,.Name y p2] X.env).findIdx? (·.1)=none) YW)
  (hs:autoParam (swapsWithSole [.Tuple [.Name x p1,.Name y p2] k tp] (.Tuple [a,b] k2 pt2) pos.line X.env=pure false) YW) (hw:autoParam (swappedStores [.Tuple [.Name x p1,.Name y p2] k tp] (.Tuple [a,b] k2 pt2) X.env=pure none) YW)
  (h1:autoParam ((assignEach [.Tuple [.Name x p1,.Name y p2] k tp] X.env).map (·.2)=[assign (.Tuple [.Name x p1,.Name y p2] k tp) X.env]) YW) :
  FS X F (.Assign [.Tuple [.Name x p1,.Name y p2] k tp] (.Tuple [a,b] k2 pt2) pos) (P5 (gTup [i,j]) (Qc gs)) :=
 CQ (Ai ha) (sV [i,j] bx.calm (dh (dJ hN hi hx hfx) (dh (dJ hN hj hy hfy) qD)) hn M4 bx.K) hs hw h1
noncomputable def QI (XN:List Str)(scope:Scope)(N:List Str)(own:Nat):Nat->List Nat->Bool
 | _,[]=>true
 | j,i::r=>(match N[own+j]?,XN[i]? with
  | some x,some y=>x==y&&scope.names.lookup x==some .free
  | _,_=>false)&&QI XN scope N own (j+1) r
noncomputable def RT (XN:List Str)(osc scope:Scope)(N:List Str)(own:Nat)(cap:List Nat):Bool :=
 scope.kind==.function&&(scope.names.all λy=>scope.names.lookup y.1==some y.2)&&(scope.names.all λy=>!(y.2==.free)||(osc.names.lookup y.1==some .cell||osc.names.lookup y.1==some .free))&&N.length==own+cap.length&&QI XN scope N own 0 cap
theorem wV {XN:List Str}{scope:Scope}{N:List Str}{own:Nat}:∀ {cap:List Nat} {k:Nat},QI XN scope N own k cap=true->∀ j i,cap[j]?=some i->∃ x,N[own+(k+j)]?=some x/\XN[i]?=some x/\scope.names.lookup x=some .free
 | [],_,_,j,i,e=>by simp at e
 | c::r,k,h,j,i,e=>by
  unfold QI at h;rw[HD]at h;cases j with
  | zero =>
   simp only[List.getElem?_cons_zero,Kr]at e;subst e;have h1:=h.1;split at h1
   ·rename_i x y e1 e2;rw[HD]at h1;have:=eq_of_beq h1.1;subst this;exact⟨x,by rw[KM];exact e1,e2,eq_of_beq h1.2⟩
   ·cases h1
  | succ j =>
   obtain⟨x,a,b⟩:=wV h.2 j i (by simpa using e);exact⟨x,by rw[<- a];congr 1;omega,b⟩
def BlkOk.of {osc:Scope}(h:RT XN osc scope N own cap=true):BlkOk XN osc scope N own cap:=by
 unfold RT at h;simp only[HD,HS]at h;obtain⟨⟨⟨⟨h1,h2⟩,h3⟩,h4⟩,h5⟩:=h;have look:=λy hy=>eq_of_beq (h2 y hy)
 refine⟨eq_of_beq h1,λy hy e=>by rw[look y hy,e],λy hy e=>by rw[look y hy,e],λy hy e=>by rw[look y hy,e],λy hy e=>?_,eq_of_beq h4,λj i e=>?_⟩
 ·grind
 ·have:=wV h5 j i e
  grind
variable {o:Expr}{g:MM}{gs:List (MM)}{Mo KW:Pos}
end
def OkD (P:Program)(w:World)(K:Frag)(mg:MK)(base:Heap)(C:MN)(k:Nat)(x:Str)(st:Stmt)(ps:List Str)(fn:MI):Prop :=
 ∀ {f:Addr} {fd:FuncData},Fun K x x st f fd->OM P w K mg base (CXE P w) (k+1) f fd ps (spF K C ps.length fn)
def OkB (P:Program)(w:World)(K:Frag)(mg:MK)(base:Heap)(C:MN)(k:Nat)(N:List Str)(x:Str)(st:Stmt)(ds:List D)(l:L Unit):Prop :=
 ∀ (f:Addr) (Mt:Value) (A:Around) (outer:List Env) (s:Shared) (H Z:Hp) (E:XK),BX (NS P w K mg base N x (ME st) f Mt A outer s H E) ⟨K,C,H,Z,E⟩ k ->
  PassesOwn (model P w) (NS P w K mg base N x (ME st) f Mt A outer s H E).A (NS P w K mg base N x (ME st) f Mt A outer s H E).env (NS P w K mg base N x (ME st) f Mt A outer s H E).xe ->
  Qq (NS P w K mg base N x (ME st) f Mt A outer s H E) ⟨K,C,H,Z,E⟩->FL (NS P w K mg base N x (ME st) f Mt A outer s H E) ⟨K,C,H,Z,E⟩ (ON N.length ds) (NL st) JU l
def Nh {ps:List Str}{sc:Scope}(a:autoParam (sc.kind=.function) YW)(b:autoParam (sc.isCoroutine=false) YW)(c:autoParam (sc.isGenerator=false) YW)(d:autoParam N.Nodup ZU)(e:autoParam (N.take ps.length=ps) YW)
  (f:autoParam (∀ x∈ps,sc.names.lookup x=some .local\/sc.names.lookup x=some .cell) ZU) (g:autoParam (∀ y∈sc.names,y.2≠.free) ZU):MG N ps sc:=⟨a,b,c,d,e,f,g⟩
section
variable {mg:MK}{base:Heap}{ps:List Str}
def okd {fn:MI}(S:MG N ps (ME st))(h:∀ ds,ds.length=ps.length->∃ l,fn ds=MW l/\OkB P w K mg base C k N x st ds l):OkD P w K mg base C k x st ps fn:=λF =>
 CN F S λMt A outer s H Z E bx hp md ds hl=>by
  obtain⟨l,e,o⟩:=h ds hl;exact⟨l,e,o _ Mt A outer s H Z E bx hp md⟩
def ok1 {p:Str}{c:D->L Unit}(S:MG N [p] (ME st))(h:∀ a,OkB P w K mg base C k N x st [a] (c a)):OkD P w K mg base C k x st [p] (a1 c):=okd S λds hl=>by obtain⟨a,rfl⟩:=SL hl;exact⟨c a,rfl,h a⟩
def ok2 {p q:Str}{c:D->D->L Unit}(S:MG N [p,q] (ME st))(h:∀ a b,OkB P w K mg base C k N x st [a,b] (c a b)):OkD P w K mg base C k x st [p,q] (a2 c):=okd S λds hl=>by obtain⟨a,b,rfl⟩:=SK hl;exact⟨c a b,rfl,h a b⟩
def ok3 {p q r:Str}{c:D->D->D->L Unit}(S:MG N [p,q,r] (ME st))(h:∀ a b d,OkB P w K mg base C k N x st [a,b,d] (c a b d)):OkD P w K mg base C k x st [p,q,r] (a3 c):=okd S λds hl=>by obtain⟨a,b,d,rfl⟩:=SJ hl;exact⟨c a b d,rfl,h a b d⟩
def ok4 {p q r s:Str}{c:D->D->D->D->L Unit}(S:MG N [p,q,r,s] (ME st))(h:∀ a b d e,OkB P w K mg base C k N x st [a,b,d,e] (c a b d e)):OkD P w K mg base C k x st [p,q,r,s] (a4 c):=okd S λds hl=>by obtain⟨a,b,d,e,rfl⟩:=SI hl;exact⟨c a b d e,rfl,h a b d e⟩
def ok5 {p q r s t:Str}{c:D->D->D->D->D->L Unit}(S:MG N [p,q,r,s,t] (ME st))(h:∀ a b d e f,OkB P w K mg base C k N x st [a,b,d,e,f] (c a b d e f)):OkD P w K mg base C k x st [p,q,r,s,t] (a5 c):=okd S λds hl=>by obtain⟨a,b,d,e,f,rfl⟩:=SH hl;exact⟨c a b d e f,rfl,h a b d e f⟩
structure Fd (K:Frag)(mg:MK)(x:Str)(ps:List Str)(st:Stmt):Prop where
 ex:∃ a fd,Fun K x x st a fd/\mg x=some (.ref a)/\Binds K fd ps []
def sX {fd:FuncData}:OM P w K mg base (CXE P w) k f fd ps (spF K C n λ_=>.stuck) :=
 ⟨λvs H Q E h=>by obtain⟨_,_,_,_,_,z⟩:=h;exact z.elim,λA outer s H args us vs Q E _ _ _ _ h=>by obtain⟨_,_,_,_,_,z⟩:=h;exact z.elim⟩
def sY {i:Nat}(F:Fd K mg x ps st)(hf:mg x=some (.ref (C i))):FnV P w K mg base C 0 i λ_=>.stuck:=by
 obtain⟨a,fd,F,h,b⟩:=F.ex;rw[hf]at h;cases h;exact⟨fd,ps,sX,F.kp,b,λ_ _=>rfl⟩
def sZ {i:Nat}{fn:MI}(F:Fd K mg x ps st)(hf:mg x=some (.ref (C i)))(ok:OkD P w K mg base C k x st ps fn)(hl:∀ ds,ds.length≠ps.length->fn ds=.stuck):FnV P w K mg base C (k+1) i fn:=by
 obtain⟨a,fd,F,h,b⟩:=F.ex;rw[hf]at h;cases h;exact⟨fd,ps,ok F,F.kp,b,hl⟩
def g0 (F:Fd K mg x ps st):Fn1 P w K mg base C 0 x ps (λ_=>.stuck):=by obtain⟨a,fd,F,h,b⟩:=F.ex;exact⟨a,fd,sX,h,F.kp,b⟩
def g1 {fn:MI}(F:Fd K mg x ps st)(ok:OkD P w K mg base C k x st ps fn):Fn1 P w K mg base C (k+1) x ps fn:=by obtain⟨a,fd,F,h,b⟩:=F.ex;exact⟨a,fd,ok F,h,F.kp,b⟩
section
variable {oc:Value}{od an:Option Addr}{osl:Array (Na)}{kV doc pm Mt ct:Value}
def FQ (X:K.In h)(G:h.Ns mainGlobals mg)(hb:∀ (kV doc pm:Value) (an:Option Addr) (Mt ct:Value) (us:List Value),us.length=ps.length->bindArgs (fnOf x x (NY st) (NL st) (ME st) .none kV doc pm an Mt ct) ⟨us,[]⟩=pure (ps.zip us))
  (a:nsIn K mainGlobals x=some (some (.ref f))) (l:K.lookup f=some ⟨oc,od,.func (fnOf x x (NY st) (NL st) (ME st) .none kV doc pm an Mt ct),osl⟩) (c:codeIn K Mt x=true) (k:keepIn K (.ref f)=true):Fd K mg x ps st :=
 ⟨f,_,vb l c k,mg_of X G a,(vb l c k).binds hb⟩
end
def ln1 (h:us.length=1):∃ a,us=[a]:=match us,h with | [a],_=>⟨a,rfl⟩
def ln2 (h:us.length=2):∃ a b,us=[a,b]:=match us,h with | [a,b],_=>⟨a,b,rfl⟩
def ln3 (h:us.length=3):∃ a b c,us=[a,b,c]:=match us,h with | [a,b,c],_=>⟨a,b,c,rfl⟩
def ln4 (h:us.length=4):∃ a b c d,us=[a,b,c,d]:=match us,h with | [a,b,c,d],_=>⟨a,b,c,d,rfl⟩
def ln5 (h:us.length=5):∃ a b c d e,us=[a,b,c,d,e]:=match us,h with | [a,b,c,d,e],_=>⟨a,b,c,d,e,rfl⟩
end
abbrev Ng (K:Frag)(x:Str)(v:Na):Prop:=nsIn K mainGlobals x=some v
def aU {n c:Addr}{cd:ClassData}(hd:clsIn K c=some cd)(hy:typeIn K (.ref c)=some (.type "type"))(hs:subIn K (.ref n) (.ref c)=some b)(hn:subIn K (.ref n) (.ref n)=some true):kitOne K (.ref n) (.ref c)=some b:=by
 unfold kitOne;by_cases e:n=c
 ·subst e;rw[hn]at hs;rw[if_pos (by simp)];exact hs
 ·rw[if_neg (by simpa using e)];show (if ((clsIn K c).isSome&&typeIn K (.ref c)==some (.type "type"))=true then subIn K (.ref n) (.ref c) else none)=some b;rw[hd,hy,if_pos (by simp)];exact hs
def vq {n:Addr}(hs:subIn K (.ref n) (.type "ValueError")=some true):kitOne K (.ref n) (.type "ValueError")=some true:=by
 unfold kitOne;rw[if_neg (by simp)];show (if PySem.W.kitMeta "ValueError"=true then subIn K (.ref n) (.type "ValueError") else none)=some true;rw[if_pos (by decide +kernel)];exact hs
theorem wW {K:Frag}{C:MN}{Z:Hp}:∀ ns:List Int,Reps K C Z (ns.map .int) (ns.map V.int)
 | []=>by rw[IG,IG,Reps]
 | i::ns=>by rw[Hq,Hq,Reps];exact⟨_,_,rfl,aQ,wW ns⟩
section
variable {σ:Type}{X:Cx}{F:Fx}{J:σ->SS->Prop}
variable {ey ex:Expr}{ge gy gx:MM}
variable {git:ML}
variable {ifs:Nd}{g:MV}{gc:MR}
end
section
variable {X:Cx}{F:Fx}{p p3:Pos}{g:MM}
end
end FF
namespace L2
open PySem PySem.Spec PyProof.Rows
variable {X:Cx}{H:Hp}{a:Addr}{s:Shared}{A:Around}{E:MJ}{am:MZ}{σ:St}{u r:Value}{y:V}{pos:Pos}{w:World}{o:Option V}{kvs:List (Key×V)}{value e:Expr}
section
variable {κ:Type}[DecidableEq κ]
end
section
variable {P:Program}{h:Heap}
variable {v:V}
def Inv.big (I:Inv X am σ H s):sysModules < s.zz:=by
 have h:=(I.mod.glob.keeps I.bk).lt;exact Nat.lt_trans (by decide) h
def CU {h':Heap}{t':Nat}{ob:HO}(I:Inv X am σ H s)(mu:Mut (H a))(hs:Heap.SameBut a s.heap h')(he:∃ q,h'.get? a=some q)(new:ObjOk X.prog X.w (upd H a ob) h' a ob) :
  Inv X am σ (upd H a ob) { s with heap:=h',toks:=t' } :=
 I.write mu (.inl rfl) (λb q hb z=>(hs.2 b hb).trans z) he new
variable {k:Key}
def Rq (i:Expr):Prop:=∀ ov iv,subscripted i false ov iv=operate [ov,iv] (getItem ov iv)
def CV {prog:Program}{env:Env}{slice:Expr}{T id:String}{Q:MJ}
  (hl:typeLookup (.type T) "__getitem__"=pure (some (.builtin id))) (hs:Rq slice)
  (h:wpAny (model prog w) A (eval value env) (λo s₁=>wpAny (model prog w) A (eval slice env) (λi s₂=>s₂.TypeIs o T/\wpAny (model prog w) A (getItem o i) Q E s₂) E s₁) E s) :
  wpAny (model prog w) A (eval (.Subscript value slice pos) env) Q E s:=by
 refine Subscript_ (Im h (λo s₁ h₁=>Im h₁ (λi s₂ h₂=>?_) λ_ _ x=>x) λ_ _ x=>x);obtain⟨hT,h₂⟩:=h₂;unfold subscriptTail;refine Hk ?_;rw[getitemInPython_of_ne hT.not_modules];refine Hk (wpAny_specialOf hT hl ?_);have fin:wpAny (model prog w) A (subscripted slice false o i) (λr s₃=>wpAny (model prog w) A (letTemporaryGo value o r >>= λ_=>pure r) Q E s₃) E s₂:=by
  rw[hs o i];exact wpAny_operating (Im h₂ (λr s₃ h₃=>Hk (wpAny_letTemporaryGo (Hw h₃))) λ_ _ x=>x)
 first
  | exact Hw (Hk fin)
  | exact Hk (Hw (Hk fin))
  | exact Hk fin
variable {o i:Expr}{pos' tpos:Pos}{td ty tv:TE}
variable {d:V}
variable {f:Expr}{Mo KW:Pos}{tx:TE}
end
end L2
namespace FF
open PySem PySem.Spec PyProof.Rows L2
variable {F:Fx}{X:Cx}{pos:Pos}{Z:Hp}{k:Nat}{g:MM}{x:Str}
noncomputable def NP {κ:Type}[DecidableEq κ](m:List (κ×D))(k:κ):Option D:=(m.find? λp=>decide (p.1=k)).map (·.2)
noncomputable def OA {κ:Type}[DecidableEq κ](m:List (κ×D))(k:κ)(d:D):List (κ×D):=if (m.any λp=>decide (p.1=k))=true then m.map (λp=>if p.1=k then (p.1,d) else p) else m++[(k,d)]
section
variable {κ:Type}{m:List (κ×D)}{kvs:List (κ×V)}{k:κ}{d:D}{v:V}
variable [DecidableEq κ]
end
section
variable {H:Hp}{S:SS}{σ:St}
variable {p:Pos}{ge:MM}{e ei:Expr}
variable {keys:List (Option Expr)}{values:Nd}{ks:List Key}{gs:List (MM)}
end
noncomputable def Pv (i:Int):List Int->List Int
 | []=>[i]
 | a::r=>if i<=a then i::a::r else a::Pv i r
noncomputable def Og (is:List Int):List Int:=is.foldr Pv []
noncomputable def Om:MI
 | [.lst xs]=>match NB xs with
  | some is=>if is.length < 64 then .ok (.lst ((Og is).map .int)) else .stuck
  | none=>.stuck
 | _=>.stuck
theorem kM (i:Int):∀ l:List Int,(Pv i l).Perm (i::l)
 | []=>.refl _
 | a::r=>by
  unfold Pv;split
  ·exact .refl _
  ·exact((kM i r).cons a).trans (.swap i a r)
theorem eJ:∀ is:List Int,(Og is).Perm is
 | []=>.refl _
 | i::is=>(kM i _).trans ((eJ is).cons i)
theorem wX (i:Int):∀ l:List Int,l.Pairwise (·<=·)->(Pv i l).Pairwise (·<=·)
 | [],_=>by unfold Pv;exact Kp _ _
 | a::r,h=>by
  unfold Pv;have h1:=Iy.mp h;split
  ·rename_i q;exact Iy.mpr ⟨λb hb=>by rcases Ho.mp hb with rfl | hb;exact q;exact Int.le_trans q (h1.1 b hb),h⟩
  ·rename_i q;exact Iy.mpr ⟨λb hb=>by rcases Ho.mp ((kM i r).subset hb) with rfl | hb;omega;exact h1.1 b hb,wX i r h1.2⟩
theorem jN:∀ is:List Int,(Og is).Pairwise (·<=·)
 | []=>.nil
 | i::is=>wX i _ (jN is)
theorem jc:∀ {a b:List Int},a.Perm b->a.Pairwise (·<=·)->b.Pairwise (·<=·)->a=b
 | [],b,p,_,_=>(List.nil_perm.mp p).symm
 | x::xs,[],p,_,_=>nomatch p.length_eq
 | x::xs,y::ys,p,ha,hb=>by
  have h1:=Iy.mp ha;have h2:=Iy.mp hb;have e:x=y:=by
   have m1:x∈y::ys:=p.subset Ih;have m2:y∈x::xs:=p.symm.subset Ih;rcases Ho.mp m1 with e | m1
   ·exact e
   ·rcases Ho.mp m2 with e | m2
    ·exact e.symm
    ·have a1:=h1.1 y m2;have a2:=h2.1 x m1;omega
  subst e;rw[jc (List.Perm.cons_inv p) h1.2 h2.2]
section
variable {p:Pos}{e:Expr}{gs:ML}
def tj:NH X (.builtin "sorted") (λxs H Q=>∃ (a:Addr) (is:List Int),xs=[.ref a]/\SqL X.K H a (is.map V.int)/\is.length < 64/\∀ p,H p=none->Q (.ref p) (upd H p (.lst ((Og is).map V.int)))):=by
 intro am s σ H xs us Q I r h;obtain⟨a,is,rfl,hq,hl,q⟩:=h;obtain⟨u,rfl,ru⟩:=N1 r;cases ru;obtain⟨its,rv,pl,hz⟩:=I.list hq;have Mq:its.length=is.length:=by have:=rv.length;rw[Hl]at this;omega
 refine sorted_ints (ns:=is) pl.isList (mP rv) (by omega) λout ns' a1 a2 a3=>?_
 have e:=jc (a2.trans (eJ is).symm) a3 (jN is);subst e;obtain⟨n,hn⟩:=sortedAll_at s.heap its out;have hz2:((Og is).map V.int).length<=sizeLine:=by rw[Hl,(eJ is).length_eq,HV];omega
 exact⟨.ref (s.zz+1),_,I.laid (o:=.lst ((Og is).map V.int)) (t':=s.toks) (λb u q=>sortedAll_old q) (JA _) ⟨hz2,out.toList,n,L2.bG a1,by simpa [seqObj] using hn⟩,rfl,q _ (I.hok.fresh (JA _))⟩
theorem ny {F:Fx}{Z:Hp}:∀ is:List Int,Reps F.K F.C Z (is.map .int) (is.map V.int)
 | []=>Reps.nil
 | i::is=>Reps.cons aQ (ny is)
def pU (bx:BX X F k)(hg:Gl X "sorted")(hm:X.mg "sorted"=none)(ha:FA X F [e] gs)(he:autoParam (Id X e []) YW)(hpl:autoParam (IO X pos []) YW) :
  FE X F (.Call (.Name "sorted" p) [e] [] pos) (ND Om gs) :=
 (eD tj hg hm boot_sorted ha (he:=he) (hpl:=hpl)).weak λσ H Q ⟨Z,S,ok,w⟩=>by
  refine a8 ok w λds vs H1 Z1 ok1 x1 rs w1=>?_
  unfold Om at w1;split at w1
  ·rename_i xs;split at w1
   ·rename_i is e;split at w1
    ·rename_i hl;obtain⟨v,rfl,h⟩:=a9 rs;rw[Rep]at h;obtain⟨a,us,rfl,h1,h2⟩:=h;have e2:=bQ h2 e;subst e2;refine⟨a,is,rfl,by rw[bx.K];exact ok1.sub.seq h1,hl,λc hc=>?_⟩;exact w1 _ _ (Ex.alloc ok1.sub hc) _ (by rw[Rep];exact⟨c,_,rfl,SqL.of az,ny _⟩)
    ·exact w1.elim
   ·exact w1.elim
  ·exact w1.elim
variable {ga gb:MM}{a b:Expr}
variable {prog:Program}{w:World}{A:Around}{E:MJ}{s:Shared}
variable {st:Expr}{te:TE}{p2:Pos}
end
end FF
namespace HT
open PySem PyProof.Rows
section
open PySem.SeqAt
open PySem.AutoSeq1 (wpAny_loadPart')
open PySem.MeetsSeq PySem.MeetsSeq2 PySem.MeetsSeq3
end
section
variable {prog:Program}{w:World}{A:Around}{E:MJ}{s:Shared}
end
end HT
namespace FF
open PySem PySem.Spec PyProof.Rows L2
variable {X:Cx}{A:Around}{E:MJ}{s s0:Shared}{w:World}{prog:Program}{F:Fx}{pos p p2 pos2:Pos}{k own:Nat}{e tg elt iter:Expr}{N:List Str}{scope:Scope}{am:MZ}{cap:List Nat}
section
variable {a b:Expr}{ga gb:MM}
variable {M:Model}
variable {P:Program}{K:Frag}{mg:MK}{base:Heap}{qual:Str}{f:Addr}{cd:Value}{outer:List Env}{H0:Hp}{E:XK}
variable {cl:List (Str×Addr)}{C:Addr}{H:Hp}{fp:List Addr}{σ:L2.St}{H1:Hp}{s1:Shared}
variable {wi:TI}{g:TG}{tc:TT}{te:TE}
set_option maxHeartbeats 4000000 in
end
section
variable {git:ML}{g:MV}{ge:MM}
variable {kws:List Keyword}{gs:ML}
variable {R:Result->MT}{h₀:Heap}{l I S:Addr}{its:List Value}{ks:Nat->List Int}
noncomputable def Oo:List Int->List Int->Bool
 | [],[]=>false
 | [],_::_=>true
 | _::_,[]=>false
 | a::r,b::t=>if a=b then Oo r t else decide (a < b)
noncomputable def NF?:D->Option (List Int)
 | .tup ds=>NB ds
 | _=>none
end
section
variable {σ':Type}{S:SS}{st:Stmt}{rest:Nc}{J:σ'->SS->Prop}
variable {R:Result->MT}
variable {gs:ML}{σ:List (Option V)}{H:Hp}
end
end FF
end
noncomputable section
set_option maxRecDepth 1000000
namespace FF
open PySem PySem.Spec PyProof.Rows L2
section
variable {X:Cx}{k c:Nat}{F:Fx}{pos Mo pos' KW p0:Pos}{e o a b ei oe:Expr}{x m qual:Str}{ps N:List Str}{v:V}{G:Gx}{P prog:Program}{K:Frag}{st:Stmt}{A:Around}{C:MN}{E:MJ}{σ:St}{H0:Hp}{u:Value}{mg:MK}{base:Heap}{am:MZ}{f:Addr}
noncomputable def RM:Code->Option Value->Option Bool
 | .call (.builtin id) ⟨[.int a _,.int b _],[]⟩,none=>if id="int.__lt__" then some (decide (a < b)) else none
 | _,_=>none
noncomputable def ev {α:Type}(σ:Setting):Sem α->Option α
 | .pure a=>some a
 | .rule _ k=>ev σ (k ())
 | .point _ k=>ev σ (k ())
 | .ask k=>ev σ (k σ)
 | .call c h _ _ k=>match RM c h with
  | some b=>ev σ (k (.ok (.ret (.bool b))))
  | none=>none
 | _=>none
section
variable {w:World}{s:Shared}
noncomputable def sg (σ:Setting)(b:Bool):Setting:={ σ with params:={ σ.params with followText:=λx=>if x="special-get-raises" then b else σ.params.followText x } }
def wY (σ:Setting):sg σ (σ.params.followText "special-get-raises")=σ:=by
 unfold sg;have:(λx=>if x="special-get-raises" then σ.params.followText "special-get-raises" else σ.params.followText x)=σ.params.followText:=by
  funext x
  split
  ·rename_i e;rw[e]
  ·rfl
 rw[this]
noncomputable def Pn:List Value->Option (List Int)
 | []=>some []
 | .int n _::r=>(Pn r).map (n::·)
 | _=>none
noncomputable def Rh (r:Unit×SortSt):Option (List Int):=if (failedOf r.2).isNone=true then Pn ((arrOf r.2).map (·.2)).toList else none
variable {p:Pos}{gs:ML}
variable {g ge:MM}
variable {ga gb:MM}
end
section
variable {g:MM}{gs:List (MM)}
variable {lo hi:Option Expr}{l h:SS->R (Option Int)}{p2:Pos}
end
section
variable {gs:ML}
variable {fd:FuncData}{t:MI}{ds:List D}{l I S:Addr}{Z0:Hp}{R:Result->MT}{d:D}
variable {p kp np:Pos}{g:MM}
end
noncomputable def PX (kvs:List TKV)(ks:List Int):Option V:=(kvs.find? λp=>decide (p.1=ks)).map (·.2.2)
noncomputable def Ph (kvs:List TKV)(ks:List Int)(b:Addr)(v:V):List TKV:=if (kvs.any λp=>decide (p.1=ks))=true then kvs.map (λp=>if p.1=ks then (p.1,p.2.1,v) else p) else kvs++[(ks,b,v)]
section
variable {kvs:List TKV}{xs:List TKU}{ks:List Int}
def CW (r:Paired Pd kvs xs):RelO (PX kvs ks) ((atKey xs ks).map (·.2)):=by
 unfold PX atKey
 induction r with
 | nil=>exact Jn
 | cons h _ ih =>
  rename_i p q ps qs _;obtain⟨h1,h2,h3⟩:=h;rw[JP,JP,<- h1];by_cases c:p.1=ks
  ·rw[Hz c];exact h3
  ·rw[Hv c];exact ih
def tm (r:Paired Pd kvs xs):(atKey xs ks).isSome=(kvs.any λp=>decide (p.1=ks)):=by
 unfold atKey;rw[Option.isSome_map]
 induction r with
 | nil=>rfl
 | cons h _ ih =>
  rename_i p q ps qs _;obtain⟨h1,h2,h3⟩:=h;rw[JP,K8,<- h1,<- ih];by_cases c:p.1=ks
  ·rw[Hz c];rfl
  ·rw[Hv c];rfl
def CY (rv:RelV v u)(r:Paired Pd kvs xs):Paired Pd (kvs.map λp=>if p.1=ks then (p.1,p.2.1,v) else p) (xs.map (putAt ks u)):=by
 induction r with
 | nil=>exact .nil
 | cons h _ ih =>
  rename_i p q ps qs _;refine .cons ?_ ih;obtain⟨h1,h2,h3⟩:=h;show Pd (if p.1=ks then (p.1,p.2.1,v) else p) (if q.1=ks then (q.1,q.2.1,u) else q);rw[<- h1];by_cases c:p.1=ks
  ·rw[if_pos c,if_pos c];exact⟨rfl,h2,rv⟩
  ·rw[if_neg c,if_neg c];exact⟨h1,h2,h3⟩
def yG {α β:Type}{R:α->β->Prop}{as:List α}{bs:List β}{a:α}{b:β}(r:Paired R as bs)(h:R a b):Paired R (as++[a]) (bs++[b]):=by
 induction r with
 | nil=>exact .cons h .nil
 | cons h' _ ih=>exact .cons h' ih
def CZ {b:Addr}(rv:RelV v u)(r:Paired Pd kvs xs):Paired Pd (Ph kvs ks b v) (storedH xs ks b u):=by
 unfold Ph storedH;rw[tm r];split
 ·exact CY rv r
 ·exact yG r ⟨rfl,rfl,rv⟩
def A0 {α β:Type}{R:α->β->Prop}{as:List α}{bs:List β}(r:Paired R as bs):∀ b∈bs,∃ a∈as,R a b:=by
 induction r with
 | nil=>exact λb hb=>nomatch hb
 | cons h _ ih =>
  intro b hb;rcases Ho.mp hb with rfl | hb
  ·exact⟨_,.head _,h⟩
  ·obtain⟨a,ha,q⟩:=ih b hb;exact⟨a,.tail _ ha,q⟩
def tq {α β:Type}{R:α->β->Prop}{as:List α}{bs:List β}(r:Paired R as bs):as.length=bs.length:=by
 induction r with
 | nil=>rfl
 | cons h _ ih=>rw[HB,HB,ih]
def A2 {b:Addr}:(Ph kvs ks b v).length<=kvs.length+1:=by unfold Ph;split<;>simp
variable {H:Hp}{s:Shared}{a b:Addr}
theorem pV {P:Program}{w:World}:∀ {ks:List Int} {its:List Value},Vals (ks.map V.int) its->ItemsAre (intKind P w) ks its
 | [],its,h=>by cases h;exact .nil
 | k::ks,its,h=>by
  cases h with
  | cons h r =>
   obtain⟨t,rfl⟩:=h;exact .cons (by show Value.isInt k (.int k t)=true;simp[Value.isInt]) (pV r)
def my (I:Inv X am σ H s)(h:SqT X.K H b (ks.map V.int)):IsTupleKey (intKind X.prog X.w) s.heap ks b:=by
 obtain⟨its,r,⟨o,e,c,n,d⟩,_⟩:=I.tuple h;exact⟨o,its.toArray,n,e,c,d,by simpa using pV r⟩
def NZ (K:Frag)(H:Hp)(kvs:List TKV):Prop:=∀ x∈kvs,SqT K H x.2.1 (x.1.map V.int)
def jO (I:Inv X am σ H s)(e:H a=some (NU a kvs))(hk:NZ X.K H kvs):∃ xs:List TKU,Paired Pd kvs xs/\xs.length<=sizeLine/\(a==sysModules)=false/\s.heap.DictOfH (tupleKind (intKind X.prog X.w)) a xs:=by
 obtain⟨xs,r,hl,hm,o,es,ep,h1,h2,h3,h4,h5⟩:=(show ObjOk X.prog X.w H s.heap a (NU a kvs) from I.hok a _ e).1;refine⟨xs,r,hl,hm,o,es,ep,h1,h2,h3,h4,λx hx=>?_,h5⟩;obtain⟨p,hp,q1,q2,_⟩:=A0 r x hx;have:=my I (hk p hp);rw[<- q1,<- q2];exact this
def wZ {w:World}{H':Hp}{h':Heap}(h:Rz a kvs h'):ObjOk P w H' h' a (NU a kvs):=by
 refine⟨h,?_,λh1 h2 ⟨xs,r,hl,hm,o,es,ep,g1,g⟩ kk=>⟨xs,r,hl,hm,o,es,ep,kk o g1,g⟩⟩;obtain⟨xs,r,hl,hm,o,es,ep,g1,g⟩:=h;exact⟨o,g1⟩
def yH {Q:MJ}(hu:A.units+1 < cLine)(I:Inv X am σ H s)(e:H a=some (NU a kvs))(hk:NZ X.K H kvs)(hb:SqT X.K H b (ks.map V.int))(g:PX kvs ks=some v)(h:∀ w' s',Inv X am σ H s'->RelV v w'->Q w' s') :
  wpAny (model X.prog X.w) A (getItem (.ref a) (.ref b)) Q E s:=by
 obtain⟨xs,r,hl,hm,dd⟩:=jO I e hk;obtain⟨w',hw,rw'⟩:=RelO.some_of (v:=v) (o:=(atKey xs ks).map (·.2)) (by rw[<- g];exact CW r);obtain⟨p,hp,hp2⟩:=Option.map_eq_some_iff.mp hw;refine wpAny_getItem_heap (K4 hu) (my I hb) dd hp ?_;rw[hp2];exact h w' _ (I.tok _) rw'
def Sg {Q:MJ}(hu:A.units+1 < cLine)(I:Inv X am σ H s)(e:H a=some (NU a kvs))(hk:NZ X.K H kvs)(hb:SqT X.K H b (ks.map V.int))(h:∀ s',Inv X am σ H s'->Q (.bool (kvs.any λp=>decide (p.1=ks))) s') :
  wpAny (model X.prog X.w) A (compareOp .In (.ref b) (.ref a)) Q E s:=by
 obtain⟨xs,r,hl,hm,dd⟩:=jO I e hk;refine wpAny_in_heap (K4 hu) (my I hb) hm dd ?_;rw[tm r];exact h _ (I.tok _)
def yI {Q:Unit->MT}(hu:A.units+1 < cLine)(I:Inv X am σ H s)(e:H a=some (NU a kvs))(hk:NZ X.K H kvs)(hb:SqT X.K H b (ks.map V.int))(rv:RelV v u)(hl:kvs.length < 1000000)(h:∀ s',Inv X am σ (upd H a (NU a (Ph kvs ks b v))) s'->Q () s') :
  wpAny (model X.prog X.w) A (setItem (.ref a) (.ref b) u) Q E s:=by
 obtain⟨xs,r,hl',hm,dd⟩:=jO I e hk;refine wpAny_setItem_heap (hsz:=hl') (K4 hu) (my I hb) dd λh' dd' hs=>h _ ?_
 obtain⟨q,es,ep,hq,h2,h3,h4,_,h5⟩:=dd';have rp:=CZ (ks:=ks) (b:=b) rv r;refine CU I (by rw[e];exact Jn) hs ⟨q,hq⟩ (wZ ⟨_,rp,?_,hm,q,es,ep,hq,h2,h3,h4,h5⟩);rw[<- tq rp,HV];have:=A2 (kvs:=kvs) (ks:=ks) (b:=b) (v:=v);omega
def vt (I:Inv X am σ H s)(e:H a=some (NU a kvs)):s.TypeIs (.ref a) "dict" := by
 obtain⟨xs,r,hl,hm,o,es,ep,h1,h2,_⟩:=(show ObjOk X.prog X.w H s.heap a (NU a kvs) from I.hok a _ e).1;exact⟨o,h1,h2.1⟩
def yJ {xs:List TKU}(hm:(a==sysModules)=false):MeetsIn X.prog X.w (Builtin.«dict.__len__» ⟨[.ref a],[]⟩) (λ_ R s=>s.heap.DictOfH (tupleKind (intKind X.prog X.w)) a xs/\R (.ok (.ret (.int xs.length s.toks))) { s with toks:=s.toks+1 }) :=
 .of_wp λA R s ⟨dd,h⟩=>by
  obtain⟨o,es,ep,g1,g2,g3,g4,_⟩:=dd;have en:es.size=xs.length:=size_of_entries g4;show wpAny _ _ (dictSize a >>= _) _ _ s;unfold dictSize;refine Hk (Hk (wpAny_dictEntries g1 g3 (Hw ?_)));show wpAny _ _ (Builtin.Dict.pendingCount a >>= _) _ _ s;refine Hk (wpAny_pendingCount_other hm (wpAny_ret_mkInt ?_));rw[en];exact h
def FR {Q:MJ}(I:Inv X am σ H s)(e:H a=some (NU a kvs))(hk:NZ X.K H kvs)(h:∀ t s',Inv X am σ H s'->Q (.int kvs.length t) s'):wpAny (model X.prog X.w) A (call (.builtin "len") [.ref a]) Q E s:=by
 obtain⟨xs,r,hl,hm,dd⟩:=jO I e hk;have hz:xs.length < 2^63:=by rw[HV]at hl;omega
 rw[tq r]at h;refine Lm PySem.kind_len PySem.plain_len PySem.entry_len (PySem.args_len1 _) ?_;unfold Builtin.«len»;refine Hk (m:=oneArg "len" _) (Hw (Hk (m:=callSpecial? (.ref a) (Str.ofString "__len__")) (IN (name:=Str.ofString "__len__") dd.typeIs LZ
  (call_meetsIn LZ dd.typeIs PySem.F.entry_dict_len (PySem.F.args_dict_len_1 _) (yJ hm) ⟨dd,?_⟩))))
 show wpAny _ _ _ _ _ { s with toks:=s.toks+1 };refine Hk (Js (Hw (Hk (wpAny_letGo ?_))));show wpAny _ _ (if ((xs.length:Nat):Int) < 0 then _ else _) _ _ _;rw[if_neg (by omega)];show wpAny _ _ (if ((xs.length:Nat):Int)≥2^63 then _ else _) _ _ _;rw[if_neg (by omega)];exact Hk (wpAny_mkInt (Hw ⟨_,rfl,h _ _ (I.tok _)⟩))
end
section
variable {i value:Expr}{td ty tv:TE}
def Da:PE X (.Dict [] [] pos) (λ_ H Q=>∀ p,H p=none->Q (.ref p) (upd H p (NU p []))):=λam s σ H Q I h =>
 wpAny_Dict_empty ⟨.ref s.zz,_,I.laid (a:=s.zz) (o:=NU s.zz []) (t':=s.toks) (λ_ _ q=>Hn _ q) (Hr _)
  (wZ ⟨[],.nil,IA _,beq_eq_false_iff_ne.mpr (Jd (HQ I.big)),_,#[],0,HP _ rfl,⟨rfl,rfl,rfl⟩,rfl,rfl,List.nodup_nil⟩),rfl,h _ (I.hok.fresh (Hr _))⟩
def Db (hu:X.A.units+1 < cLine)(ho:PE X o td)(hi:PE X i ty)(hs:Rq i):PE X (.Subscript o i pos)
  (λσ H Q=>td σ H λx H1=>ty σ H1 λy H2=>∃ a b kvs ks v,x=.ref a/\y=.ref b/\H2 a=some (NU a kvs)/\NZ X.K H2 kvs/\SqT X.K H2 b (ks.map V.int)/\PX kvs ks=some v/\Q v H2):=by
 intro am s σ H Q I h;refine CV PySem.F.slot_dict_getitem.lookup hs (thn (ho am s σ H _ I h) λu s1 ⟨x,H1,I1,rx,q1⟩=>thn (hi am s1 σ H1 _ I1 q1) λiv s2 ⟨y,H2,I2,ry,a,b,kvs,ks,v,ex,ey,g1,g2,g3,g4,q2⟩=>?_);subst ex;subst ey;cases (show u=Value.ref a from rx);cases (show iv=Value.ref b from ry);exact⟨vt I2 g1,yH hu I2 g1 g2 g3 g4 λw' s' I' r'=>⟨v,H2,I',r',q2⟩⟩
def RF (K:Frag):R2:=λx y H Q=>∃ a b kvs ks,x=.ref b/\y=.ref a/\H a=some (NU a kvs)/\NZ K H kvs/\SqT K H b (ks.map V.int)/\Q (.bl (kvs.any λp=>decide (p.1=ks))) H
def A3 (hu:X.A.units+1 < cLine):OpR X (compareOp .In) (RF X.K):=by
 intro am s σ H x y v u Q I rx ry h;obtain⟨a,b,kvs,ks,rfl,rfl,g1,g2,g3,q⟩:=h;cases rx;cases ry;exact Sg hu I g1 g2 g3 λs' I'=>⟨.bl _,H,I',rfl,q⟩
def Dc (hu:X.A.units+1 < cLine)(ho:PE X o td)(hi:PE X i ty)(hv:PE X value tv)(hs:swapsWith value (some (.Subscript o i pos')) pos.line X.env=pure false):PS X (.Assign [.Subscript o i pos'] value pos)
  (λD σ H=>tv σ H λv H1=>td σ H1 λx H2=>ty σ H2 λy H3=>∃ a b kvs ks,x=.ref a/\y=.ref b/\H3 a=some (NU a kvs)/\NZ X.K H3 kvs/\SqT X.K H3 b (ks.map V.int)/\kvs.length < 1000000/\D.nx σ (upd H3 a (NU a (Ph kvs ks b v)))):=by
 intro am s σ H D I h;refine wpAny_Assign_Subscript (thn (hv am s σ H _ I h) λr s1 ⟨v,H1,I1,rv,q1⟩=>thn (ho am s1 σ H1 _ I1 q1) λu s2 ⟨x,H2,I2,rx,q2⟩=>thn (hi am s2 σ H2 _ I2 q2) λiv s3 ⟨y,H3,I3,ry,a,b,kvs,ks,ex,ey,g1,g2,g3,g4,q3⟩=>?_) hs;subst ex;subst ey;cases (show u=Value.ref a from rx);cases (show iv=Value.ref b from ry);exact yI hu I3 g1 g2 g3 rv g4 λs4 I4=>⟨σ,_,I4,q3⟩
noncomputable def QC (m:List (List Int×D))(k:D):R D:=match NF? k with
 | some k=>.ok (.bl (m.any λp=>decide (p.1=k)))
 | none=>.stuck
noncomputable def P7 (m:List (List Int×D))(k d:D):R (List (List Int×D)):=match NF? k with
 | some k=>if m.length < 1000000 then .ok (OA m k d) else .stuck
 | none=>.stuck
noncomputable def OT (m:List (List Int×D)):D:=.tab (m.map (·.1)) (m.map (·.2))
noncomputable def dTx (d k:D):R D:=match d with
 | .tab ks xs=>match NF? k with
  | some k=>match NP (ks.zip xs) k with
   | some d=>.ok d
   | none=>.stuck
  | none=>.stuck
 | _=>.stuck
noncomputable def PF:MI
 | [.tab ks _]=>.ok (.int (ks.length:Nat))
 | _=>.stuck
structure TabOk (F:Fx)(Z:Hp)(m:List (List Int×D))(kvs:List TKV):Prop where
 ks:kvs.map (·.1)=m.map (·.1)
 at_:NZ F.K Z kvs
 vs:Reps F.K F.C Z (m.map (·.2)) (kvs.map (·.2.2))
variable {Z Z':Hp}{m:List (List Int×D)}{kvs:List TKV}{ks:List Int}{d:D}{b:Addr}
def TabOk.mono (h:TabOk F Z m kvs)(z:Same Z Z'):TabOk F Z' m kvs:=⟨h.ks,λx hx=>(h.at_ x hx).mono z,h.vs.mono z⟩
def TabOk.nil:TabOk F Z [] []:=⟨rfl,(λx hx=>nomatch hx),Reps.nil⟩
def TabOk.cons (h:TabOk F Z m kvs)(hb:SqT F.K Z b (ks.map V.int))(r:Rep F.K F.C Z d v):TabOk F Z ((ks,d)::m) ((ks,b,v)::kvs) :=
 ⟨by rw[Hq,Hq,h.ks],λx hx=>(Ho.mp hx).elim (λz=>by rw[z];exact hb) (h.at_ x),Reps.cons r h.vs⟩
def TabOk.inv {k:List Int×D}(h:TabOk F Z (k::m) kvs):∃ b v r,kvs=(k.1,b,v)::r/\SqT F.K Z b (k.1.map V.int)/\Rep F.K F.C Z k.2 v/\TabOk F Z m r:=by
 cases kvs with
 | nil=>have:=h.ks;cases this
 | cons p r =>
  obtain⟨k',b,v⟩:=p;obtain⟨h1,h2,h3⟩:=h;rw[Hq,Hq]at h1;injection h1 with h1 h4
  have q:=h2 _ (.head _);obtain⟨r1,r2⟩:=Reps.uncons h3;cases (show k'=k.1 from h1);exact⟨b,v,r,rfl,q,r1,h4,λx hx=>h2 x (.tail _ hx),r2⟩
def TabOk.inv0 (h:TabOk F Z [] kvs):kvs=[]:=by
 cases kvs with
 | nil=>rfl
 | cons p r=>have:=h.ks;cases this
theorem TabOk.any:∀ {m:List (List Int×D)} {kvs:List TKV},TabOk F Z m kvs->(kvs.any λp=>decide (p.1=ks))=(m.any λp=>decide (p.1=ks))
 | [],kvs,h=>by rw[h.inv0];rfl
 | k::m,kvs,h=>by
  obtain⟨b,v,r,rfl,_,_,h2⟩:=h.inv;rw[K8,K8,h2.any]
def TabOk.len (h:TabOk F Z m kvs):kvs.length=m.length:=by have:=IZ List.length h.ks;simpa using this
theorem TabOk.get:∀ {m:List (List Int×D)} {kvs:List TKV},TabOk F Z m kvs->NP m ks=some d->∃ v,PX kvs ks=some v/\Rep F.K F.C Z d v
 | [],kvs,h,e=>nomatch e
 | k::m,kvs,h,e=>by
  obtain⟨b,v,r,rfl,h0,h1,h2⟩:=h.inv;unfold NP at e;rw[JP]at e;unfold PX;rw[JP];by_cases hk:k.1=ks
  ·rw[Hz hk]at e;rw[Hz (show (k.1,b,v).1=ks from hk)];cases e;exact⟨v,rfl,h1⟩
  ·rw[Hv hk]at e;rw[Hv (show ¬ (k.1,b,v).1=ks from hk)];exact h2.get e
theorem TabOk.upd (r:Rep F.K F.C Z d v):∀ {m:List (List Int×D)} {kvs:List TKV},TabOk F Z m kvs->TabOk F Z (m.map λp=>if p.1=ks then (p.1,d) else p) (kvs.map λp=>if p.1=ks then (p.1,p.2.1,v) else p)
 | [],kvs,h=>by rw[h.inv0];exact TabOk.nil
 | k::m,kvs,h=>by
  obtain⟨b,u,q,rfl,h0,h1,h2⟩:=h.inv;rw[Hq,Hq];by_cases hk:k.1=ks
  ·rw[if_pos hk,if_pos (show (k.1,b,u).1=ks from hk)];exact(h2.upd r).cons h0 r
  ·rw[if_neg hk,if_neg (show ¬ (k.1,b,u).1=ks from hk)];obtain⟨k1,k2⟩:=k;exact(h2.upd r).cons h0 h1
theorem TabOk.snoc (r:Rep F.K F.C Z d v)(hb:SqT F.K Z b (ks.map V.int)):∀ {m:List (List Int×D)} {kvs:List TKV},TabOk F Z m kvs->TabOk F Z (m++[(ks,d)]) (kvs++[(ks,b,v)])
 | [],kvs,h=>by rw[h.inv0];exact TabOk.nil.cons hb r
 | k::m,kvs,h=>by
  obtain⟨b',u,q,rfl,h0,h1,h2⟩:=h.inv;obtain⟨k1,k2⟩:=k;exact(h2.snoc r hb).cons h0 h1
def TabOk.put (h:TabOk F Z m kvs)(r:Rep F.K F.C Z d v)(hb:SqT F.K Z b (ks.map V.int)):TabOk F Z (OA m ks d) (Ph kvs ks b v):=by
 unfold OA Ph;rw[h.any];split
 ·exact h.upd r
 ·exact h.snoc r hb
theorem tu {α β:Type}:∀ l:List (α×β),(l.map (·.1)).zip (l.map (·.2))=l
 | []=>rfl
 | (a,b)::l=>by rw[Hq,Hq,Kj,tu l]
def xa {Z0:Hp}{E:XK}{ks:List (List Int)}{xs:List D}(h:Rep K C Z (.tab ks xs) v):∃ a kvs,v=.ref a/\Z a=some (NU a kvs)/\TabOk ⟨K,C,H0,Z0,E⟩ Z (ks.zip xs) kvs/\ks.length=xs.length:=by
 rw[Rep]at h;obtain⟨a,kvs,h1,h2,h3,h4,h5⟩:=h;have l1:=IZ List.length h3;have l2:=h5.length;rw[Hl]at l1 l2;refine⟨a,kvs,h1,h2,⟨?_,h4,?_⟩,by omega⟩
 ·rw[List.map_fst_zip (by omega)];exact h3
 ·rw[List.map_snd_zip (by omega)];exact h5
def nz {k:D}{y:V}(e:NF? k=some ks)(r:Rep K C Z k y):∃ b,y=.ref b/\SqT K Z b (ks.map V.int):=by
 cases k with
 | tup ds =>
  rw[Rep]at r;obtain⟨a,vs,rfl,h1,h2⟩:=r;have:=bQ h2 e;subst this;exact⟨a,rfl,h1⟩
 | _=>cases e
end
noncomputable abbrev dt (m:List (List Int×D)):Option Sl:=some (.dit m)
noncomputable def R5 (i:Nat):SS->O:=λS=>.nx (S.set i (some (.dit [])))
def Rm (i:Nat)(g:MM):MM:=λS=>(g S).bind λk=>match S[i]? with
 | some (some (.dit m))=>QC m k
 | _=>.stuck
def RE (i:Nat)(gi ge:MM):SS->O:=λS=>match S[i]? with
 | some (some (.dit m))=>rO (((ge S).bind λv=>(gi S).bind λk=>P7 m k v).bind λm'=>.ok (.nx (S.set i (some (.dit m')))))
 | _=>.stuck
section
variable {H Z:Hp}{S:SS}
def StOk.dit (h:StOk F H Z S σ)(i:Nat)(m:List (List Int×D))(e:S[i]?=some (some (.dit m))):∃ a kvs,σ[i]?=some (some (.ref a))/\H a=some (NU a kvs)/\TabOk F Z m kvs:=by
 obtain⟨v,A,e1,⟨a,kvs,rfl,rfl,e2,r1,r2,r3⟩,_⟩:=h.sl i _ e;exact⟨a,kvs,e1,e2,r1,r2,r3⟩
def StOk.freezeT (h:StOk F H Z S σ){i:Nat}{m:List (List Int×D)}(e:S[i]?=some (some (.dit m))):∃ Z',Same Z Z'/\StOk F H Z' (S.set i (some (.val (OT m)))) σ:=by
 obtain⟨v,A,e1,o,p⟩:=h.sl i _ e;obtain⟨a,kvs,rfl,rfl,e2,r1,r2,r3⟩:=id o;have za:Z a=none:=p.z a (.head _);have hz:Same Z (upd Z a (NU a kvs)):=aN za;refine⟨upd Z a (NU a kvs),hz,h.frzAll (x:=.dit m) (d:=OT m) e e1 o hz (λb q eb=>?_) (λb hb=>?_) ?_⟩
 ·by_cases c:b=a
  ·subst c;rw[az]at eb;cases eb;exact e2
  ·rw[aE c]at eb;exact h.sub b q eb
 ·by_cases c:b=a
  ·subst c;exact .inr (.head _)
  ·rw[aE c]at hb;exact .inl hb
 ·unfold OT;rw[Rep];exact⟨a,kvs,rfl,az,r1,λx hx=>(r2 x hx).mono hz,r3.mono hz⟩
variable {p:Pos}{g ge:MM}
def yK (i:Nat)(hN:X.N.Nodup)(hi:autoParam (X.N[i]?=some x) YW)(hx:autoParam (Loc X.env.scope x) Yy)(hs:autoParam (swapsWith (.Dict [] [] p) (some (.Name x pos')) pos.line X.env=pure false) YW)
  (hf:autoParam (MC X x) Yw):FS X F (.Assign [.Name x pos'] (.Dict [] [] p) pos) (R5 i) :=
 (qE hN hi hx Da hs hf).weak λD σ H ⟨Z,S,ok,w⟩=>λa hp=>by
  have w2:WO F Z (.nx (S.set i (some (.dit [])))) D:=w;exact w2 _ _ Z (Same.refl _) (ok.putNew (x:=.dit []) (A:=[a]) (Ex.hidden ok.sub hp) ⟨a,[],rfl,rfl,az,rfl,(λx hx=>nomatch hx),Reps.nil⟩ ⟨by simp,λb hb=>by cases HE.mp hb;exact ok.sub.free hp,λb hb=>by cases HE.mp hb;exact ok.ex.same.free hp⟩ λb hb=>by cases HE.mp hb;exact hp)
def xb (i:Nat)(hK:X.K=F.K):∀ σ H Q,tE F (Rm i g) σ H Q->tOp (RF X.K) (tE F g) (RA i) σ H Q:=λσ H Q ⟨Z,S,ok,w⟩=>by
 refine aM ok w λd y H1 Z1 ok1 x1 ry w1=>?_
 split at w1
 ·rename_i m e0;obtain⟨a,kvs,e1,e2,r⟩:=ok1.dit i m e0;unfold QC at w1;split at w1
  ·rename_i ks ek;obtain⟨b,rfl,hb⟩:=nz ek ry;refine⟨.ref a,e1,a,b,kvs,ks,rfl,rfl,e2,by rw[hK];exact λx hx=>(r.at_ x hx).mono ok1.sub,by rw[hK];exact hb.mono ok1.sub,?_⟩;rw[r.any];exact WG.now w1 ok1.sub _ aY
  ·exact w1.elim
 ·exact w1.elim
def A4 (i:Nat)(bx:BX X F k)(he:FE X F e g)(hm:autoParam (behindInMarks .In (.Name x p0)=false) YW)(hi:autoParam (X.N[i]?=some x) YW)(hv:autoParam (Vis X.env.scope x) Yq)(hd:autoParam (MA x) YQ)
  (M1:autoParam (MD x) YQ):FT X F (.Compare e [.In] [.Name x p0] pos) (gB (Rm i g)) :=
 (wz (A3 (X:=X) (by have:=bx.room.un;omega)) he (fW hi hv hd M1) hm).weak (wE (xb i bx.K))
def A5 (i:Nat)(bx:BX X F k)(he:FE X F e ge)(hix:FE X F ei g)(hi:autoParam (X.N[i]?=some x) YW)(hv:autoParam (Vis X.env.scope x) Yq)(hd:autoParam (MA x) YQ)
  (M1:autoParam (MD x) YQ) (hs:autoParam (swapsWith e (some (.Subscript (.Name x p0) ei pos')) pos.line X.env=pure false) YW) :
  FS X F (.Assign [.Subscript (.Name x p0) ei pos'] e pos) (RE i g ge) :=
 (Dc (X:=X) (by have:=bx.room.un;omega) (fW hi hv hd M1) hix he hs).weak λD σ H ⟨Z,S,ok,w⟩=>by
  unfold RE at w;split at w
  ·rename_i m e0;have w0:=WO.wg ok w;rw[R.bind_assoc]at w0;refine aM ok w0 λd v H1 Z1 ok1 x1 rv w1=>?_
   obtain⟨a,kvs,e1,e2,r⟩:=ok1.dit i m e0;rw[R.bind_assoc]at w1;refine⟨.ref a,e1,aM ok1 w1 λdk y H2 Z2 ok2 x2 ry w2=>?_⟩;unfold P7 at w2;split at w2
   ·rename_i ks ek;split at w2
    ·rename_i hl;obtain⟨b,rfl,hb⟩:=nz ek ry;have e3:=x2.same _ _ e2;have r2:=r.mono x2.z;have rp:=r2.put (rv.mono x2.z) hb;refine⟨a,b,kvs,ks,rfl,rfl,e3,by rw[bx.K];exact λx hx=>(r2.at_ x hx).mono ok2.sub,by rw[bx.K];exact hb.mono ok2.sub,by rw[r2.len];exact hl,?_⟩;have w3:=WG.now w2 ok2.sub;exact w3 σ _ Z2 (Same.refl _) (ok2.rewr (x:=.dit m) (x':=.dit (OA m ks d)) (A:=[a]) e0 e1 ⟨a,kvs,rfl,rfl,e3,r2.ks,r2.at_,r2.vs⟩ ⟨a,_,rfl,rfl,az,rp.ks,rp.at_,rp.vs⟩ λb hb=>aE (λz=>hb (by rw[z];exact HE.mpr rfl)))
    ·exact w2.elim
   ·exact w2.elim
  ·exact w.elim
def A6 (bx:BX X F k){go:MM}(ho:FE X F o go)(he:FE X F e g)(hs:autoParam (Rq e) Yz):FE X F (.Subscript o e pos) (eOp dTx go g) :=
 (Db (X:=X) (by have:=bx.room.un;omega) ho he hs).weak λσ H Q ⟨Z,S,ok,w⟩=>by
  refine aM ok w λd x H1 Z1 ok1 x1 rx w1=>aM ok1 w1 λdk y H2 Z2 ok2 x2 ry w2=>?_
  cases d with
  | tab ks xs =>
   obtain⟨a,kvs,rfl,ez,r,_⟩:=xa (H0:=F.H0) (Z0:=F.Z0) (E:=F.E) rx;have w3:WG F H2 Z2 (match NF? dk with | some k=>(match NP (ks.zip xs) k with | some d=>R.ok d | none=>R.stuck) | none=>R.stuck) λd H' Z'=>∀ v,Rep F.K F.C Z' d v->Q v H':=w2
   cases ek:NF? dk with
   | none=>rw[ek]at w3;exact w3.elim
   | some kk =>
    rw[ek]at w3;cases ed:NP (ks.zip xs) kk with
    | none=>simp only[ed]at w3;exact w3.elim
    | some d' =>
     simp only[ed]at w3;obtain⟨b,rfl,hb⟩:=nz ek ry;have r2:=r.mono x2.z;obtain⟨v,f1,f2⟩:=r2.get ed;exact⟨a,b,kvs,kk,v,rfl,rfl,ok2.sub _ _ (x2.z _ _ ez),by rw[bx.K];exact λx hx=>(r2.at_ x hx).mono ok2.sub,by rw[bx.K];exact hb.mono ok2.sub,f1,WG.now w3 ok2.sub v f2⟩
  | _=>exact w2.elim
def yL (hK:X.K=F.K):NH X (.builtin "len") (λxs H Q=>∃ a kvs,xs=[.ref a]/\H a=some (NU a kvs)/\NZ F.K H kvs/\Q (.int (kvs.length:Nat)) H):=by
 intro am s σ H xs us Q I r h;obtain⟨a,kvs,rfl,g1,g2,q⟩:=h;obtain⟨u,rfl,ru⟩:=N1 r;cases ru;exact FR I g1 (by rw[hK];exact g2) λt s' I'=>⟨.int (kvs.length:Nat),H,I',⟨t,rfl⟩,q⟩
def yM {gs:ML}(bx:BX X F k)(hg:Gl X "len")(hm:X.mg "len"=none)(ha:FA X F [e] gs)(he:autoParam (Id X e []) YW)(hpl:autoParam (IO X pos []) YW) :
  FE X F (.Call (.Name "len" p) [e] [] pos) (ND PF gs) :=
 (eD (yL bx.K) hg hm (by decide +kernel) ha (he:=he) (hpl:=hpl)).weak λσ H Q ⟨Z,S,ok,w⟩=>by
  refine a8 ok w λds vs H1 Z1 ok1 x1 rs w1=>?_
  unfold PF at w1;split at w1
  ·rename_i ks xs;obtain⟨v,rfl,h⟩:=a9 rs;obtain⟨a,kvs,rfl,ez,r,hl⟩:=xa (H0:=F.H0) (Z0:=F.Z0) (E:=F.E) h;have hkl:kvs.length=ks.length:=by rw[r.len,List.length_zip];omega
   refine⟨a,kvs,rfl,ok1.sub _ _ ez,λx hx=>(r.at_ x hx).mono ok1.sub,?_⟩;rw[hkl];exact WG.now w1 ok1.sub _ aQ
  ·exact w1.elim
variable {σ:Type}{J:σ->SS->Prop}
def Dd (i:Nat){m:List (List Int×D)}{S':SS}{sts:Nc}{l:L σ}(hi:S[i]?=some (some (.dit m)))(hS:S.set i (some (.val (OT m)))=S')(h:FL X F S' sts J l):FL X F S sts J l :=
 h.weak λD ρ H ⟨Z,ok,w⟩=>by
  obtain⟨Z',z,ok'⟩:=ok.freezeT hi;rw[hS]at ok';exact⟨Z',ok',WL.more w z⟩
end
section
variable {σ':Type}{S:SS}{rest:Nc}{J:σ'->SS->Prop}
end
section
variable {W:Wd}{S:SS}{es:Nd}{rest:Nc}{α σ τ V':Type}{J:σ->SS->Prop}{r:RW}
variable {tg iter:Expr}{body:Nc}{git:ML}{inj:τ->V'->SS}{step:Wd->τ->D->LW τ}
variable {go:MM}{f:Wd->MI}
variable {w:World}
variable {fn:Wd->List D->RW}{fr:Wd->MI}{p:Str}
variable {ie:Expr}{r0:RW}{gb gi:MM}
variable {gs:ML}
end
section
variable {W:Wd}{S:SS}{f:Wd->List D->RW}{p:Pos}
variable {go:MM}{gs:ML}
variable {w:World}
variable {fr:Wd->MI}
variable {r:RW}{gb:MM}
variable {scope:Scope}{cd:Value}{cl:List (Str×Addr)}{outer:List Env}{s0:Shared}{E:XK}
end
end
section
variable {X:Cx}{k:Nat}{pos Mo M7 KW np np2 cp rp hpos:Pos}{N:List Str}{G:Gx}{S:SS}{x qual cl yp:Str}{params:Arguments}{scope:Scope}{body e:Expr}{C:MN}{am:MZ}{s:Shared}{f C0:Addr}{vs:List V}{P:Program}{w:World}{K:Frag}{mg:MK}{base:Heap}{st:Stmt}{fh:MI}{q:Nat->Bool}
section
variable {σ:St}{H:Hp}
variable {W:Wd}{HW Z:Hp}{ρ:St}{clos:List (Str×Addr)}
variable {ds:List D}{rf:Wd->RW}{p:Pos}
variable {F:Fx}{o a b:Expr}{g ga gb:MM}{gs:ML}{ec:Expr}{y:V}{q:MY}
end
section
variable {p:Str}
variable {body:Nc}{c n:Str}{tb:XK->TS}
variable {W:Wd}{σ:Type}{J:σ->SS->Prop}
variable {r:RW}{rest:Nc}{pos' p0:Pos}
variable {i:Nat}{ps:List Str}{fn:Wd->List D->RW}
end
end
section
end
section
variable {X:Cx}{e o:Expr}{F:Fx}{pos p pos' p0 Mo KW:Pos}{k:Nat}{g go:MM}{gs:ML}{es:Nd}
noncomputable def Qs:Expr->Bool
 | .Starred ..=>true
 | _=>false
def FV {env:Env}(h:Qs e=false):starEach (e::es) env=(false,eval e env)::starEach es env:=by
 cases e<;>first | rfl | cases h
section
variable {S:SS}{σ:Type}{J:σ->SS->Prop}
variable {tg a b:Expr}{ga gb:MM}
variable {ei:Expr}{x:Str}
end
section
variable {prog:Program}{w:World}{A:Around}{E:MJ}{s:Shared}{κ:Type}[DecidableEq κ]{knd:PySem.KeyKind prog w κ}
end
structure FSw (X:Cx)(F:Fx)(st:Stmt)(g:SS->O):Prop where
 out:FS X F st g
structure FEw (X:Cx)(F:Fx)(e:Expr)(g:MM):Prop where
 out:FE X F e g
section
variable {gs:List (MM)}{x:Str}{M7:Pos}
def bd {i j pos}:FEw X F (.Constant (.int i) j pos) (eC (.int i)):=⟨af⟩
def dL {i j pos}:FEw X F (.Constant (.str i) j pos) (eC (.str i)):=⟨bO⟩
def EW {i j pos}:FEw X F (.Constant (.bool i) j pos) (eC (.bl i)):=⟨fc⟩
def De {j pos}:FEw X F (.Constant .none j pos) (eC .non):=⟨jb⟩
def Df (h:FEw X F e g):FEw X F (.UnaryOp .USub e pos) (RS g):=⟨qR h.out⟩
def mz {x1}(h:FAL X F es gs)(hl:gs.length<=16777216:=by exact Jf rfl):FEw X F (.Tuple es x1 pos) (eBA (λds=>.ok (.tup ds)) gs):=⟨aC h hl⟩
def Dg (h:FAL X F es gs)(hl:gs.length<=16777216:=by exact Jf rfl):FEw X F (.List es pos) (eBA (λds=>.ok (.lst ds)) gs):=⟨a6 h hl⟩
def NA (ha:FEw X F e g)(hr:FAL X F es gs)(hs:autoParam (Qs e=false) YW):FAL X F (e::es) (g::gs):=aa ha.out hr (FV hs)
def Dh (i:Nat)(hN:X.N.Nodup)(h:FAL X F es gs)(hl:gs.length<=16777216:=by exact Jf rfl)(hi:autoParam (X.N[i]?=some x) YW)(hx:autoParam (Loc X.env.scope x) Yy)
  (hf:autoParam (MC X x) Yw):FSw X F (.Assign [.Name x pos'] (.List es M7) pos) (Qg i gs):=⟨Ou (cg i hN h.out hi hx rfl hf) hl⟩
def Di (i:Nat)(hN:X.N.Nodup)(h:FEw X F e g)(hi:autoParam (X.N[i]?=some x) YW)(hx:autoParam (Loc X.env.scope x) Yy)(hf:autoParam (MC X x) Yw)
  (hs:autoParam (swapsWith e (some (.Name x pos')) pos.line X.env=pure false) YW):FSw X F (.Assign [.Name x pos'] e pos) (Pi i g):=⟨ay i hN h.out hi hx hs hf⟩
variable {G:Gx}{W:Wd}{S:SS}{σ:Type}{J:σ->SS->Prop}{st:Stmt}{rest:Nc}{α:Type}
end
end
section
variable {X:Cx}{k:Nat}{F:Fx}{g:MM}{G:Gx}{S:SS}{st:Stmt}{e o:Expr}{gs:List (MM)}{pos Mo KW:Pos}
section
variable {W:Wd}{σ:Type}{J:σ->SS->Prop}{rest sts:Nc}{α:Type}
variable {P:Program}{w:World}{K:Frag}{mg:MK}{base:Heap}{C:MN}{i:Nat}{N ps:List Str}{x:Str}{fn:Wd->List D->RW}
end
section
variable {W:Wd}{a b:Expr}{rest:Nd}{r:RW}{r2:Wd->RW}{gb:MM}
end
section
open Builtin Builtin.Str in
end
section
variable {e':Expr}{es:Nd}
end
end
end FF
namespace L2
open PySem PySem.Spec PyProof.Rows
section
variable {X:Cx}{am:MZ}{σ:List (Option V)}{H H':Hp}{s:Shared}{h':Heap}
end
end L2
namespace FF
open PySem PySem.Spec PyProof.Rows L2
section
section
variable {X:Cx}{F:Fx}{tg a b e o:Expr}{g ga gb go:MM}{gs:ML}{p pos Mo KW:Pos}{k:Nat}
end
end
section
section
variable {X:Cx}{F:Fx}{a b:Expr}{ga gb:MM}{pos:Pos}{k:Nat}
set_option maxHeartbeats 1000000 in
variable {prog:Program}{w:World}{A:Around}{E:MJ}{R:Result->MT}
end
end
section
variable {X:Cx}{F:Fx}{pos p Mo KW:Pos}{e o a b:Expr}{k:Nat}{S:SS}{go gb g:MM}{es:Nd}{st:Stmt}{gs:List (MM)}
section
variable {gs:ML}
variable {G:Gx}{W:Wd}{rest:Nc}{α σ τ V':Type}{J:σ->SS->Prop}{n:Nat}{r r0:RW}{pos':Pos}
end
section
variable {σ τ W:Type}{J:σ->SS->Prop}{rest:Nc}
variable {keys:List (Option Expr)}{values:Nd}{ks:List Key}{te:TE}
variable {K:Frag}{C:MN}{es is:List Nat}{a:Addr}
variable {lo hi:Option Expr}{l h:SS->R (Option Int)}{p2:Pos}
end
section
variable {prog:Program}{w:World}{A:Around}{E:MJ}{s:Shared}{cs:List Obj}{o:Obj}{vs:Array Value}{i j m:Nat}{x:Value}
variable {l₁ l₂:Addr}{k:Int}{xs ys:Array Value}{y:Value}{u:Bool}{rest:List Obj}{f:Value}
variable {ga:MM}
end
def lWh {τ:Type}(c:τ->R Bool)(f:τ->L τ):Nat->τ->L τ
 | 0,_=>.stuck
 | n+1,s=>lB (c s) λb=>if b=true then lS (f s) (lWh c f n) else .nx s
section
variable {τ W:Type}{c:Expr}{body:Nc}{inj:τ->W->SS}{gt:MR}{r:τ->R Bool}{step:τ->L τ}
def yN (n:Nat){s0:τ}(w0:W)(hp:PassesOwn (model X.prog X.w) X.A X.env X.xe)(hc:FT X F c gt)(hr:∀ s w,gt (inj s w)=r s)(hS:S=inj s0 w0)(hb:∀ s w,FL X F (inj s w) body (JX inj) (step s)) :
  FL1 X F S (.While c body [] pos) (JX inj) (lWh r step n s0):=by
 have hbb:PSs X body (λD ρ H=>∃ q:τ×W,tL F (inj q.1 q.2) (JX inj) (step q.1) D ρ H):=qT λq=>hb q.1 q.2
 refine(zT hp hc hbb).weak λD ρ H ⟨Z,ok,w⟩=>⟨λm ρ H=>∃ Z s w,StOk F H Z (inj s w) ρ/\WL F Z (JX inj) (lWh r step m s) D,⟨n,Z,s0,w0,hS ▸ ok,w⟩,?_⟩
 rintro m ρ1 H1 ⟨Z1,s,w1,ok1,wl⟩
 cases m with
 | zero=>exact wl.elim
 | succ m =>
  refine iD (P:=λb _ Z'=>WL F Z' (JX inj) (if b=true then lS (step s) (lWh r step m) else .nx s) D) ok1 (by
   rw[hr];have:=WL.wg ok1 (r:=r s) wl;cases q:r s<;>rw[q]at this<;>exact this) λb H2 Z2 ok2 x2 w2=>?_
  have w2:=WG.now w2 ok2.sub;cases b with
  | false=>exact w2 _ ρ1 H2 Z2 ⟨w1,rfl⟩ (Same.refl _) ok2
  | true =>
   refine⟨λρ H=>∃ Z s w,StOk F H Z (inj s w) ρ/\WL F Z (JX inj) (lWh r step m s) D,λρ H h=>⟨m,Nat.lt_succ_self m,h⟩,⟨s,w1⟩,Z2,ok2,?_⟩;rw[if_pos rfl]at w2;cases q:step s with
   | nx s'=>rw[q]at w2;exact λS' ρ' H' Z' ⟨w',e⟩ z ok'=>⟨Z',s',w',e ▸ ok',WL.more w2 z⟩
   | rt d=>rw[q]at w2;exact w2
   | er k=>rw[q]at w2;exact w2
   | stuck=>rw[q]at w2;exact w2
end
end
end FF
end
noncomputable section

end
noncomputable section
namespace FF
open PySem PySem.Spec PyProof.Rows L2
variable {X:Cx}{e:Expr}
noncomputable def rdT {α:Type}(i:Nat)(g:SS->R α):SS->R α:=λS=>match S[i]? with
 | some (some (.own ds))=>g (S.set i (some (.val (.lst ds))))
 | _=>.stuck
def qX (i:Nat){F:Fx}{g:MR}(h:FT X F e g):FT X F e (rdT i g) :=
 λam s σ H Q I ⟨Z,S,ok,w⟩=>h am s σ H Q I (by
  unfold rdT at w;split at w
  ·rename_i ds e0;obtain⟨Z',z,ok'⟩:=ok.freeze e0;refine⟨Z',_,ok',?_⟩;cases q:g (S.set i (some (.val (.lst ds)))) with
   | ok b=>rw[q]at w;exact λH' Z'' x=>w H' Z ⟨x.same,Same.refl _,ok.sub.trans x.same,λ_ h=>.inl h⟩
   | err k=>rw[q]at w;exact w
   | stuck=>rw[q]at w;exact w
  ·exact w.elim)
section
variable {F:Fx}{gs:ML}{ge:MM}{pos p0 Mo KW:Pos}{x:Str}
end
end FF
end
noncomputable section
set_option maxRecDepth 1000000
namespace FF
open PySem PySem.Spec PyProof.Rows L2
variable {X:Cx}{F:Fx}{A:Around}{pos:Pos}{E:MJ}{e iter:Expr}{prog:Program}{w:World}{b S:Addr}{σ:St}{am:MZ}{H Z:Hp}{n:Nat}{c:Bool}{vs:List Value}{kss mss:List (List Int)}{kvs:List RKV}{us:Array Value}{K:Frag}{C:MN}{ps:List Str}{ms:List Int}
section
variable {s:Shared}
variable {p:Pos}{gs:ML}{k:Nat}{x:Str}
end
open PySem.SeqAt (EqAt)
def LtAt (A:Around)(s:Shared)(x y:Value)(c:Bool):Prop:=∀ (prog:Program) (w:World) (E:MJ) (Q:MJ),Q (.bool c) s->wpAny (model prog w) A (richCompare .Lt x y) Q E s
inductive N4 (A:Around)(s:Shared):List Value->List Value->Bool->Prop
 | nn:N4 A s [] [] false
 | nc {y:Value} {ys:List Value}:N4 A s [] (y::ys) true
 | cn {x:Value} {xs:List Value}:N4 A s (x::xs) [] false
 | eq {x y:Value} {xs ys:List Value} {c:Bool}:EqAt A s x y true->N4 A s xs ys c->N4 A s (x::xs) (y::ys) c
 | ne {x y:Value} {xs ys:List Value} {c:Bool}:EqAt A s x y false->LtAt A s x y c->N4 A s (x::xs) (y::ys) c
section
open PySem.AutoSeq1 (wpAny_loadPart')
def tz (l b:Addr)(us vs:Array Value)(n m:Nat)(dl db:Option Addr)(sl sb:Array (Na)) :
  Meets (Builtin.«tuple.__lt__» ⟨[.ref l,.ref b],[]⟩)
   (λA R s=>s.heap.get? l=some ⟨.type "tuple",dl,.seq us n,sl⟩/\s.heap.get? b=some ⟨.type "tuple",db,.seq vs m,sb⟩/\∃ c,N4 A.in1 s us.toList vs.toList c/\R (.ok (.ret (.bool c))) s) :=
 .of_wp λprog w A R s h=>by
  obtain⟨hp,g,d,tk,os⟩:=s;obtain⟨hl,hb,c,lx,h⟩:=h;have st:=Ic
  wp_walk using wpAny_loadPart' hl,wpAny_loadPart' hb,wpAny_forIn_list _ (λrest q s'=>q.1=none/\s'=⟨hp,g,d,tk,os⟩/\∃ xs ys:List Value,rest=xs.zip ys/\N4 A.in1 ⟨hp,g,d,tk,os⟩ xs ys c/\xs.length+vs.size=ys.length+us.size) _
  case turn =>
   rintro ⟨x,y⟩ rest q s' ⟨hq,rfl,xs,ys,hz,lx,hn⟩
   cases lx with
   | nn=>cases hz
   | nc=>cases hz
   | cn=>rw[List.zip_nil_right]at hz;cases hz
   | eq e t =>
    rw[Kj]at hz;cases hz;refine Hk (e prog w _ _ ?_);simp only[HB]at hn
    wp_walk
    exact⟨rfl,rfl,_,_,rfl,t,by omega⟩
   | ne e t =>
    rw[Kj]at hz;cases hz;refine Hk (e prog w _ _ ?_);have tt:=t prog w
    wp_walk using tt
    exact⟨_,rfl,by simpa using h⟩
  case fin =>
   rintro ⟨q1,q2⟩ s' ⟨hq,rfl,xs,ys,hz,lx,hn⟩
   simp only at hq;subst hq;have hv:c=decide (us.size < vs.size):=by
    cases lx with
    | nn=>simp only[Ip]at hn;exact(Hv (by omega)).symm
    | nc=>simp only[Ip,HB]at hn;exact(Hz (by omega)).symm
    | cn=>simp only[Ip,HB]at hn;exact(Hv (by omega)).symm
    | eq _ _=>cases hz
    | ne _ _=>cases hz
   rw[hv]at h
   wp_walk
   exact⟨_,rfl,by simpa [Builtin.Tuple.tupleCompareSizes] using h⟩
  case h=>exact⟨rfl,rfl,us.toList,vs.toList,rfl,lx,by simp;omega⟩
end
def LtAt.tup {s:Shared}{l:Addr}{vs:Array Value}(hl:IsTup s.heap l us)(hb:IsTup s.heap b vs)(hu:A.units < cLine)(h:N4 A.in1 s us.toList vs.toList c):LtAt A s (.ref l) (.ref b) c:=λprog w E Q q=>by
 obtain⟨⟨cl,dl,al,sl⟩,ho,hc,n,hd⟩:=id hl;obtain⟨⟨cb,db,ab,sb⟩,ho2,hc2,m,hd2⟩:=id hb;simp only at hc hd hc2 hd2;subst hc hd hc2 hd2;exact richCompare_meets_room (op:=.Lt) ⟨_,ho,rfl⟩ ⟨_,ho2,rfl⟩ PySem.F.slot_tuple_lt PySem.F.entry_tuple_lt (PySem.F.args_tuple_lt_2 _ _) (tz l b us vs n m dl db sl sb) ⟨ho,ho2,c,h,show Value.bool c≠Value.notImplemented/\Q (.bool c) s from ⟨(λx=>nomatch x),q⟩⟩ hu
noncomputable def OR (f:D->MY):List D->List D->Option Bool
 | [],[]=>some false
 | [],_::_=>some true
 | _::_,[]=>some false
 | x::xs,y::ys=>if eqD x y=true then OR f xs ys else f x y
noncomputable def ltN:Nat->D->MY
 | 0,_,_=>none
 | n+1,d,e=>match d,e with
  | .int a,.int b=>some (decide (a < b))
  | .tup xs,.tup ys=>OR (ltN n) xs ys
  | _,_=>none
section
variable {s:Shared}
theorem qY {f:D->MY}{A:Around}{m:Nat}(he:∀ (d e:D) (v u:V) (x y:Value),good m d=true->good m e=true->Rep K C Z d v->Rep K C Z e u->RelV v x->RelV u y->EqAt A s x y (eqD d e))
  (hl:∀ (d e:D) (v u:V) (x y:Value) (c:Bool),f d e=some c->good m d=true->good m e=true->Rep K C Z d v->Rep K C Z e u->RelV v x->RelV u y->LtAt A s x y c) :
  ∀ {ds es:List D} {vs us:List V} {xs ys:List Value} {c:Bool},OR f ds es=some c->MH m ds=true->MH m es=true->Reps K C Z ds vs->Reps K C Z es us->Vals vs xs->Vals us ys->N4 A s xs ys c
 | [],[],vs,us,xs,ys,c,e,_,_,r,r',k,k'=>by
  cases e;rw[Reps]at r r';subst r;subst r';cases k;cases k';exact .nn
 | [],b::es,vs,us,xs,ys,c,e,_,_,r,r',k,k'=>by
  cases e;rw[Reps]at r;subst r;rw[Reps]at r';obtain⟨u,_,rfl,_,_⟩:=r';cases k;cases k';exact .nc
 | a::ds,[],vs,us,xs,ys,c,e,_,_,r,r',k,k'=>by
  cases e;rw[Reps]at r';subst r';rw[Reps]at r;obtain⟨u,_,rfl,_,_⟩:=r;cases k;cases k';exact .cn
 | a::ds,b::es,vs,us,xs,ys,c,e,g,g',r,r',k,k'=>by
  rw[Reps]at r r';obtain⟨v,vs,rfl,r1,r2⟩:=r;obtain⟨u,us,rfl,r1',r2'⟩:=r';cases k with | cons k1 k2=>cases k' with | cons k1' k2' =>
  have g1:good m a=true/\MH m ds=true:=by simpa [MH] using g
  have g2:good m b=true/\MH m es=true:=by simpa [MH] using g'
  have q:=he a b v u _ _ g1.1 g2.1 r1 r1' k1 k1';unfold OR at e;split at e
  ·rename_i h;rw[h]at q;exact .eq q (qY he hl e g1.2 g2.2 r2 r2' k2 k2')
  ·rename_i h;rw[JE]at h;rw[h]at q;exact .ne q (hl a b v u _ _ c e g1.1 g2.1 r1 r1' k1 k1')
theorem ltB (hK:X.K=K)(I:Inv X am σ H s)(z:Same Z H):∀ (n:Nat) (A:Around) (d e:D) (v u:V) (x y:Value) (c:Bool),ltN n d e=some c->good n d=true->good n e=true->Rep K C Z d v->Rep K C Z e u->RelV v x->RelV u y->A.units+n < cLine->LtAt A s x y c
 | 0,_,_,_,_,_,_,_,_,h,_,_,_,_,_,_,_=>nomatch h
 | n+1,A,d,e,v,u,x,y,c,h,g,g',r,r',k,k',hu=>by
  unfold ltN at h;split at h
  ·cases h;rw[Rep]at r r';subst r;subst r';obtain⟨t,rfl⟩:=(show ∃ t,x=Value.int _ t from k);obtain⟨t',rfl⟩:=(show ∃ t,y=Value.int _ t from k');exact λprog w E Q q=>PyProof.Rows.lt_int q
  ·rename_i xs ys;rw[Rep]at r r';obtain⟨a,vs,rfl,h1,h2⟩:=r;obtain⟨b,us,rfl,k1,k2⟩:=r';cases k;cases k';obtain⟨its,rv,p,_⟩:=I.tuple (by rw[hK];exact h1.mono z);obtain⟨Ms,rv2,p2,_⟩:=I.tuple (by rw[hK];exact k1.mono z);have gg:MH n xs=true:=by simpa [good] using g
   have gg':MH n ys=true:=by simpa [good] using g'
   have un:A.in1.units+n < cLine:=by show A.units+1+n < cLine;omega
   exact .tup p p2 (by omega) (qY (λd e v u x y g1 g2 h h' rx ry=>(eqB hK I z n A.in1 d e v u x y g1 g2 h h' rx ry un).1) (λd e v u x y c hc g1 g2 h h' rx ry=>ltB hK I z n A.in1 d e v u x y c hc g1 g2 h h' rx ry un) h gg gg' h2 k2 rv rv2)
  ·cases h
variable {R:Result->MT}{h₀:Heap}{l I:Addr}{its:List Value}{bt:Nat->Nat->Bool}{s0:Shared}
variable {k:Nat}{f:Addr}{fd:FuncData}{t:MI}{ds:List D}{H0 Z0:Hp}{d:D}
variable {p kp np:Pos}{g:MM}{x:Str}
variable {a b:Expr}{ga gb:MM}{gs:ML}
end
open PySem.SeqAt (EqAt RcAt)
section
variable {h h':Heap}{ks:List Int}{a d:Addr}{us:List Value}
variable {s:Shared}
end
section
variable {xs:List RKU}{ks:List (List Int)}
variable {s:Shared}{a:Addr}
variable {o i value:Expr}{td ty tv:TE}{pos':Pos}
variable {Z':Hp}{m:List (List (List Int)×D)}{d:D}{v:V}
variable {S:SS}
variable {p p0:Pos}{k:Nat}{g ge:MM}{ei:Expr}{x:Str}
variable {scope:Scope}{N:List Str}{own:Nat}{cap:List Nat}{git:ML}
end
open PySem.W (KasT kas_sort kas_asc kas_desc kas_tail3 kas_descPart kas_count kas_place kas_bin kas_rev kas_ask kat_run kat_kind kat_lt KatLex KatTups)
section
variable {α β:Type}{R:α->Prop}{R':β->Prop}{p:Array Nat}
noncomputable def Nt (lt:Nat->Nat->Bool):KasT α->α
 | .ret a=>a
 | .ask i j k=>Nt lt (k (lt i j))
def KOk (n:Nat)(R:α->Prop):KasT α->Prop
 | .ret a=>R a
 | .ask i j k=>i < n/\j < n/\∀ b,KOk n R (k b)
theorem KOk.bind {f:α->KasT β}:∀ {t:KasT α},KOk n R t->(∀ a,R a->KOk n R' (f a))->KOk n R' (t.bind f)
 | .ret a,h,k=>k a h
 | .ask i j q,h,k=>⟨h.1,h.2.1,λb=>KOk.bind (h.2.2 b) k⟩
theorem KOk.run (lt:Nat->Nat->Bool):∀ {t:KasT α},KOk n R t->R (Nt lt t)
 | .ret a,h=>h
 | .ask i j q,h=>KOk.run lt (t:=q (lt i j)) (h.2.2 _)
theorem KOk.wp {cmp:Nat->Nat->(Bool->MT)->MT}{lt:Nat->Nat->Bool}{Q:α->MT}{s:Shared}(hc:∀ i j C,i < n->j < n->C (lt i j) s->cmp i j C s):∀ {t:KasT α},KOk n R t->Q (Nt lt t) s->t.kasWp cmp Q s
 | .ret a,h,q=>q
 | .ask i j k,h,q=>hc i j _ h.1 h.2.1 (KOk.wp hc (h.2.2 _) q)
def PN (n:Nat)(p:Array Nat):Prop:=p.toList.Perm (List.range n)
def PN.lt (h:PN n p)(hn:0 < n)(i:Nat):p.getD i 0 < n:=by
 unfold Array.getD;split
 ·rename_i hi;exact HG.mp (h.subset (by simp))
 ·exact hn
def PN.rev (h:PN n p)(i j:Nat):PN n (kas_rev p i j):=(K9.mp (mirror_perm p i j _)).trans h
def PN.bub (h:PN n p)(i j:Nat):PN n (bubble p i j):=(K9.mp (bubble_perm p i j)).trans h
theorem vw (h:PN n p)(hn:0 < n):∀ f m,KOk n (λ_=>True) (kas_asc p f m)
 | 0,_=>trivial
 | f+1,m=>⟨h.lt hn _,h.lt hn _,λb=>by
  show KOk n _ (if b=true then _ else _);split
  ·exact trivial
  ·exact vw h hn f _⟩
theorem mB (hn:0 < n):∀ f (p:Array Nat) m q,PN n p->KOk n (λr=>PN n r.1) (kas_desc f p m q)
 | 0,_,_,_,h=>h
 | f+1,p,m,q,h=>⟨h.lt hn _,h.lt hn _,λb=>by
  show KOk n _ (if b=true then (if q > 0 then _ else _) else _);split
  ·split
   ·exact mB hn f _ _ _ (h.rev _ _)
   ·exact mB hn f _ _ _ h
  ·refine⟨h.lt hn _,h.lt hn _,λb=>?_⟩;show KOk n _ (if b=true then _ else _);split
   ·exact h
   ·exact mB hn f _ _ _ h⟩
def tF (h:PN n p)(hn:0 < n)(m r:Nat):KOk n (λr=>PN n r.2) (kas_tail3 m r p) :=
 KOk.bind (vw (h.rev _ _) hn _ _) λ_ _=>h.rev _ _
def lW (h:PN n p)(hn:0 < n)(m r:Nat):KOk n (λr=>PN n r.2) (kas_descPart m r p) :=
 KOk.bind (mB hn _ _ _ _ h) λa ha=>by
  split
  ·exact tF (PN.rev ha _ _) hn _ _
  ·exact tF ha hn _ _
def tG (h:PN n p)(hn:0 < n)(r:Nat):KOk n (λr=>PN n r.2) (kas_count r p) :=
 KOk.bind (vw h hn _ _) λa _=>by
  split
  ·exact h
  ·split
   ·refine⟨h.lt hn _,h.lt hn _,λb=>?_⟩;show KOk n _ (if b=true then _ else _);split
    ·exact h
    ·exact lW (h.rev _ _) hn _ _
   ·exact lW h hn _ _
theorem fM (h:PN n p)(hn:0 < n)(k:Nat):∀ f l r,KOk n (λ_=>True) (kas_place p k f l r)
 | 0,_,_=>trivial
 | f+1,l,r=>by
  rw[kas_place];split
  ·exact trivial
  ·refine⟨h.lt hn _,h.lt hn _,λb=>?_⟩;show KOk n _ (if b=true then _ else _);split
   ·exact fM h hn k f _ _
   ·exact fM h hn k f _ _
theorem A7 (hn:0 < n):∀ f (p:Array Nat) k,PN n p->KOk n (PN n) (kas_bin f p k)
 | 0,_,_,h=>h
 | f+1,p,k,h=>KOk.bind (fM h hn k _ _ _) λl _=>A7 hn f _ _ (h.bub _ _)
def qZ (hn:0 < n):KOk n (PN n) (kas_sort n) :=
 KOk.bind (tG (by unfold PN;simp) hn _) λr hr=>by
  split
  ·exact A7 hn _ _ _ hr
  ·exact hr
def Dj {α β:Type}(σ:Setting)(m:Sem α)(f:α->Sem β):ev σ (m >>= f)=(ev σ m).bind λa=>ev σ (f a):=by
 show ev σ (m.bind f)=_
 induction m with
 | pure a=>rfl
 | rule t k ih=>exact ih ()
 | point l k ih=>exact ih ()
 | ask k ih=>exact ih σ
 | call c h g l k ih =>
  show ev σ (.call c h g _ λx=>(k x).bind f)=_;simp only[ev];cases RM c h with
  | none=>rfl
  | some b=>exact ih _
 | _=>rfl
structure Ky (n:Nat) where
 it:Fin n->Keyed
 κ:SortKind
class Nm (n:Nat) (α:Type) where
 Ab:Type
 cn:Ab->Ky n->α
noncomputable instance nmN:Nm n Nat:=⟨Nat,λy _=>y⟩
noncomputable instance nmB:Nm n Bool:=⟨Bool,λy _=>y⟩
noncomputable instance nmU:Nm n PUnit:=⟨PUnit,λy _=>y⟩
noncomputable instance nmO {α:Type}[Nm n α]:Nm n (Option α):=⟨Option (Nm.Ab n α),λy c=>y.map λa=>Nm.cn a c⟩
noncomputable instance nmP {α β:Type}[Nm n α][Nm n β]:Nm n (α×β):=⟨Nm.Ab n α×Nm.Ab n β,λy c=>(Nm.cn y.1 c,Nm.cn y.2 c)⟩
noncomputable instance nmF {α:Type}[Nm n α]:Nm n (ForInStep α):=⟨ForInStep (Nm.Ab n α),λy c=>match y with | .done a=>.done (Nm.cn a c) | .yield a=>.yield (Nm.cn a c)⟩
noncomputable instance nmK:Nm n Keyed:=⟨Fin n,λi c=>c.it i⟩
noncomputable instance nmA:Nm n (Array Keyed):=⟨Array (Fin n),λp c=>p.map c.it⟩
noncomputable instance nmS:Nm n SortSt:=⟨Array (Fin n)×Array (Nat×Nat×Nat)×Nat,λy c=>SortSt.mk' c.κ (y.1.map c.it) y.2.1 y.2.2 none⟩
end
structure Rx (n:Nat) where
 c:Ky n
 d:Ky n
 σ:Setting
 prog:Program
 w:World
 A:Around
 E:MJ
 s:Shared
section
variable {X:Rx n}{α β γ:Type}[Nm n α][Nm n β]
def Rr (X:Rx n)(a b:α):Prop:=∃ y:Nm.Ab n α,a=Nm.cn y X.c/\b=Nm.cn y X.d
def pW (y:Nm.Ab n α):Rr X (Nm.cn y X.c:α) (Nm.cn y X.d):=⟨y,rfl,rfl⟩
def kN (a:Nat):Rr X a a:=⟨a,rfl,rfl⟩
def b6 (a:Bool):Rr X a a:=⟨a,rfl,rfl⟩
def dM (a:PUnit):Rr X a a:=⟨a,rfl,rfl⟩
def iH:Rr X (none:Option α) none:=⟨none,rfl,rfl⟩
def gh {a b:α}(h:Rr X a b):Rr X (some a) (some b):=by obtain⟨y,rfl,rfl⟩:=h;exact⟨some y,rfl,rfl⟩
def b7 {a b:α}{a' b':β}(h:Rr X a b)(k:Rr X a' b'):Rr X (a,a') (b,b'):=by obtain⟨y,rfl,rfl⟩:=h;obtain⟨z,rfl,rfl⟩:=k;exact⟨(y,z),rfl,rfl⟩
def iI {a b:α}(h:Rr X a b):Rr X (ForInStep.done a) (.done b):=by obtain⟨y,rfl,rfl⟩:=h;exact⟨.done y,rfl,rfl⟩
def fN {a b:α}(h:Rr X a b):Rr X (ForInStep.yield a) (.yield b):=by obtain⟨y,rfl,rfl⟩:=h;exact⟨.yield y,rfl,rfl⟩
def jd (i:Fin n):Rr X (X.c.it i) (X.d.it i):=⟨i,rfl,rfl⟩
def kO (p:Array (Fin n)):Rr X (p.map X.c.it) (p.map X.d.it):=⟨p,rfl,rfl⟩
def iJ {a b:Array Keyed}{x y:Keyed}(h:Rr X a b)(k:Rr X x y):Rr X (a.push x) (b.push y):=by
 obtain⟨p,rfl,rfl⟩:=h;obtain⟨i,rfl,rfl⟩:=k;exact⟨p.push i,Array.map_push.symm,Array.map_push.symm⟩
def kP {x y:Keyed}(k:Rr X x y):Rr X #[x] #[y]:=by
 obtain⟨i,rfl,rfl⟩:=k;exact⟨(#[i]:Array (Fin n)),by simp[Nm.cn],by simp[Nm.cn]⟩
def kQ {a b a' b':Array Keyed}(h:Rr X a b)(k:Rr X a' b'):Rr X (a++a') (b++b'):=by
 obtain⟨p,rfl,rfl⟩:=h;obtain⟨q,rfl,rfl⟩:=k;exact⟨@HAppend.hAppend (Array (Fin n)) (Array (Fin n)) _ _ p q,Array.map_append.symm,Array.map_append.symm⟩
def kR {a b:Array Keyed}{i j:Nat}(h:Rr X a b):Rr X (a.extract i j) (b.extract i j):=by
 obtain⟨p,rfl,rfl⟩:=h;exact⟨p.extract i j,Le.symm,Le.symm⟩
def kT {a b:Array Keyed}(h:Rr X a b):Rr X a.reverse b.reverse:=by
 obtain⟨p,rfl,rfl⟩:=h;exact⟨p.reverse,Array.map_reverse.symm,Array.map_reverse.symm⟩
def Rel (X:Rx n)(m m0:StateT SortSt Sem α):Prop :=
 ∀ (st:Nm.Ab n SortSt) z,ev X.σ (m0.run (Nm.cn st X.d))=some z->∀ Q:α×SortSt->Prop,(∀ y,Rr X y z->Q y)->wpAny (model X.prog X.w) X.A (m.run (Nm.cn st X.c)) (λr s'=>s'=X.s/\Q r) X.E X.s
def bh {a a0:α}(h:Rr X a a0):Rel X (pure a) (pure a0):=λst z e Q q=>by
 rw[StateT.run_pure]at e ⊢;cases e;exact Hw ⟨rfl,q _ (b7 h ⟨st,rfl,rfl⟩)⟩
def aT {m m0:StateT SortSt Sem α}{f f0:α->StateT SortSt Sem β}(h:Rel X m m0)(k:∀ y:Nm.Ab n α,Rel X (f (Nm.cn y X.c)) (f0 (Nm.cn y X.d))):Rel X (m >>= f) (m0 >>= f0):=λst z e Q q=>by
 rw[LI]at e ⊢;rw[Dj]at e;cases h0:ev X.σ (m0.run (Nm.cn st X.d)) with
 | none=>rw[h0]at e;cases e
 | some y =>
  rw[h0]at e;refine Hk (Im (h st y h0 _ (λx hx=>?_)) (λr s' hr=>by obtain⟨rfl,hr⟩:=hr;exact hr) λ_ _ x=>x);obtain⟨⟨u,v⟩,rfl,rfl⟩:=hx;exact k u v z e Q q
def gY {m m0:StateT SortSt Sem (Option α)}{f f0:Option α->StateT SortSt Sem β}(h:Rel X m m0)(k:∀ y:Nm.Ab n α,Rel X (f (some (Nm.cn y X.c))) (f0 (some (Nm.cn y X.d))))(k':Rel X (f none) (f0 none)):Rel X (m >>= f) (m0 >>= f0) :=
 aT h λy=>match y with
  | none=>k'
  | some y=>k y
def kU [Nm n γ]{m m0:StateT SortSt Sem (Option α×γ)}{f f0:Option α×γ->StateT SortSt Sem β}(h:Rel X m m0)(k:∀ (y:Nm.Ab n α) (z:Nm.Ab n γ),Rel X (f (some (Nm.cn y X.c),Nm.cn z X.c)) (f0 (some (Nm.cn y X.d),Nm.cn z X.d)))
  (k':∀ z:Nm.Ab n γ,Rel X (f (none,Nm.cn z X.c)) (f0 (none,Nm.cn z X.d))):Rel X (m >>= f) (m0 >>= f0) :=
 aT h λy=>match y with
  | (none,z)=>k' z
  | (some y,z)=>k y z
def dN {p:Prop}{i i0:Decidable p}{a b a0 b0:StateT SortSt Sem α}(h1:Rel X a a0)(h2:Rel X b b0):Rel X (@ite _ p i a b) (@ite _ p i0 a0 b0):=by
 by_cases h:p
 ·rw[if_pos h,if_pos h];exact h1
 ·rw[if_neg h,if_neg h];exact h2
def dO:Rel X (get:StateT SortSt Sem SortSt) get:=λst z e Q q=>by
 rw[StateT.run_get]at e ⊢;cases e;exact Hw ⟨rfl,q _ (b7 ⟨st,rfl,rfl⟩ ⟨st,rfl,rfl⟩)⟩
def iK {f f0:SortSt->SortSt}(h:∀ y:Nm.Ab n SortSt,Rr X (f (Nm.cn y X.c)) (f0 (Nm.cn y X.d))):Rel X (modify f:StateT SortSt Sem PUnit) (modify f0):=λst z e Q q=>by
 rw[StateT.run_modify]at e ⊢;cases e;exact Hw ⟨rfl,q _ (b7 (dM _) (h st))⟩
def Dk {a b:SortSt}(h:Rr X a b):Rel X (set a:StateT SortSt Sem PUnit) (set b):=λst z e Q q=>by
 rw[StateT.run_set]at e ⊢;cases e;exact Hw ⟨rfl,q _ (b7 (dM _) h)⟩
def fO (t:String):Rel X (liftM (rule t):StateT SortSt Sem Unit) (liftM (rule t)):=λst z e Q q=>by
 change wpAny (model X.prog X.w) X.A ((StateT.lift (rule t):StateT SortSt Sem Unit).run _) _ X.E X.s
 have e':some ((),Nm.cn st X.d)=some z:=e;cases e';rw[StateT.run_lift];exact Hk (wpAny_rule (Hw ⟨rfl,q _ (b7 (dM _) ⟨st,rfl,rfl⟩)⟩))
def gj (t:String){m:StateT SortSt Sem α}:Rel X m (liftM (unsupported t:Sem α)):=λst z e Q q=>by
 have e':none=some z:=e;cases e'
theorem tH {f f0:γ->β->StateT SortSt Sem (ForInStep β)}(h:∀ x (y:Nm.Ab n β),Rel X (f x (Nm.cn y X.c)) (f0 x (Nm.cn y X.d))):∀ (l:List γ) (b b0:β),Rr X b b0->Rel X (forIn l b f) (forIn l b0 f0)
 | [],b,b0,hb=>by
  rw[List.forIn_nil,List.forIn_nil];exact bh hb
 | x::l,b,b0,hb=>by
  rw[Kg,Kg];obtain⟨y,rfl,rfl⟩:=hb;refine aT (h x y) λa=>?_
  cases a with
  | done a=>exact bh ⟨a,rfl,rfl⟩
  | yield a=>exact tH h l _ _ ⟨a,rfl,rfl⟩
def iL {f f0:Nat->β->StateT SortSt Sem (ForInStep β)}{i j:Nat}{b b0:β}(hb:Rr X b b0)(h:∀ x (y:Nm.Ab n β),Rel X (f x (Nm.cn y X.c)) (f0 x (Nm.cn y X.d))):Rel X (forIn [i:j] b f) (forIn [i:j] b0 f0):=by
 rw[Jl,Jl];exact tH h _ _ _ hb
end
section
variable {X:Rx n}
def nA (p:Array (Fin n))(i:Nat):Rel X (elem' (p.map X.c.it) i) (elem' (p.map X.d.it) i):=by
 rw[elem'_eq,elem'_eq,Array.getElem?_map,Array.getElem?_map];cases p[i]? with
 | none=>exact gj _
 | some x=>exact bh (jd x)
structure Ox (X:Rx n):Prop where
 k:X.d.κ=oneType'
 f:∃ f:Fin n->Int,(∀ i,∃ t q,X.d.it i=(.int (f i) t,q))/\∀ i j (C:Bool->MT),C (decide (f i < f j)) X.s->wpAny (model X.prog X.w) X.A (keyLt' X.c.κ (X.c.it i).1 (X.c.it j).1) C (λ_ _=>False) X.s
 g:∃ σ' b,X.σ=sg σ' b
def FX (σ:Setting)(b:Bool)(x y:Int)(t u:Tok)(p q:Value)(a:Array Keyed)(d:Array (Nat×Nat×Nat))(g:Nat) :
  ev (sg σ b) ((lt' (.int x t,p) (.int y u,q)).run (SortSt.mk' oneType' a d g none))=some (some (decide (x < y)),SortSt.mk' oneType' a d g none):=by
 cases b<;>kernel_rfl
def A8 (K:Ox X)(i j:Fin n):Rel X (lt' (X.c.it i) (X.c.it j)) (lt' (X.d.it i) (X.d.it j)):=λst z e Q q=>by
 obtain⟨hk,⟨f,h1,h2⟩,σ',b,es⟩:=K;obtain⟨t,qi,ei⟩:=h1 i;obtain⟨u,qj,ej⟩:=h1 j;have en:(Nm.cn st X.d:SortSt)=SortSt.mk' oneType' (st.1.map X.d.it) st.2.1 st.2.2 none:=by rw[<- hk];rfl
 rw[ei,ej,es,en,FX,<- en]at e;cases e;rw[lt'_eq,LI,StateT.run_get];refine Hk (Hw ?_);rw[LI];refine Hk (Hk (wpAny_attempt (Im (h2 i j _ ?_) (λ_ _ x=>x) λ_ _ hF=>hF.elim)));exact Hw (Hw ⟨rfl,q _ (b7 (gh (b6 _)) ⟨st,rfl,rfl⟩)⟩)
def A9 (K:Ox X)(i j:Nat):Rel X (ltAt' i j) (ltAt' i j):=by
 rw[ltAt'_eq];exact aT dO λy=>aT (nA y.1 i) λa=>aT (nA y.1 j) λb=>A8 K a b
def Dl (i j:Nat):Rel X (reverseSlice' i j) (reverseSlice' i j):=by
 rw[reverseSlice'_eq];refine iK λy=>⟨(mirror y.1 i j ((j - i)/2),y.2),?_,?_⟩
 all_goals
  show SortSt.mk' _ _ _ _ _=SortSt.mk' _ _ _ _ _
  congr 1
  exact L5 _ (λk=>i+k) (λk=>j - 1 - k) _ y.1
def EX (i j:Nat):Rel X (moveDown' i j) (moveDown' i j):=by
 rw[moveDown'_eq];refine iK λy=>⟨(bubble y.1 i (i - j),y.2),?_,?_⟩
 all_goals
  show SortSt.mk' _ _ _ _ _=SortSt.mk' _ _ _ _ _
  congr 1
  exact L5 _ (λk=>i - k) (λk=>i - k - 1) _ y.1
def fg (p:Array (Fin n))(i:Nat):Rel X ((sortPriv% PySem.Builtin.elem) (p.map X.c.it) i) ((sortPriv% PySem.Builtin.elem) (p.map X.d.it) i):=nA p i
def pX (K:Ox X)(i j:Fin n):Rel X ((sortPriv% PySem.Builtin.lt) (X.c.it i) (X.c.it j)) ((sortPriv% PySem.Builtin.lt) (X.d.it i) (X.d.it j)):=A8 K i j
def iM (K:Ox X)(i j:Nat):Rel X ((sortPriv% PySem.Builtin.ltAt) i j) ((sortPriv% PySem.Builtin.ltAt) i j):=A9 K i j
def kW (i j:Nat):Rel X ((sortPriv% PySem.Builtin.reverseSlice) i j) ((sortPriv% PySem.Builtin.reverseSlice) i j):=Dl i j
def kX (g:Nat):Rel X ((sortPriv% PySem.Builtin.setMinGallop) g) ((sortPriv% PySem.Builtin.setMinGallop) g):=iK λy=>⟨(y.1,y.2.1,g),rfl,rfl⟩
def pY (i j:Nat):Rel X ((sortPriv% PySem.Builtin.moveDown) i j) ((sortPriv% PySem.Builtin.moveDown) i j):=EX i j
def yO (K:Ox X)(i j:Nat):Rel X (countRun' i j) (countRun' i j):=by
 change Rel X (_ >>= _) (_ >>= _)
 repeat' first
  | with_reducible exact pW _
  | with_reducible exact kN _
  | with_reducible exact b6 _
  | with_reducible exact dM _
  | with_reducible exact iH
  | with_reducible exact jd _
  | with_reducible exact kO _
  | exact(⟨_,rfl,rfl⟩:Rr X (Option.map (λa=>a) _) _)
  | with_reducible refine gh ?_
  | with_reducible refine b7 ?_ ?_
  | with_reducible refine iI ?_
  | with_reducible refine fN ?_
  | with_reducible refine iJ ?_ ?_
  | with_reducible refine kP ?_
  | with_reducible refine kQ ?_ ?_
  | with_reducible refine kR ?_
  | with_reducible refine kT ?_
  | with_reducible exact fg _ _
  | with_reducible exact pX K _ _
  | with_reducible exact iM K _ _
  | with_reducible exact kW _ _
  | with_reducible exact pY _ _
  | with_reducible exact kX _
  | with_reducible exact fO _
  | with_reducible exact gj _
  | with_reducible exact dO
  | with_reducible refine bh ?_
  | with_reducible refine dN ?_ ?_
  | with_reducible refine kU ?_ (λy z=>?_) λz=>?_
  | with_reducible refine gY ?_ (λy=>?_) ?_
  | with_reducible refine aT ?_ λy=>?_
  | with_reducible refine iL ?_ λx y=>?_
  | dsimp only[nmN,nmB,nmU,nmP,nmK,nmA,Nm.cn,ID]
  | simp only[ID,IJ,JQ]
def Dm (K:Ox X)(i j k:Nat):Rel X (binarySort' i j k) (binarySort' i j k):=by
 change Rel X (_ >>= _) (_ >>= _)
 repeat' first
  | with_reducible exact pW _
  | with_reducible exact kN _
  | with_reducible exact b6 _
  | with_reducible exact dM _
  | with_reducible exact iH
  | with_reducible exact jd _
  | with_reducible exact kO _
  | exact(⟨_,rfl,rfl⟩:Rr X (Option.map (λa=>a) _) _)
  | with_reducible refine gh ?_
  | with_reducible refine b7 ?_ ?_
  | with_reducible refine iI ?_
  | with_reducible refine fN ?_
  | with_reducible refine iJ ?_ ?_
  | with_reducible refine kP ?_
  | with_reducible refine kQ ?_ ?_
  | with_reducible refine kR ?_
  | with_reducible refine kT ?_
  | with_reducible exact fg _ _
  | with_reducible exact pX K _ _
  | with_reducible exact iM K _ _
  | with_reducible exact kW _ _
  | with_reducible exact pY _ _
  | with_reducible exact kX _
  | with_reducible exact fO _
  | with_reducible exact gj _
  | with_reducible exact dO
  | with_reducible refine bh ?_
  | with_reducible refine dN ?_ ?_
  | with_reducible refine kU ?_ (λy z=>?_) λz=>?_
  | with_reducible refine gY ?_ (λy=>?_) ?_
  | with_reducible refine aT ?_ λy=>?_
  | with_reducible refine iL ?_ λx y=>?_
  | dsimp only[nmN,nmB,nmU,nmP,nmK,nmA,Nm.cn,ID]
  | simp only[ID,IJ,JQ]
noncomputable abbrev RO:Bool->Keyed->Array Keyed->Nat->Nat->Nat->StateT SortSt Sem (Option Nat):=sortPriv% PySem.Builtin.gallop
noncomputable abbrev Q2:Array Keyed->Array Keyed->StateT SortSt Sem (Array Keyed):=sortPriv% PySem.Builtin.mergeLo
noncomputable abbrev Q3:Array Keyed->Array Keyed->StateT SortSt Sem (Array Keyed):=sortPriv% PySem.Builtin.mergeHi
def mC (K:Ox X)(l:Bool)(k:Fin n)(p:Array (Fin n))(b m h:Nat):Rel X (RO l (X.c.it k) (p.map X.c.it) b m h) (RO l (X.d.it k) (p.map X.d.it) b m h):=by
 change Rel X (_ >>= _) (_ >>= _)
 repeat' first
  | with_reducible exact pW _
  | with_reducible exact kN _
  | with_reducible exact b6 _
  | with_reducible exact dM _
  | with_reducible exact iH
  | with_reducible exact jd _
  | with_reducible exact kO _
  | exact(⟨_,rfl,rfl⟩:Rr X (Option.map (λa=>a) _) _)
  | with_reducible refine gh ?_
  | with_reducible refine b7 ?_ ?_
  | with_reducible refine iI ?_
  | with_reducible refine fN ?_
  | with_reducible refine iJ ?_ ?_
  | with_reducible refine kP ?_
  | with_reducible refine kQ ?_ ?_
  | with_reducible refine kR ?_
  | with_reducible refine kT ?_
  | with_reducible exact fg _ _
  | with_reducible exact pX K _ _
  | with_reducible exact iM K _ _
  | with_reducible exact kW _ _
  | with_reducible exact pY _ _
  | with_reducible exact kX _
  | with_reducible exact fO _
  | with_reducible exact gj _
  | with_reducible exact dO
  | with_reducible refine bh ?_
  | with_reducible refine dN ?_ ?_
  | with_reducible refine kU ?_ (λy z=>?_) λz=>?_
  | with_reducible refine gY ?_ (λy=>?_) ?_
  | with_reducible refine aT ?_ λy=>?_
  | with_reducible refine iL ?_ λx y=>?_
  | dsimp only[nmN,nmB,nmU,nmP,nmK,nmA,Nm.cn,ID]
  | simp only[ID,IJ,JQ]
def Dn (K:Ox X)(p q:Array (Fin n)):Rel X (Q2 (p.map X.c.it) (q.map X.c.it)) (Q2 (p.map X.d.it) (q.map X.d.it)):=by
 change Rel X (_ >>= _) (_ >>= _)
 repeat' first
  | with_reducible exact pW _
  | with_reducible exact kN _
  | with_reducible exact b6 _
  | with_reducible exact dM _
  | with_reducible exact iH
  | with_reducible exact jd _
  | with_reducible exact kO _
  | exact(⟨_,rfl,rfl⟩:Rr X (Option.map (λa=>a) _) _)
  | with_reducible refine gh ?_
  | with_reducible refine b7 ?_ ?_
  | with_reducible refine iI ?_
  | with_reducible refine fN ?_
  | with_reducible refine iJ ?_ ?_
  | with_reducible refine kP ?_
  | with_reducible refine kQ ?_ ?_
  | with_reducible refine kR ?_
  | with_reducible refine kT ?_
  | with_reducible exact fg _ _
  | with_reducible exact pX K _ _
  | with_reducible exact iM K _ _
  | with_reducible exact kW _ _
  | with_reducible exact pY _ _
  | with_reducible exact kX _
  | with_reducible exact fO _
  | with_reducible exact gj _
  | with_reducible exact mC K _ _ _ _ _ _
  | with_reducible exact dO
  | with_reducible refine bh ?_
  | with_reducible refine dN ?_ ?_
  | with_reducible refine kU ?_ (λy z=>?_) λz=>?_
  | with_reducible refine gY ?_ (λy=>?_) ?_
  | with_reducible refine aT ?_ λy=>?_
  | with_reducible refine iL ?_ λx y=>?_
  | dsimp only[nmN,nmB,nmU,nmP,nmK,nmA,Nm.cn,ID]
  | simp only[ID,IJ,JQ]
def Do (K:Ox X)(p q:Array (Fin n)):Rel X (Q3 (p.map X.c.it) (q.map X.c.it)) (Q3 (p.map X.d.it) (q.map X.d.it)):=by
 change Rel X (_ >>= _) (_ >>= _)
 repeat' first
  | with_reducible exact pW _
  | with_reducible exact kN _
  | with_reducible exact b6 _
  | with_reducible exact dM _
  | with_reducible exact iH
  | with_reducible exact jd _
  | with_reducible exact kO _
  | exact(⟨_,rfl,rfl⟩:Rr X (Option.map (λa=>a) _) _)
  | with_reducible refine gh ?_
  | with_reducible refine b7 ?_ ?_
  | with_reducible refine iI ?_
  | with_reducible refine fN ?_
  | with_reducible refine iJ ?_ ?_
  | with_reducible refine kP ?_
  | with_reducible refine kQ ?_ ?_
  | with_reducible refine kR ?_
  | with_reducible refine kT ?_
  | with_reducible exact fg _ _
  | with_reducible exact pX K _ _
  | with_reducible exact iM K _ _
  | with_reducible exact kW _ _
  | with_reducible exact pY _ _
  | with_reducible exact kX _
  | with_reducible exact fO _
  | with_reducible exact gj _
  | with_reducible exact mC K _ _ _ _ _ _
  | with_reducible exact dO
  | with_reducible refine bh ?_
  | with_reducible refine dN ?_ ?_
  | with_reducible refine kU ?_ (λy z=>?_) λz=>?_
  | with_reducible refine gY ?_ (λy=>?_) ?_
  | with_reducible refine aT ?_ λy=>?_
  | with_reducible refine iL ?_ λx y=>?_
  | dsimp only[nmN,nmB,nmU,nmP,nmK,nmA,Nm.cn,ID]
  | simp only[ID,IJ,JQ]
theorem tJ {γ δ:Type}(f:γ->δ)(k:Nat):∀ (l:List (γ×Nat)) (a:Array γ),(l.map λx=>(f x.1,x.2)).foldl (λa x=>a.setIfInBounds (k+x.2) x.1) (a.map f)=(l.foldl (λa x=>a.setIfInBounds (k+x.2) x.1) a).map f
 | [],a=>rfl
 | x::l,a=>by
  rw[Hq,IS,IS];show (l.map _).foldl _ ((a.map f).setIfInBounds (k+x.2) (f x.1))=_;rw[<- Array.map_setIfInBounds];exact tJ f k l _
def Ba {γ δ:Type}(f:γ->δ)(m:Array γ):(m.map f).toList.zipIdx=m.toList.zipIdx.map λx=>(f x.1,x.2):=by
 rw[Ly,List.zipIdx_map];rfl
def Dp (K:Ox X)(i:Nat):Rel X (mergeAt' i) (mergeAt' i):=by
 change Rel X (_ >>= _) (_ >>= _)
 refine aT dO λy=>?_
 dsimp only[nmS,Nm.cn]
 cases y.2.1[i]? with
 | none=>exact gj _
 | some u =>
  cases y.2.1[i+1]? with
  | none=>exact gj _
  | some v =>
   obtain⟨sa,na,pw⟩:=u;obtain⟨sb,nb,pw'⟩:=v
   dsimp only
   refine aT (Dk ⟨(y.1,(y.2.1.setIfInBounds i (sa,na+nb,pw)).eraseIdxIfInBounds (i+1),y.2.2),rfl,rfl⟩) λ_=>?_
   refine aT (fg _ _) λe=>?_
   refine gY (mC K _ _ _ _ _ _) (λk0=>?_) ?_
   rotate_left
   ·exact bh (b6 _)
   dsimp only[nmN,nmK,Nm.cn]
   refine dN (bh (b6 _)) ?_;refine aT (fg _ _) λe=>?_
   refine gY (mC K _ _ _ _ _ _) (λk=>?_) ?_
   rotate_left
   ·exact bh (b6 _)
   dsimp only[nmN,nmK,Nm.cn]
   refine dN (bh (b6 _)) ?_;simp only[<- Le];refine dN (aT (Dn K _ _) λm=>?_) (aT (Do K _ _) λm=>?_)
   all_goals
    refine aT (iK λz=>⟨((m:Array (Fin n)).toList.zipIdx.foldl (λa x=>a.setIfInBounds (sa+k0+x.2) x.1) z.1,z.2),?_,?_⟩) λ_=>aT dO λz=>bh (b6 true)
    all_goals
     show SortSt.mk' _ _ _ _ _=SortSt.mk' _ _ _ _ _
     congr 1
     exact Eq.trans (by rw[show ((Nm.cn m _:Array Keyed)).toList.zipIdx=_ from Ba _ m];rfl) (tJ _ (sa+k0) _ z.1)
def Bb (K:Ox X)(i j:Nat):Rel X ((sortPriv% PySem.Builtin.countRun) i j) ((sortPriv% PySem.Builtin.countRun) i j):=yO K i j
def EY (K:Ox X)(i j k:Nat):Rel X ((sortPriv% PySem.Builtin.binarySort) i j k) ((sortPriv% PySem.Builtin.binarySort) i j k):=Dm K i j k
def EZ (K:Ox X)(i:Nat):Rel X ((sortPriv% PySem.Builtin.mergeAt) i) ((sortPriv% PySem.Builtin.mergeAt) i):=Dp K i
def Bc (K:Ox X):Rel X sortRuns' sortRuns':=by
 change Rel X (_ >>= _) (_ >>= _)
 repeat' first
  | with_reducible exact pW _
  | with_reducible exact kN _
  | with_reducible exact b6 _
  | with_reducible exact dM _
  | with_reducible exact iH
  | with_reducible exact jd _
  | with_reducible exact kO _
  | exact(⟨_,rfl,rfl⟩:Rr X (Option.map (λa=>a) _) _)
  | with_reducible refine gh ?_
  | with_reducible refine b7 ?_ ?_
  | with_reducible refine iI ?_
  | with_reducible refine fN ?_
  | with_reducible refine iJ ?_ ?_
  | with_reducible refine kP ?_
  | with_reducible refine kQ ?_ ?_
  | with_reducible refine kR ?_
  | with_reducible refine kT ?_
  | with_reducible exact fg _ _
  | with_reducible exact pX K _ _
  | with_reducible exact iM K _ _
  | with_reducible exact kW _ _
  | with_reducible exact pY _ _
  | with_reducible exact kX _
  | with_reducible exact fO _
  | with_reducible exact gj _
  | with_reducible exact Bb K _ _
  | with_reducible exact EY K _ _ _
  | with_reducible exact EZ K _
  | exact iK λy=>⟨(y.1,y.2.1.push _,y.2.2),rfl,rfl⟩
  | exact iK λy=>⟨(y.1,y.2.1.modify (y.2.1.size - 1) (λx=>(x.1,x.2.1,_)),y.2.2),rfl,rfl⟩
  | with_reducible exact dO
  | with_reducible refine bh ?_
  | with_reducible refine dN ?_ ?_
  | with_reducible refine kU ?_ (λy z=>?_) λz=>?_
  | with_reducible refine gY ?_ (λy=>?_) ?_
  | with_reducible refine aT ?_ λy=>?_
  | with_reducible refine iL ?_ λx y=>?_
  | dsimp only[nmN,nmB,nmU,nmP,nmK,nmA,nmS,Nm.cn,ID]
  | simp only[ID,IJ,JQ]
  | (generalize Array.back? _=o;obtain _ | ⟨s1,n1,pw⟩:=o)
  | (by_cases hp:y.2.1.size > 1<;>simp only[hp,Hx,Hu])
  | (generalize y.2.1[y.2.1.size - 2]?=o;obtain _ | ⟨s1,n1,pw⟩:=o)
end
open PySem.W (KasT kas_sort kas_ask kat_run kat_kind kat_lt KatLex KatGo KatTups)
section
variable {s:Shared}{b fin:Bool}{Q:Bool->MT}
def Dq (b:Bool){n m:Int}{t u:Tok}(h:Q (decide (n < m)) s):wpAny (model prog w) A (oneLt' b (.int n t) (.int m u)) Q E s:=by
 cases b with
 | true=>exact oneLt_int h
 | false=>exact PySem.W.kat_one _ _ (PyProof.Rows.lt_int h)
theorem tK:∀ {xs ys:List Value} {ns ms:List Int} (i:Nat),IntsAre xs ns->IntsAre ys ms->fin=decide (ns.length < ms.length)->Q (Oo ns ms) s->KatLex prog w A b fin Q (xs.zip ys) i s
 | [],[],[],[],i,.nil,.nil,e,q=>by subst e;exact q
 | [],_,[],_,i,.nil,.cons m u k,e,q=>by
  subst e;show Q (decide _) s;rw[Hz (by simp)];exact q
 | _,[],_,[],i,.cons n t h,.nil,e,q=>by
  subst e;rw[List.zip_nil_right];show Q (decide _) s;rw[Hv (by simp)];exact q
 | _,_,_,_,i,.cons n t h,.cons m u k,e,q=>by
  rw[Kj];refine PySem.W.kat_cons (wpAny_eqBool_int ?_);unfold Oo at q;by_cases c:n=m
  ·rw[if_pos c]at q;rw[show (n==m)=true from by simp[c]];exact PySem.W.kat_yes (tK (i+1) h k (by rw[e];simp) q)
  ·rw[if_neg c]at q;rw[show (n==m)=false from by simp[c]];exact PySem.W.kat_no (Dq _ q)
end
def TT (h:Heap)(v:Value)(k:List Int):Prop:=∃ a xs,v=.ref a/\IsTup h a xs/\IntsAre xs.toList k
open PySem.W (KasT kas_sort kas_ask kat_run kat_kind kat_lt KatLex KatGo KatTups)
section
variable {s:Shared}{ks:List (List Int)}
noncomputable abbrev κT:SortKind:=tuples' (Value.type "int" != Value.type "tuple")
def TT.lt {x y:Value}{k l:List Int}{Q:Bool->MT}{b:Bool}(h1:TT s.heap x k)(h2:TT s.heap y l)(q:Q (Oo k l) s):wpAny (model prog w) A (keyLt' (tuples' b) x y) Q E s:=by
 obtain⟨a,xs,rfl,⟨o,e,c,n,d⟩,i⟩:=h1;obtain⟨a',xs',rfl,⟨o',e',c',n',d'⟩,i'⟩:=h2;refine kat_lt e d e' d' (tK 0 i i' ?_ q);rw[<- i.length,<- i'.length,JH,JH]
def TT.kind (h2:0 < vs.length)(hl:ks.length=vs.length)(hne:∀ k∈ks,k≠[])(hv:∀ i v,vs[i]?=some v->TT s.heap v (ks.getD i [])){Q:SortKind->MT}(q:Q κT s):wpAny (model prog w) A (keyKind' vs.toArray) Q E s:=by
 have go:∀ (vs:List Value) (ks:List (List Int)),ks.length=vs.length->(∀ k∈ks,k≠[])->(∀ i v,vs[i]?=some v->TT s.heap v (ks.getD i []))->∃ fs,KatTups s.heap vs fs/\fs.length=vs.length/\∀ v∈fs,∃ n t,v=Value.int n t:=by
  intro vs
  induction vs with
  | nil=>intro ks _ _ _;exact⟨[],trivial,rfl,λ_ h=>nomatch h⟩
  | cons v vs ih =>
   intro ks hl hne hv;cases ks with
   | nil=>simp at hl
   | cons k ks =>
    obtain⟨fs,t,lf,hf⟩:=ih ks (by simpa using hl) (λx hx=>hne x (Il _ hx)) (λi u e=>by simpa using hv (i+1) u (by simpa using e));obtain⟨a,xs,rfl,⟨o,e,c,n,d⟩,i⟩:=hv 0 v rfl;have i:IntsAre xs.toList k:=i;have k1:=hne k Ih;cases hx:xs.toList with
    | nil=>rw[hx]at i;cases i;exact(k1 rfl).elim
    | cons x r =>
     rw[hx]at i;cases i with
     | cons m u i' =>
      refine⟨.int m u::fs,KatTups.cons e c d (by rw[<- Array.getElem?_toList,hx];rfl) t,by simp[lf],λv hv=>?_⟩;rcases Ho.mp hv with rfl | hv
      ·exact⟨m,u,rfl⟩
      ·exact hf v hv
 obtain⟨fs,t,lf,hf⟩:=go vs ks hl hne hv;refine kat_kind (T:=.type "int") t (by omega) (λv hv=>?_) rfl q;obtain⟨n,t,rfl⟩:=hf v hv;exact PySem.W.Looks.of_pure rfl
noncomputable def O7:List D->Option (List (List Int))
 | []=>some []
 | x::r=>match NF? x,O7 r with
  | some (a::k),some ks=>some ((a::k)::ks)
  | _,_=>none
theorem tM:∀ {xs:List D} {ks:List (List Int)},O7 xs=some ks->ks.length=xs.length/\(∀ k∈ks,k≠[])/\∀ i x,xs[i]?=some x->NF? x=some (ks.getD i [])
 | [],ks,e=>by cases e;exact⟨rfl,λ_ h=>(nomatch h),λ_ _ h=>(nomatch h)⟩
 | x::r,ks,e=>by
  unfold O7 at e;split at e
  ·rename_i a k ks' e1 e2;cases e;obtain⟨h1,h2,h3⟩:=tM e2;refine⟨by simp[h1],λk hk=>?_,λi y hy=>?_⟩
   ·rcases Ho.mp hk with rfl | hk
    ·exact λz=>nomatch z
    ·exact h2 k hk
   ·cases i with
    | zero=>cases hy;exact e1
    | succ i=>simpa using h3 i y (by simpa using hy)
  ·cases e
theorem kY {K:Frag}{C:MN}{Z:Hp}{xs:List D}{us:List V}(h:Reps K C Z xs us):∀ (l:List Nat) (us':List V),(∀ j∈l,j < xs.length)->(∀ (i j:Nat),l[i]?=some j->us'[i]?=us[j]?)->us'.length=l.length->Reps K C Z (l.map λi=>xs.getD i .non) us'
 | [],us',_,_,e=>by
  obtain rfl:us'=[]:=Ii.mp e;exact Reps.nil
 | j::l,us',hj,hi,e=>by
  cases us' with
  | nil=>cases e
  | cons u us' =>
   have hjl:=hj j Ih;have e1:xs[j]?=some xs[j]:=HU hjl;obtain⟨v,e2,r2⟩:=h.get e1;have e3:=hi 0 j rfl;rw[e2]at e3;cases e3;refine Reps.cons ?_ (kY h l us' (λx hx=>hj x (Il _ hx)) (λi j' q=>by simpa using hi (i+1) j' (by simpa using q)) (by simpa using e));show Rep K C Z (xs.getD j .non) _;rw[show xs.getD j .non=xs[j] by rw[IY,e1];rfl];exact r2
variable {p:Pos}{gs:ML}{k:Nat}
variable {a b:Expr}{p2 pos2:Pos}
end
open PySem.W (KasT kas_sort kas_ask kat_run kat_kind kat_lt KatLex KatGo KatTups)
open PySem.SeqAt (EqAt)
section
variable {s:Shared}{P:List Nat}
def OH (prog:Program)(w:World)(A:Around)(vs:List Value)(P:List Nat)(s:Shared):Prop :=
 ∀ (E:MJ) (Q:SortSt->MT),(∀ st,(arrOf st).map (·.2)=(P.map λi=>vs.getD i Value.none).toArray->failedOf st=none->Q st s) ->
  wpAny (model prog w) A (keyKind' vs.toArray) (λκ s2=>wpAny (model prog w) A (sortRuns'.run (SortSt.mk' κ (vs.toArray.zip vs.toArray) #[] 7 none)) (λr s3=>Q r.2 s3) E s2) E s
def oT {a:Addr}{R:PySem.Fin->MT}(ho:s.heap.get? a=some (seqObj "list" vs.toArray n))(hz:vs.length<=1000)(hP:P.length=vs.length)(h1:vs.length < 2->P=List.range vs.length)
  (hs:2<=vs.length->∀ h',(∀ b o,b≠a->s.heap.get? b=some o->h'.get? b=some o)->OH prog w A vs P { s with heap:=h' })
  (h:R (.done (.ret .none)) { s with heap:=sortedHeap s.heap a vs (P.map λi=>vs.getD i Value.none).toArray }):wpAny (model prog w) A (Builtin.«list.sort» ⟨[.ref a],[]⟩) R E s:=by
 have la:a < s.zz:=HC ho;rw[list_sort_plain];refine Hk (listItems_at ho rfl (Hk (Me ho rfl ?_ (by rw[Hs,HV];omega) (by simp))));have e1:=get?_update_seq ho (λ_=>#[]);refine Hk (seqEpoch_at e1 rfl (Hk (wpAny_newTuple ?_ (by rw[HV];show vs.length<=_;omega))));refine Hk (wpAny_newList (Js ?_));have e2:(((s.heap.update a (Obj.mapSeq λ_=>#[])).push (seqObj "tuple" vs.toArray 0)).push (seqObj "list" #[] 0)).get? a=some (seqObj "list" #[] _):=Hn _ (Hn _ e1);have kp:∀ b o,b≠a->s.heap.get? b=some o->(((s.heap.update a (Obj.mapSeq λ_=>#[])).push (seqObj "tuple" vs.toArray 0)).push (seqObj "list" #[] 0)).get? b=some o:=λb o hb e =>
  Hn _ (Hn _ (by rw[(Ke s.heap a _).2 b hb];exact e))
 have sz:(P.map λi=>vs.getD i Value.none).toArray.size<=sizeLine:=by rw[Hs,Hl,hP,HV];omega
 show wpAny (model prog w) A _ R E { s with heap:=((s.heap.update a (Obj.mapSeq λ_=>#[])).push (seqObj "tuple" vs.toArray 0)).push (seqObj "list" #[] 0) }
 dsimp only
 by_cases h2:vs.toArray.size < 2
 ·rw[if_pos h2,if_pos h2];refine Hk (Hw ?_);rw[StateT.run_pure];refine Hk (Hw ?_)
  dsimp only
  have eo:Array.map (λx=>x.2) (vs.toArray.zip vs.toArray)=(P.map λi=>vs.getD i Value.none).toArray:=by
   rw[Hs]at h2;rw[h1 h2]
   match vs,h2 with
   | [],_=>simp
   | [_],_=>simp[IT]
  refine Hk (seqEpoch_at e2 rfl ?_);rw[show Array.map (λx=>x.2) (arrOf (SortSt.mk' general' (vs.toArray.zip vs.toArray) #[] 7 none))=_ from eo];refine Hk (Me e2 rfl ?_ (by simp) (Nat.le_succ_of_le sz));simp only[bne_self_eq_false,JN,Hu];exact Hw h
 ·rw[if_neg h2,if_neg h2];rw[Hs]at h2;refine Hk (Im (hs (by omega) _ kp (λ_ _=>False) (λst s'=>(arrOf st).map (·.2)=(P.map λi=>vs.getD i Value.none).toArray/\failedOf st=none/\s'=_) (λst a b=>⟨a,b,rfl⟩)) (λκ s2 hk=>?_) λ_ _ x=>x.elim);refine Hk (Im hk (λr s' hr=>?_) λ_ _ x=>x.elim);obtain⟨ea,ef,rfl⟩:=hr
  try dsimp only
  refine Hk (seqEpoch_at e2 rfl ?_);rw[ea];refine Hk (Me e2 rfl ?_ (by simp) (Nat.le_succ_of_le sz));rw[ef];simp only[bne_self_eq_false,JN,Hu];exact Hw h
def vy {l:Addr}{Q:MJ}(hL:s.heap.IsList l vs.toArray)(hz:vs.length<=1000)(hP:P.length=vs.length)(h1:vs.length < 2->P=List.range vs.length)
  (hs:2<=vs.length->∀ h',(∀ b o,s.heap.get? b=some o->h'.get? b=some o)->OH prog w A.in1.in1 vs P { s with heap:=h' })
  (h:Q (.ref (s.zz+1)) { s with heap:=sortedAll s.heap vs (P.map λi=>vs.getD i Value.none).toArray }):wpAny (model prog w) A (call (.builtin "sorted") [.ref l]) Q E s:=by
 refine Lm kind_sorted plain_sorted entry_sorted (args_sorted1 _) ?_;have go:wpAny (model prog w) A.in1 (collect (.ref l) >>= λxs=>newList xs >>= λl=>holding [l] (call (.builtin "list.sort") [l]) >>= λ_=>ret l) (λfin s'=>∃ v,fin=.done (.ret v)/\Q v s') E s:=by
  refine Hk (collect_list hL ?_ (by rw[HV];omega));refine Hk (wpAny_newList ?_ (by rw[HV];omega));have hs':((s.heap.push (seqObj "list" #[] 0)).update s.zz (Obj.mapSeq (·++vs.toArray))).objs.size=s.zz+1:=by rw[Heap.size_update,size_push']
  have e1:(((s.heap.push (seqObj "list" #[] 0)).update s.zz (Obj.mapSeq (·++vs.toArray))).push (seqObj "list" vs.toArray 0)).get? (s.zz+1)=some (seqObj "list" vs.toArray 0):=by
   rw[<- hs'];exact HP _ rfl
  have kp:∀ b o,s.heap.get? b=some o->b < s.zz/\(((s.heap.push (seqObj "list" #[] 0)).update s.zz (Obj.mapSeq (·++vs.toArray))).push (seqObj "list" vs.toArray 0)).get? b=some o:=λb o e=>by
   have lt:b < s.zz:=HC e;refine⟨lt,Hn _ ?_⟩;rw[(Ke _ _ _).2 b (HQ lt)];exact Hn _ e
  show wpAny _ _ _ _ _ { s with heap:=((s.heap.push (seqObj "list" #[] 0)).update s.zz (Obj.mapSeq (·++vs.toArray))).push (seqObj "list" vs.toArray 0) };rw[hs'];refine Hk (Js (Jm slot_list_sort ⟨_,e1,rfl⟩ entry_list_sort (oT e1 hz hP h1 (λh2 h' k=>?_) ⟨_,rfl,?_⟩) (args_list_sort _)))
  ·exact hs h2 h' λb o e=>k b o (HQ (Ld (kp b o e).1)) (kp b o e).2
  ·exact Hw ⟨_,rfl,h⟩
 exact go
def jP {Q:VK}{s:Shared}{a:Addr}{us:List V}{its:List Value}(P:List Nat)(I:Inv X am σ H s)(rv:Vals us its)(pl:PlainL s.heap a its.toArray)(hz:its.length<=1000)(hp:P.Perm (List.range its.length))(h1:its.length < 2->P=List.range its.length)
  (hs:2<=its.length->∀ h',(∀ b o,s.heap.get? b=some o->h'.get? b=some o)->OH X.prog X.w X.A.in1.in1 its P { s with heap:=h' })
  (q:∀ p us',H p=none->(∀ (i j:Nat),P[i]?=some j->us'[i]?=us[j]?)->us'.length=us.length->Q (.ref p) (upd H p (.lst us')))  :
  wpAny (model X.prog X.w) X.A (call (.builtin "sorted") [.ref a]) (λv s'=>∃ u H',Inv X am σ H' s'/\RelV u v/\Q u H') E s:=by
 have hL:=rv.length;have lp:P.length=its.length:=by rw[hp.length_eq,Ig]
 refine vy (P:=P) pl.isList hz lp h1 hs ?_;obtain⟨n,hn⟩:=sortedAll_at s.heap its (P.map λi=>its.getD i Value.none).toArray;have mk:∀ l:List Nat,(∀ j∈l,j < us.length)->∃ us',Vals us' (l.map λi=>its.getD i .none)/\(∀ (i j:Nat),l[i]?=some j->us'[i]?=us[j]?)/\us'.length=l.length:=by
  intro l
  induction l with
  | nil=>intro _;exact⟨[],.nil,λ_ _ h=>(nomatch h),rfl⟩
  | cons j l ih =>
   intro hj;obtain⟨us',h1,h2,h3⟩:=ih λx hx=>hj x (Il _ hx)
   have hjl:=hj j Ih;have e1:us[j]?=some us[j]:=HU hjl;obtain⟨u',e2,r2⟩:=rv.get e1;refine⟨us[j]::us',.cons (by show RelV _ (its.getD j .none);rw[IY,e2];exact r2) h1,λi j' e=>?_,by simp[h3]⟩;cases i with
   | zero=>cases e;exact e1.symm
   | succ i=>exact h2 i j' (by simpa using e)
 obtain⟨us',r',g1,g2⟩:=mk P (λj hj=>by have:=HG.mp (hp.subset hj);omega);have hz2:us'.length<=sizeLine:=by rw[g2,lp,HV];omega
 exact⟨.ref (s.zz+1),_,I.laid (o:=.lst us') (t':=s.toks) (λb u q=>sortedAll_old q) (JA _) ⟨hz2,(P.map λi=>its.getD i Value.none),n,r',by simpa [seqObj] using hn⟩,rfl,q _ us' (I.hok.fresh (JA _)) g1 (by omega)⟩
end
open PySem.W (KasT kas_sort kas_ask kat_run kat_kind kat_lt KatLex KatGo KatTups)
open PySem.SeqAt (EqAt)
noncomputable def cT:List Nat:=[0,8,16,24,32,40,48,56,1,9,17,25,33,41,49,57,2,10,18,26,34,42,50,58,3,11,19,27,35,43,51,59,4,12,20,28,36,44,52,60,5,13,21,29,37,45,53,61,6,14,22,30,38,46,54,62,7,15,23,31,39,47,55,63]
noncomputable def cB:List Nat:=[0,8,1,16,9,2,24,17,10,3,32,25,18,11,4,40,33,26,19,12,5,48,41,34,27,20,13,6,56,49,42,35,28,21,14,7,57,50,43,36,29,22,15,58,51,44,37,30,23,59,52,45,38,31,60,53,46,39,61,54,47,62,55,63]
noncomputable def pT:List Nat:=[0,8,16,24,32,40,48,56,1,9,17,25,33,41,49,57,2,10,18,26,34,42,50,58,3,11,19,27,35,43,51,59,4,12,20,28,36,44,52,60,5,13,21,29,37,45,53,61,6,14,22,30,38,46,54,62,7,15,23,31,39,47,55,63]
noncomputable def pB:List Nat:=[0,2,5,9,14,20,27,35,1,4,8,13,19,26,34,42,3,7,12,18,25,33,41,48,6,11,17,24,32,40,47,53,10,16,23,31,39,46,52,57,15,22,30,38,45,51,56,60,21,29,37,44,50,55,59,62,28,36,43,49,54,58,61,63]
noncomputable def kC (c:List Nat):List (List Int):=c.map λi=>[((i/8:Nat):Int),((i%8:Nat):Int)]
noncomputable def fC (c:List Nat)(i:Fin 64):Int:=((c.getD i.1 0:Nat):Int)
noncomputable def iC (c:List Nat)(i:Fin 64):Keyed:=(.int (fC c i) 0,.int (fC c i) 0)
noncomputable def evC (c:List Nat)(σ:Setting):Option (List Int):=(ev σ (sortRuns'.run (SortSt.mk' oneType' ((List.finRange 64).toArray.map (iC c)) #[] 7 none))).bind Rh
noncomputable def qC (p:List Nat):List (Fin 64):=p.map λi=>⟨i%64,Nat.mod_lt _ (by decide)⟩
noncomputable abbrev r64:List Int:=(List.range 64).map λ(i:Nat)=>(i:Int)
structure Kn (c p:List Nat):Prop where
 e:∀ σ b,evC c (sg σ b)=some r64
 l:(kC c).length=64
 f:(qC p).map (fC c)=r64
 p:(qC p).map (·.1)=p
 i:∀ i j:Fin 64,fC c i=fC c j->i=j
 t:∀ i j:Fin 64,Oo ((kC c).getD i.1 []) ((kC c).getD j.1 [])=decide (fC c i < fC c j)
def ecT (σ:Setting)(b:Bool):evC cT (sg σ b)=some r64:=by cases b<;>kernel_rfl
def ecB (σ:Setting)(b:Bool):evC cB (sg σ b)=some r64:=by cases b<;>kernel_rfl
def knT:Kn cT pT:=⟨ecT,by decide +kernel,by decide +kernel,by decide +kernel,by decide +kernel,by decide +kernel⟩
def knB:Kn cB pB:=⟨ecB,by decide +kernel,by decide +kernel,by decide +kernel,by decide +kernel,by decide +kernel⟩
section
variable {s:Shared}{ks:List (List Int)}{c p:List Nat}
def Kn.runs (K:Kn c p)(hl:(kC c).length=vs.length)(hv:∀ i v,vs[i]?=some v->TT s.heap v ((kC c).getD i [])):OH prog w A vs p s:=λE Q q=>by
 have l64:vs.length=64:=by rw[<- hl,K.l]
 have hd:∀ i,i < vs.length->TT s.heap (vs.getD i .none) ((kC c).getD i []):=λi hi=>hv i _ (by simp[List.getD,hi])
 refine TT.kind (by omega) hl (λk hk=>by obtain⟨i,_,rfl⟩:=HF.mp hk;exact λz=>nomatch z) hv ?_;obtain⟨X,hX⟩:∃ X:Rx 64,X=⟨⟨λi=>(vs.getD i.1 .none,vs.getD i.1 .none),κT⟩,⟨iC c,oneType'⟩,⟨prog,w.params⟩,prog,w,A,E,s⟩:=⟨_,rfl⟩;have KO:Ox X:=by
  subst hX;refine⟨rfl,⟨fC c,λi=>⟨_,_,rfl⟩,λi j C h=>?_⟩,⟨⟨prog,w.params⟩,_,(wY _).symm⟩⟩;exact TT.lt (hd i.1 (by omega)) (hd j.1 (by omega)) (by rw[K.t];exact h)
 have e64:evC c ⟨prog,w.params⟩=some r64:=by
  rw[<- wY ⟨prog,w.params⟩];exact K.e _ _
 unfold evC at e64;cases q0:ev ⟨prog,w.params⟩ (sortRuns'.run (SortSt.mk' oneType' ((List.finRange 64).toArray.map (iC c)) #[] 7 none)) with
 | none=>rw[q0]at e64;cases e64
 | some z =>
  rw[q0]at e64;have e64:Rh z=some r64:=e64;have R:=Bc KO ((List.finRange 64).toArray,#[],7) z (by subst hX;exact q0) (λr=>Q r.2 s) (λy hy=>by
   obtain⟨u,rfl,rfl⟩:=hy;subst hX;refine q _ ?_ rfl;unfold Rh at e64;split at e64
   ·have en:(u.2.1:Array (Fin 64)).toList.map (fC c)=r64:=by
     have e:Pn (((u.2.1:Array (Fin 64)).map (iC c)).map (·.2)).toList=some _:=e64;have go:∀ l:List (Fin 64),Pn (l.map λi=>(iC c i).2)=some (l.map (fC c)):=by
      intro l
      induction l with
      | nil=>rfl
      | cons a l ih=>show (Pn _).map _=_;rw[ih];rfl
     rw[Array.map_map,Ly]at e;exact IQ ((go _).symm.trans e)
    rw[<- K.f]at en;have eq:(u.2.1:Array (Fin 64)).toList=qC p:=(List.map_inj_right (λx y h=>K.i x y h)).mp en;show ((u.2.1:Array (Fin 64)).map λi=>(vs.getD i.1 Value.none,vs.getD i.1 Value.none)).map (·.2)=_;apply Array.toList_inj.mp;rw[Array.map_map,Ly,eq]
    conv=>rhs;rw[<- K.p,HX]
    rfl
   ·cases e64)
  subst hX;have es:(Nm.cn (((List.finRange 64).toArray,#[],7):Nm.Ab 64 SortSt) ⟨λi=>(vs.getD i.1 .none,vs.getD i.1 .none),κT⟩:SortSt)=SortSt.mk' κT (vs.toArray.zip vs.toArray) #[] 7 none:=by
   show SortSt.mk' _ _ _ _ _=_
   congr 1
   apply Array.toList_inj.mp;apply List.ext_getElem (by simp[l64]);intro i h1 h2
   simp
   have:i < vs.length:=by simp at h1;omega
   simp[this]
  have R:wpAny (model prog w) A (sortRuns'.run (Nm.cn (((List.finRange 64).toArray,#[],7):Nm.Ab 64 SortSt) ⟨λi=>(vs.getD i.1 .none,vs.getD i.1 .none),κT⟩:SortSt)) (λr s'=>s'=s/\Q r.2 s) E s:=R;rw[es]at R;exact Im R (λr s' h=>by obtain⟨rfl,h⟩:=h;exact h) λ_ _ x=>x
noncomputable def OL (n:Nat)(lt:Nat->Nat->Bool):List Nat:=if n < 2 then List.range n else (Nt lt (kas_sort n)).toList
def iO (n:Nat)(lt:Nat->Nat->Bool):(OL n lt).Perm (List.range n):=by
 unfold OL;split
 ·exact .refl _
 ·exact KOk.run _ (qZ (by omega))
def tN {κ:SortKind}{lt:Nat->Nat->Bool}(h2:2<=vs.length)(h64:vs.length < 64)(hk:∀ (E:MJ) (Q:SortKind->MT),Q κ s->wpAny (model prog w) A (keyKind' vs.toArray) Q E s)
  (hc:∀ i j (C:Bool->MT),i < vs.length->j < vs.length->C (lt i j) s->wpAny (model prog w) A (keyLt' κ (vs.getD i .none) (vs.getD j .none)) C (λ_ _=>False) s):OH prog w A vs (OL vs.length lt) s:=λE Q q=>by
 refine hk E _ ?_;refine kat_run (G:=λp s'=>p=Nt lt (kas_sort vs.length)/\s'=s) rfl h2 h64 (λp st s' hp e1 e2 e3=>?_) (KOk.wp (λi j C hi hj h=>hc i j C hi hj h) (qZ (by omega)) ⟨rfl,rfl⟩);obtain⟨rfl,rfl⟩:=e3;refine q st ?_ e2;rw[PySem.W.kat_snds rfl e1];unfold OL;rw[if_neg (by omega)]
end
noncomputable def OF (ks:List (List Int)):List Nat:=if ks=kC cT then pT else if ks=kC cB then pB else OL ks.length λi j=>Oo (ks.getD i []) (ks.getD j [])
noncomputable def Ol:MI
 | [.lst xs]=>match O7 xs with
  | some ks=>if ks.length < 64\/ks=kC cT\/ks=kC cB then .ok (.lst ((OF ks).map λi=>xs.getD i .non)) else .stuck
  | none=>.stuck
 | _=>.stuck
def pTB:pT.Perm (List.range 64)/\pB.Perm (List.range 64):=by decide +kernel
def je {ks:List (List Int)}:(OF ks).Perm (List.range ks.length):=by
 unfold OF;split
 ·rename_i e;subst e;rw[knT.l];exact pTB.1
 ·split
  ·rename_i e;subst e;rw[knB.l];exact pTB.2
  ·exact iO _ _
section
variable {p:Pos}{gs:ML}{k:Nat}
def vz:NH X (.builtin "sorted") (λxs H Q=>∃ (a:Addr) (us:List V) (ks:List (List Int)),xs=[.ref a]/\SqL X.K H a us/\ks.length=us.length/\(∀ k∈ks,k≠[])/\(∀ (i:Nat) v,us[i]?=some v->∃ b,v=.ref b/\SqT X.K H b ((ks.getD i []).map V.int))/\(ks.length < 64\/ks=kC cT\/ks=kC cB) /\
  ∀ p us',H p=none->(∀ (i j:Nat),(OF ks)[i]?=some j->us'[i]?=us[j]?)->us'.length=us.length->Q (.ref p) (upd H p (.lst us'))):=by
 intro am s σ H xs us Q I r h;obtain⟨a,vs,ks,rfl,hq,hl,hne,ht,h64,q⟩:=h;obtain⟨u,rfl,ru⟩:=N1 r;cases ru;obtain⟨its,rv,pl,hz⟩:=I.list hq;have hL:=rv.length;have back:∀ (i:Nat) u,its[i]?=some u->∃ v,vs[i]?=some v/\RelV v u:=λi u e=>by
  cases e':vs[i]? with
  | none=>rw[Vals.none_of rv e']at e;cases e
  | some v =>
   obtain⟨u',e1,r1⟩:=rv.get e';rw[e]at e1;cases e1;exact⟨v,rfl,r1⟩
 have hi:its.length=ks.length:=by omega
 have l64:its.length<=64:=by
  rw[hi];rcases h64 with h | rfl | rfl
  ·omega
  ·rw[knT.l];decide
  ·rw[knB.l];decide
 have tt:∀ h',(∀ b o,s.heap.get? b=some o->h'.get? b=some o)->∀ i u,its[i]?=some u->TT h' u (ks.getD i []):=λh' kp i u e=>by
  obtain⟨v,e1,r1⟩:=back i u e;obtain⟨a,rfl,hT⟩:=ht i v e1;cases r1;obtain⟨ts,r2,⟨o,p2,p3,p4⟩,_⟩:=I.tuple hT;exact⟨a,ts.toArray,rfl,⟨o,kp _ _ p2,p3,p4⟩,by simpa using mP r2⟩
 refine jP (OF ks) I rv pl (by omega) (by rw[hi];exact je) (λh2=>?_) (λh2 h' kp=>?_) q
 ·rw[hi]at h2 ⊢;unfold OF;rw[if_neg (λe=>by rw[e,knT.l]at h2;omega),if_neg (λe=>by rw[e,knB.l]at h2;omega)];unfold OL;rw[if_pos h2]
 ·unfold OF;split
  ·rename_i e;subst e;exact knT.runs (by omega) (tt h' kp)
  ·split
   ·rename_i e;subst e;exact knB.runs (by omega) (tt h' kp)
   ·rename_i n1 n2;rw[<- hi];have t':=tt h' kp;have hd:∀ i,i < its.length->TT h' (its.getD i .none) (ks.getD i []):=λi h=>t' i _ (by simp[List.getD,h])
    exact tN (s:={ s with heap:=h' }) h2 (by rw[hi];exact h64.resolve_right λz=>z.elim n1 n2) (λE Q q=>TT.kind (s:={ s with heap:=h' }) (by omega) hi.symm hne t' q) (λi j C hi hj hc=>TT.lt (s:={ s with heap:=h' }) (hd i hi) (hd j hj) hc)
def jf (bx:BX X F k)(hg:Gl X "sorted")(hm:X.mg "sorted"=none)(ha:FA X F [e] gs)(he:autoParam (Id X e []) YW)(hpl:autoParam (IO X pos []) YW) :
  FE X F (.Call (.Name "sorted" p) [e] [] pos) (ND Ol gs) :=
 (eD vz hg hm boot_sorted ha (he:=he) (hpl:=hpl)).weak λσ H Q ⟨Z,S,ok,w⟩=>by
  refine a8 ok w λds vs H1 Z1 ok1 x1 rs w1=>?_
  unfold Ol at w1;split at w1
  ·rename_i xs;split at w1
   ·rename_i ks e;split at w1
    ·rename_i hl;obtain⟨v,rfl,h⟩:=a9 rs;rw[Rep]at h;obtain⟨a,us,rfl,h1,h2⟩:=h;have Mq:=h2.length;obtain⟨k1,k2,k3⟩:=tM e;refine⟨a,us,ks,rfl,by rw[bx.K];exact ok1.sub.seq h1,by omega,k2,λi u e1=>?_,hl,λc us' hc g1 g2=>?_⟩
     ·obtain⟨dx,e2,r2⟩:=h2.get' e1;have e3:=k3 i dx e2;cases dx with
      | tup ts =>
       rw[Rep]at r2;obtain⟨a2,us2,rfl,g1,g2⟩:=r2;have:=bQ g2 e3;subst this;exact⟨a2,rfl,by rw[bx.K];exact g1.mono ok1.sub⟩
      | _=>cases e3
     ·have pm:=je (ks:=ks);refine w1 _ _ (Ex.alloc ok1.sub hc) _ ?_;rw[Rep];exact⟨c,us',rfl,SqL.of az,(kY h2 _ _ (λj hj=>by have:=HG.mp (pm.subset hj);omega) g1 (by rw[g2,pm.length_eq,Ig];omega)).mono (aN (ok1.sub.free hc))⟩
    ·exact w1.elim
   ·exact w1.elim
  ·exact w1.elim
end
open PySem.SeqAt (EqAt)
section
open PySem.AutoSeq1 (wpAny_loadPart')
open PySem.MeetsSeq3 (plain_eq_loop entry_eq_loop)
variable (l b:Addr)(us vs:Array Value)(n m:Nat)(dl db:Option Addr)(sl sb:Array (Na))
def Bd (k:Nat):∀ i:Nat,us.size - i=k->i<=us.size->Meets (Builtin.«list.__eq__.loop» ⟨[.ref l,.ref b,rawInt i,rawInt 0],[]⟩)
   (λA R s=>s.heap.get? l=some ⟨.type "list",dl,.seq us n,sl⟩/\s.heap.get? b=some ⟨.type "list",db,.seq vs m,sb⟩/\∃ c,N4 A.in1 s (us.toList.drop i) (vs.toList.drop i) c/\R (.ok (.ret (.bool c))) s):=by
 induction k with
 | zero =>
  intro i hk hi0 prog w A R s h;obtain⟨hp,g,d,tk,os⟩:=s;obtain⟨hl,hb,c,lx,h⟩:=h
  wp_walk using wpAny_loadPart' hl,wpAny_loadPart' hb
  have hi1:us[((i:Nat):Int).toNat]?=none:=by simp;omega
  have hd:us.toList.drop i=[]:=by simp;omega
  rw[hd]at lx;have hc:c=decide (us.size < vs.size):=by
   generalize hv:vs.toList.drop i=ys at lx;have Mq:ys.length=vs.size - i:=by rw[<- hv];simp
   cases lx with
   | nn=>simp only[Ip]at Mq;exact(Hv (by omega)).symm
   | nc=>simp only[HB]at Mq;exact(Hz (by omega)).symm
  rw[hi1]
  wp_walk using wpAny_loadPart' hl,wpAny_loadPart' hb
  show R (.ok (.ret (.bool (decide (us.size < vs.size))))) _;rw[<- hc];exact h
 | succ k ih =>
  intro i hk hi0 prog w A R s h;obtain⟨hp,g,d,tk,os⟩:=s;obtain⟨hl,hb,c,lx,h⟩:=h;have M0:i < us.size:=by omega
  have hi1:us[((i:Nat):Int).toNat]?=some us[i]:=by simp[M0]
  have hd:us.toList.drop i=us[i]::us.toList.drop (i+1):=by rw[Jy (by simpa using M0)];simp
  rw[hd]at lx;by_cases hlt2:i < vs.size
  ·have hi2:vs[((i:Nat):Int).toNat]?=some vs[i]:=by simp[hlt2]
   have hd2:vs.toList.drop i=vs[i]::vs.toList.drop (i+1):=by rw[Jy (by simpa using hlt2)];simp
   rw[hd2]at lx;have hc:((i:Int)+1)=((i+1:Nat):Int):=by push_cast;rfl
   wp_walk using wpAny_loadPart' hl,wpAny_loadPart' hb
   rw[hi1,hi2];cases lx with
   | eq e t =>
    refine Hk (e prog w _ _ ?_)
    wp_walk
    rw[hc];exact⟨plainId_quiet plain_eq_loop _,LH entry_eq_loop (by
     rw[Around.under_plainId plain_eq_loop _];exact ih (i+1) (by omega) (by omega) prog w A R _ ⟨hl,hb,c,t,h⟩)⟩
   | ne e t =>
    refine Hk (e prog w _ _ ?_);have tt:=t prog w
    wp_walk using wpAny_loadPart' hl,wpAny_loadPart' hb
    rw[hi1,hi2]
    wp_walk using tt
    exact h
  ·have hi2:vs[((i:Nat):Int).toNat]?=none:=by simp;omega
   have hd2:vs.toList.drop i=[]:=by simp;omega
   rw[hd2]at lx
   wp_walk using wpAny_loadPart' hl,wpAny_loadPart' hb
   rw[hi1,hi2];cases lx
   wp_walk using wpAny_loadPart' hl,wpAny_loadPart' hb
   show R (.ok (.ret (.bool (decide (us.size < vs.size))))) _;rw[Hv (by omega)];exact h
def vA:Meets (Builtin.«list.__lt__» ⟨[.ref l,.ref b],[]⟩)
   (λA R s=>s.heap.get? l=some ⟨.type "list",dl,.seq us n,sl⟩/\s.heap.get? b=some ⟨.type "list",db,.seq vs m,sb⟩/\∃ c,N4 A.in1 s us.toList vs.toList c/\R (.ok (.ret (.bool c))) s):=by
 intro prog w A R s h;obtain⟨hp,g,d,tk,os⟩:=s;obtain⟨hl,hb,c,lx,h⟩:=h;have f3:=IW
 wp_walk using wpAny_loadPart' hl,wpAny_loadPart' hb
 exact⟨plainId_quiet plain_eq_loop _,LH entry_eq_loop (by
  rw[Around.under_plainId plain_eq_loop _];exact Bd l b us vs n m dl db sl sb _ 0 rfl (IA _) prog w A R _ ⟨hl,hb,c,lx,h⟩)⟩
end
section
variable {s:Shared}{l:Addr}{vs:Array Value}{Q:Bool->MT}
def yP (hl:s.heap.IsList l us)(hb:s.heap.IsList b vs)(hu:A.units < cLine)(h:N4 A.in1 s us.toList vs.toList c)(q:Q c s):wpAny (model prog w) A (keyLt' oneType' (.ref l) (.ref b)) Q E s:=by
 obtain⟨⟨cl,dl,al,sl⟩,ho,hc,n,hd⟩:=id hl;obtain⟨⟨cb,db,ab,sb⟩,ho2,hc2,m,hd2⟩:=id hb;simp only at hc hd hc2 hd2;subst hc hd hc2 hd2;rw[keyLt'_oneType,oneLt'_eq];simp only[Hx];refine Hk (wpAny_cRoomFor hu ?_);refine Hk (wpAny_callSpecialIfBound?_slot ⟨_,ho,rfl⟩ PySem.F.slot_list_lt (II PySem.F.slot_list_lt ⟨_,ho,rfl⟩ PySem.F.entry_list_lt (PySem.F.args_list_lt_2 _ _) (vA l b us vs n m dl db sl sb) ⟨ho,ho2,c,h,?_⟩));exact IC q
end
noncomputable def ltL:D->MY
 | .lst xs,.lst ys=>if MH 5 xs=true/\MH 5 ys=true then OR (ltN 5) xs ys else none
 | _,_=>none
noncomputable def lOf (ds:List D)(i j:Nat):Bool:=(ltL (ds.getD i .non) (ds.getD j .non)).getD false
noncomputable def OP:MI
 | [.lst ds]=>if ds.length < 64/\(ds.all λd=>ds.all λe=>(ltL d e).isSome)=true then .ok (.lst ((OL ds.length (lOf ds)).map λi=>ds.getD i .non)) else .stuck
 | _=>.stuck
def xc {d e:D}(h:ltL d e=some c):∃ xs ys,d=.lst xs/\e=.lst ys/\MH 5 xs=true/\MH 5 ys=true/\OR (ltN 5) xs ys=some c:=by
 unfold ltL at h;split at h
 ·split at h
  ·rename_i g;exact⟨_,_,rfl,rfl,g.1,g.2,h⟩
  ·cases h
 ·cases h
section
variable {p:Pos}{gs:ML}{k:Nat}
def Dr {s:Shared}(hK:X.K=F.K)(I:Inv X am σ H s)(z:Same Z H)(hu:A.units+10 < cLine){d e:D}{v u:V}{x y:Value}(h:ltL d e=some c)(r:Rep F.K F.C Z d v)(r':Rep F.K F.C Z e u)(k:RelV v x)(k':RelV u y){Q:Bool->MT}(q:Q c s) :
  wpAny (model X.prog X.w) A (keyLt' oneType' x y) Q E s:=by
 obtain⟨xs,ys,rfl,rfl,g,g',h⟩:=xc h;rw[Rep]at r r';obtain⟨a,vs,rfl,h1,h2⟩:=r;obtain⟨b,us,rfl,k1,k2⟩:=r';cases k;cases k';obtain⟨its,rv,p,_⟩:=I.list (by rw[hK];exact z.seq h1);obtain⟨Ms,rv2,p2,_⟩:=I.list (by rw[hK];exact z.seq k1);have un:A.in1.units+5 < cLine:=by show A.units+1+5 < cLine;omega
 exact yP p.isList p2.isList (by omega) (qY (λd e v u x y g1 g2 h h' rx ry=>(eqB hK I z 5 A.in1 d e v u x y g1 g2 h h' rx ry un).1) (λd e v u x y c hc g1 g2 h h' rx ry=>ltB hK I z 5 A.in1 d e v u x y c hc g1 g2 h h' rx ry un) h g g' h2 k2 rv rv2) q
def vB (hK:X.K=F.K)(hr:Room k X.A):NH X (.builtin "sorted") (λxs H Q=>∃ (a:Addr) (us:List V) (ds:List D) (Z:Hp),xs=[.ref a]/\Same Z H/\SqL X.K H a us/\Reps F.K F.C Z ds us/\ds.length < 64/\(ds.all λd=>ds.all λe=>(ltL d e).isSome)=true /\
  ∀ p us',H p=none->(∀ (i j:Nat),(OL ds.length (lOf ds))[i]?=some j->us'[i]?=us[j]?)->us'.length=us.length->Q (.ref p) (upd H p (.lst us'))):=by
 intro am s σ H xs us Q I r h;obtain⟨a,vs,ds,Z,rfl,z,hq,rp,h64,hal,q⟩:=h;obtain⟨u,rfl,ru⟩:=N1 r;cases ru;obtain⟨its,rv,pl,hz⟩:=I.list hq;have hL:=rv.length;have hR:=rp.length;have hi:its.length=ds.length:=by omega
 have hun:=hr.un;have some_of:∀ i j,i < ds.length->j < ds.length->ltL (ds.getD i .non) (ds.getD j .non)=some (lOf ds i j):=λi j h1 h2=>by
  have e:=HS.mp (HS.mp hal ds[i] (J9 h1)) ds[j] (J9 h2);rw[show ds[i]=ds.getD i .non by simp[List.getD,h1],show ds[j]=ds.getD j .non by simp[List.getD,h2]]at e;obtain⟨c,hc⟩:=Kh.mp e;unfold lOf;rw[hc];rfl
 refine jP (OL ds.length (lOf ds)) I rv pl (by omega) (by rw[hi];exact iO _ _) (λh2=>?_) (λh2 h' kp=>?_) q
 ·rw[hi]at h2 ⊢;unfold OL;rw[if_pos h2]
 ·have I':Inv X am σ H { s with heap:=h' }:=I.kept kp;rw[<- hi];refine tN (κ:=oneType') (s:={ s with heap:=h' }) h2 (by omega) (λE Q q=>?_) (λi j C h1 h2 hc=>?_)
  ·refine PySem.W.kas_kind (T:=.type "list") h2 (λv hv=>?_) rfl rfl q;obtain⟨i,hil,rfl⟩:=J8.mp hv;have e0:vs[i]?=some vs[i]:=HU (by omega);obtain⟨u',e1,r1⟩:=rv.get e0;rw[HU hil]at e1;cases e1;obtain⟨d,e2,r2⟩:=rp.get' e0;have hid:i < ds.length:=by omega
   have sm:=some_of i i hid hid;rw[show ds.getD i .non=d by rw[IY,e2];rfl]at sm;obtain⟨xs,_,rfl,_,_⟩:=xc sm;rw[Rep]at r2;obtain⟨a2,us2,ev,h1,_⟩:=r2;rw[ev]at r1;generalize its[i]=x at r1 ⊢;cases r1;obtain⟨Ms,_,p2,_⟩:=I'.list (by rw[hK];exact z.seq h1);obtain⟨o,ho,hc,_⟩:=p2.isList;rw[<- hc];exact(PySem.W.Looks.ld ho).andThen .now
  ·have h1':i < ds.length:=by omega
   have h2':j < ds.length:=by omega
   obtain⟨v1,e1,r1⟩:=rp.get (show ds[i]?=some (ds.getD i .non) by simp[List.getD,h1']);obtain⟨v2,e2,r2⟩:=rp.get (show ds[j]?=some (ds.getD j .non) by simp[List.getD,h2']);obtain⟨x1,f1,k1⟩:=rv.get e1;obtain⟨x2,f2,k2⟩:=rv.get e2;rw[show its.getD i .none=x1 by rw[IY,f1];rfl,show its.getD j .none=x2 by rw[IY,f2];rfl];exact Dr hK I' z (by show X.A.units+1+1+10 < cLine;omega) (some_of i j h1' h2') r1 r2 k1 k2 hc
def nB (bx:BX X F k)(hg:Gl X "sorted")(hm:X.mg "sorted"=none)(ha:FA X F [e] gs)(he:autoParam (Id X e []) YW)(hpl:autoParam (IO X pos []) YW) :
  FE X F (.Call (.Name "sorted" p) [e] [] pos) (ND OP gs) :=
 (eD (vB bx.K bx.room) hg hm boot_sorted ha (he:=he) (hpl:=hpl)).weak λσ H Q ⟨Z,S,ok,w⟩=>by
  refine a8 ok w λds vs H1 Z1 ok1 x1 rs w1=>?_
  unfold OP at w1;split at w1
  ·rename_i xs;split at w1
   ·rename_i hl;obtain⟨v,rfl,h⟩:=a9 rs;rw[Rep]at h;obtain⟨a,us,rfl,h1,h2⟩:=h;have Mq:=h2.length;refine⟨a,us,xs,Z1,rfl,ok1.sub,by rw[bx.K];exact ok1.sub.seq h1,h2,hl.1,hl.2,λc us' hc g1 g2=>?_⟩;have pm:=iO xs.length (lOf xs);refine w1 _ _ (Ex.alloc ok1.sub hc) _ ?_;rw[Rep];exact⟨c,us',rfl,SqL.of az,(kY h2 _ _ (λj hj=>by have:=HG.mp (pm.subset hj);omega) g1 (by rw[g2,pm.length_eq,Ig];omega)).mono (aN (ok1.sub.free hc))⟩
   ·exact w1.elim
  ·exact w1.elim
variable {τ W:Type}{S:SS}{tg:Expr}{body:Nc}{inj:τ->W->SS}{git:ML}
def Be (i j k l:Nat){r:R (List D)}{s0:τ}{B:τ->W->D->D->D->D->SS}{step:τ->D->D->D->D->L τ}(w0:W)(hp:PassesOwn (model X.prog X.w) X.A X.env X.xe)(hc:X.calm=true)(hi:FI X F tg iter git)(hr:git S=r)(hg:FG X F tg (gTup [i,j,k,l]))
  (hS:S=inj s0 w0) (hB:∀ s w x y z u,((((inj s w).set i (some (.val x))).set j (some (.val y))).set k (some (.val z))).set l (some (.val u))=B s w x y z u) (hb:∀ s w x y z u,FL X F (B s w x y z u) body (JX inj) (step s x y z u))
  (hs:autoParam (∀ x,foldedSetIterable iter X.env x=pure x) YZ):FL1 X F S (.For tg iter body [] pos) (JX inj) (lB r λxs=>Nl (λs p=>P9 p λx y z u=>step s x y z u) xs s0):=by
 have two:∀ (p:D) (S0:SS),(∃ x y z u,p=.tup [x,y,z,u]/\gTup [i,j,k,l] p S0=.ok ((((S0.set i (some (.val x))).set j (some (.val y))).set k (some (.val z))).set l (some (.val u))))\/(gTup [i,j,k,l] p S0=.stuck/\∀ (q:D->D->D->D->L τ),P9 p q=.stuck):=λp S0=>by
  cases p with
  | tup ds =>
   match ds with
   | []=>exact .inr ⟨rfl,λ_=>rfl⟩
   | [_]=>exact .inr ⟨rfl,λ_=>rfl⟩
   | [_,_]=>exact .inr ⟨rfl,λ_=>rfl⟩
   | [_,_,_]=>exact .inr ⟨rfl,λ_=>rfl⟩
   | [x,y,z,u]=>exact .inl ⟨x,y,z,u,rfl,rfl⟩
   | _::_::_::_::_::_=>exact .inr ⟨by unfold gTup;simp,λ_=>rfl⟩
  | _=>exact .inr ⟨rfl,λ_=>rfl⟩
 refine nr w0 hp hc hi hr hg (λs w p S1 e=>?_) (λs w p k e=>?_) (λs w p e=>?_) hS hs
 ·rcases two p (inj s w) with ⟨x,y,z,u,rfl,q⟩ | ⟨q,_⟩
  ·rw[q]at e;cases e;rw[hB];exact hb s w x y z u
  ·rw[q]at e;cases e
 ·rcases two p (inj s w) with ⟨x,y,z,u,rfl,q⟩ | ⟨q,_⟩<;>rw[q]at e<;>cases e
 ·rcases two p (inj s w) with ⟨x,y,z,u,rfl,q⟩ | ⟨_,q⟩
  ·rw[q]at e;cases e
  ·exact q _
def Ds {x y z u:Str}{p1 p2 p3 p4:Pos}{kk:Nat}(i j k l:Nat)(hc:X.calm=true)(hN:X.N.Nodup)(hi:autoParam (X.N[i]?=some x) YW)(hj:autoParam (X.N[j]?=some y) YW)(hk:autoParam (X.N[k]?=some z) YW)(hl:autoParam (X.N[l]?=some u) YW)
  (hx:autoParam (Loc X.env.scope x) Yy) (hy:autoParam (Loc X.env.scope y) Yy) (hz:autoParam (Loc X.env.scope z) Yy) (hu:autoParam (Loc X.env.scope u) Yy)
  (hfx:autoParam (MC X x) Yw) (hfy:autoParam (MC X y) Yw) (hfz:autoParam (MC X z) Yw) (hfu:autoParam (MC X u) Yw)
  (hK:autoParam (X.K=F.K) ZJ) (hn:autoParam ((assignEach [.Name x p1,.Name y p2,.Name z p3,.Name u p4] X.env).length=4) YW) (M4:autoParam ((assignEach [.Name x p1,.Name y p2,.Name z p3,.Name u p4] X.env).findIdx? (·.1)=none) YW):FG X F (.Tuple [.Name x p1,.Name y p2,.Name z p3,.Name u p4] kk pos) (gTup [i,j,k,l]) :=
 sV [i,j,k,l] hc (dh (dJ (i:=i) hN hi hx hfx) (dh (dJ (i:=j) hN hj hy hfy) (dh (dJ (i:=k) hN hk hz hfz) (dh (dJ (i:=l) hN hl hu hfu) qD)))) hn M4 hK
end
end FF
namespace Lw
open PySem FF
noncomputable def esL:List Nat:=[1,2,6]
namespace F
noncomputable abbrev af:Nat:=20
noncomputable abbrev ae:Nat:=21
noncomputable abbrev aJ:Nat:=22
noncomputable abbrev aC:Nat:=23
noncomputable abbrev aB:Nat:=24
noncomputable abbrev al:Nat:=25
noncomputable abbrev ax:Nat:=26
noncomputable abbrev aE:Nat:=43
noncomputable abbrev ar:Nat:=44
noncomputable abbrev aO:Nat:=27
noncomputable abbrev ab:Nat:=28
noncomputable abbrev aw:Nat:=65
noncomputable abbrev aD:Nat:=45
noncomputable abbrev aP:Nat:=46
noncomputable abbrev aV:Nat:=47
noncomputable abbrev aH:Nat:=49
noncomputable abbrev ao:Nat:=50
noncomputable abbrev a9:Nat:=51
noncomputable abbrev a4:Nat:=52
noncomputable abbrev bc:Nat:=53
noncomputable abbrev a5:Nat:=29
noncomputable abbrev ay:Nat:=188
noncomputable abbrev aX:Nat:=189
noncomputable abbrev aQ:Nat:=190
noncomputable abbrev aR:Nat:=191
noncomputable abbrev aF:Nat:=192
noncomputable abbrev aS:Nat:=193
noncomputable abbrev au:Nat:=194
noncomputable abbrev bl:Nat:=195
noncomputable abbrev aZ:Nat:=196
noncomputable abbrev a8:Nat:=197
noncomputable abbrev bh:Nat:=203
noncomputable abbrev aK:Nat:=204
noncomputable abbrev aT:Nat:=205
noncomputable abbrev an:Nat:=69
noncomputable abbrev bf:Nat:=70
noncomputable abbrev bd:Nat:=71
noncomputable abbrev a6:Nat:=209
noncomputable abbrev aU:Nat:=210
noncomputable abbrev a7:Nat:=211
noncomputable abbrev av:Nat:=212
noncomputable abbrev bk:Nat:=213
noncomputable abbrev ag:Nat:=214
noncomputable abbrev a3:Nat:=215
noncomputable abbrev ba:Nat:=216
noncomputable abbrev ak:Nat:=217
noncomputable abbrev ad:Nat:=218
noncomputable abbrev aY:Nat:=219
noncomputable abbrev ai:Nat:=220
noncomputable abbrev aL:Nat:=221
noncomputable abbrev aW:Nat:=222
noncomputable abbrev a0:Nat:=223
noncomputable abbrev bi:Nat:=30
noncomputable abbrev ac:Nat:=31
noncomputable abbrev ap:Nat:=32
noncomputable abbrev az:Nat:=54
noncomputable abbrev bb:Nat:=55
noncomputable abbrev a2:Nat:=56
noncomputable abbrev bj:Nat:=57
noncomputable abbrev aG:Nat:=34
noncomputable abbrev bg:Nat:=35
noncomputable abbrev be:Nat:=36
noncomputable abbrev ah:Nat:=37
noncomputable abbrev aj:Nat:=39
noncomputable abbrev aq:Nat:=38
noncomputable abbrev aA:Nat:=40
noncomputable abbrev aa:Nat:=224
noncomputable abbrev a1:Nat:=225
noncomputable abbrev aM:Nat:=226
noncomputable abbrev aI:Nat:=227
noncomputable abbrev aN:Nat:=228
end F
noncomputable def fvL:List Nat:=[21,212,217,218,221]
def jg (t:MF)(KK:D):L Unit :=
 lB (N9 (Nn Pu KK) (Ry (Nn OX KK))) .rt
def gm (t:MF)(KK:D):L Unit :=
 lB (N9 (t F.af [KK]) (rCh dLe dLe (.int 0) KK (.ok (.int 9)))) .rt
def iP (t:MF)(KK:D):L Unit :=
 lB (N9 (t F.af [KK]) (rCh dLe dLe (.int 0) KK (.ok (.int 3)))) .rt
def fP (t:MF)(size_:D)(KK:D)(is_end:D):L Unit :=
 lS (lB (σ:=Unit) (NE (asB (Nn NT KK))) λb=>if b=true then lB (onF fvL is_end λi=>t i [KK]) .rt else .nx ()) λ_ =>
 lS (lB (σ:=Unit) (rOr (asB (dEq size_ (.int 0))) (asB ((Nq [KK]).bind λx=>dNf x (.int 4)))) λb1=>if b1=true then .rt (.bl false) else .nx ()) λ_ =>
 lB (((sq KK).bind λxs=>Nj (λpart=>(Ob size_ (.int 1)).bind λx1=>t F.aC [x1,part,is_end]) xs).bind λx2=>O6 [x2]) .rt
def b8 (t:MF)(KK:D)(is_end:D):L Unit :=
 lS (lB (σ:=Unit) (rOr (NE (asB (Nn NT KK))) (asB ((Nq [KK]).bind λx=>dNf x (.int 2)))) λb=>if b=true then .rt (.bl false) else .nx ()) λ_ =>
 lB (N9 ((dIx KK (.int 0)).bind λx3=>t F.aJ [x3]) ((dIx KK (.int 0)).bind λx1=>(dIx KK (.int 1)).bind λx2=>t F.aC [x1,x2,is_end])) .rt
def cF (t:MF)(four:D):L Unit :=
 lB (dIx four (.int 0)) λfirst =>
 lS (lB (σ:=Unit) (OQ (NE (asB (Nn NT first))) (asB (dEq four (.tup [first,first,first,first])))) λb=>if b=true then .rt first else .nx ()) λ_ =>
 .rt four
def dn (t:MF)(Lx:D):L Unit :=
 lS (lB (σ:=Unit) (NE (asB (Nn NT Lx))) λb=>if b=true then .rt Lx else .nx ()) λ_ =>
 lB ((((sq Lx).bind λxs=>Nj (λpart=>t F.ax [part]) xs).bind λx=>Nu [x]).bind λx1=>t F.al [x1]) .rt
def eL (t:MF)(Lx:D)(side:D)(x:D)(y:D):L Unit :=
 lS (lB (σ:=Unit) (NE (asB (Nn NT Lx))) λb=>if b=true then .rt Lx else .nx ()) λ_ =>
 lB (OD side (.int 2)) λhalf =>
 lB (((OD y half).bind λx1=>Nw (.int 2) x1).bind λx2=>(OD x half).bind λx3=>Nf x2 x3) λnumber =>
 lB ((dIx Lx number).bind λx4=>(OJ x half).bind λx5=>(OJ y half).bind λx6=>t F.aE [x4,half,x5,x6]) .rt
def fQ (t:MF)(rows:D)(left:D)(top:D)(side:D):L Unit :=
 lS (lB (σ:=Unit) (asB (dEq side (.int 1))) λb=>if b=true then lB ((dIx rows top).bind λx=>dIx x left) .rt else .nx ()) λ_ =>
 lB (OD side (.int 2)) λhalf =>
 lB (((t F.ar [rows,left,top,half]).bind λx1=>((Nf left half).bind λx2=>t F.ar [rows,x2,top,half]).bind λx3=>((Nf top half).bind λx4=>t F.ar [rows,left,x4,half]).bind λx5=>((Nf left half).bind λx6=>(Nf top half).bind λx7=>t F.ar [rows,x6,x7,half]).bind λx8=>.ok (.tup [x1,x3,x5,x8])).bind λx9=>t F.al [x9]) .rt
def dP (t:MF)(KK:D):L Unit :=
 lB (t F.aB [KK,(.fn F.ae)]) .rt
def b9 (t:MF)(KK:D):L Unit :=
 lB (NE (asB (t F.aO [KK]))) λb=>if b=true then .er 1 else .nx ()
def cZ (t:MF)(KK:D):L Unit :=
 lB (NE (asB (t F.ae [KK]))) λb=>if b=true then .er 1 else .nx ()
def iQ (t:MF)(Hm:D):L Unit :=
 lB ((dIx Hm (.int 0)).bind λx=>dIx (NF [1,2,4,8]) x) .rt
def gn (t:MF)(side:D)(KK:D):L Unit :=
 lB (N9 (t F.af [KK]) (rCh dLe dLt (.int 0) KK (.ok side))) .rt
def dQ (t:MF)(Hm:D)(x:D)(y:D):L Unit :=
 lB (t F.aD [Hm]) λside =>
 lB (rOr (NE (asB (t F.aP [side,x]))) (NE (asB (t F.aP [side,y])))) λb=>if b=true then .er 2 else .nx ()
def fi (t:MF)(Hm:D)(y:D):L Unit :=
 lB (t F.aD [Hm]) λside =>
 lB (((Ny [side]).bind λxs=>Nj (λx=>(dIx Hm (.int 1)).bind λx1=>t F.aE [x1,side,x,y]) xs).bind λx2=>Nu [x2]) .rt
def cG (t:MF)(Hm:D):L Unit :=
 lB (t F.ab [Hm]) λ_ =>
 lB ((((t F.aD [Hm]).bind λx=>Ny [x]).bind λxs=>Nj (λy=>t F.aH [Hm,y]) xs).bind λx1=>Nu [x1]) .rt
def jQ (t:MF)(KK:D)(side:D):L Unit :=
 lS (lB (σ:=Unit) (rOr (NE (asB (Nn NT KK))) (asB ((Nq [KK]).bind λx=>dNf x side))) λb=>if b=true then .rt (.bl false) else .nx ()) λ_ =>
 lB (((sq KK).bind λxs=>Nj (λworth=>t F.ae [worth]) xs).bind λx1=>O6 [x1]) .rt
def gp (t:MF)(KK:D):L Unit :=
 lS (lB (σ:=Unit) (rOr (NE (asB (Nn NT KK))) (asB ((Nq [KK]).bind λx=>NM x (NF [1,2,4,8])))) λb=>if b=true then .rt (.bl false) else .nx ()) λ_ =>
 lB (((sq KK).bind λxs=>Nj (λrow=>(Nq [KK]).bind λx1=>t F.a9 [row,x1]) xs).bind λx2=>O6 [x2]) .rt
def iR (t:MF)(rows:D):L Unit :=
 lS (lB (σ:=Unit) (NE (asB (t F.a4 [rows]))) λb=>if b=true then .er 1 else .nx ()) λ_ =>
 lB (Nq [rows]) λside =>
 lB ((onT (NF [1,2,4,8]) λls=>NG ls [side]).bind λx=>(t F.ar [rows,.int 0,.int 0,side]).bind λx1=>.ok (.tup [x,x1])) .rt
def nC (t:MF)(Hm:D):L Unit :=
 lB (t F.ab [Hm]) λ_ =>
 lB ((dIx Hm (.int 0)).bind λx=>((dIx Hm (.int 1)).bind λx1=>t F.ax [x1]).bind λx2=>.ok (.tup [x,x2])) .rt
def gZ (t:MF)(left:D)(top:D)(half:D)(M8:List D)(number:D)(part:D):L (List D) :=
 lB (((((OJ number (.int 2)).bind λx=>Nw x half).bind λx1=>Nf left x1).bind λx2=>(((OD number (.int 2)).bind λx3=>Nw x3 half).bind λx4=>Nf top x4).bind λx5=>t F.ay [part,x2,x5,half]).bind λx6=>N6 M8 x6) λtold1 =>
 .nx told1
def dq (t:MF)(Lx:D)(left:D)(top:D)(side:D):L Unit :=
 lS (lB (σ:=Unit) (NE (asB (Nn NT Lx))) λb=>if b=true then .rt (.lst [(.tup [left,top,side,Lx])]) else .nx ()) λ_ =>
 lB (OD side (.int 2)) λhalf =>
 lS (lB (OZ Lx) λxs=>Nl (τ:=List D) (λs p=>QE p λx0 x1=>gZ t left top half s x0 x1) xs []) λtold1 =>
 .rt (.lst told1)
def g5 (t:MF)(Hm:D):L Unit :=
 lB (((t F.a5 [Hm]).bind λx=>dIx x (.int 1)).bind λx1=>(t F.aD [Hm]).bind λx2=>t F.ay [x1,.int 0,.int 0,x2]) .rt
def gq (t:MF)(KK:D)(side:D):L Unit :=
 lB (N9 (dGe KK (.int 0)) ((OJ KK side).bind λx=>dEq x (.int 0))) .rt
def cr (t:MF)(KK:D):L Unit :=
 lS (lB (σ:=Unit) (rOr (NE (asB (Nn NT KK))) (asB ((Nq [KK]).bind λx=>dNf x (.int 4)))) λb=>if b=true then .rt (.bl false) else .nx ()) λ_ =>
 lS (lB (σ:=Unit) (NE (asB (((sq KK).bind λxs=>Nj (λnumber=>t F.af [number]) xs).bind λx1=>O6 [x1]))) λb1=>if b1=true then .rt (.bl false) else .nx ()) λ_ =>
 lB (dIx KK (.int 2)) λside =>
 lB (N9 (NV side (NF [1,2,4,8])) (N9 ((dIx KK (.int 0)).bind λx4=>t F.aQ [x4,side]) (N9 ((dIx KK (.int 1)).bind λx3=>t F.aQ [x3,side]) ((dIx KK (.int 3)).bind λx2=>t F.ae [x2])))) .rt
def bL (t:MF)(side:D)(KK:D):L (Unit) :=
 lS (lB (σ:=Unit) (NE (asB (t F.aR [KK]))) λb=>if b=true then .er 6 else .nx ()) λ_ =>
 lB (rOr (asB (((dIx KK (.int 0)).bind λx3=>(dIx KK (.int 2)).bind λx4=>Nf x3 x4).bind λx5=>dGt x5 side)) (asB (((dIx KK (.int 1)).bind λx=>(dIx KK (.int 2)).bind λx1=>Nf x x1).bind λx2=>dGt x2 side))) λb1=>if b1=true then .er 6 else .nx ()
def cH (t:MF)(size_:D)(Mw:D):L Unit :=
 lS (lB (σ:=Unit) (rOr (NE (asB (t F.aJ [size_]))) (NE (asB (Nn Qi Mw)))) λb=>if b=true then .er 6 else .nx ()) λ_ =>
 lB (dIx (NF [1,2,4,8]) size_) λside =>
 lS (lB (sq Mw) λxs=>Nl (τ:=Unit) (λ_ x=>bL t side x) xs ()) λ_ =>
 .nx ()
def c7 (t:MF)(block:D)(spots:List D)(y:D):L (List D) :=
 lB ((((dIx block (.int 0)).bind λx=>((dIx block (.int 0)).bind λx1=>(dIx block (.int 2)).bind λx2=>Nf x1 x2).bind λx3=>OC [x,x3]).bind λxs=>Nj (λx4=>.ok (.tup [x4,y])) xs).bind λx5=>N6 spots x5) λspots1 =>
 .nx spots1
def gr (t:MF)(block:D):L Unit :=
 lS (lB ((dIx block (.int 1)).bind λx=>((dIx block (.int 1)).bind λx1=>(dIx block (.int 2)).bind λx2=>Nf x1 x2).bind λx3=>OC [x,x3]) λxs1=>Nl (τ:=List D) (λs x=>c7 t block s x) xs1 []) λspots1 =>
 .rt (.lst spots1)
def bo (t:MF)(block:D)(worths:List (List Int×D))(spot:D):L (List (List Int×D)) :=
 lS (lB (σ:=Unit) (asB (QC worths spot)) λb=>if b=true then .er 6 else .nx ()) λ_ =>
 lB ((dIx block (.int 3)).bind λx=>P7 worths spot x) λworths1=>.nx worths1
def bp (t:MF)(worths:List (List Int×D))(block:D):L (List (List Int×D)) :=
 lS (lB ((t F.aS [block]).bind λx=>sq x) λxs=>Nl (τ:=List (List Int×D)) (λs x=>bo t block s x) xs worths) λworths2 =>
 .nx worths2
def bU (t:MF)(squares:D):L Unit :=
 lS (lB (sq squares) λxs1=>Nl (τ:=List (List Int×D)) (λs x=>bp t s x) xs1 []) λworths2 =>
 .rt (OT worths2)
def jR (t:MF)(worths:D)(side:D)(y:D):L Unit :=
 lB (((Ny [side]).bind λxs=>Nj (λx=>dTx worths (.tup [x,y])) xs).bind λx1=>Nu [x1]) .rt
def fj (t:MF)(size_:D)(squares:D):L Unit :=
 lB (t F.aF [size_,squares]) λ_ =>
 lB (t F.au [squares]) λworths =>
 lB (dIx (NF [1,2,4,8]) size_) λside =>
 lS (lB (σ:=Unit) (asB ((PF [worths]).bind λx=>(Nw side side).bind λx1=>dNf x x1)) λb=>if b=true then .er 6 else .nx ()) λ_ =>
 lB ((((Ny [side]).bind λxs=>Nj (λy=>t F.bl [worths,side,y]) xs).bind λx2=>Nu [x2]).bind λx3=>t F.bc [x3]) .rt
def gu (t:MF)(block:D)(x:D)(y:D):L Unit :=
 lB (N9 ((dIx block (.int 0)).bind λx4=>rCh dLe dLt x4 x ((dIx block (.int 0)).bind λx5=>(dIx block (.int 2)).bind λx6=>Nf x5 x6)) ((dIx block (.int 1)).bind λx1=>rCh dLe dLt x1 y ((dIx block (.int 1)).bind λx2=>(dIx block (.int 2)).bind λx3=>Nf x2 x3))) .rt
def nD (t:MF)(one:D)(LT:D)(along:D):L Unit :=
 lB (vOr (((dIx one along).bind λx4=>(dIx one (.int 2)).bind λx5=>Nf x4 x5).bind λx6=>(dIx LT along).bind λx7=>dEq x6 x7) (((dIx LT along).bind λx=>(dIx LT (.int 2)).bind λx1=>Nf x x1).bind λx2=>(dIx one along).bind λx3=>dEq x2 x3)) .rt
def fR (t:MF)(one:D)(LT:D)(along:D):L Unit :=
 lB (N9 ((dIx one along).bind λx4=>((dIx LT along).bind λx5=>(dIx LT (.int 2)).bind λx6=>Nf x5 x6).bind λx7=>dLt x4 x7) ((dIx LT along).bind λx=>((dIx one along).bind λx1=>(dIx one (.int 2)).bind λx2=>Nf x1 x2).bind λx3=>dLt x x3)) .rt
def dR (t:MF)(one:D)(LT:D):L Unit :=
 lB (vOr (N9 (t F.bh [one,LT,.int 0]) (t F.aK [one,LT,.int 1])) (N9 (t F.bh [one,LT,.int 1]) (t F.aK [one,LT,.int 0]))) .rt
def cI (t:MF)(Lx:D)(My:D):L Unit :=
 lS (lB (σ:=Unit) (NE (asB (Nn NT Lx))) λb=>if b=true then .rt Lx else .nx ()) λ_ =>
 lB (((sq My).bind λxs=>Nj (λnumber=>(dIx Lx number).bind λx=>t F.an [x,My]) xs).bind λx1=>Nu [x1]) .rt
def mD (t:MF)(Hm:D)(My:D):L Unit :=
 lB (t F.a5 [Hm]) λshown =>
 lB ((dIx shown (.int 0)).bind λx=>((dIx shown (.int 1)).bind λx1=>t F.an [x1,My]).bind λx2=>.ok (.tup [x,x2])) .rt
def iS (t:MF)(Hm:D):L Unit :=
 lB (t F.bf [Hm,(NF [0,2,1,3])]) .rt
def gw (t:MF)(block:D)(area:D):L Unit :=
 lB (((sq area).bind λxs=>Nj (λLT=>N9 ((dIx block (.int 3)).bind λx=>(dIx LT (.int 3)).bind λx1=>dEq x x1) (t F.aT [block,LT])) xs).bind λx2=>P0 [x2]) .rt
def cc (t:MF)(block:D)(area:List D)(apart:List D)(LT:D):L (List D×List D) :=
 lB (asB (t F.a6 [block,LT])) λb=>if b=true then lB (N6 area LT) λarea1 =>
 .nx (area1,apart) else lB (O5 apart LT) λapart1 =>
 .nx (area,apart1)
def dS (t:MF)(block:D)(found:D):L Unit :=
 lS (lB (sq found) λxs=>Nl (τ:=List D×List D) (λs x=>cc t block s.1 s.2 x) xs ([block],[])) λs1 =>
 lB (Nf (.lst s1.2) (.lst [(.lst s1.1)])) .rt
def gz (t:MF)(area:D)(squares:D):L Unit :=
 lB ((sq squares).bind λxs=>OK (λblock=>(asB (NV block area))) (λblock=>.ok block) xs) .rt
def eM (t:MF)(found:D)(block:D):L (D) :=
 lB (t F.aU [block,found]) λfound1 =>
 .nx found1
def jS (t:MF)(Hm:D):L Unit :=
 lB (t F.aX [Hm]) λsquares =>
 lS (lB (sq squares) λxs=>Nl (τ:=D) (λs x=>eM t s x) xs (.lst [])) λfound1 =>
 lB ((sq found1).bind λxs1=>Nj (λarea=>t F.a7 [area,squares]) xs1) .rt
def mE (t:MF)(x:D)(y:D)(area:D):L Unit :=
 lB (((sq area).bind λxs=>Nj (λblock=>t F.a8 [block,x,y]) xs).bind λx1=>P0 [x1]) .rt
def br (t:MF)(Hm:D)(x:D)(y:D):L Unit :=
 lB (t F.ab [Hm]) λ_ =>
 lB (t F.aV [Hm,x,y]) λ_ =>
 lB ((((t F.av [Hm]).bind λx1=>sq x1).bind λxs=>OK (λarea=>(asB (t F.bk [x,y,area]))) (λarea=>.ok area) xs).bind λx2=>dIx x2 (.int 0)) .rt
def jT (t:MF)(spots:List D)(block:D):L (List D) :=
 lB ((t F.aS [block]).bind λx=>N6 spots x) λspots1 =>
 .nx spots1
def d8 (t:MF)(Hm:D)(x:D)(y:D):L Unit :=
 lS (lB ((t F.ag [Hm,x,y]).bind λx1=>sq x1) λxs=>Nl (τ:=List D) (λs x=>jT t s x) xs []) λspots1 =>
 lB (Ol [(.lst spots1)]) .rt
def dU (t:MF)(area:D):L Unit :=
 lB (((sq area).bind λxs=>Nj (λblock=>(dIx block (.int 2)).bind λx=>(dIx block (.int 2)).bind λx1=>Nw x x1) xs).bind λx2=>Pk [x2]) .rt
def cJ (t:MF)(Hm:D):L Unit :=
 lB ((((t F.av [Hm]).bind λx=>sq x).bind λxs=>Nj (λarea=>t F.ba [area]) xs).bind λx1=>Om [x1]) .rt
def bu (t:MF)(Hm:D):L Unit :=
 lB ((t F.av [Hm]).bind λx=>Nq [x]) .rt
def fk (t:MF)(row:D):L Unit :=
 lB ((((Nq [row]).bind λx=>OC [.int 1,x]).bind λxs=>OK (λplace=>(asB ((dIx row place).bind λx1=>((Ob place (.int 1)).bind λx2=>dIx row x2).bind λx3=>dNf x1 x3))) (λplace=>.ok (.int 1)) xs).bind λx4=>Pk [x4]) .rt
def bE (t:MF)(Hm:D):L Unit :=
 lB ((((t F.ao [Hm]).bind λx=>sq x).bind λxs=>Nj (λrow=>t F.aY [row]) xs).bind λx1=>Pk [x1]) .rt
def g6 (t:MF)(Hm:D):L Unit :=
 lB ((t F.ai [Hm]).bind λx=>((t F.bd [Hm]).bind λx1=>t F.ai [x1]).bind λx2=>Nf x x2) .rt
def dW (t:MF)(block:D)(worth:D):L Unit :=
 lB ((dIx block (.int 0)).bind λx=>(dIx block (.int 1)).bind λx1=>(dIx block (.int 2)).bind λx2=>.ok (.tup [x,x1,x2,worth])) .rt
def eN (t:MF)(Hm:D)(x:D)(y:D)(worth:D):L Unit :=
 lB (t F.ag [Hm,x,y]) λarea =>
 lB (t F.aw [worth]) λ_ =>
 lB (((t F.aX [Hm]).bind λx1=>sq x1).bind λxs=>OK (λblock=>(asB (NM block area))) (λblock=>.ok block) xs) λrest_ =>
 lB ((dIx Hm (.int 0)).bind λx2=>(((sq area).bind λxs1=>Nj (λblock1=>t F.aW [block1,worth]) xs1).bind λx3=>Nf rest_ x3).bind λx4=>t F.aZ [x2,x4]) .rt
def jU (t:MF)(F9:D)(Gs:D):L Unit :=
 lS (lB (σ:=Unit) (asB ((Nq [F9]).bind λx=>dLt Gs x)) λb=>if b=true then lB (dIx F9 Gs) .rt else .nx ()) λ_ =>
 lS (lB (σ:=Unit) (asB (dEq F9 (.lst []))) λb1=>if b1=true then .rt (.int 0) else .nx ()) λ_ =>
 lB (((((Nq [F9]).bind λx1=>OJ Gs x1).bind λx2=>dIx F9 x2).bind λx3=>Nw x3 (.int 31)).bind λx4=>Nf x4 Gs) .rt
def jV (t:MF)(F9:D)(Gs:D)(G3:D):L Unit :=
 lB ((((t F.bi [F9,Gs]).bind λx=>((Nf Gs (.int 1)).bind λx1=>Nw (.int 6151) x1).bind λx2=>Nf x x2).bind λx3=>Nw x3 (.int 40692)).bind λx4=>OJ x4 (.int 2147483399)) λGK =>
 lB ((((Nw GK GK).bind λx5=>(OD GK (.int 31)).bind λx6=>Nf x5 x6).bind λx7=>OJ x7 (.int 2147483629)).bind λx8=>OJ x8 G3) .rt
def g7 (t:MF)(F9:D)(Gu:D)(Gb:D):L Unit :=
 lB (t F.ac [F9,Gu,.int 6]) λGR =>
 lS (lB (σ:=Unit) (rOr (asB (dEq Gb (.int 0))) (asB (dLt GR (.int 2)))) λb=>if b=true then lB ((((Nf Gu (.int 1)).bind λx=>t F.ac [F9,x,.int 10]).bind λx1=>.ok (.lst [.int 0,.int 1,.int 1,.int 2,.int 9,x1])).bind λx2=>((Nf Gu (.int 2)).bind λx3=>t F.ac [F9,x3,.int 6]).bind λx4=>dIx x2 x4) .rt else .nx ()) λ_ =>
 lS (lB (σ:=Unit) (asB (dEq GR (.int 2))) λb1=>if b1=true then lB ((((Nf Gu (.int 3)).bind λx5=>(Ob Gb (.int 1)).bind λx6=>t F.ap [F9,x5,x6]).bind λx7=>.ok (.tup [x7])).bind λx8=>Nw x8 (.int 4)) .rt else .nx ()) λ_ =>
 lB (((Ny [.int 4]).bind λxs=>Nj (λGs=>(((Nw (.int 5) Gu).bind λx9=>Nf x9 (.int 7)).bind λx10=>(Nw (.int 11) Gs).bind λx11=>Nf x10 x11).bind λx12=>(Ob Gb (.int 1)).bind λx13=>t F.ap [F9,x12,x13]) xs).bind λx14=>Nu [x14]) .rt
def eO (t:MF)(Go:D)(GE:List D)(G8:D):L (List D) :=
 lB (((((dIx Go G8).bind λx=>Nq [x]).bind λx1=>Ny [x1]).bind λxs=>Nj (λGs=>((dIx Go G8).bind λx2=>dIx x2 Gs).bind λx3=>(((Nf G8 (.int 1)).bind λx4=>dIx Go x4).bind λx5=>dIx x5 Gs).bind λx6=>Nf x3 x6) xs).bind λx7=>N6 GE x7) λGA =>
 .nx GA
def dr (t:MF)(Gb:D)(Gn:D):L Unit :=
 lS (lB (σ:=Unit) (asB (dEq Gb (.int 0))) λb=>if b=true then .rt (.lst [(.lst [Gn])]) else .nx ()) λ_ =>
 lB (rIf (asB (Nn NT Gn)) (.ok Gn) (Nw (.tup [Gn]) (.int 4))) λGw =>
 lB ((sq Gw).bind λxs=>Nj (λGC=>(Ob Gb (.int 1)).bind λx=>t F.az [x,GC]) xs) λGo =>
 lS (lB (sq (.tup [.int 0,.int 2])) λxs2=>Nl (τ:=List D) (λs x=>eO t Go s x) xs2 []) λGA =>
 .rt (.lst GA)
def jW (t:MF)(F8:D):L Unit :=
 lB (((((dIx F8 (.int 0)).bind λx=>(dIx F8 (.int 1)).bind λx1=>t F.az [x,x1]).bind λx2=>sq x2).bind λxs=>Nj (λGI=>Nu [GI]) xs).bind λx3=>Nu [x3]) .rt
def dX (t:MF)(GS:List D)(GI:D):L (List D) :=
 lB (N6 GS GI) λGr =>
 .nx Gr
def gA (t:MF)(F7:D)(GB:D)(G0:D)(Gw:List D)(G4:D):L (List D) :=
 lB ((((((asI G0).bind λi=>((Nf G0 GB).bind asI).bind λi1=>dSw F7 i i1).bind λx=>sq x).bind λxs=>Nj (λGI=>(asI G4).bind λi2=>((Nf G4 GB).bind asI).bind λi3=>dSw GI i2 i3) xs).bind λx1=>t F.a2 [x1]).bind λx2=>O5 Gw x2) λHa =>
 .nx Ha
def gC (t:MF)(F7:D)(GB:D)(Gw:List D)(G0:D):L (List D) :=
 lS (lB (sq (.tup [.int 0,GB])) λxs1=>Nl (τ:=List D) (λs x=>gA t F7 GB G0 s x) xs1 Gw) λGM =>
 .nx GM
def fS (t:MF)(F7:D):L Unit :=
 lS (lB (sq F7) λxs=>Nl (τ:=List D) (λs x=>dX t s x) xs []) λGr =>
 lS (lB (σ:=Unit) (asB ((OG [(.lst Gr)]).bind λx1=>dEq x1 (.int 1))) λb=>if b=true then lB (dIx (.lst Gr) (.int 0)) .rt else .nx ()) λ_ =>
 lB ((Nq [F7]).bind λx2=>OD x2 (.int 2)) λGB =>
 lS (lB (sq (.tup [.int 0,GB])) λxs3=>Nl (τ:=List D) (λs x=>gC t F7 GB s x) xs3 []) λGM =>
 lB (Nu [(.lst GM)]) .rt
def q9 (t:MF)(F7:D):L Unit :=
 lB ((onL (.lst [.int 1,.int 2,.int 4,.int 8]) λls=>(Nq [F7]).bind λx=>NG ls [x]).bind λx1=>(t F.a2 [F7]).bind λx2=>.ok (.tup [x1,x2])) .rt
def fE (t:MF)(Ga:D)(GE:List D)(Gs:D):L (List D) :=
 lB (((((dIx Ga Gs).bind λx=>t F.aG [x]).bind λx1=>sq x1).bind λxs=>Nj (λGg=>Nf (.tup [Gs]) Gg) xs).bind λx2=>N6 GE x2) λGA =>
 .nx GA
def eQ (t:MF)(Ga:D):L Unit :=
 lS (lB (σ:=List D) (asB (Nn NT Ga)) λb=>if b=true then lS (lB ((Nq [Ga]).bind λx=>Ny [x]) λxs1=>Nl (τ:=List D) (λs x=>fE t Ga s x) xs1 [(.tup [])]) λGA =>
 .nx GA else .nx [(.tup [])]) λGQ =>
 .rt (.lst GQ)
def jX (t:MF)(Ga:D)(Gg:D)(G1:D):L Unit :=
 lS (lB (σ:=Unit) (asB (dEq Gg (.tup []))) λb=>if b=true then .rt G1 else .nx ()) λ_ =>
 lB (dIx Gg (.int 0)) λGs =>
 lB ((((asI Gs).bind λi=>dSw Ga none i).bind λx=>(((dIx Ga Gs).bind λx1=>(dSw Gg (some 1) none).bind λx2=>t F.bg [x1,x2,G1]).bind λx3=>.ok (.tup [x3])).bind λx4=>Nf x x4).bind λx5=>(((Nf Gs (.int 1)).bind asI).bind λi1=>dSw Ga i1 none).bind λx6=>Nf x5 x6) .rt
def gD (t:MF)(Ga:D)(Gs:D):L (D) :=
 lB (dIx Ga Gs) λGT =>
 .nx GT
def iT (t:MF)(Ga:D)(Gg:D):L Unit :=
 lS (lB (sq Gg) λxs=>Nl (τ:=D) (λs x=>gD t s x) xs Ga) λHb =>
 .rt Hb
def bV (t:MF)(F9:D)(Gu:D)(Ga:D):L Unit :=
 lB (t F.aG [Ga]) λGv =>
 lB (((Nq [Gv]).bind λx=>t F.ac [F9,Gu,x]).bind λx1=>dIx Gv x1) λGg =>
 lB (t F.be [Ga,Gg]) λGy =>
 lB (((Nw (.tup [Gy]) (.int 4)).bind λx2=>.ok (.lst [(.lst [.int 1,.int 2,.int 3,.int 4]),x2])).bind λx3=>N6 [(.int (-1)),.int 0,.int 3,.int 4,.int 9,.int 10,(.bl true),.non,(.str "1"),(.tup []),(.tup [.int 1,.int 2,.int 3]),(.tup [.int 1,.int 1,.int 1,.int 1]),(.tup [.int 1,.int 2,.int 3,.int 4,.int 5])] x3) λGo =>
 lB ((((Nf Gu (.int 1)).bind λx4=>t F.ac [F9,x4,.int 15]).bind λx5=>oIx Go x5).bind λx6=>t F.bg [Ga,Gg,x6]) .rt
def du (t:MF)(Ga:D)(Gb:D):L Unit :=
 lS (lB (σ:=Unit) (OQ (asB (Nn Pu Ga)) (NE (asB (Nn OX Ga)))) λb=>if b=true then lB (rCh dLe dLe (.int 0) Ga (.ok (.int 9))) .rt else .nx ()) λ_ =>
 lS (lB (σ:=Unit) (rOr (NE (asB (Nn NT Ga))) (rOr (asB ((Nq [Ga]).bind λx=>dNf x (.int 4))) (asB (dEq Gb (.int 0))))) λb1=>if b1=true then .rt (.bl false) else .nx ()) λ_ =>
 lB (((sq Ga).bind λxs=>OK (λGC=>(NE (asB ((Ob Gb (.int 1)).bind λx1=>t F.aj [GC,x1])))) (λGC=>.ok GC) xs).bind λx2=>dEq x2 (.lst [])) .rt
def cK (t:MF)(Ga:D):L Unit :=
 lS (lB (σ:=Unit) (rOr (NE (asB (Nn NT Ga))) (rOr (asB ((Nq [Ga]).bind λx2=>dNf x2 (.int 2))) (rOr (NE (asB ((dIx Ga (.int 0)).bind λx1=>Nn Pu x1))) (asB ((dIx Ga (.int 0)).bind λx=>Nn OX x))))) λb=>if b=true then .rt (.bl false) else .nx ()) λ_ =>
 lB (N9 ((dIx Ga (.int 0)).bind λx5=>rCh dLe dLe (.int 0) x5 (.ok (.int 3))) ((dIx Ga (.int 1)).bind λx3=>(dIx Ga (.int 0)).bind λx4=>t F.aj [x3,x4])) .rt
def g8 (t:MF)(Gz:D):L Unit :=
 lB ((Nn (qEx esL 3) Gz).bind λx=>(Nn (qEx esL 6) Gz).bind λx1=>(Nn (qEx esL 7) Gz).bind λx2=>.ok [x,x1,x2]) λG2=>lB ((Nn (qEx esL 8) Gz).bind λx3=>O5 G2 x3) λGU =>
 lB (((Nn (qEx esL 1) Gz).bind λx4=>(Nn (qEx esL 5) Gz).bind λx5=>(Nn (qEx esL 2) Gz).bind λx6=>.ok (.lst [x4,x5,x6])).bind λx7=>N6 GU x7) λGV =>
 lB (((Nn (qEx esL 10) Gz).bind λx8=>(Nn (qEx esL 9) Gz).bind λx9=>(Nn (qEx esL 4) Gz).bind λx10=>.ok (.lst [x8,x9,x10])).bind λx11=>N6 GV x11) λGH =>
 lS (lB (σ:=Unit) (rOr (asB ((onL (.lst GH) λls=>Pg ls [(.bl true)]).bind λx12=>dNf x12 (.int 1))) (NE (asB (Nn (qVx esL) Gz)))) λb=>if b=true then .rt (.str "wrong") else .nx ()) λ_ =>
 lB ((Nf (.lst [(.str "bad box"),(.str "no blocks"),(.str "no change"),(.str "no number"),(.str "no picture"),(.str "no rule"),(.str "no spot"),(.str "no text")]) (.lst [(.str "nothing done"),(.str "unlike")])).bind λx13=>(onL (.lst GH) λls1=>Pf ls1 [(.bl true)]).bind λx14=>dIx x13 x14) .rt
def bR (t:MF)(GF:D)(F8:D)(Gj:D)(Gk:D)(Gh:D):L Unit :=
 PZ (τ:=D) (qTk esL) (lB (asB (dLt GF (.int 2))) λb=>if b=true then lB (rIf (asB (dEq GF (.int 0))) (t F.a3 [F8,Gj,Gk]) (t F.a0 [F8,Gj,Gk,Gh])) λGW =>
 .nx GW else lB (((Ob GF (.int 2)).bind λx=>dIx (.lst [(.fn F.av),(.fn F.ak),(.fn F.ad),(.fn F.aL)]) x).bind λf=>onF fvL f λi=>t i [F8]) λGP =>
 .nx GP) (λGJ=>lS (lB (σ:=Unit) (asB (dIs .non .non)) λb1=>if b1=true then .rt GJ else .nx ()) λ_ =>
 lB (t F.aA [.non]) .rt) (λk=>lS (lB (σ:=Unit) (asB (dIs (.exc k) .non)) λb2=>if b2=true then lB (R.stuck) .rt else .nx ()) λ_ =>
 lB (t F.aA [(.exc k)]) .rt)
def g9 (t:MF)(F7:D)(Gj:D)(Gk:D)(GG:D)(GD:List D)(Hf:D):L (List D) :=
 lB (((dIx GG (.int 0)).bind λx=>(dIx Hf (.int 0)).bind λx1=>Nf x x1).bind λx2=>((dIx GG (.int 1)).bind λx3=>(dIx Hf (.int 1)).bind λx4=>Nf x3 x4).bind λx5=>.ok (.tup [x2,x5])) λGy =>
 lB (OQ (asB ((dIx Gy (.int 0)).bind λx7=>rCh dLe dLt (.int 0) x7 (Nq [F7]))) (OQ (asB ((dIx Gy (.int 1)).bind λx6=>rCh dLe dLt (.int 0) x6 (Nq [F7]))) (asB (NM Gy (.lst GD))))) λb=>if b=true then lB (asB ((((dIx Gy (.int 1)).bind λx8=>dIx F7 x8).bind λx9=>(dIx Gy (.int 0)).bind λx10=>dIx x9 x10).bind λx11=>((dIx F7 Gk).bind λx12=>dIx x12 Gj).bind λx13=>dEq x11 x13)) λb1=>if b1=true then lB (O5 GD Gy) λHc =>
 .nx Hc else .nx GD else .nx GD
def dv (t:MF)(F7:D)(Gj:D)(Gk:D)(Gu:D)(GD:List D):L (D×List D) :=
 lB (oIx GD Gu) λGG =>
 lB (Nf Gu (.int 1)) λHj =>
 lS (lB (sq (.tup [(.tup [.int 1,.int 0]),(.tup [(.int (-1)),.int 0]),(.tup [.int 0,.int 1]),(.tup [.int 0,(.int (-1))])])) λxs=>Nl (τ:=List D) (λs x=>g9 t F7 Gj Gk GG s x) xs GD) λHi =>
 .nx (Hj,Hi)
def cL (t:MF)(F7:D)(Gj:D)(Gk:D)(Gu:D)(GD:List D):R Bool :=
 (asB ((Nq [(.lst GD)]).bind λx=>dLt Gu x))
def jY (t:MF)(F7:D)(Gj:D)(Gk:D):L Unit :=
 lS (lWh (τ:=D×List D) (λs=>cL t F7 Gj Gk s.1 s.2) (λs=>dv t F7 Gj Gk s.1 s.2) 70 ((.int 0),[(.tup [Gj,Gk])])) λs2 =>
 lB (Ol [(.lst s2.2)]) .rt
def gE (t:MF)(GE:List D)(G4:D)(G0:D)(G5:D)(Gh:D):L (List D) :=
 lB ((((Nw G5 G5).bind λx=>Ny [x]).bind λxs=>Nj (λGs=>((OJ Gs G5).bind λx1=>Nf G4 x1).bind λx2=>((OD Gs G5).bind λx3=>Nf G0 x3).bind λx4=>.ok (.tup [x2,x4])) xs).bind λx5=>N6 GE x5) λGA =>
 .nx GA
def iU (t:MF)(Ge:D):L Unit :=
 lS (lB (sq Ge) λxs1=>Nl (τ:=List D) (λs p=>P9 p λx0 x1 x2 x3=>gE t s x0 x1 x2 x3) xs1 []) λGA =>
 lB (Ol [(.lst GA)]) .rt
def bv (t:MF)(F7:D)(Gj:D)(Gd:List D)(Gk:D):L (List D) :=
 lB (asB (((sq (.lst Gd)).bind λxs=>OK (λGe=>(asB (NV (.tup [Gj,Gk]) Ge))) (λGe=>.ok Ge) xs).bind λx=>dEq x (.lst []))) λb=>if b=true then lB ((t F.a1 [F7,Gj,Gk]).bind λx1=>O5 Gd x1) λHd =>
 .nx Hd else .nx Gd
def bW (t:MF)(F7:D)(Gd:List D)(Gj:D):L (List D) :=
 lS (lB ((Nq [F7]).bind λx=>Ny [x]) λxs1=>Nl (τ:=List D) (λs x=>bv t F7 Gj s x) xs1 Gd) λGN =>
 .nx GN
def c8 (t:MF)(F7:D):L Unit :=
 lS (lB ((Nq [F7]).bind λx=>Ny [x]) λxs2=>Nl (τ:=List D) (λs x=>bW t F7 s x) xs2 []) λGN =>
 .rt (.lst GN)
def cM (t:MF)(F7:D)(Gk:D)(GL:D)(Gj:D):L (D) :=
 lB (((((dIx F7 Gk).bind λx=>dIx x Gj).bind λx1=>((dIx F7 Gk).bind λx2=>(Nf Gj (.int 1)).bind λx3=>dIx x2 x3).bind λx4=>dNf x1 x4).bind λx5=>Pa [x5]).bind λx6=>Nf GL x6) λGX =>
 lB (((((dIx F7 Gj).bind λx7=>dIx x7 Gk).bind λx8=>(((Nf Gj (.int 1)).bind λx9=>dIx F7 x9).bind λx10=>dIx x10 Gk).bind λx11=>dNf x8 x11).bind λx12=>Pa [x12]).bind λx13=>Nf GX x13) λHe =>
 .nx He
def bX (t:MF)(F7:D)(Gf:D)(GL:D)(Gk:D):L (D) :=
 lS (lB ((Ob Gf (.int 1)).bind λx=>Ny [x]) λxs=>Nl (τ:=D) (λs x=>cM t F7 Gk s x) xs GL) λGq =>
 .nx Gq
def dY (t:MF)(F9:D)(F8:D)(F7:D)(Gf:D)(Gd:D)(Gs:D):L (Unit) :=
 lB ((((Nw (.int 3) Gs).bind λx=>Nf (.int 5000) x).bind λx1=>(Nf Gf (.int 2)).bind λx2=>t F.ac [F9,x1,x2]).bind λx3=>Ob x3 (.int 1)) λGj =>
 lB ((((Nw (.int 3) Gs).bind λx4=>Nf (.int 5001) x4).bind λx5=>(Nf Gf (.int 2)).bind λx6=>t F.ac [F9,x5,x6]).bind λx7=>Ob x7 (.int 1)) λGk =>
 lB (((((Nw (.int 3) Gs).bind λx8=>Nf (.int 5002) x8).bind λx9=>t F.ac [F9,x9,.int 10]).bind λx10=>.ok (.lst [.int 0,.int 1,.int 9,.int 10,(.int (-1)),.non,x10])).bind λx11=>((Nf (.int 5020) Gs).bind λx12=>t F.ac [F9,x12,.int 7]).bind λx13=>dIx x11 x13) λGh =>
 lS (lB (σ:=D) (OQ (asB (rCh dLe dLt (.int 0) Gj (.ok Gf))) (asB (rCh dLe dLt (.int 0) Gk (.ok Gf)))) λb=>if b=true then lB (((sq Gd).bind λxs=>OK (λGY=>(asB (NV (.tup [Gj,Gk]) GY))) (λGY=>.ok GY) xs).bind λx14=>dIx x14 (.int 0)) λGe =>
 lB (OQ (asB (OB Gh .non)) (asB (rCh dLe dLe (.int 0) Gh (.ok (.int 9))))) λb1=>if b1=true then lB ((Ny [Gf]).bind λxs1=>Nj (λHg=>(Ny [Gf]).bind λxs2=>Nj (λHh=>rIf (asB (NV (.tup [Hh,Hg]) Ge)) (.ok Gh) ((dIx F7 Hg).bind λx15=>dIx x15 Hh)) xs2) xs1) λGo =>
 lB (((((sq Go).bind λxs3=>Nj (λGI=>Nu [GI]) xs3).bind λx16=>Nu [x16]).bind λx17=>t F.bj [x17]).bind λx18=>oSt [Ge,(.str "no picture")] (.int 1) x18) λG6=>.nx (.lst G6) else .nx (.lst [Ge,(.str "no picture")]) else .nx (.lst [(.str "no spot"),(.str "no spot")])) λGZ =>
 lB (asB (((Ny [.int 2]).bind λxs4=>Nj (λGF=>t F.aa [GF,F8,Gj,Gk,Gh]) xs4).bind λx19=>dNf x19 GZ)) λb2=>if b2=true then .rt (.bl false) else .nx ()
def iV (t:MF)(F9:D):L Unit :=
 lB (t F.ac [F9,.int 4990,.int 4]) λGb =>
 lB (((Po [Gb,.int 2]).bind λx=>t F.ap [F9,.int 1,x]).bind λx1=>.ok (.tup [Gb,x1])) λF8 =>
 lB (t F.bb [F8]) λF7 =>
 lB (Nq [F7]) λGf =>
 lB (t F.aI [F7]) λGd =>
 lB (t F.aa [.int 2,F8,.int 0,.int 0,.int 0]) λGm =>
 lB ((sq Gm).bind λxs=>Nj (λGe=>t F.aM [Ge]) xs) λGc =>
 lB (((sq Gd).bind λxs1=>Nj (λGO=>Nq [GO]) xs1).bind λx2=>Om [x2]) λGi =>
 lS (lB (σ:=Unit) (rOr (asB ((OP [Gc]).bind λx4=>(OP [Gd]).bind λx5=>dNf x4 x5)) (asB ((t F.aa [.int 3,F8,.int 0,.int 0,.int 0]).bind λx3=>dNf x3 Gi))) λb=>if b=true then .rt (.bl false) else .nx ()) λ_ =>
 lS (lB (Ny [Gf]) λxs3=>Nl (τ:=D) (λs x=>bX t F7 Gf s x) xs3 (.int 0)) λGq =>
 lS (lB (σ:=Unit) (rOr (asB ((t F.aa [.int 4,F8,.int 0,.int 0,.int 0]).bind λx24=>(Nq [Gd]).bind λx25=>dNf x24 x25)) (asB ((t F.aa [.int 5,F8,.int 0,.int 0,.int 0]).bind λx23=>dNf x23 Gq))) λb1=>if b1=true then .rt (.bl false) else .nx ()) λ_ =>
 lS (lB (Ny [.int 3]) λxs9=>Nl (τ:=Unit) (λ_ x=>dY t F9 F8 F7 Gf Gd x) xs9 ()) λ_ =>
 lB (t F.ah [F9,.int 5200,F8]) λG7 =>
 lB (vOr (t F.aq [G7]) (((Ny [.int 6]).bind λxs10=>Nj (λG9=>t F.aa [G9,G7,.int 99,.int 0,.int 10]) xs10).bind λx47=>(Nw (.lst [(.str "no picture")]) (.int 6)).bind λx48=>dEq x47 x48)) .rt
def pf:Nat->MF
 | 0,_=>λ_=>.stuck
 | n+1,i=>match i with
  | 20=>a1 (jg (pf n))
  | 21=>a1 (gm (pf n))
  | 22=>a1 (iP (pf n))
  | 23=>a3 (fP (pf n))
  | 24=>a2 (b8 (pf n))
  | 25=>a1 (cF (pf n))
  | 26=>a1 (dn (pf n))
  | 43=>a4 (eL (pf n))
  | 44=>a4 (fQ (pf n))
  | 27=>a1 (dP (pf n))
  | 28=>a1 (b9 (pf n))
  | 65=>a1 (cZ (pf n))
  | 45=>a1 (iQ (pf n))
  | 46=>a2 (gn (pf n))
  | 47=>a3 (dQ (pf n))
  | 49=>a2 (fi (pf n))
  | 50=>a1 (cG (pf n))
  | 51=>a2 (jQ (pf n))
  | 52=>a1 (gp (pf n))
  | 53=>a1 (iR (pf n))
  | 29=>a1 (nC (pf n))
  | 188=>a4 (dq (pf n))
  | 189=>a1 (g5 (pf n))
  | 190=>a2 (gq (pf n))
  | 191=>a1 (cr (pf n))
  | 192=>a2 (cH (pf n))
  | 193=>a1 (gr (pf n))
  | 194=>a1 (bU (pf n))
  | 195=>a3 (jR (pf n))
  | 196=>a2 (fj (pf n))
  | 197=>a3 (gu (pf n))
  | 203=>a3 (nD (pf n))
  | 204=>a3 (fR (pf n))
  | 205=>a2 (dR (pf n))
  | 69=>a2 (cI (pf n))
  | 70=>a2 (mD (pf n))
  | 71=>a1 (iS (pf n))
  | 209=>a2 (gw (pf n))
  | 210=>a2 (dS (pf n))
  | 211=>a2 (gz (pf n))
  | 212=>a1 (jS (pf n))
  | 213=>a3 (mE (pf n))
  | 214=>a3 (br (pf n))
  | 215=>a3 (d8 (pf n))
  | 216=>a1 (dU (pf n))
  | 217=>a1 (cJ (pf n))
  | 218=>a1 (bu (pf n))
  | 219=>a1 (fk (pf n))
  | 220=>a1 (bE (pf n))
  | 221=>a1 (g6 (pf n))
  | 222=>a2 (dW (pf n))
  | 223=>a4 (eN (pf n))
  | 30=>a2 (jU (pf n))
  | 31=>a3 (jV (pf n))
  | 32=>a3 (g7 (pf n))
  | 54=>a2 (dr (pf n))
  | 55=>a1 (jW (pf n))
  | 56=>a1 (fS (pf n))
  | 57=>a1 (q9 (pf n))
  | 34=>a1 (eQ (pf n))
  | 35=>a3 (jX (pf n))
  | 36=>a2 (iT (pf n))
  | 37=>a3 (bV (pf n))
  | 39=>a2 (du (pf n))
  | 38=>a1 (cK (pf n))
  | 40=>a1 (g8 (pf n))
  | 224=>a5 (bR (pf n))
  | 225=>a3 (jY (pf n))
  | 226=>a1 (iU (pf n))
  | 227=>a1 (c8 (pf n))
  | 228=>a1 (iV (pf n))
  | _=>λ_=>.stuck
def tO (n:Nat)(a0:D):pf (n+1) F.af [a0]=MW (jg (pf n) a0):=rfl
def tQ (n:Nat)(a0:D):pf (n+1) F.ae [a0]=MW (gm (pf n) a0):=rfl
def vC (n:Nat)(a0:D):pf (n+1) F.aJ [a0]=MW (iP (pf n) a0):=rfl
def nE (n:Nat)(a0 a1 a2:D):pf (n+1) F.aC [a0,a1,a2]=MW (fP (pf n) a0 a1 a2):=rfl
def kZ (n:Nat)(a0 a1:D):pf (n+1) F.aB [a0,a1]=MW (b8 (pf n) a0 a1):=rfl
def l7 (n:Nat)(a0:D):pf (n+1) F.al [a0]=MW (cF (pf n) a0):=rfl
def jZ (n:Nat)(a0:D):pf (n+1) F.ax [a0]=MW (dn (pf n) a0):=rfl
def lX (n:Nat)(a0 a1 a2 a3:D):pf (n+1) F.aE [a0,a1,a2,a3]=MW (eL (pf n) a0 a1 a2 a3):=rfl
def nF (n:Nat)(a0 a1 a2 a3:D):pf (n+1) F.ar [a0,a1,a2,a3]=MW (fQ (pf n) a0 a1 a2 a3):=rfl
def oU (n:Nat)(a0:D):pf (n+1) F.aO [a0]=MW (dP (pf n) a0):=rfl
def k6 (n:Nat)(a0:D):pf (n+1) F.ab [a0]=MW (b9 (pf n) a0):=rfl
def nG (n:Nat)(a0:D):pf (n+1) F.aw [a0]=MW (cZ (pf n) a0):=rfl
def vD (n:Nat)(a0:D):pf (n+1) F.aD [a0]=MW (iQ (pf n) a0):=rfl
def tR (n:Nat)(a0 a1:D):pf (n+1) F.aP [a0,a1]=MW (gn (pf n) a0 a1):=rfl
def oV (n:Nat)(a0 a1 a2:D):pf (n+1) F.aV [a0,a1,a2]=MW (dQ (pf n) a0 a1 a2):=rfl
def re (n:Nat)(a0 a1:D):pf (n+1) F.aH [a0,a1]=MW (fi (pf n) a0 a1):=rfl
def i6 (n:Nat)(a0:D):pf (n+1) F.ao [a0]=MW (cG (pf n) a0):=rfl
def yQ (n:Nat)(a0 a1:D):pf (n+1) F.a9 [a0,a1]=MW (jQ (pf n) a0 a1):=rfl
def tU (n:Nat)(a0:D):pf (n+1) F.a4 [a0]=MW (gp (pf n) a0):=rfl
def vE (n:Nat)(a0:D):pf (n+1) F.bc [a0]=MW (iR (pf n) a0):=rfl
def xg (n:Nat)(a0:D):pf (n+1) F.a5 [a0]=MW (nC (pf n) a0):=rfl
def j3 (n:Nat)(a0 a1 a2 a3:D):pf (n+1) F.ay [a0,a1,a2,a3]=MW (dq (pf n) a0 a1 a2 a3):=rfl
def pZ (n:Nat)(a0:D):pf (n+1) F.aX [a0]=MW (g5 (pf n) a0):=rfl
def tV (n:Nat)(a0 a1:D):pf (n+1) F.aQ [a0,a1]=MW (gq (pf n) a0 a1):=rfl
def fm (n:Nat)(a0:D):pf (n+1) F.aR [a0]=MW (cr (pf n) a0):=rfl
def l8 (n:Nat)(a0 a1:D):pf (n+1) F.aF [a0,a1]=MW (cH (pf n) a0 a1):=rfl
def tW (n:Nat)(a0:D):pf (n+1) F.aS [a0]=MW (gr (pf n) a0):=rfl
def j4 (n:Nat)(a0:D):pf (n+1) F.au [a0]=MW (bU (pf n) a0):=rfl
def yR (n:Nat)(a0 a1 a2:D):pf (n+1) F.bl [a0,a1,a2]=MW (jR (pf n) a0 a1 a2):=rfl
def rh (n:Nat)(a0 a1:D):pf (n+1) F.aZ [a0,a1]=MW (fj (pf n) a0 a1):=rfl
def tX (n:Nat)(a0 a1 a2:D):pf (n+1) F.a8 [a0,a1,a2]=MW (gu (pf n) a0 a1 a2):=rfl
def xh (n:Nat)(a0 a1 a2:D):pf (n+1) F.bh [a0,a1,a2]=MW (nD (pf n) a0 a1 a2):=rfl
def nH (n:Nat)(a0 a1 a2:D):pf (n+1) F.aK [a0,a1,a2]=MW (fR (pf n) a0 a1 a2):=rfl
def oW (n:Nat)(a0 a1:D):pf (n+1) F.aT [a0,a1]=MW (dR (pf n) a0 a1):=rfl
def i7 (n:Nat)(a0 a1:D):pf (n+1) F.an [a0,a1]=MW (cI (pf n) a0 a1):=rfl
def Bg (n:Nat)(a0 a1:D):pf (n+1) F.bf [a0,a1]=MW (mD (pf n) a0 a1):=rfl
def vF (n:Nat)(a0:D):pf (n+1) F.bd [a0]=MW (iS (pf n) a0):=rfl
def tY (n:Nat)(a0 a1:D):pf (n+1) F.a6 [a0,a1]=MW (gw (pf n) a0 a1):=rfl
def oX (n:Nat)(a0 a1:D):pf (n+1) F.aU [a0,a1]=MW (dS (pf n) a0 a1):=rfl
def tZ (n:Nat)(a0 a1:D):pf (n+1) F.a7 [a0,a1]=MW (gz (pf n) a0 a1):=rfl
def t0 (n:Nat)(a0:D):pf (n+1) F.av [a0]=MW (jS (pf n) a0):=rfl
def Bh (n:Nat)(a0 a1 a2:D):pf (n+1) F.bk [a0,a1,a2]=MW (mE (pf n) a0 a1 a2):=rfl
def dD (n:Nat)(a0 a1 a2:D):pf (n+1) F.ag [a0,a1,a2]=MW (br (pf n) a0 a1 a2):=rfl
def jh (n:Nat)(a0 a1 a2:D):pf (n+1) F.a3 [a0,a1,a2]=MW (d8 (pf n) a0 a1 a2):=rfl
def oY (n:Nat)(a0:D):pf (n+1) F.ba [a0]=MW (dU (pf n) a0):=rfl
def i8 (n:Nat)(a0:D):pf (n+1) F.ak [a0]=MW (cJ (pf n) a0):=rfl
def fq (n:Nat)(a0:D):pf (n+1) F.ad [a0]=MW (bu (pf n) a0):=rfl
def rj (n:Nat)(a0:D):pf (n+1) F.aY [a0]=MW (fk (pf n) a0):=rfl
def fT (n:Nat)(a0:D):pf (n+1) F.ai [a0]=MW (bE (pf n) a0):=rfl
def p5 (n:Nat)(a0:D):pf (n+1) F.aL [a0]=MW (g6 (pf n) a0):=rfl
def oZ (n:Nat)(a0 a1:D):pf (n+1) F.aW [a0,a1]=MW (dW (pf n) a0 a1):=rfl
def iW (n:Nat)(a0 a1 a2 a3:D):pf (n+1) F.a0 [a0,a1,a2,a3]=MW (eN (pf n) a0 a1 a2 a3):=rfl
def yS (n:Nat)(a0 a1:D):pf (n+1) F.bi [a0,a1]=MW (jU (pf n) a0 a1):=rfl
def yT (n:Nat)(a0 a1 a2:D):pf (n+1) F.ac [a0,a1,a2]=MW (jV (pf n) a0 a1 a2):=rfl
def p6 (n:Nat)(a0 a1 a2:D):pf (n+1) F.ap [a0,a1,a2]=MW (g7 (pf n) a0 a1 a2):=rfl
def j5 (n:Nat)(a0 a1:D):pf (n+1) F.az [a0,a1]=MW (dr (pf n) a0 a1):=rfl
def yU (n:Nat)(a0:D):pf (n+1) F.bb [a0]=MW (jW (pf n) a0):=rfl
def nI (n:Nat)(a0:D):pf (n+1) F.a2 [a0]=MW (fS (pf n) a0):=rfl
def Dt (n:Nat)(a0:D):pf (n+1) F.bj [a0]=MW (q9 (pf n) a0):=rfl
def lY (n:Nat)(a0:D):pf (n+1) F.aG [a0]=MW (eQ (pf n) a0):=rfl
def t4 (n:Nat)(a0 a1 a2:D):pf (n+1) F.bg [a0,a1,a2]=MW (jX (pf n) a0 a1 a2):=rfl
def vG (n:Nat)(a0 a1:D):pf (n+1) F.be [a0,a1]=MW (iT (pf n) a0 a1):=rfl
def j6 (n:Nat)(a0 a1 a2:D):pf (n+1) F.ah [a0,a1,a2]=MW (bV (pf n) a0 a1 a2):=rfl
def j7 (n:Nat)(a0 a1:D):pf (n+1) F.aj [a0,a1]=MW (du (pf n) a0 a1):=rfl
def l9 (n:Nat)(a0:D):pf (n+1) F.aq [a0]=MW (cK (pf n) a0):=rfl
def p7 (n:Nat)(a0:D):pf (n+1) F.aA [a0]=MW (g8 (pf n) a0):=rfl
def p9 (n:Nat)(a0 a1 a2 a3 a4:D):pf (n+1) F.aa [a0,a1,a2,a3,a4]=MW (bR (pf n) a0 a1 a2 a3 a4):=rfl
def yV (n:Nat)(a0 a1 a2:D):pf (n+1) F.a1 [a0,a1,a2]=MW (jY (pf n) a0 a1 a2):=rfl
def vH (n:Nat)(a0:D):pf (n+1) F.aM [a0]=MW (iU (pf n) a0):=rfl
def nJ (n:Nat)(a0:D):pf (n+1) F.aI [a0]=MW (c8 (pf n) a0):=rfl
def vI (n:Nat)(a0:D):pf (n+1) F.aN [a0]=MW (iV (pf n) a0):=rfl
end Lw
end
noncomputable section
set_option maxHeartbeats 4000000
namespace Lw
open PySem PySem.Spec PyProof.Rows L2 FF
noncomputable def top (i:Nat):Stmt:=PySem.Challenge.pw_fourfold_k62_whole_areas.main.body.getD i (.Pass ⟨0,0,0,0⟩)
noncomputable abbrev jj:Stmt:=top 15
def t5:MG ["thing"] ["thing"] (ME jj):=Nh
noncomputable abbrev jk:Stmt:=top 16
def t6:MG ["thing"] ["thing"] (ME jk):=Nh
noncomputable abbrev k7:Stmt:=top 17
def vJ:MG ["thing"] ["thing"] (ME k7):=Nh
noncomputable abbrev k8:Stmt:=top 18
def vK:MG ["size","thing","is_end"] ["size","thing","is_end"] (ME k8):=Nh
noncomputable abbrev dE:Stmt:=top 19
def k9:MG ["thing","is_end"] ["thing","is_end"] (ME dE):=Nh
noncomputable abbrev eR:Stmt:=top 20
def gS:MG ["four","first"] ["four"] (ME eR):=Nh
noncomputable abbrev hG:Stmt:=top 21
def rk:MG ["tree"] ["tree"] (ME hG):=Nh
noncomputable abbrev jl:Stmt:=top 22
def hI:MG ["tree","side","x","y","half","number"] ["tree","side","x","y"] (ME jl):=Nh
noncomputable abbrev lg:Stmt:=top 23
def nK:MG ["rows","left","top","side","half"] ["rows","left","top","side"] (ME lg):=Nh
noncomputable abbrev gF:Stmt:=top 26
def o3:MG ["thing"] ["thing"] (ME gF):=Nh
noncomputable abbrev dF:Stmt:=top 27
def lh:MG ["thing"] ["thing"] (ME dF):=Nh
noncomputable abbrev fF:Stmt:=top 28
def nM:MG ["thing"] ["thing"] (ME fF):=Nh
noncomputable abbrev li:Stmt:=top 29
def vL:MG ["picture"] ["picture"] (ME li):=Nh
noncomputable abbrev jm:Stmt:=top 30
def t7:MG ["side","thing"] ["side","thing"] (ME jm):=Nh
noncomputable abbrev gG:Stmt:=top 31
def i9:MG ["picture","x","y","side"] ["picture","x","y"] (ME gG):=Nh
noncomputable abbrev hJ:Stmt:=top 32
def j8:MG ["picture","y","side"] ["picture","y"] (ME hJ):=Nh
noncomputable abbrev gH:Stmt:=top 33
def o4:MG ["picture"] ["picture"] (ME gH):=Nh
noncomputable abbrev nN:Stmt:=top 34
def yW:MG ["thing","side"] ["thing","side"] (ME nN):=Nh
noncomputable abbrev jn:Stmt:=top 35
def t8:MG ["thing"] ["thing"] (ME jn):=Nh
noncomputable abbrev lj:Stmt:=top 36
def nO:MG ["rows","side"] ["rows"] (ME lj):=Nh
noncomputable abbrev vM:Stmt:=top 37
def Du:MG ["picture"] ["picture"] (ME vM):=Nh
noncomputable abbrev hU:Stmt:=top 39
def dZ:MG ["tree","left","top","side","half","told","number","part"] ["tree","left","top","side"] (ME hU):=Nh
noncomputable abbrev nP:Stmt:=top 40
def yX:MG ["picture"] ["picture"] (ME nP):=Nh
noncomputable abbrev jo:Stmt:=top 41
def t9:MG ["thing","side"] ["thing","side"] (ME jo):=Nh
noncomputable abbrev jp:Stmt:=top 42
def lZ:MG ["thing","side"] ["thing"] (ME jp):=Nh
noncomputable abbrev eS:Stmt:=top 43
def dG:MG ["size","things","side","thing"] ["size","things"] (ME eS):=Nh
noncomputable abbrev jq:Stmt:=top 44
def hV:MG ["block","spots","y"] ["block"] (ME jq):=Nh
noncomputable abbrev cR:Stmt:=top 45
def bM:MG ["squares","worths","block","spot"] ["squares"] (ME cR):=Nh
noncomputable abbrev nQ:Stmt:=top 46
def yY:MG ["worths","side","y"] ["worths","side","y"] (ME nQ):=Nh
noncomputable abbrev hZ:Stmt:=top 47
def gI:MG ["size","squares","worths","side"] ["size","squares"] (ME hZ):=Nh
noncomputable abbrev jr:Stmt:=top 48
def ua:MG ["block","x","y"] ["block","x","y"] (ME jr):=Nh
noncomputable abbrev vN:Stmt:=top 49
def Dv:MG ["one","other","along"] ["one","other","along"] (ME vN):=Nh
noncomputable abbrev ll:Stmt:=top 50
def vO:MG ["one","other","along"] ["one","other","along"] (ME ll):=Nh
noncomputable abbrev gJ:Stmt:=top 51
def o5:MG ["one","other"] ["one","other"] (ME gJ):=Nh
noncomputable abbrev gK:Stmt:=top 54
def o6:MG ["tree","order"] ["tree","order"] (ME gK):=Nh
noncomputable abbrev rl:Stmt:=top 55
def uc:MG ["picture","order","shown"] ["picture","order"] (ME rl):=Nh
noncomputable abbrev lm:Stmt:=top 56
def vP:MG ["picture"] ["picture"] (ME lm):=Nh
noncomputable abbrev jt:Stmt:=top 58
def ud:MG ["block","area"] ["block","area"] (ME jt):=Nh
noncomputable abbrev gL:Stmt:=top 59
def dc:MG ["block","found","area","apart","other"] ["block","found"] (ME gL):=Nh
noncomputable abbrev ju:Stmt:=top 60
def ue:MG ["area","squares"] ["area","squares"] (ME ju):=Nh
noncomputable abbrev rm:Stmt:=top 61
def ia:MG ["picture","squares","found","block"] ["picture"] (ME rm):=Nh
noncomputable abbrev rq:Stmt:=top 62
def Bi:MG ["x","y","area"] ["x","y","area"] (ME rq):=Nh
noncomputable abbrev eT:Stmt:=top 63
def me:MG ["picture","x","y"] ["picture","x","y"] (ME eT):=Nh
noncomputable abbrev ln:Stmt:=top 64
def jv:MG ["picture","x","y","spots","block"] ["picture","x","y"] (ME ln):=Nh
noncomputable abbrev gM:Stmt:=top 65
def o7:MG ["area"] ["area"] (ME gM):=Nh
noncomputable abbrev gN:Stmt:=top 66
def o8:MG ["picture"] ["picture"] (ME gN):=Nh
noncomputable abbrev cS:Stmt:=top 67
def j9:MG ["picture"] ["picture"] (ME cS):=Nh
noncomputable abbrev ib:Stmt:=top 68
def rz:MG ["row"] ["row"] (ME ib):=Nh
noncomputable abbrev dH:Stmt:=top 69
def lq:MG ["picture"] ["picture"] (ME dH):=Nh
noncomputable abbrev nR:Stmt:=top 70
def yZ:MG ["picture"] ["picture"] (ME nR):=Nh
noncomputable abbrev gO:Stmt:=top 71
def o9:MG ["block","worth"] ["block","worth"] (ME gO):=Nh
noncomputable abbrev nS:Stmt:=top 72
def lr:MG ["picture","x","y","worth","area","rest"] ["picture","x","y","worth"] (ME nS):=Nh
noncomputable abbrev nT:Stmt:=top 74
def y6:MG ["_law_script","_law_k"] ["_law_script","_law_k"] (ME nT):=Nh
noncomputable abbrev nU:Stmt:=top 75
def qf:MG ["_law_script","_law_k","_law_many","_law_drawn"] ["_law_script","_law_k","_law_many"] (ME nU):=Nh
noncomputable abbrev nV:Stmt:=top 76
def qh:MG ["_law_script","_law_at","_law_size","_law_way"] ["_law_script","_law_at","_law_size"] (ME nV):=Nh
noncomputable abbrev ic:Stmt:=top 78
def cN:MG ["_law_size","_law_tree_here","_law_parts","_law_some","_law_made","_law_upper"] ["_law_size","_law_tree_here"] (ME ic):=Nh
noncomputable abbrev nW:Stmt:=top 79
def y8:MG ["_law_picture_here"] ["_law_picture_here"] (ME nW):=Nh
noncomputable abbrev lu:Stmt:=top 80
def cw:MG ["_law_rows_here","_law_worths","_law_row","_law_half","_law_parts","_law_top","_law_left"] ["_law_rows_here"] (ME lu):=Nh
noncomputable abbrev vQ:Stmt:=top 81
def Dw:MG ["_law_rows_here"] ["_law_rows_here"] (ME vQ):=Nh
noncomputable abbrev jw:Stmt:=top 82
def ig:MG ["_law_thing","_law_made","_law_k"] ["_law_thing"] (ME jw):=Nh
noncomputable abbrev rA:Stmt:=top 83
def uf:MG ["_law_thing","_law_place","_law_new","_law_k"] ["_law_thing","_law_place","_law_new"] (ME rA):=Nh
noncomputable abbrev lv:Stmt:=top 84
def jy:MG ["_law_thing","_law_place","_law_k"] ["_law_thing","_law_place"] (ME lv):=Nh
noncomputable abbrev cU:Stmt:=top 85
def bi:MG ["_law_script","_law_at","_law_thing","_law_places_here","_law_place","_law_here","_law_some"] ["_law_script","_law_at","_law_thing"] (ME cU):=Nh
noncomputable abbrev eU:Stmt:=top 86
def mf:MG ["_law_thing"] ["_law_thing"] (ME eU):=Nh
noncomputable abbrev ij:Stmt:=top 87
def rB:MG ["_law_thing","_law_size"] ["_law_thing","_law_size"] (ME ij):=Nh
noncomputable abbrev nX:Stmt:=top 88
def lw:MG ["_law_kept","_law_kinds","_law_words"] ["_law_kept"] (ME nX):=Nh
noncomputable abbrev nY:Stmt:=top 89
def d9:MG ["_law_what","_law_picture_here","_law_x","_law_y","_law_worth","_law_kept","_law_answer","e"] ["_law_what","_law_picture_here","_law_x","_law_y","_law_worth"] (ME nY):=Nh
noncomputable abbrev nZ:Stmt:=top 90
def cW:MG ["_law_rows_here","_law_x","_law_y","_law_found","_law_at","_law_spot","_law_step","_law_here"] ["_law_rows_here","_law_x","_law_y"] (ME nZ):=Nh
noncomputable abbrev ly:Stmt:=top 91
def jz:MG ["_law_area_here","_law_made","_law_left","_law_top","_law_wide","_law_worth"] ["_law_area_here"] (ME ly):=Nh
noncomputable abbrev fG:Stmt:=top 92
def cO:MG ["_law_rows_here","_law_every","_law_x","_law_y"] ["_law_rows_here"] (ME fG):=Nh
noncomputable abbrev bH:Stmt:=top 93
def aB:MG ["_law_script","_law_size","_law_picture_here","_law_rows_here","_law_side","_law_every","_law_told","_law_spots_here","_law_sizes","_law_sides","_law_y","_law_x","_law_k","_law_worth","_law_due","_law_area_here","_law_some","_law_bad"] ["_law_script"] (ME bH):=Nh
structure Txt (K:Frag)(mg:MK)(C:MN)(wP:Params):Prop where
 b_ValueError:mg "ValueError"=none
 uq8:mg "all"=none
 uj6:mg "any"=none
 uq9:mg "bool"=none
 ujd:mg "enumerate"=none
 uq0:mg "int"=none
 uqa:mg "isinstance"=none
 uqf:mg "len"=none
 uj7:mg "list"=none
 uj8:mg "min"=none
 uqe:mg "range"=none
 uj9:mg "set"=none
 uqk:mg "sorted"=none
 ujk:mg "sum"=none
 uqc:mg "tuple"=none
 k_GREATEST_WORTH:∃ t,mg "GREATEST_WORTH"=some (.int 9 t)
 uq2:∃ t,mg "LARGEST_SIZE"=some (.int 3 t)
 t_BY_SWAPPING:∃ a,mg "BY_SWAPPING"=some (.ref a)/\QK K a [0,2,1,3]
 t_SIDES:∃ a,mg "SIDES"=some (.ref a)/\QK K a [1,2,4,8]
 f_is_worth:mg "is_worth"=some (.ref (C F.ae))
 f_areas:mg "areas"=some (.ref (C F.av))
 f_area_sizes:mg "area_sizes"=some (.ref (C F.ak))
 f_how_many_areas:mg "how_many_areas"=some (.ref (C F.ad))
 f_border:mg "border"=some (.ref (C F.aL))
 uje:mg "FourError"=some (.ref (C 0))
 uqm:mg "NoPicture"=some (.ref (C 1))
 uja:mg "NoSpot"=some (.ref (C 2))
 ujw:mg "BadBox"=some (.ref (C 3))
 ujx:mg "Unlike"=some (.ref (C 4))
 ujy:mg "NoRule"=some (.ref (C 5))
 uqh:mg "NoBlocks"=some (.ref (C 6))
 ujl:mg "NoChange"=some (.ref (C 7))
 ujm:mg "NoNumber"=some (.ref (C 8))
 uq6:mg "NothingDone"=some (.ref (C 9))
 ujz:mg "NoText"=some (.ref (C 10))
 uqp:excIn K (C 1) bmVE "ValueError.__new__"=true
 uj0:excIn K (C 2) bmVE "ValueError.__new__"=true
 uql:excIn K (C 6) bmVE "ValueError.__new__"=true
 uj1:IsA K C (.ref (C 3)) (qEx esL 3)
 ujn:IsA K C (.ref (C 6)) (qEx esL 6)
 ujo:IsA K C (.ref (C 7)) (qEx esL 7)
 ujp:IsA K C (.ref (C 8)) (qEx esL 8)
 ujf:IsA K C (.ref (C 1)) (qEx esL 1)
 uj2:IsA K C (.ref (C 5)) (qEx esL 5)
 uj3:IsA K C (.ref (C 2)) (qEx esL 2)
 uj4:IsA K C (.ref (C 10)) (qEx esL 10)
 uq7:IsA K C (.ref (C 9)) (qEx esL 9)
 uj5:IsA K C (.ref (C 4)) (qEx esL 4)
 i_ValueError:IsA K C (.ty "ValueError") (qVx esL)
 takes:PJ K C (C 0) (qTk esL)
structure Tab (P:Program)(w:World)(K:Frag)(mg:MK)(base:Heap)(C:MN)(k:Nat)(t:Nat->List FF.D->FF.R FF.D):Prop where
 g20:Fn1 P w K mg base C k "is_whole" ["thing"] (t F.af)
 g21:Fn1 P w K mg base C k "is_worth" ["thing"] (t F.ae)
 g22:Fn1 P w K mg base C k "is_size" ["thing"] (t F.aJ)
 g23:Fn1 P w K mg base C k "is_tree" ["size","thing","is_end"] (t F.aC)
 g24:Fn1 P w K mg base C k "is_sized_tree" ["thing","is_end"] (t F.aB)
 g25:Fn1 P w K mg base C k "put_together" ["four"] (t F.al)
 g26:Fn1 P w K mg base C k "lean_tree" ["tree"] (t F.ax)
 g43:Fn1 P w K mg base C k "worth_in" ["tree","side","x","y"] (t F.aE)
 g44:Fn1 P w K mg base C k "tree_of" ["rows","left","top","side"] (t F.ar)
 g27:Fn1 P w K mg base C k "is_picture" ["thing"] (t F.aO)
 g28:Fn1 P w K mg base C k "check_picture" ["thing"] (t F.ab)
 g65:Fn1 P w K mg base C k "check_worth" ["thing"] (t F.aw)
 g45:Fn1 P w K mg base C k "side_of" ["picture"] (t F.aD)
 g46:Fn1 P w K mg base C k "is_along" ["side","thing"] (t F.aP)
 g47:Fn1 P w K mg base C k "check_spot" ["picture","x","y"] (t F.aV)
 g49:Fn1 P w K mg base C k "shown_row" ["picture","y"] (t F.aH)
 g50:Fn1 P w K mg base C k "shown_rows" ["picture"] (t F.ao)
 g51:Fn1 P w K mg base C k "is_row" ["thing","side"] (t F.a9)
 g52:Fn1 P w K mg base C k "are_rows" ["thing"] (t F.a4)
 g53:Fn1 P w K mg base C k "of_rows" ["rows"] (t F.bc)
 g29:Fn1 P w K mg base C k "lean" ["picture"] (t F.a5)
 g188:Fn1 P w K mg base C k "blocks_in" ["tree","left","top","side"] (t F.ay)
 g189:Fn1 P w K mg base C k "blocks" ["picture"] (t F.aX)
 g190:Fn1 P w K mg base C k "is_place" ["thing","side"] (t F.aQ)
 g191:Fn1 P w K mg base C k "is_block" ["thing"] (t F.aR)
 g192:Fn1 P w K mg base C k "check_blocks" ["size","things"] (t F.aF)
 g193:Fn1 P w K mg base C k "spots_of" ["block"] (t F.aS)
 g194:Fn1 P w K mg base C k "worths_by_spot" ["squares"] (t F.au)
 g195:Fn1 P w K mg base C k "row_of" ["worths","side","y"] (t F.bl)
 g196:Fn1 P w K mg base C k "of_blocks" ["size","squares"] (t F.aZ)
 g197:Fn1 P w K mg base C k "has_spot" ["block","x","y"] (t F.a8)
 g203:Fn1 P w K mg base C k "meet" ["one","other","along"] (t F.bh)
 g204:Fn1 P w K mg base C k "overlap" ["one","other","along"] (t F.aK)
 g205:Fn1 P w K mg base C k "are_beside" ["one","other"] (t F.aT)
 g69:Fn1 P w K mg base C k "moved_tree" ["tree","order"] (t F.an)
 g70:Fn1 P w K mg base C k "moved" ["picture","order"] (t F.bf)
 g71:Fn1 P w K mg base C k "swapped" ["picture"] (t F.bd)
 g209:Fn1 P w K mg base C k "comes_to" ["block","area"] (t F.a6)
 g210:Fn1 P w K mg base C k "areas_with" ["block","found"] (t F.aU)
 g211:Fn1 P w K mg base C k "in_order" ["area","squares"] (t F.a7)
 g212:Fn1 P w K mg base C k "areas" ["picture"] (t F.av)
 g213:Fn1 P w K mg base C k "is_in" ["x","y","area"] (t F.bk)
 g214:Fn1 P w K mg base C k "blocks_round" ["picture","x","y"] (t F.ag)
 g215:Fn1 P w K mg base C k "area_at" ["picture","x","y"] (t F.a3)
 g216:Fn1 P w K mg base C k "many_spots" ["area"] (t F.ba)
 g217:Fn1 P w K mg base C k "area_sizes" ["picture"] (t F.ak)
 g218:Fn1 P w K mg base C k "how_many_areas" ["picture"] (t F.ad)
 g219:Fn1 P w K mg base C k "unlike_in" ["row"] (t F.aY)
 g220:Fn1 P w K mg base C k "unlike_across" ["picture"] (t F.ai)
 g221:Fn1 P w K mg base C k "border" ["picture"] (t F.aL)
 g222:Fn1 P w K mg base C k "with_worth" ["block","worth"] (t F.aW)
 g223:Fn1 P w K mg base C k "poured" ["picture","x","y","worth"] (t F.a0)
 g30:Fn1 P w K mg base C k "_law_cell" ["_law_script","_law_k"] (t F.bi)
 g31:Fn1 P w K mg base C k "_law_pick" ["_law_script","_law_k","_law_many"] (t F.ac)
 g32:Fn1 P w K mg base C k "_law_tree" ["_law_script","_law_at","_law_size"] (t F.ap)
 g54:Fn1 P w K mg base C k "_law_rows_of" ["_law_size","_law_tree_here"] (t F.az)
 g55:Fn1 P w K mg base C k "_law_rows" ["_law_picture_here"] (t F.bb)
 g56:Fn1 P w K mg base C k "_law_least" ["_law_rows_here"] (t F.a2)
 g57:Fn1 P w K mg base C k "_law_of" ["_law_rows_here"] (t F.bj)
 g34:Fn1 P w K mg base C k "_law_places" ["_law_thing"] (t F.aG)
 g35:Fn1 P w K mg base C k "_law_put" ["_law_thing","_law_place","_law_new"] (t F.bg)
 g36:Fn1 P w K mg base C k "_law_there" ["_law_thing","_law_place"] (t F.be)
 g37:Fn1 P w K mg base C k "_law_spoilt_thing" ["_law_script","_law_at","_law_thing"] (t F.ah)
 g38:Fn1 P w K mg base C k "_law_is_picture" ["_law_thing"] (t F.aq)
 g39:Fn1 P w K mg base C k "_law_is_tree" ["_law_thing","_law_size"] (t F.aj)
 g40:Fn1 P w K mg base C k "_law_word" ["_law_kept"] (t F.aA)
 g224:Fn1 P w K mg base C k "_law_do" ["_law_what","_law_picture_here","_law_x","_law_y","_law_worth"] (t F.aa)
 g225:Fn1 P w K mg base C k "_law_area" ["_law_rows_here","_law_x","_law_y"] (t F.a1)
 g226:Fn1 P w K mg base C k "_law_spots" ["_law_area_here"] (t F.aM)
 g227:Fn1 P w K mg base C k "_law_all_areas" ["_law_rows_here"] (t F.aI)
 g228:Fn1 P w K mg base C k "law" ["_law_script"] (t F.aN)
 v:∀ i∈fvL,FnV P w K mg base C k i (t i)
section
variable {P:Program}{w:World}{K:Frag}{mg:MK}{base:Heap}{C:MN}{k:Nat}{t:Nat->List FF.D->FF.R FF.D}(T:Txt K mg C w.params)(G:Tab P w K mg base C k t)
include T G
theorem ug:OkD P w K mg base C k "is_whole" jj ["thing"] (a1 (jg t)):=ok1 t5 λKK _ _ _ _ _ _ _ _ bx _ _=>by
 show FL _ _ [vv KK] _ _ _;refine aq (aj (cf (av bx rfl T.uqa qQ (ac 0) (aW rfl T.uq0 (by decide +kernel) rfl)) (bZ (EF (av bx rfl T.uqa nh (ac 0) (aW rfl T.uq9 (by decide +kernel) rfl)))))) ?_;rfl
theorem l0:OkD P w K mg base C k "is_worth" jk ["thing"] (a1 (gm t)):=ok1 t6 λKK _ _ _ _ _ _ _ _ bx _ _=>by
 show FL _ _ [vv KK] _ _ _;refine aq (aj (cf (ag bx G.g20 rfl (aa (ac 0) ae)) (bZ (mt af (ac 0) (wN T.k_GREATEST_WORTH rfl))))) ?_;rfl
theorem vR:OkD P w K mg base C k "is_size" k7 ["thing"] (a1 (iP t)):=ok1 vJ λKK _ _ _ _ _ _ _ _ bx _ _=>by
 show FL _ _ [vv KK] _ _ _;refine aq (aj (cf (ag bx G.g20 rfl (aa (ac 0) ae)) (bZ (mt af (ac 0) (wN T.uq2 rfl))))) ?_;rfl
theorem vS:OkD P w K mg base C k "is_tree" k8 ["size","thing","is_end"] (a3 (fP t)):=ok3 vK λsize_ KK is_end _ _ _ _ _ _ _ _ bx _ _=>by
 show FL _ _ [vv size_,vv KK,vv is_end] _ _ _;refine au (inj:=λ(_:Unit) (w:Unit)=>[vv size_,vv KK,vv is_end]) (aA (a7 (aR (av bx rfl T.uqa bJ (ac 1) (aW rfl T.uqc (by decide +kernel) rfl)))) ?_ ?_ ?_) (λ_ w=>?_);rfl
 ·refine aq (aj (sO bx G.v (ac 2) (aa (ac 1) ae))) ?_;rfl
 ·exact ap ⟨(),rfl⟩
 refine au (inj:=λ(_:Unit) (w1:Unit)=>[vv size_,vv KK,vv is_end]) (aA (N7 (di (fK bx (ac 0) af) (cC (fe bx (Nk (aZ bx rfl T.uqf (FAL.out (aa (ac 1) ae)))) af)))) ?_ ?_ ?_) (λ_ w1=>?_);rfl
 ·refine aI (aj fc) ?_;rfl
 ·exact ap ⟨(),rfl⟩
 refine aq (aj (Nk (qO bx rfl T.uq8 (FAL.out (aa (Nv (aH (N:=["part","is_end","size"]) (own:=1) (cap:=[2,0]) bx (BlkOk.of (by kernel_rfl)) (aF bx.K (ac 1)) (aG (by decide)) (λ_ _ _ _ _=>ao 0 (show List.Nodup (α:=Str) ["part","is_end","size"] by decide +kernel)) (λ_ _ _ _ _=>(ag (ar bx) G.g23 rfl (aa (fB (ac 2) af) (aa (ac 0) (aa (ac 1) ae))))))) ae))))) ?_;rfl
theorem lz:OkD P w K mg base C k "is_sized_tree" dE ["thing","is_end"] (a2 (b8 t)):=ok2 k9 λKK is_end _ _ _ _ _ _ _ _ bx _ _=>by
 show FL _ _ [vv KK,vv is_end] _ _ _;refine au (inj:=λ(_:Unit) (w:Unit)=>[vv KK,vv is_end]) (aA (N7 (di (a7 (aR (av bx rfl T.uqa bJ (ac 0) (aW rfl T.uqc (by decide +kernel) rfl)))) (cC (fe bx (Nk (aZ bx rfl T.uqf (FAL.out (aa (ac 0) ae)))) af)))) ?_ ?_ ?_) (λ_ w=>?_);rfl
 ·refine aI (aj fc) ?_;rfl
 ·exact ap ⟨(),rfl⟩
 refine aq (aj (cf (ag bx G.g22 rfl (aa (ah bx.K (ac 0) af) ae)) (bZ (ag bx G.g23 rfl (aa (ah bx.K (ac 0) af) (aa (ah bx.K (ac 0) af) (aa (ac 1) ae))))))) ?_;rfl
theorem mh:OkD P w K mg base C k "put_together" eR ["four"] (a1 (cF t)):=ok1 gS λfour _ _ _ _ _ _ _ _ bx _ _=>by
 show FL _ _ [vv four,nn] _ _ _;refine ak (S':=λfirst=>[vv four,vv first]) (ay 1 gS.nd (ah bx.K (ac 0) af)) ?_ (λfirst=>?_);rfl;refine au (inj:=λ(_:Unit) (w:Unit)=>[vv four,vv first]) (aA (N7 (kz (a7 (aR (av bx rfl T.uqa bJ (ac 1) (aW rfl T.uqc (by decide +kernel) rfl)))) (jG (fK bx (ac 0) (aC (aa (ac 1) (aa (ac 1) (aa (ac 1) (aa (ac 1) ae))))))))) ?_ ?_ ?_) (λ_ w=>?_);rfl
 ·refine aI (aj (ac 1)) ?_;rfl
 ·exact ap ⟨(),rfl⟩
 refine aI (aj (ac 0)) ?_;rfl
theorem rC:OkD P w K mg base C k "lean_tree" hG ["tree"] (a1 (dn t)):=ok1 rk λLx _ _ _ _ _ _ _ _ bx _ _=>by
 show FL _ _ [vv Lx] _ _ _;refine au (inj:=λ(_:Unit) (w:Unit)=>[vv Lx]) (aA (a7 (aR (av bx rfl T.uqa bJ (ac 0) (aW rfl T.uqc (by decide +kernel) rfl)))) ?_ ?_ ?_) (λ_ w=>?_);rfl
 ·refine aI (aj (ac 0)) ?_;rfl
 ·exact ap ⟨(),rfl⟩
 refine aq (aj (ag bx G.g25 rfl (aa (Nk (bD bx rfl T.uqc (FAL.out (aa (Nv (aH (N:=["part"]) (own:=1) (cap:=[]) bx (BlkOk.of (by kernel_rfl)) (aF bx.K (ac 0)) (aG (by decide)) (λ_ _ _ _ _=>ao 0 (show List.Nodup (α:=Str) ["part"] by decide +kernel)) (λ_ _ _ _ _=>(ag (ar bx) G.g26 rfl (aa (ac 0) ae))))) ae)))) ae))) ?_;rfl
theorem uh:OkD P w K mg base C k "worth_in" jl ["tree","side","x","y"] (a4 (eL t)):=ok4 hI λLx side x y _ _ _ _ _ _ _ _ bx _ _=>by
 show FL _ _ [vv Lx,vv side,vv x,vv y,nn,nn] _ _ _;refine au (inj:=λ(_:Unit) (w:Unit)=>[vv Lx,vv side,vv x,vv y,nn,nn]) (aA (a7 (aR (av bx rfl T.uqa bJ (ac 0) (aW rfl T.uqc (by decide +kernel) rfl)))) ?_ ?_ ?_) (λ_ w=>?_);rfl
 ·refine aI (aj (ac 0)) ?_;rfl
 ·exact ap ⟨(),rfl⟩
 refine ak (S':=λhalf=>[vv Lx,vv side,vv x,vv y,vv half,nn]) (ay 4 hI.nd (f8 (ac 1) af)) ?_ (λhalf=>?_);rfl;refine ak (S':=λnumber=>[vv Lx,vv side,vv x,vv y,vv half,vv number]) (ay 5 hI.nd (ax bx.K (bB bx.K af (f8 (ac 3) (ac 4))) (f8 (ac 2) (ac 4)))) ?_ (λnumber=>?_);rfl;refine aq (aj (ag bx G.g43 rfl (aa (ah bx.K (ac 0) (ac 5)) (aa (ac 4) (aa (f9 (ac 2) (ac 4)) (aa (f9 (ac 3) (ac 4)) ae)))))) ?_;rfl
theorem vT:OkD P w K mg base C k "tree_of" lg ["rows","left","top","side"] (a4 (fQ t)):=ok4 nK λrows left top side _ _ _ _ _ _ _ _ bx _ _=>by
 show FL _ _ [vv rows,vv left,vv top,vv side,nn] _ _ _;refine au (inj:=λ(_:Unit) (w:Unit)=>[vv rows,vv left,vv top,vv side,nn]) (aA (fK bx (ac 3) af) ?_ ?_ ?_) (λ_ w=>?_);rfl
 ·refine aq (aj (ah bx.K (ah bx.K (ac 0) (ac 2)) (ac 1))) ?_;rfl
 ·exact ap ⟨(),rfl⟩
 refine ak (S':=λhalf=>[vv rows,vv left,vv top,vv side,vv half]) (ay 4 nK.nd (f8 (ac 3) af)) ?_ (λhalf=>?_);rfl;refine aq (aj (ag bx G.g25 rfl (aa (aC (aa (ag bx G.g44 rfl (aa (ac 0) (aa (ac 1) (aa (ac 2) (aa (ac 4) ae))))) (aa (ag bx G.g44 rfl (aa (ac 0) (aa (ax bx.K (ac 1) (ac 4)) (aa (ac 2) (aa (ac 4) ae))))) (aa (ag bx G.g44 rfl (aa (ac 0) (aa (ac 1) (aa (ax bx.K (ac 2) (ac 4)) (aa (ac 4) ae))))) (aa (ag bx G.g44 rfl (aa (ac 0) (aa (ax bx.K (ac 1) (ac 4)) (aa (ax bx.K (ac 2) (ac 4)) (aa (ac 4) ae))))) ae))))) ae))) ?_;rfl
theorem pb:OkD P w K mg base C k "is_picture" gF ["thing"] (a1 (dP t)):=ok1 o3 λKK _ _ _ _ _ _ _ _ bx _ _=>by
 show FL _ _ [vv KK] _ _ _;refine aq (aj (ag bx G.g24 rfl (aa (ac 0) (aa (sN T.f_is_worth rfl) ae)))) ?_;rfl
theorem lF:OkD P w K mg base C k "check_picture" dF ["thing"] (a1 (b9 t)):=ok1 lh λKK _ _ _ _ _ _ _ _ bx _ made=>by
 show FL _ _ [vv KK] _ _ _;refine eI (aA (a7 (aR (ag bx G.g27 rfl (aa (ac 0) ae)))) ?_ ?_ ?_);rfl
 ·refine jK (cE 1 bx made rfl T.uqm T.uqp (FAL.out (aa bO ae))) ?_;rfl
 ·exact ap Jn
theorem n5:OkD P w K mg base C k "check_worth" fF ["thing"] (a1 (cZ t)):=ok1 nM λKK _ _ _ _ _ _ _ _ bx _ made=>by
 show FL _ _ [vv KK] _ _ _;refine eI (aA (a7 (aR (ag bx G.g21 rfl (aa (ac 0) ae)))) ?_ ?_ ?_);rfl
 ·refine jK (cE 1 bx made rfl T.uqm T.uqp (FAL.out (aa bO ae))) ?_;rfl
 ·exact ap Jn
theorem vU:OkD P w K mg base C k "side_of" li ["picture"] (a1 (iQ t)):=ok1 vL λHm _ _ _ _ _ _ _ _ bx _ _=>by
 show FL _ _ [vv Hm] _ _ _;refine aq (aj (ah bx.K (iF T.t_SIDES rfl) (ah bx.K (ac 0) af))) ?_;rfl
theorem ui:OkD P w K mg base C k "is_along" jm ["side","thing"] (a2 (gn t)):=ok2 t7 λside KK _ _ _ _ _ _ _ _ bx _ _=>by
 show FL _ _ [vv side,vv KK] _ _ _;refine aq (aj (cf (ag bx G.g20 rfl (aa (ac 1) ae)) (bZ (qN af (ac 1) (ac 0))))) ?_;rfl
theorem pd:OkD P w K mg base C k "check_spot" gG ["picture","x","y"] (a3 (dQ t)):=ok3 i9 λHm x y _ _ _ _ _ _ _ _ bx _ made=>by
 show FL _ _ [vv Hm,vv x,vv y,nn] _ _ _;refine ak (S':=λside=>[vv Hm,vv x,vv y,vv side]) (ay 3 i9.nd (ag bx G.g45 rfl (aa (ac 0) ae))) ?_ (λside=>?_);rfl;refine eI (aA (N7 (di (a7 (aR (ag bx G.g46 rfl (aa (ac 3) (aa (ac 1) ae))))) (cC (a7 (aR (ag bx G.g46 rfl (aa (ac 3) (aa (ac 2) ae)))))))) ?_ ?_ ?_);rfl
 ·refine jK (cE 2 bx made rfl T.uja T.uj0 (FAL.out (aa bO ae))) ?_;rfl
 ·exact ap Jn
theorem rD:OkD P w K mg base C k "shown_row" hJ ["picture","y"] (a2 (fi t)):=ok2 j8 λHm y _ _ _ _ _ _ _ _ bx _ _=>by
 show FL _ _ [vv Hm,vv y,nn] _ _ _;refine ak (S':=λside=>[vv Hm,vv y,vv side]) (ay 2 j8.nd (ag bx G.g45 rfl (aa (ac 0) ae))) ?_ (λside=>?_);rfl;refine aq (aj (Nk (bD bx rfl T.uqc (FAL.out (aa (Nv (aH (N:=["x","side","y","picture"]) (own:=1) (cap:=[2,1,0]) bx (BlkOk.of (by kernel_rfl)) (dm (aS rfl T.uqe (FAL.out (aa (ac 2) ae)))) (aG (by decide)) (λ_ _ _ _ _=>ao 0 (show List.Nodup (α:=Str) ["x","side","y","picture"] by decide +kernel)) (λ_ _ _ _ _=>(ag (ar bx) G.g43 rfl (aa (ah (ar bx).K (ac 3) af) (aa (ac 1) (aa (ac 0) (aa (ac 2) ae)))))))) ae))))) ?_;rfl
theorem ph:OkD P w K mg base C k "shown_rows" gH ["picture"] (a1 (cG t)):=ok1 o4 λHm _ _ _ _ _ _ _ _ bx _ _=>by
 show FL _ _ [vv Hm] _ _ _;refine ak (S':=λ_=>[vv Hm]) (iE (ag bx G.g28 rfl (aa (ac 0) ae))) ?_ (λ_=>?_);rfl;refine aq (aj (Nk (bD bx rfl T.uqc (FAL.out (aa (Nv (aH (N:=["y","picture"]) (own:=1) (cap:=[0]) bx (BlkOk.of (by kernel_rfl)) (dm (aS rfl T.uqe (FAL.out (aa (ag bx G.g45 rfl (aa (ac 0) ae)) ae)))) (aG (by decide)) (λ_ _ _ _ _=>ao 0 (show List.Nodup (α:=Str) ["y","picture"] by decide +kernel)) (λ_ _ _ _ _=>(ag (ar bx) G.g49 rfl (aa (ac 1) (aa (ac 0) ae)))))) ae))))) ?_;rfl
theorem y9:OkD P w K mg base C k "is_row" nN ["thing","side"] (a2 (jQ t)):=ok2 yW λKK side _ _ _ _ _ _ _ _ bx _ _=>by
 show FL _ _ [vv KK,vv side] _ _ _;refine au (inj:=λ(_:Unit) (w:Unit)=>[vv KK,vv side]) (aA (N7 (di (a7 (aR (av bx rfl T.uqa bJ (ac 0) (aW rfl T.uqc (by decide +kernel) rfl)))) (cC (fe bx (Nk (aZ bx rfl T.uqf (FAL.out (aa (ac 0) ae)))) (ac 1))))) ?_ ?_ ?_) (λ_ w=>?_);rfl
 ·refine aI (aj fc) ?_;rfl
 ·exact ap ⟨(),rfl⟩
 refine aq (aj (Nk (qO bx rfl T.uq8 (FAL.out (aa (Nv (aH (N:=["worth"]) (own:=1) (cap:=[]) bx (BlkOk.of (by kernel_rfl)) (aF bx.K (ac 0)) (aG (by decide)) (λ_ _ _ _ _=>ao 0 (show List.Nodup (α:=Str) ["worth"] by decide +kernel)) (λ_ _ _ _ _=>(ag (ar bx) G.g21 rfl (aa (ac 0) ae))))) ae))))) ?_;rfl
theorem uj:OkD P w K mg base C k "are_rows" jn ["thing"] (a1 (gp t)):=ok1 t8 λKK _ _ _ _ _ _ _ _ bx _ _=>by
 show FL _ _ [vv KK] _ _ _;refine au (inj:=λ(_:Unit) (w:Unit)=>[vv KK]) (aA (N7 (di (a7 (aR (av bx rfl T.uqa bJ (ac 0) (aW rfl T.uqc (by decide +kernel) rfl)))) (cC (kL bx (Nk (aZ bx rfl T.uqf (FAL.out (aa (ac 0) ae)))) (iF T.t_SIDES rfl))))) ?_ ?_ ?_) (λ_ w=>?_);rfl
 ·refine aI (aj fc) ?_;rfl
 ·exact ap ⟨(),rfl⟩
 refine aq (aj (Nk (qO bx rfl T.uq8 (FAL.out (aa (Nv (aH (N:=["row","thing"]) (own:=1) (cap:=[0]) bx (BlkOk.of (by kernel_rfl)) (aF bx.K (ac 0)) (aG (by decide)) (λ_ _ _ _ _=>ao 0 (show List.Nodup (α:=Str) ["row","thing"] by decide +kernel)) (λ_ _ _ _ _=>(ag (ar bx) G.g51 rfl (aa (ac 0) (aa (Nk (aZ (ar bx) rfl T.uqf (FAL.out (aa (ac 1) ae)))) ae)))))) ae))))) ?_;rfl
theorem vV:OkD P w K mg base C k "of_rows" lj ["rows"] (a1 (iR t)):=ok1 nO λrows _ _ _ _ _ _ _ _ bx _ made=>by
 show FL _ _ [vv rows,nn] _ _ _;refine au (inj:=λ(_:Unit) (w:Unit)=>[vv rows,nn]) (aA (a7 (aR (ag bx G.g52 rfl (aa (ac 0) ae)))) ?_ ?_ ?_) (λ_ w=>?_);rfl
 ·refine jK (cE 1 bx made rfl T.uqm T.uqp (FAL.out (aa bO ae))) ?_;rfl
 ·exact ap ⟨(),rfl⟩
 refine ak (S':=λside=>[vv rows,vv side]) (ay 1 nO.nd (Nk (aZ bx rfl T.uqf (FAL.out (aa (ac 0) ae))))) ?_ (λside=>?_);rfl;refine aq (aj (aC (aa (FP (yu bx T.t_SIDES rfl (FAL.out (aa (ac 1) ae)))) (aa (ag bx G.g44 rfl (aa (ac 0) (aa af (aa af (aa (ac 1) ae))))) ae)))) ?_;rfl
theorem Dx:OkD P w K mg base C k "lean" vM ["picture"] (a1 (nC t)):=ok1 Du λHm _ _ _ _ _ _ _ _ bx _ _=>by
 show FL _ _ [vv Hm] _ _ _;refine ak (S':=λ_=>[vv Hm]) (iE (ag bx G.g28 rfl (aa (ac 0) ae))) ?_ (λ_=>?_);rfl;refine aq (aj (aC (aa (ah bx.K (ac 0) af) (aa (ag bx G.g26 rfl (aa (ah bx.K (ac 0) af) ae)) ae)))) ?_;rfl
theorem rE:OkD P w K mg base C k "blocks_in" hU ["tree","left","top","side"] (a4 (dq t)):=ok4 dZ λLx left top side _ _ _ _ _ _ _ _ bx hpo _=>by
 show FL _ _ [vv Lx,vv left,vv top,vv side,nn,nn,nn,nn] _ _ _;refine au (inj:=λ(_:Unit) (w:Unit)=>[vv Lx,vv left,vv top,vv side,nn,nn,nn,nn]) (aA (a7 (aR (av bx rfl T.uqa bJ (ac 0) (aW rfl T.uqc (by decide +kernel) rfl)))) ?_ ?_ ?_) (λ_ w=>?_);rfl
 ·refine aI (aj (a6 (aa (aC (aa (ac 1) (aa (ac 2) (aa (ac 3) (aa (ac 0) ae))))) ae))) ?_;rfl
 ·exact ap ⟨(),rfl⟩
 refine ak (S':=λhalf=>[vv Lx,vv left,vv top,vv side,vv half,nn,nn,nn]) (ay 4 dZ.nd (f8 (ac 3) af)) ?_ (λhalf=>?_);rfl;refine aO (S':=[vv Lx,vv left,vv top,vv side,vv half,ow [],nn,nn]) (Ou (cg 5 dZ.nd (FAL.out ae))) ?_ ?_;rfl;refine au (inj:=λ(s:List D) (w1:Option Sl×Option Sl)=>[vv Lx,vv left,vv top,vv side,vv half,ow s,w1.1,w1.2]) (AN 6 7 (B:=λ(s:List D) (w1:Option Sl×Option Sl) x x1=>[vv Lx,vv left,vv top,vv side,vv half,ow s,vv x,vv x1]) (nn,nn) hpo rfl (qW bx rfl T.ujd (ac 0)) ?_ (CP 6 7 rfl dZ.nd) rfl (λ_ _ _ _=>rfl) (λs w1 x x1=>?_)) (λtold1 w2=>?_);rfl
 ·refine ak (S':=λM8=>[vv Lx,vv left,vv top,vv side,vv half,ow M8,vv x,vv x1]) (OU (bq 5 bx.K (FAL.out (aa (ag bx G.g188 rfl (aa (ac 7) (aa (ax bx.K (ac 1) (bB bx.K (f9 (ac 6) af) (ac 4))) (aa (ax bx.K (ac 2) (bB bx.K (f8 (ac 6) af) (ac 4))) (aa (ac 4) ae))))) ae)))) ?_ (λM8=>?_);rfl;exact ap ⟨(vv x,vv x1),rfl⟩
 refine cq 5 (S':=[vv Lx,vv left,vv top,vv side,vv half,vv (.lst told1),w2.1,w2.2]) rfl rfl ?_;refine aI (aj (ac 5)) ?_;rfl
theorem zb:OkD P w K mg base C k "blocks" nP ["picture"] (a1 (g5 t)):=ok1 yX λHm _ _ _ _ _ _ _ _ bx _ _=>by
 show FL _ _ [vv Hm] _ _ _;refine aq (aj (ag bx G.g188 rfl (aa (ah bx.K (ag bx G.g29 rfl (aa (ac 0) ae)) af) (aa af (aa af (aa (ag bx G.g45 rfl (aa (ac 0) ae)) ae)))))) ?_;rfl
theorem uk:OkD P w K mg base C k "is_place" jo ["thing","side"] (a2 (gq t)):=ok2 t9 λKK side _ _ _ _ _ _ _ _ bx _ _=>by
 show FL _ _ [vv KK,vv side] _ _ _;refine aq (aj (cf (Fz (ac 0) af) (bZ (pM bx (f9 (ac 0) (ac 1)) af)))) ?_;rfl
theorem ul:OkD P w K mg base C k "is_block" jp ["thing"] (a1 (cr t)):=ok1 lZ λKK _ _ _ _ _ _ _ _ bx _ _=>by
 show FL _ _ [vv KK,nn] _ _ _;refine au (inj:=λ(_:Unit) (w:Unit)=>[vv KK,nn]) (aA (N7 (di (a7 (aR (av bx rfl T.uqa bJ (ac 0) (aW rfl T.uqc (by decide +kernel) rfl)))) (cC (fe bx (Nk (aZ bx rfl T.uqf (FAL.out (aa (ac 0) ae)))) af)))) ?_ ?_ ?_) (λ_ w=>?_);rfl
 ·refine aI (aj fc) ?_;rfl
 ·exact ap ⟨(),rfl⟩
 refine au (inj:=λ(_:Unit) (w1:Unit)=>[vv KK,nn]) (aA (a7 (aR (Nk (qO bx rfl T.uq8 (FAL.out (aa (Nv (aH (N:=["number"]) (own:=1) (cap:=[]) bx (BlkOk.of (by kernel_rfl)) (aF bx.K (ac 0)) (aG (by decide)) (λ_ _ _ _ _=>ao 0 (show List.Nodup (α:=Str) ["number"] by decide +kernel)) (λ_ _ _ _ _=>(ag (ar bx) G.g20 rfl (aa (ac 0) ae))))) ae)))))) ?_ ?_ ?_) (λ_ w1=>?_);rfl
 ·refine aI (aj fc) ?_;rfl
 ·exact ap ⟨(),rfl⟩
 refine ak (S':=λside=>[vv KK,vv side]) (ay 1 lZ.nd (ah bx.K (ac 0) af)) ?_ (λside=>?_);rfl;refine aq (aj (cf (ET bx (ac 1) (iF T.t_SIDES rfl)) (cf (ag bx G.g190 rfl (aa (ah bx.K (ac 0) af) (aa (ac 1) ae))) (cf (ag bx G.g190 rfl (aa (ah bx.K (ac 0) af) (aa (ac 1) ae))) (bZ (ag bx G.g21 rfl (aa (ah bx.K (ac 0) af) ae))))))) ?_;rfl
theorem mi:OkD P w K mg base C k "check_blocks" eS ["size","things"] (a2 (cH t)):=ok2 dG λsize_ Mw _ _ _ _ _ _ _ _ bx hpo made=>by
 show FL _ _ [vv size_,vv Mw,nn,nn] _ _ _;refine au (inj:=λ(_:Unit) (w:Unit)=>[vv size_,vv Mw,nn,nn]) (aA (N7 (di (a7 (aR (ag bx G.g22 rfl (aa (ac 0) ae)))) (cC (a7 (aR (av bx rfl T.uqa AB (ac 1) (aW rfl T.uj7 (by decide +kernel) rfl))))))) ?_ ?_ ?_) (λ_ w=>?_);rfl
 ·refine jK (cE 6 bx made rfl T.uqh T.uql (FAL.out (aa bO ae))) ?_;rfl
 ·exact ap ⟨(),rfl⟩
 refine ak (S':=λside=>[vv size_,vv Mw,vv side,nn]) (ay 2 dG.nd (ah bx.K (iF T.t_SIDES rfl) (ac 0))) ?_ (λside=>?_);rfl;refine au (inj:=λ(s:Unit) (w1:Option Sl)=>[vv size_,vv Mw,vv side,w1]) (ba 3 (B:=λ(s:Unit) (w1:Option Sl) x=>[vv size_,vv Mw,vv side,vv x]) nn hpo rfl (aF bx.K (ac 1)) ?_ (ao 3 dG.nd) rfl (λ_ _ _=>rfl) (λs w1 x=>?_)) (λ_ w3=>?_);rfl
 ·refine au (inj:=λ(_:Unit) (w2:Unit)=>[vv size_,vv Mw,vv side,vv x]) (aA (a7 (aR (ag bx G.g191 rfl (aa (ac 3) ae)))) ?_ ?_ ?_) (λ_ w2=>?_);rfl
  ·refine jK (cE 6 bx made rfl T.uqh T.uql (FAL.out (aa bO ae))) ?_;rfl
  ·exact ap ⟨(),rfl⟩
  refine eI (aA (N7 (di (DZ (ax bx.K (ah bx.K (ac 3) af) (ah bx.K (ac 3) af)) (ac 2)) (cC (DZ (ax bx.K (ah bx.K (ac 3) af) (ah bx.K (ac 3) af)) (ac 2))))) ?_ ?_ ?_);rfl
  ·refine jK (cE 6 bx made rfl T.uqh T.uql (FAL.out (aa bO ae))) ?_;rfl
  ·exact ap ⟨vv x,rfl⟩
 exact ap Jn
theorem um:OkD P w K mg base C k "spots_of" jq ["block"] (a1 (gr t)):=ok1 hV λblock _ _ _ _ _ _ _ _ bx hpo _=>by
 show FL _ _ [vv block,nn,nn] _ _ _;refine aO (S':=[vv block,ow [],nn]) (Ou (cg 1 hV.nd (FAL.out ae))) ?_ ?_;rfl;refine au (inj:=λ(s:List D) (w:Option Sl)=>[vv block,ow s,w]) (ba 2 (B:=λ(s:List D) (w:Option Sl) x4=>[vv block,ow s,vv x4]) nn hpo rfl (AR (kD rfl T.uqe (FAL.out (aa (ah bx.K (ac 0) af) (aa (ax bx.K (ah bx.K (ac 0) af) (ah bx.K (ac 0) af)) ae))))) ?_ (ao 2 hV.nd) rfl (λ_ _ _=>rfl) (λs w x4=>?_)) (λspots1 w1=>?_);rfl
 ·refine ak (S':=λspots=>[vv block,ow spots,vv x4]) (OU (bq 1 bx.K (FAL.out (aa (Nv (aH (N:=["x","y"]) (own:=1) (cap:=[2]) bx (BlkOk.of (by kernel_rfl)) (AR (kD rfl T.uqe (FAL.out (aa (ah bx.K (ac 0) af) (aa (ax bx.K (ah bx.K (ac 0) af) (ah bx.K (ac 0) af)) ae))))) (aG (by decide)) (λ_ _ _ _ _=>ao 0 (show List.Nodup (α:=Str) ["x","y"] by decide +kernel)) (λ_ _ _ _ _=>(aC (aa (ac 0) (aa (ac 1) ae)))))) ae)))) ?_ (λspots=>?_);rfl;exact ap ⟨vv x4,rfl⟩
 refine cq 1 (S':=[vv block,vv (.lst spots1),w1]) rfl rfl ?_;refine aI (aj (ac 1)) ?_;rfl
theorem ke:OkD P w K mg base C k "worths_by_spot" cR ["squares"] (a1 (bU t)):=ok1 bM λsquares _ _ _ _ _ _ _ _ bx hpo made=>by
 show FL _ _ [vv squares,nn,nn,nn] _ _ _;refine aO (S':=[vv squares,dt [],nn,nn]) (yK 1 bM.nd) ?_ ?_;rfl;refine au (inj:=λ(s:List (List Int×D)) (w:Option Sl×Option Sl)=>[vv squares,dt s,w.1,w.2]) (ba 2 (B:=λ(s:List (List Int×D)) (w:Option Sl×Option Sl) x=>[vv squares,dt s,vv x,w.2]) (nn,nn) hpo rfl (aF bx.K (ac 0)) ?_ (ao 2 bM.nd) rfl (λ_ _ _=>rfl) (λs w x=>?_)) (λworths2 w4=>?_);rfl
 ·refine au (inj:=λ(s1:List (List Int×D)) (w1:Option Sl)=>[vv squares,dt s1,vv x,w1]) (ba 3 (B:=λ(s1:List (List Int×D)) (w1:Option Sl) x2=>[vv squares,dt s1,vv x,vv x2]) w.2 hpo rfl (aF bx.K (ag bx G.g193 rfl (aa (ac 2) ae))) ?_ (ao 3 bM.nd) rfl (λ_ _ _=>rfl) (λs1 w1 x2=>?_)) (λworths1 w3=>?_);rfl
  ·refine au (inj:=λ(_:Unit) (w2:Unit)=>[vv squares,dt s1,vv x,vv x2]) (aA (A4 1 bx (ac 3)) ?_ ?_ ?_) (λ_ w2=>?_);rfl
   ·refine jK (cE 6 bx made rfl T.uqh T.uql (FAL.out (aa bO ae))) ?_;rfl
   ·exact ap ⟨(),rfl⟩
   refine ak (S':=λworths=>[vv squares,dt worths,vv x,vv x2]) (A5 1 bx (ah bx.K (ac 2) af) (ac 3)) ?_ (λworths=>?_);rfl;exact ap ⟨vv x2,rfl⟩
  exact ap ⟨(vv x,w3),rfl⟩
 refine Dd 1 (S':=[vv squares,vv (OT worths2),w4.1,w4.2]) rfl rfl ?_;refine aI (aj (ac 1)) ?_;rfl
theorem zc:OkD P w K mg base C k "row_of" nQ ["worths","side","y"] (a3 (jR t)):=ok3 yY λworths side y _ _ _ _ _ _ _ _ bx _ _=>by
 show FL _ _ [vv worths,vv side,vv y] _ _ _;refine aq (aj (Nk (bD bx rfl T.uqc (FAL.out (aa (Nv (aH (N:=["x","worths","y"]) (own:=1) (cap:=[0,2]) bx (BlkOk.of (by kernel_rfl)) (dm (aS rfl T.uqe (FAL.out (aa (ac 1) ae)))) (aG (by decide)) (λ_ _ _ _ _=>ao 0 (show List.Nodup (α:=Str) ["x","worths","y"] by decide +kernel)) (λ_ _ _ _ _=>(A6 (ar bx) (ac 1) (aC (aa (ac 0) (aa (ac 2) ae))))))) ae))))) ?_;rfl
theorem rF:OkD P w K mg base C k "of_blocks" hZ ["size","squares"] (a2 (fj t)):=ok2 gI λsize_ squares _ _ _ _ _ _ _ _ bx _ made=>by
 show FL _ _ [vv size_,vv squares,nn,nn] _ _ _;refine ak (S':=λ_=>[vv size_,vv squares,nn,nn]) (iE (ag bx G.g192 rfl (aa (ac 0) (aa (ac 1) ae)))) ?_ (λ_=>?_);rfl;refine ak (S':=λworths=>[vv size_,vv squares,vv worths,nn]) (ay 2 gI.nd (ag bx G.g194 rfl (aa (ac 1) ae))) ?_ (λworths=>?_);rfl;refine ak (S':=λside=>[vv size_,vv squares,vv worths,vv side]) (ay 3 gI.nd (ah bx.K (iF T.t_SIDES rfl) (ac 0))) ?_ (λside=>?_);rfl;refine au (inj:=λ(_:Unit) (w:Unit)=>[vv size_,vv squares,vv worths,vv side]) (aA (fe bx (Nk (yM bx rfl T.uqf (FAL.out (aa (ac 2) ae)))) (bB bx.K (ac 3) (ac 3))) ?_ ?_ ?_) (λ_ w=>?_);rfl
 ·refine jK (cE 6 bx made rfl T.uqh T.uql (FAL.out (aa bO ae))) ?_;rfl
 ·exact ap ⟨(),rfl⟩
 refine aq (aj (ag bx G.g53 rfl (aa (Nk (bD bx rfl T.uqc (FAL.out (aa (Nv (aH (N:=["y","worths","side"]) (own:=1) (cap:=[2,3]) bx (BlkOk.of (by kernel_rfl)) (dm (aS rfl T.uqe (FAL.out (aa (ac 3) ae)))) (aG (by decide)) (λ_ _ _ _ _=>ao 0 (show List.Nodup (α:=Str) ["y","worths","side"] by decide +kernel)) (λ_ _ _ _ _=>(ag (ar bx) G.g195 rfl (aa (ac 1) (aa (ac 2) (aa (ac 0) ae))))))) ae)))) ae))) ?_;rfl
theorem uo:OkD P w K mg base C k "has_spot" jr ["block","x","y"] (a3 (gu t)):=ok3 ua λblock x y _ _ _ _ _ _ _ _ bx _ _=>by
 show FL _ _ [vv block,vv x,vv y] _ _ _;refine aq (aj (cf (qN (ah bx.K (ac 0) af) (ac 1) (ax bx.K (ah bx.K (ac 0) af) (ah bx.K (ac 0) af))) (bZ (qN (ah bx.K (ac 0) af) (ac 2) (ax bx.K (ah bx.K (ac 0) af) (ah bx.K (ac 0) af)))))) ?_;rfl
theorem Dy:OkD P w K mg base C k "meet" vN ["one","other","along"] (a3 (nD t)):=ok3 Dv λone LT along _ _ _ _ _ _ _ _ bx _ _=>by
 show FL _ _ [vv one,vv LT,vv along] _ _ _;refine aq (aj (Ag (pM bx (ax bx.K (ah bx.K (ac 0) (ac 2)) (ah bx.K (ac 0) af)) (ah bx.K (ac 1) (ac 2))) (bZ (pM bx (ax bx.K (ah bx.K (ac 1) (ac 2)) (ah bx.K (ac 1) af)) (ah bx.K (ac 0) (ac 2)))))) ?_;rfl
theorem vW:OkD P w K mg base C k "overlap" ll ["one","other","along"] (a3 (fR t)):=ok3 vO λone LT along _ _ _ _ _ _ _ _ bx _ _=>by
 show FL _ _ [vv one,vv LT,vv along] _ _ _;refine aq (aj (cf (DY (ah bx.K (ac 0) (ac 2)) (ax bx.K (ah bx.K (ac 1) (ac 2)) (ah bx.K (ac 1) af))) (bZ (DY (ah bx.K (ac 1) (ac 2)) (ax bx.K (ah bx.K (ac 0) (ac 2)) (ah bx.K (ac 0) af)))))) ?_;rfl
theorem pi:OkD P w K mg base C k "are_beside" gJ ["one","other"] (a2 (dR t)):=ok2 o5 λone LT _ _ _ _ _ _ _ _ bx _ _=>by
 show FL _ _ [vv one,vv LT] _ _ _;refine aq (aj (Ag (cf (ag bx G.g203 rfl (aa (ac 0) (aa (ac 1) (aa af ae)))) (bZ (ag bx G.g204 rfl (aa (ac 0) (aa (ac 1) (aa af ae)))))) (bZ (cf (ag bx G.g203 rfl (aa (ac 0) (aa (ac 1) (aa af ae)))) (bZ (ag bx G.g204 rfl (aa (ac 0) (aa (ac 1) (aa af ae))))))))) ?_;rfl
theorem pj:OkD P w K mg base C k "moved_tree" gK ["tree","order"] (a2 (cI t)):=ok2 o6 λLx My _ _ _ _ _ _ _ _ bx _ _=>by
 show FL _ _ [vv Lx,vv My] _ _ _;refine au (inj:=λ(_:Unit) (w:Unit)=>[vv Lx,vv My]) (aA (a7 (aR (av bx rfl T.uqa bJ (ac 0) (aW rfl T.uqc (by decide +kernel) rfl)))) ?_ ?_ ?_) (λ_ w=>?_);rfl
 ·refine aI (aj (ac 0)) ?_;rfl
 ·exact ap ⟨(),rfl⟩
 refine aq (aj (Nk (bD bx rfl T.uqc (FAL.out (aa (Nv (aH (N:=["number","order","tree"]) (own:=1) (cap:=[1,0]) bx (BlkOk.of (by kernel_rfl)) (aF bx.K (ac 1)) (aG (by decide)) (λ_ _ _ _ _=>ao 0 (show List.Nodup (α:=Str) ["number","order","tree"] by decide +kernel)) (λ_ _ _ _ _=>(ag (ar bx) G.g69 rfl (aa (ah (ar bx).K (ac 2) (ac 0)) (aa (ac 1) ae)))))) ae))))) ?_;rfl
theorem Bj:OkD P w K mg base C k "moved" rl ["picture","order"] (a2 (mD t)):=ok2 uc λHm My _ _ _ _ _ _ _ _ bx _ _=>by
 show FL _ _ [vv Hm,vv My,nn] _ _ _;refine ak (S':=λshown=>[vv Hm,vv My,vv shown]) (ay 2 uc.nd (ag bx G.g29 rfl (aa (ac 0) ae))) ?_ (λshown=>?_);rfl;refine aq (aj (aC (aa (ah bx.K (ac 2) af) (aa (ag bx G.g69 rfl (aa (ah bx.K (ac 2) af) (aa (ac 1) ae))) ae)))) ?_;rfl
theorem vX:OkD P w K mg base C k "swapped" lm ["picture"] (a1 (iS t)):=ok1 vP λHm _ _ _ _ _ _ _ _ bx _ _=>by
 show FL _ _ [vv Hm] _ _ _;refine aq (aj (ag bx G.g70 rfl (aa (ac 0) (aa (iF T.t_BY_SWAPPING rfl) ae)))) ?_;rfl
theorem uq:OkD P w K mg base C k "comes_to" jt ["block","area"] (a2 (gw t)):=ok2 ud λblock area _ _ _ _ _ _ _ _ bx _ _=>by
 show FL _ _ [vv block,vv area] _ _ _;refine aq (aj (Nk (AV bx rfl T.uj6 (FAL.out (aa (Nv (aH (N:=["other","block"]) (own:=1) (cap:=[0]) bx (BlkOk.of (by kernel_rfl)) (aF bx.K (ac 1)) (aG (by decide)) (λ_ _ _ _ _=>ao 0 (show List.Nodup (α:=Str) ["other","block"] by decide +kernel)) (λ_ _ _ _ _=>(cf (pM (ar bx) (ah (ar bx).K (ac 1) af) (ah (ar bx).K (ac 0) af)) (bZ (ag (ar bx) G.g205 rfl (aa (ac 1) (aa (ac 0) ae)))))))) ae))))) ?_;rfl
theorem po:OkD P w K mg base C k "areas_with" gL ["block","found"] (a2 (dS t)):=ok2 dc λblock found _ _ _ _ _ _ _ _ bx hpo _=>by
 show FL _ _ [vv block,vv found,nn,nn,nn] _ _ _;refine aO (S':=[vv block,vv found,ow [block],nn,nn]) (Ou (cg 2 dc.nd (FAL.out (aa (ac 0) ae)))) ?_ ?_;rfl;refine aO (S':=[vv block,vv found,ow [block],ow [],nn]) (Ou (cg 3 dc.nd (FAL.out ae))) ?_ ?_;rfl;refine au (inj:=λ(s:List D×List D) (w:Option Sl)=>[vv block,vv found,ow s.1,ow s.2,w]) (ba 4 (B:=λ(s:List D×List D) (w:Option Sl) x=>[vv block,vv found,ow s.1,ow s.2,vv x]) nn hpo rfl (aF bx.K (ac 1)) ?_ (ao 4 dc.nd) rfl (λ_ _ _=>rfl) (λs w x=>?_)) (λs1 w1=>?_);rfl
 ·refine eI (aA (aR (ag bx G.g209 rfl (aa (ac 0) (aa (ac 4) ae)))) ?_ ?_ ?_);rfl
  ·refine ak (S':=λarea=>[vv block,vv found,ow area,ow s.2,vv x]) (OU (bq 2 bx.K (FAL.out (aa (ac 4) ae)))) ?_ (λarea=>?_);rfl;exact ap ⟨vv x,rfl⟩
  ·refine ak (S':=λapart=>[vv block,vv found,ow s.1,ow apart,vv x]) (Qb (fL 3 (FAL.out (aa (ac 4) ae)))) ?_ (λapart=>?_);rfl;exact ap ⟨vv x,rfl⟩
 refine cq 2 (S':=[vv block,vv found,vv (.lst s1.1),ow s1.2,w1]) rfl rfl ?_;refine cq 3 (S':=[vv block,vv found,vv (.lst s1.1),vv (.lst s1.2),w1]) rfl rfl ?_;refine aq (aj (ax bx.K (ac 3) (a6 (aa (ac 2) ae)))) ?_;rfl
theorem ur:OkD P w K mg base C k "in_order" ju ["area","squares"] (a2 (gz t)):=ok2 ue λarea squares _ _ _ _ _ _ _ _ bx _ _=>by
 show FL _ _ [vv area,vv squares] _ _ _;refine aq (aj (Nv (d7 (N:=["block","area"]) (own:=1) (cap:=[0]) bx (BlkOk.of (by kernel_rfl)) (aF bx.K (ac 1)) (aG (by decide)) (λ_ _ _ _ _=>ao 0 (show List.Nodup (α:=Str) ["block","area"] by decide +kernel)) (λ_ _ _ _ _=>(qU (ar bx) (ac 0) (ac 1))) (λ_ _ _ _ _=>(ac 0))))) ?_;rfl
theorem ut:OkD P w K mg base C k "areas" rm ["picture"] (a1 (jS t)):=ok1 ia λHm _ _ _ _ _ _ _ _ bx hpo _=>by
 show FL _ _ [vv Hm,nn,nn,nn] _ _ _;refine ak (S':=λsquares=>[vv Hm,vv squares,nn,nn]) (ay 1 ia.nd (ag bx G.g189 rfl (aa (ac 0) ae))) ?_ (λsquares=>?_);rfl;refine aO (S':=[vv Hm,vv squares,vv (.lst []),nn]) (ay 2 ia.nd (a6 ae)) ?_ ?_;rfl;refine au (inj:=λ(s:D) (w:Option Sl)=>[vv Hm,vv squares,vv s,w]) (ba 3 (B:=λ(s:D) (w:Option Sl) x=>[vv Hm,vv squares,vv s,vv x]) nn hpo rfl (aF bx.K (ac 1)) ?_ (ao 3 ia.nd) rfl (λ_ _ _=>rfl) (λs w x=>?_)) (λfound1 w1=>?_);rfl
 ·refine ak (S':=λfound=>[vv Hm,vv squares,vv found,vv x]) (ay 2 ia.nd (ag bx G.g210 rfl (aa (ac 3) (aa (ac 2) ae)))) ?_ (λfound=>?_);rfl;exact ap ⟨vv x,rfl⟩
 refine aq (aj (Nv (aH (N:=["area","squares"]) (own:=1) (cap:=[1]) bx (BlkOk.of (by kernel_rfl)) (aF bx.K (ac 2)) (aG (by decide)) (λ_ _ _ _ _=>ao 0 (show List.Nodup (α:=Str) ["area","squares"] by decide +kernel)) (λ_ _ _ _ _=>(ag (ar bx) G.g211 rfl (aa (ac 0) (aa (ac 1) ae))))))) ?_;rfl
theorem Bl:OkD P w K mg base C k "is_in" rq ["x","y","area"] (a3 (mE t)):=ok3 Bi λx y area _ _ _ _ _ _ _ _ bx _ _=>by
 show FL _ _ [vv x,vv y,vv area] _ _ _;refine aq (aj (Nk (AV bx rfl T.uj6 (FAL.out (aa (Nv (aH (N:=["block","x","y"]) (own:=1) (cap:=[0,1]) bx (BlkOk.of (by kernel_rfl)) (aF bx.K (ac 2)) (aG (by decide)) (λ_ _ _ _ _=>ao 0 (show List.Nodup (α:=Str) ["block","x","y"] by decide +kernel)) (λ_ _ _ _ _=>(ag (ar bx) G.g197 rfl (aa (ac 0) (aa (ac 1) (aa (ac 2) ae))))))) ae))))) ?_;rfl
theorem mj:OkD P w K mg base C k "blocks_round" eT ["picture","x","y"] (a3 (br t)):=ok3 me λHm x y _ _ _ _ _ _ _ _ bx _ _=>by
 show FL _ _ [vv Hm,vv x,vv y] _ _ _;refine ak (S':=λ_=>[vv Hm,vv x,vv y]) (iE (ag bx G.g28 rfl (aa (ac 0) ae))) ?_ (λ_=>?_);rfl;refine ak (S':=λ_=>[vv Hm,vv x,vv y]) (iE (ag bx G.g47 rfl (aa (ac 0) (aa (ac 1) (aa (ac 2) ae))))) ?_ (λ_=>?_);rfl;refine aq (aj (ah bx.K (Nv (d7 (N:=["area","x","y"]) (own:=1) (cap:=[1,2]) bx (BlkOk.of (by kernel_rfl)) (aF bx.K (ag bx G.g212 rfl (aa (ac 0) ae))) (aG (by decide)) (λ_ _ _ _ _=>ao 0 (show List.Nodup (α:=Str) ["area","x","y"] by decide +kernel)) (λ_ _ _ _ _=>(aR (ag (ar bx) G.g213 rfl (aa (ac 1) (aa (ac 2) (aa (ac 0) ae)))))) (λ_ _ _ _ _=>(ac 0)))) af)) ?_;rfl
theorem vY:OkD P w K mg base C k "area_at" ln ["picture","x","y"] (a3 (d8 t)):=ok3 jv λHm x y _ _ _ _ _ _ _ _ bx hpo _=>by
 show FL _ _ [vv Hm,vv x,vv y,nn,nn] _ _ _;refine aO (S':=[vv Hm,vv x,vv y,ow [],nn]) (Ou (cg 3 jv.nd (FAL.out ae))) ?_ ?_;rfl;refine au (inj:=λ(s:List D) (w:Option Sl)=>[vv Hm,vv x,vv y,ow s,w]) (ba 4 (B:=λ(s:List D) (w:Option Sl) x2=>[vv Hm,vv x,vv y,ow s,vv x2]) nn hpo rfl (aF bx.K (ag bx G.g214 rfl (aa (ac 0) (aa (ac 1) (aa (ac 2) ae))))) ?_ (ao 4 jv.nd) rfl (λ_ _ _=>rfl) (λs w x2=>?_)) (λspots1 w1=>?_);rfl
 ·refine ak (S':=λspots=>[vv Hm,vv x,vv y,ow spots,vv x2]) (OU (bq 3 bx.K (FAL.out (aa (ag bx G.g193 rfl (aa (ac 4) ae)) ae)))) ?_ (λspots=>?_);rfl;exact ap ⟨vv x2,rfl⟩
 refine cq 3 (S':=[vv Hm,vv x,vv y,vv (.lst spots1),w1]) rfl rfl ?_;refine aq (aj (Nk (jf bx rfl T.uqk (FAL.out (aa (ac 3) ae))))) ?_;rfl
theorem pp:OkD P w K mg base C k "many_spots" gM ["area"] (a1 (dU t)):=ok1 o7 λarea _ _ _ _ _ _ _ _ bx _ _=>by
 show FL _ _ [vv area] _ _ _;refine aq (aj (Nk (vk bx rfl T.ujk (FAL.out (aa (Nv (aH (N:=["block"]) (own:=1) (cap:=[]) bx (BlkOk.of (by kernel_rfl)) (aF bx.K (ac 0)) (aG (by decide)) (λ_ _ _ _ _=>ao 0 (show List.Nodup (α:=Str) ["block"] by decide +kernel)) (λ_ _ _ _ _=>(bB (ar bx).K (ah (ar bx).K (ac 0) af) (ah (ar bx).K (ac 0) af))))) ae))))) ?_;rfl
theorem ja:OkD P w K mg base C k "area_sizes" gN ["picture"] (a1 (cJ t)):=ok1 o8 λHm _ _ _ _ _ _ _ _ bx _ _=>by
 show FL _ _ [vv Hm] _ _ _;refine aq (aj (Nk (pU bx rfl T.uqk (FAL.out (aa (Nv (aH (N:=["area"]) (own:=1) (cap:=[]) bx (BlkOk.of (by kernel_rfl)) (aF bx.K (ag bx G.g212 rfl (aa (ac 0) ae))) (aG (by decide)) (λ_ _ _ _ _=>ao 0 (show List.Nodup (α:=Str) ["area"] by decide +kernel)) (λ_ _ _ _ _=>(ag (ar bx) G.g216 rfl (aa (ac 0) ae))))) ae))))) ?_;rfl
theorem ft:OkD P w K mg base C k "how_many_areas" cS ["picture"] (a1 (bu t)):=ok1 j9 λHm _ _ _ _ _ _ _ _ bx _ _=>by
 show FL _ _ [vv Hm] _ _ _;refine aq (aj (Nk (aZ bx rfl T.uqf (FAL.out (aa (ag bx G.g212 rfl (aa (ac 0) ae)) ae))))) ?_;rfl
theorem rG:OkD P w K mg base C k "unlike_in" ib ["row"] (a1 (fk t)):=ok1 rz λrow _ _ _ _ _ _ _ _ bx _ _=>by
 show FL _ _ [vv row] _ _ _;refine aq (aj (Nk (vk bx rfl T.ujk (FAL.out (aa (Nv (d7 (N:=["place","row"]) (own:=1) (cap:=[0]) bx (BlkOk.of (by kernel_rfl)) (AR (kD rfl T.uqe (FAL.out (aa af (aa (Nk (aZ bx rfl T.uqf (FAL.out (aa (ac 0) ae)))) ae))))) (aG (by decide)) (λ_ _ _ _ _=>ao 0 (show List.Nodup (α:=Str) ["place","row"] by decide +kernel)) (λ_ _ _ _ _=>(fe (ar bx) (ah (ar bx).K (ac 1) (ac 0)) (ah (ar bx).K (ac 1) (fB (ac 0) af)))) (λ_ _ _ _ _=>af))) ae))))) ?_;rfl
theorem lG:OkD P w K mg base C k "unlike_across" dH ["picture"] (a1 (bE t)):=ok1 lq λHm _ _ _ _ _ _ _ _ bx _ _=>by
 show FL _ _ [vv Hm] _ _ _;refine aq (aj (Nk (vk bx rfl T.ujk (FAL.out (aa (Nv (aH (N:=["row"]) (own:=1) (cap:=[]) bx (BlkOk.of (by kernel_rfl)) (aF bx.K (ag bx G.g50 rfl (aa (ac 0) ae))) (aG (by decide)) (λ_ _ _ _ _=>ao 0 (show List.Nodup (α:=Str) ["row"] by decide +kernel)) (λ_ _ _ _ _=>(ag (ar bx) G.g219 rfl (aa (ac 0) ae))))) ae))))) ?_;rfl
theorem qk:OkD P w K mg base C k "border" nR ["picture"] (a1 (g6 t)):=ok1 yZ λHm _ _ _ _ _ _ _ _ bx _ _=>by
 show FL _ _ [vv Hm] _ _ _;refine aq (aj (ax bx.K (ag bx G.g220 rfl (aa (ac 0) ae)) (ag bx G.g220 rfl (aa (ag bx G.g71 rfl (aa (ac 0) ae)) ae)))) ?_;rfl
theorem pq:OkD P w K mg base C k "with_worth" gO ["block","worth"] (a2 (dW t)):=ok2 o9 λblock worth _ _ _ _ _ _ _ _ bx _ _=>by
 show FL _ _ [vv block,vv worth] _ _ _;refine aq (aj (aC (aa (ah bx.K (ac 0) af) (aa (ah bx.K (ac 0) af) (aa (ah bx.K (ac 0) af) (aa (ac 1) ae)))))) ?_;rfl
theorem zd:OkD P w K mg base C k "poured" nS ["picture","x","y","worth"] (a4 (eN t)):=ok4 lr λHm x y worth _ _ _ _ _ _ _ _ bx _ _=>by
 show FL _ _ [vv Hm,vv x,vv y,vv worth,nn,nn] _ _ _;refine ak (S':=λarea=>[vv Hm,vv x,vv y,vv worth,vv area,nn]) (ay 4 lr.nd (ag bx G.g214 rfl (aa (ac 0) (aa (ac 1) (aa (ac 2) ae))))) ?_ (λarea=>?_);rfl;refine ak (S':=λ_=>[vv Hm,vv x,vv y,vv worth,vv area,nn]) (iE (ag bx G.g65 rfl (aa (ac 3) ae))) ?_ (λ_=>?_);rfl;refine ak (S':=λrest_=>[vv Hm,vv x,vv y,vv worth,vv area,vv rest_]) (Rl (qL 5 (N:=["block","area"]) (own:=1) (cap:=[4]) bx (BlkOk.of (by kernel_rfl)) (aF bx.K (ag bx G.g189 rfl (aa (ac 0) ae))) (aG (by decide)) (λ_ _ _ _ _=>ao 0 (show List.Nodup (α:=Str) ["block","area"] by decide +kernel)) (λ_ _ _ _ _=>(kL (ar bx) (ac 0) (ac 1))) (λ_ _ _ _ _=>(ac 0)) lr.nd (hsw:=by kernel_rfl))) ?_ (λrest_=>?_);rfl;refine aq (aj (ag bx G.g196 rfl (aa (ah bx.K (ac 0) af) (aa (ax bx.K (ac 5) (Nv (aH (N:=["block","worth"]) (own:=1) (cap:=[3]) bx (BlkOk.of (by kernel_rfl)) (aF bx.K (ac 4)) (aG (by decide)) (λ_ _ _ _ _=>ao 0 (show List.Nodup (α:=Str) ["block","worth"] by decide +kernel)) (λ_ _ _ _ _=>(ag (ar bx) G.g222 rfl (aa (ac 0) (aa (ac 1) ae))))))) ae)))) ?_;rfl
theorem ze:OkD P w K mg base C k "_law_cell" nT ["_law_script","_law_k"] (a2 (jU t)):=ok2 y6 λF9 Gs _ _ _ _ _ _ _ _ bx _ _=>by
 show FL _ _ [vv F9,vv Gs] _ _ _;refine au (inj:=λ(_:Unit) (w:Unit)=>[vv F9,vv Gs]) (aA (wI (ac 1) (Nk (aZ bx rfl T.uqf (FAL.out (aa (ac 0) ae))))) ?_ ?_ ?_) (λ_ w=>?_);rfl
 ·refine aq (aj (ah bx.K (ac 0) (ac 1))) ?_;rfl
 ·exact ap ⟨(),rfl⟩
 refine au (inj:=λ(_:Unit) (w1:Unit)=>[vv F9,vv Gs]) (aA (fK bx (ac 0) (a6 ae)) ?_ ?_ ?_) (λ_ w1=>?_);rfl
 ·refine aI (aj af) ?_;rfl
 ·exact ap ⟨(),rfl⟩
 refine aq (aj (ax bx.K (bB bx.K (ah bx.K (ac 0) (f9 (ac 1) (Nk (aZ bx rfl T.uqf (FAL.out (aa (ac 0) ae)))))) af) (ac 1))) ?_;rfl
theorem zf:OkD P w K mg base C k "_law_pick" nU ["_law_script","_law_k","_law_many"] (a3 (jV t)):=ok3 qf λF9 Gs G3 _ _ _ _ _ _ _ _ bx _ _=>by
 show FL _ _ [vv F9,vv Gs,vv G3,nn] _ _ _;refine ak (S':=λGK=>[vv F9,vv Gs,vv G3,vv GK]) (ay 3 qf.nd (f9 (bB bx.K (ax bx.K (ag bx G.g30 rfl (aa (ac 0) (aa (ac 1) ae))) (bB bx.K af (ax bx.K (ac 1) af))) af) af)) ?_ (λGK=>?_);rfl;refine aq (aj (f9 (f9 (ax bx.K (bB bx.K (ac 3) (ac 3)) (f8 (ac 3) af)) af) (ac 2))) ?_;rfl
theorem zg:OkD P w K mg base C k "_law_tree" nV ["_law_script","_law_at","_law_size"] (a3 (g7 t)):=ok3 qh λF9 Gu Gb _ _ _ _ _ _ _ _ bx _ _=>by
 show FL _ _ [vv F9,vv Gu,vv Gb,nn] _ _ _;refine ak (S':=λGR=>[vv F9,vv Gu,vv Gb,vv GR]) (ay 3 qh.nd (ag bx G.g31 rfl (aa (ac 0) (aa (ac 1) (aa af ae))))) ?_ (λGR=>?_);rfl;refine au (inj:=λ(_:Unit) (w:Unit)=>[vv F9,vv Gu,vv Gb,vv GR]) (aA (N7 (di (fK bx (ac 2) af) (cC (wI (ac 3) af)))) ?_ ?_ ?_) (λ_ w=>?_);rfl
 ·refine aq (aj (ah bx.K (a6 (aa af (aa af (aa af (aa af (aa af (aa (ag bx G.g31 rfl (aa (ac 0) (aa (ax bx.K (ac 1) af) (aa af ae)))) ae))))))) (ag bx G.g31 rfl (aa (ac 0) (aa (ax bx.K (ac 1) af) (aa af ae)))))) ?_;rfl
 ·exact ap ⟨(),rfl⟩
 refine au (inj:=λ(_:Unit) (w1:Unit)=>[vv F9,vv Gu,vv Gb,vv GR]) (aA (fK bx (ac 3) af) ?_ ?_ ?_) (λ_ w1=>?_);rfl
 ·refine aq (aj (bB bx.K (aC (aa (ag bx G.g32 rfl (aa (ac 0) (aa (ax bx.K (ac 1) af) (aa (fB (ac 2) af) ae)))) ae)) af)) ?_;rfl
 ·exact ap ⟨(),rfl⟩
 refine aq (aj (Nk (bD bx rfl T.uqc (FAL.out (aa (Nv (aH (N:=["_law_k","_law_script","_law_size","_law_at"]) (own:=1) (cap:=[0,2,1]) bx (BlkOk.of (by kernel_rfl)) (dm (aS rfl T.uqe (FAL.out (aa af ae)))) (aG (by decide)) (λ_ _ _ _ _=>ao 0 (show List.Nodup (α:=Str) ["_law_k","_law_script","_law_size","_law_at"] by decide +kernel)) (λ_ _ _ _ _=>(ag (ar bx) G.g32 rfl (aa (ac 1) (aa (ax (ar bx).K (ax (ar bx).K (bB (ar bx).K af (ac 3)) af) (bB (ar bx).K af (ac 0))) (aa (fB (ac 2) af) ae))))))) ae))))) ?_;rfl
theorem rH:OkD P w K mg base C k "_law_rows_of" ic ["_law_size","_law_tree_here"] (a2 (dr t)):=ok2 cN λGb Gn _ _ _ _ _ _ _ _ bx hpo _=>by
 show FL _ _ [vv Gb,vv Gn,nn,nn,nn,nn] _ _ _;refine au (inj:=λ(_:Unit) (w:Unit)=>[vv Gb,vv Gn,nn,nn,nn,nn]) (aA (fK bx (ac 0) af) ?_ ?_ ?_) (λ_ w=>?_);rfl
 ·refine aI (aj (a6 (aa (a6 (aa (ac 1) ae)) ae))) ?_;rfl
 ·exact ap ⟨(),rfl⟩
 refine ak (S':=λGw=>[vv Gb,vv Gn,vv Gw,nn,nn,nn]) (ay 2 cN.nd (Ah (aR (av bx rfl T.uqa bJ (ac 1) (aW rfl T.uqc (by decide +kernel) rfl))) (ac 1) (bB bx.K (aC (aa (ac 1) ae)) af))) ?_ (λGw=>?_);rfl;refine ak (S':=λGo=>[vv Gb,vv Gn,vv Gw,vv Go,nn,nn]) (ay 3 cN.nd (Nv (aH (N:=["_law_part","_law_size"]) (own:=1) (cap:=[0]) bx (BlkOk.of (by kernel_rfl)) (aF bx.K (ac 2)) (aG (by decide)) (λ_ _ _ _ _=>ao 0 (show List.Nodup (α:=Str) ["_law_part","_law_size"] by decide +kernel)) (λ_ _ _ _ _=>(ag (ar bx) G.g54 rfl (aa (fB (ac 1) af) (aa (ac 0) ae)))))) (hs:=by kernel_rfl)) ?_ (λGo=>?_);rfl;refine aO (S':=[vv Gb,vv Gn,vv Gw,vv Go,ow [],nn]) (Ou (cg 4 cN.nd (FAL.out ae))) ?_ ?_;rfl;refine au (inj:=λ(s:List D) (w1:Option Sl)=>[vv Gb,vv Gn,vv Gw,vv Go,ow s,w1]) (ba 5 (B:=λ(s:List D) (w1:Option Sl) x1=>[vv Gb,vv Gn,vv Gw,vv Go,ow s,vv x1]) nn hpo rfl (aF bx.K (aC (aa af (aa af ae)))) ?_ (ao 5 cN.nd) rfl (λ_ _ _=>rfl) (λs w1 x1=>?_)) (λGA w2=>?_);rfl
 ·refine ak (S':=λGE=>[vv Gb,vv Gn,vv Gw,vv Go,ow GE,vv x1]) (OU (bq 4 bx.K (FAL.out (aa (Nv (aH (N:=["_law_k","_law_some","_law_upper"]) (own:=1) (cap:=[3,5]) bx (BlkOk.of (by kernel_rfl)) (dm (aS rfl T.uqe (FAL.out (aa (Nk (aZ bx rfl T.uqf (FAL.out (aa (ah bx.K (ac 3) (ac 5)) ae)))) ae)))) (aG (by decide)) (λ_ _ _ _ _=>ao 0 (show List.Nodup (α:=Str) ["_law_k","_law_some","_law_upper"] by decide +kernel)) (λ_ _ _ _ _=>(ax (ar bx).K (ah (ar bx).K (ah (ar bx).K (ac 1) (ac 2)) (ac 0)) (ah (ar bx).K (ah (ar bx).K (ac 1) (ax (ar bx).K (ac 2) af)) (ac 0)))))) ae)))) ?_ (λGE=>?_);rfl;exact ap ⟨vv x1,rfl⟩
 refine cq 4 (S':=[vv Gb,vv Gn,vv Gw,vv Go,vv (.lst GA),w2]) rfl rfl ?_;refine aI (aj (ac 4)) ?_;rfl
theorem zh:OkD P w K mg base C k "_law_rows" nW ["_law_picture_here"] (a1 (jW t)):=ok1 y8 λF8 _ _ _ _ _ _ _ _ bx _ _=>by
 show FL _ _ [vv F8] _ _ _;refine aq (aj (Nk (bD bx rfl T.uqc (FAL.out (aa (Nv (aH (N:=["_law_row"]) (own:=1) (cap:=[]) bx (BlkOk.of (by kernel_rfl)) (aF bx.K (ag bx G.g54 rfl (aa (ah bx.K (ac 0) af) (aa (ah bx.K (ac 0) af) ae)))) (aG (by decide)) (λ_ _ _ _ _=>ao 0 (show List.Nodup (α:=Str) ["_law_row"] by decide +kernel)) (λ_ _ _ _ _=>(Nk (bD (ar bx) rfl T.uqc (FAL.out (aa (ac 0) ae))))))) ae))))) ?_;rfl
theorem vZ:OkD P w K mg base C k "_law_least" lu ["_law_rows_here"] (a1 (fS t)):=ok1 cw λF7 _ _ _ _ _ _ _ _ bx hpo _=>by
 show FL _ _ [vv F7,nn,nn,nn,nn,nn,nn] _ _ _;refine aO (S':=[vv F7,ow [],nn,nn,nn,nn,nn]) (Ou (cg 1 cw.nd (FAL.out ae))) ?_ ?_;rfl;refine au (inj:=λ(s:List D) (w:Option Sl)=>[vv F7,ow s,w,nn,nn,nn,nn]) (ba 2 (B:=λ(s:List D) (w:Option Sl) x=>[vv F7,ow s,vv x,nn,nn,nn,nn]) nn hpo rfl (aF bx.K (ac 0)) ?_ (ao 2 cw.nd) rfl (λ_ _ _=>rfl) (λs w x=>?_)) (λGr w1=>?_);rfl
 ·refine ak (S':=λGS=>[vv F7,ow GS,vv x,nn,nn,nn,nn]) (OU (bq 1 bx.K (FAL.out (aa (ac 2) ae)))) ?_ (λGS=>?_);rfl;exact ap ⟨vv x,rfl⟩
 refine cq 1 (S':=[vv F7,vv (.lst Gr),w1,nn,nn,nn,nn]) rfl rfl ?_;refine au (inj:=λ(_:Unit) (w2:Unit)=>[vv F7,vv (.lst Gr),w1,nn,nn,nn,nn]) (aA (fK bx (Nk (yB bx rfl T.uqf rfl T.uj9 (FAL.out (aa (ac 1) ae)))) af) ?_ ?_ ?_) (λ_ w2=>?_);rfl
 ·refine aq (aj (ah bx.K (ac 1) af)) ?_;rfl
 ·exact ap ⟨(),rfl⟩
 refine ak (S':=λGB=>[vv F7,vv (.lst Gr),w1,vv GB,nn,nn,nn]) (ay 3 cw.nd (f8 (Nk (aZ bx rfl T.uqf (FAL.out (aa (ac 0) ae)))) af)) ?_ (λGB=>?_);rfl;refine aO (S':=[vv F7,vv (.lst Gr),w1,vv GB,ow [],nn,nn]) (Ou (cg 4 cw.nd (FAL.out ae))) ?_ ?_;rfl;refine au (inj:=λ(s1:List D) (w3:Option Sl×Option Sl)=>[vv F7,vv (.lst Gr),w1,vv GB,ow s1,w3.1,w3.2]) (ba 5 (B:=λ(s1:List D) (w3:Option Sl×Option Sl) x3=>[vv F7,vv (.lst Gr),w1,vv GB,ow s1,vv x3,w3.2]) (nn,nn) hpo rfl (aF bx.K (aC (aa af (aa (ac 3) ae)))) ?_ (ao 5 cw.nd) rfl (λ_ _ _=>rfl) (λs1 w3 x3=>?_)) (λGM w6=>?_);rfl
 ·refine au (inj:=λ(s2:List D) (w4:Option Sl)=>[vv F7,vv (.lst Gr),w1,vv GB,ow s2,vv x3,w4]) (ba 6 (B:=λ(s2:List D) (w4:Option Sl) x4=>[vv F7,vv (.lst Gr),w1,vv GB,ow s2,vv x3,vv x4]) w3.2 hpo rfl (aF bx.K (aC (aa af (aa (ac 3) ae)))) ?_ (ao 6 cw.nd) rfl (λ_ _ _=>rfl) (λs2 w4 x4=>?_)) (λHa w5=>?_);rfl
  ·refine ak (S':=λGw=>[vv F7,vv (.lst Gr),w1,vv GB,ow Gw,vv x3,vv x4]) (Qb (fL 4 (FAL.out (aa (ag bx G.g56 rfl (aa (Nv (aH (N:=["_law_row","_law_left","_law_half"]) (own:=1) (cap:=[6,3]) bx (BlkOk.of (by kernel_rfl)) (aF bx.K (nk bx.K (ac 0) (m7 (ac 5)) (m7 (ax bx.K (ac 5) (ac 3))))) (aG (by decide)) (λ_ _ _ _ _=>ao 0 (show List.Nodup (α:=Str) ["_law_row","_law_left","_law_half"] by decide +kernel)) (λ_ _ _ _ _=>(nk (ar bx).K (ac 0) (m7 (ac 1)) (m7 (ax (ar bx).K (ac 1) (ac 2))))))) ae)) ae)))) ?_ (λGw=>?_);rfl;exact ap ⟨vv x4,rfl⟩
  exact ap ⟨(vv x3,w5),rfl⟩
 refine cq 4 (S':=[vv F7,vv (.lst Gr),w1,vv GB,vv (.lst GM),w6.1,w6.2]) rfl rfl ?_;refine aq (aj (Nk (bD bx rfl T.uqc (FAL.out (aa (ac 4) ae))))) ?_;rfl
theorem Dz:OkD P w K mg base C k "_law_of" vQ ["_law_rows_here"] (a1 (q9 t)):=ok1 Dw λF7 _ _ _ _ _ _ _ _ bx _ _=>by
 show FL _ _ [vv F7] _ _ _;refine aq (aj (aC (aa (AQ (yx bx (a6 (aa af (aa af (aa af (aa af ae))))) (FAL.out (aa (Nk (aZ bx rfl T.uqf (FAL.out (aa (ac 0) ae)))) ae)))) (aa (ag bx G.g56 rfl (aa (ac 0) ae)) ae)))) ?_;rfl
theorem uu:OkD P w K mg base C k "_law_places" jw ["_law_thing"] (a1 (eQ t)):=ok1 ig λGa _ _ _ _ _ _ _ _ bx hpo _=>by
 show FL _ _ [vv Ga,nn,nn] _ _ _;refine aO (S':=[vv Ga,ow ([(.tup [])]),nn]) (Ou (cg 1 ig.nd (FAL.out (aa (aC ae) ae)))) ?_ ?_;rfl;refine au (inj:=λ(GQ:List D) (w2:Option Sl)=>[vv Ga,ow GQ,w2]) (aA (aR (av bx rfl T.uqa bJ (ac 0) (aW rfl T.uqc (by decide +kernel) rfl))) ?_ ?_ ?_) (λGQ w2=>?_);rfl
 ·refine au (inj:=λ(s:List D) (w:Option Sl)=>[vv Ga,ow s,w]) (ba 2 (B:=λ(s:List D) (w:Option Sl) x1=>[vv Ga,ow s,vv x1]) nn hpo rfl (dm (aS rfl T.uqe (FAL.out (aa (Nk (aZ bx rfl T.uqf (FAL.out (aa (ac 0) ae)))) ae)))) ?_ (ao 2 ig.nd) rfl (λ_ _ _=>rfl) (λs w x1=>?_)) (λGA w1=>?_);rfl
  ·refine ak (S':=λGE=>[vv Ga,ow GE,vv x1]) (OU (bq 1 bx.K (FAL.out (aa (Nv (aH (N:=["_law_place","_law_k"]) (own:=1) (cap:=[2]) bx (BlkOk.of (by kernel_rfl)) (aF bx.K (ag bx G.g34 rfl (aa (ah bx.K (ac 0) (ac 2)) ae))) (aG (by decide)) (λ_ _ _ _ _=>ao 0 (show List.Nodup (α:=Str) ["_law_place","_law_k"] by decide +kernel)) (λ_ _ _ _ _=>(ax (ar bx).K (aC (aa (ac 1) ae)) (ac 0))))) ae)))) ?_ (λGE=>?_);rfl;exact ap ⟨vv x1,rfl⟩
  exact ap ⟨w1,rfl⟩
 ·exact ap ⟨nn,rfl⟩
 refine cq 1 (S':=[vv Ga,vv (.lst GQ),w2]) rfl rfl ?_;refine aI (aj (ac 1)) ?_;rfl
theorem Bm:OkD P w K mg base C k "_law_put" rA ["_law_thing","_law_place","_law_new"] (a3 (jX t)):=ok3 uf λGa Gg G1 _ _ _ _ _ _ _ _ bx _ _=>by
 show FL _ _ [vv Ga,vv Gg,vv G1,nn] _ _ _;refine au (inj:=λ(_:Unit) (w:Unit)=>[vv Ga,vv Gg,vv G1,nn]) (aA (fK bx (ac 1) (aC ae)) ?_ ?_ ?_) (λ_ w=>?_);rfl
 ·refine aI (aj (ac 2)) ?_;rfl
 ·exact ap ⟨(),rfl⟩
 refine ak (S':=λGs=>[vv Ga,vv Gg,vv G1,vv Gs]) (ay 3 uf.nd (ah bx.K (ac 1) af)) ?_ (λGs=>?_);rfl;refine aq (aj (ax bx.K (ax bx.K (nk bx.K (ac 0) Ay (m7 (ac 3))) (aC (aa (ag bx G.g35 rfl (aa (ah bx.K (ac 0) (ac 3)) (aa (nk bx.K (ac 1) (m7 af) Ay) (aa (ac 2) ae)))) ae))) (nk bx.K (ac 0) (m7 (ax bx.K (ac 3) af)) Ay))) ?_;rfl
theorem v3:OkD P w K mg base C k "_law_there" lv ["_law_thing","_law_place"] (a2 (iT t)):=ok2 jy λGa Gg _ _ _ _ _ _ _ _ bx hpo _=>by
 show FL _ _ [vv Ga,vv Gg,nn] _ _ _;refine au (inj:=λ(s:D) (w:Option Sl)=>[vv s,vv Gg,w]) (ba 2 (B:=λ(s:D) (w:Option Sl) x=>[vv s,vv Gg,vv x]) nn hpo rfl (aF bx.K (ac 1)) ?_ (ao 2 jy.nd) rfl (λ_ _ _=>rfl) (λs w x=>?_)) (λHb w1=>?_);rfl
 ·refine ak (S':=λGT=>[vv GT,vv Gg,vv x]) (ay 0 jy.nd (ah bx.K (ac 0) (ac 2))) ?_ (λGT=>?_);rfl;exact ap ⟨vv x,rfl⟩
 refine aI (aj (ac 0)) ?_;rfl
theorem kg:OkD P w K mg base C k "_law_spoilt_thing" cU ["_law_script","_law_at","_law_thing"] (a3 (bV t)):=ok3 bi λF9 Gu Ga _ _ _ _ _ _ _ _ bx _ _=>by
 show FL _ _ [vv F9,vv Gu,vv Ga,nn,nn,nn,nn] _ _ _;refine ak (S':=λGv=>[vv F9,vv Gu,vv Ga,vv Gv,nn,nn,nn]) (ay 3 bi.nd (ag bx G.g34 rfl (aa (ac 2) ae))) ?_ (λGv=>?_);rfl;refine ak (S':=λGg=>[vv F9,vv Gu,vv Ga,vv Gv,vv Gg,nn,nn]) (ay 4 bi.nd (ah bx.K (ac 3) (ag bx G.g31 rfl (aa (ac 0) (aa (ac 1) (aa (Nk (aZ bx rfl T.uqf (FAL.out (aa (ac 3) ae)))) ae)))))) ?_ (λGg=>?_);rfl;refine ak (S':=λGy=>[vv F9,vv Gu,vv Ga,vv Gv,vv Gg,vv Gy,nn]) (ay 5 bi.nd (ag bx G.g36 rfl (aa (ac 2) (aa (ac 4) ae)))) ?_ (λGy=>?_);rfl;refine aO (S':=[vv F9,vv Gu,vv Ga,vv Gv,vv Gg,vv Gy,ow ([(.int (-1)),.int 0,.int 3,.int 4,.int 9,.int 10,(.bl true),.non,(.str "1"),(.tup []),(.tup [.int 1,.int 2,.int 3]),(.tup [.int 1,.int 1,.int 1,.int 1]),(.tup [.int 1,.int 2,.int 3,.int 4,.int 5])])]) (FSw.out (Dh 6 bi.nd (NA (Df bd) (NA bd (NA bd (NA bd (NA bd (NA bd (NA EW (NA De (NA dL (NA (mz ae) (NA (mz (NA bd (NA bd (NA bd ae)))) (NA (mz (NA bd (NA bd (NA bd (NA bd ae))))) (NA (mz (NA bd (NA bd (NA bd (NA bd (NA bd ae)))))) ae))))))))))))))) ?_ ?_;rfl;refine ak (S':=λGo=>[vv F9,vv Gu,vv Ga,vv Gv,vv Gg,vv Gy,ow Go]) (OU (bq 6 bx.K (FAL.out (aa (a6 (aa (a6 (aa af (aa af (aa af (aa af ae))))) (aa (bB bx.K (aC (aa (ac 5) ae)) af) ae))) ae)))) ?_ (λGo=>?_);rfl;refine aq (aj (ag bx G.g35 rfl (aa (ac 2) (aa (ac 4) (aa (sL 6 bx.K (ag bx G.g31 rfl (aa (ac 0) (aa (ax bx.K (ac 1) af) (aa af ae))))) ae))))) ?_;rfl
theorem mm:OkD P w K mg base C k "_law_is_picture" eU ["_law_thing"] (a1 (cK t)):=ok1 mf λGa _ _ _ _ _ _ _ _ bx _ _=>by
 show FL _ _ [vv Ga] _ _ _;refine au (inj:=λ(_:Unit) (w:Unit)=>[vv Ga]) (aA (N7 (di (a7 (aR (av bx rfl T.uqa bJ (ac 0) (aW rfl T.uqc (by decide +kernel) rfl)))) (di (fe bx (Nk (aZ bx rfl T.uqf (FAL.out (aa (ac 0) ae)))) af) (di (a7 (aR (av bx rfl T.uqa qQ (ah bx.K (ac 0) af) (aW rfl T.uq0 (by decide +kernel) rfl)))) (cC (aR (av bx rfl T.uqa nh (ah bx.K (ac 0) af) (aW rfl T.uq9 (by decide +kernel) rfl)))))))) ?_ ?_ ?_) (λ_ w=>?_);rfl
 ·refine aI (aj fc) ?_;rfl
 ·exact ap ⟨(),rfl⟩
 refine aq (aj (cf (mt af (ah bx.K (ac 0) af) af) (bZ (ag bx G.g39 rfl (aa (ah bx.K (ac 0) af) (aa (ah bx.K (ac 0) af) ae)))))) ?_;rfl
theorem rJ:OkD P w K mg base C k "_law_is_tree" ij ["_law_thing","_law_size"] (a2 (du t)):=ok2 rB λGa Gb _ _ _ _ _ _ _ _ bx _ _=>by
 show FL _ _ [vv Ga,vv Gb] _ _ _;refine au (inj:=λ(_:Unit) (w:Unit)=>[vv Ga,vv Gb]) (aA (N7 (kz (aR (av bx rfl T.uqa qQ (ac 0) (aW rfl T.uq0 (by decide +kernel) rfl))) (jG (a7 (aR (av bx rfl T.uqa nh (ac 0) (aW rfl T.uq9 (by decide +kernel) rfl))))))) ?_ ?_ ?_) (λ_ w=>?_);rfl
 ·refine aq (aj (mt af (ac 0) af)) ?_;rfl
 ·exact ap ⟨(),rfl⟩
 refine au (inj:=λ(_:Unit) (w1:Unit)=>[vv Ga,vv Gb]) (aA (N7 (di (a7 (aR (av bx rfl T.uqa bJ (ac 0) (aW rfl T.uqc (by decide +kernel) rfl)))) (di (fe bx (Nk (aZ bx rfl T.uqf (FAL.out (aa (ac 0) ae)))) af) (cC (fK bx (ac 1) af))))) ?_ ?_ ?_) (λ_ w1=>?_);rfl
 ·refine aI (aj fc) ?_;rfl
 ·exact ap ⟨(),rfl⟩
 refine aq (aj (pM bx (Nv (d7 (N:=["_law_part","_law_size"]) (own:=1) (cap:=[1]) bx (BlkOk.of (by kernel_rfl)) (aF bx.K (ac 0)) (aG (by decide)) (λ_ _ _ _ _=>ao 0 (show List.Nodup (α:=Str) ["_law_part","_law_size"] by decide +kernel)) (λ_ _ _ _ _=>(a7 (aR (ag (ar bx) G.g39 rfl (aa (ac 0) (aa (fB (ac 1) af) ae)))))) (λ_ _ _ _ _=>(ac 0)))) (a6 ae))) ?_;rfl
theorem zi:OkD P w K mg base C k "_law_word" nX ["_law_kept"] (a1 (g8 t)):=ok1 lw λGz _ _ _ _ _ _ _ _ bx _ _=>by
 show FL _ _ [vv Gz,nn,nn] _ _ _;refine ak (S':=λG2=>[vv Gz,ow G2,nn]) (Ou (cg 1 lw.nd (FAL.out (aa (av bx rfl T.uqa T.uj1 (ac 0) (bI rfl T.ujw rfl)) (aa (av bx rfl T.uqa T.ujn (ac 0) (bI rfl T.uqh rfl)) (aa (av bx rfl T.uqa T.ujo (ac 0) (bI rfl T.ujl rfl)) ae)))))) ?_ (λG2=>?_);rfl;refine ak (S':=λGU=>[vv Gz,ow GU,nn]) (Qb (fL 1 (FAL.out (aa (av bx rfl T.uqa T.ujp (ac 0) (bI rfl T.ujm rfl)) ae)))) ?_ (λGU=>?_);rfl;refine ak (S':=λGV=>[vv Gz,ow GV,nn]) (OU (bq 1 bx.K (FAL.out (aa (a6 (aa (av bx rfl T.uqa T.ujf (ac 0) (bI rfl T.uqm rfl)) (aa (av bx rfl T.uqa T.uj2 (ac 0) (bI rfl T.ujy rfl)) (aa (av bx rfl T.uqa T.uj3 (ac 0) (bI rfl T.uja rfl)) ae)))) ae)))) ?_ (λGV=>?_);rfl;refine ak (S':=λGH=>[vv Gz,ow GH,nn]) (OU (bq 1 bx.K (FAL.out (aa (a6 (aa (av bx rfl T.uqa T.uj4 (ac 0) (bI rfl T.ujz rfl)) (aa (av bx rfl T.uqa T.uq7 (ac 0) (bI rfl T.uq6 rfl)) (aa (av bx rfl T.uqa T.uj5 (ac 0) (bI rfl T.ujx rfl)) ae)))) ae)))) ?_ (λGH=>?_);rfl;refine cq 1 (S':=[vv Gz,vv (.lst GH),nn]) rfl rfl ?_;refine au (inj:=λ(_:Unit) (w:Unit)=>[vv Gz,vv (.lst GH),nn]) (aA (N7 (di (fe bx (AQ (AF bx (ac 1) (FAL.out (aa fc ae)))) af) (cC (a7 (aR (av bx rfl T.uqa T.i_ValueError (ac 0) (aW rfl T.b_ValueError (by decide +kernel) rfl))))))) ?_ ?_ ?_) (λ_ w=>?_);rfl
 ·refine aI (aj bO) ?_;rfl
 ·exact ap ⟨(),rfl⟩
 refine aO (S':=[vv Gz,vv (.lst GH),vv (.lst [(.str "bad box"),(.str "no blocks"),(.str "no change"),(.str "no number"),(.str "no picture"),(.str "no rule"),(.str "no spot"),(.str "no text")])]) (FSw.out (Di 2 lw.nd (Dg (NA dL (NA dL (NA dL (NA dL (NA dL (NA dL (NA dL (NA dL ae))))))))))) ?_ ?_;rfl;refine aq (aj (ah bx.K (ax bx.K (ac 2) (a6 (aa bO (aa bO ae)))) (AQ (yk bx (ac 1) (FAL.out (aa fc ae)))))) ?_;rfl
theorem zj:OkD P w K mg base C k "_law_do" nY ["_law_what","_law_picture_here","_law_x","_law_y","_law_worth"] (a5 (bR t)):=ok5 d9 λGF F8 Gj Gk Gh _ _ _ _ _ _ _ _ bx _ _=>by
 show FL _ _ [vv GF,vv F8,vv Gj,vv Gk,vv Gh,nn,nn,nn] _ _ _;refine aO (S':=[vv GF,vv F8,vv Gj,vv Gk,vv Gh,vv .non,nn,nn]) (ay 5 d9.nd jb) ?_ ?_;rfl;refine aO (S':=[vv GF,vv F8,vv Gj,vv Gk,vv Gh,vv .non,vv .non,nn]) (ay 6 d9.nd jb) ?_ ?_;rfl;refine ES 7 5 (B:=λk=>[nn,nn,nn,nn,nn,vv (.exc k),nn,nn]) (CL 7 5 (inj:=λ(GJ:D) (w:Unit)=>[vv GF,vv F8,vv Gj,vv Gk,vv Gh,vv .non,vv GJ,nn]) bx (by decide) rfl rfl rfl d9.nd rfl T.uje T.takes (λpn xe H0 Z0 E bx=>?_)) (λ_=>rfl) (λGJ w=>?_) (λk=>?_)
 ·refine eI (aA (wI (ac 0) af) ?_ ?_ ?_);rfl
  ·refine ak (S':=λGW=>[vv GF,vv F8,vv Gj,vv Gk,vv Gh,vv .non,vv GW,nn]) (ay 6 d9.nd (Ah (fK bx (ac 0) af) (ag bx G.g215 rfl (aa (ac 1) (aa (ac 2) (aa (ac 3) ae)))) (ag bx G.g223 rfl (aa (ac 1) (aa (ac 2) (aa (ac 3) (aa (ac 4) ae))))))) ?_ (λGW=>?_);rfl;exact ap ⟨(),rfl⟩
  ·refine ak (S':=λGP=>[vv GF,vv F8,vv Gj,vv Gk,vv Gh,vv .non,vv GP,nn]) (ay 6 d9.nd (sO bx G.v (ah bx.K (a6 (aa (sN T.f_areas rfl) (aa (sN T.f_area_sizes rfl) (aa (sN T.f_how_many_areas rfl) (aa (sN T.f_border rfl) ae))))) (fB (ac 0) af)) (aa (ac 1) ae))) ?_ (λGP=>?_);rfl;exact ap ⟨(),rfl⟩
 ·refine au (inj:=λ(_:Unit) (w1:Unit)=>[vv GF,vv F8,vv Gj,vv Gk,vv Gh,vv .non,vv GJ,nn]) (aA (D0 (ac 5) jb) ?_ ?_ ?_) (λ_ w1=>?_);rfl
  ·refine aI (aj (ac 6)) ?_;rfl
  ·exact ap ⟨(),rfl⟩
  refine aq (aj (ag bx G.g40 rfl (aa (ac 5) ae))) ?_;rfl
 ·refine au (inj:=λ(_:Unit) (w2:Unit)=>[nn,nn,nn,nn,nn,vv (.exc k),nn,nn]) (aA (D0 (ac 5) jb) ?_ ?_ ?_) (λ_ w2=>?_);rfl
  ·refine aq (aj (ac 6)) ?_;rfl
  ·exact ap ⟨(),rfl⟩
  refine aq (aj (ag bx G.g40 rfl (aa (ac 5) ae))) ?_;rfl
theorem zk:OkD P w K mg base C k "_law_area" nZ ["_law_rows_here","_law_x","_law_y"] (a3 (jY t)):=ok3 cW λF7 Gj Gk _ _ _ _ _ _ _ _ bx hpo _=>by
 show FL _ _ [vv F7,vv Gj,vv Gk,nn,nn,nn,nn,nn] _ _ _;refine aO (S':=[vv F7,vv Gj,vv Gk,ow ([(.tup [Gj,Gk])]),nn,nn,nn,nn]) (Ou (cg 3 cW.nd (FAL.out (aa (aC (aa (ac 1) (aa (ac 2) ae))) ae)))) ?_ ?_;rfl;refine aO (S':=[vv F7,vv Gj,vv Gk,ow ([(.tup [Gj,Gk])]),vv (.int 0),nn,nn,nn]) (ay 4 cW.nd af) ?_ ?_;rfl;refine au (inj:=λ(s:D×List D) (w:Option Sl×Option Sl×Option Sl)=>[vv F7,vv Gj,vv Gk,ow s.2,vv s.1,w.1,w.2.1,w.2.2]) (yN 70 (nn,nn,nn) hpo (qX 3 (wI (ac 4) (Nk (aZ bx rfl T.uqf (FAL.out (aa (ac 3) ae)))))) (λ_ _=>rfl) rfl (λs w=>?_)) (λs2 w3=>?_)
 ·refine ak (S':=λGG=>[vv F7,vv Gj,vv Gk,ow s.2,vv s.1,vv GG,w.2.1,w.2.2]) (ay 5 cW.nd (sL 3 bx.K (ac 4))) ?_ (λGG=>?_);rfl;refine ak (S':=λGu=>[vv F7,vv Gj,vv Gk,ow s.2,vv Gu,vv GG,w.2.1,w.2.2]) (ay 4 cW.nd (ax bx.K (ac 4) af)) ?_ (λGu=>?_);rfl;refine au (inj:=λ(s1:List D) (w1:Option Sl×Option Sl)=>[vv F7,vv Gj,vv Gk,ow s1,vv Gu,vv GG,w1.1,w1.2]) (ba 6 (B:=λ(s1:List D) (w1:Option Sl×Option Sl) x=>[vv F7,vv Gj,vv Gk,ow s1,vv Gu,vv GG,vv x,w1.2]) (w.2.1,w.2.2) hpo rfl (aF bx.K (aC (aa (aC (aa af (aa af ae))) (aa (aC (aa (qR af) (aa af ae))) (aa (aC (aa af (aa af ae))) (aa (aC (aa af (aa (qR af) ae))) ae)))))) ?_ (ao 6 cW.nd) rfl (λ_ _ _=>rfl) (λs1 w1 x=>?_)) (λHc w2=>?_);rfl
  ·refine ak (S':=λGy=>[vv F7,vv Gj,vv Gk,ow s1,vv Gu,vv GG,vv x,vv Gy]) (ay 7 cW.nd (aC (aa (ax bx.K (ah bx.K (ac 5) af) (ah bx.K (ac 6) af)) (aa (ax bx.K (ah bx.K (ac 5) af) (ah bx.K (ac 6) af)) ae)))) ?_ (λGy=>?_);rfl;refine eI (aA (qX 3 (N7 (kz (mw af (ah bx.K (ac 7) af) (Nk (aZ bx rfl T.uqf (FAL.out (aa (ac 0) ae))))) (kz (mw af (ah bx.K (ac 7) af) (Nk (aZ bx rfl T.uqf (FAL.out (aa (ac 0) ae))))) (jG (kL bx (ac 7) (ac 3))))))) ?_ ?_ ?_);rfl
   ·refine eI (aA (fK bx (ah bx.K (ah bx.K (ac 0) (ah bx.K (ac 7) af)) (ah bx.K (ac 7) af)) (ah bx.K (ah bx.K (ac 0) (ac 2)) (ac 1))) ?_ ?_ ?_);rfl
    ·refine ak (S':=λGD=>[vv F7,vv Gj,vv Gk,ow GD,vv Gu,vv GG,vv x,vv Gy]) (Qb (fL 3 (FAL.out (aa (ac 7) ae)))) ?_ (λGD=>?_);rfl;exact ap ⟨(vv x,vv Gy),rfl⟩
    ·exact ap ⟨(vv x,vv Gy),rfl⟩
   ·exact ap ⟨(vv x,vv Gy),rfl⟩
  exact ap ⟨(vv GG,w2.1,w2.2),rfl⟩
 refine cq 3 (S':=[vv F7,vv Gj,vv Gk,vv (.lst s2.2),vv s2.1,w3.1,w3.2.1,w3.2.2]) rfl rfl ?_;refine aq (aj (Nk (jf bx rfl T.uqk (FAL.out (aa (ac 3) ae))))) ?_;rfl
theorem v4:OkD P w K mg base C k "_law_spots" ly ["_law_area_here"] (a1 (iU t)):=ok1 jz λGe _ _ _ _ _ _ _ _ bx hpo _=>by
 show FL _ _ [vv Ge,nn,nn,nn,nn,nn] _ _ _;refine aO (S':=[vv Ge,ow [],nn,nn,nn,nn]) (Ou (cg 1 jz.nd (FAL.out ae))) ?_ ?_;rfl;refine au (inj:=λ(s:List D) (w:Option Sl×Option Sl×Option Sl×Option Sl)=>[vv Ge,ow s,w.1,w.2.1,w.2.2.1,w.2.2.2]) (Be 2 3 4 5 (B:=λ(s:List D) (w:Option Sl×Option Sl×Option Sl×Option Sl) x x1 x2 x3=>[vv Ge,ow s,vv x,vv x1,vv x2,vv x3]) (nn,nn,nn,nn) hpo rfl (aF bx.K (ac 0)) ?_ (Ds 2 3 4 5 rfl jz.nd) rfl (λ_ _ _ _ _ _=>rfl) (λs w x x1 x2 x3=>?_)) (λGA w1=>?_);rfl
 ·refine ak (S':=λGE=>[vv Ge,ow GE,vv x,vv x1,vv x2,vv x3]) (OU (bq 1 bx.K (FAL.out (aa (Nv (aH (N:=["_law_k","_law_left","_law_top","_law_wide"]) (own:=1) (cap:=[2,3,4]) bx (BlkOk.of (by kernel_rfl)) (dm (aS rfl T.uqe (FAL.out (aa (bB bx.K (ac 4) (ac 4)) ae)))) (aG (by decide)) (λ_ _ _ _ _=>ao 0 (show List.Nodup (α:=Str) ["_law_k","_law_left","_law_top","_law_wide"] by decide +kernel)) (λ_ _ _ _ _=>(aC (aa (ax (ar bx).K (ac 1) (f9 (ac 0) (ac 3))) (aa (ax (ar bx).K (ac 2) (f8 (ac 0) (ac 3))) ae)))))) ae)))) ?_ (λGE=>?_);rfl;exact ap ⟨(vv x,vv x1,vv x2,vv x3),rfl⟩
 refine cq 1 (S':=[vv Ge,vv (.lst GA),w1.1,w1.2.1,w1.2.2.1,w1.2.2.2]) rfl rfl ?_;refine aq (aj (Nk (jf bx rfl T.uqk (FAL.out (aa (ac 1) ae))))) ?_;rfl
theorem n6:OkD P w K mg base C k "_law_all_areas" fG ["_law_rows_here"] (a1 (c8 t)):=ok1 cO λF7 _ _ _ _ _ _ _ _ bx hpo _=>by
 show FL _ _ [vv F7,nn,nn,nn] _ _ _;refine aO (S':=[vv F7,ow [],nn,nn]) (Ou (cg 1 cO.nd (FAL.out ae))) ?_ ?_;rfl;refine au (inj:=λ(s:List D) (w:Option Sl×Option Sl)=>[vv F7,ow s,w.1,w.2]) (ba 2 (B:=λ(s:List D) (w:Option Sl×Option Sl) x1=>[vv F7,ow s,vv x1,w.2]) (nn,nn) hpo rfl (dm (aS rfl T.uqe (FAL.out (aa (Nk (aZ bx rfl T.uqf (FAL.out (aa (ac 0) ae)))) ae)))) ?_ (ao 2 cO.nd) rfl (λ_ _ _=>rfl) (λs w x1=>?_)) (λGN w3=>?_);rfl
 ·refine au (inj:=λ(s1:List D) (w1:Option Sl)=>[vv F7,ow s1,vv x1,w1]) (ba 3 (B:=λ(s1:List D) (w1:Option Sl) x3=>[vv F7,ow s1,vv x1,vv x3]) w.2 hpo rfl (dm (aS rfl T.uqe (FAL.out (aa (Nk (aZ bx rfl T.uqf (FAL.out (aa (ac 0) ae)))) ae)))) ?_ (ao 3 cO.nd) rfl (λ_ _ _=>rfl) (λs1 w1 x3=>?_)) (λHd w2=>?_);rfl
  ·refine eI (aA (qX 1 (fK bx (Nv (d7 (N:=["_law_area_here","_law_x","_law_y"]) (own:=1) (cap:=[2,3]) bx (BlkOk.of (by kernel_rfl)) (aF bx.K (ac 1)) (aG (by decide)) (λ_ _ _ _ _=>ao 0 (show List.Nodup (α:=Str) ["_law_area_here","_law_x","_law_y"] by decide +kernel)) (λ_ _ _ _ _=>(qU (ar bx) (aC (aa (ac 1) (aa (ac 2) ae))) (ac 0))) (λ_ _ _ _ _=>(ac 0)))) (a6 ae))) ?_ ?_ ?_);rfl
   ·refine ak (S':=λGd=>[vv F7,ow Gd,vv x1,vv x3]) (Qb (fL 1 (FAL.out (aa (ag bx G.g225 rfl (aa (ac 0) (aa (ac 2) (aa (ac 3) ae)))) ae)))) ?_ (λGd=>?_);rfl;exact ap ⟨vv x3,rfl⟩
   ·exact ap ⟨vv x3,rfl⟩
  exact ap ⟨(vv x1,w2),rfl⟩
 refine cq 1 (S':=[vv F7,vv (.lst GN),w3.1,w3.2]) rfl rfl ?_;refine aI (aj (ac 1)) ?_;rfl
theorem n8:OkD P w K mg base C k "law" bH ["_law_script"] (a1 (iV t)):=ok1 aB λF9 _ _ _ _ _ _ _ _ bx hpo _=>by
 show FL _ _ [vv F9,nn,nn,nn,nn,nn,nn,nn,nn,nn,nn,nn,nn,nn,nn,nn,nn,nn] _ _ _;refine ak (S':=λGb=>[vv F9,vv Gb,nn,nn,nn,nn,nn,nn,nn,nn,nn,nn,nn,nn,nn,nn,nn,nn]) (ay 1 aB.nd (ag bx G.g31 rfl (aa (ac 0) (aa af (aa af ae))))) ?_ (λGb=>?_);rfl;refine ak (S':=λF8=>[vv F9,vv Gb,vv F8,nn,nn,nn,nn,nn,nn,nn,nn,nn,nn,nn,nn,nn,nn,nn]) (ay 2 aB.nd (aC (aa (ac 1) (aa (ag bx G.g32 rfl (aa (ac 0) (aa af (aa (Nk (CO bx rfl T.uj8 (FAL.out (aa (ac 1) (aa af ae))))) ae)))) ae)))) ?_ (λF8=>?_);rfl;refine ak (S':=λF7=>[vv F9,vv Gb,vv F8,vv F7,nn,nn,nn,nn,nn,nn,nn,nn,nn,nn,nn,nn,nn,nn]) (ay 3 aB.nd (ag bx G.g55 rfl (aa (ac 2) ae))) ?_ (λF7=>?_);rfl;refine ak (S':=λGf=>[vv F9,vv Gb,vv F8,vv F7,vv Gf,nn,nn,nn,nn,nn,nn,nn,nn,nn,nn,nn,nn,nn]) (ay 4 aB.nd (Nk (aZ bx rfl T.uqf (FAL.out (aa (ac 3) ae))))) ?_ (λGf=>?_);rfl;refine ak (S':=λGd=>[vv F9,vv Gb,vv F8,vv F7,vv Gf,vv Gd,nn,nn,nn,nn,nn,nn,nn,nn,nn,nn,nn,nn]) (ay 5 aB.nd (ag bx G.g227 rfl (aa (ac 3) ae))) ?_ (λGd=>?_);rfl;refine ak (S':=λGm=>[vv F9,vv Gb,vv F8,vv F7,vv Gf,vv Gd,vv Gm,nn,nn,nn,nn,nn,nn,nn,nn,nn,nn,nn]) (ay 6 aB.nd (ag bx G.g224 rfl (aa af (aa (ac 2) (aa af (aa af (aa af ae))))))) ?_ (λGm=>?_);rfl;refine ak (S':=λGc=>[vv F9,vv Gb,vv F8,vv F7,vv Gf,vv Gd,vv Gm,vv Gc,nn,nn,nn,nn,nn,nn,nn,nn,nn,nn]) (Rl (mZ 7 (N:=["_law_area_here"]) (own:=1) (cap:=[]) bx (BlkOk.of (by kernel_rfl)) (aF bx.K (ac 6)) (aG (by decide)) (λ_ _ _ _ _=>ao 0 (show List.Nodup (α:=Str) ["_law_area_here"] by decide +kernel)) (λ_ _ _ _ _=>(ag (ar bx) G.g226 rfl (aa (ac 0) ae))) aB.nd (hsw:=by kernel_rfl))) ?_ (λGc=>?_);rfl;refine ak (S':=λGi=>[vv F9,vv Gb,vv F8,vv F7,vv Gf,vv Gd,vv Gm,vv Gc,vv Gi,nn,nn,nn,nn,nn,nn,nn,nn,nn]) (ay 8 aB.nd (Nk (pU bx rfl T.uqk (FAL.out (aa (Nv (aH (N:=["_law_area_here"]) (own:=1) (cap:=[]) bx (BlkOk.of (by kernel_rfl)) (aF bx.K (ac 5)) (aG (by decide)) (λ_ _ _ _ _=>ao 0 (show List.Nodup (α:=Str) ["_law_area_here"] by decide +kernel)) (λ_ _ _ _ _=>(Nk (aZ (ar bx) rfl T.uqf (FAL.out (aa (ac 0) ae))))))) ae))))) ?_ (λGi=>?_);rfl;refine au (inj:=λ(_:Unit) (w:Unit)=>[vv F9,vv Gb,vv F8,vv F7,vv Gf,vv Gd,vv Gm,vv Gc,vv Gi,nn,nn,nn,nn,nn,nn,nn,nn,nn]) (aA (N7 (di (fe bx (Nk (nB bx rfl T.uqk (FAL.out (aa (ac 7) ae)))) (Nk (nB bx rfl T.uqk (FAL.out (aa (ac 5) ae))))) (cC (fe bx (ag bx G.g224 rfl (aa af (aa (ac 2) (aa af (aa af (aa af ae)))))) (ac 8))))) ?_ ?_ ?_) (λ_ w=>?_);rfl
 ·refine aI (aj fc) ?_;rfl
 ·exact ap ⟨(),rfl⟩
 refine aO (S':=[vv F9,vv Gb,vv F8,vv F7,vv Gf,vv Gd,vv Gm,vv Gc,vv Gi,vv (.int 0),nn,nn,nn,nn,nn,nn,nn,nn]) (ay 9 aB.nd af) ?_ ?_;rfl;refine au (inj:=λ(s:D) (w1:Option Sl×Option Sl)=>[vv F9,vv Gb,vv F8,vv F7,vv Gf,vv Gd,vv Gm,vv Gc,vv Gi,vv s,w1.1,w1.2,nn,nn,nn,nn,nn,nn]) (ba 10 (B:=λ(s:D) (w1:Option Sl×Option Sl) x6=>[vv F9,vv Gb,vv F8,vv F7,vv Gf,vv Gd,vv Gm,vv Gc,vv Gi,vv s,vv x6,w1.2,nn,nn,nn,nn,nn,nn]) (nn,nn) hpo rfl (dm (aS rfl T.uqe (FAL.out (aa (ac 4) ae)))) ?_ (ao 10 aB.nd) rfl (λ_ _ _=>rfl) (λs w1 x6=>?_)) (λGq w4=>?_);rfl
 ·refine au (inj:=λ(s1:D) (w2:Option Sl)=>[vv F9,vv Gb,vv F8,vv F7,vv Gf,vv Gd,vv Gm,vv Gc,vv Gi,vv s1,vv x6,w2,nn,nn,nn,nn,nn,nn]) (ba 11 (B:=λ(s1:D) (w2:Option Sl) x8=>[vv F9,vv Gb,vv F8,vv F7,vv Gf,vv Gd,vv Gm,vv Gc,vv Gi,vv s1,vv x6,vv x8,nn,nn,nn,nn,nn,nn]) w1.2 hpo rfl (dm (aS rfl T.uqe (FAL.out (aa (fB (ac 4) af) ae)))) ?_ (ao 11 aB.nd) rfl (λ_ _ _=>rfl) (λs1 w2 x8=>?_)) (λHe w3=>?_);rfl
  ·refine ak (S':=λGL=>[vv F9,vv Gb,vv F8,vv F7,vv Gf,vv Gd,vv Gm,vv Gc,vv Gi,vv GL,vv x6,vv x8,nn,nn,nn,nn,nn,nn]) (ay 9 aB.nd (ax bx.K (ac 9) (Nk (wT bx rfl T.uq0 (FAL.out (aa (D2 bx (ah bx.K (ah bx.K (ac 3) (ac 10)) (ac 11)) (ah bx.K (ah bx.K (ac 3) (ac 10)) (ax bx.K (ac 11) af))) ae)))))) ?_ (λGL=>?_);rfl;refine ak (S':=λGX=>[vv F9,vv Gb,vv F8,vv F7,vv Gf,vv Gd,vv Gm,vv Gc,vv Gi,vv GX,vv x6,vv x8,nn,nn,nn,nn,nn,nn]) (ay 9 aB.nd (ax bx.K (ac 9) (Nk (wT bx rfl T.uq0 (FAL.out (aa (D2 bx (ah bx.K (ah bx.K (ac 3) (ac 11)) (ac 10)) (ah bx.K (ah bx.K (ac 3) (ax bx.K (ac 11) af)) (ac 10))) ae)))))) ?_ (λGX=>?_);rfl;exact ap ⟨vv x8,rfl⟩
  exact ap ⟨(vv x6,w3),rfl⟩
 refine au (inj:=λ(_:Unit) (w5:Unit)=>[vv F9,vv Gb,vv F8,vv F7,vv Gf,vv Gd,vv Gm,vv Gc,vv Gi,vv Gq,w4.1,w4.2,nn,nn,nn,nn,nn,nn]) (aA (N7 (di (fe bx (ag bx G.g224 rfl (aa af (aa (ac 2) (aa af (aa af (aa af ae)))))) (Nk (aZ bx rfl T.uqf (FAL.out (aa (ac 5) ae))))) (cC (fe bx (ag bx G.g224 rfl (aa af (aa (ac 2) (aa af (aa af (aa af ae)))))) (ac 9))))) ?_ ?_ ?_) (λ_ w5=>?_);rfl
 ·refine aI (aj fc) ?_;rfl
 ·exact ap ⟨(),rfl⟩
 refine au (inj:=λ(s2:Unit) (w6:Option Sl×Option Sl×Option Sl×Option Sl×Option Sl×Option Sl×Option Sl)=>[vv F9,vv Gb,vv F8,vv F7,vv Gf,vv Gd,vv Gm,vv Gc,vv Gi,vv Gq,w6.1,w6.2.1,w6.2.2.1,w6.2.2.2.1,w6.2.2.2.2.1,w6.2.2.2.2.2.1,w6.2.2.2.2.2.2,nn]) (ba 12 (B:=λ(s2:Unit) (w6:Option Sl×Option Sl×Option Sl×Option Sl×Option Sl×Option Sl×Option Sl) x26=>[vv F9,vv Gb,vv F8,vv F7,vv Gf,vv Gd,vv Gm,vv Gc,vv Gi,vv Gq,w6.1,w6.2.1,vv x26,w6.2.2.2.1,w6.2.2.2.2.1,w6.2.2.2.2.2.1,w6.2.2.2.2.2.2,nn]) (w4.1,w4.2,nn,nn,nn,nn,nn) hpo rfl (dm (aS rfl T.uqe (FAL.out (aa af ae)))) ?_ (ao 12 aB.nd) rfl (λ_ _ _=>rfl) (λs2 w6 x26=>?_)) (λ_ w8=>?_);rfl
 ·refine CM 11 10 (S':=λGj Gk=>[vv F9,vv Gb,vv F8,vv F7,vv Gf,vv Gd,vv Gm,vv Gc,vv Gi,vv Gq,vv Gk,vv Gj,vv x26,w6.2.2.2.1,w6.2.2.2.2.1,w6.2.2.2.2.2.1,w6.2.2.2.2.2.2,nn]) (AZ 11 10 bx aB.nd (FAL.out (aa (fB (ag bx G.g31 rfl (aa (ac 0) (aa (ax bx.K af (bB bx.K af (ac 12))) (aa (ax bx.K (ac 4) af) ae)))) af) (aa (fB (ag bx G.g31 rfl (aa (ac 0) (aa (ax bx.K af (bB bx.K af (ac 12))) (aa (ax bx.K (ac 4) af) ae)))) af) ae)))) ?_ ?_ (λ_ _=>rfl) (λGj Gk=>?_);rfl;rfl;refine ak (S':=λGh=>[vv F9,vv Gb,vv F8,vv F7,vv Gf,vv Gd,vv Gm,vv Gc,vv Gi,vv Gq,vv Gk,vv Gj,vv x26,vv Gh,w6.2.2.2.2.1,w6.2.2.2.2.2.1,w6.2.2.2.2.2.2,nn]) (ay 13 aB.nd (ah bx.K (a6 (aa af (aa af (aa af (aa af (aa (qR af) (aa jb (aa (ag bx G.g31 rfl (aa (ac 0) (aa (ax bx.K af (bB bx.K af (ac 12))) (aa af ae)))) ae)))))))) (ag bx G.g31 rfl (aa (ac 0) (aa (ax bx.K af (ac 12)) (aa af ae)))))) ?_ (λGh=>?_);rfl;refine aO (S':=[vv F9,vv Gb,vv F8,vv F7,vv Gf,vv Gd,vv Gm,vv Gc,vv Gi,vv Gq,vv Gk,vv Gj,vv x26,vv Gh,vv (.lst [(.str "no spot"),(.str "no spot")]),w6.2.2.2.2.2.1,w6.2.2.2.2.2.2,nn]) (ay 14 aB.nd (a6 (aa bO (aa bO ae)))) ?_ ?_;rfl;refine au (inj:=λ(GZ:D) (w7:Option Sl×Option Sl)=>[vv F9,vv Gb,vv F8,vv F7,vv Gf,vv Gd,vv Gm,vv Gc,vv Gi,vv Gq,vv Gk,vv Gj,vv x26,vv Gh,vv GZ,w7.1,w7.2,nn]) (aA (N7 (kz (mw af (ac 11) (ac 4)) (jG (mw af (ac 10) (ac 4))))) ?_ ?_ ?_) (λGZ w7=>?_);rfl
  ·refine ak (S':=λGp=>[vv F9,vv Gb,vv F8,vv F7,vv Gf,vv Gd,vv Gm,vv Gc,vv Gi,vv Gq,vv Gk,vv Gj,vv x26,vv Gh,vv (.lst [(.str "no spot"),(.str "no spot")]),vv Gp,w6.2.2.2.2.2.2,nn]) (ay 15 aB.nd (ah bx.K (Nv (d7 (N:=["_law_one","_law_x","_law_y"]) (own:=1) (cap:=[11,10]) bx (BlkOk.of (by kernel_rfl)) (aF bx.K (ac 5)) (aG (by decide)) (λ_ _ _ _ _=>ao 0 (show List.Nodup (α:=Str) ["_law_one","_law_x","_law_y"] by decide +kernel)) (λ_ _ _ _ _=>(qU (ar bx) (aC (aa (ac 1) (aa (ac 2) ae))) (ac 0))) (λ_ _ _ _ _=>(ac 0)))) af)) ?_ (λGp=>?_);rfl;refine aO (S':=[vv F9,vv Gb,vv F8,vv F7,vv Gf,vv Gd,vv Gm,vv Gc,vv Gi,vv Gq,vv Gk,vv Gj,vv x26,vv Gh,ow ([Gp,(.str "no picture")]),vv Gp,w6.2.2.2.2.2.2,nn]) (Ou (cg 14 aB.nd (FAL.out (aa (ac 15) (aa bO ae))))) ?_ ?_;rfl;refine eI (aA (N7 (kz (Ax (ac 13) jb) (jG (CB af (ac 13) af)))) ?_ ?_ ?_);rfl
   ·refine ak (S':=λGo=>[vv F9,vv Gb,vv F8,vv F7,vv Gf,vv Gd,vv Gm,vv Gc,vv Gi,vv Gq,vv Gk,vv Gj,vv x26,vv Gh,ow ([Gp,(.str "no picture")]),vv Gp,vv Go,nn]) (Rl (mZ 16 (N:=["_law_j","_law_worth","_law_area_here","_law_side","_law_rows_here"]) (own:=1) (cap:=[13,15,4,3]) bx (BlkOk.of (by kernel_rfl)) (dm (aS rfl T.uqe (FAL.out (aa (ac 4) ae)))) (aG (by decide)) (λ_ _ _ _ _=>ao 0 (show List.Nodup (α:=Str) ["_law_j","_law_worth","_law_area_here","_law_side","_law_rows_here"] by decide +kernel)) (λ_ _ _ _ _=>(Nv (aH (N:=["_law_i","_law_worth","_law_area_here","_law_j","_law_rows_here"]) (own:=1) (cap:=[1,2,0,4]) (ar bx) (BlkOk.of (by kernel_rfl)) (dm (aS rfl T.uqe (FAL.out (aa (ac 3) ae)))) (aG (by decide)) (λ_ _ _ _ _=>ao 0 (show List.Nodup (α:=Str) ["_law_i","_law_worth","_law_area_here","_law_j","_law_rows_here"] by decide +kernel)) (λ_ _ _ _ _=>(Ah (qU (ar (ar bx)) (aC (aa (ac 0) (aa (ac 3) ae))) (ac 2)) (ac 1) (ah (ar (ar bx)).K (ah (ar (ar bx)).K (ac 4) (ac 3)) (ac 0))))))) aB.nd (hsw:=by kernel_rfl))) ?_ (λGo=>?_);rfl;refine ak (S':=λG6=>[vv F9,vv Gb,vv F8,vv F7,vv Gf,vv Gd,vv Gm,vv Gc,vv Gi,vv Gq,vv Gk,vv Gj,vv x26,vv Gh,ow G6,vv Gp,vv Go,nn]) (ST (AH 14 bx (ag bx G.g57 rfl (aa (Nk (bD bx rfl T.uqc (FAL.out (aa (Nv (aH (N:=["_law_row"]) (own:=1) (cap:=[]) bx (BlkOk.of (by kernel_rfl)) (aF bx.K (ac 16)) (aG (by decide)) (λ_ _ _ _ _=>ao 0 (show List.Nodup (α:=Str) ["_law_row"] by decide +kernel)) (λ_ _ _ _ _=>(Nk (bD (ar bx) rfl T.uqc (FAL.out (aa (ac 0) ae))))))) ae)))) ae)) af)) ?_ (λG6=>?_);rfl;refine cq 14 (S':=[vv F9,vv Gb,vv F8,vv F7,vv Gf,vv Gd,vv Gm,vv Gc,vv Gi,vv Gq,vv Gk,vv Gj,vv x26,vv Gh,vv (.lst G6),vv Gp,vv Go,nn]) rfl rfl ?_;exact ap ⟨(vv Gp,vv Go),rfl⟩
   ·refine cq 14 (S':=[vv F9,vv Gb,vv F8,vv F7,vv Gf,vv Gd,vv Gm,vv Gc,vv Gi,vv Gq,vv Gk,vv Gj,vv x26,vv Gh,vv (.lst [Gp,(.str "no picture")]),vv Gp,w6.2.2.2.2.2.2,nn]) rfl rfl ?_;exact ap ⟨(vv Gp,w6.2.2.2.2.2.2),rfl⟩
  ·exact ap ⟨(w6.2.2.2.2.2.1,w6.2.2.2.2.2.2),rfl⟩
  refine eI (aA (fe bx (Nv (aH (N:=["_law_what","_law_picture_here","_law_x","_law_y","_law_worth"]) (own:=1) (cap:=[2,11,10,13]) bx (BlkOk.of (by kernel_rfl)) (dm (aS rfl T.uqe (FAL.out (aa af ae)))) (aG (by decide)) (λ_ _ _ _ _=>ao 0 (show List.Nodup (α:=Str) ["_law_what","_law_picture_here","_law_x","_law_y","_law_worth"] by decide +kernel)) (λ_ _ _ _ _=>(ag (ar bx) G.g224 rfl (aa (ac 0) (aa (ac 1) (aa (ac 2) (aa (ac 3) (aa (ac 4) ae))))))))) (ac 14)) ?_ ?_ ?_);rfl
  ·refine aI (aj fc) ?_;rfl
  ·exact ap ⟨(vv Gk,vv Gj,vv x26,vv Gh,vv GZ,w7.1,w7.2),rfl⟩
 refine ak (S':=λG7=>[vv F9,vv Gb,vv F8,vv F7,vv Gf,vv Gd,vv Gm,vv Gc,vv Gi,vv Gq,w8.1,w8.2.1,w8.2.2.1,w8.2.2.2.1,w8.2.2.2.2.1,w8.2.2.2.2.2.1,w8.2.2.2.2.2.2,vv G7]) (ay 17 aB.nd (ag bx G.g37 rfl (aa (ac 0) (aa af (aa (ac 2) ae))))) ?_ (λG7=>?_);rfl;refine aq (aj (Ag (ag bx G.g38 rfl (aa (ac 17) ae)) (bZ (pM bx (Nv (aH (N:=["_law_what","_law_bad"]) (own:=1) (cap:=[17]) bx (BlkOk.of (by kernel_rfl)) (dm (aS rfl T.uqe (FAL.out (aa af ae)))) (aG (by decide)) (λ_ _ _ _ _=>ao 0 (show List.Nodup (α:=Str) ["_law_what","_law_bad"] by decide +kernel)) (λ_ _ _ _ _=>(ag (ar bx) G.g224 rfl (aa (ac 0) (aa (ac 1) (aa af (aa af (aa af ae))))))))) (bB bx.K (a6 (aa bO ae)) af))))) ?_;rfl
end
end Lw
end
noncomputable section
section
namespace Lw
open PySem FF
variable {n w y i:Nat}{v:Int}{s':Sp}{ds ys:List D}{g':MO}{ns:List Int}
inductive Q (α:Type) where
 | lf (a:α) | nd (a b c d:Q α)
 deriving DecidableEq
variable {t' tr:Q Int}
section
variable {α β γ:Type}
noncomputable def Q.dep:Q α->Nat
 | .lf _=>0
 | .nd a b c d=>1+max (max a.dep b.dep) (max c.dep d.dep)
def Q.dep4 {a b c d:Q α}(h:(Q.nd a b c d).dep<=n):a.dep < n/\b.dep < n/\c.dep < n/\d.dep < n:=by
 have h:max (max a.dep b.dep) (max c.dep d.dep) < n:=by rw[Q.dep,KN]at h;exact h
 have l:=Ln.mp h;exact⟨(Ln.mp l.1).1,(Ln.mp l.1).2,(Ln.mp l.2).1,(Ln.mp l.2).2⟩
def Q.dep5 {a b c d:Q α}(h:(Q.nd a b c d).dep<=n+1):a.dep<=n/\b.dep<=n/\c.dep<=n/\d.dep<=n:=⟨Kt (Q.dep4 h).1,Kt (Q.dep4 h).2.1,Kt (Q.dep4 h).2.2.1,Kt (Q.dep4 h).2.2.2⟩
noncomputable def Q.at:Nat->Q α->Nat->Nat->α
 | _,.lf a,_,_=>a
 | 0,.nd a _ _ _,x,y=>Q.at 0 a x y
 | n+1,.nd a b c d,x,y=>if y < 2^n then (if x < 2^n then a.at n x y else b.at n (x - 2^n) y) else (if x < 2^n then c.at n x (y - 2^n) else d.at n (x - 2^n) (y - 2^n))
def Q.All (p:α->Prop):Q α->Prop
 | .lf a=>p a
 | .nd a b c d=>a.All p/\b.All p/\c.All p/\d.All p
noncomputable def sh (f:Nat->Nat->α)(a b:Nat):Nat->Nat->α:=λx y=>f (x+a) (y+b)
@[simp] theorem n9 (n:Nat)(a:α)(x y:Nat):Q.at n (.lf a) x y=a:=by cases n<;>rfl
variable [DecidableEq α][DecidableEq β][DecidableEq γ]
noncomputable def N5 (a b c d:Q α):Q α:=match a with
 | .lf v=>if b=.lf v/\c=.lf v/\d=.lf v then .lf v else .nd a b c d
 | _=>.nd a b c d
noncomputable def T (f:Nat->Nat->α):Nat->Q α
 | 0=>.lf (f 0 0)
 | n+1=>N5 (T f n) (T (sh f (2^n) 0) n) (T (sh f 0 (2^n)) n) (T (sh f (2^n) (2^n)) n)
noncomputable def Q.lean:Q α->Q α
 | .lf a=>.lf a
 | .nd a b c d=>N5 a.lean b.lean c.lean d.lean
def bN (n:Nat):(2^(n+1):Nat)=2^n+2^n:=by rw[KP];omega
def iX (v:α):N5 (.lf v) (.lf v) (.lf v) (.lf v)=.lf v:=by simp[N5]
def DA (n:Nat)(a b c d:Q α)(x y:Nat):(N5 a b c d).at (n+1) x y=(Q.nd a b c d).at (n+1) x y:=by
 unfold N5;split
 ·split
  ·rename_i h;obtain⟨rfl,rfl,rfl⟩:=h;simp only[Q.at,n9,ite_self]
  ·rfl
 ·rfl
def Bn (n:Nat)(a b c d:Q α)(ha:a.dep<=n)(hb:b.dep<=n)(hc:c.dep<=n)(hd:d.dep<=n):(N5 a b c d).dep<=n+1:=by
 unfold N5;split
 ·split
  ·exact IA _
  ·simp only[Q.dep] at *;omega
 ·simp only[Q.dep] at *;omega
theorem bj:∀ (n:Nat) (f g:Nat->Nat->α),(∀ x y,x < 2^n->y < 2^n->f x y=g x y)->T f n=T g n
 | 0,f,g,h=>by rw[T,T,h 0 0 (by decide) (by decide)]
 | n+1,f,g,h=>by
  rw[bN]at h;rw[T,T,bj n f g λx y hx hy=>h x y (by omega) (by omega),bj n (sh f (2^n) 0) (sh g (2^n) 0) λx y hx hy=>h _ _ (by omega) (by omega),
   bj n (sh f 0 (2^n)) (sh g 0 (2^n)) λx y hx hy=>h _ _ (by omega) (by omega),bj n (sh f (2^n) (2^n)) (sh g (2^n) (2^n)) λx y hx hy=>h _ _ (by omega) (by omega)]
theorem mF (v:α):∀ n,T (λ_ _=>v) n=.lf v
 | 0=>rfl
 | n+1=>by
  rw[T];show N5 (T (λ_ _=>v) n) (T (λ_ _=>v) n) (T (λ_ _=>v) n) (T (λ_ _=>v) n)=_;rw[mF v n,iX]
theorem fU:∀ (n:Nat) (f:Nat->Nat->α),(T f n).dep<=n
 | 0,f=>Hr _
 | n+1,f=>Bn n _ _ _ _ (fU n _) (fU n _) (fU n _) (fU n _)
theorem Pm:∀ (n:Nat) (f:Nat->Nat->α) (x y:Nat),x < 2^n->y < 2^n->(T f n).at n x y=f x y
 | 0,f,x,y,hx,hy=>by
  have:x=0:=by simp at hx;exact hx
  have:y=0:=by simp at hy;exact hy
  subst x;subst y;rfl
 | n+1,f,x,y,hx,hy=>by
  rw[bN]at hx hy;rw[T,DA,Q.at];by_cases h1:y < 2^n
  ·rw[if_pos h1];by_cases h2:x < 2^n
   ·rw[if_pos h2,Pm n f x y h2 h1]
   ·rw[if_neg h2,Pm n _ _ _ (by omega) h1];unfold sh;rw[show x - 2^n+2^n=x by omega,KM]
  ·rw[if_neg h1];by_cases h2:x < 2^n
   ·rw[if_pos h2,Pm n _ _ _ h2 (by omega)];unfold sh;rw[show y - 2^n+2^n=y by omega,KM]
   ·rw[if_neg h2,Pm n _ _ _ (by omega) (by omega)];unfold sh;rw[show x - 2^n+2^n=x by omega,show y - 2^n+2^n=y by omega]
theorem uv {p:α->Prop}:∀ (n:Nat) (f:Nat->Nat->α),(∀ x y,x < 2^n->y < 2^n->p (f x y))->(T f n).All p
 | 0,f,h=>h 0 0 (by decide) (by decide)
 | n+1,f,h=>by
  rw[bN]at h;have ha:=uv n f λx y hx hy=>h x y (by omega) (by omega)
  have hb:=uv n (sh f (2^n) 0) λx y hx hy=>h _ _ (by omega) (by omega)
  have hc:=uv n (sh f 0 (2^n)) λx y hx hy=>h _ _ (by omega) (by omega)
  have hd:=uv n (sh f (2^n) (2^n)) λx y hx hy=>h _ _ (by omega) (by omega)
  rw[T];unfold N5;split
  ·rename_i v e;split
   ·rw[e]at ha;exact ha
   ·exact⟨ha,hb,hc,hd⟩
  ·exact⟨ha,hb,hc,hd⟩
theorem lH {p:α->Prop}:∀ (n:Nat) (t:Q α) (x y:Nat),t.All p->p (t.at n x y)
 | n,.lf a,x,y,h=>by rw[n9];exact h
 | 0,.nd a _ _ _,x,y,h=>lH 0 a x y h.1
 | n+1,.nd a b c d,x,y,h=>by
  rw[Q.at];split
  ·split
   ·exact lH n a _ _ h.1
   ·exact lH n b _ _ h.2.1
  ·split
   ·exact lH n c _ _ h.2.2.1
   ·exact lH n d _ _ h.2.2.2
def Bo (n:Nat)(a b c d:Q α):T ((Q.nd a b c d).at (n+1)) (n+1)=N5 (T (a.at n) n) (T (b.at n) n) (T (c.at n) n) (T (d.at n) n):=by
 rw[T]
 congr 1
 ·exact bj n _ _ λx y hx hy=>by rw[Q.at,if_pos hy,if_pos hx]
 ·exact bj n _ _ λx y hx hy=>by
   unfold sh;rw[Q.at,if_pos (by omega),if_neg (by omega)]
   simp
 ·exact bj n _ _ λx y hx hy=>by
   unfold sh;rw[Q.at,if_neg (by omega),if_pos (by omega)]
   simp
 ·exact bj n _ _ λx y hx hy=>by
   unfold sh;rw[Q.at,if_neg (by omega),if_neg (by omega)]
   simp
theorem gP:∀ (n:Nat) (t:Q α),t.dep<=n->t.lean=T (t.at n) n
 | n,.lf a,_=>by
  rw[Q.lean];exact(mF a n).symm.trans (bj _ _ _ λx y _ _=>(n9 _ _ _ _).symm)
 | 0,.nd a b c d,h=>by simp[Q.dep]at h
 | n+1,.nd a b c d,h=>by
  have h':1+max (max a.dep b.dep) (max c.dep d.dep)<=n+1:=h;rw[Bo,Q.lean,gP n a (by omega),gP n b (by omega),gP n c (by omega),gP n d (by omega)]
def ik {t:Q α}(h:t.dep<=n):t.lean.dep<=n:=by rw[gP n t h];exact fU n _
structure En (e:α->D):Prop where
 tup:∀ a,Nx (e a)=false
 gd:∀ n a,good n (e a)=true
 eq:∀ a b,eqD (e a) (e b)=decide (a=b)
 tD:∀ a xs,eqD (e a) (.tup xs)=false
 dT:∀ a xs,eqD (.tup xs) (e a)=false
end
section
variable {α:Type}[DecidableEq α]{e:α->D}
noncomputable def Q.d (e:α->D):Q α->D
 | .lf a=>e a
 | .nd a b c d=>.tup [a.d e,b.d e,c.d e,d.d e]
theorem Q.gd (E:En e):∀ (n:Nat) (t:Q α),t.dep<=n->good n (t.d e)=true
 | n,.lf a,_=>E.gd n a
 | 0,.nd a b c d,h=>by simp[Q.dep]at h
 | n+1,.nd a b c d,h=>by
  have h':1+max (max a.dep b.dep) (max c.dep d.dep)<=n+1:=h;rw[Q.d,good,MH,MH,MH,MH,MH,Q.gd E n a (by omega),Q.gd E n b (by omega),Q.gd E n c (by omega),Q.gd E n d (by omega)];rfl
theorem Q.eqd (E:En e):∀ (s t:Q α),eqD (s.d e) (t.d e)=decide (s=t)
 | .lf a,.lf b=>by rw[Q.d,Q.d,E.eq];simp
 | .lf a,.nd ..=>by rw[Q.d,Q.d,E.tD];simp
 | .nd ..,.lf b=>by rw[Q.d,Q.d,E.dT];simp
 | .nd a b c d,.nd a' b' c' d'=>by
  rw[Q.d,Q.d,eqD,NO,NO,NO,NO,NO,Q.eqd E a a',Q.eqd E b b',Q.eqd E c c',Q.eqd E d d']
  simp[IE]
end
def En.int:En FF.D.int:=⟨λ_=>rfl,λn a=>by cases n<;>rfl,λa b=>by simp[eqD,KG],λa xs=>by simp[eqD],λa xs=>by simp[eqD]⟩
def jA {xs:List D}(h:xs.length<=16777216):sq (.tup xs)=.ok xs:=by unfold sq O0;rw[R.bind_ok,if_pos h]
def bc {xs:List D}(h:xs.length<=16777216):sq (.lst xs)=.ok xs:=by unfold sq O0;rw[R.bind_ok,if_pos h]
def sq4 (a b c d:D):sq (.tup [a,b,c,d])=.ok [a,b,c,d]:=jA (by show 4<=16777216;decide)
theorem Bp {e:D->R D}{f:D->D}:∀ {xs:List D},(∀ d∈xs,e d=.ok (f d))->cGo (λ_=>.ok true) e xs=.ok (xs.map f)
 | [],_=>rfl
 | x::xs,h=>by
  rw[cGo];simp only;rw[h x (.head _),Bp λd hd=>h d (.tail _ hd)];rfl
def xi {e:D->R D}{xs:List D}(f:D->D)(h:∀ d∈xs,e d=.ok (f d)):Nj e xs=.ok (.lst (xs.map f)):=by
 unfold Nj;rw[Bp h];rfl
def aV {α:Type}{e:D->R D}{l:List α}(c g:α->D)(h:∀ a∈l,e (c a)=.ok (g a)):Nj e (l.map c)=.ok (.lst (l.map g)):=by
 unfold Nj;have:∀ {l:List α},(∀ a∈l,e (c a)=.ok (g a))->cGo (λ_=>.ok true) e (l.map c)=.ok (l.map g):=by
  intro l
  induction l with
  | nil=>intro _;rfl
  | cons a l ih =>
   intro h;rw[Hq,cGo];simp only;rw[h a (.head _),ih λb hb=>h b (.tail _ hb)];rfl
 rw[this h];rfl
def Pp {e:D->R D}{a b c d a' b' c' d':D}(ha:e a=.ok a')(hb:e b=.ok b')(hc:e c=.ok c')(hd:e d=.ok d'):Nj e [a,b,c,d]=.ok (.lst [a',b',c',d']):=by
 unfold Nj;simp only[cGo,ha,hb,hc,hd];rfl
def iY {α:Type}{c:D->R Bool}{e:D->R D}{l:List α}(k g:α->D)(p:α->Bool)(h:∀ a∈l,c (k a)=.ok (p a)/\(p a=true->e (k a)=.ok (g a))):OK c e (l.map k)=.ok (.lst ((l.filter p).map g)):=by
 unfold OK;have:∀ {l:List α},(∀ a∈l,c (k a)=.ok (p a)/\(p a=true->e (k a)=.ok (g a)))->cGo c e (l.map k)=.ok ((l.filter p).map g):=by
  intro l
  induction l with
  | nil=>intro _;rfl
  | cons a l ih =>
   intro h;have h1:=h a (.head _);have h2:=ih λb hb=>h b (.tail _ hb)
   rw[Hq,cGo,h1.1];cases q:p a with
   | false=>simp only;rw[h2,LD (by simp[q])]
   | true=>simp only;rw[h1.2 q,h2,LF q];rfl
 rw[this h];rfl
@[simp] theorem jB (xs:List D):Nu [.lst xs]=.ok (.tup xs):=rfl
@[simp] theorem v5 (xs:List D):Nu [.tup xs]=.ok (.tup xs):=rfl
@[simp] theorem zl (xs:List D):Q8 [.tup xs]=.ok (.lst xs):=rfl
@[simp] theorem zm (xs:List D):Q8 [.lst xs]=.ok (.lst xs):=rfl
@[simp] theorem bS (xs:List D):Nq [.tup xs]=.ok (.int xs.length):=rfl
@[simp] theorem eV (xs:List D):Nq [.lst xs]=.ok (.int xs.length):=rfl
@[simp] theorem aJ (a b:Int):Nf (.int a) (.int b)=.ok (.int (a+b)):=rfl
@[simp] theorem dz (a b:Int):Ob (.int a) (.int b)=.ok (.int (a - b)):=rfl
@[simp] theorem DB (a b:Int):dLt (.int a) (.int b)=.ok (.bl (decide (a < b))):=rfl
@[simp] theorem rK (a b:Int):dLe (.int a) (.int b)=.ok (.bl (decide (a<=b))):=rfl
@[simp] theorem rL (a b:Int):dGt (.int a) (.int b)=.ok (.bl (decide (b < a))):=rfl
@[simp] theorem xj (a b:Int):dGe (.int a) (.int b)=.ok (.bl (decide (b<=a))):=rfl
@[simp] theorem iZ (a b:Int):dEq (.int a) (.int b)=.ok (.bl (decide (a=b))):=by
 show R.ok (D.bl (a==b))=_;rw[KG]
@[simp] theorem fu (a b:Int):dNf (.int a) (.int b)=.ok (.bl (!decide (a=b))):=by
 show R.ok (D.bl (!(a==b)))=_;rw[KG]
def bF {a b:Int}(h:(-(2^64) < b/\b < 2^64)\/(-(2^64) < a/\a < 2^64)):Nw (.int a) (.int b)=.ok (.int (a*b)):=by
 have:P2 a b=true:=by unfold P2;simp only[JM,HD,HH];rcases h with h | h;exact .inr h;exact .inl h
 show (if P2 a b=true then R.ok (D.int (a*b)) else R.stuck)=_;rw[if_pos this]
def oa {a b:Int}(h0:0 < b)(h1:b < 1073741824):OD (.int a) (.int b)=.ok (.int (a/b)):=by
 have:P3 a b=true:=by unfold P3;simp only[HD,HH];exact⟨h0,h1⟩
 show (if P3 a b=true then R.ok (D.int (a/b)) else R.stuck)=_;rw[if_pos this]
def eW {a b:Int}(h0:0 < b):OJ (.int a) (.int b)=.ok (.int (a%b)):=by
 show (if decide (0 < b)=true then R.ok (D.int (a%b)) else R.stuck)=_;rw[if_pos (by simpa using h0)]
def og {x y:D}(hx:good 60 x=true)(hy:good 60 y=true):dEq x y=.ok (.bl (eqD x y)):=by unfold dEq;rw[if_pos ⟨hx,hy⟩]
def Bq {x y:D}(hx:good 60 x=true)(hy:good 60 y=true):dNf x y=.ok (.bl (!eqD x y)):=by unfold dNf;rw[if_pos ⟨hx,hy⟩]
def mr {α:Type}{xs:List α}{x:α}(h:xs[i]?=some x):L2.atI xs ((i:Nat):Int)=some x:=by
 have hi:i < xs.length:=(HM.mp h).1;unfold L2.atI L2.ixN;rw[if_pos (by omega),if_pos (by omega)]
 simpa using h
def ixT {xs:List D}{x:D}(h:xs[i]?=some x):dIx (.tup xs) (.int ((i:Nat):Int))=.ok x:=by
 show (match L2.atI xs (i:Int) with | some d=>R.ok d | none=>R.stuck)=_;rw[mr h]
def ixL {xs:List D}{x:D}(h:xs[i]?=some x):dIx (.lst xs) (.int ((i:Nat):Int))=.ok x:=by
 show (match L2.atI xs (i:Int) with | some d=>R.ok d | none=>R.stuck)=_;rw[mr h]
@[simp] theorem Rk (a b:D):dIx (.tup [a,b]) (.int 0)=.ok a:=rfl
@[simp] theorem QH (a b:D):dIx (.tup [a,b]) (.int 1)=.ok b:=rfl
@[simp] theorem QG (a b c d:D):dIx (.tup [a,b,c,d]) (.int 0)=.ok a:=rfl
@[simp] theorem QF (a b c d:D):dIx (.tup [a,b,c,d]) (.int 1)=.ok b:=rfl
@[simp] theorem Qa (a b c d:D):dIx (.tup [a,b,c,d]) (.int 2)=.ok c:=rfl
@[simp] theorem Rj (a b c d:D):dIx (.tup [a,b,c,d]) (.int 3)=.ok d:=rfl
@[simp] theorem bY (xs:List D):Nn NT (.tup xs)=.ok (.bl true):=rfl
@[simp] theorem zo (i:Int):Nn NT (.int i)=.ok (.bl false):=rfl
theorem jC {α:Type}(p:α->Bool):∀ l:List α,NK (l.map λd=>D.bl (p d))=some (l.map p)
 | []=>rfl
 | a::r=>by simp only[Hq,NK,jC p r,IJ]
def kh {α:Type}(p:α->Bool)(l:List α):O6 [.lst (l.map λd=>D.bl (p d))]=.ok (.bl (l.all p)):=by
 show (match NK (l.map λd=>D.bl (p d)) with | some bs=>R.ok (D.bl (bs.all id)) | none=>R.stuck)=_;rw[jC]
 simp[List.all_map,Ku]
def uw {α:Type}(p:α->Bool)(l:List α):P0 [.lst (l.map λd=>D.bl (p d))]=.ok (.bl (l.any p)):=by
 show (match NK (l.map λd=>D.bl (p d)) with | some bs=>R.ok (D.bl (bs.any id)) | none=>R.stuck)=_;rw[jC]
 simp[Mn,Ku]
def xk (f:Int->Int->Bool)(F' G':MS){x y w:Int}{g:Int->Int->Bool}(h1:F' (.int x) (.int y)=.ok (.bl (f x y)))(h2:G' (.int y) (.int w)=.ok (.bl (g y w))):rCh F' G' (.int x) (.int y) (.ok (.int w))=.ok (.bl (f x y&&g y w)):=by
 unfold rCh;rw[h1];cases f x y with
 | true=>show G' (.int y) (.int w)=_;rw[h2];rfl
 | false=>rfl
@[simp] theorem ux (x y w:Int):rCh dLe dLe (.int x) (.int y) (.ok (.int w))=.ok (.bl (decide (x<=y)&&decide (y<=w))):=xk (λa b=>decide (a<=b)) _ _ (g:=λa b=>decide (a<=b)) rfl rfl
@[simp] theorem ki (x y w:Int):rCh dLe dLt (.int x) (.int y) (.ok (.int w))=.ok (.bl (decide (x<=y)&&decide (y < w))):=xk (λa b=>decide (a<=b)) _ _ (g:=λa b=>decide (a < b)) rfl rfl
def kj (a b:Bool):N9 (.ok (.bl a)) (.ok (.bl b))=.ok (.bl (a&&b)):=by cases a<;>rfl
def E0 (a b:Bool):vOr (.ok (.bl a)) (.ok (.bl b))=.ok (.bl (a||b)):=by cases a<;>rfl
def mG (a b:Bool):OQ (.ok a) (.ok b)=.ok (a&&b):=by cases a<;>rfl
def lI (a b:Bool):rOr (.ok a) (.ok b)=.ok (a||b):=by cases a<;>rfl
noncomputable def isW:D->Bool
 | .int _=>true
 | _=>false
noncomputable def noX:D->Bool
 | .tab _ _=>false
 | .dic _ _=>false
 | .ptr _=>false
 | .exc _=>false
 | .fn _=>false
 | _=>true
noncomputable def Np (hi:Int):D->Bool
 | .int i=>decide (0<=i)&&decide (i<=hi)
 | _=>false
def dA {d:D}(h:good n d=true):noX d=true:=by
 cases d<;>first | rfl | (cases n<;>simp[good]at h)
def il (hn:1<=n){d:D}(h:noX d=true):pf n F.af [d]=.ok (.bl (isW d)):=by
 obtain⟨m,rfl⟩:∃ m,n=m+1:=⟨n - 1,by omega⟩;rw[tO];cases d<;>first | rfl | (cases h)
def kl (hn:2<=n){d:D}(h:noX d=true):pf n F.ae [d]=.ok (.bl (Np 9 d)):=by
 obtain⟨m,rfl⟩:∃ m,n=m+1:=⟨n - 1,by omega⟩;rw[tQ,gm,il (by omega) h];cases d<;>first | rfl | (cases h;done) | skip
 simp[isW,Np]
def xl (hn:2<=n){d:D}(h:noX d=true):pf n F.aJ [d]=.ok (.bl (Np 3 d)):=by
 obtain⟨m,rfl⟩:∃ m,n=m+1:=⟨n - 1,by omega⟩;rw[vC,iP,il (by omega) h];cases d<;>first | rfl | (cases h;done) | skip
 simp[isW,Np]
def STP:=HA @aw (HA @AK (HA @aX (HA @FC (HA @FD (HA @CI (HA @CH (HA @CJ (HA @R.bind_ok (HA @R.bind_err (HA @aP (HA @cX (HA @mG (HA @lI (HA @EQ (HA @ER (HA @FJ (HA @sM (HA @AL (HA @AM (HA @FK (HA @D3 (HA @kj (HA @E0 (HA @CK (HA @FM (HA @FN (HA @Bool.not_true (HA @Bool.not_false (HA @Bool.false_or (HA @Bool.true_or (HA @Bool.or_false (HA @Bool.or_true (HA @Bool.true_and (HA @Bool.false_and (HA @Bool.and_true (HA @Bool.and_false (HA @Bool.false_eq_true (@Bool.true_eq_false))))))))))))))))))))))))))))))))))))))
def OPP:=HA @aJ (HA @dz (HA @DB (HA @rK (HA @rL (HA @xj (HA @iZ (HA @fu (HA @bS (HA @eV (HA @jB (HA @v5 (HA @zl (HA @zm (HA @Rk (HA @QH (HA @QG (HA @QF (HA @Qa (HA @Rj (HA @bY (HA @zo (HA @ux (@ki)))))))))))))))))))))))
noncomputable def slim:Nat->D->Bool
 | n+1,.tup xs=>decide (xs.length<=1000)&&xs.all (slim n)
 | n+1,.lst xs=>decide (xs.length<=1000)&&xs.all (slim n)
 | _,_=>true
noncomputable def No (p:D->Bool):Nat->Int->D->Bool
 | n+1,s,.tup xs=>decide (s≠0)&&(decide (xs.length=4)&&xs.all (No p n (s - 1)))
 | _,_,d=>p d
theorem eg {n:Nat}:∀ {xs:List D},MH n xs=true->∀ d∈xs,good n d=true
 | x::xs,h,d,hd=>by
  rw[MH,HD]at h;cases hd with
  | head=>exact h.1
  | tail _ hd=>exact eg h.2 d hd
theorem dB {n:Nat}:∀ {xs:List D},(∀ d∈xs,good n d=true)->MH n xs=true
 | [],_=>rfl
 | x::xs,h=>by rw[MH,h x (.head _),dB λd hd=>h d (.tail _ hd)];rfl
def ex1 {k:Nat}(h:k+1<=n):∃ m,n=m+1/\k<=m:=⟨n - 1,by omega,by omega⟩
def cP {d:D}(h:Nx d=false)(h':noX d=true):Nn NT d=.ok (.bl false):=by cases d<;>first | rfl | (cases h;done) | (cases h';done)
def DC {c:Nat}{p:D->Bool}(hi:fvL.contains i=true)(hp:∀ m d,c<=m->noX d=true->pf m i [d]=.ok (.bl (p d))):∀ (n m:Nat) (s:Int) (d:D),good n d=true->slim n d=true->n+c+1<=m->pf m F.aC [.int s,d,.fn i]=.ok (.bl (No p n s d)):=by
 have flat:∀ (n m:Nat) (s:Int) (d:D),Nx d=false->noX d=true->c+1<=m->No p n s d=p d->pf m F.aC [.int s,d,.fn i]=.ok (.bl (No p n s d)):=λn m s d ht hx hm e=>by
  obtain⟨m,rfl,hm⟩:=ex1 hm;rw[nE,fP,cP ht hx,e];have:onF fvL (.fn i) (λi=>pf m i [d])=.ok (.bl (p d)):=by
   show (if fvL.contains i=true then pf m i [d] else R.stuck)=_;rw[if_pos hi,hp m d (by omega) hx]
  simp[this]
 intro n
 induction n with
 | zero =>
  intro m s d hg hs hm;have ht:Nx d=false:=by cases d<;>first | rfl | (simp[good]at hg)
  exact flat 0 m s d ht (dA hg) (by omega) (by cases d<;>rfl)
 | succ n ih =>
  intro m s d hg hs hm;by_cases ht:Nx d=true
  ·cases d with
   | tup xs =>
    rw[good]at hg;rw[slim,HD,HH,HS]at hs;obtain⟨m,rfl,hm⟩:=ex1 (show n+c+1+1<=m by omega);rw[nE,fP];have hc:Nj (λpart=>(Ob (.int s) (.int 1)).bind λx1=>pf m F.aC [x1,part,.fn i]) xs=.ok (.lst (xs.map λd=>.bl (No p n (s - 1) d))) :=
     xi _ λd hd=>by rw[dz,R.bind_ok];exact ih m (s - 1) d (eg hg d hd) (hs.2 d hd) (by omega)
    simp only[bY,aP,cX,IL,aw,aX,iZ,bS,R.bind_ok,fu,lI,jA (show xs.length<=16777216 by omega),hc,kh,No];by_cases h0:s=0
    ·simp[h0]
    ·by_cases h4:xs.length=4
     ·simp[h0,h4]
     ·have h4':¬ ((xs.length:Int)=4):=by omega
      simp[h0,h4,h4']
   | _=>cases ht
  ·have ht':Nx d=false:=by simpa using ht
   exact flat (n+1) m s d ht' (dA hg) (by omega) (by cases d<;>first | rfl | (cases ht';done))
noncomputable def Nr (p:D->Bool)(n:Nat):D->Bool
 | .tup [s,t]=>Np 3 s&&(match s with
  | .int i=>No p n i t
  | _=>false)
 | _=>false
def Br {c:Nat}{p:D->Bool}(hc:2<=c)(hi:fvL.contains i=true)(hp:∀ m d,c<=m->noX d=true->pf m i [d]=.ok (.bl (p d)))(n m:Nat)(d:D)(hg:good (n+1) d=true)(hs:slim (n+1) d=true)(hm:n+c+2<=m):pf m F.aB [d,.fn i]=.ok (.bl (Nr p n d)):=by
 obtain⟨m,rfl,hm⟩:=ex1 (show n+c+1+1<=m by omega);rw[kZ,b8];by_cases ht:Nx d=true
 ·cases d with
  | tup xs =>
   rw[good]at hg;rw[slim,HD,HH,HS]at hs;by_cases h2:xs.length=2
   ·match xs,h2 with
    | [a,b],_ =>
     have ga:=eg hg a (by simp);have gb:=eg hg b (by simp);have sb:=hs.2 b (by simp);have hz:pf m F.aJ [a]=.ok (.bl (Np 3 a)):=xl (by omega) (dA ga);simp only[bY,aP,cX,IL,bS,R.bind_ok,fu,Rk,QH,lI,HB,Ip,hz];cases a with
     | int v =>
      rw[DC hi hp n m v b gb sb (by omega)];by_cases hv:Np 3 (.int v)=true
      ·simp[hv,Nr]
      ·have hv':Np 3 (.int v)=false:=by simpa using hv
       simp[hv',Nr]
     | _=>simp[Nr,Np]
   ·have h2':¬ ((xs.length:Int)=2):=by omega
    have e:Nr p n (.tup xs)=false:=by
     match xs,h2 with
     | [],_=>rfl
     | [_],_=>rfl
     | _::_::_::_,_=>rfl
    simp[h2',e]
  | _=>cases ht
 ·have ht':Nx d=false:=by simpa using ht
  rw[cP ht' (dA hg)];have e:Nr p n d=false:=by cases d<;>first | rfl | (cases ht';done)
  simp[e]
noncomputable def scr (ns:List Int):D:=.lst (ns.map .int)
noncomputable def cell (ns:List Int)(k:Nat):Int:=if k < ns.length then ns.getD k 0 else if ns=[] then 0 else ns.getD (k%ns.length) 0*31+k
noncomputable def pk (ns:List Int)(k:Nat)(m:Int):Int :=
 let d:=(cell ns k+6151*((k:Int)+1))*40692%2147483399
 (d*d+d/31)%2147483629%m
def ql {k:Nat}{m:Int}(h:0 < m):0<=pk ns k m:=Int.emod_nonneg _ (by omega)
def qm {k:Nat}{m:Int}(h:0 < m):pk ns k m < m:=Int.emod_lt_of_pos _ h
theorem lJ (n:Nat):∀ ns:List Int,MH n (ns.map .int)=true
 | []=>rfl
 | i::r=>by rw[Hq,MH,lJ n r];cases n<;>rfl
def DD (hn:1<=n)(ns:List Int)(k:Nat):pf n F.bi [scr ns,.int k]=.ok (.int (cell ns k)):=by
 obtain⟨n,rfl,hn⟩:=ex1 hn;rw[yS,jU];unfold scr cell;by_cases h:k < ns.length
 ·have h':((k:Int) < (ns.length:Int)):=by omega
  have e0:=ixL (xs:=ns.map .int) (i:=k) (x:=.int (ns.getD k 0)) (by rw[Ir,HU h];simp[List.getD,h]);simp only[STP,Hx,Hu,Hy,Ht,reduceIte,reduceCtorEq,OPP,Hl,Hz h',e0,if_pos h]
 ·have h':¬ ((k:Int) < (ns.length:Int)):=by omega
  cases ns with
  | nil =>
   have e1:dEq (.lst []) (.lst [])=.ok (.bl true):=rfl;have h2:¬ ((k:Int) < ((0:Nat):Int)):=by omega
   simp only[STP,Hx,Hu,Hy,Ht,reduceIte,reduceCtorEq,OPP,IG,Ip,Hv h2,e1,if_neg (Nat.not_lt_zero k)]
  | cons a r =>
   have hl:0 < (a::r).length:=by simp
   have hk:k%(a::r).length < (a::r).length:=Nat.mod_lt _ hl;have e1:dEq (.lst ((a::r).map .int)) (.lst [])=.ok (.bl false):=by
    rw[og (by rw[good];exact lJ _ _) rfl]
    simp[eqD,NO]
   have e2:OJ (.int (k:Int)) (.int ((a::r).length:Int))=.ok (.int ((k%(a::r).length:Nat):Int)):=by
    rw[eW (by omega)];rfl
   have e3:dIx (.lst ((a::r).map .int)) (.int ((k%(a::r).length:Nat):Int))=.ok (.int ((a::r).getD (k%(a::r).length) 0)) :=
    ixL (by rw[Ir,HU hk,List.getD,HU hk];rfl)
   have e4:=bF (a:=(a::r).getD (k%(a::r).length) 0) (b:=31) (.inl (by decide));simp only[STP,Hx,Hu,Hy,Ht,reduceIte,reduceCtorEq,OPP,Hl,Hv h',e1,e2,e3,e4,if_neg h]
def rM (hn:2<=n)(ns:List Int)(k:Nat){m:Int}(hm:0 < m):pf n F.ac [scr ns,.int k,.int m]=.ok (.int (pk ns k m)):=by
 obtain⟨n,rfl,hn⟩:=ex1 hn;rw[yT,jV,DD (by omega)];simp only[R.bind_ok,aJ];rw[bF (.inr (by decide))];simp only[R.bind_ok,aJ];rw[bF (.inl (by decide))];simp only[R.bind_ok];rw[eW (by decide)];simp only[aw];have h0:0<=(cell ns k+6151*((k:Int)+1))*40692%2147483399:=Int.emod_nonneg _ (by decide);have h1:(cell ns k+6151*((k:Int)+1))*40692%2147483399 < 2147483399:=Int.emod_lt_of_pos _ (by decide);rw[bF (.inl ⟨by omega,by omega⟩),oa (by decide) (by decide)];simp only[R.bind_ok,aJ];rw[eW (by decide)];simp only[R.bind_ok];rw[eW hm];rfl
def km (hn:2<=n)(ns:List Int)(k:Nat){a m:Int}(ha:a=(k:Int))(hm:0 < m):pf n F.ac [scr ns,.int a,.int m]=.ok (.int (pk ns k m)):=by subst ha;exact rM hn ns k hm
def W9 (v:Int):Prop:=0<=v/\v<=9
noncomputable def O9 (ns:List Int)(k:Nat):Int:=[0,1,1,2,9,pk ns (k+1) 10].getD (pk ns (k+2) 6).toNat 0
noncomputable def dt (ns:List Int):Nat->Nat->Q Int
 | 0,k=>.lf (O9 ns k)
 | n+1,k=>if pk ns k 6 < 2 then .lf (O9 ns k) else if pk ns k 6=2 then .nd (dt ns n (k+3)) (dt ns n (k+3)) (dt ns n (k+3)) (dt ns n (k+3)) else
  .nd (dt ns n (5*k+7)) (dt ns n (5*k+18)) (dt ns n (5*k+29)) (dt ns n (5*k+40))
def xm (ns:List Int)(k:Nat):W9 (O9 ns k):=by
 unfold O9 W9;have h0:=ql (ns:=ns) (k:=k+2) (m:=6) (by decide);have h1:=qm (ns:=ns) (k:=k+2) (m:=6) (by decide);have g0:=ql (ns:=ns) (k:=k+1) (m:=10) (by decide);have g1:=qm (ns:=ns) (k:=k+1) (m:=10) (by decide);obtain⟨j,hj⟩:∃ j:Nat,pk ns (k+2) 6=(j:Int):=⟨(pk ns (k+2) 6).toNat,by omega⟩;rw[hj]at h1 ⊢;have:j < 6:=by omega
 rcases j with _ | _ | _ | _ | _ | _ | j<;>first | (simp;done) | (simp;omega) | omega
theorem v6 (ns:List Int):∀ n k,(dt ns n k).dep<=n
 | 0,k=>Hr _
 | n+1,k=>by
  rw[dt];have h1:=v6 ns n;split
  ·exact IA _
  ·split
   ·have:=h1 (k+3);simp only[Q.dep];omega
   ·have a:=h1 (5*k+7);have b:=h1 (5*k+18);have c:=h1 (5*k+29);have d:=h1 (5*k+40);simp only[Q.dep];omega
theorem Bs (ns:List Int):∀ n k,(dt ns n k).All W9
 | 0,k=>xm ns k
 | n+1,k=>by
  rw[dt];have h1:=Bs ns n;split
  ·exact xm ns k
  ·split
   ·exact⟨h1 _,h1 _,h1 _,h1 _⟩
   ·exact⟨h1 _,h1 _,h1 _,h1 _⟩
def uy (hn:2<=n)(ns:List Int)(k:Nat):((((Nf (.int (k:Int)) (.int 1)).bind λx=>pf n F.ac [scr ns,x,.int 10]).bind λx1=>.ok (.lst [.int 0,.int 1,.int 1,.int 2,.int 9,x1])).bind λx2=>((Nf (.int (k:Int)) (.int 2)).bind λx3=>pf n F.ac [scr ns,x3,.int 6]).bind λx4=>dIx x2 x4)=.ok (.int (O9 ns k)):=by
 simp only[aJ,R.bind_ok];rw[km hn ns (k+1) (by omega) (by decide),km hn ns (k+2) (by omega) (by decide)];simp only[R.bind_ok];have h0:=ql (ns:=ns) (k:=k+2) (m:=6) (by decide);have h1:=qm (ns:=ns) (k:=k+2) (m:=6) (by decide);unfold O9;obtain⟨j,hj⟩:∃ j:Nat,pk ns (k+2) 6=(j:Int):=⟨(pk ns (k+2) 6).toNat,by omega⟩;rw[hj]at h1 ⊢;have:j < 6:=by omega
 rcases j with _ | _ | _ | _ | _ | _ | j<;>first | rfl | omega
def Sw (x:D):Nw (.tup [x]) (.int 4)=.ok (.tup [x,x,x,x]):=rfl
def Sv:Ny [.int 4]=.ok [.int 0,.int 1,.int 2,.int 3]:=rfl
def Bt (ns:List Int):∀ (s k n:Nat),s+3<=n->pf n F.ap [scr ns,.int k,.int s]=.ok ((dt ns s k).d .int):=by
 intro s
 induction s with
 | zero =>
  intro k n hn;obtain⟨n,rfl,hn⟩:=ex1 (show 2+1<=n by omega);rw[p6,g7,rM (by omega) ns k (by decide)];simp only[aw];rw[uy (by omega)]
  simp[dt,Q.d]
 | succ s ih =>
  intro k n hn;obtain⟨n,rfl,hn⟩:=ex1 (show s+3+1<=n by omega);rw[p6,g7,rM (by omega) ns k (by decide)];simp only[aw];rw[uy (by omega)];have hs:¬ (((s+1:Nat):Int)=0):=by omega
  have hs1:((s+1:Nat):Int) - 1=(s:Int):=by omega
  have ih':∀ (a:Int) (j:Nat),a=(j:Int)->pf n F.ap [scr ns,.int a,.int (s:Int)]=.ok ((dt ns s j).d .int):=λa j e=>by subst e;exact ih j n (by omega)
  rw[dt];by_cases h2:pk ns k 6 < 2
  ·simp only[STP,Hx,Hu,Hy,Ht,reduceIte,reduceCtorEq,OPP,Hv hs,Hz h2,if_pos h2,Q.d]
  ·by_cases h3:pk ns k 6=2
   ·have e:=ih' ((k:Int)+3) (k+3) (by omega);simp only[STP,Hx,Hu,Hy,Ht,reduceIte,reduceCtorEq,OPP,Hv hs,Hv h2,Hz h3,if_neg h2,if_pos h3,hs1,e,Sw,Q.d]
   ·have step:∀ (i:Nat) ,(((Nw (.int 5) (.int (k:Int))).bind λx9=>Nf x9 (.int 7)).bind λx10=>(Nw (.int 11) (.int (i:Int))).bind λx11=>Nf x10 x11).bind (λx12=>pf n F.ap [scr ns,x12,.int (s:Int)])=.ok ((dt ns s (5*k+7+11*i)).d .int):=λi=>by
     rw[bF (.inr (by decide)),bF (.inr (by decide))];simp only[R.bind_ok,aJ];exact ih' _ _ (by omega)
    have e:Nj (λGs=>(((Nw (.int 5) (.int (k:Int))).bind λx9=>Nf x9 (.int 7)).bind λx10=>(Nw (.int 11) Gs).bind λx11=>Nf x10 x11).bind λx12=>pf n F.ap [scr ns,x12,.int (s:Int)]) [.int 0,.int 1,.int 2,.int 3]=.ok (.lst [(dt ns s (5*k+7)).d .int,(dt ns s (5*k+18)).d .int,(dt ns s (5*k+29)).d .int,(dt ns s (5*k+40)).d .int]):=Pp (step 0) (step 1) (step 2) (step 3);simp only[STP,Hx,Hu,Hy,Ht,reduceIte,reduceCtorEq,OPP,Hv hs,Hv h2,Hv h3,if_neg h2,if_neg h3,hs1,Sv];rw[e];rfl
structure Pc (sz:Nat)(t:Q Int):Prop where
 h3:sz<=3
 dep:t.dep<=sz
 all:t.All W9
noncomputable def Ni (sz:Nat)(t:Q Int):D:=.tup [.int (sz:Int),t.d .int]
section
variable {α:Type}[DecidableEq α]{e:α->D}
theorem gQ:∀ {n m:Nat} {d:D},good n d=true->n<=m->good m d=true
 | n,m,.non,_,_=>by cases m<;>rfl
 | n,m,.bl _,_,_=>by cases m<;>rfl
 | n,m,.int _,_,_=>by cases m<;>rfl
 | n,m,.str _,_,_=>by cases m<;>rfl
 | n,m,.exc _,h,_=>by cases n<;>simp[good]at h
 | n,m,.fn _,h,_=>by cases n<;>simp[good]at h
 | 0,m,.tup _,h,_=>by simp[good]at h
 | 0,m,.lst _,h,_=>by simp[good]at h
 | n+1,0,.tup _,_,l=>by omega
 | n+1,0,.lst _,_,l=>by omega
 | n+1,m+1,.tup xs,h,l=>by
  rw[good]at h ⊢;exact dB λd hd=>gQ (n:=n) (eg h d hd) (by omega)
 | n+1,m+1,.lst xs,h,l=>by
  rw[good]at h ⊢;exact dB λd hd=>gQ (n:=n) (eg h d hd) (by omega)
def Bu (E:En e)(hn:1<=n){a b c d:Q α}(ha:a.dep<=50)(hb:b.dep<=50)(hc:c.dep<=50)(hd:d.dep<=50):pf n F.al [.tup [a.d e,b.d e,c.d e,d.d e]]=.ok ((N5 a b c d).d e):=by
 obtain⟨n,rfl,hn⟩:=ex1 hn;rw[l7,cF];cases a with
 | nd a1 a2 a3 a4=>simp only[STP,Hx,Hu,Hy,Ht,reduceIte,reduceCtorEq,OPP,Q.d,N5]
 | lf v =>
  have e1:Nn NT (Q.d e (.lf v))=.ok (.bl false):=cP (E.tup v) (dA (E.gd 0 v));have gv:good 59 (e v)=true:=E.gd 59 v;have e2:dEq (.tup [Q.d e (.lf v),b.d e,c.d e,d.d e]) (.tup [Q.d e (.lf v),Q.d e (.lf v),Q.d e (.lf v),Q.d e (.lf v)])=.ok (.bl (decide (b=.lf v)&&(decide (c=.lf v)&&decide (d=.lf v)))):=by
   rw[og]
   ·rw[eqD,NO,NO,NO,NO,NO,Q.eqd E,Q.eqd E,Q.eqd E,Q.eqd E]
    simp
   ·rw[good,MH,MH,MH,MH,MH,gQ (Q.gd E 50 b hb) (by decide),gQ (Q.gd E 50 c hc) (by decide),gQ (Q.gd E 50 d hd) (by decide),Q.d,gv];rfl
   ·rw[good,MH,MH,MH,MH,MH,Q.d,gv];rfl
  simp only[STP,Hx,Hu,Hy,Ht,reduceIte,reduceCtorEq,OPP,e1,e2];unfold N5;by_cases hb':b=.lf v
  ·by_cases hc':c=.lf v
   ·by_cases hd':d=.lf v
    ·simp[hb',hc',hd']
    ·simp[hb',hc',hd',Q.d]
   ·simp[hb',hc',Q.d]
  ·simp[hb',Q.d]
theorem im (E:En e):∀ (t:Q α) (n:Nat),t.dep<=40->t.dep+2<=n->pf n F.ax [t.d e]=.ok (t.lean.d e)
 | .lf a,n,_,hn=>by
  obtain⟨n,rfl,hn⟩:=ex1 (show 1+1<=n by omega);rw[jZ,dn];have e1:Nn NT (Q.d e (.lf a))=.ok (.bl false):=cP (E.tup a) (dA (E.gd 0 a));simp only[STP,Hx,Hu,Hy,Ht,reduceIte,reduceCtorEq,e1,Q.lean]
 | .nd a b c d,n,hd,hn=>by
  have hd':1+max (max a.dep b.dep) (max c.dep d.dep)<=40:=hd;have hn':1+max (max a.dep b.dep) (max c.dep d.dep)+2<=n:=hn;obtain⟨n,rfl,hn⟩:=ex1 (show max (max a.dep b.dep) (max c.dep d.dep)+2+1<=n by omega);rw[jZ,dn];have ka:=im E a n (by omega) (by omega);have kb:=im E b n (by omega) (by omega);have kc:=im E c n (by omega) (by omega);have kd:=im E d n (by omega) (by omega);have hm:Nj (λpart=>pf n F.ax [part]) [a.d e,b.d e,c.d e,d.d e]=.ok (.lst [a.lean.d e,b.lean.d e,c.lean.d e,d.lean.d e]):=Pp ka kb kc kd;have hp:=Bu E (n:=n) (by omega) (a:=a.lean) (b:=b.lean) (c:=c.lean) (d:=d.lean) (ik (n:=50) (by omega)) (ik (n:=50) (by omega)) (ik (n:=50) (by omega)) (ik (n:=50) (by omega));rw[Q.d];simp only[STP,Hx,Hu,Hy,Ht,reduceIte,reduceCtorEq,OPP,sq4,hm,hp,Q.lean]
theorem xn:∀ {n:Nat} {d:D},Nx d=false->Q5 d=false->slim n d=true
 | 0,d,_,_=>by cases d<;>rfl
 | n+1,d,h,h'=>by cases d<;>first | rfl | (cases h;done) | (cases h';done)
theorem oh (hl:∀ a,Q5 (e a)=false)(E:En e):∀ (n:Nat) (t:Q α),slim n (t.d e)=true
 | n,.lf a=>xn (E.tup a) (hl a)
 | 0,.nd ..=>rfl
 | n+1,.nd a b c d=>by
  rw[Q.d,Lw.slim];simp only[Ju,Lz,oh hl E n a,oh hl E n b,oh hl E n c,oh hl E n d,HB,Ip];rfl
theorem oi {p:D->Bool}(E:En e):∀ (m:Nat) (s:Nat) (t:Q α),t.dep<=m->t.dep<=s->t.All (λa=>p (e a)=true)->No p m s (t.d e)=true
 | m,s,.lf a,_,_,h=>by
  have:No p m s (e a)=p (e a):=by
   have:=E.tup a;cases m with
   | zero=>cases e a<;>rfl
   | succ m=>cases q:e a<;>first | rfl | (rw[q]at this;cases this)
  exact this.trans h
 | 0,s,.nd a b c d,h,_,_=>by simp[Q.dep]at h
 | m+1,0,.nd a b c d,_,h,_=>by simp[Q.dep]at h
 | m+1,s+1,.nd a b c d,h,h',Mz=>by
  have h1:1+max (max a.dep b.dep) (max c.dep d.dep)<=m+1:=h;have h2:1+max (max a.dep b.dep) (max c.dep d.dep)<=s+1:=h';rw[Q.d,Lw.No,show ((s+1:Nat):Int) - 1=(s:Int) by omega];have h0:((s+1:Nat):Int)≠0:=by omega
  simp only[Ju,Lz,oi E m s a (by omega) (by omega) Mz.1,oi E m s b (by omega) (by omega) Mz.2.1,oi E m s c (by omega) (by omega) Mz.2.2.1,oi E m s d (by omega) (by omega) Mz.2.2.2,HB,Ip,Hz h0];rfl
end
theorem kn {α:Type}{p q:α->Prop}(h:∀ a,p a->q a):∀ {t:Q α},t.All p->t.All q
 | .lf a,x=>h a x
 | .nd _ _ _ _,x=>⟨kn h x.1,kn h x.2.1,kn h x.2.2.1,kn h x.2.2.2⟩
def in9 (h:W9 v):Np 9 (.int v)=true:=by simp[Np,h.1,h.2]
def Bv:fvL.contains F.ae=true:=by decide
def Bw {m:Nat}{d:D}(hg:good (m+1) d=true)(hs:slim (m+1) d=true)(hn:m+5<=n):pf n F.aO [d]=.ok (.bl (Nr (Np 9) m d)):=by
 obtain⟨n,rfl,hn⟩:=ex1 (show m+4+1<=n by omega);rw[oU,dP,Br (c:=2) (p:=Np 9) (by decide) Bv (λm d h1 h2=>kl h1 h2) m n d hg hs (by omega)];rfl
def qo {m:Nat}{d:D}(hg:good (m+1) d=true)(hs:slim (m+1) d=true)(hn:m+6<=n):pf n F.ab [d]=if Nr (Np 9) m d=true then .ok .non else .err 1:=by
 obtain⟨n,rfl,hn⟩:=ex1 (show m+5+1<=n by omega);rw[k6,b9,Bw hg hs (by omega)];cases Nr (Np 9) m d<;>rfl
section
variable {sz:Nat}{t:Q Int}
def Pc.good (p:Pc sz t):good 4 (Ni sz t)=true:=by
 unfold Ni;rw[FF.good,MH,MH,MH,Q.gd En.int 3 t (HK p.dep p.h3)];rfl
def Pc.slim (p:Pc sz t):slim 4 (Ni sz t)=true:=by
 unfold Ni;rw[Lw.slim];simp only[Ju,Lz,oh (λ_=>rfl) En.int,xn (d:=.int (sz:Int)) rfl rfl,HB,Ip];rfl
def Pc.sized (p:Pc sz t):Nr (Np 9) 3 (Ni sz t)=true:=by
 have h3:=p.h3;have h1:Np 3 (.int (sz:Int))=true:=by simp[Np];omega
 unfold Ni Nr;simp only[h1,oi En.int 3 sz t (HK p.dep p.h3) p.dep (kn (λa h=>in9 h) p.all)];rfl
def Pc.check (p:Pc sz t)(hn:9<=n):pf n F.ab [Ni sz t]=.ok .non:=by rw[qo p.good p.slim hn,p.sized];rfl
def Pc.lean (p:Pc sz t)(hn:10<=n):pf n F.a5 [Ni sz t]=.ok (Ni sz (T (t.at sz) sz)):=by
 obtain⟨n,rfl,hn⟩:=ex1 (show 9+1<=n by omega);have h3:=p.h3;have hd:=p.dep;have e1:=p.check (n:=n) (by omega);have e2:=im En.int t n (by omega) (by omega);rw[xg,nC,e1,<- gP sz t p.dep];unfold Ni;simp only[STP,Hx,Hu,Hy,Ht,reduceIte,reduceCtorEq,OPP,e2]
def QA {f:MO}(h3:sz<=3)(h:∀ x y,x < 2^sz->y < 2^sz->W9 (f x y)):Pc sz (T f sz):=⟨h3,fU sz f,uv sz f h⟩
def Pc.at (p:Pc sz t)(x y:Nat):W9 (t.at sz x y):=lH sz t x y p.all
def Pc.side (p:Pc sz t)(hn:1<=n):pf n F.aD [Ni sz t]=.ok (.int ((2^sz:Nat):Int)):=by
 obtain⟨n,rfl,hn⟩:=ex1 (show 0+1<=n by omega);have h3:=p.h3;rw[vD,iQ];unfold Ni;have:sz=0\/sz=1\/sz=2\/sz=3:=by omega
 rcases this with rfl | rfl | rfl | rfl<;>rfl
end
section
variable {α:Type}[DecidableEq α]{e:α->D}
def p8 {s:Nat}(h:s<=3):2^s<=8:=by
 have:s=0\/s=1\/s=2\/s=3:=by omega
 rcases this with rfl | rfl | rfl | rfl<;>decide
def pos2 (s:Nat):0 < 2^s:=Nat.pow_pos (by decide)
def io {a b:Nat}(h0:0 < b)(h1:b < 1073741824):OD (.int (a:Int)) (.int (b:Int))=.ok (.int ((a/b:Nat):Int)):=by
 rw[oa (by omega) (by omega)];rfl
def oj {a b:Nat}(h0:0 < b):OJ (.int (a:Int)) (.int (b:Int))=.ok (.int ((a%b:Nat):Int)):=by
 rw[eW (by omega)];rfl
theorem om (E:En e):∀ (s:Nat) (t:Q α) (n x y:Nat),s<=3->t.dep<=s->x < 2^s->y < 2^s->t.dep+1<=n->pf n F.aE [t.d e,.int ((2^s:Nat):Int),.int (x:Int),.int (y:Int)]=.ok (e (t.at s x y))
 | s,.lf a,n,x,y,_,_,_,_,hn=>by
  obtain⟨n,rfl,hn⟩:=ex1 (show 0+1<=n by omega);rw[lX,eL,n9];have e1:Nn NT (Q.d e (.lf a))=.ok (.bl false):=cP (E.tup a) (dA (E.gd 0 a));simp only[STP,Hx,Hu,Hy,Ht,reduceIte,reduceCtorEq,e1];rfl
 | 0,.nd ..,_,_,_,_,h,_,_,_=>by simp[Q.dep]at h
 | s+1,.nd a b c d,n,x,y,h3,hd,hx,hy,hn=>by
  have hd':1+max (max a.dep b.dep) (max c.dep d.dep)<=s+1:=hd;have hn':1+max (max a.dep b.dep) (max c.dep d.dep)+1<=n:=hn;obtain⟨n,rfl,hn⟩:=ex1 (show 0+1<=n by omega);have hs:=p8 (show s<=3 by omega);have hp:=pos2 s;rw[bN]at hx hy;rw[lX,eL,Q.d];have e1:OD (.int ((2^(s+1):Nat):Int)) (.int 2)=.ok (.int ((2^s:Nat):Int)):=by
   have:=io (a:=2^(s+1)) (b:=2) (by decide) (by decide);rw[show (2^(s+1)/2:Nat)=2^s by rw[bN];omega]at this;exact this
  have e2:=io (a:=y) (b:=2^s) hp (by omega);have e3:=io (a:=x) (b:=2^s) hp (by omega);have e4:=oj (a:=x) (b:=2^s) hp;have e5:=oj (a:=y) (b:=2^s) hp;have e6:Nw (.int 2) (.int ((y/2^s:Nat):Int))=.ok (.int (2*((y/2^s:Nat):Int))):=bF (.inr (by decide));rw[Q.at];by_cases h1:y < 2^s
  ·have y0:y/2^s=0:=Jb h1;have y1:y%2^s=y:=JF h1;by_cases h2:x < 2^s
   ·have x0:x/2^s=0:=Jb h2;have x1:x%2^s=x:=JF h2;have k:=om E s a n x y (by omega) (by omega) h2 h1 (by omega);simp only[STP,Hx,Hu,Hy,Ht,reduceIte,reduceCtorEq,OPP,e1,e2,e3,e4,e5,e6,if_pos h1,if_pos h2];rw[y0,x0,x1,y1];show MW (lB ((dIx (.tup [a.d e,b.d e,c.d e,d.d e]) (.int 0)).bind _) _)=_;simp only[STP,Hx,Hu,Hy,Ht,reduceIte,reduceCtorEq,OPP,k]
   ·have x0:x/2^s=1:=by
     have:x=(x - 2^s)+2^s:=by omega
     rw[this,Lf _ hp,Jb (by omega)]
    have x1:x%2^s=x - 2^s:=by rw[K5 (by omega),JF (by omega)]
    have k:=om E s b n (x - 2^s) y (by omega) (by omega) (by omega) h1 (by omega);simp only[STP,Hx,Hu,Hy,Ht,reduceIte,reduceCtorEq,OPP,e1,e2,e3,e4,e5,e6,if_pos h1,if_neg h2];rw[y0,x0,x1,y1];show MW (lB ((dIx (.tup [a.d e,b.d e,c.d e,d.d e]) (.int 1)).bind _) _)=_;simp only[STP,Hx,Hu,Hy,Ht,reduceIte,reduceCtorEq,OPP,k]
  ·have y0:y/2^s=1:=by
    have:y=(y - 2^s)+2^s:=by omega
    rw[this,Lf _ hp,Jb (by omega)]
   have y1:y%2^s=y - 2^s:=by rw[K5 (by omega),JF (by omega)]
   by_cases h2:x < 2^s
   ·have x0:x/2^s=0:=Jb h2;have x1:x%2^s=x:=JF h2;have k:=om E s c n x (y - 2^s) (by omega) (by omega) h2 (by omega) (by omega);simp only[STP,Hx,Hu,Hy,Ht,reduceIte,reduceCtorEq,OPP,e1,e2,e3,e4,e5,e6,if_neg h1,if_pos h2];rw[y0,x0,x1,y1];show MW (lB ((dIx (.tup [a.d e,b.d e,c.d e,d.d e]) (.int 2)).bind _) _)=_;simp only[STP,Hx,Hu,Hy,Ht,reduceIte,reduceCtorEq,OPP,k]
   ·have x0:x/2^s=1:=by
     have:x=(x - 2^s)+2^s:=by omega
     rw[this,Lf _ hp,Jb (by omega)]
    have x1:x%2^s=x - 2^s:=by rw[K5 (by omega),JF (by omega)]
    have k:=om E s d n (x - 2^s) (y - 2^s) (by omega) (by omega) (by omega) (by omega) (by omega);simp only[STP,Hx,Hu,Hy,Ht,reduceIte,reduceCtorEq,OPP,e1,e2,e3,e4,e5,e6,if_neg h1,if_neg h2];rw[y0,x0,x1,y1];show MW (lB ((dIx (.tup [a.d e,b.d e,c.d e,d.d e]) (.int 3)).bind _) _)=_;simp only[STP,Hx,Hu,Hy,Ht,reduceIte,reduceCtorEq,OPP,k]
end
noncomputable def Nz {α:Type}(e:α->D)(f:Nat->Nat->α)(w y:Nat):D:=.tup ((List.range w).map λx=>e (f x y))
noncomputable def MX {α:Type}(e:α->D)(f:Nat->Nat->α)(w h:Nat):D:=.tup ((List.range h).map λy=>Nz e f w y)
def de {s:Nat}(h:s<=16777216):Ny [.int (s:Int)]=.ok ((List.range s).map λi=>D.int ((i:Nat):Int)):=by
 show (if -16777216<=(s:Int)/\(s:Int)<=16777216 then R.ok (O4 0 (s:Int).toNat) else R.stuck)=_;rw[if_pos ⟨by omega,by omega⟩];unfold O4
 simp
def v7 {α:Type}{e:α->D}{f g:Nat->Nat->α}(h:∀ x,x < w->f x y=g x y):Nz e f w y=Nz e g w y:=by
 unfold Nz
 congr 1
 exact IV λx hx=>by rw[h x (HG.mp hx)]
def l3 {α:Type}{e:α->D}{f g:Nat->Nat->α}{k:Nat}(h:∀ x y,x < w->y < k->f x y=g x y):MX e f w k=MX e g w k:=by
 unfold MX
 congr 1
 exact IV λy hy=>v7 λx hx=>h x y hx (HG.mp hy)
def df {α:Type}{e:α->D}{f:Nat->Nat->α}{x:Nat}(h:x < w):dIx (Nz e f w y) (.int (x:Int))=.ok (e (f x y)):=ixT (by simp[h])
def eX {α:Type}{e:α->D}{f:Nat->Nat->α}{k:Nat}(h:y < k):dIx (MX e f w k) (.int (y:Int))=.ok (Nz e f w y):=ixT (by simp[h])
section
variable {sz:Nat}{t:Q Int}
def Pc.row (p:Pc sz t)(hn:5<=n)(hy:y < 2^sz):pf n F.aH [Ni sz t,.int (y:Int)]=.ok (Nz .int (t.at sz) (2^sz) y):=by
 obtain⟨n,rfl,hn⟩:=ex1 (show 4+1<=n by omega);have h3:=p.h3;have hd:=p.dep;have h8:=p8 h3;have e1:=p.side (n:=n) (by omega);have hm:Nj (λx=>(dIx (Ni sz t) (.int 1)).bind λx1=>pf n F.aE [x1,.int ((2^sz:Nat):Int),x,.int (y:Int)]) ((List.range (2^sz)).map λi=>D.int ((i:Nat):Int))=.ok (.lst ((List.range (2^sz)).map λx=>D.int (t.at sz x y))) :=
  aV _ _ λx hx=>by
   unfold Ni;rw[QH,R.bind_ok];exact om En.int sz t n x y h3 hd (HG.mp hx) hy (by omega)
 rw[re,fi];simp only[STP,Hx,Hu,Hy,Ht,reduceIte,reduceCtorEq,e1,de (show 2^sz<=16777216 by omega),hm,OPP];rfl
def Pc.rows (p:Pc sz t)(hn:10<=n):pf n F.ao [Ni sz t]=.ok (MX .int (t.at sz) (2^sz) (2^sz)):=by
 obtain⟨n,rfl,hn⟩:=ex1 (show 9+1<=n by omega);have h8:=p8 p.h3;have e1:=p.side (n:=n) (by omega);have e2:=p.check (n:=n) (by omega);have hm:Nj (λy=>pf n F.aH [Ni sz t,y]) ((List.range (2^sz)).map λi=>D.int ((i:Nat):Int))=.ok (.lst ((List.range (2^sz)).map λy=>Nz .int (t.at sz) (2^sz) y)) :=
  aV _ _ λy hy=>p.row (by omega) (HG.mp hy)
 rw[i6,cG];simp only[STP,Hx,Hu,Hy,Ht,reduceIte,reduceCtorEq,e1,e2,de (show 2^sz<=16777216 by omega),hm,OPP];rfl
def zp (hn:2<=n)(s x:Int):pf n F.aP [.int s,.int x]=.ok (.bl (decide (0<=x)&&decide (x < s))):=by
 obtain⟨n,rfl,hn⟩:=ex1 (show 1+1<=n by omega);rw[tR,gn,il (by omega) rfl];simp only[STP,Hx,Hu,Hy,Ht,reduceIte,reduceCtorEq,OPP,isW]
noncomputable def inB (s:Nat)(x y:Int):Bool:=(decide (0<=x)&&decide (x < (s:Int)))&&(decide (0<=y)&&decide (y < (s:Int)))
def Pc.spot_any (p:Pc sz t)(hn:3<=n)(x y:Int):pf n F.aV [Ni sz t,.int x,.int y]=if inB (2^sz) x y=true then .ok .non else .err 2:=by
 obtain⟨n,rfl,hn⟩:=ex1 (show 2+1<=n by omega);rw[oV,dQ,p.side (by omega)];simp only[STP,Hx,Hu,Hy,Ht,reduceIte,reduceCtorEq,zp (show 2<=n by omega)];unfold inB;cases (decide (0<=x)&&decide (x < ((2^sz:Nat):Int)))<;>cases (decide (0<=y)&&decide (y < ((2^sz:Nat):Int)))<;>rfl
def DE {s x:Nat}(hx:x < s)(hy:y < s):inB s x y=true:=by unfold inB;simp;omega
def E2 {s:Nat}{x y:Int}(h:inB s x y=true):∃ a b:Nat,x=a/\y=b/\a < s/\b < s:=by
 unfold inB at h;simp only[HD,HH]at h;exact⟨x.toNat,y.toNat,by omega,by omega,by omega,by omega⟩
end
def xo (n:Nat):OD (.int ((2^(n+1):Nat):Int)) (.int 2)=.ok (.int ((2^n:Nat):Int)):=by
 have:=io (a:=2^(n+1)) (b:=2) (by decide) (by decide);rw[show (2^(n+1)/2:Nat)=2^n by rw[bN];omega]at this;exact this
def Bx {α:Type}(f:Nat->Nat->α)(a b c d:Nat):sh (sh f a b) c d=sh f (a+c) (b+d):=by
 funext x y;unfold sh;rw[show x+c+a=x+(a+c) by omega,show y+d+b=y+(b+d) by omega]
theorem fV (f:MO)(w h:Nat):∀ (n k l tp:Nat),n<=3->l+2^n<=w->tp+2^n<=h->n+2<=k->pf k F.ar [MX .int f w h,.int (l:Int),.int (tp:Int),.int ((2^n:Nat):Int)]=.ok ((T (sh f l tp) n).d .int)
 | 0,k,l,tp,_,hl,ht,hk=>by
  obtain⟨k,rfl,hk⟩:=ex1 (show 1+1<=k by omega);have e1:=eX (e:=D.int) (f:=f) (w:=w) (k:=h) (y:=tp) (by omega);have e2:=df (e:=D.int) (f:=f) (w:=w) (x:=l) (y:=tp) (by omega);rw[nF,fQ,show ((2^0:Nat):Int)=1 from rfl];simp only[STP,Hx,Hu,Hy,Ht,reduceIte,reduceCtorEq,OPP,decide_true,e1,e2];unfold T sh Q.d
  simp
 | n+1,k,l,tp,h3,hl,ht,hk=>by
  obtain⟨k,rfl,hk⟩:=ex1 (show n+2+1<=k by omega);rw[bN]at hl ht;have hp:=pos2 n;have e0:¬ (((2^(n+1):Nat):Int)=1):=by rw[bN];omega
  have k1:=fV f w h n k l tp (by omega) (by omega) (by omega) (by omega);have k2:=fV f w h n k (l+2^n) tp (by omega) (by omega) (by omega) (by omega);have k3:=fV f w h n k l (tp+2^n) (by omega) (by omega) (by omega) (by omega);have k4:=fV f w h n k (l+2^n) (tp+2^n) (by omega) (by omega) (by omega) (by omega);have c1:(l:Int)+((2^n:Nat):Int)=((l+2^n:Nat):Int):=by omega
  have c2:(tp:Int)+((2^n:Nat):Int)=((tp+2^n:Nat):Int):=by omega
  have hpt:=Bu En.int (n:=k) (by omega) (a:=T (sh f l tp) n) (b:=T (sh f (l+2^n) tp) n) (c:=T (sh f l (tp+2^n)) n) (d:=T (sh f (l+2^n) (tp+2^n)) n) (HK (fU n _) (by omega)) (HK (fU n _) (by omega)) (HK (fU n _) (by omega)) (HK (fU n _) (by omega));rw[nF,fQ];simp only[STP,Hx,Hu,Hy,Ht,reduceIte,reduceCtorEq,OPP,Hv e0,xo,c1,c2,k1,k2,k3,k4,hpt];rw[T,Bx,Bx,Bx,KM,KM]
def By (hn:3<=n)(f:MO)(s y:Nat)(hs:s<=1000)(hw:∀ x,x < s->W9 (f x y)):pf n F.a9 [Nz .int f s y,.int (s:Int)]=.ok (.bl true):=by
 obtain⟨n,rfl,hn⟩:=ex1 (show 2+1<=n by omega);have hm:Nj (λworth=>pf n F.ae [worth]) ((List.range s).map λx=>D.int (f x y))=.ok (.lst ((List.range s).map λx=>D.bl ((λ_=>true) x))) :=
  aV _ _ λx hx=>by rw[kl (by omega) rfl,in9 (hw x (HG.mp hx))]
 rw[yQ,jQ];unfold Nz;have hsq:sq (.tup ((List.range s).map λx=>D.int (f x y)))=.ok ((List.range s).map λx=>D.int (f x y)):=jA (by simp;omega);simp only[STP,Hx,Hu,Hy,Ht,reduceIte,reduceCtorEq,OPP,Hl,Ig,decide_true,hsq,hm,kh]
 simp
def bT {sz:Nat}(h:sz<=3):sz=0\/sz=1\/sz=2\/sz=3:=by omega
def uz {sz:Nat}(h:sz<=3):NM (.int ((2^sz:Nat):Int)) (NF [1,2,4,8])=.ok (.bl false):=by
 rcases bT h with rfl | rfl | rfl | rfl<;>rfl
def uA {sz:Nat}(h:sz<=3):(onT (NF [1,2,4,8]) λls=>NG ls [.int ((2^sz:Nat):Int)])=.ok (.int (sz:Int)):=by
 rcases bT h with rfl | rfl | rfl | rfl<;>rfl
def v8 {sz:Nat}(h:sz<=3):NG [.int 1,.int 2,.int 4,.int 8] [.int ((2^sz:Nat):Int)]=.ok (.int (sz:Int)):=by
 rcases bT h with rfl | rfl | rfl | rfl<;>rfl
def Wo (f:MO)(sz:Nat):Prop:=∀ x y,x < 2^sz->y < 2^sz->W9 (f x y)
def v9 {sz:Nat}(hn:4<=n)(h3:sz<=3){f:MO}(hw:Wo f sz):pf n F.a4 [MX .int f (2^sz) (2^sz)]=.ok (.bl true):=by
 obtain⟨n,rfl,hn⟩:=ex1 (show 3+1<=n by omega);have h8:=p8 h3;have hl:(Nq [MX .int f (2^sz) (2^sz)])=.ok (.int ((2^sz:Nat):Int)):=by unfold MX;rw[bS,Hl,Ig]
 have hm:Nj (λrow=>(Nq [MX .int f (2^sz) (2^sz)]).bind λx1=>pf n F.a9 [row,x1]) ((List.range (2^sz)).map λy=>Nz .int f (2^sz) y)=.ok (.lst ((List.range (2^sz)).map λx=>D.bl ((λ_=>true) x))) :=
  aV _ _ λy hy=>by rw[hl,R.bind_ok,By (by omega) f _ y (by omega) λx hx=>hw x y hx (HG.mp hy)]
 have ht:Nn NT (MX .int f (2^sz) (2^sz))=.ok (.bl true):=rfl;have hsq:sq (MX .int f (2^sz) (2^sz))=.ok ((List.range (2^sz)).map λy=>Nz .int f (2^sz) y):=jA (by simp;omega);rw[tU,gp];simp only[STP,Hx,Hu,Hy,Ht,reduceIte,reduceCtorEq,ht,hl,uz h3,hsq];rw[hl]at hm;simp only[STP,Hx,Hu,Hy,Ht,reduceIte,reduceCtorEq]at hm;simp only[STP,Hx,Hu,Hy,Ht,reduceIte,reduceCtorEq,hm,kh]
 simp
def zq {sz:Nat}(hn:6<=n)(h3:sz<=3){f:MO}(hw:Wo f sz):pf n F.bc [MX .int f (2^sz) (2^sz)]=.ok (Ni sz (T f sz)):=by
 obtain⟨n,rfl,hn⟩:=ex1 (show 5+1<=n by omega);have hl:(Nq [MX .int f (2^sz) (2^sz)])=.ok (.int ((2^sz:Nat):Int)):=by unfold MX;rw[bS,Hl,Ig]
 have e1:=fV f (2^sz) (2^sz) sz n 0 0 h3 (by omega) (by omega) (by omega);rw[vE,iR,v9 (by omega) h3 hw];simp only[STP,Hx,Hu,Hy,Ht,reduceIte,reduceCtorEq,hl,uA h3];rw[show ((0:Nat):Int)=0 from rfl]at e1;rw[e1];rfl
noncomputable def Pj {α:Type}(e:α->D)(f:Nat->Nat->α)(w y:Nat):D:=.lst ((List.range w).map λx=>e (f x y))
noncomputable def NC {α:Type}(e:α->D)(f:Nat->Nat->α)(w h:Nat):D:=.lst ((List.range h).map λy=>Pj e f w y)
def Bz {α:Type}{e:α->D}{f:Nat->Nat->α}{k:Nat}(h:y < k):dIx (NC e f w k) (.int (y:Int))=.ok (Pj e f w y):=ixL (by simp[h])
def Rn {xs:List D}(h:xs.length+ys.length<=16777216):Nf (.lst xs) (.lst ys)=.ok (.lst (xs++ys)):=by
 show (if xs.length+ys.length<=16777216 then R.ok (D.lst (xs++ys)) else R.stuck)=_;rw[if_pos h]
def BA {α:Type}{e:α->D}{fa fb F:Nat->Nat->α}{h y':Nat}(ha:∀ x,x < h->F x y'=fa x y)(hb:∀ x,x < h->F (h+x) y'=fb x y):((List.range h).map λx=>e (fa x y))++((List.range h).map λx=>e (fb x y))=(List.range (h+h)).map λx=>e (F x y'):=by
 rw[List.range_add,Ie,HX]
 congr 1
 ·exact IV λx hx=>by rw[ha x (HG.mp hx)]
 ·exact IV λx hx=>by show _=e (F (h+x) y');rw[hb x (HG.mp hx)]
def cQ {xs:List D}(h:xs.length+ys.length<=16777216):N6 xs (.lst ys)=.ok (xs++ys):=by unfold N6;simp[h]
def BB {xs:List D}(h:xs.length+ys.length<=16777216):N6 xs (.tup ys)=.ok (xs++ys):=by unfold N6;simp[h]
def mH {xs:List D}{y:D}(h:xs.length < 16777216):O5 xs y=.ok (xs++[y]):=by unfold O5;simp[h]
section
variable {α:Type}[DecidableEq α]{e:α->D}
def uB {fa fb F:Nat->Nat->α}{h o:Nat}(hh:h<=1000){some_:List D}{u:Nat}(e1:some_[u]?=some (NC e fa h h))(e2:some_[u+1]?=some (NC e fb h h))(ha:∀ x y,x < h->y < h->F x (o+y)=fa x y)(hb:∀ x y,x < h->y < h->F (h+x) (o+y)=fb x y){t:MF}{made:List D}(hm:made.length<=1000) :
  eO t (.lst some_) made (.int (u:Int))=.nx (made++(List.range h).map λy=>Pj e F (h+h) (o+y)):=by
 have i1:=ixL e1;have i2:dIx (.lst some_) (.int ((u:Int)+1))=.ok (NC e fb h h):=by have:=ixL e2;rw[show ((u+1:Nat):Int)=(u:Int)+1 by omega]at this;exact this
 have hl:Nq [NC e fa h h]=.ok (.int (h:Int)):=by unfold NC;rw[eV,Hl,Ig]
 have hc:Nj (λGs=>((dIx (.lst some_) (.int (u:Int))).bind λx2=>dIx x2 Gs).bind λx3=>(((Nf (.int (u:Int)) (.int 1)).bind λx4=>dIx (.lst some_) x4).bind λx5=>dIx x5 Gs).bind λx6=>Nf x3 x6) ((List.range h).map λi=>D.int ((i:Nat):Int))=.ok (.lst ((List.range h).map λy=>Pj e F (h+h) (o+y))) :=
  aV _ _ λy hy=>by
   have hy:=HG.mp hy;rw[i1];simp only[STP,Hx,Hu,Hy,Ht,reduceIte,reduceCtorEq,OPP,i2,Bz hy];unfold Pj;rw[Rn (by simp;omega),BA (F:=F) (y':=o+y) (λx hx=>ha x y hx hy) (λx hx=>hb x y hx hy)]
 unfold eO;rw[i1];simp only[STP,Hx,Hu,Hy,Ht,reduceIte,reduceCtorEq,hl,de (show h<=16777216 by omega)];rw[i1]at hc;simp only[STP,Hx,Hu,Hy,Ht,reduceIte,reduceCtorEq]at hc;simp only[STP,Hx,Hu,Hy,Ht,reduceIte,reduceCtorEq,hc];rw[cQ (by simp;omega)];rfl
theorem eY (E:En e):∀ (s:Nat) (t:Q α) (n:Nat),s<=3->t.dep<=s->s+1<=n->pf n F.az [.int (s:Int),t.d e]=.ok (NC e (t.at s) (2^s) (2^s))
 | 0,t,n,_,hd,hn=>by
  obtain⟨n,rfl,hn⟩:=ex1 (show 0+1<=n by omega);rw[j5,dr,show ((0:Nat):Int)=0 from rfl];simp only[STP,Hx,Hu,Hy,Ht,reduceIte,reduceCtorEq,OPP,decide_true];cases t with
  | lf a=>rfl
  | nd=>simp[Q.dep]at hd
 | s+1,t,n,h3,hd,hn=>by
  obtain⟨n,rfl,hn⟩:=ex1 (show s+1+1<=n by omega);have e0:¬ (((s+1:Nat):Int)=0):=by omega
  have e1:((s+1:Nat):Int) - 1=(s:Int):=by omega
  have h8:=p8 (show s<=3 by omega);obtain⟨a,b,c,d,hq,ha,hb,hc,hd4,hF⟩:∃ a b c d:Q α,(rIf (asB (Nn NT (t.d e))) (.ok (t.d e)) (Nw (.tup [t.d e]) (.int 4)))=.ok (.tup [a.d e,b.d e,c.d e,d.d e])/\a.dep<=s/\b.dep<=s/\c.dep<=s/\d.dep<=s/\∀ x y,t.at (s+1) x y=(Q.nd a b c d).at (s+1) x y:=by
   cases t with
   | lf v =>
    refine⟨.lf v,.lf v,.lf v,.lf v,?_,IA _,IA _,IA _,IA _,λx y=>by simp[Q.at]⟩;rw[cP (d:=Q.d e (.lf v)) (E.tup v) (dA (E.gd 0 v))];rfl
   | nd a b c d =>
    have hd':1+max (max a.dep b.dep) (max c.dep d.dep)<=s+1:=hd;exact⟨a,b,c,d,rfl,by omega,by omega,by omega,by omega,λ_ _=>rfl⟩
  have ka:=eY E s a n (by omega) ha (by omega);have kb:=eY E s b n (by omega) hb (by omega);have kc:=eY E s c n (by omega) hc (by omega);have kd:=eY E s d n (by omega) hd4 (by omega);have hm:Nj (λGC=>(Ob (.int ((s+1:Nat):Int)) (.int 1)).bind λx=>pf n F.az [x,GC]) [a.d e,b.d e,c.d e,d.d e]=.ok (.lst [NC e (a.at s) (2^s) (2^s),NC e (b.at s) (2^s) (2^s),NC e (c.at s) (2^s) (2^s),NC e (d.at s) (2^s) (2^s)]):=by
   rw[dz,e1];exact Pp ka kb kc kd
  have u1:=uB (e:=e) (fa:=a.at s) (fb:=b.at s) (F:=t.at (s+1)) (h:=2^s) (o:=0) (by omega) (some_:=[NC e (a.at s) (2^s) (2^s),NC e (b.at s) (2^s) (2^s),NC e (c.at s) (2^s) (2^s),NC e (d.at s) (2^s) (2^s)]) (u:=0) rfl rfl
   (λx y hx hy=>by rw[hF,Q.at,if_pos (by omega),if_pos hx,Mm]) (λx y hx hy=>by rw[hF,Q.at,if_pos (by omega),if_neg (by omega),Mm,JK]) (t:=pf n) (made:=[]) (by simp)
  have u2:=uB (e:=e) (fa:=c.at s) (fb:=d.at s) (F:=t.at (s+1)) (h:=2^s) (o:=2^s) (by omega) (some_:=[NC e (a.at s) (2^s) (2^s),NC e (b.at s) (2^s) (2^s),NC e (c.at s) (2^s) (2^s),NC e (d.at s) (2^s) (2^s)]) (u:=2) rfl rfl
   (λx y hx hy=>by rw[hF,Q.at,if_neg (by omega),if_pos hx,JK]) (λx y hx hy=>by rw[hF,Q.at,if_neg (by omega),if_neg (by omega),JK,JK]) (t:=pf n) (made:=(List.range (2^s)).map λy=>Pj e (t.at (s+1)) (2^s+2^s) (0+y)) (by simp;omega)
  rw[j5,dr,hq];have hs2:sq (.tup [.int 0,.int 2])=.ok [.int 0,.int 2]:=rfl;rw[show ((0:Nat):Int)=0 from rfl]at u1;rw[show ((2:Nat):Int)=2 from rfl]at u2;simp only[STP,Hx,Hu,Hy,Ht,reduceIte,reduceCtorEq,OPP,Hv e0,sq4,e1,hs2,aK,nq]at hm ⊢;simp only[STP,Hx,Hu,Hy,Ht,reduceIte,reduceCtorEq,hm,u1,Ij]at u2 ⊢;simp only[STP,Hx,Hu,Hy,Ht,reduceIte,reduceCtorEq,u2];unfold NC;rw[bN,List.range_add,Ie,HX]
  simp[Ku]
end
def Pc.lrows {sz:Nat}{t:Q Int}(p:Pc sz t)(hn:5<=n):pf n F.bb [Ni sz t]=.ok (MX .int (t.at sz) (2^sz) (2^sz)):=by
 obtain⟨n,rfl,hn⟩:=ex1 (show 4+1<=n by omega);have h3:=p.h3;have h8:=p8 h3;have e1:=eY En.int sz t n h3 p.dep (by omega);have hsq:sq (NC .int (t.at sz) (2^sz) (2^sz))=.ok ((List.range (2^sz)).map λy=>Pj .int (t.at sz) (2^sz) y):=bc (by simp;omega);have hm:Nj (λGI=>Nu [GI]) ((List.range (2^sz)).map λy=>Pj .int (t.at sz) (2^sz) y)=.ok (.lst ((List.range (2^sz)).map λy=>Nz .int (t.at sz) (2^sz) y)):=aV _ _ λy _=>rfl
 rw[yU,jW];unfold Ni;simp only[STP,Hx,Hu,Hy,Ht,reduceIte,reduceCtorEq,OPP,e1,hsq,hm];rfl
theorem kq {α:Type}(c:α->D){step:List D->D->L (List D)}(g:α->List D)(m:Nat):∀ (l:List α) (L0:List D),(∀ a∈l,∀ L0:List D,L0.length<=10000->step L0 (c a)=.nx (L0++g a))->(∀ a∈l,(g a).length<=m)->L0.length+l.length*m<=10000->Nl step (l.map c) L0=.nx (L0++l.flatMap g)
 | [],L0,_,_,_=>by simp
 | a::l,L0,h,hm,hl=>by
  have hl':L0.length+(l.length+1)*m<=10000:=hl;rw[Nat.add_mul]at hl';have ha:=hm a (.head _);rw[Hq,aK,h a (.head _) L0 (by omega),aX,kq c g m l (L0++g a) (λb hb=>h b (.tail _ hb)) (λb hb=>hm b (.tail _ hb)) (by rw[HJ];omega),JV,Iu]
theorem eZ:∀ is:List Int,NB (is.map .int)=some is
 | []=>rfl
 | i::r=>by rw[Hq,NB,eZ r];rfl
noncomputable def vals (f:MO)(w k:Nat):List Int:=(List.range k).flatMap λy=>(List.range w).map λx=>f x y
def BC (f:MO)(w k:Nat):(vals f w k).length=k*w:=by
 unfold vals;rw[List.length_flatMap];have:∀ l:List Nat,(l.map λy=>((List.range w).map λx=>f x y).length).sum=l.length*w:=λl=>by
  induction l with
  | nil=>simp
  | cons a l ih=>rw[Hq,Mf,ih,Hl,Ig,HB,Nat.add_mul];omega
 rw[this,Ig]
def uC {f:MO}{k:Nat}:v∈vals f w k↔∃ x y,x < w/\y < k/\v=f x y:=by
 unfold vals;simp only[JG,HF,HG];constructor
 ·rintro ⟨y,hy,x,hx,rfl⟩;exact⟨x,y,hx,hy,rfl⟩
 ·rintro ⟨x,y,hx,hy,rfl⟩;exact⟨y,hy,x,hx,rfl⟩
theorem BD:∀ {l:List Int},l.eraseDups.length=1↔∃ a r,l=a::r/\∀ v∈l,v=a
 | []=>by simp
 | a::r=>by
  rw[KS];constructor
  ·intro h;have h0:(r.filter λb=>!b==a).eraseDups=[]:=Ii.mp (by simpa using h);have h1:(r.filter λb=>!b==a)=[]:=by
    cases q:(r.filter λb=>!b==a) with
    | nil=>rfl
    | cons b s=>rw[q,KS]at h0;cases h0
   refine⟨a,r,rfl,λv hv=>?_⟩;cases hv with
   | head=>rfl
   | tail _ hv =>
    rw[JT]at h1
    simpa using h1 v hv
  ·rintro ⟨a',r',e,h⟩
   cases e;have:(r.filter λb=>!b==a)=[]:=JT.mpr λv hv=>by simpa using h v (.tail _ hv)
   rw[this];rfl
def qp {f:MO}{k:Nat}(hw:0 < w)(hk:0 < k):∃ r,vals f w k=f 0 0::r:=by
 obtain⟨w,rfl⟩:∃ m,w=m+1:=⟨w - 1,by omega⟩;obtain⟨k,rfl⟩:∃ m,k=m+1:=⟨k - 1,by omega⟩;unfold vals;rw[Kw (n:=k),JV,Kw (n:=w),Hq];exact⟨_,rfl⟩
def BE {f:MO}{k:Nat}(hw:0 < w)(hk:0 < k):(vals f w k).eraseDups.length=1↔∀ x y,x < w->y < k->f x y=f 0 0:=by
 rw[BD];obtain⟨r,hr⟩:=qp (f:=f) hw hk;constructor
 ·rintro ⟨a,r',e,h⟩ x y hx hy
  rw[hr]at e;cases e;exact h _ (uC.mpr ⟨x,y,hx,hy,rfl⟩)
 ·intro h;refine⟨_,r,hr,λv hv=>?_⟩;obtain⟨x,y,hx,hy,rfl⟩:=uC.mp hv;exact h x y hx hy
def SY {α:Type}[DecidableEq α]{f:Nat->Nat->α}(h:¬ ∀ x y,x < 2^(n+1)->y < 2^(n+1)->f x y=f 0 0):T f (n+1)=.nd (T f n) (T (sh f (2^n) 0) n) (T (sh f 0 (2^n)) n) (T (sh f (2^n) (2^n)) n):=by
 by_cases q:∃ v,T f (n+1)=.lf v
 ·obtain⟨v,q⟩:=q
  exfalso
  apply h;intro x y hx hy;have:=Pm (n+1) f x y hx hy;rw[q,n9]at this;have h0:=Pm (n+1) f 0 0 (pos2 _) (pos2 _);rw[q,n9]at h0;rw[<- this,h0]
 ·rw[T]at q ⊢;unfold N5 at q ⊢;split
  ·rename_i v e;split
   ·rename_i h';exfalso;apply q;rw[e];simp only;rw[if_pos h'];exact⟨v,rfl⟩
   ·rw[e]
  ·rfl
def mI {d k:Nat}(h:k<=n):HT.sIx n d (some ((k:Nat):Int))=k:=by
 unfold HT.sIx;simp only;rw[if_neg (by omega)];rw[Jx];omega
def qq {g:Nat->D}{a h:Nat}(hw:a+h<=w):N0 ((List.range w).map g) (some ((a:Nat):Int)) (some ((a+h:Nat):Int))=(List.range h).map λi=>g (a+i):=by
 unfold N0;rw[Hl,Ig,mI (by omega),mI (by omega),<- List.map_drop,<- List.map_take];have:((List.range w).drop a).take (a+h - a)=(List.range h).map (a + ·):=by
  rw[show a+h - a=h by omega];apply Lc;intro i;rw[List.getElem?_take];by_cases hi:i < h
  ·rw[if_pos hi,List.getElem?_drop,KT (by omega),Ir,KT hi];rfl
  ·rw[if_neg hi,Je (by simp;omega)]
 rw[this,HX];rfl
noncomputable def Pt (b:Bool)(xs:List D):D:=if b then .tup xs else .lst xs
def wa {b:Bool}{xs:List D}(h:xs.length<=16777216):sq (Pt b xs)=.ok xs:=by cases b;exact bc h;exact jA h
def DF {b:Bool}{xs:List D}{lo hi:Option Int}:dSw (Pt b xs) lo hi=.ok (Pt b (N0 xs lo hi)):=by cases b<;>rfl
def uD {b:Bool}{xs:List D}:Nq [Pt b xs]=.ok (.int xs.length):=by cases b<;>rfl
noncomputable def N2 {α:Type}(b:Bool)(e:α->D)(f:Nat->Nat->α)(w h:Nat):D:=Pt b ((List.range h).map λy=>Nz e f w y)
def zr:∀ (n:Nat) (b:Bool) (f:MO) (k:Nat),n<=3->n+1<=k->pf k F.a2 [N2 b .int f (2^n) (2^n)]=.ok ((T f n).d .int):=by
 have flat:∀ (b:Bool) (f:MO) (s:Nat) (t:MF),s<=8->Nl (τ:=List D) (λs x=>dX t s x) ((List.range s).map λy=>Nz .int f s y) []=.nx ((vals f s s).map .int):=λb f s t hs=>by
  have h8:s*s<=64:=IM hs hs;have:=kq (λy=>Nz .int f s y) (step:=λs x=>dX t s x) (λy=>(List.range s).map λx=>D.int (f x y)) s (List.range s) [] (λy hy L0 ha=>by
   unfold dX Nz;rw[BB (by simp;omega)];rfl) (λy hy=>by simp) (by simp;omega)
  rw[this];unfold vals
  simp[Ka,Ku]
 intro n
 induction n with
 | zero =>
  intro b f k _ hk;obtain⟨k,rfl,hk⟩:=ex1 (show 0+1<=k by omega);have hf:=flat b f 1 (pf k) (by decide);rw[nI,fS];unfold N2;rw[show (2^0:Nat)=1 from rfl,wa (by simp),aw,hf];rfl
 | succ n ih =>
  intro b f k h3 hk;obtain⟨k,rfl,hk⟩:=ex1 (show n+1+1<=k by omega);have h8:=p8 h3;have hp:=pos2 (n+1);have hq:=pos2 n;have hd:=bN n;have hf:=flat b f (2^(n+1)) (pf k) h8;have hls:OG [.lst ((vals f (2^(n+1)) (2^(n+1))).map .int)]=.ok (.int ((vals f (2^(n+1)) (2^(n+1))).eraseDups.length:Nat)):=by
   have hl:(vals f (2^(n+1)) (2^(n+1))).length<=4000:=by
    rw[BC];have:=IM h8 h8;omega
   unfold OG;simp only[eZ];rw[if_pos hl]
  have hv:=BE (f:=f) hp hp;obtain⟨r,hr⟩:=qp (f:=f) hp hp;have hsq:sq (N2 b .int f (2^(n+1)) (2^(n+1)))=.ok ((List.range (2^(n+1))).map λy=>Nz .int f (2^(n+1)) y):=wa (by simp;omega);have hln:Nq [N2 b .int f (2^(n+1)) (2^(n+1))]=.ok (.int ((2^(n+1):Nat):Int)):=by unfold N2;rw[uD];simp
  rw[nI,fS];by_cases Mz:∀ x y,x < 2^(n+1)->y < 2^(n+1)->f x y=f 0 0
  ·have h1:((vals f (2^(n+1)) (2^(n+1))).eraseDups.length:Int)=1:=by have:=hv.mpr Mz;omega
   have h2:dIx (.lst ((vals f (2^(n+1)) (2^(n+1))).map .int)) (.int 0)=.ok (.int (f 0 0)):=by
    have:=ixL (xs:=(vals f (2^(n+1)) (2^(n+1))).map .int) (i:=0) (x:=.int (f 0 0)) (by rw[hr];rfl);exact this
   have h3:T f (n+1)=.lf (f 0 0):=(bj _ _ _ Mz).trans (mF _ _);simp only[STP,Hx,Hu,Hy,Ht,reduceIte,reduceCtorEq,OPP,hsq,hf,hls,Hz h1,h2,h3,Q.d]
  ·have h1:¬ ((vals f (2^(n+1)) (2^(n+1))).eraseDups.length:Int)=1:=λq=>Mz (hv.mp (by omega))
   have one:∀ (tp lf:Nat) (parts:List D),tp+2^n<=2^(n+1)->lf+2^n<=2^(n+1)->parts.length<=10->gA (pf k) (N2 b .int f (2^(n+1)) (2^(n+1))) (.int ((2^n:Nat):Int)) (.int (tp:Int)) parts (.int (lf:Int))=.nx (parts++[(T (sh f lf tp) n).d .int]):=λtp lf parts htp hlf hpa=>by
    have c1:(tp:Int)+((2^n:Nat):Int)=((tp+2^n:Nat):Int):=by omega
    have c2:(lf:Int)+((2^n:Nat):Int)=((lf+2^n:Nat):Int):=by omega
    have ai:∀ i:Int,asI (.int i)=.ok (some i):=λ_=>rfl
    have s1:dSw (N2 b .int f (2^(n+1)) (2^(n+1))) (some (tp:Int)) (some ((tp+2^n:Nat):Int))=.ok (Pt b ((List.range (2^n)).map λi=>Nz .int f (2^(n+1)) (tp+i))):=by
     unfold N2;rw[DF,qq htp]
    have s2:sq (Pt b ((List.range (2^n)).map λi=>Nz .int f (2^(n+1)) (tp+i)))=.ok ((List.range (2^n)).map λi=>Nz .int f (2^(n+1)) (tp+i)):=wa (by simp;omega);have s3:Nj (λGI=>dSw GI (some (lf:Int)) (some ((lf+2^n:Nat):Int))) ((List.range (2^n)).map λi=>Nz .int f (2^(n+1)) (tp+i))=.ok (N2 false .int (sh f lf tp) (2^n) (2^n)):=by
     refine(aV _ (λi=>Nz .int (sh f lf tp) (2^n) i) λi hi=>?_).trans rfl;unfold Nz;show R.ok (D.tup (N0 _ _ _))=_;rw[qq (g:=λx=>D.int (f x (tp+i))) hlf];unfold sh
     congr 2
     exact IV λx _=>by rw[KN lf x,KN tp i]
    have s4:=ih false (sh f lf tp) k (by omega) (by omega);unfold gA;simp only[STP,Hx,Hu,Hy,Ht,reduceIte,reduceCtorEq,OPP,ai,c1,c2,s1,s2,s3,s4];rw[mH (by omega)];rfl
   have pair:∀ (tp:Nat) (parts:List D),tp+2^n<=2^(n+1)->parts.length<=5->gC (pf k) (N2 b .int f (2^(n+1)) (2^(n+1))) (.int ((2^n:Nat):Int)) parts (.int (tp:Int))=.nx (parts++[(T (sh f 0 tp) n).d .int,(T (sh f (2^n) tp) n).d .int]):=λtp parts htp hpa=>by
    have h0:=one tp 0 parts htp (by omega) (by omega);have h1:=one tp (2^n) (parts++[(T (sh f 0 tp) n).d .int]) htp (by omega) (by simp;omega);have hs2:sq (.tup [.int 0,(.int ((2^n:Nat):Int))])=.ok [.int 0,.int ((2^n:Nat):Int)]:=rfl;rw[show ((0:Nat):Int)=0 from rfl]at h0;unfold gC;simp only[STP,Hx,Hu,Hy,Ht,reduceIte,reduceCtorEq,hs2,aK,nq,h0,h1,Iu,KC,Ij]
   have p0:=pair 0 [] (by omega) (by simp);have p1:=pair (2^n) [(T (sh f 0 0) n).d .int,(T (sh f (2^n) 0) n).d .int] (by omega) (by simp);have hs2:sq (.tup [.int 0,(.int ((2^n:Nat):Int))])=.ok [.int 0,.int ((2^n:Nat):Int)]:=rfl;rw[show ((0:Nat):Int)=0 from rfl]at p0;rw[SY Mz];simp only[STP,Hx,Hu,Hy,Ht,reduceIte,reduceCtorEq,OPP,hsq,hf,hls,Hv h1,hln,xo,hs2,aK,nq,p0,Ij,p1,KC,Q.d];rfl
def E3 (b:Bool)(f:MO){sz:Nat}(h3:sz<=3)(hn:5<=n):pf n F.bj [N2 b .int f (2^sz) (2^sz)]=.ok (Ni sz (T f sz)):=by
 obtain⟨n,rfl,hn⟩:=ex1 (show 4+1<=n by omega);have hln:Nq [N2 b .int f (2^sz) (2^sz)]=.ok (.int ((2^sz:Nat):Int)):=by unfold N2;rw[uD];simp
 have e1:(onL (.lst [.int 1,.int 2,.int 4,.int 8]) λls=>NG ls [.int ((2^sz:Nat):Int)])=.ok (.int (sz:Int)):=v8 h3;have e2:=zr sz b f n h3 (by omega);rw[Dt,q9];simp only[STP,Hx,Hu,Hy,Ht,reduceIte,reduceCtorEq,hln,e1,e2];rfl
def FY (f:MO){sz:Nat}(h3:sz<=3)(hn:5<=n):pf n F.bj [MX .int f (2^sz) (2^sz)]=.ok (Ni sz (T f sz)):=E3 true f h3 hn
section
variable {sz:Nat}
def lK (is:List Int):Pk [.lst (is.map .int)]=.ok (.int (Od is)):=by unfold Pk;simp only[eZ]
def lL (a:Int)(l:List Int):Od (a::l)=a+Od l:=by
 have:∀ (l:List Int) (c:Int),l.foldl (· + ·) c=c+l.foldl (· + ·) 0:=by
  intro l
  induction l with
  | nil=>intro c;simp
  | cons x l ih=>intro c;rw[IS,ih,IS,ih (0+x)];omega
 unfold Od;rw[IS,this];omega
theorem ip {α τ:Type}(f:τ->α->L τ):∀ (xs ys:List α) (s:τ),Nl f (xs++ys) s=lS (Nl f xs s) λs'=>Nl f ys s'
 | [],ys,s=>rfl
 | x::xs,ys,s=>by
  rw[KC,aK,aK];cases f s x with
  | nx s'=>exact ip f xs ys s'
  | rt d=>rfl
  | er k=>rfl
  | stuck=>rfl
theorem kr {α τ:Type}{f:τ->α->L τ}(c:Nat->α)(inv:Nat->τ):∀ n,(∀ i,i < n->f (inv i) (c i)=.nx (inv (i+1)))->Nl f ((List.range n).map c) (inv 0)=.nx (inv n)
 | 0,_=>rfl
 | n+1,h=>by
  rw[IT,Ie,ip,kr c inv n λi hi=>h i (by omega),aX,Hq,IG,aK,h n (by omega)];rfl
theorem uE {α:Type}{f:Unit->α->L Unit}:∀ (l:List α),(∀ a∈l,f () a=.nx ())->Nl f l ()=.nx ()
 | [],_=>rfl
 | a::l,h=>by rw[aK,h a (.head _),aX];exact uE l λb hb=>h b (.tail _ hb)
def uF {a b:Nat}(h:a<=b)(hb:b<=1000000):OC [.int (a:Int),.int (b:Int)]=.ok ((List.range (b - a)).map λi=>D.int (((a+i:Nat)):Int)):=by
 show (if (-16777216<=(a:Int)/\(a:Int)<=16777216)/\(-16777216<=(b:Int)/\(b:Int)<=16777216)/\(b:Int) - (a:Int)<=16777216 then R.ok (O4 (a:Int) ((b:Int) - (a:Int)).toNat) else R.stuck)=_;rw[if_pos ⟨by omega,by omega,by omega⟩];unfold O4;rw[show ((b:Int) - (a:Int)).toNat=b - a by omega]
 congr 1
structure Sh (sz:Nat)(g:MO)(t:Q Int):Prop where
 p:Pc sz t
 w:∀ x y,x < 2^sz->y < 2^sz->t.at sz x y=g x y
def Sh.wo {sz:Nat}{g:MO}{t:Q Int}(h:Sh sz g t):Wo g sz:=λx y hx hy=>by rw[<- h.w x y hx hy];exact h.p.at x y
def RD {sz:Nat}{g:MO}(h3:sz<=3)(h:Wo g sz):Sh sz g (T g sz):=⟨QA h3 h,λx y hx hy=>Pm sz g x y hx hy⟩
def Pc.sh {sz:Nat}{t:Q Int}(p:Pc sz t):Sh sz (t.at sz) t:=⟨p,λ_ _ _ _=>rfl⟩
variable {g:MO}{t:Q Int}
def Sh.lean (q:Sh sz g t)(hn:10<=n):pf n F.a5 [Ni sz t]=.ok (Ni sz (T g sz)):=by rw[q.p.lean hn,bj sz _ _ q.w]
def Sh.rows (q:Sh sz g t)(hn:10<=n):pf n F.ao [Ni sz t]=.ok (MX .int g (2^sz) (2^sz)):=by rw[q.p.rows hn,l3 q.w]
def Sh.lrows (q:Sh sz g t)(hn:5<=n):pf n F.bb [Ni sz t]=.ok (MX .int g (2^sz) (2^sz)):=by rw[q.p.lrows hn,l3 q.w]
def E4 {xs:List D}{a:Nat}(h:a<=xs.length):N0 xs none (some ((a:Nat):Int))=xs.take a:=by
 unfold N0;rw[mI h,HT.sf]
 simp
def uG {xs:List D}{a:Nat}(h:a<=xs.length):N0 xs (some ((a:Nat):Int)) none=xs.drop a:=by
 unfold N0;rw[mI h,HT.sf,List.take_of_length_le (by simp)]
def DG {xs:List D}{x:D}(h:xs[i]?=some x):oIx xs (.int (i:Int))=.ok x:=by unfold oIx;simp only[mr h]
def on (hn:3<=n){d:D}(h:noX d=true):pf n F.aw [d]=if Np 9 d=true then .ok .non else .err 1:=by
 obtain⟨n,rfl,hn⟩:=ex1 (show 2+1<=n by omega);rw[nG,cZ,kl (by omega) h];cases Np 9 d<;>rfl
end
def e7 {x:D}(h:good 60 x=true):dNf x x=.ok (.bl false):=by rw[Bq h h,FF.m5 60 x h];rfl
noncomputable def th (w:Nat):Nat->D->Bool
 | n+1,.tup xs=>decide (xs.length<=w)&&xs.all (th w n)
 | 0,.tup _=>false
 | _,.lst xs=>decide (xs.length<=w)&&xs.all NQ
 | _,.exc _=>false
 | _,.fn _=>false
 | _,.tab _ _=>false
 | _,.dic _ _=>false
 | _,.ptr _=>false
 | _,_=>true
noncomputable def kid (xs:List D)(i:Nat):D:=xs[i]?.getD .non
noncomputable def Nb:Nat->D->List (List Nat)
 | n+1,.tup xs=>[]::(List.range xs.length).flatMap λi=>(Nb n (kid xs i)).map (i::·)
 | _,_=>[[]]
noncomputable def pD (p:List Nat):D:=.tup (p.map λ(i:Nat)=>.int (i:Int))
def wc {xs:List D}(h:i < xs.length):xs[i]?=some (kid xs i):=by
 unfold kid;rw[HU h];rfl
def fv {xs:List D}(h:i < xs.length):kid xs i∈xs:=by
 have:=wc h;exact List.mem_of_getElem? this
def rN {xs:List D}(h:i < xs.length):dIx (.tup xs) (.int (i:Int))=.ok (kid xs i):=by
 have e:L2.atI xs (i:Int)=some (kid xs i):=by
  unfold L2.atI L2.ixN;rw[if_pos (by omega),if_pos (by omega)];show xs[(i:Int).toNat]?=_;rw[Jx];exact wc h
 show (match L2.atI xs (i:Int) with | some d=>R.ok d | none=>R.stuck)=_;rw[e]
def bC {xs:List D}:th w (n+1) (.tup xs)=true↔xs.length<=w/\∀ x∈xs,th w n x=true:=by
 rw[th,HD,HH,HS]
def rP {d:D}(h:th w n d=true):noX d=true:=by
 cases d<;>first | rfl | (cases n<;>simp[th]at h)
def qu {d:D}(h:NQ d=true):good n d=true:=by
 cases d<;>first | (simp[NQ]at h;done) | (cases n<;>rfl)
def zt {d:D}(h:NQ d=true):slim n d=true:=by
 cases d<;>first | (simp[NQ]at h;done) | (cases n<;>rfl)
def xp :∀ {n:Nat} {d:D},th w n d=true->good (n+1) d=true:=by
 intro n
 induction n with
 | zero =>
  intro d h;cases d with
  | lst xs =>
   simp only[th,HD,HH,HS]at h;rw[good];exact dB λx hx=>qu (h.2 x hx)
  | _=>first | rfl | (simp[th]at h)
 | succ n ih =>
  intro d h;cases d with
  | tup xs =>
   rw[good];exact dB λx hx=>ih ((bC.mp h).2 x hx)
  | lst xs =>
   simp only[th,HD,HH,HS]at h;rw[good];exact dB λx hx=>qu (h.2 x hx)
  | _=>first | rfl | (simp[th]at h)
def DH (hw:w<=1000):∀ {n:Nat} {d:D} (m:Nat),th w n d=true->slim m d=true:=by
 have hl:∀ {n:Nat} {xs:List D} (m:Nat),th w n (.lst xs)=true->slim m (.lst xs)=true:=λ{n xs} m h=>by
  have h':xs.length<=w/\∀ x∈xs,NQ x=true:=by
   cases n<;>simpa only[th,HD,HH,HS] using h
  cases m with
  | zero=>rfl
  | succ m =>
   rw[slim,HD,HH,HS];exact⟨by omega,λx hx=>zt (h'.2 x hx)⟩
 intro n
 induction n with
 | zero =>
  intro d m h;cases d with
  | lst xs=>exact hl m h
  | _=>first | (cases m<;>rfl) | (simp[th]at h)
 | succ n ih =>
  intro d m h;cases d with
  | lst xs=>exact hl m h
  | tup xs =>
   cases m with
   | zero=>rfl
   | succ m =>
    rw[slim,HD,HH,HS];exact⟨by have:=(bC.mp h).1;omega,λx hx=>ih m ((bC.mp h).2 x hx)⟩
  | _=>first | (cases m<;>rfl) | (simp[th]at h)
def BF {v:Nat}(hv:w<=v):∀ {n m:Nat} {d:D},th w n d=true->n<=m->th v m d=true:=by
 have hl:∀ {n m:Nat} {xs:List D},th w n (.lst xs)=true->th v m (.lst xs)=true:=λ{n m xs} h=>by
  have h':xs.length<=w/\∀ x∈xs,NQ x=true:=by
   cases n<;>simpa only[th,HD,HH,HS] using h
  have:xs.length<=v/\∀ x∈xs,NQ x=true:=⟨by omega,h'.2⟩;cases m<;>simpa only[th,HD,HH,HS] using this
 intro n
 induction n with
 | zero =>
  intro m d h _;cases d with
  | lst xs=>exact hl h
  | _=>first | (cases m<;>rfl) | (simp[th]at h)
 | succ n ih =>
  intro m d h hm;cases d with
  | lst xs=>exact hl h
  | tup xs =>
   obtain⟨m,rfl⟩:∃ k,m=k+1:=⟨m - 1,by omega⟩;exact bC.mpr ⟨by have:=(bC.mp h).1;omega,λx hx=>ih ((bC.mp h).2 x hx) (by omega)⟩
  | _=>first | (cases m<;>rfl) | (simp[th]at h)
theorem oo {α:Type}{g:Nat->List α}{b:Nat}:∀ k,(∀ i,i < k->(g i).length<=b)->((List.range k).flatMap g).length<=k*b
 | 0,_=>by simp
 | k+1,h=>by
  rw[IT,KU,HJ,JW];have h1:=oo k λi hi=>h i (by omega)
  have h2:=h k (by omega);have:([k].flatMap g).length=(g k).length:=by simp
  omega
def wd (n:Nat)(d:D):1<=(Nb n d).length:=by
 cases n with
 | zero=>cases d<;>exact Hr 1
 | succ n=>cases d<;>first | (show 1<=_+1;omega) | exact Hr 1
def oq :∀ {n:Nat} {d:D},th w n d=true->(Nb n d).length<=(w+1)^n:=by
 intro n
 induction n with
 | zero=>intro d h;cases d<;>exact Hr 1
 | succ n ih =>
  intro d h;have h1:1<=(w+1)^(n+1):=Nat.pow_pos (by omega);cases d with
  | tup xs =>
   have ht:=bC.mp h;have:=oo (g:=λi=>(Nb n (kid xs i)).map (i::·)) (b:=(w+1)^n) xs.length λi hi=>by
    rw[Hl];exact ih (ht.2 _ (fv hi))
   show ((List.range xs.length).flatMap λi=>(Nb n (kid xs i)).map (i::·)).length+1<=_;have h2:xs.length*(w+1)^n<=w*(w+1)^n:=Nat.mul_le_mul_right _ ht.1;have h3:1<=(w+1)^n:=Nat.pow_pos (by omega);have h4:(w+1)^(n+1)=w*(w+1)^n+(w+1)^n:=by rw[KP,JY,JW]
   omega
  | _=>exact h1
def BG {d:D}(h:th w n d=true)(ht:Nx d=false):Nn NT d=.ok (.bl false):=cP ht (rP h)
def uH {d:D}(ht:Nx d=false):Nb n d=[[]]:=by
 cases n<;>cases d<;>first | rfl | (cases ht;done)
def DI (k:Nat)(p:List Nat)(h:p.length < 16777216):Nf (.tup [.int (k:Int)]) (pD p)=.ok (pD (k::p)):=by
 show (if 1+(p.map λ(i:Nat)=>D.int (i:Int)).length<=16777216 then _ else _)=_;rw[Hl,if_pos (by omega)];rfl
def fz :∀ {d:D} {p:List Nat},p∈Nb n d->p.length<=n:=by
 induction n with
 | zero=>intro d p h;cases d<;>simp[Nb]at h<;>simp[h]
 | succ n ih =>
  intro d p h;cases d with
  | tup xs =>
   rw[Nb,Ho,JG]at h;rcases h with rfl | ⟨i,_,h⟩
   ·simp
   ·obtain⟨q,hq,rfl⟩:=HF.mp h;have:=ih hq;simp only[HB];omega
  | _=>simp[Nb]at h;simp[h]
def zu :∀ (n m:Nat) (d:D),th w n d=true->(w+1)^n<=16000000->n+1<=m->w<=1000->n<=1000->pf m F.aG [d]=.ok (.lst ((Nb n d).map pD)):=by
 have flat:∀ (n m:Nat) (d:D),th w n d=true->Nx d=false->1<=m->pf m F.aG [d]=.ok (.lst ((Nb n d).map pD)):=λn m d h ht hm=>by
  obtain⟨m,rfl,_⟩:=ex1 hm;rw[lY,eQ,BG h ht,uH ht];simp only[STP,Hx,Hu,Hy,Ht,reduceIte,reduceCtorEq];rfl
 intro n
 induction n with
 | zero =>
  intro m d h _ hm _ _;exact flat 0 m d h (by cases d<;>first | rfl | (simp[th]at h)) hm
 | succ n ih =>
  intro m d h hp hm hw hn;by_cases ht:Nx d=true
  ·cases d with
   | tup xs =>
    have hh:=bC.mp h;obtain⟨m,rfl,hm⟩:=ex1 hm;have hpn:(w+1)^n<=16000000:=HK (KQ (by omega) (JA n)) hp;have loop:Nl (τ:=List D) (λs x=>fE (pf m) (.tup xs) s x) ((List.range xs.length).map λi=>.int (0+((i:Nat):Int))) ((λk=>([]::(List.range k).flatMap λi=>(Nb n (kid xs i)).map (i::·)).map pD) 0)=.nx (([]::(List.range xs.length).flatMap λi=>(Nb n (kid xs i)).map (i::·)).map pD):=by
     refine kr _ (λk=>([]::(List.range k).flatMap λi=>(Nb n (kid xs i)).map (i::·)).map pD) xs.length λi hi=>?_
     have hk:=ih m (kid xs i) (hh.2 _ (fv hi)) hpn (by omega) hw (by omega);have hc:Nj (λGg=>Nf (.tup [.int (i:Int)]) Gg) ((Nb n (kid xs i)).map pD)=.ok (.lst (((Nb n (kid xs i)).map (i::·)).map pD)):=by
      rw[aV (l:=Nb n (kid xs i)) pD (λp:List Nat=>pD (i::p)) λp hp=>DI i p (by have:=fz hp;omega),HX];rfl
     have hl:=oq (hh.2 _ (fv hi));have hl2:=oo (g:=λi=>(Nb n (kid xs i)).map (i::·)) (b:=(w+1)^n) i λj hj=>by
      rw[Hl];exact oq (hh.2 _ (fv (by omega)))
     have h2:i*(w+1)^n+(w+1)^n<=(w+1)^(n+1):=by
      rw[<- JW,KP,JY];exact Nat.mul_le_mul_left _ (by have:=hh.1;omega)
     unfold fE;rw[show (0:Int)+(i:Int)=(i:Int) by omega,rN hi];simp only[STP,Hx,Hu,Hy,Ht,reduceIte,reduceCtorEq,hk,bc (show ((Nb n (kid xs i)).map pD).length<=16777216 by rw[Hl];omega),hc];have ho:N6 (([]::(List.range i).flatMap λi=>(Nb n (kid xs i)).map (i::·)).map pD) (.lst (((Nb n (kid xs i)).map (i::·)).map pD))=.ok (([]::(List.range (i+1)).flatMap λi=>(Nb n (kid xs i)).map (i::·)).map pD):=by
      show (if _ then _ else _)=_;rw[if_pos (by simp only[Hl,HB];omega),<- Ie,KC,IT,KU]
      simp
     rw[ho];simp only[STP,Hx,Hu,Hy,Ht,reduceIte,reduceCtorEq]
    rw[lY,eQ];have hr:Ny [.int (xs.length:Int)]=.ok ((List.range xs.length).map λi=>.int (0+((i:Nat):Int))):=by
     have:=hh.1;show (if _ then _ else _)=_;rw[if_pos (by omega)];rw[Jx];rfl
    have e0:((λk=>([]::(List.range k).flatMap λi=>(Nb n (kid xs i)).map (i::·)).map pD) 0)=[.tup []]:=rfl;rw[e0]at loop;simp only[bY,STP,Hx,Hu,Hy,Ht,reduceIte,reduceCtorEq,bS,hr,loop];rfl
   | _=>cases ht
  ·exact flat (n+1) m d h (by simpa using ht) (by omega)
noncomputable def there:D->List Nat->D
 | d,[]=>d
 | .tup xs,i::p=>there (kid xs i) p
 | d,_::_=>d
noncomputable def Os:D->List Nat->D->D
 | _,[],e=>e
 | .tup xs,i::p,e=>.tup (xs.set i (Os (kid xs i) p e))
 | d,_::_,_=>d
def gR {d:D}{p:List Nat}(h:i::p∈Nb n d):∃ xs k,n=k+1/\d=.tup xs/\i < xs.length/\p∈Nb k (kid xs i):=by
 cases n with
 | zero=>cases d<;>simp[Nb]at h
 | succ n =>
  cases d with
  | tup xs =>
   rw[Nb,Ho,JG]at h;rcases h with h | ⟨j,hj,h⟩
   ·cases h
   ·obtain⟨q,hq,e⟩:=HF.mp h;injection e with e1 e2
    subst e1;subst e2;exact⟨xs,n,rfl,rfl,HG.mp hj,hq⟩
  | _=>simp[Nb]at h
theorem ot {t:MF}:∀ {p:List Nat} {n:Nat} {d:D},p∈Nb n d->Nl (τ:=D) (λs x=>gD t s x) (p.map λ(i:Nat)=>.int (i:Int)) d=.nx (there d p)
 | [],n,d,_=>by cases d<;>rfl
 | i::p,n,d,h=>by
  obtain⟨xs,k,rfl,rfl,hi,hp⟩:=gR h;rw[Hq,aK];unfold gD;rw[rN hi];simp only[STP,Hx,Hu,Hy,Ht,reduceIte,reduceCtorEq];exact ot (t:=t) hp
theorem uI {w:Nat}:∀ {p:List Nat} {n:Nat} {d:D},p∈Nb n d->th w n d=true->th w (n - p.length) (there d p)=true
 | [],n,d,_,h=>by cases d<;>exact h
 | i::p,n,d,h,ht=>by
  obtain⟨xs,k,rfl,rfl,hi,hp⟩:=gR h;have:=uI hp ((bC.mp ht).2 _ (fv hi));show th w (k+1 - (p.length+1)) _=true;rw[Nat.add_sub_add_right];exact this
def BH {m:Nat}{d:D}{p:List Nat}(h:p∈Nb n d)(hm:1<=m)(hn:n<=1000):pf m F.be [d,pD p]=.ok (there d p):=by
 obtain⟨m,rfl,hm⟩:=ex1 hm;rw[vG,iT];unfold pD;have hl:=fz h;rw[jA (by rw[Hl];omega)];simp only[STP,Hx,Hu,Hy,Ht,reduceIte,reduceCtorEq,ot h]
theorem uJ {w:Nat}:∀ {p:List Nat} {n N k:Nat} {d e:D},p∈Nb n d->th w n d=true->th w k e=true->k+p.length<=N->n<=N->th w N (Os d p e)=true
 | [],n,N,k,d,e,_,_,he,hk,_=>by cases d<;>exact BF (Hr w) he (by simpa using hk)
 | i::p,n,N,k,d,e,h,hd,he,hk,hn=>by
  obtain⟨xs,j,rfl,rfl,hi,hp⟩:=gR h;obtain⟨N,rfl⟩:∃ M,N=M+1:=⟨N - 1,by omega⟩;have ht:=bC.mp hd;have hr:=uJ (N:=N) hp (ht.2 _ (fv hi)) he (by simp only[HB]at hk;omega) (by omega);show th w (N+1) (.tup (xs.set i (Os (kid xs i) p e)))=true;refine bC.mpr ⟨by rw[List.length_set];exact ht.1,λx hx=>?_⟩;rcases List.mem_or_eq_of_mem_set hx with hx | rfl
  ·exact BF (Hr w) (ht.2 x hx) (by omega)
  ·exact hr
def DJ (hn:1<=n)(p:List Nat):good n (pD p)=true:=by
 obtain⟨n,rfl⟩:∃ k,n=k+1:=⟨n - 1,by omega⟩;unfold pD;rw[good];refine dB λd hd=>?_
 obtain⟨i,_,rfl⟩:=HF.mp hd;cases n<;>rfl
def uK (xs ys:List D)(h:xs.length+ys.length<=16777216):Nf (.tup xs) (.tup ys)=.ok (.tup (xs++ys)):=by
 show (if xs.length+ys.length<=16777216 then _ else _)=_;rw[if_pos h]
theorem BI {w:Nat}(hw:w<=1000):∀ {p:List Nat} {n m:Nat} {d:D} (e:D),p∈Nb n d->th w n d=true->p.length+1<=m->pf m F.bg [d,pD p,e]=.ok (Os d p e)
 | [],n,m,d,e,_,_,hm=>by
  obtain⟨m,rfl,hm⟩:=ex1 (k:=0) (by simpa using hm);rw[t4,jX];have:dEq (pD []) (.tup [])=.ok (.bl true):=rfl;simp only[STP,Hx,Hu,Hy,Ht,reduceIte,reduceCtorEq,this];cases d<;>rfl
 | i::p,n,m,d,e,h,hd,hm=>by
  obtain⟨xs,j,rfl,rfl,hi,hp⟩:=gR h;have ht:=bC.mp hd;obtain⟨m,rfl,hm⟩:=ex1 hm;have ih:=BI hw (m:=m) e hp (ht.2 _ (fv hi)) (by simpa using hm);have h0:dEq (pD (i::p)) (.tup [])=.ok (.bl false):=by
   unfold dEq;rw[if_pos ⟨DJ (by decide) _,rfl⟩];rfl
  have h1:dIx (pD (i::p)) (.int 0)=.ok (.int (i:Int)):=rN (xs:=(i::p).map λ(i:Nat)=>D.int (i:Int)) (i:=0) (by simp);have h2:dSw (pD (i::p)) (some 1) none=.ok (pD p):=by
   show R.ok (D.tup (N0 _ (some ((1:Nat):Int)) none))=_;rw[uG (by simp)];rfl
  have h3:dSw (.tup xs) none (some (i:Int))=.ok (.tup (xs.take i)):=by
   show R.ok (D.tup (N0 _ none (some (i:Int))))=_;rw[E4 (by omega)]
  have h4:dSw (.tup xs) (some ((i:Int)+1)) none=.ok (.tup (xs.drop (i+1))):=by
   rw[show (i:Int)+1=((i+1:Nat):Int) by omega];show R.ok (D.tup (N0 _ (some ((i+1:Nat):Int)) none))=_;rw[uG (by omega)]
  have h5:∀ v:Int,asI (.int v)=.ok (some v):=λv=>rfl
  have h6:Nf (.tup (xs.take i)) (.tup [Os (kid xs i) p e])=.ok (.tup (xs.take i++[Os (kid xs i) p e])):=uK _ _ (by simp only[J4,HB,Ip];omega);have h7:Nf (.tup (xs.take i++[Os (kid xs i) p e])) (.tup (xs.drop (i+1)))=.ok (.tup (xs.set i (Os (kid xs i) p e))):=by
   rw[uK _ _ (by simp only[HJ,J4,Lq,HB,Ip];omega),List.set_eq_take_append_cons_drop,if_pos hi,Iu];rfl
  rw[t4,jX];simp only[STP,Hx,Hu,Hy,Ht,reduceIte,reduceCtorEq,h0,h1,h5,h3,rN hi,h2,ih,h6,aJ,h4,h7];rfl
def BJ {i:Int}(h0:0<=i)(h:i < ds.length):∃ e∈ds,L2.atI ds i=some e:=by
 refine⟨kid ds i.toNat,fv (by omega),?_⟩;unfold L2.atI L2.ixN;rw[if_pos h0,if_pos h];exact wc (by omega)
def DK {i:Int}(h0:0<=i)(h:i < ds.length):∃ e∈ds,oIx ds (.int i)=.ok e:=by
 obtain⟨e,he,h⟩:=BJ h0 h;refine⟨e,he,?_⟩;show (match L2.atI ds i with | some d=>R.ok d | none=>R.stuck)=_;rw[h]
def DL {i:Int}(h0:0<=i)(h:i < ds.length):∃ e∈ds,dIx (.lst ds) (.int i)=.ok e:=by
 obtain⟨e,he,h⟩:=BJ h0 h;refine⟨e,he,?_⟩;show (match L2.atI ds i with | some d=>R.ok d | none=>R.stuck)=_;rw[h]
noncomputable def P8 (here:D):List D:=[(.int (-1)),.int 0,.int 3,.int 4,.int 9,.int 10,(.bl true),.non,(.str "1"),(.tup []),(.tup [.int 1,.int 2,.int 3]),(.tup [.int 1,.int 1,.int 1,.int 1]),(.tup [.int 1,.int 2,.int 3,.int 4,.int 5]),(.lst [.int 1,.int 2,.int 3,.int 4]),.tup [here,here,here,here]]
def DM (hw:5<=w){here e:D}(h:th w n here=true)(he:e∈P8 here):th w (n+1) e=true:=by
 have cons:∀ {xs:List D},xs.length<=w->(∀ x∈xs,th w n x=true)->th w (n+1) (.tup xs)=true:=λh1 h2=>bC.mpr ⟨h1,h2⟩
 have iN:∀ i:Int,th w n (.int i)=true:=λi=>by cases n<;>rfl
 unfold P8 at he;simp only[Ho,HZ,IP]at he;rcases he with rfl | rfl | rfl | rfl | rfl | rfl | rfl | rfl | rfl | rfl | rfl | rfl | rfl | rfl | rfl
 any_goals rfl
 ·exact cons (HK (by decide) hw) (by intro x hx;simp only[Ho,HZ,IP]at hx;rcases hx with rfl | rfl | rfl<;>exact iN _)
 ·exact cons (HK (by decide) hw) (by intro x hx;simp only[Ho,HZ,IP]at hx;rcases hx with rfl | rfl | rfl | rfl<;>exact iN _)
 ·exact cons hw (by intro x hx;simp only[Ho,HZ,IP]at hx;rcases hx with rfl | rfl | rfl | rfl | rfl<;>exact iN _)
 ·rw[th,HD,HH];exact⟨HK (by decide) hw,rfl⟩
 ·exact cons (by show 4<=w;omega) (by intro x hx;simp only[Ho,HZ,IP]at hx;rcases hx with rfl | rfl | rfl | rfl<;>exact h)
def zv (hw:w<=1000)(h5:5<=w)(hn:n<=100)(hp:(w+1)^n<=16000000){d:D}(h:th w n d=true){m:Nat}(hm:n+4<=m)(ns:List Int)(k:Nat):∃ p∈Nb n d,∃ e∈P8 (there d p),pf m F.ah [scr ns,.int (k:Int),d]=.ok (Os d p e):=by
 obtain⟨m,rfl,hm⟩:=ex1 (show n+3+1<=m by omega);have e1:=zu n m d h hp (by omega) hw (by omega);have hl:=wd n d;have hl':(0:Int) < (((Nb n d).map pD).length:Nat):=by rw[Hl];omega
 have p1:=km (n:=m) (by omega) ns k (a:=(k:Int)) (m:=(((Nb n d).map pD).length:Nat)) rfl hl';have b0:=ql (ns:=ns) (k:=k) (m:=(((Nb n d).map pD).length:Nat)) hl';have b1:=qm (ns:=ns) (k:=k) (m:=(((Nb n d).map pD).length:Nat)) hl';obtain⟨q,hq,e2⟩:=DL b0 b1;obtain⟨p,hp',rfl⟩:=HF.mp hq;have e3:=BH hp' (m:=m) (by omega) (by omega);have p2:=km (n:=m) (by omega) ns (k+1) (a:=(k:Int)+1) (m:=15) (by omega) (by decide);have c0:=ql (ns:=ns) (k:=k+1) (m:=15) (by decide);have c1:=qm (ns:=ns) (k:=k+1) (m:=15) (by decide);obtain⟨e,he,e4⟩:=DK (ds:=P8 (there d p)) c0 (by show _ < ((15:Nat):Int);omega);have hd:=fz hp';have e5:=BI hw (m:=m) e hp' h (by omega);refine⟨p,hp',e,he,?_⟩;have r4:Nw (.tup [there d p]) (.int 4)=.ok (.tup [there d p,there d p,there d p,there d p]):=rfl;rw[j6,bV];simp only[STP,Hx,Hu,Hy,Ht,reduceIte,reduceCtorEq,e1,eV,p1,e2,e3,r4];have ho:N6 [(.int (-1)),.int 0,.int 3,.int 4,.int 9,.int 10,(.bl true),.non,(.str "1"),(.tup []),(.tup [.int 1,.int 2,.int 3]),(.tup [.int 1,.int 1,.int 1,.int 1]),(.tup [.int 1,.int 2,.int 3,.int 4,.int 5])] (.lst [.lst [.int 1,.int 2,.int 3,.int 4],.tup [there d p,there d p,there d p,there d p]])=.ok (P8 (there d p)):=rfl;simp only[STP,Hx,Hu,Hy,Ht,reduceIte,reduceCtorEq,ho,aJ,p2,e4,e5]
def zw (hw:w<=1000)(h5:5<=w)(hn:n<=100)(hp:(w+1)^n<=16000000){d:D}(h:th w n d=true){m:Nat}(hm:n+4<=m)(ns:List Int)(k:Nat):∃ d',th w (n+1) d'=true/\pf m F.ah [scr ns,.int (k:Int),d]=.ok d':=by
 obtain⟨p,hp',e,he,q⟩:=zv hw h5 hn hp h hm ns k;have hd:=fz hp';exact⟨_,uJ hp' h (DM h5 (uI hp' h) he) (by omega) (by omega),q⟩
def zx (hw:w<=1000):∀ (n m:Nat) (s:Int) (d:D),th w n d=true->n+1<=m->n<=50->pf m F.aj [d,.int s]=.ok (.bl (No (Np 9) n s d)):=by
 have flat:∀ (n m:Nat) (s:Int) (d:D),th w n d=true->Nx d=false->1<=m->pf m F.aj [d,.int s]=.ok (.bl (No (Np 9) n s d)):=λn m s d h ht hm=>by
  obtain⟨m,rfl,hm⟩:=ex1 hm;have e:No (Np 9) n s d=Np 9 d:=by cases n<;>cases d<;>first | rfl | (cases ht;done)
  rw[j7,du,e];cases d with
  | int i =>
   have:OQ (asB (Nn Pu (.int i))) (NE (asB (Nn OX (.int i))))=.ok true:=rfl;simp only[this,STP,Hx,Hu,Hy,Ht,reduceIte,reduceCtorEq];simp only[rCh,rK,aP,R.bind_ok,Np];by_cases h0:(0:Int)<=i<;>simp[h0]
  | tup _=>cases ht
  | exc _=>cases n<;>simp[th]at h
  | fn _=>cases n<;>simp[th]at h
  | tab _ _=>cases n<;>simp[th]at h
  | dic _ _=>cases n<;>simp[th]at h
  | ptr _=>cases n<;>simp[th]at h
  | _=>rfl
 intro n
 induction n with
 | zero=>intro m s d h hm _;exact flat 0 m s d h (by cases d<;>first | rfl | (simp[th]at h)) hm
 | succ n ih =>
  intro m s d h hm hn;by_cases ht:Nx d=true
  ·cases d with
   | tup xs =>
    have hh:=bC.mp h;obtain⟨m,rfl,hm⟩:=ex1 hm;have hc:OK (λGC=>(NE (asB ((Ob (.int s) (.int 1)).bind λx1=>pf m F.aj [GC,x1])))) (λGC=>.ok GC) xs=.ok (.lst (xs.filter λd=>!No (Np 9) n (s - 1) d)):=by
     have:=iY (c:=λGC=>(NE (asB ((Ob (.int s) (.int 1)).bind λx1=>pf m F.aj [GC,x1])))) (e:=λGC=>.ok GC) (l:=xs) (λd=>d) (λd=>d) (λd=>!No (Np 9) n (s - 1) d) λd hd=>⟨by
      rw[dz,R.bind_ok,ih m (s - 1) d (hh.2 d hd) (by omega) (by omega)];rfl,λ_=>rfl⟩
     rw[List.map_id',List.map_id']at this;exact this
    have he:dEq (.lst (xs.filter λd=>!No (Np 9) n (s - 1) d)) (.lst [])=.ok (.bl (xs.all (No (Np 9) n (s - 1)))):=by
     unfold dEq;rw[if_pos ⟨by
      rw[good];exact dB λd hd=>gQ (xp (hh.2 d (Ia.mp hd).1)) (by omega),rfl⟩]
     cases hx:xs.filter λd=>!No (Np 9) n (s - 1) d with
     | nil =>
      have:xs.all (No (Np 9) n (s - 1))=true:=by
       rw[HS];intro d hd;have:=JT.mp hx d hd
       simpa using this
      rw[this];rfl
     | cons a l =>
      have ha:a∈xs.filter λd=>!No (Np 9) n (s - 1) d:=by rw[hx];simp
      have:=Ia.mp ha;have:xs.all (No (Np 9) n (s - 1))=false:=by
       rw[List.all_eq_false];exact⟨a,this.1,by simpa using this.2⟩
      rw[this];rfl
    have hi:OQ (asB (Nn Pu (.tup xs))) (NE (asB (Nn OX (.tup xs))))=.ok false:=rfl;rw[j7,du];simp only[hi,bY,STP,Hx,Hu,Hy,Ht,reduceIte,reduceCtorEq,bS,fu,iZ,jA (show xs.length<=16777216 by have:=hh.1;omega),hc,he,No];by_cases h0:s=0
    ·by_cases h4:(xs.length:Int)=4<;>simp[h0,h4]
    ·by_cases h4:xs.length=4
     ·simp[h0,h4]
     ·have h4':¬ ((xs.length:Int)=4):=by omega
      simp[h0,h4,h4']
   | _=>cases ht
  ·exact flat (n+1) m s d h (by simpa using ht) (by omega)
def qv (hw:w<=1000){m:Nat}{d:D}(h:th w (n+1) d=true)(hm:n+2<=m)(hn:n<=50):pf m F.aq [d]=.ok (.bl (Nr (Np 9) n d)):=by
 obtain⟨m,rfl,hm⟩:=ex1 hm;rw[l9,cK];by_cases ht:Nx d=true
 ·cases d with
  | tup xs =>
   have hh:=bC.mp h;by_cases h2:xs.length=2
   ·match xs,h2 with
    | [a,b],_ =>
     have ha:=hh.2 a (by simp);have hb:=hh.2 b (by simp);have l2:asB ((Nq [.tup [a,b]]).bind λx2=>dNf x2 (.int 2))=.ok false:=rfl;cases a with
     | int v =>
      have ht:=zx hw n m v b hb (by omega) hn;have hi:(NE (asB (Nn Pu (.int v))))=.ok false:=rfl;have hj:(asB (Nn OX (.int v)))=.ok false:=rfl;simp only[bY,STP,Hx,Hu,Hy,Ht,reduceIte,reduceCtorEq,l2,Rk,QH,hi,hj,ht,Nr,Np,rCh,rK];by_cases c0:(0:Int)<=v
      ·by_cases c1:v<=3<;>simp[c0,c1]
      ·simp[c0]
     | exc _=>cases n<;>simp[th]at ha
     | fn _=>cases n<;>simp[th]at ha
     | tab _ _=>cases n<;>simp[th]at ha
     | dic _ _=>cases n<;>simp[th]at ha
     | ptr _=>cases n<;>simp[th]at ha
     | _=>rfl
   ·have h2':¬ ((xs.length:Int)=2):=by omega
    have e:Nr (Np 9) n (.tup xs)=false:=by
     match xs,h2 with
     | [],_=>rfl
     | [_],_=>rfl
     | _::_::_::_,_=>rfl
    simp[h2',e]
  | _=>cases ht
 ·have ht':Nx d=false:=by simpa using ht
  rw[cP ht' (rP h)];have e:Nr (Np 9) n d=false:=by cases d<;>first | rfl | (cases ht';done)
  simp[e]
def Pc.th (p:Pc sz t):th 5 4 (Ni sz t)=true:=by
 have hq:∀ (n:Nat) (t:Q Int),t.dep<=n->Lw.th 5 n (t.d .int)=true:=by
  intro n
  induction n with
  | zero=>intro t h;cases t with
   | lf a=>rfl
   | nd a b c d=>rw[Q.dep]at h;omega
  | succ n ih =>
   intro t h;cases t with
   | lf a=>rfl
   | nd a b c d =>
    rw[Q.dep]at h;refine bC.mpr ⟨by show 4<=5;decide,λx hx=>?_⟩;simp only[Ho,HZ,IP]at hx;rcases hx with rfl | rfl | rfl | rfl
    ·exact ih a (by omega)
    ·exact ih b (by omega)
    ·exact ih c (by omega)
    ·exact ih d (by omega)
 refine bC.mpr ⟨by show 2<=5;decide,λx hx=>?_⟩;simp only[Ho,HZ,IP]at hx;rcases hx with rfl | rfl
 ·rfl
 ·exact hq 3 t (by have:=p.dep;have:=p.h3;omega)
def QT {m:Nat}(hm:1<=m):pf m F.aA [.exc 1]=.ok (.str "no picture"):=by
 obtain⟨m,rfl,hm⟩:=ex1 hm;rw[p7,g8];rfl
section
variable {α:Type}[DecidableEq α]
end
section
variable {sz:Nat}{r:PySem.Str}{f:Int->Int->Int}
variable {g:MO}{t:Q Int}
end
noncomputable def sel {β:Type}(k:Nat)(a b c d:β):β:=match k with
 | 0=>a
 | 1=>b
 | 2=>c
 | _=>d
section
variable {α:Type}[DecidableEq α]
noncomputable def Q.mv (p q r s:Nat):Q α->Q α
 | .lf v=>.lf v
 | .nd a b c d=>.nd (sel p (a.mv p q r s) (b.mv p q r s) (c.mv p q r s) (d.mv p q r s)) (sel q (a.mv p q r s) (b.mv p q r s) (c.mv p q r s) (d.mv p q r s)) (sel r (a.mv p q r s) (b.mv p q r s) (c.mv p q r s) (d.mv p q r s)) (sel s (a.mv p q r s) (b.mv p q r s) (c.mv p q r s) (d.mv p q r s))
def xq {p q r s:Nat}{t:Q α}{v:α}:t.mv p q r s=.lf v↔t=.lf v:=by cases t<;>simp[Q.mv]
def uL (a b c d:Q α):(∃ v,a=.lf v/\b=.lf v/\c=.lf v/\d=.lf v)\/N5 a b c d=.nd a b c d:=by
 unfold N5;split
 ·split
  ·rename_i h2;exact .inl ⟨_,rfl,h2⟩
  ·exact .inr rfl
 ·exact .inr rfl
structure Odr (p q r s:Nat)(m:Nat->(MO)->MO):Prop where
 lt:p < 4/\q < 4/\r < 4/\s < 4
 all:∀ k,k < 4->k=p\/k=q\/k=r\/k=s
 one:∀ g:MO,m 1 g 0 0=g 0 0
 loc:∀ (n:Nat) (g:MO) (x y:Nat),x < n->y < n->∃ x' y',x' < n/\y' < n/\∀ g':MO,m n g' x y=g' x' y'
 q0:∀ (h:Nat) (g:MO) (x y:Nat),x < h->y < h->m (h+h) g x y=m h (sel p g (sh g h 0) (sh g 0 h) (sh g h h)) x y
 q1:∀ (h:Nat) (g:MO) (x y:Nat),x < h->y < h->m (h+h) g (x+h) y=m h (sel q g (sh g h 0) (sh g 0 h) (sh g h h)) x y
 q2:∀ (h:Nat) (g:MO) (x y:Nat),x < h->y < h->m (h+h) g x (y+h)=m h (sel r g (sh g h 0) (sh g 0 h) (sh g h h)) x y
 q3:∀ (h:Nat) (g:MO) (x y:Nat),x < h->y < h->m (h+h) g (x+h) (y+h)=m h (sel s g (sh g h 0) (sh g 0 h) (sh g h h)) x y
def Rf {k:Nat}(h:k < 4):k=0\/k=1\/k=2\/k=3:=by omega
def DN {p q r s:Nat}{m:Nat->(MO)->MO}(o:Odr p q r s m)(a b c d:Q Int):(N5 a b c d).mv p q r s=N5 (sel p (a.mv p q r s) (b.mv p q r s) (c.mv p q r s) (d.mv p q r s)) (sel q (a.mv p q r s) (b.mv p q r s) (c.mv p q r s) (d.mv p q r s)) (sel r (a.mv p q r s) (b.mv p q r s) (c.mv p q r s) (d.mv p q r s)) (sel s (a.mv p q r s) (b.mv p q r s) (c.mv p q r s) (d.mv p q r s)):=by
 rcases uL a b c d with ⟨v,rfl,rfl,rfl,rfl⟩ | h
 ·have e:∀ k,sel k ((Q.lf v:Q Int).mv p q r s) ((Q.lf v).mv p q r s) ((Q.lf v).mv p q r s) ((Q.lf v).mv p q r s)=.lf v:=λk=>by unfold sel;split<;>rfl
  rw[iX,e,e,e,e,iX];rfl
 ·rw[h];rcases uL (sel p (a.mv p q r s) (b.mv p q r s) (c.mv p q r s) (d.mv p q r s)) (sel q (a.mv p q r s) (b.mv p q r s) (c.mv p q r s) (d.mv p q r s)) (sel r (a.mv p q r s) (b.mv p q r s) (c.mv p q r s) (d.mv p q r s)) (sel s (a.mv p q r s) (b.mv p q r s) (c.mv p q r s) (d.mv p q r s)) with ⟨v,h0,h1,h2,h3⟩ | h'
  ·have al:∀ k,k < 4->sel k (a.mv p q r s) (b.mv p q r s) (c.mv p q r s) (d.mv p q r s)=.lf v:=λk hk=>by
    rcases o.all k hk with h | h | h | h
    ·rw[h];exact h0
    ·rw[h];exact h1
    ·rw[h];exact h2
    ·rw[h];exact h3
   have ea:=xq.1 (al 0 (by omega));have eb:=xq.1 (al 1 (by omega));have ec:=xq.1 (al 2 (by omega));have ed:=xq.1 (al 3 (by omega));rw[ea,eb,ec,ed,iX]at h;cases h
  ·rw[h'];rfl
theorem RL {p q r s:Nat}{m:Nat->(MO)->MO}(o:Odr p q r s m):∀ (n:Nat) (g:MO),(T g n).mv p q r s=T (m (2^n) g) n
 | 0,g=>by show (Q.lf (g 0 0)).mv p q r s=Q.lf (m 1 g 0 0);rw[o.one];rfl
 | n+1,g=>by
  rw[T,DN o,T,bN];have e:∀ k,k < 4->sel k ((T g n).mv p q r s) ((T (sh g (2^n) 0) n).mv p q r s) ((T (sh g 0 (2^n)) n).mv p q r s) ((T (sh g (2^n) (2^n)) n).mv p q r s)=T (m (2^n) (sel k g (sh g (2^n) 0) (sh g 0 (2^n)) (sh g (2^n) (2^n)))) n:=λk hk=>by
   rcases Rf hk with rfl | rfl | rfl | rfl<;>exact RL o n _
  rw[e p o.lt.1,e q o.lt.2.1,e r o.lt.2.2.1,e s o.lt.2.2.2]
  congr 1
  ·exact bj n _ _ λx y hx hy=>(o.q0 _ g x y hx hy).symm
  ·exact bj n _ _ λx y hx hy=>(o.q1 _ g x y hx hy).symm
  ·exact bj n _ _ λx y hx hy=>(o.q2 _ g x y hx hy).symm
  ·exact bj n _ _ λx y hx hy=>(o.q3 _ g x y hx hy).symm
end
noncomputable def N3 (s:Nat)(g:MO):MO:=λx y=>g y x
def BK:Odr 0 2 1 3 N3:=⟨by decide,by decide,λg=>rfl,λn g x y hx hy=>⟨y,x,hy,hx,λ_=>rfl⟩,
 λh g x y hx hy=>by simp only[N3,sel,sh],λh g x y hx hy=>by simp only[N3,sel,sh];congr 1,λh g x y hx hy=>by simp only[N3,sel,sh];congr 1,λh g x y hx hy=>by simp only[N3,sel,sh]⟩
section
variable {p q r s:Nat}{m:Nat->(MO)->MO}
def BL (a b c d:Int):sq (NF [a,b,c,d])=.ok [.int a,.int b,.int c,.int d]:=rfl
def E5 {k:Nat}(h:k < 4)(a b c d:D):dIx (.tup [a,b,c,d]) (.int (k:Int))=.ok (sel k a b c d):=by rcases Rf h with rfl | rfl | rfl | rfl<;>rfl
theorem ir (o:Odr p q r s m):∀ (n:Nat) (t:Q Int),t.dep+1<=n->pf n F.an [t.d .int,NF [(p:Int),(q:Int),(r:Int),(s:Int)]]=.ok ((t.mv p q r s).d .int)
 | 0,t,h=>by omega
 | n+1,.lf v,h=>by rw[i7,cI];simp only[Q.d,STP,Hx,Hu,Hy,Ht,reduceIte,reduceCtorEq,OPP];rfl
 | n+1,.nd a b c d,h=>by
  have hd:a.dep+1<=n/\b.dep+1<=n/\c.dep+1<=n/\d.dep+1<=n:=Q.dep4 (Nat.le_of_succ_le_succ h);have ha:=ir o n a hd.1;have hb:=ir o n b hd.2.1;have hc:=ir o n c hd.2.2.1;have hdd:=ir o n d hd.2.2.2;have step:∀ k:Nat,k < 4->((dIx (.tup [a.d .int,b.d .int,c.d .int,d.d .int]) (.int (k:Int))).bind λx=>pf n F.an [x,NF [(p:Int),(q:Int),(r:Int),(s:Int)]])=.ok ((sel k (a.mv p q r s) (b.mv p q r s) (c.mv p q r s) (d.mv p q r s)).d .int):=λk hk=>by
   rw[E5 hk,R.bind_ok];rcases Rf hk with rfl | rfl | rfl | rfl
   ·exact ha
   ·exact hb
   ·exact hc
   ·exact hdd
  rw[i7,cI];simp only[Q.d,STP,Hx,Hu,Hy,Ht,reduceIte,reduceCtorEq,OPP,BL];rw[Pp (step p o.lt.1) (step q o.lt.2.1) (step r o.lt.2.2.1) (step s o.lt.2.2.2)];rfl
variable {sz:Nat}{g:MO}{t:Q Int}
def Sh.moved (w:Sh sz g t)(o:Odr p q r s m)(hn:11<=n):pf n F.bf [Ni sz t,NF [(p:Int),(q:Int),(r:Int),(s:Int)]]=.ok (Ni sz (T (m (2^sz) g) sz)):=by
 obtain⟨n,rfl⟩:∃ j,n=j+1:=⟨n - 1,by omega⟩;have e1:=w.lean (n:=n) (by omega);have e2:=ir o n (T g sz) (by have:=fU sz g;have:=w.p.h3;omega);rw[RL o]at e2;have e3:dIx (Ni sz (T g sz)) (.int 0)=.ok (.int (sz:Int)):=rfl;have e4:dIx (Ni sz (T g sz)) (.int 1)=.ok ((T g sz).d .int):=rfl;rw[Bg,mD];simp only[STP,Hx,Hu,Hy,Ht,reduceIte,reduceCtorEq,e1,e2,e3,e4];rfl
def Sh.mv (w:Sh sz g t)(o:Odr p q r s m):Sh sz (m (2^sz) g) (T (m (2^sz) g) sz):=RD w.p.h3 λx y hx hy=>by
 obtain⟨x',y',h1,h2,h3⟩:=o.loc (2^sz) g x y hx hy;rw[h3];exact w.wo x' y' h1 h2
variable {g'':MO}{t'':Q Int}
def zy (hw:w<=1000){m:Nat}{d:D}(h:th w n d=true)(hm:n+6<=m)(c:Nr (Np 9) n d=false):pf m F.ab [d]=.err 1:=by
 have e:=qo (n:=m) (m:=n) (xp h) (DH hw _ h) (by omega);rw[c]at e;exact e
def Sh.swapped (q:Sh sz g t)(hn:12<=n):pf n F.bd [Ni sz t]=.ok (Ni sz (T (N3 (2^sz) g) sz)):=by
 obtain⟨n,rfl,hn⟩:=ex1 (show 11+1<=n by omega);have e:=q.moved BK (n:=n) (by omega);rw[vF,iS];have e':pf n F.bf [Ni sz t,NF [0,2,1,3]]=_:=e;rw[e'];rfl
end
structure Bk where
 l:Nat
 t:Nat
 w:Nat
 v:Int
 deriving DecidableEq
variable {a':List Bk}
noncomputable def Bk.d (b:Bk):D:=.tup [.int (b.l:Int),.int (b.t:Int),.int (b.w:Int),.int b.v]
abbrev Bk.has (b:Bk)(x y:Nat):Prop:=(b.l<=x/\x < b.l+b.w)/\b.t<=y/\y < b.t+b.w
noncomputable def bks:Nat->Q Int->Nat->Nat->List Bk
 | n,.lf v,l,t=>[⟨l,t,2^n,v⟩]
 | 0,.nd _ _ _ _,_,_=>[]
 | n+1,.nd a b c d,l,t=>bks n a l t++(bks n b (l+2^n) t++(bks n c l (t+2^n)++bks n d (l+2^n) (t+2^n)))
def e8 (n:Nat)(v:Int)(l t:Nat):bks n (.lf v) l t=[⟨l,t,2^n,v⟩]:=by cases n<;>rfl
theorem d6:∀ (n:Nat) (q:Q Int) (l t:Nat),(bks n q l t).length<=4^n
 | n,.lf v,l,t=>by rw[e8];exact Nat.one_le_pow _ _ (by decide)
 | 0,.nd _ _ _ _,_,_=>by simp[bks]
 | n+1,.nd a b c d,l,t=>by
  have h1:=d6 n a l t;have h2:=d6 n b (l+2^n) t;have h3:=d6 n c l (t+2^n);have h4:=d6 n d (l+2^n) (t+2^n);simp only[bks,HJ];rw[KP];omega
theorem b5:∀ (n:Nat) (q:Q Int) (l t:Nat) {b:Bk},b∈bks n q l t->l<=b.l/\b.l+b.w<=l+2^n/\t<=b.t/\b.t+b.w<=t+2^n/\0 < b.w
 | n,.lf v,l,t,b,h=>by
  rw[e8,HE]at h;subst h;have:=Nat.two_pow_pos n;refine⟨Hr _,Hr _,Hr _,Hr _,this⟩
 | 0,.nd _ _ _ _,_,_,b,h=>by cases h
 | n+1,.nd a b c d,l,t,k,h=>by
  simp only[bks,HI]at h;rw[bN];rcases h with h | h | h | h<;>(have:=b5 n _ _ _ h;omega)
theorem kt:∀ (n:Nat) (q:Q Int) (l t:Nat),q.dep<=n->∀ x y,l<=x->x < l+2^n->t<=y->y < t+2^n->∃ b∈bks n q l t,b.has x y
 | n,.lf v,l,t,_,x,y,h1,h2,h3,h4=>⟨⟨l,t,2^n,v⟩,by rw[e8];simp,⟨h1,h2⟩,h3,h4⟩
 | 0,.nd _ _ _ _,_,_,h,_,_,_,_,_,_=>by simp[Q.dep]at h
 | n+1,.nd a b c d,l,t,h,x,y,h1,h2,h3,h4=>by
  rw[bN]at h2 h4;have hd:a.dep<=n/\b.dep<=n/\c.dep<=n/\d.dep<=n:=Q.dep5 h;by_cases hx:x < l+2^n<;>by_cases hy:y < t+2^n
  ·obtain⟨k,hk,e⟩:=kt n a l t hd.1 x y h1 hx h3 hy;exact⟨k,by simp only[bks,HI];exact .inl hk,e⟩
  ·obtain⟨k,hk,e⟩:=kt n c l (t+2^n) hd.2.2.1 x y h1 hx (by omega) (by omega);exact⟨k,by simp only[bks,HI];exact .inr (.inr (.inl hk)),e⟩
  ·obtain⟨k,hk,e⟩:=kt n b (l+2^n) t hd.2.1 x y (by omega) (by omega) h3 hy;exact⟨k,by simp only[bks,HI];exact .inr (.inl hk),e⟩
  ·obtain⟨k,hk,e⟩:=kt n d (l+2^n) (t+2^n) hd.2.2.2 x y (by omega) (by omega) (by omega) (by omega);exact⟨k,by simp only[bks,HI];exact .inr (.inr (.inr hk)),e⟩
theorem xr:∀ (n:Nat) (q:Q Int) (l t:Nat) {b c:Bk},b∈bks n q l t->c∈bks n q l t->∀ {x y:Nat},b.has x y->c.has x y->b=c
 | n,.lf v,l,t,b,c,hb,hc,_,_,_,_=>by
  rw[e8,HE]at hb hc;rw[hb,hc]
 | 0,.nd _ _ _ _,_,_,b,_,h,_,_,_,_,_=>by cases h
 | n+1,.nd qa qb qc qd,l,t,b,c,hb,hc,x,y,hx,hy=>by
  simp only[bks,HI]at hb hc;have two:=Nat.two_pow_pos n;rcases hb with hb | hb | hb | hb<;>rcases hc with hc | hc | hc | hc<;>first
   | exact xr n _ _ _ hb hc hx hy
   | (exfalso;have h1:=b5 n _ _ _ hb;have h2:=b5 n _ _ _ hc;simp only[Bk.has]at hx hy;omega)
theorem BM:∀ (n:Nat) (q:Q Int) (l t:Nat) {b:Bk},b∈bks n q l t->∀ {x y:Nat},b.has x y->q.at n (x - l) (y - t)=b.v
 | n,.lf v,l,t,b,hb,x,y,h=>by rw[e8,HE]at hb;rw[hb,n9]
 | 0,.nd _ _ _ _,_,_,b,h,_,_,_=>by cases h
 | n+1,.nd qa qb qc qd,l,t,b,hb,x,y,h=>by
  simp only[bks,HI]at hb;simp only[Bk.has]at h;rcases hb with hb | hb | hb | hb<;>(have h1:=b5 n _ _ _ hb;have h2:=BM n _ _ _ hb (x:=x) (y:=y) h;simp only[Q.at])
  ·rw[if_pos (by omega),if_pos (by omega)];exact h2
  ·rw[if_pos (by omega),if_neg (by omega)];rw[<- h2];congr 1<;>omega
  ·rw[if_neg (by omega),if_pos (by omega)];rw[<- h2];congr 1<;>omega
  ·rw[if_neg (by omega),if_neg (by omega)];rw[<- h2];congr 1<;>omega
def Q.isTup_nd (a b c d:Q Int):Q.d D.int (.nd a b c d)=.tup [a.d .int,b.d .int,c.d .int,d.d .int]:=rfl
def Q.isTup_lf (v:Int):Q.d D.int (.lf v)=.int v:=rfl
def BN {σ:Type}(a b:D)(k:D->D->L σ):QE (.tup [a,b]) k=k a b:=rfl
def Sc (a b c d:D):OZ (.tup [a,b,c,d])=.ok [.tup [.int 0,a],.tup [.int 1,b],.tup [.int 2,c],.tup [.int 3,d]]:=by
 unfold OZ;rw[sq4];rfl
theorem dC:∀ (n:Nat) (q:Q Int) (l t:Nat) (k:Nat),n<=3->q.dep<=n->n+1<=k->pf k F.ay [q.d .int,.int (l:Int),.int (t:Int),.int ((2^n:Nat):Int)]=.ok (.lst ((bks n q l t).map Bk.d))
 | n,.lf v,l,t,k+1,_,_,_=>by
  rw[j3,dq,Q.isTup_lf,e8];simp only[STP,Hx,Hu,Hy,Ht,reduceIte,reduceCtorEq,OPP];rfl
 | n,.lf v,l,t,0,_,_,h=>by omega
 | 0,.nd _ _ _ _,_,_,_,_,h,_=>by simp[Q.dep]at h
 | n+1,.nd a b c d,l,t,k,h3,hd,hk=>by
  obtain⟨k,rfl⟩:∃ j,k=j+1:=⟨k - 1,by omega⟩;have hd':a.dep<=n/\b.dep<=n/\c.dep<=n/\d.dep<=n:=Q.dep5 hd;have e2:((2^(n+1):Nat):Int)/2=((2^n:Nat):Int):=by rw[bN];omega
  have M0:((2^n:Nat):Int) < 2^64:=by
   have:n=0\/n=1\/n=2:=by omega
   rcases this with h | h | h<;>subst h<;>decide
  have A:=dC n a l t k (by omega) hd'.1 (by omega);have B:=dC n b (l+2^n) t k (by omega) hd'.2.1 (by omega);have C:=dC n c l (t+2^n) k (by omega) hd'.2.2.1 (by omega);have E:=dC n d (l+2^n) (t+2^n) k (by omega) hd'.2.2.2 (by omega);have lA:=d6 n a l t;have lB':=d6 n b (l+2^n) t;have lC:=d6 n c l (t+2^n);have lD:=d6 n d (l+2^n) (t+2^n);have l64:4^n<=16:=by
   have:n=0\/n=1\/n=2:=by omega
   rcases this with h | h | h<;>subst h<;>decide
  have hp:0<=((2^n:Nat):Int):=Int.natCast_nonneg _;have m0:Nw (.int 0) (.int ((2^n:Nat):Int))=.ok (.int 0):=by rw[bF (.inr (by omega))];simp
  have m1:Nw (.int 1) (.int ((2^n:Nat):Int))=.ok (.int ((2^n:Nat):Int)):=by rw[bF (.inr (by omega))];simp
  rw[Int.natCast_add]at B C E;rw[Int.natCast_add]at E;rw[j3,dq,Q.isTup_nd];simp only[STP,Hx,Hu,Hy,Ht,reduceIte,reduceCtorEq,OPP,oa (show (0:Int) < 2 by decide) (by decide),e2,Sc,Nl,BN,gZ,eW (show (0:Int) < 2 by decide),show (0:Int)%2=0 from rfl,show (1:Int)%2=1 from rfl,show (2:Int)%2=0 from rfl,show (3:Int)%2=1 from rfl,show (0:Int)/2=0 from rfl,show (1:Int)/2=0 from rfl,show (2:Int)/2=1 from rfl,show (3:Int)/2=1 from rfl,m0,m1,Int.add_zero,A,B,C,E];rw[cQ (by simp;omega)];simp only[STP,Hx,Hu,Hy,Ht,reduceIte,reduceCtorEq];rw[cQ (by simp;omega)];simp only[STP,Hx,Hu,Hy,Ht,reduceIte,reduceCtorEq];rw[cQ (by simp;omega)];simp only[STP,Hx,Hu,Hy,Ht,reduceIte,reduceCtorEq];rw[cQ (by simp;omega)];simp only[STP,Hx,Hu,Hy,Ht,reduceIte,reduceCtorEq];rw[bks];simp only[Ie,Ij,Iu]
section
variable {sz:Nat}{g:MO}{t:Q Int}
noncomputable def bs (sz:Nat)(g:MO):List Bk:=bks sz (T g sz) 0 0
def jD (h:sz<=3)(g:MO):(bs sz g).length<=64:=by
 have h1:=d6 sz (T g sz) 0 0;have:4^sz<=64:=by
  have:sz=0\/sz=1\/sz=2\/sz=3:=by omega
  rcases this with h | h | h | h<;>subst h<;>decide
 unfold bs;omega
def iw {b:Bk}(h:b∈bs sz g):b.l+b.w<=2^sz/\b.t+b.w<=2^sz/\0 < b.w:=by have:=b5 sz _ 0 0 h;omega
def rQ {b c:Bk}(hb:b∈bs sz g)(hc:c∈bs sz g){x:Nat}(h1:b.has x y)(h2:c.has x y):b=c:=xr sz _ 0 0 hb hc h1 h2
def we {x:Nat}(hx:x < 2^sz)(hy:y < 2^sz):∃ b∈bs sz g,b.has x y:=kt sz _ 0 0 (fU _ _) x y (by omega) (by omega) (by omega) (by omega)
def Sh.blocks (q:Sh sz g t)(hn:11<=n):pf n F.aX [Ni sz t]=.ok (.lst ((bs sz g).map Bk.d)):=by
 obtain⟨n,rfl⟩:∃ j,n=j+1:=⟨n - 1,by omega⟩;have h1:=q.lean (n:=n) (by omega);have h2:=q.p.side (n:=n) (by omega);have h3:=dC sz (T g sz) 0 0 n q.p.h3 (fU _ _) (by have:=q.p.h3;omega);rw[pZ,g5];have h3':pf n F.ay [(T g sz).d .int,.int 0,.int 0,.int ((2^sz:Nat):Int)]=.ok (.lst ((bs sz g).map Bk.d)):=h3;have h1':dIx (Ni sz (T g sz)) (.int 1)=.ok ((T g sz).d .int):=rfl;simp only[STP,Hx,Hu,Hy,Ht,reduceIte,reduceCtorEq,h1,h1',h2,h3']
def wf (hn:1<=n)(b:Bk)(x y:Nat):pf n F.a8 [b.d,.int (x:Int),.int (y:Int)]=.ok (.bl (decide (b.has x y))):=by
 obtain⟨n,rfl⟩:∃ j,n=j+1:=⟨n - 1,by omega⟩;rw[tX,gu,Bk.d];simp only[STP,Hx,Hu,Hy,Ht,reduceIte,reduceCtorEq,OPP];simp only[Bk.has]
 congr 2
 rw[<- Iz,<- Iz,<- Iz];apply IB.2;omega
def uM {c:D->R Bool}(p:Bk->Bool){l:List Bk}(h:∀ b∈l,c b.d=.ok (p b)):OK c (λx=>.ok x) (l.map Bk.d)=.ok (.lst ((l.filter p).map Bk.d)) :=
 iY Bk.d Bk.d p λa ha=>⟨h a ha,λ_=>rfl⟩
def ku {α:Type}{p:α->Bool}{l:List α}{m:α}(hm:m∈l)(hp:p m=true)(hu:∀ a∈l,p a=true->a=m):∃ r,l.filter p=m::r:=by
 cases hf:l.filter p with
 | nil=>exact absurd (Ia.2 ⟨hm,hp⟩) (by rw[hf];simp)
 | cons a r =>
  have:a∈l.filter p:=by rw[hf];exact .head _
  have:=Ia.1 this;exact⟨r,by rw[hu a this.1 this.2]⟩
def Bk.beside (a b:Bk):Prop:=((a.l+a.w=b.l\/b.l+b.w=a.l)/\a.t < b.t+b.w/\b.t < a.t+a.w)\/((a.t+a.w=b.t\/b.t+b.w=a.t)/\a.l < b.l+b.w/\b.l < a.l+a.w)
instance (a b:Bk):Decidable (a.beside b):=by unfold Bk.beside;infer_instance
def zz (hn:2<=n)(a b:Bk):pf n F.aT [a.d,b.d]=.ok (.bl (decide (a.beside b))):=by
 obtain⟨n,rfl⟩:∃ j,n=j+2:=⟨n - 2,by omega⟩;have m0:pf (n+1) F.bh [a.d,b.d,.int 0]=.ok (.bl (decide (a.l+a.w=b.l\/b.l+b.w=a.l))):=by
  rw[xh,nD,Bk.d,Bk.d];simp only[STP,Hx,Hu,Hy,Ht,reduceIte,reduceCtorEq,OPP];congr 2;rw[<- L6];apply IB.2;omega
 have m1:pf (n+1) F.bh [a.d,b.d,.int 1]=.ok (.bl (decide (a.t+a.w=b.t\/b.t+b.w=a.t))):=by
  rw[xh,nD,Bk.d,Bk.d];simp only[STP,Hx,Hu,Hy,Ht,reduceIte,reduceCtorEq,OPP];congr 2;rw[<- L6];apply IB.2;omega
 have o0:pf (n+1) F.aK [a.d,b.d,.int 0]=.ok (.bl (decide (a.l < b.l+b.w/\b.l < a.l+a.w))):=by
  rw[nH,fR,Bk.d,Bk.d];simp only[STP,Hx,Hu,Hy,Ht,reduceIte,reduceCtorEq,OPP];congr 2;rw[<- Iz];apply IB.2;omega
 have o1:pf (n+1) F.aK [a.d,b.d,.int 1]=.ok (.bl (decide (a.t < b.t+b.w/\b.t < a.t+a.w))):=by
  rw[nH,fR,Bk.d,Bk.d];simp only[STP,Hx,Hu,Hy,Ht,reduceIte,reduceCtorEq,OPP];congr 2;rw[<- Iz];apply IB.2;omega
 rw[oW,dR];simp only[STP,Hx,Hu,Hy,Ht,reduceIte,reduceCtorEq,m0,m1,o0,o1]
 congr 2
 rw[<- Iz,<- Iz,<- L6];rfl
variable {sz':Nat}
abbrev Mp:=List (List Int×D)
abbrev Sp:=Nat×Nat
noncomputable def kS (s:Sp):List Int:=[(s.1:Int),(s.2:Int)]
noncomputable def sD (s:Sp):D:=.tup [.int (s.1:Int),.int (s.2:Int)]
def E6 (s:Sp):NF? (sD s)=some (kS s):=rfl
def rR {s t:Sp}(h:kS s=kS t):s=t:=by
 unfold kS at h;injection h with h1 h2
 injection h2 with h2 _
 exact KY (by omega) (by omega)
noncomputable def spots (b:Bk):List Sp:=(List.range b.w).flatMap λj=>(List.range b.w).map λi=>(b.l+i,b.t+j)
def cA {b:Bk}{s:Sp}:s∈spots b↔b.has s.1 s.2:=by
 unfold spots;simp only[JG,HF,HG,Bk.has];constructor
 ·rintro ⟨j,hj,i,hi,rfl⟩;exact⟨⟨by show b.l<=b.l+i;omega,by show b.l+i < _;omega⟩,by show b.t<=b.t+j;omega,by show b.t+j < _;omega⟩
 ·rintro ⟨⟨h1,h2⟩,h3,h4⟩
  exact⟨s.2 - b.t,by omega,s.1 - b.l,by omega,KY (by show b.l+(s.1 - b.l)=s.1;omega) (by show b.t+(s.2 - b.t)=s.2;omega)⟩
def bz (b:Bk):(spots b).Nodup:=by
 unfold spots;rw[List.Nodup,L7];refine⟨λj _=>?_,?_⟩
 ·rw[Jj];exact Lg (λ{a c} h e=>by injection e with e1 _;omega) (LP (n:=b.w))
 ·refine Lg (λ{j k} h s hs s' hs' e=>?_) (LP (n:=b.w));obtain⟨i,_,rfl⟩:=HF.mp hs;obtain⟨i',_,e'⟩:=HF.mp hs';rw[<- e']at e;injection e with _ e2
  omega
def bw (b:Bk):(spots b).length=b.w*b.w:=by
 unfold spots
 simp[List.length_flatMap,List.map_const',List.sum_replicate_nat]
noncomputable def onK (m:Mp)(k:List Int):Bool:=m.any λp=>decide (p.1=k)
def wj {m:Mp}{k:List Int}{d:D}(h:onK m k=false):OA m k d=m++[(k,d)]:=by
 unfold OA;rw[show (m.any λp=>decide (p.1=k))=onK m k from rfl,h];rfl
def qw {m:Mp}{k:List Int}:onK m k=false↔k∉m.map (·.1):=by
 unfold onK;rw[List.any_eq_false];constructor
 ·intro h hk;obtain⟨p,hp,e⟩:=HF.mp hk;exact h p hp (Hz e)
 ·intro h p hp e;exact h (HF.mpr ⟨p,hp,Ik e⟩)
noncomputable def Oh (v:Int):List Sp->Mp->Option Mp
 | [],m=>some m
 | s::r,m=>if onK m (kS s)=true then none else Oh v r (m++[(kS s,.int v)])
theorem uN (v:Int):∀ (l:List Sp) (m m':Mp),Oh v l m=some m'->m'=m++l.map λs=>(kS s,D.int v)
 | [],m,m',h=>by cases h;simp
 | s::r,m,m',h=>by
  rw[Oh]at h;split at h
  ·cases h
  ·rw[uN v r _ m' h];simp
theorem ou (v:Int):∀ (l:List Sp) (m:Mp),l.Nodup->(∀ s∈l,kS s∉m.map (·.1))->Oh v l m=some (m++l.map λs=>(kS s,D.int v))
 | [],m,_,_=>by simp[Oh]
 | s::r,m,hn,hm=>by
  have hs:=(IR.mp hn);rw[Oh,if_neg (by rw[qw.mpr (hm s (.head _))];decide),ou v r _ hs.2 λs' h'=>?_]
  ·simp
  ·rw[Ie,HI]
   rintro (z | z)
   ·exact hm s' (.tail _ h') z
   ·rw[Hq,IG,HE]at z;have:=rR z;subst this;exact hs.1 h'
noncomputable def Oc (side:Nat):D->Option Bk
 | .tup [.int l,.int t,.int s,.int v]=>if (s=1\/s=2\/s=4\/s=8)/\(0<=l/\l%s=0)/\(0<=t/\t%s=0)/\(0<=v/\v<=9)/\l+s<=(side:Int)/\t+s<=(side:Int) then some ⟨l.toNat,t.toNat,s.toNat,v⟩ else none
 | _=>none
structure BkOk (side:Nat)(b:Bk):Prop where
 w:b.w=1\/b.w=2\/b.w=4\/b.w=8
 l:b.l%b.w=0
 t:b.t%b.w=0
 v:W9 b.v
 r:b.l+b.w<=side
 d:b.t+b.w<=side
def lM {side:Nat}{d:D}{b:Bk}(h:Oc side d=some b):d=b.d/\BkOk side b:=by
 unfold Oc at h;split at h
 ·rename_i l t s v;split at h
  ·rename_i c;cases h;obtain⟨c1,c2,c3,c4,c5,c6⟩:=c;refine⟨by unfold Bk.d;rw[show ((l.toNat:Nat):Int)=l by omega,show ((t.toNat:Nat):Int)=t by omega,show ((s.toNat:Nat):Int)=s by omega],?_⟩;refine⟨by show s.toNat=1\/s.toNat=2\/s.toNat=4\/s.toNat=8;omega,?_,?_,c4,by show l.toNat+s.toNat<=side;omega,by show t.toNat+s.toNat<=side;omega⟩
   ·show l.toNat%s.toNat=0;rcases c1 with rfl | rfl | rfl | rfl<;>(simp;omega)
   ·show t.toNat%s.toNat=0;rcases c1 with rfl | rfl | rfl | rfl<;>(simp;omega)
  ·cases h
 ·cases h
def E7 {side:Nat}{b:Bk}(h:BkOk side b):Oc side b.d=some b:=by
 unfold Bk.d Oc;have h1:=h.w;have h2:=h.l;have h3:=h.t;have h4:=h.v;have h5:=h.r;have h6:=h.d;obtain⟨l,t,w,v⟩:=b;simp only at h1 h2 h3 h4 h5 h6;show (if ((w:Int)=1\/(w:Int)=2\/(w:Int)=4\/(w:Int)=8)/\(0<=(l:Int)/\(l:Int)%(w:Int)=0)/\(0<=(t:Int)/\(t:Int)%(w:Int)=0)/\(0<=v/\v<=9)/\(l:Int)+(w:Int)<=(side:Int)/\(t:Int)+(w:Int)<=(side:Int) then some (⟨(l:Int).toNat,(t:Int).toNat,(w:Int).toNat,v⟩:Bk) else none)=_;rw[if_pos ⟨by omega,⟨by omega,by omega⟩,⟨by omega,by omega⟩,h4,by omega,by omega⟩]
 simp
def P6 (d:D):Prop:=th 5 3 d=true
def BO {m:Nat}(hm:1<=m){d:D}(h:th 5 n d=true):pf m F.af [d]=.ok (.bl (isW d)):=il hm (rP h)
variable {side:Nat}
def fM {m:Nat}(hm:1<=m)(a s:Int)(hs:0 < s):pf m F.aQ [.int a,.int s]=.ok (.bl (decide (0<=a)&&decide (a%s=0))):=by
 obtain⟨m,rfl,_⟩:=ex1 (show 0+1<=m by omega);rw[tV,gq,xj,eW hs,R.bind_ok,iZ,kj];rfl
def QR (s:Int):NV (.int s) (NF [1,2,4,8])=.ok (.bl (decide (s=1\/s=2\/s=4\/s=8))):=by
 unfold NV NF;show (if _ then R.ok (D.bl (_)) else _)=_;rw[if_pos ⟨by cases s<;>rfl,rfl⟩]
 congr 2
 simp only[Hq,IG,K8,List.any_nil,Mc,eqD];rw[IE];simp only[JM,Lk,HH];omega
def zA {m:Nat}(hm:2<=m)(v:Int):pf m F.ae [.int v]=.ok (.bl (decide (0<=v)&&decide (v<=9))):=kl hm rfl
def zB {m:Nat}(hm:3<=m)(l t s v:Int):pf m F.aR [.tup [.int l,.int t,.int s,.int v]]=.ok (.bl (decide ((s=1\/s=2\/s=4\/s=8)/\(0<=l/\l%s=0)/\(0<=t/\t%s=0)/\(0<=v/\v<=9)))):=by
 obtain⟨m,rfl,hm⟩:=ex1 (show 2+1<=m by omega);have w:∀ i:Int,pf m F.af [.int i]=.ok (.bl true):=λi=>il (by omega) rfl
 have cm:Nj (λnumber=>pf m F.af [number]) [.int l,.int t,.int s,.int v]=.ok (.lst [.bl true,.bl true,.bl true,.bl true]):=Pp (w l) (w t) (w s) (w v);rw[fm,cr,bY,aP,cX,IL,sM,bS,R.bind_ok,show dNf (.int (([D.int l,.int t,.int s,.int v].length:Nat):Int)) (.int 4)=.ok (.bl false) from rfl,aP,aw,if_neg (by decide),aX,sq4,R.bind_ok,cm,R.bind_ok,show O6 [.lst [.bl true,.bl true,.bl true,.bl true]]=.ok (.bl true) from rfl,aP,cX,IL,aw,if_neg (by decide),aX,Qa,aw,QR,QG,QF,Rj];by_cases c:s=1\/s=2\/s=4\/s=8
 ·have hs:0 < s:=by omega
  rw[Hz c,AL,R.bind_ok,R.bind_ok,R.bind_ok,fM (by omega) l s hs,fM (by omega) t s hs,zA (by omega),kj,kj];show R.ok (D.bl _)=_
  congr 2
  simp only[Iz,Hz c,Mg]
 ·rw[Hv c,AM];show R.ok (D.bl _)=_
  congr 2
  simp only[Iz,Hv c,Bool.false_and]
def zC {m:Nat}(hm:1<=m){xs:List D}(h:∀ x∈xs,th 5 2 x=true):Nj (λnumber=>pf m F.af [number]) xs=.ok (.lst (xs.map λd=>D.bl (isW d))):=xi _ λd hd=>BO hm (h d hd)
def rS {d:D}(h:isW d=true):∃ i,d=.int i:=by
 cases d with
 | int i=>exact⟨i,rfl⟩
 | _=>cases h
def Rs (d:D):Prop:=Nx d=false\/(∃ xs,d=.tup xs/\xs.length≠4)\/∃ a b c e,d=.tup [a,b,c,e]/\¬ (isW a=true/\isW b=true/\isW c=true/\isW e=true)
def zE (d:D):(∃ l t s v,d=.tup [.int l,.int t,.int s,.int v])\/Rs d:=by
 by_cases ht:Nx d=true
 ·cases d with
  | tup xs =>
   by_cases h4:xs.length=4
   ·match xs,h4 with
    | [a,b,c,e],_ =>
     by_cases hw:isW a=true/\isW b=true/\isW c=true/\isW e=true
     ·obtain⟨l,rfl⟩:=rS hw.1;obtain⟨t,rfl⟩:=rS hw.2.1;obtain⟨s,rfl⟩:=rS hw.2.2.1;obtain⟨v,rfl⟩:=rS hw.2.2.2;exact .inl ⟨l,t,s,v,rfl⟩
     ·exact .inr (.inr (.inr ⟨a,b,c,e,rfl,hw⟩))
   ·exact .inr (.inr (.inl ⟨xs,rfl,h4⟩))
  | _=>cases ht
 ·exact .inr (.inl (JE _ ▸ ht))
def E8 {d:D}(h:Rs d):Oc side d=none:=by
 rcases h with h | ⟨xs,rfl,h4⟩ | ⟨a,b,c,e,rfl,nw⟩
 ·cases d<;>first | rfl | (cases h;done)
 ·unfold Oc;split
  ·rename_i l t s v heq;cases heq;exact absurd rfl h4
  ·rfl
 ·unfold Oc;split
  ·rename_i l t s v heq;cases heq;exact absurd ⟨rfl,rfl,rfl,rfl⟩ nw
  ·rfl
def FZ {xs:List D}(h4:xs.length≠4):dNf (.int ((xs.length:Nat):Int)) (.int 4)=.ok (.bl true):=by rw[fu,Hv (by omega)];rfl
def DO {d:D}(h:P6 d)(b:Rs d){m:Nat}(hm:2<=m):pf m F.aR [d]=.ok (.bl false):=by
 obtain⟨m,rfl,hm⟩:=ex1 (show 1+1<=m by omega);rcases b with hf | ⟨xs,rfl,h4⟩ | ⟨a,b,c,e,rfl,nw⟩
 ·rw[fm,cr,cP hf (rP h)];rfl
 ·rw[fm,cr,bY,aP,cX,IL,sM,bS,R.bind_ok,FZ h4];rfl
 ·have hh:=bC.mp h;have cm:=zC (m:=m) (by omega) (xs:=[a,b,c,e]) hh.2;have da:O6 [.lst ([a,b,c,e].map λd=>D.bl (isW d))]=.ok (.bl ([a,b,c,e].all isW)):=kh isW [a,b,c,e];have ff:[a,b,c,e].all isW=false:=by
   rw[<- JE];intro z;simp only[Ju,Lz,KA,HD]at z;exact nw z
  rw[fm,cr,bY,aP,cX,IL,sM,bS,R.bind_ok,show dNf (.int (([a,b,c,e].length:Nat):Int)) (.int 4)=.ok (.bl false) from rfl,aP,aw,if_neg (by decide),aX,sq4,R.bind_ok,cm,R.bind_ok,da,ff];rfl
def E9 (m:Mp)(s:Sp):QC m (sD s)=.ok (.bl (onK m (kS s))):=rfl
def Fb {m:Mp}{s:Sp}(hl:m.length < 1000000)(h:onK m (kS s)=false):P7 m (sD s) (.int v)=.ok (m++[(kS s,.int v)]):=by
 unfold P7;rw[E6];show (if m.length < 1000000 then R.ok (OA m (kS s) (.int v)) else R.stuck)=_;rw[if_pos hl,wj h]
noncomputable def Ri (e:L Mp):Option Mp->L Mp
 | none=>e
 | some m=>.nx m
def F0 {τ:Type}(l:L τ):(lS l λs=>.nx s)=l:=by cases l<;>rfl
noncomputable def bkM (side:Nat)(d:D)(m:Mp):Option Mp:=match Oc side d with
 | none=>none
 | some b=>Oh b.v (spots b) m
noncomputable def goB (side:Nat):List D->Mp->Option Mp
 | [],m=>some m
 | d::r,m=>match bkM side d m with
  | none=>none
  | some m'=>goB side r m'
def DP {side:Nat}{d:D}{m m':Mp}(h:bkM side d m=some m'):m'.length<=m.length+64:=by
 unfold bkM at h;split at h
 ·cases h
 ·rename_i b hb;have o:=(lM hb).2;rw[uN _ _ _ _ h,HJ,Hl,bw];have:b.w*b.w<=64:=by rcases o.w with e | e | e | e<;>rw[e]<;>decide
  omega
def uO (hn:3<=n)(side:Nat){d:D}(h:P6 d):bL (pf n) (.int (side:Int)) d=if (Oc side d).isSome=true then .nx () else .er 6:=by
 unfold bL;rcases zE d with ⟨l,tp,s,v,rfl⟩ | b
 ·rw[zB hn,aP,cX,aw];by_cases c0:(s=1\/s=2\/s=4\/s=8)/\(0<=l/\l%s=0)/\(0<=tp/\tp%s=0)/\(0<=v/\v<=9)
  ·rw[Hz c0,IL,if_neg (by decide),aX,QG,R.bind_ok,Qa,R.bind_ok,aJ,R.bind_ok,rL,aP,QF,R.bind_ok,R.bind_ok,aJ,R.bind_ok,rL,aP,lI,aw];by_cases c:l+s<=(side:Int)/\tp+s<=(side:Int)
   ·have e:(Oc side (.tup [.int l,.int tp,.int s,.int v])).isSome=true:=by
     show (if _ then _ else _:Option Bk).isSome=_;rw[if_pos ⟨c0.1,c0.2.1,c0.2.2.1,c0.2.2.2,c.1,c.2⟩];rfl
    rw[if_pos e,if_neg (by simp;omega)]
   ·have e:¬ (Oc side (.tup [.int l,.int tp,.int s,.int v])).isSome=true:=by
     show ¬ (if _ then _ else _:Option Bk).isSome=_;rw[if_neg λz=>c ⟨z.2.2.2.2.1,z.2.2.2.2.2⟩];decide
    rw[if_neg e,if_pos (by simp only[JM,HH];omega)]
  ·have e:¬ (Oc side (.tup [.int l,.int tp,.int s,.int v])).isSome=true:=by
    show ¬ (if _ then _ else _:Option Bk).isSome=_;rw[if_neg λz=>c0 ⟨z.1,z.2.1,z.2.2.1,z.2.2.2.1⟩];decide
   rw[Hv c0,if_neg e];rfl
 ·rw[DO h b (by omega),E8 b];rfl
theorem ox {n:Nat}(hn:3<=n)(side:Nat):∀ (ds:List D),(∀ d∈ds,P6 d)->Nl (τ:=Unit) (λ_ x=>bL (pf n) (.int (side:Int)) x) ds ()=if (ds.all λd=>(Oc side d).isSome)=true then .nx () else .er 6
 | [],_=>rfl
 | d::r,h=>by
  rw[aK,uO hn side (h d (.head _)),Ju];cases q:(Oc side d).isSome with
  | false=>rfl
  | true=>rw[if_pos rfl,aX,Mg];exact ox hn side r λd hd=>h d (.tail _ hd)
def oy (hn:1<=n){side:Nat}{b:Bk}(o:BkOk side b)(h8:side<=8):pf n F.aS [b.d]=.ok (.lst ((spots b).map sD)):=by
 obtain⟨n,rfl,hn⟩:=ex1 (show 0+1<=n by omega);obtain⟨l,t,w,v⟩:=b;have h1:=o.r;have h2:=o.d;have hw:=o.w;simp only at h1 h2 hw;have rr:∀ a:Nat,a<=1000->OC [.int (a:Int),.int ((a:Int)+(w:Int))]=.ok ((List.range w).map λi=>D.int ((a+i:Nat):Int)):=λa ha=>by
  rw[show ((a:Int)+(w:Int))=((a+w:Nat):Int) by simp,uF (by omega) (by omega),show a+w - a=w by omega]
 have st:∀ (y:Nat) (L0:List D),L0.length<=10000->c7 (pf n) (.tup [.int (l:Int),.int (t:Int),.int (w:Int),.int v]) L0 (.int (y:Int))=.nx (L0++(List.range w).map λi=>sD (l+i,y)):=λy L0 ha=>by
  unfold c7;rw[QG,R.bind_ok,R.bind_ok,Qa,R.bind_ok,aJ,R.bind_ok,rr l (by omega),R.bind_ok,aV (l:=List.range w) (λi=>D.int ((l+i:Nat):Int)) (λi=>sD (l+i,y)) (λi _=>rfl),R.bind_ok,cQ (by simp;omega)];rfl
 have lp:∀ (js:List Nat) (L0:List D),L0.length+8*js.length<=10000->Nl (τ:=List D) (λs x=>c7 (pf n) (.tup [.int (l:Int),.int (t:Int),.int (w:Int),.int v]) s x) (js.map λj=>D.int ((t+j:Nat):Int)) L0=.nx (L0++js.flatMap λj=>(List.range w).map λi=>sD (l+i,t+j)):=by
  intro js
  induction js with
  | nil=>intro L0 _;simp
  | cons j r ih =>
   intro L0 ha;rw[HB]at ha;rw[Hq,aK,st (t+j) L0 (by omega),aX,ih _ (by rw[HJ,Hl,Ig];omega),JV,Iu]
 rw[tW,gr];unfold Bk.d;rw[QF,R.bind_ok,R.bind_ok,Qa,R.bind_ok,aJ,R.bind_ok,rr t (by omega),aw,lp (List.range w) [] (by simp;omega),aX];show R.ok (D.lst _)=_;unfold spots;rw[Ij,Ka];simp only[HX];rfl
def wm {b:Bk}(m:Mp)(s:Sp)(hl:m.length < 1000000):bo (pf n) b.d m (sD s)=if onK m (kS s)=true then .er 6 else .nx (m++[(kS s,.int b.v)]):=by
 unfold bo;rw[E9,aP,aw];by_cases c:onK m (kS s)=true
 ·rw[if_pos c,if_pos c];rfl
 ·rw[if_neg c,if_neg c,aX];unfold Bk.d;rw[Rj,R.bind_ok,Fb hl (JE _ ▸ c)];rfl
theorem oz {n:Nat}{b:Bk}:∀ (ss:List Sp) (m:Mp),m.length+ss.length<=100000->Nl (τ:=Mp) (λs x=>bo (pf n) b.d s x) (ss.map sD) m=Ri (.er 6) (Oh b.v ss m)
 | [],m,_=>rfl
 | s::r,m,hl=>by
  rw[HB]at hl;rw[Hq,aK,wm m s (by omega),Oh];by_cases c:onK m (kS s)=true
  ·rw[if_pos c,if_pos c];rfl
  ·rw[if_neg c,if_neg c,aX];exact oz r _ (by rw[HJ,KH];omega)
theorem oB {n:Nat}(hn:1<=n){side:Nat}(h8:side<=8):∀ (ds:List D) (m:Mp),(ds.all λd=>(Oc side d).isSome)=true->m.length+64*ds.length<=100000->Nl (τ:=Mp) (λs x=>bp (pf n) s x) ds m=Ri (.er 6) (goB side ds m)
 | [],m,_,_=>rfl
 | d::r,m,h,hl=>by
  rw[HB]at hl;rw[Ju,HD]at h;obtain⟨b,hb⟩:=Kh.mp h.1;obtain⟨rfl,o⟩:=lM hb;have ww:b.w*b.w<=64:=by rcases o.w with e | e | e | e<;>rw[e]<;>decide
  have st:bp (pf n) m b.d=Ri (.er 6) (bkM side b.d m):=by
   unfold bp;rw[oy hn o h8,R.bind_ok,bc (by rw[Hl,bw];omega),aw,oz _ _ (by rw[bw];omega),F0];unfold bkM;rw[hb]
  rw[aK,st,goB];cases q:bkM side b.d m with
  | none=>rfl
  | some m' =>
   have:=DP q;exact oB hn h8 r m' h.2 (by omega)
theorem xt {side:Nat}:∀ {ds:List D} {m m':Mp},goB side ds m=some m'->(ds.all λd=>(Oc side d).isSome)=true
 | [],_,_,_=>rfl
 | d::r,m,m',h=>by
  rw[goB]at h;split at h
  ·cases h
  ·rename_i m1 hm;rw[Ju,xt h,KA];unfold bkM at hm;split at hm
   ·cases hm
   ·rename_i b hb;rw[hb];rfl
theorem uP {α:Type}[DecidableEq α]:∀ {l k:List α},l.Nodup->(∀ a∈l,a∈k)->l.length<=k.length
 | [],_,_,_=>IA _
 | a::r,k,hn,hs=>by
  have h:=IR.mp hn;have ha:=hs a (.head _);have:=uP (l:=r) (k:=k.erase a) h.2 λb hb=>(Kb (by rintro rfl;exact h.1 hb)).mpr (hs b (.tail _ hb))
  rw[Kk ha]at this;have:=Kz ha;rw[HB];omega
theorem mJ {α:Type}[DecidableEq α]:∀ {l k:List α},l.Nodup->(∀ a∈l,a∈k)->l.length=k.length->∀ a∈k,a∈l
 | [],k,_,_,e,a,ha=>by
  have:=Kz ha;rw[<- e]at this;exact absurd this (by simp)
 | b::r,k,hn,hs,e,a,ha=>by
  have h:=IR.mp hn;have hb:=hs b (.head _);by_cases c:a=b
  ·exact c ▸ .head _
  ·refine .tail _ (mJ (l:=r) (k:=k.erase b) h.2 (λx hx=>(Kb (by rintro rfl;exact h.1 hx)).mpr (hs x (.tail _ hx))) ?_ a ((Kb c).mpr ha));rw[Kk hb,<- e,HB];omega
noncomputable def keys (m:Mp):List (List Int):=m.map (·.1)
structure MOk (side:Nat)(m:Mp):Prop where
 nd:(keys m).Nodup
 at_:∀ p∈m,∃ (s:Sp) (v:Int),p=(kS s,.int v)/\s.1 < side/\s.2 < side/\W9 v
def MOk.nil (side:Nat):MOk side []:=⟨by simp[keys],by simp⟩
theorem MOk.fill {side:Nat}{v:Int}(hv:W9 v):∀ {ss:List Sp} {m m':Mp},(∀ s∈ss,s.1 < side/\s.2 < side)->MOk side m->Oh v ss m=some m'->MOk side m'
 | [],m,m',_,h,e=>by cases e;exact h
 | s::r,m,m',hs,h,e=>by
  rw[Oh]at e;split at e
  ·cases e
  ·rename_i c;have hk:=qw.mp (JE _ ▸ c);refine MOk.fill hv (λs hs'=>hs s (.tail _ hs')) ⟨?_,?_⟩ e
   ·unfold keys;rw[Ie,Hq,IG,Lh];exact⟨h.nd,by simp,λa ha b hb=>by rw[HE]at hb;subst hb;rintro rfl;exact hk ha⟩
   ·intro p hp;rcases HI.mp hp with z | z
    ·exact h.at_ p z
    ·rw[HE]at z;exact⟨s,v,z,(hs s (.head _)).1,(hs s (.head _)).2,hv⟩
def BkOk.sp {side:Nat}{b:Bk}(o:BkOk side b):∀ s∈spots b,s.1 < side/\s.2 < side:=λs hs=>by
 have h:=cA.mp hs;have h1:=o.r;have h2:=o.d;exact⟨by omega,by omega⟩
theorem MOk.go {side:Nat}:∀ {ds:List D} {m m':Mp},MOk side m->goB side ds m=some m'->MOk side m'
 | [],m,m',h,e=>by cases e;exact h
 | d::r,m,m',h,e=>by
  rw[goB]at e;split at e
  ·cases e
  ·rename_i m1 hm;refine MOk.go ?_ e;unfold bkM at hm;split at hm
   ·cases hm
   ·rename_i b hb;have o:=(lM hb).2;exact MOk.fill o.v o.sp h hm
theorem xv:∀ {m:Mp} {k:List Int} {d:D},(keys m).Nodup->(k,d)∈m->NP m k=some d
 | (k',d')::r,k,d,hn,h=>by
  have hn':=IR.mp hn;unfold NP;rw[JP];by_cases c:k'=k
  ·rw[Hz c];rcases Ho.mp h with e | e
   ·cases e;rfl
   ·exact absurd (HF.mpr ⟨_,e,rfl⟩) (c ▸ hn'.1)
  ·rw[Hv c];rcases Ho.mp h with e | e
   ·cases e;exact absurd rfl c
   ·exact xv hn'.2 e
noncomputable def gv (m:Mp)(x y:Nat):Int:=match NP m (kS (x,y)) with
 | some (.int v)=>v
 | _=>0
def D4 {m:Mp}{x:Nat}(hn:(keys m).Nodup)(h:(kS (x,y),D.int v)∈m):gv m x y=v/\NP m (kS (x,y))=some (.int v):=by
 have:=xv hn h;exact⟨by unfold gv;rw[this],this⟩
noncomputable def Op (side:Nat):List Sp:=spots ⟨0,0,side,0⟩
def bn {side:Nat}{s:Sp}:s∈Op side↔s.1 < side/\s.2 < side:=by
 unfold Op;rw[cA]
 simp[Bk.has]
def MOk.full {side:Nat}{m:Mp}(h:MOk side m)(hl:m.length=side*side){x:Nat}(hx:x < side)(hy:y < side):W9 (gv m x y)/\NP m (kS (x,y))=some (.int (gv m x y)):=by
 have hk:kS (x,y)∈keys m:=by
  refine mJ (k:=(Op side).map kS) h.nd (λa ha=>?_) ?_ _ (HF.mpr ⟨(x,y),bn.mpr ⟨hx,hy⟩,rfl⟩)
  ·obtain⟨p,hp,rfl⟩:=HF.mp ha;obtain⟨s,v,rfl,h1,h2,_⟩:=h.at_ p hp
   exact HF.mpr ⟨s,bn.mpr ⟨h1,h2⟩,rfl⟩
  ·unfold keys Op;rw[Hl,Hl,bw,hl]
 obtain⟨p,hp,e⟩:=HF.mp hk;obtain⟨s,v,rfl,h1,h2,hv⟩:=h.at_ p hp
 have:=rR e;subst this;obtain⟨e1,e2⟩:=D4 h.nd hp;rw[e1];exact⟨hv,e2⟩
def F1 {m:Mp}{x:Nat}(h:NP m (kS (x,y))=some (.int v)):dTx (OT m) (.tup [.int (x:Int),.int (y:Int)])=.ok (.int v):=by
 show (match NP ((m.map (·.1)).zip (m.map (·.2))) (kS (x,y)) with | some d=>R.ok d | none=>R.stuck)=_;rw[tu,h]
def Fc {m:Mp}{side:Nat}(hm:MOk side m)(hl:m.length=side*side)(h8:side<=8)(hy:y < side):(((Ny [.int (side:Int)]).bind λxs=>Nj (λx=>dTx (OT m) (.tup [x,.int (y:Int)])) xs).bind λx1=>Nu [x1])=.ok (Nz .int (gv m) side y):=by
 rw[de (by omega),R.bind_ok,aV (l:=List.range side) (λi=>D.int ((i:Nat):Int)) (λx=>D.int (gv m x y)) (λx hx=>F1 (hm.full hl (HG.mp hx) hy).2),R.bind_ok];rfl
noncomputable def Qz (sz:Nat)(ds:List D):Option (MO):=match goB (2^sz) ds [] with
 | none=>none
 | some m=>if m.length=2^sz*2^sz then some (gv m) else none
def uQ (h3:sz<=3):dIx (NF [1,2,4,8]) (.int (sz:Int))=.ok (.int ((2^sz:Nat):Int)):=by rcases bT h3 with rfl | rfl | rfl | rfl<;>rfl
def QO (h3:sz<=3):Nw (.int ((2^sz:Nat):Int)) (.int ((2^sz:Nat):Int))=.ok (.int ((2^sz*2^sz:Nat):Int)):=by rcases bT h3 with rfl | rfl | rfl | rfl<;>rfl
noncomputable def SF (sz:Nat)(e:R D):Option (MO)->R D
 | none=>e
 | some g=>.ok (Ni sz (T g sz))
noncomputable def SE:Option Mp->R D
 | none=>.err 6
 | some m=>.ok (OT m)
def Fe (h3:sz<=3)(h:∀ d∈ds,P6 d)(hl:ds.length<=1000)(hn:8<=n):pf n F.aZ [.int (sz:Int),.lst ds]=SF sz (.err 6) (Qz sz ds):=by
 obtain⟨n,rfl,hn⟩:=ex1 (show 7+1<=n by omega);have s8:2^sz<=8:=p8 h3;have ck:pf n F.aF [.int (sz:Int),.lst ds]=if (ds.all λd=>(Oc (2^sz) d).isSome)=true then .ok .non else .err 6:=by
  obtain⟨n,rfl,hn⟩:=ex1 (show 6+1<=n by omega);rw[l8,cH,xl (by omega) rfl,show Np 3 (.int (sz:Int))=true by simp[Np];omega,aP,cX,IL,sM,show Nn Qi (.lst ds)=.ok (.bl true) from rfl,aP,cX,IL,aw,if_neg (by decide),aX,uQ h3,aw,bc (by omega),aw,ox (by omega) _ ds h];split<;>rfl
 rw[rh,fj,ck];unfold Qz;by_cases ca:(ds.all λd=>(Oc (2^sz) d).isSome)=true
 ·have wb:pf n F.au [.lst ds]=SE (goB (2^sz) ds []):=by
   obtain⟨n,rfl,hn⟩:=ex1 (show 6+1<=n by omega);rw[j4,bU,bc (by omega),aw,oB (by omega) s8 ds [] ca (by simp;omega)];cases goB (2^sz) ds []<;>rfl
  rw[if_pos ca,aw,wb];cases q:goB (2^sz) ds [] with
  | none=>rfl
  | some m =>
   have mo:=(MOk.nil (2^sz)).go q;show MW (lB (R.ok (OT m)) _)=_;rw[aw,uQ h3,aw,show PF [OT m]=.ok (.int (((m.map (·.1)).length:Nat):Int)) from rfl,Hl,R.bind_ok,QO h3,R.bind_ok,fu,aP,aw];by_cases c:m.length=2^sz*2^sz
   ·simp only[if_pos c];rw[if_neg (by rw[c,Hz rfl];decide),aX,de (by omega),R.bind_ok,aV (l:=List.range (2^sz)) (λi=>D.int ((i:Nat):Int)) (λy=>Nz .int (gv m) (2^sz) y) (λy hy=>by
     obtain⟨n,rfl,hn⟩:=ex1 (show 6+1<=n by omega);rw[yR,jR,Fc mo c s8 (HG.mp hy)];rfl),R.bind_ok,jB,R.bind_ok]
    have:=zq (n:=n) (f:=gv m) (by omega) h3 (λx y hx hy=>(mo.full c hx hy).1);unfold MX at this;rw[this];rfl
   ·simp only[if_neg c];rw[if_pos (by rw[Hv (λz=>c (by exact_mod_cast z))];rfl)];rfl
 ·rw[if_neg ca];cases q:goB (2^sz) ds [] with
  | none=>rfl
  | some m=>exact absurd (xt q) ca
def Apart (b c:Bk):Prop:=∀ x y,b.has x y->¬ c.has x y
theorem xw {side:Nat}:∀ (l:List Bk) (m:Mp),(∀ b∈l,BkOk side b)->l.Pairwise Apart->(∀ b∈l,∀ s∈spots b,kS s∉keys m)->goB side (l.map Bk.d) m=some (m++l.flatMap λb=>(spots b).map λs=>(kS s,D.int b.v))
 | [],m,_,_,_=>by simp[goB]
 | b::r,m,ho,hp,hm=>by
  have hp':=Iy.mp hp;rw[Hq,goB];have e:bkM side b.d m=some (m++(spots b).map λs=>(kS s,D.int b.v)):=by
   unfold bkM;rw[E7 (ho b (.head _))];exact ou b.v (spots b) m (bz b) (hm b (.head _))
  rw[e];show goB side (r.map Bk.d) _=_;rw[xw r _ (λc hc=>ho c (.tail _ hc)) hp'.2 λc hc s hs=>?_]
  ·rw[JV,Iu]
  ·unfold keys;rw[Ie,HI,HX]
   rintro (z | z)
   ·exact hm c (.tail _ hc) s hs z
   ·obtain⟨s',hs',e'⟩:=HF.mp z;have:=rR e';subst this;exact hp'.1 c hc _ _ (cA.mp hs') (cA.mp hs)
def BP {sz:Nat}{l:List Bk}{g:MO}(ho:∀ b∈l,BkOk (2^sz) b)(hp:l.Pairwise Apart)(hc:∀ x y,x < 2^sz->y < 2^sz->∃ b∈l,b.has x y)(hg:∀ b∈l,∀ x y,b.has x y->g x y=b.v):∃ g',Qz sz (l.map Bk.d)=some g'/\∀ x y,x < 2^sz->y < 2^sz->g' x y=g x y:=by
 have e:=xw l [] ho hp (λb _ s _=>by simp[keys]);rw[Ij]at e;have mo:=(MOk.nil (2^sz)).go e;have mem:∀ x y,x < 2^sz->y < 2^sz->(kS (x,y),D.int (g x y))∈l.flatMap λb=>(spots b).map λs=>(kS s,D.int b.v):=λx y hx hy=>by
  obtain⟨b,hb,h⟩:=hc x y hx hy;exact JG.mpr ⟨b,hb,HF.mpr ⟨(x,y),cA.mpr h,by rw[hg b hb x y h]⟩⟩
 have hl:(l.flatMap λb=>(spots b).map λs=>(kS s,D.int b.v)).length=2^sz*2^sz:=by
  have a1:(keys (l.flatMap λb=>(spots b).map λs=>(kS s,D.int b.v))).length<=((Op (2^sz)).map kS).length:=uP mo.nd λa ha=>by
   obtain⟨p,hp,rfl⟩:=HF.mp ha;obtain⟨s,v,rfl,h1,h2,_⟩:=mo.at_ p hp
   exact HF.mpr ⟨s,bn.mpr ⟨h1,h2⟩,rfl⟩
  have a2:((Op (2^sz)).map kS).length<=(keys (l.flatMap λb=>(spots b).map λs=>(kS s,D.int b.v))).length:=uP (by
   rw[List.Nodup,Jj];exact Lg (λ{a b} h e=>h (rR e)) (bz _)) λa ha=>by
   obtain⟨s,hs,rfl⟩:=HF.mp ha;have:=bn.mp hs;exact HF.mpr ⟨_,mem s.1 s.2 this.1 this.2,rfl⟩
  unfold keys at a1 a2;unfold Op at a1 a2;rw[Hl,Hl,bw]at a1 a2;simp only at a1 a2;omega
 refine⟨gv (l.flatMap λb=>(spots b).map λs=>(kS s,D.int b.v)),?_,λx y hx hy=>(D4 mo.nd (mem x y hx hy)).1⟩;unfold Qz;rw[e];simp only[if_pos hl]
def Apart.symm {b c:Bk}(h:Apart b c):Apart c b:=λx y h1 h2=>h x y h2 h1
theorem eh:∀ (n:Nat) (q:Q Int) (l t:Nat),(bks n q l t).Pairwise Apart
 | n,.lf v,l,t=>by rw[e8];simp
 | 0,.nd _ _ _ _,_,_=>by simp[bks]
 | n+1,.nd a b c d,l,t=>by
  rw[bks,Jz,Jz,Jz];refine⟨eh n a l t,⟨eh n b _ t,⟨eh n c l _,eh n d _ _,?_⟩,?_⟩,?_⟩
  ·intro x hx y hy u v h1 h2;have i1:=b5 n _ _ _ hx;have i2:=b5 n _ _ _ hy;omega
  ·intro x hx y hy u v h1 h2;have i1:=b5 n _ _ _ hx;rcases HI.mp hy with z | z
   ·have i2:=b5 n _ _ _ z;omega
   ·have i2:=b5 n _ _ _ z;omega
  ·intro x hx y hy u v h1 h2;have i1:=b5 n _ _ _ hx;rcases HI.mp hy with z | z
   ·have i2:=b5 n _ _ _ z;omega
   ·rcases HI.mp z with z | z
    ·have i2:=b5 n _ _ _ z;omega
    ·have i2:=b5 n _ _ _ z;omega
theorem oC:∀ (n:Nat) (q:Q Int) (l t:Nat),2^n ∣ l->2^n ∣ t->∀ {b:Bk},b∈bks n q l t->(∃ k,k<=n/\b.w=2^k)/\b.w ∣ b.l/\b.w ∣ b.t
 | n,.lf v,l,t,hl,ht,b,hb=>by
  rw[e8,HE]at hb;subst hb;exact⟨⟨n,Hr n,rfl⟩,hl,ht⟩
 | 0,.nd _ _ _ _,_,_,_,_,b,hb=>by simp[bks]at hb
 | n+1,.nd a b c d,l,t,hl,ht,x,hx=>by
  have h1:2^n ∣ l:=Nat.dvd_trans (Nat.pow_dvd_pow 2 (JA n)) hl;have h2:2^n ∣ t:=Nat.dvd_trans (Nat.pow_dvd_pow 2 (JA n)) ht;have h3:2^n ∣ l+2^n:=Nat.dvd_add h1 (Nat.dvd_refl _);have h4:2^n ∣ t+2^n:=Nat.dvd_add h2 (Nat.dvd_refl _);have up:((∃ k,k<=n/\x.w=2^k)/\x.w ∣ x.l/\x.w ∣ x.t)->(∃ k,k<=n+1/\x.w=2^k)/\x.w ∣ x.l/\x.w ∣ x.t:=λ⟨⟨k,hk,e⟩,r⟩=>⟨⟨k,by omega,e⟩,r⟩
  rw[bks]at hx;rcases HI.mp hx with z | z
  ·exact up (oC n a l t h1 h2 z)
  ·rcases HI.mp z with z | z
   ·exact up (oC n b _ t h3 h2 z)
   ·rcases HI.mp z with z | z
    ·exact up (oC n c l _ h1 h4 z)
    ·exact up (oC n d _ _ h3 h4 z)
theorem uR {p:Int->Prop}:∀ (n:Nat) (q:Q Int) (l t:Nat),q.All p->∀ {b:Bk},b∈bks n q l t->p b.v
 | n,.lf v,l,t,h,b,hb=>by
  rw[e8,HE]at hb;subst hb;exact h
 | 0,.nd _ _ _ _,_,_,_,b,hb=>by simp[bks]at hb
 | n+1,.nd a b c d,l,t,h,x,hx=>by
  rw[bks]at hx;rcases HI.mp hx with z | z
  ·exact uR n a l t h.1 z
  ·rcases HI.mp z with z | z
   ·exact uR n b _ t h.2.1 z
   ·rcases HI.mp z with z | z
    ·exact uR n c l _ h.2.2.1 z
    ·exact uR n d _ _ h.2.2.2 z
def Pc.bkok {sz:Nat}{t:Q Int}(p:Pc sz t){b:Bk}(hb:b∈bks sz t 0 0):BkOk (2^sz) b:=by
 obtain⟨⟨k,hk,e⟩,h1,h2⟩:=oC sz t 0 0 (Nat.dvd_zero _) (Nat.dvd_zero _) hb;have i:=b5 sz t 0 0 hb;have h3:=p.h3;refine⟨?_,LQ h1,LQ h2,uR sz t 0 0 p.all hb,by omega,by omega⟩;rw[e];rcases bT (show k<=3 by omega) with rfl | rfl | rfl | rfl<;>decide
def Ad (a b:Sp):Prop:=(a.1=b.1/\(a.2+1=b.2\/b.2+1=a.2))\/(a.2=b.2/\(a.1+1=b.1\/b.1+1=a.1))
def In (N:Nat)(a:Sp):Prop:=a.1 < N/\a.2 < N
def Ad.symm {a b:Sp}(h:Ad a b):Ad b a:=h.imp (λh=>⟨h.1.symm,h.2.symm⟩) λh=>⟨h.1.symm,h.2.symm⟩
inductive Cn (N:Nat)(g:MO):Sp->Sp->Prop
 | rfl {a:Sp}:Cn N g a a
 | step {a b c:Sp}:Cn N g a b->Ad b c->In N c->g b.1 b.2=g c.1 c.2->Cn N g a c
variable {N:Nat}{a b c:Sp}
def Cn.trans (h:Cn N g a b)(k:Cn N g b c):Cn N g a c:=by
 induction k with
 | rfl=>exact h
 | step _ x y z ih=>exact .step ih x y z
def Cn.in (h:Cn N g a b)(i:In N a):In N b:=by
 induction h with
 | rfl=>exact i
 | step _ _ y _ _=>exact y
def Cn.val (h:Cn N g a b):g a.1 a.2=g b.1 b.2:=by
 induction h with
 | rfl=>rfl
 | step _ _ _ z ih=>exact ih.trans z
def Cn.symm (i:In N a)(h:Cn N g a b):Cn N g b a:=by
 induction h with
 | rfl=>exact .rfl
 | step k x y z ih=>exact(Cn.step .rfl x.symm (k.in i) z.symm).trans ih
def kv {b:Bk}(hb:b∈bs sz g){x:Nat}(h:b.has x y):g x y=b.v:=by
 have i:=iw hb;have e:=BM sz (T g sz) 0 0 hb h;rw[Lv,Lv,Pm sz g x y (by omega) (by omega)]at e;exact e
def i4 {b:Bk}(hb:b∈bs sz g){s:Sp}(h:b.has s.1 s.2):In (2^sz) s:=by
 have i:=iw hb;exact⟨by omega,by omega⟩
theorem wn {b:Bk}(hb:b∈bs sz g):∀ (i j:Nat),i < b.w->j < b.w->Cn (2^sz) g (b.l,b.t) (b.l+i,b.t+j)
 | 0,0,_,_=>.rfl
 | i+1,0,hi,hj=>by
  have n:=iw hb;refine .step (wn hb i 0 (by omega) hj) (.inr ⟨rfl,.inl rfl⟩) ⟨by show b.l+(i+1) < _;omega,by show b.t+0 < _;omega⟩ ?_;rw[kv hb (x:=b.l+i) (y:=b.t+0) ⟨by omega,by omega⟩,kv hb (x:=b.l+(i+1)) (y:=b.t+0) ⟨by omega,by omega⟩]
 | i,j+1,hi,hj=>by
  have n:=iw hb;refine .step (wn hb i j hi (by omega)) (.inl ⟨rfl,.inl rfl⟩) ⟨by show b.l+i < _;omega,by show b.t+(j+1) < _;omega⟩ ?_;rw[kv hb (x:=b.l+i) (y:=b.t+j) ⟨by omega,by omega⟩,kv hb (x:=b.l+i) (y:=b.t+(j+1)) ⟨by omega,by omega⟩]
def BQ {b:Bk}(hb:b∈bs sz g){s:Sp}(h:b.has s.1 s.2)(h':b.has s'.1 s'.2):Cn (2^sz) g s s':=by
 have n:=iw hb;have go:∀ s:Sp,b.has s.1 s.2->Cn (2^sz) g (b.l,b.t) s:=λs h=>by
  have:=wn hb (s.1 - b.l) (s.2 - b.t) (by omega) (by omega)
  rwa [show b.l+(s.1 - b.l)=s.1 by omega,show b.t+(s.2 - b.t)=s.2 by omega]at this
 exact((go s h).symm ⟨by show b.l < _;omega,by show b.t < _;omega⟩).trans (go s' h')
def Rb (b c:Bk):Prop:=b.v=c.v/\b.beside c
instance (b c:Bk):Decidable (Rb b c):=by unfold Rb;infer_instance
def Rb.symm {b c:Bk}(h:Rb b c):Rb c b:=⟨h.1.symm,h.2.imp (λh=>⟨h.1.symm,h.2.symm⟩) λh=>⟨h.1.symm,h.2.symm⟩⟩
def Rb.cn {b c:Bk}(hb:b∈bs sz g)(hc:c∈bs sz g)(r:Rb b c){s:Sp}(h:b.has s.1 s.2)(h':c.has s'.1 s'.2):Cn (2^sz) g s s':=by
 have n:=iw hb;have m:=iw hc;have go:∀ u u':Sp,b.has u.1 u.2->c.has u'.1 u'.2->Ad u u'->Cn (2^sz) g s s':=λu u' k k' a =>
  ((BQ hb h k).step a (i4 hc k') (by rw[kv hb k,kv hc k',r.1])).trans (BQ hc k' h')
 have q:=r.2;unfold Bk.beside at q;rcases q with ⟨q | q,q2,q3⟩ | ⟨q | q,q2,q3⟩
 ·exact go (c.l - 1,max b.t c.t) (c.l,max b.t c.t) ⟨by show _<=c.l - 1/\c.l - 1 < _;omega,by show _<=max b.t c.t/\max b.t c.t < _;omega⟩ ⟨by show _<=c.l/\c.l < _;omega,by show _<=max b.t c.t/\max b.t c.t < _;omega⟩ (.inr ⟨rfl,.inl (by show c.l - 1+1=c.l;omega)⟩)
 ·exact go (b.l,max b.t c.t) (b.l - 1,max b.t c.t) ⟨by show _<=b.l/\b.l < _;omega,by show _<=max b.t c.t/\max b.t c.t < _;omega⟩ ⟨by show _<=b.l - 1/\b.l - 1 < _;omega,by show _<=max b.t c.t/\max b.t c.t < _;omega⟩ (.inr ⟨rfl,.inr (by show b.l - 1+1=b.l;omega)⟩)
 ·exact go (max b.l c.l,c.t - 1) (max b.l c.l,c.t) ⟨by show _<=max b.l c.l/\max b.l c.l < _;omega,by show _<=c.t - 1/\c.t - 1 < _;omega⟩ ⟨by show _<=max b.l c.l/\max b.l c.l < _;omega,by show _<=c.t/\c.t < _;omega⟩ (.inl ⟨rfl,.inl (by show c.t - 1+1=c.t;omega)⟩)
 ·exact go (max b.l c.l,b.t) (max b.l c.l,b.t - 1) ⟨by show _<=max b.l c.l/\max b.l c.l < _;omega,by show _<=b.t/\b.t < _;omega⟩ ⟨by show _<=max b.l c.l/\max b.l c.l < _;omega,by show _<=b.t - 1/\b.t - 1 < _;omega⟩ (.inl ⟨rfl,.inr (by show b.t - 1+1=b.t;omega)⟩)
def F2 {b c:Bk}(hb:b∈bs sz g)(hc:c∈bs sz g){s:Sp}(h:b.has s.1 s.2)(h':c.has s'.1 s'.2)(a:Ad s s')(e:g s.1 s.2=g s'.1 s'.2)(ne:b≠c):Rb b c:=by
 refine⟨by rw[<- kv hb h,<- kv hc h',e],?_⟩;have no:∀ x y,b.has x y->¬ c.has x y:=λx y k k'=>ne (rQ hb hc k k')
 have n1:=λk=>no s'.1 s'.2 k h'
 have n2:=no s.1 s.2 h
 clear no e
 obtain⟨⟨h1,h2⟩,h3,h4⟩:=h;obtain⟨⟨k1,k2⟩,k3,k4⟩:=h';rcases a with ⟨e,a | a⟩ | ⟨e,a | a⟩
 ·have p:¬ s'.2 < b.t+b.w:=λz=>n1 ⟨by rw[<- e];exact⟨h1,h2⟩,HK h3 (by omega),z⟩
  have q:¬ c.t<=s.2:=λz=>n2 ⟨by rw[e];exact⟨k1,k2⟩,z,by omega⟩
  clear n1 n2
  exact .inr ⟨.inl (by omega),by omega,by omega⟩
 ·have p:¬ b.t<=s'.2:=λz=>n1 ⟨by rw[<- e];exact⟨h1,h2⟩,z,by omega⟩
  have q:¬ s.2 < c.t+c.w:=λz=>n2 ⟨by rw[e];exact⟨k1,k2⟩,HK k3 (by omega),z⟩
  clear n1 n2
  exact .inr ⟨.inr (by omega),by omega,by omega⟩
 ·have p:¬ s'.1 < b.l+b.w:=λz=>n1 ⟨⟨HK h1 (by omega),z⟩,by rw[<- e];exact⟨h3,h4⟩⟩
  have q:¬ c.l<=s.1:=λz=>n2 ⟨⟨z,by omega⟩,by rw[e];exact⟨k3,k4⟩⟩
  clear n1 n2
  exact .inl ⟨.inl (by omega),by omega,by omega⟩
 ·have p:¬ b.l<=s'.1:=λz=>n1 ⟨⟨z,by omega⟩,by rw[<- e];exact⟨h3,h4⟩⟩
  have q:¬ s.1 < c.l+c.w:=λz=>n2 ⟨⟨HK k1 (by omega),z⟩,by rw[e];exact⟨k3,k4⟩⟩
  clear n1 n2
  exact .inl ⟨.inr (by omega),by omega,by omega⟩
end
noncomputable def cmT (b:Bk)(a:List Bk):Bool:=a.any λo=>decide (Rb b o)
noncomputable def Ov (b:Bk)(f:List (List Bk)):List (List Bk):=(f.filter λa=>!cmT b a)++[b::(f.filter (cmT b)).flatten]
noncomputable def fnd (l:List Bk):List (List Bk):=l.foldl (λf b=>Ov b f) []
def Sep (a c:List Bk):Prop:=∀ b∈a,∀ d∈c,¬ Rb b d
def Sep.symm {a c:List Bk}(h:Sep a c):Sep c a:=λb hb d hd r=>h d hd b hb r.symm
structure Arf (sz:Nat)(g:MO)(p:List Bk)(f:List (List Bk)):Prop where
 perm:f.flatten.Perm p
 ne:∀ a∈f,a≠[]
 cn:∀ a∈f,∀ b∈a,∀ c∈a,∀ s s':Sp,b.has s.1 s.2->c.has s'.1 s'.2->Cn (2^sz) g s s'
 sep:f.Pairwise Sep
theorem lN {α:Type}(p:List α->Bool):∀ f:List (List α),((f.filter λa=>!p a).flatten++(f.filter p).flatten).Perm f.flatten
 | []=>.refl _
 | a::f=>by
  have ih:=lN p f;cases h:p a with
  | true =>
   simp only[KD,h,IL,JN,Hu,Hx,HY];refine(List.perm_append_comm_assoc _ _ _).trans (L9 a ih)
  | false =>
   simp only[KD,h,Bool.not_false,Hx,JN,Hu,HY,Iu];exact L9 a ih
section
variable {sz:Nat}{g:MO}{p:List Bk}{f:List (List Bk)}{b:Bk}
def xx {a:List Bk}:cmT b a=true↔∃ o∈a,Rb b o:=by
 unfold cmT;simp only[JD,HH]
def Arf.add (h:Arf sz g p f)(hp:∀ c∈p,c∈bs sz g)(hb:b∈bs sz g):Arf sz g (p++[b]) (Ov b f):=by
 have mem:∀ a∈f,∀ c∈a,c∈bs sz g:=λa ha c hc=>hp c (h.perm.mem_iff.mp (Jc.mpr ⟨a,ha,hc⟩))
 refine⟨?_,λa ha=>?_,λa ha=>?_,?_⟩
 ·unfold Ov;rw[List.flatten_append,HY,List.flatten_nil,IH];refine(List.perm_middle.trans (List.Perm.cons b ((lN (cmT b) f).trans h.perm))).trans (List.perm_append_singleton b p).symm
 ·rcases HI.mp ha with ha | ha
  ·exact h.ne a (Ia.mp ha).1
  ·rw[HE]at ha;subst ha;simp
 ·rcases HI.mp ha with ha | ha
  ·exact h.cn a (Ia.mp ha).1
  ·rw[HE]at ha;subst ha;have one:∀ c∈b::(f.filter (cmT b)).flatten,c∈bs sz g/\∀ s s':Sp,b.has s.1 s.2->c.has s'.1 s'.2->Cn (2^sz) g s s':=λc hc=>by
    rcases Ho.mp hc with rfl | hc
    ·exact⟨hb,λs s' k k'=>BQ hb k k'⟩
    ·obtain⟨a,ha,hca⟩:=Jc.mp hc;obtain⟨ha,hm⟩:=Ia.mp ha;obtain⟨o,ho,r⟩:=xx.mp hm;have n:=iw (mem a ha o ho);refine⟨mem a ha c hca,λs s' k k'=>?_⟩;have ko:o.has (o.l,o.t).1 (o.l,o.t).2:=⟨by show _<=o.l/\o.l < _;omega,by show _<=o.t/\o.t < _;omega⟩;exact(r.cn hb (mem a ha o ho) k ko).trans (h.cn a ha o ho c hca _ _ ko k')
   intro c hc d hd s s' k k';have n:=iw hb;have kb:b.has (b.l,b.t).1 (b.l,b.t).2:=⟨by show _<=b.l/\b.l < _;omega,by show _<=b.t/\b.t < _;omega⟩;exact(((one c hc).2 _ s kb k).symm (i4 hb kb)).trans ((one d hd).2 _ s' kb k')
 ·unfold Ov;rw[Jz];refine⟨h.sep.filter _,Kp _ _,λa ha c hc=>?_⟩;rw[HE]at hc;subst hc;obtain⟨ha,hn⟩:=Ia.mp ha;intro u hu d hd r;rcases Ho.mp hd with rfl | hd
  ·have:cmT d a=true:=xx.mpr ⟨u,hu,r.symm⟩;rw[this]at hn;cases hn
  ·obtain⟨a',ha',hda⟩:=Jc.mp hd;obtain⟨ha',hm⟩:=Ia.mp ha';have ne:a≠a':=by rintro rfl;rw[hm]at hn;cases hn
   have:∀ {l:List (List Bk)},l.Pairwise Sep->a∈l->a'∈l->Sep a a':=by
    intro l hl h1 h2
    induction l with
    | nil=>cases h1
    | cons x l ih =>
     have hl:=Iy.mp hl;rcases Ho.mp h1 with e1 | e1<;>rcases Ho.mp h2 with e2 | e2
     ·exact(ne (e1.trans e2.symm)).elim
     ·exact e1 ▸ hl.1 _ e2
     ·exact e2 ▸ (hl.1 _ e1).symm
     ·exact ih hl.2 e1 e2
   exact this h.sep ha ha' u hu d hda r
theorem Arf.fold:∀ (l p:List Bk) (f:List (List Bk)),Arf sz g p f->(∀ c∈p++l,c∈bs sz g)->Arf sz g (p++l) (l.foldl (λf b=>Ov b f) f)
 | [],p,f,h,_=>by rw[IH];exact h
 | b::l,p,f,h,hp=>by
  have:=Arf.fold l (p++[b]) (Ov b f) (h.add (λc hc=>hp c (by simp[hc])) (hp b (by simp))) (by simpa using hp)
  simpa using this
def Ff:Arf sz g (bs sz g) (fnd (bs sz g)):=Arf.fold (bs sz g) [] [] ⟨.refl _,λ_ h=>(nomatch h),λ_ h=>(nomatch h),.nil⟩ (by simp)
def Bk.good (b:Bk)(n:Nat):good (n+1) b.d=true:=by
 unfold Bk.d;rw[FF.good];rfl
def Bk.eqd (a b:Bk):eqD a.d b.d=decide (a=b):=by
 cases a;cases b;simp only[Bk.d,eqD,NO,Bk.mk.injEq,KA];rw[IE]
 simp
 omega
theorem qy (n:Nat):∀ l:List Bk,MH (n+1) (l.map Bk.d)=true
 | []=>rfl
 | b::l=>by rw[Hq,MH,qy n l,Bk.good];rfl
def xy (m:Bk)(l:List Bk):NV m.d (.lst (l.map Bk.d))=.ok (.bl (decide (m∈l))):=by
 unfold NV;simp only;rw[if_pos ⟨m.good 59,qy 59 l⟩,Mn]
 congr 2
 rw[IE];simp only[JD,Function.comp,Bk.eqd,K6];constructor
 ·rintro ⟨x,h,rfl⟩;exact h
 ·intro h;exact⟨m,h,rfl⟩
noncomputable abbrev aD (a:List Bk):D:=.lst (a.map Bk.d)
def BR (hn:3<=n)(b:Bk){a:List Bk}(hl:a.length<=1000):pf n F.a6 [b.d,aD a]=.ok (.bl (cmT b a)):=by
 obtain⟨n,rfl,hn⟩:=ex1 (show 2+1<=n by omega);rw[tY,gw,bc (by simp;omega),R.bind_ok,aV Bk.d (λo=>D.bl (decide (Rb b o))) (λo _=>by
  rw[zz (by omega),show dIx b.d (.int 3)=.ok (.int b.v) from rfl,show dIx o.d (.int 3)=.ok (.int o.v) from rfl,R.bind_ok,R.bind_ok,iZ,kj,<- Iz];rfl),R.bind_ok,uw]
 rfl
theorem lO {n:Nat}(hn:3<=n)(b:Bk):∀ (f:List (List Bk)) (X Y:List D),(∀ a∈f,a.length<=1000)->X.length+f.flatten.length<=10000->Y.length+f.length<=10000 ->
  Nl (τ:=List D×List D) (λs x=>cc (pf n) b.d s.1 s.2 x) (f.map aD) (X,Y)=.nx (X++(f.filter (cmT b)).flatten.map Bk.d,Y++(f.filter λa=>!cmT b a).map aD)
 | [],X,Y,_,_,_=>by simp[Nl]
 | a::f,X,Y,ha,hx,hy=>by
  rw[HY,HJ]at hx;rw[HB]at hy;rw[Hq,aK];show lS (cc (pf n) b.d X Y (aD a)) _=_;rw[cc,BR hn b (ha a (.head _)),aP,aw];cases c:cmT b a with
  | true =>
   rw[if_pos rfl,cQ (by simp;omega),aw,aX,lO hn b f _ _ (λa h=>ha a (.tail _ h)) (by rw[HJ,Hl];omega) (by omega)]
   simp[KD,c]
  | false =>
   rw[if_neg (by decide),mH (by omega),aw,aX,lO hn b f _ _ (λa h=>ha a (.tail _ h)) (by omega) (by simp;omega)]
   simp[KD,c]
noncomputable abbrev arD (f:List (List Bk)):D:=.lst (f.map aD)
theorem dg {α:Type}:∀ {f:List (List α)} {a:List α},a∈f->a.length<=f.flatten.length
 | c::f,a,h=>by
  rw[HY,HJ];rcases Ho.mp h with rfl | h
  ·omega
  ·have:=dg h;omega
def DQ (hn:4<=n)(b:Bk){f:List (List Bk)}(hl:f.flatten.length<=64)(hf:f.length<=64):pf n F.aU [b.d,arD f]=.ok (arD (Ov b f)):=by
 obtain⟨n,rfl,hn⟩:=ex1 (show 3+1<=n by omega);rw[oX,dS,bc (by simp;omega),aw,lO (by omega) b f _ _ (λa h=>HK (dg h) (by omega)) (by rw[KH];omega) (by rw[Ip];omega),aX];have l2:=KI (λa=>!cmT b a) f;rw[Ij,Rn (by rw[Hl,KH];omega)];unfold Ov arD;rw[Ie];rfl
def uS (b:Bk)(f:List (List Bk)):(Ov b f).flatten.length=f.flatten.length+1/\(Ov b f).length<=f.length+1:=by
 have h:=(lN (cmT b) f).length_eq;have h2:=KI (λa=>!cmT b a) f;unfold Ov;simp only[List.flatten_append,HJ,HY,List.flatten_nil,IH,HB,Ip] at *;omega
theorem oD {n:Nat}(hn:4<=n):∀ (l:List Bk) (f:List (List Bk)),f.flatten.length+l.length<=64->f.length+l.length<=64->Nl (τ:=D) (λs x=>eM (pf n) s x) (l.map Bk.d) (arD f)=.nx (arD (l.foldl (λf b=>Ov b f) f))
 | [],f,_,_=>rfl
 | b::l,f,h1,h2=>by
  rw[HB]at h1 h2;have:=uS b f;rw[Hq,aK];show lS (eM (pf n) (arD f) b.d) _=_;rw[eM,DQ hn b (by omega) (by omega),aw,aX];exact oD hn l (Ov b f) (by omega) (by omega)
def BS (hn:1<=n)(a:List Bk){l:List Bk}(hl:l.length<=64):pf n F.a7 [aD a,aD l]=.ok (aD (l.filter λb=>decide (b∈a))):=by
 obtain⟨n,rfl,hn⟩:=ex1 (show 0+1<=n by omega);rw[tZ,gz,bc (by simp;omega),R.bind_ok,uM (λb=>decide (b∈a)) (λb _=>by rw[xy];rfl)];rfl
noncomputable def ars (l:List Bk):List (List Bk):=(fnd l).map λa=>l.filter λb=>decide (b∈a)
variable {t:Q Int}
def xz (h3:sz<=3):(fnd (bs sz g)).length<=64:=by
 have:∀ (l:List Bk) (f:List (List Bk)),(l.foldl (λf b=>Ov b f) f).length<=f.length+l.length:=by
  intro l
  induction l with
  | nil=>intro f;simp
  | cons b l ih=>intro f;have:=ih (Ov b f);have:=(uS b f).2;simp only[IS,HB];omega
 have:=this (bs sz g) [];have:=jD h3 g;unfold fnd
 simp at *
 omega
def Sh.areas (q:Sh sz g t)(hn:12<=n):pf n F.av [Ni sz t]=.ok (arD (ars (bs sz g))):=by
 obtain⟨n,rfl,hn⟩:=ex1 (show 11+1<=n by omega);have hl:=jD q.p.h3 g;have hf:=xz (g:=g) q.p.h3;rw[t0,jS,q.blocks (by omega),aw,bc (by simp;omega),aw];have e:=oD (n:=n) (by omega) (bs sz g) [] (by simp;omega) (by simp;omega);rw[show Nl (τ:=D) (λs x=>eM (pf n) s x) ((bs sz g).map Bk.d) (.lst [])=_ from e,aX];show MW (lB ((sq (arD (fnd (bs sz g)))).bind _) _)=_;rw[bc (by simp;omega),R.bind_ok,aV aD (λa=>aD ((bs sz g).filter λb=>decide (b∈a))) (λa _=>BS (by omega) a hl)];unfold ars;rw[show arD ((fnd (bs sz g)).map λa=>(bs sz g).filter λb=>decide (b∈a))=.lst ((fnd (bs sz g)).map λa=>aD ((bs sz g).filter λb=>decide (b∈a))) from by show D.lst (List.map aD (List.map _ _))=_;rw[HX];rfl];rfl
def oF:(bs sz g).Nodup:=by
 refine LA (λ{a b} ha _ h e=>?_) (eh sz (T g sz) 0 0);subst e;have:=b5 sz _ 0 0 ha;exact h a.l a.t ⟨by omega,by omega⟩ ⟨by omega,by omega⟩
theorem uT {k:List Bk->List Bk}:∀ {f:List (List Bk)},(∀ a∈f,(k a).Perm a)->(f.map k).flatten.Perm f.flatten
 | [],_=>.refl _
 | a::f,h=>by
  rw[Hq,HY,HY];exact(h a (.head _)).append (uT λb hb=>h b (.tail _ hb))
def iy:Arf sz g (bs sz g) (ars (bs sz g)):=by
 have F:=Ff (sz:=sz) (g:=g);have nd:(fnd (bs sz g)).flatten.Nodup:=F.perm.nodup_iff.mpr oF;have pm:∀ a∈fnd (bs sz g),((bs sz g).filter λb=>decide (b∈a)).Perm a:=λa ha=>by
  have na:a.Nodup:=(Jr.mp nd).1 a ha;refine(Jw (oF.filter _) na).mpr λb=>?_
  rw[Ia,HH];exact⟨λh=>h.2,λh=>⟨F.perm.mem_iff.mp (Jc.mpr ⟨a,ha,h⟩),h⟩⟩
 refine⟨(uT pm).trans F.perm,λa ha=>?_,λa ha=>?_,?_⟩
 ·obtain⟨c,hc,rfl⟩:=HF.mp ha;intro e;have:=(pm c hc).length_eq;rw[e]at this;exact F.ne c hc (Ii.mp this.symm)
 ·obtain⟨c,hc,rfl⟩:=HF.mp ha;intro b hb d hd;exact F.cn c hc b ((pm c hc).mem_iff.mp hb) d ((pm c hc).mem_iff.mp hd)
 ·unfold ars;rw[Jj];exact F.sep.imp_of_mem λ{a c} ha hc h b hb d hd=>h b ((pm a ha).mem_iff.mp hb) d ((pm c hc).mem_iff.mp hd)
theorem wq {α:Type}{R:α->α->Prop}(hs:∀ a b,R a b->R b a){a a':α}(ne:a≠a'):∀ {l:List α},l.Pairwise R->a∈l->a'∈l->R a a'
 | x::l,hl,h1,h2=>by
  have hl:=Iy.mp hl;rcases Ho.mp h1 with e1 | e1<;>rcases Ho.mp h2 with e2 | e2
  ·exact(ne (e1.trans e2.symm)).elim
  ·exact e1 ▸ hl.1 _ e2
  ·exact e2 ▸ hs _ _ (hl.1 _ e1)
  ·exact wq hs ne hl.2 e1 e2
def Oa (a:List Bk)(s:Sp):Prop:=∃ b∈a,b.has s.1 s.2
instance (a:List Bk)(s:Sp):Decidable (Oa a s):=by unfold Oa;infer_instance
def Arf.mem (F:Arf sz g (bs sz g) f){a:List Bk}(ha:a∈f){b:Bk}(hb:b∈a):b∈bs sz g:=F.perm.mem_iff.mp (Jc.mpr ⟨a,ha,hb⟩)
def Arf.find (F:Arf sz g (bs sz g) f){s:Sp}(i:In (2^sz) s):∃ a∈f,Oa a s:=by
 obtain⟨b,hb,h⟩:=we (g:=g) i.1 i.2;obtain⟨a,ha,hba⟩:=Jc.mp (F.perm.mem_iff.mpr hb);exact⟨a,ha,b,hba,h⟩
def Arf.hin (F:Arf sz g (bs sz g) f){a:List Bk}(ha:a∈f){s:Sp}(h:Oa a s):In (2^sz) s:=by
 obtain⟨b,hb,h⟩:=h;exact i4 (F.mem ha hb) h
def Arf.one (F:Arf sz g (bs sz g) f){a:List Bk}(ha:a∈f)(ha':a'∈f){b:Bk}(h:b∈a)(h':b∈a'):a=a':=by
 by_cases e:a=a'
 ·exact e
 ·have nd:f.flatten.Nodup:=F.perm.nodup_iff.mpr oF;exact((wq (λa b h x hx y hy q=>h y hy x hx q.symm) e (Jr.mp nd).2 ha ha') b h b h' rfl).elim
def Arf.same (F:Arf sz g (bs sz g) f){a:List Bk}(ha:a∈f)(ha':a'∈f){s:Sp}(h:Oa a s)(h':Oa a' s')(c:Cn (2^sz) g s s'):a=a':=by
 have i:=F.hin ha h
 induction c generalizing a' with
 | rfl =>
  obtain⟨b,hb,h⟩:=h;obtain⟨d,hd,h'⟩:=h';have:=rQ (F.mem ha hb) (F.mem ha' hd) h h';subst this;exact F.one ha ha' hb hd
 | step k x y z ih =>
  obtain⟨a1,ha1,h1⟩:=F.find (k.in i);have:=ih ha1 h1;subst this;obtain⟨b,hb,hs⟩:=h1;obtain⟨d,hd,hs'⟩:=h';by_cases e:b=d
  ·subst e;exact F.one ha1 ha' hb hd
  ·by_cases e':a=a'
   ·exact e'
   ·exact((wq (λ_ _=>Sep.symm) e' F.sep ha ha') b hb d hd (F2 (F.mem ha hb) (F.mem ha' hd) hs hs' x z e)).elim
def Arf.cn' (F:Arf sz g (bs sz g) f){a:List Bk}(ha:a∈f){s:Sp}(h:Oa a s)(h':Oa a s'):Cn (2^sz) g s s':=by
 obtain⟨b,hb,h⟩:=h;obtain⟨d,hd,h'⟩:=h';exact F.cn a ha b hb d hd s s' h h'
def Arf.iff (F:Arf sz g (bs sz g) f){a:List Bk}(ha:a∈f){s:Sp}(h:Oa a s)(s':Sp):Oa a s'↔Cn (2^sz) g s s':=by
 refine⟨λh'=>F.cn' ha h h',λc=>?_⟩;obtain⟨a',ha',h'⟩:=F.find (c.in (F.hin ha h));have:=F.same ha ha' h h' c;subst this;exact h'
end
end Lw
end
section
namespace Lw
open PySem FF PyProof.Rows
open PySem.W (KasT kas_sort kas_asc kas_desc kas_tail3 kas_descPart kas_count kas_place kas_bin kas_rev)
variable {k:Nat}
theorem eB {α β:Type}(lt:Nat->Nat->Bool)(f:α->KasT β):∀ t:KasT α,Nt lt (t.bind f)=Nt lt (f (Nt lt t))
 | .ret _=>rfl
 | .ask i j k=>eB lt f (k (lt i j))
structure Ord (n:Nat)(lt:Nat->Nat->Bool):Prop where
 tot:∀ i j,i < n->j < n->i≠j->lt i j=false->lt j i=true
 asy:∀ i j,i < n->j < n->lt i j=true->lt j i=false
 tra:∀ i j k,i < n->j < n->k < n->lt i j=true->lt j k=true->lt i k=true
section
variable {n:Nat}{lt:Nat->Nat->Bool}{p:Array Nat}
def So (lt:Nat->Nat->Bool)(p:Array Nat)(k:Nat):Prop:=∀ i j,i < j->j < k->lt (p.getD i 0) (p.getD j 0)=true
def _root_.FF.PN.size (h:PN n p):p.size=n:=by have:=h.length_eq;simpa using this
def _root_.FF.PN.inj (h:PN n p){i j:Nat}(hi:i < n)(hj:j < n)(e:p.getD i 0=p.getD j 0):i=j:=by
 have s:=h.size;have nd:p.toList.Nodup:=h.nodup_iff.mpr List.nodup_range;have hi':i < p.toList.length:=by simp;omega
 have hj':j < p.toList.length:=by simp;omega
 refine(KB (h₀:=hi') (h₁:=hj') nd).mp ?_;have a:∀ k (hk:k < p.toList.length),p.toList[k]=p.getD k 0:=λk hk=>by
  have:k < p.size:=by simpa using hk
  simp[Array.getD,this]
 rw[a,a,e]
def DR (O:Ord n lt)(h:PN n p)(hk:k < n)(s:So lt p k)(hl:0 < k->lt (p.getD (k - 1) 0) (p.getD k 0)=true):So lt p (k+1):=λi j hij hj=>by
 have hn:0 < n:=by omega
 by_cases e:j < k
 ·exact s i j hij e
 ·obtain rfl:j=k:=by omega
  have l:=hl (by omega);by_cases e2:i=j - 1
  ·subst e2;exact l
  ·exact O.tra _ _ _ (h.lt hn _) (h.lt hn _) (h.lt hn _) (s i (j - 1) (by omega) (by omega)) l
theorem rT (O:Ord n lt)(h:PN n p):∀ f m,1<=m->m+f<=n->So lt p m->m<=Nt lt (kas_asc p f m)/\Nt lt (kas_asc p f m)<=m+f/\So lt p (Nt lt (kas_asc p f m))/\(Nt lt (kas_asc p f m) < m+f->lt (p.getD (Nt lt (kas_asc p f m)) 0) (p.getD (Nt lt (kas_asc p f m) - 1) 0)=true)
 | 0,m,h1,h2,s=>⟨Hr _,Hr _,s,λh=>absurd h (by show ¬ m < m+0;omega)⟩
 | f+1,m,h1,h2,s=>by
  have hn:0 < n:=by omega
  have e:Nt lt (kas_asc p (f+1) m)=Nt lt (if lt (p.getD m 0) (p.getD (m - 1) 0)=true then .ret m else kas_asc p f (m+1)):=rfl;rw[e];by_cases c:lt (p.getD m 0) (p.getD (m - 1) 0)=true
  ·rw[if_pos c];exact⟨Hr _,by show m<=_;omega,s,λ_=>c⟩
  ·rw[if_neg c];have t:lt (p.getD (m - 1) 0) (p.getD m 0)=true:=O.tot _ _ (h.lt hn _) (h.lt hn _) (λe=>by have:=h.inj (by omega) (by omega) e;omega) (by simpa using c);have:=rT O h f (m+1) (by omega) (by omega) (DR O h (by omega) s λ_=>t);refine⟨by omega,by omega,this.2.2.1,λz=>this.2.2.2 (by omega)⟩
theorem uU (O:Ord n lt)(h:PN n p):∀ f m,1<=m->m+f<=n->(∀ k,1<=k->k < m->lt (p.getD k 0) (p.getD (k - 1) 0)=true)->∃ m',m<=m'/\m'<=m+f/\Nt lt (kas_desc f p m 0)=(p,m',0)/\∀ k,1<=k->k < m'->lt (p.getD k 0) (p.getD (k - 1) 0)=true
 | 0,m,h1,h2,s=>⟨m,Hr _,Hr _,rfl,s⟩
 | f+1,m,h1,h2,s=>by
  have hn:0 < n:=by omega
  by_cases c:lt (p.getD m 0) (p.getD (m - 1) 0)=true
  ·obtain⟨m',a,b,e,d⟩:=uU O h f (m+1) (by omega) (by omega) λk k1 k2=>by
    by_cases z:k < m
    ·exact s k k1 z
    ·obtain rfl:k=m:=by omega
     exact c
   refine⟨m',by omega,by omega,?_,d⟩;rw[<- e];show Nt lt (if lt (p.getD m 0) (p.getD (m - 1) 0)=true then (if 0 > 0 then _ else _) else _)=_;rw[if_pos c,if_neg (by omega)]
  ·have t:lt (p.getD (m - 1) 0) (p.getD m 0)=true:=O.tot _ _ (h.lt hn _) (h.lt hn _) (λe=>by have:=h.inj (by omega) (by omega) e;omega) (by simpa using c);refine⟨m,Hr _,by omega,?_,s⟩;show Nt lt (if lt (p.getD m 0) (p.getD (m - 1) 0)=true then (if 0 > 0 then _ else _) else .ask (p.getD (m - 1) 0) (p.getD m 0) λd=>if d=true then .ret (p,m,0) else _)=_;rw[if_neg c];show Nt lt (if lt (p.getD (m - 1) 0) (p.getD m 0)=true then .ret (p,m,0) else _)=_;rw[if_pos t];rfl
def BT (h:PN n p){m:Nat}(hm:m<=n)(hk:k < m):(kas_rev p 0 m).getD k 0=p.getD (m - 1 - k) 0:=by
 have s:=h.size;rw[J0,J0];unfold kas_rev;rw[getElem?_mirror_all (by omega),if_pos ⟨IA _,hk⟩,show 0+m - 1 - k=m - 1 - k by omega]
theorem uV (O:Ord n lt)(h:PN n p){m:Nat}(hm:m<=n)(d:∀ k,1<=k->k < m->lt (p.getD k 0) (p.getD (k - 1) 0)=true):∀ j i,i < j->j < m->lt (p.getD j 0) (p.getD i 0)=true
 | 0,i,hi,_=>by omega
 | j+1,i,hi,hj=>by
  have l:=d (j+1) (by omega) hj;rw[show j+1 - 1=j by omega]at l;by_cases e:i=j
  ·subst e;exact l
  ·exact O.tra _ _ _ (h.lt (by omega) _) (h.lt (by omega) _) (h.lt (by omega) _) l (uV O h hm d j i (by omega) (by omega))
def zF (O:Ord n lt)(h:PN n p)(hn:2<=n):1<=(Nt lt (kas_count n p)).1/\(Nt lt (kas_count n p)).1<=n/\So lt (Nt lt (kas_count n p)).2 (Nt lt (kas_count n p)).1:=by
 obtain⟨a1,a2,a3,a4⟩:=rT O h (n - 1) 1 (Hr 1) (by omega) (λi j h1 h2=>by omega);unfold kas_count;rw[eB];generalize Nt lt (kas_asc p (n - 1) 1)=r at *;by_cases c:(r==n)=true
 ·rw[if_pos c];exact⟨a1,by show r<=n;omega,a3⟩
 ·rw[if_neg c];have rn:r≠n:=λe=>c (by rw[e];exact Ls n)
  by_cases c1:r > 1
  ·rw[if_pos c1];have t:=a3 0 (r - 1) (by omega) (by omega);have e:Nt lt (KasT.ask (p.getD 0 0) (p.getD (r - 1) 0) λc=>if c=true then .ret (r,p) else kas_descPart r n (kas_rev p 0 r))=(r,p):=by
    show Nt lt (if lt (p.getD 0 0) (p.getD (r - 1) 0)=true then .ret (r,p) else _)=_;rw[if_pos t];rfl
   rw[e];exact⟨a1,by show r<=n;omega,a3⟩
  ·rw[if_neg c1];obtain rfl:r=1:=by omega
   obtain⟨m,m1,m2,em,d⟩:=uU O h (n - (1+1)) (1+1) (by omega) (by omega) λk k1 k2=>by
    obtain rfl:k=1:=by omega
    exact a4 (by omega)
   unfold kas_descPart;rw[eB,em];show 1<=(Nt lt (if (0:Nat) > 0 then _ else kas_tail3 m n p)).1/\_;rw[if_neg (by omega)];unfold kas_tail3;rw[eB];have h':PN n (kas_rev p 0 m):=h.rev _ _;have s':So lt (kas_rev p 0 m) m:=λi j hij hj=>by
    rw[BT h (by omega) (by omega),BT h (by omega) hj];exact uV O h (by omega) d _ _ (by omega) (by omega)
   obtain⟨b1,b2,b3,_⟩:=rT O h' (n - m) m (by omega) (by omega) s';exact⟨by show 1<=Nt lt (kas_asc (kas_rev p 0 m) (n - m) m);omega,by show Nt lt (kas_asc (kas_rev p 0 m) (n - m) m)<=n;omega,b3⟩
theorem lP (O:Ord n lt)(h:PN n p){k:Nat}(hk:k < n):∀ f l r,l<=r->r<=k->r - l<=f->(∀ i,i < l->lt (p.getD i 0) (p.getD k 0)=true)->(∀ i,r<=i->i < k->lt (p.getD k 0) (p.getD i 0)=true)->So lt p k ->
  ∃ x,Nt lt (kas_place p k f l r)=x/\x<=k/\(∀ i,i < x->lt (p.getD i 0) (p.getD k 0)=true)/\∀ i,x<=i->i < k->lt (p.getD k 0) (p.getD i 0)=true
 | 0,l,r,h1,h2,h3,a,b,s=>⟨l,rfl,by omega,a,λi hi=>b i (by omega)⟩
 | f+1,l,r,h1,h2,h3,a,b,s=>by
  have hn:0 < n:=by omega
  rw[kas_place];by_cases c:l≥r
  ·rw[if_pos c];exact⟨l,rfl,by omega,a,λi hi=>b i (by omega)⟩
  ·rw[if_neg c];have hm:(l+r)/2 < r/\l<=(l+r)/2:=by omega
   show ∃ x,Nt lt (if lt (p.getD k 0) (p.getD ((l+r)/2) 0)=true then _ else _)=x/\_;by_cases q:lt (p.getD k 0) (p.getD ((l+r)/2) 0)=true
   ·rw[if_pos q];refine lP O h hk f l _ hm.2 (by omega) (by omega) a (λi hi hik=>?_) s;by_cases e:i=(l+r)/2
    ·subst e;exact q
    ·exact O.tra _ _ _ (h.lt hn _) (h.lt hn _) (h.lt hn _) q (s _ _ (by omega) hik)
   ·rw[if_neg q];have t:lt (p.getD ((l+r)/2) 0) (p.getD k 0)=true:=O.tot _ _ (h.lt hn _) (h.lt hn _) (λe=>by have:=h.inj (by omega) (by omega) e;omega) (by simpa using q);refine lP O h hk f _ r (by omega) h2 (by omega) (λi hi=>?_) b s;by_cases e:i=(l+r)/2
    ·subst e;exact t
    ·exact O.tra _ _ _ (h.lt hn _) (h.lt hn _) (h.lt hn _) (s _ _ (show i < (l+r)/2 by omega) (by omega)) t
def BU (h:PN n p){l:Nat}(hk:k < n)(hl:l<=k)(i:Nat):(bubble p k (k - l)).getD i 0=if i=l then p.getD k 0 else if l < i/\i<=k then p.getD (i - 1) 0 else p.getD i 0:=by
 have s:=h.size;simp only[J0];rw[getElem?_bubble (by omega) _ (by omega),show k - (k - l)=l by omega];split
 ·rfl
 ·split<;>rfl
theorem xA (O:Ord n lt):∀ (f:Nat) (p:Array Nat) (k:Nat),PN n p->k+f<=n->So lt p k->So lt (Nt lt (kas_bin f p k)) (k+f)
 | 0,p,k,_,_,s=>s
 | f+1,p,k,h,hk,s=>by
  show So lt (Nt lt ((kas_place p k k 0 k).bind λl=>kas_bin f (bubble p k (k - l)) (k+1))) (k+(f+1));rw[eB];obtain⟨x,e,x1,x2,x3⟩:=lP O h (k:=k) (by omega) k 0 k (IA _) (Hr _) (by omega) (λi hi=>by omega) (λi h1 h2=>by omega) s;rw[e,show k+(f+1)=(k+1)+f by omega];refine xA O f _ _ (h.bub _ _) (by omega) λi j hij hj=>?_
  rw[BU h (by omega) x1,BU h (by omega) x1];by_cases ji:j=x
  ·rw[if_pos ji,if_neg (by omega),if_neg (by omega)];exact x2 i (by omega)
  ·rw[if_neg ji];by_cases ii:i=x
   ·rw[if_pos ii,if_pos (by omega)];exact x3 _ (by omega) (by omega)
   ·rw[if_neg ii];by_cases cj:x < j/\j<=k<;>by_cases ci:x < i/\i<=k
    ·rw[if_pos cj,if_pos ci];exact s _ _ (by omega) (by omega)
    ·rw[if_pos cj,if_neg ci];exact s _ _ (by omega) (by omega)
    ·omega
    ·rw[if_neg cj,if_neg ci];exact s _ _ hij (by omega)
def xB (O:Ord n lt):(OL n lt).Pairwise λi j=>lt i j=true:=by
 unfold OL;split
 ·rename_i h;have:n=0\/n=1:=by omega
  rcases this with rfl | rfl
  ·exact .nil
  ·exact Kp _ _
 ·rename_i h;have hn:0 < n:=by omega
  have pn:PN n (Nt lt (kas_sort n)):=KOk.run lt (qZ hn);have so:So lt (Nt lt (kas_sort n)) n:=by
   unfold kas_sort;rw[eB];have p0:PN n (List.toArray (List.range n)):=by unfold PN;simp
   have c0:=KOk.run lt (tG p0 hn n);obtain⟨c1,c2,c3⟩:=zF O p0 (by omega);generalize Nt lt (kas_count n (List.toArray (List.range n)))=r at *;split
   ·have:=xA O (n - max r.1 1) r.2 (max r.1 1) c0 (by omega) (by rw[Nat.max_eq_left c1];exact c3)
    rwa [show max r.1 1+(n - max r.1 1)=n by omega]at this
   ·show So lt r.2 n
    rwa [show r.1=n by omega]at c3
  have sz:=pn.size;rw[List.pairwise_iff_getElem];intro i j hi hj hij;have a:∀ k (hk:k < (Nt lt (kas_sort n)).toList.length),(Nt lt (kas_sort n)).toList[k]=(Nt lt (kas_sort n)).getD k 0:=λk hk=>by
   have:k < (Nt lt (kas_sort n)).size:=by simpa using hk
   simp[Array.getD,this]
  rw[a,a];exact so i j hij (by simp at hj;omega)
end
theorem wr {α:Type}{R:α->α->Prop}(as:∀ a b,R a b->¬ R b a):∀ {a b:List α},a.Perm b->a.Pairwise R->b.Pairwise R->a=b
 | [],b,p,_,_=>(List.nil_perm.mp p).symm
 | x::xs,[],p,_,_=>nomatch p.length_eq
 | x::xs,y::ys,p,ha,hb=>by
  have h1:=Iy.mp ha;have h2:=Iy.mp hb;have e:x=y:=by
   have m1:x∈y::ys:=p.subset Ih;have m2:y∈x::xs:=p.symm.subset Ih;rcases Ho.mp m1 with e | m1
   ·exact e
   ·rcases Ho.mp m2 with e | m2
    ·exact e.symm
    ·exact(as _ _ (h1.1 y m2) (h2.1 x m1)).elim
  subst e;rw[wr as (List.Perm.cons_inv p) h1.2 h2.2]
end Lw
end
section
namespace Lw
open PySem FF
section
variable {n sz N:Nat}{s s0:Sp}{g g':MO}{l fo l':List Sp}{E:List (List Sp)}
theorem xC:∀ l:List Sp,O7 (l.map sD)=some (l.map kS)
 | []=>rfl
 | s::l=>by
  rw[Hq,O7,xC l];rfl
def qA {α:Type}(l:List α)(d:α):(List.range l.length).map (λi=>l.getD i d)=l:=by
 apply List.ext_getElem (by simp);intro i h1 h2
 simp[List.getD,h2]
def ltS (a b:Sp):Prop:=Oo (kS a) (kS b)=true
def fA (a b:Sp):Oo (kS a) (kS b)=decide (a.1 < b.1\/a.1=b.1/\a.2 < b.2):=by
 unfold kS;simp only[Oo];by_cases c:(a.1:Int)=(b.1:Int)
 ·rw[if_pos c];by_cases d:(a.2:Int)=(b.2:Int)
  ·rw[if_pos d,Hv (by omega)]
  ·rw[if_neg d];apply IB.2;omega
 ·rw[if_neg c];apply IB.2;omega
def DS {a b:Sp}:ltS a b↔a.1 < b.1\/a.1=b.1/\a.2 < b.2:=by unfold ltS;rw[fA,K6]
def BV (a b:Sp)(h:ltS a b):¬ ltS b a:=by rw[DS] at *;omega
def mK {i:Nat}(h:i < l.length):(l.map kS).getD i []=kS (l.getD i (0,0)):=by simp[List.getD,h]
def Fg (nd:l.Nodup):Ord l.length λi j=>Oo ((l.map kS).getD i []) ((l.map kS).getD j []):=by
 have e:∀ i j,i < l.length->j < l.length->Oo ((l.map kS).getD i []) ((l.map kS).getD j [])=decide ((l.getD i (0,0)).1 < (l.getD j (0,0)).1\/(l.getD i (0,0)).1=(l.getD j (0,0)).1/\(l.getD i (0,0)).2 < (l.getD j (0,0)).2):=λi j hi hj=>by rw[mK hi,mK hj,fA]
 refine⟨λi j hi hj ne h=>?_,λi j hi hj h=>?_,λi j k hi hj hk h1 h2=>?_⟩
 ·rw[e i j hi hj]at h;rw[e j i hj hi];have:=of_decide_eq_false h;have n2:l.getD i (0,0)≠l.getD j (0,0):=λz=>ne ((KB (h₀:=hi) (h₁:=hj) nd).mp (by simpa [List.getD,hi,hj] using z))
  have:¬ ((l.getD i (0,0)).1=(l.getD j (0,0)).1/\(l.getD i (0,0)).2=(l.getD j (0,0)).2):=λz=>n2 (KY z.1 z.2)
  exact Hz (by omega)
 ·rw[e i j hi hj]at h;rw[e j i hj hi];have:=Ik h;exact Hv (by omega)
 ·rw[e i j hi hj]at h1;rw[e j k hj hk]at h2;rw[e i k hi hk];have:=Ik h1;have:=Ik h2;exact Hz (by omega)
def uW:(pT.map λi=>(kC cT).getD i []).Pairwise (λa b=>Oo a b=true)/\(pB.map λi=>(kC cB).getD i []).Pairwise (λa b=>Oo a b=true):=by decide +kernel
def rV (nd:l.Nodup)(h:l.length < 64\/l.map kS=kC cT\/l.map kS=kC cB):∃ l':List Sp,l'.Perm l/\l'.Pairwise ltS/\Ol [.lst (l.map sD)]=.ok (.lst (l'.map sD)):=by
 have hl:(l.map kS).length < 64\/l.map kS=kC cT\/l.map kS=kC cB:=h.imp (λh=>by rw[Hl];exact h) λh=>h
 have pm:=je (ks:=l.map kS);rw[Hl]at pm;have back:∀ P:List Nat,P.Perm (List.range l.length)->(P.map λi=>(l.map kS).getD i []).Pairwise (λa b=>Oo a b=true)->(P.map λi=>l.getD i (0,0)).Pairwise ltS:=λP hp h=>by
  rw[Jj]at h ⊢;refine h.imp_of_mem λ{i j} hi hj k=>?_
  rw[mK (HG.mp (hp.mem_iff.mp hi)),mK (HG.mp (hp.mem_iff.mp hj))]at k;exact k
 refine⟨(OF (l.map kS)).map λi=>l.getD i (0,0),?_,back _ pm ?_,?_⟩
 ·exact(pm.map λi=>l.getD i (0,0)).trans (by rw[qA])
 ·unfold OF;split
  ·rename_i e;rw[e];exact uW.1
  ·split
   ·rename_i e;rw[e];exact uW.2
   ·rw[Jj,Hl];exact xB (Fg nd)
 ·unfold Ol;simp only[xC];rw[if_pos hl,HX]
  congr 2
  refine IV λi hi=>?_
  have:i < l.length:=HG.mp (pm.mem_iff.mp hi)
  simp[List.getD,this]
noncomputable abbrev fl (a:List Bk):List Sp:=a.flatMap spots
def fH {a:List Bk}:s∈fl a↔Oa a s:=by
 unfold fl Oa;simp only[JG,cA]
section
variable {t:Q Int}{f:List (List Bk)}
def BW {l:List Bk}(h:l.Pairwise Apart):(fl l).Nodup:=by
 unfold fl;rw[List.Nodup,L7];exact⟨λb _=>bz b,h.imp λ{b c} k s hs s' hs' e=>by subst e;exact k s.1 s.2 (cA.mp hs) (cA.mp hs')⟩
def BY:(bs sz g).Pairwise Apart:=eh sz (T g sz) 0 0
def Fh:(fl (bs sz g)).Perm (Op (2^sz)):=by
 refine(Jw (BW BY) (bz _)).mpr λs=>?_
 rw[fH,show s∈spots _↔_ from bn (side:=2^sz)];refine⟨λ⟨b,hb,h⟩=>i4 hb h,λi=>?_⟩;obtain⟨b,hb,h⟩:=we (g:=g) i.1 i.2;exact⟨b,hb,h⟩
theorem xD:∀ f:List (List Bk),fl f.flatten=(f.map fl).flatten
 | []=>rfl
 | a::f=>by rw[HY,fl,KU,Hq,HY,<- xD f]
def Arf.all (F:Arf sz g (bs sz g) f):((f.map fl).flatten).Perm (Op (2^sz)):=by
 rw[<- xD];exact(F.perm.flatMap_right spots).trans Fh
def Arf.fnd1 (F:Arf sz g (bs sz g) f){a:List Bk}(ha:a∈f):(fl a).Nodup:=by
 have:((f.map fl).flatten).Nodup:=F.all.nodup_iff.mpr (bz _);exact(Jr.mp this).1 _ (HF.mpr ⟨a,ha,rfl⟩)
def e9 (n:Nat):(Op n).length=n*n:=bw _
def Arf.flen (F:Arf sz g (bs sz g) f)(h3:sz<=3){a:List Bk}(ha:a∈f):(fl a).length<=64:=by
 have h1:=dg (HF.mpr ⟨a,ha,rfl⟩:fl a∈f.map fl);have h2:=F.all.length_eq;rw[e9]at h2;have:2^sz*2^sz<=64:=IM (p8 h3) (p8 h3);omega
def Rw (h3:sz<=3)(hg:∀ s s':Sp,In (2^sz) s->In (2^sz) s'->g s.1 s.2=g s'.1 s'.2):bs sz g=[⟨0,0,2^sz,g 0 0⟩]:=by
 unfold bs;rw[bj sz g (λ_ _=>g 0 0) λx y hx hy=>hg (x,y) (0,0) ⟨hx,hy⟩ ⟨pos2 sz,pos2 sz⟩,mF,e8]
def Arf.sortable (F:Arf sz g (bs sz g) f)(h3:sz<=3){a:List Bk}(ha:a∈f):(fl a).length < 64\/(fl a).map kS=kC cT\/(fl a).map kS=kC cB:=by
 by_cases c:(fl a).length < 64
 ·exact .inl c
 right;left
 have l64:=F.flen h3 ha;have n64:2^sz*2^sz=64:=by
  have h1:=dg (HF.mpr ⟨a,ha,rfl⟩:fl a∈f.map fl);have h2:=F.all.length_eq;rw[e9]at h2;have:2^sz*2^sz<=64:=IM (p8 h3) (p8 h3);omega
 have s3:sz=3:=by rcases bT h3 with rfl | rfl | rfl | rfl<;>first | rfl | (exact absurd n64 (by decide))
 have al:∀ s,s∈Op (2^sz)->s∈fl a:=mJ (F.fnd1 ha) (λs hs=>by
  have:=F.hin ha (fH.mp hs);exact bn.mpr this) (by rw[e9];omega)
 have hg:∀ s s':Sp,In (2^sz) s->In (2^sz) s'->g s.1 s.2=g s'.1 s'.2:=λs s' i j=>(F.cn' ha (fH.mp (al s (bn.mpr i))) (fH.mp (al s' (bn.mpr j)))).val
 have b1:=Rw h3 hg;have ne:=F.ne a ha;have pm:=F.perm;rw[b1]at pm;obtain⟨b,r,rfl⟩:=Kd ne;have m:=F.mem ha (b:=b) (.head _);rw[b1,HE]at m;have l1:=dg ha;rw[pm.length_eq]at l1;have:r=[]:=Ii.mp (by simp only[HB,Ip]at l1;omega);subst this;rw[m,s3];rfl
def Sh.round (q:Sh sz g t)(hn:13<=n){a:List Bk}(ha:a∈ars (bs sz g))(h:Oa a s):pf n F.ag [Ni sz t,.int (s.1:Int),.int (s.2:Int)]=.ok (aD a):=by
 obtain⟨n,rfl,hn⟩:=ex1 (show 12+1<=n by omega);have Fa:=iy (sz:=sz) (g:=g);have i:=Fa.hin ha h;have h2:=q.p.spot_any (n:=n) (by omega) s.1 s.2;rw[DE i.1 i.2,if_pos rfl]at h2;have hl:(ars (bs sz g)).length<=64:=by unfold ars;rw[Hl];exact xz q.p.h3
 have isin:∀ c∈ars (bs sz g),pf n F.bk [.int (s.1:Int),.int (s.2:Int),aD c]=.ok (.bl (decide (Oa c s))):=λc hc=>by
  obtain⟨n,rfl,hn⟩:=ex1 (show 11+1<=n by omega);have lc:c.length<=64:=by have:=dg hc;have:=Fa.perm.length_eq;have:=jD q.p.h3 g;omega
  rw[Bh,mE,bc (by simp;omega),R.bind_ok,aV Bk.d (λb=>D.bl (decide (b.has s.1 s.2))) (λb _=>wf (by omega) b s.1 s.2),R.bind_ok,uw];show R.ok (D.bl _)=_
  congr 2
  rw[IE];simp only[JD,HH];rfl
 rw[dD,br,q.p.check (by omega),aw,h2,aw,q.areas (by omega),R.bind_ok,bc (by simp;omega),R.bind_ok,iY aD aD (λc=>decide (Oa c s)) (λc hc=>⟨by rw[isin c hc];rfl,λ_=>rfl⟩),R.bind_ok];obtain⟨r,hr⟩:=ku (p:=λc=>decide (Oa c s)) ha (Hz h) (λc hc hp=>Fa.same hc ha (Ik hp) h .rfl);rw[hr,Hq,show dIx (.lst (aD a::r.map aD)) (.int 0)=.ok (aD a) from ixL (i:=0) rfl];rfl
def Arf.bkok (q:Sh sz g t)(F:Arf sz g (bs sz g) f){a:List Bk}(ha:a∈f){b:Bk}(hb:b∈a):BkOk (2^sz) b:=(QA q.p.h3 q.wo).bkok (F.mem ha hb)
def Sh.areaat (q:Sh sz g t)(hn:14<=n)(i:In (2^sz) s):∃ l:List Sp,pf n F.a3 [Ni sz t,.int (s.1:Int),.int (s.2:Int)]=.ok (.lst (l.map sD))/\l.length<=64/\l.Pairwise ltS/\∀ s',s'∈l↔Cn (2^sz) g s s':=by
 obtain⟨n,rfl,hn⟩:=ex1 (show 13+1<=n by omega);have Fa:=iy (sz:=sz) (g:=g);obtain⟨a,ha,h⟩:=Fa.find i;have lc:a.length<=64:=by have:=dg ha;have:=Fa.perm.length_eq;have:=jD q.p.h3 g;omega
 obtain⟨l,pm,so,e⟩:=rV (Fa.fnd1 ha) (Fa.sortable q.p.h3 ha);refine⟨l,?_,by rw[pm.length_eq];exact Fa.flen q.p.h3 ha,so,λs'=>by rw[pm.mem_iff,fH];exact Fa.iff ha h s'⟩;rw[jh,d8,q.round (by omega) ha h,R.bind_ok,bc (by simp;omega),aw,kq Bk.d (λb=>(spots b).map sD) 64 a [] (λb hb L0 hacc=>by
  have o:=Arf.bkok q Fa ha hb;have l64:(spots b).length<=64:=by
   rw[bw];rcases o.w with e | e | e | e<;>rw[e]<;>decide
  rw[jT,oy (by omega) o (p8 q.p.h3),R.bind_ok,cQ (by simp;omega)];rfl) (λb hb=>by
  have o:=Arf.bkok q Fa ha hb;rw[Hl,bw];rcases o.w with e | e | e | e<;>rw[e]<;>decide) (by simp;omega),aX,Ij,<- Ka,e]
 rfl
noncomputable def Bk.rc (b:Bk)(v:Int):Bk:=⟨b.l,b.t,b.w,v⟩
def F3 (b:Bk):P6 b.d:=by
 show th 5 3 b.d=true;unfold Bk.d;rw[bC];exact⟨by simp,λd hd=>by simp at hd;rcases hd with rfl | rfl | rfl | rfl<;>rfl⟩
def Sh.poured (q:Sh sz g t)(hn:14<=n)(i:In (2^sz) s){v:Int}(hv:W9 v):∃ g',pf n F.a0 [Ni sz t,.int (s.1:Int),.int (s.2:Int),.int v]=.ok (Ni sz (T g' sz))/\Sh sz g' (T g' sz) /\
  ∀ s',In (2^sz) s'->(Cn (2^sz) g s s'->g' s'.1 s'.2=v)/\(¬ Cn (2^sz) g s s'->g' s'.1 s'.2=g s'.1 s'.2):=by
 obtain⟨n,rfl,hn⟩:=ex1 (show 13+1<=n by omega);have Fa:=iy (sz:=sz) (g:=g);obtain⟨a,ha,h⟩:=Fa.find i;have hL:=jD q.p.h3 g;have lc:a.length<=64:=by have:=dg ha;have:=Fa.perm.length_eq;omega
 obtain⟨g',hg'⟩:∃ g':MO,g'=λx y=>if (x,y)∈fl a then v else g x y:=⟨_,rfl⟩
 have hgv:∀ s',In (2^sz) s'->(Cn (2^sz) g s s'->g' s'.1 s'.2=v)/\(¬ Cn (2^sz) g s s'->g' s'.1 s'.2=g s'.1 s'.2):=λs' _=>by
  subst hg';have e:=(fH (a:=a) (s:=s')).trans (Fa.iff ha h s');exact⟨λc=>if_pos (e.mpr c),λc=>if_neg λz=>c (e.mp z)⟩
 have wo:Wo g' sz:=λx y hx hy=>by
  by_cases c:Cn (2^sz) g s (x,y)
  ·rw[(hgv (x,y) ⟨hx,hy⟩).1 c];exact hv
  ·rw[(hgv (x,y) ⟨hx,hy⟩).2 c];exact q.wo x y hx hy
 refine⟨g',?_,RD q.p.h3 wo,hgv⟩;have ma:∀ b∈a,b∈bs sz g:=λb hb=>Fa.mem ha hb
 have pa:a.Pairwise Apart:=by
  have h1:(ars (bs sz g)).flatten.Pairwise Apart:=(Fa.perm.pairwise_iff λ{a b} r=>Apart.symm r).mpr BY;exact(Jr.mp h1).1 a ha
 obtain⟨g2,e1,e2⟩:=BP (sz:=sz) (g:=g') (l:=((bs sz g).filter λb=>!decide (b∈a))++a.map λb=>b.rc v) (λb hb=>by
  rcases HI.mp hb with hb | hb
  ·exact(QA q.p.h3 q.wo).bkok (Ia.mp hb).1
  ·obtain⟨c,hc,rfl⟩:=HF.mp hb;have o:=(QA q.p.h3 q.wo).bkok (ma c hc);exact⟨o.w,o.l,o.t,hv,o.r,o.d⟩) (by
  rw[Jz];refine⟨BY.filter _,?_,λb hb c hc=>?_⟩
  ·rw[Jj];exact pa.imp λ{b c} r=>r
  ·obtain⟨d,hd,rfl⟩:=HF.mp hc;obtain⟨hb,hn⟩:=Ia.mp hb;intro x y h1 h2;have:=rQ hb (ma d hd) h1 h2;subst this;rw[Hz hd]at hn;cases hn) (λx y hx hy=>by
  obtain⟨b,hb,hh⟩:=we (g:=g) hx hy;by_cases c:b∈a
  ·exact⟨b.rc v,Io _ (HF.mpr ⟨b,c,rfl⟩),hh⟩
  ·exact⟨b,Ix _ (Ia.mpr ⟨hb,by rw[Hv c];rfl⟩),hh⟩) (λb hb x y hh=>by
  subst hg';rcases HI.mp hb with hb | hb
  ·obtain⟨hb,hn⟩:=Ia.mp hb;have:(x,y)∉fl a:=λz=>by
    obtain⟨c,hc,hh'⟩:=fH.mp z;have:=rQ hb (ma c hc) hh hh';subst this;rw[Hz hc]at hn;cases hn
   show (if (x,y)∈fl a then v else g x y)=_;rw[if_neg this,kv hb hh]
  ·obtain⟨c,hc,rfl⟩:=HF.mp hb;exact if_pos (fH.mpr (show Oa a (x,y) from ⟨c,hc,hh⟩)))
 have lf:=KI (λb=>!decide (b∈a)) (bs sz g);have ck:pf n F.aw [.int v]=.ok .non:=by rw[on (by omega) rfl,in9 hv];rfl
 have wt:Nj (λblock1=>pf n F.aW [block1,.int v]) (a.map Bk.d)=.ok (.lst (a.map λb=>(b.rc v).d)):=aV Bk.d _ λb _=>by
  obtain⟨n,rfl,hn⟩:=ex1 (show 12+1<=n by omega);rw[oZ,dW];rfl
 rw[iW,eN,q.round (by omega) ha h,aw,ck,aw,q.blocks (by omega),R.bind_ok,bc (by simp;omega),R.bind_ok,uM (λb=>!decide (b∈a)) (λb _=>by unfold NM;rw[xy];rfl),aw,show dIx (Ni sz t) (.int 0)=.ok (.int (sz:Int)) from rfl,R.bind_ok,bc (by simp;omega),R.bind_ok,wt,R.bind_ok,Rn (by simp only[Hl];omega),R.bind_ok];have e3:((bs sz g).filter λb=>!decide (b∈a)).map Bk.d++(a.map λb=>(b.rc v).d)=(((bs sz g).filter λb=>!decide (b∈a))++a.map λb=>b.rc v).map Bk.d:=by rw[Ie,HX];rfl
 rw[e3,Fe q.p.h3 (λd hd=>by obtain⟨b,_,rfl⟩:=HF.mp hd;exact F3 b) (by simp only[Hl,HJ];omega) (by omega),e1];show R.ok (Ni sz (T g2 sz))=_;rw[bj sz g2 g' e2]
def Sh.many (q:Sh sz g t)(hn:13<=n):pf n F.ad [Ni sz t]=.ok (.int ((ars (bs sz g)).length:Nat)):=by
 obtain⟨n,rfl,hn⟩:=ex1 (show 12+1<=n by omega);rw[fq,bu,q.areas (by omega),R.bind_ok,eV,Hl];rfl
noncomputable abbrev szs (f:List (List Bk)):List Nat:=f.map λa=>(fl a).length
theorem BZ:∀ a:List Bk,Od (a.map λb=>((b.w:Int)*(b.w:Int)))=((fl a).length:Int)
 | []=>rfl
 | b::a=>by
  rw[Hq,lL,BZ a,show fl (b::a)=spots b++fl a from JV,HJ,bw]
  push_cast
  rfl
def Sh.sizes (q:Sh sz g t)(hn:13<=n)(hl:(ars (bs sz g)).length < 64):pf n F.ak [Ni sz t]=.ok (.lst ((Og ((szs (ars (bs sz g))).map λ(i:Nat)=>(i:Int))).map .int)):=by
 obtain⟨n,rfl,hn⟩:=ex1 (show 12+1<=n by omega);have Fa:=iy (sz:=sz) (g:=g);rw[i8,cJ,q.areas (by omega),R.bind_ok,bc (by simp;omega),R.bind_ok,aV aD (λa=>D.int ((fl a).length:Int)) (λa ha=>by
  obtain⟨n,rfl,hn⟩:=ex1 (show 11+1<=n by omega);have lc:a.length<=64:=by have:=dg ha;have:=Fa.perm.length_eq;have:=jD q.p.h3 g;omega
  rw[oY,dU,bc (by simp;omega),R.bind_ok,aV Bk.d (λb=>D.int ((b.w:Int)*(b.w:Int))) (λb hb=>by
   have:=iw (Fa.mem ha hb);have:=p8 q.p.h3;rw[show dIx b.d (.int 2)=.ok (.int (b.w:Int)) from rfl,R.bind_ok,R.bind_ok,bF (.inr (by omega))]),R.bind_ok]
  have e:a.map (λb=>D.int ((b.w:Int)*(b.w:Int)))=(a.map λb=>((b.w:Int)*(b.w:Int))).map .int:=by rw[HX];rfl
  rw[e,lK,BZ];rfl),R.bind_ok]
 have e:(ars (bs sz g)).map (λa=>D.int ((fl a).length:Int))=(((szs (ars (bs sz g))).map λ(i:Nat)=>(i:Int))).map .int:=by rw[HX,HX];rfl
 rw[e];show MW (lB (Om [.lst ((((szs (ars (bs sz g))).map λ(i:Nat)=>(i:Int))).map .int)]) .rt)=_;unfold Om;simp only[eZ];rw[if_pos (by simp;omega)];rfl
end
section
variable {f f':List (List Bk)}
open Classical in
def Arf.sum (F:Arf sz g (bs sz g) f):(szs f).sum=2^sz*2^sz:=by
 have:=F.all.length_eq;rw[e9,List.length_flatten,HX]at this;exact this
def zG {a b:List Int}(h:a.Perm b):Og a=Og b:=jc ((eJ a).trans (h.trans (eJ b).symm)) (jN a) (jN b)
end
noncomputable def hrow (g:MO)(N y:Nat):Nat:=(List.range (N - 1)).countP λi=>decide (¬ g (1+i) y=g i y)
noncomputable def hor (g:MO)(N:Nat):Nat:=((List.range N).map λy=>hrow g N y).sum
def SG (l:List Nat):Od (l.map λ_=>(1:Int))=(l.length:Int):=by
 induction l with
 | nil=>rfl
 | cons a l ih=>rw[Hq,lL,ih,HB];push_cast;omega
def Fi (hn:1<=n)(g:MO)(h1:1<=N)(h8:N<=8)(y:Nat):pf n F.aY [Nz .int g N y]=.ok (.int (hrow g N y:Int)):=by
 obtain⟨n,rfl,hn⟩:=ex1 (show 0+1<=n by omega);have e1:Nq [Nz .int g N y]=.ok (.int (N:Int)):=by unfold Nz;rw[bS];simp
 have e2:OC [.int 1,.int (N:Int)]=.ok ((List.range (N - 1)).map λi=>D.int (((1+i:Nat)):Int)):=uF (a:=1) h1 (by omega);rw[rj,fk,e1,R.bind_ok,e2,R.bind_ok,iY (λi:Nat=>D.int (((1+i:Nat)):Int)) (λ_=>D.int 1) (λi=>decide (¬ g (1+i) y=g i y)) (λi hi=>⟨by
  have hi:=HG.mp hi;have e3:Ob (.int ((1+i:Nat):Int)) (.int 1)=.ok (.int (i:Int)):=by rw[dz,show ((1+i:Nat):Int) - 1=(i:Int) by omega]
  rw[df (x:=1+i) (by omega),R.bind_ok,e3,R.bind_ok,df (x:=i) (by omega),R.bind_ok,fu,aP]
  congr 1
  rw[IE]
  simp,λ_=>rfl⟩),R.bind_ok]
 have e:((List.range (N - 1)).filter λi=>decide (¬ g (1+i) y=g i y)).map (λ_=>D.int 1)=(((List.range (N - 1)).filter λi=>decide (¬ g (1+i) y=g i y)).map λ_=>(1:Int)).map .int:=by rw[HX];rfl
 rw[e,lK,SG,<- List.countP_eq_length_filter];rfl
theorem uX:∀ l:List Nat,Od (l.map λ(i:Nat)=>(i:Int))=((l.sum:Nat):Int)
 | []=>rfl
 | a::l=>by rw[Hq,lL,uX l,Mf];push_cast;rfl
section
variable {t:Q Int}
def Sh.unl (q:Sh sz g t)(hn:11<=n):pf n F.ai [Ni sz t]=.ok (.int (hor g (2^sz):Int)):=by
 obtain⟨n,rfl,hn⟩:=ex1 (show 10+1<=n by omega);have h8:=p8 q.p.h3;have h1:=pos2 sz;have e1:sq (MX .int g (2^sz) (2^sz))=.ok ((List.range (2^sz)).map λy=>Nz .int g (2^sz) y):=by
  unfold MX sq O0;rw[R.bind_ok,if_pos (by simp;omega)]
 rw[fT,bE,q.rows (by omega),R.bind_ok,e1,R.bind_ok,aV (λy=>Nz .int g (2^sz) y) (λy=>D.int (hrow g (2^sz) y:Int)) (λy _=>Fi (by omega) g h1 h8 y),R.bind_ok];have e:(List.range (2^sz)).map (λy=>D.int (hrow g (2^sz) y:Int))=(((List.range (2^sz)).map λy=>hrow g (2^sz) y).map λ(i:Nat)=>(i:Int)).map .int:=by rw[HX,HX];rfl
 rw[e,lK,uX];rfl
noncomputable def bor (g:MO)(N:Nat):Nat:=hor g N+hor (N3 N g) N
def Sh.border (q:Sh sz g t)(hn:13<=n):pf n F.aL [Ni sz t]=.ok (.int (bor g (2^sz):Int)):=by
 obtain⟨n,rfl,hn⟩:=ex1 (show 12+1<=n by omega);have sw:=q.swapped (n:=n) (by omega);rw[p5,g6,q.unl (by omega),R.bind_ok,sw,R.bind_ok,(q.mv BK).unl (by omega),R.bind_ok,aJ];show R.ok (D.int _)=_;unfold bor
 push_cast
 rfl
def xE (s:Sp)(n:Nat):good (n+1) (sD s)=true:=by unfold sD;rw[FF.good];rfl
def D5 (a b:Sp):eqD (sD a) (sD b)=decide (a=b):=by
 obtain⟨a1,a2⟩:=a;obtain⟨b1,b2⟩:=b;simp only[sD,eqD,NO,Prod.mk.injEq,KA];rw[IE]
 simp
 omega
theorem iz (n:Nat):∀ l:List Sp,MH (n+1) (l.map sD)=true
 | []=>rfl
 | s::l=>by rw[Hq,MH,iz n l,xE];rfl
def xF (s:Sp)(l:List Sp):NV (sD s) (.lst (l.map sD))=.ok (.bl (decide (s∈l))):=by
 unfold NV;simp only;rw[if_pos ⟨xE s 59,iz 59 l⟩,Mn]
 congr 2
 rw[IE];simp only[JD,Function.comp,D5,K6];constructor
 ·rintro ⟨x,h,rfl⟩;exact h
 ·intro h;exact⟨s,h,rfl⟩
def B0 (s:Sp)(l:List Sp):NM (sD s) (.lst (l.map sD))=.ok (.bl (!decide (s∈l))):=by unfold NM;rw[xF];rfl
variable {w:Int}
noncomputable def NN (N:Nat)(g:MO)(w:Int)(fo:List Sp)(a b:Int):List Sp :=
 if 0<=a/\a < (N:Int)/\0<=b/\b < (N:Int)/\(a.toNat,b.toNat)∉fo/\g a.toNat b.toNat=w then fo++[(a.toNat,b.toNat)] else fo
noncomputable def OW (N:Nat)(g:MO)(w:Int)(fo:List Sp)(s:Sp):List Sp :=
 NN N g w (NN N g w (NN N g w (NN N g w fo (s.1+1) s.2) (s.1 - 1) s.2) s.1 (s.2+1)) s.1 (s.2 - 1)
noncomputable def bfs (N:Nat)(g:MO)(w:Int):Nat->Nat->List Sp->List Sp
 | 0,_,fo=>fo
 | f+1,i,fo=>match fo[i]? with
  | none=>fo
  | some s=>bfs N g w f (i+1) (OW N g w fo s)
def rW (fo:List Sp)(a b:Int):(NN N g w fo a b).length<=fo.length+1:=by
 unfold NN;split<;>simp
def rX (x y:Nat)(hx:x < N)(hy:y < N)(hw:g x y=w)(s:Sp)(fo:List Sp)(hl:fo.length<=1000)(dx dy:Int) :
  g9 (pf n) (MX .int g N N) (.int (x:Int)) (.int (y:Int)) (sD s) (fo.map sD) (.tup [.int dx,.int dy])=.nx ((NN N g w fo (s.1+dx) (s.2+dy)).map sD):=by
 have el:Nq [MX .int g N N]=.ok (.int (N:Int)):=by simp[MX]
 rw[g9,show dIx (sD s) (.int 0)=.ok (.int (s.1:Int)) from rfl,show dIx (sD s) (.int 1)=.ok (.int (s.2:Int)) from rfl,show dIx (.tup [.int dx,.int dy]) (.int 0)=.ok (.int dx) from rfl,show dIx (.tup [.int dx,.int dy]) (.int 1)=.ok (.int dy) from rfl];simp only[R.bind_ok,aJ,aw];generalize (s.1:Int)+dx=a;generalize (s.2:Int)+dy=b;rw[show dIx (.tup [.int a,.int b]) (.int 0)=.ok (.int a) from rfl,show dIx (.tup [.int a,.int b]) (.int 1)=.ok (.int b) from rfl,el];simp only[R.bind_ok,ki,aP];unfold NN;by_cases ca:0<=a/\a < (N:Int)
 ·by_cases cb:0<=b/\b < (N:Int)
  ·obtain⟨a,rfl⟩:∃ k:Nat,a=(k:Int):=⟨a.toNat,by omega⟩;obtain⟨b,rfl⟩:∃ k:Nat,b=(k:Int):=⟨b.toNat,by omega⟩;have e:=B0 (a,b) fo;rw[show sD (a,b)=.tup [.int (a:Int),.int (b:Int)] from rfl]at e;rw[Hz ca.1,Hz ca.2,Hz cb.1,Hz cb.2,e];simp only[aP,Bool.and_self,mG,Mg,aw,Jx];by_cases c:(a,b)∈fo
   ·rw[Hz c,if_neg (by decide),if_neg λz=>z.2.2.2.2.1 c]
   ·rw[Hv c,if_pos (by decide),eX (by omega),R.bind_ok,df (by omega),R.bind_ok,eX hy,R.bind_ok,df hx,R.bind_ok,iZ,aP,aw,hw];by_cases d:g a b=w
    ·rw[Hz d,if_pos rfl,if_pos ⟨ca.1,ca.2,cb.1,cb.2,c,d⟩,mH (by rw[Hl];omega),aw,Ie];rfl
    ·rw[Hv d,if_neg (by decide),if_neg λz=>d z.2.2.2.2.2]
  ·rw[if_neg λz=>cb ⟨z.2.2.1,z.2.2.2.1⟩,Hz ca.1,Hz ca.2,show (decide (0<=b)&&decide (b < (N:Int)))=false by rw[<- Iz];exact Hv cb];rfl
 ·rw[if_neg λz=>ca ⟨z.1,z.2.1⟩,show (decide (0<=a)&&decide (a < (N:Int)))=false by rw[<- Iz];exact Hv ca];rfl
def DT (x y:Nat)(hx:x < N)(hy:y < N)(hw:g x y=w)(hl:fo.length<=900){i:Nat}(hs:fo[i]?=some s) :
  dv (pf n) (MX .int g N N) (.int (x:Int)) (.int (y:Int)) (.int (i:Int)) (fo.map sD)=.nx (.int ((i+1:Nat):Int),(OW N g w fo s).map sD):=by
 have t1:=rW (N:=N) (g:=g) (w:=w) fo (s.1+1) s.2;have t2:=rW (N:=N) (g:=g) (w:=w) (NN N g w fo (s.1+1) s.2) (s.1 - 1) s.2;have t3:=rW (N:=N) (g:=g) (w:=w) (NN N g w (NN N g w fo (s.1+1) s.2) (s.1 - 1) s.2) s.1 (s.2+1);have e1:=rX (n:=n) x y hx hy hw s fo (by omega) 1 0;have e2:=rX (n:=n) x y hx hy hw s (NN N g w fo (s.1+1) s.2) (by omega) (-1) 0;have e3:=rX (n:=n) x y hx hy hw s (NN N g w (NN N g w fo (s.1+1) s.2) (s.1 - 1) s.2) (by omega) 0 1;have e4:=rX (n:=n) x y hx hy hw s (NN N g w (NN N g w (NN N g w fo (s.1+1) s.2) (s.1 - 1) s.2) s.1 (s.2+1)) (by omega) 0 (-1);rw[Int.add_zero]at e1 e2 e3 e4;rw[dv,DG (i:=i) (x:=sD s) (by rw[Ir,hs];rfl),aw,aJ,aw,sq4,aw,aK,e1,aX,aK];rw[show (s.1:Int) + -1=(s.1:Int) - 1 by omega]at e2;rw[show (s.2:Int) + -1=(s.2:Int) - 1 by omega]at e4;rw[e2,aX,aK,e3,aX,aK,e4,aX];show L.nx _=L.nx _;rw[show (i:Int)+1=((i+1:Nat):Int) by omega];rfl
structure Bf (N:Nat)(g:MO)(s0:Sp)(fo:List Sp):Prop where
 nd:fo.Nodup
 cn:∀ s∈fo,In N s/\Cn N g s0 s
 st:s0∈fo
def rY (h:Bf N g s0 fo)(hs:s∈fo){a b:Int}(had:0<=a->0<=b->Ad s (a.toNat,b.toNat)):Bf N g s0 (NN N g (g s0.1 s0.2) fo a b)/\(∀ u∈fo,u∈NN N g (g s0.1 s0.2) fo a b)/\(∀ u:Sp,(u.1:Int)=a->(u.2:Int)=b->In N u->g u.1 u.2=g s0.1 s0.2->u∈NN N g (g s0.1 s0.2) fo a b)/\∃ r,NN N g (g s0.1 s0.2) fo a b=fo++r:=by
 unfold NN;split
 ·rename_i c;have iu:In N (a.toNat,b.toNat):=⟨by show a.toNat < N;omega,by show b.toNat < N;omega⟩;have cu:Cn N g s0 (a.toNat,b.toNat):=(h.cn s hs).2.step (had c.1 c.2.2.1) iu (by rw[<- (h.cn s hs).2.val];exact c.2.2.2.2.2.symm);refine⟨⟨?_,λu hu=>?_,Ix _ h.st⟩,λu hu=>Ix _ hu,λu h1 h2 _ _=>?_,_,rfl⟩
  ·rw[Lh];exact⟨h.nd,by simp,λx hx y hy=>by rw[HE]at hy;subst hy;rintro rfl;exact c.2.2.2.2.1 hx⟩
  ·rcases HI.mp hu with hu | hu
   ·exact h.cn u hu
   ·rw[HE]at hu;subst hu;exact⟨iu,cu⟩
  ·refine Io _ (HE.mpr (KY ?_ ?_))
   ·show u.1=a.toNat;omega
   ·show u.2=b.toNat;omega
 ·rename_i c;refine⟨h,λu hu=>hu,λu h1 h2 i e=>?_,[],by simp⟩;by_cases z:u∈fo
  ·exact z
  ·refine(c ⟨by omega,by have:=i.1;omega,by omega,by have:=i.2;omega,?_,?_⟩).elim
   ·rw[show a.toNat=u.1 by omega,show b.toNat=u.2 by omega];exact z
   ·rw[show a.toNat=u.1 by omega,show b.toNat=u.2 by omega];exact e
def DU (h:Bf N g s0 fo)(hs:s∈fo):Bf N g s0 (OW N g (g s0.1 s0.2) fo s)/\(∃ r,OW N g (g s0.1 s0.2) fo s=fo++r)/\∀ u,Ad s u->In N u->g u.1 u.2=g s0.1 s0.2->u∈OW N g (g s0.1 s0.2) fo s:=by
 obtain⟨b1,m1,n1,r1,q1⟩:=rY h hs (a:=s.1+1) (b:=s.2) (λ_ _=>.inr ⟨by simp,.inl (by show s.1+1=((s.1:Int)+1).toNat;omega)⟩);obtain⟨b2,m2,n2,r2,q2⟩:=rY b1 (m1 s hs) (a:=s.1 - 1) (b:=s.2) (λ_ _=>.inr ⟨by simp,.inr (by show ((s.1:Int) - 1).toNat+1=s.1;omega)⟩);obtain⟨b3,m3,n3,r3,q3⟩:=rY b2 (m2 s (m1 s hs)) (a:=s.1) (b:=s.2+1) (λ_ _=>.inl ⟨by simp,.inl (by show s.2+1=((s.2:Int)+1).toNat;omega)⟩);obtain⟨b4,m4,n4,r4,q4⟩:=rY b3 (m3 s (m2 s (m1 s hs))) (a:=s.1) (b:=s.2 - 1) (λ_ _=>.inl ⟨by simp,.inr (by show ((s.2:Int) - 1).toNat+1=s.2;omega)⟩);refine⟨b4,⟨r1++(r2++(r3++r4)),?_⟩,λu a i e=>?_⟩
 ·unfold OW;rw[q4,q3,q2,q1]
  simp
 ·unfold Ad at a;rcases a with ⟨e1,e2 | e2⟩ | ⟨e1,e2 | e2⟩
  ·exact m4 u (n3 u (by omega) (by omega) i e)
  ·exact n4 u (by omega) (by omega) i e
  ·exact m4 u (m3 u (m2 u (n1 u (by omega) (by omega) i e)))
  ·exact m4 u (m3 u (n2 u (by omega) (by omega) i e))
def Bf.len (h:Bf N g s0 fo):fo.length<=N*N:=by
 have:=uP (k:=Op N) h.nd λa ha=>bn.mpr (h.cn a ha).1
 rwa [e9]at this
theorem D6 {n:Nat}(s0:Sp)(h0:In N s0)(hN:N<=8):∀ (f i:Nat) (fo:List Sp),Bf N g s0 fo->i<=fo.length->N*N+1<=f+i->(∀ j s,j < i->fo[j]?=some s->∀ u,Ad s u->In N u->g u.1 u.2=g s0.1 s0.2->u∈fo) ->
  ∃ k,lWh (τ:=D×List D) (λs=>cL (pf n) (MX .int g N N) (.int (s0.1:Int)) (.int (s0.2:Int)) s.1 s.2) (λs=>dv (pf n) (MX .int g N N) (.int (s0.1:Int)) (.int (s0.2:Int)) s.1 s.2) f (.int (i:Int),fo.map sD)=.nx (k,(bfs N g (g s0.1 s0.2) f i fo).map sD) /\
   Bf N g s0 (bfs N g (g s0.1 s0.2) f i fo)/\∀ s∈bfs N g (g s0.1 s0.2) f i fo,∀ u,Ad s u->In N u->g u.1 u.2=g s0.1 s0.2->u∈bfs N g (g s0.1 s0.2) f i fo
 | 0,i,fo,h,hi,hf,_=>by have:=h.len;omega
 | f+1,i,fo,h,hi,hf,hc=>by
  have l64:fo.length<=64:=HK h.len (IM hN hN);have et:cL (pf n) (MX .int g N N) (.int (s0.1:Int)) (.int (s0.2:Int)) (.int (i:Int)) (fo.map sD)=.ok (decide (i < fo.length)):=by
   rw[cL,eV,Hl,R.bind_ok];show R.ok (decide ((i:Int) < (fo.length:Int)))=_
   congr 1
   apply IB.2;omega
  rw[lWh];show ∃ k,lB (cL (pf n) (MX .int g N N) (.int (s0.1:Int)) (.int (s0.2:Int)) (.int (i:Int)) (fo.map sD)) _=_/\_;rw[et,aw,bfs];by_cases c:i < fo.length
  ·have e:fo[i]?=some fo[i]:=HU c;have hm:fo[i]∈fo:=J9 c;obtain⟨b1,⟨r,hr⟩,b3⟩:=DU h hm;rw[Hz c,if_pos rfl];simp only[e];have so:=DT (n:=n) (g:=g) s0.1 s0.2 h0.1 h0.2 rfl (fo:=fo) (by omega) e;rw[show dv (pf n) (MX .int g N N) (.int (s0.1:Int)) (.int (s0.2:Int)) (((.int (i:Int),fo.map sD):D×List D).1) (((.int (i:Int),fo.map sD):D×List D).2)=_ from so,aX];refine D6 s0 h0 hN f (i+1) _ b1 (by rw[hr,HJ];omega) (by omega) λj s hj hs u a iu eu=>?_
   by_cases z:j < i
   ·have:fo[j]?=some s:=by rw[hr,Jg (by omega)]at hs;exact hs
    rw[hr];exact Ix _ (hc j s z this u a iu eu)
   ·obtain rfl:j=i:=by omega
    rw[hr,Jg c,e]at hs;cases hs;exact b3 u a iu eu
  ·rw[Hv c,if_neg (by decide)];simp only[Je (show fo.length<=i by omega)];refine⟨_,rfl,h,λs hs=>?_⟩;obtain⟨j,hj,e⟩:=J8.mp hs;exact hc j s (by omega) (by rw[HU hj,e])
def DV (h0:In N s0)(h:Bf N g s0 fo)(cl:∀ s∈fo,∀ u,Ad s u->In N u->g u.1 u.2=g s0.1 s0.2->u∈fo)(s:Sp):s∈fo↔Cn N g s0 s:=by
 refine⟨λhs=>(h.cn s hs).2,λc=>?_⟩
 induction c with
 | rfl=>exact h.st
 | step k x y z ih=>exact cl _ ih _ x y (by rw[<- z,<- k.val])
def zH {w':Int}(e:∀ s,In N s->(g s.1 s.2=w↔g' s.1 s.2=w')):∀ (f i:Nat) (fo:List Sp),bfs N g w f i fo=bfs N g' w' f i fo:=by
 have t:∀ fo a b,NN N g w fo a b=NN N g' w' fo a b:=λfo a b=>by
  unfold NN;by_cases c:0<=a/\a < (N:Int)/\0<=b/\b < (N:Int)
  ·have:=e (a.toNat,b.toNat) ⟨by show a.toNat < N;omega,by show b.toNat < N;omega⟩;simp only at this;simp only[this]
  ·rw[if_neg λz=>c ⟨z.1,z.2.1,z.2.2.1,z.2.2.2.1⟩,if_neg λz=>c ⟨z.1,z.2.1,z.2.2.1,z.2.2.2.1⟩]
 intro f
 induction f with
 | zero=>intro i fo;rfl
 | succ f ih =>
  intro i fo;rw[bfs,bfs];cases fo[i]? with
  | none=>rfl
  | some s =>
   show bfs N g w f (i+1) _=bfs N g' w' f (i+1) _;rw[ih];unfold OW;simp only[t]
def zI:(bfs 8 (λ_ _=>0) 0 70 0 [(0,0)]).map kS=kC cB:=by decide +kernel
theorem rZ {α τ:Type}{f:τ->α->L τ}(c:Nat->α)(I:Nat->τ->Prop):∀ n,(∀ i,i < n->∀ s,I i s->∃ s',f s (c i)=.nx s'/\I (i+1) s')->∀ s0,I 0 s0->∃ s',Nl f ((List.range n).map c) s0=.nx s'/\I n s'
 | 0,_,s0,h0=>⟨s0,rfl,h0⟩
 | n+1,h,s0,h0=>by
  obtain⟨s1,e1,h1⟩:=rZ c I n (λi hi=>h i (by omega)) s0 h0;obtain⟨s2,e2,h2⟩:=h n (by omega) s1 h1;refine⟨s2,?_,h2⟩;rw[IT,Ie,ip,e1,aX];show lS (f s1 (c n)) _=_;rw[e2];rfl
noncomputable abbrev lD (l:List Sp):D:=.lst (l.map sD)
def Cls (N:Nat)(g:MO)(l:List Sp):Prop:=l.Pairwise ltS/\∃ s,In N s/\∀ s',s'∈l↔Cn N g s s'
def B1 (h:l.Pairwise ltS):l.Nodup:=h.imp λ{a b} r e=>by subst e;exact BV _ _ r r
def oG (h:l.Pairwise ltS)(h':l'.Pairwise ltS)(e:∀ s,s∈l↔s∈l'):l=l' :=
 wr BV ((Jw (B1 h) (B1 h')).mpr e) h h'
def Cls.iff (h:Cls N g l)(hs:s∈l)(s':Sp):s'∈l↔Cn N g s s':=by
 obtain⟨s0,i,m⟩:=h.2;have c:=(m s).mp hs;rw[m];exact⟨λc'=>(c.symm i).trans c',λc'=>c.trans c'⟩
def Cls.one (h:Cls N g l)(h':Cls N g l')(hs:s∈l)(hs':s∈l'):l=l' :=
 oG h.1 h'.1 λu=>(h.iff hs u).trans (h'.iff hs' u).symm
def Cls.ex (h:Cls N g l):∃ s,In N s/\s∈l:=by obtain⟨s,i,m⟩:=h.2;exact⟨s,i,(m s).mpr .rfl⟩
def DW (hn:1<=n)(h3:sz<=3)(s0:Sp)(h0:In (2^sz) s0)(hu:(∃ u,In (2^sz) u/\¬ Cn (2^sz) g s0 u)\/s0=(0,0)):∃ l,pf n F.a1 [MX .int g (2^sz) (2^sz),.int (s0.1:Int),.int (s0.2:Int)]=.ok (lD l)/\l.Pairwise ltS/\∀ s,s∈l↔Cn (2^sz) g s0 s:=by
 obtain⟨n,rfl,hn⟩:=ex1 (show 0+1<=n by omega);have h8:=p8 h3;have b0:Bf (2^sz) g s0 [s0]:=⟨by simp,λs hs=>by rw[HE]at hs;subst hs;exact⟨h0,.rfl⟩,by simp⟩;have m64:2^sz*2^sz<=64:=IM h8 h8;obtain⟨k,e,bf,cl⟩:=D6 (n:=n) s0 h0 h8 70 0 [s0] b0 (by simp) (by omega) (λj s hj=>by omega);have mem:=DV h0 bf cl;obtain⟨l,pm,so,es⟩:=rV bf.nd (by
  by_cases c:(bfs (2^sz) g (g s0.1 s0.2) 70 0 [s0]).length < 64
  ·exact .inl c
  right;right
  have hl:=bf.len;have n64:2^sz*2^sz=64:=by omega
  have s3:sz=3:=by rcases bT h3 with rfl | rfl | rfl | rfl<;>first | rfl | (exact absurd n64 (by decide))
  have al:=mJ (k:=Op (2^sz)) bf.nd (λa ha=>bn.mpr (bf.cn a ha).1) (by rw[e9];omega);have z:s0=(0,0):=hu.resolve_left λ⟨u,iu,nu⟩=>nu ((mem u).mp (al u (bn.mpr iu)))
  rw[zH (g':=λ_ _=>0) (w':=0) (λs i=>⟨λ_=>rfl,λ_=>((mem s).mp (al s (bn.mpr i))).val.symm⟩),z,s3];exact zI)
 refine⟨l,?_,so,λs=>by rw[pm.mem_iff];exact mem s⟩;rw[yV,jY];show MW (lS (lWh (τ:=D×List D) _ _ 70 (.int ((0:Nat):Int),[s0].map sD)) _)=_;rw[e,aX];show MW (lB (Ol [.lst _]) .rt)=_;rw[es];rfl
def r6 (n:Nat)(l:List Sp):good (n+2) (lD l)=true:=by unfold lD;rw[FF.good];exact iz n l
theorem uY (n:Nat):∀ E:List (List Sp),MH (n+2) (E.map lD)=true
 | []=>rfl
 | l::E=>by rw[Hq,MH,uY n E,r6];rfl
def B2 (E:List (List Sp)):good 60 (.lst (E.map lD))=true:=by rw[FF.good];exact uY 57 E
structure Ev (N:Nat)(g:MO)(k:Nat)(E:List (List Sp)):Prop where
 cls:∀ l∈E,Cls N g l
 nd:E.Nodup
 cov:∀ s,In N s->s.1*N+s.2 < k->∃ l∈E,s∈l
 len:E.length<=k
def B3 (hn:1<=n)(h3:sz<=3){x y:Nat}(hx:x < 2^sz)(hy:y < 2^sz)(h:Ev (2^sz) g (x*2^sz+y) E)(hk:x*2^sz+y<=1000) :
  ∃ E',bv (pf n) (MX .int g (2^sz) (2^sz)) (.int (x:Int)) (E.map lD) (.int (y:Int))=.nx (E'.map lD)/\Ev (2^sz) g (x*2^sz+y+1) E':=by
 have i:In (2^sz) (x,y):=⟨hx,hy⟩;have hl:=h.len;have two:=pos2 sz;have ef:OK (λGe=>asB (NV (.tup [.int (x:Int),.int (y:Int)]) Ge)) (λGe=>.ok Ge) (E.map lD)=.ok (.lst ((E.filter λl=>decide ((x,y)∈l)).map lD)):=iY lD lD _ λl _=>⟨by rw[show NV (.tup [.int (x:Int),.int (y:Int)]) (lD l)=_ from xF (x,y) l];rfl,λ_=>rfl⟩
 have hnext:∀ s:Sp,In (2^sz) s->s.1*2^sz+s.2 < x*2^sz+y+1->s.1*2^sz+s.2 < x*2^sz+y\/s=(x,y):=λs j z=>by
  by_cases e:s.1*2^sz+s.2 < x*2^sz+y
  ·exact .inl e
  ·right
   have j2:=j.2;have:s.1*2^sz+s.2=x*2^sz+y:=by omega
   have e1:s.1=x:=by
    have a:(s.1*2^sz+s.2)/2^sz=(x*2^sz+y)/2^sz:=IZ (· / 2^sz) this;rw[JY,Nat.mul_add_div two,Jb j2,JY,Nat.mul_add_div two,Jb hy]at a;omega
   refine KY e1 ?_;show s.2=y;rw[e1]at this;omega
 rw[bv,bc (by rw[Hl];omega),R.bind_ok,ef,R.bind_ok,og (B2 _) rfl,aP,aw];by_cases c:∃ l∈E,(x,y)∈l
 ·obtain⟨l,hl',hm⟩:=c;have:E.filter (λl=>decide ((x,y)∈l))≠[]:=λz=>by
   have:=(Ia (p:=λl=>decide ((x,y)∈l))).mpr ⟨hl',Hz hm⟩;rw[z]at this;cases this
  obtain⟨a,r,e⟩:=Kd this;rw[e];refine⟨E,rfl,h.cls,h.nd,λs j z=>?_,by omega⟩;rcases hnext s j z with z | rfl
  ·exact h.cov s j z
  ·exact⟨l,hl',hm⟩
 ·have:E.filter (λl=>decide ((x,y)∈l))=[]:=JT.mpr λl hl z=>c ⟨l,hl,Ik z⟩
  rw[this];have hu:(∃ u,In (2^sz) u/\¬ Cn (2^sz) g (x,y) u)\/((x,y):Sp)=(0,0):=by
   by_cases z:((x,y):Sp)=(0,0)
   ·exact .inr z
   ·refine .inl ⟨(0,0),⟨two,two⟩,λcn=>?_⟩;have pos:0 < x*2^sz+y:=by
     rcases Nat.eq_zero_or_pos x with e | e
     ·rcases Nat.eq_zero_or_pos y with e' | e'
      ·exact(z (by rw[e,e'])).elim
      ·omega
     ·have:=IM e (Hr (2^sz));omega
    obtain⟨l,hl,hm⟩:=h.cov (0,0) ⟨two,two⟩ (by simpa using pos);exact c ⟨l,hl,((h.cls l hl).iff hm (x,y)).mpr (cn.symm i)⟩
  obtain⟨l,el,so,mem⟩:=DW (n:=n) hn h3 (x,y) i hu;have el:pf n F.a1 [MX .int g (2^sz) (2^sz),.int (x:Int),.int (y:Int)]=_:=el;refine⟨E++[l],?_,λa ha=>?_,?_,λs j z=>?_,by simp;omega⟩
  ·show lB ((pf n F.a1 [MX .int g (2^sz) (2^sz),.int (x:Int),.int (y:Int)]).bind λx1=>O5 (E.map lD) x1) _=_;rw[el,R.bind_ok,mH (by rw[Hl];omega),aw,Ie];rfl
  ·rcases HI.mp ha with ha | ha
   ·exact h.cls a ha
   ·rw[HE]at ha;subst ha;exact⟨so,(x,y),i,mem⟩
  ·rw[Lh];exact⟨h.nd,by simp,λa ha b hb=>by rw[HE]at hb;subst hb;rintro rfl;exact c ⟨a,ha,(mem _).mpr .rfl⟩⟩
  ·rcases hnext s j z with z | rfl
   ·obtain⟨a,ha,hs⟩:=h.cov s j z;exact⟨a,Ix _ ha,hs⟩
   ·exact⟨l,by simp,(mem _).mpr .rfl⟩
def Fj (hn:2<=n)(h3:sz<=3)(g:MO):∃ E:List (List Sp),pf n F.aI [MX .int g (2^sz) (2^sz)]=.ok (.lst (E.map lD))/\(∀ l∈E,Cls (2^sz) g l)/\E.Nodup/\(∀ s,In (2^sz) s->∃ l∈E,s∈l)/\E.length<=64:=by
 obtain⟨n,rfl,hn⟩:=ex1 (show 1+1<=n by omega);have h8:=p8 h3;have m64:2^sz*2^sz<=64:=IM h8 h8;have el:Nq [MX .int g (2^sz) (2^sz)]=.ok (.int ((2^sz:Nat):Int)):=by simp[MX]
 have rg:=de (s:=2^sz) (by omega);obtain⟨st,e,E,rfl,hE⟩:=rZ (f:=λs x=>bW (pf n) (MX .int g (2^sz) (2^sz)) s x) (λi:Nat=>D.int (i:Int)) (λi s=>∃ E:List (List Sp),s=E.map lD/\Ev (2^sz) g (i*2^sz) E) (2^sz) (λx hx s ⟨E,hs,h⟩=>by
  subst hs;obtain⟨st,e,E',rfl,hE⟩:=rZ (f:=λs y=>bv (pf n) (MX .int g (2^sz) (2^sz)) (.int (x:Int)) s y) (λi:Nat=>D.int (i:Int)) (λi s=>∃ E:List (List Sp),s=E.map lD/\Ev (2^sz) g (x*2^sz+i) E) (2^sz) (λy hy s ⟨E,hs,h⟩=>by
   subst hs;have:(x+1)*2^sz<=2^sz*2^sz:=IM hx (Hr _);rw[JW]at this;obtain⟨E',e,h'⟩:=B3 (n:=n) (by omega) h3 hx hy h (by omega);exact⟨_,e,E',rfl,h'⟩) (E.map lD) ⟨E,rfl,h⟩
  refine⟨E'.map lD,?_,E',rfl,by rw[JW];exact hE⟩;rw[bW,el,R.bind_ok,rg,aw];rw[show Nl (τ:=List D) (λs x1=>bv (pf n) (MX .int g (2^sz) (2^sz)) (.int (x:Int)) s x1) _ _=_ from e];rfl) [] ⟨[],rfl,λ_ h=>(nomatch h),.nil,λs _ z=>by omega,by simp⟩
 refine⟨E,?_,hE.cls,hE.nd,λs i=>hE.cov s i ?_,HK hE.len m64⟩
 ·rw[nJ,c8,el,R.bind_ok,rg,aw];rw[show Nl (τ:=List D) (λs x=>bW (pf n) (MX .int g (2^sz) (2^sz)) s x) _ []=_ from e];rfl
 ·have:(s.1+1)*2^sz<=2^sz*2^sz:=IM i.1 (Hr _);rw[JW]at this;have:=i.2;omega
noncomputable def On:List Sp->List Sp->Bool
 | [],[]=>false
 | [],_::_=>true
 | _::_,[]=>false
 | a::r,b::t=>if a=b then On r t else Oo (kS a) (kS b)
def Fk (a b:Sp):ltN 5 (sD a) (sD b)=some (Oo (kS a) (kS b)):=by
 rw[fA];unfold sD;show OR (ltN 4) [.int (a.1:Int),.int (a.2:Int)] [.int (b.1:Int),.int (b.2:Int)]=_;have e:∀ i j:Nat,eqD (.int (i:Int)) (.int (j:Int))=decide (i=j):=λi j=>by
  simp only[eqD];rw[IE]
  simp
  omega
 have l:∀ i j:Nat,ltN 4 (.int (i:Int)) (.int (j:Int))=some (decide (i < j)):=λi j=>by
  show some (decide ((i:Int) < (j:Int)))=_
  congr 1
  apply IB.2;omega
 rw[OR,e];by_cases c:a.1=b.1
 ·rw[Hz c,if_pos rfl,OR,e];by_cases d:a.2=b.2
  ·rw[Hz d,if_pos rfl,Hv (by omega)];rfl
  ·rw[Hv d,if_neg (by decide),l]
   congr 1
   apply IB.2;omega
 ·rw[Hv c,if_neg (by decide),l]
  congr 1
  apply IB.2;omega
theorem xG:∀ l l':List Sp,OR (ltN 5) (l.map sD) (l'.map sD)=some (On l l')
 | [],[]=>rfl
 | [],_::_=>rfl
 | _::_,[]=>rfl
 | a::r,b::t=>by
  rw[Hq,Hq,OR,D5,On];by_cases c:a=b
  ·rw[Hz c,if_pos rfl,if_pos c];exact xG r t
  ·rw[Hv c,if_neg (by decide),if_neg c];exact Fk a b
def B4 (l l':List Sp):ltL (lD l) (lD l')=some (On l l'):=by
 show (if MH 5 (l.map sD)=true/\MH 5 (l'.map sD)=true then OR (ltN 5) (l.map sD) (l'.map sD) else none)=_;rw[if_pos ⟨iz 4 l,iz 4 l'⟩,xG]
theorem uZ:∀ l l':List Sp,l≠l'->On l l'=false->On l' l=true
 | [],[],ne,_=>(ne rfl).elim
 | [],_::_,_,h=>nomatch h
 | _::_,[],_,_=>rfl
 | a::r,b::t,ne,h=>by
  rw[On]at h ⊢;by_cases c:a=b
  ·subst c;rw[if_pos rfl]at h ⊢;exact uZ r t (λe=>ne (by rw[e])) h
  ·rw[if_neg c]at h;rw[if_neg λe=>c e.symm,fA];rw[fA]at h;have:=of_decide_eq_false h;have:¬ (a.1=b.1/\a.2=b.2):=λz=>c (KY z.1 z.2)
   exact Hz (by omega)
theorem r8:∀ l l':List Sp,On l l'=true->On l' l=false
 | [],[],h=>nomatch h
 | [],_::_,_=>rfl
 | _::_,[],h=>nomatch h
 | a::r,b::t,h=>by
  rw[On]at h ⊢;by_cases c:a=b
  ·subst c;rw[if_pos rfl]at h ⊢;exact r8 r t h
  ·rw[if_neg c]at h;rw[if_neg λe=>c e.symm];rw[fA]at h ⊢;have:=Ik h;exact Hv (by omega)
theorem u3:∀ l m k:List Sp,On l m=true->On m k=true->On l k=true
 | [],[],_,h,_=>nomatch h
 | [],_::_,[],_,h=>nomatch h
 | [],_::_,_::_,_,_=>rfl
 | _::_,[],_,h,_=>nomatch h
 | _::_,_::_,[],_,h=>nomatch h
 | a::r,b::t,c::u,h1,h2=>by
  rw[On]at h1 h2 ⊢;by_cases e1:a=b
  ·subst e1;rw[if_pos rfl]at h1;by_cases e2:a=c
   ·subst e2;rw[if_pos rfl]at h2 ⊢;exact u3 r t u h1 h2
   ·rw[if_neg e2]at h2 ⊢;exact h2
  ·rw[if_neg e1]at h1;by_cases e2:b=c
   ·subst e2;rw[if_neg e1];exact h1
   ·rw[if_neg e2]at h2;rw[fA]at h1 h2;have:=Ik h1;have:=Ik h2;have e3:a≠c:=by rintro rfl;omega
    rw[if_neg e3,fA];exact Hz (by omega)
def xH (nd:E.Nodup)(h:E.length < 64):∃ E':List (List Sp),E'.Perm E/\E'.Pairwise (λa b=>On a b=true)/\OP [.lst (E.map lD)]=.ok (.lst (E'.map lD)):=by
 have gd:∀ i,i < E.length->(E.map lD).getD i .non=lD (E.getD i []):=λi hi=>by simp[List.getD,hi]
 have lo:∀ i j,i < E.length->j < E.length->lOf (E.map lD) i j=On (E.getD i []) (E.getD j []):=λi j hi hj=>by
  unfold lOf;rw[gd i hi,gd j hj,B4];rfl
 have O:Ord E.length (lOf (E.map lD)):=by
  refine⟨λi j hi hj ne h=>?_,λi j hi hj h=>?_,λi j k hi hj hk h1 h2=>?_⟩
  ·rw[lo i j hi hj]at h;rw[lo j i hj hi];exact uZ _ _ (λz=>ne ((KB (h₀:=hi) (h₁:=hj) nd).mp (by simpa [List.getD,hi,hj] using z))) h
  ·rw[lo i j hi hj]at h;rw[lo j i hj hi];exact r8 _ _ h
  ·rw[lo i j hi hj]at h1;rw[lo j k hj hk]at h2;rw[lo i k hi hk];exact u3 _ _ _ h1 h2
 have pm:=iO E.length (lOf (E.map lD));refine⟨(OL E.length (lOf (E.map lD))).map λi=>E.getD i [],?_,?_,?_⟩
 ·exact(pm.map λi=>E.getD i []).trans (by rw[qA])
 ·rw[Jj];refine(xB O).imp_of_mem λ{i j} hi hj k=>?_
  rw[lo i j (HG.mp (pm.mem_iff.mp hi)) (HG.mp (pm.mem_iff.mp hj))]at k;exact k
 ·have al:((E.map lD).all λd=>(E.map lD).all λe=>(ltL d e).isSome)=true:=by
   rw[HS];intro d hd;obtain⟨l,_,rfl⟩:=HF.mp hd;rw[HS];intro e he;obtain⟨l',_,rfl⟩:=HF.mp he;rw[B4];rfl
  unfold OP;simp only[Hl];rw[if_pos ⟨h,al⟩,HX]
  congr 2
  refine IV λi hi=>?_
  exact gd i (HG.mp (pm.mem_iff.mp hi))
def zJ {e:D->R D}{a y:D}{xs ys:List D}(h:e a=.ok y)(k:Nj e xs=.ok (.lst ys)):Nj e (a::xs)=.ok (.lst (y::ys)):=by
 unfold Nj at k ⊢;cases q:cGo (λ_=>.ok true) e xs with
 | ok zs =>
  rw[q]at k;cases k;rw[cGo,h,q];rfl
 | err k'=>rw[q]at k;cases k
 | stuck=>rw[q]at k;cases k
theorem l4 {α:Type}[DecidableEq α]:∀ {l k:List α},l.Nodup->(∀ a∈l,a∈k)->k.length<=l.length->l.Perm k
 | [],k,_,_,h=>by rw[Ii.mp (show k.length=0 by simpa using h)]
 | a::r,k,hn,hs,hl=>by
  have h:=IR.mp hn;have ha:=hs a (.head _);have le:=Kk ha;have:=Kz ha;rw[HB]at hl;exact((l4 h.2 (λb hb=>(Kb (by rintro rfl;exact h.1 hb)).mpr (hs b (.tail _ hb))) (by omega)).cons a).trans (List.perm_cons_erase ha).symm
def zK {side:Nat}{b:Bk}(o:BkOk side b):(List.range (b.w*b.w)).map (λk=>((b.l+k%b.w,b.t+k/b.w):Sp))=spots b:=by
 have e1:spots b=((List.range b.w).flatMap λj=>(List.range b.w).map λi=>((i,j):Sp)).map λs=>(b.l+s.1,b.t+s.2):=by
  unfold spots;rw[Ka];simp only[HX];rfl
 have e2:(List.range (b.w*b.w)).map (λk=>((k%b.w,k/b.w):Sp))=(List.range b.w).flatMap λj=>(List.range b.w).map λi=>((i,j):Sp):=by
  rcases o.w with e | e | e | e<;>rw[e]<;>decide
 rw[e1,<- e2,HX];rfl
def zL (q:Sh sz g t)(hn:1<=n){a:List Bk}(ha:a∈ars (bs sz g)):∃ l,pf n F.aM [aD a]=.ok (lD l)/\l.Pairwise ltS/\l.Perm (fl a):=by
 obtain⟨n,rfl,hn⟩:=ex1 (show 0+1<=n by omega);have Fa:=iy (sz:=sz) (g:=g);have lc:a.length<=64:=by have:=dg ha;have:=Fa.perm.length_eq;have:=jD q.p.h3 g;omega
 obtain⟨l,pm,so,e⟩:=rV (Fa.fnd1 ha) (Fa.sortable q.p.h3 ha);refine⟨l,?_,so,pm⟩;have w8:∀ b∈a,b.w=1\/b.w=2\/b.w=4\/b.w=8:=λb hb=>(Arf.bkok q Fa ha hb).w
 rw[vH,iU,bc (by simp;omega),aw,kq Bk.d (step:=λs p=>P9 p λx0 x1 x2 x3=>gE (pf n) s x0 x1 x2 x3) (λb=>(spots b).map sD) 64 a [] (λb hb L0 hacc=>by
  have o:=Arf.bkok q Fa ha hb;have w:=w8 b hb;have l64:b.w*b.w<=64:=by rcases w with e | e | e | e<;>rw[e]<;>decide
  have un:∀ k:D->D->D->D->L (List D),P9 b.d k=k (.int (b.l:Int)) (.int (b.t:Int)) (.int (b.w:Int)) (.int b.v):=λ_=>rfl
  rw[un];have em:Nw (.int (b.w:Int)) (.int (b.w:Int))=.ok (.int ((b.w*b.w:Nat):Int)):=by rw[bF (.inr ⟨by omega,by omega⟩)];push_cast;rfl
  rw[gE,em,R.bind_ok,de (by omega),R.bind_ok,aV (λi:Nat=>D.int (i:Int)) (λk:Nat=>sD (b.l+k%b.w,b.t+k/b.w)) (λk _=>by
   rw[oj (by omega),R.bind_ok,aJ,R.bind_ok,io (by omega) (by omega),R.bind_ok,aJ,R.bind_ok];unfold sD
   push_cast
   rfl),R.bind_ok]
  have e2:(List.range (b.w*b.w)).map (λk=>sD (b.l+k%b.w,b.t+k/b.w))=(spots b).map sD:=by rw[<- zK o,HX];rfl
  rw[e2,cQ (by rw[Hl,bw];omega)];rfl) (λb hb=>by
  rw[Hl,bw];rcases w8 b hb with e | e | e | e<;>rw[e]<;>decide) (by simp;omega),aX,Ij,<- Ka,e]
 rfl
def zM (q:Sh sz g t)(hn:1<=n)(cls:∀ l∈E,Cls (2^sz) g l)(nd:E.Nodup)(cov:∀ s,In (2^sz) s->∃ l∈E,s∈l) :
  ∃ A':List (List Sp),Nj (λGe=>pf n F.aM [Ge]) ((ars (bs sz g)).map aD)=.ok (.lst (A'.map lD))/\A'.Perm E/\A'.map List.length=szs (ars (bs sz g)):=by
 have Fa:=iy (sz:=sz) (g:=g);have ex:∀ f:List (List Bk),(∀ a∈f,a∈ars (bs sz g))->∃ A':List (List Sp),Nj (λGe=>pf n F.aM [Ge]) (f.map aD)=.ok (.lst (A'.map lD))/\A'.map List.length=szs f/\(∀ l∈A',∃ a∈f,l.Pairwise ltS/\l.Perm (fl a))/\∀ a∈f,∃ l∈A',l.Perm (fl a):=by
  intro f
  induction f with
  | nil=>intro _;exact⟨[],rfl,rfl,λ_ h=>(nomatch h),λ_ h=>(nomatch h)⟩
  | cons a f ih =>
   intro h;obtain⟨A',e1,e2,e3,e4⟩:=ih λb hb=>h b (.tail _ hb)
   obtain⟨l,el,so,pm⟩:=zL q (n:=n) hn (h a (.head _));refine⟨l::A',?_,?_,λm hm=>?_,λb hb=>?_⟩
   ·rw[Hq,Hq];exact zJ el e1
   ·rw[Hq,e2,pm.length_eq];rfl
   ·rcases Ho.mp hm with rfl | hm
    ·exact⟨a,.head _,so,pm⟩
    ·obtain⟨b,hb,r⟩:=e3 m hm;exact⟨b,.tail _ hb,r⟩
   ·rcases Ho.mp hb with rfl | hb
    ·exact⟨l,.head _,pm⟩
    ·obtain⟨m,hm,r⟩:=e4 b hb;exact⟨m,.tail _ hm,r⟩
 obtain⟨A',e1,e2,e3,e4⟩:=ex (ars (bs sz g)) λa h=>h
 have clsA:∀ l∈A',Cls (2^sz) g l:=λl hl=>by
  obtain⟨a,ha,so,pm⟩:=e3 l hl;obtain⟨b,r,hab⟩:=Kd (Fa.ne a ha);have hb:b∈a:=by rw[hab];exact .head _
  have n:=iw (Fa.mem ha hb);have hs:Oa a (b.l,b.t):=⟨b,hb,by show _<=b.l/\b.l < _;omega,by show _<=b.t/\b.t < _;omega⟩;exact⟨so,(b.l,b.t),Fa.hin ha hs,λs'=>by rw[pm.mem_iff,fH];exact Fa.iff ha hs s'⟩
 have covA:∀ s,In (2^sz) s->∃ l∈A',s∈l:=λs i=>by
  obtain⟨a,ha,hs⟩:=Fa.find i;obtain⟨l,hl,pm⟩:=e4 a ha;exact⟨l,hl,pm.mem_iff.mpr (fH.mpr hs)⟩
 have sub:∀ {X Y:List (List Sp)},(∀ l∈X,Cls (2^sz) g l)->(∀ l∈Y,Cls (2^sz) g l)->(∀ s,In (2^sz) s->∃ l∈Y,s∈l)->∀ l∈X,l∈Y:=λcx cy cv l hl=>by
  obtain⟨s,i,hs⟩:=(cx l hl).ex;obtain⟨m,hm,hs'⟩:=cv s i;rw[(cx l hl).one (cy m hm) hs hs'];exact hm
 have lenA:A'.length=(ars (bs sz g)).length:=by have:=IZ List.length e2;simpa using this
 have ndA:A'.Nodup:=by
  have tot:(A'.map List.length).sum=2^sz*2^sz:=by rw[e2];exact Fa.sum
  have fl1:(Op (2^sz)).length<=A'.flatten.length:=uP (bz _) λs hs=>by
   obtain⟨l,hl,h⟩:=covA s (bn.mp hs);exact Jc.mpr ⟨l,hl,h⟩
  have per:((A'.flatten).Perm (Op (2^sz))):=by
   have fl2:A'.flatten.length=(Op (2^sz)).length:=by rw[List.length_flatten,tot,e9]
   exact(l4 (bz _) (λs hs=>by
    obtain⟨l,hl,h⟩:=covA s (bn.mp hs);exact Jc.mpr ⟨l,hl,h⟩) (Nat.le_of_eq fl2)).symm
  have nf:A'.flatten.Nodup:=per.nodup_iff.mpr (bz _);refine LA (λ{a b} ha _ h e=>?_) (Jr.mp nf).2;subst e;obtain⟨s,_,hs⟩:=(clsA a ha).ex;exact h s hs s hs rfl
 exact⟨A',e1,(Jw ndA nd).mpr λl=>⟨sub clsA cls cov l,sub cls clsA covA l⟩,e2⟩
variable {s:Nat}
end
end
section
end
section
variable {n m sz:Nat}{g:MO}{w:D}
section
variable {t:Q Int}
end
def B5 {d:D}(h:pf m F.ab [d]=.err 1):pf (m+1) F.a5 [d]=.err 1:=by rw[xg,nC,h];rfl
noncomputable def spT (s:Nat):Nat->Nat->Nat->Nat×Nat
 | 0,x,y=>(x,y)
 | k+1,x,y=>(s - 1 - (spT s k x y).2,(spT s k x y).1)
noncomputable def sb (s w x y:Nat):Nat×Nat:=spT s (w%4) (if 4<=w then s - 1 - x else x) y
def tw (t:MF)(r:R D):L Unit:=PZ (τ:=D) (qTk esL) (lB r .nx) (λx=>.rt x) (λk=>lB (t F.aA [.exc k]) .rt)
def Fl {t:MF}{k:Nat}{d:D}(hk:qTk esL k=true)(h:t F.aA [.exc k]=.ok d):MW (tw t (.err k))=.ok d:=by
 unfold tw;rw[AK,CG,if_pos hk,h];rfl
section
variable (t:MF)(a x y w:D)
def d0:bR t (.int 0) a x y w=tw t (t F.a3 [a,x,y]):=rfl
def d1:bR t (.int 1) a x y w=tw t (t F.a0 [a,x,y,w]):=rfl
def d2:bR t (.int 2) a x y w=tw t (t F.av [a]):=rfl
def d3:bR t (.int 3) a x y w=tw t (t F.ak [a]):=rfl
def d4:bR t (.int 4) a x y w=tw t (t F.ad [a]):=rfl
def d5:bR t (.int 5) a x y w=tw t (t F.aL [a]):=rfl
end
def od {k a x y d:D}{r:R D}(h:bR (pf m) k a x y w=tw (pf m) r)(hr:r=.ok d):pf (m+1) F.aa [k,a,x,y,w]=.ok d:=by rw[p9,h,hr];rfl
def oe {q a x y d:D}{r:R D}{k:Nat}(h:bR (pf m) q a x y w=tw (pf m) r)(hr:r=.err k)(hk:qTk esL k=true)(hw:pf m F.aA [.exc k]=.ok d):pf (m+1) F.aa [q,a,x,y,w]=.ok d:=by rw[p9,h,hr,Fl hk hw]
def RX (hm:1<=m):pf m F.aA [.exc 2]=.ok (.str "no spot"):=by
 obtain⟨m,rfl,hm⟩:=ex1 hm;rw[p7,g8];rfl
theorem iA:∀ (n:Nat) (q:Q Int) (l t:Nat),(bks n q l t).length<=4^q.dep
 | n,.lf v,l,t=>by rw[e8];exact Nat.one_le_pow _ _ (by decide)
 | 0,.nd _ _ _ _,_,_=>by simp[bks]
 | n+1,.nd a b c d,l,t=>by
  have h1:=iA n a l t;have h2:=iA n b (l+2^n) t;have h3:=iA n c l (t+2^n);have h4:=iA n d (l+2^n) (t+2^n);have m:∀ e:Nat,e<=max (max a.dep b.dep) (max c.dep d.dep)->4^e<=4^max (max a.dep b.dep) (max c.dep d.dep):=λe h=>KQ (by decide) h
  have m1:=m a.dep (by omega);have m2:=m b.dep (by omega);have m3:=m c.dep (by omega);have m4:=m d.dep (by omega);simp only[bks,HJ,Q.dep];rw[KN 1,KP];omega
theorem B6 {α:Type}:∀ {f:List (List α)},(∀ a∈f,a≠[])->f.length<=f.flatten.length
 | [],_=>Hr _
 | a::f,h=>by
  have:=B6 λb hb=>h b (.tail _ hb)
  have:=List.length_pos_iff.mpr (h a (.head _));rw[HY,HJ,HB];omega
def few {t:Q Int}(p:Pc sz t)(hd:t.dep<=2):(ars (bs sz (t.at sz))).length < 64:=by
 have Fa:=iy (sz:=sz) (g:=t.at sz);have h1:=B6 Fa.ne;have h2:=Fa.perm.length_eq;have h3:=iA sz (T (t.at sz) sz) 0 0;rw[<- gP sz t p.dep]at h3;have h4:4^t.lean.dep<=4^2:=KQ (by decide) (ik hd);unfold bs at h1 h2;rw[<- gP sz t p.dep]at h1 h2;unfold bs;rw[<- gP sz t p.dep];omega
def iB (hn:2<=n)(ns:List Int)(k:Nat){a:Int}(ha:a=(k:Int))(hm:0 < m):∃ x:Nat,x < m/\pf n F.ac [scr ns,.int a,.int (m:Int)]=.ok (.int (x:Int)):=by
 have h1:=ql (ns:=ns) (k:=k) (m:=(m:Int)) (by omega);have h2:=qm (ns:=ns) (k:=k) (m:=(m:Int)) (by omega);refine⟨(pk ns k (m:Int)).toNat,by omega,?_⟩;rw[Int.toNat_of_nonneg h1];exact km hn ns k ha (by omega)
section
variable {N:Nat}
noncomputable def one (b:Bool):Nat:=if b=true then 1 else 0
def RN (b:Bool):Pa [.bl b]=.ok (.int (one b:Int)):=by cases b<;>rfl
noncomputable def cnt (p:Nat->Bool)(k:Nat):Nat:=(List.range k).countP p
def u4 (p:Nat->Bool)(k:Nat):cnt p (k+1)=cnt p k+one (p k):=by
 unfold cnt one;rw[IT,List.countP_append,List.countP_singleton]
def zN {x y:Nat}(hx:x+1 < N)(hy:y < N)(s:Nat):cM (pf n) (MX .int g N N) (.int (y:Int)) (.int (s:Int)) (.int (x:Int))=.nx (.int ((s+one (decide (¬ g (1+x) y=g x y))+one (decide (¬ N3 N g (1+x) y=N3 N g x y)):Nat):Int)):=by
 have e1:Nf (.int (x:Int)) (.int 1)=.ok (.int ((x+1:Nat):Int)):=by rw[aJ];push_cast;rfl
 have n1:∀ a b:Int,dNf (.int a) (.int b)=.ok (.bl (decide (¬ b=a))):=λa b=>by
  rw[fu]
  congr 2
  by_cases h:a=b
  ·subst h;simp
  ·have h':¬ b=a:=λz=>h z.symm
   simp[h,h']
 have ad:∀ a b:Nat,Nf (.int (a:Int)) (.int (b:Int))=.ok (.int ((a+b:Nat):Int)):=λa b=>by rw[aJ];push_cast;rfl
 rw[cM,eX hy,R.bind_ok,df (by omega),R.bind_ok,R.bind_ok,e1,R.bind_ok,df (by omega),R.bind_ok,n1,R.bind_ok,RN,R.bind_ok,ad,aw,eX (by omega),R.bind_ok,df hy,R.bind_ok,R.bind_ok,eX (by omega),R.bind_ok,df hy,R.bind_ok,n1,R.bind_ok,RN,R.bind_ok,ad,aw];rw[KN 1 x];rfl
def B7 {y:Nat}(hN:N<=8)(hy:y < N)(s:Nat):bX (pf n) (MX .int g N N) (.int (N:Int)) (.int (s:Int)) (.int (y:Int))=.nx (.int ((s+(hrow g N y+hrow (N3 N g) N y):Nat):Int)):=by
 have e1:Ob (.int (N:Int)) (.int 1)=.ok (.int ((N - 1:Nat):Int)):=by rw[dz,show (N:Int) - 1=((N - 1:Nat):Int) by omega]
 rw[bX,e1,R.bind_ok,de (by omega),aw];have:=kr (f:=λs x=>cM (pf n) (MX .int g N N) (.int (y:Int)) s x) (λi:Nat=>D.int (i:Int)) (λi=>D.int ((s+(cnt (λx=>decide (¬ g (1+x) y=g x y)) i+cnt (λx=>decide (¬ N3 N g (1+x) y=N3 N g x y)) i):Nat):Int)) (N - 1) (λi hi=>by
  rw[zN (by omega) hy,u4,u4]
  congr 3
  omega)
 rw[show Nl (τ:=D) (λs x=>cM (pf n) (MX .int g N N) (.int (y:Int)) s x) _ (.int (s:Int))=_ from this];rfl
theorem xI (a b:Nat->Nat):∀ l:List Nat,(l.map λy=>a y+b y).sum=(l.map a).sum+(l.map b).sum
 | []=>rfl
 | y::l=>by simp only[Hq,Mf,xI a b l];omega
def B8 (hN:N<=8):Nl (τ:=D) (λs x=>bX (pf n) (MX .int g N N) (.int (N:Int)) s x) ((List.range N).map λi:Nat=>D.int (i:Int)) (.int 0)=.nx (.int (bor g N:Int)):=by
 have:=kr (f:=λs x=>bX (pf n) (MX .int g N N) (.int (N:Int)) s x) (λi:Nat=>D.int (i:Int)) (λi=>D.int ((((List.range i).map λy=>hrow g N y+hrow (N3 N g) N y).sum:Nat):Int)) N (λi hi=>by
  rw[B7 hN hi,IT,Ie,List.sum_append]
  congr 3)
 rw[show Nl (τ:=D) (λs x=>bX (pf n) (MX .int g N N) (.int (N:Int)) s x) _ (.int 0)=_ from this,xI];rfl
variable {t:Q Int}
noncomputable abbrev nsp:D:=.str "no spot"
noncomputable abbrev npc:D:=.str "no picture"
def zO (q:Sh sz g t)(hn:11<=n){x y:Int}(h:inB (2^sz) x y=false):pf n F.ag [Ni sz t,.int x,.int y]=.err 2:=by
 obtain⟨n,rfl,hn⟩:=ex1 (show 10+1<=n by omega);have h2:=q.p.spot_any (n:=n) (by omega) x y;rw[h]at h2;rw[dD,br,q.p.check (by omega),aw,h2];rfl
def B9 (q:Sh sz g t)(hn:14<=n){s:Sp}(i:In (2^sz) s)(hw:noX w=true)(h9:Np 9 w=false):pf n F.a0 [Ni sz t,.int (s.1:Int),.int (s.2:Int),w]=.err 1:=by
 obtain⟨n,rfl,hn⟩:=ex1 (show 13+1<=n by omega);obtain⟨a,ha,h⟩:=(iy (sz:=sz) (g:=g)).find i;rw[iW,eN,q.round (by omega) ha h,aw,on (by omega) hw,h9];rfl
structure Wd (w:D):Prop where
 nx:noX w=true
 g:∀ n,good (n+1) w=true
 i:OB w .non=.ok (.bl (match w with | .non=>false | _=>true))
 r:OQ (asB (OB w .non)) (asB (rCh dLe dLe (.int 0) w (.ok (.int 9))))=.ok (Np 9 w)
def lQ (v:Int):Wd (.int v):=⟨rfl,λ_=>rfl,rfl,by
 rw[show OB (.int v) .non=.ok (.bl true) from rfl,ux,aP,aP,mG];rfl⟩
def Fm:Wd .non:=⟨rfl,λ_=>rfl,rfl,rfl⟩
def oH (q:Sh sz g t){E:List (List Sp)}(cls:∀ l∈E,Cls (2^sz) g l)(cov:∀ s,In (2^sz) s->∃ l∈E,s∈l)(lE:E.length<=64)(ns:List Int)(k:Nat)(hn:20<=n) :
  dY (pf n) (scr ns) (Ni sz t) (MX .int g (2^sz) (2^sz)) (.int ((2^sz:Nat):Int)) (.lst (E.map lD)) (.int (k:Int))=.nx ():=by
 obtain⟨n,rfl⟩:∃ m,n=m+1:=⟨n - 1,by omega⟩;have h3:=q.p.h3;have h8:=p8 h3;have two:=pos2 sz;have m3:Nw (.int 3) (.int (k:Int))=.ok (.int (3*(k:Int))):=bF (.inr (by decide));have a2:Nf (.int ((2^sz:Nat):Int)) (.int 2)=.ok (.int ((2^sz+2:Nat):Int)):=by rw[aJ];push_cast;rfl
 obtain⟨x0,hx0,p1⟩:=iB (n:=n+1) (by omega) ns (5000+3*k) (a:=5000+3*(k:Int)) (by omega) (m:=2^sz+2) (by omega);obtain⟨y0,hy0,p2⟩:=iB (n:=n+1) (by omega) ns (5001+3*k) (a:=5001+3*(k:Int)) (by omega) (m:=2^sz+2) (by omega);obtain⟨w0,hw0,p3⟩:=iB (n:=n+1) (by omega) ns (5002+3*k) (a:=5002+3*(k:Int)) (by omega) (m:=10) (by omega);obtain⟨j0,hj0,p4⟩:=iB (n:=n+1) (by omega) ns (5020+k) (a:=5020+(k:Int)) (by omega) (m:=7) (by omega);have p3:pf (n+1) F.ac [scr ns,.int (5002+3*(k:Int)),.int 10]=_:=p3;have p4:pf (n+1) F.ac [scr ns,.int (5020+(k:Int)),.int 7]=_:=p4;obtain⟨w,ew,hw⟩:∃ w,dIx (.lst [.int 0,.int 1,.int 9,.int 10,(.int (-1)),.non,.int (w0:Int)]) (.int (j0:Int))=.ok w/\Wd w:=by
  have:j0=0\/j0=1\/j0=2\/j0=3\/j0=4\/j0=5\/j0=6:=by omega
  rcases this with rfl | rfl | rfl | rfl | rfl | rfl | rfl
  ·exact⟨_,rfl,lQ 0⟩
  ·exact⟨_,rfl,lQ 1⟩
  ·exact⟨_,rfl,lQ 9⟩
  ·exact⟨_,rfl,lQ 10⟩
  ·exact⟨_,rfl,lQ (-1)⟩
  ·exact⟨_,rfl,Fm⟩
  ·exact⟨_,rfl,lQ _⟩
 have W1:=QT (m:=n) (by omega);have W2:=RX (m:=n) (by omega);have rg2:Ny [.int 2]=.ok [.int 0,.int 1]:=rfl;rw[dY,m3,R.bind_ok,aJ,R.bind_ok,a2,R.bind_ok,p1,R.bind_ok,dz,aw,R.bind_ok,aJ,R.bind_ok,R.bind_ok,p2,R.bind_ok,dz,aw,R.bind_ok,aJ,R.bind_ok,p3,R.bind_ok,R.bind_ok,aJ,R.bind_ok,p4,R.bind_ok,ew,aw,ki,aP,ki,aP,mG,aw];by_cases c:inB (2^sz) ((x0:Int) - 1) ((y0:Int) - 1)=true
 ·obtain⟨x,y,ex,ey,hx,hy⟩:=E2 c;rw[show (decide (0<=(x0:Int) - 1)&&decide ((x0:Int) - 1 < ((2^sz:Nat):Int))&&(decide (0<=(y0:Int) - 1)&&decide ((y0:Int) - 1 < ((2^sz:Nat):Int))))=true from c,if_pos rfl,ex,ey];have i:In (2^sz) (x,y):=⟨hx,hy⟩;obtain⟨l,hl,hm⟩:=cov (x,y) i;have cl:=cls l hl;have ef:OK (λGY=>asB (NV (.tup [.int (x:Int),.int (y:Int)]) GY)) (λGY=>.ok GY) (E.map lD)=.ok (.lst ((E.filter λl=>decide ((x,y)∈l)).map lD)):=iY lD lD _ λl _=>⟨by rw[show NV (.tup [.int (x:Int),.int (y:Int)]) (lD l)=_ from xF (x,y) l];rfl,λ_=>rfl⟩
  obtain⟨r,hr⟩:=ku (p:=λl=>decide ((x,y)∈l)) hl (Hz hm) (λc hc hp=>(cls c hc).one cl (Ik hp) hm);have e0:dIx (.lst (lD l::r.map lD)) (.int 0)=.ok (lD l):=ixL (i:=0) rfl;obtain⟨l2,ea,_,so,mem⟩:=q.areaat (n:=n) (by omega) i;have l2e:l2=l:=oG so cl.1 λs=>(mem s).trans (cl.iff hm s).symm
  rw[l2e]at ea;have y0':pf (n+1) F.aa [.int 0,Ni sz t,.int (x:Int),.int (y:Int),w]=.ok (lD l):=od (d0 _ _ _ _ _) ea;rw[bc (by rw[Hl];omega),R.bind_ok,ef,hr,R.bind_ok,Hq,e0,aw,hw.r,aw];cases c9:Np 9 w with
  | false =>
   have y1:pf (n+1) F.aa [.int 1,Ni sz t,.int (x:Int),.int (y:Int),w]=.ok npc:=oe (d1 _ _ _ _ _) (B9 q (n:=n) (by omega) i hw.nx c9) (by decide) W1;have gd:good 60 (.lst [lD l,npc])=true:=by
    show (good 59 (lD l)&&_)=true;rw[r6];rfl
   rw[if_neg (by decide),aX,rg2,R.bind_ok];simp only[Nj,cGo,y0',y1,R.bind_ok];rw[e7 gd];rfl
  | true =>
   obtain⟨v,rfl⟩:∃ v,w=.int v:=by
    cases w with
    | int v=>exact⟨v,rfl⟩
    | _=>cases c9
   have hv:W9 v:=by
    have z:(decide (0<=v)&&decide (v<=9))=true:=c9;have z:=Bool.and_eq_true_iff.mp z;exact⟨Ik z.1,Ik z.2⟩
   obtain⟨g',ep,q',hp⟩:=q.poured (n:=n) (by omega) i hv;have y1:pf (n+1) F.aa [.int 1,Ni sz t,.int (x:Int),.int (y:Int),.int v]=.ok (Ni sz (T g' sz)):=od (d1 _ _ _ _ _) ep;have rg:=de (s:=2^sz) (by omega);have ri:∀ (a b:Nat),a < 2^sz->b < 2^sz->rIf (asB (NV (.tup [.int (a:Int),.int (b:Int)]) (lD l))) (.ok (.int v)) ((dIx (MX .int g (2^sz) (2^sz)) (.int (b:Int))).bind λx15=>dIx x15 (.int (a:Int)))=.ok (.int (g' a b)):=λa b ha hb=>by
    rw[show NV (.tup [.int (a:Int),.int (b:Int)]) (lD l)=_ from xF (a,b) l,aP];by_cases z:Cn (2^sz) g (x,y) (a,b)
    ·rw[Hz ((cl.iff hm (a,b)).mpr z),show g' a b=v from (hp (a,b) ⟨ha,hb⟩).1 z];rfl
    ·rw[Hv λc=>z ((cl.iff hm (a,b)).mp c),show g' a b=g a b from (hp (a,b) ⟨ha,hb⟩).2 z,eX hb,R.bind_ok,df ha];rfl
   have so:Nj (λHg=>(Ny [.int ((2^sz:Nat):Int)]).bind λxs2=>Nj (λHh=>rIf (asB (NV (.tup [Hh,Hg]) (lD l))) (.ok (.int v)) ((dIx (MX .int g (2^sz) (2^sz)) Hg).bind λx15=>dIx x15 Hh)) xs2) ((List.range (2^sz)).map λi:Nat=>D.int (i:Int))=.ok (.lst ((List.range (2^sz)).map λb=>D.lst ((List.range (2^sz)).map λa=>D.int (g' a b)))):=aV _ _ λb hb=>by
    rw[rg,R.bind_ok];exact aV _ _ λa ha=>ri a b (HG.mp ha) (HG.mp hb)
   have tp:Nj (λGI=>Nu [GI]) ((List.range (2^sz)).map λb=>D.lst ((List.range (2^sz)).map λa=>D.int (g' a b)))=.ok (.lst ((List.range (2^sz)).map λb=>Nz .int g' (2^sz) b)):=aV _ _ λb _=>rfl
   have lf:pf (n+1) F.bj [.tup ((List.range (2^sz)).map λb=>Nz .int g' (2^sz) b)]=.ok (Ni sz (T g' sz)):=FY g' h3 (by omega);have st:oSt [lD l,npc] (.int 1) (Ni sz (T g' sz))=.ok [lD l,Ni sz (T g' sz)]:=rfl;have gd:good 60 (.lst [lD l,Ni sz (T g' sz)])=true:=by
    show (good 59 (lD l)&&(good 59 (Ni sz (T g' sz))&&true))=true;rw[r6,gQ q'.p.good (by decide)];rfl
   rw[if_pos rfl,rg,R.bind_ok];rw[rg]at so;rw[so,aw,bc (by rw[Hl,Ig];omega),R.bind_ok,tp,R.bind_ok,jB,R.bind_ok,lf,R.bind_ok,st,aw,aX,rg2,R.bind_ok];simp only[Nj,cGo,y0',y1,R.bind_ok];rw[e7 gd];rfl
 ·have c:inB (2^sz) ((x0:Int) - 1) ((y0:Int) - 1)=false:=by simpa using c
  rw[show (decide (0<=(x0:Int) - 1)&&decide ((x0:Int) - 1 < ((2^sz:Nat):Int))&&(decide (0<=(y0:Int) - 1)&&decide ((y0:Int) - 1 < ((2^sz:Nat):Int))))=false from c,if_neg (by decide),aX];generalize (x0:Int) - 1=x at *;generalize (y0:Int) - 1=y at *;obtain⟨m,rfl⟩:∃ m,n=m+1:=⟨n - 1,by omega⟩;have ro:=zO q (n:=m) (by omega) c;have y0':pf (m+1+1) F.aa [.int 0,Ni sz t,.int x,.int y,w]=.ok nsp:=oe (d0 _ _ _ _ _) (by rw[jh,d8,ro];rfl) (by decide) W2;have y1:pf (m+1+1) F.aa [.int 1,Ni sz t,.int x,.int y,w]=.ok nsp:=oe (d1 _ _ _ _ _) (by rw[iW,eN,ro];rfl) (by decide) W2;rw[rg2,R.bind_ok];simp only[Nj,cGo,y0',y1,R.bind_ok];rw[e7 rfl];rfl
end
def pr (ns:List Int):pf 40 F.aN [.lst (ns.map .int)]=.ok (.bl true):=by
 obtain⟨sz,hsz,p0⟩:=iB (n:=39) (by decide) ns 4990 (a:=4990) (by decide) (m:=4) (by decide);have p0:pf 39 F.ac [scr ns,.int 4990,.int 4]=_:=p0;have h3:sz<=3:=by omega
 have h8:=p8 h3;have two:=pos2 sz;have em:Po [.int (sz:Int),.int 2]=.ok (.int ((min sz 2:Nat):Int)):=by
  have:sz=0\/sz=1\/sz=2\/sz=3:=by omega
  rcases this with rfl | rfl | rfl | rfl<;>rfl
 have et:pf 39 F.ap [scr ns,.int 1,.int ((min sz 2:Nat):Int)]=.ok ((dt ns (min sz 2) 1).d .int):=Bt ns (min sz 2) 1 39 (by omega);have pc:Pc sz (dt ns (min sz 2) 1):=⟨h3,HK (v6 ns _ _) (by omega),Bs ns _ _⟩;have fw:=few pc (HK (v6 ns _ _) (by omega));have ed:D.tup [.int (sz:Int),(dt ns (min sz 2) 1).d .int]=Ni sz (dt ns (min sz 2) 1):=rfl;have q:=pc.sh;obtain⟨bad,tb',eb⟩:=zw (w:=5) (n:=4) (by decide) (by decide) (by decide) (by decide) pc.th (m:=39) (by decide) ns 5200;have eb':pf 39 F.ah [scr ns,.int 5200,Ni sz (dt ns (min sz 2) 1)]=.ok bad:=eb;have iq:=qv (w:=5) (by decide) (n:=4) tb' (m:=39) (by decide) (by decide);have BAD:vOr (pf 39 F.aq [bad]) (((Ny [.int 6]).bind λxs10=>Nj (λG9=>pf 39 F.aa [G9,bad,.int 99,.int 0,.int 10]) xs10).bind λx47=>(Nw (.lst [(.str "no picture")]) (.int 6)).bind λx48=>dEq x47 x48)=.ok (.bl true):=by
  rw[iq];cases c4:Nr (Np 9) 4 bad with
  | true=>rfl
  | false =>
   have cb:∀ m,30<=m->pf m F.ab [bad]=.err 1:=λm hm=>by
    have h1:=qv (w:=5) (by decide) (n:=5) (BF (Hr 5) tb' (show 5<=6 by decide)) (m:=39) (by decide) (by decide);rw[iq,c4]at h1;exact zy (n:=5) (by decide) tb' (by omega) (D.bl.inj (R.ok.inj h1)).symm
   have w1:=QT (m:=38) (by decide);have lb:∀ m,31<=m->pf m F.a5 [bad]=.err 1:=λm hm=>by
    obtain⟨m,rfl,hm⟩:=ex1 (show 30+1<=m by omega);exact B5 (cb m (by omega))
   have bb:∀ m,32<=m->pf m F.aX [bad]=.err 1:=λm hm=>by
    obtain⟨m,rfl,hm⟩:=ex1 (show 31+1<=m by omega);rw[pZ,g5,lb m (by omega)];rfl
   have ab:∀ m,33<=m->pf m F.av [bad]=.err 1:=λm hm=>by
    obtain⟨m,rfl,hm⟩:=ex1 (show 32+1<=m by omega);rw[t0,jS,bb m (by omega)];rfl
   have rb:∀ x y,pf 37 F.ag [bad,x,y]=.err 1:=λx y=>by rw[dD,br,cb 36 (by decide)];rfl
   have sb:pf 36 F.ao [bad]=.err 1:=by rw[i6,cG,cb 35 (by decide)];rfl
   have ub:pf 37 F.ai [bad]=.err 1:=by rw[fT,bE,sb];rfl
   have y0:pf 39 F.aa [.int 0,bad,.int 99,.int 0,.int 10]=_:=oe (m:=38) (d0 _ _ _ _ _) (by rw[jh,d8,rb];rfl) (by decide) w1;have y1:pf 39 F.aa [.int 1,bad,.int 99,.int 0,.int 10]=_:=oe (m:=38) (d1 _ _ _ _ _) (by rw[iW,eN,rb];rfl) (by decide) w1;have y2:pf 39 F.aa [.int 2,bad,.int 99,.int 0,.int 10]=_:=oe (m:=38) (d2 _ _ _ _ _) (ab 38 (by decide)) (by decide) w1;have y3:pf 39 F.aa [.int 3,bad,.int 99,.int 0,.int 10]=_:=oe (m:=38) (d3 _ _ _ _ _) (by rw[i8,cJ,ab 37 (by decide)];rfl) (by decide) w1;have y4:pf 39 F.aa [.int 4,bad,.int 99,.int 0,.int 10]=_:=oe (m:=38) (d4 _ _ _ _ _) (by rw[fq,bu,ab 37 (by decide)];rfl) (by decide) w1;have y5:pf 39 F.aa [.int 5,bad,.int 99,.int 0,.int 10]=_:=oe (m:=38) (d5 _ _ _ _ _) (by rw[p5,g6,ub];rfl) (by decide) w1;rw[D3,show Ny [.int 6]=.ok [.int 0,.int 1,.int 2,.int 3,.int 4,.int 5] from rfl,R.bind_ok];simp only[Nj,cGo,y0,y1,y2,y3,y4,y5,R.bind_ok];rfl
 generalize dt ns (min sz 2) 1=t at *;generalize t.at sz=g at *;have hr:=q.lrows (n:=39) (by decide);have el:Nq [MX .int g (2^sz) (2^sz)]=.ok (.int ((2^sz:Nat):Int)):=by simp[MX]
 obtain⟨E,eE,cls,nd,cov,lE⟩:=Fj (n:=39) (by decide) h3 g;have y2:pf 39 F.aa [.int 2,Ni sz t,.int 0,.int 0,.int 0]=_:=od (m:=38) (d2 _ _ _ _ _) (q.areas (n:=38) (by decide));have y3:pf 39 F.aa [.int 3,Ni sz t,.int 0,.int 0,.int 0]=_:=od (m:=38) (d3 _ _ _ _ _) (q.sizes (n:=38) (by decide) fw);have y4:pf 39 F.aa [.int 4,Ni sz t,.int 0,.int 0,.int 0]=_:=od (m:=38) (d4 _ _ _ _ _) (q.many (n:=38) (by decide));have y5:pf 39 F.aa [.int 5,Ni sz t,.int 0,.int 0,.int 0]=_:=od (m:=38) (d5 _ _ _ _ _) (q.border (n:=38) (by decide));obtain⟨A',eA,pm,la⟩:=zM q (n:=39) (by decide) cls nd cov;have lA:A'.length=(ars (bs sz g)).length:=by have:=IZ List.length la;simpa using this
 have lAE:=pm.length_eq;have ndA:A'.Nodup:=pm.nodup_iff.mpr nd;obtain⟨E1,pE,sE,oE⟩:=xH nd (by omega);obtain⟨A1,pA,sA,oA⟩:=xH ndA (by omega);have eq1:A1=E1:=wr (λa b h=>by rw[r8 a b h];decide) (pA.trans (pm.trans pE.symm)) sA sE;rw[eq1]at oA;have n1:=e7 (B2 E1);have ml:Nj (λGO=>Nq [GO]) (E.map lD)=.ok (.lst (((E.map List.length).map λ(i:Nat)=>(i:Int)).map .int)):=by
  rw[HX,HX];exact aV _ _ λl _=>by rw[eV,Hl];rfl
 have sI:Om [.lst (((E.map List.length).map λ(i:Nat)=>(i:Int)).map .int)]=.ok (.lst ((Og ((szs (ars (bs sz g))).map λ(i:Nat)=>(i:Int))).map .int)):=by
  unfold Om;simp only[eZ];rw[if_pos (by simp;omega),zG ((pm.symm.map List.length).map λ(i:Nat)=>(i:Int)),la]
 have gs:good 60 (.lst ((Og ((szs (ars (bs sz g))).map λ(i:Nat)=>(i:Int))).map .int))=true:=by rw[FF.good];exact lJ _ _
 have n2:=e7 gs;have sd:=B8 (n:=39) (g:=g) h8;have rg:=de (s:=2^sz) (by omega);have n3:dNf (.int ((ars (bs sz g)).length:Nat)) (.int (E.length:Int))=.ok (.bl false):=by rw[show (E.length:Int)=((ars (bs sz g)).length:Nat) by omega];exact e7 rfl
 have n4:dNf (.int (bor g (2^sz):Int)) (.int (bor g (2^sz):Int))=.ok (.bl false):=e7 rfl;have lp:=uE (f:=λ_ x=>dY (pf 39) (scr ns) (Ni sz t) (MX .int g (2^sz) (2^sz)) (.int ((2^sz:Nat):Int)) (.lst (E.map lD)) x) [.int 0,.int 1,.int 2] (λd hd=>by
  simp only[Ho,HZ,IP]at hd;rcases hd with rfl | rfl | rfl
  ·exact oH q cls cov lE ns 0 (by decide)
  ·exact oH q cls cov lE ns 1 (by decide)
  ·exact oH q cls cov lE ns 2 (by decide))
 have sqE:sq (.lst (E.map lD))=.ok (E.map lD):=bc (by rw[Hl];omega);have sqA:sq (arD (ars (bs sz g)))=.ok ((ars (bs sz g)).map aD):=bc (by rw[Hl];omega);rw[show D.lst (ns.map .int)=scr ns from rfl,vI,iV,p0,aw,em,R.bind_ok,et,R.bind_ok,aw,ed,hr,aw,el,aw,eE,aw,y2,aw,sqA,R.bind_ok,eA,aw,sqE,R.bind_ok,ml,R.bind_ok,sI,aw];rw[oA,R.bind_ok,oE,R.bind_ok,n1,aP,y3,R.bind_ok,n2,aP,lI,aw,if_neg (by decide),aX,rg,aw,sd,aX];rw[y4,R.bind_ok,eV,Hl,R.bind_ok,n3,aP,y5,R.bind_ok,n4,aP,lI,aw,if_neg (by decide),aX,show Ny [.int 3]=.ok [.int 0,.int 1,.int 2] from rfl,aw,lp,aX,eb',aw,BAD];rfl
end
end Lw
end
end
noncomputable section
set_option maxHeartbeats 4000000
namespace Lw
open PySem PySem.Spec PyProof.Rows L2 FF
variable {K:Frag}{w:World}{mg:MK}{l:OpenLaw}
noncomputable def Q9:Nat->Str
 | 0 => "FourError"
 | 1 => "NoPicture"
 | 2 => "NoSpot"
 | 3 => "BadBox"
 | 4 => "Unlike"
 | 5 => "NoRule"
 | 6 => "NoBlocks"
 | 7 => "NoChange"
 | 8 => "NoNumber"
 | 9 => "NothingDone"
 | 10 => "NoText"
 | 21 => "is_worth"
 | 212 => "areas"
 | 217 => "area_sizes"
 | 218 => "how_many_areas"
 | 221 => "border"
 | _ => "?"
noncomputable def Cof (K:Frag)(i:Nat):Addr:=match nsIn K mainGlobals (Q9 i) with
 | some (some (.ref a))=>a
 | _=>0
def cof {i:Nat}{x:Str}{a:Addr}(h:Ng K x (some (.ref a)))(hx:autoParam (Q9 i=x) YW):Cof K i=a:=by unfold Cof;rw[hx,h]
structure Fds (K:Frag)(mg:MK):Prop where
 F20:Fd K mg "is_whole" ["thing"] jj
 F21:Fd K mg "is_worth" ["thing"] jk
 F22:Fd K mg "is_size" ["thing"] k7
 F23:Fd K mg "is_tree" ["size","thing","is_end"] k8
 F24:Fd K mg "is_sized_tree" ["thing","is_end"] dE
 F25:Fd K mg "put_together" ["four"] eR
 F26:Fd K mg "lean_tree" ["tree"] hG
 F43:Fd K mg "worth_in" ["tree","side","x","y"] jl
 F44:Fd K mg "tree_of" ["rows","left","top","side"] lg
 F27:Fd K mg "is_picture" ["thing"] gF
 F28:Fd K mg "check_picture" ["thing"] dF
 F65:Fd K mg "check_worth" ["thing"] fF
 F45:Fd K mg "side_of" ["picture"] li
 F46:Fd K mg "is_along" ["side","thing"] jm
 F47:Fd K mg "check_spot" ["picture","x","y"] gG
 F49:Fd K mg "shown_row" ["picture","y"] hJ
 F50:Fd K mg "shown_rows" ["picture"] gH
 F51:Fd K mg "is_row" ["thing","side"] nN
 F52:Fd K mg "are_rows" ["thing"] jn
 F53:Fd K mg "of_rows" ["rows"] lj
 F29:Fd K mg "lean" ["picture"] vM
 F188:Fd K mg "blocks_in" ["tree","left","top","side"] hU
 F189:Fd K mg "blocks" ["picture"] nP
 F190:Fd K mg "is_place" ["thing","side"] jo
 F191:Fd K mg "is_block" ["thing"] jp
 F192:Fd K mg "check_blocks" ["size","things"] eS
 F193:Fd K mg "spots_of" ["block"] jq
 F194:Fd K mg "worths_by_spot" ["squares"] cR
 F195:Fd K mg "row_of" ["worths","side","y"] nQ
 F196:Fd K mg "of_blocks" ["size","squares"] hZ
 F197:Fd K mg "has_spot" ["block","x","y"] jr
 F203:Fd K mg "meet" ["one","other","along"] vN
 F204:Fd K mg "overlap" ["one","other","along"] ll
 F205:Fd K mg "are_beside" ["one","other"] gJ
 F69:Fd K mg "moved_tree" ["tree","order"] gK
 F70:Fd K mg "moved" ["picture","order"] rl
 F71:Fd K mg "swapped" ["picture"] lm
 F209:Fd K mg "comes_to" ["block","area"] jt
 F210:Fd K mg "areas_with" ["block","found"] gL
 F211:Fd K mg "in_order" ["area","squares"] ju
 F212:Fd K mg "areas" ["picture"] rm
 F213:Fd K mg "is_in" ["x","y","area"] rq
 F214:Fd K mg "blocks_round" ["picture","x","y"] eT
 F215:Fd K mg "area_at" ["picture","x","y"] ln
 F216:Fd K mg "many_spots" ["area"] gM
 F217:Fd K mg "area_sizes" ["picture"] gN
 F218:Fd K mg "how_many_areas" ["picture"] cS
 F219:Fd K mg "unlike_in" ["row"] ib
 F220:Fd K mg "unlike_across" ["picture"] dH
 F221:Fd K mg "border" ["picture"] nR
 F222:Fd K mg "with_worth" ["block","worth"] gO
 F223:Fd K mg "poured" ["picture","x","y","worth"] nS
 F30:Fd K mg "_law_cell" ["_law_script","_law_k"] nT
 F31:Fd K mg "_law_pick" ["_law_script","_law_k","_law_many"] nU
 F32:Fd K mg "_law_tree" ["_law_script","_law_at","_law_size"] nV
 F54:Fd K mg "_law_rows_of" ["_law_size","_law_tree_here"] ic
 F55:Fd K mg "_law_rows" ["_law_picture_here"] nW
 F56:Fd K mg "_law_least" ["_law_rows_here"] lu
 F57:Fd K mg "_law_of" ["_law_rows_here"] vQ
 F34:Fd K mg "_law_places" ["_law_thing"] jw
 F35:Fd K mg "_law_put" ["_law_thing","_law_place","_law_new"] rA
 F36:Fd K mg "_law_there" ["_law_thing","_law_place"] lv
 F37:Fd K mg "_law_spoilt_thing" ["_law_script","_law_at","_law_thing"] cU
 F38:Fd K mg "_law_is_picture" ["_law_thing"] eU
 F39:Fd K mg "_law_is_tree" ["_law_thing","_law_size"] ij
 F40:Fd K mg "_law_word" ["_law_kept"] nX
 F224:Fd K mg "_law_do" ["_law_what","_law_picture_here","_law_x","_law_y","_law_worth"] nY
 F225:Fd K mg "_law_area" ["_law_rows_here","_law_x","_law_y"] nZ
 F226:Fd K mg "_law_spots" ["_law_area_here"] ly
 F227:Fd K mg "_law_all_areas" ["_law_rows_here"] fG
 F228:Fd K mg "law" ["_law_script"] bH
theorem tab {P:Program}{w:World}{K:Frag}{mg:MK}{base:Heap}{C:MN}(T:Txt K mg C w.params)(S:Fds K mg):∀ n,Tab P w K mg base C n (pf n)
 | 0=>⟨g0 S.F20,g0 S.F21,g0 S.F22,g0 S.F23,g0 S.F24,g0 S.F25,g0 S.F26,g0 S.F43,g0 S.F44,g0 S.F27,g0 S.F28,g0 S.F65,g0 S.F45,g0 S.F46,g0 S.F47,g0 S.F49,g0 S.F50,g0 S.F51,g0 S.F52,g0 S.F53,g0 S.F29,g0 S.F188,g0 S.F189,g0 S.F190,g0 S.F191,g0 S.F192,g0 S.F193,g0 S.F194,g0 S.F195,g0 S.F196,g0 S.F197,g0 S.F203,g0 S.F204,g0 S.F205,g0 S.F69,g0 S.F70,g0 S.F71,g0 S.F209,g0 S.F210,g0 S.F211,g0 S.F212,g0 S.F213,g0 S.F214,g0 S.F215,g0 S.F216,g0 S.F217,g0 S.F218,g0 S.F219,g0 S.F220,g0 S.F221,g0 S.F222,g0 S.F223,g0 S.F30,g0 S.F31,g0 S.F32,g0 S.F54,g0 S.F55,g0 S.F56,g0 S.F57,g0 S.F34,g0 S.F35,g0 S.F36,g0 S.F37,g0 S.F38,g0 S.F39,g0 S.F40,g0 S.F224,g0 S.F225,g0 S.F226,g0 S.F227,g0 S.F228,
  λi hi=>by
  simp only[fvL,Ho,HZ,IP]at hi;rcases hi with rfl | rfl | rfl | rfl | rfl
  ·exact sY S.F21 T.f_is_worth
  ·exact sY S.F212 T.f_areas
  ·exact sY S.F217 T.f_area_sizes
  ·exact sY S.F218 T.f_how_many_areas
  ·exact sY S.F221 T.f_border⟩
 | n+1=>by
  have G:=tab T S n (P:=P) (w:=w) (base:=base);exact⟨g1 S.F20 (ug T G),g1 S.F21 (l0 T G),g1 S.F22 (vR T G),g1 S.F23 (vS T G),g1 S.F24 (lz T G),g1 S.F25 (mh T G),g1 S.F26 (rC T G),g1 S.F43 (uh T G),g1 S.F44 (vT T G),g1 S.F27 (pb T G),g1 S.F28 (lF T G),g1 S.F65 (n5 T G),g1 S.F45 (vU T G),g1 S.F46 (ui T G),g1 S.F47 (pd T G),g1 S.F49 (rD T G),g1 S.F50 (ph T G),g1 S.F51 (y9 T G),g1 S.F52 (uj T G),g1 S.F53 (vV T G),g1 S.F29 (Dx T G),g1 S.F188 (rE T G),g1 S.F189 (zb T G),g1 S.F190 (uk T G),g1 S.F191 (ul T G),g1 S.F192 (mi T G),g1 S.F193 (um T G),g1 S.F194 (ke T G),g1 S.F195 (zc T G),g1 S.F196 (rF T G),g1 S.F197 (uo T G),g1 S.F203 (Dy T G),g1 S.F204 (vW T G),g1 S.F205 (pi T G),g1 S.F69 (pj T G),g1 S.F70 (Bj T G),g1 S.F71 (vX T G),g1 S.F209 (uq T G),g1 S.F210 (po T G),g1 S.F211 (ur T G),g1 S.F212 (ut T G),g1 S.F213 (Bl T G),g1 S.F214 (mj T G),g1 S.F215 (vY T G),g1 S.F216 (pp T G),g1 S.F217 (ja T G),g1 S.F218 (ft T G),g1 S.F219 (rG T G),g1 S.F220 (lG T G),g1 S.F221 (qk T G),g1 S.F222 (pq T G),g1 S.F223 (zd T G),g1 S.F30 (ze T G),g1 S.F31 (zf T G),g1 S.F32 (zg T G),g1 S.F54 (rH T G),g1 S.F55 (zh T G),g1 S.F56 (vZ T G),g1 S.F57 (Dz T G),g1 S.F34 (uu T G),g1 S.F35 (Bm T G),g1 S.F36 (v3 T G),g1 S.F37 (kg T G),g1 S.F38 (mm T G),g1 S.F39 (rJ T G),g1 S.F40 (zi T G),g1 S.F224 (zj T G),g1 S.F225 (zk T G),g1 S.F226 (v4 T G),g1 S.F227 (n6 T G),g1 S.F228 (n8 T G),
  λi hi=>by
  simp only[fvL,Ho,HZ,IP]at hi;rcases hi with rfl | rfl | rfl | rfl | rfl
  ·exact sZ S.F21 T.f_is_worth (l0 T G) (λds h=>sS h)
  ·exact sZ S.F212 T.f_areas (ut T G) (λds h=>sS h)
  ·exact sZ S.F217 T.f_area_sizes (ja T G) (λds h=>sS h)
  ·exact sZ S.F218 T.f_how_many_areas (ft T G) (λds h=>sS h)
  ·exact sZ S.F221 T.f_border (qk T G) (λds h=>sS h)⟩
def esc {P:Nat->Prop}(h0:P 1)(h1:P 2)(h2:P 6):∀ j∈esL,P j:=λj hj=>by
 simp only[esL,Ho,HZ,IP]at hj;rcases hj with rfl | rfl | rfl
 ·exact h0
 ·exact h1
 ·exact h2
def Fn {h:Heap}{fa f1 f40 f45 f46 f49 f70 C0 C1 C2 C3 C4 C5 C6 C7 C8 C9 C10:Addr}(X:K.In h)(G:h.Ns mainGlobals mg)(hfa:mg "law"=some (.ref fa))(S:Fds K mg)
  {od70 an70:Option Addr} {sl70:Array (Na)} {oc70 kV70 dc70 pm70 cd70 ct70:Value} {uqv uq1:Tok} {uqq ta_SIDES:Addr} {uq3 tn_SIDES:Nat} {uq4 ts_SIDES:Array (Na)} {uqw uqx uqy uqz tt_SIDES_0 tt_SIDES_1 tt_SIDES_2 tt_SIDES_3:Tok} {ujb ujq ujr ujs ujt ujg ujh uji uq5 uju:ClassData}
  (z0:Ng K "is_worth" (some (.ref f1)))
  (z1:Ng K "areas" (some (.ref f40)))
  (z2:Ng K "area_sizes" (some (.ref f45)))
  (z3:Ng K "how_many_areas" (some (.ref f46)))
  (z4:Ng K "border" (some (.ref f49)))
  (z5:Ng K "law" (some (.ref f70)))
  (z6:K.lookup f70=some ⟨oc70,od70,.func (fnOf "law" "law" (NY bH) (NL bH) (ME bH) .none kV70 dc70 pm70 an70 cd70 ct70),sl70⟩)
  (z7:codeIn K cd70 "law"=true)
  (z8:keepIn K (.ref f70)=true)
  (z9:Ng K "ValueError" none)
  (z10:Ng K "all" none)
  (z11:Ng K "any" none)
  (z12:Ng K "bool" none)
  (z13:Ng K "enumerate" none)
  (z14:Ng K "int" none)
  (z15:Ng K "isinstance" none)
  (z16:Ng K "len" none)
  (z17:Ng K "list" none)
  (z18:Ng K "min" none)
  (z19:Ng K "range" none)
  (z20:Ng K "set" none)
  (z21:Ng K "sorted" none)
  (z22:Ng K "sum" none)
  (z23:Ng K "tuple" none)
  (z24:Ng K "GREATEST_WORTH" (some (.int 9 uqv)))
  (z25:Ng K "LARGEST_SIZE" (some (.int 3 uq1)))
  (z26:Ng K "BY_SWAPPING" (some (.ref uqq)))
  (z27:K.lookup uqq=some ⟨.type "tuple",none,.seq #[.int 0 uqw,.int 2 uqx,.int 1 uqy,.int 3 uqz] uq3,uq4⟩)
  (z28:Ng K "SIDES" (some (.ref ta_SIDES)))
  (z29:K.lookup ta_SIDES=some ⟨.type "tuple",none,.seq #[.int 1 tt_SIDES_0,.int 2 tt_SIDES_1,.int 4 tt_SIDES_2,.int 8 tt_SIDES_3] tn_SIDES,ts_SIDES⟩)
  (z30:Ng K "FourError" (some (.ref C0)))
  (z31:Ng K "NoPicture" (some (.ref C1)))
  (z32:Ng K "NoSpot" (some (.ref C2)))
  (z33:Ng K "BadBox" (some (.ref C3)))
  (z34:Ng K "Unlike" (some (.ref C4)))
  (z35:Ng K "NoRule" (some (.ref C5)))
  (z36:Ng K "NoBlocks" (some (.ref C6)))
  (z37:Ng K "NoChange" (some (.ref C7)))
  (z38:Ng K "NoNumber" (some (.ref C8)))
  (z39:Ng K "NothingDone" (some (.ref C9)))
  (z40:Ng K "NoText" (some (.ref C10)))
  (z41:excIn K C1 bmVE "ValueError.__new__"=true)
  (z42:excIn K C2 bmVE "ValueError.__new__"=true)
  (z43:excIn K C6 bmVE "ValueError.__new__"=true)
  (z44:excIn K C0 bmVE "ValueError.__new__"=true)
  (z45:clsIn K C1=some ujb)
  (z46:typeIn K (.ref C1)=some (.type "type"))
  (z47:clsIn K C2=some ujq)
  (z48:typeIn K (.ref C2)=some (.type "type"))
  (z49:clsIn K C3=some ujr)
  (z50:typeIn K (.ref C3)=some (.type "type"))
  (z51:clsIn K C4=some ujs)
  (z52:typeIn K (.ref C4)=some (.type "type"))
  (z53:clsIn K C5=some ujt)
  (z54:typeIn K (.ref C5)=some (.type "type"))
  (z55:clsIn K C6=some ujg)
  (z56:typeIn K (.ref C6)=some (.type "type"))
  (z57:clsIn K C7=some ujh)
  (z58:typeIn K (.ref C7)=some (.type "type"))
  (z59:clsIn K C8=some uji)
  (z60:typeIn K (.ref C8)=some (.type "type"))
  (z61:clsIn K C9=some uq5)
  (z62:typeIn K (.ref C9)=some (.type "type"))
  (z63:clsIn K C10=some uju)
  (z64:typeIn K (.ref C10)=some (.type "type"))
  (z65:subIn K (.ref C1) (.ref C1)=some true)
  (z66:subIn K (.ref C1) (.ref C2)=some false)
  (z67:subIn K (.ref C1) (.ref C3)=some false)
  (z68:subIn K (.ref C1) (.ref C4)=some false)
  (z69:subIn K (.ref C1) (.ref C5)=some false)
  (z70:subIn K (.ref C1) (.ref C6)=some false)
  (z71:subIn K (.ref C1) (.ref C7)=some false)
  (z72:subIn K (.ref C1) (.ref C8)=some false)
  (z73:subIn K (.ref C1) (.ref C9)=some false)
  (z74:subIn K (.ref C1) (.ref C10)=some false)
  (z75:subIn K (.ref C1) (.ref C0)=some true)
  (z76:subIn K (.ref C1) (.type "ValueError")=some true)
  (z77:findIn K (.ref C1) "__getattribute__"=some (some (.builtin "BaseException.__getattribute__")))
  (z78:findIn K (.ref C1) "__getattr__"=some none)
  (z79:findIn K (.ref C1) "__class__"=some (some (.builtin "object.__class__")))
  (z80:subIn K (.ref C1) (.type "BaseException")=some true)
  (z81:subIn K (.ref C1) (.type "object")=some true)
  (z82:subIn K (.ref C2) (.ref C1)=some false)
  (z83:subIn K (.ref C2) (.ref C2)=some true)
  (z84:subIn K (.ref C2) (.ref C3)=some false)
  (z85:subIn K (.ref C2) (.ref C4)=some false)
  (z86:subIn K (.ref C2) (.ref C5)=some false)
  (z87:subIn K (.ref C2) (.ref C6)=some false)
  (z88:subIn K (.ref C2) (.ref C7)=some false)
  (z89:subIn K (.ref C2) (.ref C8)=some false)
  (z90:subIn K (.ref C2) (.ref C9)=some false)
  (z91:subIn K (.ref C2) (.ref C10)=some false)
  (z92:subIn K (.ref C2) (.ref C0)=some true)
  (z93:subIn K (.ref C2) (.type "ValueError")=some true)
  (z94:findIn K (.ref C2) "__getattribute__"=some (some (.builtin "BaseException.__getattribute__")))
  (z95:findIn K (.ref C2) "__getattr__"=some none)
  (z96:findIn K (.ref C2) "__class__"=some (some (.builtin "object.__class__")))
  (z97:subIn K (.ref C2) (.type "BaseException")=some true)
  (z98:subIn K (.ref C2) (.type "object")=some true)
  (z99:subIn K (.ref C6) (.ref C1)=some false)
  (z100:subIn K (.ref C6) (.ref C2)=some false)
  (z101:subIn K (.ref C6) (.ref C3)=some false)
  (z102:subIn K (.ref C6) (.ref C4)=some false)
  (z103:subIn K (.ref C6) (.ref C5)=some false)
  (z104:subIn K (.ref C6) (.ref C6)=some true)
  (z105:subIn K (.ref C6) (.ref C7)=some false)
  (z106:subIn K (.ref C6) (.ref C8)=some false)
  (z107:subIn K (.ref C6) (.ref C9)=some false)
  (z108:subIn K (.ref C6) (.ref C10)=some false)
  (z109:subIn K (.ref C6) (.ref C0)=some true)
  (z110:subIn K (.ref C6) (.type "ValueError")=some true)
  (z111:findIn K (.ref C6) "__getattribute__"=some (some (.builtin "BaseException.__getattribute__")))
  (z112:findIn K (.ref C6) "__getattr__"=some none)
  (z113:findIn K (.ref C6) "__class__"=some (some (.builtin "object.__class__")))
  (z114:subIn K (.ref C6) (.type "BaseException")=some true)
  (z115:subIn K (.ref C6) (.type "object")=some true) :
  ∃ fd:FuncData,(∀ (s:Shared) (v:Value),BindsTo s fd ⟨[v],[]⟩ [("_law_script",v)])/\∀ base:Heap,K.In base->base.Ns mainGlobals mg->OM l.prog w K mg base (CXE l.prog w) 40 fa fd ["_law_script"] (spF K (Cof K) 1 (pf 40 Lw.F.aN)):=by
 have e:=hfa.symm.trans (mg_of X G z5);cases e;have uqi:Cof K 0=C0:=cof z30;have uqb:Cof K 1=C1:=cof z31;have uqg:Cof K 2=C2:=cof z32;have uqr:Cof K 3=C3:=cof z33;have uqs:Cof K 4=C4:=cof z34;have uqt:Cof K 5=C5:=cof z35;have uqd:Cof K 6=C6:=cof z36;have uqn:Cof K 7=C7:=cof z37;have uqo:Cof K 8=C8:=cof z38;have uqj:Cof K 9=C9:=cof z39;have uqu:Cof K 10=C10:=cof z40;have ujc:Of K (Cof K 1):=by rw[uqb];exact⟨z77,z78,z79,z80,z81,by rw[z45];rfl⟩
 have ujv:Of K (Cof K 2):=by rw[uqg];exact⟨z94,z95,z96,z97,z98,by rw[z47];rfl⟩
 have ujj:Of K (Cof K 6):=by rw[uqd];exact⟨z111,z112,z113,z114,z115,by rw[z55];rfl⟩
 have XKA:∀ j∈esL,Of K (Cof K j):=λj hj=>by
  simp only[esL,Ho,HZ,IP]at hj;rcases hj with rfl | rfl | rfl
  ·exact ujc
  ·exact ujv
  ·exact ujj
 have T:Txt K mg (Cof K) w.params:=⟨mg_none_of X G z9,
  mg_none_of X G z10,
  mg_none_of X G z11,
  mg_none_of X G z12,
  mg_none_of X G z13,
  mg_none_of X G z14,
  mg_none_of X G z15,
  mg_none_of X G z16,
  mg_none_of X G z17,
  mg_none_of X G z18,
  mg_none_of X G z19,
  mg_none_of X G z20,
  mg_none_of X G z21,
  mg_none_of X G z22,
  mg_none_of X G z23,
  ⟨_,mg_of X G z24⟩,
  ⟨_,mg_of X G z25⟩,
  ⟨_,mg_of X G z26,_,_,_,z27,rfl,rfl,rfl,by show 4<=sizeLine;decide,(.cons ⟨_,rfl⟩ (.cons ⟨_,rfl⟩ (.cons ⟨_,rfl⟩ (.cons ⟨_,rfl⟩ .nil))))⟩,
  ⟨_,mg_of X G z28,_,_,_,z29,rfl,rfl,rfl,by show 4<=sizeLine;decide,(.cons ⟨_,rfl⟩ (.cons ⟨_,rfl⟩ (.cons ⟨_,rfl⟩ (.cons ⟨_,rfl⟩ .nil))))⟩,
  (by rw[cof (i:=F.ae) z0];exact mg_of X G z0),
  (by rw[cof (i:=F.av) z1];exact mg_of X G z1),
  (by rw[cof (i:=F.ak) z2];exact mg_of X G z2),
  (by rw[cof (i:=F.ad) z3];exact mg_of X G z3),
  (by rw[cof (i:=F.aL) z4];exact mg_of X G z4),
  (by rw[uqi];exact mg_of X G z30),
  (by rw[uqb];exact mg_of X G z31),
  (by rw[uqg];exact mg_of X G z32),
  (by rw[uqr];exact mg_of X G z33),
  (by rw[uqs];exact mg_of X G z34),
  (by rw[uqt];exact mg_of X G z35),
  (by rw[uqd];exact mg_of X G z36),
  (by rw[uqn];exact mg_of X G z37),
  (by rw[uqo];exact mg_of X G z38),
  (by rw[uqj];exact mg_of X G z39),
  (by rw[uqu];exact mg_of X G z40),
  (by rw[uqb];exact z41),
  (by rw[uqg];exact z42),
  (by rw[uqd];exact z43),
  (fD (esc (by rw[uqb,uqr];exact aU z49 z50 z67 z65) (by rw[uqg,uqr];exact aU z49 z50 z84 z83) (by rw[uqd,uqr];exact aU z49 z50 z101 z104)) XKA),
  (fD (esc (by rw[uqb,uqd];exact aU z55 z56 z70 z65) (by rw[uqg,uqd];exact aU z55 z56 z87 z83) (by rw[uqd];exact aU z55 z56 z104 z104)) XKA),
  (fD (esc (by rw[uqb,uqn];exact aU z57 z58 z71 z65) (by rw[uqg,uqn];exact aU z57 z58 z88 z83) (by rw[uqd,uqn];exact aU z57 z58 z105 z104)) XKA),
  (fD (esc (by rw[uqb,uqo];exact aU z59 z60 z72 z65) (by rw[uqg,uqo];exact aU z59 z60 z89 z83) (by rw[uqd,uqo];exact aU z59 z60 z106 z104)) XKA),
  (fD (esc (by rw[uqb];exact aU z45 z46 z65 z65) (by rw[uqg,uqb];exact aU z45 z46 z82 z83) (by rw[uqd,uqb];exact aU z45 z46 z99 z104)) XKA),
  (fD (esc (by rw[uqb,uqt];exact aU z53 z54 z69 z65) (by rw[uqg,uqt];exact aU z53 z54 z86 z83) (by rw[uqd,uqt];exact aU z53 z54 z103 z104)) XKA),
  (fD (esc (by rw[uqb,uqg];exact aU z47 z48 z66 z65) (by rw[uqg];exact aU z47 z48 z83 z83) (by rw[uqd,uqg];exact aU z47 z48 z100 z104)) XKA),
  (fD (esc (by rw[uqb,uqu];exact aU z63 z64 z74 z65) (by rw[uqg,uqu];exact aU z63 z64 z91 z83) (by rw[uqd,uqu];exact aU z63 z64 z108 z104)) XKA),
  (fD (esc (by rw[uqb,uqj];exact aU z61 z62 z73 z65) (by rw[uqg,uqj];exact aU z61 z62 z90 z83) (by rw[uqd,uqj];exact aU z61 z62 z107 z104)) XKA),
  (fD (esc (by rw[uqb,uqs];exact aU z51 z52 z68 z65) (by rw[uqg,uqs];exact aU z51 z52 z85 z83) (by rw[uqd,uqs];exact aU z51 z52 z102 z104)) XKA),
  (EO (esc (by rw[uqb];exact vq z76) (by rw[uqg];exact vq z93) (by rw[uqd];exact vq z110)) XKA),
  (AJ (by rw[uqi];exact z44) (esc (by rw[uqb,uqi];exact z75) (by rw[uqg,uqi];exact z92) (by rw[uqd,uqi];exact z109)))⟩
 have FL:=vb (st:=bH) z6 z7 z8;exact⟨fnOf "law" "law" (NY bH) (NL bH) (ME bH) .none kV70 dc70 pm70 an70 cd70 ct70,λs v=>.of_eq rfl,λbase _ _=>n8 T (tab T S 39) FL⟩
def Sf {q:Program}{M3:List Str}{XP:(MK)->Heap->Prop}{YP:World->Heap->Prop}{d:DefRec}{K:Params->Frag}(hn:l.most=some 63)(hdf:d.params.defaults=[])
  (hY:∀ (w:World) (h:Heap),YP w h->(K w.params).In h)
  (F:∀ (w:World) (mg:MK) (fa:Addr) (h:Heap),(K w.params).In h->h.Ns mainGlobals mg->mg d.name=some (.ref fa) ->
   ∃ fd:FuncData,(∀ (s:Shared) (u:Value),BindsTo s fd ⟨[u],[]⟩ [("_law_script",u)])/\∀ base:Heap,(K w.params).In base->base.Ns mainGlobals mg->OM l.prog w (K w.params) mg base (CXE l.prog w) 40 fa fd ["_law_script"] (spF (K w.params) (Cof (K w.params)) 1 (pf 40 Lw.F.aN))) :
  PySem.W.WalkO q M3 XP YP l.row.toRowW d [] (λf vs=>PySem.call f vs) :=
 L2.Ck (n:=63) (k:=40) (x := "_law_script") (CX:=λw=>CXE l.prog w) (sp:=λw=>spF (K w.params) (Cof (K w.params)) 1 (pf 40 Lw.F.aN)) hn (by decide) hdf ⟨rfl,by decide,by decide⟩ hY F
  (λw H a ns hl _ hS=>⟨rfl,H,[.lst (ns.map .int)],Same.refl H,by rw[Reps];exact⟨_,_,rfl,by rw[Rep];exact⟨a,_,rfl,hS,wW ns⟩,by rw[Reps]⟩,by rw[pr ns];exact λH' Z' _ v rv=>by rw[Rep]at rv;exact rv⟩)
  λw H s e s' z=>by obtain⟨_,_,_,_,_,_,_,_,_,_,_,_,_,z⟩:=z;exact z
end Lw
open PySem PySem.W PyProof.Rows
structure PySem.W.Fast:Prop where
 (tw9228733495837758560 tw584656670305907156 tw3051927963795774477 tw14442389125790953146 tw4987295645931848368 tw6577066988062382450 tw16433230325638889234 tw8248948385733198396 tw13469633343580262069 tw12603741834683401524 tw242057552697663981 tw17641715433825126338 tw15184966724479054899 tw699099588815233200 tw17884268350482548103 tw6543181757549580805 tw12785811882093828213 tw9678522500749007784 tw15608726038276675098 tw8831587754869673947 tw11562283555233375336 tw10461488478583132941 tw15187994575093292830 tw6972818077803525384 tw10403138916701123535 tw129637977900776872 tw7316372270163907161 tw3833441811553084462 tw16469171675206592081 tw1238429622811771913 tw16385240862510398451 tw16437854919483731007 tw784390247420441908 tw10048527126665559638 tw8371189326025520099 tw5567752933971678853 tw15215487871544231098 tw8651490023476056638 tw6707392359439871035 tw12026778481040423376 tw16637378767030187512 tw9871977390634576094 tw7803322055021535497 tw6192101502807308599 tw7181797647197436018 tw1126163089235907418 tw6378727526200789911 tw12614938428762627439 tw8616265031989636540 tw10870908745277481164 tw1078634934369497398 tw1132509216919602726 tw7255060327208317650 tw2547163726471610666 tw6448263733662495971 tw16196970418138362751 tw9818091593403977880 tw5855089683579793588 tw14853612793452638626 tw3788555803725759510 tw13321806547172691771 tw6328074842926125300 tw15010163613271292831 tw2255940522298016014 tw5559831856930648543 tw1410394684948577970 tw449456760755123916 tw5841700015657859526 tw8787102760299024140 tw1481610001261690347 tw7328335517571390047 tw8154755114840334361 tw17164991516540916152 tw12571540485254010073 tw1544878815375237885 tw7593763960648806424 tw4020245542238131272 tw12681307489329574330 tw11756555705892146376 tw13576103069142364451 tw3017968119396269441 tw16344857257649511708 tw5068744300492850842 tw5008510029706735242 tw16485055313693243002 tw14288212012868284526 tw4668065172373325165 tw17147337560657183529 tw577528872020667367 tw15295799683460506559 tw4790130577636426894 tw15714696950133546487 tw16437073545136811336 tw11994824387886557020 tw14767128974494472653 tw9475210990307669736 tw11745762928650504253 tw15207082896726367390 tw18164787543845369035 tw17095516200689983985 tw8836307185901779321 tw8577609817087738586 tw17686287146223691461 tw3856889241957320861 tw9831440465575805506 tw7885228636964320117 tw5073920396098909775 tw13683663284498602624 tw6563469911321973234 tw8776497787060594094 tw15592037654523299517 tw8283791007791860783 tw2598709936860899429 tw17713820027446038888 tw3819976865382398584 tw1991321953622095049 tw4943100132362598857 tw1574158786697398630 tw6386166187783924277 tw11827923452971647247 tw7373730493998857142 tw13384122305955688403 tw16190953768786275201 tw7093731099741344691 tw3298140785108655420 tw10931232636187697894 tw6453462399235511431 tw16021755793940898501 tw17867019232480761347 tw9853298720478223121 tw17259555293136973231 tw4112531323352987374 tw13670237476694838199 tw11633910596002301729 tw8797148588148535558 tw6091581349005750778 tw4184164408468643751 tw17628811623280472406 tw5771651014387822322 tw14569568523858536833 tw13624536008642086349 tw9640950459030946330 tw8878006410141648315 tw15157707335151393658 tw13262353501312748754 tw15665405811609168887 tw17153331806004523113 tw17764246474049371786 tw3767045998884732164 tw15546958722278749322 tw5449116742759286920 tw11637564479082613415 tw18149782932830727077 tw17430981582171071687 tw13098889985852189259 tw11461078799429834447 tw8305970481913254580 tw15696803780438818457 tw6519337660126266475 tw9392963241701065641 tw3707948283717263082 tw977568185636776306 tw6085528867663490428 tw13634901648713270261 tw6964950013310227672 tw7686849995344075345 tw16848720983457861418 tw11898068982387067418 tw8030268517782837491 tw7391871814082825593 tw3685075500883263074 tw4161933606345386694 tw13356974479351518012 tw8868682562087169418 tw7170109838936029056 tw1943544539083447482 tw5990550447876327790 tw5087383907706292513 tw325837477597522734 tw11957884093240737551 tw6254426568207712964 tw3007020370310954463 tw12199752808301396738 tw9991839144801262244 tw17925556680517572886 tw8909522238995145658 tw9948340006170448835 tw14415167870376059443 tw11924655119572386435 tw5753636506904845591 tw14863168739992259508 tw1971587204757140929 tw6228610085959114026 tw8407228592801701866 tw17485259688926896747 tw9962161661652781598 tw5738201663317359482 tw5707861704860740498 tw6960559793356716429 tw7593168653189983845 tw4125598952302785944 tw1548406979756849663 tw1734980523400119653 tw1446011552652393251 tw1627714375777726382 tw5096821808741178899 tw15659885945573828721 tw17826710352589224740 tw13180253360805686543 tw6709479602387522603 tw9293624892137150696 tw7768874193910071171 tw3676672633585806944 tw3089452577886832793 tw17953849537869721986 tw13058415328210935867 tw1513014301854393789 tw18318129067076801861 tw7338379852602735289 tw2488698953865990708 tw2644211010949252282 tw14066355607543045311 tw8772449407467789699 tw17267591732224942962 tw6682191832679259542 tw6766014259929294212 tw1892782096397670406 tw11709961216547052996 tw16357982140616284874 tw8915265651809808544 tw10020195505188867892 tw4032370895392819499 tw8560449143322829973 tw12676555358723039074 tw14446350502473392381 tw5171187204212177536 tw16983704756813793652 tw11051128288565927395 tw10101482760040897505 tw11605882079724487644 tw10249878516109977521 tw12010470426640459328 tw11478965401592481012 tw8722913200385642787 tw13941712147379960070 tw7951713983843085531 tw2469335157197382932 tw14436427336256296585 tw10461830129844725075 tw8842881915309124679 tw11246455739595425564 tw3691179810151308118 tw10193369744807837131 tw10714695811570889616 tw8937339493918226472 tw17477590649322010737 tw14841782638162497418 tw11310532008112618217 tw3855789105392315060 tw6991311573973135693 tw14663433678674243125 tw3349147286559219242 tw1738121949333873743 tw3306118750552688529 tw8369734558813315786 tw8876779982306351382 tw13193079744750453740 tw18358458467529421263 tw16527066364174947755 tw15784254611315989146 tw11939599712613838106 tw13486216292687279127 tw2567270168562684270 tw18014420473014417664 tw17381237362541556455 tw11380439186662294457 tw4339561363604349364 tw11641608907884725913 tw8676301330823495231 tw13333728028435705562 tw8859115007343994829 tw11361817884704328883 tw12932618854953864923 tw600096466756468863 tw9411167629165752640 tw11752333178252990205 tw18391328049211546927 tw2220459132744583999 tw4466826360598277604 tw8327581949077411169 tw16041421403934666323 tw7135170353149425538 tw14714297056206154834 tw12852812383780867689 tw4355262302093135578 tw15511549194238467696 tw7445711691416635855 tw11493356183505551646 tw626022548231393813 tw12098934807255388895 tw6949803886310244703 tw11069874797887630735 tw13017847679350900161 tw6919714016399561516 tw6386235433983256892 tw1584209171619957871 tw12048894323581632100 tw5248376441056018116 tw4608718438784908328 tw1473308281976281924 tw621693630014765447 tw11878591152444209699 tw9408833315572020045 tw15423500149996903841 tw15328905274655782308 tw2604874017759255200 tw9751626803613481099 tw2687928998803494915 tw17479985675738668428 tw3175033955492328240 tw1511224291003646126 tw4635319878971624051 tw12506645212193599018 tw7822715625785147831 tw2815354722296365585 tw2709119949297022595 tw18416506100500094577 tw5981516964454922029 tw15304395776643152351 tw10299025042773666402 tw5089644824426913376 tw9708788073844723695 tw553049840623185967 tw12137613281633069027 tw16986172530560049365 tw7129960804830365880 tw11412652498113022498 tw8174584018785612093 tw13174129838195104155 tw4990319997860400397 tw13964741770493507789 tw12625839027123144948 tw3751383595344519272 tw2408221424981516021 tw8616685627744553787 tw9627149153222414841 tw13670031453261600776 tw14909359719019583085 tw17252347530241626081 tw4688117627093580679 tw3960117158903182972 tw736257671838352274 tw7199033254645017698 tw1185686122423483301 tw14064906646441734533 tw9231247656911602604 tw3043074068436239538 tw12071695366447739823 tw3565237157406797684 tw3996495575491345747 tw16773289646549076372 tw6927468283894880383 tw1596202324212086406 tw10255505832484753755 tw15414374795311563846 tw11281462438463554359 tw541498151363861903 tw3208074994722346891 tw906321593853210256 tw12752406308149032460 tw15879287521715321891 tw758095290028359474 tw13172322391912648501 tw7051601609360962109 tw13429819088101153939 tw6442826396144594522 tw7220093319282992191 tw2968891916839363868 tw12846287538714511870 tw9057708470658114163 tw1128038481930111636 tw1434171437578530885 tw1146210109975060919 tw17037265374016415226 tw7989481721129792189 tw8890001852498608514 tw4534764983688565295 tw6095776965810392056 tw3023332200488360099 tw14202624462342318534 tw943233554759863012 tw10759085158158161564 tw9885615854795515006 tw4808042605036676743 tw17684976926522147991 tw6481839398979277897 tw15104587168756212892 tw3960677305795493741 tw7295374746413239937 tw7155811831665666172 tw5373884164957775660 tw9554155845367336110 tw9403231002081123884 tw1887625211688382749 tw13044174806241882873 tw3458524825877328409 tw11898166040912791194 tw10450170273063904326 tw14615509785267722701 tw18060169605546666898 tw16567787828564885161 tw12638833462667344327 tw1746695307643910459 tw15144546268288617661 tw7093941501110808012 tw13811735766118406128 tw15457794833690926181 tw13836848034505436974 tw4405104978418575019 tw9231135560475681786 tw2748079365759666455 tw574127633823478936 tw8234508298036703346 tw6006507872459046467 tw15817997290493179076 tw14078500099614437070 tw7894677360107663532 tw4479353627910890855 tw5175145199778743242 tw1681828449141353730 tw14001251170483331828 tw12735128485825872225 tw6797911571552850723 tw311262336935048990 tw13652939373539543497 tw12849419432311609849 tw10216803667869298937 tw284287609699530306 tw9933089208460240798 tw17455566864492657899 tw16294980297636437565 tw3230503580747695084 tw8071146915222208333 tw17879152211443864822 tw2319809057620824883 tw15505028246630092593 tw3264289566164609323 tw12753739054893768870 tw227305754733508623 tw16856880340140498751 tw129458757935368525 tw13788343955421831075 tw11507639671233312181 tw6554736695985073201 tw7917206918139852201 tw1199868736607297901 tw15783047964821029889 tw301302967457544786 tw16023136505831343256 tw6808381771341440857 tw15049224097145716838 tw13637433445735908766 tw523972576490588791 tw13996778186310081728 tw17081732391245006601 tw1749371561063272511 tw8322538051328218957 tw13219430554629225104 tw929797065646363777 tw2511197195861644980 tw16647258426015761148 tw16121597341358069066 tw10742835929999179566 tw13142788536719532328 tw4690928452253367637 tw3424875483130921442 tw12254559392175533852 tw10903279417617726944 tw3255429953506594647 tw17536236670708446924 tw6264611060177837986 tw5770727269765534488 tw16949941255329708270 tw2587883202383303197 tw2253502130276980872 tw4359442113653597495 tw8629777251384996875 tw12691882573891600237 tw2580951728335825863 tw16831898029390660117 tw3068852980662979027 tw16303339589042037012 tw346499851622521352 tw1085971444127014736 tw17028939106459000895 tw7896818844943649454 tw16439754335029235759 tw4922051740763348282 tw6386586944817634280 tw7175326952540413747 tw17288461761032806583 tw105083144083042724 tw17921643441387797757 tw18435576122406018128 tw3540418353840139153 tw7526166963315922964 tw8351264153651795634 tw12054582466401898875 tw2238443528457882659 tw14148707768801598738 tw15107415882557948046 tw1740189631214459305 tw218725034381629590 tw9791518094516624975 tw2855165143275080820 tw9469838865528932401 tw7381127796473888881 tw6220981602054565461 tw3123483594155505636 tw2363302689255311439 tw18327382776961475219 tw18245690174536497667 tw9726855487363492080 tw8449895585863936425 tw8866865275810740758 tw7171809235172412815 tw5935107762652021140 tw5842161821586924834 tw13391824504534913178 tw1256103605263667813 tw9674230413997897924 tw14593424741627657757 tw11146224363621419456 tw9927923982419821685 tw330726535595906594 tw17039912633349823940 tw9245295118826123369 tw16233635089493952698 tw11707284208363074843 tw2851634147351650998 tw16551717818904183099 tw16971288907698449585 tw10968439233145895694 tw3325666398931156601 tw4924981925598911707 tw2397885848428627005 tw5500091760708361995 tw12683820819188275878 tw16075352780300355375 tw17279493627117933773 tw12254961049012009471 tw6886805951143675548 tw3776859661702634794 tw1060122198561982380 tw8989568755037908089 tw1879558971810280981 tw16092178010730984846 tw4912757880592282100 tw13652255241875543219 tw1349806022373567702 tw8322944184682172914 tw1743331995454484280 tw1419155016506879285 tw4821956106199647724 tw13235378810972946487 tw1434782924844266297 tw14429564292392682655 tw16977708420710886062:True)
set_option maxRecDepth 100000 in
set_option maxHeartbeats 0 in
theorem PySem.Challenge.cw_fourfold_k62_whole_areas_holds : PySem.Challenge.rw_fourfold_k62_whole_areas.Holds := by
 w_on;o_law;k_head;(case hw=>w_witness2)
 k_fill
 refine Lw.Sf (l:=PySem.Challenge.rw_fourfold_k62_whole_areas) rfl rfl (λw h Y=>PySem.W.kIn_of Y) ?F
 case F =>
  intro w mg fa h KX G hmg
  refine' Lw.Fn KX G hmg ?S ?z0 ?z1 ?z2 ?z3 ?z4 ?z5 ?z6 ?z7 ?z8 ?z9 ?z10 ?z11 ?z12 ?z13 ?z14 ?z15 ?z16 ?z17 ?z18 ?z19 ?z20 ?z21 ?z22 ?z23 ?z24 ?z25 ?z26 ?z27 ?z28 ?z29 ?z30 ?z31 ?z32 ?z33 ?z34 ?z35 ?z36 ?z37 ?z38 ?z39 ?z40 ?z41 ?z42 ?z43 ?z44 ?z45 ?z46 ?z47 ?z48 ?z49 ?z50 ?z51 ?z52 ?z53 ?z54 ?z55 ?z56 ?z57 ?z58 ?z59 ?z60 ?z61 ?z62 ?z63 ?z64 ?z65 ?z66 ?z67 ?z68 ?z69 ?z70 ?z71 ?z72 ?z73 ?z74 ?z75 ?z76 ?z77 ?z78 ?z79 ?z80 ?z81 ?z82 ?z83 ?z84 ?z85 ?z86 ?z87 ?z88 ?z89 ?z90 ?z91 ?z92 ?z93 ?z94 ?z95 ?z96 ?z97 ?z98 ?z99 ?z100 ?z101 ?z102 ?z103 ?z104 ?z105 ?z106 ?z107 ?z108 ?z109 ?z110 ?z111 ?z112 ?z113 ?z114 ?z115
  case S =>
   constructor
   all_goals
    refine' FF.FQ KX G (λ_ _ _ _ _ _ us hl=>by first | (obtain⟨_,rfl⟩:=FF.ln1 hl;rfl) | (obtain⟨_,_,rfl⟩:=FF.ln2 hl;rfl) | (obtain⟨_,_,_,rfl⟩:=FF.ln3 hl;rfl) | (obtain⟨_,_,_,_,rfl⟩:=FF.ln4 hl;rfl) | (obtain⟨_,_,_,_,_,rfl⟩:=FF.ln5 hl;rfl) | (cases Ii.mp hl;rfl)) ?a ?l ?c ?k
    (case a|l|c|k=>k_is)
  (case z0|z1|z2|z3|z4|z5=>show _=_;k_is)
  (case z6|z7|z8=>k_is)
  (case z9|z10|z11|z12|z13|z14|z15|z16|z17|z18|z19|z20|z21|z22|z23|z24|z25|z26=>show _=_;k_is)
  (case z27=>k_is)
  (case z28=>show _=_;k_is)
  (case z29=>k_is)
  (case z30|z31|z32|z33|z34|z35|z36|z37|z38|z39|z40=>show _=_;k_is)
  (case z41|z42|z43|z44=>k_exc)
  (case z45|z46|z47|z48|z49|z50|z51|z52|z53|z54|z55|z56|z57|z58|z59|z60|z61|z62|z63|z64|z65|z66|z67|z68|z69|z70|z71|z72|z73|z74|z75|z76|z77|z78|z79|z80|z81|z82|z83|z84|z85|z86|z87|z88|z89|z90|z91|z92|z93|z94|z95|z96|z97|z98|z99|z100|z101|z102|z103|z104|z105|z106|z107|z108|z109|z110|z111|z112|z113|z114|z115=>k_is)
end
