import PyProof.Rows.All
import Wide.All
import OpenK.AllK
import Wide.FinOn
import PyProof.EqAt
import PyProof.EqKinds
import PyProof.TupleCall
import PyProof.TupleKey
import PyProof.NeKinds
import PyProof.ExcArgsOwn
import PyProof.ExcAttrAll.ValueError
import PyProof.IsiH_tuple
import PyProof.Rows.TopTwo
import PyProof.ExcBaseAll.ValueError
import PyProof.RulesAs
import PyProof.RulesDel
import PyProof.Rows.Catch
import PyProof.WalkInts
import PyProof.SumWalkG
import PyProof.Rows.TupAssign
import PyProof.FactsAll.tuple_1
import PyProof.FactsAll.tuple_2
import PyProof.FactsAll.tuple_3
import PyProof.ZipIter
import PyProof.Rows.ZipGen
import PyProof.Draws
import PyProof.EnumMake
import PyProof.LayNew
import OpenK.KTop
import PyProof.DictWalks
import PyProof.ListRange
import PyProof.Rows.SortWalk
import PyProof.Rows.Range3
import PyProof.MinMaxWalk
import PyProof.SetKind
import PyProof.Rows.SetFrom
import PyProof.CollectWalk
import PyProof.FactsAll.set_1
import PyProof.FactsAll.set_2
import PyProof.StrCalls
import PyProof.StrBlock
import PyProof.StrBlockH
import PyProof.FactsAll.list_3
import KE.KMinKey
import PyProof.DictRoadsH
import KE.KLam
import KE.KDictOf
import PyProof.StrWalks
import PyProof.Rows.SortStr
import PyProof.StrCalls2
import PyProof.FString
import PyProof.AttrMissSeq
import KE.KItemsList
import KE.KEqDict
import PyProof.Commute
import PyProof.FactsAll.list_4
import KE.KSortTup
import Lean
import PySem.Challenge.RW_fourfold_k63_whole_areas_poured
set_option Elab.async false
set_option linter.all false
set_option maxRecDepth 100000
noncomputable section
namespace L2
open PySem PySem.Spec PyProof.Rows
abbrev Key:=Sum Int Str
def keyIs:Key→Value→Bool
 | .inl k,v=>Value.isInt k v
 | .inr x,v=>Value.isStrOf x v
def keyH (w:World):Key→Int
 | .inl k=>hashInt k
 | .inr x=>hashStr w x
theorem aW:∀ {k:Key} {v:Value},keyIs k v=true→(∃ i t,k=Sum.inl i∧v=Value.int i t)∨(∃ x t,k=Sum.inr x∧v=Value.str x t)
 | .inl i,v,h=>by
  obtain⟨t,e⟩:=Value.isInt_shape h
  exact .inl ⟨i,t,rfl,e⟩
 | .inr x,v,h=>by
  obtain⟨t,e⟩:=Value.isStrOf_shape h
  exact .inr ⟨x,t,rfl,e⟩
theorem t2 (i:Int)(t:Tok):keyIs (.inl i) (.int i t)=true:=by simp[keyIs,Value.isInt]
theorem t4 (x:Str)(t:Tok):keyIs (.inr x) (.str x t)=true:=by simp[keyIs,Value.isStrOf]
theorem zL (a b:Int):decide ((Sum.inl a:Key)=Sum.inl b)=(a==b):=by grind
theorem zM (a b:Str):decide ((Sum.inr a:Key)=Sum.inr b)=decide (a=b):=by grind
theorem zN (a:Int)(b:Str):decide ((Sum.inl a:Key)=Sum.inr b)=false:=decide_eq_false (fun q=>nomatch q)
theorem zO (a:Str)(b:Int):decide ((Sum.inr a:Key)=Sum.inl b)=false:=decide_eq_false (fun q=>nomatch q)
def mixKind (prog:Program)(w:World):PySem.KeyKind prog w Key where
 is:=keyIs
 hash:=keyH w
 inj:=fun v a b ha hb=>by
  rcases aW ha with ⟨i,t,rfl,rfl⟩ | ⟨x,t,rfl,rfl⟩
  ·rcases aW hb with ⟨j,u,rfl,e⟩ | ⟨y,u,rfl,e⟩
   ·injection e with e1 _;rw[e1]
   ·exact nomatch e
  ·rcases aW hb with ⟨j,u,rfl,e⟩ | ⟨y,u,rfl,e⟩
   ·exact nomatch e
   ·injection e with e1 _;rw[e1]
 byValue:=fun k v h=>by
  rcases aW h with ⟨i,t,rfl,rfl⟩ | ⟨x,t,rfl,rfl⟩<;>rfl
 pyHash:=fun hv h=>by
  rcases aW hv with ⟨i,t,rfl,rfl⟩ | ⟨x,t,rfl,rfl⟩
  ·exact wpAny_pyHash_int h
  ·exact wpAny_pyHash_str h
 eqBool:=fun hu hv h=>by
  rcases aW hu with ⟨i,t,rfl,rfl⟩ | ⟨x,t,rfl,rfl⟩
  ·rcases aW hv with ⟨j,u,rfl,rfl⟩ | ⟨y,u,rfl,rfl⟩
   ·rw[zL]at h;exact wpAny_eqBool_int h
   ·rw[zN]at h;exact SeqAt.EqAt.int_str i t y u _ _ _ _ h
  ·rcases aW hv with ⟨j,u,rfl,rfl⟩ | ⟨y,u,rfl,rfl⟩
   ·rw[zO]at h;exact SeqAt.EqAt.str_int x t j u _ _ _ _ h
   ·rw[zM]at h;exact wpAny_eqBool_str h
 «strs»:=fun k x t v h=>by
  rcases aW h with ⟨i,u,rfl,e⟩ | ⟨y,u,rfl,e⟩
  ·exact nomatch e
  ·injection e with e1 _
   subst e1
   cases v<;>rfl
theorem ou (prog:Program)(w:World)(i:Int)(t:Tok):(mixKind prog w).is (.inl i) (.int i t)=true:=t2 i t
theorem oy (prog:Program)(w:World)(x:Str)(t:Tok):(mixKind prog w).is (.inr x) (.str x t)=true:=t4 x t
end L2
namespace L2
open PySem PySem.Spec PyProof.Rows
inductive V where
 | non | bl (b:Bool) | int (i:Int) | str (x:Str) | byt (b:Array UInt8) | flt (b:UInt64) | ref (a:Addr) | ty (n:String)
 deriving DecidableEq
def RelV:V→Value→Prop
 | .non,u=>u=Value.none
 | .bl b,u=>u=Value.bool b
 | .int i,u=>∃ t,u=Value.int i t
 | .str x,u=>∃ t,u=Value.str x t
 | .byt b,u=>∃ t,u=Value.bytes b t
 | .flt b,u=>∃ t,u=Value.float b t
 | .ref a,u=>u=Value.ref a
 | .ty n,u=>u=Value.type n
abbrev Vals:List V→List Value→Prop:=Paired RelV
theorem Vals.length {xs:List V}{us:List Value}(r:Vals xs us):xs.length=us.length:=Paired.length r
theorem Vals.get:∀ {xs:List V} {us:List Value} {i:Nat} {x:V},Vals xs us→xs[i]?=some x→∃ u,us[i]?=some u∧RelV x u
 | _,_,_,_,.nil,e=>by simp at e
 | _,_,0,_,.cons r _,e=>by simp at e;subst e;exact⟨_,rfl,r⟩
 | _,_,i+1,x,.cons _ t,e=>by
  obtain⟨u,h1,h2⟩:=Vals.get t (by simpa using e)
  exact⟨u,by simpa using h1,h2⟩
theorem Vals.append:∀ {xs ys:List V} {us ws:List Value},Vals xs us→Vals ys ws→Vals (xs++ys) (us++ws)
 | _,_,_,_,.nil,s=>s
 | _,_,_,_,.cons r t,s=>.cons r (Vals.append t s)
theorem Vals.take:∀ {xs:List V} {us:List Value} (n:Nat),Vals xs us→Vals (xs.take n) (us.take n)
 | _,_,0,_=>.nil
 | _,_,_+1,.nil=>.nil
 | _,_,n+1,.cons r t=>.cons r (Vals.take n t)
theorem Vals.drop:∀ {xs:List V} {us:List Value} (n:Nat),Vals xs us→Vals (xs.drop n) (us.drop n)
 | _,_,0,r=>r
 | _,_,_+1,.nil=>.nil
 | _,_,n+1,.cons _ t=>Vals.drop n t
theorem Vals.none_of:∀ {xs:List V} {us:List Value} {i:Nat},Vals xs us→xs[i]?=none→us[i]?=none:=fun {xs us i} r e=>by
 have h1:=r.length
 have h2:xs.length≤i:=List.getElem?_eq_none_iff.mp e
 exact List.getElem?_eq_none_iff.mpr (by omega)
def RelO:Option V→Option Value→Prop
 | some v,some u=>RelV v u
 | none,none=>True
 | _,_=>False
def KV {κ:Type}:List (κ×V)→List (κ×Value)→Prop:=Paired fun (p:κ×V) (q:κ×Value)=>p.1=q.1∧RelV p.2 q.2
def kV:Key→V
 | .inl i=>.int i
 | .inr x=>.str x
inductive HO where
 | lst (xs:List V)
 | tup (xs:List V)
 | dK (kvs:List (Key×V)) | dT (kvs:List (List Key×V))
 | set (S:Int→Bool) (n:Nat)
 | ins (C dx:Addr) (fs:List (Str×V))
 | own (x:Addr)
 | xd (fs:List (Str×V))
 | met (f x:Addr)
 | rng (lo hi:Int)
 | frz (o:Obj) (u:HO)
 | tbl (ps:Array Value)
 | ext (φ:Heap→Prop)
abbrev Hp:=Addr→Option HO
def upd (H:Hp)(a:Addr)(o:HO):Hp:=fun b=>if b=a then some o else H b
theorem ar {H:Hp}{a:Addr}{o:HO}:upd H a o a=some o:=by unfold upd;rw[if_pos rfl]
theorem ak {H:Hp}{a b:Addr}{o:HO}(h:b≠a):upd H a o b=H b:=by unfold upd;rw[if_neg h]
theorem aQ {H:Hp}{a b:Addr}{o:HO}(h:H a=some o)(h':H b=none):a≠b:=by grind
def TupO (h:Heap)(a:Addr)(its:Array Value):Prop:=∃ o,h.get? a=some o∧o.cls=.type "tuple" ∧ o.dict=none∧∃ n,o.data=.seq its n
theorem TupO.is {h:Heap}{a:Addr}{its:Array Value}(p:TupO h a its):IsTup h a its:=let ⟨o,e,c,_,d⟩:=p;⟨o,e,c,d⟩
theorem TupO.lt {h:Heap}{a:Addr}{its:Array Value}(p:TupO h a its):a < h.objs.size:=p.is.lt
theorem TupO.new (h:Heap)(its:Array Value):TupO (h.push { cls:=.type "tuple",data:=.seq its }) h.objs.size its:=⟨_,Heap.get?_push_size _ rfl,rfl,rfl,_,rfl⟩
section
variable (P:Program)(w:World)
def ObjOk (H:Hp)(h:Heap)(a:Addr):HO→Prop
 | .lst xs=>xs.length≤sizeLine∧∃ (its:List Value) (n:Nat),Vals xs its∧h.get? a=some { cls:=.type "list",data:=.seq its.toArray n }
 | .tup xs=>xs.length≤sizeLine∧∃ its:List Value,Vals xs its∧TupO h a its.toArray
 | .dK kvs=>kvs.length≤sizeLine∧(a==sysModules)=false∧∃ vs,KV kvs vs∧h.DictOf (mixKind P w) a vs
 | .dT kvs=>kvs.length≤sizeLine∧(a==sysModules)=false∧∃ xs:List (List Key×Addr×Value),
   Paired (fun (p:List Key×V) (q:List Key×Addr×Value)=>p.1=q.1∧H q.2.1=some (.tup (p.1.map kV))∧RelV p.2 q.2.2) kvs xs ∧
   ∃ o es ep,h.get? a=some o∧o.ExactDict∧o.data=.dict es ep∧es.toList=xs.map (entryOfKey (tupleKind (mixKind P w)))∧(xs.map (·.1)).Nodup
 | .set S n=>h.SetOf (intKind P w) a S n
 | .ins C dx fs=>H dx=some (.own a)∧fs.length≤1000∧dx≠a∧h.get? a=some (PySem.W.instObj C dx) ∧
   ∃ mA,h.Ns1 dx mA∧(∀ f,RelO (fs.lookup f) (mA f))∧PySem.Within mA (fs.map (·.1))
 | .own _=>∃ o,h.get? a=some o
 | .xd fs=>∃ mA,h.Ns1 a mA∧∀ f,RelO (fs.lookup f) (mA f)
 | .rng lo hi=>∃ t u v,h.get? a=some { cls:=.type "range",data:=.fields #[.int lo t,.int hi u,.int 1 v] }
 | .frz o u=>h.get? a=some o∧ObjOk H h a u
 | .tbl ps=>h.get? a=some { cls:=.none,data:=.fields ps }
 | .met f x=>h.get? a=some (PySem.W.methodObj (.ref f) (.ref x))
 | .ext φ=>φ h∧(∃ o,h.get? a=some o)∧∀ h1 h2:Heap,φ h1→(∀ o,h1.get? a=some o→h2.get? a=some o)→φ h2
def HOk (H:Hp)(h:Heap):Prop:=∀ a o,H a=some o→ObjOk P w H h a o
end
section
variable {P:Program}{w:World}{H H':Hp}{h h':Heap}{a:Addr}{o:HO}
theorem ObjOk.lt (x:ObjOk P w H h a o):a < h.objs.size:=by
 cases o with
 | lst xs=>obtain⟨_,_,_,_,e⟩:=x;exact Heap.lt_size e
 | tup xs=>obtain⟨_,_,_,p⟩:=x;exact p.lt
 | dK kvs=>obtain⟨_,_,_,_,o,_,_,e,_⟩:=x;exact Heap.lt_size e
 | dT kvs=>obtain⟨_,_,_,_,o,_,_,e,_⟩:=x;exact Heap.lt_size e
 | set S n=>obtain⟨o,_,_,_,e,_⟩:=x;exact Heap.lt_size e
 | ins C dx fs=>obtain⟨_,_,_,e,_⟩:=x;exact Heap.lt_size e
 | own y=>obtain⟨_,e⟩:=x;exact Heap.lt_size e
 | xd fs=>obtain⟨_,⟨_,_,_,e,_⟩,_⟩:=x;exact Heap.lt_size e
 | rng lo hi=>obtain⟨_,_,_,e⟩:=x;exact Heap.lt_size e
 | frz ob u=>obtain⟨e,_⟩:=x;exact Heap.lt_size e
 | tbl ps=>exact Heap.lt_size (show h.get? a=some _ from x)
 | met f y=>exact Heap.lt_size (show h.get? a=some _ from x)
 | ext φ=>obtain⟨_,⟨_,e⟩,_⟩:=x;exact Heap.lt_size e
theorem Paired.mapP {α β:Type}{F G:α→β→Prop}:∀ {l₁:List α} {l₂:List β},Paired F l₁ l₂→(∀ a b,F a b→G a b)→Paired G l₁ l₂
 | _,_,.nil,_=>.nil
 | _,_,.cons r t,f=>.cons (f _ _ r) (Paired.mapP t f)
theorem ObjOk.stay (x:ObjOk P w H h a o)(k:∀ b u,(b=a∨H b=some (.own a))→h.get? b=some u→h'.get? b=some u)
  (ho:∀ b,H b=some (.own a)→H' b=some (.own a)) (ht:∀ b xs,H b=some (.tup xs)→H' b=some (.tup xs)):ObjOk P w H' h' a o:=by
 induction o with
 | lst xs=>obtain⟨z,its,n,r,e⟩:=x;exact⟨z,its,n,r,k _ _ (.inl rfl) e⟩
 | tup xs=>obtain⟨z,its,r,ob,e,c⟩:=x;exact⟨z,its,r,ob,k _ _ (.inl rfl) e,c⟩
 | dK kvs=>obtain⟨z,y,vs,r,ob,es,ep,e,c⟩:=x;exact⟨z,y,vs,r,ob,es,ep,k _ _ (.inl rfl) e,c⟩
 | dT kvs =>
  obtain⟨z,y,xs,r,ob,es,ep,e,c⟩:=x
  exact⟨z,y,xs,Paired.mapP r fun p q z=>⟨z.1,ht _ _ z.2.1,z.2.2⟩,ob,es,ep,k _ _ (.inl rfl) e,c⟩
 | set S n=>obtain⟨ob,es,ep,t,e,c⟩:=x;exact⟨ob,es,ep,t,k _ _ (.inl rfl) e,c⟩
 | ins C dx fs =>
  obtain⟨d,z,ne,e,mA,⟨od,es,ep,e2,c⟩,r⟩:=x
  exact⟨ho _ d,z,ne,k _ _ (.inl rfl) e,mA,⟨od,es,ep,k _ _ (.inr d) e2,c⟩,r⟩
 | own y=>obtain⟨ob,e⟩:=x;exact⟨ob,k _ _ (.inl rfl) e⟩
 | xd fs=>obtain⟨mA,⟨od,es,ep,e,c⟩,r⟩:=x;exact⟨mA,⟨od,es,ep,k _ _ (.inl rfl) e,c⟩,r⟩
 | rng lo hi=>obtain⟨t,u,v,e⟩:=x;exact⟨t,u,v,k _ _ (.inl rfl) e⟩
 | frz ob u ih=>obtain⟨e,q⟩:=x;exact⟨k _ _ (.inl rfl) e,ih q⟩
 | tbl ps =>
  have e:=x
  exact k a _ (.inl rfl) e
 | met f y =>
  have e:=x
  exact k a _ (.inl rfl) e
 | ext φ=>obtain⟨p,⟨o,e⟩,st⟩:=x;exact⟨st _ _ p fun o q=>k _ _ (.inl rfl) q,⟨o,k _ _ (.inl rfl) e⟩,st⟩
theorem HOk.lt (x:HOk P w H h)(e:H a=some o):a < h.objs.size:=(x a o e).lt
theorem HOk.fresh (x:HOk P w H h)(e:h.objs.size≤a):H a=none:=by
 cases q:H a with
 | none=>rfl
 | some u=>exact absurd (Nat.lt_of_lt_of_le (x.lt q) e) (Nat.lt_irrefl _)
theorem HOk.kept (x:HOk P w H h)(k:∀ b u,h.get? b=some u→h'.get? b=some u):HOk P w H h':=fun a o e =>
 (x a o e).stay (fun b u _ q=>k b u q) (fun _ q=>q) fun _ _ q=>q
theorem HOk.laid (x:HOk P w H h)(k:∀ b u,h.get? b=some u→h'.get? b=some u)(hp:h.objs.size≤a)(new:ObjOk P w (upd H a o) h' a o):HOk P w (upd H a o) h':=fun b u e=>by
 have hn:=x.fresh hp
 by_cases hb:b=a
 ·subst hb;rw[ar]at e;cases e;exact new
 ·rw[ak hb]at e
  exact(x b u e).stay (fun c v _ q=>k c v q) (fun c q=>by rw[ak (aQ q hn)];exact q) fun c xs q=>by rw[ak (aQ q hn)];exact q
end
def Rd (H:Hp)(a:Addr)(u:HO):Prop:=H a=some u∨∃ o,H a=some (.frz o u)
theorem Rd.ok {P:Program}{w:World}{H:Hp}{h:Heap}{a:Addr}{u:HO}(r:Rd H a u)(x:HOk P w H h):ObjOk P w H h a u:=by
 rcases r with r | ⟨o,r⟩
 ·exact x a u r
 ·obtain⟨_,q⟩:=x a _ r
  exact q
def Mut:Option HO→Prop
 | some (.lst _)=>True
 | some (.dK _)=>True
 | some (.dT _)=>True
 | some (.set _ _)=>True
 | some (.ins _ _ _)=>True
 | some (.ext _)=>True
 | _=>False
section
variable {P:Program}{w:World}{H:Hp}{h h':Heap}{x e:Addr}{o':HO}
theorem HOk.write (ok:HOk P w H h)(mu:Mut (H x))(he:e=x∨H e=some (.own x))(k:∀ b u,b≠e→h.get? b=some u→h'.get? b=some u)(heo:∃ u,h'.get? e=some u)
  (new:ObjOk P w (upd H x o') h' x o'):HOk P w (upd H x o') h':=fun b u q=>by
 have nown:∀ c y,H c=some (.own y)→c≠x:=fun c y r z=>by subst z;rw[r]at mu;exact mu
 have ntup:∀ c xs,H c=some (.tup xs)→c≠x:=fun c xs r z=>by subst z;rw[r]at mu;exact mu
 by_cases hb:b=x
 ·subst hb;rw[ar]at q;cases q;exact new
 ·rw[ak hb]at q
  by_cases hbe:b=e
  ·have q':H b=some (.own x):=by
    grind
   rw[q]at q';cases q'
   obtain⟨v,hv⟩:=heo
   exact⟨v,by rw[hbe];exact hv⟩
  ·refine(ok b u q).stay (fun c v hc r=>k c v ?_ r) (fun c r=>by rw[ak (nown c b r)];exact r) fun c xs r=>by rw[ak (ntup c xs r)];exact r
   grind
end
structure Un (fs ex:List Addr)(H H':Hp)(h h':Heap):Prop where
 keep:∀ b o,h.get? b=some o→H b=none→b∉fs→b∉ex→h'.get? b=some o
 slot:∀ b o,h.get? b=some o→H b=none→b∈fs→b∉ex→∃ sl,h'.get? b=some { o with slots:=sl }
 free:∀ b o,h.get? b=some o→H b=none→b∉ex→H' b=none
 there:∀ b o,h.get? b=some o→b∉ex→∃ o',h'.get? b=some o'
 tups:∀ b xs,H b=some (.tup xs)→H' b=some (.tup xs)
 frzs:∀ b o u,H b=some (.frz o u)→H' b=some (.frz o u)
 tbls:∀ b ps,H b=some (.tbl ps)→∃ more,H' b=some (.tbl (ps++more))
section
variable {fs fs' ex ex':List Addr}{H H1 H2:Hp}{h h1 h2 h':Heap}{a x e:Addr}{o:HO}
theorem Un.any (u:Un fs ex H H1 h h1){b:Addr}{ob:Obj}(q:h.get? b=some ob)(n:H b=none)(hx:b∉ex):∃ sl,h1.get? b=some { ob with slots:=sl }:=by
 by_cases hb:b∈fs
 ·exact u.slot b ob q n hb hx
 ·exact⟨ob.slots,u.keep b ob q n hb hx⟩
theorem Un.trans (a:Un fs ex H H1 h h1)(b:Un fs ex H1 H2 h1 h2):Un fs ex H H2 h h2 where
 keep:=fun c ob q n hc hx=>b.keep c ob (a.keep c ob q n hc hx) (a.free c ob q n hx) hc hx
 slot:=fun c ob q n hc hx=>by
  obtain⟨sl,e1⟩:=a.slot c ob q n hc hx
  obtain⟨sl',e2⟩:=b.slot c _ e1 (a.free c ob q n hx) hc hx
  exact⟨sl',e2⟩
 free:=fun c ob q n hx=>by
  obtain⟨o',e1⟩:=a.there c ob q hx
  exact b.free c o' e1 (a.free c ob q n hx) hx
 there:=fun c ob q hx=>by
  obtain⟨o',e1⟩:=a.there c ob q hx
  exact b.there c o' e1 hx
 tups:=fun c xs q=>b.tups c xs (a.tups c xs q)
 frzs:=fun c ob xs q=>b.frzs c ob xs (a.frzs c ob xs q)
 tbls:=fun c ps q=>by
  obtain⟨m1,e1⟩:=a.tbls c ps q
  obtain⟨m2,e2⟩:=b.tbls c _ e1
  exact⟨m1++m2,by rw[e2,Array.append_assoc]⟩
theorem Un.kept (k:∀ b u,h.get? b=some u→h'.get? b=some u):Un fs ex H H h h' :=
 ⟨fun b ob q _ _ _=>k b ob q,fun b ob q _ _ _=>⟨ob.slots,k b ob q⟩,fun _ _ _ n _=>n,fun b ob q _=>⟨ob,k b ob q⟩,fun _ _ q=>q,fun _ _ _ q=>q,fun _ ps q=>⟨#[],by rw[q];simp⟩⟩
theorem Un.refl:Un fs ex H H h h:=Un.kept fun _ _ q=>q
theorem Un.laid (k:∀ b u,h.get? b=some u→h'.get? b=some u)(hp:h.objs.size≤a)(hn:H a=none):Un fs ex H (upd H a o) h h' where
 keep:=fun b u q _ _ _=>k b u q
 slot:=fun b u q _ _ _=>⟨u.slots,k b u q⟩
 free:=fun b u q n _=>by rw[ak (Nat.ne_of_lt (Nat.lt_of_lt_of_le (Heap.lt_size q) hp))];exact n
 there:=fun b u q _=>⟨u,k b u q⟩
 tups:=fun b xs q=>by rw[ak (aQ q hn)];exact q
 frzs:=fun b u xs q=>by rw[ak (aQ q hn)];exact q
 tbls:=fun b ps q=>⟨#[],by rw[ak (aQ q hn),q];simp⟩
theorem Un.write (mu:Mut (H x))(he:e=x∨H e=some (.own x))(k:∀ b u,b≠e→h.get? b=some u→h'.get? b=some u)(heo:∃ u,h'.get? e=some u):Un fs ex H (upd H x o) h h':=by
 have hx:∀ b,H b=none→b≠x:=fun b n z=>by subst z;rw[n]at mu;exact mu
 have hb:∀ b,H b=none→b≠e:=fun b n z=>by
  subst z
  rcases he with r | r
  ·exact hx b n r
  ·rw[n]at r;cases r
 have hm:∀ b u,H b=some u→¬ Mut (some u)→b≠x:=fun b u q nm z=>by subst z;rw[q]at mu;exact nm mu
 refine⟨fun b u q n _ _=>k b u (hb b n) q,fun b u q n _ _=>⟨u.slots,k b u (hb b n) q⟩,fun b u q n _=>by rw[ak (hx b n)];exact n,fun b u q _=>?_,
  fun b xs q=>by rw[ak (hm b _ q fun z=>z)];exact q,fun b u xs q=>by rw[ak (hm b _ q fun z=>z)];exact q,fun b ps q=>⟨#[],by rw[ak (hm b _ q fun z=>z),q];simp⟩⟩
 by_cases hbe:b=e
 ·subst hbe;exact heo
 ·exact⟨u,k b u hbe q⟩
theorem Un.mono (u:Un fs ex H H1 h h1)(hs:∀ b∈fs,b∈fs')(hx:∀ b∈ex,b∈ex'):Un fs' ex' H H1 h h1 :=
 ⟨fun b ob q n hb he=>u.keep b ob q n (fun z=>hb (hs b z)) fun z=>he (hx b z),fun _ _ q n _ he=>u.any q n fun z=>he (hx _ z),fun b ob q n he=>u.free b ob q n fun z=>he (hx b z),fun b ob q he=>u.there b ob q fun z=>he (hx b z),u.tups,u.frzs,u.tbls⟩
end
def trk (h:Heap)(H:Hp):List Addr:=(List.range h.objs.size).filter fun a=>(H a).isSome
def hidT (h:Heap)(H:Hp):Heap:=PySem.W.hideAll h (trk h H)
theorem t5 (h:Heap)(H:Hp):(hidT h H).objs.size=h.objs.size:=PySem.W.hideAll_size _ _
theorem vM {h:Heap}{H:Hp}{b:Addr}{o:Obj}(e:h.get? b=some o)(n:H b=none):(hidT h H).get? b=some o :=
 PySem.W.hideAll_get _ e fun hm=>by
  have q:=(List.mem_filter.mp hm).2
  rw[n]at q;simp at q
theorem yf {h:Heap}{H:Hp}{b:Addr}{o:Obj}(e:(hidT h H).get? b=some o):h.get? b=some o∧H b=none:=by
 have e':=PySem.W.of_hideAll (trk h H) e
 refine⟨e',?_⟩
 cases q:H b with
 | none=>rfl
 | some x =>
  have hm:b∈trk h H:=List.mem_filter.mpr ⟨List.mem_range.mpr (Heap.lt_size e'),by simp[q]⟩
  have z:(hidT h H).get? b=none:=PySem.W.hideAll_none (trk h H) hm
  rw[z]at e;cases e
def allNews (g h:Heap)(L:Addr):List (Addr×Obj):=(List.range h.objs.size).filterMap fun a=>if a=L∨(g.get? a).isSome=true then none else (h.get? a).map fun o=>(a,o)
def rest (g h:Heap)(L d:Addr):List (Addr×Obj):=(allNews g h L).filter fun p=>decide (p.1≠d)
end L2
namespace L2
open PySem PySem.Spec PyProof.Rows
structure Mod (K:PySem.W.Frag)(mg:Str→Option Value)(base:Heap):Prop where
 kin:K.In base
 glob:base.Ns mainGlobals mg
 blt:∃ mb,base.Ns builtinsNs mb∧∀ x:Str,x ≠ "__name__" → mb x=bootBuiltins x
 nolimit:base.NoLimit
structure Cx where
 prog:Program
 w:World
 K:PySem.W.Frag
 mg:Str→Option Value
 base:Heap
 A:Around
 N:List Str
 s₀:Shared
 H₀:Hp
 env:Env
 outer:List Env
 stack:List Env
 ex:List Addr
 fn:Str→Bool
 calm:Bool
 pn:List (Addr×Obj)
 xe:Value→Shared→Prop
def frs (l:List Env):List Addr:=l.filterMap (·.frame)
abbrev Cx.fs (X:Cx):List Addr:=frs X.outer
def Vis (sc:Scope)(x:Str):Prop:=sc.names.lookup x=some .local∨sc.names.lookup x=some .cell∨sc.names.lookup x=some .free
def Loc (sc:Scope)(x:Str):Prop:=sc.names.lookup x=some .local∨sc.names.lookup x=some .cell
def Look (env:Env)(h:Heap)(m:Str→Option Value)(x:Str)(u:Value):Prop :=
 (env.kindOf x=some .local∧m x=some u)∨((env.kindOf x=some .cell∨env.kindOf x=some .free)∧∃ c,env.cells.lookup x=some c∧h.IsCell c (some u))
structure Cx.Ok (X:Cx):Prop where
 mod:Mod X.K X.mg X.base
 kind:X.env.scope.kind=.function
 glob:X.env.globals=mainGlobals
 blt:X.env.builtins=builtinsNs
 above:X.s₀.heap.objs.size≤X.env.locals
 inj:∀ x y c,X.env.cells.lookup x=some c→X.env.cells.lookup y=some c→x=y
 has:∀ x,(X.env.kindOf x=some .cell∨X.env.kindOf x=some .free)→∃ c,X.env.cells.lookup x=some c
 cab:∀ x c,X.fn x=true→X.env.cells.lookup x=some c→X.s₀.heap.objs.size≤c
 hd:X.calm=true→X.A.handled=none
 frames:X.A.frames=some X.stack
 stk:X.stack=X.outer∨(X.stack=X.env::X.outer∧X.env.frame=some X.env.locals)
 exf:∀ b∈X.ex,b≠X.env.locals∧∀ x c,X.env.cells.lookup x=some c→c≠b
 bs:∀ b o,X.base.get? b=some o→X.s₀.heap.get? b=some o∧X.H₀ b=none
 bsz:X.base.objs.size≤X.s₀.heap.objs.size
 noex:∀ b o,X.base.get? b=some o→b∉X.ex
 exfs:∀ b∈X.ex,b∉X.fs
 funs:X.s₀.heap.FunFrames X.base X.outer
 frf:∀ b∈X.fs,X.H₀ b=none
structure Inv (X:Cx)(pins:List (Addr×Obj))(σ:List (Option V))(H:Hp)(s:Shared):Prop where
 ok:X.Ok
 os:s.os=X.s₀.os
 bare:AllBare s.gens
 base:Un X.fs X.ex X.H₀ H X.s₀.heap s.heap
 loc:∃ m,s.heap.Ns X.env.locals m∧∀ (i:Nat) (x:Str) (v:V),X.N[i]?=some x→σ[i]?=some (some v)→Vis X.env.scope x→∃ u,RelV v u∧Look X.env s.heap m x u
 cell:∀ x c,X.env.cells.lookup x=some c→∃ v,s.heap.IsCell c v
 free:H X.env.locals=none
 freeC:∀ x c,X.env.cells.lookup x=some c→H c=none
 pin:∀ p∈X.pn++pins,s.heap.get? p.1=some p.2∧H p.1=none∧p.1≠X.env.locals∧p.1∉X.fs∧∀ v,p.2.data≠.cell v
 hok:HOk X.prog X.w H s.heap
 len:σ.length=X.N.length
section
variable {X:Cx}{pins:List (Addr×Obj)}{σ:List (Option V)}{H H':Hp}{s:Shared}{h':Heap}
theorem Cx.Ok.nofr (ok:X.Ok){b:Addr}{o:Obj}(e:X.base.get? b=some o):b∉X.fs:=fun hb=>by
 have:=(ok.funs.mem hb).1
 grind
theorem Inv.bs (I:Inv X pins σ H s):∀ b o,X.base.get? b=some o→s.heap.get? b=some o∧H b=none:=fun b o e =>
 ⟨I.base.keep b o (I.ok.bs b o e).1 (I.ok.bs b o e).2 (I.ok.nofr e) (I.ok.noex b o e),I.base.free b o (I.ok.bs b o e).1 (I.ok.bs b o e).2 (I.ok.noex b o e)⟩
theorem Inv.bk (I:Inv X pins σ H s):∀ b o,X.base.get? b=some o→s.heap.get? b=some o:=fun b o e=>(I.bs b o e).1
theorem Inv.mod (I:Inv X pins σ H s):Mod X.K X.mg X.base:=I.ok.mod
theorem Inv.kIn (I:Inv X pins σ H s):X.K.In s.heap:=I.ok.mod.kin.keeps I.bk
theorem Inv.fr (I:Inv X pins σ H s):∃ m,Fr X.base X.env.locals s.heap m :=
 let ⟨m,hn,_⟩:=I.loc
 ⟨m,hn,I.bk,Nat.le_trans I.ok.bsz I.ok.above⟩
theorem Inv.lt (I:Inv X pins σ H s):X.env.locals < s.heap.objs.size:=let ⟨_,hn,_⟩:=I.loc;hn.lt
theorem Inv.sz (I:Inv X pins σ H s):X.s₀.heap.objs.size≤s.heap.objs.size:=Nat.le_trans I.ok.above (Nat.le_of_lt I.lt)
theorem Inv.nofs (I:Inv X pins σ H s){a:Addr}(h:s.heap.objs.size≤a):a∉X.fs:=fun hb=>by
 obtain⟨_,o,ho,_⟩:=I.ok.funs.mem hb
 exact absurd (Nat.lt_of_lt_of_le (Heap.lt_size ho) (Nat.le_trans I.sz h)) (Nat.lt_irrefl _)
theorem Inv.cne (I:Inv X pins σ H s):∀ x c,X.env.cells.lookup x=some c→c≠X.env.locals:=fun x c e z=>by
 obtain⟨v,o,ho,hd⟩:=I.cell x c e
 obtain⟨m,⟨o',es,ep,ho',hd',_⟩,_⟩:=I.loc
 grind
theorem Inv.funs (I:Inv X pins σ H s):s.heap.FunFrames X.base X.outer:=by
 have all:∀ (l:List Env),(∀ b∈frs l,b∈X.fs)→X.s₀.heap.FunFrames X.base l→s.heap.FunFrames X.base l:=by
  intro l
  induction l with
  | nil=>intro _ _;trivial
  | cons env r ih =>
   intro hs hl
   obtain⟨hk,⟨L,o,hf,hn,ho,hd⟩,hr⟩:=hl
   have hL:L∈X.fs:=hs L (by unfold frs;rw[List.filterMap_cons,hf];exact List.mem_cons_self)
   obtain⟨sl,e⟩:=I.base.slot L o ho (I.ok.frf L hL) hL fun z=>I.ok.exfs L z hL
   exact⟨hk,⟨L,_,hf,hn,e,hd⟩,ih (fun b hb=>hs b (by unfold frs;rw[List.filterMap_cons,hf];exact List.mem_cons_of_mem _ hb)) hr⟩
 exact all X.outer (fun _ hb=>hb) I.ok.funs
theorem Inv.stack (I:Inv X pins σ H s):s.heap.FunFrames X.base X.stack:=by
 rcases I.ok.stk with e | ⟨e,hf⟩
 ·rw[e];exact I.funs
 ·rw[e]
  obtain⟨m,hn,_⟩:=I.loc
  refine .cons (by rw[I.ok.kind];decide) hf hn ?_ I.funs
  exact Heap.get?_none_of_le (Nat.le_trans I.ok.bsz I.ok.above)
theorem Inv.stkSub (I:Inv X pins σ H s):∀ b∈frs X.stack,b∈X.env.locals::X.fs:=fun b hb=>by
 rcases I.ok.stk with e | ⟨e,hf⟩
 ·grind
 ·rw[e]at hb
  unfold frs at hb
  rw[List.filterMap_cons,hf]at hb
  exact hb
theorem Inv.stkFree (I:Inv X pins σ H s):∀ b∈frs X.stack,H b=none:=fun b hb=>by
 rcases List.mem_cons.mp (I.stkSub b hb) with e | hb
 ·rw[e];exact I.free
 ·obtain⟨_,o,ho,_⟩:=I.ok.funs.mem hb
  exact I.base.free b o ho (I.ok.frf b hb) fun z=>I.ok.exfs b z hb
theorem Inv.step {g':Array GenState}{t':Nat}{d':Drawn}{ch:List Addr}(I:Inv X pins σ H s)
  (hch:∀ b∈ch,(b∈X.ex∨X.s₀.heap.objs.size≤b)∧b≠X.env.locals∧(∀ x c,X.env.cells.lookup x=some c→c≠b)∧∀ p∈X.pn++pins,p.1≠b)
  (keep:∀ b o,b≠X.env.locals→b∉X.fs→b∉ch→s.heap.get? b=some o→H b=none→h'.get? b=some o)
  (slot:∀ b o,b≠X.env.locals→b∈X.fs→b∉ch→s.heap.get? b=some o→H b=none→∃ sl,h'.get? b=some { o with slots:=sl }) (free:∀ b o,b∉ch→s.heap.get? b=some o→H b=none→H' b=none)
  (there:∀ b o,b∉ch→s.heap.get? b=some o→∃ o',h'.get? b=some o')
  (tups:∀ b xs,H b=some (.tup xs)→H' b=some (.tup xs)) (frzs:∀ b o u,H b=some (.frz o u)→H' b=some (.frz o u)) (tbls:∀ b ps,H b=some (.tbl ps)→∃ more,H' b=some (.tbl (ps++more)))
  (ns:∀ m,s.heap.Ns X.env.locals m→h'.Ns X.env.locals m) (hok:HOk X.prog X.w H' h') (hg:AllBare g') :
  Inv X pins σ H' { s with heap:=h',gens:=g',drawn:=d',toks:=t' }:=by
 have neL:∀ b o,X.s₀.heap.get? b=some o→b≠X.env.locals:=fun b o e=>Nat.ne_of_lt (Nat.lt_of_lt_of_le (Heap.lt_size e) I.ok.above)
 have neC:∀ b o,X.s₀.heap.get? b=some o→b∉X.ex→b∉ch:=fun b o e hx hb=>by
  rcases(hch b hb).1 with z | z
  ·exact hx z
  ·exact absurd (Nat.lt_of_lt_of_le (Heap.lt_size e) z) (Nat.lt_irrefl _)
 have cellK:∀ x c,X.env.cells.lookup x=some c→∀ v,s.heap.IsCell c v→h'.IsCell c v:=fun x c e v ⟨o,ho,hd⟩=>by
  have nch:c∉ch:=fun z=>(hch c z).2.2.1 x c e rfl
  by_cases hc:c∈X.fs
  ·obtain⟨sl,q⟩:=slot c o (I.cne x c e) hc nch ho (I.freeC x c e)
   exact⟨_,q,hd⟩
  ·exact⟨o,keep c o (I.cne x c e) hc nch ho (I.freeC x c e),hd⟩
 refine⟨I.ok,I.os,hg,⟨fun b o e n hb hx=>?_,fun b o e n hb hx=>?_,fun b o e n hx=>?_,fun b o e hx=>?_,fun b xs e=>tups b xs (I.base.tups b xs e),fun b o xs e=>frzs b o xs (I.base.frzs b o xs e),fun b ps e=>?_⟩,?_,fun x c e=>?_,?_,fun x c e=>?_,fun p hp=>?_,hok,I.len⟩
 ·exact keep b o (neL b o e) hb (neC b o e hx) (I.base.keep b o e n hb hx) (I.base.free b o e n hx)
 ·obtain⟨sl,e1⟩:=I.base.slot b o e n hb hx
  obtain⟨sl',e2⟩:=slot b _ (neL b o e) hb (neC b o e hx) e1 (I.base.free b o e n hx)
  exact⟨sl',e2⟩
 ·obtain⟨o',e1⟩:=I.base.there b o e hx
  exact free b o' (neC b o e hx) e1 (I.base.free b o e n hx)
 ·obtain⟨o',e1⟩:=I.base.there b o e hx
  exact there b o' (neC b o e hx) e1
 ·obtain⟨m1,e1⟩:=I.base.tbls b ps e
  obtain⟨m2,e2⟩:=tbls b _ e1
  exact⟨m1++m2,by rw[e2,Array.append_assoc]⟩
 ·obtain⟨m,hn,hl⟩:=I.loc
  refine⟨m,ns m hn,fun i x v e1 e2 e3=>?_⟩
  obtain⟨u,r,l⟩:=hl i x v e1 e2 e3
  refine⟨u,r,?_⟩
  rcases l with l | ⟨k,c,e,z⟩
  ·exact .inl l
  ·exact .inr ⟨k,c,e,cellK x c e _ z⟩
 ·obtain⟨v,z⟩:=I.cell x c e
  exact⟨v,cellK x c e v z⟩
 ·obtain⟨m,⟨o,_,_,ho,_⟩,_⟩:=I.loc
  exact free _ o (fun z=>(hch _ z).2.1 rfl) ho I.free
 ·obtain⟨v,o,ho,hd⟩:=I.cell x c e
  exact free c o (fun z=>(hch c z).2.2.1 x c e rfl) ho (I.freeC x c e)
 ·obtain⟨e,n,ne,nf,d⟩:=I.pin p hp
  have nch:p.1∉ch:=fun z=>(hch p.1 z).2.2.2 p hp rfl
  exact⟨keep p.1 p.2 ne nf nch e n,free p.1 p.2 nch e n,ne,nf,d⟩
theorem Inv.un {t':Nat}(I:Inv X pins σ H s)(u:Un X.fs [] H H' s.heap h')(hok:HOk X.prog X.w H' h'):Inv X pins σ H' { s with heap:=h',toks:=t' }:=by
 obtain⟨m,⟨o,es,ep,ho,r⟩,_⟩:=id I.loc
 obtain⟨sl,hL⟩:=u.any ho I.free (by simp)
 exact I.step (ch:=[]) (fun _ z=>nomatch z) (fun b o _ hb _ e n=>u.keep b o e n hb (by simp)) (fun b o _ hb _ e n=>u.slot b o e n hb (by simp)) (fun b o _ e n=>u.free b o e n (by simp)) (fun b o _ e=>u.there b o e (by simp)) u.tups u.frzs u.tbls (fun m' hm=>by
  obtain⟨o',es',ep',ho',r'⟩:=hm
  rw[ho]at ho';cases ho'
  exact⟨_,es',ep',hL,r'⟩) hok I.bare
theorem Inv.call {g':Array GenState}{t':Nat}{d':Drawn}{ch:List Addr}(I:Inv X pins σ H s)(u:Un (frs X.stack) ch H H' s.heap h')(hok:HOk X.prog X.w H' h')(hg:AllBare g')
  (hch:∀ b∈ch,(b∈X.ex∨X.s₀.heap.objs.size≤b)∧b≠X.env.locals∧(∀ x c,X.env.cells.lookup x=some c→c≠b)∧∀ p∈X.pn++pins,p.1≠b) :
  Inv X pins σ H' { s with heap:=h',gens:=g',drawn:=d',toks:=t' }:=by
 obtain⟨m,⟨o,es,ep,ho,r⟩,_⟩:=id I.loc
 obtain⟨sl,hL⟩:=u.any ho I.free fun z=>(hch _ z).2.1 rfl
 exact I.step hch (fun b o hL hb hc e n=>u.keep b o e n (fun z=>(List.mem_cons.mp (I.stkSub b z)).elim hL hb) hc) (fun b o _ _ hc e n=>u.any e n hc) (fun b o hc e n=>u.free b o e n hc) (fun b o hc e=>u.there b o e hc) u.tups u.frzs u.tbls (fun m' hm=>by
  obtain⟨o',es',ep',ho',r'⟩:=hm
  rw[ho]at ho';cases ho'
  exact⟨_,es',ep',hL,r'⟩) hok hg
theorem Inv.turned {t':Nat}{it:Addr}(I:Inv X pins σ H s)(k:∀ b o,b≠it→s.heap.get? b=some o→h'.get? b=some o)(hn:H it=none)(hL:it≠X.env.locals)
  (h1:it∈X.ex∨X.s₀.heap.objs.size≤it) (h2:∀ x c,X.env.cells.lookup x=some c→c≠it) (h3:∀ p∈X.pn++pins,p.1≠it):Inv X pins σ H { s with heap:=h',toks:=t' }:=by
 have nit:∀ b u,H b=some u→b≠it:=fun b u e z=>by rw[z,hn]at e;cases e
 refine I.step (ch:=[it]) (fun b hb=>?_) (fun b o _ _ hc e _=>k b o (fun z=>hc (by simp[z])) e) (fun b o _ _ hc e _=>⟨o.slots,k b o (fun z=>hc (by simp[z])) e⟩) (fun _ _ _ _ n=>n)
  (fun b o hc e=>⟨o,k b o (fun z=>hc (by simp[z])) e⟩) (fun _ _ e=>e) (fun _ _ _ e=>e) (fun b ps e=>⟨#[],by rw[e];simp⟩) (fun m hm=>?_) (fun b u e=>?_) I.bare
 ·have e:b=it:=by simpa using hb
  subst e
  exact⟨h1,hL,h2,h3⟩
 ·obtain⟨o,es,ep,ho,r⟩:=hm
  exact⟨o,es,ep,k _ o (Ne.symm hL) ho,r⟩
 ·refine(I.hok b u e).stay (fun c v hc q=>k c v ?_ q) (fun _ q=>q) fun _ _ q=>q
  rcases hc with z | z
  ·rw[z];exact nit b u e
  ·exact nit c _ z
theorem Inv.tok (I:Inv X pins σ H s)(t:Nat):Inv X pins σ H { s with toks:=t }:=I.un Un.refl I.hok
theorem Inv.kept {t':Nat}(I:Inv X pins σ H s)(k:∀ b u,s.heap.get? b=some u→h'.get? b=some u):Inv X pins σ H { s with heap:=h',toks:=t' }:=I.un (Un.kept k) (I.hok.kept k)
theorem Inv.laid {a:Addr}{o:HO}{t':Nat}(I:Inv X pins σ H s)(k:∀ b u,s.heap.get? b=some u→h'.get? b=some u)(hp:s.heap.objs.size≤a)(new:ObjOk X.prog X.w (upd H a o) h' a o) :
  Inv X pins σ (upd H a o) { s with heap:=h',toks:=t' }:=I.un (Un.laid k hp (I.hok.fresh hp)) (I.hok.laid k hp new)
theorem Inv.write {x e:Addr}{o:HO}{t':Nat}(I:Inv X pins σ H s)(mu:Mut (H x))(he:e=x∨H e=some (.own x))(k:∀ b u,b≠e→s.heap.get? b=some u→h'.get? b=some u)(heo:∃ u,h'.get? e=some u)
  (new:ObjOk X.prog X.w (upd H x o) h' x o):Inv X pins σ (upd H x o) { s with heap:=h',toks:=t' }:=I.un (Un.write mu he k heo) (I.hok.write mu he k heo new)
theorem Inv.pins_of {pins':List (Addr×Obj)}(I:Inv X pins σ H s)(h:∀ p∈pins',s.heap.get? p.1=some p.2∧H p.1=none∧p.1≠X.env.locals∧p.1∉X.fs∧∀ v,p.2.data≠.cell v):Inv X pins' σ H s :=
 ⟨I.ok,I.os,I.bare,I.base,I.loc,I.cell,I.free,I.freeC,fun p hp=>(List.mem_append.mp hp).elim (fun z=>I.pin p (List.mem_append_left _ z)) (h p),I.hok,I.len⟩
theorem oz {N:List Str}(hN:N.Nodup){i j:Nat}{x:Str}(a:N[i]?=some x)(b:N[j]?=some x):i=j:=by
 obtain⟨h1,e1⟩:=List.getElem?_eq_some_iff.mp a
 obtain⟨h2,e2⟩:=List.getElem?_eq_some_iff.mp b
 exact(List.getElem_inj hN).mp (e1.trans e2.symm)
theorem mP {M:Model}{A:Around}{E:Value→Shared→Prop}{i:Nat}{x:Str}{v:V}{u:Value}{Q:Unit→Shared→Prop}(I:Inv X pins σ H s)(hN:X.N.Nodup)(hi:X.N[i]?=some x)(hx:Loc X.env.scope x)(r:RelV v u)
  (h:∀ s',Inv X pins (σ.set i (some v)) H s'→(∃ a,Heap.SameBut a s.heap s'.heap∧(a=X.env.locals∨X.env.cells.lookup x=some a))→Q () s') (hf:X.fn x=true∨X.env.scope.names.lookup x=some .local:=by first | exact .inl rfl | exact .inr rfl | assumption):wpAny M A (storeName X.env x u) Q E s:=by
 obtain⟨m,hn,hl⟩:=id I.loc
 have hcls:(X.env.scope.kind==.class||(X.env.scope.kind==.module&&X.env.locals != X.env.globals))=false:=by rw[I.ok.kind];rfl
 have hiσ:i < σ.length:=by rw[I.len];exact(List.getElem?_eq_some_iff.mp hi).1
 have cne:=I.cne
 have tracked:∀ {a:Addr} {h':Heap},(∃ o,s.heap.get? a=some o∧H a=none)→Heap.SameBut a s.heap h'→HOk X.prog X.w H h':=fun {a h'} ha hs b ob e=>by
  obtain⟨_,_,hfree⟩:=ha
  refine(I.hok b ob e).stay (fun c w' hc q=>(hs.2 c ?_).trans q) (fun _ q=>q) fun _ _ q=>q
  rintro rfl
  rcases hc with rfl | hc
  ·rw[hfree]at e;cases e
  ·rw[hfree]at hc;cases hc
 rcases hx with hk | hk
 ·refine wpAny_storeName_local hk hn (fun h' hn' hs=>?_) hcls
  obtain⟨oL,_,_,hoL,_⟩:=id hn
  refine h _ ⟨I.ok,I.os,I.bare,⟨fun b o e n hb hx=>?_,fun b o e n hb hx=>?_,I.base.free,fun b o e hx=>?_,I.base.tups,I.base.frzs,I.base.tbls⟩,⟨_,hn',fun j y v' e1 e2 e3=>?_⟩,fun y c e=>?_,I.free,I.freeC,fun p hp=>?_,tracked ⟨oL,hoL,I.free⟩ hs,by simpa using I.len⟩ ⟨_,hs,.inl rfl⟩
  ·exact(hs.2 b (Nat.ne_of_lt (Nat.lt_of_lt_of_le (Heap.lt_size e) I.ok.above))).trans (I.base.keep b o e n hb hx)
  ·obtain⟨sl,e1⟩:=I.base.slot b o e n hb hx
   exact⟨sl,(hs.2 b (Nat.ne_of_lt (Nat.lt_of_lt_of_le (Heap.lt_size e) I.ok.above))).trans e1⟩
  ·obtain⟨o',e1⟩:=I.base.there b o e hx
   exact⟨o',(hs.2 b (Nat.ne_of_lt (Nat.lt_of_lt_of_le (Heap.lt_size e) I.ok.above))).trans e1⟩
  ·by_cases hj:j=i
   ·subst hj
    rw[hi]at e1;cases e1
    rw[List.getElem?_set_self hiσ]at e2
    cases e2
    exact⟨u,r,.inl ⟨hk,by simp⟩⟩
   ·rw[List.getElem?_set_ne (Ne.symm hj)]at e2
    obtain⟨u',r',q⟩:=hl j y v' e1 e2 e3
    refine⟨u',r',?_⟩
    rcases q with ⟨k,e⟩ | ⟨k,c,e,z⟩
    ·refine .inl ⟨k,?_⟩
     have:y≠x:=fun e=>hj (oz hN e1 (e ▸ hi))
     simp[this,e]
    ·exact .inr ⟨k,c,e,z.sameBut hs (cne y c e)⟩
  ·obtain⟨w',z⟩:=I.cell y c e
   exact⟨w',z.sameBut hs (cne y c e)⟩
  ·obtain⟨e,n,ne,nf,d⟩:=I.pin p hp
   exact⟨(hs.2 p.1 ne).trans e,n,ne,nf,d⟩
 ·have hfn:X.fn x=true:=by
   rcases hf with z | z
   ·exact z
   ·rw[z]at hk;cases hk
  obtain⟨c,hc⟩:=I.ok.has x (.inl hk)
  obtain⟨w',z⟩:=I.cell x c hc
  refine wpAny_storeName_cell I.ok.kind hk hc z (fun h' hc' hs=>?_)
  obtain⟨oc,hoc,hocd⟩:=id z
  refine h { s with heap:=h' } ⟨I.ok,I.os,I.bare,⟨fun b o e n hb hx=>?_,fun b o e n hb hx=>?_,I.base.free,fun b o e hx=>?_,I.base.tups,I.base.frzs,I.base.tbls⟩,⟨m,hn.sameBut hs (Ne.symm (cne x c hc)),fun j y v' e1 e2 e3=>?_⟩,fun y c' e=>?_,I.free,I.freeC,fun p hp=>?_,tracked ⟨oc,hoc,I.freeC x c hc⟩ hs,by simpa using I.len⟩ ⟨c,hs,.inr hc⟩
  ·exact(hs.2 b (Nat.ne_of_lt (Nat.lt_of_lt_of_le (Heap.lt_size e) (I.ok.cab x c hfn hc)))).trans (I.base.keep b o e n hb hx)
  ·obtain⟨sl,e1⟩:=I.base.slot b o e n hb hx
   exact⟨sl,(hs.2 b (Nat.ne_of_lt (Nat.lt_of_lt_of_le (Heap.lt_size e) (I.ok.cab x c hfn hc)))).trans e1⟩
  ·obtain⟨o',e1⟩:=I.base.there b o e hx
   exact⟨o',(hs.2 b (Nat.ne_of_lt (Nat.lt_of_lt_of_le (Heap.lt_size e) (I.ok.cab x c hfn hc)))).trans e1⟩
  ·by_cases hj:j=i
   ·subst hj
    rw[hi]at e1;cases e1
    rw[List.getElem?_set_self hiσ]at e2
    cases e2
    exact⟨u,r,.inr ⟨.inl hk,c,hc,hc'⟩⟩
   ·rw[List.getElem?_set_ne (Ne.symm hj)]at e2
    obtain⟨u',r',q⟩:=hl j y v' e1 e2 e3
    refine⟨u',r',?_⟩
    rcases q with q | ⟨k,c',e,z'⟩
    ·exact .inl q
    ·refine .inr ⟨k,c',e,z'.sameBut hs ?_⟩
     rintro rfl
     exact hj (oz hN e1 (I.ok.inj _ _ _ e hc ▸ hi))
  ·by_cases hcc:c'=c
   ·subst hcc;exact⟨_,hc'⟩
   ·obtain⟨w2,z2⟩:=I.cell y c' e
    exact⟨w2,z2.sameBut hs hcc⟩
  ·obtain⟨e,n,ne,nf,d⟩:=I.pin p hp
   refine⟨(hs.2 p.1 ?_).trans e,n,ne,nf,d⟩
   intro q
   rw[q,hoc]at e
   have q':oc=p.2:=Option.some.inj e
   exact d w' (by rw[← q'];exact hocd)
theorem hJ {M:Model}{A:Around}{E:Value→Shared→Prop}{i:Nat}{x:Str}{v:V}{u:Value}{Q:Unit→Shared→Prop}(I:Inv X pins σ H s)(hN:X.N.Nodup)(hi:X.N[i]?=some x)(hx:Loc X.env.scope x)(r:RelV v u)
  (h:∀ s',Inv X pins (σ.set i (some v)) H s'→Q () s') (hf:X.fn x=true∨X.env.scope.names.lookup x=some .local:=by first | exact .inl rfl | exact .inr rfl | assumption):wpAny M A (storeName X.env x u) Q E s :=
 mP I hN hi hx r (fun s' I' _=>h s' I') hf
theorem Inv.call' {s':Shared}{ch:List Addr}(I:Inv X pins σ H s)(ho:s'.os=s.os)(u:Un (frs X.stack) ch H H' s.heap s'.heap)(hok:HOk X.prog X.w H' s'.heap)(hg:AllBare s'.gens)
  (hch:∀ b∈ch,(b∈X.ex∨X.s₀.heap.objs.size≤b)∧b≠X.env.locals∧(∀ x c,X.env.cells.lookup x=some c→c≠b)∧∀ p∈X.pn++pins,p.1≠b):Inv X pins σ H' s':=by
 obtain⟨h',g',d',t',o'⟩:=s'
 have e:o'=s.os:=ho
 subst e
 exact I.call u hok hg hch
end
abbrev XK:=Value→Option Addr→Hp→Prop
abbrev St:=List (Option V)
abbrev VK:=V→Hp→Prop
abbrev TE:=St→Hp→VK→Prop
abbrev TT:=St→Hp→(Bool→Hp→Prop)→Prop
abbrev TA:=St→Hp→(List V→Hp→Prop)→Prop
structure Ends where
 nx:St→Hp→Prop
 rt:VK
 bk:St→Hp→Prop:=fun _ _=>False
 ct:St→Hp→Prop:=fun _ _=>False
abbrev TS:=Ends→St→Hp→Prop
def EP (X:Cx)(pins:List (Addr×Obj))(σ:St)(Q:VK)(u:Value)(s':Shared):Prop:=∃ v H',Inv X pins σ H' s'∧RelV v u∧Q v H'
def TP (X:Cx)(pins:List (Addr×Obj))(σ:St)(Q:Bool→Hp→Prop)(b:Bool)(s':Shared):Prop:=∃ H',Inv X pins σ H' s'∧Q b H'
def AP (X:Cx)(pins:List (Addr×Obj))(σ:St)(Q:List V→Hp→Prop)(us:List Value)(s':Shared):Prop:=∃ vs H',Inv X pins σ H' s'∧Vals vs us∧Q vs H'
def SP (X:Cx)(pins:List (Addr×Obj))(D:Ends)(f:Flow)(s':Shared):Prop :=
 match f with
 | .next=>∃ σ' H',Inv X pins σ' H' s'∧D.nx σ' H'
 | .brk=>∃ σ' H',Inv X pins σ' H' s'∧D.bk σ' H'
 | .cont=>∃ σ' H',Inv X pins σ' H' s'∧D.ct σ' H'
 | .ret u=>∃ v σ' H',Inv X pins σ' H' s'∧RelV v u∧D.rt v H'
def PE (X:Cx)(e:Expr)(t:TE):Prop :=
 ∀ (pins:List (Addr×Obj)) (s:Shared) (σ:St) (H:Hp) (Q:VK),Inv X pins σ H s→t σ H Q→wpAny (model X.prog X.w) X.A (eval e X.env) (EP X pins σ Q) X.xe s
def PT (X:Cx)(e:Expr)(t:TT):Prop :=
 ∀ (pins:List (Addr×Obj)) (s:Shared) (σ:St) (H:Hp) (Q:Bool→Hp→Prop),Inv X pins σ H s→t σ H Q→wpAny (model X.prog X.w) X.A (isTrue e X.env (eval e X.env)) (TP X pins σ Q) X.xe s
def PW (X:Cx)(e:Expr)(t:TT):Prop :=
 ∀ (whole:Sem Value) (pins:List (Addr×Obj)) (s:Shared) (σ:St) (H:Hp) (Q:Bool→Hp→Prop),Inv X pins σ H s→t σ H Q→wpAny (model X.prog X.w) X.A (isTrue e X.env whole) (TP X pins σ Q) X.xe s
theorem PW.pt {X:Cx}{e:Expr}{t:TT}(h:PW X e t):PT X e t:=h _
def PA (X:Cx)(es:List Expr)(t:TA):Prop :=
 ∀ (pos:Pos) (pins:List (Addr×Obj)) (s:Shared) (σ:St) (H:Hp) (Q:List V→Hp→Prop),Inv X pins σ H s→t σ H Q→wpAny (model X.prog X.w) X.A (spliced (backTo pos (starEach es X.env))) (AP X pins σ Q) X.xe s
def PS (X:Cx)(st:Stmt)(t:TS):Prop :=
 ∀ (pins:List (Addr×Obj)) (s:Shared) (σ:St) (H:Hp) (D:Ends),Inv X pins σ H s→t D σ H→wpAny (model X.prog X.w) X.A (exec st X.env) (SP X pins D) X.xe s
def PSs (X:Cx)(st:List Stmt)(t:TS):Prop :=
 ∀ (pins:List (Addr×Obj)) (s:Shared) (σ:St) (H:Hp) (D:Ends),Inv X pins σ H s→t D σ H→wpAny (model X.prog X.w) X.A (execs st X.env) (SP X pins D) X.xe s
theorem thn {α:Type}{t:Sem α}{Q Q':α→Shared→Prop}{M:Model}{A:Around}{E:Value→Shared→Prop}{s:Shared}(h:wpAny M A t Q E s)(hQ:∀ a s,Q a s→Q' a s):wpAny M A t Q' E s:=wpAny_mono h hQ fun _ _ x=>x
end L2
namespace L2
open PySem PySem.Spec PyProof.Rows
section
variable {X:Cx}
theorem bin {a b:Expr}{ta tb:TE}(ha:PE X a ta)(hb:PE X b tb){pins:List (Addr×Obj)}{s:Shared}{σ:St}{H:Hp}{R:V→V→Hp→Prop}(I:Inv X pins σ H s)(h:ta σ H fun x H1=>tb σ H1 fun y H2=>R x y H2)
  {α:Type} {Q:α→Shared→Prop} {f:Value→Value→Sem α}
  (hf:∀ v u s2 x y H2,Inv X pins σ H2 s2→RelV x v→RelV y u→R x y H2→wpAny (model X.prog X.w) X.A (f v u) Q X.xe s2) :
  wpAny (model X.prog X.w) X.A (eval a X.env) (fun v s₁=>wpAny (model X.prog X.w) X.A (eval b X.env) (fun u s₂=>wpAny (model X.prog X.w) X.A (f v u) Q X.xe s₂) X.xe s₁) X.xe s:=by
 refine thn (ha pins s σ H _ I h) fun v s1 ⟨x,H1,I1,r1,q1⟩=>?_
 refine thn (hb pins s1 σ H1 _ I1 q1) fun u s2 ⟨y,H2,I2,r2,q2⟩=>?_
 exact hf v u s2 x y H2 I2 r1 r2 q2
def tVar (i:Nat):TE:=fun σ H Q=>∃ v,σ[i]?=some (some v)∧Q v H
def tC (v:V):TE:=fun _ H Q=>Q v H
theorem iY {i:Nat}{x:Str}{pos:Pos}(hN:X.N[i]?=some x)(hv:Vis X.env.scope x)(hd:(x==("__debug__":Str))=false:=by decide)(hcd:(x==("__classdict__":Str))=false:=by decide):PE X (.Name x pos) (tVar i):=by
 intro pins s σ H Q I h
 obtain⟨v,e,h⟩:=h
 obtain⟨m,hn,hl⟩:=I.loc
 obtain⟨u,r,l⟩:=hl i x v hN e hv
 have fin:EP X pins σ Q u s:=⟨v,H,I,r,h⟩
 rcases l with ⟨hk,hm⟩ | ⟨hk,c,hc,hcell⟩
 ·exact wpAny_Name (wpAny_loadName_local I.ok.kind hk hn hm fin) hd
 ·rcases hk with hk | hk
  ·exact wpAny_Name (wpAny_loadName_cell I.ok.kind hk hc hcell fin) hd
  ·exact wpAny_Name (wpAny_loadName_free I.ok.kind hk hc hcell fin hcd) hd
theorem zP {i j pos}:PE X (.Constant (.int i) j pos) (tC (.int i)):=fun _ _ _ H _ I h=>wpAny_Constant_int ⟨.int i,H,I.tok _,⟨_,rfl⟩,h⟩
theorem A1 {b j pos}:PE X (.Constant (.bool b) j pos) (tC (.bl b)):=fun _ _ _ H _ I h=>Constant_bool ⟨.bl b,H,I,rfl,h⟩
theorem zQ {x j pos}:PE X (.Constant (.str x) j pos) (tC (.str x)):=fun _ _ _ H _ I h=>Calls.Constant_str ⟨.str x,H,I.tok _,⟨_,rfl⟩,h⟩
def Gl (X:Cx)(x:Str):Prop:=X.env.kindOf x=some .globalImplicit
theorem nr {E:Value→Shared→Prop}{pins:List (Addr×Obj)}{s:Shared}{σ:St}{H:Hp}{x:Str}{u:Value}{pos:Pos}{Q:Value→Shared→Prop}(I:Inv X pins σ H s)(hg:Gl X x)(hm:X.mg x=some u)(h:Q u s)
  (hd:(x==("__debug__":Str))=false:=by decide):wpAny (model X.prog X.w) X.A (eval (.Name x pos) X.env) Q E s :=
 Calls.Name_function_global I.ok.kind hg (Calls.loadGlobal_global (by rw[I.ok.glob];exact I.mod.glob.keeps I.bk) hm h) hd
theorem fm {E:Value→Shared→Prop}{pins:List (Addr×Obj)}{s:Shared}{σ:St}{H:Hp}{x:Str}{u:Value}{pos:Pos}{Q:Value→Shared→Prop}(I:Inv X pins σ H s)(hg:Gl X x)(hm:X.mg x=none)(hv:bootBuiltins x=some u)(h:Q u s)
  (hn:x ≠ "__name__" := by decide) (hd:(x==("__debug__":Str))=false:=by decide):wpAny (model X.prog X.w) X.A (eval (.Name x pos) X.env) Q E s:=by
 obtain⟨mb,h1,h2⟩:=I.mod.blt
 exact Calls.Name_function_global I.ok.kind hg (Calls.loadGlobal_builtin (by rw[I.ok.glob];exact I.mod.glob.keeps I.bk) hm (by rw[I.ok.blt];exact h1.keeps I.bk) ((h2 x hn).trans hv) h) hd
theorem kh {x:Str}{v:V}{u:Value}{pos:Pos}(hg:Gl X x)(hm:X.mg x=some u)(r:RelV v u)(hd:(x==("__debug__":Str))=false:=by decide):PE X (.Name x pos) (tC v) :=
 fun _ _ _ H _ I h=>nr I hg hm ⟨v,H,I,r,h⟩ hd
theorem a6 {x:Str}{v:V}{u:Value}{pos:Pos}(hg:Gl X x)(hm:X.mg x=none)(hv:bootBuiltins x=some u)(r:RelV v u)(hn:x ≠ "__name__" := by decide)(hd:(x==("__debug__":Str))=false:=by decide):PE X (.Name x pos) (tC v) :=
 fun _ _ _ H _ I h=>fm I hg hm hv ⟨v,H,I,r,h⟩ hn hd
variable {a b:Expr}{ta tb:TE}{pos:Pos}
def PC (X:Cx)(op:CmpOp)(a b:Expr)(t:TE):Prop :=
 ∀ (pins:List (Addr×Obj)) (s:Shared) (σ:St) (H:Hp) (Q:VK),Inv X pins σ H s→t σ H Q →
  wpAny (model X.prog X.w) X.A (eval a X.env) (fun v s₁=>wpAny (model X.prog X.w) X.A (eval b X.env) (fun u s₂=>wpAny (model X.prog X.w) X.A (compareOp op v u) (EP X pins σ Q) X.xe s₂) X.xe s₁) X.xe s
theorem nobehind (b:Expr){op:CmpOp}(h:op≠.In)(h2:op≠.NotIn):behindInMarks op b=false:=by
 have e1:(op==CmpOp.In)=false:=by cases op<;>first | rfl | exact absurd rfl h
 have e2:(op==CmpOp.NotIn)=false:=by cases op<;>first | rfl | exact absurd rfl h2
 cases b<;>simp[behindInMarks,e1,e2]
def tB (t:TE):TT:=fun σ H Q=>t σ H fun x H1=>∃ c,x=.bl c∧Q c H1
theorem BM {op:CmpOp}{t:TE}(h:PC X op a b t)(h1:behindInMarks op b=false:=by first | exact nobehind _ (by decide) (by decide) | rfl):PT X (.Compare a [op] [b] pos) (tB t):=by
 intro pins s σ H Q I hw
 refine wpAny_isTrue_Compare1 (thn (h pins s σ H _ I hw) fun v s1 h1=>thn h1 fun u s2 h2=>thn h2 fun c s3 ⟨x,H1,I1,r1,q1⟩=>?_) h1
 obtain⟨d,rfl,q⟩:=q1
 cases r1
 exact wpAny_truthy_bool ⟨H1,I1,q⟩
theorem zR {e:Expr}{t:TE}(h:PE X e t)(he:∀ whole,isTrue e X.env whole=(do let v ← whole;standAt e.pos;holding [v] (truthy v)):=by intro _;rfl):PT X e (tB t):=by
 intro pins s σ H Q I hw
 refine isTrue_plain (thn (h pins s σ H _ I hw) fun v s1 ⟨x,H1,I1,r1,q1⟩=>?_) (he _)
 obtain⟨d,rfl,q⟩:=q1
 cases r1
 exact wpAny_truthy_bool ⟨H1,I1,q⟩
variable {tA tB':TT}{rest:List Expr}
def tAnd (t u:TT):TT:=fun σ H Q=>t σ H fun c H1=>if c=true then u σ H1 Q else Q false H1
def tOr (t u:TT):TT:=fun σ H Q=>t σ H fun c H1=>if c=true then Q true H1 else u σ H1 Q
def tNot (t:TT):TT:=fun σ H Q=>t σ H fun c H1=>Q (!c) H1
theorem yg (ha:PT X a tA):PW X (.BoolOp .And [a] pos) tA:=by
 intro wh pins s σ H Q I h
 refine isTrue_and (thn (ha pins s σ H Q I h) fun c s1 e=>?_)
 cases c with
 | true=>exact isTrue_and_nil e
 | false=>exact e
theorem zS (ha:PT X a tA):PW X (.BoolOp .Or [a] pos) tA:=by
 intro wh pins s σ H Q I h
 refine isTrue_or (thn (ha pins s σ H Q I h) fun c s1 e=>?_)
 cases c with
 | false=>exact isTrue_or_nil e
 | true=>exact e
theorem zT (ha:PT X a tA)(hb:PW X (.BoolOp .And (b::rest) pos) tB'):PW X (.BoolOp .And (a::b::rest) pos) (tAnd tA tB'):=by
 intro wh pins s σ H Q I h
 refine isTrue_and (thn (ha pins s σ H _ I h) fun c s1 ⟨H1,I1,q1⟩=>?_)
 cases c with
 | true=>exact hb wh pins s1 σ H1 Q I1 q1
 | false=>exact⟨H1,I1,q1⟩
theorem A2 (ha:PT X a tA)(hb:PW X (.BoolOp .Or (b::rest) pos) tB'):PW X (.BoolOp .Or (a::b::rest) pos) (tOr tA tB'):=by
 intro wh pins s σ H Q I h
 refine isTrue_or (thn (ha pins s σ H _ I h) fun c s1 ⟨H1,I1,q1⟩=>?_)
 cases c with
 | true=>exact⟨H1,I1,q1⟩
 | false=>exact hb wh pins s1 σ H1 Q I1 q1
theorem zU (ha:PT X a tA):PT X (.UnaryOp .Not a pos) (tNot tA):=by
 intro pins s σ H Q I h
 exact isTrue_not (ha pins s σ H (fun c H1=>Q (!c) H1) I h)
def tAndV (ta tb:TE):TE:=fun σ H Q=>ta σ H fun x H1=>∃ c,x=.bl c∧if c=true then tb σ H1 Q else Q (.bl false) H1
def tOrV (ta tb:TE):TE:=fun σ H Q=>ta σ H fun x H1=>∃ c,x=.bl c∧if c=true then Q (.bl true) H1 else tb σ H1 Q
def tNotV (ta:TE):TE:=fun σ H Q=>ta σ H fun x H1=>∃ c,x=.bl c∧Q (.bl (!c)) H1
theorem zV {op}{t:TE}(h:PE X a t):PE X (.BoolOp op [a] pos) t:=fun pins s σ H Q I hw=>BoolOp_one (h pins s σ H Q I hw)
theorem zW (ha:PE X a ta)(hb:PE X (.BoolOp .And (b::rest) pos) tb):PE X (.BoolOp .And (a::b::rest) pos) (tAndV ta tb):=by
 intro pins s σ H Q I h
 refine BoolOp_and (thn (ha pins s σ H _ I h) fun v s1 ⟨x,H1,I1,r1,q1⟩=>?_)
 obtain⟨c,rfl,q1⟩:=q1
 cases r1
 wp_walk
 cases c with
 | true=>exact hb pins s1 σ H1 Q I1 q1
 | false=>exact⟨.bl false,H1,I1,rfl,q1⟩
theorem A3 (ha:PE X a ta)(hb:PE X (.BoolOp .Or (b::rest) pos) tb):PE X (.BoolOp .Or (a::b::rest) pos) (tOrV ta tb):=by
 intro pins s σ H Q I h
 refine BoolOp_or (thn (ha pins s σ H _ I h) fun v s1 ⟨x,H1,I1,r1,q1⟩=>?_)
 obtain⟨c,rfl,q1⟩:=q1
 cases r1
 refine wpAny_truthy_bool ?_
 cases c with
 | false=>exact hb pins s1 σ H1 Q I1 q1
 | true=>exact⟨.bl true,H1,I1,rfl,q1⟩
theorem zX (ha:PE X a ta):PE X (.UnaryOp .Not a pos) (tNotV ta):=by
 intro pins s σ H Q I h
 refine UnaryOp_ (thn (ha pins s σ H _ I h) fun v s1 ⟨x,H1,I1,r1,q1⟩=>?_)
 obtain⟨c,rfl,q1⟩:=q1
 cases r1
 exact not_of (wpAny_truthy_bool ⟨.bl (!c),H1,I1,rfl,q1⟩)
def tIf (t:TT)(ta tb:TE):TE:=fun σ H Q=>t σ H fun c H1=>if c=true then ta σ H1 Q else tb σ H1 Q
theorem vN {c:Expr}(hc:PT X c tA)(ha:PE X a ta)(hb:PE X b tb):PE X (.IfExp c a b pos) (tIf tA ta tb):=by
 intro pins s σ H Q I h
 refine wpAny_IfExp (thn (hc pins s σ H _ I h) fun d s1 ⟨H1,I1,q1⟩=>?_)
 cases d with
 | true=>exact ha pins s1 σ H1 Q I1 q1
 | false=>exact hb pins s1 σ H1 Q I1 q1
end
end L2
namespace L2
open PySem PySem.Spec PyProof.Rows
def SqL (K:PySem.W.Frag)(H:Hp)(a:Addr)(xs:List V):Prop :=
 Rd H a (.lst xs) ∨
  ∃ (o:Obj) (its:Array Value) (n:Nat),K.lookup a=some o∧o.cls=.type "list" ∧ o.dict=none∧o.data=.seq its n∧its.size≤sizeLine∧Vals xs its.toList
def SqT (K:PySem.W.Frag)(H:Hp)(a:Addr)(xs:List V):Prop :=
 Rd H a (.tup xs) ∨
  ∃ (o:Obj) (its:Array Value) (n:Nat),K.lookup a=some o∧o.cls=.type "tuple" ∧ o.dict=none∧o.data=.seq its n∧its.size≤sizeLine∧Vals xs its.toList
def absV:Value→Option V
 | .none=>some .non
 | .bool b=>some (.bl b)
 | .int i _=>some (.int i)
 | .str x _=>some (.str x)
 | .bytes b _=>some (.byt b)
 | .float b _=>some (.flt b)
 | .ref a=>some (.ref a)
 | .type n=>some (.ty n)
 | _=>none
theorem RelV.abs {x:V}{u:Value}(r:RelV x u):absV u=some x:=by
 cases x with
 | non=>cases r;rfl
 | bl _=>cases r;rfl
 | int _=>obtain⟨t,rfl⟩:=r;rfl
 | str _=>obtain⟨t,rfl⟩:=r;rfl
 | byt _=>obtain⟨t,rfl⟩:=r;rfl
 | flt _=>obtain⟨t,rfl⟩:=r;rfl
 | ref _=>cases r;rfl
 | ty _=>cases r;rfl
theorem RelV.inj {x y:V}{u:Value}(r:RelV x u)(q:RelV y u):x=y:=Option.some.inj (r.abs.symm.trans q.abs)
theorem Vals.inj:∀ {xs ys:List V} {us:List Value},Vals xs us→Vals ys us→xs=ys
 | _,_,_,.nil,.nil=>rfl
 | _,_,_,.cons r t,.cons r' t'=>by rw[r.inj r',Vals.inj t t']
section
variable {X:Cx}{pins:List (Addr×Obj)}{σ:St}{H:Hp}{s:Shared}{a:Addr}{xs ys:List V}
theorem SqL.of {K:PySem.W.Frag}(h:H a=some (.lst xs)):SqL K H a xs:=.inl (.inl h)
theorem SqT.of {K:PySem.W.Frag}(h:H a=some (.tup xs)):SqT K H a xs:=.inl (.inl h)
theorem Inv.list (I:Inv X pins σ H s)(h:SqL X.K H a xs):∃ its:List Value,Vals xs its∧PlainL s.heap a its.toArray∧xs.length≤sizeLine:=by
 rcases h with h | ⟨o,its,n,hk,hc,hd,hs,hz,r⟩
 ·obtain⟨z,its,n,r,e⟩:=h.ok I.hok
  exact⟨its,r,⟨_,n,e,rfl,rfl,rfl⟩,z⟩
 ·refine⟨its.toList,r,⟨o,n,I.kIn a o hk,hc,hd,by simpa using hs⟩,?_⟩
  have e:=r.length
  simp only[Array.length_toList]at e
  omega
theorem Inv.tuple (I:Inv X pins σ H s)(h:SqT X.K H a xs):∃ its:List Value,Vals xs its∧IsTup s.heap a its.toArray∧xs.length≤sizeLine:=by
 rcases h with h | ⟨o,its,n,hk,hc,_,hs,hz,r⟩
 ·obtain⟨z,its,r,p⟩:=h.ok I.hok
  exact⟨its,r,p.is,z⟩
 ·refine⟨its.toList,r,⟨o,I.kIn a o hk,hc,n,by simpa using hs⟩,?_⟩
  have e:=r.length
  simp only[Array.length_toList]at e
  omega
theorem Inv.list_inj (I:Inv X pins σ H s)(h:SqL X.K H a xs)(h':SqL X.K H a ys):xs=ys:=by
 obtain⟨its,r,⟨o,n,e,_,_,d⟩,_⟩:=I.list h
 obtain⟨its',r',⟨o',n',e',_,_,d'⟩,_⟩:=I.list h'
 rw[e]at e';cases e'
 rw[d]at d'
 injection d' with d1 _
 have:its=its':=by simpa using congrArg Array.toList d1
 subst this
 exact r.inj r'
theorem Inv.tuple_inj (I:Inv X pins σ H s)(h:SqT X.K H a xs)(h':SqT X.K H a ys):xs=ys:=by
 obtain⟨its,r,⟨o,e,_,n,d⟩,_⟩:=I.tuple h
 obtain⟨its',r',⟨o',e',_,n',d'⟩,_⟩:=I.tuple h'
 rw[e]at e';cases e'
 rw[d]at d'
 injection d' with d1 _
 have:its=its':=by simpa using congrArg Array.toList d1
 subst this
 exact r.inj r'
end
abbrev Cx.wish (X:Cx)(E:Value→Shared→Prop):Cx:={ X with xe:=E }
abbrev Cx.nox (X:Cx):Cx:=X.wish fun _ _=>False
theorem Cx.Ok.wish {X:Cx}(ok:X.Ok)(E:Value→Shared→Prop):(X.wish E).Ok :=
 ⟨ok.mod,ok.kind,ok.glob,ok.blt,ok.above,ok.inj,ok.has,ok.cab,ok.hd,ok.frames,ok.stk,ok.exf,ok.bs,ok.bsz,ok.noex,ok.exfs,ok.funs,ok.frf⟩
theorem Cx.Ok.unwish {X:Cx}{E:Value→Shared→Prop}(ok:(X.wish E).Ok):X.Ok :=
 ⟨ok.mod,ok.kind,ok.glob,ok.blt,ok.above,ok.inj,ok.has,ok.cab,ok.hd,ok.frames,ok.stk,ok.exf,ok.bs,ok.bsz,ok.noex,ok.exfs,ok.funs,ok.frf⟩
section
variable {X:Cx}{pins:List (Addr×Obj)}{σ:St}{H:Hp}{s:Shared}{E:Value→Shared→Prop}
theorem Inv.wish (I:Inv X pins σ H s)(E:Value→Shared→Prop):Inv (X.wish E) pins σ H s:=⟨I.ok.wish E,I.os,I.bare,I.base,I.loc,I.cell,I.free,I.freeC,I.pin,I.hok,I.len⟩
theorem Inv.unwish (I:Inv (X.wish E) pins σ H s):Inv X pins σ H s:=⟨I.ok.unwish,I.os,I.bare,I.base,I.loc,I.cell,I.free,I.freeC,I.pin,I.hok,I.len⟩
theorem SP.unwish {D:Ends}{f:Flow}{s':Shared}(h:SP (X.wish E) pins D f s'):SP X pins D f s':=by
 cases f with
 | next=>obtain⟨σ',H',I,q⟩:=h;exact⟨σ',H',I.unwish,q⟩
 | brk=>obtain⟨σ',H',I,q⟩:=h;exact⟨σ',H',I.unwish,q⟩
 | cont=>obtain⟨σ',H',I,q⟩:=h;exact⟨σ',H',I.unwish,q⟩
 | ret u=>obtain⟨v,σ',H',I,r,q⟩:=h;exact⟨v,σ',H',I.unwish,r,q⟩
theorem PE.nox {e:Expr}{t:TE}(h:PE X.nox e t):PE X e t:=fun pins s σ H Q I hw =>
 wpAny_mono (h pins s σ H Q (I.wish _) hw) (fun _ _ ⟨v,H',I',r,q⟩=>⟨v,H',I'.unwish,r,q⟩) fun _ _ z=>False.elim z
theorem PT.nox {e:Expr}{t:TT}(h:PT X.nox e t):PT X e t:=fun pins s σ H Q I hw =>
 wpAny_mono (h pins s σ H Q (I.wish _) hw) (fun _ _ ⟨H',I',q⟩=>⟨H',I'.unwish,q⟩) fun _ _ z=>False.elim z
theorem PSs.nox {st:List Stmt}{t:TS}(h:PSs X.nox st t):PSs X st t:=fun pins s σ H D I hw =>
 wpAny_mono (h pins s σ H D (I.wish _) hw) (fun _ _ q=>q.unwish) fun _ _ z=>False.elim z
end
section
variable {X:Cx}{st:Stmt}{rest:List Stmt}{t u:TS}{e:Expr}{te:TE}{pos:Pos}
def tNext:TS:=fun D σ H=>D.nx σ H
def tSeq (t u:TS):TS:=fun D σ H=>t { D with nx:=u D } σ H
theorem yh:PSs X [] tNext:=fun _ _ σ H _ I h=>wpAny_execs_nil ⟨σ,H,I,h⟩
theorem fq (h1:PS X st t)(h2:PSs X rest u):PSs X (st::rest) (tSeq t u):=by
 intro pins s σ H D I h
 refine wpAny_execs_cons (thn (h1 pins s σ H { D with nx:=u D } I h) fun f s1 q=>?_)
 cases f with
 | next =>
  obtain⟨σ',H',I',q⟩:=q
  exact h2 pins s1 σ' H' D I' q
 | ret v=>exact q
 | brk=>exact q
 | cont=>exact q
theorem yi (h1:PS X st t):PSs X [st] t:=by
 intro pins s σ H D I h
 refine wpAny_execs_cons (thn (h1 pins s σ H D I h) fun f s1 q=>?_)
 cases f with
 | next=>exact wpAny_execs_nil q
 | ret v=>exact q
 | brk=>exact q
 | cont=>exact q
theorem Inv.quiet {pins:List (Addr×Obj)}{σ:St}{H:Hp}{s:Shared}(I:Inv X pins σ H s):interactive X.env=false:=by simp[interactive,I.ok.kind]
def tDrop (te:TE):TS:=fun D σ H=>te σ H fun _ H1=>D.nx σ H1
theorem nt (he:PE X e te)(hs:swapsWith e none pos.line X.env=pure false:=by rfl):PS X (.Expr e pos) (tDrop te):=by
 intro pins s σ H D I h
 exact wpAny_Expr_any (thn (he pins s σ H _ I h) fun v s1 ⟨x,H1,I1,r1,q1⟩=>⟨σ,H1,I1,q1⟩) I.quiet hs
def tRet (te:TE):TS:=fun D σ H=>te σ H D.rt
theorem zY (he:PE X e te):PS X (.Return (some e) pos) (tRet te):=by
 intro pins s σ H D I h
 exact wpAny_Return_some (thn (he pins s σ H _ I h) fun v s1 ⟨x,H1,I1,r1,q1⟩=>⟨x,σ,H1,I1,r1,q1⟩)
def tIfS (c:TT)(t u:TS):TS:=fun D σ H=>c σ H fun b H1=>if b=true then t D σ H1 else u D σ H1
theorem A4 {c:Expr}{a b:List Stmt}{tc:TT}(hc:PT X c tc)(ha:PSs X a t)(hb:PSs X b u):PS X (.If c a b pos) (tIfS tc t u):=by
 intro pins s σ H D I h
 refine wpAny_If (thn (hc pins s σ H _ I h) fun d s1 ⟨H1,I1,q1⟩=>?_)
 cases d with
 | true=>exact ha pins s1 σ H1 D I1 q1
 | false=>exact hb pins s1 σ H1 D I1 q1
def tNever:TS:=fun _ _ _=>False
theorem mQ {sts:List Stmt}:PSs X sts tNever:=fun _ _ _ _ _ _ h=>h.elim
end
abbrev TG:=V→St→Hp→(St→Hp→Prop)→Prop
abbrev TGs:=List V→St→Hp→(St→Hp→Prop)→Prop
def PG (X:Cx)(target:Expr)(t:TG):Prop :=
 ∀ (pins:List (Addr×Obj)) (s:Shared) (σ:St) (H:Hp) (v:V) (u:Value) (Q:St→Hp→Prop),Inv X pins σ H s→RelV v u→t v σ H Q →
  wpAny (model X.prog X.w) X.A (assign target X.env u) (fun _ s'=>∃ σ' H',Inv X pins σ' H' s'∧Q σ' H') X.xe s
def PGs (X:Cx)(ts:List Expr)(t:TGs):Prop :=
 ∀ (pins:List (Addr×Obj)) (s:Shared) (σ:St) (H:Hp) (vs:List V) (us:List Value) (Q:St→Hp→Prop),Inv X pins σ H s→Vals vs us→t vs σ H Q →
  wpAny (model X.prog X.w) X.A (assignInOrder ((assignEach ts X.env).map (·.2)) us) (fun _ s'=>∃ σ' H',Inv X pins σ' H' s'∧Q σ' H') X.xe s
section
variable {X:Cx}{pos:Pos}
def gName (i:Nat):TG:=fun v σ H Q=>Q (σ.set i (some v)) H
theorem nu {i:Nat}{x:Str}(hN:X.N.Nodup)(hi:X.N[i]?=some x)(hx:Loc X.env.scope x)(hf:X.fn x=true∨X.env.scope.names.lookup x=some .local:=by first | exact .inl rfl | exact .inr rfl | assumption):PG X (.Name x pos) (gName i):=by
 intro pins s σ H v u Q I r h
 exact wpAny_assign_Name (hJ I hN hi hx r (fun s' I'=>⟨_,H,I',h⟩) hf)
def gNil:TGs:=fun vs σ H Q=>vs=[]∧Q σ H
def gCons (t:TG)(u:TGs):TGs:=fun vs σ H Q=>∃ v r,vs=v::r∧t v σ H fun σ' H'=>u r σ' H' Q
theorem yj:PGs X [] gNil:=by
 intro pins s σ H vs us Q I r h
 obtain⟨e,h⟩:=h
 subst e
 cases r
 exact assignInOrder_nil ⟨σ,H,I,h⟩
theorem oA {e:Expr}{es:List Expr}{t:TG}{u:TGs}(h1:PG X e t)(h2:PGs X es u)
  (hs:(assignEach (e::es) X.env).map (·.2)=assign e X.env::(assignEach es X.env).map (·.2):=by rfl):PGs X (e::es) (gCons t u):=by
 intro pins s σ H vs us Q I r h
 obtain⟨v,vr,e1,h⟩:=h
 subst e1
 cases r with
 | cons r rr =>
  rw[hs]
  refine assignInOrder_cons (thn (h1 pins s σ H _ _ _ I r h) fun _ s1 ⟨σ1,H1,I1,q1⟩=>?_)
  exact h2 pins s1 σ1 H1 _ _ Q I1 rr q1
def gTup (K:PySem.W.Frag)(n:Nat)(t:TGs):TG:=fun v σ H Q=>∃ a xs,v=.ref a∧SqT K H a xs∧xs.length=n∧t xs σ H Q
theorem zZ {es:List Expr}{k:Nat}{t:TGs}{n:Nat}(hc:X.calm=true)(h:PGs X es t)
  (hn:(assignEach es X.env).length=n:=by rfl) (hst:(assignEach es X.env).findIdx? (·.1)=none:=by rfl):PG X (.Tuple es k pos) (gTup X.K n t):=by
 intro pins s σ H v u Q I r hw
 obtain⟨a,xs,e1,hq,hl,hw⟩:=hw
 subst e1
 cases r
 obtain⟨its,rv,ht,hz⟩:=I.tuple hq
 refine assign_Tuple_tuple (I.ok.hd hc) ht (by simp[hn,← hl,rv.length]) hst fun h' hx=>?_
 have I1:=I.kept (t':=s.toks) fun b o e=>hx b o (Nat.ne_of_lt (Heap.lt_size e)) e
 exact h pins _ σ H xs _ Q I1 (by simpa using rv) hw
def tAsg (te:TE)(g:TG):TS:=fun D σ H=>te σ H fun x H1=>g x σ H1 D.nx
theorem qS {i:Nat}{x:Str}{e:Expr}{te:TE}{pos':Pos}(hN:X.N.Nodup)(hi:X.N[i]?=some x)(hx:Loc X.env.scope x)(he:PE X e te)(hs:swapsWith e (some (.Name x pos')) pos.line X.env=pure false:=by rfl)(hf:X.fn x=true∨X.env.scope.names.lookup x=some .local:=by first | exact .inl rfl | exact .inr rfl | assumption) :
  PS X (.Assign [.Name x pos'] e pos) (tAsg te (gName i)):=by
 intro pins s σ H D I h
 refine wpAny_Assign_Name (thn (he pins s σ H _ I h) fun v s1 ⟨y,H1,I1,r1,q1⟩=>?_) hs
 exact hJ I1 hN hi hx r1 (fun s2 I2=>⟨_,H1,I2,q1⟩) hf
def tPar (i j:Nat)(ta:TA):TS:=fun D σ H=>ta σ H fun vs H1=>∃ v w,vs=[v,w]∧D.nx ((σ.set i (some v)).set j (some w)) H1
theorem Aa {i j:Nat}{x y:Str}{a b:Expr}{ta:TA}{px py pt:Pos}{kt k2 pt2}(hc:X.calm=true)(hN:X.N.Nodup)(hi:X.N[i]?=some x)(hj:X.N[j]?=some y)(hij:i≠j)
  (hx:X.env.scope.names.lookup x=some .local) (hy:X.env.scope.names.lookup y=some .local) (ha:PA X [a,b] ta)
  (hw:swappedStores [.Tuple [.Name x px,.Name y py] kt pt] (.Tuple [a,b] k2 pt2) X.env=pure (some [x,y]))
  (hs:swapsWithSole [.Tuple [.Name x px,.Name y py] kt pt] (.Tuple [a,b] k2 pt2) pos.line X.env=pure false:=by rfl) :
  PS X (.Assign [.Tuple [.Name x px,.Name y py] kt pt] (.Tuple [a,b] k2 pt2) pos) (tPar i j ta):=by
 intro pins s σ H D I h
 rw[exec_Assign_arm]
 refine wpAny_bind (wpAny_standAt ?_)
 rw[hs]
 refine wpAny_bind (wpAny_pure ?_)
 rw[if_neg (by decide)]
 refine wpAny_bind (Tuple_ (thn (ha _ pins s σ H _ I h) fun us s1 ⟨vs,H1,I1,r1,q1⟩=>?_))
 obtain⟨v,w,e1,q1⟩:=q1
 subst e1
 obtain⟨u1,u2,rfl,rv,rw'⟩:∃ u1 u2,us=[u1,u2]∧RelV v u1∧RelV w u2:=by
  cases r1 with
  | cons p q =>
   cases q with
   | cons p' q' =>
    cases q'
    exact⟨_,_,rfl,p,p'⟩
 refine wpAny_newObj_type ?_ (by show 2≤sizeLine;decide)
 have I2:Inv X pins σ H1 { s1 with heap:=s1.heap.push { cls:=.type "tuple",data:=.seq [u1,u2].toArray } }:=I1.kept fun b o e=>Heap.get?_push_of_some _ e
 rw[hw]
 refine wpAny_bind (wpAny_pure ?_)
 refine wpAny_bind (wpAny_rule (wpAny_bind (unpackItems_tuple (items:=#[u1,u2]) (I.ok.hd hc) (IsTup.new s1.heap _) fun h' hx'=>?_)))
 have I3:=I2.kept (t':=s1.toks) fun b o e=>hx' b o (Nat.ne_of_lt (Heap.lt_size e)) e
 refine wpAny_bind (assignInOrder_cons (wpAny_bindName (hJ I3 hN hj (.inl hy) rw' (fun s2 I4=>?_) (.inr hy))))
 refine assignInOrder_cons (wpAny_bindName (hJ I4 hN hi (.inl hx) rv (fun s3 I5=>assignInOrder_nil (wpAny_pure ?_)) (.inr hx)))
 rw[List.set_comm _ _ (Ne.symm hij)]at I5
 exact⟨_,H1,I5,q1⟩
end
section
variable {X:Cx}{pos:Pos}
end
structure It where
 go:Nat→Hp→Prop
 yld:Nat→Hp→V→Hp→Prop
 stop:Nat→Hp→Prop
def FpOk (X:Cx)(pins:List (Addr×Obj))(H:Hp)(b:Addr):Prop :=
 H b=none∧b≠X.env.locals∧b∉X.fs∧(b∈X.ex∨X.s₀.heap.objs.size≤b)∧(∀ x c,X.env.cells.lookup x=some c→c≠b)∧∀ p∈X.pn++pins,p.1≠b
theorem Inv.fpOk {X:Cx}{pins:List (Addr×Obj)}{σ:St}{H H':Hp}{s:Shared}{b:Addr}(I:Inv X pins σ H s)(hb:s.heap.objs.size≤b)(hn:H' b=none):FpOk X pins H' b:=by
 refine⟨hn,Nat.ne_of_gt (Nat.lt_of_lt_of_le I.lt hb),I.nofs hb,.inr (Nat.le_trans I.sz hb),fun x c e z=>?_,fun p hp z=>?_⟩
 ·obtain⟨v,q⟩:=I.cell x c e
  exact absurd (Nat.lt_of_lt_of_le q.lt (by rw[z];exact hb)) (Nat.lt_irrefl _)
 ·exact absurd (Nat.lt_of_lt_of_le (Heap.lt_size (I.pin p hp).1) (by rw[z];exact hb)) (Nat.lt_irrefl _)
structure Turn (P:Program)(w:World)(K:PySem.W.Frag)(tg:Expr)(J:It)(fp:List Addr)(it:Addr)(tn:Nat→Heap→Prop):Prop where
 mem:it∈fp
 obj:∀ i h,tn i h→∀ b∈fp,∃ o,h.get? b=some o∧∀ v,o.data≠.cell v
 keep:∀ i h h',tn i h→(∀ b∈fp,∀ o,h.get? b=some o→h'.get? b=some o)→tn i h'
 item:∀ (X:Cx),X.prog=P→X.w=w→X.K=K→X.calm=true→∀ (i:Nat) (pins:List (Addr×Obj)) (s:Shared) (σ:St) (H:Hp) (E:Value→Shared→Prop),Inv X pins σ H s→(∀ b∈fp,FpOk X pins H b)→tn i s.heap→J.go i H →
  wpAny (model P w) X.A (pyNext (.ref it)) (fun r s1=>∃ u,r=some u ∧
   wpAny (model P w) X.A (letOwnedTupleGo tg (.ref it) u) (fun _ s2=>∃ x H',Inv X pins σ H' s2∧RelV x u∧J.yld i H x H'∧tn (i+1) s2.heap∧∀ b∈fp,H' b=none) E s1) E s
 done:∀ (X:Cx),X.prog=P→X.w=w→X.K=K→X.calm=true→∀ (i:Nat) (pins:List (Addr×Obj)) (s:Shared) (σ:St) (H:Hp) (E:Value→Shared→Prop),Inv X pins σ H s→(∀ b∈fp,FpOk X pins H b)→tn i s.heap→J.stop i H →
  wpAny (model P w) X.A (pyNext (.ref it)) (fun r s1=>r=none∧Inv X pins σ H s1) E s
 self:∀ (A:Around) (i:Nat) (s:Shared) (Q:Value→Shared→Prop) (E:Value→Shared→Prop),tn i s.heap→Q (.ref it) s→wpAny (model P w) A (pyIter (.ref it)) Q E s
abbrev TI:=St→Hp→(It→Hp→Prop)→Prop
def PIE (X:Cx)(pins:List (Addr×Obj))(σ:St)(tg:Expr)(R:It→Hp→Prop)(itv:Value)(s2:Shared):Prop :=
 ∃ (it:Addr) (fp:List Addr) (tn:Nat→Heap→Prop) (J:It) (H':Hp),itv=.ref it∧Inv X pins σ H' s2∧Turn X.prog X.w X.K tg J fp it tn∧tn 0 s2.heap∧(∀ b∈fp,FpOk X pins H' b)∧R J H'
def PI (X:Cx)(tg iter:Expr)(wi:TI):Prop :=
 ∀ (pins:List (Addr×Obj)) (s:Shared) (σ:St) (H:Hp) (R:It→Hp→Prop),Inv X pins σ H s→wi σ H R →
  wpAny (model X.prog X.w) X.A (eval iter X.env) (fun v s1=>wpAny (model X.prog X.w) X.A (pyIter v) (PIE X pins σ tg R) X.xe s1) X.xe s
theorem vO {M:Model}{A:Around}{E:Value→Shared→Prop}{s:Shared}{tg:Expr}{it:Addr}{u:Value}{o:Obj}{n:String}{vs:Array Value}{Q:Unit→Shared→Prop}(ho:s.heap.get? it=some o)(hc:o.cls=.type n)(hd:o.data=.fields vs)
  (hn:["enumerate","zip","dict_itemiterator","dict_reverseitemiterator","odict_iterator","itertools.zip_longest","itertools.pairwise"].contains n=false) (hQ:Q () s):wpAny M A (letOwnedTupleGo tg (.ref it) u) Q E s:=by
 unfold letOwnedTupleGo
 cases tg<;>first
  | exact wpAny_pure hQ
  | (cases u<;>first
    | exact wpAny_pure hQ
    | (refine wpAny_bind (wpAny_load ho ?_)
       rw[hc,hd]
       show wpAny M A (if (["enumerate","zip","dict_itemiterator","dict_reverseitemiterator","odict_iterator","itertools.zip_longest","itertools.pairwise"].contains n&&vs[0]?==some (rawInt _))=true then _ else _) Q E s
       rw[if_neg (by intro h;rw[hn,Bool.false_and]at h;cases h)]
       exact wpAny_pure hQ))
def Itl (K:PySem.W.Frag)(a:Addr):It :=
 ⟨fun i H=>∃ xs x,SqL K H a xs∧xs[i]?=some x,fun i H x H'=>H'=H∧∀ xs,SqL K H a xs→xs[i]?=some x,fun i H=>∃ xs,SqL K H a xs∧xs.length≤i⟩
def Itt (K:PySem.W.Frag)(a:Addr):It :=
 ⟨fun i H=>∃ xs x,SqT K H a xs∧xs[i]?=some x,fun i H x H'=>H'=H∧∀ xs,SqT K H a xs→xs[i]?=some x,fun i H=>∃ xs,SqT K H a xs∧xs.length≤i⟩
def Itr (lo:Int)(n:Nat):It:=⟨fun i _=>i < n,fun i H x H'=>H'=H∧x=.int (lo+i),fun i _=>n≤i⟩
theorem t6 {P:Program}{w:World}{K:PySem.W.Frag}{tg:Expr}(a it:Addr):Turn P w K tg (Itl K a) [it] it (fun i h=>h.IsListIter it a i) where
 mem:=by simp
 obj:=fun i h st b hb=>by
  have e:b=it:=by simpa using hb
  subst e
  obtain⟨o,e,c,d⟩:=st
  exact⟨o,e,fun v z=>by rw[d]at z;cases z⟩
 keep:=fun i h h' st k=>st.at fun o e=>k it (by simp) o e
 item:=by
  intro X hP hw hK hc i pins s σ H E I hf st hg
  subst hP hw hK
  obtain⟨xs,x,hq,hx⟩:=hg
  obtain⟨its,rv,p,hz⟩:=I.list hq
  obtain⟨u,hu,ru⟩:=rv.get hx
  obtain⟨f0,f1,f2,f3,f4,f5⟩:=hf it (by simp)
  refine wpAny_pyNext_list_item st p.isList (x:=u) (by simpa using hu) fun h' st' sb=>?_
  have I1:=I.turned (t':=s.toks) (fun b o hb e=>(sb.2 b hb).trans e) f0 f1 f3 f4 f5
  obtain⟨o,e,c,d⟩:=id st'
  exact⟨u,rfl,vO e c d (by decide) ⟨x,H,I1,ru,⟨rfl,fun ys hy=>by rw[I.list_inj hy hq];exact hx⟩,st',fun b hb=>(hf b hb).1⟩⟩
 done:=by
  intro X hP hw hK hc i pins s σ H E I hf st hg
  subst hP hw hK
  obtain⟨xs,hq,hx⟩:=hg
  obtain⟨its,rv,p,hz⟩:=I.list hq
  obtain⟨f0,f1,f2,f3,f4,f5⟩:=hf it (by simp)
  have hl:=rv.length
  exact wpAny_pyNext_list_end (I.ok.hd hc) st p.isList (by simp;omega) fun h' eb=>⟨rfl,I.turned (t':=s.toks) (fun b o hb e=>eb b o hb e) f0 f1 f3 f4 f5⟩
 self:=fun _ _ _ _ _ st h=>wpAny_pyIter_listiter st h
theorem qT {P:Program}{w:World}{K:PySem.W.Frag}{tg:Expr}(a it:Addr):Turn P w K tg (Itt K a) [it] it (fun i h=>h.IsTupleIter it a i) where
 mem:=by simp
 obj:=fun i h st b hb=>by
  have e:b=it:=by simpa using hb
  subst e
  obtain⟨o,e,c,d⟩:=st
  exact⟨o,e,fun v z=>by rw[d]at z;cases z⟩
 keep:=fun i h h' st k=>st.at fun o e=>k it (by simp) o e
 item:=by
  intro X hP hw hK hc i pins s σ H E I hf st hg
  subst hP hw hK
  obtain⟨xs,x,hq,hx⟩:=hg
  obtain⟨its,rv,p,hz⟩:=I.tuple hq
  obtain⟨u,hu,ru⟩:=rv.get hx
  obtain⟨f0,f1,f2,f3,f4,f5⟩:=hf it (by simp)
  refine wpAny_pyNext_tuple_item st (show s.heap.IsTuple a its.toArray from p) (x:=u) (by simpa using hu) fun h' st' sb=>?_
  have I1:=I.turned (t':=s.toks) (fun b o hb e=>(sb.2 b hb).trans e) f0 f1 f3 f4 f5
  obtain⟨o,e,c,d⟩:=id st'
  exact⟨u,rfl,vO e c d (by decide) ⟨x,H,I1,ru,⟨rfl,fun ys hy=>by rw[I.tuple_inj hy hq];exact hx⟩,st',fun b hb=>(hf b hb).1⟩⟩
 done:=by
  intro X hP hw hK hc i pins s σ H E I hf st hg
  subst hP hw hK
  obtain⟨xs,hq,hx⟩:=hg
  obtain⟨its,rv,p,hz⟩:=I.tuple hq
  obtain⟨f0,f1,f2,f3,f4,f5⟩:=hf it (by simp)
  have hl:=rv.length
  exact wpAny_pyNext_tuple_end (I.ok.hd hc) st (show s.heap.IsTuple a its.toArray from p) (by simp;omega) fun h' eb=>⟨rfl,I.turned (t':=s.toks) (fun b o hb e=>eb b o hb e) f0 f1 f3 f4 f5⟩
 self:=fun _ _ _ _ _ st h=>wpAny_pyIter_tupleiter st h
theorem qU {P:Program}{w:World}{K:PySem.W.Frag}{tg:Expr}(it:Addr)(lo:Int)(n:Nat):Turn P w K tg (Itr lo n) [it] it (fun i h=>IsRangeIter h it (lo+(i:Nat)*1) ((n:Int) - (i:Nat)) 1) where
 mem:=by simp
 obj:=fun i h st b hb=>by
  have e:b=it:=by simpa using hb
  subst e
  exact⟨_,st,fun v z=>by
   have z':Data.fields _=Data.cell v:=z
   cases z'⟩
 keep:=fun i h h' st k=>k it (by simp) _ st
 item:=by
  intro X hP hw hK hc i pins s σ H E I hf st hg
  subst hP hw hK
  obtain⟨f0,f1,f2,f3,f4,f5⟩:=hf it (by simp)
  have W:=Walks.range (prog:=X.prog) (w:=X.w) (I.ok.hd hc) it lo 1 n
  refine W.item i s _ _ hg st fun v h' tk hv st' kk=>?_
  obtain⟨t,rfl⟩:=hv
  have I1:Inv X pins σ H { s with heap:=h',toks:=tk }:=I.turned (fun b o hb e=>kk b o (by simpa using hb) e) f0 f1 f3 f4 f5
  refine⟨_,rfl,vO (s:={ s with heap:=h',toks:=tk }) (n := "range_iterator") st' rfl rfl (by decide) ⟨.int (lo+i),H,I1,⟨t,?_⟩,⟨rfl,rfl⟩,st',fun b hb=>(hf b hb).1⟩⟩
  rw[Int.mul_one]
 done:=by
  intro X hP hw hK hc i pins s σ H E I hf st hg
  subst hP hw hK
  obtain⟨f0,f1,f2,f3,f4,f5⟩:=hf it (by simp)
  exact wpAny_pyNext_range_end (I.ok.hd hc) st (by have:n≤i:=hg;omega) fun h' eb=>⟨rfl,I.turned (t':=s.toks) (fun b o hb e=>eb b o hb e) f0 f1 f3 f4 f5⟩
 self:=fun _ _ _ _ _ st h=>wpAny_pyIter_rangeiter st h
end L2
namespace L2
open PySem PySem.Spec PyProof.Rows
section
variable {X:Cx}{tg:Expr}
theorem oB {pins:List (Addr×Obj)}{σ:St}{H:Hp}{s:Shared}{R:It→Hp→Prop}{E:Value→Shared→Prop}{lo hi:Int}{t u v:Tok}{tk:Nat}(I:Inv X pins σ H s)(h1 : -(2^62)≤lo)(h2:lo < 2^62)(h3 : -(2^62)≤hi)(h4:hi < 2^62)
  (q:R (Itr lo (hi - lo).toNat) H):wpAny (model X.prog X.w) X.A (pyIter (.ref s.heap.objs.size)) (PIE X pins σ tg R) E { s with heap:=s.heap.push { cls:=.type "range",data:=.fields #[.int lo t,.int hi u,.int 1 v] },toks:=tk }:=by
 refine wpAny_pyIter_range (IsRange.new ..) (small_one h1 h2 h3 h4) ?_
 have I1:Inv X pins σ H { s with heap:=s.heap.push { cls:=.type "range",data:=.fields #[.int lo t,.int hi u,.int 1 v] },toks:=tk }:=I.kept fun b o e=>Heap.get?_push_of_some _ e
 refine⟨(s.heap.push { cls:=.type "range",data:=.fields #[.int lo t,.int hi u,.int 1 v] }).objs.size,[(s.heap.push { cls:=.type "range",data:=.fields #[.int lo t,.int hi u,.int 1 v] }).objs.size],_,_,H,rfl,
  I1.kept (t':=tk) fun b o e=>Heap.get?_push_of_some _ e,qU _ lo (hi - lo).toNat,?_,fun b hb=>?_,q⟩
 ·have e1:lo+((0:Nat):Int)*1=lo:=by simp
  have e2:(((hi - lo).toNat:Nat):Int) - ((0:Nat):Int)=Builtin.Range.rangeSize lo hi 1:=by rw[rangeSize_one];split<;>omega
  show IsRangeIter _ _ (lo+((0:Nat):Int)*1) ((((hi - lo).toNat:Nat):Int) - ((0:Nat):Int)) 1
  rw[e1,e2]
  exact Heap.get?_push_size _ rfl
 ·have e:b=(s.heap.push { cls:=.type "range",data:=.fields #[.int lo t,.int hi u,.int 1 v] }).objs.size:=by simpa using hb
  subst e
  exact I1.fpOk (Nat.le_refl _) (I1.hok.fresh (Nat.le_refl _))
def iRng1 (ta:TA):TI:=fun σ H R=>ta σ H fun vs H1=>∃ j:Int,vs=[.int j]∧-(2^62)≤j∧j < 2^62∧R (Itr 0 j.toNat) H1
def iRng2 (ta:TA):TI:=fun σ H R=>ta σ H fun vs H1=>∃ i j:Int,vs=[.int i,.int j]∧(-(2^62)≤i∧i < 2^62∧-(2^62)≤j∧j < 2^62)∧R (Itr i (j - i).toNat) H1
theorem t7 {a:Expr}{ta:TA}{p pos:Pos}(hg:Gl X "range")(hm:X.mg "range"=none)(ha:PA X [a] ta)(hs:starEach [a] X.env=[(false,eval a X.env)]:=by rfl):PI X tg (.Call (.Name "range" p) [a] [] pos) (iRng1 ta):=by
 intro pins s σ H R I h
 refine Call_ (fm I hg hm boot_range (PyProof.Rows.callWith_type1 (thn (ha pos pins s σ H _ I h) fun us s1 ⟨vs,H1,I1,r1,q1⟩=>?_) hs rfl))
 obtain⟨j,e,q1,q2,q⟩:=q1
 subst e
 cases r1 with
 | cons r rr =>
  cases rr
  obtain⟨t,rfl⟩:=r
  exact call_range_1 (oB I1 (by omega) (by omega) q1 q2 (by grind))
theorem t8 {a b:Expr}{ta:TA}{p pos:Pos}(hg:Gl X "range")(hm:X.mg "range"=none)(ha:PA X [a,b] ta)(hs:starEach [a,b] X.env=[(false,eval a X.env),(false,eval b X.env)]:=by rfl)(hs2:starEach [b] X.env=[(false,eval b X.env)]:=by rfl) :
  PI X tg (.Call (.Name "range" p) [a,b] [] pos) (iRng2 ta):=by
 intro pins s σ H R I h
 refine Call_ (fm I hg hm boot_range (PyProof.Rows.callWith_type1 (thn (ha pos pins s σ H _ I h) fun us s1 ⟨vs,H1,I1,r1,q1⟩=>?_) (by rw[hs,hs2]) (by rw[hs2];rfl)))
 obtain⟨i,j,e,⟨q1,q2,q3,q4⟩,q⟩:=q1
 subst e
 cases r1 with
 | cons r rr =>
  cases rr with
  | cons r' rr =>
   cases rr
   obtain⟨t,rfl⟩:=r
   obtain⟨t',rfl⟩:=r'
   exact call_range_2 (oB I1 q1 q2 q3 q4 q)
def tFor (wi:TI)(g:TG)(tb:TS):TS:=fun D σ H=>wi σ H fun J H1=>∃ W:Nat→Nat→St→Hp→Prop,(∃ m,W 0 m σ H1)∧∀ i m σ H,W i m σ H →
 (J.stop i H∧D.nx σ H)∨(J.go i H∧∃ N:St→Hp→Prop,(∀ σ' H',N σ' H'→∃ m',m' < m∧W (i+1) m' σ' H')∧∀ x H',J.yld i H x H'→g x σ H' fun σ2 H2=>tb { D with nx:=N,ct:=N,bk:=D.nx } σ2 H2)
def pinsAt (fp:List Addr)(h:Heap):List (Addr×Obj):=fp.filterMap fun b=>(h.get? b).map fun o=>(b,o)
theorem d9 {fp:List Addr}{h:Heap}{b:Addr}{o:Obj}(hb:b∈fp)(e:h.get? b=some o):(b,o)∈pinsAt fp h:=List.mem_filterMap.mpr ⟨b,hb,by rw[e];rfl⟩
theorem t9 {fp:List Addr}{h:Heap}{p:Addr×Obj}(hp:p∈pinsAt fp h):p.1∈fp∧h.get? p.1=some p.2:=by
 obtain⟨b,hb,e⟩:=List.mem_filterMap.mp hp
 cases q:h.get? b with
 | none=>rw[q]at e;cases e
 | some o =>
  grind
theorem Inv.pinned {pins:List (Addr×Obj)}{σ:St}{H:Hp}{s:Shared}{fp:List Addr}(I:Inv X pins σ H s)(hf:∀ b∈fp,FpOk X pins H b)(ho:∀ b∈fp,∃ o,s.heap.get? b=some o∧∀ v,o.data≠.cell v):Inv X (pins++pinsAt fp s.heap) σ H s :=
 I.pins_of fun p hp=>(List.mem_append.mp hp).elim (fun z=>I.pin p (List.mem_append_right _ z)) fun z=>by
  obtain⟨hb,e⟩:=t9 z
  obtain⟨f0,f1,f2,_⟩:=hf p.1 hb
  grind
theorem Inv.unpinned {pins pl:List (Addr×Obj)}{σ:St}{H:Hp}{s:Shared}(I:Inv X (pins++pl) σ H s):Inv X pins σ H s:=I.pins_of fun p hp=>I.pin p (List.mem_append_right _ (List.mem_append_left _ hp))
theorem Ac {iter:Expr}{body:List Stmt}{wi:TI}{g:TG}{tb:TS}{pos:Pos}(hp:PassesOwn (model X.prog X.w) X.A X.env X.xe)(hc:X.calm=true)(hi:PI X tg iter wi)(hg:PG X tg g)(hb:PSs X body tb)
  (hs:∀ x,foldedSetIterable iter X.env x=pure x:=by intro _;rfl):PS X (.For tg iter body [] pos) (tFor wi g tb):=by
 intro pins s σ H D I h
 refine wpAny_For (thn (hi pins s σ H _ I h) fun v s1 h1=>thn h1 fun itv s2 h2=>?_) hs
 obtain⟨it,fp,tn,J,H2,e,I2,T,st2,f2,W,⟨m0,w0⟩,turn⟩:=h2
 subst e
 have stat:∀ {H':Hp},(∀ b∈fp,H' b=none)→∀ b∈fp,FpOk X pins H' b:=fun hn b hb=>⟨hn b hb,(f2 b hb).2⟩
 refine codeAny_forLoop_any (fun n s'=>∃ i σ' H',Inv X pins σ' H' s'∧tn i s'.heap∧(∀ b∈fp,H' b=none)∧W i n σ' H') ?_ m0 ⟨0,σ,H2,I2,st2,fun b hb=>(f2 b hb).1,w0⟩
 rintro n s3 ⟨i,σ3,H3,I3,st3,fr3,w3⟩
 rcases turn i n σ3 H3 w3 with ⟨stop,qn⟩ | ⟨go,N,hN,step⟩
 ·refine wpAny_passesOwn hp (thn (T.done X rfl rfl rfl hc i pins s3 σ3 H3 X.xe I3 (stat fr3) st3 stop) fun r s4 ⟨hr,I4⟩=>?_)
  subst hr
  exact wpAny_execs_nil ⟨σ3,H3,I4,qn⟩
 ·refine wpAny_passesOwn hp (thn (T.item X rfl rfl rfl hc i pins s3 σ3 H3 X.xe I3 (stat fr3) st3 go) fun r s4 ⟨u,hr,h4⟩=>?_)
  subst hr
  refine wpAny_passesOwn hp (thn h4 fun _ s5 ⟨x,H5,I5,r5,y5,st5,fr5⟩=>?_)
  have I5':=I5.pinned (stat fr5) (T.obj _ _ st5)
  refine wpAny_passesOwn hp (thn (hg _ s5 σ3 H5 x u _ I5' r5 (step x H5 y5)) fun _ s6 ⟨σ6,H6,I6,q6⟩=>?_)
  refine wpAny_passesOwn hp (thn (hb _ s6 σ6 H6 _ I6 q6) fun f s7 q7=>?_)
  have again:∀ {σ7:St} {H7:Hp},Inv X (pins++pinsAt fp s5.heap) σ7 H7 s7→N σ7 H7→∃ m,m < n∧∃ i σ' H',Inv X pins σ' H' s7∧tn i s7.heap∧(∀ b∈fp,H' b=none)∧W i m σ' H':=fun {σ7 H7} I7 n7=>by
   obtain⟨m',hm,w7⟩:=hN σ7 H7 n7
   refine⟨m',hm,i+1,σ7,H7,I7.unpinned,T.keep _ _ _ st5 fun b hb o e=>(I7.pin (b,o) (List.mem_append_right _ (List.mem_append_right _ (d9 hb e)))).1,fun b hb=>?_,w7⟩
   obtain⟨o,e,d⟩:=T.obj _ _ st5 b hb
   exact(I7.pin (b,o) (List.mem_append_right _ (List.mem_append_right _ (d9 hb e)))).2.1
  cases f with
  | next=>obtain⟨σ7,H7,I7,n7⟩:=q7;exact again I7 n7
  | cont=>obtain⟨σ7,H7,I7,n7⟩:=q7;exact again I7 n7
  | brk=>obtain⟨σ7,H7,I7,q7⟩:=q7;exact⟨σ7,H7,I7.unpinned,q7⟩
  | ret v=>obtain⟨x7,σ7,H7,I7,r7,q7⟩:=q7;exact⟨x7,σ7,H7,I7.unpinned,r7,q7⟩
end
end L2
namespace L2
open PySem PySem.Spec PyProof.Rows
abbrev R2:=V→V→Hp→VK→Prop
def OpR (X:Cx)(f:Value→Value→Sem Value)(r:R2):Prop :=
 ∀ (pins:List (Addr×Obj)) (s:Shared) (σ:St) (H:Hp) (x y:V) (v u:Value) (Q:VK),Inv X pins σ H s→RelV x v→RelV y u→r x y H Q →
  wpAny (model X.prog X.w) X.A (f v u) (EP X pins σ Q) X.xe s
def CallR (X:Cx)(f:Value)(r:List V→Hp→VK→Prop):Prop :=
 ∀ (pins:List (Addr×Obj)) (s:Shared) (σ:St) (H:Hp) (xs:List V) (us:List Value) (Q:VK),Inv X pins σ H s→Vals xs us→r xs H Q →
  wpAny (model X.prog X.w) X.A (call f us) (EP X pins σ Q) X.xe s
def tOp (r:R2)(ta tb:TE):TE:=fun σ H Q=>ta σ H fun x H1=>tb σ H1 fun y H2=>r x y H2 Q
def rI (C:Int→Int→Prop)(g:Int→Int→V):R2:=fun x y H Q=>∃ i j,x=.int i∧y=.int j∧C i j∧Q (g i j) H
def rI0 (g:Int→Int→V):R2:=fun x y H Q=>∃ i j,x=.int i∧y=.int j∧Q (g i j) H
section
variable {X:Cx}{a b c:Expr}{ta tb tc:TE}{pos:Pos}
theorem binT (ha:PE X a ta)(hb:PE X b tb){pins:List (Addr×Obj)}{s:Shared}{σ:St}{H:Hp}{R:V→V→Hp→Prop}(I:Inv X pins σ H s)
  (h:ta σ H fun x H1=>tb σ H1 fun y H2=>R x y H2) {Q:Value→Shared→Prop} {f:Value→Value→Sem Value}
  (hf:∀ v u s2 x y H2,Inv X pins σ H2 s2→RelV x v→RelV y u→R x y H2→wpAny (model X.prog X.w) X.A (f v u) Q X.xe s2) :
  wpAny (model X.prog X.w) X.A (eval a X.env) (fun v s₁=>wpAny (model X.prog X.w) X.A (eval b X.env) (fun u s₂=>wpAny (model X.prog X.w) X.A (f v u) Q X.xe s₂) X.xe s₁) X.xe s:=by
 refine thn (ha pins s σ H _ I h) fun v s1 ⟨x,H1,I1,r1,q1⟩=>?_
 refine thn (hb pins s1 σ H1 _ I1 q1) fun u s2 ⟨y,H2,I2,r2,q2⟩=>?_
 exact hf v u s2 x y H2 I2 r1 r2 q2
theorem A5 {op:Operator}{r:R2}(ho:OpR X (binaryOp op) r)(ha:PE X a ta)(hb:PE X b tb):PE X (.BinOp a op b pos) (tOp r ta tb):=by
 intro pins s σ H Q I h
 exact wpAny_BinOp (binT ha hb I h fun v u s2 x y H2 I2 rx ry q=>ho pins s2 σ H2 x y v u Q I2 rx ry q)
theorem opI {f:Value→Value→Sem Value}{C:Int→Int→Prop}{g:Int→Int→Int}
  (rule:∀ (i j:Int) (t u:Tok) (s:Shared) (Q:Value→Shared→Prop) (E:Value→Shared→Prop),C i j→Q (.int (g i j) s.toks) { s with toks:=s.toks+1 }→wpAny (model X.prog X.w) X.A (f (.int i t) (.int j u)) Q E s) :
  OpR X f (rI C fun i j=>.int (g i j)):=by
 intro pins s σ H x y v u Q I rx ry h
 obtain⟨i,j,rfl,rfl,hc,q⟩:=h
 obtain⟨t,rfl⟩:=rx
 obtain⟨t',rfl⟩:=ry
 exact rule i j t t' s _ _ hc ⟨.int (g i j),H,I.tok _,⟨_,rfl⟩,q⟩
theorem opI0 {f:Value→Value→Sem Value}{g:Int→Int→Int}
  (rule:∀ (i j:Int) (t u:Tok) (s:Shared) (Q:Value→Shared→Prop) (E:Value→Shared→Prop),Q (.int (g i j) s.toks) { s with toks:=s.toks+1 }→wpAny (model X.prog X.w) X.A (f (.int i t) (.int j u)) Q E s) :
  OpR X f (rI0 fun i j=>.int (g i j)):=by
 intro pins s σ H x y v u Q I rx ry h
 obtain⟨i,j,rfl,rfl,q⟩:=h
 obtain⟨t,rfl⟩:=rx
 obtain⟨t',rfl⟩:=ry
 exact rule i j t t' s _ _ ⟨.int (g i j),H,I.tok _,⟨_,rfl⟩,q⟩
theorem opB0 {f:Value→Value→Sem Value}{g:Int→Int→Bool}
  (rule:∀ (i j:Int) (t u:Tok) (s:Shared) (Q:Value→Shared→Prop) (E:Value→Shared→Prop),Q (.bool (g i j)) s→wpAny (model X.prog X.w) X.A (f (.int i t) (.int j u)) Q E s) :
  OpR X f (rI0 fun i j=>.bl (g i j)):=by
 intro pins s σ H x y v u Q I rx ry h
 obtain⟨i,j,rfl,rfl,q⟩:=h
 obtain⟨t,rfl⟩:=rx
 obtain⟨t',rfl⟩:=ry
 exact rule i j t t' s _ _ ⟨.bl (g i j),H,I,rfl,q⟩
def CDiv (i j:Int):Prop:=0 < j∧j < 1073741824
def CMul (i j:Int):Prop:=(-(2^64) < i∧i < 2^64)∨(-(2^64) < j∧j < 2^64)
theorem CMul.ok {i j:Int}(h:CMul i j):IntMulOk i j:=by
 rcases h with ⟨h1,h2⟩ | ⟨h1,h2⟩
 ·exact .of_left (intBits_le_64 h1 h2)
 ·exact .of_right (intBits_le_64 h1 h2)
theorem Ae:OpR X (binaryOp .Add) (rI0 fun i j=>.int (i+j)):=opI0 fun _ _ _ _ _ _ _ q=>add_int q
theorem Af:OpR X (binaryOp .Sub) (rI0 fun i j=>.int (i - j)):=opI0 fun _ _ _ _ _ _ _ q=>sub_int q
theorem Ag:OpR X (binaryOp .Mult) (rI CMul fun i j=>.int (i*j)):=opI fun _ _ _ _ _ _ _ hc q=>mul_int q hc.ok
theorem yk:OpR X (binaryOp .FloorDiv) (rI CDiv fun i j=>.int (i/j)):=opI fun i j _ _ _ _ _ hc q=>by
 have h1:=hc.1
 have h2:=hc.2
 exact floordiv_int (by omega) (by rw[Int.fdiv_eq_ediv_of_nonneg i (by omega)];exact q) (.inl (PyProof.noPylong_small (by omega)))
theorem Ah:OpR X (binaryOp .Mod) (rI (fun _ j=>0 < j) fun i j=>.int (i%j)):=opI fun i j _ _ _ _ _ hc q=>by
 have h1:=hc
 exact mod_int' (by omega) (by rw[Int.fmod_eq_emod_of_nonneg i (by omega)];exact q)
end
section
variable {X:Cx}{a b c:Expr}{ta tb tc:TE}{pos:Pos}
theorem sx:OpR X (compareOp .Lt) (rI0 fun i j=>.bl (decide (i < j))):=opB0 fun _ _ _ _ _ _ _ q=>lt_int q
theorem oC:OpR X (compareOp .LtE) (rI0 fun i j=>.bl (decide (i≤j))):=opB0 fun _ _ _ _ _ _ _ q=>le_int q
theorem A6:OpR X (compareOp .Gt) (rI0 fun i j=>.bl (decide (j < i))):=opB0 fun _ _ _ _ _ _ _ q=>gt_int q
theorem zC:OpR X (compareOp .GtE) (rI0 fun i j=>.bl (decide (j≤i))):=opB0 fun _ _ _ _ _ _ _ q=>ge_int q
theorem OpR.or {f:Value→Value→Sem Value}{r r':R2}(h:OpR X f r)(h':OpR X f r'):OpR X f (fun x y H Q=>r x y H Q∨r' x y H Q):=by
 intro pins s σ H x y v u Q I rx ry q
 rcases q with q | q
 ·exact h pins s σ H x y v u Q I rx ry q
 ·exact h' pins s σ H x y v u Q I rx ry q
theorem nomark (b:Expr){op:CmpOp}(h:op≠.In:=by decide)(h2:op≠.NotIn:=by decide):behindInMarks op b=false:=by
 have e1:(op==CmpOp.In)=false:=by cases op<;>first | rfl | exact absurd rfl h
 have e2:(op==CmpOp.NotIn)=false:=by cases op<;>first | rfl | exact absurd rfl h2
 cases b<;>simp[behindInMarks,e1,e2]
theorem sy {op:CmpOp}{r:R2}(ho:OpR X (compareOp op) r)(ha:PE X a ta)(hb:PE X b tb)(hm:behindInMarks op b=false):PE X (.Compare a [op] [b] pos) (tOp r ta tb):=by
 intro pins s σ H Q I h
 exact wpAny_Compare1 (binT ha hb I h fun v u s2 x y H2 I2 rx ry q=>ho pins s2 σ H2 x y v u Q I2 rx ry q) hm
def tTest (t:TE):TT:=fun σ H Q=>t σ H fun x H'=>∃ k,x=.bl k∧Q k H'
theorem sA {op:CmpOp}{r:R2}(ho:OpR X (compareOp op) r)(ha:PE X a ta)(hb:PE X b tb)(hm:behindInMarks op b=false):PT X (.Compare a [op] [b] pos) (tTest (tOp r ta tb)):=by
 intro pins s σ H Q I h
 refine wpAny_isTrue_Compare1 (thn (ha pins s σ H _ I h) fun v s1 ⟨x,H1,I1,r1,q1⟩=>thn (hb pins s1 σ H1 _ I1 q1) fun u s2 ⟨y,H2,I2,r2,q2⟩ =>
  thn (ho pins s2 σ H2 x y v u _ I2 r1 r2 q2) fun c s3 ⟨z,H3,I3,r3,k,e,q3⟩=>?_) hm
 subst e
 cases r3
 exact wpAny_truthy_bool ⟨H3,I3,q3⟩
def tChain (r r':R2)(ta tb tc:TE):TE:=fun σ H Q=>ta σ H fun x H1=>tb σ H1 fun y H2=>r x y H2 fun z H3=>∃ k,z=.bl k ∧
 (if k=true then tc σ H3 fun w' H4=>r' y w' H4 Q else Q (.bl false) H3)
theorem vP {op op':CmpOp}{r r':R2}(ho:OpR X (compareOp op) r)(ho':OpR X (compareOp op') r')(ha:PE X a ta)(hb:PE X b tb)(hc:PE X c tc)
  (hm:lastMarks [op,op'] [b,c]=false:=by with_unfolding_all rfl):PE X (.Compare a [op,op'] [b,c] pos) (tChain r r' ta tb tc):=by
 intro pins s σ H Q I h
 refine Compare_chain (thn (ha pins s σ H _ I h) fun v s1 ⟨x,H1,I1,r1,q1⟩=>chain_link (thn (hb pins s1 σ H1 _ I1 q1) fun u s2 ⟨y,H2,I2,r2,q2⟩ =>
  thn (ho pins s2 σ H2 x y v u _ I2 r1 r2 q2) fun d s3 ⟨z,H3,I3,r3,k,e,q3⟩=>?_)) hm
 subst e
 cases r3
 wp_walk
 cases k with
 | false=>exact ite_ff ⟨.bl false,H3,I3,rfl,q3⟩
 | true=>exact ite_tt (chain_last (thn (hc pins s3 σ H3 _ I3 q3) fun w' s4 ⟨z',H4,I4,r4,q4⟩=>ho' pins s4 σ H4 y z' u w' Q I4 r2 r4 q4))
theorem vQ {op op':CmpOp}{r r':R2}(ho:OpR X (compareOp op) r)(ho':OpR X (compareOp op') r')(ha:PE X a ta)(hb:PE X b tb)(hc:PE X c tc)
  (hm:lastMarks [op,op'] [b,c]=false:=by with_unfolding_all rfl):PT X (.Compare a [op,op'] [b,c] pos) (tTest (tChain r r' ta tb tc)):=by
 intro pins s σ H Q I h
 refine isTrue_chain (thn (ha pins s σ H _ I h) fun v s1 ⟨x,H1,I1,r1,q1⟩=>test_link (thn (hb pins s1 σ H1 _ I1 q1) fun u s2 ⟨y,H2,I2,r2,q2⟩ =>
  thn (ho pins s2 σ H2 x y v u _ I2 r1 r2 q2) fun d s3 ⟨z,H3,I3,r3,k,e,q3⟩=>?_)) hm
 subst e
 cases r3
 refine wpAny_truthy_bool ?_
 cases k with
 | false =>
  obtain⟨k',e',q'⟩:=q3
  cases e'
  exact ite_ff ⟨H3,I3,q'⟩
 | true =>
  refine ite_tt (test_last (thn (hc pins s3 σ H3 _ I3 q3) fun w' s4 ⟨z',H4,I4,r4,q4⟩=>thn (ho' pins s4 σ H4 y z' u w' _ I4 r2 r4 q4) fun d' s5 ⟨z2,H5,I5,r5,k2,e2,q5⟩=>?_))
  subst e2
  cases r5
  exact wpAny_truthy_bool ⟨H5,I5,q5⟩
theorem line63:(sizeLine:Nat) < 2^63:=by rw[sizeLine_eq];decide
theorem vals1 {x:V}{us:List Value}(r:Vals [x] us):∃ u,us=[u]∧RelV x u:=by
 cases r with
 | cons r1 r2=>cases r2;exact⟨_,rfl,r1⟩
theorem vals2 {x y:V}{us:List Value}(r:Vals [x,y] us):∃ u w',us=[u,w']∧RelV x u∧RelV y w':=by
 cases r with
 | cons r1 r2 =>
  cases r2 with
  | cons r3 r4=>cases r4;exact⟨_,_,rfl,r1,r3⟩
theorem ua (hc:X.calm=true):CallR X (.builtin "min") (fun xs H Q=>∃ i j,xs=[.int i,.int j]∧Q (.int (if j < i then j else i)) H):=by
 intro pins s σ H xs us Q I r h
 obtain⟨i,j,rfl,q⟩:=h
 obtain⟨u,w',rfl,⟨t,rfl⟩,⟨t',rfl⟩⟩:=vals2 r
 refine min_two_ints (I.ok.hd hc) fun h' tk k=>⟨_,H,I.kept k,?_,q⟩
 by_cases hj:j < i
 ·rw[if_pos hj,if_pos hj];exact⟨_,rfl⟩
 ·rw[if_neg hj,if_neg hj];exact⟨_,rfl⟩
end
end L2
namespace L2
open PySem PySem.Spec PyProof.Rows
structure ObjM (h:Heap)(x dx C:Addr)(mA:Str→Option Value):Prop where
 obj:h.get? x=some (PySem.W.instObj C dx)
 ns:h.Ns1 dx mA
 ne:dx≠x
theorem ub {h:Heap}{dx:Addr}{mA:Str→Option Value}(n:h.Ns1 dx mA):∃ od,h.get? dx=some od∧∀ name,PySem.W.lookIn name od=some (mA name):=by
 obtain⟨o,es,ep,ho,hd,hk,_,hm⟩:=n
 refine⟨o,ho,fun name=>?_⟩
 have e:=hm name
 unfold nsFind findBy at e
 rw[← Array.find?_toList]at e
 unfold PySem.W.lookIn
 rw[hd]
 dsimp only
 split
 ·rename_i y q
  rw[q]at e
  exact congrArg some e
 ·rename_i q
  rw[q]at e
  have a:es.toList.any (·.refKey)=false:=by
   rw[List.any_eq_false]
   intro y hy
   obtain⟨z,t,hkey⟩:=hk y (Array.mem_toList_iff.mp hy)
   simp[DictEntry.refKey,hkey]
  have a':¬ es.toList.any (·.refKey)=true:=by rw[a];exact Bool.false_ne_true
  rw[if_neg a']
  exact congrArg some e
theorem ObjM.look {h:Heap}{x dx C:Addr}{mA:Str→Option Value}(I:ObjM h x dx C mA):∃ od,PySem.W.InstAt h x (PySem.W.instObj C dx) C (some od)∧∀ name,PySem.W.lookIn name od=some (mA name) :=
 let ⟨od,ho,hl⟩:=ub I.ns
 ⟨od,⟨I.obj,rfl,rfl,ho⟩,hl⟩
section
variable {prog:Program}{w:World}{A:Around}{E:Value→Shared→Prop}{s:Shared}{K:PySem.W.Frag}{x dx C f:Addr}{mA:Str→Option Value}{name:Str}{v:Value}
theorem vR {pl:Sem Bool}{Q:Value×List Value→Shared→Prop}(X:K.In s.heap)(I:ObjM s.heap x dx C mA)(hg:PySem.W.plainGet K C name=true)
  (hf:PySem.W.findIn K (.ref C) name=some (some (.ref f))) (ht:PySem.W.isFn K (.ref f)=true) (hv:mA name=none) (h:Q (.ref f,[.ref x]) s) :
  wpAny (model prog w) A (getMethod (.ref x) name pl) Q E s:=by
 obtain⟨od,J,hl⟩:=I.look
 exact PySem.W.method_fn X J (PySem.W.plainGet_of hg).1 (PySem.W.plainGet_of hg).2 hf (beq_iff_eq.mp ht) (by show (PySem.W.lookIn name od).map (·.isSome)=some false;rw[hl,hv];rfl) h
theorem A7 {R:Result→Shared→Prop}{vs:List Value}{kw:List (Str×Value)}(X:K.In s.heap)(hm:PySem.W.makesIn K C=true)
  (hi:PySem.W.findIn K (.ref C) "__init__"=some (some (.ref f))) (hf:PySem.W.typeIn K (.ref f)=some (.type "function"))
  (h:codeAny (model prog w) (A.under (.builtin "type.__call__" ⟨.ref C::vs,kw⟩)) (.call (.ref f) ⟨.ref (s.heap.objs.size+1)::vs,kw⟩) (PySem.W.InitBack (s.heap.objs.size+1) R)
   { s with heap:=(s.heap.push PySem.W.emptyDict).push (PySem.W.instObj C s.heap.objs.size) }) :
  codeAny (model prog w) A (.call (.ref C) ⟨vs,kw⟩) R s:=by
 obtain⟨hh,g,d,t,os⟩:=s
 exact PySem.W.make_core (PySem.W.makes_of X hm) (PySem.W.looks_findIn X hi) (fun self=>PySem.W.bind_fn X self hf) (.inl rfl) h
end
theorem RelO.some_of {v:V}{o:Option Value}(r:RelO (some v) o):∃ u,o=some u∧RelV v u:=by
 cases o with
 | none=>exact(show False from r).elim
 | some u=>exact⟨u,rfl,r⟩
theorem RelO.none_of {o:Option Value}(r:RelO none o):o=none:=by
 cases o with
 | none=>rfl
 | some u=>exact(show False from r).elim
section
variable {P:Program}{w:World}{H H':Hp}{h h':Heap}{a C dx:Addr}{fs fs':List (Str×V)}
theorem yl (hok:HOk P w H h)(e:H a=some (.ins C dx fs)):∃ mA,ObjM h a dx C mA∧(∀ f,RelO (fs.lookup f) (mA f))∧PySem.Within mA (fs.map (·.1))∧fs.length≤1000∧H dx=some (.own a):=by
 obtain⟨d,z,ne,ob,mA,n,r,q⟩:=(show ObjOk P w H h a (.ins C dx fs) from hok a _ e)
 exact⟨mA,⟨ob,n,ne⟩,r,q,z,d⟩
end
structure Cls (K:PySem.W.Frag)(C:Addr):Prop where
 pg:PySem.W.plainGet K C Str.empty=true
 hd:PySem.W.hasDictIn K C=true
 po:PySem.W.plainOver K C=true
 sa:PySem.W.findIn K (.ref C) "__setattr__"=some (some (.builtin "object.__setattr__"))
theorem Cls.get {K:PySem.W.Frag}{C:Addr}(c:Cls K C)(f:Str):PySem.W.plainGet K C f=true:=c.pg
structure Meth (K:PySem.W.Frag)(C:Addr)(m:Str)(f:Addr):Prop where
 at_:PySem.W.findIn K (.ref C) m=some (some (.ref f))
 fn:PySem.W.isFn K (.ref f)=true
 kp:PySem.W.keepIn K (.ref f)=true
section
variable {X:Cx}{pins:List (Addr×Obj)}{σ:St}{H:Hp}{s:Shared}{a C dx:Addr}{fs:List (Str×V)}{f:Str}{v:V}{A:Around}{E:Value→Shared→Prop}
theorem qV {m:Str}{g:Addr}{pl:Sem Bool}{Q:Value×List Value→Shared→Prop}(I:Inv X pins σ H s)(e:H a=some (.ins C dx fs))(c:Cls X.K C)(k:Meth X.K C m g)(l:fs.lookup m=none)
  (h:Q (.ref g,[.ref a]) s):wpAny (model X.prog X.w) A (getMethod (.ref a) m pl) Q E s:=by
 obtain⟨mA,O,r,_,_,_⟩:=yl I.hok e
 have hn:mA m=none:=RelO.none_of (by rw[← l];exact r m)
 exact vR I.kIn O (c.get m) k.at_ k.fn hn h
end
section
variable {X:Cx}{o e value:Expr}{f:Str}{pos pos' tpos:Pos}{ta tv:TE}
theorem zE {pl:Sem Bool}{m:Str}{apos:Pos}{args:List Expr}{pins:List (Addr×Obj)}{s:Shared}{σ:St}{H:Hp}{Q:Value→Shared→Prop}{te:TE}(he:PE X e te)(I:Inv X pins σ H s)
  (h:te σ H fun x H1=>∃ a C dx fs g,x=.ref a∧H1 a=some (.ins C dx fs)∧Cls X.K C∧Meth X.K C m g∧fs.lookup m=none ∧
   ∀ s1,Inv X pins σ H1 s1→wpAny (model X.prog X.w) X.A (callWith pos (.ref g) [.ref a] (backTo pos (starEach args X.env)) (backToKw pos (keywordEach [] X.env))) Q X.xe s1)
  (ht:eval (.Call (.Attribute e m apos) args [] pos) X.env=(do
   let ov ← eval e X.env
   standAt apos.atName
   let (f,first) ← holding [ov] (getMethod ov m pl)
   callWith pos f first (backTo pos (starEach args X.env)) (backToKw pos (keywordEach [] X.env)))) :
  wpAny (model X.prog X.w) X.A (eval (.Call (.Attribute e m apos) args [] pos) X.env) Q X.xe s:=by
 refine PySem.W.methodCall_KW (thn (he pins s σ H _ I h) fun u s1 ⟨x,H1,I1,rx,a,C,dx,fs,g,ex,ea,c,k,l,q⟩=>?_) ht
 subst ex
 obtain rfl:u=Value.ref a:=rx
 exact qV I1 ea c k l (q s1 I1)
end
section
variable {X:Cx}{pins:List (Addr×Obj)}{σ:St}{H:Hp}{s:Shared}{A:Around}{E:Value→Shared→Prop}{Q:Value→Shared→Prop}{c:Value}{b:Bool}
inductive TyOf (K:PySem.W.Frag)(H:Hp):V→Value→Prop where
 | non:TyOf K H .non (.type "NoneType")
 | bl (x:Bool):TyOf K H (.bl x) (.type "bool")
 | int (i:Int):TyOf K H (.int i) (.type "int")
 | str (x:Str):TyOf K H (.str x) (.type "str")
 | flt (x:UInt64):TyOf K H (.flt x) (.type "float")
 | lst {a:Addr} {xs:List V} (e:H a=some (.lst xs)):TyOf K H (.ref a) (.type "list")
 | frz {a:Addr} {o:Obj} {xs:List V} (e:H a=some (.frz o (.lst xs))):TyOf K H (.ref a) (.type "list")
 | tup {a:Addr} {xs:List V} (e:H a=some (.tup xs)):TyOf K H (.ref a) (.type "tuple")
 | dK {a:Addr} {kvs:List (Key×V)} (e:H a=some (.dK kvs)):TyOf K H (.ref a) (.type "dict")
 | dT {a:Addr} {kvs:List (List Key×V)} (e:H a=some (.dT kvs)):TyOf K H (.ref a) (.type "dict")
 | ins {a C dx:Addr} {fs:List (Str×V)} (e:H a=some (.ins C dx fs)) (cl:Cls K C) (ha:PySem.W.findIn K (.ref C) "__class__"=some (some (.builtin "object.__class__")))
   (hn:PySem.W.specialIn K (.builtin "object.__class__") "__get__"=some (some (.builtin "getset_descriptor.__get__"))) (htk:PySem.W.takesIn K (.builtin "object.__class__")=some true)
   (hm:PySem.W.mroIn K C (.type "object")=some true):TyOf K H (.ref a) (.ref C)
end
end L2
namespace L2
open PySem PySem.Spec PyProof.Rows
structure Room (k:Nat)(A:Around):Prop where
 hd:A.handled=none
 dp:A.depth+3*k+5 < recursionLimit
 un:A.units+16*k+200 < cLine
theorem Room.mono {j k:Nat}{A:Around}(r:Room k A)(h:j≤k):Room j A:=⟨r.hd,by have:=r.dp;omega,by have:=r.un;omega⟩
theorem Room.deeper {k:Nat}{A:Around}(r:Room (k+1) A)(env:Env):Room k (A.deeper env) :=
 ⟨r.hd,by have:=r.dp;show A.depth+1+3*k+5 < _;omega,by have:=r.un;show A.units+3+16*k+200 < _;omega⟩
structure RoomW (k:Nat)(A:Around):Prop where
 hd:A.handled=none
 dp:A.depth+3*k+3 < recursionLimit
 un:A.units+16*k+190 < cLine
theorem Room.w {k:Nat}{A:Around}(r:Room k A):RoomW k A:=⟨r.hd,by have:=r.dp;omega,by have:=r.un;omega⟩
theorem RoomW.mono {j k:Nat}{A:Around}(r:RoomW k A)(h:j≤k):RoomW j A:=⟨r.hd,by have:=r.dp;omega,by have:=r.un;omega⟩
theorem RoomW.deeper {k:Nat}{A:Around}(r:RoomW (k+1) A)(env:Env):Room k (A.deeper env) :=
 ⟨r.hd,by have:=r.dp;show A.depth+1+3*k+5 < _;omega,by have:=r.un;show A.units+3+16*k+200 < _;omega⟩
theorem RoomW.depth {k:Nat}{A:Around}(r:RoomW k A):A.depth < recursionLimit:=by have:=r.dp;omega
theorem Room.depth {k:Nat}{A:Around}(r:Room k A):A.depth < recursionLimit:=by have:=r.dp;omega
theorem Room.units {k:Nat}{A:Around}(r:Room k A):A.units+64 < cLine:=by have:=r.un;omega
def tNil:TA:=fun _ H Q=>Q [] H
def tCons (ta:TE)(tr:TA):TA:=fun σ H Q=>ta σ H fun x H1=>tr σ H1 fun xs H2=>Q (x::xs) H2
section
variable {X:Cx}{e:Expr}{es:List Expr}{te:TE}{t:TA}{pos:Pos}
theorem vS:PA X [] tNil:=fun _ _ _ _ H Q I h=>Calls.spliced_nil ⟨[],H,I,.nil,h⟩
theorem nv (ha:PE X e te)(hr:PA X es t)(hs:starEach (e::es) X.env=(false,eval e X.env)::starEach es X.env:=by rfl):PA X (e::es) (tCons te t):=by
 intro pos pins s σ H Q I h
 rw[hs]
 refine Calls.spliced_cons (thn (ha pins s σ H _ I h) fun u s1 ⟨x,H1,I1,r1,q1⟩=>?_)
 exact thn (hr pos pins s1 σ H1 _ I1 q1) fun us s2 ⟨xs,H2,I2,r2,q2⟩=>⟨x::xs,H2,I2,.cons r1 r2,q2⟩
def tTup (t:TA):TE:=fun σ H Q=>t σ H fun xs H1=>xs.length≤sizeLine∧∀ p,H1 p=none→Q (.ref p) (upd H1 p (.tup xs))
def tLst (t:TA):TE:=fun σ H Q=>t σ H fun xs H1=>xs.length≤sizeLine∧∀ p,H1 p=none→Q (.ref p) (upd H1 p (.lst xs))
theorem Ai {x1}(h:PA X es t):PE X (.Tuple es x1 pos) (tTup t):=by
 intro pins s σ H Q I hq
 refine wpAny_Tuple_spliced (thn (h pos pins s σ H _ I hq) fun us s1 ⟨xs,H1,I1,r,z,q⟩=>⟨by rw[← r.length];exact z,?_⟩)
 have hf:=I1.hok.fresh (Nat.le_refl _)
 refine⟨.ref s1.heap.objs.size,upd H1 s1.heap.objs.size (.tup xs),I1.laid (fun b u e=>Heap.get?_push_of_some _ e) (Nat.le_refl _) ?_,rfl,q _ hf⟩
 exact⟨z,us,r,TupO.new _ _⟩
theorem vT (h:PA X es t):PE X (.List es pos) (tLst t):=by
 intro pins s σ H Q I hq
 refine wpAny_List_spliced (thn (h pos pins s σ H _ I hq) fun us s1 ⟨xs,H1,I1,r,z,q⟩=>⟨by rw[← r.length];exact z,?_⟩)
 have hf:=I1.hok.fresh (Nat.le_refl _)
 refine⟨.ref s1.heap.objs.size,upd H1 s1.heap.objs.size (.lst xs),I1.laid (fun b u e=>Heap.get?_push_of_some _ e) (Nat.le_refl _) ?_,rfl,q _ hf⟩
 exact⟨z,us,0,r,Heap.get?_push_size _ rfl⟩
end
abbrev Sp:=List V→Hp→VK→XK→Prop
abbrev CXT:=List Env→Hp→Shared→XK→Value→Shared→Prop
structure Env0 (P:Program)(w:World)(K:PySem.W.Frag)(mg:Str→Option Value)(base:Heap)(A:Around)(outer:List Env)(s:Shared)(H:Hp):Prop where
 frames:A.frames=some outer
 mod:Mod K mg base
 bs:∀ b o,base.get? b=some o→s.heap.get? b=some o∧H b=none
 bsz:base.objs.size≤s.heap.objs.size
 funs:s.heap.FunFrames base outer
 frf:∀ b∈frs outer,H b=none
 hok:HOk P w H s.heap
 bare:AllBare s.gens
def CE (outer:List Env)(P:Program)(w:World)(H:Hp)(s:Shared)(Q:VK)(u:Value)(s':Shared):Prop :=
 ∃ v H',s'.os=s.os∧AllBare s'.gens∧Un (frs outer) [] H H' s.heap s'.heap∧HOk P w H' s'.heap∧RelV v u∧Q v H'
def CR (CX:CXT)(outer:List Env)(P:Program)(w:World)(H:Hp)(s:Shared)(Q:VK)(E:XK)(r:Result)(s':Shared):Prop :=
 match r with
 | .ok (.ret u)=>CE outer P w H s Q u s'
 | .ok _=>False
 | .error e=>CX outer H s E e s'
structure FnOk (P:Program)(w:World)(K:PySem.W.Frag)(mg:Str→Option Value)(base:Heap)(CX:CXT)(k:Nat)(f:Addr)(fd:FuncData)(ps:List Str)(sp:Sp):Prop where
 len:∀ vs H Q E,sp vs H Q E→vs.length=ps.length
 run:∀ (A:Around) (outer:List Env) (s:Shared) (H:Hp) (args:Args) (us:List Value) (vs:List V) (Q:VK) (E:XK),RoomW k A→Env0 P w K mg base A outer s H→BindsTo s fd args (ps.zip us)→Vals vs us→sp vs H Q E →
  codeAny (model P w) A (.call (.ref f) args) (CR CX outer P w H s Q E) s
theorem FnOk.mono {P:Program}{w:World}{K:PySem.W.Frag}{mg:Str→Option Value}{base:Heap}{CX:CXT}{j k:Nat}{f:Addr}{fd:FuncData}{ps:List Str}{sp:Sp}(F:FnOk P w K mg base CX j f fd ps sp)(h:j≤k) :
  FnOk P w K mg base CX k f fd ps sp:=⟨F.len,fun A outer s H args us vs Q E hr=>F.run A outer s H args us vs Q E (hr.mono h)⟩
section
variable {X:Cx}{pins:List (Addr×Obj)}{σ:St}{H:Hp}{s s':Shared}
theorem Inv.env0 (I:Inv X pins σ H s):Env0 X.prog X.w X.K X.mg X.base X.A X.stack s H :=
 ⟨I.ok.frames,I.ok.mod,I.bs,Nat.le_trans I.ok.bsz I.sz,I.stack,I.stkFree,I.hok,I.bare⟩
theorem Inv.after {Q:VK}{u:Value}(I:Inv X pins σ H s)(h:CE X.stack X.prog X.w H s Q u s'):EP X pins σ Q u s':=by
 obtain⟨v,H',os,bare,un,hok,r,q⟩:=h
 obtain⟨hh,g,d,t,os'⟩:=s'
 obtain rfl:os'=s.os:=os
 exact⟨v,H',I.call un hok bare (fun b z=>absurd z (by simp)),r,q⟩
end
def tCall (sp:Sp)(dvs:List V)(E:XK)(t:TA):TE:=fun σ H Q=>t σ H fun vs H1=>sp (vs++dvs) H1 Q E
def Binds (K:PySem.W.Frag)(fd:FuncData)(ps:List Str)(ds:List Value):Prop :=
 ∀ (s:Shared) (us:List Value),K.In s.heap→(us++ds).length=ps.length→BindsTo s fd ⟨us,[]⟩ (ps.zip (us++ds))
theorem Binds.all {K:PySem.W.Frag}{fd:FuncData}{ps:List Str}(h:∀ us:List Value,us.length=ps.length→bindArgs fd ⟨us,[]⟩=pure (ps.zip us)):Binds K fd ps []:=fun s us _ hl=>by
 rw[List.append_nil]at hl ⊢
 exact .of_eq (h us hl)
def Passes (CX:CXT)(X:Cx)(E:XK):Prop:=∀ (pins:List (Addr×Obj)) (σ:St) (H:Hp) (s:Shared) (e:Value) (s':Shared),Inv X pins σ H s→CX X.stack H s E e s'→X.xe e s'
section
variable {X:Cx}{CX:CXT}{k:Nat}{f C:Addr}{fd:FuncData}{ps:List Str}{sp:Sp}{dvs:List V}{ds:List Value}{E:XK}{x m:Str}{p pos apos:Pos}{e o:Expr}{es:List Expr}{ta:TE}{t:TA}
theorem vU {pins:List (Addr×Obj)}{σ:St}{H:Hp}{s:Shared}{Q:VK}{us:List Value}{vs:List V}(F:FnOk X.prog X.w X.K X.mg X.base CX k f fd ps sp)(hr:Room k X.A)(hb:Binds X.K fd ps ds)(hd:Vals dvs ds)(hx:Passes CX X E)
  (I:Inv X pins σ H s) (r:Vals vs us) (h:sp (vs++dvs) H Q E):wpAny (model X.prog X.w) X.A (call (.ref f) us) (EP X pins σ Q) X.xe s:=by
 have r2:Vals (vs++dvs) (us++ds):=r.append hd
 have hl:(us++ds).length=ps.length:=by rw[← r2.length];exact F.len _ _ _ _ h
 refine wpAny_call (codeAny_mono (F.run X.A X.stack s H ⟨us,[]⟩ (us++ds) (vs++dvs) Q E hr.w I.env0 (hb s us I.kIn hl) r2 h) fun r s' hq=>?_)
 cases r with
 | error e=>exact hx pins σ H s e s' I hq
 | ok fl =>
  cases fl with
  | ret u=>exact I.after hq
  | next=>exact False.elim hq
  | brk=>exact False.elim hq
  | cont=>exact False.elim hq
theorem ym (F:FnOk X.prog X.w X.K X.mg X.base CX k f fd ps sp)(hr:Room k X.A)(hg:Gl X x)(hm:X.mg x=some (.ref f))(hk:PySem.W.keepIn X.K (.ref f)=true)(hb:Binds X.K fd ps ds)(hd:Vals dvs ds)(hx:Passes CX X E)
  (ha:PA X (e::es) t) (hdb:(x==("__debug__":Str))=false:=by decide) (he:starEach (e::es) X.env=(false,eval e X.env)::starEach es X.env:=by rfl) (hpl:(backTo pos (starEach es X.env)).any (·.1)=false:=by rfl) :
  PE X (.Call (.Name x p) (e::es) [] pos) (tCall sp dvs E t):=by
 intro pins s σ H Q I h
 refine wpAny_Call_Name_kw (nr I hg hm ?_ hdb)
 refine PySem.W.callWith_K (h₀:=X.base) I.ok.mod.kin hk (thn (ha pos pins s σ H _ I h) fun us s1 ⟨vs,H1,I1,r,q⟩=>⟨I1.kIn,?_⟩) he hpl
 exact vU F hr hb hd hx I1 r q
structure Mk (K:PySem.W.Frag)(C f:Addr):Prop where
 makes:PySem.W.makesIn K C=true
 init:PySem.W.findIn K (.ref C) "__init__"=some (some (.ref f))
 fn:PySem.W.isFn K (.ref f)=true
 kp:PySem.W.keepIn K (.ref C)=true
end
section
variable {X:Cx}{CX:CXT}{k:Nat}{f C:Addr}{fd:FuncData}{ps ks:List Str}{sp:Sp}{E:XK}{x m:Str}{p pos apos kpos:Pos}{e o:Expr}{es:List Expr}{kws:List Keyword}{te ta:TE}{t tk:TA}{nm:Option Str}
variable {g:List Value→List Value→List Value}{gV:List V→List V→List V}
end
structure FnScope (N P:List Str)(sc:Scope):Prop where
 kind:sc.kind=.function
 co:sc.isCoroutine=false
 gen:sc.isGenerator=false
 nd:N.Nodup
 pre:N.take P.length=P
 par:∀ x∈P,sc.names.lookup x=some .local∨sc.names.lookup x=some .cell
 nofree:∀ y∈sc.names,y.2≠.free
theorem mR {kindOf:Str→Option NameKind}{x:Str}:∀ {binds:List (Str×Value)} {m:Str→Option Value},(∀ v,(x,v)∉binds)→bindL kindOf binds m x=m x
 | [],_,_=>rfl
 | (n,v)::r,m,h=>by
  unfold bindL
  rw[mR fun w hw=>h w (List.mem_cons_of_mem _ hw)]
  split
  ·have:x≠n:=by rintro rfl;exact h v List.mem_cons_self
   simp[this]
  ·rfl
theorem mS {kindOf:Str→Option NameKind}{x:Str}:∀ {binds:List (Str×Value)} {m:Str→Option Value},(∀ v,(x,v)∉binds)→bindC kindOf binds m x=m x
 | [],_,_=>rfl
 | (n,v)::r,m,h=>by
  unfold bindC
  rw[mS fun w hw=>h w (List.mem_cons_of_mem _ hw)]
  split
  ·rfl
  ·have:x≠n:=by rintro rfl;exact h v List.mem_cons_self
   simp[this]
theorem mT {kindOf:Str→Option NameKind}{x:Str}{v:Value}:∀ {P:List Str} {vs:List Value} {i:Nat} {m:Str→Option Value},P.Nodup→P[i]?=some x→vs[i]?=some v→kindOf x=some .local →
  bindL kindOf (P.zip vs) m x=some v
 | [],_,_,_,_,h,_,_=>by simp at h
 | _::_,[],_,_,_,_,h,_=>by simp at h
 | p::P,w::vs,0,m,nd,h1,h2,hk=>by
  simp at h1 h2;subst h1;subst h2
  show bindL kindOf ((p,w)::P.zip vs) m p=_
  unfold bindL
  rw[mR fun v hv=>(List.nodup_cons.mp nd).1 (List.of_mem_zip hv).1,if_pos hk]
  simp
 | p::P,w::vs,i+1,m,nd,h1,h2,hk=>by
  unfold bindL
  exact mT (List.nodup_cons.mp nd).2 (by simpa using h1) (by simpa using h2) hk
theorem mU {kindOf:Str→Option NameKind}{x:Str}{v:Value}:∀ {P:List Str} {vs:List Value} {i:Nat} {m:Str→Option Value},P.Nodup→P[i]?=some x→vs[i]?=some v→kindOf x≠some .local →
  bindC kindOf (P.zip vs) m x=some v
 | [],_,_,_,_,h,_,_=>by simp at h
 | _::_,[],_,_,_,_,h,_=>by simp at h
 | p::P,w::vs,0,m,nd,h1,h2,hk=>by
  simp at h1 h2;subst h1;subst h2
  show bindC kindOf ((p,w)::P.zip vs) m p=_
  unfold bindC
  rw[mS fun v hv=>(List.nodup_cons.mp nd).1 (List.of_mem_zip hv).1,if_neg hk]
  simp
 | p::P,w::vs,i+1,m,nd,h1,h2,hk=>by
  unfold bindC
  exact mU (List.nodup_cons.mp nd).2 (by simpa using h1) (by simpa using h2) hk
def start (N:List Str)(vs:List V):St:=vs.map some++List.replicate (N.length - vs.length) none
def cxOf (CX:CXT)(P:Program)(w:World)(K:PySem.W.Frag)(mg:Str→Option Value)(base:Heap)(N:List Str)(qual:Str)(scope:Scope)(f:Addr)(cd:Value)(A:Around)(outer:List Env)(s:Shared)(H:Hp)(E:XK):Cx where
 prog:=P
 w:=w
 K:=K
 mg:=mg
 base:=base
 A:=A.deeper (envOfC qual scope s.heap.objs.size f cd)
 N:=N
 s₀:=s
 H₀:=H
 env:=envOfC qual scope s.heap.objs.size f cd
 outer:=outer
 stack:=envOfC qual scope s.heap.objs.size f cd::outer
 ex:=[]
 calm:=true
 fn:=fun _=>true
 pn:=[]
 xe:=fun e s'=>wpAny (model P w) (A.deeper (envOfC qual scope s.heap.objs.size f cd)) (leaving (envOfC qual scope s.heap.objs.size f cd) e) (fun _ s''=>CX outer H s E e s'') (fun e' s''=>CX outer H s E e' s'') s'
theorem oD {sc:Scope}{n:Nat}{x:Str}(h:sc.names.lookup x=some .cell):∃ c,(cellsFrom n sc.names []).lookup x=some c:=by
 have q:=PySem.W.cellsFrom_some sc.names n [] (.inl h)
 exact Option.isSome_iff_exists.mp q
theorem uc {CX:CXT}{P:Program}{w:World}{K:PySem.W.Frag}{mg:Str→Option Value}{base:Heap}{N ps:List Str}{qual:Str}{scope:Scope}{f:Addr}{cd:Value}{A:Around}{outer:List Env}{s s1:Shared}{H:Hp}{E:XK}{us:List Value}{vs:List V}
  (S:FnScope N ps scope) (hd:A.handled=none) (e0:Env0 P w K mg base A outer s H) (hl:vs.length=ps.length) (r:Vals vs us)
  (x:InCallC s s.heap.objs.size (bindL (envOfC qual scope s.heap.objs.size f cd).kindOf (ps.zip us) fun _=>none) (cellsFrom (s.heap.objs.size+1) scope.names []) (bindC (envOfC qual scope s.heap.objs.size f cd).kindOf (ps.zip us) fun _=>none) s1) :
  Inv (cxOf CX P w K mg base N qual scope f cd A outer s H E) [] (start N vs) H s1:=by
 have hpl:ps.length≤N.length:=by have:=congrArg List.length S.pre;rw[List.length_take]at this;omega
 obtain⟨h1,tk,rfl,hk⟩:=x.done
 have noA:∀ b:Addr,b∉(cxOf CX P w K mg base N qual scope f cd A outer s H E).ex:=fun b z=>absurd (show b∈([]:List Addr) from z) (by simp)
 refine⟨⟨e0.mod,S.kind,rfl,rfl,Nat.le_refl _,fun y z c h1 h2=>?_,fun y hy=>?_,fun y c _ h=>?_,fun _=>hd,Around.frames_deeper e0.frames,.inr ⟨rfl,rfl⟩,fun b z=>absurd z (noA b),e0.bs,e0.bsz,fun b _ _=>noA b,fun b z=>absurd z (noA b),e0.funs,e0.frf⟩,
  rfl,e0.bare,Un.kept hk,⟨_,x.toInCall.ns,fun i y v h1 h2 h3=>?_⟩,fun y c h=>⟨_,x.cell y c h⟩,e0.hok.fresh (Nat.le_refl _),fun y c h=>?_,fun p hp=>absurd (show p∈([]:List (Addr×Obj)) from hp) (by simp),e0.hok.kept hk,?_⟩
 ·exact name_of_addr x.apart (PySem.mem_of_lookup h1) (PySem.mem_of_lookup h2)
 ·have hy:=hy
  rcases hy with hy | hy
  ·exact oD hy
  ·exact absurd rfl (S.nofree _ (PySem.mem_of_lookup hy))
 ·exact Nat.le_of_lt (x.above y c (PySem.mem_of_lookup h))
 ·have hi:i < vs.length:=by
   unfold start at h2
   by_cases hi:i < vs.length
   ·exact hi
   ·rw[List.getElem?_append_right (by simpa using hi)]at h2
    rw[List.getElem?_replicate]at h2
    split at h2<;>cases h2
  have ha:vs[i]?=some v:=by
   unfold start at h2
   rw[List.getElem?_append_left (by simpa using hi),List.getElem?_map]at h2
   cases e:vs[i]? with
   | none=>rw[e]at h2;cases h2
   | some a=>rw[e]at h2;cases h2;rfl
  obtain⟨u,hu,rv⟩:=r.get ha
  have hp:ps[i]?=some y:=by
   rw[← S.pre,List.getElem?_take_of_lt (by omega)];exact h1
  have ndP:ps.Nodup:=by rw[← S.pre];exact S.nd.sublist (List.take_sublist _ _)
  refine⟨u,rv,?_⟩
  rcases S.par y (List.mem_of_getElem? hp) with k | k
  ·exact .inl ⟨k,mT ndP hp hu k⟩
  ·obtain⟨c,e⟩:=oD k
   refine .inr ⟨.inl k,c,e,?_⟩
   have q:=x.cell y c e
   rw[mU ndP hp hu (by show scope.names.lookup y≠_;rw[k];decide)]at q
   exact q
 ·exact e0.hok.fresh (Nat.le_of_lt (x.above y c (PySem.mem_of_lookup h)))
 ·unfold start
  show _=N.length
  rw[List.length_append,List.length_map,List.length_replicate]
  omega
theorem vV {CX:CXT}{P:Program}{w:World}{K:PySem.W.Frag}{mg:Str→Option Value}{base:Heap}{k:Nat}{f:Addr}{name qual:Str}{params:Arguments}{body:List Stmt}{scope:Scope}{dV kV doc pm cdv ct oc:Value}{an od:Option Addr}
  {osl:Array (Option Value)} {N ps:List Str} {sp:Sp} (lk:K.lookup f=some ⟨oc,od,.func (PySem.W.fnOf name qual params body scope dV kV doc pm an cdv ct),osl⟩) (hcd:PySem.W.codeIn K cdv qual=true) (S:FnScope N ps scope)
  (len:∀ vs H Q E,sp vs H Q E→vs.length=ps.length)
  (hbody:∀ (A:Around) (outer:List Env) (s:Shared) (H:Hp) (vs:List V) (Q:VK) (E:XK),Room k (A.deeper (envOfC qual scope s.heap.objs.size f cdv))→sp vs H Q E →
   ∃ t,PSs (cxOf CX P w K mg base N qual scope f cdv A outer s H E) body t∧t { nx:=fun _ H'=>Q .non H',rt:=Q } (start N vs) H) :
  FnOk P w K mg base CX (k+1) f (PySem.W.fnOf name qual params body scope dV kV doc pm an cdv ct) ps sp:=by
 refine⟨len,fun A outer s H args us vs Q E hr e0 hb r hsp=>?_⟩
 have hl:=len _ _ _ _ hsp
 have KX:K.In s.heap:=e0.mod.kin.keeps fun b o e=>(e0.bs b o e).1
 have lim:=e0.mod.nolimit.keeps fun b o e=>(e0.bs b o e).1
 have hkind:∀ y∈ps.zip us,scope.names.lookup y.1=some .local∨(scope.names.lookup y.1=some .cell∧((cellsFrom (s.heap.objs.size+1) scope.names []).lookup y.1).isSome=true):=fun ⟨n,v⟩ hy=>by
  rcases S.par n (List.of_mem_zip hy).1 with q | q
  ·exact .inl q
  ·exact .inr ⟨q,PySem.W.cellsFrom_some _ _ _ (.inl q)⟩
 refine codeAny_call_function hr.depth (KX _ _ lk) rfl S.co S.gen rfl (PySem.W.codeRec_of KX hcd) (hb _ _ _ _ ?_)
 refine wpAny_newFunctionEnv_cells S.kind hkind fun env he s1 x=>?_
 subst he
 refine⟨lim.keeps x.toInCall.keep,codeAny_func ?_⟩
 obtain⟨t,ht,hq⟩:=hbody A outer s H vs Q E (hr.deeper _) hsp
 have I:Inv (cxOf CX P w K mg base N qual scope f cdv A outer s H E) [] (start N vs) H s1:=uc S hr.hd e0 hl r x
 refine wpAny_mono (ht [] s1 (start N vs) H _ I hq) (fun fl s' hs=>?_) fun e s' hs=>hs
 have fin:∀ {σ':St} {H':Hp} {v:V} {u:Value},Inv (cxOf CX P w K mg base N qual scope f cdv A outer s H E) [] σ' H' s'→RelV v u→Q v H'→CE outer P w H s Q u s' :=
  fun {σ' H' v u} J rv q=>⟨v,H',J.os,J.bare,J.base,J.hok,rv,q⟩
 cases fl with
 | ret u =>
  obtain⟨v,σ',H',J,rv,q⟩:=hs
  exact fin J rv q
 | next =>
  obtain⟨σ',H',J,q⟩:=hs
  exact fin (v:=V.non) J rfl q
 | brk =>
  obtain⟨_,_,_,q⟩:=hs
  exact False.elim q
 | cont =>
  obtain⟨_,_,_,q⟩:=hs
  exact False.elim q
end L2
namespace L2
open PySem PySem.Spec PyProof.Rows
section
variable {X:Cx}{x:Str}{p pos:Pos}{e:Expr}{es:List Expr}{t:TA}{id T:String}{r:List V→Hp→VK→Prop}
def tCB (r:List V→Hp→VK→Prop)(t:TA):TE:=fun σ H Q=>t σ H fun vs H1=>r vs H1 Q
theorem ft (hc:CallR X (.builtin id) r)(hg:Gl X x)(hm:X.mg x=none)(hv:bootBuiltins x=some (.builtin id))(ha:PA X (e::es) t)(hn:x ≠ "__name__" := by decide)(hdb:(x==("__debug__":Str))=false:=by decide)
  (he:starEach (e::es) X.env=(false,eval e X.env)::starEach es X.env:=by rfl) (hpl:(backTo pos (starEach es X.env)).any (·.1)=false:=by rfl):PE X (.Call (.Name x p) (e::es) [] pos) (tCB r t):=by
 intro pins s σ H Q I h
 refine wpAny_Call_Name_kw (fm I hg hm hv ?_ hn hdb)
 exact PyProof.Rows.callWith_builtin1 (thn (ha pos pins s σ H _ I h) fun us s1 ⟨vs,H1,I1,r1,q1⟩=>hc pins s1 σ H1 vs us Q I1 r1 q1) he hpl
theorem ud (hc:CallR X (.type T) r)(hg:Gl X x)(hm:X.mg x=none)(hv:bootBuiltins x=some (.type T))(ha:PA X (e::es) t)(hn:x ≠ "__name__" := by decide)(hdb:(x==("__debug__":Str))=false:=by decide)
  (he:starEach (e::es) X.env=(false,eval e X.env)::starEach es X.env:=by rfl) (hpl:(backTo pos (starEach es X.env)).any (·.1)=false:=by rfl):PE X (.Call (.Name x p) (e::es) [] pos) (tCB r t):=by
 intro pins s σ H Q I h
 refine wpAny_Call_Name_kw (fm I hg hm hv ?_ hn hdb)
 exact PyProof.Rows.callWith_type1 (thn (ha pos pins s σ H _ I h) fun us s1 ⟨vs,H1,I1,r1,q1⟩=>hc pins s1 σ H1 vs us Q I1 r1 q1) he hpl
end
end L2
namespace HT
open PySem PyProof.Rows
section
open PySem.SeqAt
open PySem.AutoSeq1 (wpAny_loadPart')
open PySem.MeetsSeq PySem.MeetsSeq2 PySem.MeetsSeq3
end
section
variable {prog:Program}{w:World}{A:Around}{E:Value→Shared→Prop}{s:Shared}
theorem yn {t b:Addr}{vs ws:List Value}{Q:Value→Shared→Prop}(ht:IsTup s.heap t vs.toArray)(hb:IsTup s.heap b ws.toArray)(hv:vs≠[])
  (h1:ws=[]→Q (.ref t) s) (h2:ws≠[]→Q (.ref s.heap.objs.size) { s with heap:=s.heap.push { cls:=.type "tuple",data:=.seq (vs++ws).toArray } })
  (hsz:vs.length+ws.length≤sizeLine):wpAny (model prog w) A (binaryOp .Add (.ref t) (.ref b)) Q E s:=by
 obtain⟨⟨cls,dd,data,sl⟩,ho,hc,n,hd⟩:=id ht
 obtain⟨⟨cls2,dd2,data2,sl2⟩,ho2,hc2,n2,hd2⟩:=id hb
 simp only at hc hd hc2 hd2
 subst hc hd hc2 hd2
 have e:vs.toArray++ws.toArray=(vs++ws).toArray:=by simp
 by_cases hw:ws=[]
 ·exact concat_meets ⟨_,ho,rfl⟩ ⟨_,ho2,rfl⟩ noFill_tuple_add seq_tuple_add PySem.F.slot_tuple_add PySem.F.entry_tuple_add (PySem.F.args_tuple_add_2 _ _)
   (tuple_addW1 t b vs.toArray ws.toArray n n2 dd dd2 sl sl2 (by simpa using hv) (by simp[hw])) ⟨ho,ho2,h1 hw⟩
 ·refine concat_meets ⟨_,ho,rfl⟩ ⟨_,ho2,rfl⟩ noFill_tuple_add seq_tuple_add PySem.F.slot_tuple_add PySem.F.entry_tuple_add (PySem.F.args_tuple_add_2 _ _)
   (tuple_addW2 t b vs.toArray ws.toArray n n2 dd dd2 sl sl2 (by simpa using hv) (by simpa using hw) (by rw[List.size_toArray,List.size_toArray];exact hsz)) ⟨ho,ho2,?_⟩
  rw[e]
  exact h2 hw
def sIx (n d:Nat):Option Int→Nat
 | none=>d
 | some v=>if v < 0 then (v+(n:Int)).toNat else min v.toNat n
end
end HT
namespace L2
open PySem PySem.Spec PyProof.Rows
abbrev TO:=St→Hp→(Option Int→Hp→Prop)→Prop
theorem kz {ns:List Int}:∀ {us:List Value},Vals (ns.map V.int) us→IntsAre us ns:=by
 induction ns with
 | nil=>intro us r;rw[List.map_nil]at r;cases r;exact .nil
 | cons n ns ih =>
  intro us r
  rw[List.map_cons]at r
  cases r with
  | cons r1 r2 =>
   obtain⟨t,e⟩:=r1
   subst e
   exact .cons n t (ih r2)
section
variable {X:Cx}{e:Expr}{te:TE}{lo hi:Option Expr}{tl th:TO}{pos p2:Pos}
def SlR (X:Cx)(r:V→Option Int→Option Int→Hp→VK→Prop):Prop :=
 ∀ (pins:List (Addr×Obj)) (s:Shared) (σ:St) (H:Hp) (x:V) (v vl vu:Value) (lo hi:Option Int) (sl:Addr) (Q:VK),Inv X pins σ H s→RelV x v→s.heap.IsSliceOf sl vl vu .none→IsPart vl lo→IsPart vu hi→r x lo hi H Q →
  ∃ T id,typeLookup (.type T) "__getitem__"=pure (some (.builtin id))∧s.TypeIs v T∧wpAny (model X.prog X.w) X.A (getItem v (.ref sl)) (EP X pins σ Q) X.xe s
theorem SlR.or {r r':V→Option Int→Option Int→Hp→VK→Prop}(h:SlR X r)(h':SlR X r'):SlR X (fun x lo hi H Q=>r x lo hi H Q∨r' x lo hi H Q):=by
 intro pins s σ H x v vl vu lo hi sl Q I rx hs pl pu q
 rcases q with q | q
 ·exact h pins s σ H x v vl vu lo hi sl Q I rx hs pl pu q
 ·exact h' pins s σ H x v vl vu lo hi sl Q I rx hs pl pu q
def cutV (xs:List V)(lo hi:Option Int):List V:=(xs.drop (HT.sIx xs.length 0 lo)).take (HT.sIx xs.length xs.length hi - HT.sIx xs.length 0 lo)
theorem oE (xs:List V)(lo hi:Option Int):(cutV xs lo hi).length≤xs.length:=by
 unfold cutV
 rw[List.length_take,List.length_drop]
 omega
def rCatT (K:PySem.W.Frag):R2:=fun x y H Q=>∃ a b xs ys,x=.ref a∧y=.ref b∧SqT K H a xs∧SqT K H b ys∧xs≠[]∧xs.length+ys.length≤sizeLine ∧
 (ys=[]→Q (.ref a) H)∧(ys≠[]→∀ p,H p=none→Q (.ref p) (upd H p (.tup (xs++ys))))
theorem Vals.nil_iff {xs:List V}{us:List Value}(r:Vals xs us):us=[]↔xs=[]:=by
 cases r with
 | nil=>simp
 | cons _ _=>simp
theorem yo:OpR X (binaryOp .Add) (rCatT X.K):=by
 intro pins s σ H x y v u Q I rx ry h
 obtain⟨a,b,xs,ys,rfl,rfl,ha,hb,hx,hz,q1,q2⟩:=h
 cases rx
 cases ry
 obtain⟨its,r1,p1,_⟩:=I.tuple ha
 obtain⟨its2,r2,p2,_⟩:=I.tuple hb
 refine HT.yn p1 p2 (fun z=>hx (r1.nil_iff.mp z)) (fun z=>⟨.ref a,H,I,rfl,q1 (r2.nil_iff.mp z)⟩) (fun z=>?_) (by rw[← r1.length,← r2.length];exact hz)
 refine⟨.ref s.heap.objs.size,_,I.laid (t':=s.toks) (o:=.tup (xs++ys)) (fun b ob q=>Heap.get?_push_of_some _ q) (Nat.le_refl _) ?_,rfl,q2 (fun w=>z (r2.nil_iff.mpr w)) _ (I.hok.fresh (Nat.le_refl _))⟩
 exact⟨by rw[List.length_append];exact hz,_,r1.append r2,TupO.new _ _⟩
end
end L2
namespace L2
open PySem PySem.Spec PyProof.Rows
def ixN (n:Nat)(i:Int):Option Nat:=if 0≤i then (if i < n then some i.toNat else none) else if -(n:Int)≤i then some (i+n).toNat else none
def atI {α:Type}(xs:List α)(i:Int):Option α:=(ixN xs.length i).bind fun j=>xs[j]?
theorem yq {n:Nat}{i:Int}{j:Nat}(h:ixN n i=some j):seqIndex? i n=some j∧j < n∧-(n:Int)≤i∧i < n:=by
 unfold ixN at h
 by_cases h0:0≤i
 ·rw[if_pos h0]at h
  by_cases h1:i < n
  ·rw[if_pos h1]at h
   have e:i.toNat=j:=Option.some.inj h
   exact⟨by rw[seqIndex_of h0 h1,e],by omega,by omega,h1⟩
  ·grind
 ·rw[if_neg h0]at h
  by_cases h1 : -(n:Int)≤i
  ·rw[if_pos h1]at h
   have e:(i+n).toNat=j:=Option.some.inj h
   exact⟨by rw[seqIndex_neg (by omega) h1,e],by omega,h1,by omega⟩
  ·grind
theorem ny {α:Type}{xs:List α}{i:Int}{v:α}(h:atI xs i=some v):∃ j,seqIndex? i xs.length=some j∧xs[j]?=some v∧j < xs.length∧-(xs.length:Int)≤i∧i < xs.length:=by
 unfold atI at h
 cases e:ixN xs.length i with
 | none=>rw[e]at h;cases h
 | some j =>
  rw[e]at h
  obtain⟨h1,h2,h3,h4⟩:=yq e
  grind
theorem nA {α:Type}{xs:List α}{j:Nat}{v:α}(h:xs[j]?=some v):atI xs (j:Int)=some v:=by
 have hj:j < xs.length:=(List.getElem?_eq_some_iff.mp h).1
 have e:ixN xs.length (j:Int)=some j:=by
  unfold ixN
  rw[if_pos (by omega),if_pos (by omega)];simp
 unfold atI;rw[e];exact h
def PlainIx (b:Expr):Prop:=∀ o i,subscripted b false o i=operate [o,i] (getItem o i)
def IxR (X:Cx)(r:R2):Prop :=
 ∀ (value slice:Expr) (pins:List (Addr×Obj)) (s:Shared) (σ:St) (H:Hp) (x y:V) (v u:Value) (Q:VK),Inv X pins σ H s→RelV x v→RelV y u→r x y H Q →
  subscripted slice false v u=operate [v,u] (getItem v u)→wpAny (model X.prog X.w) X.A (subscriptTail value slice v u) (EP X pins σ Q) X.xe s
def MtR (X:Cx)(id:String)(r:V→List V→Hp→VK→Prop):Prop :=
 ∀ (pins:List (Addr×Obj)) (s:Shared) (σ:St) (H:Hp) (x:V) (xs:List V) (v:Value) (us:List Value) (Q:VK),Inv X pins σ H s→RelV x v→Vals xs us→r x xs H Q →
  wpAny (model X.prog X.w) X.A (call (.builtin id) (v::us)) (EP X pins σ Q) X.xe s
section
variable {X:Cx}{a b:Expr}{ta tb:TE}{pos:Pos}
theorem IxR.or {r r':R2}(h:IxR X r)(h':IxR X r'):IxR X (fun x y H Q=>r x y H Q∨r' x y H Q):=by
 intro value slice pins s σ H x y v u Q I rx ry q hs
 rcases q with q | q
 ·exact h value slice pins s σ H x y v u Q I rx ry q hs
 ·exact h' value slice pins s σ H x y v u Q I rx ry q hs
theorem MtR.or {id:String}{r r':V→List V→Hp→VK→Prop}(h:MtR X id r)(h':MtR X id r'):MtR X id (fun x xs H Q=>r x xs H Q∨r' x xs H Q):=by
 intro pins s σ H x xs v us Q I rx rs q
 rcases q with q | q
 ·exact h pins s σ H x xs v us Q I rx rs q
 ·exact h' pins s σ H x xs v us Q I rx rs q
theorem A8 {r:R2}(hr:IxR X r)(ha:PE X a ta)(hb:PE X b tb)(hs:PlainIx b):PE X (.Subscript a b pos) (tOp r ta tb):=by
 intro pins s σ H Q I h
 exact Subscript_ (binT ha hb I h fun v u s2 x y H2 I2 rx ry q=>hr a b pins s2 σ H2 x y v u Q I2 rx ry q (hs _ _))
def rIxL (K:PySem.W.Frag):R2:=fun x y H Q=>∃ p xs i v,x=.ref p∧y=.int i∧SqL K H p xs∧atI xs i=some v∧Q v H
def rIxT (K:PySem.W.Frag):R2:=fun x y H Q=>∃ p xs i v,x=.ref p∧y=.int i∧SqT K H p xs∧atI xs i=some v∧Q v H
def rIxS:R2:=fun x y H Q=>∃ z i c,x=.str z∧y=.int i∧z.length≤sizeLine∧atI z.cps.toList i=some c∧Q (.str ⟨#[c]⟩) H
theorem yr:IxR X (rIxL X.K):=by
 intro value slice pins s σ H x y v u Q I rx ry h hs
 obtain⟨p,xs,i,z,rfl,rfl,hq,he,q⟩:=h
 cases rx
 obtain⟨t,rfl⟩:=ry
 obtain⟨its,r,pl,hz⟩:=I.list hq
 obtain⟨j,h1,h2,h3,h4,h5⟩:=ny he
 obtain⟨w,ew,rw'⟩:=r.get h2
 have hl:=r.length
 have hn:=line63
 have fin:EP X pins σ Q w s:=⟨z,H,I,rw',q⟩
 by_cases h0:0≤i
 ·have hj:i.toNat=j:=by
   rw[seqIndex_of h0 h5]at h1
   exact Option.some.inj h1
  exact item_listR pl.isList h0 (by omega) (by rw[hj];simpa using ew) fin hs
 ·have hj:(i+(its.toArray.size:Int)).toNat=j:=by
   rw[seqIndex_neg (by omega) h4]at h1
   rw[List.size_toArray,← hl]
   exact Option.some.inj h1
  exact subscriptTail_builtinR (x:=w) pl.isList.typeIs slot_list_getitem.lookup
   (wpAny_getItem_list_neg (Q:=fun r s'=>r=w∧EP X pins σ Q r s') pl.isList (by omega) (by rw[List.size_toArray]<;>omega) (by omega) (by rw[hj];simpa using ew) ⟨rfl,fin⟩) hs
theorem Aj:IxR X (rIxT X.K):=by
 intro value slice pins s σ H x y v u Q I rx ry h hs
 obtain⟨p,xs,i,z,rfl,rfl,hq,he,q⟩:=h
 cases rx
 obtain⟨t,rfl⟩:=ry
 obtain⟨its,r,pl,hz⟩:=I.tuple hq
 obtain⟨j,h1,h2,h3,h4,h5⟩:=ny he
 obtain⟨w,ew,rw'⟩:=r.get h2
 have hl:=r.length
 have hn:=line63
 have fin:EP X pins σ Q w s:=⟨z,H,I,rw',q⟩
 exact subscriptTail_builtinR (x:=w) pl.typeIs slot_tuple_getitem.lookup
  (getItem_tuple (j:=j) (Q:=fun r s'=>r=w∧EP X pins σ Q r s') pl (by omega) (by omega) (by rw[List.size_toArray,← hl];exact h1) (by simpa using ew) ⟨rfl,fin⟩) hs
theorem Ak:IxR X rIxS:=by
 intro value slice pins s σ H x y v u Q I rx ry h hs
 obtain⟨z,i,c,rfl,rfl,hz,he,q⟩:=h
 obtain⟨t,rfl⟩:=rx
 obtain⟨t',rfl⟩:=ry
 obtain⟨j,h1,h2,h3,h4,h5⟩:=ny he
 have hl:z.cps.toList.length=z.length:=by simp[Str.length]
 rw[hl]at h1 h4 h5
 have hn:=line63
 exact tail_any (typeIs_str s z t) slot_str_getitem.lookup (getItem_str (c:=c) (by
  have e1:decide (i < -(2^63:Int))=false:=decide_eq_false (by omega)
  have e2:decide (i≥2^63)=false:=decide_eq_false (by omega)
  rw[e1,e2,Bool.or_false]) (by rw[h1];simpa using h2) ⟨.str ⟨#[c]⟩,H,I.tok _,⟨_,rfl⟩,q⟩) hs
def rIx (K:PySem.W.Frag):R2:=fun x y H Q=>rIxL K x y H Q∨rIxT K x y H Q∨rIxS x y H Q
theorem Al:IxR X (rIx X.K):=yr.or (Aj.or Ak)
theorem nB (lo hi:Option Int)(n:Nat):(sliceBounds lo hi none n).1=((HT.sIx n 0 lo:Nat):Int)∧(sliceBounds lo hi none n).2.1=((HT.sIx n n hi:Nat):Int)∧(sliceBounds lo hi none n).2.2=1:=by
 refine⟨?_,?_,rfl⟩
 ·cases lo with
  | none=>simp[sliceBounds,HT.sIx]
  | some i =>
   simp only[sliceBounds,HT.sIx,Option.getD_none,show (1:Int) > 0 by decide,if_true]
   by_cases h:i < 0
   ·simp only[h,if_true]<;>omega
   ·simp only[h,if_false]<;>omega
 ·cases hi with
  | none=>simp[sliceBounds,HT.sIx]
  | some i =>
   simp only[sliceBounds,HT.sIx,Option.getD_none,show (1:Int) > 0 by decide,if_true]
   by_cases h:i < 0
   ·simp only[h,if_true]<;>omega
   ·simp only[h,if_false]<;>omega
theorem l4 (its:List Value)(lo hi:Option Int):slicePick its.toArray lo hi none=((its.drop (HT.sIx its.length 0 lo)).take (HT.sIx its.length its.length hi - HT.sIx its.length 0 lo)).toArray:=by
 obtain⟨h1,h2,h3⟩:=nB lo hi its.toArray.size
 unfold slicePick
 rw[h1,h2,h3]
 simp only[sliceRange_one,pick_run,List.size_toArray]<;>rfl
def rSlL (K:PySem.W.Frag):V→Option Int→Option Int→Hp→VK→Prop:=fun x lo hi H Q=>∃ a xs,x=.ref a∧SqL K H a xs∧∀ p,H p=none→Q (.ref p) (upd H p (.lst (cutV xs lo hi)))
theorem BI:SlR X (rSlL X.K):=by
 intro pins s σ H x v vl vu lo hi sl Q I rx hs pl pu h
 obtain⟨a,xs,rfl,hx,q⟩:=h
 cases rx
 obtain⟨its,r,ht,hz⟩:=I.list hx
 have hlen:=r.length
 refine⟨"list",_,slot_list_getitem.lookup,ht.isList.typeIs,?_⟩
 refine wpAny_getItem_list_slice ht.isList hs pl pu .none (by simp) ?_ (by rw[List.size_toArray]<;>omega)
 rw[l4,← hlen]
 refine⟨.ref s.heap.objs.size,_,I.laid (fun b ob q=>Heap.get?_push_of_some _ q) (Nat.le_refl _) ?_,rfl,q _ (I.hok.fresh (Nat.le_refl _))⟩
 exact⟨Nat.le_trans (oE xs lo hi) hz,_,0,(r.drop (HT.sIx xs.length 0 lo)).take (HT.sIx xs.length xs.length hi - HT.sIx xs.length 0 lo),Heap.get?_push_size _ rfl⟩
def flatV:V→Bool
 | .non=>true
 | .bl _=>true
 | .int _=>true
 | .str _=>true
 | _=>false
def eqV:V→V→Bool
 | .non,.non=>true
 | .bl a,.bl b=>a==b
 | .bl a,.int b=>(if a then 1 else 0)==b
 | .int a,.bl b=>a==(if b then 1 else 0)
 | .int a,.int b=>a==b
 | .str a,.str b=>a==b
 | _,_=>false
theorem Am {A:Around}{s:Shared}{y x:V}{u v:Value}(ry:RelV y u)(rx:RelV x v)(fy:flatV y=true)(fx:flatV x=true):SeqAt.EqAt A s u v (eqV y x):=by
 cases y with
 | non =>
  cases ry
  cases x with
  | non=>cases rx;exact SeqAt.EqAt.same _
  | bl b=>cases rx;exact SeqAt.EqAt.none_bool b
  | int b=>obtain⟨t,rfl⟩:=rx;exact SeqAt.EqAt.none_int b t
  | str b=>obtain⟨t,rfl⟩:=rx;exact SeqAt.EqAt.none_str b t
  | _=>exact absurd (show false=true from fx) Bool.false_ne_true
 | bl a =>
  cases ry
  cases x with
  | non=>cases rx;exact SeqAt.EqAt.bool_none a
  | bl b=>cases rx;exact SeqAt.EqAt.bool_bool a b
  | int b=>obtain⟨t,rfl⟩:=rx;exact SeqAt.EqAt.bool_int a b t
  | str b=>obtain⟨t,rfl⟩:=rx;exact SeqAt.EqAt.bool_str a b t
  | _=>exact absurd (show false=true from fx) Bool.false_ne_true
 | int a =>
  obtain⟨t',rfl⟩:=ry
  cases x with
  | non=>cases rx;exact SeqAt.EqAt.int_none a t'
  | bl b=>cases rx;exact SeqAt.EqAt.int_bool a t' b
  | int b=>obtain⟨t,rfl⟩:=rx;exact SeqAt.EqAt.int_int a t' b t
  | str b=>obtain⟨t,rfl⟩:=rx;exact SeqAt.EqAt.int_str a t' b t
  | _=>exact absurd (show false=true from fx) Bool.false_ne_true
 | str a =>
  obtain⟨t',rfl⟩:=ry
  cases x with
  | non=>cases rx;exact SeqAt.EqAt.str_none a t'
  | bl b=>cases rx;exact SeqAt.EqAt.str_bool a t' b
  | int b=>obtain⟨t,rfl⟩:=rx;exact SeqAt.EqAt.str_int a t' b t
  | str b=>obtain⟨t,rfl⟩:=rx;exact SeqAt.EqAt.str_str a t' b t
  | _=>exact absurd (show false=true from fx) Bool.false_ne_true
 | _=>exact absurd (show false=true from fy) Bool.false_ne_true
theorem nC:CallR X (.builtin "len") (fun xs H Q=>∃ p ys,xs=[.ref p]∧(SqL X.K H p ys∨SqT X.K H p ys)∧Q (.int ys.length) H):=by
 intro pins s σ H xs us Q I r h
 obtain⟨p,ys,rfl,hq,q⟩:=h
 obtain⟨u,rfl,rx⟩:=vals1 r
 cases rx
 have hn:=line63
 rcases hq with hq | hq
 ·obtain⟨its,r',pl,hz⟩:=I.list hq
  have hlen:=r'.length
  exact Calls.call_len_list pl.isList (by simp only[List.size_toArray]<;>omega) ⟨.int ys.length,H,I.tok _,⟨s.toks+1,by rw[List.size_toArray,hlen]⟩,q⟩
 ·obtain⟨its,r',pl,hz⟩:=I.tuple hq
  have hlen:=r'.length
  exact len_tuple pl (by simp only[List.size_toArray]<;>omega) ⟨.int ys.length,H,I.tok _,⟨s.toks+1,by rw[List.size_toArray,hlen]⟩,q⟩
theorem CallR.or {f:Value}{r r':List V→Hp→VK→Prop}(h:CallR X f r)(h':CallR X f r'):CallR X f (fun xs H Q=>r xs H Q∨r' xs H Q):=by
 intro pins s σ H xs us Q I rs q
 rcases q with q | q
 ·exact h pins s σ H xs us Q I rs q
 ·exact h' pins s σ H xs us Q I rs q
theorem l5:CallR X (.type "tuple") (fun xs H Q=>∃ p ys,xs=[.ref p]∧((SqL X.K H p ys∧∀ l,H l=none→Q (.ref l) (upd H l (.tup ys)))∨(SqT X.K H p ys∧Q (.ref p) H))):=by
 intro pins s σ H xs us Q I r h
 obtain⟨p,ys,rfl,h⟩:=h
 obtain⟨u,rfl,rx⟩:=vals1 r
 cases rx
 rcases h with ⟨hq,q⟩ | ⟨hq,q⟩
 ·obtain⟨its,r',pl,hz⟩:=I.list hq
  have hlen:=r'.length
  refine call_tuple_list pl.isList (fun h' kp=>?_) (by simp only[List.size_toArray]<;>omega)
  have I1:=I.kept (t':=s.toks) kp
  have I2:Inv X pins σ (upd H h'.objs.size (.tup ys)) { s with heap:=h'.push { cls:=.type "tuple",data:=.seq its.toArray } } :=
   I1.laid (t':=s.toks) (fun b o e=>Heap.get?_push_of_some _ e) (Nat.le_refl _) (show ObjOk X.prog X.w _ _ _ (.tup ys) from ⟨hz,its,r',TupO.new _ _⟩)
  exact⟨.ref h'.objs.size,_,I2,rfl,q _ (I1.hok.fresh (Nat.le_refl _))⟩
 ·obtain⟨its,r',pl,hz⟩:=I.tuple hq
  exact call_tuple_same pl ⟨.ref p,H,I,rfl,q⟩
def tyV (K:PySem.W.Frag)(T:String)(x:V)(H:Hp):Prop:=match x with
 | .str _=>T="str"
 | .int _=>T="int"
 | .ref p=>(T="list" ∧ ∃ xs,SqL K H p xs)∨(T="tuple" ∧ ∃ o,K.lookup p=some o∧o.cls=.type "tuple" ∧ o.dict=none) ∨
   (T="dict" ∧ ((∃ kvs,H p=some (.dK kvs))∨∃ kvs,H p=some (.dT kvs)))∨(T="set" ∧ ∃ S n,H p=some (.set S n))
 | _=>False
theorem An {pins:List (Addr×Obj)}{σ:St}{H:Hp}{s:Shared}{T:String}{x:V}{v:Value}(I:Inv X pins σ H s)(r:RelV x v)(ty:tyV X.K T x H) :
  s.TypeIs v T∧∀ a,v=.ref a→∃ ob,s.heap.get? a=some ob∧ob.dict=none:=by
 cases x with
 | str z =>
  obtain⟨t,rfl⟩:=r
  cases (show T="str" from ty)
  exact⟨typeIs_str s z t,fun _ e=>nomatch e⟩
 | int i =>
  obtain⟨t,rfl⟩:=r
  cases (show T="int" from ty)
  exact⟨typeIs_int s i t,fun _ e=>nomatch e⟩
 | ref p =>
  cases r
  rcases ty with ⟨rfl,xs,hq⟩ | ⟨rfl,o,hk,hc,hd⟩ | ⟨rfl,hk⟩ | ⟨rfl,S,n,hk⟩
  ·obtain⟨its,_,pl,_⟩:=I.list hq
   refine⟨pl.isList.typeIs,fun a e=>?_⟩
   cases e
   obtain⟨o,n,e,c,hd,_⟩:=pl
   exact⟨o,e,hd⟩
  ·refine⟨⟨o,I.kIn p o hk,hc⟩,fun a e=>?_⟩
   cases e
   exact⟨o,I.kIn _ o hk,hd⟩
  ·have z:∃ o,s.heap.get? p=some o∧o.ExactDict:=by
    rcases hk with ⟨kvs,hk⟩ | ⟨kvs,hk⟩
    ·obtain⟨_,_,_,_,o,_,_,e,ex,_⟩:=I.hok p _ hk
     exact⟨o,e,ex⟩
    ·obtain⟨_,_,_,_,o,_,_,e,ex,_⟩:=I.hok p _ hk
     exact⟨o,e,ex⟩
   obtain⟨o,e,ex⟩:=z
   refine⟨⟨o,e,ex.1⟩,fun a e2=>?_⟩
   cases e2
   exact⟨o,e,ex.2.1⟩
  ·obtain⟨o,_,_,_,e,ex,_⟩:=I.hok p _ hk
   refine⟨⟨o,e,ex.1⟩,fun a e2=>?_⟩
   cases e2
   exact⟨o,e,ex.2.1⟩
 | _=>exact False.elim ty
def tBM (K:PySem.W.Frag)(T:String)(r:V→List V→Hp→VK→Prop)(to:TE)(t:TA):TE:=fun σ H Q=>to σ H fun x H1=>tyV K T x H1∧t σ H1 fun xs H2=>r x xs H2 Q
variable {o e:Expr}{es:List Expr}{to:TE}{t:TA}{name:Str}{apos cpos:Pos}{T id:String}{r:V→List V→Hp→VK→Prop}
theorem vW (pa:PlainAttrs T)(slot:Slot T name id)(hty:typeOf (.builtin id)=pure (.type "method_descriptor"))(hm:MtR X id r)(ho:PE X o to)(ha:PA X (e::es) t)
  (hbase:attributeBase o name X.env (eval o X.env)=eval o X.env:=by rfl)
  (hfew:((backTo cpos (starEach (e::es) X.env)).all (fun x=>!x.1)&&(backToKw cpos (keywordEach [] X.env)).all (fun x=>x.1.isSome)
   && decide ((e::es).length+([]:List Keyword).length+(if ([]:List Keyword).isEmpty then 0 else 1) < 30))=true:=by rfl)
  (hline:(apos.endLine==cpos.line)=true:=by rfl) (hs:starEach (e::es) X.env=(false,eval e X.env)::starEach es X.env:=by rfl) (hplain:(backTo cpos (starEach es X.env)).any (·.1)=false:=by rfl) :
  PE X (.Call (.Attribute o name apos) (e::es) [] cpos) (tBM X.K T r to t):=by
 intro pins s σ H Q I h
 refine wpAny_Call_method_late hbase hfew hline rfl (thn (ho pins s σ H _ I h) fun v s1 ⟨x,H1,I1,r1,ty,q1⟩=>?_)
 obtain⟨h1,h2⟩:=An I1 r1 ty
 refine⟨T,id,pa,slot,hty,h1,h2,?_⟩
 have hA:=ha cpos pins s1 σ H1 _ I1 q1
 rw[hs]at hA ⊢
 refine Calls.callWith_builtin (by show (false||(backTo cpos (starEach es X.env)).any (·.1))=false;rw[hplain]<;>rfl) (Calls.evalArgs_plain ?_)
 exact thn hA fun us s2 ⟨vs,H2,I2,r2,q2⟩=>hm pins s2 σ H2 x vs v us Q I2 r1 r2 q2
end
end L2
namespace L2
open PySem PySem.Spec PyProof.Rows
def MtM (X:Cx)(id:String)(r:V→List V→Hp→VK→Prop):Prop :=
 ∀ (pins:List (Addr×Obj)) (s:Shared) (σ:St) (H:Hp) (x:V) (xs:List V) (v:Value) (us:List Value) (Q:VK),Inv X pins σ H s→RelV x v→Vals xs us→r x xs H Q →
  wpAny (model X.prog X.w) X.A (call (.builtin id) (v::us)) (EP X pins σ Q) X.xe s
theorem Vals.one:∀ {x:V} {us:List Value},Vals [x] us→∃ u,us=[u]∧RelV x u
 | _,_,.cons r .nil=>⟨_,rfl,r⟩
theorem Vals.rep {xs:List V}{us:List Value}(h:Vals xs us):∀ k:Nat,Vals (List.replicate k xs).flatten (List.replicate k us).flatten
 | 0=>.nil
 | k+1=>by
  rw[List.replicate_succ,List.replicate_succ,List.flatten_cons,List.flatten_cons]
  exact Vals.append h (Vals.rep h k)
theorem iZ (its:List Value):∀ (k:Nat) (acc:List Value),
  List.foldl (fun x1 x2=>x1++x2) acc.toArray (List.replicate k its.toArray)=(acc++(List.replicate k its).flatten).toArray
 | 0,acc=>by simp
 | k+1,acc=>by
  have e:acc.toArray++its.toArray=(acc++its).toArray:=by simp
  have e2:(acc++its)++(List.replicate k its).flatten=acc++(List.replicate (k+1) its).flatten:=by
   rw[List.replicate_succ,List.flatten_cons,List.append_assoc]
  rw[← e2,← iZ its k (acc++its),← e,List.replicate_succ,List.foldl_cons]
section
variable {X:Cx}{pins:List (Addr×Obj)}{σ:St}{H:Hp}{s:Shared}{l b:Addr}{xs ys zs:List V}
theorem Inv.lset {its its':List Value}{n:Nat}{f:Array Value→Array Value}{t':Nat}(I:Inv X pins σ H s)(hH:H l=some (.lst xs))
  (e:s.heap.get? l=some { cls:=.type "list",data:=.seq its.toArray n }) (hf:f its.toArray=its'.toArray) (hv:Vals ys its') (hz:ys.length≤sizeLine) :
  Inv X pins σ (upd H l (.lst ys)) { s with heap:=s.heap.update l (Obj.mapSeq f),toks:=t' }:=by
 have q:=PySem.IsL.update e f
 rw[hf]at q
 refine I.write (by rw[hH];exact trivial) (.inl rfl) (fun b' u hb hu=>(Heap.get?_update_other s.heap (Obj.mapSeq f) (Ne.symm hb)).trans hu) ⟨_,q⟩ ?_
 exact⟨hz,its',_,hv,q⟩
theorem Inv.lnew {its:List Value}{t':Nat}(I:Inv X pins σ H s)(hv:Vals ys its)(hz:ys.length≤sizeLine) :
  Inv X pins σ (upd H s.heap.objs.size (.lst ys)) { s with heap:=s.heap.push { cls:=.type "list",data:=.seq its.toArray },toks:=t' } :=
 I.laid (fun _ _ q=>Heap.get?_push_of_some _ q) (Nat.le_refl _) ⟨hz,its,0,hv,Heap.get?_push_size _ rfl⟩
theorem Inv.fresh (I:Inv X pins σ H s):H s.heap.objs.size=none:=I.hok.fresh (Nat.le_refl _)
theorem Inv.lstM (I:Inv X pins σ H s)(hH:H l=some (.lst xs)):xs.length≤sizeLine∧∃ (its:List Value) (n:Nat),Vals xs its∧xs.length=its.length∧s.heap.get? l=some { cls:=.type "list",data:=.seq its.toArray n }:=by
 obtain⟨z,its,n,r,e⟩:=I.hok l _ hH
 exact⟨z,its,n,r,r.length,e⟩
theorem notLongL {n:Nat}(h:n≤sizeLine):Builtin.List.listTooLong n=false:=by
 unfold Builtin.List.listTooLong
 grind
end
section
variable {X:Cx}
def rAppend:V→List V→Hp→VK→Prop:=fun x vs H Q=>∃ l xs y,x=.ref l∧vs=[y]∧H l=some (.lst xs)∧xs.length < sizeLine∧Q .non (upd H l (.lst (xs++[y])))
theorem mV:MtM X "list.append" rAppend:=by
 intro pins s σ H x vs v us Q I rx rv h
 obtain⟨l,xs,y,rfl,rfl,hH,hz,q⟩:=h
 cases rx
 obtain⟨u,rfl,ru⟩:=rv.one
 obtain⟨z,its,n,r,hl,e⟩:=I.lstM hH
 refine call_meets F.slot_list_append ⟨_,e,rfl⟩ F.entry_list_append (F.args_list_append_2 _ _) (PySem.list_append l its.toArray n u (by grind)) ⟨e,?_⟩
 refine⟨.non,_,I.lset hH e (by simp) (r.append (.cons ru .nil)) ?_,rfl,q⟩
 grind
theorem sB {α:Type}(xs:List α)(k:Nat):(List.replicate k xs).flatten.length=k*xs.length:=by simp_all
end
section
variable {prog:Program}{w:World}{A:Around}{E:Value→Shared→Prop}{s:Shared}
set_option maxRecDepth 100000 in
end
section
variable {X:Cx}
end
end L2
namespace Att
open PySem PySem.W PySem.Calls PyProof.Rows
theorem j3 {P:Params}{h:Heap}:∀ (ns:List Int) (vs:List Value),WellAll P h vs (ns.map WData.int)→IntsAre vs ns:=by
 intro ns
 induction ns with
 | nil =>
  intro vs w
  rw[List.map_nil]at w
  cases w
  exact .nil
 | cons n ns ih =>
  intro vs w
  rw[List.map_cons]at w
  cases w with
  | cons a b =>
   cases a
   exact .cons _ _ (ih _ b)
theorem ue {l:OpenLaw}{n:Nat}(hn:l.most=some n){P:Params}{h:Heap}{args:List WData}{vals:List Value}
  (hpre:l.row.toRowW.claim.pre args=true) (hwl:WellAll P h vals args) :
  ∃ a vs ns,vals=[Value.ref a]∧args=[WData.list (ns.map WData.int)]∧h.get? a=some { cls:=.type "list",data:=.seq vs.toArray }∧IntsAre vs ns∧ns.length≤n:=by
 have hsh:=(pre_splitW hpre).1
 have hc:l.pre.holds [] { args:=args }=true:=(pre_splitW hpre).2
 obtain⟨d,r,rfl,h1,h2⟩:=hasAllW_cons hsh
 obtain rfl:=hasAllW_nil h2
 obtain⟨xs,rfl,h3⟩:=hasW_list h1
 obtain⟨ns,rfl⟩:=items_int h3
 have hlen:ns.length≤n:=by
  unfold OpenLaw.pre at hc
  have h4:(WTm.not (.lt (.lit (.int (n:Int))) (.len (.arg 0)))).holds [] { args:=[.list (ns.map .int)] }=true:=by
   have h4:=(holds_andW hc).1
   rw[hn]at h4
   exact h4
  have h5:=condW_of h4 (w_not (w_lt w_lit (w_len_list (w_arg rfl))))
  rw[List.length_map]at h5
  refine Nat.le_of_not_lt fun q=>?_
  have q':(n:Int) < ((ns.length:Nat):Int):=by omega
  first
   | (rw[decide_eq_true q']at h5;exact absurd h5 (by decide))
   | (simp at h5;omega)
 cases hwl with
 | cons w1 w2 =>
  cases w2
  cases w1 with
  | list ho hall=>exact⟨_,_,ns,rfl,rfl,ho,j3 ns _ hall,hlen⟩
theorem uf (l:OpenLaw)(args:List WData):l.row.toRowW.claim.post args (.bool true) args=true :=
 postW_of
  (show WShape.has [] (.bool true) .bool=true by first | rfl | decide | simp[WShape.has,WShape.arms,WShape.armsAll])
  (show (WTm.eq .res (.lit (.bool true))).value [] { args:=args,res:=some (.bool true),after:=args }=some (.bool (true==true)) from w_eq_bool (w_res rfl) w_lit) rfl
theorem attach_call {l:OpenLaw}{n:Nat}{q:Program}{loose:List Str}{XP:(Str→Option Value)→Heap→Prop}{YP:World→Heap→Prop}{d:DefRec}
  (hn:l.most=some n) (hdf:d.params.defaults=[])
  (call:∀ (w:World) (s₀ s₁:Shared) (mg mb:Str→Option Value) (fa:Addr) (o:Obj) (pm cd doc:Value) (a:Addr) (vs:List Value) (ns:List Int),
   Ground q loose [] XP w s₀ mg mb s₁.heap→YP w s₁.heap →
   s₁.heap.get? fa=some o→o.data=.func (docDef d.name d.params d.body d.scope pm cd doc)→s₁.heap.CodeRec cd d.name→mg d.name=some (.ref fa) →
   s₁.heap.get? a=some { cls:=.type "list",data:=.seq vs.toArray }→IntsAre vs ns→ns.length≤n→s₁.gens = #[] →
   codeAny (model l.prog w) callerA (.call (.ref fa) ⟨[.ref a],[]⟩) (fun r s'=>r=.ok (.ret (.bool true))∧OldK s₁.heap s'.heap∧s'.os=s₁.os∧AllBare s'.gens) s₁) :
  WalkO q loose XP YP l.row.toRowW d [] (fun f vs=>PySem.call f vs):=by
 intro w s₀ s₁ mg mb G Y fa o pm cd doc dV kV ho hd hcd hD hmg hg args vals as hpre hlay hrd hwl hlo
 obtain rfl:dV=.none:=Dflts.none hD hdf
 obtain rfl:kV=.none:=Dflts.noKw hD
 obtain⟨a,vs,ns,rfl,rfl,hobj,hints,hlen⟩:=ue hn hpre hwl
 refine enter_call (codeAny_mono (call w s₀ s₁ mg mb fa o pm cd doc a vs ns G Y ho (fd_plain hd) hcd hmg hobj hints hlen hg) fun r s' hq=>?_)
 obtain⟨rfl,h2,h3,h4⟩:=hq
 exact⟨.inl ⟨.bool true,.bool true,[],rfl,fun _=>rfl,.bool true,uf l _,fun _=>⟨List.Pairwise.nil,fun _ hm=>(nomatch hm)⟩⟩,h2,h3,h4⟩
section
variable {prog:Program}{w:World}{A:Around}{E:Value→Shared→Prop}{s:Shared}{K:Frag}
theorem A0 {x C:Addr}{ox:Obj}{es:List DictEntry}{n:Nat}{name:Str}{expr:Bool}{v:Value}{Q:Value→Shared→Prop}
  (X:K.In s.heap) (I:PySem.W.InstAt s.heap x ox C (some (dictOf es n))) (hg:plainGet K C name=true) (hh:hasDictIn K C=true) (ha:findIn K (.ref C) name=some none)
  (hl:getL name es=some (some v)) (hv:handedIn v=true) (h:Q v { s with toks:=s.toks+1 }):wpAny (model prog w) A (getAttr (.ref x) name expr) Q E s :=
 get_value X I (plainGet_of hg).1 (findObj_own hh ha rfl hl) hv h
end
end Att
namespace L2
open PySem PySem.Spec PyProof.Rows
theorem bO:∀ {vs:List Value} {ns:List Int},IntsAre vs ns→Vals (ns.map V.int) vs
 | _,_,.nil=>.nil
 | _,_,.cons n t h=>.cons ⟨t,rfl⟩ (bO h)
def Only (H:Hp):Prop:=∀ b,H b=none∨∃ o xs,H b=some (.frz o (.lst xs))
theorem vX {P:Program}{w:World}{K:PySem.W.Frag}{mg mb:Str→Option Value}{CX:CXT}{k:Nat}{fa a:Addr}{fd:FuncData}{x:Str}{sp:Sp}{s₁:Shared}{vs:List Value}{ns:List Int}
  (KX:K.In s₁.heap) (hns:s₁.heap.Ns mainGlobals mg) (hb:s₁.heap.Ns builtinsNs mb) (hbb:∀ x:Str,x ≠ "__name__" → mb x=bootBuiltins x) (hlim:s₁.heap.NoLimit) (hg:s₁.gens = #[])
  (ha:s₁.heap.get? a=some { cls:=.type "list",data:=.seq vs.toArray }) (hi:IntsAre vs ns) (hl:ns.length≤sizeLine) (hr:Room k callerA)
  (F:∀ base:Heap,K.In base→base.Ns mainGlobals mg→FnOk P w K mg base CX k fa fd [x] sp) (hbind:∀ (s:Shared) (u:Value),BindsTo s fd ⟨[u],[]⟩ [(x,u)])
  (hsp:∀ H:Hp,Only H→SqL K H a (ns.map V.int)→sp [.ref a] H (fun v _=>v=.bl true) fun _ _ _=>False)
  (hCX:∀ H e s',CX [] H s₁ (fun _ _ _=>False) e s'→False) :
  codeAny (model P w) callerA (.call (.ref fa) ⟨[.ref a],[]⟩) (fun r s'=>r=.ok (.ret (.bool true))∧OldK s₁.heap s'.heap∧s'.os=s₁.os∧AllBare s'.gens) s₁:=by
 have rv:=bO hi
 have lenV:=hi.length
 have core:∀ H:Hp,Only H→SqL K H a (ns.map V.int)→HOk P w H s₁.heap→(∀ b,H b≠none→b=a)→(H a≠none→K.lookup a=none) →
   codeAny (model P w) callerA (.call (.ref fa) ⟨[.ref a],[]⟩) (fun r s'=>r=.ok (.ret (.bool true))∧OldK s₁.heap s'.heap∧s'.os=s₁.os∧AllBare s'.gens) s₁:=by
  intro H hO hS hok hA hK
  have base_of:∀ {b:Addr} {o:Obj},s₁.heap.get? b=some o→H b=none→(hidT s₁.heap H).get? b=some o:=fun e n=>vM e n
  have noA:∀ {b:Addr} {o:Obj} {es:Array DictEntry} {ep:Nat},s₁.heap.get? b=some o→o.data=.dict es ep→H b=none:=fun {b o es ep} e d=>by
   cases q:H b with
   | none=>rfl
   | some u =>
    have e':b=a:=hA b (by rw[q];simp)
    subst e'
    rw[ha]at e;cases e
    have d':Data.seq vs.toArray _=Data.dict es ep:=d
    cases d'
  have nsK:∀ {b:Addr} {m:Str→Option Value},s₁.heap.Ns b m→(hidT s₁.heap H).Ns b m:=fun {b m} ⟨o,es,ep,e,d,r⟩=>⟨o,es,ep,base_of e (noA e d),d,r⟩
  have hKb:K.In (hidT s₁.heap H):=fun b o e=>base_of (KX b o e) (by
   cases q:H b with
   | none=>rfl
   | some u =>
    have e':b=a:=hA b (by rw[q];simp)
    subst e'
    rw[hK (by rw[q];simp)]at e;cases e)
  have hM:Mod K mg (hidT s₁.heap H):=⟨hKb,nsK hns,⟨mb,nsK hb,hbb⟩,let ⟨mc,h1,h2⟩:=hlim;⟨mc,nsK h1,h2⟩⟩
  have e0:Env0 P w K mg (hidT s₁.heap H) callerA [] s₁ H:=⟨rfl,hM,fun b o e=>yf e,Nat.le_of_eq (t5 _ _),trivial,fun b hb=>absurd (show b∈([]:List Addr) from hb) (by simp),hok,.of_eq hg⟩
  refine codeAny_mono ((F _ hKb (nsK hns)).run callerA [] s₁ H ⟨[.ref a],[]⟩ [.ref a] [.ref a] _ _ hr.w e0 (hbind s₁ (.ref a)) (.cons rfl .nil) (hsp H hO hS)) fun r s' h=>?_
  cases r with
  | error e=>exact(hCX H e s' h).elim
  | ok fl =>
   cases fl with
   | next=>exact False.elim h
   | brk=>exact False.elim h
   | cont=>exact False.elim h
   | ret u =>
    obtain⟨v,H',os,bare,un,hok',r',q⟩:=h
    have q':v=.bl true:=q
    subst q'
    obtain rfl:u=Value.bool true:=r'
    refine⟨rfl,OldK.of_keep fun b o e=>?_,os,bare⟩
    cases q:H b with
    | none=>exact un.keep b o e q (by intro z;exact absurd (show b∈([]:List Addr) from z) (by simp)) (by simp)
    | some u =>
     rcases hO b with z | ⟨ob,xs,z⟩
     ·rw[q]at z;cases z
     ·have z2:=un.frzs b ob _ z
      obtain⟨e1,_⟩:=hok b _ z
      obtain⟨e2,_⟩:=hok' b _ z2
      rw[e]at e1;cases e1
      exact e2
 cases hk:K.lookup a with
 | some o =>
  have e:=KX a o hk
  rw[ha]at e
  cases e
  refine core (fun _=>none) (fun _=>.inl rfl) (.inr ⟨_,vs.toArray,_,hk,rfl,rfl,rfl,by rw[List.size_toArray,lenV];exact hl,by simpa using rv⟩) (fun b u z=>by have z':(none:Option HO)=some u:=z;cases z') (fun b z=>absurd rfl z) fun z=>absurd rfl z
 | none =>
  refine core (fun b=>if b=a then some (.frz { cls:=.type "list",data:=.seq vs.toArray } (.lst (ns.map V.int))) else none) (fun b=>?_) (.inl (.inr ⟨{ cls:=.type "list",data:=.seq vs.toArray },if_pos rfl⟩)) (fun b u z=>?_) (fun b z=>?_) fun _=>hk
  ·by_cases hb:b=a
   ·exact .inr ⟨_,_,if_pos hb⟩
   ·exact .inl (if_neg hb)
  ·by_cases hb:b=a
   ·have z':=(if_pos hb).symm.trans z
    cases z'
    subst hb
    exact⟨ha,by rw[List.length_map];exact hl,vs,_,rv,ha⟩
   ·have z':=(if_neg hb).symm.trans z
    cases z'
  ·by_cases hb:b=a
   ·exact hb
   ·exact absurd (if_neg hb) z
end L2
namespace L2
open PySem PySem.Spec PyProof.Rows
theorem yt {l:PySem.W.OpenLaw}{n k:Nat}{q:Program}{loose:List Str}{XP:(Str→Option Value)→Heap→Prop}{YP:World→Heap→Prop}{d:DefRec}{K:Params→PySem.W.Frag}{CX:World→CXT}{sp:World→Sp}{x:Str}
  (hn:l.most=some n) (hn2:n≤sizeLine) (hdf:d.params.defaults=[]) (hr:Room k callerA)
  (hY:∀ (w:World) (h:Heap),YP w h→(K w.params).In h)
  (F:∀ (w:World) (mg:Str→Option Value) (fa:Addr) (h:Heap),(K w.params).In h→h.Ns mainGlobals mg→mg d.name=some (.ref fa) →
   ∃ fd:FuncData,(∀ (s:Shared) (u:Value),BindsTo s fd ⟨[u],[]⟩ [(x,u)]) ∧
    ∀ base:Heap,(K w.params).In base→base.Ns mainGlobals mg→FnOk l.prog w (K w.params) mg base (CX w) k fa fd [x] (sp w))
  (hsp:∀ (w:World) (H:Hp) (a:Addr) (ns:List Int),ns.length≤n→Only H→SqL (K w.params) H a (ns.map V.int)→sp w [.ref a] H (fun v _=>v=.bl true) fun _ _ _=>False)
  (hCX:∀ (w:World) (H:Hp) (s:Shared) (e:Value) (s':Shared),CX w [] H s (fun _ _ _=>False) e s'→False) :
  PySem.W.WalkO q loose XP YP l.row.toRowW d [] (fun f vs=>PySem.call f vs):=by
 refine Att.attach_call hn hdf fun w s₀ s₁ mg mb fa o pm cd doc a vs ns G Y ho hd hcd hmg hobj hints hlen hg=>?_
 have KX:=hY w _ Y
 obtain⟨fd,hb,hF⟩:=F w mg fa _ KX G.T.g hmg
 exact vX KX G.T.g G.T.b G.T.builtins G.T.nolimit hg hobj hints (Nat.le_trans hlen hn2) hr hF hb (fun H hO hS=>hsp w H a ns hlen hO hS) fun H e s'=>hCX w H s₁ e s'
end L2
namespace L2
open PySem PySem.Spec PyProof.Rows
def defArgs (s:Stmt):Arguments:=match s with
 | .FunctionDef _ a _ _ _ _ _ _ _ _=>a
 | _=>{ posonlyargs:=[],args:=[],vararg:=none,kwonlyargs:=[],kw_defaults:=[],kwarg:=none,defaults:=[] }
def defBody (s:Stmt):List Stmt:=match s with
 | .FunctionDef _ _ b _ _ _ _ _ _ _=>b
 | _=>[]
def defScope (s:Stmt):Scope:=match s with
 | .FunctionDef _ _ _ _ _ _ sc _ _ _=>sc
 | _=>{ kind:=.function,names:=[],isGenerator:=false,isCoroutine:=false }
abbrev CX0:CXT:=fun _ _ _ _ _ _=>False
abbrev E0:XK:=fun _ _ _=>False
structure Fun (K:PySem.W.Frag)(x qual:Str)(st:Stmt)(f:Addr)(fd:FuncData):Prop where
 ex:∃ (oc:Value) (od:Option Addr) (kV doc pm:Value) (an:Option Addr) (cdv ct:Value) (osl:Array (Option Value)),
  fd=PySem.W.fnOf x qual (defArgs st) (defBody st) (defScope st) .none kV doc pm an cdv ct∧K.lookup f=some ⟨oc,od,.func fd,osl⟩∧PySem.W.codeIn K cdv qual=true
 kp:PySem.W.keepIn K (.ref f)=true
section
variable {P:Program}{w:World}{K:PySem.W.Frag}{mg:Str→Option Value}{base:Heap}
theorem Fun.ok {x qual:Str}{st:Stmt}{f:Addr}{fd:FuncData}{N ps:List Str}{k:Nat}{sp:Sp}(F:Fun K x qual st f fd)(S:FnScope N ps (defScope st))(len:∀ vs H Q E,sp vs H Q E→vs.length=ps.length)
  (hbody:∀ (cdv:Value) (A:Around) (outer:List Env) (s:Shared) (H:Hp) (vs:List V) (Q:VK) (E:XK),Room k (A.deeper (envOfC qual (defScope st) s.heap.objs.size f cdv))→sp vs H Q E →
   ∃ t,PSs (cxOf CX0 P w K mg base N qual (defScope st) f cdv A outer s H E).nox (defBody st) t∧t { nx:=fun _ H'=>Q .non H',rt:=Q } (start N vs) H):FnOk P w K mg base CX0 (k+1) f fd ps sp:=by
 obtain⟨oc,od,kV,doc,pm,an,cdv,ct,osl,rfl,lk,hcd⟩:=F.ex
 refine vV lk hcd S len fun A outer s H vs Q E hr hsp=>?_
 obtain⟨t,h,q⟩:=hbody cdv A outer s H vs Q E hr hsp
 exact⟨t,h.nox,q⟩
theorem Fun.binds {x qual:Str}{st:Stmt}{f:Addr}{fd:FuncData}{ps:List Str}(F:Fun K x qual st f fd)
  (h:∀ (kV doc pm:Value) (an:Option Addr) (cdv ct:Value) (us:List Value),us.length=ps.length→bindArgs (PySem.W.fnOf x qual (defArgs st) (defBody st) (defScope st) .none kV doc pm an cdv ct) ⟨us,[]⟩=pure (ps.zip us)):Binds K fd ps []:=by
 obtain⟨oc,od,kV,doc,pm,an,cdv,ct,osl,rfl,lk,hcd⟩:=F.ex
 exact .all (h kV doc pm an cdv ct)
theorem qW {x qual:Str}{st:Stmt}{f:Addr}{oc:Value}{od an:Option Addr}{osl:Array (Option Value)}{kV doc pm cdv ct:Value}(l:K.lookup f=some ⟨oc,od,.func (PySem.W.fnOf x qual (defArgs st) (defBody st) (defScope st) .none kV doc pm an cdv ct),osl⟩)
  (c:PySem.W.codeIn K cdv qual=true) (k:PySem.W.keepIn K (.ref f)=true):Fun K x qual st f (PySem.W.fnOf x qual (defArgs st) (defBody st) (defScope st) .none kV doc pm an cdv ct):=⟨⟨oc,od,kV,doc,pm,an,cdv,ct,osl,rfl,l,c⟩,k⟩
end
section
variable {X:Cx}
end
def Same (H H':Hp):Prop:=∀ b o,H b=some o→H' b=some o
theorem Same.refl (H:Hp):Same H H:=fun _ _ h=>h
theorem Same.trans {H H1 H2:Hp}(a:Same H H1)(b:Same H1 H2):Same H H2:=fun c o h=>b c o (a c o h)
theorem Same.free {H H':Hp}(e:Same H H'){l:Addr}(h:H' l=Option.none):H l=Option.none:=by
 cases q:H l with
 | none=>rfl
 | some o =>
  rw[e l o q]at h
  cases h
theorem Same.seq {K:PySem.W.Frag}{H H':Hp}{a:Addr}{xs:List V}(e:Same H H')(h:SqL K H a xs):SqL K H' a xs:=by
 rcases h with (h | ⟨o,h⟩) | h
 ·exact .inl (.inl (e _ _ h))
 ·exact .inl (.inr ⟨o,e _ _ h⟩)
 ·exact .inr h
end L2
end
noncomputable section
namespace FF
abbrev St:=L2.St
end FF
namespace FF
open PySem
open AutoSeq1 (wpAny_loadPart')
theorem i3:fillsNumberSlot (.type "tuple") "mul"=pure false :=
 fillsNumberSlot_seq F.slot_tuple_mul.lookup (by decide +kernel) F.slot_tuple_rmul.lookup (by decide +kernel)
theorem nD:seqRepeat? (.type "tuple")=pure (some (.builtin "tuple.__mul__")):=by
 unfold seqRepeat?
 rw[seqSlot_of (name := "__mul__") F.slot_tuple_mul.lookup (by decide +kernel),seqSlot_of (name := "__rmul__") F.slot_tuple_rmul.lookup (by decide +kernel)]
 rfl
theorem kA (a:Int)(t:Tok)(l:Addr)(items:Array Value)(n:Nat)(dd:Option Addr)(sl:Array (Option Value)) :
  Meets (Builtin.«int.__rmul__» ⟨[.int a t,.ref l],[]⟩) (fun _ R s=>s.heap.get? l=some { cls:=.type "tuple",dict:=dd,data:=.seq items n,slots:=sl }∧R (.ok (.ret Value.notImplemented)) s) :=
 .of_wp fun prog w A R s h=>by obtain⟨hp,g,d,tk,os⟩:=s;obtain⟨hl,h⟩:=h;wp_walk;exact⟨_,rfl,h⟩
theorem l6 (l:Addr)(items:Array Value)(n:Nat)(k:Int)(t:Tok)(dd:Option Addr)(sl:Array (Option Value))(h0:2≤k)(h1:k < 1000000)(hsz:items.size*k.toNat≤sizeLine)(hne:items.isEmpty=false) :
  Meets (Builtin.«tuple.__mul__» ⟨[.ref l,.int k t],[]⟩) (fun _ R s=>s.heap.get? l=some { cls:=.type "tuple",dict:=dd,data:=.seq items n,slots:=sl } ∧
   R (.ok (.ret (.ref s.heap.objs.size))) { s with heap:=s.heap.push { cls:=.type "tuple",data:=.seq (List.foldl (fun x1 x2=>x1++x2) #[] (List.replicate k.toNat items)) } }) :=
 .of_wp fun prog w A R s h=>by
  obtain⟨hp,g,d,tk,os⟩:=s;obtain⟨hl,h⟩:=h
  have f1:=AutoSeq1.idx_int
  have f2:=AutoSeq1.sub_tuple_tuple
  have c0:¬ (decide (k < -2^63)||decide (k≥2^63))=true:=by
   simp only[Bool.or_eq_true,decide_eq_true_eq];omega
  have c1:¬ (items.isEmpty||k==1)=true:=by
   rw[hne,Bool.false_or,beq_iff_eq];omega
  have c2:¬ (decide (k≤0)||items.isEmpty)=true:=by
   rw[hne,Bool.or_false,decide_eq_true_eq];omega
  have hs:=sizeLine_eq
  have hk:(items.size:Int)*k=((items.size*k.toNat:Nat):Int):=by
   rw[Int.natCast_mul,Int.toNat_of_nonneg (by omega)]
  have c3:¬ ((items.size:Int)*k > (2^63 - 1)/8):=by
   rw[hk];omega
  have c4:¬ Builtin.Tuple.tupleTooMany ((items.size:Int)*k)=true:=by
   rw[hk]
   unfold Builtin.Tuple.tupleTooMany
   simp only[decide_eq_true_eq]
   omega
  have hlen:(List.foldl (fun x1 x2=>x1++x2) #[] (List.replicate k.toNat items)).size≤sizeLine:=by
   have:∀ (m:Nat) (acc:Array Value),(List.foldl (fun x1 x2=>x1++x2) acc (List.replicate m items)).size=acc.size+m*items.size:=by
    intro m
    induction m with
    | zero=>intro acc;simp
    | succ m ih=>intro acc;rw[List.replicate_succ,List.foldl_cons,ih,Array.size_append,Nat.succ_mul];omega
   rw[this,Nat.mul_comm];simpa using hsz
  unfold Builtin.«tuple.__mul__»
  wp_walk using wpAny_loadPart' hl
  rw[if_neg c0]
  wp_walk using wpAny_loadPart' hl
  rw[if_neg c1]
  try wp_walk using wpAny_loadPart' hl
  rw[if_neg c2]
  try wp_walk using wpAny_loadPart' hl
  rw[if_neg c3]
  try wp_walk using wpAny_loadPart' hl
  rw[if_neg c4]
  try wp_walk using wpAny_loadPart' hl
  rw[if_neg (Nat.not_lt.mpr hlen)]
  try wp_walk using wpAny_loadPart' hl
  exact⟨_,rfl,h⟩
theorem l7 (l:Addr)(items:Array Value)(n:Nat)(t:Tok)(dd:Option Addr)(sl:Array (Option Value)) :
  Meets (Builtin.«tuple.__mul__» ⟨[.ref l,.int 1 t],[]⟩) (fun _ R s=>s.heap.get? l=some { cls:=.type "tuple",dict:=dd,data:=.seq items n,slots:=sl }∧R (.ok (.ret (.ref l))) s) :=
 .of_wp fun prog w A R s h=>by
  obtain⟨hp,g,d,tk,os⟩:=s;obtain⟨hl,h⟩:=h
  have f1:=AutoSeq1.idx_int
  have f2:=AutoSeq1.sub_tuple_tuple
  have c1:(items.isEmpty||(1:Int)==1)=true:=by simp
  unfold Builtin.«tuple.__mul__»
  wp_walk using wpAny_loadPart' hl
  exact⟨_,rfl,h⟩
theorem l8 (l:Addr)(n:Nat)(k:Int)(t:Tok)(dd:Option Addr)(sl:Array (Option Value))(h0:0≤k)(h1:k < 1000000) :
  Meets (Builtin.«tuple.__mul__» ⟨[.ref l,.int k t],[]⟩) (fun _ R s=>s.heap.get? l=some { cls:=.type "tuple",dict:=dd,data:=.seq #[] n,slots:=sl }∧R (.ok (.ret (.ref l))) s) :=
 .of_wp fun prog w A R s h=>by
  obtain⟨hp,g,d,tk,os⟩:=s;obtain⟨hl,h⟩:=h
  have f1:=AutoSeq1.idx_int
  have f2:=AutoSeq1.sub_tuple_tuple
  have c0:¬ (decide (k < -2^63)||decide (k≥2^63))=true:=by
   simp only[Bool.or_eq_true,decide_eq_true_eq];omega
  have c1:((#[]:Array Value).isEmpty||k==1)=true:=by simp
  unfold Builtin.«tuple.__mul__»
  wp_walk using wpAny_loadPart' hl
  rw[if_neg c0]
  wp_walk using wpAny_loadPart' hl
  exact⟨_,rfl,h⟩
theorem kB (l:Addr)(items:Array Value)(n:Nat)(t:Tok)(dd:Option Addr)(sl:Array (Option Value))(hne:items.isEmpty=false) :
  Meets (Builtin.«tuple.__mul__» ⟨[.ref l,.int 0 t],[]⟩) (fun _ R s=>s.heap.get? l=some { cls:=.type "tuple",dict:=dd,data:=.seq items n,slots:=sl } ∧
   R (.ok (.ret (.ref s.heap.objs.size))) { s with heap:=s.heap.push { cls:=.type "tuple",data:=.seq #[] } }) :=
 .of_wp fun prog w A R s h=>by
  obtain⟨hp,g,d,tk,os⟩:=s;obtain⟨hl,h⟩:=h
  have f1:=AutoSeq1.idx_int
  have f2:=AutoSeq1.sub_tuple_tuple
  have c1:¬ (items.isEmpty||(0:Int)==1)=true:=by rw[hne];decide
  have c2:(decide ((0:Int)≤0)||items.isEmpty)=true:=by simp
  unfold Builtin.«tuple.__mul__»
  wp_walk using wpAny_loadPart' hl
  exact⟨_,rfl,h⟩
end FF
namespace FF
open PySem
theorem eg (env:Env):∀ (names:List (Str×NameKind)) (acc:List (Str×Addr)),(∀ y∈names,y.2=.free→∃ c,env.cells.lookup y.1=some c)→(∀ n c,acc.lookup n=some c→env.cells.lookup n=some c) →
  ∃ cl,(forIn names acc fun (x:Str×NameKind) (cs:List (Str×Addr))=>(do
    if x.2==.free then let a ← cellOf env x.1;pure (ForInStep.yield ((x.1,a)::cs)) else pure (ForInStep.yield cs):Sem (ForInStep (List (Str×Addr)))))=pure cl ∧
   (∀ n c,cl.lookup n=some c→env.cells.lookup n=some c)∧(∀ n c,acc.lookup n=some c→∃ c',cl.lookup n=some c')∧(∀ y∈names,y.2=.free→∃ c,cl.lookup y.1=some c)
 | [],acc,_,h=>⟨acc,rfl,h,fun n c e=>⟨c,e⟩,fun _ z=>nomatch z⟩
 | (n,k)::r,acc,hf,h=>by
  by_cases hk:k=.free
  ·subst hk
   obtain⟨c,hc⟩:=hf (n,.free) List.mem_cons_self rfl
   have h':∀ m d,List.lookup m ((n,c)::acc)=some d→env.cells.lookup m=some d:=fun m d e=>by
    by_cases q:(m==n)=true
    ·have q':m=n:=eq_of_beq q
     simp only[List.lookup,q]at e
     cases e
     rw[q'];exact hc
    ·have q':(m==n)=false:=by simpa using q
     simp only[List.lookup,q']at e
     exact h m d e
   obtain⟨cl,e1,e2,e3,e4⟩:=eg env r ((n,c)::acc) (fun y hy=>hf y (List.mem_cons_of_mem _ hy)) h'
   have self:List.lookup n ((n,c)::acc)=some c:=by simp[List.lookup]
   refine⟨cl,?_,e2,fun m d e=>?_,fun y hy hy2=>?_⟩
   ·rw[List.forIn_cons]
    have:cellOf env n=pure c:=by unfold cellOf;rw[hc]
    simp only[beq_self_eq_true,if_true,this]
    exact e1
   ·by_cases q:(m==n)=true
    ·have q':m=n:=eq_of_beq q
     rw[q'];exact e3 n c self
    ·have q':(m==n)=false:=by simpa using q
     exact e3 m d (by simp only[List.lookup,q'];exact e)
   ·rcases List.mem_cons.mp hy with z | z
    ·subst z;exact e3 n c self
    ·exact e4 y z hy2
  ·have hb:(k==NameKind.free)=false:=by simpa using hk
   obtain⟨cl,e1,e2,e3,e4⟩:=eg env r acc (fun y hy=>hf y (List.mem_cons_of_mem _ hy)) h
   refine⟨cl,?_,e2,e3,fun y hy hy2=>?_⟩
   ·rw[List.forIn_cons]
    simp only[hb,Bool.false_eq_true,if_false]
    exact e1
   ·rcases List.mem_cons.mp hy with z | z
    ·subst z;exact absurd hy2 hk
    ·exact e4 y z hy2
theorem kC (scope:Scope)(env:Env)(h:∀ y∈scope.names,y.2=.free→∃ c,env.cells.lookup y.1=some c) :
  ∃ cl,closureFor scope env=pure cl∧(∀ n c,cl.lookup n=some c→env.cells.lookup n=some c)∧(∀ y∈scope.names,y.2=.free→∃ c,cl.lookup y.1=some c):=by
 obtain⟨cl,e1,e2,_,e4⟩:=eg env scope.names [] h (fun n c e=>by simp at e)
 refine⟨cl,?_,e2,e4⟩
 exact(congrArg (fun t:Sem (List (Str×Addr))=>t >>= fun s=>pure s) e1).trans rfl
end FF
namespace FF
open PySem
def tests (ifs:List Expr)(env:Env):Sem Bool:=match ifs with
 | []=>pure true
 | c::_=>isTrue c env (eval c env)
theorem ug {prog:Program}{w:World}{A:Around}{R:Result→Shared→Prop}{s:Shared}{elt target iter:Expr}{ifs:List Expr}{scope:Scope}{pos:Pos}{it acc:Value}{env:Env}(hifs:ifs.length≤1)(W:Nat→Shared→Prop)
  (turn:∀ n s,W n s→wpAny (model prog w) A (pyNext it) (fun r s1=>match r with
   | none=>R (.ok .next) s1
   | some v=>wpAny (model prog w) A (letOwnedTupleGo target it v) (fun _ s2=>wpAny (model prog w) A (assign target env v) (fun _ s3=>wpAny (model prog w) A (tests ifs env) (fun ok s4 =>
     if ok=true then wpAny (model prog w) A (eval elt env) (fun x s5=>wpAny (model prog w) A (call (.builtin "list.append") [acc,x]) (fun _ s6=>∃ m,m < n∧W m s6) (fun _ _=>False) s5) (fun _ _=>False) s4
     else ∃ m,m < n∧W m s4) (fun _ _=>False) s3) (fun _ _=>False) s2) (fun _ _=>False) s1) (fun _ _=>False) s)
  (n:Nat) (h:W n s):codeAny (model prog w) A (.compLoop (.ListComp elt [⟨target,iter,ifs,0⟩] scope pos) 0 it acc env) R s:=by
 have weak:∀ {α:Type} {t:Sem α} {Q Q':α→Shared→Prop} {E:Value→Shared→Prop} {s:Shared},wpAny (model prog w) A t Q (fun _ _=>False) s→(∀ a s,Q a s→Q' a s)→wpAny (model prog w) A t Q' E s :=
  fun h k=>wpAny_mono h k fun _ _ z=>z.elim
 refine codeAny_loop rfl W (fun n s hW=>?_) n h
 refine wpAny_noted ?_
 rw[compTurn_list]
 refine wpAny_bind (wpAny_standAt (wpAny_bind (weak (turn n s hW) fun r s1 h1=>?_)))
 cases r with
 | none=>exact wpAny_pure h1
 | some v =>
  refine wpAny_bind (weak h1 fun _ s2 h2=>wpAny_bind (weak h2 fun _ s3 h3=>wpAny_bind ?_))
  have fin:∀ ok s4,(if ok=true then wpAny (model prog w) A (eval elt env) (fun x s5=>wpAny (model prog w) A (call (.builtin "list.append") [acc,x]) (fun _ s6=>∃ m,m < n∧W m s6) (fun _ _=>False) s5) (fun _ _=>False) s4
     else ∃ m,m < n∧W m s4)→wpAny (model prog w) A (if ok=true then ((do let _ ← call (.builtin "list.append") [acc,← eval elt env];pure ()) >>= fun _=>again (.compLoop (.ListComp elt [⟨target,iter,ifs,0⟩] scope pos) 0 it acc env)) else again (.compLoop (.ListComp elt [⟨target,iter,ifs,0⟩] scope pos) 0 it acc env))
      (fun fin s'=>match fin with | .done f=>R (.ok f) s' | .again c'=>c'=(.compLoop (.ListComp elt [⟨target,iter,ifs,0⟩] scope pos) 0 it acc env)∧∃ m,m < n∧W m s') (notedBy (model prog w) A env fun e s'=>R (.error e) s') s4:=by
   intro ok s4 h4
   cases ok with
   | true=>exact wpAny_bind (wpAny_bind (weak h4 fun x s5 h5=>wpAny_bind (weak h5 fun _ s6 h6=>wpAny_pure (wpAny_pure ⟨rfl,h6⟩))))
   | false=>exact wpAny_pure ⟨rfl,h4⟩
  match ifs,hifs,h3,fin with
  | [],_,h3,fin =>
   refine wpAny_tests_nil ?_
   exact wpAny_bind (m:=(pure true:Sem Bool)) (weak h3 fin)
  | [c],_,h3,fin =>
   refine wpAny_tests_one ?_
   exact weak h3 fin
end FF
namespace FF
open PySem PyProof.Rows
open AutoSeq1 (wpAny_loadPart')
theorem uh (l b:Addr)(items items2:Array Value)(n n2:Nat)(dd dd2:Option Addr)(sl sl2:Array (Option Value))(hsz:items.size+items2.size≤sizeLine) :
  Meets (Builtin.«list.__add__» ⟨[.ref l,.ref b],[]⟩) (fun _ R s=>s.heap.get? l=some { cls:=.type "list",dict:=dd,data:=.seq items n,slots:=sl }∧s.heap.get? b=some { cls:=.type "list",dict:=dd2,data:=.seq items2 n2,slots:=sl2 } ∧
   R (.ok (.ret (.ref s.heap.objs.size))) { s with heap:=s.heap.push { cls:=.type "list",data:=.seq (items++items2) } }) :=
 .of_wp fun prog w A R s h=>by
  obtain⟨hp,g,d,tk,os⟩:=s;obtain⟨hl,hb,h⟩:=h
  have f1:=AutoSeq1.idx_int;have f2:=AutoSeq1.sub_tuple_tuple;have f3:=AutoSeq1.sub_list_list;have f4:=AutoSeq1.sub_tuple_list;have f5:=AutoSeq1.sub_list_tuple
  have hl0:¬ Builtin.List.listTooLong (items.size+items2.size)=true:=by rw[L2.notLongL hsz];exact Bool.false_ne_true
  have hz:(items++items2).size≤sizeLine:=by rw[Array.size_append];exact hsz
  wp_walk using wpAny_loadPart' hl,wpAny_loadPart' hb
  all_goals first | exact⟨_,rfl,h⟩ | trace_state
theorem ui (l:Addr)(items:Array Value)(n:Nat)(k:Int)(t:Tok)(dd:Option Addr)(sl:Array (Option Value))(h0 : -(2^63)≤k)(h1:k < 2^63)(hsz:items.size*k.toNat≤sizeLine) :
  Meets (Builtin.«list.__mul__» ⟨[.ref l,.int k t],[]⟩) (fun _ R s=>s.heap.get? l=some { cls:=.type "list",dict:=dd,data:=.seq items n,slots:=sl } ∧
   R (.ok (.ret (.ref s.heap.objs.size))) { s with heap:=s.heap.push { cls:=.type "list",data:=.seq (List.foldl (fun x1 x2=>x1++x2) #[] (List.replicate (if items.isEmpty=true then 0 else k.toNat) items)) } }) :=
 .of_wp fun prog w A R s h=>by
  obtain⟨hp,g,d,tk,os⟩:=s;obtain⟨hl,h⟩:=h
  have f1:=AutoSeq1.idx_int;have f2:=AutoSeq1.sub_tuple_tuple;have f3:=AutoSeq1.sub_list_list
  have hs:=sizeLine_eq
  have c1:¬ items.size*k.toNat > (2^63 - 1)/8:=by omega
  have c2:¬ (!Builtin.List.listFitsIndex k)=true:=by rw[fitsIndex_both h0 h1];exact Bool.false_ne_true
  have c3:¬ Builtin.List.listTooLong (items.size*k.toNat)=true:=by rw[L2.notLongL hsz];exact Bool.false_ne_true
  have hz:=AutoListH.joined_fits c3
  wp_walk using wpAny_loadPart' hl
  rw[if_neg (Nat.not_lt.mpr hz)]
  wp_walk
  exact⟨_,rfl,h⟩
theorem l9 (a:Int)(t:Tok)(l:Addr)(items:Array Value)(n:Nat)(dd:Option Addr)(sl:Array (Option Value)) :
  Meets (Builtin.«int.__rmul__» ⟨[.int a t,.ref l],[]⟩) (fun _ R s=>s.heap.get? l=some { cls:=.type "list",dict:=dd,data:=.seq items n,slots:=sl }∧R (.ok (.ret Value.notImplemented)) s) :=
 .of_wp fun prog w A R s h=>by obtain⟨hp,g,d,tk,os⟩:=s;obtain⟨hl,h⟩:=h;wp_walk;exact⟨_,rfl,h⟩
theorem uj (l b:Addr)(items items2:Array Value)(n n2:Nat)(dd2:Option Addr)(sl2:Array (Option Value))(hsz:items.size+items2.size≤sizeLine) :
  Meets (Builtin.«list.extend» ⟨[.ref l,.ref b],[]⟩) (fun _ R s=>s.heap.get? l=some { cls:=.type "list",data:=.seq items n }∧s.heap.get? b=some { cls:=.type "list",dict:=dd2,data:=.seq items2 n2,slots:=sl2 } ∧
   R (.ok (.ret .none)) { s with heap:=s.heap.update l (Obj.mapSeq fun x=>x++items2) }) :=
 .of_wp fun prog w A R s h=>by
  obtain⟨hp,g,d,tk,os⟩:=s;obtain⟨hl,hb,h⟩:=h
  have f1:=AutoSeq1.idx_int;have f2:=AutoSeq1.sub_tuple_tuple;have f3:=AutoSeq1.sub_list_list;have f4:=AutoSeq1.sub_tuple_list;have f5:=AutoSeq1.sub_list_tuple
  have hc0:¬(!items.isEmpty&&Builtin.List.listTooLong (items.size+items2.size))=true:=by rw[L2.notLongL hsz,Bool.and_false];exact Bool.false_ne_true
  have hc1:items.size≤sizeLine:=by omega
  have hs2:items.size+items2.size≤sizeLine+1:=by omega
  have hz':(items++items2).size≤sizeLine+1:=by rw[Array.size_append];omega
  wp_walk using (wpAny_updateSeq hl rfl),wpAny_loadPart' hl,wpAny_loadPart' hb
  exact⟨_,rfl,h⟩
theorem uk (l b:Addr)(items items2:Array Value)(n n2:Nat)(dd2:Option Addr)(sl2:Array (Option Value))(hsz:items.size+items2.size≤sizeLine) :
  Meets (Builtin.«list.extend» ⟨[.ref l,.ref b],[]⟩) (fun _ R s=>s.heap.get? l=some { cls:=.type "list",data:=.seq items n }∧s.heap.get? b=some { cls:=.type "tuple",dict:=dd2,data:=.seq items2 n2,slots:=sl2 } ∧
   R (.ok (.ret .none)) { s with heap:=s.heap.update l (Obj.mapSeq fun x=>x++items2) }) :=
 .of_wp fun prog w A R s h=>by
  obtain⟨hp,g,d,tk,os⟩:=s;obtain⟨hl,hb,h⟩:=h
  have f1:=AutoSeq1.idx_int;have f2:=AutoSeq1.sub_tuple_tuple;have f3:=AutoSeq1.sub_list_list;have f4:=AutoSeq1.sub_tuple_list;have f5:=AutoSeq1.sub_list_tuple
  have hc0:¬(!items.isEmpty&&Builtin.List.listTooLong (items.size+items2.size))=true:=by rw[L2.notLongL hsz,Bool.and_false];exact Bool.false_ne_true
  have hc1:items.size≤sizeLine:=by omega
  have hs2:items.size+items2.size≤sizeLine+1:=by omega
  have hz':(items++items2).size≤sizeLine+1:=by rw[Array.size_append];omega
  wp_walk using (wpAny_updateSeq hl rfl),wpAny_loadPart' hl,wpAny_loadPart' hb
  exact⟨_,rfl,h⟩
end FF
end
noncomputable section
namespace FF
open PySem PySem.Spec PyProof.Rows L2
inductive D where
 | non | bl (b:Bool) | int (i:Int) | str (x:Str) | tup (xs:List D) | lst (xs:List D) | exc (k:Nat) | fn (k:Nat) | tab (ks:List (List Int)) (xs:List D) | dic (ks:List Key) (xs:List D) | ptr (a:Addr)
inductive R (α:Type) where
 | ok (a:α) | err (k:Nat) | stuck
def R.bind {α β:Type}(r:R α)(f:α→R β):R β:=match r with
 | .ok a=>f a
 | .err k=>.err k
 | .stuck=>.stuck
@[simp] theorem R.bind_ok {α β:Type}(a:α)(f:α→R β):(R.ok a).bind f=f a:=rfl
@[simp] theorem R.bind_err {α β:Type}(k:Nat)(f:α→R β):(R.err k:R α).bind f=.err k:=rfl
@[simp] theorem R.bind_stuck {α β:Type}(f:α→R β):(R.stuck:R α).bind f=.stuck:=rfl
def excO (C:Nat→Addr)(k:Nat)(a:Addr):HO :=
 .ext fun h=>∃ o,h.get? a=some o∧o.cls=.ref (C k)∧∃ vs,o.data=.fields vs
abbrev TKV:=List Int×Addr×V
abbrev TKU:=List Int×Addr×Value
def hashT (ks:List Int):Int:=reduceHash (Builtin.Tuple.tupleHashOf (ks.map hashInt))
def tabR (p:TKV)(q:TKU):Prop:=p.1=q.1∧p.2.1=q.2.1∧RelV p.2.2 q.2.2
def tabφ (a:Addr)(kvs:List TKV)(h:Heap):Prop:=∃ xs:List TKU,Paired tabR kvs xs∧xs.length≤sizeLine∧(a==sysModules)=false∧∃ o es ep,h.get? a=some o∧o.ExactDict∧o.data=.dict es ep ∧
 es.toList=xs.map (fun x=>(⟨hashT x.1,.ref x.2.1,x.2.2⟩:DictEntry))∧(xs.map (·.1)).Nodup
def tabO (a:Addr)(kvs:List TKV):HO:=.ext (tabφ a kvs)
abbrev RKV:=List (List Int)×Addr×V
abbrev RKU:=List (List Int)×Addr×Value
def hashR (kss:List (List Int)):Int:=reduceHash (Builtin.Tuple.tupleHashOf (kss.map hashT))
def rabR (p:RKV)(q:RKU):Prop:=p.1=q.1∧p.2.1=q.2.1∧RelV p.2.2 q.2.2
def rabφ (a:Addr)(kvs:List RKV)(h:Heap):Prop:=∃ xs:List RKU,Paired rabR kvs xs∧xs.length≤sizeLine∧(a==sysModules)=false∧∃ o es ep,h.get? a=some o∧o.ExactDict∧o.data=.dict es ep ∧
 es.toList=xs.map (fun x=>(⟨hashR x.1,.ref x.2.1,x.2.2⟩:DictEntry))∧(xs.map (·.1)).Nodup
def rabO (a:Addr)(kvs:List RKV):HO:=.ext (rabφ a kvs)
def RowsT (K:PySem.W.Frag)(Z:Hp):List Addr→List (List Int)→Prop
 | [],[]=>True
 | b::as,ks::kss=>SqT K Z b (ks.map V.int)∧RowsT K Z as kss
 | _,_=>False
def SqR (K:PySem.W.Frag)(Z:Hp)(a:Addr)(kss:List (List Int)):Prop:=∃ as:List Addr,SqT K Z a (as.map V.ref)∧RowsT K Z as kss
mutual
def Rep (K:PySem.W.Frag)(C:Nat→Addr)(Z:Hp):D→V→Prop
 | .non,v=>v=.non
 | .bl b,v=>v=.bl b
 | .int i,v=>v=.int i
 | .str x,v=>v=.str x
 | .tup ds,v=>∃ a vs,v=.ref a∧SqT K Z a vs∧Reps K C Z ds vs
 | .lst ds,v=>∃ a vs,v=.ref a∧SqL K Z a vs∧Reps K C Z ds vs
 | .exc k,v=>∃ a,v=.ref a∧Z a=some (excO C k a)
 | .fn k,v=>v=.ref (C k)
 | .tab ks ds,v=>∃ a kvs,v=.ref a∧Z a=some (tabO a kvs)∧kvs.map (·.1)=ks∧(∀ x∈kvs,SqT K Z x.2.1 (x.1.map V.int))∧Reps K C Z ds (kvs.map (·.2.2))
 | .dic ks ds,v=>∃ a kvs,v=.ref a∧(∃ o,Z a=some (.frz o (.dK kvs)))∧kvs.map (·.1)=ks∧Reps K C Z ds (kvs.map (·.2))
 | .ptr a,v=>v=.ref a
def Reps (K:PySem.W.Frag)(C:Nat→Addr)(Z:Hp):List D→List V→Prop
 | [],vs=>vs=[]
 | d::ds,vs=>∃ v r,vs=v::r∧Rep K C Z d v∧Reps K C Z ds r
end
theorem _root_.L2.SqT.mono {K:PySem.W.Frag}{Z Z':Hp}{a:Addr}{xs:List V}(e:Same Z Z')(h:SqT K Z a xs):SqT K Z' a xs:=by
 rcases h with (h | ⟨o,h⟩) | h
 ·exact .inl (.inl (e _ _ h))
 ·exact .inl (.inr ⟨o,e _ _ h⟩)
 ·exact .inr h
theorem RowsT.mono {K:PySem.W.Frag}{Z Z':Hp}(e:Same Z Z'):∀ {as:List Addr} {kss:List (List Int)},RowsT K Z as kss→RowsT K Z' as kss
 | [],[],_=>True.intro
 | b::as,ks::kss,h=>⟨h.1.mono e,RowsT.mono e h.2⟩
 | [],_::_,h=>h.elim
 | _::_,[],h=>h.elim
theorem SqR.mono {K:PySem.W.Frag}{Z Z':Hp}{a:Addr}{kss:List (List Int)}(h:SqR K Z a kss)(e:Same Z Z'):SqR K Z' a kss:=let ⟨as,p,q⟩:=h;⟨as,p.mono e,q.mono e⟩
section
variable {K:PySem.W.Frag}{C:Nat→Addr}{Z Z':Hp}
mutual
theorem Rep.mono (e:Same Z Z'):∀ (d:D) (v:V),Rep K C Z d v→Rep K C Z' d v
 | .non,v,h=>by rw[Rep]at h ⊢;exact h
 | .bl b,v,h=>by rw[Rep]at h ⊢;exact h
 | .int i,v,h=>by rw[Rep]at h ⊢;exact h
 | .str x,v,h=>by rw[Rep]at h ⊢;exact h
 | .fn k,v,h=>by rw[Rep]at h ⊢;exact h
 | .tup ds,v,h=>by
  rw[Rep]at h ⊢
  obtain⟨a,vs,h1,h2,h3⟩:=h
  exact⟨a,vs,h1,h2.mono e,Reps.mono e ds vs h3⟩
 | .lst ds,v,h=>by
  rw[Rep]at h ⊢
  obtain⟨a,vs,h1,h2,h3⟩:=h
  exact⟨a,vs,h1,e.seq h2,Reps.mono e ds vs h3⟩
 | .exc k,v,h=>by
  rw[Rep]at h ⊢
  obtain⟨a,h1,h2⟩:=h
  exact⟨a,h1,e _ _ h2⟩
 | .tab ks ds,v,h=>by
  rw[Rep]at h ⊢
  obtain⟨a,kvs,h1,h2,h3,h5,h4⟩:=h
  exact⟨a,kvs,h1,e _ _ h2,h3,fun x hx=>(h5 x hx).mono e,Reps.mono e ds _ h4⟩
 | .dic ks ds,v,h=>by
  rw[Rep]at h ⊢
  obtain⟨a,kvs,h1,⟨o,h2⟩,h3,h4⟩:=h
  exact⟨a,kvs,h1,⟨o,e _ _ h2⟩,h3,Reps.mono e ds _ h4⟩
 | .ptr a,v,h=>by
  rw[Rep]at h ⊢
  exact h
theorem Reps.mono (e:Same Z Z'):∀ (ds:List D) (vs:List V),Reps K C Z ds vs→Reps K C Z' ds vs
 | [],vs,h=>by rw[Reps]at h ⊢;exact h
 | d::ds,vs,h=>by
  rw[Reps]at h ⊢
  obtain⟨v,r,h1,h2,h3⟩:=h
  exact⟨v,r,h1,Rep.mono e d v h2,Reps.mono e ds r h3⟩
end
theorem Reps.nil:Reps K C Z [] []:=by rw[Reps]
theorem Reps.cons {d:D}{v:V}{ds:List D}{vs:List V}(h:Rep K C Z d v)(t:Reps K C Z ds vs):Reps K C Z (d::ds) (v::vs):=by
 rw[Reps];exact⟨v,vs,rfl,h,t⟩
theorem Reps.uncons {d:D}{v:V}{ds:List D}{vs:List V}(h:Reps K C Z (d::ds) (v::vs)):Rep K C Z d v∧Reps K C Z ds vs:=by
 rw[Reps]at h
 grind
theorem Reps.length:∀ {ds:List D} {vs:List V},Reps K C Z ds vs→ds.length=vs.length
 | [],vs,h=>by rw[Reps]at h;subst h;rfl
 | d::ds,vs,h=>by
  rw[Reps]at h
  obtain⟨v,r,e,_,h2⟩:=h
  subst e
  simp[Reps.length h2]
theorem Reps.get:∀ {ds:List D} {vs:List V} {i:Nat} {d:D},Reps K C Z ds vs→ds[i]?=some d→∃ v,vs[i]?=some v∧Rep K C Z d v
 | [],vs,i,d,h,e=>by simp at e
 | d'::ds,vs,i,d,h,e=>by
  rw[Reps]at h
  obtain⟨v,r,q,h1,h2⟩:=h
  subst q
  cases i with
  | zero=>simp at e;subst e;exact⟨v,rfl,h1⟩
  | succ i =>
   obtain⟨v',e1,h3⟩:=Reps.get h2 (by simpa using e)
   exact⟨v',by simpa using e1,h3⟩
theorem Reps.get':∀ {ds:List D} {vs:List V} {i:Nat} {v:V},Reps K C Z ds vs→vs[i]?=some v→∃ d,ds[i]?=some d∧Rep K C Z d v
 | [],vs,i,v,h,e=>by rw[Reps]at h;subst h;simp at e
 | d'::ds,vs,i,v,h,e=>by
  rw[Reps]at h
  obtain⟨v0,r,q,h1,h2⟩:=h
  subst q
  cases i with
  | zero=>simp at e;subst e;exact⟨d',rfl,h1⟩
  | succ i =>
   obtain⟨d,e1,h3⟩:=Reps.get' h2 (by simpa using e)
   exact⟨d,by simpa using e1,h3⟩
theorem Reps.append:∀ {ds es:List D} {vs us:List V},Reps K C Z ds vs→Reps K C Z es us→Reps K C Z (ds++es) (vs++us)
 | [],es,vs,us,h,h'=>by rw[Reps]at h;subst h;exact h'
 | d::ds,es,vs,us,h,h'=>by
  rw[Reps]at h
  obtain⟨v,r,q,h1,h2⟩:=h
  subst q
  exact Reps.cons h1 (Reps.append h2 h')
theorem Reps.take:∀ {ds:List D} {vs:List V} (n:Nat),Reps K C Z ds vs→Reps K C Z (ds.take n) (vs.take n)
 | [],vs,n,h=>by rw[Reps]at h;subst h;simpa using Reps.nil
 | d::ds,vs,n,h=>by
  rw[Reps]at h
  obtain⟨v,r,q,h1,h2⟩:=h
  subst q
  cases n with
  | zero=>exact Reps.nil
  | succ n=>exact Reps.cons h1 (Reps.take n h2)
theorem Reps.drop:∀ {ds:List D} {vs:List V} (n:Nat),Reps K C Z ds vs→Reps K C Z (ds.drop n) (vs.drop n)
 | [],vs,n,h=>by rw[Reps]at h;subst h;simpa using Reps.nil
 | d::ds,vs,n,h=>by
  rw[Reps]at h
  obtain⟨v,r,q,h1,h2⟩:=h
  subst q
  cases n with
  | zero=>exact Reps.cons h1 h2
  | succ n=>exact Reps.drop n h2
end
structure Ex (H Z H' Z':Hp):Prop where
 same:Same H H'
 z:Same Z Z'
 sub:Same Z' H'
 new:∀ b,Z' b≠none→Z b≠none∨H b=none
theorem Ex.refl {H Z:Hp}(s:Same Z H):Ex H Z H Z:=⟨Same.refl _,Same.refl _,s,fun _ h=>.inl h⟩
theorem Ex.trans {H Z H1 Z1 H2 Z2:Hp}(a:Ex H Z H1 Z1)(b:Ex H1 Z1 H2 Z2):Ex H Z H2 Z2 :=
 ⟨a.same.trans b.same,a.z.trans b.z,b.sub,fun c h=>(b.new c h).elim (fun h1=>a.new c h1) fun h1=>.inr (a.same.free h1)⟩
theorem aJ {H:Hp}{p:Addr}{o:HO}(h:H p=none):Same H (upd H p o):=fun b u e=>by
 rw[ak (aQ e h)];exact e
theorem Ex.alloc {H Z:Hp}{p:Addr}{o:HO}(s:Same Z H)(h:H p=none):Ex H Z (upd H p o) (upd Z p o):=by
 have hz:Z p=none:=s.free h
 refine⟨aJ h,aJ hz,fun b u e=>?_,fun b hb=>?_⟩
 ·by_cases q:b=p
  ·subst q;rw[ar]at e ⊢;exact e
  ·rw[ak q]at e ⊢;exact s b u e
 ·by_cases q:b=p
  ·subst q;exact .inr h
  ·rw[ak q]at hb;exact .inl hb
theorem Ex.hidden {H Z:Hp}{p:Addr}{o:HO}(s:Same Z H)(h:H p=none):Ex H Z (upd H p o) Z :=
 ⟨aJ h,Same.refl _,s.trans (aJ h),fun _ hb=>.inl hb⟩
inductive Sl where
 | val (d:D) | own (ds:List D) | mat (m:List (List D)) | dic (m:List (Key×D)) | dit (m:List (List Int×D)) | dir (m:List (List (List Int)×D))
abbrev SS:=List (Option Sl)
structure Fx where
 K:PySem.W.Frag
 C:Nat→Addr
 H0:Hp
 Z0:Hp
 E:XK
def Rows (F:Fx)(H Z:Hp):List (List D)→List Addr→Prop
 | [],[]=>True
 | ds::m,r::rs=>(∃ vs,H r=some (.lst vs)∧Reps F.K F.C Z ds vs)∧Rows F H Z m rs
 | _,_=>False
def Pairs {κ:Type}(F:Fx)(Z:Hp)(m:List (κ×D))(kvs:List (κ×V)):Prop:=kvs.map Prod.fst=m.map Prod.fst∧Reps F.K F.C Z (m.map Prod.snd) (kvs.map Prod.snd)
def Ow (F:Fx)(H Z:Hp):Sl→V→List Addr→Prop
 | .val d,v,A=>A=[]∧Rep F.K F.C Z d v
 | .own ds,v,A=>∃ a vs,v=.ref a∧A=[a]∧H a=some (.lst vs)∧Reps F.K F.C Z ds vs
 | .mat m,v,A=>∃ a rs,v=.ref a∧A=a::rs∧H a=some (.lst (rs.map V.ref))∧Rows F H Z m rs
 | .dic m,v,A=>∃ a kvs,v=.ref a∧A=[a]∧H a=some (.dK kvs)∧Pairs F Z m kvs
 | .dit m,v,A=>∃ a kvs,v=.ref a∧A=[a]∧H a=some (tabO a kvs)∧kvs.map (·.1)=m.map (·.1)∧(∀ x∈kvs,SqT F.K Z x.2.1 (x.1.map V.int))∧Reps F.K F.C Z (m.map (·.2)) (kvs.map (·.2.2))
 | .dir m,v,A=>∃ a kvs,v=.ref a∧A=[a]∧H a=some (rabO a kvs)∧kvs.map (·.1)=m.map (·.1)∧(∀ x∈kvs,SqR F.K Z x.2.1 x.1)∧Reps F.K F.C Z (m.map (·.2)) (kvs.map (·.2.2))
structure Priv (F:Fx)(Z:Hp)(A:List Addr):Prop where
 nd:A.Nodup
 z:∀ a∈A,Z a=none
 h0:∀ a∈A,F.H0 a=none
structure StOk (F:Fx)(H Z:Hp)(S:SS)(σ:St):Prop where
 ex:Ex F.H0 F.Z0 H Z
 len:S.length=σ.length
 sl:∀ (i:Nat) (x:Sl),S[i]?=some (some x)→∃ v A,σ[i]?=some (some v)∧Ow F H Z x v A∧Priv F Z A
 dj:∀ (i j:Nat) (x y:Sl) (v w:V) (A B:List Addr),i≠j→S[i]?=some (some x)→S[j]?=some (some y)→σ[i]?=some (some v)→σ[j]?=some (some w)→Ow F H Z x v A→Ow F H Z y w B→∀ a∈A,a∉B
section
variable {F:Fx}{H Z H' Z':Hp}{S:SS}{σ:St}{x:Sl}{v:V}{A B:List Addr}
theorem Rows.mono (hz:Same Z Z'):∀ {m:List (List D)} {rs:List Addr},Rows F H Z m rs→(∀ a∈rs,∀ o,H a=some o→H' a=some o)→Rows F H' Z' m rs
 | [],[],_,_=>trivial
 | ds::m,r::rs,h,k=>by
  obtain⟨⟨vs,e,q⟩,h⟩:=h
  exact⟨⟨vs,k r (.head _) _ e,q.mono hz⟩,Rows.mono hz h fun a ha=>k a (.tail _ ha)⟩
 | [],_::_,h,_=>h.elim
 | _::_,[],h,_=>h.elim
theorem Rows.there:∀ {m:List (List D)} {rs:List Addr},Rows F H Z m rs→∀ a∈rs,∃ o,H a=some o
 | [],[],_,a,ha=>nomatch ha
 | ds::m,r::rs,h,a,ha=>by
  obtain⟨⟨vs,e,q⟩,h⟩:=h
  rcases List.mem_cons.mp ha with rfl | ha
  ·exact⟨_,e⟩
  ·exact Rows.there h a ha
 | [],_::_,h,_,_=>h.elim
 | _::_,[],h,_,_=>h.elim
theorem Rows.len:∀ {m:List (List D)} {rs:List Addr},Rows F H Z m rs→rs.length=m.length
 | [],[],_=>rfl
 | ds::m,r::rs,h=>by rw[List.length_cons,List.length_cons,Rows.len h.2]
 | [],_::_,h=>h.elim
 | _::_,[],h=>h.elim
theorem oF:∀ {rs qs:List Addr},rs.map V.ref=qs.map V.ref→rs=qs
 | [],[],_=>rfl
 | r::rs,q::qs,h=>by
  rw[List.map_cons,List.map_cons]at h
  injection h with h1 h2
  injection h1 with h1
  rw[h1,oF h2]
 | [],_::_,h=>nomatch h
 | _::_,[],h=>nomatch h
theorem Ow.mono (hz:Same Z Z')(h:Ow F H Z x v A)(hs:∀ a∈A,∀ o,H a=some o→H' a=some o):Ow F H' Z' x v A:=by
 cases x with
 | val d=>exact⟨h.1,h.2.mono hz⟩
 | own ds =>
  obtain⟨a,vs,e1,e2,e3,r⟩:=h
  exact⟨a,vs,e1,e2,hs a (by grind) _ e3,r.mono hz⟩
 | mat m =>
  obtain⟨a,rs,e1,e2,e3,r⟩:=h
  exact⟨a,rs,e1,e2,hs a (by grind) _ e3,r.mono hz fun b hb=>hs b (by grind)⟩
 | dic m =>
  obtain⟨a,vs,e1,e2,e3,r⟩:=h
  exact⟨a,vs,e1,e2,hs a (by grind) _ e3,r.1,r.2.mono hz⟩
 | dit m =>
  obtain⟨a,vs,e1,e2,e3,r⟩:=h
  exact⟨a,vs,e1,e2,hs a (by grind) _ e3,r.1,fun x hx=>(r.2.1 x hx).mono hz,r.2.2.mono hz⟩
 | dir m =>
  obtain⟨a,vs,e1,e2,e3,r⟩:=h
  exact⟨a,vs,e1,e2,hs a (by grind) _ e3,r.1,fun x hx=>(r.2.1 x hx).mono hz,r.2.2.mono hz⟩
theorem Ow.det (h:Ow F H Z x v A)(h':Ow F H Z x v B):A=B:=by
 cases x with
 | val d=>rw[h.1,h'.1]
 | own ds =>
  obtain⟨a,vs,e1,e2,_⟩:=h
  obtain⟨b,us,f1,f2,_⟩:=h'
  grind
 | mat m =>
  obtain⟨a,rs,e1,e2,e3,_⟩:=h
  obtain⟨b,qs,f1,f2,f3,_⟩:=h'
  rw[e1]at f1;cases f1
  rw[e3]at f3
  injection f3 with f3
  injection f3 with f3
  rw[e2,f2,oF f3]
 | dic m =>
  obtain⟨a,vs,e1,e2,_⟩:=h
  obtain⟨b,us,f1,f2,_⟩:=h'
  grind
 | dit m =>
  obtain⟨a,vs,e1,e2,_⟩:=h
  obtain⟨b,us,f1,f2,_⟩:=h'
  grind
 | dir m =>
  obtain⟨a,vs,e1,e2,_⟩:=h
  obtain⟨b,us,f1,f2,_⟩:=h'
  grind
theorem Ow.there (h:Ow F H Z x v A):∀ a∈A,∃ o,H a=some o:=fun a ha=>by
 cases x with
 | val d=>rw[h.1]at ha;cases ha
 | own ds =>
  obtain⟨b,vs,e1,e2,e3,r⟩:=h
  grind
 | mat m =>
  obtain⟨b,rs,e1,e2,e3,r⟩:=h
  rw[e2]at ha
  rcases List.mem_cons.mp ha with rfl | ha
  ·exact⟨_,e3⟩
  ·exact r.there a ha
 | dic m =>
  obtain⟨b,vs,e1,e2,e3,r⟩:=h
  grind
 | dit m =>
  obtain⟨b,vs,e1,e2,e3,r⟩:=h
  grind
 | dir m =>
  obtain⟨b,vs,e1,e2,e3,r⟩:=h
  grind
theorem StOk.sub (h:StOk F H Z S σ):Same Z H:=h.ex.sub
theorem StOk.more (h:StOk F H Z S σ)(x:Ex H Z H' Z'):StOk F H' Z' S σ:=by
 have up:∀ {y:Sl} {v:V} {A:List Addr},Ow F H Z y v A→Ow F H' Z' y v A:=fun o=>o.mono x.z fun a _ o e=>x.same _ _ e
 refine⟨h.ex.trans x,h.len,fun i y e=>?_,fun i j y z v w A B hij e1 e2 e3 e4 o1 o2=>?_⟩
 ·obtain⟨v,A,e1,o,p⟩:=h.sl i y e
  refine⟨v,A,e1,up o,p.nd,fun a ha=>?_,p.h0⟩
  cases q:Z' a with
  | none=>rfl
  | some u =>
   obtain⟨w,hw⟩:=o.there a ha
   rcases x.new a (by rw[q];simp) with z | z
   ·exact absurd (p.z a ha) z
   ·rw[hw]at z;cases z
 ·obtain⟨v',A',f1,q1,_⟩:=h.sl i y e1
  obtain⟨w',B',f2,q2,_⟩:=h.sl j z e2
  rw[e3]at f1;cases f1
  rw[e4]at f2;cases f2
  rw[o1.det (up q1),o2.det (up q2)]
  exact h.dj i j y z v w A' B' hij e1 e2 e3 e4 q1 q2
theorem StOk.val (h:StOk F H Z S σ)(i:Nat)(d:D)(e:S[i]?=some (some (.val d))):∃ v,σ[i]?=some (some v)∧Rep F.K F.C Z d v:=by
 obtain⟨v,A,e1,o,_⟩:=h.sl i _ e
 exact⟨v,e1,o.2⟩
theorem StOk.own (h:StOk F H Z S σ)(i:Nat)(ds:List D)(e:S[i]?=some (some (.own ds))):∃ a vs,σ[i]?=some (some (.ref a))∧H a=some (.lst vs)∧Z a=none∧F.H0 a=none∧Reps F.K F.C Z ds vs:=by
 obtain⟨v,A,e1,⟨a,vs,rfl,rfl,q,r⟩,p⟩:=h.sl i _ e
 exact⟨a,vs,e1,q,p.z a (.head _),p.h0 a (.head _),r⟩
theorem StOk.put (h:StOk F H Z S σ){i:Nat}(o:Ow F H Z x v A)(p:Priv F Z A)(hn:∀ (j:Nat) (y:Sl) (w:V) (B:List Addr),j≠i→S[j]?=some (some y)→σ[j]?=some (some w)→Ow F H Z y w B→∀ a∈A,a∉B) :
  StOk F H Z (S.set i (some x)) (σ.set i (some v)):=by
 have self:∀ {y:Option Sl},(S.set i (some x))[i]?=some y→y=some x∧i < S.length:=fun {y} e=>by
  by_cases hl:i < S.length
  ·rw[List.getElem?_set_self hl]at e;cases e;exact⟨rfl,hl⟩
  ·rw[List.getElem?_eq_none (by simpa using hl)]at e;cases e
 refine⟨h.ex,by simp[h.len],fun j y e=>?_,fun j k y z w u A' B' hjk e1 e2 e3 e4 o1 o2=>?_⟩
 ·by_cases q:i=j
  ·subst q
   obtain⟨z,hl⟩:=self e
   cases z
   exact⟨v,A,by rw[List.getElem?_set_self (by rw[← h.len];exact hl)],o,p⟩
  ·rw[List.getElem?_set_ne q]at e ⊢
   exact h.sl j y e
 ·by_cases q:i=j
  ·have q2:i≠k:=fun z=>hjk (q ▸ z)
   subst q
   obtain⟨z,hl⟩:=self e1
   cases z
   rw[List.getElem?_set_self (by rw[← h.len];exact hl)]at e3
   cases e3
   rw[List.getElem?_set_ne q2]at e2 e4
   rw[o1.det o]
   exact hn k _ _ _ (Ne.symm q2) e2 e4 o2
  ·rw[List.getElem?_set_ne q]at e1 e3
   by_cases q2:i=k
   ·subst q2
    obtain⟨z,hl⟩:=self e2
    cases z
    rw[List.getElem?_set_self (by rw[← h.len];exact hl)]at e4
    cases e4
    rw[o2.det o]
    exact fun a ha hb=>hn j _ _ _ (Ne.symm q) e1 e3 o1 a hb ha
   ·rw[List.getElem?_set_ne q2]at e2 e4
    exact h.dj j k _ _ _ _ _ _ hjk e1 e2 e3 e4 o1 o2
theorem Priv.nil:Priv F Z []:=⟨List.Pairwise.nil,(fun _ h=>nomatch h),(fun _ h=>nomatch h)⟩
theorem StOk.setVal (h:StOk F H Z S σ){i:Nat}{d:D}{v:V}(r:Rep F.K F.C Z d v):StOk F H Z (S.set i (some (.val d))) (σ.set i (some v)) :=
 h.put ⟨rfl,r⟩ Priv.nil fun _ _ _ _ _ _ _ _ _ ha=>nomatch ha
theorem StOk.putNew (h:StOk F H Z S σ){i:Nat}(e:Ex H Z H' Z')(o:Ow F H' Z' x v A)(p:Priv F Z' A)(hn:∀ a∈A,H a=none):StOk F H' Z' (S.set i (some x)) (σ.set i (some v)):=by
 refine(h.more e).put o p fun j y w B hj e1 e2 o2 a ha hb=>?_
 obtain⟨w',B',f1,q,_⟩:=h.sl j y e1
 rw[e2]at f1;cases f1
 rw[o2.det (q.mono e.z fun a _ o e'=>e.same _ _ e')]at hb
 obtain⟨u,hu⟩:=q.there a hb
 rw[hn a ha]at hu;cases hu
theorem StOk.newOwn (h:StOk F H Z S σ){i:Nat}{a:Addr}{ds:List D}{vs:List V}(hp:H a=none)(r:Reps F.K F.C Z ds vs):StOk F (upd H a (.lst vs)) Z (S.set i (some (.own ds))) (σ.set i (some (.ref a))) :=
 h.putNew (Ex.hidden h.sub hp) ⟨a,vs,rfl,rfl,ar,r⟩ ⟨by simp,fun b hb=>by cases List.mem_singleton.mp hb;exact h.sub.free hp,fun b hb=>by cases List.mem_singleton.mp hb;exact h.ex.same.free hp⟩ fun b hb=>by cases List.mem_singleton.mp hb;exact hp
theorem StOk.rewr (h:StOk F H Z S σ){i:Nat}{x':Sl}(e:S[i]?=some (some x))(ev:σ[i]?=some (some v))(o:Ow F H Z x v A)(o':Ow F H' Z x' v A)(hH:∀ b,b∉A→H' b=H b):StOk F H' Z (S.set i (some x')) σ:=by
 have hl:=(List.getElem?_eq_some_iff.mp e).1
 obtain⟨v',A',f1,q1,p⟩:=h.sl i x e
 rw[ev]at f1;cases f1
 cases o.det q1
 have up:∀ {j:Nat} {y:Sl} {w:V} {B:List Addr},j≠i→S[j]?=some (some y)→σ[j]?=some (some w)→Ow F H Z y w B→Ow F H' Z y w B:=fun {j y w B} hj e1 e2 q=>q.mono (Same.refl _) fun b hb u eu=>by
  rw[hH b (h.dj j i y x w v B A hj e1 e e2 ev q o b hb)];exact eu
 refine⟨⟨fun b u q=>?_,h.ex.z,fun b u q=>?_,h.ex.new⟩,by simp[h.len],fun j y q=>?_,fun j k y z w u A' B' hjk e1 e2 e3 e4 o1 o2=>?_⟩
 ·rw[hH b fun z=>by rw[p.h0 b z]at q;cases q];exact h.ex.same b u q
 ·rw[hH b fun z=>by rw[p.z b z]at q;cases q];exact h.ex.sub b u q
 ·by_cases z:i=j
  ·subst z
   rw[List.getElem?_set_self hl]at q;cases q
   exact⟨v,A,ev,o',p⟩
  ·rw[List.getElem?_set_ne z]at q
   obtain⟨w,B,g1,g2,g3⟩:=h.sl j y q
   exact⟨w,B,g1,up (Ne.symm z) q g1 g2,g3⟩
 ·have one:∀ {j:Nat} {y:Sl} {w:V} {B:List Addr},(S.set i (some x'))[j]?=some (some y)→σ[j]?=some (some w)→Ow F H' Z y w B→∃ y0,S[j]?=some (some y0)∧Ow F H Z y0 w B:=fun {j y w B} g1 g2 g3=>by
   by_cases z:i=j
   ·subst z
    rw[List.getElem?_set_self hl]at g1;cases g1
    rw[ev]at g2;cases g2
    rw[g3.det o']
    exact⟨x,e,o⟩
   ·rw[List.getElem?_set_ne z]at g1
    obtain⟨w',B',k1,k2,_⟩:=h.sl j y g1
    rw[g2]at k1;cases k1
    rw[g3.det (up (Ne.symm z) g1 g2 k2)]
    exact⟨y,g1,k2⟩
  obtain⟨y0,a1,a2⟩:=one e1 e3 o1
  obtain⟨z0,b1,b2⟩:=one e2 e4 o2
  exact h.dj j k y0 z0 w u A' B' hjk a1 b1 e3 e4 a2 b2
theorem StOk.write (h:StOk F H Z S σ){i:Nat}{ds es:List D}{a:Addr}{us:List V}(e:S[i]?=some (some (.own ds)))(ha:σ[i]?=some (some (.ref a)))(r:Reps F.K F.C Z es us) :
  StOk F (upd H a (.lst us)) Z (S.set i (some (.own es))) σ:=by
 obtain⟨a',vs,e1,e2,e3,e4,r0⟩:=h.own i ds e
 rw[ha]at e1;cases e1
 exact h.rewr e ha ⟨a,vs,rfl,rfl,e2,r0⟩ ⟨a,us,rfl,rfl,ar,r⟩ fun b hb=>ak fun z=>hb (by rw[z];exact .head _)
theorem StOk.frzAllH {F:Fx}{H Z H' Z':Hp}{S:SS}{ρ:St}{x:Sl}{v:V}{A:List Addr}{d:D}(h:StOk F H Z S ρ){i:Nat}(e:S[i]?=some (some x))(ev:ρ[i]?=some (some v))(o:Ow F H Z x v A)(hH:∀ b,b∉A→H' b=H b)(hz:Same Z Z')(hsub:Same Z' H')(hnew:∀ b,Z' b≠none→Z b≠none∨b∈A)(r:Rep F.K F.C Z' d v):StOk F H' Z' (S.set i (some (.val d))) ρ:=by
 have hl:=(List.getElem?_eq_some_iff.mp e).1
 obtain⟨v',A',f1,q1,p⟩:=h.sl i x e
 rw[ev]at f1;cases f1
 cases o.det q1
 have up:∀ {j:Nat} {y:Sl} {w:V} {B:List Addr},j≠i→S[j]?=some (some y)→ρ[j]?=some (some w)→Ow F H Z y w B→Ow F H' Z' y w B:=fun {j y w B} hj e1 e2 q=>q.mono hz fun b hb u eu=>by
  rw[hH b (h.dj j i y x w v B A hj e1 e e2 ev q o b hb)];exact eu
 refine⟨⟨fun b u q=>?_,h.ex.z.trans hz,hsub,fun b q=>?_⟩,by simp[h.len],fun j y q=>?_,fun j k y z w u A' B' hjk e1 e2 e3 e4 o1 o2=>?_⟩
 ·rw[hH b fun z=>by rw[p.h0 b z]at q;cases q];exact h.ex.same b u q
 ·rcases hnew b q with z | z
  ·exact h.ex.new b z
  ·exact .inr (p.h0 b z)
 ·by_cases z:i=j
  ·subst z
   rw[List.getElem?_set_self hl]at q;cases q
   exact⟨v,[],ev,⟨rfl,r⟩,Priv.nil⟩
  ·rw[List.getElem?_set_ne z]at q
   obtain⟨w,B,g1,g2,g3⟩:=h.sl j y q
   refine⟨w,B,g1,up (Ne.symm z) q g1 g2,g3.nd,fun b hb=>?_,g3.h0⟩
   cases qz:Z' b with
   | none=>rfl
   | some u =>
    rcases hnew b (by rw[qz];simp) with y1 | y1
    ·exact absurd (g3.z b hb) y1
    ·exact absurd y1 (h.dj j i _ _ _ _ _ _ (Ne.symm z) q e g1 ev g2 o b hb)
 ·have one:∀ {j:Nat} {y:Sl} {w:V} {B:List Addr},(S.set i (some (.val d)))[j]?=some (some y)→ρ[j]?=some (some w)→Ow F H' Z' y w B→B=[]∨(j≠i∧S[j]?=some (some y)∧Ow F H Z y w B):=fun {j y w B} g1 g2 g3=>by
   by_cases z:i=j
   ·subst z
    rw[List.getElem?_set_self hl]at g1;cases g1
    exact .inl g3.1
   ·rw[List.getElem?_set_ne z]at g1
    obtain⟨w',B',k1,k2,_⟩:=h.sl j y g1
    rw[g2]at k1;cases k1
    rw[g3.det (up (Ne.symm z) g1 g2 k2)]
    exact .inr ⟨Ne.symm z,g1,k2⟩
  rcases one e1 e3 o1 with z1 | ⟨_,z1,z2⟩
  ·rw[z1];exact fun a ha=>nomatch ha
  ·rcases one e2 e4 o2 with y1 | ⟨_,y1,y2⟩
   ·rw[y1];exact fun a _ ha=>nomatch ha
   ·exact h.dj j k _ _ _ _ _ _ hjk z1 y1 e3 e4 z2 y2
theorem StOk.frzAll (h:StOk F H Z S σ){i:Nat}{d:D}(e:S[i]?=some (some x))(ev:σ[i]?=some (some v))(o:Ow F H Z x v A)(hz:Same Z Z')(hsub:Same Z' H)(hnew:∀ b,Z' b≠none→Z b≠none∨b∈A)(r:Rep F.K F.C Z' d v):StOk F H Z' (S.set i (some (.val d))) σ:=h.frzAllH e ev o (fun _ _=>rfl) hz hsub hnew r
theorem StOk.freeze (h:StOk F H Z S σ){i:Nat}{ds:List D}(e:S[i]?=some (some (.own ds))):∃ Z',Same Z Z'∧StOk F H Z' (S.set i (some (.val (.lst ds)))) σ:=by
 obtain⟨a,vs,e1,e2,e3,e4,r⟩:=h.own i ds e
 have hz:Same Z (upd Z a (.lst vs)):=aJ e3
 refine⟨upd Z a (.lst vs),hz,h.frzAll e e1 ⟨a,vs,rfl,rfl,e2,r⟩ hz (fun b o q=>?_) (fun b q=>?_) (by rw[Rep];exact⟨a,vs,rfl,SqL.of ar,r.mono hz⟩)⟩
 ·by_cases y:b=a
  ·subst y;rw[ar]at q;cases q;exact e2
  ·rw[ak y]at q;exact h.ex.sub b o q
 ·by_cases y:b=a
  ·exact .inr (by rw[y];exact .head _)
  ·rw[ak y]at q;exact .inl q
end
theorem vY {F G:Fx}{H Z:Hp}(hK:G.K=F.K:=by rfl)(hC:G.C=F.C:=by rfl):∀ {m:List (List D)} {rs:List Addr},Rows F H Z m rs→Rows G H Z m rs
 | [],[],_=>trivial
 | ds::m,r::rs,h=>by
  obtain⟨⟨vs,e,q⟩,h⟩:=h
  exact⟨⟨vs,e,by rw[hK,hC];exact q⟩,vY hK hC h⟩
 | [],_::_,h=>h.elim
 | _::_,[],h=>h.elim
theorem ow_K {F G:Fx}{H Z:Hp}{x:Sl}{v:V}{A:List Addr}(h:Ow F H Z x v A)(hK:G.K=F.K:=by rfl)(hC:G.C=F.C:=by rfl):Ow G H Z x v A:=by
 cases x with
 | val d=>exact⟨h.1,by rw[hK,hC];exact h.2⟩
 | own ds=>obtain⟨a,vs,e1,e2,e3,r⟩:=h;exact⟨a,vs,e1,e2,e3,by rw[hK,hC];exact r⟩
 | mat m=>obtain⟨a,rs,e1,e2,e3,r⟩:=h;exact⟨a,rs,e1,e2,e3,vY hK hC r⟩
 | dic m=>obtain⟨a,vs,e1,e2,e3,r⟩:=h;exact⟨a,vs,e1,e2,e3,r.1,by rw[hK,hC];exact r.2⟩
 | dit m=>obtain⟨a,vs,e1,e2,e3,r⟩:=h;exact⟨a,vs,e1,e2,e3,r.1,by rw[hK];exact r.2.1,by rw[hK,hC];exact r.2.2⟩
 | dir m=>obtain⟨a,vs,e1,e2,e3,r⟩:=h;exact⟨a,vs,e1,e2,e3,r.1,by rw[hK];exact r.2.1,by rw[hK,hC];exact r.2.2⟩
def WG {α:Type}(F:Fx)(H Z:Hp)(r:R α)(P:α→Hp→Hp→Prop):Prop:=match r with
 | .ok a=>∀ H' Z',Ex H Z H' Z'→P a H' Z'
 | .err k=>∀ H',Same H H'→F.E (.ref (F.C k)) none H'
 | .stuck=>False
section
variable {α:Type}{F:Fx}{H Z H1 Z1:Hp}{r:R α}{P P':α→Hp→Hp→Prop}
theorem WG.more (w:WG F H Z r P)(x:Ex H Z H1 Z1):WG F H1 Z1 r P:=by
 cases r with
 | ok a=>exact fun H' Z' y=>w H' Z' (x.trans y)
 | err k=>exact fun H' y=>w H' (x.same.trans y)
 | stuck=>exact w
theorem WG.now {a:α}(w:WG F H Z (.ok a) P)(s:Same Z H):P a H Z:=w H Z (Ex.refl s)
end
def tE (F:Fx)(g:SS→R D):TE:=fun σ H Q=>∃ Z S,StOk F H Z S σ∧WG F H Z (g S) fun d H' Z'=>∀ v,Rep F.K F.C Z' d v→Q v H'
def tT (F:Fx)(g:SS→R Bool):TT:=fun σ H Q=>∃ Z S,StOk F H Z S σ∧WG F H Z (g S) fun b H' _=>Q b H'
def tAl (F:Fx)(g:SS→R (List D)):TA:=fun σ H Q=>∃ Z S,StOk F H Z S σ∧WG F H Z (g S) fun ds H' Z'=>∀ vs,Reps F.K F.C Z' ds vs→Q vs H'
inductive O where
 | nx (S:SS) | rt (d:D) | er (k:Nat) | bk (S:SS) | ct (S:SS) | stuck
def WO (F:Fx)(Z:Hp)(o:O)(D:Ends):Prop:=match o with
 | .nx S=>∀ σ H Z',Same Z Z'→StOk F H Z' S σ→D.nx σ H
 | .rt d=>∀ v H Z',Ex F.H0 F.Z0 H Z'→Rep F.K F.C Z' d v→D.rt v H
 | .er k=>∀ H,Same F.H0 H→F.E (.ref (F.C k)) none H
 | .bk S=>∀ σ H Z',Same Z Z'→StOk F H Z' S σ→D.bk σ H
 | .ct S=>∀ σ H Z',Same Z Z'→StOk F H Z' S σ→D.ct σ H
 | .stuck=>False
theorem WO.more {F:Fx}{Z Z1:Hp}{o:O}{D:Ends}(w:WO F Z o D)(z:Same Z Z1):WO F Z1 o D:=by
 cases o with
 | nx S=>exact fun σ H Z' q=>w σ H Z' (z.trans q)
 | rt d=>exact w
 | er k=>exact w
 | bk S=>exact fun σ H Z' q=>w σ H Z' (z.trans q)
 | ct S=>exact fun σ H Z' q=>w σ H Z' (z.trans q)
 | stuck=>exact w
def tS (F:Fx)(g:SS→O):TS:=fun D σ H=>∃ Z S,StOk F H Z S σ∧WO F Z (g S) D
abbrev FE (X:Cx)(F:Fx)(e:Expr)(g:SS→R D):Prop:=PE X e (tE F g)
abbrev FT (X:Cx)(F:Fx)(e:Expr)(g:SS→R Bool):Prop:=PT X e (tT F g)
abbrev FW (X:Cx)(F:Fx)(e:Expr)(g:SS→R Bool):Prop:=PW X e (tT F g)
abbrev FA (X:Cx)(F:Fx)(es:List Expr)(g:SS→R (List D)):Prop:=PA X es (tAl F g)
abbrev FS (X:Cx)(F:Fx)(st:Stmt)(g:SS→O):Prop:=PS X st (tS F g)
abbrev FSs (X:Cx)(F:Fx)(sts:List Stmt)(g:SS→O):Prop:=PSs X sts (tS F g)
theorem _root_.L2.PE.weak {X:Cx}{e:Expr}{t t':TE}(h:PE X e t)(w:∀ σ H Q,t' σ H Q→t σ H Q):PE X e t':=fun pins s σ H Q I q=>h pins s σ H Q I (w σ H Q q)
theorem _root_.L2.PT.weak {X:Cx}{e:Expr}{t t':TT}(h:PT X e t)(w:∀ σ H Q,t' σ H Q→t σ H Q):PT X e t':=fun pins s σ H Q I q=>h pins s σ H Q I (w σ H Q q)
theorem _root_.L2.PW.weak {X:Cx}{e:Expr}{t t':TT}(h:PW X e t)(w:∀ σ H Q,t' σ H Q→t σ H Q):PW X e t':=fun wh pins s σ H Q I q=>h wh pins s σ H Q I (w σ H Q q)
theorem _root_.L2.PA.weak {X:Cx}{e:List Expr}{t t':TA}(h:PA X e t)(w:∀ σ H Q,t' σ H Q→t σ H Q):PA X e t':=fun p pins s σ H Q I q=>h p pins s σ H Q I (w σ H Q q)
theorem _root_.L2.PS.weak {X:Cx}{e:Stmt}{t t':TS}(h:PS X e t)(w:∀ D σ H,t' D σ H→t D σ H):PS X e t':=fun pins s σ H D I q=>h pins s σ H D I (w D σ H q)
theorem _root_.L2.PSs.weak {X:Cx}{e:List Stmt}{t t':TS}(h:PSs X e t)(w:∀ D σ H,t' D σ H→t D σ H):PSs X e t':=fun pins s σ H D I q=>h pins s σ H D I (w D σ H q)
section
variable {F:Fx}{σ:St}{H Z:Hp}{S:SS}
theorem aM {α:Type}{g:SS→R D}{k:D→R α}{P:α→Hp→Hp→Prop}{Q:VK}(ok:StOk F H Z S σ)(w:WG F H Z ((g S).bind k) P)
  (h:∀ d v H1 Z1,StOk F H1 Z1 S σ→Ex H Z H1 Z1→Rep F.K F.C Z1 d v→WG F H1 Z1 (k d) P→Q v H1):tE F g σ H Q:=by
 refine⟨Z,S,ok,?_⟩
 cases e:g S with
 | ok d =>
  rw[e]at w
  intro H1 Z1 x v r
  exact h d v H1 Z1 (ok.more x) x r (WG.more w x)
 | err k=>rw[e]at w;exact w
 | stuck=>rw[e]at w;exact w
theorem hR {α:Type}{g:SS→R Bool}{k:Bool→R α}{P:α→Hp→Hp→Prop}{Q:Bool→Hp→Prop}(ok:StOk F H Z S σ)(w:WG F H Z ((g S).bind k) P)
  (h:∀ b H1 Z1,StOk F H1 Z1 S σ→Ex H Z H1 Z1→WG F H1 Z1 (k b) P→Q b H1):tT F g σ H Q:=by
 refine⟨Z,S,ok,?_⟩
 cases e:g S with
 | ok d =>
  rw[e]at w
  intro H1 Z1 x
  exact h d H1 Z1 (ok.more x) x (WG.more w x)
 | err k=>rw[e]at w;exact w
 | stuck=>rw[e]at w;exact w
theorem aS {α:Type}{g:SS→R (List D)}{k:List D→R α}{P:α→Hp→Hp→Prop}{Q:List V→Hp→Prop}(ok:StOk F H Z S σ)(w:WG F H Z ((g S).bind k) P)
  (h:∀ ds vs H1 Z1,StOk F H1 Z1 S σ→Ex H Z H1 Z1→Reps F.K F.C Z1 ds vs→WG F H1 Z1 (k ds) P→Q vs H1):tAl F g σ H Q:=by
 refine⟨Z,S,ok,?_⟩
 cases e:g S with
 | ok d =>
  rw[e]at w
  intro H1 Z1 x v r
  exact h d v H1 Z1 (ok.more x) x r (WG.more w x)
 | err k=>rw[e]at w;exact w
 | stuck=>rw[e]at w;exact w
end
def eVar (i:Nat):SS→R D:=fun S=>match S[i]? with
 | some (some (.val d))=>.ok d
 | _=>.stuck
def eC (d:D):SS→R D:=fun _=>.ok d
section
variable {X:Cx}{F:Fx}{e a b:Expr}{g ga gb:SS→R D}{pos:Pos}
theorem fV {v:V}{d:D}(h:PE X e (tC v))(r:∀ Z,Rep F.K F.C Z d v):FE X F e (eC d):=h.weak fun σ H Q ⟨Z,S,ok,w⟩=>WG.now w ok.sub v (r Z)
theorem af {i j pos}:FE X F (.Constant (.int i) j pos) (eC (.int i)):=fV zP fun _=>by rw[Rep]
theorem df {b j pos}:FE X F (.Constant (.bool b) j pos) (eC (.bl b)):=fV A1 fun _=>by rw[Rep]
theorem dg {x j pos}:FE X F (.Constant (.str x) j pos) (eC (.str x)):=fV zQ fun _=>by rw[Rep]
theorem ac (i:Nat){x:Str}{pos:Pos}(hN:X.N[i]?=some x:=by rfl)(hv:Vis X.env.scope x:=by first | exact Or.inl rfl | exact Or.inr (Or.inl rfl) | exact Or.inr (Or.inr rfl))(hd:(x==("__debug__":Str))=false:=by decide)
  (hcd:(x==("__classdict__":Str))=false:=by decide):FE X F (.Name x pos) (eVar i):=(iY hN hv hd hcd).weak fun σ H Q ⟨Z,S,ok,w⟩=>by
 unfold eVar at w
 split at w
 ·rename_i d e
  obtain⟨v,e1,r⟩:=ok.val i d e
  exact⟨v,e1,WG.now w ok.sub v r⟩
 ·exact w.elim
end
def OpD (F:Fx)(r:R2)(f:D→D→R D):Prop:=∀ (H Z:Hp) (x y:V) (dx dy:D) (Q:VK),Same Z H→Rep F.K F.C Z dx x→Rep F.K F.C Z dy y →
 WG F H Z (f dx dy) (fun d H' Z'=>∀ v,Rep F.K F.C Z' d v→Q v H')→r x y H Q
def eOp (f:D→D→R D)(ga gb:SS→R D):SS→R D:=fun S=>(ga S).bind fun x=>(gb S).bind fun y=>f x y
section
variable {X:Cx}{F:Fx}{e a b c:Expr}{ga gb gc:SS→R D}{pos:Pos}{r:R2}{f:D→D→R D}
theorem nE (hd:OpD F r f):∀ σ H Q,tE F (eOp f ga gb) σ H Q→tOp r (tE F ga) (tE F gb) σ H Q:=fun σ H Q ⟨Z,S,ok,w⟩ =>
 aM ok w fun dx x H1 Z1 ok1 x1 rx w1=>aM ok1 w1 fun dy y H2 Z2 ok2 x2 ry w2=>hd H2 Z2 x y dx dy Q ok2.sub (rx.mono x2.z) ry w2
theorem oG {op:Operator}(ho:OpR X (binaryOp op) r)(hd:OpD F r f)(ha:FE X F a ga)(hb:FE X F b gb):FE X F (.BinOp a op b pos) (eOp f ga gb):=(A5 ho ha hb).weak (nE hd)
theorem kD {op:CmpOp}(ho:OpR X (compareOp op) r)(hd:OpD F r f)(ha:FE X F a ga)(hb:FE X F b gb)(hm:behindInMarks op b=false:=by first | exact nomark _ | rfl):FE X F (.Compare a [op] [b] pos) (eOp f ga gb) :=
 (sy ho ha hb hm).weak (nE hd)
theorem A9 (ho:IxR X r)(hd:OpD F r f)(ha:FE X F a ga)(hb:FE X F b gb)(hs:PlainIx b:=by intro _ _;rfl):FE X F (.Subscript a b pos) (eOp f ga gb):=(A8 ho ha hb hs).weak (nE hd)
def asB (r:R D):R Bool:=r.bind fun d=>match d with
 | .bl b=>.ok b
 | _=>.stuck
def gB (g:SS→R D):SS→R Bool:=fun S=>asB (g S)
theorem sC {t:TE}{g:SS→R D}(h:∀ σ H Q,tE F g σ H Q→t σ H Q):∀ σ H Q,tT F (gB g) σ H Q→tTest t σ H Q:=fun σ H Q ⟨Z,S,ok,w⟩=>by
 refine h σ H _ (aM ok w fun d v H1 Z1 ok1 x1 rv w1=>?_)
 cases d with
 | bl b=>rw[Rep]at rv;exact⟨b,rv,WG.now w1 ok1.sub⟩
 | _=>exact w1.elim
theorem aK {g:SS→R D}(h:FE X F e g)(he:∀ whole,isTrue e X.env whole=(do let v ← whole;standAt e.pos;holding [v] (truthy v)):=by intro _;rfl):FT X F e (gB g) :=
 (zR h he).weak (sC fun _ _ _ q=>q)
theorem gG {op:CmpOp}(ho:OpR X (compareOp op) r)(hd:OpD F r f)(ha:FE X F a ga)(hb:FE X F b gb)(hm:behindInMarks op b=false:=by first | exact nomark _ | rfl):FT X F (.Compare a [op] [b] pos) (gB (eOp f ga gb)) :=
 (sA ho ha hb hm).weak (sC (nE hd))
end
def gAnd (a b:SS→R Bool):SS→R Bool:=fun S=>(a S).bind fun c=>if c=true then b S else .ok false
def gOr (a b:SS→R Bool):SS→R Bool:=fun S=>(a S).bind fun c=>if c=true then .ok true else b S
def gNot (a:SS→R Bool):SS→R Bool:=fun S=>(a S).bind fun c=>.ok (!c)
def eIf (c:SS→R Bool)(a b:SS→R D):SS→R D:=fun S=>(c S).bind fun t=>if t=true then a S else b S
section
variable {X:Cx}{F:Fx}{e a b c:Expr}{rest:List Expr}{ta tb tc:SS→R Bool}{ga gb:SS→R D}{pos:Pos}
theorem sE (h:FT X F a ta):FW X F (.BoolOp .And [a] pos) ta:=yg h
theorem bJ (h:FT X F a ta):FW X F (.BoolOp .Or [a] pos) ta:=zS h
theorem vZ (ha:FT X F a ta)(hb:FW X F (.BoolOp .And (b::rest) pos) tb):FW X F (.BoolOp .And (a::b::rest) pos) (gAnd ta tb) :=
 (zT ha hb).weak fun σ H Q ⟨Z,S,ok,w⟩=>hR ok w fun d H1 Z1 ok1 x1 w1=>by
  cases d with
  | true=>exact⟨Z1,S,ok1,w1⟩
  | false=>exact WG.now w1 ok1.sub
theorem dh (ha:FT X F a ta)(hb:FW X F (.BoolOp .Or (b::rest) pos) tb):FW X F (.BoolOp .Or (a::b::rest) pos) (gOr ta tb) :=
 (A2 ha hb).weak fun σ H Q ⟨Z,S,ok,w⟩=>hR ok w fun d H1 Z1 ok1 x1 w1=>by
  cases d with
  | true=>exact WG.now w1 ok1.sub
  | false=>exact⟨Z1,S,ok1,w1⟩
theorem ft_w (h:FW X F e ta):FT X F e ta:=h.pt
theorem aN (h:FT X F a ta):FT X F (.UnaryOp .Not a pos) (gNot ta) :=
 (zU h).weak fun σ H Q ⟨Z,S,ok,w⟩=>hR ok w fun d H1 Z1 ok1 x1 w1=>WG.now w1 ok1.sub
theorem bL {op}(h:FE X F a ga):FE X F (.BoolOp op [a] pos) ga:=zV h
def eAnd (a b:SS→R D):SS→R D:=fun S=>(asB (a S)).bind fun c=>if c=true then b S else .ok (.bl false)
def eOr (a b:SS→R D):SS→R D:=fun S=>(asB (a S)).bind fun c=>if c=true then .ok (.bl true) else b S
def eNot (a:SS→R D):SS→R D:=fun S=>(asB (a S)).bind fun c=>.ok (.bl (!c))
theorem qX {α:Type}{σ:St}{H Z:Hp}{S:SS}{g:SS→R D}{k:Bool→R α}{P:α→Hp→Hp→Prop}{Q:VK}(ok:StOk F H Z S σ)(w:WG F H Z ((asB (g S)).bind k) P)
  (h:∀ c H1 Z1,StOk F H1 Z1 S σ→Ex H Z H1 Z1→WG F H1 Z1 (k c) P→Q (.bl c) H1):tE F g σ H Q:=by
 have e:(asB (g S)).bind k=(g S).bind fun d=>(match d with | .bl b=>R.ok b | _=>R.stuck).bind k:=by
  unfold asB;cases g S<;>rfl
 rw[e]at w
 refine aM ok w fun d v H1 Z1 ok1 x1 rv w1=>?_
 cases d with
 | bl b=>rw[Rep]at rv;subst rv;exact h b H1 Z1 ok1 x1 w1
 | _=>exact w1.elim
theorem bM (ha:FE X F a ga)(hb:FE X F (.BoolOp .And (b::rest) pos) gb):FE X F (.BoolOp .And (a::b::rest) pos) (eAnd ga gb) :=
 (zW ha hb).weak fun σ H Q ⟨Z,S,ok,w⟩=>qX ok w fun c H1 Z1 ok1 x1 w1=>⟨c,rfl,by
  cases c with
  | true=>exact⟨Z1,S,ok1,w1⟩
  | false=>exact WG.now w1 ok1.sub _ (by rw[Rep])⟩
theorem zF (ha:FE X F a ga)(hb:FE X F (.BoolOp .Or (b::rest) pos) gb):FE X F (.BoolOp .Or (a::b::rest) pos) (eOr ga gb) :=
 (A3 ha hb).weak fun σ H Q ⟨Z,S,ok,w⟩=>qX ok w fun c H1 Z1 ok1 x1 w1=>⟨c,rfl,by
  cases c with
  | true=>exact WG.now w1 ok1.sub _ (by rw[Rep])
  | false=>exact⟨Z1,S,ok1,w1⟩⟩
theorem Ao (ha:FE X F a ga):FE X F (.UnaryOp .Not a pos) (eNot ga) :=
 (zX ha).weak fun σ H Q ⟨Z,S,ok,w⟩=>qX ok w fun c H1 Z1 ok1 x1 w1=>⟨c,rfl,WG.now w1 ok1.sub _ (by rw[Rep])⟩
theorem zG (hc:FT X F c tc)(ha:FE X F a ga)(hb:FE X F b gb):FE X F (.IfExp c a b pos) (eIf tc ga gb) :=
 (vN hc ha hb).weak fun σ H Q ⟨Z,S,ok,w⟩=>hR ok w fun d H1 Z1 ok1 x1 w1=>by
  cases d with
  | true=>exact⟨Z1,S,ok1,w1⟩
  | false=>exact⟨Z1,S,ok1,w1⟩
end
def aNil:SS→R (List D):=fun _=>.ok []
def aCons (g:SS→R D)(gs:SS→R (List D)):SS→R (List D):=fun S=>(g S).bind fun d=>(gs S).bind fun ds=>.ok (d::ds)
def eTup (gs:SS→R (List D)):SS→R D:=fun S=>(gs S).bind fun ds=>if ds.length≤16777216 then .ok (.tup ds) else .stuck
def eLst (gs:SS→R (List D)):SS→R D:=fun S=>(gs S).bind fun ds=>if ds.length≤16777216 then .ok (.lst ds) else .stuck
section
variable {X:Cx}{F:Fx}{e:Expr}{es:List Expr}{g:SS→R D}{gs:SS→R (List D)}{pos:Pos}
theorem Ap:FA X F [] aNil:=vS.weak fun σ H Q ⟨Z,S,ok,w⟩=>WG.now w ok.sub [] Reps.nil
theorem yu (ha:FE X F e g)(hr:FA X F es gs)(hs:starEach (e::es) X.env=(false,eval e X.env)::starEach es X.env:=by rfl):FA X F (e::es) (aCons g gs) :=
 (nv ha hr hs).weak fun σ H Q ⟨Z,S,ok,w⟩=>aM ok w fun d v H1 Z1 ok1 x1 rv w1=>aS ok1 w1 fun ds vs H2 Z2 ok2 x2 rs w2=>WG.now w2 ok2.sub _ (Reps.cons (rv.mono x2.z) rs)
theorem Aq {x1}(h:FA X F es gs):FE X F (.Tuple es x1 pos) (eTup gs) :=
 (Ai h).weak fun σ H Q ⟨Z,S,ok,w⟩=>aS ok w fun ds vs H1 Z1 ok1 x1 rs w1=>by
  split at w1
  ·rename_i hl
   refine⟨by rw[← rs.length,sizeLine_eq];exact hl,fun p hp=>?_⟩
   have z:Same Z1 (upd Z1 p (.tup vs)):=aJ (ok1.sub.free hp)
   exact w1 _ _ (Ex.alloc ok1.sub hp) _ (by rw[Rep];exact⟨p,vs,rfl,SqT.of ar,rs.mono z⟩)
  ·exact w1.elim
theorem Ar (h:FA X F es gs):FE X F (.List es pos) (eLst gs) :=
 (vT h).weak fun σ H Q ⟨Z,S,ok,w⟩=>aS ok w fun ds vs H1 Z1 ok1 x1 rs w1=>by
  split at w1
  ·rename_i hl
   refine⟨by rw[← rs.length,sizeLine_eq];exact hl,fun p hp=>?_⟩
   have z:Same Z1 (upd Z1 p (.lst vs)):=aJ (ok1.sub.free hp)
   exact w1 _ _ (Ex.alloc ok1.sub hp) _ (by rw[Rep];exact⟨p,vs,rfl,SqL.of ar,rs.mono z⟩)
  ·exact w1.elim
end
def rO (r:R O):O:=match r with
 | .ok o=>o
 | .err k=>.er k
 | .stuck=>.stuck
def sDrop (g:SS→R D):SS→O:=fun S=>rO ((g S).bind fun _=>.ok (.nx S))
def sRet (g:SS→R D):SS→O:=fun S=>rO ((g S).bind fun d=>.ok (.rt d))
def sSet (i:Nat)(g:SS→R D):SS→O:=fun S=>rO ((g S).bind fun d=>.ok (.nx (S.set i (some (.val d)))))
section
variable {X:Cx}{F:Fx}{st:Stmt}{rest:List Stmt}{e c:Expr}{g:SS→R D}{gt:SS→R Bool}{ga gb:SS→O}{pos:Pos}
theorem WO.wg {D:Ends}{r:R O}{H Z:Hp}{S:SS}{σ:St}(ok:StOk F H Z S σ)(w:WO F Z (rO r) D):WG F H Z r fun o _ Z'=>WO F Z' o D:=by
 cases r with
 | ok o=>exact fun _ _ x=>WO.more w x.z
 | err k=>exact fun H' s=>w H' (ok.ex.same.trans s)
 | stuck=>exact w
theorem bQ (h:FE X F e g)(hs:swapsWith e none pos.line X.env=pure false:=by rfl):FS X F (.Expr e pos) (sDrop g) :=
 (nt h hs).weak fun D σ H ⟨Z,S,ok,w⟩=>aM ok (WO.wg ok w) fun d v H1 Z1 ok1 x1 rv w1=>WG.now w1 ok1.sub σ H1 Z1 (Same.refl _) ok1
theorem ah (h:FE X F e g):FS X F (.Return (some e) pos) (sRet g) :=
 (zY h).weak fun D σ H ⟨Z,S,ok,w⟩=>aM ok (WO.wg ok w) fun d v H1 Z1 ok1 x1 rv w1=>WG.now w1 ok1.sub v H1 Z1 ok1.ex rv
theorem ax (i:Nat){x:Str}{pos':Pos}(hN:X.N.Nodup)(h:FE X F e g)(hi:X.N[i]?=some x:=by rfl)(hx:Loc X.env.scope x:=by first | exact Or.inl rfl | exact Or.inr rfl)
  (hs:swapsWith e (some (.Name x pos')) pos.line X.env=pure false:=by rfl) (hf:X.fn x=true∨X.env.scope.names.lookup x=some .local:=by first | exact .inl rfl | exact .inr rfl):FS X F (.Assign [.Name x pos'] e pos) (sSet i g) :=
 (qS hN hi hx h hs hf).weak fun D σ H ⟨Z,S,ok,w⟩=>aM ok (WO.wg ok w) fun d v H1 Z1 ok1 x1 rv w1=>WG.now w1 ok1.sub _ _ _ (Same.refl _) (ok1.setVal rv)
end
theorem OpD.or {F:Fx}{r r':R2}{f f':D→D→R D}(p:D→D→Bool)(h:OpD F r f)(h':OpD F r' f'):OpD F (fun x y H Q=>r x y H Q∨r' x y H Q) (fun x y=>if p x y=true then f x y else f' x y):=by
 intro H Z x y dx dy Q s rx ry w
 by_cases e:p dx dy=true
 ·dsimp only at w;rw[if_pos e]at w;exact .inl (h H Z x y dx dy Q s rx ry w)
 ·dsimp only at w;rw[if_neg e]at w;exact .inr (h' H Z x y dx dy Q s rx ry w)
def dI (c:Int→Int→Bool)(g:Int→Int→D):D→D→R D
 | .int i,.int j=>if c i j=true then .ok (g i j) else .stuck
 | _,_=>.stuck
def dI0 (g:Int→Int→D):D→D→R D
 | .int i,.int j=>.ok (g i j)
 | _,_=>.stuck
theorem v3 {F:Fx}{C:Int→Int→Prop}{c:Int→Int→Bool}{g:Int→Int→V}{g':Int→Int→D}(hc:∀ i j,c i j=true→C i j)(hg:∀ i j Z,Rep F.K F.C Z (g' i j) (g i j)):OpD F (rI C g) (dI c g'):=by
 intro H Z x y dx dy Q s rx ry w
 cases dx with
 | int i =>
  cases dy with
  | int j =>
   rw[Rep]at rx
   rw[Rep]at ry
   subst rx;subst ry
   unfold dI at w
   dsimp only at w
   split at w
   ·rename_i q;exact⟨i,j,rfl,rfl,hc i j q,WG.now w s _ (hg i j Z)⟩
   ·exact w.elim
  | _=>exact w.elim
 | _=>exact w.elim
theorem bR {F:Fx}{g:Int→Int→V}{g':Int→Int→D}(hg:∀ i j Z,Rep F.K F.C Z (g' i j) (g i j)):OpD F (rI0 g) (dI0 g'):=by
 intro H Z x y dx dy Q s rx ry w
 cases dx with
 | int i =>
  cases dy with
  | int j =>
   rw[Rep]at rx
   rw[Rep]at ry
   subst rx;subst ry
   exact⟨i,j,rfl,rfl,WG.now w s _ (hg i j Z)⟩
  | _=>exact w.elim
 | _=>exact w.elim
def cMul (i j:Int):Bool:=(decide (-(2^64) < i)&&decide (i < 2^64))||(decide (-(2^64) < j)&&decide (j < 2^64))
def cDiv (i j:Int):Bool:=decide (0 < j)&&decide (j < 1073741824)
theorem yw (i j:Int)(h:cMul i j=true):CMul i j:=by
 unfold cMul at h
 simp only[Bool.or_eq_true,Bool.and_eq_true,decide_eq_true_eq]at h
 exact h
theorem yx (i j:Int)(h:cDiv i j=true):CDiv i j:=by
 unfold cDiv at h
 simp only[Bool.and_eq_true,decide_eq_true_eq]at h
 exact h
def isInt:D→Bool
 | .int _=>true
 | _=>false
def isTup:D→Bool
 | .tup _=>true
 | _=>false
def isLst:D→Bool
 | .lst _=>true
 | _=>false
def dCatT:D→D→R D
 | .tup xs,.tup ys=>if xs.length+ys.length≤16777216 then .ok (.tup (xs++ys)) else .stuck
 | _,_=>.stuck
def dCatL:D→D→R D
 | .lst xs,.lst ys=>if xs.length+ys.length≤16777216 then .ok (.lst (xs++ys)) else .stuck
 | _,_=>.stuck
def dRepT:D→D→R D
 | .tup xs,.int k=>if 0≤k∧k < 1000000∧xs.length*k.toNat≤16777216 then .ok (.tup (List.replicate k.toNat xs).flatten) else .stuck
 | _,_=>.stuck
def dRepL:D→D→R D
 | .lst xs,.int k=>if 0≤k∧k < 1000000∧xs.length*k.toNat≤16777216 then .ok (.lst (List.replicate k.toNat xs).flatten) else .stuck
 | _,_=>.stuck
def dIx:D→D→R D
 | .tup xs,.int i=>match atI xs i with
  | some d=>.ok d
  | none=>.stuck
 | .lst xs,.int i=>match atI xs i with
  | some d=>.ok d
  | none=>.stuck
 | _,_=>.stuck
theorem Reps.at {K:PySem.W.Frag}{C:Nat→Addr}{Z:Hp}{ds:List D}{vs:List V}{i:Int}{d:D}(r:Reps K C Z ds vs)(h:atI ds i=some d):∃ v,atI vs i=some v∧Rep K C Z d v:=by
 unfold atI at h ⊢
 rw[← r.length]
 cases e:ixN ds.length i with
 | none=>rw[e]at h;cases h
 | some j =>
  rw[e]at h
  exact r.get h
theorem As {F:Fx}:OpD F (rIx F.K) dIx:=by
 intro H Z x y dx dy Q s rx ry w
 cases dx with
 | tup ds =>
  cases dy with
  | int i =>
   rw[Rep]at rx
   rw[Rep]at ry
   obtain⟨a,vs,rfl,h1,h2⟩:=rx
   subst ry
   unfold dIx at w
   dsimp only at w
   split at w
   ·rename_i d e
    obtain⟨v,e1,r⟩:=h2.at e
    exact .inr (.inl ⟨a,vs,i,v,rfl,rfl,h1.mono s,e1,WG.now w s v r⟩)
   ·exact w.elim
  | _=>exact w.elim
 | lst ds =>
  cases dy with
  | int i =>
   rw[Rep]at rx
   rw[Rep]at ry
   obtain⟨a,vs,rfl,h1,h2⟩:=rx
   subst ry
   unfold dIx at w
   dsimp only at w
   split at w
   ·rename_i d e
    obtain⟨v,e1,r⟩:=h2.at e
    exact .inl ⟨a,vs,i,v,rfl,rfl,s.seq h1,e1,WG.now w s v r⟩
   ·exact w.elim
  | _=>exact w.elim
 | _=>exact w.elim
section
open AutoSeq1 (wpAny_loadPart')
theorem oH (l b:Addr)(items items2:Array Value)(n n2:Nat)(dd dd2:Option Addr)(sl sl2:Array (Option Value))(hc0:items.isEmpty=true) :
  Meets (Builtin.«tuple.__add__» ⟨[.ref l,.ref b],[]⟩) (fun _ R s=>s.heap.get? l=some { cls:=.type "tuple",dict:=dd,data:=.seq items n,slots:=sl }∧s.heap.get? b=some { cls:=.type "tuple",dict:=dd2,data:=.seq items2 n2,slots:=sl2 }∧R (.ok (.ret (.ref b))) s) :=
 .of_wp fun prog w A R s h=>by
  obtain⟨hp,g,d,tk,os⟩:=s;obtain⟨hl,hb,h⟩:=h
  have f2:=AutoSeq1.sub_tuple_tuple
  have f3:=AutoSeq1.sub_list_list
  wp_walk using wpAny_loadPart' hl,wpAny_loadPart' hb
  exact⟨_,rfl,h⟩
end
theorem hU {K:PySem.W.Frag}{C:Nat→Addr}{Z:Hp}{ds:List D}{vs:List V}(r:Reps K C Z ds vs):∀ k:Nat,Reps K C Z (List.replicate k ds).flatten (List.replicate k vs).flatten
 | 0=>Reps.nil
 | k+1=>by
  rw[List.replicate_succ,List.replicate_succ,List.flatten_cons,List.flatten_cons]
  exact r.append (hU r k)
def rCat2 (K:PySem.W.Frag):R2:=fun x y H Q=>∃ a b xs ys,x=.ref a∧y=.ref b∧SqT K H a xs∧SqT K H b ys∧xs.length+ys.length≤sizeLine∧(∀ p,H p=none→Q (.ref p) (upd H p (.tup (xs++ys))))∧(ys=[]→Q (.ref a) H)∧(xs=[]→Q (.ref b) H)
theorem yy {X:Cx}:OpR X (binaryOp .Add) (rCat2 X.K):=by
 intro pins s σ H x y v u Q I rx ry h
 obtain⟨a,b,xs,ys,rfl,rfl,ha,hb,hz,q1,q2,q3⟩:=h
 by_cases hx:xs=[]
 ·cases rx
  cases ry
  obtain⟨its,r1,p1,_⟩:=I.tuple ha
  obtain⟨its2,r2,p2,_⟩:=I.tuple hb
  obtain⟨⟨cls,dd,data,sl⟩,ho,hc,n,hd⟩:=id p1
  obtain⟨⟨cls2,dd2,data2,sl2⟩,ho2,hc2,n2,hd2⟩:=id p2
  simp only at hc hd hc2 hd2
  subst hc hd hc2 hd2
  have he:its=[]:=by
   have:=r1.length
   rw[hx]at this
   exact List.length_eq_zero_iff.mp this.symm
  exact concat_meets ⟨_,ho,rfl⟩ ⟨_,ho2,rfl⟩ noFill_tuple_add seq_tuple_add PySem.F.slot_tuple_add PySem.F.entry_tuple_add (PySem.F.args_tuple_add_2 _ _)
   (oH a b its.toArray its2.toArray n n2 dd dd2 sl sl2 (by simp[he])) ⟨ho,ho2,⟨.ref b,H,I,rfl,q3 hx⟩⟩
 ·exact yo pins s σ H _ _ v u Q I rx ry ⟨a,b,xs,ys,rfl,rfl,ha,hb,hx,hz,q2,fun _=>q1⟩
theorem v4 {F:Fx}:OpD F (rCat2 F.K) dCatT:=by
 intro H Z x y dx dy Q s rx ry w
 cases dx with
 | tup ds =>
  cases dy with
  | tup es =>
   rw[Rep]at rx
   rw[Rep]at ry
   obtain⟨a,vs,rfl,h1,h2⟩:=rx
   obtain⟨b,us,rfl,k1,k2⟩:=ry
   unfold dCatT at w
   dsimp only at w
   split at w
   ·rename_i hl
    refine⟨a,b,vs,us,rfl,rfl,h1.mono s,k1.mono s,by rw[← h2.length,← k2.length,sizeLine_eq];exact hl,fun p hp=>?_,fun e=>?_,fun e=>?_⟩
    ·have z:Same Z (upd Z p (.tup (vs++us))):=aJ (s.free hp)
     exact w _ _ (Ex.alloc s hp) _ (by rw[Rep];exact⟨p,_,rfl,SqT.of ar,(h2.append k2).mono z⟩)
    ·have:es=[]:=List.length_eq_zero_iff.mp (by rw[k2.length,e];rfl)
     subst this
     exact WG.now w s _ (by rw[List.append_nil,Rep];exact⟨a,vs,rfl,h1,h2⟩)
    ·have:ds=[]:=List.length_eq_zero_iff.mp (by rw[h2.length,e];rfl)
     subst this
     exact WG.now w s _ (by rw[List.nil_append,Rep];exact⟨b,us,rfl,k1,k2⟩)
   ·exact w.elim
  | _=>exact w.elim
 | _=>exact w.elim
def rRepT (K:PySem.W.Frag):R2:=fun x y H Q=>∃ a k xs,x=.ref a∧y=.int k∧SqT K H a xs∧0≤k∧k < 1000000∧xs.length*k.toNat≤sizeLine∧(∀ p,H p=none→Q (.ref p) (upd H p (.tup (List.replicate k.toNat xs).flatten)))∧((List.replicate k.toNat xs).flatten=xs→Q (.ref a) H)
theorem yz {X:Cx}:OpR X (binaryOp .Mult) (rRepT X.K):=by
 intro pins s σ H x y v u Q I rx ry h
 obtain⟨a,k,xs,rfl,rfl,ha,h0,h1,hz,q1,q2⟩:=h
 cases rx
 obtain⟨t,rfl⟩:=ry
 obtain⟨its,r,p1,_⟩:=I.tuple ha
 have hl:=r.length
 obtain⟨⟨cls,dd,data,sl⟩,ho,hc,n,hd⟩:=id p1
 simp only at hc hd
 subst hc hd
 refine wpAny_binaryOp_repeat_ref (by decide) ⟨_,ho,rfl⟩ (fun s'=>typeIs_int s' k t) i3 PySem.F.fills_int_mul PySem.F.slot_int_rmul nD PySem.F.slot_int_index.lookup
  (call_meets PySem.F.slot_int_rmul (typeIs_int s k t) PySem.F.entry_int_rmul (PySem.F.args_int_rmul_2 _ _) (kA k t a its.toArray n dd sl) ⟨ho,rfl,⟨_,ho,rfl⟩,?_⟩)
 cases its with
 | nil =>
  have hx:xs=[]:=List.length_eq_zero_iff.mp hl
  have e:(List.replicate k.toNat xs).flatten=xs:=by rw[hx];simp
  exact call_meets PySem.F.slot_tuple_mul ⟨_,ho,rfl⟩ PySem.F.entry_tuple_mul (PySem.F.args_tuple_mul_2 _ _) (l8 a n k t dd sl h0 h1) ⟨ho,⟨.ref a,H,I,rfl,q2 e⟩⟩
 | cons it its' =>
  have hne:(it::its').toArray.isEmpty=false:=by simp
  by_cases k1:k=1
  ·subst k1
   have e:(List.replicate (1:Int).toNat xs).flatten=xs:=by simp
   exact call_meets PySem.F.slot_tuple_mul ⟨_,ho,rfl⟩ PySem.F.entry_tuple_mul (PySem.F.args_tuple_mul_2 _ _) (l7 a _ n t dd sl) ⟨ho,⟨.ref a,H,I,rfl,q2 e⟩⟩
  ·by_cases k0:k=0
   ·subst k0
    refine call_meets PySem.F.slot_tuple_mul ⟨_,ho,rfl⟩ PySem.F.entry_tuple_mul (PySem.F.args_tuple_mul_2 _ _) (kB a _ n t dd sl hne) ⟨ho,?_⟩
    refine⟨.ref s.heap.objs.size,_,I.laid (fun b ob q=>Heap.get?_push_of_some _ q) (Nat.le_refl _) ?_,rfl,q1 _ (I.hok.fresh (Nat.le_refl _))⟩
    exact⟨Nat.zero_le _,[],.nil,TupO.new _ _⟩
   ·refine call_meets PySem.F.slot_tuple_mul ⟨_,ho,rfl⟩ PySem.F.entry_tuple_mul (PySem.F.args_tuple_mul_2 _ _) (l6 a _ n k t dd sl (by omega) h1 (by rw[List.size_toArray,← hl];exact hz) hne) ⟨ho,?_⟩
    have ef:=iZ (it::its') k.toNat []
    rw[List.nil_append]at ef
    have ef':=ef
    rw[ef']
    refine⟨.ref s.heap.objs.size,_,I.laid (fun b ob q=>Heap.get?_push_of_some _ q) (Nat.le_refl _) ?_,rfl,q1 _ (I.hok.fresh (Nat.le_refl _))⟩
    exact⟨by rw[sB,Nat.mul_comm];exact hz,_,r.rep k.toNat,TupO.new _ _⟩
theorem v5 {F:Fx}:OpD F (rRepT F.K) dRepT:=by
 intro H Z x y dx dy Q s rx ry w
 cases dx with
 | tup ds =>
  cases dy with
  | int k =>
   rw[Rep]at rx
   rw[Rep]at ry
   obtain⟨a,vs,rfl,h1,h2⟩:=rx
   subst ry
   unfold dRepT at w
   dsimp only at w
   split at w
   ·rename_i hk
    refine⟨a,k,vs,rfl,rfl,h1.mono s,hk.1,hk.2.1,by rw[← h2.length,sizeLine_eq];exact hk.2.2,fun p hp=>?_,fun e=>?_⟩
    ·have z:Same Z (upd Z p (.tup (List.replicate k.toNat vs).flatten)):=aJ (s.free hp)
     exact w _ _ (Ex.alloc s hp) _ (by rw[Rep];exact⟨p,_,rfl,SqT.of ar,(hU h2 k.toNat).mono z⟩)
    ·refine WG.now w s _ ?_
     rw[Rep]
     exact⟨a,vs,rfl,h1,by have:=hU h2 k.toNat;rw[e]at this;exact this⟩
   ·exact w.elim
  | _=>exact w.elim
 | _=>exact w.elim
theorem v6 {F:Fx}:OpD F (fun x y H Q=>∃ a b xs ys,x=.ref a∧y=.ref b∧SqL F.K H a xs∧SqL F.K H b ys∧xs.length+ys.length≤sizeLine∧∀ p,H p=none→Q (.ref p) (upd H p (.lst (xs++ys)))) dCatL:=by
 intro H Z x y dx dy Q s rx ry w
 cases dx with
 | lst ds =>
  cases dy with
  | lst es =>
   rw[Rep]at rx
   rw[Rep]at ry
   obtain⟨a,vs,rfl,h1,h2⟩:=rx
   obtain⟨b,us,rfl,k1,k2⟩:=ry
   unfold dCatL at w
   dsimp only at w
   split at w
   ·rename_i hl
    refine⟨a,b,vs,us,rfl,rfl,s.seq h1,s.seq k1,by rw[← h2.length,← k2.length,sizeLine_eq];exact hl,fun p hp=>?_⟩
    have z:Same Z (upd Z p (.lst (vs++us))):=aJ (s.free hp)
    exact w _ _ (Ex.alloc s hp) _ (by rw[Rep];exact⟨p,_,rfl,SqL.of ar,(h2.append k2).mono z⟩)
   ·exact w.elim
  | _=>exact w.elim
 | _=>exact w.elim
theorem v7 {X:Cx}:OpR X (binaryOp .Add) (fun x y H Q=>∃ a b xs ys,x=.ref a∧y=.ref b∧SqL X.K H a xs∧SqL X.K H b ys∧xs.length+ys.length≤sizeLine∧∀ p,H p=none→Q (.ref p) (upd H p (.lst (xs++ys)))):=by
 intro pins s σ H x y v u Q I rx ry h
 obtain⟨a,b,xs,ys,rfl,rfl,ha,hb,hz,q⟩:=h
 cases rx
 cases ry
 obtain⟨its,r,⟨o,n,e,c1,c2,c3⟩,_⟩:=I.list ha
 obtain⟨its2,r2,⟨o2,n2,e2,d1,d2,d3⟩,_⟩:=I.list hb
 have l1:=r.length
 have l2:=r2.length
 obtain⟨cls,dd,data,sl⟩:=o
 obtain⟨cls2,dd2,data2,sl2⟩:=o2
 simp only at c1 c3 d1 d3
 subst c1 c3 d1 d3
 refine concat_meets ⟨_,e,rfl⟩ ⟨_,e2,rfl⟩ noFill_list_add seq_list_add PySem.F.slot_list_add PySem.F.entry_list_add (PySem.F.args_list_add_2 _ _) (uh a b its.toArray its2.toArray n n2 dd dd2 sl sl2 (by rw[List.size_toArray,List.size_toArray];omega)) ⟨e,e2,?_⟩
 have ea:its.toArray++its2.toArray=(its++its2).toArray:=by simp
 rw[ea]
 exact⟨.ref _,_,I.lnew (r.append r2) (by rw[List.length_append];omega),rfl,q _ I.fresh⟩
def rRepL (K:PySem.W.Frag):R2:=fun x y H Q=>∃ a k xs,x=.ref a∧y=.int k∧SqL K H a xs∧0≤k∧k < 1000000∧xs.length*k.toNat≤sizeLine∧∀ p,H p=none→Q (.ref p) (upd H p (.lst (List.replicate k.toNat xs).flatten))
theorem yA {X:Cx}:OpR X (binaryOp .Mult) (rRepL X.K):=by
 intro pins s σ H x y v u Q I rx ry h
 obtain⟨a,k,xs,rfl,rfl,ha,h0,h1,hz,q⟩:=h
 cases rx
 obtain⟨t,rfl⟩:=ry
 obtain⟨its,r,⟨o,n,e,c1,c2,c3⟩,_⟩:=I.list ha
 have hl:=r.length
 obtain⟨cls,dd,data,sl⟩:=o
 simp only at c1 c3
 subst c1 c3
 refine wpAny_binaryOp_repeat_ref (by decide) ⟨_,e,rfl⟩ (fun s'=>typeIs_int s' k t) noFill_list_mul PySem.F.fills_int_mul PySem.F.slot_int_rmul repeat_list PySem.F.slot_int_index.lookup
  (call_meets PySem.F.slot_int_rmul (typeIs_int s k t) PySem.F.entry_int_rmul (PySem.F.args_int_rmul_2 _ _) (l9 k t a its.toArray n dd sl) ⟨e,rfl,⟨_,e,rfl⟩,
   call_meets PySem.F.slot_list_mul ⟨_,e,rfl⟩ PySem.F.entry_list_mul (PySem.F.args_list_mul_2 _ _) (ui a its.toArray n k t dd sl (by omega) (by omega) (by rw[List.size_toArray,← hl];exact hz)) ⟨e,?_⟩⟩)
 have hnew:List.foldl (fun x1 x2=>x1++x2) #[] (List.replicate (if its.toArray.isEmpty=true then 0 else k.toNat) its.toArray)=(List.replicate k.toNat its).flatten.toArray:=by
  have f0:=fun m=>by
   have:=iZ its m []
   rwa [List.nil_append]at this
  rw[f0]
  cases its with
  | nil=>simp
  | cons a r'=>rw[if_neg (by simp)]
 rw[hnew]
 exact⟨.ref _,_,I.lnew (r.rep k.toNat) (by rw[sB,Nat.mul_comm];exact hz),rfl,q _ I.fresh⟩
theorem v8 {F:Fx}:OpD F (rRepL F.K) dRepL:=by
 intro H Z x y dx dy Q s rx ry w
 cases dx with
 | lst ds =>
  cases dy with
  | int k =>
   rw[Rep]at rx
   rw[Rep]at ry
   obtain⟨a,vs,rfl,h1,h2⟩:=rx
   subst ry
   unfold dRepL at w
   dsimp only at w
   split at w
   ·rename_i hk
    refine⟨a,k,vs,rfl,rfl,s.seq h1,hk.1,hk.2.1,by rw[← h2.length,sizeLine_eq];exact hk.2.2,fun p hp=>?_⟩
    have z:Same Z (upd Z p (.lst (List.replicate k.toNat vs).flatten)):=aJ (s.free hp)
    exact w _ _ (Ex.alloc s hp) _ (by rw[Rep];exact⟨p,_,rfl,SqL.of ar,(hU h2 k.toNat).mono z⟩)
   ·exact w.elim
  | _=>exact w.elim
 | _=>exact w.elim
mutual
def eqD:D→D→Bool
 | .non,.non=>true
 | .bl a,.bl b=>a==b
 | .bl a,.int b=>(if a then 1 else 0)==b
 | .int a,.bl b=>a==(if b then 1 else 0)
 | .int a,.int b=>a==b
 | .str a,.str b=>a==b
 | .tup xs,.tup ys=>eqDs xs ys
 | .lst xs,.lst ys=>eqDs xs ys
 | _,_=>false
def eqDs:List D→List D→Bool
 | [],[]=>true
 | x::xs,y::ys=>eqD x y&&eqDs xs ys
 | _,_=>false
end
mutual
def good:Nat→D→Bool
 | _,.exc _=>false
 | _,.fn _=>false
 | _,.tab _ _=>false
 | _,.dic _ _=>false
 | _,.ptr _=>false
 | 0,.tup _=>false
 | 0,.lst _=>false
 | n+1,.tup xs=>goods n xs
 | n+1,.lst xs=>goods n xs
 | _,_=>true
def goods:Nat→List D→Bool
 | _,[]=>true
 | n,x::xs=>good n x&&goods n xs
end
def relabN (names:List (Str×NameKind))(env:Env):List (Str×NameKind) :=
 names.map fun (n,k)=>if (k==.free&&env.scope.kind==.function&&env.kindOf n==some .cell) then (n,.cell) else (n,k)
theorem kE {env:Env}:∀ {names:List (Str×NameKind)} {x:Str},names.lookup x=some .free→(relabN names env).lookup x=some .cell∨(relabN names env).lookup x=some .free
 | [],_,h=>by simp at h
 | (n,k)::r,x,h=>by
  have ih:=@kE env r x
  show List.lookup x ((if (k==NameKind.free&&env.scope.kind==.function&&env.kindOf n==some .cell)=true then (n,NameKind.cell) else (n,k))::relabN r env)=_∨List.lookup x ((if (k==NameKind.free&&env.scope.kind==.function&&env.kindOf n==some .cell)=true then (n,NameKind.cell) else (n,k))::relabN r env)=_
  cases hx:x==n with
  | true =>
   simp only[List.lookup_cons,hx]at h
   cases h
   split
   ·exact .inl (by simp[List.lookup_cons,hx])
   ·exact .inr (by simp[List.lookup_cons,hx])
  | false =>
   simp only[List.lookup_cons,hx]at h
   split<;>(simp only[List.lookup_cons,hx];exact ih h)
theorem kF {env:Env}:∀ {names:List (Str×NameKind)} {x:Str},((relabN names env).lookup x=some .cell∨(relabN names env).lookup x=some .free)→∃ y∈names,y.1=x∧(y.2=.free∨y.2=.cell)
 | [],_,h=>by simp[relabN]at h
 | (n,k)::r,x,h=>by
  have ih:=@kF env r x
  change List.lookup x ((if (k==NameKind.free&&env.scope.kind==.function&&env.kindOf n==some .cell)=true then (n,NameKind.cell) else (n,k))::relabN r env)=_∨List.lookup x ((if (k==NameKind.free&&env.scope.kind==.function&&env.kindOf n==some .cell)=true then (n,NameKind.cell) else (n,k))::relabN r env)=_ at h
  cases hx:x==n with
  | true =>
   have e:x=n:=eq_of_beq hx
   refine⟨(n,k),List.mem_cons_self,e.symm,?_⟩
   by_cases hq:(k==NameKind.free&&env.scope.kind==.function&&env.kindOf n==some .cell)=true
   ·simp only[Bool.and_eq_true,beq_iff_eq]at hq
    exact .inl hq.1.1
   ·rw[if_neg hq]at h
    simp only[List.lookup_cons,hx]at h
    rcases h with h | h
    ·cases h;exact .inr rfl
    ·cases h;exact .inl rfl
  | false =>
   have h':(relabN r env).lookup x=some .cell∨(relabN r env).lookup x=some .free:=by
    by_cases hq:(k==NameKind.free&&env.scope.kind==.function&&env.kindOf n==some .cell)=true
    ·rw[if_pos hq]at h;simpa only[List.lookup_cons,hx] using h
    ·rw[if_neg hq]at h;simpa only[List.lookup_cons,hx] using h
   obtain⟨y,hy,e⟩:=ih h'
   exact⟨y,List.mem_cons_of_mem _ hy,e⟩
theorem bf:∀ (names:List (Str×NameKind)) (n:Nat) (acc:List (Str×Addr)),cellsFrom n names acc=cellsFrom n names []++acc
 | [],_,_=>rfl
 | (name,kind)::r,n,acc=>by
  unfold cellsFrom
  split
  ·rw[bf r (n+1) ((name,n)::acc),bf r (n+1) [(name,n)],List.append_assoc];rfl
  ·exact bf r n acc
theorem i4:∀ (names:List (Str×NameKind)) (n:Nat) {x:Str} {c:Addr},(x,c)∈cellsFrom n names []→(x,NameKind.cell)∈names
 | [],_,_,_,h=>nomatch h
 | (name,kind)::r,n,x,c,h=>by
  unfold cellsFrom at h
  split at h
  ·rename_i hk
   rw[bf]at h
   rcases List.mem_append.mp h with h | h
   ·exact List.mem_cons_of_mem _ (i4 r _ h)
   ·rw[List.mem_singleton]at h
    cases h
    rw[eq_of_beq hk];exact List.mem_cons_self
  ·exact List.mem_cons_of_mem _ (i4 r _ h)
theorem i5:∀ (names:List (Str×NameKind)) (n:Nat) {x:Str},(x,NameKind.cell)∈names→∃ c,(cellsFrom n names []).lookup x=some c
 | [],_,_,h=>nomatch h
 | (name,kind)::r,n,x,h=>by
  by_cases hr:(x,NameKind.cell)∈r
  ·unfold cellsFrom
   split
   ·obtain⟨c,hc⟩:=i5 r (n+1) hr
    rw[bf,List.lookup_append,hc];exact⟨c,rfl⟩
   ·exact i5 r n hr
  ·rcases List.mem_cons.mp h with e | e
   ·cases e
    unfold cellsFrom
    rw[if_pos (by rfl),bf,List.lookup_append]
    cases (cellsFrom (n+1) r []).lookup name with
    | some c=>exact⟨c,rfl⟩
    | none=>exact⟨n,by simp[List.lookup_cons]⟩
   ·exact absurd e hr
structure CellsB (scope:Scope)(cl cl2:List (Str×Addr))(C:Addr)(h:Heap):Prop where
 old:∀ n c,cl2.lookup n=some c→(cl.lookup n=some c∧(n,NameKind.cell)∉scope.names)∨(C < c∧h.IsCell c none∧(n,NameKind.cell)∈scope.names)
 keep:∀ n,(n,NameKind.cell)∉scope.names→cl2.lookup n=cl.lookup n
 mine:∀ n,(n,NameKind.cell)∈scope.names→∃ c,cl2.lookup n=some c
 inj:∀ x y c,C < c→cl2.lookup x=some c→cl2.lookup y=some c→(x,NameKind.cell)∈scope.names→(y,NameKind.cell)∈scope.names→x=y
section
variable {M:Model}{A:Around}{E:Value→Shared→Prop}{s:Shared}
theorem nF {scope:Scope}{globals:Addr}{cl:List (Str×Addr)}{qual:Str}{env:Env}{Q:Env→Shared→Prop}
  (hQ:∀ h' cl2,h'.Ns s.heap.objs.size (fun _=>none)→(∀ b o,s.heap.get? b=some o→h'.get? b=some o)→CellsB scope cl cl2 s.heap.objs.size h'→Q (newEnv scope s.heap.objs.size globals cl2 qual none .none (some env) builtinsNs) { s with heap:=h' }) :
  wpAny M A (newFunctionEnv scope globals cl [] qual none .none (some env)) Q E s:=by
 simp only[newFunctionEnv,Option.isSome_some,if_true]
 refine wpAny_bind (wpAny_alloc ?_)
 refine wpAny_bind (wpAny_layCells _ (fun name kind cells=>by cases hkc:kind==NameKind.cell<;>simp[hkc]) _ _ _ _ ?_)
 have ok:=cellsFrom_ok scope.names (s.heap.push { cls:=.type "dict",data:=.dict #[] }) (s.heap.objs.size+1) [] ⟨fun _ _ hm=>(nomatch hm),List.Pairwise.nil⟩ (by simp)
 rw[Heap.size_push]at ok
 rw[show ({ s with heap:=s.heap.push { cls:=.type "dict",data:=.dict #[] } }:Shared).heap.objs.size=s.heap.objs.size+1 from Heap.size_push ..]
 simp
 refine wpAny_bind (wpAny_pure (wpAny_pure ?_))
 refine hQ _ _ ((Heap.Ns.new s.heap (.type "dict")).keeps (pushCells_keeps _ _)) (fun b o e=>pushCells_keeps _ _ b o (Heap.get?_push_of_some _ e)) ?_
 have look:∀ n,(cellsFrom (s.heap.objs.size+1) scope.names cl).lookup n=((cellsFrom (s.heap.objs.size+1) scope.names []).lookup n).or (cl.lookup n):=fun n=>by rw[bf,List.lookup_append]
 have no:∀ n,(n,NameKind.cell)∉scope.names→(cellsFrom (s.heap.objs.size+1) scope.names []).lookup n=none:=fun n hn=>by
  cases e:(cellsFrom (s.heap.objs.size+1) scope.names []).lookup n with
  | none=>rfl
  | some c=>exact absurd (i4 _ _ (PySem.mem_of_lookup e)) hn
 have keep:∀ n,(n,NameKind.cell)∉scope.names→(cellsFrom (s.heap.objs.size+1) scope.names cl).lookup n=cl.lookup n:=fun n hn=>by rw[look,no n hn];rfl
 have new:∀ n,(n,NameKind.cell)∈scope.names→∃ c,(cellsFrom (s.heap.objs.size+1) scope.names []).lookup n=some c∧(cellsFrom (s.heap.objs.size+1) scope.names cl).lookup n=some c:=fun n hn=>by
  obtain⟨c,hc⟩:=i5 scope.names (s.heap.objs.size+1) hn
  grind
 refine⟨fun n c e=>?_,keep,fun n hn=>?_,fun x y c _ ex ey hx hy=>?_⟩
 ·by_cases hn:(n,NameKind.cell)∈scope.names
  ·obtain⟨c',h1,h2⟩:=new n hn
   rw[e]at h2;cases h2
   have:=ok.empty n c (PySem.mem_of_lookup h1)
   grind
  ·grind
 ·grind
 ·obtain⟨c1,h1,h2⟩:=new x hx
  obtain⟨c2,h3,h4⟩:=new y hy
  rw[ex]at h2;cases h2
  rw[ey]at h4;cases h4
  exact name_of_addr ok.apart (PySem.mem_of_lookup h1) (PySem.mem_of_lookup h3)
end
theorem fu {names:List (Str×NameKind)}{x:Str}{k:NameKind}(h:names.lookup x=some k):(x,k)∈names:=PySem.mem_of_lookup h
def blk (X:Cx)(scope:Scope)(cl:List (Str×Addr))(C:Addr)(s:Shared)(H:Hp)(fp:List Addr)(N:List Str):Cx where
 prog:=X.prog
 w:=X.w
 K:=X.K
 mg:=X.mg
 base:=X.base
 A:=X.A
 N:=N
 s₀:=s
 H₀:=H
 env:=compEnvC scope cl C X.env
 outer:=X.stack
 stack:=X.stack
 ex:=fp
 fn:=fun x=>scope.names.lookup x==some .cell
 calm:=true
 pn:=[]
 xe:=fun _ _=>False
def startB (own:Nat)(cap:List Nat)(σ:St):St:=List.replicate own none++cap.map fun i=>(σ[i]?).getD none
structure BlkOk (XN:List Str)(osc scope:Scope)(N:List Str)(own:Nat)(cap:List Nat):Prop where
 kind:scope.kind=.function
 ncell:∀ y∈scope.names,y.2=.cell→scope.names.lookup y.1=some .cell
 nfree:∀ y∈scope.names,y.2=.free→scope.names.lookup y.1=some .free
 nloc:∀ y∈scope.names,y.2=.local→scope.names.lookup y.1=some .local
 free:∀ y∈scope.names,y.2=.free→osc.names.lookup y.1=some .cell∨osc.names.lookup y.1=some .free
 len:N.length=own+cap.length
 capN:∀ j i,cap[j]?=some i→∃ x,N[own+j]?=some x∧XN[i]?=some x∧scope.names.lookup x=some .free
section
variable {X:Cx}{pins:List (Addr×Obj)}{σ:St}{H:Hp}{s:Shared}{scope:Scope}{N:List Str}{own:Nat}{cap:List Nat}{cl:List (Str×Addr)}{fp:List Addr}
theorem yB {cl2:List (Str×Addr)}(b:BlkOk X.N X.env.scope scope N own cap)(hc:X.calm=true)(I:Inv X pins σ H s)(hf:∀ b∈fp,FpOk X pins H b)(hfo:∀ b∈fp,b < s.heap.objs.size)(c1:∀ n c,cl.lookup n=some c→X.env.cells.lookup n=some c)
  (c2:∀ y∈scope.names,y.2=.free→∃ c,cl.lookup y.1=some c) {h':Heap} {t':Nat} {m:Str→Option Value} (hns:h'.Ns s.heap.objs.size m) (hk:∀ b o,s.heap.get? b=some o→h'.get? b=some o) (cb:CellsB scope cl cl2 s.heap.objs.size h') :
  Inv (blk X scope cl2 s.heap.objs.size s H fp N) [] (startB own cap σ) H { s with heap:=h',toks:=t' }:=by
 have hC:=I.hok.fresh (Nat.le_refl _)
 have lt:∀ n c,cl.lookup n=some c→c < s.heap.objs.size:=fun n c e=>by obtain⟨v,hv⟩:=I.cell n c (c1 n c e);exact hv.lt
 have inj:∀ x y c,cl2.lookup x=some c→cl2.lookup y=some c→x=y:=fun x y c h1 h2=>by
  rcases cb.old x c h1 with ⟨a1,_⟩ | ⟨a1,_,a2⟩<;>rcases cb.old y c h2 with ⟨b1,_⟩ | ⟨b1,_,b2⟩
  ·exact I.ok.inj x y c (c1 x c a1) (c1 y c b1)
  ·exact absurd (lt x c a1) (Nat.lt_asymm b1)
  ·exact absurd (lt y c b1) (Nat.lt_asymm a1)
  ·exact cb.inj x y c a1 h1 h2 a2 b2
 refine⟨⟨I.ok.mod,b.kind,I.ok.glob,I.ok.blt,Nat.le_refl _,inj,fun x hx=>?_,fun x c hx e=>?_,fun _=>I.ok.hd hc,I.ok.frames,.inl rfl,fun b' hb=>?_,I.bs,Nat.le_trans I.ok.bsz I.sz,fun b' o e hb=>?_,fun b' hb hm=>?_,I.stack,I.stkFree⟩,rfl,I.bare,Un.kept hk,⟨m,hns,fun i x v h1 h2 h3=>?_⟩,fun x c e=>?_,hC,fun x c e=>?_,fun p hp=>(nomatch hp),I.hok.kept hk,?_⟩
 ·obtain⟨y,hy,e1,e2⟩:=kF hx
  rcases e2 with e2 | e2
  ·obtain⟨c,e⟩:=c2 y hy e2
   have hn:(y.1,NameKind.cell)∉scope.names:=fun z=>by
    have q1:=b.nfree y hy e2
    have q2:=b.ncell _ z rfl
    rw[q1]at q2;cases q2
   exact⟨c,by rw[← e1];show cl2.lookup y.1=some c;rw[cb.keep _ hn];exact e⟩
  ·obtain⟨c,e⟩:=cb.mine y.1 (by rw[← e2];exact hy)
   exact⟨c,by rw[← e1];exact e⟩
 ·rcases cb.old x c e with ⟨a1,a2⟩ | ⟨a1,_,_⟩
  ·have hx':=hx
   exact absurd (fu (eq_of_beq hx')) a2
  ·exact Nat.le_of_lt a1
 ·refine⟨Nat.ne_of_lt (hfo b' hb),fun x c e=>?_⟩
  rcases cb.old x c e with ⟨a1,_⟩ | ⟨a1,_,_⟩
  ·exact(hf b' hb).2.2.2.2.1 x c (c1 x c a1)
  ·exact fun z=>Nat.lt_asymm a1 (z ▸ hfo b' hb)
 ·rcases(hf b' hb).2.2.2.1 with z | z
  ·exact I.ok.noex b' o e z
  ·have:=Heap.lt_size (I.ok.bs b' o e).1
   exact absurd (Nat.lt_of_lt_of_le this z) (Nat.lt_irrefl _)
 ·rcases List.mem_cons.mp (I.stkSub b' hm) with z | z
  ·exact(hf b' hb).2.1 z
  ·exact(hf b' hb).2.2.1 z
 ·
  unfold startB at h2
  by_cases hi:i < own
  ·rw[List.getElem?_append_left (by simpa using hi),List.getElem?_replicate]at h2
   split at h2<;>cases h2
  ·rw[List.getElem?_append_right (by simpa using hi),List.length_replicate,List.getElem?_map]at h2
   cases e:cap[i - own]? with
   | none=>rw[e]at h2;cases h2
   | some k =>
    rw[e]at h2
    obtain⟨x',f1,f2,f3⟩:=b.capN _ _ e
    rw[show own+(i - own)=i by omega]at f1
    have h1':N[i]?=some x:=h1
    rw[h1']at f1;cases f1
    have h2':σ[k]?=some (some v):=by
     cases q:σ[k]? with
     | none=>simp only[Option.map_some,q,Option.getD_none,Option.some.injEq]at h2;cases h2
     | some o=>simp only[Option.map_some,q,Option.getD_some,Option.some.injEq]at h2;rw[h2]
    obtain⟨m0,_,hl⟩:=I.loc
    have kf:=b.free (x,.free) (fu f3) rfl
    obtain⟨u,r,l⟩:=hl k x v f2 h2' (kf.elim (fun z=>.inr (.inl z)) fun z=>.inr (.inr z))
    refine⟨u,r,?_⟩
    rcases l with ⟨z,_⟩ | ⟨_,c,e1,e2⟩
    ·have z':X.env.scope.names.lookup x=some .local:=z
     rcases kf with y | y
     ·have y':=y
      rw[z']at y';cases y'
     ·have y':=y
      rw[z']at y';cases y'
    ·obtain⟨c',g1⟩:=c2 (x,.free) (fu f3) rfl
     have g2:=c1 x c' g1
     rw[e1]at g2;cases g2
     have hn:(x,NameKind.cell)∉scope.names:=fun z=>by
      have q2:=b.ncell _ z rfl
      have q2':=q2
      rw[f3]at q2';cases q2'
     exact .inr ⟨kE f3,c,by show cl2.lookup x=some c;rw[cb.keep _ hn];exact g1,by obtain⟨o,ho,hd⟩:=e2;exact⟨o,hk _ _ ho,hd⟩⟩
 ·rcases cb.old x c e with ⟨a1,_⟩ | ⟨_,a2,_⟩
  ·obtain⟨v,o,ho,hd⟩:=I.cell x c (c1 x c a1)
   exact⟨v,o,hk _ _ ho,hd⟩
  ·exact⟨none,a2⟩
 ·rcases cb.old x c e with ⟨a1,_⟩ | ⟨a1,_,_⟩
  ·exact I.freeC x c (c1 x c a1)
  ·exact I.hok.fresh (Nat.le_of_lt a1)
 ·unfold startB
  show _=N.length
  rw[List.length_append,List.length_replicate,List.length_map,b.len]
theorem v9 {s3 s':Shared}{H3 H':Hp}{σ':St}{pl:List (Addr×Obj)}{D C:Addr}(I:Inv X pins σ H s)(hf:∀ b∈fp,FpOk X pins H b)(hD:D=s.heap.objs.size)(h3:s3={ s with heap:=s.heap.push { cls:=.type "list",data:=.seq #[] } })(hH:H3=upd H D (.lst []))(hC:C=s3.heap.objs.size)
  (J:Inv (blk X scope cl C s3 H3 fp N) pl σ' H' s'):Inv X pins σ H' s'∧FpOk X pins H' C∧∃ m,s'.heap.Ns C m:=by
 subst h3
 have hs:s.heap.objs.size≤C:=by rw[hC];rw[Heap.size_push];exact Nat.le_succ _
 have u1:Un (frs X.stack) fp H H3 s.heap (s.heap.push { cls:=.type "list",data:=.seq #[] }):=by
  rw[hH,hD]
  exact Un.laid (fun b u e=>Heap.get?_push_of_some _ e) (Nat.le_refl _) (I.hok.fresh (Nat.le_refl _))
 have u2:=J.base
 have os:=J.os
 refine⟨I.call' os (u1.trans u2) J.hok J.bare fun b hb=>?_,I.fpOk hs J.free,?_⟩
 ·obtain⟨_,f1,f2,f3,f4,f5⟩:=hf b hb
  exact⟨f3,f1,f4,f5⟩
 ·obtain⟨m,hn,_⟩:=J.loc
  exact⟨m,hn⟩
end
def tTests (ifs:List Expr)(t:TT):TT:=match ifs with
 | []=>fun _ H Q=>Q true H
 | _::_=>t
theorem qY {ifs:List Expr}{t:TT}{σ:St}{H:Hp}{Q:Bool→Hp→Prop}(e:ifs=[])(h:tTests ifs t σ H Q):Q true H:=by subst e;exact h
theorem qZ {ifs:List Expr}{t:TT}{σ:St}{H:Hp}{Q:Bool→Hp→Prop}{c:Expr}(e:ifs=[c])(h:tTests ifs t σ H Q):t σ H Q:=by subst e;exact h
theorem ul {M:Model}{A:Around}{ifs:List Expr}{env:Env}{Q:Bool→Shared→Prop}{E:Value→Shared→Prop}{s:Shared}(hifs:ifs.length≤1)(h0:ifs=[]→Q true s)(h1:∀ c,ifs=[c]→wpAny M A (isTrue c env (eval c env)) Q E s):wpAny M A (tests ifs env) Q E s:=by
 match ifs,hifs,h0,h1 with
 | [],_,h0,_=>exact wpAny_pure (h0 rfl)
 | [c],_,_,h1=>exact h1 c rfl
def BlkW (sz:Nat)(J:It)(g:TG)(tc:TT)(te:TE)(D:Addr)(Fin:Hp→List V→Prop)(W:Nat→Nat→St→Hp→List V→Prop):Prop :=
 ∀ i m σ H ys,W i m σ H ys→H D=some (.lst ys)∧((J.stop i H∧Fin H ys)∨(J.go i H∧∀ x H',J.yld i H x H'→g x σ H' fun σ2 H2=>tc σ2 H2 fun ok H3 =>
  if ok=true then te σ2 H3 fun y H4=>H4 D=some (.lst ys)∧ys.length < sz∧∃ m',m' < m∧W (i+1) m' σ2 (upd H4 D (.lst (ys++[y]))) (ys++[y])
  else ∃ m',m' < m∧W (i+1) m' σ2 H3 ys))
section
variable {X:Cx}{elt tg iter:Expr}{ifs:List Expr}{scope:Scope}{N:List Str}{own:Nat}{cap:List Nat}{pos:Pos}{wi:TI}{g:TG}{tc:TT}{te:TE}
set_option maxHeartbeats 4000000 in
theorem oI {pins:List (Addr×Obj)}{σ:St}{H:Hp}{s:Shared}{it:Addr}{fp:List Addr}{tn:Nat→Heap→Prop}{J:It}{cl:List (Str×Addr)}{E:Value→Shared→Prop}{RR:Value→Addr→Result→Shared→Prop}{Fin:Addr→Hp→List V→Prop}
  (b:BlkOk X.N X.env.scope scope N own cap) (hc:X.calm=true) (hifs:ifs.length≤1)
  (hg:∀ cl C s H fp,PG (blk X scope cl C s H fp N) tg g) (ht:∀ c,ifs=[c]→∀ cl C s H fp,PT (blk X scope cl C s H fp N) c tc) (he:∀ cl C s H fp,PE (blk X scope cl C s H fp N) elt te)
  (hclos:closureFor scope X.env=pure cl) (c1:∀ n c,cl.lookup n=some c→X.env.cells.lookup n=some c) (c2:∀ y∈scope.names,y.2=.free→∃ c,cl.lookup y.1=some c)
  (I:Inv X pins σ H s) (T:Turn X.prog X.w X.K tg J fp it tn) (st:tn 0 s.heap) (hf:∀ b∈fp,FpOk X pins H b)
  (hW:∀ D,H D=none→∃ W,BlkW sizeLine J g (tTests ifs tc) te D (Fin D) W∧∃ m,W 0 m (startB own cap σ) (upd H D (.lst [])) [])
  (fin:∀ D C s' H' ys,Inv X pins σ H' s'→FpOk X pins H' C→(∃ m,s'.heap.Ns C m)→H' D=some (.lst ys)→Fin D H' ys→RR (.ref D) C (.ok .next) s') :
  wpAny (model X.prog X.w) X.A (newList []) (fun acc s3=>wpAny (model X.prog X.w) X.A (newFunctionEnv scope X.env.globals cl [] X.env.qual none .none (some X.env)) (fun cenv s4 =>
   codeAny (model X.prog X.w) X.A (.compStart (.ListComp elt [⟨tg,iter,ifs,0⟩] scope pos) 0 (.ref it) acc { cenv with scope:=relabel scope X.env }) (RR acc cenv.locals) s4) E s3) E s:=by
 have hfo:∀ b∈fp,b < s.heap.objs.size:=fun b hb=>by
  obtain⟨o,e,_⟩:=T.obj 0 _ st b hb
  exact Heap.lt_size e
 have hD:=I.hok.fresh (Nat.le_refl _)
 obtain⟨W,hturn,m0,w0⟩:=hW _ hD
 refine wpAny_newObj_type (nF fun h1 cl2 hns kk cb=>?_)
 have I3:=I.lnew (t':=s.toks) (its:=[]) .nil (Nat.zero_le _)
 have hfp3:∀ b∈fp,FpOk X pins (upd H s.heap.objs.size (.lst [])) b:=fun b hb=>⟨by rw[ak (Nat.ne_of_lt (hfo b hb))];exact(hf b hb).1,(hf b hb).2⟩
 have st1:tn 0 h1:=T.keep 0 _ _ st fun b hb o e=>kk b o (Heap.get?_push_of_some _ e)
 generalize hX:blk X scope cl2 (s.heap.push { cls:=.type "list",data:=.seq #[] }).objs.size { s with heap:=s.heap.push { cls:=.type "list",data:=.seq #[] } } (upd H s.heap.objs.size (.lst [])) fp N=X'
 have I4:Inv X' [] (startB own cap σ) (upd H s.heap.objs.size (.lst [])) { s with heap:=h1 }:=by
  rw[← hX]
  exact yB b hc I3 hfp3 (fun b hb=>Nat.lt_of_lt_of_le (hfo b hb) (by rw[Heap.size_push];exact Nat.le_succ _)) c1 c2 hns kk cb
 have eP:X'.prog=X.prog:=by rw[← hX];rfl
 have ew:X'.w=X.w:=by rw[← hX];rfl
 have eK:X'.K=X.K:=by rw[← hX];rfl
 have eA:X'.A=X.A:=by rw[← hX];rfl
 have ec:X'.calm=true:=by rw[← hX];rfl
 have ee:X'.env=compEnvC scope cl2 (s.heap.push { cls:=.type "list",data:=.seq #[] }).objs.size X.env:=by rw[← hX];rfl
 have ex:X'.xe=fun _ _=>False:=by rw[← hX];rfl
 have epn:X'.pn=[]:=by rw[← hX];rfl
 have eex:X'.ex=fp:=by rw[← hX];rfl
 have pg:PG X' tg g:=by rw[← hX];exact hg _ _ _ _ _
 have pe:PE X' elt te:=by rw[← hX];exact he _ _ _ _ _
 have pt:∀ c,ifs=[c]→PT X' c tc:=fun c q=>by rw[← hX];exact ht c q _ _ _ _ _
 have fpB:∀ {H':Hp},(∀ b∈fp,H' b=none)→∀ {s'':Shared} {σ':St},Inv X' [] σ' H' s''→∀ b∈fp,FpOk X' [] H' b:=fun {H'} hn {s'' σ'} Iv b hb =>
  ⟨hn b hb,(Iv.ok.exf b (by rw[eex];exact hb)).1,Iv.ok.exfs b (by rw[eex];exact hb),.inl (by rw[eex];exact hb),(Iv.ok.exf b (by rw[eex];exact hb)).2,fun p hp=>by rw[epn]at hp;exact(nomatch hp)⟩
 have loop:codeAny (model X.prog X.w) X.A (.compLoop (.ListComp elt [⟨tg,iter,ifs,0⟩] scope pos) 0 (.ref it) (.ref s.heap.objs.size) (compEnvC scope cl2 (s.heap.push { cls:=.type "list",data:=.seq #[] }).objs.size X.env))
   (RR (.ref s.heap.objs.size) (s.heap.push { cls:=.type "list",data:=.seq #[] }).objs.size) { s with heap:=h1 }:=by
  refine ug hifs (fun n s'=>∃ i σ' H' ys,Inv X' [] σ' H' s'∧tn i s'.heap∧(∀ b∈fp,H' b=none)∧W i n σ' H' ys) (fun n s5 ⟨i,σ5,H5,ys,I5,st5,fr5,w5⟩=>?_) m0
   ⟨0,startB own cap σ,_,[],I4,st1,fun b hb=>(hfp3 b hb).1,w0⟩
  obtain⟨hDy,hgo⟩:=hturn i n σ5 H5 ys w5
  have hs5:=fpB fr5 I5
  rcases hgo with ⟨stop,hfin⟩ | ⟨go,step⟩
  ·have q:=T.done X' eP ew eK ec i [] s5 σ5 H5 (fun _ _=>False) I5 hs5 st5 stop
   rw[eA]at q
   refine wpAny_mono q (fun r s6 ⟨hr,I6⟩=>?_) fun _ _ z=>z
   subst hr
   rw[← hX]at I6
   obtain⟨J1,J2,J3⟩:=v9 I hf rfl rfl rfl rfl I6
   exact fin _ _ s6 H5 ys J1 J2 J3 hDy hfin
  ·have q:=T.item X' eP ew eK ec i [] s5 σ5 H5 (fun _ _=>False) I5 hs5 st5 go
   rw[eA]at q
   refine wpAny_mono q (fun r s6 ⟨u,hr,h6⟩=>?_) fun _ _ z=>z
   subst hr
   refine wpAny_mono h6 (fun _ s7 ⟨x,H7,I7,r7,y7,st7,fr7⟩=>?_) fun _ _ z=>z
   have I7':=I7.pinned (fpB fr7 I7) (T.obj _ _ st7)
   rw[List.nil_append]at I7'
   have qg:=pg _ s7 σ5 H7 x u _ I7' r7 (step x H7 y7)
   rw[eP,ew,eA,ee,ex]at qg
   refine wpAny_mono qg (fun _ s8 ⟨σ8,H8,I8,q8⟩=>?_) fun _ _ z=>z
   have again:∀ {s9:Shared} {H9:Hp} {zs:List V},Inv X' (pinsAt fp s7.heap) σ8 H9 s9→(∃ m',m' < n∧W (i+1) m' σ8 H9 zs) →
     ∃ m,m < n∧∃ i σ' H' ys,Inv X' [] σ' H' s9∧tn i s9.heap∧(∀ b∈fp,H' b=none)∧W i m σ' H' ys:=fun {s9 H9 zs} I9 ⟨m',hm,w9⟩=>by
    have I9':Inv X' ([]++pinsAt fp s7.heap) σ8 H9 s9:=by rw[List.nil_append];exact I9
    refine⟨m',hm,i+1,σ8,H9,zs,I9'.unpinned,T.keep _ _ _ st7 fun b hb o e=>(I9.pin (b,o) (List.mem_append_right _ (d9 hb e))).1,fun b hb=>?_,w9⟩
    obtain⟨o,e,d⟩:=T.obj _ _ st7 b hb
    exact(I9.pin (b,o) (List.mem_append_right _ (d9 hb e))).2.1
   have body:∀ (ok:Bool) (s9:Shared),(∃ H9,Inv X' (pinsAt fp s7.heap) σ8 H9 s9∧(if ok=true then te σ8 H9 fun y H4=>H4 s.heap.objs.size=some (.lst ys)∧ys.length < sizeLine∧∃ m',m' < n∧W (i+1) m' σ8 (upd H4 s.heap.objs.size (.lst (ys++[y]))) (ys++[y]) else ∃ m',m' < n∧W (i+1) m' σ8 H9 ys)) →
     if ok=true then wpAny (model X.prog X.w) X.A (eval elt (compEnvC scope cl2 (s.heap.push { cls:=.type "list",data:=.seq #[] }).objs.size X.env)) (fun x s5=>wpAny (model X.prog X.w) X.A (call (.builtin "list.append") [.ref s.heap.objs.size,x]) (fun _ s6=>∃ m,m < n∧∃ i σ' H' ys,Inv X' [] σ' H' s6∧tn i s6.heap∧(∀ b∈fp,H' b=none)∧W i m σ' H' ys) (fun _ _=>False) s5) (fun _ _=>False) s9
     else ∃ m,m < n∧∃ i σ' H' ys,Inv X' [] σ' H' s9∧tn i s9.heap∧(∀ b∈fp,H' b=none)∧W i m σ' H' ys:=by
    intro ok s9 ⟨H9,I9,h9⟩
    cases ok with
    | false=>exact again I9 h9
    | true =>
     have qe:=pe _ s9 σ8 H9 _ I9 h9
     rw[eP,ew,eA,ee,ex]at qe
     refine wpAny_mono qe (fun u s10 ⟨y,H10,I10,r10,hD10,hlt,m',hm,w10⟩=>?_) fun _ _ z=>z
     have qa:=mV (X:=X') (pinsAt fp s7.heap) s10 σ8 H10 (.ref s.heap.objs.size) [y] (.ref s.heap.objs.size) [u] (fun _ H11=>H11=upd H10 s.heap.objs.size (.lst (ys++[y]))) I10 rfl (.cons r10 .nil)
      ⟨s.heap.objs.size,ys,y,rfl,rfl,hD10,hlt,rfl⟩
     rw[eP,ew,eA,ex]at qa
     refine wpAny_mono qa (fun _ s11 ⟨_,H11,I11,_,e11⟩=>?_) fun _ _ z=>z
     subst e11
     exact again I11 ⟨m',hm,w10⟩
   refine ul hifs (fun q=>body true s8 ⟨H8,I8,qY q q8⟩) fun c q=>?_
   have qt:=pt c q _ s8 σ8 H8 _ I8 (qZ q q8)
   rw[eP,ew,eA,ee,ex]at qt
   exact wpAny_mono qt (fun ok s9 ⟨H9,I9,h9⟩=>body ok s9 ⟨H9,I9,h9⟩) fun _ _ z=>z
 exact codeAny_compStart_list loop (T.self _ 0 _ _ _ st1 loop)
def tComp (own:Nat)(cap:List Nat)(wi:TI)(g:TG)(tc:TT)(te:TE):TE:=fun σ H Q=>wi σ H fun J H1=>∀ D,H1 D=none→∃ W,BlkW sizeLine J g tc te D (fun H' _=>Q (.ref D) H') W∧∃ m,W 0 m (startB own cap σ) (upd H1 D (.lst [])) []
theorem sF (b:BlkOk X.N X.env.scope scope N own cap)(hc:X.calm=true)(hifs:ifs.length≤1)(hi:PI X tg iter wi)
  (hg:∀ cl C s H fp,PG (blk X scope cl C s H fp N) tg g) (ht:∀ c,ifs=[c]→∀ cl C s H fp,PT (blk X scope cl C s H fp N) c tc) (he:∀ cl C s H fp,PE (blk X scope cl C s H fp N) elt te)
  (hs:∀ x,foldedSetIterable iter X.env x=pure x:=by intro _;rfl):PE X (.ListComp elt [⟨tg,iter,ifs,0⟩] scope pos) (tComp own cap wi g (tTests ifs tc) te):=by
 intro pins s σ H Q I h
 obtain⟨cl,hclos,c1,c2⟩:=kC scope X.env fun y hy hf=>I.ok.has y.1 (b.free y hy hf)
 rw[eval_ListComp]
 refine wpAny_comprehension_free rfl hs hclos b.kind b.nloc (thn (hi pins s σ H _ I h) fun v s1 h1=>thn h1 fun itv s2 h2=>?_)
 obtain⟨it,fp,tn,J,H2,e,I2,T,st2,f2,hW⟩:=h2
 subst e
 refine oI b hc hifs hg ht he hclos c1 c2 I2 T st2 f2 hW fun D C s' H' ys J1 J2 ⟨m,hm⟩ hD hQ=>?_
 refine⟨m,hm,fun h' hsb=>⟨.ref D,H',?_,rfl,hQ⟩⟩
 obtain⟨f0,f1,f2,f3,f4,f5⟩:=J2
 exact J1.turned (fun b o hb e=>(hsb.2 b hb).trans e) f0 f1 f3 f4 f5
def tCompSet (i own:Nat)(cap:List Nat)(wi:TI)(g:TG)(tc:TT)(te:TE):TS:=fun E σ H=>wi σ H fun J H1=>∀ D,H1 D=none→∃ W,BlkW sizeLine J g tc te D (fun H' _=>E.nx (σ.set i (some (.ref D))) H') W∧∃ m,W 0 m (startB own cap σ) (upd H1 D (.lst [])) []
theorem q9 {i:Nat}{y:Str}{py spos:Pos}(b:BlkOk X.N X.env.scope scope N own cap)(hc:X.calm=true)(hifs:ifs.length≤1)(hi:PI X tg iter wi)
  (hg:∀ cl C s H fp,PG (blk X scope cl C s H fp N) tg g) (ht:∀ c,ifs=[c]→∀ cl C s H fp,PT (blk X scope cl C s H fp N) c tc) (he:∀ cl C s H fp,PE (blk X scope cl C s H fp N) elt te)
  (hN:X.N.Nodup) (hiy:X.N[i]?=some y) (hy:Loc X.env.scope y) (hfn:X.fn y=true∨X.env.scope.names.lookup y=some .local)
  (hsw:swapsWith (.ListComp elt [⟨tg,iter,ifs,0⟩] scope pos) (some (.Name y py)) spos.line X.env=pure true)
  (hs:∀ x,foldedSetIterable iter X.env x=pure x:=by intro _;rfl):PS X (.Assign [.Name y py] (.ListComp elt [⟨tg,iter,ifs,0⟩] scope pos) spos) (tCompSet i own cap wi g (tTests ifs tc) te):=by
 intro pins s σ H E I h
 obtain⟨cl,hclos,c1,c2⟩:=kC scope X.env fun y hy hf=>I.ok.has y.1 (b.free y hy hf)
 rw[exec_Assign_Name_used _ _ _ _ hsw]
 refine wpAny_bind (wpAny_standAt (wpAny_bind ?_))
 show wpAny _ X.A (do let _ ← comprehension (.ListComp elt [⟨tg,iter,ifs,0⟩] scope pos) scope X.env _ (newList []) false (eval iter X.env) (some (assign (.Name y py) X.env))) _ _ s
 refine wpAny_bind (wpAny_mono (wpAny_comprehension_free (use:=some (assign (.Name y py) X.env)) (Q:=fun _ s'=>SP X pins E .next s') rfl hs hclos b.kind b.nloc (thn (hi pins s σ H _ I h) fun v s1 h1=>thn h1 fun itv s2 h2=>?_)) (fun _ s' hq=>wpAny_pure (wpAny_pure hq)) fun _ _ e=>e)
 obtain⟨it,fp,tn,J,H2,e,I2,T,st2,f2,hW⟩:=h2
 subst e
 refine oI (RR:=fun acc C=>compPost (model X.prog X.w) X.A X.xe (some (assign (.Name y py) X.env)) (fun _ s'=>SP X pins E .next s') acc C) b hc hifs hg ht he hclos c1 c2 I2 T st2 f2 hW fun D C s' H' ys J1 J2 ⟨m,hm⟩ hD hQ=>?_
 obtain⟨f0,f1,f2,f3,f4,f5⟩:=J2
 refine wpAny_assign_Name (mP J1 hN hiy hy (v:=.ref D) rfl (fun s'' I'' ⟨a,hsb,ha⟩=>?_) hfn)
 have hne:C≠a:=by
  rcases ha with z | z
  ·rw[z];exact f1
  ·exact fun q=>f4 y a z q.symm
 refine⟨m,hm.sameBut hsb hne,fun h' hs'=>⟨_,H',I''.turned (t':=s''.toks) (fun b o hb e=>(hs'.2 b hb).trans e) f0 f1 f3 f4 f5,hQ⟩⟩
end
theorem objThere {P:Program}{w:World}{H:Hp}{h:Heap}{a:Addr}{o:HO}(x:ObjOk P w H h a o):∃ ob,h.get? a=some ob:=by
 cases o with
 | lst xs=>obtain⟨_,_,_,_,e⟩:=x;exact⟨_,e⟩
 | tup xs=>obtain⟨_,_,_,o,e,_⟩:=x;exact⟨o,e⟩
 | dK kvs=>obtain⟨_,_,_,_,o,_,_,e,_⟩:=x;exact⟨o,e⟩
 | dT kvs=>obtain⟨_,_,_,_,o,_,_,e,_⟩:=x;exact⟨o,e⟩
 | set S n=>obtain⟨o,_,_,_,e,_⟩:=x;exact⟨o,e⟩
 | ins C dx fs=>obtain⟨_,_,_,e,_⟩:=x;exact⟨_,e⟩
 | own y=>exact x
 | xd fs=>obtain⟨_,⟨o,_,_,e,_⟩,_⟩:=x;exact⟨o,e⟩
 | rng lo hi=>obtain⟨_,_,_,e⟩:=x;exact⟨_,e⟩
 | frz ob u=>obtain⟨e,_⟩:=x;exact⟨_,e⟩
 | tbl ps=>exact⟨_,(show h.get? a=some _ from x)⟩
 | met f y=>exact⟨_,(show h.get? a=some _ from x)⟩
 | ext φ=>obtain⟨_,e,_⟩:=x;exact e
def Cov (B:Heap)(h h':Heap)(H':Hp)(l:List Env):Prop:=∀ b o,h'.get? b=some o→(H' b≠none∨∃ o',h.get? b=some o')→b∉frs l→B.get? b=some o
def CXE (P:Program)(w:World):CXT:=fun outer H s E e s' =>
 ∃ (ea C t:Addr) (H':Hp) (B:Heap),e=.ref ea∧s'.os=s.os∧AllBare s'.gens∧Un (frs outer) [] H H' s.heap s'.heap∧HOk P w H' s'.heap ∧
  Heap.FlyingW B outer ea (.ref C) (.ref t) s'.heap∧H' ea=none∧Cov B s.heap s'.heap H' outer∧E (.ref C) none H'
section
variable {X:Cx}{pins:List (Addr×Obj)}{σ:St}{H H':Hp}{s s':Shared}{B:Heap}
end
section
variable {P:Program}{w:World}{K:PySem.W.Frag}{mg:Str→Option Value}{base:Heap}{N:List Str}{qual:Str}{scope:Scope}{f:Addr}{cd:Value}{A:Around}{outer:List Env}{s0:Shared}{H0:Hp}{E:XK}
abbrev bodyX (P:Program)(w:World)(K:PySem.W.Frag)(mg:Str→Option Value)(base:Heap)(N:List Str)(qual:Str)(scope:Scope)(f:Addr)(cd:Value)(A:Around)(outer:List Env)(s0:Shared)(H0:Hp)(E:XK):Cx :=
 cxOf (CXE P w) P w K mg base N qual scope f cd A outer s0 H0 E
theorem sG {pins:List (Addr×Obj)}{σ:St}{H':Hp}{s':Shared}{B h2:Heap}{ea C t:Addr}(J:Inv (bodyX P w K mg base N qual scope f cd A outer s0 H0 E) pins σ H' s')
  (cov:Cov B s0.heap s'.heap H' (envOfC qual scope s0.heap.objs.size f cd::outer)) (up:s'.heap.UpToSlots h2) (fl:Heap.FlyingW B outer ea (.ref C) (.ref t) h2) (hn:H' ea=none) (hE:E (.ref C) none H') :
  CXE P w outer H0 s0 E (.ref ea) { s' with heap:=h2 }:=by
 have hB:=fl.1
 have nloc:∀ b o,s0.heap.get? b=some o→b≠s0.heap.objs.size:=fun b o e=>Nat.ne_of_lt (Heap.lt_size e)
 have nstk:∀ b,b≠s0.heap.objs.size→b∉frs outer→b∉frs (envOfC qual scope s0.heap.objs.size f cd::outer):=fun b h1 h2 z=>(List.mem_cons.mp (J.stkSub b z)).elim h1 h2
 have trk:=fun b o e ht=>cov b o e (.inl ht) fun z=>ht (J.stkFree b z)
 have noe:∀ b:Addr,b∉([]:List Addr):=fun _ z=>nomatch z
 have nf:∀ b∈frs outer,∀ o,s'.heap.get? b=some o→∀ vs,o.data≠.fields vs:=fun b hb o e=>by
  obtain⟨_,o',e',d⟩:=J.funs.mem hb
  rw[e]at e';cases e';exact d
 have thr:∀ b o,s0.heap.get? b=some o→∃ o',s'.heap.get? b=some o'∧(b∉frs outer→B.get? b=some o'):=fun b o e=>by
  obtain⟨o',e1⟩:=J.base.there b o e (noe b)
  exact⟨o',e1,fun hb=>cov b o' e1 (.inr ⟨o,e⟩) (nstk b (nloc b o e) hb)⟩
 refine⟨ea,C,t,H',B,rfl,J.os,J.bare,⟨fun b o e n hb hx=>?_,fun b o e n hb hx=>?_,J.base.free,fun b o e hx=>?_,J.base.tups,J.base.frzs,J.base.tbls⟩,fun b u e=>?_,fl,hn,fun b o e hc hb=>?_,hE⟩
 ·have e1:=J.base.keep b o e n hb hx
  exact hB b o (cov b o e1 (.inr ⟨o,e⟩) (nstk b (nloc b o e) hb))
 ·obtain⟨sl,e1⟩:=J.base.slot b o e n hb hx
  obtain⟨sl',e2⟩:=up b _ e1 (nf b hb _ e1)
  exact⟨sl',e2⟩
 ·obtain⟨o',e1,e2⟩:=thr b o e
  by_cases hb:b∈frs outer
  ·obtain⟨sl',e3⟩:=up b _ e1 (nf b hb _ e1)
   exact⟨_,e3⟩
  ·exact⟨o',hB b o' (e2 hb)⟩
 ·refine(J.hok b u e).stay (fun c v hc q=>hB c v (trk c v q ?_)) (fun _ q=>q) fun _ _ q=>q
  rcases hc with z | z
  ·subst z;rw[e];simp
  ·rw[z];simp
 ·have same:∀ o',s'.heap.get? b=some o'→B.get? b=some o'→B.get? b=some o:=fun o' _ q=>by
   have:=hB b o' q
   have e':=e
   rw[e']at this;cases this;exact q
  rcases hc with z | ⟨o',z⟩
  ·cases q:H' b with
   | none=>exact absurd q z
   | some u =>
    obtain⟨o',e1⟩:=objThere (J.hok b u q)
    exact same o' e1 (trk b o' e1 (by rw[q];simp))
  ·obtain⟨o'',e1,e2⟩:=thr b o' z
   exact same o'' e1 (e2 hb)
theorem mW:Passes (CXE P w) (bodyX P w K mg base N qual scope f cd A outer s0 H0 E) E:=by
 intro pins σ H s e s' I h
 obtain⟨ea,C,t,H',B,rfl,os,bare,un,hok,fl,hn,cov,hE⟩:=h
 have J:=I.call' os un hok bare fun b z=>nomatch z
 refine wpAny_leaves_onW I.ok.frames rfl fl fun h2 fl2 up=>?_
 refine sG J (fun b o e hc hb=>cov b o e ?_ hb) up fl2 hn hE
 rcases hc with z | ⟨o',z⟩
 ·exact .inl z
 ·obtain⟨o'',z'⟩:=I.base.there b o' z (fun q=>nomatch q)
  exact .inr ⟨o'',z'⟩
theorem um {pins:List (Addr×Obj)}{σ:St}{H:Hp}{s:Shared}{h1:Heap}{ea C:Addr}{args:List Value}(I:Inv (bodyX P w K mg base N qual scope f cd A outer s0 H0 E) pins σ H s)(hx:Heap.MadeExcOf s.heap h1 ea (.ref C) args)(hE:E (.ref C) none H) :
  (bodyX P w K mg base N qual scope f cd A outer s0 H0 E).xe (.ref ea) { s with heap:=h1 }:=by
 have hin:∀ env∈(envOfC qual scope s0.heap.objs.size f cd::outer),∀ a,env.frame=some a→a∈frs (envOfC qual scope s0.heap.objs.size f cd::outer):=fun env he a ha=>List.mem_filterMap.mpr ⟨env,he,ha⟩
 refine wpAny_leaves_madeW I.ok.frames rfl (fun b o q=>PySem.W.of_hideAll _ q) (PySem.W.funFrames_hide I.stack hin) hx fun h2 t fl _ _ up=>?_
 have hn:H ea=none:=by
  cases q:H ea with
  | none=>rfl
  | some u =>
   obtain⟨o,e⟩:=objThere (I.hok ea u q)
   rw[hx.new]at e;cases e
 exact sG (s':=s) I (fun b o e _ hb=>PySem.W.hideAll_get _ e hb) ((Heap.UpToSlots.of_keeps hx.keeps).trans up) fl hn hE
end
def Walk (J:It)(vs:List V)(Ok:Hp→Prop):Prop:=∀ (i:Nat) (H:Hp),Ok H→(i < vs.length→J.go i H∧∀ x H',J.yld i H x H'→H'=H∧vs[i]?=some x)∧(vs.length≤i→J.stop i H)
def WalkG (F:Fx)(J:It)(ds:List D)(Z1:Hp):Prop:=∀ (i:Nat) (H Z:Hp),Same Z1 Z→Same Z H→(i < ds.length→J.go i H∧∀ x H',J.yld i H x H'→∃ Z' d,Ex H Z H' Z'∧ds[i]?=some d∧Rep F.K F.C Z' d x)∧(ds.length≤i→J.stop i H)
theorem hV {F:Fx}{J:It}{ds:List D}{vs:List V}{Z1:Hp}(rs:Reps F.K F.C Z1 ds vs)(w:Walk J vs (Same Z1)):WalkG F J ds Z1:=fun i H Z z1 z2=>by
 obtain⟨k1,k2⟩:=w i H (z1.trans z2)
 have hl:=rs.length
 refine⟨fun hi=>?_,fun hi=>k2 (by omega)⟩
 obtain⟨go,y⟩:=k1 (by omega)
 exact⟨go,fun x H' hy=>by
  obtain⟨e0,e2⟩:=y x H' hy
  subst e0
  obtain⟨d,e3,rd⟩:=rs.get' e2
  exact⟨Z,d,Ex.refl z2,e3,rd.mono z1⟩⟩
def tI (F:Fx)(g:SS→R (List D)):TI:=fun σ H Q=>∃ Z S,StOk F H Z S σ∧WG F H Z (g S) fun ds H' Z'=>∀ J,WalkG F J ds Z'→ds.length≤16777216→Q J H'
abbrev FI (X:Cx)(F:Fx)(tg e:Expr)(g:SS→R (List D)):Prop:=PI X tg e (tI F g)
def asSeq:D→R (List D)
 | .tup xs=>.ok xs
 | .lst xs=>.ok xs
 | _=>.stuck
def iSeq (g:SS→R D):SS→R (List D):=fun S=>(g S).bind fun d=>(asSeq d).bind fun ds=>if ds.length≤16777216 then .ok ds else .stuck
theorem _root_.L2.PI.weak {X:Cx}{tg e:Expr}{t t':TI}(h:PI X tg e t)(w:∀ σ H Q,t' σ H Q→t σ H Q):PI X tg e t':=fun pins s σ H Q I q=>h pins s σ H Q I (w σ H Q q)
theorem uo {K:PySem.W.Frag}{a:Addr}{vs:List V}{Z:Hp}(h:SqL K Z a vs):Walk (Itl K a) vs (Same Z):=fun i H hz =>
 ⟨fun hi=>⟨⟨vs,vs[i],hz.seq h,by simp[hi]⟩,fun x H' ⟨e,y⟩=>⟨e,y vs (hz.seq h)⟩⟩,fun hi=>⟨vs,hz.seq h,hi⟩⟩
theorem we {K:PySem.W.Frag}{a:Addr}{vs:List V}{Z:Hp}(h:SqT K Z a vs):Walk (Itt K a) vs (Same Z):=fun i H hz =>
 ⟨fun hi=>⟨⟨vs,vs[i],h.mono hz,by simp[hi]⟩,fun x H' ⟨e,y⟩=>⟨e,y vs (h.mono hz)⟩⟩,fun hi=>⟨vs,h.mono hz,hi⟩⟩
theorem kG {lo:Int}{n:Nat}{Z:Hp}:Walk (Itr lo n) ((List.range n).map fun i=>.int (lo+(i:Nat))) (Same Z):=fun i H hz=>by
 refine⟨fun hi=>?_,fun hi=>?_⟩
 ·have hi':i < n:=by simpa using hi
  exact⟨hi',fun x H' ⟨e,y⟩=>⟨e,by rw[y];simp[hi']⟩⟩
 ·show n≤i
  simpa using hi
theorem At {X:Cx}{tg l:Expr}{tl:TE}(hl:PE X l tl):PI X tg l (fun σ H R=>tl σ H fun x H1=>∃ a,x=.ref a∧(((∃ xs,SqL X.K H1 a xs)∧R (Itl X.K a) H1)∨((∃ xs,SqT X.K H1 a xs)∧R (Itt X.K a) H1))):=by
 intro pins s σ H Q I h
 refine thn (hl pins s σ H _ I h) fun v s1 ⟨x,H1,I1,r1,a,e,q⟩=>?_
 subst e
 cases r1
 rcases q with ⟨⟨xs,hq⟩,q⟩ | ⟨⟨xs,hq⟩,q⟩
 ·obtain⟨its,rv,p,hz⟩:=I1.list hq
  refine wpAny_pyIter_list p.isList ⟨s1.heap.objs.size,[s1.heap.objs.size],_,_,H1,rfl,I1.kept fun b o e=>Heap.get?_push_of_some _ e,t6 a _,⟨_,Heap.get?_push_size _ rfl,rfl,rfl⟩,fun b hb=>?_,q⟩
  obtain rfl:b=s1.heap.objs.size:=by simpa using hb
  exact I1.fpOk (Nat.le_refl _) (I1.hok.fresh (Nat.le_refl _))
 ·obtain⟨its,rv,p,hz⟩:=I1.tuple hq
  refine wpAny_pyIter_tuple (show s1.heap.IsTuple a its.toArray from p) ⟨s1.heap.objs.size,[s1.heap.objs.size],_,_,H1,rfl,I1.kept fun b o e=>Heap.get?_push_of_some _ e,qT a _,⟨_,Heap.get?_push_size _ rfl,rfl,rfl⟩,fun b hb=>?_,q⟩
  obtain rfl:b=s1.heap.objs.size:=by simpa using hb
  exact I1.fpOk (Nat.le_refl _) (I1.hok.fresh (Nat.le_refl _))
section
variable {X:Cx}{F:Fx}{tg e:Expr}{g:SS→R D}{gs:SS→R (List D)}
theorem aG (hK:X.K=F.K)(h:FE X F e g):FI X F tg e (iSeq g):=(At h).weak fun σ H Q ⟨Z,S,ok,w⟩=>aM ok w fun d v H1 Z1 ok1 x1 rv w1=>by
 rw[hK]
 cases d with
 | tup ds =>
  rw[Rep]at rv
  obtain⟨a,vs,rfl,h1,h2⟩:=rv
  have w2:WG F H1 Z1 (if ds.length≤16777216 then R.ok ds else .stuck) _:=w1
  split at w2
  ·rename_i hl
   exact⟨a,rfl,.inr ⟨⟨vs,h1.mono ok1.sub⟩,WG.now w2 ok1.sub _ (hV h2 (we h1)) hl⟩⟩
  ·exact w2.elim
 | lst ds =>
  rw[Rep]at rv
  obtain⟨a,vs,rfl,h1,h2⟩:=rv
  have w2:WG F H1 Z1 (if ds.length≤16777216 then R.ok ds else .stuck) _:=w1
  split at w2
  ·rename_i hl
   exact⟨a,rfl,.inl ⟨⟨vs,ok1.sub.seq h1⟩,WG.now w2 ok1.sub _ (hV h2 (uo h1)) hl⟩⟩
  ·exact w2.elim
 | _=>exact w1.elim
def rngD (lo:Int)(n:Nat):List D:=(List.range n).map fun i=>.int (lo+(i:Nat))
def rng1:List D→R (List D)
 | [.int j]=>if -16777216≤j∧j≤16777216 then .ok (rngD 0 j.toNat) else .stuck
 | _=>.stuck
def rng2:List D→R (List D)
 | [.int i,.int j]=>if (-16777216≤i∧i≤16777216)∧(-16777216≤j∧j≤16777216)∧j - i≤16777216 then .ok (rngD i (j - i).toNat) else .stuck
 | _=>.stuck
def iRange1 (gs:SS→R (List D)):SS→R (List D):=fun S=>(gs S).bind rng1
def iRange2 (gs:SS→R (List D)):SS→R (List D):=fun S=>(gs S).bind rng2
theorem hZ {K:PySem.W.Frag}{C:Nat→Addr}{Z:Hp}(lo:Int):∀ (l:List Nat),Reps K C Z (l.map fun i=>.int (lo+(i:Nat))) (l.map fun i=>.int (lo+(i:Nat)))
 | []=>Reps.nil
 | a::r=>Reps.cons (by rw[Rep]) (hZ lo r)
theorem sH {K:PySem.W.Frag}{C:Nat→Addr}{Z:Hp}{j:Int}{vs:List V}(r:Reps K C Z [.int j] vs):vs=[.int j]:=by
 rw[Reps]at r
 obtain⟨v,r',rfl,h1,h2⟩:=r
 rw[Reps]at h2
 rw[Rep]at h1
 rw[h1,h2]
theorem kH {K:PySem.W.Frag}{C:Nat→Addr}{Z:Hp}{i j:Int}{vs:List V}(r:Reps K C Z [.int i,.int j] vs):vs=[.int i,.int j]:=by
 rw[Reps]at r
 obtain⟨v,r',rfl,h1,h2⟩:=r
 rw[Rep]at h1
 rw[h1,sH h2]
theorem yC {ds:List D}{es:List D}(h:rng1 ds=.ok es):∃ j:Int,ds=[.int j]∧(-16777216≤j∧j≤16777216)∧es=rngD 0 j.toNat:=by
 unfold rng1 at h
 split at h
 ·rename_i j
  split at h
  ·rename_i q;cases h;exact⟨j,rfl,q,rfl⟩
  ·cases h
 ·cases h
theorem sI {ds:List D}{es:List D}(h:rng2 ds=.ok es):∃ i j:Int,ds=[.int i,.int j]∧((-16777216≤i∧i≤16777216)∧(-16777216≤j∧j≤16777216)∧j - i≤16777216)∧es=rngD i (j - i).toNat:=by
 unfold rng2 at h
 split at h
 ·rename_i i j
  split at h
  ·rename_i q;cases h;exact⟨i,j,rfl,q,rfl⟩
  ·cases h
 ·cases h
theorem yD {ds:List D}{k:Nat}(h:rng1 ds=.err k):False:=by
 unfold rng1 at h
 split at h
 ·split at h<;>cases h
 ·cases h
theorem sJ {ds:List D}{k:Nat}(h:rng2 ds=.err k):False:=by
 unfold rng2 at h
 split at h
 ·split at h<;>cases h
 ·cases h
theorem bn {a:Expr}{p pos:Pos}(hg:Gl X "range")(hm:X.mg "range"=none)(ha:FA X F [a] gs)(hs:starEach [a] X.env=[(false,eval a X.env)]:=by rfl):FI X F tg (.Call (.Name "range" p) [a] [] pos) (iRange1 gs) :=
 (t7 hg hm ha hs).weak fun σ H Q ⟨Z,S,ok,w⟩=>aS ok w fun ds vs H1 Z1 ok1 x1 rs w1=>by
  cases e:rng1 ds with
  | err k=>exact(yD e).elim
  | stuck=>rw[e]at w1;exact w1.elim
  | ok es =>
   rw[e]at w1
   obtain⟨j,rfl,hj,rfl⟩:=yC e
   exact⟨j,sH rs,by omega,by omega,WG.now w1 ok1.sub _ (hV (hZ 0 _) kG) (by unfold rngD;rw[List.length_map,List.length_range];omega)⟩
theorem i6 {a b:Expr}{p pos:Pos}(hg:Gl X "range")(hm:X.mg "range"=none)(ha:FA X F [a,b] gs)(hs:starEach [a,b] X.env=[(false,eval a X.env),(false,eval b X.env)]:=by rfl)(hs2:starEach [b] X.env=[(false,eval b X.env)]:=by rfl) :
  FI X F tg (.Call (.Name "range" p) [a,b] [] pos) (iRange2 gs) :=
 (t8 hg hm ha hs hs2).weak fun σ H Q ⟨Z,S,ok,w⟩=>aS ok w fun ds vs H1 Z1 ok1 x1 rs w1=>by
  cases e:rng2 ds with
  | err k=>exact(sJ e).elim
  | stuck=>rw[e]at w1;exact w1.elim
  | ok es =>
   rw[e]at w1
   obtain⟨i,j,rfl,hj,rfl⟩:=sI e
   exact⟨i,j,kH rs,⟨by omega,by omega,by omega,by omega⟩,WG.now w1 ok1.sub _ (hV (hZ i _) kG) (by unfold rngD;rw[List.length_map,List.length_range];omega)⟩
end
def tGd (F:Fx)(g:D→SS→R SS):TG:=fun v σ H Q=>∃ Z S d,StOk F H Z S σ∧Rep F.K F.C Z d v∧WG F H Z (g d S) fun S' H' Z'=>∀ σ',StOk F H' Z' S' σ'→Q σ' H'
abbrev FG (X:Cx)(F:Fx)(tg:Expr)(g:D→SS→R SS):Prop:=PG X tg (tGd F g)
def gNm (i:Nat):D→SS→R SS:=fun d S=>.ok (S.set i (some (.val d)))
theorem _root_.L2.PG.weak {X:Cx}{tg:Expr}{t t':TG}(h:PG X tg t)(w:∀ v σ H Q,t' v σ H Q→t v σ H Q):PG X tg t':=fun pins s σ H v u Q I r q=>h pins s σ H v u Q I r (w v σ H Q q)
theorem aq {X:Cx}{F:Fx}(i:Nat){x:Str}{pos:Pos}(hN:X.N.Nodup)(hi:X.N[i]?=some x:=by rfl)(hx:Loc X.env.scope x:=by first | exact Or.inl rfl | exact Or.inr rfl)(hf:X.fn x=true∨X.env.scope.names.lookup x=some .local:=by first | exact .inl rfl | exact .inr rfl) :
  FG X F (.Name x pos) (gNm i):=(nu hN hi hx hf).weak fun v σ H Q ⟨Z,S,d,ok,r,w⟩=>WG.now w ok.sub _ (ok.setVal r)
def spF (K:PySem.W.Frag)(C:Nat→Addr)(n:Nat)(f:List D→R D):Sp:=fun vs H Q E =>
 vs.length=n∧∃ Z ds,Same Z H∧Reps K C Z ds vs∧WG ⟨K,C,H,Z,E⟩ H Z (f ds) fun d H' Z'=>∀ v,Rep K C Z' d v→Q v H'
def outD (o:O):R D:=match o with
 | .nx _=>.ok .non
 | .rt d=>.ok d
 | .er k=>.err k
 | _=>.stuck
def startS (n:Nat)(ds:List D):SS:=ds.map (fun d=>some (.val d))++List.replicate (n - ds.length) none
def fnD (n:Nat)(body:SS→O):List D→R D:=fun ds=>outD (body (startS n ds))
theorem oJ {F:Fx}{N:List Str}{ds:List D}{vs:List V}(z:Same F.Z0 F.H0)(r:Reps F.K F.C F.Z0 ds vs):StOk F F.H0 F.Z0 (startS N.length ds) (start N vs):=by
 have hl:=r.length
 have at_:∀ {i:Nat} {x:Option Sl},(startS N.length ds)[i]?=some x→(i < ds.length∧∃ d,ds[i]?=some d∧x=some (.val d))∨x=none:=fun {i x} e=>by
  unfold startS at e
  grind
 refine⟨Ex.refl z,?_,fun i d e=>?_,fun i j x y v w A B _ e1 _ _ _ o1 _=>?_⟩
 ·unfold startS L2.start
  simp[hl]
 ·rcases at_ e with ⟨hi,d',e1,e2⟩ | e2
  ·cases e2
   obtain⟨v,e3,rv⟩:=r.get e1
   refine⟨v,[],?_,⟨rfl,rv⟩,Priv.nil⟩
   unfold L2.start
   grind
  ·cases e2
 ·rcases at_ e1 with ⟨_,d',_,e2⟩ | e2
  ·cases e2;rw[o1.1];exact fun a ha=>nomatch ha
  ·cases e2
section
variable {P:Program}{w:World}{K:PySem.W.Frag}{mg:Str→Option Value}{base:Heap}
structure BX (X:Cx)(F:Fx)(k:Nat):Prop where
 room:Room k X.A
 K:X.K=F.K
 calm:X.calm=true
 pass:Passes (CXE X.prog X.w) X F.E
theorem BN {x qual:Str}{st:Stmt}{f:Addr}{fd:FuncData}{N ps:List Str}{k:Nat}{C:Nat→Addr}{body:SS→O}(F:Fun K x qual st f fd)(S:FnScope N ps (defScope st))
  (h:∀ (cdv:Value) (A:Around) (outer:List Env) (s:Shared) (H Z:Hp) (E:XK),BX (bodyX P w K mg base N qual (defScope st) f cdv A outer s H E) ⟨K,C,H,Z,E⟩ k →
   PassesOwn (model P w) (bodyX P w K mg base N qual (defScope st) f cdv A outer s H E).A (bodyX P w K mg base N qual (defScope st) f cdv A outer s H E).env (bodyX P w K mg base N qual (defScope st) f cdv A outer s H E).xe →
   FSs (bodyX P w K mg base N qual (defScope st) f cdv A outer s H E) ⟨K,C,H,Z,E⟩ (defBody st) body) :
  FnOk P w K mg base (CXE P w) (k+1) f fd ps (spF K C ps.length (fnD N.length body)):=by
 obtain⟨oc,od,kV,doc,pm,an,cdv,ct,osl,rfl,lk,hcd⟩:=F.ex
 refine vV lk hcd S (fun vs H Q E q=>q.1) fun A outer s H vs Q E hr hsp=>?_
 obtain⟨_,Z,ds,z,r,w⟩:=hsp
 refine⟨_,h cdv A outer s H Z E ⟨hr,rfl,rfl,mW⟩ PassesOwn.leaving,Z,startS N.length ds,oJ (F:=⟨K,C,H,Z,E⟩) (N:=N) z r,?_⟩
 unfold fnD at w
 cases e:body (startS N.length ds) with
 | nx S'=>rw[e]at w;exact fun σ' H' Z' _ ok=>w H' Z' ok.ex .non (by rw[Rep])
 | rt d=>rw[e]at w;exact fun v H' Z' x rv=>w H' Z' x v rv
 | er k=>rw[e]at w;exact w
 | bk S'=>rw[e]at w;exact w.elim
 | ct S'=>rw[e]at w;exact w.elim
 | stuck=>rw[e]at w;exact w
end
structure Fn1 (P:Program)(w:World)(K:PySem.W.Frag)(mg:Str→Option Value)(base:Heap)(C:Nat→Addr)(k:Nat)(x:Str)(ps:List Str)(f:List D→R D):Prop where
 ex:∃ a fd,FnOk P w K mg base (CXE P w) k a fd ps (spF K C ps.length f)∧mg x=some (.ref a)∧PySem.W.keepIn K (.ref a)=true∧Binds K fd ps []
def eCall (f:List D→R D)(gs:SS→R (List D)):SS→R D:=fun S=>(gs S).bind f
section
variable {X:Cx}{F:Fx}{x:Str}{p pos:Pos}{e:Expr}{es:List Expr}{gs:SS→R (List D)}{k:Nat}{ps:List Str}{f:List D→R D}
theorem wf (n:Nat)(hn:∀ S ds,gs S=.ok ds→ds.length=n):∀ σ H Q,tE F (eCall f gs) σ H Q→tCall (spF F.K F.C n f) [] F.E (tAl F gs) σ H Q:=fun σ H Q ⟨Z,S,ok,w⟩=>by
 refine⟨Z,S,ok,?_⟩
 cases e:gs S with
 | err k=>unfold eCall at w;rw[e]at w;exact w
 | stuck=>unfold eCall at w;rw[e]at w;exact w
 | ok ds =>
  unfold eCall at w
  rw[e]at w
  intro H1 Z1 x1 vs rs
  have w1:=WG.more (r:=f ds) w x1
  refine⟨by rw[List.append_nil,← rs.length];exact hn S ds e,Z1,ds,x1.sub,by rw[List.append_nil];exact rs,?_⟩
  cases q:f ds with
  | ok d=>rw[q]at w1;exact w1
  | err k=>rw[q]at w1;exact w1
  | stuck=>rw[q]at w1;exact w1
theorem yE (b:BX X F k)(h:Fn1 X.prog X.w F.K X.mg X.base F.C k x ps f)(hg:Gl X x)(ha:FA X F (e::es) gs)(hn:∀ S ds,gs S=.ok ds→ds.length=ps.length)(hdb:(x==("__debug__":Str))=false:=by decide)
  (he:starEach (e::es) X.env=(false,eval e X.env)::starEach es X.env:=by rfl) (hpl:(backTo pos (starEach es X.env)).any (·.1)=false:=by rfl):FE X F (.Call (.Name x p) (e::es) [] pos) (eCall f gs):=by
 obtain⟨a,fd,h1,h2,h3,h4⟩:=h.ex
 have hK:=b.K
 exact(ym (by rw[hK];exact h1) b.room hg h2 (by grind) (by grind) .nil b.pass ha hdb he hpl).weak (wf ps.length hn)
theorem uq {g:SS→R D}{gs:SS→R (List D)}{n:Nat}(h:∀ S ds,gs S=.ok ds→ds.length=n):∀ S ds,aCons g gs S=.ok ds→ds.length=n+1:=fun S ds e=>by
 unfold aCons at e
 cases q:g S with
 | err k=>rw[q]at e;cases e
 | stuck=>rw[q]at e;cases e
 | ok d =>
  rw[q]at e
  cases q2:gs S with
  | err k=>rw[R.bind_ok,q2]at e;cases e
  | stuck=>rw[R.bind_ok,q2]at e;cases e
  | ok r =>
   rw[R.bind_ok,q2]at e
   cases e
   simp[h S r q2]
end
def noErr {α:Type}(r:R α):R α:=match r with
 | .ok a=>.ok a
 | _=>.stuck
def blkS (own:Nat)(cap:List Nat)(S:SS):SS:=List.replicate own none++cap.map fun i=>match S[i]? with
 | some (some (.val d))=>some (.val d)
 | _=>none
def compGo (S:SS)(g:D→SS→R SS)(c:SS→R Bool)(e:SS→R D):List D→R (List D)
 | []=>.ok []
 | d::r=>(g d S).bind fun S1=>(c S1).bind fun t=>if t=true then (e S1).bind fun y=>(compGo S g c e r).bind fun ys=>.ok (y::ys) else compGo S g c e r
def eComp (own:Nat)(cap:List Nat)(it:SS→R (List D))(g:D→SS→R SS)(c:SS→R Bool)(e:SS→R D):SS→R D:=fun S=>(it S).bind fun ds=>(noErr (compGo (blkS own cap S) g c e ds)).bind fun ys=>.ok (.lst ys)
def tTrue:SS→R Bool:=fun _=>.ok true
abbrev noE (F:Fx):Fx:={ F with E:=fun _ _ _=>False }
def Own (own:Nat)(g:D→SS→R SS):Prop:=∀ d S S1,g d S=.ok S1→S1.length=S.length∧∀ i,own≤i→S1[i]?=S[i]?
theorem ao {X:Cx}{F:Fx}{k:Nat}(bx:BX X F k){scope:Scope}{cl:List (Str×Addr)}{C:Addr}{s:Shared}{H:Hp}{fp:List Addr}{N:List Str}:BX (blk X scope cl C s H fp N) (noE F) k :=
 ⟨bx.room,bx.K,rfl,fun pins σ H s e s' _ h=>by
  obtain⟨_,_,_,_,_,_,_,_,_,_,_,_,_,hE⟩:=h
  exact hE.elim⟩
theorem aE {own i:Nat}(h:i < own):Own own (gNm i):=fun d S S1 e=>by
 cases e
 exact⟨by simp,fun j hj=>List.getElem?_set_ne (by omega)⟩
theorem StOk.forget {F:Fx}{H Z:Hp}{S S0:SS}{σ:St}(h:StOk F H Z S σ)(hl:S0.length=S.length)(hs:∀ (i:Nat) (x:Sl),S0[i]?=some (some x)→S[i]?=some (some x)):StOk F H Z S0 σ :=
 ⟨h.ex,hl.trans h.len,fun i x e=>h.sl i x (hs i _ e),fun i j x y v w A B hij e1 e2=>h.dj i j x y v w A B hij (hs i _ e1) (hs j _ e2)⟩
theorem StOk.wish {F:Fx}{H Z:Hp}{S:SS}{σ:St}(h:StOk F H Z S σ)(E:XK):StOk { F with E:=E } H Z S σ :=
 ⟨h.ex,h.len,fun i x e=>by obtain⟨v,A,e1,o,p⟩:=h.sl i x e;exact⟨v,A,e1,ow_K o,p.nd,p.z,p.h0⟩,fun i j x y v w A B hij e1 e2 e3 e4 o1 o2=>h.dj i j x y v w A B hij e1 e2 e3 e4 (ow_K o1) (ow_K o2)⟩
theorem h7 {own:Nat}{cap:List Nat}{S:SS}{i:Nat}{x:Sl}(e:(blkS own cap S)[i]?=some (some x)):own≤i∧∃ k d,cap[i - own]?=some k∧S[k]?=some (some (.val d))∧x=.val d:=by
 unfold blkS at e
 by_cases hi:i < own
 ·rw[List.getElem?_append_left (by simpa using hi),List.getElem?_replicate]at e
  split at e<;>cases e
 ·rw[List.getElem?_append_right (by simpa using hi),List.length_replicate,List.getElem?_map]at e
  cases q:cap[i - own]? with
  | none=>rw[q]at e;cases e
  | some k =>
   rw[q]at e
   simp only[Option.map_some,Option.some.injEq]at e
   split at e
   ·rename_i d q2
    cases e
    exact⟨by omega,k,d,rfl,q2,rfl⟩
   ·cases e
theorem ur {F:Fx}{H Z:Hp}{S:SS}{σ:St}{own:Nat}{cap:List Nat}{D:Addr}(ok:StOk F H Z S σ)(hD:H D=none):StOk (noE F) (upd H D (.lst [])) Z (blkS own cap S) (startB own cap σ):=by
 refine⟨ok.ex.trans (Ex.hidden ok.sub hD),by simp[blkS,startB],fun i x e=>?_,fun i j x y v w A B _ e1 _ _ _ o1 _=>?_⟩
 ·obtain⟨hi,k,d',q1,q2,q3⟩:=h7 e
  cases q3
  obtain⟨v,e1,r⟩:=ok.val k d' q2
  refine⟨v,[],?_,⟨rfl,r⟩,Priv.nil⟩
  unfold startB
  rw[List.getElem?_append_right (by simpa using hi),List.length_replicate,List.getElem?_map,q1]
  simp[e1]
 ·obtain⟨_,_,_,_,_,q⟩:=h7 e1
  cases q
  rw[o1.1];exact fun a ha=>nomatch ha
section
variable {X:Cx}{F:Fx}{tg iter elt:Expr}{ifs:List Expr}{scope:Scope}{N:List Str}{own:Nat}{cap:List Nat}{pos:Pos}{git:SS→R (List D)}{g:D→SS→R SS}{gc:SS→R Bool}{ge:SS→R D}
theorem re {σ:St}{H Z:Hp}{S:SS}{ifs:List Expr}{P:D→Hp→Hp→Prop}{Q:Addr→Hp→Prop}(hgc:ifs=[]→gc=tTrue)(hgo:Own own g)(ok:StOk F H Z S σ)(w:WG F H Z (eComp own cap git g gc ge S) P)
  (hP:∀ D ys ds H1 Z1 H' Z',Ex H Z H1 Z1→H1 D=none→Ex H1 Z1 H' Z'→Z' D=none→(∀ H'' Z'',Ex H1 Z1 H'' Z''→P (.lst ds) H'' Z'')→H' D=some (.lst ys)→Reps F.K F.C Z' ds ys→Q D H') :
  tI F git σ H fun J H1=>∀ D,H1 D=none→∃ W,BlkW sizeLine J (tGd (noE F) g) (tTests ifs (tT (noE F) gc)) (tE (noE F) ge) D (fun H' _=>Q D H') W∧∃ m,W 0 m (startB own cap σ) (upd H1 D (.lst [])) []:=by
 refine⟨Z,S,ok,?_⟩
 unfold eComp at w
 cases e:git S with
 | err k=>rw[e]at w;exact w
 | stuck=>rw[e]at w;exact w
 | ok ds =>
  rw[e]at w
  intro H1 Z1 x1 J wk hlen D hD
  have w1:=WG.more w x1
  have ok1:=ok.more x1
  have hS:=sizeLine_eq
  refine⟨fun i m σ' H' ys=>m=ds.length - i∧i≤ds.length∧H' D=some (.lst ys)∧ys.length≤i∧∃ Z' acc,Ex H1 Z1 H' Z'∧Z' D=none∧Reps F.K F.C Z' acc ys∧StOk (noE F) H' Z' (blkS own cap S) σ' ∧
   WG F H1 Z1 ((noErr (compGo (blkS own cap S) g gc ge (ds.drop i))).bind fun zs=>R.ok (FF.D.lst (acc++zs))) P,?_,ds.length,rfl,Nat.zero_le _,ar,Nat.le_refl _,Z1,[],Ex.hidden ok1.sub hD,ok1.sub.free hD,Reps.nil,ur ok1 hD,w1⟩
  rintro i m σ2 H2 ys ⟨rfl,hle,hDy,hyl,Z2,acc,x2,hZD,ra,ok2,w2⟩
  refine⟨hDy,?_⟩
  obtain⟨k1,k2⟩:=wk i H2 Z2 x2.z x2.sub
  by_cases hlt:i < ds.length
  ·obtain⟨go,y⟩:=k1 hlt
   refine .inr ⟨go,fun x H' hy=>?_⟩
   obtain⟨Z2',d,x',e3,rd⟩:=y x H' hy
   have ok2:=ok2.more x'
   have hZD:Z2' D=none:=by
    cases r:Z2' D with
    | none=>rfl
    | some o =>
     rcases x'.new D (by rw[r];simp) with z | z
     ·exact absurd hZD z
     ·rw[hDy]at z;cases z
   have hDy:=x'.same _ _ hDy
   have x2:=x2.trans x'
   have ra:=ra.mono x'.z
   have hd:ds.drop i=d::ds.drop (i+1):=by
    obtain⟨hi,e4⟩:=List.getElem?_eq_some_iff.mp e3
    rw[List.drop_eq_getElem_cons hi,e4]
   rw[hd]at w2
   unfold compGo at w2
   refine⟨Z2',blkS own cap S,d,ok2,rd,?_⟩
   cases qg:g d (blkS own cap S) with
   | err k=>rw[qg]at w2;exact w2.elim
   | stuck=>rw[qg]at w2;exact w2.elim
   | ok S1 =>
    rw[qg,R.bind_ok]at w2
    intro H3 Z3 x3 σ3 ok3
    obtain⟨gl,gk⟩:=hgo _ _ _ qg
    have back:∀ {H Z:Hp},StOk (noE F) H Z S1 σ3→StOk (noE F) H Z (blkS own cap S) σ3:=fun h=>h.forget gl.symm fun j z q=>by
     rw[gk j (h7 q).1];exact q
    have hD3:=x3.same _ _ hDy
    have x13:=x2.trans x3
    have zD:∀ {H Z:Hp},Ex H1 Z1 H Z→Ex H' Z2' H Z→Z D=none:=fun {H Z} _ q=>by
     cases r:Z D with
     | none=>rfl
     | some o =>
      rcases q.new D (by rw[r];simp) with z | z
      ·exact absurd hZD z
      ·rw[hDy]at z;cases z
    have fin:∀ (t:Bool) (H4 Z4:Hp),Ex H' Z2' H4 Z4→StOk (noE F) H4 Z4 S1 σ3→gc S1=.ok t→if t=true then tE (noE F) ge σ3 H4 fun y H5=>H5 D=some (.lst ys)∧ys.length < sizeLine∧∃ m',m' < ds.length - i∧(m'=ds.length - (i+1)∧i+1≤ds.length∧(upd H5 D (.lst (ys++[y]))) D=some (.lst (ys++[y]))∧(ys++[y]).length≤i+1∧∃ Z' acc,Ex H1 Z1 (upd H5 D (.lst (ys++[y]))) Z'∧Z' D=none∧Reps F.K F.C Z' acc (ys++[y])∧StOk (noE F) (upd H5 D (.lst (ys++[y]))) Z' (blkS own cap S) σ3 ∧
      WG F H1 Z1 ((noErr (compGo (blkS own cap S) g gc ge (ds.drop (i+1)))).bind fun zs=>R.ok (FF.D.lst (acc++zs))) P)
      else ∃ m',m' < ds.length - i∧(m'=ds.length - (i+1)∧i+1≤ds.length∧H4 D=some (.lst ys)∧ys.length≤i+1∧∃ Z' acc,Ex H1 Z1 H4 Z'∧Z' D=none∧Reps F.K F.C Z' acc ys∧StOk (noE F) H4 Z' (blkS own cap S) σ3 ∧
      WG F H1 Z1 ((noErr (compGo (blkS own cap S) g gc ge (ds.drop (i+1)))).bind fun zs=>R.ok (FF.D.lst (acc++zs))) P):=by
     intro t H4 Z4 x4 ok4 qc
     rw[qc,R.bind_ok]at w2
     cases t with
     | false =>
      rw[if_neg Bool.false_ne_true]at w2 ⊢
      exact⟨ds.length - (i+1),by omega,rfl,hlt,x4.same _ _ hDy,by omega,Z4,acc,x2.trans x4,zD (x2.trans x4) x4,ra.mono x4.z,back ok4,w2⟩
     | true =>
      rw[if_pos rfl]at w2 ⊢
      refine⟨Z4,S1,ok4,?_⟩
      cases qe:ge S1 with
      | err k=>rw[qe]at w2;exact w2.elim
      | stuck=>rw[qe]at w2;exact w2.elim
      | ok yd =>
       rw[qe,R.bind_ok]at w2
       intro H5 Z5 x5 yv ry
       have hD5:=x5.same _ _ (x4.same _ _ hDy)
       have x25:=x4.trans x5
       have z5:=zD (x2.trans x25) x25
       have ok5:=ok4.more x5
       have n0:=ok1.ex.same.free hD
       have xu:Ex H1 Z1 (upd H5 D (.lst (ys++[yv]))) Z5:=by
        have q:=x2.trans x25
        refine⟨fun b o e=>?_,q.z,fun b o e=>?_,q.new⟩
        ·rw[ak (fun z=>by subst z;rw[hD]at e;cases e)];exact q.same b o e
        ·rw[ak (fun z=>by subst z;rw[z5]at e;cases e)];exact q.sub b o e
       refine⟨hD5,by omega,ds.length - (i+1),by omega,rfl,hlt,ar,by simp;omega,Z5,acc++[yd],xu,z5,(ra.mono x25.z).append (Reps.cons ry Reps.nil),?_,?_⟩
       ·have q:=back ok5
        refine⟨⟨fun b o e=>?_,q.ex.z,fun b o e=>?_,q.ex.new⟩,q.len,fun j x e=>?_,fun j k x y v w A B _ e1 _ _ _ o1 _=>?_⟩
        ·rw[ak (fun z=>by subst z;have e':=e;rw[n0]at e';cases e')];exact q.ex.same b o e
        ·rw[ak (fun z=>by subst z;rw[z5]at e;cases e)];exact q.ex.sub b o e
        ·obtain⟨_,_,_,_,_,z⟩:=h7 e
         cases z
         obtain⟨v,e1,r⟩:=q.val j _ e
         exact⟨v,[],e1,⟨rfl,r⟩,Priv.nil⟩
        ·obtain⟨_,_,_,_,_,z⟩:=h7 e1
         cases z
         rw[o1.1];exact fun a ha=>nomatch ha
       ·cases qr:compGo (blkS own cap S) g gc ge (ds.drop (i+1)) with
        | err k=>rw[qr]at w2;exact w2.elim
        | stuck=>rw[qr]at w2;exact w2.elim
        | ok zs=>rw[qr]at w2;simpa [noErr,List.append_assoc] using w2
    cases qc:gc S1 with
    | err k=>rw[qc]at w2;exact w2.elim
    | stuck=>rw[qc]at w2;exact w2.elim
    | ok t =>
     cases ifs with
     | nil =>
      have:=hgc rfl
      subst this
      cases qc
      exact fin true H3 Z3 x3 ok3 rfl
     | cons c r =>
      refine⟨Z3,S1,ok3,?_⟩
      rw[qc]
      intro H4 Z4 x4
      exact fin t H4 Z4 (x3.trans x4) (ok3.more x4) qc
  ·have ei:i=ds.length:=by omega
   refine .inl ⟨k2 (by omega),?_⟩
   rw[List.drop_eq_nil_of_le (by omega)]at w2
   have w3:WG F H1 Z1 (R.ok (FF.D.lst (acc++[]))) P:=w2
   rw[List.append_nil]at w3
   exact hP D ys acc H1 Z1 H2 Z2 x1 hD x2 hZD w3 hDy ra
theorem i7 {σ:St}{H Z:Hp}{S:SS}{ifs:List Expr}{P:D→Hp→Hp→Prop}{Q:Addr→Hp→Prop}(hgc:ifs=[]→gc=tTrue)(hgo:Own own g)(ok:StOk F H Z S σ)(w:WG F H Z (eComp own cap git g gc ge S) P)(hP:∀ D ys ds H' Z',Ex H Z H' Z'→P (.lst ds) H' Z'→H' D=some (.lst ys)→Z' D=some (.lst ys)→Reps F.K F.C Z' ds ys→Q D H') :
  tI F git σ H fun J H1=>∀ D,H1 D=none→∃ W,BlkW sizeLine J (tGd (noE F) g) (tTests ifs (tT (noE F) gc)) (tE (noE F) ge) D (fun H' _=>Q D H') W∧∃ m,W 0 m (startB own cap σ) (upd H1 D (.lst [])) [] :=
 re hgc hgo ok w fun D ys ds H1 Z1 H2 Z2 x1 hD x2 hZD w3 hDy ra=>by
  have hz:Same Z2 (upd Z2 D (.lst ys)):=aJ hZD
  have xf:Ex H1 Z1 H2 (upd Z2 D (.lst ys)):=by
   refine⟨x2.same,x2.z.trans hz,fun b o e=>?_,fun b hb=>?_⟩
   ·by_cases q:b=D
    ·subst q;rw[ar]at e;cases e;exact hDy
    ·rw[ak q]at e;exact x2.sub b o e
   ·by_cases q:b=D
    ·subst q;exact .inr hD
    ·rw[ak q]at hb;exact x2.new b hb
  exact hP D ys ds H2 _ (x1.trans xf) (w3 H2 _ xf) hDy ar (ra.mono hz)
theorem aC {k:Nat}(bx:BX X F k)(b:BlkOk X.N X.env.scope scope N own cap)(hi:FI X F tg iter git)(hgo:Own own g)
  (hg:∀ cl C s H fp,FG (blk X scope cl C s H fp N) (noE F) tg g) (he:∀ cl C s H fp,FE (blk X scope cl C s H fp N) (noE F) elt ge)
  (hs:∀ x,foldedSetIterable iter X.env x=pure x:=by intro _;rfl):FE X F (.ListComp elt [⟨tg,iter,[],0⟩] scope pos) (eComp own cap git g tTrue ge) :=
 (sF (ifs:=[]) b bx.calm (by simp) hi hg (fun c q=>nomatch q) he hs).weak fun σ H Q ⟨Z,S,ok,w⟩ =>
  i7 (fun _=>rfl) hgo ok w fun D ys ds H' Z' _ p h1 h2 r=>p _ (by rw[Rep];exact⟨D,ys,rfl,SqL.of h2,r⟩)
theorem dR {k:Nat}{c:Expr}(bx:BX X F k)(b:BlkOk X.N X.env.scope scope N own cap)(hi:FI X F tg iter git)(hgo:Own own g)
  (hg:∀ cl C s H fp,FG (blk X scope cl C s H fp N) (noE F) tg g) (ht:∀ cl C s H fp,FT (blk X scope cl C s H fp N) (noE F) c gc) (he:∀ cl C s H fp,FE (blk X scope cl C s H fp N) (noE F) elt ge)
  (hs:∀ x,foldedSetIterable iter X.env x=pure x:=by intro _;rfl):FE X F (.ListComp elt [⟨tg,iter,[c],0⟩] scope pos) (eComp own cap git g gc ge) :=
 (sF b bx.calm (by simp) hi hg (fun c' q=>by cases q;exact ht) he hs).weak fun σ H Q ⟨Z,S,ok,w⟩ =>
  i7 (fun q=>nomatch q) hgo ok w fun D ys ds H' Z' _ p h1 h2 r=>p _ (by rw[Rep];exact⟨D,ys,rfl,SqL.of h2,r⟩)
theorem WG.unbind {α β:Type}{F:Fx}{H Z:Hp}{r:R α}{f:α→β}{P:β→Hp→Hp→Prop}(w:WG F H Z (r.bind fun d=>.ok (f d)) P):WG F H Z r fun d H' Z'=>P (f d) H' Z':=by
 cases r with
 | ok d=>exact w
 | err k=>exact w
 | stuck=>exact w
theorem wj {i:Nat}{D:Ends}{σ:St}{H Z:Hp}{S:SS}(hgc:ifs=[]→gc=tTrue)(hgo:Own own g)(ok:StOk F H Z S σ)(w:WO F Z (sSet i (eComp own cap git g gc ge) S) D) :
  tCompSet i own cap (tI F git) (tGd (noE F) g) (tTests ifs (tT (noE F) gc)) (tE (noE F) ge) D σ H :=
 i7 (P:=fun d _ Z'=>WO F Z' (.nx (S.set i (some (.val d)))) D) (Q:=fun a H'=>D.nx (σ.set i (some (.ref a))) H') hgc hgo ok (WG.unbind (WO.wg ok w)) fun a ys ds H' Z' x p h1 h2 r =>
  p _ H' Z' (Same.refl _) ((ok.more x).setVal (by rw[Rep];exact⟨a,ys,rfl,SqL.of h2,r⟩))
theorem nG {k:Nat}(i:Nat){y:Str}{py spos:Pos}{c:Expr}(bx:BX X F k)(b:BlkOk X.N X.env.scope scope N own cap)(hi:FI X F tg iter git)(hgo:Own own g)
  (hg:∀ cl C s H fp,FG (blk X scope cl C s H fp N) (noE F) tg g) (ht:∀ cl C s H fp,FT (blk X scope cl C s H fp N) (noE F) c gc) (he:∀ cl C s H fp,FE (blk X scope cl C s H fp N) (noE F) elt ge) (hN:X.N.Nodup)
  (hsw:swapsWith (.ListComp elt [⟨tg,iter,[c],0⟩] scope pos) (some (.Name y py)) spos.line X.env=pure true:=by rfl) (hiy:X.N[i]?=some y:=by rfl) (hy:Loc X.env.scope y:=by first | exact Or.inl rfl | exact Or.inr rfl)
  (hfn:X.fn y=true∨X.env.scope.names.lookup y=some .local:=by first | exact .inl rfl | exact .inr rfl) (hs:∀ x,foldedSetIterable iter X.env x=pure x:=by intro _;rfl) :
  FS X F (.Assign [.Name y py] (.ListComp elt [⟨tg,iter,[c],0⟩] scope pos) spos) (sSet i (eComp own cap git g gc ge)) :=
 (q9 (ifs:=[c]) b bx.calm (by simp) hi hg (fun c' q=>by cases q;exact ht) he hN hiy hy hfn hsw hs).weak fun D σ H ⟨Z,S,ok,w⟩=>wj (fun q=>nomatch q) hgo ok w
end
mutual
theorem ic:∀ (n:Nat) (d:D),good n d=true→eqD d d=true
 | n,.non,_=>by simp[eqD]
 | n,.bl b,_=>by simp[eqD]
 | n,.int i,_=>by simp[eqD]
 | n,.str x,_=>by simp[eqD]
 | 0,.tup xs,h=>by simp[good]at h
 | 0,.lst xs,h=>by simp[good]at h
 | n+1,.tup xs,h=>by rw[good]at h;rw[eqD];exact i8 n xs h
 | n+1,.lst xs,h=>by rw[good]at h;rw[eqD];exact i8 n xs h
 | n,.exc k,h=>by cases n<;>simp[good]at h
 | n,.fn k,h=>by cases n<;>simp[good]at h
 | n,.tab ks xs,h=>by cases n<;>simp[good]at h
 | n,.dic ks xs,h=>by cases n<;>simp[good]at h
 | n,.ptr a,h=>by cases n<;>simp[good]at h
theorem i8:∀ (n:Nat) (ds:List D),goods n ds=true→eqDs ds ds=true
 | n,[],_=>by simp[eqDs]
 | n,d::ds,h=>by
  rw[goods,Bool.and_eq_true]at h
  rw[eqDs,ic n d h.1,i8 n ds h.2]
  rfl
end
theorem i9 {n:Nat}:∀ {ds:List D} {i:Nat} {d:D},goods n ds=true→ds[i]?=some d→good n d=true
 | [],_,_,_,e=>by simp at e
 | x::xs,0,d,h,e=>by
  rw[goods,Bool.and_eq_true]at h
  simp at e;subst e;exact h.1
 | x::xs,i+1,d,h,e=>by
  rw[goods,Bool.and_eq_true]at h
  exact i9 h.2 (by simpa using e)
theorem oK:∀ (ds es:List D),eqDs ds es=((List.range (min ds.length es.length)).all (fun j=>eqD (ds.getD j .non) (es.getD j .non))&&ds.length==es.length)
 | [],[]=>by simp[eqDs]
 | [],e::es=>by simp[eqDs]
 | d::ds,[]=>by simp[eqDs]
 | d::ds,e::es=>by
  rw[eqDs,oK ds es]
  have h1:min (d::ds).length (e::es).length=min ds.length es.length+1:=by simp only[List.length_cons];omega
  rw[h1,List.range_succ_eq_map,List.all_cons,List.all_map]
  have h2:((d::ds).length==(e::es).length)=(ds.length==es.length):=by simp
  rw[h2]
  simp only[List.getD_cons_zero,Bool.and_assoc]
  rfl
section
variable {X:Cx}{F:Fx}{pins:List (Addr×Obj)}{σ:St}{H Z:Hp}{s:Shared}
theorem mX {a:Addr}{xs ys:List V}(I:Inv X pins σ H s)(h:SqL X.K H a xs)(h':SqT X.K H a ys):False:=by
 obtain⟨its,r,p,_⟩:=I.list h
 obtain⟨its',r',p',_⟩:=I.tuple h'
 exact SeqAt.ne_of_list_tuple p.isList (show s.heap.IsTuple a its'.toArray from p') rfl
mutual
theorem nH {K:PySem.W.Frag}{C:Nat→Addr}(hK:X.K=K)(I:Inv X pins σ H s)(z:Same Z H):∀ (n:Nat) (d e:D) (v:V),good n d=true→good n e=true→Rep K C Z d v→Rep K C Z e v→d=e
 | n,.non,e,v,g1,g2,h,h'=>by rw[Rep]at h;subst h;cases e<;>rw[Rep]at h'<;>first | rfl | (obtain⟨_,_,q,_⟩:=h';cases q;done) | (obtain⟨_,q,_⟩:=h';cases q;done) | (cases h';done)
 | n,.bl b,e,v,g1,g2,h,h'=>by rw[Rep]at h;subst h;cases e<;>rw[Rep]at h'<;>first | (cases h';rfl) | (obtain⟨_,_,q,_⟩:=h';cases q;done) | (obtain⟨_,q,_⟩:=h';cases q;done) | (cases h';done)
 | n,.int b,e,v,g1,g2,h,h'=>by rw[Rep]at h;subst h;cases e<;>rw[Rep]at h'<;>first | (cases h';rfl) | (obtain⟨_,_,q,_⟩:=h';cases q;done) | (obtain⟨_,q,_⟩:=h';cases q;done) | (cases h';done)
 | n,.str b,e,v,g1,g2,h,h'=>by rw[Rep]at h;subst h;cases e<;>rw[Rep]at h'<;>first | (cases h';rfl) | (obtain⟨_,_,q,_⟩:=h';cases q;done) | (obtain⟨_,q,_⟩:=h';cases q;done) | (cases h';done)
 | 0,.tup xs,e,v,g1,g2,h,h'=>by simp[good]at g1
 | 0,.lst xs,e,v,g1,g2,h,h'=>by simp[good]at g1
 | n,.exc k,e,v,g1,g2,h,h'=>by cases n<;>simp[good]at g1
 | n,.fn k,e,v,g1,g2,h,h'=>by cases n<;>simp[good]at g1
 | n,.tab ks xs,e,v,g1,g2,h,h'=>by cases n<;>simp[good]at g1
 | n,.dic ks xs,e,v,g1,g2,h,h'=>by cases n<;>simp[good]at g1
 | n,.ptr a,e,v,g1,g2,h,h'=>by cases n<;>simp[good]at g1
 | n+1,.tup ds,e,v,g1,g2,h,h'=>by
  rw[Rep]at h
  obtain⟨a,vs,rfl,h1,h2⟩:=h
  cases e with
  | tup es =>
   rw[Rep]at h'
   obtain⟨b,us,q,k1,k2⟩:=h'
   cases q
   have e1:vs=us:=I.tuple_inj (by rw[hK];exact h1.mono z) (by rw[hK];exact k1.mono z)
   subst e1
   rw[good]at g1 g2
   rw[kI hK I z n ds es vs g1 g2 h2 k2]
  | lst es =>
   rw[Rep]at h'
   obtain⟨b,us,q,k1,k2⟩:=h'
   cases q
   exact(mX I (by rw[hK];exact z.seq k1) (by rw[hK];exact h1.mono z)).elim
  | exc k=>simp[good]at g2
  | fn k=>simp[good]at g2
  | tab ks xs=>simp[good]at g2
  | dic ks xs=>simp[good]at g2
  | ptr a=>simp[good]at g2
  | _=>rw[Rep]at h';cases h'
 | n+1,.lst ds,e,v,g1,g2,h,h'=>by
  rw[Rep]at h
  obtain⟨a,vs,rfl,h1,h2⟩:=h
  cases e with
  | lst es =>
   rw[Rep]at h'
   obtain⟨b,us,q,k1,k2⟩:=h'
   cases q
   have e1:vs=us:=I.list_inj (by rw[hK];exact z.seq h1) (by rw[hK];exact z.seq k1)
   subst e1
   rw[good]at g1 g2
   rw[kI hK I z n ds es vs g1 g2 h2 k2]
  | tup es =>
   rw[Rep]at h'
   obtain⟨b,us,q,k1,k2⟩:=h'
   cases q
   exact(mX I (by rw[hK];exact z.seq h1) (by rw[hK];exact k1.mono z)).elim
  | exc k=>simp[good]at g2
  | fn k=>simp[good]at g2
  | tab ks xs=>simp[good]at g2
  | dic ks xs=>simp[good]at g2
  | ptr a=>simp[good]at g2
  | _=>rw[Rep]at h';cases h'
theorem kI {K:PySem.W.Frag}{C:Nat→Addr}(hK:X.K=K)(I:Inv X pins σ H s)(z:Same Z H):∀ (n:Nat) (ds es:List D) (vs:List V),goods n ds=true→goods n es=true→Reps K C Z ds vs→Reps K C Z es vs→ds=es
 | n,[],es,vs,g1,g2,h,h'=>by
  rw[Reps]at h;subst h
  cases es with
  | nil=>rfl
  | cons e es=>rw[Reps]at h';obtain⟨_,_,q,_⟩:=h';cases q
 | n,d::ds,es,vs,g1,g2,h,h'=>by
  rw[Reps]at h
  obtain⟨v,r,rfl,h1,h2⟩:=h
  cases es with
  | nil=>rw[Reps]at h';cases h'
  | cons e es =>
   obtain⟨k1,k2⟩:=h'.uncons
   rw[goods,Bool.and_eq_true]at g1 g2
   rw[nH hK I z n d e v g1.1 g2.1 h1 k1,kI hK I z n ds es r g1.2 g2.2 h2 k2]
end
def flatD:D→Bool
 | .non=>true
 | .bl _=>true
 | .int _=>true
 | .str _=>true
 | _=>false
theorem oM {K:PySem.W.Frag}{C:Nat→Addr}{d:D}{v:V}(f:flatD d=true)(h:Rep K C Z d v):flatV v=true:=by
 cases d<;>first | (rw[Rep]at h;subst h;rfl) | simp[flatD]at f
theorem wl {K:PySem.W.Frag}{C:Nat→Addr}{d e:D}{v u:V}(f1:flatD d=true)(f2:flatD e=true)(h:Rep K C Z d v)(h':Rep K C Z e u):eqV v u=eqD d e:=by
 cases d<;>first | (simp[flatD]at f1;done) | (cases e<;>first | (simp[flatD]at f2;done) | (rw[Rep]at h;rw[Rep]at h';subst h;subst h';simp[eqV,eqD]))
section
variable {X:Cx}{pins:List (Addr×Obj)}{σ:St}{H Z:Hp}{s:Shared}{K:PySem.W.Frag}{C:Nat→Addr}
theorem kd (hK:X.K=K)(I:Inv X pins σ H s)(z:Same Z H){n:Nat}{d:D}{v:V}{x:Value}(g:good n d=true)(h:Rep K C Z d v)(r:RelV v x) :
  (d=.non∧x=.none)∨(∃ b,d=.bl b∧x=.bool b)∨(∃ i t,d=.int i∧x=.int i t)∨(∃ a t,d=.str a∧x=.str a t) ∨
  ∃ m ds vs its a,n=m+1∧goods m ds=true∧Reps K C Z ds vs∧Vals vs its∧v=.ref a∧x=.ref a∧((d=.tup ds∧s.heap.IsTuple a its.toArray)∨(d=.lst ds∧s.heap.IsList a its.toArray)):=by
 subst hK
 cases d with
 | non=>rw[Rep]at h;subst h;cases r;exact .inl ⟨rfl,rfl⟩
 | bl b=>rw[Rep]at h;subst h;cases r;exact .inr (.inl ⟨_,rfl,rfl⟩)
 | int i=>rw[Rep]at h;subst h;obtain⟨t,rfl⟩:=r;exact .inr (.inr (.inl ⟨_,_,rfl,rfl⟩))
 | str a=>rw[Rep]at h;subst h;obtain⟨t,rfl⟩:=r;exact .inr (.inr (.inr (.inl ⟨_,_,rfl,rfl⟩)))
 | tup ds =>
  cases n with
  | zero=>simp[good]at g
  | succ m =>
   rw[Rep]at h
   obtain⟨a,vs,rfl,h1,h2⟩:=h
   cases r
   obtain⟨its,r,p,_⟩:=I.tuple (h1.mono z)
   exact .inr (.inr (.inr (.inr ⟨m,ds,vs,its,a,rfl,g,h2,r,rfl,rfl,.inl ⟨rfl,p⟩⟩)))
 | lst ds =>
  cases n with
  | zero=>simp[good]at g
  | succ m =>
   rw[Rep]at h
   obtain⟨a,vs,rfl,h1,h2⟩:=h
   cases r
   obtain⟨its,r,p,_⟩:=I.list (z.seq h1)
   exact .inr (.inr (.inr (.inr ⟨m,ds,vs,its,a,rfl,g,h2,r,rfl,rfl,.inr ⟨rfl,p.isList⟩⟩)))
 | _=>cases n<;>simp[good]at g
theorem els {n:Nat}{A:Around}(ih:∀ (d e:D) (v u:V) (x y:Value),good n d=true→good n e=true→Rep K C Z d v→Rep K C Z e u→RelV v x→RelV u y→SeqAt.EqAt A s x y (eqD d e)){ds es:List D}{vs us:List V}{its its2:List Value}(g1:goods n ds=true)(g2:goods n es=true)(h2:Reps K C Z ds vs)(k2:Reps K C Z es us)(r:Vals vs its)(r2:Vals us its2)
  (j:Nat) (j1:j < its.toArray.size) (j2:j < its2.toArray.size):SeqAt.EqAt A s its.toArray[j] its2.toArray[j] (eqD (ds.getD j .non) (es.getD j .non)):=by
 have l1:j < ds.length:=by rw[h2.length,r.length];simpa using j1
 have l2:j < es.length:=by rw[k2.length,r2.length];simpa using j2
 have e1:ds[j]?=some ds[j]:=by simp
 have e2:es[j]?=some es[j]:=by simp
 obtain⟨w1,f1,f2⟩:=h2.get e1
 obtain⟨w2,f3,f4⟩:=k2.get e2
 obtain⟨z1,m1,m2⟩:=r.get f1
 obtain⟨z2,m3,m4⟩:=r2.get f3
 have n1:its.toArray[j]=z1:=by simpa [show j < its.length by simpa using j1] using m1
 have n2:its2.toArray[j]=z2:=by simpa [show j < its2.length by simpa using j2] using m3
 rw[n1,n2,show ds.getD j .non=ds[j] by simp[l1],show es.getD j .non=es[j] by simp[l2]]
 exact ih _ _ w1 w2 z1 z2 (i9 g1 e1) (i9 g2 e2) f2 f4 m2 m4
set_option maxHeartbeats 4000000 in
theorem eqB (hK:X.K=K)(I:Inv X pins σ H s)(z:Same Z H):∀ (n:Nat) (A:Around) (d e:D) (v u:V) (x y:Value),good n d=true→good n e=true→Rep K C Z d v→Rep K C Z e u→RelV v x→RelV u y→A.units+n < cLine→SeqAt.EqAt A s x y (eqD d e)∧SeqAt.RcAt A s x y (eqD d e)∧SeqAt.RcNeAt A s x y (!eqD d e)
 | n,A,d,e,v,u,x,y,g1,g2,h,h',rx,ry,hu=>by
  have u0:A.units < cLine:=by omega
  have hh:=h
  have hh':=h'
  have fl:flatD d=true→flatD e=true→SeqAt.EqAt A s x y (eqD d e):=fun f1 f2=>by rw[← wl f1 f2 h h'];exact Am rx ry (oM f1 h) (oM f2 h')
  rcases kd hK I z g1 h rx with ⟨rfl,rfl⟩ | ⟨_,rfl,rfl⟩ | ⟨_,_,rfl,rfl⟩ | ⟨_,_,rfl,rfl⟩ | ⟨m,ds,vs,its,a,rfl,w1,h2,r,rfl,rfl,⟨rfl,p⟩ | ⟨rfl,p⟩⟩ <;>
  rcases kd hK I z g2 h' ry with ⟨rfl,rfl⟩ | ⟨_,rfl,rfl⟩ | ⟨_,_,rfl,rfl⟩ | ⟨_,_,rfl,rfl⟩ | ⟨m2,es,us,its2,b,e0,w2,k2,r2,rfl,rfl,⟨rfl,q⟩ | ⟨rfl,q⟩⟩ <;>
  simp only[eqD,Bool.not_false,Bool.not_true]at fl ⊢ <;>
  try (refine⟨?_,?_,?_⟩<;>with_reducible first
   | exact fl rfl rfl
   | exact .none_none | exact .none_bool _ | exact .none_int _ _ | exact .none_str _ _ | exact .none_tuple q u0 | exact .none_list q u0
   | exact .bool_none _ | exact .bool_bool _ _ | exact .bool_int _ _ _ | exact .bool_str _ _ _ | exact .bool_tuple _ q u0 | exact .bool_list _ q u0
   | exact .int_none _ _ | exact .int_bool _ _ _ | exact .int_int _ _ _ _ | exact .int_str _ _ _ _ | exact .int_tuple _ _ q u0 | exact .int_list _ _ q u0
   | exact .str_none _ _ | exact .str_bool _ _ _ | exact .str_int _ _ _ _ | exact .str_str _ _ _ _ | exact .str_tuple _ _ q u0 | exact .str_list _ _ q u0
   | exact .tuple_none p u0 | exact .tuple_bool _ p u0 | exact .tuple_int _ _ p u0 | exact .tuple_str _ _ p u0 | exact .tuple_list p q u0
   | exact .list_none p u0 | exact .list_bool _ p u0 | exact .list_int _ _ p u0 | exact .list_str _ _ p u0 | exact .list_tuple p q u0)
  all_goals
   cases e0
   have el:=els (A:=A.in1) (fun d e v u x y g1 g2 h h' rx ry=>(eqB hK I z m A.in1 d e v u x y g1 g2 h h' rx ry (by show A.units+1+m < cLine;omega)).1) w1 w2 h2 k2 r r2
   have s1:its.toArray.size=ds.length:=by rw[List.size_toArray,h2.length,r.length]
   have s2:its2.toArray.size=es.length:=by rw[List.size_toArray,k2.length,r2.length]
   have both:∀ {c:Bool},(a=b→c=true)→SeqAt.RcAt A s (.ref a) (.ref b) c→SeqAt.EqAt A s (.ref a) (.ref b) c:=fun {c} hc w=>by
    by_cases hab:a=b
    ·subst hab;rw[hc rfl];exact .same _
    ·exact .of_refs hab w
   have rf:a=b→eqDs ds es=true:=fun hab=>by
    subst hab
    have t:=nH hK I z (m+1) _ _ _ g1 g2 hh hh'
    have w:=ic (m+1) _ g1
    cases t
    simpa only[eqD] using w
   rw[oK]at rf ⊢
  ·have q1:=SeqAt.RcAt.tuples (A:=A) (e:=fun j=>eqD (ds.getD j .non) (es.getD j .non)) p q u0 el
   have q2:=SeqAt.RcNeAt.tuples (A:=A) (e:=fun j=>eqD (ds.getD j .non) (es.getD j .non)) p q u0 el
   rw[s1,s2]at q1 q2
   exact⟨both rf q1,q1,q2⟩
  ·by_cases hs:ds.length=es.length
   ·have q1:=SeqAt.RcAt.lists (A:=A) (e:=fun j=>eqD (ds.getD j .non) (es.getD j .non)) p q (by rw[s1,s2];exact hs) u0 el
    have q2:=SeqAt.RcNeAt.lists (A:=A) (e:=fun j=>eqD (ds.getD j .non) (es.getD j .non)) p q (by rw[s1,s2];exact hs) u0 el
    rw[s1]at q1 q2
    rw[hs,Nat.min_self,beq_self_eq_true,Bool.and_true,← hs]at rf ⊢
    exact⟨both rf q1,q1,q2⟩
   ·rw[show (ds.length==es.length)=false by simpa using hs,Bool.and_false]at rf ⊢
    have q1:=SeqAt.RcAt.lists_lengths (A:=A) p q (by rw[s1,s2];simpa using hs) u0
    exact⟨both rf q1,q1,SeqAt.RcNeAt.lists_lengths p q (by rw[s1,s2];simpa using hs) u0⟩
end
theorem wm {K:PySem.W.Frag}{C:Nat→Addr}(hK:X.K=K)(I:Inv X pins σ H s)(z:Same Z H)(n:Nat)(A:Around)(d e:D)(v u:V)(x y:Value)(g1:good n d=true)(g2:good n e=true)(h:Rep K C Z d v)(h':Rep K C Z e u)(rx:RelV v x)(ry:RelV u y)(hu:A.units+n < cLine):SeqAt.EqAt A s x y (eqD d e):=(eqB hK I z n A d e v u x y g1 g2 h h' rx ry hu).1
end
def dAdd (x y:D):R D:=if isInt x=true then dI0 (fun i j=>.int (i+j)) x y else if isTup x=true then dCatT x y else dCatL x y
def dSub:D→D→R D:=dI0 fun i j=>.int (i - j)
def dMul (x y:D):R D:=if isInt x=true then dI cMul (fun i j=>.int (i*j)) x y else if isTup x=true then dRepT x y else dRepL x y
def dDiv:D→D→R D:=dI cDiv fun i j=>.int (i/j)
def dMod:D→D→R D:=dI (fun _ j=>decide (0 < j)) fun i j=>.int (i%j)
def dLt:D→D→R D:=dI0 fun i j=>.bl (decide (i < j))
def dLe:D→D→R D:=dI0 fun i j=>.bl (decide (i≤j))
def dGt:D→D→R D:=dI0 fun i j=>.bl (decide (j < i))
def dGe:D→D→R D:=dI0 fun i j=>.bl (decide (j≤i))
theorem aO {K:PySem.W.Frag}{C:Nat→Addr}{Z:Hp}{i:Int}:Rep K C Z (.int i) (.int i):=by rw[Rep]
theorem aR {K:PySem.W.Frag}{C:Nat→Addr}{Z:Hp}{i:Bool}:Rep K C Z (.bl i) (.bl i):=by rw[Rep]
section
variable {X:Cx}{F:Fx}{a b c:Expr}{ga gb gc:SS→R D}{pos:Pos}
theorem kJ (ha:FE X F a ga)(hb:FE X F b gb):FE X F (.BinOp a .Sub b pos) (eOp dSub ga gb):=oG Af (bR fun _ _ _=>aO) ha hb
theorem gH (ha:FE X F a ga)(hb:FE X F b gb):FE X F (.BinOp a .FloorDiv b pos) (eOp dDiv ga gb):=oG yk (v3 yx fun _ _ _=>aO) ha hb
theorem dO (ha:FE X F a ga)(hb:FE X F b gb):FE X F (.BinOp a .Mod b pos) (eOp dMod ga gb):=oG Ah (v3 (fun i j h=>of_decide_eq_true h) fun _ _ _=>aO) ha hb
theorem zH (ha:FE X F a ga)(hb:FE X F b gb):FE X F (.Compare a [.Lt] [b] pos) (eOp dLt ga gb):=kD sx (bR fun _ _ _=>aR) ha hb
theorem Ba (ha:FE X F a ga)(hb:FE X F b gb):FE X F (.Compare a [.LtE] [b] pos) (eOp dLe ga gb):=kD oC (bR fun _ _ _=>aR) ha hb
theorem Bb (ha:FE X F a ga)(hb:FE X F b gb):FE X F (.Compare a [.GtE] [b] pos) (eOp dGe ga gb):=kD zC (bR fun _ _ _=>aR) ha hb
theorem zI (ha:FE X F a ga)(hb:FE X F b gb):FT X F (.Compare a [.Lt] [b] pos) (gB (eOp dLt ga gb)):=gG sx (bR fun _ _ _=>aR) ha hb
theorem wn (ha:FE X F a ga)(hb:FE X F b gb):FT X F (.Compare a [.Gt] [b] pos) (gB (eOp dGt ga gb)):=gG A6 (bR fun _ _ _=>aR) ha hb
theorem Bc (ha:FE X F a ga)(hb:FE X F b gb):FT X F (.Compare a [.GtE] [b] pos) (gB (eOp dGe ga gb)):=gG zC (bR fun _ _ _=>aR) ha hb
theorem ag (hK:X.K=F.K)(ha:FE X F a ga)(hb:FE X F b gb)(hs:PlainIx b:=by intro _ _;rfl):FE X F (.Subscript a b pos) (eOp dIx ga gb):=A9 Al (by rw[hK];exact As) ha hb hs
theorem yF:OpR X (binaryOp .Add) (fun x y H Q=>rI0 (fun i j=>.int (i+j)) x y H Q∨(rCat2 X.K x y H Q∨∃ a b xs ys,x=.ref a∧y=.ref b∧SqL X.K H a xs∧SqL X.K H b ys∧xs.length+ys.length≤sizeLine∧∀ p,H p=none→Q (.ref p) (upd H p (.lst (xs++ys))))) :=
 Ae.or (yy.or v7)
theorem ay (hK:X.K=F.K)(ha:FE X F a ga)(hb:FE X F b gb):FE X F (.BinOp a .Add b pos) (eOp dAdd ga gb) :=
 oG yF (by rw[hK];exact OpD.or (fun x _=>isInt x) (bR fun _ _ _=>aO) (OpD.or (fun x _=>isTup x) v4 v6)) ha hb
theorem bz (hK:X.K=F.K)(ha:FE X F a ga)(hb:FE X F b gb):FE X F (.BinOp a .Mult b pos) (eOp dMul ga gb) :=
 oG (Ag.or (yz.or yA)) (by rw[hK];exact OpD.or (fun x _=>isInt x) (v3 yw fun _ _ _=>aO) (OpD.or (fun x _=>isTup x) v5 v8)) ha hb
end
def dEq (x y:D):R D:=if good 60 x=true∧good 60 y=true then .ok (.bl (eqD x y)) else .stuck
def rEqD (K:PySem.W.Frag)(C:Nat→Addr):R2:=fun x y H Q=>∃ Z d e,Same Z H∧Rep K C Z d x∧Rep K C Z e y∧good 60 d=true∧good 60 e=true∧Q (.bl (eqD d e)) H
section
variable {X:Cx}{F:Fx}{a b c:Expr}{ga gb gc:SS→R D}{pos:Pos}{k:Nat}
theorem wq (hK:X.K=F.K)(hr:Room k X.A):OpR X (compareOp .Eq) (rEqD F.K F.C):=by
 intro pins s σ H x y v u Q I rx ry h
 obtain⟨Z,d,e,z,h1,h2,g1,g2,q⟩:=h
 have hu:X.A.units+60 < cLine:=by have:=hr.un;omega
 exact(eqB hK I z 60 X.A d e x y v u g1 g2 h1 h2 rx ry hu).2.1 X.prog X.w X.xe _ ⟨.bl (eqD d e),H,I,rfl,q⟩
theorem wr:OpD F (rEqD F.K F.C) dEq:=by
 intro H Z x y dx dy Q s rx ry w
 unfold dEq at w
 split at w
 ·rename_i g
  exact⟨Z,dx,dy,s,rx,ry,g.1,g.2,WG.now w s _ aR⟩
 ·exact w.elim
theorem oN (bx:BX X F k)(ha:FE X F a ga)(hb:FE X F b gb):FE X F (.Compare a [.Eq] [b] pos) (eOp dEq ga gb):=kD (wq bx.K bx.room) wr ha hb
theorem kK (bx:BX X F k)(ha:FE X F a ga)(hb:FE X F b gb):FT X F (.Compare a [.Eq] [b] pos) (gB (eOp dEq ga gb)):=gG (wq bx.K bx.room) wr ha hb
end
def eChain (f f':D→D→R D)(ga gb gc:SS→R D):SS→R D:=fun S=>(ga S).bind fun x=>(gb S).bind fun y=>(asB (f x y)).bind fun k=>if k=true then (gc S).bind fun w=>f' y w else .ok (.bl false)
section
variable {X:Cx}{F:Fx}{a b c:Expr}{ga gb gc:SS→R D}{pos:Pos}{r r':R2}{f f':D→D→R D}{op op':CmpOp}
theorem mY (hd:OpD F r f)(hd':OpD F r' f'):∀ σ H Q,tE F (eChain f f' ga gb gc) σ H Q→tChain r r' (tE F ga) (tE F gb) (tE F gc) σ H Q:=fun σ H Q ⟨Z,S,ok,w⟩ =>
 aM ok w fun dx x H1 Z1 ok1 x1 rx w1=>aM ok1 w1 fun dy y H2 Z2 ok2 x2 ry w2=>hd H2 Z2 x y dx dy _ ok2.sub (rx.mono x2.z) ry (by
  cases e:f dx dy with
  | err k=>rw[e]at w2;exact w2
  | stuck=>rw[e]at w2;exact w2
  | ok d =>
   rw[e]at w2
   intro H3 Z3 x3 v rv
   cases d with
   | bl k =>
    rw[Rep]at rv
    subst rv
    have w3:=WG.more w2 x3
    refine⟨k,rfl,?_⟩
    have ok3:=ok2.more x3
    cases k with
    | false=>exact WG.now w3 ok3.sub _ aR
    | true=>exact aM ok3 w3 fun dw wv H4 Z4 ok4 x4 rw' w4=>hd' H4 Z4 y wv dy dw Q ok4.sub (ry.mono (x3.z.trans x4.z)) rw' w4
   | _=>exact w2.elim)
theorem oO (ho:OpR X (compareOp op) r)(ho':OpR X (compareOp op') r')(hd:OpD F r f)(hd':OpD F r' f')(ha:FE X F a ga)(hb:FE X F b gb)(hc:FE X F c gc)(hm:lastMarks [op,op'] [b,c]=false:=by with_unfolding_all rfl) :
  FE X F (.Compare a [op,op'] [b,c] pos) (eChain f f' ga gb gc):=(vP ho ho' ha hb hc hm).weak (mY hd hd')
theorem wu (ho:OpR X (compareOp op) r)(ho':OpR X (compareOp op') r')(hd:OpD F r f)(hd':OpD F r' f')(ha:FE X F a ga)(hb:FE X F b gb)(hc:FE X F c gc)(hm:lastMarks [op,op'] [b,c]=false:=by with_unfolding_all rfl) :
  FT X F (.Compare a [op,op'] [b,c] pos) (gB (eChain f f' ga gb gc)):=(vQ ho ho' ha hb hc hm).weak (sC (mY hd hd'))
theorem sK (ha:FE X F a ga)(hb:FE X F b gb)(hc:FE X F c gc)(hm:lastMarks [.LtE,.LtE] [b,c]=false:=by with_unfolding_all rfl):FE X F (.Compare a [.LtE,.LtE] [b,c] pos) (eChain dLe dLe ga gb gc):=oO oC oC (bR fun _ _ _=>aR) (bR fun _ _ _=>aR) ha hb hc hm
theorem nI (ha:FE X F a ga)(hb:FE X F b gb)(hc:FE X F c gc)(hm:lastMarks [.LtE,.Lt] [b,c]=false:=by with_unfolding_all rfl):FE X F (.Compare a [.LtE,.Lt] [b,c] pos) (eChain dLe dLt ga gb gc):=oO oC sx (bR fun _ _ _=>aR) (bR fun _ _ _=>aR) ha hb hc hm
theorem yG (ha:FE X F a ga)(hb:FE X F b gb)(hc:FE X F c gc)(hm:lastMarks [.LtE,.Lt] [b,c]=false:=by with_unfolding_all rfl):FT X F (.Compare a [.LtE,.Lt] [b,c] pos) (gB (eChain dLe dLt ga gb gc)):=wu oC sx (bR fun _ _ _=>aR) (bR fun _ _ _=>aR) ha hb hc hm
end
def dIs:D→D→R D
 | x,.non=>.ok (.bl (match x with | .non=>true | _=>false))
 | x,.bl b=>.ok (.bl (match x with | .bl a=>a==b | _=>false))
 | _,_=>.stuck
section
variable {X:Cx}{F:Fx}{a b:Expr}{ga gb:SS→R D}{pos:Pos}
end
def cutD (xs:List D)(lo hi:Option Int):List D:=(xs.drop (HT.sIx xs.length 0 lo)).take (HT.sIx xs.length xs.length hi - HT.sIx xs.length 0 lo)
def dSl (d:D)(lo hi:Option Int):R D:=match d with
 | .lst xs=>.ok (.lst (cutD xs lo hi))
 | .tup xs=>if HT.sIx xs.length 0 lo=0∧HT.sIx xs.length xs.length hi=xs.length then .stuck else .ok (.tup (cutD xs lo hi))
 | _=>.stuck
section
variable {X:Cx}{F:Fx}{e:Expr}{lo hi:Option Expr}{g:SS→R D}{l h:SS→R (Option Int)}{pos p2:Pos}
end
def CallD (F:Fx)(r:List V→Hp→VK→Prop)(f:List D→R D):Prop:=∀ (H Z:Hp) (xs:List V) (ds:List D) (Q:VK),Same Z H→Reps F.K F.C Z ds xs→WG F H Z (f ds) (fun d H' Z'=>∀ v,Rep F.K F.C Z' d v→Q v H')→r xs H Q
section
variable {X:Cx}{F:Fx}{x:Str}{p pos:Pos}{e:Expr}{es:List Expr}{gs:SS→R (List D)}{id T:String}{r:List V→Hp→VK→Prop}{f:List D→R D}
theorem wx (hd:CallD F r f):∀ σ H Q,tE F (eCall f gs) σ H Q→tCB r (tAl F gs) σ H Q:=fun σ H Q ⟨Z,S,ok,w⟩=>aS ok w fun ds vs H1 Z1 ok1 x1 rs w1=>hd H1 Z1 vs ds Q ok1.sub rs w1
theorem fv (hc:CallR X (.builtin id) r)(hd:CallD F r f)(hg:Gl X x)(hm:X.mg x=none)(hv:bootBuiltins x=some (.builtin id))(ha:FA X F (e::es) gs)(hn:x ≠ "__name__" := by decide)(hdb:(x==("__debug__":Str))=false:=by decide)
  (he:starEach (e::es) X.env=(false,eval e X.env)::starEach es X.env:=by rfl) (hpl:(backTo pos (starEach es X.env)).any (·.1)=false:=by rfl):FE X F (.Call (.Name x p) (e::es) [] pos) (eCall f gs):=(ft hc hg hm hv ha hn hdb he hpl).weak (wx hd)
theorem ut (hc:CallR X (.type T) r)(hd:CallD F r f)(hg:Gl X x)(hm:X.mg x=none)(hv:bootBuiltins x=some (.type T))(ha:FA X F (e::es) gs)(hn:x ≠ "__name__" := by decide)(hdb:(x==("__debug__":Str))=false:=by decide)
  (he:starEach (e::es) X.env=(false,eval e X.env)::starEach es X.env:=by rfl) (hpl:(backTo pos (starEach es X.env)).any (·.1)=false:=by rfl):FE X F (.Call (.Name x p) (e::es) [] pos) (eCall f gs):=(ud hc hg hm hv ha hn hdb he hpl).weak (wx hd)
end
theorem a9 {K:PySem.W.Frag}{C:Nat→Addr}{Z:Hp}{d:D}{vs:List V}(r:Reps K C Z [d] vs):∃ v,vs=[v]∧Rep K C Z d v:=by
 rw[Reps]at r
 obtain⟨v,r',rfl,h1,h2⟩:=r
 rw[Reps]at h2
 grind
def dLen:List D→R D
 | [.lst xs]=>.ok (.int xs.length)
 | [.tup xs]=>.ok (.int xs.length)
 | _=>.stuck
theorem uu {F:Fx}:CallD F (fun xs H Q=>∃ p ys,xs=[.ref p]∧(SqL F.K H p ys∨SqT F.K H p ys)∧Q (.int ys.length) H) dLen:=by
 intro H Z xs ds Q s rs w
 unfold dLen at w
 split at w
 ·obtain⟨v,rfl,h⟩:=a9 rs
  rw[Rep]at h
  obtain⟨a,vs,rfl,h1,h2⟩:=h
  exact⟨a,vs,rfl,.inl (s.seq h1),by rw[← h2.length];exact WG.now w s _ aO⟩
 ·obtain⟨v,rfl,h⟩:=a9 rs
  rw[Rep]at h
  obtain⟨a,vs,rfl,h1,h2⟩:=h
  exact⟨a,vs,rfl,.inr (h1.mono s),by rw[← h2.length];exact WG.now w s _ aO⟩
 ·exact w.elim
def dTuple:List D→R D
 | [.lst xs]=>.ok (.tup xs)
 | [.tup xs]=>.ok (.tup xs)
 | _=>.stuck
theorem oP {F:Fx}:CallD F (fun xs H Q=>∃ p ys,xs=[.ref p]∧((SqL F.K H p ys∧∀ l,H l=none→Q (.ref l) (upd H l (.tup ys)))∨(SqT F.K H p ys∧Q (.ref p) H))) dTuple:=by
 intro H Z xs ds Q s rs w
 unfold dTuple at w
 split at w
 ·obtain⟨v,rfl,h⟩:=a9 rs
  rw[Rep]at h
  obtain⟨a,vs,rfl,h1,h2⟩:=h
  refine⟨a,vs,rfl,.inl ⟨s.seq h1,fun p hp=>?_⟩⟩
  have z:Same Z (upd Z p (.tup vs)):=aJ (s.free hp)
  exact w _ _ (Ex.alloc s hp) _ (by rw[Rep];exact⟨p,_,rfl,SqT.of ar,h2.mono z⟩)
 ·obtain⟨v,rfl,h⟩:=a9 rs
  have hh:=h
  rw[Rep]at h
  obtain⟨a,vs,rfl,h1,h2⟩:=h
  exact⟨a,vs,rfl,.inr ⟨h1.mono s,WG.now w s _ hh⟩⟩
 ·exact w.elim
def boolsD:List D→Option (List Bool)
 | []=>some []
 | .bl b::r=>(boolsD r).map (b::·)
 | _::_=>none
theorem gI {K:PySem.W.Frag}{C:Nat→Addr}{Z:Hp}:∀ {ds:List D} {vs:List V} {bs:List Bool},Reps K C Z ds vs→boolsD ds=some bs→vs=bs.map V.bl
 | [],vs,bs,r,e=>by rw[Reps]at r;cases e;exact r
 | d::ds,vs,bs,r,e=>by
  rw[Reps]at r
  obtain⟨v,r',rfl,h1,h2⟩:=r
  cases d with
  | bl b =>
   rw[boolsD]at e
   cases q:boolsD ds with
   | none=>rw[q]at e;cases e
   | some bs' =>
    rw[q]at e
    cases e
    rw[Rep]at h1
    rw[h1,gI h2 q]
    rfl
  | _=>simp[boolsD]at e
def dAll:List D→R D
 | [.lst xs]=>match boolsD xs with
  | some bs=>.ok (.bl (bs.all id))
  | none=>.stuck
 | _=>.stuck
def dAny:List D→R D
 | [.lst xs]=>match boolsD xs with
  | some bs=>.ok (.bl (bs.any id))
  | none=>.stuck
 | _=>.stuck
theorem gJ:∀ {bs:List Bool} {us:List Value},Vals (bs.map V.bl) us→us=bs.map Value.bool
 | [],us,h=>by rw[List.map_nil]at h;cases h;rfl
 | b::bs,us,h=>by
  rw[List.map_cons]at h
  cases h with
  | cons r t =>
   have r':=r
   rw[r',gJ t]
   rfl
theorem kL {X:Cx}(hc:X.calm=true):CallR X (.builtin "all") (fun xs H Q=>∃ (p:Addr) (bs:List Bool),xs=[.ref p]∧SqL X.K H p (bs.map V.bl)∧Q (.bl (bs.all id)) H):=by
 intro pins s σ H xs us Q I r h
 obtain⟨p,bs,rfl,hq,q⟩:=h
 obtain⟨u,rfl,ru⟩:=vals1 r
 cases ru
 obtain⟨its,rv,pl,hz⟩:=I.list hq
 have e:=gJ rv
 subst e
 have hlt:p < s.heap.objs.size:=by obtain⟨o,_,ho,_⟩:=pl;exact Heap.lt_size ho
 refine call_all_walk (wpAny_pyIter_list pl.isList ⟨s.heap.objs.size,_,_,_,_,_,fun i=>bs.getD i false,rfl,Walks.list (show X.A.in1.handled=none from I.ok.hd hc) s.heap.objs.size p (Nat.ne_of_lt hlt) (bs.map Value.bool).toArray,⟨⟨_,Heap.get?_push_size _ rfl,rfl,rfl⟩,?_⟩,?_,fun h' tk hk=>?_⟩)
 ·obtain⟨o,ho,h2,n,h3⟩:=pl.isList
  exact⟨o,Heap.get?_push_of_some _ ho,h2,n,h3⟩
 ·intro i v s' Q' E' hp hq'
  have hp':bs[i]?.map Value.bool=some v:=by simpa using hp
  cases e:bs[i]? with
  | none=>rw[e]at hp';cases hp'
  | some b =>
   rw[e]at hp'
   cases hp'
   refine wpAny_truthy_bool ?_
   have:bs.getD i false=b:=by simp[List.getD,e]
   have hq2:Q' (bs.getD i false) s':=hq'
   rw[this]at hq2
   exact hq2
 ·have hall:(List.range (bs.map Value.bool).toArray.size).all (fun i=>bs.getD i false)=bs.all id:=by
   rw[List.size_toArray,List.length_map]
   rw[Bool.eq_iff_iff,List.all_eq_true,List.all_eq_true]
   constructor
   ·intro h b hb
    obtain⟨i,hi,rfl⟩:=List.mem_iff_getElem.mp hb
    have:=h i (List.mem_range.mpr hi)
    simpa [List.getD,hi] using this
   ·intro h i hi
    have hi':=List.mem_range.mp hi
    have:=h bs[i] (List.getElem_mem hi')
    simpa [List.getD,hi'] using this
  rw[hall]
  exact⟨.bl (bs.all id),H,I.kept fun b o e=>hk b o (by simp;exact Nat.ne_of_lt (Heap.lt_size e)) (Heap.get?_push_of_some _ e),rfl,q⟩
theorem uv {F:Fx}:CallD F (fun xs H Q=>∃ (p:Addr) (bs:List Bool),xs=[.ref p]∧SqL F.K H p (bs.map V.bl)∧Q (.bl (bs.all id)) H) dAll:=by
 intro H Z xs ds Q s rs w
 unfold dAll at w
 split at w
 ·split at w
  ·rename_i bs e
   obtain⟨v,rfl,h⟩:=a9 rs
   rw[Rep]at h
   obtain⟨a,vs,rfl,h1,h2⟩:=h
   have e2:=gI h2 e
   subst e2
   exact⟨a,bs,rfl,s.seq h1,WG.now w s _ aR⟩
  ·exact w.elim
 ·exact w.elim
section
variable {X:Cx}{F:Fx}{p pos:Pos}{e:Expr}{es:List Expr}{gs:SS→R (List D)}{k:Nat}
theorem bS (bx:BX X F k)(hg:Gl X "len")(hm:X.mg "len"=none)(ha:FA X F [e] gs)(he:starEach [e] X.env=(false,eval e X.env)::starEach [] X.env:=by rfl)(hpl:(backTo pos (starEach [] X.env)).any (·.1)=false:=by rfl):FE X F (.Call (.Name "len" p) [e] [] pos) (eCall dLen gs) :=
 fv (by have:=nC (X:=X);rw[bx.K]at this;exact this) uu hg hm PySem.boot_len ha (he:=he)
theorem ba (bx:BX X F k)(hg:Gl X "tuple")(hm:X.mg "tuple"=none)(ha:FA X F [e] gs)(he:starEach [e] X.env=(false,eval e X.env)::starEach [] X.env:=by rfl)(hpl:(backTo pos (starEach [] X.env)).any (·.1)=false:=by rfl):FE X F (.Call (.Name "tuple" p) [e] [] pos) (eCall dTuple gs) :=
 ut (by have:=l5 (X:=X);rw[bx.K]at this;exact this) oP hg hm (by decide +kernel) ha (he:=he)
theorem kM (bx:BX X F k)(hg:Gl X "all")(hm:X.mg "all"=none)(ha:FA X F [e] gs)(he:starEach [e] X.env=(false,eval e X.env)::starEach [] X.env:=by rfl)(hpl:(backTo pos (starEach [] X.env)).any (·.1)=false:=by rfl):FE X F (.Call (.Name "all" p) [e] [] pos) (eCall dAll gs) :=
 fv (by have:=kL bx.calm;rw[bx.K]at this;exact this) uv hg hm (by decide +kernel) ha (he:=he)
end
end FF
end
noncomputable section
namespace FF
open PySem PySem.Spec PySem.Calls PyProof.Rows PySem.W
def ExcAt (a C:Addr)(h:Heap):Prop:=∃ o,h.get? a=some o∧o.cls=.ref C∧∃ vs,o.data=.fields vs
structure ExcK (K:Frag)(C:Addr):Prop where
 ga:findIn K (.ref C) "__getattribute__"=some (some (.builtin "BaseException.__getattribute__"))
 gt:findIn K (.ref C) "__getattr__"=some none
 cl:findIn K (.ref C) "__class__"=some (some (.builtin "object.__class__"))
 be:subIn K (.ref C) (.type "BaseException")=some true
 ob:subIn K (.ref C) (.type "object")=some true
 ty:(clsIn K C).isSome=true
section
variable {prog:Program}{w:World}{A:Around}{E:Value→Shared→Prop}{h:Heap}{g:Array GenState}{d:Drawn}{t:Nat}{os:OsState}{a C:Addr}{K:Frag}{o:Obj}{vs:Array Value}
theorem rh {M:Model}(p:ExcAt a C h):Looks M h (typeOf (.ref a)) (.ref C):=by
 obtain⟨o,h1,h2,h3⟩:=p
 exact h2 ▸ (Looks.ld h1).andThen .now
theorem ri {M:Model}(X:K.In h)(k:ExcK K C):Looks M h (isType (.ref C)) true:=by
 have z:=k.ty
 unfold clsIn at z
 split at z
 ·rename_i c' d' cd' sl' ho
  intro A' Q' E' s' kk q
  unfold isType loadHead
  exact wpAny_bind (wpAny_loadPart (kk _ _ (X _ _ ho)) (wpAny_pure q))
 ·cases z
theorem me {R:Result→Shared→Prop}(X:K.In h)(k:ExcK K C)(hx:h.get? a=some o)(hc:o.cls=.ref C)(hq:R (.ok (.ret (.ref C))) ⟨h,g,d,t,os⟩) :
  codeAny (model prog w) A (.call (.builtin "getset_descriptor.__get__") ⟨[.builtin "object.__class__",.ref a,.ref C],[]⟩) R ⟨h,g,d,t,os⟩:=by
 have hT5:=F.typeOf_object_class
 have L8:Looks (model prog w) h (isSubtype (.ref C) (.type (".".intercalate ("object.__class__".cutAt '.').dropLast))) true:=by
  rw[F.owner_object_class];exact looks_subIn X k.ob
 refine codeAny_call_builtin F.slot_gs_get.plain F.entry_gs_get (F.slot_gs_get.check _ _ _ _ _ _ _ _ hT5 (F.args_gs_get _ _ _) ?_)
 repeat (any_goals (first | assumption | (with_reducible refine wpAny_loadPart_at hx ?_;rw[hc]) | (with_reducible refine L8.at ?_) | wp_step))
 refine⟨Code.quiet_builtin _ (by simp),codeAny_builtin F.entry_object_class ?_⟩
 repeat (any_goals (first | assumption | (with_reducible refine wpAny_loadPart_at hx ?_;rw[hc]) | wp_step))
theorem j4 {tk:Tok}{Q:Fin→Shared→Prop}(X:K.In h)(k:ExcK K C)(hx:h.get? a=some o)(hc:o.cls=.ref C)(hq:Q (.done (.ret (.ref C))) ⟨h,g,d,t,os⟩) :
  wpAny (model prog w) A (Builtin.«object.__getattribute__» ⟨[.ref a,.str "__class__" tk],[]⟩) Q E ⟨h,g,d,t,os⟩:=by
 have f5:=F.typeOf_object_class
 have f6:=F.slot_gs_get.lookup
 have f7:=F.slot_gs_set.lookup
 have L4:Looks (model prog w) h (typeLookup (.ref C) "__class__") _:=looks_findIn X k.cl
 repeat (any_goals (first | assumption | (with_reducible refine wpAny_loadPart_at hx ?_;rw[hc]) | (with_reducible refine L4.at ?_) | wp_step))
 refine me X k hx hc ?_
 repeat (any_goals (first | assumption | wp_step))
theorem uw {M:Model}{nameV:Value}{Q:Unit→Shared→Prop}(X:K.In h)(k:ExcK K C)(hx:h.get? a=some o)(hc:o.cls=.ref C)(hq:Q () ⟨h,g,d,t,os⟩):wpAny M A (checkBuiltinCall "BaseException.__getattribute__" ⟨[.ref a,nameV],[]⟩) Q E ⟨h,g,d,t,os⟩:=by
 have hk:builtinKind "BaseException.__getattribute__"=some .slot:=by decide +kernel
 have hsplit:splitId "BaseException.__getattribute__"=some ("BaseException","__getattribute__"):=by decide +kernel
 have L8:Looks M h (isSubtype (.ref C) (.type "BaseException")) true:=looks_subIn X k.be
 have ha:=F.args_bexc_ga (.ref a) nameV
 simp only[checkBuiltinCall,hk,hsplit]
 refine wpAny_bind ?_
 ·unfold isInstance
  repeat (first | (with_reducible refine wpAny_loadPart_at hx ?_;rw[hc]) | (with_reducible refine L8.at ?_) | wp_step)
  exact hq
theorem kN {tk:Tok}{R:Result→Shared→Prop}(X:K.In h)(k:ExcK K C)(hx:h.get? a=some o)(hc:o.cls=.ref C)(hq:R (.ok (.ret (.ref C))) ⟨h,g,d,t,os⟩) :
  codeAny (model prog w) A (.call (.builtin "BaseException.__getattribute__") ⟨[.ref a,.str "__class__" tk],[]⟩) R ⟨h,g,d,t,os⟩ :=
 codeAny_call_builtin F.attr_ValueError.ga.plain F.entry_bexc_ga (uw X k hx hc (j4 X k hx hc hq))
theorem nJ {tk:Tok}{Q:Value→Shared→Prop}(X:K.In h)(k:ExcK K C)(hx:h.get? a=some o)(hc:o.cls=.ref C)(hq:Q (.ref C) ⟨h,g,d,t,os⟩) :
  wpAny (model prog w) A (getAttrBy (.ref a) (.str "__class__" tk) false) Q E ⟨h,g,d,t,os⟩:=by
 have f3:=F.attr_ValueError.ga.bind (.ref a)
 have L1:Looks (model prog w) h (typeLookup (.ref C) "__getattribute__") _:=looks_findIn X k.ga
 have L2:Looks (model prog w) h (typeLookup (.ref C) "__getattr__") _:=looks_findIn X k.gt
 have hx2:(Value.builtin "BaseException.__getattribute__" == Value.builtin "object.__getattribute__")=false:=by decide +kernel
 have hx1:(onTheHeap (Value.ref C)&&Value.builtin "BaseException.__getattribute__" == Value.builtin "object.__getattribute__")=false:=by rw[hx2];rfl
 repeat (any_goals (first | assumption | (with_reducible refine wpAny_loadPart_at hx ?_;rw[hc]) | (with_reducible refine L1.at ?_) | (with_reducible refine L2.at ?_) | wp_step))
 refine kN X k hx hc ?_
 repeat (any_goals (first | assumption | wp_step))
theorem kO {Q:Option Value→Shared→Prop}(X:K.In h)(k:ExcK K C)(hx:h.get? a=some o)(hc:o.cls=.ref C)(hq:Q (some (.ref C)) ⟨h,g,d,t+1,os⟩) :
  wpAny (model prog w) A (getAttr? (.ref a) "__class__") Q E ⟨h,g,d,t,os⟩:=by
 unfold getAttr? getAttrBy?
 repeat (any_goals (first | assumption | with_reducible apply nJ X k hx hc | wp_step))
end
end FF
end
noncomputable section
namespace FF
open PySem PySem.Spec PyProof.Rows L2
theorem wy {K:PySem.W.Frag}{a C:Addr}(k:ExcK K C):PySem.W.KitX K (.ref a) (.ref C) (ExcAt a C) where
 ty:=fun _ _ _ p=>rh p
 it:=fun _ _ X _=>ri X k
 ne:=fun h tp dd its n sl X htp=>by
  refine Bool.eq_false_iff.mpr fun q=>?_
  have e:C=tp:=Value.ref.inj (beq_iff_eq.mp q)
  subst e
  have z:=k.ty
  unfold PySem.W.clsIn at z
  split at z
  ·rename_i c' d' cd' sl' ho
   have z:=(X _ _ ho).symm.trans htp
   cases z
  ·cases z
 ca:=fun {_ _ _ _ _ s} X p h=>by
  obtain⟨hh,g,d,t,os⟩:=s
  obtain⟨o,h1,h2,_⟩:=p
  exact kO X k h1 h2 h
def tyD (C:Nat→Addr):D→Value
 | .non=>.type "NoneType"
 | .bl _=>.type "bool"
 | .int _=>.type "int"
 | .str _=>.type "str"
 | .tup _=>.type "tuple"
 | .lst _=>.type "list"
 | .exc k=>.ref (C k)
 | .fn _=>.none
 | .tab _ _=>.none
 | .dic _ _=>.none
 | .ptr _=>.none
def isDct:D→Bool
 | .tab _ _=>true
 | .dic _ _=>true
 | .ptr _=>true
 | _=>false
def cV:V→Value
 | .ty n=>.type n
 | .ref a=>.ref a
 | _=>.none
theorem oQ {X:Cx}{C:Nat→Addr}:CallR X (.builtin "isinstance") (fun xs H Q=>∃ (Z:Hp) (d:D) (x y:V) (b:Bool),xs=[x,y]∧Same Z H∧Rep X.K C Z d x∧((∃ n,y=.ty n)∨∃ a,y=.ref a) ∧
  PySem.W.kitOne X.K (tyD C d) (cV y)=some b∧(∀ j,d=.exc j→ExcK X.K (C j))∧(∀ j,d≠.fn j)∧isDct d=false∧Q (.bl b) H):=by
 intro pins s σ H xs us Q I r h
 obtain⟨Z,d,x,y,b,rfl,sm,rp,hy,e,he,hf,hdc,q⟩:=h
 obtain⟨u,c,rfl,ru,rc⟩:=vals2 r
 have hc:c=cV y:=by
  rcases hy with ⟨n,rfl⟩ | ⟨a,rfl⟩<;>exact rc
 subst hc
 have fin:∀ tk,EP X pins σ Q (.bool b) { s with toks:=tk }:=fun tk=>⟨.bl b,H,I.tok tk,rfl,q⟩
 cases d with
 | non=>rw[Rep]at rp;subst rp;cases (show u=Value.none from ru);exact PySem.W.kia_one PySem.W.kitx_none I.kIn True.intro e (fun z=>nomatch z) fin
 | bl k=>rw[Rep]at rp;subst rp;cases (show u=Value.bool k from ru);exact PySem.W.kia_one PySem.W.kitx_bool I.kIn True.intro e (fun z=>nomatch z) fin
 | int i=>rw[Rep]at rp;subst rp;obtain⟨t,rfl⟩:=(show ∃ t,u=Value.int i t from ru);exact PySem.W.kia_one PySem.W.kitx_int I.kIn True.intro e (fun z=>nomatch z) fin
 | str i=>rw[Rep]at rp;subst rp;obtain⟨t,rfl⟩:=(show ∃ t,u=Value.str i t from ru);exact PySem.W.kia_one PySem.W.kitx_str I.kIn True.intro e (fun z=>nomatch z) fin
 | tup ds =>
  rw[Rep]at rp
  obtain⟨a,vs,rfl,h1,h2⟩:=rp
  cases (show u=Value.ref a from ru)
  obtain⟨its,_,⟨o,p1,p2,_⟩,_⟩:=I.tuple (h1.mono sm)
  exact PySem.W.kia_one PySem.W.kitx_tuple I.kIn ⟨o,p1,p2⟩ e (fun z=>nomatch z) fin
 | lst ds =>
  rw[Rep]at rp
  obtain⟨a,vs,rfl,h1,h2⟩:=rp
  cases (show u=Value.ref a from ru)
  obtain⟨its,_,⟨o,n,p1,p2,_⟩,_⟩:=I.list (sm.seq h1)
  exact PySem.W.kia_one PySem.W.kitx_list I.kIn ⟨o,p1,p2⟩ e (fun z=>nomatch z) fin
 | fn k=>exact absurd rfl (hf k)
 | tab _ _=>cases hdc
 | dic _ _=>cases hdc
 | ptr _=>cases hdc
 | exc k =>
  rw[Rep]at rp
  obtain⟨a,rfl,h1⟩:=rp
  cases (show u=Value.ref a from ru)
  obtain⟨o,h2,h3,h5⟩:=(show ObjOk X.prog X.w H s.heap a (excO C k a) from I.hok a _ (sm a _ h1)).1
  exact PySem.W.kia_one (wy (he k rfl)) I.kIn ⟨o,h2,h3,h5⟩ e (fun z=>nomatch z) fin
def dIsA (q:D→Option Bool)(d:D):R D:=match q d with
 | some b=>.ok (.bl b)
 | none=>.stuck
def eIs (q:D→Option Bool)(g:SS→R D):SS→R D:=fun S=>(g S).bind (dIsA q)
structure IsA (K:PySem.W.Frag)(C:Nat→Addr)(y:V)(q:D→Option Bool):Prop where
 one:(∃ n,y=.ty n)∨∃ a,y=.ref a
 ans:∀ d b,q d=some b→PySem.W.kitOne K (tyD C d) (cV y)=some b
 exc:∀ j b,q (.exc j)=some b→ExcK K (C j)
 fn:∀ j,q (.fn j)=none
 dct:∀ d,isDct d=true→q d=none
section
variable {X:Cx}{F:Fx}{p pos:Pos}{e ec:Expr}{g:SS→R D}{k:Nat}{y:V}{q:D→Option Bool}
theorem Au (bx:BX X F k)(hq:IsA F.K F.C y q):∀ σ H Q,tE F (eIs q g) σ H Q→tCB (fun xs H Q=>∃ (Z:Hp) (d:D) (x y:V) (b:Bool),xs=[x,y]∧Same Z H∧Rep X.K F.C Z d x∧((∃ n,y=.ty n)∨∃ a,y=.ref a) ∧
  PySem.W.kitOne X.K (tyD F.C d) (cV y)=some b∧(∀ j,d=.exc j→ExcK X.K (F.C j))∧(∀ j,d≠.fn j)∧isDct d=false∧Q (.bl b) H) (tCons (tE F g) (tCons (tC y) tNil)) σ H Q:=fun σ H Q ⟨Z,S,ok,w⟩ =>
 aM ok w fun d v H1 Z1 ok1 x1 rv w1=>by
  cases e:q d with
  | none=>unfold dIsA at w1;rw[e]at w1;exact w1.elim
  | some b =>
   unfold dIsA at w1
   rw[e]at w1
   refine⟨Z1,d,v,y,b,rfl,ok1.sub,by rw[bx.K];exact rv,hq.one,by rw[bx.K];exact hq.ans d b e,fun j ej=>?_,fun j ej=>(by rw[ej,hq.fn j]at e;cases e),(by cases hd:isDct d with | false=>rfl | true=>rw[hq.dct d hd]at e;cases e),WG.now w1 ok1.sub _ aR⟩
   subst ej
   rw[bx.K]
   exact hq.exc j b e
theorem aI (bx:BX X F k)(hg:Gl X "isinstance")(hm:X.mg "isinstance"=none)(hq:IsA F.K F.C y q)(ha:FE X F e g)(hc:PE X ec (tC y))(he:starEach [e,ec] X.env=(false,eval e X.env)::starEach [ec] X.env:=by rfl)
  (he2:starEach [ec] X.env=(false,eval ec X.env)::starEach [] X.env:=by rfl) (hpl:(backTo pos (starEach [ec] X.env)).any (·.1)=false:=by rfl) :
  FE X F (.Call (.Name "isinstance" p) [e,ec] [] pos) (eIs q g) :=
 (ft oQ hg hm (by decide +kernel) (nv ha (nv hc vS he2) he) (he:=he) (hpl:=hpl)).weak (Au bx hq)
end
def qTup:D→Option Bool
 | .tup _=>some true
 | .exc _=>none
 | .fn _=>none
 | .tab _ _=>none
 | .dic _ _=>none
 | .ptr _=>none
 | _=>some false
def qInt:D→Option Bool
 | .int _=>some true
 | .bl _=>some true
 | .exc _=>none
 | .fn _=>none
 | .tab _ _=>none
 | .dic _ _=>none
 | .ptr _=>none
 | _=>some false
def qBool:D→Option Bool
 | .bl _=>some true
 | .exc _=>none
 | .fn _=>none
 | .tab _ _=>none
 | .dic _ _=>none
 | .ptr _=>none
 | _=>some false
def qList:D→Option Bool
 | .lst _=>some true
 | .exc _=>none
 | .fn _=>none
 | .tab _ _=>none
 | .dic _ _=>none
 | .ptr _=>none
 | _=>some false
theorem bo {K:PySem.W.Frag}{C:Nat→Addr}:IsA K C (.ty "tuple") qTup:=⟨.inl ⟨_,rfl⟩,fun d b e=>by cases d<;>cases e<;>with_unfolding_all rfl,fun j b e=>(nomatch e),fun _=>rfl,fun d h=>by cases d<;>first | rfl | cases h⟩
theorem yH {K:PySem.W.Frag}{C:Nat→Addr}:IsA K C (.ty "int") qInt:=⟨.inl ⟨_,rfl⟩,fun d b e=>by cases d<;>cases e<;>with_unfolding_all rfl,fun j b e=>(nomatch e),fun _=>rfl,fun d h=>by cases d<;>first | rfl | cases h⟩
theorem wz {K:PySem.W.Frag}{C:Nat→Addr}:IsA K C (.ty "bool") qBool:=⟨.inl ⟨_,rfl⟩,fun d b e=>by cases d<;>cases e<;>with_unfolding_all rfl,fun j b e=>(nomatch e),fun _=>rfl,fun d h=>by cases d<;>first | rfl | cases h⟩
theorem wA {K:PySem.W.Frag}{C:Nat→Addr}:IsA K C (.ty "list") qList:=⟨.inl ⟨_,rfl⟩,fun d b e=>by cases d<;>cases e<;>with_unfolding_all rfl,fun j b e=>(nomatch e),fun _=>rfl,fun d h=>by cases d<;>first | rfl | cases h⟩
def sOwn (i:Nat)(gs:SS→R (List D)):SS→O:=fun S=>rO ((gs S).bind fun ds=>if ds.length≤16777216 then .ok (.nx (S.set i (some (.own ds)))) else .stuck)
def sApp (i:Nat)(gs:SS→R (List D)):SS→O:=fun S=>match S[i]? with
 | some (some (.own ds))=>rO ((gs S).bind fun es=>match es with
  | [d]=>if ds.length < 16777216 then .ok (.nx (S.set i (some (.own (ds++[d]))))) else .stuck
  | _=>.stuck)
 | _=>.stuck
def sExt (i:Nat)(gs:SS→R (List D)):SS→O:=fun S=>match S[i]? with
 | some (some (.own ds))=>rO ((gs S).bind fun es=>match es with
  | [.lst xs]=>if ds.length+xs.length≤16777216 then .ok (.nx (S.set i (some (.own (ds++xs))))) else .stuck
  | [.tup xs]=>if ds.length+xs.length≤16777216 then .ok (.nx (S.set i (some (.own (ds++xs))))) else .stuck
  | _=>.stuck)
 | _=>.stuck
def rExt (K:PySem.W.Frag):V→List V→Hp→VK→Prop:=fun x vs H Q=>∃ l b xs zs,x=.ref l∧vs=[.ref b]∧H l=some (.lst xs)∧(SqL K H b zs∨SqT K H b zs)∧xs.length+zs.length≤sizeLine∧Q .non (upd H l (.lst (xs++zs)))
theorem Av {X:Cx}:MtR X "list.extend" (rExt X.K):=by
 intro pins s σ H x vs v us Q I rx rv h
 obtain⟨l,b,xs,zs,rfl,rfl,hH,hB,hz,q⟩:=h
 cases rx
 obtain⟨u,rfl,ru⟩:=rv.one
 cases ru
 obtain⟨z,its,n,r,hl,e⟩:=I.lstM hH
 rcases hB with hB | hB
 ·obtain⟨its2,r2,⟨⟨c2,d2,dt2,sl2⟩,n2,e2,p2,p3,p4⟩,z2⟩:=I.list hB
  simp only at p2 p3 p4
  subst p2 p3 p4
  have hl2:=r2.length
  have hsz:its.toArray.size+its2.toArray.size≤sizeLine:=by rw[List.size_toArray,List.size_toArray];omega
  refine call_meets F.slot_list_extend ⟨_,e,rfl⟩ F.entry_list_extend (F.args_list_extend_2 _ _) (uj l b its.toArray its2.toArray n n2 _ _ hsz) ⟨e,e2,?_⟩
  refine⟨.non,_,I.lset hH e (by simp) (r.append r2) ?_,rfl,q⟩
  grind
 ·obtain⟨its2,r2,⟨⟨c2,d2,dt2,sl2⟩,e2,p2,n2,p3⟩,z2⟩:=I.tuple hB
  simp only at p2 p3
  subst p2 p3
  have hl2:=r2.length
  have hsz:its.toArray.size+its2.toArray.size≤sizeLine:=by rw[List.size_toArray,List.size_toArray];omega
  refine call_meets F.slot_list_extend ⟨_,e,rfl⟩ F.entry_list_extend (F.args_list_extend_2 _ _) (uk l b its.toArray its2.toArray n n2 _ _ hsz) ⟨e,e2,?_⟩
  refine⟨.non,_,I.lset hH e (by simp) (r.append r2) ?_,rfl,q⟩
  grind
section
variable {X:Cx}{F:Fx}{e:Expr}{es:List Expr}{gs:SS→R (List D)}{pos p0 apos cpos lpos:Pos}{x:Str}
theorem ja (i:Nat){pos':Pos}(hN:X.N.Nodup)(h:FA X F es gs)(hi:X.N[i]?=some x:=by rfl)(hx:Loc X.env.scope x:=by first | exact Or.inl rfl | exact Or.inr rfl)
  (hs:swapsWith (.List es lpos) (some (.Name x pos')) pos.line X.env=pure false:=by rfl) (hf:X.fn x=true∨X.env.scope.names.lookup x=some .local:=by first | exact .inl rfl | exact .inr rfl):FS X F (.Assign [.Name x pos'] (.List es lpos) pos) (sOwn i gs) :=
 (qS hN hi hx (vT h) hs hf).weak fun D σ H ⟨Z,S,ok,w⟩=>aS ok (WO.wg ok w) fun ds vs H1 Z1 ok1 x1 rs w1=>by
  split at w1
  ·rename_i hl
   refine⟨by rw[← rs.length,sizeLine_eq];exact hl,fun p hp=>?_⟩
   have w2:=WG.now w1 ok1.sub
   exact w2 _ _ Z1 (Same.refl _) (ok1.newOwn hp rs)
  ·exact w1.elim
theorem ux (i:Nat)(ha:FA X F [e] gs)(hi:X.N[i]?=some x:=by rfl)(hv:Vis X.env.scope x:=by first | exact Or.inl rfl | exact Or.inr (Or.inl rfl) | exact Or.inr (Or.inr rfl))(hd:(x==("__debug__":Str))=false:=by decide)
  (hcd:(x==("__classdict__":Str))=false:=by decide)
  (hbase:attributeBase (.Name x p0) "append" X.env (eval (.Name x p0) X.env)=eval (.Name x p0) X.env:=by rfl)
  (hfew:((backTo cpos (starEach [e] X.env)).all (fun x=>!x.1)&&(backToKw cpos (keywordEach [] X.env)).all (fun x=>x.1.isSome)
   && decide ([e].length+([]:List Keyword).length+(if ([]:List Keyword).isEmpty then 0 else 1) < 30))=true:=by rfl)
  (hline:(apos.endLine==cpos.line)=true:=by rfl) (hs:starEach [e] X.env=(false,eval e X.env)::starEach [] X.env:=by rfl) (hplain:(backTo cpos (starEach [] X.env)).any (·.1)=false:=by rfl)
  (hsw:swapsWith (.Call (.Attribute (.Name x p0) "append" apos) [e] [] cpos) none pos.line X.env=pure false:=by rfl) :
  FS X F (.Expr (.Call (.Attribute (.Name x p0) "append" apos) [e] [] cpos) pos) (sApp i gs) :=
 (nt (vW PySem.F.plainAttrs_list PySem.F.slot_list_append (by kernel_rfl) (mV (X:=X)) (iY hi hv hd hcd) ha hbase hfew hline hs hplain) hsw).weak fun D σ H ⟨Z,S,ok,w⟩=>by
  unfold sApp at w
  split at w
  ·rename_i ds e0
   obtain⟨a,vs,e1,e2,e3,e4,r⟩:=ok.own i ds e0
   refine⟨.ref a,e1,.inl ⟨rfl,vs,SqL.of e2⟩,aS ok (WO.wg ok w) fun es' us H1 Z1 ok1 x1 rs w1=>?_⟩
   split at w1
   ·rename_i d
    split at w1
    ·rename_i hl
     obtain⟨y,rfl,ry⟩:=a9 rs
     have w2:=WG.now w1 ok1.sub
     refine⟨a,vs,y,rfl,rfl,x1.same _ _ e2,by rw[← r.length,sizeLine_eq];exact hl,?_⟩
     exact w2 σ _ Z1 (Same.refl _) (ok1.write e0 e1 ((r.mono x1.z).append (Reps.cons ry Reps.nil)))
    ·exact w1.elim
   ·exact w1.elim
  ·exact w.elim
theorem dS (i:Nat)(bK:X.K=F.K)(ha:FA X F [e] gs)(hi:X.N[i]?=some x:=by rfl)(hv:Vis X.env.scope x:=by first | exact Or.inl rfl | exact Or.inr (Or.inl rfl) | exact Or.inr (Or.inr rfl))(hd:(x==("__debug__":Str))=false:=by decide)
  (hcd:(x==("__classdict__":Str))=false:=by decide)
  (hbase:attributeBase (.Name x p0) "extend" X.env (eval (.Name x p0) X.env)=eval (.Name x p0) X.env:=by rfl)
  (hfew:((backTo cpos (starEach [e] X.env)).all (fun x=>!x.1)&&(backToKw cpos (keywordEach [] X.env)).all (fun x=>x.1.isSome)
   && decide ([e].length+([]:List Keyword).length+(if ([]:List Keyword).isEmpty then 0 else 1) < 30))=true:=by rfl)
  (hline:(apos.endLine==cpos.line)=true:=by rfl) (hs:starEach [e] X.env=(false,eval e X.env)::starEach [] X.env:=by rfl) (hplain:(backTo cpos (starEach [] X.env)).any (·.1)=false:=by rfl)
  (hsw:swapsWith (.Call (.Attribute (.Name x p0) "extend" apos) [e] [] cpos) none pos.line X.env=pure false:=by rfl) :
  FS X F (.Expr (.Call (.Attribute (.Name x p0) "extend" apos) [e] [] cpos) pos) (sExt i gs) :=
 (nt (vW PySem.F.plainAttrs_list PySem.F.slot_list_extend (by kernel_rfl) (Av) (iY hi hv hd hcd) ha hbase hfew hline hs hplain) hsw).weak fun D σ H ⟨Z,S,ok,w⟩=>by
  unfold sExt at w
  split at w
  ·rename_i ds e0
   obtain⟨a,vs,e1,e2,e3,e4,r⟩:=ok.own i ds e0
   refine⟨.ref a,e1,.inl ⟨rfl,vs,SqL.of e2⟩,aS ok (WO.wg ok w) fun es' us H1 Z1 ok1 x1 rs w1=>?_⟩
   split at w1
   ·rename_i xs
    split at w1
    ·rename_i hl
     obtain⟨y,rfl,ry⟩:=a9 rs
     rw[Rep]at ry
     obtain⟨b,zs,rfl,h1,h2⟩:=ry
     have w2:=WG.now w1 ok1.sub
     refine⟨a,b,vs,zs,rfl,rfl,x1.same _ _ e2,.inl (by rw[bK];exact ok1.sub.seq h1),by rw[← r.length,← h2.length,sizeLine_eq];exact hl,?_⟩
     exact w2 σ _ Z1 (Same.refl _) (ok1.write e0 e1 ((r.mono x1.z).append h2))
    ·exact w1.elim
   ·rename_i xs
    split at w1
    ·rename_i hl
     obtain⟨y,rfl,ry⟩:=a9 rs
     rw[Rep]at ry
     obtain⟨b,zs,rfl,h1,h2⟩:=ry
     have w2:=WG.now w1 ok1.sub
     refine⟨a,b,vs,zs,rfl,rfl,x1.same _ _ e2,.inr (by rw[bK];exact h1.mono ok1.sub),by rw[← r.length,← h2.length,sizeLine_eq];exact hl,?_⟩
     exact w2 σ _ Z1 (Same.refl _) (ok1.write e0 e1 ((r.mono x1.z).append h2))
    ·exact w1.elim
   ·exact w1.elim
  ·exact w.elim
end
section
variable {X:Cx}{F:Fx}{o e:Expr}{g:SS→R D}{gs:SS→R (List D)}{apos cpos:Pos}{k:Nat}
end
def MadeX (X:Cx)(F:Fx):Prop:=∀ (pins:List (Addr×Obj)) (σ:St) (H:Hp) (s:Shared) (h1:Heap) (ea C:Addr) (args:List Value),Inv X pins σ H s→Heap.MadeExcOf s.heap h1 ea (.ref C) args→F.E (.ref C) none H→X.xe (.ref ea) { s with heap:=h1 }
def bmVE:List Value:=[.type "ValueError",.type "Exception",.type "BaseException",.type "object"]
theorem yI {K:PySem.W.Frag}{h:Heap}{C:Addr}{bmB:List Value}{newId:String}(X:K.In h)(q:PySem.W.excIn K C bmB newId=true) :
  ∃ (bm:List Value) (N:Addr) (nm qn:Str) (bs:List Value) (hdct:Bool) (sn:List Str) (sub:List Value) (ab:Bool) (col:Option Bool) (dd:Option Addr) (k0 k1 k2 k3 k5:Option Value) (mN:Str→Option Value),
   h.get? C=some (excClassObj nm qn C N bs bm hdct sn sub ab col dd k0 k1 k2 k3 k5 newId)∧h.Ns N mN∧mN "__init__"=none∧OwnTail h bmB bm:=by
 unfold PySem.W.excIn at q
 split at q
 ·rename_i dd cd sl ho
  split at q
  ·rename_i C' bm k0 k1 k2 k3 n k5 hm hs
   simp only[Bool.and_eq_true,beq_iff_eq,Bool.not_eq_true']at q
   obtain⟨⟨⟨⟨⟨rfl,rfl⟩,hdel⟩,ht⟩,hok⟩,hni⟩:=q
   obtain⟨nm,bs,mro,ns,qn,hd,sn,sub,ab,col,del⟩:=cd
   dsimp only at hm hdel hok hni
   subst hm hdel
   have hsl:sl = #[k0,k1,k2,k3,some (.builtin n),k5]:=by
    grind
   subst hsl
   exact⟨bm,ns,nm,qn,bs,hd,sn,sub,ab,col,dd,k0,k1,k2,k3,k5,_,X _ _ ho,.of_isNs (PySem.W.isNs_of_in X hok),PySem.W.nsMap_none_of_in X hok hni,PySem.W.tail_of_in X ht⟩
  ·cases q
 ·cases q
def sRaise (j:Nat)(gs:SS→R (List D)):SS→O:=fun S=>rO ((gs S).bind fun ds=>if ds.length≤1000 then .ok (.er j) else .stuck)
section
variable {X:Cx}{F:Fx}{e:Expr}{es:List Expr}{gs:SS→R (List D)}{pos np cpos:Pos}{x:Str}{k j:Nat}
theorem bg (j:Nat)(bx:BX X F k)(hmade:MadeX X F)(hg:Gl X x)(hm:X.mg x=some (.ref (F.C j)))(q:PySem.W.excIn F.K (F.C j) bmVE "ValueError.__new__"=true)(ha:FA X F (e::es) gs)(hd:(x==("__debug__":Str))=false:=by decide)
  (he:starEach (e::es) X.env=(false,eval e X.env)::starEach es X.env:=by rfl) (hpl:(backTo cpos (starEach es X.env)).any (·.1)=false:=by rfl) :
  FS X F (.Raise (some (.Call (.Name x np) (e::es) [] cpos)) none pos) (sRaise j gs):=by
 intro pins s σ H D I h
 obtain⟨Z,S,ok,w⟩:=h
 have q':=q
 rw[← bx.K]at q'
 obtain⟨bm,N,nm,qn,bs,hdct,sn,sub,ab,col,dd,k0,k1,k2,k3,k5,mN,hC0,hN0,hni0,T0⟩:=yI I.ok.mod.kin q'
 have hb:∀ {pl σ' H' s'},Inv X pl σ' H' s'→∀ b o,X.base.get? b=some o→s'.heap.get? b=some o:=fun I'=>I'.bk
 refine wpAny_Raise_call_subU (nm:=nm) (q:=qn) (N:=N) (bs:=bs) (hdct:=hdct) (sn:=sn) (sub:=sub) (ab:=ab) (col:=col) (dd:=dd) (k0:=k0) (k1:=k1) (k2:=k2) (k3:=k3) (k5:=k5) PySem.F.excBase_ValueError (by decide) PySem.F.excBase_ValueError (T0.hasType PySem.F.excBase_ValueError.hasBase) (I.ok.hd bx.calm) (by rw[he];show (false||(backTo cpos (starEach es X.env)).any (·.1))=false;rw[hpl];rfl) hni0 (nr I hg hm ⟨rfl,?_⟩ hd)
 have hA:=ha cpos pins s σ H (fun vs H1=>vs.length≤1000∧F.E (.ref (F.C j)) none H1) I (aS ok (WO.wg ok w) fun ds vs H1 Z1 ok1 x1 rs w1=>by
  split at w1
  ·rename_i hl
   exact⟨by rw[← rs.length];exact hl,WG.now w1 ok1.sub H1 ok1.ex.same⟩
  ·exact w1.elim)
 rw[he]at hA ⊢
 refine Calls.evalArgs_plain (thn hA fun us s2 ⟨vs,H2,I2,r2,q2⟩=>⟨rfl,?_,hb I2 _ _ hC0,hN0.keeps (hb I2),T0.keeps (hb I2),fun h' e hm'=>hmade pins σ H2 s2 h' e _ us I2 hm' q2.2⟩)
 rw[← r2.length,sizeLine_eq]
 omega
end
section
variable {X:Cx}{pins:List (Addr×Obj)}{σ:St}{H:Hp}{s:Shared}
end
structure Takes (K:PySem.W.Frag)(C:Nat→Addr)(C0:Addr)(q:Nat→Bool):Prop where
 exc:PySem.W.excIn K C0 bmVE "ValueError.__new__"=true
 sub:∀ k,q k=true→PySem.W.subIn K (.ref (C k)) (.ref C0)=some true
section
variable {F:Fx}{H Z:Hp}{S:SS}{σ:St}
end
section
variable {X:Cx}{F:Fx}{body:List Stmt}{g:SS→O}{c n y:Str}{np np2 kp apos hpos pos:Pos}{k:Nat}{q:Nat→Bool}{C0:Addr}
end
section
variable {X:Cx}{F:Fx}{a:Expr}{g:SS→R D}{pos:Pos}{x:Str}{i:Int}
theorem fW (h:∃ t,X.mg x=some (.int i t))(hg:Gl X x)(hd:(x==("__debug__":Str))=false:=by decide):FE X F (.Name x pos) (eC (.int i)):=by
 obtain⟨t,e⟩:=h
 exact fV (kh (v:=.int i) hg e ⟨t,rfl⟩ hd) fun _=>aO
end
end FF
end
noncomputable section
namespace FF
open PySem L2
def tupI (l:List Int):D:=.tup (l.map .int)
def dSw (d:D)(lo hi:Option Int):R D:=match d with
 | .lst xs=>.ok (.lst (cutD xs lo hi))
 | .tup xs=>.ok (.tup (cutD xs lo hi))
 | _=>.stuck
def intsOf:List D→Option (List Int)
 | []=>some []
 | .int i::r=>(intsOf r).map (i::·)
 | _::_=>none
def sumI (is:List Int):Int:=is.foldl (· + ·) 0
def dSum:List D→R D
 | [.lst xs]=>match intsOf xs with
  | some is=>.ok (.int (sumI is))
  | none=>.stuck
 | [.tup xs]=>match intsOf xs with
  | some is=>.ok (.int (sumI is))
  | none=>.stuck
 | _=>.stuck
def minI (a:Int)(is:List Int):Int:=is.foldl (fun m x=>if x < m then x else m) a
def setAll:List Nat→List D→SS→SS
 | i::r,d::ds,S=>setAll r ds (S.set i (some (.val d)))
 | _,_,S=>S
def gTup (ix:List Nat):D→SS→R SS:=fun d S=>match d with
 | .tup ds=>if ds.length=ix.length then .ok (setAll ix ds S) else .stuck
 | _=>.stuck
def sAsg (g:D→SS→R SS)(e:SS→R D):SS→O:=fun S=>rO ((e S).bind fun d=>(g d S).bind fun S1=>.ok (.nx S1))
end FF
end
noncomputable section
namespace FF
open PySem PySem.Spec PyProof.Rows L2
def TupK (K:PySem.W.Frag)(a:Addr)(l:List Int):Prop :=
 ∃ (o:Obj) (its:Array Value) (n:Nat),K.lookup a=some o∧o.cls=.type "tuple" ∧ o.dict=none∧o.data=.seq its n∧its.size≤sizeLine∧Vals (l.map V.int) its.toList
theorem mZ {K:PySem.W.Frag}{C:Nat→Addr}{Z:Hp}:∀ ns:List Int,Reps K C Z (ns.map .int) (ns.map V.int)
 | []=>by rw[List.map_nil,List.map_nil,Reps]
 | i::ns=>by rw[List.map_cons,List.map_cons,Reps];exact⟨_,_,rfl,aO,mZ ns⟩
theorem dE {X:Cx}{F:Fx}{x:Str}{pos:Pos}{l:List Int}(h:∃ a,X.mg x=some (.ref a)∧TupK F.K a l)(hg:Gl X x)(hd:(x==("__debug__":Str))=false:=by decide):FE X F (.Name x pos) (eC (tupI l)):=by
 obtain⟨a,e,o,its,n,h1,h2,h2d,h3,h4,h5⟩:=h
 exact fV (kh (v:=.ref a) hg e rfl hd) fun Z=>by
  unfold tupI
  rw[Rep]
  exact⟨a,_,rfl,.inr ⟨o,its,n,h1,h2,h2d,h3,h4,h5⟩,mZ l⟩
theorem b9 {K:PySem.W.Frag}{C:Nat→Addr}{Z:Hp}:∀ {ds:List D} {vs:List V} {is:List Int},Reps K C Z ds vs→intsOf ds=some is→vs=is.map V.int
 | [],vs,is,r,e=>by rw[Reps]at r;cases e;exact r
 | d::ds,vs,is,r,e=>by
  rw[Reps]at r
  obtain⟨v,r',rfl,h1,h2⟩:=r
  cases d with
  | int i =>
   rw[intsOf]at e
   cases q:intsOf ds with
   | none=>rw[q]at e;cases e
   | some is' =>
    rw[q]at e
    cases e
    rw[Rep]at h1
    rw[h1,b9 h2 q]
    rfl
  | _=>simp[intsOf]at e
theorem bO:∀ {is:List Int} {us:List Value},Vals (is.map V.int) us→∃ ps:List (Int×Tok),us=ps.map (fun p=>Value.int p.1 p.2)∧ps.map (·.1)=is
 | [],us,h=>by rw[List.map_nil]at h;cases h;exact⟨[],rfl,rfl⟩
 | i::is,us,h=>by
  rw[List.map_cons]at h
  cases h with
  | cons r t =>
   obtain⟨tk,e⟩:=(show ∃ t,_=Value.int i t from r)
   obtain⟨ps,e2,e3⟩:=bO t
   exact⟨(i,tk)::ps,by rw[e,e2];rfl,by rw[← e3];rfl⟩
theorem rj (ps:List (Int×Tok))(i:Nat)(x:Int)(h:(ps.map (·.1))[i]?=some x):numAt ps.toArray i=x:=by
 rw[List.getElem?_map]at h
 unfold numAt
 rw[List.getElem?_toArray]
 rw[h]
 rfl
theorem jQ (ps:List (Int×Tok)):(List.range ps.length).map (numAt ps.toArray)=ps.map (·.1):=by
 apply List.ext_getElem?
 intro i
 rw[List.getElem?_map]
 by_cases hi:i < ps.length
 ·have hr:(List.range ps.length)[i]?=some i:=by simp[hi]
  have hx:(ps.map (·.1))[i]?=some (ps[i].1):=by simp[hi]
  rw[hr,hx]
  exact congrArg some (rj ps i _ hx)
 ·have hr:(List.range ps.length)[i]?=none:=by simp;omega
  have hx:(ps.map (·.1))[i]?=none:=by simp;omega
  rw[hr,hx]
  rfl
theorem wB (val:Nat→Int):∀ k,val (argBest (fun i j=>decide (val i < val j)) k)=minI (val 0) ((List.range k).map fun i=>val (i+1))
 | 0=>rfl
 | k+1=>by
  have ih:=wB val k
  rw[List.range_succ,List.map_append,argBest]
  unfold minI
  rw[List.foldl_append]
  show _=(if val (k+1) < minI (val 0) ((List.range k).map fun i=>val (i+1)) then val (k+1) else minI (val 0) ((List.range k).map fun i=>val (i+1)))
  rw[← ih]
  by_cases h:val (k+1) < val (argBest (fun i j=>decide (val i < val j)) k)
  ·rw[if_pos h,if_pos (by simpa using h)]
  ·rw[if_neg h,if_neg (by simpa using h)]
theorem jb (val:Nat→Int):∀ n,preSum val n=sumI ((List.range n).map val)
 | 0=>rfl
 | n+1=>by
  rw[preSum,jb val n,List.range_succ,List.map_append]
  unfold sumI
  rw[List.foldl_append]
  rfl
section
variable {X:Cx}
theorem uy {s:Shared}{l:Addr}{h':Heap}(hk:∀ b o,b∉[s.heap.objs.size]→(s.heap.push { cls:=.type "tuple_iterator",data:=.fields #[.ref l,.int 0 0] }).get? b=some o→h'.get? b=some o) :
  ∀ b o,s.heap.get? b=some o→h'.get? b=some o:=fun b o e=>by
 refine hk b o (fun hm=>?_) (Heap.get?_push_of_some _ e)
 rcases List.mem_cons.mp hm with e1 | hm
 ·exact absurd (e1 ▸ Heap.lt_size e) (Nat.lt_irrefl _)
 ·cases hm
theorem mf (hc:X.calm=true):CallR X (.builtin "sum") (fun xs H Q=>∃ (p:Addr) (is:List Int),xs=[.ref p]∧(SqL X.K H p (is.map V.int)∨SqT X.K H p (is.map V.int))∧Q (.int (sumI is)) H):=by
 intro pins s σ H xs us Q I r h
 obtain⟨p,is,rfl,hq,q⟩:=h
 obtain⟨u,rfl,ru⟩:=vals1 r
 cases ru
 rcases hq with hq | hq
 ·obtain⟨its,rv,pl,hz⟩:=I.list hq
  obtain⟨ps,rfl,e⟩:=bO rv
  have hil:s.heap.IsList p (intItems ps.toArray):=by
   have:=pl.isList
   unfold intItems
   simpa using this
  have es:preSum (numAt ps.toArray) ps.toArray.size=sumI is:=by
   rw[jb,List.size_toArray,jQ,e]
  refine call_sum_walkG (iter_intList hil fun s₂ e2 st hfp hlI=>?_)
  subst e2
  refine⟨_,_,_,_,_,_,numAt ps.toArray,rfl,Walks.list (A:=X.A.in1) (I.ok.hd hc) _ p hlI (intItems ps.toArray),st,hfp,(fun _ _=>intItems_at),fun h' tk t' hk=>?_⟩
  have hsz:(intItems ps.toArray).size=ps.toArray.size:=by simp[intItems]
  rw[hsz,es]
  exact⟨.int (sumI is),H,I.kept (old_kept hk),⟨t',rfl⟩,q⟩
 ·obtain⟨its,rv,pl,hz⟩:=I.tuple hq
  obtain⟨ps,rfl,e⟩:=bO rv
  have hil:s.heap.IsTuple p (intItems ps.toArray):=by
   have pl':s.heap.IsTuple p (ps.map fun p=>Value.int p.1 p.2).toArray:=pl
   unfold intItems
   simpa using pl'
  have es:preSum (numAt ps.toArray) ps.toArray.size=sumI is:=by
   rw[jb,List.size_toArray,jQ,e]
  have hlt:p < s.heap.objs.size:=by obtain⟨_,e,_⟩:=hil;exact Heap.lt_size e
  refine call_sum_walkG (wpAny_pyIter_tuple hil ?_)
  refine⟨_,_,_,_,_,_,numAt ps.toArray,rfl,Walks.tuple (A:=X.A.in1) (I.ok.hd hc) s.heap.objs.size p (Nat.ne_of_lt hlt) (intItems ps.toArray),⟨⟨_,Heap.get?_push_size _ rfl,rfl,rfl⟩,hil.push _⟩,fun b hb=>?_,(fun _ _=>intItems_at),fun h' tk t' hk=>?_⟩
  ·show b < (s.heap.push _).objs.size
   rw[Heap.size_push]
   rcases List.mem_cons.mp hb with rfl | hb
   ·exact Nat.lt_succ_self _
   ·rcases List.mem_cons.mp hb with rfl | hb
    ·exact Nat.lt_succ_of_lt hlt
    ·cases hb
  ·have hsz:(intItems ps.toArray).size=ps.toArray.size:=by simp[intItems]
   rw[hsz,es]
   exact⟨.int (sumI is),H,I.kept (uy hk),⟨t',rfl⟩,q⟩
end
theorem uz {F:Fx}:CallD F (fun xs H Q=>∃ (p:Addr) (is:List Int),xs=[.ref p]∧(SqL F.K H p (is.map V.int)∨SqT F.K H p (is.map V.int))∧Q (.int (sumI is)) H) dSum:=by
 intro H Z xs ds Q s rs w
 unfold dSum at w
 split at w
 ·split at w
  ·rename_i is e
   obtain⟨v,rfl,h⟩:=a9 rs
   rw[Rep]at h
   obtain⟨a,vs,rfl,h1,h2⟩:=h
   have e2:=b9 h2 e
   subst e2
   exact⟨a,is,rfl,.inl (s.seq h1),WG.now w s _ aO⟩
  ·exact w.elim
 ·split at w
  ·rename_i is e
   obtain⟨v,rfl,h⟩:=a9 rs
   rw[Rep]at h
   obtain⟨a,vs,rfl,h1,h2⟩:=h
   have e2:=b9 h2 e
   subst e2
   exact⟨a,is,rfl,.inr (h1.mono s),WG.now w s _ aO⟩
  ·exact w.elim
 ·exact w.elim
section
variable {X:Cx}{F:Fx}{p pos:Pos}{e:Expr}{gs:SS→R (List D)}{k:Nat}
theorem nK (bx:BX X F k)(hg:Gl X "sum")(hm:X.mg "sum"=none)(ha:FA X F [e] gs)(he:starEach [e] X.env=(false,eval e X.env)::starEach [] X.env:=by rfl)(hpl:(backTo pos (starEach [] X.env)).any (·.1)=false:=by rfl):FE X F (.Call (.Name "sum" p) [e] [] pos) (eCall dSum gs) :=
 fv (id := "sum") (by have:=mf (X:=X) bx.calm;rw[bx.K]at this;exact this) uz hg hm (by decide +kernel) ha (he:=he) (hpl:=hpl)
end
theorem uA {X:Cx}{pins:List (Addr×Obj)}{σ:St}{H:Hp}{s:Shared}(I:Inv X pins σ H s){A:Around}(hu:A.units < cLine)(b k:Int)(t t':Tok):SeqAt.EqAt A s (.int b t) (.int k t') (b==k) :=
 wm (K:=X.K) (C:=fun _=>0) (Z:=fun _=>none) rfl I (fun _ _ e=>nomatch e) 0 A (.int b) (.int k) (.int b) (.int k) _ _ rfl rfl aO aO ⟨t,rfl⟩ ⟨t',rfl⟩ (by omega)
def isI (k:Int):Value→Bool
 | .int b _=>b==k
 | _=>false
section
variable {X:Cx}{F:Fx}{o e:Expr}{g:SS→R D}{gs:SS→R (List D)}{apos cpos:Pos}{k:Nat}
theorem yJ {K:PySem.W.Frag}{C:Nat→Addr}{Z:Hp}{k:Int}{vs:List V}(r:Reps K C Z [.int k] vs):vs=[.int k]:=by
 obtain⟨v,rfl,h⟩:=a9 r
 rw[Rep]at h
 rw[h]
end
end FF
namespace HT
open PySem PyProof.Rows
end HT
namespace FF
open PySem PySem.Spec PyProof.Rows L2
section
variable {X:Cx}{F:Fx}{e:Expr}{lo hi:Option Expr}{g:SS→R D}{l h:SS→R (Option Int)}{pos p2:Pos}
end
theorem R.bind_assoc {α β γ:Type}(r:R α)(f:α→R β)(g:β→R γ):(r.bind f).bind g=r.bind fun x=>(f x).bind g:=by cases r<;>rfl
theorem sL (i j:Nat){X:Cx}{F:Fx}{x y:Str}{p1 p2 tp pos pt2:Pos}{k k2:_}{n:Nat}{a b:Expr}{gs:SS→R (List D)}(bx:BX X F n)(hN:X.N.Nodup)(ha:FA X F [a,b] gs)(hij:i≠j:=by decide)(hi:X.N[i]?=some x:=by rfl)(hj:X.N[j]?=some y:=by rfl)
  (hx:X.env.scope.names.lookup x=some .local:=by rfl) (hy:X.env.scope.names.lookup y=some .local:=by rfl)
  (hw:swappedStores [.Tuple [.Name x p1,.Name y p2] k tp] (.Tuple [a,b] k2 pt2) X.env=pure (some [x,y]):=by rfl) (hs:swapsWithSole [.Tuple [.Name x p1,.Name y p2] k tp] (.Tuple [a,b] k2 pt2) pos.line X.env=pure false:=by rfl) :
  FS X F (.Assign [.Tuple [.Name x p1,.Name y p2] k tp] (.Tuple [a,b] k2 pt2) pos) (sAsg (gTup [i,j]) (eTup gs)) :=
 (Aa bx.calm hN hi hj hij hx hy ha hw hs).weak fun D σ H ⟨Z,S,ok,w⟩=>by
  have w0:WG F H Z ((gs S).bind fun ds=>(if ds.length≤16777216 then R.ok (FF.D.tup ds) else R.stuck).bind fun d=>(gTup [i,j] d S).bind fun S1=>R.ok (O.nx S1)) fun o _ Z'=>WO F Z' o D:=by
   rw[← R.bind_assoc]
   exact WO.wg ok w
  refine aS ok w0 fun ds vs H1 Z1 ok1 x1 rs w1=>?_
  split at w1
  ·have w2:WG F H1 Z1 (R.bind (if ds.length=2 then R.ok (setAll [i,j] ds S) else R.stuck) fun S1=>R.ok (O.nx S1)) fun o _ Z'=>WO F Z' o D:=w1
   split at w2
   ·rename_i hl
    match ds,hl,rs with
    | [d1,d2],_,h2 =>
     rw[Reps]at h2
     obtain⟨v1,r,rfl,q1,h2⟩:=h2
     rw[Reps]at h2
     obtain⟨v2,r,rfl,q2,h2⟩:=h2
     rw[Reps]at h2
     subst h2
     refine⟨v1,v2,rfl,?_⟩
     have w3:=WG.now w2 ok1.sub
     exact w3 _ _ _ (Same.refl _) ((ok1.setVal q1).setVal q2)
   ·exact w2.elim
  ·exact w1.elim
end FF
end
noncomputable section
namespace FF
open PySem L2
def sameK:D→D→Bool
 | .tup _,.tup _=>true
 | .int _,.int _=>true
 | _,_=>false
def dInI (x y:D):R D:=match x,y with
 | .int i,.tup ds=>match intsOf ds with
  | some is=>.ok (.bl (is.any (· == i)))
  | none=>.stuck
 | _,_=>.stuck
def dIndexI (xs es:List D):R D:=match es with
 | [.int k]=>match intsOf xs with
  | some is=>if is.idxOf k < is.length then .ok (.int (is.idxOf k:Nat)) else .stuck
  | none=>.stuck
 | _=>.stuck
def eMethT (f:List D→List D→R D)(g:SS→R D)(gs:SS→R (List D)):SS→R D:=fun S=>(g S).bind fun d=>match d with
 | .tup xs=>(gs S).bind fun es=>f xs es
 | _=>.stuck
end FF
end
noncomputable section
namespace PySem.SeqAt
open AutoSeq1 (wpAny_loadPart')
open MeetsSeq MeetsSeq2 MeetsSeq3 SeqRoads2
theorem tuple_indexAt (l:Addr)(items:Array Value)(n:Nat)(dd:Option Addr)(sl:Array (Option Value))(x:Value)(e:Value→Bool)(j:Nat)(hj:j < items.size)
  (hit:e items[j]=true) (hno:∀ m (hm:m < items.size),m < j→e items[m]=false) :
  Meets (Builtin.«tuple.index» ⟨[.ref l,x],[]⟩)
   (fun A R s=>s.heap.get? l=some { cls:=.type "tuple",dict:=dd,data:=.seq items n,slots:=sl }∧(∀ y,y∈items→EqAt A.in1 s y x (e y))∧R (.ok (.ret (.int (j:Nat) s.toks))) { s with toks:=s.toks+1 }) :=
 .of_wp fun prog w A R s h=>by
  obtain⟨hp,g,d,tk,os⟩:=s;obtain⟨hl,he,h⟩:=h
  wp_walk using wpAny_loadPart' hl
  have key:∀ (k i:Nat) (Q:Option Fin×Unit→Shared→Prop) (E:Value→Shared→Prop),k=items.size - i→i≤j→Q (some (.done (.ret (.int (j:Nat) tk))),()) ⟨hp,g,d,tk+1,os⟩ →
    wpAny (model prog w) A.in1 (forIn (List.range' i k) (none,()) fun (i:Nat) (_:Option Fin×Unit)=>(match items[i]? with
     | some y=>do
      let b ← eqBool y x
      if b=true then do
       let r ← retInt (i:Int)
       pure (ForInStep.done (some r,()))
      else pure (ForInStep.yield (none,()))
     | _=>pure (ForInStep.yield (none,())):Sem (ForInStep (Option Fin×Unit)))) Q E ⟨hp,g,d,tk,os⟩:=fun k=>by
   induction k with
   | zero=>intro i Q E hk hi hq;omega
   | succ k ih =>
    intro i Q E hk hi hq
    have hlt:i < items.size:=by omega
    have hx:items[i]?=some items[i]:=by simp[hlt]
    rw[List.range'_succ,List.forIn_cons,hx]
    refine wpAny_bind (wpAny_bind (he items[i] (by simp) prog w _ _ ?_))
    cases hy:e items[i] with
    | true =>
     have hij:i=j:=by
      rcases Nat.lt_or_ge i j with h1 | h1
      ·rw[hno i hlt h1]at hy;cases hy
      ·omega
     subst hij
     rw[if_pos rfl]
     unfold retInt
     wp_walk
     exact hq
    | false =>
     rw[if_neg (by decide)]
     have hne:i≠j:=fun q=>by subst q;rw[hit]at hy;cases hy
     refine wpAny_pure ?_
     exact ih (i+1) Q E (by omega) (by omega) hq
  show wpAny (model prog w) A.in1 (forIn ([:min items.size items.size]:Std.Legacy.Range) (none,()) fun (i:Nat) (_:Option Fin×Unit)=>(match items[i]? with
     | some y=>do
      let b ← eqBool y x
      if b=true then do
       let r ← retInt (i:Int)
       pure (ForInStep.done (some r,()))
      else pure (ForInStep.yield (none,()))
     | _=>pure (ForInStep.yield (none,())):Sem (ForInStep (Option Fin×Unit)))) _ _ _
  rw[Std.Legacy.Range.forIn_eq_forIn_range']
  simp only[Std.Legacy.Range.size,Nat.sub_zero,Nat.add_sub_cancel,Nat.div_one,Nat.min_self]
  refine key _ 0 _ _ rfl (Nat.zero_le _) ?_
  wp_walk
  exact⟨_,rfl,h⟩
end PySem.SeqAt
namespace FF
open PySem PySem.Spec PyProof.Rows L2
section
variable {X:Cx}{F:Fx}{a b:Expr}{ga gb:SS→R D}{pos:Pos}{k:Nat}
end
theorem jR:∀ l:List Int,intsOf (l.map FF.D.int)=some l
 | []=>rfl
 | i::l=>by rw[List.map_cons,intsOf,jR l];rfl
section
variable {X:Cx}{F:Fx}{a b:Expr}{ga gb:SS→R D}{pos:Pos}{k:Nat}
end
def rIndexT (K:PySem.W.Frag):V→List V→Hp→VK→Prop:=fun x vs H Q=>∃ (l:Addr) (is:List Int) (k:Int),x=.ref l∧vs=[.int k]∧SqT K H l (is.map V.int)∧is.idxOf k < is.length∧Q (.int (is.idxOf k:Nat)) H
theorem uB {X:Cx}{k:Nat}(hr:Room k X.A):MtR X "tuple.index" (rIndexT X.K):=by
 intro pins s σ H x vs v us Q I rx rv h
 obtain⟨l,is,k,rfl,rfl,hH,hj,q⟩:=h
 cases rx
 obtain⟨u,rfl,ru⟩:=rv.one
 obtain⟨tk,rfl⟩:=(show ∃ t,u=Value.int k t from ru)
 obtain⟨its,r,ht,hz⟩:=I.tuple hH
 obtain⟨ps,rfl,e⟩:=bO r
 have hT:s.TypeIs (.ref l) "tuple" := ht.typeIs
 obtain⟨⟨c2,d2,dt2,sl2⟩,e2,p2,n2,p3⟩:=ht
 simp only at p2 p3
 subst p2 p3
 have hl:ps.length=is.length:=by have:=congrArg List.length e;simpa using this
 have hsz:is.idxOf k < (ps.map fun p=>Value.int p.1 p.2).toArray.size:=by rw[List.size_toArray,List.length_map,hl];exact hj
 have hat:∀ m (hm:m < (ps.map fun p=>Value.int p.1 p.2).toArray.size) (hm':m < is.length),isI k (ps.map fun p=>Value.int p.1 p.2).toArray[m]=(is[m]==k):=fun m hm hm'=>by
  subst e
  simp[isI]
 refine call_meets F.slot_tuple_index hT F.entry_tuple_index (F.args_tuple_index_2 _ _) (SeqAt.tuple_indexAt l _ n2 _ _ (.int k tk) (isI k) (is.idxOf k) hsz ?_ ?_) ⟨e2,fun y hy=>?_,⟨.int _,H,I.tok _,⟨_,rfl⟩,q⟩⟩
 ·rw[hat _ _ hj]
  exact List.findIdx_getElem (w:=hj)
 ·intro m hm hlt
  have hm':m < is.length:=by omega
  rw[hat _ _ hm']
  exact Bool.eq_false_iff.mpr (by simpa using List.not_of_lt_findIdx hlt)
 ·have hy':y∈ps.map fun p=>Value.int p.1 p.2:=by simpa using hy
  obtain⟨b,_,rfl⟩:=List.mem_map.mp hy'
  exact uA I (by have:=hr.un;show X.A.units+1 < cLine;omega) b.1 k b.2 tk
section
variable {X:Cx}{F:Fx}{o e:Expr}{g:SS→R D}{gs:SS→R (List D)}{apos cpos:Pos}{k:Nat}
theorem uC {l:List Int}{p:Pos}{x:Str}(bx:BX X F k)(h:∃ a,X.mg x=some (.ref a)∧TupK F.K a l)(hg:Gl X x)(ha:FA X F [e] gs)(hd:(x==("__debug__":Str))=false:=by decide)
  (hbase:attributeBase (.Name x p) "index" X.env (eval (.Name x p) X.env)=eval (.Name x p) X.env:=by rfl)
  (hfew:((backTo cpos (starEach [e] X.env)).all (fun x=>!x.1)&&(backToKw cpos (keywordEach [] X.env)).all (fun x=>x.1.isSome)
   && decide ([e].length+([]:List Keyword).length+(if ([]:List Keyword).isEmpty then 0 else 1) < 30))=true:=by rfl)
  (hline:(apos.endLine==cpos.line)=true:=by rfl) (hs:starEach [e] X.env=(false,eval e X.env)::starEach [] X.env:=by rfl) (hplain:(backTo cpos (starEach [] X.env)).any (·.1)=false:=by rfl) :
  FE X F (.Call (.Attribute (.Name x p) "index" apos) [e] [] cpos) (eMethT dIndexI (eC (tupI l)) gs):=by
 obtain⟨a,em,o,its,n,h1,h2,h2d,h3,h4,h5⟩:=h
 refine(vW PySem.F.plainAttrs_tuple PySem.F.slot_tuple_index PySem.F.type_tuple_index (uB bx.room) (kh (v:=.ref a) hg em rfl hd) ha hbase hfew hline hs hplain).weak fun σ H Q ⟨Z,S,ok,w⟩=>?_
 have w0:WG F H Z ((gs S).bind fun es=>dIndexI (l.map .int) es) fun d H' Z'=>∀ v,Rep F.K F.C Z' d v→Q v H':=w
 have sq:∀ H:Hp,SqT F.K H a (l.map V.int):=fun H=>.inr ⟨o,its,n,h1,h2,h2d,h3,h4,h5⟩
 refine⟨.inr (.inl ⟨rfl,o,by rw[bx.K];exact h1,h2,h2d⟩),aS ok w0 fun es us H1 Z1 ok1 x1 rs w1=>?_⟩
 rw[bx.K]
 unfold dIndexI at w1
 split at w1
 ·rename_i kk
  split at w1
  ·rename_i is eb
   rw[jR l]at eb
   cases eb
   split at w1
   ·rename_i hl
    exact⟨a,l,kk,rfl,yJ rs,sq H1,hl,WG.now w1 ok1.sub _ aO⟩
   ·exact w1.elim
  ·exact w1.elim
 ·exact w1.elim
end
section
variable {X:Cx}{F:Fx}{pos p:Pos}{k:Nat}{gs:SS→R (List D)}{g ge:SS→R D}{e ei:Expr}{x:Str}
end
def dNf (x y:D):R D:=if good 60 x=true∧good 60 y=true then .ok (.bl (!eqD x y)) else .stuck
def rNf (K:PySem.W.Frag)(C:Nat→Addr):R2:=fun x y H Q=>∃ Z d e,Same Z H∧Rep K C Z d x∧Rep K C Z e y∧good 60 d=true∧good 60 e=true∧Q (.bl (!eqD d e)) H
section
variable {X:Cx}{F:Fx}{a b:Expr}{ga gb:SS→R D}{pos:Pos}{k:Nat}
theorem Bd (hK:X.K=F.K)(hr:Room k X.A):OpR X (compareOp .NotEq) (rNf F.K F.C):=by
 intro pins s σ H x y v u Q I rx ry h
 obtain⟨Z,d,e,z,h1,h2,g1,g2,q⟩:=h
 have hu:X.A.units+60 < cLine:=by have:=hr.un;omega
 exact(eqB hK I z 60 X.A d e x y v u g1 g2 h1 h2 rx ry hu).2.2 X.prog X.w X.xe _ ⟨.bl (!eqD d e),H,I,rfl,q⟩
theorem Aw:OpD F (rNf F.K F.C) dNf:=by
 intro H Z x y dx dy Q s rx ry w
 unfold dNf at w
 split at w
 ·rename_i g
  exact⟨Z,dx,dy,s,rx,ry,g.1,g.2,WG.now w s _ aR⟩
 ·exact w.elim
theorem bT (bx:BX X F k)(ha:FE X F a ga)(hb:FE X F b gb):FT X F (.Compare a [.NotEq] [b] pos) (gB (eOp dNf ga gb)):=gG (Bd bx.K bx.room) Aw ha hb
end
def qTk (es:List Nat)(j:Nat):Bool:=es.contains j
theorem wC {K:PySem.W.Frag}{C:Nat→Addr}{es:List Nat}(h:PySem.W.excIn K (C 0) bmVE "ValueError.__new__"=true)(hs:∀ j∈es,PySem.W.subIn K (.ref (C j)) (.ref (C 0))=some true):Takes K C (C 0) (qTk es) :=
 ⟨h,fun k e=>hs k (by simpa [qTk] using e)⟩
section
variable {X:Cx}{F:Fx}{o e:Expr}{g:SS→R D}{gs:SS→R (List D)}{apos cpos:Pos}{k:Nat}
end
end FF
end
noncomputable section
namespace FF
open PySem L2
inductive L (σ:Type) where
 | nx (s:σ) | rt (d:D) | er (k:Nat) | stuck
def lB {α σ:Type}(r:R α)(k:α→L σ):L σ:=match r with
 | .ok a=>k a
 | .err e=>.er e
 | .stuck=>.stuck
def lS {τ σ:Type}(l:L τ)(k:τ→L σ):L σ:=match l with
 | .nx s=>k s
 | .rt d=>.rt d
 | .er e=>.er e
 | .stuck=>.stuck
def lFor {α τ:Type}(f:τ→α→L τ):List α→τ→L τ
 | [],s=>.nx s
 | d::r,s=>lS (f s d) fun s'=>lFor f r s'
def lTry {τ σ:Type}(q:Nat→Bool)(l:L τ)(k:τ→L σ)(h:Nat→L σ):L σ:=match l with
 | .nx s=>k s
 | .rt d=>.rt d
 | .er e=>if q e=true then h e else .stuck
 | .stuck=>.stuck
def outL {σ:Type}(l:L σ):R D:=match l with
 | .nx _=>.ok .non
 | .rt d=>.ok d
 | .er k=>.err k
 | .stuck=>.stuck
section
variable {α τ σ:Type}
@[simp] theorem au (a:α)(k:α→L σ):lB (.ok a) k=k a:=rfl
@[simp] theorem Ax (e:Nat)(k:α→L σ):lB (.err e) k=.er e:=rfl
@[simp] theorem Be (k:α→L σ):lB .stuck k=.stuck:=rfl
@[simp] theorem aV (s:τ)(k:τ→L σ):lS (.nx s) k=k s:=rfl
@[simp] theorem Bf (d:D)(k:τ→L σ):lS (.rt d) k=.rt d:=rfl
@[simp] theorem Bg (e:Nat)(k:τ→L σ):lS (.er e) k=.er e:=rfl
@[simp] theorem Bh (k:τ→L σ):lS .stuck k=.stuck:=rfl
@[simp] theorem wD (f:τ→α→L τ)(s:τ):lFor f [] s=.nx s:=rfl
theorem aP (f:τ→α→L τ)(d:α)(r:List α)(s:τ):lFor f (d::r) s=lS (f s d) fun s'=>lFor f r s':=rfl
@[simp] theorem BJ (q:Nat→Bool)(s:τ)(k:τ→L σ)(h:Nat→L σ):lTry q (.nx s) k h=k s:=rfl
@[simp] theorem BK (q:Nat→Bool)(d:D)(k:τ→L σ)(h:Nat→L σ):lTry q (.rt d:L τ) k h=.rt d:=rfl
@[simp] theorem BL (q:Nat→Bool)(e:Nat)(k:τ→L σ)(h:Nat→L σ):lTry q (.er e:L τ) k h=if q e=true then h e else .stuck:=rfl
@[simp] theorem yK (s:σ):outL (.nx s)=.ok .non:=rfl
@[simp] theorem yL (d:D):outL (.rt d:L σ)=.ok d:=rfl
@[simp] theorem yM (k:Nat):outL (.er k:L σ)=.err k:=rfl
end
def rAnd (a b:R Bool):R Bool:=a.bind fun c=>if c=true then b else .ok false
def rOr (a b:R Bool):R Bool:=a.bind fun c=>if c=true then .ok true else b
def rNot (a:R Bool):R Bool:=a.bind fun c=>.ok (!c)
def vAnd (a b:R D):R D:=(asB a).bind fun c=>if c=true then b else .ok (.bl false)
def vOr (a b:R D):R D:=(asB a).bind fun c=>if c=true then .ok (.bl true) else b
def vNot (a:R D):R D:=(asB a).bind fun c=>.ok (.bl (!c))
def rIf (c:R Bool)(a b:R D):R D:=c.bind fun t=>if t=true then a else b
def rCh (f f':D→D→R D)(x y:D)(w:R D):R D:=(asB (f x y)).bind fun k=>if k=true then w.bind fun w=>f' y w else .ok (.bl false)
@[simp] theorem aB (b:Bool):asB (.ok (.bl b))=.ok b:=rfl
@[simp] theorem Ay (b:R Bool):rAnd (.ok true) b=b:=rfl
@[simp] theorem Az (b:R Bool):rAnd (.ok false) b=.ok false:=rfl
@[simp] theorem Bi (b:R Bool):rOr (.ok true) b=.ok true:=rfl
@[simp] theorem oR (b:R Bool):rOr (.ok false) b=b:=rfl
@[simp] theorem ci (b:Bool):rNot (.ok b)=.ok (!b):=rfl
@[simp] theorem wE (b:R D):vAnd (.ok (.bl true)) b=b:=rfl
@[simp] theorem wF (b:R D):vAnd (.ok (.bl false)) b=.ok (.bl false):=rfl
@[simp] theorem Bj (b:R D):vOr (.ok (.bl true)) b=.ok (.bl true):=rfl
@[simp] theorem Bl (b:R D):vOr (.ok (.bl false)) b=b:=rfl
@[simp] theorem yN (b:Bool):vNot (.ok (.bl b))=.ok (.bl (!b)):=rfl
@[simp] theorem Bm (a b:R D):rIf (.ok true) a b=a:=rfl
@[simp] theorem Bn (a b:R D):rIf (.ok false) a b=b:=rfl
def bA {α:Type}:List (R D)→(List D→R α)→R α
 | [],k=>k []
 | r::rs,k=>r.bind fun d=>bA rs fun ds=>k (d::ds)
def cGo (c:D→R Bool)(e:D→R D):List D→R (List D)
 | []=>.ok []
 | d::r=>match c d with
  | .ok true=>match e d with
   | .ok y=>match cGo c e r with
    | .ok ys=>.ok (y::ys)
    | _=>.stuck
   | _=>.stuck
  | .ok false=>cGo c e r
  | _=>.stuck
def cMap (e:D→R D)(xs:List D):R D:=(cGo (fun _=>.ok true) e xs).bind fun ys=>.ok (.lst ys)
def cFil (c:D→R Bool)(e:D→R D)(xs:List D):R D:=(cGo c e xs).bind fun ys=>.ok (.lst ys)
def un2 {α:Type}(d:D)(k:D→D→R α):R α:=match d with
 | .tup [a,b]=>k a b
 | _=>.stuck
def lUn2 {σ:Type}(d:D)(k:D→D→L σ):L σ:=match d with
 | .tup [a,b]=>k a b
 | _=>.stuck
def sq (d:D):R (List D):=(asSeq d).bind fun ds=>if ds.length≤16777216 then .ok ds else .stuck
def dInD (x y:D):R D:=match y with
 | .tup ds=>if good 60 x=true∧goods 60 ds=true then .ok (.bl (ds.any fun e=>eqD e x)) else .stuck
 | .lst ds=>if good 60 x=true∧goods 60 ds=true then .ok (.bl (ds.any fun e=>eqD e x)) else .stuck
 | _=>.stuck
def dNotInD (x y:D):R D:=(asB (dInD x y)).bind fun k=>.ok (.bl (!k))
def dList:List D→R D
 | [.lst xs]=>.ok (.lst xs)
 | [.tup xs]=>.ok (.lst xs)
 | _=>.stuck
def enD:List D→Nat→List D
 | [],_=>[]
 | d::r,i=>.tup [.int (i:Int),d]::enD r (i+1)
def dEnum (d:D):R (List D):=(sq d).bind fun ds=>.ok (enD ds 0)
def dRev (d:D):R D:=match d with
 | .lst xs=>.ok (.lst xs.reverse)
 | .tup xs=>.ok (.tup xs.reverse)
 | _=>.stuck
def dMin2:List D→R D
 | [.int i,.int j]=>.ok (.int (if j < i then j else i))
 | _=>.stuck
def onF {α:Type}(fs:List Nat)(f:D)(k:Nat→R α):R α:=match f with
 | .fn i=>if fs.contains i=true then k i else .stuck
 | _=>.stuck
def onT {α:Type}(d:D)(k:List D→R α):R α:=match d with
 | .tup xs=>k xs
 | _=>.stuck
def oApp (ds:List D)(v:D):R (List D):=if ds.length < 16777216 then .ok (ds++[v]) else .stuck
def oExt (ds:List D)(v:D):R (List D):=match v with
 | .lst xs=>if ds.length+xs.length≤16777216 then .ok (ds++xs) else .stuck
 | .tup xs=>if ds.length+xs.length≤16777216 then .ok (ds++xs) else .stuck
 | _=>.stuck
def a0 (k:L Unit):List D→R D
 | []=>outL k
 | _=>.stuck
def a1 (k:D→L Unit):List D→R D
 | [a]=>outL (k a)
 | _=>.stuck
def a2 (k:D→D→L Unit):List D→R D
 | [a,b]=>outL (k a b)
 | _=>.stuck
def a3 (k:D→D→D→L Unit):List D→R D
 | [a,b,c]=>outL (k a b c)
 | _=>.stuck
def a4 (k:D→D→D→D→L Unit):List D→R D
 | [a,b,c,d]=>outL (k a b c d)
 | _=>.stuck
def a5 (k:D→D→D→D→D→L Unit):List D→R D
 | [a,b,c,d,e]=>outL (k a b c d e)
 | _=>.stuck
end FF
end
noncomputable section
namespace FF
open PySem PySem.Spec PyProof.Rows L2
section
variable {X:Cx}{F:Fx}{e:Expr}{es:List Expr}{g:SS→R D}{gs:SS→R (List D)}
end
section
variable {α τ σ W:Type}
def WL (F:Fx)(Z:Hp)(J:σ→SS→Prop)(l:L σ)(D:Ends):Prop:=match l with
 | .nx s=>∀ S ρ H Z',J s S→Same Z Z'→StOk F H Z' S ρ→D.nx ρ H
 | .rt d=>∀ v H Z',Ex F.H0 F.Z0 H Z'→Rep F.K F.C Z' d v→D.rt v H
 | .er k=>∀ H,Same F.H0 H→F.E (.ref (F.C k)) none H
 | .stuck=>False
theorem WL.more {F:Fx}{Z Z1:Hp}{J:σ→SS→Prop}{l:L σ}{D:Ends}(w:WL F Z J l D)(z:Same Z Z1):WL F Z1 J l D:=by
 cases l with
 | nx s=>exact fun S ρ H Z' j q=>w S ρ H Z' j (z.trans q)
 | rt d=>exact w
 | er k=>exact w
 | stuck=>exact w
def tL (F:Fx)(S:SS)(J:σ→SS→Prop)(l:L σ):TS:=fun D ρ H=>∃ Z,StOk F H Z S ρ∧WL F Z J l D
abbrev FL (X:Cx)(F:Fx)(S:SS)(sts:List Stmt)(J:σ→SS→Prop)(l:L σ):Prop:=PSs X sts (tL F S J l)
abbrev FL1 (X:Cx)(F:Fx)(S:SS)(st:Stmt)(J:σ→SS→Prop)(l:L σ):Prop:=PS X st (tL F S J l)
def JX (inj:τ→W→SS):τ→SS→Prop:=fun s S=>∃ w,S=inj s w
def JU:Unit→SS→Prop:=fun _ _=>True
abbrev vv (d:D):Option Sl:=some (.val d)
abbrev ow (ds:List D):Option Sl:=some (.own ds)
abbrev nn:Option Sl:=none
variable {X:Cx}{F:Fx}{S:SS}{st:Stmt}{rest:List Stmt}{J:σ→SS→Prop}{J1:τ→SS→Prop}
theorem rk {sts:List Stmt}{t:α→TS}(h:∀ a,PSs X sts (t a)):PSs X sts (fun D ρ H=>∃ a,t a D ρ H):=fun pins s ρ H D I ⟨a,w⟩=>h a pins s ρ H D I w
theorem WL.wg {D:Ends}{r:R α}{k:α→L σ}{H Z:Hp}{ρ:St}(ok:StOk F H Z S ρ)(w:WL F Z J (lB r k) D):WG F H Z r fun a _ Z'=>WL F Z' J (k a) D:=by
 cases r with
 | ok o=>exact fun _ _ x=>WL.more w x.z
 | err k=>exact fun H' s=>w H' (ok.ex.same.trans s)
 | stuck=>exact w
theorem ap {s:σ}(h:J s S):FL X F S [] J (.nx s):=yh.weak fun D ρ H ⟨Z,ok,w⟩=>w S ρ H Z h (Same.refl _) ok
theorem ai {g:SS→O}{r:R α}{S':α→SS}{k:α→L σ}(h:FS X F st g)(hg:g S=rO (r.bind fun a=>.ok (.nx (S' a))))(hk:∀ a,FL X F (S' a) rest J (k a)):FL X F S (st::rest) J (lB r k) :=
 (fq h (rk hk)).weak fun D ρ H ⟨Z,ok,w⟩=>⟨Z,S,ok,by
  rw[hg]
  cases r with
  | ok a=>exact fun ρ' H' Z' z ok'=>⟨a,Z',ok',WL.more w z⟩
  | err k=>exact w
  | stuck=>exact w⟩
theorem cy {g:SS→O}{S':SS}{l:L σ}(h:FS X F st g)(hg:g S=.nx S')(hk:FL X F S' rest J l):FL X F S (st::rest) J l :=
 (fq h hk).weak fun D ρ H ⟨Z,ok,w⟩=>⟨Z,S,ok,by rw[hg];exact fun ρ' H' Z' z ok'=>⟨Z',ok',WL.more w z⟩⟩
theorem aj {g:SS→R D}{r:R D}(h:FS X F st (sRet g))(hr:g S=r):FL X F S (st::rest) J (lB r .rt) :=
 (fq h mQ).weak fun D ρ H ⟨Z,ok,w⟩=>⟨Z,S,ok,by
  unfold sRet
  rw[hr]
  cases r with
  | ok a=>exact w
  | err k=>exact w
  | stuck=>exact w⟩
theorem az {g:SS→R D}{v:D}(h:FS X F st (sRet g))(hr:g S=.ok v):FL X F S (st::rest) J (.rt v):=aj h hr
theorem fz {g:SS→O}{k:Nat}(h:FS X F st g)(hg:g S=.er k):FL X F S (st::rest) J (.er k) :=
 (fq h mQ).weak fun D ρ H ⟨Z,ok,w⟩=>⟨Z,S,ok,by rw[hg];exact w⟩
theorem jc (i:Nat){ds:List D}{S':SS}{sts:List Stmt}{l:L σ}(hi:S[i]?=some (some (.own ds)))(hS:S.set i (some (.val (.lst ds)))=S')(h:FL X F S' sts J l):FL X F S sts J l :=
 h.weak fun D ρ H ⟨Z,ok,w⟩=>by
  obtain⟨Z',z,ok'⟩:=ok.freeze hi
  rw[hS]at ok'
  exact⟨Z',ok',WL.more w z⟩
theorem aw {c:Expr}{a b:List Stmt}{pos:Pos}{gt:SS→R Bool}{r:R Bool}{A B:L σ}(hc:FT X F c gt)(hr:gt S=r)(ha:FL X F S a J A)(hb:FL X F S b J B):FL1 X F S (.If c a b pos) J (lB r fun t=>if t=true then A else B) :=
 (A4 hc ha hb).weak fun D ρ H ⟨Z,ok,w⟩=>hR (P:=fun t _ Z'=>WL F Z' J (if t=true then A else B) D) ok (by
  rw[hr]
  have:=WL.wg ok w
  cases r<;>exact this) fun t H1 Z1 ok1 x1 w1=>by
  have w2:=WG.now w1 ok1.sub
  cases t with
  | true=>exact⟨Z1,ok1,w2⟩
  | false=>exact⟨Z1,ok1,w2⟩
theorem fA {l:L σ}(h:FL1 X F S st J l):FL X F S [st] J l:=yi h
theorem av {l:L τ}{k:τ→L σ}{inj:τ→W→SS}(h:FL1 X F S st (JX inj) l)(hk:∀ s w,FL X F (inj s w) rest J (k s)):FL X F S (st::rest) J (lS l k) :=
 (fq h (rk (fun s=>rk fun w=>hk s w))).weak fun D ρ H ⟨Z,ok,w⟩=>⟨Z,ok,by
  cases l with
  | nx s=>exact fun S' ρ' H' Z' ⟨x,e⟩ z ok'=>⟨s,x,Z',by rw[← e];exact ok',WL.more w z⟩
  | rt d=>exact w
  | er k=>exact w
  | stuck=>exact w⟩
end
section
variable {σ τ W:Type}{X:Cx}{F:Fx}{S:SS}{tg iter:Expr}{body:List Stmt}{pos:Pos}{git:SS→R (List D)}{g:D→SS→R SS}{inj:τ→W→SS}{step:τ→D→L τ}
theorem oS {r:R (List D)}{s0:τ}(w0:W)(hp:PassesOwn (model X.prog X.w) X.A X.env X.xe)(hc:X.calm=true)(hi:FI X F tg iter git)(hr:git S=r)(hg:FG X F tg g)
  (hb:∀ s w x S1,g x (inj s w)=.ok S1→FL X F S1 body (JX inj) (step s x)) (hno:∀ s w x k,g x (inj s w)≠.err k) (hst:∀ s w x,g x (inj s w)=.stuck→step s x=.stuck)
  (hS:S=inj s0 w0) (hs:∀ x,foldedSetIterable iter X.env x=pure x:=by intro _;rfl):FL1 X F S (.For tg iter body [] pos) (JX inj) (lB r fun xs=>lFor step xs s0):=by
 have hbb:PSs X body (fun D ρ H=>∃ (q:τ×W×FF.D×SS) (_:g q.2.2.1 (inj q.1 q.2.1)=.ok q.2.2.2),tL F q.2.2.2 (JX inj) (step q.1 q.2.2.1) D ρ H):=fun pins s ρ H D I ⟨q,e,w⟩=>hb q.1 q.2.1 q.2.2.1 q.2.2.2 e pins s ρ H D I w
 refine(Ac hp hc hi hg hbb hs).weak fun D ρ H ⟨Z,ok,w⟩=>?_
 refine⟨Z,S,ok,?_⟩
 have w00:=WL.wg ok w
 rw[hr]
 cases r with
 | err k=>exact w00
 | stuck=>exact w00
 | ok ds =>
  intro H1 Z1 x1
  have w1:=w00 H1 Z1 x1
  intro J wk _
  refine⟨fun i m ρ H=>m=ds.length - i∧i≤ds.length∧∃ Z2 s w,StOk F H Z2 (inj s w) ρ∧Same Z1 Z2∧WL F Z2 (JX inj) (lFor step (ds.drop i) s) D,⟨ds.length,rfl,Nat.zero_le _,Z1,s0,w0,by rw[← hS];exact ok.more x1,Same.refl _,w1⟩,?_⟩
  rintro i m ρ2 H2 ⟨rfl,hle,Z2,s,w2,ok2,z2,wl2⟩
  obtain⟨k1,k2⟩:=wk i H2 Z2 z2 ok2.sub
  by_cases hlt:i < ds.length
  ·obtain⟨go,y⟩:=k1 hlt
   refine .inr ⟨go,fun ρ' H'=>∃ Z3 s3 w3,StOk F H' Z3 (inj s3 w3) ρ'∧Same Z1 Z3∧WL F Z3 (JX inj) (lFor step (ds.drop (i+1)) s3) D,fun ρ' H' ⟨Z3,s3,w3,q⟩=>⟨ds.length - (i+1),by omega,rfl,hlt,Z3,s3,w3,q⟩,fun x H' hy=>?_⟩
   obtain⟨Z2',d,x',e3,rd⟩:=y x H' hy
   have ok2:=ok2.more x'
   have hd:ds.drop i=d::ds.drop (i+1):=by
    obtain⟨hi,e4⟩:=List.getElem?_eq_some_iff.mp e3
    rw[List.drop_eq_getElem_cons hi,e4]
   rw[hd,aP]at wl2
   refine⟨Z2',inj s w2,d,ok2,rd,?_⟩
   cases q:g d (inj s w2) with
   | err k=>exact absurd q (hno s w2 d k)
   | stuck=>rw[hst s w2 d q]at wl2;exact wl2
   | ok S1 =>
    intro H4 Z4 x4 ρ4 ok4
    refine⟨⟨s,w2,d,S1⟩,q,Z4,ok4,?_⟩
    have z14:Same Z1 Z4:=(z2.trans x'.z).trans x4.z
    cases qb:step s d with
    | nx s5 =>
     rw[qb]at wl2
     exact fun S5 ρ5 H5 Z5 ⟨w5,e5⟩ z5 ok5=>⟨Z5,s5,w5,by rw[← e5];exact ok5,z14.trans z5,WL.more wl2 ((x'.z.trans x4.z).trans z5)⟩
    | rt d=>rw[qb]at wl2;exact wl2
    | er k=>rw[qb]at wl2;exact wl2
    | stuck=>rw[qb]at wl2;exact wl2
  ·refine .inl ⟨k2 (by omega),?_⟩
   rw[List.drop_eq_nil_of_le (by omega)]at wl2
   exact wl2 (inj s w2) ρ2 H2 Z2 ⟨w2,rfl⟩ (Same.refl _) ok2
theorem cj (i:Nat){r:R (List D)}{s0:τ}{B:τ→W→D→SS}(w0:W)(hp:PassesOwn (model X.prog X.w) X.A X.env X.xe)(hc:X.calm=true)(hi:FI X F tg iter git)(hr:git S=r)(hg:FG X F tg (gNm i))
  (hS:S=inj s0 w0) (hB:∀ s w x,(inj s w).set i (some (.val x))=B s w x) (hb:∀ s w x,FL X F (B s w x) body (JX inj) (step s x))
  (hs:∀ x,foldedSetIterable iter X.env x=pure x:=by intro _;rfl):FL1 X F S (.For tg iter body [] pos) (JX inj) (lB r fun xs=>lFor step xs s0) :=
 oS w0 hp hc hi hr hg (fun s w x S1 e=>by cases e;rw[hB];exact hb s w x) (fun s w x k e=>nomatch e) (fun s w x e=>nomatch e) hS hs
theorem wG (i j:Nat){r:R (List D)}{s0:τ}{B:τ→W→D→D→SS}{step:τ→D→D→L τ}(w0:W)(hp:PassesOwn (model X.prog X.w) X.A X.env X.xe)(hc:X.calm=true)(hi:FI X F tg iter git)(hr:git S=r)(hg:FG X F tg (gTup [i,j]))
  (hS:S=inj s0 w0) (hB:∀ s w x y,((inj s w).set i (some (.val x))).set j (some (.val y))=B s w x y) (hb:∀ s w x y,FL X F (B s w x y) body (JX inj) (step s x y))
  (hs:∀ x,foldedSetIterable iter X.env x=pure x:=by intro _;rfl):FL1 X F S (.For tg iter body [] pos) (JX inj) (lB r fun xs=>lFor (fun s p=>lUn2 p fun x y=>step s x y) xs s0):=by
 have two:∀ (p:D) (S0:SS),(∃ x y,p=.tup [x,y]∧gTup [i,j] p S0=.ok ((S0.set i (some (.val x))).set j (some (.val y))))∨(gTup [i,j] p S0=.stuck∧∀ (k:D→D→L τ),lUn2 p k=.stuck):=fun p S0=>by
  cases p with
  | tup ds =>
   match ds with
   | []=>exact .inr ⟨rfl,fun _=>rfl⟩
   | [_]=>exact .inr ⟨rfl,fun _=>rfl⟩
   | [x,y]=>exact .inl ⟨x,y,rfl,rfl⟩
   | _::_::_::_=>exact .inr ⟨by unfold gTup;simp,fun _=>rfl⟩
  | _=>exact .inr ⟨rfl,fun _=>rfl⟩
 refine oS w0 hp hc hi hr hg (fun s w p S1 e=>?_) (fun s w p k e=>?_) (fun s w p e=>?_) hS hs
 ·rcases two p (inj s w) with ⟨x,y,rfl,q⟩ | ⟨q,_⟩
  ·rw[q]at e
   cases e
   rw[hB]
   exact hb s w x y
  ·rw[q]at e;cases e
 ·rcases two p (inj s w) with ⟨x,y,rfl,q⟩ | ⟨q,_⟩<;>rw[q]at e<;>cases e
 ·rcases two p (inj s w) with ⟨x,y,rfl,q⟩ | ⟨_,q⟩
  ·rw[q]at e;cases e
  ·exact q _
end
section
variable {σ τ W:Type}{X:Cx}{F:Fx}{S:SS}{rest:List Stmt}{J:σ→SS→Prop}{k:Nat}
end
section
variable {σ τ W:Type}{S:SS}{X:Cx}{F:Fx}{body:List Stmt}{g:SS→O}{c n y:Str}{np np2 kp apos hpos pos:Pos}{k:Nat}{q:Nat→Bool}{C0:Addr}
end
section
variable {σ τ W:Type}{X:Cx}{F:Fx}{S:SS}{rest:List Stmt}{J:σ→SS→Prop}
end
section
variable {X:Cx}{F:Fx}{e:Expr}{es:List Expr}{g g':SS→R D}{gs:List (SS→R D)}{k:Nat}{f:List D→R D}{pos:Pos}
theorem ig (h:FE X F e g)(hg:∀ S,g S=g' S):FE X F e g':=by
 have:g=g':=funext hg
 rw[← this];exact h
theorem ki {st:Stmt}{g g':SS→O}(h:FS X F st g)(hg:∀ S,g S=g' S):FS X F st g':=by
 have:g=g':=funext hg
 rw[← this];exact h
def aL:List (SS→R D)→SS→R (List D)
 | []=>aNil
 | g::gs=>aCons g (aL gs)
def eBA {α:Type}(f:List D→R α)(gs:List (SS→R D)):SS→R α:=fun S=>bA (gs.map fun g=>g S) f
theorem dU {α β:Type}{r:R α}{f f':α→R β}(h:∀ a,f a=f' a):r.bind f=r.bind f':=by cases r<;>first | exact h _ | rfl
theorem cL {α:Type}(S:SS):∀ (gs:List (SS→R D)) (f:List D→R α),(aL gs S).bind f=eBA f gs S
 | [],f=>rfl
 | g::gs,f=>by
  show ((g S).bind fun d=>(aL gs S).bind fun ds=>R.ok (d::ds)).bind f=(g S).bind fun d=>bA (gs.map fun g=>g S) fun ds=>f (d::ds)
  rw[R.bind_assoc]
  refine dU fun d=>?_
  rw[R.bind_assoc]
  exact cL S gs fun ds=>f (d::ds)
theorem jd {S:SS}:∀ {gs:List (SS→R D)} {ds:List D},aL gs S=.ok ds→ds.length=gs.length
 | [],ds,h=>by cases h;rfl
 | g::gs,ds,h=>uq (fun S' ds' h'=>by
   by_cases q:S'=S
   ·subst q;exact jd h'
   ·exact jd h') S ds h
structure FAL (X:Cx)(F:Fx)(es:List Expr)(gs:List (SS→R D)):Prop where
 out:FA X F es (aL gs)
theorem ad:FAL X F [] []:=⟨Ap⟩
theorem aa (ha:FE X F e g)(hr:FAL X F es gs)(hs:starEach (e::es) X.env=(false,eval e X.env)::starEach es X.env:=by rfl):FAL X F (e::es) (g::gs):=⟨yu ha hr.out hs⟩
theorem fe_N (h:FE X F e (eCall f (aL gs))):FE X F e (eBA f gs):=ig h fun S=>cL S gs f
theorem ae {x:Str}{p:Pos}{ps:List Str}(b:BX X F k)(h:Fn1 X.prog X.w F.K X.mg X.base F.C k x ps f)(hg:Gl X x)(ha:FAL X F (e::es) gs)(hn:gs.length=ps.length:=by rfl)(hdb:(x==("__debug__":Str))=false:=by decide)
  (he:starEach (e::es) X.env=(false,eval e X.env)::starEach es X.env:=by rfl) (hpl:(backTo pos (starEach es X.env)).any (·.1)=false:=by rfl):FE X F (.Call (.Name x p) (e::es) [] pos) (eBA f gs) :=
 fe_N (yE b h hg ha.out (fun S ds q=>(jd q).trans hn) hdb he hpl)
theorem aT {x1}(h:FAL X F es gs)(hl:gs.length≤16777216:=by exact Nat.le_of_ble_eq_true rfl):FE X F (.Tuple es x1 pos) (eBA (fun ds=>.ok (.tup ds)) gs) :=
 ig (Aq h.out) fun S=>by
  rw[← cL]
  show (aL gs S).bind _=_
  cases q:aL gs S with
  | ok ds=>show (if ds.length≤16777216 then R.ok (FF.D.tup ds) else R.stuck)=_;rw[if_pos (by rw[jd q];exact hl)];rfl
  | err k=>rfl
  | stuck=>rfl
theorem cM (h:FAL X F es gs)(hl:gs.length≤16777216:=by exact Nat.le_of_ble_eq_true rfl):FE X F (.List es pos) (eBA (fun ds=>.ok (.lst ds)) gs) :=
 ig (Ar h.out) fun S=>by
  rw[← cL]
  show (aL gs S).bind _=_
  cases q:aL gs S with
  | ok ds=>show (if ds.length≤16777216 then R.ok (FF.D.lst ds) else R.stuck)=_;rw[if_pos (by rw[jd q];exact hl)];rfl
  | err k=>rfl
  | stuck=>rfl
end
section
variable {X:Cx}{F:Fx}{k:Nat}{e f:Expr}{es:List Expr}{p pos:Pos}{x:Str}
theorem Bo {i:Nat}(hm:X.mg x=some (.ref (F.C i)))(hg:Gl X x)(hd:(x==("__debug__":Str))=false:=by decide):FE X F (.Name x pos) (eC (.fn i)) :=
 fV (kh (v:=.ref (F.C i)) hg hm rfl hd) fun _=>by rw[Rep]
theorem wH {CX:CXT}{E:XK}{tf:TE}{t:TA}(hf:PE X f tf)(hr:Room k X.A)(hx:Passes CX X E)(ha:PA X (e::es) t)
  (hev:eval (.Call f (e::es) [] pos) X.env=(do callWith pos (← eval f X.env) [] (backTo pos (starEach (e::es) X.env)) (backToKw pos (keywordEach [] X.env))):=by rfl)
  (he:starEach (e::es) X.env=(false,eval e X.env)::starEach es X.env:=by rfl) (hpl:(backTo pos (starEach es X.env)).any (·.1)=false:=by rfl) :
  PE X (.Call f (e::es) [] pos) (fun σ H Q=>tf σ H fun v H1=>∃ a fd ps sp,v=.ref a∧FnOk X.prog X.w X.K X.mg X.base CX k a fd ps sp∧PySem.W.keepIn X.K (.ref a)=true∧Binds X.K fd ps []∧t σ H1 fun vs H2=>sp (vs++[]) H2 Q E):=by
 intro pins s σ H Q I h
 rw[hev]
 refine wpAny_bind (thn (hf pins s σ H _ I h) fun u s1 ⟨v,H1,I1,r,a,fd,ps,sp,ev,FO,hk,hb,q⟩=>?_)
 subst ev
 cases r
 refine PySem.W.callWith_K I1.ok.mod.kin hk (thn (ha pos pins s1 σ H1 _ I1 q) fun us s2 ⟨vs,H2,I2,r2,q2⟩=>⟨I2.kIn,?_⟩) he hpl
 exact vU FO hr hb .nil hx I2 r2 q2
structure FnV (P:Program)(w:World)(K:PySem.W.Frag)(mg:Str→Option Value)(base:Heap)(C:Nat→Addr)(k:Nat)(i:Nat)(f:List D→R D):Prop where
 ex:∃ fd ps,FnOk P w K mg base (CXE P w) k (C i) fd ps (spF K C ps.length f)∧PySem.W.keepIn K (.ref (C i))=true∧Binds K fd ps []∧∀ ds,ds.length≠ps.length→f ds=.stuck
def eCV (fs:List Nat)(t:Nat→List D→R D)(gf:SS→R D)(gs:List (SS→R D)):SS→R D:=fun S=>(gf S).bind fun f=>onF fs f fun i=>bA (gs.map fun g=>g S) (t i)
theorem wI {fs:List Nat}{t:Nat→List D→R D}{gf:SS→R D}{gs:List (SS→R D)}(b:BX X F k)(hT:∀ i∈fs,FnV X.prog X.w F.K X.mg X.base F.C k i (t i))(hf:FE X F f gf)(ha:FAL X F (e::es) gs)
  (hev:eval (.Call f (e::es) [] pos) X.env=(do callWith pos (← eval f X.env) [] (backTo pos (starEach (e::es) X.env)) (backToKw pos (keywordEach [] X.env))):=by rfl)
  (he:starEach (e::es) X.env=(false,eval e X.env)::starEach es X.env:=by rfl) (hpl:(backTo pos (starEach es X.env)).any (·.1)=false:=by rfl) :
  FE X F (.Call f (e::es) [] pos) (eCV fs t gf gs) :=
 (wH hf b.room b.pass ha.out hev he hpl).weak fun σ H Q ⟨Z,S,ok,w⟩=>by
  refine aM ok w fun d v H1 Z1 ok1 x1 rv w1=>?_
  cases d with
  | fn i =>
   by_cases hi:fs.contains i=true
   ·rw[Rep]at rv
    obtain⟨fd,ps,h1,h2,h3,h4⟩:=(hT i (by simpa using hi)).ex
    refine⟨F.C i,fd,ps,_,rv,by rw[b.K];exact h1,by rw[b.K];exact h2,by rw[b.K];exact h3,?_⟩
    have e0:onF fs (.fn i) (fun i=>bA (gs.map fun g=>g S) (t i))=(aL gs S).bind (t i):=by
     rw[cL]
     show (if fs.contains i=true then _ else R.stuck)=_
     rw[if_pos hi];rfl
    rw[e0]at w1
    refine aS ok1 w1 fun ds vs H2 Z2 ok2 x2 rs w4=>?_
    by_cases hl:ds.length=ps.length
    ·refine⟨by rw[List.append_nil,← rs.length];exact hl,Z2,ds,ok2.sub,by rw[List.append_nil];exact rs,?_⟩
     cases q:t i ds with
     | ok d=>rw[q]at w4;exact w4
     | err k=>rw[q]at w4;exact w4
     | stuck=>rw[q]at w4;exact w4
    ·rw[h4 ds hl]at w4;exact w4.elim
   ·have e0:onF fs (.fn i) (fun i=>bA (gs.map fun g=>g S) (t i))=.stuck:=by
     show (if fs.contains i=true then _ else R.stuck)=_
     rw[if_neg hi]
    rw[e0]at w1
    exact w1.elim
  | _=>exact w1.elim
end
theorem oT {S:SS}{g:D→SS→R SS}{c:SS→R Bool}{e:SS→R D}:∀ ds,noErr (compGo S g c e ds)=cGo (fun d=>(g d S).bind c) (fun d=>(g d S).bind e) ds
 | []=>rfl
 | d::r=>by
  have ih:=oT (S:=S) (g:=g) (c:=c) (e:=e) r
  rw[cGo,compGo]
  cases q:g d S with
  | err k=>rfl
  | stuck=>rfl
  | ok S1 =>
   show noErr ((c S1).bind fun t=>if t=true then (e S1).bind fun y=>(compGo S g c e r).bind fun ys=>.ok (y::ys) else compGo S g c e r)=(match c S1 with
    | .ok true=>match e S1 with
     | .ok y=>match cGo _ _ r with
      | .ok ys=>.ok (y::ys)
      | _=>.stuck
     | _=>.stuck
    | .ok false=>cGo _ _ r
    | _=>.stuck)
   cases qc:c S1 with
   | err k=>rfl
   | stuck=>rfl
   | ok t =>
    cases t with
    | false=>exact ih
    | true =>
     cases qe:e S1 with
     | err k=>rfl
     | stuck=>rfl
     | ok y =>
      rw[← ih]
      cases compGo S g c e r<;>rfl
def eCC (own:Nat)(cap:List Nat)(it:SS→R (List D))(g:D→SS→R SS)(c:SS→R Bool)(e:SS→R D):SS→R D:=fun S=>(it S).bind fun ds=>(cGo (fun d=>(g d (blkS own cap S)).bind c) (fun d=>(g d (blkS own cap S)).bind e) ds).bind fun ys=>.ok (.lst ys)
theorem oU {own:Nat}{cap:List Nat}{it:SS→R (List D)}{g:D→SS→R SS}{c:SS→R Bool}{e:SS→R D}(S:SS):eComp own cap it g c e S=eCC own cap it g c e S:=by
 unfold eComp eCC
 exact dU fun ds=>by rw[oT]
theorem fe_C {X:Cx}{F:Fx}{e:Expr}{own:Nat}{cap:List Nat}{it:SS→R (List D)}{g:D→SS→R SS}{c:SS→R Bool}{el:SS→R D}(h:FE X F e (eComp own cap it g c el)):FE X F e (eCC own cap it g c el):=ig h oU
theorem fs_C {X:Cx}{F:Fx}{st:Stmt}{n own:Nat}{cap:List Nat}{it:SS→R (List D)}{g:D→SS→R SS}{c:SS→R Bool}{el:SS→R D}(h:FS X F st (sSet n (eComp own cap it g c el))):FS X F st (sSet n (eCC own cap it g c el)):=ki h fun S=>by unfold sSet;rw[oU]
section
variable {X:Cx}{F:Fx}{st:Stmt}{i:Nat}{g:SS→R D}
def sAppC (i:Nat)(g:SS→R D):SS→O:=fun S=>match S[i]? with
 | some (some (.own ds))=>rO (((g S).bind fun v=>oApp ds v).bind fun ds'=>.ok (.nx (S.set i (some (.own ds')))))
 | _=>.stuck
theorem oV {α:Type}(r:R D)(f:List D→R α):((r.bind fun d=>(R.ok []:R (List D)).bind fun ds=>R.ok (d::ds)).bind f)=r.bind fun d=>f [d]:=by cases r<;>rfl
theorem fs_A (h:FS X F st (sApp i (aL [g]))):FS X F st (sAppC i g):=ki h fun S=>by
 unfold sApp sAppC
 cases q:S[i]? with
 | none=>rfl
 | some o =>
  cases o with
  | none=>rfl
  | some x =>
   cases x with
   | val d=>rfl
   | mat m=>rfl
   | dic m=>rfl
   | dit m=>rfl
   | dir m=>rfl
   | own ds =>
    show rO (((g S).bind fun d=>(R.ok []:R (List D)).bind fun ds=>R.ok (d::ds)).bind _)=rO _
    rw[oV,R.bind_assoc]
    refine congrArg rO (dU fun v=>?_)
    unfold oApp
    show (if _ then _ else _)=_
    split<;>rfl
def sExtC (i:Nat)(g:SS→R D):SS→O:=fun S=>match S[i]? with
 | some (some (.own ds))=>rO (((g S).bind fun v=>oExt ds v).bind fun ds'=>.ok (.nx (S.set i (some (.own ds')))))
 | _=>.stuck
theorem fs_X (h:FS X F st (sExt i (aL [g]))):FS X F st (sExtC i g):=ki h fun S=>by
 unfold sExt sExtC
 cases q:S[i]? with
 | none=>rfl
 | some o =>
  cases o with
  | none=>rfl
  | some x =>
   cases x with
   | val d=>rfl
   | mat m=>rfl
   | dic m=>rfl
   | dit m=>rfl
   | dir m=>rfl
   | own ds =>
    show rO (((g S).bind fun d=>(R.ok []:R (List D)).bind fun ds=>R.ok (d::ds)).bind _)=rO _
    rw[oV,R.bind_assoc]
    refine congrArg rO (dU fun v=>?_)
    unfold oExt
    cases v with
    | lst xs=>by_cases hl:ds.length+xs.length≤16777216<;>simp[hl]
    | tup xs=>by_cases hl:ds.length+xs.length≤16777216<;>simp[hl]
    | _=>rfl
def sOwnC (i:Nat)(gs:List (SS→R D)):SS→O:=fun S=>rO ((eBA .ok gs S).bind fun ds=>.ok (.nx (S.set i (some (.own ds)))))
theorem fs_O {gs:List (SS→R D)}(h:FS X F st (sOwn i (aL gs)))(hl:gs.length≤16777216:=by exact Nat.le_of_ble_eq_true rfl):FS X F st (sOwnC i gs):=ki h fun S=>by
 unfold sOwn sOwnC
 rw[← cL,R.bind_assoc]
 refine congrArg rO ?_
 cases q:aL gs S with
 | ok ds=>show (if ds.length≤16777216 then _ else _)=_;rw[if_pos (by rw[jd q];exact hl)];rfl
 | err k=>rfl
 | stuck=>rfl
end
section
variable {X:Cx}{F:Fx}{e tg:Expr}{g ga:SS→R D}{f:List D→List D→R D}{gs:List (SS→R D)}
def eMT (f:List D→List D→R D)(g:SS→R D)(gs:List (SS→R D)):SS→R D:=fun S=>(g S).bind fun d=>onT d fun xs=>bA (gs.map fun g=>g S) (f xs)
theorem Bp (h:FE X F e (eMethT f g (aL gs))):FE X F e (eMT f g gs):=ig h fun S=>by
 unfold eMethT eMT
 refine dU fun d=>?_
 cases d with
 | tup xs=>exact cL S gs (f xs)
 | _=>rfl
theorem sM {g g':SS→R (List D)}(h:FI X F tg e g)(hg:∀ S,g S=g' S):FI X F tg e g':=by
 have:g=g':=funext hg
 rw[← this];exact h
theorem ii (h:FI X F tg e (iRange1 (aL gs))):FI X F tg e (eBA rng1 gs):=sM h fun S=>cL S gs rng1
theorem wJ (h:FI X F tg e (iRange2 (aL gs))):FI X F tg e (eBA rng2 gs):=sM h fun S=>cL S gs rng2
end
theorem Bq {k:D→L Unit}{ds:List D}(h:ds.length≠1):a1 k ds=.stuck:=by
 match ds,h with
 | [],_=>rfl
 | [_],h=>exact absurd rfl h
 | _::_::_,_=>rfl
section
variable {σ:Type}{X:Cx}{F:Fx}{S:SS}{st:Stmt}{rest:List Stmt}{J:σ→SS→Prop}
theorem sN (i j:Nat){ga gb:SS→R D}{ra rb:R D}{S':D→D→SS}{k:D→D→L σ}(h:FS X F st (sAsg (gTup [i,j]) (eTup (aL [ga,gb]))))(ha:ga S=ra)(hb:gb S=rb)(hS:∀ x y,(S.set i (some (.val x))).set j (some (.val y))=S' x y)
  (hk:∀ x y,FL X F (S' x y) rest J (k x y)):FL X F S (st::rest) J (lB ra fun x=>lB rb fun y=>k x y):=by
 have e:sAsg (gTup [i,j]) (eTup (aL [ga,gb])) S=rO ((ra.bind fun x=>rb.bind fun y=>R.ok (x,y)).bind fun p=>.ok (.nx (S' p.1 p.2))):=by
  unfold sAsg eTup
  show rO (((((ga S).bind fun d=>((gb S).bind fun d=>(R.ok []:R (List D)).bind fun ds=>R.ok (d::ds)).bind fun ds=>R.ok (d::ds)).bind fun ds=>if ds.length≤16777216 then R.ok (FF.D.tup ds) else .stuck)).bind fun d=>(gTup [i,j] d S).bind fun S1=>R.ok (O.nx S1))=_
  rw[ha,hb]
  cases ra with
  | err k=>rfl
  | stuck=>rfl
  | ok x =>
   cases rb with
   | err k=>rfl
   | stuck=>rfl
   | ok y=>show O.nx ((S.set i (some (.val x))).set j (some (.val y)))=O.nx (S' x y);rw[hS]
 have:=ai (r:=ra.bind fun x=>rb.bind fun y=>R.ok (x,y)) h e fun p=>hk p.1 p.2
 have q:lB (ra.bind fun x=>rb.bind fun y=>R.ok (x,y)) (fun p=>k p.1 p.2)=lB ra fun x=>lB rb fun y=>k x y:=by
  cases ra with
  | ok x=>cases rb<;>rfl
  | err k=>rfl
  | stuck=>rfl
 grind
end
section
variable {P:Program}{w:World}{K:PySem.W.Frag}{mg:Str→Option Value}{base:Heap}
theorem yO {x qual:Str}{st:Stmt}{f:Addr}{fd:FuncData}{N ps:List Str}{k:Nat}{C:Nat→Addr}{fn:List D→R D}(F:Fun K x qual st f fd)(S:FnScope N ps (defScope st))
  (h:∀ (cdv:Value) (A:Around) (outer:List Env) (s:Shared) (H Z:Hp) (E:XK),BX (bodyX P w K mg base N qual (defScope st) f cdv A outer s H E) ⟨K,C,H,Z,E⟩ k →
   PassesOwn (model P w) (bodyX P w K mg base N qual (defScope st) f cdv A outer s H E).A (bodyX P w K mg base N qual (defScope st) f cdv A outer s H E).env (bodyX P w K mg base N qual (defScope st) f cdv A outer s H E).xe →
   MadeX (bodyX P w K mg base N qual (defScope st) f cdv A outer s H E) ⟨K,C,H,Z,E⟩ →
   ∀ ds,ds.length=ps.length→∃ l:L Unit,fn ds=outL l∧FL (bodyX P w K mg base N qual (defScope st) f cdv A outer s H E) ⟨K,C,H,Z,E⟩ (startS N.length ds) (defBody st) JU l) :
  FnOk P w K mg base (CXE P w) (k+1) f fd ps (spF K C ps.length fn):=by
 obtain⟨oc,od,kV,doc,pm,an,cdv,ct,osl,rfl,lk,hcd⟩:=F.ex
 refine vV lk hcd S (fun vs H Q E q=>q.1) fun A outer s H vs Q E hr hsp=>?_
 obtain⟨hv,Z,ds,z,r,w⟩:=hsp
 obtain⟨l,e,hl⟩:=h cdv A outer s H Z E ⟨hr,rfl,rfl,mW⟩ PassesOwn.leaving (fun pins σ H1 s1 h1 ea C1 args I hx hE=>um I hx hE) ds (by rw[r.length];exact hv)
 refine⟨_,hl,Z,oJ z r,?_⟩
 rw[e]at w
 cases l with
 | nx u=>exact fun S' ρ' H' Z' _ _ ok=>w H' Z' ok.ex .non (by rw[Rep])
 | rt d=>exact fun v H' Z' x rv=>w H' Z' x v rv
 | er k=>exact w
 | stuck=>exact w
end
theorem len1 {ds:List D}(h:ds.length=1):∃ a,ds=[a]:=by
 match ds,h with
 | [a],_=>exact⟨a,rfl⟩
theorem len2 {ds:List D}(h:ds.length=2):∃ a b,ds=[a,b]:=by
 match ds,h with
 | [a,b],_=>exact⟨a,b,rfl⟩
theorem len3 {ds:List D}(h:ds.length=3):∃ a b c,ds=[a,b,c]:=by
 match ds,h with
 | [a,b,c],_=>exact⟨a,b,c,rfl⟩
theorem len4 {ds:List D}(h:ds.length=4):∃ a b c d,ds=[a,b,c,d]:=by
 match ds,h with
 | [a,b,c,d],_=>exact⟨a,b,c,d,rfl⟩
theorem len5 {ds:List D}(h:ds.length=5):∃ a b c d e,ds=[a,b,c,d,e]:=by
 match ds,h with
 | [a,b,c,d,e],_=>exact⟨a,b,c,d,e,rfl⟩
inductive OC where
 | ins (c:Nat) (fs:List (Str×D)) | lst (ds:List D)
abbrev Wd:=Addr→Option OC
def WObj (K:PySem.W.Frag)(C:Nat→Addr)(H Z:Hp)(a:Addr):OC→Prop
 | .ins c fs=>∃ dx vs,H a=some (.ins (C c) dx vs)∧H dx=some (.own a)∧Cls K (C c)∧vs.map Prod.fst=fs.map Prod.fst∧Reps K C Z (fs.map Prod.snd) (vs.map Prod.snd)
 | .lst ds=>∃ vs,H a=some (.lst vs)∧Reps K C Z ds vs
def TblOk (H:Hp)(P:Addr)(q:Str):Prop:=∃ ps,H P=some (.tbl ps)∧TriplesOk ps.toList ∧
 ∀ pos cv,codeAmong pos ps.toList=some cv→∃ c oc ws t,cv=.ref c∧H c=some (.frz oc (.own 0))∧oc.data=.fields ws∧ws[1]?=some (.str q t)
def qOf (K:PySem.W.Frag)(f:Addr):Str:=match K.lookup f with
 | some ⟨_,_,.func fd,_⟩=>fd.qualname ++ ".<locals>." ++ "<lambda>"
 | _=>Str.empty
def Tbs (K:PySem.W.Frag)(C:Nat→Addr)(H:Hp):Prop:=∀ i,i < C 900→TblOk H (C (901+2*i)) (qOf K (C (902+2*i)))
theorem Tbs.mono {K:PySem.W.Frag}{C:Nat→Addr}{H H':Hp}(h:Tbs K C H)(x:Same H H'):Tbs K C H':=fun i hi=>by
 obtain⟨ps,e,t,k⟩:=h i hi
 refine⟨ps,x _ _ e,t,fun pos cv q=>?_⟩
 obtain⟨c,oc,ws,t,e1,e2,r⟩:=k pos cv q
 exact⟨c,oc,ws,t,e1,x _ _ e2,r⟩
structure WdOk (K:PySem.W.Frag)(C:Nat→Addr)(H Z:Hp)(W:Wd):Prop where
 wo:∀ a o,W a=some o→WObj K C H Z a o
 tb:Tbs K C H
instance {K:PySem.W.Frag}{C:Nat→Addr}{H Z:Hp}{W:Wd}:CoeFun (WdOk K C H Z W) (fun _=>∀ a o,W a=some o→WObj K C H Z a o):=⟨WdOk.wo⟩
theorem WObj.mono {K:PySem.W.Frag}{C:Nat→Addr}{H Z H' Z':Hp}{a:Addr}{o:OC}(h:WObj K C H Z a o)(x:Same H H')(z:Same Z Z'):WObj K C H' Z' a o:=by
 cases o with
 | ins c fs=>obtain⟨dx,vs,e1,e2,c,e3,r⟩:=h;exact⟨dx,vs,x _ _ e1,x _ _ e2,c,e3,r.mono z⟩
 | lst ds=>obtain⟨vs,e1,r⟩:=h;exact⟨vs,x _ _ e1,r.mono z⟩
theorem WdOk.mono {K:PySem.W.Frag}{C:Nat→Addr}{H Z H' Z':Hp}{W:Wd}(h:WdOk K C H Z W)(x:Same H H')(z:Same Z Z'):WdOk K C H' Z' W:=⟨fun a o e=>(h.wo a o e).mono x z,h.tb.mono x⟩
structure GX (HW Z H HW' Z' H':Hp):Prop where
 fr:∀ b o,HW b=none→H b=some o→H' b=some o
 z:Same Z Z'
 zh:Same Z' H'
 wh:Same HW' H'
 dm:∀ b,HW b≠none→HW' b≠none
 nw:∀ b,HW' b≠none→HW b≠none∨H b=none
 nz:∀ b,Z' b≠none→Z b≠none∨H b=none
 dj:∀ b,HW' b≠none→Z' b=none
theorem yP {o:Option HO}(h:o≠none):∃ u,o=some u:=by cases o with | none=>exact absurd rfl h | some u=>exact⟨u,rfl⟩
theorem cq {o:Option HO}{u:HO}(h:o=some u):o≠none:=by rw[h];simp
theorem GX.refl {HW Z H:Hp}(zh:Same Z H)(wh:Same HW H)(dj:∀ b,HW b≠none→Z b=none):GX HW Z H HW Z H :=
 ⟨fun _ _ _ e=>e,Same.refl _,zh,wh,fun _ h=>h,fun _ h=>.inl h,fun _ h=>.inl h,dj⟩
theorem GX.trans {HW Z H HW1 Z1 H1 HW2 Z2 H2:Hp}(a:GX HW Z H HW1 Z1 H1)(b:GX HW1 Z1 H1 HW2 Z2 H2):GX HW Z H HW2 Z2 H2:=by
 have back:∀ c,H1 c=none→H c=none∨HW c≠none:=fun c h=>by
  cases e:HW c with
  | some o=>exact .inr (by simp)
  | none =>
   cases e2:H c with
   | none=>exact .inl rfl
   | some o=>have:=a.fr c o e e2;rw[h]at this;cases this
 refine⟨fun c o h1 h2=>?_,a.z.trans b.z,b.zh,b.wh,fun c h=>b.dm c (a.dm c h),fun c h=>?_,fun c h=>?_,b.dj⟩
 ·have e:=a.fr c o h1 h2
  cases q:HW1 c with
  | none=>exact b.fr c o q e
  | some u =>
   rcases a.nw c (cq q) with z | z
   ·exact absurd h1 z
   ·rw[h2]at z;cases z
 ·rcases b.nw c h with z | z
  ·exact a.nw c z
  ·exact(back c z).symm
 ·rcases b.nz c h with z | z
  ·exact a.nz c z
  ·rcases back c z with q | q
   ·exact .inr q
   ·exact absurd (b.dj c (b.dm c (a.dm c q))) h
def kp (HW Z HW0 H0 H:Hp):Hp:=fun b=>if HW b≠none∨Z b≠none∨(HW0 b=none∧H0 b≠none) then H b else none
theorem AA {HW Z HW0 H0 H:Hp}:Same (kp HW Z HW0 H0 H) H:=fun b o e=>by
 unfold kp at e
 grind
section
variable {HW0 Z0 H0 HW Z H:Hp}
theorem kp_w (g:GX HW0 Z0 H0 HW Z H):Same HW (kp HW Z HW0 H0 H):=fun b o e=>by
 unfold kp
 rw[if_pos (.inl (cq e))]
 exact g.wh b o e
theorem kp_z (g:GX HW0 Z0 H0 HW Z H):Same Z (kp HW Z HW0 H0 H):=fun b o e=>by
 unfold kp
 rw[if_pos (.inr (.inl (cq e)))]
 exact g.zh b o e
theorem kp_0 (g:GX HW0 Z0 H0 HW Z H){b:Addr}{o:HO}(h:HW0 b=none)(e:H0 b=some o):kp HW Z HW0 H0 H b=some o:=by
 unfold kp
 rw[if_pos (.inr (.inr ⟨h,cq e⟩))]
 exact g.fr b o h e
theorem sO (g:GX HW0 Z0 H0 HW Z H){b:Addr}(h:kp HW Z HW0 H0 H b=none):HW b=none∧Z b=none∧(HW0 b≠none∨H0 b=none):=by
 refine⟨?_,?_,?_⟩
 ·cases e:HW b with
  | none=>rfl
  | some o=>rw[kp_w g b o e]at h;cases h
 ·cases e:Z b with
  | none=>rfl
  | some o=>rw[kp_z g b o e]at h;cases h
 ·cases e:HW0 b with
  | some o=>exact .inl (by simp)
  | none =>
   cases e2:H0 b with
   | none=>exact .inr rfl
   | some o=>rw[kp_0 g e e2]at h;cases h
theorem Br {b:Addr}(h1:HW b=none)(h2:Z b=none)(h3:HW0 b≠none∨H0 b=none):kp HW Z HW0 H0 H b=none:=by
 unfold kp
 rw[if_neg]
 rintro (z | z | z)
 ·exact z h1
 ·exact z h2
 ·rcases h3 with q | q
  ·exact q z.1
  ·exact z.2 q
theorem GX.ex {H' Z':Hp}(zh:Same Z H)(wh:Same HW H)(dj:∀ b,HW b≠none→Z b=none)(x:Ex H Z H' Z'):GX HW Z H HW Z' H' :=
 ⟨fun b o _ e=>x.same b o e,x.z,x.sub,wh.trans x.same,fun _ h=>h,fun _ h=>.inl h,x.new,fun b h=>by
  cases q:Z' b with
  | none=>rfl
  | some o =>
   rcases x.new b (cq q) with z | z
   ·exact absurd (dj b h) z
   ·obtain⟨u,e⟩:=yP h
    rw[wh b u e]at z;cases z⟩
end
structure Gx where
 K:PySem.W.Frag
 C:Nat→Addr
 HW0:Hp
 Z0:Hp
 H0:Hp
 E:XK
abbrev Gx.fx (G:Gx)(HW Z H:Hp):Fx:=⟨G.K,G.C,kp HW Z G.HW0 G.H0 H,Z,G.E⟩
structure GOk (G:Gx)(W:Wd)(HW Z H:Hp)(S:SS)(ρ:St):Prop where
 gx:GX G.HW0 G.Z0 G.H0 HW Z H
 wd:WdOk G.K G.C HW Z W
 nm:StOk (G.fx HW Z H) H Z S ρ
section
variable {G:Gx}{W W':Wd}{HW Z H HW' Z' H':Hp}{S S':SS}{ρ ρ':St}
theorem GOk.more (h:GOk G W HW Z H S ρ)(x:GX HW Z H HW' Z' H')(w:WdOk G.K G.C HW' Z' W'):GOk G W' HW' Z' H' S ρ:=by
 have g:=h.gx.trans x
 have keep:∀ {y:Sl} {v:V} {A:List Addr},Ow (G.fx HW Z H) H Z y v A→Priv (G.fx HW Z H) Z A→Ow (G.fx HW' Z' H') H' Z' y v A:=fun o p=>ow_K (o.mono x.z fun a ha u e=>x.fr a u (sO h.gx (p.h0 a ha)).1 e)
 refine⟨g,w,⟨⟨AA,Same.refl _,x.zh,fun _ q=>.inl q⟩,h.nm.len,fun i y e=>?_,fun i j y z v w A B hij e1 e2 e3 e4 o1 o2=>?_⟩⟩
 ·obtain⟨v,A,e1,o,p⟩:=h.nm.sl i y e
  refine⟨v,A,e1,keep o p,⟨p.nd,fun a ha=>?_,fun a ha=>?_⟩⟩
  ·obtain⟨u,hu⟩:=o.there a ha
   cases q:Z' a with
   | none=>rfl
   | some r =>
    rcases x.nz a (cq q) with z | z
    ·exact absurd (p.z a ha) z
    ·rw[hu]at z;cases z
  ·obtain⟨u,hu⟩:=o.there a ha
   have n:=sO h.gx (p.h0 a ha)
   refine Br ?_ ?_ n.2.2
   ·cases q:HW' a with
    | none=>rfl
    | some r =>
     rcases x.nw a (cq q) with z | z
     ·exact absurd n.1 z
     ·rw[hu]at z;cases z
   ·cases q:Z' a with
    | none=>rfl
    | some r =>
     rcases x.nz a (cq q) with z | z
     ·grind
     ·rw[hu]at z;cases z
 ·obtain⟨v',A',f1,q1,p1⟩:=h.nm.sl i y e1
  obtain⟨w',B',f2,q2,p2⟩:=h.nm.sl j z e2
  rw[e3]at f1;cases f1
  rw[e4]at f2;cases f2
  rw[o1.det (keep q1 p1),o2.det (keep q2 p2)]
  exact h.nm.dj i j y z v w A' B' hij e1 e2 e3 e4 q1 q2
end
inductive RW where
 | ok (w:Wd) (d:D) | er (w:Wd) (k:Nat) | al (w:Wd) (f:Addr→RW) | stuck
inductive LW (σ:Type) where
 | nx (w:Wd) (s:σ) | rt (w:Wd) (d:D) | er (w:Wd) (k:Nat) | al (w:Wd) (f:Addr→LW σ) | stuck
def WRW (K:PySem.W.Frag)(C:Nat→Addr)(E:XK)(HW Z H:Hp)(P:Wd→D→Hp→Hp→Hp→Prop):RW→Prop
 | .ok w d=>∀ HW' Z' H',GX HW Z H HW' Z' H'→WdOk K C HW' Z' w→P w d HW' Z' H'
 | .er w k=>∀ HW' Z' H',GX HW Z H HW' Z' H'→WdOk K C HW' Z' w→E (.ref (C k)) none H'
 | .al w f=>∀ a,w a=none→WRW K C E HW Z H P (f a)
 | .stuck=>False
theorem WRW.more {K:PySem.W.Frag}{C:Nat→Addr}{E:XK}{HW Z H HW1 Z1 H1:Hp}{P:Wd→D→Hp→Hp→Hp→Prop}(x:GX HW Z H HW1 Z1 H1):∀ {r:RW},WRW K C E HW Z H P r→WRW K C E HW1 Z1 H1 P r
 | .ok w d,h=>fun a b c y=>h a b c (x.trans y)
 | .er w k,h=>fun a b c y=>h a b c (x.trans y)
 | .al w f,h=>fun a e=>WRW.more x (h a e)
 | .stuck,h=>h
def WGL {σ:Type}(G:Gx)(Z1:Hp)(J:σ→SS→Prop)(D:Ends):LW σ→Prop
 | .nx w s=>∀ S ρ HW Z H,J s S→Same Z1 Z→GOk G w HW Z H S ρ→D.nx ρ H
 | .rt w d=>∀ v HW Z H,GX G.HW0 G.Z0 G.H0 HW Z H→WdOk G.K G.C HW Z w→Rep G.K G.C Z d v→D.rt v H
 | .er w k=>∀ HW Z H,Same Z1 Z→GX G.HW0 G.Z0 G.H0 HW Z H→WdOk G.K G.C HW Z w→G.E (.ref (G.C k)) none H
 | .al w f=>∀ a,w a=none→WGL G Z1 J D (f a)
 | .stuck=>False
theorem WGL.more {σ:Type}{G:Gx}{Z1 Z2:Hp}{J:σ→SS→Prop}{D:Ends}(z:Same Z1 Z2):∀ {l:LW σ},WGL G Z1 J D l→WGL G Z2 J D l
 | .nx w s,h=>fun S ρ HW Z H j q=>h S ρ HW Z H j (z.trans q)
 | .rt w d,h=>h
 | .er w k,h=>fun HW Z H q=>h HW Z H (z.trans q)
 | .al w f,h=>fun a e=>WGL.more z (h a e)
 | .stuck,h=>h
def rwB:RW→(Wd→D→RW)→RW
 | .ok w d,k=>k w d
 | .er w e,_=>.er w e
 | .al w f,k=>.al w fun a=>rwB (f a) k
 | .stuck,_=>.stuck
def lwS {τ σ:Type}:LW τ→(Wd→τ→LW σ)→LW σ
 | .nx w s,k=>k w s
 | .rt w d,_=>.rt w d
 | .er w e,_=>.er w e
 | .al w f,k=>.al w fun a=>lwS (f a) k
 | .stuck,_=>.stuck
def outW {σ:Type}:LW σ→RW
 | .nx w _=>.ok w .non
 | .rt w d=>.ok w d
 | .er w k=>.er w k
 | .al w f=>.al w fun a=>outW (f a)
 | .stuck=>.stuck
section
variable {X:Cx}{G:Gx}{W:Wd}{S:SS}{e:Expr}{es:List Expr}{st:Stmt}{rest:List Stmt}{σ τ V':Type}{J:σ→SS→Prop}
theorem GOk.wh {HW Z H:Hp}{ρ:St}(h:GOk G W HW Z H S ρ):Same HW H:=h.gx.wh
theorem GOk.zh {HW Z H:Hp}{ρ:St}(h:GOk G W HW Z H S ρ):Same Z H:=h.gx.zh
theorem GOk.ex {HW Z H H' Z':Hp}{ρ:St}(h:GOk G W HW Z H S ρ)(x:Ex H Z H' Z'):GX HW Z H HW Z' H':=GX.ex h.gx.zh h.gx.wh h.gx.dj x
theorem WGL.bind {D:Ends}{J1:τ→SS→Prop}{Z:Hp}{k:Wd→τ→LW σ}{N:St→Hp→Prop}(hN:∀ w s S ρ HW Z' H,J1 s S→Same Z Z'→GOk G w HW Z' H S ρ→WGL G Z' J D (k w s)→N ρ H):∀ {l:LW τ},WGL G Z J D (lwS l k)→WGL G Z J1 { D with nx:=N } l
 | .nx w s,h=>fun S ρ HW Z' H j z ok=>hN w s S ρ HW Z' H j z ok (h.more z)
 | .rt w d,h=>h
 | .er w k,h=>h
 | .al w f,h=>fun a e=>WGL.bind hN (h a e)
 | .stuck,h=>h
end
structure BG (X:Cx)(G:Gx)(k:Nat):Prop where
 room:Room k X.A
 K:X.K=G.K
 calm:X.calm=true
 pass:Passes (CXE X.prog X.w) X G.E
section
variable {X:Cx}{G:Gx}{W:Wd}{F:Fx}{k:Nat}
end
section
variable {X:Cx}{F:Fx}{W:Wd}{c:Nat}{f:Str}{e:Expr}{g:SS→R D}{pos:Pos}
end
section
variable {G:Gx}{W:Wd}{HW Z H:Hp}{S:SS}{ρ:St}
end
section
variable {X:Cx}{G:Gx}{W:Wd}{S:SS}{o e:Expr}{σ:Type}{J:σ→SS→Prop}{r:RW}{pos pos':Pos}{f:Str}{c:Nat}
end
def spG (K:PySem.W.Frag)(C:Nat→Addr)(n:Nat)(f:Wd→List D→RW):Sp:=fun vs H Q E =>
 vs.length=n∧∃ W HW Z ds,Same Z H∧Same HW H∧(∀ b,HW b≠none→Z b=none)∧WdOk K C HW Z W∧Reps K C Z ds vs∧WRW K C E HW Z H (fun _ d _ Z' H'=>∀ v,Rep K C Z' d v→Q v H') (f W ds)
section
variable {P:Program}{w:World}{K:PySem.W.Frag}{mg:Str→Option Value}{base:Heap}
end
structure FnW (P:Program)(w:World)(K:PySem.W.Frag)(mg:Str→Option Value)(base:Heap)(C:Nat→Addr)(k:Nat)(x:Str)(ps:List Str)(f:Wd→List D→RW):Prop where
 ex:∃ a fd,FnOk P w K mg base (CXE P w) k a fd ps (spG K C ps.length f)∧mg x=some (.ref a)∧PySem.W.keepIn K (.ref a)=true∧Binds K fd ps []
structure MeW (P:Program)(w:World)(K:PySem.W.Frag)(mg:Str→Option Value)(base:Heap)(C:Nat→Addr)(k:Nat)(c:Nat)(m:Str)(ps:List Str)(f:Wd→List D→RW):Prop where
 ex:∃ a fd,FnOk P w K mg base (CXE P w) k a fd ps (spG K C ps.length f)∧Meth K (C c) m a∧Binds K fd ps []
structure MkW (P:Program)(w:World)(K:PySem.W.Frag)(mg:Str→Option Value)(base:Heap)(C:Nat→Addr)(k:Nat)(c:Nat)(x:Str)(ps:List Str)(f:Wd→List D→RW):Prop where
 ex:∃ a fd,FnOk P w K mg base (CXE P w) k a fd ps (spG K C ps.length f)∧Mk K (C c) a∧mg x=some (.ref (C c))∧Binds K fd ps []
 cls:Cls K (C c)
section
variable {X:Cx}{G:Gx}{W:Wd}{S:SS}{o e:Expr}{es:List Expr}{k:Nat}{x m:Str}{ps:List Str}{f:Wd→List D→RW}{gs:SS→R (List D)}{p pos apos:Pos}{c:Nat}
end
theorem WRW.bind {K:PySem.W.Frag}{C:Nat→Addr}{E:XK}{HW Z H:Hp}{P P1:Wd→D→Hp→Hp→Hp→Prop}{k:Wd→D→RW}(hp:∀ w d HW' Z' H',GX HW Z H HW' Z' H'→WdOk K C HW' Z' w→WRW K C E HW' Z' H' P (k w d)→P1 w d HW' Z' H'):∀ {r:RW},WRW K C E HW Z H P (rwB r k)→WRW K C E HW Z H P1 r
 | .ok w d,h=>fun a b c x y=>hp w d a b c x y (h.more x)
 | .er w k,h=>h
 | .al w f,h=>fun a e=>WRW.bind hp (h a e)
 | .stuck,h=>h
section
variable {X:Cx}{G:Gx}{W:Wd}{S:SS}{o a b c e:Expr}{es:List Expr}{k:Nat}{x m:Str}{ps:List Str}{f:Wd→List D→RW}{gs:SS→R (List D)}{go gb:SS→R D}{p pos apos:Pos}{cl:Nat}{r r1 r2:RW}
end
section
variable {X:Cx}{body:List Stmt}{c n y:Str}{np np2 kp apos hpos pos:Pos}{k:Nat}{q:Nat→Bool}{C0:Addr}{C:Nat→Addr}{tb:XK→TS}
end
section
variable {X:Cx}{G:Gx}{W:Wd}{S:SS}{τ σ V':Type}{J:σ→SS→Prop}{body rest:List Stmt}{c n y:Str}{np np2 kp apos hpos pos:Pos}{k:Nat}{q:Nat→Bool}{C0:Addr}
end
section
variable {prog:Program}{w:World}{A:Around}{E:Value→Shared→Prop}{s:Shared}
theorem ij {it t:Addr}{i:Nat}{items:Array Value}{x:Value}{Q:Value→Shared→Prop}(hit:s.heap.IsTupleIter it t i)
  (hl:s.heap.IsTuple t items) (hx:items[i]?=some x)
  (hQ:∀ h',h'.IsTupleIter it t (i+1)→Heap.SameBut it s.heap h'→Q x { s with heap:=h' }) :
  wpAny (model prog w) A (Builtin.SmallTypes.nextOf (.ref it)) Q E s:=by
 obtain⟨o,ho,hc,hd⟩:=id hit
 obtain⟨ol,hol,_,nl,hdl⟩:=hl
 unfold Builtin.SmallTypes.nextOf
 refine wpAny_bind (wpAny_callSpecial?_slot (name:=Str.ofString "__next__") hit.typeIs F.slot_tuple_iterator_next
  (wpAny_call_entry F.slot_tuple_iterator_next hit.typeIs F.entry_tuple_iterator_next ?_ (F.args_tuple_iterator_next_1 _)))
 show wpAny _ _ (field (.ref it) 0 >>= _) _ _ s
 refine wpAny_bind (wpAny_field ho hd (x:=.ref t) rfl ?_)
 rw[if_neg (show ¬ ((Value.ref t==Value.none)=true) from Bool.false_ne_true)]
 refine wpAny_bind (wpAny_field ho hd (x:=.int i 0) rfl ?_)
 refine wpAny_bind (wpAny_seqItems hol hdl ?_)
 simp only[Int.toNat_natCast,hx]
 refine wpAny_bind (wpAny_setField ho hd (by simp) (wpAny_pure ⟨x,rfl,wpAny_pure (hQ _ ?_ (Heap.SameBut.update ..))⟩))
 exact⟨_,Heap.get?_update_self _ ho (Obj.isFreed_of_fields (Obj.data_mapFields hd _)),(Obj.cls_mapFields ..).trans hc,by
  rw[Obj.data_mapFields hd];simp[rawInt]⟩
theorem je {it t:Addr}{i:Nat}{items:Array Value}{Q:Value→Shared→Prop}(hh:A.handled=none)
  (hit:s.heap.IsTupleIter it t i) (hl:s.heap.IsTuple t items) (hx:items[i]?=none)
  (hE:∀ h' e,Heap.ExtBut it s.heap h'→(∃ o,h'.get? e=some o∧o.cls=.type "StopIteration")→E (.ref e) { s with heap:=h' }) :
  wpAny (model prog w) A (Builtin.SmallTypes.nextOf (.ref it)) Q E s:=by
 obtain⟨o,ho,hc,hd⟩:=id hit
 obtain⟨ol,hol,_,nl,hdl⟩:=hl
 unfold Builtin.SmallTypes.nextOf
 refine wpAny_bind (wpAny_callSpecial?_slot (name:=Str.ofString "__next__") hit.typeIs F.slot_tuple_iterator_next
  (wpAny_call_entry F.slot_tuple_iterator_next hit.typeIs F.entry_tuple_iterator_next ?_ (F.args_tuple_iterator_next_1 _)))
 show wpAny _ _ (field (.ref it) 0 >>= _) _ _ s
 refine wpAny_bind (wpAny_field ho hd (x:=.ref t) rfl ?_)
 rw[if_neg (show ¬ ((Value.ref t==Value.none)=true) from Bool.false_ne_true)]
 refine wpAny_bind (wpAny_field ho hd (x:=.int i 0) rfl ?_)
 refine wpAny_bind (wpAny_seqItems hol hdl ?_)
 simp only[Int.toNat_natCast,hx]
 refine wpAny_bind (wpAny_rule (wpAny_bind (wpAny_setField ho hd (by simp) ?_)))
 refine wpAny_bind ?_
 simp only[newExc,newTuple]
 refine wpAny_bind (wpAny_newObj_type ?_ (by size_fits))
 refine wpAny_bind (m:=firstArgMember _ _) (wpAny_of_eq (a:=Value.none) (by first | rfl | (simp only[firstArgMember];rfl)) ?_)
 refine wpAny_newObj_type ?_ (by size_fits)
 simp only[raiseNew]
 refine wpAny_bind (wpAny_handled ?_)
 first | rw[show A.in1.handled=none from hh] | rw[hh]
 refine wpAny_bind (wpAny_pure (wpAny_throw ?_))
 exact hE _ _ (((Heap.SameBut.update ..).extBut.push _).push _) ⟨_,Heap.get?_push_size _ rfl,rfl⟩
def SIt (h:Heap)(b:Bool)(it a:Addr)(k:Nat):Prop:=if b=true then h.IsTupleIter it a k else h.IsListIter it a k
def SOb (h:Heap)(b:Bool)(a:Addr)(xs:Array Value):Prop:=if b=true then h.IsTuple a xs else h.IsList a xs
theorem SIt.at {h h':Heap}{b:Bool}{it a:Addr}{k:Nat}(x:SIt h b it a k)(f:∀ o,h.get? it=some o→h'.get? it=some o):SIt h' b it a k:=by
 cases b<;>(obtain⟨o,ho,r⟩:=x;exact⟨o,f o ho,r⟩)
theorem SOb.at {h h':Heap}{b:Bool}{a:Addr}{xs:Array Value}(x:SOb h b a xs)(f:∀ o,h.get? a=some o→h'.get? a=some o):SOb h' b a xs:=by
 cases b<;>(obtain⟨o,ho,r⟩:=x;exact⟨o,f o ho,r⟩)
theorem SIt.lt {h:Heap}{b:Bool}{it a:Addr}{k:Nat}(x:SIt h b it a k):∃ o,h.get? it=some o∧∀ v,o.data≠.cell v:=by
 cases b<;>(obtain⟨o,ho,_,hd⟩:=x;exact⟨o,ho,fun v z=>by rw[hd]at z;cases z⟩)
theorem uD {b:Bool}{it a:Addr}{i:Nat}{items:Array Value}{x:Value}{Q:Value→Shared→Prop}(hit:SIt s.heap b it a i)(hl:SOb s.heap b a items)(hx:items[i]?=some x)
  (hQ:∀ h',SIt h' b it a (i+1)→Heap.SameBut it s.heap h'→Q x { s with heap:=h' }):wpAny (model prog w) A (Builtin.SmallTypes.nextOf (.ref it)) Q E s:=by
 cases b with
 | true=>exact ij hit hl hx hQ
 | false=>exact wpAny_nextOf_list_item hit hl hx hQ
theorem oW {b:Bool}{it a:Addr}{i:Nat}{items:Array Value}{Q:Value→Shared→Prop}(hh:A.handled=none)(hit:SIt s.heap b it a i)(hl:SOb s.heap b a items)(hx:items[i]?=none)
  (hE:∀ h' e,Heap.ExtBut it s.heap h'→(∃ o,h'.get? e=some o∧o.cls=.type "StopIteration")→E (.ref e) { s with heap:=h' }):wpAny (model prog w) A (Builtin.SmallTypes.nextOf (.ref it)) Q E s:=by
 cases b with
 | true=>exact je hh hit hl hx hE
 | false=>exact wpAny_nextOf_list_end hh hit hl hx hE
end
section
variable {X:Cx}{F:Fx}{st:Stmt}{i:Nat}{g ge:SS→R D}
end
theorem wK {v v':V}{u:Value}(h:RelV v u)(h':RelV v' u):v=v':=by
 cases v<;>cases v'<;>simp only[L2.RelV]at h h'<;>first
  | rfl
  | (subst h;cases h';rfl)
  | (subst h;cases h';done)
  | (obtain⟨t,rfl⟩:=h;obtain⟨t',e⟩:=h';cases e;rfl)
  | (obtain⟨t,rfl⟩:=h;obtain⟨t',e⟩:=h';cases e;done)
  | (obtain⟨t,rfl⟩:=h;cases h';done)
  | (subst h;obtain⟨t',e⟩:=h';cases e;done)
section
variable {X:Cx}{F:Fx}{pins:List (Addr×Obj)}{σ:St}{H Z:Hp}{s:Shared}
open Classical in
noncomputable def itemB (P:Value→Prop) (u:Value):Bool:=if P u then true else false
theorem ik {K:PySem.W.Frag}{C:Nat→Addr}{n:Nat}{dx:D}{vx:V}{x:Value}(hK:X.K=K)(I:Inv X pins σ H s)(z:Same Z H)(gx:good n dx=true)(rx:Rep K C Z dx vx)(hx:RelV vx x){A:Around}(hu:A.units+n < cLine)(ds:List D)(hg:goods n ds=true){vs:List V}{us:List Value}(rs:Reps K C Z ds vs)(hv:Vals vs us) :
  ∃ e:Value→Bool,(∀ u∈us,SeqAt.EqAt A s u x (e u))∧us.any e=ds.any fun d=>eqD d dx:=by
 refine⟨itemB fun u=>∃ d v,good n d=true∧Rep K C Z d v∧RelV v u∧eqD d dx=true,?_⟩
 have key:∀ (d:D) (v:V) (u:Value),good n d=true→Rep K C Z d v→RelV v u→itemB (fun u=>∃ d v,good n d=true∧Rep K C Z d v∧RelV v u∧eqD d dx=true) u=eqD d dx:=fun d v u gd rd hd=>by
  unfold itemB
  by_cases h:eqD d dx=true
  ·rw[if_pos ⟨d,v,gd,rd,hd,h⟩,h]
  ·rw[if_neg,(by simpa using h:eqD d dx=false)]
   rintro ⟨d',v',g',r',h1,h2⟩
   have e1:=wK h1 hd
   subst e1
   rw[nH hK I z n d' d v' g' gd r' rd]at h2
   exact h h2
 induction ds generalizing vs us with
 | nil =>
  rw[Reps]at rs
  subst rs
  cases hv
  grind
 | cons d ds ih =>
  rw[Reps]at rs
  obtain⟨v,r,rfl,r1,r2⟩:=rs
  rw[goods,Bool.and_eq_true]at hg
  cases hv with
  | cons hv1 hv2 =>
   obtain⟨i1,i2⟩:=ih hg.2 r2 hv2
   refine⟨fun u hu'=>?_,?_⟩
   ·rcases List.mem_cons.mp hu' with e | e
    ·subst e
     rw[key d v _ hg.1 r1 hv1]
     exact wm hK I z n A d dx v vx _ _ hg.1 gx r1 rx hv1 hx hu
    ·exact i1 u e
   ·grind
end
def rInD (K:PySem.W.Frag)(C:Nat→Addr)(neg:Bool):R2:=fun x y H Q=>∃ (Z:Hp) (dx:D) (ds:List D) (p:Addr) (vs:List V),Same Z H∧Rep K C Z dx x∧good 60 dx=true∧y=.ref p∧(SqL K Z p vs∨SqT K Z p vs)∧Reps K C Z ds vs∧goods 60 ds=true∧Q (.bl (if neg then !(ds.any fun d=>eqD d dx) else ds.any fun d=>eqD d dx)) H
section
variable {X:Cx}{F:Fx}{a b:Expr}{ga gb:SS→R D}{pos:Pos}{k:Nat}
theorem wL (hK:X.K=F.K)(hr:Room k X.A):OpR X (compareOp .In) (rInD F.K F.C false):=by
 intro pins s σ H x y v u Q I rx ry h
 obtain⟨Z,dx,ds,p,vs,z,rd,gd,rfl,hq,rs,gs,q⟩:=h
 cases ry
 have hu:X.A.in1.units+60 < cLine:=by have:=hr.un;show X.A.units+1+60 < cLine;omega
 rcases hq with hq | hq
 ·obtain⟨its,r,pl,hz⟩:=I.list (by rw[hK];exact z.seq hq)
  obtain⟨e,e1,e2⟩:=ik hK I z gd rd rx hu ds gs rs r
  refine SeqAt.in_listAt e pl.isList (fun w hw=>e1 w (by simpa using hw)) ⟨.bl _,H,I,rfl,?_⟩
  rw[show its.toArray.any e=its.any e by simp,e2]
  exact q
 ·obtain⟨its,r,pl,hz⟩:=I.tuple (by rw[hK];exact hq.mono z)
  obtain⟨e,e1,e2⟩:=ik hK I z gd rd rx hu ds gs rs r
  refine SeqAt.in_tupleAt e pl (fun w hw=>e1 w (by simpa using hw)) ⟨.bl _,H,I,rfl,?_⟩
  rw[show its.toArray.any e=its.any e by simp,e2]
  exact q
theorem uE (hK:X.K=F.K)(hr:Room k X.A):OpR X (compareOp .NotIn) (rInD F.K F.C true):=by
 intro pins s σ H x y v u Q I rx ry h
 obtain⟨Z,dx,ds,p,vs,z,rd,gd,rfl,hq,rs,gs,q⟩:=h
 cases ry
 have hu:X.A.in1.units+60 < cLine:=by have:=hr.un;show X.A.units+1+60 < cLine;omega
 rcases hq with hq | hq
 ·obtain⟨its,r,pl,hz⟩:=I.list (by rw[hK];exact z.seq hq)
  obtain⟨e,e1,e2⟩:=ik hK I z gd rd rx hu ds gs rs r
  refine SeqAt.notIn_listAt e pl.isList (fun w hw=>e1 w (by simpa using hw)) ⟨.bl _,H,I,rfl,?_⟩
  rw[show its.toArray.any e=its.any e by simp,e2]
  exact q
 ·obtain⟨its,r,pl,hz⟩:=I.tuple (by rw[hK];exact hq.mono z)
  obtain⟨e,e1,e2⟩:=ik hK I z gd rd rx hu ds gs rs r
  refine SeqAt.notIn_tupleAt e pl (fun w hw=>e1 w (by simpa using hw)) ⟨.bl _,H,I,rfl,?_⟩
  rw[show its.toArray.any e=its.any e by simp,e2]
  exact q
theorem sP {dx dy:D}{r:R D}(h:dInD dx dy=r):(∃ ds,(dy=.tup ds∨dy=.lst ds)∧good 60 dx=true∧goods 60 ds=true∧r=.ok (.bl (ds.any fun d=>eqD d dx)))∨r=.stuck:=by
 subst h
 cases dy with
 | tup ds =>
  by_cases q:good 60 dx=true∧goods 60 ds=true
  ·exact .inl ⟨ds,.inl rfl,q.1,q.2,if_pos q⟩
  ·exact .inr (if_neg q)
 | lst ds =>
  by_cases q:good 60 dx=true∧goods 60 ds=true
  ·exact .inl ⟨ds,.inr rfl,q.1,q.2,if_pos q⟩
  ·exact .inr (if_neg q)
 | _=>exact .inr rfl
theorem sQ:OpD F (rInD F.K F.C false) dInD:=by
 intro H Z x y dx dy Q s rx ry w
 rcases sP rfl with ⟨ds,hd,g1,g2,e⟩ | e
 ·rw[e]at w
  rcases hd with rfl | rfl
  ·rw[Rep]at ry
   obtain⟨p,vs,rfl,h1,h2⟩:=ry
   exact⟨Z,dx,ds,p,vs,s,rx,g1,rfl,.inr h1,h2,g2,WG.now w s _ aR⟩
  ·rw[Rep]at ry
   obtain⟨p,vs,rfl,h1,h2⟩:=ry
   exact⟨Z,dx,ds,p,vs,s,rx,g1,rfl,.inl h1,h2,g2,WG.now w s _ aR⟩
 ·rw[e]at w;exact w.elim
theorem rl:OpD F (rInD F.K F.C true) dNotInD:=by
 intro H Z x y dx dy Q s rx ry w
 unfold dNotInD at w
 rcases sP rfl with ⟨ds,hd,g1,g2,e⟩ | e
 ·rw[e]at w
  have w2:=w
  rcases hd with rfl | rfl
  ·rw[Rep]at ry
   obtain⟨p,vs,rfl,h1,h2⟩:=ry
   exact⟨Z,dx,ds,p,vs,s,rx,g1,rfl,.inr h1,h2,g2,WG.now w2 s _ aR⟩
  ·rw[Rep]at ry
   obtain⟨p,vs,rfl,h1,h2⟩:=ry
   exact⟨Z,dx,ds,p,vs,s,rx,g1,rfl,.inl h1,h2,g2,WG.now w2 s _ aR⟩
 ·rw[e]at w;exact w.elim
theorem rm (bx:BX X F k)(ha:FE X F a ga)(hb:FE X F b gb)(hm:behindInMarks .In b=false:=by rfl):FE X F (.Compare a [.In] [b] pos) (eOp dInD ga gb):=kD (wL bx.K bx.room) sQ ha hb (hm:=hm)
theorem wM (bx:BX X F k)(ha:FE X F a ga)(hb:FE X F b gb)(hm:behindInMarks .In b=false:=by rfl):FT X F (.Compare a [.In] [b] pos) (gB (eOp dInD ga gb)):=gG (wL bx.K bx.room) sQ ha hb (hm:=hm)
theorem fX (bx:BX X F k)(ha:FE X F a ga)(hb:FE X F b gb)(hm:behindInMarks .NotIn b=false:=by rfl):FT X F (.Compare a [.NotIn] [b] pos) (gB (eOp dNotInD ga gb)):=gG (uE bx.K bx.room) rl ha hb (hm:=hm)
end
section
variable {X:Cx}{F:Fx}{p pos:Pos}{e e2:Expr}{gs:SS→R (List D)}{k:Nat}
theorem rn:CallD F (fun xs H Q=>∃ i j,xs=[.int i,.int j]∧Q (.int (if j < i then j else i)) H) dMin2:=by
 intro H Z xs ds Q s rs w
 unfold dMin2 at w
 split at w
 ·exact⟨_,_,kH rs,WG.now w s _ aO⟩
 ·exact w.elim
theorem yQ (bx:BX X F k)(hg:Gl X "min")(hm:X.mg "min"=none)(ha:FA X F [e,e2] gs)(he:starEach [e,e2] X.env=(false,eval e X.env)::starEach [e2] X.env:=by rfl)(hpl:(backTo pos (starEach [e2] X.env)).any (·.1)=false:=by rfl) :
  FE X F (.Call (.Name "min" p) [e,e2] [] pos) (eCall dMin2 gs):=fv (ua bx.calm) rn hg hm (by decide +kernel) ha (he:=he) (hpl:=hpl)
theorem kP (hc:X.calm=true):CallR X (.builtin "any") (fun xs H Q=>∃ (p:Addr) (bs:List Bool),xs=[.ref p]∧SqL X.K H p (bs.map V.bl)∧Q (.bl (bs.any id)) H):=by
 intro pins s σ H xs us Q I r h
 obtain⟨p,bs,rfl,hq,q⟩:=h
 obtain⟨u,rfl,ru⟩:=vals1 r
 cases ru
 obtain⟨its,rv,pl,hz⟩:=I.list hq
 have e:=gJ rv
 subst e
 have hlt:p < s.heap.objs.size:=by obtain⟨o,_,ho,_⟩:=pl;exact Heap.lt_size ho
 refine call_any_walk (wpAny_pyIter_list pl.isList ⟨s.heap.objs.size,_,_,_,_,_,fun i=>bs.getD i false,rfl,Walks.list (show X.A.in1.handled=none from I.ok.hd hc) s.heap.objs.size p (Nat.ne_of_lt hlt) (bs.map Value.bool).toArray,⟨⟨_,Heap.get?_push_size _ rfl,rfl,rfl⟩,?_⟩,?_,fun h' tk hk=>?_⟩)
 ·obtain⟨o,ho,h2,n,h3⟩:=pl.isList
  exact⟨o,Heap.get?_push_of_some _ ho,h2,n,h3⟩
 ·intro i v s' Q' E' hp hq'
  have hp':bs[i]?.map Value.bool=some v:=by simpa using hp
  cases e:bs[i]? with
  | none=>rw[e]at hp';cases hp'
  | some b =>
   rw[e]at hp'
   cases hp'
   refine wpAny_truthy_bool ?_
   have:bs.getD i false=b:=by simp[List.getD,e]
   have hq2:Q' (bs.getD i false) s':=hq'
   rw[this]at hq2
   exact hq2
 ·have hall:(List.range (bs.map Value.bool).toArray.size).any (fun i=>bs.getD i false)=bs.any id:=by
   rw[List.size_toArray,List.length_map]
   rw[Bool.eq_iff_iff,List.any_eq_true,List.any_eq_true]
   constructor
   ·rintro ⟨i,hi,h⟩
    have hi':=List.mem_range.mp hi
    exact⟨bs[i],List.getElem_mem hi',by simpa [List.getD,hi'] using h⟩
   ·rintro ⟨b,hb,h⟩
    obtain⟨i,hi,rfl⟩:=List.mem_iff_getElem.mp hb
    exact⟨i,List.mem_range.mpr hi,by simpa [List.getD,hi] using h⟩
  rw[hall]
  exact⟨.bl (bs.any id),H,I.kept fun b o e=>hk b o (by simp;exact Nat.ne_of_lt (Heap.lt_size e)) (Heap.get?_push_of_some _ e),rfl,q⟩
theorem uF:CallD F (fun xs H Q=>∃ (p:Addr) (bs:List Bool),xs=[.ref p]∧SqL F.K H p (bs.map V.bl)∧Q (.bl (bs.any id)) H) dAny:=by
 intro H Z xs ds Q s rs w
 unfold dAny at w
 split at w
 ·split at w
  ·rename_i bs e
   obtain⟨v,rfl,h⟩:=a9 rs
   rw[Rep]at h
   obtain⟨a,vs,rfl,h1,h2⟩:=h
   have e2:=gI h2 e
   subst e2
   exact⟨a,bs,rfl,s.seq h1,WG.now w s _ aR⟩
  ·exact w.elim
 ·exact w.elim
theorem wN (bx:BX X F k)(hg:Gl X "any")(hm:X.mg "any"=none)(ha:FA X F [e] gs)(he:starEach [e] X.env=(false,eval e X.env)::starEach [] X.env:=by rfl)(hpl:(backTo pos (starEach [] X.env)).any (·.1)=false:=by rfl):FE X F (.Call (.Name "any" p) [e] [] pos) (eCall dAny gs) :=
 fv (id := "any") (by have:=kP (X:=X) bx.calm;rw[bx.K]at this;exact this) uF hg hm (by decide +kernel) ha (he:=he) (hpl:=hpl)
end
section
variable {X:Cx}{F:Fx}{pos p1 p2:Pos}{x y:Str}{kk:Nat}
theorem yR (i j:Nat)(hc:X.calm=true)(hN:X.N.Nodup)(hij:i≠j:=by decide)(hi:X.N[i]?=some x:=by rfl)(hj:X.N[j]?=some y:=by rfl)(hx:Loc X.env.scope x:=by first | exact Or.inl rfl | exact Or.inr rfl)(hy:Loc X.env.scope y:=by first | exact Or.inl rfl | exact Or.inr rfl)
  (hfx:X.fn x=true∨X.env.scope.names.lookup x=some .local:=by first | exact .inl rfl | exact .inr rfl) (hfy:X.fn y=true∨X.env.scope.names.lookup y=some .local:=by first | exact .inl rfl | exact .inr rfl)
  (hK:X.K=F.K:=by first | rfl | assumption) (hn:(assignEach [.Name x p1,.Name y p2] X.env).length=2:=by rfl) (hst:(assignEach [.Name x p1,.Name y p2] X.env).findIdx? (·.1)=none:=by rfl):FG X F (.Tuple [.Name x p1,.Name y p2] kk pos) (gTup [i,j]) :=
 (zZ hc (oA (nu (i:=i) hN hi hx hfx) (oA (nu (i:=j) hN hj hy hfy) yj)) hn hst).weak fun v σ H Q ⟨Z,S,d,ok,rd,w⟩=>by
  cases d with
  | tup ds =>
   match ds with
   | [a,b] =>
    rw[Rep]at rd
    obtain⟨c,vs,rfl,h1,h2⟩:=rd
    rw[Reps]at h2
    obtain⟨v1,r,rfl,q1,h2⟩:=h2
    rw[Reps]at h2
    obtain⟨v2,r,rfl,q2,h2⟩:=h2
    rw[Reps]at h2
    subst h2
    refine⟨c,[v1,v2],rfl,by rw[hK];exact h1.mono ok.sub,rfl,v1,[v2],rfl,v2,[],rfl,rfl,?_⟩
    exact WG.now w ok.sub _ ((ok.setVal (i:=i) q1).setVal (i:=j) q2)
   | []=>exact w.elim
   | [_]=>exact w.elim
   | a::b::c::r =>
    have e:gTup [i,j] (.tup (a::b::c::r)) S=.stuck:=by unfold gTup;simp
    rw[e]at w
    exact w.elim
  | _=>exact w.elim
end
section
variable {X:Cx}{F:Fx}{p p2 pos pos2:Pos}{e:Expr}{gs:SS→R (List D)}{k:Nat}
end
section
variable {X:Cx}{F:Fx}
variable {σ:Type}{S:SS}{rest:List Stmt}{J:σ→SS→Prop}{e:Expr}{ge:SS→R D}{r:R D}{n:Nat}
end
end FF
end
noncomputable section
namespace L2
open PySem PySem.Spec PyProof.Rows
section
variable {X:Cx}{pos:Pos}
end
end L2
namespace FF
open PySem PySem.Spec PyProof.Rows L2
section
variable {X:Cx}{F:Fx}{σ:Type}{S:SS}{st:Stmt}{rest:List Stmt}{J:σ→SS→Prop}
end
section
variable {X:Cx}{pins:List (Addr×Obj)}{σ:St}{H:Hp}{s:Shared}{h':Heap}
theorem oX {h:Heap}{b:Addr}{o x:Obj}(q:b≠h.objs.size)(e:(h.push x).get? b=some o):h.get? b=some o:=by
 rcases Heap.get?_push_cases e with ⟨z,_⟩ | z
 ·exact absurd z q
 ·exact z
theorem turnedL {t':Nat}{fp:List Addr}(I:Inv X pins σ H s)(hf:∀ b∈fp,FpOk X pins H b)(k:∀ b o,b∉fp→s.heap.get? b=some o→h'.get? b=some o):Inv X pins σ H { s with heap:=h',toks:=t' }:=by
 have nit:∀ b u,H b=some u→b∉fp:=fun b u e z=>by rw[(hf b z).1]at e;cases e
 refine I.step (fun b hb=>?_) (fun b o _ _ hc e _=>k b o hc e) (fun b o _ _ hc e _=>⟨o.slots,k b o hc e⟩) (fun _ _ _ _ n=>n)
  (fun b o hc e=>⟨o,k b o hc e⟩) (fun _ _ e=>e) (fun _ _ _ e=>e) (fun b ps e=>⟨#[],by rw[e];simp⟩) (fun m hm=>?_) (fun b u e=>?_) I.bare
 ·obtain⟨_,f1,f2,f3,f4,f5⟩:=hf b hb
  exact⟨f3,f1,f4,f5⟩
 ·obtain⟨o,es,ep,ho,r⟩:=hm
  exact⟨o,es,ep,k _ o (fun z=>(hf _ z).2.1 rfl) ho,r⟩
 ·refine(I.hok b u e).stay (fun c v hc q=>k c v ?_ q) (fun _ q=>q) fun _ _ q=>q
  grind
theorem turnedP {t':Nat}{fp:List Addr}{x y:V}{u v:Value}(I:Inv X pins σ H s)(hf:∀ b∈fp,FpOk X pins H b)(hlt:∀ b∈fp,b≠s.heap.objs.size)(rx:RelV x u)(ry:RelV y v)(hp:IsPair h' s.heap.objs.size u v)
  (k:∀ b o,b∉fp→s.heap.get? b=some o→h'.get? b=some o):Inv X pins σ (upd H s.heap.objs.size (.tup [x,y])) { s with heap:=h',toks:=t' }:=by
 have I1:Inv X pins σ (upd H s.heap.objs.size (.tup [x,y])) { s with heap:=s.heap.push { cls:=.type "tuple",data:=.seq #[u,v] },toks:=s.toks }:=by
  refine I.laid (fun b u e=>Heap.get?_push_of_some _ e) (Nat.le_refl _) ?_
  exact⟨by show 2≤sizeLine;decide,[u,v],.cons rx (.cons ry .nil),TupO.new _ _⟩
 refine turnedL (s:={ s with heap:=s.heap.push { cls:=.type "tuple",data:=.seq #[u,v] },toks:=s.toks }) (fp:=fp) I1 (fun b hb=>?_) fun b o hb e=>?_
 ·obtain⟨f0,f1⟩:=hf b hb
  exact⟨by rw[ak (hlt b hb)];exact f0,f1⟩
 ·by_cases q:b=s.heap.objs.size
  ·subst q
   have e':=(Heap.get?_push_size s.heap rfl).symm.trans e
   cases e'
   exact hp
  ·have e':s.heap.get? b=some o:=by
    exact oX q e
   exact k b o hb e'
end
def SqB (K:PySem.W.Frag)(H:Hp)(b:Bool)(a:Addr)(xs:List V):Prop:=if b=true then SqT K H a xs else SqL K H a xs
theorem ro {X:Cx}{pins:List (Addr×Obj)}{σ:St}{H:Hp}{s:Shared}{b:Bool}{a:Addr}{xs:List V}(I:Inv X pins σ H s)(h:SqB X.K H b a xs):∃ its:List Value,Vals xs its∧SOb s.heap b a its.toArray∧xs.length≤sizeLine:=by
 cases b with
 | true =>
  obtain⟨its,rv,p,hz⟩:=I.tuple h
  exact⟨its,rv,p,hz⟩
 | false =>
  obtain⟨its,rv,p,hz⟩:=I.list h
  exact⟨its,rv,p.isList,hz⟩
theorem AB {X:Cx}{pins:List (Addr×Obj)}{σ:St}{H:Hp}{s:Shared}{b:Bool}{a:Addr}{xs ys:List V}(I:Inv X pins σ H s)(h:SqB X.K H b a xs)(h':SqB X.K H b a ys):xs=ys:=by
 cases b with
 | true=>exact I.tuple_inj h h'
 | false=>exact I.list_inj h h'
theorem SqB.mono {K:PySem.W.Frag}{Z H:Hp}{b:Bool}{a:Addr}{xs:List V}(h:SqB K Z b a xs)(z:Same Z H):SqB K H b a xs:=by
 cases b with
 | true=>exact(show SqT K Z a xs from h).mono z
 | false=>exact z.seq h
theorem AC {K:PySem.W.Frag}{C:Nat→Addr}{Z:Hp}{d:D}{ds:List D}{v:V}(e:asSeq d=.ok ds)(r:Rep K C Z d v):∃ b a vs,v=.ref a∧SqB K Z b a vs∧Reps K C Z ds vs:=by
 cases d with
 | tup xs =>
  cases e
  rw[Rep]at r
  obtain⟨a,vs,rfl,h1,h2⟩:=r
  exact⟨true,a,vs,rfl,h1,h2⟩
 | lst xs =>
  cases e
  rw[Rep]at r
  obtain⟨a,vs,rfl,h1,h2⟩:=r
  exact⟨false,a,vs,rfl,h1,h2⟩
 | _=>cases e
section
variable {X:Cx}{F:Fx}{a b:Expr}{ga gb:SS→R D}{k:Nat}
end
section
variable {prog:Program}{w:World}{A:Around}{R:Result→Shared→Prop}{I S:Addr}{res:Value}{n:Nat}
end
theorem uG:bootBuiltins "list"=some (.type "list"):=by decide +kernel
section
variable {X:Cx}{pins:List (Addr×Obj)}{σ:St}{H1:Hp}{S z TI TO i1 i2 a1 a2:Addr}{b1 b2:Bool}{xs ys:List V}
end
section
variable {X:Cx}{F:Fx}{a b:Expr}{ga gb:SS→R D}{k:Nat}
end
section
variable {X:Cx}{F:Fx}{e:Expr}{g:SS→R D}{k:Nat}{l:List (Str×Nat)}{x:Str}{p pos:Pos}
end
section
variable {prog:Program}{w:World}{A:Around}{E:Value→Shared→Prop}{s:Shared}
end
section
variable {X:Cx}{F:Fx}{k:Nat}{l:List (Str×Nat)}{x:Str}{p p2 pos:Pos}
end
open AutoSeq1 (wpAny_loadPart')
theorem wO {prog:Program}{w:World}{A:Around}(hh:A.handled=none)(b:Bool)(it a:Addr)(hne:a≠it)(items:Array Value) :
  Draws prog w A it [it,a] items.size (fun i v=>items[i]?=some v) (fun i h=>SIt h b it a i∧SOb h b a items) where
 live:=fun _ _ st=>let ⟨o,ho,_⟩:=st.1.lt;⟨o,ho⟩
 frame:=fun _ _ _ st hk=>⟨st.1.at fun o e=>hk it (by simp) o e,st.2.at fun o e=>hk a (by simp) o e⟩
 item:=fun i s Q E hi st hQ=>by
  refine uD st.1 st.2 (x:=items[i]) (by simp[hi]) fun h' hit' hs'=>?_
  exact hQ _ h' s.toks (by simp[hi]) ⟨hit',st.2.at fun o e=>hs'.extBut _ _ hne e⟩ hs'
 done:=fun s Q E st hE=>oW hh st.1 st.2 (by simp) hE
theorem kQ (l:Addr)(items:Array Value)(n:Nat)(dct:Option Addr)(sl:Array (Option Value)) :
  Meets (Builtin.«enumerate.__new__» ⟨[.type "enumerate",.ref l],[]⟩) (fun _ R s=>s.heap.get? l=some { cls:=.type "tuple",dict:=dct,data:=.seq items n,slots:=sl } ∧
   R (.ok (.ret (.ref (s.heap.push { cls:=.type "tuple_iterator",data:=.fields #[.ref l,.int 0 0] }).objs.size)))
    { s with heap:=(s.heap.push { cls:=.type "tuple_iterator",data:=.fields #[.ref l,.int 0 0] }).push { cls:=.type "enumerate",data:=.fields #[.none,.bool false,.ref s.heap.objs.size,rawInt 0,.none,.none] } }) :=
 .of_wp fun prog w A R s h=>by
  obtain⟨hp,g,d,tk,os⟩:=s;obtain⟨hl,h⟩:=h
  have hsub:=sub_enumerate
  have hL:Heap.IsTuple (Shared.heap ⟨hp,g,d,tk,os⟩) l items:=⟨_,hl,rfl,n,rfl⟩
  wp_walk using wpAny_loadPart' hl
  refine wpAny_stack_any fun st=>wpAny_pure ?_
  split
  ·rename_i c _ _ _ _ _
   cases (c==Value.type "enumerate")
   ·wp_walk using wpAny_loadPart' hl,wpAny_pyIter_tuple hL
    exact⟨_,rfl,h⟩
   ·wp_walk using wpAny_loadPart' hl,wpAny_pyIter_tuple hL
    exact⟨_,rfl,h⟩
  ·wp_walk using wpAny_loadPart' hl,wpAny_pyIter_tuple hL
   exact⟨_,rfl,h⟩
section
variable {prog:Program}{w:World}{A:Around}{E:Value→Shared→Prop}{s:Shared}
theorem mh {l:Addr}{items:Array Value}{Q:Value→Shared→Prop}(hL:s.heap.IsTuple l items)
  (h:∀ h',IsEnum h' (s.heap.objs.size+1) s.heap.objs.size 0 .none→h'.IsTupleIter s.heap.objs.size l 0→h'.objs.size=s.heap.objs.size+2 →
   (∀ b o,s.heap.get? b=some o→h'.get? b=some o)→Q (.ref (s.heap.objs.size+1)) { s with heap:=h' }) :
  wpAny (model prog w) A (call (.type "enumerate") [.ref l]) Q E s:=by
 obtain⟨⟨c,dct,dt,sl⟩,hl,hc,n,hd⟩:=hL
 replace hc:c=.type "tuple" := hc
 replace hd:dt=.seq items n:=hd
 subst hc hd
 refine callType_new F.called_enumerate (by decide) (F.typeCall_enumerate_1 _) (F.newCall_enumerate_1 _) (fun obj=>F.args_object_init_2 obj _) F.entry_enumerate_new
  (kQ l items n dct sl) ⟨hl,?_⟩
 have hz:(s.heap.push { cls:=.type "tuple_iterator",data:=.fields #[.ref l,.int 0 0] }).objs.size=s.heap.objs.size+1:=Heap.size_push ..
 show _∧_
 rw[hz]
 have he:IsEnum ((s.heap.push { cls:=.type "tuple_iterator",data:=.fields #[.ref l,.int 0 0] }).push
   { cls:=.type "enumerate",data:=.fields #[.none,.bool false,.ref s.heap.objs.size,rawInt 0,.none,.none] }) (s.heap.objs.size+1) s.heap.objs.size 0 .none:=by
  have:=Heap.get?_push_size (s.heap.push { cls:=.type "tuple_iterator",data:=.fields #[.ref l,.int 0 0] })
   (o:={ cls:=.type "enumerate",data:=.fields #[.none,.bool false,.ref s.heap.objs.size,rawInt 0,.none,.none] }) rfl
  rw[hz]at this;exact this
 refine⟨⟨_,he,rfl⟩,h _ he ⟨_,Heap.get?_push_of_some _ (Heap.get?_push_size _ rfl),rfl,rfl⟩ (by rw[Heap.size_push,hz]) fun b o x=>Heap.get?_push_of_some _ (Heap.get?_push_of_some _ x)⟩
theorem uH {b:Bool}{l:Addr}{items:Array Value}{Q:Value→Shared→Prop}(hL:SOb s.heap b l items)
  (h:∀ h',IsEnum h' (s.heap.objs.size+1) s.heap.objs.size 0 .none→SIt h' b s.heap.objs.size l 0→(∀ b o,s.heap.get? b=some o→h'.get? b=some o)→Q (.ref (s.heap.objs.size+1)) { s with heap:=h' }) :
  wpAny (model prog w) A (call (.type "enumerate") [.ref l]) Q E s:=by
 cases b with
 | true=>exact mh hL fun h' a1 a2 _ a3=>h h' a1 a2 a3
 | false=>exact call_enumerate_list hL fun h' a1 a2 _ a3=>h h' a1 a2 a3
theorem m5 {e it:Addr}{i:Int}{old:Value}{Q:Value→Shared→Prop}(he:IsEnum s.heap e it i old)(h:Q (.ref e) s):wpAny (model prog w) A (pyIter (.ref e)) Q E s:=by
 have hT:s.TypeIs (.ref e) "enumerate" := ⟨_,he,rfl⟩
 refine wpAny_pyIter_slot hT F.slot_enumerate_iter (wpAny_call_entry F.slot_enumerate_iter hT F.entry_enumerate_iter ?_ (F.args_enumerate_iter_1 _))
 show wpAny _ _ (ret (.ref e)) _ _ s
 exact wpAny_pure ⟨_,rfl,"enumerate",_,hT,F.slot_enumerate_next.lookup,h⟩
end
section
variable {prog:Program}{w:World}{A:Around}{E:Value→Shared→Prop}{s:Shared}
theorem wQ {e it a:Addr}{b:Bool}{i:Int}{k:Nat}{old:Value}{items:Array Value}{Q:Option Value→Shared→Prop}(hh:A.handled=none)(he:IsEnum s.heap e it i old)(hit:SIt s.heap b it a k)(hl:SOb s.heap b a items)(hx:items[k]?=none)
  (hQ:∀ h',Heap.ExtBut it s.heap h'→Q none { s with heap:=h' }):wpAny (model prog w) A (pyNext (.ref e)) Q E s:=by
 have hT:s.TypeIs (.ref e) "enumerate" := ⟨_,he,rfl⟩
 unfold pyNext
 refine wpAny_bind (wpAny_attempt (wpAny_callSpecial?_slot (name:=Str.ofString "__next__") hT F.slot_enumerate_next
  (wpAny_call_entry F.slot_enumerate_next hT F.entry_enumerate_next ?_ (F.args_enumerate_next_1 _))))
 show wpAny _ _ (field (.ref e) 2 >>= _) _ _ _
 refine wpAny_bind (wpAny_field he rfl (x:=.ref it) rfl ?_)
 refine wpAny_bind (oW (show A.in1.handled=none from hh) hit hl hx fun h' x he' hx'=>?_)
 obtain⟨o,ho,hc⟩:=hx'
 refine wpAny_bind (wpAny_isInstance (T := "StopIteration") (b:=true) ⟨o,ho,hc⟩ isSubtype_stop ?_)
 exact wpAny_pure (hQ _ he')
end
def Ite (K:PySem.W.Frag)(b:Bool)(a:Addr):It :=
 ⟨fun i H=>∃ xs x,SqB K H b a xs∧xs[i]?=some x,
  fun i H v H'=>∃ p x,H p=none∧v=.ref p∧(∀ xs,SqB K H b a xs→xs[i]?=some x)∧H'=upd H p (.tup [.int (i:Int),x]),
  fun i H=>∃ xs,SqB K H b a xs∧xs.length≤i⟩
theorem uI {P:Program}{w:World}{K:PySem.W.Frag}{elts:List Expr}{x1:Nat}{pos:Pos}{e it a:Addr}(b:Bool)(hei:e≠it)(hai:a≠it)(hea:e≠a) :
  Turn P w K (.Tuple elts x1 pos) (Ite K b a) [e,it] e (fun i h=>(∃ old,IsEnum h e it i old)∧SIt h b it a i) where
 mem:=by simp
 obj:=fun i h st c hb=>by
  obtain⟨⟨old,e1⟩,e2⟩:=st
  simp only[List.mem_cons,List.not_mem_nil,or_false]at hb
  rcases hb with rfl | rfl
  ·exact⟨_,e1,fun v z=>by have z':Data.fields _=Data.cell v:=z;cases z'⟩
  ·exact e2.lt
 keep:=fun i h h' st k=>by
  obtain⟨⟨old,e1⟩,e2⟩:=st
  exact⟨⟨old,k e (by simp) _ e1⟩,e2.at fun o q=>k it (by simp) o q⟩
 item:=by
  intro X hP hw hK hc i pins s σ H E I hf st hg
  subst hP hw hK
  obtain⟨xs,x,q1,hx⟩:=hg
  obtain⟨⟨old,e1⟩,e2⟩:=st
  obtain⟨is1,rv1,o1,_⟩:=ro I q1
  obtain⟨u,hu,ru⟩:=rv1.get hx
  have hl:=rv1.length
  have hil:i < xs.length:=(List.getElem?_eq_some_iff.mp hx).1
  have lt:∀ c∈[e,it],c≠s.heap.objs.size:=fun c hb=>by
   simp only[List.mem_cons,List.not_mem_nil,or_false]at hb
   rcases hb with rfl | rfl
   ·exact Nat.ne_of_lt (Heap.lt_size e1)
   ·obtain⟨o,ho,_⟩:=e2.lt;exact Nat.ne_of_lt (Heap.lt_size ho)
  have D:=wO (prog:=X.prog) (w:=X.w) (A:=X.A.in1) (show X.A.in1.handled=none from I.ok.hd hc) b it a hai is1.toArray
  refine wpAny_pyNext_enum_itemD D e1 ⟨e2,o1⟩ (by simp;omega) hei (by simp[hei,hea]) fun v h' tk hP ho hs' hT hsz hk=>?_
  have ev:v=u:=by
   have h1:is1[i]?=some v:=by simpa using hP
   rw[hu]at h1;cases h1;rfl
  subst ev
  refine⟨_,rfl,wpAny_letOwnedTupleGo_enum (s:={ s with heap:=h',toks:=tk+1 }) ho fun h2 he2 sb2=>?_⟩
  have k2:∀ c o,c∉[e,it]→s.heap.get? c=some o→h2.get? c=some o:=fun c o hb q=>by
   simp only[List.mem_cons,List.not_mem_nil,or_false,not_or]at hb
   exact sb2.extBut _ _ hb.1 (hk c o hb.1 hb.2 q)
  have hp2:IsPair h2 s.heap.objs.size (.int i tk) v:=sb2.extBut _ _ (fun q=>lt e (by simp) q.symm) hT
  have I2:Inv X pins σ (upd H s.heap.objs.size (.tup [.int (i:Int),x])) { s with heap:=h2,toks:=tk+1 }:=turnedP I hf lt ⟨tk,rfl⟩ ru hp2 k2
  exact⟨.ref s.heap.objs.size,_,I2,rfl,⟨s.heap.objs.size,x,I.hok.fresh (Nat.le_refl _),rfl,fun xs' q=>by rw[AB I q q1];exact hx,rfl⟩,⟨⟨_,by simpa using he2⟩,hs'.1.at fun o q=>sb2.extBut _ _ (Ne.symm hei) q⟩,fun c hb=>by rw[ak (lt c hb)];exact(hf c hb).1⟩
 done:=by
  intro X hP hw hK hc i pins s σ H E I hf st hg
  subst hP hw hK
  obtain⟨xs,q1,hx⟩:=hg
  obtain⟨⟨old,e1⟩,e2⟩:=st
  obtain⟨is1,rv1,o1,_⟩:=ro I q1
  have hl:=rv1.length
  refine wQ (I.ok.hd hc) e1 e2 o1 (by simp;omega) fun h' hk=>⟨rfl,turnedL (t':=s.toks) I hf fun c o hb q=>?_⟩
  simp only[List.mem_cons,List.not_mem_nil,or_false,not_or]at hb
  exact hk c o hb.2 q
 self:=fun _ _ _ _ _ st h=>by obtain⟨⟨old,e1⟩,_⟩:=st;exact m5 e1 h
theorem uJ:bootBuiltins "enumerate"=some (.type "enumerate"):=by decide +kernel
theorem yS {X:Cx}{elts:List Expr}{x1:Nat}{ps p pos:Pos}{a:Expr}{ta:TA}(hg:Gl X "enumerate")(hm:X.mg "enumerate"=none)(ha:PA X [a] ta)(hs:starEach [a] X.env=[(false,eval a X.env)]:=by rfl) :
  PI X (.Tuple elts x1 ps) (.Call (.Name "enumerate" p) [a] [] pos) (fun σ H R=>ta σ H fun vs H1=>∃ b a1,vs=[.ref a1]∧(∃ xs,SqB X.K H1 b a1 xs)∧R (Ite X.K b a1) H1):=by
 intro pins s σ H R I h
 refine Call_ (fm I hg hm uJ (PyProof.Rows.callWith_type1 (thn (ha pos pins s σ H _ I h) fun us s1 ⟨vs,H1,I1,r1,q1⟩=>?_) hs rfl))
 obtain⟨b,a1,e,⟨xs,hx⟩,q⟩:=q1
 subst e
 cases r1 with
 | cons r rr =>
  cases rr
  cases r
  obtain⟨is1,rv1,o1,_⟩:=ro I1 hx
  have lt:a1 < s1.heap.objs.size:=by cases b<;>(obtain⟨_,e,_⟩:=o1;exact Heap.lt_size e)
  refine uH o1 fun h' he hi hk=>m5 (s:={ s1 with heap:=h' }) he ?_
  have I2:Inv X pins σ H1 { s1 with heap:=h',toks:=s1.toks }:=I1.kept hk
  refine⟨_,_,_,_,H1,rfl,I2,uI b (Nat.succ_ne_self _) (Nat.ne_of_lt lt) (Nat.ne_of_gt (Nat.lt_succ_of_lt lt)),⟨⟨_,he⟩,hi⟩,fun c hc=>?_,q⟩
  have hb:s1.heap.objs.size≤c:=by
   simp only[List.mem_cons,List.not_mem_nil,or_false]at hc
   rcases hc with rfl | rfl
   ·exact Nat.le_add_right _ _
   ·exact Nat.le_refl _
  exact I1.fpOk hb (I1.hok.fresh hb)
theorem sR:∀ {xs:List D} {k i:Nat} {x:D},xs[i]?=some x→(enD xs k)[i]?=some (.tup [.int ((k+i:Nat):Int),x])
 | a::xs,k,0,x,h=>by cases h;rfl
 | a::xs,k,i+1,x,h=>by
  have:=sR (xs:=xs) (k:=k+1) (i:=i) (by simpa using h)
  rw[show k+1+i=k+(i+1) by omega]at this
  simpa [enD] using this
 | [],_,_,_,h=>by simp at h
theorem nL:∀ (xs:List D) (k:Nat),(enD xs k).length=xs.length
 | [],_=>rfl
 | a::xs,k=>by show (enD xs (k+1)).length+1=_;rw[nL xs (k+1)];rfl
theorem uK {F:Fx}{b:Bool}{a:Addr}{xs:List D}{vs:List V}{Z:Hp}(h1:SqB F.K Z b a vs)(r1:Reps F.K F.C Z xs vs):WalkG F (Ite F.K b a) (enD xs 0) Z:=fun i H Z2 z1 z2=>by
 have l:=nL xs 0
 have e1:=r1.length
 refine⟨fun hi=>?_,fun hi=>⟨vs,h1.mono (z1.trans z2),by omega⟩⟩
 have hx:vs[i]?=some vs[i]:=List.getElem?_eq_getElem (by omega)
 refine⟨⟨vs,_,h1.mono (z1.trans z2),hx⟩,fun v H' ⟨p,x,hp,e,qx,eH⟩=>?_⟩
 subst e;subst eH
 obtain⟨dx,f1,g1⟩:=r1.get' (qx _ (h1.mono (z1.trans z2)))
 have z3:Same Z (upd Z2 p (.tup [.int (i:Int),x])):=z1.trans (aJ (z2.free hp))
 have f2:=sR (k:=0) f1
 rw[Nat.zero_add]at f2
 refine⟨upd Z2 p (.tup [.int (i:Int),x]),.tup [.int (i:Int),dx],Ex.alloc z2 hp,f2,?_⟩
 rw[Rep]
 exact⟨p,[.int (i:Int),x],rfl,SqT.of ar,Reps.cons aO (Reps.cons (g1.mono z3) Reps.nil)⟩
section
variable {X:Cx}{F:Fx}{a:Expr}{ga:SS→R D}{k:Nat}
theorem yT {S:SS}{α:Type}(f:D→R α):((aL [ga]) S).bind (fun ds=>match ds with | [x]=>f x | _=>R.stuck)=(ga S).bind fun x=>f x:=by
 show (((ga S).bind fun d=>(R.ok []:R (List D)).bind fun ds=>R.ok (d::ds))).bind _=_
 cases ga S<;>rfl
theorem nM {elts:List Expr}{x1:Nat}{ps p pos:Pos}(bx:BX X F k)(hg:Gl X "enumerate")(hm:X.mg "enumerate"=none)(ha:FE X F a ga)(hs:starEach [a] X.env=[(false,eval a X.env)]:=by rfl) :
  FI X F (.Tuple elts x1 ps) (.Call (.Name "enumerate" p) [a] [] pos) (fun S=>(ga S).bind fun x=>dEnum x) :=
 (yS hg hm (FAL.out (aa ha ad (hs:=by rw[hs];rfl))) hs).weak fun σ H Q ⟨Z,S,ok,w⟩=>by
  have w:WG F H Z ((ga S).bind fun x=>dEnum x) _:=w
  rw[← yT]at w
  refine aS ok w fun ds vs H1 Z1 ok1 x1 rs w1=>?_
  obtain⟨dx,rfl⟩:∃ dx,ds=[dx]:=by
   rcases ds with _ | ⟨dx,_ | ⟨dy,r⟩⟩
   ·exact False.elim w1
   ·exact⟨dx,rfl⟩
   ·exact False.elim w1
  focus
   have w2:WG F H1 Z1 (dEnum dx) _:=w1
   unfold dEnum sq at w2
   rw[Reps]at rs
   obtain⟨v1,r,rfl,q1,rs⟩:=rs
   rw[Reps]at rs
   subst rs
   cases e1:asSeq dx with
   | err k=>rw[e1]at w2;cases dx<;>cases e1
   | stuck=>rw[e1]at w2;exact w2.elim
   | ok xs =>
    rw[e1]at w2
    have w3:WG F H1 Z1 (R.bind (if xs.length≤16777216 then R.ok xs else R.stuck) fun xs=>R.ok (enD xs 0)) _:=w2
    split at w3
    ·rename_i hl1
     obtain⟨b1,a1,us1,rfl,s1,t1⟩:=AC e1 q1
     rw[bx.K]
     exact⟨b1,a1,rfl,⟨us1,s1.mono ok1.sub⟩,WG.now w3 ok1.sub _ (uK s1 t1) (by rw[nL];exact hl1)⟩
    ·exact w3.elim
end
section
variable {X:Cx}{F:Fx}{a:Expr}{ga:SS→R D}{k:Nat}{p p2 pos pos2:Pos}
end
section
variable {prog:Program}{w:World}{A:Around}{E:Value→Shared→Prop}{s:Shared}
end
section
variable {X:Cx}{F:Fx}
variable {σ:Type}{S:SS}{rest:List Stmt}{J:σ→SS→Prop}{e:Expr}{ge:SS→R D}{r:R D}{n:Nat}
end
section
variable {X:Cx}{F:Fx}
end
def capB (XN:List Str)(scope:Scope)(N:List Str)(own:Nat):Nat→List Nat→Bool
 | _,[]=>true
 | j,i::r=>(match N[own+j]?,XN[i]? with
  | some x,some y=>x==y&&scope.names.lookup x==some .free
  | _,_=>false)&&capB XN scope N own (j+1) r
def blkB (XN:List Str)(osc scope:Scope)(N:List Str)(own:Nat)(cap:List Nat):Bool :=
 scope.kind==.function&&(scope.names.all fun y=>scope.names.lookup y.1==some y.2)&&(scope.names.all fun y=>!(y.2==.free)||(osc.names.lookup y.1==some .cell||osc.names.lookup y.1==some .free))&&N.length==own+cap.length&&capB XN scope N own 0 cap
theorem sS {XN:List Str}{scope:Scope}{N:List Str}{own:Nat}:∀ {cap:List Nat} {k:Nat},capB XN scope N own k cap=true→∀ j i,cap[j]?=some i→∃ x,N[own+(k+j)]?=some x∧XN[i]?=some x∧scope.names.lookup x=some .free
 | [],_,_,j,i,e=>by simp at e
 | c::r,k,h,j,i,e=>by
  unfold capB at h
  rw[Bool.and_eq_true]at h
  cases j with
  | zero =>
   simp only[List.getElem?_cons_zero,Option.some.injEq]at e
   subst e
   have h1:=h.1
   split at h1
   ·rename_i x y e1 e2
    rw[Bool.and_eq_true]at h1
    have:=eq_of_beq h1.1
    subst this
    exact⟨x,by rw[Nat.add_zero];exact e1,e2,eq_of_beq h1.2⟩
   ·cases h1
  | succ j =>
   obtain⟨x,a,b⟩:=sS h.2 j i (by simpa using e)
   exact⟨x,by rw[← a];congr 1;omega,b⟩
theorem BlkOk.of {XN:List Str}{osc scope:Scope}{N:List Str}{own:Nat}{cap:List Nat}(h:blkB XN osc scope N own cap=true):BlkOk XN osc scope N own cap:=by
 unfold blkB at h
 simp only[Bool.and_eq_true,List.all_eq_true]at h
 obtain⟨⟨⟨⟨h1,h2⟩,h3⟩,h4⟩,h5⟩:=h
 have look:=fun y hy=>eq_of_beq (h2 y hy)
 refine⟨eq_of_beq h1,fun y hy e=>by rw[look y hy,e],fun y hy e=>by rw[look y hy,e],fun y hy e=>by rw[look y hy,e],fun y hy e=>?_,eq_of_beq h4,fun j i e=>?_⟩
 ·grind
 ·have:=sS h5 j i e
  grind
section
variable {X:Cx}{F:Fx}{o e:Expr}{g:SS→R D}{gs:List (SS→R D)}{apos cpos:Pos}{k:Nat}
end
def OkD (P:Program)(w:World)(K:PySem.W.Frag)(mg:Str→Option Value)(base:Heap)(C:Nat→Addr)(k:Nat)(x:Str)(st:Stmt)(ps:List Str)(fn:List D→R D):Prop :=
 ∀ {f:Addr} {fd:FuncData},Fun K x x st f fd→FnOk P w K mg base (CXE P w) (k+1) f fd ps (spF K C ps.length fn)
def OkB (P:Program)(w:World)(K:PySem.W.Frag)(mg:Str→Option Value)(base:Heap)(C:Nat→Addr)(k:Nat)(N:List Str)(x:Str)(st:Stmt)(ds:List D)(l:L Unit):Prop :=
 ∀ (f:Addr) (cdv:Value) (A:Around) (outer:List Env) (s:Shared) (H Z:Hp) (E:XK),BX (bodyX P w K mg base N x (defScope st) f cdv A outer s H E) ⟨K,C,H,Z,E⟩ k →
  PassesOwn (model P w) (bodyX P w K mg base N x (defScope st) f cdv A outer s H E).A (bodyX P w K mg base N x (defScope st) f cdv A outer s H E).env (bodyX P w K mg base N x (defScope st) f cdv A outer s H E).xe →
  MadeX (bodyX P w K mg base N x (defScope st) f cdv A outer s H E) ⟨K,C,H,Z,E⟩→FL (bodyX P w K mg base N x (defScope st) f cdv A outer s H E) ⟨K,C,H,Z,E⟩ (startS N.length ds) (defBody st) JU l
theorem mkSc {N ps:List Str}{sc:Scope}(a:sc.kind=.function:=by rfl)(b:sc.isCoroutine=false:=by rfl)(c:sc.isGenerator=false:=by rfl)(d:N.Nodup:=by decide +kernel)(e:N.take ps.length=ps:=by rfl)
  (f:∀ x∈ps,sc.names.lookup x=some .local∨sc.names.lookup x=some .cell:=by decide +kernel) (g:∀ y∈sc.names,y.2≠.free:=by decide +kernel):FnScope N ps sc:=⟨a,b,c,d,e,f,g⟩
section
variable {P:Program}{w:World}{K:PySem.W.Frag}{mg:Str→Option Value}{base:Heap}{C:Nat→Addr}{k:Nat}{N ps:List Str}{x:Str}{st:Stmt}
theorem okd {fn:List D→R D}(S:FnScope N ps (defScope st))(h:∀ ds,ds.length=ps.length→∃ l,fn ds=outL l∧OkB P w K mg base C k N x st ds l):OkD P w K mg base C k x st ps fn:=fun F =>
 yO F S fun cdv A outer s H Z E bx hp md ds hl=>by
  obtain⟨l,e,o⟩:=h ds hl
  exact⟨l,e,o _ cdv A outer s H Z E bx hp md⟩
theorem ok1 {p:Str}{c:D→L Unit}(S:FnScope N [p] (defScope st))(h:∀ a,OkB P w K mg base C k N x st [a] (c a)):OkD P w K mg base C k x st [p] (a1 c):=okd S fun ds hl=>by obtain⟨a,rfl⟩:=len1 hl;exact⟨c a,rfl,h a⟩
theorem ok2 {p q:Str}{c:D→D→L Unit}(S:FnScope N [p,q] (defScope st))(h:∀ a b,OkB P w K mg base C k N x st [a,b] (c a b)):OkD P w K mg base C k x st [p,q] (a2 c):=okd S fun ds hl=>by obtain⟨a,b,rfl⟩:=len2 hl;exact⟨c a b,rfl,h a b⟩
theorem ok3 {p q r:Str}{c:D→D→D→L Unit}(S:FnScope N [p,q,r] (defScope st))(h:∀ a b d,OkB P w K mg base C k N x st [a,b,d] (c a b d)):OkD P w K mg base C k x st [p,q,r] (a3 c):=okd S fun ds hl=>by obtain⟨a,b,d,rfl⟩:=len3 hl;exact⟨c a b d,rfl,h a b d⟩
theorem ok4 {p q r s:Str}{c:D→D→D→D→L Unit}(S:FnScope N [p,q,r,s] (defScope st))(h:∀ a b d e,OkB P w K mg base C k N x st [a,b,d,e] (c a b d e)):OkD P w K mg base C k x st [p,q,r,s] (a4 c):=okd S fun ds hl=>by obtain⟨a,b,d,e,rfl⟩:=len4 hl;exact⟨c a b d e,rfl,h a b d e⟩
theorem ok5 {p q r s t:Str}{c:D→D→D→D→D→L Unit}(S:FnScope N [p,q,r,s,t] (defScope st))(h:∀ a b d e f,OkB P w K mg base C k N x st [a,b,d,e,f] (c a b d e f)):OkD P w K mg base C k x st [p,q,r,s,t] (a5 c):=okd S fun ds hl=>by obtain⟨a,b,d,e,f,rfl⟩:=len5 hl;exact⟨c a b d e f,rfl,h a b d e f⟩
structure Fd (K:PySem.W.Frag)(mg:Str→Option Value)(x:Str)(ps:List Str)(st:Stmt):Prop where
 ex:∃ a fd,Fun K x x st a fd∧mg x=some (.ref a)∧Binds K fd ps []
theorem oY {f:Addr}{fd:FuncData}{n:Nat}:FnOk P w K mg base (CXE P w) k f fd ps (spF K C n fun _=>.stuck) :=
 ⟨fun vs H Q E h=>by obtain⟨_,_,_,_,_,z⟩:=h;exact z.elim,fun A outer s H args us vs Q E _ _ _ _ h=>by obtain⟨_,_,_,_,_,z⟩:=h;exact z.elim⟩
theorem Bs {i:Nat}(F:Fd K mg x ps st)(hf:mg x=some (.ref (C i))):FnV P w K mg base C 0 i fun _=>.stuck:=by
 obtain⟨a,fd,F,h,b⟩:=F.ex
 rw[hf]at h
 cases h
 exact⟨fd,ps,oY,F.kp,b,fun _ _=>rfl⟩
theorem Bt {i:Nat}{fn:List D→R D}(F:Fd K mg x ps st)(hf:mg x=some (.ref (C i)))(ok:OkD P w K mg base C k x st ps fn)(hl:∀ ds,ds.length≠ps.length→fn ds=.stuck):FnV P w K mg base C (k+1) i fn:=by
 obtain⟨a,fd,F,h,b⟩:=F.ex
 rw[hf]at h
 cases h
 exact⟨fd,ps,ok F,F.kp,b,hl⟩
theorem g0 (F:Fd K mg x ps st):Fn1 P w K mg base C 0 x ps (fun _=>.stuck):=by obtain⟨a,fd,F,h,b⟩:=F.ex;exact⟨a,fd,oY,h,F.kp,b⟩
theorem g1 {fn:List D→R D}(F:Fd K mg x ps st)(ok:OkD P w K mg base C k x st ps fn):Fn1 P w K mg base C (k+1) x ps fn:=by obtain⟨a,fd,F,h,b⟩:=F.ex;exact⟨a,fd,ok F,h,F.kp,b⟩
section
variable {h:Heap}{f:Addr}{oc:Value}{od an:Option Addr}{osl:Array (Option Value)}{kV doc pm cdv ct:Value}
theorem Bu (X:K.In h)(G:h.Ns mainGlobals mg)(hb:∀ (kV doc pm:Value) (an:Option Addr) (cdv ct:Value) (us:List Value),us.length=ps.length→bindArgs (PySem.W.fnOf x x (defArgs st) (defBody st) (defScope st) .none kV doc pm an cdv ct) ⟨us,[]⟩=pure (ps.zip us))
  (a:PySem.W.nsIn K mainGlobals x=some (some (.ref f))) (l:K.lookup f=some ⟨oc,od,.func (PySem.W.fnOf x x (defArgs st) (defBody st) (defScope st) .none kV doc pm an cdv ct),osl⟩) (c:PySem.W.codeIn K cdv x=true) (k:PySem.W.keepIn K (.ref f)=true):Fd K mg x ps st :=
 ⟨f,_,qW l c k,PySem.W.mg_of X G a,(qW l c k).binds hb⟩
end
theorem ln1 {us:List Value}(h:us.length=1):∃ a,us=[a]:=match us,h with | [a],_=>⟨a,rfl⟩
theorem ln2 {us:List Value}(h:us.length=2):∃ a b,us=[a,b]:=match us,h with | [a,b],_=>⟨a,b,rfl⟩
theorem ln3 {us:List Value}(h:us.length=3):∃ a b c,us=[a,b,c]:=match us,h with | [a,b,c],_=>⟨a,b,c,rfl⟩
theorem ln4 {us:List Value}(h:us.length=4):∃ a b c d,us=[a,b,c,d]:=match us,h with | [a,b,c,d],_=>⟨a,b,c,d,rfl⟩
end
abbrev Ng (K:PySem.W.Frag)(x:Str)(v:Option Value):Prop:=PySem.W.nsIn K mainGlobals x=some v
theorem sT {K:PySem.W.Frag}{C:Nat→Addr}{Z:Hp}:∀ ns:List Int,Reps K C Z (ns.map .int) (ns.map V.int)
 | []=>by rw[List.map_nil,List.map_nil,Reps]
 | i::ns=>by rw[List.map_cons,List.map_cons,Reps];exact⟨_,_,rfl,aO,sT ns⟩
section
variable {σ:Type}{X:Cx}{F:Fx}{S:SS}{J:σ→SS→Prop}
end
section
variable {X:Cx}{F:Fx}{e ey ex:Expr}{ge gy gx:SS→R D}{x:Str}{pos:Pos}{k:Nat}
end
section
variable {X:Cx}{F:Fx}{tg iter elt:Expr}{scope:Scope}{N:List Str}{own:Nat}{cap:List Nat}{pos:Pos}{git:SS→R (List D)}
end
section
variable {X:Cx}{F:Fx}{tg iter elt:Expr}{ifs:List Expr}{scope:Scope}{N:List Str}{own:Nat}{cap:List Nat}{pos:Pos}{git:SS→R (List D)}{g:D→SS→R SS}{gc:SS→R Bool}{ge:SS→R D}
end
section
variable {X:Cx}{F:Fx}{p pos p1 p2 p3:Pos}{e:Expr}{g:SS→R D}{k:Nat}
end
end FF
end
noncomputable section
namespace L2
open PySem PySem.Spec PyProof.Rows
section
variable {κ:Type}[DecidableEq κ]
def valV (kvs:List (κ×V))(k:κ):Option V:=(kvs.find? fun kv=>decide (kv.1=k)).map (·.2)
def dropK (kvs:List (κ×V))(k:κ):List (κ×V):=kvs.filter fun kv=>decide (kv.1≠k)
theorem wR {p:κ×V}{r:List (κ×V)}{k:κ}(e:p.1=k):valV (p::r) k=some p.2:=by simp[valV,List.find?_cons,e]
theorem wS {p:κ×V}{r:List (κ×V)}{k:κ}(e:¬ p.1=k):valV (p::r) k=valV r k:=by simp[valV,List.find?_cons,e]
theorem RelO.getD {o:Option V}{u:Option Value}{d:V}{d':Value}(r:RelO o u)(rd:RelV d d'):RelV (o.getD d) (u.getD d'):=by
 cases o with
 | none=>cases u with
  | none=>exact rd
  | some _=>exact(show False from r).elim
 | some _=>cases u with
  | none=>exact(show False from r).elim
  | some _=>exact r
theorem KV.any {kvs:List (κ×V)}{vs:List (κ×Value)}(r:KV kvs vs)(k:κ):(kvs.any fun kv=>decide (kv.1=k))=vs.any fun kv=>decide (kv.1=k):=by
 unfold KV at r
 induction r with
 | nil=>rfl
 | cons h t ih=>rw[List.any_cons,List.any_cons,ih,h.1]
theorem KV.drop {kvs:List (κ×V)}{vs:List (κ×Value)}(r:KV kvs vs)(k:κ):KV (dropK kvs k) (without vs k):=by
 unfold KV at r ⊢
 unfold dropK without
 induction r with
 | nil=>exact .nil
 | @cons p q ps qs h t ih =>
  obtain⟨h1,h2⟩:=h
  rw[List.filter_cons,List.filter_cons]
  by_cases e:p.1=k
  ·have a:¬ decide (p.1≠k)=true:=by simp[e]
   have b:¬ decide (q.1≠k)=true:=by simp[h1.symm.trans e]
   rw[if_neg a,if_neg b];exact ih
  ·have e':¬ q.1=k:=fun z=>e (h1.trans z)
   have a:decide (p.1≠k)=true:=by simp[e]
   have b:decide (q.1≠k)=true:=by simp[e']
   rw[if_pos a,if_pos b];exact .cons ⟨h1,h2⟩ ih
theorem KV.length {kvs:List (κ×V)}{vs:List (κ×Value)}(r:KV kvs vs):kvs.length=vs.length:=Paired.length r
end
theorem Bv {P:Program}{w:World}{k:Key}{u:Value}(r:RelV (kV k) u):(mixKind P w).is k u=true:=by
 cases k with
 | inl i=>obtain⟨t,e⟩:=(show ∃ t,u=Value.int i t from r);subst e;exact ou P w i t
 | inr x=>obtain⟨t,e⟩:=(show ∃ t,u=Value.str x t from r);subst e;exact oy P w x t
theorem fY {P:Program}{w:World}:∀ {ks:List Key} {us:List Value},Vals (ks.map kV) us→ItemsAre (mixKind P w) ks us
 | [],_,r=>by rw[List.map_nil]at r;cases r;exact .nil
 | k::ks,_,r=>by
  rw[List.map_cons]at r
  cases r with
  | cons h t=>exact .cons (Bv h) (fY t)
abbrev KT (H:Hp):List (List Key×V)→List (List Key×Addr×Value)→Prop:=Paired fun p q=>p.1=q.1∧H q.2.1=some (.tup (p.1.map kV))∧RelV p.2 q.2.2
theorem KT.keeps {H H':Hp}{kvs:List (List Key×V)}{xs:List (List Key×Addr×Value)}(r:KT H kvs xs)(ht:∀ b ys,H b=some (.tup ys)→H' b=some (.tup ys)):KT H' kvs xs :=
 Paired.mapP r fun _ _ z=>⟨z.1,ht _ _ z.2.1,z.2.2⟩
section
variable {P:Program}{w:World}{H:Hp}{h:Heap}{a:Addr}
end
section
variable {X:Cx}{pins:List (Addr×Obj)}{σ:St}{H:Hp}{s:Shared}{a:Addr}{y v:V}{u r:Value}{o:Option V}{A:Around}{E:Value→Shared→Prop}
theorem Inv.big (I:Inv X pins σ H s):sysModules < s.heap.objs.size:=by
 have h:=(I.mod.glob.keeps I.bk).lt
 exact Nat.lt_trans (by decide) h
theorem yU {h':Heap}{t':Nat}{ob:HO}(I:Inv X pins σ H s)(mu:Mut (H a))(hs:Heap.SameBut a s.heap h')(he:∃ q,h'.get? a=some q)(new:ObjOk X.prog X.w (upd H a ob) h' a ob) :
  Inv X pins σ (upd H a ob) { s with heap:=h',toks:=t' } :=
 I.write mu (.inl rfl) (fun b q hb z=>(hs.2 b hb).trans z) he new
end
section
variable {X:Cx}{pins:List (Addr×Obj)}{σ:St}{H:Hp}{s:Shared}{a:Addr}{kvs:List (Key×V)}{k:Key}{u:Value}{A:Around}{E:Value→Shared→Prop}
end
def NoSl (i:Expr):Prop:=∀ ov iv,subscripted i false ov iv=operate [ov,iv] (getItem ov iv)
theorem yV {prog:Program}{w:World}{A:Around}{E:Value→Shared→Prop}{s:Shared}{env:Env}{value slice:Expr}{pos:Pos}{T id:String}{Q:Value→Shared→Prop}
  (hl:typeLookup (.type T) "__getitem__"=pure (some (.builtin id))) (hs:NoSl slice)
  (h:wpAny (model prog w) A (eval value env) (fun o s₁=>wpAny (model prog w) A (eval slice env) (fun i s₂=>s₂.TypeIs o T∧wpAny (model prog w) A (getItem o i) Q E s₂) E s₁) E s) :
  wpAny (model prog w) A (eval (.Subscript value slice pos) env) Q E s:=by
 refine Subscript_ (wpAny_mono h (fun o s₁ h₁=>wpAny_mono h₁ (fun i s₂ h₂=>?_) fun _ _ x=>x) fun _ _ x=>x)
 obtain⟨hT,h₂⟩:=h₂
 unfold subscriptTail
 refine wpAny_bind ?_
 rw[getitemInPython_of_ne hT.not_modules]
 refine wpAny_bind (wpAny_specialOf hT hl ?_)
 have fin:wpAny (model prog w) A (subscripted slice false o i) (fun r s₃=>wpAny (model prog w) A (letTemporaryGo value o r >>= fun _=>pure r) Q E s₃) E s₂:=by
  rw[hs o i]
  exact wpAny_operating (wpAny_mono h₂ (fun r s₃ h₃=>wpAny_bind (wpAny_letTemporaryGo (wpAny_pure h₃))) fun _ _ x=>x)
 first
  | exact wpAny_pure (wpAny_bind fin)
  | exact wpAny_bind (wpAny_pure (wpAny_bind fin))
  | exact wpAny_bind fin
section
variable {X:Cx}{o i e value:Expr}{pos pos' tpos:Pos}{td ty tv:TE}
end
section
variable {X:Cx}{pos:Pos}
end
section
variable {X:Cx}{pins:List (Addr×Obj)}{σ:St}{H:Hp}{s:Shared}{a:Addr}{y d:V}{u r:Value}{o:Option V}{A:Around}{E:Value→Shared→Prop}
end
section
variable {X:Cx}{o e f:Expr}{apos cpos:Pos}{td ty tx:TE}
end
section
variable {X:Cx}{pins:List (Addr×Obj)}{σ:St}{H:Hp}{s:Shared}{a:Addr}{kvs:List (Key×V)}{A:Around}{E:Value→Shared→Prop}
end
section
variable {X:Cx}{pins:List (Addr×Obj)}{σ:St}{H:Hp}{s:Shared}{a:Addr}{y:V}{u:Value}{A:Around}{E:Value→Shared→Prop}
end
end L2
end
noncomputable section
namespace FF
open PySem PySem.Spec PyProof.Rows L2
def dicGet {κ:Type}[DecidableEq κ](m:List (κ×D))(k:κ):Option D:=(m.find? fun p=>decide (p.1=k)).map (·.2)
def dicPut {κ:Type}[DecidableEq κ](m:List (κ×D))(k:κ)(d:D):List (κ×D):=if (m.any fun p=>decide (p.1=k))=true then m.map (fun p=>if p.1=k then (p.1,d) else p) else m++[(k,d)]
section
variable {κ:Type}{F:Fx}{Z:Hp}{m:List (κ×D)}{kvs:List (κ×V)}{k:κ}{d:D}{v:V}
theorem Pairs.cons (r:Rep F.K F.C Z d v)(h:Pairs F Z m kvs):Pairs F Z ((k,d)::m) ((k,v)::kvs) :=
 ⟨by rw[List.map_cons,List.map_cons,h.1],by rw[List.map_cons,List.map_cons,Reps];exact⟨_,_,rfl,r,h.2⟩⟩
theorem Pairs.nil:Pairs F Z ([]:List (κ×D)) []:=⟨rfl,by rw[List.map_nil,Reps];rfl⟩
theorem Pairs.inv (h:Pairs F Z ((k,d)::m) kvs):∃ v r,kvs=(k,v)::r∧Rep F.K F.C Z d v∧Pairs F Z m r:=by
 cases kvs with
 | nil=>have:=h.1;cases this
 | cons p r =>
  obtain⟨k',v⟩:=p
  obtain⟨h1,h2⟩:=h
  rw[List.map_cons,List.map_cons]at h1
  injection h1 with h1 h3
  rw[List.map_cons,List.map_cons,Reps]at h2
  obtain⟨v',r',e,q1,q2⟩:=h2
  injection e with e1 e2
  subst e1 e2
  cases (show k'=k from h1)
  exact⟨v,r,rfl,q1,h3,q2⟩
theorem Pairs.inv0 (h:Pairs F Z ([]:List (κ×D)) kvs):kvs=[]:=by
 cases kvs with
 | nil=>rfl
 | cons p r=>have:=h.1;cases this
theorem Pairs.mono {Z':Hp}(h:Pairs F Z m kvs)(s:Same Z Z'):Pairs F Z' m kvs:=⟨h.1,h.2.mono s⟩
theorem Pairs.length (h:Pairs F Z m kvs):kvs.length=m.length:=by have:=congrArg List.length h.1;simpa using this
variable [DecidableEq κ]
theorem Pairs.get:∀ {m:List (κ×D)} {kvs:List (κ×V)},Pairs F Z m kvs→dicGet m k=some d→∃ v,valV kvs k=some v∧Rep F.K F.C Z d v
 | [],kvs,h,e=>nomatch e
 | (k',d')::m,kvs,h,e=>by
  obtain⟨v,q,rfl,h1,h2⟩:=h.inv
  unfold dicGet at e
  rw[List.find?_cons]at e
  by_cases hk:k'=k
  ·rw[decide_eq_true (show (k',d').1=k from hk)]at e
   cases e
   exact⟨v,wR hk,h1⟩
  ·rw[decide_eq_false (show ¬ (k',d').1=k from hk)]at e
   obtain⟨u,e1,e2⟩:=h2.get e
   exact⟨u,by rw[wS hk];exact e1,e2⟩
theorem Pairs.any:∀ {m:List (κ×D)} {kvs:List (κ×V)},Pairs F Z m kvs→(kvs.any fun kv=>decide (kv.1=k))=(m.any fun p=>decide (p.1=k))
 | [],kvs,h=>by rw[h.inv0];rfl
 | (k',d')::m,kvs,h=>by
  obtain⟨v,q,rfl,h1,h2⟩:=h.inv
  rw[List.any_cons,List.any_cons,h2.any]
end
section
variable {F:Fx}{H Z:Hp}{S:SS}{σ:St}
end
section
variable {X:Cx}{F:Fx}{pos p:Pos}{k:Nat}{g ge:SS→R D}{e ei:Expr}{x:Str}
end
section
variable {X:Cx}{F:Fx}{pos p:Pos}{keys:List (Option Expr)}{values:List Expr}{ks:List Key}{gs:List (SS→R D)}{g:SS→R D}{e:Expr}{x:Str}
end
def insS (i:Int):List Int→List Int
 | []=>[i]
 | a::r=>if i≤a then i::a::r else a::insS i r
def sortI (is:List Int):List Int:=is.foldr insS []
def dSortI:List D→R D
 | [.lst xs]=>match intsOf xs with
  | some is=>if is.length < 64 then .ok (.lst ((sortI is).map .int)) else .stuck
  | none=>.stuck
 | _=>.stuck
theorem jf (i:Int):∀ l:List Int,(insS i l).Perm (i::l)
 | []=>.refl _
 | a::r=>by
  unfold insS
  split
  ·exact .refl _
  ·exact((jf i r).cons a).trans (.swap i a r)
theorem cc:∀ is:List Int,(sortI is).Perm is
 | []=>.refl _
 | i::is=>(jf i _).trans ((cc is).cons i)
theorem sU (i:Int):∀ l:List Int,l.Pairwise (·≤·)→(insS i l).Pairwise (·≤·)
 | [],_=>by unfold insS;exact List.pairwise_singleton _ _
 | a::r,h=>by
  unfold insS
  have h1:=List.pairwise_cons.mp h
  split
  ·rename_i q
   exact List.pairwise_cons.mpr ⟨fun b hb=>by rcases List.mem_cons.mp hb with rfl | hb;exact q;exact Int.le_trans q (h1.1 b hb),h⟩
  ·rename_i q
   exact List.pairwise_cons.mpr ⟨fun b hb=>by rcases List.mem_cons.mp ((jf i r).subset hb) with rfl | hb;omega;exact h1.1 b hb,sU i r h1.2⟩
theorem il:∀ is:List Int,(sortI is).Pairwise (·≤·)
 | []=>.nil
 | i::is=>sU i _ (il is)
theorem gK:∀ {a b:List Int},a.Perm b→a.Pairwise (·≤·)→b.Pairwise (·≤·)→a=b
 | [],b,p,_,_=>(List.nil_perm.mp p).symm
 | x::xs,[],p,_,_=>nomatch p.length_eq
 | x::xs,y::ys,p,ha,hb=>by
  have h1:=List.pairwise_cons.mp ha
  have h2:=List.pairwise_cons.mp hb
  have e:x=y:=by
   have m1:x∈y::ys:=p.subset List.mem_cons_self
   have m2:y∈x::xs:=p.symm.subset List.mem_cons_self
   rcases List.mem_cons.mp m1 with e | m1
   ·exact e
   ·rcases List.mem_cons.mp m2 with e | m2
    ·exact e.symm
    ·have a1:=h1.1 y m2
     have a2:=h2.1 x m1
     omega
  subst e
  rw[gK (List.Perm.cons_inv p) h1.2 h2.2]
section
variable {X:Cx}{F:Fx}{p pos:Pos}{e:Expr}{gs:SS→R (List D)}{k:Nat}
theorem oZ:CallR X (.builtin "sorted") (fun xs H Q=>∃ (a:Addr) (is:List Int),xs=[.ref a]∧SqL X.K H a (is.map V.int)∧is.length < 64∧∀ p,H p=none→Q (.ref p) (upd H p (.lst ((sortI is).map V.int)))):=by
 intro pins s σ H xs us Q I r h
 obtain⟨a,is,rfl,hq,hl,q⟩:=h
 obtain⟨u,rfl,ru⟩:=vals1 r
 cases ru
 obtain⟨its,rv,pl,hz⟩:=I.list hq
 have hlen:its.length=is.length:=by have:=rv.length;rw[List.length_map]at this;omega
 refine sorted_ints (ns:=is) pl.isList (kz rv) (by omega) fun out ns' a1 a2 a3=>?_
 have e:=gK (a2.trans (cc is).symm) a3 (il is)
 subst e
 obtain⟨n,hn⟩:=sortedAll_at s.heap its out
 have hz2:((sortI is).map V.int).length≤sizeLine:=by rw[List.length_map,(cc is).length_eq,sizeLine_eq];omega
 exact⟨.ref (s.heap.objs.size+1),_,I.laid (o:=.lst ((sortI is).map V.int)) (t':=s.toks) (fun b u q=>sortedAll_old q) (Nat.le_succ _) ⟨hz2,out.toList,n,L2.bO a1,by simpa [seqObj] using hn⟩,rfl,q _ (I.hok.fresh (Nat.le_succ _))⟩
theorem kR {F:Fx}{Z:Hp}:∀ is:List Int,Reps F.K F.C Z (is.map .int) (is.map V.int)
 | []=>Reps.nil
 | i::is=>Reps.cons aO (kR is)
theorem uL (bx:BX X F k)(hg:Gl X "sorted")(hm:X.mg "sorted"=none)(ha:FA X F [e] gs)(he:starEach [e] X.env=(false,eval e X.env)::starEach [] X.env:=by rfl)(hpl:(backTo pos (starEach [] X.env)).any (·.1)=false:=by rfl) :
  FE X F (.Call (.Name "sorted" p) [e] [] pos) (eCall dSortI gs) :=
 (ft oZ hg hm boot_sorted ha (he:=he) (hpl:=hpl)).weak fun σ H Q ⟨Z,S,ok,w⟩=>by
  refine aS ok w fun ds vs H1 Z1 ok1 x1 rs w1=>?_
  unfold dSortI at w1
  split at w1
  ·rename_i xs
   split at w1
   ·rename_i is e
    split at w1
    ·rename_i hl
     obtain⟨v,rfl,h⟩:=a9 rs
     rw[Rep]at h
     obtain⟨a,us,rfl,h1,h2⟩:=h
     have e2:=b9 h2 e
     subst e2
     refine⟨a,is,rfl,by rw[bx.K];exact ok1.sub.seq h1,hl,fun c hc=>?_⟩
     exact w1 _ _ (Ex.alloc ok1.sub hc) _ (by rw[Rep];exact⟨c,_,rfl,SqL.of ar,kR _⟩)
    ·exact w1.elim
   ·exact w1.elim
  ·exact w1.elim
end
section
variable {X:Cx}{F:Fx}{pos p:Pos}{k:Nat}{ga gb:SS→R D}{a b:Expr}{x:Str}
end
section
variable {prog:Program}{w:World}{A:Around}{E:Value→Shared→Prop}{s:Shared}
end
section
variable {X:Cx}{F:Fx}{e st:Expr}{te:TE}{g:SS→R D}{pos p2:Pos}
end
end FF
end
noncomputable section
namespace HT
open PySem PyProof.Rows
section
open PySem.SeqAt
open PySem.AutoSeq1 (wpAny_loadPart')
open PySem.MeetsSeq PySem.MeetsSeq2 PySem.MeetsSeq3
end
section
variable {prog:Program}{w:World}{A:Around}{E:Value→Shared→Prop}{s:Shared}
end
end HT
end
noncomputable section
namespace FF
open PySem PySem.Spec PyProof.Rows L2
section
variable {X:Cx}{F:Fx}{a b:Expr}{ga gb:SS→R D}{pos:Pos}{k:Nat}
end
section
variable {M:Model}{A:Around}{E:Value→Shared→Prop}{s:Shared}
end
section
variable {P:Program}{w:World}{K:PySem.W.Frag}{mg:Str→Option Value}{base:Heap}{N:List Str}{qual:Str}{scope:Scope}{f:Addr}{cd:Value}{A:Around}{outer:List Env}{s0:Shared}{H0:Hp}{E:XK}
end
section
variable {X:Cx}{E:XK}{scope:Scope}{cl:List (Str×Addr)}{C:Addr}{s:Shared}{H:Hp}{fp:List Addr}{N:List Str}{pins:List (Addr×Obj)}{σ:L2.St}{H1:Hp}{s1:Shared}
end
section
variable {X:Cx}{E:XK}{elt tg iter:Expr}{scope:Scope}{N:List Str}{own:Nat}{cap:List Nat}{pos:Pos}{wi:TI}{g:TG}{tc:TT}{te:TE}
set_option maxHeartbeats 4000000 in
end
section
variable {X:Cx}{F:Fx}{tg iter elt:Expr}{scope:Scope}{N:List Str}{own:Nat}{cap:List Nat}{pos:Pos}{git:SS→R (List D)}{g:D→SS→R SS}{ge:SS→R D}
end
section
variable {X:Cx}{F:Fx}{p pos:Pos}{e:Expr}{kws:List Keyword}{gs:SS→R (List D)}{k:Nat}
end
section
variable {X:Cx}{F:Fx}{tg:Expr}{gs:SS→R (List D)}
end
section
variable {prog:Program}{w:World}{A:Around}{E:Value→Shared→Prop}{R:Result→Shared→Prop}{h₀:Heap}{l I S:Addr}{its:List Value}{ks:Nat→List Int}{s0:Shared}
end
def lexI:List Int→List Int→Bool
 | [],[]=>false
 | [],_::_=>true
 | _::_,[]=>false
 | a::r,b::t=>if a=b then lexI r t else decide (a < b)
def tupI?:D→Option (List Int)
 | .tup ds=>intsOf ds
 | _=>none
section
variable {X:Cx}{F:Fx}{p pos:Pos}{e:Expr}{gs:SS→R (List D)}{k:Nat}
end
section
variable {X:Cx}{F:Fx}{p pos:Pos}{e:Expr}{gs:SS→R (List D)}{k:Nat}
end
section
variable {prog:Program}{w:World}{A:Around}{E:Value→Shared→Prop}{s:Shared}
abbrev byT (w:World):Bool:=w.params.followText "set-order"
end
section
variable {prog:Program}{w:World}{A:Around}{E:Value→Shared→Prop}{s:Shared}{R:Result→Shared→Prop}
abbrev bare (w:World):Obj:={ cls:=.type "set",dict:=none,data:=.set #[] 0 (.fresh 0 0 (!byT w)) }
end
section
variable {prog:Program}{w:World}{A:Around}{E:Value→Shared→Prop}{s:Shared}
end
section
variable {prog:Program}{w:World}{A:Around}{E:Value→Shared→Prop}{s:Shared}
end
section
variable {prog:Program}{w:World}{A:Around}{E:Value→Shared→Prop}{s:Shared}
end
section
variable {prog:Program}{w:World}{A:Around}{E:Value→Shared→Prop}{s:Shared}
end
section
variable {prog:Program}{w:World}{A:Around}{E:Value→Shared→Prop}{s:Shared}
end
section
variable {X:Cx}{F:Fx}{p p2 pos pos2:Pos}{e:Expr}{gs:SS→R (List D)}{k:Nat}
end
section
variable {X:Cx}{F:Fx}
variable {σ':Type}{S:SS}{st:Stmt}{rest:List Stmt}{J:σ'→SS→Prop}
end
inductive Prd {α β:Type}(R:α→β→Prop):List α→List β→Prop
 | nil:Prd R [] []
 | cons {a b l r}:R a b→Prd R l r→Prd R (a::l) (b::r)
section
variable {prog:Program}{w:World}{E:Value→Shared→Prop}
end
theorem Prd.length {α β:Type}{R:α→β→Prop}:∀ {l:List α} {r:List β},Prd R l r→l.length=r.length
 | _,_,.nil=>rfl
 | _,_,.cons _ t=>by rw[List.length_cons,List.length_cons,t.length]
section
variable {prog:Program}{w:World}{A:Around}{E:Value→Shared→Prop}{s:Shared}{R:Result→Shared→Prop}
end
section
variable {X:Cx}{F:Fx}{p p2 pos pos2:Pos}{e:Expr}{gs:SS→R (List D)}{k:Nat}{pins:List (Addr×Obj)}{σ:List (Option V)}{H:Hp}{s:Shared}
end
end FF
end
noncomputable section
set_option maxRecDepth 1000000
namespace FF
open PySem PySem.Spec PyProof.Rows L2
def ltOf:Code→Option Value→Option Bool
 | .call (.builtin id) ⟨[.int a _,.int b _],[]⟩,none=>if id="int.__lt__" then some (decide (a < b)) else none
 | _,_=>none
def ev {α:Type}(σ:Setting):Sem α→Option α
 | .pure a=>some a
 | .rule _ k=>ev σ (k ())
 | .point _ k=>ev σ (k ())
 | .ask k=>ev σ (k σ)
 | .call c h _ _ k=>match ltOf c h with
  | some b=>ev σ (k (.ok (.ret (.bool b))))
  | none=>none
 | _=>none
section
variable {prog:Program}{w:World}{A:Around}{E:Value→Shared→Prop}{s:Shared}
end
def sg (σ:Setting)(b:Bool):Setting:={ σ with params:={ σ.params with followText:=fun x=>if x="special-get-raises" then b else σ.params.followText x } }
theorem sV (σ:Setting):sg σ (σ.params.followText "special-get-raises")=σ:=by
 unfold sg
 have:(fun x=>if x="special-get-raises" then σ.params.followText "special-get-raises" else σ.params.followText x)=σ.params.followText:=by
  funext x
  split
  ·rename_i e;rw[e]
  ·rfl
 rw[this]
def numsV:List Value→Option (List Int)
 | []=>some []
 | .int n _::r=>(numsV r).map (n::·)
 | _=>none
def outS (r:Unit×SortSt):Option (List Int):=if (failedOf r.2).isNone=true then numsV ((arrOf r.2).map (·.2)).toList else none
def known (f:Nat→Int)(t:Nat→Tok):List Value:=(List.range 64).map fun i=>.int (f i) (t i)
section
variable {prog:Program}{w:World}{A:Around}{E:Value→Shared→Prop}{s:Shared}
end
section
variable {X:Cx}{F:Fx}{p pos:Pos}{e:Expr}{gs:SS→R (List D)}{k:Nat}
end
section
variable {X:Cx}{F:Fx}{pos:Pos}{k:Nat}{g ge:SS→R D}{e ei:Expr}{x:Str}
end
section
variable {X:Cx}{F:Fx}{p pos:Pos}{e a b:Expr}{ga gb:SS→R D}{gs:SS→R (List D)}{k:Nat}
end
section
variable {X:Cx}{F:Fx}{o e:Expr}{g:SS→R D}{gs:List (SS→R D)}{apos cpos:Pos}{k:Nat}
end
section
variable {X:Cx}{F:Fx}{e:Expr}{lo hi:Option Expr}{g:SS→R D}{l h:SS→R (Option Int)}{pos p2:Pos}
end
section
variable {X:Cx}
end
section
variable {X:Cx}{F:Fx}{e ei:Expr}{gs:SS→R (List D)}{pos p0 apos cpos:Pos}{x:Str}
end
section
variable {X:Cx}{pins:List (Addr×Obj)}{σ:St}
variable {F:Fx}{k:Nat}{f:Addr}{fd:FuncData}{ps:List Str}{t:List D→R D}{ds:List D}{l I S:Addr}{H0 Z0:Hp}{R:Result→Shared→Prop}{d:D}
end
section
variable {X:Cx}{F:Fx}{p pos kp np:Pos}{e:Expr}{g:SS→R D}{k:Nat}{x:Str}{ps:List Str}{t:List D→R D}
end
def tget (kvs:List TKV)(ks:List Int):Option V:=(kvs.find? fun p=>decide (p.1=ks)).map (·.2.2)
def tput (kvs:List TKV)(ks:List Int)(b:Addr)(v:V):List TKV:=if (kvs.any fun p=>decide (p.1=ks))=true then kvs.map (fun p=>if p.1=ks then (p.1,p.2.1,v) else p) else kvs++[(ks,b,v)]
section
variable {kvs:List TKV}{xs:List TKU}{ks:List Int}
theorem yW (r:Paired tabR kvs xs):RelO (tget kvs ks) ((atKey xs ks).map (·.2)):=by
 unfold tget atKey
 induction r with
 | nil=>exact True.intro
 | cons h _ ih =>
  rename_i p q ps qs _
  obtain⟨h1,h2,h3⟩:=h
  rw[List.find?_cons,List.find?_cons,← h1]
  by_cases c:p.1=ks
  ·rw[decide_eq_true c];exact h3
  ·rw[decide_eq_false c];exact ih
theorem o3 (r:Paired tabR kvs xs):(atKey xs ks).isSome=(kvs.any fun p=>decide (p.1=ks)):=by
 unfold atKey
 rw[Option.isSome_map]
 induction r with
 | nil=>rfl
 | cons h _ ih =>
  rename_i p q ps qs _
  obtain⟨h1,h2,h3⟩:=h
  rw[List.find?_cons,List.any_cons,← h1,← ih]
  by_cases c:p.1=ks
  ·rw[decide_eq_true c];rfl
  ·rw[decide_eq_false c];rfl
theorem yX {v:V}{u:Value}(rv:RelV v u)(r:Paired tabR kvs xs):Paired tabR (kvs.map fun p=>if p.1=ks then (p.1,p.2.1,v) else p) (xs.map (putAt ks u)):=by
 induction r with
 | nil=>exact .nil
 | cons h _ ih =>
  rename_i p q ps qs _
  refine .cons ?_ ih
  obtain⟨h1,h2,h3⟩:=h
  show tabR (if p.1=ks then (p.1,p.2.1,v) else p) (if q.1=ks then (q.1,q.2.1,u) else q)
  rw[← h1]
  by_cases c:p.1=ks
  ·rw[if_pos c,if_pos c];exact⟨rfl,h2,rv⟩
  ·rw[if_neg c,if_neg c];exact⟨h1,h2,h3⟩
theorem uM {α β:Type}{R:α→β→Prop}{as:List α}{bs:List β}{a:α}{b:β}(r:Paired R as bs)(h:R a b):Paired R (as++[a]) (bs++[b]):=by
 induction r with
 | nil=>exact .cons h .nil
 | cons h' _ ih=>exact .cons h' ih
theorem yY {v:V}{u:Value}{b:Addr}(rv:RelV v u)(r:Paired tabR kvs xs):Paired tabR (tput kvs ks b v) (storedH xs ks b u):=by
 unfold tput storedH
 rw[o3 r]
 split
 ·exact yX rv r
 ·exact uM r ⟨rfl,rfl,rv⟩
theorem wT {α β:Type}{R:α→β→Prop}{as:List α}{bs:List β}(r:Paired R as bs):∀ b∈bs,∃ a∈as,R a b:=by
 induction r with
 | nil=>exact fun b hb=>nomatch hb
 | cons h _ ih =>
  intro b hb
  rcases List.mem_cons.mp hb with rfl | hb
  ·exact⟨_,.head _,h⟩
  ·obtain⟨a,ha,q⟩:=ih b hb
   exact⟨a,.tail _ ha,q⟩
theorem o4 {α β:Type}{R:α→β→Prop}{as:List α}{bs:List β}(r:Paired R as bs):as.length=bs.length:=by
 induction r with
 | nil=>rfl
 | cons h _ ih=>rw[List.length_cons,List.length_cons,ih]
theorem wU {v:V}{b:Addr}:(tput kvs ks b v).length≤kvs.length+1:=by unfold tput;split<;>simp
end
section
variable {X:Cx}{pins:List (Addr×Obj)}{σ:St}{H:Hp}{s:Shared}{a b:Addr}{kvs:List TKV}{ks:List Int}{A:Around}{E:Value→Shared→Prop}
theorem fY {P:Program}{w:World}:∀ {ks:List Int} {its:List Value},Vals (ks.map V.int) its→ItemsAre (intKind P w) ks its
 | [],its,h=>by cases h;exact .nil
 | k::ks,its,h=>by
  cases h with
  | cons h r =>
   obtain⟨t,rfl⟩:=h
   exact .cons (by show Value.isInt k (.int k t)=true;simp[Value.isInt]) (fY r)
theorem kj (I:Inv X pins σ H s)(h:SqT X.K H b (ks.map V.int)):IsTupleKey (intKind X.prog X.w) s.heap ks b:=by
 obtain⟨its,r,⟨o,e,c,n,d⟩,_⟩:=I.tuple h
 exact⟨o,its.toArray,n,e,c,d,by simpa using fY r⟩
def KeysAt (K:PySem.W.Frag)(H:Hp)(kvs:List TKV):Prop:=∀ x∈kvs,SqT K H x.2.1 (x.1.map V.int)
theorem im (I:Inv X pins σ H s)(e:H a=some (tabO a kvs))(hk:KeysAt X.K H kvs):∃ xs:List TKU,Paired tabR kvs xs∧xs.length≤sizeLine∧(a==sysModules)=false∧s.heap.DictOfH (tupleKind (intKind X.prog X.w)) a xs:=by
 obtain⟨xs,r,hl,hm,o,es,ep,h1,h2,h3,h4,h5⟩:=(show ObjOk X.prog X.w H s.heap a (tabO a kvs) from I.hok a _ e).1
 refine⟨xs,r,hl,hm,o,es,ep,h1,h2,h3,h4,fun x hx=>?_,h5⟩
 obtain⟨p,hp,q1,q2,_⟩:=wT r x hx
 have:=kj I (hk p hp)
 rw[← q1,← q2];exact this
theorem sW {P:Program}{w:World}{H':Hp}{h':Heap}(h:tabφ a kvs h'):ObjOk P w H' h' a (tabO a kvs):=by
 refine⟨h,?_,fun h1 h2 ⟨xs,r,hl,hm,o,es,ep,g1,g⟩ kk=>⟨xs,r,hl,hm,o,es,ep,kk o g1,g⟩⟩
 obtain⟨xs,r,hl,hm,o,es,ep,g1,g⟩:=h
 exact⟨o,g1⟩
theorem uN {v:V}{Q:Value→Shared→Prop}(hu:A.units+1 < cLine)(I:Inv X pins σ H s)(e:H a=some (tabO a kvs))(hk:KeysAt X.K H kvs)(hb:SqT X.K H b (ks.map V.int))(g:tget kvs ks=some v)(h:∀ w' s',Inv X pins σ H s'→RelV v w'→Q w' s') :
  wpAny (model X.prog X.w) A (getItem (.ref a) (.ref b)) Q E s:=by
 obtain⟨xs,r,hl,hm,dd⟩:=im I e hk
 obtain⟨w',hw,rw'⟩:=RelO.some_of (v:=v) (o:=(atKey xs ks).map (·.2)) (by rw[← g];exact yW r)
 obtain⟨p,hp,hp2⟩:=Option.map_eq_some_iff.mp hw
 refine wpAny_getItem_heap (tupleKind_room_in1 hu) (kj I hb) dd hp ?_
 rw[hp2]
 exact h w' _ (I.tok _) rw'
theorem t_in {Q:Value→Shared→Prop}(hu:A.units+1 < cLine)(I:Inv X pins σ H s)(e:H a=some (tabO a kvs))(hk:KeysAt X.K H kvs)(hb:SqT X.K H b (ks.map V.int))(h:∀ s',Inv X pins σ H s'→Q (.bool (kvs.any fun p=>decide (p.1=ks))) s') :
  wpAny (model X.prog X.w) A (compareOp .In (.ref b) (.ref a)) Q E s:=by
 obtain⟨xs,r,hl,hm,dd⟩:=im I e hk
 refine wpAny_in_heap (tupleKind_room_in1 hu) (kj I hb) hm dd ?_
 rw[o3 r]
 exact h _ (I.tok _)
theorem uO {v:V}{u:Value}{Q:Unit→Shared→Prop}(hu:A.units+1 < cLine)(I:Inv X pins σ H s)(e:H a=some (tabO a kvs))(hk:KeysAt X.K H kvs)(hb:SqT X.K H b (ks.map V.int))(rv:RelV v u)(hl:kvs.length < 1000000)(h:∀ s',Inv X pins σ (upd H a (tabO a (tput kvs ks b v))) s'→Q () s') :
  wpAny (model X.prog X.w) A (setItem (.ref a) (.ref b) u) Q E s:=by
 obtain⟨xs,r,hl',hm,dd⟩:=im I e hk
 refine wpAny_setItem_heap (hsz:=hl') (tupleKind_room_in1 hu) (kj I hb) dd fun h' dd' hs=>h _ ?_
 obtain⟨q,es,ep,hq,h2,h3,h4,_,h5⟩:=dd'
 have rp:=yY (ks:=ks) (b:=b) rv r
 refine yU I (by rw[e];exact True.intro) hs ⟨q,hq⟩ (sW ⟨_,rp,?_,hm,q,es,ep,hq,h2,h3,h4,h5⟩)
 rw[← o4 rp,sizeLine_eq]
 have:=wU (kvs:=kvs) (ks:=ks) (b:=b) (v:=v)
 omega
theorem rq (I:Inv X pins σ H s)(e:H a=some (tabO a kvs)):s.TypeIs (.ref a) "dict" := by
 obtain⟨xs,r,hl,hm,o,es,ep,h1,h2,_⟩:=(show ObjOk X.prog X.w H s.heap a (tabO a kvs) from I.hok a _ e).1
 exact⟨o,h1,h2.1⟩
theorem uP {xs:List TKU}(hm:(a==sysModules)=false):MeetsIn X.prog X.w (Builtin.«dict.__len__» ⟨[.ref a],[]⟩) (fun _ R s=>s.heap.DictOfH (tupleKind (intKind X.prog X.w)) a xs∧R (.ok (.ret (.int xs.length s.toks))) { s with toks:=s.toks+1 }) :=
 .of_wp fun A R s ⟨dd,h⟩=>by
  obtain⟨o,es,ep,g1,g2,g3,g4,_⟩:=dd
  have en:es.size=xs.length:=size_of_entries g4
  show wpAny _ _ (dictSize a >>= _) _ _ s
  unfold dictSize
  refine wpAny_bind (wpAny_bind (wpAny_dictEntries g1 g3 (wpAny_pure ?_)))
  show wpAny _ _ (Builtin.Dict.pendingCount a >>= _) _ _ s
  refine wpAny_bind (wpAny_pendingCount_other hm (wpAny_ret_mkInt ?_))
  rw[en]
  exact h
theorem Bw {Q:Value→Shared→Prop}(I:Inv X pins σ H s)(e:H a=some (tabO a kvs))(hk:KeysAt X.K H kvs)(h:∀ t s',Inv X pins σ H s'→Q (.int kvs.length t) s'):wpAny (model X.prog X.w) A (call (.builtin "len") [.ref a]) Q E s:=by
 obtain⟨xs,r,hl,hm,dd⟩:=im I e hk
 have hz:xs.length < 2^63:=by rw[sizeLine_eq]at hl;omega
 rw[o4 r]at h
 refine Calls.call_function_entry PySem.kind_len PySem.plain_len PySem.entry_len (PySem.args_len1 _) ?_
 unfold Builtin.«len»
 refine wpAny_bind (m:=oneArg "len" _) (wpAny_pure (wpAny_bind (m:=callSpecial? (.ref a) (Str.ofString "__len__")) (wpAny_callSpecial?_slot (name:=Str.ofString "__len__") dd.typeIs PySem.F.slot_dict_len
  (call_meetsIn PySem.F.slot_dict_len dd.typeIs PySem.F.entry_dict_len (PySem.F.args_dict_len_1 _) (uP hm) ⟨dd,?_⟩))))
 show wpAny _ _ _ _ _ { s with toks:=s.toks+1 }
 refine wpAny_bind (wpAny_holding (wpAny_pure (wpAny_bind (wpAny_letGo ?_))))
 show wpAny _ _ (if ((xs.length:Nat):Int) < 0 then _ else _) _ _ _
 rw[if_neg (by omega)]
 show wpAny _ _ (if ((xs.length:Nat):Int)≥2^63 then _ else _) _ _ _
 rw[if_neg (by omega)]
 exact wpAny_bind (wpAny_mkInt (wpAny_pure ⟨_,rfl,h _ _ (I.tok _)⟩))
end
section
variable {X:Cx}{pos:Pos}{o i e value:Expr}{td ty tv:TE}{pos':Pos}
theorem yZ:PE X (.Dict [] [] pos) (fun _ H Q=>∀ p,H p=none→Q (.ref p) (upd H p (tabO p []))):=fun pins s σ H Q I h =>
 wpAny_Dict_empty ⟨.ref s.heap.objs.size,_,I.laid (a:=s.heap.objs.size) (o:=tabO s.heap.objs.size []) (t':=s.toks) (fun _ _ q=>Heap.get?_push_of_some _ q) (Nat.le_refl _)
  (sW ⟨[],.nil,Nat.zero_le _,beq_eq_false_iff_ne.mpr (Ne.symm (Nat.ne_of_lt I.big)),_,#[],0,Heap.get?_push_size _ rfl,⟨rfl,rfl,rfl⟩,rfl,rfl,List.nodup_nil⟩),rfl,h _ (I.hok.fresh (Nat.le_refl _))⟩
theorem y3 (hu:X.A.units+1 < cLine)(ho:PE X o td)(hi:PE X i ty)(hs:NoSl i):PE X (.Subscript o i pos)
  (fun σ H Q=>td σ H fun x H1=>ty σ H1 fun y H2=>∃ a b kvs ks v,x=.ref a∧y=.ref b∧H2 a=some (tabO a kvs)∧KeysAt X.K H2 kvs∧SqT X.K H2 b (ks.map V.int)∧tget kvs ks=some v∧Q v H2):=by
 intro pins s σ H Q I h
 refine yV PySem.F.slot_dict_getitem.lookup hs (thn (ho pins s σ H _ I h) fun u s1 ⟨x,H1,I1,rx,q1⟩=>thn (hi pins s1 σ H1 _ I1 q1) fun iv s2 ⟨y,H2,I2,ry,a,b,kvs,ks,v,ex,ey,g1,g2,g3,g4,q2⟩=>?_)
 subst ex;subst ey
 cases (show u=Value.ref a from rx)
 cases (show iv=Value.ref b from ry)
 exact⟨rq I2 g1,uN hu I2 g1 g2 g3 g4 fun w' s' I' r'=>⟨v,H2,I',r',q2⟩⟩
def rTIn (K:PySem.W.Frag):R2:=fun x y H Q=>∃ a b kvs ks,x=.ref b∧y=.ref a∧H a=some (tabO a kvs)∧KeysAt K H kvs∧SqT K H b (ks.map V.int)∧Q (.bl (kvs.any fun p=>decide (p.1=ks))) H
theorem wV (hu:X.A.units+1 < cLine):OpR X (compareOp .In) (rTIn X.K):=by
 intro pins s σ H x y v u Q I rx ry h
 obtain⟨a,b,kvs,ks,rfl,rfl,g1,g2,g3,q⟩:=h
 cases rx
 cases ry
 exact t_in hu I g1 g2 g3 fun s' I'=>⟨.bl _,H,I',rfl,q⟩
theorem y4 (hu:X.A.units+1 < cLine)(ho:PE X o td)(hi:PE X i ty)(hv:PE X value tv)(hs:swapsWith value (some (.Subscript o i pos')) pos.line X.env=pure false):PS X (.Assign [.Subscript o i pos'] value pos)
  (fun D σ H=>tv σ H fun v H1=>td σ H1 fun x H2=>ty σ H2 fun y H3=>∃ a b kvs ks,x=.ref a∧y=.ref b∧H3 a=some (tabO a kvs)∧KeysAt X.K H3 kvs∧SqT X.K H3 b (ks.map V.int)∧kvs.length < 1000000∧D.nx σ (upd H3 a (tabO a (tput kvs ks b v)))):=by
 intro pins s σ H D I h
 refine wpAny_Assign_Subscript (thn (hv pins s σ H _ I h) fun r s1 ⟨v,H1,I1,rv,q1⟩=>thn (ho pins s1 σ H1 _ I1 q1) fun u s2 ⟨x,H2,I2,rx,q2⟩=>thn (hi pins s2 σ H2 _ I2 q2) fun iv s3 ⟨y,H3,I3,ry,a,b,kvs,ks,ex,ey,g1,g2,g3,g4,q3⟩=>?_) hs
 subst ex;subst ey
 cases (show u=Value.ref a from rx)
 cases (show iv=Value.ref b from ry)
 exact uO hu I3 g1 g2 g3 rv g4 fun s4 I4=>⟨σ,_,I4,q3⟩
end
def oTIn (m:List (List Int×D))(k:D):R D:=match tupI? k with
 | some k=>.ok (.bl (m.any fun p=>decide (p.1=k)))
 | none=>.stuck
def oTSt (m:List (List Int×D))(k d:D):R (List (List Int×D)):=match tupI? k with
 | some k=>if m.length < 1000000 then .ok (dicPut m k d) else .stuck
 | none=>.stuck
def tabD (m:List (List Int×D)):D:=.tab (m.map (·.1)) (m.map (·.2))
def dTx (d k:D):R D:=match d with
 | .tab ks xs=>match tupI? k with
  | some k=>match dicGet (ks.zip xs) k with
   | some d=>.ok d
   | none=>.stuck
  | none=>.stuck
 | _=>.stuck
def dLenD:List D→R D
 | [.tab ks _]=>.ok (.int (ks.length:Nat))
 | _=>.stuck
structure TabOk (F:Fx)(Z:Hp)(m:List (List Int×D))(kvs:List TKV):Prop where
 ks:kvs.map (·.1)=m.map (·.1)
 at_:KeysAt F.K Z kvs
 vs:Reps F.K F.C Z (m.map (·.2)) (kvs.map (·.2.2))
section
variable {F:Fx}{Z Z':Hp}{m:List (List Int×D)}{kvs:List TKV}{ks:List Int}{d:D}{v:V}{b:Addr}
theorem TabOk.mono (h:TabOk F Z m kvs)(z:Same Z Z'):TabOk F Z' m kvs:=⟨h.ks,fun x hx=>(h.at_ x hx).mono z,h.vs.mono z⟩
theorem TabOk.nil:TabOk F Z [] []:=⟨rfl,(fun x hx=>nomatch hx),Reps.nil⟩
theorem TabOk.cons (h:TabOk F Z m kvs)(hb:SqT F.K Z b (ks.map V.int))(r:Rep F.K F.C Z d v):TabOk F Z ((ks,d)::m) ((ks,b,v)::kvs) :=
 ⟨by rw[List.map_cons,List.map_cons,h.ks],fun x hx=>(List.mem_cons.mp hx).elim (fun z=>by rw[z];exact hb) (h.at_ x),Reps.cons r h.vs⟩
theorem TabOk.inv {k:List Int×D}(h:TabOk F Z (k::m) kvs):∃ b v r,kvs=(k.1,b,v)::r∧SqT F.K Z b (k.1.map V.int)∧Rep F.K F.C Z k.2 v∧TabOk F Z m r:=by
 cases kvs with
 | nil=>have:=h.ks;cases this
 | cons p r =>
  obtain⟨k',b,v⟩:=p
  obtain⟨h1,h2,h3⟩:=h
  rw[List.map_cons,List.map_cons]at h1
  injection h1 with h1 h4
  have q:=h2 _ (.head _)
  obtain⟨r1,r2⟩:=Reps.uncons h3
  cases (show k'=k.1 from h1)
  exact⟨b,v,r,rfl,q,r1,h4,fun x hx=>h2 x (.tail _ hx),r2⟩
theorem TabOk.inv0 (h:TabOk F Z [] kvs):kvs=[]:=by
 cases kvs with
 | nil=>rfl
 | cons p r=>have:=h.ks;cases this
theorem TabOk.any:∀ {m:List (List Int×D)} {kvs:List TKV},TabOk F Z m kvs→(kvs.any fun p=>decide (p.1=ks))=(m.any fun p=>decide (p.1=ks))
 | [],kvs,h=>by rw[h.inv0];rfl
 | k::m,kvs,h=>by
  obtain⟨b,v,r,rfl,_,_,h2⟩:=h.inv
  rw[List.any_cons,List.any_cons,h2.any]
theorem TabOk.len (h:TabOk F Z m kvs):kvs.length=m.length:=by have:=congrArg List.length h.ks;simpa using this
theorem TabOk.get:∀ {m:List (List Int×D)} {kvs:List TKV},TabOk F Z m kvs→dicGet m ks=some d→∃ v,tget kvs ks=some v∧Rep F.K F.C Z d v
 | [],kvs,h,e=>nomatch e
 | k::m,kvs,h,e=>by
  obtain⟨b,v,r,rfl,h0,h1,h2⟩:=h.inv
  unfold dicGet at e
  rw[List.find?_cons]at e
  unfold tget
  rw[List.find?_cons]
  by_cases hk:k.1=ks
  ·rw[decide_eq_true hk]at e
   rw[decide_eq_true (show (k.1,b,v).1=ks from hk)]
   cases e
   exact⟨v,rfl,h1⟩
  ·rw[decide_eq_false hk]at e
   rw[decide_eq_false (show ¬ (k.1,b,v).1=ks from hk)]
   exact h2.get e
theorem TabOk.upd (r:Rep F.K F.C Z d v):∀ {m:List (List Int×D)} {kvs:List TKV},TabOk F Z m kvs→TabOk F Z (m.map fun p=>if p.1=ks then (p.1,d) else p) (kvs.map fun p=>if p.1=ks then (p.1,p.2.1,v) else p)
 | [],kvs,h=>by rw[h.inv0];exact TabOk.nil
 | k::m,kvs,h=>by
  obtain⟨b,u,q,rfl,h0,h1,h2⟩:=h.inv
  rw[List.map_cons,List.map_cons]
  by_cases hk:k.1=ks
  ·rw[if_pos hk,if_pos (show (k.1,b,u).1=ks from hk)]
   exact(h2.upd r).cons h0 r
  ·rw[if_neg hk,if_neg (show ¬ (k.1,b,u).1=ks from hk)]
   obtain⟨k1,k2⟩:=k
   exact(h2.upd r).cons h0 h1
theorem TabOk.snoc (r:Rep F.K F.C Z d v)(hb:SqT F.K Z b (ks.map V.int)):∀ {m:List (List Int×D)} {kvs:List TKV},TabOk F Z m kvs→TabOk F Z (m++[(ks,d)]) (kvs++[(ks,b,v)])
 | [],kvs,h=>by rw[h.inv0];exact TabOk.nil.cons hb r
 | k::m,kvs,h=>by
  obtain⟨b',u,q,rfl,h0,h1,h2⟩:=h.inv
  obtain⟨k1,k2⟩:=k
  exact(h2.snoc r hb).cons h0 h1
theorem TabOk.put (h:TabOk F Z m kvs)(r:Rep F.K F.C Z d v)(hb:SqT F.K Z b (ks.map V.int)):TabOk F Z (dicPut m ks d) (tput kvs ks b v):=by
 unfold dicPut tput
 rw[h.any]
 split
 ·exact h.upd r
 ·exact h.snoc r hb
theorem o5 {α β:Type}:∀ l:List (α×β),(l.map (·.1)).zip (l.map (·.2))=l
 | []=>rfl
 | (a,b)::l=>by rw[List.map_cons,List.map_cons,List.zip_cons_cons,o5 l]
theorem sX {K:PySem.W.Frag}{C:Nat→Addr}{H0 Z0:Hp}{E:XK}{ks:List (List Int)}{xs:List D}(h:Rep K C Z (.tab ks xs) v):∃ a kvs,v=.ref a∧Z a=some (tabO a kvs)∧TabOk ⟨K,C,H0,Z0,E⟩ Z (ks.zip xs) kvs∧ks.length=xs.length:=by
 rw[Rep]at h
 obtain⟨a,kvs,h1,h2,h3,h4,h5⟩:=h
 have l1:=congrArg List.length h3
 have l2:=h5.length
 rw[List.length_map]at l1 l2
 refine⟨a,kvs,h1,h2,⟨?_,h4,?_⟩,by omega⟩
 ·rw[List.map_fst_zip (by omega)];exact h3
 ·rw[List.map_snd_zip (by omega)];exact h5
theorem kT {K:PySem.W.Frag}{C:Nat→Addr}{k:D}{y:V}(e:tupI? k=some ks)(r:Rep K C Z k y):∃ b,y=.ref b∧SqT K Z b (ks.map V.int):=by
 cases k with
 | tup ds =>
  rw[Rep]at r
  obtain⟨a,vs,rfl,h1,h2⟩:=r
  have:=b9 h2 e
  subst this
  exact⟨a,rfl,h1⟩
 | _=>cases e
end
abbrev dt (m:List (List Int×D)):Option Sl:=some (.dit m)
def sTNew (i:Nat):SS→O:=fun S=>.nx (S.set i (some (.dit [])))
def eTIn (i:Nat)(g:SS→R D):SS→R D:=fun S=>(g S).bind fun k=>match S[i]? with
 | some (some (.dit m))=>oTIn m k
 | _=>.stuck
def sTSt (i:Nat)(gi ge:SS→R D):SS→O:=fun S=>match S[i]? with
 | some (some (.dit m))=>rO (((ge S).bind fun v=>(gi S).bind fun k=>oTSt m k v).bind fun m'=>.ok (.nx (S.set i (some (.dit m')))))
 | _=>.stuck
section
variable {F:Fx}{H Z:Hp}{S:SS}{σ:St}
theorem StOk.dit (h:StOk F H Z S σ)(i:Nat)(m:List (List Int×D))(e:S[i]?=some (some (.dit m))):∃ a kvs,σ[i]?=some (some (.ref a))∧H a=some (tabO a kvs)∧TabOk F Z m kvs:=by
 obtain⟨v,A,e1,⟨a,kvs,rfl,rfl,e2,r1,r2,r3⟩,_⟩:=h.sl i _ e
 exact⟨a,kvs,e1,e2,r1,r2,r3⟩
theorem StOk.freezeT (h:StOk F H Z S σ){i:Nat}{m:List (List Int×D)}(e:S[i]?=some (some (.dit m))):∃ Z',Same Z Z'∧StOk F H Z' (S.set i (some (.val (tabD m)))) σ:=by
 obtain⟨v,A,e1,o,p⟩:=h.sl i _ e
 obtain⟨a,kvs,rfl,rfl,e2,r1,r2,r3⟩:=id o
 have za:Z a=none:=p.z a (.head _)
 have hz:Same Z (upd Z a (tabO a kvs)):=aJ za
 refine⟨upd Z a (tabO a kvs),hz,h.frzAll (x:=.dit m) (d:=tabD m) e e1 o hz (fun b q eb=>?_) (fun b hb=>?_) ?_⟩
 ·by_cases c:b=a
  ·subst c;rw[ar]at eb;cases eb;exact e2
  ·rw[ak c]at eb;exact h.sub b q eb
 ·by_cases c:b=a
  ·subst c;exact .inr (.head _)
  ·rw[ak c]at hb;exact .inl hb
 ·unfold tabD
  rw[Rep]
  exact⟨a,kvs,rfl,ar,r1,fun x hx=>(r2 x hx).mono hz,r3.mono hz⟩
end
section
variable {X:Cx}{F:Fx}{pos p p0:Pos}{k:Nat}{g ge:SS→R D}{e ei:Expr}{x:Str}
theorem uQ (i:Nat){pos':Pos}(hN:X.N.Nodup)(hi:X.N[i]?=some x:=by rfl)(hx:Loc X.env.scope x:=by first | exact Or.inl rfl | exact Or.inr rfl)(hs:swapsWith (.Dict [] [] p) (some (.Name x pos')) pos.line X.env=pure false:=by rfl)
  (hf:X.fn x=true∨X.env.scope.names.lookup x=some .local:=by first | exact .inl rfl | exact .inr rfl):FS X F (.Assign [.Name x pos'] (.Dict [] [] p) pos) (sTNew i) :=
 (qS hN hi hx yZ hs hf).weak fun D σ H ⟨Z,S,ok,w⟩=>fun a hp=>by
  have w2:WO F Z (.nx (S.set i (some (.dit [])))) D:=w
  exact w2 _ _ Z (Same.refl _) (ok.putNew (x:=.dit []) (A:=[a]) (Ex.hidden ok.sub hp) ⟨a,[],rfl,rfl,ar,rfl,(fun x hx=>nomatch hx),Reps.nil⟩ ⟨by simp,fun b hb=>by cases List.mem_singleton.mp hb;exact ok.sub.free hp,fun b hb=>by cases List.mem_singleton.mp hb;exact ok.ex.same.free hp⟩ fun b hb=>by cases List.mem_singleton.mp hb;exact hp)
theorem sY (i:Nat)(hK:X.K=F.K):∀ σ H Q,tE F (eTIn i g) σ H Q→tOp (rTIn X.K) (tE F g) (tVar i) σ H Q:=fun σ H Q ⟨Z,S,ok,w⟩=>by
 refine aM ok w fun d y H1 Z1 ok1 x1 ry w1=>?_
 split at w1
 ·rename_i m e0
  obtain⟨a,kvs,e1,e2,r⟩:=ok1.dit i m e0
  unfold oTIn at w1
  split at w1
  ·rename_i ks ek
   obtain⟨b,rfl,hb⟩:=kT ek ry
   refine⟨.ref a,e1,a,b,kvs,ks,rfl,rfl,e2,by rw[hK];exact fun x hx=>(r.at_ x hx).mono ok1.sub,by rw[hK];exact hb.mono ok1.sub,?_⟩
   rw[r.any]
   exact WG.now w1 ok1.sub _ aR
  ·exact w1.elim
 ·exact w1.elim
theorem Bx (i:Nat)(bx:BX X F k)(he:FE X F e g)(hm:behindInMarks .In (.Name x p0)=false:=by rfl)(hi:X.N[i]?=some x:=by rfl)(hv:Vis X.env.scope x:=by first | exact Or.inl rfl | exact Or.inr (Or.inl rfl) | exact Or.inr (Or.inr rfl))(hd:(x==("__debug__":Str))=false:=by decide)
  (hcd:(x==("__classdict__":Str))=false:=by decide):FE X F (.Compare e [.In] [.Name x p0] pos) (eTIn i g) :=
 (sy (wV (X:=X) (by have:=bx.room.un;omega)) he (iY hi hv hd hcd) hm).weak (sY i bx.K)
theorem wW (i:Nat)(bx:BX X F k)(he:FE X F e g)(hm:behindInMarks .In (.Name x p0)=false:=by rfl)(hi:X.N[i]?=some x:=by rfl)(hv:Vis X.env.scope x:=by first | exact Or.inl rfl | exact Or.inr (Or.inl rfl) | exact Or.inr (Or.inr rfl))(hd:(x==("__debug__":Str))=false:=by decide)
  (hcd:(x==("__classdict__":Str))=false:=by decide):FT X F (.Compare e [.In] [.Name x p0] pos) (gB (eTIn i g)) :=
 (sA (wV (X:=X) (by have:=bx.room.un;omega)) he (iY hi hv hd hcd) hm).weak (sC (sY i bx.K))
theorem wX (i:Nat){pos':Pos}(bx:BX X F k)(he:FE X F e ge)(hix:FE X F ei g)(hi:X.N[i]?=some x:=by rfl)(hv:Vis X.env.scope x:=by first | exact Or.inl rfl | exact Or.inr (Or.inl rfl) | exact Or.inr (Or.inr rfl))(hd:(x==("__debug__":Str))=false:=by decide)
  (hcd:(x==("__classdict__":Str))=false:=by decide) (hs:swapsWith e (some (.Subscript (.Name x p0) ei pos')) pos.line X.env=pure false:=by rfl) :
  FS X F (.Assign [.Subscript (.Name x p0) ei pos'] e pos) (sTSt i g ge) :=
 (y4 (X:=X) (by have:=bx.room.un;omega) (iY hi hv hd hcd) hix he hs).weak fun D σ H ⟨Z,S,ok,w⟩=>by
  unfold sTSt at w
  split at w
  ·rename_i m e0
   have w0:=WO.wg ok w
   rw[R.bind_assoc]at w0
   refine aM ok w0 fun d v H1 Z1 ok1 x1 rv w1=>?_
   obtain⟨a,kvs,e1,e2,r⟩:=ok1.dit i m e0
   rw[R.bind_assoc]at w1
   refine⟨.ref a,e1,aM ok1 w1 fun dk y H2 Z2 ok2 x2 ry w2=>?_⟩
   unfold oTSt at w2
   split at w2
   ·rename_i ks ek
    split at w2
    ·rename_i hl
     obtain⟨b,rfl,hb⟩:=kT ek ry
     have e3:=x2.same _ _ e2
     have r2:=r.mono x2.z
     have rp:=r2.put (rv.mono x2.z) hb
     refine⟨a,b,kvs,ks,rfl,rfl,e3,by rw[bx.K];exact fun x hx=>(r2.at_ x hx).mono ok2.sub,by rw[bx.K];exact hb.mono ok2.sub,by rw[r2.len];exact hl,?_⟩
     have w3:=WG.now w2 ok2.sub
     exact w3 σ _ Z2 (Same.refl _) (ok2.rewr (x:=.dit m) (x':=.dit (dicPut m ks d)) (A:=[a]) e0 e1 ⟨a,kvs,rfl,rfl,e3,r2.ks,r2.at_,r2.vs⟩ ⟨a,_,rfl,rfl,ar,rp.ks,rp.at_,rp.vs⟩ fun b hb=>ak (fun z=>hb (by rw[z];exact List.mem_singleton.mpr rfl)))
    ·exact w2.elim
   ·exact w2.elim
  ·exact w.elim
theorem wY (bx:BX X F k){o:Expr}{go:SS→R D}(ho:FE X F o go)(he:FE X F e g)(hs:NoSl e:=by intro _ _;rfl):FE X F (.Subscript o e pos) (eOp dTx go g) :=
 (y3 (X:=X) (by have:=bx.room.un;omega) ho he hs).weak fun σ H Q ⟨Z,S,ok,w⟩=>by
  refine aM ok w fun d x H1 Z1 ok1 x1 rx w1=>aM ok1 w1 fun dk y H2 Z2 ok2 x2 ry w2=>?_
  cases d with
  | tab ks xs =>
   obtain⟨a,kvs,rfl,ez,r,_⟩:=sX (H0:=F.H0) (Z0:=F.Z0) (E:=F.E) rx
   have w3:WG F H2 Z2 (match tupI? dk with | some k=>(match dicGet (ks.zip xs) k with | some d=>R.ok d | none=>R.stuck) | none=>R.stuck) fun d H' Z'=>∀ v,Rep F.K F.C Z' d v→Q v H':=w2
   cases ek:tupI? dk with
   | none=>rw[ek]at w3;exact w3.elim
   | some kk =>
    rw[ek]at w3
    cases ed:dicGet (ks.zip xs) kk with
    | none=>simp only[ed]at w3;exact w3.elim
    | some d' =>
     simp only[ed]at w3
     obtain⟨b,rfl,hb⟩:=kT ek ry
     have r2:=r.mono x2.z
     obtain⟨v,f1,f2⟩:=r2.get ed
     exact⟨a,b,kvs,kk,v,rfl,rfl,ok2.sub _ _ (x2.z _ _ ez),by rw[bx.K];exact fun x hx=>(r2.at_ x hx).mono ok2.sub,by rw[bx.K];exact hb.mono ok2.sub,f1,WG.now w3 ok2.sub v f2⟩
  | _=>exact w2.elim
theorem uR (hK:X.K=F.K):CallR X (.builtin "len") (fun xs H Q=>∃ a kvs,xs=[.ref a]∧H a=some (tabO a kvs)∧KeysAt F.K H kvs∧Q (.int (kvs.length:Nat)) H):=by
 intro pins s σ H xs us Q I r h
 obtain⟨a,kvs,rfl,g1,g2,q⟩:=h
 obtain⟨u,rfl,ru⟩:=vals1 r
 cases ru
 exact Bw I g1 (by rw[hK];exact g2) fun t s' I'=>⟨.int (kvs.length:Nat),H,I',⟨t,rfl⟩,q⟩
theorem uS {gs:SS→R (List D)}(bx:BX X F k)(hg:Gl X "len")(hm:X.mg "len"=none)(ha:FA X F [e] gs)(he:starEach [e] X.env=(false,eval e X.env)::starEach [] X.env:=by rfl)(hpl:(backTo pos (starEach [] X.env)).any (·.1)=false:=by rfl) :
  FE X F (.Call (.Name "len" p) [e] [] pos) (eCall dLenD gs) :=
 (ft (uR bx.K) hg hm (by decide +kernel) ha (he:=he) (hpl:=hpl)).weak fun σ H Q ⟨Z,S,ok,w⟩=>by
  refine aS ok w fun ds vs H1 Z1 ok1 x1 rs w1=>?_
  unfold dLenD at w1
  split at w1
  ·rename_i ks xs
   obtain⟨v,rfl,h⟩:=a9 rs
   obtain⟨a,kvs,rfl,ez,r,hl⟩:=sX (H0:=F.H0) (Z0:=F.Z0) (E:=F.E) h
   have hkl:kvs.length=ks.length:=by rw[r.len,List.length_zip];omega
   refine⟨a,kvs,rfl,ok1.sub _ _ ez,fun x hx=>(r.at_ x hx).mono ok1.sub,?_⟩
   rw[hkl]
   exact WG.now w1 ok1.sub _ aO
  ·exact w1.elim
end
section
variable {σ:Type}{X:Cx}{F:Fx}{S:SS}{J:σ→SS→Prop}
theorem y6 (i:Nat){m:List (List Int×D)}{S':SS}{sts:List Stmt}{l:L σ}(hi:S[i]?=some (some (.dit m)))(hS:S.set i (some (.val (tabD m)))=S')(h:FL X F S' sts J l):FL X F S sts J l :=
 h.weak fun D ρ H ⟨Z,ok,w⟩=>by
  obtain⟨Z',z,ok'⟩:=ok.freezeT hi
  rw[hS]at ok'
  exact⟨Z',ok',WL.more w z⟩
end
section
variable {X:Cx}{F:Fx}
variable {σ':Type}{S:SS}{st:Stmt}{rest:List Stmt}{J:σ'→SS→Prop}
end
section
variable {X:Cx}{G:Gx}{W:Wd}{S:SS}{a b e:Expr}{es:List Expr}{st:Stmt}{rest:List Stmt}{α σ τ V':Type}{J:σ→SS→Prop}{k:Nat}{r:RW}{pos pos':Pos}
end
section
variable {X:Cx}{G:Gx}{W:Wd}{S:SS}{τ V':Type}{k:Nat}{tg iter:Expr}{body:List Stmt}{pos:Pos}{git:SS→R (List D)}{inj:τ→V'→SS}{step:Wd→τ→D→LW τ}
end
def spR (K:PySem.W.Frag)(C:Nat→Addr)(n:Nat)(f:Wd→List D→R D):Sp:=fun vs H Q E =>
 vs.length=n∧∃ W Z ds,Same Z H∧WdOk K C H Z W∧Reps K C Z ds vs∧WG ⟨K,C,H,Z,E⟩ H Z (f W ds) fun d H' Z'=>∀ v,Rep K C Z' d v→Q v H'
structure MeR (P:Program)(w:World)(K:PySem.W.Frag)(mg:Str→Option Value)(base:Heap)(C:Nat→Addr)(k:Nat)(c:Nat)(m:Str)(f:Wd→List D→R D):Prop where
 ex:∃ a fd x,FnOk P w K mg base (CXE P w) k a fd [x] (spR K C 1 f)∧Meth K (C c) m a∧Binds K fd [x] []
 cls:Cls K (C c)
section
variable {X:Cx}{F:Fx}{W:Wd}{c k:Nat}{m:Str}{o:Expr}{go:SS→R D}{f:Wd→List D→R D}{pos apos:Pos}
end
def OkG (P:Program)(w:World)(K:PySem.W.Frag)(mg:Str→Option Value)(base:Heap)(C:Nat→Addr)(k:Nat)(x qual:Str)(st:Stmt)(ps:List Str)(fn:Wd→List D→RW):Prop :=
 ∀ {f:Addr} {fd:FuncData},Fun K x qual st f fd→FnOk P w K mg base (CXE P w) (k+1) f fd ps (spG K C ps.length fn)
def OkR (P:Program)(w:World)(K:PySem.W.Frag)(mg:Str→Option Value)(base:Heap)(C:Nat→Addr)(k:Nat)(x qual:Str)(st:Stmt)(p:Str)(fn:Wd→List D→R D):Prop :=
 ∀ {f:Addr} {fd:FuncData},Fun K x qual st f fd→FnOk P w K mg base (CXE P w) (k+1) f fd [p] (spR K C 1 fn)
def b1 (k:Wd→D→LW Unit):Wd→List D→RW
 | W,[a]=>outW (k W a)
 | _,_=>.stuck
def b2 (k:Wd→D→D→LW Unit):Wd→List D→RW
 | W,[a,b]=>outW (k W a b)
 | _,_=>.stuck
def b3 (k:Wd→D→D→D→LW Unit):Wd→List D→RW
 | W,[a,b,c]=>outW (k W a b c)
 | _,_=>.stuck
def b4 (k:Wd→D→D→D→D→LW Unit):Wd→List D→RW
 | W,[a,b,c,d]=>outW (k W a b c d)
 | _,_=>.stuck
def b5 (k:Wd→D→D→D→D→D→LW Unit):Wd→List D→RW
 | W,[a,b,c,d,e]=>outW (k W a b c d e)
 | _,_=>.stuck
def r1 (k:Wd→D→L Unit):Wd→List D→R D
 | W,[a]=>outL (k W a)
 | _,_=>.stuck
section
variable {P:Program}{w:World}{K:PySem.W.Frag}{mg:Str→Option Value}{base:Heap}{C:Nat→Addr}{k:Nat}{N ps:List Str}{x qual:Str}{st:Stmt}
theorem jg {f:Addr}{fd:FuncData}{n:Nat}:FnOk P w K mg base (CXE P w) k f fd ps (spG K C n fun _ _=>.stuck) :=
 ⟨fun vs H Q E h=>by obtain⟨_,_,_,_,_,_,_,_,_,_,z⟩:=h;exact z.elim,fun A outer s H args us vs Q E _ _ _ _ h=>by obtain⟨_,_,_,_,_,_,_,_,_,_,z⟩:=h;exact z.elim⟩
theorem uT {f:Addr}{fd:FuncData}{n:Nat}:FnOk P w K mg base (CXE P w) k f fd ps (spR K C n fun _ _=>.stuck) :=
 ⟨fun vs H Q E h=>by obtain⟨_,_,_,_,_,_,_,z⟩:=h;exact z.elim,fun A outer s H args us vs Q E _ _ _ _ h=>by obtain⟨_,_,_,_,_,_,_,z⟩:=h;exact z.elim⟩
structure Md (K:PySem.W.Frag)(C:Nat→Addr)(c:Nat)(m qual:Str)(ps:List Str)(st:Stmt):Prop where
 ex:∃ a fd,Fun K m qual st a fd∧Meth K (C c) m a∧Binds K fd ps []
structure Kl (K:PySem.W.Frag)(mg:Str→Option Value)(C:Nat→Addr)(c:Nat)(x qual:Str)(ps:List Str)(st:Stmt):Prop where
 ex:∃ a fd,Fun K "__init__" qual st a fd∧Mk K (C c) a∧mg x=some (.ref (C c))∧Binds K fd ps []
 cls:Cls K (C c)
variable {c:Nat}{m:Str}{fn:Wd→List D→RW}{fr:Wd→List D→R D}{p:Str}
theorem w0 (F:Fd K mg x ps st):FnW P w K mg base C 0 x ps (fun _ _=>.stuck):=by obtain⟨a,fd,F,h,b⟩:=F.ex;exact⟨a,fd,jg,h,F.kp,b⟩
theorem w1 (F:Fd K mg x ps st)(ok:OkG P w K mg base C k x x st ps fn):FnW P w K mg base C (k+1) x ps fn:=by obtain⟨a,fd,F,h,b⟩:=F.ex;exact⟨a,fd,ok F,h,F.kp,b⟩
theorem m0 (F:Md K C c m qual ps st):MeW P w K mg base C 0 c m ps (fun _ _=>.stuck):=by obtain⟨a,fd,F,h,b⟩:=F.ex;exact⟨a,fd,jg,h,b⟩
theorem m1 (F:Md K C c m qual ps st)(ok:OkG P w K mg base C k m qual st ps fn):MeW P w K mg base C (k+1) c m ps fn:=by obtain⟨a,fd,F,h,b⟩:=F.ex;exact⟨a,fd,ok F,h,b⟩
theorem e0 (F:Md K C c m qual [p] st)(cl:Cls K (C c)):MeR P w K mg base C 0 c m (fun _ _=>.stuck):=by obtain⟨a,fd,F,h,b⟩:=F.ex;exact⟨⟨a,fd,p,uT,h,b⟩,cl⟩
theorem e1 (F:Md K C c m qual [p] st)(cl:Cls K (C c))(ok:OkR P w K mg base C k m qual st p fr):MeR P w K mg base C (k+1) c m fr:=by obtain⟨a,fd,F,h,b⟩:=F.ex;exact⟨⟨a,fd,p,ok F,h,b⟩,cl⟩
theorem n0 (F:Kl K mg C c x qual ps st):MkW P w K mg base C 0 c x ps (fun _ _=>.stuck):=by obtain⟨a,fd,F1,h,h2,b⟩:=F.ex;exact⟨⟨a,fd,jg,h,h2,b⟩,F.cls⟩
theorem n1 (F:Kl K mg C c x qual ps st)(ok:OkG P w K mg base C k "__init__" qual st ps fn):MkW P w K mg base C (k+1) c x ps fn:=by obtain⟨a,fd,F1,h,h2,b⟩:=F.ex;exact⟨⟨a,fd,ok F1,h,h2,b⟩,F.cls⟩
end
section
variable {X:Cx}{G:Gx}{W:Wd}{S:SS}{a b o e oe ie:Expr}{st:Stmt}{rest:List Stmt}{σ:Type}{J:σ→SS→Prop}{r0 r:RW}{pos pos':Pos}{k:Nat}{gb go gi:SS→R D}
end
section
variable {X:Cx}{F:Fx}{W:Wd}{c k:Nat}{m:Str}{o e:Expr}{es:List Expr}{go:SS→R D}{gs:SS→R (List D)}{f:Wd→List D→R D}{ps:List Str}{pos apos:Pos}
end
section
variable {X:Cx}{G:Gx}{W:Wd}{S:SS}{k:Nat}{x:Str}{ps:List Str}{f:Wd→List D→RW}{p pos:Pos}{c:Nat}
end
section
variable {X:Cx}{G:Gx}{W:Wd}{S:SS}{oe e:Expr}{go:SS→R D}{gs:SS→R (List D)}{apos cpos:Pos}
end
def r2 (k:Wd→D→D→L Unit):Wd→List D→R D
 | W,[a,b]=>outL (k W a b)
 | _,_=>.stuck
def r3 (k:Wd→D→D→D→L Unit):Wd→List D→R D
 | W,[a,b,c]=>outL (k W a b c)
 | _,_=>.stuck
section
variable {P:Program}{w:World}{K:PySem.W.Frag}{mg:Str→Option Value}{base:Heap}{C:Nat→Addr}{k:Nat}{N ps:List Str}{x qual:Str}{st:Stmt}
variable {c:Nat}{m:Str}{fr:Wd→List D→R D}
end
section
variable {X:Cx}{G:Gx}{W:Wd}{S:SS}{a b:Expr}{r:RW}{gb:SS→R D}{pos:Pos}{k:Nat}
end
section
variable {P:Program}{w:World}{K:PySem.W.Frag}{mg:Str→Option Value}{base:Heap}{N:List Str}{qual:Str}{scope:Scope}{f:Addr}{cd:Value}{cl:List (Str×Addr)}{A:Around}{outer:List Env}{s0:Shared}{H0:Hp}{E:XK}
end
end FF
namespace L2
open PySem PySem.Spec PyProof.Rows
structure RoomH (k:Nat)(A:Around):Prop where
 dp:A.depth+3*k+3 < recursionLimit
 un:A.units+16*k+190 < cLine
theorem RoomH.deeper {k:Nat}{A:Around}(r:RoomH (k+1) A)(env:Env):RoomH k (A.deeper env) :=
 ⟨by have:=r.dp;show A.depth+1+3*k+3 < _;omega,by have:=r.un;show A.units+3+16*k+190 < _;omega⟩
theorem RoomH.depth {k:Nat}{A:Around}(r:RoomH k A):A.depth < recursionLimit:=by have:=r.dp;omega
end L2
end
noncomputable section
namespace FF
open PySem PySem.Spec PyProof.Rows L2
section
variable {X:Cx}{pins:List (Addr×Obj)}{σ:St}{H:Hp}{s:Shared}{qual:Str}{params:Arguments}{scope:Scope}{body:Expr}{N:List Str}{f:Addr}{vs:List V}
end
def CodeK (K:PySem.W.Frag)(c P:Addr):Prop :=
 ∃ o vs file tf flags tg inF text tt,K.lookup c=some o∧o.cls=.type "code" ∧ o.data=.fields vs∧vs[11]?=some (.ref P)∧vs.getD 11 .none=.ref P∧vs.getD 18 .none=.str file tf ∧
  vs.getD 7 .none=.int flags tg∧vs.getD 9 .none=.bool inF∧vs.getD 10 .none=.int text tt∧c≠P
theorem CodeK.hd {K:PySem.W.Frag}{c P:Addr}{h:Heap}(x:CodeK K c P)(k:K.In h):PySem.W.CodeHd h c P :=
 let ⟨o,vs,file,tf,flags,tg,inF,text,tt,e,r⟩:=x;⟨o,vs,file,tf,flags,tg,inF,text,tt,k _ _ e,r⟩
def BMn (mg:Str→Option Value)(base:Heap):Prop:=∃ bm ob,mg "__builtins__"=some (.ref bm)∧bm≠builtinsNs∧base.get? bm=some ob∧ob.cls=.type "module" ∧ ob.dict=some builtinsNs∧ob.data=.plain
structure LamX (X:Cx)(K:PySem.W.Frag)(C:Nat→Addr)(i:Nat):Prop where
 lt:i < C 900
 q:qOf K (C (902+2*i))=X.env.qual ++ "<lambda>"
 cd:∃ c,X.env.code=.ref c∧CodeK K c (C (901+2*i))
 bm:BMn X.mg X.base
 inj:∀ j,j < C 900→C (901+2*j)=C (901+2*i)→j=i
theorem uU {pos:Pos}(m:List Value)(l:List Value)(h:TriplesOk l):codeAmong pos (l++m)=(codeAmong pos l).or (codeAmong pos m):=by
 fun_induction TriplesOk l with
 | case1=>simp[codeAmong]
 | case2 a t b u x rest ih =>
  simp only[List.cons_append,codeAmong]
  grind
 | case3 l h1 h2=>exact h.elim
section
variable {X:Cx}{G:Gx}{W:Wd}{HW Z H:Hp}{S:SS}{ρ:St}{pins:List (Addr×Obj)}{s:Shared}{params:Arguments}{scope:Scope}{body:Expr}{lpos:Pos}{clos:List (Str×Addr)}
theorem AD {Q:Value→Shared→Prop}(i:Nat)(I:Inv X pins ρ H s)(ok:GOk G W HW Z H S ρ)(hK:X.K=G.K)(lx:LamX X G.K G.C i)(hcl:closureFor scope X.env=pure clos)(hdef:defaultsOf params X.env=([],[]))
  (h:∀ f c ctv oc ws t pm s1 H1 HW1,Inv X pins ρ H1 s1→GX HW Z H HW1 Z H1→WdOk G.K G.C HW1 Z W→H1 f=some (.frz (PySem.W.kla_obj "<lambda>" (X.env.qual ++ "<lambda>") params body scope clos pm c ctv) (.own 0)) →
   H1 c=some (.frz oc (.own 0))→oc.data=.fields ws→ws[1]?=some (.str (X.env.qual ++ "<lambda>") t)→Q (.ref f) s1) :
  wpAny (model X.prog X.w) X.A (eval (.Lambda params body scope lpos) X.env) Q X.xe s:=by
 obtain⟨c,hcode,ck⟩:=lx.cd
 obtain⟨ps,hP,tp,hits⟩:=ok.wd.tb i lx.lt
 rw[lx.q]at hits
 have tbo:=ok.wd.tb
 have q0:=lx.q
 generalize hPe:G.C (901+2*i)=P at hP ck
 have hP':=ok.wh _ _ hP
 have heP:=I.hok P _ hP'
 have CH:=ck.hd (hK ▸ I.kIn)
 have hg:=I.ok.mod.glob.keeps I.bk
 have hbs:∀ b o,X.base.get? b=some o→b≠P:=fun b o e z=>by
  have:=(I.bs b o e).2
  rw[z,hP']at this;cases this
 have hgP:mainGlobals≠P:=by obtain⟨o,es,ep,e,_⟩:=I.ok.mod.glob;exact hbs _ _ e
 obtain⟨bm,ob,b1,b2,b3,b4,b5,b6⟩:=lx.bm
 have hbG:bm≠mainGlobals:=fun q=>by
  obtain⟨o,es,ep,e,hd,_⟩:=I.ok.mod.glob
  rw[q,e]at b3;cases b3;rw[hd]at b6;cases b6
 have hb:s.heap.BuiltinsAt X.mg P:=⟨bm,ob,b1,b2,hbG,hbs _ _ b3,I.bk _ _ b3,b4,b5,b6⟩
 refine PySem.W.kla_eval hdef ?_
 cases hq:codeAmong lpos ps.toList with
 | some cv =>
  obtain⟨c',oc,ws,t,rfl,hc',d1,d2⟩:=hits lpos cv hq
  refine PySem.W.kla_makeFunctionHit hcl I.ok.glob hg hcode CH heP tp hq hb fun ctv h' tk hk hsz=>?_
  have hf:=I.hok.fresh hsz
  have hcH:=ok.wh _ _ hc'
  refine h _ c' ctv oc ws t _ _ _ HW (I.laid (o:=.frz (PySem.W.kla_obj "<lambda>" (X.env.qual ++ "<lambda>") params body scope clos ((X.mg "__name__").getD .none) c' ctv) (.own 0)) (fun b u e=>Heap.get?_push_of_some _ (hk b u e)) hsz ⟨Heap.get?_push_size _ rfl,⟨_,Heap.get?_push_size _ rfl⟩⟩) ?_ ok.wd ar ?_ d1 d2
  ·exact ok.ex ⟨fun b u e=>by rw[ak (aQ e hf)];exact e,Same.refl _,fun b u e=>by have e1:=ok.zh b u e;rw[ak (aQ e1 hf)];exact e1,fun _ q=>.inl q⟩
  ·rw[ak (aQ hcH hf)];exact hcH
 | none =>
  refine PySem.W.kla_makeFunction hcl I.ok.glob hg hcode CH heP tp hq hgP hb fun c' ctv h' tk hx hge hlt hrec htb=>?_
  obtain⟨c2,oc,ws,t,ec,hoc,d1,d2⟩:=hrec
  cases ec
  have hszf:=Nat.le_trans hge (Nat.le_of_lt hlt)
  have hc0:H c'=none:=I.hok.fresh hge
  have hf0:=I.hok.fresh hszf
  have ncf:=Nat.ne_of_lt hlt
  have ncP:P≠c':=aQ hP' hc0
  have nfP:=aQ hP' hf0
  let fo:HO:=.frz (PySem.W.kla_obj "<lambda>" (X.env.qual ++ "<lambda>") params body scope clos ((X.mg "__name__").getD .none) c' ctv) (.own 0)
  let H1:Hp:=upd (upd (upd H P (.tbl (ps++#[rawInt lpos.line,rawInt lpos.col,.ref c']))) c' (.frz oc (.own 0))) h'.objs.size fo
  let HW1:Hp:=upd (upd HW P (.tbl (ps++#[rawInt lpos.line,rawInt lpos.col,.ref c']))) c' (.frz oc (.own 0))
  have a1:H1 h'.objs.size=some fo:=ar
  have a2:H1 c'=some (.frz oc (.own 0)):=by show upd _ _ _ c'=_;rw[ak ncf,ar]
  have a3:H1 P=some (.tbl (ps++#[rawInt lpos.line,rawInt lpos.col,.ref c'])):=by show upd _ _ _ P=_;rw[ak nfP,ak ncP,ar]
  have a4:∀ b,b≠P→H b≠none→H1 b=H b:=fun b h1 h2=>by
   show upd _ _ _ b=_
   rw[ak (fun z=>h2 (by rw[z];exact hf0)),ak (fun z=>h2 (by rw[z];exact hc0)),ak h1]
  have w2:HW1 c'=some (.frz oc (.own 0)):=ar
  have w3:HW1 P=some (.tbl (ps++#[rawInt lpos.line,rawInt lpos.col,.ref c'])):=by show upd _ _ _ P=_;rw[ak ncP,ar]
  have wc0:=ok.wh.free hc0
  have w4:∀ b,b≠P→HW b≠none→HW1 b=HW b:=fun b h1 h2=>by
   show upd _ _ _ b=_
   rw[ak (fun z=>h2 (by rw[z];exact wc0)),ak h1]
  have g1:∀ b o,b≠P→s.heap.get? b=some o→(h'.push (PySem.W.kla_obj "<lambda>" (X.env.qual ++ "<lambda>") params body scope clos ((X.mg "__name__").getD .none) c' ctv)).get? b=some o:=fun b o hb e=>Heap.get?_push_of_some _ (hx b o hb e)
  have nP:∀ b,H b=none→b≠P:=fun b n z=>by rw[z,hP']at n;cases n
  have nsz:∀ b o,s.heap.get? b=some o→b≠c'∧b≠h'.objs.size:=fun b o e=>⟨Nat.ne_of_lt (Nat.lt_of_lt_of_le (Heap.lt_size e) hge),Nat.ne_of_lt (Nat.lt_of_lt_of_le (Heap.lt_size e) hszf)⟩
  have un:Un X.fs [] H H1 s.heap (h'.push (PySem.W.kla_obj "<lambda>" (X.env.qual ++ "<lambda>") params body scope clos ((X.mg "__name__").getD .none) c' ctv)):=by
   refine⟨fun b o e n _ _=>g1 b o (nP b n) e,fun b o e n _ _=>⟨o.slots,g1 b o (nP b n) e⟩,fun b o e n _=>?_,fun b o e _=>?_,fun b xs e=>?_,fun b o u e=>?_,fun b qs e=>?_⟩
   ·show upd _ _ _ b=_
    rw[ak (nsz b o e).2,ak (nsz b o e).1,ak (nP b n)];exact n
   ·by_cases hb:b=P
    ·exact⟨_,by rw[hb];exact Heap.get?_push_of_some _ htb⟩
    ·exact⟨o,g1 b o hb e⟩
   ·rw[a4 b (fun z=>by rw[z,hP']at e;cases e) (by rw[e];simp)];exact e
   ·rw[a4 b (fun z=>by rw[z,hP']at e;cases e) (by rw[e];simp)];exact e
   ·by_cases hb:b=P
    ·subst hb;rw[hP']at e;cases e;exact⟨_,a3⟩
    ·exact⟨#[],by rw[a4 b hb (by rw[e];simp),e];simp⟩
  have hok:HOk X.prog X.w H1 (h'.push (PySem.W.kla_obj "<lambda>" (X.env.qual ++ "<lambda>") params body scope clos ((X.mg "__name__").getD .none) c' ctv)):=fun b u e=>by
   by_cases hb1:b=h'.objs.size
   ·subst hb1;rw[a1]at e;cases e
    exact⟨Heap.get?_push_size _ rfl,⟨_,Heap.get?_push_size _ rfl⟩⟩
   ·by_cases hb2:b=c'
    ·subst hb2;rw[a2]at e;cases e
     exact⟨Heap.get?_push_of_some _ hoc,⟨_,Heap.get?_push_of_some _ hoc⟩⟩
    ·by_cases hb3:b=P
     ·subst hb3;rw[a3]at e;cases e
      exact Heap.get?_push_of_some _ htb
     ·have e0:H b=some u:=by
       have:H1 b=H b:=by show upd _ _ _ b=_;rw[ak hb1,ak hb2,ak hb3]
       rw[← this];exact e
      refine(I.hok b u e0).stay (fun d v hd q=>g1 d v ?_ q) (fun d q=>?_) fun d xs q=>?_
      ·rcases hd with z | z
       ·rw[z];exact hb3
       ·intro z2;rw[z2,hP']at z;cases z
      ·rw[a4 d (fun z=>by rw[z,hP']at q;cases q) (by rw[q];simp)];exact q
      ·rw[a4 d (fun z=>by rw[z,hP']at q;cases q) (by rw[q];simp)];exact q
  have gx:GX HW Z H HW1 Z H1:=by
   refine⟨fun b o n e=>?_,Same.refl _,fun b o e=>?_,fun b o e=>?_,fun b n=>?_,fun b n=>?_,fun b n=>.inl n,fun b n=>?_⟩
   ·rw[a4 b (fun z=>by rw[z,hP]at n;cases n) (by rw[e];simp)];exact e
   ·have e1:=ok.zh b o e
    rw[a4 b (fun z=>by rw[z]at e;rw[ok.gx.dj P (cq hP)]at e;cases e) (by rw[e1];simp)];exact e1
   ·by_cases hb:b=P
    ·subst hb;rw[w3]at e;rw[a3];exact e
    ·by_cases hb2:b=c'
     ·subst hb2;rw[w2]at e;rw[a2];exact e
     ·have e0:HW b=some o:=by
       have:HW1 b=HW b:=by show upd _ _ _ b=_;rw[ak hb2,ak hb]
       rw[← this];exact e
      have e1:=ok.wh b o e0
      rw[a4 b hb (by rw[e1];simp)];exact e1
   ·by_cases hb:b=P
    ·rw[hb,w3];simp
    ·rw[w4 b hb n];exact n
   ·by_cases hb:b=P
    ·exact .inl (by rw[hb,hP];simp)
    ·by_cases hb2:b=c'
     ·exact .inr (by rw[hb2];exact hc0)
     ·have:HW1 b=HW b:=by show upd _ _ _ b=_;rw[ak hb2,ak hb]
      rw[this]at n;exact .inl n
   ·by_cases hb:b=P
    ·rw[hb];exact ok.gx.dj P (cq hP)
    ·by_cases hb2:b=c'
     ·rw[hb2];exact ok.zh.free hc0
     ·have:HW1 b=HW b:=by show upd _ _ _ b=_;rw[ak hb2,ak hb]
      rw[this]at n;exact ok.gx.dj b n
  have keepW:∀ b u,HW b=some u→(∀ qs,u≠.tbl qs)→HW1 b=some u:=fun b u e hn=>by
   rw[w4 b (fun z=>by rw[z,hP]at e;cases e;exact hn _ rfl) (by rw[e];simp)];exact e
  have wd:WdOk G.K G.C HW1 Z W:=by
   refine⟨fun b o e=>?_,fun j hj=>?_⟩
   ·have q:=ok.wd b o e
    cases o with
    | ins n fs=>obtain⟨dx,vs,e1,e2,cl,e3,r⟩:=q;exact⟨dx,vs,keepW _ _ e1 (fun _ z=>nomatch z),keepW _ _ e2 (fun _ z=>nomatch z),cl,e3,r⟩
    | lst ds=>obtain⟨vs,e1,r⟩:=q;exact⟨vs,keepW _ _ e1 (fun _ z=>nomatch z),r⟩
   ·obtain⟨qs,f1,f2,f3⟩:=tbo j hj
    by_cases hb:G.C (901+2*j)=P
    ·rw[hb]at f1 ⊢
     have ej:qs=ps:=by rw[hP]at f1;cases f1;rfl
     subst ej
     refine⟨_,w3,?_,fun pos cv q=>?_⟩
     ·rw[Array.toList_append];exact TriplesOk_snoc _ _ _ _ f2
     ·rw[Array.toList_append,uU _ _ f2]at q
      cases hh:codeAmong pos qs.toList with
      | some v =>
       rw[hh]at q
       cases q
       obtain⟨c3,oc3,ws3,t3,k1,k2,k3,k4⟩:=f3 pos cv hh
       exact⟨c3,oc3,ws3,t3,k1,keepW _ _ k2 (fun _ z=>nomatch z),k3,k4⟩
      | none =>
       rw[hh]at q
       have q':=q
       simp only[codeAmong,rawInt]at q'
       split at q'
       ·cases q'
        refine⟨c',oc,ws,t,rfl,w2,d1,?_⟩
        rw[d2]
        rw[lx.inj j hj (hb.trans hPe.symm),q0]
       ·cases q'
    ·refine⟨qs,by rw[w4 _ hb (by rw[f1];simp)];exact f1,f2,fun pos cv q=>?_⟩
     obtain⟨c3,oc3,ws3,t3,k1,k2,k3,k4⟩:=f3 pos cv q
     exact⟨c3,oc3,ws3,t3,k1,keepW _ _ k2 (fun _ z=>nomatch z),k3,k4⟩
  exact h _ c' ctv oc ws t _ _ H1 HW1 (I.un un hok) gx wd a1 a2 d1 d2
end
theorem BG.mono {X:Cx}{G:Gx}{j k:Nat}(b:BG X G k)(h:j≤k):BG X G j:=⟨b.room.mono h,b.K,b.calm,b.pass⟩
section
variable {X:Cx}{G:Gx}{W:Wd}{S:SS}{k:Nat}{N:List Str}{qual:Str}{params:Arguments}{scope:Scope}{body:Expr}{ds:List D}{vs:List V}{rf:Wd→RW}{f:Addr}{x:Str}{p pos:Pos}
def tLam (G:Gx)(W:Wd)(S:SS)(qual:Str)(params:Arguments)(scope:Scope)(body:Expr)(clos:List (Str×Addr)):TE:=fun ρ H Q=>∃ HW Z,GOk G W HW Z H S ρ∧∀ f c ctv oc ws t pm H1 HW1,GX HW Z H HW1 Z H1→WdOk G.K G.C HW1 Z W →
 H1 f=some (.frz (PySem.W.kla_obj "<lambda>" qual params body scope clos pm c ctv) (.own 0))→H1 c=some (.frz oc (.own 0))→oc.data=.fields ws→ws[1]?=some (.str qual t)→Q (.ref f) H1
theorem BO {clos:List (Str×Addr)}{lpos:Pos}(i:Nat)(hK:X.K=G.K)(lx:LamX X G.K G.C i)(hcl:closureFor scope X.env=pure clos)(hdef:defaultsOf params X.env=([],[])) :
  PE X (.Lambda params body scope lpos) (tLam G W S (X.env.qual ++ "<lambda>") params scope body clos):=fun pins s ρ H Q I ⟨HW,Z,ok,w⟩ =>
 AD i I ok hK lx hcl hdef fun f c ctv oc ws t pm s1 H1 HW1 I1 gx wd a1 a2 a3 a4=>⟨.ref f,H1,I1,rfl,w f c ctv oc ws t pm H1 HW1 gx wd a1 a2 a3 a4⟩
end
section
variable {X:Cx}{F:Fx}{o e a b:Expr}{g ga gb:SS→R D}{gs:SS→R (List D)}{apos cpos p pos:Pos}{ec:Expr}{k:Nat}{y:V}{q:D→Option Bool}
end
structure FnHd (P:Program)(w:World)(K:PySem.W.Frag)(mg:Str→Option Value)(base:Heap)(C:Nat→Addr)(k:Nat)(x:Str)(ps:List Str)(f:List D→R D):Prop where
 ex:∃ a fd,(∀ (A:Around) (outer:List Env) (s:Shared) (H:Hp) (args:Args) (us:List Value) (vs:List V) (Q:VK),RoomH k A→Env0 P w K mg base A outer s H→BindsTo s fd args (ps.zip us)→Vals vs us→spF K C ps.length f vs H Q E0 →
  codeAny (model P w) A (.call (.ref a) args) (CR CX0 outer P w H s Q E0) s)∧mg x=some (.ref a)∧PySem.W.keepIn K (.ref a)=true∧Binds K fd ps []
section
variable {P:Program}{w:World}{K:PySem.W.Frag}{mg:Str→Option Value}{base:Heap}{C:Nat→Addr}{k:Nat}{N:List Str}{x p:Str}{st:Stmt}
end
section
variable {X:Cx}{body:List Stmt}{c n cl yp:Str}{np np2 cp rp apos hpos pos:Pos}{fh:List D→R D}{k:Nat}{q:Nat→Bool}{C0:Addr}{C:Nat→Addr}{tb:XK→TS}
end
section
variable {X:Cx}{G:Gx}{W:Wd}{S:SS}{σ:Type}{J:σ→SS→Prop}{body:List Stmt}{c n cl yp:Str}{np np2 cp rp apos hpos pos:Pos}{k:Nat}{q:Nat→Bool}{C0:Addr}{fh:List D→R D}
end
section
variable {X:Cx}{G:Gx}{W:Wd}{S:SS}{σ:Type}{J:σ→SS→Prop}{e:Expr}{r:RW}{rest:List Stmt}{x:Str}{pos pos' lpos p0 apos cpos:Pos}
end
section
variable {P:Program}{w:World}{K:PySem.W.Frag}{mg:Str→Option Value}{base:Heap}{C:Nat→Addr}{k i:Nat}{N ps:List Str}{x:Str}{st:Stmt}{fn:Wd→List D→RW}
end
theorem _root_.L2.RoomH.mono {j k:Nat}{A:Around}(r:RoomH k A)(h:j≤k):RoomH j A:=⟨by have:=r.dp;omega,by have:=r.un;omega⟩
theorem FnHd.mono {P:Program}{w:World}{K:PySem.W.Frag}{mg:Str→Option Value}{base:Heap}{C:Nat→Addr}{j k:Nat}{x:Str}{ps:List Str}{f:List D→R D}(h:FnHd P w K mg base C j x ps f)(hj:j≤k):FnHd P w K mg base C k x ps f:=by
 obtain⟨a,fd,h1,h2⟩:=h.ex
 exact⟨a,fd,fun A outer s H args us vs Q hr=>h1 A outer s H args us vs Q (hr.mono hj),h2⟩
end FF
namespace L2
open PySem PySem.Spec PyProof.Rows
end L2
end
noncomputable section
namespace FF
open PySem PySem.Spec PyProof.Rows L2
end FF
namespace FF
open PySem PySem.Spec PyProof.Rows L2
section
variable {X:Cx}{F:Fx}{o e:Expr}{go g:SS→R D}{pos:Pos}{k:Nat}
end
section
variable {X:Cx}{F:Fx}{S:SS}{σ:Type}{J:σ→SS→Prop}
end
section
variable {X:Cx}{F:Fx}{tg a b e o:Expr}{g ga gb go:SS→R D}{gs:SS→R (List D)}{p pos:Pos}{k:Nat}
end
section
variable {X:Cx}{F:Fx}{e ei:Expr}{g:SS→R D}{gs:SS→R (List D)}{p pos pos' p0 apos cpos:Pos}{k:Nat}{x:Str}
def dropD (m:List (Key×D))(k:Key):List (Key×D):=m.filter fun p=>!decide (p.1=k)
theorem Pairs.drop {Z:Hp}{k:Key}:∀ {m:List (Key×D)} {kvs:List (Key×V)},Pairs F Z m kvs→Pairs F Z (dropD m k) (dropK kvs k)
 | [],kvs,h=>by rw[h.inv0];exact Pairs.nil
 | (k',d')::m,kvs,h=>by
  obtain⟨v,q,rfl,h1,h2⟩:=h.inv
  have ih:=Pairs.drop (k:=k) h2
  unfold dropD dropK at ih ⊢
  rw[List.filter_cons,List.filter_cons]
  by_cases c:k'=k
  ·rw[if_neg (by simp[c]),if_neg (by simp[c])]
   exact ih
  ·rw[if_pos (by simp[c]),if_pos (by simp[c])]
   exact⟨by rw[List.map_cons,List.map_cons,ih.1],Reps.cons h1 ih.2⟩
end
section
variable {prog:Program}{w:World}{A:Around}{E:Value→Shared→Prop}{s:Shared}{κ:Type}[DecidableEq κ]{knd:PySem.KeyKind prog w κ}
end
section
variable {X:Cx}{F:Fx}{e:Expr}{gs:SS→R (List D)}{p pos:Pos}{k:Nat}
end
section
variable {X:Cx}{F:Fx}{e:Expr}{es:List Expr}{g:SS→R D}{gs:List (SS→R D)}{x:Str}{pos pos' lpos p0 apos cpos:Pos}{k:Nat}
end
section
variable {X:Cx}{G:Gx}{W:Wd}{S:SS}{σ:Type}{J:σ→SS→Prop}{st:Stmt}{rest:List Stmt}{α:Type}
end
end FF
namespace FF
open PySem PySem.Spec PyProof.Rows L2
section
variable {X:Cx}{G:Gx}{W:Wd}{S:SS}{σ:Type}{J:σ→SS→Prop}{st:Stmt}{rest sts:List Stmt}{α:Type}
end
section
variable {P:Program}{w:World}{K:PySem.W.Frag}{mg:Str→Option Value}{base:Heap}{C:Nat→Addr}{k i:Nat}{N ps:List Str}{x:Str}{st:Stmt}{fn:Wd→List D→RW}
end
section
variable {X:Cx}{F:Fx}{st:Stmt}{g:SS→R D}{i:Nat}
end
section
variable {X:Cx}{G:Gx}{W:Wd}{S:SS}{σ:Type}{J:σ→SS→Prop}
end
section
variable {X:Cx}{G:Gx}{W:Wd}{S:SS}{a b:Expr}{rest:List Expr}{r:RW}{r2:Wd→RW}{gb:SS→R D}{pos:Pos}{k:Nat}
end
section
variable {X:Cx}{F:Fx}{o e:Expr}{g:SS→R D}{gs:List (SS→R D)}{apos cpos:Pos}{k:Nat}
end
section
variable {X:Cx}{F:Fx}{o e:Expr}{g:SS→R D}{gs:List (SS→R D)}{apos cpos:Pos}{k:Nat}
open Builtin Builtin.Str in
end
section
variable {X:Cx}{F:Fx}{e e':Expr}{g:SS→R D}{gs:List (SS→R D)}{es:List Expr}{pos:Pos}
end
end FF
end
noncomputable section
namespace L2
open PySem PySem.Spec PyProof.Rows
section
variable {X:Cx}{pins:List (Addr×Obj)}{σ:List (Option V)}{H H':Hp}{s:Shared}{h':Heap}
end
end L2
namespace FF
open PySem PySem.Spec PyProof.Rows L2
section
variable {X:Cx}{F:Fx}{tg a b e o:Expr}{g ga gb go:SS→R D}{gs:SS→R (List D)}{p pos apos cpos:Pos}{k:Nat}
end
end FF
namespace FF
open PySem PySem.Spec PyProof.Rows L2
section
variable {X:Cx}{F:Fx}{a b:Expr}{ga gb:SS→R D}{pos:Pos}{k:Nat}
end
set_option maxHeartbeats 1000000 in
section
variable {prog:Program}{w:World}{A:Around}{E:Value→Shared→Prop}{R:Result→Shared→Prop}
end
end FF
namespace FF
open PySem PySem.Spec PyProof.Rows L2
inductive Prs (K:PySem.W.Frag)(H:Hp):List V→List (Key×V)→Prop
 | nil:Prs K H [] []
 | cons {b:Addr} {k:Key} {v:V} {ps:List V} {kvs:List (Key×V)} (h:SqT K H b [kV k,v]) (t:Prs K H ps kvs):Prs K H (.ref b::ps) ((k,v)::kvs)
theorem Prs.mono {K:PySem.W.Frag}{Z H:Hp}(z:Same Z H):∀ {ps:List V} {kvs:List (Key×V)},Prs K Z ps kvs→Prs K H ps kvs
 | _,_,.nil=>.nil
 | _,_,.cons h t=>.cons (h.mono z) (Prs.mono z t)
theorem Prs.length {K:PySem.W.Frag}{H:Hp}:∀ {ps:List V} {kvs:List (Key×V)},Prs K H ps kvs→ps.length=kvs.length
 | _,_,.nil=>rfl
 | _,_,.cons h t=>by rw[List.length_cons,List.length_cons,t.length]
section
variable {X:Cx}{F:Fx}{e o:Expr}{go:SS→R D}{gs:SS→R (List D)}{p pos apos cpos:Pos}{k:Nat}
end
section
variable {X:Cx}{F:Fx}{o:Expr}{go:SS→R D}{p pos apos cpos:Pos}{k:Nat}
end
section
variable {X:Cx}{G:Gx}{W:Wd}{S:SS}{a b e:Expr}{es:List Expr}{st:Stmt}{rest:List Stmt}{α σ τ V':Type}{J:σ→SS→Prop}{n:Nat}{r r0:RW}{pos pos':Pos}{gb:SS→R D}
end
section
variable {X:Cx}{F:Fx}{S:SS}{σ τ W:Type}{J:σ→SS→Prop}{st:Stmt}{rest:List Stmt}
end
section
variable {X:Cx}{F:Fx}{pos p:Pos}{keys:List (Option Expr)}{values:List Expr}{ks:List Key}{gs:List (SS→R D)}{e:Expr}{te:TE}
end
section
variable {K:PySem.W.Frag}{C:Nat→Addr}{es is:List Nat}{a:Addr}
end
section
variable {X:Cx}{F:Fx}{e:Expr}{es:List Expr}{g:SS→R D}{gs:List (SS→R D)}
end
section
variable {X:Cx}{F:Fx}{e:Expr}{lo hi:Option Expr}{g:SS→R D}{l h:SS→R (Option Int)}{pos p2:Pos}
end
section
variable {prog:Program}{w:World}{A:Around}{E:Value→Shared→Prop}{s:Shared}{cs:List Obj}{o:Obj}{vs:Array Value}{i j m:Nat}{x:Value}
variable {l₁ l₂:Addr}{k:Int}{xs ys:Array Value}{y:Value}{u:Bool}{rest:List Obj}{f:Value}
end
section
variable {X:Cx}{F:Fx}{a b:Expr}{ga gb:SS→R D}{k:Nat}
def H5 (H:Hp)(n:Nat)(t:Nat→List V)(b:Nat):Option HO:=if b=n+5 then some (.lst [.ref (n+6),.ref (n+7),.ref (n+8),.ref (n+9)]) else if n+6≤b∧b≤n+9 then some (.tup (t (b - (n+6)))) else H b
end
section
variable {τ W:Type}{X:Cx}{F:Fx}{S:SS}{c:Expr}{body:List Stmt}{pos:Pos}{inj:τ→W→SS}{gt:SS→R Bool}{r:τ→R Bool}{step:τ→L τ}
end
end FF
end
noncomputable section

end
noncomputable section
namespace FF
open PySem PySem.Spec PyProof.Rows L2
section
variable {X:Cx}
end
section
variable {X:Cx}{F:Fx}{e:Expr}{gs:SS→R (List D)}{ge:SS→R D}{pos p0 apos cpos:Pos}{x:Str}
end
end FF
end
noncomputable section
set_option maxRecDepth 1000000
namespace FF
open PySem PySem.Spec PyProof.Rows L2
section
variable {prog:Program}{w:World}{A:Around}{E:Value→Shared→Prop}{s:Shared}
end
section
variable {X:Cx}{F:Fx}{p pos:Pos}{e:Expr}{gs:SS→R (List D)}{k:Nat}{x:Str}
end
open PySem.SeqAt (EqAt)
section
open PySem.AutoSeq1 (wpAny_loadPart')
end
section
variable {X:Cx}{K:PySem.W.Frag}{C:Nat→Addr}{pins:List (Addr×Obj)}{σ:St}{H Z:Hp}{s:Shared}
end
section
variable {prog:Program}{w:World}{A:Around}{E:Value→Shared→Prop}{R:Result→Shared→Prop}{h₀:Heap}{l I S:Addr}{its:List Value}{bt:Nat→Nat→Bool}{s0:Shared}
end
section
variable {X:Cx}{pins:List (Addr×Obj)}{σ:St}
variable {F:Fx}{k:Nat}{f:Addr}{fd:FuncData}{ps:List Str}{t:List D→R D}{ds:List D}{l I S:Addr}{H0 Z0:Hp}{R:Result→Shared→Prop}{d:D}
end
section
variable {X:Cx}{F:Fx}{p pos kp np:Pos}{e:Expr}{g:SS→R D}{k:Nat}{x:Str}{ps:List Str}{t:List D→R D}
end
section
variable {X:Cx}{F:Fx}{a b e:Expr}{ga gb:SS→R D}{gs:SS→R (List D)}{p pos:Pos}{k:Nat}
end
section
variable {X:Cx}{F:Fx}{e:Expr}{gs:SS→R (List D)}{p pos:Pos}{k:Nat}
end
open PySem.SeqAt (EqAt RcAt)
def IsRow (h:Heap)(ks:List Int)(a:Addr):Prop:=∃ its:List Value,IsTup h a its.toArray∧IntsAre its ks
inductive RowsAre (h:Heap):List (List Int)→List Value→Prop
 | nil:RowsAre h [] []
 | cons {ks:List Int} {a:Addr} {kss:List (List Int)} {vs:List Value}:IsRow h ks a→RowsAre h kss vs→RowsAre h (ks::kss) (.ref a::vs)
section
variable {h h':Heap}{ks ms:List Int}{kss mss:List (List Int)}{a b d:Addr}{vs us:List Value}
theorem RowsAre.len (x:RowsAre h kss vs):vs.length=kss.length:=by
 induction x with
 | nil=>rfl
 | cons _ _ ih=>rw[List.length_cons,List.length_cons,ih]
theorem RowsAre.at_ (x:RowsAre h kss vs):∀ (j:Nat) (v:Value),vs[j]?=some v→∃ c ks,v=.ref c∧kss[j]?=some ks∧IsRow h ks c:=by
 induction x with
 | nil=>intro j v e;cases e
 | cons r _ ih =>
  intro j v e
  cases j with
  | zero=>cases e;exact⟨_,_,rfl,rfl,r⟩
  | succ j=>exact ih j v e
end
section
variable {A:Around}{s:Shared}{ks ms:List Int}{kss mss:List (List Int)}{a b:Addr}
end
section
variable {prog:Program}{w:World}{A:Around}{E:Value→Shared→Prop}{s:Shared}{ks:List Int}{kss:List (List Int)}{a:Addr}
end
section
variable {kvs:List RKV}{xs:List RKU}{ks:List (List Int)}
end
section
variable {X:Cx}{pins:List (Addr×Obj)}{σ:St}{H:Hp}{s:Shared}{a b:Addr}{kvs:List RKV}{ks:List (List Int)}{A:Around}{E:Value→Shared→Prop}
def KeysR (K:PySem.W.Frag)(H:Hp)(kvs:List RKV):Prop:=∀ x∈kvs,SqR K H x.2.1 x.1
end
section
variable {X:Cx}{pos:Pos}{o i e value:Expr}{td ty tv:TE}{pos':Pos}
end
structure RabOk (F:Fx)(Z:Hp)(m:List (List (List Int)×D))(kvs:List RKV):Prop where
 ks:kvs.map (·.1)=m.map (·.1)
 at_:KeysR F.K Z kvs
 vs:Reps F.K F.C Z (m.map (·.2)) (kvs.map (·.2.2))
section
variable {F:Fx}{Z Z':Hp}{m:List (List (List Int)×D)}{kvs:List RKV}{ks:List (List Int)}{d:D}{v:V}{b:Addr}
theorem RabOk.mono (h:RabOk F Z m kvs)(z:Same Z Z'):RabOk F Z' m kvs:=⟨h.ks,fun x hx=>(h.at_ x hx).mono z,h.vs.mono z⟩
theorem RabOk.nil:RabOk F Z [] []:=⟨rfl,(fun x hx=>nomatch hx),Reps.nil⟩
theorem RabOk.cons (h:RabOk F Z m kvs)(hb:SqR F.K Z b ks)(r:Rep F.K F.C Z d v):RabOk F Z ((ks,d)::m) ((ks,b,v)::kvs) :=
 ⟨by rw[List.map_cons,List.map_cons,h.ks],fun x hx=>(List.mem_cons.mp hx).elim (fun z=>by rw[z];exact hb) (h.at_ x),Reps.cons r h.vs⟩
theorem RabOk.inv {k:List (List Int)×D}(h:RabOk F Z (k::m) kvs):∃ b v r,kvs=(k.1,b,v)::r∧SqR F.K Z b k.1∧Rep F.K F.C Z k.2 v∧RabOk F Z m r:=by
 cases kvs with
 | nil=>have:=h.ks;cases this
 | cons p r =>
  obtain⟨k',b,v⟩:=p
  obtain⟨h1,h2,h3⟩:=h
  rw[List.map_cons,List.map_cons]at h1
  injection h1 with h1 h4
  have q:=h2 _ (.head _)
  obtain⟨r1,r2⟩:=Reps.uncons h3
  cases (show k'=k.1 from h1)
  exact⟨b,v,r,rfl,q,r1,h4,fun x hx=>h2 x (.tail _ hx),r2⟩
theorem RabOk.inv0 (h:RabOk F Z [] kvs):kvs=[]:=by
 cases kvs with
 | nil=>rfl
 | cons p r=>have:=h.ks;cases this
theorem RabOk.any:∀ {m:List (List (List Int)×D)} {kvs:List RKV},RabOk F Z m kvs→(kvs.any fun p=>decide (p.1=ks))=(m.any fun p=>decide (p.1=ks))
 | [],kvs,h=>by rw[h.inv0];rfl
 | k::m,kvs,h=>by
  obtain⟨b,v,r,rfl,_,_,h2⟩:=h.inv
  rw[List.any_cons,List.any_cons,h2.any]
theorem RabOk.len (h:RabOk F Z m kvs):kvs.length=m.length:=by have:=congrArg List.length h.ks;simpa using this
end
section
variable {F:Fx}{H Z:Hp}{S:SS}{σ:St}
end
section
variable {X:Cx}{F:Fx}{pos p p0:Pos}{k:Nat}{g ge:SS→R D}{e ei:Expr}{x:Str}
end
section
variable {X:Cx}{F:Fx}{iter:Expr}{scope:Scope}{N:List Str}{own:Nat}{cap:List Nat}{pos:Pos}{git:SS→R (List D)}
end
open PySem.W (KasT kas_sort kas_asc kas_desc kas_tail3 kas_descPart kas_count kas_place kas_bin kas_rev kas_ask kat_run kat_kind kat_lt KatLex KatTups)
section
variable {α β:Type}{n:Nat}{R:α→Prop}{R':β→Prop}{p:Array Nat}
def kRun (lt:Nat→Nat→Bool):KasT α→α
 | .ret a=>a
 | .ask i j k=>kRun lt (k (lt i j))
def KOk (n:Nat)(R:α→Prop):KasT α→Prop
 | .ret a=>R a
 | .ask i j k=>i < n∧j < n∧∀ b,KOk n R (k b)
theorem KOk.bind {f:α→KasT β}:∀ {t:KasT α},KOk n R t→(∀ a,R a→KOk n R' (f a))→KOk n R' (t.bind f)
 | .ret a,h,k=>k a h
 | .ask i j q,h,k=>⟨h.1,h.2.1,fun b=>KOk.bind (h.2.2 b) k⟩
theorem KOk.run (lt:Nat→Nat→Bool):∀ {t:KasT α},KOk n R t→R (kRun lt t)
 | .ret a,h=>h
 | .ask i j q,h=>KOk.run lt (t:=q (lt i j)) (h.2.2 _)
theorem KOk.wp {cmp:Nat→Nat→(Bool→Shared→Prop)→Shared→Prop}{lt:Nat→Nat→Bool}{Q:α→Shared→Prop}{s:Shared}(hc:∀ i j C,i < n→j < n→C (lt i j) s→cmp i j C s):∀ {t:KasT α},KOk n R t→Q (kRun lt t) s→t.kasWp cmp Q s
 | .ret a,h,q=>q
 | .ask i j k,h,q=>hc i j _ h.1 h.2.1 (KOk.wp hc (h.2.2 _) q)
def PN (n:Nat)(p:Array Nat):Prop:=p.toList.Perm (List.range n)
theorem PN.lt (h:PN n p)(hn:0 < n)(i:Nat):p.getD i 0 < n:=by
 unfold Array.getD
 split
 ·rename_i hi
  exact List.mem_range.mp (h.subset (by simp))
 ·exact hn
theorem PN.rev (h:PN n p)(i j:Nat):PN n (kas_rev p i j):=(Array.perm_iff_toList_perm.mp (mirror_perm p i j _)).trans h
theorem PN.bub (h:PN n p)(i j:Nat):PN n (bubble p i j):=(Array.perm_iff_toList_perm.mp (bubble_perm p i j)).trans h
theorem rz (h:PN n p)(hn:0 < n):∀ f m,KOk n (fun _=>True) (kas_asc p f m)
 | 0,_=>trivial
 | f+1,m=>⟨h.lt hn _,h.lt hn _,fun b=>by
  show KOk n _ (if b=true then _ else _)
  split
  ·exact trivial
  ·exact rz h hn f _⟩
theorem kl (hn:0 < n):∀ f (p:Array Nat) m q,PN n p→KOk n (fun r=>PN n r.1) (kas_desc f p m q)
 | 0,_,_,_,h=>h
 | f+1,p,m,q,h=>⟨h.lt hn _,h.lt hn _,fun b=>by
  show KOk n _ (if b=true then (if q > 0 then _ else _) else _)
  split
  ·split
   ·exact kl hn f _ _ _ (h.rev _ _)
   ·exact kl hn f _ _ _ h
  ·refine⟨h.lt hn _,h.lt hn _,fun b=>?_⟩
   show KOk n _ (if b=true then _ else _)
   split
   ·exact h
   ·exact kl hn f _ _ _ h⟩
theorem o6 (h:PN n p)(hn:0 < n)(m r:Nat):KOk n (fun r=>PN n r.2) (kas_tail3 m r p) :=
 KOk.bind (rz (h.rev _ _) hn _ _) fun _ _=>h.rev _ _
theorem jS (h:PN n p)(hn:0 < n)(m r:Nat):KOk n (fun r=>PN n r.2) (kas_descPart m r p) :=
 KOk.bind (kl hn _ _ _ _ h) fun a ha=>by
  split
  ·exact o6 (PN.rev ha _ _) hn _ _
  ·exact o6 ha hn _ _
theorem wZ (h:PN n p)(hn:0 < n)(r:Nat):KOk n (fun r=>PN n r.2) (kas_count r p) :=
 KOk.bind (rz h hn _ _) fun a _=>by
  split
  ·exact h
  ·split
   ·refine⟨h.lt hn _,h.lt hn _,fun b=>?_⟩
    show KOk n _ (if b=true then _ else _)
    split
    ·exact h
    ·exact jS (h.rev _ _) hn _ _
   ·exact jS h hn _ _
theorem dW (h:PN n p)(hn:0 < n)(k:Nat):∀ f l r,KOk n (fun _=>True) (kas_place p k f l r)
 | 0,_,_=>trivial
 | f+1,l,r=>by
  rw[kas_place]
  split
  ·exact trivial
  ·refine⟨h.lt hn _,h.lt hn _,fun b=>?_⟩
   show KOk n _ (if b=true then _ else _)
   split
   ·exact dW h hn k f _ _
   ·exact dW h hn k f _ _
theorem xa (hn:0 < n):∀ f (p:Array Nat) k,PN n p→KOk n (PN n) (kas_bin f p k)
 | 0,_,_,h=>h
 | f+1,p,k,h=>KOk.bind (dW h hn k _ _ _) fun l _=>xa hn f _ _ (h.bub _ _)
theorem sZ (hn:0 < n):KOk n (PN n) (kas_sort n) :=
 KOk.bind (wZ (by unfold PN;simp) hn _) fun r hr=>by
  split
  ·exact xa hn _ _ _ hr
  ·exact hr
end
theorem y8 {α β:Type}(σ:Setting)(m:Sem α)(f:α→Sem β):ev σ (m >>= f)=(ev σ m).bind fun a=>ev σ (f a):=by
 show ev σ (m.bind f)=_
 induction m with
 | pure a=>rfl
 | rule t k ih=>exact ih ()
 | point l k ih=>exact ih ()
 | ask k ih=>exact ih σ
 | call c h g l k ih =>
  show ev σ (.call c h g _ fun x=>(k x).bind f)=_
  simp only[ev]
  cases ltOf c h with
  | none=>rfl
  | some b=>exact ih _
 | _=>rfl
structure Ky (n:Nat) where
 it:Fin n→Keyed
 κ:SortKind
class Nm (n:Nat) (α:Type) where
 Ab:Type
 cn:Ab→Ky n→α
section
variable {n:Nat}
instance nmN:Nm n Nat:=⟨Nat,fun y _=>y⟩
instance nmB:Nm n Bool:=⟨Bool,fun y _=>y⟩
instance nmU:Nm n PUnit:=⟨PUnit,fun y _=>y⟩
instance nmO {α:Type}[Nm n α]:Nm n (Option α):=⟨Option (Nm.Ab n α),fun y c=>y.map fun a=>Nm.cn a c⟩
instance nmP {α β:Type}[Nm n α][Nm n β]:Nm n (α×β):=⟨Nm.Ab n α×Nm.Ab n β,fun y c=>(Nm.cn y.1 c,Nm.cn y.2 c)⟩
instance nmF {α:Type}[Nm n α]:Nm n (ForInStep α):=⟨ForInStep (Nm.Ab n α),fun y c=>match y with | .done a=>.done (Nm.cn a c) | .yield a=>.yield (Nm.cn a c)⟩
instance nmK:Nm n Keyed:=⟨Fin n,fun i c=>c.it i⟩
instance nmA:Nm n (Array Keyed):=⟨Array (Fin n),fun p c=>p.map c.it⟩
instance nmS:Nm n SortSt:=⟨Array (Fin n)×Array (Nat×Nat×Nat)×Nat,fun y c=>SortSt.mk' c.κ (y.1.map c.it) y.2.1 y.2.2 none⟩
end
structure Rx (n:Nat) where
 c:Ky n
 d:Ky n
 σ:Setting
 prog:Program
 w:World
 A:Around
 E:Value→Shared→Prop
 s:Shared
section
variable {n:Nat}{X:Rx n}{α β γ:Type}[Nm n α][Nm n β]
def Rr (X:Rx n)(a b:α):Prop:=∃ y:Nm.Ab n α,a=Nm.cn y X.c∧b=Nm.cn y X.d
theorem m6 (y:Nm.Ab n α):Rr X (Nm.cn y X.c:α) (Nm.cn y X.d):=⟨y,rfl,rfl⟩
theorem jh (a:Nat):Rr X a a:=⟨a,rfl,rfl⟩
theorem bD (a:Bool):Rr X a a:=⟨a,rfl,rfl⟩
theorem cN (a:PUnit):Rr X a a:=⟨a,rfl,rfl⟩
theorem fZ:Rr X (none:Option α) none:=⟨none,rfl,rfl⟩
theorem eh {a b:α}(h:Rr X a b):Rr X (some a) (some b):=by obtain⟨y,rfl,rfl⟩:=h;exact⟨some y,rfl,rfl⟩
theorem bE {a b:α}{a' b':β}(h:Rr X a b)(k:Rr X a' b'):Rr X (a,a') (b,b'):=by obtain⟨y,rfl,rfl⟩:=h;obtain⟨z,rfl,rfl⟩:=k;exact⟨(y,z),rfl,rfl⟩
theorem f8 {a b:α}(h:Rr X a b):Rr X (ForInStep.done a) (.done b):=by obtain⟨y,rfl,rfl⟩:=h;exact⟨.done y,rfl,rfl⟩
theorem dX {a b:α}(h:Rr X a b):Rr X (ForInStep.yield a) (.yield b):=by obtain⟨y,rfl,rfl⟩:=h;exact⟨.yield y,rfl,rfl⟩
theorem gL (i:Fin n):Rr X (X.c.it i) (X.d.it i):=⟨i,rfl,rfl⟩
theorem ji (p:Array (Fin n)):Rr X (p.map X.c.it) (p.map X.d.it):=⟨p,rfl,rfl⟩
theorem f9 {a b:Array Keyed}{x y:Keyed}(h:Rr X a b)(k:Rr X x y):Rr X (a.push x) (b.push y):=by
 obtain⟨p,rfl,rfl⟩:=h;obtain⟨i,rfl,rfl⟩:=k
 exact⟨p.push i,Array.map_push.symm,Array.map_push.symm⟩
theorem jj {x y:Keyed}(k:Rr X x y):Rr X #[x] #[y]:=by
 obtain⟨i,rfl,rfl⟩:=k
 exact⟨(#[i]:Array (Fin n)),by simp[Nm.cn],by simp[Nm.cn]⟩
theorem jk {a b a' b':Array Keyed}(h:Rr X a b)(k:Rr X a' b'):Rr X (a++a') (b++b'):=by
 obtain⟨p,rfl,rfl⟩:=h;obtain⟨q,rfl,rfl⟩:=k
 exact⟨@HAppend.hAppend (Array (Fin n)) (Array (Fin n)) _ _ p q,Array.map_append.symm,Array.map_append.symm⟩
theorem jl {a b:Array Keyed}{i j:Nat}(h:Rr X a b):Rr X (a.extract i j) (b.extract i j):=by
 obtain⟨p,rfl,rfl⟩:=h
 exact⟨p.extract i j,Array.map_extract.symm,Array.map_extract.symm⟩
theorem jm {a b:Array Keyed}(h:Rr X a b):Rr X a.reverse b.reverse:=by
 obtain⟨p,rfl,rfl⟩:=h
 exact⟨p.reverse,Array.map_reverse.symm,Array.map_reverse.symm⟩
def Rel (X:Rx n)(m m0:StateT SortSt Sem α):Prop :=
 ∀ (st:Nm.Ab n SortSt) z,ev X.σ (m0.run (Nm.cn st X.d))=some z→∀ Q:α×SortSt→Prop,(∀ y,Rr X y z→Q y)→wpAny (model X.prog X.w) X.A (m.run (Nm.cn st X.c)) (fun r s'=>s'=X.s∧Q r) X.E X.s
theorem aX {a a0:α}(h:Rr X a a0):Rel X (pure a) (pure a0):=fun st z e Q q=>by
 rw[StateT.run_pure]at e ⊢
 cases e
 exact wpAny_pure ⟨rfl,q _ (bE h ⟨st,rfl,rfl⟩)⟩
theorem aF {m m0:StateT SortSt Sem α}{f f0:α→StateT SortSt Sem β}(h:Rel X m m0)(k:∀ y:Nm.Ab n α,Rel X (f (Nm.cn y X.c)) (f0 (Nm.cn y X.d))):Rel X (m >>= f) (m0 >>= f0):=fun st z e Q q=>by
 rw[StateT.run_bind]at e ⊢
 rw[y8]at e
 cases h0:ev X.σ (m0.run (Nm.cn st X.d)) with
 | none=>rw[h0]at e;cases e
 | some y =>
  rw[h0]at e
  refine wpAny_bind (wpAny_mono (h st y h0 _ (fun x hx=>?_)) (fun r s' hr=>by obtain⟨rfl,hr⟩:=hr;exact hr) fun _ _ x=>x)
  obtain⟨⟨u,v⟩,rfl,rfl⟩:=hx
  exact k u v z e Q q
theorem fB {m m0:StateT SortSt Sem (Option α)}{f f0:Option α→StateT SortSt Sem β}(h:Rel X m m0)(k:∀ y:Nm.Ab n α,Rel X (f (some (Nm.cn y X.c))) (f0 (some (Nm.cn y X.d))))(k':Rel X (f none) (f0 none)):Rel X (m >>= f) (m0 >>= f0) :=
 aF h fun y=>match y with
  | none=>k'
  | some y=>k y
theorem jn [Nm n γ]{m m0:StateT SortSt Sem (Option α×γ)}{f f0:Option α×γ→StateT SortSt Sem β}(h:Rel X m m0)(k:∀ (y:Nm.Ab n α) (z:Nm.Ab n γ),Rel X (f (some (Nm.cn y X.c),Nm.cn z X.c)) (f0 (some (Nm.cn y X.d),Nm.cn z X.d)))
  (k':∀ z:Nm.Ab n γ,Rel X (f (none,Nm.cn z X.c)) (f0 (none,Nm.cn z X.d))):Rel X (m >>= f) (m0 >>= f0) :=
 aF h fun y=>match y with
  | (none,z)=>k' z
  | (some y,z)=>k y z
theorem cO {p:Prop}{i i0:Decidable p}{a b a0 b0:StateT SortSt Sem α}(h1:Rel X a a0)(h2:Rel X b b0):Rel X (@ite _ p i a b) (@ite _ p i0 a0 b0):=by
 by_cases h:p
 ·rw[if_pos h,if_pos h];exact h1
 ·rw[if_neg h,if_neg h];exact h2
theorem cP:Rel X (get:StateT SortSt Sem SortSt) get:=fun st z e Q q=>by
 rw[StateT.run_get]at e ⊢
 cases e
 exact wpAny_pure ⟨rfl,q _ (bE ⟨st,rfl,rfl⟩ ⟨st,rfl,rfl⟩)⟩
theorem gg {f f0:SortSt→SortSt}(h:∀ y:Nm.Ab n SortSt,Rr X (f (Nm.cn y X.c)) (f0 (Nm.cn y X.d))):Rel X (modify f:StateT SortSt Sem PUnit) (modify f0):=fun st z e Q q=>by
 rw[StateT.run_modify]at e ⊢
 cases e
 exact wpAny_pure ⟨rfl,q _ (bE (cN _) (h st))⟩
theorem y9 {a b:SortSt}(h:Rr X a b):Rel X (set a:StateT SortSt Sem PUnit) (set b):=fun st z e Q q=>by
 rw[StateT.run_set]at e ⊢
 cases e
 exact wpAny_pure ⟨rfl,q _ (bE (cN _) h)⟩
theorem dY (t:String):Rel X (liftM (rule t):StateT SortSt Sem Unit) (liftM (rule t)):=fun st z e Q q=>by
 change wpAny (model X.prog X.w) X.A ((StateT.lift (rule t):StateT SortSt Sem Unit).run _) _ X.E X.s
 have e':some ((),Nm.cn st X.d)=some z:=e
 cases e'
 rw[StateT.run_lift]
 exact wpAny_bind (wpAny_rule (wpAny_pure ⟨rfl,q _ (bE (cN _) ⟨st,rfl,rfl⟩)⟩))
theorem eB (t:String){m:StateT SortSt Sem α}:Rel X m (liftM (unsupported t:Sem α)):=fun st z e Q q=>by
 have e':none=some z:=e
 cases e'
theorem o7 {f f0:γ→β→StateT SortSt Sem (ForInStep β)}(h:∀ x (y:Nm.Ab n β),Rel X (f x (Nm.cn y X.c)) (f0 x (Nm.cn y X.d))):∀ (l:List γ) (b b0:β),Rr X b b0→Rel X (forIn l b f) (forIn l b0 f0)
 | [],b,b0,hb=>by
  rw[List.forIn_nil,List.forIn_nil]
  exact aX hb
 | x::l,b,b0,hb=>by
  rw[List.forIn_cons,List.forIn_cons]
  obtain⟨y,rfl,rfl⟩:=hb
  refine aF (h x y) fun a=>?_
  cases a with
  | done a=>exact aX ⟨a,rfl,rfl⟩
  | yield a=>exact o7 h l _ _ ⟨a,rfl,rfl⟩
theorem gh {f f0:Nat→β→StateT SortSt Sem (ForInStep β)}{i j:Nat}{b b0:β}(hb:Rr X b b0)(h:∀ x (y:Nm.Ab n β),Rel X (f x (Nm.cn y X.c)) (f0 x (Nm.cn y X.d))):Rel X (forIn [i:j] b f) (forIn [i:j] b0 f0):=by
 rw[Std.Legacy.Range.forIn_eq_forIn_range',Std.Legacy.Range.forIn_eq_forIn_range']
 exact o7 h _ _ _ hb
end
section
variable {n:Nat}{X:Rx n}
theorem kU (p:Array (Fin n))(i:Nat):Rel X (elem' (p.map X.c.it) i) (elem' (p.map X.d.it) i):=by
 rw[elem'_eq,elem'_eq,Array.getElem?_map,Array.getElem?_map]
 cases p[i]? with
 | none=>exact eB _
 | some x=>exact aX (gL x)
structure KyOk (X:Rx n):Prop where
 k:X.d.κ=oneType'
 f:∃ f:Fin n→Int,(∀ i,∃ t q,X.d.it i=(.int (f i) t,q))∧∀ i j (C:Bool→Shared→Prop),C (decide (f i < f j)) X.s→wpAny (model X.prog X.w) X.A (keyLt' X.c.κ (X.c.it i).1 (X.c.it j).1) C (fun _ _=>False) X.s
 g:∃ σ' b,X.σ=sg σ' b
theorem By (σ:Setting)(b:Bool)(x y:Int)(t u:Tok)(p q:Value)(a:Array Keyed)(d:Array (Nat×Nat×Nat))(g:Nat) :
  ev (sg σ b) ((lt' (.int x t,p) (.int y u,q)).run (SortSt.mk' oneType' a d g none))=some (some (decide (x < y)),SortSt.mk' oneType' a d g none):=by
 cases b<;>kernel_rfl
theorem xb (K:KyOk X)(i j:Fin n):Rel X (lt' (X.c.it i) (X.c.it j)) (lt' (X.d.it i) (X.d.it j)):=fun st z e Q q=>by
 obtain⟨hk,⟨f,h1,h2⟩,σ',b,es⟩:=K
 obtain⟨t,qi,ei⟩:=h1 i
 obtain⟨u,qj,ej⟩:=h1 j
 have en:(Nm.cn st X.d:SortSt)=SortSt.mk' oneType' (st.1.map X.d.it) st.2.1 st.2.2 none:=by rw[← hk];rfl
 rw[ei,ej,es,en,By,← en]at e
 cases e
 rw[lt'_eq,StateT.run_bind,StateT.run_get]
 refine wpAny_bind (wpAny_pure ?_)
 rw[StateT.run_bind]
 refine wpAny_bind (wpAny_bind (wpAny_attempt (wpAny_mono (h2 i j _ ?_) (fun _ _ x=>x) fun _ _ hF=>hF.elim)))
 exact wpAny_pure (wpAny_pure ⟨rfl,q _ (bE (eh (bD _)) ⟨st,rfl,rfl⟩)⟩)
theorem xc (K:KyOk X)(i j:Nat):Rel X (ltAt' i j) (ltAt' i j):=by
 rw[ltAt'_eq]
 exact aF cP fun y=>aF (kU y.1 i) fun a=>aF (kU y.1 j) fun b=>xb K a b
theorem zb (i j:Nat):Rel X (reverseSlice' i j) (reverseSlice' i j):=by
 rw[reverseSlice'_eq]
 refine gg fun y=>⟨(mirror y.1 i j ((j - i)/2),y.2),?_,?_⟩
 all_goals
  show SortSt.mk' _ _ _ _ _=SortSt.mk' _ _ _ _ _
  congr 1
  exact PySem.W.kas_swaps_map _ (fun k=>i+k) (fun k=>j - 1 - k) _ y.1
theorem AE (i j:Nat):Rel X (moveDown' i j) (moveDown' i j):=by
 rw[moveDown'_eq]
 refine gg fun y=>⟨(bubble y.1 i (i - j),y.2),?_,?_⟩
 all_goals
  show SortSt.mk' _ _ _ _ _=SortSt.mk' _ _ _ _ _
  congr 1
  exact PySem.W.kas_swaps_map _ (fun k=>i - k) (fun k=>i - k - 1) _ y.1
theorem dF (p:Array (Fin n))(i:Nat):Rel X ((sortPriv% PySem.Builtin.elem) (p.map X.c.it) i) ((sortPriv% PySem.Builtin.elem) (p.map X.d.it) i):=kU p i
theorem m7 (K:KyOk X)(i j:Fin n):Rel X ((sortPriv% PySem.Builtin.lt) (X.c.it i) (X.c.it j)) ((sortPriv% PySem.Builtin.lt) (X.d.it i) (X.d.it j)):=xb K i j
theorem gj (K:KyOk X)(i j:Nat):Rel X ((sortPriv% PySem.Builtin.ltAt) i j) ((sortPriv% PySem.Builtin.ltAt) i j):=xc K i j
theorem jo (i j:Nat):Rel X ((sortPriv% PySem.Builtin.reverseSlice) i j) ((sortPriv% PySem.Builtin.reverseSlice) i j):=zb i j
theorem jp (g:Nat):Rel X ((sortPriv% PySem.Builtin.setMinGallop) g) ((sortPriv% PySem.Builtin.setMinGallop) g):=gg fun y=>⟨(y.1,y.2.1,g),rfl,rfl⟩
theorem m8 (i j:Nat):Rel X ((sortPriv% PySem.Builtin.moveDown) i j) ((sortPriv% PySem.Builtin.moveDown) i j):=AE i j
theorem uV (K:KyOk X)(i j:Nat):Rel X (countRun' i j) (countRun' i j):=by
 change Rel X (_ >>= _) (_ >>= _)
 repeat' first
  | with_reducible exact m6 _
  | with_reducible exact jh _
  | with_reducible exact bD _
  | with_reducible exact cN _
  | with_reducible exact fZ
  | with_reducible exact gL _
  | with_reducible exact ji _
  | exact(⟨_,rfl,rfl⟩:Rr X (Option.map (fun a=>a) _) _)
  | with_reducible refine eh ?_
  | with_reducible refine bE ?_ ?_
  | with_reducible refine f8 ?_
  | with_reducible refine dX ?_
  | with_reducible refine f9 ?_ ?_
  | with_reducible refine jj ?_
  | with_reducible refine jk ?_ ?_
  | with_reducible refine jl ?_
  | with_reducible refine jm ?_
  | with_reducible exact dF _ _
  | with_reducible exact m7 K _ _
  | with_reducible exact gj K _ _
  | with_reducible exact jo _ _
  | with_reducible exact m8 _ _
  | with_reducible exact jp _
  | with_reducible exact dY _
  | with_reducible exact eB _
  | with_reducible exact cP
  | with_reducible refine aX ?_
  | with_reducible refine cO ?_ ?_
  | with_reducible refine jn ?_ (fun y z=>?_) fun z=>?_
  | with_reducible refine fB ?_ (fun y=>?_) ?_
  | with_reducible refine aF ?_ fun y=>?_
  | with_reducible refine gh ?_ fun x y=>?_
  | dsimp only[nmN,nmB,nmU,nmP,nmK,nmA,Nm.cn,Array.size_map]
  | simp only[Array.size_map,Option.map_some,Option.map_none]
theorem zc (K:KyOk X)(i j k:Nat):Rel X (binarySort' i j k) (binarySort' i j k):=by
 change Rel X (_ >>= _) (_ >>= _)
 repeat' first
  | with_reducible exact m6 _
  | with_reducible exact jh _
  | with_reducible exact bD _
  | with_reducible exact cN _
  | with_reducible exact fZ
  | with_reducible exact gL _
  | with_reducible exact ji _
  | exact(⟨_,rfl,rfl⟩:Rr X (Option.map (fun a=>a) _) _)
  | with_reducible refine eh ?_
  | with_reducible refine bE ?_ ?_
  | with_reducible refine f8 ?_
  | with_reducible refine dX ?_
  | with_reducible refine f9 ?_ ?_
  | with_reducible refine jj ?_
  | with_reducible refine jk ?_ ?_
  | with_reducible refine jl ?_
  | with_reducible refine jm ?_
  | with_reducible exact dF _ _
  | with_reducible exact m7 K _ _
  | with_reducible exact gj K _ _
  | with_reducible exact jo _ _
  | with_reducible exact m8 _ _
  | with_reducible exact jp _
  | with_reducible exact dY _
  | with_reducible exact eB _
  | with_reducible exact cP
  | with_reducible refine aX ?_
  | with_reducible refine cO ?_ ?_
  | with_reducible refine jn ?_ (fun y z=>?_) fun z=>?_
  | with_reducible refine fB ?_ (fun y=>?_) ?_
  | with_reducible refine aF ?_ fun y=>?_
  | with_reducible refine gh ?_ fun x y=>?_
  | dsimp only[nmN,nmB,nmU,nmP,nmK,nmA,Nm.cn,Array.size_map]
  | simp only[Array.size_map,Option.map_some,Option.map_none]
abbrev galM:Bool→Keyed→Array Keyed→Nat→Nat→Nat→StateT SortSt Sem (Option Nat):=sortPriv% PySem.Builtin.gallop
abbrev merLo:Array Keyed→Array Keyed→StateT SortSt Sem (Array Keyed):=sortPriv% PySem.Builtin.mergeLo
abbrev merHi:Array Keyed→Array Keyed→StateT SortSt Sem (Array Keyed):=sortPriv% PySem.Builtin.mergeHi
theorem km (K:KyOk X)(l:Bool)(k:Fin n)(p:Array (Fin n))(b m h:Nat):Rel X (galM l (X.c.it k) (p.map X.c.it) b m h) (galM l (X.d.it k) (p.map X.d.it) b m h):=by
 change Rel X (_ >>= _) (_ >>= _)
 repeat' first
  | with_reducible exact m6 _
  | with_reducible exact jh _
  | with_reducible exact bD _
  | with_reducible exact cN _
  | with_reducible exact fZ
  | with_reducible exact gL _
  | with_reducible exact ji _
  | exact(⟨_,rfl,rfl⟩:Rr X (Option.map (fun a=>a) _) _)
  | with_reducible refine eh ?_
  | with_reducible refine bE ?_ ?_
  | with_reducible refine f8 ?_
  | with_reducible refine dX ?_
  | with_reducible refine f9 ?_ ?_
  | with_reducible refine jj ?_
  | with_reducible refine jk ?_ ?_
  | with_reducible refine jl ?_
  | with_reducible refine jm ?_
  | with_reducible exact dF _ _
  | with_reducible exact m7 K _ _
  | with_reducible exact gj K _ _
  | with_reducible exact jo _ _
  | with_reducible exact m8 _ _
  | with_reducible exact jp _
  | with_reducible exact dY _
  | with_reducible exact eB _
  | with_reducible exact cP
  | with_reducible refine aX ?_
  | with_reducible refine cO ?_ ?_
  | with_reducible refine jn ?_ (fun y z=>?_) fun z=>?_
  | with_reducible refine fB ?_ (fun y=>?_) ?_
  | with_reducible refine aF ?_ fun y=>?_
  | with_reducible refine gh ?_ fun x y=>?_
  | dsimp only[nmN,nmB,nmU,nmP,nmK,nmA,Nm.cn,Array.size_map]
  | simp only[Array.size_map,Option.map_some,Option.map_none]
theorem zd (K:KyOk X)(p q:Array (Fin n)):Rel X (merLo (p.map X.c.it) (q.map X.c.it)) (merLo (p.map X.d.it) (q.map X.d.it)):=by
 change Rel X (_ >>= _) (_ >>= _)
 repeat' first
  | with_reducible exact m6 _
  | with_reducible exact jh _
  | with_reducible exact bD _
  | with_reducible exact cN _
  | with_reducible exact fZ
  | with_reducible exact gL _
  | with_reducible exact ji _
  | exact(⟨_,rfl,rfl⟩:Rr X (Option.map (fun a=>a) _) _)
  | with_reducible refine eh ?_
  | with_reducible refine bE ?_ ?_
  | with_reducible refine f8 ?_
  | with_reducible refine dX ?_
  | with_reducible refine f9 ?_ ?_
  | with_reducible refine jj ?_
  | with_reducible refine jk ?_ ?_
  | with_reducible refine jl ?_
  | with_reducible refine jm ?_
  | with_reducible exact dF _ _
  | with_reducible exact m7 K _ _
  | with_reducible exact gj K _ _
  | with_reducible exact jo _ _
  | with_reducible exact m8 _ _
  | with_reducible exact jp _
  | with_reducible exact dY _
  | with_reducible exact eB _
  | with_reducible exact km K _ _ _ _ _ _
  | with_reducible exact cP
  | with_reducible refine aX ?_
  | with_reducible refine cO ?_ ?_
  | with_reducible refine jn ?_ (fun y z=>?_) fun z=>?_
  | with_reducible refine fB ?_ (fun y=>?_) ?_
  | with_reducible refine aF ?_ fun y=>?_
  | with_reducible refine gh ?_ fun x y=>?_
  | dsimp only[nmN,nmB,nmU,nmP,nmK,nmA,Nm.cn,Array.size_map]
  | simp only[Array.size_map,Option.map_some,Option.map_none]
theorem ze (K:KyOk X)(p q:Array (Fin n)):Rel X (merHi (p.map X.c.it) (q.map X.c.it)) (merHi (p.map X.d.it) (q.map X.d.it)):=by
 change Rel X (_ >>= _) (_ >>= _)
 repeat' first
  | with_reducible exact m6 _
  | with_reducible exact jh _
  | with_reducible exact bD _
  | with_reducible exact cN _
  | with_reducible exact fZ
  | with_reducible exact gL _
  | with_reducible exact ji _
  | exact(⟨_,rfl,rfl⟩:Rr X (Option.map (fun a=>a) _) _)
  | with_reducible refine eh ?_
  | with_reducible refine bE ?_ ?_
  | with_reducible refine f8 ?_
  | with_reducible refine dX ?_
  | with_reducible refine f9 ?_ ?_
  | with_reducible refine jj ?_
  | with_reducible refine jk ?_ ?_
  | with_reducible refine jl ?_
  | with_reducible refine jm ?_
  | with_reducible exact dF _ _
  | with_reducible exact m7 K _ _
  | with_reducible exact gj K _ _
  | with_reducible exact jo _ _
  | with_reducible exact m8 _ _
  | with_reducible exact jp _
  | with_reducible exact dY _
  | with_reducible exact eB _
  | with_reducible exact km K _ _ _ _ _ _
  | with_reducible exact cP
  | with_reducible refine aX ?_
  | with_reducible refine cO ?_ ?_
  | with_reducible refine jn ?_ (fun y z=>?_) fun z=>?_
  | with_reducible refine fB ?_ (fun y=>?_) ?_
  | with_reducible refine aF ?_ fun y=>?_
  | with_reducible refine gh ?_ fun x y=>?_
  | dsimp only[nmN,nmB,nmU,nmP,nmK,nmA,Nm.cn,Array.size_map]
  | simp only[Array.size_map,Option.map_some,Option.map_none]
theorem o8 {γ δ:Type}(f:γ→δ)(k:Nat):∀ (l:List (γ×Nat)) (a:Array γ),(l.map fun x=>(f x.1,x.2)).foldl (fun a x=>a.setIfInBounds (k+x.2) x.1) (a.map f)=(l.foldl (fun a x=>a.setIfInBounds (k+x.2) x.1) a).map f
 | [],a=>rfl
 | x::l,a=>by
  rw[List.map_cons,List.foldl_cons,List.foldl_cons]
  show (l.map _).foldl _ ((a.map f).setIfInBounds (k+x.2) (f x.1))=_
  rw[← Array.map_setIfInBounds]
  exact o8 f k l _
theorem xg {γ δ:Type}(f:γ→δ)(m:Array γ):(m.map f).toList.zipIdx=m.toList.zipIdx.map fun x=>(f x.1,x.2):=by
 rw[Array.toList_map,List.zipIdx_map]
 rfl
theorem zf (K:KyOk X)(i:Nat):Rel X (mergeAt' i) (mergeAt' i):=by
 change Rel X (_ >>= _) (_ >>= _)
 refine aF cP fun y=>?_
 dsimp only[nmS,Nm.cn]
 cases y.2.1[i]? with
 | none=>exact eB _
 | some u =>
  cases y.2.1[i+1]? with
  | none=>exact eB _
  | some v =>
   obtain⟨sa,na,pw⟩:=u
   obtain⟨sb,nb,pw'⟩:=v
   dsimp only
   refine aF (y9 ⟨(y.1,(y.2.1.setIfInBounds i (sa,na+nb,pw)).eraseIdxIfInBounds (i+1),y.2.2),rfl,rfl⟩) fun _=>?_
   refine aF (dF _ _) fun e=>?_
   refine fB (km K _ _ _ _ _ _) (fun k0=>?_) ?_
   rotate_left
   ·exact aX (bD _)
   dsimp only[nmN,nmK,Nm.cn]
   refine cO (aX (bD _)) ?_
   refine aF (dF _ _) fun e=>?_
   refine fB (km K _ _ _ _ _ _) (fun k=>?_) ?_
   rotate_left
   ·exact aX (bD _)
   dsimp only[nmN,nmK,Nm.cn]
   refine cO (aX (bD _)) ?_
   simp only[← Array.map_extract]
   refine cO (aF (zd K _ _) fun m=>?_) (aF (ze K _ _) fun m=>?_)
   all_goals
    refine aF (gg fun z=>⟨((m:Array (Fin n)).toList.zipIdx.foldl (fun a x=>a.setIfInBounds (sa+k0+x.2) x.1) z.1,z.2),?_,?_⟩) fun _=>aF cP fun z=>aX (bD true)
    all_goals
     show SortSt.mk' _ _ _ _ _=SortSt.mk' _ _ _ _ _
     congr 1
     exact Eq.trans (by rw[show ((Nm.cn m _:Array Keyed)).toList.zipIdx=_ from xg _ m];rfl) (o8 _ (sa+k0) _ z.1)
theorem xh (K:KyOk X)(i j:Nat):Rel X ((sortPriv% PySem.Builtin.countRun) i j) ((sortPriv% PySem.Builtin.countRun) i j):=uV K i j
theorem AF (K:KyOk X)(i j k:Nat):Rel X ((sortPriv% PySem.Builtin.binarySort) i j k) ((sortPriv% PySem.Builtin.binarySort) i j k):=zc K i j k
theorem AG (K:KyOk X)(i:Nat):Rel X ((sortPriv% PySem.Builtin.mergeAt) i) ((sortPriv% PySem.Builtin.mergeAt) i):=zf K i
theorem xi (K:KyOk X):Rel X sortRuns' sortRuns':=by
 change Rel X (_ >>= _) (_ >>= _)
 repeat' first
  | with_reducible exact m6 _
  | with_reducible exact jh _
  | with_reducible exact bD _
  | with_reducible exact cN _
  | with_reducible exact fZ
  | with_reducible exact gL _
  | with_reducible exact ji _
  | exact(⟨_,rfl,rfl⟩:Rr X (Option.map (fun a=>a) _) _)
  | with_reducible refine eh ?_
  | with_reducible refine bE ?_ ?_
  | with_reducible refine f8 ?_
  | with_reducible refine dX ?_
  | with_reducible refine f9 ?_ ?_
  | with_reducible refine jj ?_
  | with_reducible refine jk ?_ ?_
  | with_reducible refine jl ?_
  | with_reducible refine jm ?_
  | with_reducible exact dF _ _
  | with_reducible exact m7 K _ _
  | with_reducible exact gj K _ _
  | with_reducible exact jo _ _
  | with_reducible exact m8 _ _
  | with_reducible exact jp _
  | with_reducible exact dY _
  | with_reducible exact eB _
  | with_reducible exact xh K _ _
  | with_reducible exact AF K _ _ _
  | with_reducible exact AG K _
  | exact gg fun y=>⟨(y.1,y.2.1.push _,y.2.2),rfl,rfl⟩
  | exact gg fun y=>⟨(y.1,y.2.1.modify (y.2.1.size - 1) (fun x=>(x.1,x.2.1,_)),y.2.2),rfl,rfl⟩
  | with_reducible exact cP
  | with_reducible refine aX ?_
  | with_reducible refine cO ?_ ?_
  | with_reducible refine jn ?_ (fun y z=>?_) fun z=>?_
  | with_reducible refine fB ?_ (fun y=>?_) ?_
  | with_reducible refine aF ?_ fun y=>?_
  | with_reducible refine gh ?_ fun x y=>?_
  | dsimp only[nmN,nmB,nmU,nmP,nmK,nmA,nmS,Nm.cn,Array.size_map]
  | simp only[Array.size_map,Option.map_some,Option.map_none]
  | (generalize Array.back? _=o;obtain _ | ⟨s1,n1,pw⟩:=o)
  | (by_cases hp:y.2.1.size > 1<;>simp only[hp,if_true,if_false])
  | (generalize y.2.1[y.2.1.size - 2]?=o;obtain _ | ⟨s1,n1,pw⟩:=o)
end
open PySem.W (KasT kas_sort kas_ask kat_run kat_kind kat_lt KatLex KatGo KatTups)
section
variable {prog:Program}{w:World}{A:Around}{E:Value→Shared→Prop}{s:Shared}{b fin:Bool}{Q:Bool→Shared→Prop}
theorem zg (b:Bool){n m:Int}{t u:Tok}(h:Q (decide (n < m)) s):wpAny (model prog w) A (oneLt' b (.int n t) (.int m u)) Q E s:=by
 cases b with
 | true=>exact oneLt_int h
 | false=>exact PySem.W.kat_one _ _ (PyProof.Rows.lt_int h)
theorem o9:∀ {xs ys:List Value} {ns ms:List Int} (i:Nat),IntsAre xs ns→IntsAre ys ms→fin=decide (ns.length < ms.length)→Q (lexI ns ms) s→KatLex prog w A b fin Q (xs.zip ys) i s
 | [],[],[],[],i,.nil,.nil,e,q=>by subst e;exact q
 | [],_,[],_,i,.nil,.cons m u k,e,q=>by
  subst e
  show Q (decide _) s
  rw[decide_eq_true (by simp)]
  exact q
 | _,[],_,[],i,.cons n t h,.nil,e,q=>by
  subst e
  rw[List.zip_nil_right]
  show Q (decide _) s
  rw[decide_eq_false (by simp)]
  exact q
 | _,_,_,_,i,.cons n t h,.cons m u k,e,q=>by
  rw[List.zip_cons_cons]
  refine PySem.W.kat_cons (wpAny_eqBool_int ?_)
  unfold lexI at q
  by_cases c:n=m
  ·rw[if_pos c]at q
   rw[show (n==m)=true from by simp[c]]
   exact PySem.W.kat_yes (o9 (i+1) h k (by rw[e];simp) q)
  ·rw[if_neg c]at q
   rw[show (n==m)=false from by simp[c]]
   exact PySem.W.kat_no (zg _ q)
end
def TT (h:Heap)(v:Value)(k:List Int):Prop:=∃ a xs,v=.ref a∧IsTup h a xs∧IntsAre xs.toList k
theorem TT.keep {h h':Heap}{v:Value}{k:List Int}{c:Addr}{o:Obj}(t:TT h v k)(hc:h.get? c=some o)(ho:o.cls≠.type "tuple")(kp:∀ b o,b≠c→h.get? b=some o→h'.get? b=some o):TT h' v k:=by
 obtain⟨a,xs,rfl,⟨o',e,z,d⟩,i⟩:=t
 refine⟨a,xs,rfl,⟨o',kp a o' (fun q=>?_) e,z,d⟩,i⟩
 subst q
 rw[hc]at e
 cases e
 exact ho z
def ts64:List (List Int):=(List.range 64).map fun (i:Nat)=>[((i%8:Nat):Int),((i/8:Nat):Int)]
def p64:List Nat:=(List.range 64).map fun i=>i%8*8+i/8
def sortP (ks:List (List Int)):List Nat:=if ks.length < 2 then List.range ks.length else if ks.length < 64 then (kRun (fun i j=>lexI (ks.getD i []) (ks.getD j [])) (kas_sort ks.length)).toList else p64
def f64 (i:Fin 64):Int:=((i.1%8*8+i.1/8:Nat):Int)
def q64:List (Fin 64):=(List.finRange 64).map fun i=>⟨(i.1%8*8+i.1/8)%64,Nat.mod_lt _ (by decide)⟩
def it64 (i:Fin 64):Keyed:=(.int (f64 i) 0,.int (f64 i) 0)
def ev64 (σ:Setting):Option (List Int):=(ev σ (sortRuns'.run (SortSt.mk' oneType' ((List.finRange 64).toArray.map it64) #[] 7 none))).bind outS
theorem AH (σ:Setting):ev64 (sg σ true)=some ((List.range 64).map fun (i:Nat)=>(i:Int)):=by kernel_rfl
theorem AI (σ:Setting):ev64 (sg σ false)=some ((List.range 64).map fun (i:Nat)=>(i:Int)):=by kernel_rfl
theorem Bz:q64.map f64=(List.range 64).map fun (i:Nat)=>(i:Int):=by decide +kernel
theorem zJ:q64.map (·.1)=p64:=by decide +kernel
theorem zi:∀ i j:Fin 64,f64 i=f64 j→i=j:=by decide +kernel
theorem AJ:∀ i j:Fin 64,lexI (ts64.getD i.1 []) (ts64.getD j.1 [])=decide (f64 i < f64 j):=by decide +kernel
open PySem.W (KasT kas_sort kas_ask kat_run kat_kind kat_lt KatLex KatGo KatTups)
section
variable {prog:Program}{w:World}{A:Around}{E:Value→Shared→Prop}{s:Shared}{vs:List Value}{ks:List (List Int)}
abbrev κT:SortKind:=tuples' (Value.type "int" != Value.type "tuple")
theorem TT.lt {x y:Value}{k l:List Int}{Q:Bool→Shared→Prop}{b:Bool}(h1:TT s.heap x k)(h2:TT s.heap y l)(q:Q (lexI k l) s):wpAny (model prog w) A (keyLt' (tuples' b) x y) Q E s:=by
 obtain⟨a,xs,rfl,⟨o,e,c,n,d⟩,i⟩:=h1
 obtain⟨a',xs',rfl,⟨o',e',c',n',d'⟩,i'⟩:=h2
 refine kat_lt e d e' d' (o9 0 i i' ?_ q)
 rw[← i.length,← i'.length,Array.length_toList,Array.length_toList]
theorem TT.kind (h2:0 < vs.length)(hl:ks.length=vs.length)(hne:∀ k∈ks,k≠[])(hv:∀ i v,vs[i]?=some v→TT s.heap v (ks.getD i [])){Q:SortKind→Shared→Prop}(q:Q κT s):wpAny (model prog w) A (keyKind' vs.toArray) Q E s:=by
 have go:∀ (vs:List Value) (ks:List (List Int)),ks.length=vs.length→(∀ k∈ks,k≠[])→(∀ i v,vs[i]?=some v→TT s.heap v (ks.getD i []))→∃ fs,KatTups s.heap vs fs∧fs.length=vs.length∧∀ v∈fs,∃ n t,v=Value.int n t:=by
  intro vs
  induction vs with
  | nil=>intro ks _ _ _;exact⟨[],trivial,rfl,fun _ h=>nomatch h⟩
  | cons v vs ih =>
   intro ks hl hne hv
   cases ks with
   | nil=>simp at hl
   | cons k ks =>
    obtain⟨fs,t,lf,hf⟩:=ih ks (by simpa using hl) (fun x hx=>hne x (List.mem_cons_of_mem _ hx)) (fun i u e=>by simpa using hv (i+1) u (by simpa using e))
    obtain⟨a,xs,rfl,⟨o,e,c,n,d⟩,i⟩:=hv 0 v rfl
    have i:IntsAre xs.toList k:=i
    have k1:=hne k List.mem_cons_self
    cases hx:xs.toList with
    | nil=>rw[hx]at i;cases i;exact(k1 rfl).elim
    | cons x r =>
     rw[hx]at i
     cases i with
     | cons m u i' =>
      refine⟨.int m u::fs,KatTups.cons e c d (by rw[← Array.getElem?_toList,hx];rfl) t,by simp[lf],fun v hv=>?_⟩
      rcases List.mem_cons.mp hv with rfl | hv
      ·exact⟨m,u,rfl⟩
      ·exact hf v hv
 obtain⟨fs,t,lf,hf⟩:=go vs ks hl hne hv
 refine kat_kind (T:=.type "int") t (by omega) (fun v hv=>?_) rfl q
 obtain⟨n,t,rfl⟩:=hf v hv
 exact PySem.W.Looks.of_pure rfl
def outT (ks:List (List Int))(vs:List Value):List Value:=(sortP ks).map fun i=>vs.getD i .none
theorem AK (h2:2≤vs.length)(hl:ks.length=vs.length)(hv:∀ i v,vs[i]?=some v→TT s.heap v (ks.getD i []))(h64:ks.length < 64∨ks=ts64)
  {Q:SortSt→Shared→Prop} (q:∀ st,(arrOf st).map (·.2)=(outT ks vs).toArray→failedOf st=none→Q st s):wpAny (model prog w) A (sortRuns'.run (SortSt.mk' κT (vs.toArray.zip vs.toArray) #[] 7 none)) (fun r s'=>Q r.2 s') E s:=by
 have hd:∀ i,i < vs.length→TT s.heap (vs.getD i .none) (ks.getD i []):=fun i hi=>hv i _ (by simp[List.getD,hi])
 by_cases c:ks.length < 64
 ·refine kat_run (G:=fun p s'=>p=kRun (fun i j=>lexI (ks.getD i []) (ks.getD j [])) (kas_sort vs.length)∧s'=s) rfl h2 (by omega) (fun p st s' hp e1 e2 e3=>?_) (KOk.wp (fun i j C hi hj h=>TT.lt (hd i hi) (hd j hj) h) (sZ (by omega)) ⟨rfl,rfl⟩)
  obtain⟨rfl,rfl⟩:=e3
  refine q st ?_ e2
  rw[PySem.W.kat_snds rfl e1]
  unfold outT sortP
  rw[if_neg (by omega),if_pos c,hl]
 ·obtain rfl:ks=ts64:=h64.resolve_left c
  have l64:vs.length=64:=by rw[← hl];decide +kernel
  obtain⟨X,hX⟩:∃ X:Rx 64,X=⟨⟨fun i=>(vs.getD i.1 .none,vs.getD i.1 .none),κT⟩,⟨it64,oneType'⟩,⟨prog,w.params⟩,prog,w,A,E,s⟩:=⟨_,rfl⟩
  have K:KyOk X:=by
   subst hX
   refine⟨rfl,⟨f64,fun i=>⟨_,_,rfl⟩,fun i j C h=>?_⟩,⟨⟨prog,w.params⟩,_,(sV _).symm⟩⟩
   exact TT.lt (hd i.1 (by omega)) (hd j.1 (by omega)) (by rw[AJ];exact h)
  have e64:ev64 ⟨prog,w.params⟩=some ((List.range 64).map fun (i:Nat)=>(i:Int)):=by
   rw[← sV ⟨prog,w.params⟩]
   cases (⟨prog,w.params⟩:Setting).params.followText "special-get-raises"
   ·exact AI _
   ·exact AH _
  unfold ev64 at e64
  cases q0:ev ⟨prog,w.params⟩ (sortRuns'.run (SortSt.mk' oneType' ((List.finRange 64).toArray.map it64) #[] 7 none)) with
  | none=>rw[q0]at e64;cases e64
  | some z =>
   rw[q0]at e64
   have e64:outS z=some _:=e64
   have R:=xi K ((List.finRange 64).toArray,#[],7) z (by subst hX;exact q0) (fun r=>Q r.2 s) (fun y hy=>by
    obtain⟨u,rfl,rfl⟩:=hy
    subst hX
    refine q _ ?_ rfl
    unfold outS at e64
    split at e64
    ·have en:(u.2.1:Array (Fin 64)).toList.map f64=(List.range 64).map fun (i:Nat)=>(i:Int):=by
      have e:numsV (((u.2.1:Array (Fin 64)).map it64).map (·.2)).toList=some _:=e64
      have go:∀ l:List (Fin 64),numsV (l.map fun i=>(it64 i).2)=some (l.map f64):=by
       intro l
       induction l with
       | nil=>rfl
       | cons a l ih=>show (numsV _).map _=_;rw[ih];rfl
      rw[Array.map_map,Array.toList_map]at e
      exact Option.some.inj ((go _).symm.trans e)
     rw[← Bz]at en
     have eq:(u.2.1:Array (Fin 64)).toList=q64:=(List.map_inj_right (fun x y h=>zi x y h)).mp en
     show ((u.2.1:Array (Fin 64)).map fun i=>(vs.getD i.1 Value.none,vs.getD i.1 Value.none)).map (·.2)=_
     apply Array.toList_inj.mp
     rw[Array.map_map,Array.toList_map,eq]
     unfold outT sortP
     rw[if_neg (by omega),if_neg c,← zJ,List.map_map]
     rfl
    ·cases e64)
   subst hX
   have es:(Nm.cn (((List.finRange 64).toArray,#[],7):Nm.Ab 64 SortSt) ⟨fun i=>(vs.getD i.1 .none,vs.getD i.1 .none),κT⟩:SortSt)=SortSt.mk' κT (vs.toArray.zip vs.toArray) #[] 7 none:=by
    show SortSt.mk' _ _ _ _ _=_
    congr 1
    apply Array.toList_inj.mp
    apply List.ext_getElem (by simp[l64])
    intro i h1 h2
    simp
    have:i < vs.length:=by simp at h1;omega
    simp[this]
   have R:wpAny (model prog w) A (sortRuns'.run (Nm.cn (((List.finRange 64).toArray,#[],7):Nm.Ab 64 SortSt) ⟨fun i=>(vs.getD i.1 .none,vs.getD i.1 .none),κT⟩:SortSt)) (fun r s'=>s'=s∧Q r.2 s) E s:=R
   rw[es]at R
   exact wpAny_mono R (fun r s' h=>by obtain⟨rfl,h⟩:=h;exact h) fun _ _ x=>x
theorem gm (h:ks.length < 64∨ks=ts64):(sortP ks).Perm (List.range ks.length):=by
 unfold sortP
 split
 ·exact .refl _
 ·split
  ·rename_i h1 h2
   exact KOk.run _ (sZ (by omega))
  ·rename_i h1 h2
   obtain rfl:ks=ts64:=h.resolve_left h2
   rw[← zJ]
   decide +kernel
theorem pb {a:Addr}{n:Nat}{P:PySem.Fin→Shared→Prop}(ho:s.heap.get? a=some (seqObj "list" vs.toArray n))(hl:ks.length=vs.length)(hne:∀ k∈ks,k≠[])(hv:∀ i v,vs[i]?=some v→TT s.heap v (ks.getD i []))(h64:ks.length < 64∨ks=ts64)
  (h:P (.done (.ret .none)) { s with heap:=sortedHeap s.heap a vs (outT ks vs).toArray }):wpAny (model prog w) A (Builtin.«list.sort» ⟨[.ref a],[]⟩) P E s:=by
 have la:a < s.heap.objs.size:=Heap.lt_size ho
 have hz:vs.length≤1000:=by
  rw[← hl]
  rcases h64 with h | rfl
  ·omega
  ·decide +kernel
 have lo:(outT ks vs).length=vs.length:=by unfold outT;rw[List.length_map,(gm h64).length_eq,List.length_range,hl]
 rw[list_sort_plain]
 refine wpAny_bind (listItems_at ho rfl (wpAny_bind (listUpdate_at ho rfl ?_ (by rw[List.size_toArray,sizeLine_eq];omega) (by simp))))
 have e1:=get?_update_seq ho (fun _=>#[])
 refine wpAny_bind (seqEpoch_at e1 rfl (wpAny_bind (wpAny_newTuple ?_ (by rw[sizeLine_eq];show vs.length≤_;omega))))
 refine wpAny_bind (wpAny_newList (wpAny_holding ?_))
 have e2:(((s.heap.update a (Obj.mapSeq fun _=>#[])).push (seqObj "tuple" vs.toArray 0)).push (seqObj "list" #[] 0)).get? a=some (seqObj "list" #[] _):=Heap.get?_push_of_some _ (Heap.get?_push_of_some _ e1)
 have kp:∀ b o,b≠a→s.heap.get? b=some o→(((s.heap.update a (Obj.mapSeq fun _=>#[])).push (seqObj "tuple" vs.toArray 0)).push (seqObj "list" #[] 0)).get? b=some o:=fun b o hb e =>
  Heap.get?_push_of_some _ (Heap.get?_push_of_some _ (by rw[(Heap.SameBut.update s.heap a _).2 b hb];exact e))
 have hv':∀ i v,vs[i]?=some v→TT (((s.heap.update a (Obj.mapSeq fun _=>#[])).push (seqObj "tuple" vs.toArray 0)).push (seqObj "list" #[] 0)) v (ks.getD i []):=fun i v e=>(hv i v e).keep ho (by show Value.type "list" ≠ Value.type "tuple";decide) kp
 have sz:(outT ks vs).toArray.size≤sizeLine:=by rw[List.size_toArray,lo,sizeLine_eq];omega
 show wpAny (model prog w) A _ P E { s with heap:=((s.heap.update a (Obj.mapSeq fun _=>#[])).push (seqObj "tuple" vs.toArray 0)).push (seqObj "list" #[] 0) }
 dsimp only
 by_cases h2:vs.toArray.size < 2
 ·rw[if_pos h2,if_pos h2]
  refine wpAny_bind (wpAny_pure ?_)
  rw[StateT.run_pure]
  refine wpAny_bind (wpAny_pure ?_)
  dsimp only
  have eo:Array.map (fun x=>x.2) (vs.toArray.zip vs.toArray)=(outT ks vs).toArray:=by
   rw[List.size_toArray]at h2
   unfold outT sortP
   rw[if_pos (by omega),hl]
   match vs,h2 with
   | [],_=>simp
   | [_],_=>simp[List.range_succ]
  refine wpAny_bind (seqEpoch_at e2 rfl ?_)
  rw[show Array.map (fun x=>x.2) (arrOf (SortSt.mk' general' (vs.toArray.zip vs.toArray) #[] 7 none))=(outT ks vs).toArray from eo]
  refine wpAny_bind (listUpdate_at e2 rfl ?_ (by simp) (Nat.le_succ_of_le sz))
  simp only[bne_self_eq_false,Bool.false_eq_true,if_false]
  exact wpAny_pure h
 ·rw[if_neg h2,if_neg h2]
  rw[List.size_toArray]at h2
  refine wpAny_bind (TT.kind (by omega) hl hne hv' (wpAny_bind (AK (Q:=fun st s'=>(arrOf st).map (·.2)=(outT ks vs).toArray∧failedOf st=none∧s'=_) (by omega) hl hv' h64 (fun st a b=>⟨a,b,rfl⟩) |> fun g=>wpAny_mono g (fun r s' hr=>?_) fun _ _ x=>x)))
  obtain⟨ea,ef,rfl⟩:=hr
  try dsimp only
  refine wpAny_bind (seqEpoch_at e2 rfl ?_)
  rw[ea]
  refine wpAny_bind (listUpdate_at e2 rfl ?_ (by simp) (Nat.le_succ_of_le sz))
  rw[ef]
  simp only[bne_self_eq_false,Bool.false_eq_true,if_false]
  exact wpAny_pure h
theorem xj {l:Addr}{Q:Value→Shared→Prop}(hL:s.heap.IsList l vs.toArray)(hl:ks.length=vs.length)(hne:∀ k∈ks,k≠[])(hv:∀ i v,vs[i]?=some v→TT s.heap v (ks.getD i []))(h64:ks.length < 64∨ks=ts64)
  (h:Q (.ref (s.heap.objs.size+1)) { s with heap:=sortedAll s.heap vs (outT ks vs).toArray }):wpAny (model prog w) A (call (.builtin "sorted") [.ref l]) Q E s:=by
 have hz:vs.length≤1000:=by
  rw[← hl]
  rcases h64 with h | rfl
  ·omega
  ·decide +kernel
 refine Calls.call_function_entry kind_sorted plain_sorted entry_sorted (args_sorted1 _) ?_
 have go:wpAny (model prog w) A.in1 (collect (.ref l) >>= fun xs=>newList xs >>= fun l=>holding [l] (call (.builtin "list.sort") [l]) >>= fun _=>ret l) (fun fin s'=>∃ v,fin=.done (.ret v)∧Q v s') E s:=by
  refine wpAny_bind (collect_list hL ?_ (by rw[sizeLine_eq];omega))
  refine wpAny_bind (wpAny_newList ?_ (by rw[sizeLine_eq];omega))
  have hs:((s.heap.push (seqObj "list" #[] 0)).update s.heap.objs.size (Obj.mapSeq (·++vs.toArray))).objs.size=s.heap.objs.size+1:=by rw[Heap.size_update,size_push']
  have e1:(((s.heap.push (seqObj "list" #[] 0)).update s.heap.objs.size (Obj.mapSeq (·++vs.toArray))).push (seqObj "list" vs.toArray 0)).get? (s.heap.objs.size+1)=some (seqObj "list" vs.toArray 0):=by
   rw[← hs];exact Heap.get?_push_size _ rfl
  have kp:∀ b o,s.heap.get? b=some o→(((s.heap.push (seqObj "list" #[] 0)).update s.heap.objs.size (Obj.mapSeq (·++vs.toArray))).push (seqObj "list" vs.toArray 0)).get? b=some o:=fun b o e=>by
   have lt:b < s.heap.objs.size:=Heap.lt_size e
   refine Heap.get?_push_of_some _ ?_
   rw[(Heap.SameBut.update _ _ _).2 b (Nat.ne_of_lt lt)]
   exact Heap.get?_push_of_some _ e
  show wpAny _ _ _ _ _ { s with heap:=((s.heap.push (seqObj "list" #[] 0)).update s.heap.objs.size (Obj.mapSeq (·++vs.toArray))).push (seqObj "list" vs.toArray 0) }
  rw[hs]
  refine wpAny_bind (wpAny_holding (wpAny_call_entry slot_list_sort ⟨_,e1,rfl⟩ entry_list_sort (pb e1 hl hne (fun i v e=>?_) h64 ⟨_,rfl,?_⟩) (args_list_sort _)))
  ·obtain⟨a,xs,rfl,⟨o,e,c,d⟩,i⟩:=hv i v e
   exact⟨a,xs,rfl,⟨o,kp _ _ e,c,d⟩,i⟩
  ·exact wpAny_pure ⟨_,rfl,h⟩
 exact go
end
def tupsI:List D→Option (List (List Int))
 | []=>some []
 | x::r=>match tupI? x,tupsI r with
  | some (a::k),some ks=>some ((a::k)::ks)
  | _,_=>none
def dSortT:List D→R D
 | [.lst xs]=>match tupsI xs with
  | some ks=>if ks.length < 64∨ks=ts64 then .ok (.lst ((sortP ks).map fun i=>xs.getD i .non)) else .stuck
  | none=>.stuck
 | _=>.stuck
theorem pd:∀ {xs:List D} {ks:List (List Int)},tupsI xs=some ks→ks.length=xs.length∧(∀ k∈ks,k≠[])∧∀ i x,xs[i]?=some x→tupI? x=some (ks.getD i [])
 | [],ks,e=>by cases e;exact⟨rfl,fun _ h=>(nomatch h),fun _ _ h=>(nomatch h)⟩
 | x::r,ks,e=>by
  unfold tupsI at e
  split at e
  ·rename_i a k ks' e1 e2
   cases e
   obtain⟨h1,h2,h3⟩:=pd e2
   refine⟨by simp[h1],fun k hk=>?_,fun i y hy=>?_⟩
   ·rcases List.mem_cons.mp hk with rfl | hk
    ·exact fun z=>nomatch z
    ·exact h2 k hk
   ·cases i with
    | zero=>cases hy;exact e1
    | succ i=>simpa using h3 i y (by simpa using hy)
  ·cases e
theorem m9 {K:PySem.W.Frag}{C:Nat→Addr}{Z:Hp}{xs:List D}{us:List V}(h:Reps K C Z xs us):∀ (l:List Nat) (us':List V),(∀ j∈l,j < xs.length)→(∀ (i j:Nat),l[i]?=some j→us'[i]?=us[j]?)→us'.length=l.length→Reps K C Z (l.map fun i=>xs.getD i .non) us'
 | [],us',_,_,e=>by
  obtain rfl:us'=[]:=List.length_eq_zero_iff.mp e
  exact Reps.nil
 | j::l,us',hj,hi,e=>by
  cases us' with
  | nil=>cases e
  | cons u us' =>
   have hjl:=hj j List.mem_cons_self
   have e1:xs[j]?=some xs[j]:=List.getElem?_eq_getElem hjl
   obtain⟨v,e2,r2⟩:=h.get e1
   have e3:=hi 0 j rfl
   rw[e2]at e3
   cases e3
   refine Reps.cons ?_ (m9 h l us' (fun x hx=>hj x (List.mem_cons_of_mem _ hx)) (fun i j' q=>by simpa using hi (i+1) j' (by simpa using q)) (by simpa using e))
   show Rep K C Z (xs.getD j .non) _
   rw[show xs.getD j .non=xs[j] by rw[List.getD_eq_getElem?_getD,e1];rfl]
   exact r2
section
variable {X:Cx}{F:Fx}{p pos:Pos}{e:Expr}{gs:SS→R (List D)}{k:Nat}
theorem rA:CallR X (.builtin "sorted") (fun xs H Q=>∃ (a:Addr) (us:List V) (ks:List (List Int)),xs=[.ref a]∧SqL X.K H a us∧ks.length=us.length∧(∀ k∈ks,k≠[])∧(∀ (i:Nat) v,us[i]?=some v→∃ b,v=.ref b∧SqT X.K H b ((ks.getD i []).map V.int))∧(ks.length < 64∨ks=ts64) ∧
  ∀ p us',H p=none→(∀ (i j:Nat),(sortP ks)[i]?=some j→us'[i]?=us[j]?)→us'.length=us.length→Q (.ref p) (upd H p (.lst us'))):=by
 intro pins s σ H xs us Q I r h
 obtain⟨a,vs,ks,rfl,hq,hl,hne,ht,h64,q⟩:=h
 obtain⟨u,rfl,ru⟩:=vals1 r
 cases ru
 obtain⟨its,rv,pl,hz⟩:=I.list hq
 have hL:=rv.length
 have back:∀ (i:Nat) u,its[i]?=some u→∃ v,vs[i]?=some v∧RelV v u:=fun i u e=>by
  cases e':vs[i]? with
  | none=>rw[Vals.none_of rv e']at e;cases e
  | some v =>
   obtain⟨u',e1,r1⟩:=rv.get e'
   rw[e]at e1;cases e1
   exact⟨v,rfl,r1⟩
 refine xj (ks:=ks) pl.isList (by omega) hne (fun i u e=>?_) h64 ?_
 ·obtain⟨v,e1,r1⟩:=back i u e
  obtain⟨a,rfl,hT⟩:=ht i v e1
  cases r1
  obtain⟨ts,r2,p2,_⟩:=I.tuple hT
  exact⟨a,ts.toArray,rfl,p2,by simpa using kz r2⟩
 ·obtain⟨n,hn⟩:=sortedAll_at s.heap its (outT ks its).toArray
  have pm:=gm h64
  have mk:∀ l:List Nat,(∀ j∈l,j < vs.length)→∃ us',Vals us' (l.map fun i=>its.getD i .none)∧(∀ (i j:Nat),l[i]?=some j→us'[i]?=vs[j]?)∧us'.length=l.length:=by
   intro l
   induction l with
   | nil=>intro _;exact⟨[],.nil,fun _ _ h=>(nomatch h),rfl⟩
   | cons j l ih =>
    intro hj
    obtain⟨us',h1,h2,h3⟩:=ih fun x hx=>hj x (List.mem_cons_of_mem _ hx)
    have hjl:=hj j List.mem_cons_self
    have e1:vs[j]?=some vs[j]:=List.getElem?_eq_getElem hjl
    obtain⟨u',e2,r2⟩:=rv.get e1
    refine⟨vs[j]::us',.cons (by show RelV _ (its.getD j .none);rw[List.getD_eq_getElem?_getD,e2];exact r2) h1,fun i j' e=>?_,by simp[h3]⟩
    cases i with
    | zero=>cases e;exact e1.symm
    | succ i=>exact h2 i j' (by simpa using e)
  obtain⟨us',r',g1,g2⟩:=mk (sortP ks) (fun j hj=>by have:=List.mem_range.mp (pm.subset hj);omega)
  have lp:(sortP ks).length=vs.length:=by rw[pm.length_eq,List.length_range,hl]
  have hz2:us'.length≤sizeLine:=by rw[g2,lp];omega
  exact⟨.ref (s.heap.objs.size+1),_,I.laid (o:=.lst us') (t':=s.toks) (fun b u q=>sortedAll_old q) (Nat.le_succ _) ⟨hz2,(outT ks its),n,r',by simpa [seqObj] using hn⟩,rfl,q _ us' (I.hok.fresh (Nat.le_succ _)) g1 (by omega)⟩
theorem rB (bx:BX X F k)(hg:Gl X "sorted")(hm:X.mg "sorted"=none)(ha:FA X F [e] gs)(he:starEach [e] X.env=(false,eval e X.env)::starEach [] X.env:=by rfl)(hpl:(backTo pos (starEach [] X.env)).any (·.1)=false:=by rfl) :
  FE X F (.Call (.Name "sorted" p) [e] [] pos) (eCall dSortT gs) :=
 (ft rA hg hm boot_sorted ha (he:=he) (hpl:=hpl)).weak fun σ H Q ⟨Z,S,ok,w⟩=>by
  refine aS ok w fun ds vs H1 Z1 ok1 x1 rs w1=>?_
  unfold dSortT at w1
  split at w1
  ·rename_i xs
   split at w1
   ·rename_i ks e
    split at w1
    ·rename_i hl
     obtain⟨v,rfl,h⟩:=a9 rs
     rw[Rep]at h
     obtain⟨a,us,rfl,h1,h2⟩:=h
     have hlen:=h2.length
     obtain⟨k1,k2,k3⟩:=pd e
     refine⟨a,us,ks,rfl,by rw[bx.K];exact ok1.sub.seq h1,by omega,k2,fun i u e1=>?_,hl,fun c us' hc g1 g2=>?_⟩
     ·obtain⟨dx,e2,r2⟩:=h2.get' e1
      have e3:=k3 i dx e2
      cases dx with
      | tup ts =>
       rw[Rep]at r2
       obtain⟨a2,us2,rfl,g1,g2⟩:=r2
       have:=b9 g2 e3
       subst this
       exact⟨a2,rfl,by rw[bx.K];exact g1.mono ok1.sub⟩
      | _=>cases e3
     ·have pm:=gm hl
      refine w1 _ _ (Ex.alloc ok1.sub hc) _ ?_
      rw[Rep]
      exact⟨c,us',rfl,SqL.of ar,(m9 h2 _ _ (fun j hj=>by have:=List.mem_range.mp (pm.subset hj);omega) g1 (by rw[g2,pm.length_eq,List.length_range];omega)).mono (aJ (ok1.sub.free hc))⟩
    ·exact w1.elim
   ·exact w1.elim
  ·exact w1.elim
end
section
variable {X:Cx}{F:Fx}{a b:Expr}{gs:SS→R (List D)}{k:Nat}{p p2 pos pos2:Pos}
theorem kW {ta:TA}(hc:X.calm=true)(hg:Gl X "list")(hm:X.mg "list"=none)(hg2:Gl X "range")(hm2:X.mg "range"=none)(ha:PA X [a,b] ta)
  (hs:starEach [a,b] X.env=[(false,eval a X.env),(false,eval b X.env)]) (hs2:starEach [b] X.env=[(false,eval b X.env)]) (hs3:starEach [.Call (.Name "range" p2) [a,b] [] pos2] X.env=[(false,eval (.Call (.Name "range" p2) [a,b] [] pos2) X.env)]) :
  PE X (.Call (.Name "list" p) [.Call (.Name "range" p2) [a,b] [] pos2] [] pos) (fun σ H Q=>ta σ H fun ws H1=>∃ i j:Int,ws=[.int i,.int j]∧((-16777216≤i∧i≤16777216)∧(-16777216≤j∧j≤16777216)∧j - i≤16777216)∧∀ l,H1 l=none→Q (.ref l) (upd H1 l (.lst ((List.range (j - i).toNat).map fun (m:Nat)=>.int (i+(m:Nat)))))):=by
 intro pins s σ H Q I h
 refine Call_ (fm I hg hm uG (PyProof.Rows.callWith_type1 ?_ (by rw[hs3];rfl) (by rfl)))
 rw[hs3]
 refine Calls.spliced_cons ?_
 refine Call_ (fm I hg2 hm2 boot_range (PyProof.Rows.callWith_type1 (thn (ha pos2 pins s σ H _ I h) fun us s1 ⟨vs,H1,I1,r1,q1⟩=>?_) (by rw[hs,hs2]) (by rw[hs2];rfl)))
 obtain⟨i,j,e,⟨h0,h1,h2⟩,q⟩:=q1
 subst e
 cases r1 with
 | cons r rr =>
  cases rr with
  | cons r' rr =>
   cases rr
   obtain⟨t,rfl⟩:=r
   obtain⟨t',rfl⟩:=r'
   refine call_range_2 (Calls.spliced_nil ?_)
   have I2:Inv X pins σ H1 { s1 with heap:=s1.heap.push { cls:=.type "range",data:=.fields #[.int i t,.int j t',.int 1 s1.toks] },toks:=s1.toks+1 }:=I1.kept fun b o e=>Heap.get?_push_of_some _ e
   refine call_list_range (n:=(j - i).toNat) (I1.ok.hd hc) (IsRange.new ..) (small_one (by omega) (by omega) (by omega) (by omega)) (by rw[rangeSize_one];split<;>omega) (by omega) fun h' tk acc' c' hk hS hacc=>?_
   have hv:Vals ((List.range (j - i).toNat).map fun (m:Nat)=>V.int (i+(m:Nat))) acc'.toList:=by
    have:∀ (n k:Nat) (vs:List Value),vs.length=n→(∀ (m:Nat) (v:Value),vs[m]?=some v→∃ t,v=.int (i+((k+m:Nat):Int)) t)→Vals ((List.range' k n).map fun (m:Nat)=>V.int (i+(m:Nat))) vs:=by
     intro n
     induction n with
     | zero=>intro k vs hl _;cases vs with
      | nil=>exact .nil
      | cons _ _=>simp at hl
     | succ n ih =>
      intro k vs hl h
      cases vs with
      | nil=>simp at hl
      | cons v vs =>
       rw[List.range'_succ]
       refine .cons (show ∃ t,v=Value.int (i+(k:Int)) t by simpa using h 0 v rfl) (ih (k+1) vs (by simpa using hl) fun m u e=>?_)
       obtain⟨t,rfl⟩:=h (m+1) u (by simpa using e)
       exact⟨t,by rw[show k+(m+1)=k+1+m by omega]⟩
    have h2:=this (j - i).toNat 0 acc'.toList (by have:=hacc.1;simpa using this) fun m v e=>by
     obtain⟨t,rfl⟩:=hacc.2 m v (by simpa using e)
     exact⟨t,by rw[Nat.zero_add,Int.mul_one]⟩
    rw[← List.range_eq_range']at h2
    exact h2
   refine⟨.ref _,_,I2.laid (t':=tk) (o:=.lst ((List.range (j - i).toNat).map fun (m:Nat)=>.int (i+(m:Nat)))) hk (Nat.le_refl _) ⟨by rw[sizeLine_eq,List.length_map,List.length_range];omega,acc'.toList,c',hv,by simpa using hS⟩,rfl,q _ (I2.hok.fresh (Nat.le_refl _))⟩
theorem kX (bx:BX X F k)(hg:Gl X "list")(hm:X.mg "list"=none)(hg2:Gl X "range")(hm2:X.mg "range"=none)(ha:FA X F [a,b] gs)
  (hs:starEach [a,b] X.env=[(false,eval a X.env),(false,eval b X.env)]:=by rfl) (hs2:starEach [b] X.env=[(false,eval b X.env)]:=by rfl) (hs3:starEach [.Call (.Name "range" p2) [a,b] [] pos2] X.env=[(false,eval (.Call (.Name "range" p2) [a,b] [] pos2) X.env)]:=by rfl) :
  FE X F (.Call (.Name "list" p) [.Call (.Name "range" p2) [a,b] [] pos2] [] pos) (fun S=>((gs S).bind rng2).bind fun zs=>R.ok (FF.D.lst zs)) :=
 (kW bx.calm hg hm hg2 hm2 ha hs hs2 hs3).weak fun σ H Q ⟨Z,S,ok,w⟩=>by
  have w:WG F H Z (((gs S).bind rng2).bind fun zs=>R.ok (FF.D.lst zs)) _:=w
  rw[R.bind_assoc]at w
  refine aS ok w fun ds vs H1 Z1 ok1 x1 rs w1=>?_
  cases e:rng2 ds with
  | err k=>exact(sJ e).elim
  | stuck=>rw[e]at w1;exact w1.elim
  | ok es =>
   rw[e]at w1
   obtain⟨i,j,rfl,hj,rfl⟩:=sI e
   have w3:WG F H1 Z1 (R.ok (FF.D.lst (rngD i (j - i).toNat))) _:=w1
   refine⟨i,j,kH rs,hj,fun l hl=>?_⟩
   have z:Same Z1 (upd Z1 l (.lst ((List.range (j - i).toNat).map fun (m:Nat)=>.int (i+(m:Nat))))):=aJ (ok1.sub.free hl)
   refine w3 _ _ (Ex.alloc ok1.sub hl) _ ?_
   rw[Rep]
   exact⟨l,_,rfl,SqL.of ar,hZ i _⟩
end
end FF
end
noncomputable section
namespace Lw
open PySem FF
def esL:List Nat:=[1,2,5,6]
namespace F
abbrev ae:Nat:=20
abbrev ac:Nat:=21
abbrev aI:Nat:=22
abbrev aC:Nat:=23
abbrev az:Nat:=24
abbrev ag:Nat:=25
abbrev aw:Nat:=26
abbrev ao:Nat:=43
abbrev ap:Nat:=44
abbrev aM:Nat:=27
abbrev ab:Nat:=28
abbrev av:Nat:=65
abbrev aq:Nat:=45
abbrev aN:Nat:=46
abbrev aA:Nat:=47
abbrev au:Nat:=48
abbrev aF:Nat:=49
abbrev aB:Nat:=50
abbrev a5:Nat:=51
abbrev aY:Nat:=52
abbrev ba:Nat:=53
abbrev aZ:Nat:=29
abbrev ax:Nat:=188
abbrev a6:Nat:=189
abbrev aO:Nat:=190
abbrev aP:Nat:=191
abbrev aD:Nat:=192
abbrev aQ:Nat:=193
abbrev ar:Nat:=194
abbrev bh:Nat:=195
abbrev aX:Nat:=196
abbrev a3:Nat:=197
abbrev bc:Nat:=203
abbrev aJ:Nat:=204
abbrev aR:Nat:=205
abbrev aj:Nat:=69
abbrev aG:Nat:=70
abbrev bd:Nat:=125
abbrev a0:Nat:=84
abbrev bb:Nat:=71
abbrev aV:Nat:=127
abbrev bf:Nat:=128
abbrev a1:Nat:=209
abbrev aS:Nat:=210
abbrev a2:Nat:=211
abbrev a7:Nat:=212
abbrev bg:Nat:=213
abbrev ak:Nat:=214
abbrev ai:Nat:=215
abbrev a8:Nat:=216
abbrev af:Nat:=217
abbrev ad:Nat:=218
abbrev aW:Nat:=219
abbrev ah:Nat:=220
abbrev aK:Nat:=221
abbrev aT:Nat:=222
abbrev an:Nat:=223
abbrev a4:Nat:=156
abbrev aH:Nat:=157
abbrev aE:Nat:=162
abbrev aU:Nat:=163
abbrev be:Nat:=30
abbrev aa:Nat:=31
abbrev al:Nat:=32
abbrev ay:Nat:=54
abbrev a9:Nat:=55
abbrev aL:Nat:=229
end F
def fvL:List Nat:=[21]
def gM (t:Nat→List D→R D)(thing:D):L Unit :=
 lB (vAnd (dIsA qInt thing) (vNot (dIsA qBool thing))) .rt
def eD (t:Nat→List D→R D)(thing:D):L Unit :=
 lB (vAnd (t F.ae [thing]) (rCh dLe dLe (.int 0) thing (.ok (.int 9)))) .rt
def gn (t:Nat→List D→R D)(thing:D):L Unit :=
 lB (vAnd (t F.ae [thing]) (rCh dLe dLe (.int 0) thing (.ok (.int 3)))) .rt
def dZ (t:Nat→List D→R D)(size_:D)(thing:D)(is_end:D):L Unit :=
 lS (lB (σ:=Unit) (rNot (asB (dIsA qTup thing))) fun b=>if b=true then lB (onF fvL is_end fun i=>t i [thing]) .rt else .nx ()) fun _ =>
 lS (lB (σ:=Unit) (rOr (asB (dEq size_ (.int 0))) (asB ((dLen [thing]).bind fun x=>dNf x (.int 4)))) fun b1=>if b1=true then .rt (.bl false) else .nx ()) fun _ =>
 lB (((sq thing).bind fun xs=>cMap (fun part=>(dSub size_ (.int 1)).bind fun x1=>t F.aC [x1,part,is_end]) xs).bind fun x2=>dAll [x2]) .rt
def bF (t:Nat→List D→R D)(thing:D)(is_end:D):L Unit :=
 lS (lB (σ:=Unit) (rOr (rNot (asB (dIsA qTup thing))) (asB ((dLen [thing]).bind fun x=>dNf x (.int 2)))) fun b=>if b=true then .rt (.bl false) else .nx ()) fun _ =>
 lB (vAnd ((dIx thing (.int 0)).bind fun x3=>t F.aI [x3]) ((dIx thing (.int 0)).bind fun x1=>(dIx thing (.int 1)).bind fun x2=>t F.aC [x1,x2,is_end])) .rt
def bU (t:Nat→List D→R D)(four:D):L Unit :=
 lB (dIx four (.int 0)) fun first =>
 lS (lB (σ:=Unit) (rAnd (rNot (asB (dIsA qTup first))) (asB (dEq four (.tup [first,first,first,first])))) fun b=>if b=true then .rt first else .nx ()) fun _ =>
 .rt four
def cz (t:Nat→List D→R D)(tree_:D):L Unit :=
 lS (lB (σ:=Unit) (rNot (asB (dIsA qTup tree_))) fun b=>if b=true then .rt tree_ else .nx ()) fun _ =>
 lB ((((sq tree_).bind fun xs=>cMap (fun part=>t F.aw [part]) xs).bind fun x=>dTuple [x]).bind fun x1=>t F.ag [x1]) .rt
def di (t:Nat→List D→R D)(tree_:D)(side:D)(x:D)(y:D):L Unit :=
 lS (lB (σ:=Unit) (rNot (asB (dIsA qTup tree_))) fun b=>if b=true then .rt tree_ else .nx ()) fun _ =>
 lB (dDiv side (.int 2)) fun half =>
 lB (((dDiv y half).bind fun x1=>dMul (.int 2) x1).bind fun x2=>(dDiv x half).bind fun x3=>dAdd x2 x3) fun number =>
 lB ((dIx tree_ number).bind fun x4=>(dMod x half).bind fun x5=>(dMod y half).bind fun x6=>t F.ao [x4,half,x5,x6]) .rt
def d0 (t:Nat→List D→R D)(rows:D)(left:D)(top:D)(side:D):L Unit :=
 lS (lB (σ:=Unit) (asB (dEq side (.int 1))) fun b=>if b=true then lB ((dIx rows top).bind fun x=>dIx x left) .rt else .nx ()) fun _ =>
 lB (dDiv side (.int 2)) fun half =>
 lB (((t F.ap [rows,left,top,half]).bind fun x1=>((dAdd left half).bind fun x2=>t F.ap [rows,x2,top,half]).bind fun x3=>((dAdd top half).bind fun x4=>t F.ap [rows,left,x4,half]).bind fun x5=>((dAdd left half).bind fun x6=>(dAdd top half).bind fun x7=>t F.ap [rows,x6,x7,half]).bind fun x8=>.ok (.tup [x1,x3,x5,x8])).bind fun x9=>t F.ag [x9]) .rt
def cQ (t:Nat→List D→R D)(thing:D):L Unit :=
 lB (t F.az [thing,(.fn F.ac)]) .rt
def bG (t:Nat→List D→R D)(thing:D):L Unit :=
 lB (rNot (asB (t F.aM [thing]))) fun b=>if b=true then .er 1 else .nx ()
def cr (t:Nat→List D→R D)(thing:D):L Unit :=
 lB (rNot (asB (t F.ac [thing]))) fun b=>if b=true then .er 1 else .nx ()
def gp (t:Nat→List D→R D)(picture:D):L Unit :=
 lB ((dIx picture (.int 0)).bind fun x=>dIx (tupI [1,2,4,8]) x) .rt
def eE (t:Nat→List D→R D)(side:D)(thing:D):L Unit :=
 lB (vAnd (t F.ae [thing]) (rCh dLe dLt (.int 0) thing (.ok side))) .rt
def cR (t:Nat→List D→R D)(picture:D)(x:D)(y:D):L Unit :=
 lB (t F.aq [picture]) fun side =>
 lB (rOr (rNot (asB (t F.aN [side,x]))) (rNot (asB (t F.aN [side,y])))) fun b=>if b=true then .er 2 else .nx ()
def eF (t:Nat→List D→R D)(picture:D)(x:D)(y:D):L Unit :=
 lB (t F.ab [picture]) fun _ =>
 lB (t F.aA [picture,x,y]) fun _ =>
 lB ((dIx picture (.int 1)).bind fun x1=>(t F.aq [picture]).bind fun x2=>t F.ao [x1,x2,x,y]) .rt
def dG (t:Nat→List D→R D)(picture:D)(y:D):L Unit :=
 lB (t F.aq [picture]) fun side =>
 lB (((rng1 [side]).bind fun xs=>cMap (fun x=>(dIx picture (.int 1)).bind fun x1=>t F.ao [x1,side,x,y]) xs).bind fun x2=>dTuple [x2]) .rt
def cS (t:Nat→List D→R D)(picture:D):L Unit :=
 lB (t F.ab [picture]) fun _ =>
 lB ((((t F.aq [picture]).bind fun x=>rng1 [x]).bind fun xs=>cMap (fun y=>t F.aF [picture,y]) xs).bind fun x1=>dTuple [x1]) .rt
def io (t:Nat→List D→R D)(thing:D)(side:D):L Unit :=
 lS (lB (σ:=Unit) (rOr (rNot (asB (dIsA qTup thing))) (asB ((dLen [thing]).bind fun x=>dNf x side))) fun b=>if b=true then .rt (.bl false) else .nx ()) fun _ =>
 lB (((sq thing).bind fun xs=>cMap (fun worth=>t F.ac [worth]) xs).bind fun x1=>dAll [x1]) .rt
def eG (t:Nat→List D→R D)(thing:D):L Unit :=
 lS (lB (σ:=Unit) (rOr (rNot (asB (dIsA qTup thing))) (asB ((dLen [thing]).bind fun x=>dNotInD x (tupI [1,2,4,8])))) fun b=>if b=true then .rt (.bl false) else .nx ()) fun _ =>
 lB (((sq thing).bind fun xs=>cMap (fun row=>(dLen [thing]).bind fun x1=>t F.a5 [row,x1]) xs).bind fun x2=>dAll [x2]) .rt
def gq (t:Nat→List D→R D)(rows:D):L Unit :=
 lS (lB (σ:=Unit) (rNot (asB (t F.aY [rows]))) fun b=>if b=true then .er 1 else .nx ()) fun _ =>
 lB (dLen [rows]) fun side =>
 lB ((onT (tupI [1,2,4,8]) fun ls=>dIndexI ls [side]).bind fun x=>(t F.ap [rows,(.int 0),(.int 0),side]).bind fun x1=>.ok (.tup [x,x1])) .rt
def nN (t:Nat→List D→R D)(picture:D):L Unit :=
 lB (t F.ab [picture]) fun _ =>
 lB ((dIx picture (.int 0)).bind fun x=>((dIx picture (.int 1)).bind fun x1=>t F.aw [x1]).bind fun x2=>.ok (.tup [x,x2])) .rt
def fC (t:Nat→List D→R D)(left:D)(top:D)(half:D)(told:List D)(number:D)(part:D):L (List D) :=
 lB (((((dMod number (.int 2)).bind fun x=>dMul x half).bind fun x1=>dAdd left x1).bind fun x2=>(((dDiv number (.int 2)).bind fun x3=>dMul x3 half).bind fun x4=>dAdd top x4).bind fun x5=>t F.ax [part,x2,x5,half]).bind fun x6=>oExt told x6) fun told1 =>
 .nx told1
def cA (t:Nat→List D→R D)(tree_:D)(left:D)(top:D)(side:D):L Unit :=
 lS (lB (σ:=Unit) (rNot (asB (dIsA qTup tree_))) fun b=>if b=true then .rt (.lst [(.tup [left,top,side,tree_])]) else .nx ()) fun _ =>
 lB (dDiv side (.int 2)) fun half =>
 lS (lB (dEnum tree_) fun xs=>lFor (τ:=List D) (fun s p=>lUn2 p fun x0 x1=>fC t left top half s x0 x1) xs []) fun told1 =>
 .rt (.lst told1)
def ip (t:Nat→List D→R D)(picture:D):L Unit :=
 lB (((t F.aZ [picture]).bind fun x=>dIx x (.int 1)).bind fun x1=>(t F.aq [picture]).bind fun x2=>t F.ax [x1,(.int 0),(.int 0),x2]) .rt
def eI (t:Nat→List D→R D)(thing:D)(side:D):L Unit :=
 lB (vAnd (dGe thing (.int 0)) ((dMod thing side).bind fun x=>dEq x (.int 0))) .rt
def bN (t:Nat→List D→R D)(thing:D):L Unit :=
 lS (lB (σ:=Unit) (rOr (rNot (asB (dIsA qTup thing))) (asB ((dLen [thing]).bind fun x=>dNf x (.int 4)))) fun b=>if b=true then .rt (.bl false) else .nx ()) fun _ =>
 lS (lB (σ:=Unit) (rNot (asB (((sq thing).bind fun xs=>cMap (fun number=>t F.ae [number]) xs).bind fun x1=>dAll [x1]))) fun b1=>if b1=true then .rt (.bl false) else .nx ()) fun _ =>
 lB (dIx thing (.int 2)) fun side =>
 lB (vAnd (dInD side (tupI [1,2,4,8])) (vAnd ((dIx thing (.int 0)).bind fun x4=>t F.aO [x4,side]) (vAnd ((dIx thing (.int 1)).bind fun x3=>t F.aO [x3,side]) ((dIx thing (.int 3)).bind fun x2=>t F.ac [x2])))) .rt
def bc (t:Nat→List D→R D)(side:D)(thing:D):L (Unit) :=
 lS (lB (σ:=Unit) (rNot (asB (t F.aP [thing]))) fun b=>if b=true then .er 6 else .nx ()) fun _ =>
 lB (rOr (asB (((dIx thing (.int 0)).bind fun x3=>(dIx thing (.int 2)).bind fun x4=>dAdd x3 x4).bind fun x5=>dGt x5 side)) (asB (((dIx thing (.int 1)).bind fun x=>(dIx thing (.int 2)).bind fun x1=>dAdd x x1).bind fun x2=>dGt x2 side))) fun b1=>if b1=true then .er 6 else .nx ()
def bV (t:Nat→List D→R D)(size_:D)(things:D):L Unit :=
 lS (lB (σ:=Unit) (rOr (rNot (asB (t F.aI [size_]))) (rNot (asB (dIsA qList things)))) fun b=>if b=true then .er 6 else .nx ()) fun _ =>
 lB (dIx (tupI [1,2,4,8]) size_) fun side =>
 lS (lB (sq things) fun xs=>lFor (τ:=Unit) (fun _ x=>bc t side x) xs ()) fun _ =>
 .nx ()
def cu (t:Nat→List D→R D)(block:D)(spots:List D)(y:D):L (List D) :=
 lB ((((dIx block (.int 0)).bind fun x=>((dIx block (.int 0)).bind fun x1=>(dIx block (.int 2)).bind fun x2=>dAdd x1 x2).bind fun x3=>rng2 [x,x3]).bind fun xs=>cMap (fun x4=>.ok (.tup [x4,y])) xs).bind fun x5=>oExt spots x5) fun spots1 =>
 .nx spots1
def eJ (t:Nat→List D→R D)(block:D):L Unit :=
 lS (lB ((dIx block (.int 1)).bind fun x=>((dIx block (.int 1)).bind fun x1=>(dIx block (.int 2)).bind fun x2=>dAdd x1 x2).bind fun x3=>rng2 [x,x3]) fun xs1=>lFor (τ:=List D) (fun s x=>cu t block s x) xs1 []) fun spots1 =>
 .rt (.lst spots1)
def a7 (t:Nat→List D→R D)(block:D)(worths:List (List Int×D))(spot:D):L (List (List Int×D)) :=
 lS (lB (σ:=Unit) (asB (oTIn worths spot)) fun b=>if b=true then .er 6 else .nx ()) fun _ =>
 lB ((dIx block (.int 3)).bind fun x=>oTSt worths spot x) fun worths1=>.nx worths1
def a8 (t:Nat→List D→R D)(worths:List (List Int×D))(block:D):L (List (List Int×D)) :=
 lS (lB ((t F.aQ [block]).bind fun x=>sq x) fun xs=>lFor (τ:=List (List Int×D)) (fun s x=>a7 t block s x) xs worths) fun worths2 =>
 .nx worths2
def bp (t:Nat→List D→R D)(squares:D):L Unit :=
 lS (lB (sq squares) fun xs1=>lFor (τ:=List (List Int×D)) (fun s x=>a8 t s x) xs1 []) fun worths2 =>
 .rt (tabD worths2)
def iq (t:Nat→List D→R D)(worths:D)(side:D)(y:D):L Unit :=
 lB (((rng1 [side]).bind fun xs=>cMap (fun x=>dTx worths (.tup [x,y])) xs).bind fun x1=>dTuple [x1]) .rt
def dH (t:Nat→List D→R D)(size_:D)(squares:D):L Unit :=
 lB (t F.aD [size_,squares]) fun _ =>
 lB (t F.ar [squares]) fun worths =>
 lB (dIx (tupI [1,2,4,8]) size_) fun side =>
 lS (lB (σ:=Unit) (asB ((dLenD [worths]).bind fun x=>(dMul side side).bind fun x1=>dNf x x1)) fun b=>if b=true then .er 6 else .nx ()) fun _ =>
 lB ((((rng1 [side]).bind fun xs=>cMap (fun y=>t F.bh [worths,side,y]) xs).bind fun x2=>dTuple [x2]).bind fun x3=>t F.ba [x3]) .rt
def eL (t:Nat→List D→R D)(block:D)(x:D)(y:D):L Unit :=
 lB (vAnd ((dIx block (.int 0)).bind fun x4=>rCh dLe dLt x4 x ((dIx block (.int 0)).bind fun x5=>(dIx block (.int 2)).bind fun x6=>dAdd x5 x6)) ((dIx block (.int 1)).bind fun x1=>rCh dLe dLt x1 y ((dIx block (.int 1)).bind fun x2=>(dIx block (.int 2)).bind fun x3=>dAdd x2 x3))) .rt
def kY (t:Nat→List D→R D)(one:D)(other:D)(along:D):L Unit :=
 lB (vOr (((dIx one along).bind fun x4=>(dIx one (.int 2)).bind fun x5=>dAdd x4 x5).bind fun x6=>(dIx other along).bind fun x7=>dEq x6 x7) (((dIx other along).bind fun x=>(dIx other (.int 2)).bind fun x1=>dAdd x x1).bind fun x2=>(dIx one along).bind fun x3=>dEq x2 x3)) .rt
def d4 (t:Nat→List D→R D)(one:D)(other:D)(along:D):L Unit :=
 lB (vAnd ((dIx one along).bind fun x4=>((dIx other along).bind fun x5=>(dIx other (.int 2)).bind fun x6=>dAdd x5 x6).bind fun x7=>dLt x4 x7) ((dIx other along).bind fun x=>((dIx one along).bind fun x1=>(dIx one (.int 2)).bind fun x2=>dAdd x1 x2).bind fun x3=>dLt x x3)) .rt
def cT (t:Nat→List D→R D)(one:D)(other:D):L Unit :=
 lB (vOr (vAnd (t F.bc [one,other,(.int 0)]) (t F.aJ [one,other,(.int 1)])) (vAnd (t F.bc [one,other,(.int 1)]) (t F.aJ [one,other,(.int 0)]))) .rt
def bW (t:Nat→List D→R D)(tree_:D)(order:D):L Unit :=
 lS (lB (σ:=Unit) (rNot (asB (dIsA qTup tree_))) fun b=>if b=true then .rt tree_ else .nx ()) fun _ =>
 lB (((sq order).bind fun xs=>cMap (fun number=>(dIx tree_ number).bind fun x=>t F.aj [x,order]) xs).bind fun x1=>dTuple [x1]) .rt
def kn (t:Nat→List D→R D)(picture:D)(order:D):L Unit :=
 lB (t F.aZ [picture]) fun shown =>
 lB ((dIx shown (.int 0)).bind fun x=>((dIx shown (.int 1)).bind fun x1=>t F.aj [x1,order]).bind fun x2=>.ok (.tup [x,x2])) .rt
def ir (t:Nat→List D→R D)(picture:D):L Unit :=
 lB (t F.aG [picture,(tupI [2,0,3,1])]) .rt
def eM (t:Nat→List D→R D)(picture:D):L Unit :=
 lB (t F.aG [picture,(tupI [1,0,3,2])]) .rt
def gr (t:Nat→List D→R D)(picture:D):L Unit :=
 lB (t F.aG [picture,(tupI [0,2,1,3])]) .rt
def dJ (t:Nat→List D→R D)(thing:D):L Unit :=
 lB (rOr (rNot (asB (t F.ae [thing]))) (rNot (asB (rCh dLe dLt (.int 0) thing (.ok (.int 8)))))) fun b=>if b=true then .er 2 else .nx ()
def dL (t:Nat→List D→R D)(told:D)(step:D):L (D) :=
 lB (t F.bd [told]) fun told1 =>
 .nx told1
def iu (t:Nat→List D→R D)(picture:D)(way:D):L Unit :=
 lB (t F.aZ [picture]) fun told =>
 lB (t F.aV [way]) fun _ =>
 lS (lB (σ:=D) (asB (dGe way (.int 4))) fun b=>if b=true then lB (t F.a0 [told]) fun told1 =>
 .nx told1 else .nx told) fun told2 =>
 lS (lB ((dMod way (.int 4)).bind fun x=>rng1 [x]) fun xs=>lFor (τ:=D) (fun s x=>dL t s x) xs told2) fun told4 =>
 .rt told4
def eN (t:Nat→List D→R D)(block:D)(area:D):L Unit :=
 lB (((sq area).bind fun xs=>cMap (fun other=>vAnd ((dIx block (.int 3)).bind fun x=>(dIx other (.int 3)).bind fun x1=>dEq x x1) (t F.aR [block,other])) xs).bind fun x2=>dAny [x2]) .rt
def bH (t:Nat→List D→R D)(block:D)(area:List D)(apart:List D)(other:D):L (List D×List D) :=
 lB (asB (t F.a1 [block,other])) fun b=>if b=true then lB (oExt area other) fun area1 =>
 .nx (area1,apart) else lB (oApp apart other) fun apart1 =>
 .nx (area,apart1)
def cU (t:Nat→List D→R D)(block:D)(found:D):L Unit :=
 lS (lB (sq found) fun xs=>lFor (τ:=List D×List D) (fun s x=>bH t block s.1 s.2 x) xs ([block],[])) fun s1 =>
 lB (dAdd (.lst s1.2) (.lst [(.lst s1.1)])) .rt
def eO (t:Nat→List D→R D)(area:D)(squares:D):L Unit :=
 lB ((sq squares).bind fun xs=>cFil (fun block=>(asB (dInD block area))) (fun block=>.ok block) xs) .rt
def dl (t:Nat→List D→R D)(found:D)(block:D):L (D) :=
 lB (t F.aS [block,found]) fun found1 =>
 .nx found1
def kq (t:Nat→List D→R D)(picture:D):L Unit :=
 lB (t F.a6 [picture]) fun squares =>
 lS (lB (sq squares) fun xs=>lFor (τ:=D) (fun s x=>dl t s x) xs (.lst [])) fun found1 =>
 lB ((sq found1).bind fun xs1=>cMap (fun area=>t F.a2 [area,squares]) xs1) .rt
def kr (t:Nat→List D→R D)(x:D)(y:D)(area:D):L Unit :=
 lB (((sq area).bind fun xs=>cMap (fun block=>t F.a3 [block,x,y]) xs).bind fun x1=>dAny [x1]) .rt
def bX (t:Nat→List D→R D)(picture:D)(x:D)(y:D):L Unit :=
 lB (t F.ab [picture]) fun _ =>
 lB (t F.aA [picture,x,y]) fun _ =>
 lB ((((t F.a7 [picture]).bind fun x1=>sq x1).bind fun xs=>cFil (fun area=>(asB (t F.bg [x,y,area]))) (fun area=>.ok area) xs).bind fun x2=>dIx x2 (.int 0)) .rt
def iw (t:Nat→List D→R D)(spots:List D)(block:D):L (List D) :=
 lB ((t F.aQ [block]).bind fun x=>oExt spots x) fun spots1 =>
 .nx spots1
def gu (t:Nat→List D→R D)(picture:D)(x:D)(y:D):L Unit :=
 lS (lB ((t F.ak [picture,x,y]).bind fun x1=>sq x1) fun xs=>lFor (τ:=List D) (fun s x=>iw t s x) xs []) fun spots1 =>
 lB (dSortT [(.lst spots1)]) .rt
def cW (t:Nat→List D→R D)(area:D):L Unit :=
 lB (((sq area).bind fun xs=>cMap (fun block=>(dIx block (.int 2)).bind fun x=>(dIx block (.int 2)).bind fun x1=>dMul x x1) xs).bind fun x2=>dSum [x2]) .rt
def cX (t:Nat→List D→R D)(picture:D):L Unit :=
 lB ((((t F.a7 [picture]).bind fun x=>sq x).bind fun xs=>cMap (fun area=>t F.a8 [area]) xs).bind fun x1=>dSortI [x1]) .rt
def bq (t:Nat→List D→R D)(picture:D):L Unit :=
 lB ((t F.a7 [picture]).bind fun x=>dLen [x]) .rt
def dM (t:Nat→List D→R D)(row:D):L Unit :=
 lB ((((dLen [row]).bind fun x=>rng2 [(.int 1),x]).bind fun xs=>cFil (fun place=>(asB ((dIx row place).bind fun x1=>((dSub place (.int 1)).bind fun x2=>dIx row x2).bind fun x3=>dNf x1 x3))) (fun place=>.ok (.int 1)) xs).bind fun x4=>dSum [x4]) .rt
def bI (t:Nat→List D→R D)(picture:D):L Unit :=
 lB ((((t F.aB [picture]).bind fun x=>sq x).bind fun xs=>cMap (fun row=>t F.aW [row]) xs).bind fun x1=>dSum [x1]) .rt
def iy (t:Nat→List D→R D)(picture:D):L Unit :=
 lB ((t F.ah [picture]).bind fun x=>((t F.bb [picture]).bind fun x1=>t F.ah [x1]).bind fun x2=>dAdd x x2) .rt
def cY (t:Nat→List D→R D)(block:D)(worth:D):L Unit :=
 lB ((dIx block (.int 0)).bind fun x=>(dIx block (.int 1)).bind fun x1=>(dIx block (.int 2)).bind fun x2=>.ok (.tup [x,x1,x2,worth])) .rt
def iz (t:Nat→List D→R D)(picture:D)(x:D)(y:D)(worth:D):L Unit :=
 lB (t F.ak [picture,x,y]) fun area =>
 lB (t F.av [worth]) fun _ =>
 lB (((t F.a6 [picture]).bind fun x1=>sq x1).bind fun xs=>cFil (fun block=>(asB (dNotInD block area))) (fun block=>.ok block) xs) fun rest_ =>
 lB ((dIx picture (.int 0)).bind fun x2=>(((sq area).bind fun xs1=>cMap (fun block1=>t F.aT [block1,worth]) xs1).bind fun x3=>dAdd rest_ x3).bind fun x4=>t F.aX [x2,x4]) .rt
def eQ (t:Nat→List D→R D)(thing:D):L Unit :=
 lS (lB (σ:=Unit) (rOr (rNot (asB (dIsA qTup thing))) (asB ((dLen [thing]).bind fun x=>(dAdd (.int 9) (.int 1)).bind fun x1=>dNf x x1))) fun b=>if b=true then .rt (.bl false) else .nx ()) fun _ =>
 lB (((sq thing).bind fun xs=>cMap (fun worth=>t F.ac [worth]) xs).bind fun x2=>dAll [x2]) .rt
def cw (t:Nat→List D→R D)(thing:D):L Unit :=
 lB (rNot (asB (t F.a4 [thing]))) fun b=>if b=true then .er 5 else .nx ()
def dn (t:Nat→List D→R D)(table:D)(tree_:D):L Unit :=
 lS (lB (σ:=Unit) (rNot (asB (dIsA qTup tree_))) fun b=>if b=true then lB (dIx table tree_) .rt else .nx ()) fun _ =>
 lB ((((sq tree_).bind fun xs=>cMap (fun part=>t F.aE [table,part]) xs).bind fun x=>dTuple [x]).bind fun x1=>t F.ag [x1]) .rt
def eR (t:Nat→List D→R D)(table:D)(picture:D):L Unit :=
 lB (t F.aH [table]) fun _ =>
 lB (t F.ab [picture]) fun _ =>
 lB ((dIx picture (.int 0)).bind fun x=>((dIx picture (.int 1)).bind fun x1=>t F.aE [table,x1]).bind fun x2=>.ok (.tup [x,x2])) .rt
def iA (t:Nat→List D→R D)(BQ:D)(B2:D):L Unit :=
 lS (lB (σ:=Unit) (asB ((dLen [BQ]).bind fun x=>dLt B2 x)) fun b=>if b=true then lB (dIx BQ B2) .rt else .nx ()) fun _ =>
 lS (lB (σ:=Unit) (asB (dEq BQ (.lst []))) fun b1=>if b1=true then .rt (.int 0) else .nx ()) fun _ =>
 lB (((((dLen [BQ]).bind fun x1=>dMod B2 x1).bind fun x2=>dIx BQ x2).bind fun x3=>dMul x3 (.int 31)).bind fun x4=>dAdd x4 B2) .rt
def iB (t:Nat→List D→R D)(BQ:D)(B2:D)(Ch:D):L Unit :=
 lB ((((t F.be [BQ,B2]).bind fun x=>((dAdd B2 (.int 1)).bind fun x1=>dMul (.int 6151) x1).bind fun x2=>dAdd x x2).bind fun x3=>dMul x3 (.int 40692)).bind fun x4=>dMod x4 (.int 2147483399)) fun Ca =>
 lB ((((dMul Ca Ca).bind fun x5=>(dDiv Ca (.int 31)).bind fun x6=>dAdd x5 x6).bind fun x7=>dMod x7 (.int 2147483629)).bind fun x8=>dMod x8 Ch) .rt
def fD (t:Nat→List D→R D)(BQ:D)(Cc:D)(BS:D):L Unit :=
 lB (t F.aa [BQ,Cc,(.int 6)]) fun B3 =>
 lS (lB (σ:=Unit) (rOr (asB (dEq BS (.int 0))) (asB (dLt B3 (.int 2)))) fun b=>if b=true then lB ((((dAdd Cc (.int 1)).bind fun x=>t F.aa [BQ,x,(.int 10)]).bind fun x1=>.ok (.lst [(.int 0),(.int 1),(.int 1),(.int 2),(.int 9),x1])).bind fun x2=>((dAdd Cc (.int 2)).bind fun x3=>t F.aa [BQ,x3,(.int 6)]).bind fun x4=>dIx x2 x4) .rt else .nx ()) fun _ =>
 lS (lB (σ:=Unit) (asB (dEq B3 (.int 2))) fun b1=>if b1=true then lB ((((dAdd Cc (.int 3)).bind fun x5=>(dSub BS (.int 1)).bind fun x6=>t F.al [BQ,x5,x6]).bind fun x7=>.ok (.tup [x7])).bind fun x8=>dMul x8 (.int 4)) .rt else .nx ()) fun _ =>
 lB (((rng1 [(.int 4)]).bind fun xs=>cMap (fun B2=>(((dMul (.int 5) Cc).bind fun x9=>dAdd x9 (.int 7)).bind fun x10=>(dMul (.int 11) B2).bind fun x11=>dAdd x10 x11).bind fun x12=>(dSub BS (.int 1)).bind fun x13=>t F.al [BQ,x12,x13]) xs).bind fun x14=>dTuple [x14]) .rt
def dq (t:Nat→List D→R D)(B4:D)(BU:List D)(Ci:D):L (List D) :=
 lB (((((dIx B4 Ci).bind fun x=>dLen [x]).bind fun x1=>rng1 [x1]).bind fun xs=>cMap (fun B2=>((dIx B4 Ci).bind fun x2=>dIx x2 B2).bind fun x3=>(((dAdd Ci (.int 1)).bind fun x4=>dIx B4 x4).bind fun x5=>dIx x5 B2).bind fun x6=>dAdd x3 x6) xs).bind fun x7=>oExt BU x7) fun Cd =>
 .nx Cd
def cB (t:Nat→List D→R D)(BS:D)(BW:D):L Unit :=
 lS (lB (σ:=Unit) (asB (dEq BS (.int 0))) fun b=>if b=true then .rt (.lst [(.lst [BW])]) else .nx ()) fun _ =>
 lB (rIf (asB (dIsA qTup BW)) (.ok BW) (dMul (.tup [BW]) (.int 4))) fun B6 =>
 lB ((sq B6).bind fun xs=>cMap (fun Cj=>(dSub BS (.int 1)).bind fun x=>t F.ay [x,Cj]) xs) fun B4 =>
 lS (lB (sq (.tup [(.int 0),(.int 2)])) fun xs2=>lFor (τ:=List D) (fun s x=>dq t B4 s x) xs2 []) fun Cd =>
 .rt (.lst Cd)
def iC (t:Nat→List D→R D)(BP:D):L Unit :=
 lB (((((dIx BP (.int 0)).bind fun x=>(dIx BP (.int 1)).bind fun x1=>t F.ay [x,x1]).bind fun x2=>sq x2).bind fun xs=>cMap (fun Ck=>dTuple [Ck]) xs).bind fun x3=>dTuple [x3]) .rt
def cZ (t:Nat→List D→R D)(BQ:D)(BP:D)(BR:D)(BV:D)(B0:D)(B1:D)(BT:D)(BY:D)(BU:D)(B2:D):L (Unit) :=
 lB (((dMul (.int 2) B2).bind fun x=>dAdd (.int 5010) x).bind fun x1=>t F.aa [BQ,x1,BV]) fun Cf =>
 lB (((dMul (.int 2) B2).bind fun x2=>dAdd (.int 5011) x2).bind fun x3=>t F.aa [BQ,x3,BV]) fun Cg =>
 lS (lB (σ:=Unit) (asB ((t F.au [BU,Cf,Cg]).bind fun x4=>(rIf (asB (dInD (.tup [Cf,Cg]) BY)) (.ok BT) ((dIx BR Cg).bind fun x5=>dIx x5 Cf)).bind fun x6=>dNf x4 x6)) fun b=>if b=true then .rt (.bl false) else .nx ()) fun _ =>
 lB (asB ((dInD (.tup [Cf,Cg]) BY).bind fun x7=>((t F.ai [BP,Cf,Cg]).bind fun x8=>dInD (.tup [B0,B1]) x8).bind fun x9=>dNf x7 x9)) fun b1=>if b1=true then .rt (.bl false) else .nx ()
def gw (t:Nat→List D→R D)(BQ:D):L Unit :=
 lB (t F.aa [BQ,(.int 4990),(.int 4)]) fun BS =>
 lB (((dMin2 [BS,(.int 2)]).bind fun x=>t F.al [BQ,(.int 1),x]).bind fun x1=>.ok (.tup [BS,x1])) fun BP =>
 lB (t F.a9 [BP]) fun BR =>
 lB (dLen [BR]) fun BV =>
 lB (t F.aa [BQ,(.int 5000),BV]) fun B0 =>
 lB (t F.aa [BQ,(.int 5001),BV]) fun B1 =>
 lB (t F.aa [BQ,(.int 5002),(.int 3)]) fun BT =>
 lB (t F.ai [BP,B0,B1]) fun BY =>
 lB (t F.an [BP,B0,B1,BT]) fun BU =>
 lS (lB (σ:=Unit) (rOr (asB ((t F.au [BU,B0,B1]).bind fun x4=>dNf x4 BT)) (asB ((t F.ad [BU]).bind fun x2=>(t F.ad [BP]).bind fun x3=>dGt x2 x3))) fun b=>if b=true then .rt (.bl false) else .nx ()) fun _ =>
 lB (t F.ai [BU,B0,B1]) fun BZ =>
 lS (lB (σ:=Unit) (rOr (asB (((sq BY).bind fun xs=>cFil (fun Cb=>(asB (dNotInD Cb BZ))) (fun Cb=>.ok Cb) xs).bind fun x6=>dNf x6 (.lst []))) (asB ((t F.an [BU,B0,B1,BT]).bind fun x5=>dNf x5 BU))) fun b1=>if b1=true then .rt (.bl false) else .nx ()) fun _ =>
 lS (lB (σ:=Unit) (asB (((sq BZ).bind fun xs1=>cFil (fun B5=>(rAnd (asB (dNotInD B5 BY)) (asB ((((dIx B5 (.int 1)).bind fun x7=>dIx BR x7).bind fun x8=>(dIx B5 (.int 0)).bind fun x9=>dIx x8 x9).bind fun x10=>dNf x10 BT)))) (fun B5=>.ok B5) xs1).bind fun x11=>dNf x11 (.lst []))) fun b2=>if b2=true then .rt (.bl false) else .nx ()) fun _ =>
 lS (lB (σ:=Unit) (asB ((((dIx BR B1).bind fun x12=>dIx x12 B0).bind fun x13=>t F.an [BP,B0,B1,x13]).bind fun x14=>(t F.aZ [BP]).bind fun x15=>dNf x14 x15)) fun b3=>if b3=true then .rt (.bl false) else .nx ()) fun _ =>
 lS (lB (rng1 [(.int 4)]) fun xs2=>lFor (τ:=Unit) (fun _ x=>cZ t BQ BP BR BV B0 B1 BT BY BU x) xs2 ()) fun _ =>
 lB (t F.aa [BQ,(.int 5030),(.int 8)]) fun B3 =>
 lB (t F.bf [BP,B3]) fun B7 =>
 lS (lB (σ:=Unit) (rOr (asB ((t F.af [B7]).bind fun x29=>(t F.af [BP]).bind fun x30=>dNf x29 x30)) (asB ((t F.aK [B7]).bind fun x27=>(t F.aK [BP]).bind fun x28=>dNf x27 x28))) fun b6=>if b6=true then .rt (.bl false) else .nx ()) fun _ =>
 lB (t F.aa [BQ,(.int 5031),(.int 10)]) fun B8 =>
 lB ((((rng1 [(.int 10)]).bind fun xs3=>cMap (fun B2=>(dAdd B2 B8).bind fun x31=>dMod x31 (.int 10)) xs3).bind fun x32=>dTuple [x32]).bind fun x33=>t F.aU [x33,BP]) fun B9 =>
 lS (lB (σ:=Unit) (rOr (asB ((t F.af [B9]).bind fun x36=>(t F.af [BP]).bind fun x37=>dNf x36 x37)) (asB ((t F.aK [B9]).bind fun x34=>(t F.aK [BP]).bind fun x35=>dNf x34 x35))) fun b7=>if b7=true then .rt (.bl false) else .nx ()) fun _ =>
 lB ((((((rng2 [(.int 2),(.int 10)]).bind fun zs=>.ok (.lst zs)).bind fun x38=>dTuple [x38]).bind fun x39=>dAdd (.tup [(.int 0),(.int 0)]) x39).bind fun x40=>t F.aU [x40,BP]).bind fun x41=>t F.ad [x41]) fun Ce =>
 lB (vAnd (((t F.af [BP]).bind fun x43=>dSum [x43]).bind fun x44=>(dMul BV BV).bind fun x45=>dEq x44 x45) ((t F.ad [BP]).bind fun x42=>dLe Ce x42)) .rt
def pf:Nat→Nat→List D→R D
 | 0,_=>fun _=>.stuck
 | n+1,i=>match i with
  | 20=>a1 (gM (pf n))
  | 21=>a1 (eD (pf n))
  | 22=>a1 (gn (pf n))
  | 23=>a3 (dZ (pf n))
  | 24=>a2 (bF (pf n))
  | 25=>a1 (bU (pf n))
  | 26=>a1 (cz (pf n))
  | 43=>a4 (di (pf n))
  | 44=>a4 (d0 (pf n))
  | 27=>a1 (cQ (pf n))
  | 28=>a1 (bG (pf n))
  | 65=>a1 (cr (pf n))
  | 45=>a1 (gp (pf n))
  | 46=>a2 (eE (pf n))
  | 47=>a3 (cR (pf n))
  | 48=>a3 (eF (pf n))
  | 49=>a2 (dG (pf n))
  | 50=>a1 (cS (pf n))
  | 51=>a2 (io (pf n))
  | 52=>a1 (eG (pf n))
  | 53=>a1 (gq (pf n))
  | 29=>a1 (nN (pf n))
  | 188=>a4 (cA (pf n))
  | 189=>a1 (ip (pf n))
  | 190=>a2 (eI (pf n))
  | 191=>a1 (bN (pf n))
  | 192=>a2 (bV (pf n))
  | 193=>a1 (eJ (pf n))
  | 194=>a1 (bp (pf n))
  | 195=>a3 (iq (pf n))
  | 196=>a2 (dH (pf n))
  | 197=>a3 (eL (pf n))
  | 203=>a3 (kY (pf n))
  | 204=>a3 (d4 (pf n))
  | 205=>a2 (cT (pf n))
  | 69=>a2 (bW (pf n))
  | 70=>a2 (kn (pf n))
  | 125=>a1 (ir (pf n))
  | 84=>a1 (eM (pf n))
  | 71=>a1 (gr (pf n))
  | 127=>a1 (dJ (pf n))
  | 128=>a2 (iu (pf n))
  | 209=>a2 (eN (pf n))
  | 210=>a2 (cU (pf n))
  | 211=>a2 (eO (pf n))
  | 212=>a1 (kq (pf n))
  | 213=>a3 (kr (pf n))
  | 214=>a3 (bX (pf n))
  | 215=>a3 (gu (pf n))
  | 216=>a1 (cW (pf n))
  | 217=>a1 (cX (pf n))
  | 218=>a1 (bq (pf n))
  | 219=>a1 (dM (pf n))
  | 220=>a1 (bI (pf n))
  | 221=>a1 (iy (pf n))
  | 222=>a2 (cY (pf n))
  | 223=>a4 (iz (pf n))
  | 156=>a1 (eQ (pf n))
  | 157=>a1 (cw (pf n))
  | 162=>a2 (dn (pf n))
  | 163=>a2 (eR (pf n))
  | 30=>a2 (iA (pf n))
  | 31=>a3 (iB (pf n))
  | 32=>a3 (fD (pf n))
  | 54=>a2 (cB (pf n))
  | 55=>a1 (iC (pf n))
  | 229=>a1 (gw (pf n))
  | _=>fun _=>.stuck
theorem ph (n:Nat)(a0:D):pf (n+1) F.ae [a0]=outL (gM (pf n) a0):=rfl
theorem pi (n:Nat)(a0:D):pf (n+1) F.ac [a0]=outL (eD (pf n) a0):=rfl
theorem rC (n:Nat)(a0:D):pf (n+1) F.aI [a0]=outL (gn (pf n) a0):=rfl
theorem kZ (n:Nat)(a0 a1 a2:D):pf (n+1) F.aC [a0,a1,a2]=outL (dZ (pf n) a0 a1 a2):=rfl
theorem jq (n:Nat)(a0 a1:D):pf (n+1) F.az [a0,a1]=outL (bF (pf n) a0 a1):=rfl
theorem j5 (n:Nat)(a0:D):pf (n+1) F.ag [a0]=outL (bU (pf n) a0):=rfl
theorem iD (n:Nat)(a0:D):pf (n+1) F.aw [a0]=outL (cz (pf n) a0):=rfl
theorem jT (n:Nat)(a0 a1 a2 a3:D):pf (n+1) F.ao [a0,a1,a2,a3]=outL (di (pf n) a0 a1 a2 a3):=rfl
theorem k6 (n:Nat)(a0 a1 a2 a3:D):pf (n+1) F.ap [a0,a1,a2,a3]=outL (d0 (pf n) a0 a1 a2 a3):=rfl
theorem mi (n:Nat)(a0:D):pf (n+1) F.aM [a0]=outL (cQ (pf n) a0):=rfl
theorem jr (n:Nat)(a0:D):pf (n+1) F.ab [a0]=outL (bG (pf n) a0):=rfl
theorem k7 (n:Nat)(a0:D):pf (n+1) F.av [a0]=outL (cr (pf n) a0):=rfl
theorem rD (n:Nat)(a0:D):pf (n+1) F.aq [a0]=outL (gp (pf n) a0):=rfl
theorem pj (n:Nat)(a0 a1:D):pf (n+1) F.aN [a0,a1]=outL (eE (pf n) a0 a1):=rfl
theorem mj (n:Nat)(a0 a1 a2:D):pf (n+1) F.aA [a0,a1,a2]=outL (cR (pf n) a0 a1 a2):=rfl
theorem pp (n:Nat)(a0 a1 a2:D):pf (n+1) F.au [a0,a1,a2]=outL (eF (pf n) a0 a1 a2):=rfl
theorem nO (n:Nat)(a0 a1:D):pf (n+1) F.aF [a0,a1]=outL (dG (pf n) a0 a1):=rfl
theorem ml (n:Nat)(a0:D):pf (n+1) F.aB [a0]=outL (cS (pf n) a0):=rfl
theorem uW (n:Nat)(a0 a1:D):pf (n+1) F.a5 [a0,a1]=outL (io (pf n) a0 a1):=rfl
theorem pq (n:Nat)(a0:D):pf (n+1) F.aY [a0]=outL (eG (pf n) a0):=rfl
theorem rE (n:Nat)(a0:D):pf (n+1) F.ba [a0]=outL (gq (pf n) a0):=rfl
theorem zj (n:Nat)(a0:D):pf (n+1) F.aZ [a0]=outL (nN (pf n) a0):=rfl
theorem iE (n:Nat)(a0 a1 a2 a3:D):pf (n+1) F.ax [a0,a1,a2,a3]=outL (cA (pf n) a0 a1 a2 a3):=rfl
theorem uX (n:Nat)(a0:D):pf (n+1) F.a6 [a0]=outL (ip (pf n) a0):=rfl
theorem pr (n:Nat)(a0 a1:D):pf (n+1) F.aO [a0,a1]=outL (eI (pf n) a0 a1):=rfl
theorem dN (n:Nat)(a0:D):pf (n+1) F.aP [a0]=outL (bN (pf n) a0):=rfl
theorem j6 (n:Nat)(a0 a1:D):pf (n+1) F.aD [a0,a1]=outL (bV (pf n) a0 a1):=rfl
theorem pv (n:Nat)(a0:D):pf (n+1) F.aQ [a0]=outL (eJ (pf n) a0):=rfl
theorem iF (n:Nat)(a0:D):pf (n+1) F.ar [a0]=outL (bp (pf n) a0):=rfl
theorem uY (n:Nat)(a0 a1 a2:D):pf (n+1) F.bh [a0,a1,a2]=outL (iq (pf n) a0 a1 a2):=rfl
theorem nQ (n:Nat)(a0 a1:D):pf (n+1) F.aX [a0,a1]=outL (dH (pf n) a0 a1):=rfl
theorem pz (n:Nat)(a0 a1 a2:D):pf (n+1) F.a3 [a0,a1,a2]=outL (eL (pf n) a0 a1 a2):=rfl
theorem ti (n:Nat)(a0 a1 a2:D):pf (n+1) F.bc [a0,a1,a2]=outL (kY (pf n) a0 a1 a2):=rfl
theorem k8 (n:Nat)(a0 a1 a2:D):pf (n+1) F.aJ [a0,a1,a2]=outL (d4 (pf n) a0 a1 a2):=rfl
theorem mm (n:Nat)(a0 a1:D):pf (n+1) F.aR [a0,a1]=outL (cT (pf n) a0 a1):=rfl
theorem gE (n:Nat)(a0 a1:D):pf (n+1) F.aj [a0,a1]=outL (bW (pf n) a0 a1):=rfl
theorem xk (n:Nat)(a0 a1:D):pf (n+1) F.aG [a0,a1]=outL (kn (pf n) a0 a1):=rfl
theorem uZ (n:Nat)(a0:D):pf (n+1) F.bd [a0]=outL (ir (pf n) a0):=rfl
theorem pA (n:Nat)(a0:D):pf (n+1) F.a0 [a0]=outL (eM (pf n) a0):=rfl
theorem rF (n:Nat)(a0:D):pf (n+1) F.bb [a0]=outL (gr (pf n) a0):=rfl
theorem nR (n:Nat)(a0:D):pf (n+1) F.aV [a0]=outL (dJ (pf n) a0):=rfl
theorem u3 (n:Nat)(a0 a1:D):pf (n+1) F.bf [a0,a1]=outL (iu (pf n) a0 a1):=rfl
theorem pB (n:Nat)(a0 a1:D):pf (n+1) F.a1 [a0,a1]=outL (eN (pf n) a0 a1):=rfl
theorem mn (n:Nat)(a0 a1:D):pf (n+1) F.aS [a0,a1]=outL (cU (pf n) a0 a1):=rfl
theorem pC (n:Nat)(a0 a1:D):pf (n+1) F.a2 [a0,a1]=outL (eO (pf n) a0 a1):=rfl
theorem xl (n:Nat)(a0:D):pf (n+1) F.a7 [a0]=outL (kq (pf n) a0):=rfl
theorem xm (n:Nat)(a0 a1 a2:D):pf (n+1) F.bg [a0,a1,a2]=outL (kr (pf n) a0 a1 a2):=rfl
theorem j7 (n:Nat)(a0 a1 a2:D):pf (n+1) F.ak [a0,a1,a2]=outL (bX (pf n) a0 a1 a2):=rfl
theorem rG (n:Nat)(a0 a1 a2:D):pf (n+1) F.ai [a0,a1,a2]=outL (gu (pf n) a0 a1 a2):=rfl
theorem mq (n:Nat)(a0:D):pf (n+1) F.a8 [a0]=outL (cW (pf n) a0):=rfl
theorem mr (n:Nat)(a0:D):pf (n+1) F.af [a0]=outL (cX (pf n) a0):=rfl
theorem iG (n:Nat)(a0:D):pf (n+1) F.ad [a0]=outL (bq (pf n) a0):=rfl
theorem nS (n:Nat)(a0:D):pf (n+1) F.aW [a0]=outL (dM (pf n) a0):=rfl
theorem jt (n:Nat)(a0:D):pf (n+1) F.ah [a0]=outL (bI (pf n) a0):=rfl
theorem u4 (n:Nat)(a0:D):pf (n+1) F.aK [a0]=outL (iy (pf n) a0):=rfl
theorem mt (n:Nat)(a0 a1:D):pf (n+1) F.aT [a0,a1]=outL (cY (pf n) a0 a1):=rfl
theorem u5 (n:Nat)(a0 a1 a2 a3:D):pf (n+1) F.an [a0,a1,a2,a3]=outL (iz (pf n) a0 a1 a2 a3):=rfl
theorem pD (n:Nat)(a0:D):pf (n+1) F.a4 [a0]=outL (eQ (pf n) a0):=rfl
theorem k9 (n:Nat)(a0:D):pf (n+1) F.aH [a0]=outL (cw (pf n) a0):=rfl
theorem jU (n:Nat)(a0 a1:D):pf (n+1) F.aE [a0,a1]=outL (dn (pf n) a0 a1):=rfl
theorem pE (n:Nat)(a0 a1:D):pf (n+1) F.aU [a0,a1]=outL (eR (pf n) a0 a1):=rfl
theorem u6 (n:Nat)(a0 a1:D):pf (n+1) F.be [a0,a1]=outL (iA (pf n) a0 a1):=rfl
theorem u7 (n:Nat)(a0 a1 a2:D):pf (n+1) F.aa [a0,a1,a2]=outL (iB (pf n) a0 a1 a2):=rfl
theorem nc (n:Nat)(a0 a1 a2:D):pf (n+1) F.al [a0,a1,a2]=outL (fD (pf n) a0 a1 a2):=rfl
theorem iH (n:Nat)(a0 a1:D):pf (n+1) F.ay [a0,a1]=outL (cB (pf n) a0 a1):=rfl
theorem u8 (n:Nat)(a0:D):pf (n+1) F.a9 [a0]=outL (iC (pf n) a0):=rfl
theorem rH (n:Nat)(a0:D):pf (n+1) F.aL [a0]=outL (gw (pf n) a0):=rfl
end Lw
end
noncomputable section
set_option maxHeartbeats 4000000
namespace Lw
open PySem PySem.Spec PyProof.Rows L2 FF
def top (i:Nat):Stmt:=PySem.Challenge.pw_fourfold_k63_whole_areas_poured.main.body.getD i (.Pass ⟨0,0,0,0⟩)
abbrev gN:Stmt:=top 9
theorem pF:FnScope ["thing"] ["thing"] (defScope gN):=mkSc
abbrev gO:Stmt:=top 10
theorem pG:FnScope ["thing"] ["thing"] (defScope gO):=mkSc
abbrev ju:Stmt:=top 11
theorem rJ:FnScope ["thing"] ["thing"] (defScope ju):=mkSc
abbrev jv:Stmt:=top 12
theorem rK:FnScope ["size","thing","is_end"] ["size","thing","is_end"] (defScope jv):=mkSc
abbrev cH:Stmt:=top 13
theorem jw:FnScope ["thing","is_end"] ["thing","is_end"] (defScope cH):=mkSc
abbrev dr:Stmt:=top 14
theorem fj:FnScope ["four","first"] ["four"] (defScope dr):=mkSc
abbrev fE:Stmt:=top 15
theorem nT:FnScope ["tree"] ["tree"] (defScope fE):=mkSc
abbrev gP:Stmt:=top 16
theorem fF:FnScope ["tree","side","x","y","half","number"] ["tree","side","x","y"] (defScope gP):=mkSc
abbrev jx:Stmt:=top 17
theorem lg:FnScope ["rows","left","top","side","half"] ["rows","left","top","side"] (defScope jx):=mkSc
abbrev eS:Stmt:=top 20
theorem mw:FnScope ["thing"] ["thing"] (defScope eS):=mkSc
abbrev cI:Stmt:=top 21
theorem jy:FnScope ["thing"] ["thing"] (defScope cI):=mkSc
abbrev dP:Stmt:=top 22
theorem lh:FnScope ["thing"] ["thing"] (defScope dP):=mkSc
abbrev jz:Stmt:=top 23
theorem rL:FnScope ["picture"] ["picture"] (defScope jz):=mkSc
abbrev gQ:Stmt:=top 24
theorem pH:FnScope ["side","thing"] ["side","thing"] (defScope gQ):=mkSc
abbrev eT:Stmt:=top 25
theorem gF:FnScope ["picture","x","y","side"] ["picture","x","y"] (defScope eT):=mkSc
abbrev gR:Stmt:=top 26
theorem pI:FnScope ["picture","x","y"] ["picture","x","y"] (defScope gR):=mkSc
abbrev fG:Stmt:=top 27
theorem iI:FnScope ["picture","y","side"] ["picture","y"] (defScope fG):=mkSc
abbrev eU:Stmt:=top 28
theorem mx:FnScope ["picture"] ["picture"] (defScope eU):=mkSc
abbrev li:Stmt:=top 29
theorem u9:FnScope ["thing","side"] ["thing","side"] (defScope li):=mkSc
abbrev gS:Stmt:=top 30
theorem pJ:FnScope ["thing"] ["thing"] (defScope gS):=mkSc
abbrev jA:Stmt:=top 31
theorem lj:FnScope ["rows","side"] ["rows"] (defScope jA):=mkSc
abbrev rM:Stmt:=top 32
theorem zk:FnScope ["picture"] ["picture"] (defScope rM):=mkSc
abbrev fH:Stmt:=top 34
theorem c7:FnScope ["tree","left","top","side","half","told","number","part"] ["tree","left","top","side"] (defScope fH):=mkSc
abbrev ll:Stmt:=top 35
theorem va:FnScope ["picture"] ["picture"] (defScope ll):=mkSc
abbrev gT:Stmt:=top 36
theorem pK:FnScope ["thing","side"] ["thing","side"] (defScope gT):=mkSc
abbrev gU:Stmt:=top 37
theorem jV:FnScope ["thing","side"] ["thing"] (defScope gU):=mkSc
abbrev du:Stmt:=top 38
theorem cJ:FnScope ["size","things","side","thing"] ["size","things"] (defScope du):=mkSc
abbrev gW:Stmt:=top 39
theorem fI:FnScope ["block","spots","y"] ["block"] (defScope gW):=mkSc
abbrev ce:Stmt:=top 40
theorem bd:FnScope ["squares","worths","block","spot"] ["squares"] (defScope ce):=mkSc
abbrev lm:Stmt:=top 41
theorem vb:FnScope ["worths","side","y"] ["worths","side","y"] (defScope lm):=mkSc
abbrev fJ:Stmt:=top 42
theorem eV:FnScope ["size","squares","worths","side"] ["size","squares"] (defScope fJ):=mkSc
abbrev gX:Stmt:=top 43
theorem pL:FnScope ["block","x","y"] ["block","x","y"] (defScope gX):=mkSc
abbrev rN:Stmt:=top 44
theorem zl:FnScope ["one","other","along"] ["one","other","along"] (defScope rN):=mkSc
abbrev jB:Stmt:=top 45
theorem rP:FnScope ["one","other","along"] ["one","other","along"] (defScope jB):=mkSc
abbrev eW:Stmt:=top 46
theorem my:FnScope ["one","other"] ["one","other"] (defScope eW):=mkSc
abbrev eX:Stmt:=top 53
theorem mz:FnScope ["tree","order"] ["tree","order"] (defScope eX):=mkSc
abbrev nU:Stmt:=top 54
theorem pM:FnScope ["picture","order","shown"] ["picture","order"] (defScope nU):=mkSc
abbrev ln:Stmt:=top 55
theorem vc:FnScope ["picture"] ["picture"] (defScope ln):=mkSc
abbrev gY:Stmt:=top 56
theorem pN:FnScope ["picture"] ["picture"] (defScope gY):=mkSc
abbrev jC:Stmt:=top 57
theorem rQ:FnScope ["picture"] ["picture"] (defScope jC):=mkSc
abbrev fK:Stmt:=top 58
theorem nV:FnScope ["thing"] ["thing"] (defScope fK):=mkSc
abbrev lq:Stmt:=top 59
theorem d5:FnScope ["picture","way","told","step"] ["picture","way"] (defScope lq):=mkSc
abbrev gZ:Stmt:=top 61
theorem pO:FnScope ["block","area"] ["block","area"] (defScope gZ):=mkSc
abbrev eY:Stmt:=top 62
theorem cx:FnScope ["block","found","area","apart","other"] ["block","found"] (defScope eY):=mkSc
abbrev g5:Stmt:=top 63
theorem pP:FnScope ["area","squares"] ["area","squares"] (defScope g5):=mkSc
abbrev nW:Stmt:=top 64
theorem fL:FnScope ["picture","squares","found","block"] ["picture"] (defScope nW):=mkSc
abbrev nX:Stmt:=top 65
theorem xn:FnScope ["x","y","area"] ["x","y","area"] (defScope nX):=mkSc
abbrev dv:Stmt:=top 66
theorem j8:FnScope ["picture","x","y"] ["picture","x","y"] (defScope dv):=mkSc
abbrev jD:Stmt:=top 67
theorem g6:FnScope ["picture","x","y","spots","block"] ["picture","x","y"] (defScope jD):=mkSc
abbrev eZ:Stmt:=top 68
theorem mB:FnScope ["area"] ["area"] (defScope eZ):=mkSc
abbrev e8:Stmt:=top 69
theorem mC:FnScope ["picture"] ["picture"] (defScope e8):=mkSc
abbrev cf:Stmt:=top 70
theorem iJ:FnScope ["picture"] ["picture"] (defScope cf):=mkSc
abbrev fM:Stmt:=top 71
theorem nY:FnScope ["row"] ["row"] (defScope fM):=mkSc
abbrev cK:Stmt:=top 72
theorem jE:FnScope ["picture"] ["picture"] (defScope cK):=mkSc
abbrev lr:Stmt:=top 73
theorem vd:FnScope ["picture"] ["picture"] (defScope lr):=mkSc
abbrev e9:Stmt:=top 74
theorem mD:FnScope ["block","worth"] ["block","worth"] (defScope e9):=mkSc
abbrev lu:Stmt:=top 75
theorem jF:FnScope ["picture","x","y","worth","area","rest"] ["picture","x","y","worth"] (defScope lu):=mkSc
abbrev g7:Stmt:=top 77
theorem pQ:FnScope ["thing"] ["thing"] (defScope g7):=mkSc
abbrev dQ:Stmt:=top 78
theorem lv:FnScope ["thing"] ["thing"] (defScope dQ):=mkSc
abbrev g8:Stmt:=top 79
theorem pR:FnScope ["table","tree"] ["table","tree"] (defScope g8):=mkSc
abbrev g9:Stmt:=top 80
theorem pT:FnScope ["table","picture"] ["table","picture"] (defScope g9):=mkSc
abbrev ly:Stmt:=top 82
theorem ve:FnScope ["_law_script","_law_k"] ["_law_script","_law_k"] (defScope ly):=mkSc
abbrev lz:Stmt:=top 83
theorem ng:FnScope ["_law_script","_law_k","_law_many","_law_drawn"] ["_law_script","_law_k","_law_many"] (defScope lz):=mkSc
abbrev lE:Stmt:=top 84
theorem nh:FnScope ["_law_script","_law_at","_law_size","_law_way"] ["_law_script","_law_at","_law_size"] (defScope lE):=mkSc
abbrev fN:Stmt:=top 86
theorem bY:FnScope ["_law_size","_law_tree_here","_law_parts","_law_some","_law_made","_law_upper"] ["_law_size","_law_tree_here"] (defScope fN):=mkSc
abbrev lF:Stmt:=top 87
theorem vf:FnScope ["_law_picture_here"] ["_law_picture_here"] (defScope lF):=mkSc
abbrev bb:Stmt:=top 90
theorem aA:FnScope ["_law_script","_law_size","_law_picture_here","_law_rows_here","_law_side","_law_x","_law_y","_law_worth","_law_area","_law_made","_law_later","_law_k","_law_i","_law_j","_law_way","_law_other","_law_shift","_law_third","_law_fewer"] ["_law_script"] (defScope bb):=mkSc
structure Txt (K:PySem.W.Frag)(mg:Str→Option Value)(C:Nat→Addr)(wP:Params):Prop where
 b_all:mg "all"=none
 b_any:mg "any"=none
 b_bool:mg "bool"=none
 b_enumerate:mg "enumerate"=none
 b_int:mg "int"=none
 b_isinstance:mg "isinstance"=none
 b_len:mg "len"=none
 b_list:mg "list"=none
 b_min:mg "min"=none
 b_range:mg "range"=none
 b_sorted:mg "sorted"=none
 b_sum:mg "sum"=none
 b_tuple:mg "tuple"=none
 k_GREATEST_WORTH:∃ t,mg "GREATEST_WORTH"=some (.int 9 t)
 k_LARGEST_SIZE:∃ t,mg "LARGEST_SIZE"=some (.int 3 t)
 k_TURNS:∃ t,mg "TURNS"=some (.int 4 t)
 k_WAYS:∃ t,mg "WAYS"=some (.int 8 t)
 t_BY_MIRRORING:∃ a,mg "BY_MIRRORING"=some (.ref a)∧TupK K a [1,0,3,2]
 t_BY_SWAPPING:∃ a,mg "BY_SWAPPING"=some (.ref a)∧TupK K a [0,2,1,3]
 t_BY_TURNING:∃ a,mg "BY_TURNING"=some (.ref a)∧TupK K a [2,0,3,1]
 t_SIDES:∃ a,mg "SIDES"=some (.ref a)∧TupK K a [1,2,4,8]
 f_is_worth:mg "is_worth"=some (.ref (C F.ac))
 c_FourError:mg "FourError"=some (.ref (C 0))
 c_NoPicture:mg "NoPicture"=some (.ref (C 1))
 c_NoSpot:mg "NoSpot"=some (.ref (C 2))
 c_NoRule:mg "NoRule"=some (.ref (C 5))
 c_NoBlocks:mg "NoBlocks"=some (.ref (C 6))
 x_NoPicture:PySem.W.excIn K (C 1) bmVE "ValueError.__new__"=true
 x_NoSpot:PySem.W.excIn K (C 2) bmVE "ValueError.__new__"=true
 x_NoRule:PySem.W.excIn K (C 5) bmVE "ValueError.__new__"=true
 x_NoBlocks:PySem.W.excIn K (C 6) bmVE "ValueError.__new__"=true
 takes:Takes K C (C 0) (qTk esL)
structure Tab (P:Program)(w:World)(K:PySem.W.Frag)(mg:Str→Option Value)(base:Heap)(C:Nat→Addr)(k:Nat)(t:Nat→List FF.D→FF.R FF.D):Prop where
 g20:Fn1 P w K mg base C k "is_whole" ["thing"] (t F.ae)
 g21:Fn1 P w K mg base C k "is_worth" ["thing"] (t F.ac)
 g22:Fn1 P w K mg base C k "is_size" ["thing"] (t F.aI)
 g23:Fn1 P w K mg base C k "is_tree" ["size","thing","is_end"] (t F.aC)
 g24:Fn1 P w K mg base C k "is_sized_tree" ["thing","is_end"] (t F.az)
 g25:Fn1 P w K mg base C k "put_together" ["four"] (t F.ag)
 g26:Fn1 P w K mg base C k "lean_tree" ["tree"] (t F.aw)
 g43:Fn1 P w K mg base C k "worth_in" ["tree","side","x","y"] (t F.ao)
 g44:Fn1 P w K mg base C k "tree_of" ["rows","left","top","side"] (t F.ap)
 g27:Fn1 P w K mg base C k "is_picture" ["thing"] (t F.aM)
 g28:Fn1 P w K mg base C k "check_picture" ["thing"] (t F.ab)
 g65:Fn1 P w K mg base C k "check_worth" ["thing"] (t F.av)
 g45:Fn1 P w K mg base C k "side_of" ["picture"] (t F.aq)
 g46:Fn1 P w K mg base C k "is_along" ["side","thing"] (t F.aN)
 g47:Fn1 P w K mg base C k "check_spot" ["picture","x","y"] (t F.aA)
 g48:Fn1 P w K mg base C k "worth_at" ["picture","x","y"] (t F.au)
 g49:Fn1 P w K mg base C k "shown_row" ["picture","y"] (t F.aF)
 g50:Fn1 P w K mg base C k "shown_rows" ["picture"] (t F.aB)
 g51:Fn1 P w K mg base C k "is_row" ["thing","side"] (t F.a5)
 g52:Fn1 P w K mg base C k "are_rows" ["thing"] (t F.aY)
 g53:Fn1 P w K mg base C k "of_rows" ["rows"] (t F.ba)
 g29:Fn1 P w K mg base C k "lean" ["picture"] (t F.aZ)
 g188:Fn1 P w K mg base C k "blocks_in" ["tree","left","top","side"] (t F.ax)
 g189:Fn1 P w K mg base C k "blocks" ["picture"] (t F.a6)
 g190:Fn1 P w K mg base C k "is_place" ["thing","side"] (t F.aO)
 g191:Fn1 P w K mg base C k "is_block" ["thing"] (t F.aP)
 g192:Fn1 P w K mg base C k "check_blocks" ["size","things"] (t F.aD)
 g193:Fn1 P w K mg base C k "spots_of" ["block"] (t F.aQ)
 g194:Fn1 P w K mg base C k "worths_by_spot" ["squares"] (t F.ar)
 g195:Fn1 P w K mg base C k "row_of" ["worths","side","y"] (t F.bh)
 g196:Fn1 P w K mg base C k "of_blocks" ["size","squares"] (t F.aX)
 g197:Fn1 P w K mg base C k "has_spot" ["block","x","y"] (t F.a3)
 g203:Fn1 P w K mg base C k "meet" ["one","other","along"] (t F.bc)
 g204:Fn1 P w K mg base C k "overlap" ["one","other","along"] (t F.aJ)
 g205:Fn1 P w K mg base C k "are_beside" ["one","other"] (t F.aR)
 g69:Fn1 P w K mg base C k "moved_tree" ["tree","order"] (t F.aj)
 g70:Fn1 P w K mg base C k "moved" ["picture","order"] (t F.aG)
 g125:Fn1 P w K mg base C k "turned" ["picture"] (t F.bd)
 g84:Fn1 P w K mg base C k "mirrored" ["picture"] (t F.a0)
 g71:Fn1 P w K mg base C k "swapped" ["picture"] (t F.bb)
 g127:Fn1 P w K mg base C k "check_way" ["thing"] (t F.aV)
 g128:Fn1 P w K mg base C k "by_way" ["picture","way"] (t F.bf)
 g209:Fn1 P w K mg base C k "comes_to" ["block","area"] (t F.a1)
 g210:Fn1 P w K mg base C k "areas_with" ["block","found"] (t F.aS)
 g211:Fn1 P w K mg base C k "in_order" ["area","squares"] (t F.a2)
 g212:Fn1 P w K mg base C k "areas" ["picture"] (t F.a7)
 g213:Fn1 P w K mg base C k "is_in" ["x","y","area"] (t F.bg)
 g214:Fn1 P w K mg base C k "blocks_round" ["picture","x","y"] (t F.ak)
 g215:Fn1 P w K mg base C k "area_at" ["picture","x","y"] (t F.ai)
 g216:Fn1 P w K mg base C k "many_spots" ["area"] (t F.a8)
 g217:Fn1 P w K mg base C k "area_sizes" ["picture"] (t F.af)
 g218:Fn1 P w K mg base C k "how_many_areas" ["picture"] (t F.ad)
 g219:Fn1 P w K mg base C k "unlike_in" ["row"] (t F.aW)
 g220:Fn1 P w K mg base C k "unlike_across" ["picture"] (t F.ah)
 g221:Fn1 P w K mg base C k "border" ["picture"] (t F.aK)
 g222:Fn1 P w K mg base C k "with_worth" ["block","worth"] (t F.aT)
 g223:Fn1 P w K mg base C k "poured" ["picture","x","y","worth"] (t F.an)
 g156:Fn1 P w K mg base C k "is_table" ["thing"] (t F.a4)
 g157:Fn1 P w K mg base C k "check_table" ["thing"] (t F.aH)
 g162:Fn1 P w K mg base C k "led_tree" ["table","tree"] (t F.aE)
 g163:Fn1 P w K mg base C k "led_over" ["table","picture"] (t F.aU)
 g30:Fn1 P w K mg base C k "_law_cell" ["_law_script","_law_k"] (t F.be)
 g31:Fn1 P w K mg base C k "_law_pick" ["_law_script","_law_k","_law_many"] (t F.aa)
 g32:Fn1 P w K mg base C k "_law_tree" ["_law_script","_law_at","_law_size"] (t F.al)
 g54:Fn1 P w K mg base C k "_law_rows_of" ["_law_size","_law_tree_here"] (t F.ay)
 g55:Fn1 P w K mg base C k "_law_rows" ["_law_picture_here"] (t F.a9)
 g229:Fn1 P w K mg base C k "law" ["_law_script"] (t F.aL)
 v:∀ i∈fvL,FnV P w K mg base C k i (t i)
section
variable {P:Program}{w:World}{K:PySem.W.Frag}{mg:Str→Option Value}{base:Heap}{C:Nat→Addr}{k:Nat}{t:Nat→List FF.D→FF.R FF.D}(T:Txt K mg C w.params)(G:Tab P w K mg base C k t)
include T G
theorem pU:OkD P w K mg base C k "is_whole" gN ["thing"] (a1 (gM t)):=ok1 pF fun thing _ _ _ _ _ _ _ _ bx _ _=>by
 show FL _ _ [vv thing] _ _ _
 refine aj (ah (bM (aI bx rfl T.b_isinstance yH (ac 0) (a6 rfl T.b_int (by decide +kernel) rfl)) (bL (Ao (aI bx rfl T.b_isinstance wz (ac 0) (a6 rfl T.b_bool (by decide +kernel) rfl)))))) ?_
 rfl
theorem jW:OkD P w K mg base C k "is_worth" gO ["thing"] (a1 (eD t)):=ok1 pG fun thing _ _ _ _ _ _ _ _ bx _ _=>by
 show FL _ _ [vv thing] _ _ _
 refine aj (ah (bM (ae bx G.g20 rfl (aa (ac 0) ad)) (bL (sK af (ac 0) (fW T.k_GREATEST_WORTH rfl))))) ?_
 rfl
theorem rR:OkD P w K mg base C k "is_size" ju ["thing"] (a1 (gn t)):=ok1 rJ fun thing _ _ _ _ _ _ _ _ bx _ _=>by
 show FL _ _ [vv thing] _ _ _
 refine aj (ah (bM (ae bx G.g20 rfl (aa (ac 0) ad)) (bL (sK af (ac 0) (fW T.k_LARGEST_SIZE rfl))))) ?_
 rfl
theorem rS:OkD P w K mg base C k "is_tree" jv ["size","thing","is_end"] (a3 (dZ t)):=ok3 rK fun size_ thing is_end _ _ _ _ _ _ _ _ bx _ _=>by
 show FL _ _ [vv size_,vv thing,vv is_end] _ _ _
 refine av (inj:=fun (_:Unit) (w:Unit)=>[vv size_,vv thing,vv is_end]) (aw (aN (aK (aI bx rfl T.b_isinstance bo (ac 1) (a6 rfl T.b_tuple (by decide +kernel) rfl)))) ?_ ?_ ?_) (fun _ w=>?_)
 rfl
 ·refine aj (ah (wI bx G.v (ac 2) (aa (ac 1) ad))) ?_
  rfl
 ·exact ap ⟨(),rfl⟩
 refine av (inj:=fun (_:Unit) (w1:Unit)=>[vv size_,vv thing,vv is_end]) (aw (ft_w (dh (kK bx (ac 0) af) (bJ (bT bx (fe_N (bS bx rfl T.b_len (FAL.out (aa (ac 1) ad)))) af)))) ?_ ?_ ?_) (fun _ w1=>?_)
 rfl
 ·refine az (ah df) ?_
  rfl
 ·exact ap ⟨(),rfl⟩
 refine aj (ah (fe_N (kM bx rfl T.b_all (FAL.out (aa (fe_C (aC (N:=["part","is_end","size"]) (own:=1) (cap:=[2,0]) bx (BlkOk.of (by kernel_rfl)) (aG bx.K (ac 1)) (aE (by decide)) (fun _ _ _ _ _=>aq 0 (show List.Nodup (α:=Str) ["part","is_end","size"] by decide +kernel)) (fun _ _ _ _ _=>(ae (ao bx) G.g23 rfl (aa (kJ (ac 2) af) (aa (ac 0) (aa (ac 1) ad))))))) ad))))) ?_
 rfl
theorem jG:OkD P w K mg base C k "is_sized_tree" cH ["thing","is_end"] (a2 (bF t)):=ok2 jw fun thing is_end _ _ _ _ _ _ _ _ bx _ _=>by
 show FL _ _ [vv thing,vv is_end] _ _ _
 refine av (inj:=fun (_:Unit) (w:Unit)=>[vv thing,vv is_end]) (aw (ft_w (dh (aN (aK (aI bx rfl T.b_isinstance bo (ac 0) (a6 rfl T.b_tuple (by decide +kernel) rfl)))) (bJ (bT bx (fe_N (bS bx rfl T.b_len (FAL.out (aa (ac 0) ad)))) af)))) ?_ ?_ ?_) (fun _ w=>?_)
 rfl
 ·refine az (ah df) ?_
  rfl
 ·exact ap ⟨(),rfl⟩
 refine aj (ah (bM (ae bx G.g22 rfl (aa (ag bx.K (ac 0) af) ad)) (bL (ae bx G.g23 rfl (aa (ag bx.K (ac 0) af) (aa (ag bx.K (ac 0) af) (aa (ac 1) ad))))))) ?_
 rfl
theorem j9:OkD P w K mg base C k "put_together" dr ["four"] (a1 (bU t)):=ok1 fj fun four _ _ _ _ _ _ _ _ bx _ _=>by
 show FL _ _ [vv four,nn] _ _ _
 refine ai (S':=fun first=>[vv four,vv first]) (ax 1 fj.nd (ag bx.K (ac 0) af)) ?_ (fun first=>?_)
 rfl
 refine av (inj:=fun (_:Unit) (w:Unit)=>[vv four,vv first]) (aw (ft_w (vZ (aN (aK (aI bx rfl T.b_isinstance bo (ac 1) (a6 rfl T.b_tuple (by decide +kernel) rfl)))) (sE (kK bx (ac 0) (aT (aa (ac 1) (aa (ac 1) (aa (ac 1) (aa (ac 1) ad))))))))) ?_ ?_ ?_) (fun _ w=>?_)
 rfl
 ·refine az (ah (ac 1)) ?_
  rfl
 ·exact ap ⟨(),rfl⟩
 refine az (ah (ac 0)) ?_
 rfl
theorem nZ:OkD P w K mg base C k "lean_tree" fE ["tree"] (a1 (cz t)):=ok1 nT fun tree_ _ _ _ _ _ _ _ _ bx _ _=>by
 show FL _ _ [vv tree_] _ _ _
 refine av (inj:=fun (_:Unit) (w:Unit)=>[vv tree_]) (aw (aN (aK (aI bx rfl T.b_isinstance bo (ac 0) (a6 rfl T.b_tuple (by decide +kernel) rfl)))) ?_ ?_ ?_) (fun _ w=>?_)
 rfl
 ·refine az (ah (ac 0)) ?_
  rfl
 ·exact ap ⟨(),rfl⟩
 refine aj (ah (ae bx G.g25 rfl (aa (fe_N (ba bx rfl T.b_tuple (FAL.out (aa (fe_C (aC (N:=["part"]) (own:=1) (cap:=[]) bx (BlkOk.of (by kernel_rfl)) (aG bx.K (ac 0)) (aE (by decide)) (fun _ _ _ _ _=>aq 0 (show List.Nodup (α:=Str) ["part"] by decide +kernel)) (fun _ _ _ _ _=>(ae (ao bx) G.g26 rfl (aa (ac 0) ad))))) ad)))) ad))) ?_
 rfl
theorem pV:OkD P w K mg base C k "worth_in" gP ["tree","side","x","y"] (a4 (di t)):=ok4 fF fun tree_ side x y _ _ _ _ _ _ _ _ bx _ _=>by
 show FL _ _ [vv tree_,vv side,vv x,vv y,nn,nn] _ _ _
 refine av (inj:=fun (_:Unit) (w:Unit)=>[vv tree_,vv side,vv x,vv y,nn,nn]) (aw (aN (aK (aI bx rfl T.b_isinstance bo (ac 0) (a6 rfl T.b_tuple (by decide +kernel) rfl)))) ?_ ?_ ?_) (fun _ w=>?_)
 rfl
 ·refine az (ah (ac 0)) ?_
  rfl
 ·exact ap ⟨(),rfl⟩
 refine ai (S':=fun half=>[vv tree_,vv side,vv x,vv y,vv half,nn]) (ax 4 fF.nd (gH (ac 1) af)) ?_ (fun half=>?_)
 rfl
 refine ai (S':=fun number=>[vv tree_,vv side,vv x,vv y,vv half,vv number]) (ax 5 fF.nd (ay bx.K (bz bx.K af (gH (ac 3) (ac 4))) (gH (ac 2) (ac 4)))) ?_ (fun number=>?_)
 rfl
 refine aj (ah (ae bx G.g43 rfl (aa (ag bx.K (ac 0) (ac 5)) (aa (ac 4) (aa (dO (ac 2) (ac 4)) (aa (dO (ac 3) (ac 4)) ad)))))) ?_
 rfl
theorem rT:OkD P w K mg base C k "tree_of" jx ["rows","left","top","side"] (a4 (d0 t)):=ok4 lg fun rows left top side _ _ _ _ _ _ _ _ bx _ _=>by
 show FL _ _ [vv rows,vv left,vv top,vv side,nn] _ _ _
 refine av (inj:=fun (_:Unit) (w:Unit)=>[vv rows,vv left,vv top,vv side,nn]) (aw (kK bx (ac 3) af) ?_ ?_ ?_) (fun _ w=>?_)
 rfl
 ·refine aj (ah (ag bx.K (ag bx.K (ac 0) (ac 2)) (ac 1))) ?_
  rfl
 ·exact ap ⟨(),rfl⟩
 refine ai (S':=fun half=>[vv rows,vv left,vv top,vv side,vv half]) (ax 4 lg.nd (gH (ac 3) af)) ?_ (fun half=>?_)
 rfl
 refine aj (ah (ae bx G.g25 rfl (aa (aT (aa (ae bx G.g44 rfl (aa (ac 0) (aa (ac 1) (aa (ac 2) (aa (ac 4) ad))))) (aa (ae bx G.g44 rfl (aa (ac 0) (aa (ay bx.K (ac 1) (ac 4)) (aa (ac 2) (aa (ac 4) ad))))) (aa (ae bx G.g44 rfl (aa (ac 0) (aa (ac 1) (aa (ay bx.K (ac 2) (ac 4)) (aa (ac 4) ad))))) (aa (ae bx G.g44 rfl (aa (ac 0) (aa (ay bx.K (ac 1) (ac 4)) (aa (ay bx.K (ac 2) (ac 4)) (aa (ac 4) ad))))) ad))))) ad))) ?_
 rfl
theorem mE:OkD P w K mg base C k "is_picture" eS ["thing"] (a1 (cQ t)):=ok1 mw fun thing _ _ _ _ _ _ _ _ bx _ _=>by
 show FL _ _ [vv thing] _ _ _
 refine aj (ah (ae bx G.g24 rfl (aa (ac 0) (aa (Bo T.f_is_worth rfl) ad)))) ?_
 rfl
theorem jH:OkD P w K mg base C k "check_picture" cI ["thing"] (a1 (bG t)):=ok1 jy fun thing _ _ _ _ _ _ _ _ bx _ made=>by
 show FL _ _ [vv thing] _ _ _
 refine fA (aw (aN (aK (ae bx G.g27 rfl (aa (ac 0) ad)))) ?_ ?_ ?_)
 rfl
 ·refine fz (bg 1 bx made rfl T.c_NoPicture T.x_NoPicture (FAL.out (aa dg ad))) ?_
  rfl
 ·exact ap True.intro
theorem lG:OkD P w K mg base C k "check_worth" dP ["thing"] (a1 (cr t)):=ok1 lh fun thing _ _ _ _ _ _ _ _ bx _ made=>by
 show FL _ _ [vv thing] _ _ _
 refine fA (aw (aN (aK (ae bx G.g21 rfl (aa (ac 0) ad)))) ?_ ?_ ?_)
 rfl
 ·refine fz (bg 1 bx made rfl T.c_NoPicture T.x_NoPicture (FAL.out (aa dg ad))) ?_
  rfl
 ·exact ap True.intro
theorem rU:OkD P w K mg base C k "side_of" jz ["picture"] (a1 (gp t)):=ok1 rL fun picture _ _ _ _ _ _ _ _ bx _ _=>by
 show FL _ _ [vv picture] _ _ _
 refine aj (ah (ag bx.K (dE T.t_SIDES rfl) (ag bx.K (ac 0) af))) ?_
 rfl
theorem pW:OkD P w K mg base C k "is_along" gQ ["side","thing"] (a2 (eE t)):=ok2 pH fun side thing _ _ _ _ _ _ _ _ bx _ _=>by
 show FL _ _ [vv side,vv thing] _ _ _
 refine aj (ah (bM (ae bx G.g20 rfl (aa (ac 1) ad)) (bL (nI af (ac 1) (ac 0))))) ?_
 rfl
theorem mF:OkD P w K mg base C k "check_spot" eT ["picture","x","y"] (a3 (cR t)):=ok3 gF fun picture x y _ _ _ _ _ _ _ _ bx _ made=>by
 show FL _ _ [vv picture,vv x,vv y,nn] _ _ _
 refine ai (S':=fun side=>[vv picture,vv x,vv y,vv side]) (ax 3 gF.nd (ae bx G.g45 rfl (aa (ac 0) ad))) ?_ (fun side=>?_)
 rfl
 refine fA (aw (ft_w (dh (aN (aK (ae bx G.g46 rfl (aa (ac 3) (aa (ac 1) ad))))) (bJ (aN (aK (ae bx G.g46 rfl (aa (ac 3) (aa (ac 2) ad)))))))) ?_ ?_ ?_)
 rfl
 ·refine fz (bg 2 bx made rfl T.c_NoSpot T.x_NoSpot (FAL.out (aa dg ad))) ?_
  rfl
 ·exact ap True.intro
theorem pX:OkD P w K mg base C k "worth_at" gR ["picture","x","y"] (a3 (eF t)):=ok3 pI fun picture x y _ _ _ _ _ _ _ _ bx _ _=>by
 show FL _ _ [vv picture,vv x,vv y] _ _ _
 refine ai (S':=fun _=>[vv picture,vv x,vv y]) (bQ (ae bx G.g28 rfl (aa (ac 0) ad))) ?_ (fun _=>?_)
 rfl
 refine ai (S':=fun _=>[vv picture,vv x,vv y]) (bQ (ae bx G.g47 rfl (aa (ac 0) (aa (ac 1) (aa (ac 2) ad))))) ?_ (fun _=>?_)
 rfl
 refine aj (ah (ae bx G.g43 rfl (aa (ag bx.K (ac 0) af) (aa (ae bx G.g45 rfl (aa (ac 0) ad)) (aa (ac 1) (aa (ac 2) ad)))))) ?_
 rfl
theorem n6:OkD P w K mg base C k "shown_row" fG ["picture","y"] (a2 (dG t)):=ok2 iI fun picture y _ _ _ _ _ _ _ _ bx _ _=>by
 show FL _ _ [vv picture,vv y,nn] _ _ _
 refine ai (S':=fun side=>[vv picture,vv y,vv side]) (ax 2 iI.nd (ae bx G.g45 rfl (aa (ac 0) ad))) ?_ (fun side=>?_)
 rfl
 refine aj (ah (fe_N (ba bx rfl T.b_tuple (FAL.out (aa (fe_C (aC (N:=["x","side","y","picture"]) (own:=1) (cap:=[2,1,0]) bx (BlkOk.of (by kernel_rfl)) (ii (bn rfl T.b_range (FAL.out (aa (ac 2) ad)))) (aE (by decide)) (fun _ _ _ _ _=>aq 0 (show List.Nodup (α:=Str) ["x","side","y","picture"] by decide +kernel)) (fun _ _ _ _ _=>(ae (ao bx) G.g43 rfl (aa (ag (ao bx).K (ac 3) af) (aa (ac 1) (aa (ac 0) (aa (ac 2) ad)))))))) ad))))) ?_
 rfl
theorem mG:OkD P w K mg base C k "shown_rows" eU ["picture"] (a1 (cS t)):=ok1 mx fun picture _ _ _ _ _ _ _ _ bx _ _=>by
 show FL _ _ [vv picture] _ _ _
 refine ai (S':=fun _=>[vv picture]) (bQ (ae bx G.g28 rfl (aa (ac 0) ad))) ?_ (fun _=>?_)
 rfl
 refine aj (ah (fe_N (ba bx rfl T.b_tuple (FAL.out (aa (fe_C (aC (N:=["y","picture"]) (own:=1) (cap:=[0]) bx (BlkOk.of (by kernel_rfl)) (ii (bn rfl T.b_range (FAL.out (aa (ae bx G.g45 rfl (aa (ac 0) ad)) ad)))) (aE (by decide)) (fun _ _ _ _ _=>aq 0 (show List.Nodup (α:=Str) ["y","picture"] by decide +kernel)) (fun _ _ _ _ _=>(ae (ao bx) G.g49 rfl (aa (ac 1) (aa (ac 0) ad)))))) ad))))) ?_
 rfl
theorem vg:OkD P w K mg base C k "is_row" li ["thing","side"] (a2 (io t)):=ok2 u9 fun thing side _ _ _ _ _ _ _ _ bx _ _=>by
 show FL _ _ [vv thing,vv side] _ _ _
 refine av (inj:=fun (_:Unit) (w:Unit)=>[vv thing,vv side]) (aw (ft_w (dh (aN (aK (aI bx rfl T.b_isinstance bo (ac 0) (a6 rfl T.b_tuple (by decide +kernel) rfl)))) (bJ (bT bx (fe_N (bS bx rfl T.b_len (FAL.out (aa (ac 0) ad)))) (ac 1))))) ?_ ?_ ?_) (fun _ w=>?_)
 rfl
 ·refine az (ah df) ?_
  rfl
 ·exact ap ⟨(),rfl⟩
 refine aj (ah (fe_N (kM bx rfl T.b_all (FAL.out (aa (fe_C (aC (N:=["worth"]) (own:=1) (cap:=[]) bx (BlkOk.of (by kernel_rfl)) (aG bx.K (ac 0)) (aE (by decide)) (fun _ _ _ _ _=>aq 0 (show List.Nodup (α:=Str) ["worth"] by decide +kernel)) (fun _ _ _ _ _=>(ae (ao bx) G.g21 rfl (aa (ac 0) ad))))) ad))))) ?_
 rfl
theorem pY:OkD P w K mg base C k "are_rows" gS ["thing"] (a1 (eG t)):=ok1 pJ fun thing _ _ _ _ _ _ _ _ bx _ _=>by
 show FL _ _ [vv thing] _ _ _
 refine av (inj:=fun (_:Unit) (w:Unit)=>[vv thing]) (aw (ft_w (dh (aN (aK (aI bx rfl T.b_isinstance bo (ac 0) (a6 rfl T.b_tuple (by decide +kernel) rfl)))) (bJ (fX bx (fe_N (bS bx rfl T.b_len (FAL.out (aa (ac 0) ad)))) (dE T.t_SIDES rfl))))) ?_ ?_ ?_) (fun _ w=>?_)
 rfl
 ·refine az (ah df) ?_
  rfl
 ·exact ap ⟨(),rfl⟩
 refine aj (ah (fe_N (kM bx rfl T.b_all (FAL.out (aa (fe_C (aC (N:=["row","thing"]) (own:=1) (cap:=[0]) bx (BlkOk.of (by kernel_rfl)) (aG bx.K (ac 0)) (aE (by decide)) (fun _ _ _ _ _=>aq 0 (show List.Nodup (α:=Str) ["row","thing"] by decide +kernel)) (fun _ _ _ _ _=>(ae (ao bx) G.g51 rfl (aa (ac 0) (aa (fe_N (bS (ao bx) rfl T.b_len (FAL.out (aa (ac 1) ad)))) ad)))))) ad))))) ?_
 rfl
theorem rV:OkD P w K mg base C k "of_rows" jA ["rows"] (a1 (gq t)):=ok1 lj fun rows _ _ _ _ _ _ _ _ bx _ made=>by
 show FL _ _ [vv rows,nn] _ _ _
 refine av (inj:=fun (_:Unit) (w:Unit)=>[vv rows,nn]) (aw (aN (aK (ae bx G.g52 rfl (aa (ac 0) ad)))) ?_ ?_ ?_) (fun _ w=>?_)
 rfl
 ·refine fz (bg 1 bx made rfl T.c_NoPicture T.x_NoPicture (FAL.out (aa dg ad))) ?_
  rfl
 ·exact ap ⟨(),rfl⟩
 refine ai (S':=fun side=>[vv rows,vv side]) (ax 1 lj.nd (fe_N (bS bx rfl T.b_len (FAL.out (aa (ac 0) ad))))) ?_ (fun side=>?_)
 rfl
 refine aj (ah (aT (aa (Bp (uC bx T.t_SIDES rfl (FAL.out (aa (ac 1) ad)))) (aa (ae bx G.g44 rfl (aa (ac 0) (aa af (aa af (aa (ac 1) ad))))) ad)))) ?_
 rfl
theorem zm:OkD P w K mg base C k "lean" rM ["picture"] (a1 (nN t)):=ok1 zk fun picture _ _ _ _ _ _ _ _ bx _ _=>by
 show FL _ _ [vv picture] _ _ _
 refine ai (S':=fun _=>[vv picture]) (bQ (ae bx G.g28 rfl (aa (ac 0) ad))) ?_ (fun _=>?_)
 rfl
 refine aj (ah (aT (aa (ag bx.K (ac 0) af) (aa (ae bx G.g26 rfl (aa (ag bx.K (ac 0) af) ad)) ad)))) ?_
 rfl
theorem n8:OkD P w K mg base C k "blocks_in" fH ["tree","left","top","side"] (a4 (cA t)):=ok4 c7 fun tree_ left top side _ _ _ _ _ _ _ _ bx hpo _=>by
 show FL _ _ [vv tree_,vv left,vv top,vv side,nn,nn,nn,nn] _ _ _
 refine av (inj:=fun (_:Unit) (w:Unit)=>[vv tree_,vv left,vv top,vv side,nn,nn,nn,nn]) (aw (aN (aK (aI bx rfl T.b_isinstance bo (ac 0) (a6 rfl T.b_tuple (by decide +kernel) rfl)))) ?_ ?_ ?_) (fun _ w=>?_)
 rfl
 ·refine az (ah (cM (aa (aT (aa (ac 1) (aa (ac 2) (aa (ac 3) (aa (ac 0) ad))))) ad))) ?_
  rfl
 ·exact ap ⟨(),rfl⟩
 refine ai (S':=fun half=>[vv tree_,vv left,vv top,vv side,vv half,nn,nn,nn]) (ax 4 c7.nd (gH (ac 3) af)) ?_ (fun half=>?_)
 rfl
 refine cy (S':=[vv tree_,vv left,vv top,vv side,vv half,ow [],nn,nn]) (fs_O (ja 5 c7.nd (FAL.out ad))) ?_ ?_
 rfl
 refine av (inj:=fun (s:List D) (w1:Option Sl×Option Sl)=>[vv tree_,vv left,vv top,vv side,vv half,ow s,w1.1,w1.2]) (wG 6 7 (B:=fun (s:List D) (w1:Option Sl×Option Sl) x x1=>[vv tree_,vv left,vv top,vv side,vv half,ow s,vv x,vv x1]) (nn,nn) hpo rfl (nM bx rfl T.b_enumerate (ac 0)) ?_ (yR 6 7 rfl c7.nd) rfl (fun _ _ _ _=>rfl) (fun s w1 x x1=>?_)) (fun told1 w2=>?_)
 rfl
 ·refine ai (S':=fun told=>[vv tree_,vv left,vv top,vv side,vv half,ow told,vv x,vv x1]) (fs_X (dS 5 bx.K (FAL.out (aa (ae bx G.g188 rfl (aa (ac 7) (aa (ay bx.K (ac 1) (bz bx.K (dO (ac 6) af) (ac 4))) (aa (ay bx.K (ac 2) (bz bx.K (gH (ac 6) af) (ac 4))) (aa (ac 4) ad))))) ad)))) ?_ (fun told=>?_)
  rfl
  exact ap ⟨(vv x,vv x1),rfl⟩
 refine jc 5 (S':=[vv tree_,vv left,vv top,vv side,vv half,vv (.lst told1),w2.1,w2.2]) rfl rfl ?_
 refine az (ah (ac 5)) ?_
 rfl
theorem vh:OkD P w K mg base C k "blocks" ll ["picture"] (a1 (ip t)):=ok1 va fun picture _ _ _ _ _ _ _ _ bx _ _=>by
 show FL _ _ [vv picture] _ _ _
 refine aj (ah (ae bx G.g188 rfl (aa (ag bx.K (ae bx G.g29 rfl (aa (ac 0) ad)) af) (aa af (aa af (aa (ae bx G.g45 rfl (aa (ac 0) ad)) ad)))))) ?_
 rfl
theorem pZ:OkD P w K mg base C k "is_place" gT ["thing","side"] (a2 (eI t)):=ok2 pK fun thing side _ _ _ _ _ _ _ _ bx _ _=>by
 show FL _ _ [vv thing,vv side] _ _ _
 refine aj (ah (bM (Bb (ac 0) af) (bL (oN bx (dO (ac 0) (ac 1)) af)))) ?_
 rfl
theorem p6:OkD P w K mg base C k "is_block" gU ["thing"] (a1 (bN t)):=ok1 jV fun thing _ _ _ _ _ _ _ _ bx _ _=>by
 show FL _ _ [vv thing,nn] _ _ _
 refine av (inj:=fun (_:Unit) (w:Unit)=>[vv thing,nn]) (aw (ft_w (dh (aN (aK (aI bx rfl T.b_isinstance bo (ac 0) (a6 rfl T.b_tuple (by decide +kernel) rfl)))) (bJ (bT bx (fe_N (bS bx rfl T.b_len (FAL.out (aa (ac 0) ad)))) af)))) ?_ ?_ ?_) (fun _ w=>?_)
 rfl
 ·refine az (ah df) ?_
  rfl
 ·exact ap ⟨(),rfl⟩
 refine av (inj:=fun (_:Unit) (w1:Unit)=>[vv thing,nn]) (aw (aN (aK (fe_N (kM bx rfl T.b_all (FAL.out (aa (fe_C (aC (N:=["number"]) (own:=1) (cap:=[]) bx (BlkOk.of (by kernel_rfl)) (aG bx.K (ac 0)) (aE (by decide)) (fun _ _ _ _ _=>aq 0 (show List.Nodup (α:=Str) ["number"] by decide +kernel)) (fun _ _ _ _ _=>(ae (ao bx) G.g20 rfl (aa (ac 0) ad))))) ad)))))) ?_ ?_ ?_) (fun _ w1=>?_)
 rfl
 ·refine az (ah df) ?_
  rfl
 ·exact ap ⟨(),rfl⟩
 refine ai (S':=fun side=>[vv thing,vv side]) (ax 1 jV.nd (ag bx.K (ac 0) af)) ?_ (fun side=>?_)
 rfl
 refine aj (ah (bM (rm bx (ac 1) (dE T.t_SIDES rfl)) (bM (ae bx G.g190 rfl (aa (ag bx.K (ac 0) af) (aa (ac 1) ad))) (bM (ae bx G.g190 rfl (aa (ag bx.K (ac 0) af) (aa (ac 1) ad))) (bL (ae bx G.g21 rfl (aa (ag bx.K (ac 0) af) ad))))))) ?_
 rfl
theorem ke:OkD P w K mg base C k "check_blocks" du ["size","things"] (a2 (bV t)):=ok2 cJ fun size_ things _ _ _ _ _ _ _ _ bx hpo made=>by
 show FL _ _ [vv size_,vv things,nn,nn] _ _ _
 refine av (inj:=fun (_:Unit) (w:Unit)=>[vv size_,vv things,nn,nn]) (aw (ft_w (dh (aN (aK (ae bx G.g22 rfl (aa (ac 0) ad)))) (bJ (aN (aK (aI bx rfl T.b_isinstance wA (ac 1) (a6 rfl T.b_list (by decide +kernel) rfl))))))) ?_ ?_ ?_) (fun _ w=>?_)
 rfl
 ·refine fz (bg 6 bx made rfl T.c_NoBlocks T.x_NoBlocks (FAL.out (aa dg ad))) ?_
  rfl
 ·exact ap ⟨(),rfl⟩
 refine ai (S':=fun side=>[vv size_,vv things,vv side,nn]) (ax 2 cJ.nd (ag bx.K (dE T.t_SIDES rfl) (ac 0))) ?_ (fun side=>?_)
 rfl
 refine av (inj:=fun (s:Unit) (w1:Option Sl)=>[vv size_,vv things,vv side,w1]) (cj 3 (B:=fun (s:Unit) (w1:Option Sl) x=>[vv size_,vv things,vv side,vv x]) nn hpo rfl (aG bx.K (ac 1)) ?_ (aq 3 cJ.nd) rfl (fun _ _ _=>rfl) (fun s w1 x=>?_)) (fun _ w3=>?_)
 rfl
 ·refine av (inj:=fun (_:Unit) (w2:Unit)=>[vv size_,vv things,vv side,vv x]) (aw (aN (aK (ae bx G.g191 rfl (aa (ac 3) ad)))) ?_ ?_ ?_) (fun _ w2=>?_)
  rfl
  ·refine fz (bg 6 bx made rfl T.c_NoBlocks T.x_NoBlocks (FAL.out (aa dg ad))) ?_
   rfl
  ·exact ap ⟨(),rfl⟩
  refine fA (aw (ft_w (dh (wn (ay bx.K (ag bx.K (ac 3) af) (ag bx.K (ac 3) af)) (ac 2)) (bJ (wn (ay bx.K (ag bx.K (ac 3) af) (ag bx.K (ac 3) af)) (ac 2))))) ?_ ?_ ?_)
  rfl
  ·refine fz (bg 6 bx made rfl T.c_NoBlocks T.x_NoBlocks (FAL.out (aa dg ad))) ?_
   rfl
  ·exact ap ⟨vv x,rfl⟩
 exact ap True.intro
theorem p7:OkD P w K mg base C k "spots_of" gW ["block"] (a1 (eJ t)):=ok1 fI fun block _ _ _ _ _ _ _ _ bx hpo _=>by
 show FL _ _ [vv block,nn,nn] _ _ _
 refine cy (S':=[vv block,ow [],nn]) (fs_O (ja 1 fI.nd (FAL.out ad))) ?_ ?_
 rfl
 refine av (inj:=fun (s:List D) (w:Option Sl)=>[vv block,ow s,w]) (cj 2 (B:=fun (s:List D) (w:Option Sl) x4=>[vv block,ow s,vv x4]) nn hpo rfl (wJ (i6 rfl T.b_range (FAL.out (aa (ag bx.K (ac 0) af) (aa (ay bx.K (ag bx.K (ac 0) af) (ag bx.K (ac 0) af)) ad))))) ?_ (aq 2 fI.nd) rfl (fun _ _ _=>rfl) (fun s w x4=>?_)) (fun spots1 w1=>?_)
 rfl
 ·refine ai (S':=fun spots=>[vv block,ow spots,vv x4]) (fs_X (dS 1 bx.K (FAL.out (aa (fe_C (aC (N:=["x","y"]) (own:=1) (cap:=[2]) bx (BlkOk.of (by kernel_rfl)) (wJ (i6 rfl T.b_range (FAL.out (aa (ag bx.K (ac 0) af) (aa (ay bx.K (ag bx.K (ac 0) af) (ag bx.K (ac 0) af)) ad))))) (aE (by decide)) (fun _ _ _ _ _=>aq 0 (show List.Nodup (α:=Str) ["x","y"] by decide +kernel)) (fun _ _ _ _ _=>(aT (aa (ac 0) (aa (ac 1) ad)))))) ad)))) ?_ (fun spots=>?_)
  rfl
  exact ap ⟨vv x4,rfl⟩
 refine jc 1 (S':=[vv block,vv (.lst spots1),w1]) rfl rfl ?_
 refine az (ah (ac 1)) ?_
 rfl
theorem iK:OkD P w K mg base C k "worths_by_spot" ce ["squares"] (a1 (bp t)):=ok1 bd fun squares _ _ _ _ _ _ _ _ bx hpo made=>by
 show FL _ _ [vv squares,nn,nn,nn] _ _ _
 refine cy (S':=[vv squares,dt [],nn,nn]) (uQ 1 bd.nd) ?_ ?_
 rfl
 refine av (inj:=fun (s:List (List Int×D)) (w:Option Sl×Option Sl)=>[vv squares,dt s,w.1,w.2]) (cj 2 (B:=fun (s:List (List Int×D)) (w:Option Sl×Option Sl) x=>[vv squares,dt s,vv x,w.2]) (nn,nn) hpo rfl (aG bx.K (ac 0)) ?_ (aq 2 bd.nd) rfl (fun _ _ _=>rfl) (fun s w x=>?_)) (fun worths2 w4=>?_)
 rfl
 ·refine av (inj:=fun (s1:List (List Int×D)) (w1:Option Sl)=>[vv squares,dt s1,vv x,w1]) (cj 3 (B:=fun (s1:List (List Int×D)) (w1:Option Sl) x2=>[vv squares,dt s1,vv x,vv x2]) w.2 hpo rfl (aG bx.K (ae bx G.g193 rfl (aa (ac 2) ad))) ?_ (aq 3 bd.nd) rfl (fun _ _ _=>rfl) (fun s1 w1 x2=>?_)) (fun worths1 w3=>?_)
  rfl
  ·refine av (inj:=fun (_:Unit) (w2:Unit)=>[vv squares,dt s1,vv x,vv x2]) (aw (wW 1 bx (ac 3)) ?_ ?_ ?_) (fun _ w2=>?_)
   rfl
   ·refine fz (bg 6 bx made rfl T.c_NoBlocks T.x_NoBlocks (FAL.out (aa dg ad))) ?_
    rfl
   ·exact ap ⟨(),rfl⟩
   refine ai (S':=fun worths=>[vv squares,dt worths,vv x,vv x2]) (wX 1 bx (ag bx.K (ac 2) af) (ac 3)) ?_ (fun worths=>?_)
   rfl
   exact ap ⟨vv x2,rfl⟩
  exact ap ⟨(vv x,w3),rfl⟩
 refine y6 1 (S':=[vv squares,vv (tabD worths2),w4.1,w4.2]) rfl rfl ?_
 refine az (ah (ac 1)) ?_
 rfl
theorem vi:OkD P w K mg base C k "row_of" lm ["worths","side","y"] (a3 (iq t)):=ok3 vb fun worths side y _ _ _ _ _ _ _ _ bx _ _=>by
 show FL _ _ [vv worths,vv side,vv y] _ _ _
 refine aj (ah (fe_N (ba bx rfl T.b_tuple (FAL.out (aa (fe_C (aC (N:=["x","worths","y"]) (own:=1) (cap:=[0,2]) bx (BlkOk.of (by kernel_rfl)) (ii (bn rfl T.b_range (FAL.out (aa (ac 1) ad)))) (aE (by decide)) (fun _ _ _ _ _=>aq 0 (show List.Nodup (α:=Str) ["x","worths","y"] by decide +kernel)) (fun _ _ _ _ _=>(wY (ao bx) (ac 1) (aT (aa (ac 0) (aa (ac 2) ad))))))) ad))))) ?_
 rfl
theorem n9:OkD P w K mg base C k "of_blocks" fJ ["size","squares"] (a2 (dH t)):=ok2 eV fun size_ squares _ _ _ _ _ _ _ _ bx _ made=>by
 show FL _ _ [vv size_,vv squares,nn,nn] _ _ _
 refine ai (S':=fun _=>[vv size_,vv squares,nn,nn]) (bQ (ae bx G.g192 rfl (aa (ac 0) (aa (ac 1) ad)))) ?_ (fun _=>?_)
 rfl
 refine ai (S':=fun worths=>[vv size_,vv squares,vv worths,nn]) (ax 2 eV.nd (ae bx G.g194 rfl (aa (ac 1) ad))) ?_ (fun worths=>?_)
 rfl
 refine ai (S':=fun side=>[vv size_,vv squares,vv worths,vv side]) (ax 3 eV.nd (ag bx.K (dE T.t_SIDES rfl) (ac 0))) ?_ (fun side=>?_)
 rfl
 refine av (inj:=fun (_:Unit) (w:Unit)=>[vv size_,vv squares,vv worths,vv side]) (aw (bT bx (fe_N (uS bx rfl T.b_len (FAL.out (aa (ac 2) ad)))) (bz bx.K (ac 3) (ac 3))) ?_ ?_ ?_) (fun _ w=>?_)
 rfl
 ·refine fz (bg 6 bx made rfl T.c_NoBlocks T.x_NoBlocks (FAL.out (aa dg ad))) ?_
  rfl
 ·exact ap ⟨(),rfl⟩
 refine aj (ah (ae bx G.g53 rfl (aa (fe_N (ba bx rfl T.b_tuple (FAL.out (aa (fe_C (aC (N:=["y","worths","side"]) (own:=1) (cap:=[2,3]) bx (BlkOk.of (by kernel_rfl)) (ii (bn rfl T.b_range (FAL.out (aa (ac 3) ad)))) (aE (by decide)) (fun _ _ _ _ _=>aq 0 (show List.Nodup (α:=Str) ["y","worths","side"] by decide +kernel)) (fun _ _ _ _ _=>(ae (ao bx) G.g195 rfl (aa (ac 1) (aa (ac 2) (aa (ac 0) ad))))))) ad)))) ad))) ?_
 rfl
theorem p9:OkD P w K mg base C k "has_spot" gX ["block","x","y"] (a3 (eL t)):=ok3 pL fun block x y _ _ _ _ _ _ _ _ bx _ _=>by
 show FL _ _ [vv block,vv x,vv y] _ _ _
 refine aj (ah (bM (nI (ag bx.K (ac 0) af) (ac 1) (ay bx.K (ag bx.K (ac 0) af) (ag bx.K (ac 0) af))) (bL (nI (ag bx.K (ac 0) af) (ac 2) (ay bx.K (ag bx.K (ac 0) af) (ag bx.K (ac 0) af)))))) ?_
 rfl
theorem zn:OkD P w K mg base C k "meet" rN ["one","other","along"] (a3 (kY t)):=ok3 zl fun one other along _ _ _ _ _ _ _ _ bx _ _=>by
 show FL _ _ [vv one,vv other,vv along] _ _ _
 refine aj (ah (zF (oN bx (ay bx.K (ag bx.K (ac 0) (ac 2)) (ag bx.K (ac 0) af)) (ag bx.K (ac 1) (ac 2))) (bL (oN bx (ay bx.K (ag bx.K (ac 1) (ac 2)) (ag bx.K (ac 1) af)) (ag bx.K (ac 0) (ac 2)))))) ?_
 rfl
theorem rW:OkD P w K mg base C k "overlap" jB ["one","other","along"] (a3 (d4 t)):=ok3 rP fun one other along _ _ _ _ _ _ _ _ bx _ _=>by
 show FL _ _ [vv one,vv other,vv along] _ _ _
 refine aj (ah (bM (zH (ag bx.K (ac 0) (ac 2)) (ay bx.K (ag bx.K (ac 1) (ac 2)) (ag bx.K (ac 1) af))) (bL (zH (ag bx.K (ac 1) (ac 2)) (ay bx.K (ag bx.K (ac 0) (ac 2)) (ag bx.K (ac 0) af)))))) ?_
 rfl
theorem mH:OkD P w K mg base C k "are_beside" eW ["one","other"] (a2 (cT t)):=ok2 my fun one other _ _ _ _ _ _ _ _ bx _ _=>by
 show FL _ _ [vv one,vv other] _ _ _
 refine aj (ah (zF (bM (ae bx G.g203 rfl (aa (ac 0) (aa (ac 1) (aa af ad)))) (bL (ae bx G.g204 rfl (aa (ac 0) (aa (ac 1) (aa af ad)))))) (bL (bM (ae bx G.g203 rfl (aa (ac 0) (aa (ac 1) (aa af ad)))) (bL (ae bx G.g204 rfl (aa (ac 0) (aa (ac 1) (aa af ad))))))))) ?_
 rfl
theorem mI:OkD P w K mg base C k "moved_tree" eX ["tree","order"] (a2 (bW t)):=ok2 mz fun tree_ order _ _ _ _ _ _ _ _ bx _ _=>by
 show FL _ _ [vv tree_,vv order] _ _ _
 refine av (inj:=fun (_:Unit) (w:Unit)=>[vv tree_,vv order]) (aw (aN (aK (aI bx rfl T.b_isinstance bo (ac 0) (a6 rfl T.b_tuple (by decide +kernel) rfl)))) ?_ ?_ ?_) (fun _ w=>?_)
 rfl
 ·refine az (ah (ac 0)) ?_
  rfl
 ·exact ap ⟨(),rfl⟩
 refine aj (ah (fe_N (ba bx rfl T.b_tuple (FAL.out (aa (fe_C (aC (N:=["number","order","tree"]) (own:=1) (cap:=[1,0]) bx (BlkOk.of (by kernel_rfl)) (aG bx.K (ac 1)) (aE (by decide)) (fun _ _ _ _ _=>aq 0 (show List.Nodup (α:=Str) ["number","order","tree"] by decide +kernel)) (fun _ _ _ _ _=>(ae (ao bx) G.g69 rfl (aa (ag (ao bx).K (ac 2) (ac 0)) (aa (ac 1) ad)))))) ad))))) ?_
 rfl
theorem xo:OkD P w K mg base C k "moved" nU ["picture","order"] (a2 (kn t)):=ok2 pM fun picture order _ _ _ _ _ _ _ _ bx _ _=>by
 show FL _ _ [vv picture,vv order,nn] _ _ _
 refine ai (S':=fun shown=>[vv picture,vv order,vv shown]) (ax 2 pM.nd (ae bx G.g29 rfl (aa (ac 0) ad))) ?_ (fun shown=>?_)
 rfl
 refine aj (ah (aT (aa (ag bx.K (ac 2) af) (aa (ae bx G.g69 rfl (aa (ag bx.K (ac 2) af) (aa (ac 1) ad))) ad)))) ?_
 rfl
theorem vj:OkD P w K mg base C k "turned" ln ["picture"] (a1 (ir t)):=ok1 vc fun picture _ _ _ _ _ _ _ _ bx _ _=>by
 show FL _ _ [vv picture] _ _ _
 refine aj (ah (ae bx G.g70 rfl (aa (ac 0) (aa (dE T.t_BY_TURNING rfl) ad)))) ?_
 rfl
theorem qf:OkD P w K mg base C k "mirrored" gY ["picture"] (a1 (eM t)):=ok1 pN fun picture _ _ _ _ _ _ _ _ bx _ _=>by
 show FL _ _ [vv picture] _ _ _
 refine aj (ah (ae bx G.g70 rfl (aa (ac 0) (aa (dE T.t_BY_MIRRORING rfl) ad)))) ?_
 rfl
theorem rX:OkD P w K mg base C k "swapped" jC ["picture"] (a1 (gr t)):=ok1 rQ fun picture _ _ _ _ _ _ _ _ bx _ _=>by
 show FL _ _ [vv picture] _ _ _
 refine aj (ah (ae bx G.g70 rfl (aa (ac 0) (aa (dE T.t_BY_SWAPPING rfl) ad)))) ?_
 rfl
theorem oa:OkD P w K mg base C k "check_way" fK ["thing"] (a1 (dJ t)):=ok1 nV fun thing _ _ _ _ _ _ _ _ bx _ made=>by
 show FL _ _ [vv thing] _ _ _
 refine fA (aw (ft_w (dh (aN (aK (ae bx G.g20 rfl (aa (ac 0) ad)))) (bJ (aN (yG af (ac 0) (fW T.k_WAYS rfl)))))) ?_ ?_ ?_)
 rfl
 ·refine fz (bg 2 bx made rfl T.c_NoSpot T.x_NoSpot (FAL.out (aa dg ad))) ?_
  rfl
 ·exact ap True.intro
theorem vk:OkD P w K mg base C k "by_way" lq ["picture","way"] (a2 (iu t)):=ok2 d5 fun picture way _ _ _ _ _ _ _ _ bx hpo _=>by
 show FL _ _ [vv picture,vv way,nn,nn] _ _ _
 refine ai (S':=fun told=>[vv picture,vv way,vv told,nn]) (ax 2 d5.nd (ae bx G.g29 rfl (aa (ac 0) ad))) ?_ (fun told=>?_)
 rfl
 refine ai (S':=fun _=>[vv picture,vv way,vv told,nn]) (bQ (ae bx G.g127 rfl (aa (ac 1) ad))) ?_ (fun _=>?_)
 rfl
 refine av (inj:=fun (told2:D) (w:Unit)=>[vv picture,vv way,vv told2,nn]) (aw (Bc (ac 1) (fW T.k_TURNS rfl)) ?_ ?_ ?_) (fun told2 w=>?_)
 rfl
 ·refine ai (S':=fun told1=>[vv picture,vv way,vv told1,nn]) (ax 2 d5.nd (ae bx G.g84 rfl (aa (ac 2) ad))) ?_ (fun told1=>?_)
  rfl
  exact ap ⟨(),rfl⟩
 ·exact ap ⟨(),rfl⟩
 refine av (inj:=fun (s:D) (w1:Option Sl)=>[vv picture,vv way,vv s,w1]) (cj 3 (B:=fun (s:D) (w1:Option Sl) x1=>[vv picture,vv way,vv s,vv x1]) nn hpo rfl (ii (bn rfl T.b_range (FAL.out (aa (dO (ac 1) (fW T.k_TURNS rfl)) ad)))) ?_ (aq 3 d5.nd) rfl (fun _ _ _=>rfl) (fun s w1 x1=>?_)) (fun told4 w2=>?_)
 rfl
 ·refine ai (S':=fun told3=>[vv picture,vv way,vv told3,vv x1]) (ax 2 d5.nd (ae bx G.g125 rfl (aa (ac 2) ad))) ?_ (fun told3=>?_)
  rfl
  exact ap ⟨vv x1,rfl⟩
 refine az (ah (ac 2)) ?_
 rfl
theorem qh:OkD P w K mg base C k "comes_to" gZ ["block","area"] (a2 (eN t)):=ok2 pO fun block area _ _ _ _ _ _ _ _ bx _ _=>by
 show FL _ _ [vv block,vv area] _ _ _
 refine aj (ah (fe_N (wN bx rfl T.b_any (FAL.out (aa (fe_C (aC (N:=["other","block"]) (own:=1) (cap:=[0]) bx (BlkOk.of (by kernel_rfl)) (aG bx.K (ac 1)) (aE (by decide)) (fun _ _ _ _ _=>aq 0 (show List.Nodup (α:=Str) ["other","block"] by decide +kernel)) (fun _ _ _ _ _=>(bM (oN (ao bx) (ag (ao bx).K (ac 1) af) (ag (ao bx).K (ac 0) af)) (bL (ae (ao bx) G.g205 rfl (aa (ac 1) (aa (ac 0) ad)))))))) ad))))) ?_
 rfl
theorem mJ:OkD P w K mg base C k "areas_with" eY ["block","found"] (a2 (cU t)):=ok2 cx fun block found _ _ _ _ _ _ _ _ bx hpo _=>by
 show FL _ _ [vv block,vv found,nn,nn,nn] _ _ _
 refine cy (S':=[vv block,vv found,ow [block],nn,nn]) (fs_O (ja 2 cx.nd (FAL.out (aa (ac 0) ad)))) ?_ ?_
 rfl
 refine cy (S':=[vv block,vv found,ow [block],ow [],nn]) (fs_O (ja 3 cx.nd (FAL.out ad))) ?_ ?_
 rfl
 refine av (inj:=fun (s:List D×List D) (w:Option Sl)=>[vv block,vv found,ow s.1,ow s.2,w]) (cj 4 (B:=fun (s:List D×List D) (w:Option Sl) x=>[vv block,vv found,ow s.1,ow s.2,vv x]) nn hpo rfl (aG bx.K (ac 1)) ?_ (aq 4 cx.nd) rfl (fun _ _ _=>rfl) (fun s w x=>?_)) (fun s1 w1=>?_)
 rfl
 ·refine fA (aw (aK (ae bx G.g209 rfl (aa (ac 0) (aa (ac 4) ad)))) ?_ ?_ ?_)
  rfl
  ·refine ai (S':=fun area=>[vv block,vv found,ow area,ow s.2,vv x]) (fs_X (dS 2 bx.K (FAL.out (aa (ac 4) ad)))) ?_ (fun area=>?_)
   rfl
   exact ap ⟨vv x,rfl⟩
  ·refine ai (S':=fun apart=>[vv block,vv found,ow s.1,ow apart,vv x]) (fs_A (ux 3 (FAL.out (aa (ac 4) ad)))) ?_ (fun apart=>?_)
   rfl
   exact ap ⟨vv x,rfl⟩
 refine jc 2 (S':=[vv block,vv found,vv (.lst s1.1),ow s1.2,w1]) rfl rfl ?_
 refine jc 3 (S':=[vv block,vv found,vv (.lst s1.1),vv (.lst s1.2),w1]) rfl rfl ?_
 refine aj (ah (ay bx.K (ac 3) (cM (aa (ac 2) ad)))) ?_
 rfl
theorem qk:OkD P w K mg base C k "in_order" g5 ["area","squares"] (a2 (eO t)):=ok2 pP fun area squares _ _ _ _ _ _ _ _ bx _ _=>by
 show FL _ _ [vv area,vv squares] _ _ _
 refine aj (ah (fe_C (dR (N:=["block","area"]) (own:=1) (cap:=[0]) bx (BlkOk.of (by kernel_rfl)) (aG bx.K (ac 1)) (aE (by decide)) (fun _ _ _ _ _=>aq 0 (show List.Nodup (α:=Str) ["block","area"] by decide +kernel)) (fun _ _ _ _ _=>(wM (ao bx) (ac 0) (ac 1))) (fun _ _ _ _ _=>(ac 0))))) ?_
 rfl
theorem xp:OkD P w K mg base C k "areas" nW ["picture"] (a1 (kq t)):=ok1 fL fun picture _ _ _ _ _ _ _ _ bx hpo _=>by
 show FL _ _ [vv picture,nn,nn,nn] _ _ _
 refine ai (S':=fun squares=>[vv picture,vv squares,nn,nn]) (ax 1 fL.nd (ae bx G.g189 rfl (aa (ac 0) ad))) ?_ (fun squares=>?_)
 rfl
 refine cy (S':=[vv picture,vv squares,vv (.lst []),nn]) (ax 2 fL.nd (cM ad)) ?_ ?_
 rfl
 refine av (inj:=fun (s:D) (w:Option Sl)=>[vv picture,vv squares,vv s,w]) (cj 3 (B:=fun (s:D) (w:Option Sl) x=>[vv picture,vv squares,vv s,vv x]) nn hpo rfl (aG bx.K (ac 1)) ?_ (aq 3 fL.nd) rfl (fun _ _ _=>rfl) (fun s w x=>?_)) (fun found1 w1=>?_)
 rfl
 ·refine ai (S':=fun found=>[vv picture,vv squares,vv found,vv x]) (ax 2 fL.nd (ae bx G.g210 rfl (aa (ac 3) (aa (ac 2) ad)))) ?_ (fun found=>?_)
  rfl
  exact ap ⟨vv x,rfl⟩
 refine aj (ah (fe_C (aC (N:=["area","squares"]) (own:=1) (cap:=[1]) bx (BlkOk.of (by kernel_rfl)) (aG bx.K (ac 2)) (aE (by decide)) (fun _ _ _ _ _=>aq 0 (show List.Nodup (α:=Str) ["area","squares"] by decide +kernel)) (fun _ _ _ _ _=>(ae (ao bx) G.g211 rfl (aa (ac 0) (aa (ac 1) ad))))))) ?_
 rfl
theorem xq:OkD P w K mg base C k "is_in" nX ["x","y","area"] (a3 (kr t)):=ok3 xn fun x y area _ _ _ _ _ _ _ _ bx _ _=>by
 show FL _ _ [vv x,vv y,vv area] _ _ _
 refine aj (ah (fe_N (wN bx rfl T.b_any (FAL.out (aa (fe_C (aC (N:=["block","x","y"]) (own:=1) (cap:=[0,1]) bx (BlkOk.of (by kernel_rfl)) (aG bx.K (ac 2)) (aE (by decide)) (fun _ _ _ _ _=>aq 0 (show List.Nodup (α:=Str) ["block","x","y"] by decide +kernel)) (fun _ _ _ _ _=>(ae (ao bx) G.g197 rfl (aa (ac 0) (aa (ac 1) (aa (ac 2) ad))))))) ad))))) ?_
 rfl
theorem kg:OkD P w K mg base C k "blocks_round" dv ["picture","x","y"] (a3 (bX t)):=ok3 j8 fun picture x y _ _ _ _ _ _ _ _ bx _ _=>by
 show FL _ _ [vv picture,vv x,vv y] _ _ _
 refine ai (S':=fun _=>[vv picture,vv x,vv y]) (bQ (ae bx G.g28 rfl (aa (ac 0) ad))) ?_ (fun _=>?_)
 rfl
 refine ai (S':=fun _=>[vv picture,vv x,vv y]) (bQ (ae bx G.g47 rfl (aa (ac 0) (aa (ac 1) (aa (ac 2) ad))))) ?_ (fun _=>?_)
 rfl
 refine aj (ah (ag bx.K (fe_C (dR (N:=["area","x","y"]) (own:=1) (cap:=[1,2]) bx (BlkOk.of (by kernel_rfl)) (aG bx.K (ae bx G.g212 rfl (aa (ac 0) ad))) (aE (by decide)) (fun _ _ _ _ _=>aq 0 (show List.Nodup (α:=Str) ["area","x","y"] by decide +kernel)) (fun _ _ _ _ _=>(aK (ae (ao bx) G.g213 rfl (aa (ac 1) (aa (ac 2) (aa (ac 0) ad)))))) (fun _ _ _ _ _=>(ac 0)))) af)) ?_
 rfl
theorem rY:OkD P w K mg base C k "area_at" jD ["picture","x","y"] (a3 (gu t)):=ok3 g6 fun picture x y _ _ _ _ _ _ _ _ bx hpo _=>by
 show FL _ _ [vv picture,vv x,vv y,nn,nn] _ _ _
 refine cy (S':=[vv picture,vv x,vv y,ow [],nn]) (fs_O (ja 3 g6.nd (FAL.out ad))) ?_ ?_
 rfl
 refine av (inj:=fun (s:List D) (w:Option Sl)=>[vv picture,vv x,vv y,ow s,w]) (cj 4 (B:=fun (s:List D) (w:Option Sl) x2=>[vv picture,vv x,vv y,ow s,vv x2]) nn hpo rfl (aG bx.K (ae bx G.g214 rfl (aa (ac 0) (aa (ac 1) (aa (ac 2) ad))))) ?_ (aq 4 g6.nd) rfl (fun _ _ _=>rfl) (fun s w x2=>?_)) (fun spots1 w1=>?_)
 rfl
 ·refine ai (S':=fun spots=>[vv picture,vv x,vv y,ow spots,vv x2]) (fs_X (dS 3 bx.K (FAL.out (aa (ae bx G.g193 rfl (aa (ac 4) ad)) ad)))) ?_ (fun spots=>?_)
  rfl
  exact ap ⟨vv x2,rfl⟩
 refine jc 3 (S':=[vv picture,vv x,vv y,vv (.lst spots1),w1]) rfl rfl ?_
 refine aj (ah (fe_N (rB bx rfl T.b_sorted (FAL.out (aa (ac 3) ad))))) ?_
 rfl
theorem mK:OkD P w K mg base C k "many_spots" eZ ["area"] (a1 (cW t)):=ok1 mB fun area _ _ _ _ _ _ _ _ bx _ _=>by
 show FL _ _ [vv area] _ _ _
 refine aj (ah (fe_N (nK bx rfl T.b_sum (FAL.out (aa (fe_C (aC (N:=["block"]) (own:=1) (cap:=[]) bx (BlkOk.of (by kernel_rfl)) (aG bx.K (ac 0)) (aE (by decide)) (fun _ _ _ _ _=>aq 0 (show List.Nodup (α:=Str) ["block"] by decide +kernel)) (fun _ _ _ _ _=>(bz (ao bx).K (ag (ao bx).K (ac 0) af) (ag (ao bx).K (ac 0) af))))) ad))))) ?_
 rfl
theorem mL:OkD P w K mg base C k "area_sizes" e8 ["picture"] (a1 (cX t)):=ok1 mC fun picture _ _ _ _ _ _ _ _ bx _ _=>by
 show FL _ _ [vv picture] _ _ _
 refine aj (ah (fe_N (uL bx rfl T.b_sorted (FAL.out (aa (fe_C (aC (N:=["area"]) (own:=1) (cap:=[]) bx (BlkOk.of (by kernel_rfl)) (aG bx.K (ae bx G.g212 rfl (aa (ac 0) ad))) (aE (by decide)) (fun _ _ _ _ _=>aq 0 (show List.Nodup (α:=Str) ["area"] by decide +kernel)) (fun _ _ _ _ _=>(ae (ao bx) G.g216 rfl (aa (ac 0) ad))))) ad))))) ?_
 rfl
theorem iL:OkD P w K mg base C k "how_many_areas" cf ["picture"] (a1 (bq t)):=ok1 iJ fun picture _ _ _ _ _ _ _ _ bx _ _=>by
 show FL _ _ [vv picture] _ _ _
 refine aj (ah (fe_N (bS bx rfl T.b_len (FAL.out (aa (ae bx G.g212 rfl (aa (ac 0) ad)) ad))))) ?_
 rfl
theorem og:OkD P w K mg base C k "unlike_in" fM ["row"] (a1 (dM t)):=ok1 nY fun row _ _ _ _ _ _ _ _ bx _ _=>by
 show FL _ _ [vv row] _ _ _
 refine aj (ah (fe_N (nK bx rfl T.b_sum (FAL.out (aa (fe_C (dR (N:=["place","row"]) (own:=1) (cap:=[0]) bx (BlkOk.of (by kernel_rfl)) (wJ (i6 rfl T.b_range (FAL.out (aa af (aa (fe_N (bS bx rfl T.b_len (FAL.out (aa (ac 0) ad)))) ad))))) (aE (by decide)) (fun _ _ _ _ _=>aq 0 (show List.Nodup (α:=Str) ["place","row"] by decide +kernel)) (fun _ _ _ _ _=>(bT (ao bx) (ag (ao bx).K (ac 1) (ac 0)) (ag (ao bx).K (ac 1) (kJ (ac 0) af)))) (fun _ _ _ _ _=>af))) ad))))) ?_
 rfl
theorem jI:OkD P w K mg base C k "unlike_across" cK ["picture"] (a1 (bI t)):=ok1 jE fun picture _ _ _ _ _ _ _ _ bx _ _=>by
 show FL _ _ [vv picture] _ _ _
 refine aj (ah (fe_N (nK bx rfl T.b_sum (FAL.out (aa (fe_C (aC (N:=["row"]) (own:=1) (cap:=[]) bx (BlkOk.of (by kernel_rfl)) (aG bx.K (ae bx G.g50 rfl (aa (ac 0) ad))) (aE (by decide)) (fun _ _ _ _ _=>aq 0 (show List.Nodup (α:=Str) ["row"] by decide +kernel)) (fun _ _ _ _ _=>(ae (ao bx) G.g219 rfl (aa (ac 0) ad))))) ad))))) ?_
 rfl
theorem vm:OkD P w K mg base C k "border" lr ["picture"] (a1 (iy t)):=ok1 vd fun picture _ _ _ _ _ _ _ _ bx _ _=>by
 show FL _ _ [vv picture] _ _ _
 refine aj (ah (ay bx.K (ae bx G.g220 rfl (aa (ac 0) ad)) (ae bx G.g220 rfl (aa (ae bx G.g71 rfl (aa (ac 0) ad)) ad)))) ?_
 rfl
theorem mM:OkD P w K mg base C k "with_worth" e9 ["block","worth"] (a2 (cY t)):=ok2 mD fun block worth _ _ _ _ _ _ _ _ bx _ _=>by
 show FL _ _ [vv block,vv worth] _ _ _
 refine aj (ah (aT (aa (ag bx.K (ac 0) af) (aa (ag bx.K (ac 0) af) (aa (ag bx.K (ac 0) af) (aa (ac 1) ad)))))) ?_
 rfl
theorem vn:OkD P w K mg base C k "poured" lu ["picture","x","y","worth"] (a4 (iz t)):=ok4 jF fun picture x y worth _ _ _ _ _ _ _ _ bx _ _=>by
 show FL _ _ [vv picture,vv x,vv y,vv worth,nn,nn] _ _ _
 refine ai (S':=fun area=>[vv picture,vv x,vv y,vv worth,vv area,nn]) (ax 4 jF.nd (ae bx G.g214 rfl (aa (ac 0) (aa (ac 1) (aa (ac 2) ad))))) ?_ (fun area=>?_)
 rfl
 refine ai (S':=fun _=>[vv picture,vv x,vv y,vv worth,vv area,nn]) (bQ (ae bx G.g65 rfl (aa (ac 3) ad))) ?_ (fun _=>?_)
 rfl
 refine ai (S':=fun rest_=>[vv picture,vv x,vv y,vv worth,vv area,vv rest_]) (fs_C (nG 5 (N:=["block","area"]) (own:=1) (cap:=[4]) bx (BlkOk.of (by kernel_rfl)) (aG bx.K (ae bx G.g189 rfl (aa (ac 0) ad))) (aE (by decide)) (fun _ _ _ _ _=>aq 0 (show List.Nodup (α:=Str) ["block","area"] by decide +kernel)) (fun _ _ _ _ _=>(fX (ao bx) (ac 0) (ac 1))) (fun _ _ _ _ _=>(ac 0)) jF.nd (hsw:=by kernel_rfl))) ?_ (fun rest_=>?_)
 rfl
 refine aj (ah (ae bx G.g196 rfl (aa (ag bx.K (ac 0) af) (aa (ay bx.K (ac 5) (fe_C (aC (N:=["block","worth"]) (own:=1) (cap:=[3]) bx (BlkOk.of (by kernel_rfl)) (aG bx.K (ac 4)) (aE (by decide)) (fun _ _ _ _ _=>aq 0 (show List.Nodup (α:=Str) ["block","worth"] by decide +kernel)) (fun _ _ _ _ _=>(ae (ao bx) G.g222 rfl (aa (ac 0) (aa (ac 1) ad))))))) ad)))) ?_
 rfl
theorem ql:OkD P w K mg base C k "is_table" g7 ["thing"] (a1 (eQ t)):=ok1 pQ fun thing _ _ _ _ _ _ _ _ bx _ _=>by
 show FL _ _ [vv thing] _ _ _
 refine av (inj:=fun (_:Unit) (w:Unit)=>[vv thing]) (aw (ft_w (dh (aN (aK (aI bx rfl T.b_isinstance bo (ac 0) (a6 rfl T.b_tuple (by decide +kernel) rfl)))) (bJ (bT bx (fe_N (bS bx rfl T.b_len (FAL.out (aa (ac 0) ad)))) (ay bx.K (fW T.k_GREATEST_WORTH rfl) af))))) ?_ ?_ ?_) (fun _ w=>?_)
 rfl
 ·refine az (ah df) ?_
  rfl
 ·exact ap ⟨(),rfl⟩
 refine aj (ah (fe_N (kM bx rfl T.b_all (FAL.out (aa (fe_C (aC (N:=["worth"]) (own:=1) (cap:=[]) bx (BlkOk.of (by kernel_rfl)) (aG bx.K (ac 0)) (aE (by decide)) (fun _ _ _ _ _=>aq 0 (show List.Nodup (α:=Str) ["worth"] by decide +kernel)) (fun _ _ _ _ _=>(ae (ao bx) G.g21 rfl (aa (ac 0) ad))))) ad))))) ?_
 rfl
theorem lH:OkD P w K mg base C k "check_table" dQ ["thing"] (a1 (cw t)):=ok1 lv fun thing _ _ _ _ _ _ _ _ bx _ made=>by
 show FL _ _ [vv thing] _ _ _
 refine fA (aw (aN (aK (ae bx G.g156 rfl (aa (ac 0) ad)))) ?_ ?_ ?_)
 rfl
 ·refine fz (bg 5 bx made rfl T.c_NoRule T.x_NoRule (FAL.out (aa dg ad))) ?_
  rfl
 ·exact ap True.intro
theorem qm:OkD P w K mg base C k "led_tree" g8 ["table","tree"] (a2 (dn t)):=ok2 pR fun table tree_ _ _ _ _ _ _ _ _ bx _ _=>by
 show FL _ _ [vv table,vv tree_] _ _ _
 refine av (inj:=fun (_:Unit) (w:Unit)=>[vv table,vv tree_]) (aw (aN (aK (aI bx rfl T.b_isinstance bo (ac 1) (a6 rfl T.b_tuple (by decide +kernel) rfl)))) ?_ ?_ ?_) (fun _ w=>?_)
 rfl
 ·refine aj (ah (ag bx.K (ac 0) (ac 1))) ?_
  rfl
 ·exact ap ⟨(),rfl⟩
 refine aj (ah (ae bx G.g25 rfl (aa (fe_N (ba bx rfl T.b_tuple (FAL.out (aa (fe_C (aC (N:=["part","table"]) (own:=1) (cap:=[0]) bx (BlkOk.of (by kernel_rfl)) (aG bx.K (ac 1)) (aE (by decide)) (fun _ _ _ _ _=>aq 0 (show List.Nodup (α:=Str) ["part","table"] by decide +kernel)) (fun _ _ _ _ _=>(ae (ao bx) G.g162 rfl (aa (ac 1) (aa (ac 0) ad)))))) ad)))) ad))) ?_
 rfl
theorem qo:OkD P w K mg base C k "led_over" g9 ["table","picture"] (a2 (eR t)):=ok2 pT fun table picture _ _ _ _ _ _ _ _ bx _ _=>by
 show FL _ _ [vv table,vv picture] _ _ _
 refine ai (S':=fun _=>[vv table,vv picture]) (bQ (ae bx G.g157 rfl (aa (ac 0) ad))) ?_ (fun _=>?_)
 rfl
 refine ai (S':=fun _=>[vv table,vv picture]) (bQ (ae bx G.g28 rfl (aa (ac 1) ad))) ?_ (fun _=>?_)
 rfl
 refine aj (ah (aT (aa (ag bx.K (ac 1) af) (aa (ae bx G.g162 rfl (aa (ac 0) (aa (ag bx.K (ac 1) af) ad))) ad)))) ?_
 rfl
theorem vo:OkD P w K mg base C k "_law_cell" ly ["_law_script","_law_k"] (a2 (iA t)):=ok2 ve fun BQ B2 _ _ _ _ _ _ _ _ bx _ _=>by
 show FL _ _ [vv BQ,vv B2] _ _ _
 refine av (inj:=fun (_:Unit) (w:Unit)=>[vv BQ,vv B2]) (aw (zI (ac 1) (fe_N (bS bx rfl T.b_len (FAL.out (aa (ac 0) ad))))) ?_ ?_ ?_) (fun _ w=>?_)
 rfl
 ·refine aj (ah (ag bx.K (ac 0) (ac 1))) ?_
  rfl
 ·exact ap ⟨(),rfl⟩
 refine av (inj:=fun (_:Unit) (w1:Unit)=>[vv BQ,vv B2]) (aw (kK bx (ac 0) (cM ad)) ?_ ?_ ?_) (fun _ w1=>?_)
 rfl
 ·refine az (ah af) ?_
  rfl
 ·exact ap ⟨(),rfl⟩
 refine aj (ah (ay bx.K (bz bx.K (ag bx.K (ac 0) (dO (ac 1) (fe_N (bS bx rfl T.b_len (FAL.out (aa (ac 0) ad)))))) af) (ac 1))) ?_
 rfl
theorem vp:OkD P w K mg base C k "_law_pick" lz ["_law_script","_law_k","_law_many"] (a3 (iB t)):=ok3 ng fun BQ B2 Ch _ _ _ _ _ _ _ _ bx _ _=>by
 show FL _ _ [vv BQ,vv B2,vv Ch,nn] _ _ _
 refine ai (S':=fun Ca=>[vv BQ,vv B2,vv Ch,vv Ca]) (ax 3 ng.nd (dO (bz bx.K (ay bx.K (ae bx G.g30 rfl (aa (ac 0) (aa (ac 1) ad))) (bz bx.K af (ay bx.K (ac 1) af))) af) af)) ?_ (fun Ca=>?_)
 rfl
 refine aj (ah (dO (dO (ay bx.K (bz bx.K (ac 3) (ac 3)) (gH (ac 3) af)) af) (ac 2))) ?_
 rfl
theorem vq:OkD P w K mg base C k "_law_tree" lE ["_law_script","_law_at","_law_size"] (a3 (fD t)):=ok3 nh fun BQ Cc BS _ _ _ _ _ _ _ _ bx _ _=>by
 show FL _ _ [vv BQ,vv Cc,vv BS,nn] _ _ _
 refine ai (S':=fun B3=>[vv BQ,vv Cc,vv BS,vv B3]) (ax 3 nh.nd (ae bx G.g31 rfl (aa (ac 0) (aa (ac 1) (aa af ad))))) ?_ (fun B3=>?_)
 rfl
 refine av (inj:=fun (_:Unit) (w:Unit)=>[vv BQ,vv Cc,vv BS,vv B3]) (aw (ft_w (dh (kK bx (ac 2) af) (bJ (zI (ac 3) af)))) ?_ ?_ ?_) (fun _ w=>?_)
 rfl
 ·refine aj (ah (ag bx.K (cM (aa af (aa af (aa af (aa af (aa af (aa (ae bx G.g31 rfl (aa (ac 0) (aa (ay bx.K (ac 1) af) (aa af ad)))) ad))))))) (ae bx G.g31 rfl (aa (ac 0) (aa (ay bx.K (ac 1) af) (aa af ad)))))) ?_
  rfl
 ·exact ap ⟨(),rfl⟩
 refine av (inj:=fun (_:Unit) (w1:Unit)=>[vv BQ,vv Cc,vv BS,vv B3]) (aw (kK bx (ac 3) af) ?_ ?_ ?_) (fun _ w1=>?_)
 rfl
 ·refine aj (ah (bz bx.K (aT (aa (ae bx G.g32 rfl (aa (ac 0) (aa (ay bx.K (ac 1) af) (aa (kJ (ac 2) af) ad)))) ad)) af)) ?_
  rfl
 ·exact ap ⟨(),rfl⟩
 refine aj (ah (fe_N (ba bx rfl T.b_tuple (FAL.out (aa (fe_C (aC (N:=["_law_k","_law_script","_law_size","_law_at"]) (own:=1) (cap:=[0,2,1]) bx (BlkOk.of (by kernel_rfl)) (ii (bn rfl T.b_range (FAL.out (aa af ad)))) (aE (by decide)) (fun _ _ _ _ _=>aq 0 (show List.Nodup (α:=Str) ["_law_k","_law_script","_law_size","_law_at"] by decide +kernel)) (fun _ _ _ _ _=>(ae (ao bx) G.g32 rfl (aa (ac 1) (aa (ay (ao bx).K (ay (ao bx).K (bz (ao bx).K af (ac 3)) af) (bz (ao bx).K af (ac 0))) (aa (kJ (ac 2) af) ad))))))) ad))))) ?_
 rfl
theorem oh:OkD P w K mg base C k "_law_rows_of" fN ["_law_size","_law_tree_here"] (a2 (cB t)):=ok2 bY fun BS BW _ _ _ _ _ _ _ _ bx hpo _=>by
 show FL _ _ [vv BS,vv BW,nn,nn,nn,nn] _ _ _
 refine av (inj:=fun (_:Unit) (w:Unit)=>[vv BS,vv BW,nn,nn,nn,nn]) (aw (kK bx (ac 0) af) ?_ ?_ ?_) (fun _ w=>?_)
 rfl
 ·refine az (ah (cM (aa (cM (aa (ac 1) ad)) ad))) ?_
  rfl
 ·exact ap ⟨(),rfl⟩
 refine ai (S':=fun B6=>[vv BS,vv BW,vv B6,nn,nn,nn]) (ax 2 bY.nd (zG (aK (aI bx rfl T.b_isinstance bo (ac 1) (a6 rfl T.b_tuple (by decide +kernel) rfl))) (ac 1) (bz bx.K (aT (aa (ac 1) ad)) af))) ?_ (fun B6=>?_)
 rfl
 refine ai (S':=fun B4=>[vv BS,vv BW,vv B6,vv B4,nn,nn]) (ax 3 bY.nd (fe_C (aC (N:=["_law_part","_law_size"]) (own:=1) (cap:=[0]) bx (BlkOk.of (by kernel_rfl)) (aG bx.K (ac 2)) (aE (by decide)) (fun _ _ _ _ _=>aq 0 (show List.Nodup (α:=Str) ["_law_part","_law_size"] by decide +kernel)) (fun _ _ _ _ _=>(ae (ao bx) G.g54 rfl (aa (kJ (ac 1) af) (aa (ac 0) ad)))))) (hs:=by kernel_rfl)) ?_ (fun B4=>?_)
 rfl
 refine cy (S':=[vv BS,vv BW,vv B6,vv B4,ow [],nn]) (fs_O (ja 4 bY.nd (FAL.out ad))) ?_ ?_
 rfl
 refine av (inj:=fun (s:List D) (w1:Option Sl)=>[vv BS,vv BW,vv B6,vv B4,ow s,w1]) (cj 5 (B:=fun (s:List D) (w1:Option Sl) x1=>[vv BS,vv BW,vv B6,vv B4,ow s,vv x1]) nn hpo rfl (aG bx.K (aT (aa af (aa af ad)))) ?_ (aq 5 bY.nd) rfl (fun _ _ _=>rfl) (fun s w1 x1=>?_)) (fun Cd w2=>?_)
 rfl
 ·refine ai (S':=fun BU=>[vv BS,vv BW,vv B6,vv B4,ow BU,vv x1]) (fs_X (dS 4 bx.K (FAL.out (aa (fe_C (aC (N:=["_law_k","_law_some","_law_upper"]) (own:=1) (cap:=[3,5]) bx (BlkOk.of (by kernel_rfl)) (ii (bn rfl T.b_range (FAL.out (aa (fe_N (bS bx rfl T.b_len (FAL.out (aa (ag bx.K (ac 3) (ac 5)) ad)))) ad)))) (aE (by decide)) (fun _ _ _ _ _=>aq 0 (show List.Nodup (α:=Str) ["_law_k","_law_some","_law_upper"] by decide +kernel)) (fun _ _ _ _ _=>(ay (ao bx).K (ag (ao bx).K (ag (ao bx).K (ac 1) (ac 2)) (ac 0)) (ag (ao bx).K (ag (ao bx).K (ac 1) (ay (ao bx).K (ac 2) af)) (ac 0)))))) ad)))) ?_ (fun BU=>?_)
  rfl
  exact ap ⟨vv x1,rfl⟩
 refine jc 4 (S':=[vv BS,vv BW,vv B6,vv B4,vv (.lst Cd),w2]) rfl rfl ?_
 refine az (ah (ac 4)) ?_
 rfl
theorem vt:OkD P w K mg base C k "_law_rows" lF ["_law_picture_here"] (a1 (iC t)):=ok1 vf fun BP _ _ _ _ _ _ _ _ bx _ _=>by
 show FL _ _ [vv BP] _ _ _
 refine aj (ah (fe_N (ba bx rfl T.b_tuple (FAL.out (aa (fe_C (aC (N:=["_law_row"]) (own:=1) (cap:=[]) bx (BlkOk.of (by kernel_rfl)) (aG bx.K (ae bx G.g54 rfl (aa (ag bx.K (ac 0) af) (aa (ag bx.K (ac 0) af) ad)))) (aE (by decide)) (fun _ _ _ _ _=>aq 0 (show List.Nodup (α:=Str) ["_law_row"] by decide +kernel)) (fun _ _ _ _ _=>(fe_N (ba (ao bx) rfl T.b_tuple (FAL.out (aa (ac 0) ad))))))) ad))))) ?_
 rfl
theorem lI:OkD P w K mg base C k "law" bb ["_law_script"] (a1 (gw t)):=ok1 aA fun BQ _ _ _ _ _ _ _ _ bx hpo _=>by
 show FL _ _ [vv BQ,nn,nn,nn,nn,nn,nn,nn,nn,nn,nn,nn,nn,nn,nn,nn,nn,nn,nn] _ _ _
 refine ai (S':=fun BS=>[vv BQ,vv BS,nn,nn,nn,nn,nn,nn,nn,nn,nn,nn,nn,nn,nn,nn,nn,nn,nn]) (ax 1 aA.nd (ae bx G.g31 rfl (aa (ac 0) (aa af (aa af ad))))) ?_ (fun BS=>?_)
 rfl
 refine ai (S':=fun BP=>[vv BQ,vv BS,vv BP,nn,nn,nn,nn,nn,nn,nn,nn,nn,nn,nn,nn,nn,nn,nn,nn]) (ax 2 aA.nd (aT (aa (ac 1) (aa (ae bx G.g32 rfl (aa (ac 0) (aa af (aa (fe_N (yQ bx rfl T.b_min (FAL.out (aa (ac 1) (aa af ad))))) ad)))) ad)))) ?_ (fun BP=>?_)
 rfl
 refine ai (S':=fun BR=>[vv BQ,vv BS,vv BP,vv BR,nn,nn,nn,nn,nn,nn,nn,nn,nn,nn,nn,nn,nn,nn,nn]) (ax 3 aA.nd (ae bx G.g55 rfl (aa (ac 2) ad))) ?_ (fun BR=>?_)
 rfl
 refine ai (S':=fun BV=>[vv BQ,vv BS,vv BP,vv BR,vv BV,nn,nn,nn,nn,nn,nn,nn,nn,nn,nn,nn,nn,nn,nn]) (ax 4 aA.nd (fe_N (bS bx rfl T.b_len (FAL.out (aa (ac 3) ad))))) ?_ (fun BV=>?_)
 rfl
 refine sN 5 6 (S':=fun B0 B1=>[vv BQ,vv BS,vv BP,vv BR,vv BV,vv B0,vv B1,nn,nn,nn,nn,nn,nn,nn,nn,nn,nn,nn,nn]) (sL 5 6 bx aA.nd (FAL.out (aa (ae bx G.g31 rfl (aa (ac 0) (aa af (aa (ac 4) ad)))) (aa (ae bx G.g31 rfl (aa (ac 0) (aa af (aa (ac 4) ad)))) ad)))) ?_ ?_ (fun _ _=>rfl) (fun B0 B1=>?_)
 rfl
 rfl
 refine ai (S':=fun BT=>[vv BQ,vv BS,vv BP,vv BR,vv BV,vv B0,vv B1,vv BT,nn,nn,nn,nn,nn,nn,nn,nn,nn,nn,nn]) (ax 7 aA.nd (ae bx G.g31 rfl (aa (ac 0) (aa af (aa af ad))))) ?_ (fun BT=>?_)
 rfl
 refine ai (S':=fun BY=>[vv BQ,vv BS,vv BP,vv BR,vv BV,vv B0,vv B1,vv BT,vv BY,nn,nn,nn,nn,nn,nn,nn,nn,nn,nn]) (ax 8 aA.nd (ae bx G.g215 rfl (aa (ac 2) (aa (ac 5) (aa (ac 6) ad))))) ?_ (fun BY=>?_)
 rfl
 refine ai (S':=fun BU=>[vv BQ,vv BS,vv BP,vv BR,vv BV,vv B0,vv B1,vv BT,vv BY,vv BU,nn,nn,nn,nn,nn,nn,nn,nn,nn]) (ax 9 aA.nd (ae bx G.g223 rfl (aa (ac 2) (aa (ac 5) (aa (ac 6) (aa (ac 7) ad)))))) ?_ (fun BU=>?_)
 rfl
 refine av (inj:=fun (_:Unit) (w:Unit)=>[vv BQ,vv BS,vv BP,vv BR,vv BV,vv B0,vv B1,vv BT,vv BY,vv BU,nn,nn,nn,nn,nn,nn,nn,nn,nn]) (aw (ft_w (dh (bT bx (ae bx G.g48 rfl (aa (ac 9) (aa (ac 5) (aa (ac 6) ad)))) (ac 7)) (bJ (wn (ae bx G.g218 rfl (aa (ac 9) ad)) (ae bx G.g218 rfl (aa (ac 2) ad)))))) ?_ ?_ ?_) (fun _ w=>?_)
 rfl
 ·refine az (ah df) ?_
  rfl
 ·exact ap ⟨(),rfl⟩
 refine ai (S':=fun BZ=>[vv BQ,vv BS,vv BP,vv BR,vv BV,vv B0,vv B1,vv BT,vv BY,vv BU,vv BZ,nn,nn,nn,nn,nn,nn,nn,nn]) (ax 10 aA.nd (ae bx G.g215 rfl (aa (ac 9) (aa (ac 5) (aa (ac 6) ad))))) ?_ (fun BZ=>?_)
 rfl
 refine av (inj:=fun (_:Unit) (w1:Unit)=>[vv BQ,vv BS,vv BP,vv BR,vv BV,vv B0,vv B1,vv BT,vv BY,vv BU,vv BZ,nn,nn,nn,nn,nn,nn,nn,nn]) (aw (ft_w (dh (bT bx (fe_C (dR (N:=["_law_spot","_law_later"]) (own:=1) (cap:=[10]) bx (BlkOk.of (by kernel_rfl)) (aG bx.K (ac 8)) (aE (by decide)) (fun _ _ _ _ _=>aq 0 (show List.Nodup (α:=Str) ["_law_spot","_law_later"] by decide +kernel)) (fun _ _ _ _ _=>(fX (ao bx) (ac 0) (ac 1))) (fun _ _ _ _ _=>(ac 0)))) (cM ad)) (bJ (bT bx (ae bx G.g223 rfl (aa (ac 9) (aa (ac 5) (aa (ac 6) (aa (ac 7) ad))))) (ac 9))))) ?_ ?_ ?_) (fun _ w1=>?_)
 rfl
 ·refine az (ah df) ?_
  rfl
 ·exact ap ⟨(),rfl⟩
 refine av (inj:=fun (_:Unit) (w2:Unit)=>[vv BQ,vv BS,vv BP,vv BR,vv BV,vv B0,vv B1,vv BT,vv BY,vv BU,vv BZ,nn,nn,nn,nn,nn,nn,nn,nn]) (aw (bT bx (fe_C (dR (N:=["_law_spot","_law_area","_law_worth","_law_rows_here"]) (own:=1) (cap:=[8,7,3]) bx (BlkOk.of (by kernel_rfl)) (aG bx.K (ac 10)) (aE (by decide)) (fun _ _ _ _ _=>aq 0 (show List.Nodup (α:=Str) ["_law_spot","_law_area","_law_worth","_law_rows_here"] by decide +kernel)) (fun _ _ _ _ _=>(ft_w (vZ (fX (ao bx) (ac 0) (ac 1)) (sE (bT (ao bx) (ag (ao bx).K (ag (ao bx).K (ac 3) (ag (ao bx).K (ac 0) af)) (ag (ao bx).K (ac 0) af)) (ac 2)))))) (fun _ _ _ _ _=>(ac 0)))) (cM ad)) ?_ ?_ ?_) (fun _ w2=>?_)
 rfl
 ·refine az (ah df) ?_
  rfl
 ·exact ap ⟨(),rfl⟩
 refine av (inj:=fun (_:Unit) (w3:Unit)=>[vv BQ,vv BS,vv BP,vv BR,vv BV,vv B0,vv B1,vv BT,vv BY,vv BU,vv BZ,nn,nn,nn,nn,nn,nn,nn,nn]) (aw (bT bx (ae bx G.g223 rfl (aa (ac 2) (aa (ac 5) (aa (ac 6) (aa (ag bx.K (ag bx.K (ac 3) (ac 6)) (ac 5)) ad))))) (ae bx G.g29 rfl (aa (ac 2) ad))) ?_ ?_ ?_) (fun _ w3=>?_)
 rfl
 ·refine az (ah df) ?_
  rfl
 ·exact ap ⟨(),rfl⟩
 refine av (inj:=fun (s:Unit) (w4:Option Sl×Option Sl×Option Sl)=>[vv BQ,vv BS,vv BP,vv BR,vv BV,vv B0,vv B1,vv BT,vv BY,vv BU,vv BZ,w4.1,w4.2.1,w4.2.2,nn,nn,nn,nn,nn]) (cj 11 (B:=fun (s:Unit) (w4:Option Sl×Option Sl×Option Sl) x16=>[vv BQ,vv BS,vv BP,vv BR,vv BV,vv B0,vv B1,vv BT,vv BY,vv BU,vv BZ,vv x16,w4.2.1,w4.2.2,nn,nn,nn,nn,nn]) (nn,nn,nn) hpo rfl (ii (bn rfl T.b_range (FAL.out (aa af ad)))) ?_ (aq 11 aA.nd) rfl (fun _ _ _=>rfl) (fun s w4 x16=>?_)) (fun _ w6=>?_)
 rfl
 ·refine sN 12 13 (S':=fun Cf Cg=>[vv BQ,vv BS,vv BP,vv BR,vv BV,vv B0,vv B1,vv BT,vv BY,vv BU,vv BZ,vv x16,vv Cf,vv Cg,nn,nn,nn,nn,nn]) (sL 12 13 bx aA.nd (FAL.out (aa (ae bx G.g31 rfl (aa (ac 0) (aa (ay bx.K af (bz bx.K af (ac 11))) (aa (ac 4) ad)))) (aa (ae bx G.g31 rfl (aa (ac 0) (aa (ay bx.K af (bz bx.K af (ac 11))) (aa (ac 4) ad)))) ad)))) ?_ ?_ (fun _ _=>rfl) (fun Cf Cg=>?_)
  rfl
  rfl
  refine av (inj:=fun (_:Unit) (w5:Unit)=>[vv BQ,vv BS,vv BP,vv BR,vv BV,vv B0,vv B1,vv BT,vv BY,vv BU,vv BZ,vv x16,vv Cf,vv Cg,nn,nn,nn,nn,nn]) (aw (bT bx (ae bx G.g48 rfl (aa (ac 9) (aa (ac 12) (aa (ac 13) ad)))) (zG (wM bx (aT (aa (ac 12) (aa (ac 13) ad))) (ac 8)) (ac 7) (ag bx.K (ag bx.K (ac 3) (ac 13)) (ac 12)))) ?_ ?_ ?_) (fun _ w5=>?_)
  rfl
  ·refine az (ah df) ?_
   rfl
  ·exact ap ⟨(),rfl⟩
  refine fA (aw (bT bx (rm bx (aT (aa (ac 12) (aa (ac 13) ad))) (ac 8)) (rm bx (aT (aa (ac 5) (aa (ac 6) ad))) (ae bx G.g215 rfl (aa (ac 2) (aa (ac 12) (aa (ac 13) ad)))))) ?_ ?_ ?_)
  rfl
  ·refine az (ah df) ?_
   rfl
  ·exact ap ⟨(vv x16,vv Cf,vv Cg),rfl⟩
 refine ai (S':=fun B3=>[vv BQ,vv BS,vv BP,vv BR,vv BV,vv B0,vv B1,vv BT,vv BY,vv BU,vv BZ,w6.1,w6.2.1,w6.2.2,vv B3,nn,nn,nn,nn]) (ax 14 aA.nd (ae bx G.g31 rfl (aa (ac 0) (aa af (aa af ad))))) ?_ (fun B3=>?_)
 rfl
 refine ai (S':=fun B7=>[vv BQ,vv BS,vv BP,vv BR,vv BV,vv B0,vv B1,vv BT,vv BY,vv BU,vv BZ,w6.1,w6.2.1,w6.2.2,vv B3,vv B7,nn,nn,nn]) (ax 15 aA.nd (ae bx G.g128 rfl (aa (ac 2) (aa (ac 14) ad)))) ?_ (fun B7=>?_)
 rfl
 refine av (inj:=fun (_:Unit) (w7:Unit)=>[vv BQ,vv BS,vv BP,vv BR,vv BV,vv B0,vv B1,vv BT,vv BY,vv BU,vv BZ,w6.1,w6.2.1,w6.2.2,vv B3,vv B7,nn,nn,nn]) (aw (ft_w (dh (bT bx (ae bx G.g217 rfl (aa (ac 15) ad)) (ae bx G.g217 rfl (aa (ac 2) ad))) (bJ (bT bx (ae bx G.g221 rfl (aa (ac 15) ad)) (ae bx G.g221 rfl (aa (ac 2) ad)))))) ?_ ?_ ?_) (fun _ w7=>?_)
 rfl
 ·refine az (ah df) ?_
  rfl
 ·exact ap ⟨(),rfl⟩
 refine ai (S':=fun B8=>[vv BQ,vv BS,vv BP,vv BR,vv BV,vv B0,vv B1,vv BT,vv BY,vv BU,vv BZ,w6.1,w6.2.1,w6.2.2,vv B3,vv B7,vv B8,nn,nn]) (ax 16 aA.nd (ae bx G.g31 rfl (aa (ac 0) (aa af (aa af ad))))) ?_ (fun B8=>?_)
 rfl
 refine ai (S':=fun B9=>[vv BQ,vv BS,vv BP,vv BR,vv BV,vv B0,vv B1,vv BT,vv BY,vv BU,vv BZ,w6.1,w6.2.1,w6.2.2,vv B3,vv B7,vv B8,vv B9,nn]) (ax 17 aA.nd (ae bx G.g163 rfl (aa (fe_N (ba bx rfl T.b_tuple (FAL.out (aa (fe_C (aC (N:=["_law_k","_law_shift"]) (own:=1) (cap:=[16]) bx (BlkOk.of (by kernel_rfl)) (ii (bn rfl T.b_range (FAL.out (aa af ad)))) (aE (by decide)) (fun _ _ _ _ _=>aq 0 (show List.Nodup (α:=Str) ["_law_k","_law_shift"] by decide +kernel)) (fun _ _ _ _ _=>(dO (ay (ao bx).K (ac 0) (ac 1)) af)))) ad)))) (aa (ac 2) ad)))) ?_ (fun B9=>?_)
 rfl
 refine av (inj:=fun (_:Unit) (w8:Unit)=>[vv BQ,vv BS,vv BP,vv BR,vv BV,vv B0,vv B1,vv BT,vv BY,vv BU,vv BZ,w6.1,w6.2.1,w6.2.2,vv B3,vv B7,vv B8,vv B9,nn]) (aw (ft_w (dh (bT bx (ae bx G.g217 rfl (aa (ac 17) ad)) (ae bx G.g217 rfl (aa (ac 2) ad))) (bJ (bT bx (ae bx G.g221 rfl (aa (ac 17) ad)) (ae bx G.g221 rfl (aa (ac 2) ad)))))) ?_ ?_ ?_) (fun _ w8=>?_)
 rfl
 ·refine az (ah df) ?_
  rfl
 ·exact ap ⟨(),rfl⟩
 refine ai (S':=fun Ce=>[vv BQ,vv BS,vv BP,vv BR,vv BV,vv B0,vv B1,vv BT,vv BY,vv BU,vv BZ,w6.1,w6.2.1,w6.2.2,vv B3,vv B7,vv B8,vv B9,vv Ce]) (ax 18 aA.nd (ae bx G.g218 rfl (aa (ae bx G.g163 rfl (aa (ay bx.K (aT (aa af (aa af ad))) (fe_N (ba bx rfl T.b_tuple (FAL.out (aa (kX bx rfl T.b_list rfl T.b_range (FAL.out (aa af (aa af ad)))) ad))))) (aa (ac 2) ad))) ad))) ?_ (fun Ce=>?_)
 rfl
 refine aj (ah (bM (oN bx (fe_N (nK bx rfl T.b_sum (FAL.out (aa (ae bx G.g217 rfl (aa (ac 2) ad)) ad)))) (bz bx.K (ac 4) (ac 4))) (bL (Ba (ac 18) (ae bx G.g218 rfl (aa (ac 2) ad)))))) ?_
 rfl
end
end Lw
end
noncomputable section
section
namespace Lw
open PySem FF
inductive Q (α:Type) where
 | lf (a:α) | nd (a b c d:Q α)
 deriving DecidableEq
section
variable {α β γ:Type}
def Q.dep:Q α→Nat
 | .lf _=>0
 | .nd a b c d=>1+max (max a.dep b.dep) (max c.dep d.dep)
def Q.at:Nat→Q α→Nat→Nat→α
 | _,.lf a,_,_=>a
 | 0,.nd a _ _ _,x,y=>Q.at 0 a x y
 | n+1,.nd a b c d,x,y=>if y < 2^n then (if x < 2^n then a.at n x y else b.at n (x - 2^n) y) else (if x < 2^n then c.at n x (y - 2^n) else d.at n (x - 2^n) (y - 2^n))
def Q.All (p:α→Prop):Q α→Prop
 | .lf a=>p a
 | .nd a b c d=>a.All p∧b.All p∧c.All p∧d.All p
def sh (f:Nat→Nat→α)(a b:Nat):Nat→Nat→α:=fun x y=>f (x+a) (y+b)
@[simp] theorem ni (n:Nat)(a:α)(x y:Nat):Q.at n (.lf a) x y=a:=by cases n<;>rfl
variable [DecidableEq α][DecidableEq β][DecidableEq γ]
def put4 (a b c d:Q α):Q α:=match a with
 | .lf v=>if b=.lf v∧c=.lf v∧d=.lf v then .lf v else .nd a b c d
 | _=>.nd a b c d
def T (f:Nat→Nat→α):Nat→Q α
 | 0=>.lf (f 0 0)
 | n+1=>put4 (T f n) (T (sh f (2^n) 0) n) (T (sh f 0 (2^n)) n) (T (sh f (2^n) (2^n)) n)
def Q.lean:Q α→Q α
 | .lf a=>.lf a
 | .nd a b c d=>put4 a.lean b.lean c.lean d.lean
theorem br (n:Nat):(2^(n+1):Nat)=2^n+2^n:=by rw[Nat.pow_succ];omega
theorem gz (v:α):put4 (.lf v) (.lf v) (.lf v) (.lf v)=.lf v:=by simp[put4]
theorem zo (n:Nat)(a b c d:Q α)(x y:Nat):(put4 a b c d).at (n+1) x y=(Q.nd a b c d).at (n+1) x y:=by
 unfold put4
 split
 ·split
  ·rename_i h
   obtain⟨rfl,rfl,rfl⟩:=h
   simp only[Q.at,ni,ite_self]
  ·rfl
 ·rfl
theorem xr (n:Nat)(a b c d:Q α)(ha:a.dep≤n)(hb:b.dep≤n)(hc:c.dep≤n)(hd:d.dep≤n):(put4 a b c d).dep≤n+1:=by
 unfold put4
 split
 ·split
  ·exact Nat.zero_le _
  ·simp only[Q.dep] at *;omega
 ·simp only[Q.dep] at *;omega
theorem aH:∀ (n:Nat) (f g:Nat→Nat→α),(∀ x y,x < 2^n→y < 2^n→f x y=g x y)→T f n=T g n
 | 0,f,g,h=>by rw[T,T,h 0 0 (by decide) (by decide)]
 | n+1,f,g,h=>by
  rw[br]at h
  rw[T,T,aH n f g fun x y hx hy=>h x y (by omega) (by omega),aH n (sh f (2^n) 0) (sh g (2^n) 0) fun x y hx hy=>h _ _ (by omega) (by omega),
   aH n (sh f 0 (2^n)) (sh g 0 (2^n)) fun x y hx hy=>h _ _ (by omega) (by omega),aH n (sh f (2^n) (2^n)) (sh g (2^n) (2^n)) fun x y hx hy=>h _ _ (by omega) (by omega)]
theorem ku (v:α):∀ n,T (fun _ _=>v) n=.lf v
 | 0=>rfl
 | n+1=>by
  rw[T]
  show put4 (T (fun _ _=>v) n) (T (fun _ _=>v) n) (T (fun _ _=>v) n) (T (fun _ _=>v) n)=_
  rw[ku v n,gz]
theorem cC:∀ (n:Nat) (f:Nat→Nat→α),(T f n).dep≤n
 | 0,f=>Nat.le_refl _
 | n+1,f=>xr n _ _ _ _ (cC n _) (cC n _) (cC n _) (cC n _)
theorem T_at:∀ (n:Nat) (f:Nat→Nat→α) (x y:Nat),x < 2^n→y < 2^n→(T f n).at n x y=f x y
 | 0,f,x,y,hx,hy=>by
  have:x=0:=by simp at hx;exact hx
  have:y=0:=by simp at hy;exact hy
  subst x;subst y
  rfl
 | n+1,f,x,y,hx,hy=>by
  rw[br]at hx hy
  rw[T,zo,Q.at]
  by_cases h1:y < 2^n
  ·rw[if_pos h1]
   by_cases h2:x < 2^n
   ·rw[if_pos h2,T_at n f x y h2 h1]
   ·rw[if_neg h2,T_at n _ _ _ (by omega) h1]
    unfold sh
    rw[show x - 2^n+2^n=x by omega,Nat.add_zero]
  ·rw[if_neg h1]
   by_cases h2:x < 2^n
   ·rw[if_pos h2,T_at n _ _ _ h2 (by omega)]
    unfold sh
    rw[show y - 2^n+2^n=y by omega,Nat.add_zero]
   ·rw[if_neg h2,T_at n _ _ _ (by omega) (by omega)]
    unfold sh
    rw[show x - 2^n+2^n=x by omega,show y - 2^n+2^n=y by omega]
theorem qp {p:α→Prop}:∀ (n:Nat) (f:Nat→Nat→α),(∀ x y,x < 2^n→y < 2^n→p (f x y))→(T f n).All p
 | 0,f,h=>h 0 0 (by decide) (by decide)
 | n+1,f,h=>by
  rw[br]at h
  have ha:=qp n f fun x y hx hy=>h x y (by omega) (by omega)
  have hb:=qp n (sh f (2^n) 0) fun x y hx hy=>h _ _ (by omega) (by omega)
  have hc:=qp n (sh f 0 (2^n)) fun x y hx hy=>h _ _ (by omega) (by omega)
  have hd:=qp n (sh f (2^n) (2^n)) fun x y hx hy=>h _ _ (by omega) (by omega)
  rw[T]
  unfold put4
  split
  ·rename_i v e
   split
   ·rw[e]at ha;exact ha
   ·exact⟨ha,hb,hc,hd⟩
  ·exact⟨ha,hb,hc,hd⟩
theorem jJ {p:α→Prop}:∀ (n:Nat) (t:Q α) (x y:Nat),t.All p→p (t.at n x y)
 | n,.lf a,x,y,h=>by rw[ni];exact h
 | 0,.nd a _ _ _,x,y,h=>jJ 0 a x y h.1
 | n+1,.nd a b c d,x,y,h=>by
  rw[Q.at]
  split
  ·split
   ·exact jJ n a _ _ h.1
   ·exact jJ n b _ _ h.2.1
  ·split
   ·exact jJ n c _ _ h.2.2.1
   ·exact jJ n d _ _ h.2.2.2
theorem xt (n:Nat)(a b c d:Q α):T ((Q.nd a b c d).at (n+1)) (n+1)=put4 (T (a.at n) n) (T (b.at n) n) (T (c.at n) n) (T (d.at n) n):=by
 rw[T]
 congr 1
 ·exact aH n _ _ fun x y hx hy=>by rw[Q.at,if_pos hy,if_pos hx]
 ·exact aH n _ _ fun x y hx hy=>by
   unfold sh
   rw[Q.at,if_pos (by omega),if_neg (by omega)]
   simp
 ·exact aH n _ _ fun x y hx hy=>by
   unfold sh
   rw[Q.at,if_neg (by omega),if_pos (by omega)]
   simp
 ·exact aH n _ _ fun x y hx hy=>by
   unfold sh
   rw[Q.at,if_neg (by omega),if_neg (by omega)]
   simp
def Q.qs:Q α→Q α×Q α×Q α×Q α
 | .lf a=>(.lf a,.lf a,.lf a,.lf a)
 | .nd a b c d=>(a,b,c,d)
theorem fc:∀ (n:Nat) (t:Q α),t.dep≤n→t.lean=T (t.at n) n
 | n,.lf a,_=>by
  rw[Q.lean]
  exact(ku a n).symm.trans (aH _ _ _ fun x y _ _=>(ni _ _ _ _).symm)
 | 0,.nd a b c d,h=>by simp[Q.dep]at h
 | n+1,.nd a b c d,h=>by
  have h':1+max (max a.dep b.dep) (max c.dep d.dep)≤n+1:=h
  rw[xt,Q.lean,fc n a (by omega),fc n b (by omega),fc n c (by omega),fc n d (by omega)]
theorem fO {n:Nat}{t:Q α}(h:t.dep≤n):t.lean.dep≤n:=by rw[fc n t h];exact cC n _
structure En (e:α→D):Prop where
 tup:∀ a,isTup (e a)=false
 gd:∀ n a,good n (e a)=true
 eq:∀ a b,eqD (e a) (e b)=decide (a=b)
 tD:∀ a xs,eqD (e a) (.tup xs)=false
 dT:∀ a xs,eqD (.tup xs) (e a)=false
end
section
variable {α:Type}[DecidableEq α]{e:α→D}
def Q.d (e:α→D):Q α→D
 | .lf a=>e a
 | .nd a b c d=>.tup [a.d e,b.d e,c.d e,d.d e]
theorem Q.gd (E:En e):∀ (n:Nat) (t:Q α),t.dep≤n→good n (t.d e)=true
 | n,.lf a,_=>E.gd n a
 | 0,.nd a b c d,h=>by simp[Q.dep]at h
 | n+1,.nd a b c d,h=>by
  have h':1+max (max a.dep b.dep) (max c.dep d.dep)≤n+1:=h
  rw[Q.d,good,goods,goods,goods,goods,goods,Q.gd E n a (by omega),Q.gd E n b (by omega),Q.gd E n c (by omega),Q.gd E n d (by omega)]
  rfl
theorem Q.eqd (E:En e):∀ (s t:Q α),eqD (s.d e) (t.d e)=decide (s=t)
 | .lf a,.lf b=>by rw[Q.d,Q.d,E.eq];simp
 | .lf a,.nd ..=>by rw[Q.d,Q.d,E.tD];simp
 | .nd ..,.lf b=>by rw[Q.d,Q.d,E.dT];simp
 | .nd a b c d,.nd a' b' c' d'=>by
  rw[Q.d,Q.d,eqD,eqDs,eqDs,eqDs,eqDs,eqDs,Q.eqd E a a',Q.eqd E b b',Q.eqd E c c',Q.eqd E d d']
  simp[Bool.eq_iff_iff]
end
theorem En.int:En FF.D.int:=⟨fun _=>rfl,fun n a=>by cases n<;>rfl,fun a b=>by simp[eqD,Bool.beq_eq_decide_eq],fun a xs=>by simp[eqD],fun a xs=>by simp[eqD]⟩
theorem lJ {xs:List D}(h:xs.length≤16777216):sq (.tup xs)=.ok xs:=by unfold sq asSeq;rw[R.bind_ok,if_pos h]
theorem bh {xs:List D}(h:xs.length≤16777216):sq (.lst xs)=.ok xs:=by unfold sq asSeq;rw[R.bind_ok,if_pos h]
theorem sq4 (a b c d:D):sq (.tup [a,b,c,d])=.ok [a,b,c,d]:=lJ (by show 4≤16777216;decide)
theorem xv {e:D→R D}{f:D→D}:∀ {xs:List D},(∀ d∈xs,e d=.ok (f d))→cGo (fun _=>.ok true) e xs=.ok (xs.map f)
 | [],_=>rfl
 | x::xs,h=>by
  rw[cGo]
  simp only
  rw[h x (.head _),xv fun d hd=>h d (.tail _ hd)]
  rfl
theorem tj {e:D→R D}{xs:List D}(f:D→D)(h:∀ d∈xs,e d=.ok (f d)):cMap e xs=.ok (.lst (xs.map f)):=by
 unfold cMap;rw[xv h];rfl
theorem aU {α:Type}{e:D→R D}{l:List α}(c g:α→D)(h:∀ a∈l,e (c a)=.ok (g a)):cMap e (l.map c)=.ok (.lst (l.map g)):=by
 unfold cMap
 have:∀ {l:List α},(∀ a∈l,e (c a)=.ok (g a))→cGo (fun _=>.ok true) e (l.map c)=.ok (l.map g):=by
  intro l
  induction l with
  | nil=>intro _;rfl
  | cons a l ih =>
   intro h
   rw[List.map_cons,cGo]
   simp only
   rw[h a (.head _),ih fun b hb=>h b (.tail _ hb)]
   rfl
 rw[this h];rfl
theorem cMap4 {e:D→R D}{a b c d a' b' c' d':D}(ha:e a=.ok a')(hb:e b=.ok b')(hc:e c=.ok c')(hd:e d=.ok d'):cMap e [a,b,c,d]=.ok (.lst [a',b',c',d']):=by
 unfold cMap;simp only[cGo,ha,hb,hc,hd];rfl
theorem iM {α:Type}{c:D→R Bool}{e:D→R D}{l:List α}(k g:α→D)(p:α→Bool)(h:∀ a∈l,c (k a)=.ok (p a)∧(p a=true→e (k a)=.ok (g a))):cFil c e (l.map k)=.ok (.lst ((l.filter p).map g)):=by
 unfold cFil
 have:∀ {l:List α},(∀ a∈l,c (k a)=.ok (p a)∧(p a=true→e (k a)=.ok (g a)))→cGo c e (l.map k)=.ok ((l.filter p).map g):=by
  intro l
  induction l with
  | nil=>intro _;rfl
  | cons a l ih =>
   intro h
   have h1:=h a (.head _)
   have h2:=ih fun b hb=>h b (.tail _ hb)
   rw[List.map_cons,cGo,h1.1]
   cases q:p a with
   | false=>simp only;rw[h2,List.filter_cons_of_neg (by simp[q])]
   | true=>simp only;rw[h1.2 q,h2,List.filter_cons_of_pos q];rfl
 rw[this h];rfl
@[simp] theorem fe (xs:List D):dTuple [.lst xs]=.ok (.tup xs):=rfl
@[simp] theorem rZ (xs:List D):dTuple [.tup xs]=.ok (.tup xs):=rfl
@[simp] theorem vw (xs:List D):dList [.tup xs]=.ok (.lst xs):=rfl
@[simp] theorem vy (xs:List D):dList [.lst xs]=.ok (.lst xs):=rfl
@[simp] theorem bZ (xs:List D):dLen [.tup xs]=.ok (.int xs.length):=rfl
@[simp] theorem lK (xs:List D):dLen [.lst xs]=.ok (.int xs.length):=rfl
@[simp] theorem aY (a b:Int):dAdd (.int a) (.int b)=.ok (.int (a+b)):=rfl
@[simp] theorem iN (a b:Int):dSub (.int a) (.int b)=.ok (.int (a - b)):=rfl
@[simp] theorem zp (a b:Int):dLt (.int a) (.int b)=.ok (.bl (decide (a < b))):=rfl
@[simp] theorem tm (a b:Int):dLe (.int a) (.int b)=.ok (.bl (decide (a≤b))):=rfl
@[simp] theorem kx (a b:Int):dGt (.int a) (.int b)=.ok (.bl (decide (b < a))):=rfl
@[simp] theorem tq (a b:Int):dGe (.int a) (.int b)=.ok (.bl (decide (b≤a))):=rfl
@[simp] theorem ky (a b:Int):dEq (.int a) (.int b)=.ok (.bl (decide (a=b))):=by
 show R.ok (D.bl (a==b))=_
 rw[Bool.beq_eq_decide_eq]
@[simp] theorem fg (a b:Int):dNf (.int a) (.int b)=.ok (.bl (!decide (a=b))):=by
 show R.ok (D.bl (!(a==b)))=_
 rw[Bool.beq_eq_decide_eq]
theorem bi {a b:Int}(h:(-(2^64) < b∧b < 2^64)∨(-(2^64) < a∧a < 2^64)):dMul (.int a) (.int b)=.ok (.int (a*b)):=by
 have:cMul a b=true:=by unfold cMul;simp only[Bool.or_eq_true,Bool.and_eq_true,decide_eq_true_eq];rcases h with h | h;exact .inr h;exact .inl h
 show (if cMul a b=true then R.ok (D.int (a*b)) else R.stuck)=_
 rw[if_pos this]
theorem lL {a b:Int}(h0:0 < b)(h1:b < 1073741824):dDiv (.int a) (.int b)=.ok (.int (a/b)):=by
 have:cDiv a b=true:=by unfold cDiv;simp only[Bool.and_eq_true,decide_eq_true_eq];exact⟨h0,h1⟩
 show (if cDiv a b=true then R.ok (D.int (a/b)) else R.stuck)=_
 rw[if_pos this]
theorem b8 {a b:Int}(h0:0 < b):dMod (.int a) (.int b)=.ok (.int (a%b)):=by
 show (if decide (0 < b)=true then R.ok (D.int (a%b)) else R.stuck)=_
 rw[if_pos (by simpa using h0)]
theorem lM {x y:D}(hx:good 60 x=true)(hy:good 60 y=true):dEq x y=.ok (.bl (eqD x y)):=by unfold dEq;rw[if_pos ⟨hx,hy⟩]
theorem xw {x y:D}(hx:good 60 x=true)(hy:good 60 y=true):dNf x y=.ok (.bl (!eqD x y)):=by unfold dNf;rw[if_pos ⟨hx,hy⟩]
theorem nA {α:Type}{xs:List α}{i:Nat}{x:α}(h:xs[i]?=some x):L2.atI xs ((i:Nat):Int)=some x:=by
 have hi:i < xs.length:=(List.getElem?_eq_some_iff.mp h).1
 unfold L2.atI L2.ixN
 rw[if_pos (by omega),if_pos (by omega)]
 simpa using h
theorem ixT {xs:List D}{i:Nat}{x:D}(h:xs[i]?=some x):dIx (.tup xs) (.int ((i:Nat):Int))=.ok x:=by
 show (match L2.atI xs (i:Int) with | some d=>R.ok d | none=>R.stuck)=_
 rw[nA h]
theorem ixL {xs:List D}{i:Nat}{x:D}(h:xs[i]?=some x):dIx (.lst xs) (.int ((i:Nat):Int))=.ok x:=by
 show (match L2.atI xs (i:Int) with | some d=>R.ok d | none=>R.stuck)=_
 rw[nA h]
@[simp] theorem ix20 (a b:D):dIx (.tup [a,b]) (.int 0)=.ok a:=rfl
@[simp] theorem ix21 (a b:D):dIx (.tup [a,b]) (.int 1)=.ok b:=rfl
@[simp] theorem ix40 (a b c d:D):dIx (.tup [a,b,c,d]) (.int 0)=.ok a:=rfl
@[simp] theorem ix41 (a b c d:D):dIx (.tup [a,b,c,d]) (.int 1)=.ok b:=rfl
@[simp] theorem ix42 (a b c d:D):dIx (.tup [a,b,c,d]) (.int 2)=.ok c:=rfl
@[simp] theorem ix43 (a b c d:D):dIx (.tup [a,b,c,d]) (.int 3)=.ok d:=rfl
@[simp] theorem db (xs:List D):dIsA qTup (.tup xs)=.ok (.bl true):=rfl
@[simp] theorem vz (i:Int):dIsA qTup (.int i)=.ok (.bl false):=rfl
theorem hG {α:Type}(p:α→Bool):∀ l:List α,boolsD (l.map fun d=>D.bl (p d))=some (l.map p)
 | []=>rfl
 | a::r=>by simp only[List.map_cons,boolsD,hG p r,Option.map_some]
theorem fP {α:Type}(p:α→Bool)(l:List α):dAll [.lst (l.map fun d=>D.bl (p d))]=.ok (.bl (l.all p)):=by
 show (match boolsD (l.map fun d=>D.bl (p d)) with | some bs=>R.ok (D.bl (bs.all id)) | none=>R.stuck)=_
 rw[hG]
 simp[List.all_map,Function.comp_def]
theorem qq {α:Type}(p:α→Bool)(l:List α):dAny [.lst (l.map fun d=>D.bl (p d))]=.ok (.bl (l.any p)):=by
 show (match boolsD (l.map fun d=>D.bl (p d)) with | some bs=>R.ok (D.bl (bs.any id)) | none=>R.stuck)=_
 rw[hG]
 simp[List.any_map,Function.comp_def]
theorem tu (f:Int→Int→Bool)(F' G':D→D→R D){x y w:Int}{g:Int→Int→Bool}(h1:F' (.int x) (.int y)=.ok (.bl (f x y)))(h2:G' (.int y) (.int w)=.ok (.bl (g y w))):rCh F' G' (.int x) (.int y) (.ok (.int w))=.ok (.bl (f x y&&g y w)):=by
 unfold rCh
 rw[h1]
 cases f x y with
 | true=>show G' (.int y) (.int w)=_;rw[h2];rfl
 | false=>rfl
@[simp] theorem xx (x y w:Int):rCh dLe dLe (.int x) (.int y) (.ok (.int w))=.ok (.bl (decide (x≤y)&&decide (y≤w))):=tu (fun a b=>decide (a≤b)) _ _ (g:=fun a b=>decide (a≤b)) rfl rfl
@[simp] theorem xy (x y w:Int):rCh dLe dLt (.int x) (.int y) (.ok (.int w))=.ok (.bl (decide (x≤y)&&decide (y < w))):=tu (fun a b=>decide (a≤b)) _ _ (g:=fun a b=>decide (a < b)) rfl rfl
theorem iO (a b:Bool):vAnd (.ok (.bl a)) (.ok (.bl b))=.ok (.bl (a&&b)):=by cases a<;>rfl
theorem AL (a b:Bool):vOr (.ok (.bl a)) (.ok (.bl b))=.ok (.bl (a||b)):=by cases a<;>rfl
theorem tw (a b:Bool):rAnd (.ok a) (.ok b)=.ok (a&&b):=by cases a<;>rfl
theorem fQ (a b:Bool):rOr (.ok a) (.ok b)=.ok (a||b):=by cases a<;>rfl
def isW:D→Bool
 | .int _=>true
 | _=>false
def noX:D→Bool
 | .tab _ _=>false
 | .dic _ _=>false
 | .ptr _=>false
 | .exc _=>false
 | .fn _=>false
 | _=>true
def inTo (hi:Int):D→Bool
 | .int i=>decide (0≤i)&&decide (i≤hi)
 | _=>false
theorem cD {n:Nat}{d:D}(h:good n d=true):noX d=true:=by
 cases d<;>first | rfl | (cases n<;>simp[good]at h)
theorem d6 {n:Nat}(hn:1≤n){d:D}(h:noX d=true):pf n F.ae [d]=.ok (.bl (isW d)):=by
 obtain⟨m,rfl⟩:∃ m,n=m+1:=⟨n - 1,by omega⟩
 rw[ph]
 cases d<;>first | rfl | (cases h)
theorem fR {n:Nat}(hn:2≤n){d:D}(h:noX d=true):pf n F.ac [d]=.ok (.bl (inTo 9 d)):=by
 obtain⟨m,rfl⟩:∃ m,n=m+1:=⟨n - 1,by omega⟩
 rw[pi,eD,d6 (by omega) h]
 cases d<;>first | rfl | (cases h;done) | skip
 simp[isW,inTo]
theorem tz {n:Nat}(hn:2≤n){d:D}(h:noX d=true):pf n F.aI [d]=.ok (.bl (inTo 3 d)):=by
 obtain⟨m,rfl⟩:∃ m,n=m+1:=⟨n - 1,by omega⟩
 rw[rC,gn,d6 (by omega) h]
 cases d<;>first | rfl | (cases h;done) | skip
 simp[isW,inTo]
def STP:=And.intro @au (And.intro @Ax (And.intro @aV (And.intro @Bf (And.intro @Bg (And.intro @yL (And.intro @yK (And.intro @yM (And.intro @R.bind_ok (And.intro @R.bind_err (And.intro @aB (And.intro @ci (And.intro @tw (And.intro @fQ (And.intro @Ay (And.intro @Az (And.intro @Bi (And.intro @oR (And.intro @wE (And.intro @wF (And.intro @Bj (And.intro @Bl (And.intro @iO (And.intro @AL (And.intro @yN (And.intro @Bm (And.intro @Bn (And.intro @Bool.not_true (And.intro @Bool.not_false (And.intro @Bool.false_or (And.intro @Bool.true_or (And.intro @Bool.or_false (And.intro @Bool.or_true (And.intro @Bool.true_and (And.intro @Bool.false_and (And.intro @Bool.and_true (And.intro @Bool.and_false (And.intro @Bool.false_eq_true (@Bool.true_eq_false))))))))))))))))))))))))))))))))))))))
def OPP:=And.intro @aY (And.intro @iN (And.intro @zp (And.intro @tm (And.intro @kx (And.intro @tq (And.intro @ky (And.intro @fg (And.intro @bZ (And.intro @lK (And.intro @fe (And.intro @rZ (And.intro @vw (And.intro @vy (And.intro @ix20 (And.intro @ix21 (And.intro @ix40 (And.intro @ix41 (And.intro @ix42 (And.intro @ix43 (And.intro @db (And.intro @vz (And.intro @xx (@xy)))))))))))))))))))))))
def slim:Nat→D→Bool
 | n+1,.tup xs=>decide (xs.length≤1000)&&xs.all (slim n)
 | n+1,.lst xs=>decide (xs.length≤1000)&&xs.all (slim n)
 | _,_=>true
def treeOk (p:D→Bool):Nat→Int→D→Bool
 | n+1,s,.tup xs=>decide (s≠0)&&(decide (xs.length=4)&&xs.all (treeOk p n (s - 1)))
 | _,_,d=>p d
theorem dc {n:Nat}:∀ {xs:List D},goods n xs=true→∀ d∈xs,good n d=true
 | x::xs,h,d,hd=>by
  rw[goods,Bool.and_eq_true]at h
  cases hd with
  | head=>exact h.1
  | tail _ hd=>exact dc h.2 d hd
theorem lN {n:Nat}:∀ {xs:List D},(∀ d∈xs,good n d=true)→goods n xs=true
 | [],_=>rfl
 | x::xs,h=>by rw[goods,h x (.head _),lN fun d hd=>h d (.tail _ hd)];rfl
theorem ex1 {n k:Nat}(h:k+1≤n):∃ m,n=m+1∧k≤m:=⟨n - 1,by omega,by omega⟩
theorem dz {d:D}(h:isTup d=false)(h':noX d=true):dIsA qTup d=.ok (.bl false):=by cases d<;>first | rfl | (cases h;done) | (cases h';done)
theorem zq {i c:Nat}{p:D→Bool}(hi:fvL.contains i=true)(hp:∀ m d,c≤m→noX d=true→pf m i [d]=.ok (.bl (p d))):∀ (n m:Nat) (s:Int) (d:D),good n d=true→slim n d=true→n+c+1≤m→pf m F.aC [.int s,d,.fn i]=.ok (.bl (treeOk p n s d)):=by
 have flat:∀ (n m:Nat) (s:Int) (d:D),isTup d=false→noX d=true→c+1≤m→treeOk p n s d=p d→pf m F.aC [.int s,d,.fn i]=.ok (.bl (treeOk p n s d)):=fun n m s d ht hx hm e=>by
  obtain⟨m,rfl,hm⟩:=ex1 hm
  rw[kZ,dZ,dz ht hx,e]
  have:onF fvL (.fn i) (fun i=>pf m i [d])=.ok (.bl (p d)):=by
   show (if fvL.contains i=true then pf m i [d] else R.stuck)=_
   rw[if_pos hi,hp m d (by omega) hx]
  simp[this]
 intro n
 induction n with
 | zero =>
  intro m s d hg hs hm
  have ht:isTup d=false:=by cases d<;>first | rfl | (simp[good]at hg)
  exact flat 0 m s d ht (cD hg) (by omega) (by cases d<;>rfl)
 | succ n ih =>
  intro m s d hg hs hm
  by_cases ht:isTup d=true
  ·cases d with
   | tup xs =>
    rw[good]at hg
    rw[slim,Bool.and_eq_true,decide_eq_true_eq,List.all_eq_true]at hs
    obtain⟨m,rfl,hm⟩:=ex1 (show n+c+1+1≤m by omega)
    rw[kZ,dZ]
    have hc:cMap (fun part=>(dSub (.int s) (.int 1)).bind fun x1=>pf m F.aC [x1,part,.fn i]) xs=.ok (.lst (xs.map fun d=>.bl (treeOk p n (s - 1) d))) :=
     tj _ fun d hd=>by rw[iN,R.bind_ok];exact ih m (s - 1) d (dc hg d hd) (hs.2 d hd) (by omega)
    simp only[db,aB,ci,Bool.not_true,au,aV,ky,bZ,R.bind_ok,fg,fQ,lJ (show xs.length≤16777216 by omega),hc,fP,treeOk]
    by_cases h0:s=0
    ·simp[h0]
    ·by_cases h4:xs.length=4
     ·simp[h0,h4]
     ·have h4':¬ ((xs.length:Int)=4):=by omega
      simp[h0,h4,h4']
   | _=>cases ht
  ·have ht':isTup d=false:=by simpa using ht
   exact flat (n+1) m s d ht' (cD hg) (by omega) (by cases d<;>first | rfl | (cases ht';done))
def sizedOk (p:D→Bool)(n:Nat):D→Bool
 | .tup [s,t]=>inTo 3 s&&(match s with
  | .int i=>treeOk p n i t
  | _=>false)
 | _=>false
theorem xz {i c:Nat}{p:D→Bool}(hc:2≤c)(hi:fvL.contains i=true)(hp:∀ m d,c≤m→noX d=true→pf m i [d]=.ok (.bl (p d)))(n m:Nat)(d:D)(hg:good (n+1) d=true)(hs:slim (n+1) d=true)(hm:n+c+2≤m):pf m F.az [d,.fn i]=.ok (.bl (sizedOk p n d)):=by
 obtain⟨m,rfl,hm⟩:=ex1 (show n+c+1+1≤m by omega)
 rw[jq,bF]
 by_cases ht:isTup d=true
 ·cases d with
  | tup xs =>
   rw[good]at hg
   rw[slim,Bool.and_eq_true,decide_eq_true_eq,List.all_eq_true]at hs
   by_cases h2:xs.length=2
   ·match xs,h2 with
    | [a,b],_ =>
     have ga:=dc hg a (by simp)
     have gb:=dc hg b (by simp)
     have sb:=hs.2 b (by simp)
     have hz:pf m F.aI [a]=.ok (.bl (inTo 3 a)):=tz (by omega) (cD ga)
     simp only[db,aB,ci,Bool.not_true,bZ,R.bind_ok,fg,ix20,ix21,fQ,List.length_cons,List.length_nil,hz]
     cases a with
     | int v =>
      rw[zq hi hp n m v b gb sb (by omega)]
      by_cases hv:inTo 3 (.int v)=true
      ·simp[hv,sizedOk]
      ·have hv':inTo 3 (.int v)=false:=by simpa using hv
       simp[hv',sizedOk]
     | _=>simp[sizedOk,inTo]
   ·have h2':¬ ((xs.length:Int)=2):=by omega
    have e:sizedOk p n (.tup xs)=false:=by
     match xs,h2 with
     | [],_=>rfl
     | [_],_=>rfl
     | _::_::_::_,_=>rfl
    simp[h2',e]
  | _=>cases ht
 ·have ht':isTup d=false:=by simpa using ht
  rw[dz ht' (cD hg)]
  have e:sizedOk p n d=false:=by cases d<;>first | rfl | (cases ht';done)
  simp[e]
def scr (ns:List Int):D:=.lst (ns.map .int)
def cell (ns:List Int)(k:Nat):Int:=if k < ns.length then ns.getD k 0 else if ns=[] then 0 else ns.getD (k%ns.length) 0*31+k
def pk (ns:List Int)(k:Nat)(m:Int):Int :=
 let d:=(cell ns k+6151*((k:Int)+1))*40692%2147483399
 (d*d+d/31)%2147483629%m
theorem tF {ns:List Int}{k:Nat}{m:Int}(h:0 < m):0≤pk ns k m:=Int.emod_nonneg _ (by omega)
theorem tG {ns:List Int}{k:Nat}{m:Int}(h:0 < m):pk ns k m < m:=Int.emod_lt_of_pos _ h
theorem jK (n:Nat):∀ ns:List Int,goods n (ns.map .int)=true
 | []=>rfl
 | i::r=>by rw[List.map_cons,goods,jK n r];cases n<;>rfl
theorem zr {n:Nat}(hn:1≤n)(ns:List Int)(k:Nat):pf n F.be [scr ns,.int k]=.ok (.int (cell ns k)):=by
 obtain⟨n,rfl,hn⟩:=ex1 hn
 rw[u6,iA]
 unfold scr cell
 by_cases h:k < ns.length
 ·have h':((k:Int) < (ns.length:Int)):=by omega
  have e0:=ixL (xs:=ns.map .int) (i:=k) (x:=.int (ns.getD k 0)) (by rw[List.getElem?_map,List.getElem?_eq_getElem h];simp[List.getD,h])
  simp only[STP,if_true,if_false,ite_true,ite_false,reduceIte,reduceCtorEq,OPP,List.length_map,decide_eq_true h',e0,if_pos h]
 ·have h':¬ ((k:Int) < (ns.length:Int)):=by omega
  cases ns with
  | nil =>
   have e1:dEq (.lst []) (.lst [])=.ok (.bl true):=rfl
   have h2:¬ ((k:Int) < ((0:Nat):Int)):=by omega
   simp only[STP,if_true,if_false,ite_true,ite_false,reduceIte,reduceCtorEq,OPP,List.map_nil,List.length_nil,decide_eq_false h2,e1,if_neg (Nat.not_lt_zero k)]
  | cons a r =>
   have hl:0 < (a::r).length:=by simp
   have hk:k%(a::r).length < (a::r).length:=Nat.mod_lt _ hl
   have e1:dEq (.lst ((a::r).map .int)) (.lst [])=.ok (.bl false):=by
    rw[lM (by rw[good];exact jK _ _) rfl]
    simp[eqD,eqDs]
   have e2:dMod (.int (k:Int)) (.int ((a::r).length:Int))=.ok (.int ((k%(a::r).length:Nat):Int)):=by
    rw[b8 (by omega)];rfl
   have e3:dIx (.lst ((a::r).map .int)) (.int ((k%(a::r).length:Nat):Int))=.ok (.int ((a::r).getD (k%(a::r).length) 0)) :=
    ixL (by rw[List.getElem?_map,List.getElem?_eq_getElem hk,List.getD,List.getElem?_eq_getElem hk];rfl)
   have e4:=bi (a:=(a::r).getD (k%(a::r).length) 0) (b:=31) (.inl (by decide))
   simp only[STP,if_true,if_false,ite_true,ite_false,reduceIte,reduceCtorEq,OPP,List.length_map,decide_eq_false h',e1,e2,e3,e4,if_neg h]
theorem oi {n:Nat}(hn:2≤n)(ns:List Int)(k:Nat){m:Int}(hm:0 < m):pf n F.aa [scr ns,.int k,.int m]=.ok (.int (pk ns k m)):=by
 obtain⟨n,rfl,hn⟩:=ex1 hn
 rw[u7,iB,zr (by omega)]
 simp only[R.bind_ok,aY]
 rw[bi (.inr (by decide))]
 simp only[R.bind_ok,aY]
 rw[bi (.inl (by decide))]
 simp only[R.bind_ok]
 rw[b8 (by decide)]
 simp only[au]
 have h0:0≤(cell ns k+6151*((k:Int)+1))*40692%2147483399:=Int.emod_nonneg _ (by decide)
 have h1:(cell ns k+6151*((k:Int)+1))*40692%2147483399 < 2147483399:=Int.emod_lt_of_pos _ (by decide)
 rw[bi (.inl ⟨by omega,by omega⟩),lL (by decide) (by decide)]
 simp only[R.bind_ok,aY]
 rw[b8 (by decide)]
 simp only[R.bind_ok]
 rw[b8 hm]
 rfl
theorem oj {n:Nat}(hn:2≤n)(ns:List Int)(k:Nat){a m:Int}(ha:a=(k:Int))(hm:0 < m):pf n F.aa [scr ns,.int a,.int m]=.ok (.int (pk ns k m)):=by subst ha;exact oi hn ns k hm
def W9 (v:Int):Prop:=0≤v∧v≤9
def dleaf (ns:List Int)(k:Nat):Int:=[0,1,1,2,9,pk ns (k+1) 10].getD (pk ns (k+2) 6).toNat 0
def dt (ns:List Int):Nat→Nat→Q Int
 | 0,k=>.lf (dleaf ns k)
 | n+1,k=>if pk ns k 6 < 2 then .lf (dleaf ns k) else if pk ns k 6=2 then .nd (dt ns n (k+3)) (dt ns n (k+3)) (dt ns n (k+3)) (dt ns n (k+3)) else
  .nd (dt ns n (5*k+7)) (dt ns n (5*k+18)) (dt ns n (5*k+29)) (dt ns n (5*k+40))
theorem tH (ns:List Int)(k:Nat):W9 (dleaf ns k):=by
 unfold dleaf W9
 have h0:=tF (ns:=ns) (k:=k+2) (m:=6) (by decide)
 have h1:=tG (ns:=ns) (k:=k+2) (m:=6) (by decide)
 have g0:=tF (ns:=ns) (k:=k+1) (m:=10) (by decide)
 have g1:=tG (ns:=ns) (k:=k+1) (m:=10) (by decide)
 obtain⟨j,hj⟩:∃ j:Nat,pk ns (k+2) 6=(j:Int):=⟨(pk ns (k+2) 6).toNat,by omega⟩
 rw[hj]at h1 ⊢
 have:j < 6:=by omega
 rcases j with _ | _ | _ | _ | _ | _ | j<;>first | (simp;done) | (simp;omega) | omega
theorem r6 (ns:List Int):∀ n k,(dt ns n k).dep≤n
 | 0,k=>Nat.le_refl _
 | n+1,k=>by
  rw[dt]
  have h1:=r6 ns n
  split
  ·exact Nat.zero_le _
  ·split
   ·have:=h1 (k+3);simp only[Q.dep];omega
   ·have a:=h1 (5*k+7);have b:=h1 (5*k+18);have c:=h1 (5*k+29);have d:=h1 (5*k+40);simp only[Q.dep];omega
theorem xA (ns:List Int):∀ n k,(dt ns n k).All W9
 | 0,k=>tH ns k
 | n+1,k=>by
  rw[dt]
  have h1:=xA ns n
  split
  ·exact tH ns k
  ·split
   ·exact⟨h1 _,h1 _,h1 _,h1 _⟩
   ·exact⟨h1 _,h1 _,h1 _,h1 _⟩
theorem qu {n:Nat}(hn:2≤n)(ns:List Int)(k:Nat):((((dAdd (.int (k:Int)) (.int 1)).bind fun x=>pf n F.aa [scr ns,x,(.int 10)]).bind fun x1=>.ok (.lst [(.int 0),(.int 1),(.int 1),(.int 2),(.int 9),x1])).bind fun x2=>((dAdd (.int (k:Int)) (.int 2)).bind fun x3=>pf n F.aa [scr ns,x3,(.int 6)]).bind fun x4=>dIx x2 x4)=.ok (.int (dleaf ns k)):=by
 simp only[aY,R.bind_ok]
 rw[oj hn ns (k+1) (by omega) (by decide),oj hn ns (k+2) (by omega) (by decide)]
 simp only[R.bind_ok]
 have h0:=tF (ns:=ns) (k:=k+2) (m:=6) (by decide)
 have h1:=tG (ns:=ns) (k:=k+2) (m:=6) (by decide)
 unfold dleaf
 obtain⟨j,hj⟩:∃ j:Nat,pk ns (k+2) 6=(j:Int):=⟨(pk ns (k+2) 6).toNat,by omega⟩
 rw[hj]at h1 ⊢
 have:j < 6:=by omega
 rcases j with _ | _ | _ | _ | _ | _ | j<;>first | rfl | omega
theorem rep4 (x:D):dMul (.tup [x]) (.int 4)=.ok (.tup [x,x,x,x]):=rfl
theorem rng4:rng1 [.int 4]=.ok [.int 0,.int 1,.int 2,.int 3]:=rfl
theorem xB (ns:List Int):∀ (s k n:Nat),s+3≤n→pf n F.al [scr ns,.int k,.int s]=.ok ((dt ns s k).d .int):=by
 intro s
 induction s with
 | zero =>
  intro k n hn
  obtain⟨n,rfl,hn⟩:=ex1 (show 2+1≤n by omega)
  rw[nc,fD,oi (by omega) ns k (by decide)]
  simp only[au]
  rw[qu (by omega)]
  simp[dt,Q.d]
 | succ s ih =>
  intro k n hn
  obtain⟨n,rfl,hn⟩:=ex1 (show s+3+1≤n by omega)
  rw[nc,fD,oi (by omega) ns k (by decide)]
  simp only[au]
  rw[qu (by omega)]
  have hs:¬ (((s+1:Nat):Int)=0):=by omega
  have hs1:((s+1:Nat):Int) - 1=(s:Int):=by omega
  have ih':∀ (a:Int) (j:Nat),a=(j:Int)→pf n F.al [scr ns,.int a,.int (s:Int)]=.ok ((dt ns s j).d .int):=fun a j e=>by subst e;exact ih j n (by omega)
  rw[dt]
  by_cases h2:pk ns k 6 < 2
  ·simp only[STP,if_true,if_false,ite_true,ite_false,reduceIte,reduceCtorEq,OPP,decide_eq_false hs,decide_eq_true h2,if_pos h2,Q.d]
  ·by_cases h3:pk ns k 6=2
   ·have e:=ih' ((k:Int)+3) (k+3) (by omega)
    simp only[STP,if_true,if_false,ite_true,ite_false,reduceIte,reduceCtorEq,OPP,decide_eq_false hs,decide_eq_false h2,decide_eq_true h3,if_neg h2,if_pos h3,hs1,e,rep4,Q.d]
   ·have step:∀ (i:Nat) ,(((dMul (.int 5) (.int (k:Int))).bind fun x9=>dAdd x9 (.int 7)).bind fun x10=>(dMul (.int 11) (.int (i:Int))).bind fun x11=>dAdd x10 x11).bind (fun x12=>pf n F.al [scr ns,x12,.int (s:Int)])=.ok ((dt ns s (5*k+7+11*i)).d .int):=fun i=>by
     rw[bi (.inr (by decide)),bi (.inr (by decide))]
     simp only[R.bind_ok,aY]
     exact ih' _ _ (by omega)
    have e:cMap (fun B2=>(((dMul (.int 5) (.int (k:Int))).bind fun x9=>dAdd x9 (.int 7)).bind fun x10=>(dMul (.int 11) B2).bind fun x11=>dAdd x10 x11).bind fun x12=>pf n F.al [scr ns,x12,.int (s:Int)]) [.int 0,.int 1,.int 2,.int 3]=.ok (.lst [(dt ns s (5*k+7)).d .int,(dt ns s (5*k+18)).d .int,(dt ns s (5*k+29)).d .int,(dt ns s (5*k+40)).d .int]):=cMap4 (step 0) (step 1) (step 2) (step 3)
    simp only[STP,if_true,if_false,ite_true,ite_false,reduceIte,reduceCtorEq,OPP,decide_eq_false hs,decide_eq_false h2,decide_eq_false h3,if_neg h2,if_neg h3,hs1,rng4]
    rw[e]
    rfl
structure Pc (sz:Nat)(t:Q Int):Prop where
 h3:sz≤3
 dep:t.dep≤sz
 all:t.All W9
def picD (sz:Nat)(t:Q Int):D:=.tup [.int (sz:Int),t.d .int]
section
variable {α:Type}[DecidableEq α]{e:α→D}
theorem gA:∀ {n m:Nat} {d:D},good n d=true→n≤m→good m d=true
 | n,m,.non,_,_=>by cases m<;>rfl
 | n,m,.bl _,_,_=>by cases m<;>rfl
 | n,m,.int _,_,_=>by cases m<;>rfl
 | n,m,.str _,_,_=>by cases m<;>rfl
 | n,m,.exc _,h,_=>by cases n<;>simp[good]at h
 | n,m,.fn _,h,_=>by cases n<;>simp[good]at h
 | 0,m,.tup _,h,_=>by simp[good]at h
 | 0,m,.lst _,h,_=>by simp[good]at h
 | n+1,0,.tup _,_,l=>by omega
 | n+1,0,.lst _,_,l=>by omega
 | n+1,m+1,.tup xs,h,l=>by
  rw[good]at h ⊢
  exact lN fun d hd=>gA (n:=n) (dc h d hd) (by omega)
 | n+1,m+1,.lst xs,h,l=>by
  rw[good]at h ⊢
  exact lN fun d hd=>gA (n:=n) (dc h d hd) (by omega)
theorem r8 (E:En e){n:Nat}(hn:1≤n){a b c d:Q α}(ha:a.dep≤50)(hb:b.dep≤50)(hc:c.dep≤50)(hd:d.dep≤50):pf n F.ag [.tup [a.d e,b.d e,c.d e,d.d e]]=.ok ((put4 a b c d).d e):=by
 obtain⟨n,rfl,hn⟩:=ex1 hn
 rw[j5,bU]
 cases a with
 | nd a1 a2 a3 a4=>simp only[STP,if_true,if_false,ite_true,ite_false,reduceIte,reduceCtorEq,OPP,Q.d,put4]
 | lf v =>
  have e1:dIsA qTup (Q.d e (.lf v))=.ok (.bl false):=dz (E.tup v) (cD (E.gd 0 v))
  have gv:good 59 (e v)=true:=E.gd 59 v
  have e2:dEq (.tup [Q.d e (.lf v),b.d e,c.d e,d.d e]) (.tup [Q.d e (.lf v),Q.d e (.lf v),Q.d e (.lf v),Q.d e (.lf v)])=.ok (.bl (decide (b=.lf v)&&(decide (c=.lf v)&&decide (d=.lf v)))):=by
   rw[lM]
   ·rw[eqD,eqDs,eqDs,eqDs,eqDs,eqDs,Q.eqd E,Q.eqd E,Q.eqd E,Q.eqd E]
    simp
   ·rw[good,goods,goods,goods,goods,goods,gA (Q.gd E 50 b hb) (by decide),gA (Q.gd E 50 c hc) (by decide),gA (Q.gd E 50 d hd) (by decide),Q.d,gv]
    rfl
   ·rw[good,goods,goods,goods,goods,goods,Q.d,gv]
    rfl
  simp only[STP,if_true,if_false,ite_true,ite_false,reduceIte,reduceCtorEq,OPP,e1,e2]
  unfold put4
  by_cases hb':b=.lf v
  ·by_cases hc':c=.lf v
   ·by_cases hd':d=.lf v
    ·simp[hb',hc',hd']
    ·simp[hb',hc',hd',Q.d]
   ·simp[hb',hc',Q.d]
  ·simp[hb',Q.d]
theorem fS (E:En e):∀ (t:Q α) (n:Nat),t.dep≤40→t.dep+2≤n→pf n F.aw [t.d e]=.ok (t.lean.d e)
 | .lf a,n,_,hn=>by
  obtain⟨n,rfl,hn⟩:=ex1 (show 1+1≤n by omega)
  rw[iD,cz]
  have e1:dIsA qTup (Q.d e (.lf a))=.ok (.bl false):=dz (E.tup a) (cD (E.gd 0 a))
  simp only[STP,if_true,if_false,ite_true,ite_false,reduceIte,reduceCtorEq,e1,Q.lean]
 | .nd a b c d,n,hd,hn=>by
  have hd':1+max (max a.dep b.dep) (max c.dep d.dep)≤40:=hd
  have hn':1+max (max a.dep b.dep) (max c.dep d.dep)+2≤n:=hn
  obtain⟨n,rfl,hn⟩:=ex1 (show max (max a.dep b.dep) (max c.dep d.dep)+2+1≤n by omega)
  rw[iD,cz]
  have ka:=fS E a n (by omega) (by omega)
  have kb:=fS E b n (by omega) (by omega)
  have kc:=fS E c n (by omega) (by omega)
  have kd:=fS E d n (by omega) (by omega)
  have hm:cMap (fun part=>pf n F.aw [part]) [a.d e,b.d e,c.d e,d.d e]=.ok (.lst [a.lean.d e,b.lean.d e,c.lean.d e,d.lean.d e]):=cMap4 ka kb kc kd
  have hp:=r8 E (n:=n) (by omega) (a:=a.lean) (b:=b.lean) (c:=c.lean) (d:=d.lean) (fO (n:=50) (by omega)) (fO (n:=50) (by omega)) (fO (n:=50) (by omega)) (fO (n:=50) (by omega))
  rw[Q.d]
  simp only[STP,if_true,if_false,ite_true,ite_false,reduceIte,reduceCtorEq,OPP,sq4,hm,hp,Q.lean]
theorem tJ:∀ {n:Nat} {d:D},isTup d=false→isLst d=false→slim n d=true
 | 0,d,_,_=>by cases d<;>rfl
 | n+1,d,h,h'=>by cases d<;>first | rfl | (cases h;done) | (cases h';done)
theorem lO (hl:∀ a,isLst (e a)=false)(E:En e):∀ (n:Nat) (t:Q α),slim n (t.d e)=true
 | n,.lf a=>tJ (E.tup a) (hl a)
 | 0,.nd ..=>rfl
 | n+1,.nd a b c d=>by
  rw[Q.d,Lw.slim]
  simp only[List.all_cons,List.all_nil,lO hl E n a,lO hl E n b,lO hl E n c,lO hl E n d,List.length_cons,List.length_nil]
  rfl
theorem lP {p:D→Bool}(E:En e):∀ (m:Nat) (s:Nat) (t:Q α),t.dep≤m→t.dep≤s→t.All (fun a=>p (e a)=true)→treeOk p m s (t.d e)=true
 | m,s,.lf a,_,_,h=>by
  have:treeOk p m s (e a)=p (e a):=by
   have:=E.tup a
   cases m with
   | zero=>cases e a<;>rfl
   | succ m=>cases q:e a<;>first | rfl | (rw[q]at this;cases this)
  exact this.trans h
 | 0,s,.nd a b c d,h,_,_=>by simp[Q.dep]at h
 | m+1,0,.nd a b c d,_,h,_=>by simp[Q.dep]at h
 | m+1,s+1,.nd a b c d,h,h',hall=>by
  have h1:1+max (max a.dep b.dep) (max c.dep d.dep)≤m+1:=h
  have h2:1+max (max a.dep b.dep) (max c.dep d.dep)≤s+1:=h'
  rw[Q.d,Lw.treeOk,show ((s+1:Nat):Int) - 1=(s:Int) by omega]
  have h0:((s+1:Nat):Int)≠0:=by omega
  simp only[List.all_cons,List.all_nil,lP E m s a (by omega) (by omega) hall.1,lP E m s b (by omega) (by omega) hall.2.1,lP E m s c (by omega) (by omega) hall.2.2.1,lP E m s d (by omega) (by omega) hall.2.2.2,List.length_cons,List.length_nil,decide_eq_true h0]
  rfl
end
theorem iP {α:Type}{p q:α→Prop}(h:∀ a,p a→q a):∀ {t:Q α},t.All p→t.All q
 | .lf a,x=>h a x
 | .nd _ _ _ _,x=>⟨iP h x.1,iP h x.2.1,iP h x.2.2.1,iP h x.2.2.2⟩
theorem in9 {v:Int}(h:W9 v):inTo 9 (.int v)=true:=by simp[inTo,h.1,h.2]
theorem xC:fvL.contains F.ac=true:=by decide
theorem xD {n m:Nat}{d:D}(hg:good (m+1) d=true)(hs:slim (m+1) d=true)(hn:m+5≤n):pf n F.aM [d]=.ok (.bl (sizedOk (inTo 9) m d)):=by
 obtain⟨n,rfl,hn⟩:=ex1 (show m+4+1≤n by omega)
 rw[mi,cQ,xz (c:=2) (p:=inTo 9) (by decide) xC (fun m d h1 h2=>fR h1 h2) m n d hg hs (by omega)]
 rfl
theorem vA {n m:Nat}{d:D}(hg:good (m+1) d=true)(hs:slim (m+1) d=true)(hn:m+6≤n):pf n F.ab [d]=if sizedOk (inTo 9) m d=true then .ok .non else .err 1:=by
 obtain⟨n,rfl,hn⟩:=ex1 (show m+5+1≤n by omega)
 rw[jr,bG,xD hg hs (by omega)]
 cases sizedOk (inTo 9) m d<;>rfl
section
variable {sz:Nat}{t:Q Int}
theorem Pc.good (p:Pc sz t):good 4 (picD sz t)=true:=by
 unfold picD
 rw[FF.good,goods,goods,goods,Q.gd En.int 3 t (Nat.le_trans p.dep p.h3)]
 rfl
theorem Pc.slim (p:Pc sz t):slim 4 (picD sz t)=true:=by
 unfold picD
 rw[Lw.slim]
 simp only[List.all_cons,List.all_nil,lO (fun _=>rfl) En.int,tJ (d:=.int (sz:Int)) rfl rfl,List.length_cons,List.length_nil]
 rfl
theorem Pc.sized (p:Pc sz t):sizedOk (inTo 9) 3 (picD sz t)=true:=by
 have h3:=p.h3
 have h1:inTo 3 (.int (sz:Int))=true:=by simp[inTo];omega
 unfold picD sizedOk
 simp only[h1,lP En.int 3 sz t (Nat.le_trans p.dep p.h3) p.dep (iP (fun a h=>in9 h) p.all)]
 rfl
theorem Pc.check (p:Pc sz t){n:Nat}(hn:9≤n):pf n F.ab [picD sz t]=.ok .non:=by rw[vA p.good p.slim hn,p.sized];rfl
theorem Pc.lean (p:Pc sz t){n:Nat}(hn:10≤n):pf n F.aZ [picD sz t]=.ok (picD sz (T (t.at sz) sz)):=by
 obtain⟨n,rfl,hn⟩:=ex1 (show 9+1≤n by omega)
 have h3:=p.h3
 have hd:=p.dep
 have e1:=p.check (n:=n) (by omega)
 have e2:=fS En.int t n (by omega) (by omega)
 rw[zj,nN,e1,← fc sz t p.dep]
 unfold picD
 simp only[STP,if_true,if_false,ite_true,ite_false,reduceIte,reduceCtorEq,OPP,e2]
theorem pc_T {f:Nat→Nat→Int}(h3:sz≤3)(h:∀ x y,x < 2^sz→y < 2^sz→W9 (f x y)):Pc sz (T f sz):=⟨h3,cC sz f,qp sz f h⟩
theorem Pc.at (p:Pc sz t)(x y:Nat):W9 (t.at sz x y):=jJ sz t x y p.all
theorem Pc.side (p:Pc sz t){n:Nat}(hn:1≤n):pf n F.aq [picD sz t]=.ok (.int ((2^sz:Nat):Int)):=by
 obtain⟨n,rfl,hn⟩:=ex1 (show 0+1≤n by omega)
 have h3:=p.h3
 rw[rD,gp]
 unfold picD
 have:sz=0∨sz=1∨sz=2∨sz=3:=by omega
 rcases this with rfl | rfl | rfl | rfl<;>rfl
end
section
variable {α:Type}[DecidableEq α]{e:α→D}
theorem p8 {s:Nat}(h:s≤3):2^s≤8:=by
 have:s=0∨s=1∨s=2∨s=3:=by omega
 rcases this with rfl | rfl | rfl | rfl<;>decide
theorem pos2 (s:Nat):0 < 2^s:=Nat.pow_pos (by decide)
theorem iQ {a b:Nat}(h0:0 < b)(h1:b < 1073741824):dDiv (.int (a:Int)) (.int (b:Int))=.ok (.int ((a/b:Nat):Int)):=by
 rw[lL (by omega) (by omega)];rfl
theorem qv {a b:Nat}(h0:0 < b):dMod (.int (a:Int)) (.int (b:Int))=.ok (.int ((a%b:Nat):Int)):=by
 rw[b8 (by omega)];rfl
theorem jL (E:En e):∀ (s:Nat) (t:Q α) (n x y:Nat),s≤3→t.dep≤s→x < 2^s→y < 2^s→t.dep+1≤n→pf n F.ao [t.d e,.int ((2^s:Nat):Int),.int (x:Int),.int (y:Int)]=.ok (e (t.at s x y))
 | s,.lf a,n,x,y,_,_,_,_,hn=>by
  obtain⟨n,rfl,hn⟩:=ex1 (show 0+1≤n by omega)
  rw[jT,di,ni]
  have e1:dIsA qTup (Q.d e (.lf a))=.ok (.bl false):=dz (E.tup a) (cD (E.gd 0 a))
  simp only[STP,if_true,if_false,ite_true,ite_false,reduceIte,reduceCtorEq,e1]
  rfl
 | 0,.nd ..,_,_,_,_,h,_,_,_=>by simp[Q.dep]at h
 | s+1,.nd a b c d,n,x,y,h3,hd,hx,hy,hn=>by
  have hd':1+max (max a.dep b.dep) (max c.dep d.dep)≤s+1:=hd
  have hn':1+max (max a.dep b.dep) (max c.dep d.dep)+1≤n:=hn
  obtain⟨n,rfl,hn⟩:=ex1 (show 0+1≤n by omega)
  have hs:=p8 (show s≤3 by omega)
  have hp:=pos2 s
  rw[br]at hx hy
  rw[jT,di,Q.d]
  have e1:dDiv (.int ((2^(s+1):Nat):Int)) (.int 2)=.ok (.int ((2^s:Nat):Int)):=by
   have:=iQ (a:=2^(s+1)) (b:=2) (by decide) (by decide)
   rw[show (2^(s+1)/2:Nat)=2^s by rw[br];omega]at this
   exact this
  have e2:=iQ (a:=y) (b:=2^s) hp (by omega)
  have e3:=iQ (a:=x) (b:=2^s) hp (by omega)
  have e4:=qv (a:=x) (b:=2^s) hp
  have e5:=qv (a:=y) (b:=2^s) hp
  have e6:dMul (.int 2) (.int ((y/2^s:Nat):Int))=.ok (.int (2*((y/2^s:Nat):Int))):=bi (.inr (by decide))
  rw[Q.at]
  by_cases h1:y < 2^s
  ·have y0:y/2^s=0:=Nat.div_eq_of_lt h1
   have y1:y%2^s=y:=Nat.mod_eq_of_lt h1
   by_cases h2:x < 2^s
   ·have x0:x/2^s=0:=Nat.div_eq_of_lt h2
    have x1:x%2^s=x:=Nat.mod_eq_of_lt h2
    have k:=jL E s a n x y (by omega) (by omega) h2 h1 (by omega)
    simp only[STP,if_true,if_false,ite_true,ite_false,reduceIte,reduceCtorEq,OPP,e1,e2,e3,e4,e5,e6,if_pos h1,if_pos h2]
    rw[y0,x0,x1,y1]
    show outL (lB ((dIx (.tup [a.d e,b.d e,c.d e,d.d e]) (.int 0)).bind _) _)=_
    simp only[STP,if_true,if_false,ite_true,ite_false,reduceIte,reduceCtorEq,OPP,k]
   ·have x0:x/2^s=1:=by
     have:x=(x - 2^s)+2^s:=by omega
     rw[this,Nat.add_div_right _ hp,Nat.div_eq_of_lt (by omega)]
    have x1:x%2^s=x - 2^s:=by rw[Nat.mod_eq_sub_mod (by omega),Nat.mod_eq_of_lt (by omega)]
    have k:=jL E s b n (x - 2^s) y (by omega) (by omega) (by omega) h1 (by omega)
    simp only[STP,if_true,if_false,ite_true,ite_false,reduceIte,reduceCtorEq,OPP,e1,e2,e3,e4,e5,e6,if_pos h1,if_neg h2]
    rw[y0,x0,x1,y1]
    show outL (lB ((dIx (.tup [a.d e,b.d e,c.d e,d.d e]) (.int 1)).bind _) _)=_
    simp only[STP,if_true,if_false,ite_true,ite_false,reduceIte,reduceCtorEq,OPP,k]
  ·have y0:y/2^s=1:=by
    have:y=(y - 2^s)+2^s:=by omega
    rw[this,Nat.add_div_right _ hp,Nat.div_eq_of_lt (by omega)]
   have y1:y%2^s=y - 2^s:=by rw[Nat.mod_eq_sub_mod (by omega),Nat.mod_eq_of_lt (by omega)]
   by_cases h2:x < 2^s
   ·have x0:x/2^s=0:=Nat.div_eq_of_lt h2
    have x1:x%2^s=x:=Nat.mod_eq_of_lt h2
    have k:=jL E s c n x (y - 2^s) (by omega) (by omega) h2 (by omega) (by omega)
    simp only[STP,if_true,if_false,ite_true,ite_false,reduceIte,reduceCtorEq,OPP,e1,e2,e3,e4,e5,e6,if_neg h1,if_pos h2]
    rw[y0,x0,x1,y1]
    show outL (lB ((dIx (.tup [a.d e,b.d e,c.d e,d.d e]) (.int 2)).bind _) _)=_
    simp only[STP,if_true,if_false,ite_true,ite_false,reduceIte,reduceCtorEq,OPP,k]
   ·have x0:x/2^s=1:=by
     have:x=(x - 2^s)+2^s:=by omega
     rw[this,Nat.add_div_right _ hp,Nat.div_eq_of_lt (by omega)]
    have x1:x%2^s=x - 2^s:=by rw[Nat.mod_eq_sub_mod (by omega),Nat.mod_eq_of_lt (by omega)]
    have k:=jL E s d n (x - 2^s) (y - 2^s) (by omega) (by omega) (by omega) (by omega) (by omega)
    simp only[STP,if_true,if_false,ite_true,ite_false,reduceIte,reduceCtorEq,OPP,e1,e2,e3,e4,e5,e6,if_neg h1,if_neg h2]
    rw[y0,x0,x1,y1]
    show outL (lB ((dIx (.tup [a.d e,b.d e,c.d e,d.d e]) (.int 3)).bind _) _)=_
    simp only[STP,if_true,if_false,ite_true,ite_false,reduceIte,reduceCtorEq,OPP,k]
end
def rowT {α:Type}(e:α→D)(f:Nat→Nat→α)(w y:Nat):D:=.tup ((List.range w).map fun x=>e (f x y))
def rowsT {α:Type}(e:α→D)(f:Nat→Nat→α)(w h:Nat):D:=.tup ((List.range h).map fun y=>rowT e f w y)
theorem fi {s:Nat}(h:s≤16777216):rng1 [.int (s:Int)]=.ok ((List.range s).map fun i=>D.int ((i:Nat):Int)):=by
 show (if -16777216≤(s:Int)∧(s:Int)≤16777216 then R.ok (rngD 0 (s:Int).toNat) else R.stuck)=_
 rw[if_pos ⟨by omega,by omega⟩]
 unfold rngD
 simp
theorem r9 {α:Type}{e:α→D}{f g:Nat→Nat→α}{w y:Nat}(h:∀ x,x < w→f x y=g x y):rowT e f w y=rowT e g w y:=by
 unfold rowT
 congr 1
 exact List.map_congr_left fun x hx=>by rw[h x (List.mem_range.mp hx)]
theorem jX {α:Type}{e:α→D}{f g:Nat→Nat→α}{w k:Nat}(h:∀ x y,x < w→y < k→f x y=g x y):rowsT e f w k=rowsT e g w k:=by
 unfold rowsT
 congr 1
 exact List.map_congr_left fun y hy=>r9 fun x hx=>h x y hx (List.mem_range.mp hy)
theorem gC {α:Type}{e:α→D}{f:Nat→Nat→α}{w x y:Nat}(h:x < w):dIx (rowT e f w y) (.int (x:Int))=.ok (e (f x y)):=ixT (by simp[h])
theorem iR {α:Type}{e:α→D}{f:Nat→Nat→α}{w k y:Nat}(h:y < k):dIx (rowsT e f w k) (.int (y:Int))=.ok (rowT e f w y):=ixT (by simp[h])
section
variable {sz:Nat}{t:Q Int}
theorem Pc.row (p:Pc sz t){n:Nat}(hn:5≤n){y:Nat}(hy:y < 2^sz):pf n F.aF [picD sz t,.int (y:Int)]=.ok (rowT .int (t.at sz) (2^sz) y):=by
 obtain⟨n,rfl,hn⟩:=ex1 (show 4+1≤n by omega)
 have h3:=p.h3
 have hd:=p.dep
 have h8:=p8 h3
 have e1:=p.side (n:=n) (by omega)
 have hm:cMap (fun x=>(dIx (picD sz t) (.int 1)).bind fun x1=>pf n F.ao [x1,.int ((2^sz:Nat):Int),x,.int (y:Int)]) ((List.range (2^sz)).map fun i=>D.int ((i:Nat):Int))=.ok (.lst ((List.range (2^sz)).map fun x=>D.int (t.at sz x y))) :=
  aU _ _ fun x hx=>by
   unfold picD
   rw[ix21,R.bind_ok]
   exact jL En.int sz t n x y h3 hd (List.mem_range.mp hx) hy (by omega)
 rw[nO,dG]
 simp only[STP,if_true,if_false,ite_true,ite_false,reduceIte,reduceCtorEq,e1,fi (show 2^sz≤16777216 by omega),hm,OPP]
 rfl
theorem Pc.rows (p:Pc sz t){n:Nat}(hn:10≤n):pf n F.aB [picD sz t]=.ok (rowsT .int (t.at sz) (2^sz) (2^sz)):=by
 obtain⟨n,rfl,hn⟩:=ex1 (show 9+1≤n by omega)
 have h8:=p8 p.h3
 have e1:=p.side (n:=n) (by omega)
 have e2:=p.check (n:=n) (by omega)
 have hm:cMap (fun y=>pf n F.aF [picD sz t,y]) ((List.range (2^sz)).map fun i=>D.int ((i:Nat):Int))=.ok (.lst ((List.range (2^sz)).map fun y=>rowT .int (t.at sz) (2^sz) y)) :=
  aU _ _ fun y hy=>p.row (by omega) (List.mem_range.mp hy)
 rw[ml,cS]
 simp only[STP,if_true,if_false,ite_true,ite_false,reduceIte,reduceCtorEq,e1,e2,fi (show 2^sz≤16777216 by omega),hm,OPP]
 rfl
theorem vB {n:Nat}(hn:2≤n)(s x:Int):pf n F.aN [.int s,.int x]=.ok (.bl (decide (0≤x)&&decide (x < s))):=by
 obtain⟨n,rfl,hn⟩:=ex1 (show 1+1≤n by omega)
 rw[pj,eE,d6 (by omega) rfl]
 simp only[STP,if_true,if_false,ite_true,ite_false,reduceIte,reduceCtorEq,OPP,isW]
def inB (s:Nat)(x y:Int):Bool:=(decide (0≤x)&&decide (x < (s:Int)))&&(decide (0≤y)&&decide (y < (s:Int)))
theorem Pc.spot_any (p:Pc sz t){n:Nat}(hn:3≤n)(x y:Int):pf n F.aA [picD sz t,.int x,.int y]=if inB (2^sz) x y=true then .ok .non else .err 2:=by
 obtain⟨n,rfl,hn⟩:=ex1 (show 2+1≤n by omega)
 rw[mj,cR,p.side (by omega)]
 simp only[STP,if_true,if_false,ite_true,ite_false,reduceIte,reduceCtorEq,vB (show 2≤n by omega)]
 unfold inB
 cases (decide (0≤x)&&decide (x < ((2^sz:Nat):Int)))<;>cases (decide (0≤y)&&decide (y < ((2^sz:Nat):Int)))<;>rfl
theorem tK {s x y:Nat}(hx:x < s)(hy:y < s):inB s x y=true:=by unfold inB;simp;omega
theorem AM {s:Nat}{x y:Int}(h:inB s x y=true):∃ a b:Nat,x=a∧y=b∧a < s∧b < s:=by
 unfold inB at h
 simp only[Bool.and_eq_true,decide_eq_true_eq]at h
 exact⟨x.toNat,y.toNat,by omega,by omega,by omega,by omega⟩
theorem Pc.worth_any (p:Pc sz t){n:Nat}(hn:10≤n)(x y:Int):pf n F.au [picD sz t,.int x,.int y]=if inB (2^sz) x y=true then .ok (.int (t.at sz x.toNat y.toNat)) else .err 2:=by
 obtain⟨n,rfl,hn⟩:=ex1 (show 9+1≤n by omega)
 have h3:=p.h3
 have hd:=p.dep
 rw[pp,eF,p.check (by omega),p.spot_any (by omega),p.side (by omega)]
 by_cases h:inB (2^sz) x y=true
 ·obtain⟨a,b,rfl,rfl,ha,hb⟩:=AM h
  have k:=jL En.int sz t n a b h3 hd ha hb (by omega)
  rw[if_pos h,if_pos h]
  unfold picD
  simp only[STP,if_true,if_false,ite_true,ite_false,reduceIte,reduceCtorEq,OPP,k,Int.toNat_natCast]
 ·rw[if_neg h,if_neg h]
  rfl
theorem Pc.worth (p:Pc sz t){n:Nat}(hn:10≤n){x y:Nat}(hx:x < 2^sz)(hy:y < 2^sz):pf n F.au [picD sz t,.int (x:Int),.int (y:Int)]=.ok (.int (t.at sz x y)):=by
 rw[p.worth_any hn,if_pos (tK hx hy),Int.toNat_natCast,Int.toNat_natCast]
end
theorem zt (n:Nat):dDiv (.int ((2^(n+1):Nat):Int)) (.int 2)=.ok (.int ((2^n:Nat):Int)):=by
 have:=iQ (a:=2^(n+1)) (b:=2) (by decide) (by decide)
 rw[show (2^(n+1)/2:Nat)=2^n by rw[br];omega]at this
 exact this
theorem xE {α:Type}(f:Nat→Nat→α)(a b c d:Nat):sh (sh f a b) c d=sh f (a+c) (b+d):=by
 funext x y;unfold sh;rw[show x+c+a=x+(a+c) by omega,show y+d+b=y+(b+d) by omega]
theorem d7 (f:Nat→Nat→Int)(w h:Nat):∀ (n k l tp:Nat),n≤3→l+2^n≤w→tp+2^n≤h→n+2≤k→pf k F.ap [rowsT .int f w h,.int (l:Int),.int (tp:Int),.int ((2^n:Nat):Int)]=.ok ((T (sh f l tp) n).d .int)
 | 0,k,l,tp,_,hl,ht,hk=>by
  obtain⟨k,rfl,hk⟩:=ex1 (show 1+1≤k by omega)
  have e1:=iR (e:=D.int) (f:=f) (w:=w) (k:=h) (y:=tp) (by omega)
  have e2:=gC (e:=D.int) (f:=f) (w:=w) (x:=l) (y:=tp) (by omega)
  rw[k6,d0,show ((2^0:Nat):Int)=1 from rfl]
  simp only[STP,if_true,if_false,ite_true,ite_false,reduceIte,reduceCtorEq,OPP,decide_true,e1,e2]
  unfold T sh Q.d
  simp
 | n+1,k,l,tp,h3,hl,ht,hk=>by
  obtain⟨k,rfl,hk⟩:=ex1 (show n+2+1≤k by omega)
  rw[br]at hl ht
  have hp:=pos2 n
  have e0:¬ (((2^(n+1):Nat):Int)=1):=by rw[br];omega
  have k1:=d7 f w h n k l tp (by omega) (by omega) (by omega) (by omega)
  have k2:=d7 f w h n k (l+2^n) tp (by omega) (by omega) (by omega) (by omega)
  have k3:=d7 f w h n k l (tp+2^n) (by omega) (by omega) (by omega) (by omega)
  have k4:=d7 f w h n k (l+2^n) (tp+2^n) (by omega) (by omega) (by omega) (by omega)
  have c1:(l:Int)+((2^n:Nat):Int)=((l+2^n:Nat):Int):=by omega
  have c2:(tp:Int)+((2^n:Nat):Int)=((tp+2^n:Nat):Int):=by omega
  have hpt:=r8 En.int (n:=k) (by omega) (a:=T (sh f l tp) n) (b:=T (sh f (l+2^n) tp) n) (c:=T (sh f l (tp+2^n)) n) (d:=T (sh f (l+2^n) (tp+2^n)) n) (Nat.le_trans (cC n _) (by omega)) (Nat.le_trans (cC n _) (by omega)) (Nat.le_trans (cC n _) (by omega)) (Nat.le_trans (cC n _) (by omega))
  rw[k6,d0]
  simp only[STP,if_true,if_false,ite_true,ite_false,reduceIte,reduceCtorEq,OPP,decide_eq_false e0,zt,c1,c2,k1,k2,k3,k4,hpt]
  rw[T,xE,xE,xE,Nat.add_zero,Nat.add_zero]
theorem xF {n:Nat}(hn:3≤n)(f:Nat→Nat→Int)(s y:Nat)(hs:s≤1000)(hw:∀ x,x < s→W9 (f x y)):pf n F.a5 [rowT .int f s y,.int (s:Int)]=.ok (.bl true):=by
 obtain⟨n,rfl,hn⟩:=ex1 (show 2+1≤n by omega)
 have hm:cMap (fun worth=>pf n F.ac [worth]) ((List.range s).map fun x=>D.int (f x y))=.ok (.lst ((List.range s).map fun x=>D.bl ((fun _=>true) x))) :=
  aU _ _ fun x hx=>by rw[fR (by omega) rfl,in9 (hw x (List.mem_range.mp hx))]
 rw[uW,io]
 unfold rowT
 have hsq:sq (.tup ((List.range s).map fun x=>D.int (f x y)))=.ok ((List.range s).map fun x=>D.int (f x y)):=lJ (by simp;omega)
 simp only[STP,if_true,if_false,ite_true,ite_false,reduceIte,reduceCtorEq,OPP,List.length_map,List.length_range,decide_true,hsq,hm,fP]
 simp
theorem cg {sz:Nat}(h:sz≤3):sz=0∨sz=1∨sz=2∨sz=3:=by omega
theorem qw {sz:Nat}(h:sz≤3):dNotInD (.int ((2^sz:Nat):Int)) (tupI [1,2,4,8])=.ok (.bl false):=by
 rcases cg h with rfl | rfl | rfl | rfl<;>rfl
theorem qy {sz:Nat}(h:sz≤3):(onT (tupI [1,2,4,8]) fun ls=>dIndexI ls [.int ((2^sz:Nat):Int)])=.ok (.int (sz:Int)):=by
 rcases cg h with rfl | rfl | rfl | rfl<;>rfl
def Wo (f:Nat→Nat→Int)(sz:Nat):Prop:=∀ x y,x < 2^sz→y < 2^sz→W9 (f x y)
theorem sd {n sz:Nat}(hn:4≤n)(h3:sz≤3){f:Nat→Nat→Int}(hw:Wo f sz):pf n F.aY [rowsT .int f (2^sz) (2^sz)]=.ok (.bl true):=by
 obtain⟨n,rfl,hn⟩:=ex1 (show 3+1≤n by omega)
 have h8:=p8 h3
 have hl:(dLen [rowsT .int f (2^sz) (2^sz)])=.ok (.int ((2^sz:Nat):Int)):=by unfold rowsT;rw[bZ,List.length_map,List.length_range]
 have hm:cMap (fun row=>(dLen [rowsT .int f (2^sz) (2^sz)]).bind fun x1=>pf n F.a5 [row,x1]) ((List.range (2^sz)).map fun y=>rowT .int f (2^sz) y)=.ok (.lst ((List.range (2^sz)).map fun x=>D.bl ((fun _=>true) x))) :=
  aU _ _ fun y hy=>by rw[hl,R.bind_ok,xF (by omega) f _ y (by omega) fun x hx=>hw x y hx (List.mem_range.mp hy)]
 have ht:dIsA qTup (rowsT .int f (2^sz) (2^sz))=.ok (.bl true):=rfl
 have hsq:sq (rowsT .int f (2^sz) (2^sz))=.ok ((List.range (2^sz)).map fun y=>rowT .int f (2^sz) y):=lJ (by simp;omega)
 rw[pq,eG]
 simp only[STP,if_true,if_false,ite_true,ite_false,reduceIte,reduceCtorEq,ht,hl,qw h3,hsq]
 rw[hl]at hm
 simp only[STP,if_true,if_false,ite_true,ite_false,reduceIte,reduceCtorEq]at hm
 simp only[STP,if_true,if_false,ite_true,ite_false,reduceIte,reduceCtorEq,hm,fP]
 simp
theorem vC {n sz:Nat}(hn:6≤n)(h3:sz≤3){f:Nat→Nat→Int}(hw:Wo f sz):pf n F.ba [rowsT .int f (2^sz) (2^sz)]=.ok (picD sz (T f sz)):=by
 obtain⟨n,rfl,hn⟩:=ex1 (show 5+1≤n by omega)
 have hl:(dLen [rowsT .int f (2^sz) (2^sz)])=.ok (.int ((2^sz:Nat):Int)):=by unfold rowsT;rw[bZ,List.length_map,List.length_range]
 have e1:=d7 f (2^sz) (2^sz) sz n 0 0 h3 (by omega) (by omega) (by omega)
 rw[rE,gq,sd (by omega) h3 hw]
 simp only[STP,if_true,if_false,ite_true,ite_false,reduceIte,reduceCtorEq,hl,qy h3]
 rw[show ((0:Nat):Int)=0 from rfl]at e1
 rw[e1]
 rfl
def rowL {α:Type}(e:α→D)(f:Nat→Nat→α)(w y:Nat):D:=.lst ((List.range w).map fun x=>e (f x y))
def rowsL {α:Type}(e:α→D)(f:Nat→Nat→α)(w h:Nat):D:=.lst ((List.range h).map fun y=>rowL e f w y)
theorem xG {α:Type}{e:α→D}{f:Nat→Nat→α}{w k y:Nat}(h:y < k):dIx (rowsL e f w k) (.int (y:Int))=.ok (rowL e f w y):=ixL (by simp[h])
theorem catL {xs ys:List D}(h:xs.length+ys.length≤16777216):dAdd (.lst xs) (.lst ys)=.ok (.lst (xs++ys)):=by
 show (if xs.length+ys.length≤16777216 then R.ok (D.lst (xs++ys)) else R.stuck)=_
 rw[if_pos h]
theorem xH {α:Type}{e:α→D}{fa fb F:Nat→Nat→α}{h y y':Nat}(ha:∀ x,x < h→F x y'=fa x y)(hb:∀ x,x < h→F (h+x) y'=fb x y):((List.range h).map fun x=>e (fa x y))++((List.range h).map fun x=>e (fb x y))=(List.range (h+h)).map fun x=>e (F x y'):=by
 rw[List.range_add,List.map_append,List.map_map]
 congr 1
 ·exact List.map_congr_left fun x hx=>by rw[ha x (List.mem_range.mp hx)]
 ·exact List.map_congr_left fun x hx=>by show _=e (F (h+x) y');rw[hb x (List.mem_range.mp hx)]
theorem cE {xs ys:List D}(h:xs.length+ys.length≤16777216):oExt xs (.lst ys)=.ok (xs++ys):=by unfold oExt;simp[h]
theorem zu {xs:List D}{y:D}(h:xs.length < 16777216):oApp xs y=.ok (xs++[y]):=by unfold oApp;simp[h]
section
variable {α:Type}[DecidableEq α]{e:α→D}
theorem qA {fa fb F:Nat→Nat→α}{h o:Nat}(hh:h≤1000){some_:List D}{u:Nat}(e1:some_[u]?=some (rowsL e fa h h))(e2:some_[u+1]?=some (rowsL e fb h h))(ha:∀ x y,x < h→y < h→F x (o+y)=fa x y)(hb:∀ x y,x < h→y < h→F (h+x) (o+y)=fb x y){t:Nat→List D→R D}{made:List D}(hm:made.length≤1000) :
  dq t (.lst some_) made (.int (u:Int))=.nx (made++(List.range h).map fun y=>rowL e F (h+h) (o+y)):=by
 have i1:=ixL e1
 have i2:dIx (.lst some_) (.int ((u:Int)+1))=.ok (rowsL e fb h h):=by have:=ixL e2;rw[show ((u+1:Nat):Int)=(u:Int)+1 by omega]at this;exact this
 have hl:dLen [rowsL e fa h h]=.ok (.int (h:Int)):=by unfold rowsL;rw[lK,List.length_map,List.length_range]
 have hc:cMap (fun B2=>((dIx (.lst some_) (.int (u:Int))).bind fun x2=>dIx x2 B2).bind fun x3=>(((dAdd (.int (u:Int)) (.int 1)).bind fun x4=>dIx (.lst some_) x4).bind fun x5=>dIx x5 B2).bind fun x6=>dAdd x3 x6) ((List.range h).map fun i=>D.int ((i:Nat):Int))=.ok (.lst ((List.range h).map fun y=>rowL e F (h+h) (o+y))) :=
  aU _ _ fun y hy=>by
   have hy:=List.mem_range.mp hy
   rw[i1]
   simp only[STP,if_true,if_false,ite_true,ite_false,reduceIte,reduceCtorEq,OPP,i2,xG hy]
   unfold rowL
   rw[catL (by simp;omega),xH (F:=F) (y':=o+y) (fun x hx=>ha x y hx hy) (fun x hx=>hb x y hx hy)]
 unfold dq
 rw[i1]
 simp only[STP,if_true,if_false,ite_true,ite_false,reduceIte,reduceCtorEq,hl,fi (show h≤16777216 by omega)]
 rw[i1]at hc
 simp only[STP,if_true,if_false,ite_true,ite_false,reduceIte,reduceCtorEq]at hc
 simp only[STP,if_true,if_false,ite_true,ite_false,reduceIte,reduceCtorEq,hc]
 rw[cE (by simp;omega)]
 rfl
theorem dA (E:En e):∀ (s:Nat) (t:Q α) (n:Nat),s≤3→t.dep≤s→s+1≤n→pf n F.ay [.int (s:Int),t.d e]=.ok (rowsL e (t.at s) (2^s) (2^s))
 | 0,t,n,_,hd,hn=>by
  obtain⟨n,rfl,hn⟩:=ex1 (show 0+1≤n by omega)
  rw[iH,cB,show ((0:Nat):Int)=0 from rfl]
  simp only[STP,if_true,if_false,ite_true,ite_false,reduceIte,reduceCtorEq,OPP,decide_true]
  cases t with
  | lf a=>rfl
  | nd=>simp[Q.dep]at hd
 | s+1,t,n,h3,hd,hn=>by
  obtain⟨n,rfl,hn⟩:=ex1 (show s+1+1≤n by omega)
  have e0:¬ (((s+1:Nat):Int)=0):=by omega
  have e1:((s+1:Nat):Int) - 1=(s:Int):=by omega
  have h8:=p8 (show s≤3 by omega)
  obtain⟨a,b,c,d,hq,ha,hb,hc,hd4,hF⟩:∃ a b c d:Q α,(rIf (asB (dIsA qTup (t.d e))) (.ok (t.d e)) (dMul (.tup [t.d e]) (.int 4)))=.ok (.tup [a.d e,b.d e,c.d e,d.d e])∧a.dep≤s∧b.dep≤s∧c.dep≤s∧d.dep≤s∧∀ x y,t.at (s+1) x y=(Q.nd a b c d).at (s+1) x y:=by
   cases t with
   | lf v =>
    refine⟨.lf v,.lf v,.lf v,.lf v,?_,Nat.zero_le _,Nat.zero_le _,Nat.zero_le _,Nat.zero_le _,fun x y=>by simp[Q.at]⟩
    rw[dz (d:=Q.d e (.lf v)) (E.tup v) (cD (E.gd 0 v))]
    rfl
   | nd a b c d =>
    have hd':1+max (max a.dep b.dep) (max c.dep d.dep)≤s+1:=hd
    exact⟨a,b,c,d,rfl,by omega,by omega,by omega,by omega,fun _ _=>rfl⟩
  have ka:=dA E s a n (by omega) ha (by omega)
  have kb:=dA E s b n (by omega) hb (by omega)
  have kc:=dA E s c n (by omega) hc (by omega)
  have kd:=dA E s d n (by omega) hd4 (by omega)
  have hm:cMap (fun Cj=>(dSub (.int ((s+1:Nat):Int)) (.int 1)).bind fun x=>pf n F.ay [x,Cj]) [a.d e,b.d e,c.d e,d.d e]=.ok (.lst [rowsL e (a.at s) (2^s) (2^s),rowsL e (b.at s) (2^s) (2^s),rowsL e (c.at s) (2^s) (2^s),rowsL e (d.at s) (2^s) (2^s)]):=by
   rw[iN,e1];exact cMap4 ka kb kc kd
  have u1:=qA (e:=e) (fa:=a.at s) (fb:=b.at s) (F:=t.at (s+1)) (h:=2^s) (o:=0) (by omega) (some_:=[rowsL e (a.at s) (2^s) (2^s),rowsL e (b.at s) (2^s) (2^s),rowsL e (c.at s) (2^s) (2^s),rowsL e (d.at s) (2^s) (2^s)]) (u:=0) rfl rfl
   (fun x y hx hy=>by rw[hF,Q.at,if_pos (by omega),if_pos hx,Nat.zero_add]) (fun x y hx hy=>by rw[hF,Q.at,if_pos (by omega),if_neg (by omega),Nat.zero_add,Nat.add_sub_cancel_left]) (t:=pf n) (made:=[]) (by simp)
  have u2:=qA (e:=e) (fa:=c.at s) (fb:=d.at s) (F:=t.at (s+1)) (h:=2^s) (o:=2^s) (by omega) (some_:=[rowsL e (a.at s) (2^s) (2^s),rowsL e (b.at s) (2^s) (2^s),rowsL e (c.at s) (2^s) (2^s),rowsL e (d.at s) (2^s) (2^s)]) (u:=2) rfl rfl
   (fun x y hx hy=>by rw[hF,Q.at,if_neg (by omega),if_pos hx,Nat.add_sub_cancel_left]) (fun x y hx hy=>by rw[hF,Q.at,if_neg (by omega),if_neg (by omega),Nat.add_sub_cancel_left,Nat.add_sub_cancel_left]) (t:=pf n) (made:=(List.range (2^s)).map fun y=>rowL e (t.at (s+1)) (2^s+2^s) (0+y)) (by simp;omega)
  rw[iH,cB,hq]
  have hs2:sq (.tup [(.int 0),(.int 2)])=.ok [.int 0,.int 2]:=rfl
  rw[show ((0:Nat):Int)=0 from rfl]at u1
  rw[show ((2:Nat):Int)=2 from rfl]at u2
  simp only[STP,if_true,if_false,ite_true,ite_false,reduceIte,reduceCtorEq,OPP,decide_eq_false e0,sq4,e1,hs2,aP,wD]at hm ⊢
  simp only[STP,if_true,if_false,ite_true,ite_false,reduceIte,reduceCtorEq,hm,u1,List.nil_append]at u2 ⊢
  simp only[STP,if_true,if_false,ite_true,ite_false,reduceIte,reduceCtorEq,u2]
  unfold rowsL
  rw[br,List.range_add,List.map_append,List.map_map]
  simp[Function.comp_def]
end
theorem Pc.lrows {sz:Nat}{t:Q Int}(p:Pc sz t){n:Nat}(hn:5≤n):pf n F.a9 [picD sz t]=.ok (rowsT .int (t.at sz) (2^sz) (2^sz)):=by
 obtain⟨n,rfl,hn⟩:=ex1 (show 4+1≤n by omega)
 have h3:=p.h3
 have h8:=p8 h3
 have e1:=dA En.int sz t n h3 p.dep (by omega)
 have hsq:sq (rowsL .int (t.at sz) (2^sz) (2^sz))=.ok ((List.range (2^sz)).map fun y=>rowL .int (t.at sz) (2^sz) y):=bh (by simp;omega)
 have hm:cMap (fun Ck=>dTuple [Ck]) ((List.range (2^sz)).map fun y=>rowL .int (t.at sz) (2^sz) y)=.ok (.lst ((List.range (2^sz)).map fun y=>rowT .int (t.at sz) (2^sz) y)):=aU _ _ fun y _=>rfl
 rw[u8,iC]
 unfold picD
 simp only[STP,if_true,if_false,ite_true,ite_false,reduceIte,reduceCtorEq,OPP,e1,hsq,hm]
 rfl
theorem qB {α:Type}(c:α→D){step:List D→D→L (List D)}(g:α→List D)(m:Nat):∀ (l:List α) (acc:List D),(∀ a∈l,∀ acc:List D,acc.length≤10000→step acc (c a)=.nx (acc++g a))→(∀ a∈l,(g a).length≤m)→acc.length+l.length*m≤10000→lFor step (l.map c) acc=.nx (acc++l.flatMap g)
 | [],acc,_,_,_=>by simp
 | a::l,acc,h,hm,hl=>by
  have hl':acc.length+(l.length+1)*m≤10000:=hl
  rw[Nat.add_mul]at hl'
  have ha:=hm a (.head _)
  rw[List.map_cons,aP,h a (.head _) acc (by omega),aV,qB c g m l (acc++g a) (fun b hb=>h b (.tail _ hb)) (fun b hb=>hm b (.tail _ hb)) (by rw[List.length_append];omega),List.flatMap_cons,List.append_assoc]
theorem hI:∀ is:List Int,intsOf (is.map .int)=some is
 | []=>rfl
 | i::r=>by rw[List.map_cons,intsOf,hI r];rfl
section
variable {sz:Nat}{tr:Q Int}
end
section
variable {sz:Nat}{tr:Q Int}
theorem gD (is:List Int):dSum [.lst (is.map .int)]=.ok (.int (sumI is)):=by unfold dSum;simp only[hI]
end
theorem bu (a:Int)(l:List Int):sumI (a::l)=a+sumI l:=by
 have:∀ (l:List Int) (c:Int),l.foldl (· + ·) c=c+l.foldl (· + ·) 0:=by
  intro l
  induction l with
  | nil=>intro c;simp
  | cons x l ih=>intro c;rw[List.foldl_cons,ih,List.foldl_cons,ih (0+x)];omega
 unfold sumI
 rw[List.foldl_cons,this];omega
theorem vD {a b:List Int}(h:a.Perm b):sumI a=sumI b:=by
 induction h with
 | nil=>rfl
 | cons x _ ih=>rw[bu,bu,ih]
 | swap x y l=>rw[bu,bu,bu,bu];omega
 | trans _ _ h1 h2=>rw[h1,h2]
theorem jY {α τ:Type}(f:τ→α→L τ):∀ (xs ys:List α) (s:τ),lFor f (xs++ys) s=lS (lFor f xs s) fun s'=>lFor f ys s'
 | [],ys,s=>rfl
 | x::xs,ys,s=>by
  rw[List.cons_append,aP,aP]
  cases f s x with
  | nx s'=>exact jY f xs ys s'
  | rt d=>rfl
  | er k=>rfl
  | stuck=>rfl
theorem qC {α τ:Type}{f:τ→α→L τ}(c:Nat→α)(inv:Nat→τ):∀ n,(∀ i,i < n→f (inv i) (c i)=.nx (inv (i+1)))→lFor f ((List.range n).map c) (inv 0)=.nx (inv n)
 | 0,_=>rfl
 | n+1,h=>by
  rw[List.range_succ,List.map_append,jY,qC c inv n fun i hi=>h i (by omega),aV,List.map_cons,List.map_nil,aP,h n (by omega)]
  rfl
theorem qD {α:Type}{f:Unit→α→L Unit}:∀ (l:List α),(∀ a∈l,f () a=.nx ())→lFor f l ()=.nx ()
 | [],_=>rfl
 | a::l,h=>by rw[aP,h a (.head _),aV];exact qD l fun b hb=>h b (.tail _ hb)
theorem qE {a b:Nat}(h:a≤b)(hb:b≤1000000):rng2 [.int (a:Int),.int (b:Int)]=.ok ((List.range (b - a)).map fun i=>D.int (((a+i:Nat)):Int)):=by
 show (if (-16777216≤(a:Int)∧(a:Int)≤16777216)∧(-16777216≤(b:Int)∧(b:Int)≤16777216)∧(b:Int) - (a:Int)≤16777216 then R.ok (rngD (a:Int) ((b:Int) - (a:Int)).toNat) else R.stuck)=_
 rw[if_pos ⟨by omega,by omega,by omega⟩]
 unfold rngD
 rw[show ((b:Int) - (a:Int)).toNat=b - a by omega]
 congr 1
structure Sh (sz:Nat)(g:Nat→Nat→Int)(t:Q Int):Prop where
 p:Pc sz t
 w:∀ x y,x < 2^sz→y < 2^sz→t.at sz x y=g x y
theorem Sh.wo {sz:Nat}{g:Nat→Nat→Int}{t:Q Int}(h:Sh sz g t):Wo g sz:=fun x y hx hy=>by rw[← h.w x y hx hy];exact h.p.at x y
theorem sh_T {sz:Nat}{g:Nat→Nat→Int}(h3:sz≤3)(h:Wo g sz):Sh sz g (T g sz):=⟨pc_T h3 h,fun x y hx hy=>T_at sz g x y hx hy⟩
theorem Pc.sh {sz:Nat}{t:Q Int}(p:Pc sz t):Sh sz (t.at sz) t:=⟨p,fun _ _ _ _=>rfl⟩
section
variable {sz:Nat}{g:Nat→Nat→Int}{t:Q Int}
theorem Sh.lean (q:Sh sz g t){n:Nat}(hn:10≤n):pf n F.aZ [picD sz t]=.ok (picD sz (T g sz)):=by rw[q.p.lean hn,aH sz _ _ q.w]
theorem Sh.rows (q:Sh sz g t){n:Nat}(hn:10≤n):pf n F.aB [picD sz t]=.ok (rowsT .int g (2^sz) (2^sz)):=by rw[q.p.rows hn,jX q.w]
theorem Sh.lrows (q:Sh sz g t){n:Nat}(hn:5≤n):pf n F.a9 [picD sz t]=.ok (rowsT .int g (2^sz) (2^sz)):=by rw[q.p.lrows hn,jX q.w]
theorem Sh.worth (q:Sh sz g t){n:Nat}(hn:10≤n){x y:Nat}(hx:x < 2^sz)(hy:y < 2^sz):pf n F.au [picD sz t,.int (x:Int),.int (y:Int)]=.ok (.int (g x y)):=by rw[q.p.worth hn hx hy,q.w x y hx hy]
end
theorem se {n:Nat}(hn:3≤n){d:D}(h:noX d=true):pf n F.av [d]=if inTo 9 d=true then .ok .non else .err 1:=by
 obtain⟨n,rfl,hn⟩:=ex1 (show 2+1≤n by omega)
 rw[k7,cr,fR (by omega) h]
 cases inTo 9 d<;>rfl
section
variable {sz:Nat}{g:Nat→Nat→Int}{t:Q Int}
end
theorem dB {x:D}(h:good 60 x=true):dNf x x=.ok (.bl false):=by rw[xw h h,FF.ic 60 x h];rfl
theorem xI {x:D}(h:good 60 x=true):dEq x x=.ok (.bl true):=by rw[lM h h,FF.ic 60 x h]
theorem Pc.g60 {sz:Nat}{t:Q Int}(p:Pc sz t):FF.good 60 (picD sz t)=true:=gA p.good (by decide)
def th (w:Nat):Nat→D→Bool
 | n+1,.tup xs=>decide (xs.length≤w)&&xs.all (th w n)
 | 0,.tup _=>false
 | _,.lst xs=>decide (xs.length≤w)&&xs.all flatD
 | _,.exc _=>false
 | _,.fn _=>false
 | _,.tab _ _=>false
 | _,.dic _ _=>false
 | _,.ptr _=>false
 | _,_=>true
def kid (xs:List D)(i:Nat):D:=xs[i]?.getD .non
theorem xJ {w n:Nat}{xs:List D}:th w (n+1) (.tup xs)=true↔xs.length≤w∧∀ x∈xs,th w n x=true:=by
 rw[th,Bool.and_eq_true,decide_eq_true_eq,List.all_eq_true]
theorem xK {w n:Nat}{d:D}(h:th w n d=true):noX d=true:=by
 cases d<;>first | rfl | (cases n<;>simp[th]at h)
def there:D→List Nat→D
 | d,[]=>d
 | .tup xs,i::p=>there (kid xs i) p
 | d,_::_=>d
section
variable {α:Type}[DecidableEq α]
theorem jZ (n:Nat)(t:Q α){x y:Nat}(hx:x < 2^n)(hy:y < 2^n):t.at (n+1) x y=t.qs.1.at n x y∧t.at (n+1) (x+2^n) y=t.qs.2.1.at n x y∧t.at (n+1) x (y+2^n)=t.qs.2.2.1.at n x y∧t.at (n+1) (x+2^n) (y+2^n)=t.qs.2.2.2.at n x y:=by
 cases t with
 | lf a=>simp[Q.qs]
 | nd a b c d =>
  have e1:¬ (x+2^n < 2^n):=by omega
  have e2:¬ (y+2^n < 2^n):=by omega
  simp only[Q.at,Q.qs,if_pos hx,if_pos hy,if_neg e1,if_neg e2,Nat.add_sub_cancel]
  exact⟨trivial,trivial,trivial,trivial⟩
theorem BA {β γ:Type}[DecidableEq β][DecidableEq γ](f:α→β→γ)(n:Nat)(t:Q α)(u:Q β):T (fun x y=>f (t.at (n+1) x y) (u.at (n+1) x y)) (n+1) =
  put4 (T (fun x y=>f (t.qs.1.at n x y) (u.qs.1.at n x y)) n) (T (fun x y=>f (t.qs.2.1.at n x y) (u.qs.2.1.at n x y)) n) (T (fun x y=>f (t.qs.2.2.1.at n x y) (u.qs.2.2.1.at n x y)) n) (T (fun x y=>f (t.qs.2.2.2.at n x y) (u.qs.2.2.2.at n x y)) n):=by
 rw[T]
 congr 1
 ·exact aH n _ _ fun x y hx hy=>by rw[(jZ n t hx hy).1,(jZ n u hx hy).1]
 ·exact aH n _ _ fun x y hx hy=>by show f (t.at (n+1) (x+2^n) y) (u.at (n+1) (x+2^n) y)=_;rw[(jZ n t hx hy).2.1,(jZ n u hx hy).2.1]
 ·exact aH n _ _ fun x y hx hy=>by show f (t.at (n+1) x (y+2^n)) (u.at (n+1) x (y+2^n))=_;rw[(jZ n t hx hy).2.2.1,(jZ n u hx hy).2.2.1]
 ·exact aH n _ _ fun x y hx hy=>by show f (t.at (n+1) (x+2^n) (y+2^n)) (u.at (n+1) (x+2^n) (y+2^n))=_;rw[(jZ n t hx hy).2.2.2,(jZ n u hx hy).2.2.2]
end
section
variable {sz:Nat}{r:PySem.Str}{i:Nat}{f:Int→Int→Int}
variable {g g':Nat→Nat→Int}{t t':Q Int}
end
def sel {β:Type}(k:Nat)(a b c d:β):β:=match k with
 | 0=>a
 | 1=>b
 | 2=>c
 | _=>d
section
variable {α:Type}[DecidableEq α]
def Q.mv (p q r s:Nat):Q α→Q α
 | .lf v=>.lf v
 | .nd a b c d=>.nd (sel p (a.mv p q r s) (b.mv p q r s) (c.mv p q r s) (d.mv p q r s)) (sel q (a.mv p q r s) (b.mv p q r s) (c.mv p q r s) (d.mv p q r s)) (sel r (a.mv p q r s) (b.mv p q r s) (c.mv p q r s) (d.mv p q r s)) (sel s (a.mv p q r s) (b.mv p q r s) (c.mv p q r s) (d.mv p q r s))
theorem tM {p q r s:Nat}{t:Q α}{v:α}:t.mv p q r s=.lf v↔t=.lf v:=by cases t<;>simp[Q.mv]
theorem qF (a b c d:Q α):(∃ v,a=.lf v∧b=.lf v∧c=.lf v∧d=.lf v)∨put4 a b c d=.nd a b c d:=by
 unfold put4
 split
 ·split
  ·rename_i h2;exact .inl ⟨_,rfl,h2⟩
  ·exact .inr rfl
 ·exact .inr rfl
structure Odr (p q r s:Nat)(m:Nat→(Nat→Nat→Int)→Nat→Nat→Int):Prop where
 lt:p < 4∧q < 4∧r < 4∧s < 4
 all:∀ k,k < 4→k=p∨k=q∨k=r∨k=s
 one:∀ g:Nat→Nat→Int,m 1 g 0 0=g 0 0
 loc:∀ (n:Nat) (g:Nat→Nat→Int) (x y:Nat),x < n→y < n→∃ x' y',x' < n∧y' < n∧∀ g':Nat→Nat→Int,m n g' x y=g' x' y'
 q0:∀ (h:Nat) (g:Nat→Nat→Int) (x y:Nat),x < h→y < h→m (h+h) g x y=m h (sel p g (sh g h 0) (sh g 0 h) (sh g h h)) x y
 q1:∀ (h:Nat) (g:Nat→Nat→Int) (x y:Nat),x < h→y < h→m (h+h) g (x+h) y=m h (sel q g (sh g h 0) (sh g 0 h) (sh g h h)) x y
 q2:∀ (h:Nat) (g:Nat→Nat→Int) (x y:Nat),x < h→y < h→m (h+h) g x (y+h)=m h (sel r g (sh g h 0) (sh g 0 h) (sh g h h)) x y
 q3:∀ (h:Nat) (g:Nat→Nat→Int) (x y:Nat),x < h→y < h→m (h+h) g (x+h) (y+h)=m h (sel s g (sh g h 0) (sh g 0 h) (sh g h h)) x y
theorem sel4 {k:Nat}(h:k < 4):k=0∨k=1∨k=2∨k=3:=by omega
theorem zv {p q r s:Nat}{m:Nat→(Nat→Nat→Int)→Nat→Nat→Int}(o:Odr p q r s m)(a b c d:Q Int):(put4 a b c d).mv p q r s=put4 (sel p (a.mv p q r s) (b.mv p q r s) (c.mv p q r s) (d.mv p q r s)) (sel q (a.mv p q r s) (b.mv p q r s) (c.mv p q r s) (d.mv p q r s)) (sel r (a.mv p q r s) (b.mv p q r s) (c.mv p q r s) (d.mv p q r s)) (sel s (a.mv p q r s) (b.mv p q r s) (c.mv p q r s) (d.mv p q r s)):=by
 rcases qF a b c d with ⟨v,rfl,rfl,rfl,rfl⟩ | h
 ·have e:∀ k,sel k ((Q.lf v:Q Int).mv p q r s) ((Q.lf v).mv p q r s) ((Q.lf v).mv p q r s) ((Q.lf v).mv p q r s)=.lf v:=fun k=>by unfold sel;split<;>rfl
  rw[gz,e,e,e,e,gz];rfl
 ·rw[h]
  rcases qF (sel p (a.mv p q r s) (b.mv p q r s) (c.mv p q r s) (d.mv p q r s)) (sel q (a.mv p q r s) (b.mv p q r s) (c.mv p q r s) (d.mv p q r s)) (sel r (a.mv p q r s) (b.mv p q r s) (c.mv p q r s) (d.mv p q r s)) (sel s (a.mv p q r s) (b.mv p q r s) (c.mv p q r s) (d.mv p q r s)) with ⟨v,h0,h1,h2,h3⟩ | h'
  ·have al:∀ k,k < 4→sel k (a.mv p q r s) (b.mv p q r s) (c.mv p q r s) (d.mv p q r s)=.lf v:=fun k hk=>by
    rcases o.all k hk with h | h | h | h
    ·rw[h];exact h0
    ·rw[h];exact h1
    ·rw[h];exact h2
    ·rw[h];exact h3
   have ea:=tM.1 (al 0 (by omega));have eb:=tM.1 (al 1 (by omega));have ec:=tM.1 (al 2 (by omega));have ed:=tM.1 (al 3 (by omega))
   rw[ea,eb,ec,ed,gz]at h
   cases h
  ·rw[h'];rfl
theorem mv_T {p q r s:Nat}{m:Nat→(Nat→Nat→Int)→Nat→Nat→Int}(o:Odr p q r s m):∀ (n:Nat) (g:Nat→Nat→Int),(T g n).mv p q r s=T (m (2^n) g) n
 | 0,g=>by show (Q.lf (g 0 0)).mv p q r s=Q.lf (m 1 g 0 0);rw[o.one];rfl
 | n+1,g=>by
  rw[T,zv o,T,br]
  have e:∀ k,k < 4→sel k ((T g n).mv p q r s) ((T (sh g (2^n) 0) n).mv p q r s) ((T (sh g 0 (2^n)) n).mv p q r s) ((T (sh g (2^n) (2^n)) n).mv p q r s)=T (m (2^n) (sel k g (sh g (2^n) 0) (sh g 0 (2^n)) (sh g (2^n) (2^n)))) n:=fun k hk=>by
   rcases sel4 hk with rfl | rfl | rfl | rfl<;>exact mv_T o n _
  rw[e p o.lt.1,e q o.lt.2.1,e r o.lt.2.2.1,e s o.lt.2.2.2]
  congr 1
  ·exact aH n _ _ fun x y hx hy=>(o.q0 _ g x y hx hy).symm
  ·exact aH n _ _ fun x y hx hy=>(o.q1 _ g x y hx hy).symm
  ·exact aH n _ _ fun x y hx hy=>(o.q2 _ g x y hx hy).symm
  ·exact aH n _ _ fun x y hx hy=>(o.q3 _ g x y hx hy).symm
end
def mTurn (s:Nat)(g:Nat→Nat→Int):Nat→Nat→Int:=fun x y=>g y (s - 1 - x)
def mMirr (s:Nat)(g:Nat→Nat→Int):Nat→Nat→Int:=fun x y=>g (s - 1 - x) y
def mSwap (s:Nat)(g:Nat→Nat→Int):Nat→Nat→Int:=fun x y=>g y x
theorem xL:Odr 2 0 3 1 mTurn:=⟨by decide,by decide,fun g=>rfl,fun n g x y hx hy=>⟨y,n - 1 - x,hy,by omega,fun _=>rfl⟩,
 fun h g x y hx hy=>by simp only[mTurn,sel,sh];congr 1<;>omega,fun h g x y hx hy=>by simp only[mTurn,sel,sh];congr 1<;>omega,fun h g x y hx hy=>by simp only[mTurn,sel,sh];congr 1<;>omega,fun h g x y hx hy=>by simp only[mTurn,sel,sh];congr 1<;>omega⟩
theorem sf:Odr 1 0 3 2 mMirr:=⟨by decide,by decide,fun g=>rfl,fun n g x y hx hy=>⟨n - 1 - x,y,by omega,hy,fun _=>rfl⟩,
 fun h g x y hx hy=>by simp only[mMirr,sel,sh];congr 1<;>omega,fun h g x y hx hy=>by simp only[mMirr,sel,sh];congr 1<;>omega,fun h g x y hx hy=>by simp only[mMirr,sel,sh];congr 1<;>omega,fun h g x y hx hy=>by simp only[mMirr,sel,sh];congr 1<;>omega⟩
theorem xM:Odr 0 2 1 3 mSwap:=⟨by decide,by decide,fun g=>rfl,fun n g x y hx hy=>⟨y,x,hy,hx,fun _=>rfl⟩,
 fun h g x y hx hy=>by simp only[mSwap,sel,sh],fun h g x y hx hy=>by simp only[mSwap,sel,sh];congr 1,fun h g x y hx hy=>by simp only[mSwap,sel,sh];congr 1,fun h g x y hx hy=>by simp only[mSwap,sel,sh]⟩
section
variable {p q r s:Nat}{m:Nat→(Nat→Nat→Int)→Nat→Nat→Int}
theorem xN (a b c d:Int):sq (tupI [a,b,c,d])=.ok [.int a,.int b,.int c,.int d]:=rfl
theorem AN {k:Nat}(h:k < 4)(a b c d:D):dIx (.tup [a,b,c,d]) (.int (k:Int))=.ok (sel k a b c d):=by rcases sel4 h with rfl | rfl | rfl | rfl<;>rfl
theorem fT (o:Odr p q r s m):∀ (n:Nat) (t:Q Int),t.dep+1≤n→pf n F.aj [t.d .int,tupI [(p:Int),(q:Int),(r:Int),(s:Int)]]=.ok ((t.mv p q r s).d .int)
 | 0,t,h=>by omega
 | n+1,.lf v,h=>by rw[gE,bW];simp only[Q.d,STP,if_true,if_false,ite_true,ite_false,reduceIte,reduceCtorEq,OPP];rfl
 | n+1,.nd a b c d,h=>by
  have hd:a.dep+1≤n∧b.dep+1≤n∧c.dep+1≤n∧d.dep+1≤n:=by simp only[Q.dep]at h;omega
  have ha:=fT o n a hd.1;have hb:=fT o n b hd.2.1;have hc:=fT o n c hd.2.2.1;have hdd:=fT o n d hd.2.2.2
  have step:∀ k:Nat,k < 4→((dIx (.tup [a.d .int,b.d .int,c.d .int,d.d .int]) (.int (k:Int))).bind fun x=>pf n F.aj [x,tupI [(p:Int),(q:Int),(r:Int),(s:Int)]])=.ok ((sel k (a.mv p q r s) (b.mv p q r s) (c.mv p q r s) (d.mv p q r s)).d .int):=fun k hk=>by
   rw[AN hk,R.bind_ok]
   rcases sel4 hk with rfl | rfl | rfl | rfl
   ·exact ha
   ·exact hb
   ·exact hc
   ·exact hdd
  rw[gE,bW]
  simp only[Q.d,STP,if_true,if_false,ite_true,ite_false,reduceIte,reduceCtorEq,OPP,xN]
  rw[cMap4 (step p o.lt.1) (step q o.lt.2.1) (step r o.lt.2.2.1) (step s o.lt.2.2.2)]
  rfl
variable {sz:Nat}{g:Nat→Nat→Int}{t:Q Int}
theorem Sh.moved (w:Sh sz g t)(o:Odr p q r s m){n:Nat}(hn:11≤n):pf n F.aG [picD sz t,tupI [(p:Int),(q:Int),(r:Int),(s:Int)]]=.ok (picD sz (T (m (2^sz) g) sz)):=by
 obtain⟨n,rfl⟩:∃ j,n=j+1:=⟨n - 1,by omega⟩
 have e1:=w.lean (n:=n) (by omega)
 have e2:=fT o n (T g sz) (by have:=cC sz g;have:=w.p.h3;omega)
 rw[mv_T o]at e2
 have e3:dIx (picD sz (T g sz)) (.int 0)=.ok (.int (sz:Int)):=rfl
 have e4:dIx (picD sz (T g sz)) (.int 1)=.ok ((T g sz).d .int):=rfl
 rw[xk,kn]
 simp only[STP,if_true,if_false,ite_true,ite_false,reduceIte,reduceCtorEq,e1,e2,e3,e4]
 rfl
theorem Sh.mv (w:Sh sz g t)(o:Odr p q r s m):Sh sz (m (2^sz) g) (T (m (2^sz) g) sz):=sh_T w.p.h3 fun x y hx hy=>by
 obtain⟨x',y',h1,h2,h3⟩:=o.loc (2^sz) g x y hx hy
 rw[h3];exact w.wo x' y' h1 h2
theorem Sh.turned (w:Sh sz g t){n:Nat}(hn:12≤n):pf n F.bd [picD sz t]=.ok (picD sz (T (mTurn (2^sz) g) sz)):=by
 obtain⟨n,rfl⟩:∃ j,n=j+1:=⟨n - 1,by omega⟩
 have h:pf n F.aG [picD sz t,tupI [2,0,3,1]]=_:=w.moved xL (n:=n) (by omega)
 rw[uZ,ir];simp only[STP,if_true,if_false,ite_true,ite_false,reduceIte,reduceCtorEq,h]
theorem Sh.mirrored (w:Sh sz g t){n:Nat}(hn:12≤n):pf n F.a0 [picD sz t]=.ok (picD sz (T (mMirr (2^sz) g) sz)):=by
 obtain⟨n,rfl⟩:∃ j,n=j+1:=⟨n - 1,by omega⟩
 have h:pf n F.aG [picD sz t,tupI [1,0,3,2]]=_:=w.moved sf (n:=n) (by omega)
 rw[pA,eM];simp only[STP,if_true,if_false,ite_true,ite_false,reduceIte,reduceCtorEq,h]
def turns (s:Nat):Nat→(Nat→Nat→Int)→Nat→Nat→Int
 | 0,g=>g
 | k+1,g=>mTurn s (turns s k g)
def mWay (s w:Nat)(g:Nat→Nat→Int):Nat→Nat→Int:=turns s (w%4) (if 4≤w then mMirr s g else g)
theorem iS (w:Sh sz g t):∀ k,∃ t',Sh sz (turns (2^sz) k g) t'
 | 0=>⟨t,w⟩
 | k+1=>by obtain⟨t',h⟩:=iS w k;exact⟨_,h.mv xL⟩
theorem Sh.way_ex (w:Sh sz g t)(k:Nat):∃ t',Sh sz (mWay (2^sz) k g) t':=by
 unfold mWay
 split
 ·exact iS (w.mv sf) _
 ·exact iS w _
theorem Sh.way (w:Sh sz g t)(k:Nat):Sh sz (mWay (2^sz) k g) (T (mWay (2^sz) k g) sz):=by obtain⟨t',h⟩:=w.way_ex k;exact sh_T h.p.h3 h.wo
theorem lQ (w:Sh sz g t){n:Nat}(hn:12≤n):∀ k,lFor (τ:=D) (fun s x=>dL (pf n) s x) ((List.range k).map fun i:Nat=>D.int (i:Int)) (picD sz (T g sz))=.nx (picD sz (T (turns (2^sz) k g) sz)):=fun k =>
 qC (fun i:Nat=>D.int (i:Int)) (fun i=>picD sz (T (turns (2^sz) i g) sz)) k (fun i _=>by
  obtain⟨t',h⟩:=iS w i
  have:=(sh_T h.p.h3 h.wo).turned hn
  show dL (pf n) (picD sz (T (turns (2^sz) i g) sz)) (.int (i:Int))=_
  unfold dL;simp only[STP,if_true,if_false,ite_true,ite_false,reduceIte,reduceCtorEq,this];rfl)
theorem qG {n:Nat}(hn:2≤n){k:Nat}(hk:k < 8):pf n F.aV [.int (k:Int)]=.ok .non:=by
 obtain⟨n,rfl⟩:∃ j,n=j+1:=⟨n - 1,by omega⟩
 have h1:=d6 (n:=n) (by omega) (d:=.int (k:Int)) rfl
 have e:(decide ((0:Int)≤(k:Int))&&decide ((k:Int) < 8))=true:=by simp;omega
 rw[nR,dJ]
 simp only[STP,if_true,if_false,ite_true,ite_false,reduceIte,reduceCtorEq,OPP,h1,e]
 rfl
theorem Sh.byway (w:Sh sz g t){n:Nat}(hn:13≤n){k:Nat}(hk:k < 8):pf n F.bf [picD sz t,.int (k:Int)]=.ok (picD sz (T (mWay (2^sz) k g) sz)):=by
 obtain⟨n,rfl⟩:∃ j,n=j+1:=⟨n - 1,by omega⟩
 have e1:=w.lean (n:=n) (by omega)
 have e2:=qG (n:=n) (by omega) hk
 have s:=sh_T w.p.h3 w.wo
 have e3:=s.mirrored (n:=n) (by omega)
 have e4:(k:Int)%4=((k%4:Nat):Int):=by omega
 have e5:=fi (s:=k%4) (by omega)
 have e6:=lQ w (n:=n) (by omega) (k%4)
 have e7:=lQ (w.mv sf) (n:=n) (by omega) (k%4)
 rw[u3,iu]
 simp only[STP,if_true,if_false,ite_true,ite_false,reduceIte,reduceCtorEq,OPP,e1,e2,b8 (show (0:Int) < 4 by decide),e4,e5]
 by_cases h:4≤k
 ·have d:decide ((4:Int)≤(k:Int))=true:=by simp;omega
  simp only[d,STP,if_true,if_false,ite_true,ite_false,reduceIte,reduceCtorEq,e3,e7,mWay,if_pos h]
 ·have d:decide ((4:Int)≤(k:Int))=false:=by simp;omega
  simp only[d,STP,if_true,if_false,ite_true,ite_false,reduceIte,reduceCtorEq,e6,mWay,if_neg h]
end
def tbAt (tb:List Int)(v:Int):Int:=tb.getD v.toNat 0
def tbD (tb:List Int):D:=.tup (tb.map .int)
structure Tbl (tb:List Int):Prop where
 len:tb.length=10
 w:∀ v∈tb,W9 v
theorem Tbl.at_w {tb:List Int}(h:Tbl tb)(v:Int):W9 (tbAt tb v):=by
 unfold tbAt
 rw[List.getD_eq_getElem?_getD]
 cases e:tb[v.toNat]? with
 | none=>exact⟨by decide,by decide⟩
 | some a=>exact h.w a (List.mem_of_getElem? e)
theorem Tbl.ix {tb:List Int}(h:Tbl tb){v:Int}(hv:W9 v):dIx (tbD tb) (.int v)=.ok (.int (tbAt tb v)):=by
 obtain⟨k,rfl⟩:∃ k:Nat,v=(k:Int):=⟨v.toNat,by have:=hv.1;omega⟩
 have hk:k < tb.length:=by have:=hv.2;rw[h.len];omega
 refine ixT ?_
 unfold tbAt
 rw[List.getElem?_map,List.getD_eq_getElem?_getD,Int.toNat_natCast,List.getElem?_eq_getElem hk];rfl
theorem lR {tb:List Int}(h:Tbl tb):∀ (n m:Nat) (t:Q Int),t.dep≤n→n≤40→t.All W9→n+2≤m→pf m F.aE [tbD tb,t.d .int]=.ok ((T (fun x y=>tbAt tb (t.at n x y)) n).d .int)
 | n,m,.lf v,_,_,hw,hm=>by
  obtain⟨m,rfl,hm⟩:=ex1 (show 0+1≤m by omega)
  have e:T (fun x y=>tbAt tb ((Q.lf v).at n x y)) n=.lf (tbAt tb v):=by
   rw[show (fun x y=>tbAt tb ((Q.lf v).at n x y))=fun _ _=>tbAt tb v from by funext x y;rw[ni]];exact ku _ n
  rw[jU,dn,e]
  simp only[Q.d,STP,if_true,if_false,ite_true,ite_false,reduceIte,reduceCtorEq,OPP,h.ix hw]
 | 0,m,.nd _ _ _ _,hd,_,_,_=>by simp[Q.dep]at hd
 | n+1,m,.nd a b c d,hd,h40,hw,hm=>by
  obtain⟨m,rfl,hm⟩:=ex1 (show n+2+1≤m by omega)
  have hd':a.dep≤n∧b.dep≤n∧c.dep≤n∧d.dep≤n:=by simp only[Q.dep]at hd;omega
  obtain⟨wa,wb,wc,wd⟩:=hw
  have A:=lR h n m a hd'.1 (by omega) wa (by omega);have B:=lR h n m b hd'.2.1 (by omega) wb (by omega);have C:=lR h n m c hd'.2.2.1 (by omega) wc (by omega);have E:=lR h n m d hd'.2.2.2 (by omega) wd (by omega)
  have e:=BA (fun v _=>tbAt tb v) n (.nd a b c d) (.nd a b c d)
  have g:=r8 En.int (n:=m) (by omega) (a:=T (fun x y=>tbAt tb (a.at n x y)) n) (b:=T (fun x y=>tbAt tb (b.at n x y)) n) (c:=T (fun x y=>tbAt tb (c.at n x y)) n) (d:=T (fun x y=>tbAt tb (d.at n x y)) n) (Nat.le_trans (cC n _) (by omega)) (Nat.le_trans (cC n _) (by omega)) (Nat.le_trans (cC n _) (by omega)) (Nat.le_trans (cC n _) (by omega))
  have M:cMap (fun part=>pf m F.aE [tbD tb,part]) [a.d .int,b.d .int,c.d .int,d.d .int]=_:=cMap4 A B C E
  rw[jU,dn,e]
  simp only[Q.d,STP,if_true,if_false,ite_true,ite_false,reduceIte,reduceCtorEq,OPP,sq4,M,g]
  rfl
section
variable {sz:Nat}{g g' g'':Nat→Nat→Int}{t t' t'':Q Int}
theorem Tbl.check {tb:List Int}(h:Tbl tb){n:Nat}(hn:4≤n):pf n F.aH [tbD tb]=.ok .non:=by
 obtain⟨n,rfl,hn⟩:=ex1 (show 3+1≤n by omega)
 obtain⟨n,rfl,hn⟩:=ex1 (show 2+1≤n by omega)
 have e:pf (n+1) F.a4 [tbD tb]=.ok (.bl true):=by
  have s:=lJ (xs:=tb.map .int) (by rw[List.length_map,h.len];decide)
  have c:cMap (fun worth=>pf n F.ac [worth]) (tb.map .int)=.ok (.lst (tb.map fun v=>D.bl (inTo 9 (.int v)))):=aU D.int (fun v=>D.bl (inTo 9 (.int v))) fun v hv=>fR (by omega) rfl
  have a:=fP (fun v:Int=>inTo 9 (.int v)) tb
  have al:tb.all (fun v=>inTo 9 (.int v))=true:=by rw[List.all_eq_true];exact fun v hv=>in9 (h.w v hv)
  rw[al]at a
  rw[pD,eQ,tbD]
  simp only[STP,if_true,if_false,ite_true,ite_false,reduceIte,reduceCtorEq,OPP,List.length_map,h.len,s,c,a]
  rfl
 rw[k9,cw]
 simp only[STP,if_true,if_false,ite_true,ite_false,reduceIte,reduceCtorEq,e]
theorem Sh.led (q:Sh sz g t){tb:List Int}(h:Tbl tb){n:Nat}(hn:10≤n):pf n F.aU [tbD tb,picD sz t]=.ok (picD sz (T (fun x y=>tbAt tb (g x y)) sz)):=by
 obtain⟨n,rfl,hn⟩:=ex1 (show 9+1≤n by omega)
 have h3:=q.p.h3
 have e1:=h.check (n:=n) (by omega)
 have e2:=q.p.check (n:=n) (by omega)
 have e3:=lR h sz n t q.p.dep (by omega) q.p.all (by omega)
 have e4:T (fun x y=>tbAt tb (t.at sz x y)) sz=T (fun x y=>tbAt tb (g x y)) sz:=aH sz _ _ fun x y hx hy=>by rw[q.w x y hx hy]
 rw[e4]at e3
 rw[pE,eR,e1,au,e2,au]
 unfold picD
 simp only[STP,if_true,if_false,ite_true,ite_false,reduceIte,reduceCtorEq,ix20,ix21,e3]
theorem Sh.ledS (q:Sh sz g t){tb:List Int}(h:Tbl tb):Sh sz (fun x y=>tbAt tb (g x y)) (T (fun x y=>tbAt tb (g x y)) sz):=sh_T q.p.h3 fun x y _ _=>h.at_w _
end
section
variable {sz:Nat}{g:Nat→Nat→Int}{t:Q Int}
theorem Sh.swapped (q:Sh sz g t){n:Nat}(hn:12≤n):pf n F.bb [picD sz t]=.ok (picD sz (T (mSwap (2^sz) g) sz)):=by
 obtain⟨n,rfl,hn⟩:=ex1 (show 11+1≤n by omega)
 have e:=q.moved xM (n:=n) (by omega)
 rw[rF,gr]
 have e':pf n F.aG [picD sz t,tupI [0,2,1,3]]=_:=e
 rw[e']
 rfl
end
section
variable {sz:Nat}{g:Nat→Nat→Int}{t:Q Int}
end
structure Bk where
 l:Nat
 t:Nat
 w:Nat
 v:Int
 deriving DecidableEq
def Bk.d (b:Bk):D:=.tup [.int (b.l:Int),.int (b.t:Int),.int (b.w:Int),.int b.v]
abbrev Bk.has (b:Bk)(x y:Nat):Prop:=(b.l≤x∧x < b.l+b.w)∧b.t≤y∧y < b.t+b.w
def bks:Nat→Q Int→Nat→Nat→List Bk
 | n,.lf v,l,t=>[⟨l,t,2^n,v⟩]
 | 0,.nd _ _ _ _,_,_=>[]
 | n+1,.nd a b c d,l,t=>bks n a l t++(bks n b (l+2^n) t++(bks n c l (t+2^n)++bks n d (l+2^n) (t+2^n)))
theorem dC (n:Nat)(v:Int)(l t:Nat):bks n (.lf v) l t=[⟨l,t,2^n,v⟩]:=by cases n<;>rfl
theorem c8:∀ (n:Nat) (q:Q Int) (l t:Nat),(bks n q l t).length≤4^n
 | n,.lf v,l,t=>by rw[dC];exact Nat.one_le_pow _ _ (by decide)
 | 0,.nd _ _ _ _,_,_=>by simp[bks]
 | n+1,.nd a b c d,l,t=>by
  have h1:=c8 n a l t;have h2:=c8 n b (l+2^n) t;have h3:=c8 n c l (t+2^n);have h4:=c8 n d (l+2^n) (t+2^n)
  simp only[bks,List.length_append];rw[Nat.pow_succ];omega
theorem bB:∀ (n:Nat) (q:Q Int) (l t:Nat) {b:Bk},b∈bks n q l t→l≤b.l∧b.l+b.w≤l+2^n∧t≤b.t∧b.t+b.w≤t+2^n∧0 < b.w
 | n,.lf v,l,t,b,h=>by
  rw[dC,List.mem_singleton]at h;subst h
  have:=Nat.two_pow_pos n
  refine⟨Nat.le_refl _,Nat.le_refl _,Nat.le_refl _,Nat.le_refl _,this⟩
 | 0,.nd _ _ _ _,_,_,b,h=>by cases h
 | n+1,.nd a b c d,l,t,k,h=>by
  simp only[bks,List.mem_append]at h
  rw[br]
  rcases h with h | h | h | h<;>(have:=bB n _ _ _ h;omega)
theorem iT:∀ (n:Nat) (q:Q Int) (l t:Nat),q.dep≤n→∀ x y,l≤x→x < l+2^n→t≤y→y < t+2^n→∃ b∈bks n q l t,b.has x y
 | n,.lf v,l,t,_,x,y,h1,h2,h3,h4=>⟨⟨l,t,2^n,v⟩,by rw[dC];simp,⟨h1,h2⟩,h3,h4⟩
 | 0,.nd _ _ _ _,_,_,h,_,_,_,_,_,_=>by simp[Q.dep]at h
 | n+1,.nd a b c d,l,t,h,x,y,h1,h2,h3,h4=>by
  rw[br]at h2 h4
  have hd:a.dep≤n∧b.dep≤n∧c.dep≤n∧d.dep≤n:=by simp only[Q.dep]at h;omega
  by_cases hx:x < l+2^n<;>by_cases hy:y < t+2^n
  ·obtain⟨k,hk,e⟩:=iT n a l t hd.1 x y h1 hx h3 hy
   exact⟨k,by simp only[bks,List.mem_append];exact .inl hk,e⟩
  ·obtain⟨k,hk,e⟩:=iT n c l (t+2^n) hd.2.2.1 x y h1 hx (by omega) (by omega)
   exact⟨k,by simp only[bks,List.mem_append];exact .inr (.inr (.inl hk)),e⟩
  ·obtain⟨k,hk,e⟩:=iT n b (l+2^n) t hd.2.1 x y (by omega) (by omega) h3 hy
   exact⟨k,by simp only[bks,List.mem_append];exact .inr (.inl hk),e⟩
  ·obtain⟨k,hk,e⟩:=iT n d (l+2^n) (t+2^n) hd.2.2.2 x y (by omega) (by omega) (by omega) (by omega)
   exact⟨k,by simp only[bks,List.mem_append];exact .inr (.inr (.inr hk)),e⟩
theorem tN:∀ (n:Nat) (q:Q Int) (l t:Nat) {b c:Bk},b∈bks n q l t→c∈bks n q l t→∀ {x y:Nat},b.has x y→c.has x y→b=c
 | n,.lf v,l,t,b,c,hb,hc,_,_,_,_=>by
  rw[dC,List.mem_singleton]at hb hc;rw[hb,hc]
 | 0,.nd _ _ _ _,_,_,b,_,h,_,_,_,_,_=>by cases h
 | n+1,.nd qa qb qc qd,l,t,b,c,hb,hc,x,y,hx,hy=>by
  simp only[bks,List.mem_append]at hb hc
  have two:=Nat.two_pow_pos n
  rcases hb with hb | hb | hb | hb<;>rcases hc with hc | hc | hc | hc<;>first
   | exact tN n _ _ _ hb hc hx hy
   | (exfalso;have h1:=bB n _ _ _ hb;have h2:=bB n _ _ _ hc;simp only[Bk.has]at hx hy;omega)
theorem xO:∀ (n:Nat) (q:Q Int) (l t:Nat) {b:Bk},b∈bks n q l t→∀ {x y:Nat},b.has x y→q.at n (x - l) (y - t)=b.v
 | n,.lf v,l,t,b,hb,x,y,h=>by rw[dC,List.mem_singleton]at hb;rw[hb,ni]
 | 0,.nd _ _ _ _,_,_,b,h,_,_,_=>by cases h
 | n+1,.nd qa qb qc qd,l,t,b,hb,x,y,h=>by
  simp only[bks,List.mem_append]at hb
  simp only[Bk.has]at h
  rcases hb with hb | hb | hb | hb<;>(have h1:=bB n _ _ _ hb;have h2:=xO n _ _ _ hb (x:=x) (y:=y) h;simp only[Q.at])
  ·rw[if_pos (by omega),if_pos (by omega)];exact h2
  ·rw[if_pos (by omega),if_neg (by omega)];rw[← h2];congr 1<;>omega
  ·rw[if_neg (by omega),if_pos (by omega)];rw[← h2];congr 1<;>omega
  ·rw[if_neg (by omega),if_neg (by omega)];rw[← h2];congr 1<;>omega
theorem Q.isTup_nd (a b c d:Q Int):Q.d D.int (.nd a b c d)=.tup [a.d .int,b.d .int,c.d .int,d.d .int]:=rfl
theorem Q.isTup_lf (v:Int):Q.d D.int (.lf v)=.int v:=rfl
theorem xP {σ:Type}(a b:D)(k:D→D→L σ):lUn2 (.tup [a,b]) k=k a b:=rfl
theorem enum4 (a b c d:D):dEnum (.tup [a,b,c,d])=.ok [.tup [.int 0,a],.tup [.int 1,b],.tup [.int 2,c],.tup [.int 3,d]]:=by
 unfold dEnum;rw[sq4];rfl
theorem cF:∀ (n:Nat) (q:Q Int) (l t:Nat) (k:Nat),n≤3→q.dep≤n→n+1≤k→pf k F.ax [q.d .int,.int (l:Int),.int (t:Int),.int ((2^n:Nat):Int)]=.ok (.lst ((bks n q l t).map Bk.d))
 | n,.lf v,l,t,k+1,_,_,_=>by
  rw[iE,cA,Q.isTup_lf,dC];simp only[STP,if_true,if_false,ite_true,ite_false,reduceIte,reduceCtorEq,OPP];rfl
 | n,.lf v,l,t,0,_,_,h=>by omega
 | 0,.nd _ _ _ _,_,_,_,_,h,_=>by simp[Q.dep]at h
 | n+1,.nd a b c d,l,t,k,h3,hd,hk=>by
  obtain⟨k,rfl⟩:∃ j,k=j+1:=⟨k - 1,by omega⟩
  have hd':a.dep≤n∧b.dep≤n∧c.dep≤n∧d.dep≤n:=by simp only[Q.dep]at hd;omega
  have e2:((2^(n+1):Nat):Int)/2=((2^n:Nat):Int):=by rw[br];omega
  have hlt:((2^n:Nat):Int) < 2^64:=by
   have:n=0∨n=1∨n=2:=by omega
   rcases this with h | h | h<;>subst h<;>decide
  have A:=cF n a l t k (by omega) hd'.1 (by omega)
  have B:=cF n b (l+2^n) t k (by omega) hd'.2.1 (by omega)
  have C:=cF n c l (t+2^n) k (by omega) hd'.2.2.1 (by omega)
  have E:=cF n d (l+2^n) (t+2^n) k (by omega) hd'.2.2.2 (by omega)
  have lA:=c8 n a l t;have lB':=c8 n b (l+2^n) t;have lC:=c8 n c l (t+2^n);have lD:=c8 n d (l+2^n) (t+2^n)
  have l64:4^n≤16:=by
   have:n=0∨n=1∨n=2:=by omega
   rcases this with h | h | h<;>subst h<;>decide
  have hp:0≤((2^n:Nat):Int):=Int.natCast_nonneg _
  have m0:dMul (.int 0) (.int ((2^n:Nat):Int))=.ok (.int 0):=by rw[bi (.inr (by omega))];simp
  have m1:dMul (.int 1) (.int ((2^n:Nat):Int))=.ok (.int ((2^n:Nat):Int)):=by rw[bi (.inr (by omega))];simp
  rw[Int.natCast_add]at B C E
  rw[Int.natCast_add]at E
  rw[iE,cA,Q.isTup_nd]
  simp only[STP,if_true,if_false,ite_true,ite_false,reduceIte,reduceCtorEq,OPP,lL (show (0:Int) < 2 by decide) (by decide),e2,enum4,lFor,xP,fC,b8 (show (0:Int) < 2 by decide),show (0:Int)%2=0 from rfl,show (1:Int)%2=1 from rfl,show (2:Int)%2=0 from rfl,show (3:Int)%2=1 from rfl,show (0:Int)/2=0 from rfl,show (1:Int)/2=0 from rfl,show (2:Int)/2=1 from rfl,show (3:Int)/2=1 from rfl,m0,m1,Int.add_zero,A,B,C,E]
  rw[cE (by simp;omega)]
  simp only[STP,if_true,if_false,ite_true,ite_false,reduceIte,reduceCtorEq]
  rw[cE (by simp;omega)]
  simp only[STP,if_true,if_false,ite_true,ite_false,reduceIte,reduceCtorEq]
  rw[cE (by simp;omega)]
  simp only[STP,if_true,if_false,ite_true,ite_false,reduceIte,reduceCtorEq]
  rw[cE (by simp;omega)]
  simp only[STP,if_true,if_false,ite_true,ite_false,reduceIte,reduceCtorEq]
  rw[bks]
  simp only[List.map_append,List.nil_append,List.append_assoc]
section
variable {sz:Nat}{g:Nat→Nat→Int}{t:Q Int}
def bs (sz:Nat)(g:Nat→Nat→Int):List Bk:=bks sz (T g sz) 0 0
theorem jM (h:sz≤3)(g:Nat→Nat→Int):(bs sz g).length≤64:=by
 have h1:=c8 sz (T g sz) 0 0
 have:4^sz≤64:=by
  have:sz=0∨sz=1∨sz=2∨sz=3:=by omega
  rcases this with h | h | h | h<;>subst h<;>decide
 unfold bs;omega
theorem fk {b:Bk}(h:b∈bs sz g):b.l+b.w≤2^sz∧b.t+b.w≤2^sz∧0 < b.w:=by have:=bB sz _ 0 0 h;omega
theorem om {b c:Bk}(hb:b∈bs sz g)(hc:c∈bs sz g){x y:Nat}(h1:b.has x y)(h2:c.has x y):b=c:=tN sz _ 0 0 hb hc h1 h2
theorem si {x y:Nat}(hx:x < 2^sz)(hy:y < 2^sz):∃ b∈bs sz g,b.has x y:=iT sz _ 0 0 (cC _ _) x y (by omega) (by omega) (by omega) (by omega)
theorem Sh.blocks (q:Sh sz g t){n:Nat}(hn:11≤n):pf n F.a6 [picD sz t]=.ok (.lst ((bs sz g).map Bk.d)):=by
 obtain⟨n,rfl⟩:∃ j,n=j+1:=⟨n - 1,by omega⟩
 have h1:=q.lean (n:=n) (by omega)
 have h2:=q.p.side (n:=n) (by omega)
 have h3:=cF sz (T g sz) 0 0 n q.p.h3 (cC _ _) (by have:=q.p.h3;omega)
 rw[uX,ip]
 have h3':pf n F.ax [(T g sz).d .int,.int 0,.int 0,.int ((2^sz:Nat):Int)]=.ok (.lst ((bs sz g).map Bk.d)):=h3
 have h1':dIx (picD sz (T g sz)) (.int 1)=.ok ((T g sz).d .int):=rfl
 simp only[STP,if_true,if_false,ite_true,ite_false,reduceIte,reduceCtorEq,h1,h1',h2,h3']
theorem sj {n:Nat}(hn:1≤n)(b:Bk)(x y:Nat):pf n F.a3 [b.d,.int (x:Int),.int (y:Int)]=.ok (.bl (decide (b.has x y))):=by
 obtain⟨n,rfl⟩:∃ j,n=j+1:=⟨n - 1,by omega⟩
 rw[pz,eL,Bk.d]
 simp only[STP,if_true,if_false,ite_true,ite_false,reduceIte,reduceCtorEq,OPP]
 simp only[Bk.has]
 congr 2
 rw[← Bool.decide_and,← Bool.decide_and,← Bool.decide_and]
 apply decide_eq_decide.2;omega
theorem qH {c:D→R Bool}(p:Bk→Bool){l:List Bk}(h:∀ b∈l,c b.d=.ok (p b)):cFil c (fun x=>.ok x) (l.map Bk.d)=.ok (.lst ((l.filter p).map Bk.d)) :=
 iM Bk.d Bk.d p fun a ha=>⟨h a ha,fun _=>rfl⟩
theorem on {α:Type}{p:α→Bool}{l:List α}{m:α}(hm:m∈l)(hp:p m=true)(hu:∀ a∈l,p a=true→a=m):∃ r,l.filter p=m::r:=by
 cases hf:l.filter p with
 | nil=>exact absurd (List.mem_filter.2 ⟨hm,hp⟩) (by rw[hf];simp)
 | cons a r =>
  have:a∈l.filter p:=by rw[hf];exact .head _
  have:=List.mem_filter.1 this
  exact⟨r,by rw[hu a this.1 this.2]⟩
def Bk.beside (a b:Bk):Prop:=((a.l+a.w=b.l∨b.l+b.w=a.l)∧a.t < b.t+b.w∧b.t < a.t+a.w)∨((a.t+a.w=b.t∨b.t+b.w=a.t)∧a.l < b.l+b.w∧b.l < a.l+a.w)
instance (a b:Bk):Decidable (a.beside b):=by unfold Bk.beside;infer_instance
theorem vE {n:Nat}(hn:2≤n)(a b:Bk):pf n F.aR [a.d,b.d]=.ok (.bl (decide (a.beside b))):=by
 obtain⟨n,rfl⟩:∃ j,n=j+2:=⟨n - 2,by omega⟩
 have m0:pf (n+1) F.bc [a.d,b.d,.int 0]=.ok (.bl (decide (a.l+a.w=b.l∨b.l+b.w=a.l))):=by
  rw[ti,kY,Bk.d,Bk.d];simp only[STP,if_true,if_false,ite_true,ite_false,reduceIte,reduceCtorEq,OPP];congr 2
  rw[← Bool.decide_or];apply decide_eq_decide.2;omega
 have m1:pf (n+1) F.bc [a.d,b.d,.int 1]=.ok (.bl (decide (a.t+a.w=b.t∨b.t+b.w=a.t))):=by
  rw[ti,kY,Bk.d,Bk.d];simp only[STP,if_true,if_false,ite_true,ite_false,reduceIte,reduceCtorEq,OPP];congr 2
  rw[← Bool.decide_or];apply decide_eq_decide.2;omega
 have o0:pf (n+1) F.aJ [a.d,b.d,.int 0]=.ok (.bl (decide (a.l < b.l+b.w∧b.l < a.l+a.w))):=by
  rw[k8,d4,Bk.d,Bk.d];simp only[STP,if_true,if_false,ite_true,ite_false,reduceIte,reduceCtorEq,OPP];congr 2
  rw[← Bool.decide_and];apply decide_eq_decide.2;omega
 have o1:pf (n+1) F.aJ [a.d,b.d,.int 1]=.ok (.bl (decide (a.t < b.t+b.w∧b.t < a.t+a.w))):=by
  rw[k8,d4,Bk.d,Bk.d];simp only[STP,if_true,if_false,ite_true,ite_false,reduceIte,reduceCtorEq,OPP];congr 2
  rw[← Bool.decide_and];apply decide_eq_decide.2;omega
 rw[mm,cT]
 simp only[STP,if_true,if_false,ite_true,ite_false,reduceIte,reduceCtorEq,m0,m1,o0,o1]
 congr 2
 rw[← Bool.decide_and,← Bool.decide_and,← Bool.decide_or];rfl
end
section
variable {sz sz':Nat}{g g':Nat→Nat→Int}{t t':Q Int}
end
abbrev Mp:=List (List Int×D)
abbrev Sp:=Nat×Nat
def kS (s:Sp):List Int:=[(s.1:Int),(s.2:Int)]
def sD (s:Sp):D:=.tup [.int (s.1:Int),.int (s.2:Int)]
theorem AO (s:Sp):tupI? (sD s)=some (kS s):=rfl
theorem oo {s t:Sp}(h:kS s=kS t):s=t:=by
 unfold kS at h
 injection h with h1 h2
 injection h2 with h2 _
 exact Prod.ext (by omega) (by omega)
def spots (b:Bk):List Sp:=(List.range b.w).flatMap fun j=>(List.range b.w).map fun i=>(b.l+i,b.t+j)
theorem bP {b:Bk}{s:Sp}:s∈spots b↔b.has s.1 s.2:=by
 unfold spots
 simp only[List.mem_flatMap,List.mem_map,List.mem_range,Bk.has]
 constructor
 ·rintro ⟨j,hj,i,hi,rfl⟩;exact⟨⟨by show b.l≤b.l+i;omega,by show b.l+i < _;omega⟩,by show b.t≤b.t+j;omega,by show b.t+j < _;omega⟩
 ·rintro ⟨⟨h1,h2⟩,h3,h4⟩
  exact⟨s.2 - b.t,by omega,s.1 - b.l,by omega,Prod.ext (by show b.l+(s.1 - b.l)=s.1;omega) (by show b.t+(s.2 - b.t)=s.2;omega)⟩
theorem bj (b:Bk):(spots b).Nodup:=by
 unfold spots
 rw[List.Nodup,List.pairwise_flatMap]
 refine⟨fun j _=>?_,?_⟩
 ·rw[List.pairwise_map]
  exact List.Pairwise.imp (fun {a c} h e=>by injection e with e1 _;omega) (List.pairwise_lt_range (n:=b.w))
 ·refine List.Pairwise.imp (fun {j k} h s hs s' hs' e=>?_) (List.pairwise_lt_range (n:=b.w))
  obtain⟨i,_,rfl⟩:=List.mem_map.mp hs
  obtain⟨i',_,e'⟩:=List.mem_map.mp hs'
  rw[← e']at e
  injection e with _ e2
  omega
theorem bv (b:Bk):(spots b).length=b.w*b.w:=by
 unfold spots
 simp[List.length_flatMap,List.map_const',List.sum_replicate_nat]
def onK (m:Mp)(k:List Int):Bool:=m.any fun p=>decide (p.1=k)
theorem sk {m:Mp}{k:List Int}{d:D}(h:onK m k=false):dicPut m k d=m++[(k,d)]:=by
 unfold dicPut
 rw[show (m.any fun p=>decide (p.1=k))=onK m k from rfl,h]
 rfl
theorem nj {m:Mp}{k:List Int}:onK m k=false↔k∉m.map (·.1):=by
 unfold onK
 rw[List.any_eq_false]
 constructor
 ·intro h hk
  obtain⟨p,hp,e⟩:=List.mem_map.mp hk
  exact h p hp (decide_eq_true e)
 ·intro h p hp e
  exact h (List.mem_map.mpr ⟨p,hp,of_decide_eq_true e⟩)
def fillS (v:Int):List Sp→Mp→Option Mp
 | [],m=>some m
 | s::r,m=>if onK m (kS s)=true then none else fillS v r (m++[(kS s,.int v)])
theorem qI (v:Int):∀ (l:List Sp) (m m':Mp),fillS v l m=some m'→m'=m++l.map fun s=>(kS s,D.int v)
 | [],m,m',h=>by cases h;simp
 | s::r,m,m',h=>by
  rw[fillS]at h
  split at h
  ·cases h
  ·rw[qI v r _ m' h];simp
theorem lT (v:Int):∀ (l:List Sp) (m:Mp),l.Nodup→(∀ s∈l,kS s∉m.map (·.1))→fillS v l m=some (m++l.map fun s=>(kS s,D.int v))
 | [],m,_,_=>by simp[fillS]
 | s::r,m,hn,hm=>by
  have hs:=(List.nodup_cons.mp hn)
  rw[fillS,if_neg (by rw[nj.mpr (hm s (.head _))];decide),lT v r _ hs.2 fun s' h'=>?_]
  ·simp
  ·rw[List.map_append,List.mem_append]
   rintro (z | z)
   ·exact hm s' (.tail _ h') z
   ·rw[List.map_cons,List.map_nil,List.mem_singleton]at z
    have:=oo z
    subst this
    exact hs.1 h'
def bkOf (side:Nat):D→Option Bk
 | .tup [.int l,.int t,.int s,.int v]=>if (s=1∨s=2∨s=4∨s=8)∧(0≤l∧l%s=0)∧(0≤t∧t%s=0)∧(0≤v∧v≤9)∧l+s≤(side:Int)∧t+s≤(side:Int) then some ⟨l.toNat,t.toNat,s.toNat,v⟩ else none
 | _=>none
structure BkOk (side:Nat)(b:Bk):Prop where
 w:b.w=1∨b.w=2∨b.w=4∨b.w=8
 l:b.l%b.w=0
 t:b.t%b.w=0
 v:W9 b.v
 r:b.l+b.w≤side
 d:b.t+b.w≤side
theorem jN {side:Nat}{d:D}{b:Bk}(h:bkOf side d=some b):d=b.d∧BkOk side b:=by
 unfold bkOf at h
 split at h
 ·rename_i l t s v
  split at h
  ·rename_i c
   cases h
   obtain⟨c1,c2,c3,c4,c5,c6⟩:=c
   refine⟨by unfold Bk.d;rw[show ((l.toNat:Nat):Int)=l by omega,show ((t.toNat:Nat):Int)=t by omega,show ((s.toNat:Nat):Int)=s by omega],?_⟩
   refine⟨by show s.toNat=1∨s.toNat=2∨s.toNat=4∨s.toNat=8;omega,?_,?_,c4,by show l.toNat+s.toNat≤side;omega,by show t.toNat+s.toNat≤side;omega⟩
   ·show l.toNat%s.toNat=0
    rcases c1 with rfl | rfl | rfl | rfl<;>(simp;omega)
   ·show t.toNat%s.toNat=0
    rcases c1 with rfl | rfl | rfl | rfl<;>(simp;omega)
  ·cases h
 ·cases h
theorem AQ {side:Nat}{b:Bk}(h:BkOk side b):bkOf side b.d=some b:=by
 unfold Bk.d bkOf
 have h1:=h.w;have h2:=h.l;have h3:=h.t;have h4:=h.v;have h5:=h.r;have h6:=h.d
 obtain⟨l,t,w,v⟩:=b
 simp only at h1 h2 h3 h4 h5 h6
 show (if ((w:Int)=1∨(w:Int)=2∨(w:Int)=4∨(w:Int)=8)∧(0≤(l:Int)∧(l:Int)%(w:Int)=0)∧(0≤(t:Int)∧(t:Int)%(w:Int)=0)∧(0≤v∧v≤9)∧(l:Int)+(w:Int)≤(side:Int)∧(t:Int)+(w:Int)≤(side:Int) then some (⟨(l:Int).toNat,(t:Int).toNat,(w:Int).toNat,v⟩:Bk) else none)=_
 rw[if_pos ⟨by omega,⟨by omega,by omega⟩,⟨by omega,by omega⟩,h4,by omega,by omega⟩]
 simp
def okTh (d:D):Prop:=th 5 3 d=true
theorem xQ {n m:Nat}(hm:1≤m){d:D}(h:th 5 n d=true):pf m F.ae [d]=.ok (.bl (isW d)):=d6 hm (xK h)
section
variable {side n:Nat}
theorem dW {m:Nat}(hm:1≤m)(a s:Int)(hs:0 < s):pf m F.aO [.int a,.int s]=.ok (.bl (decide (0≤a)&&decide (a%s=0))):=by
 obtain⟨m,rfl,_⟩:=ex1 (show 0+1≤m by omega)
 rw[pr,eI,tq,b8 hs,R.bind_ok,ky,iO]
 rfl
theorem inSides (s:Int):dInD (.int s) (tupI [1,2,4,8])=.ok (.bl (decide (s=1∨s=2∨s=4∨s=8))):=by
 unfold dInD tupI
 show (if _ then R.ok (D.bl (_)) else _)=_
 rw[if_pos ⟨by cases s<;>rfl,rfl⟩]
 congr 2
 simp only[List.map_cons,List.map_nil,List.any_cons,List.any_nil,Bool.or_false,eqD]
 rw[Bool.eq_iff_iff]
 simp only[Bool.or_eq_true,beq_iff_eq,decide_eq_true_eq]
 omega
theorem vF {m:Nat}(hm:2≤m)(v:Int):pf m F.ac [.int v]=.ok (.bl (decide (0≤v)&&decide (v≤9))):=fR hm rfl
theorem vG {m:Nat}(hm:3≤m)(l t s v:Int):pf m F.aP [.tup [.int l,.int t,.int s,.int v]]=.ok (.bl (decide ((s=1∨s=2∨s=4∨s=8)∧(0≤l∧l%s=0)∧(0≤t∧t%s=0)∧(0≤v∧v≤9)))):=by
 obtain⟨m,rfl,hm⟩:=ex1 (show 2+1≤m by omega)
 have w:∀ i:Int,pf m F.ae [.int i]=.ok (.bl true):=fun i=>d6 (by omega) rfl
 have cm:cMap (fun number=>pf m F.ae [number]) [.int l,.int t,.int s,.int v]=.ok (.lst [.bl true,.bl true,.bl true,.bl true]):=cMap4 (w l) (w t) (w s) (w v)
 rw[dN,bN,db,aB,ci,Bool.not_true,oR,bZ,R.bind_ok,show dNf (.int (([D.int l,.int t,.int s,.int v].length:Nat):Int)) (.int 4)=.ok (.bl false) from rfl,aB,au,if_neg (by decide),aV,sq4,R.bind_ok,cm,R.bind_ok,show dAll [.lst [.bl true,.bl true,.bl true,.bl true]]=.ok (.bl true) from rfl,aB,ci,Bool.not_true,au,if_neg (by decide),aV,ix42,au,inSides,ix40,ix41,ix43]
 by_cases c:s=1∨s=2∨s=4∨s=8
 ·have hs:0 < s:=by omega
  rw[decide_eq_true c,wE,R.bind_ok,R.bind_ok,R.bind_ok,dW (by omega) l s hs,dW (by omega) t s hs,vF (by omega),iO,iO]
  show R.ok (D.bl _)=_
  congr 2
  simp only[Bool.decide_and,decide_eq_true c,Bool.true_and]
 ·rw[decide_eq_false c,wF]
  show R.ok (D.bl _)=_
  congr 2
  simp only[Bool.decide_and,decide_eq_false c,Bool.false_and]
theorem vH {m:Nat}(hm:1≤m){xs:List D}(h:∀ x∈xs,th 5 2 x=true):cMap (fun number=>pf m F.ae [number]) xs=.ok (.lst (xs.map fun d=>D.bl (isW d))):=tj _ fun d hd=>xQ hm (h d hd)
theorem oq {d:D}(h:isW d=true):∃ i,d=.int i:=by
 cases d with
 | int i=>exact⟨i,rfl⟩
 | _=>cases h
def Bad4 (d:D):Prop:=isTup d=false∨(∃ xs,d=.tup xs∧xs.length≠4)∨∃ a b c e,d=.tup [a,b,c,e]∧¬ (isW a=true∧isW b=true∧isW c=true∧isW e=true)
theorem vI (d:D):(∃ l t s v,d=.tup [.int l,.int t,.int s,.int v])∨Bad4 d:=by
 by_cases ht:isTup d=true
 ·cases d with
  | tup xs =>
   by_cases h4:xs.length=4
   ·match xs,h4 with
    | [a,b,c,e],_ =>
     by_cases hw:isW a=true∧isW b=true∧isW c=true∧isW e=true
     ·obtain⟨l,rfl⟩:=oq hw.1
      obtain⟨t,rfl⟩:=oq hw.2.1
      obtain⟨s,rfl⟩:=oq hw.2.2.1
      obtain⟨v,rfl⟩:=oq hw.2.2.2
      exact .inl ⟨l,t,s,v,rfl⟩
     ·exact .inr (.inr (.inr ⟨a,b,c,e,rfl,hw⟩))
   ·exact .inr (.inr (.inl ⟨xs,rfl,h4⟩))
  | _=>cases ht
 ·exact .inr (.inl (Bool.not_eq_true _ ▸ ht))
theorem AR {d:D}(h:Bad4 d):bkOf side d=none:=by
 rcases h with h | ⟨xs,rfl,h4⟩ | ⟨a,b,c,e,rfl,nw⟩
 ·cases d<;>first | rfl | (cases h;done)
 ·unfold bkOf
  split
  ·rename_i l t s v heq
   cases heq
   exact absurd rfl h4
  ·rfl
 ·unfold bkOf
  split
  ·rename_i l t s v heq
   cases heq
   exact absurd ⟨rfl,rfl,rfl,rfl⟩ nw
  ·rfl
theorem BB {xs:List D}(h4:xs.length≠4):dNf (.int ((xs.length:Nat):Int)) (.int 4)=.ok (.bl true):=by rw[fg,decide_eq_false (by omega)];rfl
theorem zw {d:D}(h:okTh d)(b:Bad4 d){m:Nat}(hm:2≤m):pf m F.aP [d]=.ok (.bl false):=by
 obtain⟨m,rfl,hm⟩:=ex1 (show 1+1≤m by omega)
 rcases b with hf | ⟨xs,rfl,h4⟩ | ⟨a,b,c,e,rfl,nw⟩
 ·rw[dN,bN,dz hf (xK h)]
  rfl
 ·rw[dN,bN,db,aB,ci,Bool.not_true,oR,bZ,R.bind_ok,BB h4]
  rfl
 ·have hh:=xJ.mp h
  have cm:=vH (m:=m) (by omega) (xs:=[a,b,c,e]) hh.2
  have da:dAll [.lst ([a,b,c,e].map fun d=>D.bl (isW d))]=.ok (.bl ([a,b,c,e].all isW)):=fP isW [a,b,c,e]
  have ff:[a,b,c,e].all isW=false:=by
   rw[← Bool.not_eq_true]
   intro z
   simp only[List.all_cons,List.all_nil,Bool.and_true,Bool.and_eq_true]at z
   exact nw z
  rw[dN,bN,db,aB,ci,Bool.not_true,oR,bZ,R.bind_ok,show dNf (.int (([a,b,c,e].length:Nat):Int)) (.int 4)=.ok (.bl false) from rfl,aB,au,if_neg (by decide),aV,sq4,R.bind_ok,cm,R.bind_ok,da,ff]
  rfl
end
theorem AS (m:Mp)(s:Sp):oTIn m (sD s)=.ok (.bl (onK m (kS s))):=rfl
theorem AT {m:Mp}{s:Sp}{v:Int}(hl:m.length < 1000000)(h:onK m (kS s)=false):oTSt m (sD s) (.int v)=.ok (m++[(kS s,.int v)]):=by
 unfold oTSt
 rw[AO]
 show (if m.length < 1000000 then R.ok (dicPut m (kS s) (.int v)) else R.stuck)=_
 rw[if_pos hl,sk h]
def outM (e:L Mp):Option Mp→L Mp
 | none=>e
 | some m=>.nx m
theorem BC {τ:Type}(l:L τ):(lS l fun s=>.nx s)=l:=by cases l<;>rfl
def bkM (side:Nat)(d:D)(m:Mp):Option Mp:=match bkOf side d with
 | none=>none
 | some b=>fillS b.v (spots b) m
def goB (side:Nat):List D→Mp→Option Mp
 | [],m=>some m
 | d::r,m=>match bkM side d m with
  | none=>none
  | some m'=>goB side r m'
theorem zx {side:Nat}{d:D}{m m':Mp}(h:bkM side d m=some m'):m'.length≤m.length+64:=by
 unfold bkM at h
 split at h
 ·cases h
 ·rename_i b hb
  have o:=(jN hb).2
  rw[qI _ _ _ _ h,List.length_append,List.length_map,bv]
  have:b.w*b.w≤64:=by rcases o.w with e | e | e | e<;>rw[e]<;>decide
  omega
theorem qJ {n:Nat}(hn:3≤n)(side:Nat){d:D}(h:okTh d):bc (pf n) (.int (side:Int)) d=if (bkOf side d).isSome=true then .nx () else .er 6:=by
 unfold bc
 rcases vI d with ⟨l,tp,s,v,rfl⟩ | b
 ·rw[vG hn,aB,ci,au]
  by_cases c0:(s=1∨s=2∨s=4∨s=8)∧(0≤l∧l%s=0)∧(0≤tp∧tp%s=0)∧(0≤v∧v≤9)
  ·rw[decide_eq_true c0,Bool.not_true,if_neg (by decide),aV,ix40,R.bind_ok,ix42,R.bind_ok,aY,R.bind_ok,kx,aB,ix41,R.bind_ok,R.bind_ok,aY,R.bind_ok,kx,aB,fQ,au]
   by_cases c:l+s≤(side:Int)∧tp+s≤(side:Int)
   ·have e:(bkOf side (.tup [.int l,.int tp,.int s,.int v])).isSome=true:=by
     show (if _ then _ else _:Option Bk).isSome=_
     rw[if_pos ⟨c0.1,c0.2.1,c0.2.2.1,c0.2.2.2,c.1,c.2⟩];rfl
    rw[if_pos e,if_neg (by simp;omega)]
   ·have e:¬ (bkOf side (.tup [.int l,.int tp,.int s,.int v])).isSome=true:=by
     show ¬ (if _ then _ else _:Option Bk).isSome=_
     rw[if_neg fun z=>c ⟨z.2.2.2.2.1,z.2.2.2.2.2⟩];decide
    rw[if_neg e,if_pos (by simp only[Bool.or_eq_true,decide_eq_true_eq];omega)]
  ·have e:¬ (bkOf side (.tup [.int l,.int tp,.int s,.int v])).isSome=true:=by
    show ¬ (if _ then _ else _:Option Bk).isSome=_
    rw[if_neg fun z=>c0 ⟨z.1,z.2.1,z.2.2.1,z.2.2.2.1⟩];decide
   rw[decide_eq_false c0,if_neg e];rfl
 ·rw[zw h b (by omega),AR b];rfl
theorem lU {n:Nat}(hn:3≤n)(side:Nat):∀ (ds:List D),(∀ d∈ds,okTh d)→lFor (τ:=Unit) (fun _ x=>bc (pf n) (.int (side:Int)) x) ds ()=if (ds.all fun d=>(bkOf side d).isSome)=true then .nx () else .er 6
 | [],_=>rfl
 | d::r,h=>by
  rw[aP,qJ hn side (h d (.head _)),List.all_cons]
  cases q:(bkOf side d).isSome with
  | false=>rfl
  | true=>rw[if_pos rfl,aV,Bool.true_and];exact lU hn side r fun d hd=>h d (.tail _ hd)
theorem lV {n:Nat}(hn:1≤n){side:Nat}{b:Bk}(o:BkOk side b)(h8:side≤8):pf n F.aQ [b.d]=.ok (.lst ((spots b).map sD)):=by
 obtain⟨n,rfl,hn⟩:=ex1 (show 0+1≤n by omega)
 obtain⟨l,t,w,v⟩:=b
 have h1:=o.r;have h2:=o.d;have hw:=o.w
 simp only at h1 h2 hw
 have rr:∀ a:Nat,a≤1000→rng2 [.int (a:Int),.int ((a:Int)+(w:Int))]=.ok ((List.range w).map fun i=>D.int ((a+i:Nat):Int)):=fun a ha=>by
  rw[show ((a:Int)+(w:Int))=((a+w:Nat):Int) by simp,qE (by omega) (by omega),show a+w - a=w by omega]
 have st:∀ (y:Nat) (acc:List D),acc.length≤10000→cu (pf n) (.tup [.int (l:Int),.int (t:Int),.int (w:Int),.int v]) acc (.int (y:Int))=.nx (acc++(List.range w).map fun i=>sD (l+i,y)):=fun y acc ha=>by
  unfold cu
  rw[ix40,R.bind_ok,R.bind_ok,ix42,R.bind_ok,aY,R.bind_ok,rr l (by omega),R.bind_ok,aU (l:=List.range w) (fun i=>D.int ((l+i:Nat):Int)) (fun i=>sD (l+i,y)) (fun i _=>rfl),R.bind_ok,cE (by simp;omega)]
  rfl
 have lp:∀ (js:List Nat) (acc:List D),acc.length+8*js.length≤10000→lFor (τ:=List D) (fun s x=>cu (pf n) (.tup [.int (l:Int),.int (t:Int),.int (w:Int),.int v]) s x) (js.map fun j=>D.int ((t+j:Nat):Int)) acc=.nx (acc++js.flatMap fun j=>(List.range w).map fun i=>sD (l+i,t+j)):=by
  intro js
  induction js with
  | nil=>intro acc _;simp
  | cons j r ih =>
   intro acc ha
   rw[List.length_cons]at ha
   rw[List.map_cons,aP,st (t+j) acc (by omega),aV,ih _ (by rw[List.length_append,List.length_map,List.length_range];omega),List.flatMap_cons,List.append_assoc]
 rw[pv,eJ]
 unfold Bk.d
 rw[ix41,R.bind_ok,R.bind_ok,ix42,R.bind_ok,aY,R.bind_ok,rr t (by omega),au,lp (List.range w) [] (by simp;omega),aV]
 show R.ok (D.lst _)=_
 unfold spots
 rw[List.nil_append,List.map_flatMap]
 simp only[List.map_map]
 rfl
theorem so {n:Nat}{b:Bk}(m:Mp)(s:Sp)(hl:m.length < 1000000):a7 (pf n) b.d m (sD s)=if onK m (kS s)=true then .er 6 else .nx (m++[(kS s,.int b.v)]):=by
 unfold a7
 rw[AS,aB,au]
 by_cases c:onK m (kS s)=true
 ·rw[if_pos c,if_pos c];rfl
 ·rw[if_neg c,if_neg c,aV]
  unfold Bk.d
  rw[ix43,R.bind_ok,AT hl (Bool.not_eq_true _ ▸ c)];rfl
theorem lW {n:Nat}{b:Bk}:∀ (ss:List Sp) (m:Mp),m.length+ss.length≤100000→lFor (τ:=Mp) (fun s x=>a7 (pf n) b.d s x) (ss.map sD) m=outM (.er 6) (fillS b.v ss m)
 | [],m,_=>rfl
 | s::r,m,hl=>by
  rw[List.length_cons]at hl
  rw[List.map_cons,aP,so m s (by omega),fillS]
  by_cases c:onK m (kS s)=true
  ·rw[if_pos c,if_pos c];rfl
  ·rw[if_neg c,if_neg c,aV]
   exact lW r _ (by rw[List.length_append,List.length_singleton];omega)
theorem lX {n:Nat}(hn:1≤n){side:Nat}(h8:side≤8):∀ (ds:List D) (m:Mp),(ds.all fun d=>(bkOf side d).isSome)=true→m.length+64*ds.length≤100000→lFor (τ:=Mp) (fun s x=>a8 (pf n) s x) ds m=outM (.er 6) (goB side ds m)
 | [],m,_,_=>rfl
 | d::r,m,h,hl=>by
  rw[List.length_cons]at hl
  rw[List.all_cons,Bool.and_eq_true]at h
  obtain⟨b,hb⟩:=Option.isSome_iff_exists.mp h.1
  obtain⟨rfl,o⟩:=jN hb
  have ww:b.w*b.w≤64:=by rcases o.w with e | e | e | e<;>rw[e]<;>decide
  have st:a8 (pf n) m b.d=outM (.er 6) (bkM side b.d m):=by
   unfold a8
   rw[lV hn o h8,R.bind_ok,bh (by rw[List.length_map,bv];omega),au,lW _ _ (by rw[bv];omega),BC]
   unfold bkM;rw[hb]
  rw[aP,st,goB]
  cases q:bkM side b.d m with
  | none=>rfl
  | some m' =>
   have:=zx q
   exact lX hn h8 r m' h.2 (by omega)
theorem tO {side:Nat}:∀ {ds:List D} {m m':Mp},goB side ds m=some m'→(ds.all fun d=>(bkOf side d).isSome)=true
 | [],_,_,_=>rfl
 | d::r,m,m',h=>by
  rw[goB]at h
  split at h
  ·cases h
  ·rename_i m1 hm
   rw[List.all_cons,tO h,Bool.and_true]
   unfold bkM at hm
   split at hm
   ·cases hm
   ·rename_i b hb;rw[hb];rfl
theorem tP {α:Type}[DecidableEq α]:∀ {l k:List α},l.Nodup→(∀ a∈l,a∈k)→l.length≤k.length
 | [],_,_,_=>Nat.zero_le _
 | a::r,k,hn,hs=>by
  have h:=List.nodup_cons.mp hn
  have ha:=hs a (.head _)
  have:=tP (l:=r) (k:=k.erase a) h.2 fun b hb=>(List.mem_erase_of_ne (by rintro rfl;exact h.1 hb)).mpr (hs b (.tail _ hb))
  rw[List.length_erase_of_mem ha]at this
  have:=List.length_pos_of_mem ha
  rw[List.length_cons];omega
theorem ot {α:Type}[DecidableEq α]:∀ {l k:List α},l.Nodup→(∀ a∈l,a∈k)→l.length=k.length→∀ a∈k,a∈l
 | [],k,_,_,e,a,ha=>by
  have:=List.length_pos_of_mem ha
  rw[← e]at this
  exact absurd this (by simp)
 | b::r,k,hn,hs,e,a,ha=>by
  have h:=List.nodup_cons.mp hn
  have hb:=hs b (.head _)
  by_cases c:a=b
  ·exact c ▸ .head _
  ·refine .tail _ (ot (l:=r) (k:=k.erase b) h.2 (fun x hx=>(List.mem_erase_of_ne (by rintro rfl;exact h.1 hx)).mpr (hs x (.tail _ hx))) ?_ a ((List.mem_erase_of_ne c).mpr ha))
   rw[List.length_erase_of_mem hb,← e,List.length_cons];omega
def keys (m:Mp):List (List Int):=m.map (·.1)
structure MOk (side:Nat)(m:Mp):Prop where
 nd:(keys m).Nodup
 at_:∀ p∈m,∃ (s:Sp) (v:Int),p=(kS s,.int v)∧s.1 < side∧s.2 < side∧W9 v
theorem MOk.nil (side:Nat):MOk side []:=⟨by simp[keys],by simp⟩
theorem MOk.fill {side:Nat}{v:Int}(hv:W9 v):∀ {ss:List Sp} {m m':Mp},(∀ s∈ss,s.1 < side∧s.2 < side)→MOk side m→fillS v ss m=some m'→MOk side m'
 | [],m,m',_,h,e=>by cases e;exact h
 | s::r,m,m',hs,h,e=>by
  rw[fillS]at e
  split at e
  ·cases e
  ·rename_i c
   have hk:=nj.mp (Bool.not_eq_true _ ▸ c)
   refine MOk.fill hv (fun s hs'=>hs s (.tail _ hs')) ⟨?_,?_⟩ e
   ·unfold keys
    rw[List.map_append,List.map_cons,List.map_nil,List.nodup_append]
    exact⟨h.nd,by simp,fun a ha b hb=>by rw[List.mem_singleton]at hb;subst hb;rintro rfl;exact hk ha⟩
   ·intro p hp
    rcases List.mem_append.mp hp with z | z
    ·exact h.at_ p z
    ·rw[List.mem_singleton]at z
     exact⟨s,v,z,(hs s (.head _)).1,(hs s (.head _)).2,hv⟩
theorem BkOk.sp {side:Nat}{b:Bk}(o:BkOk side b):∀ s∈spots b,s.1 < side∧s.2 < side:=fun s hs=>by
 have h:=bP.mp hs
 have h1:=o.r;have h2:=o.d
 exact⟨by omega,by omega⟩
theorem MOk.go {side:Nat}:∀ {ds:List D} {m m':Mp},MOk side m→goB side ds m=some m'→MOk side m'
 | [],m,m',h,e=>by cases e;exact h
 | d::r,m,m',h,e=>by
  rw[goB]at e
  split at e
  ·cases e
  ·rename_i m1 hm
   refine MOk.go ?_ e
   unfold bkM at hm
   split at hm
   ·cases hm
   ·rename_i b hb
    have o:=(jN hb).2
    exact MOk.fill o.v o.sp h hm
theorem tQ:∀ {m:Mp} {k:List Int} {d:D},(keys m).Nodup→(k,d)∈m→dicGet m k=some d
 | (k',d')::r,k,d,hn,h=>by
  have hn':=List.nodup_cons.mp hn
  unfold dicGet
  rw[List.find?_cons]
  by_cases c:k'=k
  ·rw[decide_eq_true c]
   rcases List.mem_cons.mp h with e | e
   ·cases e;rfl
   ·exact absurd (List.mem_map.mpr ⟨_,e,rfl⟩) (c ▸ hn'.1)
  ·rw[decide_eq_false c]
   rcases List.mem_cons.mp h with e | e
   ·cases e;exact absurd rfl c
   ·exact tQ hn'.2 e
def gv (m:Mp)(x y:Nat):Int:=match dicGet m (kS (x,y)) with
 | some (.int v)=>v
 | _=>0
theorem zK {m:Mp}{x y:Nat}{v:Int}(hn:(keys m).Nodup)(h:(kS (x,y),D.int v)∈m):gv m x y=v∧dicGet m (kS (x,y))=some (.int v):=by
 have:=tQ hn h
 exact⟨by unfold gv;rw[this],this⟩
def allS (side:Nat):List Sp:=spots ⟨0,0,side,0⟩
theorem aZ {side:Nat}{s:Sp}:s∈allS side↔s.1 < side∧s.2 < side:=by
 unfold allS
 rw[bP]
 simp[Bk.has]
theorem MOk.full {side:Nat}{m:Mp}(h:MOk side m)(hl:m.length=side*side){x y:Nat}(hx:x < side)(hy:y < side):W9 (gv m x y)∧dicGet m (kS (x,y))=some (.int (gv m x y)):=by
 have hk:kS (x,y)∈keys m:=by
  refine ot (k:=(allS side).map kS) h.nd (fun a ha=>?_) ?_ _ (List.mem_map.mpr ⟨(x,y),aZ.mpr ⟨hx,hy⟩,rfl⟩)
  ·obtain⟨p,hp,rfl⟩:=List.mem_map.mp ha
   obtain⟨s,v,rfl,h1,h2,_⟩:=h.at_ p hp
   exact List.mem_map.mpr ⟨s,aZ.mpr ⟨h1,h2⟩,rfl⟩
  ·unfold keys allS
   rw[List.length_map,List.length_map,bv,hl]
 obtain⟨p,hp,e⟩:=List.mem_map.mp hk
 obtain⟨s,v,rfl,h1,h2,hv⟩:=h.at_ p hp
 have:=oo e
 subst this
 obtain⟨e1,e2⟩:=zK h.nd hp
 rw[e1]
 exact⟨hv,e2⟩
theorem BD {m:Mp}{x y:Nat}{v:Int}(h:dicGet m (kS (x,y))=some (.int v)):dTx (tabD m) (.tup [.int (x:Int),.int (y:Int)])=.ok (.int v):=by
 show (match dicGet ((m.map (·.1)).zip (m.map (·.2))) (kS (x,y)) with | some d=>R.ok d | none=>R.stuck)=_
 rw[o5,h]
theorem AU {m:Mp}{side:Nat}(hm:MOk side m)(hl:m.length=side*side)(h8:side≤8){y:Nat}(hy:y < side):(((rng1 [.int (side:Int)]).bind fun xs=>cMap (fun x=>dTx (tabD m) (.tup [x,.int (y:Int)])) xs).bind fun x1=>dTuple [x1])=.ok (rowT .int (gv m) side y):=by
 rw[fi (by omega),R.bind_ok,aU (l:=List.range side) (fun i=>D.int ((i:Nat):Int)) (fun x=>D.int (gv m x y)) (fun x hx=>BD (hm.full hl (List.mem_range.mp hx) hy).2),R.bind_ok]
 rfl
section
variable {sz:Nat}
def picB (sz:Nat)(ds:List D):Option (Nat→Nat→Int):=match goB (2^sz) ds [] with
 | none=>none
 | some m=>if m.length=2^sz*2^sz then some (gv m) else none
theorem qK (h3:sz≤3):dIx (tupI [1,2,4,8]) (.int (sz:Int))=.ok (.int ((2^sz:Nat):Int)):=by rcases cg h3 with rfl | rfl | rfl | rfl<;>rfl
theorem sideMul (h3:sz≤3):dMul (.int ((2^sz:Nat):Int)) (.int ((2^sz:Nat):Int))=.ok (.int ((2^sz*2^sz:Nat):Int)):=by rcases cg h3 with rfl | rfl | rfl | rfl<;>rfl
def outB (sz:Nat)(e:R D):Option (Nat→Nat→Int)→R D
 | none=>e
 | some g=>.ok (picD sz (T g sz))
def outT:Option Mp→R D
 | none=>.err 6
 | some m=>.ok (tabD m)
theorem AV (h3:sz≤3){ds:List D}(h:∀ d∈ds,okTh d)(hl:ds.length≤1000){n:Nat}(hn:8≤n):pf n F.aX [.int (sz:Int),.lst ds]=outB sz (.err 6) (picB sz ds):=by
 obtain⟨n,rfl,hn⟩:=ex1 (show 7+1≤n by omega)
 have s8:2^sz≤8:=p8 h3
 have ck:pf n F.aD [.int (sz:Int),.lst ds]=if (ds.all fun d=>(bkOf (2^sz) d).isSome)=true then .ok .non else .err 6:=by
  obtain⟨n,rfl,hn⟩:=ex1 (show 6+1≤n by omega)
  rw[j6,bV,tz (by omega) rfl,show inTo 3 (.int (sz:Int))=true by simp[inTo];omega,aB,ci,Bool.not_true,oR,show dIsA qList (.lst ds)=.ok (.bl true) from rfl,aB,ci,Bool.not_true,au,if_neg (by decide),aV,qK h3,au,bh (by omega),au,lU (by omega) _ ds h]
  split<;>rfl
 rw[nQ,dH,ck]
 unfold picB
 by_cases ca:(ds.all fun d=>(bkOf (2^sz) d).isSome)=true
 ·have wb:pf n F.ar [.lst ds]=outT (goB (2^sz) ds []):=by
   obtain⟨n,rfl,hn⟩:=ex1 (show 6+1≤n by omega)
   rw[iF,bp,bh (by omega),au,lX (by omega) s8 ds [] ca (by simp;omega)]
   cases goB (2^sz) ds []<;>rfl
  rw[if_pos ca,au,wb]
  cases q:goB (2^sz) ds [] with
  | none=>rfl
  | some m =>
   have mo:=(MOk.nil (2^sz)).go q
   show outL (lB (R.ok (tabD m)) _)=_
   rw[au,qK h3,au,show dLenD [tabD m]=.ok (.int (((m.map (·.1)).length:Nat):Int)) from rfl,List.length_map,R.bind_ok,sideMul h3,R.bind_ok,fg,aB,au]
   by_cases c:m.length=2^sz*2^sz
   ·simp only[if_pos c]
    rw[if_neg (by rw[c,decide_eq_true rfl];decide),aV,fi (by omega),R.bind_ok,aU (l:=List.range (2^sz)) (fun i=>D.int ((i:Nat):Int)) (fun y=>rowT .int (gv m) (2^sz) y) (fun y hy=>by
     obtain⟨n,rfl,hn⟩:=ex1 (show 6+1≤n by omega)
     rw[uY,iq,AU mo c s8 (List.mem_range.mp hy)]
     rfl),R.bind_ok,fe,R.bind_ok]
    have:=vC (n:=n) (f:=gv m) (by omega) h3 (fun x y hx hy=>(mo.full c hx hy).1)
    unfold rowsT at this
    rw[this]
    rfl
   ·simp only[if_neg c]
    rw[if_pos (by rw[decide_eq_false (fun z=>c (by exact_mod_cast z))];rfl)]
    rfl
 ·rw[if_neg ca]
  cases q:goB (2^sz) ds [] with
  | none=>rfl
  | some m=>exact absurd (tO q) ca
end
def Apart (b c:Bk):Prop:=∀ x y,b.has x y→¬ c.has x y
theorem tR {side:Nat}:∀ (l:List Bk) (m:Mp),(∀ b∈l,BkOk side b)→l.Pairwise Apart→(∀ b∈l,∀ s∈spots b,kS s∉keys m)→goB side (l.map Bk.d) m=some (m++l.flatMap fun b=>(spots b).map fun s=>(kS s,D.int b.v))
 | [],m,_,_,_=>by simp[goB]
 | b::r,m,ho,hp,hm=>by
  have hp':=List.pairwise_cons.mp hp
  rw[List.map_cons,goB]
  have e:bkM side b.d m=some (m++(spots b).map fun s=>(kS s,D.int b.v)):=by
   unfold bkM
   rw[AQ (ho b (.head _))]
   exact lT b.v (spots b) m (bj b) (hm b (.head _))
  rw[e]
  show goB side (r.map Bk.d) _=_
  rw[tR r _ (fun c hc=>ho c (.tail _ hc)) hp'.2 fun c hc s hs=>?_]
  ·rw[List.flatMap_cons,List.append_assoc]
  ·unfold keys
   rw[List.map_append,List.mem_append,List.map_map]
   rintro (z | z)
   ·exact hm c (.tail _ hc) s hs z
   ·obtain⟨s',hs',e'⟩:=List.mem_map.mp z
    have:=oo e'
    subst this
    exact hp'.1 c hc _ _ (bP.mp hs') (bP.mp hs)
theorem xR {sz:Nat}{l:List Bk}{g:Nat→Nat→Int}(ho:∀ b∈l,BkOk (2^sz) b)(hp:l.Pairwise Apart)(hc:∀ x y,x < 2^sz→y < 2^sz→∃ b∈l,b.has x y)(hg:∀ b∈l,∀ x y,b.has x y→g x y=b.v):∃ g',picB sz (l.map Bk.d)=some g'∧∀ x y,x < 2^sz→y < 2^sz→g' x y=g x y:=by
 have e:=tR l [] ho hp (fun b _ s _=>by simp[keys])
 rw[List.nil_append]at e
 have mo:=(MOk.nil (2^sz)).go e
 have mem:∀ x y,x < 2^sz→y < 2^sz→(kS (x,y),D.int (g x y))∈l.flatMap fun b=>(spots b).map fun s=>(kS s,D.int b.v):=fun x y hx hy=>by
  obtain⟨b,hb,h⟩:=hc x y hx hy
  exact List.mem_flatMap.mpr ⟨b,hb,List.mem_map.mpr ⟨(x,y),bP.mpr h,by rw[hg b hb x y h]⟩⟩
 have hl:(l.flatMap fun b=>(spots b).map fun s=>(kS s,D.int b.v)).length=2^sz*2^sz:=by
  have a1:(keys (l.flatMap fun b=>(spots b).map fun s=>(kS s,D.int b.v))).length≤((allS (2^sz)).map kS).length:=tP mo.nd fun a ha=>by
   obtain⟨p,hp,rfl⟩:=List.mem_map.mp ha
   obtain⟨s,v,rfl,h1,h2,_⟩:=mo.at_ p hp
   exact List.mem_map.mpr ⟨s,aZ.mpr ⟨h1,h2⟩,rfl⟩
  have a2:((allS (2^sz)).map kS).length≤(keys (l.flatMap fun b=>(spots b).map fun s=>(kS s,D.int b.v))).length:=tP (by
   rw[List.Nodup,List.pairwise_map]
   exact List.Pairwise.imp (fun {a b} h e=>h (oo e)) (bj _)) fun a ha=>by
   obtain⟨s,hs,rfl⟩:=List.mem_map.mp ha
   have:=aZ.mp hs
   exact List.mem_map.mpr ⟨_,mem s.1 s.2 this.1 this.2,rfl⟩
  unfold keys at a1 a2
  unfold allS at a1 a2
  rw[List.length_map,List.length_map,bv]at a1 a2
  simp only at a1 a2
  omega
 refine⟨gv (l.flatMap fun b=>(spots b).map fun s=>(kS s,D.int b.v)),?_,fun x y hx hy=>(zK mo.nd (mem x y hx hy)).1⟩
 unfold picB
 rw[e]
 simp only[if_pos hl]
theorem Apart.symm {b c:Bk}(h:Apart b c):Apart c b:=fun x y h1 h2=>h x y h2 h1
theorem de:∀ (n:Nat) (q:Q Int) (l t:Nat),(bks n q l t).Pairwise Apart
 | n,.lf v,l,t=>by rw[dC];simp
 | 0,.nd _ _ _ _,_,_=>by simp[bks]
 | n+1,.nd a b c d,l,t=>by
  rw[bks,List.pairwise_append,List.pairwise_append,List.pairwise_append]
  refine⟨de n a l t,⟨de n b _ t,⟨de n c l _,de n d _ _,?_⟩,?_⟩,?_⟩
  ·intro x hx y hy u v h1 h2
   have i1:=bB n _ _ _ hx;have i2:=bB n _ _ _ hy
   omega
  ·intro x hx y hy u v h1 h2
   have i1:=bB n _ _ _ hx
   rcases List.mem_append.mp hy with z | z
   ·have i2:=bB n _ _ _ z;omega
   ·have i2:=bB n _ _ _ z;omega
  ·intro x hx y hy u v h1 h2
   have i1:=bB n _ _ _ hx
   rcases List.mem_append.mp hy with z | z
   ·have i2:=bB n _ _ _ z;omega
   ·rcases List.mem_append.mp z with z | z
    ·have i2:=bB n _ _ _ z;omega
    ·have i2:=bB n _ _ _ z;omega
theorem lY:∀ (n:Nat) (q:Q Int) (l t:Nat),2^n ∣ l→2^n ∣ t→∀ {b:Bk},b∈bks n q l t→(∃ k,k≤n∧b.w=2^k)∧b.w ∣ b.l∧b.w ∣ b.t
 | n,.lf v,l,t,hl,ht,b,hb=>by
  rw[dC,List.mem_singleton]at hb
  subst hb
  exact⟨⟨n,Nat.le_refl n,rfl⟩,hl,ht⟩
 | 0,.nd _ _ _ _,_,_,_,_,b,hb=>by simp[bks]at hb
 | n+1,.nd a b c d,l,t,hl,ht,x,hx=>by
  have h1:2^n ∣ l:=Nat.dvd_trans (Nat.pow_dvd_pow 2 (Nat.le_succ n)) hl
  have h2:2^n ∣ t:=Nat.dvd_trans (Nat.pow_dvd_pow 2 (Nat.le_succ n)) ht
  have h3:2^n ∣ l+2^n:=Nat.dvd_add h1 (Nat.dvd_refl _)
  have h4:2^n ∣ t+2^n:=Nat.dvd_add h2 (Nat.dvd_refl _)
  have up:((∃ k,k≤n∧x.w=2^k)∧x.w ∣ x.l∧x.w ∣ x.t)→(∃ k,k≤n+1∧x.w=2^k)∧x.w ∣ x.l∧x.w ∣ x.t:=fun ⟨⟨k,hk,e⟩,r⟩=>⟨⟨k,by omega,e⟩,r⟩
  rw[bks]at hx
  rcases List.mem_append.mp hx with z | z
  ·exact up (lY n a l t h1 h2 z)
  ·rcases List.mem_append.mp z with z | z
   ·exact up (lY n b _ t h3 h2 z)
   ·rcases List.mem_append.mp z with z | z
    ·exact up (lY n c l _ h1 h4 z)
    ·exact up (lY n d _ _ h3 h4 z)
theorem qL {p:Int→Prop}:∀ (n:Nat) (q:Q Int) (l t:Nat),q.All p→∀ {b:Bk},b∈bks n q l t→p b.v
 | n,.lf v,l,t,h,b,hb=>by
  rw[dC,List.mem_singleton]at hb
  subst hb
  exact h
 | 0,.nd _ _ _ _,_,_,_,b,hb=>by simp[bks]at hb
 | n+1,.nd a b c d,l,t,h,x,hx=>by
  rw[bks]at hx
  rcases List.mem_append.mp hx with z | z
  ·exact qL n a l t h.1 z
  ·rcases List.mem_append.mp z with z | z
   ·exact qL n b _ t h.2.1 z
   ·rcases List.mem_append.mp z with z | z
    ·exact qL n c l _ h.2.2.1 z
    ·exact qL n d _ _ h.2.2.2 z
theorem Pc.bkok {sz:Nat}{t:Q Int}(p:Pc sz t){b:Bk}(hb:b∈bks sz t 0 0):BkOk (2^sz) b:=by
 obtain⟨⟨k,hk,e⟩,h1,h2⟩:=lY sz t 0 0 (Nat.dvd_zero _) (Nat.dvd_zero _) hb
 have i:=bB sz t 0 0 hb
 have h3:=p.h3
 refine⟨?_,Nat.mod_eq_zero_of_dvd h1,Nat.mod_eq_zero_of_dvd h2,qL sz t 0 0 p.all hb,by omega,by omega⟩
 rw[e]
 rcases cg (show k≤3 by omega) with rfl | rfl | rfl | rfl<;>decide
def Ad (a b:Sp):Prop:=(a.1=b.1∧(a.2+1=b.2∨b.2+1=a.2))∨(a.2=b.2∧(a.1+1=b.1∨b.1+1=a.1))
def In (N:Nat)(a:Sp):Prop:=a.1 < N∧a.2 < N
theorem Ad.symm {a b:Sp}(h:Ad a b):Ad b a:=by unfold Ad at *;omega
inductive Cn (N:Nat)(g:Nat→Nat→Int):Sp→Sp→Prop
 | rfl {a:Sp}:Cn N g a a
 | step {a b c:Sp}:Cn N g a b→Ad b c→In N c→g b.1 b.2=g c.1 c.2→Cn N g a c
section
variable {N:Nat}{g g':Nat→Nat→Int}{a b c:Sp}
theorem Cn.trans (h:Cn N g a b)(k:Cn N g b c):Cn N g a c:=by
 induction k with
 | rfl=>exact h
 | step _ x y z ih=>exact .step ih x y z
theorem Cn.in (h:Cn N g a b)(i:In N a):In N b:=by
 induction h with
 | rfl=>exact i
 | step _ _ y _ _=>exact y
theorem Cn.val (h:Cn N g a b):g a.1 a.2=g b.1 b.2:=by
 induction h with
 | rfl=>rfl
 | step _ _ _ z ih=>exact ih.trans z
theorem Cn.symm (i:In N a)(h:Cn N g a b):Cn N g b a:=by
 induction h with
 | rfl=>exact .rfl
 | step k x y z ih=>exact(Cn.step .rfl x.symm (k.in i) z.symm).trans ih
theorem Cn.map {N':Nat}(f:Sp→Sp)(hf:∀ a b,In N a→In N b→Ad a b→g a.1 a.2=g b.1 b.2→Ad (f a) (f b)∧In N' (f b)∧g' (f a).1 (f a).2=g' (f b).1 (f b).2)(i:In N a)(h:Cn N g a b):Cn N' g' (f a) (f b):=by
 induction h with
 | rfl=>exact .rfl
 | step k x y z ih =>
  obtain⟨h1,h2,h3⟩:=hf _ _ (k.in i) y x z
  exact .step ih h1 h2 h3
theorem Cn.mono (hf:∀ a b,In N a→In N b→Ad a b→g a.1 a.2=g b.1 b.2→g' a.1 a.2=g' b.1 b.2)(i:In N a)(h:Cn N g a b):Cn N g' a b :=
 h.map (N':=N) (fun a=>a) (fun a b i j x z=>⟨x,j,hf a b i j x z⟩) i
end
section
variable {sz:Nat}{g:Nat→Nat→Int}
theorem iU {b:Bk}(hb:b∈bs sz g){x y:Nat}(h:b.has x y):g x y=b.v:=by
 have i:=fk hb
 have e:=xO sz (T g sz) 0 0 hb h
 rw[Nat.sub_zero,Nat.sub_zero,T_at sz g x y (by omega) (by omega)]at e
 exact e
theorem d8 {b:Bk}(hb:b∈bs sz g){s:Sp}(h:b.has s.1 s.2):In (2^sz) s:=by
 have i:=fk hb
 exact⟨by omega,by omega⟩
theorem sr {b:Bk}(hb:b∈bs sz g):∀ (i j:Nat),i < b.w→j < b.w→Cn (2^sz) g (b.l,b.t) (b.l+i,b.t+j)
 | 0,0,_,_=>.rfl
 | i+1,0,hi,hj=>by
  have n:=fk hb
  refine .step (sr hb i 0 (by omega) hj) (.inr ⟨rfl,.inl rfl⟩) ⟨by show b.l+(i+1) < _;omega,by show b.t+0 < _;omega⟩ ?_
  rw[iU hb (x:=b.l+i) (y:=b.t+0) ⟨by omega,by omega⟩,iU hb (x:=b.l+(i+1)) (y:=b.t+0) ⟨by omega,by omega⟩]
 | i,j+1,hi,hj=>by
  have n:=fk hb
  refine .step (sr hb i j hi (by omega)) (.inl ⟨rfl,.inl rfl⟩) ⟨by show b.l+i < _;omega,by show b.t+(j+1) < _;omega⟩ ?_
  rw[iU hb (x:=b.l+i) (y:=b.t+j) ⟨by omega,by omega⟩,iU hb (x:=b.l+i) (y:=b.t+(j+1)) ⟨by omega,by omega⟩]
theorem xS {b:Bk}(hb:b∈bs sz g){s s':Sp}(h:b.has s.1 s.2)(h':b.has s'.1 s'.2):Cn (2^sz) g s s':=by
 have n:=fk hb
 have go:∀ s:Sp,b.has s.1 s.2→Cn (2^sz) g (b.l,b.t) s:=fun s h=>by
  have:=sr hb (s.1 - b.l) (s.2 - b.t) (by omega) (by omega)
  rwa [show b.l+(s.1 - b.l)=s.1 by omega,show b.t+(s.2 - b.t)=s.2 by omega]at this
 exact((go s h).symm ⟨by show b.l < _;omega,by show b.t < _;omega⟩).trans (go s' h')
def Rb (b c:Bk):Prop:=b.v=c.v∧b.beside c
instance (b c:Bk):Decidable (Rb b c):=by unfold Rb;infer_instance
theorem Rb.symm {b c:Bk}(h:Rb b c):Rb c b:=⟨h.1.symm,by have:=h.2;unfold Bk.beside at *;omega⟩
theorem Rb.cn {b c:Bk}(hb:b∈bs sz g)(hc:c∈bs sz g)(r:Rb b c){s s':Sp}(h:b.has s.1 s.2)(h':c.has s'.1 s'.2):Cn (2^sz) g s s':=by
 have n:=fk hb
 have m:=fk hc
 have go:∀ u u':Sp,b.has u.1 u.2→c.has u'.1 u'.2→Ad u u'→Cn (2^sz) g s s':=fun u u' k k' a =>
  ((xS hb h k).step a (d8 hc k') (by rw[iU hb k,iU hc k',r.1])).trans (xS hc k' h')
 have q:=r.2
 unfold Bk.beside at q
 rcases q with ⟨q | q,q2,q3⟩ | ⟨q | q,q2,q3⟩
 ·exact go (c.l - 1,max b.t c.t) (c.l,max b.t c.t) ⟨by show _≤c.l - 1∧c.l - 1 < _;omega,by show _≤max b.t c.t∧max b.t c.t < _;omega⟩ ⟨by show _≤c.l∧c.l < _;omega,by show _≤max b.t c.t∧max b.t c.t < _;omega⟩ (.inr ⟨rfl,.inl (by show c.l - 1+1=c.l;omega)⟩)
 ·exact go (b.l,max b.t c.t) (b.l - 1,max b.t c.t) ⟨by show _≤b.l∧b.l < _;omega,by show _≤max b.t c.t∧max b.t c.t < _;omega⟩ ⟨by show _≤b.l - 1∧b.l - 1 < _;omega,by show _≤max b.t c.t∧max b.t c.t < _;omega⟩ (.inr ⟨rfl,.inr (by show b.l - 1+1=b.l;omega)⟩)
 ·exact go (max b.l c.l,c.t - 1) (max b.l c.l,c.t) ⟨by show _≤max b.l c.l∧max b.l c.l < _;omega,by show _≤c.t - 1∧c.t - 1 < _;omega⟩ ⟨by show _≤max b.l c.l∧max b.l c.l < _;omega,by show _≤c.t∧c.t < _;omega⟩ (.inl ⟨rfl,.inl (by show c.t - 1+1=c.t;omega)⟩)
 ·exact go (max b.l c.l,b.t) (max b.l c.l,b.t - 1) ⟨by show _≤max b.l c.l∧max b.l c.l < _;omega,by show _≤b.t∧b.t < _;omega⟩ ⟨by show _≤max b.l c.l∧max b.l c.l < _;omega,by show _≤b.t - 1∧b.t - 1 < _;omega⟩ (.inl ⟨rfl,.inr (by show b.t - 1+1=b.t;omega)⟩)
theorem BE {b c:Bk}(hb:b∈bs sz g)(hc:c∈bs sz g){s s':Sp}(h:b.has s.1 s.2)(h':c.has s'.1 s'.2)(a:Ad s s')(e:g s.1 s.2=g s'.1 s'.2)(ne:b≠c):Rb b c:=by
 refine⟨by rw[← iU hb h,← iU hc h',e],?_⟩
 have no:∀ x y,b.has x y→¬ c.has x y:=fun x y k k'=>ne (om hb hc k k')
 have n1:=no s'.1 s'.2
 have n2:=no s.1 s.2 h
 unfold Ad at a
 unfold Bk.beside
 simp only[Bk.has] at *
 omega
end
def cmT (b:Bk)(a:List Bk):Bool:=a.any fun o=>decide (Rb b o)
def addB (b:Bk)(f:List (List Bk)):List (List Bk):=(f.filter fun a=>!cmT b a)++[b::(f.filter (cmT b)).flatten]
def fnd (l:List Bk):List (List Bk):=l.foldl (fun f b=>addB b f) []
def Sep (a c:List Bk):Prop:=∀ b∈a,∀ d∈c,¬ Rb b d
theorem Sep.symm {a c:List Bk}(h:Sep a c):Sep c a:=fun b hb d hd r=>h d hd b hb r.symm
structure Arf (sz:Nat)(g:Nat→Nat→Int)(p:List Bk)(f:List (List Bk)):Prop where
 perm:f.flatten.Perm p
 ne:∀ a∈f,a≠[]
 cn:∀ a∈f,∀ b∈a,∀ c∈a,∀ s s':Sp,b.has s.1 s.2→c.has s'.1 s'.2→Cn (2^sz) g s s'
 sep:f.Pairwise Sep
theorem jO {α:Type}(p:List α→Bool):∀ f:List (List α),((f.filter fun a=>!p a).flatten++(f.filter p).flatten).Perm f.flatten
 | []=>.refl _
 | a::f=>by
  have ih:=jO p f
  cases h:p a with
  | true =>
   simp only[List.filter_cons,h,Bool.not_true,Bool.false_eq_true,if_false,if_true,List.flatten_cons]
   refine(List.perm_append_comm_assoc _ _ _).trans (List.Perm.append_left a ih)
  | false =>
   simp only[List.filter_cons,h,Bool.not_false,if_true,Bool.false_eq_true,if_false,List.flatten_cons,List.append_assoc]
   exact List.Perm.append_left a ih
section
variable {sz:Nat}{g:Nat→Nat→Int}{p:List Bk}{f:List (List Bk)}{b:Bk}
theorem tU {b:Bk}{a:List Bk}:cmT b a=true↔∃ o∈a,Rb b o:=by
 unfold cmT
 simp only[List.any_eq_true,decide_eq_true_eq]
theorem Arf.add (h:Arf sz g p f)(hp:∀ c∈p,c∈bs sz g)(hb:b∈bs sz g):Arf sz g (p++[b]) (addB b f):=by
 have mem:∀ a∈f,∀ c∈a,c∈bs sz g:=fun a ha c hc=>hp c (h.perm.mem_iff.mp (List.mem_flatten.mpr ⟨a,ha,hc⟩))
 refine⟨?_,fun a ha=>?_,fun a ha=>?_,?_⟩
 ·unfold addB
  rw[List.flatten_append,List.flatten_cons,List.flatten_nil,List.append_nil]
  refine(List.perm_middle.trans (List.Perm.cons b ((jO (cmT b) f).trans h.perm))).trans (List.perm_append_singleton b p).symm
 ·rcases List.mem_append.mp ha with ha | ha
  ·exact h.ne a (List.mem_filter.mp ha).1
  ·rw[List.mem_singleton]at ha;subst ha;simp
 ·rcases List.mem_append.mp ha with ha | ha
  ·exact h.cn a (List.mem_filter.mp ha).1
  ·rw[List.mem_singleton]at ha;subst ha
   have one:∀ c∈b::(f.filter (cmT b)).flatten,c∈bs sz g∧∀ s s':Sp,b.has s.1 s.2→c.has s'.1 s'.2→Cn (2^sz) g s s':=fun c hc=>by
    rcases List.mem_cons.mp hc with rfl | hc
    ·exact⟨hb,fun s s' k k'=>xS hb k k'⟩
    ·obtain⟨a,ha,hca⟩:=List.mem_flatten.mp hc
     obtain⟨ha,hm⟩:=List.mem_filter.mp ha
     obtain⟨o,ho,r⟩:=tU.mp hm
     have n:=fk (mem a ha o ho)
     refine⟨mem a ha c hca,fun s s' k k'=>?_⟩
     have ko:o.has (o.l,o.t).1 (o.l,o.t).2:=⟨by show _≤o.l∧o.l < _;omega,by show _≤o.t∧o.t < _;omega⟩
     exact(r.cn hb (mem a ha o ho) k ko).trans (h.cn a ha o ho c hca _ _ ko k')
   intro c hc d hd s s' k k'
   have n:=fk hb
   have kb:b.has (b.l,b.t).1 (b.l,b.t).2:=⟨by show _≤b.l∧b.l < _;omega,by show _≤b.t∧b.t < _;omega⟩
   exact(((one c hc).2 _ s kb k).symm (d8 hb kb)).trans ((one d hd).2 _ s' kb k')
 ·unfold addB
  rw[List.pairwise_append]
  refine⟨h.sep.filter _,List.pairwise_singleton _ _,fun a ha c hc=>?_⟩
  rw[List.mem_singleton]at hc;subst hc
  obtain⟨ha,hn⟩:=List.mem_filter.mp ha
  intro u hu d hd r
  rcases List.mem_cons.mp hd with rfl | hd
  ·have:cmT d a=true:=tU.mpr ⟨u,hu,r.symm⟩
   rw[this]at hn;cases hn
  ·obtain⟨a',ha',hda⟩:=List.mem_flatten.mp hd
   obtain⟨ha',hm⟩:=List.mem_filter.mp ha'
   have ne:a≠a':=by rintro rfl;rw[hm]at hn;cases hn
   have:∀ {l:List (List Bk)},l.Pairwise Sep→a∈l→a'∈l→Sep a a':=by
    intro l hl h1 h2
    induction l with
    | nil=>cases h1
    | cons x l ih =>
     have hl:=List.pairwise_cons.mp hl
     rcases List.mem_cons.mp h1 with e1 | e1<;>rcases List.mem_cons.mp h2 with e2 | e2
     ·exact(ne (e1.trans e2.symm)).elim
     ·exact e1 ▸ hl.1 _ e2
     ·exact e2 ▸ (hl.1 _ e1).symm
     ·exact ih hl.2 e1 e2
   exact this h.sep ha ha' u hu d hda r
theorem Arf.fold:∀ (l p:List Bk) (f:List (List Bk)),Arf sz g p f→(∀ c∈p++l,c∈bs sz g)→Arf sz g (p++l) (l.foldl (fun f b=>addB b f) f)
 | [],p,f,h,_=>by rw[List.append_nil];exact h
 | b::l,p,f,h,hp=>by
  have:=Arf.fold l (p++[b]) (addB b f) (h.add (fun c hc=>hp c (by simp[hc])) (hp b (by simp))) (by simpa using hp)
  simpa using this
theorem AW:Arf sz g (bs sz g) (fnd (bs sz g)):=Arf.fold (bs sz g) [] [] ⟨.refl _,fun _ h=>(nomatch h),fun _ h=>(nomatch h),.nil⟩ (by simp)
end
theorem Bk.good (b:Bk)(n:Nat):good (n+1) b.d=true:=by
 unfold Bk.d;rw[FF.good];rfl
theorem Bk.eqd (a b:Bk):eqD a.d b.d=decide (a=b):=by
 cases a;cases b
 simp only[Bk.d,eqD,eqDs,Bk.mk.injEq,Bool.and_true]
 rw[Bool.eq_iff_iff]
 simp
 omega
theorem nk (n:Nat):∀ l:List Bk,goods (n+1) (l.map Bk.d)=true
 | []=>rfl
 | b::l=>by rw[List.map_cons,goods,nk n l,Bk.good];rfl
theorem tV (m:Bk)(l:List Bk):dInD m.d (.lst (l.map Bk.d))=.ok (.bl (decide (m∈l))):=by
 unfold dInD
 simp only
 rw[if_pos ⟨m.good 59,nk 59 l⟩,List.any_map]
 congr 2
 rw[Bool.eq_iff_iff];simp only[List.any_eq_true,Function.comp,Bk.eqd,decide_eq_true_iff]
 constructor
 ·rintro ⟨x,h,rfl⟩;exact h
 ·intro h;exact⟨m,h,rfl⟩
abbrev aD (a:List Bk):D:=.lst (a.map Bk.d)
theorem xT {n:Nat}(hn:3≤n)(b:Bk){a:List Bk}(hl:a.length≤1000):pf n F.a1 [b.d,aD a]=.ok (.bl (cmT b a)):=by
 obtain⟨n,rfl,hn⟩:=ex1 (show 2+1≤n by omega)
 rw[pB,eN,bh (by simp;omega),R.bind_ok,aU Bk.d (fun o=>D.bl (decide (Rb b o))) (fun o _=>by
  rw[vE (by omega),show dIx b.d (.int 3)=.ok (.int b.v) from rfl,show dIx o.d (.int 3)=.ok (.int o.v) from rfl,R.bind_ok,R.bind_ok,ky,iO,← Bool.decide_and]
  rfl),R.bind_ok,qq]
 rfl
theorem jP {n:Nat}(hn:3≤n)(b:Bk):∀ (f:List (List Bk)) (X Y:List D),(∀ a∈f,a.length≤1000)→X.length+f.flatten.length≤10000→Y.length+f.length≤10000 →
  lFor (τ:=List D×List D) (fun s x=>bH (pf n) b.d s.1 s.2 x) (f.map aD) (X,Y)=.nx (X++(f.filter (cmT b)).flatten.map Bk.d,Y++(f.filter fun a=>!cmT b a).map aD)
 | [],X,Y,_,_,_=>by simp[lFor]
 | a::f,X,Y,ha,hx,hy=>by
  rw[List.flatten_cons,List.length_append]at hx
  rw[List.length_cons]at hy
  rw[List.map_cons,aP]
  show lS (bH (pf n) b.d X Y (aD a)) _=_
  rw[bH,xT hn b (ha a (.head _)),aB,au]
  cases c:cmT b a with
  | true =>
   rw[if_pos rfl,cE (by simp;omega),au,aV,jP hn b f _ _ (fun a h=>ha a (.tail _ h)) (by rw[List.length_append,List.length_map];omega) (by omega)]
   simp[List.filter_cons,c]
  | false =>
   rw[if_neg (by decide),zu (by omega),au,aV,jP hn b f _ _ (fun a h=>ha a (.tail _ h)) (by omega) (by simp;omega)]
   simp[List.filter_cons,c]
abbrev arD (f:List (List Bk)):D:=.lst (f.map aD)
theorem c9 {α:Type}:∀ {f:List (List α)} {a:List α},a∈f→a.length≤f.flatten.length
 | c::f,a,h=>by
  rw[List.flatten_cons,List.length_append]
  rcases List.mem_cons.mp h with rfl | h
  ·omega
  ·have:=c9 h;omega
theorem zy {n:Nat}(hn:4≤n)(b:Bk){f:List (List Bk)}(hl:f.flatten.length≤64)(hf:f.length≤64):pf n F.aS [b.d,arD f]=.ok (arD (addB b f)):=by
 obtain⟨n,rfl,hn⟩:=ex1 (show 3+1≤n by omega)
 rw[mn,cU,bh (by simp;omega),au,jP (by omega) b f _ _ (fun a h=>Nat.le_trans (c9 h) (by omega)) (by rw[List.length_singleton];omega) (by rw[List.length_nil];omega),aV]
 have l2:=List.length_filter_le (fun a=>!cmT b a) f
 rw[List.nil_append,catL (by rw[List.length_map,List.length_singleton];omega)]
 unfold addB arD
 rw[List.map_append]
 rfl
theorem qM (b:Bk)(f:List (List Bk)):(addB b f).flatten.length=f.flatten.length+1∧(addB b f).length≤f.length+1:=by
 have h:=(jO (cmT b) f).length_eq
 have h2:=List.length_filter_le (fun a=>!cmT b a) f
 unfold addB
 simp only[List.flatten_append,List.length_append,List.flatten_cons,List.flatten_nil,List.append_nil,List.length_cons,List.length_nil] at *
 omega
theorem lZ {n:Nat}(hn:4≤n):∀ (l:List Bk) (f:List (List Bk)),f.flatten.length+l.length≤64→f.length+l.length≤64→lFor (τ:=D) (fun s x=>dl (pf n) s x) (l.map Bk.d) (arD f)=.nx (arD (l.foldl (fun f b=>addB b f) f))
 | [],f,_,_=>rfl
 | b::l,f,h1,h2=>by
  rw[List.length_cons]at h1 h2
  have:=qM b f
  rw[List.map_cons,aP]
  show lS (dl (pf n) (arD f) b.d) _=_
  rw[dl,zy hn b (by omega) (by omega),au,aV]
  exact lZ hn l (addB b f) (by omega) (by omega)
theorem xU {n:Nat}(hn:1≤n)(a:List Bk){l:List Bk}(hl:l.length≤64):pf n F.a2 [aD a,aD l]=.ok (aD (l.filter fun b=>decide (b∈a))):=by
 obtain⟨n,rfl,hn⟩:=ex1 (show 0+1≤n by omega)
 rw[pC,eO,bh (by simp;omega),R.bind_ok,qH (fun b=>decide (b∈a)) (fun b _=>by rw[tV];rfl)]
 rfl
def ars (l:List Bk):List (List Bk):=(fnd l).map fun a=>l.filter fun b=>decide (b∈a)
section
variable {sz:Nat}{g:Nat→Nat→Int}{t:Q Int}
theorem tW (h3:sz≤3):(fnd (bs sz g)).length≤64:=by
 have:∀ (l:List Bk) (f:List (List Bk)),(l.foldl (fun f b=>addB b f) f).length≤f.length+l.length:=by
  intro l
  induction l with
  | nil=>intro f;simp
  | cons b l ih=>intro f;have:=ih (addB b f);have:=(qM b f).2;simp only[List.foldl_cons,List.length_cons];omega
 have:=this (bs sz g) []
 have:=jM h3 g
 unfold fnd
 simp at *
 omega
theorem Sh.areas (q:Sh sz g t){n:Nat}(hn:12≤n):pf n F.a7 [picD sz t]=.ok (arD (ars (bs sz g))):=by
 obtain⟨n,rfl,hn⟩:=ex1 (show 11+1≤n by omega)
 have hl:=jM q.p.h3 g
 have hf:=tW (g:=g) q.p.h3
 rw[xl,kq,q.blocks (by omega),au,bh (by simp;omega),au]
 have e:=lZ (n:=n) (by omega) (bs sz g) [] (by simp;omega) (by simp;omega)
 rw[show lFor (τ:=D) (fun s x=>dl (pf n) s x) ((bs sz g).map Bk.d) (.lst [])=_ from e,aV]
 show outL (lB ((sq (arD (fnd (bs sz g)))).bind _) _)=_
 rw[bh (by simp;omega),R.bind_ok,aU aD (fun a=>aD ((bs sz g).filter fun b=>decide (b∈a))) (fun a _=>xU (by omega) a hl)]
 unfold ars
 rw[show arD ((fnd (bs sz g)).map fun a=>(bs sz g).filter fun b=>decide (b∈a))=.lst ((fnd (bs sz g)).map fun a=>aD ((bs sz g).filter fun b=>decide (b∈a))) from by show D.lst (List.map aD (List.map _ _))=_;rw[List.map_map];rfl]
 rfl
theorem iV:(bs sz g).Nodup:=by
 refine List.Pairwise.imp_of_mem (fun {a b} ha _ h e=>?_) (de sz (T g sz) 0 0)
 subst e
 have:=bB sz _ 0 0 ha
 exact h a.l a.t ⟨by omega,by omega⟩ ⟨by omega,by omega⟩
theorem qN {k:List Bk→List Bk}:∀ {f:List (List Bk)},(∀ a∈f,(k a).Perm a)→(f.map k).flatten.Perm f.flatten
 | [],_=>.refl _
 | a::f,h=>by
  rw[List.map_cons,List.flatten_cons,List.flatten_cons]
  exact(h a (.head _)).append (qN fun b hb=>h b (.tail _ hb))
theorem bC:Arf sz g (bs sz g) (ars (bs sz g)):=by
 have F:=AW (sz:=sz) (g:=g)
 have nd:(fnd (bs sz g)).flatten.Nodup:=F.perm.nodup_iff.mpr iV
 have pm:∀ a∈fnd (bs sz g),((bs sz g).filter fun b=>decide (b∈a)).Perm a:=fun a ha=>by
  have na:a.Nodup:=(List.pairwise_flatten.mp nd).1 a ha
  refine(List.perm_ext_iff_of_nodup (iV.filter _) na).mpr fun b=>?_
  rw[List.mem_filter,decide_eq_true_eq]
  exact⟨fun h=>h.2,fun h=>⟨F.perm.mem_iff.mp (List.mem_flatten.mpr ⟨a,ha,h⟩),h⟩⟩
 refine⟨(qN pm).trans F.perm,fun a ha=>?_,fun a ha=>?_,?_⟩
 ·obtain⟨c,hc,rfl⟩:=List.mem_map.mp ha
  intro e
  have:=(pm c hc).length_eq
  rw[e]at this
  exact F.ne c hc (List.length_eq_zero_iff.mp this.symm)
 ·obtain⟨c,hc,rfl⟩:=List.mem_map.mp ha
  intro b hb d hd
  exact F.cn c hc b ((pm c hc).mem_iff.mp hb) d ((pm c hc).mem_iff.mp hd)
 ·unfold ars
  rw[List.pairwise_map]
  exact F.sep.imp_of_mem fun {a c} ha hc h b hb d hd=>h b ((pm a ha).mem_iff.mp hb) d ((pm c hc).mem_iff.mp hd)
theorem sv {α:Type}{R:α→α→Prop}(hs:∀ a b,R a b→R b a){a a':α}(ne:a≠a'):∀ {l:List α},l.Pairwise R→a∈l→a'∈l→R a a'
 | x::l,hl,h1,h2=>by
  have hl:=List.pairwise_cons.mp hl
  rcases List.mem_cons.mp h1 with e1 | e1<;>rcases List.mem_cons.mp h2 with e2 | e2
  ·exact(ne (e1.trans e2.symm)).elim
  ·exact e1 ▸ hl.1 _ e2
  ·exact e2 ▸ hs _ _ (hl.1 _ e1)
  ·exact sv hs ne hl.2 e1 e2
def hasA (a:List Bk)(s:Sp):Prop:=∃ b∈a,b.has s.1 s.2
instance (a:List Bk)(s:Sp):Decidable (hasA a s):=by unfold hasA;infer_instance
variable {f:List (List Bk)}
theorem Arf.mem (F:Arf sz g (bs sz g) f){a:List Bk}(ha:a∈f){b:Bk}(hb:b∈a):b∈bs sz g:=F.perm.mem_iff.mp (List.mem_flatten.mpr ⟨a,ha,hb⟩)
theorem Arf.find (F:Arf sz g (bs sz g) f){s:Sp}(i:In (2^sz) s):∃ a∈f,hasA a s:=by
 obtain⟨b,hb,h⟩:=si (g:=g) i.1 i.2
 obtain⟨a,ha,hba⟩:=List.mem_flatten.mp (F.perm.mem_iff.mpr hb)
 exact⟨a,ha,b,hba,h⟩
theorem Arf.hin (F:Arf sz g (bs sz g) f){a:List Bk}(ha:a∈f){s:Sp}(h:hasA a s):In (2^sz) s:=by
 obtain⟨b,hb,h⟩:=h
 exact d8 (F.mem ha hb) h
theorem Arf.one (F:Arf sz g (bs sz g) f){a a':List Bk}(ha:a∈f)(ha':a'∈f){b:Bk}(h:b∈a)(h':b∈a'):a=a':=by
 by_cases e:a=a'
 ·exact e
 ·have nd:f.flatten.Nodup:=F.perm.nodup_iff.mpr iV
  exact((sv (fun a b h x hx y hy q=>h y hy x hx q.symm) e (List.pairwise_flatten.mp nd).2 ha ha') b h b h' rfl).elim
theorem Arf.same (F:Arf sz g (bs sz g) f){a a':List Bk}(ha:a∈f)(ha':a'∈f){s s':Sp}(h:hasA a s)(h':hasA a' s')(c:Cn (2^sz) g s s'):a=a':=by
 have i:=F.hin ha h
 induction c generalizing a' with
 | rfl =>
  obtain⟨b,hb,h⟩:=h
  obtain⟨d,hd,h'⟩:=h'
  have:=om (F.mem ha hb) (F.mem ha' hd) h h'
  subst this
  exact F.one ha ha' hb hd
 | step k x y z ih =>
  obtain⟨a1,ha1,h1⟩:=F.find (k.in i)
  have:=ih ha1 h1
  subst this
  obtain⟨b,hb,hs⟩:=h1
  obtain⟨d,hd,hs'⟩:=h'
  by_cases e:b=d
  ·subst e;exact F.one ha1 ha' hb hd
  ·by_cases e':a=a'
   ·exact e'
   ·exact((sv (fun _ _=>Sep.symm) e' F.sep ha ha') b hb d hd (BE (F.mem ha hb) (F.mem ha' hd) hs hs' x z e)).elim
theorem Arf.cn' (F:Arf sz g (bs sz g) f){a:List Bk}(ha:a∈f){s s':Sp}(h:hasA a s)(h':hasA a s'):Cn (2^sz) g s s':=by
 obtain⟨b,hb,h⟩:=h
 obtain⟨d,hd,h'⟩:=h'
 exact F.cn a ha b hb d hd s s' h h'
theorem Arf.iff (F:Arf sz g (bs sz g) f){a:List Bk}(ha:a∈f){s:Sp}(h:hasA a s)(s':Sp):hasA a s'↔Cn (2^sz) g s s':=by
 refine⟨fun h'=>F.cn' ha h h',fun c=>?_⟩
 obtain⟨a',ha',h'⟩:=F.find (c.in (F.hin ha h))
 have:=F.same ha ha' h h' c
 subst this
 exact h'
end
theorem tX:∀ l:List Sp,tupsI (l.map sD)=some (l.map kS)
 | []=>rfl
 | s::l=>by
  rw[List.map_cons,tupsI,tX l]
  rfl
theorem vJ {α:Type}(l:List α)(d:α):(List.range l.length).map (fun i=>l.getD i d)=l:=by
 apply List.ext_getElem (by simp)
 intro i h1 h2
 simp[List.getD,h2]
theorem zz {l:List Sp}(h:l.length < 64∨l.map kS=ts64):∃ l':List Sp,l'.Perm l∧dSortT [.lst (l.map sD)]=.ok (.lst (l'.map sD)):=by
 have hl:(l.map kS).length < 64∨l.map kS=ts64:=h.imp (fun h=>by rw[List.length_map];exact h) fun h=>h
 have pm:=gm hl
 rw[List.length_map]at pm
 refine⟨(sortP (l.map kS)).map fun i=>l.getD i (0,0),?_,?_⟩
 ·exact(pm.map fun i=>l.getD i (0,0)).trans (by rw[vJ])
 ·unfold dSortT
  simp only[tX]
  rw[if_pos hl,List.map_map]
  congr 2
  refine List.map_congr_left fun i hi=>?_
  have:i < l.length:=List.mem_range.mp (pm.mem_iff.mp hi)
  simp[List.getD,this]
abbrev fl (a:List Bk):List Sp:=a.flatMap spots
theorem dD {a:List Bk}{s:Sp}:s∈fl a↔hasA a s:=by
 unfold fl hasA
 simp only[List.mem_flatMap,bP]
section
variable {sz:Nat}{g:Nat→Nat→Int}{t:Q Int}{f:List (List Bk)}
theorem xV {l:List Bk}(h:l.Pairwise Apart):(fl l).Nodup:=by
 unfold fl
 rw[List.Nodup,List.pairwise_flatMap]
 exact⟨fun b _=>bj b,h.imp fun {b c} k s hs s' hs' e=>by subst e;exact k s.1 s.2 (bP.mp hs) (bP.mp hs')⟩
theorem xW:(bs sz g).Pairwise Apart:=de sz (T g sz) 0 0
theorem AX:(fl (bs sz g)).Perm (allS (2^sz)):=by
 refine(List.perm_ext_iff_of_nodup (xV xW) (bj _)).mpr fun s=>?_
 rw[dD,show s∈spots _↔_ from aZ (side:=2^sz)]
 refine⟨fun ⟨b,hb,h⟩=>d8 hb h,fun i=>?_⟩
 obtain⟨b,hb,h⟩:=si (g:=g) i.1 i.2
 exact⟨b,hb,h⟩
theorem tY:∀ f:List (List Bk),fl f.flatten=(f.map fl).flatten
 | []=>rfl
 | a::f=>by rw[List.flatten_cons,fl,List.flatMap_append,List.map_cons,List.flatten_cons,← tY f]
theorem Arf.all (F:Arf sz g (bs sz g) f):((f.map fl).flatten).Perm (allS (2^sz)):=by
 rw[← tY]
 exact(F.perm.flatMap_right spots).trans AX
theorem Arf.fnd1 (F:Arf sz g (bs sz g) f){a:List Bk}(ha:a∈f):(fl a).Nodup:=by
 have:((f.map fl).flatten).Nodup:=F.all.nodup_iff.mpr (bj _)
 exact(List.pairwise_flatten.mp this).1 _ (List.mem_map.mpr ⟨a,ha,rfl⟩)
theorem iW (n:Nat):(allS n).length=n*n:=bv _
theorem Arf.flen (F:Arf sz g (bs sz g) f)(h3:sz≤3){a:List Bk}(ha:a∈f):(fl a).length≤64:=by
 have h1:=c9 (List.mem_map.mpr ⟨a,ha,rfl⟩:fl a∈f.map fl)
 have h2:=F.all.length_eq
 rw[iW]at h2
 have:2^sz*2^sz≤64:=Nat.mul_le_mul (p8 h3) (p8 h3)
 omega
theorem full64 (h3:sz≤3)(hg:∀ s s':Sp,In (2^sz) s→In (2^sz) s'→g s.1 s.2=g s'.1 s'.2):bs sz g=[⟨0,0,2^sz,g 0 0⟩]:=by
 unfold bs
 rw[aH sz g (fun _ _=>g 0 0) fun x y hx hy=>hg (x,y) (0,0) ⟨hx,hy⟩ ⟨pos2 sz,pos2 sz⟩,ku,dC]
theorem Arf.sortable (F:Arf sz g (bs sz g) f)(h3:sz≤3){a:List Bk}(ha:a∈f):(fl a).length < 64∨(fl a).map kS=ts64:=by
 by_cases c:(fl a).length < 64
 ·exact .inl c
 right
 have l64:=F.flen h3 ha
 have n64:2^sz*2^sz=64:=by
  have h1:=c9 (List.mem_map.mpr ⟨a,ha,rfl⟩:fl a∈f.map fl)
  have h2:=F.all.length_eq
  rw[iW]at h2
  have:2^sz*2^sz≤64:=Nat.mul_le_mul (p8 h3) (p8 h3)
  omega
 have s3:sz=3:=by rcases cg h3 with rfl | rfl | rfl | rfl<;>first | rfl | (exact absurd n64 (by decide))
 have al:∀ s,s∈allS (2^sz)→s∈fl a:=ot (F.fnd1 ha) (fun s hs=>by
  have:=F.hin ha (dD.mp hs)
  exact aZ.mpr this) (by rw[iW];omega)
 have hg:∀ s s':Sp,In (2^sz) s→In (2^sz) s'→g s.1 s.2=g s'.1 s'.2:=fun s s' i j=>(F.cn' ha (dD.mp (al s (aZ.mpr i))) (dD.mp (al s' (aZ.mpr j)))).val
 have b1:=full64 h3 hg
 have ne:=F.ne a ha
 have pm:=F.perm
 rw[b1]at pm
 obtain⟨b,r,rfl⟩:=List.exists_cons_of_ne_nil ne
 have m:=F.mem ha (b:=b) (.head _)
 rw[b1,List.mem_singleton]at m
 have l1:=c9 ha
 rw[pm.length_eq]at l1
 have:r=[]:=List.length_eq_zero_iff.mp (by simp only[List.length_cons,List.length_nil]at l1;omega)
 subst this
 rw[m,s3]
 rfl
theorem Sh.round (q:Sh sz g t){n:Nat}(hn:13≤n){s:Sp}{a:List Bk}(ha:a∈ars (bs sz g))(h:hasA a s):pf n F.ak [picD sz t,.int (s.1:Int),.int (s.2:Int)]=.ok (aD a):=by
 obtain⟨n,rfl,hn⟩:=ex1 (show 12+1≤n by omega)
 have Fa:=bC (sz:=sz) (g:=g)
 have i:=Fa.hin ha h
 have h2:=q.p.spot_any (n:=n) (by omega) s.1 s.2
 rw[tK i.1 i.2,if_pos rfl]at h2
 have hl:(ars (bs sz g)).length≤64:=by unfold ars;rw[List.length_map];exact tW q.p.h3
 have isin:∀ c∈ars (bs sz g),pf n F.bg [.int (s.1:Int),.int (s.2:Int),aD c]=.ok (.bl (decide (hasA c s))):=fun c hc=>by
  obtain⟨n,rfl,hn⟩:=ex1 (show 11+1≤n by omega)
  have lc:c.length≤64:=by have:=c9 hc;have:=Fa.perm.length_eq;have:=jM q.p.h3 g;omega
  rw[xm,kr,bh (by simp;omega),R.bind_ok,aU Bk.d (fun b=>D.bl (decide (b.has s.1 s.2))) (fun b _=>sj (by omega) b s.1 s.2),R.bind_ok,qq]
  show R.ok (D.bl _)=_
  congr 2
  rw[Bool.eq_iff_iff]
  simp only[List.any_eq_true,decide_eq_true_eq]
  rfl
 rw[j7,bX,q.p.check (by omega),au,h2,au,q.areas (by omega),R.bind_ok,bh (by simp;omega),R.bind_ok,iM aD aD (fun c=>decide (hasA c s)) (fun c hc=>⟨by rw[isin c hc];rfl,fun _=>rfl⟩),R.bind_ok]
 obtain⟨r,hr⟩:=on (p:=fun c=>decide (hasA c s)) ha (decide_eq_true h) (fun c hc hp=>Fa.same hc ha (of_decide_eq_true hp) h .rfl)
 rw[hr,List.map_cons,show dIx (.lst (aD a::r.map aD)) (.int 0)=.ok (aD a) from ixL (i:=0) rfl]
 rfl
theorem Arf.bkok (q:Sh sz g t)(F:Arf sz g (bs sz g) f){a:List Bk}(ha:a∈f){b:Bk}(hb:b∈a):BkOk (2^sz) b:=(pc_T q.p.h3 q.wo).bkok (F.mem ha hb)
theorem Sh.areaat (q:Sh sz g t){n:Nat}(hn:14≤n){s:Sp}(i:In (2^sz) s):∃ l:List Sp,pf n F.ai [picD sz t,.int (s.1:Int),.int (s.2:Int)]=.ok (.lst (l.map sD))∧l.length≤64∧∀ s',s'∈l↔Cn (2^sz) g s s':=by
 obtain⟨n,rfl,hn⟩:=ex1 (show 13+1≤n by omega)
 have Fa:=bC (sz:=sz) (g:=g)
 obtain⟨a,ha,h⟩:=Fa.find i
 have lc:a.length≤64:=by have:=c9 ha;have:=Fa.perm.length_eq;have:=jM q.p.h3 g;omega
 obtain⟨l,pm,e⟩:=zz (Fa.sortable q.p.h3 ha)
 refine⟨l,?_,by rw[pm.length_eq];exact Fa.flen q.p.h3 ha,fun s'=>by rw[pm.mem_iff,dD];exact Fa.iff ha h s'⟩
 rw[rG,gu,q.round (by omega) ha h,R.bind_ok,bh (by simp;omega),au,qB Bk.d (fun b=>(spots b).map sD) 64 a [] (fun b hb acc hacc=>by
  have o:=Arf.bkok q Fa ha hb
  have l64:(spots b).length≤64:=by
   rw[bv]
   rcases o.w with e | e | e | e<;>rw[e]<;>decide
  rw[iw,lV (by omega) o (p8 q.p.h3),R.bind_ok,cE (by simp;omega)]
  rfl) (fun b hb=>by
  have o:=Arf.bkok q Fa ha hb
  rw[List.length_map,bv]
  rcases o.w with e | e | e | e<;>rw[e]<;>decide) (by simp;omega),aV,List.nil_append,← List.map_flatMap,e]
 rfl
end
def Bk.rc (b:Bk)(v:Int):Bk:=⟨b.l,b.t,b.w,v⟩
theorem BF (b:Bk):okTh b.d:=by
 show th 5 3 b.d=true
 unfold Bk.d
 rw[xJ]
 exact⟨by simp,fun d hd=>by simp at hd;rcases hd with rfl | rfl | rfl | rfl<;>rfl⟩
section
variable {sz:Nat}{g:Nat→Nat→Int}{t:Q Int}
theorem Sh.poured (q:Sh sz g t){n:Nat}(hn:14≤n){s:Sp}(i:In (2^sz) s){v:Int}(hv:W9 v):∃ g',pf n F.an [picD sz t,.int (s.1:Int),.int (s.2:Int),.int v]=.ok (picD sz (T g' sz))∧Sh sz g' (T g' sz) ∧
  ∀ s',In (2^sz) s'→(Cn (2^sz) g s s'→g' s'.1 s'.2=v)∧(¬ Cn (2^sz) g s s'→g' s'.1 s'.2=g s'.1 s'.2):=by
 obtain⟨n,rfl,hn⟩:=ex1 (show 13+1≤n by omega)
 have Fa:=bC (sz:=sz) (g:=g)
 obtain⟨a,ha,h⟩:=Fa.find i
 have hL:=jM q.p.h3 g
 have lc:a.length≤64:=by have:=c9 ha;have:=Fa.perm.length_eq;omega
 obtain⟨g',hg'⟩:∃ g':Nat→Nat→Int,g'=fun x y=>if (x,y)∈fl a then v else g x y:=⟨_,rfl⟩
 have hgv:∀ s',In (2^sz) s'→(Cn (2^sz) g s s'→g' s'.1 s'.2=v)∧(¬ Cn (2^sz) g s s'→g' s'.1 s'.2=g s'.1 s'.2):=fun s' _=>by
  subst hg'
  have e:=(dD (a:=a) (s:=s')).trans (Fa.iff ha h s')
  exact⟨fun c=>if_pos (e.mpr c),fun c=>if_neg fun z=>c (e.mp z)⟩
 have wo:Wo g' sz:=fun x y hx hy=>by
  by_cases c:Cn (2^sz) g s (x,y)
  ·rw[(hgv (x,y) ⟨hx,hy⟩).1 c];exact hv
  ·rw[(hgv (x,y) ⟨hx,hy⟩).2 c];exact q.wo x y hx hy
 refine⟨g',?_,sh_T q.p.h3 wo,hgv⟩
 have ma:∀ b∈a,b∈bs sz g:=fun b hb=>Fa.mem ha hb
 have pa:a.Pairwise Apart:=by
  have h1:(ars (bs sz g)).flatten.Pairwise Apart:=(Fa.perm.pairwise_iff fun {a b} r=>Apart.symm r).mpr xW
  exact(List.pairwise_flatten.mp h1).1 a ha
 obtain⟨g2,e1,e2⟩:=xR (sz:=sz) (g:=g') (l:=((bs sz g).filter fun b=>!decide (b∈a))++a.map fun b=>b.rc v) (fun b hb=>by
  rcases List.mem_append.mp hb with hb | hb
  ·exact(pc_T q.p.h3 q.wo).bkok (List.mem_filter.mp hb).1
  ·obtain⟨c,hc,rfl⟩:=List.mem_map.mp hb
   have o:=(pc_T q.p.h3 q.wo).bkok (ma c hc)
   exact⟨o.w,o.l,o.t,hv,o.r,o.d⟩) (by
  rw[List.pairwise_append]
  refine⟨xW.filter _,?_,fun b hb c hc=>?_⟩
  ·rw[List.pairwise_map]
   exact pa.imp fun {b c} r=>r
  ·obtain⟨d,hd,rfl⟩:=List.mem_map.mp hc
   obtain⟨hb,hn⟩:=List.mem_filter.mp hb
   intro x y h1 h2
   have:=om hb (ma d hd) h1 h2
   subst this
   rw[decide_eq_true hd]at hn
   cases hn) (fun x y hx hy=>by
  obtain⟨b,hb,hh⟩:=si (g:=g) hx hy
  by_cases c:b∈a
  ·exact⟨b.rc v,List.mem_append_right _ (List.mem_map.mpr ⟨b,c,rfl⟩),hh⟩
  ·exact⟨b,List.mem_append_left _ (List.mem_filter.mpr ⟨hb,by rw[decide_eq_false c];rfl⟩),hh⟩) (fun b hb x y hh=>by
  subst hg'
  rcases List.mem_append.mp hb with hb | hb
  ·obtain⟨hb,hn⟩:=List.mem_filter.mp hb
   have:(x,y)∉fl a:=fun z=>by
    obtain⟨c,hc,hh'⟩:=dD.mp z
    have:=om hb (ma c hc) hh hh'
    subst this
    rw[decide_eq_true hc]at hn
    cases hn
   show (if (x,y)∈fl a then v else g x y)=_
   rw[if_neg this,iU hb hh]
  ·obtain⟨c,hc,rfl⟩:=List.mem_map.mp hb
   exact if_pos (dD.mpr (show hasA a (x,y) from ⟨c,hc,hh⟩)))
 have lf:=List.length_filter_le (fun b=>!decide (b∈a)) (bs sz g)
 have ck:pf n F.av [.int v]=.ok .non:=by rw[se (by omega) rfl,in9 hv];rfl
 have wt:cMap (fun block1=>pf n F.aT [block1,.int v]) (a.map Bk.d)=.ok (.lst (a.map fun b=>(b.rc v).d)):=aU Bk.d _ fun b _=>by
  obtain⟨n,rfl,hn⟩:=ex1 (show 12+1≤n by omega)
  rw[mt,cY]
  rfl
 rw[u5,iz,q.round (by omega) ha h,au,ck,au,q.blocks (by omega),R.bind_ok,bh (by simp;omega),R.bind_ok,qH (fun b=>!decide (b∈a)) (fun b _=>by unfold dNotInD;rw[tV];rfl),au,show dIx (picD sz t) (.int 0)=.ok (.int (sz:Int)) from rfl,R.bind_ok,bh (by simp;omega),R.bind_ok,wt,R.bind_ok,catL (by simp only[List.length_map];omega),R.bind_ok]
 have e3:((bs sz g).filter fun b=>!decide (b∈a)).map Bk.d++(a.map fun b=>(b.rc v).d)=(((bs sz g).filter fun b=>!decide (b∈a))++a.map fun b=>b.rc v).map Bk.d:=by rw[List.map_append,List.map_map];rfl
 rw[e3,AV q.p.h3 (fun d hd=>by obtain⟨b,_,rfl⟩:=List.mem_map.mp hd;exact BF b) (by simp only[List.length_map,List.length_append];omega) (by omega),e1]
 show R.ok (picD sz (T g2 sz))=_
 rw[aH sz g2 g' e2]
theorem Sh.many (q:Sh sz g t){n:Nat}(hn:13≤n):pf n F.ad [picD sz t]=.ok (.int ((ars (bs sz g)).length:Nat)):=by
 obtain⟨n,rfl,hn⟩:=ex1 (show 12+1≤n by omega)
 rw[iG,bq,q.areas (by omega),R.bind_ok,lK,List.length_map]
 rfl
abbrev szs (f:List (List Bk)):List Nat:=f.map fun a=>(fl a).length
theorem xX:∀ a:List Bk,sumI (a.map fun b=>((b.w:Int)*(b.w:Int)))=((fl a).length:Int)
 | []=>rfl
 | b::a=>by
  rw[List.map_cons,bu,xX a,show fl (b::a)=spots b++fl a from List.flatMap_cons,List.length_append,bv]
  push_cast
  rfl
theorem Sh.sizes (q:Sh sz g t){n:Nat}(hn:13≤n)(hl:(ars (bs sz g)).length < 64):pf n F.af [picD sz t]=.ok (.lst ((sortI ((szs (ars (bs sz g))).map fun (i:Nat)=>(i:Int))).map .int)):=by
 obtain⟨n,rfl,hn⟩:=ex1 (show 12+1≤n by omega)
 have Fa:=bC (sz:=sz) (g:=g)
 rw[mr,cX,q.areas (by omega),R.bind_ok,bh (by simp;omega),R.bind_ok,aU aD (fun a=>D.int ((fl a).length:Int)) (fun a ha=>by
  obtain⟨n,rfl,hn⟩:=ex1 (show 11+1≤n by omega)
  have lc:a.length≤64:=by have:=c9 ha;have:=Fa.perm.length_eq;have:=jM q.p.h3 g;omega
  rw[mq,cW,bh (by simp;omega),R.bind_ok,aU Bk.d (fun b=>D.int ((b.w:Int)*(b.w:Int))) (fun b hb=>by
   have:=fk (Fa.mem ha hb)
   have:=p8 q.p.h3
   rw[show dIx b.d (.int 2)=.ok (.int (b.w:Int)) from rfl,R.bind_ok,R.bind_ok,bi (.inr (by omega))]),R.bind_ok]
  have e:a.map (fun b=>D.int ((b.w:Int)*(b.w:Int)))=(a.map fun b=>((b.w:Int)*(b.w:Int))).map .int:=by rw[List.map_map];rfl
  rw[e,gD,xX]
  rfl),R.bind_ok]
 have e:(ars (bs sz g)).map (fun a=>D.int ((fl a).length:Int))=(((szs (ars (bs sz g))).map fun (i:Nat)=>(i:Int))).map .int:=by rw[List.map_map,List.map_map];rfl
 rw[e]
 show outL (lB (dSortI [.lst ((((szs (ars (bs sz g))).map fun (i:Nat)=>(i:Int))).map .int)]) .rt)=_
 unfold dSortI
 simp only[hI]
 rw[if_pos (by simp;omega)]
 rfl
end
section
variable {sz:Nat}{g g':Nat→Nat→Int}{f f':List (List Bk)}
def CL (N:Nat)(g:Nat→Nat→Int)(s:Sp)(k:Nat):Prop:=∃ l:List Sp,l.Nodup∧(∀ s',s'∈l↔Cn N g s s')∧l.length=k
theorem CL.uniq {N:Nat}{s:Sp}{k k':Nat}(h:CL N g s k)(h':CL N g s k'):k=k':=by
 obtain⟨l,n,m,rfl⟩:=h
 obtain⟨l',n',m',rfl⟩:=h'
 exact((List.perm_ext_iff_of_nodup n n').mpr fun s=>(m s).trans (m' s).symm).length_eq
theorem CL.map {N:Nat}{s:Sp}{k:Nat}(φ ψ:Sp→Sp)(i:In N s)(h1:∀ a,In N a→In N (φ a)∧ψ (φ a)=a)(h2:∀ a,In N a→In N (ψ a)∧φ (ψ a)=a)(c:∀ a b,In N a→In N b→(Cn N g' a b↔Cn N g (φ a) (φ b)))(h:CL N g' s k):CL N g (φ s) k:=by
 obtain⟨l,n,m,rfl⟩:=h
 refine⟨l.map φ,?_,fun s'=>?_,List.length_map _⟩
 ·rw[List.Nodup,List.pairwise_map]
  exact n.imp_of_mem fun {a b} ha hb ne e=>ne (by rw[← (h1 a (((m a).mp ha).in i)).2,← (h1 b (((m b).mp hb).in i)).2,e])
 ·rw[List.mem_map]
  constructor
  ·rintro ⟨a,ha,rfl⟩
   have ca:=(m a).mp ha
   exact(c s a i (ca.in i)).mp ca
  ·intro z
   have j:=z.in (h1 s i).1
   have:=(h2 s' j).2
   refine⟨ψ s',(m _).mpr ((c s (ψ s') i (h2 s' j).1).mpr (by rw[this];exact z)),this⟩
theorem Arf.cl (F:Arf sz g (bs sz g) f){a:List Bk}(ha:a∈f){s:Sp}(h:s∈fl a)(k:Nat):CL (2^sz) g s k↔(fl a).length=k:=by
 have z:CL (2^sz) g s (fl a).length:=⟨fl a,F.fnd1 ha,fun s'=>dD.trans (F.iff ha (dD.mp h) s'),rfl⟩
 exact⟨fun h=>z.uniq h,fun e=>e ▸ z⟩
open Classical in
theorem Arf.count (F:Arf sz g (bs sz g) f)(k:Nat):(allS (2^sz)).countP (fun s=>decide (CL (2^sz) g s k))=k*(szs f).count k:=by
 rw[← F.all.countP_eq]
 have go:∀ l:List (List Bk),(∀ a∈l,a∈f)→((l.map fl).flatten).countP (fun s=>decide (CL (2^sz) g s k))=k*(szs l).count k:=by
  intro l
  induction l with
  | nil=>intro _;simp[szs]
  | cons a l ih =>
   intro h
   have ha:=h a (.head _)
   rw[List.map_cons,List.flatten_cons,List.countP_append,ih fun b hb=>h b (.tail _ hb)]
   show _=k*List.count k ((fl a).length::szs l)
   rw[List.count_cons]
   by_cases e:(fl a).length=k
   ·rw[List.countP_eq_length.mpr fun s hs=>decide_eq_true ((F.cl ha hs k).mpr e),e]
    simp only[beq_self_eq_true,if_true,Nat.mul_add,Nat.mul_one]
    omega
   ·rw[List.countP_eq_zero.mpr fun s hs z=>e ((F.cl ha hs k).mp (of_decide_eq_true z))]
    rw[if_neg (by simpa using e),Nat.add_zero,Nat.zero_add]
 exact go f fun a h=>h
theorem Arf.pos (F:Arf sz g (bs sz g) f):∀ n∈szs f,0 < n:=fun n hn=>by
 obtain⟨a,ha,rfl⟩:=List.mem_map.mp hn
 obtain⟨b,r,rfl⟩:=List.exists_cons_of_ne_nil (F.ne a ha)
 have:=fk (F.mem ha (b:=b) (.head _))
 refine List.length_pos_of_mem (a:=(b.l,b.t)) (dD.mpr ⟨b,.head _,?_⟩)
 exact⟨by show _≤b.l∧b.l < _;omega,by show _≤b.t∧b.t < _;omega⟩
theorem Arf.like (F:Arf sz g (bs sz g) f)(F':Arf sz g' (bs sz g') f')(φ ψ:Sp→Sp)(h1:∀ a,In (2^sz) a→In (2^sz) (φ a)∧ψ (φ a)=a)(h2:∀ a,In (2^sz) a→In (2^sz) (ψ a)∧φ (ψ a)=a)(c:∀ a b,In (2^sz) a→In (2^sz) b→(Cn (2^sz) g' a b↔Cn (2^sz) g (φ a) (φ b))) :
  (szs f').Perm (szs f):=by
 classical
 rw[List.perm_iff_count]
 intro k
 by_cases hk:k=0
 ·subst hk
  rw[List.count_eq_zero.mpr fun h=>absurd (F'.pos 0 h) (by omega),List.count_eq_zero.mpr fun h=>absurd (F.pos 0 h) (by omega)]
 ·have pS:((allS (2^sz)).map φ).Perm (allS (2^sz)):=by
   refine(List.perm_ext_iff_of_nodup ?_ (bj _)).mpr fun s=>?_
   ·rw[List.Nodup,List.pairwise_map]
    exact List.Pairwise.imp_of_mem (fun {a b} ha hb ne e=>ne (by rw[← (h1 a (aZ.mp ha)).2,← (h1 b (aZ.mp hb)).2,e])) (bj _)
   ·rw[show s∈spots _↔_ from aZ (side:=2^sz),List.mem_map]
    constructor
    ·rintro ⟨a,ha,rfl⟩;exact(h1 a (aZ.mp ha)).1
    ·intro i;exact⟨ψ s,aZ.mpr (h2 s i).1,(h2 s i).2⟩
  have e:(allS (2^sz)).countP (fun s=>decide (CL (2^sz) g' s k))=(allS (2^sz)).countP (fun s=>decide (CL (2^sz) g s k)):=by
   rw[← pS.countP_eq (fun s=>decide (CL (2^sz) g s k)),List.countP_map]
   refine List.countP_congr fun s hs=>?_
   have i:=aZ.mp hs
   simp only[Function.comp,decide_eq_true_eq]
   refine⟨fun h=>h.map φ ψ i h1 h2 c,fun h=>?_⟩
   have:=h.map (g:=g') ψ φ (h1 s i).1 h2 h1 (fun a b ia ib=>by
    rw[c (ψ a) (ψ b) (h2 a ia).1 (h2 b ib).1,(h2 a ia).2,(h2 b ib).2])
   rwa [(h1 s i).2]at this
  rw[F.count,F'.count]at e
  exact Nat.eq_of_mul_eq_mul_left (by omega) e
theorem Arf.fewer (F:Arf sz g (bs sz g) f)(F':Arf sz g' (bs sz g') f')(c:∀ a b,In (2^sz) a→In (2^sz) b→Cn (2^sz) g a b→Cn (2^sz) g' a b):f'.length≤f.length:=by
 classical
 have ex:∀ a'∈f',∃ a∈f,∃ s,hasA a' s∧hasA a s:=fun a' ha'=>by
  obtain⟨b,r,rfl⟩:=List.exists_cons_of_ne_nil (F'.ne a' ha')
  have hb:=F'.mem ha' (b:=b) (.head _)
  have:=fk hb
  have h:b.has (b.l,b.t).1 (b.l,b.t).2:=⟨by show _≤b.l∧b.l < _;omega,by show _≤b.t∧b.t < _;omega⟩
  obtain⟨a,ha,hs⟩:=F.find (d8 hb h)
  exact⟨a,ha,_,⟨b,.head _,h⟩,hs⟩
 have nd':f'.Nodup:=by
  have:f'.flatten.Nodup:=F'.perm.nodup_iff.mpr iV
  refine List.Pairwise.imp_of_mem (fun {a b} ha _ h e=>?_) (List.pairwise_flatten.mp this).2
  subst e
  obtain⟨x,r,rfl⟩:=List.exists_cons_of_ne_nil (F'.ne a ha)
  exact h x (.head _) x (.head _) rfl
 have:=tP (l:=f'.map fun a'=>if h:a'∈f' then (ex a' h).choose else []) (k:=f) (by
  rw[List.Nodup,List.pairwise_map]
  refine nd'.imp_of_mem fun {a b} ha hb ne e=>ne ?_
  rw[dif_pos ha,dif_pos hb]at e
  obtain⟨h1,s1,h2,h3⟩:=(ex a ha).choose_spec
  obtain⟨k1,s2,k2,k3⟩:=(ex b hb).choose_spec
  rw[e]at h1 h3
  exact F'.same ha hb h2 k2 (c _ _ (F.hin h1 h3) (F.hin k1 k3) (F.cn' h1 h3 k3))) (fun a ha=>by
  obtain⟨a',ha',rfl⟩:=List.mem_map.mp ha
  rw[dif_pos ha']
  exact(ex a' ha').choose_spec.1)
 rwa [List.length_map]at this
theorem Arf.sum (F:Arf sz g (bs sz g) f):(szs f).sum=2^sz*2^sz:=by
 have:=F.all.length_eq
 rw[iW,List.length_flatten,List.map_map]at this
 exact this
theorem nq {a b:List Int}(h:a.Perm b):sortI a=sortI b:=gK ((cc a).trans (h.trans (cc b).symm)) (il a) (il b)
theorem vK:(szs (ars (bs sz (mTurn (2^sz) g)))).Perm (szs (ars (bs sz g))):=by
 have p:=pos2 sz
 have h1:∀ a:Sp,In (2^sz) a→In (2^sz) (a.2,2^sz - 1 - a.1)∧(fun a:Sp=>((2^sz - 1 - a.2,a.1):Sp)) (a.2,2^sz - 1 - a.1)=a:=fun a i=>⟨⟨i.2,by show 2^sz - 1 - a.1 < _;omega⟩,Prod.ext (by show 2^sz - 1 - (2^sz - 1 - a.1)=a.1;have:=i.1;omega) rfl⟩
 have h2:∀ a:Sp,In (2^sz) a→In (2^sz) (2^sz - 1 - a.2,a.1)∧(fun a:Sp=>((a.2,2^sz - 1 - a.1):Sp)) (2^sz - 1 - a.2,a.1)=a:=fun a i=>⟨⟨by show 2^sz - 1 - a.2 < _;omega,i.1⟩,Prod.ext rfl (by show 2^sz - 1 - (2^sz - 1 - a.2)=a.2;have:=i.2;omega)⟩
 refine Arf.like bC bC (fun a=>(a.2,2^sz - 1 - a.1)) (fun a=>(2^sz - 1 - a.2,a.1)) h1 h2 fun a b ia ib=>⟨fun h=>?_,fun h=>?_⟩
 ·exact h.map (fun a=>(a.2,2^sz - 1 - a.1)) (fun a b i j x z=>⟨by unfold Ad In at *;simp only;omega,(h1 b j).1,z⟩) ia
 ·have:=h.map (g':=mTurn (2^sz) g) (fun a=>(2^sz - 1 - a.2,a.1)) (fun a b i j x z=>⟨by unfold Ad In at *;simp only;omega,(h2 b j).1,by
   show g a.1 (2^sz - 1 - (2^sz - 1 - a.2))=g b.1 (2^sz - 1 - (2^sz - 1 - b.2))
   rw[show 2^sz - 1 - (2^sz - 1 - a.2)=a.2 by have:=i.2;omega,show 2^sz - 1 - (2^sz - 1 - b.2)=b.2 by have:=j.2;omega]
   exact z⟩) (h1 a ia).1
  have e1:=(h1 a ia).2
  have e2:=(h1 b ib).2
  simp only at e1 e2 this
  rwa [e1,e2]at this
theorem vL:(szs (ars (bs sz (mMirr (2^sz) g)))).Perm (szs (ars (bs sz g))):=by
 have p:=pos2 sz
 have h1:∀ a:Sp,In (2^sz) a→In (2^sz) (2^sz - 1 - a.1,a.2)∧(fun a:Sp=>((2^sz - 1 - a.1,a.2):Sp)) (2^sz - 1 - a.1,a.2)=a:=fun a i=>⟨⟨by show 2^sz - 1 - a.1 < _;omega,i.2⟩,Prod.ext (by show 2^sz - 1 - (2^sz - 1 - a.1)=a.1;have:=i.1;omega) rfl⟩
 refine Arf.like bC bC (fun a=>(2^sz - 1 - a.1,a.2)) (fun a=>(2^sz - 1 - a.1,a.2)) h1 h1 fun a b ia ib=>⟨fun h=>?_,fun h=>?_⟩
 ·exact h.map (fun a=>(2^sz - 1 - a.1,a.2)) (fun a b i j x z=>⟨by unfold Ad In at *;simp only;omega,(h1 b j).1,z⟩) ia
 ·have:=h.map (g':=mMirr (2^sz) g) (fun a=>(2^sz - 1 - a.1,a.2)) (fun a b i j x z=>⟨by unfold Ad In at *;simp only;omega,(h1 b j).1,by
   show g (2^sz - 1 - (2^sz - 1 - a.1)) a.2=g (2^sz - 1 - (2^sz - 1 - b.1)) b.2
   rw[show 2^sz - 1 - (2^sz - 1 - a.1)=a.1 by have:=i.1;omega,show 2^sz - 1 - (2^sz - 1 - b.1)=b.1 by have:=j.1;omega]
   exact z⟩) (h1 a ia).1
  have e1:=(h1 a ia).2
  have e2:=(h1 b ib).2
  simp only at e1 e2 this
  rwa [e1,e2]at this
theorem xY (k:Nat):(szs (ars (bs sz (mWay (2^sz) k g)))).Perm (szs (ars (bs sz g))):=by
 have go:∀ (g:Nat→Nat→Int) (j:Nat),(szs (ars (bs sz (turns (2^sz) j g)))).Perm (szs (ars (bs sz g))):=by
  intro g j
  induction j with
  | zero=>exact .refl _
  | succ j ih=>exact vK.trans ih
 unfold mWay
 split
 ·exact(go _ _).trans vL
 ·exact go _ _
theorem xZ {h:Int→Int}(hi:∀ s s':Sp,In (2^sz) s→In (2^sz) s'→h (g s.1 s.2)=h (g s'.1 s'.2)→g s.1 s.2=g s'.1 s'.2):(szs (ars (bs sz fun x y=>h (g x y)))).Perm (szs (ars (bs sz g))) :=
 Arf.like bC bC (fun a=>a) (fun a=>a) (fun a i=>⟨i,rfl⟩) (fun a i=>⟨i,rfl⟩) fun a b ia ib=>⟨fun c=>c.mono (fun a b i j _ z=>hi a b i j z) ia,fun c=>c.mono (fun a b i j _ z=>congrArg h z) ia⟩
end
def hrow (g:Nat→Nat→Int)(N y:Nat):Nat:=(List.range (N - 1)).countP fun i=>decide (¬ g (1+i) y=g i y)
def hor (g:Nat→Nat→Int)(N:Nat):Nat:=((List.range N).map fun y=>hrow g N y).sum
theorem ones (l:List Nat):sumI (l.map fun _=>(1:Int))=(l.length:Int):=by
 induction l with
 | nil=>rfl
 | cons a l ih=>rw[List.map_cons,bu,ih,List.length_cons];push_cast;omega
theorem AY {n:Nat}(hn:1≤n)(g:Nat→Nat→Int){N:Nat}(h1:1≤N)(h8:N≤8)(y:Nat):pf n F.aW [rowT .int g N y]=.ok (.int (hrow g N y:Int)):=by
 obtain⟨n,rfl,hn⟩:=ex1 (show 0+1≤n by omega)
 have e1:dLen [rowT .int g N y]=.ok (.int (N:Int)):=by unfold rowT;rw[bZ];simp
 have e2:rng2 [.int 1,.int (N:Int)]=.ok ((List.range (N - 1)).map fun i=>D.int (((1+i:Nat)):Int)):=qE (a:=1) h1 (by omega)
 rw[nS,dM,e1,R.bind_ok,e2,R.bind_ok,iM (fun i:Nat=>D.int (((1+i:Nat)):Int)) (fun _=>D.int 1) (fun i=>decide (¬ g (1+i) y=g i y)) (fun i hi=>⟨by
  have hi:=List.mem_range.mp hi
  have e3:dSub (.int ((1+i:Nat):Int)) (.int 1)=.ok (.int (i:Int)):=by rw[iN,show ((1+i:Nat):Int) - 1=(i:Int) by omega]
  rw[gC (x:=1+i) (by omega),R.bind_ok,e3,R.bind_ok,gC (x:=i) (by omega),R.bind_ok,fg,aB]
  congr 1
  rw[Bool.eq_iff_iff]
  simp,fun _=>rfl⟩),R.bind_ok]
 have e:((List.range (N - 1)).filter fun i=>decide (¬ g (1+i) y=g i y)).map (fun _=>D.int 1)=(((List.range (N - 1)).filter fun i=>decide (¬ g (1+i) y=g i y)).map fun _=>(1:Int)).map .int:=by rw[List.map_map];rfl
 rw[e,gD,ones,← List.countP_eq_length_filter]
 rfl
theorem l0:∀ l:List Nat,sumI (l.map fun (i:Nat)=>(i:Int))=((l.sum:Nat):Int)
 | []=>rfl
 | a::l=>by rw[List.map_cons,bu,l0 l,List.sum_cons];push_cast;rfl
section
variable {sz:Nat}{g:Nat→Nat→Int}{t:Q Int}
theorem Sh.unl (q:Sh sz g t){n:Nat}(hn:11≤n):pf n F.ah [picD sz t]=.ok (.int (hor g (2^sz):Int)):=by
 obtain⟨n,rfl,hn⟩:=ex1 (show 10+1≤n by omega)
 have h8:=p8 q.p.h3
 have h1:=pos2 sz
 have e1:sq (rowsT .int g (2^sz) (2^sz))=.ok ((List.range (2^sz)).map fun y=>rowT .int g (2^sz) y):=by
  unfold rowsT sq asSeq
  rw[R.bind_ok,if_pos (by simp;omega)]
 rw[jt,bI,q.rows (by omega),R.bind_ok,e1,R.bind_ok,aU (fun y=>rowT .int g (2^sz) y) (fun y=>D.int (hrow g (2^sz) y:Int)) (fun y _=>AY (by omega) g h1 h8 y),R.bind_ok]
 have e:(List.range (2^sz)).map (fun y=>D.int (hrow g (2^sz) y:Int))=(((List.range (2^sz)).map fun y=>hrow g (2^sz) y).map fun (i:Nat)=>(i:Int)).map .int:=by rw[List.map_map,List.map_map];rfl
 rw[e,gD,l0]
 rfl
def bor (g:Nat→Nat→Int)(N:Nat):Nat:=hor g N+hor (mSwap N g) N
theorem Sh.border (q:Sh sz g t){n:Nat}(hn:13≤n):pf n F.aK [picD sz t]=.ok (.int (bor g (2^sz):Int)):=by
 obtain⟨n,rfl,hn⟩:=ex1 (show 12+1≤n by omega)
 have sw:=q.swapped (n:=n) (by omega)
 rw[u4,iy,q.unl (by omega),R.bind_ok,sw,R.bind_ok,(q.mv xM).unl (by omega),R.bind_ok,aY]
 show R.ok (D.int _)=_
 unfold bor
 push_cast
 rfl
end
theorem qO (m:Nat):((List.range m).map fun i=>m - 1 - i).Perm (List.range m):=by
 refine(List.perm_ext_iff_of_nodup ?_ List.nodup_range).mpr fun a=>?_
 ·rw[List.Nodup,List.pairwise_map]
  exact List.Pairwise.imp_of_mem (fun {a b} ha hb ne e=>ne (by have:=List.mem_range.mp ha;have:=List.mem_range.mp hb;omega)) List.nodup_range
 ·rw[List.mem_map,List.mem_range]
  exact⟨fun ⟨i,hi,e⟩=>by have:=List.mem_range.mp hi;omega,fun h=>⟨m - 1 - a,List.mem_range.mpr (by omega),by omega⟩⟩
theorem tZ (f:Nat→Nat)(N:Nat):((List.range N).map fun y=>f (N - 1 - y)).sum=((List.range N).map f).sum:=by
 have:=((qO N).map f).sum_nat
 rwa [List.map_map]at this
theorem qP (g:Nat→Nat→Int)(N:Nat):hor (mMirr N g) N=hor g N:=by
 unfold hor
 congr 1
 refine List.map_congr_left fun y _=>?_
 unfold hrow
 rw[← (qO (N - 1)).countP_eq,List.countP_map]
 refine List.countP_congr fun i hi=>?_
 have hi:=List.mem_range.mp hi
 rw[Function.comp,decide_eq_true_iff,decide_eq_true_iff]
 show (¬ g (N - 1 - (1+(N - 1 - 1 - i))) y=g (N - 1 - (N - 1 - 1 - i)) y)↔_
 rw[show N - 1 - (1+(N - 1 - 1 - i))=i by omega,show N - 1 - (N - 1 - 1 - i)=1+i by omega]
 exact⟨fun h e=>h e.symm,fun h e=>h e.symm⟩
theorem ya (g:Nat→Nat→Int)(N:Nat):bor (mMirr N g) N=bor g N:=by
 unfold bor
 rw[qP]
 congr 1
 exact tZ (fun y=>hrow (mSwap N g) N y) N
theorem yb (g:Nat→Nat→Int)(N:Nat):bor (mTurn N g) N=bor g N:=by
 unfold bor
 rw[Nat.add_comm (hor g N),show mTurn N g=mMirr N (mSwap N g) from rfl,qP]
 congr 1
 exact tZ (fun y=>hrow g N y) N
theorem zA (g:Nat→Nat→Int)(N k:Nat):bor (mWay N k g) N=bor g N:=by
 have go:∀ (g:Nat→Nat→Int) (j:Nat),bor (turns N j g) N=bor g N:=by
  intro g j
  induction j with
  | zero=>rfl
  | succ j ih=>exact(yb _ N).trans ih
 unfold mWay
 split
 ·rw[go,ya]
 ·rw[go]
theorem zB {g:Nat→Nat→Int}{N:Nat}{h:Int→Int}(hi:∀ s s':Sp,In N s→In N s'→h (g s.1 s.2)=h (g s'.1 s'.2)→g s.1 s.2=g s'.1 s'.2):bor (fun x y=>h (g x y)) N=bor g N:=by
 have go:∀ g:Nat→Nat→Int,(∀ s s':Sp,In N s→In N s'→h (g s.1 s.2)=h (g s'.1 s'.2)→g s.1 s.2=g s'.1 s'.2)→hor (fun x y=>h (g x y)) N=hor g N:=by
  intro g hi
  unfold hor
  congr 1
  refine List.map_congr_left fun y hy=>?_
  have hy:=List.mem_range.mp hy
  refine List.countP_congr fun i hii=>?_
  have hii:=List.mem_range.mp hii
  simp only[decide_eq_true_eq]
  exact⟨fun z e=>z (congrArg h e),fun z e=>z (hi (1+i,y) (i,y) ⟨by show 1+i < N;omega,hy⟩ ⟨by show i < N;omega,hy⟩ e)⟩
 unfold bor
 rw[go g hi]
 congr 1
 exact go (mSwap N g) fun s s' i j e=>hi (s.2,s.1) (s'.2,s'.1) ⟨i.2,i.1⟩ ⟨j.2,j.1⟩ e
theorem t0 (s:Sp)(n:Nat):good (n+1) (sD s)=true:=by unfold sD;rw[FF.good];rfl
theorem BH (a b:Sp):eqD (sD a) (sD b)=decide (a=b):=by
 obtain⟨a1,a2⟩:=a
 obtain⟨b1,b2⟩:=b
 simp only[sD,eqD,eqDs,Prod.mk.injEq,Bool.and_true]
 rw[Bool.eq_iff_iff]
 simp
 omega
theorem qQ (n:Nat):∀ l:List Sp,goods (n+1) (l.map sD)=true
 | []=>rfl
 | s::l=>by rw[List.map_cons,goods,qQ n l,t0];rfl
theorem yc (s:Sp)(l:List Sp):dInD (sD s) (.lst (l.map sD))=.ok (.bl (decide (s∈l))):=by
 unfold dInD
 simp only
 rw[if_pos ⟨t0 s 59,qQ 59 l⟩,List.any_map]
 congr 2
 rw[Bool.eq_iff_iff];simp only[List.any_eq_true,Function.comp,BH,decide_eq_true_iff]
 constructor
 ·rintro ⟨x,h,rfl⟩;exact h
 ·intro h;exact⟨s,h,rfl⟩
theorem qR (s:Sp)(l:List Sp):dNotInD (sD s) (.lst (l.map sD))=.ok (.bl (!decide (s∈l))):=by unfold dNotInD;rw[yc];rfl
theorem fU:∀ (n:Nat) (q:Q Int) (l t:Nat),(bks n q l t).length≤4^q.dep
 | n,.lf v,l,t=>by rw[dC];exact Nat.one_le_pow _ _ (by decide)
 | 0,.nd _ _ _ _,_,_=>by simp[bks]
 | n+1,.nd a b c d,l,t=>by
  have h1:=fU n a l t;have h2:=fU n b (l+2^n) t;have h3:=fU n c l (t+2^n);have h4:=fU n d (l+2^n) (t+2^n)
  have m:∀ e:Nat,e≤max (max a.dep b.dep) (max c.dep d.dep)→4^e≤4^max (max a.dep b.dep) (max c.dep d.dep):=fun e h=>Nat.pow_le_pow_right (by decide) h
  have m1:=m a.dep (by omega);have m2:=m b.dep (by omega);have m3:=m c.dep (by omega);have m4:=m d.dep (by omega)
  simp only[bks,List.length_append,Q.dep]
  rw[Nat.add_comm 1,Nat.pow_succ]
  omega
theorem ye {α:Type}:∀ {f:List (List α)},(∀ a∈f,a≠[])→f.length≤f.flatten.length
 | [],_=>Nat.le_refl _
 | a::f,h=>by
  have:=ye fun b hb=>h b (.tail _ hb)
  have:=List.length_pos_iff.mpr (h a (.head _))
  rw[List.flatten_cons,List.length_append,List.length_cons];omega
theorem few {sz:Nat}{t:Q Int}(p:Pc sz t)(hd:t.dep≤2):(ars (bs sz (t.at sz))).length < 64:=by
 have Fa:=bC (sz:=sz) (g:=t.at sz)
 have h1:=ye Fa.ne
 have h2:=Fa.perm.length_eq
 have h3:=fU sz (T (t.at sz) sz) 0 0
 rw[← fc sz t p.dep]at h3
 have h4:4^t.lean.dep≤4^2:=Nat.pow_le_pow_right (by decide) (fO hd)
 unfold bs at h1 h2
 rw[← fc sz t p.dep]at h1 h2
 unfold bs
 rw[← fc sz t p.dep]
 omega
theorem j0 {α:Type}{p:α→Bool}{l:List α}(h:∀ a∈l,p a=false):l.filter p=[]:=List.filter_eq_nil_iff.mpr fun a ha z=>by rw[h a ha]at z;cases z
theorem cG {n:Nat}(hn:2≤n)(ns:List Int)(k:Nat){a:Int}(ha:a=(k:Int)){m:Nat}(hm:0 < m):∃ x:Nat,x < m∧pf n F.aa [scr ns,.int a,.int (m:Int)]=.ok (.int (x:Int)):=by
 have h1:=tF (ns:=ns) (k:=k) (m:=(m:Int)) (by omega)
 have h2:=tG (ns:=ns) (k:=k) (m:=(m:Int)) (by omega)
 refine⟨(pk ns k (m:Int)).toNat,by omega,?_⟩
 rw[Int.toNat_of_nonneg h1]
 exact oj hn ns k ha (by omega)
section
variable {sz:Nat}{g:Nat→Nat→Int}{t:Q Int}
def Pd (sz:Nat)(g g':Nat→Nat→Int)(s:Sp)(v:Int):Prop:=∀ s',In (2^sz) s'→(Cn (2^sz) g s s'→g' s'.1 s'.2=v)∧(¬ Cn (2^sz) g s s'→g' s'.1 s'.2=g s'.1 s'.2)
theorem Pd.mono {g':Nat→Nat→Int}{s:Sp}{v:Int}(i:In (2^sz) s)(h:Pd sz g g' s v){a b:Sp}(ia:In (2^sz) a)(c:Cn (2^sz) g a b):Cn (2^sz) g' a b :=
 c.mono (fun a b ia ib x z=>by
  by_cases ca:Cn (2^sz) g s a
  ·rw[(h a ia).1 ca,(h b ib).1 (ca.step x ib z)]
  ·rw[(h a ia).2 ca,(h b ib).2 fun cb=>ca (cb.step x.symm ia z.symm),z]) ia
theorem iX (q:Sh sz g t){g1:Nat→Nat→Int}{t1:Q Int}(q1:Sh sz g1 t1){s:Sp}(i:In (2^sz) s){w:Int}(hp:Pd sz g g1 s w){l:List Sp}(hl:∀ s',s'∈l↔Cn (2^sz) g s s')(ns:List Int)(k:Nat){n:Nat}(hn:14≤n) :
  cZ (pf n) (scr ns) (picD sz t) (rowsT .int g (2^sz) (2^sz)) (.int ((2^sz:Nat):Int)) (.int (s.1:Int)) (.int (s.2:Int)) (.int w) (.lst (l.map sD)) (picD sz t1) (.int (k:Int))=.nx ():=by
 have m2:dMul (.int 2) (.int (k:Int))=.ok (.int (2*(k:Int))):=bi (.inr (by decide))
 obtain⟨x,hx,p1⟩:=cG (n:=n) (by omega) ns (5010+2*k) (a:=5010+2*(k:Int)) (by omega) (m:=2^sz) (pos2 sz)
 obtain⟨y,hy,p2⟩:=cG (n:=n) (by omega) ns (5011+2*k) (a:=5011+2*(k:Int)) (by omega) (m:=2^sz) (pos2 sz)
 have j:In (2^sz) (x,y):=⟨hx,hy⟩
 obtain⟨l2,e2,_,h2⟩:=q.areaat (n:=n) hn j
 have e2:pf n F.ai [picD sz t,.int (x:Int),.int (y:Int)]=_:=e2
 have e1:=q1.worth (n:=n) (by omega) hx hy
 have e3:dInD (.tup [.int (x:Int),.int (y:Int)]) (.lst (l.map sD))=.ok (.bl (decide ((x,y)∈l))):=yc (x,y) l
 have e4:dInD (.tup [.int (s.1:Int),.int (s.2:Int)]) (.lst (l2.map sD))=.ok (.bl (decide (s∈l2))):=yc s l2
 have e5:decide (s∈l2)=decide ((x,y)∈l):=by
  rw[Bool.eq_iff_iff,decide_eq_true_iff,decide_eq_true_iff,h2,hl]
  exact⟨fun c=>c.symm j,fun c=>c.symm i⟩
 have e6:(rIf (asB (R.ok (D.bl (decide ((x,y)∈l))))) (.ok (.int w)) ((dIx (rowsT .int g (2^sz) (2^sz)) (.int (y:Int))).bind fun x5=>dIx x5 (.int (x:Int))))=.ok (.int (g1 x y)):=by
  rw[aB]
  by_cases c:Cn (2^sz) g s (x,y)
  ·rw[decide_eq_true ((hl _).mpr c),show g1 x y=w from (hp (x,y) j).1 c];rfl
  ·rw[decide_eq_false fun z=>c ((hl _).mp z),show g1 x y=g x y from (hp (x,y) j).2 c,iR hy,R.bind_ok,gC hx];rfl
 rw[cZ,m2,R.bind_ok,aY,R.bind_ok,p1,au,R.bind_ok,aY,R.bind_ok,p2,au,e1,R.bind_ok,e3,e6,R.bind_ok,dB rfl,aB,au,if_neg (by decide),aV,R.bind_ok,e2,R.bind_ok,e4,R.bind_ok,e5,dB rfl,aB,au,if_neg (by decide)]
theorem Sh.poured' (q:Sh sz g t){n:Nat}(hn:14≤n){s:Sp}(i:In (2^sz) s){v:Int}(hv:W9 v):∃ g',pf n F.an [picD sz t,.int (s.1:Int),.int (s.2:Int),.int v]=.ok (picD sz (T g' sz))∧Sh sz g' (T g' sz)∧Pd sz g g' s v:=q.poured hn i hv
end
theorem mO (ns:List Int):pf 40 F.aL [.lst (ns.map .int)]=.ok (.bl true):=by
 obtain⟨sz,hsz,p0⟩:=cG (n:=39) (by decide) ns 4990 (a:=4990) (by decide) (m:=4) (by decide)
 have h3:sz≤3:=by omega
 have h8:=p8 h3
 have two:=pos2 sz
 have em:dMin2 [.int (sz:Int),.int 2]=.ok (.int ((min sz 2:Nat):Int)):=by
  have:sz=0∨sz=1∨sz=2∨sz=3:=by omega
  rcases this with rfl | rfl | rfl | rfl<;>rfl
 have et:pf 39 F.al [scr ns,.int 1,.int ((min sz 2:Nat):Int)]=.ok ((dt ns (min sz 2) 1).d .int):=xB ns (min sz 2) 1 39 (by omega)
 have pc:Pc sz (dt ns (min sz 2) 1):=⟨h3,Nat.le_trans (r6 ns _ _) (by omega),xA ns _ _⟩
 have fw:=few pc (Nat.le_trans (r6 ns _ _) (by omega))
 have ed:D.tup [.int (sz:Int),(dt ns (min sz 2) 1).d .int]=picD sz (dt ns (min sz 2) 1):=rfl
 have q:=pc.sh
 generalize dt ns (min sz 2) 1=t at *
 generalize t.at sz=g at *
 have hr:=q.lrows (n:=39) (by decide)
 have el:dLen [rowsT .int g (2^sz) (2^sz)]=.ok (.int ((2^sz:Nat):Int)):=by simp[rowsT]
 obtain⟨x,hx,p1⟩:=cG (n:=39) (by decide) ns 5000 (a:=5000) (by decide) (m:=2^sz) two
 obtain⟨y,hy,p2⟩:=cG (n:=39) (by decide) ns 5001 (a:=5001) (by decide) (m:=2^sz) two
 obtain⟨w,hw,p3⟩:=cG (n:=39) (by decide) ns 5002 (a:=5002) (by decide) (m:=3) (by decide)
 have hw9:W9 (w:Int):=⟨by omega,by omega⟩
 have i:In (2^sz) (x,y):=⟨hx,hy⟩
 obtain⟨l,ea,_,hl⟩:=q.areaat (n:=39) (by decide) i
 have ea:pf 39 F.ai [picD sz t,.int (x:Int),.int (y:Int)]=_:=ea
 obtain⟨g1,ep,q1,hp⟩:=q.poured' (n:=39) (by decide) i hw9
 have ep:pf 39 F.an [picD sz t,.int (x:Int),.int (y:Int),.int (w:Int)]=_:=ep
 have e1:=q1.worth (n:=39) (by decide) hx hy
 rw[show g1 x y=(w:Int) from (hp (x,y) i).1 .rfl]at e1
 have e2:=q1.many (n:=39) (by decide)
 have e3:=q.many (n:=39) (by decide)
 have l1:=Arf.fewer (bC (sz:=sz) (g:=g)) (bC (sz:=sz) (g:=g1)) fun a b ia ib c=>hp.mono i ia c
 have e4:dGt (.int ((ars (bs sz g1)).length:Nat)) (.int ((ars (bs sz g)).length:Nat))=.ok (.bl false):=by rw[kx,decide_eq_false (by omega)]
 obtain⟨l2,eb,ll2,hl2⟩:=q1.areaat (n:=39) (by decide) i
 have eb:pf 39 F.ai [picD sz (T g1 sz),.int (x:Int),.int (y:Int)]=_:=eb
 have sql:∀ m:List Sp,m.length≤64→sq (.lst (m.map sD))=.ok (m.map sD):=fun m hm=>bh (by simp;omega)
 have f1:cFil (fun Cb=>asB (dNotInD Cb (.lst (l2.map sD)))) (fun Cb=>.ok Cb) (l.map sD)=.ok (.lst []):=by
  rw[iM sD sD (fun s=>!decide (s∈l2)) (fun s _=>⟨by rw[qR];rfl,fun _=>rfl⟩),j0 fun s hs=>by rw[decide_eq_true ((hl2 s).mpr (hp.mono i i ((hl s).mp hs)))];rfl]
  rfl
 have nn:dNf (.lst []) (.lst [])=.ok (.bl false):=rfl
 obtain⟨g2,ep2,q2,hp2⟩:=q1.poured' (n:=39) (by decide) i hw9
 have ep2:pf 39 F.an [picD sz (T g1 sz),.int (x:Int),.int (y:Int),.int (w:Int)]=_:=ep2
 rw[aH sz g2 g1 fun a b ha hb=>by
  by_cases c:Cn (2^sz) g1 (x,y) (a,b)
  ·rw[show g2 a b=(w:Int) from (hp2 (a,b) ⟨ha,hb⟩).1 c,← show g1 x y=g1 a b from c.val]
   exact((hp (x,y) i).1 .rfl).symm
  ·exact(hp2 (a,b) ⟨ha,hb⟩).2 c]at ep2
 have n1:=dB q1.p.g60
 have f2:cFil (fun B5=>(rAnd (asB (dNotInD B5 (.lst (l.map sD)))) (asB ((((dIx B5 (.int 1)).bind fun x7=>dIx (rowsT .int g (2^sz) (2^sz)) x7).bind fun x8=>(dIx B5 (.int 0)).bind fun x9=>dIx x8 x9).bind fun x10=>dNf x10 (.int (w:Int)))))) (fun B5=>.ok B5) (l2.map sD)=.ok (.lst []):=by
  rw[iM sD sD (fun s=>!decide (s∈l) && !decide (g s.1 s.2=(w:Int))) (fun s hs=>⟨by
   have j:=((hl2 s).mp hs).in i
   rw[qR,aB,show dIx (sD s) (.int 1)=.ok (.int (s.2:Int)) from rfl,show dIx (sD s) (.int 0)=.ok (.int (s.1:Int)) from rfl,R.bind_ok,iR j.2,R.bind_ok,R.bind_ok,gC j.1,R.bind_ok,fg,aB,tw],fun _=>rfl⟩),j0 fun s hs=>by
   have c:=(hl2 s).mp hs
   have j:=c.in i
   by_cases k:s∈l
   ·rw[decide_eq_true k];rfl
   ·rw[decide_eq_true (show g s.1 s.2=(w:Int) by rw[← (hp s j).2 fun z=>k ((hl s).mpr z),← c.val];exact(hp (x,y) i).1 .rfl),Bool.not_true,Bool.and_false]]
  rfl
 obtain⟨g3,ep3,q3,hp3⟩:=q.poured' (n:=39) (by decide) i (q.wo x y hx hy)
 have ep3:pf 39 F.an [picD sz t,.int (x:Int),.int (y:Int),.int (g x y)]=_:=ep3
 rw[aH sz g3 g fun a b ha hb=>by
  by_cases c:Cn (2^sz) g (x,y) (a,b)
  ·rw[show g3 a b=g x y from (hp3 (a,b) ⟨ha,hb⟩).1 c];exact c.val
  ·exact(hp3 (a,b) ⟨ha,hb⟩).2 c]at ep3
 have en:=q.lean (n:=39) (by decide)
 have n3:=dB (sh_T h3 q.wo).p.g60
 have lo:=qD (f:=fun _ x1=>cZ (pf 39) (scr ns) (picD sz t) (rowsT .int g (2^sz) (2^sz)) (.int ((2^sz:Nat):Int)) (.int (x:Int)) (.int (y:Int)) (.int (w:Int)) (.lst (l.map sD)) (picD sz (T g1 sz)) x1) [.int 0,.int 1,.int 2,.int 3] (fun d hd=>by
  simp only[List.mem_cons,List.not_mem_nil,or_false]at hd
  rcases hd with rfl | rfl | rfl | rfl
  ·exact iX q q1 i hp hl ns 0 (by decide)
  ·exact iX q q1 i hp hl ns 1 (by decide)
  ·exact iX q q1 i hp hl ns 2 (by decide)
  ·exact iX q q1 i hp hl ns 3 (by decide))
 obtain⟨k,hk,p4⟩:=cG (n:=39) (by decide) ns 5030 (a:=5030) (by decide) (m:=8) (by decide)
 have bw:=q.byway (n:=39) (by decide) hk
 have lw:=xY (sz:=sz) (g:=g) k
 have fw2:(ars (bs sz (mWay (2^sz) k g))).length < 64:=by have:=lw.length_eq;rw[List.length_map,List.length_map]at this;omega
 have s0:=q.sizes (n:=39) (by decide) fw
 have s1:=(q.way k).sizes (n:=39) (by decide) fw2
 rw[nq (lw.map fun (i:Nat)=>(i:Int))]at s1
 have gs:good 60 (.lst ((sortI ((szs (ars (bs sz g))).map fun (i:Nat)=>(i:Int))).map .int))=true:=by rw[FF.good];exact jK _ _
 have n4:=dB gs
 have b0:=q.border (n:=39) (by decide)
 have b1:=(q.way k).border (n:=39) (by decide)
 rw[zA]at b1
 have n5:dNf (.int (bor g (2^sz):Int)) (.int (bor g (2^sz):Int))=.ok (.bl false):=dB rfl
 obtain⟨sh,hsh,p5⟩:=cG (n:=39) (by decide) ns 5031 (a:=5031) (by decide) (m:=10) (by decide)
 have rg:rng1 [.int 10]=.ok ((List.range 10).map fun i:Nat=>D.int (i:Int)):=fi (by decide)
 obtain⟨tb,htb⟩:∃ tb:List Int,tb=(List.range 10).map fun (i:Nat)=>((i:Int)+(sh:Int))%10:=⟨_,rfl⟩
 have M:cMap (fun B2=>(dAdd B2 (.int (sh:Int))).bind fun x31=>dMod x31 (.int 10)) ((List.range 10).map fun i:Nat=>D.int (i:Int))=.ok (.lst (tb.map .int)):=by
  rw[htb,List.map_map]
  exact aU _ _ fun i _=>by rw[aY,R.bind_ok,b8 (by decide)];rfl
 have tb1:Tbl tb:=⟨by rw[htb];simp,fun v hv=>by
  rw[htb]at hv;obtain⟨a,_,rfl⟩:=List.mem_map.1 hv
  exact⟨by omega,by omega⟩⟩
 have at1:∀ v,W9 v→tbAt tb v=(v+(sh:Int))%10:=fun v hv=>by
  obtain⟨k,rfl⟩:∃ k:Nat,v=(k:Int):=⟨v.toNat,by have:=hv.1;omega⟩
  have hk:k < 10:=by have:=hv.2;omega
  unfold tbAt;rw[htb,List.getD_eq_getElem?_getD,Int.toNat_natCast,List.getElem?_map,List.getElem?_range hk];rfl
 have dtb:D.tup (tb.map .int)=tbD tb:=rfl
 have ld:=q.led tb1 (n:=39) (by decide)
 have inj:∀ s s':Sp,In (2^sz) s→In (2^sz) s'→tbAt tb (g s.1 s.2)=tbAt tb (g s'.1 s'.2)→g s.1 s.2=g s'.1 s'.2:=fun s s' j j' e=>by
  have w1:=q.wo s.1 s.2 j.1 j.2
  have w2:=q.wo s'.1 s'.2 j'.1 j'.2
  rw[at1 _ w1,at1 _ w2]at e
  have:=w1.1;have:=w1.2;have:=w2.1;have:=w2.2
  omega
 have lb:=xZ (sz:=sz) (g:=g) (h:=tbAt tb) inj
 have fw3:(ars (bs sz fun x y=>tbAt tb (g x y))).length < 64:=by have:=lb.length_eq;rw[List.length_map,List.length_map]at this;omega
 have s2:=(q.ledS tb1).sizes (n:=39) (by decide) fw3
 rw[nq (lb.map fun (i:Nat)=>(i:Int))]at s2
 have b2:=(q.ledS tb1).border (n:=39) (by decide)
 rw[zB inj]at b2
 have rg2:rng2 [.int 2,.int 10]=.ok ([2,3,4,5,6,7,8,9].map .int):=rfl
 have ct:dAdd (.tup [.int 0,.int 0]) (.tup ([2,3,4,5,6,7,8,9].map .int))=.ok (tbD [0,0,2,3,4,5,6,7,8,9]):=rfl
 have tb2:Tbl [0,0,2,3,4,5,6,7,8,9]:=⟨rfl,fun v hv=>by
  simp only[List.mem_cons,List.not_mem_nil,or_false]at hv
  unfold W9
  omega⟩
 have ld2:=q.led tb2 (n:=39) (by decide)
 have e5:=(q.ledS tb2).many (n:=39) (by decide)
 have l3:=Arf.fewer (bC (sz:=sz) (g:=g)) (bC (sz:=sz) (g:=fun x y=>tbAt [0,0,2,3,4,5,6,7,8,9] (g x y))) fun a b ia ib c=>c.mono (fun a b i j _ z=>congrArg _ z) ia
 have e6:dLe (.int ((ars (bs sz fun x y=>tbAt [0,0,2,3,4,5,6,7,8,9] (g x y))).length:Nat)) (.int ((ars (bs sz g)).length:Nat))=.ok (.bl true):=by rw[tm,decide_eq_true (by omega)]
 have su:dSum [.lst ((sortI ((szs (ars (bs sz g))).map fun (i:Nat)=>(i:Int))).map .int)]=.ok (.int ((2^sz*2^sz:Nat):Int)):=by
  rw[gD,vD (cc _),l0,(bC (sz:=sz) (g:=g)).sum]
 have mu:dMul (.int ((2^sz:Nat):Int)) (.int ((2^sz:Nat):Int))=.ok (.int ((2^sz*2^sz:Nat):Int)):=sideMul h3
 have p0:pf 39 F.aa [scr ns,.int 4990,.int 4]=_:=p0
 have p3:pf 39 F.aa [scr ns,.int 5002,.int 3]=_:=p3
 have p4:pf 39 F.aa [scr ns,.int 5030,.int 8]=_:=p4
 have p5:pf 39 F.aa [scr ns,.int 5031,.int 10]=_:=p5
 have n0:dNf (.int (w:Int)) (.int (w:Int))=.ok (.bl false):=dB rfl
 have ee:dEq (.int ((2^sz*2^sz:Nat):Int)) (.int ((2^sz*2^sz:Nat):Int))=.ok (.bl true):=xI rfl
 have sa:=sql l ‹_›
 have sb:=sql l2 ll2
 rw[show D.lst (ns.map .int)=scr ns from rfl,rH,gw,p0,au,em,R.bind_ok,et,R.bind_ok,au,ed,hr,au,el,au,p1,au,p2,au,p3,au,ea,au,ep,au]
 rw[e1,R.bind_ok,n0,aB,e2,R.bind_ok,e3,R.bind_ok,e4,aB,fQ,au,if_neg (by decide),aV,eb,au,sa,R.bind_ok,f1,R.bind_ok,nn,aB,ep2,R.bind_ok,n1,aB,fQ,au,if_neg (by decide),aV]
 rw[sb,R.bind_ok,f2,R.bind_ok,nn,aB,au,if_neg (by decide),aV,iR hy,R.bind_ok,gC hx,R.bind_ok,ep3,R.bind_ok,en,R.bind_ok,n3,aB,au,if_neg (by decide),aV,rng4,au,lo,aV]
 rw[p4,au,bw,au,s1,R.bind_ok,s0,R.bind_ok,n4,aB,b1,R.bind_ok,b0,R.bind_ok,n5,aB,fQ,au,if_neg (by decide),aV,p5,au,rg,R.bind_ok,M,R.bind_ok,fe,R.bind_ok,dtb,ld,au]
 rw[s2,R.bind_ok,R.bind_ok,n4,aB,b2,R.bind_ok,R.bind_ok,n5,aB,fQ,au,if_neg (by decide),aV,rg2,R.bind_ok,R.bind_ok,fe,R.bind_ok,ct,R.bind_ok,ld2,R.bind_ok,e5,au,R.bind_ok,su,R.bind_ok,mu,R.bind_ok,ee,R.bind_ok,e6]
 rfl
end Lw
end
end
noncomputable section
set_option maxHeartbeats 4000000
namespace Lw
open PySem PySem.Spec PyProof.Rows L2 FF
def cname:Nat→Str
 | 0 => "FourError"
 | 1 => "NoPicture"
 | 2 => "NoSpot"
 | 5 => "NoRule"
 | 6 => "NoBlocks"
 | 21 => "is_worth"
 | _ => "?"
def Cof (K:PySem.W.Frag)(i:Nat):Addr:=match PySem.W.nsIn K mainGlobals (cname i) with
 | some (some (.ref a))=>a
 | _=>0
theorem cof {K:PySem.W.Frag}{i:Nat}{x:Str}{a:Addr}(h:Ng K x (some (.ref a)))(hx:cname i=x:=by rfl):Cof K i=a:=by unfold Cof;rw[hx,h]
structure Fds (K:PySem.W.Frag)(mg:Str→Option Value):Prop where
 F20:Fd K mg "is_whole" ["thing"] gN
 F21:Fd K mg "is_worth" ["thing"] gO
 F22:Fd K mg "is_size" ["thing"] ju
 F23:Fd K mg "is_tree" ["size","thing","is_end"] jv
 F24:Fd K mg "is_sized_tree" ["thing","is_end"] cH
 F25:Fd K mg "put_together" ["four"] dr
 F26:Fd K mg "lean_tree" ["tree"] fE
 F43:Fd K mg "worth_in" ["tree","side","x","y"] gP
 F44:Fd K mg "tree_of" ["rows","left","top","side"] jx
 F27:Fd K mg "is_picture" ["thing"] eS
 F28:Fd K mg "check_picture" ["thing"] cI
 F65:Fd K mg "check_worth" ["thing"] dP
 F45:Fd K mg "side_of" ["picture"] jz
 F46:Fd K mg "is_along" ["side","thing"] gQ
 F47:Fd K mg "check_spot" ["picture","x","y"] eT
 F48:Fd K mg "worth_at" ["picture","x","y"] gR
 F49:Fd K mg "shown_row" ["picture","y"] fG
 F50:Fd K mg "shown_rows" ["picture"] eU
 F51:Fd K mg "is_row" ["thing","side"] li
 F52:Fd K mg "are_rows" ["thing"] gS
 F53:Fd K mg "of_rows" ["rows"] jA
 F29:Fd K mg "lean" ["picture"] rM
 F188:Fd K mg "blocks_in" ["tree","left","top","side"] fH
 F189:Fd K mg "blocks" ["picture"] ll
 F190:Fd K mg "is_place" ["thing","side"] gT
 F191:Fd K mg "is_block" ["thing"] gU
 F192:Fd K mg "check_blocks" ["size","things"] du
 F193:Fd K mg "spots_of" ["block"] gW
 F194:Fd K mg "worths_by_spot" ["squares"] ce
 F195:Fd K mg "row_of" ["worths","side","y"] lm
 F196:Fd K mg "of_blocks" ["size","squares"] fJ
 F197:Fd K mg "has_spot" ["block","x","y"] gX
 F203:Fd K mg "meet" ["one","other","along"] rN
 F204:Fd K mg "overlap" ["one","other","along"] jB
 F205:Fd K mg "are_beside" ["one","other"] eW
 F69:Fd K mg "moved_tree" ["tree","order"] eX
 F70:Fd K mg "moved" ["picture","order"] nU
 F125:Fd K mg "turned" ["picture"] ln
 F84:Fd K mg "mirrored" ["picture"] gY
 F71:Fd K mg "swapped" ["picture"] jC
 F127:Fd K mg "check_way" ["thing"] fK
 F128:Fd K mg "by_way" ["picture","way"] lq
 F209:Fd K mg "comes_to" ["block","area"] gZ
 F210:Fd K mg "areas_with" ["block","found"] eY
 F211:Fd K mg "in_order" ["area","squares"] g5
 F212:Fd K mg "areas" ["picture"] nW
 F213:Fd K mg "is_in" ["x","y","area"] nX
 F214:Fd K mg "blocks_round" ["picture","x","y"] dv
 F215:Fd K mg "area_at" ["picture","x","y"] jD
 F216:Fd K mg "many_spots" ["area"] eZ
 F217:Fd K mg "area_sizes" ["picture"] e8
 F218:Fd K mg "how_many_areas" ["picture"] cf
 F219:Fd K mg "unlike_in" ["row"] fM
 F220:Fd K mg "unlike_across" ["picture"] cK
 F221:Fd K mg "border" ["picture"] lr
 F222:Fd K mg "with_worth" ["block","worth"] e9
 F223:Fd K mg "poured" ["picture","x","y","worth"] lu
 F156:Fd K mg "is_table" ["thing"] g7
 F157:Fd K mg "check_table" ["thing"] dQ
 F162:Fd K mg "led_tree" ["table","tree"] g8
 F163:Fd K mg "led_over" ["table","picture"] g9
 F30:Fd K mg "_law_cell" ["_law_script","_law_k"] ly
 F31:Fd K mg "_law_pick" ["_law_script","_law_k","_law_many"] lz
 F32:Fd K mg "_law_tree" ["_law_script","_law_at","_law_size"] lE
 F54:Fd K mg "_law_rows_of" ["_law_size","_law_tree_here"] fN
 F55:Fd K mg "_law_rows" ["_law_picture_here"] lF
 F229:Fd K mg "law" ["_law_script"] bb
theorem tab {P:Program}{w:World}{K:PySem.W.Frag}{mg:Str→Option Value}{base:Heap}{C:Nat→Addr}(T:Txt K mg C w.params)(S:Fds K mg):∀ n,Tab P w K mg base C n (pf n)
 | 0=>⟨g0 S.F20,g0 S.F21,g0 S.F22,g0 S.F23,g0 S.F24,g0 S.F25,g0 S.F26,g0 S.F43,g0 S.F44,g0 S.F27,g0 S.F28,g0 S.F65,g0 S.F45,g0 S.F46,g0 S.F47,g0 S.F48,g0 S.F49,g0 S.F50,g0 S.F51,g0 S.F52,g0 S.F53,g0 S.F29,g0 S.F188,g0 S.F189,g0 S.F190,g0 S.F191,g0 S.F192,g0 S.F193,g0 S.F194,g0 S.F195,g0 S.F196,g0 S.F197,g0 S.F203,g0 S.F204,g0 S.F205,g0 S.F69,g0 S.F70,g0 S.F125,g0 S.F84,g0 S.F71,g0 S.F127,g0 S.F128,g0 S.F209,g0 S.F210,g0 S.F211,g0 S.F212,g0 S.F213,g0 S.F214,g0 S.F215,g0 S.F216,g0 S.F217,g0 S.F218,g0 S.F219,g0 S.F220,g0 S.F221,g0 S.F222,g0 S.F223,g0 S.F156,g0 S.F157,g0 S.F162,g0 S.F163,g0 S.F30,g0 S.F31,g0 S.F32,g0 S.F54,g0 S.F55,g0 S.F229,
  fun i hi=>by
  simp only[fvL,List.mem_cons,List.not_mem_nil,or_false]at hi
  rcases hi with rfl
  ·exact Bs S.F21 T.f_is_worth⟩
 | n+1=>by
  have G:=tab T S n (P:=P) (w:=w) (base:=base)
  exact⟨g1 S.F20 (pU T G),g1 S.F21 (jW T G),g1 S.F22 (rR T G),g1 S.F23 (rS T G),g1 S.F24 (jG T G),g1 S.F25 (j9 T G),g1 S.F26 (nZ T G),g1 S.F43 (pV T G),g1 S.F44 (rT T G),g1 S.F27 (mE T G),g1 S.F28 (jH T G),g1 S.F65 (lG T G),g1 S.F45 (rU T G),g1 S.F46 (pW T G),g1 S.F47 (mF T G),g1 S.F48 (pX T G),g1 S.F49 (n6 T G),g1 S.F50 (mG T G),g1 S.F51 (vg T G),g1 S.F52 (pY T G),g1 S.F53 (rV T G),g1 S.F29 (zm T G),g1 S.F188 (n8 T G),g1 S.F189 (vh T G),g1 S.F190 (pZ T G),g1 S.F191 (p6 T G),g1 S.F192 (ke T G),g1 S.F193 (p7 T G),g1 S.F194 (iK T G),g1 S.F195 (vi T G),g1 S.F196 (n9 T G),g1 S.F197 (p9 T G),g1 S.F203 (zn T G),g1 S.F204 (rW T G),g1 S.F205 (mH T G),g1 S.F69 (mI T G),g1 S.F70 (xo T G),g1 S.F125 (vj T G),g1 S.F84 (qf T G),g1 S.F71 (rX T G),g1 S.F127 (oa T G),g1 S.F128 (vk T G),g1 S.F209 (qh T G),g1 S.F210 (mJ T G),g1 S.F211 (qk T G),g1 S.F212 (xp T G),g1 S.F213 (xq T G),g1 S.F214 (kg T G),g1 S.F215 (rY T G),g1 S.F216 (mK T G),g1 S.F217 (mL T G),g1 S.F218 (iL T G),g1 S.F219 (og T G),g1 S.F220 (jI T G),g1 S.F221 (vm T G),g1 S.F222 (mM T G),g1 S.F223 (vn T G),g1 S.F156 (ql T G),g1 S.F157 (lH T G),g1 S.F162 (qm T G),g1 S.F163 (qo T G),g1 S.F30 (vo T G),g1 S.F31 (vp T G),g1 S.F32 (vq T G),g1 S.F54 (oh T G),g1 S.F55 (vt T G),g1 S.F229 (lI T G),
  fun i hi=>by
  simp only[fvL,List.mem_cons,List.not_mem_nil,or_false]at hi
  rcases hi with rfl
  ·exact Bt S.F21 T.f_is_worth (jW T G) (fun ds h=>Bq h)⟩
theorem AZ {l:PySem.W.OpenLaw}{w:World}{K:PySem.W.Frag}{h:Heap}{mg:Str→Option Value}{fa f1 f66 C0 C1 C2 C5 C6:Addr}(X:K.In h)(G:h.Ns mainGlobals mg)(hfa:mg "law"=some (.ref fa))(S:Fds K mg)
  {od66 an66:Option Addr} {sl66:Array (Option Value)} {oc66 kV66 dc66 pm66 cd66 ct66:Value} {tk_GREATEST_WORTH tk_LARGEST_SIZE tk_TURNS tk_WAYS:Tok} {ta_BY_MIRRORING ta_BY_SWAPPING ta_BY_TURNING ta_SIDES:Addr} {tn_BY_MIRRORING tn_BY_SWAPPING tn_BY_TURNING tn_SIDES:Nat} {ts_BY_MIRRORING ts_BY_SWAPPING ts_BY_TURNING ts_SIDES:Array (Option Value)} {tt_BY_MIRRORING_0 tt_BY_MIRRORING_1 tt_BY_MIRRORING_2 tt_BY_MIRRORING_3 tt_BY_SWAPPING_0 tt_BY_SWAPPING_1 tt_BY_SWAPPING_2 tt_BY_SWAPPING_3 tt_BY_TURNING_0 tt_BY_TURNING_1 tt_BY_TURNING_2 tt_BY_TURNING_3 tt_SIDES_0 tt_SIDES_1 tt_SIDES_2 tt_SIDES_3:Tok}
  (z0:Ng K "is_worth" (some (.ref f1)))
  (z1:Ng K "law" (some (.ref f66)))
  (z2:K.lookup f66=some ⟨oc66,od66,.func (PySem.W.fnOf "law" "law" (defArgs bb) (defBody bb) (defScope bb) .none kV66 dc66 pm66 an66 cd66 ct66),sl66⟩)
  (z3:PySem.W.codeIn K cd66 "law"=true)
  (z4:PySem.W.keepIn K (.ref f66)=true)
  (z5:Ng K "all" none)
  (z6:Ng K "any" none)
  (z7:Ng K "bool" none)
  (z8:Ng K "enumerate" none)
  (z9:Ng K "int" none)
  (z10:Ng K "isinstance" none)
  (z11:Ng K "len" none)
  (z12:Ng K "list" none)
  (z13:Ng K "min" none)
  (z14:Ng K "range" none)
  (z15:Ng K "sorted" none)
  (z16:Ng K "sum" none)
  (z17:Ng K "tuple" none)
  (z18:Ng K "GREATEST_WORTH" (some (.int 9 tk_GREATEST_WORTH)))
  (z19:Ng K "LARGEST_SIZE" (some (.int 3 tk_LARGEST_SIZE)))
  (z20:Ng K "TURNS" (some (.int 4 tk_TURNS)))
  (z21:Ng K "WAYS" (some (.int 8 tk_WAYS)))
  (z22:Ng K "BY_MIRRORING" (some (.ref ta_BY_MIRRORING)))
  (z23:K.lookup ta_BY_MIRRORING=some ⟨.type "tuple",none,.seq #[.int 1 tt_BY_MIRRORING_0,.int 0 tt_BY_MIRRORING_1,.int 3 tt_BY_MIRRORING_2,.int 2 tt_BY_MIRRORING_3] tn_BY_MIRRORING,ts_BY_MIRRORING⟩)
  (z24:Ng K "BY_SWAPPING" (some (.ref ta_BY_SWAPPING)))
  (z25:K.lookup ta_BY_SWAPPING=some ⟨.type "tuple",none,.seq #[.int 0 tt_BY_SWAPPING_0,.int 2 tt_BY_SWAPPING_1,.int 1 tt_BY_SWAPPING_2,.int 3 tt_BY_SWAPPING_3] tn_BY_SWAPPING,ts_BY_SWAPPING⟩)
  (z26:Ng K "BY_TURNING" (some (.ref ta_BY_TURNING)))
  (z27:K.lookup ta_BY_TURNING=some ⟨.type "tuple",none,.seq #[.int 2 tt_BY_TURNING_0,.int 0 tt_BY_TURNING_1,.int 3 tt_BY_TURNING_2,.int 1 tt_BY_TURNING_3] tn_BY_TURNING,ts_BY_TURNING⟩)
  (z28:Ng K "SIDES" (some (.ref ta_SIDES)))
  (z29:K.lookup ta_SIDES=some ⟨.type "tuple",none,.seq #[.int 1 tt_SIDES_0,.int 2 tt_SIDES_1,.int 4 tt_SIDES_2,.int 8 tt_SIDES_3] tn_SIDES,ts_SIDES⟩)
  (z30:Ng K "FourError" (some (.ref C0)))
  (z31:Ng K "NoPicture" (some (.ref C1)))
  (z32:Ng K "NoSpot" (some (.ref C2)))
  (z33:Ng K "NoRule" (some (.ref C5)))
  (z34:Ng K "NoBlocks" (some (.ref C6)))
  (z35:PySem.W.excIn K C1 bmVE "ValueError.__new__"=true)
  (z36:PySem.W.excIn K C2 bmVE "ValueError.__new__"=true)
  (z37:PySem.W.excIn K C5 bmVE "ValueError.__new__"=true)
  (z38:PySem.W.excIn K C6 bmVE "ValueError.__new__"=true)
  (z39:PySem.W.excIn K C0 bmVE "ValueError.__new__"=true)
  (z40:PySem.W.subIn K (.ref C1) (.ref C0)=some true)
  (z41:PySem.W.subIn K (.ref C2) (.ref C0)=some true)
  (z42:PySem.W.subIn K (.ref C5) (.ref C0)=some true)
  (z43:PySem.W.subIn K (.ref C6) (.ref C0)=some true) :
  ∃ fd:FuncData,(∀ (s:Shared) (v:Value),BindsTo s fd ⟨[v],[]⟩ [("_law_script",v)])∧∀ base:Heap,K.In base→base.Ns mainGlobals mg→FnOk l.prog w K mg base (CXE l.prog w) 40 fa fd ["_law_script"] (spF K (Cof K) 1 (pf 40 Lw.F.aL)):=by
 have e:=hfa.symm.trans (PySem.W.mg_of X G z1)
 cases e
 have q_FourError:Cof K 0=C0:=cof z30
 have q_NoPicture:Cof K 1=C1:=cof z31
 have q_NoSpot:Cof K 2=C2:=cof z32
 have q_NoRule:Cof K 5=C5:=cof z33
 have q_NoBlocks:Cof K 6=C6:=cof z34
 have T:Txt K mg (Cof K) w.params:=⟨PySem.W.mg_none_of X G z5,
  PySem.W.mg_none_of X G z6,
  PySem.W.mg_none_of X G z7,
  PySem.W.mg_none_of X G z8,
  PySem.W.mg_none_of X G z9,
  PySem.W.mg_none_of X G z10,
  PySem.W.mg_none_of X G z11,
  PySem.W.mg_none_of X G z12,
  PySem.W.mg_none_of X G z13,
  PySem.W.mg_none_of X G z14,
  PySem.W.mg_none_of X G z15,
  PySem.W.mg_none_of X G z16,
  PySem.W.mg_none_of X G z17,
  ⟨_,PySem.W.mg_of X G z18⟩,
  ⟨_,PySem.W.mg_of X G z19⟩,
  ⟨_,PySem.W.mg_of X G z20⟩,
  ⟨_,PySem.W.mg_of X G z21⟩,
  ⟨_,PySem.W.mg_of X G z22,_,_,_,z23,rfl,rfl,rfl,by show 4≤sizeLine;decide,(.cons ⟨_,rfl⟩ (.cons ⟨_,rfl⟩ (.cons ⟨_,rfl⟩ (.cons ⟨_,rfl⟩ .nil))))⟩,
  ⟨_,PySem.W.mg_of X G z24,_,_,_,z25,rfl,rfl,rfl,by show 4≤sizeLine;decide,(.cons ⟨_,rfl⟩ (.cons ⟨_,rfl⟩ (.cons ⟨_,rfl⟩ (.cons ⟨_,rfl⟩ .nil))))⟩,
  ⟨_,PySem.W.mg_of X G z26,_,_,_,z27,rfl,rfl,rfl,by show 4≤sizeLine;decide,(.cons ⟨_,rfl⟩ (.cons ⟨_,rfl⟩ (.cons ⟨_,rfl⟩ (.cons ⟨_,rfl⟩ .nil))))⟩,
  ⟨_,PySem.W.mg_of X G z28,_,_,_,z29,rfl,rfl,rfl,by show 4≤sizeLine;decide,(.cons ⟨_,rfl⟩ (.cons ⟨_,rfl⟩ (.cons ⟨_,rfl⟩ (.cons ⟨_,rfl⟩ .nil))))⟩,
  (by rw[cof (i:=F.ac) z0];exact PySem.W.mg_of X G z0),
  (by rw[q_FourError];exact PySem.W.mg_of X G z30),
  (by rw[q_NoPicture];exact PySem.W.mg_of X G z31),
  (by rw[q_NoSpot];exact PySem.W.mg_of X G z32),
  (by rw[q_NoRule];exact PySem.W.mg_of X G z33),
  (by rw[q_NoBlocks];exact PySem.W.mg_of X G z34),
  (by rw[q_NoPicture];exact z35),
  (by rw[q_NoSpot];exact z36),
  (by rw[q_NoRule];exact z37),
  (by rw[q_NoBlocks];exact z38),
  (wC (by rw[q_FourError];exact z39) (fun j hj=>by
   simp only[esL,List.mem_cons,List.not_mem_nil,or_false]at hj
   rcases hj with rfl | rfl | rfl | rfl
   ·rw[q_NoPicture,q_FourError];exact z40
   ·rw[q_NoSpot,q_FourError];exact z41
   ·rw[q_NoRule,q_FourError];exact z42
   ·rw[q_NoBlocks,q_FourError];exact z43))⟩
 have FL:=qW (st:=bb) z2 z3 z4
 exact⟨PySem.W.fnOf "law" "law" (defArgs bb) (defBody bb) (defScope bb) .none kV66 dc66 pm66 an66 cd66 ct66,fun s v=>.of_eq rfl,fun base _ _=>lI T (tab T S 39) FL⟩
theorem walk {l:PySem.W.OpenLaw}{q:Program}{loose:List Str}{XP:(Str→Option Value)→Heap→Prop}{YP:World→Heap→Prop}{d:DefRec}{K:Params→PySem.W.Frag}(hn:l.most=some 63)(hdf:d.params.defaults=[])
  (hY:∀ (w:World) (h:Heap),YP w h→(K w.params).In h)
  (F:∀ (w:World) (mg:Str→Option Value) (fa:Addr) (h:Heap),(K w.params).In h→h.Ns mainGlobals mg→mg d.name=some (.ref fa) →
   ∃ fd:FuncData,(∀ (s:Shared) (u:Value),BindsTo s fd ⟨[u],[]⟩ [("_law_script",u)])∧∀ base:Heap,(K w.params).In base→base.Ns mainGlobals mg→FnOk l.prog w (K w.params) mg base (CXE l.prog w) 40 fa fd ["_law_script"] (spF (K w.params) (Cof (K w.params)) 1 (pf 40 Lw.F.aL))) :
  PySem.W.WalkO q loose XP YP l.row.toRowW d [] (fun f vs=>PySem.call f vs) :=
 L2.yt (n:=63) (k:=40) (x := "_law_script") (CX:=fun w=>CXE l.prog w) (sp:=fun w=>spF (K w.params) (Cof (K w.params)) 1 (pf 40 Lw.F.aL)) hn (by decide) hdf ⟨rfl,by decide,by decide⟩ hY F
  (fun w H a ns hl _ hS=>⟨rfl,H,[.lst (ns.map .int)],Same.refl H,by rw[Reps];exact⟨_,_,rfl,by rw[Rep];exact⟨a,_,rfl,hS,sT ns⟩,by rw[Reps]⟩,by rw[mO ns];exact fun H' Z' _ v rv=>by rw[Rep]at rv;exact rv⟩)
  fun w H s e s' z=>by obtain⟨_,_,_,_,_,_,_,_,_,_,_,_,_,z⟩:=z;exact z
end Lw
open PySem PySem.W PyProof.Rows
def PySem.W.Fast.tw6995856312189772548:Nat:=0
def PySem.W.Fast.tw9963542887620301026:Nat:=0
def PySem.W.Fast.tw6050540947164944464:Nat:=0
def PySem.W.Fast.tw7197481930485718624:Nat:=0
def PySem.W.Fast.tw9487316272259592715:Nat:=0
def PySem.W.Fast.tw15966721633421763989:Nat:=0
def PySem.W.Fast.tw8115426086306412653:Nat:=0
def PySem.W.Fast.tw3904382259478879386:Nat:=0
def PySem.W.Fast.tw13362087552050256648:Nat:=0
def PySem.W.Fast.tw14489195678955858423:Nat:=0
def PySem.W.Fast.tw13870868081966515787:Nat:=0
def PySem.W.Fast.tw13452484526800862848:Nat:=0
def PySem.W.Fast.tw17349079546491877229:Nat:=0
def PySem.W.Fast.tw10096817985121664846:Nat:=0
def PySem.W.Fast.tw15253819020832728777:Nat:=0
def PySem.W.Fast.tw4449978121833444241:Nat:=0
def PySem.W.Fast.tw1030219710019726950:Nat:=0
def PySem.W.Fast.tw1617927526367466210:Nat:=0
def PySem.W.Fast.tw15795790897211168615:Nat:=0
def PySem.W.Fast.tw6435546098618647676:Nat:=0
def PySem.W.Fast.tw8813957979048063263:Nat:=0
def PySem.W.Fast.tw10355999734821878139:Nat:=0
def PySem.W.Fast.tw3011767156305002418:Nat:=0
def PySem.W.Fast.tw5976077373472196129:Nat:=0
def PySem.W.Fast.tw6367161034013974362:Nat:=0
def PySem.W.Fast.tw18114347302318727243:Nat:=0
def PySem.W.Fast.tw5541900036011491354:Nat:=0
def PySem.W.Fast.tw2260060235383445071:Nat:=0
def PySem.W.Fast.tw12807265461638947906:Nat:=0
def PySem.W.Fast.tw7199539592536436497:Nat:=0
def PySem.W.Fast.tw10785155583833305198:Nat:=0
def PySem.W.Fast.tw3080413124162633099:Nat:=0
def PySem.W.Fast.tw11770798147193913542:Nat:=0
def PySem.W.Fast.tw15233757765426423236:Nat:=0
def PySem.W.Fast.tw15319435487038243645:Nat:=0
def PySem.W.Fast.tw13243533864629367062:Nat:=0
def PySem.W.Fast.tw81689778687179071:Nat:=0
def PySem.W.Fast.tw3648338454432603866:Nat:=0
def PySem.W.Fast.tw17987214924146253036:Nat:=0
def PySem.W.Fast.tw4082411595810064595:Nat:=0
def PySem.W.Fast.tw1541679843448748230:Nat:=0
def PySem.W.Fast.tw9008248847894446551:Nat:=0
def PySem.W.Fast.tw1882784714710634917:Nat:=0
def PySem.W.Fast.tw14928653994054900040:Nat:=0
def PySem.W.Fast.tw10533994228622854029:Nat:=0
def PySem.W.Fast.tw13259459989567332887:Nat:=0
def PySem.W.Fast.tw5169242877482952722:Nat:=0
def PySem.W.Fast.tw14719702565553750996:Nat:=0
def PySem.W.Fast.tw7336690571414559952:Nat:=0
def PySem.W.Fast.tw13745225180964418154:Nat:=0
def PySem.W.Fast.tw2929603874094746465:Nat:=0
def PySem.W.Fast.tw9361069410936907189:Nat:=0
def PySem.W.Fast.tw14024490594509005759:Nat:=0
def PySem.W.Fast.tw5518284449259339659:Nat:=0
def PySem.W.Fast.tw4096465296827695658:Nat:=0
def PySem.W.Fast.tw4449151747170765793:Nat:=0
def PySem.W.Fast.tw3938533400489000366:Nat:=0
def PySem.W.Fast.tw3254767350164251600:Nat:=0
def PySem.W.Fast.tw682978424402136928:Nat:=0
def PySem.W.Fast.tw14844063440940223227:Nat:=0
def PySem.W.Fast.tw10706701342479031114:Nat:=0
def PySem.W.Fast.tw5630398416969082496:Nat:=0
def PySem.W.Fast.tw10987511937307747707:Nat:=0
def PySem.W.Fast.tw9871183240612393698:Nat:=0
def PySem.W.Fast.tw1961219530067985282:Nat:=0
def PySem.W.Fast.tw10738802848077927340:Nat:=0
def PySem.W.Fast.tw13798609197126915635:Nat:=0
def PySem.W.Fast.tw14399647542092650414:Nat:=0
def PySem.W.Fast.tw2710411574838145463:Nat:=0
def PySem.W.Fast.tw7795875482100492390:Nat:=0
def PySem.W.Fast.tw13787921126752086122:Nat:=0
def PySem.W.Fast.tw11873018912216586865:Nat:=0
def PySem.W.Fast.tw3378168316204834902:Nat:=0
def PySem.W.Fast.tw2459628666238157394:Nat:=0
def PySem.W.Fast.tw6399479594518551238:Nat:=0
def PySem.W.Fast.tw4759042586547736319:Nat:=0
def PySem.W.Fast.tw4605575292951446101:Nat:=0
def PySem.W.Fast.tw14005411666939482057:Nat:=0
def PySem.W.Fast.tw199326297656073906:Nat:=0
def PySem.W.Fast.tw2243385308677895525:Nat:=0
def PySem.W.Fast.tw6227758509268428262:Nat:=0
def PySem.W.Fast.tw4882249159129187107:Nat:=0
def PySem.W.Fast.tw269201476977706678:Nat:=0
def PySem.W.Fast.tw7544606977830336864:Nat:=0
def PySem.W.Fast.tw948832383351820445:Nat:=0
def PySem.W.Fast.tw10720939114611167257:Nat:=0
def PySem.W.Fast.tw7380763231454446552:Nat:=0
def PySem.W.Fast.tw17801746861369657476:Nat:=0
def PySem.W.Fast.tw9890463324154332376:Nat:=0
def PySem.W.Fast.tw788314586980078791:Nat:=0
def PySem.W.Fast.tw2628353125555045243:Nat:=0
def PySem.W.Fast.tw14888294585615763798:Nat:=0
def PySem.W.Fast.tw17320244517870107880:Nat:=0
def PySem.W.Fast.tw748746361416505741:Nat:=0
def PySem.W.Fast.tw17317636556890962159:Nat:=0
def PySem.W.Fast.tw16197013113809849466:Nat:=0
def PySem.W.Fast.tw7417859820037459095:Nat:=0
def PySem.W.Fast.tw4606053590828903823:Nat:=0
def PySem.W.Fast.tw2501498423780503263:Nat:=0
def PySem.W.Fast.tw18274477051574123479:Nat:=0
def PySem.W.Fast.tw17510475883965527766:Nat:=0
def PySem.W.Fast.tw3558033992668835053:Nat:=0
def PySem.W.Fast.tw6735667214082923817:Nat:=0
def PySem.W.Fast.tw6305962667440732938:Nat:=0
def PySem.W.Fast.tw6949315036860086483:Nat:=0
def PySem.W.Fast.tw10981652822189254494:Nat:=0
def PySem.W.Fast.tw18027540921684746548:Nat:=0
def PySem.W.Fast.tw14412317818857997981:Nat:=0
def PySem.W.Fast.tw8781284992261696547:Nat:=0
def PySem.W.Fast.tw2215125774161189213:Nat:=0
def PySem.W.Fast.tw15667146728289001915:Nat:=0
def PySem.W.Fast.tw1779806448580357937:Nat:=0
def PySem.W.Fast.tw12328954991211875377:Nat:=0
def PySem.W.Fast.tw15667602342982990870:Nat:=0
def PySem.W.Fast.tw3346294794591517424:Nat:=0
def PySem.W.Fast.tw5338660659192703793:Nat:=0
set_option maxRecDepth 100000 in
set_option maxHeartbeats 0 in
theorem PySem.Challenge.cw_fourfold_k63_whole_areas_poured_holds : PySem.Challenge.rw_fourfold_k63_whole_areas_poured.Holds := by
 w_on;o_law;k_head;(case hw=>w_witness2)
 k_fill
 refine Lw.walk (l:=PySem.Challenge.rw_fourfold_k63_whole_areas_poured) rfl rfl (fun w h Y=>PySem.W.kIn_of Y) ?F
 case F =>
  intro w mg fa h KX G hmg
  refine' Lw.AZ KX G hmg ?S ?z0 ?z1 ?z2 ?z3 ?z4 ?z5 ?z6 ?z7 ?z8 ?z9 ?z10 ?z11 ?z12 ?z13 ?z14 ?z15 ?z16 ?z17 ?z18 ?z19 ?z20 ?z21 ?z22 ?z23 ?z24 ?z25 ?z26 ?z27 ?z28 ?z29 ?z30 ?z31 ?z32 ?z33 ?z34 ?z35 ?z36 ?z37 ?z38 ?z39 ?z40 ?z41 ?z42 ?z43
  case S =>
   constructor
   all_goals
    refine' FF.Bu KX G (fun _ _ _ _ _ _ us hl=>by first | (obtain⟨_,rfl⟩:=FF.ln1 hl;rfl) | (obtain⟨_,_,rfl⟩:=FF.ln2 hl;rfl) | (obtain⟨_,_,_,rfl⟩:=FF.ln3 hl;rfl) | (obtain⟨_,_,_,_,rfl⟩:=FF.ln4 hl;rfl) | (obtain⟨_,_,_,_,_,rfl⟩:=FF.ln5 hl;rfl) | (cases List.length_eq_zero_iff.mp hl;rfl)) ?a ?l ?c ?k
    (case a=>k_is);(case l=>k_is);(case c=>k_is);(case k=>k_is)
  (case z0=>show _=_;k_is)
  (case z1=>show _=_;k_is)
  (case z2=>k_is)
  (case z3=>k_is)
  (case z4=>k_is)
  (case z5=>show _=_;k_is)
  (case z6=>show _=_;k_is)
  (case z7=>show _=_;k_is)
  (case z8=>show _=_;k_is)
  (case z9=>show _=_;k_is)
  (case z10=>show _=_;k_is)
  (case z11=>show _=_;k_is)
  (case z12=>show _=_;k_is)
  (case z13=>show _=_;k_is)
  (case z14=>show _=_;k_is)
  (case z15=>show _=_;k_is)
  (case z16=>show _=_;k_is)
  (case z17=>show _=_;k_is)
  (case z18=>show _=_;k_is)
  (case z19=>show _=_;k_is)
  (case z20=>show _=_;k_is)
  (case z21=>show _=_;k_is)
  (case z22=>show _=_;k_is)
  (case z23=>k_is)
  (case z24=>show _=_;k_is)
  (case z25=>k_is)
  (case z26=>show _=_;k_is)
  (case z27=>k_is)
  (case z28=>show _=_;k_is)
  (case z29=>k_is)
  (case z30=>show _=_;k_is)
  (case z31=>show _=_;k_is)
  (case z32=>show _=_;k_is)
  (case z33=>show _=_;k_is)
  (case z34=>show _=_;k_is)
  (case z35=>k_exc)
  (case z36=>k_exc)
  (case z37=>k_exc)
  (case z38=>k_exc)
  (case z39=>k_exc)
  (case z40=>k_is)
  (case z41=>k_is)
  (case z42=>k_is)
  (case z43=>k_is)
end
