import PyProof.Rows.All
import Wide.All
import OpenK.AllK
import Wide.FinOn
import PyProof.EqAt
import PyProof.EqKinds
import PyProof.TupleCall
import PyProof.TupleKey
import PyProof.ExcArgsOwn
import PyProof.ExcAttrAll.ValueError
import PyProof.IsiH_tuple
import PyProof.Rows.TopTwo
import PyProof.ExcBaseAll.ValueError
import PyProof.RulesAs
import PyProof.RulesDel
import PyProof.Rows.Catch
import PyProof.WalkInts
import PyProof.SumWalkG
import PyProof.Rows.TupAssign
import PyProof.NeKinds
import PyProof.FactsAll.tuple_1
import PyProof.FactsAll.tuple_2
import PyProof.FactsAll.tuple_3
import PyProof.ZipIter
import PyProof.Rows.ZipGen
import PyProof.Draws
import PyProof.EnumMake
import PyProof.LayNew
import OpenK.KTop
import PyProof.DictWalks
import PyProof.ListRange
import PyProof.Rows.SortWalk
import PyProof.Rows.Range3
import PyProof.MinMaxWalk
import PyProof.SetKind
import PyProof.Rows.SetFrom
import PyProof.CollectWalk
import PyProof.FactsAll.set_1
import PyProof.FactsAll.set_2
import PyProof.StrCalls
import PyProof.StrBlock
import PyProof.StrBlockH
import PyProof.FactsAll.list_3
import KE.KMinKey
import PyProof.DictRoadsH
import KE.KLam
import KE.KDictOf
import PyProof.StrWalks
import PyProof.Rows.SortStr
import Lean
import PySem.Challenge.RW_fourfold_k06_measures_refused
set_option Elab.async false
set_option linter.all false
set_option maxRecDepth 100000
noncomputable section
namespace L2
open PySem PySem.Spec PyProof.Rows
abbrev Key:=Sum Int Str
def keyIs:Key→Value→Bool
 | .inl k,v=>Value.isInt k v
 | .inr x,v=>Value.isStrOf x v
def keyH (w:World):Key→Int
 | .inl k=>hashInt k
 | .inr x=>hashStr w x
theorem aP:∀ {k:Key} {v:Value},keyIs k v=true→(∃ i t,k=Sum.inl i∧v=Value.int i t)∨(∃ x t,k=Sum.inr x∧v=Value.str x t)
 | .inl i,v,h=>by
  obtain⟨t,e⟩:=Value.isInt_shape (k:=i) (v:=v) h
  exact .inl ⟨i,t,rfl,e⟩
 | .inr x,v,h=>by
  obtain⟨t,e⟩:=Value.isStrOf_shape (x:=x) (v:=v) h
  exact .inr ⟨x,t,rfl,e⟩
theorem sK (a b:Int):decide ((Sum.inl a:Key)=Sum.inl b)=(a==b):=by
 by_cases e:a=b
 ·subst e;simp
 ·have h:¬ (Sum.inl a:Key)=Sum.inl b:=fun q=>e (Sum.inl.inj q)
  rw[decide_eq_false h]
  exact(beq_eq_false_iff_ne.mpr e).symm
theorem sL (a b:Str):decide ((Sum.inr a:Key)=Sum.inr b)=decide (a=b):=by
 by_cases e:a=b
 ·subst e;simp
 ·have h:¬ (Sum.inr a:Key)=Sum.inr b:=fun q=>e (Sum.inr.inj q)
  rw[decide_eq_false h,decide_eq_false e]
theorem sM (a:Int)(b:Str):decide ((Sum.inl a:Key)=Sum.inr b)=false:=decide_eq_false (fun q=>nomatch q)
theorem sN (a:Str)(b:Int):decide ((Sum.inr a:Key)=Sum.inl b)=false:=decide_eq_false (fun q=>nomatch q)
def mixKind (prog:Program)(w:World):PySem.KeyKind prog w Key where
 is:=keyIs
 hash:=keyH w
 inj:=fun v a b ha hb=>by
  rcases aP ha with ⟨i,t,rfl,rfl⟩ | ⟨x,t,rfl,rfl⟩
  ·rcases aP hb with ⟨j,u,rfl,e⟩ | ⟨y,u,rfl,e⟩
   ·injection e with e1 _;rw[e1]
   ·exact nomatch e
  ·rcases aP hb with ⟨j,u,rfl,e⟩ | ⟨y,u,rfl,e⟩
   ·exact nomatch e
   ·injection e with e1 _;rw[e1]
 byValue:=fun k v h=>by
  rcases aP h with ⟨i,t,rfl,rfl⟩ | ⟨x,t,rfl,rfl⟩<;>rfl
 pyHash:=fun hv h=>by
  rcases aP hv with ⟨i,t,rfl,rfl⟩ | ⟨x,t,rfl,rfl⟩
  ·exact wpAny_pyHash_int h
  ·exact wpAny_pyHash_str h
 eqBool:=fun hu hv h=>by
  rcases aP hu with ⟨i,t,rfl,rfl⟩ | ⟨x,t,rfl,rfl⟩
  ·rcases aP hv with ⟨j,u,rfl,rfl⟩ | ⟨y,u,rfl,rfl⟩
   ·rw[sK]at h;exact wpAny_eqBool_int h
   ·rw[sM]at h;exact SeqAt.EqAt.int_str i t y u _ _ _ _ h
  ·rcases aP hv with ⟨j,u,rfl,rfl⟩ | ⟨y,u,rfl,rfl⟩
   ·rw[sN]at h;exact SeqAt.EqAt.str_int x t j u _ _ _ _ h
   ·rw[sL]at h;exact wpAny_eqBool_str h
 «strs»:=fun k x t v h=>by
  rcases aP h with ⟨i,u,rfl,e⟩ | ⟨y,u,rfl,e⟩
  ·exact nomatch e
  ·injection e with e1 _
   subst e1
   cases v<;>rfl
end L2
namespace L2
open PySem PySem.Spec PyProof.Rows
inductive V where
 | non | bl (b:Bool) | int (i:Int) | str (x:Str) | byt (b:Array UInt8) | flt (b:UInt64) | ref (a:Addr) | ty (n:String)
 deriving DecidableEq
def RelV:V→Value→Prop
 | .non,u=>u=Value.none
 | .bl b,u=>u=Value.bool b
 | .int i,u=>∃ t,u=Value.int i t
 | .str x,u=>∃ t,u=Value.str x t
 | .byt b,u=>∃ t,u=Value.bytes b t
 | .flt b,u=>∃ t,u=Value.float b t
 | .ref a,u=>u=Value.ref a
 | .ty n,u=>u=Value.type n
abbrev Vals:List V→List Value→Prop:=Paired RelV
theorem Vals.length {xs:List V}{us:List Value}(r:Vals xs us):xs.length=us.length:=Paired.length r
theorem Vals.get:∀ {xs:List V} {us:List Value} {i:Nat} {x:V},Vals xs us→xs[i]?=some x→∃ u,us[i]?=some u∧RelV x u
 | _,_,_,_,.nil,e=>by simp at e
 | _,_,0,_,.cons r _,e=>by simp at e;subst e;exact⟨_,rfl,r⟩
 | _,_,i+1,x,.cons _ t,e=>by
  obtain⟨u,h1,h2⟩:=Vals.get (i:=i) (x:=x) t (by simpa using e)
  exact⟨u,by simpa using h1,h2⟩
theorem Vals.set {x:V}{u:Value}(r:RelV x u):∀ {xs:List V} {us:List Value} (i:Nat),Vals xs us→Vals (xs.set i x) (us.set i u)
 | _,_,_,.nil=>.nil
 | _,_,0,.cons _ t=>.cons r t
 | _,_,i+1,.cons q t=>.cons q (Vals.set r i t)
theorem Vals.append:∀ {xs ys:List V} {us ws:List Value},Vals xs us→Vals ys ws→Vals (xs++ys) (us++ws)
 | _,_,_,_,.nil,s=>s
 | _,_,_,_,.cons r t,s=>.cons r (Vals.append t s)
theorem Vals.take:∀ {xs:List V} {us:List Value} (n:Nat),Vals xs us→Vals (xs.take n) (us.take n)
 | _,_,0,_=>.nil
 | _,_,_+1,.nil=>.nil
 | _,_,n+1,.cons r t=>.cons r (Vals.take n t)
theorem Vals.drop:∀ {xs:List V} {us:List Value} (n:Nat),Vals xs us→Vals (xs.drop n) (us.drop n)
 | _,_,0,r=>r
 | _,_,_+1,.nil=>.nil
 | _,_,n+1,.cons _ t=>Vals.drop n t
theorem Vals.none_of:∀ {xs:List V} {us:List Value} {i:Nat},Vals xs us→xs[i]?=none→us[i]?=none:=fun {xs us i} r e=>by
 have h1:=r.length
 have h2:xs.length≤i:=List.getElem?_eq_none_iff.mp e
 exact List.getElem?_eq_none_iff.mpr (by omega)
def RelO:Option V→Option Value→Prop
 | some v,some u=>RelV v u
 | none,none=>True
 | _,_=>False
def KV {κ:Type}:List (κ×V)→List (κ×Value)→Prop:=Paired fun (p:κ×V) (q:κ×Value)=>p.1=q.1∧RelV p.2 q.2
def kV:Key→V
 | .inl i=>.int i
 | .inr x=>.str x
inductive HO where
 | lst (xs:List V)
 | tup (xs:List V)
 | dK (kvs:List (Key×V)) | dT (kvs:List (List Key×V))
 | set (S:Int→Bool) (n:Nat)
 | ins (C dx:Addr) (fs:List (Str×V))
 | own (x:Addr)
 | xd (fs:List (Str×V))
 | met (f x:Addr)
 | rng (lo hi:Int)
 | frz (o:Obj) (u:HO)
 | tbl (ps:Array Value)
 | ext (φ:Heap→Prop)
abbrev Hp:=Addr→Option HO
def upd (H:Hp)(a:Addr)(o:HO):Hp:=fun b=>if b=a then some o else H b
theorem ao {H:Hp}{a:Addr}{o:HO}:upd H a o a=some o:=by unfold upd;rw[if_pos rfl]
theorem ai {H:Hp}{a b:Addr}{o:HO}(h:b≠a):upd H a o b=H b:=by unfold upd;rw[if_neg h]
theorem aF {H:Hp}{a b:Addr}{o:HO}(h:H a=some o)(h':H b=none):a≠b:=by
 intro e;subst e;rw[h]at h';cases h'
def TupO (h:Heap)(a:Addr)(its:Array Value):Prop:=∃ o,h.get? a=some o∧o.cls=.type "tuple" ∧ o.dict=none∧∃ n,o.data=.seq its n
theorem TupO.is {h:Heap}{a:Addr}{its:Array Value}(p:TupO h a its):IsTup h a its:=let ⟨o,e,c,_,d⟩:=p;⟨o,e,c,d⟩
theorem TupO.lt {h:Heap}{a:Addr}{its:Array Value}(p:TupO h a its):a < h.objs.size:=p.is.lt
theorem TupO.new (h:Heap)(its:Array Value):TupO (h.push { cls:=.type "tuple",data:=.seq its }) h.objs.size its:=⟨_,Heap.get?_push_size _ rfl,rfl,rfl,_,rfl⟩
section
variable (P:Program)(w:World)
def ObjOk (H:Hp)(h:Heap)(a:Addr):HO→Prop
 | .lst xs=>xs.length≤sizeLine∧∃ (its:List Value) (n:Nat),Vals xs its∧h.get? a=some { cls:=.type "list",data:=.seq its.toArray n }
 | .tup xs=>xs.length≤sizeLine∧∃ its:List Value,Vals xs its∧TupO h a its.toArray
 | .dK kvs=>kvs.length≤sizeLine∧(a==sysModules)=false∧∃ vs,KV kvs vs∧h.DictOf (mixKind P w) a vs
 | .dT kvs=>kvs.length≤sizeLine∧(a==sysModules)=false∧∃ xs:List (List Key×Addr×Value),
   Paired (fun (p:List Key×V) (q:List Key×Addr×Value)=>p.1=q.1∧H q.2.1=some (.tup (p.1.map kV))∧RelV p.2 q.2.2) kvs xs ∧
   ∃ o es ep,h.get? a=some o∧o.ExactDict∧o.data=.dict es ep∧es.toList=xs.map (entryOfKey (tupleKind (mixKind P w)))∧(xs.map (·.1)).Nodup
 | .set S n=>h.SetOf (intKind P w) a S n
 | .ins C dx fs=>H dx=some (.own a)∧fs.length≤1000∧dx≠a∧h.get? a=some (PySem.W.instObj C dx) ∧
   ∃ mA,h.Ns1 dx mA∧(∀ f,RelO (fs.lookup f) (mA f))∧PySem.Within mA (fs.map (·.1))
 | .own _=>∃ o,h.get? a=some o
 | .xd fs=>∃ mA,h.Ns1 a mA∧∀ f,RelO (fs.lookup f) (mA f)
 | .rng lo hi=>∃ t u v,h.get? a=some { cls:=.type "range",data:=.fields #[.int lo t,.int hi u,.int 1 v] }
 | .frz o u=>h.get? a=some o∧ObjOk H h a u
 | .tbl ps=>h.get? a=some { cls:=.none,data:=.fields ps }
 | .met f x=>h.get? a=some (PySem.W.methodObj (.ref f) (.ref x))
 | .ext φ=>φ h∧(∃ o,h.get? a=some o)∧∀ h1 h2:Heap,φ h1→(∀ o,h1.get? a=some o→h2.get? a=some o)→φ h2
def HOk (H:Hp)(h:Heap):Prop:=∀ a o,H a=some o→ObjOk P w H h a o
end
section
variable {P:Program}{w:World}{H H':Hp}{h h':Heap}{a:Addr}{o:HO}
theorem ObjOk.lt (x:ObjOk P w H h a o):a < h.objs.size:=by
 cases o with
 | lst xs=>obtain⟨_,_,_,_,e⟩:=x;exact Heap.lt_size e
 | tup xs=>obtain⟨_,_,_,p⟩:=x;exact p.lt
 | dK kvs=>obtain⟨_,_,_,_,o,_,_,e,_⟩:=x;exact Heap.lt_size e
 | dT kvs=>obtain⟨_,_,_,_,o,_,_,e,_⟩:=x;exact Heap.lt_size e
 | set S n=>obtain⟨o,_,_,_,e,_⟩:=x;exact Heap.lt_size e
 | ins C dx fs=>obtain⟨_,_,_,e,_⟩:=x;exact Heap.lt_size e
 | own y=>obtain⟨_,e⟩:=x;exact Heap.lt_size e
 | xd fs=>obtain⟨_,⟨_,_,_,e,_⟩,_⟩:=x;exact Heap.lt_size e
 | rng lo hi=>obtain⟨_,_,_,e⟩:=x;exact Heap.lt_size e
 | frz ob u=>obtain⟨e,_⟩:=x;exact Heap.lt_size e
 | tbl ps=>exact Heap.lt_size (show h.get? a=some _ from x)
 | met f y=>exact Heap.lt_size (show h.get? a=some _ from x)
 | ext φ=>obtain⟨_,⟨_,e⟩,_⟩:=x;exact Heap.lt_size e
theorem Paired.mapP {α β:Type}{F G:α→β→Prop}:∀ {l₁:List α} {l₂:List β},Paired F l₁ l₂→(∀ a b,F a b→G a b)→Paired G l₁ l₂
 | _,_,.nil,_=>.nil
 | _,_,.cons r t,f=>.cons (f _ _ r) (Paired.mapP t f)
theorem ObjOk.stay (x:ObjOk P w H h a o)(k:∀ b u,(b=a∨H b=some (.own a))→h.get? b=some u→h'.get? b=some u)
  (ho:∀ b,H b=some (.own a)→H' b=some (.own a)) (ht:∀ b xs,H b=some (.tup xs)→H' b=some (.tup xs)):ObjOk P w H' h' a o:=by
 induction o with
 | lst xs=>obtain⟨z,its,n,r,e⟩:=x;exact⟨z,its,n,r,k _ _ (.inl rfl) e⟩
 | tup xs=>obtain⟨z,its,r,ob,e,c⟩:=x;exact⟨z,its,r,ob,k _ _ (.inl rfl) e,c⟩
 | dK kvs=>obtain⟨z,y,vs,r,ob,es,ep,e,c⟩:=x;exact⟨z,y,vs,r,ob,es,ep,k _ _ (.inl rfl) e,c⟩
 | dT kvs =>
  obtain⟨z,y,xs,r,ob,es,ep,e,c⟩:=x
  exact⟨z,y,xs,Paired.mapP r fun p q z=>⟨z.1,ht _ _ z.2.1,z.2.2⟩,ob,es,ep,k _ _ (.inl rfl) e,c⟩
 | set S n=>obtain⟨ob,es,ep,t,e,c⟩:=x;exact⟨ob,es,ep,t,k _ _ (.inl rfl) e,c⟩
 | ins C dx fs =>
  obtain⟨d,z,ne,e,mA,⟨od,es,ep,e2,c⟩,r⟩:=x
  exact⟨ho _ d,z,ne,k _ _ (.inl rfl) e,mA,⟨od,es,ep,k _ _ (.inr d) e2,c⟩,r⟩
 | own y=>obtain⟨ob,e⟩:=x;exact⟨ob,k _ _ (.inl rfl) e⟩
 | xd fs=>obtain⟨mA,⟨od,es,ep,e,c⟩,r⟩:=x;exact⟨mA,⟨od,es,ep,k _ _ (.inl rfl) e,c⟩,r⟩
 | rng lo hi=>obtain⟨t,u,v,e⟩:=x;exact⟨t,u,v,k _ _ (.inl rfl) e⟩
 | frz ob u ih=>obtain⟨e,q⟩:=x;exact⟨k _ _ (.inl rfl) e,ih q⟩
 | tbl ps =>
  have e:h.get? a=some { cls:=.none,data:=.fields ps }:=x
  show h'.get? a=some { cls:=.none,data:=.fields ps }
  exact k a _ (.inl rfl) e
 | met f y =>
  have e:h.get? a=some (PySem.W.methodObj (.ref f) (.ref y)):=x
  show h'.get? a=some (PySem.W.methodObj (.ref f) (.ref y))
  exact k a _ (.inl rfl) e
 | ext φ=>obtain⟨p,⟨o,e⟩,st⟩:=x;exact⟨st _ _ p fun o q=>k _ _ (.inl rfl) q,⟨o,k _ _ (.inl rfl) e⟩,st⟩
theorem HOk.lt (x:HOk P w H h)(e:H a=some o):a < h.objs.size:=(x a o e).lt
theorem HOk.fresh (x:HOk P w H h)(e:h.objs.size≤a):H a=none:=by
 cases q:H a with
 | none=>rfl
 | some u=>exact absurd (Nat.lt_of_lt_of_le (x.lt q) e) (Nat.lt_irrefl _)
theorem HOk.kept (x:HOk P w H h)(k:∀ b u,h.get? b=some u→h'.get? b=some u):HOk P w H h':=fun a o e =>
 (x a o e).stay (fun b u _ q=>k b u q) (fun _ q=>q) fun _ _ q=>q
theorem HOk.laid (x:HOk P w H h)(k:∀ b u,h.get? b=some u→h'.get? b=some u)(hp:h.objs.size≤a)(new:ObjOk P w (upd H a o) h' a o):HOk P w (upd H a o) h':=fun b u e=>by
 have hn:=x.fresh hp
 by_cases hb:b=a
 ·subst hb;rw[ao]at e;cases e;exact new
 ·rw[ai hb]at e
  exact(x b u e).stay (fun c v _ q=>k c v q) (fun c q=>by rw[ai (aF q hn)];exact q) fun c xs q=>by rw[ai (aF q hn)];exact q
end
def Rd (H:Hp)(a:Addr)(u:HO):Prop:=H a=some u∨∃ o,H a=some (.frz o u)
theorem Rd.ok {P:Program}{w:World}{H:Hp}{h:Heap}{a:Addr}{u:HO}(r:Rd H a u)(x:HOk P w H h):ObjOk P w H h a u:=by
 rcases r with r | ⟨o,r⟩
 ·exact x a u r
 ·obtain⟨_,q⟩:=x a _ r
  exact q
def Mut:Option HO→Prop
 | some (.lst _)=>True
 | some (.dK _)=>True
 | some (.dT _)=>True
 | some (.set _ _)=>True
 | some (.ins _ _ _)=>True
 | some (.ext _)=>True
 | _=>False
section
variable {P:Program}{w:World}{H:Hp}{h h':Heap}{x e:Addr}{o':HO}
theorem HOk.write (ok:HOk P w H h)(mu:Mut (H x))(he:e=x∨H e=some (.own x))(k:∀ b u,b≠e→h.get? b=some u→h'.get? b=some u)(heo:∃ u,h'.get? e=some u)
  (new:ObjOk P w (upd H x o') h' x o'):HOk P w (upd H x o') h':=fun b u q=>by
 have nown:∀ c y,H c=some (.own y)→c≠x:=fun c y r z=>by subst z;rw[r]at mu;exact mu
 have ntup:∀ c xs,H c=some (.tup xs)→c≠x:=fun c xs r z=>by subst z;rw[r]at mu;exact mu
 by_cases hb:b=x
 ·subst hb;rw[ao]at q;cases q;exact new
 ·rw[ai hb]at q
  by_cases hbe:b=e
  ·have q':H b=some (.own x):=by
    rcases he with z | z
    ·exact absurd (hbe.trans z) hb
    ·rw[hbe];exact z
   rw[q]at q';cases q'
   obtain⟨v,hv⟩:=heo
   exact⟨v,by rw[hbe];exact hv⟩
  ·refine(ok b u q).stay (fun c v hc r=>k c v ?_ r) (fun c r=>by rw[ai (nown c b r)];exact r) fun c xs r=>by rw[ai (ntup c xs r)];exact r
   rcases hc with rfl | hc
   ·exact hbe
   ·rintro rfl
    rcases he with z | z
    ·exact nown c b hc z
    ·rw[hc]at z;cases z;exact hb rfl
end
structure Un (fs ex:List Addr)(H H':Hp)(h h':Heap):Prop where
 keep:∀ b o,h.get? b=some o→H b=none→b∉fs→b∉ex→h'.get? b=some o
 slot:∀ b o,h.get? b=some o→H b=none→b∈fs→b∉ex→∃ sl,h'.get? b=some { o with slots:=sl }
 free:∀ b o,h.get? b=some o→H b=none→b∉ex→H' b=none
 there:∀ b o,h.get? b=some o→b∉ex→∃ o',h'.get? b=some o'
 tups:∀ b xs,H b=some (.tup xs)→H' b=some (.tup xs)
 frzs:∀ b o u,H b=some (.frz o u)→H' b=some (.frz o u)
 tbls:∀ b ps,H b=some (.tbl ps)→∃ more,H' b=some (.tbl (ps++more))
section
variable {fs fs' ex ex':List Addr}{H H1 H2:Hp}{h h1 h2 h':Heap}{a x e:Addr}{o:HO}
theorem Un.any (u:Un fs ex H H1 h h1){b:Addr}{ob:Obj}(q:h.get? b=some ob)(n:H b=none)(hx:b∉ex):∃ sl,h1.get? b=some { ob with slots:=sl }:=by
 by_cases hb:b∈fs
 ·exact u.slot b ob q n hb hx
 ·exact⟨ob.slots,u.keep b ob q n hb hx⟩
theorem Un.trans (a:Un fs ex H H1 h h1)(b:Un fs ex H1 H2 h1 h2):Un fs ex H H2 h h2 where
 keep:=fun c ob q n hc hx=>b.keep c ob (a.keep c ob q n hc hx) (a.free c ob q n hx) hc hx
 slot:=fun c ob q n hc hx=>by
  obtain⟨sl,e1⟩:=a.slot c ob q n hc hx
  obtain⟨sl',e2⟩:=b.slot c _ e1 (a.free c ob q n hx) hc hx
  exact⟨sl',e2⟩
 free:=fun c ob q n hx=>by
  obtain⟨o',e1⟩:=a.there c ob q hx
  exact b.free c o' e1 (a.free c ob q n hx) hx
 there:=fun c ob q hx=>by
  obtain⟨o',e1⟩:=a.there c ob q hx
  exact b.there c o' e1 hx
 tups:=fun c xs q=>b.tups c xs (a.tups c xs q)
 frzs:=fun c ob xs q=>b.frzs c ob xs (a.frzs c ob xs q)
 tbls:=fun c ps q=>by
  obtain⟨m1,e1⟩:=a.tbls c ps q
  obtain⟨m2,e2⟩:=b.tbls c _ e1
  exact⟨m1++m2,by rw[e2,Array.append_assoc]⟩
theorem Un.kept (k:∀ b u,h.get? b=some u→h'.get? b=some u):Un fs ex H H h h' :=
 ⟨fun b ob q _ _ _=>k b ob q,fun b ob q _ _ _=>⟨ob.slots,k b ob q⟩,fun _ _ _ n _=>n,fun b ob q _=>⟨ob,k b ob q⟩,fun _ _ q=>q,fun _ _ _ q=>q,fun _ ps q=>⟨#[],by rw[q];simp⟩⟩
theorem Un.refl:Un fs ex H H h h:=Un.kept fun _ _ q=>q
theorem Un.laid (k:∀ b u,h.get? b=some u→h'.get? b=some u)(hp:h.objs.size≤a)(hn:H a=none):Un fs ex H (upd H a o) h h' where
 keep:=fun b u q _ _ _=>k b u q
 slot:=fun b u q _ _ _=>⟨u.slots,k b u q⟩
 free:=fun b u q n _=>by rw[ai (Nat.ne_of_lt (Nat.lt_of_lt_of_le (Heap.lt_size q) hp))];exact n
 there:=fun b u q _=>⟨u,k b u q⟩
 tups:=fun b xs q=>by rw[ai (aF q hn)];exact q
 frzs:=fun b u xs q=>by rw[ai (aF q hn)];exact q
 tbls:=fun b ps q=>⟨#[],by rw[ai (aF q hn),q];simp⟩
theorem Un.write (mu:Mut (H x))(he:e=x∨H e=some (.own x))(k:∀ b u,b≠e→h.get? b=some u→h'.get? b=some u)(heo:∃ u,h'.get? e=some u):Un fs ex H (upd H x o) h h':=by
 have hx:∀ b,H b=none→b≠x:=fun b n z=>by subst z;rw[n]at mu;exact mu
 have hb:∀ b,H b=none→b≠e:=fun b n z=>by
  subst z
  rcases he with r | r
  ·exact hx b n r
  ·rw[n]at r;cases r
 have hm:∀ b u,H b=some u→¬ Mut (some u)→b≠x:=fun b u q nm z=>by subst z;rw[q]at mu;exact nm mu
 refine⟨fun b u q n _ _=>k b u (hb b n) q,fun b u q n _ _=>⟨u.slots,k b u (hb b n) q⟩,fun b u q n _=>by rw[ai (hx b n)];exact n,fun b u q _=>?_,
  fun b xs q=>by rw[ai (hm b _ q fun z=>z)];exact q,fun b u xs q=>by rw[ai (hm b _ q fun z=>z)];exact q,fun b ps q=>⟨#[],by rw[ai (hm b _ q fun z=>z),q];simp⟩⟩
 by_cases hbe:b=e
 ·subst hbe;exact heo
 ·exact⟨u,k b u hbe q⟩
end
def trk (h:Heap)(H:Hp):List Addr:=(List.range h.objs.size).filter fun a=>(H a).isSome
def hidT (h:Heap)(H:Hp):Heap:=PySem.W.hideAll h (trk h H)
theorem mK (h:Heap)(H:Hp):(hidT h H).objs.size=h.objs.size:=PySem.W.hideAll_size _ _
theorem oF {h:Heap}{H:Hp}{b:Addr}{o:Obj}(e:h.get? b=some o)(n:H b=none):(hidT h H).get? b=some o :=
 PySem.W.hideAll_get _ e fun hm=>by
  have q:(H b).isSome=true:=(List.mem_filter.mp hm).2
  rw[n]at q;simp at q
theorem qG {h:Heap}{H:Hp}{b:Addr}{o:Obj}(e:(hidT h H).get? b=some o):h.get? b=some o∧H b=none:=by
 have e':h.get? b=some o:=PySem.W.of_hideAll (trk h H) e
 refine⟨e',?_⟩
 cases q:H b with
 | none=>rfl
 | some x =>
  have hm:b∈trk h H:=List.mem_filter.mpr ⟨List.mem_range.mpr (Heap.lt_size e'),by simp[q]⟩
  have z:(hidT h H).get? b=none:=PySem.W.hideAll_none (trk h H) hm
  rw[z]at e;cases e
def allNews (g h:Heap)(L:Addr):List (Addr×Obj):=(List.range h.objs.size).filterMap fun a=>if a=L∨(g.get? a).isSome=true then none else (h.get? a).map fun o=>(a,o)
def rest (g h:Heap)(L d:Addr):List (Addr×Obj):=(allNews g h L).filter fun p=>decide (p.1≠d)
end L2
namespace L2
open PySem PySem.Spec PyProof.Rows
structure Mod (K:PySem.W.Frag)(mg:Str→Option Value)(base:Heap):Prop where
 kin:K.In base
 glob:base.Ns mainGlobals mg
 blt:∃ mb,base.Ns builtinsNs mb∧∀ x:Str,x ≠ "__name__" → mb x=bootBuiltins x
 nolimit:base.NoLimit
structure Cx where
 prog:Program
 w:World
 K:PySem.W.Frag
 mg:Str→Option Value
 base:Heap
 A:Around
 N:List Str
 s₀:Shared
 H₀:Hp
 env:Env
 outer:List Env
 stack:List Env
 ex:List Addr
 fn:Str→Bool
 calm:Bool
 pn:List (Addr×Obj)
 xe:Value→Shared→Prop
def frs (l:List Env):List Addr:=l.filterMap (·.frame)
abbrev Cx.fs (X:Cx):List Addr:=frs X.outer
def Vis (sc:Scope)(x:Str):Prop:=sc.names.lookup x=some .local∨sc.names.lookup x=some .cell∨sc.names.lookup x=some .free
def Loc (sc:Scope)(x:Str):Prop:=sc.names.lookup x=some .local∨sc.names.lookup x=some .cell
def Look (env:Env)(h:Heap)(m:Str→Option Value)(x:Str)(u:Value):Prop :=
 (env.kindOf x=some .local∧m x=some u)∨((env.kindOf x=some .cell∨env.kindOf x=some .free)∧∃ c,env.cells.lookup x=some c∧h.IsCell c (some u))
structure Cx.Ok (X:Cx):Prop where
 mod:Mod X.K X.mg X.base
 kind:X.env.scope.kind=.function
 glob:X.env.globals=mainGlobals
 blt:X.env.builtins=builtinsNs
 above:X.s₀.heap.objs.size≤X.env.locals
 inj:∀ x y c,X.env.cells.lookup x=some c→X.env.cells.lookup y=some c→x=y
 has:∀ x,(X.env.kindOf x=some .cell∨X.env.kindOf x=some .free)→∃ c,X.env.cells.lookup x=some c
 cab:∀ x c,X.fn x=true→X.env.cells.lookup x=some c→X.s₀.heap.objs.size≤c
 hd:X.calm=true→X.A.handled=none
 frames:X.A.frames=some X.stack
 stk:X.stack=X.outer∨(X.stack=X.env::X.outer∧X.env.frame=some X.env.locals)
 exf:∀ b∈X.ex,b≠X.env.locals∧∀ x c,X.env.cells.lookup x=some c→c≠b
 bs:∀ b o,X.base.get? b=some o→X.s₀.heap.get? b=some o∧X.H₀ b=none
 bsz:X.base.objs.size≤X.s₀.heap.objs.size
 noex:∀ b o,X.base.get? b=some o→b∉X.ex
 exfs:∀ b∈X.ex,b∉X.fs
 funs:X.s₀.heap.FunFrames X.base X.outer
 frf:∀ b∈X.fs,X.H₀ b=none
structure Inv (X:Cx)(pins:List (Addr×Obj))(σ:List (Option V))(H:Hp)(s:Shared):Prop where
 ok:X.Ok
 os:s.os=X.s₀.os
 bare:AllBare s.gens
 base:Un X.fs X.ex X.H₀ H X.s₀.heap s.heap
 loc:∃ m,s.heap.Ns X.env.locals m∧∀ (i:Nat) (x:Str) (v:V),X.N[i]?=some x→σ[i]?=some (some v)→Vis X.env.scope x→∃ u,RelV v u∧Look X.env s.heap m x u
 cell:∀ x c,X.env.cells.lookup x=some c→∃ v,s.heap.IsCell c v
 free:H X.env.locals=none
 freeC:∀ x c,X.env.cells.lookup x=some c→H c=none
 pin:∀ p∈X.pn++pins,s.heap.get? p.1=some p.2∧H p.1=none∧p.1≠X.env.locals∧p.1∉X.fs∧∀ v,p.2.data≠.cell v
 hok:HOk X.prog X.w H s.heap
 len:σ.length=X.N.length
section
variable {X:Cx}{pins:List (Addr×Obj)}{σ:List (Option V)}{H H':Hp}{s:Shared}{h':Heap}
theorem Cx.Ok.nofr (ok:X.Ok){b:Addr}{o:Obj}(e:X.base.get? b=some o):b∉X.fs:=fun hb=>by
 have:=(ok.funs.mem hb).1
 rw[e]at this;cases this
theorem Inv.bs (I:Inv X pins σ H s):∀ b o,X.base.get? b=some o→s.heap.get? b=some o∧H b=none:=fun b o e =>
 ⟨I.base.keep b o (I.ok.bs b o e).1 (I.ok.bs b o e).2 (I.ok.nofr e) (I.ok.noex b o e),I.base.free b o (I.ok.bs b o e).1 (I.ok.bs b o e).2 (I.ok.noex b o e)⟩
theorem Inv.bk (I:Inv X pins σ H s):∀ b o,X.base.get? b=some o→s.heap.get? b=some o:=fun b o e=>(I.bs b o e).1
theorem Inv.mod (I:Inv X pins σ H s):Mod X.K X.mg X.base:=I.ok.mod
theorem Inv.kIn (I:Inv X pins σ H s):X.K.In s.heap:=I.ok.mod.kin.keeps I.bk
theorem Inv.nolimit (I:Inv X pins σ H s):s.heap.NoLimit:=I.ok.mod.nolimit.keeps I.bk
theorem Inv.lt (I:Inv X pins σ H s):X.env.locals < s.heap.objs.size:=let ⟨_,hn,_⟩:=I.loc;hn.lt
theorem Inv.sz (I:Inv X pins σ H s):X.s₀.heap.objs.size≤s.heap.objs.size:=Nat.le_trans I.ok.above (Nat.le_of_lt I.lt)
theorem Inv.nofs (I:Inv X pins σ H s){a:Addr}(h:s.heap.objs.size≤a):a∉X.fs:=fun hb=>by
 obtain⟨_,o,ho,_⟩:=I.ok.funs.mem hb
 exact absurd (Nat.lt_of_lt_of_le (Heap.lt_size ho) (Nat.le_trans I.sz h)) (Nat.lt_irrefl _)
theorem Inv.cne (I:Inv X pins σ H s):∀ x c,X.env.cells.lookup x=some c→c≠X.env.locals:=fun x c e z=>by
 obtain⟨v,o,ho,hd⟩:=I.cell x c e
 obtain⟨m,⟨o',es,ep,ho',hd',_⟩,_⟩:=I.loc
 rw[z,ho']at ho;cases ho;rw[hd']at hd;cases hd
theorem Inv.funs (I:Inv X pins σ H s):s.heap.FunFrames X.base X.outer:=by
 have all:∀ (l:List Env),(∀ b∈frs l,b∈X.fs)→X.s₀.heap.FunFrames X.base l→s.heap.FunFrames X.base l:=by
  intro l
  induction l with
  | nil=>intro _ _;trivial
  | cons env r ih =>
   intro hs hl
   obtain⟨hk,⟨L,o,hf,hn,ho,hd⟩,hr⟩:=hl
   have hL:L∈X.fs:=hs L (by unfold frs;rw[List.filterMap_cons,hf];exact List.mem_cons_self)
   obtain⟨sl,e⟩:=I.base.slot L o ho (I.ok.frf L hL) hL fun z=>I.ok.exfs L z hL
   exact⟨hk,⟨L,_,hf,hn,e,hd⟩,ih (fun b hb=>hs b (by unfold frs;rw[List.filterMap_cons,hf];exact List.mem_cons_of_mem _ hb)) hr⟩
 exact all X.outer (fun _ hb=>hb) I.ok.funs
theorem Inv.stack (I:Inv X pins σ H s):s.heap.FunFrames X.base X.stack:=by
 rcases I.ok.stk with e | ⟨e,hf⟩
 ·rw[e];exact I.funs
 ·rw[e]
  obtain⟨m,hn,_⟩:=I.loc
  refine .cons (by rw[I.ok.kind];decide) hf hn ?_ I.funs
  exact Heap.get?_none_of_le (Nat.le_trans I.ok.bsz I.ok.above)
theorem Inv.stkSub (I:Inv X pins σ H s):∀ b∈frs X.stack,b∈X.env.locals::X.fs:=fun b hb=>by
 rcases I.ok.stk with e | ⟨e,hf⟩
 ·rw[e]at hb;exact List.mem_cons_of_mem _ hb
 ·rw[e]at hb
  unfold frs at hb
  rw[List.filterMap_cons,hf]at hb
  exact hb
theorem Inv.stkFree (I:Inv X pins σ H s):∀ b∈frs X.stack,H b=none:=fun b hb=>by
 rcases List.mem_cons.mp (I.stkSub b hb) with e | hb
 ·rw[e];exact I.free
 ·obtain⟨_,o,ho,_⟩:=I.ok.funs.mem hb
  exact I.base.free b o ho (I.ok.frf b hb) fun z=>I.ok.exfs b z hb
theorem Inv.step {g':Array GenState}{t':Nat}{d':Drawn}{ch:List Addr}(I:Inv X pins σ H s)
  (hch:∀ b∈ch,(b∈X.ex∨X.s₀.heap.objs.size≤b)∧b≠X.env.locals∧(∀ x c,X.env.cells.lookup x=some c→c≠b)∧∀ p∈X.pn++pins,p.1≠b)
  (keep:∀ b o,b≠X.env.locals→b∉X.fs→b∉ch→s.heap.get? b=some o→H b=none→h'.get? b=some o)
  (slot:∀ b o,b≠X.env.locals→b∈X.fs→b∉ch→s.heap.get? b=some o→H b=none→∃ sl,h'.get? b=some { o with slots:=sl }) (free:∀ b o,b∉ch→s.heap.get? b=some o→H b=none→H' b=none)
  (there:∀ b o,b∉ch→s.heap.get? b=some o→∃ o',h'.get? b=some o')
  (tups:∀ b xs,H b=some (.tup xs)→H' b=some (.tup xs)) (frzs:∀ b o u,H b=some (.frz o u)→H' b=some (.frz o u)) (tbls:∀ b ps,H b=some (.tbl ps)→∃ more,H' b=some (.tbl (ps++more)))
  (ns:∀ m,s.heap.Ns X.env.locals m→h'.Ns X.env.locals m) (hok:HOk X.prog X.w H' h') (hg:AllBare g') :
  Inv X pins σ H' { s with heap:=h',gens:=g',drawn:=d',toks:=t' }:=by
 have neL:∀ b o,X.s₀.heap.get? b=some o→b≠X.env.locals:=fun b o e=>Nat.ne_of_lt (Nat.lt_of_lt_of_le (Heap.lt_size e) I.ok.above)
 have neC:∀ b o,X.s₀.heap.get? b=some o→b∉X.ex→b∉ch:=fun b o e hx hb=>by
  rcases(hch b hb).1 with z | z
  ·exact hx z
  ·exact absurd (Nat.lt_of_lt_of_le (Heap.lt_size e) z) (Nat.lt_irrefl _)
 have cellK:∀ x c,X.env.cells.lookup x=some c→∀ v,s.heap.IsCell c v→h'.IsCell c v:=fun x c e v ⟨o,ho,hd⟩=>by
  have nch:c∉ch:=fun z=>(hch c z).2.2.1 x c e rfl
  by_cases hc:c∈X.fs
  ·obtain⟨sl,q⟩:=slot c o (I.cne x c e) hc nch ho (I.freeC x c e)
   exact⟨_,q,hd⟩
  ·exact⟨o,keep c o (I.cne x c e) hc nch ho (I.freeC x c e),hd⟩
 refine⟨I.ok,I.os,hg,⟨fun b o e n hb hx=>?_,fun b o e n hb hx=>?_,fun b o e n hx=>?_,fun b o e hx=>?_,fun b xs e=>tups b xs (I.base.tups b xs e),fun b o xs e=>frzs b o xs (I.base.frzs b o xs e),fun b ps e=>?_⟩,?_,fun x c e=>?_,?_,fun x c e=>?_,fun p hp=>?_,hok,I.len⟩
 ·exact keep b o (neL b o e) hb (neC b o e hx) (I.base.keep b o e n hb hx) (I.base.free b o e n hx)
 ·obtain⟨sl,e1⟩:=I.base.slot b o e n hb hx
  obtain⟨sl',e2⟩:=slot b _ (neL b o e) hb (neC b o e hx) e1 (I.base.free b o e n hx)
  exact⟨sl',e2⟩
 ·obtain⟨o',e1⟩:=I.base.there b o e hx
  exact free b o' (neC b o e hx) e1 (I.base.free b o e n hx)
 ·obtain⟨o',e1⟩:=I.base.there b o e hx
  exact there b o' (neC b o e hx) e1
 ·obtain⟨m1,e1⟩:=I.base.tbls b ps e
  obtain⟨m2,e2⟩:=tbls b _ e1
  exact⟨m1++m2,by rw[e2,Array.append_assoc]⟩
 ·obtain⟨m,hn,hl⟩:=I.loc
  refine⟨m,ns m hn,fun i x v e1 e2 e3=>?_⟩
  obtain⟨u,r,l⟩:=hl i x v e1 e2 e3
  refine⟨u,r,?_⟩
  rcases l with l | ⟨k,c,e,z⟩
  ·exact .inl l
  ·exact .inr ⟨k,c,e,cellK x c e _ z⟩
 ·obtain⟨v,z⟩:=I.cell x c e
  exact⟨v,cellK x c e v z⟩
 ·obtain⟨m,⟨o,_,_,ho,_⟩,_⟩:=I.loc
  exact free _ o (fun z=>(hch _ z).2.1 rfl) ho I.free
 ·obtain⟨v,o,ho,hd⟩:=I.cell x c e
  exact free c o (fun z=>(hch c z).2.2.1 x c e rfl) ho (I.freeC x c e)
 ·obtain⟨e,n,ne,nf,d⟩:=I.pin p hp
  have nch:p.1∉ch:=fun z=>(hch p.1 z).2.2.2 p hp rfl
  exact⟨keep p.1 p.2 ne nf nch e n,free p.1 p.2 nch e n,ne,nf,d⟩
theorem Inv.un {t':Nat}(I:Inv X pins σ H s)(u:Un X.fs [] H H' s.heap h')(hok:HOk X.prog X.w H' h'):Inv X pins σ H' { s with heap:=h',toks:=t' }:=by
 obtain⟨m,⟨o,es,ep,ho,r⟩,_⟩:=id I.loc
 obtain⟨sl,hL⟩:=u.any ho I.free (by simp)
 exact I.step (g':=s.gens) (d':=s.drawn) (ch:=[]) (fun _ z=>nomatch z) (fun b o _ hb _ e n=>u.keep b o e n hb (by simp)) (fun b o _ hb _ e n=>u.slot b o e n hb (by simp)) (fun b o _ e n=>u.free b o e n (by simp)) (fun b o _ e=>u.there b o e (by simp)) u.tups u.frzs u.tbls (fun m' hm=>by
  obtain⟨o',es',ep',ho',r'⟩:=hm
  rw[ho]at ho';cases ho'
  exact⟨_,es',ep',hL,r'⟩) hok I.bare
theorem Inv.call {g':Array GenState}{t':Nat}{d':Drawn}{ch:List Addr}(I:Inv X pins σ H s)(u:Un (frs X.stack) ch H H' s.heap h')(hok:HOk X.prog X.w H' h')(hg:AllBare g')
  (hch:∀ b∈ch,(b∈X.ex∨X.s₀.heap.objs.size≤b)∧b≠X.env.locals∧(∀ x c,X.env.cells.lookup x=some c→c≠b)∧∀ p∈X.pn++pins,p.1≠b) :
  Inv X pins σ H' { s with heap:=h',gens:=g',drawn:=d',toks:=t' }:=by
 obtain⟨m,⟨o,es,ep,ho,r⟩,_⟩:=id I.loc
 obtain⟨sl,hL⟩:=u.any ho I.free fun z=>(hch _ z).2.1 rfl
 exact I.step (ch:=ch) hch (fun b o hL hb hc e n=>u.keep b o e n (fun z=>(List.mem_cons.mp (I.stkSub b z)).elim hL hb) hc) (fun b o _ _ hc e n=>u.any e n hc) (fun b o hc e n=>u.free b o e n hc) (fun b o hc e=>u.there b o e hc) u.tups u.frzs u.tbls (fun m' hm=>by
  obtain⟨o',es',ep',ho',r'⟩:=hm
  rw[ho]at ho';cases ho'
  exact⟨_,es',ep',hL,r'⟩) hok hg
theorem Inv.turned {t':Nat}{it:Addr}(I:Inv X pins σ H s)(k:∀ b o,b≠it→s.heap.get? b=some o→h'.get? b=some o)(hn:H it=none)(hL:it≠X.env.locals)
  (h1:it∈X.ex∨X.s₀.heap.objs.size≤it) (h2:∀ x c,X.env.cells.lookup x=some c→c≠it) (h3:∀ p∈X.pn++pins,p.1≠it):Inv X pins σ H { s with heap:=h',toks:=t' }:=by
 have nit:∀ b u,H b=some u→b≠it:=fun b u e z=>by rw[z,hn]at e;cases e
 refine I.step (g':=s.gens) (d':=s.drawn) (ch:=[it]) (fun b hb=>?_) (fun b o _ _ hc e _=>k b o (fun z=>hc (by simp[z])) e) (fun b o _ _ hc e _=>⟨o.slots,k b o (fun z=>hc (by simp[z])) e⟩) (fun _ _ _ _ n=>n)
  (fun b o hc e=>⟨o,k b o (fun z=>hc (by simp[z])) e⟩) (fun _ _ e=>e) (fun _ _ _ e=>e) (fun b ps e=>⟨#[],by rw[e];simp⟩) (fun m hm=>?_) (fun b u e=>?_) I.bare
 ·have e:b=it:=by simpa using hb
  subst e
  exact⟨h1,hL,h2,h3⟩
 ·obtain⟨o,es,ep,ho,r⟩:=hm
  exact⟨o,es,ep,k _ o (Ne.symm hL) ho,r⟩
 ·refine(I.hok b u e).stay (fun c v hc q=>k c v ?_ q) (fun _ q=>q) fun _ _ q=>q
  rcases hc with z | z
  ·rw[z];exact nit b u e
  ·exact nit c _ z
theorem Inv.tok (I:Inv X pins σ H s)(t:Nat):Inv X pins σ H { s with toks:=t }:=I.un (h':=s.heap) (t':=t) Un.refl I.hok
theorem Inv.kept {t':Nat}(I:Inv X pins σ H s)(k:∀ b u,s.heap.get? b=some u→h'.get? b=some u):Inv X pins σ H { s with heap:=h',toks:=t' }:=I.un (Un.kept k) (I.hok.kept k)
theorem Inv.laid {a:Addr}{o:HO}{t':Nat}(I:Inv X pins σ H s)(k:∀ b u,s.heap.get? b=some u→h'.get? b=some u)(hp:s.heap.objs.size≤a)(new:ObjOk X.prog X.w (upd H a o) h' a o) :
  Inv X pins σ (upd H a o) { s with heap:=h',toks:=t' }:=I.un (Un.laid k hp (I.hok.fresh hp)) (I.hok.laid k hp new)
theorem Inv.write {x e:Addr}{o:HO}{t':Nat}(I:Inv X pins σ H s)(mu:Mut (H x))(he:e=x∨H e=some (.own x))(k:∀ b u,b≠e→s.heap.get? b=some u→h'.get? b=some u)(heo:∃ u,h'.get? e=some u)
  (new:ObjOk X.prog X.w (upd H x o) h' x o):Inv X pins σ (upd H x o) { s with heap:=h',toks:=t' }:=I.un (Un.write mu he k heo) (I.hok.write mu he k heo new)
theorem Inv.pins_of {pins':List (Addr×Obj)}(I:Inv X pins σ H s)(h:∀ p∈pins',s.heap.get? p.1=some p.2∧H p.1=none∧p.1≠X.env.locals∧p.1∉X.fs∧∀ v,p.2.data≠.cell v):Inv X pins' σ H s :=
 ⟨I.ok,I.os,I.bare,I.base,I.loc,I.cell,I.free,I.freeC,fun p hp=>(List.mem_append.mp hp).elim (fun z=>I.pin p (List.mem_append_left _ z)) (h p),I.hok,I.len⟩
theorem gw {N:List Str}(hN:N.Nodup){i j:Nat}{x:Str}(a:N[i]?=some x)(b:N[j]?=some x):i=j:=by
 obtain⟨h1,e1⟩:=List.getElem?_eq_some_iff.mp a
 obtain⟨h2,e2⟩:=List.getElem?_eq_some_iff.mp b
 exact(List.getElem_inj hN).mp (e1.trans e2.symm)
theorem mM {M:Model}{A:Around}{E:Value→Shared→Prop}{i:Nat}{x:Str}{v:V}{u:Value}{Q:Unit→Shared→Prop}(I:Inv X pins σ H s)(hN:X.N.Nodup)(hi:X.N[i]?=some x)(hx:Loc X.env.scope x)(r:RelV v u)
  (h:∀ s',Inv X pins (σ.set i (some v)) H s'→(∃ a,Heap.SameBut a s.heap s'.heap∧(a=X.env.locals∨X.env.cells.lookup x=some a))→Q () s') (hf:X.fn x=true∨X.env.scope.names.lookup x=some .local:=by first | exact .inl rfl | exact .inr rfl | assumption):wpAny M A (storeName X.env x u) Q E s:=by
 obtain⟨m,hn,hl⟩:=id I.loc
 have hcls:(X.env.scope.kind==.class||(X.env.scope.kind==.module&&X.env.locals != X.env.globals))=false:=by rw[I.ok.kind];rfl
 have hiσ:i < σ.length:=by rw[I.len];exact(List.getElem?_eq_some_iff.mp hi).1
 have cne:=I.cne
 have tracked:∀ {a:Addr} {h':Heap},(∃ o,s.heap.get? a=some o∧H a=none)→Heap.SameBut a s.heap h'→HOk X.prog X.w H h':=fun {a h'} ha hs b ob e=>by
  obtain⟨_,_,hfree⟩:=ha
  refine(I.hok b ob e).stay (fun c w' hc q=>(hs.2 c ?_).trans q) (fun _ q=>q) fun _ _ q=>q
  rintro rfl
  rcases hc with rfl | hc
  ·rw[hfree]at e;cases e
  ·rw[hfree]at hc;cases hc
 rcases hx with hk | hk
 ·refine wpAny_storeName_local hk hn (fun h' hn' hs=>?_) hcls
  obtain⟨oL,_,_,hoL,_⟩:=id hn
  refine h _ ⟨I.ok,I.os,I.bare,⟨fun b o e n hb hx=>?_,fun b o e n hb hx=>?_,I.base.free,fun b o e hx=>?_,I.base.tups,I.base.frzs,I.base.tbls⟩,⟨_,hn',fun j y v' e1 e2 e3=>?_⟩,fun y c e=>?_,I.free,I.freeC,fun p hp=>?_,tracked ⟨oL,hoL,I.free⟩ hs,by simpa using I.len⟩ ⟨_,hs,.inl rfl⟩
  ·exact(hs.2 b (Nat.ne_of_lt (Nat.lt_of_lt_of_le (Heap.lt_size e) I.ok.above))).trans (I.base.keep b o e n hb hx)
  ·obtain⟨sl,e1⟩:=I.base.slot b o e n hb hx
   exact⟨sl,(hs.2 b (Nat.ne_of_lt (Nat.lt_of_lt_of_le (Heap.lt_size e) I.ok.above))).trans e1⟩
  ·obtain⟨o',e1⟩:=I.base.there b o e hx
   exact⟨o',(hs.2 b (Nat.ne_of_lt (Nat.lt_of_lt_of_le (Heap.lt_size e) I.ok.above))).trans e1⟩
  ·by_cases hj:j=i
   ·subst hj
    rw[hi]at e1;cases e1
    rw[List.getElem?_set_self hiσ]at e2
    cases e2
    exact⟨u,r,.inl ⟨hk,by simp⟩⟩
   ·rw[List.getElem?_set_ne (Ne.symm hj)]at e2
    obtain⟨u',r',q⟩:=hl j y v' e1 e2 e3
    refine⟨u',r',?_⟩
    rcases q with ⟨k,e⟩ | ⟨k,c,e,z⟩
    ·refine .inl ⟨k,?_⟩
     have:y≠x:=fun e=>hj (gw hN e1 (e ▸ hi))
     simp[this,e]
    ·exact .inr ⟨k,c,e,z.sameBut hs (cne y c e)⟩
  ·obtain⟨w',z⟩:=I.cell y c e
   exact⟨w',z.sameBut hs (cne y c e)⟩
  ·obtain⟨e,n,ne,nf,d⟩:=I.pin p hp
   exact⟨(hs.2 p.1 ne).trans e,n,ne,nf,d⟩
 ·have hfn:X.fn x=true:=by
   rcases hf with z | z
   ·exact z
   ·rw[z]at hk;cases hk
  obtain⟨c,hc⟩:=I.ok.has x (.inl hk)
  obtain⟨w',z⟩:=I.cell x c hc
  refine wpAny_storeName_cell I.ok.kind hk hc z (fun h' hc' hs=>?_)
  obtain⟨oc,hoc,hocd⟩:=id z
  refine h { s with heap:=h' } ⟨I.ok,I.os,I.bare,⟨fun b o e n hb hx=>?_,fun b o e n hb hx=>?_,I.base.free,fun b o e hx=>?_,I.base.tups,I.base.frzs,I.base.tbls⟩,⟨m,hn.sameBut hs (Ne.symm (cne x c hc)),fun j y v' e1 e2 e3=>?_⟩,fun y c' e=>?_,I.free,I.freeC,fun p hp=>?_,tracked ⟨oc,hoc,I.freeC x c hc⟩ hs,by simpa using I.len⟩ ⟨c,hs,.inr hc⟩
  ·exact(hs.2 b (Nat.ne_of_lt (Nat.lt_of_lt_of_le (Heap.lt_size e) (I.ok.cab x c hfn hc)))).trans (I.base.keep b o e n hb hx)
  ·obtain⟨sl,e1⟩:=I.base.slot b o e n hb hx
   exact⟨sl,(hs.2 b (Nat.ne_of_lt (Nat.lt_of_lt_of_le (Heap.lt_size e) (I.ok.cab x c hfn hc)))).trans e1⟩
  ·obtain⟨o',e1⟩:=I.base.there b o e hx
   exact⟨o',(hs.2 b (Nat.ne_of_lt (Nat.lt_of_lt_of_le (Heap.lt_size e) (I.ok.cab x c hfn hc)))).trans e1⟩
  ·by_cases hj:j=i
   ·subst hj
    rw[hi]at e1;cases e1
    rw[List.getElem?_set_self hiσ]at e2
    cases e2
    exact⟨u,r,.inr ⟨.inl hk,c,hc,hc'⟩⟩
   ·rw[List.getElem?_set_ne (Ne.symm hj)]at e2
    obtain⟨u',r',q⟩:=hl j y v' e1 e2 e3
    refine⟨u',r',?_⟩
    rcases q with q | ⟨k,c',e,z'⟩
    ·exact .inl q
    ·refine .inr ⟨k,c',e,z'.sameBut hs ?_⟩
     rintro rfl
     exact hj (gw hN e1 (I.ok.inj _ _ _ e hc ▸ hi))
  ·by_cases hcc:c'=c
   ·subst hcc;exact⟨_,hc'⟩
   ·obtain⟨w2,z2⟩:=I.cell y c' e
    exact⟨w2,z2.sameBut hs hcc⟩
  ·obtain⟨e,n,ne,nf,d⟩:=I.pin p hp
   refine⟨(hs.2 p.1 ?_).trans e,n,ne,nf,d⟩
   intro q
   rw[q,hoc]at e
   have q':oc=p.2:=Option.some.inj e
   exact d w' (by rw[← q'];exact hocd)
theorem dG {M:Model}{A:Around}{E:Value→Shared→Prop}{i:Nat}{x:Str}{v:V}{u:Value}{Q:Unit→Shared→Prop}(I:Inv X pins σ H s)(hN:X.N.Nodup)(hi:X.N[i]?=some x)(hx:Loc X.env.scope x)(r:RelV v u)
  (h:∀ s',Inv X pins (σ.set i (some v)) H s'→Q () s') (hf:X.fn x=true∨X.env.scope.names.lookup x=some .local:=by first | exact .inl rfl | exact .inr rfl | assumption):wpAny M A (storeName X.env x u) Q E s :=
 mM I hN hi hx r (fun s' I' _=>h s' I') hf
theorem Inv.call' {s':Shared}{ch:List Addr}(I:Inv X pins σ H s)(ho:s'.os=s.os)(u:Un (frs X.stack) ch H H' s.heap s'.heap)(hok:HOk X.prog X.w H' s'.heap)(hg:AllBare s'.gens)
  (hch:∀ b∈ch,(b∈X.ex∨X.s₀.heap.objs.size≤b)∧b≠X.env.locals∧(∀ x c,X.env.cells.lookup x=some c→c≠b)∧∀ p∈X.pn++pins,p.1≠b):Inv X pins σ H' s':=by
 obtain⟨h',g',d',t',o'⟩:=s'
 have e:o'=s.os:=ho
 subst e
 exact I.call (g':=g') (t':=t') (d':=d') u hok hg hch
end
abbrev XK:=Value→Option Addr→Hp→Prop
abbrev St:=List (Option V)
abbrev VK:=V→Hp→Prop
abbrev TE:=St→Hp→VK→Prop
abbrev TT:=St→Hp→(Bool→Hp→Prop)→Prop
abbrev TA:=St→Hp→(List V→Hp→Prop)→Prop
structure Ends where
 nx:St→Hp→Prop
 rt:VK
 bk:St→Hp→Prop:=fun _ _=>False
 ct:St→Hp→Prop:=fun _ _=>False
abbrev TS:=Ends→St→Hp→Prop
def EP (X:Cx)(pins:List (Addr×Obj))(σ:St)(Q:VK)(u:Value)(s':Shared):Prop:=∃ v H',Inv X pins σ H' s'∧RelV v u∧Q v H'
def TP (X:Cx)(pins:List (Addr×Obj))(σ:St)(Q:Bool→Hp→Prop)(b:Bool)(s':Shared):Prop:=∃ H',Inv X pins σ H' s'∧Q b H'
def AP (X:Cx)(pins:List (Addr×Obj))(σ:St)(Q:List V→Hp→Prop)(us:List Value)(s':Shared):Prop:=∃ vs H',Inv X pins σ H' s'∧Vals vs us∧Q vs H'
def SP (X:Cx)(pins:List (Addr×Obj))(D:Ends)(f:Flow)(s':Shared):Prop :=
 match f with
 | .next=>∃ σ' H',Inv X pins σ' H' s'∧D.nx σ' H'
 | .brk=>∃ σ' H',Inv X pins σ' H' s'∧D.bk σ' H'
 | .cont=>∃ σ' H',Inv X pins σ' H' s'∧D.ct σ' H'
 | .ret u=>∃ v σ' H',Inv X pins σ' H' s'∧RelV v u∧D.rt v H'
def PE (X:Cx)(e:Expr)(t:TE):Prop :=
 ∀ (pins:List (Addr×Obj)) (s:Shared) (σ:St) (H:Hp) (Q:VK),Inv X pins σ H s→t σ H Q→wpAny (model X.prog X.w) X.A (eval e X.env) (EP X pins σ Q) X.xe s
def PT (X:Cx)(e:Expr)(t:TT):Prop :=
 ∀ (pins:List (Addr×Obj)) (s:Shared) (σ:St) (H:Hp) (Q:Bool→Hp→Prop),Inv X pins σ H s→t σ H Q→wpAny (model X.prog X.w) X.A (isTrue e X.env (eval e X.env)) (TP X pins σ Q) X.xe s
def PW (X:Cx)(e:Expr)(t:TT):Prop :=
 ∀ (whole:Sem Value) (pins:List (Addr×Obj)) (s:Shared) (σ:St) (H:Hp) (Q:Bool→Hp→Prop),Inv X pins σ H s→t σ H Q→wpAny (model X.prog X.w) X.A (isTrue e X.env whole) (TP X pins σ Q) X.xe s
theorem PW.pt {X:Cx}{e:Expr}{t:TT}(h:PW X e t):PT X e t:=h _
def PA (X:Cx)(es:List Expr)(t:TA):Prop :=
 ∀ (pos:Pos) (pins:List (Addr×Obj)) (s:Shared) (σ:St) (H:Hp) (Q:List V→Hp→Prop),Inv X pins σ H s→t σ H Q→wpAny (model X.prog X.w) X.A (spliced (backTo pos (starEach es X.env))) (AP X pins σ Q) X.xe s
def PS (X:Cx)(st:Stmt)(t:TS):Prop :=
 ∀ (pins:List (Addr×Obj)) (s:Shared) (σ:St) (H:Hp) (D:Ends),Inv X pins σ H s→t D σ H→wpAny (model X.prog X.w) X.A (exec st X.env) (SP X pins D) X.xe s
def PSs (X:Cx)(st:List Stmt)(t:TS):Prop :=
 ∀ (pins:List (Addr×Obj)) (s:Shared) (σ:St) (H:Hp) (D:Ends),Inv X pins σ H s→t D σ H→wpAny (model X.prog X.w) X.A (execs st X.env) (SP X pins D) X.xe s
theorem thn {α:Type}{t:Sem α}{Q Q':α→Shared→Prop}{M:Model}{A:Around}{E:Value→Shared→Prop}{s:Shared}(h:wpAny M A t Q E s)(hQ:∀ a s,Q a s→Q' a s):wpAny M A t Q' E s:=wpAny_mono h hQ fun _ _ x=>x
end L2
namespace L2
open PySem PySem.Spec PyProof.Rows
section
variable {X:Cx}
theorem bin {a b:Expr}{ta tb:TE}(ha:PE X a ta)(hb:PE X b tb){pins:List (Addr×Obj)}{s:Shared}{σ:St}{H:Hp}{R:V→V→Hp→Prop}(I:Inv X pins σ H s)(h:ta σ H fun x H1=>tb σ H1 fun y H2=>R x y H2)
  {α:Type} {Q:α→Shared→Prop} {f:Value→Value→Sem α}
  (hf:∀ v u s2 x y H2,Inv X pins σ H2 s2→RelV x v→RelV y u→R x y H2→wpAny (model X.prog X.w) X.A (f v u) Q X.xe s2) :
  wpAny (model X.prog X.w) X.A (eval a X.env) (fun v s₁=>wpAny (model X.prog X.w) X.A (eval b X.env) (fun u s₂=>wpAny (model X.prog X.w) X.A (f v u) Q X.xe s₂) X.xe s₁) X.xe s:=by
 refine thn (ha pins s σ H _ I h) fun v s1 ⟨x,H1,I1,r1,q1⟩=>?_
 refine thn (hb pins s1 σ H1 _ I1 q1) fun u s2 ⟨y,H2,I2,r2,q2⟩=>?_
 exact hf v u s2 x y H2 I2 r1 r2 q2
def tVar (i:Nat):TE:=fun σ H Q=>∃ v,σ[i]?=some (some v)∧Q v H
def tC (v:V):TE:=fun _ H Q=>Q v H
theorem bQ {i:Nat}{x:Str}{pos:Pos}(hN:X.N[i]?=some x)(hv:Vis X.env.scope x)(hd:(x==("__debug__":Str))=false:=by decide)(hcd:(x==("__classdict__":Str))=false:=by decide):PE X (.Name x pos) (tVar i):=by
 intro pins s σ H Q I h
 obtain⟨v,e,h⟩:=h
 obtain⟨m,hn,hl⟩:=I.loc
 obtain⟨u,r,l⟩:=hl i x v hN e hv
 have fin:EP X pins σ Q u s:=⟨v,H,I,r,h⟩
 rcases l with ⟨hk,hm⟩ | ⟨hk,c,hc,hcell⟩
 ·exact wpAny_Name (wpAny_loadName_local I.ok.kind hk hn hm fin) hd
 ·rcases hk with hk | hk
  ·exact wpAny_Name (wpAny_loadName_cell I.ok.kind hk hc hcell fin) hd
  ·exact wpAny_Name (wpAny_loadName_free I.ok.kind hk hc hcell fin hcd) hd
theorem sO {i j pos}:PE X (.Constant (.int i) j pos) (tC (.int i)):=fun _ _ _ H _ I h=>wpAny_Constant_int ⟨.int i,H,I.tok _,⟨_,rfl⟩,h⟩
theorem uA {b j pos}:PE X (.Constant (.bool b) j pos) (tC (.bl b)):=fun _ _ _ H _ I h=>Constant_bool ⟨.bl b,H,I,rfl,h⟩
theorem sP {j pos}:PE X (.Constant .none j pos) (tC .non):=fun _ _ _ H _ I h=>Constant_none ⟨.non,H,I,rfl,h⟩
theorem sQ {x j pos}:PE X (.Constant (.str x) j pos) (tC (.str x)):=fun _ _ _ H _ I h=>Calls.Constant_str ⟨.str x,H,I.tok _,⟨_,rfl⟩,h⟩
def Gl (X:Cx)(x:Str):Prop:=X.env.kindOf x=some .globalImplicit
theorem cX {E:Value→Shared→Prop}{pins:List (Addr×Obj)}{s:Shared}{σ:St}{H:Hp}{x:Str}{u:Value}{pos:Pos}{Q:Value→Shared→Prop}(I:Inv X pins σ H s)(hg:Gl X x)(hm:X.mg x=some u)(h:Q u s)
  (hd:(x==("__debug__":Str))=false:=by decide):wpAny (model X.prog X.w) X.A (eval (.Name x pos) X.env) Q E s :=
 Calls.Name_function_global I.ok.kind hg (Calls.loadGlobal_global (by rw[I.ok.glob];exact I.mod.glob.keeps I.bk) hm h) hd
theorem eG {E:Value→Shared→Prop}{pins:List (Addr×Obj)}{s:Shared}{σ:St}{H:Hp}{x:Str}{u:Value}{pos:Pos}{Q:Value→Shared→Prop}(I:Inv X pins σ H s)(hg:Gl X x)(hm:X.mg x=none)(hv:bootBuiltins x=some u)(h:Q u s)
  (hn:x ≠ "__name__" := by decide) (hd:(x==("__debug__":Str))=false:=by decide):wpAny (model X.prog X.w) X.A (eval (.Name x pos) X.env) Q E s:=by
 obtain⟨mb,h1,h2⟩:=I.mod.blt
 exact Calls.Name_function_global I.ok.kind hg (Calls.loadGlobal_builtin (by rw[I.ok.glob];exact I.mod.glob.keeps I.bk) hm (by rw[I.ok.blt];exact h1.keeps I.bk) ((h2 x hn).trans hv) h) hd
theorem az {x:Str}{v:V}{u:Value}{pos:Pos}(hg:Gl X x)(hm:X.mg x=some u)(r:RelV v u)(hd:(x==("__debug__":Str))=false:=by decide):PE X (.Name x pos) (tC v) :=
 fun _ _ _ H _ I h=>cX I hg hm ⟨v,H,I,r,h⟩ hd
theorem bc {x:Str}{v:V}{u:Value}{pos:Pos}(hg:Gl X x)(hm:X.mg x=none)(hv:bootBuiltins x=some u)(r:RelV v u)(hn:x ≠ "__name__" := by decide)(hd:(x==("__debug__":Str))=false:=by decide):PE X (.Name x pos) (tC v) :=
 fun _ _ _ H _ I h=>eG I hg hm hv ⟨v,H,I,r,h⟩ hn hd
variable {a b:Expr}{ta tb:TE}{pos:Pos}
def PC (X:Cx)(op:CmpOp)(a b:Expr)(t:TE):Prop :=
 ∀ (pins:List (Addr×Obj)) (s:Shared) (σ:St) (H:Hp) (Q:VK),Inv X pins σ H s→t σ H Q →
  wpAny (model X.prog X.w) X.A (eval a X.env) (fun v s₁=>wpAny (model X.prog X.w) X.A (eval b X.env) (fun u s₂=>wpAny (model X.prog X.w) X.A (compareOp op v u) (EP X pins σ Q) X.xe s₂) X.xe s₁) X.xe s
theorem nobehind (b:Expr){op:CmpOp}(h:op≠.In)(h2:op≠.NotIn):behindInMarks op b=false:=by
 have e1:(op==CmpOp.In)=false:=by cases op<;>first | rfl | exact absurd rfl h
 have e2:(op==CmpOp.NotIn)=false:=by cases op<;>first | rfl | exact absurd rfl h2
 cases b<;>simp[behindInMarks,e1,e2]
def tB (t:TE):TT:=fun σ H Q=>t σ H fun x H1=>∃ c,x=.bl c∧Q c H1
theorem vb {op:CmpOp}{t:TE}(h:PC X op a b t)(h1:behindInMarks op b=false:=by first | exact nobehind _ (by decide) (by decide) | rfl):PT X (.Compare a [op] [b] pos) (tB t):=by
 intro pins s σ H Q I hw
 refine wpAny_isTrue_Compare1 (thn (h pins s σ H _ I hw) fun v s1 h1=>thn h1 fun u s2 h2=>thn h2 fun c s3 ⟨x,H1,I1,r1,q1⟩=>?_) h1
 obtain⟨d,rfl,q⟩:=q1
 cases r1
 exact wpAny_truthy_bool ⟨H1,I1,q⟩
theorem sR {e:Expr}{t:TE}(h:PE X e t)(he:∀ whole,isTrue e X.env whole=(do let v ← whole;standAt e.pos;holding [v] (truthy v)):=by intro _;rfl):PT X e (tB t):=by
 intro pins s σ H Q I hw
 refine isTrue_plain (thn (h pins s σ H _ I hw) fun v s1 ⟨x,H1,I1,r1,q1⟩=>?_) (he _)
 obtain⟨d,rfl,q⟩:=q1
 cases r1
 exact wpAny_truthy_bool ⟨H1,I1,q⟩
variable {tA tB':TT}{rest:List Expr}
def tAnd (t u:TT):TT:=fun σ H Q=>t σ H fun c H1=>if c=true then u σ H1 Q else Q false H1
def tOr (t u:TT):TT:=fun σ H Q=>t σ H fun c H1=>if c=true then Q true H1 else u σ H1 Q
def tNot (t:TT):TT:=fun σ H Q=>t σ H fun c H1=>Q (!c) H1
theorem qH (ha:PT X a tA):PW X (.BoolOp .And [a] pos) tA:=by
 intro wh pins s σ H Q I h
 refine isTrue_and (thn (ha pins s σ H Q I h) fun c s1 e=>?_)
 cases c with
 | true=>exact isTrue_and_nil e
 | false=>exact e
theorem sS (ha:PT X a tA):PW X (.BoolOp .Or [a] pos) tA:=by
 intro wh pins s σ H Q I h
 refine isTrue_or (thn (ha pins s σ H Q I h) fun c s1 e=>?_)
 cases c with
 | false=>exact isTrue_or_nil e
 | true=>exact e
theorem sT (ha:PT X a tA)(hb:PW X (.BoolOp .And (b::rest) pos) tB'):PW X (.BoolOp .And (a::b::rest) pos) (tAnd tA tB'):=by
 intro wh pins s σ H Q I h
 refine isTrue_and (thn (ha pins s σ H _ I h) fun c s1 ⟨H1,I1,q1⟩=>?_)
 cases c with
 | true=>exact hb wh pins s1 σ H1 Q I1 q1
 | false=>exact⟨H1,I1,q1⟩
theorem uB (ha:PT X a tA)(hb:PW X (.BoolOp .Or (b::rest) pos) tB'):PW X (.BoolOp .Or (a::b::rest) pos) (tOr tA tB'):=by
 intro wh pins s σ H Q I h
 refine isTrue_or (thn (ha pins s σ H _ I h) fun c s1 ⟨H1,I1,q1⟩=>?_)
 cases c with
 | true=>exact⟨H1,I1,q1⟩
 | false=>exact hb wh pins s1 σ H1 Q I1 q1
theorem sU (ha:PT X a tA):PT X (.UnaryOp .Not a pos) (tNot tA):=by
 intro pins s σ H Q I h
 exact isTrue_not (ha pins s σ H (fun c H1=>Q (!c) H1) I h)
def tAndV (ta tb:TE):TE:=fun σ H Q=>ta σ H fun x H1=>∃ c,x=.bl c∧if c=true then tb σ H1 Q else Q (.bl false) H1
def tNotV (ta:TE):TE:=fun σ H Q=>ta σ H fun x H1=>∃ c,x=.bl c∧Q (.bl (!c)) H1
theorem sV {op}{t:TE}(h:PE X a t):PE X (.BoolOp op [a] pos) t:=fun pins s σ H Q I hw=>BoolOp_one (h pins s σ H Q I hw)
theorem sW (ha:PE X a ta)(hb:PE X (.BoolOp .And (b::rest) pos) tb):PE X (.BoolOp .And (a::b::rest) pos) (tAndV ta tb):=by
 intro pins s σ H Q I h
 refine BoolOp_and (thn (ha pins s σ H _ I h) fun v s1 ⟨x,H1,I1,r1,q1⟩=>?_)
 obtain⟨c,rfl,q1⟩:=q1
 cases r1
 refine wpAny_truthy_bool ?_
 cases c with
 | true=>exact hb pins s1 σ H1 Q I1 q1
 | false=>exact⟨.bl false,H1,I1,rfl,q1⟩
theorem sX (ha:PE X a ta):PE X (.UnaryOp .Not a pos) (tNotV ta):=by
 intro pins s σ H Q I h
 refine UnaryOp_ (thn (ha pins s σ H _ I h) fun v s1 ⟨x,H1,I1,r1,q1⟩=>?_)
 obtain⟨c,rfl,q1⟩:=q1
 cases r1
 exact not_of (wpAny_truthy_bool ⟨.bl (!c),H1,I1,rfl,q1⟩)
end
end L2
namespace L2
open PySem PySem.Spec PyProof.Rows
def SqL (K:PySem.W.Frag)(H:Hp)(a:Addr)(xs:List V):Prop :=
 Rd H a (.lst xs) ∨
  ∃ (o:Obj) (its:Array Value) (n:Nat),K.lookup a=some o∧o.cls=.type "list" ∧ o.dict=none∧o.data=.seq its n∧its.size≤sizeLine∧Vals xs its.toList
def SqT (K:PySem.W.Frag)(H:Hp)(a:Addr)(xs:List V):Prop :=
 Rd H a (.tup xs) ∨
  ∃ (o:Obj) (its:Array Value) (n:Nat),K.lookup a=some o∧o.cls=.type "tuple" ∧ o.dict=none∧o.data=.seq its n∧its.size≤sizeLine∧Vals xs its.toList
def absV:Value→Option V
 | .none=>some .non
 | .bool b=>some (.bl b)
 | .int i _=>some (.int i)
 | .str x _=>some (.str x)
 | .bytes b _=>some (.byt b)
 | .float b _=>some (.flt b)
 | .ref a=>some (.ref a)
 | .type n=>some (.ty n)
 | _=>none
theorem RelV.abs {x:V}{u:Value}(r:RelV x u):absV u=some x:=by
 cases x with
 | non=>cases r;rfl
 | bl _=>cases r;rfl
 | int _=>obtain⟨t,rfl⟩:=r;rfl
 | str _=>obtain⟨t,rfl⟩:=r;rfl
 | byt _=>obtain⟨t,rfl⟩:=r;rfl
 | flt _=>obtain⟨t,rfl⟩:=r;rfl
 | ref _=>cases r;rfl
 | ty _=>cases r;rfl
theorem RelV.inj {x y:V}{u:Value}(r:RelV x u)(q:RelV y u):x=y:=Option.some.inj (r.abs.symm.trans q.abs)
theorem Vals.inj:∀ {xs ys:List V} {us:List Value},Vals xs us→Vals ys us→xs=ys
 | _,_,_,.nil,.nil=>rfl
 | _,_,_,.cons r t,.cons r' t'=>by rw[r.inj r',Vals.inj t t']
section
variable {X:Cx}{pins:List (Addr×Obj)}{σ:St}{H:Hp}{s:Shared}{a:Addr}{xs ys:List V}
theorem SqL.of {K:PySem.W.Frag}(h:H a=some (.lst xs)):SqL K H a xs:=.inl (.inl h)
theorem SqT.of {K:PySem.W.Frag}(h:H a=some (.tup xs)):SqT K H a xs:=.inl (.inl h)
theorem Inv.list (I:Inv X pins σ H s)(h:SqL X.K H a xs):∃ its:List Value,Vals xs its∧PlainL s.heap a its.toArray∧xs.length≤sizeLine:=by
 rcases h with h | ⟨o,its,n,hk,hc,hd,hs,hz,r⟩
 ·obtain⟨z,its,n,r,e⟩:=h.ok I.hok
  exact⟨its,r,⟨_,n,e,rfl,rfl,rfl⟩,z⟩
 ·refine⟨its.toList,r,⟨o,n,I.kIn a o hk,hc,hd,by simpa using hs⟩,?_⟩
  have e:=r.length
  simp only[Array.length_toList]at e
  omega
theorem Inv.tuple (I:Inv X pins σ H s)(h:SqT X.K H a xs):∃ its:List Value,Vals xs its∧IsTup s.heap a its.toArray∧xs.length≤sizeLine:=by
 rcases h with h | ⟨o,its,n,hk,hc,_,hs,hz,r⟩
 ·obtain⟨z,its,r,p⟩:=h.ok I.hok
  exact⟨its,r,p.is,z⟩
 ·refine⟨its.toList,r,⟨o,I.kIn a o hk,hc,n,by simpa using hs⟩,?_⟩
  have e:=r.length
  simp only[Array.length_toList]at e
  omega
theorem Inv.list_inj (I:Inv X pins σ H s)(h:SqL X.K H a xs)(h':SqL X.K H a ys):xs=ys:=by
 obtain⟨its,r,⟨o,n,e,_,_,d⟩,_⟩:=I.list h
 obtain⟨its',r',⟨o',n',e',_,_,d'⟩,_⟩:=I.list h'
 rw[e]at e';cases e'
 rw[d]at d'
 injection d' with d1 _
 have:its=its':=by simpa using congrArg Array.toList d1
 subst this
 exact r.inj r'
theorem Inv.tuple_inj (I:Inv X pins σ H s)(h:SqT X.K H a xs)(h':SqT X.K H a ys):xs=ys:=by
 obtain⟨its,r,⟨o,e,_,n,d⟩,_⟩:=I.tuple h
 obtain⟨its',r',⟨o',e',_,n',d'⟩,_⟩:=I.tuple h'
 rw[e]at e';cases e'
 rw[d]at d'
 injection d' with d1 _
 have:its=its':=by simpa using congrArg Array.toList d1
 subst this
 exact r.inj r'
end
section
variable {X:Cx}{pins:List (Addr×Obj)}{σ:St}{H:Hp}{s:Shared}{E:Value→Shared→Prop}
end
section
variable {X:Cx}{st:Stmt}{rest:List Stmt}{t u:TS}{e:Expr}{te:TE}{pos:Pos}
def tNext:TS:=fun D σ H=>D.nx σ H
def tSeq (t u:TS):TS:=fun D σ H=>t { D with nx:=u D } σ H
theorem lU:PSs X [] tNext:=fun _ _ σ H _ I h=>wpAny_execs_nil ⟨σ,H,I,h⟩
theorem a9 (h1:PS X st t)(h2:PSs X rest u):PSs X (st::rest) (tSeq t u):=by
 intro pins s σ H D I h
 refine wpAny_execs_cons (thn (h1 pins s σ H { D with nx:=u D } I h) fun f s1 q=>?_)
 cases f with
 | next =>
  obtain⟨σ',H',I',q⟩:=q
  exact h2 pins s1 σ' H' D I' q
 | ret v=>exact q
 | brk=>exact q
 | cont=>exact q
theorem fY (h1:PS X st t):PSs X [st] t:=by
 intro pins s σ H D I h
 refine wpAny_execs_cons (thn (h1 pins s σ H D I h) fun f s1 q=>?_)
 cases f with
 | next=>exact wpAny_execs_nil q
 | ret v=>exact q
 | brk=>exact q
 | cont=>exact q
theorem Inv.quiet {pins:List (Addr×Obj)}{σ:St}{H:Hp}{s:Shared}(I:Inv X pins σ H s):interactive X.env=false:=by simp[interactive,I.ok.kind]
def tDrop (te:TE):TS:=fun D σ H=>te σ H fun _ H1=>D.nx σ H1
theorem fZ (he:PE X e te)(hs:swapsWith e none pos.line X.env=pure false:=by rfl):PS X (.Expr e pos) (tDrop te):=by
 intro pins s σ H D I h
 exact wpAny_Expr_any (thn (he pins s σ H _ I h) fun v s1 ⟨x,H1,I1,r1,q1⟩=>⟨σ,H1,I1,q1⟩) I.quiet hs
def tRet (te:TE):TS:=fun D σ H=>te σ H D.rt
theorem kG (he:PE X e te):PS X (.Return (some e) pos) (tRet te):=by
 intro pins s σ H D I h
 exact wpAny_Return_some (thn (he pins s σ H _ I h) fun v s1 ⟨x,H1,I1,r1,q1⟩=>⟨x,σ,H1,I1,r1,q1⟩)
def tIfS (c:TT)(t u:TS):TS:=fun D σ H=>c σ H fun b H1=>if b=true then t D σ H1 else u D σ H1
theorem sx {c:Expr}{a b:List Stmt}{tc:TT}(hc:PT X c tc)(ha:PSs X a t)(hb:PSs X b u):PS X (.If c a b pos) (tIfS tc t u):=by
 intro pins s σ H D I h
 refine wpAny_If (thn (hc pins s σ H _ I h) fun d s1 ⟨H1,I1,q1⟩=>?_)
 cases d with
 | true=>exact ha pins s1 σ H1 D I1 q1
 | false=>exact hb pins s1 σ H1 D I1 q1
def tNever:TS:=fun _ _ _=>False
theorem eI {sts:List Stmt}:PSs X sts tNever:=fun _ _ _ _ _ _ h=>h.elim
end
abbrev TG:=V→St→Hp→(St→Hp→Prop)→Prop
abbrev TGs:=List V→St→Hp→(St→Hp→Prop)→Prop
def PG (X:Cx)(target:Expr)(t:TG):Prop :=
 ∀ (pins:List (Addr×Obj)) (s:Shared) (σ:St) (H:Hp) (v:V) (u:Value) (Q:St→Hp→Prop),Inv X pins σ H s→RelV v u→t v σ H Q →
  wpAny (model X.prog X.w) X.A (assign target X.env u) (fun _ s'=>∃ σ' H',Inv X pins σ' H' s'∧Q σ' H') X.xe s
def PGs (X:Cx)(ts:List Expr)(t:TGs):Prop :=
 ∀ (pins:List (Addr×Obj)) (s:Shared) (σ:St) (H:Hp) (vs:List V) (us:List Value) (Q:St→Hp→Prop),Inv X pins σ H s→Vals vs us→t vs σ H Q →
  wpAny (model X.prog X.w) X.A (assignInOrder ((assignEach ts X.env).map (·.2)) us) (fun _ s'=>∃ σ' H',Inv X pins σ' H' s'∧Q σ' H') X.xe s
abbrev TSet:=V→V→V→Hp→(Hp→Prop)→Prop
def PSet (X:Cx)(t:TSet):Prop :=
 ∀ (pins:List (Addr×Obj)) (s:Shared) (σ:St) (H:Hp) (o i v:V) (ov iv u:Value) (Q:Hp→Prop),Inv X pins σ H s→RelV o ov→RelV i iv→RelV v u→t o i v H Q →
  wpAny (model X.prog X.w) X.A (setItem ov iv u) (fun _ s'=>∃ H',Inv X pins σ H' s'∧Q H') X.xe s
section
variable {X:Cx}{pos:Pos}
def gName (i:Nat):TG:=fun v σ H Q=>Q (σ.set i (some v)) H
theorem jh {i:Nat}{x:Str}(hN:X.N.Nodup)(hi:X.N[i]?=some x)(hx:Loc X.env.scope x)(hf:X.fn x=true∨X.env.scope.names.lookup x=some .local:=by first | exact .inl rfl | exact .inr rfl | assumption):PG X (.Name x pos) (gName i):=by
 intro pins s σ H v u Q I r h
 exact wpAny_assign_Name (dG I hN hi hx r (fun s' I'=>⟨_,H,I',h⟩) hf)
def gNil:TGs:=fun vs σ H Q=>vs=[]∧Q σ H
def gCons (t:TG)(u:TGs):TGs:=fun vs σ H Q=>∃ v r,vs=v::r∧t v σ H fun σ' H'=>u r σ' H' Q
theorem qI:PGs X [] gNil:=by
 intro pins s σ H vs us Q I r h
 obtain⟨e,h⟩:=h
 subst e
 cases r
 exact assignInOrder_nil ⟨σ,H,I,h⟩
theorem jQ {e:Expr}{es:List Expr}{t:TG}{u:TGs}(h1:PG X e t)(h2:PGs X es u)
  (hs:(assignEach (e::es) X.env).map (·.2)=assign e X.env::(assignEach es X.env).map (·.2):=by rfl):PGs X (e::es) (gCons t u):=by
 intro pins s σ H vs us Q I r h
 obtain⟨v,vr,e1,h⟩:=h
 subst e1
 cases r with
 | cons r rr =>
  rw[hs]
  refine assignInOrder_cons (thn (h1 pins s σ H _ _ _ I r h) fun _ s1 ⟨σ1,H1,I1,q1⟩=>?_)
  exact h2 pins s1 σ1 H1 _ _ Q I1 rr q1
def gTup (K:PySem.W.Frag)(n:Nat)(t:TGs):TG:=fun v σ H Q=>∃ a xs,v=.ref a∧SqT K H a xs∧xs.length=n∧t xs σ H Q
theorem sY {es:List Expr}{k:Nat}{t:TGs}{n:Nat}(hc:X.calm=true)(h:PGs X es t)
  (hn:(assignEach es X.env).length=n:=by rfl) (hst:(assignEach es X.env).findIdx? (·.1)=none:=by rfl):PG X (.Tuple es k pos) (gTup X.K n t):=by
 intro pins s σ H v u Q I r hw
 obtain⟨a,xs,e1,hq,hl,hw⟩:=hw
 subst e1
 cases r
 obtain⟨its,rv,ht,hz⟩:=I.tuple hq
 refine assign_Tuple_tuple (I.ok.hd hc) ht (by simp[hn,← hl,rv.length]) hst fun h' hx=>?_
 have I1:Inv X pins σ H { s with heap:=h' }:=I.kept (t':=s.toks) fun b o e=>hx b o (Nat.ne_of_lt (Heap.lt_size e)) e
 exact h pins _ σ H xs _ Q I1 (by simpa using rv) hw
def gSub (to ti:TE)(t:TSet):TG:=fun v σ H Q=>to σ H fun o H1=>ti σ H1 fun i H2=>t o i v H2 fun H3=>Q σ H3
theorem oG {o i:Expr}{to ti:TE}{t:TSet}(ho:PE X o to)(hi:PE X i ti)(hs:PSet X t)
  (ha:∀ v,assign (.Subscript o i pos) X.env v=(do
   let ov ← holding [v] (eval o X.env)
   let iv ← holding [v,ov] (eval i X.env)
   standAt pos
   holding [v,ov,iv] (setItem ov iv v)
   release [v,ov,iv] []):=by intro _;rfl):PG X (.Subscript o i pos) (gSub to ti t):=by
 intro pins s σ H v u Q I r h
 rw[ha]
 refine wpAny_bind (wpAny_holding (thn (ho pins s σ H _ I h) fun ov s1 ⟨x,H1,I1,r1,q1⟩=>?_))
 refine wpAny_bind (wpAny_holding (thn (hi pins s1 σ H1 _ I1 q1) fun iv s2 ⟨y,H2,I2,r2,q2⟩=>?_))
 refine wpAny_bind (wpAny_standAt (wpAny_bind (wpAny_holding (thn (hs pins s2 σ H2 x y v ov iv u _ I2 r1 r2 r q2) fun _ s3 ⟨H3,I3,q3⟩=>?_))))
 exact wpAny_release ⟨σ,H3,I3,q3⟩
def tAsg (te:TE)(g:TG):TS:=fun D σ H=>te σ H fun x H1=>g x σ H1 D.nx
theorem oH {tg e:Expr}{te:TE}{g:TG}(he:PE X e te)(hg:PG X tg g)(hs:swapsWithSole [tg] e pos.line X.env=pure false:=by rfl)(hw:swappedStores [tg] e X.env=pure none:=by rfl)
  (h1:(assignEach [tg] X.env).map (·.2)=[assign tg X.env]:=by rfl):PS X (.Assign [tg] e pos) (tAsg te g):=by
 intro pins s σ H D I h
 refine wpAny_Assign_stores (thn (he pins s σ H _ I h) fun v s1 ⟨x,H1,I1,r1,q1⟩=>?_) hs hw
 rw[h1]
 exact thn (hg pins s1 σ H1 x v _ I1 r1 q1) fun _ s2 q=>q
theorem ji {i:Nat}{x:Str}{e:Expr}{te:TE}{pos':Pos}(hN:X.N.Nodup)(hi:X.N[i]?=some x)(hx:Loc X.env.scope x)(he:PE X e te)(hs:swapsWith e (some (.Name x pos')) pos.line X.env=pure false:=by rfl)(hf:X.fn x=true∨X.env.scope.names.lookup x=some .local:=by first | exact .inl rfl | exact .inr rfl | assumption) :
  PS X (.Assign [.Name x pos'] e pos) (tAsg te (gName i)):=by
 intro pins s σ H D I h
 refine wpAny_Assign_Name (thn (he pins s σ H _ I h) fun v s1 ⟨y,H1,I1,r1,q1⟩=>?_) hs
 exact dG I1 hN hi hx r1 (fun s2 I2=>⟨_,H1,I2,q1⟩) hf
end
section
variable {X:Cx}{pos:Pos}
end
structure It where
 go:Nat→Hp→Prop
 yld:Nat→Hp→V→Hp→Prop
 stop:Nat→Hp→Prop
def FpOk (X:Cx)(pins:List (Addr×Obj))(H:Hp)(b:Addr):Prop :=
 H b=none∧b≠X.env.locals∧b∉X.fs∧(b∈X.ex∨X.s₀.heap.objs.size≤b)∧(∀ x c,X.env.cells.lookup x=some c→c≠b)∧∀ p∈X.pn++pins,p.1≠b
theorem Inv.fpOk {X:Cx}{pins:List (Addr×Obj)}{σ:St}{H H':Hp}{s:Shared}{b:Addr}(I:Inv X pins σ H s)(hb:s.heap.objs.size≤b)(hn:H' b=none):FpOk X pins H' b:=by
 refine⟨hn,Nat.ne_of_gt (Nat.lt_of_lt_of_le I.lt hb),I.nofs hb,.inr (Nat.le_trans I.sz hb),fun x c e z=>?_,fun p hp z=>?_⟩
 ·obtain⟨v,q⟩:=I.cell x c e
  exact absurd (Nat.lt_of_lt_of_le q.lt (by rw[z];exact hb)) (Nat.lt_irrefl _)
 ·exact absurd (Nat.lt_of_lt_of_le (Heap.lt_size (I.pin p hp).1) (by rw[z];exact hb)) (Nat.lt_irrefl _)
structure Turn (P:Program)(w:World)(K:PySem.W.Frag)(tg:Expr)(J:It)(fp:List Addr)(it:Addr)(tn:Nat→Heap→Prop):Prop where
 mem:it∈fp
 obj:∀ i h,tn i h→∀ b∈fp,∃ o,h.get? b=some o∧∀ v,o.data≠.cell v
 keep:∀ i h h',tn i h→(∀ b∈fp,∀ o,h.get? b=some o→h'.get? b=some o)→tn i h'
 item:∀ (X:Cx),X.prog=P→X.w=w→X.K=K→X.calm=true→∀ (i:Nat) (pins:List (Addr×Obj)) (s:Shared) (σ:St) (H:Hp) (E:Value→Shared→Prop),Inv X pins σ H s→(∀ b∈fp,FpOk X pins H b)→tn i s.heap→J.go i H →
  wpAny (model P w) X.A (pyNext (.ref it)) (fun r s1=>∃ u,r=some u ∧
   wpAny (model P w) X.A (letOwnedTupleGo tg (.ref it) u) (fun _ s2=>∃ x H',Inv X pins σ H' s2∧RelV x u∧J.yld i H x H'∧tn (i+1) s2.heap∧∀ b∈fp,H' b=none) E s1) E s
 done:∀ (X:Cx),X.prog=P→X.w=w→X.K=K→X.calm=true→∀ (i:Nat) (pins:List (Addr×Obj)) (s:Shared) (σ:St) (H:Hp) (E:Value→Shared→Prop),Inv X pins σ H s→(∀ b∈fp,FpOk X pins H b)→tn i s.heap→J.stop i H →
  wpAny (model P w) X.A (pyNext (.ref it)) (fun r s1=>r=none∧Inv X pins σ H s1) E s
 self:∀ (A:Around) (i:Nat) (s:Shared) (Q:Value→Shared→Prop) (E:Value→Shared→Prop),tn i s.heap→Q (.ref it) s→wpAny (model P w) A (pyIter (.ref it)) Q E s
abbrev TI:=St→Hp→(It→Hp→Prop)→Prop
def PIE (X:Cx)(pins:List (Addr×Obj))(σ:St)(tg:Expr)(R:It→Hp→Prop)(itv:Value)(s2:Shared):Prop :=
 ∃ (it:Addr) (fp:List Addr) (tn:Nat→Heap→Prop) (J:It) (H':Hp),itv=.ref it∧Inv X pins σ H' s2∧Turn X.prog X.w X.K tg J fp it tn∧tn 0 s2.heap∧(∀ b∈fp,FpOk X pins H' b)∧R J H'
def PI (X:Cx)(tg iter:Expr)(wi:TI):Prop :=
 ∀ (pins:List (Addr×Obj)) (s:Shared) (σ:St) (H:Hp) (R:It→Hp→Prop),Inv X pins σ H s→wi σ H R →
  wpAny (model X.prog X.w) X.A (eval iter X.env) (fun v s1=>wpAny (model X.prog X.w) X.A (pyIter v) (PIE X pins σ tg R) X.xe s1) X.xe s
theorem oJ {M:Model}{A:Around}{E:Value→Shared→Prop}{s:Shared}{tg:Expr}{it:Addr}{u:Value}{o:Obj}{n:String}{vs:Array Value}{Q:Unit→Shared→Prop}(ho:s.heap.get? it=some o)(hc:o.cls=.type n)(hd:o.data=.fields vs)
  (hn:["enumerate","zip","dict_itemiterator","dict_reverseitemiterator","odict_iterator","itertools.zip_longest","itertools.pairwise"].contains n=false) (hQ:Q () s):wpAny M A (letOwnedTupleGo tg (.ref it) u) Q E s:=by
 unfold letOwnedTupleGo
 cases tg<;>first
  | exact wpAny_pure hQ
  | (cases u<;>first
    | exact wpAny_pure hQ
    | (refine wpAny_bind (wpAny_load ho ?_)
       rw[hc,hd]
       show wpAny M A (if (["enumerate","zip","dict_itemiterator","dict_reverseitemiterator","odict_iterator","itertools.zip_longest","itertools.pairwise"].contains n&&vs[0]?==some (rawInt _))=true then _ else _) Q E s
       rw[if_neg (by intro h;rw[hn,Bool.false_and]at h;cases h)]
       exact wpAny_pure hQ))
def Itl (K:PySem.W.Frag)(a:Addr):It :=
 ⟨fun i H=>∃ xs x,SqL K H a xs∧xs[i]?=some x,fun i H x H'=>H'=H∧∀ xs,SqL K H a xs→xs[i]?=some x,fun i H=>∃ xs,SqL K H a xs∧xs.length≤i⟩
def Itt (K:PySem.W.Frag)(a:Addr):It :=
 ⟨fun i H=>∃ xs x,SqT K H a xs∧xs[i]?=some x,fun i H x H'=>H'=H∧∀ xs,SqT K H a xs→xs[i]?=some x,fun i H=>∃ xs,SqT K H a xs∧xs.length≤i⟩
def Itr (lo:Int)(n:Nat):It:=⟨fun i _=>i < n,fun i H x H'=>H'=H∧x=.int (lo+i),fun i _=>n≤i⟩
theorem mO {P:Program}{w:World}{K:PySem.W.Frag}{tg:Expr}(a it:Addr):Turn P w K tg (Itl K a) [it] it (fun i h=>h.IsListIter it a i) where
 mem:=by simp
 obj:=fun i h st b hb=>by
  have e:b=it:=by simpa using hb
  subst e
  obtain⟨o,e,c,d⟩:=st
  exact⟨o,e,fun v z=>by rw[d]at z;cases z⟩
 keep:=fun i h h' st k=>st.at fun o e=>k it (by simp) o e
 item:=by
  intro X hP hw hK hc i pins s σ H E I hf st hg
  subst hP hw hK
  obtain⟨xs,x,hq,hx⟩:=hg
  obtain⟨its,rv,p,hz⟩:=I.list hq
  obtain⟨u,hu,ru⟩:=rv.get hx
  obtain⟨f0,f1,f2,f3,f4,f5⟩:=hf it (by simp)
  refine wpAny_pyNext_list_item st p.isList (x:=u) (by simpa using hu) fun h' st' sb=>?_
  have I1:Inv X pins σ H { s with heap:=h' }:=I.turned (t':=s.toks) (fun b o hb e=>(sb.2 b hb).trans e) f0 f1 f3 f4 f5
  obtain⟨o,e,c,d⟩:=id st'
  exact⟨u,rfl,oJ (s:={ s with heap:=h' }) e c d (by decide) ⟨x,H,I1,ru,⟨rfl,fun ys hy=>by rw[I.list_inj hy hq];exact hx⟩,st',fun b hb=>(hf b hb).1⟩⟩
 done:=by
  intro X hP hw hK hc i pins s σ H E I hf st hg
  subst hP hw hK
  obtain⟨xs,hq,hx⟩:=hg
  obtain⟨its,rv,p,hz⟩:=I.list hq
  obtain⟨f0,f1,f2,f3,f4,f5⟩:=hf it (by simp)
  have hl:=rv.length
  exact wpAny_pyNext_list_end (I.ok.hd hc) st p.isList (by simp;omega) fun h' eb=>⟨rfl,I.turned (t':=s.toks) (fun b o hb e=>eb b o hb e) f0 f1 f3 f4 f5⟩
 self:=fun _ _ _ _ _ st h=>wpAny_pyIter_listiter st h
theorem kH {P:Program}{w:World}{K:PySem.W.Frag}{tg:Expr}(a it:Addr):Turn P w K tg (Itt K a) [it] it (fun i h=>h.IsTupleIter it a i) where
 mem:=by simp
 obj:=fun i h st b hb=>by
  have e:b=it:=by simpa using hb
  subst e
  obtain⟨o,e,c,d⟩:=st
  exact⟨o,e,fun v z=>by rw[d]at z;cases z⟩
 keep:=fun i h h' st k=>st.at fun o e=>k it (by simp) o e
 item:=by
  intro X hP hw hK hc i pins s σ H E I hf st hg
  subst hP hw hK
  obtain⟨xs,x,hq,hx⟩:=hg
  obtain⟨its,rv,p,hz⟩:=I.tuple hq
  obtain⟨u,hu,ru⟩:=rv.get hx
  obtain⟨f0,f1,f2,f3,f4,f5⟩:=hf it (by simp)
  refine wpAny_pyNext_tuple_item st (show s.heap.IsTuple a its.toArray from p) (x:=u) (by simpa using hu) fun h' st' sb=>?_
  have I1:Inv X pins σ H { s with heap:=h' }:=I.turned (t':=s.toks) (fun b o hb e=>(sb.2 b hb).trans e) f0 f1 f3 f4 f5
  obtain⟨o,e,c,d⟩:=id st'
  exact⟨u,rfl,oJ (s:={ s with heap:=h' }) e c d (by decide) ⟨x,H,I1,ru,⟨rfl,fun ys hy=>by rw[I.tuple_inj hy hq];exact hx⟩,st',fun b hb=>(hf b hb).1⟩⟩
 done:=by
  intro X hP hw hK hc i pins s σ H E I hf st hg
  subst hP hw hK
  obtain⟨xs,hq,hx⟩:=hg
  obtain⟨its,rv,p,hz⟩:=I.tuple hq
  obtain⟨f0,f1,f2,f3,f4,f5⟩:=hf it (by simp)
  have hl:=rv.length
  exact wpAny_pyNext_tuple_end (I.ok.hd hc) st (show s.heap.IsTuple a its.toArray from p) (by simp;omega) fun h' eb=>⟨rfl,I.turned (t':=s.toks) (fun b o hb e=>eb b o hb e) f0 f1 f3 f4 f5⟩
 self:=fun _ _ _ _ _ st h=>wpAny_pyIter_tupleiter st h
theorem kI {P:Program}{w:World}{K:PySem.W.Frag}{tg:Expr}(it:Addr)(lo:Int)(n:Nat):Turn P w K tg (Itr lo n) [it] it (fun i h=>IsRangeIter h it (lo+(i:Nat)*1) ((n:Int) - (i:Nat)) 1) where
 mem:=by simp
 obj:=fun i h st b hb=>by
  have e:b=it:=by simpa using hb
  subst e
  exact⟨_,st,fun v z=>by
   have z':Data.fields _=Data.cell v:=z
   cases z'⟩
 keep:=fun i h h' st k=>k it (by simp) _ st
 item:=by
  intro X hP hw hK hc i pins s σ H E I hf st hg
  subst hP hw hK
  obtain⟨f0,f1,f2,f3,f4,f5⟩:=hf it (by simp)
  have W:=Walks.range (prog:=X.prog) (w:=X.w) (I.ok.hd hc) it lo 1 n
  refine W.item i s _ _ hg st fun v h' tk hv st' kk=>?_
  obtain⟨t,rfl⟩:=hv
  have I1:Inv X pins σ H { s with heap:=h',toks:=tk }:=I.turned (fun b o hb e=>kk b o (by simpa using hb) e) f0 f1 f3 f4 f5
  refine⟨_,rfl,oJ (s:={ s with heap:=h',toks:=tk }) (n := "range_iterator") st' rfl rfl (by decide) ⟨.int (lo+i),H,I1,⟨t,?_⟩,⟨rfl,rfl⟩,st',fun b hb=>(hf b hb).1⟩⟩
  rw[Int.mul_one]
 done:=by
  intro X hP hw hK hc i pins s σ H E I hf st hg
  subst hP hw hK
  obtain⟨f0,f1,f2,f3,f4,f5⟩:=hf it (by simp)
  exact wpAny_pyNext_range_end (I.ok.hd hc) st (by have:n≤i:=hg;omega) fun h' eb=>⟨rfl,I.turned (t':=s.toks) (fun b o hb e=>eb b o hb e) f0 f1 f3 f4 f5⟩
 self:=fun _ _ _ _ _ st h=>wpAny_pyIter_rangeiter st h
end L2
namespace L2
open PySem PySem.Spec PyProof.Rows
section
variable {X:Cx}{tg:Expr}
theorem jR {pins:List (Addr×Obj)}{σ:St}{H:Hp}{s:Shared}{R:It→Hp→Prop}{E:Value→Shared→Prop}{lo hi:Int}{t u v:Tok}{tk:Nat}(I:Inv X pins σ H s)(h1 : -(2^62)≤lo)(h2:lo < 2^62)(h3 : -(2^62)≤hi)(h4:hi < 2^62)
  (q:R (Itr lo (hi - lo).toNat) H):wpAny (model X.prog X.w) X.A (pyIter (.ref s.heap.objs.size)) (PIE X pins σ tg R) E { s with heap:=s.heap.push { cls:=.type "range",data:=.fields #[.int lo t,.int hi u,.int 1 v] },toks:=tk }:=by
 refine wpAny_pyIter_range (IsRange.new ..) (small_one h1 h2 h3 h4) ?_
 have I1:Inv X pins σ H { s with heap:=s.heap.push { cls:=.type "range",data:=.fields #[.int lo t,.int hi u,.int 1 v] },toks:=tk }:=I.kept fun b o e=>Heap.get?_push_of_some _ e
 refine⟨(s.heap.push { cls:=.type "range",data:=.fields #[.int lo t,.int hi u,.int 1 v] }).objs.size,[(s.heap.push { cls:=.type "range",data:=.fields #[.int lo t,.int hi u,.int 1 v] }).objs.size],_,_,H,rfl,
  I1.kept (t':=tk) fun b o e=>Heap.get?_push_of_some _ e,kI _ lo (hi - lo).toNat,?_,fun b hb=>?_,q⟩
 ·have e1:lo+((0:Nat):Int)*1=lo:=by simp
  have e2:(((hi - lo).toNat:Nat):Int) - ((0:Nat):Int)=Builtin.Range.rangeSize lo hi 1:=by rw[rangeSize_one];split<;>omega
  show IsRangeIter _ _ (lo+((0:Nat):Int)*1) ((((hi - lo).toNat:Nat):Int) - ((0:Nat):Int)) 1
  rw[e1,e2]
  exact Heap.get?_push_size _ rfl
 ·have e:b=(s.heap.push { cls:=.type "range",data:=.fields #[.int lo t,.int hi u,.int 1 v] }).objs.size:=by simpa using hb
  subst e
  exact I1.fpOk (Nat.le_refl _) (I1.hok.fresh (Nat.le_refl _))
def iRng1 (ta:TA):TI:=fun σ H R=>ta σ H fun vs H1=>∃ j:Int,vs=[.int j]∧-(2^62)≤j∧j < 2^62∧R (Itr 0 j.toNat) H1
def iRng2 (ta:TA):TI:=fun σ H R=>ta σ H fun vs H1=>∃ i j:Int,vs=[.int i,.int j]∧(-(2^62)≤i∧i < 2^62∧-(2^62)≤j∧j < 2^62)∧R (Itr i (j - i).toNat) H1
theorem mP {a:Expr}{ta:TA}{p pos:Pos}(hg:Gl X "range")(hm:X.mg "range"=none)(ha:PA X [a] ta)(hs:starEach [a] X.env=[(false,eval a X.env)]:=by rfl):PI X tg (.Call (.Name "range" p) [a] [] pos) (iRng1 ta):=by
 intro pins s σ H R I h
 refine Call_ (eG I hg hm boot_range (PyProof.Rows.callWith_type1 (thn (ha pos pins s σ H _ I h) fun us s1 ⟨vs,H1,I1,r1,q1⟩=>?_) hs rfl))
 obtain⟨j,e,q1,q2,q⟩:=q1
 subst e
 cases r1 with
 | cons r rr =>
  cases rr
  obtain⟨t,rfl⟩:=r
  exact call_range_1 (jR I1 (by omega) (by omega) q1 q2 (by simpa using q))
theorem mQ {a b:Expr}{ta:TA}{p pos:Pos}(hg:Gl X "range")(hm:X.mg "range"=none)(ha:PA X [a,b] ta)(hs:starEach [a,b] X.env=[(false,eval a X.env),(false,eval b X.env)]:=by rfl)(hs2:starEach [b] X.env=[(false,eval b X.env)]:=by rfl) :
  PI X tg (.Call (.Name "range" p) [a,b] [] pos) (iRng2 ta):=by
 intro pins s σ H R I h
 refine Call_ (eG I hg hm boot_range (PyProof.Rows.callWith_type1 (thn (ha pos pins s σ H _ I h) fun us s1 ⟨vs,H1,I1,r1,q1⟩=>?_) (by rw[hs,hs2]) (by rw[hs2];rfl)))
 obtain⟨i,j,e,⟨q1,q2,q3,q4⟩,q⟩:=q1
 subst e
 cases r1 with
 | cons r rr =>
  cases rr with
  | cons r' rr =>
   cases rr
   obtain⟨t,rfl⟩:=r
   obtain⟨t',rfl⟩:=r'
   exact call_range_2 (jR I1 q1 q2 q3 q4 q)
def tFor (wi:TI)(g:TG)(tb:TS):TS:=fun D σ H=>wi σ H fun J H1=>∃ W:Nat→Nat→St→Hp→Prop,(∃ m,W 0 m σ H1)∧∀ i m σ H,W i m σ H →
 (J.stop i H∧D.nx σ H)∨(J.go i H∧∃ N:St→Hp→Prop,(∀ σ' H',N σ' H'→∃ m',m' < m∧W (i+1) m' σ' H')∧∀ x H',J.yld i H x H'→g x σ H' fun σ2 H2=>tb { D with nx:=N,ct:=N,bk:=D.nx } σ2 H2)
def pinsAt (fp:List Addr)(h:Heap):List (Addr×Obj):=fp.filterMap fun b=>(h.get? b).map fun o=>(b,o)
theorem b0 {fp:List Addr}{h:Heap}{b:Addr}{o:Obj}(hb:b∈fp)(e:h.get? b=some o):(b,o)∈pinsAt fp h:=List.mem_filterMap.mpr ⟨b,hb,by rw[e];rfl⟩
theorem mR {fp:List Addr}{h:Heap}{p:Addr×Obj}(hp:p∈pinsAt fp h):p.1∈fp∧h.get? p.1=some p.2:=by
 obtain⟨b,hb,e⟩:=List.mem_filterMap.mp hp
 cases q:h.get? b with
 | none=>rw[q]at e;cases e
 | some o =>
  rw[q]at e
  have e':(b,o)=p:=Option.some.inj e
  subst e'
  exact⟨hb,q⟩
theorem Inv.pinned {pins:List (Addr×Obj)}{σ:St}{H:Hp}{s:Shared}{fp:List Addr}(I:Inv X pins σ H s)(hf:∀ b∈fp,FpOk X pins H b)(ho:∀ b∈fp,∃ o,s.heap.get? b=some o∧∀ v,o.data≠.cell v):Inv X (pins++pinsAt fp s.heap) σ H s :=
 I.pins_of fun p hp=>(List.mem_append.mp hp).elim (fun z=>I.pin p (List.mem_append_right _ z)) fun z=>by
  obtain⟨hb,e⟩:=mR z
  obtain⟨f0,f1,f2,_⟩:=hf p.1 hb
  obtain⟨o,e',d⟩:=ho p.1 hb
  rw[e]at e';cases e'
  exact⟨e,f0,f1,f2,d⟩
theorem Inv.unpinned {pins pl:List (Addr×Obj)}{σ:St}{H:Hp}{s:Shared}(I:Inv X (pins++pl) σ H s):Inv X pins σ H s:=I.pins_of fun p hp=>I.pin p (List.mem_append_right _ (List.mem_append_left _ hp))
theorem oK {iter:Expr}{body:List Stmt}{wi:TI}{g:TG}{tb:TS}{pos:Pos}(hp:PassesOwn (model X.prog X.w) X.A X.env X.xe)(hc:X.calm=true)(hi:PI X tg iter wi)(hg:PG X tg g)(hb:PSs X body tb)
  (hs:∀ x,foldedSetIterable iter X.env x=pure x:=by intro _;rfl):PS X (.For tg iter body [] pos) (tFor wi g tb):=by
 intro pins s σ H D I h
 refine wpAny_For (thn (hi pins s σ H _ I h) fun v s1 h1=>thn h1 fun itv s2 h2=>?_) hs
 obtain⟨it,fp,tn,J,H2,e,I2,T,st2,f2,W,⟨m0,w0⟩,turn⟩:=h2
 subst e
 have stat:∀ {H':Hp},(∀ b∈fp,H' b=none)→∀ b∈fp,FpOk X pins H' b:=fun hn b hb=>⟨hn b hb,(f2 b hb).2⟩
 refine codeAny_forLoop_any (fun n s'=>∃ i σ' H',Inv X pins σ' H' s'∧tn i s'.heap∧(∀ b∈fp,H' b=none)∧W i n σ' H') ?_ m0 ⟨0,σ,H2,I2,st2,fun b hb=>(f2 b hb).1,w0⟩
 rintro n s3 ⟨i,σ3,H3,I3,st3,fr3,w3⟩
 rcases turn i n σ3 H3 w3 with ⟨stop,qn⟩ | ⟨go,N,hN,step⟩
 ·refine wpAny_passesOwn hp (thn (T.done X rfl rfl rfl hc i pins s3 σ3 H3 X.xe I3 (stat fr3) st3 stop) fun r s4 ⟨hr,I4⟩=>?_)
  subst hr
  exact wpAny_execs_nil ⟨σ3,H3,I4,qn⟩
 ·refine wpAny_passesOwn hp (thn (T.item X rfl rfl rfl hc i pins s3 σ3 H3 X.xe I3 (stat fr3) st3 go) fun r s4 ⟨u,hr,h4⟩=>?_)
  subst hr
  refine wpAny_passesOwn hp (thn h4 fun _ s5 ⟨x,H5,I5,r5,y5,st5,fr5⟩=>?_)
  have I5':=I5.pinned (stat fr5) (T.obj _ _ st5)
  refine wpAny_passesOwn hp (thn (hg _ s5 σ3 H5 x u _ I5' r5 (step x H5 y5)) fun _ s6 ⟨σ6,H6,I6,q6⟩=>?_)
  refine wpAny_passesOwn hp (thn (hb _ s6 σ6 H6 _ I6 q6) fun f s7 q7=>?_)
  have again:∀ {σ7:St} {H7:Hp},Inv X (pins++pinsAt fp s5.heap) σ7 H7 s7→N σ7 H7→∃ m,m < n∧∃ i σ' H',Inv X pins σ' H' s7∧tn i s7.heap∧(∀ b∈fp,H' b=none)∧W i m σ' H':=fun {σ7 H7} I7 n7=>by
   obtain⟨m',hm,w7⟩:=hN σ7 H7 n7
   refine⟨m',hm,i+1,σ7,H7,I7.unpinned,T.keep _ _ _ st5 fun b hb o e=>(I7.pin (b,o) (List.mem_append_right _ (List.mem_append_right _ (b0 hb e)))).1,fun b hb=>?_,w7⟩
   obtain⟨o,e,d⟩:=T.obj _ _ st5 b hb
   exact(I7.pin (b,o) (List.mem_append_right _ (List.mem_append_right _ (b0 hb e)))).2.1
  cases f with
  | next=>obtain⟨σ7,H7,I7,n7⟩:=q7;exact again I7 n7
  | cont=>obtain⟨σ7,H7,I7,n7⟩:=q7;exact again I7 n7
  | brk=>obtain⟨σ7,H7,I7,q7⟩:=q7;exact⟨σ7,H7,I7.unpinned,q7⟩
  | ret v=>obtain⟨x7,σ7,H7,I7,r7,q7⟩:=q7;exact⟨x7,σ7,H7,I7.unpinned,r7,q7⟩
end
end L2
namespace L2
open PySem PySem.Spec PyProof.Rows
abbrev R2:=V→V→Hp→VK→Prop
def OpR (X:Cx)(f:Value→Value→Sem Value)(r:R2):Prop :=
 ∀ (pins:List (Addr×Obj)) (s:Shared) (σ:St) (H:Hp) (x y:V) (v u:Value) (Q:VK),Inv X pins σ H s→RelV x v→RelV y u→r x y H Q →
  wpAny (model X.prog X.w) X.A (f v u) (EP X pins σ Q) X.xe s
def UnR (X:Cx)(f:Value→Sem Value)(r:V→Hp→VK→Prop):Prop :=
 ∀ (pins:List (Addr×Obj)) (s:Shared) (σ:St) (H:Hp) (x:V) (v:Value) (Q:VK),Inv X pins σ H s→RelV x v→r x H Q →
  wpAny (model X.prog X.w) X.A (f v) (EP X pins σ Q) X.xe s
def CallR (X:Cx)(f:Value)(r:List V→Hp→VK→Prop):Prop :=
 ∀ (pins:List (Addr×Obj)) (s:Shared) (σ:St) (H:Hp) (xs:List V) (us:List Value) (Q:VK),Inv X pins σ H s→Vals xs us→r xs H Q →
  wpAny (model X.prog X.w) X.A (call f us) (EP X pins σ Q) X.xe s
def tOp (r:R2)(ta tb:TE):TE:=fun σ H Q=>ta σ H fun x H1=>tb σ H1 fun y H2=>r x y H2 Q
def tUn (r:V→Hp→VK→Prop)(ta:TE):TE:=fun σ H Q=>ta σ H fun x H1=>r x H1 Q
def rI (C:Int→Int→Prop)(g:Int→Int→V):R2:=fun x y H Q=>∃ i j,x=.int i∧y=.int j∧C i j∧Q (g i j) H
def rI0 (g:Int→Int→V):R2:=fun x y H Q=>∃ i j,x=.int i∧y=.int j∧Q (g i j) H
def rU (g:Int→V):V→Hp→VK→Prop:=fun x H Q=>∃ i,x=.int i∧Q (g i) H
section
variable {X:Cx}{a b c:Expr}{ta tb tc:TE}{pos:Pos}
theorem binT (ha:PE X a ta)(hb:PE X b tb){pins:List (Addr×Obj)}{s:Shared}{σ:St}{H:Hp}{R:V→V→Hp→Prop}(I:Inv X pins σ H s)
  (h:ta σ H fun x H1=>tb σ H1 fun y H2=>R x y H2) {Q:Value→Shared→Prop} {f:Value→Value→Sem Value}
  (hf:∀ v u s2 x y H2,Inv X pins σ H2 s2→RelV x v→RelV y u→R x y H2→wpAny (model X.prog X.w) X.A (f v u) Q X.xe s2) :
  wpAny (model X.prog X.w) X.A (eval a X.env) (fun v s₁=>wpAny (model X.prog X.w) X.A (eval b X.env) (fun u s₂=>wpAny (model X.prog X.w) X.A (f v u) Q X.xe s₂) X.xe s₁) X.xe s:=by
 refine thn (ha pins s σ H _ I h) fun v s1 ⟨x,H1,I1,r1,q1⟩=>?_
 refine thn (hb pins s1 σ H1 _ I1 q1) fun u s2 ⟨y,H2,I2,r2,q2⟩=>?_
 exact hf v u s2 x y H2 I2 r1 r2 q2
theorem uC {op:Operator}{r:R2}(ho:OpR X (binaryOp op) r)(ha:PE X a ta)(hb:PE X b tb):PE X (.BinOp a op b pos) (tOp r ta tb):=by
 intro pins s σ H Q I h
 exact wpAny_BinOp (binT ha hb I h fun v u s2 x y H2 I2 rx ry q=>ho pins s2 σ H2 x y v u Q I2 rx ry q)
theorem uD {op:UnaryOp}{r:V→Hp→VK→Prop}(ho:UnR X (unaryOp op) r)(ha:PE X a ta):PE X (.UnaryOp op a pos) (tUn r ta):=by
 intro pins s σ H Q I h
 exact UnaryOp_ (thn (ha pins s σ H _ I h) fun v s1 ⟨x,H1,I1,r1,q1⟩=>ho pins s1 σ H1 x v Q I1 r1 q1)
theorem opI {f:Value→Value→Sem Value}{C:Int→Int→Prop}{g:Int→Int→Int}
  (rule:∀ (i j:Int) (t u:Tok) (s:Shared) (Q:Value→Shared→Prop) (E:Value→Shared→Prop),C i j→Q (.int (g i j) s.toks) { s with toks:=s.toks+1 }→wpAny (model X.prog X.w) X.A (f (.int i t) (.int j u)) Q E s) :
  OpR X f (rI C fun i j=>.int (g i j)):=by
 intro pins s σ H x y v u Q I rx ry h
 obtain⟨i,j,rfl,rfl,hc,q⟩:=h
 obtain⟨t,rfl⟩:=rx
 obtain⟨t',rfl⟩:=ry
 exact rule i j t t' s _ _ hc ⟨.int (g i j),H,I.tok _,⟨_,rfl⟩,q⟩
theorem opI0 {f:Value→Value→Sem Value}{g:Int→Int→Int}
  (rule:∀ (i j:Int) (t u:Tok) (s:Shared) (Q:Value→Shared→Prop) (E:Value→Shared→Prop),Q (.int (g i j) s.toks) { s with toks:=s.toks+1 }→wpAny (model X.prog X.w) X.A (f (.int i t) (.int j u)) Q E s) :
  OpR X f (rI0 fun i j=>.int (g i j)):=by
 intro pins s σ H x y v u Q I rx ry h
 obtain⟨i,j,rfl,rfl,q⟩:=h
 obtain⟨t,rfl⟩:=rx
 obtain⟨t',rfl⟩:=ry
 exact rule i j t t' s _ _ ⟨.int (g i j),H,I.tok _,⟨_,rfl⟩,q⟩
theorem opB0 {f:Value→Value→Sem Value}{g:Int→Int→Bool}
  (rule:∀ (i j:Int) (t u:Tok) (s:Shared) (Q:Value→Shared→Prop) (E:Value→Shared→Prop),Q (.bool (g i j)) s→wpAny (model X.prog X.w) X.A (f (.int i t) (.int j u)) Q E s) :
  OpR X f (rI0 fun i j=>.bl (g i j)):=by
 intro pins s σ H x y v u Q I rx ry h
 obtain⟨i,j,rfl,rfl,q⟩:=h
 obtain⟨t,rfl⟩:=rx
 obtain⟨t',rfl⟩:=ry
 exact rule i j t t' s _ _ ⟨.bl (g i j),H,I,rfl,q⟩
def CDiv (i j:Int):Prop:=0 < j∧j < 1073741824
def CMul (i j:Int):Prop:=(-(2^64) < i∧i < 2^64)∨(-(2^64) < j∧j < 2^64)
theorem CMul.ok {i j:Int}(h:CMul i j):IntMulOk i j:=by
 rcases h with ⟨h1,h2⟩ | ⟨h1,h2⟩
 ·exact .of_left (intBits_le_64 h1 h2)
 ·exact .of_right (intBits_le_64 h1 h2)
theorem sZ:OpR X (binaryOp .Add) (rI0 fun i j=>.int (i+j)):=opI0 fun _ _ _ _ _ _ _ q=>add_int q
theorem tj:OpR X (binaryOp .Sub) (rI0 fun i j=>.int (i - j)):=opI0 fun _ _ _ _ _ _ _ q=>sub_int q
theorem tm:OpR X (binaryOp .Mult) (rI CMul fun i j=>.int (i*j)):=opI fun _ _ _ _ _ _ _ hc q=>mul_int q hc.ok
theorem qJ:OpR X (binaryOp .FloorDiv) (rI CDiv fun i j=>.int (i/j)):=opI fun i j _ _ _ _ _ hc q=>by
 have h1:(0:Int) < j:=hc.1
 have h2:j < 1073741824:=hc.2
 exact floordiv_int (by omega) (by rw[Int.fdiv_eq_ediv_of_nonneg i (by omega)];exact q) (.inl (PyProof.noPylong_small (by omega)))
theorem tu:OpR X (binaryOp .Mod) (rI (fun _ j=>0 < j) fun i j=>.int (i%j)):=opI fun i j _ _ _ _ _ hc q=>by
 have h1:(0:Int) < j:=hc
 exact mod_int' (by omega) (by rw[Int.fmod_eq_emod_of_nonneg i (by omega)];exact q)
theorem unI {f:Value→Sem Value}{g:Int→Int}
  (rule:∀ (i:Int) (t:Tok) (s:Shared) (Q:Value→Shared→Prop) (E:Value→Shared→Prop),Q (.int (g i) s.toks) { s with toks:=s.toks+1 }→wpAny (model X.prog X.w) X.A (f (.int i t)) Q E s) :
  UnR X f (rU fun i=>.int (g i)):=by
 intro pins s σ H x v Q I rx h
 obtain⟨i,rfl,q⟩:=h
 obtain⟨t,rfl⟩:=rx
 exact rule i t s _ _ ⟨.int (g i),H,I.tok _,⟨_,rfl⟩,q⟩
theorem tz:UnR X (unaryOp .USub) (rU fun i=>.int (-i)):=unI fun _ _ _ _ _ q=>neg_int q
end
section
variable {X:Cx}{a b c:Expr}{ta tb tc:TE}{pos:Pos}
theorem jj {pins:List (Addr×Obj)}{σ:St}{H:Hp}{s:Shared}{Q:VK}{k k':Bool}(I:Inv X pins σ H s)(q:Q (.bl k) H)(e:k=k'):EP X pins σ Q (.bool k') s:=by
 subst e
 exact⟨.bl k,H,I,rfl,q⟩
theorem sy:OpR X (compareOp .Lt) (rI0 fun i j=>.bl (decide (i < j))):=opB0 fun _ _ _ _ _ _ _ q=>lt_int q
theorem lV:OpR X (compareOp .LtE) (rI0 fun i j=>.bl (decide (i≤j))):=opB0 fun _ _ _ _ _ _ _ q=>le_int q
theorem uE:OpR X (compareOp .Gt) (rI0 fun i j=>.bl (decide (j < i))):=opB0 fun _ _ _ _ _ _ _ q=>gt_int q
theorem OpR.or {f:Value→Value→Sem Value}{r r':R2}(h:OpR X f r)(h':OpR X f r'):OpR X f (fun x y H Q=>r x y H Q∨r' x y H Q):=by
 intro pins s σ H x y v u Q I rx ry q
 rcases q with q | q
 ·exact h pins s σ H x y v u Q I rx ry q
 ·exact h' pins s σ H x y v u Q I rx ry q
theorem nomark (b:Expr){op:CmpOp}(h:op≠.In:=by decide)(h2:op≠.NotIn:=by decide):behindInMarks op b=false:=by
 have e1:(op==CmpOp.In)=false:=by cases op<;>first | rfl | exact absurd rfl h
 have e2:(op==CmpOp.NotIn)=false:=by cases op<;>first | rfl | exact absurd rfl h2
 cases b<;>simp[behindInMarks,e1,e2]
theorem qK {op:CmpOp}{r:R2}(ho:OpR X (compareOp op) r)(ha:PE X a ta)(hb:PE X b tb)(hm:behindInMarks op b=false):PE X (.Compare a [op] [b] pos) (tOp r ta tb):=by
 intro pins s σ H Q I h
 exact wpAny_Compare1 (binT ha hb I h fun v u s2 x y H2 I2 rx ry q=>ho pins s2 σ H2 x y v u Q I2 rx ry q) hm
def tTest (t:TE):TT:=fun σ H Q=>t σ H fun x H'=>∃ k,x=.bl k∧Q k H'
theorem lW {op:CmpOp}{r:R2}(ho:OpR X (compareOp op) r)(ha:PE X a ta)(hb:PE X b tb)(hm:behindInMarks op b=false):PT X (.Compare a [op] [b] pos) (tTest (tOp r ta tb)):=by
 intro pins s σ H Q I h
 refine wpAny_isTrue_Compare1 (thn (ha pins s σ H _ I h) fun v s1 ⟨x,H1,I1,r1,q1⟩=>thn (hb pins s1 σ H1 _ I1 q1) fun u s2 ⟨y,H2,I2,r2,q2⟩ =>
  thn (ho pins s2 σ H2 x y v u _ I2 r1 r2 q2) fun c s3 ⟨z,H3,I3,r3,k,e,q3⟩=>?_) hm
 subst e
 cases r3
 exact wpAny_truthy_bool ⟨H3,I3,q3⟩
def tChain (r r':R2)(ta tb tc:TE):TE:=fun σ H Q=>ta σ H fun x H1=>tb σ H1 fun y H2=>r x y H2 fun z H3=>∃ k,z=.bl k ∧
 (if k=true then tc σ H3 fun w' H4=>r' y w' H4 Q else Q (.bl false) H3)
theorem oM {op op':CmpOp}{r r':R2}(ho:OpR X (compareOp op) r)(ho':OpR X (compareOp op') r')(ha:PE X a ta)(hb:PE X b tb)(hc:PE X c tc)
  (hm:lastMarks [op,op'] [b,c]=false:=by with_unfolding_all rfl):PE X (.Compare a [op,op'] [b,c] pos) (tChain r r' ta tb tc):=by
 intro pins s σ H Q I h
 refine Compare_chain (thn (ha pins s σ H _ I h) fun v s1 ⟨x,H1,I1,r1,q1⟩=>chain_link (thn (hb pins s1 σ H1 _ I1 q1) fun u s2 ⟨y,H2,I2,r2,q2⟩ =>
  thn (ho pins s2 σ H2 x y v u _ I2 r1 r2 q2) fun d s3 ⟨z,H3,I3,r3,k,e,q3⟩=>?_)) hm
 subst e
 cases r3
 refine wpAny_truthy_bool ?_
 cases k with
 | false=>exact ite_ff ⟨.bl false,H3,I3,rfl,q3⟩
 | true=>exact ite_tt (chain_last (thn (hc pins s3 σ H3 _ I3 q3) fun w' s4 ⟨z',H4,I4,r4,q4⟩=>ho' pins s4 σ H4 y z' u w' Q I4 r2 r4 q4))
theorem line63:(sizeLine:Nat) < 2^63:=by rw[sizeLine_eq];decide
theorem vals1 {x:V}{us:List Value}(r:Vals [x] us):∃ u,us=[u]∧RelV x u:=by
 cases r with
 | cons r1 r2=>cases r2;exact⟨_,rfl,r1⟩
theorem vals2 {x y:V}{us:List Value}(r:Vals [x,y] us):∃ u w',us=[u,w']∧RelV x u∧RelV y w':=by
 cases r with
 | cons r1 r2 =>
  cases r2 with
  | cons r3 r4=>cases r4;exact⟨_,_,rfl,r1,r3⟩
end
end L2
namespace L2
open PySem PySem.Spec PyProof.Rows
structure ObjM (h:Heap)(x dx C:Addr)(mA:Str→Option Value):Prop where
 obj:h.get? x=some (PySem.W.instObj C dx)
 ns:h.Ns1 dx mA
 ne:dx≠x
theorem mS {h:Heap}{dx:Addr}{mA:Str→Option Value}(n:h.Ns1 dx mA):∃ od,h.get? dx=some od∧∀ name,PySem.W.lookIn name od=some (mA name):=by
 obtain⟨o,es,ep,ho,hd,hk,_,hm⟩:=n
 refine⟨o,ho,fun name=>?_⟩
 have e:=hm name
 unfold nsFind findBy at e
 rw[← Array.find?_toList]at e
 unfold PySem.W.lookIn
 rw[hd]
 dsimp only
 split
 ·rename_i y q
  rw[q]at e
  exact congrArg some e
 ·rename_i q
  rw[q]at e
  have a:es.toList.any (·.refKey)=false:=by
   rw[List.any_eq_false]
   intro y hy
   obtain⟨z,t,hkey⟩:=hk y (Array.mem_toList_iff.mp hy)
   simp[DictEntry.refKey,hkey]
  have a':¬ es.toList.any (·.refKey)=true:=by rw[a];exact Bool.false_ne_true
  rw[if_neg a']
  exact congrArg some e
theorem ObjM.look {h:Heap}{x dx C:Addr}{mA:Str→Option Value}(I:ObjM h x dx C mA):∃ od,PySem.W.InstAt h x (PySem.W.instObj C dx) C (some od)∧∀ name,PySem.W.lookIn name od=some (mA name) :=
 let ⟨od,ho,hl⟩:=mS I.ns
 ⟨od,⟨I.obj,rfl,rfl,ho⟩,hl⟩
section
variable {prog:Program}{w:World}{A:Around}{E:Value→Shared→Prop}{s:Shared}{K:PySem.W.Frag}{x dx C f:Addr}{mA:Str→Option Value}{name:Str}{v:Value}
theorem oN {pl:Sem Bool}{Q:Value×List Value→Shared→Prop}(X:K.In s.heap)(I:ObjM s.heap x dx C mA)(hg:PySem.W.plainGet K C name=true)
  (hf:PySem.W.findIn K (.ref C) name=some (some (.ref f))) (ht:PySem.W.isFn K (.ref f)=true) (hv:mA name=none) (h:Q (.ref f,[.ref x]) s) :
  wpAny (model prog w) A (getMethod (.ref x) name pl) Q E s:=by
 obtain⟨od,J,hl⟩:=I.look
 exact PySem.W.method_fn X J (PySem.W.plainGet_of hg).1 (PySem.W.plainGet_of hg).2 hf (beq_iff_eq.mp ht) (by show (PySem.W.lookIn name od).map (·.isSome)=some false;rw[hl,hv];rfl) h
theorem uF {R:Result→Shared→Prop}{vs:List Value}{kw:List (Str×Value)}(X:K.In s.heap)(hm:PySem.W.makesIn K C=true)
  (hi:PySem.W.findIn K (.ref C) "__init__"=some (some (.ref f))) (hf:PySem.W.typeIn K (.ref f)=some (.type "function"))
  (h:codeAny (model prog w) (A.under (.builtin "type.__call__" ⟨.ref C::vs,kw⟩)) (.call (.ref f) ⟨.ref (s.heap.objs.size+1)::vs,kw⟩) (PySem.W.InitBack (s.heap.objs.size+1) R)
   { s with heap:=(s.heap.push PySem.W.emptyDict).push (PySem.W.instObj C s.heap.objs.size) }) :
  codeAny (model prog w) A (.call (.ref C) ⟨vs,kw⟩) R s:=by
 obtain⟨hh,g,d,t,os⟩:=s
 exact PySem.W.make_core (PySem.W.makes_of X hm) (PySem.W.looks_findIn X hi) (fun self=>PySem.W.bind_fn X self hf) (.inl rfl) h
end
theorem RelO.none_of {o:Option Value}(r:RelO none o):o=none:=by
 cases o with
 | none=>rfl
 | some u=>exact(show False from r).elim
section
variable {P:Program}{w:World}{H H':Hp}{h h':Heap}{a C dx:Addr}{fs fs':List (Str×V)}
theorem qL (hok:HOk P w H h)(e:H a=some (.ins C dx fs)):∃ mA,ObjM h a dx C mA∧(∀ f,RelO (fs.lookup f) (mA f))∧PySem.Within mA (fs.map (·.1))∧fs.length≤1000∧H dx=some (.own a):=by
 obtain⟨d,z,ne,ob,mA,n,r,q⟩:=(show ObjOk P w H h a (.ins C dx fs) from hok a _ e)
 exact⟨mA,⟨ob,n,ne⟩,r,q,z,d⟩
end
structure Cls (K:PySem.W.Frag)(C:Addr):Prop where
 pg:PySem.W.plainGet K C Str.empty=true
 hd:PySem.W.hasDictIn K C=true
 po:PySem.W.plainOver K C=true
 sa:PySem.W.findIn K (.ref C) "__setattr__"=some (some (.builtin "object.__setattr__"))
theorem Cls.get {K:PySem.W.Frag}{C:Addr}(c:Cls K C)(f:Str):PySem.W.plainGet K C f=true:=c.pg
structure Meth (K:PySem.W.Frag)(C:Addr)(m:Str)(f:Addr):Prop where
 at_:PySem.W.findIn K (.ref C) m=some (some (.ref f))
 fn:PySem.W.isFn K (.ref f)=true
 kp:PySem.W.keepIn K (.ref f)=true
section
variable {X:Cx}{pins:List (Addr×Obj)}{σ:St}{H:Hp}{s:Shared}{a C dx:Addr}{fs:List (Str×V)}{f:Str}{v:V}{A:Around}{E:Value→Shared→Prop}
theorem kJ {m:Str}{g:Addr}{pl:Sem Bool}{Q:Value×List Value→Shared→Prop}(I:Inv X pins σ H s)(e:H a=some (.ins C dx fs))(c:Cls X.K C)(k:Meth X.K C m g)(l:fs.lookup m=none)
  (h:Q (.ref g,[.ref a]) s):wpAny (model X.prog X.w) A (getMethod (.ref a) m pl) Q E s:=by
 obtain⟨mA,O,r,_,_,_⟩:=qL I.hok e
 have hn:mA m=none:=RelO.none_of (by rw[← l];exact r m)
 exact oN I.kIn O (c.get m) k.at_ k.fn hn h
end
section
variable {X:Cx}{o e value:Expr}{f:Str}{pos pos' tpos:Pos}{ta tv:TE}
theorem sA {pl:Sem Bool}{m:Str}{apos:Pos}{args:List Expr}{pins:List (Addr×Obj)}{s:Shared}{σ:St}{H:Hp}{Q:Value→Shared→Prop}{te:TE}(he:PE X e te)(I:Inv X pins σ H s)
  (h:te σ H fun x H1=>∃ a C dx fs g,x=.ref a∧H1 a=some (.ins C dx fs)∧Cls X.K C∧Meth X.K C m g∧fs.lookup m=none ∧
   ∀ s1,Inv X pins σ H1 s1→wpAny (model X.prog X.w) X.A (callWith pos (.ref g) [.ref a] (backTo pos (starEach args X.env)) (backToKw pos (keywordEach [] X.env))) Q X.xe s1)
  (ht:eval (.Call (.Attribute e m apos) args [] pos) X.env=(do
   let ov ← eval e X.env
   standAt apos.atName
   let (f,first) ← holding [ov] (getMethod ov m pl)
   callWith pos f first (backTo pos (starEach args X.env)) (backToKw pos (keywordEach [] X.env)))) :
  wpAny (model X.prog X.w) X.A (eval (.Call (.Attribute e m apos) args [] pos) X.env) Q X.xe s:=by
 refine PySem.W.methodCall_KW (pl:=pl) (thn (he pins s σ H _ I h) fun u s1 ⟨x,H1,I1,rx,a,C,dx,fs,g,ex,ea,c,k,l,q⟩=>?_) ht
 subst ex
 obtain rfl:u=Value.ref a:=rx
 exact kJ I1 ea c k l (q s1 I1)
end
section
variable {X:Cx}{pins:List (Addr×Obj)}{σ:St}{H:Hp}{s:Shared}{A:Around}{E:Value→Shared→Prop}{Q:Value→Shared→Prop}{c:Value}{b:Bool}
inductive TyOf (K:PySem.W.Frag)(H:Hp):V→Value→Prop where
 | non:TyOf K H .non (.type "NoneType")
 | bl (x:Bool):TyOf K H (.bl x) (.type "bool")
 | int (i:Int):TyOf K H (.int i) (.type "int")
 | str (x:Str):TyOf K H (.str x) (.type "str")
 | flt (x:UInt64):TyOf K H (.flt x) (.type "float")
 | lst {a:Addr} {xs:List V} (e:H a=some (.lst xs)):TyOf K H (.ref a) (.type "list")
 | frz {a:Addr} {o:Obj} {xs:List V} (e:H a=some (.frz o (.lst xs))):TyOf K H (.ref a) (.type "list")
 | tup {a:Addr} {xs:List V} (e:H a=some (.tup xs)):TyOf K H (.ref a) (.type "tuple")
 | dK {a:Addr} {kvs:List (Key×V)} (e:H a=some (.dK kvs)):TyOf K H (.ref a) (.type "dict")
 | dT {a:Addr} {kvs:List (List Key×V)} (e:H a=some (.dT kvs)):TyOf K H (.ref a) (.type "dict")
 | ins {a C dx:Addr} {fs:List (Str×V)} (e:H a=some (.ins C dx fs)) (cl:Cls K C) (ha:PySem.W.findIn K (.ref C) "__class__"=some (some (.builtin "object.__class__")))
   (hn:PySem.W.specialIn K (.builtin "object.__class__") "__get__"=some (some (.builtin "getset_descriptor.__get__"))) (htk:PySem.W.takesIn K (.builtin "object.__class__")=some true)
   (hm:PySem.W.mroIn K C (.type "object")=some true):TyOf K H (.ref a) (.ref C)
end
end L2
namespace L2
open PySem PySem.Spec PyProof.Rows
structure Room (k:Nat)(A:Around):Prop where
 hd:A.handled=none
 dp:A.depth+3*k+5 < recursionLimit
 un:A.units+16*k+200 < cLine
theorem Room.mono {j k:Nat}{A:Around}(r:Room k A)(h:j≤k):Room j A:=⟨r.hd,by have:=r.dp;omega,by have:=r.un;omega⟩
theorem Room.deeper {k:Nat}{A:Around}(r:Room (k+1) A)(env:Env):Room k (A.deeper env) :=
 ⟨r.hd,by have:=r.dp;show A.depth+1+3*k+5 < _;omega,by have:=r.un;show A.units+3+16*k+200 < _;omega⟩
structure RoomW (k:Nat)(A:Around):Prop where
 hd:A.handled=none
 dp:A.depth+3*k+3 < recursionLimit
 un:A.units+16*k+190 < cLine
theorem Room.w {k:Nat}{A:Around}(r:Room k A):RoomW k A:=⟨r.hd,by have:=r.dp;omega,by have:=r.un;omega⟩
theorem RoomW.deeper {k:Nat}{A:Around}(r:RoomW (k+1) A)(env:Env):Room k (A.deeper env) :=
 ⟨r.hd,by have:=r.dp;show A.depth+1+3*k+5 < _;omega,by have:=r.un;show A.units+3+16*k+200 < _;omega⟩
theorem RoomW.depth {k:Nat}{A:Around}(r:RoomW k A):A.depth < recursionLimit:=by have:=r.dp;omega
def tNil:TA:=fun _ H Q=>Q [] H
def tCons (ta:TE)(tr:TA):TA:=fun σ H Q=>ta σ H fun x H1=>tr σ H1 fun xs H2=>Q (x::xs) H2
section
variable {X:Cx}{e:Expr}{es:List Expr}{te:TE}{t:TA}{pos:Pos}
theorem b7:PA X [] tNil:=fun _ _ _ _ H Q I h=>Calls.spliced_nil ⟨[],H,I,.nil,h⟩
theorem bi (ha:PE X e te)(hr:PA X es t)(hs:starEach (e::es) X.env=(false,eval e X.env)::starEach es X.env:=by rfl):PA X (e::es) (tCons te t):=by
 intro pos pins s σ H Q I h
 rw[hs]
 show wpAny _ _ (spliced ((false,eval e X.env)::backTo pos (starEach es X.env))) _ _ s
 refine Calls.spliced_cons (thn (ha pins s σ H _ I h) fun u s1 ⟨x,H1,I1,r1,q1⟩=>?_)
 exact thn (hr pos pins s1 σ H1 _ I1 q1) fun us s2 ⟨xs,H2,I2,r2,q2⟩=>⟨x::xs,H2,I2,.cons r1 r2,q2⟩
def tTup (t:TA):TE:=fun σ H Q=>t σ H fun xs H1=>xs.length≤sizeLine∧∀ p,H1 p=none→Q (.ref p) (upd H1 p (.tup xs))
def tLst (t:TA):TE:=fun σ H Q=>t σ H fun xs H1=>xs.length≤sizeLine∧∀ p,H1 p=none→Q (.ref p) (upd H1 p (.lst xs))
theorem tD {x1}(h:PA X es t):PE X (.Tuple es x1 pos) (tTup t):=by
 intro pins s σ H Q I hq
 refine wpAny_Tuple_spliced (thn (h pos pins s σ H _ I hq) fun us s1 ⟨xs,H1,I1,r,z,q⟩=>⟨by rw[← r.length];exact z,?_⟩)
 have hf:H1 s1.heap.objs.size=none:=I1.hok.fresh (Nat.le_refl _)
 refine⟨.ref s1.heap.objs.size,upd H1 s1.heap.objs.size (.tup xs),I1.laid (t':=s1.toks) (fun b u e=>Heap.get?_push_of_some _ e) (Nat.le_refl _) ?_,rfl,q _ hf⟩
 exact⟨z,us,r,TupO.new _ _⟩
theorem kK (h:PA X es t):PE X (.List es pos) (tLst t):=by
 intro pins s σ H Q I hq
 refine wpAny_List_spliced (thn (h pos pins s σ H _ I hq) fun us s1 ⟨xs,H1,I1,r,z,q⟩=>⟨by rw[← r.length];exact z,?_⟩)
 have hf:H1 s1.heap.objs.size=none:=I1.hok.fresh (Nat.le_refl _)
 refine⟨.ref s1.heap.objs.size,upd H1 s1.heap.objs.size (.lst xs),I1.laid (t':=s1.toks) (fun b u e=>Heap.get?_push_of_some _ e) (Nat.le_refl _) ?_,rfl,q _ hf⟩
 exact⟨z,us,0,r,Heap.get?_push_size _ rfl⟩
end
abbrev Sp:=List V→Hp→VK→XK→Prop
abbrev CXT:=List Env→Hp→Shared→XK→Value→Shared→Prop
structure Env0 (P:Program)(w:World)(K:PySem.W.Frag)(mg:Str→Option Value)(base:Heap)(A:Around)(outer:List Env)(s:Shared)(H:Hp):Prop where
 frames:A.frames=some outer
 mod:Mod K mg base
 bs:∀ b o,base.get? b=some o→s.heap.get? b=some o∧H b=none
 bsz:base.objs.size≤s.heap.objs.size
 funs:s.heap.FunFrames base outer
 frf:∀ b∈frs outer,H b=none
 hok:HOk P w H s.heap
 bare:AllBare s.gens
def CE (outer:List Env)(P:Program)(w:World)(H:Hp)(s:Shared)(Q:VK)(u:Value)(s':Shared):Prop :=
 ∃ v H',s'.os=s.os∧AllBare s'.gens∧Un (frs outer) [] H H' s.heap s'.heap∧HOk P w H' s'.heap∧RelV v u∧Q v H'
def CR (CX:CXT)(outer:List Env)(P:Program)(w:World)(H:Hp)(s:Shared)(Q:VK)(E:XK)(r:Result)(s':Shared):Prop :=
 match r with
 | .ok (.ret u)=>CE outer P w H s Q u s'
 | .ok _=>False
 | .error e=>CX outer H s E e s'
structure FnOk (P:Program)(w:World)(K:PySem.W.Frag)(mg:Str→Option Value)(base:Heap)(CX:CXT)(k:Nat)(f:Addr)(fd:FuncData)(ps:List Str)(sp:Sp):Prop where
 len:∀ vs H Q E,sp vs H Q E→vs.length=ps.length
 run:∀ (A:Around) (outer:List Env) (s:Shared) (H:Hp) (args:Args) (us:List Value) (vs:List V) (Q:VK) (E:XK),RoomW k A→Env0 P w K mg base A outer s H→BindsTo s fd args (ps.zip us)→Vals vs us→sp vs H Q E →
  codeAny (model P w) A (.call (.ref f) args) (CR CX outer P w H s Q E) s
section
variable {X:Cx}{pins:List (Addr×Obj)}{σ:St}{H:Hp}{s s':Shared}
theorem Inv.env0 (I:Inv X pins σ H s):Env0 X.prog X.w X.K X.mg X.base X.A X.stack s H :=
 ⟨I.ok.frames,I.ok.mod,I.bs,Nat.le_trans I.ok.bsz I.sz,I.stack,I.stkFree,I.hok,I.bare⟩
theorem Inv.after {Q:VK}{u:Value}(I:Inv X pins σ H s)(h:CE X.stack X.prog X.w H s Q u s'):EP X pins σ Q u s':=by
 obtain⟨v,H',os,bare,un,hok,r,q⟩:=h
 obtain⟨hh,g,d,t,os'⟩:=s'
 obtain rfl:os'=s.os:=os
 exact⟨v,H',I.call (h':=hh) (g':=g) (d':=d) (t':=t) (ch:=[]) un hok bare (fun b z=>absurd z (by simp)),r,q⟩
end
def tCall (sp:Sp)(dvs:List V)(E:XK)(t:TA):TE:=fun σ H Q=>t σ H fun vs H1=>sp (vs++dvs) H1 Q E
def Binds (K:PySem.W.Frag)(fd:FuncData)(ps:List Str)(ds:List Value):Prop :=
 ∀ (s:Shared) (us:List Value),K.In s.heap→(us++ds).length=ps.length→BindsTo s fd ⟨us,[]⟩ (ps.zip (us++ds))
theorem Binds.all {K:PySem.W.Frag}{fd:FuncData}{ps:List Str}(h:∀ us:List Value,us.length=ps.length→bindArgs fd ⟨us,[]⟩=pure (ps.zip us)):Binds K fd ps []:=fun s us _ hl=>by
 rw[List.append_nil]at hl ⊢
 exact .of_eq (h us hl)
def Passes (CX:CXT)(X:Cx)(E:XK):Prop:=∀ (pins:List (Addr×Obj)) (σ:St) (H:Hp) (s:Shared) (e:Value) (s':Shared),Inv X pins σ H s→CX X.stack H s E e s'→X.xe e s'
section
variable {X:Cx}{CX:CXT}{k:Nat}{f C:Addr}{fd:FuncData}{ps:List Str}{sp:Sp}{dvs:List V}{ds:List Value}{E:XK}{x m:Str}{p pos apos:Pos}{e o:Expr}{es:List Expr}{ta:TE}{t:TA}
theorem oO {pins:List (Addr×Obj)}{σ:St}{H:Hp}{s:Shared}{Q:VK}{us:List Value}{vs:List V}(F:FnOk X.prog X.w X.K X.mg X.base CX k f fd ps sp)(hr:Room k X.A)(hb:Binds X.K fd ps ds)(hd:Vals dvs ds)(hx:Passes CX X E)
  (I:Inv X pins σ H s) (r:Vals vs us) (h:sp (vs++dvs) H Q E):wpAny (model X.prog X.w) X.A (call (.ref f) us) (EP X pins σ Q) X.xe s:=by
 have r2:Vals (vs++dvs) (us++ds):=r.append hd
 have hl:(us++ds).length=ps.length:=by rw[← r2.length];exact F.len _ _ _ _ h
 refine wpAny_call (codeAny_mono (F.run X.A X.stack s H ⟨us,[]⟩ (us++ds) (vs++dvs) Q E hr.w I.env0 (hb s us I.kIn hl) r2 h) fun r s' hq=>?_)
 cases r with
 | error e=>exact hx pins σ H s e s' I hq
 | ok fl =>
  cases fl with
  | ret u=>exact I.after hq
  | next=>exact False.elim hq
  | brk=>exact False.elim hq
  | cont=>exact False.elim hq
theorem qM (F:FnOk X.prog X.w X.K X.mg X.base CX k f fd ps sp)(hr:Room k X.A)(hg:Gl X x)(hm:X.mg x=some (.ref f))(hk:PySem.W.keepIn X.K (.ref f)=true)(hb:Binds X.K fd ps ds)(hd:Vals dvs ds)(hx:Passes CX X E)
  (ha:PA X (e::es) t) (hdb:(x==("__debug__":Str))=false:=by decide) (he:starEach (e::es) X.env=(false,eval e X.env)::starEach es X.env:=by rfl) (hpl:(backTo pos (starEach es X.env)).any (·.1)=false:=by rfl) :
  PE X (.Call (.Name x p) (e::es) [] pos) (tCall sp dvs E t):=by
 intro pins s σ H Q I h
 refine wpAny_Call_Name_kw (cX I hg hm ?_ hdb)
 refine PySem.W.callWith_K (h₀:=X.base) I.ok.mod.kin hk (thn (ha pos pins s σ H _ I h) fun us s1 ⟨vs,H1,I1,r,q⟩=>⟨I1.kIn,?_⟩) he hpl
 exact oO F hr hb hd hx I1 r q
structure Mk (K:PySem.W.Frag)(C f:Addr):Prop where
 makes:PySem.W.makesIn K C=true
 init:PySem.W.findIn K (.ref C) "__init__"=some (some (.ref f))
 fn:PySem.W.isFn K (.ref f)=true
 kp:PySem.W.keepIn K (.ref C)=true
end
section
variable {X:Cx}{CX:CXT}{k:Nat}{f C:Addr}{fd:FuncData}{ps ks:List Str}{sp:Sp}{E:XK}{x m:Str}{p pos apos kpos:Pos}{e o:Expr}{es:List Expr}{kws:List Keyword}{te ta:TE}{t tk:TA}{nm:Option Str}
variable {g:List Value→List Value→List Value}{gV:List V→List V→List V}
end
structure FnScope (N P:List Str)(sc:Scope):Prop where
 kind:sc.kind=.function
 co:sc.isCoroutine=false
 gen:sc.isGenerator=false
 nd:N.Nodup
 pre:N.take P.length=P
 par:∀ x∈P,sc.names.lookup x=some .local∨sc.names.lookup x=some .cell
 nofree:∀ y∈sc.names,y.2≠.free
theorem iO {kindOf:Str→Option NameKind}{x:Str}:∀ {binds:List (Str×Value)} {m:Str→Option Value},(∀ v,(x,v)∉binds)→bindL kindOf binds m x=m x
 | [],_,_=>rfl
 | (n,v)::r,m,h=>by
  unfold bindL
  rw[iO fun w hw=>h w (List.mem_cons_of_mem _ hw)]
  split
  ·have:x≠n:=by rintro rfl;exact h v List.mem_cons_self
   simp[this]
  ·rfl
theorem iP {kindOf:Str→Option NameKind}{x:Str}:∀ {binds:List (Str×Value)} {m:Str→Option Value},(∀ v,(x,v)∉binds)→bindC kindOf binds m x=m x
 | [],_,_=>rfl
 | (n,v)::r,m,h=>by
  unfold bindC
  rw[iP fun w hw=>h w (List.mem_cons_of_mem _ hw)]
  split
  ·rfl
  ·have:x≠n:=by rintro rfl;exact h v List.mem_cons_self
   simp[this]
theorem eJ {kindOf:Str→Option NameKind}{x:Str}{v:Value}:∀ {P:List Str} {vs:List Value} {i:Nat} {m:Str→Option Value},P.Nodup→P[i]?=some x→vs[i]?=some v→kindOf x=some .local →
  bindL kindOf (P.zip vs) m x=some v
 | [],_,_,_,_,h,_,_=>by simp at h
 | _::_,[],_,_,_,_,h,_=>by simp at h
 | p::P,w::vs,0,m,nd,h1,h2,hk=>by
  simp at h1 h2;subst h1;subst h2
  show bindL kindOf ((p,w)::P.zip vs) m p=_
  unfold bindL
  rw[iO fun v hv=>(List.nodup_cons.mp nd).1 (List.of_mem_zip hv).1,if_pos hk]
  simp
 | p::P,w::vs,i+1,m,nd,h1,h2,hk=>by
  show bindL kindOf ((p,w)::P.zip vs) m x=_
  unfold bindL
  exact eJ (i:=i) (List.nodup_cons.mp nd).2 (by simpa using h1) (by simpa using h2) hk
theorem eL {kindOf:Str→Option NameKind}{x:Str}{v:Value}:∀ {P:List Str} {vs:List Value} {i:Nat} {m:Str→Option Value},P.Nodup→P[i]?=some x→vs[i]?=some v→kindOf x≠some .local →
  bindC kindOf (P.zip vs) m x=some v
 | [],_,_,_,_,h,_,_=>by simp at h
 | _::_,[],_,_,_,_,h,_=>by simp at h
 | p::P,w::vs,0,m,nd,h1,h2,hk=>by
  simp at h1 h2;subst h1;subst h2
  show bindC kindOf ((p,w)::P.zip vs) m p=_
  unfold bindC
  rw[iP fun v hv=>(List.nodup_cons.mp nd).1 (List.of_mem_zip hv).1,if_neg hk]
  simp
 | p::P,w::vs,i+1,m,nd,h1,h2,hk=>by
  show bindC kindOf ((p,w)::P.zip vs) m x=_
  unfold bindC
  exact eL (i:=i) (List.nodup_cons.mp nd).2 (by simpa using h1) (by simpa using h2) hk
def start (N:List Str)(vs:List V):St:=vs.map some++List.replicate (N.length - vs.length) none
def cxOf (CX:CXT)(P:Program)(w:World)(K:PySem.W.Frag)(mg:Str→Option Value)(base:Heap)(N:List Str)(qual:Str)(scope:Scope)(f:Addr)(cd:Value)(A:Around)(outer:List Env)(s:Shared)(H:Hp)(E:XK):Cx where
 prog:=P
 w:=w
 K:=K
 mg:=mg
 base:=base
 A:=A.deeper (envOfC qual scope s.heap.objs.size f cd)
 N:=N
 s₀:=s
 H₀:=H
 env:=envOfC qual scope s.heap.objs.size f cd
 outer:=outer
 stack:=envOfC qual scope s.heap.objs.size f cd::outer
 ex:=[]
 calm:=true
 fn:=fun _=>true
 pn:=[]
 xe:=fun e s'=>wpAny (model P w) (A.deeper (envOfC qual scope s.heap.objs.size f cd)) (leaving (envOfC qual scope s.heap.objs.size f cd) e) (fun _ s''=>CX outer H s E e s'') (fun e' s''=>CX outer H s E e' s'') s'
theorem dH {sc:Scope}{n:Nat}{x:Str}(h:sc.names.lookup x=some .cell):∃ c,(cellsFrom n sc.names []).lookup x=some c:=by
 have q:=PySem.W.cellsFrom_some sc.names n [] (.inl h)
 exact Option.isSome_iff_exists.mp q
theorem iQ {CX:CXT}{P:Program}{w:World}{K:PySem.W.Frag}{mg:Str→Option Value}{base:Heap}{N ps:List Str}{qual:Str}{scope:Scope}{f:Addr}{cd:Value}{A:Around}{outer:List Env}{s s1:Shared}{H:Hp}{E:XK}{us:List Value}{vs:List V}
  (S:FnScope N ps scope) (hd:A.handled=none) (e0:Env0 P w K mg base A outer s H) (hl:vs.length=ps.length) (r:Vals vs us)
  (x:InCallC s s.heap.objs.size (bindL (envOfC qual scope s.heap.objs.size f cd).kindOf (ps.zip us) fun _=>none) (cellsFrom (s.heap.objs.size+1) scope.names []) (bindC (envOfC qual scope s.heap.objs.size f cd).kindOf (ps.zip us) fun _=>none) s1) :
  Inv (cxOf CX P w K mg base N qual scope f cd A outer s H E) [] (start N vs) H s1:=by
 have hpl:ps.length≤N.length:=by have:=congrArg List.length S.pre;rw[List.length_take]at this;omega
 obtain⟨h1,tk,rfl,hk⟩:=x.done
 have noA:∀ b:Addr,b∉(cxOf CX P w K mg base N qual scope f cd A outer s H E).ex:=fun b z=>absurd (show b∈([]:List Addr) from z) (by simp)
 refine⟨⟨e0.mod,S.kind,rfl,rfl,Nat.le_refl _,fun y z c h1 h2=>?_,fun y hy=>?_,fun y c _ h=>?_,fun _=>hd,Around.frames_deeper e0.frames,.inr ⟨rfl,rfl⟩,fun b z=>absurd z (noA b),e0.bs,e0.bsz,fun b _ _=>noA b,fun b z=>absurd z (noA b),e0.funs,e0.frf⟩,
  rfl,e0.bare,Un.kept hk,⟨_,x.toInCall.ns,fun i y v h1 h2 h3=>?_⟩,fun y c h=>⟨_,x.cell y c h⟩,e0.hok.fresh (Nat.le_refl _),fun y c h=>?_,fun p hp=>absurd (show p∈([]:List (Addr×Obj)) from hp) (by simp),e0.hok.kept hk,?_⟩
 ·exact name_of_addr x.apart (PySem.mem_of_lookup h1) (PySem.mem_of_lookup h2)
 ·have hy:scope.names.lookup y=some .cell∨scope.names.lookup y=some .free:=hy
  rcases hy with hy | hy
  ·exact dH hy
  ·exact absurd rfl (S.nofree _ (PySem.mem_of_lookup hy))
 ·exact Nat.le_of_lt (x.above y c (PySem.mem_of_lookup h))
 ·have hi:i < vs.length:=by
   unfold start at h2
   by_cases hi:i < vs.length
   ·exact hi
   ·rw[List.getElem?_append_right (by simpa using hi)]at h2
    rw[List.getElem?_replicate]at h2
    split at h2<;>cases h2
  have ha:vs[i]?=some v:=by
   unfold start at h2
   rw[List.getElem?_append_left (by simpa using hi),List.getElem?_map]at h2
   cases e:vs[i]? with
   | none=>rw[e]at h2;cases h2
   | some a=>rw[e]at h2;cases h2;rfl
  obtain⟨u,hu,rv⟩:=r.get ha
  have hp:ps[i]?=some y:=by
   rw[← S.pre,List.getElem?_take_of_lt (by omega)];exact h1
  have ndP:ps.Nodup:=by rw[← S.pre];exact S.nd.sublist (List.take_sublist _ _)
  refine⟨u,rv,?_⟩
  rcases S.par y (List.mem_of_getElem? hp) with k | k
  ·exact .inl ⟨k,eJ ndP hp hu k⟩
  ·obtain⟨c,e⟩:=dH (n:=s.heap.objs.size+1) k
   refine .inr ⟨.inl k,c,e,?_⟩
   have q:=x.cell y c e
   rw[eL ndP hp hu (by show scope.names.lookup y≠_;rw[k];decide)]at q
   exact q
 ·exact e0.hok.fresh (Nat.le_of_lt (x.above y c (PySem.mem_of_lookup h)))
 ·unfold start
  show _=N.length
  rw[List.length_append,List.length_map,List.length_replicate]
  omega
theorem oP {CX:CXT}{P:Program}{w:World}{K:PySem.W.Frag}{mg:Str→Option Value}{base:Heap}{k:Nat}{f:Addr}{name qual:Str}{params:Arguments}{body:List Stmt}{scope:Scope}{dV kV doc pm cdv ct oc:Value}{an od:Option Addr}
  {osl:Array (Option Value)} {N ps:List Str} {sp:Sp} (lk:K.lookup f=some ⟨oc,od,.func (PySem.W.fnOf name qual params body scope dV kV doc pm an cdv ct),osl⟩) (hcd:PySem.W.codeIn K cdv qual=true) (S:FnScope N ps scope)
  (len:∀ vs H Q E,sp vs H Q E→vs.length=ps.length)
  (hbody:∀ (A:Around) (outer:List Env) (s:Shared) (H:Hp) (vs:List V) (Q:VK) (E:XK),Room k (A.deeper (envOfC qual scope s.heap.objs.size f cdv))→sp vs H Q E →
   ∃ t,PSs (cxOf CX P w K mg base N qual scope f cdv A outer s H E) body t∧t { nx:=fun _ H'=>Q .non H',rt:=Q } (start N vs) H) :
  FnOk P w K mg base CX (k+1) f (PySem.W.fnOf name qual params body scope dV kV doc pm an cdv ct) ps sp:=by
 refine⟨len,fun A outer s H args us vs Q E hr e0 hb r hsp=>?_⟩
 have hl:=len _ _ _ _ hsp
 have KX:K.In s.heap:=e0.mod.kin.keeps fun b o e=>(e0.bs b o e).1
 have lim:s.heap.NoLimit:=e0.mod.nolimit.keeps fun b o e=>(e0.bs b o e).1
 have hkind:∀ y∈ps.zip us,scope.names.lookup y.1=some .local∨(scope.names.lookup y.1=some .cell∧((cellsFrom (s.heap.objs.size+1) scope.names []).lookup y.1).isSome=true):=fun ⟨n,v⟩ hy=>by
  rcases S.par n (List.of_mem_zip hy).1 with q | q
  ·exact .inl q
  ·exact .inr ⟨q,PySem.W.cellsFrom_some _ _ _ (.inl q)⟩
 refine codeAny_call_function hr.depth (KX _ _ lk) rfl S.co S.gen rfl (PySem.W.codeRec_of KX hcd) (hb _ _ _ _ ?_)
 refine wpAny_newFunctionEnv_cells S.kind hkind fun env he s1 x=>?_
 subst he
 refine⟨lim.keeps x.toInCall.keep,codeAny_func ?_⟩
 obtain⟨t,ht,hq⟩:=hbody A outer s H vs Q E (hr.deeper _) hsp
 have I:Inv (cxOf CX P w K mg base N qual scope f cdv A outer s H E) [] (start N vs) H s1:=iQ S hr.hd e0 hl r x
 refine wpAny_mono (ht [] s1 (start N vs) H _ I hq) (fun fl s' hs=>?_) fun e s' hs=>hs
 have fin:∀ {σ':St} {H':Hp} {v:V} {u:Value},Inv (cxOf CX P w K mg base N qual scope f cdv A outer s H E) [] σ' H' s'→RelV v u→Q v H'→CE outer P w H s Q u s' :=
  fun {σ' H' v u} J rv q=>⟨v,H',J.os,J.bare,J.base,J.hok,rv,q⟩
 cases fl with
 | ret u =>
  obtain⟨v,σ',H',J,rv,q⟩:=hs
  exact fin J rv q
 | next =>
  obtain⟨σ',H',J,q⟩:=hs
  exact fin (v:=V.non) (u:=Value.none) J rfl q
 | brk =>
  obtain⟨_,_,_,q⟩:=hs
  exact False.elim q
 | cont =>
  obtain⟨_,_,_,q⟩:=hs
  exact False.elim q
end L2
namespace L2
open PySem PySem.Spec PyProof.Rows
section
variable {X:Cx}{x:Str}{p pos:Pos}{e:Expr}{es:List Expr}{t:TA}{id T:String}{r:List V→Hp→VK→Prop}
def tCB (r:List V→Hp→VK→Prop)(t:TA):TE:=fun σ H Q=>t σ H fun vs H1=>r vs H1 Q
theorem cE (hc:CallR X (.builtin id) r)(hg:Gl X x)(hm:X.mg x=none)(hv:bootBuiltins x=some (.builtin id))(ha:PA X (e::es) t)(hn:x ≠ "__name__" := by decide)(hdb:(x==("__debug__":Str))=false:=by decide)
  (he:starEach (e::es) X.env=(false,eval e X.env)::starEach es X.env:=by rfl) (hpl:(backTo pos (starEach es X.env)).any (·.1)=false:=by rfl):PE X (.Call (.Name x p) (e::es) [] pos) (tCB r t):=by
 intro pins s σ H Q I h
 refine wpAny_Call_Name_kw (eG I hg hm hv ?_ hn hdb)
 exact PyProof.Rows.callWith_builtin1 (thn (ha pos pins s σ H _ I h) fun us s1 ⟨vs,H1,I1,r1,q1⟩=>hc pins s1 σ H1 vs us Q I1 r1 q1) he hpl
theorem eM (hc:CallR X (.type T) r)(hg:Gl X x)(hm:X.mg x=none)(hv:bootBuiltins x=some (.type T))(ha:PA X (e::es) t)(hn:x ≠ "__name__" := by decide)(hdb:(x==("__debug__":Str))=false:=by decide)
  (he:starEach (e::es) X.env=(false,eval e X.env)::starEach es X.env:=by rfl) (hpl:(backTo pos (starEach es X.env)).any (·.1)=false:=by rfl):PE X (.Call (.Name x p) (e::es) [] pos) (tCB r t):=by
 intro pins s σ H Q I h
 refine wpAny_Call_Name_kw (eG I hg hm hv ?_ hn hdb)
 exact PyProof.Rows.callWith_type1 (thn (ha pos pins s σ H _ I h) fun us s1 ⟨vs,H1,I1,r1,q1⟩=>hc pins s1 σ H1 vs us Q I1 r1 q1) he hpl
end
end L2
namespace HT
open PySem PyProof.Rows
section
open PySem.SeqAt
open PySem.AutoSeq1 (wpAny_loadPart')
open PySem.MeetsSeq PySem.MeetsSeq2 PySem.MeetsSeq3
end
section
variable {prog:Program}{w:World}{A:Around}{E:Value→Shared→Prop}{s:Shared}
theorem qN {t b:Addr}{vs ws:List Value}{Q:Value→Shared→Prop}(ht:IsTup s.heap t vs.toArray)(hb:IsTup s.heap b ws.toArray)(hv:vs≠[])
  (h1:ws=[]→Q (.ref t) s) (h2:ws≠[]→Q (.ref s.heap.objs.size) { s with heap:=s.heap.push { cls:=.type "tuple",data:=.seq (vs++ws).toArray } })
  (hsz:vs.length+ws.length≤sizeLine):wpAny (model prog w) A (binaryOp .Add (.ref t) (.ref b)) Q E s:=by
 obtain⟨⟨cls,dd,data,sl⟩,ho,hc,n,hd⟩:=id ht
 obtain⟨⟨cls2,dd2,data2,sl2⟩,ho2,hc2,n2,hd2⟩:=id hb
 simp only at hc hd hc2 hd2
 subst hc hd hc2 hd2
 have e:vs.toArray++ws.toArray=(vs++ws).toArray:=by simp
 by_cases hw:ws=[]
 ·exact concat_meets ⟨_,ho,rfl⟩ ⟨_,ho2,rfl⟩ noFill_tuple_add seq_tuple_add PySem.F.slot_tuple_add PySem.F.entry_tuple_add (PySem.F.args_tuple_add_2 _ _)
   (tuple_addW1 t b vs.toArray ws.toArray n n2 dd dd2 sl sl2 (by simpa using hv) (by simp[hw])) ⟨ho,ho2,h1 hw⟩
 ·refine concat_meets ⟨_,ho,rfl⟩ ⟨_,ho2,rfl⟩ noFill_tuple_add seq_tuple_add PySem.F.slot_tuple_add PySem.F.entry_tuple_add (PySem.F.args_tuple_add_2 _ _)
   (tuple_addW2 t b vs.toArray ws.toArray n n2 dd dd2 sl sl2 (by simpa using hv) (by simpa using hw) (by rw[List.size_toArray,List.size_toArray];exact hsz)) ⟨ho,ho2,?_⟩
  rw[e]
  exact h2 hw
def sIx (n d:Nat):Option Int→Nat
 | none=>d
 | some v=>if v < 0 then (v+(n:Int)).toNat else min v.toNat n
theorem tF (n d:Nat)(hd:d≤n)(o:Option Int):sIx n d o≤n:=by
 cases o with
 | none=>exact hd
 | some v =>
  show (if v < 0 then (v+(n:Int)).toNat else min v.toNat n)≤n
  by_cases hv:v < 0
  ·rw[if_pos hv];omega
  ·rw[if_neg hv];exact Nat.min_le_right _ _
theorem lX (v:Int)(n d:Nat):(if v < 0 then max (v+(n:Int)) 0 else min v (n:Int))=((sIx n d (some v):Nat):Int):=by
 show (if v < 0 then max (v+(n:Int)) 0 else min v (n:Int))=(((if v < 0 then (v+(n:Int)).toNat else min v.toNat n):Nat):Int)
 by_cases hv:v < 0
 ·simp only[if_pos hv];omega
 ·simp only[if_neg hv];omega
theorem kL (lo hi:Option Int)(n:Nat):Builtin.Slice.sliceAdjust lo hi 1 (n:Int)=(((sIx n 0 lo:Nat):Int),((sIx n n hi:Nat):Int)):=by
 have h1:¬ ((1:Int) < 0):=by omega
 unfold Builtin.Slice.sliceAdjust
 simp only[h1,if_false]
 refine Prod.ext ?_ ?_
 ·cases lo with
  | none=>rfl
  | some v=>exact lX v n 0
 ·cases hi with
  | none=>rfl
  | some v=>exact lX v n n
theorem kM (i j:Nat):Builtin.Slice.slicePlaces (i:Int) (j:Int) 1=j - i:=by
 unfold Builtin.Slice.slicePlaces
 have h1:(1:Int) > 0:=by omega
 simp only[h1,if_true,Int.ediv_one]
 split<;>omega
theorem gz {v:Value}{o:Option Int}{Q:Option Int→Shared→Prop}(p:IsPart v o)(h:Q o s):wpAny (model prog w) A (Builtin.Slice.slicePartIndex v) Q E s:=by
 cases p with
 | none=>exact slicePart_none h
 | int i t=>exact slicePart_int h
theorem bX {sl:Addr}{vl vu:Value}{lo hi:Option Int}{n:Nat}{Q:Int×Int×Nat→Shared→Prop}(hs:s.heap.IsSliceOf sl vl vu .none)(pl:IsPart vl lo)(pu:IsPart vu hi)
  (h:Q (((sIx n 0 lo:Nat):Int),1,sIx n n hi - sIx n 0 lo) s):wpAny (model prog w) A (Builtin.Slice.sliceApplied (.ref sl) (pure (n:Int))) Q E s:=by
 obtain⟨os,hos,hcs,hds⟩:=id hs
 unfold Builtin.Slice.sliceApplied Builtin.Slice.sliceFields
 refine wpAny_bind (wpAny_bind (wpAny_field hos hds (x:=vl) rfl (wpAny_bind (wpAny_field hos hds (x:=vu) rfl (wpAny_bind (wpAny_field hos hds (x:=.none) rfl (wpAny_pure ?_)))))))
 refine wpAny_bind (slicePart_none ?_)
 show wpAny _ _ (if ((1:Int)==0)=true then _ else _) _ _ s
 rw[if_neg (by decide)]
 refine wpAny_bind (gz pl (wpAny_bind (gz pu (wpAny_bind (wpAny_pure ?_)))))
 show wpAny _ _ (match Builtin.Slice.sliceAdjust lo hi 1 (n:Int) with | (lo,hi)=>pure (lo,(1:Int),Builtin.Slice.slicePlaces lo hi 1)) _ _ s
 rw[kL lo hi n]
 show wpAny _ _ (pure (((sIx n 0 lo:Nat):Int),(1:Int),Builtin.Slice.slicePlaces ((sIx n 0 lo:Nat):Int) ((sIx n n hi:Nat):Int) 1)) _ _ s
 rw[kM]
 exact wpAny_pure h
theorem oQ (xs:Array Value)(i k:Nat):((List.range k).filterMap fun (m:Nat)=>xs[((i:Int)+(m:Int)*1).toNat]?).toArray=((xs.toList.drop i).take k).toArray:=by
 have e:(fun (m:Nat)=>xs[((i:Int)+(m:Int)*1).toNat]?)=fun m=>xs[i+m]?:=by
  funext m
  have:((i:Int)+(m:Int)*1).toNat=i+m:=by omega
  rw[this]
 rw[e]
 have:=pick_run xs i k
 rw[List.filterMap_map]at this
 have e2:((fun x=>xs[x]?)∘fun x=>i+x)=fun m=>xs[i+m]?:=rfl
 rw[e2]at this
 rw[this]
theorem dJ {t sl:Addr}{items:Array Value}{vl vu:Value}{lo hi:Option Int}{Q:Value→Shared→Prop}(ht:IsTup s.heap t items)(hs:s.heap.IsSliceOf sl vl vu .none)(pl:IsPart vl lo)(pu:IsPart vu hi)
  (hw:¬ (sIx items.size 0 lo=0∧sIx items.size items.size hi=items.size))
  (h:Q (.ref s.heap.objs.size) { s with heap:=s.heap.push { cls:=.type "tuple",data:=.seq ((items.toList.drop (sIx items.size 0 lo)).take (sIx items.size items.size hi - sIx items.size 0 lo)).toArray } })
  (hsz:items.size≤sizeLine):wpAny (model prog w) A (getItem (.ref t) (.ref sl)) Q E s:=by
 have htake:sizeOk (.seq ((items.toList.drop (sIx items.size 0 lo)).take (sIx items.size items.size hi - sIx items.size 0 lo)).toArray):=by
  show ((items.toList.drop (sIx items.size 0 lo)).take (sIx items.size items.size hi - sIx items.size 0 lo)).toArray.size≤sizeLine
  rw[List.size_toArray,List.length_take,List.length_drop,Array.length_toList]
  omega
 have hj:sIx items.size items.size hi≤items.size:=tF _ _ (Nat.le_refl _) hi
 obtain⟨os,hos,hcs,hds⟩:=id hs
 have hTs:s.TypeIs (.ref sl) "slice" := ⟨os,hos,hcs⟩
 unfold getItem
 try with_reducible refine wpAny_holding ?_
 first | refine wpAny_bind (wpAny_pure ?_) | skip
 refine wpAny_bind (wpAny_sequenceKey ht.typeIs (by decide) ?_)
 refine wpAny_bind (wpAny_callSpecial?_slot (name:=Str.ofString "__getitem__") ht.typeIs PyProof.Rows.slot_tuple_getitem
  (wpAny_call_entry PyProof.Rows.slot_tuple_getitem ht.typeIs entry_tuple_getitem ?_ (args_tuple_getitem _ _)))
 show wpAny _ _ (Builtin.Tuple.tupleItemsOf (.ref t) >>= _) _ _ s
 refine wpAny_bind (tupleItemsOf_ ht ?_)
 refine wpAny_bind (wpAny_typeOf hTs ?_)
 rw[if_pos (by decide)]
 refine wpAny_bind (bX hs pl pu ?_)
 have hno:¬ ((((sIx items.size 0 lo:Nat):Int)==0&&(1:Int)==1&&(sIx items.size items.size hi - sIx items.size 0 lo)==items.size)=true):=by
  intro q
  rw[Bool.and_eq_true,Bool.and_eq_true]at q
  have q1:((sIx items.size 0 lo:Nat):Int)=0:=eq_of_beq q.1.1
  have q2:sIx items.size items.size hi - sIx items.size 0 lo=items.size:=eq_of_beq q.2
  exact hw ⟨by omega,by omega⟩
 show wpAny _ _ (if (((sIx items.size 0 lo:Nat):Int)==0&&(1:Int)==1&&(sIx items.size items.size hi - sIx items.size 0 lo)==items.size)=true then _ else _) _ _ s
 rw[if_neg hno,oQ]
 first
  | exact wpAny_bind (m:=Builtin.Tuple.tupleExact _) (wpAny_newObj_type (wpAny_pure ⟨_,rfl,wpAny_pure h⟩) htake)
  | exact wpAny_bind (m:=Builtin.Tuple.tupleExact _) (wpAny_newObj_type (wpAny_bind (wpAny_pure (wpAny_pure ⟨_,rfl,wpAny_pure h⟩))) htake)
  | exact wpAny_bind (wpAny_bind (m:=Builtin.Tuple.tupleExact _) (wpAny_newObj_type (wpAny_pure (wpAny_pure ⟨_,rfl,wpAny_pure h⟩)) htake))
  | exact wpAny_bind (wpAny_bind (m:=Builtin.Tuple.tupleExact _) (wpAny_newObj_type (wpAny_pure ⟨_,rfl,wpAny_pure h⟩) htake))
end
end HT
namespace L2
open PySem PySem.Spec PyProof.Rows
abbrev TO:=St→Hp→(Option Int→Hp→Prop)→Prop
def PO (X:Cx)(e:Option Expr)(t:TO):Prop :=
 ∀ (pins:List (Addr×Obj)) (s:Shared) (σ:St) (H:Hp) (Q:Option Int→Hp→Prop),Inv X pins σ H s→t σ H Q →
  wpAny (model X.prog X.w) X.A (evalPart e X.env) (fun u s'=>∃ o H',Inv X pins σ H' s'∧IsPart u o∧Q o H') X.xe s
def tNoPart:TO:=fun _ H Q=>Q none H
def tPart (t:TE):TO:=fun σ H Q=>t σ H fun x H1=>∃ i,x=.int i∧Q (some i) H1
theorem kN {ns:List Int}:∀ {us:List Value},Vals (ns.map V.int) us→IntsAre us ns:=by
 induction ns with
 | nil=>intro us r;rw[List.map_nil]at r;cases r;exact .nil
 | cons n ns ih =>
  intro us r
  rw[List.map_cons]at r
  cases r with
  | cons r1 r2 =>
   obtain⟨t,e⟩:=r1
   subst e
   exact .cons n t (ih r2)
section
variable {X:Cx}{e:Expr}{te:TE}{lo hi:Option Expr}{tl th:TO}{pos p2:Pos}
theorem qO:PO X none tNoPart:=by
 intro pins s σ H Q I h
 rw[evalPart_none]
 exact wpAny_pure ⟨none,H,I,.none,h⟩
theorem qP (h:PE X e te):PO X (some e) (tPart te):=by
 intro pins s σ H Q I hw
 rw[evalPart_some]
 refine thn (h pins s σ H _ I hw) fun u s1 ⟨x,H1,I1,r1,q1⟩=>?_
 obtain⟨i,rfl,q⟩:=q1
 obtain⟨t,rfl⟩:=r1
 exact⟨some i,H1,I1,.int i t,q⟩
def SlR (X:Cx)(r:V→Option Int→Option Int→Hp→VK→Prop):Prop :=
 ∀ (pins:List (Addr×Obj)) (s:Shared) (σ:St) (H:Hp) (x:V) (v vl vu:Value) (lo hi:Option Int) (sl:Addr) (Q:VK),Inv X pins σ H s→RelV x v→s.heap.IsSliceOf sl vl vu .none→IsPart vl lo→IsPart vu hi→r x lo hi H Q →
  ∃ T id,typeLookup (.type T) "__getitem__"=pure (some (.builtin id))∧s.TypeIs v T∧wpAny (model X.prog X.w) X.A (getItem v (.ref sl)) (EP X pins σ Q) X.xe s
theorem SlR.or {r r':V→Option Int→Option Int→Hp→VK→Prop}(h:SlR X r)(h':SlR X r'):SlR X (fun x lo hi H Q=>r x lo hi H Q∨r' x lo hi H Q):=by
 intro pins s σ H x v vl vu lo hi sl Q I rx hs pl pu q
 rcases q with q | q
 ·exact h pins s σ H x v vl vu lo hi sl Q I rx hs pl pu q
 ·exact h' pins s σ H x v vl vu lo hi sl Q I rx hs pl pu q
def tSl (r:V→Option Int→Option Int→Hp→VK→Prop)(te:TE)(tl th:TO):TE:=fun σ H Q=>te σ H fun x H1=>tl σ H1 fun l H2=>th σ H2 fun u H3=>r x l u H3 Q
theorem oR {r:V→Option Int→Option Int→Hp→VK→Prop}(hr:SlR X r)(he:PE X e te)(hl:PO X lo tl)(hu:PO X hi th):PE X (.Subscript e (.Slice lo hi none p2) pos) (tSl r te tl th):=by
 intro pins s σ H Q I h
 refine Subscript_ (thn (he pins s σ H _ I h) fun v s1 ⟨x,H1,I1,r1,q1⟩=>?_)
 refine wpAny_Slice (thn (hl pins s1 σ H1 _ I1 q1) fun vl s2 ⟨l,H2,I2,pl,q2⟩=>thn (hu pins s2 σ H2 _ I2 q2) fun vu s3 ⟨u,H3,I3,pu,q3⟩=>?_)
 rw[evalPart_none]
 refine wpAny_pure ?_
 have I4:Inv X pins σ H3 { s3 with heap:=s3.heap.push { cls:=.type "slice",data:=.fields #[vl,vu,.none] } }:=I3.kept (t':=s3.toks) fun b ob q=>Heap.get?_push_of_some _ q
 obtain⟨T,id,hT,ht,hg⟩:=hr pins { s3 with heap:=s3.heap.push { cls:=.type "slice",data:=.fields #[vl,vu,.none] } } σ H3 x v vl vu l u s3.heap.objs.size Q I4 r1 (Heap.IsSliceOf.new ..) pl pu q3
 show wpAny (model X.prog X.w) X.A (subscriptTail e (.Slice lo hi none p2) v (.ref s3.heap.objs.size)) (EP X pins σ Q) X.xe { s3 with heap:=s3.heap.push { cls:=.type "slice",data:=.fields #[vl,vu,.none] } }
 exact tail_any (ops:=[.ref s3.heap.objs.size,v]) ht hT hg (by with_unfolding_all rfl)
def cutV (xs:List V)(lo hi:Option Int):List V:=(xs.drop (HT.sIx xs.length 0 lo)).take (HT.sIx xs.length xs.length hi - HT.sIx xs.length 0 lo)
theorem fB (xs:List V)(lo hi:Option Int):(cutV xs lo hi).length≤xs.length:=by
 unfold cutV
 rw[List.length_take,List.length_drop]
 omega
def rSlT (K:PySem.W.Frag):V→Option Int→Option Int→Hp→VK→Prop:=fun x lo hi H Q=>∃ a xs,x=.ref a∧SqT K H a xs ∧
 ¬ (HT.sIx xs.length 0 lo=0∧HT.sIx xs.length xs.length hi=xs.length)∧∀ p,H p=none→Q (.ref p) (upd H p (.tup (cutV xs lo hi)))
theorem tG:SlR X (rSlT X.K):=by
 intro pins s σ H x v vl vu lo hi sl Q I rx hs pl pu h
 obtain⟨a,xs,rfl,hx,hw,q⟩:=h
 cases rx
 obtain⟨its,r,ht,hz⟩:=I.tuple hx
 have hlen:its.toArray.size=xs.length:=by rw[List.size_toArray];exact r.length.symm
 refine⟨"tuple",_,PyProof.Rows.slot_tuple_getitem.lookup,ht.typeIs,?_⟩
 refine HT.dJ ht hs pl pu (by rw[hlen];exact hw) ?_ (by rw[hlen];exact hz)
 rw[hlen]
 refine⟨.ref s.heap.objs.size,_,I.laid (t':=s.toks) (o:=.tup (cutV xs lo hi)) (fun b ob q=>Heap.get?_push_of_some _ q) (Nat.le_refl _) ?_,rfl,q _ (I.hok.fresh (Nat.le_refl _))⟩
 exact⟨Nat.le_trans (fB xs lo hi) hz,_,(r.drop (HT.sIx xs.length 0 lo)).take (HT.sIx xs.length xs.length hi - HT.sIx xs.length 0 lo),TupO.new _ _⟩
def rCatT (K:PySem.W.Frag):R2:=fun x y H Q=>∃ a b xs ys,x=.ref a∧y=.ref b∧SqT K H a xs∧SqT K H b ys∧xs≠[]∧xs.length+ys.length≤sizeLine ∧
 (ys=[]→Q (.ref a) H)∧(ys≠[]→∀ p,H p=none→Q (.ref p) (upd H p (.tup (xs++ys))))
theorem Vals.nil_iff {xs:List V}{us:List Value}(r:Vals xs us):us=[]↔xs=[]:=by
 cases r with
 | nil=>simp
 | cons _ _=>simp
theorem qQ:OpR X (binaryOp .Add) (rCatT X.K):=by
 intro pins s σ H x y v u Q I rx ry h
 obtain⟨a,b,xs,ys,rfl,rfl,ha,hb,hx,hz,q1,q2⟩:=h
 cases rx
 cases ry
 obtain⟨its,r1,p1,_⟩:=I.tuple ha
 obtain⟨its2,r2,p2,_⟩:=I.tuple hb
 refine HT.qN p1 p2 (fun z=>hx (r1.nil_iff.mp z)) (fun z=>⟨.ref a,H,I,rfl,q1 (r2.nil_iff.mp z)⟩) (fun z=>?_) (by rw[← r1.length,← r2.length];exact hz)
 refine⟨.ref s.heap.objs.size,_,I.laid (t':=s.toks) (o:=.tup (xs++ys)) (fun b ob q=>Heap.get?_push_of_some _ q) (Nat.le_refl _) ?_,rfl,q2 (fun w=>z (r2.nil_iff.mpr w)) _ (I.hok.fresh (Nat.le_refl _))⟩
 exact⟨by rw[List.length_append];exact hz,_,r1.append r2,TupO.new _ _⟩
end
end L2
namespace L2
open PySem PySem.Spec PyProof.Rows
def ixN (n:Nat)(i:Int):Option Nat:=if 0≤i then (if i < n then some i.toNat else none) else if -(n:Int)≤i then some (i+n).toNat else none
def atI {α:Type}(xs:List α)(i:Int):Option α:=(ixN xs.length i).bind fun j=>xs[j]?
theorem lY {n:Nat}{i:Int}{j:Nat}(h:ixN n i=some j):seqIndex? i n=some j∧j < n∧-(n:Int)≤i∧i < n:=by
 unfold ixN at h
 by_cases h0:0≤i
 ·rw[if_pos h0]at h
  by_cases h1:i < n
  ·rw[if_pos h1]at h
   have e:i.toNat=j:=Option.some.inj h
   exact⟨by rw[seqIndex_of h0 h1,e],by omega,by omega,h1⟩
  ·rw[if_neg h1]at h;cases h
 ·rw[if_neg h0]at h
  by_cases h1 : -(n:Int)≤i
  ·rw[if_pos h1]at h
   have e:(i+n).toNat=j:=Option.some.inj h
   exact⟨by rw[seqIndex_neg (by omega) h1,e],by omega,h1,by omega⟩
  ·rw[if_neg h1]at h;cases h
theorem jk {α:Type}{xs:List α}{i:Int}{v:α}(h:atI xs i=some v):∃ j,seqIndex? i xs.length=some j∧xs[j]?=some v∧j < xs.length∧-(xs.length:Int)≤i∧i < xs.length:=by
 unfold atI at h
 cases e:ixN xs.length i with
 | none=>rw[e]at h;cases h
 | some j =>
  rw[e]at h
  obtain⟨h1,h2,h3,h4⟩:=lY e
  exact⟨j,h1,h,h2,h3,h4⟩
theorem lZ {α:Type}{xs:List α}{j:Nat}{v:α}(h:xs[j]?=some v):atI xs (j:Int)=some v:=by
 have hj:j < xs.length:=(List.getElem?_eq_some_iff.mp h).1
 have e:ixN xs.length (j:Int)=some j:=by
  unfold ixN
  rw[if_pos (by omega),if_pos (by omega)];simp
 unfold atI;rw[e];exact h
def PlainIx (b:Expr):Prop:=∀ o i,subscripted b false o i=operate [o,i] (getItem o i)
def IxR (X:Cx)(r:R2):Prop :=
 ∀ (value slice:Expr) (pins:List (Addr×Obj)) (s:Shared) (σ:St) (H:Hp) (x y:V) (v u:Value) (Q:VK),Inv X pins σ H s→RelV x v→RelV y u→r x y H Q →
  subscripted slice false v u=operate [v,u] (getItem v u)→wpAny (model X.prog X.w) X.A (subscriptTail value slice v u) (EP X pins σ Q) X.xe s
def MtR (X:Cx)(id:String)(r:V→List V→Hp→VK→Prop):Prop :=
 ∀ (pins:List (Addr×Obj)) (s:Shared) (σ:St) (H:Hp) (x:V) (xs:List V) (v:Value) (us:List Value) (Q:VK),Inv X pins σ H s→RelV x v→Vals xs us→r x xs H Q →
  wpAny (model X.prog X.w) X.A (call (.builtin id) (v::us)) (EP X pins σ Q) X.xe s
section
variable {X:Cx}{a b:Expr}{ta tb:TE}{pos:Pos}
theorem IxR.or {r r':R2}(h:IxR X r)(h':IxR X r'):IxR X (fun x y H Q=>r x y H Q∨r' x y H Q):=by
 intro value slice pins s σ H x y v u Q I rx ry q hs
 rcases q with q | q
 ·exact h value slice pins s σ H x y v u Q I rx ry q hs
 ·exact h' value slice pins s σ H x y v u Q I rx ry q hs
theorem sB {r:R2}(hr:IxR X r)(ha:PE X a ta)(hb:PE X b tb)(hs:PlainIx b):PE X (.Subscript a b pos) (tOp r ta tb):=by
 intro pins s σ H Q I h
 exact Subscript_ (binT ha hb I h fun v u s2 x y H2 I2 rx ry q=>hr a b pins s2 σ H2 x y v u Q I2 rx ry q (hs _ _))
def rIxL (K:PySem.W.Frag):R2:=fun x y H Q=>∃ p xs i v,x=.ref p∧y=.int i∧SqL K H p xs∧atI xs i=some v∧Q v H
def rIxT (K:PySem.W.Frag):R2:=fun x y H Q=>∃ p xs i v,x=.ref p∧y=.int i∧SqT K H p xs∧atI xs i=some v∧Q v H
def rIxS:R2:=fun x y H Q=>∃ z i c,x=.str z∧y=.int i∧z.length≤sizeLine∧atI z.cps.toList i=some c∧Q (.str ⟨#[c]⟩) H
theorem l4:IxR X (rIxL X.K):=by
 intro value slice pins s σ H x y v u Q I rx ry h hs
 obtain⟨p,xs,i,z,rfl,rfl,hq,he,q⟩:=h
 cases rx
 obtain⟨t,rfl⟩:=ry
 obtain⟨its,r,pl,hz⟩:=I.list hq
 obtain⟨j,h1,h2,h3,h4,h5⟩:=jk he
 obtain⟨w,ew,rw'⟩:=r.get h2
 have hl:=r.length
 have hn:=line63
 have fin:EP X pins σ Q w s:=⟨z,H,I,rw',q⟩
 by_cases h0:0≤i
 ·have hj:i.toNat=j:=by
   rw[seqIndex_of h0 h5]at h1
   exact Option.some.inj h1
  exact item_listR pl.isList h0 (by omega) (by rw[hj];simpa using ew) fin hs
 ·have hj:(i+(its.toArray.size:Int)).toNat=j:=by
   rw[seqIndex_neg (by omega) h4]at h1
   rw[List.size_toArray,← hl]
   exact Option.some.inj h1
  exact subscriptTail_builtinR (x:=w) pl.isList.typeIs slot_list_getitem.lookup
   (wpAny_getItem_list_neg (Q:=fun r s'=>r=w∧EP X pins σ Q r s') pl.isList (by omega) (by rw[List.size_toArray]<;>omega) (by omega) (by rw[hj];simpa using ew) ⟨rfl,fin⟩) hs
theorem tH:IxR X (rIxT X.K):=by
 intro value slice pins s σ H x y v u Q I rx ry h hs
 obtain⟨p,xs,i,z,rfl,rfl,hq,he,q⟩:=h
 cases rx
 obtain⟨t,rfl⟩:=ry
 obtain⟨its,r,pl,hz⟩:=I.tuple hq
 obtain⟨j,h1,h2,h3,h4,h5⟩:=jk he
 obtain⟨w,ew,rw'⟩:=r.get h2
 have hl:=r.length
 have hn:=line63
 have fin:EP X pins σ Q w s:=⟨z,H,I,rw',q⟩
 exact subscriptTail_builtinR (x:=w) pl.typeIs slot_tuple_getitem.lookup
  (getItem_tuple (j:=j) (Q:=fun r s'=>r=w∧EP X pins σ Q r s') pl (by omega) (by omega) (by rw[List.size_toArray,← hl];exact h1) (by simpa using ew) ⟨rfl,fin⟩) hs
theorem tJ:IxR X rIxS:=by
 intro value slice pins s σ H x y v u Q I rx ry h hs
 obtain⟨z,i,c,rfl,rfl,hz,he,q⟩:=h
 obtain⟨t,rfl⟩:=rx
 obtain⟨t',rfl⟩:=ry
 obtain⟨j,h1,h2,h3,h4,h5⟩:=jk he
 have hl:z.cps.toList.length=z.length:=by simp[Str.length]
 rw[hl]at h1 h4 h5
 have hn:=line63
 exact tail_any (typeIs_str s z t) slot_str_getitem.lookup (getItem_str (c:=c) (by
  have e1:decide (i < -(2^63:Int))=false:=decide_eq_false (by omega)
  have e2:decide (i≥2^63)=false:=decide_eq_false (by omega)
  rw[e1,e2,Bool.or_false]) (by rw[h1];simpa using h2) ⟨.str ⟨#[c]⟩,H,I.tok _,⟨_,rfl⟩,q⟩) hs
def rIx (K:PySem.W.Frag):R2:=fun x y H Q=>rIxL K x y H Q∨rIxT K x y H Q∨rIxS x y H Q
theorem tK:IxR X (rIx X.K):=l4.or (tH.or tJ)
theorem kO (its:List Value)(n j:Nat)(u:Value):Obj.mapSeq (·.setIfInBounds j u) { cls:=.type "list",data:=.seq its.toArray n }={ cls:=.type "list",data:=.seq (its.set j u).toArray n }:=by
 simp[Obj.mapSeq]
theorem Inv.lst {pins:List (Addr×Obj)}{σ:St}{H:Hp}{s:Shared}{p:Addr}{xs:List V}(I:Inv X pins σ H s)(h:H p=some (.lst xs)) :
  ∃ (its:List Value) (n:Nat),Vals xs its∧s.heap.get? p=some { cls:=.type "list",data:=.seq its.toArray n }∧xs.length≤sizeLine:=by
 obtain⟨z,its,n,r,e⟩:=I.hok p _ h
 exact⟨its,n,r,e,z⟩
theorem Inv.lstUpd {pins:List (Addr×Obj)}{σ:St}{H:Hp}{s:Shared}{p:Addr}{xs ys:List V}{its its':List Value}{n n':Nat}{f:Obj→Obj}(I:Inv X pins σ H s)(h:H p=some (.lst xs))
  (ho:s.heap.get? p=some { cls:=.type "list",data:=.seq its.toArray n }) (hf:f { cls:=.type "list",data:=.seq its.toArray n }={ cls:=.type "list",data:=.seq its'.toArray n' }) (r:Vals ys its') (hz:ys.length≤sizeLine) (t:Nat) :
  Inv X pins σ (upd H p (.lst ys)) { s with heap:=s.heap.update p f,toks:=t }:=by
 have e:(s.heap.update p f).get? p=some { cls:=.type "list",data:=.seq its'.toArray n' }:=by
  rw[Heap.get?_update_self f ho (by rw[hf]<;>rfl),hf]
 refine I.write (x:=p) (e:=p) (by rw[h];trivial) (.inl rfl) (fun b u hb q=>(Heap.get?_update_other _ _ (Ne.symm hb)).trans q) ⟨_,e⟩ ?_
 exact⟨hz,its',n',r,e⟩
def rSetL:V→V→V→Hp→(Hp→Prop)→Prop:=fun o i v H Q=>∃ p xs k j,o=.ref p∧i=.int k∧H p=some (.lst xs)∧ixN xs.length k=some j∧Q (upd H p (.lst (xs.set j v)))
theorem jS:PSet X rSetL:=by
 intro pins s σ H o i v ov iv u Q I ro ri rv h
 obtain⟨p,xs,k,j,rfl,rfl,hp,hj,q⟩:=h
 cases ro
 obtain⟨t,rfl⟩:=ri
 obtain⟨its,n,r,ho,hz⟩:=I.lst hp
 obtain⟨h1,h2,h3,h4⟩:=lY hj
 have hl:=r.length
 have hn:=line63
 have I':Inv X pins σ (upd H p (.lst (xs.set j v))) { s with heap:=s.heap.update p (Obj.mapSeq (·.setIfInBounds j u)) } :=
  I.lstUpd hp ho (kO its n j u) (r.set rv j) (by rw[List.length_set];exact hz) s.toks
 by_cases h0:0≤k
 ·have hk:k.toNat=j:=by
   rw[seqIndex_of h0 h4]at h1
   exact Option.some.inj h1
  exact PySem.W.ki_setAt ho h0 (by omega) (by rw[List.size_toArray,← hl];exact h4) (by rw[hk];exact⟨_,I',q⟩)
 ·have hk:(k+(its.toArray.size:Int)).toNat=j:=by
   rw[seqIndex_neg (by omega) h3]at h1
   rw[List.size_toArray,← hl]
   exact Option.some.inj h1
  exact PySem.W.ki_setBack ho (by omega) (by rw[List.size_toArray,← hl];exact h3) (by omega) (by rw[hk];exact⟨_,I',q⟩)
theorem jl (lo hi:Option Int)(n:Nat):(sliceBounds lo hi none n).1=((HT.sIx n 0 lo:Nat):Int)∧(sliceBounds lo hi none n).2.1=((HT.sIx n n hi:Nat):Int)∧(sliceBounds lo hi none n).2.2=1:=by
 refine⟨?_,?_,rfl⟩
 ·cases lo with
  | none=>simp[sliceBounds,HT.sIx]
  | some i =>
   simp only[sliceBounds,HT.sIx,Option.getD_none,show (1:Int) > 0 by decide,if_true]
   by_cases h:i < 0
   ·simp only[h,if_true]<;>omega
   ·simp only[h,if_false]<;>omega
 ·cases hi with
  | none=>simp[sliceBounds,HT.sIx]
  | some i =>
   simp only[sliceBounds,HT.sIx,Option.getD_none,show (1:Int) > 0 by decide,if_true]
   by_cases h:i < 0
   ·simp only[h,if_true]<;>omega
   ·simp only[h,if_false]<;>omega
theorem iq (its:List Value)(lo hi:Option Int):slicePick its.toArray lo hi none=((its.drop (HT.sIx its.length 0 lo)).take (HT.sIx its.length its.length hi - HT.sIx its.length 0 lo)).toArray:=by
 obtain⟨h1,h2,h3⟩:=jl lo hi its.toArray.size
 unfold slicePick
 rw[h1,h2,h3]
 simp only[sliceRange_one,pick_run,List.size_toArray]<;>rfl
def rSlL (K:PySem.W.Frag):V→Option Int→Option Int→Hp→VK→Prop:=fun x lo hi H Q=>∃ a xs,x=.ref a∧SqL K H a xs∧∀ p,H p=none→Q (.ref p) (upd H p (.lst (cutV xs lo hi)))
theorem qR:SlR X (rSlL X.K):=by
 intro pins s σ H x v vl vu lo hi sl Q I rx hs pl pu h
 obtain⟨a,xs,rfl,hx,q⟩:=h
 cases rx
 obtain⟨its,r,ht,hz⟩:=I.list hx
 have hlen:=r.length
 refine⟨"list",_,slot_list_getitem.lookup,ht.isList.typeIs,?_⟩
 refine wpAny_getItem_list_slice ht.isList hs pl pu .none (by simp) ?_ (by rw[List.size_toArray]<;>omega)
 rw[iq,← hlen]
 refine⟨.ref s.heap.objs.size,_,I.laid (t':=s.toks) (o:=.lst (cutV xs lo hi)) (fun b ob q=>Heap.get?_push_of_some _ q) (Nat.le_refl _) ?_,rfl,q _ (I.hok.fresh (Nat.le_refl _))⟩
 exact⟨Nat.le_trans (fB xs lo hi) hz,_,0,(r.drop (HT.sIx xs.length 0 lo)).take (HT.sIx xs.length xs.length hi - HT.sIx xs.length 0 lo),Heap.get?_push_size _ rfl⟩
def flatV:V→Bool
 | .non=>true
 | .bl _=>true
 | .int _=>true
 | .str _=>true
 | _=>false
def eqV:V→V→Bool
 | .non,.non=>true
 | .bl a,.bl b=>a==b
 | .bl a,.int b=>(if a then 1 else 0)==b
 | .int a,.bl b=>a==(if b then 1 else 0)
 | .int a,.int b=>a==b
 | .str a,.str b=>a==b
 | _,_=>false
theorem oS {A:Around}{s:Shared}{y x:V}{u v:Value}(ry:RelV y u)(rx:RelV x v)(fy:flatV y=true)(fx:flatV x=true):SeqAt.EqAt A s u v (eqV y x):=by
 cases y with
 | non =>
  cases ry
  cases x with
  | non=>cases rx;exact SeqAt.EqAt.same _
  | bl b=>cases rx;exact SeqAt.EqAt.none_bool b
  | int b=>obtain⟨t,rfl⟩:=rx;exact SeqAt.EqAt.none_int b t
  | str b=>obtain⟨t,rfl⟩:=rx;exact SeqAt.EqAt.none_str b t
  | _=>exact absurd (show false=true from fx) Bool.false_ne_true
 | bl a =>
  cases ry
  cases x with
  | non=>cases rx;exact SeqAt.EqAt.bool_none a
  | bl b=>cases rx;exact SeqAt.EqAt.bool_bool a b
  | int b=>obtain⟨t,rfl⟩:=rx;exact SeqAt.EqAt.bool_int a b t
  | str b=>obtain⟨t,rfl⟩:=rx;exact SeqAt.EqAt.bool_str a b t
  | _=>exact absurd (show false=true from fx) Bool.false_ne_true
 | int a =>
  obtain⟨t',rfl⟩:=ry
  cases x with
  | non=>cases rx;exact SeqAt.EqAt.int_none a t'
  | bl b=>cases rx;exact SeqAt.EqAt.int_bool a t' b
  | int b=>obtain⟨t,rfl⟩:=rx;exact SeqAt.EqAt.int_int a t' b t
  | str b=>obtain⟨t,rfl⟩:=rx;exact SeqAt.EqAt.int_str a t' b t
  | _=>exact absurd (show false=true from fx) Bool.false_ne_true
 | str a =>
  obtain⟨t',rfl⟩:=ry
  cases x with
  | non=>cases rx;exact SeqAt.EqAt.str_none a t'
  | bl b=>cases rx;exact SeqAt.EqAt.str_bool a t' b
  | int b=>obtain⟨t,rfl⟩:=rx;exact SeqAt.EqAt.str_int a t' b t
  | str b=>obtain⟨t,rfl⟩:=rx;exact SeqAt.EqAt.str_str a t' b t
  | _=>exact absurd (show false=true from fx) Bool.false_ne_true
 | _=>exact absurd (show false=true from fy) Bool.false_ne_true
theorem dL:CallR X (.builtin "len") (fun xs H Q=>∃ p ys,xs=[.ref p]∧(SqL X.K H p ys∨SqT X.K H p ys)∧Q (.int ys.length) H):=by
 intro pins s σ H xs us Q I r h
 obtain⟨p,ys,rfl,hq,q⟩:=h
 obtain⟨u,rfl,rx⟩:=vals1 r
 cases rx
 have hn:=line63
 rcases hq with hq | hq
 ·obtain⟨its,r',pl,hz⟩:=I.list hq
  have hlen:=r'.length
  exact Calls.call_len_list pl.isList (by simp only[List.size_toArray]<;>omega) ⟨.int ys.length,H,I.tok _,⟨s.toks+1,by rw[List.size_toArray,hlen]⟩,q⟩
 ·obtain⟨its,r',pl,hz⟩:=I.tuple hq
  have hlen:=r'.length
  exact len_tuple pl (by simp only[List.size_toArray]<;>omega) ⟨.int ys.length,H,I.tok _,⟨s.toks+1,by rw[List.size_toArray,hlen]⟩,q⟩
theorem jm:CallR X (.type "list") (fun xs H Q=>∃ p ys,xs=[.ref p]∧(SqL X.K H p ys∨SqT X.K H p ys)∧∀ l,H l=none→Q (.ref l) (upd H l (.lst ys))):=by
 intro pins s σ H xs us Q I r h
 obtain⟨p,ys,rfl,hq,q⟩:=h
 obtain⟨u,rfl,rx⟩:=vals1 r
 cases rx
 have fin:∀ (its:List Value),Vals ys its→ys.length≤sizeLine→∀ (h':Heap) (c':Nat),(∀ b o',s.heap.get? b=some o'→h'.get? b=some o') →
   h'.get? s.heap.objs.size=some { cls:=.type "list",dict:=none,data:=.seq its.toArray c',slots:=#[] }→EP X pins σ Q (.ref s.heap.objs.size) { s with heap:=h' }:=fun its r' hz h' c' kp e =>
  ⟨.ref s.heap.objs.size,_,I.laid (t':=s.toks) kp (Nat.le_refl _) (show ObjOk X.prog X.w _ h' _ (.lst ys) from ⟨hz,its,c',r',e⟩),rfl,q _ (I.hok.fresh (Nat.le_refl _))⟩
 rcases hq with hq | hq
 ·obtain⟨its,r',pl,hz⟩:=I.list hq
  have hlen:=r'.length
  obtain⟨o,ho,hc,n,hd⟩:=pl.isList
  exact call_list_seq p (.inl rfl) ho hc hd (fun h' c' kp e=>fin its r' hz h' c' kp e) (by simp only[List.size_toArray]<;>omega)
 ·obtain⟨its,r',pl,hz⟩:=I.tuple hq
  have hlen:=r'.length
  obtain⟨o,ho,hc,n,hd⟩:=pl
  exact call_list_seq p (.inr rfl) ho hc hd (fun h' c' kp e=>fin its r' hz h' c' kp e) (by simp only[List.size_toArray]<;>omega)
theorem ir:CallR X (.type "tuple") (fun xs H Q=>∃ p ys,xs=[.ref p]∧((SqL X.K H p ys∧∀ l,H l=none→Q (.ref l) (upd H l (.tup ys)))∨(SqT X.K H p ys∧Q (.ref p) H))):=by
 intro pins s σ H xs us Q I r h
 obtain⟨p,ys,rfl,h⟩:=h
 obtain⟨u,rfl,rx⟩:=vals1 r
 cases rx
 rcases h with ⟨hq,q⟩ | ⟨hq,q⟩
 ·obtain⟨its,r',pl,hz⟩:=I.list hq
  have hlen:=r'.length
  refine call_tuple_list pl.isList (fun h' kp=>?_) (by simp only[List.size_toArray]<;>omega)
  have I1:Inv X pins σ H { s with heap:=h' }:=I.kept (t':=s.toks) kp
  have I2:Inv X pins σ (upd H h'.objs.size (.tup ys)) { s with heap:=h'.push { cls:=.type "tuple",data:=.seq its.toArray } } :=
   I1.laid (t':=s.toks) (fun b o e=>Heap.get?_push_of_some _ e) (Nat.le_refl _) (show ObjOk X.prog X.w _ _ _ (.tup ys) from ⟨hz,its,r',TupO.new _ _⟩)
  exact⟨.ref h'.objs.size,_,I2,rfl,q _ (I1.hok.fresh (Nat.le_refl _))⟩
 ·obtain⟨its,r',pl,hz⟩:=I.tuple hq
  exact call_tuple_same pl ⟨.ref p,H,I,rfl,q⟩
def tyV (K:PySem.W.Frag)(T:String)(x:V)(H:Hp):Prop:=match x with
 | .str _=>T="str"
 | .int _=>T="int"
 | .ref p=>(T="list" ∧ ∃ xs,SqL K H p xs)∨(T="tuple" ∧ ∃ o,K.lookup p=some o∧o.cls=.type "tuple" ∧ o.dict=none) ∨
   (T="dict" ∧ ((∃ kvs,H p=some (.dK kvs))∨∃ kvs,H p=some (.dT kvs)))∨(T="set" ∧ ∃ S n,H p=some (.set S n))
 | _=>False
theorem tM {pins:List (Addr×Obj)}{σ:St}{H:Hp}{s:Shared}{T:String}{x:V}{v:Value}(I:Inv X pins σ H s)(r:RelV x v)(ty:tyV X.K T x H) :
  s.TypeIs v T∧∀ a,v=.ref a→∃ ob,s.heap.get? a=some ob∧ob.dict=none:=by
 cases x with
 | str z =>
  obtain⟨t,rfl⟩:=r
  cases (show T="str" from ty)
  exact⟨typeIs_str s z t,fun _ e=>nomatch e⟩
 | int i =>
  obtain⟨t,rfl⟩:=r
  cases (show T="int" from ty)
  exact⟨typeIs_int s i t,fun _ e=>nomatch e⟩
 | ref p =>
  cases r
  rcases ty with ⟨rfl,xs,hq⟩ | ⟨rfl,o,hk,hc,hd⟩ | ⟨rfl,hk⟩ | ⟨rfl,S,n,hk⟩
  ·obtain⟨its,_,pl,_⟩:=I.list hq
   refine⟨pl.isList.typeIs,fun a e=>?_⟩
   cases e
   obtain⟨o,n,e,c,hd,_⟩:=pl
   exact⟨o,e,hd⟩
  ·refine⟨⟨o,I.kIn p o hk,hc⟩,fun a e=>?_⟩
   cases e
   exact⟨o,I.kIn _ o hk,hd⟩
  ·have z:∃ o,s.heap.get? p=some o∧o.ExactDict:=by
    rcases hk with ⟨kvs,hk⟩ | ⟨kvs,hk⟩
    ·obtain⟨_,_,_,_,o,_,_,e,ex,_⟩:=I.hok p _ hk
     exact⟨o,e,ex⟩
    ·obtain⟨_,_,_,_,o,_,_,e,ex,_⟩:=I.hok p _ hk
     exact⟨o,e,ex⟩
   obtain⟨o,e,ex⟩:=z
   refine⟨⟨o,e,ex.1⟩,fun a e2=>?_⟩
   cases e2
   exact⟨o,e,ex.2.1⟩
  ·obtain⟨o,_,_,_,e,ex,_⟩:=I.hok p _ hk
   refine⟨⟨o,e,ex.1⟩,fun a e2=>?_⟩
   cases e2
   exact⟨o,e,ex.2.1⟩
 | _=>exact False.elim ty
def tBM (K:PySem.W.Frag)(T:String)(r:V→List V→Hp→VK→Prop)(to:TE)(t:TA):TE:=fun σ H Q=>to σ H fun x H1=>tyV K T x H1∧t σ H1 fun xs H2=>r x xs H2 Q
variable {o e:Expr}{es:List Expr}{to:TE}{t:TA}{name:Str}{apos cpos:Pos}{T id:String}{r:V→List V→Hp→VK→Prop}
theorem fC (pa:PlainAttrs T)(slot:Slot T name id)(hty:typeOf (.builtin id)=pure (.type "method_descriptor"))(hm:MtR X id r)(ho:PE X o to)(ha:PA X (e::es) t)
  (hbase:attributeBase o name X.env (eval o X.env)=eval o X.env:=by rfl)
  (hfew:((backTo cpos (starEach (e::es) X.env)).all (fun x=>!x.1)&&(backToKw cpos (keywordEach [] X.env)).all (fun x=>x.1.isSome)
   && decide ((e::es).length+([]:List Keyword).length+(if ([]:List Keyword).isEmpty then 0 else 1) < 30))=true:=by rfl)
  (hline:(apos.endLine==cpos.line)=true:=by rfl) (hs:starEach (e::es) X.env=(false,eval e X.env)::starEach es X.env:=by rfl) (hplain:(backTo cpos (starEach es X.env)).any (·.1)=false:=by rfl) :
  PE X (.Call (.Attribute o name apos) (e::es) [] cpos) (tBM X.K T r to t):=by
 intro pins s σ H Q I h
 refine wpAny_Call_method_late hbase hfew hline rfl (thn (ho pins s σ H _ I h) fun v s1 ⟨x,H1,I1,r1,ty,q1⟩=>?_)
 obtain⟨h1,h2⟩:=tM I1 r1 ty
 refine⟨T,id,pa,slot,hty,h1,h2,?_⟩
 have hA:=ha cpos pins s1 σ H1 _ I1 q1
 rw[hs]at hA ⊢
 refine Calls.callWith_builtin (by show (false||(backTo cpos (starEach es X.env)).any (·.1))=false;rw[hplain]<;>rfl) (Calls.evalArgs_plain ?_)
 exact thn hA fun us s2 ⟨vs,H2,I2,r2,q2⟩=>hm pins s2 σ H2 x vs v us Q I2 r1 r2 q2
end
end L2
namespace L2
open PySem PySem.Spec PyProof.Rows
def MtM (X:Cx)(id:String)(r:V→List V→Hp→VK→Prop):Prop :=
 ∀ (pins:List (Addr×Obj)) (s:Shared) (σ:St) (H:Hp) (x:V) (xs:List V) (v:Value) (us:List Value) (Q:VK),Inv X pins σ H s→RelV x v→Vals xs us→r x xs H Q →
  wpAny (model X.prog X.w) X.A (call (.builtin id) (v::us)) (EP X pins σ Q) X.xe s
theorem Vals.one:∀ {x:V} {us:List Value},Vals [x] us→∃ u,us=[u]∧RelV x u
 | _,_,.cons r .nil=>⟨_,rfl,r⟩
theorem Vals.rep {xs:List V}{us:List Value}(h:Vals xs us):∀ k:Nat,Vals (List.replicate k xs).flatten (List.replicate k us).flatten
 | 0=>.nil
 | k+1=>by
  rw[List.replicate_succ,List.replicate_succ,List.flatten_cons,List.flatten_cons]
  exact Vals.append h (Vals.rep h k)
theorem eN (its:List Value):∀ (k:Nat) (acc:List Value),
  List.foldl (fun x1 x2=>x1++x2) acc.toArray (List.replicate k its.toArray)=(acc++(List.replicate k its).flatten).toArray
 | 0,acc=>by simp
 | k+1,acc=>by
  have e:acc.toArray++its.toArray=(acc++its).toArray:=by simp
  have e2:(acc++its)++(List.replicate k its).flatten=acc++(List.replicate (k+1) its).flatten:=by
   rw[List.replicate_succ,List.flatten_cons,List.append_assoc]
  rw[← e2,← eN its k (acc++its),← e,List.replicate_succ,List.foldl_cons]
section
variable {X:Cx}{pins:List (Addr×Obj)}{σ:St}{H:Hp}{s:Shared}{l b:Addr}{xs ys zs:List V}
theorem Inv.lset {its its':List Value}{n:Nat}{f:Array Value→Array Value}{t':Nat}(I:Inv X pins σ H s)(hH:H l=some (.lst xs))
  (e:s.heap.get? l=some { cls:=.type "list",data:=.seq its.toArray n }) (hf:f its.toArray=its'.toArray) (hv:Vals ys its') (hz:ys.length≤sizeLine) :
  Inv X pins σ (upd H l (.lst ys)) { s with heap:=s.heap.update l (Obj.mapSeq f),toks:=t' }:=by
 have q:=PySem.IsL.update e f
 rw[hf]at q
 refine I.write (x:=l) (e:=l) (by rw[hH];exact trivial) (.inl rfl) (fun b' u hb hu=>(Heap.get?_update_other s.heap (Obj.mapSeq f) (Ne.symm hb)).trans hu) ⟨_,q⟩ ?_
 exact⟨hz,its',_,hv,q⟩
theorem Inv.lnew {its:List Value}{t':Nat}(I:Inv X pins σ H s)(hv:Vals ys its)(hz:ys.length≤sizeLine) :
  Inv X pins σ (upd H s.heap.objs.size (.lst ys)) { s with heap:=s.heap.push { cls:=.type "list",data:=.seq its.toArray },toks:=t' } :=
 I.laid (fun _ _ q=>Heap.get?_push_of_some _ q) (Nat.le_refl _) ⟨hz,its,0,hv,Heap.get?_push_size _ rfl⟩
theorem Inv.fresh (I:Inv X pins σ H s):H s.heap.objs.size=none:=I.hok.fresh (Nat.le_refl _)
theorem Inv.lstM (I:Inv X pins σ H s)(hH:H l=some (.lst xs)):xs.length≤sizeLine∧∃ (its:List Value) (n:Nat),Vals xs its∧xs.length=its.length∧s.heap.get? l=some { cls:=.type "list",data:=.seq its.toArray n }:=by
 obtain⟨z,its,n,r,e⟩:=I.hok l _ hH
 exact⟨z,its,n,r,r.length,e⟩
theorem notLongL {n:Nat}(h:n≤sizeLine):Builtin.List.listTooLong n=false:=by
 unfold Builtin.List.listTooLong
 exact decide_eq_false (by omega)
end
section
variable {X:Cx}
def rAppend:V→List V→Hp→VK→Prop:=fun x vs H Q=>∃ l xs y,x=.ref l∧vs=[y]∧H l=some (.lst xs)∧xs.length < sizeLine∧Q .non (upd H l (.lst (xs++[y])))
theorem eO:MtM X "list.append" rAppend:=by
 intro pins s σ H x vs v us Q I rx rv h
 obtain⟨l,xs,y,rfl,rfl,hH,hz,q⟩:=h
 cases rx
 obtain⟨u,rfl,ru⟩:=rv.one
 obtain⟨z,its,n,r,hl,e⟩:=I.lstM hH
 refine call_meets F.slot_list_append ⟨_,e,rfl⟩ F.entry_list_append (F.args_list_append_2 _ _) (PySem.list_append l its.toArray n u (by rw[List.size_toArray];omega)) ⟨e,?_⟩
 refine⟨.non,_,I.lset (its':=its++[u]) hH e (by simp) (r.append (.cons ru .nil)) ?_,rfl,q⟩
 rw[List.length_append,List.length_singleton]
 omega
theorem l5 {α:Type}(xs:List α)(k:Nat):(List.replicate k xs).flatten.length=k*xs.length:=by
 induction k with
 | zero=>simp
 | succ k ih=>rw[List.replicate_succ,List.flatten_cons,List.length_append,ih,Nat.succ_mul,Nat.add_comm]
end
section
variable {prog:Program}{w:World}{A:Around}{E:Value→Shared→Prop}{s:Shared}
set_option maxRecDepth 100000 in
end
section
variable {X:Cx}
end
end L2
namespace Att
open PySem PySem.W PySem.Calls PyProof.Rows
theorem fV {P:Params}{h:Heap}:∀ (ns:List Int) (vs:List Value),WellAll P h vs (ns.map WData.int)→IntsAre vs ns:=by
 intro ns
 induction ns with
 | nil =>
  intro vs w
  rw[List.map_nil]at w
  cases w
  exact .nil
 | cons n ns ih =>
  intro vs w
  rw[List.map_cons]at w
  cases w with
  | cons a b =>
   cases a
   exact .cons _ _ (ih _ b)
theorem mT {l:OpenLaw}{n:Nat}(hn:l.most=some n){P:Params}{h:Heap}{args:List WData}{vals:List Value}
  (hpre:l.row.toRowW.claim.pre args=true) (hwl:WellAll P h vals args) :
  ∃ a vs ns,vals=[Value.ref a]∧args=[WData.list (ns.map WData.int)]∧h.get? a=some { cls:=.type "list",data:=.seq vs.toArray }∧IntsAre vs ns∧ns.length≤n:=by
 have hsh:WShape.hasAll [] args [.list .int]=true:=(pre_splitW hpre).1
 have hc:l.pre.holds [] { args:=args }=true:=(pre_splitW hpre).2
 obtain⟨d,r,rfl,h1,h2⟩:=hasAllW_cons hsh
 obtain rfl:=hasAllW_nil h2
 obtain⟨xs,rfl,h3⟩:=hasW_list h1
 obtain⟨ns,rfl⟩:=items_int h3
 have hlen:ns.length≤n:=by
  unfold OpenLaw.pre at hc
  have h4:(WTm.not (.lt (.lit (.int (n:Int))) (.len (.arg 0)))).holds [] { args:=[.list (ns.map .int)] }=true:=by
   have h4:=(holds_andW hc).1
   rw[hn]at h4
   exact h4
  have h5:=condW_of h4 (w_not (w_lt w_lit (w_len_list (w_arg rfl))))
  rw[List.length_map]at h5
  refine Nat.le_of_not_lt fun q=>?_
  have q':(n:Int) < ((ns.length:Nat):Int):=by omega
  first
   | (rw[decide_eq_true q']at h5;exact absurd h5 (by decide))
   | (simp at h5;omega)
 cases hwl with
 | cons w1 w2 =>
  cases w2
  cases w1 with
  | list ho hall=>exact⟨_,_,ns,rfl,rfl,ho,fV ns _ hall,hlen⟩
theorem mU (l:OpenLaw)(args:List WData):l.row.toRowW.claim.post args (.bool true) args=true :=
 postW_of (r:=l.row.toRowW) (X:=(true==true))
  (show WShape.has [] (.bool true) .bool=true by first | rfl | decide | simp[WShape.has,WShape.arms,WShape.armsAll])
  (show (WTm.eq .res (.lit (.bool true))).value [] { args:=args,res:=some (.bool true),after:=args }=some (.bool (true==true)) from w_eq_bool (w_res rfl) w_lit) rfl
theorem attach_call {l:OpenLaw}{n:Nat}{q:Program}{loose:List Str}{XP:(Str→Option Value)→Heap→Prop}{YP:World→Heap→Prop}{d:DefRec}
  (hn:l.most=some n) (hdf:d.params.defaults=[])
  (call:∀ (w:World) (s₀ s₁:Shared) (mg mb:Str→Option Value) (fa:Addr) (o:Obj) (pm cd doc:Value) (a:Addr) (vs:List Value) (ns:List Int),
   Ground q loose [] XP w s₀ mg mb s₁.heap→YP w s₁.heap →
   s₁.heap.get? fa=some o→o.data=.func (docDef d.name d.params d.body d.scope pm cd doc)→s₁.heap.CodeRec cd d.name→mg d.name=some (.ref fa) →
   s₁.heap.get? a=some { cls:=.type "list",data:=.seq vs.toArray }→IntsAre vs ns→ns.length≤n→s₁.gens = #[] →
   codeAny (model l.prog w) callerA (.call (.ref fa) ⟨[.ref a],[]⟩) (fun r s'=>r=.ok (.ret (.bool true))∧OldK s₁.heap s'.heap∧s'.os=s₁.os∧AllBare s'.gens) s₁) :
  WalkO q loose XP YP l.row.toRowW d [] (fun f vs=>PySem.call f vs):=by
 intro w s₀ s₁ mg mb G Y fa o pm cd doc dV kV ho hd hcd hD hmg hg args vals as hpre hlay hrd hwl hlo
 obtain rfl:dV=.none:=Dflts.none hD hdf
 obtain rfl:kV=.none:=Dflts.noKw hD
 obtain⟨a,vs,ns,rfl,rfl,hobj,hints,hlen⟩:=mT hn hpre hwl
 refine enter_call (codeAny_mono (call w s₀ s₁ mg mb fa o pm cd doc a vs ns G Y ho (fd_plain hd) hcd hmg hobj hints hlen hg) fun r s' hq=>?_)
 obtain⟨rfl,h2,h3,h4⟩:=hq
 exact⟨.inl ⟨.bool true,.bool true,[],rfl,fun _=>rfl,.bool true,mU l _,fun _=>⟨List.Pairwise.nil,fun _ hm=>(nomatch hm)⟩⟩,h2,h3,h4⟩
section
variable {prog:Program}{w:World}{A:Around}{E:Value→Shared→Prop}{s:Shared}{K:Frag}
theorem uz {x C:Addr}{ox:Obj}{es:List DictEntry}{n:Nat}{name:Str}{expr:Bool}{v:Value}{Q:Value→Shared→Prop}
  (X:K.In s.heap) (I:PySem.W.InstAt s.heap x ox C (some (dictOf es n))) (hg:plainGet K C name=true) (hh:hasDictIn K C=true) (ha:findIn K (.ref C) name=some none)
  (hl:getL name es=some (some v)) (hv:handedIn v=true) (h:Q v { s with toks:=s.toks+1 }):wpAny (model prog w) A (getAttr (.ref x) name expr) Q E s :=
 get_value X I (plainGet_of hg).1 (findObj_own hh ha rfl hl) hv h
end
end Att
namespace L2
open PySem PySem.Spec PyProof.Rows
theorem bG:∀ {vs:List Value} {ns:List Int},IntsAre vs ns→Vals (ns.map V.int) vs
 | _,_,.nil=>.nil
 | _,_,.cons n t h=>.cons ⟨t,rfl⟩ (bG h)
end L2
namespace L2
open PySem PySem.Spec PyProof.Rows
end L2
namespace L2
open PySem PySem.Spec PyProof.Rows
def defArgs (s:Stmt):Arguments:=match s with
 | .FunctionDef _ a _ _ _ _ _ _ _ _=>a
 | _=>{ posonlyargs:=[],args:=[],vararg:=none,kwonlyargs:=[],kw_defaults:=[],kwarg:=none,defaults:=[] }
def defBody (s:Stmt):List Stmt:=match s with
 | .FunctionDef _ _ b _ _ _ _ _ _ _=>b
 | _=>[]
def defScope (s:Stmt):Scope:=match s with
 | .FunctionDef _ _ _ _ _ _ sc _ _ _=>sc
 | _=>{ kind:=.function,names:=[],isGenerator:=false,isCoroutine:=false }
abbrev CX0:CXT:=fun _ _ _ _ _ _=>False
abbrev E0:XK:=fun _ _ _=>False
structure Fun (K:PySem.W.Frag)(x qual:Str)(st:Stmt)(f:Addr)(fd:FuncData):Prop where
 ex:∃ (oc:Value) (od:Option Addr) (kV doc pm:Value) (an:Option Addr) (cdv ct:Value) (osl:Array (Option Value)),
  fd=PySem.W.fnOf x qual (defArgs st) (defBody st) (defScope st) .none kV doc pm an cdv ct∧K.lookup f=some ⟨oc,od,.func fd,osl⟩∧PySem.W.codeIn K cdv qual=true
 kp:PySem.W.keepIn K (.ref f)=true
section
variable {P:Program}{w:World}{K:PySem.W.Frag}{mg:Str→Option Value}{base:Heap}
theorem Fun.binds {x qual:Str}{st:Stmt}{f:Addr}{fd:FuncData}{ps:List Str}(F:Fun K x qual st f fd)
  (h:∀ (kV doc pm:Value) (an:Option Addr) (cdv ct:Value) (us:List Value),us.length=ps.length→bindArgs (PySem.W.fnOf x qual (defArgs st) (defBody st) (defScope st) .none kV doc pm an cdv ct) ⟨us,[]⟩=pure (ps.zip us)):Binds K fd ps []:=by
 obtain⟨oc,od,kV,doc,pm,an,cdv,ct,osl,rfl,lk,hcd⟩:=F.ex
 exact .all (h kV doc pm an cdv ct)
theorem kP {x qual:Str}{st:Stmt}{f:Addr}{oc:Value}{od an:Option Addr}{osl:Array (Option Value)}{kV doc pm cdv ct:Value}(l:K.lookup f=some ⟨oc,od,.func (PySem.W.fnOf x qual (defArgs st) (defBody st) (defScope st) .none kV doc pm an cdv ct),osl⟩)
  (c:PySem.W.codeIn K cdv qual=true) (k:PySem.W.keepIn K (.ref f)=true):Fun K x qual st f (PySem.W.fnOf x qual (defArgs st) (defBody st) (defScope st) .none kV doc pm an cdv ct):=⟨⟨oc,od,kV,doc,pm,an,cdv,ct,osl,rfl,l,c⟩,k⟩
end
section
variable {X:Cx}
end
def Same (H H':Hp):Prop:=∀ b o,H b=some o→H' b=some o
theorem Same.refl (H:Hp):Same H H:=fun _ _ h=>h
theorem Same.trans {H H1 H2:Hp}(a:Same H H1)(b:Same H1 H2):Same H H2:=fun c o h=>b c o (a c o h)
theorem Same.free {H H':Hp}(e:Same H H'){l:Addr}(h:H' l=Option.none):H l=Option.none:=by
 cases q:H l with
 | none=>rfl
 | some o =>
  rw[e l o q]at h
  cases h
theorem Same.seq {K:PySem.W.Frag}{H H':Hp}{a:Addr}{xs:List V}(e:Same H H')(h:SqL K H a xs):SqL K H' a xs:=by
 rcases h with (h | ⟨o,h⟩) | h
 ·exact .inl (.inl (e _ _ h))
 ·exact .inl (.inr ⟨o,e _ _ h⟩)
 ·exact .inr h
end L2
end
noncomputable section
namespace FF
abbrev St:=L2.St
end FF
namespace FF
open PySem
open AutoSeq1 (wpAny_loadPart')
theorem eQ:fillsNumberSlot (.type "tuple") "mul"=pure false :=
 fillsNumberSlot_seq (id := "tuple.__mul__") (r:=some (.builtin "tuple.__rmul__")) F.slot_tuple_mul.lookup (by decide +kernel) F.slot_tuple_rmul.lookup (by decide +kernel)
theorem jn:seqRepeat? (.type "tuple")=pure (some (.builtin "tuple.__mul__")):=by
 unfold seqRepeat?
 rw[seqSlot_of (T := "tuple") (name := "__mul__") (id := "tuple.__mul__") F.slot_tuple_mul.lookup (by decide +kernel),seqSlot_of (T := "tuple") (name := "__rmul__") (id := "tuple.__rmul__") F.slot_tuple_rmul.lookup (by decide +kernel)]
 rfl
theorem gA (a:Int)(t:Tok)(l:Addr)(items:Array Value)(n:Nat)(dd:Option Addr)(sl:Array (Option Value)) :
  Meets (Builtin.«int.__rmul__» ⟨[.int a t,.ref l],[]⟩) (fun _ R s=>s.heap.get? l=some { cls:=.type "tuple",dict:=dd,data:=.seq items n,slots:=sl }∧R (.ok (.ret Value.notImplemented)) s) :=
 .of_wp fun prog w A R s h=>by obtain⟨hp,g,d,tk,os⟩:=s;obtain⟨hl,h⟩:=h;wp_walk;exact⟨_,rfl,h⟩
theorem iu (l:Addr)(items:Array Value)(n:Nat)(k:Int)(t:Tok)(dd:Option Addr)(sl:Array (Option Value))(h0:2≤k)(h1:k < 1000000)(hsz:items.size*k.toNat≤sizeLine)(hne:items.isEmpty=false) :
  Meets (Builtin.«tuple.__mul__» ⟨[.ref l,.int k t],[]⟩) (fun _ R s=>s.heap.get? l=some { cls:=.type "tuple",dict:=dd,data:=.seq items n,slots:=sl } ∧
   R (.ok (.ret (.ref s.heap.objs.size))) { s with heap:=s.heap.push { cls:=.type "tuple",data:=.seq (List.foldl (fun x1 x2=>x1++x2) #[] (List.replicate k.toNat items)) } }) :=
 .of_wp fun prog w A R s h=>by
  obtain⟨hp,g,d,tk,os⟩:=s;obtain⟨hl,h⟩:=h
  have f1:=AutoSeq1.idx_int
  have f2:=AutoSeq1.sub_tuple_tuple
  have c0:¬ (decide (k < -2^63)||decide (k≥2^63))=true:=by
   simp only[Bool.or_eq_true,decide_eq_true_eq];omega
  have c1:¬ (items.isEmpty||k==1)=true:=by
   rw[hne,Bool.false_or,beq_iff_eq];omega
  have c2:¬ (decide (k≤0)||items.isEmpty)=true:=by
   rw[hne,Bool.or_false,decide_eq_true_eq];omega
  have hs:sizeLine=16777216:=sizeLine_eq
  have hk:(items.size:Int)*k=((items.size*k.toNat:Nat):Int):=by
   rw[Int.natCast_mul,Int.toNat_of_nonneg (by omega)]
  have c3:¬ ((items.size:Int)*k > (2^63 - 1)/8):=by
   rw[hk];omega
  have c4:¬ Builtin.Tuple.tupleTooMany ((items.size:Int)*k)=true:=by
   rw[hk]
   unfold Builtin.Tuple.tupleTooMany
   simp only[decide_eq_true_eq]
   omega
  have hlen:(List.foldl (fun x1 x2=>x1++x2) #[] (List.replicate k.toNat items)).size≤sizeLine:=by
   have:∀ (m:Nat) (acc:Array Value),(List.foldl (fun x1 x2=>x1++x2) acc (List.replicate m items)).size=acc.size+m*items.size:=by
    intro m
    induction m with
    | zero=>intro acc;simp
    | succ m ih=>intro acc;rw[List.replicate_succ,List.foldl_cons,ih,Array.size_append,Nat.succ_mul];omega
   rw[this,Nat.mul_comm];simpa using hsz
  unfold Builtin.«tuple.__mul__»
  wp_walk using wpAny_loadPart' hl
  rw[if_neg c0]
  wp_walk using wpAny_loadPart' hl
  rw[if_neg c1]
  try wp_walk using wpAny_loadPart' hl
  rw[if_neg c2]
  try wp_walk using wpAny_loadPart' hl
  rw[if_neg c3]
  try wp_walk using wpAny_loadPart' hl
  rw[if_neg c4]
  try wp_walk using wpAny_loadPart' hl
  rw[if_neg (Nat.not_lt.mpr hlen)]
  try wp_walk using wpAny_loadPart' hl
  exact⟨_,rfl,h⟩
theorem iw (l:Addr)(items:Array Value)(n:Nat)(t:Tok)(dd:Option Addr)(sl:Array (Option Value)) :
  Meets (Builtin.«tuple.__mul__» ⟨[.ref l,.int 1 t],[]⟩) (fun _ R s=>s.heap.get? l=some { cls:=.type "tuple",dict:=dd,data:=.seq items n,slots:=sl }∧R (.ok (.ret (.ref l))) s) :=
 .of_wp fun prog w A R s h=>by
  obtain⟨hp,g,d,tk,os⟩:=s;obtain⟨hl,h⟩:=h
  have f1:=AutoSeq1.idx_int
  have f2:=AutoSeq1.sub_tuple_tuple
  have c1:(items.isEmpty||(1:Int)==1)=true:=by simp
  unfold Builtin.«tuple.__mul__»
  wp_walk using wpAny_loadPart' hl
  exact⟨_,rfl,h⟩
theorem iy (l:Addr)(n:Nat)(k:Int)(t:Tok)(dd:Option Addr)(sl:Array (Option Value))(h0:0≤k)(h1:k < 1000000) :
  Meets (Builtin.«tuple.__mul__» ⟨[.ref l,.int k t],[]⟩) (fun _ R s=>s.heap.get? l=some { cls:=.type "tuple",dict:=dd,data:=.seq #[] n,slots:=sl }∧R (.ok (.ret (.ref l))) s) :=
 .of_wp fun prog w A R s h=>by
  obtain⟨hp,g,d,tk,os⟩:=s;obtain⟨hl,h⟩:=h
  have f1:=AutoSeq1.idx_int
  have f2:=AutoSeq1.sub_tuple_tuple
  have c0:¬ (decide (k < -2^63)||decide (k≥2^63))=true:=by
   simp only[Bool.or_eq_true,decide_eq_true_eq];omega
  have c1:((#[]:Array Value).isEmpty||k==1)=true:=by simp
  unfold Builtin.«tuple.__mul__»
  wp_walk using wpAny_loadPart' hl
  rw[if_neg c0]
  wp_walk using wpAny_loadPart' hl
  exact⟨_,rfl,h⟩
theorem gC (l:Addr)(items:Array Value)(n:Nat)(t:Tok)(dd:Option Addr)(sl:Array (Option Value))(hne:items.isEmpty=false) :
  Meets (Builtin.«tuple.__mul__» ⟨[.ref l,.int 0 t],[]⟩) (fun _ R s=>s.heap.get? l=some { cls:=.type "tuple",dict:=dd,data:=.seq items n,slots:=sl } ∧
   R (.ok (.ret (.ref s.heap.objs.size))) { s with heap:=s.heap.push { cls:=.type "tuple",data:=.seq #[] } }) :=
 .of_wp fun prog w A R s h=>by
  obtain⟨hp,g,d,tk,os⟩:=s;obtain⟨hl,h⟩:=h
  have f1:=AutoSeq1.idx_int
  have f2:=AutoSeq1.sub_tuple_tuple
  have c1:¬ (items.isEmpty||(0:Int)==1)=true:=by rw[hne];decide
  have c2:(decide ((0:Int)≤0)||items.isEmpty)=true:=by simp
  unfold Builtin.«tuple.__mul__»
  wp_walk using wpAny_loadPart' hl
  exact⟨_,rfl,h⟩
end FF
namespace FF
open PySem
theorem b8 (env:Env):∀ (names:List (Str×NameKind)) (acc:List (Str×Addr)),(∀ y∈names,y.2=.free→∃ c,env.cells.lookup y.1=some c)→(∀ n c,acc.lookup n=some c→env.cells.lookup n=some c) →
  ∃ cl,(forIn names acc fun (x:Str×NameKind) (cs:List (Str×Addr))=>(do
    if x.2==.free then let a ← cellOf env x.1;pure (ForInStep.yield ((x.1,a)::cs)) else pure (ForInStep.yield cs):Sem (ForInStep (List (Str×Addr)))))=pure cl ∧
   (∀ n c,cl.lookup n=some c→env.cells.lookup n=some c)∧(∀ n c,acc.lookup n=some c→∃ c',cl.lookup n=some c')∧(∀ y∈names,y.2=.free→∃ c,cl.lookup y.1=some c)
 | [],acc,_,h=>⟨acc,rfl,h,fun n c e=>⟨c,e⟩,fun _ z=>nomatch z⟩
 | (n,k)::r,acc,hf,h=>by
  by_cases hk:k=.free
  ·subst hk
   obtain⟨c,hc⟩:=hf (n,.free) List.mem_cons_self rfl
   have h':∀ m d,List.lookup m ((n,c)::acc)=some d→env.cells.lookup m=some d:=fun m d e=>by
    by_cases q:(m==n)=true
    ·have q':m=n:=eq_of_beq q
     simp only[List.lookup,q]at e
     cases e
     rw[q'];exact hc
    ·have q':(m==n)=false:=by simpa using q
     simp only[List.lookup,q']at e
     exact h m d e
   obtain⟨cl,e1,e2,e3,e4⟩:=b8 env r ((n,c)::acc) (fun y hy=>hf y (List.mem_cons_of_mem _ hy)) h'
   have self:List.lookup n ((n,c)::acc)=some c:=by simp[List.lookup]
   refine⟨cl,?_,e2,fun m d e=>?_,fun y hy hy2=>?_⟩
   ·rw[List.forIn_cons]
    have:cellOf env n=pure c:=by unfold cellOf;rw[hc]
    simp only[beq_self_eq_true,if_true,this]
    exact e1
   ·by_cases q:(m==n)=true
    ·have q':m=n:=eq_of_beq q
     rw[q'];exact e3 n c self
    ·have q':(m==n)=false:=by simpa using q
     exact e3 m d (by simp only[List.lookup,q'];exact e)
   ·rcases List.mem_cons.mp hy with z | z
    ·subst z;exact e3 n c self
    ·exact e4 y z hy2
  ·have hb:(k==NameKind.free)=false:=by simpa using hk
   obtain⟨cl,e1,e2,e3,e4⟩:=b8 env r acc (fun y hy=>hf y (List.mem_cons_of_mem _ hy)) h
   refine⟨cl,?_,e2,e3,fun y hy hy2=>?_⟩
   ·rw[List.forIn_cons]
    simp only[hb,Bool.false_eq_true,if_false]
    exact e1
   ·rcases List.mem_cons.mp hy with z | z
    ·subst z;exact absurd hy2 hk
    ·exact e4 y z hy2
theorem kQ (scope:Scope)(env:Env)(h:∀ y∈scope.names,y.2=.free→∃ c,env.cells.lookup y.1=some c) :
  ∃ cl,closureFor scope env=pure cl∧(∀ n c,cl.lookup n=some c→env.cells.lookup n=some c)∧(∀ y∈scope.names,y.2=.free→∃ c,cl.lookup y.1=some c):=by
 obtain⟨cl,e1,e2,_,e4⟩:=b8 env scope.names [] h (fun n c e=>by simp at e)
 refine⟨cl,?_,e2,e4⟩
 exact(congrArg (fun t:Sem (List (Str×Addr))=>t >>= fun s=>pure s) e1).trans rfl
end FF
namespace FF
open PySem
def tests (ifs:List Expr)(env:Env):Sem Bool:=match ifs with
 | []=>pure true
 | c::_=>isTrue c env (eval c env)
theorem mV {prog:Program}{w:World}{A:Around}{R:Result→Shared→Prop}{s:Shared}{elt target iter:Expr}{ifs:List Expr}{scope:Scope}{pos:Pos}{it acc:Value}{env:Env}(hifs:ifs.length≤1)(W:Nat→Shared→Prop)
  (turn:∀ n s,W n s→wpAny (model prog w) A (pyNext it) (fun r s1=>match r with
   | none=>R (.ok .next) s1
   | some v=>wpAny (model prog w) A (letOwnedTupleGo target it v) (fun _ s2=>wpAny (model prog w) A (assign target env v) (fun _ s3=>wpAny (model prog w) A (tests ifs env) (fun ok s4 =>
     if ok=true then wpAny (model prog w) A (eval elt env) (fun x s5=>wpAny (model prog w) A (call (.builtin "list.append") [acc,x]) (fun _ s6=>∃ m,m < n∧W m s6) (fun _ _=>False) s5) (fun _ _=>False) s4
     else ∃ m,m < n∧W m s4) (fun _ _=>False) s3) (fun _ _=>False) s2) (fun _ _=>False) s1) (fun _ _=>False) s)
  (n:Nat) (h:W n s):codeAny (model prog w) A (.compLoop (.ListComp elt [⟨target,iter,ifs,0⟩] scope pos) 0 it acc env) R s:=by
 have weak:∀ {α:Type} {t:Sem α} {Q Q':α→Shared→Prop} {E:Value→Shared→Prop} {s:Shared},wpAny (model prog w) A t Q (fun _ _=>False) s→(∀ a s,Q a s→Q' a s)→wpAny (model prog w) A t Q' E s :=
  fun h k=>wpAny_mono h k fun _ _ z=>z.elim
 refine codeAny_loop rfl W (fun n s hW=>?_) n h
 show wpAny _ A ((compTurn (.ListComp elt [⟨target,iter,ifs,0⟩] scope pos) 0 it acc env).onRaise (fun x=>do noteFrame x env;theTreesLotGoes x)) _ _ s
 refine wpAny_noted ?_
 rw[compTurn_list]
 refine wpAny_bind (wpAny_standAt (wpAny_bind (weak (turn n s hW) fun r s1 h1=>?_)))
 cases r with
 | none=>exact wpAny_pure h1
 | some v =>
  refine wpAny_bind (weak h1 fun _ s2 h2=>wpAny_bind (weak h2 fun _ s3 h3=>wpAny_bind ?_))
  have fin:∀ ok s4,(if ok=true then wpAny (model prog w) A (eval elt env) (fun x s5=>wpAny (model prog w) A (call (.builtin "list.append") [acc,x]) (fun _ s6=>∃ m,m < n∧W m s6) (fun _ _=>False) s5) (fun _ _=>False) s4
     else ∃ m,m < n∧W m s4)→wpAny (model prog w) A (if ok=true then ((do let _ ← call (.builtin "list.append") [acc,← eval elt env];pure ()) >>= fun _=>again (.compLoop (.ListComp elt [⟨target,iter,ifs,0⟩] scope pos) 0 it acc env)) else again (.compLoop (.ListComp elt [⟨target,iter,ifs,0⟩] scope pos) 0 it acc env))
      (fun fin s'=>match fin with | .done f=>R (.ok f) s' | .again c'=>c'=(.compLoop (.ListComp elt [⟨target,iter,ifs,0⟩] scope pos) 0 it acc env)∧∃ m,m < n∧W m s') (notedBy (model prog w) A env fun e s'=>R (.error e) s') s4:=by
   intro ok s4 h4
   cases ok with
   | true=>exact wpAny_bind (wpAny_bind (weak h4 fun x s5 h5=>wpAny_bind (weak h5 fun _ s6 h6=>wpAny_pure (wpAny_pure ⟨rfl,h6⟩))))
   | false=>exact wpAny_pure ⟨rfl,h4⟩
  match ifs,hifs,h3,fin with
  | [],_,h3,fin =>
   refine wpAny_tests_nil ?_
   exact wpAny_bind (m:=(pure true:Sem Bool)) (weak h3 fin)
  | [c],_,h3,fin =>
   refine wpAny_tests_one ?_
   exact weak h3 fin
end FF
namespace FF
open PySem PyProof.Rows
open AutoSeq1 (wpAny_loadPart')
theorem mW (l b:Addr)(items items2:Array Value)(n n2:Nat)(dd dd2:Option Addr)(sl sl2:Array (Option Value))(hsz:items.size+items2.size≤sizeLine) :
  Meets (Builtin.«list.__add__» ⟨[.ref l,.ref b],[]⟩) (fun _ R s=>s.heap.get? l=some { cls:=.type "list",dict:=dd,data:=.seq items n,slots:=sl }∧s.heap.get? b=some { cls:=.type "list",dict:=dd2,data:=.seq items2 n2,slots:=sl2 } ∧
   R (.ok (.ret (.ref s.heap.objs.size))) { s with heap:=s.heap.push { cls:=.type "list",data:=.seq (items++items2) } }) :=
 .of_wp fun prog w A R s h=>by
  obtain⟨hp,g,d,tk,os⟩:=s;obtain⟨hl,hb,h⟩:=h
  have f1:=AutoSeq1.idx_int;have f2:=AutoSeq1.sub_tuple_tuple;have f3:=AutoSeq1.sub_list_list;have f4:=AutoSeq1.sub_tuple_list;have f5:=AutoSeq1.sub_list_tuple
  have hl0:¬ Builtin.List.listTooLong (items.size+items2.size)=true:=by rw[L2.notLongL hsz];exact Bool.false_ne_true
  have hz:(items++items2).size≤sizeLine:=by rw[Array.size_append];exact hsz
  wp_walk using wpAny_loadPart' hl,wpAny_loadPart' hb
  all_goals first | exact⟨_,rfl,h⟩ | trace_state
theorem mX (l:Addr)(items:Array Value)(n:Nat)(k:Int)(t:Tok)(dd:Option Addr)(sl:Array (Option Value))(h0 : -(2^63)≤k)(h1:k < 2^63)(hsz:items.size*k.toNat≤sizeLine) :
  Meets (Builtin.«list.__mul__» ⟨[.ref l,.int k t],[]⟩) (fun _ R s=>s.heap.get? l=some { cls:=.type "list",dict:=dd,data:=.seq items n,slots:=sl } ∧
   R (.ok (.ret (.ref s.heap.objs.size))) { s with heap:=s.heap.push { cls:=.type "list",data:=.seq (List.foldl (fun x1 x2=>x1++x2) #[] (List.replicate (if items.isEmpty=true then 0 else k.toNat) items)) } }) :=
 .of_wp fun prog w A R s h=>by
  obtain⟨hp,g,d,tk,os⟩:=s;obtain⟨hl,h⟩:=h
  have f1:=AutoSeq1.idx_int;have f2:=AutoSeq1.sub_tuple_tuple;have f3:=AutoSeq1.sub_list_list
  have hs:=sizeLine_eq
  have c1:¬ items.size*k.toNat > (2^63 - 1)/8:=by omega
  have c2:¬ (!Builtin.List.listFitsIndex k)=true:=by rw[fitsIndex_both h0 h1];exact Bool.false_ne_true
  have c3:¬ Builtin.List.listTooLong (items.size*k.toNat)=true:=by rw[L2.notLongL hsz];exact Bool.false_ne_true
  have hz:=AutoListH.joined_fits c3
  wp_walk using wpAny_loadPart' hl
  rw[if_neg (Nat.not_lt.mpr hz)]
  wp_walk
  exact⟨_,rfl,h⟩
theorem iz (a:Int)(t:Tok)(l:Addr)(items:Array Value)(n:Nat)(dd:Option Addr)(sl:Array (Option Value)) :
  Meets (Builtin.«int.__rmul__» ⟨[.int a t,.ref l],[]⟩) (fun _ R s=>s.heap.get? l=some { cls:=.type "list",dict:=dd,data:=.seq items n,slots:=sl }∧R (.ok (.ret Value.notImplemented)) s) :=
 .of_wp fun prog w A R s h=>by obtain⟨hp,g,d,tk,os⟩:=s;obtain⟨hl,h⟩:=h;wp_walk;exact⟨_,rfl,h⟩
theorem mY (l b:Addr)(items items2:Array Value)(n n2:Nat)(dd2:Option Addr)(sl2:Array (Option Value))(hsz:items.size+items2.size≤sizeLine) :
  Meets (Builtin.«list.extend» ⟨[.ref l,.ref b],[]⟩) (fun _ R s=>s.heap.get? l=some { cls:=.type "list",data:=.seq items n }∧s.heap.get? b=some { cls:=.type "list",dict:=dd2,data:=.seq items2 n2,slots:=sl2 } ∧
   R (.ok (.ret .none)) { s with heap:=s.heap.update l (Obj.mapSeq fun x=>x++items2) }) :=
 .of_wp fun prog w A R s h=>by
  obtain⟨hp,g,d,tk,os⟩:=s;obtain⟨hl,hb,h⟩:=h
  have f1:=AutoSeq1.idx_int;have f2:=AutoSeq1.sub_tuple_tuple;have f3:=AutoSeq1.sub_list_list;have f4:=AutoSeq1.sub_tuple_list;have f5:=AutoSeq1.sub_list_tuple
  have hc0:¬(!items.isEmpty&&Builtin.List.listTooLong (items.size+items2.size))=true:=by rw[L2.notLongL hsz,Bool.and_false];exact Bool.false_ne_true
  have hc1:items.size≤sizeLine:=by omega
  have hs2:items.size+items2.size≤sizeLine+1:=by omega
  have hz':(items++items2).size≤sizeLine+1:=by rw[Array.size_append];omega
  wp_walk using (wpAny_updateSeq hl rfl (hz:=hc1) (_hz':=hz')),wpAny_loadPart' hl,wpAny_loadPart' hb
  exact⟨_,rfl,h⟩
theorem mZ (l b:Addr)(items items2:Array Value)(n n2:Nat)(dd2:Option Addr)(sl2:Array (Option Value))(hsz:items.size+items2.size≤sizeLine) :
  Meets (Builtin.«list.extend» ⟨[.ref l,.ref b],[]⟩) (fun _ R s=>s.heap.get? l=some { cls:=.type "list",data:=.seq items n }∧s.heap.get? b=some { cls:=.type "tuple",dict:=dd2,data:=.seq items2 n2,slots:=sl2 } ∧
   R (.ok (.ret .none)) { s with heap:=s.heap.update l (Obj.mapSeq fun x=>x++items2) }) :=
 .of_wp fun prog w A R s h=>by
  obtain⟨hp,g,d,tk,os⟩:=s;obtain⟨hl,hb,h⟩:=h
  have f1:=AutoSeq1.idx_int;have f2:=AutoSeq1.sub_tuple_tuple;have f3:=AutoSeq1.sub_list_list;have f4:=AutoSeq1.sub_tuple_list;have f5:=AutoSeq1.sub_list_tuple
  have hc0:¬(!items.isEmpty&&Builtin.List.listTooLong (items.size+items2.size))=true:=by rw[L2.notLongL hsz,Bool.and_false];exact Bool.false_ne_true
  have hc1:items.size≤sizeLine:=by omega
  have hs2:items.size+items2.size≤sizeLine+1:=by omega
  have hz':(items++items2).size≤sizeLine+1:=by rw[Array.size_append];omega
  wp_walk using (wpAny_updateSeq hl rfl (hz:=hc1) (_hz':=hz')),wpAny_loadPart' hl,wpAny_loadPart' hb
  exact⟨_,rfl,h⟩
end FF
end
noncomputable section
namespace FF
open PySem PySem.Spec PyProof.Rows L2
inductive D where
 | non | bl (b:Bool) | int (i:Int) | str (x:Str) | tup (xs:List D) | lst (xs:List D) | exc (k:Nat) | fn (k:Nat) | tab (ks:List (List Int)) (xs:List D) | dic (ks:List Key) (xs:List D) | ptr (a:Addr)
inductive R (α:Type) where
 | ok (a:α) | err (k:Nat) | stuck
def R.bind {α β:Type}(r:R α)(f:α→R β):R β:=match r with
 | .ok a=>f a
 | .err k=>.err k
 | .stuck=>.stuck
@[simp] theorem R.bind_ok {α β:Type}(a:α)(f:α→R β):(R.ok a).bind f=f a:=rfl
@[simp] theorem R.bind_err {α β:Type}(k:Nat)(f:α→R β):(R.err k:R α).bind f=.err k:=rfl
@[simp] theorem R.bind_stuck {α β:Type}(f:α→R β):(R.stuck:R α).bind f=.stuck:=rfl
def excO (C:Nat→Addr)(k:Nat)(a:Addr):HO :=
 .ext fun h=>∃ o,h.get? a=some o∧o.cls=.ref (C k)∧∃ vs,o.data=.fields vs
abbrev TKV:=List Int×Addr×V
abbrev TKU:=List Int×Addr×Value
def hashT (ks:List Int):Int:=reduceHash (Builtin.Tuple.tupleHashOf (ks.map hashInt))
def tabR (p:TKV)(q:TKU):Prop:=p.1=q.1∧p.2.1=q.2.1∧RelV p.2.2 q.2.2
def tabφ (a:Addr)(kvs:List TKV)(h:Heap):Prop:=∃ xs:List TKU,Paired tabR kvs xs∧xs.length≤sizeLine∧(a==sysModules)=false∧∃ o es ep,h.get? a=some o∧o.ExactDict∧o.data=.dict es ep ∧
 es.toList=xs.map (fun x=>(⟨hashT x.1,.ref x.2.1,x.2.2⟩:DictEntry))∧(xs.map (·.1)).Nodup
def tabO (a:Addr)(kvs:List TKV):HO:=.ext (tabφ a kvs)
mutual
def Rep (K:PySem.W.Frag)(C:Nat→Addr)(Z:Hp):D→V→Prop
 | .non,v=>v=.non
 | .bl b,v=>v=.bl b
 | .int i,v=>v=.int i
 | .str x,v=>v=.str x
 | .tup ds,v=>∃ a vs,v=.ref a∧SqT K Z a vs∧Reps K C Z ds vs
 | .lst ds,v=>∃ a vs,v=.ref a∧SqL K Z a vs∧Reps K C Z ds vs
 | .exc k,v=>∃ a,v=.ref a∧Z a=some (excO C k a)
 | .fn k,v=>v=.ref (C k)
 | .tab ks ds,v=>∃ a kvs,v=.ref a∧Z a=some (tabO a kvs)∧kvs.map (·.1)=ks∧(∀ x∈kvs,SqT K Z x.2.1 (x.1.map V.int))∧Reps K C Z ds (kvs.map (·.2.2))
 | .dic ks ds,v=>∃ a kvs,v=.ref a∧Z a=some (.dK kvs)∧kvs.map (·.1)=ks∧Reps K C Z ds (kvs.map (·.2))
 | .ptr a,v=>v=.ref a
def Reps (K:PySem.W.Frag)(C:Nat→Addr)(Z:Hp):List D→List V→Prop
 | [],vs=>vs=[]
 | d::ds,vs=>∃ v r,vs=v::r∧Rep K C Z d v∧Reps K C Z ds r
end
theorem _root_.L2.SqT.mono {K:PySem.W.Frag}{Z Z':Hp}{a:Addr}{xs:List V}(e:Same Z Z')(h:SqT K Z a xs):SqT K Z' a xs:=by
 rcases h with (h | ⟨o,h⟩) | h
 ·exact .inl (.inl (e _ _ h))
 ·exact .inl (.inr ⟨o,e _ _ h⟩)
 ·exact .inr h
section
variable {K:PySem.W.Frag}{C:Nat→Addr}{Z Z':Hp}
mutual
theorem Rep.mono (e:Same Z Z'):∀ (d:D) (v:V),Rep K C Z d v→Rep K C Z' d v
 | .non,v,h=>by rw[Rep]at h ⊢;exact h
 | .bl b,v,h=>by rw[Rep]at h ⊢;exact h
 | .int i,v,h=>by rw[Rep]at h ⊢;exact h
 | .str x,v,h=>by rw[Rep]at h ⊢;exact h
 | .fn k,v,h=>by rw[Rep]at h ⊢;exact h
 | .tup ds,v,h=>by
  rw[Rep]at h ⊢
  obtain⟨a,vs,h1,h2,h3⟩:=h
  exact⟨a,vs,h1,h2.mono e,Reps.mono e ds vs h3⟩
 | .lst ds,v,h=>by
  rw[Rep]at h ⊢
  obtain⟨a,vs,h1,h2,h3⟩:=h
  exact⟨a,vs,h1,e.seq h2,Reps.mono e ds vs h3⟩
 | .exc k,v,h=>by
  rw[Rep]at h ⊢
  obtain⟨a,h1,h2⟩:=h
  exact⟨a,h1,e _ _ h2⟩
 | .tab ks ds,v,h=>by
  rw[Rep]at h ⊢
  obtain⟨a,kvs,h1,h2,h3,h5,h4⟩:=h
  exact⟨a,kvs,h1,e _ _ h2,h3,fun x hx=>(h5 x hx).mono e,Reps.mono e ds _ h4⟩
 | .dic ks ds,v,h=>by
  rw[Rep]at h ⊢
  obtain⟨a,kvs,h1,h2,h3,h4⟩:=h
  exact⟨a,kvs,h1,e _ _ h2,h3,Reps.mono e ds _ h4⟩
 | .ptr a,v,h=>by
  rw[Rep]at h ⊢
  exact h
theorem Reps.mono (e:Same Z Z'):∀ (ds:List D) (vs:List V),Reps K C Z ds vs→Reps K C Z' ds vs
 | [],vs,h=>by rw[Reps]at h ⊢;exact h
 | d::ds,vs,h=>by
  rw[Reps]at h ⊢
  obtain⟨v,r,h1,h2,h3⟩:=h
  exact⟨v,r,h1,Rep.mono e d v h2,Reps.mono e ds r h3⟩
end
theorem Reps.nil:Reps K C Z [] []:=by rw[Reps]
theorem Reps.cons {d:D}{v:V}{ds:List D}{vs:List V}(h:Rep K C Z d v)(t:Reps K C Z ds vs):Reps K C Z (d::ds) (v::vs):=by
 rw[Reps];exact⟨v,vs,rfl,h,t⟩
theorem Reps.uncons {d:D}{v:V}{ds:List D}{vs:List V}(h:Reps K C Z (d::ds) (v::vs)):Rep K C Z d v∧Reps K C Z ds vs:=by
 rw[Reps]at h
 obtain⟨v',r,e,h1,h2⟩:=h
 cases e
 exact⟨h1,h2⟩
theorem Reps.length:∀ {ds:List D} {vs:List V},Reps K C Z ds vs→ds.length=vs.length
 | [],vs,h=>by rw[Reps]at h;subst h;rfl
 | d::ds,vs,h=>by
  rw[Reps]at h
  obtain⟨v,r,e,_,h2⟩:=h
  subst e
  simp[Reps.length h2]
theorem Reps.get:∀ {ds:List D} {vs:List V} {i:Nat} {d:D},Reps K C Z ds vs→ds[i]?=some d→∃ v,vs[i]?=some v∧Rep K C Z d v
 | [],vs,i,d,h,e=>by simp at e
 | d'::ds,vs,i,d,h,e=>by
  rw[Reps]at h
  obtain⟨v,r,q,h1,h2⟩:=h
  subst q
  cases i with
  | zero=>simp at e;subst e;exact⟨v,rfl,h1⟩
  | succ i =>
   obtain⟨v',e1,h3⟩:=Reps.get (i:=i) h2 (by simpa using e)
   exact⟨v',by simpa using e1,h3⟩
theorem Reps.get':∀ {ds:List D} {vs:List V} {i:Nat} {v:V},Reps K C Z ds vs→vs[i]?=some v→∃ d,ds[i]?=some d∧Rep K C Z d v
 | [],vs,i,v,h,e=>by rw[Reps]at h;subst h;simp at e
 | d'::ds,vs,i,v,h,e=>by
  rw[Reps]at h
  obtain⟨v0,r,q,h1,h2⟩:=h
  subst q
  cases i with
  | zero=>simp at e;subst e;exact⟨d',rfl,h1⟩
  | succ i =>
   obtain⟨d,e1,h3⟩:=Reps.get' (i:=i) h2 (by simpa using e)
   exact⟨d,by simpa using e1,h3⟩
theorem Reps.append:∀ {ds es:List D} {vs us:List V},Reps K C Z ds vs→Reps K C Z es us→Reps K C Z (ds++es) (vs++us)
 | [],es,vs,us,h,h'=>by rw[Reps]at h;subst h;exact h'
 | d::ds,es,vs,us,h,h'=>by
  rw[Reps]at h
  obtain⟨v,r,q,h1,h2⟩:=h
  subst q
  exact Reps.cons h1 (Reps.append h2 h')
theorem Reps.take:∀ {ds:List D} {vs:List V} (n:Nat),Reps K C Z ds vs→Reps K C Z (ds.take n) (vs.take n)
 | [],vs,n,h=>by rw[Reps]at h;subst h;simpa using Reps.nil
 | d::ds,vs,n,h=>by
  rw[Reps]at h
  obtain⟨v,r,q,h1,h2⟩:=h
  subst q
  cases n with
  | zero=>exact Reps.nil
  | succ n=>exact Reps.cons h1 (Reps.take n h2)
theorem Reps.drop:∀ {ds:List D} {vs:List V} (n:Nat),Reps K C Z ds vs→Reps K C Z (ds.drop n) (vs.drop n)
 | [],vs,n,h=>by rw[Reps]at h;subst h;simpa using Reps.nil
 | d::ds,vs,n,h=>by
  rw[Reps]at h
  obtain⟨v,r,q,h1,h2⟩:=h
  subst q
  cases n with
  | zero=>exact Reps.cons h1 h2
  | succ n=>exact Reps.drop n h2
end
structure Ex (H Z H' Z':Hp):Prop where
 same:Same H H'
 z:Same Z Z'
 sub:Same Z' H'
 new:∀ b,Z' b≠none→Z b≠none∨H b=none
theorem Ex.refl {H Z:Hp}(s:Same Z H):Ex H Z H Z:=⟨Same.refl _,Same.refl _,s,fun _ h=>.inl h⟩
theorem Ex.trans {H Z H1 Z1 H2 Z2:Hp}(a:Ex H Z H1 Z1)(b:Ex H1 Z1 H2 Z2):Ex H Z H2 Z2 :=
 ⟨a.same.trans b.same,a.z.trans b.z,b.sub,fun c h=>(b.new c h).elim (fun h1=>a.new c h1) fun h1=>.inr (a.same.free h1)⟩
theorem aH {H:Hp}{p:Addr}{o:HO}(h:H p=none):Same H (upd H p o):=fun b u e=>by
 rw[ai (aF e h)];exact e
theorem Ex.alloc {H Z:Hp}{p:Addr}{o:HO}(s:Same Z H)(h:H p=none):Ex H Z (upd H p o) (upd Z p o):=by
 have hz:Z p=none:=s.free h
 refine⟨aH h,aH hz,fun b u e=>?_,fun b hb=>?_⟩
 ·by_cases q:b=p
  ·subst q;rw[ao]at e ⊢;exact e
  ·rw[ai q]at e ⊢;exact s b u e
 ·by_cases q:b=p
  ·subst q;exact .inr h
  ·rw[ai q]at hb;exact .inl hb
theorem Ex.hidden {H Z:Hp}{p:Addr}{o:HO}(s:Same Z H)(h:H p=none):Ex H Z (upd H p o) Z :=
 ⟨aH h,Same.refl _,s.trans (aH h),fun _ hb=>.inl hb⟩
inductive Sl where
 | val (d:D) | own (ds:List D) | mat (m:List (List D)) | dic (m:List (Key×D)) | dit (m:List (List Int×D))
abbrev SS:=List (Option Sl)
structure Fx where
 K:PySem.W.Frag
 C:Nat→Addr
 H0:Hp
 Z0:Hp
 E:XK
def Rows (F:Fx)(H Z:Hp):List (List D)→List Addr→Prop
 | [],[]=>True
 | ds::m,r::rs=>(∃ vs,H r=some (.lst vs)∧Reps F.K F.C Z ds vs)∧Rows F H Z m rs
 | _,_=>False
def Pairs {κ:Type}(F:Fx)(Z:Hp)(m:List (κ×D))(kvs:List (κ×V)):Prop:=kvs.map Prod.fst=m.map Prod.fst∧Reps F.K F.C Z (m.map Prod.snd) (kvs.map Prod.snd)
def Ow (F:Fx)(H Z:Hp):Sl→V→List Addr→Prop
 | .val d,v,A=>A=[]∧Rep F.K F.C Z d v
 | .own ds,v,A=>∃ a vs,v=.ref a∧A=[a]∧H a=some (.lst vs)∧Reps F.K F.C Z ds vs
 | .mat m,v,A=>∃ a rs,v=.ref a∧A=a::rs∧H a=some (.lst (rs.map V.ref))∧Rows F H Z m rs
 | .dic m,v,A=>∃ a kvs,v=.ref a∧A=[a]∧H a=some (.dK kvs)∧Pairs F Z m kvs
 | .dit m,v,A=>∃ a kvs,v=.ref a∧A=[a]∧H a=some (tabO a kvs)∧kvs.map (·.1)=m.map (·.1)∧(∀ x∈kvs,SqT F.K Z x.2.1 (x.1.map V.int))∧Reps F.K F.C Z (m.map (·.2)) (kvs.map (·.2.2))
structure Priv (F:Fx)(Z:Hp)(A:List Addr):Prop where
 nd:A.Nodup
 z:∀ a∈A,Z a=none
 h0:∀ a∈A,F.H0 a=none
structure StOk (F:Fx)(H Z:Hp)(S:SS)(σ:St):Prop where
 ex:Ex F.H0 F.Z0 H Z
 len:S.length=σ.length
 sl:∀ (i:Nat) (x:Sl),S[i]?=some (some x)→∃ v A,σ[i]?=some (some v)∧Ow F H Z x v A∧Priv F Z A
 dj:∀ (i j:Nat) (x y:Sl) (v w:V) (A B:List Addr),i≠j→S[i]?=some (some x)→S[j]?=some (some y)→σ[i]?=some (some v)→σ[j]?=some (some w)→Ow F H Z x v A→Ow F H Z y w B→∀ a∈A,a∉B
section
variable {F:Fx}{H Z H' Z':Hp}{S:SS}{σ:St}{x:Sl}{v:V}{A B:List Addr}
theorem Rows.mono (hz:Same Z Z'):∀ {m:List (List D)} {rs:List Addr},Rows F H Z m rs→(∀ a∈rs,∀ o,H a=some o→H' a=some o)→Rows F H' Z' m rs
 | [],[],_,_=>trivial
 | ds::m,r::rs,h,k=>by
  obtain⟨⟨vs,e,q⟩,h⟩:=h
  exact⟨⟨vs,k r (.head _) _ e,q.mono hz⟩,Rows.mono hz h fun a ha=>k a (.tail _ ha)⟩
 | [],_::_,h,_=>h.elim
 | _::_,[],h,_=>h.elim
theorem Rows.there:∀ {m:List (List D)} {rs:List Addr},Rows F H Z m rs→∀ a∈rs,∃ o,H a=some o
 | [],[],_,a,ha=>nomatch ha
 | ds::m,r::rs,h,a,ha=>by
  obtain⟨⟨vs,e,q⟩,h⟩:=h
  rcases List.mem_cons.mp ha with rfl | ha
  ·exact⟨_,e⟩
  ·exact Rows.there h a ha
 | [],_::_,h,_,_=>h.elim
 | _::_,[],h,_,_=>h.elim
theorem Rows.len:∀ {m:List (List D)} {rs:List Addr},Rows F H Z m rs→rs.length=m.length
 | [],[],_=>rfl
 | ds::m,r::rs,h=>by rw[List.length_cons,List.length_cons,Rows.len h.2]
 | [],_::_,h=>h.elim
 | _::_,[],h=>h.elim
theorem Rows.at:∀ {m:List (List D)} {rs:List Addr} {j:Nat} {ds:List D},Rows F H Z m rs→m[j]?=some ds→∃ r vs,rs[j]?=some r∧H r=some (.lst vs)∧Reps F.K F.C Z ds vs
 | ds::m,r::rs,0,_,h,e=>by
  obtain⟨⟨vs,q,k⟩,h⟩:=h
  cases e
  exact⟨r,vs,rfl,q,k⟩
 | ds::m,r::rs,j+1,_,h,e=>Rows.at (j:=j) h.2 e
 | [],_,_,_,_,e=>by simp at e
 | _::_,[],_,_,h,_=>h.elim
theorem jT:∀ {rs qs:List Addr},rs.map V.ref=qs.map V.ref→rs=qs
 | [],[],_=>rfl
 | r::rs,q::qs,h=>by
  rw[List.map_cons,List.map_cons]at h
  injection h with h1 h2
  injection h1 with h1
  rw[h1,jT h2]
 | [],_::_,h=>nomatch h
 | _::_,[],h=>nomatch h
theorem Ow.mono (hz:Same Z Z')(h:Ow F H Z x v A)(hs:∀ a∈A,∀ o,H a=some o→H' a=some o):Ow F H' Z' x v A:=by
 cases x with
 | val d=>exact⟨h.1,h.2.mono hz⟩
 | own ds =>
  obtain⟨a,vs,e1,e2,e3,r⟩:=h
  exact⟨a,vs,e1,e2,hs a (by rw[e2];exact .head _) _ e3,r.mono hz⟩
 | mat m =>
  obtain⟨a,rs,e1,e2,e3,r⟩:=h
  exact⟨a,rs,e1,e2,hs a (by rw[e2];exact .head _) _ e3,r.mono hz fun b hb=>hs b (by rw[e2];exact .tail _ hb)⟩
 | dic m =>
  obtain⟨a,vs,e1,e2,e3,r⟩:=h
  exact⟨a,vs,e1,e2,hs a (by rw[e2];exact .head _) _ e3,r.1,r.2.mono hz⟩
 | dit m =>
  obtain⟨a,vs,e1,e2,e3,r⟩:=h
  exact⟨a,vs,e1,e2,hs a (by rw[e2];exact .head _) _ e3,r.1,fun x hx=>(r.2.1 x hx).mono hz,r.2.2.mono hz⟩
theorem Ow.det (h:Ow F H Z x v A)(h':Ow F H Z x v B):A=B:=by
 cases x with
 | val d=>rw[h.1,h'.1]
 | own ds =>
  obtain⟨a,vs,e1,e2,_⟩:=h
  obtain⟨b,us,f1,f2,_⟩:=h'
  rw[e1]at f1;cases f1
  rw[e2,f2]
 | mat m =>
  obtain⟨a,rs,e1,e2,e3,_⟩:=h
  obtain⟨b,qs,f1,f2,f3,_⟩:=h'
  rw[e1]at f1;cases f1
  rw[e3]at f3
  injection f3 with f3
  injection f3 with f3
  rw[e2,f2,jT f3]
 | dic m =>
  obtain⟨a,vs,e1,e2,_⟩:=h
  obtain⟨b,us,f1,f2,_⟩:=h'
  rw[e1]at f1;cases f1
  rw[e2,f2]
 | dit m =>
  obtain⟨a,vs,e1,e2,_⟩:=h
  obtain⟨b,us,f1,f2,_⟩:=h'
  rw[e1]at f1;cases f1
  rw[e2,f2]
theorem Ow.there (h:Ow F H Z x v A):∀ a∈A,∃ o,H a=some o:=fun a ha=>by
 cases x with
 | val d=>rw[h.1]at ha;cases ha
 | own ds =>
  obtain⟨b,vs,e1,e2,e3,r⟩:=h
  rw[e2]at ha
  cases List.mem_singleton.mp ha
  exact⟨_,e3⟩
 | mat m =>
  obtain⟨b,rs,e1,e2,e3,r⟩:=h
  rw[e2]at ha
  rcases List.mem_cons.mp ha with rfl | ha
  ·exact⟨_,e3⟩
  ·exact r.there a ha
 | dic m =>
  obtain⟨b,vs,e1,e2,e3,r⟩:=h
  rw[e2]at ha
  cases List.mem_singleton.mp ha
  exact⟨_,e3⟩
 | dit m =>
  obtain⟨b,vs,e1,e2,e3,r⟩:=h
  rw[e2]at ha
  cases List.mem_singleton.mp ha
  exact⟨_,e3⟩
theorem StOk.sub (h:StOk F H Z S σ):Same Z H:=h.ex.sub
theorem StOk.more (h:StOk F H Z S σ)(x:Ex H Z H' Z'):StOk F H' Z' S σ:=by
 have up:∀ {y:Sl} {v:V} {A:List Addr},Ow F H Z y v A→Ow F H' Z' y v A:=fun o=>o.mono x.z fun a _ o e=>x.same _ _ e
 refine⟨h.ex.trans x,h.len,fun i y e=>?_,fun i j y z v w A B hij e1 e2 e3 e4 o1 o2=>?_⟩
 ·obtain⟨v,A,e1,o,p⟩:=h.sl i y e
  refine⟨v,A,e1,up o,p.nd,fun a ha=>?_,p.h0⟩
  cases q:Z' a with
  | none=>rfl
  | some u =>
   obtain⟨w,hw⟩:=o.there a ha
   rcases x.new a (by rw[q];simp) with z | z
   ·exact absurd (p.z a ha) z
   ·rw[hw]at z;cases z
 ·obtain⟨v',A',f1,q1,_⟩:=h.sl i y e1
  obtain⟨w',B',f2,q2,_⟩:=h.sl j z e2
  rw[e3]at f1;cases f1
  rw[e4]at f2;cases f2
  rw[o1.det (up q1),o2.det (up q2)]
  exact h.dj i j y z v w A' B' hij e1 e2 e3 e4 q1 q2
theorem StOk.val (h:StOk F H Z S σ)(i:Nat)(d:D)(e:S[i]?=some (some (.val d))):∃ v,σ[i]?=some (some v)∧Rep F.K F.C Z d v:=by
 obtain⟨v,A,e1,o,_⟩:=h.sl i _ e
 exact⟨v,e1,o.2⟩
theorem StOk.own (h:StOk F H Z S σ)(i:Nat)(ds:List D)(e:S[i]?=some (some (.own ds))):∃ a vs,σ[i]?=some (some (.ref a))∧H a=some (.lst vs)∧Z a=none∧F.H0 a=none∧Reps F.K F.C Z ds vs:=by
 obtain⟨v,A,e1,⟨a,vs,rfl,rfl,q,r⟩,p⟩:=h.sl i _ e
 exact⟨a,vs,e1,q,p.z a (.head _),p.h0 a (.head _),r⟩
theorem StOk.put (h:StOk F H Z S σ){i:Nat}(o:Ow F H Z x v A)(p:Priv F Z A)(hn:∀ (j:Nat) (y:Sl) (w:V) (B:List Addr),j≠i→S[j]?=some (some y)→σ[j]?=some (some w)→Ow F H Z y w B→∀ a∈A,a∉B) :
  StOk F H Z (S.set i (some x)) (σ.set i (some v)):=by
 have self:∀ {y:Option Sl},(S.set i (some x))[i]?=some y→y=some x∧i < S.length:=fun {y} e=>by
  by_cases hl:i < S.length
  ·rw[List.getElem?_set_self hl]at e;cases e;exact⟨rfl,hl⟩
  ·rw[List.getElem?_eq_none (by simpa using hl)]at e;cases e
 refine⟨h.ex,by simp[h.len],fun j y e=>?_,fun j k y z w u A' B' hjk e1 e2 e3 e4 o1 o2=>?_⟩
 ·by_cases q:i=j
  ·subst q
   obtain⟨z,hl⟩:=self e
   cases z
   exact⟨v,A,by rw[List.getElem?_set_self (by rw[← h.len];exact hl)],o,p⟩
  ·rw[List.getElem?_set_ne q]at e ⊢
   exact h.sl j y e
 ·by_cases q:i=j
  ·have q2:i≠k:=fun z=>hjk (q ▸ z)
   subst q
   obtain⟨z,hl⟩:=self e1
   cases z
   rw[List.getElem?_set_self (by rw[← h.len];exact hl)]at e3
   cases e3
   rw[List.getElem?_set_ne q2]at e2 e4
   rw[o1.det o]
   exact hn k _ _ _ (Ne.symm q2) e2 e4 o2
  ·rw[List.getElem?_set_ne q]at e1 e3
   by_cases q2:i=k
   ·subst q2
    obtain⟨z,hl⟩:=self e2
    cases z
    rw[List.getElem?_set_self (by rw[← h.len];exact hl)]at e4
    cases e4
    rw[o2.det o]
    exact fun a ha hb=>hn j _ _ _ (Ne.symm q) e1 e3 o1 a hb ha
   ·rw[List.getElem?_set_ne q2]at e2 e4
    exact h.dj j k _ _ _ _ _ _ hjk e1 e2 e3 e4 o1 o2
theorem Priv.nil:Priv F Z []:=⟨List.Pairwise.nil,(fun _ h=>nomatch h),(fun _ h=>nomatch h)⟩
theorem StOk.setVal (h:StOk F H Z S σ){i:Nat}{d:D}{v:V}(r:Rep F.K F.C Z d v):StOk F H Z (S.set i (some (.val d))) (σ.set i (some v)) :=
 h.put (x:=.val d) (A:=[]) ⟨rfl,r⟩ Priv.nil fun _ _ _ _ _ _ _ _ _ ha=>nomatch ha
theorem StOk.putNew (h:StOk F H Z S σ){i:Nat}(e:Ex H Z H' Z')(o:Ow F H' Z' x v A)(p:Priv F Z' A)(hn:∀ a∈A,H a=none):StOk F H' Z' (S.set i (some x)) (σ.set i (some v)):=by
 refine(h.more e).put o p fun j y w B hj e1 e2 o2 a ha hb=>?_
 obtain⟨w',B',f1,q,_⟩:=h.sl j y e1
 rw[e2]at f1;cases f1
 rw[o2.det (q.mono e.z fun a _ o e'=>e.same _ _ e')]at hb
 obtain⟨u,hu⟩:=q.there a hb
 rw[hn a ha]at hu;cases hu
theorem StOk.newOwn (h:StOk F H Z S σ){i:Nat}{a:Addr}{ds:List D}{vs:List V}(hp:H a=none)(r:Reps F.K F.C Z ds vs):StOk F (upd H a (.lst vs)) Z (S.set i (some (.own ds))) (σ.set i (some (.ref a))) :=
 h.putNew (x:=.own ds) (A:=[a]) (Ex.hidden h.sub hp) ⟨a,vs,rfl,rfl,ao,r⟩ ⟨by simp,fun b hb=>by cases List.mem_singleton.mp hb;exact h.sub.free hp,fun b hb=>by cases List.mem_singleton.mp hb;exact h.ex.same.free hp⟩ fun b hb=>by cases List.mem_singleton.mp hb;exact hp
theorem StOk.rewr (h:StOk F H Z S σ){i:Nat}{x':Sl}(e:S[i]?=some (some x))(ev:σ[i]?=some (some v))(o:Ow F H Z x v A)(o':Ow F H' Z x' v A)(hH:∀ b,b∉A→H' b=H b):StOk F H' Z (S.set i (some x')) σ:=by
 have hl:i < S.length:=(List.getElem?_eq_some_iff.mp e).1
 obtain⟨v',A',f1,q1,p⟩:=h.sl i x e
 rw[ev]at f1;cases f1
 cases o.det q1
 have up:∀ {j:Nat} {y:Sl} {w:V} {B:List Addr},j≠i→S[j]?=some (some y)→σ[j]?=some (some w)→Ow F H Z y w B→Ow F H' Z y w B:=fun {j y w B} hj e1 e2 q=>q.mono (Same.refl _) fun b hb u eu=>by
  rw[hH b (h.dj j i y x w v B A hj e1 e e2 ev q o b hb)];exact eu
 refine⟨⟨fun b u q=>?_,h.ex.z,fun b u q=>?_,h.ex.new⟩,by simp[h.len],fun j y q=>?_,fun j k y z w u A' B' hjk e1 e2 e3 e4 o1 o2=>?_⟩
 ·rw[hH b fun z=>by rw[p.h0 b z]at q;cases q];exact h.ex.same b u q
 ·rw[hH b fun z=>by rw[p.z b z]at q;cases q];exact h.ex.sub b u q
 ·by_cases z:i=j
  ·subst z
   rw[List.getElem?_set_self hl]at q;cases q
   exact⟨v,A,ev,o',p⟩
  ·rw[List.getElem?_set_ne z]at q
   obtain⟨w,B,g1,g2,g3⟩:=h.sl j y q
   exact⟨w,B,g1,up (Ne.symm z) q g1 g2,g3⟩
 ·have one:∀ {j:Nat} {y:Sl} {w:V} {B:List Addr},(S.set i (some x'))[j]?=some (some y)→σ[j]?=some (some w)→Ow F H' Z y w B→∃ y0,S[j]?=some (some y0)∧Ow F H Z y0 w B:=fun {j y w B} g1 g2 g3=>by
   by_cases z:i=j
   ·subst z
    rw[List.getElem?_set_self hl]at g1;cases g1
    rw[ev]at g2;cases g2
    rw[g3.det o']
    exact⟨x,e,o⟩
   ·rw[List.getElem?_set_ne z]at g1
    obtain⟨w',B',k1,k2,_⟩:=h.sl j y g1
    rw[g2]at k1;cases k1
    rw[g3.det (up (Ne.symm z) g1 g2 k2)]
    exact⟨y,g1,k2⟩
  obtain⟨y0,a1,a2⟩:=one e1 e3 o1
  obtain⟨z0,b1,b2⟩:=one e2 e4 o2
  exact h.dj j k y0 z0 w u A' B' hjk a1 b1 e3 e4 a2 b2
theorem StOk.write (h:StOk F H Z S σ){i:Nat}{ds es:List D}{a:Addr}{us:List V}(e:S[i]?=some (some (.own ds)))(ha:σ[i]?=some (some (.ref a)))(r:Reps F.K F.C Z es us) :
  StOk F (upd H a (.lst us)) Z (S.set i (some (.own es))) σ:=by
 obtain⟨a',vs,e1,e2,e3,e4,r0⟩:=h.own i ds e
 rw[ha]at e1;cases e1
 exact h.rewr (x:=.own ds) (A:=[a]) e ha ⟨a,vs,rfl,rfl,e2,r0⟩ ⟨a,us,rfl,rfl,ao,r⟩ fun b hb=>ai fun z=>hb (by rw[z];exact .head _)
theorem StOk.frzAll (h:StOk F H Z S σ){i:Nat}{d:D}(e:S[i]?=some (some x))(ev:σ[i]?=some (some v))(o:Ow F H Z x v A)(hz:Same Z Z')(hsub:Same Z' H)(hnew:∀ b,Z' b≠none→Z b≠none∨b∈A)(r:Rep F.K F.C Z' d v):StOk F H Z' (S.set i (some (.val d))) σ:=by
 have hl:i < S.length:=(List.getElem?_eq_some_iff.mp e).1
 obtain⟨v',A',f1,q1,p⟩:=h.sl i x e
 rw[ev]at f1;cases f1
 cases o.det q1
 have up:∀ {y:Sl} {w:V} {B:List Addr},Ow F H Z y w B→Ow F H Z' y w B:=fun q=>q.mono hz fun _ _ _ e=>e
 refine⟨⟨h.ex.same,h.ex.z.trans hz,hsub,fun b q=>?_⟩,by simp[h.len],fun j y q=>?_,fun j k y z w u A' B' hjk e1 e2 e3 e4 o1 o2=>?_⟩
 ·rcases hnew b q with z | z
  ·exact h.ex.new b z
  ·exact .inr (p.h0 b z)
 ·by_cases z:i=j
  ·subst z
   rw[List.getElem?_set_self hl]at q;cases q
   exact⟨v,[],ev,⟨rfl,r⟩,Priv.nil⟩
  ·rw[List.getElem?_set_ne z]at q
   obtain⟨w,B,g1,g2,g3⟩:=h.sl j y q
   refine⟨w,B,g1,up g2,g3.nd,fun b hb=>?_,g3.h0⟩
   cases qz:Z' b with
   | none=>rfl
   | some u =>
    rcases hnew b (by rw[qz];simp) with y1 | y1
    ·exact absurd (g3.z b hb) y1
    ·exact absurd y1 (h.dj j i _ _ _ _ _ _ (Ne.symm z) q e g1 ev g2 o b hb)
 ·have one:∀ {j:Nat} {y:Sl} {w:V} {B:List Addr},(S.set i (some (.val d)))[j]?=some (some y)→σ[j]?=some (some w)→Ow F H Z' y w B→B=[]∨(j≠i∧S[j]?=some (some y)∧Ow F H Z y w B):=fun {j y w B} g1 g2 g3=>by
   by_cases z:i=j
   ·subst z
    rw[List.getElem?_set_self hl]at g1;cases g1
    exact .inl g3.1
   ·rw[List.getElem?_set_ne z]at g1
    obtain⟨w',B',k1,k2,_⟩:=h.sl j y g1
    rw[g2]at k1;cases k1
    rw[g3.det (up k2)]
    exact .inr ⟨Ne.symm z,g1,k2⟩
  rcases one e1 e3 o1 with z1 | ⟨_,z1,z2⟩
  ·rw[z1];exact fun a ha=>nomatch ha
  ·rcases one e2 e4 o2 with y1 | ⟨_,y1,y2⟩
   ·rw[y1];exact fun a _ ha=>nomatch ha
   ·exact h.dj j k _ _ _ _ _ _ hjk z1 y1 e3 e4 z2 y2
theorem StOk.freeze (h:StOk F H Z S σ){i:Nat}{ds:List D}(e:S[i]?=some (some (.own ds))):∃ Z',Same Z Z'∧StOk F H Z' (S.set i (some (.val (.lst ds)))) σ:=by
 obtain⟨a,vs,e1,e2,e3,e4,r⟩:=h.own i ds e
 have hz:Same Z (upd Z a (.lst vs)):=aH e3
 refine⟨upd Z a (.lst vs),hz,h.frzAll (x:=.own ds) (A:=[a]) e e1 ⟨a,vs,rfl,rfl,e2,r⟩ hz (fun b o q=>?_) (fun b q=>?_) (by rw[Rep];exact⟨a,vs,rfl,SqL.of ao,r.mono hz⟩)⟩
 ·by_cases y:b=a
  ·subst y;rw[ao]at q;cases q;exact e2
  ·rw[ai y]at q;exact h.ex.sub b o q
 ·by_cases y:b=a
  ·exact .inr (by rw[y];exact .head _)
  ·rw[ai y]at q;exact .inl q
end
theorem oT {F G:Fx}{H Z:Hp}(hK:G.K=F.K:=by rfl)(hC:G.C=F.C:=by rfl):∀ {m:List (List D)} {rs:List Addr},Rows F H Z m rs→Rows G H Z m rs
 | [],[],_=>trivial
 | ds::m,r::rs,h=>by
  obtain⟨⟨vs,e,q⟩,h⟩:=h
  exact⟨⟨vs,e,by rw[hK,hC];exact q⟩,oT hK hC h⟩
 | [],_::_,h=>h.elim
 | _::_,[],h=>h.elim
theorem ow_K {F G:Fx}{H Z:Hp}{x:Sl}{v:V}{A:List Addr}(h:Ow F H Z x v A)(hK:G.K=F.K:=by rfl)(hC:G.C=F.C:=by rfl):Ow G H Z x v A:=by
 cases x with
 | val d=>exact⟨h.1,by rw[hK,hC];exact h.2⟩
 | own ds=>obtain⟨a,vs,e1,e2,e3,r⟩:=h;exact⟨a,vs,e1,e2,e3,by rw[hK,hC];exact r⟩
 | mat m=>obtain⟨a,rs,e1,e2,e3,r⟩:=h;exact⟨a,rs,e1,e2,e3,oT hK hC r⟩
 | dic m=>obtain⟨a,vs,e1,e2,e3,r⟩:=h;exact⟨a,vs,e1,e2,e3,r.1,by rw[hK,hC];exact r.2⟩
 | dit m=>obtain⟨a,vs,e1,e2,e3,r⟩:=h;exact⟨a,vs,e1,e2,e3,r.1,by rw[hK];exact r.2.1,by rw[hK,hC];exact r.2.2⟩
def WG {α:Type}(F:Fx)(H Z:Hp)(r:R α)(P:α→Hp→Hp→Prop):Prop:=match r with
 | .ok a=>∀ H' Z',Ex H Z H' Z'→P a H' Z'
 | .err k=>∀ H',Same H H'→F.E (.ref (F.C k)) none H'
 | .stuck=>False
section
variable {α:Type}{F:Fx}{H Z H1 Z1:Hp}{r:R α}{P P':α→Hp→Hp→Prop}
theorem WG.more (w:WG F H Z r P)(x:Ex H Z H1 Z1):WG F H1 Z1 r P:=by
 cases r with
 | ok a=>exact fun H' Z' y=>w H' Z' (x.trans y)
 | err k=>exact fun H' y=>w H' (x.same.trans y)
 | stuck=>exact w
theorem WG.now {a:α}(w:WG F H Z (.ok a) P)(s:Same Z H):P a H Z:=w H Z (Ex.refl s)
end
def tE (F:Fx)(g:SS→R D):TE:=fun σ H Q=>∃ Z S,StOk F H Z S σ∧WG F H Z (g S) fun d H' Z'=>∀ v,Rep F.K F.C Z' d v→Q v H'
def tT (F:Fx)(g:SS→R Bool):TT:=fun σ H Q=>∃ Z S,StOk F H Z S σ∧WG F H Z (g S) fun b H' _=>Q b H'
def tAl (F:Fx)(g:SS→R (List D)):TA:=fun σ H Q=>∃ Z S,StOk F H Z S σ∧WG F H Z (g S) fun ds H' Z'=>∀ vs,Reps F.K F.C Z' ds vs→Q vs H'
inductive O where
 | nx (S:SS) | rt (d:D) | er (k:Nat) | bk (S:SS) | ct (S:SS) | stuck
def WO (F:Fx)(Z:Hp)(o:O)(D:Ends):Prop:=match o with
 | .nx S=>∀ σ H Z',Same Z Z'→StOk F H Z' S σ→D.nx σ H
 | .rt d=>∀ v H Z',Ex F.H0 F.Z0 H Z'→Rep F.K F.C Z' d v→D.rt v H
 | .er k=>∀ H,Same F.H0 H→F.E (.ref (F.C k)) none H
 | .bk S=>∀ σ H Z',Same Z Z'→StOk F H Z' S σ→D.bk σ H
 | .ct S=>∀ σ H Z',Same Z Z'→StOk F H Z' S σ→D.ct σ H
 | .stuck=>False
theorem WO.more {F:Fx}{Z Z1:Hp}{o:O}{D:Ends}(w:WO F Z o D)(z:Same Z Z1):WO F Z1 o D:=by
 cases o with
 | nx S=>exact fun σ H Z' q=>w σ H Z' (z.trans q)
 | rt d=>exact w
 | er k=>exact w
 | bk S=>exact fun σ H Z' q=>w σ H Z' (z.trans q)
 | ct S=>exact fun σ H Z' q=>w σ H Z' (z.trans q)
 | stuck=>exact w
def tS (F:Fx)(g:SS→O):TS:=fun D σ H=>∃ Z S,StOk F H Z S σ∧WO F Z (g S) D
abbrev FE (X:Cx)(F:Fx)(e:Expr)(g:SS→R D):Prop:=PE X e (tE F g)
abbrev FT (X:Cx)(F:Fx)(e:Expr)(g:SS→R Bool):Prop:=PT X e (tT F g)
abbrev FW (X:Cx)(F:Fx)(e:Expr)(g:SS→R Bool):Prop:=PW X e (tT F g)
abbrev FA (X:Cx)(F:Fx)(es:List Expr)(g:SS→R (List D)):Prop:=PA X es (tAl F g)
abbrev FS (X:Cx)(F:Fx)(st:Stmt)(g:SS→O):Prop:=PS X st (tS F g)
abbrev FSs (X:Cx)(F:Fx)(sts:List Stmt)(g:SS→O):Prop:=PSs X sts (tS F g)
theorem _root_.L2.PE.weak {X:Cx}{e:Expr}{t t':TE}(h:PE X e t)(w:∀ σ H Q,t' σ H Q→t σ H Q):PE X e t':=fun pins s σ H Q I q=>h pins s σ H Q I (w σ H Q q)
theorem _root_.L2.PT.weak {X:Cx}{e:Expr}{t t':TT}(h:PT X e t)(w:∀ σ H Q,t' σ H Q→t σ H Q):PT X e t':=fun pins s σ H Q I q=>h pins s σ H Q I (w σ H Q q)
theorem _root_.L2.PW.weak {X:Cx}{e:Expr}{t t':TT}(h:PW X e t)(w:∀ σ H Q,t' σ H Q→t σ H Q):PW X e t':=fun wh pins s σ H Q I q=>h wh pins s σ H Q I (w σ H Q q)
theorem _root_.L2.PA.weak {X:Cx}{e:List Expr}{t t':TA}(h:PA X e t)(w:∀ σ H Q,t' σ H Q→t σ H Q):PA X e t':=fun p pins s σ H Q I q=>h p pins s σ H Q I (w σ H Q q)
theorem _root_.L2.PS.weak {X:Cx}{e:Stmt}{t t':TS}(h:PS X e t)(w:∀ D σ H,t' D σ H→t D σ H):PS X e t':=fun pins s σ H D I q=>h pins s σ H D I (w D σ H q)
theorem _root_.L2.PSs.weak {X:Cx}{e:List Stmt}{t t':TS}(h:PSs X e t)(w:∀ D σ H,t' D σ H→t D σ H):PSs X e t':=fun pins s σ H D I q=>h pins s σ H D I (w D σ H q)
section
variable {F:Fx}{σ:St}{H Z:Hp}{S:SS}
theorem aB {α:Type}{g:SS→R D}{k:D→R α}{P:α→Hp→Hp→Prop}{Q:VK}(ok:StOk F H Z S σ)(w:WG F H Z ((g S).bind k) P)
  (h:∀ d v H1 Z1,StOk F H1 Z1 S σ→Ex H Z H1 Z1→Rep F.K F.C Z1 d v→WG F H1 Z1 (k d) P→Q v H1):tE F g σ H Q:=by
 refine⟨Z,S,ok,?_⟩
 cases e:g S with
 | ok d =>
  rw[e]at w
  intro H1 Z1 x v r
  exact h d v H1 Z1 (ok.more x) x r (WG.more (r:=k d) w x)
 | err k=>rw[e]at w;exact w
 | stuck=>rw[e]at w;exact w
theorem gh {α:Type}{g:SS→R Bool}{k:Bool→R α}{P:α→Hp→Hp→Prop}{Q:Bool→Hp→Prop}(ok:StOk F H Z S σ)(w:WG F H Z ((g S).bind k) P)
  (h:∀ b H1 Z1,StOk F H1 Z1 S σ→Ex H Z H1 Z1→WG F H1 Z1 (k b) P→Q b H1):tT F g σ H Q:=by
 refine⟨Z,S,ok,?_⟩
 cases e:g S with
 | ok d =>
  rw[e]at w
  intro H1 Z1 x
  exact h d H1 Z1 (ok.more x) x (WG.more (r:=k d) w x)
 | err k=>rw[e]at w;exact w
 | stuck=>rw[e]at w;exact w
theorem aS {α:Type}{g:SS→R (List D)}{k:List D→R α}{P:α→Hp→Hp→Prop}{Q:List V→Hp→Prop}(ok:StOk F H Z S σ)(w:WG F H Z ((g S).bind k) P)
  (h:∀ ds vs H1 Z1,StOk F H1 Z1 S σ→Ex H Z H1 Z1→Reps F.K F.C Z1 ds vs→WG F H1 Z1 (k ds) P→Q vs H1):tAl F g σ H Q:=by
 refine⟨Z,S,ok,?_⟩
 cases e:g S with
 | ok d =>
  rw[e]at w
  intro H1 Z1 x v r
  exact h d v H1 Z1 (ok.more x) x r (WG.more (r:=k d) w x)
 | err k=>rw[e]at w;exact w
 | stuck=>rw[e]at w;exact w
end
def eVar (i:Nat):SS→R D:=fun S=>match S[i]? with
 | some (some (.val d))=>.ok d
 | _=>.stuck
def eC (d:D):SS→R D:=fun _=>.ok d
section
variable {X:Cx}{F:Fx}{e a b:Expr}{g ga gb:SS→R D}{pos:Pos}
theorem b9 {v:V}{d:D}(h:PE X e (tC v))(r:∀ Z,Rep F.K F.C Z d v):FE X F e (eC d):=h.weak fun σ H Q ⟨Z,S,ok,w⟩=>WG.now w ok.sub v (r Z)
theorem ag {i j pos}:FE X F (.Constant (.int i) j pos) (eC (.int i)):=b9 sO fun _=>by rw[Rep]
theorem bO {b j pos}:FE X F (.Constant (.bool b) j pos) (eC (.bl b)):=b9 uA fun _=>by rw[Rep]
theorem kR {j pos}:FE X F (.Constant .none j pos) (eC .non):=b9 sP fun _=>by rw[Rep]
theorem ax {x j pos}:FE X F (.Constant (.str x) j pos) (eC (.str x)):=b9 sQ fun _=>by rw[Rep]
theorem ac (i:Nat){x:Str}{pos:Pos}(hN:X.N[i]?=some x:=by rfl)(hv:Vis X.env.scope x:=by first | exact Or.inl rfl | exact Or.inr (Or.inl rfl) | exact Or.inr (Or.inr rfl))(hd:(x==("__debug__":Str))=false:=by decide)
  (hcd:(x==("__classdict__":Str))=false:=by decide):FE X F (.Name x pos) (eVar i):=(bQ hN hv hd hcd).weak fun σ H Q ⟨Z,S,ok,w⟩=>by
 unfold eVar at w
 split at w
 ·rename_i d e
  obtain⟨v,e1,r⟩:=ok.val i d e
  exact⟨v,e1,WG.now w ok.sub v r⟩
 ·exact w.elim
end
def OpD (F:Fx)(r:R2)(f:D→D→R D):Prop:=∀ (H Z:Hp) (x y:V) (dx dy:D) (Q:VK),Same Z H→Rep F.K F.C Z dx x→Rep F.K F.C Z dy y →
 WG F H Z (f dx dy) (fun d H' Z'=>∀ v,Rep F.K F.C Z' d v→Q v H')→r x y H Q
def eOp (f:D→D→R D)(ga gb:SS→R D):SS→R D:=fun S=>(ga S).bind fun x=>(gb S).bind fun y=>f x y
section
variable {X:Cx}{F:Fx}{e a b c:Expr}{ga gb gc:SS→R D}{pos:Pos}{r:R2}{f:D→D→R D}
theorem jo (hd:OpD F r f):∀ σ H Q,tE F (eOp f ga gb) σ H Q→tOp r (tE F ga) (tE F gb) σ H Q:=fun σ H Q ⟨Z,S,ok,w⟩ =>
 aB ok w fun dx x H1 Z1 ok1 x1 rx w1=>aB ok1 w1 fun dy y H2 Z2 ok2 x2 ry w2=>hd H2 Z2 x y dx dy Q ok2.sub (rx.mono x2.z) ry w2
theorem jU {op:Operator}(ho:OpR X (binaryOp op) r)(hd:OpD F r f)(ha:FE X F a ga)(hb:FE X F b gb):FE X F (.BinOp a op b pos) (eOp f ga gb):=(uC ho ha hb).weak (jo hd)
theorem kS {op:CmpOp}(ho:OpR X (compareOp op) r)(hd:OpD F r f)(ha:FE X F a ga)(hb:FE X F b gb)(hm:behindInMarks op b=false:=by first | exact nomark _ | rfl):FE X F (.Compare a [op] [b] pos) (eOp f ga gb) :=
 (qK ho ha hb hm).weak (jo hd)
theorem uG (ho:IxR X r)(hd:OpD F r f)(ha:FE X F a ga)(hb:FE X F b gb)(hs:PlainIx b:=by intro _ _;rfl):FE X F (.Subscript a b pos) (eOp f ga gb):=(sB ho ha hb hs).weak (jo hd)
def asB (r:R D):R Bool:=r.bind fun d=>match d with
 | .bl b=>.ok b
 | _=>.stuck
def gB (g:SS→R D):SS→R Bool:=fun S=>asB (g S)
theorem sC {t:TE}{g:SS→R D}(h:∀ σ H Q,tE F g σ H Q→t σ H Q):∀ σ H Q,tT F (gB g) σ H Q→tTest t σ H Q:=fun σ H Q ⟨Z,S,ok,w⟩=>by
 refine h σ H _ (aB ok w fun d v H1 Z1 ok1 x1 rv w1=>?_)
 cases d with
 | bl b=>rw[Rep]at rv;exact⟨b,rv,WG.now w1 ok1.sub⟩
 | _=>exact w1.elim
theorem a6 {g:SS→R D}(h:FE X F e g)(he:∀ whole,isTrue e X.env whole=(do let v ← whole;standAt e.pos;holding [v] (truthy v)):=by intro _;rfl):FT X F e (gB g) :=
 (sR h he).weak (sC (t:=tE F g) fun _ _ _ q=>q)
theorem dk {op:CmpOp}(ho:OpR X (compareOp op) r)(hd:OpD F r f)(ha:FE X F a ga)(hb:FE X F b gb)(hm:behindInMarks op b=false:=by first | exact nomark _ | rfl):FT X F (.Compare a [op] [b] pos) (gB (eOp f ga gb)) :=
 (lW ho ha hb hm).weak (sC (jo hd))
end
def gAnd (a b:SS→R Bool):SS→R Bool:=fun S=>(a S).bind fun c=>if c=true then b S else .ok false
def gOr (a b:SS→R Bool):SS→R Bool:=fun S=>(a S).bind fun c=>if c=true then .ok true else b S
def gNot (a:SS→R Bool):SS→R Bool:=fun S=>(a S).bind fun c=>.ok (!c)
section
variable {X:Cx}{F:Fx}{e a b c:Expr}{rest:List Expr}{ta tb tc:SS→R Bool}{ga gb:SS→R D}{pos:Pos}
theorem l6 (h:FT X F a ta):FW X F (.BoolOp .And [a] pos) ta:=qH h
theorem cF (h:FT X F a ta):FW X F (.BoolOp .Or [a] pos) ta:=sS h
theorem oU (ha:FT X F a ta)(hb:FW X F (.BoolOp .And (b::rest) pos) tb):FW X F (.BoolOp .And (a::b::rest) pos) (gAnd ta tb) :=
 (sT ha hb).weak fun σ H Q ⟨Z,S,ok,w⟩=>gh ok w fun d H1 Z1 ok1 x1 w1=>by
  cases d with
  | true=>exact⟨Z1,S,ok1,w1⟩
  | false=>exact WG.now w1 ok1.sub
theorem fD (ha:FT X F a ta)(hb:FW X F (.BoolOp .Or (b::rest) pos) tb):FW X F (.BoolOp .Or (a::b::rest) pos) (gOr ta tb) :=
 (uB ha hb).weak fun σ H Q ⟨Z,S,ok,w⟩=>gh ok w fun d H1 Z1 ok1 x1 w1=>by
  cases d with
  | true=>exact WG.now w1 ok1.sub
  | false=>exact⟨Z1,S,ok1,w1⟩
theorem ft_w (h:FW X F e ta):FT X F e ta:=h.pt
theorem a7 (h:FT X F a ta):FT X F (.UnaryOp .Not a pos) (gNot ta) :=
 (sU h).weak fun σ H Q ⟨Z,S,ok,w⟩=>gh ok w fun d H1 Z1 ok1 x1 w1=>WG.now w1 ok1.sub
theorem cG {op}(h:FE X F a ga):FE X F (.BoolOp op [a] pos) ga:=sV h
def eAnd (a b:SS→R D):SS→R D:=fun S=>(asB (a S)).bind fun c=>if c=true then b S else .ok (.bl false)
def eNot (a:SS→R D):SS→R D:=fun S=>(asB (a S)).bind fun c=>.ok (.bl (!c))
theorem oV {α:Type}{σ:St}{H Z:Hp}{S:SS}{g:SS→R D}{k:Bool→R α}{P:α→Hp→Hp→Prop}{Q:VK}(ok:StOk F H Z S σ)(w:WG F H Z ((asB (g S)).bind k) P)
  (h:∀ c H1 Z1,StOk F H1 Z1 S σ→Ex H Z H1 Z1→WG F H1 Z1 (k c) P→Q (.bl c) H1):tE F g σ H Q:=by
 have e:(asB (g S)).bind k=(g S).bind fun d=>(match d with | .bl b=>R.ok b | _=>R.stuck).bind k:=by
  unfold asB;cases g S<;>rfl
 rw[e]at w
 refine aB ok w fun d v H1 Z1 ok1 x1 rv w1=>?_
 cases d with
 | bl b=>rw[Rep]at rv;subst rv;exact h b H1 Z1 ok1 x1 w1
 | _=>exact w1.elim
theorem bR (ha:FE X F a ga)(hb:FE X F (.BoolOp .And (b::rest) pos) gb):FE X F (.BoolOp .And (a::b::rest) pos) (eAnd ga gb) :=
 (sW ha hb).weak fun σ H Q ⟨Z,S,ok,w⟩=>oV ok w fun c H1 Z1 ok1 x1 w1=>⟨c,rfl,by
  cases c with
  | true=>exact⟨Z1,S,ok1,w1⟩
  | false=>exact WG.now w1 ok1.sub _ (by rw[Rep])⟩
theorem tN (ha:FE X F a ga):FE X F (.UnaryOp .Not a pos) (eNot ga) :=
 (sX ha).weak fun σ H Q ⟨Z,S,ok,w⟩=>oV ok w fun c H1 Z1 ok1 x1 w1=>⟨c,rfl,WG.now w1 ok1.sub _ (by rw[Rep])⟩
end
def aNil:SS→R (List D):=fun _=>.ok []
def aCons (g:SS→R D)(gs:SS→R (List D)):SS→R (List D):=fun S=>(g S).bind fun d=>(gs S).bind fun ds=>.ok (d::ds)
def eTup (gs:SS→R (List D)):SS→R D:=fun S=>(gs S).bind fun ds=>if ds.length≤16777216 then .ok (.tup ds) else .stuck
def eLst (gs:SS→R (List D)):SS→R D:=fun S=>(gs S).bind fun ds=>if ds.length≤16777216 then .ok (.lst ds) else .stuck
section
variable {X:Cx}{F:Fx}{e:Expr}{es:List Expr}{g:SS→R D}{gs:SS→R (List D)}{pos:Pos}
theorem tO:FA X F [] aNil:=b7.weak fun σ H Q ⟨Z,S,ok,w⟩=>WG.now w ok.sub [] Reps.nil
theorem qS (ha:FE X F e g)(hr:FA X F es gs)(hs:starEach (e::es) X.env=(false,eval e X.env)::starEach es X.env:=by rfl):FA X F (e::es) (aCons g gs) :=
 (bi ha hr hs).weak fun σ H Q ⟨Z,S,ok,w⟩=>aB ok w fun d v H1 Z1 ok1 x1 rv w1=>aS ok1 w1 fun ds vs H2 Z2 ok2 x2 rs w2=>WG.now w2 ok2.sub _ (Reps.cons (rv.mono x2.z) rs)
theorem tQ {x1}(h:FA X F es gs):FE X F (.Tuple es x1 pos) (eTup gs) :=
 (tD h).weak fun σ H Q ⟨Z,S,ok,w⟩=>aS ok w fun ds vs H1 Z1 ok1 x1 rs w1=>by
  split at w1
  ·rename_i hl
   refine⟨by rw[← rs.length,sizeLine_eq];exact hl,fun p hp=>?_⟩
   have z:Same Z1 (upd Z1 p (.tup vs)):=aH (ok1.sub.free hp)
   exact w1 _ _ (Ex.alloc ok1.sub hp) _ (by rw[Rep];exact⟨p,vs,rfl,SqT.of ao,rs.mono z⟩)
  ·exact w1.elim
theorem tR (h:FA X F es gs):FE X F (.List es pos) (eLst gs) :=
 (kK h).weak fun σ H Q ⟨Z,S,ok,w⟩=>aS ok w fun ds vs H1 Z1 ok1 x1 rs w1=>by
  split at w1
  ·rename_i hl
   refine⟨by rw[← rs.length,sizeLine_eq];exact hl,fun p hp=>?_⟩
   have z:Same Z1 (upd Z1 p (.lst vs)):=aH (ok1.sub.free hp)
   exact w1 _ _ (Ex.alloc ok1.sub hp) _ (by rw[Rep];exact⟨p,vs,rfl,SqL.of ao,rs.mono z⟩)
  ·exact w1.elim
end
def rO (r:R O):O:=match r with
 | .ok o=>o
 | .err k=>.er k
 | .stuck=>.stuck
def sDrop (g:SS→R D):SS→O:=fun S=>rO ((g S).bind fun _=>.ok (.nx S))
def sRet (g:SS→R D):SS→O:=fun S=>rO ((g S).bind fun d=>.ok (.rt d))
def sSet (i:Nat)(g:SS→R D):SS→O:=fun S=>rO ((g S).bind fun d=>.ok (.nx (S.set i (some (.val d)))))
section
variable {X:Cx}{F:Fx}{st:Stmt}{rest:List Stmt}{e c:Expr}{g:SS→R D}{gt:SS→R Bool}{ga gb:SS→O}{pos:Pos}
theorem WO.wg {D:Ends}{r:R O}{H Z:Hp}{S:SS}{σ:St}(ok:StOk F H Z S σ)(w:WO F Z (rO r) D):WG F H Z r fun o _ Z'=>WO F Z' o D:=by
 cases r with
 | ok o=>exact fun _ _ x=>WO.more w x.z
 | err k=>exact fun H' s=>w H' (ok.ex.same.trans s)
 | stuck=>exact w
theorem bq (h:FE X F e g)(hs:swapsWith e none pos.line X.env=pure false:=by rfl):FS X F (.Expr e pos) (sDrop g) :=
 (fZ h hs).weak fun D σ H ⟨Z,S,ok,w⟩=>aB ok (WO.wg ok w) fun d v H1 Z1 ok1 x1 rv w1=>WG.now w1 ok1.sub σ H1 Z1 (Same.refl _) ok1
theorem aj (h:FE X F e g):FS X F (.Return (some e) pos) (sRet g) :=
 (kG h).weak fun D σ H ⟨Z,S,ok,w⟩=>aB ok (WO.wg ok w) fun d v H1 Z1 ok1 x1 rv w1=>WG.now w1 ok1.sub v H1 Z1 ok1.ex rv
theorem aE (i:Nat){x:Str}{pos':Pos}(hN:X.N.Nodup)(h:FE X F e g)(hi:X.N[i]?=some x:=by rfl)(hx:Loc X.env.scope x:=by first | exact Or.inl rfl | exact Or.inr rfl)
  (hs:swapsWith e (some (.Name x pos')) pos.line X.env=pure false:=by rfl) (hf:X.fn x=true∨X.env.scope.names.lookup x=some .local:=by first | exact .inl rfl | exact .inr rfl):FS X F (.Assign [.Name x pos'] e pos) (sSet i g) :=
 (ji hN hi hx h hs hf).weak fun D σ H ⟨Z,S,ok,w⟩=>aB ok (WO.wg ok w) fun d v H1 Z1 ok1 x1 rv w1=>WG.now w1 ok1.sub _ _ _ (Same.refl _) (ok1.setVal rv)
end
theorem OpD.or {F:Fx}{r r':R2}{f f':D→D→R D}(p:D→D→Bool)(h:OpD F r f)(h':OpD F r' f'):OpD F (fun x y H Q=>r x y H Q∨r' x y H Q) (fun x y=>if p x y=true then f x y else f' x y):=by
 intro H Z x y dx dy Q s rx ry w
 by_cases e:p dx dy=true
 ·dsimp only at w;rw[if_pos e]at w;exact .inl (h H Z x y dx dy Q s rx ry w)
 ·dsimp only at w;rw[if_neg e]at w;exact .inr (h' H Z x y dx dy Q s rx ry w)
def dI (c:Int→Int→Bool)(g:Int→Int→D):D→D→R D
 | .int i,.int j=>if c i j=true then .ok (g i j) else .stuck
 | _,_=>.stuck
def dI0 (g:Int→Int→D):D→D→R D
 | .int i,.int j=>.ok (g i j)
 | _,_=>.stuck
theorem oW {F:Fx}{C:Int→Int→Prop}{c:Int→Int→Bool}{g:Int→Int→V}{g':Int→Int→D}(hc:∀ i j,c i j=true→C i j)(hg:∀ i j Z,Rep F.K F.C Z (g' i j) (g i j)):OpD F (rI C g) (dI c g'):=by
 intro H Z x y dx dy Q s rx ry w
 cases dx with
 | int i =>
  cases dy with
  | int j =>
   rw[Rep]at rx
   rw[Rep]at ry
   subst rx;subst ry
   unfold dI at w
   dsimp only at w
   split at w
   ·rename_i q;exact⟨i,j,rfl,rfl,hc i j q,WG.now w s _ (hg i j Z)⟩
   ·exact w.elim
  | _=>exact w.elim
 | _=>exact w.elim
theorem cc {F:Fx}{g:Int→Int→V}{g':Int→Int→D}(hg:∀ i j Z,Rep F.K F.C Z (g' i j) (g i j)):OpD F (rI0 g) (dI0 g'):=by
 intro H Z x y dx dy Q s rx ry w
 cases dx with
 | int i =>
  cases dy with
  | int j =>
   rw[Rep]at rx
   rw[Rep]at ry
   subst rx;subst ry
   exact⟨i,j,rfl,rfl,WG.now w s _ (hg i j Z)⟩
  | _=>exact w.elim
 | _=>exact w.elim
def cMul (i j:Int):Bool:=(decide (-(2^64) < i)&&decide (i < 2^64))||(decide (-(2^64) < j)&&decide (j < 2^64))
def cDiv (i j:Int):Bool:=decide (0 < j)&&decide (j < 1073741824)
theorem qT (i j:Int)(h:cMul i j=true):CMul i j:=by
 unfold cMul at h
 simp only[Bool.or_eq_true,Bool.and_eq_true,decide_eq_true_eq]at h
 exact h
theorem qU (i j:Int)(h:cDiv i j=true):CDiv i j:=by
 unfold cDiv at h
 simp only[Bool.and_eq_true,decide_eq_true_eq]at h
 exact h
def isInt:D→Bool
 | .int _=>true
 | _=>false
def isTup:D→Bool
 | .tup _=>true
 | _=>false
def isLst:D→Bool
 | .lst _=>true
 | _=>false
def dCatT:D→D→R D
 | .tup xs,.tup ys=>if xs.length+ys.length≤16777216 then .ok (.tup (xs++ys)) else .stuck
 | _,_=>.stuck
def dCatL:D→D→R D
 | .lst xs,.lst ys=>if xs.length+ys.length≤16777216 then .ok (.lst (xs++ys)) else .stuck
 | _,_=>.stuck
def dRepT:D→D→R D
 | .tup xs,.int k=>if 0≤k∧k < 1000000∧xs.length*k.toNat≤16777216 then .ok (.tup (List.replicate k.toNat xs).flatten) else .stuck
 | _,_=>.stuck
def dRepL:D→D→R D
 | .lst xs,.int k=>if 0≤k∧k < 1000000∧xs.length*k.toNat≤16777216 then .ok (.lst (List.replicate k.toNat xs).flatten) else .stuck
 | _,_=>.stuck
def dIx:D→D→R D
 | .tup xs,.int i=>match atI xs i with
  | some d=>.ok d
  | none=>.stuck
 | .lst xs,.int i=>match atI xs i with
  | some d=>.ok d
  | none=>.stuck
 | _,_=>.stuck
theorem Reps.at {K:PySem.W.Frag}{C:Nat→Addr}{Z:Hp}{ds:List D}{vs:List V}{i:Int}{d:D}(r:Reps K C Z ds vs)(h:atI ds i=some d):∃ v,atI vs i=some v∧Rep K C Z d v:=by
 unfold atI at h ⊢
 rw[← r.length]
 cases e:ixN ds.length i with
 | none=>rw[e]at h;cases h
 | some j =>
  rw[e]at h
  exact r.get (i:=j) h
theorem tU {F:Fx}:OpD F (rIx F.K) dIx:=by
 intro H Z x y dx dy Q s rx ry w
 cases dx with
 | tup ds =>
  cases dy with
  | int i =>
   rw[Rep]at rx
   rw[Rep]at ry
   obtain⟨a,vs,rfl,h1,h2⟩:=rx
   subst ry
   unfold dIx at w
   dsimp only at w
   split at w
   ·rename_i d e
    obtain⟨v,e1,r⟩:=h2.at e
    exact .inr (.inl ⟨a,vs,i,v,rfl,rfl,h1.mono s,e1,WG.now w s v r⟩)
   ·exact w.elim
  | _=>exact w.elim
 | lst ds =>
  cases dy with
  | int i =>
   rw[Rep]at rx
   rw[Rep]at ry
   obtain⟨a,vs,rfl,h1,h2⟩:=rx
   subst ry
   unfold dIx at w
   dsimp only at w
   split at w
   ·rename_i d e
    obtain⟨v,e1,r⟩:=h2.at e
    exact .inl ⟨a,vs,i,v,rfl,rfl,s.seq h1,e1,WG.now w s v r⟩
   ·exact w.elim
  | _=>exact w.elim
 | _=>exact w.elim
section
open AutoSeq1 (wpAny_loadPart')
theorem jV (l b:Addr)(items items2:Array Value)(n n2:Nat)(dd dd2:Option Addr)(sl sl2:Array (Option Value))(hc0:items.isEmpty=true) :
  Meets (Builtin.«tuple.__add__» ⟨[.ref l,.ref b],[]⟩) (fun _ R s=>s.heap.get? l=some { cls:=.type "tuple",dict:=dd,data:=.seq items n,slots:=sl }∧s.heap.get? b=some { cls:=.type "tuple",dict:=dd2,data:=.seq items2 n2,slots:=sl2 }∧R (.ok (.ret (.ref b))) s) :=
 .of_wp fun prog w A R s h=>by
  obtain⟨hp,g,d,tk,os⟩:=s;obtain⟨hl,hb,h⟩:=h
  have f2:=AutoSeq1.sub_tuple_tuple
  have f3:=AutoSeq1.sub_list_list
  wp_walk using wpAny_loadPart' hl,wpAny_loadPart' hb
  exact⟨_,rfl,h⟩
end
theorem dM {K:PySem.W.Frag}{C:Nat→Addr}{Z:Hp}{ds:List D}{vs:List V}(r:Reps K C Z ds vs):∀ k:Nat,Reps K C Z (List.replicate k ds).flatten (List.replicate k vs).flatten
 | 0=>Reps.nil
 | k+1=>by
  rw[List.replicate_succ,List.replicate_succ,List.flatten_cons,List.flatten_cons]
  exact r.append (dM r k)
def rCat2 (K:PySem.W.Frag):R2:=fun x y H Q=>∃ a b xs ys,x=.ref a∧y=.ref b∧SqT K H a xs∧SqT K H b ys∧xs.length+ys.length≤sizeLine∧(∀ p,H p=none→Q (.ref p) (upd H p (.tup (xs++ys))))∧(ys=[]→Q (.ref a) H)∧(xs=[]→Q (.ref b) H)
theorem qV {X:Cx}:OpR X (binaryOp .Add) (rCat2 X.K):=by
 intro pins s σ H x y v u Q I rx ry h
 obtain⟨a,b,xs,ys,rfl,rfl,ha,hb,hz,q1,q2,q3⟩:=h
 by_cases hx:xs=[]
 ·cases rx
  cases ry
  obtain⟨its,r1,p1,_⟩:=I.tuple ha
  obtain⟨its2,r2,p2,_⟩:=I.tuple hb
  obtain⟨⟨cls,dd,data,sl⟩,ho,hc,n,hd⟩:=id p1
  obtain⟨⟨cls2,dd2,data2,sl2⟩,ho2,hc2,n2,hd2⟩:=id p2
  simp only at hc hd hc2 hd2
  subst hc hd hc2 hd2
  have he:its=[]:=by
   have:=r1.length
   rw[hx]at this
   exact List.length_eq_zero_iff.mp this.symm
  exact concat_meets ⟨_,ho,rfl⟩ ⟨_,ho2,rfl⟩ noFill_tuple_add seq_tuple_add PySem.F.slot_tuple_add PySem.F.entry_tuple_add (PySem.F.args_tuple_add_2 _ _)
   (jV a b its.toArray its2.toArray n n2 dd dd2 sl sl2 (by simp[he])) ⟨ho,ho2,⟨.ref b,H,I,rfl,q3 hx⟩⟩
 ·exact qQ pins s σ H _ _ v u Q I rx ry ⟨a,b,xs,ys,rfl,rfl,ha,hb,hx,hz,q2,fun _=>q1⟩
theorem oX {F:Fx}:OpD F (rCat2 F.K) dCatT:=by
 intro H Z x y dx dy Q s rx ry w
 cases dx with
 | tup ds =>
  cases dy with
  | tup es =>
   rw[Rep]at rx
   rw[Rep]at ry
   obtain⟨a,vs,rfl,h1,h2⟩:=rx
   obtain⟨b,us,rfl,k1,k2⟩:=ry
   unfold dCatT at w
   dsimp only at w
   split at w
   ·rename_i hl
    refine⟨a,b,vs,us,rfl,rfl,h1.mono s,k1.mono s,by rw[← h2.length,← k2.length,sizeLine_eq];exact hl,fun p hp=>?_,fun e=>?_,fun e=>?_⟩
    ·have z:Same Z (upd Z p (.tup (vs++us))):=aH (s.free hp)
     exact w _ _ (Ex.alloc s hp) _ (by rw[Rep];exact⟨p,_,rfl,SqT.of ao,(h2.append k2).mono z⟩)
    ·have:es=[]:=List.length_eq_zero_iff.mp (by rw[k2.length,e];rfl)
     subst this
     exact WG.now w s _ (by rw[List.append_nil,Rep];exact⟨a,vs,rfl,h1,h2⟩)
    ·have:ds=[]:=List.length_eq_zero_iff.mp (by rw[h2.length,e];rfl)
     subst this
     exact WG.now w s _ (by rw[List.nil_append,Rep];exact⟨b,us,rfl,k1,k2⟩)
   ·exact w.elim
  | _=>exact w.elim
 | _=>exact w.elim
def rRepT (K:PySem.W.Frag):R2:=fun x y H Q=>∃ a k xs,x=.ref a∧y=.int k∧SqT K H a xs∧0≤k∧k < 1000000∧xs.length*k.toNat≤sizeLine∧(∀ p,H p=none→Q (.ref p) (upd H p (.tup (List.replicate k.toNat xs).flatten)))∧((List.replicate k.toNat xs).flatten=xs→Q (.ref a) H)
theorem qW {X:Cx}:OpR X (binaryOp .Mult) (rRepT X.K):=by
 intro pins s σ H x y v u Q I rx ry h
 obtain⟨a,k,xs,rfl,rfl,ha,h0,h1,hz,q1,q2⟩:=h
 cases rx
 obtain⟨t,rfl⟩:=ry
 obtain⟨its,r,p1,_⟩:=I.tuple ha
 have hl:=r.length
 obtain⟨⟨cls,dd,data,sl⟩,ho,hc,n,hd⟩:=id p1
 simp only at hc hd
 subst hc hd
 refine wpAny_binaryOp_repeat_ref (T := "tuple") (U := "int") (by decide) ⟨_,ho,rfl⟩ (fun s'=>typeIs_int s' k t) eQ PySem.F.fills_int_mul PySem.F.slot_int_rmul jn PySem.F.slot_int_index.lookup
  (call_meets PySem.F.slot_int_rmul (typeIs_int s k t) PySem.F.entry_int_rmul (PySem.F.args_int_rmul_2 _ _) (gA k t a its.toArray n dd sl) ⟨ho,rfl,⟨_,ho,rfl⟩,?_⟩)
 cases its with
 | nil =>
  have hx:xs=[]:=List.length_eq_zero_iff.mp hl
  have e:(List.replicate k.toNat xs).flatten=xs:=by rw[hx];simp
  exact call_meets PySem.F.slot_tuple_mul ⟨_,ho,rfl⟩ PySem.F.entry_tuple_mul (PySem.F.args_tuple_mul_2 _ _) (iy a n k t dd sl h0 h1) ⟨ho,⟨.ref a,H,I,rfl,q2 e⟩⟩
 | cons it its' =>
  have hne:(it::its').toArray.isEmpty=false:=by simp
  by_cases k1:k=1
  ·subst k1
   have e:(List.replicate (1:Int).toNat xs).flatten=xs:=by simp
   exact call_meets PySem.F.slot_tuple_mul ⟨_,ho,rfl⟩ PySem.F.entry_tuple_mul (PySem.F.args_tuple_mul_2 _ _) (iw a _ n t dd sl) ⟨ho,⟨.ref a,H,I,rfl,q2 e⟩⟩
  ·by_cases k0:k=0
   ·subst k0
    refine call_meets PySem.F.slot_tuple_mul ⟨_,ho,rfl⟩ PySem.F.entry_tuple_mul (PySem.F.args_tuple_mul_2 _ _) (gC a _ n t dd sl hne) ⟨ho,?_⟩
    refine⟨.ref s.heap.objs.size,_,I.laid (t':=s.toks) (o:=.tup []) (fun b ob q=>Heap.get?_push_of_some _ q) (Nat.le_refl _) ?_,rfl,q1 _ (I.hok.fresh (Nat.le_refl _))⟩
    exact⟨Nat.zero_le _,[],.nil,TupO.new _ _⟩
   ·refine call_meets PySem.F.slot_tuple_mul ⟨_,ho,rfl⟩ PySem.F.entry_tuple_mul (PySem.F.args_tuple_mul_2 _ _) (iu a _ n k t dd sl (by omega) h1 (by rw[List.size_toArray,← hl];exact hz) hne) ⟨ho,?_⟩
    have ef:=eN (it::its') k.toNat []
    rw[List.nil_append]at ef
    have ef':List.foldl (fun x1 x2=>x1++x2) #[] (List.replicate k.toNat (it::its').toArray)=(List.replicate k.toNat (it::its')).flatten.toArray:=ef
    rw[ef']
    refine⟨.ref s.heap.objs.size,_,I.laid (t':=s.toks) (o:=.tup (List.replicate k.toNat xs).flatten) (fun b ob q=>Heap.get?_push_of_some _ q) (Nat.le_refl _) ?_,rfl,q1 _ (I.hok.fresh (Nat.le_refl _))⟩
    exact⟨by rw[l5,Nat.mul_comm];exact hz,_,r.rep k.toNat,TupO.new _ _⟩
theorem oY {F:Fx}:OpD F (rRepT F.K) dRepT:=by
 intro H Z x y dx dy Q s rx ry w
 cases dx with
 | tup ds =>
  cases dy with
  | int k =>
   rw[Rep]at rx
   rw[Rep]at ry
   obtain⟨a,vs,rfl,h1,h2⟩:=rx
   subst ry
   unfold dRepT at w
   dsimp only at w
   split at w
   ·rename_i hk
    refine⟨a,k,vs,rfl,rfl,h1.mono s,hk.1,hk.2.1,by rw[← h2.length,sizeLine_eq];exact hk.2.2,fun p hp=>?_,fun e=>?_⟩
    ·have z:Same Z (upd Z p (.tup (List.replicate k.toNat vs).flatten)):=aH (s.free hp)
     exact w _ _ (Ex.alloc s hp) _ (by rw[Rep];exact⟨p,_,rfl,SqT.of ao,(dM h2 k.toNat).mono z⟩)
    ·refine WG.now w s _ ?_
     rw[Rep]
     exact⟨a,vs,rfl,h1,by have:=dM h2 k.toNat;rw[e]at this;exact this⟩
   ·exact w.elim
  | _=>exact w.elim
 | _=>exact w.elim
theorem oZ {F:Fx}:OpD F (fun x y H Q=>∃ a b xs ys,x=.ref a∧y=.ref b∧SqL F.K H a xs∧SqL F.K H b ys∧xs.length+ys.length≤sizeLine∧∀ p,H p=none→Q (.ref p) (upd H p (.lst (xs++ys)))) dCatL:=by
 intro H Z x y dx dy Q s rx ry w
 cases dx with
 | lst ds =>
  cases dy with
  | lst es =>
   rw[Rep]at rx
   rw[Rep]at ry
   obtain⟨a,vs,rfl,h1,h2⟩:=rx
   obtain⟨b,us,rfl,k1,k2⟩:=ry
   unfold dCatL at w
   dsimp only at w
   split at w
   ·rename_i hl
    refine⟨a,b,vs,us,rfl,rfl,s.seq h1,s.seq k1,by rw[← h2.length,← k2.length,sizeLine_eq];exact hl,fun p hp=>?_⟩
    have z:Same Z (upd Z p (.lst (vs++us))):=aH (s.free hp)
    exact w _ _ (Ex.alloc s hp) _ (by rw[Rep];exact⟨p,_,rfl,SqL.of ao,(h2.append k2).mono z⟩)
   ·exact w.elim
  | _=>exact w.elim
 | _=>exact w.elim
theorem o0 {X:Cx}:OpR X (binaryOp .Add) (fun x y H Q=>∃ a b xs ys,x=.ref a∧y=.ref b∧SqL X.K H a xs∧SqL X.K H b ys∧xs.length+ys.length≤sizeLine∧∀ p,H p=none→Q (.ref p) (upd H p (.lst (xs++ys)))):=by
 intro pins s σ H x y v u Q I rx ry h
 obtain⟨a,b,xs,ys,rfl,rfl,ha,hb,hz,q⟩:=h
 cases rx
 cases ry
 obtain⟨its,r,⟨o,n,e,c1,c2,c3⟩,_⟩:=I.list ha
 obtain⟨its2,r2,⟨o2,n2,e2,d1,d2,d3⟩,_⟩:=I.list hb
 have l1:=r.length
 have l2:=r2.length
 obtain⟨cls,dd,data,sl⟩:=o
 obtain⟨cls2,dd2,data2,sl2⟩:=o2
 simp only at c1 c3 d1 d3
 subst c1 c3 d1 d3
 refine concat_meets ⟨_,e,rfl⟩ ⟨_,e2,rfl⟩ noFill_list_add seq_list_add PySem.F.slot_list_add PySem.F.entry_list_add (PySem.F.args_list_add_2 _ _) (mW a b its.toArray its2.toArray n n2 dd dd2 sl sl2 (by rw[List.size_toArray,List.size_toArray];omega)) ⟨e,e2,?_⟩
 have ea:its.toArray++its2.toArray=(its++its2).toArray:=by simp
 rw[ea]
 exact⟨.ref _,_,I.lnew (t':=s.toks) (r.append r2) (by rw[List.length_append];omega),rfl,q _ I.fresh⟩
def rRepL (K:PySem.W.Frag):R2:=fun x y H Q=>∃ a k xs,x=.ref a∧y=.int k∧SqL K H a xs∧0≤k∧k < 1000000∧xs.length*k.toNat≤sizeLine∧∀ p,H p=none→Q (.ref p) (upd H p (.lst (List.replicate k.toNat xs).flatten))
theorem qX {X:Cx}:OpR X (binaryOp .Mult) (rRepL X.K):=by
 intro pins s σ H x y v u Q I rx ry h
 obtain⟨a,k,xs,rfl,rfl,ha,h0,h1,hz,q⟩:=h
 cases rx
 obtain⟨t,rfl⟩:=ry
 obtain⟨its,r,⟨o,n,e,c1,c2,c3⟩,_⟩:=I.list ha
 have hl:=r.length
 obtain⟨cls,dd,data,sl⟩:=o
 simp only at c1 c3
 subst c1 c3
 refine wpAny_binaryOp_repeat_ref (T := "list") (U := "int") (by decide) ⟨_,e,rfl⟩ (fun s'=>typeIs_int s' k t) noFill_list_mul PySem.F.fills_int_mul PySem.F.slot_int_rmul repeat_list PySem.F.slot_int_index.lookup
  (call_meets PySem.F.slot_int_rmul (typeIs_int s k t) PySem.F.entry_int_rmul (PySem.F.args_int_rmul_2 _ _) (iz k t a its.toArray n dd sl) ⟨e,rfl,⟨_,e,rfl⟩,
   call_meets PySem.F.slot_list_mul ⟨_,e,rfl⟩ PySem.F.entry_list_mul (PySem.F.args_list_mul_2 _ _) (mX a its.toArray n k t dd sl (by omega) (by omega) (by rw[List.size_toArray,← hl];exact hz)) ⟨e,?_⟩⟩)
 have hnew:List.foldl (fun x1 x2=>x1++x2) #[] (List.replicate (if its.toArray.isEmpty=true then 0 else k.toNat) its.toArray)=(List.replicate k.toNat its).flatten.toArray:=by
  have f0:∀ m:Nat,List.foldl (fun x1 x2=>x1++x2) #[] (List.replicate m its.toArray)=(List.replicate m its).flatten.toArray:=fun m=>by
   have:=eN its m []
   rwa [List.nil_append]at this
  rw[f0]
  cases its with
  | nil=>simp
  | cons a r'=>rw[if_neg (by simp)]
 rw[hnew]
 exact⟨.ref _,_,I.lnew (t':=s.toks) (r.rep k.toNat) (by rw[l5,Nat.mul_comm];exact hz),rfl,q _ I.fresh⟩
theorem o4 {F:Fx}:OpD F (rRepL F.K) dRepL:=by
 intro H Z x y dx dy Q s rx ry w
 cases dx with
 | lst ds =>
  cases dy with
  | int k =>
   rw[Rep]at rx
   rw[Rep]at ry
   obtain⟨a,vs,rfl,h1,h2⟩:=rx
   subst ry
   unfold dRepL at w
   dsimp only at w
   split at w
   ·rename_i hk
    refine⟨a,k,vs,rfl,rfl,s.seq h1,hk.1,hk.2.1,by rw[← h2.length,sizeLine_eq];exact hk.2.2,fun p hp=>?_⟩
    have z:Same Z (upd Z p (.lst (List.replicate k.toNat vs).flatten)):=aH (s.free hp)
    exact w _ _ (Ex.alloc s hp) _ (by rw[Rep];exact⟨p,_,rfl,SqL.of ao,(dM h2 k.toNat).mono z⟩)
   ·exact w.elim
  | _=>exact w.elim
 | _=>exact w.elim
mutual
def eqD:D→D→Bool
 | .non,.non=>true
 | .bl a,.bl b=>a==b
 | .bl a,.int b=>(if a then 1 else 0)==b
 | .int a,.bl b=>a==(if b then 1 else 0)
 | .int a,.int b=>a==b
 | .str a,.str b=>a==b
 | .tup xs,.tup ys=>eqDs xs ys
 | .lst xs,.lst ys=>eqDs xs ys
 | _,_=>false
def eqDs:List D→List D→Bool
 | [],[]=>true
 | x::xs,y::ys=>eqD x y&&eqDs xs ys
 | _,_=>false
end
mutual
def good:Nat→D→Bool
 | _,.exc _=>false
 | _,.fn _=>false
 | _,.tab _ _=>false
 | _,.dic _ _=>false
 | _,.ptr _=>false
 | 0,.tup _=>false
 | 0,.lst _=>false
 | n+1,.tup xs=>goods n xs
 | n+1,.lst xs=>goods n xs
 | _,_=>true
def goods:Nat→List D→Bool
 | _,[]=>true
 | n,x::xs=>good n x&&goods n xs
end
mutual
theorem gD:∀ (n:Nat) (d:D),good n d=true→eqD d d=true
 | n,.non,_=>by simp[eqD]
 | n,.bl b,_=>by simp[eqD]
 | n,.int i,_=>by simp[eqD]
 | n,.str x,_=>by simp[eqD]
 | 0,.tup xs,h=>by simp[good]at h
 | 0,.lst xs,h=>by simp[good]at h
 | n+1,.tup xs,h=>by rw[good]at h;rw[eqD];exact eR n xs h
 | n+1,.lst xs,h=>by rw[good]at h;rw[eqD];exact eR n xs h
 | n,.exc k,h=>by cases n<;>simp[good]at h
 | n,.fn k,h=>by cases n<;>simp[good]at h
 | n,.tab ks xs,h=>by cases n<;>simp[good]at h
 | n,.dic ks xs,h=>by cases n<;>simp[good]at h
 | n,.ptr a,h=>by cases n<;>simp[good]at h
theorem eR:∀ (n:Nat) (ds:List D),goods n ds=true→eqDs ds ds=true
 | n,[],_=>by simp[eqDs]
 | n,d::ds,h=>by
  rw[goods,Bool.and_eq_true]at h
  rw[eqDs,gD n d h.1,eR n ds h.2]
  rfl
end
theorem aK {n:Nat}:∀ {ds:List D} {i:Nat} {d:D},goods n ds=true→ds[i]?=some d→good n d=true
 | [],_,_,_,e=>by simp at e
 | x::xs,0,d,h,e=>by
  rw[goods,Bool.and_eq_true]at h
  simp at e;subst e;exact h.1
 | x::xs,i+1,d,h,e=>by
  rw[goods,Bool.and_eq_true]at h
  exact aK h.2 (by simpa using e)
theorem bH:∀ (ds es:List D),eqDs ds es=((List.range (min ds.length es.length)).all (fun j=>eqD (ds.getD j .non) (es.getD j .non))&&ds.length==es.length)
 | [],[]=>by simp[eqDs]
 | [],e::es=>by simp[eqDs]
 | d::ds,[]=>by simp[eqDs]
 | d::ds,e::es=>by
  rw[eqDs,bH ds es]
  have h1:min (d::ds).length (e::es).length=min ds.length es.length+1:=by simp only[List.length_cons];omega
  rw[h1,List.range_succ_eq_map,List.all_cons,List.all_map]
  have h2:((d::ds).length==(e::es).length)=(ds.length==es.length):=by simp
  rw[h2]
  simp only[List.getD_cons_zero,Bool.and_assoc]
  rfl
section
variable {X:Cx}{F:Fx}{pins:List (Addr×Obj)}{σ:St}{H Z:Hp}{s:Shared}
theorem iR {a:Addr}{xs ys:List V}(I:Inv X pins σ H s)(h:SqL X.K H a xs)(h':SqT X.K H a ys):False:=by
 obtain⟨its,r,p,_⟩:=I.list h
 obtain⟨its',r',p',_⟩:=I.tuple h'
 exact SeqAt.ne_of_list_tuple p.isList (show s.heap.IsTuple a its'.toArray from p') rfl
mutual
theorem gj {K:PySem.W.Frag}{C:Nat→Addr}(hK:X.K=K)(I:Inv X pins σ H s)(z:Same Z H):∀ (n:Nat) (d e:D) (v:V),good n d=true→good n e=true→Rep K C Z d v→Rep K C Z e v→d=e
 | n,.non,e,v,g1,g2,h,h'=>by rw[Rep]at h;subst h;cases e<;>rw[Rep]at h'<;>first | rfl | (obtain⟨_,_,q,_⟩:=h';cases q;done) | (obtain⟨_,q,_⟩:=h';cases q;done) | (cases h';done)
 | n,.bl b,e,v,g1,g2,h,h'=>by rw[Rep]at h;subst h;cases e<;>rw[Rep]at h'<;>first | (cases h';rfl) | (obtain⟨_,_,q,_⟩:=h';cases q;done) | (obtain⟨_,q,_⟩:=h';cases q;done) | (cases h';done)
 | n,.int b,e,v,g1,g2,h,h'=>by rw[Rep]at h;subst h;cases e<;>rw[Rep]at h'<;>first | (cases h';rfl) | (obtain⟨_,_,q,_⟩:=h';cases q;done) | (obtain⟨_,q,_⟩:=h';cases q;done) | (cases h';done)
 | n,.str b,e,v,g1,g2,h,h'=>by rw[Rep]at h;subst h;cases e<;>rw[Rep]at h'<;>first | (cases h';rfl) | (obtain⟨_,_,q,_⟩:=h';cases q;done) | (obtain⟨_,q,_⟩:=h';cases q;done) | (cases h';done)
 | 0,.tup xs,e,v,g1,g2,h,h'=>by simp[good]at g1
 | 0,.lst xs,e,v,g1,g2,h,h'=>by simp[good]at g1
 | n,.exc k,e,v,g1,g2,h,h'=>by cases n<;>simp[good]at g1
 | n,.fn k,e,v,g1,g2,h,h'=>by cases n<;>simp[good]at g1
 | n,.tab ks xs,e,v,g1,g2,h,h'=>by cases n<;>simp[good]at g1
 | n,.dic ks xs,e,v,g1,g2,h,h'=>by cases n<;>simp[good]at g1
 | n,.ptr a,e,v,g1,g2,h,h'=>by cases n<;>simp[good]at g1
 | n+1,.tup ds,e,v,g1,g2,h,h'=>by
  rw[Rep]at h
  obtain⟨a,vs,rfl,h1,h2⟩:=h
  cases e with
  | tup es =>
   rw[Rep]at h'
   obtain⟨b,us,q,k1,k2⟩:=h'
   cases q
   have e1:vs=us:=I.tuple_inj (by rw[hK];exact h1.mono z) (by rw[hK];exact k1.mono z)
   subst e1
   rw[good]at g1 g2
   rw[gE hK I z n ds es vs g1 g2 h2 k2]
  | lst es =>
   rw[Rep]at h'
   obtain⟨b,us,q,k1,k2⟩:=h'
   cases q
   exact(iR I (by rw[hK];exact z.seq k1) (by rw[hK];exact h1.mono z)).elim
  | exc k=>simp[good]at g2
  | fn k=>simp[good]at g2
  | tab ks xs=>simp[good]at g2
  | dic ks xs=>simp[good]at g2
  | ptr a=>simp[good]at g2
  | _=>rw[Rep]at h';cases h'
 | n+1,.lst ds,e,v,g1,g2,h,h'=>by
  rw[Rep]at h
  obtain⟨a,vs,rfl,h1,h2⟩:=h
  cases e with
  | lst es =>
   rw[Rep]at h'
   obtain⟨b,us,q,k1,k2⟩:=h'
   cases q
   have e1:vs=us:=I.list_inj (by rw[hK];exact z.seq h1) (by rw[hK];exact z.seq k1)
   subst e1
   rw[good]at g1 g2
   rw[gE hK I z n ds es vs g1 g2 h2 k2]
  | tup es =>
   rw[Rep]at h'
   obtain⟨b,us,q,k1,k2⟩:=h'
   cases q
   exact(iR I (by rw[hK];exact z.seq h1) (by rw[hK];exact k1.mono z)).elim
  | exc k=>simp[good]at g2
  | fn k=>simp[good]at g2
  | tab ks xs=>simp[good]at g2
  | dic ks xs=>simp[good]at g2
  | ptr a=>simp[good]at g2
  | _=>rw[Rep]at h';cases h'
theorem gE {K:PySem.W.Frag}{C:Nat→Addr}(hK:X.K=K)(I:Inv X pins σ H s)(z:Same Z H):∀ (n:Nat) (ds es:List D) (vs:List V),goods n ds=true→goods n es=true→Reps K C Z ds vs→Reps K C Z es vs→ds=es
 | n,[],es,vs,g1,g2,h,h'=>by
  rw[Reps]at h;subst h
  cases es with
  | nil=>rfl
  | cons e es=>rw[Reps]at h';obtain⟨_,_,q,_⟩:=h';cases q
 | n,d::ds,es,vs,g1,g2,h,h'=>by
  rw[Reps]at h
  obtain⟨v,r,rfl,h1,h2⟩:=h
  cases es with
  | nil=>rw[Reps]at h';cases h'
  | cons e es =>
   obtain⟨k1,k2⟩:=h'.uncons
   rw[goods,Bool.and_eq_true]at g1 g2
   rw[gj hK I z n d e v g1.1 g2.1 h1 k1,gE hK I z n ds es r g1.2 g2.2 h2 k2]
end
def flatD:D→Bool
 | .non=>true
 | .bl _=>true
 | .int _=>true
 | .str _=>true
 | _=>false
theorem dN {K:PySem.W.Frag}{C:Nat→Addr}{d:D}{v:V}(f:flatD d=true)(h:Rep K C Z d v):flatV v=true:=by
 cases d<;>first | (rw[Rep]at h;subst h;rfl) | simp[flatD]at f
theorem jW {K:PySem.W.Frag}{C:Nat→Addr}{d e:D}{v u:V}(f1:flatD d=true)(f2:flatD e=true)(h:Rep K C Z d v)(h':Rep K C Z e u):eqV v u=eqD d e:=by
 cases d<;>first | (simp[flatD]at f1;done) | (cases e<;>first | (simp[flatD]at f2;done) | (rw[Rep]at h;rw[Rep]at h';subst h;subst h';simp[eqV,eqD]))
set_option maxHeartbeats 4000000 in
theorem dl {K:PySem.W.Frag}{C:Nat→Addr}(hK:X.K=K)(I:Inv X pins σ H s)(z:Same Z H):∀ (n:Nat) (A:Around) (d e:D) (v u:V) (x y:Value),good n d=true→good n e=true→Rep K C Z d v→Rep K C Z e u→RelV v x→RelV u y→A.units+n < cLine→SeqAt.EqAt A s x y (eqD d e):=by
 intro n
 induction n with
 | zero =>
  intro A d e v u x y g1 g2 h h' rx ry hu
  have f1:flatD d=true:=by cases d<;>first | rfl | simp[good]at g1
  have f2:flatD e=true:=by cases e<;>first | rfl | simp[good]at g2
  rw[← jW f1 f2 h h']
  exact oS rx ry (dN f1 h) (dN f2 h')
 | succ n ih =>
  intro A d e v u x y g1 g2 h h' rx ry hu
  have hu0:A.units < cLine:=by omega
  have in1:A.in1.units+n < cLine:=by show A.units+1+n < cLine;omega
  by_cases f1:flatD d=true
  ·by_cases f2:flatD e=true
   ·rw[← jW f1 f2 h h']
    exact oS rx ry (dN f1 h) (dN f2 h')
   ·cases e with
    | tup es =>
     rw[Rep]at h'
     obtain⟨b,us,rfl,k1,k2⟩:=h'
     cases ry
     obtain⟨its,_,p,_⟩:=I.tuple (by rw[hK];exact k1.mono z:SqT X.K H b us)
     have p':s.heap.IsTuple b its.toArray:=p
     cases d<;>first | (simp[flatD]at f1;done) | (rw[Rep]at h;subst h;simp only[eqD];first | (cases rx;first | exact SeqAt.EqAt.none_tuple p' hu0 | exact SeqAt.EqAt.bool_tuple _ p' hu0) | (obtain⟨t,rfl⟩:=rx;first | exact SeqAt.EqAt.int_tuple _ _ p' hu0 | exact SeqAt.EqAt.str_tuple _ _ p' hu0))
    | lst es =>
     rw[Rep]at h'
     obtain⟨b,us,rfl,k1,k2⟩:=h'
     cases ry
     obtain⟨its,_,p,_⟩:=I.list (by rw[hK];exact z.seq k1:SqL X.K H b us)
     have p':=p.isList
     cases d<;>first | (simp[flatD]at f1;done) | (rw[Rep]at h;subst h;simp only[eqD];first | (cases rx;first | exact SeqAt.EqAt.none_list p' hu0 | exact SeqAt.EqAt.bool_list _ p' hu0) | (obtain⟨t,rfl⟩:=rx;first | exact SeqAt.EqAt.int_list _ _ p' hu0 | exact SeqAt.EqAt.str_list _ _ p' hu0))
    | exc k=>simp[good]at g2
    | fn k=>simp[good]at g2
    | tab ks xs=>simp[good]at g2
    | dic ks xs=>simp[good]at g2
    | ptr a=>simp[good]at g2
    | _=>simp[flatD]at f2
  ·cases d with
   | tup ds =>
    have hh:=h
    rw[Rep]at h
    obtain⟨a,vs,rfl,h1,h2⟩:=h
    cases rx
    obtain⟨its,r,p,_⟩:=I.tuple (by rw[hK];exact h1.mono z:SqT X.K H a vs)
    have p':s.heap.IsTuple a its.toArray:=p
    cases e with
    | tup es =>
     have hh':=h'
     rw[Rep]at h'
     obtain⟨b,us,rfl,k1,k2⟩:=h'
     cases ry
     by_cases hab:a=b
     ·subst hab
      have:=gj hK I z (n+1) _ _ _ g1 g2 hh hh'
      rw[← this,gD (n+1) _ g1]
      exact SeqAt.EqAt.same _
     ·obtain⟨its2,r2,p2,_⟩:=I.tuple (by rw[hK];exact k1.mono z:SqT X.K H b us)
      have p2':s.heap.IsTuple b its2.toArray:=p2
      rw[good]at g1 g2
      have q:=SeqAt.RcAt.tuples (A:=A) (e:=fun j=>eqD (ds.getD j .non) (es.getD j .non)) p' p2' hu0 fun j j1 j2=>by
       have j1':j < its.length:=by simpa using j1
       have j2':j < its2.length:=by simpa using j2
       have l1:j < ds.length:=by rw[h2.length,r.length];exact j1'
       have l2:j < es.length:=by rw[k2.length,r2.length];exact j2'
       have e1:ds[j]?=some ds[j]:=by simp
       have e2:es[j]?=some es[j]:=by simp
       obtain⟨w1,f1,f2⟩:=h2.get e1
       obtain⟨w2,f3,f4⟩:=k2.get e2
       obtain⟨z1,m1,m2⟩:=r.get f1
       obtain⟨z2,m3,m4⟩:=r2.get f3
       have n1:its.toArray[j]=z1:=by simpa [j1'] using m1
       have n2:its2.toArray[j]=z2:=by simpa [j2'] using m3
       rw[n1,n2]
       have g3:ds.getD j .non=ds[j]:=by simp[l1]
       have g4:es.getD j .non=es[j]:=by simp[l2]
       rw[g3,g4]
       exact ih A.in1 _ _ w1 w2 z1 z2 (aK g1 e1) (aK g2 e2) f2 f4 m2 m4 in1
      rw[eqD,bH]
      have s1:its.toArray.size=ds.length:=by rw[List.size_toArray,h2.length,r.length]
      have s2:its2.toArray.size=es.length:=by rw[List.size_toArray,k2.length,r2.length]
      rw[s1,s2]at q
      exact SeqAt.EqAt.of_refs hab q
    | lst es =>
     rw[Rep]at h'
     obtain⟨b,us,rfl,k1,k2⟩:=h'
     cases ry
     obtain⟨its2,r2,p2,_⟩:=I.list (by rw[hK];exact z.seq k1:SqL X.K H b us)
     simp only[eqD]
     exact SeqAt.EqAt.tuple_list p' p2.isList hu0
    | exc k=>simp[good]at g2
    | fn k=>simp[good]at g2
    | tab ks xs=>simp[good]at g2
    | dic ks xs=>simp[good]at g2
    | ptr a=>simp[good]at g2
    | _=>rw[Rep]at h';subst h';simp only[eqD];first | (cases ry;first | exact SeqAt.EqAt.tuple_none p' hu0 | exact SeqAt.EqAt.tuple_bool _ p' hu0) | (obtain⟨t,rfl⟩:=ry;first | exact SeqAt.EqAt.tuple_int _ _ p' hu0 | exact SeqAt.EqAt.tuple_str _ _ p' hu0)
   | lst ds =>
    have hh:=h
    rw[Rep]at h
    obtain⟨a,vs,rfl,h1,h2⟩:=h
    cases rx
    obtain⟨its,r,p,_⟩:=I.list (by rw[hK];exact z.seq h1:SqL X.K H a vs)
    have p':=p.isList
    cases e with
    | lst es =>
     have hh':=h'
     rw[Rep]at h'
     obtain⟨b,us,rfl,k1,k2⟩:=h'
     cases ry
     by_cases hab:a=b
     ·subst hab
      have:=gj hK I z (n+1) _ _ _ g1 g2 hh hh'
      rw[← this,gD (n+1) _ g1]
      exact SeqAt.EqAt.same _
     ·obtain⟨its2,r2,p2,_⟩:=I.list (by rw[hK];exact z.seq k1:SqL X.K H b us)
      have p2':=p2.isList
      rw[good]at g1 g2
      have s1:its.toArray.size=ds.length:=by rw[List.size_toArray,h2.length,r.length]
      have s2:its2.toArray.size=es.length:=by rw[List.size_toArray,k2.length,r2.length]
      rw[eqD,bH]
      by_cases hsz:ds.length=es.length
      ·have q:=SeqAt.RcAt.lists (A:=A) (e:=fun j=>eqD (ds.getD j .non) (es.getD j .non)) p' p2' (by rw[s1,s2];exact hsz) hu0 fun j j1 j2=>by
        have j1':j < its.length:=by simpa using j1
        have j2':j < its2.length:=by simpa using j2
        have l1:j < ds.length:=by rw[h2.length,r.length];exact j1'
        have l2:j < es.length:=by rw[k2.length,r2.length];exact j2'
        have e1:ds[j]?=some ds[j]:=by simp
        have e2:es[j]?=some es[j]:=by simp
        obtain⟨w1,f1,f2⟩:=h2.get e1
        obtain⟨w2,f3,f4⟩:=k2.get e2
        obtain⟨z1,m1,m2⟩:=r.get f1
        obtain⟨z2,m3,m4⟩:=r2.get f3
        have n1:its.toArray[j]=z1:=by simpa [j1'] using m1
        have n2:its2.toArray[j]=z2:=by simpa [j2'] using m3
        rw[n1,n2]
        have g3:ds.getD j .non=ds[j]:=by simp[l1]
        have g4:es.getD j .non=es[j]:=by simp[l2]
        rw[g3,g4]
        exact ih A.in1 _ _ w1 w2 z1 z2 (aK g1 e1) (aK g2 e2) f2 f4 m2 m4 in1
       rw[s1]at q
       rw[hsz,Nat.min_self,beq_self_eq_true,Bool.and_true,← hsz]
       exact SeqAt.EqAt.of_refs hab q
      ·have q:=SeqAt.RcAt.lists_lengths (A:=A) p' p2' (by rw[s1,s2];simpa using hsz) hu0
       rw[show (ds.length==es.length)=false by simpa using hsz,Bool.and_false]
       exact SeqAt.EqAt.of_refs hab q
    | tup es =>
     rw[Rep]at h'
     obtain⟨b,us,rfl,k1,k2⟩:=h'
     cases ry
     obtain⟨its2,r2,p2,_⟩:=I.tuple (by rw[hK];exact k1.mono z:SqT X.K H b us)
     simp only[eqD]
     exact SeqAt.EqAt.list_tuple p' (show s.heap.IsTuple b its2.toArray from p2) hu0
    | exc k=>simp[good]at g2
    | fn k=>simp[good]at g2
    | tab ks xs=>simp[good]at g2
    | dic ks xs=>simp[good]at g2
    | ptr a=>simp[good]at g2
    | _=>rw[Rep]at h';subst h';simp only[eqD];first | (cases ry;first | exact SeqAt.EqAt.list_none p' hu0 | exact SeqAt.EqAt.list_bool _ p' hu0) | (obtain⟨t,rfl⟩:=ry;first | exact SeqAt.EqAt.list_int _ _ p' hu0 | exact SeqAt.EqAt.list_str _ _ p' hu0)
   | exc k=>simp[good]at g1
   | fn k=>simp[good]at g1
   | tab ks xs=>simp[good]at g1
   | dic ks xs=>simp[good]at g1
   | ptr a=>simp[good]at g1
   | _=>simp[flatD]at f1
end
theorem objThere {P:Program}{w:World}{H:Hp}{h:Heap}{a:Addr}{o:HO}(x:ObjOk P w H h a o):∃ ob,h.get? a=some ob:=by
 cases o with
 | lst xs=>obtain⟨_,_,_,_,e⟩:=x;exact⟨_,e⟩
 | tup xs=>obtain⟨_,_,_,o,e,_⟩:=x;exact⟨o,e⟩
 | dK kvs=>obtain⟨_,_,_,_,o,_,_,e,_⟩:=x;exact⟨o,e⟩
 | dT kvs=>obtain⟨_,_,_,_,o,_,_,e,_⟩:=x;exact⟨o,e⟩
 | set S n=>obtain⟨o,_,_,_,e,_⟩:=x;exact⟨o,e⟩
 | ins C dx fs=>obtain⟨_,_,_,e,_⟩:=x;exact⟨_,e⟩
 | own y=>exact x
 | xd fs=>obtain⟨_,⟨o,_,_,e,_⟩,_⟩:=x;exact⟨o,e⟩
 | rng lo hi=>obtain⟨_,_,_,e⟩:=x;exact⟨_,e⟩
 | frz ob u=>obtain⟨e,_⟩:=x;exact⟨_,e⟩
 | tbl ps=>exact⟨_,(show h.get? a=some _ from x)⟩
 | met f y=>exact⟨_,(show h.get? a=some _ from x)⟩
 | ext φ=>obtain⟨_,e,_⟩:=x;exact e
def Cov (B:Heap)(h h':Heap)(H':Hp)(l:List Env):Prop:=∀ b o,h'.get? b=some o→(H' b≠none∨∃ o',h.get? b=some o')→b∉frs l→B.get? b=some o
def CXE (P:Program)(w:World):CXT:=fun outer H s E e s' =>
 ∃ (ea C t:Addr) (H':Hp) (B:Heap),e=.ref ea∧s'.os=s.os∧AllBare s'.gens∧Un (frs outer) [] H H' s.heap s'.heap∧HOk P w H' s'.heap ∧
  Heap.FlyingW B outer ea (.ref C) (.ref t) s'.heap∧H' ea=none∧Cov B s.heap s'.heap H' outer∧E (.ref C) none H'
section
variable {X:Cx}{pins:List (Addr×Obj)}{σ:St}{H H':Hp}{s s':Shared}{B:Heap}
theorem qY {h2:Heap}{sc:Shared}(J:Inv X pins σ H' s')(I:∃ σ0 H0 pl,Inv X pl σ0 H0 sc)(hp:∀ p∈X.pn++pins,∃ o,sc.heap.get? p.1=some o)(hl:∀ o,s'.heap.get? X.env.locals=some o→∃ o',sc.heap.get? X.env.locals=some o')
  (cov:Cov B sc.heap s'.heap H' X.stack) (hB:B.StaysIn h2) (up:s'.heap.UpToSlots h2):Inv X pins σ H' { s' with heap:=h2 }:=by
 obtain⟨σ0,H0,pl,I0⟩:=I
 have ins:∀ b o,X.s₀.heap.get? b=some o→b∉X.ex→∃ o',sc.heap.get? b=some o':=fun b o e hx=>I0.base.there b o e hx
 have nloc:∀ b o,X.s₀.heap.get? b=some o→b≠X.env.locals:=fun b o e=>Nat.ne_of_lt (Nat.lt_of_lt_of_le (Heap.lt_size e) J.ok.above)
 have nstk:∀ b,b≠X.env.locals→b∉X.fs→b∉frs X.stack:=fun b h1 h2 z=>(List.mem_cons.mp (J.stkSub b z)).elim h1 h2
 have trk:∀ b o,s'.heap.get? b=some o→H' b≠none→h2.get? b=some o:=fun b o e ht=>hB b o (cov b o e (.inl ht) fun z=>ht (J.stkFree b z))
 have nf:∀ b∈X.fs,∀ o,s'.heap.get? b=some o→∀ vs,o.data≠.fields vs:=fun b hb o e=>by
  obtain⟨_,o',e',d⟩:=J.funs.mem hb
  rw[e]at e';cases e';exact d
 refine⟨J.ok,J.os,J.bare,⟨fun b o e n hb hx=>?_,fun b o e n hb hx=>?_,J.base.free,fun b o e hx=>?_,J.base.tups,J.base.frzs,J.base.tbls⟩,?_,fun x c e=>?_,J.free,J.freeC,fun p hpp=>?_,fun b u e=>?_,J.len⟩
 ·have e1:=J.base.keep b o e n hb hx
  exact hB b o (cov b o e1 (.inr (ins b o e hx)) (nstk b (nloc b o e) hb))
 ·obtain⟨sl,e1⟩:=J.base.slot b o e n hb hx
  obtain⟨sl',e2⟩:=up b _ e1 (nf b hb _ e1)
  exact⟨sl',e2⟩
 ·obtain⟨o',e1⟩:=J.base.there b o e hx
  by_cases hb:b∈X.fs
  ·obtain⟨sl',e2⟩:=up b _ e1 (nf b hb _ e1)
   exact⟨_,e2⟩
  ·exact⟨o',hB b o' (cov b o' e1 (.inr (ins b o e hx)) (nstk b (nloc b o e) hb))⟩
 ·obtain⟨m,hn,hv⟩:=J.loc
  refine⟨m,up.ns hn,fun i x v h1 h2 h3=>?_⟩
  obtain⟨u,r,l⟩:=hv i x v h1 h2 h3
  refine⟨u,r,?_⟩
  rcases l with l | ⟨k,c,e,⟨o,ho,hd⟩⟩
  ·exact .inl l
  ·obtain⟨sl,e2⟩:=up c o ho fun vs q=>by rw[hd]at q;cases q
   exact .inr ⟨k,c,e,⟨_,e2,hd⟩⟩
 ·obtain⟨v,o,ho,hd⟩:=J.cell x c e
  obtain⟨sl,e2⟩:=up c o ho fun vs q=>by rw[hd]at q;cases q
  exact⟨v,_,e2,hd⟩
 ·obtain⟨e,n,ne,nf',d⟩:=J.pin p hpp
  exact⟨hB _ _ (cov p.1 p.2 e (.inr (hp p hpp)) (nstk _ ne nf')),n,ne,nf',d⟩
 ·refine(J.hok b u e).stay (fun c v hc q=>trk c v q ?_) (fun _ q=>q) fun _ _ q=>q
  rcases hc with z | z
  ·subst z;rw[e];simp
  ·rw[z];simp
end
section
variable {P:Program}{w:World}{K:PySem.W.Frag}{mg:Str→Option Value}{base:Heap}{N:List Str}{qual:Str}{scope:Scope}{f:Addr}{cd:Value}{A:Around}{outer:List Env}{s0:Shared}{H0:Hp}{E:XK}
abbrev bodyX (P:Program)(w:World)(K:PySem.W.Frag)(mg:Str→Option Value)(base:Heap)(N:List Str)(qual:Str)(scope:Scope)(f:Addr)(cd:Value)(A:Around)(outer:List Env)(s0:Shared)(H0:Hp)(E:XK):Cx :=
 cxOf (CXE P w) P w K mg base N qual scope f cd A outer s0 H0 E
theorem l7 {pins:List (Addr×Obj)}{σ:St}{H':Hp}{s':Shared}{B h2:Heap}{ea C t:Addr}(J:Inv (bodyX P w K mg base N qual scope f cd A outer s0 H0 E) pins σ H' s')
  (cov:Cov B s0.heap s'.heap H' (envOfC qual scope s0.heap.objs.size f cd::outer)) (up:s'.heap.UpToSlots h2) (fl:Heap.FlyingW B outer ea (.ref C) (.ref t) h2) (hn:H' ea=none) (hE:E (.ref C) none H') :
  CXE P w outer H0 s0 E (.ref ea) { s' with heap:=h2 }:=by
 have hB:=fl.1
 have nloc:∀ b o,s0.heap.get? b=some o→b≠s0.heap.objs.size:=fun b o e=>Nat.ne_of_lt (Heap.lt_size e)
 have nstk:∀ b,b≠s0.heap.objs.size→b∉frs outer→b∉frs (envOfC qual scope s0.heap.objs.size f cd::outer):=fun b h1 h2 z=>(List.mem_cons.mp (J.stkSub b z)).elim h1 h2
 have trk:∀ b o,s'.heap.get? b=some o→H' b≠none→B.get? b=some o:=fun b o e ht=>cov b o e (.inl ht) fun z=>ht (J.stkFree b z)
 have noe:∀ b:Addr,b∉([]:List Addr):=fun _ z=>nomatch z
 have nf:∀ b∈frs outer,∀ o,s'.heap.get? b=some o→∀ vs,o.data≠.fields vs:=fun b hb o e=>by
  obtain⟨_,o',e',d⟩:=J.funs.mem hb
  rw[e]at e';cases e';exact d
 have thr:∀ b o,s0.heap.get? b=some o→∃ o',s'.heap.get? b=some o'∧(b∉frs outer→B.get? b=some o'):=fun b o e=>by
  obtain⟨o',e1⟩:=J.base.there b o e (noe b)
  exact⟨o',e1,fun hb=>cov b o' e1 (.inr ⟨o,e⟩) (nstk b (nloc b o e) hb)⟩
 refine⟨ea,C,t,H',B,rfl,J.os,J.bare,⟨fun b o e n hb hx=>?_,fun b o e n hb hx=>?_,J.base.free,fun b o e hx=>?_,J.base.tups,J.base.frzs,J.base.tbls⟩,fun b u e=>?_,fl,hn,fun b o e hc hb=>?_,hE⟩
 ·have e1:=J.base.keep b o e n hb hx
  exact hB b o (cov b o e1 (.inr ⟨o,e⟩) (nstk b (nloc b o e) hb))
 ·obtain⟨sl,e1⟩:=J.base.slot b o e n hb hx
  obtain⟨sl',e2⟩:=up b _ e1 (nf b hb _ e1)
  exact⟨sl',e2⟩
 ·obtain⟨o',e1,e2⟩:=thr b o e
  by_cases hb:b∈frs outer
  ·obtain⟨sl',e3⟩:=up b _ e1 (nf b hb _ e1)
   exact⟨_,e3⟩
  ·exact⟨o',hB b o' (e2 hb)⟩
 ·refine(J.hok b u e).stay (fun c v hc q=>hB c v (trk c v q ?_)) (fun _ q=>q) fun _ _ q=>q
  rcases hc with z | z
  ·subst z;rw[e];simp
  ·rw[z];simp
 ·have same:∀ o',s'.heap.get? b=some o'→B.get? b=some o'→B.get? b=some o:=fun o' _ q=>by
   have:=hB b o' q
   have e':h2.get? b=some o:=e
   rw[e']at this;cases this;exact q
  rcases hc with z | ⟨o',z⟩
  ·cases q:H' b with
   | none=>exact absurd q z
   | some u =>
    obtain⟨o',e1⟩:=objThere (J.hok b u q)
    exact same o' e1 (trk b o' e1 (by rw[q];simp))
  ·obtain⟨o'',e1,e2⟩:=thr b o' z
   exact same o'' e1 (e2 hb)
theorem cY:Passes (CXE P w) (bodyX P w K mg base N qual scope f cd A outer s0 H0 E) E:=by
 intro pins σ H s e s' I h
 obtain⟨ea,C,t,H',B,rfl,os,bare,un,hok,fl,hn,cov,hE⟩:=h
 have J:Inv (bodyX P w K mg base N qual scope f cd A outer s0 H0 E) pins σ H' s':=I.call' (ch:=[]) os un hok bare fun b z=>nomatch z
 refine wpAny_leaves_onW I.ok.frames rfl fl fun h2 fl2 up=>?_
 refine l7 J (fun b o e hc hb=>cov b o e ?_ hb) up fl2 hn hE
 rcases hc with z | ⟨o',z⟩
 ·exact .inl z
 ·obtain⟨o'',z'⟩:=I.base.there b o' z (fun q=>nomatch q)
  exact .inr ⟨o'',z'⟩
theorem eS {pins:List (Addr×Obj)}{σ:St}{H:Hp}{s:Shared}{h1:Heap}{ea C:Addr}{args:List Value}(I:Inv (bodyX P w K mg base N qual scope f cd A outer s0 H0 E) pins σ H s)(hx:Heap.MadeExcOf s.heap h1 ea (.ref C) args)(hE:E (.ref C) none H) :
  (bodyX P w K mg base N qual scope f cd A outer s0 H0 E).xe (.ref ea) { s with heap:=h1 }:=by
 have hin:∀ env∈(envOfC qual scope s0.heap.objs.size f cd::outer),∀ a,env.frame=some a→a∈frs (envOfC qual scope s0.heap.objs.size f cd::outer):=fun env he a ha=>List.mem_filterMap.mpr ⟨env,he,ha⟩
 refine wpAny_leaves_madeW (s:={ s with heap:=h1 }) (base:=PySem.W.hideAll s.heap (frs (envOfC qual scope s0.heap.objs.size f cd::outer))) I.ok.frames rfl (fun b o q=>PySem.W.of_hideAll _ q) (PySem.W.funFrames_hide I.stack hin) hx fun h2 t fl _ _ up=>?_
 have hn:H ea=none:=by
  cases q:H ea with
  | none=>rfl
  | some u =>
   obtain⟨o,e⟩:=objThere (I.hok ea u q)
   rw[hx.new]at e;cases e
 exact l7 (s':=s) I (fun b o e _ hb=>PySem.W.hideAll_get _ e hb) ((Heap.UpToSlots.of_keeps hx.keeps).trans up) fl hn hE
end
def relabN (names:List (Str×NameKind))(env:Env):List (Str×NameKind) :=
 names.map fun (n,k)=>if (k==.free&&env.scope.kind==.function&&env.kindOf n==some .cell) then (n,.cell) else (n,k)
theorem gF {env:Env}:∀ {names:List (Str×NameKind)} {x:Str},names.lookup x=some .free→(relabN names env).lookup x=some .cell∨(relabN names env).lookup x=some .free
 | [],_,h=>by simp at h
 | (n,k)::r,x,h=>by
  have ih:=@gF env r x
  show List.lookup x ((if (k==NameKind.free&&env.scope.kind==.function&&env.kindOf n==some .cell)=true then (n,NameKind.cell) else (n,k))::relabN r env)=_∨List.lookup x ((if (k==NameKind.free&&env.scope.kind==.function&&env.kindOf n==some .cell)=true then (n,NameKind.cell) else (n,k))::relabN r env)=_
  cases hx:x==n with
  | true =>
   simp only[List.lookup_cons,hx]at h
   cases h
   split
   ·exact .inl (by simp[List.lookup_cons,hx])
   ·exact .inr (by simp[List.lookup_cons,hx])
  | false =>
   simp only[List.lookup_cons,hx]at h
   split<;>(simp only[List.lookup_cons,hx];exact ih h)
theorem gG {env:Env}:∀ {names:List (Str×NameKind)} {x:Str},((relabN names env).lookup x=some .cell∨(relabN names env).lookup x=some .free)→∃ y∈names,y.1=x∧(y.2=.free∨y.2=.cell)
 | [],_,h=>by simp[relabN]at h
 | (n,k)::r,x,h=>by
  have ih:=@gG env r x
  change List.lookup x ((if (k==NameKind.free&&env.scope.kind==.function&&env.kindOf n==some .cell)=true then (n,NameKind.cell) else (n,k))::relabN r env)=_∨List.lookup x ((if (k==NameKind.free&&env.scope.kind==.function&&env.kindOf n==some .cell)=true then (n,NameKind.cell) else (n,k))::relabN r env)=_ at h
  cases hx:x==n with
  | true =>
   have e:x=n:=eq_of_beq hx
   refine⟨(n,k),List.mem_cons_self,e.symm,?_⟩
   by_cases hq:(k==NameKind.free&&env.scope.kind==.function&&env.kindOf n==some .cell)=true
   ·simp only[Bool.and_eq_true,beq_iff_eq]at hq
    exact .inl hq.1.1
   ·rw[if_neg hq]at h
    simp only[List.lookup_cons,hx]at h
    rcases h with h | h
    ·cases h;exact .inr rfl
    ·cases h;exact .inl rfl
  | false =>
   have h':(relabN r env).lookup x=some .cell∨(relabN r env).lookup x=some .free:=by
    by_cases hq:(k==NameKind.free&&env.scope.kind==.function&&env.kindOf n==some .cell)=true
    ·rw[if_pos hq]at h;simpa only[List.lookup_cons,hx] using h
    ·rw[if_neg hq]at h;simpa only[List.lookup_cons,hx] using h
   obtain⟨y,hy,e⟩:=ih h'
   exact⟨y,List.mem_cons_of_mem _ hy,e⟩
theorem ba:∀ (names:List (Str×NameKind)) (n:Nat) (acc:List (Str×Addr)),cellsFrom n names acc=cellsFrom n names []++acc
 | [],_,_=>rfl
 | (name,kind)::r,n,acc=>by
  unfold cellsFrom
  split
  ·rw[ba r (n+1) ((name,n)::acc),ba r (n+1) [(name,n)],List.append_assoc];rfl
  ·exact ba r n acc
theorem eT:∀ (names:List (Str×NameKind)) (n:Nat) {x:Str} {c:Addr},(x,c)∈cellsFrom n names []→(x,NameKind.cell)∈names
 | [],_,_,_,h=>nomatch h
 | (name,kind)::r,n,x,c,h=>by
  unfold cellsFrom at h
  split at h
  ·rename_i hk
   rw[ba]at h
   rcases List.mem_append.mp h with h | h
   ·exact List.mem_cons_of_mem _ (eT r _ h)
   ·rw[List.mem_singleton]at h
    cases h
    rw[eq_of_beq hk];exact List.mem_cons_self
  ·exact List.mem_cons_of_mem _ (eT r _ h)
theorem eU:∀ (names:List (Str×NameKind)) (n:Nat) {x:Str},(x,NameKind.cell)∈names→∃ c,(cellsFrom n names []).lookup x=some c
 | [],_,_,h=>nomatch h
 | (name,kind)::r,n,x,h=>by
  by_cases hr:(x,NameKind.cell)∈r
  ·unfold cellsFrom
   split
   ·obtain⟨c,hc⟩:=eU r (n+1) hr
    rw[ba,List.lookup_append,hc];exact⟨c,rfl⟩
   ·exact eU r n hr
  ·rcases List.mem_cons.mp h with e | e
   ·cases e
    unfold cellsFrom
    rw[if_pos (by rfl),ba,List.lookup_append]
    cases (cellsFrom (n+1) r []).lookup name with
    | some c=>exact⟨c,rfl⟩
    | none=>exact⟨n,by simp[List.lookup_cons]⟩
   ·exact absurd e hr
structure CellsB (scope:Scope)(cl cl2:List (Str×Addr))(C:Addr)(h:Heap):Prop where
 old:∀ n c,cl2.lookup n=some c→(cl.lookup n=some c∧(n,NameKind.cell)∉scope.names)∨(C < c∧h.IsCell c none∧(n,NameKind.cell)∈scope.names)
 keep:∀ n,(n,NameKind.cell)∉scope.names→cl2.lookup n=cl.lookup n
 mine:∀ n,(n,NameKind.cell)∈scope.names→∃ c,cl2.lookup n=some c
 inj:∀ x y c,C < c→cl2.lookup x=some c→cl2.lookup y=some c→(x,NameKind.cell)∈scope.names→(y,NameKind.cell)∈scope.names→x=y
section
variable {M:Model}{A:Around}{E:Value→Shared→Prop}{s:Shared}
theorem jp {scope:Scope}{globals:Addr}{cl:List (Str×Addr)}{qual:Str}{env:Env}{Q:Env→Shared→Prop}
  (hQ:∀ h' cl2,h'.Ns s.heap.objs.size (fun _=>none)→(∀ b o,s.heap.get? b=some o→h'.get? b=some o)→CellsB scope cl cl2 s.heap.objs.size h'→Q (newEnv scope s.heap.objs.size globals cl2 qual none .none (some env) builtinsNs) { s with heap:=h' }) :
  wpAny M A (newFunctionEnv scope globals cl [] qual none .none (some env)) Q E s:=by
 simp only[newFunctionEnv,Option.isSome_some,if_true]
 refine wpAny_bind (wpAny_alloc ?_)
 refine wpAny_bind (wpAny_layCells _ (fun name kind cells=>by cases hkc:kind==NameKind.cell<;>simp[hkc]) _ _ _ _ ?_)
 have ok:=cellsFrom_ok scope.names (s.heap.push { cls:=.type "dict",data:=.dict #[] }) (s.heap.objs.size+1) [] ⟨fun _ _ hm=>(nomatch hm),List.Pairwise.nil⟩ (by rw[Heap.size_push];exact Nat.le_refl _)
 rw[Heap.size_push]at ok
 rw[show ({ s with heap:=s.heap.push { cls:=.type "dict",data:=.dict #[] } }:Shared).heap.objs.size=s.heap.objs.size+1 from Heap.size_push ..]
 simp only[List.forIn_nil]
 refine wpAny_bind (wpAny_pure (wpAny_pure ?_))
 refine hQ _ _ ((Heap.Ns.new s.heap (.type "dict")).keeps (pushCells_keeps _ _)) (fun b o e=>pushCells_keeps _ _ b o (Heap.get?_push_of_some _ e)) ?_
 have look:∀ n,(cellsFrom (s.heap.objs.size+1) scope.names cl).lookup n=((cellsFrom (s.heap.objs.size+1) scope.names []).lookup n).or (cl.lookup n):=fun n=>by rw[ba,List.lookup_append]
 have no:∀ n,(n,NameKind.cell)∉scope.names→(cellsFrom (s.heap.objs.size+1) scope.names []).lookup n=none:=fun n hn=>by
  cases e:(cellsFrom (s.heap.objs.size+1) scope.names []).lookup n with
  | none=>rfl
  | some c=>exact absurd (eT _ _ (PySem.mem_of_lookup e)) hn
 have keep:∀ n,(n,NameKind.cell)∉scope.names→(cellsFrom (s.heap.objs.size+1) scope.names cl).lookup n=cl.lookup n:=fun n hn=>by rw[look,no n hn];rfl
 have new:∀ n,(n,NameKind.cell)∈scope.names→∃ c,(cellsFrom (s.heap.objs.size+1) scope.names []).lookup n=some c∧(cellsFrom (s.heap.objs.size+1) scope.names cl).lookup n=some c:=fun n hn=>by
  obtain⟨c,hc⟩:=eU scope.names (s.heap.objs.size+1) hn
  exact⟨c,hc,by rw[look,hc];rfl⟩
 refine⟨fun n c e=>?_,keep,fun n hn=>?_,fun x y c _ ex ey hx hy=>?_⟩
 ·by_cases hn:(n,NameKind.cell)∈scope.names
  ·obtain⟨c',h1,h2⟩:=new n hn
   rw[e]at h2;cases h2
   have:=ok.empty n c (PySem.mem_of_lookup h1)
   exact .inr ⟨this.2,this.1,hn⟩
  ·rw[keep n hn]at e
   exact .inl ⟨e,hn⟩
 ·obtain⟨c,_,h2⟩:=new n hn
  exact⟨c,h2⟩
 ·obtain⟨c1,h1,h2⟩:=new x hx
  obtain⟨c2,h3,h4⟩:=new y hy
  rw[ex]at h2;cases h2
  rw[ey]at h4;cases h4
  exact name_of_addr ok.apart (PySem.mem_of_lookup h1) (PySem.mem_of_lookup h3)
end
theorem cH {names:List (Str×NameKind)}{x:Str}{k:NameKind}(h:names.lookup x=some k):(x,k)∈names:=PySem.mem_of_lookup h
def blk (X:Cx)(scope:Scope)(cl:List (Str×Addr))(C:Addr)(s:Shared)(H:Hp)(fp:List Addr)(N:List Str):Cx where
 prog:=X.prog
 w:=X.w
 K:=X.K
 mg:=X.mg
 base:=X.base
 A:=X.A
 N:=N
 s₀:=s
 H₀:=H
 env:=compEnvC scope cl C X.env
 outer:=X.stack
 stack:=X.stack
 ex:=fp
 fn:=fun x=>scope.names.lookup x==some .cell
 calm:=true
 pn:=[]
 xe:=fun _ _=>False
def startB (own:Nat)(cap:List Nat)(σ:St):St:=List.replicate own none++cap.map fun i=>(σ[i]?).getD none
structure BlkOk (XN:List Str)(osc scope:Scope)(N:List Str)(own:Nat)(cap:List Nat):Prop where
 kind:scope.kind=.function
 ncell:∀ y∈scope.names,y.2=.cell→scope.names.lookup y.1=some .cell
 nfree:∀ y∈scope.names,y.2=.free→scope.names.lookup y.1=some .free
 nloc:∀ y∈scope.names,y.2=.local→scope.names.lookup y.1=some .local
 free:∀ y∈scope.names,y.2=.free→osc.names.lookup y.1=some .cell∨osc.names.lookup y.1=some .free
 len:N.length=own+cap.length
 capN:∀ j i,cap[j]?=some i→∃ x,N[own+j]?=some x∧XN[i]?=some x∧scope.names.lookup x=some .free
section
variable {X:Cx}{pins:List (Addr×Obj)}{σ:St}{H:Hp}{s:Shared}{scope:Scope}{N:List Str}{own:Nat}{cap:List Nat}{cl:List (Str×Addr)}{fp:List Addr}
theorem qZ {cl2:List (Str×Addr)}(b:BlkOk X.N X.env.scope scope N own cap)(hc:X.calm=true)(I:Inv X pins σ H s)(hf:∀ b∈fp,FpOk X pins H b)(hfo:∀ b∈fp,b < s.heap.objs.size)(c1:∀ n c,cl.lookup n=some c→X.env.cells.lookup n=some c)
  (c2:∀ y∈scope.names,y.2=.free→∃ c,cl.lookup y.1=some c) {h':Heap} {t':Nat} {m:Str→Option Value} (hns:h'.Ns s.heap.objs.size m) (hk:∀ b o,s.heap.get? b=some o→h'.get? b=some o) (cb:CellsB scope cl cl2 s.heap.objs.size h') :
  Inv (blk X scope cl2 s.heap.objs.size s H fp N) [] (startB own cap σ) H { s with heap:=h',toks:=t' }:=by
 have hC:H s.heap.objs.size=none:=I.hok.fresh (Nat.le_refl _)
 have lt:∀ n c,cl.lookup n=some c→c < s.heap.objs.size:=fun n c e=>by obtain⟨v,hv⟩:=I.cell n c (c1 n c e);exact hv.lt
 have inj:∀ x y c,cl2.lookup x=some c→cl2.lookup y=some c→x=y:=fun x y c h1 h2=>by
  rcases cb.old x c h1 with ⟨a1,_⟩ | ⟨a1,_,a2⟩<;>rcases cb.old y c h2 with ⟨b1,_⟩ | ⟨b1,_,b2⟩
  ·exact I.ok.inj x y c (c1 x c a1) (c1 y c b1)
  ·exact absurd (lt x c a1) (Nat.lt_asymm b1)
  ·exact absurd (lt y c b1) (Nat.lt_asymm a1)
  ·exact cb.inj x y c a1 h1 h2 a2 b2
 refine⟨⟨I.ok.mod,b.kind,I.ok.glob,I.ok.blt,Nat.le_refl _,inj,fun x hx=>?_,fun x c hx e=>?_,fun _=>I.ok.hd hc,I.ok.frames,.inl rfl,fun b' hb=>?_,I.bs,Nat.le_trans I.ok.bsz I.sz,fun b' o e hb=>?_,fun b' hb hm=>?_,I.stack,I.stkFree⟩,rfl,I.bare,Un.kept hk,⟨m,hns,fun i x v h1 h2 h3=>?_⟩,fun x c e=>?_,hC,fun x c e=>?_,fun p hp=>(nomatch hp),I.hok.kept hk,?_⟩
 ·obtain⟨y,hy,e1,e2⟩:=gG (env:=X.env) hx
  rcases e2 with e2 | e2
  ·obtain⟨c,e⟩:=c2 y hy e2
   have hn:(y.1,NameKind.cell)∉scope.names:=fun z=>by
    have q1:=b.nfree y hy e2
    have q2:=b.ncell _ z rfl
    rw[q1]at q2;cases q2
   exact⟨c,by rw[← e1];show cl2.lookup y.1=some c;rw[cb.keep _ hn];exact e⟩
  ·obtain⟨c,e⟩:=cb.mine y.1 (by rw[← e2];exact hy)
   exact⟨c,by rw[← e1];exact e⟩
 ·rcases cb.old x c e with ⟨a1,a2⟩ | ⟨a1,_,_⟩
  ·have hx':(scope.names.lookup x==some NameKind.cell)=true:=hx
   exact absurd (cH (eq_of_beq hx')) a2
  ·exact Nat.le_of_lt a1
 ·refine⟨Nat.ne_of_lt (hfo b' hb),fun x c e=>?_⟩
  rcases cb.old x c e with ⟨a1,_⟩ | ⟨a1,_,_⟩
  ·exact(hf b' hb).2.2.2.2.1 x c (c1 x c a1)
  ·exact fun z=>Nat.lt_asymm a1 (z ▸ hfo b' hb)
 ·rcases(hf b' hb).2.2.2.1 with z | z
  ·exact I.ok.noex b' o e z
  ·have:=Heap.lt_size (I.ok.bs b' o e).1
   exact absurd (Nat.lt_of_lt_of_le this z) (Nat.lt_irrefl _)
 ·rcases List.mem_cons.mp (I.stkSub b' hm) with z | z
  ·exact(hf b' hb).2.1 z
  ·exact(hf b' hb).2.2.1 z
 ·
  unfold startB at h2
  by_cases hi:i < own
  ·rw[List.getElem?_append_left (by simpa using hi),List.getElem?_replicate]at h2
   split at h2<;>cases h2
  ·rw[List.getElem?_append_right (by simpa using hi),List.length_replicate,List.getElem?_map]at h2
   cases e:cap[i - own]? with
   | none=>rw[e]at h2;cases h2
   | some k =>
    rw[e]at h2
    obtain⟨x',f1,f2,f3⟩:=b.capN _ _ e
    rw[show own+(i - own)=i by omega]at f1
    have h1':N[i]?=some x:=h1
    rw[h1']at f1;cases f1
    have h2':σ[k]?=some (some v):=by
     cases q:σ[k]? with
     | none=>simp only[Option.map_some,q,Option.getD_none,Option.some.injEq]at h2;cases h2
     | some o=>simp only[Option.map_some,q,Option.getD_some,Option.some.injEq]at h2;rw[h2]
    obtain⟨m0,_,hl⟩:=I.loc
    have kf:=b.free (x,.free) (cH f3) rfl
    obtain⟨u,r,l⟩:=hl k x v f2 h2' (kf.elim (fun z=>.inr (.inl z)) fun z=>.inr (.inr z))
    refine⟨u,r,?_⟩
    rcases l with ⟨z,_⟩ | ⟨_,c,e1,e2⟩
    ·have z':X.env.scope.names.lookup x=some .local:=z
     rcases kf with y | y
     ·have y':X.env.scope.names.lookup x=some .cell:=y
      rw[z']at y';cases y'
     ·have y':X.env.scope.names.lookup x=some .free:=y
      rw[z']at y';cases y'
    ·obtain⟨c',g1⟩:=c2 (x,.free) (cH f3) rfl
     have g2:=c1 x c' g1
     rw[e1]at g2;cases g2
     have hn:(x,NameKind.cell)∉scope.names:=fun z=>by
      have q2:=b.ncell _ z rfl
      have q2':scope.names.lookup x=some .cell:=q2
      rw[f3]at q2';cases q2'
     exact .inr ⟨gF (env:=X.env) f3,c,by show cl2.lookup x=some c;rw[cb.keep _ hn];exact g1,by obtain⟨o,ho,hd⟩:=e2;exact⟨o,hk _ _ ho,hd⟩⟩
 ·rcases cb.old x c e with ⟨a1,_⟩ | ⟨_,a2,_⟩
  ·obtain⟨v,o,ho,hd⟩:=I.cell x c (c1 x c a1)
   exact⟨v,o,hk _ _ ho,hd⟩
  ·exact⟨none,a2⟩
 ·rcases cb.old x c e with ⟨a1,_⟩ | ⟨a1,_,_⟩
  ·exact I.freeC x c (c1 x c a1)
  ·exact I.hok.fresh (Nat.le_of_lt a1)
 ·unfold startB
  show _=N.length
  rw[List.length_append,List.length_replicate,List.length_map,b.len]
theorem o5 {s3 s':Shared}{H3 H':Hp}{σ':St}{pl:List (Addr×Obj)}{D C:Addr}(I:Inv X pins σ H s)(hf:∀ b∈fp,FpOk X pins H b)(hD:D=s.heap.objs.size)(h3:s3={ s with heap:=s.heap.push { cls:=.type "list",data:=.seq #[] } })(hH:H3=upd H D (.lst []))(hC:C=s3.heap.objs.size)
  (J:Inv (blk X scope cl C s3 H3 fp N) pl σ' H' s'):Inv X pins σ H' s'∧FpOk X pins H' C∧∃ m,s'.heap.Ns C m:=by
 subst h3
 have hs:s.heap.objs.size≤C:=by rw[hC];show _≤(s.heap.push _).objs.size;rw[Heap.size_push];exact Nat.le_succ _
 have u1:Un (frs X.stack) fp H H3 s.heap (s.heap.push { cls:=.type "list",data:=.seq #[] }):=by
  rw[hH,hD]
  exact Un.laid (fun b u e=>Heap.get?_push_of_some _ e) (Nat.le_refl _) (I.hok.fresh (Nat.le_refl _))
 have u2:Un (frs X.stack) fp H3 H' (s.heap.push { cls:=.type "list",data:=.seq #[] }) s'.heap:=J.base
 have os:s'.os=s.os:=J.os
 refine⟨I.call' (ch:=fp) os (u1.trans u2) J.hok J.bare fun b hb=>?_,I.fpOk hs J.free,?_⟩
 ·obtain⟨_,f1,f2,f3,f4,f5⟩:=hf b hb
  exact⟨f3,f1,f4,f5⟩
 ·obtain⟨m,hn,_⟩:=J.loc
  exact⟨m,hn⟩
end
def tTests (ifs:List Expr)(t:TT):TT:=match ifs with
 | []=>fun _ H Q=>Q true H
 | _::_=>t
theorem kT {ifs:List Expr}{t:TT}{σ:St}{H:Hp}{Q:Bool→Hp→Prop}(e:ifs=[])(h:tTests ifs t σ H Q):Q true H:=by subst e;exact h
theorem kU {ifs:List Expr}{t:TT}{σ:St}{H:Hp}{Q:Bool→Hp→Prop}{c:Expr}(e:ifs=[c])(h:tTests ifs t σ H Q):t σ H Q:=by subst e;exact h
theorem m5 {M:Model}{A:Around}{ifs:List Expr}{env:Env}{Q:Bool→Shared→Prop}{E:Value→Shared→Prop}{s:Shared}(hifs:ifs.length≤1)(h0:ifs=[]→Q true s)(h1:∀ c,ifs=[c]→wpAny M A (isTrue c env (eval c env)) Q E s):wpAny M A (tests ifs env) Q E s:=by
 match ifs,hifs,h0,h1 with
 | [],_,h0,_=>exact wpAny_pure (h0 rfl)
 | [c],_,_,h1=>exact h1 c rfl
def BlkW (sz:Nat)(J:It)(g:TG)(tc:TT)(te:TE)(D:Addr)(Fin:Hp→List V→Prop)(W:Nat→Nat→St→Hp→List V→Prop):Prop :=
 ∀ i m σ H ys,W i m σ H ys→H D=some (.lst ys)∧((J.stop i H∧Fin H ys)∨(J.go i H∧∀ x H',J.yld i H x H'→g x σ H' fun σ2 H2=>tc σ2 H2 fun ok H3 =>
  if ok=true then te σ2 H3 fun y H4=>H4 D=some (.lst ys)∧ys.length < sz∧∃ m',m' < m∧W (i+1) m' σ2 (upd H4 D (.lst (ys++[y]))) (ys++[y])
  else ∃ m',m' < m∧W (i+1) m' σ2 H3 ys))
section
variable {X:Cx}{elt tg iter:Expr}{ifs:List Expr}{scope:Scope}{N:List Str}{own:Nat}{cap:List Nat}{pos:Pos}{wi:TI}{g:TG}{tc:TT}{te:TE}
set_option maxHeartbeats 4000000 in
theorem o6 {pins:List (Addr×Obj)}{σ:St}{H:Hp}{s:Shared}{it:Addr}{fp:List Addr}{tn:Nat→Heap→Prop}{J:It}{cl:List (Str×Addr)}{E:Value→Shared→Prop}{RR:Value→Addr→Result→Shared→Prop}{Fin:Addr→Hp→List V→Prop}
  (b:BlkOk X.N X.env.scope scope N own cap) (hc:X.calm=true) (hifs:ifs.length≤1)
  (hg:∀ cl C s H fp,PG (blk X scope cl C s H fp N) tg g) (ht:∀ c,ifs=[c]→∀ cl C s H fp,PT (blk X scope cl C s H fp N) c tc) (he:∀ cl C s H fp,PE (blk X scope cl C s H fp N) elt te)
  (hclos:closureFor scope X.env=pure cl) (c1:∀ n c,cl.lookup n=some c→X.env.cells.lookup n=some c) (c2:∀ y∈scope.names,y.2=.free→∃ c,cl.lookup y.1=some c)
  (I:Inv X pins σ H s) (T:Turn X.prog X.w X.K tg J fp it tn) (st:tn 0 s.heap) (hf:∀ b∈fp,FpOk X pins H b)
  (hW:∀ D,H D=none→∃ W,BlkW sizeLine J g (tTests ifs tc) te D (Fin D) W∧∃ m,W 0 m (startB own cap σ) (upd H D (.lst [])) [])
  (fin:∀ D C s' H' ys,Inv X pins σ H' s'→FpOk X pins H' C→(∃ m,s'.heap.Ns C m)→H' D=some (.lst ys)→Fin D H' ys→RR (.ref D) C (.ok .next) s') :
  wpAny (model X.prog X.w) X.A (newList []) (fun acc s3=>wpAny (model X.prog X.w) X.A (newFunctionEnv scope X.env.globals cl [] X.env.qual none .none (some X.env)) (fun cenv s4 =>
   codeAny (model X.prog X.w) X.A (.compStart (.ListComp elt [⟨tg,iter,ifs,0⟩] scope pos) 0 (.ref it) acc { cenv with scope:=relabel scope X.env }) (RR acc cenv.locals) s4) E s3) E s:=by
 have hfo:∀ b∈fp,b < s.heap.objs.size:=fun b hb=>by
  obtain⟨o,e,_⟩:=T.obj 0 _ st b hb
  exact Heap.lt_size e
 have hD:H s.heap.objs.size=none:=I.hok.fresh (Nat.le_refl _)
 obtain⟨W,hturn,m0,w0⟩:=hW _ hD
 refine wpAny_newObj_type (jp fun h1 cl2 hns kk cb=>?_)
 have I3:Inv X pins σ (upd H s.heap.objs.size (.lst [])) { s with heap:=s.heap.push { cls:=.type "list",data:=.seq #[] } }:=I.lnew (t':=s.toks) (its:=[]) .nil (Nat.zero_le _)
 have hfp3:∀ b∈fp,FpOk X pins (upd H s.heap.objs.size (.lst [])) b:=fun b hb=>⟨by rw[ai (Nat.ne_of_lt (hfo b hb))];exact(hf b hb).1,(hf b hb).2⟩
 have st1:tn 0 h1:=T.keep 0 _ _ st fun b hb o e=>kk b o (Heap.get?_push_of_some _ e)
 generalize hX:blk X scope cl2 (s.heap.push { cls:=.type "list",data:=.seq #[] }).objs.size { s with heap:=s.heap.push { cls:=.type "list",data:=.seq #[] } } (upd H s.heap.objs.size (.lst [])) fp N=X'
 have I4:Inv X' [] (startB own cap σ) (upd H s.heap.objs.size (.lst [])) { s with heap:=h1 }:=by
  rw[← hX]
  exact qZ b hc I3 hfp3 (fun b hb=>Nat.lt_of_lt_of_le (hfo b hb) (by show _≤(s.heap.push _).objs.size;rw[Heap.size_push];exact Nat.le_succ _)) c1 c2 hns kk cb
 have eP:X'.prog=X.prog:=by rw[← hX];rfl
 have ew:X'.w=X.w:=by rw[← hX];rfl
 have eK:X'.K=X.K:=by rw[← hX];rfl
 have eA:X'.A=X.A:=by rw[← hX];rfl
 have ec:X'.calm=true:=by rw[← hX];rfl
 have ee:X'.env=compEnvC scope cl2 (s.heap.push { cls:=.type "list",data:=.seq #[] }).objs.size X.env:=by rw[← hX];rfl
 have ex:X'.xe=fun _ _=>False:=by rw[← hX];rfl
 have epn:X'.pn=[]:=by rw[← hX];rfl
 have eex:X'.ex=fp:=by rw[← hX];rfl
 have pg:PG X' tg g:=by rw[← hX];exact hg _ _ _ _ _
 have pe:PE X' elt te:=by rw[← hX];exact he _ _ _ _ _
 have pt:∀ c,ifs=[c]→PT X' c tc:=fun c q=>by rw[← hX];exact ht c q _ _ _ _ _
 have fpB:∀ {H':Hp},(∀ b∈fp,H' b=none)→∀ {s'':Shared} {σ':St},Inv X' [] σ' H' s''→∀ b∈fp,FpOk X' [] H' b:=fun {H'} hn {s'' σ'} Iv b hb =>
  ⟨hn b hb,(Iv.ok.exf b (by rw[eex];exact hb)).1,Iv.ok.exfs b (by rw[eex];exact hb),.inl (by rw[eex];exact hb),(Iv.ok.exf b (by rw[eex];exact hb)).2,fun p hp=>by rw[epn]at hp;exact(nomatch hp)⟩
 have loop:codeAny (model X.prog X.w) X.A (.compLoop (.ListComp elt [⟨tg,iter,ifs,0⟩] scope pos) 0 (.ref it) (.ref s.heap.objs.size) (compEnvC scope cl2 (s.heap.push { cls:=.type "list",data:=.seq #[] }).objs.size X.env))
   (RR (.ref s.heap.objs.size) (s.heap.push { cls:=.type "list",data:=.seq #[] }).objs.size) { s with heap:=h1 }:=by
  refine mV hifs (fun n s'=>∃ i σ' H' ys,Inv X' [] σ' H' s'∧tn i s'.heap∧(∀ b∈fp,H' b=none)∧W i n σ' H' ys) (fun n s5 ⟨i,σ5,H5,ys,I5,st5,fr5,w5⟩=>?_) m0
   ⟨0,startB own cap σ,_,[],I4,st1,fun b hb=>(hfp3 b hb).1,w0⟩
  obtain⟨hDy,hgo⟩:=hturn i n σ5 H5 ys w5
  have hs5:=fpB fr5 I5
  rcases hgo with ⟨stop,hfin⟩ | ⟨go,step⟩
  ·have q:=T.done X' eP ew eK ec i [] s5 σ5 H5 (fun _ _=>False) I5 hs5 st5 stop
   rw[eA]at q
   refine wpAny_mono q (fun r s6 ⟨hr,I6⟩=>?_) fun _ _ z=>z
   subst hr
   rw[← hX]at I6
   obtain⟨J1,J2,J3⟩:=o5 I hf rfl rfl rfl rfl I6
   exact fin _ _ s6 H5 ys J1 J2 J3 hDy hfin
  ·have q:=T.item X' eP ew eK ec i [] s5 σ5 H5 (fun _ _=>False) I5 hs5 st5 go
   rw[eA]at q
   refine wpAny_mono q (fun r s6 ⟨u,hr,h6⟩=>?_) fun _ _ z=>z
   subst hr
   refine wpAny_mono h6 (fun _ s7 ⟨x,H7,I7,r7,y7,st7,fr7⟩=>?_) fun _ _ z=>z
   have I7':=I7.pinned (fpB fr7 I7) (T.obj _ _ st7)
   rw[List.nil_append]at I7'
   have qg:=pg _ s7 σ5 H7 x u _ I7' r7 (step x H7 y7)
   rw[eP,ew,eA,ee,ex]at qg
   refine wpAny_mono qg (fun _ s8 ⟨σ8,H8,I8,q8⟩=>?_) fun _ _ z=>z
   have again:∀ {s9:Shared} {H9:Hp} {zs:List V},Inv X' (pinsAt fp s7.heap) σ8 H9 s9→(∃ m',m' < n∧W (i+1) m' σ8 H9 zs) →
     ∃ m,m < n∧∃ i σ' H' ys,Inv X' [] σ' H' s9∧tn i s9.heap∧(∀ b∈fp,H' b=none)∧W i m σ' H' ys:=fun {s9 H9 zs} I9 ⟨m',hm,w9⟩=>by
    have I9':Inv X' ([]++pinsAt fp s7.heap) σ8 H9 s9:=by rw[List.nil_append];exact I9
    refine⟨m',hm,i+1,σ8,H9,zs,I9'.unpinned,T.keep _ _ _ st7 fun b hb o e=>(I9.pin (b,o) (List.mem_append_right _ (b0 hb e))).1,fun b hb=>?_,w9⟩
    obtain⟨o,e,d⟩:=T.obj _ _ st7 b hb
    exact(I9.pin (b,o) (List.mem_append_right _ (b0 hb e))).2.1
   have body:∀ (ok:Bool) (s9:Shared),(∃ H9,Inv X' (pinsAt fp s7.heap) σ8 H9 s9∧(if ok=true then te σ8 H9 fun y H4=>H4 s.heap.objs.size=some (.lst ys)∧ys.length < sizeLine∧∃ m',m' < n∧W (i+1) m' σ8 (upd H4 s.heap.objs.size (.lst (ys++[y]))) (ys++[y]) else ∃ m',m' < n∧W (i+1) m' σ8 H9 ys)) →
     if ok=true then wpAny (model X.prog X.w) X.A (eval elt (compEnvC scope cl2 (s.heap.push { cls:=.type "list",data:=.seq #[] }).objs.size X.env)) (fun x s5=>wpAny (model X.prog X.w) X.A (call (.builtin "list.append") [.ref s.heap.objs.size,x]) (fun _ s6=>∃ m,m < n∧∃ i σ' H' ys,Inv X' [] σ' H' s6∧tn i s6.heap∧(∀ b∈fp,H' b=none)∧W i m σ' H' ys) (fun _ _=>False) s5) (fun _ _=>False) s9
     else ∃ m,m < n∧∃ i σ' H' ys,Inv X' [] σ' H' s9∧tn i s9.heap∧(∀ b∈fp,H' b=none)∧W i m σ' H' ys:=by
    intro ok s9 ⟨H9,I9,h9⟩
    cases ok with
    | false=>exact again I9 h9
    | true =>
     have qe:=pe _ s9 σ8 H9 _ I9 h9
     rw[eP,ew,eA,ee,ex]at qe
     refine wpAny_mono qe (fun u s10 ⟨y,H10,I10,r10,hD10,hlt,m',hm,w10⟩=>?_) fun _ _ z=>z
     have qa:=eO (X:=X') (pinsAt fp s7.heap) s10 σ8 H10 (.ref s.heap.objs.size) [y] (.ref s.heap.objs.size) [u] (fun _ H11=>H11=upd H10 s.heap.objs.size (.lst (ys++[y]))) I10 rfl (.cons r10 .nil)
      ⟨s.heap.objs.size,ys,y,rfl,rfl,hD10,hlt,rfl⟩
     rw[eP,ew,eA,ex]at qa
     refine wpAny_mono qa (fun _ s11 ⟨_,H11,I11,_,e11⟩=>?_) fun _ _ z=>z
     subst e11
     exact again I11 ⟨m',hm,w10⟩
   refine m5 hifs (fun q=>body true s8 ⟨H8,I8,kT q q8⟩) fun c q=>?_
   have qt:=pt c q _ s8 σ8 H8 _ I8 (kU q q8)
   rw[eP,ew,eA,ee,ex]at qt
   exact wpAny_mono qt (fun ok s9 ⟨H9,I9,h9⟩=>body ok s9 ⟨H9,I9,h9⟩) fun _ _ z=>z
 exact codeAny_compStart_list loop (T.self _ 0 _ _ _ st1 loop)
def tComp (own:Nat)(cap:List Nat)(wi:TI)(g:TG)(tc:TT)(te:TE):TE:=fun σ H Q=>wi σ H fun J H1=>∀ D,H1 D=none→∃ W,BlkW sizeLine J g tc te D (fun H' _=>Q (.ref D) H') W∧∃ m,W 0 m (startB own cap σ) (upd H1 D (.lst [])) []
theorem l8 (b:BlkOk X.N X.env.scope scope N own cap)(hc:X.calm=true)(hifs:ifs.length≤1)(hi:PI X tg iter wi)
  (hg:∀ cl C s H fp,PG (blk X scope cl C s H fp N) tg g) (ht:∀ c,ifs=[c]→∀ cl C s H fp,PT (blk X scope cl C s H fp N) c tc) (he:∀ cl C s H fp,PE (blk X scope cl C s H fp N) elt te)
  (hs:∀ x,foldedSetIterable iter X.env x=pure x:=by intro _;rfl):PE X (.ListComp elt [⟨tg,iter,ifs,0⟩] scope pos) (tComp own cap wi g (tTests ifs tc) te):=by
 intro pins s σ H Q I h
 obtain⟨cl,hclos,c1,c2⟩:=kQ scope X.env fun y hy hf=>I.ok.has y.1 (b.free y hy hf)
 rw[eval_ListComp]
 refine wpAny_comprehension_free (use:=none) rfl hs hclos b.kind b.nloc (thn (hi pins s σ H _ I h) fun v s1 h1=>thn h1 fun itv s2 h2=>?_)
 obtain⟨it,fp,tn,J,H2,e,I2,T,st2,f2,hW⟩:=h2
 subst e
 refine o6 (RR:=fun acc C=>compPost (model X.prog X.w) X.A X.xe none (EP X pins σ Q) acc C) b hc hifs hg ht he hclos c1 c2 I2 T st2 f2 hW fun D C s' H' ys J1 J2 ⟨m,hm⟩ hD hQ=>?_
 refine⟨m,hm,fun h' hsb=>⟨.ref D,H',?_,rfl,hQ⟩⟩
 obtain⟨f0,f1,f2,f3,f4,f5⟩:=J2
 exact J1.turned (t':=s'.toks) (fun b o hb e=>(hsb.2 b hb).trans e) f0 f1 f3 f4 f5
end
def Walk (J:It)(vs:List V)(Ok:Hp→Prop):Prop:=∀ (i:Nat) (H:Hp),Ok H→(i < vs.length→J.go i H∧∀ x H',J.yld i H x H'→H'=H∧vs[i]?=some x)∧(vs.length≤i→J.stop i H)
def WalkG (F:Fx)(J:It)(ds:List D)(Z1:Hp):Prop:=∀ (i:Nat) (H Z:Hp),Same Z1 Z→Same Z H→(i < ds.length→J.go i H∧∀ x H',J.yld i H x H'→∃ Z' d,Ex H Z H' Z'∧ds[i]?=some d∧Rep F.K F.C Z' d x)∧(ds.length≤i→J.stop i H)
theorem dO {F:Fx}{J:It}{ds:List D}{vs:List V}{Z1:Hp}(rs:Reps F.K F.C Z1 ds vs)(w:Walk J vs (Same Z1)):WalkG F J ds Z1:=fun i H Z z1 z2=>by
 obtain⟨k1,k2⟩:=w i H (z1.trans z2)
 have hl:=rs.length
 refine⟨fun hi=>?_,fun hi=>k2 (by omega)⟩
 obtain⟨go,y⟩:=k1 (by omega)
 exact⟨go,fun x H' hy=>by
  obtain⟨e0,e2⟩:=y x H' hy
  subst e0
  obtain⟨d,e3,rd⟩:=rs.get' e2
  exact⟨Z,d,Ex.refl z2,e3,rd.mono z1⟩⟩
def tI (F:Fx)(g:SS→R (List D)):TI:=fun σ H Q=>∃ Z S,StOk F H Z S σ∧WG F H Z (g S) fun ds H' Z'=>∀ J,WalkG F J ds Z'→ds.length≤16777216→Q J H'
abbrev FI (X:Cx)(F:Fx)(tg e:Expr)(g:SS→R (List D)):Prop:=PI X tg e (tI F g)
def asSeq:D→R (List D)
 | .tup xs=>.ok xs
 | .lst xs=>.ok xs
 | _=>.stuck
def iSeq (g:SS→R D):SS→R (List D):=fun S=>(g S).bind fun d=>(asSeq d).bind fun ds=>if ds.length≤16777216 then .ok ds else .stuck
theorem _root_.L2.PI.weak {X:Cx}{tg e:Expr}{t t':TI}(h:PI X tg e t)(w:∀ σ H Q,t' σ H Q→t σ H Q):PI X tg e t':=fun pins s σ H Q I q=>h pins s σ H Q I (w σ H Q q)
theorem m6 {K:PySem.W.Frag}{a:Addr}{vs:List V}{Z:Hp}(h:SqL K Z a vs):Walk (Itl K a) vs (Same Z):=fun i H hz =>
 ⟨fun hi=>⟨⟨vs,vs[i],hz.seq h,by simp[hi]⟩,fun x H' ⟨e,y⟩=>⟨e,y vs (hz.seq h)⟩⟩,fun hi=>⟨vs,hz.seq h,hi⟩⟩
theorem o7 {K:PySem.W.Frag}{a:Addr}{vs:List V}{Z:Hp}(h:SqT K Z a vs):Walk (Itt K a) vs (Same Z):=fun i H hz =>
 ⟨fun hi=>⟨⟨vs,vs[i],h.mono hz,by simp[hi]⟩,fun x H' ⟨e,y⟩=>⟨e,y vs (h.mono hz)⟩⟩,fun hi=>⟨vs,h.mono hz,hi⟩⟩
theorem gH {lo:Int}{n:Nat}{Z:Hp}:Walk (Itr lo n) ((List.range n).map fun i=>.int (lo+(i:Nat))) (Same Z):=fun i H hz=>by
 refine⟨fun hi=>?_,fun hi=>?_⟩
 ·have hi':i < n:=by simpa using hi
  exact⟨hi',fun x H' ⟨e,y⟩=>⟨e,by rw[y];simp[hi']⟩⟩
 ·show n≤i
  simpa using hi
theorem tV {X:Cx}{tg l:Expr}{tl:TE}(hl:PE X l tl):PI X tg l (fun σ H R=>tl σ H fun x H1=>∃ a,x=.ref a∧(((∃ xs,SqL X.K H1 a xs)∧R (Itl X.K a) H1)∨((∃ xs,SqT X.K H1 a xs)∧R (Itt X.K a) H1))):=by
 intro pins s σ H Q I h
 refine thn (hl pins s σ H _ I h) fun v s1 ⟨x,H1,I1,r1,a,e,q⟩=>?_
 subst e
 cases r1
 rcases q with ⟨⟨xs,hq⟩,q⟩ | ⟨⟨xs,hq⟩,q⟩
 ·obtain⟨its,rv,p,hz⟩:=I1.list hq
  refine wpAny_pyIter_list p.isList ⟨s1.heap.objs.size,[s1.heap.objs.size],_,_,H1,rfl,I1.kept (t':=s1.toks) fun b o e=>Heap.get?_push_of_some _ e,mO a _,⟨_,Heap.get?_push_size _ rfl,rfl,rfl⟩,fun b hb=>?_,q⟩
  obtain rfl:b=s1.heap.objs.size:=by simpa using hb
  exact I1.fpOk (Nat.le_refl _) (I1.hok.fresh (Nat.le_refl _))
 ·obtain⟨its,rv,p,hz⟩:=I1.tuple hq
  refine wpAny_pyIter_tuple (show s1.heap.IsTuple a its.toArray from p) ⟨s1.heap.objs.size,[s1.heap.objs.size],_,_,H1,rfl,I1.kept (t':=s1.toks) fun b o e=>Heap.get?_push_of_some _ e,kH a _,⟨_,Heap.get?_push_size _ rfl,rfl,rfl⟩,fun b hb=>?_,q⟩
  obtain rfl:b=s1.heap.objs.size:=by simpa using hb
  exact I1.fpOk (Nat.le_refl _) (I1.hok.fresh (Nat.le_refl _))
section
variable {X:Cx}{F:Fx}{tg e:Expr}{g:SS→R D}{gs:SS→R (List D)}
theorem bS (hK:X.K=F.K)(h:FE X F e g):FI X F tg e (iSeq g):=(tV h).weak fun σ H Q ⟨Z,S,ok,w⟩=>aB ok w fun d v H1 Z1 ok1 x1 rv w1=>by
 rw[hK]
 cases d with
 | tup ds =>
  rw[Rep]at rv
  obtain⟨a,vs,rfl,h1,h2⟩:=rv
  have w2:WG F H1 Z1 (if ds.length≤16777216 then R.ok ds else .stuck) _:=w1
  split at w2
  ·rename_i hl
   exact⟨a,rfl,.inr ⟨⟨vs,h1.mono ok1.sub⟩,WG.now w2 ok1.sub _ (dO h2 (o7 h1)) hl⟩⟩
  ·exact w2.elim
 | lst ds =>
  rw[Rep]at rv
  obtain⟨a,vs,rfl,h1,h2⟩:=rv
  have w2:WG F H1 Z1 (if ds.length≤16777216 then R.ok ds else .stuck) _:=w1
  split at w2
  ·rename_i hl
   exact⟨a,rfl,.inl ⟨⟨vs,ok1.sub.seq h1⟩,WG.now w2 ok1.sub _ (dO h2 (m6 h1)) hl⟩⟩
  ·exact w2.elim
 | _=>exact w1.elim
def rngD (lo:Int)(n:Nat):List D:=(List.range n).map fun i=>.int (lo+(i:Nat))
def rng1:List D→R (List D)
 | [.int j]=>if -16777216≤j∧j≤16777216 then .ok (rngD 0 j.toNat) else .stuck
 | _=>.stuck
def rng2:List D→R (List D)
 | [.int i,.int j]=>if (-16777216≤i∧i≤16777216)∧(-16777216≤j∧j≤16777216)∧j - i≤16777216 then .ok (rngD i (j - i).toNat) else .stuck
 | _=>.stuck
def iRange1 (gs:SS→R (List D)):SS→R (List D):=fun S=>(gs S).bind rng1
def iRange2 (gs:SS→R (List D)):SS→R (List D):=fun S=>(gs S).bind rng2
theorem gI {K:PySem.W.Frag}{C:Nat→Addr}{Z:Hp}(lo:Int):∀ (l:List Nat),Reps K C Z (l.map fun i=>.int (lo+(i:Nat))) (l.map fun i=>.int (lo+(i:Nat)))
 | []=>Reps.nil
 | a::r=>Reps.cons (by rw[Rep]) (gI lo r)
theorem l9 {K:PySem.W.Frag}{C:Nat→Addr}{Z:Hp}{j:Int}{vs:List V}(r:Reps K C Z [.int j] vs):vs=[.int j]:=by
 rw[Reps]at r
 obtain⟨v,r',rfl,h1,h2⟩:=r
 rw[Reps]at h2
 rw[Rep]at h1
 rw[h1,h2]
theorem o8 {K:PySem.W.Frag}{C:Nat→Addr}{Z:Hp}{i j:Int}{vs:List V}(r:Reps K C Z [.int i,.int j] vs):vs=[.int i,.int j]:=by
 rw[Reps]at r
 obtain⟨v,r',rfl,h1,h2⟩:=r
 rw[Rep]at h1
 rw[h1,l9 h2]
theorem q5 {ds:List D}{es:List D}(h:rng1 ds=.ok es):∃ j:Int,ds=[.int j]∧(-16777216≤j∧j≤16777216)∧es=rngD 0 j.toNat:=by
 unfold rng1 at h
 split at h
 ·rename_i j
  split at h
  ·rename_i q;cases h;exact⟨j,rfl,q,rfl⟩
  ·cases h
 ·cases h
theorem rb {ds:List D}{es:List D}(h:rng2 ds=.ok es):∃ i j:Int,ds=[.int i,.int j]∧((-16777216≤i∧i≤16777216)∧(-16777216≤j∧j≤16777216)∧j - i≤16777216)∧es=rngD i (j - i).toNat:=by
 unfold rng2 at h
 split at h
 ·rename_i i j
  split at h
  ·rename_i q;cases h;exact⟨i,j,rfl,q,rfl⟩
  ·cases h
 ·cases h
theorem re {ds:List D}{k:Nat}(h:rng1 ds=.err k):False:=by
 unfold rng1 at h
 split at h
 ·split at h<;>cases h
 ·cases h
theorem rg {ds:List D}{k:Nat}(h:rng2 ds=.err k):False:=by
 unfold rng2 at h
 split at h
 ·split at h<;>cases h
 ·cases h
theorem cZ {a:Expr}{p pos:Pos}(hg:Gl X "range")(hm:X.mg "range"=none)(ha:FA X F [a] gs)(hs:starEach [a] X.env=[(false,eval a X.env)]:=by rfl):FI X F tg (.Call (.Name "range" p) [a] [] pos) (iRange1 gs) :=
 (mP hg hm ha hs).weak fun σ H Q ⟨Z,S,ok,w⟩=>aS ok w fun ds vs H1 Z1 ok1 x1 rs w1=>by
  cases e:rng1 ds with
  | err k=>exact(re e).elim
  | stuck=>rw[e]at w1;exact w1.elim
  | ok es =>
   rw[e]at w1
   obtain⟨j,rfl,hj,rfl⟩:=q5 e
   exact⟨j,l9 rs,by omega,by omega,WG.now w1 ok1.sub _ (dO (gI 0 _) gH) (by unfold rngD;rw[List.length_map,List.length_range];omega)⟩
theorem iT {a b:Expr}{p pos:Pos}(hg:Gl X "range")(hm:X.mg "range"=none)(ha:FA X F [a,b] gs)(hs:starEach [a,b] X.env=[(false,eval a X.env),(false,eval b X.env)]:=by rfl)(hs2:starEach [b] X.env=[(false,eval b X.env)]:=by rfl) :
  FI X F tg (.Call (.Name "range" p) [a,b] [] pos) (iRange2 gs) :=
 (mQ hg hm ha hs hs2).weak fun σ H Q ⟨Z,S,ok,w⟩=>aS ok w fun ds vs H1 Z1 ok1 x1 rs w1=>by
  cases e:rng2 ds with
  | err k=>exact(rg e).elim
  | stuck=>rw[e]at w1;exact w1.elim
  | ok es =>
   rw[e]at w1
   obtain⟨i,j,rfl,hj,rfl⟩:=rb e
   exact⟨i,j,o8 rs,⟨by omega,by omega,by omega,by omega⟩,WG.now w1 ok1.sub _ (dO (gI i _) gH) (by unfold rngD;rw[List.length_map,List.length_range];omega)⟩
end
def tGd (F:Fx)(g:D→SS→R SS):TG:=fun v σ H Q=>∃ Z S d,StOk F H Z S σ∧Rep F.K F.C Z d v∧WG F H Z (g d S) fun S' H' Z'=>∀ σ',StOk F H' Z' S' σ'→Q σ' H'
abbrev FG (X:Cx)(F:Fx)(tg:Expr)(g:D→SS→R SS):Prop:=PG X tg (tGd F g)
def gNm (i:Nat):D→SS→R SS:=fun d S=>.ok (S.set i (some (.val d)))
theorem _root_.L2.PG.weak {X:Cx}{tg:Expr}{t t':TG}(h:PG X tg t)(w:∀ v σ H Q,t' v σ H Q→t v σ H Q):PG X tg t':=fun pins s σ H v u Q I r q=>h pins s σ H v u Q I r (w v σ H Q q)
theorem aT {X:Cx}{F:Fx}(i:Nat){x:Str}{pos:Pos}(hN:X.N.Nodup)(hi:X.N[i]?=some x:=by rfl)(hx:Loc X.env.scope x:=by first | exact Or.inl rfl | exact Or.inr rfl)(hf:X.fn x=true∨X.env.scope.names.lookup x=some .local:=by first | exact .inl rfl | exact .inr rfl) :
  FG X F (.Name x pos) (gNm i):=(jh hN hi hx hf).weak fun v σ H Q ⟨Z,S,d,ok,r,w⟩=>WG.now w ok.sub _ (ok.setVal r)
def spF (K:PySem.W.Frag)(C:Nat→Addr)(n:Nat)(f:List D→R D):Sp:=fun vs H Q E =>
 vs.length=n∧∃ Z ds,Same Z H∧Reps K C Z ds vs∧WG ⟨K,C,H,Z,E⟩ H Z (f ds) fun d H' Z'=>∀ v,Rep K C Z' d v→Q v H'
def outD (o:O):R D:=match o with
 | .nx _=>.ok .non
 | .rt d=>.ok d
 | .er k=>.err k
 | _=>.stuck
def startS (n:Nat)(ds:List D):SS:=ds.map (fun d=>some (.val d))++List.replicate (n - ds.length) none
def fnD (n:Nat)(body:SS→O):List D→R D:=fun ds=>outD (body (startS n ds))
theorem dP {F:Fx}{N:List Str}{ds:List D}{vs:List V}(z:Same F.Z0 F.H0)(r:Reps F.K F.C F.Z0 ds vs):StOk F F.H0 F.Z0 (startS N.length ds) (start N vs):=by
 have hl:=r.length
 have at_:∀ {i:Nat} {x:Option Sl},(startS N.length ds)[i]?=some x→(i < ds.length∧∃ d,ds[i]?=some d∧x=some (.val d))∨x=none:=fun {i x} e=>by
  unfold startS at e
  by_cases hi:i < ds.length
  ·rw[List.getElem?_append_left (by simpa using hi),List.getElem?_map]at e
   cases q:ds[i]? with
   | none=>rw[q]at e;cases e
   | some d=>rw[q]at e;cases e;exact .inl ⟨hi,d,rfl,rfl⟩
  ·rw[List.getElem?_append_right (by simpa using hi),List.getElem?_replicate]at e
   split at e
   ·cases e;exact .inr rfl
   ·cases e
 refine⟨Ex.refl z,?_,fun i d e=>?_,fun i j x y v w A B _ e1 _ _ _ o1 _=>?_⟩
 ·unfold startS L2.start
  simp[hl]
 ·rcases at_ e with ⟨hi,d',e1,e2⟩ | e2
  ·cases e2
   obtain⟨v,e3,rv⟩:=r.get e1
   refine⟨v,[],?_,⟨rfl,rv⟩,Priv.nil⟩
   unfold L2.start
   rw[List.getElem?_append_left (by simpa [← hl] using hi),List.getElem?_map,e3]
   rfl
  ·cases e2
 ·rcases at_ e1 with ⟨_,d',_,e2⟩ | e2
  ·cases e2;rw[o1.1];exact fun a ha=>nomatch ha
  ·cases e2
section
variable {P:Program}{w:World}{K:PySem.W.Frag}{mg:Str→Option Value}{base:Heap}
structure BX (X:Cx)(F:Fx)(k:Nat):Prop where
 room:Room k X.A
 K:X.K=F.K
 calm:X.calm=true
 pass:Passes (CXE X.prog X.w) X F.E
theorem vc {x qual:Str}{st:Stmt}{f:Addr}{fd:FuncData}{N ps:List Str}{k:Nat}{C:Nat→Addr}{body:SS→O}(F:Fun K x qual st f fd)(S:FnScope N ps (defScope st))
  (h:∀ (cdv:Value) (A:Around) (outer:List Env) (s:Shared) (H Z:Hp) (E:XK),BX (bodyX P w K mg base N qual (defScope st) f cdv A outer s H E) ⟨K,C,H,Z,E⟩ k →
   PassesOwn (model P w) (bodyX P w K mg base N qual (defScope st) f cdv A outer s H E).A (bodyX P w K mg base N qual (defScope st) f cdv A outer s H E).env (bodyX P w K mg base N qual (defScope st) f cdv A outer s H E).xe →
   FSs (bodyX P w K mg base N qual (defScope st) f cdv A outer s H E) ⟨K,C,H,Z,E⟩ (defBody st) body) :
  FnOk P w K mg base (CXE P w) (k+1) f fd ps (spF K C ps.length (fnD N.length body)):=by
 obtain⟨oc,od,kV,doc,pm,an,cdv,ct,osl,rfl,lk,hcd⟩:=F.ex
 refine oP lk hcd S (fun vs H Q E q=>q.1) fun A outer s H vs Q E hr hsp=>?_
 obtain⟨_,Z,ds,z,r,w⟩:=hsp
 refine⟨_,h cdv A outer s H Z E ⟨hr,rfl,rfl,cY⟩ PassesOwn.leaving,Z,startS N.length ds,dP (F:=⟨K,C,H,Z,E⟩) (N:=N) z r,?_⟩
 unfold fnD at w
 cases e:body (startS N.length ds) with
 | nx S'=>rw[e]at w;exact fun σ' H' Z' _ ok=>w H' Z' ok.ex .non (by rw[Rep])
 | rt d=>rw[e]at w;exact fun v H' Z' x rv=>w H' Z' x v rv
 | er k=>rw[e]at w;exact w
 | bk S'=>rw[e]at w;exact w.elim
 | ct S'=>rw[e]at w;exact w.elim
 | stuck=>rw[e]at w;exact w
end
structure Fn1 (P:Program)(w:World)(K:PySem.W.Frag)(mg:Str→Option Value)(base:Heap)(C:Nat→Addr)(k:Nat)(x:Str)(ps:List Str)(f:List D→R D):Prop where
 ex:∃ a fd,FnOk P w K mg base (CXE P w) k a fd ps (spF K C ps.length f)∧mg x=some (.ref a)∧PySem.W.keepIn K (.ref a)=true∧Binds K fd ps []
def eCall (f:List D→R D)(gs:SS→R (List D)):SS→R D:=fun S=>(gs S).bind f
section
variable {X:Cx}{F:Fx}{x:Str}{p pos:Pos}{e:Expr}{es:List Expr}{gs:SS→R (List D)}{k:Nat}{ps:List Str}{f:List D→R D}
theorem o9 (n:Nat)(hn:∀ S ds,gs S=.ok ds→ds.length=n):∀ σ H Q,tE F (eCall f gs) σ H Q→tCall (spF F.K F.C n f) [] F.E (tAl F gs) σ H Q:=fun σ H Q ⟨Z,S,ok,w⟩=>by
 refine⟨Z,S,ok,?_⟩
 cases e:gs S with
 | err k=>unfold eCall at w;rw[e]at w;exact w
 | stuck=>unfold eCall at w;rw[e]at w;exact w
 | ok ds =>
  unfold eCall at w
  rw[e]at w
  intro H1 Z1 x1 vs rs
  have w1:=WG.more (r:=f ds) w x1
  refine⟨by rw[List.append_nil,← rs.length];exact hn S ds e,Z1,ds,x1.sub,by rw[List.append_nil];exact rs,?_⟩
  cases q:f ds with
  | ok d=>rw[q]at w1;exact w1
  | err k=>rw[q]at w1;exact w1
  | stuck=>rw[q]at w1;exact w1
theorem rh (b:BX X F k)(h:Fn1 X.prog X.w F.K X.mg X.base F.C k x ps f)(hg:Gl X x)(ha:FA X F (e::es) gs)(hn:∀ S ds,gs S=.ok ds→ds.length=ps.length)(hdb:(x==("__debug__":Str))=false:=by decide)
  (he:starEach (e::es) X.env=(false,eval e X.env)::starEach es X.env:=by rfl) (hpl:(backTo pos (starEach es X.env)).any (·.1)=false:=by rfl):FE X F (.Call (.Name x p) (e::es) [] pos) (eCall f gs):=by
 obtain⟨a,fd,h1,h2,h3,h4⟩:=h.ex
 have hK:=b.K
 exact(qM (ds:=[]) (dvs:=[]) (E:=F.E) (by rw[hK];exact h1) b.room hg h2 (by rw[hK];exact h3) (by rw[hK];exact h4) .nil b.pass ha hdb he hpl).weak (o9 ps.length hn)
theorem m7 {g:SS→R D}{gs:SS→R (List D)}{n:Nat}(h:∀ S ds,gs S=.ok ds→ds.length=n):∀ S ds,aCons g gs S=.ok ds→ds.length=n+1:=fun S ds e=>by
 unfold aCons at e
 cases q:g S with
 | err k=>rw[q]at e;cases e
 | stuck=>rw[q]at e;cases e
 | ok d =>
  rw[q]at e
  cases q2:gs S with
  | err k=>rw[R.bind_ok,q2]at e;cases e
  | stuck=>rw[R.bind_ok,q2]at e;cases e
  | ok r =>
   rw[R.bind_ok,q2]at e
   cases e
   simp[h S r q2]
end
def noErr {α:Type}(r:R α):R α:=match r with
 | .ok a=>.ok a
 | _=>.stuck
def blkS (own:Nat)(cap:List Nat)(S:SS):SS:=List.replicate own none++cap.map fun i=>match S[i]? with
 | some (some (.val d))=>some (.val d)
 | _=>none
def compGo (S:SS)(g:D→SS→R SS)(c:SS→R Bool)(e:SS→R D):List D→R (List D)
 | []=>.ok []
 | d::r=>(g d S).bind fun S1=>(c S1).bind fun t=>if t=true then (e S1).bind fun y=>(compGo S g c e r).bind fun ys=>.ok (y::ys) else compGo S g c e r
def eComp (own:Nat)(cap:List Nat)(it:SS→R (List D))(g:D→SS→R SS)(c:SS→R Bool)(e:SS→R D):SS→R D:=fun S=>(it S).bind fun ds=>(noErr (compGo (blkS own cap S) g c e ds)).bind fun ys=>.ok (.lst ys)
def tTrue:SS→R Bool:=fun _=>.ok true
abbrev noE (F:Fx):Fx:={ F with E:=fun _ _ _=>False }
def Own (own:Nat)(g:D→SS→R SS):Prop:=∀ d S S1,g d S=.ok S1→S1.length=S.length∧∀ i,own≤i→S1[i]?=S[i]?
theorem bd {X:Cx}{F:Fx}{k:Nat}(bx:BX X F k){scope:Scope}{cl:List (Str×Addr)}{C:Addr}{s:Shared}{H:Hp}{fp:List Addr}{N:List Str}:BX (blk X scope cl C s H fp N) (noE F) k :=
 ⟨bx.room,bx.K,rfl,fun pins σ H s e s' _ h=>by
  obtain⟨_,_,_,_,_,_,_,_,_,_,_,_,_,hE⟩:=h
  exact hE.elim⟩
theorem bI {own i:Nat}(h:i < own):Own own (gNm i):=fun d S S1 e=>by
 cases e
 exact⟨by simp,fun j hj=>List.getElem?_set_ne (by omega)⟩
theorem StOk.forget {F:Fx}{H Z:Hp}{S S0:SS}{σ:St}(h:StOk F H Z S σ)(hl:S0.length=S.length)(hs:∀ (i:Nat) (x:Sl),S0[i]?=some (some x)→S[i]?=some (some x)):StOk F H Z S0 σ :=
 ⟨h.ex,hl.trans h.len,fun i x e=>h.sl i x (hs i _ e),fun i j x y v w A B hij e1 e2=>h.dj i j x y v w A B hij (hs i _ e1) (hs j _ e2)⟩
theorem dQ {own:Nat}{cap:List Nat}{S:SS}{i:Nat}{x:Sl}(e:(blkS own cap S)[i]?=some (some x)):own≤i∧∃ k d,cap[i - own]?=some k∧S[k]?=some (some (.val d))∧x=.val d:=by
 unfold blkS at e
 by_cases hi:i < own
 ·rw[List.getElem?_append_left (by simpa using hi),List.getElem?_replicate]at e
  split at e<;>cases e
 ·rw[List.getElem?_append_right (by simpa using hi),List.length_replicate,List.getElem?_map]at e
  cases q:cap[i - own]? with
  | none=>rw[q]at e;cases e
  | some k =>
   rw[q]at e
   simp only[Option.map_some,Option.some.injEq]at e
   split at e
   ·rename_i d q2
    cases e
    exact⟨by omega,k,d,rfl,q2,rfl⟩
   ·cases e
theorem m8 {F:Fx}{H Z:Hp}{S:SS}{σ:St}{own:Nat}{cap:List Nat}{D:Addr}(ok:StOk F H Z S σ)(hD:H D=none):StOk (noE F) (upd H D (.lst [])) Z (blkS own cap S) (startB own cap σ):=by
 refine⟨ok.ex.trans (Ex.hidden ok.sub hD),by simp[blkS,startB],fun i x e=>?_,fun i j x y v w A B _ e1 _ _ _ o1 _=>?_⟩
 ·obtain⟨hi,k,d',q1,q2,q3⟩:=dQ e
  cases q3
  obtain⟨v,e1,r⟩:=ok.val k d' q2
  refine⟨v,[],?_,⟨rfl,r⟩,Priv.nil⟩
  unfold startB
  rw[List.getElem?_append_right (by simpa using hi),List.length_replicate,List.getElem?_map,q1]
  simp[e1]
 ·obtain⟨_,_,_,_,_,q⟩:=dQ e1
  cases q
  rw[o1.1];exact fun a ha=>nomatch ha
section
variable {X:Cx}{F:Fx}{tg iter elt:Expr}{ifs:List Expr}{scope:Scope}{N:List Str}{own:Nat}{cap:List Nat}{pos:Pos}{git:SS→R (List D)}{g:D→SS→R SS}{gc:SS→R Bool}{ge:SS→R D}
theorem kW {σ:St}{H Z:Hp}{S:SS}{ifs:List Expr}{P:D→Hp→Hp→Prop}{Q:Addr→Hp→Prop}(hgc:ifs=[]→gc=tTrue)(hgo:Own own g)(ok:StOk F H Z S σ)(w:WG F H Z (eComp own cap git g gc ge S) P)
  (hP:∀ D ys ds H1 Z1 H' Z',Ex H Z H1 Z1→H1 D=none→Ex H1 Z1 H' Z'→Z' D=none→(∀ H'' Z'',Ex H1 Z1 H'' Z''→P (.lst ds) H'' Z'')→H' D=some (.lst ys)→Reps F.K F.C Z' ds ys→Q D H') :
  tI F git σ H fun J H1=>∀ D,H1 D=none→∃ W,BlkW sizeLine J (tGd (noE F) g) (tTests ifs (tT (noE F) gc)) (tE (noE F) ge) D (fun H' _=>Q D H') W∧∃ m,W 0 m (startB own cap σ) (upd H1 D (.lst [])) []:=by
 refine⟨Z,S,ok,?_⟩
 unfold eComp at w
 cases e:git S with
 | err k=>rw[e]at w;exact w
 | stuck=>rw[e]at w;exact w
 | ok ds =>
  rw[e]at w
  intro H1 Z1 x1 J wk hlen D hD
  have w1:=WG.more (r:=(noErr (compGo (blkS own cap S) g gc ge ds)).bind fun ys=>R.ok (FF.D.lst ys)) w x1
  have ok1:=ok.more x1
  have hS:=sizeLine_eq
  refine⟨fun i m σ' H' ys=>m=ds.length - i∧i≤ds.length∧H' D=some (.lst ys)∧ys.length≤i∧∃ Z' acc,Ex H1 Z1 H' Z'∧Z' D=none∧Reps F.K F.C Z' acc ys∧StOk (noE F) H' Z' (blkS own cap S) σ' ∧
   WG F H1 Z1 ((noErr (compGo (blkS own cap S) g gc ge (ds.drop i))).bind fun zs=>R.ok (FF.D.lst (acc++zs))) P,?_,ds.length,rfl,Nat.zero_le _,ao,Nat.le_refl _,Z1,[],Ex.hidden ok1.sub hD,ok1.sub.free hD,Reps.nil,m8 ok1 hD,w1⟩
  rintro i m σ2 H2 ys ⟨rfl,hle,hDy,hyl,Z2,acc,x2,hZD,ra,ok2,w2⟩
  refine⟨hDy,?_⟩
  obtain⟨k1,k2⟩:=wk i H2 Z2 x2.z x2.sub
  by_cases hlt:i < ds.length
  ·obtain⟨go,y⟩:=k1 hlt
   refine .inr ⟨go,fun x H' hy=>?_⟩
   obtain⟨Z2',d,x',e3,rd⟩:=y x H' hy
   have ok2:=ok2.more x'
   have hZD:Z2' D=none:=by
    cases r:Z2' D with
    | none=>rfl
    | some o =>
     rcases x'.new D (by rw[r];simp) with z | z
     ·exact absurd hZD z
     ·rw[hDy]at z;cases z
   have hDy:=x'.same _ _ hDy
   have x2:=x2.trans x'
   have ra:=ra.mono x'.z
   have hd:ds.drop i=d::ds.drop (i+1):=by
    obtain⟨hi,e4⟩:=List.getElem?_eq_some_iff.mp e3
    rw[List.drop_eq_getElem_cons hi,e4]
   rw[hd]at w2
   unfold compGo at w2
   refine⟨Z2',blkS own cap S,d,ok2,rd,?_⟩
   cases qg:g d (blkS own cap S) with
   | err k=>rw[qg]at w2;exact w2.elim
   | stuck=>rw[qg]at w2;exact w2.elim
   | ok S1 =>
    rw[qg,R.bind_ok]at w2
    intro H3 Z3 x3 σ3 ok3
    obtain⟨gl,gk⟩:=hgo _ _ _ qg
    have back:∀ {H Z:Hp},StOk (noE F) H Z S1 σ3→StOk (noE F) H Z (blkS own cap S) σ3:=fun h=>h.forget gl.symm fun j z q=>by
     rw[gk j (dQ q).1];exact q
    have hD3:H3 D=some (.lst ys):=x3.same _ _ hDy
    have x13:=x2.trans x3
    have zD:∀ {H Z:Hp},Ex H1 Z1 H Z→Ex H' Z2' H Z→Z D=none:=fun {H Z} _ q=>by
     cases r:Z D with
     | none=>rfl
     | some o =>
      rcases q.new D (by rw[r];simp) with z | z
      ·exact absurd hZD z
      ·rw[hDy]at z;cases z
    have fin:∀ (t:Bool) (H4 Z4:Hp),Ex H' Z2' H4 Z4→StOk (noE F) H4 Z4 S1 σ3→gc S1=.ok t→if t=true then tE (noE F) ge σ3 H4 fun y H5=>H5 D=some (.lst ys)∧ys.length < sizeLine∧∃ m',m' < ds.length - i∧(m'=ds.length - (i+1)∧i+1≤ds.length∧(upd H5 D (.lst (ys++[y]))) D=some (.lst (ys++[y]))∧(ys++[y]).length≤i+1∧∃ Z' acc,Ex H1 Z1 (upd H5 D (.lst (ys++[y]))) Z'∧Z' D=none∧Reps F.K F.C Z' acc (ys++[y])∧StOk (noE F) (upd H5 D (.lst (ys++[y]))) Z' (blkS own cap S) σ3 ∧
      WG F H1 Z1 ((noErr (compGo (blkS own cap S) g gc ge (ds.drop (i+1)))).bind fun zs=>R.ok (FF.D.lst (acc++zs))) P)
      else ∃ m',m' < ds.length - i∧(m'=ds.length - (i+1)∧i+1≤ds.length∧H4 D=some (.lst ys)∧ys.length≤i+1∧∃ Z' acc,Ex H1 Z1 H4 Z'∧Z' D=none∧Reps F.K F.C Z' acc ys∧StOk (noE F) H4 Z' (blkS own cap S) σ3 ∧
      WG F H1 Z1 ((noErr (compGo (blkS own cap S) g gc ge (ds.drop (i+1)))).bind fun zs=>R.ok (FF.D.lst (acc++zs))) P):=by
     intro t H4 Z4 x4 ok4 qc
     rw[qc,R.bind_ok]at w2
     cases t with
     | false =>
      rw[if_neg Bool.false_ne_true]at w2 ⊢
      exact⟨ds.length - (i+1),by omega,rfl,hlt,x4.same _ _ hDy,by omega,Z4,acc,x2.trans x4,zD (x2.trans x4) x4,ra.mono x4.z,back ok4,w2⟩
     | true =>
      rw[if_pos rfl]at w2 ⊢
      refine⟨Z4,S1,ok4,?_⟩
      cases qe:ge S1 with
      | err k=>rw[qe]at w2;exact w2.elim
      | stuck=>rw[qe]at w2;exact w2.elim
      | ok yd =>
       rw[qe,R.bind_ok]at w2
       intro H5 Z5 x5 yv ry
       have hD5:H5 D=some (.lst ys):=x5.same _ _ (x4.same _ _ hDy)
       have x25:=x4.trans x5
       have z5:=zD (x2.trans x25) x25
       have ok5:=ok4.more x5
       have n0:F.H0 D=none:=ok1.ex.same.free hD
       have xu:Ex H1 Z1 (upd H5 D (.lst (ys++[yv]))) Z5:=by
        have q:=x2.trans x25
        refine⟨fun b o e=>?_,q.z,fun b o e=>?_,q.new⟩
        ·rw[ai (fun z=>by subst z;rw[hD]at e;cases e)];exact q.same b o e
        ·rw[ai (fun z=>by subst z;rw[z5]at e;cases e)];exact q.sub b o e
       refine⟨hD5,by omega,ds.length - (i+1),by omega,rfl,hlt,ao,by simp;omega,Z5,acc++[yd],xu,z5,(ra.mono x25.z).append (Reps.cons ry Reps.nil),?_,?_⟩
       ·have q:=back ok5
        refine⟨⟨fun b o e=>?_,q.ex.z,fun b o e=>?_,q.ex.new⟩,q.len,fun j x e=>?_,fun j k x y v w A B _ e1 _ _ _ o1 _=>?_⟩
        ·rw[ai (fun z=>by subst z;have e':F.H0 b=some o:=e;rw[n0]at e';cases e')];exact q.ex.same b o e
        ·rw[ai (fun z=>by subst z;rw[z5]at e;cases e)];exact q.ex.sub b o e
        ·obtain⟨_,_,_,_,_,z⟩:=dQ e
         cases z
         obtain⟨v,e1,r⟩:=q.val j _ e
         exact⟨v,[],e1,⟨rfl,r⟩,Priv.nil⟩
        ·obtain⟨_,_,_,_,_,z⟩:=dQ e1
         cases z
         rw[o1.1];exact fun a ha=>nomatch ha
       ·cases qr:compGo (blkS own cap S) g gc ge (ds.drop (i+1)) with
        | err k=>rw[qr]at w2;exact w2.elim
        | stuck=>rw[qr]at w2;exact w2.elim
        | ok zs=>rw[qr]at w2;simpa [noErr,List.append_assoc] using w2
    cases qc:gc S1 with
    | err k=>rw[qc]at w2;exact w2.elim
    | stuck=>rw[qc]at w2;exact w2.elim
    | ok t =>
     cases ifs with
     | nil =>
      have:=hgc rfl
      subst this
      cases qc
      exact fin true H3 Z3 x3 ok3 rfl
     | cons c r =>
      refine⟨Z3,S1,ok3,?_⟩
      rw[qc]
      intro H4 Z4 x4
      exact fin t H4 Z4 (x3.trans x4) (ok3.more x4) qc
  ·have ei:i=ds.length:=by omega
   refine .inl ⟨k2 (by omega),?_⟩
   rw[List.drop_eq_nil_of_le (by omega)]at w2
   have w3:WG F H1 Z1 (R.ok (FF.D.lst (acc++[]))) P:=w2
   rw[List.append_nil]at w3
   exact hP D ys acc H1 Z1 H2 Z2 x1 hD x2 hZD w3 hDy ra
theorem iU {σ:St}{H Z:Hp}{S:SS}{ifs:List Expr}{P:D→Hp→Hp→Prop}{Q:Addr→Hp→Prop}(hgc:ifs=[]→gc=tTrue)(hgo:Own own g)(ok:StOk F H Z S σ)(w:WG F H Z (eComp own cap git g gc ge S) P)(hP:∀ D ys ds H' Z',Ex H Z H' Z'→P (.lst ds) H' Z'→H' D=some (.lst ys)→Z' D=some (.lst ys)→Reps F.K F.C Z' ds ys→Q D H') :
  tI F git σ H fun J H1=>∀ D,H1 D=none→∃ W,BlkW sizeLine J (tGd (noE F) g) (tTests ifs (tT (noE F) gc)) (tE (noE F) ge) D (fun H' _=>Q D H') W∧∃ m,W 0 m (startB own cap σ) (upd H1 D (.lst [])) [] :=
 kW hgc hgo ok w fun D ys ds H1 Z1 H2 Z2 x1 hD x2 hZD w3 hDy ra=>by
  have hz:Same Z2 (upd Z2 D (.lst ys)):=aH hZD
  have xf:Ex H1 Z1 H2 (upd Z2 D (.lst ys)):=by
   refine⟨x2.same,x2.z.trans hz,fun b o e=>?_,fun b hb=>?_⟩
   ·by_cases q:b=D
    ·subst q;rw[ao]at e;cases e;exact hDy
    ·rw[ai q]at e;exact x2.sub b o e
   ·by_cases q:b=D
    ·subst q;exact .inr hD
    ·rw[ai q]at hb;exact x2.new b hb
  exact hP D ys ds H2 _ (x1.trans xf) (w3 H2 _ xf) hDy ao (ra.mono hz)
theorem br {k:Nat}(bx:BX X F k)(b:BlkOk X.N X.env.scope scope N own cap)(hi:FI X F tg iter git)(hgo:Own own g)
  (hg:∀ cl C s H fp,FG (blk X scope cl C s H fp N) (noE F) tg g) (he:∀ cl C s H fp,FE (blk X scope cl C s H fp N) (noE F) elt ge)
  (hs:∀ x,foldedSetIterable iter X.env x=pure x:=by intro _;rfl):FE X F (.ListComp elt [⟨tg,iter,[],0⟩] scope pos) (eComp own cap git g tTrue ge) :=
 (l8 (ifs:=[]) (tc:=tT (noE F) tTrue) b bx.calm (by simp) hi hg (fun c q=>nomatch q) he hs).weak fun σ H Q ⟨Z,S,ok,w⟩ =>
  iU (fun _=>rfl) hgo ok w fun D ys ds H' Z' _ p h1 h2 r=>p _ (by rw[Rep];exact⟨D,ys,rfl,SqL.of h2,r⟩)
theorem iV {k:Nat}{c:Expr}(bx:BX X F k)(b:BlkOk X.N X.env.scope scope N own cap)(hi:FI X F tg iter git)(hgo:Own own g)
  (hg:∀ cl C s H fp,FG (blk X scope cl C s H fp N) (noE F) tg g) (ht:∀ cl C s H fp,FT (blk X scope cl C s H fp N) (noE F) c gc) (he:∀ cl C s H fp,FE (blk X scope cl C s H fp N) (noE F) elt ge)
  (hs:∀ x,foldedSetIterable iter X.env x=pure x:=by intro _;rfl):FE X F (.ListComp elt [⟨tg,iter,[c],0⟩] scope pos) (eComp own cap git g gc ge) :=
 (l8 (ifs:=[c]) b bx.calm (by simp) hi hg (fun c' q=>by cases q;exact ht) he hs).weak fun σ H Q ⟨Z,S,ok,w⟩ =>
  iU (fun q=>nomatch q) hgo ok w fun D ys ds H' Z' _ p h1 h2 r=>p _ (by rw[Rep];exact⟨D,ys,rfl,SqL.of h2,r⟩)
end
def dAdd (x y:D):R D:=if isInt x=true then dI0 (fun i j=>.int (i+j)) x y else if isTup x=true then dCatT x y else dCatL x y
def dSub:D→D→R D:=dI0 fun i j=>.int (i - j)
def dMul (x y:D):R D:=if isInt x=true then dI cMul (fun i j=>.int (i*j)) x y else if isTup x=true then dRepT x y else dRepL x y
def dDiv:D→D→R D:=dI cDiv fun i j=>.int (i/j)
def dMod:D→D→R D:=dI (fun _ j=>decide (0 < j)) fun i j=>.int (i%j)
def dLt:D→D→R D:=dI0 fun i j=>.bl (decide (i < j))
def dLe:D→D→R D:=dI0 fun i j=>.bl (decide (i≤j))
def dGt:D→D→R D:=dI0 fun i j=>.bl (decide (j < i))
def dGe:D→D→R D:=dI0 fun i j=>.bl (decide (j≤i))
theorem aI {K:PySem.W.Frag}{C:Nat→Addr}{Z:Hp}{i:Int}:Rep K C Z (.int i) (.int i):=by rw[Rep]
theorem aU {K:PySem.W.Frag}{C:Nat→Addr}{Z:Hp}{i:Bool}:Rep K C Z (.bl i) (.bl i):=by rw[Rep]
section
variable {X:Cx}{F:Fx}{a b c:Expr}{ga gb gc:SS→R D}{pos:Pos}
theorem gJ (ha:FE X F a ga)(hb:FE X F b gb):FE X F (.BinOp a .Sub b pos) (eOp dSub ga gb):=jU tj (cc fun _ _ _=>aI) ha hb
theorem gK (ha:FE X F a ga)(hb:FE X F b gb):FE X F (.BinOp a .FloorDiv b pos) (eOp dDiv ga gb):=jU qJ (oW qU fun _ _ _=>aI) ha hb
theorem ce (ha:FE X F a ga)(hb:FE X F b gb):FE X F (.BinOp a .Mod b pos) (eOp dMod ga gb):=jU tu (oW (fun i j h=>of_decide_eq_true h) fun _ _ _=>aI) ha hb
theorem pb (ha:FE X F a ga)(hb:FE X F b gb):FE X F (.Compare a [.LtE] [b] pos) (eOp dLe ga gb):=kS lV (cc fun _ _ _=>aU) ha hb
theorem uH (ha:FE X F a ga)(hb:FE X F b gb):FT X F (.Compare a [.Lt] [b] pos) (gB (eOp dLt ga gb)):=dk sy (cc fun _ _ _=>aU) ha hb
theorem uI (ha:FE X F a ga)(hb:FE X F b gb):FT X F (.Compare a [.Gt] [b] pos) (gB (eOp dGt ga gb)):=dk uE (cc fun _ _ _=>aU) ha hb
theorem ah (hK:X.K=F.K)(ha:FE X F a ga)(hb:FE X F b gb)(hs:PlainIx b:=by intro _ _;rfl):FE X F (.Subscript a b pos) (eOp dIx ga gb):=uG tK (by rw[hK];exact tU) ha hb hs
theorem rj:OpR X (binaryOp .Add) (fun x y H Q=>rI0 (fun i j=>.int (i+j)) x y H Q∨(rCat2 X.K x y H Q∨∃ a b xs ys,x=.ref a∧y=.ref b∧SqL X.K H a xs∧SqL X.K H b ys∧xs.length+ys.length≤sizeLine∧∀ p,H p=none→Q (.ref p) (upd H p (.lst (xs++ys))))) :=
 sZ.or (qV.or o0)
theorem aA (hK:X.K=F.K)(ha:FE X F a ga)(hb:FE X F b gb):FE X F (.BinOp a .Add b pos) (eOp dAdd ga gb) :=
 jU rj (by rw[hK];exact OpD.or (fun x _=>isInt x) (cc fun _ _ _=>aI) (OpD.or (fun x _=>isTup x) oX oZ)) ha hb
theorem cf (hK:X.K=F.K)(ha:FE X F a ga)(hb:FE X F b gb):FE X F (.BinOp a .Mult b pos) (eOp dMul ga gb) :=
 jU (tm.or (qW.or qX)) (by rw[hK];exact OpD.or (fun x _=>isInt x) (oW qT fun _ _ _=>aI) (OpD.or (fun x _=>isTup x) oY o4)) ha hb
end
theorem tW {X:Cx}{pins:List (Addr×Obj)}{σ:St}{H Z:Hp}{s:Shared}{K:PySem.W.Frag}{C:Nat→Addr}(hK:X.K=K)(I:Inv X pins σ H s)(z:Same Z H)(n:Nat)(A:Around)(d e:D)(v u:V)(x y:Value)(g1:good n d=true)(g2:good n e=true)
  (h:Rep K C Z d v) (h':Rep K C Z e u) (rx:RelV v x) (ry:RelV u y) (hu:A.units+n < cLine):SeqAt.RcAt A s x y (eqD d e):=by
 have hu0:A.units < cLine:=by omega
 cases d with
 | exc k=>cases n<;>simp[good]at g1
 | fn k=>cases n<;>simp[good]at g1
 | tab ks xs=>cases n<;>simp[good]at g1
 | dic ks xs=>cases n<;>simp[good]at g1
 | ptr a=>cases n<;>simp[good]at g1
 | tup ds =>
  cases n with
  | zero=>simp[good]at g1
  | succ n =>
   have in1:A.in1.units+n < cLine:=by show A.units+1+n < cLine;omega
   rw[Rep]at h
   obtain⟨a,vs,rfl,h1,h2⟩:=h
   cases rx
   obtain⟨its,r,p,_⟩:=I.tuple (by rw[hK];exact h1.mono z:SqT X.K H a vs)
   have p':s.heap.IsTuple a its.toArray:=p
   cases e with
   | tup es =>
    rw[Rep]at h'
    obtain⟨b,us,rfl,k1,k2⟩:=h'
    cases ry
    obtain⟨its2,r2,p2,_⟩:=I.tuple (by rw[hK];exact k1.mono z:SqT X.K H b us)
    have p2':s.heap.IsTuple b its2.toArray:=p2
    rw[good]at g1 g2
    have q:=SeqAt.RcAt.tuples (A:=A) (e:=fun j=>eqD (ds.getD j .non) (es.getD j .non)) p' p2' hu0 fun j j1 j2=>by
     have j1':j < its.length:=by simpa using j1
     have j2':j < its2.length:=by simpa using j2
     have l1:j < ds.length:=by rw[h2.length,r.length];exact j1'
     have l2:j < es.length:=by rw[k2.length,r2.length];exact j2'
     have e1:ds[j]?=some ds[j]:=by simp
     have e2:es[j]?=some es[j]:=by simp
     obtain⟨w1,f1,f2⟩:=h2.get e1
     obtain⟨w2,f3,f4⟩:=k2.get e2
     obtain⟨z1,m1,m2⟩:=r.get f1
     obtain⟨z2,m3,m4⟩:=r2.get f3
     have n1:its.toArray[j]=z1:=by simpa [j1'] using m1
     have n2:its2.toArray[j]=z2:=by simpa [j2'] using m3
     rw[n1,n2]
     have g3:ds.getD j .non=ds[j]:=by simp[l1]
     have g4:es.getD j .non=es[j]:=by simp[l2]
     rw[g3,g4]
     exact dl hK I z n A.in1 _ _ w1 w2 z1 z2 (aK g1 e1) (aK g2 e2) f2 f4 m2 m4 in1
    rw[eqD,bH]
    have s1:its.toArray.size=ds.length:=by rw[List.size_toArray,h2.length,r.length]
    have s2:its2.toArray.size=es.length:=by rw[List.size_toArray,k2.length,r2.length]
    rw[s1,s2]at q
    exact q
   | lst es =>
    rw[Rep]at h'
    obtain⟨b,us,rfl,k1,k2⟩:=h'
    cases ry
    obtain⟨its2,r2,p2,_⟩:=I.list (by rw[hK];exact z.seq k1:SqL X.K H b us)
    simp only[eqD]
    exact SeqAt.RcAt.tuple_list p' p2.isList hu0
   | exc k=>simp[good]at g2
   | fn k=>simp[good]at g2
   | tab ks xs=>simp[good]at g2
   | dic ks xs=>simp[good]at g2
   | ptr a=>simp[good]at g2
   | non=>rw[Rep]at h';subst h';cases ry;simp only[eqD];exact SeqAt.RcAt.tuple_none p' hu0
   | bl b=>rw[Rep]at h';subst h';cases ry;simp only[eqD];exact SeqAt.RcAt.tuple_bool _ p' hu0
   | int b=>rw[Rep]at h';subst h';obtain⟨t,rfl⟩:=ry;simp only[eqD];exact SeqAt.RcAt.tuple_int _ _ p' hu0
   | str b=>rw[Rep]at h';subst h';obtain⟨t,rfl⟩:=ry;simp only[eqD];exact SeqAt.RcAt.tuple_str _ _ p' hu0
 | lst ds =>
  cases n with
  | zero=>simp[good]at g1
  | succ n =>
   have in1:A.in1.units+n < cLine:=by show A.units+1+n < cLine;omega
   rw[Rep]at h
   obtain⟨a,vs,rfl,h1,h2⟩:=h
   cases rx
   obtain⟨its,r,p,_⟩:=I.list (by rw[hK];exact z.seq h1:SqL X.K H a vs)
   have p':=p.isList
   cases e with
   | lst es =>
    rw[Rep]at h'
    obtain⟨b,us,rfl,k1,k2⟩:=h'
    cases ry
    obtain⟨its2,r2,p2,_⟩:=I.list (by rw[hK];exact z.seq k1:SqL X.K H b us)
    have p2':=p2.isList
    rw[good]at g1 g2
    have s1:its.toArray.size=ds.length:=by rw[List.size_toArray,h2.length,r.length]
    have s2:its2.toArray.size=es.length:=by rw[List.size_toArray,k2.length,r2.length]
    rw[eqD,bH]
    by_cases hsz:ds.length=es.length
    ·have q:=SeqAt.RcAt.lists (A:=A) (e:=fun j=>eqD (ds.getD j .non) (es.getD j .non)) p' p2' (by rw[s1,s2];exact hsz) hu0 fun j j1 j2=>by
      have j1':j < its.length:=by simpa using j1
      have j2':j < its2.length:=by simpa using j2
      have l1:j < ds.length:=by rw[h2.length,r.length];exact j1'
      have l2:j < es.length:=by rw[k2.length,r2.length];exact j2'
      have e1:ds[j]?=some ds[j]:=by simp
      have e2:es[j]?=some es[j]:=by simp
      obtain⟨w1,f1,f2⟩:=h2.get e1
      obtain⟨w2,f3,f4⟩:=k2.get e2
      obtain⟨z1,m1,m2⟩:=r.get f1
      obtain⟨z2,m3,m4⟩:=r2.get f3
      have n1:its.toArray[j]=z1:=by simpa [j1'] using m1
      have n2:its2.toArray[j]=z2:=by simpa [j2'] using m3
      rw[n1,n2]
      have g3:ds.getD j .non=ds[j]:=by simp[l1]
      have g4:es.getD j .non=es[j]:=by simp[l2]
      rw[g3,g4]
      exact dl hK I z n A.in1 _ _ w1 w2 z1 z2 (aK g1 e1) (aK g2 e2) f2 f4 m2 m4 in1
     rw[s1]at q
     rw[hsz,Nat.min_self,beq_self_eq_true,Bool.and_true,← hsz]
     exact q
    ·have q:=SeqAt.RcAt.lists_lengths (A:=A) p' p2' (by rw[s1,s2];simpa using hsz) hu0
     rw[show (ds.length==es.length)=false by simpa using hsz,Bool.and_false]
     exact q
   | tup es =>
    rw[Rep]at h'
    obtain⟨b,us,rfl,k1,k2⟩:=h'
    cases ry
    obtain⟨its2,r2,p2,_⟩:=I.tuple (by rw[hK];exact k1.mono z:SqT X.K H b us)
    simp only[eqD]
    exact SeqAt.RcAt.list_tuple p' (show s.heap.IsTuple b its2.toArray from p2) hu0
   | exc k=>simp[good]at g2
   | fn k=>simp[good]at g2
   | tab ks xs=>simp[good]at g2
   | dic ks xs=>simp[good]at g2
   | ptr a=>simp[good]at g2
   | non=>rw[Rep]at h';subst h';cases ry;simp only[eqD];exact SeqAt.RcAt.list_none p' hu0
   | bl b=>rw[Rep]at h';subst h';cases ry;simp only[eqD];exact SeqAt.RcAt.list_bool _ p' hu0
   | int b=>rw[Rep]at h';subst h';obtain⟨t,rfl⟩:=ry;simp only[eqD];exact SeqAt.RcAt.list_int _ _ p' hu0
   | str b=>rw[Rep]at h';subst h';obtain⟨t,rfl⟩:=ry;simp only[eqD];exact SeqAt.RcAt.list_str _ _ p' hu0
 | non =>
  rw[Rep]at h;subst h;cases rx
  cases e with
  | tup es =>
   rw[Rep]at h'
   obtain⟨b,us,rfl,k1,k2⟩:=h'
   cases ry
   obtain⟨its2,r2,p2,_⟩:=I.tuple (by rw[hK];exact k1.mono z:SqT X.K H b us)
   simp only[eqD];exact SeqAt.RcAt.none_tuple (show s.heap.IsTuple b its2.toArray from p2) hu0
  | lst es =>
   rw[Rep]at h'
   obtain⟨b,us,rfl,k1,k2⟩:=h'
   cases ry
   obtain⟨its2,r2,p2,_⟩:=I.list (by rw[hK];exact z.seq k1:SqL X.K H b us)
   simp only[eqD];exact SeqAt.RcAt.none_list p2.isList hu0
  | exc k=>cases n<;>simp[good]at g2
  | fn k=>cases n<;>simp[good]at g2
  | tab ks xs=>cases n<;>simp[good]at g2
  | dic ks xs=>cases n<;>simp[good]at g2
  | ptr a=>cases n<;>simp[good]at g2
  | non=>rw[Rep]at h';subst h';cases ry;simp only[eqD];exact SeqAt.RcAt.none_none
  | bl b=>rw[Rep]at h';subst h';cases ry;simp only[eqD];exact SeqAt.RcAt.none_bool _
  | int b=>rw[Rep]at h';subst h';obtain⟨t,rfl⟩:=ry;simp only[eqD];exact SeqAt.RcAt.none_int _ _
  | str b=>rw[Rep]at h';subst h';obtain⟨t,rfl⟩:=ry;simp only[eqD];exact SeqAt.RcAt.none_str _ _
 | bl a =>
  rw[Rep]at h;subst h;cases rx
  cases e with
  | tup es =>
   rw[Rep]at h'
   obtain⟨b,us,rfl,k1,k2⟩:=h'
   cases ry
   obtain⟨its2,r2,p2,_⟩:=I.tuple (by rw[hK];exact k1.mono z:SqT X.K H b us)
   simp only[eqD];exact SeqAt.RcAt.bool_tuple _ (show s.heap.IsTuple b its2.toArray from p2) hu0
  | lst es =>
   rw[Rep]at h'
   obtain⟨b,us,rfl,k1,k2⟩:=h'
   cases ry
   obtain⟨its2,r2,p2,_⟩:=I.list (by rw[hK];exact z.seq k1:SqL X.K H b us)
   simp only[eqD];exact SeqAt.RcAt.bool_list _ p2.isList hu0
  | exc k=>cases n<;>simp[good]at g2
  | fn k=>cases n<;>simp[good]at g2
  | tab ks xs=>cases n<;>simp[good]at g2
  | dic ks xs=>cases n<;>simp[good]at g2
  | ptr a=>cases n<;>simp[good]at g2
  | non=>rw[Rep]at h';subst h';cases ry;simp only[eqD];exact SeqAt.RcAt.bool_none _
  | bl b=>rw[Rep]at h';subst h';cases ry;simp only[eqD];exact SeqAt.RcAt.bool_bool _ _
  | int b=>rw[Rep]at h';subst h';obtain⟨t,rfl⟩:=ry;simp only[eqD];exact SeqAt.RcAt.bool_int _ _ _
  | str b=>rw[Rep]at h';subst h';obtain⟨t,rfl⟩:=ry;simp only[eqD];exact SeqAt.RcAt.bool_str _ _ _
 | int a =>
  rw[Rep]at h;subst h;obtain⟨t0,rfl⟩:=rx
  cases e with
  | tup es =>
   rw[Rep]at h'
   obtain⟨b,us,rfl,k1,k2⟩:=h'
   cases ry
   obtain⟨its2,r2,p2,_⟩:=I.tuple (by rw[hK];exact k1.mono z:SqT X.K H b us)
   simp only[eqD];exact SeqAt.RcAt.int_tuple _ _ (show s.heap.IsTuple b its2.toArray from p2) hu0
  | lst es =>
   rw[Rep]at h'
   obtain⟨b,us,rfl,k1,k2⟩:=h'
   cases ry
   obtain⟨its2,r2,p2,_⟩:=I.list (by rw[hK];exact z.seq k1:SqL X.K H b us)
   simp only[eqD];exact SeqAt.RcAt.int_list _ _ p2.isList hu0
  | exc k=>cases n<;>simp[good]at g2
  | fn k=>cases n<;>simp[good]at g2
  | tab ks xs=>cases n<;>simp[good]at g2
  | dic ks xs=>cases n<;>simp[good]at g2
  | ptr a=>cases n<;>simp[good]at g2
  | non=>rw[Rep]at h';subst h';cases ry;simp only[eqD];exact SeqAt.RcAt.int_none _ _
  | bl b=>rw[Rep]at h';subst h';cases ry;simp only[eqD];exact SeqAt.RcAt.int_bool _ _ _
  | int b=>rw[Rep]at h';subst h';obtain⟨t,rfl⟩:=ry;simp only[eqD];exact SeqAt.RcAt.int_int _ _ _ _
  | str b=>rw[Rep]at h';subst h';obtain⟨t,rfl⟩:=ry;simp only[eqD];exact SeqAt.RcAt.int_str _ _ _ _
 | str a =>
  rw[Rep]at h;subst h;obtain⟨t0,rfl⟩:=rx
  cases e with
  | tup es =>
   rw[Rep]at h'
   obtain⟨b,us,rfl,k1,k2⟩:=h'
   cases ry
   obtain⟨its2,r2,p2,_⟩:=I.tuple (by rw[hK];exact k1.mono z:SqT X.K H b us)
   simp only[eqD];exact SeqAt.RcAt.str_tuple _ _ (show s.heap.IsTuple b its2.toArray from p2) hu0
  | lst es =>
   rw[Rep]at h'
   obtain⟨b,us,rfl,k1,k2⟩:=h'
   cases ry
   obtain⟨its2,r2,p2,_⟩:=I.list (by rw[hK];exact z.seq k1:SqL X.K H b us)
   simp only[eqD];exact SeqAt.RcAt.str_list _ _ p2.isList hu0
  | exc k=>cases n<;>simp[good]at g2
  | fn k=>cases n<;>simp[good]at g2
  | tab ks xs=>cases n<;>simp[good]at g2
  | dic ks xs=>cases n<;>simp[good]at g2
  | ptr a=>cases n<;>simp[good]at g2
  | non=>rw[Rep]at h';subst h';cases ry;simp only[eqD];exact SeqAt.RcAt.str_none _ _
  | bl b=>rw[Rep]at h';subst h';cases ry;simp only[eqD];exact SeqAt.RcAt.str_bool _ _ _
  | int b=>rw[Rep]at h';subst h';obtain⟨t,rfl⟩:=ry;simp only[eqD];exact SeqAt.RcAt.str_int _ _ _ _
  | str b=>rw[Rep]at h';subst h';obtain⟨t,rfl⟩:=ry;simp only[eqD];exact SeqAt.RcAt.str_str _ _ _ _
def dEq (x y:D):R D:=if good 60 x=true∧good 60 y=true then .ok (.bl (eqD x y)) else .stuck
def rEqD (K:PySem.W.Frag)(C:Nat→Addr):R2:=fun x y H Q=>∃ Z d e,Same Z H∧Rep K C Z d x∧Rep K C Z e y∧good 60 d=true∧good 60 e=true∧Q (.bl (eqD d e)) H
section
variable {X:Cx}{F:Fx}{a b c:Expr}{ga gb gc:SS→R D}{pos:Pos}{k:Nat}
theorem pc (hK:X.K=F.K)(hr:Room k X.A):OpR X (compareOp .Eq) (rEqD F.K F.C):=by
 intro pins s σ H x y v u Q I rx ry h
 obtain⟨Z,d,e,z,h1,h2,g1,g2,q⟩:=h
 have hu:X.A.units+60 < cLine:=by have:=hr.un;omega
 exact tW hK I z 60 X.A d e x y v u g1 g2 h1 h2 rx ry hu X.prog X.w X.xe _ ⟨.bl (eqD d e),H,I,rfl,q⟩
theorem pd:OpD F (rEqD F.K F.C) dEq:=by
 intro H Z x y dx dy Q s rx ry w
 unfold dEq at w
 split at w
 ·rename_i g
  exact⟨Z,dx,dy,s,rx,ry,g.1,g.2,WG.now w s _ aU⟩
 ·exact w.elim
theorem sD (bx:BX X F k)(ha:FE X F a ga)(hb:FE X F b gb):FE X F (.Compare a [.Eq] [b] pos) (eOp dEq ga gb):=kS (pc bx.K bx.room) pd ha hb
theorem gL (bx:BX X F k)(ha:FE X F a ga)(hb:FE X F b gb):FT X F (.Compare a [.Eq] [b] pos) (gB (eOp dEq ga gb)):=dk (pc bx.K bx.room) pd ha hb
end
def eChain (f f':D→D→R D)(ga gb gc:SS→R D):SS→R D:=fun S=>(ga S).bind fun x=>(gb S).bind fun y=>(asB (f x y)).bind fun k=>if k=true then (gc S).bind fun w=>f' y w else .ok (.bl false)
section
variable {X:Cx}{F:Fx}{a b c:Expr}{ga gb gc:SS→R D}{pos:Pos}{r r':R2}{f f':D→D→R D}{op op':CmpOp}
theorem m9 (hd:OpD F r f)(hd':OpD F r' f'):∀ σ H Q,tE F (eChain f f' ga gb gc) σ H Q→tChain r r' (tE F ga) (tE F gb) (tE F gc) σ H Q:=fun σ H Q ⟨Z,S,ok,w⟩ =>
 aB ok w fun dx x H1 Z1 ok1 x1 rx w1=>aB ok1 w1 fun dy y H2 Z2 ok2 x2 ry w2=>hd H2 Z2 x y dx dy _ ok2.sub (rx.mono x2.z) ry (by
  cases e:f dx dy with
  | err k=>rw[e]at w2;exact w2
  | stuck=>rw[e]at w2;exact w2
  | ok d =>
   rw[e]at w2
   intro H3 Z3 x3 v rv
   cases d with
   | bl k =>
    rw[Rep]at rv
    subst rv
    have w3:WG F H3 Z3 (if k=true then (gc S).bind fun w=>f' dy w else .ok (.bl false)) _:=WG.more w2 x3
    refine⟨k,rfl,?_⟩
    have ok3:=ok2.more x3
    cases k with
    | false=>exact WG.now w3 ok3.sub _ aU
    | true=>exact aB ok3 w3 fun dw wv H4 Z4 ok4 x4 rw' w4=>hd' H4 Z4 y wv dy dw Q ok4.sub (ry.mono (x3.z.trans x4.z)) rw' w4
   | _=>exact w2.elim)
theorem jX (ho:OpR X (compareOp op) r)(ho':OpR X (compareOp op') r')(hd:OpD F r f)(hd':OpD F r' f')(ha:FE X F a ga)(hb:FE X F b gb)(hc:FE X F c gc)(hm:lastMarks [op,op'] [b,c]=false:=by with_unfolding_all rfl) :
  FE X F (.Compare a [op,op'] [b,c] pos) (eChain f f' ga gb gc):=(oM ho ho' ha hb hc hm).weak (m9 hd hd')
theorem ma (ha:FE X F a ga)(hb:FE X F b gb)(hc:FE X F c gc)(hm:lastMarks [.LtE,.LtE] [b,c]=false:=by with_unfolding_all rfl):FE X F (.Compare a [.LtE,.LtE] [b,c] pos) (eChain dLe dLe ga gb gc):=jX lV lV (cc fun _ _ _=>aU) (cc fun _ _ _=>aU) ha hb hc hm
theorem rk (ha:FE X F a ga)(hb:FE X F b gb)(hc:FE X F c gc)(hm:lastMarks [.LtE,.Lt] [b,c]=false:=by with_unfolding_all rfl):FE X F (.Compare a [.LtE,.Lt] [b,c] pos) (eChain dLe dLt ga gb gc):=jX lV sy (cc fun _ _ _=>aU) (cc fun _ _ _=>aU) ha hb hc hm
end
def dIs:D→D→R D
 | x,.non=>.ok (.bl (match x with | .non=>true | _=>false))
 | x,.bl b=>.ok (.bl (match x with | .bl a=>a==b | _=>false))
 | _,_=>.stuck
def isV:V→V→Bool
 | .non,.non=>true
 | .bl a,.bl b=>a==b
 | _,_=>false
section
variable {X:Cx}{F:Fx}{a b:Expr}{ga gb:SS→R D}{pos:Pos}
theorem tX:OpR X (compareOp .Is) (fun x y H Q=>(y=.non∨∃ b,y=.bl b)∧Q (.bl (isV x y)) H):=by
 intro pins s σ H x y v u Q I rx ry h
 obtain⟨hy,q⟩:=h
 rcases hy with rfl | ⟨b,rfl⟩
 ·cases ry
  refine is_none_gen (jj I q ?_)
  cases x<;>first
   | (cases rx;rfl)
   | (obtain⟨t,rfl⟩:=rx;rfl)
 ·cases ry
  cases x<;>first
   | (obtain⟨t,rfl⟩:=rx;exact wpAny_pure (jj I q rfl))
   | (cases rx;exact wpAny_pure (jj I q rfl))
   | (cases rx;rename_i a;exact wpAny_pure (jj I q (by cases a<;>cases b<;>rfl)))
theorem rl {K:PySem.W.Frag}{C:Nat→Addr}{Z:Hp}{d e:D}{x y:V}{r:D}(h:Rep K C Z d x)(h':Rep K C Z e y)(q:dIs d e=.ok r):(y=.non∨∃ b,y=.bl b)∧r=.bl (isV x y):=by
 cases e with
 | non =>
  rw[Rep]at h';subst h'
  cases q
  refine⟨.inl rfl,?_⟩
  cases d<;>rw[Rep]at h<;>first | (subst h;rfl) | (obtain⟨_,_,rfl,_⟩:=h;rfl) | (obtain⟨_,rfl,_⟩:=h;rfl)
 | bl b =>
  rw[Rep]at h';subst h'
  cases q
  refine⟨.inr ⟨b,rfl⟩,?_⟩
  cases d<;>rw[Rep]at h<;>first | (subst h;rfl) | (obtain⟨_,_,rfl,_⟩:=h;rfl) | (obtain⟨_,rfl,_⟩:=h;rfl)
 | _=>simp[dIs]at q
theorem tY {d e:D}{k:Nat}(q:dIs d e=.err k):False:=by cases e<;>simp[dIs]at q
theorem tZ:OpD F (fun x y H Q=>(y=.non∨∃ b,y=.bl b)∧Q (.bl (isV x y)) H) dIs:=by
 intro H Z x y dx dy Q s rx ry w
 cases e:dIs dx dy with
 | err k=>exact(tY e).elim
 | stuck=>rw[e]at w;exact w.elim
 | ok r =>
  rw[e]at w
  obtain⟨h1,rfl⟩:=rl rx ry e
  exact⟨h1,WG.now w s _ aU⟩
theorem uJ (ha:FE X F a ga)(hb:FE X F b gb):FE X F (.Compare a [.Is] [b] pos) (eOp dIs ga gb):=kS tX tZ ha hb
end
def cutD (xs:List D)(lo hi:Option Int):List D:=(xs.drop (HT.sIx xs.length 0 lo)).take (HT.sIx xs.length xs.length hi - HT.sIx xs.length 0 lo)
theorem Reps.cut {K:PySem.W.Frag}{C:Nat→Addr}{Z:Hp}{ds:List D}{vs:List V}(r:Reps K C Z ds vs)(lo hi:Option Int):Reps K C Z (cutD ds lo hi) (cutV vs lo hi):=by
 unfold cutD cutV
 rw[r.length]
 exact(r.drop _).take _
def dSl (d:D)(lo hi:Option Int):R D:=match d with
 | .lst xs=>.ok (.lst (cutD xs lo hi))
 | .tup xs=>if HT.sIx xs.length 0 lo=0∧HT.sIx xs.length xs.length hi=xs.length then .stuck else .ok (.tup (cutD xs lo hi))
 | _=>.stuck
def asI (d:D):R (Option Int):=match d with
 | .int i=>.ok (some i)
 | _=>.stuck
def pNo:SS→R (Option Int):=fun _=>.ok none
def pSo (g:SS→R D):SS→R (Option Int):=fun S=>(g S).bind asI
def tP (F:Fx)(g:SS→R (Option Int)):TO:=fun σ H Q=>∃ Z S,StOk F H Z S σ∧WG F H Z (g S) fun o H' _=>Q o H'
section
variable {X:Cx}{F:Fx}{e:Expr}{lo hi:Option Expr}{g:SS→R D}{l h:SS→R (Option Int)}{pos p2:Pos}
theorem sE:PO X none (tP F pNo):=fun pins s σ H Q I ⟨Z,S,ok,w⟩=>qO pins s σ H Q I (WG.now w ok.sub)
theorem sF (he:FE X F e g):PO X (some e) (tP F (pSo g)):=fun pins s σ H Q I ⟨Z,S,ok,w⟩=>qP he pins s σ H Q I (aB ok w fun d v H1 Z1 ok1 x1 rv w1=>by
 cases d with
 | int i=>rw[Rep]at rv;exact⟨i,rv,WG.now (a:=some i) w1 ok1.sub⟩
 | _=>exact w1.elim)
theorem me {α:Type}{σ:St}{H Z:Hp}{S:SS}{k:Option Int→R α}{P:α→Hp→Hp→Prop}{Q:Option Int→Hp→Prop}(ok:StOk F H Z S σ)(w:WG F H Z ((l S).bind k) P)
  (h:∀ o H1 Z1,StOk F H1 Z1 S σ→Ex H Z H1 Z1→WG F H1 Z1 (k o) P→Q o H1):tP F l σ H Q:=by
 refine⟨Z,S,ok,?_⟩
 cases e:l S with
 | ok d =>
  rw[e]at w
  intro H1 Z1 x
  exact h d H1 Z1 (ok.more x) x (WG.more (r:=k d) w x)
 | err k=>rw[e]at w;exact w
 | stuck=>rw[e]at w;exact w
end
def CallD (F:Fx)(r:List V→Hp→VK→Prop)(f:List D→R D):Prop:=∀ (H Z:Hp) (xs:List V) (ds:List D) (Q:VK),Same Z H→Reps F.K F.C Z ds xs→WG F H Z (f ds) (fun d H' Z'=>∀ v,Rep F.K F.C Z' d v→Q v H')→r xs H Q
section
variable {X:Cx}{F:Fx}{x:Str}{p pos:Pos}{e:Expr}{es:List Expr}{gs:SS→R (List D)}{id T:String}{r:List V→Hp→VK→Prop}{f:List D→R D}
theorem ph (hd:CallD F r f):∀ σ H Q,tE F (eCall f gs) σ H Q→tCB r (tAl F gs) σ H Q:=fun σ H Q ⟨Z,S,ok,w⟩=>aS ok w fun ds vs H1 Z1 ok1 x1 rs w1=>hd H1 Z1 vs ds Q ok1.sub rs w1
theorem jY (hc:CallR X (.builtin id) r)(hd:CallD F r f)(hg:Gl X x)(hm:X.mg x=none)(hv:bootBuiltins x=some (.builtin id))(ha:FA X F (e::es) gs)(hn:x ≠ "__name__" := by decide)(hdb:(x==("__debug__":Str))=false:=by decide)
  (he:starEach (e::es) X.env=(false,eval e X.env)::starEach es X.env:=by rfl) (hpl:(backTo pos (starEach es X.env)).any (·.1)=false:=by rfl):FE X F (.Call (.Name x p) (e::es) [] pos) (eCall f gs):=(cE hc hg hm hv ha hn hdb he hpl).weak (ph hd)
theorem na (hc:CallR X (.type T) r)(hd:CallD F r f)(hg:Gl X x)(hm:X.mg x=none)(hv:bootBuiltins x=some (.type T))(ha:FA X F (e::es) gs)(hn:x ≠ "__name__" := by decide)(hdb:(x==("__debug__":Str))=false:=by decide)
  (he:starEach (e::es) X.env=(false,eval e X.env)::starEach es X.env:=by rfl) (hpl:(backTo pos (starEach es X.env)).any (·.1)=false:=by rfl):FE X F (.Call (.Name x p) (e::es) [] pos) (eCall f gs):=(eM hc hg hm hv ha hn hdb he hpl).weak (ph hd)
end
theorem bh {K:PySem.W.Frag}{C:Nat→Addr}{Z:Hp}{d:D}{vs:List V}(r:Reps K C Z [d] vs):∃ v,vs=[v]∧Rep K C Z d v:=by
 rw[Reps]at r
 obtain⟨v,r',rfl,h1,h2⟩:=r
 rw[Reps]at h2
 exact⟨v,by rw[h2],h1⟩
def dLen:List D→R D
 | [.lst xs]=>.ok (.int xs.length)
 | [.tup xs]=>.ok (.int xs.length)
 | _=>.stuck
theorem nb {F:Fx}:CallD F (fun xs H Q=>∃ p ys,xs=[.ref p]∧(SqL F.K H p ys∨SqT F.K H p ys)∧Q (.int ys.length) H) dLen:=by
 intro H Z xs ds Q s rs w
 unfold dLen at w
 split at w
 ·obtain⟨v,rfl,h⟩:=bh rs
  rw[Rep]at h
  obtain⟨a,vs,rfl,h1,h2⟩:=h
  exact⟨a,vs,rfl,.inl (s.seq h1),by rw[← h2.length];exact WG.now w s _ aI⟩
 ·obtain⟨v,rfl,h⟩:=bh rs
  rw[Rep]at h
  obtain⟨a,vs,rfl,h1,h2⟩:=h
  exact⟨a,vs,rfl,.inr (h1.mono s),by rw[← h2.length];exact WG.now w s _ aI⟩
 ·exact w.elim
def dTuple:List D→R D
 | [.lst xs]=>.ok (.tup xs)
 | [.tup xs]=>.ok (.tup xs)
 | _=>.stuck
theorem jZ {F:Fx}:CallD F (fun xs H Q=>∃ p ys,xs=[.ref p]∧((SqL F.K H p ys∧∀ l,H l=none→Q (.ref l) (upd H l (.tup ys)))∨(SqT F.K H p ys∧Q (.ref p) H))) dTuple:=by
 intro H Z xs ds Q s rs w
 unfold dTuple at w
 split at w
 ·obtain⟨v,rfl,h⟩:=bh rs
  rw[Rep]at h
  obtain⟨a,vs,rfl,h1,h2⟩:=h
  refine⟨a,vs,rfl,.inl ⟨s.seq h1,fun p hp=>?_⟩⟩
  have z:Same Z (upd Z p (.tup vs)):=aH (s.free hp)
  exact w _ _ (Ex.alloc s hp) _ (by rw[Rep];exact⟨p,_,rfl,SqT.of ao,h2.mono z⟩)
 ·obtain⟨v,rfl,h⟩:=bh rs
  have hh:=h
  rw[Rep]at h
  obtain⟨a,vs,rfl,h1,h2⟩:=h
  exact⟨a,vs,rfl,.inr ⟨h1.mono s,WG.now w s _ hh⟩⟩
 ·exact w.elim
def boolsD:List D→Option (List Bool)
 | []=>some []
 | .bl b::r=>(boolsD r).map (b::·)
 | _::_=>none
theorem cg {K:PySem.W.Frag}{C:Nat→Addr}{Z:Hp}:∀ {ds:List D} {vs:List V} {bs:List Bool},Reps K C Z ds vs→boolsD ds=some bs→vs=bs.map V.bl
 | [],vs,bs,r,e=>by rw[Reps]at r;cases e;exact r
 | d::ds,vs,bs,r,e=>by
  rw[Reps]at r
  obtain⟨v,r',rfl,h1,h2⟩:=r
  cases d with
  | bl b =>
   rw[boolsD]at e
   cases q:boolsD ds with
   | none=>rw[q]at e;cases e
   | some bs' =>
    rw[q]at e
    cases e
    rw[Rep]at h1
    rw[h1,cg h2 q]
    rfl
  | _=>simp[boolsD]at e
def dAll:List D→R D
 | [.lst xs]=>match boolsD xs with
  | some bs=>.ok (.bl (bs.all id))
  | none=>.stuck
 | _=>.stuck
theorem bn:∀ {bs:List Bool} {us:List Value},Vals (bs.map V.bl) us→us=bs.map Value.bool
 | [],us,h=>by rw[List.map_nil]at h;cases h;rfl
 | b::bs,us,h=>by
  rw[List.map_cons]at h
  cases h with
  | cons r t =>
   have r':_=Value.bool b:=r
   rw[r',bn t]
   rfl
theorem gM {X:Cx}(hc:X.calm=true):CallR X (.builtin "all") (fun xs H Q=>∃ (p:Addr) (bs:List Bool),xs=[.ref p]∧SqL X.K H p (bs.map V.bl)∧Q (.bl (bs.all id)) H):=by
 intro pins s σ H xs us Q I r h
 obtain⟨p,bs,rfl,hq,q⟩:=h
 obtain⟨u,rfl,ru⟩:=vals1 r
 cases ru
 obtain⟨its,rv,pl,hz⟩:=I.list hq
 have e:=bn rv
 subst e
 have hlt:p < s.heap.objs.size:=by obtain⟨o,_,ho,_⟩:=pl;exact Heap.lt_size ho
 refine call_all_walk (wpAny_pyIter_list pl.isList ⟨s.heap.objs.size,_,_,_,_,_,fun i=>bs.getD i false,rfl,Walks.list (show X.A.in1.handled=none from I.ok.hd hc) s.heap.objs.size p (Nat.ne_of_lt hlt) (bs.map Value.bool).toArray,⟨⟨_,Heap.get?_push_size _ rfl,rfl,rfl⟩,?_⟩,?_,fun h' tk hk=>?_⟩)
 ·obtain⟨o,ho,h2,n,h3⟩:=pl.isList
  exact⟨o,Heap.get?_push_of_some _ ho,h2,n,h3⟩
 ·intro i v s' Q' E' hp hq'
  have hp':bs[i]?.map Value.bool=some v:=by simpa using hp
  cases e:bs[i]? with
  | none=>rw[e]at hp';cases hp'
  | some b =>
   rw[e]at hp'
   cases hp'
   refine wpAny_truthy_bool ?_
   have:bs.getD i false=b:=by simp[List.getD,e]
   have hq2:Q' (bs.getD i false) s':=hq'
   rw[this]at hq2
   exact hq2
 ·have hall:(List.range (bs.map Value.bool).toArray.size).all (fun i=>bs.getD i false)=bs.all id:=by
   rw[List.size_toArray,List.length_map]
   rw[Bool.eq_iff_iff,List.all_eq_true,List.all_eq_true]
   constructor
   ·intro h b hb
    obtain⟨i,hi,rfl⟩:=List.mem_iff_getElem.mp hb
    have:=h i (List.mem_range.mpr hi)
    simpa [List.getD,hi] using this
   ·intro h i hi
    have hi':=List.mem_range.mp hi
    have:=h bs[i] (List.getElem_mem hi')
    simpa [List.getD,hi'] using this
  rw[hall]
  exact⟨.bl (bs.all id),H,I.kept fun b o e=>hk b o (by simp;exact Nat.ne_of_lt (Heap.lt_size e)) (Heap.get?_push_of_some _ e),rfl,q⟩
theorem nc {F:Fx}:CallD F (fun xs H Q=>∃ (p:Addr) (bs:List Bool),xs=[.ref p]∧SqL F.K H p (bs.map V.bl)∧Q (.bl (bs.all id)) H) dAll:=by
 intro H Z xs ds Q s rs w
 unfold dAll at w
 split at w
 ·split at w
  ·rename_i bs e
   obtain⟨v,rfl,h⟩:=bh rs
   rw[Rep]at h
   obtain⟨a,vs,rfl,h1,h2⟩:=h
   have e2:=cg h2 e
   subst e2
   exact⟨a,bs,rfl,s.seq h1,WG.now w s _ aU⟩
  ·exact w.elim
 ·exact w.elim
section
variable {X:Cx}{F:Fx}{p pos:Pos}{e:Expr}{es:List Expr}{gs:SS→R (List D)}{k:Nat}
theorem bB (bx:BX X F k)(hg:Gl X "len")(hm:X.mg "len"=none)(ha:FA X F [e] gs)(he:starEach [e] X.env=(false,eval e X.env)::starEach [] X.env:=by rfl)(hpl:(backTo pos (starEach [] X.env)).any (·.1)=false:=by rfl):FE X F (.Call (.Name "len" p) [e] [] pos) (eCall dLen gs) :=
 jY (by have:=dL (X:=X);rw[bx.K]at this;exact this) nb hg hm PySem.boot_len ha (he:=he) (hpl:=hpl)
theorem bJ (bx:BX X F k)(hg:Gl X "tuple")(hm:X.mg "tuple"=none)(ha:FA X F [e] gs)(he:starEach [e] X.env=(false,eval e X.env)::starEach [] X.env:=by rfl)(hpl:(backTo pos (starEach [] X.env)).any (·.1)=false:=by rfl):FE X F (.Call (.Name "tuple" p) [e] [] pos) (eCall dTuple gs) :=
 na (by have:=ir (X:=X);rw[bx.K]at this;exact this) jZ hg hm (by decide +kernel) ha (he:=he) (hpl:=hpl)
theorem jq (bx:BX X F k)(hg:Gl X "all")(hm:X.mg "all"=none)(ha:FA X F [e] gs)(he:starEach [e] X.env=(false,eval e X.env)::starEach [] X.env:=by rfl)(hpl:(backTo pos (starEach [] X.env)).any (·.1)=false:=by rfl):FE X F (.Call (.Name "all" p) [e] [] pos) (eCall dAll gs) :=
 jY (id := "all") (by have:=gM (X:=X) bx.calm;rw[bx.K]at this;exact this) nc hg hm (by decide +kernel) ha (he:=he) (hpl:=hpl)
end
end FF
end
noncomputable section
namespace FF
open PySem PySem.Spec PySem.Calls PyProof.Rows PySem.W
def ExcAt (a C:Addr)(h:Heap):Prop:=∃ o,h.get? a=some o∧o.cls=.ref C∧∃ vs,o.data=.fields vs
structure ExcK (K:Frag)(C:Addr):Prop where
 ga:findIn K (.ref C) "__getattribute__"=some (some (.builtin "BaseException.__getattribute__"))
 gt:findIn K (.ref C) "__getattr__"=some none
 cl:findIn K (.ref C) "__class__"=some (some (.builtin "object.__class__"))
 be:subIn K (.ref C) (.type "BaseException")=some true
 ob:subIn K (.ref C) (.type "object")=some true
 ty:(clsIn K C).isSome=true
section
variable {prog:Program}{w:World}{A:Around}{E:Value→Shared→Prop}{h:Heap}{g:Array GenState}{d:Drawn}{t:Nat}{os:OsState}{a C:Addr}{K:Frag}{o:Obj}{vs:Array Value}
theorem kX {M:Model}(p:ExcAt a C h):Looks M h (typeOf (.ref a)) (.ref C):=by
 obtain⟨o,h1,h2,h3⟩:=p
 exact h2 ▸ (Looks.ld h1).andThen .now
theorem kY {M:Model}(X:K.In h)(k:ExcK K C):Looks M h (isType (.ref C)) true:=by
 have z:=k.ty
 unfold clsIn at z
 split at z
 ·rename_i c' d' cd' sl' ho
  intro A' Q' E' s' kk q
  unfold isType loadHead
  exact wpAny_bind (wpAny_loadPart (kk _ _ (X _ _ ho)) (wpAny_pure q))
 ·cases z
theorem iA {R:Result→Shared→Prop}(X:K.In h)(k:ExcK K C)(hx:h.get? a=some o)(hc:o.cls=.ref C)(hq:R (.ok (.ret (.ref C))) ⟨h,g,d,t,os⟩) :
  codeAny (model prog w) A (.call (.builtin "getset_descriptor.__get__") ⟨[.builtin "object.__class__",.ref a,.ref C],[]⟩) R ⟨h,g,d,t,os⟩:=by
 have hT5:(⟨h,g,d,t,os⟩:Shared).TypeIs (.builtin "object.__class__") "getset_descriptor" := F.typeOf_object_class
 have L8:Looks (model prog w) h (isSubtype (.ref C) (.type (".".intercalate ("object.__class__".cutAt '.').dropLast))) true:=by
  rw[F.owner_object_class];exact looks_subIn X k.ob
 refine codeAny_call_builtin F.slot_gs_get.plain F.entry_gs_get (F.slot_gs_get.check _ _ _ _ _ _ _ _ hT5 (F.args_gs_get _ _ _) ?_)
 repeat (any_goals (first | assumption | (with_reducible refine wpAny_loadPart_at hx ?_;rw[hc]) | (with_reducible refine L8.at ?_) | wp_step))
 refine⟨Code.quiet_builtin _ (by decide +kernel),codeAny_builtin F.entry_object_class ?_⟩
 repeat (any_goals (first | assumption | (with_reducible refine wpAny_loadPart_at hx ?_;rw[hc]) | wp_step))
theorem fW {tk:Tok}{Q:Fin→Shared→Prop}(X:K.In h)(k:ExcK K C)(hx:h.get? a=some o)(hc:o.cls=.ref C)(hq:Q (.done (.ret (.ref C))) ⟨h,g,d,t,os⟩) :
  wpAny (model prog w) A (Builtin.«object.__getattribute__» ⟨[.ref a,.str "__class__" tk],[]⟩) Q E ⟨h,g,d,t,os⟩:=by
 have hT5:(⟨h,g,d,t,os⟩:Shared).TypeIs (.builtin "object.__class__") "getset_descriptor" := F.typeOf_object_class
 have f5:=F.typeOf_object_class
 have f6:=F.slot_gs_get.lookup
 have f7:=F.slot_gs_set.lookup
 have L4:Looks (model prog w) h (typeLookup (.ref C) "__class__") _:=looks_findIn X k.cl
 repeat (any_goals (first | assumption | (with_reducible refine wpAny_loadPart_at hx ?_;rw[hc]) | (with_reducible refine L4.at ?_) | wp_step))
 refine iA X k hx hc ?_
 repeat (any_goals (first | assumption | wp_step))
theorem ng {M:Model}{nameV:Value}{Q:Unit→Shared→Prop}(X:K.In h)(k:ExcK K C)(hx:h.get? a=some o)(hc:o.cls=.ref C)(hq:Q () ⟨h,g,d,t,os⟩):wpAny M A (checkBuiltinCall "BaseException.__getattribute__" ⟨[.ref a,nameV],[]⟩) Q E ⟨h,g,d,t,os⟩:=by
 have hk:builtinKind "BaseException.__getattribute__"=some .slot:=by decide +kernel
 have hsplit:splitId "BaseException.__getattribute__"=some ("BaseException","__getattribute__"):=by decide +kernel
 have L8:Looks M h (isSubtype (.ref C) (.type "BaseException")) true:=looks_subIn X k.be
 have ha:=F.args_bexc_ga (.ref a) nameV
 simp only[checkBuiltinCall,hk,hsplit]
 refine wpAny_bind ?_
 ·unfold isInstance
  repeat (first | (with_reducible refine wpAny_loadPart_at hx ?_;rw[hc]) | (with_reducible refine L8.at ?_) | wp_step)
  exact hq
theorem gN {tk:Tok}{R:Result→Shared→Prop}(X:K.In h)(k:ExcK K C)(hx:h.get? a=some o)(hc:o.cls=.ref C)(hq:R (.ok (.ret (.ref C))) ⟨h,g,d,t,os⟩) :
  codeAny (model prog w) A (.call (.builtin "BaseException.__getattribute__") ⟨[.ref a,.str "__class__" tk],[]⟩) R ⟨h,g,d,t,os⟩ :=
 codeAny_call_builtin F.attr_ValueError.ga.plain F.entry_bexc_ga (ng X k hx hc (fW X k hx hc hq))
theorem jr {tk:Tok}{Q:Value→Shared→Prop}(X:K.In h)(k:ExcK K C)(hx:h.get? a=some o)(hc:o.cls=.ref C)(hq:Q (.ref C) ⟨h,g,d,t,os⟩) :
  wpAny (model prog w) A (getAttrBy (.ref a) (.str "__class__" tk) false) Q E ⟨h,g,d,t,os⟩:=by
 have f3:=F.attr_ValueError.ga.bind (.ref a)
 have L1:Looks (model prog w) h (typeLookup (.ref C) "__getattribute__") _:=looks_findIn X k.ga
 have L2:Looks (model prog w) h (typeLookup (.ref C) "__getattr__") _:=looks_findIn X k.gt
 have hx2:(Value.builtin "BaseException.__getattribute__" == Value.builtin "object.__getattribute__")=false:=by decide +kernel
 have hx1:(onTheHeap (Value.ref C)&&Value.builtin "BaseException.__getattribute__" == Value.builtin "object.__getattribute__")=false:=by rw[hx2];rfl
 repeat (any_goals (first | assumption | (with_reducible refine wpAny_loadPart_at hx ?_;rw[hc]) | (with_reducible refine L1.at ?_) | (with_reducible refine L2.at ?_) | wp_step))
 refine gN X k hx hc ?_
 repeat (any_goals (first | assumption | wp_step))
theorem gO {Q:Option Value→Shared→Prop}(X:K.In h)(k:ExcK K C)(hx:h.get? a=some o)(hc:o.cls=.ref C)(hq:Q (some (.ref C)) ⟨h,g,d,t+1,os⟩) :
  wpAny (model prog w) A (getAttr? (.ref a) "__class__") Q E ⟨h,g,d,t,os⟩:=by
 unfold getAttr? getAttrBy?
 repeat (any_goals (first | assumption | with_reducible apply jr X k hx hc | wp_step))
end
end FF
end
noncomputable section
namespace FF
open PySem PySem.Spec PyProof.Rows L2
theorem pi {K:PySem.W.Frag}{a C:Addr}(k:ExcK K C):PySem.W.KitX K (.ref a) (.ref C) (ExcAt a C) where
 ty:=fun _ _ _ p=>kX p
 it:=fun _ _ X _=>kY X k
 ne:=fun h tp dd its n sl X htp=>by
  refine Bool.eq_false_iff.mpr fun q=>?_
  have e:C=tp:=Value.ref.inj (beq_iff_eq.mp q)
  subst e
  have z:=k.ty
  unfold PySem.W.clsIn at z
  split at z
  ·rename_i c' d' cd' sl' ho
   have z:=(X _ _ ho).symm.trans htp
   cases z
  ·cases z
 ca:=fun {_ _ _ _ _ s} X p h=>by
  obtain⟨hh,g,d,t,os⟩:=s
  obtain⟨o,h1,h2,_⟩:=p
  exact gO X k h1 h2 h
def tyD (C:Nat→Addr):D→Value
 | .non=>.type "NoneType"
 | .bl _=>.type "bool"
 | .int _=>.type "int"
 | .str _=>.type "str"
 | .tup _=>.type "tuple"
 | .lst _=>.type "list"
 | .exc k=>.ref (C k)
 | .fn _=>.none
 | .tab _ _=>.none
 | .dic _ _=>.none
 | .ptr _=>.none
def isDct:D→Bool
 | .tab _ _=>true
 | .dic _ _=>true
 | .ptr _=>true
 | _=>false
def cV:V→Value
 | .ty n=>.type n
 | .ref a=>.ref a
 | _=>.none
theorem fE {X:Cx}{C:Nat→Addr}:CallR X (.builtin "isinstance") (fun xs H Q=>∃ (Z:Hp) (d:D) (x y:V) (b:Bool),xs=[x,y]∧Same Z H∧Rep X.K C Z d x∧((∃ n,y=.ty n)∨∃ a,y=.ref a) ∧
  PySem.W.kitOne X.K (tyD C d) (cV y)=some b∧(∀ j,d=.exc j→ExcK X.K (C j))∧(∀ j,d≠.fn j)∧isDct d=false∧Q (.bl b) H):=by
 intro pins s σ H xs us Q I r h
 obtain⟨Z,d,x,y,b,rfl,sm,rp,hy,e,he,hf,hdc,q⟩:=h
 obtain⟨u,c,rfl,ru,rc⟩:=vals2 r
 have hc:c=cV y:=by
  rcases hy with ⟨n,rfl⟩ | ⟨a,rfl⟩<;>exact rc
 subst hc
 have fin:∀ tk,EP X pins σ Q (.bool b) { s with toks:=tk }:=fun tk=>⟨.bl b,H,I.tok tk,rfl,q⟩
 cases d with
 | non=>rw[Rep]at rp;subst rp;cases (show u=Value.none from ru);exact PySem.W.kia_one PySem.W.kitx_none I.kIn True.intro e (fun z=>nomatch z) fin
 | bl k=>rw[Rep]at rp;subst rp;cases (show u=Value.bool k from ru);exact PySem.W.kia_one PySem.W.kitx_bool I.kIn True.intro e (fun z=>nomatch z) fin
 | int i=>rw[Rep]at rp;subst rp;obtain⟨t,rfl⟩:=(show ∃ t,u=Value.int i t from ru);exact PySem.W.kia_one PySem.W.kitx_int I.kIn True.intro e (fun z=>nomatch z) fin
 | str i=>rw[Rep]at rp;subst rp;obtain⟨t,rfl⟩:=(show ∃ t,u=Value.str i t from ru);exact PySem.W.kia_one PySem.W.kitx_str I.kIn True.intro e (fun z=>nomatch z) fin
 | tup ds =>
  rw[Rep]at rp
  obtain⟨a,vs,rfl,h1,h2⟩:=rp
  cases (show u=Value.ref a from ru)
  obtain⟨its,_,⟨o,p1,p2,_⟩,_⟩:=I.tuple (h1.mono sm)
  exact PySem.W.kia_one PySem.W.kitx_tuple I.kIn ⟨o,p1,p2⟩ e (fun z=>nomatch z) fin
 | lst ds =>
  rw[Rep]at rp
  obtain⟨a,vs,rfl,h1,h2⟩:=rp
  cases (show u=Value.ref a from ru)
  obtain⟨its,_,⟨o,n,p1,p2,_⟩,_⟩:=I.list (sm.seq h1)
  exact PySem.W.kia_one PySem.W.kitx_list I.kIn ⟨o,p1,p2⟩ e (fun z=>nomatch z) fin
 | fn k=>exact absurd rfl (hf k)
 | tab _ _=>cases hdc
 | dic _ _=>cases hdc
 | ptr _=>cases hdc
 | exc k =>
  rw[Rep]at rp
  obtain⟨a,rfl,h1⟩:=rp
  cases (show u=Value.ref a from ru)
  obtain⟨o,h2,h3,h5⟩:=(show ObjOk X.prog X.w H s.heap a (excO C k a) from I.hok a _ (sm a _ h1)).1
  exact PySem.W.kia_one (pi (he k rfl)) I.kIn ⟨o,h2,h3,h5⟩ e (fun z=>nomatch z) fin
def dIsA (q:D→Option Bool)(d:D):R D:=match q d with
 | some b=>.ok (.bl b)
 | none=>.stuck
def eIs (q:D→Option Bool)(g:SS→R D):SS→R D:=fun S=>(g S).bind (dIsA q)
structure IsA (K:PySem.W.Frag)(C:Nat→Addr)(y:V)(q:D→Option Bool):Prop where
 one:(∃ n,y=.ty n)∨∃ a,y=.ref a
 ans:∀ d b,q d=some b→PySem.W.kitOne K (tyD C d) (cV y)=some b
 exc:∀ j b,q (.exc j)=some b→ExcK K (C j)
 fn:∀ j,q (.fn j)=none
 dct:∀ d,isDct d=true→q d=none
section
variable {X:Cx}{F:Fx}{p pos:Pos}{e ec:Expr}{g:SS→R D}{k:Nat}{y:V}{q:D→Option Bool}
theorem t4 (bx:BX X F k)(hq:IsA F.K F.C y q):∀ σ H Q,tE F (eIs q g) σ H Q→tCB (fun xs H Q=>∃ (Z:Hp) (d:D) (x y:V) (b:Bool),xs=[x,y]∧Same Z H∧Rep X.K F.C Z d x∧((∃ n,y=.ty n)∨∃ a,y=.ref a) ∧
  PySem.W.kitOne X.K (tyD F.C d) (cV y)=some b∧(∀ j,d=.exc j→ExcK X.K (F.C j))∧(∀ j,d≠.fn j)∧isDct d=false∧Q (.bl b) H) (tCons (tE F g) (tCons (tC y) tNil)) σ H Q:=fun σ H Q ⟨Z,S,ok,w⟩ =>
 aB ok w fun d v H1 Z1 ok1 x1 rv w1=>by
  cases e:q d with
  | none=>unfold dIsA at w1;rw[e]at w1;exact w1.elim
  | some b =>
   unfold dIsA at w1
   rw[e]at w1
   refine⟨Z1,d,v,y,b,rfl,ok1.sub,by rw[bx.K];exact rv,hq.one,by rw[bx.K];exact hq.ans d b e,fun j ej=>?_,fun j ej=>(by rw[ej,hq.fn j]at e;cases e),(by cases hd:isDct d with | false=>rfl | true=>rw[hq.dct d hd]at e;cases e),WG.now (a:=D.bl b) w1 ok1.sub _ aU⟩
   subst ej
   rw[bx.K]
   exact hq.exc j b e
theorem aq (bx:BX X F k)(hg:Gl X "isinstance")(hm:X.mg "isinstance"=none)(hq:IsA F.K F.C y q)(ha:FE X F e g)(hc:PE X ec (tC y))(he:starEach [e,ec] X.env=(false,eval e X.env)::starEach [ec] X.env:=by rfl)
  (he2:starEach [ec] X.env=(false,eval ec X.env)::starEach [] X.env:=by rfl) (hpl:(backTo pos (starEach [ec] X.env)).any (·.1)=false:=by rfl) :
  FE X F (.Call (.Name "isinstance" p) [e,ec] [] pos) (eIs q g) :=
 (cE (id := "isinstance") fE hg hm (by decide +kernel) (bi ha (bi hc b7 he2) he) (he:=he) (hpl:=hpl)).weak (t4 bx hq)
end
def qTup:D→Option Bool
 | .tup _=>some true
 | .exc _=>none
 | .fn _=>none
 | .tab _ _=>none
 | .dic _ _=>none
 | .ptr _=>none
 | _=>some false
def qInt:D→Option Bool
 | .int _=>some true
 | .bl _=>some true
 | .exc _=>none
 | .fn _=>none
 | .tab _ _=>none
 | .dic _ _=>none
 | .ptr _=>none
 | _=>some false
def qBool:D→Option Bool
 | .bl _=>some true
 | .exc _=>none
 | .fn _=>none
 | .tab _ _=>none
 | .dic _ _=>none
 | .ptr _=>none
 | _=>some false
theorem bE {K:PySem.W.Frag}{C:Nat→Addr}:IsA K C (.ty "tuple") qTup:=⟨.inl ⟨_,rfl⟩,fun d b e=>by cases d<;>cases e<;>with_unfolding_all rfl,fun j b e=>(nomatch e),fun _=>rfl,fun d h=>by cases d<;>first | rfl | cases h⟩
theorem rm {K:PySem.W.Frag}{C:Nat→Addr}:IsA K C (.ty "int") qInt:=⟨.inl ⟨_,rfl⟩,fun d b e=>by cases d<;>cases e<;>with_unfolding_all rfl,fun j b e=>(nomatch e),fun _=>rfl,fun d h=>by cases d<;>first | rfl | cases h⟩
theorem pj {K:PySem.W.Frag}{C:Nat→Addr}:IsA K C (.ty "bool") qBool:=⟨.inl ⟨_,rfl⟩,fun d b e=>by cases d<;>cases e<;>with_unfolding_all rfl,fun j b e=>(nomatch e),fun _=>rfl,fun d h=>by cases d<;>first | rfl | cases h⟩
def sOwn (i:Nat)(gs:SS→R (List D)):SS→O:=fun S=>rO ((gs S).bind fun ds=>if ds.length≤16777216 then .ok (.nx (S.set i (some (.own ds)))) else .stuck)
def sApp (i:Nat)(gs:SS→R (List D)):SS→O:=fun S=>match S[i]? with
 | some (some (.own ds))=>rO ((gs S).bind fun es=>match es with
  | [d]=>if ds.length < 16777216 then .ok (.nx (S.set i (some (.own (ds++[d]))))) else .stuck
  | _=>.stuck)
 | _=>.stuck
def sExt (i:Nat)(gs:SS→R (List D)):SS→O:=fun S=>match S[i]? with
 | some (some (.own ds))=>rO ((gs S).bind fun es=>match es with
  | [.lst xs]=>if ds.length+xs.length≤16777216 then .ok (.nx (S.set i (some (.own (ds++xs))))) else .stuck
  | [.tup xs]=>if ds.length+xs.length≤16777216 then .ok (.nx (S.set i (some (.own (ds++xs))))) else .stuck
  | _=>.stuck)
 | _=>.stuck
def rExt (K:PySem.W.Frag):V→List V→Hp→VK→Prop:=fun x vs H Q=>∃ l b xs zs,x=.ref l∧vs=[.ref b]∧H l=some (.lst xs)∧(SqL K H b zs∨SqT K H b zs)∧xs.length+zs.length≤sizeLine∧Q .non (upd H l (.lst (xs++zs)))
theorem t5 {X:Cx}:MtR X "list.extend" (rExt X.K):=by
 intro pins s σ H x vs v us Q I rx rv h
 obtain⟨l,b,xs,zs,rfl,rfl,hH,hB,hz,q⟩:=h
 cases rx
 obtain⟨u,rfl,ru⟩:=rv.one
 cases ru
 obtain⟨z,its,n,r,hl,e⟩:=I.lstM hH
 rcases hB with hB | hB
 ·obtain⟨its2,r2,⟨⟨c2,d2,dt2,sl2⟩,n2,e2,p2,p3,p4⟩,z2⟩:=I.list hB
  simp only at p2 p3 p4
  subst p2 p3 p4
  have hl2:=r2.length
  have hsz:its.toArray.size+its2.toArray.size≤sizeLine:=by rw[List.size_toArray,List.size_toArray];omega
  refine call_meets F.slot_list_extend ⟨_,e,rfl⟩ F.entry_list_extend (F.args_list_extend_2 _ _) (mY l b its.toArray its2.toArray n n2 _ _ hsz) ⟨e,e2,?_⟩
  refine⟨.non,_,I.lset (its':=its++its2) hH e (by simp) (r.append r2) ?_,rfl,q⟩
  rw[List.length_append]
  omega
 ·obtain⟨its2,r2,⟨⟨c2,d2,dt2,sl2⟩,e2,p2,n2,p3⟩,z2⟩:=I.tuple hB
  simp only at p2 p3
  subst p2 p3
  have hl2:=r2.length
  have hsz:its.toArray.size+its2.toArray.size≤sizeLine:=by rw[List.size_toArray,List.size_toArray];omega
  refine call_meets F.slot_list_extend ⟨_,e,rfl⟩ F.entry_list_extend (F.args_list_extend_2 _ _) (mZ l b its.toArray its2.toArray n n2 _ _ hsz) ⟨e,e2,?_⟩
  refine⟨.non,_,I.lset (its':=its++its2) hH e (by simp) (r.append r2) ?_,rfl,q⟩
  rw[List.length_append]
  omega
section
variable {X:Cx}{F:Fx}{e:Expr}{es:List Expr}{gs:SS→R (List D)}{pos p0 apos cpos lpos:Pos}{x:Str}
theorem cI (i:Nat){pos':Pos}(hN:X.N.Nodup)(h:FA X F es gs)(hi:X.N[i]?=some x:=by rfl)(hx:Loc X.env.scope x:=by first | exact Or.inl rfl | exact Or.inr rfl)
  (hs:swapsWith (.List es lpos) (some (.Name x pos')) pos.line X.env=pure false:=by rfl) (hf:X.fn x=true∨X.env.scope.names.lookup x=some .local:=by first | exact .inl rfl | exact .inr rfl):FS X F (.Assign [.Name x pos'] (.List es lpos) pos) (sOwn i gs) :=
 (ji hN hi hx (kK h) hs hf).weak fun D σ H ⟨Z,S,ok,w⟩=>aS ok (WO.wg ok w) fun ds vs H1 Z1 ok1 x1 rs w1=>by
  split at w1
  ·rename_i hl
   refine⟨by rw[← rs.length,sizeLine_eq];exact hl,fun p hp=>?_⟩
   have w2:=WG.now w1 ok1.sub
   exact w2 _ _ Z1 (Same.refl _) (ok1.newOwn hp rs)
  ·exact w1.elim
theorem nh (i:Nat)(ha:FA X F [e] gs)(hi:X.N[i]?=some x:=by rfl)(hv:Vis X.env.scope x:=by first | exact Or.inl rfl | exact Or.inr (Or.inl rfl) | exact Or.inr (Or.inr rfl))(hd:(x==("__debug__":Str))=false:=by decide)
  (hcd:(x==("__classdict__":Str))=false:=by decide)
  (hbase:attributeBase (.Name x p0) "append" X.env (eval (.Name x p0) X.env)=eval (.Name x p0) X.env:=by rfl)
  (hfew:((backTo cpos (starEach [e] X.env)).all (fun x=>!x.1)&&(backToKw cpos (keywordEach [] X.env)).all (fun x=>x.1.isSome)
   && decide ([e].length+([]:List Keyword).length+(if ([]:List Keyword).isEmpty then 0 else 1) < 30))=true:=by rfl)
  (hline:(apos.endLine==cpos.line)=true:=by rfl) (hs:starEach [e] X.env=(false,eval e X.env)::starEach [] X.env:=by rfl) (hplain:(backTo cpos (starEach [] X.env)).any (·.1)=false:=by rfl)
  (hsw:swapsWith (.Call (.Attribute (.Name x p0) "append" apos) [e] [] cpos) none pos.line X.env=pure false:=by rfl) :
  FS X F (.Expr (.Call (.Attribute (.Name x p0) "append" apos) [e] [] cpos) pos) (sApp i gs) :=
 (fZ (fC PySem.F.plainAttrs_list PySem.F.slot_list_append (by kernel_rfl) (eO (X:=X)) (bQ hi hv hd hcd) ha hbase hfew hline hs hplain) hsw).weak fun D σ H ⟨Z,S,ok,w⟩=>by
  unfold sApp at w
  split at w
  ·rename_i ds e0
   obtain⟨a,vs,e1,e2,e3,e4,r⟩:=ok.own i ds e0
   refine⟨.ref a,e1,.inl ⟨rfl,vs,SqL.of e2⟩,aS ok (WO.wg ok w) fun es' us H1 Z1 ok1 x1 rs w1=>?_⟩
   split at w1
   ·rename_i d
    split at w1
    ·rename_i hl
     obtain⟨y,rfl,ry⟩:=bh rs
     have w2:=WG.now w1 ok1.sub
     refine⟨a,vs,y,rfl,rfl,x1.same _ _ e2,by rw[← r.length,sizeLine_eq];exact hl,?_⟩
     exact w2 σ _ Z1 (Same.refl _) (ok1.write e0 e1 ((r.mono x1.z).append (Reps.cons ry Reps.nil)))
    ·exact w1.elim
   ·exact w1.elim
  ·exact w.elim
theorem bo (i:Nat)(bK:X.K=F.K)(ha:FA X F [e] gs)(hi:X.N[i]?=some x:=by rfl)(hv:Vis X.env.scope x:=by first | exact Or.inl rfl | exact Or.inr (Or.inl rfl) | exact Or.inr (Or.inr rfl))(hd:(x==("__debug__":Str))=false:=by decide)
  (hcd:(x==("__classdict__":Str))=false:=by decide)
  (hbase:attributeBase (.Name x p0) "extend" X.env (eval (.Name x p0) X.env)=eval (.Name x p0) X.env:=by rfl)
  (hfew:((backTo cpos (starEach [e] X.env)).all (fun x=>!x.1)&&(backToKw cpos (keywordEach [] X.env)).all (fun x=>x.1.isSome)
   && decide ([e].length+([]:List Keyword).length+(if ([]:List Keyword).isEmpty then 0 else 1) < 30))=true:=by rfl)
  (hline:(apos.endLine==cpos.line)=true:=by rfl) (hs:starEach [e] X.env=(false,eval e X.env)::starEach [] X.env:=by rfl) (hplain:(backTo cpos (starEach [] X.env)).any (·.1)=false:=by rfl)
  (hsw:swapsWith (.Call (.Attribute (.Name x p0) "extend" apos) [e] [] cpos) none pos.line X.env=pure false:=by rfl) :
  FS X F (.Expr (.Call (.Attribute (.Name x p0) "extend" apos) [e] [] cpos) pos) (sExt i gs) :=
 (fZ (fC PySem.F.plainAttrs_list PySem.F.slot_list_extend (by kernel_rfl) (t5 (X:=X)) (bQ hi hv hd hcd) ha hbase hfew hline hs hplain) hsw).weak fun D σ H ⟨Z,S,ok,w⟩=>by
  unfold sExt at w
  split at w
  ·rename_i ds e0
   obtain⟨a,vs,e1,e2,e3,e4,r⟩:=ok.own i ds e0
   refine⟨.ref a,e1,.inl ⟨rfl,vs,SqL.of e2⟩,aS ok (WO.wg ok w) fun es' us H1 Z1 ok1 x1 rs w1=>?_⟩
   split at w1
   ·rename_i xs
    split at w1
    ·rename_i hl
     obtain⟨y,rfl,ry⟩:=bh rs
     rw[Rep]at ry
     obtain⟨b,zs,rfl,h1,h2⟩:=ry
     have w2:=WG.now w1 ok1.sub
     refine⟨a,b,vs,zs,rfl,rfl,x1.same _ _ e2,.inl (by rw[bK];exact ok1.sub.seq h1),by rw[← r.length,← h2.length,sizeLine_eq];exact hl,?_⟩
     exact w2 σ _ Z1 (Same.refl _) (ok1.write e0 e1 ((r.mono x1.z).append h2))
    ·exact w1.elim
   ·rename_i xs
    split at w1
    ·rename_i hl
     obtain⟨y,rfl,ry⟩:=bh rs
     rw[Rep]at ry
     obtain⟨b,zs,rfl,h1,h2⟩:=ry
     have w2:=WG.now w1 ok1.sub
     refine⟨a,b,vs,zs,rfl,rfl,x1.same _ _ e2,.inr (by rw[bK];exact h1.mono ok1.sub),by rw[← r.length,← h2.length,sizeLine_eq];exact hl,?_⟩
     exact w2 σ _ Z1 (Same.refl _) (ok1.write e0 e1 ((r.mono x1.z).append h2))
    ·exact w1.elim
   ·exact w1.elim
  ·exact w.elim
end
def dCount (xs es:List D):R D:=match es with
 | [.bl k]=>match boolsD xs with
  | some bs=>.ok (.int (bs.countP (· == k):Nat))
  | none=>.stuck
 | _=>.stuck
def dIndex (xs es:List D):R D:=match es with
 | [.bl k]=>match boolsD xs with
  | some bs=>if bs.idxOf k < bs.length then .ok (.int (bs.idxOf k:Nat)) else .stuck
  | none=>.stuck
 | _=>.stuck
def eMethL (f:List D→List D→R D)(g:SS→R D)(gs:SS→R (List D)):SS→R D:=fun S=>(g S).bind fun d=>match d with
 | .lst xs=>(gs S).bind fun es=>f xs es
 | _=>.stuck
def rCountB (K:PySem.W.Frag):V→List V→Hp→VK→Prop:=fun x vs H Q=>∃ (l:Addr) (bs:List Bool) (k:Bool),x=.ref l∧vs=[.bl k]∧SqL K H l (bs.map V.bl)∧Q (.int (bs.countP (· == k):Nat)) H
def rIndexB (K:PySem.W.Frag):V→List V→Hp→VK→Prop:=fun x vs H Q=>∃ (l:Addr) (bs:List Bool) (k:Bool),x=.ref l∧vs=[.bl k]∧SqL K H l (bs.map V.bl)∧bs.idxOf k < bs.length∧Q (.int (bs.idxOf k:Nat)) H
theorem ci {X:Cx}{pins:List (Addr×Obj)}{σ:St}{H:Hp}{s:Shared}(I:Inv X pins σ H s){A:Around}(hu:A.units < cLine)(b k:Bool):SeqAt.EqAt A s (.bool b) (.bool k) (b==k) :=
 dl (K:=X.K) (C:=fun _=>0) (Z:=fun _=>none) rfl I (fun _ _ e=>nomatch e) 0 A (.bl b) (.bl k) (.bl b) (.bl k) _ _ rfl rfl aU aU rfl rfl (by omega)
def isB (k:Bool):Value→Bool
 | .bool b=>b==k
 | _=>false
theorem pv {X:Cx}{k:Nat}(hr:Room k X.A):MtR X "list.count" (rCountB X.K):=by
 intro pins s σ H x vs v us Q I rx rv h
 obtain⟨l,bs,k,rfl,rfl,hH,q⟩:=h
 cases rx
 obtain⟨u,rfl,ru⟩:=rv.one
 cases ru
 obtain⟨its,r,⟨⟨c2,d2,dt2,sl2⟩,n2,e2,p2,p3,p4⟩,z2⟩:=I.list hH
 have e:=bn r
 subst e
 simp only at p2 p3 p4
 subst p2 p3 p4
 refine call_meets F.slot_list_count ⟨_,e2,rfl⟩ F.entry_list_count (F.args_list_count_2 _ _) (SeqAt.list_countAt l _ n2 _ _ (.bool k) (isB k)) ⟨e2,fun y hy=>?_,?_⟩
 ·have hy':y∈bs.map Value.bool:=by simpa using hy
  obtain⟨b,_,rfl⟩:=List.mem_map.mp hy'
  exact ci I (by have:=hr.un;show X.A.units+1 < cLine;omega) b k
 ·have hc:((bs.map Value.bool).toArray.toList.countP (isB k))=bs.countP (· == k):=by
   show (bs.map Value.bool).countP (isB k)=_
   rw[List.countP_map]
   rfl
  rw[hc]
  exact⟨.int _,H,I.tok _,⟨_,rfl⟩,q⟩
theorem px {X:Cx}{k:Nat}(hr:Room k X.A):MtR X "list.index" (rIndexB X.K):=by
 intro pins s σ H x vs v us Q I rx rv h
 obtain⟨l,bs,k,rfl,rfl,hH,hj,q⟩:=h
 cases rx
 obtain⟨u,rfl,ru⟩:=rv.one
 cases ru
 obtain⟨its,r,⟨⟨c2,d2,dt2,sl2⟩,n2,e2,p2,p3,p4⟩,z2⟩:=I.list hH
 have e:=bn r
 subst e
 simp only at p2 p3 p4
 subst p2 p3 p4
 rw[List.length_map,sizeLine_eq]at z2
 have hsz:bs.idxOf k < (bs.map Value.bool).toArray.size:=by rw[List.size_toArray,List.length_map];exact hj
 have hat:∀ m (hm:m < (bs.map Value.bool).toArray.size) (hm':m < bs.length),isB k (bs.map Value.bool).toArray[m]=(bs[m]==k):=fun m hm hm'=>by simp[isB]
 refine call_meets F.slot_list_index ⟨_,e2,rfl⟩ F.entry_list_index (F.args_list_index_2 _ _) (SeqAt.list_indexAt l _ n2 _ _ (.bool k) (isB k) (bs.idxOf k) hsz (by omega) ?_ ?_) ⟨e2,fun y hy=>?_,⟨.int _,H,I.tok _,⟨_,rfl⟩,q⟩⟩
 ·rw[hat _ _ hj]
  exact List.findIdx_getElem (w:=hj)
 ·intro m hm hlt
  have hm':m < bs.length:=by omega
  rw[hat _ _ hm']
  exact Bool.eq_false_iff.mpr (by simpa using List.not_of_lt_findIdx hlt)
 ·have hy':y∈bs.map Value.bool:=by simpa using hy
  obtain⟨b,_,rfl⟩:=List.mem_map.mp hy'
  exact ci I (by have:=hr.un;show X.A.units+1 < cLine;omega) b k
section
variable {X:Cx}{F:Fx}{o e:Expr}{g:SS→R D}{gs:SS→R (List D)}{apos cpos:Pos}{k:Nat}
theorem py {K:PySem.W.Frag}{C:Nat→Addr}{Z:Hp}{k:Bool}{vs:List V}(r:Reps K C Z [.bl k] vs):vs=[.bl k]:=by
 obtain⟨v,rfl,h⟩:=bh r
 rw[Rep]at h
 rw[h]
def MethD (F:Fx)(r:V→List V→Hp→VK→Prop)(f:List D→List D→R D):Prop:=∀ (H Z:Hp) (a:Addr) (vs:List V) (xs:List D) (us:List V) (es:List D) (Q:VK),Same Z H→SqL F.K H a vs→Reps F.K F.C Z xs vs→Reps F.K F.C Z es us →
 WG F H Z (f xs es) (fun d H' Z'=>∀ v,Rep F.K F.C Z' d v→Q v H')→r (.ref a) us H Q
theorem fF:MethD F (rCountB F.K) dCount:=by
 intro H Z a vs xs us es Q s h1 h2 rs w
 unfold dCount at w
 split at w
 ·rename_i k
  split at w
  ·rename_i bs eb
   have e3:=cg h2 eb
   subst e3
   exact⟨a,bs,k,rfl,py rs,h1,WG.now w s _ aI⟩
  ·exact w.elim
 ·exact w.elim
theorem fG:MethD F (rIndexB F.K) dIndex:=by
 intro H Z a vs xs us es Q s h1 h2 rs w
 unfold dIndex at w
 split at w
 ·rename_i k
  split at w
  ·rename_i bs eb
   have e3:=cg h2 eb
   subst e3
   split at w
   ·rename_i hl
    exact⟨a,bs,k,rfl,py rs,h1,hl,WG.now w s _ aI⟩
   ·exact w.elim
  ·exact w.elim
 ·exact w.elim
theorem da {r:V→List V→Hp→VK→Prop}{f:List D→List D→R D}(hd:MethD F r f):∀ σ H Q,tE F (eMethL f g gs) σ H Q→tBM F.K "list" r (tE F g) (tAl F gs) σ H Q:=fun σ H Q ⟨Z,S,ok,w⟩=>aB ok w fun d v H1 Z1 ok1 x1 rv w1=>by
 cases d with
 | lst xs =>
  rw[Rep]at rv
  obtain⟨a,vs,rfl,h1,h2⟩:=rv
  exact⟨.inl ⟨rfl,vs,ok1.sub.seq h1⟩,aS ok1 w1 fun es us H2 Z2 ok2 x2 rs w2=>hd H2 Z2 a vs xs us es Q ok2.sub (ok2.sub.seq (x2.z.seq h1)) (h2.mono x2.z) rs w2⟩
 | _=>exact w1.elim
theorem pz (bx:BX X F k)(ho:FE X F o g)(ha:FA X F [e] gs)
  (hbase:attributeBase o "count" X.env (eval o X.env)=eval o X.env:=by rfl)
  (hfew:((backTo cpos (starEach [e] X.env)).all (fun x=>!x.1)&&(backToKw cpos (keywordEach [] X.env)).all (fun x=>x.1.isSome)
   && decide ([e].length+([]:List Keyword).length+(if ([]:List Keyword).isEmpty then 0 else 1) < 30))=true:=by rfl)
  (hline:(apos.endLine==cpos.line)=true:=by rfl) (hs:starEach [e] X.env=(false,eval e X.env)::starEach [] X.env:=by rfl) (hplain:(backTo cpos (starEach [] X.env)).any (·.1)=false:=by rfl) :
  FE X F (.Call (.Attribute o "count" apos) [e] [] cpos) (eMethL dCount g gs) :=
 (fC PySem.F.plainAttrs_list PySem.F.slot_list_count (by kernel_rfl) (pv bx.room) ho ha hbase hfew hline hs hplain).weak (by rw[bx.K];exact da fF)
theorem ni (bx:BX X F k)(ho:FE X F o g)(ha:FA X F [e] gs)
  (hbase:attributeBase o "index" X.env (eval o X.env)=eval o X.env:=by rfl)
  (hfew:((backTo cpos (starEach [e] X.env)).all (fun x=>!x.1)&&(backToKw cpos (keywordEach [] X.env)).all (fun x=>x.1.isSome)
   && decide ([e].length+([]:List Keyword).length+(if ([]:List Keyword).isEmpty then 0 else 1) < 30))=true:=by rfl)
  (hline:(apos.endLine==cpos.line)=true:=by rfl) (hs:starEach [e] X.env=(false,eval e X.env)::starEach [] X.env:=by rfl) (hplain:(backTo cpos (starEach [] X.env)).any (·.1)=false:=by rfl) :
  FE X F (.Call (.Attribute o "index" apos) [e] [] cpos) (eMethL dIndex g gs) :=
 (fC PySem.F.plainAttrs_list PySem.F.slot_list_index (by kernel_rfl) (px bx.room) ho ha hbase hfew hline hs hplain).weak (by rw[bx.K];exact da fG)
end
def MadeX (X:Cx)(F:Fx):Prop:=∀ (pins:List (Addr×Obj)) (σ:St) (H:Hp) (s:Shared) (h1:Heap) (ea C:Addr) (args:List Value),Inv X pins σ H s→Heap.MadeExcOf s.heap h1 ea (.ref C) args→F.E (.ref C) none H→X.xe (.ref ea) { s with heap:=h1 }
def bmVE:List Value:=[.type "ValueError",.type "Exception",.type "BaseException",.type "object"]
theorem mf {K:PySem.W.Frag}{h:Heap}{C:Addr}{bmB:List Value}{newId:String}(X:K.In h)(q:PySem.W.excIn K C bmB newId=true) :
  ∃ (bm:List Value) (N:Addr) (nm qn:Str) (bs:List Value) (hdct:Bool) (sn:List Str) (sub:List Value) (ab:Bool) (col:Option Bool) (dd:Option Addr) (k0 k1 k2 k3 k5:Option Value) (mN:Str→Option Value),
   h.get? C=some (excClassObj nm qn C N bs bm hdct sn sub ab col dd k0 k1 k2 k3 k5 newId)∧h.Ns N mN∧mN "__init__"=none∧OwnTail h bmB bm:=by
 unfold PySem.W.excIn at q
 split at q
 ·rename_i dd cd sl ho
  split at q
  ·rename_i C' bm k0 k1 k2 k3 n k5 hm hs
   simp only[Bool.and_eq_true,beq_iff_eq,Bool.not_eq_true']at q
   obtain⟨⟨⟨⟨⟨rfl,rfl⟩,hdel⟩,ht⟩,hok⟩,hni⟩:=q
   obtain⟨nm,bs,mro,ns,qn,hd,sn,sub,ab,col,del⟩:=cd
   dsimp only at hm hdel hok hni
   subst hm hdel
   have hsl:sl = #[k0,k1,k2,k3,some (.builtin n),k5]:=by
    obtain⟨l⟩:=sl
    simp only at hs
    rw[hs]
   subst hsl
   exact⟨bm,ns,nm,qn,bs,hd,sn,sub,ab,col,dd,k0,k1,k2,k3,k5,_,X _ _ ho,.of_isNs (PySem.W.isNs_of_in X hok),PySem.W.nsMap_none_of_in X hok hni,PySem.W.tail_of_in X ht⟩
  ·cases q
 ·cases q
def sRaise (j:Nat)(gs:SS→R (List D)):SS→O:=fun S=>rO ((gs S).bind fun ds=>if ds.length≤1000 then .ok (.er j) else .stuck)
section
variable {X:Cx}{F:Fx}{e:Expr}{es:List Expr}{gs:SS→R (List D)}{pos np cpos:Pos}{x:Str}{k j:Nat}
theorem cJ (j:Nat)(bx:BX X F k)(hmade:MadeX X F)(hg:Gl X x)(hm:X.mg x=some (.ref (F.C j)))(q:PySem.W.excIn F.K (F.C j) bmVE "ValueError.__new__"=true)(ha:FA X F (e::es) gs)(hd:(x==("__debug__":Str))=false:=by decide)
  (he:starEach (e::es) X.env=(false,eval e X.env)::starEach es X.env:=by rfl) (hpl:(backTo cpos (starEach es X.env)).any (·.1)=false:=by rfl) :
  FS X F (.Raise (some (.Call (.Name x np) (e::es) [] cpos)) none pos) (sRaise j gs):=by
 intro pins s σ H D I h
 obtain⟨Z,S,ok,w⟩:=h
 have q':=q
 rw[← bx.K]at q'
 obtain⟨bm,N,nm,qn,bs,hdct,sn,sub,ab,col,dd,k0,k1,k2,k3,k5,mN,hC0,hN0,hni0,T0⟩:=mf (bmB:=bmVE) I.ok.mod.kin q'
 have hb:∀ {pl σ' H' s'},Inv X pl σ' H' s'→∀ b o,X.base.get? b=some o→s'.heap.get? b=some o:=fun I'=>I'.bk
 refine wpAny_Raise_call_subU (C:=F.C j) (nm:=nm) (q:=qn) (N:=N) (bs:=bs) (bm:=bm) (hdct:=hdct) (sn:=sn) (sub:=sub) (ab:=ab) (col:=col) (dd:=dd) (k0:=k0) (k1:=k1) (k2:=k2) (k3:=k3) (k5:=k5) PySem.F.excBase_ValueError (by decide) PySem.F.excBase_ValueError (T0.hasType PySem.F.excBase_ValueError.hasBase) (I.ok.hd bx.calm) (by rw[he];show (false||(backTo cpos (starEach es X.env)).any (·.1))=false;rw[hpl];rfl) hni0 (cX I hg hm ⟨rfl,?_⟩ hd)
 have hA:=ha cpos pins s σ H (fun vs H1=>vs.length≤1000∧F.E (.ref (F.C j)) none H1) I (aS ok (WO.wg ok w) fun ds vs H1 Z1 ok1 x1 rs w1=>by
  split at w1
  ·rename_i hl
   exact⟨by rw[← rs.length];exact hl,WG.now w1 ok1.sub H1 ok1.ex.same⟩
  ·exact w1.elim)
 rw[he]at hA ⊢
 refine Calls.evalArgs_plain (thn hA fun us s2 ⟨vs,H2,I2,r2,q2⟩=>⟨rfl,?_,hb I2 _ _ hC0,hN0.keeps (hb I2),T0.keeps (hb I2),fun h' e hm'=>hmade pins σ H2 s2 h' e _ us I2 hm' q2.2⟩)
 rw[← r2.length,sizeLine_eq]
 omega
end
section
variable {X:Cx}{pins:List (Addr×Obj)}{σ:St}{H:Hp}{s:Shared}
theorem gP (I:Inv X pins σ H s){A:Around}{calm:Bool}{pn pins':List (Addr×Obj)}{xe:Value→Shared→Prop}(hf:A.frames=X.A.frames)(hc:calm=true→A.handled=none)(hp:∀ p∈pn++pins',p∈X.pn++pins) :
  Inv { X with A:=A,calm:=calm,pn:=pn,xe:=xe } pins' σ H s :=
 ⟨⟨I.ok.mod,I.ok.kind,I.ok.glob,I.ok.blt,I.ok.above,I.ok.inj,I.ok.has,I.ok.cab,hc,hf.trans I.ok.frames,I.ok.stk,I.ok.exf,I.ok.bs,I.ok.bsz,I.ok.noex,I.ok.exfs,I.ok.funs,I.ok.frf⟩,I.os,I.bare,I.base,I.loc,I.cell,I.free,I.freeC,
  fun p hpp=>I.pin p (hp p hpp),I.hok,I.len⟩
theorem nj (I:Inv X pins σ H s){a:Addr}{o:HO}(hn:H a=none)(h0:X.s₀.heap.get? a=none)(hl:a≠X.env.locals)(hc:∀ x c,X.env.cells.lookup x=some c→c≠a)(hp:∀ p∈X.pn++pins,p.1≠a)
  (ho:ObjOk X.prog X.w (upd H a o) s.heap a o):Inv X pins σ (upd H a o) s:=by
 have nn:∀ {b:Addr} {u:HO},H b=some u→upd H a o b=some u:=fun {b u} e=>by rw[ai (aF e hn)];exact e
 refine⟨I.ok,I.os,I.bare,⟨I.base.keep,I.base.slot,fun b ob e n hx=>?_,I.base.there,fun b xs e=>nn (I.base.tups b xs e),fun b o' u e=>nn (I.base.frzs b o' u e),fun b ps e=>?_⟩,I.loc,I.cell,?_,fun x c e=>?_,fun p h=>?_,fun b u e=>?_,I.len⟩
 ·rw[ai (by rintro rfl;rw[h0]at e;cases e)]
  exact I.base.free b ob e n hx
 ·obtain⟨more,q⟩:=I.base.tbls b ps e
  exact⟨more,nn q⟩
 ·rw[ai (Ne.symm hl)];exact I.free
 ·rw[ai (hc x c e)];exact I.freeC x c e
 ·obtain⟨a1,a2,a3⟩:=I.pin p h
  exact⟨a1,by rw[ai (hp p h)];exact a2,a3⟩
 ·by_cases q:b=a
  ·subst q
   rw[ao]at e
   cases e
   exact ho
  ·rw[ai q]at e
   exact(I.hok b u e).stay (fun _ _ _ z=>z) (fun c z=>nn z) fun c xs z=>nn z
theorem nk {M:Model}{A:Around}{E:Value→Shared→Prop}{i:Nat}{n:Str}{v:V}{Q:Unit→Shared→Prop}(I:Inv X pins σ H s)(hN:X.N.Nodup)(hi:X.N[i]?=some n)(hk:X.env.kindOf n=some .local)(hs:X.env.scope.names.lookup n=some .local)(hv:σ[i]?=some (some v))
  (h:∀ s',Inv X pins (σ.set i none) H s'→Q () s'):wpAny M A (unbindName X.env n) Q E s:=by
 obtain⟨m,hn,hl⟩:=id I.loc
 have hcls:(X.env.scope.kind==.class||(X.env.scope.kind==.module&&X.env.locals != X.env.globals))=false:=by rw[I.ok.kind];rfl
 obtain⟨u,ru,lk⟩:=hl i n v hi hv (.inl hs)
 have hm:m n=some u:=by
  rcases lk with ⟨_,e⟩ | ⟨z,_⟩
  ·exact e
  ·rw[hk]at z;rcases z with z | z<;>cases z
 have cne:=I.cne
 have hiσ:i < σ.length:=(List.getElem?_eq_some_iff.mp hv).1
 refine wpAny_unbindName_local hk hn hm hcls fun h' u' hn' hs'=>?_
 obtain⟨oL,_,_,hoL,_⟩:=id hn
 have nl:∀ b o,X.s₀.heap.get? b=some o→b≠X.env.locals:=fun b o e=>Nat.ne_of_lt (Nat.lt_of_lt_of_le (Heap.lt_size e) I.ok.above)
 refine h _ ⟨I.ok,I.os,I.bare,⟨fun b o e nn hb hx=>(hs'.2 b (nl b o e)).trans (I.base.keep b o e nn hb hx),fun b o e nn hb hx=>?_,I.base.free,fun b o e hx=>?_,I.base.tups,I.base.frzs,I.base.tbls⟩,⟨_,hn',fun j y v' e1 e2 e3=>?_⟩,fun y c e=>?_,I.free,I.freeC,fun p hp=>?_,fun b ob e=>?_,by simpa using I.len⟩
 ·obtain⟨sl,e1⟩:=I.base.slot b o e nn hb hx
  exact⟨sl,(hs'.2 b (nl b o e)).trans e1⟩
 ·obtain⟨o',e1⟩:=I.base.there b o e hx
  exact⟨o',(hs'.2 b (nl b o e)).trans e1⟩
 ·have hj:j≠i:=fun q=>by
   subst q
   rw[List.getElem?_set_self hiσ]at e2
   cases e2
  rw[List.getElem?_set_ne (Ne.symm hj)]at e2
  obtain⟨u2,r2,q⟩:=hl j y v' e1 e2 e3
  refine⟨u2,r2,?_⟩
  rcases q with ⟨k,e⟩ | ⟨k,c,e,z⟩
  ·refine .inl ⟨k,?_⟩
   have:y≠n:=fun e=>hj (gw hN e1 (e ▸ hi))
   simp[this,e]
  ·exact .inr ⟨k,c,e,z.sameBut hs' (cne y c e)⟩
 ·obtain⟨w',z⟩:=I.cell y c e
  exact⟨w',z.sameBut hs' (cne y c e)⟩
 ·obtain⟨e,nn,ne,nf,d⟩:=I.pin p hp
  exact⟨(hs'.2 p.1 ne).trans e,nn,ne,nf,d⟩
 ·refine(I.hok b ob e).stay (fun c w' hc q=>(hs'.2 c ?_).trans q) (fun _ q=>q) fun _ _ q=>q
  rintro rfl
  rcases hc with z | z
  ·subst z;rw[I.free]at e;cases e
  ·rw[I.free]at z;cases z
end
structure Takes (K:PySem.W.Frag)(C:Nat→Addr)(C0:Addr)(q:Nat→Bool):Prop where
 exc:PySem.W.excIn K C0 bmVE "ValueError.__new__"=true
 sub:∀ k,q k=true→PySem.W.subIn K (.ref (C k)) (.ref C0)=some true
theorem j0 {K:PySem.W.Frag}{C:Nat→Addr}{C0:Addr}{q:Nat→Bool}(T:Takes K C C0 q){M:Model}{A:Around}{E:Value→Shared→Prop}{h:Heap}{g:Array GenState}{d:Drawn}{t:Nat}{os:OsState}{e:Addr}{oe:Obj}{k:Nat}{Q:Bool→Shared→Prop}
  (X:K.In h) (he:h.get? e=some oe) (hc:oe.cls=.ref (C k)) (hk:q k=true) (hq:Q true ⟨h,g,d,t,os⟩):wpAny M A (excMatches (.ref e) (.ref C0)) Q E ⟨h,g,d,t,os⟩:=by
 obtain⟨bm,N,nm,qn,bs,hdct,sn,sub,ab,col,dd,k0,k1,k2,k3,k5,mN,hC,hN,hni,TL⟩:=mf X T.exc
 have hcB:(Value.ref C0::bm).contains (.type "BaseException")=true:=by rw[List.contains_cons,TL.hasType (show bmVE.contains (.type "BaseException")=true by decide),Bool.or_true]
 have L3:=PySem.W.looks_subIn (M:=M) X (T.sub k hk)
 have f:=tc_notTuple
 unfold excMatches
 repeat (first | (with_reducible refine wpAny_loadPart_at he ?_;rw[hc]) | with_reducible refine wpAny_loadPart_at hC ?_ | (with_reducible refine wpAny_isSubtype_exc hC ?_;rw[hcB]) | (with_reducible refine L3.at ?_) | wp_step)
 exact hq
abbrev tryX (X:Cx)(pn:List (Addr×Obj))(xe:Value→Shared→Prop):Cx:={ X with A:=X.A,calm:=X.calm,pn:=pn,xe:=xe }
section
variable {F:Fx}{H Z:Hp}{S:SS}{σ:St}
end
section
variable {X:Cx}{F:Fx}{body:List Stmt}{g:SS→O}{c n y:Str}{np np2 kp apos hpos pos:Pos}{k:Nat}{q:Nat→Bool}{C0:Addr}
end
def eNeg (g:SS→R D):SS→R D:=fun S=>(g S).bind fun d=>match d with
 | .int i=>.ok (.int (-i))
 | _=>.stuck
section
variable {X:Cx}{F:Fx}{a:Expr}{g:SS→R D}{pos:Pos}{x:Str}{i:Int}
theorem eV (h:FE X F a g):FE X F (.UnaryOp .USub a pos) (eNeg g):=(uD tz h).weak fun σ H Q ⟨Z,S,ok,w⟩=>aB ok w fun d v H1 Z1 ok1 x1 rv w1=>by
 cases d with
 | int i=>rw[Rep]at rv;exact⟨i,rv,WG.now w1 ok1.sub _ aI⟩
 | _=>exact w1.elim
theorem mh (h:∃ t,X.mg x=some (.int i t))(hg:Gl X x)(hd:(x==("__debug__":Str))=false:=by decide):FE X F (.Name x pos) (eC (.int i)):=by
 obtain⟨t,e⟩:=h
 exact b9 (az (v:=.int i) hg e ⟨t,rfl⟩ hd) fun _=>aI
end
section
variable {X:Cx}{F:Fx}{e:Expr}{es:List Expr}{g:SS→R D}{gs:SS→R (List D)}
end
end FF
end
noncomputable section
namespace FF
open PySem L2
def tupI (l:List Int):D:=.tup (l.map .int)
def dSw (d:D)(lo hi:Option Int):R D:=match d with
 | .lst xs=>.ok (.lst (cutD xs lo hi))
 | .tup xs=>.ok (.tup (cutD xs lo hi))
 | _=>.stuck
def eSw (g:SS→R D)(l h:SS→R (Option Int)):SS→R D:=fun S=>(g S).bind fun d=>(l S).bind fun lo=>(h S).bind fun hi=>dSw d lo hi
def intsOf:List D→Option (List Int)
 | []=>some []
 | .int i::r=>(intsOf r).map (i::·)
 | _::_=>none
def sumI (is:List Int):Int:=is.foldl (· + ·) 0
def dSum:List D→R D
 | [.lst xs]=>match intsOf xs with
  | some is=>.ok (.int (sumI is))
  | none=>.stuck
 | [.tup xs]=>match intsOf xs with
  | some is=>.ok (.int (sumI is))
  | none=>.stuck
 | _=>.stuck
def setAll:List Nat→List D→SS→SS
 | i::r,d::ds,S=>setAll r ds (S.set i (some (.val d)))
 | _,_,S=>S
def gTup (ix:List Nat):D→SS→R SS:=fun d S=>match d with
 | .tup ds=>if ds.length=ix.length then .ok (setAll ix ds S) else .stuck
 | _=>.stuck
end FF
end
noncomputable section
namespace FF
open PySem PySem.Spec PyProof.Rows L2
def TupK (K:PySem.W.Frag)(a:Addr)(l:List Int):Prop :=
 ∃ (o:Obj) (its:Array Value) (n:Nat),K.lookup a=some o∧o.cls=.type "tuple" ∧ o.dict=none∧o.data=.seq its n∧its.size≤sizeLine∧Vals (l.map V.int) its.toList
theorem iW {K:PySem.W.Frag}{C:Nat→Addr}{Z:Hp}:∀ ns:List Int,Reps K C Z (ns.map .int) (ns.map V.int)
 | []=>by rw[List.map_nil,List.map_nil,Reps]
 | i::ns=>by rw[List.map_cons,List.map_cons,Reps];exact⟨_,_,rfl,aI,iW ns⟩
theorem js {X:Cx}{F:Fx}{x:Str}{pos:Pos}{l:List Int}(h:∃ a,X.mg x=some (.ref a)∧TupK F.K a l)(hg:Gl X x)(hd:(x==("__debug__":Str))=false:=by decide):FE X F (.Name x pos) (eC (tupI l)):=by
 obtain⟨a,e,o,its,n,h1,h2,h2d,h3,h4,h5⟩:=h
 exact b9 (az (v:=.ref a) hg e rfl hd) fun Z=>by
  unfold tupI
  rw[Rep]
  exact⟨a,_,rfl,.inr ⟨o,its,n,h1,h2,h2d,h3,h4,h5⟩,iW l⟩
theorem gQ {K:PySem.W.Frag}{C:Nat→Addr}{Z:Hp}:∀ {ds:List D} {vs:List V} {is:List Int},Reps K C Z ds vs→intsOf ds=some is→vs=is.map V.int
 | [],vs,is,r,e=>by rw[Reps]at r;cases e;exact r
 | d::ds,vs,is,r,e=>by
  rw[Reps]at r
  obtain⟨v,r',rfl,h1,h2⟩:=r
  cases d with
  | int i =>
   rw[intsOf]at e
   cases q:intsOf ds with
   | none=>rw[q]at e;cases e
   | some is' =>
    rw[q]at e
    cases e
    rw[Rep]at h1
    rw[h1,gQ h2 q]
    rfl
  | _=>simp[intsOf]at e
theorem bG:∀ {is:List Int} {us:List Value},Vals (is.map V.int) us→∃ ps:List (Int×Tok),us=ps.map (fun p=>Value.int p.1 p.2)∧ps.map (·.1)=is
 | [],us,h=>by rw[List.map_nil]at h;cases h;exact⟨[],rfl,rfl⟩
 | i::is,us,h=>by
  rw[List.map_cons]at h
  cases h with
  | cons r t =>
   obtain⟨tk,e⟩:=(show ∃ t,_=Value.int i t from r)
   obtain⟨ps,e2,e3⟩:=bG t
   exact⟨(i,tk)::ps,by rw[e,e2];rfl,by rw[← e3];rfl⟩
section
variable {X:Cx}
end
section
variable {X:Cx}{F:Fx}{p pos:Pos}{e:Expr}{gs:SS→R (List D)}{k:Nat}
end
theorem nq {X:Cx}{pins:List (Addr×Obj)}{σ:St}{H:Hp}{s:Shared}(I:Inv X pins σ H s){A:Around}(hu:A.units < cLine)(b k:Int)(t t':Tok):SeqAt.EqAt A s (.int b t) (.int k t') (b==k) :=
 dl (K:=X.K) (C:=fun _=>0) (Z:=fun _=>none) rfl I (fun _ _ e=>nomatch e) 0 A (.int b) (.int k) (.int b) (.int k) _ _ rfl rfl aI aI ⟨t,rfl⟩ ⟨t',rfl⟩ (by omega)
def isI (k:Int):Value→Bool
 | .int b _=>b==k
 | _=>false
section
variable {X:Cx}{F:Fx}{o e:Expr}{g:SS→R D}{gs:SS→R (List D)}{apos cpos:Pos}{k:Nat}
theorem rn {K:PySem.W.Frag}{C:Nat→Addr}{Z:Hp}{k:Int}{vs:List V}(r:Reps K C Z [.int k] vs):vs=[.int k]:=by
 obtain⟨v,rfl,h⟩:=bh r
 rw[Rep]at h
 rw[h]
end
end FF
namespace HT
open PySem PyProof.Rows
theorem df {prog:Program}{w:World}{A:Around}{E:Value→Shared→Prop}{s:Shared}{t sl:Addr}{items:Array Value}{vl vu:Value}{lo hi:Option Int}{Q:Value→Shared→Prop}(ht:IsTup s.heap t items)(hs:s.heap.IsSliceOf sl vl vu .none)(pl:IsPart vl lo)(pu:IsPart vu hi)
  (hw:sIx items.size 0 lo=0∧sIx items.size items.size hi=items.size) (h:Q (.ref t) s):wpAny (model prog w) A (getItem (.ref t) (.ref sl)) Q E s:=by
 obtain⟨os,hos,hcs,hds⟩:=id hs
 have hTs:s.TypeIs (.ref sl) "slice" := ⟨os,hos,hcs⟩
 unfold getItem
 try with_reducible refine wpAny_holding ?_
 first | refine wpAny_bind (wpAny_pure ?_) | skip
 refine wpAny_bind (wpAny_sequenceKey ht.typeIs (by decide) ?_)
 refine wpAny_bind (wpAny_callSpecial?_slot (name:=Str.ofString "__getitem__") ht.typeIs PyProof.Rows.slot_tuple_getitem
  (wpAny_call_entry PyProof.Rows.slot_tuple_getitem ht.typeIs entry_tuple_getitem ?_ (args_tuple_getitem _ _)))
 show wpAny _ _ (Builtin.Tuple.tupleItemsOf (.ref t) >>= _) _ _ s
 refine wpAny_bind (tupleItemsOf_ ht ?_)
 refine wpAny_bind (wpAny_typeOf hTs ?_)
 rw[if_pos (by decide)]
 refine wpAny_bind (bX hs pl pu ?_)
 rw[hw.1,hw.2]
 show wpAny _ _ (if (((0:Nat):Int)==0&&(1:Int)==1&&(items.size - 0)==items.size)=true then _ else _) _ _ s
 rw[if_pos (by simp)]
 unfold Builtin.Tuple.tupleIsExact
 refine wpAny_bind (wpAny_bind (wpAny_typeOf ht.typeIs (wpAny_pure ?_)))
 rw[if_pos (by decide)]
 exact wpAny_bind (wpAny_rule (wpAny_pure ⟨_,rfl,wpAny_pure h⟩))
end HT
namespace FF
open PySem PySem.Spec PyProof.Rows L2
def rSlW (K:PySem.W.Frag):V→Option Int→Option Int→Hp→VK→Prop:=fun x lo hi H Q=>∃ a xs,x=.ref a∧SqT K H a xs∧(HT.sIx xs.length 0 lo=0∧HT.sIx xs.length xs.length hi=xs.length)∧Q (.ref a) H
theorem rq {X:Cx}:SlR X (rSlW X.K):=by
 intro pins s σ H x v vl vu lo hi sl Q I rx hs pl pu h
 obtain⟨a,xs,rfl,hx,hw,q⟩:=h
 cases rx
 obtain⟨its,r,ht,hz⟩:=I.tuple hx
 have hlen:its.toArray.size=xs.length:=by rw[List.size_toArray];exact r.length.symm
 refine⟨"tuple",_,PyProof.Rows.slot_tuple_getitem.lookup,ht.typeIs,?_⟩
 refine HT.df ht hs pl pu (by rw[hlen];exact hw) ?_
 exact⟨.ref a,H,I,rfl,q⟩
theorem nr {xs:List D}{lo hi:Option Int}(h:HT.sIx xs.length 0 lo=0∧HT.sIx xs.length xs.length hi=xs.length):cutD xs lo hi=xs:=by
 unfold cutD
 rw[h.1,h.2,List.drop_zero,Nat.sub_zero,List.take_length]
section
variable {X:Cx}{F:Fx}{e:Expr}{lo hi:Option Expr}{g:SS→R D}{l h:SS→R (Option Int)}{pos p2:Pos}
theorem pA (hK:X.K=F.K)(he:FE X F e g)(hl:PO X lo (tP F l))(hh:PO X hi (tP F h)):FE X F (.Subscript e (.Slice lo hi none p2) pos) (eSw g l h) :=
 (oR (qR.or (tG.or rq)) he hl hh).weak fun σ H Q ⟨Z,S,ok,w⟩=>aB ok w fun d v H1 Z1 ok1 x1 rv w1=>me ok1 w1 fun o H2 Z2 ok2 x2 w2=>me ok2 w2 fun o' H3 Z3 ok3 x3 w3=>by
  have rv3:=rv.mono (x2.z.trans x3.z)
  cases d with
  | lst ds =>
   rw[Rep]at rv3
   obtain⟨a,vs,rfl,h1,h2⟩:=rv3
   refine .inl ⟨a,vs,rfl,by rw[hK];exact ok3.sub.seq h1,fun p hp=>?_⟩
   have z:Same Z3 (upd Z3 p (.lst (cutV vs o o'))):=aH (ok3.sub.free hp)
   exact w3 _ _ (Ex.alloc ok3.sub hp) _ (by rw[Rep];exact⟨p,_,rfl,SqL.of ao,(h2.cut o o').mono z⟩)
  | tup ds =>
   have rv4:=rv3
   rw[Rep]at rv3
   obtain⟨a,vs,rfl,h1,h2⟩:=rv3
   have w4:WG F H3 Z3 (R.ok (FF.D.tup (cutD ds o o'))) _:=w3
   by_cases hw:HT.sIx ds.length 0 o=0∧HT.sIx ds.length ds.length o'=ds.length
   ·refine .inr (.inr ⟨a,vs,rfl,by rw[hK];exact h1.mono ok3.sub,by rw[← h2.length];exact hw,?_⟩)
    rw[nr hw]at w4
    exact WG.now w4 ok3.sub _ rv4
   ·refine .inr (.inl ⟨a,vs,rfl,by rw[hK];exact h1.mono ok3.sub,by rw[← h2.length];exact hw,fun p hp=>?_⟩)
    have z:Same Z3 (upd Z3 p (.tup (cutV vs o o'))):=aH (ok3.sub.free hp)
    exact w4 _ _ (Ex.alloc ok3.sub hp) _ (by rw[Rep];exact⟨p,_,rfl,SqT.of ao,(h2.cut o o').mono z⟩)
  | _=>exact w3.elim
end
theorem R.bind_assoc {α β γ:Type}(r:R α)(f:α→R β)(g:β→R γ):(r.bind f).bind g=r.bind fun x=>(f x).bind g:=by cases r<;>rfl
end FF
end
noncomputable section
namespace FF
open PySem L2
def sameK:D→D→Bool
 | .tup _,.tup _=>true
 | .int _,.int _=>true
 | _,_=>false
def dInI (x y:D):R D:=match x,y with
 | .int i,.tup ds=>match intsOf ds with
  | some is=>.ok (.bl (is.any (· == i)))
  | none=>.stuck
 | _,_=>.stuck
def dIndexI (xs es:List D):R D:=match es with
 | [.int k]=>match intsOf xs with
  | some is=>if is.idxOf k < is.length then .ok (.int (is.idxOf k:Nat)) else .stuck
  | none=>.stuck
 | _=>.stuck
def eMethT (f:List D→List D→R D)(g:SS→R D)(gs:SS→R (List D)):SS→R D:=fun S=>(g S).bind fun d=>match d with
 | .tup xs=>(gs S).bind fun es=>f xs es
 | _=>.stuck
def sOwnOf (i:Nat)(gs:SS→R (List D)):SS→O:=fun S=>rO ((gs S).bind fun es=>match es with
 | [.tup xs]=>.ok (.nx (S.set i (some (.own xs))))
 | _=>.stuck)
def eOwnIx (i:Nat)(g:SS→R D):SS→R D:=fun S=>match S[i]? with
 | some (some (.own ds))=>(g S).bind fun k=>match k with
  | .int j=>match atI ds j with
   | some d=>.ok d
   | none=>.stuck
  | _=>.stuck
 | _=>.stuck
def sStore (i:Nat)(gi ge:SS→R D):SS→O:=fun S=>rO ((ge S).bind fun d=>match S[i]? with
 | some (some (.own ds))=>(gi S).bind fun k=>match k with
  | .int j=>if 0≤j∧j < ds.length then .ok (.nx (S.set i (some (.own (ds.set j.toNat d))))) else .stuck
  | _=>.stuck
 | _=>.stuck)
end FF
end
noncomputable section
namespace PySem.SeqAt
open AutoSeq1 (wpAny_loadPart')
open MeetsSeq MeetsSeq2 MeetsSeq3 SeqRoads2
theorem tuple_indexAt (l:Addr)(items:Array Value)(n:Nat)(dd:Option Addr)(sl:Array (Option Value))(x:Value)(e:Value→Bool)(j:Nat)(hj:j < items.size)
  (hit:e items[j]=true) (hno:∀ m (hm:m < items.size),m < j→e items[m]=false) :
  Meets (Builtin.«tuple.index» ⟨[.ref l,x],[]⟩)
   (fun A R s=>s.heap.get? l=some { cls:=.type "tuple",dict:=dd,data:=.seq items n,slots:=sl }∧(∀ y,y∈items→EqAt A.in1 s y x (e y))∧R (.ok (.ret (.int (j:Nat) s.toks))) { s with toks:=s.toks+1 }) :=
 .of_wp fun prog w A R s h=>by
  obtain⟨hp,g,d,tk,os⟩:=s;obtain⟨hl,he,h⟩:=h
  wp_walk using wpAny_loadPart' hl
  have key:∀ (k i:Nat) (Q:Option Fin×Unit→Shared→Prop) (E:Value→Shared→Prop),k=items.size - i→i≤j→Q (some (.done (.ret (.int (j:Nat) tk))),()) ⟨hp,g,d,tk+1,os⟩ →
    wpAny (model prog w) A.in1 (forIn (List.range' i k) (none,()) fun (i:Nat) (_:Option Fin×Unit)=>(match items[i]? with
     | some y=>do
      let b ← eqBool y x
      if b=true then do
       let r ← retInt (i:Int)
       pure (ForInStep.done (some r,()))
      else pure (ForInStep.yield (none,()))
     | _=>pure (ForInStep.yield (none,())):Sem (ForInStep (Option Fin×Unit)))) Q E ⟨hp,g,d,tk,os⟩:=fun k=>by
   induction k with
   | zero=>intro i Q E hk hi hq;omega
   | succ k ih =>
    intro i Q E hk hi hq
    have hlt:i < items.size:=by omega
    have hx:items[i]?=some items[i]:=by simp[hlt]
    rw[List.range'_succ,List.forIn_cons,hx]
    refine wpAny_bind (wpAny_bind (he items[i] (by simp) prog w _ _ ?_))
    cases hy:e items[i] with
    | true =>
     have hij:i=j:=by
      rcases Nat.lt_or_ge i j with h1 | h1
      ·rw[hno i hlt h1]at hy;cases hy
      ·omega
     subst hij
     rw[if_pos rfl]
     unfold retInt
     wp_walk
     exact hq
    | false =>
     rw[if_neg (by decide)]
     have hne:i≠j:=fun q=>by subst q;rw[hit]at hy;cases hy
     refine wpAny_pure ?_
     exact ih (i+1) Q E (by omega) (by omega) hq
  show wpAny (model prog w) A.in1 (forIn ([:min items.size items.size]:Std.Legacy.Range) (none,()) fun (i:Nat) (_:Option Fin×Unit)=>(match items[i]? with
     | some y=>do
      let b ← eqBool y x
      if b=true then do
       let r ← retInt (i:Int)
       pure (ForInStep.done (some r,()))
      else pure (ForInStep.yield (none,()))
     | _=>pure (ForInStep.yield (none,())):Sem (ForInStep (Option Fin×Unit)))) _ _ _
  rw[Std.Legacy.Range.forIn_eq_forIn_range']
  simp only[Std.Legacy.Range.size,Nat.sub_zero,Nat.add_sub_cancel,Nat.div_one,Nat.min_self]
  refine key _ 0 _ _ rfl (Nat.zero_le _) ?_
  wp_walk
  exact⟨_,rfl,h⟩
end PySem.SeqAt
namespace FF
open PySem PySem.Spec PyProof.Rows L2
section
variable {X:Cx}{F:Fx}{a b:Expr}{ga gb:SS→R D}{pos:Pos}{k:Nat}
end
theorem fH:∀ l:List Int,intsOf (l.map FF.D.int)=some l
 | []=>rfl
 | i::l=>by rw[List.map_cons,intsOf,fH l];rfl
section
variable {X:Cx}{F:Fx}{a b:Expr}{ga gb:SS→R D}{pos:Pos}{k:Nat}
end
def rIndexT (K:PySem.W.Frag):V→List V→Hp→VK→Prop:=fun x vs H Q=>∃ (l:Addr) (is:List Int) (k:Int),x=.ref l∧vs=[.int k]∧SqT K H l (is.map V.int)∧is.idxOf k < is.length∧Q (.int (is.idxOf k:Nat)) H
theorem nu {X:Cx}{k:Nat}(hr:Room k X.A):MtR X "tuple.index" (rIndexT X.K):=by
 intro pins s σ H x vs v us Q I rx rv h
 obtain⟨l,is,k,rfl,rfl,hH,hj,q⟩:=h
 cases rx
 obtain⟨u,rfl,ru⟩:=rv.one
 obtain⟨tk,rfl⟩:=(show ∃ t,u=Value.int k t from ru)
 obtain⟨its,r,ht,hz⟩:=I.tuple hH
 obtain⟨ps,rfl,e⟩:=bG r
 have hT:s.TypeIs (.ref l) "tuple" := ht.typeIs
 obtain⟨⟨c2,d2,dt2,sl2⟩,e2,p2,n2,p3⟩:=ht
 simp only at p2 p3
 subst p2 p3
 have hl:ps.length=is.length:=by have:=congrArg List.length e;simpa using this
 have hsz:is.idxOf k < (ps.map fun p=>Value.int p.1 p.2).toArray.size:=by rw[List.size_toArray,List.length_map,hl];exact hj
 have hat:∀ m (hm:m < (ps.map fun p=>Value.int p.1 p.2).toArray.size) (hm':m < is.length),isI k (ps.map fun p=>Value.int p.1 p.2).toArray[m]=(is[m]==k):=fun m hm hm'=>by
  subst e
  simp[isI]
 refine call_meets F.slot_tuple_index hT F.entry_tuple_index (F.args_tuple_index_2 _ _) (SeqAt.tuple_indexAt l _ n2 _ _ (.int k tk) (isI k) (is.idxOf k) hsz ?_ ?_) ⟨e2,fun y hy=>?_,⟨.int _,H,I.tok _,⟨_,rfl⟩,q⟩⟩
 ·rw[hat _ _ hj]
  exact List.findIdx_getElem (w:=hj)
 ·intro m hm hlt
  have hm':m < is.length:=by omega
  rw[hat _ _ hm']
  exact Bool.eq_false_iff.mpr (by simpa using List.not_of_lt_findIdx hlt)
 ·have hy':y∈ps.map fun p=>Value.int p.1 p.2:=by simpa using hy
  obtain⟨b,_,rfl⟩:=List.mem_map.mp hy'
  exact nq I (by have:=hr.un;show X.A.units+1 < cLine;omega) b.1 k b.2 tk
section
variable {X:Cx}{F:Fx}{o e:Expr}{g:SS→R D}{gs:SS→R (List D)}{apos cpos:Pos}{k:Nat}
theorem nv {l:List Int}{p:Pos}{x:Str}(bx:BX X F k)(h:∃ a,X.mg x=some (.ref a)∧TupK F.K a l)(hg:Gl X x)(ha:FA X F [e] gs)(hd:(x==("__debug__":Str))=false:=by decide)
  (hbase:attributeBase (.Name x p) "index" X.env (eval (.Name x p) X.env)=eval (.Name x p) X.env:=by rfl)
  (hfew:((backTo cpos (starEach [e] X.env)).all (fun x=>!x.1)&&(backToKw cpos (keywordEach [] X.env)).all (fun x=>x.1.isSome)
   && decide ([e].length+([]:List Keyword).length+(if ([]:List Keyword).isEmpty then 0 else 1) < 30))=true:=by rfl)
  (hline:(apos.endLine==cpos.line)=true:=by rfl) (hs:starEach [e] X.env=(false,eval e X.env)::starEach [] X.env:=by rfl) (hplain:(backTo cpos (starEach [] X.env)).any (·.1)=false:=by rfl) :
  FE X F (.Call (.Attribute (.Name x p) "index" apos) [e] [] cpos) (eMethT dIndexI (eC (tupI l)) gs):=by
 obtain⟨a,em,o,its,n,h1,h2,h2d,h3,h4,h5⟩:=h
 refine(fC PySem.F.plainAttrs_tuple PySem.F.slot_tuple_index PySem.F.type_tuple_index (nu bx.room) (az (v:=.ref a) hg em rfl hd) ha hbase hfew hline hs hplain).weak fun σ H Q ⟨Z,S,ok,w⟩=>?_
 have w0:WG F H Z ((gs S).bind fun es=>dIndexI (l.map .int) es) fun d H' Z'=>∀ v,Rep F.K F.C Z' d v→Q v H':=w
 have sq:∀ H:Hp,SqT F.K H a (l.map V.int):=fun H=>.inr ⟨o,its,n,h1,h2,h2d,h3,h4,h5⟩
 refine⟨.inr (.inl ⟨rfl,o,by rw[bx.K];exact h1,h2,h2d⟩),aS ok w0 fun es us H1 Z1 ok1 x1 rs w1=>?_⟩
 rw[bx.K]
 unfold dIndexI at w1
 split at w1
 ·rename_i kk
  split at w1
  ·rename_i is eb
   rw[fH l]at eb
   cases eb
   split at w1
   ·rename_i hl
    exact⟨a,l,kk,rfl,rn rs,sq H1,hl,WG.now w1 ok1.sub _ aI⟩
   ·exact w1.elim
  ·exact w1.elim
 ·exact w1.elim
end
section
variable {X:Cx}{F:Fx}{pos p:Pos}{k:Nat}{gs:SS→R (List D)}{g ge:SS→R D}{e ei:Expr}{x:Str}
theorem pB (i:Nat){p1 pos':Pos}(bx:BX X F k)(hN:X.N.Nodup)(hg:Gl X "list")(hm:X.mg "list"=none)(ha:FA X F [e] gs)(he:starEach [e] X.env=(false,eval e X.env)::starEach [] X.env:=by rfl)(hpl:(backTo p (starEach [] X.env)).any (·.1)=false:=by rfl)
  (hi:X.N[i]?=some x:=by rfl) (hx:Loc X.env.scope x:=by first | exact Or.inl rfl | exact Or.inr rfl) (hs:swapsWith (.Call (.Name "list" p1) [e] [] p) (some (.Name x pos')) pos.line X.env=pure false:=by rfl) (hf:X.fn x=true∨X.env.scope.names.lookup x=some .local:=by first | exact .inl rfl | exact .inr rfl) :
  FS X F (.Assign [.Name x pos'] (.Call (.Name "list" p1) [e] [] p) pos) (sOwnOf i gs) :=
 (ji hN hi hx (eM (jm (X:=X)) hg hm (by decide +kernel) ha (he:=he) (hpl:=hpl)) hs hf).weak fun D σ H ⟨Z,S,ok,w⟩=>aS ok (WO.wg ok w) fun es us H1 Z1 ok1 x1 rs w1=>by
  split at w1
  ·rename_i xs
   obtain⟨v,rfl,h⟩:=bh rs
   rw[Rep]at h
   obtain⟨a,vs,rfl,h1,h2⟩:=h
   refine⟨a,vs,rfl,.inr (by rw[bx.K];exact h1.mono ok1.sub),fun p hp=>?_⟩
   have w2:=WG.now w1 ok1.sub
   exact w2 _ _ Z1 (Same.refl _) (ok1.newOwn hp h2)
  ·exact w1.elim
theorem gR (i:Nat){p0:Pos}(hK:X.K=F.K)(he:FE X F e g)(hs:PlainIx e:=by intro _ _;rfl)(hi:X.N[i]?=some x:=by rfl)(hv:Vis X.env.scope x:=by first | exact Or.inl rfl | exact Or.inr (Or.inl rfl) | exact Or.inr (Or.inr rfl))(hd:(x==("__debug__":Str))=false:=by decide)
  (hcd:(x==("__classdict__":Str))=false:=by decide):FE X F (.Subscript (.Name x p0) e pos) (eOwnIx i g) :=
 (sB l4 (bQ hi hv hd hcd) he hs).weak fun σ H Q ⟨Z,S,ok,w⟩=>by
  unfold eOwnIx at w
  split at w
  ·rename_i ds e0
   obtain⟨a,vs,e1,e2,e3,e4,r⟩:=ok.own i ds e0
   refine⟨.ref a,e1,aB ok w fun d v H1 Z1 ok1 x1 rv w1=>?_⟩
   cases d with
   | int j =>
    rw[Rep]at rv
    have w2:WG F H1 Z1 (match atI ds j with | some d=>R.ok d | none=>R.stuck) _:=w1
    cases q:atI ds j with
    | none=>rw[q]at w2;exact w2.elim
    | some d =>
     rw[q]at w2
     obtain⟨v',f1,f2⟩:=(r.mono x1.z).at q
     exact⟨a,vs,j,v',rfl,rv,SqL.of (x1.same _ _ e2),f1,WG.now w2 ok1.sub _ f2⟩
   | _=>exact w1.elim
  ·exact w.elim
theorem Reps.setAt {K:PySem.W.Frag}{C:Nat→Addr}{Z:Hp}{d:D}{v:V}(q:Rep K C Z d v):∀ {ds:List D} {vs:List V} (j:Nat),Reps K C Z ds vs→Reps K C Z (ds.set j d) (vs.set j v)
 | [],vs,j,r=>by rw[Reps]at r;subst r;rw[List.set_nil,List.set_nil,Reps]
 | a::ds,vs,0,r=>by
  rw[Reps]at r
  obtain⟨w,r',rfl,h1,h2⟩:=r
  rw[List.set_cons_zero,List.set_cons_zero,Reps]
  exact⟨_,_,rfl,q,h2⟩
 | a::ds,vs,j+1,r=>by
  rw[Reps]at r
  obtain⟨w,r',rfl,h1,h2⟩:=r
  rw[List.set_cons_succ,List.set_cons_succ,Reps]
  exact⟨_,_,rfl,h1,Reps.setAt q j h2⟩
theorem pC (i:Nat){p0 pos':Pos}(bx:BX X F k)(he:FE X F e ge)(hix:FE X F ei g)(hi:X.N[i]?=some x:=by rfl)(hv:Vis X.env.scope x:=by first | exact Or.inl rfl | exact Or.inr (Or.inl rfl) | exact Or.inr (Or.inr rfl))(hd:(x==("__debug__":Str))=false:=by decide)
  (hcd:(x==("__classdict__":Str))=false:=by decide)
  (hasg:∀ v,assign (.Subscript (.Name x p0) ei pos') X.env v=(do
   let ov ← holding [v] (eval (.Name x p0) X.env)
   let iv ← holding [v,ov] (eval ei X.env)
   standAt pos'
   holding [v,ov,iv] (setItem ov iv v)
   release [v,ov,iv] []):=by intro _;rfl)
  (hs:swapsWithSole [.Subscript (.Name x p0) ei pos'] e pos.line X.env=pure false:=by rfl) (hw:swappedStores [.Subscript (.Name x p0) ei pos'] e X.env=pure none:=by rfl)
  (h1:(assignEach [.Subscript (.Name x p0) ei pos'] X.env).map (·.2)=[assign (.Subscript (.Name x p0) ei pos') X.env]:=by rfl) :
  FS X F (.Assign [.Subscript (.Name x p0) ei pos'] e pos) (sStore i g ge) :=
 (oH he (oG (bQ hi hv hd hcd) hix jS hasg) hs hw h1).weak fun D σ H ⟨Z,S,ok,w⟩=>aB ok (WO.wg ok w) fun d v H1 Z1 ok1 x1 rv w1=>by
  split at w1
  ·rename_i ds e0
   obtain⟨a,vs,e1,e2,e3,e4,r⟩:=ok1.own i ds e0
   refine⟨.ref a,e1,aB ok1 w1 fun d2 v2 H2 Z2 ok2 x2 rv2 w2=>?_⟩
   cases d2 with
   | int j =>
    rw[Rep]at rv2
    have w3:WG F H2 Z2 (if 0≤j∧j < ds.length then R.ok (O.nx (S.set i (some (.own (ds.set j.toNat d))))) else R.stuck) _:=w2
    split at w3
    ·rename_i hj
     have hl:ixN vs.length j=some j.toNat:=by
      unfold ixN
      rw[← r.length,if_pos hj.1,if_pos hj.2]
     refine⟨a,vs,j,j.toNat,rfl,rv2,x2.same _ _ e2,hl,?_⟩
     have w4:=WG.now w3 ok2.sub
     exact w4 σ _ Z2 (Same.refl _) (ok2.write e0 e1 (Reps.setAt (rv.mono x2.z) j.toNat (r.mono x2.z)))
    ·exact w3.elim
   | _=>exact w2.elim
  ·exact w1.elim
end
def dNf (x y:D):R D:=if good 60 x=true∧good 60 y=true then .ok (.bl (!eqD x y)) else .stuck
theorem mi {X:Cx}{pins:List (Addr×Obj)}{σ:St}{H Z:Hp}{s:Shared}{K:PySem.W.Frag}{C:Nat→Addr}(hK:X.K=K)(I:Inv X pins σ H s)(z:Same Z H)(n:Nat)(A:Around)(d e:D)(v u:V)(x y:Value)(g1:good n d=true)(g2:good n e=true)
  (h:Rep K C Z d v) (h':Rep K C Z e u) (rx:RelV v x) (ry:RelV u y) (hu:A.units+n < cLine):SeqAt.RcNeAt A s x y (!eqD d e):=by
 have hu0:A.units < cLine:=by omega
 cases d with
 | exc k=>cases n<;>simp[good]at g1
 | fn k=>cases n<;>simp[good]at g1
 | tab ks xs=>cases n<;>simp[good]at g1
 | dic ks xs=>cases n<;>simp[good]at g1
 | ptr a=>cases n<;>simp[good]at g1
 | tup ds =>
  cases n with
  | zero=>simp[good]at g1
  | succ n =>
   have in1:A.in1.units+n < cLine:=by show A.units+1+n < cLine;omega
   rw[Rep]at h
   obtain⟨a,vs,rfl,h1,h2⟩:=h
   cases rx
   obtain⟨its,r,p,_⟩:=I.tuple (by rw[hK];exact h1.mono z:SqT X.K H a vs)
   have p':s.heap.IsTuple a its.toArray:=p
   cases e with
   | tup es =>
    rw[Rep]at h'
    obtain⟨b,us,rfl,k1,k2⟩:=h'
    cases ry
    obtain⟨its2,r2,p2,_⟩:=I.tuple (by rw[hK];exact k1.mono z:SqT X.K H b us)
    have p2':s.heap.IsTuple b its2.toArray:=p2
    rw[good]at g1 g2
    have q:=SeqAt.RcNeAt.tuples (A:=A) (e:=fun j=>eqD (ds.getD j .non) (es.getD j .non)) p' p2' hu0 fun j j1 j2=>by
     have j1':j < its.length:=by simpa using j1
     have j2':j < its2.length:=by simpa using j2
     have l1:j < ds.length:=by rw[h2.length,r.length];exact j1'
     have l2:j < es.length:=by rw[k2.length,r2.length];exact j2'
     have e1:ds[j]?=some ds[j]:=by simp
     have e2:es[j]?=some es[j]:=by simp
     obtain⟨w1,f1,f2⟩:=h2.get e1
     obtain⟨w2,f3,f4⟩:=k2.get e2
     obtain⟨z1,m1,m2⟩:=r.get f1
     obtain⟨z2,m3,m4⟩:=r2.get f3
     have n1:its.toArray[j]=z1:=by simpa [j1'] using m1
     have n2:its2.toArray[j]=z2:=by simpa [j2'] using m3
     rw[n1,n2]
     have g3:ds.getD j .non=ds[j]:=by simp[l1]
     have g4:es.getD j .non=es[j]:=by simp[l2]
     rw[g3,g4]
     exact dl hK I z n A.in1 _ _ w1 w2 z1 z2 (aK g1 e1) (aK g2 e2) f2 f4 m2 m4 in1
    rw[eqD,bH]
    have s1:its.toArray.size=ds.length:=by rw[List.size_toArray,h2.length,r.length]
    have s2:its2.toArray.size=es.length:=by rw[List.size_toArray,k2.length,r2.length]
    rw[s1,s2]at q
    exact q
   | lst es =>
    rw[Rep]at h'
    obtain⟨b,us,rfl,k1,k2⟩:=h'
    cases ry
    obtain⟨its2,r2,p2,_⟩:=I.list (by rw[hK];exact z.seq k1:SqL X.K H b us)
    simp only[eqD,Bool.not_false,Bool.not_true]
    exact SeqAt.RcNeAt.tuple_list p' p2.isList hu0
   | exc k=>simp[good]at g2
   | fn k=>simp[good]at g2
   | tab ks xs=>simp[good]at g2
   | dic ks xs=>simp[good]at g2
   | ptr a=>simp[good]at g2
   | non=>rw[Rep]at h';subst h';cases ry;simp only[eqD,Bool.not_false,Bool.not_true];exact SeqAt.RcNeAt.tuple_none p' hu0
   | bl b=>rw[Rep]at h';subst h';cases ry;simp only[eqD,Bool.not_false,Bool.not_true];exact SeqAt.RcNeAt.tuple_bool _ p' hu0
   | int b=>rw[Rep]at h';subst h';obtain⟨t,rfl⟩:=ry;simp only[eqD,Bool.not_false,Bool.not_true];exact SeqAt.RcNeAt.tuple_int _ _ p' hu0
   | str b=>rw[Rep]at h';subst h';obtain⟨t,rfl⟩:=ry;simp only[eqD,Bool.not_false,Bool.not_true];exact SeqAt.RcNeAt.tuple_str _ _ p' hu0
 | lst ds =>
  cases n with
  | zero=>simp[good]at g1
  | succ n =>
   have in1:A.in1.units+n < cLine:=by show A.units+1+n < cLine;omega
   rw[Rep]at h
   obtain⟨a,vs,rfl,h1,h2⟩:=h
   cases rx
   obtain⟨its,r,p,_⟩:=I.list (by rw[hK];exact z.seq h1:SqL X.K H a vs)
   have p':=p.isList
   cases e with
   | lst es =>
    rw[Rep]at h'
    obtain⟨b,us,rfl,k1,k2⟩:=h'
    cases ry
    obtain⟨its2,r2,p2,_⟩:=I.list (by rw[hK];exact z.seq k1:SqL X.K H b us)
    have p2':=p2.isList
    rw[good]at g1 g2
    have s1:its.toArray.size=ds.length:=by rw[List.size_toArray,h2.length,r.length]
    have s2:its2.toArray.size=es.length:=by rw[List.size_toArray,k2.length,r2.length]
    rw[eqD,bH]
    by_cases hsz:ds.length=es.length
    ·have q:=SeqAt.RcNeAt.lists (A:=A) (e:=fun j=>eqD (ds.getD j .non) (es.getD j .non)) p' p2' (by rw[s1,s2];exact hsz) hu0 fun j j1 j2=>by
      have j1':j < its.length:=by simpa using j1
      have j2':j < its2.length:=by simpa using j2
      have l1:j < ds.length:=by rw[h2.length,r.length];exact j1'
      have l2:j < es.length:=by rw[k2.length,r2.length];exact j2'
      have e1:ds[j]?=some ds[j]:=by simp
      have e2:es[j]?=some es[j]:=by simp
      obtain⟨w1,f1,f2⟩:=h2.get e1
      obtain⟨w2,f3,f4⟩:=k2.get e2
      obtain⟨z1,m1,m2⟩:=r.get f1
      obtain⟨z2,m3,m4⟩:=r2.get f3
      have n1:its.toArray[j]=z1:=by simpa [j1'] using m1
      have n2:its2.toArray[j]=z2:=by simpa [j2'] using m3
      rw[n1,n2]
      have g3:ds.getD j .non=ds[j]:=by simp[l1]
      have g4:es.getD j .non=es[j]:=by simp[l2]
      rw[g3,g4]
      exact dl hK I z n A.in1 _ _ w1 w2 z1 z2 (aK g1 e1) (aK g2 e2) f2 f4 m2 m4 in1
     rw[s1]at q
     rw[hsz,Nat.min_self,beq_self_eq_true,Bool.and_true,← hsz]
     exact q
    ·have q:=SeqAt.RcNeAt.lists_lengths (A:=A) p' p2' (by rw[s1,s2];simpa using hsz) hu0
     rw[show (ds.length==es.length)=false by simpa using hsz,Bool.and_false]
     exact q
   | tup es =>
    rw[Rep]at h'
    obtain⟨b,us,rfl,k1,k2⟩:=h'
    cases ry
    obtain⟨its2,r2,p2,_⟩:=I.tuple (by rw[hK];exact k1.mono z:SqT X.K H b us)
    simp only[eqD,Bool.not_false,Bool.not_true]
    exact SeqAt.RcNeAt.list_tuple p' (show s.heap.IsTuple b its2.toArray from p2) hu0
   | exc k=>simp[good]at g2
   | fn k=>simp[good]at g2
   | tab ks xs=>simp[good]at g2
   | dic ks xs=>simp[good]at g2
   | ptr a=>simp[good]at g2
   | non=>rw[Rep]at h';subst h';cases ry;simp only[eqD,Bool.not_false,Bool.not_true];exact SeqAt.RcNeAt.list_none p' hu0
   | bl b=>rw[Rep]at h';subst h';cases ry;simp only[eqD,Bool.not_false,Bool.not_true];exact SeqAt.RcNeAt.list_bool _ p' hu0
   | int b=>rw[Rep]at h';subst h';obtain⟨t,rfl⟩:=ry;simp only[eqD,Bool.not_false,Bool.not_true];exact SeqAt.RcNeAt.list_int _ _ p' hu0
   | str b=>rw[Rep]at h';subst h';obtain⟨t,rfl⟩:=ry;simp only[eqD,Bool.not_false,Bool.not_true];exact SeqAt.RcNeAt.list_str _ _ p' hu0
 | non =>
  rw[Rep]at h;subst h;cases rx
  cases e with
  | tup es =>
   rw[Rep]at h'
   obtain⟨b,us,rfl,k1,k2⟩:=h'
   cases ry
   obtain⟨its2,r2,p2,_⟩:=I.tuple (by rw[hK];exact k1.mono z:SqT X.K H b us)
   simp only[eqD,Bool.not_false,Bool.not_true];exact SeqAt.RcNeAt.none_tuple (show s.heap.IsTuple b its2.toArray from p2) hu0
  | lst es =>
   rw[Rep]at h'
   obtain⟨b,us,rfl,k1,k2⟩:=h'
   cases ry
   obtain⟨its2,r2,p2,_⟩:=I.list (by rw[hK];exact z.seq k1:SqL X.K H b us)
   simp only[eqD,Bool.not_false,Bool.not_true];exact SeqAt.RcNeAt.none_list p2.isList hu0
  | exc k=>cases n<;>simp[good]at g2
  | fn k=>cases n<;>simp[good]at g2
  | tab ks xs=>cases n<;>simp[good]at g2
  | dic ks xs=>cases n<;>simp[good]at g2
  | ptr a=>cases n<;>simp[good]at g2
  | non=>rw[Rep]at h';subst h';cases ry;simp only[eqD,Bool.not_false,Bool.not_true];exact SeqAt.RcNeAt.none_none
  | bl b=>rw[Rep]at h';subst h';cases ry;simp only[eqD,Bool.not_false,Bool.not_true];exact SeqAt.RcNeAt.none_bool _
  | int b=>rw[Rep]at h';subst h';obtain⟨t,rfl⟩:=ry;simp only[eqD,Bool.not_false,Bool.not_true];exact SeqAt.RcNeAt.none_int _ _
  | str b=>rw[Rep]at h';subst h';obtain⟨t,rfl⟩:=ry;simp only[eqD,Bool.not_false,Bool.not_true];exact SeqAt.RcNeAt.none_str _ _
 | bl a =>
  rw[Rep]at h;subst h;cases rx
  cases e with
  | tup es =>
   rw[Rep]at h'
   obtain⟨b,us,rfl,k1,k2⟩:=h'
   cases ry
   obtain⟨its2,r2,p2,_⟩:=I.tuple (by rw[hK];exact k1.mono z:SqT X.K H b us)
   simp only[eqD,Bool.not_false,Bool.not_true];exact SeqAt.RcNeAt.bool_tuple _ (show s.heap.IsTuple b its2.toArray from p2) hu0
  | lst es =>
   rw[Rep]at h'
   obtain⟨b,us,rfl,k1,k2⟩:=h'
   cases ry
   obtain⟨its2,r2,p2,_⟩:=I.list (by rw[hK];exact z.seq k1:SqL X.K H b us)
   simp only[eqD,Bool.not_false,Bool.not_true];exact SeqAt.RcNeAt.bool_list _ p2.isList hu0
  | exc k=>cases n<;>simp[good]at g2
  | fn k=>cases n<;>simp[good]at g2
  | tab ks xs=>cases n<;>simp[good]at g2
  | dic ks xs=>cases n<;>simp[good]at g2
  | ptr a=>cases n<;>simp[good]at g2
  | non=>rw[Rep]at h';subst h';cases ry;simp only[eqD,Bool.not_false,Bool.not_true];exact SeqAt.RcNeAt.bool_none _
  | bl b=>rw[Rep]at h';subst h';cases ry;simp only[eqD,Bool.not_false,Bool.not_true];exact SeqAt.RcNeAt.bool_bool _ _
  | int b=>rw[Rep]at h';subst h';obtain⟨t,rfl⟩:=ry;simp only[eqD,Bool.not_false,Bool.not_true];exact SeqAt.RcNeAt.bool_int _ _ _
  | str b=>rw[Rep]at h';subst h';obtain⟨t,rfl⟩:=ry;simp only[eqD,Bool.not_false,Bool.not_true];exact SeqAt.RcNeAt.bool_str _ _ _
 | int a =>
  rw[Rep]at h;subst h;obtain⟨t0,rfl⟩:=rx
  cases e with
  | tup es =>
   rw[Rep]at h'
   obtain⟨b,us,rfl,k1,k2⟩:=h'
   cases ry
   obtain⟨its2,r2,p2,_⟩:=I.tuple (by rw[hK];exact k1.mono z:SqT X.K H b us)
   simp only[eqD,Bool.not_false,Bool.not_true];exact SeqAt.RcNeAt.int_tuple _ _ (show s.heap.IsTuple b its2.toArray from p2) hu0
  | lst es =>
   rw[Rep]at h'
   obtain⟨b,us,rfl,k1,k2⟩:=h'
   cases ry
   obtain⟨its2,r2,p2,_⟩:=I.list (by rw[hK];exact z.seq k1:SqL X.K H b us)
   simp only[eqD,Bool.not_false,Bool.not_true];exact SeqAt.RcNeAt.int_list _ _ p2.isList hu0
  | exc k=>cases n<;>simp[good]at g2
  | fn k=>cases n<;>simp[good]at g2
  | tab ks xs=>cases n<;>simp[good]at g2
  | dic ks xs=>cases n<;>simp[good]at g2
  | ptr a=>cases n<;>simp[good]at g2
  | non=>rw[Rep]at h';subst h';cases ry;simp only[eqD,Bool.not_false,Bool.not_true];exact SeqAt.RcNeAt.int_none _ _
  | bl b=>rw[Rep]at h';subst h';cases ry;simp only[eqD,Bool.not_false,Bool.not_true];exact SeqAt.RcNeAt.int_bool _ _ _
  | int b=>rw[Rep]at h';subst h';obtain⟨t,rfl⟩:=ry;simp only[eqD,Bool.not_false,Bool.not_true];exact SeqAt.RcNeAt.int_int _ _ _ _
  | str b=>rw[Rep]at h';subst h';obtain⟨t,rfl⟩:=ry;simp only[eqD,Bool.not_false,Bool.not_true];exact SeqAt.RcNeAt.int_str _ _ _ _
 | str a =>
  rw[Rep]at h;subst h;obtain⟨t0,rfl⟩:=rx
  cases e with
  | tup es =>
   rw[Rep]at h'
   obtain⟨b,us,rfl,k1,k2⟩:=h'
   cases ry
   obtain⟨its2,r2,p2,_⟩:=I.tuple (by rw[hK];exact k1.mono z:SqT X.K H b us)
   simp only[eqD,Bool.not_false,Bool.not_true];exact SeqAt.RcNeAt.str_tuple _ _ (show s.heap.IsTuple b its2.toArray from p2) hu0
  | lst es =>
   rw[Rep]at h'
   obtain⟨b,us,rfl,k1,k2⟩:=h'
   cases ry
   obtain⟨its2,r2,p2,_⟩:=I.list (by rw[hK];exact z.seq k1:SqL X.K H b us)
   simp only[eqD,Bool.not_false,Bool.not_true];exact SeqAt.RcNeAt.str_list _ _ p2.isList hu0
  | exc k=>cases n<;>simp[good]at g2
  | fn k=>cases n<;>simp[good]at g2
  | tab ks xs=>cases n<;>simp[good]at g2
  | dic ks xs=>cases n<;>simp[good]at g2
  | ptr a=>cases n<;>simp[good]at g2
  | non=>rw[Rep]at h';subst h';cases ry;simp only[eqD,Bool.not_false,Bool.not_true];exact SeqAt.RcNeAt.str_none _ _
  | bl b=>rw[Rep]at h';subst h';cases ry;simp only[eqD,Bool.not_false,Bool.not_true];exact SeqAt.RcNeAt.str_bool _ _ _
  | int b=>rw[Rep]at h';subst h';obtain⟨t,rfl⟩:=ry;simp only[eqD,Bool.not_false,Bool.not_true];exact SeqAt.RcNeAt.str_int _ _ _ _
  | str b=>rw[Rep]at h';subst h';obtain⟨t,rfl⟩:=ry;simp only[eqD,Bool.not_false,Bool.not_true];exact SeqAt.RcNeAt.str_str _ _ _ _
def rNf (K:PySem.W.Frag)(C:Nat→Addr):R2:=fun x y H Q=>∃ Z d e,Same Z H∧Rep K C Z d x∧Rep K C Z e y∧good 60 d=true∧good 60 e=true∧Q (.bl (!eqD d e)) H
section
variable {X:Cx}{F:Fx}{a b:Expr}{ga gb:SS→R D}{pos:Pos}{k:Nat}
theorem sG (hK:X.K=F.K)(hr:Room k X.A):OpR X (compareOp .NotEq) (rNf F.K F.C):=by
 intro pins s σ H x y v u Q I rx ry h
 obtain⟨Z,d,e,z,h1,h2,g1,g2,q⟩:=h
 have hu:X.A.units+60 < cLine:=by have:=hr.un;omega
 exact mi hK I z 60 X.A d e x y v u g1 g2 h1 h2 rx ry hu X.prog X.w X.xe _ ⟨.bl (!eqD d e),H,I,rfl,q⟩
theorem kZ:OpD F (rNf F.K F.C) dNf:=by
 intro H Z x y dx dy Q s rx ry w
 unfold dNf at w
 split at w
 ·rename_i g
  exact⟨Z,dx,dy,s,rx,ry,g.1,g.2,WG.now w s _ aU⟩
 ·exact w.elim
theorem iX (bx:BX X F k)(ha:FE X F a ga)(hb:FE X F b gb):FT X F (.Compare a [.NotEq] [b] pos) (gB (eOp dNf ga gb)):=dk (sG bx.K bx.room) kZ ha hb
end
def qEx (es:List Nat)(i:Nat):D→Option Bool
 | .exc j=>if es.contains j=true then some (i==j||i==0) else none
 | _=>none
def qVx (es:List Nat):D→Option Bool
 | .exc j=>if es.contains j=true then some true else none
 | _=>none
def qTk (es:List Nat)(j:Nat):Bool:=es.contains j
theorem bL {K:PySem.W.Frag}{C:Nat→Addr}{es:List Nat}{i:Nat}(h:∀ j∈es,PySem.W.kitOne K (.ref (C j)) (.ref (C i))=some (i==j||i==0))(hx:∀ j∈es,ExcK K (C j)):IsA K C (.ref (C i)) (qEx es i):=by
 refine⟨.inr ⟨_,rfl⟩,fun d b e=>?_,fun j b e=>?_,fun _=>rfl,fun d h=>by cases d<;>first | rfl | cases h⟩
 ·cases d with
  | exc j =>
   have e':(if es.contains j=true then some (i==j||i==0) else none)=some b:=e
   by_cases hj:es.contains j=true
   ·rw[if_pos hj]at e'
    cases e'
    exact h j (by simpa using hj)
   ·rw[if_neg hj]at e';cases e'
  | _=>cases e
 ·have e':(if es.contains j=true then some (i==j||i==0) else none)=some b:=e
  by_cases hj:es.contains j=true
  ·exact hx j (by simpa using hj)
  ·rw[if_neg hj]at e';cases e'
theorem t6 {K:PySem.W.Frag}{C:Nat→Addr}{es:List Nat}(h:∀ j∈es,PySem.W.kitOne K (.ref (C j)) (.type "ValueError")=some true)(hx:∀ j∈es,ExcK K (C j)):IsA K C (.ty "ValueError") (qVx es):=by
 refine⟨.inl ⟨_,rfl⟩,fun d b e=>?_,fun j b e=>?_,fun _=>rfl,fun d h=>by cases d<;>first | rfl | cases h⟩
 ·cases d with
  | exc j =>
   have e':(if es.contains j=true then some true else none)=some b:=e
   by_cases hj:es.contains j=true
   ·rw[if_pos hj]at e'
    cases e'
    exact h j (by simpa using hj)
   ·rw[if_neg hj]at e';cases e'
  | _=>cases e
 ·have e':(if es.contains j=true then some true else none)=some b:=e
  by_cases hj:es.contains j=true
  ·exact hx j (by simpa using hj)
  ·rw[if_neg hj]at e';cases e'
theorem pD {K:PySem.W.Frag}{C:Nat→Addr}{es:List Nat}(h:PySem.W.excIn K (C 0) bmVE "ValueError.__new__"=true)(hs:∀ j∈es,PySem.W.subIn K (.ref (C j)) (.ref (C 0))=some true):Takes K C (C 0) (qTk es) :=
 ⟨h,fun k e=>hs k (by simpa [qTk] using e)⟩
section
variable {X:Cx}{F:Fx}{o e:Expr}{g:SS→R D}{gs:SS→R (List D)}{apos cpos:Pos}{k:Nat}
end
end FF
end
noncomputable section
namespace FF
open PySem L2
inductive L (σ:Type) where
 | nx (s:σ) | rt (d:D) | er (k:Nat) | stuck
def lB {α σ:Type}(r:R α)(k:α→L σ):L σ:=match r with
 | .ok a=>k a
 | .err e=>.er e
 | .stuck=>.stuck
def lS {τ σ:Type}(l:L τ)(k:τ→L σ):L σ:=match l with
 | .nx s=>k s
 | .rt d=>.rt d
 | .er e=>.er e
 | .stuck=>.stuck
def lFor {α τ:Type}(f:τ→α→L τ):List α→τ→L τ
 | [],s=>.nx s
 | d::r,s=>lS (f s d) fun s'=>lFor f r s'
def lTry {τ σ:Type}(q:Nat→Bool)(l:L τ)(k:τ→L σ)(h:Nat→L σ):L σ:=match l with
 | .nx s=>k s
 | .rt d=>.rt d
 | .er e=>if q e=true then h e else .stuck
 | .stuck=>.stuck
def outL {σ:Type}(l:L σ):R D:=match l with
 | .nx _=>.ok .non
 | .rt d=>.ok d
 | .er k=>.err k
 | .stuck=>.stuck
section
variable {α τ σ:Type}
@[simp] theorem sH (a:α)(k:α→L σ):lB (.ok a) k=k a:=rfl
@[simp] theorem t7 (e:Nat)(k:α→L σ):lB (.err e) k=.er e:=rfl
@[simp] theorem uK (k:α→L σ):lB .stuck k=.stuck:=rfl
@[simp] theorem uL (s:τ)(k:τ→L σ):lS (.nx s) k=k s:=rfl
@[simp] theorem uM (d:D)(k:τ→L σ):lS (.rt d) k=.rt d:=rfl
@[simp] theorem uN (e:Nat)(k:τ→L σ):lS (.er e) k=.er e:=rfl
@[simp] theorem uO (k:τ→L σ):lS .stuck k=.stuck:=rfl
@[simp] theorem uP (f:τ→α→L τ)(s:τ):lFor f [] s=.nx s:=rfl
theorem ny (f:τ→α→L τ)(d:α)(r:List α)(s:τ):lFor f (d::r) s=lS (f s d) fun s'=>lFor f r s':=rfl
@[simp] theorem u8 (q:Nat→Bool)(s:τ)(k:τ→L σ)(h:Nat→L σ):lTry q (.nx s) k h=k s:=rfl
@[simp] theorem u9 (q:Nat→Bool)(d:D)(k:τ→L σ)(h:Nat→L σ):lTry q (.rt d:L τ) k h=.rt d:=rfl
@[simp] theorem va (q:Nat→Bool)(e:Nat)(k:τ→L σ)(h:Nat→L σ):lTry q (.er e:L τ) k h=if q e=true then h e else .stuck:=rfl
@[simp] theorem rz (s:σ):outL (.nx s)=.ok .non:=rfl
@[simp] theorem rA (d:D):outL (.rt d:L σ)=.ok d:=rfl
@[simp] theorem rB (k:Nat):outL (.er k:L σ)=.err k:=rfl
end
def rAnd (a b:R Bool):R Bool:=a.bind fun c=>if c=true then b else .ok false
def rOr (a b:R Bool):R Bool:=a.bind fun c=>if c=true then .ok true else b
def rNot (a:R Bool):R Bool:=a.bind fun c=>.ok (!c)
def vAnd (a b:R D):R D:=(asB a).bind fun c=>if c=true then b else .ok (.bl false)
def vOr (a b:R D):R D:=(asB a).bind fun c=>if c=true then .ok (.bl true) else b
def vNot (a:R D):R D:=(asB a).bind fun c=>.ok (.bl (!c))
def rIf (c:R Bool)(a b:R D):R D:=c.bind fun t=>if t=true then a else b
def rCh (f f':D→D→R D)(x y:D)(w:R D):R D:=(asB (f x y)).bind fun k=>if k=true then w.bind fun w=>f' y w else .ok (.bl false)
@[simp] theorem t8 (b:Bool):asB (.ok (.bl b))=.ok b:=rfl
@[simp] theorem t9 (b:R Bool):rAnd (.ok true) b=b:=rfl
@[simp] theorem ua (b:R Bool):rAnd (.ok false) b=.ok false:=rfl
@[simp] theorem uQ (b:R Bool):rOr (.ok true) b=.ok true:=rfl
@[simp] theorem uR (b:R Bool):rOr (.ok false) b=b:=rfl
@[simp] theorem rC (b:Bool):rNot (.ok b)=.ok (!b):=rfl
@[simp] theorem ub (b:R D):vAnd (.ok (.bl true)) b=b:=rfl
@[simp] theorem uc (b:R D):vAnd (.ok (.bl false)) b=.ok (.bl false):=rfl
@[simp] theorem uS (b:R D):vOr (.ok (.bl true)) b=.ok (.bl true):=rfl
@[simp] theorem uT (b:R D):vOr (.ok (.bl false)) b=b:=rfl
@[simp] theorem rD (b:Bool):vNot (.ok (.bl b))=.ok (.bl (!b)):=rfl
@[simp] theorem uU (a b:R D):rIf (.ok true) a b=a:=rfl
@[simp] theorem uV (a b:R D):rIf (.ok false) a b=b:=rfl
def bA {α:Type}:List (R D)→(List D→R α)→R α
 | [],k=>k []
 | r::rs,k=>r.bind fun d=>bA rs fun ds=>k (d::ds)
def cGo (c:D→R Bool)(e:D→R D):List D→R (List D)
 | []=>.ok []
 | d::r=>match c d with
  | .ok true=>match e d with
   | .ok y=>match cGo c e r with
    | .ok ys=>.ok (y::ys)
    | _=>.stuck
   | _=>.stuck
  | .ok false=>cGo c e r
  | _=>.stuck
def cMap (e:D→R D)(xs:List D):R D:=(cGo (fun _=>.ok true) e xs).bind fun ys=>.ok (.lst ys)
def cFil (c:D→R Bool)(e:D→R D)(xs:List D):R D:=(cGo c e xs).bind fun ys=>.ok (.lst ys)
def un2 {α:Type}(d:D)(k:D→D→R α):R α:=match d with
 | .tup [a,b]=>k a b
 | _=>.stuck
def lUn2 {σ:Type}(d:D)(k:D→D→L σ):L σ:=match d with
 | .tup [a,b]=>k a b
 | _=>.stuck
def sq (d:D):R (List D):=(asSeq d).bind fun ds=>if ds.length≤16777216 then .ok ds else .stuck
def dInD (x y:D):R D:=match y with
 | .tup ds=>if good 60 x=true∧goods 60 ds=true then .ok (.bl (ds.any fun e=>eqD e x)) else .stuck
 | .lst ds=>if good 60 x=true∧goods 60 ds=true then .ok (.bl (ds.any fun e=>eqD e x)) else .stuck
 | _=>.stuck
def dNotInD (x y:D):R D:=(asB (dInD x y)).bind fun k=>.ok (.bl (!k))
def dList:List D→R D
 | [.lst xs]=>.ok (.lst xs)
 | [.tup xs]=>.ok (.lst xs)
 | _=>.stuck
def dLenSet:List D→R D
 | [.lst xs]=>match intsOf xs with
  | some is=>if is.length≤4000 then .ok (.int (is.eraseDups.length:Nat)) else .stuck
  | none=>.stuck
 | _=>.stuck
def enD:List D→Nat→List D
 | [],_=>[]
 | d::r,i=>.tup [.int (i:Int),d]::enD r (i+1)
def dEnum (d:D):R (List D):=(sq d).bind fun ds=>.ok (enD ds 0)
def dRev (d:D):R D:=match d with
 | .lst xs=>.ok (.lst xs.reverse)
 | .tup xs=>.ok (.tup xs.reverse)
 | _=>.stuck
def dMin2:List D→R D
 | [.int i,.int j]=>.ok (.int (if j < i then j else i))
 | _=>.stuck
def onF {α:Type}(fs:List Nat)(f:D)(k:Nat→R α):R α:=match f with
 | .fn i=>if fs.contains i=true then k i else .stuck
 | _=>.stuck
def onL {α:Type}(d:D)(k:List D→R α):R α:=match d with
 | .lst xs=>k xs
 | _=>.stuck
def onT {α:Type}(d:D)(k:List D→R α):R α:=match d with
 | .tup xs=>k xs
 | _=>.stuck
def dNeg (d:D):R D:=match d with
 | .int i=>.ok (.int (-i))
 | _=>.stuck
def asTup (d:D):R (List D):=match d with
 | .tup xs=>.ok xs
 | _=>.stuck
def oIx (ds:List D)(i:D):R D:=match i with
 | .int j=>match atI ds j with
  | some d=>.ok d
  | none=>.stuck
 | _=>.stuck
def oSt (ds:List D)(i v:D):R (List D):=match i with
 | .int j=>if 0≤j∧j < ds.length then .ok (ds.set j.toNat v) else .stuck
 | _=>.stuck
def oApp (ds:List D)(v:D):R (List D):=if ds.length < 16777216 then .ok (ds++[v]) else .stuck
def oExt (ds:List D)(v:D):R (List D):=match v with
 | .lst xs=>if ds.length+xs.length≤16777216 then .ok (ds++xs) else .stuck
 | .tup xs=>if ds.length+xs.length≤16777216 then .ok (ds++xs) else .stuck
 | _=>.stuck
def a0 (k:L Unit):List D→R D
 | []=>outL k
 | _=>.stuck
def a1 (k:D→L Unit):List D→R D
 | [a]=>outL (k a)
 | _=>.stuck
def a2 (k:D→D→L Unit):List D→R D
 | [a,b]=>outL (k a b)
 | _=>.stuck
def a3 (k:D→D→D→L Unit):List D→R D
 | [a,b,c]=>outL (k a b c)
 | _=>.stuck
def a4 (k:D→D→D→D→L Unit):List D→R D
 | [a,b,c,d]=>outL (k a b c d)
 | _=>.stuck
def a5 (k:D→D→D→D→D→L Unit):List D→R D
 | [a,b,c,d,e]=>outL (k a b c d e)
 | _=>.stuck
end FF
end
noncomputable section
namespace FF
open PySem PySem.Spec PyProof.Rows L2
section
variable {α τ σ W:Type}
def WL (F:Fx)(Z:Hp)(J:σ→SS→Prop)(l:L σ)(D:Ends):Prop:=match l with
 | .nx s=>∀ S ρ H Z',J s S→Same Z Z'→StOk F H Z' S ρ→D.nx ρ H
 | .rt d=>∀ v H Z',Ex F.H0 F.Z0 H Z'→Rep F.K F.C Z' d v→D.rt v H
 | .er k=>∀ H,Same F.H0 H→F.E (.ref (F.C k)) none H
 | .stuck=>False
theorem WL.more {F:Fx}{Z Z1:Hp}{J:σ→SS→Prop}{l:L σ}{D:Ends}(w:WL F Z J l D)(z:Same Z Z1):WL F Z1 J l D:=by
 cases l with
 | nx s=>exact fun S ρ H Z' j q=>w S ρ H Z' j (z.trans q)
 | rt d=>exact w
 | er k=>exact w
 | stuck=>exact w
def tL (F:Fx)(S:SS)(J:σ→SS→Prop)(l:L σ):TS:=fun D ρ H=>∃ Z,StOk F H Z S ρ∧WL F Z J l D
abbrev FL (X:Cx)(F:Fx)(S:SS)(sts:List Stmt)(J:σ→SS→Prop)(l:L σ):Prop:=PSs X sts (tL F S J l)
abbrev FL1 (X:Cx)(F:Fx)(S:SS)(st:Stmt)(J:σ→SS→Prop)(l:L σ):Prop:=PS X st (tL F S J l)
def JX (inj:τ→W→SS):τ→SS→Prop:=fun s S=>∃ w,S=inj s w
def JU:Unit→SS→Prop:=fun _ _=>True
abbrev vv (d:D):Option Sl:=some (.val d)
abbrev ow (ds:List D):Option Sl:=some (.own ds)
abbrev nn:Option Sl:=none
variable {X:Cx}{F:Fx}{S:SS}{st:Stmt}{rest:List Stmt}{J:σ→SS→Prop}{J1:τ→SS→Prop}
theorem bp {sts:List Stmt}{t:α→TS}(h:∀ a,PSs X sts (t a)):PSs X sts (fun D ρ H=>∃ a,t a D ρ H):=fun pins s ρ H D I ⟨a,w⟩=>h a pins s ρ H D I w
theorem WL.wg {D:Ends}{r:R α}{k:α→L σ}{H Z:Hp}{ρ:St}(ok:StOk F H Z S ρ)(w:WL F Z J (lB r k) D):WG F H Z r fun a _ Z'=>WL F Z' J (k a) D:=by
 cases r with
 | ok o=>exact fun _ _ x=>WL.more (l:=k o) w x.z
 | err k=>exact fun H' s=>w H' (ok.ex.same.trans s)
 | stuck=>exact w
theorem aD {s:σ}(h:J s S):FL X F S [] J (.nx s):=lU.weak fun D ρ H ⟨Z,ok,w⟩=>w S ρ H Z h (Same.refl _) ok
theorem ak {g:SS→O}{r:R α}{S':α→SS}{k:α→L σ}(h:FS X F st g)(hg:g S=rO (r.bind fun a=>.ok (.nx (S' a))))(hk:∀ a,FL X F (S' a) rest J (k a)):FL X F S (st::rest) J (lB r k) :=
 (a9 h (bp hk)).weak fun D ρ H ⟨Z,ok,w⟩=>⟨Z,S,ok,by
  rw[hg]
  cases r with
  | ok a=>exact fun ρ' H' Z' z ok'=>⟨a,Z',ok',WL.more (l:=k a) w z⟩
  | err k=>exact w
  | stuck=>exact w⟩
theorem bY {g:SS→O}{S':SS}{l:L σ}(h:FS X F st g)(hg:g S=.nx S')(hk:FL X F S' rest J l):FL X F S (st::rest) J l :=
 (a9 h hk).weak fun D ρ H ⟨Z,ok,w⟩=>⟨Z,S,ok,by rw[hg];exact fun ρ' H' Z' z ok'=>⟨Z',ok',WL.more w z⟩⟩
theorem av {g:SS→R D}{r:R D}(h:FS X F st (sRet g))(hr:g S=r):FL X F S (st::rest) J (lB r .rt) :=
 (a9 h eI).weak fun D ρ H ⟨Z,ok,w⟩=>⟨Z,S,ok,by
  unfold sRet
  rw[hr]
  cases r with
  | ok a=>exact w
  | err k=>exact w
  | stuck=>exact w⟩
theorem aJ {g:SS→R D}{v:D}(h:FS X F st (sRet g))(hr:g S=.ok v):FL X F S (st::rest) J (.rt v):=av (r:=.ok v) h hr
theorem j4 {g:SS→O}{k:Nat}(h:FS X F st g)(hg:g S=.er k):FL X F S (st::rest) J (.er k) :=
 (a9 h eI).weak fun D ρ H ⟨Z,ok,w⟩=>⟨Z,S,ok,by rw[hg];exact w⟩
theorem cK (i:Nat){ds:List D}{S':SS}{sts:List Stmt}{l:L σ}(hi:S[i]?=some (some (.own ds)))(hS:S.set i (some (.val (.lst ds)))=S')(h:FL X F S' sts J l):FL X F S sts J l :=
 h.weak fun D ρ H ⟨Z,ok,w⟩=>by
  obtain⟨Z',z,ok'⟩:=ok.freeze hi
  rw[hS]at ok'
  exact⟨Z',ok',WL.more w z⟩
theorem aM {c:Expr}{a b:List Stmt}{pos:Pos}{gt:SS→R Bool}{r:R Bool}{A B:L σ}(hc:FT X F c gt)(hr:gt S=r)(ha:FL X F S a J A)(hb:FL X F S b J B):FL1 X F S (.If c a b pos) J (lB r fun t=>if t=true then A else B) :=
 (sx hc ha hb).weak fun D ρ H ⟨Z,ok,w⟩=>gh (k:=fun t=>R.ok t) (P:=fun t _ Z'=>WL F Z' J (if t=true then A else B) D) ok (by
  rw[hr]
  have:=WL.wg ok w
  cases r<;>exact this) fun t H1 Z1 ok1 x1 w1=>by
  have w2:=WG.now w1 ok1.sub
  cases t with
  | true=>exact⟨Z1,ok1,w2⟩
  | false=>exact⟨Z1,ok1,w2⟩
theorem gS {l:L σ}(h:FL1 X F S st J l):FL X F S [st] J l:=fY h
theorem aN {l:L τ}{k:τ→L σ}{inj:τ→W→SS}(h:FL1 X F S st (JX inj) l)(hk:∀ s w,FL X F (inj s w) rest J (k s)):FL X F S (st::rest) J (lS l k) :=
 (a9 h (bp (fun s=>bp fun w=>hk s w))).weak fun D ρ H ⟨Z,ok,w⟩=>⟨Z,ok,by
  cases l with
  | nx s=>exact fun S' ρ' H' Z' ⟨x,e⟩ z ok'=>⟨s,x,Z',by rw[← e];exact ok',WL.more (l:=k s) w z⟩
  | rt d=>exact w
  | er k=>exact w
  | stuck=>exact w⟩
end
section
variable {σ τ W:Type}{X:Cx}{F:Fx}{S:SS}{tg iter:Expr}{body:List Stmt}{pos:Pos}{git:SS→R (List D)}{g:D→SS→R SS}{inj:τ→W→SS}{step:τ→D→L τ}
theorem j5 {r:R (List D)}{s0:τ}(w0:W)(hp:PassesOwn (model X.prog X.w) X.A X.env X.xe)(hc:X.calm=true)(hi:FI X F tg iter git)(hr:git S=r)(hg:FG X F tg g)
  (hb:∀ s w x S1,g x (inj s w)=.ok S1→FL X F S1 body (JX inj) (step s x)) (hno:∀ s w x k,g x (inj s w)≠.err k) (hst:∀ s w x,g x (inj s w)=.stuck→step s x=.stuck)
  (hS:S=inj s0 w0) (hs:∀ x,foldedSetIterable iter X.env x=pure x:=by intro _;rfl):FL1 X F S (.For tg iter body [] pos) (JX inj) (lB r fun xs=>lFor step xs s0):=by
 have hbb:PSs X body (fun D ρ H=>∃ (q:τ×W×FF.D×SS) (_:g q.2.2.1 (inj q.1 q.2.1)=.ok q.2.2.2),tL F q.2.2.2 (JX inj) (step q.1 q.2.2.1) D ρ H):=fun pins s ρ H D I ⟨q,e,w⟩=>hb q.1 q.2.1 q.2.2.1 q.2.2.2 e pins s ρ H D I w
 refine(oK hp hc hi hg hbb hs).weak fun D ρ H ⟨Z,ok,w⟩=>?_
 refine⟨Z,S,ok,?_⟩
 have w00:=WL.wg ok w
 rw[hr]
 cases r with
 | err k=>exact w00
 | stuck=>exact w00
 | ok ds =>
  intro H1 Z1 x1
  have w1:WL F Z1 (JX inj) (lFor step ds s0) D:=w00 H1 Z1 x1
  intro J wk _
  refine⟨fun i m ρ H=>m=ds.length - i∧i≤ds.length∧∃ Z2 s w,StOk F H Z2 (inj s w) ρ∧Same Z1 Z2∧WL F Z2 (JX inj) (lFor step (ds.drop i) s) D,⟨ds.length,rfl,Nat.zero_le _,Z1,s0,w0,by rw[← hS];exact ok.more x1,Same.refl _,w1⟩,?_⟩
  rintro i m ρ2 H2 ⟨rfl,hle,Z2,s,w2,ok2,z2,wl2⟩
  obtain⟨k1,k2⟩:=wk i H2 Z2 z2 ok2.sub
  by_cases hlt:i < ds.length
  ·obtain⟨go,y⟩:=k1 hlt
   refine .inr ⟨go,fun ρ' H'=>∃ Z3 s3 w3,StOk F H' Z3 (inj s3 w3) ρ'∧Same Z1 Z3∧WL F Z3 (JX inj) (lFor step (ds.drop (i+1)) s3) D,fun ρ' H' ⟨Z3,s3,w3,q⟩=>⟨ds.length - (i+1),by omega,rfl,hlt,Z3,s3,w3,q⟩,fun x H' hy=>?_⟩
   obtain⟨Z2',d,x',e3,rd⟩:=y x H' hy
   have ok2:=ok2.more x'
   have hd:ds.drop i=d::ds.drop (i+1):=by
    obtain⟨hi,e4⟩:=List.getElem?_eq_some_iff.mp e3
    rw[List.drop_eq_getElem_cons hi,e4]
   rw[hd,ny]at wl2
   refine⟨Z2',inj s w2,d,ok2,rd,?_⟩
   cases q:g d (inj s w2) with
   | err k=>exact absurd q (hno s w2 d k)
   | stuck=>rw[hst s w2 d q]at wl2;exact wl2
   | ok S1 =>
    intro H4 Z4 x4 ρ4 ok4
    refine⟨⟨s,w2,d,S1⟩,q,Z4,ok4,?_⟩
    have z14:Same Z1 Z4:=(z2.trans x'.z).trans x4.z
    cases qb:step s d with
    | nx s5 =>
     rw[qb]at wl2
     exact fun S5 ρ5 H5 Z5 ⟨w5,e5⟩ z5 ok5=>⟨Z5,s5,w5,by rw[← e5];exact ok5,z14.trans z5,WL.more (l:=lFor step (ds.drop (i+1)) s5) wl2 ((x'.z.trans x4.z).trans z5)⟩
    | rt d=>rw[qb]at wl2;exact wl2
    | er k=>rw[qb]at wl2;exact wl2
    | stuck=>rw[qb]at wl2;exact wl2
  ·refine .inl ⟨k2 (by omega),?_⟩
   rw[List.drop_eq_nil_of_le (by omega)]at wl2
   exact wl2 (inj s w2) ρ2 H2 Z2 ⟨w2,rfl⟩ (Same.refl _) ok2
theorem gm (i:Nat){r:R (List D)}{s0:τ}{B:τ→W→D→SS}(w0:W)(hp:PassesOwn (model X.prog X.w) X.A X.env X.xe)(hc:X.calm=true)(hi:FI X F tg iter git)(hr:git S=r)(hg:FG X F tg (gNm i))
  (hS:S=inj s0 w0) (hB:∀ s w x,(inj s w).set i (some (.val x))=B s w x) (hb:∀ s w x,FL X F (B s w x) body (JX inj) (step s x))
  (hs:∀ x,foldedSetIterable iter X.env x=pure x:=by intro _;rfl):FL1 X F S (.For tg iter body [] pos) (JX inj) (lB r fun xs=>lFor step xs s0) :=
 j5 w0 hp hc hi hr hg (fun s w x S1 e=>by cases e;rw[hB];exact hb s w x) (fun s w x k e=>nomatch e) (fun s w x e=>nomatch e) hS hs
theorem pE (i j:Nat){r:R (List D)}{s0:τ}{B:τ→W→D→D→SS}{step:τ→D→D→L τ}(w0:W)(hp:PassesOwn (model X.prog X.w) X.A X.env X.xe)(hc:X.calm=true)(hi:FI X F tg iter git)(hr:git S=r)(hg:FG X F tg (gTup [i,j]))
  (hS:S=inj s0 w0) (hB:∀ s w x y,((inj s w).set i (some (.val x))).set j (some (.val y))=B s w x y) (hb:∀ s w x y,FL X F (B s w x y) body (JX inj) (step s x y))
  (hs:∀ x,foldedSetIterable iter X.env x=pure x:=by intro _;rfl):FL1 X F S (.For tg iter body [] pos) (JX inj) (lB r fun xs=>lFor (fun s p=>lUn2 p fun x y=>step s x y) xs s0):=by
 have two:∀ (p:D) (S0:SS),(∃ x y,p=.tup [x,y]∧gTup [i,j] p S0=.ok ((S0.set i (some (.val x))).set j (some (.val y))))∨(gTup [i,j] p S0=.stuck∧∀ (k:D→D→L τ),lUn2 p k=.stuck):=fun p S0=>by
  cases p with
  | tup ds =>
   match ds with
   | []=>exact .inr ⟨rfl,fun _=>rfl⟩
   | [_]=>exact .inr ⟨rfl,fun _=>rfl⟩
   | [x,y]=>exact .inl ⟨x,y,rfl,rfl⟩
   | _::_::_::_=>exact .inr ⟨by unfold gTup;simp,fun _=>rfl⟩
  | _=>exact .inr ⟨rfl,fun _=>rfl⟩
 refine j5 w0 hp hc hi hr hg (fun s w p S1 e=>?_) (fun s w p k e=>?_) (fun s w p e=>?_) hS hs
 ·rcases two p (inj s w) with ⟨x,y,rfl,q⟩ | ⟨q,_⟩
  ·rw[q]at e
   cases e
   rw[hB]
   exact hb s w x y
  ·rw[q]at e;cases e
 ·rcases two p (inj s w) with ⟨x,y,rfl,q⟩ | ⟨q,_⟩<;>rw[q]at e<;>cases e
 ·rcases two p (inj s w) with ⟨x,y,rfl,q⟩ | ⟨_,q⟩
  ·rw[q]at e;cases e
  ·exact q _
end
section
variable {σ τ W:Type}{X:Cx}{F:Fx}{S:SS}{rest:List Stmt}{J:σ→SS→Prop}{k:Nat}
end
section
variable {σ τ W:Type}{S:SS}{X:Cx}{F:Fx}{body:List Stmt}{g:SS→O}{c n y:Str}{np np2 kp apos hpos pos:Pos}{k:Nat}{q:Nat→Bool}{C0:Addr}
end
section
variable {σ τ W:Type}{X:Cx}{F:Fx}{S:SS}{rest:List Stmt}{J:σ→SS→Prop}
end
section
variable {X:Cx}{F:Fx}{e:Expr}{es:List Expr}{g g':SS→R D}{gs:List (SS→R D)}{k:Nat}{f:List D→R D}{pos:Pos}
theorem cj (h:FE X F e g)(hg:∀ S,g S=g' S):FE X F e g':=by
 have:g=g':=funext hg
 rw[← this];exact h
theorem gn {st:Stmt}{g g':SS→O}(h:FS X F st g)(hg:∀ S,g S=g' S):FS X F st g':=by
 have:g=g':=funext hg
 rw[← this];exact h
def aL:List (SS→R D)→SS→R (List D)
 | []=>aNil
 | g::gs=>aCons g (aL gs)
def eBA {α:Type}(f:List D→R α)(gs:List (SS→R D)):SS→R α:=fun S=>bA (gs.map fun g=>g S) f
theorem aY {α β:Type}{r:R α}{f f':α→R β}(h:∀ a,f a=f' a):r.bind f=r.bind f':=by cases r<;>first | exact h _ | rfl
theorem bu {α:Type}(S:SS):∀ (gs:List (SS→R D)) (f:List D→R α),(aL gs S).bind f=eBA f gs S
 | [],f=>rfl
 | g::gs,f=>by
  show ((g S).bind fun d=>(aL gs S).bind fun ds=>R.ok (d::ds)).bind f=(g S).bind fun d=>bA (gs.map fun g=>g S) fun ds=>f (d::ds)
  rw[R.bind_assoc]
  refine aY fun d=>?_
  rw[R.bind_assoc]
  exact bu S gs fun ds=>f (d::ds)
theorem eW {S:SS}:∀ {gs:List (SS→R D)} {ds:List D},aL gs S=.ok ds→ds.length=gs.length
 | [],ds,h=>by cases h;rfl
 | g::gs,ds,h=>m7 (n:=gs.length) (fun S' ds' h'=>by
   by_cases q:S'=S
   ·subst q;exact eW h'
   ·exact eW (S:=S') h') S ds h
structure FAL (X:Cx)(F:Fx)(es:List Expr)(gs:List (SS→R D)):Prop where
 out:FA X F es (aL gs)
theorem ad:FAL X F [] []:=⟨tO⟩
theorem aa (ha:FE X F e g)(hr:FAL X F es gs)(hs:starEach (e::es) X.env=(false,eval e X.env)::starEach es X.env:=by rfl):FAL X F (e::es) (g::gs):=⟨qS ha hr.out hs⟩
theorem fe_N (h:FE X F e (eCall f (aL gs))):FE X F e (eBA f gs):=cj h fun S=>bu S gs f
theorem af {x:Str}{p:Pos}{ps:List Str}(b:BX X F k)(h:Fn1 X.prog X.w F.K X.mg X.base F.C k x ps f)(hg:Gl X x)(ha:FAL X F (e::es) gs)(hn:gs.length=ps.length:=by rfl)(hdb:(x==("__debug__":Str))=false:=by decide)
  (he:starEach (e::es) X.env=(false,eval e X.env)::starEach es X.env:=by rfl) (hpl:(backTo pos (starEach es X.env)).any (·.1)=false:=by rfl):FE X F (.Call (.Name x p) (e::es) [] pos) (eBA f gs) :=
 fe_N (rh b h hg ha.out (fun S ds q=>(eW q).trans hn) hdb he hpl)
theorem aO {x1}(h:FAL X F es gs)(hl:gs.length≤16777216:=by exact Nat.le_of_ble_eq_true rfl):FE X F (.Tuple es x1 pos) (eBA (fun ds=>.ok (.tup ds)) gs) :=
 cj (tQ h.out) fun S=>by
  rw[← bu]
  show (aL gs S).bind _=_
  cases q:aL gs S with
  | ok ds=>show (if ds.length≤16777216 then R.ok (FF.D.tup ds) else R.stuck)=_;rw[if_pos (by rw[eW q];exact hl)];rfl
  | err k=>rfl
  | stuck=>rfl
theorem aQ (h:FAL X F es gs)(hl:gs.length≤16777216:=by exact Nat.le_of_ble_eq_true rfl):FE X F (.List es pos) (eBA (fun ds=>.ok (.lst ds)) gs) :=
 cj (tR h.out) fun S=>by
  rw[← bu]
  show (aL gs S).bind _=_
  cases q:aL gs S with
  | ok ds=>show (if ds.length≤16777216 then R.ok (FF.D.lst ds) else R.stuck)=_;rw[if_pos (by rw[eW q];exact hl)];rfl
  | err k=>rfl
  | stuck=>rfl
end
section
variable {X:Cx}{F:Fx}{k:Nat}{e f:Expr}{es:List Expr}{p pos:Pos}{x:Str}
theorem uW {i:Nat}(hm:X.mg x=some (.ref (F.C i)))(hg:Gl X x)(hd:(x==("__debug__":Str))=false:=by decide):FE X F (.Name x pos) (eC (.fn i)) :=
 b9 (az (v:=.ref (F.C i)) hg hm rfl hd) fun _=>by rw[Rep]
theorem pF {CX:CXT}{E:XK}{tf:TE}{t:TA}(hf:PE X f tf)(hr:Room k X.A)(hx:Passes CX X E)(ha:PA X (e::es) t)
  (hev:eval (.Call f (e::es) [] pos) X.env=(do callWith pos (← eval f X.env) [] (backTo pos (starEach (e::es) X.env)) (backToKw pos (keywordEach [] X.env))):=by rfl)
  (he:starEach (e::es) X.env=(false,eval e X.env)::starEach es X.env:=by rfl) (hpl:(backTo pos (starEach es X.env)).any (·.1)=false:=by rfl) :
  PE X (.Call f (e::es) [] pos) (fun σ H Q=>tf σ H fun v H1=>∃ a fd ps sp,v=.ref a∧FnOk X.prog X.w X.K X.mg X.base CX k a fd ps sp∧PySem.W.keepIn X.K (.ref a)=true∧Binds X.K fd ps []∧t σ H1 fun vs H2=>sp (vs++[]) H2 Q E):=by
 intro pins s σ H Q I h
 rw[hev]
 refine wpAny_bind (thn (hf pins s σ H _ I h) fun u s1 ⟨v,H1,I1,r,a,fd,ps,sp,ev,FO,hk,hb,q⟩=>?_)
 subst ev
 cases r
 refine PySem.W.callWith_K (h₀:=X.base) I1.ok.mod.kin hk (thn (ha pos pins s1 σ H1 _ I1 q) fun us s2 ⟨vs,H2,I2,r2,q2⟩=>⟨I2.kIn,?_⟩) he hpl
 exact oO FO hr hb .nil hx I2 r2 q2
structure FnV (P:Program)(w:World)(K:PySem.W.Frag)(mg:Str→Option Value)(base:Heap)(C:Nat→Addr)(k:Nat)(i:Nat)(f:List D→R D):Prop where
 ex:∃ fd ps,FnOk P w K mg base (CXE P w) k (C i) fd ps (spF K C ps.length f)∧PySem.W.keepIn K (.ref (C i))=true∧Binds K fd ps []∧∀ ds,ds.length≠ps.length→f ds=.stuck
def eCV (fs:List Nat)(t:Nat→List D→R D)(gf:SS→R D)(gs:List (SS→R D)):SS→R D:=fun S=>(gf S).bind fun f=>onF fs f fun i=>bA (gs.map fun g=>g S) (t i)
theorem pG {fs:List Nat}{t:Nat→List D→R D}{gf:SS→R D}{gs:List (SS→R D)}(b:BX X F k)(hT:∀ i∈fs,FnV X.prog X.w F.K X.mg X.base F.C k i (t i))(hf:FE X F f gf)(ha:FAL X F (e::es) gs)
  (hev:eval (.Call f (e::es) [] pos) X.env=(do callWith pos (← eval f X.env) [] (backTo pos (starEach (e::es) X.env)) (backToKw pos (keywordEach [] X.env))):=by rfl)
  (he:starEach (e::es) X.env=(false,eval e X.env)::starEach es X.env:=by rfl) (hpl:(backTo pos (starEach es X.env)).any (·.1)=false:=by rfl) :
  FE X F (.Call f (e::es) [] pos) (eCV fs t gf gs) :=
 (pF hf b.room b.pass ha.out hev he hpl).weak fun σ H Q ⟨Z,S,ok,w⟩=>by
  refine aB ok w fun d v H1 Z1 ok1 x1 rv w1=>?_
  cases d with
  | fn i =>
   by_cases hi:fs.contains i=true
   ·rw[Rep]at rv
    obtain⟨fd,ps,h1,h2,h3,h4⟩:=(hT i (by simpa using hi)).ex
    refine⟨F.C i,fd,ps,_,rv,by rw[b.K];exact h1,by rw[b.K];exact h2,by rw[b.K];exact h3,?_⟩
    have e0:onF fs (.fn i) (fun i=>bA (gs.map fun g=>g S) (t i))=(aL gs S).bind (t i):=by
     rw[bu]
     show (if fs.contains i=true then _ else R.stuck)=_
     rw[if_pos hi];rfl
    rw[e0]at w1
    refine aS ok1 w1 fun ds vs H2 Z2 ok2 x2 rs w4=>?_
    by_cases hl:ds.length=ps.length
    ·refine⟨by rw[List.append_nil,← rs.length];exact hl,Z2,ds,ok2.sub,by rw[List.append_nil];exact rs,?_⟩
     cases q:t i ds with
     | ok d=>rw[q]at w4;exact w4
     | err k=>rw[q]at w4;exact w4
     | stuck=>rw[q]at w4;exact w4
    ·rw[h4 ds hl]at w4;exact w4.elim
   ·have e0:onF fs (.fn i) (fun i=>bA (gs.map fun g=>g S) (t i))=.stuck:=by
     show (if fs.contains i=true then _ else R.stuck)=_
     rw[if_neg hi]
    rw[e0]at w1
    exact w1.elim
  | _=>exact w1.elim
end
theorem j6 {S:SS}{g:D→SS→R SS}{c:SS→R Bool}{e:SS→R D}:∀ ds,noErr (compGo S g c e ds)=cGo (fun d=>(g d S).bind c) (fun d=>(g d S).bind e) ds
 | []=>rfl
 | d::r=>by
  have ih:=j6 (S:=S) (g:=g) (c:=c) (e:=e) r
  rw[cGo,compGo]
  cases q:g d S with
  | err k=>rfl
  | stuck=>rfl
  | ok S1 =>
   show noErr ((c S1).bind fun t=>if t=true then (e S1).bind fun y=>(compGo S g c e r).bind fun ys=>.ok (y::ys) else compGo S g c e r)=(match c S1 with
    | .ok true=>match e S1 with
     | .ok y=>match cGo _ _ r with
      | .ok ys=>.ok (y::ys)
      | _=>.stuck
     | _=>.stuck
    | .ok false=>cGo _ _ r
    | _=>.stuck)
   cases qc:c S1 with
   | err k=>rfl
   | stuck=>rfl
   | ok t =>
    cases t with
    | false=>exact ih
    | true =>
     show noErr ((e S1).bind fun y=>(compGo S g c e r).bind fun ys=>.ok (y::ys))=(match e S1 with
      | .ok y=>match cGo _ _ r with
       | .ok ys=>.ok (y::ys)
       | _=>.stuck
      | _=>.stuck)
     cases qe:e S1 with
     | err k=>rfl
     | stuck=>rfl
     | ok y =>
      rw[← ih]
      show noErr ((compGo S g c e r).bind fun ys=>.ok (y::ys))=(match noErr (compGo S g c e r) with
       | .ok ys=>.ok (y::ys)
       | _=>.stuck)
      cases compGo S g c e r<;>rfl
def eCC (own:Nat)(cap:List Nat)(it:SS→R (List D))(g:D→SS→R SS)(c:SS→R Bool)(e:SS→R D):SS→R D:=fun S=>(it S).bind fun ds=>(cGo (fun d=>(g d (blkS own cap S)).bind c) (fun d=>(g d (blkS own cap S)).bind e) ds).bind fun ys=>.ok (.lst ys)
theorem j7 {own:Nat}{cap:List Nat}{it:SS→R (List D)}{g:D→SS→R SS}{c:SS→R Bool}{e:SS→R D}(S:SS):eComp own cap it g c e S=eCC own cap it g c e S:=by
 unfold eComp eCC
 exact aY fun ds=>by rw[j6]
def eC2 (own:Nat)(cap:List Nat)(it:SS→R (List D))(i j:Nat)(c:SS→R Bool)(e:SS→R D):SS→R D:=fun S=>(it S).bind fun ds =>
 (cGo (fun d=>un2 d fun x y=>c (((blkS own cap S).set i (some (.val x))).set j (some (.val y)))) (fun d=>un2 d fun x y=>e (((blkS own cap S).set i (some (.val x))).set j (some (.val y)))) ds).bind fun ys=>.ok (.lst ys)
theorem j8 {α:Type}{i j:Nat}{S:SS}{f:SS→R α}(d:D):(gTup [i,j] d S).bind f=un2 d fun x y=>f ((S.set i (some (.val x))).set j (some (.val y))):=by
 cases d with
 | tup ds =>
  match ds with
  | []=>rfl
  | [_]=>rfl
  | [x,y]=>rfl
  | _::_::_::_=>unfold gTup un2;simp
 | _=>rfl
theorem rE {own:Nat}{cap:List Nat}{it:SS→R (List D)}{i j:Nat}{c:SS→R Bool}{e:SS→R D}(S:SS):eCC own cap it (gTup [i,j]) c e S=eC2 own cap it i j c e S:=by
 unfold eCC eC2
 exact aY fun ds=>by rw[show (fun d=>(gTup [i,j] d (blkS own cap S)).bind c)=_ from funext fun d=>j8 d,show (fun d=>(gTup [i,j] d (blkS own cap S)).bind e)=_ from funext fun d=>j8 d]
theorem fe_C {X:Cx}{F:Fx}{e:Expr}{own:Nat}{cap:List Nat}{it:SS→R (List D)}{g:D→SS→R SS}{c:SS→R Bool}{el:SS→R D}(h:FE X F e (eComp own cap it g c el)):FE X F e (eCC own cap it g c el):=cj h j7
theorem uX {X:Cx}{F:Fx}{e:Expr}{own:Nat}{cap:List Nat}{it:SS→R (List D)}{i j:Nat}{c:SS→R Bool}{el:SS→R D}(h:FE X F e (eComp own cap it (gTup [i,j]) c el)):FE X F e (eC2 own cap it i j c el):=cj h fun S=>(j7 S).trans (rE S)
section
variable {X:Cx}{F:Fx}{st:Stmt}{i:Nat}{g:SS→R D}
def sAppC (i:Nat)(g:SS→R D):SS→O:=fun S=>match S[i]? with
 | some (some (.own ds))=>rO (((g S).bind fun v=>oApp ds v).bind fun ds'=>.ok (.nx (S.set i (some (.own ds')))))
 | _=>.stuck
theorem gT {α:Type}(r:R D)(f:List D→R α):((r.bind fun d=>(R.ok []:R (List D)).bind fun ds=>R.ok (d::ds)).bind f)=r.bind fun d=>f [d]:=by cases r<;>rfl
theorem fs_A (h:FS X F st (sApp i (aL [g]))):FS X F st (sAppC i g):=gn h fun S=>by
 unfold sApp sAppC
 cases q:S[i]? with
 | none=>rfl
 | some o =>
  cases o with
  | none=>rfl
  | some x =>
   cases x with
   | val d=>rfl
   | mat m=>rfl
   | dic m=>rfl
   | dit m=>rfl
   | own ds =>
    show rO (((g S).bind fun d=>(R.ok []:R (List D)).bind fun ds=>R.ok (d::ds)).bind _)=rO _
    rw[gT,R.bind_assoc]
    refine congrArg rO (aY fun v=>?_)
    unfold oApp
    show (if _ then _ else _)=_
    split<;>rfl
def sExtC (i:Nat)(g:SS→R D):SS→O:=fun S=>match S[i]? with
 | some (some (.own ds))=>rO (((g S).bind fun v=>oExt ds v).bind fun ds'=>.ok (.nx (S.set i (some (.own ds')))))
 | _=>.stuck
theorem fs_X (h:FS X F st (sExt i (aL [g]))):FS X F st (sExtC i g):=gn h fun S=>by
 unfold sExt sExtC
 cases q:S[i]? with
 | none=>rfl
 | some o =>
  cases o with
  | none=>rfl
  | some x =>
   cases x with
   | val d=>rfl
   | mat m=>rfl
   | dic m=>rfl
   | dit m=>rfl
   | own ds =>
    show rO (((g S).bind fun d=>(R.ok []:R (List D)).bind fun ds=>R.ok (d::ds)).bind _)=rO _
    rw[gT,R.bind_assoc]
    refine congrArg rO (aY fun v=>?_)
    unfold oExt
    cases v with
    | lst xs=>by_cases hl:ds.length+xs.length≤16777216<;>simp[hl]
    | tup xs=>by_cases hl:ds.length+xs.length≤16777216<;>simp[hl]
    | _=>rfl
def sOwnC (i:Nat)(gs:List (SS→R D)):SS→O:=fun S=>rO ((eBA .ok gs S).bind fun ds=>.ok (.nx (S.set i (some (.own ds)))))
theorem fs_O {gs:List (SS→R D)}(h:FS X F st (sOwn i (aL gs)))(hl:gs.length≤16777216:=by exact Nat.le_of_ble_eq_true rfl):FS X F st (sOwnC i gs):=gn h fun S=>by
 unfold sOwn sOwnC
 rw[← bu,R.bind_assoc]
 refine congrArg rO ?_
 cases q:aL gs S with
 | ok ds=>show (if ds.length≤16777216 then _ else _)=_;rw[if_pos (by rw[eW q];exact hl)];rfl
 | err k=>rfl
 | stuck=>rfl
def sOwnOfC (i:Nat)(g:SS→R D):SS→O:=fun S=>rO (((g S).bind asTup).bind fun ds=>.ok (.nx (S.set i (some (.own ds)))))
theorem uY (h:FS X F st (sOwnOf i (aL [g]))):FS X F st (sOwnOfC i g):=gn h fun S=>by
 unfold sOwnOf sOwnOfC
 show rO (((g S).bind fun d=>(R.ok []:R (List D)).bind fun ds=>R.ok (d::ds)).bind _)=_
 rw[gT,R.bind_assoc]
 refine congrArg rO (aY fun v=>?_)
 cases v<;>rfl
end
section
variable {X:Cx}{F:Fx}{e tg:Expr}{g ga:SS→R D}{f:List D→List D→R D}{gs:List (SS→R D)}
def eML (f:List D→List D→R D)(g:SS→R D)(gs:List (SS→R D)):SS→R D:=fun S=>(g S).bind fun d=>onL d fun xs=>bA (gs.map fun g=>g S) (f xs)
theorem mj (h:FE X F e (eMethL f g (aL gs))):FE X F e (eML f g gs):=cj h fun S=>by
 unfold eMethL eML
 refine aY fun d=>?_
 cases d with
 | lst xs=>exact bu S gs (f xs)
 | _=>rfl
def eMT (f:List D→List D→R D)(g:SS→R D)(gs:List (SS→R D)):SS→R D:=fun S=>(g S).bind fun d=>onT d fun xs=>bA (gs.map fun g=>g S) (f xs)
theorem uZ (h:FE X F e (eMethT f g (aL gs))):FE X F e (eMT f g gs):=cj h fun S=>by
 unfold eMethT eMT
 refine aY fun d=>?_
 cases d with
 | tup xs=>exact bu S gs (f xs)
 | _=>rfl
theorem ml {g g':SS→R (List D)}(h:FI X F tg e g)(hg:∀ S,g S=g' S):FI X F tg e g':=by
 have:g=g':=funext hg
 rw[← this];exact h
theorem mm (h:FI X F tg e (iRange1 (aL gs))):FI X F tg e (eBA rng1 gs):=ml h fun S=>bu S gs rng1
theorem sI (h:FI X F tg e (iRange2 (aL gs))):FI X F tg e (eBA rng2 gs):=ml h fun S=>bu S gs rng2
end
theorem u0 {k:D→L Unit}{ds:List D}(h:ds.length≠1):a1 k ds=.stuck:=by
 match ds,h with
 | [],_=>rfl
 | [_],h=>exact absurd rfl h
 | _::_::_,_=>rfl
section
variable {σ:Type}{X:Cx}{F:Fx}{S:SS}{st:Stmt}{rest:List Stmt}{J:σ→SS→Prop}
end
section
variable {P:Program}{w:World}{K:PySem.W.Frag}{mg:Str→Option Value}{base:Heap}
theorem rF {x qual:Str}{st:Stmt}{f:Addr}{fd:FuncData}{N ps:List Str}{k:Nat}{C:Nat→Addr}{fn:List D→R D}(F:Fun K x qual st f fd)(S:FnScope N ps (defScope st))
  (h:∀ (cdv:Value) (A:Around) (outer:List Env) (s:Shared) (H Z:Hp) (E:XK),BX (bodyX P w K mg base N qual (defScope st) f cdv A outer s H E) ⟨K,C,H,Z,E⟩ k →
   PassesOwn (model P w) (bodyX P w K mg base N qual (defScope st) f cdv A outer s H E).A (bodyX P w K mg base N qual (defScope st) f cdv A outer s H E).env (bodyX P w K mg base N qual (defScope st) f cdv A outer s H E).xe →
   MadeX (bodyX P w K mg base N qual (defScope st) f cdv A outer s H E) ⟨K,C,H,Z,E⟩ →
   ∀ ds,ds.length=ps.length→∃ l:L Unit,fn ds=outL l∧FL (bodyX P w K mg base N qual (defScope st) f cdv A outer s H E) ⟨K,C,H,Z,E⟩ (startS N.length ds) (defBody st) JU l) :
  FnOk P w K mg base (CXE P w) (k+1) f fd ps (spF K C ps.length fn):=by
 obtain⟨oc,od,kV,doc,pm,an,cdv,ct,osl,rfl,lk,hcd⟩:=F.ex
 refine oP lk hcd S (fun vs H Q E q=>q.1) fun A outer s H vs Q E hr hsp=>?_
 obtain⟨hv,Z,ds,z,r,w⟩:=hsp
 obtain⟨l,e,hl⟩:=h cdv A outer s H Z E ⟨hr,rfl,rfl,cY⟩ PassesOwn.leaving (fun pins σ H1 s1 h1 ea C1 args I hx hE=>eS I hx hE) ds (by rw[r.length];exact hv)
 refine⟨_,hl,Z,dP (F:=⟨K,C,H,Z,E⟩) (N:=N) z r,?_⟩
 rw[e]at w
 cases l with
 | nx u=>exact fun S' ρ' H' Z' _ _ ok=>w H' Z' ok.ex .non (by rw[Rep])
 | rt d=>exact fun v H' Z' x rv=>w H' Z' x v rv
 | er k=>exact w
 | stuck=>exact w
end
theorem len1 {ds:List D}(h:ds.length=1):∃ a,ds=[a]:=by
 match ds,h with
 | [a],_=>exact⟨a,rfl⟩
theorem len2 {ds:List D}(h:ds.length=2):∃ a b,ds=[a,b]:=by
 match ds,h with
 | [a,b],_=>exact⟨a,b,rfl⟩
theorem len3 {ds:List D}(h:ds.length=3):∃ a b c,ds=[a,b,c]:=by
 match ds,h with
 | [a,b,c],_=>exact⟨a,b,c,rfl⟩
theorem len4 {ds:List D}(h:ds.length=4):∃ a b c d,ds=[a,b,c,d]:=by
 match ds,h with
 | [a,b,c,d],_=>exact⟨a,b,c,d,rfl⟩
theorem len5 {ds:List D}(h:ds.length=5):∃ a b c d e,ds=[a,b,c,d,e]:=by
 match ds,h with
 | [a,b,c,d,e],_=>exact⟨a,b,c,d,e,rfl⟩
section
variable {X:Cx}{F:Fx}{st:Stmt}{i:Nat}{g ge:SS→R D}
theorem pH {g g':SS→O}(h:FS X F st g)(hg:∀ S,g' S=.stuck∨g S=g' S):FS X F st g':=h.weak fun D σ H ⟨Z,S,ok,w⟩=>⟨Z,S,ok,by
 rcases hg S with e | e
 ·rw[e]at w;exact w.elim
 ·rw[e];exact w⟩
def sStoC (i:Nat)(gi ge:SS→R D):SS→O:=fun S=>match S[i]? with
 | some (some (.own ds))=>rO (((ge S).bind fun v=>(gi S).bind fun k=>oSt ds k v).bind fun ds'=>.ok (.nx (S.set i (some (.own ds')))))
 | _=>.stuck
theorem fs_S (h:FS X F st (sStore i g ge)):FS X F st (sStoC i g ge):=pH h fun S=>by
 unfold sStore sStoC
 cases q:S[i]? with
 | none=>exact .inl rfl
 | some o =>
  cases o with
  | none=>exact .inl rfl
  | some x =>
   cases x with
   | val d=>exact .inl rfl
   | mat m=>exact .inl rfl
   | dic m=>exact .inl rfl
   | dit m=>exact .inl rfl
   | own ds =>
    refine .inr ?_
    show rO ((ge S).bind fun d=>(g S).bind fun k=>_)=rO _
    rw[R.bind_assoc]
    refine congrArg rO (aY fun v=>?_)
    rw[R.bind_assoc]
    refine aY fun k=>?_
    cases k with
    | int j =>
     show (if 0≤j∧j < ds.length then R.ok _ else R.stuck)=(if 0≤j∧j < ds.length then R.ok _ else R.stuck).bind _
     by_cases hj:0≤j∧j < ds.length
     ·rw[if_pos hj,if_pos hj];rfl
     ·rw[if_neg hj,if_neg hj];rfl
    | _=>rfl
end
theorem pI {v v':V}{u:Value}(h:RelV v u)(h':RelV v' u):v=v':=by
 cases v<;>cases v'<;>simp only[L2.RelV]at h h'<;>first
  | rfl
  | (subst h;cases h';rfl)
  | (subst h;cases h';done)
  | (obtain⟨t,rfl⟩:=h;obtain⟨t',e⟩:=h';cases e;rfl)
  | (obtain⟨t,rfl⟩:=h;obtain⟨t',e⟩:=h';cases e;done)
  | (obtain⟨t,rfl⟩:=h;cases h';done)
  | (subst h;obtain⟨t',e⟩:=h';cases e;done)
section
variable {X:Cx}{F:Fx}{pins:List (Addr×Obj)}{σ:St}{H Z:Hp}{s:Shared}
open Classical in
noncomputable def itemB (P:Value→Prop) (u:Value):Bool:=if P u then true else false
theorem dR {K:PySem.W.Frag}{C:Nat→Addr}{n:Nat}{dx:D}{vx:V}{x:Value}(hK:X.K=K)(I:Inv X pins σ H s)(z:Same Z H)(gx:good n dx=true)(rx:Rep K C Z dx vx)(hx:RelV vx x){A:Around}(hu:A.units+n < cLine)(ds:List D)(hg:goods n ds=true){vs:List V}{us:List Value}(rs:Reps K C Z ds vs)(hv:Vals vs us) :
  ∃ e:Value→Bool,(∀ u∈us,SeqAt.EqAt A s u x (e u))∧us.any e=ds.any fun d=>eqD d dx:=by
 refine⟨itemB fun u=>∃ d v,good n d=true∧Rep K C Z d v∧RelV v u∧eqD d dx=true,?_⟩
 have key:∀ (d:D) (v:V) (u:Value),good n d=true→Rep K C Z d v→RelV v u→itemB (fun u=>∃ d v,good n d=true∧Rep K C Z d v∧RelV v u∧eqD d dx=true) u=eqD d dx:=fun d v u gd rd hd=>by
  unfold itemB
  by_cases h:eqD d dx=true
  ·rw[if_pos ⟨d,v,gd,rd,hd,h⟩,h]
  ·rw[if_neg,(by simpa using h:eqD d dx=false)]
   rintro ⟨d',v',g',r',h1,h2⟩
   have e1:=pI h1 hd
   subst e1
   rw[gj hK I z n d' d v' g' gd r' rd]at h2
   exact h h2
 induction ds generalizing vs us with
 | nil =>
  rw[Reps]at rs
  subst rs
  cases hv
  exact⟨fun u hu=>(nomatch hu),rfl⟩
 | cons d ds ih =>
  rw[Reps]at rs
  obtain⟨v,r,rfl,r1,r2⟩:=rs
  rw[goods,Bool.and_eq_true]at hg
  cases hv with
  | cons hv1 hv2 =>
   obtain⟨i1,i2⟩:=ih hg.2 r2 hv2
   refine⟨fun u hu'=>?_,?_⟩
   ·rcases List.mem_cons.mp hu' with e | e
    ·subst e
     rw[key d v _ hg.1 r1 hv1]
     exact dl hK I z n A d dx v vx _ _ hg.1 gx r1 rx hv1 hx hu
    ·exact i1 u e
   ·rw[List.any_cons,List.any_cons,i2,key d v _ hg.1 r1 hv1]
end
def rInD (K:PySem.W.Frag)(C:Nat→Addr)(neg:Bool):R2:=fun x y H Q=>∃ (Z:Hp) (dx:D) (ds:List D) (p:Addr) (vs:List V),Same Z H∧Rep K C Z dx x∧good 60 dx=true∧y=.ref p∧(SqL K Z p vs∨SqT K Z p vs)∧Reps K C Z ds vs∧goods 60 ds=true∧Q (.bl (if neg then !(ds.any fun d=>eqD d dx) else ds.any fun d=>eqD d dx)) H
section
variable {X:Cx}{F:Fx}{a b:Expr}{ga gb:SS→R D}{pos:Pos}{k:Nat}
theorem ud (hK:X.K=F.K)(hr:Room k X.A):OpR X (compareOp .In) (rInD F.K F.C false):=by
 intro pins s σ H x y v u Q I rx ry h
 obtain⟨Z,dx,ds,p,vs,z,rd,gd,rfl,hq,rs,gs,q⟩:=h
 cases ry
 have hu:X.A.in1.units+60 < cLine:=by have:=hr.un;show X.A.units+1+60 < cLine;omega
 rcases hq with hq | hq
 ·obtain⟨its,r,pl,hz⟩:=I.list (by rw[hK];exact z.seq hq)
  obtain⟨e,e1,e2⟩:=dR hK I z gd rd rx hu ds gs rs r
  refine SeqAt.in_listAt e pl.isList (fun w hw=>e1 w (by simpa using hw)) ⟨.bl _,H,I,rfl,?_⟩
  rw[show its.toArray.any e=its.any e by simp,e2]
  exact q
 ·obtain⟨its,r,pl,hz⟩:=I.tuple (by rw[hK];exact hq.mono z)
  obtain⟨e,e1,e2⟩:=dR hK I z gd rd rx hu ds gs rs r
  refine SeqAt.in_tupleAt e pl (fun w hw=>e1 w (by simpa using hw)) ⟨.bl _,H,I,rfl,?_⟩
  rw[show its.toArray.any e=its.any e by simp,e2]
  exact q
theorem nA (hK:X.K=F.K)(hr:Room k X.A):OpR X (compareOp .NotIn) (rInD F.K F.C true):=by
 intro pins s σ H x y v u Q I rx ry h
 obtain⟨Z,dx,ds,p,vs,z,rd,gd,rfl,hq,rs,gs,q⟩:=h
 cases ry
 have hu:X.A.in1.units+60 < cLine:=by have:=hr.un;show X.A.units+1+60 < cLine;omega
 rcases hq with hq | hq
 ·obtain⟨its,r,pl,hz⟩:=I.list (by rw[hK];exact z.seq hq)
  obtain⟨e,e1,e2⟩:=dR hK I z gd rd rx hu ds gs rs r
  refine SeqAt.notIn_listAt e pl.isList (fun w hw=>e1 w (by simpa using hw)) ⟨.bl _,H,I,rfl,?_⟩
  rw[show its.toArray.any e=its.any e by simp,e2]
  exact q
 ·obtain⟨its,r,pl,hz⟩:=I.tuple (by rw[hK];exact hq.mono z)
  obtain⟨e,e1,e2⟩:=dR hK I z gd rd rx hu ds gs rs r
  refine SeqAt.notIn_tupleAt e pl (fun w hw=>e1 w (by simpa using hw)) ⟨.bl _,H,I,rfl,?_⟩
  rw[show its.toArray.any e=its.any e by simp,e2]
  exact q
theorem mn {dx dy:D}{r:R D}(h:dInD dx dy=r):(∃ ds,(dy=.tup ds∨dy=.lst ds)∧good 60 dx=true∧goods 60 ds=true∧r=.ok (.bl (ds.any fun d=>eqD d dx)))∨r=.stuck:=by
 subst h
 cases dy with
 | tup ds =>
  show _∨(if good 60 dx=true∧goods 60 ds=true then _ else _)=_
  by_cases q:good 60 dx=true∧goods 60 ds=true
  ·exact .inl ⟨ds,.inl rfl,q.1,q.2,if_pos q⟩
  ·exact .inr (if_neg q)
 | lst ds =>
  show _∨(if good 60 dx=true∧goods 60 ds=true then _ else _)=_
  by_cases q:good 60 dx=true∧goods 60 ds=true
  ·exact .inl ⟨ds,.inr rfl,q.1,q.2,if_pos q⟩
  ·exact .inr (if_neg q)
 | _=>exact .inr rfl
theorem rG:OpD F (rInD F.K F.C false) dInD:=by
 intro H Z x y dx dy Q s rx ry w
 rcases mn (dx:=dx) (dy:=dy) rfl with ⟨ds,hd,g1,g2,e⟩ | e
 ·rw[e]at w
  rcases hd with rfl | rfl
  ·rw[Rep]at ry
   obtain⟨p,vs,rfl,h1,h2⟩:=ry
   exact⟨Z,dx,ds,p,vs,s,rx,g1,rfl,.inr h1,h2,g2,WG.now w s _ aU⟩
  ·rw[Rep]at ry
   obtain⟨p,vs,rfl,h1,h2⟩:=ry
   exact⟨Z,dx,ds,p,vs,s,rx,g1,rfl,.inl h1,h2,g2,WG.now w s _ aU⟩
 ·rw[e]at w;exact w.elim
theorem k6:OpD F (rInD F.K F.C true) dNotInD:=by
 intro H Z x y dx dy Q s rx ry w
 unfold dNotInD at w
 rcases mn (dx:=dx) (dy:=dy) rfl with ⟨ds,hd,g1,g2,e⟩ | e
 ·rw[e]at w
  have w2:WG F H Z (R.ok (FF.D.bl (!(ds.any fun d=>eqD d dx)))) (fun d H' Z'=>∀ v,Rep F.K F.C Z' d v→Q v H'):=w
  rcases hd with rfl | rfl
  ·rw[Rep]at ry
   obtain⟨p,vs,rfl,h1,h2⟩:=ry
   exact⟨Z,dx,ds,p,vs,s,rx,g1,rfl,.inr h1,h2,g2,WG.now w2 s _ aU⟩
  ·rw[Rep]at ry
   obtain⟨p,vs,rfl,h1,h2⟩:=ry
   exact⟨Z,dx,ds,p,vs,s,rx,g1,rfl,.inl h1,h2,g2,WG.now w2 s _ aU⟩
 ·rw[e]at w;exact w.elim
theorem ue (bx:BX X F k)(ha:FE X F a ga)(hb:FE X F b gb)(hm:behindInMarks .In b=false:=by rfl):FT X F (.Compare a [.In] [b] pos) (gB (eOp dInD ga gb)):=dk (ud bx.K bx.room) rG ha hb (hm:=hm)
theorem nB (bx:BX X F k)(ha:FE X F a ga)(hb:FE X F b gb)(hm:behindInMarks .NotIn b=false:=by rfl):FT X F (.Compare a [.NotIn] [b] pos) (gB (eOp dNotInD ga gb)):=dk (nA bx.K bx.room) k6 ha hb (hm:=hm)
end
section
variable {X:Cx}{F:Fx}{p pos:Pos}{e e2:Expr}{gs:SS→R (List D)}{k:Nat}
end
section
variable {X:Cx}{F:Fx}{pos p1 p2:Pos}{x y:Str}{kk:Nat}
theorem mo (i j:Nat)(hc:X.calm=true)(hN:X.N.Nodup)(hij:i≠j:=by decide)(hi:X.N[i]?=some x:=by rfl)(hj:X.N[j]?=some y:=by rfl)(hx:Loc X.env.scope x:=by first | exact Or.inl rfl | exact Or.inr rfl)(hy:Loc X.env.scope y:=by first | exact Or.inl rfl | exact Or.inr rfl)
  (hfx:X.fn x=true∨X.env.scope.names.lookup x=some .local:=by first | exact .inl rfl | exact .inr rfl) (hfy:X.fn y=true∨X.env.scope.names.lookup y=some .local:=by first | exact .inl rfl | exact .inr rfl)
  (hK:X.K=F.K:=by first | rfl | assumption) (hn:(assignEach [.Name x p1,.Name y p2] X.env).length=2:=by rfl) (hst:(assignEach [.Name x p1,.Name y p2] X.env).findIdx? (·.1)=none:=by rfl):FG X F (.Tuple [.Name x p1,.Name y p2] kk pos) (gTup [i,j]) :=
 (sY hc (jQ (jh (i:=i) hN hi hx hfx) (jQ (jh (i:=j) hN hj hy hfy) qI)) hn hst).weak fun v σ H Q ⟨Z,S,d,ok,rd,w⟩=>by
  cases d with
  | tup ds =>
   match ds with
   | [a,b] =>
    rw[Rep]at rd
    obtain⟨c,vs,rfl,h1,h2⟩:=rd
    rw[Reps]at h2
    obtain⟨v1,r,rfl,q1,h2⟩:=h2
    rw[Reps]at h2
    obtain⟨v2,r,rfl,q2,h2⟩:=h2
    rw[Reps]at h2
    subst h2
    refine⟨c,[v1,v2],rfl,by rw[hK];exact h1.mono ok.sub,rfl,v1,[v2],rfl,v2,[],rfl,rfl,?_⟩
    exact WG.now w ok.sub _ ((ok.setVal (i:=i) q1).setVal (i:=j) q2)
   | []=>exact w.elim
   | [_]=>exact w.elim
   | a::b::c::r =>
    have e:gTup [i,j] (.tup (a::b::c::r)) S=.stuck:=by unfold gTup;simp
    rw[e]at w
    exact w.elim
  | _=>exact w.elim
theorem pJ {own i j:Nat}(hi:i < own)(hj:j < own):Own own (gTup [i,j]):=fun d S S1 e=>by
 cases d with
 | tup ds =>
  match ds with
  | [a,b] =>
   have e':R.ok ((S.set i (some (.val a))).set j (some (.val b)))=R.ok S1:=e
   cases e'
   refine⟨by simp,fun n hn=>?_⟩
   rw[List.getElem?_set_ne (by omega),List.getElem?_set_ne (by omega)]
  | []=>cases e
  | [_]=>cases e
  | a::b::c::r =>
   have q:gTup [i,j] (.tup (a::b::c::r)) S=.stuck:=by unfold gTup;simp
   rw[q]at e
   cases e
 | _=>cases e
end
section
variable {X:Cx}{F:Fx}{p p2 pos pos2:Pos}{e:Expr}{gs:SS→R (List D)}{k:Nat}
end
section
variable {X:Cx}{F:Fx}
variable {σ:Type}{S:SS}{rest:List Stmt}{J:σ→SS→Prop}{e:Expr}{ge:SS→R D}{r:R D}{n:Nat}
end
end FF
end
noncomputable section
namespace L2
open PySem PySem.Spec PyProof.Rows
section
variable {X:Cx}{pos:Pos}
end
end L2
namespace FF
open PySem PySem.Spec PyProof.Rows L2
section
variable {X:Cx}{F:Fx}{σ:Type}{S:SS}{st:Stmt}{rest:List Stmt}{J:σ→SS→Prop}
end
section
variable {prog:Program}{w:World}{A:Around}{E:Value→Shared→Prop}{s:Shared}
theorem dS {it t:Addr}{i:Nat}{items:Array Value}{x:Value}{Q:Value→Shared→Prop}(hit:s.heap.IsTupleIter it t i)
  (hl:s.heap.IsTuple t items) (hx:items[i]?=some x)
  (hQ:∀ h',h'.IsTupleIter it t (i+1)→Heap.SameBut it s.heap h'→Q x { s with heap:=h' }) :
  wpAny (model prog w) A (Builtin.SmallTypes.nextOf (.ref it)) Q E s:=by
 obtain⟨o,ho,hc,hd⟩:=id hit
 obtain⟨ol,hol,_,nl,hdl⟩:=hl
 unfold Builtin.SmallTypes.nextOf
 refine wpAny_bind (wpAny_callSpecial?_slot (name:=Str.ofString "__next__") hit.typeIs F.slot_tuple_iterator_next
  (wpAny_call_entry F.slot_tuple_iterator_next hit.typeIs F.entry_tuple_iterator_next ?_ (F.args_tuple_iterator_next_1 _)))
 show wpAny _ _ (field (.ref it) 0 >>= _) _ _ s
 refine wpAny_bind (wpAny_field ho hd (x:=.ref t) rfl ?_)
 show wpAny _ _ (if (Value.ref t==Value.none)=true then _ else _) _ _ s
 rw[if_neg (show ¬ ((Value.ref t==Value.none)=true) from Bool.false_ne_true)]
 show wpAny _ _ (field (.ref it) 1 >>= _) _ _ s
 refine wpAny_bind (wpAny_field ho hd (x:=.int i 0) rfl ?_)
 show wpAny _ _ (seqItems? (.ref t) >>= _) _ _ s
 refine wpAny_bind (wpAny_seqItems hol hdl ?_)
 simp only[Int.toNat_natCast,hx]
 refine wpAny_bind (wpAny_setField ho hd (by simp) (wpAny_pure ⟨x,rfl,wpAny_pure (hQ _ ?_ (Heap.SameBut.update ..))⟩))
 exact⟨_,Heap.get?_update_self _ ho (Obj.isFreed_of_fields (Obj.data_mapFields hd _)),(Obj.cls_mapFields ..).trans hc,by
  rw[Obj.data_mapFields hd];simp[rawInt]⟩
theorem eX {it t:Addr}{i:Nat}{items:Array Value}{Q:Value→Shared→Prop}(hh:A.handled=none)
  (hit:s.heap.IsTupleIter it t i) (hl:s.heap.IsTuple t items) (hx:items[i]?=none)
  (hE:∀ h' e,Heap.ExtBut it s.heap h'→(∃ o,h'.get? e=some o∧o.cls=.type "StopIteration")→E (.ref e) { s with heap:=h' }) :
  wpAny (model prog w) A (Builtin.SmallTypes.nextOf (.ref it)) Q E s:=by
 obtain⟨o,ho,hc,hd⟩:=id hit
 obtain⟨ol,hol,_,nl,hdl⟩:=hl
 unfold Builtin.SmallTypes.nextOf
 refine wpAny_bind (wpAny_callSpecial?_slot (name:=Str.ofString "__next__") hit.typeIs F.slot_tuple_iterator_next
  (wpAny_call_entry F.slot_tuple_iterator_next hit.typeIs F.entry_tuple_iterator_next ?_ (F.args_tuple_iterator_next_1 _)))
 show wpAny _ _ (field (.ref it) 0 >>= _) _ _ s
 refine wpAny_bind (wpAny_field ho hd (x:=.ref t) rfl ?_)
 show wpAny _ _ (if (Value.ref t==Value.none)=true then _ else _) _ _ s
 rw[if_neg (show ¬ ((Value.ref t==Value.none)=true) from Bool.false_ne_true)]
 show wpAny _ _ (field (.ref it) 1 >>= _) _ _ s
 refine wpAny_bind (wpAny_field ho hd (x:=.int i 0) rfl ?_)
 show wpAny _ _ (seqItems? (.ref t) >>= _) _ _ s
 refine wpAny_bind (wpAny_seqItems hol hdl ?_)
 simp only[Int.toNat_natCast,hx]
 refine wpAny_bind (wpAny_rule (wpAny_bind (wpAny_setField ho hd (by simp) ?_)))
 show wpAny _ _ (newExc (.type "StopIteration") [] >>= _) _ _ _
 refine wpAny_bind ?_
 simp only[newExc,newTuple]
 refine wpAny_bind (wpAny_newObj_type ?_ (by size_fits))
 refine wpAny_bind (m:=firstArgMember _ _) (wpAny_of_eq (a:=Value.none) (by first | rfl | (simp only[firstArgMember];rfl)) ?_)
 refine wpAny_newObj_type ?_ (by size_fits)
 simp only[raiseNew]
 refine wpAny_bind (wpAny_handled ?_)
 first | rw[show A.in1.handled=none from hh] | rw[hh]
 refine wpAny_bind (wpAny_pure (wpAny_throw ?_))
 exact hE _ _ (((Heap.SameBut.update ..).extBut.push _).push _) ⟨_,Heap.get?_push_size _ rfl,rfl⟩
def SIt (h:Heap)(b:Bool)(it a:Addr)(k:Nat):Prop:=if b=true then h.IsTupleIter it a k else h.IsListIter it a k
def SOb (h:Heap)(b:Bool)(a:Addr)(xs:Array Value):Prop:=if b=true then h.IsTuple a xs else h.IsList a xs
theorem SIt.at {h h':Heap}{b:Bool}{it a:Addr}{k:Nat}(x:SIt h b it a k)(f:∀ o,h.get? it=some o→h'.get? it=some o):SIt h' b it a k:=by
 cases b<;>(obtain⟨o,ho,r⟩:=x;exact⟨o,f o ho,r⟩)
theorem SOb.at {h h':Heap}{b:Bool}{a:Addr}{xs:Array Value}(x:SOb h b a xs)(f:∀ o,h.get? a=some o→h'.get? a=some o):SOb h' b a xs:=by
 cases b<;>(obtain⟨o,ho,r⟩:=x;exact⟨o,f o ho,r⟩)
theorem SIt.lt {h:Heap}{b:Bool}{it a:Addr}{k:Nat}(x:SIt h b it a k):∃ o,h.get? it=some o∧∀ v,o.data≠.cell v:=by
 cases b<;>(obtain⟨o,ho,_,hd⟩:=x;exact⟨o,ho,fun v z=>by rw[hd]at z;cases z⟩)
theorem nC {b:Bool}{it a:Addr}{i:Nat}{items:Array Value}{x:Value}{Q:Value→Shared→Prop}(hit:SIt s.heap b it a i)(hl:SOb s.heap b a items)(hx:items[i]?=some x)
  (hQ:∀ h',SIt h' b it a (i+1)→Heap.SameBut it s.heap h'→Q x { s with heap:=h' }):wpAny (model prog w) A (Builtin.SmallTypes.nextOf (.ref it)) Q E s:=by
 cases b with
 | true=>exact dS hit hl hx hQ
 | false=>exact wpAny_nextOf_list_item hit hl hx hQ
theorem j9 {b:Bool}{it a:Addr}{i:Nat}{items:Array Value}{Q:Value→Shared→Prop}(hh:A.handled=none)(hit:SIt s.heap b it a i)(hl:SOb s.heap b a items)(hx:items[i]?=none)
  (hE:∀ h' e,Heap.ExtBut it s.heap h'→(∃ o,h'.get? e=some o∧o.cls=.type "StopIteration")→E (.ref e) { s with heap:=h' }):wpAny (model prog w) A (Builtin.SmallTypes.nextOf (.ref it)) Q E s:=by
 cases b with
 | true=>exact eX hh hit hl hx hE
 | false=>exact wpAny_nextOf_list_end hh hit hl hx hE
def IsZ (h:Heap)(z TI TO:Addr)(f0 f1:Value):Prop:=h.get? z=some { cls:=.type "zip",dict:=none,data:=.fields #[f0,f1,.bool false,.ref TI,.ref TO],slots:=#[] }
structure Zs (h:Heap)(z TI TO i1 i2 l1 l2:Addr)(b1 b2:Bool)(k:Nat)(f0:Value):Prop where
 z:∃ u,IsZ h z TI TO f0 (.bool u)
 ti:IsPair h TI (.ref i1) (.ref i2)
 to:∃ a b,IsPair h TO a b
 h1:SIt h b1 i1 l1 k
 h2:SIt h b2 i2 l2 k
theorem Zs.at {h h':Heap}{z TI TO i1 i2 l1 l2:Addr}{b1 b2:Bool}{k:Nat}{f0:Value}(x:Zs h z TI TO i1 i2 l1 l2 b1 b2 k f0)(f:∀ b∈[z,TI,TO,i1,i2],∀ o,h.get? b=some o→h'.get? b=some o):Zs h' z TI TO i1 i2 l1 l2 b1 b2 k f0:=by
 obtain⟨⟨u,e1⟩,e2,⟨a,b,e3⟩,e4,e5⟩:=x
 exact⟨⟨u,f z (by simp) _ e1⟩,f TI (by simp) _ e2,⟨a,b,f TO (by simp) _ e3⟩,e4.at fun o e=>f i1 (by simp) o e,e5.at fun o e=>f i2 (by simp) o e⟩
end
section
variable {X:Cx}{pins:List (Addr×Obj)}{σ:St}{H:Hp}{s:Shared}{h':Heap}
theorem ka {h:Heap}{b:Addr}{o x:Obj}(q:b≠h.objs.size)(e:(h.push x).get? b=some o):h.get? b=some o:=by
 rcases Heap.get?_push_cases e with ⟨z,_⟩ | z
 ·exact absurd z q
 ·exact z
theorem turnedL {t':Nat}{fp:List Addr}(I:Inv X pins σ H s)(hf:∀ b∈fp,FpOk X pins H b)(k:∀ b o,b∉fp→s.heap.get? b=some o→h'.get? b=some o):Inv X pins σ H { s with heap:=h',toks:=t' }:=by
 have nit:∀ b u,H b=some u→b∉fp:=fun b u e z=>by rw[(hf b z).1]at e;cases e
 refine I.step (g':=s.gens) (d':=s.drawn) (ch:=fp) (fun b hb=>?_) (fun b o _ _ hc e _=>k b o hc e) (fun b o _ _ hc e _=>⟨o.slots,k b o hc e⟩) (fun _ _ _ _ n=>n)
  (fun b o hc e=>⟨o,k b o hc e⟩) (fun _ _ e=>e) (fun _ _ _ e=>e) (fun b ps e=>⟨#[],by rw[e];simp⟩) (fun m hm=>?_) (fun b u e=>?_) I.bare
 ·obtain⟨_,f1,f2,f3,f4,f5⟩:=hf b hb
  exact⟨f3,f1,f4,f5⟩
 ·obtain⟨o,es,ep,ho,r⟩:=hm
  exact⟨o,es,ep,k _ o (fun z=>(hf _ z).2.1 rfl) ho,r⟩
 ·refine(I.hok b u e).stay (fun c v hc q=>k c v ?_ q) (fun _ q=>q) fun _ _ q=>q
  rcases hc with z | z
  ·rw[z];exact nit b u e
  ·exact nit c _ z
theorem turnedP {t':Nat}{fp:List Addr}{x y:V}{u v:Value}(I:Inv X pins σ H s)(hf:∀ b∈fp,FpOk X pins H b)(hlt:∀ b∈fp,b≠s.heap.objs.size)(rx:RelV x u)(ry:RelV y v)(hp:IsPair h' s.heap.objs.size u v)
  (k:∀ b o,b∉fp→s.heap.get? b=some o→h'.get? b=some o):Inv X pins σ (upd H s.heap.objs.size (.tup [x,y])) { s with heap:=h',toks:=t' }:=by
 have I1:Inv X pins σ (upd H s.heap.objs.size (.tup [x,y])) { s with heap:=s.heap.push { cls:=.type "tuple",data:=.seq #[u,v] },toks:=s.toks }:=by
  refine I.laid (t':=s.toks) (fun b u e=>Heap.get?_push_of_some _ e) (Nat.le_refl _) ?_
  exact⟨by show 2≤sizeLine;decide,[u,v],.cons rx (.cons ry .nil),TupO.new _ _⟩
 refine turnedL (s:={ s with heap:=s.heap.push { cls:=.type "tuple",data:=.seq #[u,v] },toks:=s.toks }) (fp:=fp) (t':=t') I1 (fun b hb=>?_) fun b o hb e=>?_
 ·obtain⟨f0,f1⟩:=hf b hb
  exact⟨by rw[ai (hlt b hb)];exact f0,f1⟩
 ·by_cases q:b=s.heap.objs.size
  ·subst q
   have e':some _=some o:=(Heap.get?_push_size s.heap (o:={ cls:=.type "tuple",data:=.seq #[u,v] }) rfl).symm.trans e
   cases e'
   exact hp
  ·have e':s.heap.get? b=some o:=by
    exact ka q e
   exact k b o hb e'
end
def SqB (K:PySem.W.Frag)(H:Hp)(b:Bool)(a:Addr)(xs:List V):Prop:=if b=true then SqT K H a xs else SqL K H a xs
theorem k7 {X:Cx}{pins:List (Addr×Obj)}{σ:St}{H:Hp}{s:Shared}{b:Bool}{a:Addr}{xs:List V}(I:Inv X pins σ H s)(h:SqB X.K H b a xs):∃ its:List Value,Vals xs its∧SOb s.heap b a its.toArray∧xs.length≤sizeLine:=by
 cases b with
 | true =>
  obtain⟨its,rv,p,hz⟩:=I.tuple h
  exact⟨its,rv,p,hz⟩
 | false =>
  obtain⟨its,rv,p,hz⟩:=I.list h
  exact⟨its,rv,p.isList,hz⟩
theorem uf {X:Cx}{pins:List (Addr×Obj)}{σ:St}{H:Hp}{s:Shared}{b:Bool}{a:Addr}{xs ys:List V}(I:Inv X pins σ H s)(h:SqB X.K H b a xs)(h':SqB X.K H b a ys):xs=ys:=by
 cases b with
 | true=>exact I.tuple_inj h h'
 | false=>exact I.list_inj h h'
theorem SqB.mono {K:PySem.W.Frag}{Z H:Hp}{b:Bool}{a:Addr}{xs:List V}(h:SqB K Z b a xs)(z:Same Z H):SqB K H b a xs:=by
 cases b with
 | true=>exact(show SqT K Z a xs from h).mono z
 | false=>exact z.seq h
theorem ug {K:PySem.W.Frag}{C:Nat→Addr}{Z:Hp}{d:D}{ds:List D}{v:V}(e:asSeq d=.ok ds)(r:Rep K C Z d v):∃ b a vs,v=.ref a∧SqB K Z b a vs∧Reps K C Z ds vs:=by
 cases d with
 | tup xs =>
  cases e
  rw[Rep]at r
  obtain⟨a,vs,rfl,h1,h2⟩:=r
  exact⟨true,a,vs,rfl,h1,h2⟩
 | lst xs =>
  cases e
  rw[Rep]at r
  obtain⟨a,vs,rfl,h1,h2⟩:=r
  exact⟨false,a,vs,rfl,h1,h2⟩
 | _=>cases e
section
variable {X:Cx}{F:Fx}{a b:Expr}{ga gb:SS→R D}{k:Nat}
end
section
variable {prog:Program}{w:World}{A:Around}{R:Result→Shared→Prop}{I S:Addr}{res:Value}{n:Nat}
end
section
variable {X:Cx}{pins:List (Addr×Obj)}{σ:St}{H1:Hp}{S z TI TO i1 i2 a1 a2:Addr}{b1 b2:Bool}{xs ys:List V}
end
section
variable {X:Cx}{F:Fx}{a b:Expr}{ga gb:SS→R D}{k:Nat}
end
section
variable {X:Cx}{F:Fx}{e:Expr}{g:SS→R D}{k:Nat}{l:List (Str×Nat)}{x:Str}{p pos:Pos}
end
section
variable {prog:Program}{w:World}{A:Around}{E:Value→Shared→Prop}{s:Shared}
end
section
variable {X:Cx}{F:Fx}{k:Nat}{l:List (Str×Nat)}{x:Str}{p p2 pos:Pos}
end
open AutoSeq1 (wpAny_loadPart')
theorem pK {prog:Program}{w:World}{A:Around}(hh:A.handled=none)(b:Bool)(it a:Addr)(hne:a≠it)(items:Array Value) :
  Draws prog w A it [it,a] items.size (fun i v=>items[i]?=some v) (fun i h=>SIt h b it a i∧SOb h b a items) where
 live:=fun _ _ st=>let ⟨o,ho,_⟩:=st.1.lt;⟨o,ho⟩
 frame:=fun _ _ _ st hk=>⟨st.1.at fun o e=>hk it (by simp) o e,st.2.at fun o e=>hk a (by simp) o e⟩
 item:=fun i s Q E hi st hQ=>by
  refine nC st.1 st.2 (x:=items[i]) (by simp[hi]) fun h' hit' hs'=>?_
  exact hQ _ h' s.toks (by simp[hi]) ⟨hit',st.2.at fun o e=>hs'.extBut _ _ hne e⟩ hs'
 done:=fun s Q E st hE=>j9 hh st.1 st.2 (by simp) hE
theorem gU (l:Addr)(items:Array Value)(n:Nat)(dct:Option Addr)(sl:Array (Option Value)) :
  Meets (Builtin.«enumerate.__new__» ⟨[.type "enumerate",.ref l],[]⟩) (fun _ R s=>s.heap.get? l=some { cls:=.type "tuple",dict:=dct,data:=.seq items n,slots:=sl } ∧
   R (.ok (.ret (.ref (s.heap.push { cls:=.type "tuple_iterator",data:=.fields #[.ref l,.int 0 0] }).objs.size)))
    { s with heap:=(s.heap.push { cls:=.type "tuple_iterator",data:=.fields #[.ref l,.int 0 0] }).push { cls:=.type "enumerate",data:=.fields #[.none,.bool false,.ref s.heap.objs.size,rawInt 0,.none,.none] } }) :=
 .of_wp fun prog w A R s h=>by
  obtain⟨hp,g,d,tk,os⟩:=s;obtain⟨hl,h⟩:=h
  have hsub:=sub_enumerate
  have hL:Heap.IsTuple (Shared.heap ⟨hp,g,d,tk,os⟩) l items:=⟨_,hl,rfl,n,rfl⟩
  wp_walk using wpAny_loadPart' hl
  refine wpAny_stack_any fun st=>wpAny_pure ?_
  split
  ·rename_i c _ _ _ _ _
   cases (c==Value.type "enumerate")
   ·wp_walk using wpAny_loadPart' hl,wpAny_pyIter_tuple hL
    exact⟨_,rfl,h⟩
   ·wp_walk using wpAny_loadPart' hl,wpAny_pyIter_tuple hL
    exact⟨_,rfl,h⟩
  ·wp_walk using wpAny_loadPart' hl,wpAny_pyIter_tuple hL
   exact⟨_,rfl,h⟩
section
variable {prog:Program}{w:World}{A:Around}{E:Value→Shared→Prop}{s:Shared}
theorem iB {l:Addr}{items:Array Value}{Q:Value→Shared→Prop}(hL:s.heap.IsTuple l items)
  (h:∀ h',IsEnum h' (s.heap.objs.size+1) s.heap.objs.size 0 .none→h'.IsTupleIter s.heap.objs.size l 0→h'.objs.size=s.heap.objs.size+2 →
   (∀ b o,s.heap.get? b=some o→h'.get? b=some o)→Q (.ref (s.heap.objs.size+1)) { s with heap:=h' }) :
  wpAny (model prog w) A (call (.type "enumerate") [.ref l]) Q E s:=by
 obtain⟨⟨c,dct,dt,sl⟩,hl,hc,n,hd⟩:=hL
 replace hc:c=.type "tuple" := hc
 replace hd:dt=.seq items n:=hd
 subst hc hd
 refine callType_new F.called_enumerate (by decide) (F.typeCall_enumerate_1 _) (F.newCall_enumerate_1 _) (fun obj=>F.args_object_init_2 obj _) F.entry_enumerate_new
  (gU l items n dct sl) ⟨hl,?_⟩
 have hz:(s.heap.push { cls:=.type "tuple_iterator",data:=.fields #[.ref l,.int 0 0] }).objs.size=s.heap.objs.size+1:=Heap.size_push ..
 show _∧_
 rw[hz]
 have he:IsEnum ((s.heap.push { cls:=.type "tuple_iterator",data:=.fields #[.ref l,.int 0 0] }).push
   { cls:=.type "enumerate",data:=.fields #[.none,.bool false,.ref s.heap.objs.size,rawInt 0,.none,.none] }) (s.heap.objs.size+1) s.heap.objs.size 0 .none:=by
  have:=Heap.get?_push_size (s.heap.push { cls:=.type "tuple_iterator",data:=.fields #[.ref l,.int 0 0] })
   (o:={ cls:=.type "enumerate",data:=.fields #[.none,.bool false,.ref s.heap.objs.size,rawInt 0,.none,.none] }) rfl
  rw[hz]at this;exact this
 refine⟨⟨_,he,rfl⟩,h _ he ⟨_,Heap.get?_push_of_some _ (Heap.get?_push_size _ rfl),rfl,rfl⟩ (by rw[Heap.size_push,hz]) fun b o x=>Heap.get?_push_of_some _ (Heap.get?_push_of_some _ x)⟩
theorem nD {b:Bool}{l:Addr}{items:Array Value}{Q:Value→Shared→Prop}(hL:SOb s.heap b l items)
  (h:∀ h',IsEnum h' (s.heap.objs.size+1) s.heap.objs.size 0 .none→SIt h' b s.heap.objs.size l 0→(∀ b o,s.heap.get? b=some o→h'.get? b=some o)→Q (.ref (s.heap.objs.size+1)) { s with heap:=h' }) :
  wpAny (model prog w) A (call (.type "enumerate") [.ref l]) Q E s:=by
 cases b with
 | true=>exact iB hL fun h' a1 a2 _ a3=>h h' a1 a2 a3
 | false=>exact call_enumerate_list hL fun h' a1 a2 _ a3=>h h' a1 a2 a3
theorem iY {e it:Addr}{i:Int}{old:Value}{Q:Value→Shared→Prop}(he:IsEnum s.heap e it i old)(h:Q (.ref e) s):wpAny (model prog w) A (pyIter (.ref e)) Q E s:=by
 have hT:s.TypeIs (.ref e) "enumerate" := ⟨_,he,rfl⟩
 refine wpAny_pyIter_slot hT F.slot_enumerate_iter (wpAny_call_entry F.slot_enumerate_iter hT F.entry_enumerate_iter ?_ (F.args_enumerate_iter_1 _))
 show wpAny _ _ (ret (.ref e)) _ _ s
 exact wpAny_pure ⟨_,rfl,"enumerate",_,hT,F.slot_enumerate_next.lookup,h⟩
end
section
variable {prog:Program}{w:World}{A:Around}{E:Value→Shared→Prop}{s:Shared}
theorem pL {e it a:Addr}{b:Bool}{i:Int}{k:Nat}{old:Value}{items:Array Value}{Q:Option Value→Shared→Prop}(hh:A.handled=none)(he:IsEnum s.heap e it i old)(hit:SIt s.heap b it a k)(hl:SOb s.heap b a items)(hx:items[k]?=none)
  (hQ:∀ h',Heap.ExtBut it s.heap h'→Q none { s with heap:=h' }):wpAny (model prog w) A (pyNext (.ref e)) Q E s:=by
 have hT:s.TypeIs (.ref e) "enumerate" := ⟨_,he,rfl⟩
 unfold pyNext
 refine wpAny_bind (wpAny_attempt (wpAny_callSpecial?_slot (name:=Str.ofString "__next__") hT F.slot_enumerate_next
  (wpAny_call_entry F.slot_enumerate_next hT F.entry_enumerate_next ?_ (F.args_enumerate_next_1 _))))
 show wpAny _ _ (field (.ref e) 2 >>= _) _ _ _
 refine wpAny_bind (wpAny_field he rfl (x:=.ref it) rfl ?_)
 refine wpAny_bind (j9 (show A.in1.handled=none from hh) hit hl hx fun h' x he' hx'=>?_)
 obtain⟨o,ho,hc⟩:=hx'
 refine wpAny_bind (wpAny_isInstance (T := "StopIteration") (b:=true) ⟨o,ho,hc⟩ isSubtype_stop ?_)
 exact wpAny_pure (hQ _ he')
end
def Ite (K:PySem.W.Frag)(b:Bool)(a:Addr):It :=
 ⟨fun i H=>∃ xs x,SqB K H b a xs∧xs[i]?=some x,
  fun i H v H'=>∃ p x,H p=none∧v=.ref p∧(∀ xs,SqB K H b a xs→xs[i]?=some x)∧H'=upd H p (.tup [.int (i:Int),x]),
  fun i H=>∃ xs,SqB K H b a xs∧xs.length≤i⟩
theorem nE {P:Program}{w:World}{K:PySem.W.Frag}{elts:List Expr}{x1:Nat}{pos:Pos}{e it a:Addr}(b:Bool)(hei:e≠it)(hai:a≠it)(hea:e≠a) :
  Turn P w K (.Tuple elts x1 pos) (Ite K b a) [e,it] e (fun i h=>(∃ old,IsEnum h e it i old)∧SIt h b it a i) where
 mem:=by simp
 obj:=fun i h st c hb=>by
  obtain⟨⟨old,e1⟩,e2⟩:=st
  simp only[List.mem_cons,List.not_mem_nil,or_false]at hb
  rcases hb with rfl | rfl
  ·exact⟨_,e1,fun v z=>by have z':Data.fields _=Data.cell v:=z;cases z'⟩
  ·exact e2.lt
 keep:=fun i h h' st k=>by
  obtain⟨⟨old,e1⟩,e2⟩:=st
  exact⟨⟨old,k e (by simp) _ e1⟩,e2.at fun o q=>k it (by simp) o q⟩
 item:=by
  intro X hP hw hK hc i pins s σ H E I hf st hg
  subst hP hw hK
  obtain⟨xs,x,q1,hx⟩:=hg
  obtain⟨⟨old,e1⟩,e2⟩:=st
  obtain⟨is1,rv1,o1,_⟩:=k7 I q1
  obtain⟨u,hu,ru⟩:=rv1.get hx
  have hl:=rv1.length
  have hil:i < xs.length:=(List.getElem?_eq_some_iff.mp hx).1
  have lt:∀ c∈[e,it],c≠s.heap.objs.size:=fun c hb=>by
   simp only[List.mem_cons,List.not_mem_nil,or_false]at hb
   rcases hb with rfl | rfl
   ·exact Nat.ne_of_lt (Heap.lt_size e1)
   ·obtain⟨o,ho,_⟩:=e2.lt;exact Nat.ne_of_lt (Heap.lt_size ho)
  have D:=pK (prog:=X.prog) (w:=X.w) (A:=X.A.in1) (show X.A.in1.handled=none from I.ok.hd hc) b it a hai is1.toArray
  refine wpAny_pyNext_enum_itemD D e1 ⟨e2,o1⟩ (by simp;omega) hei (by simp[hei,hea]) fun v h' tk hP ho hs' hT hsz hk=>?_
  have ev:v=u:=by
   have h1:is1[i]?=some v:=by simpa using hP
   rw[hu]at h1;cases h1;rfl
  subst ev
  refine⟨_,rfl,wpAny_letOwnedTupleGo_enum (s:={ s with heap:=h',toks:=tk+1 }) ho fun h2 he2 sb2=>?_⟩
  have k2:∀ c o,c∉[e,it]→s.heap.get? c=some o→h2.get? c=some o:=fun c o hb q=>by
   simp only[List.mem_cons,List.not_mem_nil,or_false,not_or]at hb
   exact sb2.extBut _ _ hb.1 (hk c o hb.1 hb.2 q)
  have hp2:IsPair h2 s.heap.objs.size (.int i tk) v:=sb2.extBut _ _ (fun q=>lt e (by simp) q.symm) hT
  have I2:Inv X pins σ (upd H s.heap.objs.size (.tup [.int (i:Int),x])) { s with heap:=h2,toks:=tk+1 }:=turnedP I hf lt ⟨tk,rfl⟩ ru hp2 k2
  exact⟨.ref s.heap.objs.size,_,I2,rfl,⟨s.heap.objs.size,x,I.hok.fresh (Nat.le_refl _),rfl,fun xs' q=>by rw[uf I q q1];exact hx,rfl⟩,⟨⟨_,by simpa using he2⟩,hs'.1.at fun o q=>sb2.extBut _ _ (Ne.symm hei) q⟩,fun c hb=>by rw[ai (lt c hb)];exact(hf c hb).1⟩
 done:=by
  intro X hP hw hK hc i pins s σ H E I hf st hg
  subst hP hw hK
  obtain⟨xs,q1,hx⟩:=hg
  obtain⟨⟨old,e1⟩,e2⟩:=st
  obtain⟨is1,rv1,o1,_⟩:=k7 I q1
  have hl:=rv1.length
  refine pL (I.ok.hd hc) e1 e2 o1 (by simp;omega) fun h' hk=>⟨rfl,turnedL (t':=s.toks) I hf fun c o hb q=>?_⟩
  simp only[List.mem_cons,List.not_mem_nil,or_false,not_or]at hb
  exact hk c o hb.2 q
 self:=fun _ _ _ _ _ st h=>by obtain⟨⟨old,e1⟩,_⟩:=st;exact iY e1 h
theorem nF:bootBuiltins "enumerate"=some (.type "enumerate"):=by decide +kernel
theorem rH {X:Cx}{elts:List Expr}{x1:Nat}{ps p pos:Pos}{a:Expr}{ta:TA}(hg:Gl X "enumerate")(hm:X.mg "enumerate"=none)(ha:PA X [a] ta)(hs:starEach [a] X.env=[(false,eval a X.env)]:=by rfl) :
  PI X (.Tuple elts x1 ps) (.Call (.Name "enumerate" p) [a] [] pos) (fun σ H R=>ta σ H fun vs H1=>∃ b a1,vs=[.ref a1]∧(∃ xs,SqB X.K H1 b a1 xs)∧R (Ite X.K b a1) H1):=by
 intro pins s σ H R I h
 refine Call_ (eG I hg hm nF (PyProof.Rows.callWith_type1 (thn (ha pos pins s σ H _ I h) fun us s1 ⟨vs,H1,I1,r1,q1⟩=>?_) hs rfl))
 obtain⟨b,a1,e,⟨xs,hx⟩,q⟩:=q1
 subst e
 cases r1 with
 | cons r rr =>
  cases rr
  cases r
  obtain⟨is1,rv1,o1,_⟩:=k7 I1 hx
  have lt:a1 < s1.heap.objs.size:=by cases b<;>(obtain⟨_,e,_⟩:=o1;exact Heap.lt_size e)
  refine nD o1 fun h' he hi hk=>iY (s:={ s1 with heap:=h' }) he ?_
  have I2:Inv X pins σ H1 { s1 with heap:=h',toks:=s1.toks }:=I1.kept hk
  refine⟨_,_,_,_,H1,rfl,I2,nE b (Nat.succ_ne_self _) (Nat.ne_of_lt lt) (Nat.ne_of_gt (Nat.lt_succ_of_lt lt)),⟨⟨_,he⟩,hi⟩,fun c hc=>?_,q⟩
  have hb:s1.heap.objs.size≤c:=by
   simp only[List.mem_cons,List.not_mem_nil,or_false]at hc
   rcases hc with rfl | rfl
   ·exact Nat.le_add_right _ _
   ·exact Nat.le_refl _
  exact I1.fpOk hb (I1.hok.fresh hb)
theorem mq:∀ {xs:List D} {k i:Nat} {x:D},xs[i]?=some x→(enD xs k)[i]?=some (.tup [.int ((k+i:Nat):Int),x])
 | a::xs,k,0,x,h=>by cases h;rfl
 | a::xs,k,i+1,x,h=>by
  have:=mq (xs:=xs) (k:=k+1) (i:=i) (by simpa using h)
  rw[show k+1+i=k+(i+1) by omega]at this
  simpa [enD] using this
 | [],_,_,_,h=>by simp at h
theorem jt:∀ (xs:List D) (k:Nat),(enD xs k).length=xs.length
 | [],_=>rfl
 | a::xs,k=>by show (enD xs (k+1)).length+1=_;rw[jt xs (k+1)];rfl
theorem nG {F:Fx}{b:Bool}{a:Addr}{xs:List D}{vs:List V}{Z:Hp}(h1:SqB F.K Z b a vs)(r1:Reps F.K F.C Z xs vs):WalkG F (Ite F.K b a) (enD xs 0) Z:=fun i H Z2 z1 z2=>by
 have l:=jt xs 0
 have e1:=r1.length
 refine⟨fun hi=>?_,fun hi=>⟨vs,h1.mono (z1.trans z2),by omega⟩⟩
 have hx:vs[i]?=some vs[i]:=List.getElem?_eq_getElem (by omega)
 refine⟨⟨vs,_,h1.mono (z1.trans z2),hx⟩,fun v H' ⟨p,x,hp,e,qx,eH⟩=>?_⟩
 subst e;subst eH
 obtain⟨dx,f1,g1⟩:=r1.get' (qx _ (h1.mono (z1.trans z2)))
 have z3:Same Z (upd Z2 p (.tup [.int (i:Int),x])):=z1.trans (aH (z2.free hp))
 have f2:=mq (k:=0) f1
 rw[Nat.zero_add]at f2
 refine⟨upd Z2 p (.tup [.int (i:Int),x]),.tup [.int (i:Int),dx],Ex.alloc z2 hp,f2,?_⟩
 rw[Rep]
 exact⟨p,[.int (i:Int),x],rfl,SqT.of ao,Reps.cons aI (Reps.cons (g1.mono z3) Reps.nil)⟩
section
variable {X:Cx}{F:Fx}{a:Expr}{ga:SS→R D}{k:Nat}
theorem rJ {S:SS}{α:Type}(f:D→R α):((aL [ga]) S).bind (fun ds=>match ds with | [x]=>f x | _=>R.stuck)=(ga S).bind fun x=>f x:=by
 show (((ga S).bind fun d=>(R.ok []:R (List D)).bind fun ds=>R.ok (d::ds))).bind _=_
 cases ga S<;>rfl
theorem dU {elts:List Expr}{x1:Nat}{ps p pos:Pos}(bx:BX X F k)(hg:Gl X "enumerate")(hm:X.mg "enumerate"=none)(ha:FE X F a ga)(hs:starEach [a] X.env=[(false,eval a X.env)]:=by rfl) :
  FI X F (.Tuple elts x1 ps) (.Call (.Name "enumerate" p) [a] [] pos) (fun S=>(ga S).bind fun x=>dEnum x) :=
 (rH hg hm (FAL.out (aa ha ad (hs:=by rw[hs];rfl))) hs).weak fun σ H Q ⟨Z,S,ok,w⟩=>by
  have w:WG F H Z ((ga S).bind fun x=>dEnum x) _:=w
  rw[← rJ]at w
  refine aS ok w fun ds vs H1 Z1 ok1 x1 rs w1=>?_
  obtain⟨dx,rfl⟩:∃ dx,ds=[dx]:=by
   rcases ds with _ | ⟨dx,_ | ⟨dy,r⟩⟩
   ·exact False.elim w1
   ·exact⟨dx,rfl⟩
   ·exact False.elim w1
  focus
   have w2:WG F H1 Z1 (dEnum dx) _:=w1
   unfold dEnum sq at w2
   rw[Reps]at rs
   obtain⟨v1,r,rfl,q1,rs⟩:=rs
   rw[Reps]at rs
   subst rs
   cases e1:asSeq dx with
   | err k=>rw[e1]at w2;cases dx<;>cases e1
   | stuck=>rw[e1]at w2;exact w2.elim
   | ok xs =>
    rw[e1]at w2
    have w3:WG F H1 Z1 (R.bind (if xs.length≤16777216 then R.ok xs else R.stuck) fun xs=>R.ok (enD xs 0)) _:=w2
    split at w3
    ·rename_i hl1
     obtain⟨b1,a1,us1,rfl,s1,t1⟩:=ug e1 q1
     rw[bx.K]
     exact⟨b1,a1,rfl,⟨us1,s1.mono ok1.sub⟩,WG.now w3 ok1.sub _ (nG s1 t1) (by rw[jt];exact hl1)⟩
    ·exact w3.elim
end
section
variable {X:Cx}{F:Fx}{a:Expr}{ga:SS→R D}{k:Nat}{p p2 pos pos2:Pos}
end
section
variable {prog:Program}{w:World}{A:Around}{E:Value→Shared→Prop}{s:Shared}
end
section
variable {X:Cx}{F:Fx}
variable {σ:Type}{S:SS}{rest:List Stmt}{J:σ→SS→Prop}{e:Expr}{ge:SS→R D}{r:R D}{n:Nat}
end
section
variable {X:Cx}{F:Fx}
end
def capB (XN:List Str)(scope:Scope)(N:List Str)(own:Nat):Nat→List Nat→Bool
 | _,[]=>true
 | j,i::r=>(match N[own+j]?,XN[i]? with
  | some x,some y=>x==y&&scope.names.lookup x==some .free
  | _,_=>false)&&capB XN scope N own (j+1) r
def blkB (XN:List Str)(osc scope:Scope)(N:List Str)(own:Nat)(cap:List Nat):Bool :=
 scope.kind==.function&&(scope.names.all fun y=>scope.names.lookup y.1==some y.2)&&(scope.names.all fun y=>!(y.2==.free)||(osc.names.lookup y.1==some .cell||osc.names.lookup y.1==some .free))&&N.length==own+cap.length&&capB XN scope N own 0 cap
theorem mr {XN:List Str}{scope:Scope}{N:List Str}{own:Nat}:∀ {cap:List Nat} {k:Nat},capB XN scope N own k cap=true→∀ j i,cap[j]?=some i→∃ x,N[own+(k+j)]?=some x∧XN[i]?=some x∧scope.names.lookup x=some .free
 | [],_,_,j,i,e=>by simp at e
 | c::r,k,h,j,i,e=>by
  unfold capB at h
  rw[Bool.and_eq_true]at h
  cases j with
  | zero =>
   simp only[List.getElem?_cons_zero,Option.some.injEq]at e
   subst e
   have h1:=h.1
   split at h1
   ·rename_i x y e1 e2
    rw[Bool.and_eq_true]at h1
    have:=eq_of_beq h1.1
    subst this
    exact⟨x,by rw[Nat.add_zero];exact e1,e2,eq_of_beq h1.2⟩
   ·cases h1
  | succ j =>
   obtain⟨x,a,b⟩:=mr h.2 j i (by simpa using e)
   exact⟨x,by rw[← a];congr 1;omega,b⟩
theorem BlkOk.of {XN:List Str}{osc scope:Scope}{N:List Str}{own:Nat}{cap:List Nat}(h:blkB XN osc scope N own cap=true):BlkOk XN osc scope N own cap:=by
 unfold blkB at h
 simp only[Bool.and_eq_true,List.all_eq_true]at h
 obtain⟨⟨⟨⟨h1,h2⟩,h3⟩,h4⟩,h5⟩:=h
 have look:∀ y∈scope.names,scope.names.lookup y.1=some y.2:=fun y hy=>eq_of_beq (h2 y hy)
 refine⟨eq_of_beq h1,fun y hy e=>by rw[look y hy,e],fun y hy e=>by rw[look y hy,e],fun y hy e=>by rw[look y hy,e],fun y hy e=>?_,eq_of_beq h4,fun j i e=>?_⟩
 ·have:=h3 y hy
  rw[e]at this
  simp only[beq_self_eq_true,Bool.not_true,Bool.false_or,Bool.or_eq_true]at this
  rcases this with z | z
  ·exact .inl (eq_of_beq z)
  ·exact .inr (eq_of_beq z)
 ·have:=mr h5 j i e
  rw[Nat.zero_add]at this
  exact this
section
variable {X:Cx}{F:Fx}{o e:Expr}{g:SS→R D}{gs:List (SS→R D)}{apos cpos:Pos}{k:Nat}
end
def OkD (P:Program)(w:World)(K:PySem.W.Frag)(mg:Str→Option Value)(base:Heap)(C:Nat→Addr)(k:Nat)(x:Str)(st:Stmt)(ps:List Str)(fn:List D→R D):Prop :=
 ∀ {f:Addr} {fd:FuncData},Fun K x x st f fd→FnOk P w K mg base (CXE P w) (k+1) f fd ps (spF K C ps.length fn)
def OkB (P:Program)(w:World)(K:PySem.W.Frag)(mg:Str→Option Value)(base:Heap)(C:Nat→Addr)(k:Nat)(N:List Str)(x:Str)(st:Stmt)(ds:List D)(l:L Unit):Prop :=
 ∀ (f:Addr) (cdv:Value) (A:Around) (outer:List Env) (s:Shared) (H Z:Hp) (E:XK),BX (bodyX P w K mg base N x (defScope st) f cdv A outer s H E) ⟨K,C,H,Z,E⟩ k →
  PassesOwn (model P w) (bodyX P w K mg base N x (defScope st) f cdv A outer s H E).A (bodyX P w K mg base N x (defScope st) f cdv A outer s H E).env (bodyX P w K mg base N x (defScope st) f cdv A outer s H E).xe →
  MadeX (bodyX P w K mg base N x (defScope st) f cdv A outer s H E) ⟨K,C,H,Z,E⟩→FL (bodyX P w K mg base N x (defScope st) f cdv A outer s H E) ⟨K,C,H,Z,E⟩ (startS N.length ds) (defBody st) JU l
theorem mkSc {N ps:List Str}{sc:Scope}(a:sc.kind=.function:=by rfl)(b:sc.isCoroutine=false:=by rfl)(c:sc.isGenerator=false:=by rfl)(d:N.Nodup:=by decide +kernel)(e:N.take ps.length=ps:=by rfl)
  (f:∀ x∈ps,sc.names.lookup x=some .local∨sc.names.lookup x=some .cell:=by decide +kernel) (g:∀ y∈sc.names,y.2≠.free:=by decide +kernel):FnScope N ps sc:=⟨a,b,c,d,e,f,g⟩
section
variable {P:Program}{w:World}{K:PySem.W.Frag}{mg:Str→Option Value}{base:Heap}{C:Nat→Addr}{k:Nat}{N ps:List Str}{x:Str}{st:Stmt}
theorem okd {fn:List D→R D}(S:FnScope N ps (defScope st))(h:∀ ds,ds.length=ps.length→∃ l,fn ds=outL l∧OkB P w K mg base C k N x st ds l):OkD P w K mg base C k x st ps fn:=fun F =>
 rF F S fun cdv A outer s H Z E bx hp md ds hl=>by
  obtain⟨l,e,o⟩:=h ds hl
  exact⟨l,e,o _ cdv A outer s H Z E bx hp md⟩
theorem ok1 {p:Str}{c:D→L Unit}(S:FnScope N [p] (defScope st))(h:∀ a,OkB P w K mg base C k N x st [a] (c a)):OkD P w K mg base C k x st [p] (a1 c):=okd S fun ds hl=>by obtain⟨a,rfl⟩:=len1 hl;exact⟨c a,rfl,h a⟩
theorem ok2 {p q:Str}{c:D→D→L Unit}(S:FnScope N [p,q] (defScope st))(h:∀ a b,OkB P w K mg base C k N x st [a,b] (c a b)):OkD P w K mg base C k x st [p,q] (a2 c):=okd S fun ds hl=>by obtain⟨a,b,rfl⟩:=len2 hl;exact⟨c a b,rfl,h a b⟩
theorem ok3 {p q r:Str}{c:D→D→D→L Unit}(S:FnScope N [p,q,r] (defScope st))(h:∀ a b d,OkB P w K mg base C k N x st [a,b,d] (c a b d)):OkD P w K mg base C k x st [p,q,r] (a3 c):=okd S fun ds hl=>by obtain⟨a,b,d,rfl⟩:=len3 hl;exact⟨c a b d,rfl,h a b d⟩
theorem ok4 {p q r s:Str}{c:D→D→D→D→L Unit}(S:FnScope N [p,q,r,s] (defScope st))(h:∀ a b d e,OkB P w K mg base C k N x st [a,b,d,e] (c a b d e)):OkD P w K mg base C k x st [p,q,r,s] (a4 c):=okd S fun ds hl=>by obtain⟨a,b,d,e,rfl⟩:=len4 hl;exact⟨c a b d e,rfl,h a b d e⟩
theorem ok5 {p q r s t:Str}{c:D→D→D→D→D→L Unit}(S:FnScope N [p,q,r,s,t] (defScope st))(h:∀ a b d e f,OkB P w K mg base C k N x st [a,b,d,e,f] (c a b d e f)):OkD P w K mg base C k x st [p,q,r,s,t] (a5 c):=okd S fun ds hl=>by obtain⟨a,b,d,e,f,rfl⟩:=len5 hl;exact⟨c a b d e f,rfl,h a b d e f⟩
structure Fd (K:PySem.W.Frag)(mg:Str→Option Value)(x:Str)(ps:List Str)(st:Stmt):Prop where
 ex:∃ a fd,Fun K x x st a fd∧mg x=some (.ref a)∧Binds K fd ps []
theorem kb {f:Addr}{fd:FuncData}{n:Nat}:FnOk P w K mg base (CXE P w) k f fd ps (spF K C n fun _=>.stuck) :=
 ⟨fun vs H Q E h=>by obtain⟨_,_,_,_,_,z⟩:=h;exact z.elim,fun A outer s H args us vs Q E _ _ _ _ h=>by obtain⟨_,_,_,_,_,z⟩:=h;exact z.elim⟩
theorem u3 {i:Nat}(F:Fd K mg x ps st)(hf:mg x=some (.ref (C i))):FnV P w K mg base C 0 i fun _=>.stuck:=by
 obtain⟨a,fd,F,h,b⟩:=F.ex
 rw[hf]at h
 cases h
 exact⟨fd,ps,kb,F.kp,b,fun _ _=>rfl⟩
theorem u4 {i:Nat}{fn:List D→R D}(F:Fd K mg x ps st)(hf:mg x=some (.ref (C i)))(ok:OkD P w K mg base C k x st ps fn)(hl:∀ ds,ds.length≠ps.length→fn ds=.stuck):FnV P w K mg base C (k+1) i fn:=by
 obtain⟨a,fd,F,h,b⟩:=F.ex
 rw[hf]at h
 cases h
 exact⟨fd,ps,ok F,F.kp,b,hl⟩
theorem g0 (F:Fd K mg x ps st):Fn1 P w K mg base C 0 x ps (fun _=>.stuck):=by obtain⟨a,fd,F,h,b⟩:=F.ex;exact⟨a,fd,kb,h,F.kp,b⟩
theorem g1 {fn:List D→R D}(F:Fd K mg x ps st)(ok:OkD P w K mg base C k x st ps fn):Fn1 P w K mg base C (k+1) x ps fn:=by obtain⟨a,fd,F,h,b⟩:=F.ex;exact⟨a,fd,ok F,h,F.kp,b⟩
section
variable {h:Heap}{f:Addr}{oc:Value}{od an:Option Addr}{osl:Array (Option Value)}{kV doc pm cdv ct:Value}
theorem u5 (X:K.In h)(G:h.Ns mainGlobals mg)(hb:∀ (kV doc pm:Value) (an:Option Addr) (cdv ct:Value) (us:List Value),us.length=ps.length→bindArgs (PySem.W.fnOf x x (defArgs st) (defBody st) (defScope st) .none kV doc pm an cdv ct) ⟨us,[]⟩=pure (ps.zip us))
  (a:PySem.W.nsIn K mainGlobals x=some (some (.ref f))) (l:K.lookup f=some ⟨oc,od,.func (PySem.W.fnOf x x (defArgs st) (defBody st) (defScope st) .none kV doc pm an cdv ct),osl⟩) (c:PySem.W.codeIn K cdv x=true) (k:PySem.W.keepIn K (.ref f)=true):Fd K mg x ps st :=
 ⟨f,_,kP l c k,PySem.W.mg_of X G a,(kP l c k).binds hb⟩
end
theorem ln1 {us:List Value}(h:us.length=1):∃ a,us=[a]:=match us,h with | [a],_=>⟨a,rfl⟩
theorem ln2 {us:List Value}(h:us.length=2):∃ a b,us=[a,b]:=match us,h with | [a,b],_=>⟨a,b,rfl⟩
theorem ln3 {us:List Value}(h:us.length=3):∃ a b c,us=[a,b,c]:=match us,h with | [a,b,c],_=>⟨a,b,c,rfl⟩
theorem ln4 {us:List Value}(h:us.length=4):∃ a b c d,us=[a,b,c,d]:=match us,h with | [a,b,c,d],_=>⟨a,b,c,d,rfl⟩
end
abbrev Ng (K:PySem.W.Frag)(x:Str)(v:Option Value):Prop:=PySem.W.nsIn K mainGlobals x=some v
theorem ay {K:PySem.W.Frag}{n c:Addr}{b:Bool}{cd:ClassData}(hd:PySem.W.clsIn K c=some cd)(hy:PySem.W.typeIn K (.ref c)=some (.type "type"))(hs:PySem.W.subIn K (.ref n) (.ref c)=some b)(hn:PySem.W.subIn K (.ref n) (.ref n)=some true):PySem.W.kitOne K (.ref n) (.ref c)=some b:=by
 unfold PySem.W.kitOne
 by_cases e:n=c
 ·subst e
  rw[hn]at hs
  rw[if_pos (by simp)]
  exact hs
 ·rw[if_neg (by simpa using e)]
  show (if ((PySem.W.clsIn K c).isSome&&PySem.W.typeIn K (.ref c)==some (.type "type"))=true then PySem.W.subIn K (.ref n) (.ref c) else none)=some b
  rw[hd,hy,if_pos (by simp)]
  exact hs
theorem k8 {K:PySem.W.Frag}{n:Addr}(hs:PySem.W.subIn K (.ref n) (.type "ValueError")=some true):PySem.W.kitOne K (.ref n) (.type "ValueError")=some true:=by
 unfold PySem.W.kitOne
 rw[if_neg (by simp)]
 show (if PySem.W.kitMeta "ValueError"=true then PySem.W.subIn K (.ref n) (.type "ValueError") else none)=some true
 rw[if_pos (by decide +kernel)]
 exact hs
theorem mt {K:PySem.W.Frag}{C:Nat→Addr}{Z:Hp}:∀ ns:List Int,Reps K C Z (ns.map .int) (ns.map V.int)
 | []=>by rw[List.map_nil,List.map_nil,Reps]
 | i::ns=>by rw[List.map_cons,List.map_cons,Reps];exact⟨_,_,rfl,aI,mt ns⟩
section
variable {σ:Type}{X:Cx}{F:Fx}{S:SS}{J:σ→SS→Prop}
end
section
variable {X:Cx}{F:Fx}{e ey ex:Expr}{ge gy gx:SS→R D}{x:Str}{pos:Pos}{k:Nat}
end
section
variable {X:Cx}{F:Fx}{tg iter elt:Expr}{scope:Scope}{N:List Str}{own:Nat}{cap:List Nat}{pos:Pos}{git:SS→R (List D)}
end
section
variable {X:Cx}{F:Fx}{tg iter elt:Expr}{ifs:List Expr}{scope:Scope}{N:List Str}{own:Nat}{cap:List Nat}{pos:Pos}{git:SS→R (List D)}{g:D→SS→R SS}{gc:SS→R Bool}{ge:SS→R D}
end
section
variable {X:Cx}{F:Fx}{p pos p1 p2 p3:Pos}{e:Expr}{g:SS→R D}{k:Nat}
end
end FF
end
noncomputable section
namespace L2
open PySem PySem.Spec PyProof.Rows
section
variable {κ:Type}[DecidableEq κ]
def valV (kvs:List (κ×V))(k:κ):Option V:=(kvs.find? fun kv=>decide (kv.1=k)).map (·.2)
theorem pM {p:κ×V}{r:List (κ×V)}{k:κ}(e:p.1=k):valV (p::r) k=some p.2:=by simp[valV,List.find?_cons,e]
theorem pN {p:κ×V}{r:List (κ×V)}{k:κ}(e:¬ p.1=k):valV (p::r) k=valV r k:=by simp[valV,List.find?_cons,e]
theorem KV.any {kvs:List (κ×V)}{vs:List (κ×Value)}(r:KV kvs vs)(k:κ):(kvs.any fun kv=>decide (kv.1=k))=vs.any fun kv=>decide (kv.1=k):=by
 unfold KV at r
 induction r with
 | nil=>rfl
 | cons h t ih=>rw[List.any_cons,List.any_cons,ih,h.1]
theorem KV.length {kvs:List (κ×V)}{vs:List (κ×Value)}(r:KV kvs vs):kvs.length=vs.length:=Paired.length r
end
section
variable {P:Program}{w:World}{H:Hp}{h:Heap}{a:Addr}
end
section
variable {X:Cx}{pins:List (Addr×Obj)}{σ:St}{H:Hp}{s:Shared}{a:Addr}{y v:V}{u r:Value}{o:Option V}{A:Around}{E:Value→Shared→Prop}
end
section
variable {X:Cx}{pins:List (Addr×Obj)}{σ:St}{H:Hp}{s:Shared}{a:Addr}{kvs:List (Key×V)}{k:Key}{u:Value}{A:Around}{E:Value→Shared→Prop}
end
section
variable {X:Cx}{o i e value:Expr}{pos pos' tpos:Pos}{td ty tv:TE}
end
section
variable {X:Cx}{pos:Pos}
end
section
variable {X:Cx}{pins:List (Addr×Obj)}{σ:St}{H:Hp}{s:Shared}{a:Addr}{y d:V}{u r:Value}{o:Option V}{A:Around}{E:Value→Shared→Prop}
end
section
variable {X:Cx}{o e f:Expr}{apos cpos:Pos}{td ty tx:TE}
end
section
variable {X:Cx}{pins:List (Addr×Obj)}{σ:St}{H:Hp}{s:Shared}{a:Addr}{kvs:List (Key×V)}{A:Around}{E:Value→Shared→Prop}
end
section
variable {X:Cx}{pins:List (Addr×Obj)}{σ:St}{H:Hp}{s:Shared}{a:Addr}{y:V}{u:Value}{A:Around}{E:Value→Shared→Prop}
end
end L2
end
noncomputable section
namespace FF
open PySem PySem.Spec PyProof.Rows L2
def dicGet {κ:Type}[DecidableEq κ](m:List (κ×D))(k:κ):Option D:=(m.find? fun p=>decide (p.1=k)).map (·.2)
section
variable {κ:Type}{F:Fx}{Z:Hp}{m:List (κ×D)}{kvs:List (κ×V)}{k:κ}{d:D}{v:V}
theorem Pairs.inv (h:Pairs F Z ((k,d)::m) kvs):∃ v r,kvs=(k,v)::r∧Rep F.K F.C Z d v∧Pairs F Z m r:=by
 cases kvs with
 | nil=>have:=h.1;cases this
 | cons p r =>
  obtain⟨k',v⟩:=p
  obtain⟨h1,h2⟩:=h
  rw[List.map_cons,List.map_cons]at h1
  injection h1 with h1 h3
  rw[List.map_cons,List.map_cons,Reps]at h2
  obtain⟨v',r',e,q1,q2⟩:=h2
  injection e with e1 e2
  subst e1 e2
  cases (show k'=k from h1)
  exact⟨v,r,rfl,q1,h3,q2⟩
theorem Pairs.inv0 (h:Pairs F Z ([]:List (κ×D)) kvs):kvs=[]:=by
 cases kvs with
 | nil=>rfl
 | cons p r=>have:=h.1;cases this
theorem Pairs.length (h:Pairs F Z m kvs):kvs.length=m.length:=by have:=congrArg List.length h.1;simpa using this
variable [DecidableEq κ]
theorem Pairs.get:∀ {m:List (κ×D)} {kvs:List (κ×V)},Pairs F Z m kvs→dicGet m k=some d→∃ v,valV kvs k=some v∧Rep F.K F.C Z d v
 | [],kvs,h,e=>nomatch e
 | (k',d')::m,kvs,h,e=>by
  obtain⟨v,q,rfl,h1,h2⟩:=h.inv
  unfold dicGet at e
  rw[List.find?_cons]at e
  by_cases hk:k'=k
  ·rw[decide_eq_true (show (k',d').1=k from hk)]at e
   cases e
   exact⟨v,pM (p:=(k',v)) hk,h1⟩
  ·rw[decide_eq_false (show ¬ (k',d').1=k from hk)]at e
   obtain⟨u,e1,e2⟩:=h2.get e
   exact⟨u,by rw[pN (p:=(k',v)) hk];exact e1,e2⟩
theorem Pairs.any:∀ {m:List (κ×D)} {kvs:List (κ×V)},Pairs F Z m kvs→(kvs.any fun kv=>decide (kv.1=k))=(m.any fun p=>decide (p.1=k))
 | [],kvs,h=>by rw[h.inv0];rfl
 | (k',d')::m,kvs,h=>by
  obtain⟨v,q,rfl,h1,h2⟩:=h.inv
  rw[List.any_cons,List.any_cons,h2.any]
end
section
variable {F:Fx}{H Z:Hp}{S:SS}{σ:St}
end
section
variable {X:Cx}{F:Fx}{pos p:Pos}{k:Nat}{g ge:SS→R D}{e ei:Expr}{x:Str}
end
section
variable {X:Cx}{F:Fx}{pos p:Pos}{keys:List (Option Expr)}{values:List Expr}{ks:List Key}{gs:List (SS→R D)}{g:SS→R D}{e:Expr}{x:Str}
end
def insS (i:Int):List Int→List Int
 | []=>[i]
 | a::r=>if i≤a then i::a::r else a::insS i r
def sortI (is:List Int):List Int:=is.foldr insS []
theorem eY (i:Int):∀ l:List Int,(insS i l).Perm (i::l)
 | []=>.refl _
 | a::r=>by
  unfold insS
  split
  ·exact .refl _
  ·exact((eY i r).cons a).trans (.swap i a r)
theorem bM:∀ is:List Int,(sortI is).Perm is
 | []=>.refl _
 | i::is=>(eY i _).trans ((bM is).cons i)
theorem mw (i:Int):∀ l:List Int,l.Pairwise (·≤·)→(insS i l).Pairwise (·≤·)
 | [],_=>by unfold insS;exact List.pairwise_singleton _ _
 | a::r,h=>by
  unfold insS
  have h1:=List.pairwise_cons.mp h
  split
  ·rename_i q
   exact List.pairwise_cons.mpr ⟨fun b hb=>by rcases List.mem_cons.mp hb with rfl | hb;exact q;exact Int.le_trans q (h1.1 b hb),h⟩
  ·rename_i q
   exact List.pairwise_cons.mpr ⟨fun b hb=>by rcases List.mem_cons.mp ((eY i r).subset hb) with rfl | hb;omega;exact h1.1 b hb,mw i r h1.2⟩
theorem dW:∀ is:List Int,(sortI is).Pairwise (·≤·)
 | []=>.nil
 | i::is=>mw i _ (dW is)
theorem dq:∀ {a b:List Int},a.Perm b→a.Pairwise (·≤·)→b.Pairwise (·≤·)→a=b
 | [],b,p,_,_=>(List.nil_perm.mp p).symm
 | x::xs,[],p,_,_=>nomatch p.length_eq
 | x::xs,y::ys,p,ha,hb=>by
  have h1:=List.pairwise_cons.mp ha
  have h2:=List.pairwise_cons.mp hb
  have e:x=y:=by
   have m1:x∈y::ys:=p.subset List.mem_cons_self
   have m2:y∈x::xs:=p.symm.subset List.mem_cons_self
   rcases List.mem_cons.mp m1 with e | m1
   ·exact e
   ·rcases List.mem_cons.mp m2 with e | m2
    ·exact e.symm
    ·have a1:=h1.1 y m2
     have a2:=h2.1 x m1
     omega
  subst e
  rw[dq (List.Perm.cons_inv p) h1.2 h2.2]
section
variable {X:Cx}{F:Fx}{p pos:Pos}{e:Expr}{gs:SS→R (List D)}{k:Nat}
theorem gW {F:Fx}{Z:Hp}:∀ is:List Int,Reps F.K F.C Z (is.map .int) (is.map V.int)
 | []=>Reps.nil
 | i::is=>Reps.cons aI (gW is)
end
section
variable {X:Cx}{F:Fx}{pos p:Pos}{k:Nat}{ga gb:SS→R D}{a b:Expr}{x:Str}
end
section
variable {prog:Program}{w:World}{A:Around}{E:Value→Shared→Prop}{s:Shared}
end
section
variable {X:Cx}{F:Fx}{e st:Expr}{te:TE}{g:SS→R D}{pos p2:Pos}
end
end FF
end
noncomputable section
namespace HT
open PySem PyProof.Rows
section
open PySem.SeqAt
open PySem.AutoSeq1 (wpAny_loadPart')
open PySem.MeetsSeq PySem.MeetsSeq2 PySem.MeetsSeq3
end
section
variable {prog:Program}{w:World}{A:Around}{E:Value→Shared→Prop}{s:Shared}
end
end HT
end
noncomputable section
namespace FF
open PySem PySem.Spec PyProof.Rows L2
section
variable {X:Cx}{F:Fx}{a b:Expr}{ga gb:SS→R D}{pos:Pos}{k:Nat}
end
section
variable {M:Model}{A:Around}{E:Value→Shared→Prop}{s:Shared}
end
section
variable {P:Program}{w:World}{K:PySem.W.Frag}{mg:Str→Option Value}{base:Heap}{N:List Str}{qual:Str}{scope:Scope}{f:Addr}{cd:Value}{A:Around}{outer:List Env}{s0:Shared}{H0:Hp}{E:XK}
end
section
variable {X:Cx}{E:XK}{scope:Scope}{cl:List (Str×Addr)}{C:Addr}{s:Shared}{H:Hp}{fp:List Addr}{N:List Str}{pins:List (Addr×Obj)}{σ:L2.St}{H1:Hp}{s1:Shared}
end
section
variable {X:Cx}{E:XK}{elt tg iter:Expr}{scope:Scope}{N:List Str}{own:Nat}{cap:List Nat}{pos:Pos}{wi:TI}{g:TG}{tc:TT}{te:TE}
set_option maxHeartbeats 4000000 in
end
section
variable {X:Cx}{F:Fx}{tg iter elt:Expr}{scope:Scope}{N:List Str}{own:Nat}{cap:List Nat}{pos:Pos}{git:SS→R (List D)}{g:D→SS→R SS}{ge:SS→R D}
end
section
variable {X:Cx}{F:Fx}{p pos:Pos}{e:Expr}{kws:List Keyword}{gs:SS→R (List D)}{k:Nat}
end
section
variable {X:Cx}{F:Fx}{tg:Expr}{gs:SS→R (List D)}
end
section
variable {prog:Program}{w:World}{A:Around}{E:Value→Shared→Prop}{R:Result→Shared→Prop}{h₀:Heap}{l I S:Addr}{its:List Value}{ks:Nat→List Int}{s0:Shared}
end
section
variable {X:Cx}{F:Fx}{p pos:Pos}{e:Expr}{gs:SS→R (List D)}{k:Nat}
end
section
variable {X:Cx}{F:Fx}{p pos:Pos}{e:Expr}{gs:SS→R (List D)}{k:Nat}
end
def Rise (xs:Array Nat):Prop:=xs.toList.Pairwise (· < ·)
theorem gp {xs:Array Nat}{k d:Nat}(h:k < xs.size):xs.getD k d=xs[k]:=by simp[Array.getD,h]
theorem gq {xs:Array Nat}(r:Rise xs){i j:Nat}(hij:i < j)(hj:j < xs.size):xs[i]'(by omega) < xs[j]:=by
 have:=List.pairwise_iff_getElem.mp r i j (by simpa using (by omega:i < xs.size)) (by simpa using hj) hij
 simpa using this
theorem gX {xs:Array Nat}(r:Rise xs)(j:Nat):∀ (fuel lo hi:Nat),hi - lo≤fuel→lo≤hi→hi≤xs.size→(∀ k (h:k < xs.size),k < lo→xs[k] < j)→(∀ k (h:k < xs.size),hi≤k→j≤xs[k]) →
  (∀ k (h:k < xs.size),k < SetTable.below.go xs j fuel lo hi→xs[k] < j)∧(∀ k (h:k < xs.size),SetTable.below.go xs j fuel lo hi≤k→j≤xs[k])∧SetTable.below.go xs j fuel lo hi≤xs.size
 | 0,lo,hi,hf,h1,h2,a,b=>by
  have:lo=hi:=by omega
  subst this
  exact⟨a,b,h2⟩
 | fuel+1,lo,hi,hf,h1,h2,a,b=>by
  unfold SetTable.below.go
  by_cases h:lo < hi
  ·rw[if_pos h]
   dsimp only
   have hm:(lo+hi)/2 < xs.size:=by omega
   by_cases c:xs.getD ((lo+hi)/2) j < j
   ·rw[if_pos c]
    rw[gp hm]at c
    refine gX r j fuel _ hi (by omega) (by omega) h2 (fun k hk hkl=>?_) b
    by_cases e:k=(lo+hi)/2
    ·subst e;exact c
    ·exact Nat.lt_trans (gq r (show k < (lo+hi)/2 by omega) hm) c
   ·rw[if_neg c]
    rw[gp hm]at c
    refine gX r j fuel lo _ (by omega) (by omega) (by omega) a (fun k hk hkl=>?_)
    by_cases e:k=(lo+hi)/2
    ·subst e;omega
    ·have:=gq r (show (lo+hi)/2 < k by omega) hk;omega
  ·rw[if_neg h]
   have:lo=hi:=by omega
   subst this
   exact⟨a,b,h2⟩
theorem gY {xs:Array Nat}(r:Rise xs)(j:Nat):(∀ k (h:k < xs.size),k < SetTable.below xs j→xs[k] < j)∧(∀ k (h:k < xs.size),SetTable.below xs j≤k→j≤xs[k])∧SetTable.below xs j≤xs.size :=
 gX r j xs.size 0 xs.size (by omega) (by omega) (Nat.le_refl _) (fun k _ h=>absurd h (Nat.not_lt_zero _)) (fun k h h'=>absurd h (by omega))
theorem nH {xs:Array Nat}(r:Rise xs){j:Nat}(h:xs[SetTable.below xs j]?≠some j):j∉xs.toList:=fun hm=>by
 obtain⟨k,hk,e⟩:=List.getElem_of_mem hm
 have hk':k < xs.size:=by simpa using hk
 have e':xs[k]=j:=by simpa using e
 obtain⟨a,b,c⟩:=gY r j
 have h1:¬ k < SetTable.below xs j:=fun z=>by have:=a k hk' z;omega
 have h2:¬ SetTable.below xs j < k:=fun z=>by
  have hb:SetTable.below xs j < xs.size:=by omega
  have:=b _ hb (Nat.le_refl _)
  have:=gq r z hk'
  omega
 have:SetTable.below xs j=k:=by omega
 rw[this,Array.getElem?_eq_getElem hk',e']at h
 exact h rfl
theorem kc {xs:Array Nat}(r:Rise xs){j:Nat}(hn:j∉xs.toList):Rise (SetTable.insertAt xs (SetTable.below xs j) j):=by
 obtain⟨a,b,c⟩:=gY r j
 unfold Rise
 rw[SetTable.toList_insertAt]
 have lo:∀ y∈xs.toList.take (SetTable.below xs j),y < j:=fun y hy=>by
  obtain⟨k,hk,e⟩:=List.getElem_of_mem hy
  rw[List.length_take]at hk
  have hk':k < xs.size:=by
   have:k < xs.toList.length:=by omega
   simpa using this
  rw[List.getElem_take]at e
  have:=a k hk' (by omega)
  have e':xs[k]=y:=by simpa using e
  omega
 have hi:∀ y∈xs.toList.drop (SetTable.below xs j),j < y:=fun y hy=>by
  obtain⟨k,hk,e⟩:=List.getElem_of_mem hy
  rw[List.length_drop]at hk
  rw[List.getElem_drop]at e
  have hk':SetTable.below xs j+k < xs.size:=by
   have:SetTable.below xs j+k < xs.toList.length:=by omega
   simpa using this
  have:=b _ hk' (by omega)
  have e':xs[SetTable.below xs j+k]=y:=by simpa using e
  have ne:y≠j:=fun z=>hn (by rw[← z];exact List.mem_of_mem_drop hy)
  omega
 refine List.pairwise_append.mpr ⟨r.sublist (List.take_sublist _ _),List.pairwise_cons.mpr ⟨hi,r.sublist (List.drop_sublist _ _)⟩,fun x hx y hy=>?_⟩
 rcases List.mem_cons.mp hy with rfl | hy
 ·exact lo x hx
 ·exact Nat.lt_trans (lo x hx) (hi y hy)
theorem cm (n:Nat):Rise (Array.range n):=by
 unfold Rise
 rw[Array.toList_range]
 exact List.pairwise_lt_range
theorem dg (t:SetTable)(p:SetTable.Probe):(t.advance p).dummy=p.dummy:=by
 unfold SetTable.advance
 split
 ·rfl
 ·rfl
theorem dr {t:SetTable}(r:Rise t.place)(ha:Nat→Int)(h:Int):∀ (fuel:Nat) (p:SetTable.Probe) {j:Nat} {d:Option Nat},(∀ x,p.dummy=some x→x∉t.place.toList)→SetTable.probe.go t ha h fuel p=some (.empty j d)→d.getD j∉t.place.toList
 | 0,p,j,d,hp,e=>by simp[SetTable.probe.go]at e
 | fuel+1,p,j,d,hp,e=>by
  unfold SetTable.probe.go at e
  have nl:t.slot p.j≠.live (SetTable.below t.place p.j)→p.j∉t.place.toList:=fun hs=>nH r fun z=>hs (by unfold SetTable.slot;simp[z])
  split at e
  ·rename_i hs
   cases e
   cases hd:p.dummy with
   | none=>exact nl (by rw[hs];simp)
   | some x=>exact hp x hd
  ·rename_i hs
   refine dr r ha h fuel _ (fun x hx=>?_) e
   rw[dg]at hx
   cases hx
   exact nl (by rw[hs];simp)
  ·split at e
   ·cases e
   ·refine dr r ha h fuel _ (fun x hx=>?_) e
    rw[dg]at hx
    exact hp x hx
theorem iC {t:SetTable}(r:Rise t.place){h:Int}{slot:Nat}{w:Bool}(e:t.freeSlot h=some (slot,w)):slot∉t.place.toList:=by
 unfold SetTable.freeSlot at e
 split at e
 ·rename_i j d hp
  cases e
  exact dr r _ h _ _ (fun x hx=>by simp[SetTable.probeStart]at hx) hp
 ·cases e
theorem ju {t:SetTable}(r:Rise t.place)(n:Nat):Rise (t.orStandIn n).place∧(t.orStandIn n).led=t.led:=by
 unfold SetTable.orStandIn
 split
 ·exact⟨r,rfl⟩
 ·exact⟨cm _,rfl⟩
theorem kd {t:SetTable}{es:Array (Int×Value)}{h:Int}{x:Value}(r:Rise t.place):Rise (layNew t es h x).2.1.place∧(layNew t es h x).2.1.led=t.led:=by
 unfold layNew
 split
 ·rename_i slot w e
  have hn:=iC r e
  exact ju (t:=(t.put slot).1) (kc r hn) _
 ·exact⟨cm _,rfl⟩
theorem k9 {t:SetTable}{es:Array (Int×Value)}{n:Nat}:Rise (relayAll t es n).2.1.place∧(relayAll t es n).2.1.led=t.led:=by
 unfold relayAll
 split
 ·rename_i t' order e
  dsimp only
  split
  ·unfold SetTable.relaid SetTable.laid at e
   simp only[Option.bind_eq_bind,Option.bind_eq_some_iff,Option.pure_def,Option.some.injEq,Prod.mk.injEq]at e
   obtain⟨ow,_,rfl,_⟩:=e
   refine⟨?_,rfl⟩
   unfold Rise
   dsimp only
   rw[List.map_filterMap]
   refine List.Pairwise.filterMap _ (fun a a' hlt b hb b' hb'=>?_) List.pairwise_lt_range
   simp only[Option.map_map,Option.map_eq_some_iff]at hb hb'
   obtain⟨_,_,rfl⟩:=hb
   obtain⟨_,_,rfl⟩:=hb'
   exact hlt
  ·exact⟨cm _,rfl⟩
 ·exact⟨cm _,rfl⟩
section
variable {prog:Program}{w:World}{A:Around}{E:Value→Shared→Prop}{s:Shared}
abbrev byT (w:World):Bool:=w.params.followText "set-order"
def SetR (prog:Program)(w:World)(h:Heap)(a:Addr)(ns:List Int):Prop:=∃ o es ep t,h.get? a=some o∧o.ExactSet∧o.data=.set es ep t∧ElemsOf (intKind prog w) es.toList∧IntsAre (es.toList.map (·.2)) ns ∧
 es.size < scanBound∧t.fits es.size=true∧Rise t.place∧t.led = !byT w
theorem cn {vs vs':List Value}(p:vs.Perm vs'):∀ {ns:List Int},IntsAre vs ns→∃ ns',IntsAre vs' ns'∧ns.Perm ns':=by
 induction p with
 | nil=>intro ns h;exact⟨ns,h,.refl _⟩
 | cons x _ ih =>
  intro ns h
  cases h with
  | cons n t hr =>
   obtain⟨ns',a,b⟩:=ih hr
   exact⟨n::ns',.cons n t a,b.cons n⟩
 | swap x y l =>
  intro ns h
  cases h with
  | cons n t hr =>
   cases hr with
   | cons m u hr=>exact⟨_,.cons m u (.cons n t hr),.swap m n _⟩
 | trans _ _ ih1 ih2 =>
  intro ns h
  obtain⟨n1,a,b⟩:=ih1 h
  obtain⟨n2,c,d⟩:=ih2 a
  exact⟨n2,c,b.trans d⟩
theorem fI:∀ {vs us:List Value} {ns ms:List Int},IntsAre vs ns→IntsAre us ms→IntsAre (vs++us) (ns++ms)
 | _,_,_,_,.nil,h=>h
 | _,_,_,_,.cons n t hr,h=>.cons n t (fI hr h)
theorem fJ:∀ {vs:List Value} {ns:List Int} {v:Value},IntsAre vs ns→v∈vs→∃ n t,n∈ns∧v=.int n t
 | _,_,v,.nil,h=>nomatch h
 | _,_,v,.cons n t hr,h=>by
  rcases List.mem_cons.mp h with rfl | h
  ·exact⟨n,t,.head _,rfl⟩
  ·obtain⟨m,u,a,b⟩:=fJ hr h
   exact⟨m,u,.tail _ a,b⟩
theorem dX:∀ {vs:List Value} {ns:List Int} {n:Int},IntsAre vs ns→n∈ns→∃ t,Value.int n t∈vs
 | _,_,n,.nil,h=>nomatch h
 | _,_,n,.cons m t hr,h=>by
  rcases List.mem_cons.mp h with rfl | h
  ·exact⟨t,.head _⟩
  ·obtain⟨u,a⟩:=dX hr h
   exact⟨u,.tail _ a⟩
theorem ke {a:Addr}{ns ns':List Int}{es:Array (Int×Value)}{t:SetTable}{Q:Unit→Shared→Prop}(hS:SetR prog w s.heap a ns)(el:ElemsOf (intKind prog w) es.toList)(hI:IntsAre (es.toList.map (·.2)) ns')(hb:es.size < scanBound)(hf:t.fits es.size=true)(hr:Rise t.place)(hl:t.led = !byT w)
  (q:∀ h',Heap.SameBut a s.heap h'→SetR prog w h' a ns'→Q () { s with heap:=h' }):wpAny (model prog w) A (storeSet a es t) Q E s:=by
 rcases hS with ⟨o,es0,ep0,t0,ho,hx,hd,-⟩
 have hp:=putSet_of es t hd
 refine wpAny_storeSet_of ho hd (q _ (.update ..) ⟨_,es,ep0+1,t,Heap.get?_update_self _ ho ?_,?_,?_,el,hI,hb,hf,hr,hl⟩) (fits_of_scanBound hb)
 ·rw[hp];rfl
 ·rw[hp];exact hx
 ·rw[hp]
theorem lb {a:Addr}{ns ns':List Int}{es:Array (Int×Value)}{t:SetTable}{dum:Bool}{g:Bool→Sem Unit}{Q:Option Bool→Shared→Prop}(hg:∀ b (s:Shared) (Q:Unit→Shared→Prop),Q () s→wpAny (model prog w) A (g b) Q E s)(hS:SetR prog w s.heap a ns)(el:ElemsOf (intKind prog w) es.toList)(hI:IntsAre (es.toList.map (·.2)) ns')(hb:es.size < scanBound)(hf:t.fits es.size=true)(hr:Rise t.place)(hl:t.led = !byT w)
  (q:∀ h' ms,Heap.SameBut a s.heap h'→SetR prog w h' a ms→ms.Perm ns'→Q (some true) { s with heap:=h' }) :
  wpAny (model prog w) A (do
   storeSet a es t
   if !dum&&t.tooFull then
    let r:=relayAll t es (SetTable.grown es.size)
    g r.2.2
    storeSet a r.1 r.2.1
   return some true) Q E s:=by
 refine wpAny_bind (ke hS el hI hb hf hr hl fun h1 k1 S1=>?_)
 by_cases c:(!dum&&t.tooFull)=true
 ·rw[if_pos c]
  dsimp only
  have pm:=relayAll_perm t es (SetTable.grown es.size)
  obtain⟨ms,mI,mp⟩:=cn (pm.symm.map (·.2)) hI
  have sz:(relayAll t es (SetTable.grown es.size)).1.size < scanBound:=by
   have:=pm.length_eq
   simp only[Array.length_toList]at this
   omega
  obtain⟨r1,r2⟩:=k9 (t:=t) (es:=es) (n:=SetTable.grown es.size)
  exact wpAny_bind (hg _ _ _ (wpAny_bind (ke (s:={ s with heap:=h1 }) S1 (el.perm pm) mI sz (relayAll_fits ..) r1 (r2.trans hl) fun h2 k2 S2=>wpAny_pure (q h2 ms (k1.trans k2) S2 mp.symm))))
 ·rw[if_neg c]
  exact wpAny_bind (wpAny_pure (wpAny_pure (q h1 ns' k1 S1 (.refl _))))
theorem kg {es:List (Int×Value)}{ns:List Int}{k:Int}(hI:IntsAre (es.map (·.2)) ns):(es.findIdx? fun e=>(intKind prog w).is k e.2)=none↔k∉ns:=by
 rw[List.findIdx?_eq_none_iff]
 constructor
 ·intro h z
  obtain⟨u,hu⟩:=dX hI z
  obtain⟨e,he,e2⟩:=List.mem_map.mp hu
  have:=h e he
  rw[e2,intKind_is]at this
  cases this
 ·intro h e he
  obtain⟨n,u,h1,h2⟩:=fJ hI (List.mem_map.mpr ⟨e,he,rfl⟩)
  rw[h2]
  by_cases z:(intKind prog w).is k (.int n u)=true
  ·exact absurd ((intKind prog w).inj _ k n z (intKind_is _ _ _ _) ▸ h1) h
  ·simpa using z
theorem pO {a:Addr}{ns:List Int}{k:Int}{tk:Tok}{Q:Bool→Shared→Prop}(hS:SetR prog w s.heap a ns)(hroom:ns.length+1 < scanBound)
  (h:∀ h' ns' b,Heap.SameBut a s.heap h'→SetR prog w h' a ns'→ns'.Perm (if k∈ns then ns else k::ns)→Q b { s with heap:=h' }) :
  wpAny (model prog w) A (setAddHashed a (.int k tk) ((intKind prog w).hash k)) Q E s:=by
 have again:=hS
 rcases hS with ⟨o,es,ep,t,ho,hx,hd,el,hI,hb,hf,hr,hl⟩
 have hlen:es.size=ns.length:=by simpa using hI.length
 unfold setAddHashed setAddHashedIn
 refine wpAny_holding (wpAny_bind (wpAny_setState_of ho hd hf ?_))
 simp only[byScan_of (show (Value.int k tk).scannable=true from rfl) hb el,if_true]
 refine wpAny_bind ?_
 unfold setAddByScan
 refine wpAny_bind (wpAny_rule (wpAny_bind (wpAny_setScan_of (intKind_is _ _ _ _) ho hd hf el ?_)))
 cases f:es.toList.findIdx? fun e=>(intKind prog w).is k e.2 with
 | some j =>
  have m:k∈ns:=Decidable.byContradiction fun z=>by rw[(kg hI).mpr z]at f;cases f
  exact wpAny_pure (wpAny_pure (h s.heap ns false (.refl ..) again (by rw[if_pos m])))
 | none =>
  have m:=(kg hI).mp f
  rw[if_neg m]at h
  have lay:=And.intro (layNew_perm t es ((intKind prog w).hash k) (.int k tk)) (And.intro (layNew_fits t es ((intKind prog w).hash k) (.int k tk)) (kd (t:=t) (es:=es) (h:=(intKind prog w).hash k) (x:=.int k tk) hr))
  dsimp only
  generalize layNew t es ((intKind prog w).hash k) (.int k tk)=z at lay ⊢
  obtain⟨es1,t1,dum,gv⟩:=z
  obtain⟨pm,ft,rs⟩:=lay
  dsimp only at pm ft rs ⊢
  rw[Array.toList_push]at pm
  have sz:=pm.length_eq
  simp only[Array.length_toList,List.length_append,List.length_singleton]at sz
  obtain⟨ms,mI,mp⟩:=cn (pm.symm.map (·.2)) (ns:=ns++[k]) (by rw[List.map_append];exact fI hI (.cons k tk .nil))
  have mk:ms.Perm (k::ns):=mp.symm.trans List.perm_append_comm
  have hg:∀ b (s:Shared) (Q:Unit→Shared→Prop),Q () s→wpAny (model prog w) A (match b with | true=>rule "set.scan.the-table-gave-way" | false=>pure ()) Q E s:=by
   intro b s Q q
   cases b
   ·exact wpAny_pure q
   ·exact wpAny_rule q
  refine wpAny_bind (hg _ _ _ ?_)
  have go:=lb (A:=A) (E:=E) (s:=s) hg (dum:=dum) (Q:=fun r s'=>wpAny (model prog w) A (match r with | some added=>pure added | none=>setAddHashedIn a (.int k tk) ((intKind prog w).hash k) 99999) Q E s') again ((el.push (intKind_is _ _ _ _) rfl).perm pm) mI (by omega) ft rs.1 (rs.2.trans hl) fun h' ns' k' S' p'=>wpAny_pure (h h' ns' true k' S' (p'.trans mk))
  split
  ·refine wpAny_bind ?_
   rw[hashByValue_scannable 8 (show (Value.int k tk).scannable=true from rfl)]
   exact wpAny_pure go
  ·exact wpAny_bind (wpAny_pure go)
end
theorem jv {k:Int}{ns ms:List Int}(hn:ns.Perm ms):(if k∈ns then ns else k::ns).Perm (if k∈ms then ms else k::ms):=by
 by_cases h:k∈ns
 ·rw[if_pos h,if_pos (hn.subset h)];exact hn
 ·rw[if_neg h,if_neg (fun z=>h (hn.symm.subset z))];exact hn.cons k
def addI (ms:List Int)(k:Int):List Int:=if k∈ms then ms else k::ms
def onceI (is:List Int):List Int:=is.foldl addI []
theorem pP (ms:List Int)(k:Int):(addI ms k).length≤ms.length+1:=by unfold addI;split<;>simp<;>omega
theorem pQ:∀ (is ms:List Int),(is.foldl addI ms).length≤ms.length+is.length
 | [],ms=>by simp
 | k::is,ms=>by
  have:=pQ is (addI ms k)
  have:=pP ms k
  rw[List.foldl_cons,List.length_cons];omega
theorem iZ:∀ (is ms:List Int),ms.length≤(is.foldl addI ms).length
 | [],ms=>Nat.le_refl _
 | k::is,ms=>by
  have:=iZ is (addI ms k)
  have:ms.length≤(addI ms k).length:=by unfold addI;split<;>simp
  rw[List.foldl_cons];omega
theorem nI (is:List Int)(i:Nat):((is.take i).foldl addI []).length≤(onceI is).length:=by
 have e:onceI is=(is.drop i).foldl addI ((is.take i).foldl addI []):=by
  unfold onceI
  rw[← List.foldl_append,List.take_append_drop]
 rw[e]
 exact iZ _ _
section
variable {prog:Program}{w:World}{A:Around}{E:Value→Shared→Prop}{s:Shared}{R:Result→Shared→Prop}
theorem pR {S I l:Addr}{items:List Value}{is:List Int}(hh:A.in1.handled=none)(hlI:l≠I)(hSI:S≠I)(hSl:S≠l)(hI:IntsAre items is)(hb:(onceI is).length+1 < scanBound) :
  ∀ (k i:Nat) (s1:Shared) (ns:List Int),items.length - i=k→i≤items.length→s1.heap.IsListIter I l i→s1.heap.IsList l items.toArray→SetR prog w s1.heap S ns→ns.Perm ((is.take i).foldl addI []) →
   (∀ h' tk ns',(∀ b o,b≠S→b≠I→s1.heap.get? b=some o→h'.get? b=some o)→SetR prog w h' S ns'→ns'.Perm (onceI is)→R (.ok (.ret .none)) { s1 with heap:=h',toks:=tk }) →
   codeAny (model prog w) A (.builtin "set.update.loop" ⟨[.ref S,.ref I],[]⟩) R s1:=by
 have W:=Walks.list (prog:=prog) (w:=w) (A:=A.in1) hh I l hlI items.toArray
 have hz:items.toArray.size=items.length:=List.size_toArray ..
 have hlen:=hI.length
 intro k
 induction k with
 | zero =>
  intro i s1 ns hk hi it ls hS hp hR
  have e:i=items.length:=by omega
  subst e
  refine codeAny_builtin PyProof.Rows.F.entry_set_update_loop ?_
  rw[Around.under_plainId PyProof.Rows.F.plain_set_update_loop _]
  show wpAny _ A.in1 (pyNext (.ref I) >>= _) _ _ s1
  refine wpAny_bind (W.done s1 _ _ ⟨by rw[hz];exact it,ls⟩ fun h' tk kk=>?_)
  have hp':ns.Perm (onceI is):=by
   rw[hlen,List.take_length]at hp;exact hp
  obtain⟨o,es,ep,t,ho,rest⟩:=hS
  exact wpAny_pure (hR h' tk ns (fun b o h1 h2 e=>kk b o (by simpa using h2) e) ⟨o,es,ep,t,kk S o (by simpa using hSI) ho,rest⟩ hp')
 | succ k ih =>
  intro i s1 ns hk hi it ls hS hp hR
  have hlt:i < items.length:=by omega
  refine codeAny_builtin PyProof.Rows.F.entry_set_update_loop ?_
  rw[Around.under_plainId PyProof.Rows.F.plain_set_update_loop _]
  show wpAny _ A.in1 (pyNext (.ref I) >>= _) _ _ s1
  refine wpAny_bind (W.item i s1 _ _ (by rw[hz];exact hlt) ⟨it,ls⟩ fun v h' tk hP st' kk=>?_)
  obtain⟨t,rfl⟩:=IntsAre.int_at hI i v (by simpa using hP)
  have hSk:SetR prog w h' S ns:=by
   obtain⟨o,es,ep,tb,ho,rest⟩:=hS
   exact⟨o,es,ep,tb,kk S o (by simpa using hSI) ho,rest⟩
  show wpAny _ A.in1 (holding [Value.int (is.getD i 0) t] (setAdd S (.int (is.getD i 0) t)) >>= _) _ _ _
  refine wpAny_bind (wpAny_holding ?_)
  unfold setAdd
  refine wpAny_holding (wpAny_bind ((intKind prog w).pyHash (k:=is.getD i 0) (intKind_is _ _ _ _) ?_))
  have hroom:ns.length+1 < scanBound:=by
   have h1:=hp.length_eq
   have h2:=nI is i
   omega
  refine pO (s:={ s1 with heap:=h',toks:=tk+1 }) hSk hroom fun h2 ns' b sb hS2 hp2=>?_
  have hp3:ns'.Perm ((is.take (i+1)).foldl addI []):=by
   have hi':i < is.length:=by omega
   rw[List.take_succ,List.getElem?_eq_getElem hi',Option.toList_some,List.foldl_append]
   have e:is.getD i 0=is[i]:=by simp[List.getD,hi']
   rw[e]at hp2
   exact hp2.trans (jv hp)
  obtain⟨oI,e1,e2,e3⟩:=id st'.1
  refine wpAny_pure ⟨plainId_quiet PyProof.Rows.F.plain_set_update_loop _,ih (i+1) _ ns' (by omega) hlt ⟨oI,(sb.2 I (Ne.symm hSI)).trans e1,e2,e3⟩ ?_ hS2 hp3 fun h3 tk3 ns3 k3 a b=>hR h3 tk3 ns3 (fun b o h1 h2 e=>k3 b o h1 h2 ((sb.2 b h1).trans (kk b o (by simpa using h2) e))) a b⟩
  obtain⟨ol,f1,f2⟩:=id st'.2
  exact⟨ol,(sb.2 l (Ne.symm hSl)).trans f1,f2⟩
theorem callT {T nid iid:String}{xs:List Value}{M Q:Value→Shared→Prop}(ft:TypeCalled T nid iid)(hc:checkTypeCall T ⟨xs,[]⟩=pure ())
  (hn:codeAny (model prog w) A.in1 (.call (.builtin nid) ⟨.type T::xs,[]⟩) (wants M E) s)
  (hi:∀ v s1,M v s1→s1.TypeIs v T∧codeAny (model prog w) A.in1 (.call (.builtin iid) ⟨v::xs,[]⟩) (wants (fun r s2=>r=.none∧Q v s2) E) s1):wpAny (model prog w) A (call (.type T) xs) Q E s:=by
 rcases ft with ⟨f1,f2,⟨c,tl,f3⟩,f4,f5,f6,f7⟩
 have go:wpAny (model prog w) (A.under (.call (.type T) ⟨xs,[]⟩)) (callAny (.type T) ⟨xs,[]⟩) (fun fin s'=>match fin with | .done f=>wants Q E (.ok f) s' | .again c'=>c'.quiet=true∧codeAny (model prog w) A c' (wants Q E) s') (fun e s'=>wants Q E (.error e) s') s→wpAny (model prog w) A (call (.type T) xs) Q E s:=fun h=>wpAny_call (codeAny_of_tree h)
 refine go (wpAny_pure ⟨Code.quiet_builtin _ (by decide +kernel),codeAny_builtin PySem.F.entry_type_call ?_⟩)
 rw[Around.under_plain rfl rfl]
 wp_walk
 refine codeAny_mono hn fun r s1 hr=>?_
 rcases r with e | (_ | _ | _ | v)<;>try exact hr
 ·obtain⟨hT,hi⟩:=hi v s1 hr
  refine wpAny_bind (wpAny_isInstance hT f6 ?_)
  rw[if_neg (by decide)]
  refine wpAny_bind (wpAny_holding (wpAny_callSpecial?_slot hT f7 (wpAny_call (codeAny_mono hi fun r2 s2 h2=>?_))))
  rcases r2 with e | (_ | _ | _ | u)<;>try exact h2
  ·obtain⟨rfl,q⟩:=h2
   exact wpAny_pure q
theorem pS (x:Value){Q:Value→Shared→Prop}(h:Q (.ref s.heap.objs.size) { s with heap:=s.heap.push { cls:=.type "set",dict:=none,data:=.set #[] 0 (.fresh 0 0 (!byT w)) } }) :
  codeAny (model prog w) A (.call (.builtin "set.__new__") ⟨[.type "set",x],[]⟩) (wants Q E) s:=by
 refine codeAny_call_builtin PySem.F.plain_set_new PySem.F.entry_set_new (wpAny_of_eq (PySem.F.newCall_set_1 x) ?_)
 unfold Builtin.«set.__new__» Builtin.Frozenset.newClass
 have hs:=sub_set_self
 wp_walk
 exact wpAny_askSetting (wpAny_pure (wpAny_newObj_type (wpAny_pure h) (by size_fits)))
abbrev bare (w:World):Obj:={ cls:=.type "set",dict:=none,data:=.set #[] 0 (.fresh 0 0 (!byT w)) }
theorem nJ {h:Heap}{S:Addr}(e:h.get? S=some (bare w)):SetR prog w h S []:=⟨_,#[],0,_,e,⟨rfl,rfl,rfl⟩,rfl,(fun e he=>by simp at he),.nil,by decide,rfl,List.Pairwise.nil,rfl⟩
theorem nK {S l:Addr}{items:List Value}{is:List Int}{Q:Shared→Prop}(hh:A.handled=none)(hS:s.heap.get? S=some (bare w))(hl:s.heap.IsList l items.toArray)(hI:IntsAre items is)(hb:(onceI is).length+1 < scanBound)
  (q:∀ h' tk ns,(∀ b o,b≠S→s.heap.get? b=some o→h'.get? b=some o)→SetR prog w h' S ns→ns.Perm (onceI is)→Q { s with heap:=h',toks:=tk }) :
  codeAny (model prog w) A (.call (.builtin "set.__init__") ⟨[.ref S,.ref l],[]⟩) (wants (fun r s'=>r=.none∧Q s') E) s:=by
 have hT:s.TypeIs (.ref S) "set" := ⟨_,hS,rfl⟩
 have hTl:s.TypeIs (.ref l) "list" := by
  rcases hl with ⟨o,ho,hc,-⟩
  exact⟨o,ho,hc⟩
 refine codeAny_call_builtin PySem.F.called_set.init.plain PySem.F.entry_set_init (check_set_init_1 hT ?_)
 unfold Builtin.«set.__init__» noKeywords
 wp_walk
 refine wpAny_of_eq PySem.F.sub_list_set (wpAny_isInstance hTl PySem.F.sub_list_frozenset ?_)
 rw[if_neg (by decide)]
 refine wpAny_bind (wpAny_typeOf hTl ?_)
 rw[if_neg (by decide)]
 have lt:S < s.heap.objs.size:=Heap.lt_size hS
 have ll:l < s.heap.objs.size:=by
  rcases hl with ⟨o,ho,-⟩
  exact Heap.lt_size ho
 have ne:S≠l:=fun e=>by
  rcases hl with ⟨o,ho,hc,-⟩
  rw[← e,hS,Option.some.injEq]at ho
  rw[← ho]at hc
  exact absurd hc (show ¬ Value.type "set"=Value.type "list" by decide)
 refine wpAny_bind (wpAny_pyIter_list hl (wpAny_bind (wpAny_runValue ?_)))
 refine pR (items:=items) (is:=is) (by simpa using hh) (Nat.ne_of_lt ll) (Nat.ne_of_lt lt) ne hI hb _ 0 _ [] rfl (Nat.zero_le _) ?_ ?_ ?_ (.refl _) fun h' tk ns k S' p=>?_
 ·exact⟨_,Heap.get?_push_size _ rfl,rfl,rfl⟩
 ·exact hl.push _
 ·exact nJ (Heap.get?_push_of_some _ hS)
 exact wpAny_pure (wpAny_pure ⟨rfl,q h' tk ns (fun b o hb e=>k b o hb (Nat.ne_of_lt (Heap.lt_size e)) (Heap.get?_push_of_some _ e)) S' p⟩)
theorem nM {l:Addr}{items:List Value}{is:List Int}{Q:Value→Shared→Prop}(hh:A.handled=none)(hl:s.heap.IsList l items.toArray)(hI:IntsAre items is)(hb:(onceI is).length+1 < scanBound)
  (h:∀ (h':Heap) (tk:Nat) ns,SetR prog w h' s.heap.objs.size ns→ns.Perm (onceI is)→(∀ b o,b < s.heap.objs.size→s.heap.get? b=some o→h'.get? b=some o)→Q (.ref s.heap.objs.size) { s with heap:=h',toks:=tk }) :
  wpAny (model prog w) A (call (.type "set") [.ref l]) Q E s:=by
 refine callT (M:=fun v s1=>v=.ref s.heap.objs.size∧s1={ s with heap:=s.heap.push (bare w) }) PySem.F.called_set (PySem.F.typeCall_set_1 _) (pS _ ⟨rfl,rfl⟩) ?_
 rintro v s1 ⟨rfl,rfl⟩
 have e:(s.heap.push (bare w)).get? s.heap.objs.size=some (bare w):=Heap.get?_push_size _ rfl
 refine⟨⟨_,e,rfl⟩,nK (s:={ s with heap:=s.heap.push (bare w) }) (by simpa using hh) e (hl.push _) hI hb fun h' tk ns k S p=>h h' tk ns S p fun b o hb e=>k b o (Nat.ne_of_lt hb) (Heap.get?_push_of_some _ e)⟩
end
theorem gZ:entryFor table "set.__iter__"=some Builtin.«frozenset.__iter__»:=entryFor_alias (id' := "frozenset.__iter__") (by kernel_rfl) rfl (by decide +kernel) (by kernel_rfl)
theorem ar:Slot "set_iterator" "__next__" "set_iterator.__next__" :=
 .of (owner := "set_iterator") (n := "__next__") (by rw[typeLookup_type,builtinLookup_eq_fast];kernel_rfl) (by decide +kernel) (by decide +kernel) (by decide +kernel)
  (.inl (by decide +kernel)) (by rw[isSubtype_type];kernel_rfl)
theorem aW:entryFor table "set_iterator.__next__"=some Builtin.«set_iterator.__next__»:=entryFor_of_fast (by kernel_rfl)
theorem a8 (a:Value):argsOk "set_iterator.__next__" ⟨[a],[]⟩:=by unfold argsOk;kernel_rfl
theorem bP:Slot "set_iterator" "__iter__" "set_iterator.__iter__" :=
 .of (owner := "set_iterator") (n := "__iter__") (by rw[typeLookup_type,builtinLookup_eq_fast];kernel_rfl) (by decide +kernel) (by decide +kernel) (by decide +kernel)
  (.inl (by decide +kernel)) (by rw[isSubtype_type];kernel_rfl)
theorem du {α:Type}:∀ (xs:List α) (i:Nat) (h:i < xs.length),(xs[i]::xs.eraseIdx i).Perm xs
 | x::xs,0,h=>.refl _
 | x::xs,i+1,h=>(List.Perm.swap x _ _).trans ((du xs i (by simpa using h)).cons x)
theorem i0 {α:Type}(next:Nat→Nat):∀ (fuel k:Nat) (left:List α) (out:Array α),fuel=left.length→(pickOrder.go next fuel k left out).toList.Perm (out.toList++left)
 | 0,k,left,out,h=>by
  have:left=[]:=List.length_eq_zero_iff.mp h.symm
  subst this
  simp[pickOrder.go]
 | fuel+1,k,left,out,h=>by
  have hl:0 < left.length:=by omega
  have hm:next k%left.length < left.length:=Nat.mod_lt _ hl
  unfold pickOrder.go
  rw[List.getElem?_eq_getElem hm]
  refine(i0 next fuel (k+1) _ _ (by rw[List.length_eraseIdx_of_lt hm];omega)).trans ?_
  rw[Array.toList_push,List.append_assoc]
  refine List.Perm.append_left _ ?_
  show (left[next k%left.length]::left.eraseIdx (next k%left.length)).Perm left
  exact(du _ _ hm)
section
variable {prog:Program}{w:World}{A:Around}{E:Value→Shared→Prop}{s:Shared}
theorem nN {src:Source}{n:Nat}{Q:Nat→Shared→Prop}(hn:n≠0)(h:∀ i,i < n→Q i { s with drawn:=s.drawn.bump src }):wpAny (model prog w) A (choose src n) Q E s :=
 fun Γ p hΓ=>⟨hn,h _ (Nat.mod_lt _ (by omega))⟩
theorem mx {α:Type}{Q:List α→Shared→Prop}:∀ (n:Nat) (xs:List α) (s:Shared),n=xs.length→(∀ ys d,ys.Perm xs→Q ys { s with drawn:=d })→wpAny (model prog w) A (drawOrder n xs) Q E s
 | 0,xs,s,hn,h=>by
  have:xs=[]:=List.length_eq_zero_iff.mp hn.symm
  subst this
  exact wpAny_pure (h [] s.drawn (.refl _))
 | n+1,[],s,hn,h=>by cases hn
 | n+1,x::xs,s,hn,h=>by
  unfold drawOrder
  refine wpAny_bind (nN (by simp) fun i hi=>?_)
  rw[List.getElem?_eq_getElem hi]
  refine wpAny_bind (mx n ((x::xs).eraseIdx i) _ (by rw[List.length_eraseIdx_of_lt hi];omega) fun ys d hp=>?_)
  exact wpAny_pure (h _ d ((hp.cons _).trans (du _ _ hi)))
def itObj (first:Value)(i:Nat)(a:Addr)(n ep:Nat):Obj:={ cls:=.type "set_iterator",data:=.fields #[first,rawInt (i:Int),.ref a,rawInt (n:Int),rawInt (ep:Int)] }
theorem rK {h:Heap}{it:Addr}{first first':Value}{i j:Nat}{a:Addr}{n ep:Nat}(e:h.get? it=some (itObj first i a n ep)):((h.update it (Obj.mapFields (·.setIfInBounds 0 first'))).update it (Obj.mapFields (·.setIfInBounds 1 (rawInt (j:Int))))).get? it=some (itObj first' j a n ep):=by
 have e1:=Heap.get?_update_self (Obj.mapFields (·.setIfInBounds 0 first')) e rfl
 exact Heap.get?_update_self (Obj.mapFields (·.setIfInBounds 1 (rawInt (j:Int)))) e1 rfl
theorem pT {h:Heap}{it:Addr}{first:Value}{i j:Nat}{a:Addr}{n ep:Nat}(e:h.get? it=some (itObj first i a n ep)):(h.update it (Obj.mapFields (·.setIfInBounds 1 (rawInt (j:Int))))).get? it=some (itObj first j a n ep) :=
 Heap.get?_update_self (Obj.mapFields (·.setIfInBounds 1 (rawInt (j:Int)))) e rfl
theorem my {α:Type}{Q:α→Shared→Prop}(hh:A.handled=none)(h:∀ h' v,Shared.TypeIs { s with heap:=h' } v "StopIteration" → (∀ b o,s.heap.get? b=some o→h'.get? b=some o)→E v { s with heap:=h' }) :
  wpAny (model prog w) A (do raiseNew (← newExc (.type "StopIteration") []):Sem α) Q E s:=by
 unfold newExc newTuple firstArgMember
 refine wpAny_bind (wpAny_bind (wpAny_newObj_type (wpAny_bind (wpAny_pure (wpAny_newObj_type (wpAny_raiseNew_none hh (h _ _ ⟨_,Heap.get?_push_size _ rfl,rfl⟩ fun b o e=>?_)) (by size_fits)))) (by size_fits)))
 exact Heap.get?_push_of_some _ (Heap.get?_push_of_some _ e)
theorem lc {it a:Addr}{sl i n ep:Nat}{es:Array (Int×Value)}{t:SetTable}{o:Obj}{v:Value}{nx:Nat}{Q:Option Value→Shared→Prop}(hit:s.heap.get? it=some (itObj (rawInt (sl:Int)) i a n ep))(ho:s.heap.get? a=some o)(hd:o.data=.set es ep t)(hf:t.fits es.size=true)(hn:es.size=n)
  (hx:∀ (Q:Option (Value×Nat)→Shared→Prop) (E:Value→Shared→Prop),Q (some (v,nx)) s→wpAny (model prog w) A.in1 (setNext a sl i ep) Q E s)
  (hQ:∀ h',h'.get? it=some (itObj (rawInt (nx:Int)) (i+1) a n ep)→Heap.SameBut it s.heap h'→Q (some v) { s with heap:=h' }):wpAny (model prog w) A (pyNext (.ref it)) Q E s:=by
 have hT:s.TypeIs (.ref it) "set_iterator" := ⟨_,hit,rfl⟩
 unfold pyNext
 refine wpAny_bind (wpAny_attempt (wpAny_callSpecial?_slot (name:=Str.ofString "__next__") hT ar (wpAny_call_entry ar hT aW ?_ (a8 _))))
 show wpAny _ _ (fieldsOf (.ref it) >>= _) _ _ s
 refine wpAny_bind (wpAny_fieldsOf hit rfl ?_)
 show wpAny _ _ (setEntries a >>= _) _ _ s
 refine wpAny_bind (wpAny_setEntries_of ho hd hf ?_)
 rw[if_neg (by rw[hn];simp)]
 show wpAny _ _ (setNext a ((sl:Int)).toNat ((i:Int)).toNat ((ep:Int)).toNat >>= _) _ _ s
 simp only[Int.toNat_natCast]
 refine wpAny_bind (hx _ _ ?_)
 have e1:(s.heap.update it (Obj.mapFields (·.setIfInBounds 0 (rawInt (nx:Int))))).get? it=some (itObj (rawInt (nx:Int)) i a n ep):=Heap.get?_update_self (Obj.mapFields (·.setIfInBounds 0 (rawInt (nx:Int)))) hit rfl
 refine wpAny_bind (wpAny_setField hit rfl (by simp) (wpAny_bind (wpAny_setField e1 rfl (by simp) (wpAny_pure ⟨v,rfl,wpAny_pure (hQ _ ?_ ((Heap.SameBut.update ..).trans (Heap.SameBut.update ..)))⟩))))
 have:=rK (first':=rawInt (nx:Int)) (j:=i+1) hit
 exact this
theorem nO {it a:Addr}{sl i n ep:Nat}{es:Array (Int×Value)}{t:SetTable}{o:Obj}{Q:Option Value→Shared→Prop}(hh:A.handled=none)(hit:s.heap.get? it=some (itObj (rawInt (sl:Int)) i a n ep))(ho:s.heap.get? a=some o)(hd:o.data=.set es ep t)(hf:t.fits es.size=true)(hn:es.size=n)
  (hx:∀ (Q:Option (Value×Nat)→Shared→Prop) (E:Value→Shared→Prop),Q none s→wpAny (model prog w) A.in1 (setNext a sl i ep) Q E s)
  (hQ:∀ h',Heap.ExtBut it s.heap h'→Q none { s with heap:=h' }):wpAny (model prog w) A (pyNext (.ref it)) Q E s:=by
 have hT:s.TypeIs (.ref it) "set_iterator" := ⟨_,hit,rfl⟩
 unfold pyNext
 refine wpAny_bind (wpAny_attempt (wpAny_callSpecial?_slot (name:=Str.ofString "__next__") hT ar (wpAny_call_entry ar hT aW ?_ (a8 _))))
 show wpAny _ _ (fieldsOf (.ref it) >>= _) _ _ s
 refine wpAny_bind (wpAny_fieldsOf hit rfl ?_)
 show wpAny _ _ (setEntries a >>= _) _ _ s
 refine wpAny_bind (wpAny_setEntries_of ho hd hf ?_)
 rw[if_neg (by rw[hn];simp)]
 show wpAny _ _ (setNext a ((sl:Int)).toNat ((i:Int)).toNat ((ep:Int)).toNat >>= _) _ _ s
 simp only[Int.toNat_natCast]
 refine wpAny_bind (hx _ _ ?_)
 refine wpAny_bind (wpAny_setField hit rfl (by simp) ?_)
 exact my hh fun h' v hT k=>wpAny_bind (wpAny_isInstance hT isSubtype_stop (wpAny_pure (hQ h' fun b o hb e=>k b o ((Heap.SameBut.update ..).extBut b o hb e))))
theorem lg {it a tp:Addr}{i n ep:Nat}{es:Array (Int×Value)}{t:SetTable}{o:Obj}{v:Value}{pl:List Value}{q:Nat}{tq:Tok}{Q:Option Value→Shared→Prop}(hit:s.heap.get? it=some (itObj (.ref tp) i a n ep))(ht:IsTup s.heap tp pl.toArray)(hp:pl[i]?=some (.int (q:Int) tq))(ho:s.heap.get? a=some o)(hd:o.data=.set es ep t)(hf:t.fits es.size=true)(hn:es.size=n)(hv:(es[q]?).map (·.2)=some v)
  (hQ:∀ h',h'.get? it=some (itObj (.ref tp) (i+1) a n ep)→Heap.SameBut it s.heap h'→Q (some v) { s with heap:=h' }):wpAny (model prog w) A (pyNext (.ref it)) Q E s:=by
 have hT:s.TypeIs (.ref it) "set_iterator" := ⟨_,hit,rfl⟩
 obtain⟨ot,het,hct,nt,hdt⟩:=id ht
 unfold pyNext
 refine wpAny_bind (wpAny_attempt (wpAny_callSpecial?_slot (name:=Str.ofString "__next__") hT ar (wpAny_call_entry ar hT aW ?_ (a8 _))))
 show wpAny _ _ (fieldsOf (.ref it) >>= _) _ _ s
 refine wpAny_bind (wpAny_fieldsOf hit rfl ?_)
 show wpAny _ _ (setEntries a >>= _) _ _ s
 refine wpAny_bind (wpAny_setEntries_of ho hd hf ?_)
 rw[if_neg (by rw[hn];simp)]
 show wpAny _ _ (seqItems? (.ref tp) >>= _) _ _ s
 refine wpAny_bind (wpAny_seqItems het hdt ?_)
 have e1:pl.toArray[((i:Int)).toNat]?=some (.int (q:Int) tq):=by rw[Int.toNat_natCast];simpa using hp
 show wpAny _ _ (match pl.toArray[((i:Int)).toNat]? with | some (.int place _)=>_ | some _=>_ | none=>_) _ _ s
 rw[e1]
 show wpAny _ _ (setNextDrawn a ((q:Int)).toNat ((ep:Int)).toNat >>= _) _ _ s
 simp only[Int.toNat_natCast]
 cases eq:es[q]? with
 | none=>rw[eq]at hv;cases hv
 | some e =>
  rw[eq]at hv
  cases hv
  refine wpAny_bind ?_
  unfold setNextDrawn
  refine wpAny_bind (wpAny_setState_of ho hd hf ?_)
  dsimp only
  rw[if_neg (by simp),eq]
  refine wpAny_pure ?_
  refine wpAny_bind (wpAny_setField hit rfl (by simp) (wpAny_pure ⟨e.2,rfl,wpAny_pure (hQ _ ?_ (Heap.SameBut.update ..))⟩))
  have:=pT (j:=i+1) hit
  exact this
theorem nQ {it a tp:Addr}{i n ep:Nat}{es:Array (Int×Value)}{t:SetTable}{o:Obj}{pl:List Value}{Q:Option Value→Shared→Prop}(hh:A.handled=none)(hit:s.heap.get? it=some (itObj (.ref tp) i a n ep))(ht:IsTup s.heap tp pl.toArray)(hp:pl[i]?=none)(ho:s.heap.get? a=some o)(hd:o.data=.set es ep t)(hf:t.fits es.size=true)(hn:es.size=n)
  (hQ:∀ h',Heap.ExtBut it s.heap h'→Q none { s with heap:=h' }):wpAny (model prog w) A (pyNext (.ref it)) Q E s:=by
 have hT:s.TypeIs (.ref it) "set_iterator" := ⟨_,hit,rfl⟩
 obtain⟨ot,het,hct,nt,hdt⟩:=id ht
 unfold pyNext
 refine wpAny_bind (wpAny_attempt (wpAny_callSpecial?_slot (name:=Str.ofString "__next__") hT ar (wpAny_call_entry ar hT aW ?_ (a8 _))))
 show wpAny _ _ (fieldsOf (.ref it) >>= _) _ _ s
 refine wpAny_bind (wpAny_fieldsOf hit rfl ?_)
 show wpAny _ _ (setEntries a >>= _) _ _ s
 refine wpAny_bind (wpAny_setEntries_of ho hd hf ?_)
 rw[if_neg (by rw[hn];simp)]
 show wpAny _ _ (seqItems? (.ref tp) >>= _) _ _ s
 refine wpAny_bind (wpAny_seqItems het hdt ?_)
 have e1:pl.toArray[((i:Int)).toNat]?=none:=by rw[Int.toNat_natCast];simpa using hp
 show wpAny _ _ (match pl.toArray[((i:Int)).toNat]? with | some (.int place _)=>_ | some _=>_ | none=>_) _ _ s
 rw[e1]
 have f1:(s.heap.update it (Obj.mapFields (·.setIfInBounds 0 (rawInt 0)))).get? it=some (itObj (rawInt 0) i a n ep):=Heap.get?_update_self (Obj.mapFields (·.setIfInBounds 0 (rawInt 0))) hit rfl
 refine wpAny_bind (wpAny_setField hit rfl (by simp) (wpAny_bind (wpAny_setField f1 rfl (by simp) ?_)))
 exact my hh fun h' v hT k=>wpAny_bind (wpAny_isInstance hT isSubtype_stop (wpAny_pure (hQ h' fun b o hb e=>k b o (((Heap.SameBut.update ..).trans (Heap.SameBut.update ..)).extBut b o hb e))))
end
section
variable {prog:Program}{w:World}{A:Around}{E:Value→Shared→Prop}{s:Shared}
theorem jw {a:Addr}{o:Obj}{es:Array (Int×Value)}{ep i sl:Nat}{t:SetTable}{Q:Option (Value×Nat)→Shared→Prop}(hb:byT w=true)(ho:s.heap.get? a=some o)(hd:o.data=.set es ep t)(hf:t.fits es.size=true)
  (h:Q (((pickOrder (w.params.setOrder a ep) es)[i]?).map fun e=>(e.2,sl)) s):wpAny (model prog w) A (setNext a sl i ep) Q E s:=by
 unfold setNext
 refine wpAny_bind (wpAny_setState_of ho hd hf ?_)
 dsimp only
 unfold setsByText
 refine wpAny_bind (wpAny_bind (wpAny_askSetting (wpAny_pure ?_)))
 rw[if_pos (show (model prog w).w.params.followText "set-order"=true from hb)]
 rw[if_neg (by simp)]
 refine wpAny_bind ?_
 unfold setWalk
 refine wpAny_bind (wpAny_setState_of ho hd hf ?_)
 dsimp only
 unfold setsByText
 refine wpAny_bind (wpAny_bind (wpAny_askSetting (wpAny_pure ?_)))
 rw[if_pos (show (model prog w).w.params.followText "set-order"=true from hb)]
 refine wpAny_bind (wpAny_askSetting (wpAny_pure ?_))
 exact wpAny_pure h
def slotAt (t:SetTable):Nat→Nat
 | 0=>0
 | i+1=>t.place.getD i 0+1
theorem pU {t:SetTable}(r:Rise t.place){i:Nat}(h:i≤t.place.size):SetTable.below t.place (slotAt t i)=i:=by
 obtain⟨a,b,c⟩:=gY r (slotAt t i)
 cases i with
 | zero =>
  have:¬ 0 < SetTable.below t.place (slotAt t 0):=fun z=>by
   have:=a 0 (by omega) z
   exact absurd this (Nat.not_lt_zero _)
  omega
 | succ i =>
  have hi:i < t.place.size:=by omega
  have e:slotAt t (i+1)=t.place[i]+1:=by show t.place.getD i 0+1=_;rw[gp hi]
  have h1:¬ SetTable.below t.place (slotAt t (i+1))≤i:=fun z=>by
   have:=b i hi z;omega
  have h2:¬ i+1 < SetTable.below t.place (slotAt t (i+1)):=fun z=>by
   have hz:i+1 < t.place.size:=by omega
   have:=a (i+1) hz z
   have:=gq r (show i < i+1 by omega) hz
   omega
  omega
theorem iD {a:Addr}{o:Obj}{es:Array (Int×Value)}{ep i k:Nat}{t:SetTable}{Q:Option (Value×Nat)→Shared→Prop}(hb:byT w=false)(hdr:(!t.plain&&decide (es.size > 1))=false)(hl:t.led=true)(r:Rise t.place)(ho:s.heap.get? a=some o)(hd:o.data=.set es ep t)(hf:t.fits es.size=true)(hi:i≤es.size)
  (h:Q ((es[i]?).map fun e=>(e.2,slotAt t (i+1))) s):wpAny (model prog w) A (setNext a (slotAt t i) k ep) Q E s:=by
 have hsz:t.place.size=es.size:=by
  simp only[SetTable.fits,Bool.and_eq_true,beq_iff_eq]at hf
  exact hf.1
 unfold setNext
 refine wpAny_bind (wpAny_setState_of ho hd hf ?_)
 dsimp only
 unfold setsByText
 refine wpAny_bind (wpAny_bind (wpAny_askSetting (wpAny_pure ?_)))
 rw[if_neg (show ¬ (model prog w).w.params.followText "set-order"=true from by show ¬ byT w=true;rw[hb];decide)]
 show wpAny _ _ (if (!t.plain&&decide (es.size > 1))=true then _ else _) _ _ _
 rw[hdr,if_neg (by decide)]
 refine wpAny_bind ?_
 show wpAny _ _ (if (!t.led && !es.isEmpty)=true then _ else pure ()) _ _ _
 rw[hl,if_neg (by simp)]
 refine wpAny_pure ?_
 rw[pU r (by omega)]
 cases e:es[i]? with
 | none =>
  rw[e]at h
  exact wpAny_pure h
 | some x =>
  rw[e]at h
  have hlt:i < t.place.size:=by rw[hsz];exact(Array.getElem?_eq_some_iff.mp e).1
  have ep':t.place[i]?=some t.place[i]:=Array.getElem?_eq_getElem hlt
  have es':slotAt t (i+1)=t.place[i]+1:=by show t.place.getD i 0+1=_;rw[gp hlt]
  rw[ep']
  rw[es']at h
  exact wpAny_pure h
theorem fK {it:Addr}{h h':Heap}(e:Heap.ExtBut it h h'):∀ b o,b∉[it]→h.get? b=some o→h'.get? b=some o:=fun b o hb q=>e b o (by simpa using hb) q
theorem dv:entryFor table "set_iterator.__iter__"=some Builtin.«dict_keyiterator.__iter__»:=entryFor_alias (id' := "dict_keyiterator.__iter__") (by kernel_rfl) rfl (by decide +kernel) (by kernel_rfl)
theorem dY (a:Value):argsOk "set_iterator.__iter__" ⟨[a],[]⟩:=by unfold argsOk;kernel_rfl
theorem dZ {it a:Addr}{first:Value}{i n ep:Nat}{Q:Value→Shared→Prop}(hit:s.heap.get? it=some (itObj first i a n ep))(hQ:Q (.ref it) s):wpAny (model prog w) A (pyIter (.ref it)) Q E s:=by
 have hT:s.TypeIs (.ref it) "set_iterator" := ⟨_,hit,rfl⟩
 refine wpAny_pyIter_slot hT bP (wpAny_call_entry bP hT dv ?_ (dY _))
 show wpAny _ _ (ret (.ref it)) _ _ s
 exact wpAny_pure ⟨_,rfl,"set_iterator",_,hT,ar.lookup,hQ⟩
theorem g5 (hh:A.handled=none){it a:Addr}{o:Obj}{es:Array (Int×Value)}{ep:Nat}{t:SetTable}{sl:Nat→Nat}{vs:List Value}(hia:it≠a)(hd:o.data=.set es ep t)(hf:t.fits es.size=true)(hn:vs.length=es.size)
  (hx:∀ (i:Nat),i≤es.size→∀ (A:Around) (E:Value→Shared→Prop) (s:Shared) (Q:Option (Value×Nat)→Shared→Prop),s.heap.get? a=some o→Q ((vs[i]?).map fun v=>(v,sl (i+1))) s→wpAny (model prog w) A (setNext a (sl i) i ep) Q E s) :
  Walks prog w A it [it,a] [it] es.size (fun i v=>vs[i]?=some v) (fun i h=>h.get? it=some (itObj (rawInt (sl i:Int)) i a es.size ep)∧h.get? a=some o) where
 sub:=fun b hb=>by simp at hb;simp[hb]
 frame:=fun i h h' st k=>⟨k it (by simp) _ st.1,k a (by simp) _ st.2⟩
 item:=fun i s Q E hi st hQ=>by
  have ei:vs[i]?=some (vs[i]'(by omega)):=List.getElem?_eq_getElem _
  refine lc (v:=vs[i]'(by omega)) (nx:=sl (i+1)) st.1 st.2 hd hf rfl (fun Q' E' q=>hx i (by omega) _ _ _ _ st.2 (by rw[ei];exact q)) fun h' a1 a2=>?_
  exact hQ _ h' s.toks ei ⟨a1,(a2.2 a (Ne.symm hia)).trans st.2⟩ fun b o hb e=>(a2.2 b (by simpa using hb)).trans e
 done:=fun s Q E st hQ=>by
  have ei:vs[es.size]?=none:=List.getElem?_eq_none (by omega)
  refine nO hh st.1 st.2 hd hf rfl (fun Q' E' q=>hx es.size (Nat.le_refl _) _ _ _ _ st.2 (by rw[ei];exact q)) fun h' e=>?_
  exact hQ h' s.toks (fK e)
 self:=fun i s Q E st hQ=>dZ st.1 hQ
end
section
variable {prog:Program}{w:World}{A:Around}{E:Value→Shared→Prop}{s:Shared}
theorem kh {h h':Heap}{tp:Addr}{xs:Array Value}(t:IsTup h tp xs)(k:∀ o,h.get? tp=some o→h'.get? tp=some o):IsTup h' tp xs:=by
 rcases t with ⟨o,e,r⟩
 exact⟨o,k o e,r⟩
theorem lh (hh:A.handled=none){it a tp:Addr}{o:Obj}{es:Array (Int×Value)}{ep:Nat}{t:SetTable}{ys:List Nat}{vs:List Value}(hia:it≠a)(hit:it≠tp)(hd:o.data=.set es ep t)(hf:t.fits es.size=true)(hn:vs.length=ys.length)
  (hv:∀ (i q:Nat),ys[i]?=some q→(es[q]?).map (fun e=>e.2)=vs[i]?) :
  Walks prog w A it [it,a,tp] [it] vs.length (fun i v=>vs[i]?=some v) (fun i h=>h.get? it=some (itObj (.ref tp) i a es.size ep)∧h.get? a=some o∧IsTup h tp (ys.map fun (q:Nat)=>rawInt (q:Int)).toArray) where
 sub:=fun b hb=>by simp at hb;simp[hb]
 frame:=fun i h h' st k=>⟨k it (by simp) _ st.1,k a (by simp) _ st.2.1,kh st.2.2 fun o e=>k tp (by simp) o e⟩
 item:=fun i s Q E hi st hQ=>by
  have hy:ys[i]?=some (ys[i]'(by omega)):=List.getElem?_eq_getElem _
  have ei:vs[i]?=some (vs[i]'hi):=List.getElem?_eq_getElem _
  refine lg (q:=ys[i]'(by omega)) (v:=vs[i]'hi) st.1 st.2.2 (by rw[List.getElem?_map,hy];rfl) st.2.1 hd hf rfl (by rw[hv i _ hy,ei]) fun h' a1 a2=>?_
  exact hQ _ h' s.toks ei ⟨a1,(a2.2 a (Ne.symm hia)).trans st.2.1,kh st.2.2 fun o e=>(a2.2 tp (Ne.symm hit)).trans e⟩ fun b o hb e=>(a2.2 b (by simpa using hb)).trans e
 done:=fun s Q E st hQ=>by
  refine nQ hh st.1 st.2.2 (by rw[List.getElem?_map,List.getElem?_eq_none (by omega)];rfl) st.2.1 hd hf rfl fun h' e=>?_
  exact hQ h' s.toks (fK e)
 self:=fun i s Q E st hQ=>dZ st.1 hQ
def Goes (prog:Program)(w:World)(A:Around)(n0:Nat)(a:Addr)(h:Heap)(it:Addr)(ms:List Int):Prop :=
 ∃ (fp:List Addr) (vs:List Value) (St:Nat→Heap→Prop),Walks prog w A it fp [it] vs.length (fun i v=>vs[i]?=some v) St∧IntsAre vs ms∧St 0 h∧∀ b∈fp,b < h.objs.size∧(b=a∨n0≤b)
theorem cA {vs vs':List Value}{ns:List Int}(p:vs.Perm vs')(h:IntsAre vs ns):∃ ms,IntsAre vs' ms∧ms.Perm ns:=by
 obtain⟨ms,a,b⟩:=cn p h
 exact⟨ms,a,b.symm⟩
theorem nR {es:Array (Int×Value)}{ys:List Nat}(p:ys.Perm (List.range es.size)):(es.toList.map (·.2)).Perm (ys.map fun q=>(es.getD q default).2):=by
 have e:es.toList.map (·.2)=(List.range es.size).map fun q=>(es.getD q default).2:=by
  apply List.ext_getElem
  ·simp
  ·intro i h1 h2
   have:i < es.size:=by simpa using h1
   simp[Array.getD,this]
 rw[e]
 exact(p.map _).symm
theorem nT {a:Addr}{ns:List Int}{Q:Value→Shared→Prop}(hS:SetR prog w s.heap a ns)
  (q:∀ h' d it ms,(∀ b o,s.heap.get? b=some o→h'.get? b=some o)→s.heap.objs.size≤it→ms.Perm ns→(∀ A:Around,A.handled=none→Goes prog w A s.heap.objs.size a h' it ms)→Q (.ref it) { s with heap:=h',drawn:=d }) :
  wpAny (model prog w) A (pyIter (.ref a)) Q E s:=by
 rcases hS with ⟨o,es,ep,t,ho,hx,hd,el,hI,hb,hf,hr,hl⟩
 have hT:s.TypeIs (.ref a) "set" := ⟨o,ho,hx.1⟩
 have la:a < s.heap.objs.size:=Heap.lt_size ho
 refine wpAny_pyIter_slot hT PySem.F.slot_set_iter (wpAny_call_entry PySem.F.slot_set_iter hT gZ ?_ (PySem.F.args_set_iter_1 _))
 unfold Builtin.«frozenset.__iter__» Builtin.Frozenset.slot0 slotArgs Builtin.Frozenset.sizeOf Builtin.Frozenset.addrOf setDrawn setEpoch setsByText
 refine wpAny_bind (wpAny_bind (wpAny_pure (wpAny_pure ?_)))
 refine wpAny_bind (wpAny_bind (wpAny_setEntries_of ho hd hf (wpAny_pure ?_)))
 refine wpAny_bind (wpAny_bind (wpAny_setState_of ho hd hf (wpAny_bind (wpAny_bind (wpAny_askSetting (wpAny_pure ?_))))))
 refine wpAny_pure ?_
 have fin:∀ (first:Value) (s1:Shared),s1.heap.get? a=some o→Q (.ref s1.heap.objs.size) { s1 with heap:=s1.heap.push (itObj first 0 a es.size ep) } →
   wpAny (model prog w) A.in1 (do let e ← (do let x ← setState a;pure x.2.1);let v ← newFields "set_iterator" [first,rawInt 0,.ref a,rawInt (es.size:Int),rawInt (e:Int)];ret v) (fun fin s'=>∃ v,fin=.done (.ret v)∧∃ T' r,s'.TypeIs v T'∧typeLookup (.type T') "__next__"=pure (some r)∧Q v s') E s1:=by
  intro first s1 e1 hq
  refine wpAny_bind (wpAny_bind (wpAny_setState_of e1 hd hf (wpAny_pure ?_)))
  refine wpAny_bind (wpAny_newObj_type ?_ (by size_fits))
  exact wpAny_pure ⟨_,rfl,"set_iterator",_,⟨_,Heap.get?_push_size _ rfl,rfl⟩,ar.lookup,hq⟩
 have ne:∀ {h:Heap},a < h.objs.size→h.objs.size≠a:=fun l=>Nat.ne_of_gt l
 show wpAny _ _ (if (!byT w&&(!t.plain&&decide (es.size > 1)))=true then _ else _) _ _ s
 by_cases c:(!byT w&&(!t.plain&&decide (es.size > 1)))=true
 ·rw[if_pos c]
  refine wpAny_bind (mx _ _ s (by simp) fun ys d p=>?_)
  have ly:ys.length=es.size:=by have:=p.length_eq;simpa using this
  refine wpAny_bind (wpAny_newTuple ?_ (by rw[List.length_map,ly];have:=fits_of_scanBound hb;exact this))
  obtain⟨ms,mI,mp⟩:=cA (nR p) hI
  have e1:(s.heap.push { cls:=.type "tuple",data:=.seq (ys.map fun (q:Nat)=>rawInt (q:Int)).toArray }).get? a=some o:=Heap.get?_push_of_some _ ho
  refine fin _ _ e1 (q _ d _ ms (fun b o e=>Heap.get?_push_of_some _ (Heap.get?_push_of_some _ e)) ?_ mp fun A hh=>?_)
  ·show s.heap.objs.size≤(s.heap.push _).objs.size
   rw[size_push'];exact Nat.le_succ _
  ·refine⟨_,_,_,lh hh (t:=t) (ys:=ys) (es:=es) (ep:=ep) (o:=o) (a:=a) (tp:=s.heap.objs.size) ?_ ?_ hd hf (by simp) ?_,mI,⟨Heap.get?_push_size _ rfl,Heap.get?_push_of_some _ e1,⟨_,Heap.get?_push_of_some _ (Heap.get?_push_size _ rfl),rfl,_,rfl⟩⟩,?_⟩
   ·exact ne (Heap.lt_size e1)
   ·show (s.heap.push _).objs.size≠_
    rw[size_push'];exact Nat.succ_ne_self _
   ·intro i q hq
    have hm:q∈List.range es.size:=p.subset (List.mem_of_getElem? hq)
    have hlt:q < es.size:=List.mem_range.mp hm
    rw[List.getElem?_map,hq]
    simp[Array.getD,hlt]
   ·intro b hb
    show b < ((s.heap.push _).push _).objs.size∧_
    rw[size_push',size_push']
    rcases List.mem_cons.mp hb with rfl | hb
    ·show (s.heap.push _).objs.size < _∧(_∨s.heap.objs.size≤(s.heap.push _).objs.size)
     rw[size_push'];exact⟨Nat.lt_succ_self _,.inr (Nat.le_succ _)⟩
    ·rcases List.mem_cons.mp hb with rfl | hb
     ·exact⟨Nat.lt_succ_of_lt (Nat.lt_succ_of_lt la),.inl rfl⟩
     ·rcases List.mem_cons.mp hb with rfl | hb
      ·exact⟨Nat.lt_succ_of_lt (Nat.lt_succ_self _),.inr (Nat.le_refl _)⟩
      ·cases hb
 ·rw[if_neg c]
  refine wpAny_bind (wpAny_pure ?_)
  have low:∀ b∈[s.heap.objs.size,a],b < (s.heap.push (itObj (rawInt 0) 0 a es.size ep)).objs.size∧(b=a∨s.heap.objs.size≤b):=by
   intro b hb
   rw[size_push']
   rcases List.mem_cons.mp hb with rfl | hb
   ·exact⟨Nat.lt_succ_self _,.inr (Nat.le_refl _)⟩
   ·rcases List.mem_cons.mp hb with rfl | hb
    ·exact⟨Nat.lt_succ_of_lt la,.inl rfl⟩
    ·cases hb
  by_cases bt:byT w=true
  ·have pp:=i0 (w.params.setOrder a ep) es.size 0 es.toList #[] (by simp)
   have pq:(pickOrder (w.params.setOrder a ep) es).toList.Perm es.toList:=by unfold pickOrder;simpa using pp
   obtain⟨ms,mI,mp⟩:=cA (pq.symm.map (·.2)) hI
   have lv:((pickOrder (w.params.setOrder a ep) es).toList.map (·.2)).length=es.size:=by rw[List.length_map,pq.length_eq,Array.length_toList]
   refine fin _ _ ho (q _ s.drawn _ ms (fun b o e=>Heap.get?_push_of_some _ e) (Nat.le_refl _) mp fun A hh=>⟨_,_,fun i h=>h.get? s.heap.objs.size=some (itObj (rawInt ((0:Nat):Int)) i a es.size ep)∧h.get? a=some o,?_,mI,?_,low⟩)
   ·have W:=g5 hh (prog:=prog) (w:=w) (it:=s.heap.objs.size) (a:=a) (sl:=fun _=>0) (vs:=(pickOrder (w.params.setOrder a ep) es).toList.map (·.2)) (ne la) hd hf lv fun i hi A E s Q e hq=>jw bt e hd hf (by
     have e2:(((pickOrder (w.params.setOrder a ep) es).toList.map (·.2))[i]?).map (fun v=>(v,0))=((pickOrder (w.params.setOrder a ep) es)[i]?).map fun e=>(e.2,0):=by simp[Function.comp_def]
     rw[← e2];exact hq)
    rw[lv]
    exact W
   ·exact⟨Heap.get?_push_size _ rfl,Heap.get?_push_of_some _ ho⟩
  ·have bf:byT w=false:=by simpa using bt
   have lv:(es.toList.map (·.2)).length=es.size:=by simp
   refine fin _ _ ho (q _ s.drawn _ ns (fun b o e=>Heap.get?_push_of_some _ e) (Nat.le_refl _) (.refl _) fun A hh=>⟨_,_,fun i h=>h.get? s.heap.objs.size=some (itObj (rawInt ((slotAt t i:Nat):Int)) i a es.size ep)∧h.get? a=some o,?_,hI,?_,low⟩)
   ·have W:=g5 hh (prog:=prog) (w:=w) (it:=s.heap.objs.size) (a:=a) (sl:=slotAt t) (vs:=es.toList.map (·.2)) (ne la) hd hf lv fun i hi A E s Q e hq=>iD bf (by simpa [bf] using c) (by rw[hl,bf];rfl) hr e hd hf hi (by
     have e2:((es.toList.map (·.2))[i]?).map (fun v=>(v,slotAt t (i+1)))=(es[i]?).map fun e=>(e.2,slotAt t (i+1)):=by simp[Function.comp_def]
     rw[← e2];exact hq)
    rw[lv]
    exact W
   ·exact⟨Heap.get?_push_size _ rfl,Heap.get?_push_of_some _ ho⟩
end
section
variable {prog:Program}{w:World}{A:Around}{E:Value→Shared→Prop}{s:Shared}
abbrev lobj (xs:Array Value)(c:Nat):Obj:={ cls:=.type "list",dict:=none,data:=.seq xs c,slots:=#[] }
theorem pV {S:Addr}{c:Nat}{Q:Unit→Shared→Prop}(hS:s.heap.get? S=some (lobj #[] c))(q:∀ h' c',Heap.SameBut S s.heap h'→h'.get? S=some (lobj #[] c')→Q () { s with heap:=h' }) :
  wpAny (model prog w) A (Builtin.List.listTouch (.ref S)) Q E s:=by
 have e1:=Heap.get?_update_self (Obj.mapSeq (·.push Value.none)) hS rfl
 have e2:=Heap.get?_update_self (Obj.mapSeq (·.pop)) e1 rfl
 have go:wpAny (model prog w) A (updateSeq S (·.push .none) >>= fun _=>updateSeq S (·.pop)) Q E s :=
  wpAny_bind (wpAny_updateSeq hS rfl (wpAny_updateSeq e1 rfl (q _ _ ((Heap.SameBut.update ..).trans (Heap.SameBut.update ..)) e2)))
 exact go
theorem pW {a:Addr}{Q:Bool→Shared→Prop}(hT:s.TypeIs (.ref a) "set")(q:Q false s):wpAny (model prog w) A (Builtin.List.listLengthHint (.ref a)) Q E s:=by
 unfold Builtin.List.listLengthHint
 refine wpAny_bind (wpAny_specialOf hT PySem.F.slot_set_len.lookup ?_)
 have e1:splitId "set.__len__"=some ("set","__len__"):=by decide +kernel
 dsimp only
 rw[e1]
 refine wpAny_bind (wpAny_isInstance hT sub_set_self ?_)
 rw[if_neg (by decide),if_pos (by decide +kernel)]
 exact wpAny_bind (wpAny_typeOf hT (wpAny_pure q))
theorem lj {vs:List Value}{acc:Array Value}(h:ItemsOf (fun i v=>vs[i]?=some v) acc vs.length):acc.toList=vs:=by
 apply List.ext_getElem?
 intro i
 by_cases c:i < acc.size
 ·rw[Array.getElem?_toList,Array.getElem?_eq_getElem c]
  exact(h.2 i _ (Array.getElem?_eq_getElem c)).symm
 ·have:=h.1
  rw[List.getElem?_eq_none (by simp;omega),List.getElem?_eq_none (by omega)]
theorem nU {S a:Addr}{ns:List Int}{c:Nat}{R:Result→Shared→Prop}(hh:A.handled=none)(hn:ns.length≤sizeLine)(hS:SetR prog w s.heap a ns)(hl:s.heap.get? S=some (lobj #[] c))
  (q:∀ h' d tk vs ms c',(∀ b o,b≠S→s.heap.get? b=some o→h'.get? b=some o)→IntsAre vs ms→ms.Perm ns→h'.get? S=some (lobj vs.toArray c')→R (.ok (.ret (.ref S))) { s with heap:=h',drawn:=d,toks:=tk }) :
  codeAny (model prog w) A (.builtin "list.__iadd__" ⟨[.ref S,.ref a],[]⟩) R s:=by
 have hT:s.TypeIs (.ref a) "set" := by
  rcases hS with ⟨o,-,-,-,ho,hx,-⟩
  exact⟨o,ho,hx.1⟩
 have ne:S≠a:=fun e=>by
  rcases hT with ⟨o,ho,hc⟩
  rw[← e,hl,Option.some.injEq]at ho
  rw[← ho]at hc
  exact absurd hc (show ¬ Value.type "list"=Value.type "set" by decide)
 refine codeAny_builtin PySem.F.entry_list_iadd ?_
 rw[Around.under_plainId PySem.F.plain_list_iadd _]
 have go:wpAny (model prog w) A.in1 (Builtin.List.listExtendWith (.ref S) (.ref a) (.ref S)) (fun fin s'=>match fin with | .done f=>R (.ok f) s' | .again c'=>c'.quiet=true∧codeAny (model prog w) A c' R s') (fun e s'=>R (.error e) s') s:=by
  unfold Builtin.List.listExtendWith
  refine wpAny_bind (wpAny_typeOf hT ?_)
  rw[if_neg (by simp[Builtin.List.listSameRef,ne])]
  refine wpAny_bind (nT hS fun h1 d it ms k1 li mp go=>?_)
  refine wpAny_bind (wpAny_holding (pW (hT.imp fun o h=>⟨k1 _ _ h.1,h.2⟩) ?_))
  rw[if_pos (by decide +kernel)]
  refine wpAny_bind (wpAny_rule (wpAny_bind (pV (s:={ s with heap:=h1,drawn:=d }) (k1 _ _ hl) fun h2 c2 k2 e2=>?_)))
  obtain⟨fp,vs,St,W,vI,st,lo⟩:=go A.in1 (by simpa using hh)
  have lS:S < s.heap.objs.size:=Heap.lt_size hl
  have fS:S∉fp:=fun z=>by
   rcases(lo S z).2 with e | e
   ·exact ne e
   ·exact absurd lS (Nat.not_lt_of_le e)
  have iS:S≠it:=Nat.ne_of_lt (Nat.lt_of_lt_of_le lS li)
  have lv:vs.length=ms.length:=vI.length
  refine wpAny_pure ⟨plainId_quiet PySem.F.plain_extend_loop _,codeAny_extend_loopS W.toS (by rw[lv,mp.length_eq];exact hn) S fS (.ref S) _ 0 _ #[] c2 rfl (Nat.zero_le _) (W.frame 0 h1 h2 st fun b hb o e=>(k2.2 b fun z=>fS (z ▸ hb)).trans e) e2 (ItemsOf.nil _) fun s' acc c' mv e3 it3=>?_⟩
  have ea:acc=vs.toArray:=by rw[← lj it3]
  obtain⟨h3,g3,d3,t3,o3⟩:=s'
  have m1:=mv.gens
  have m2:=mv.drawn
  have m3:=mv.os
  dsimp only at m1 m2 m3
  subst m1;subst m2;subst m3
  rw[ea]at e3
  refine q h3 _ t3 vs ms c' (fun b o hb e=>?_) vI mp e3
  by_cases z:b=it
  ·subst z
   exact absurd (Heap.lt_size e) (Nat.not_lt_of_le li)
  ·exact mv.heap b o (by simp[hb,z]) ((k2.2 b hb).trans (k1 b o e))
 exact go
theorem jx {a:Addr}{ns:List Int}{Q:List Value→Shared→Prop}(hh:A.handled=none)(hn:ns.length≤sizeLine)(hS:SetR prog w s.heap a ns)
  (q:∀ h' d tk vs ms,(∀ b o,s.heap.get? b=some o→h'.get? b=some o)→IntsAre vs ms→ms.Perm ns→Q vs { s with heap:=h',drawn:=d,toks:=tk }):wpAny (model prog w) A (collect (.ref a)) Q E s:=by
 unfold collect
 refine wpAny_bind (wpAny_runValue (codeAny_builtin PySem.F.entry_proto_collect ?_))
 rw[Around.under_plainId PySem.F.plain_proto_collect _]
 unfold Builtin.«proto.collect»
 have hS1:SetR prog w (s.heap.push (lobj #[] 0)) a ns:=by
  rcases hS with ⟨o,es,ep,t,ho,r⟩
  exact⟨o,es,ep,t,Heap.get?_push_of_some _ ho,r⟩
 refine wpAny_bind (wpAny_newList (wpAny_pure ⟨plainId_quiet PySem.F.plain_list_iadd _,nU (by simpa using hh) hn hS1 (Heap.get?_push_size _ rfl) fun h' d tk vs ms c' k vI mp e=>?_⟩))
 refine wpAny_bind (wpAny_load e (wpAny_pure ?_))
 exact q h' d tk vs ms (fun b o z=>k b o (Nat.ne_of_lt (Heap.lt_size z)) (Heap.get?_push_of_some _ z)) vI mp
end
def dSortS:List D→R D
 | [.lst xs]=>match intsOf xs with
  | some is=>if (onceI is).length < 64 then .ok (.lst ((sortI (onceI is)).map .int)) else .stuck
  | none=>.stuck
 | _=>.stuck
section
variable {prog:Program}{w:World}{A:Around}{E:Value→Shared→Prop}{s:Shared}
theorem ki {a:Addr}{ns:List Int}{Q:Value→Shared→Prop}(hh:A.handled=none)(h64:ns.length < 64)(hS:SetR prog w s.heap a ns)
  (q:∀ (h1 h':Heap) d tk vs n,(∀ b o,s.heap.get? b=some o→h1.get? b=some o)→(∀ b o,h1.get? b=some o→h'.get? b=some o)→IntsAre vs (sortI ns)→h'.get? h1.objs.size=some (seqObj "list" vs.toArray n)→Q (.ref h1.objs.size) { s with heap:=h',drawn:=d,toks:=tk }) :
  wpAny (model prog w) A (call (.builtin "sorted") [.ref a]) Q E s:=by
 refine Calls.call_function_entry kind_sorted plain_sorted entry_sorted (args_sorted1 _) ?_
 have go:wpAny (model prog w) A.in1 (collect (.ref a) >>= fun xs=>newList xs >>= fun l=>holding [l] (call (.builtin "list.sort") [l]) >>= fun _=>ret l) (fun fin s'=>∃ v,fin=.done (.ret v)∧Q v s') E s:=by
  refine wpAny_bind (jx (by simpa using hh) (by rw[sizeLine_eq];omega) hS fun h1 d tk vs ms k vI mp=>?_)
  have lv:vs.length < 64:=by rw[vI.length,mp.length_eq];exact h64
  refine wpAny_bind (wpAny_newList ?_ (by rw[sizeLine_eq];omega))
  have e1:(h1.push (seqObj "list" vs.toArray 0)).get? h1.objs.size=some (seqObj "list" vs.toArray 0):=Heap.get?_push_size _ rfl
  refine wpAny_bind (wpAny_holding (wpAny_call_entry slot_list_sort ⟨_,e1,rfl⟩ entry_list_sort (list_sort_tree e1 vI lv fun out ns' a1 a2 a3=>⟨_,rfl,?_⟩) (args_list_sort _)))
  have e2:=dq ((a2.trans mp).trans (bM ns).symm) a3 (dW ns)
  subst e2
  obtain⟨n,hn⟩:=sortedHeap_at (out:=out) e1
  refine wpAny_pure ⟨_,rfl,q h1 _ d tk out.toList n k (fun b o e=>?_) a1 (by simpa using hn)⟩
  have lt:=Heap.lt_size e
  refine(sortedHeap_old (Nat.ne_of_lt lt) ?_).trans (Heap.get?_push_of_some _ e)
  rw[size_push']
  exact Nat.lt_succ_of_lt lt
 exact go
end
section
variable {X:Cx}{F:Fx}{p p2 pos pos2:Pos}{e:Expr}{gs:SS→R (List D)}{k:Nat}
theorem pX {pins:List (Addr×Obj)}{σ:List (Option V)}{H:Hp}{s:Shared}(I:Inv X pins σ H s)(d:Drawn):Inv X pins σ H { s with drawn:=d }:=⟨I.ok,I.os,I.bare,I.base,I.loc,I.cell,I.free,I.freeC,I.pin,I.hok,I.len⟩
def setφ (X:Cx)(a:Addr)(is:List Int):Heap→Prop:=fun h=>∃ ns,SetR X.prog X.w h a ns∧ns.Perm (onceI is)
theorem nV {a:Addr}{is:List Int}(h1 h2:Heap)(q:setφ X a is h1)(k:∀ o,h1.get? a=some o→h2.get? a=some o):setφ X a is h2:=by
 rcases q with ⟨ns,⟨o,es,ep,t,ho,r⟩,p⟩
 exact⟨ns,⟨o,es,ep,t,k o ho,r⟩,p⟩
theorem nW (hc:X.calm=true):CallR X (.type "set") (fun xs H Q=>∃ (p:Addr) (is:List Int),xs=[.ref p]∧SqL X.K H p (is.map V.int)∧(onceI is).length < 64∧∀ a,H a=none→Q (.ref a) (upd H a (.ext (setφ X a is)))):=by
 intro pins s σ H xs us Q I r h
 obtain⟨p,is,rfl,hq,hl,q⟩:=h
 obtain⟨u,rfl,ru⟩:=vals1 r
 cases ru
 obtain⟨its,rv,pl,hz⟩:=I.list hq
 refine nM (I.ok.hd hc) pl.isList (kN rv) (by show _ < 4096;omega) fun h' tk ns S p kk=>?_
 refine⟨.ref s.heap.objs.size,_,I.laid (o:=.ext (setφ X s.heap.objs.size is)) (t':=tk) (fun b u q=>kk b u (Heap.lt_size q) q) (Nat.le_refl _) ⟨⟨ns,S,p⟩,?_,nV⟩,rfl,q _ I.fresh⟩
 rcases S with ⟨o,-,-,-,ho,-⟩
 exact⟨o,ho⟩
theorem lm (hc:X.calm=true):CallR X (.builtin "sorted") (fun xs H Q=>∃ (a:Addr) (is:List Int),xs=[.ref a]∧H a=some (.ext (setφ X a is))∧(onceI is).length < 64∧∀ p,H p=none→Q (.ref p) (upd H p (.lst ((sortI (onceI is)).map V.int)))):=by
 intro pins s σ H xs us Q I r h
 obtain⟨a,is,rfl,hq,hl,q⟩:=h
 obtain⟨u,rfl,ru⟩:=vals1 r
 cases ru
 obtain⟨⟨ns,S,pm⟩,-,-⟩:=(show ObjOk X.prog X.w H s.heap a (.ext (setφ X a is)) from I.hok a _ hq)
 refine ki (I.ok.hd hc) (by rw[pm.length_eq];exact hl) S fun h1 h' d tk vs n k1 k2 vI e=>?_
 have es:sortI ns=sortI (onceI is):=dq ((bM _).trans (pm.trans (bM _).symm)) (dW _) (dW _)
 rw[es]at vI
 have I1:=pX (I.kept (t':=tk) k1) d
 have hz:((sortI (onceI is)).map V.int).length≤sizeLine:=by rw[List.length_map,(bM _).length_eq,sizeLine_eq];omega
 exact⟨.ref h1.objs.size,_,I1.laid (a:=h1.objs.size) (o:=.lst ((sortI (onceI is)).map V.int)) (t':=tk) k2 (Nat.le_refl _) ⟨hz,vs,n,L2.bG vI,e⟩,rfl,q _ I1.fresh⟩
theorem jy (bx:BX X F k)(hg:Gl X "sorted")(hm:X.mg "sorted"=none)(hg2:Gl X "set")(hm2:X.mg "set"=none)(ha:FA X F [e] gs)(he:starEach [e] X.env=(false,eval e X.env)::starEach [] X.env:=by rfl)(hpl:(backTo pos2 (starEach [] X.env)).any (·.1)=false:=by rfl)
  (he2:starEach [.Call (.Name "set" p2) [e] [] pos2] X.env=(false,eval (.Call (.Name "set" p2) [e] [] pos2) X.env)::starEach [] X.env:=by rfl) (hpl2:(backTo pos (starEach [] X.env)).any (·.1)=false:=by rfl) :
  FE X F (.Call (.Name "sorted" p) [.Call (.Name "set" p2) [e] [] pos2] [] pos) (eCall dSortS gs) :=
 (cE (lm bx.calm) hg hm boot_sorted (bi (eM (nW bx.calm) hg2 hm2 (by decide +kernel) ha (he:=he) (hpl:=hpl)) b7 he2) (he:=he2) (hpl:=hpl2)).weak fun σ H Q ⟨Z,S,ok,w⟩=>by
  refine aS ok w fun ds vs H1 Z1 ok1 x1 rs w1=>?_
  unfold dSortS at w1
  split at w1
  ·rename_i xs
   split at w1
   ·rename_i is e
    split at w1
    ·rename_i hl
     obtain⟨v,rfl,h⟩:=bh rs
     rw[Rep]at h
     obtain⟨a,us,rfl,h1,h2⟩:=h
     have e2:=gQ h2 e
     subst e2
     refine⟨a,is,rfl,by rw[bx.K];exact ok1.sub.seq h1,hl,fun c hc=>⟨c,is,rfl,ao,hl,fun p hp=>?_⟩⟩
     have x1:=Ex.hidden (o:=.ext (setφ X c is)) ok1.sub hc
     exact w1 _ _ (x1.trans (Ex.alloc x1.sub hp)) _ (by rw[Rep];exact⟨p,_,rfl,SqL.of ao,gW _⟩)
    ·exact w1.elim
   ·exact w1.elim
  ·exact w1.elim
end
section
variable {X:Cx}{F:Fx}
def eOwnLen (i:Nat):SS→R D:=fun S=>match S[i]? with
 | some (some (.own ds))=>.ok (.int (ds.length:Nat))
 | _=>.stuck
theorem nX (i:Nat){x:Str}{p p0 pos:Pos}{k:Nat}(bx:BX X F k)(hg:Gl X "len")(hm:X.mg "len"=none)(hi:X.N[i]?=some x:=by rfl)(hv:Vis X.env.scope x:=by first | exact Or.inl rfl | exact Or.inr (Or.inl rfl) | exact Or.inr (Or.inr rfl))(hd:(x==("__debug__":Str))=false:=by decide)
  (hcd:(x==("__classdict__":Str))=false:=by decide) (he:starEach [.Name x p0] X.env=(false,eval (.Name x p0) X.env)::starEach [] X.env:=by rfl) (hpl:(backTo pos (starEach [] X.env)).any (·.1)=false:=by rfl):FE X F (.Call (.Name "len" p) [.Name x p0] [] pos) (eOwnLen i) :=
 (cE dL hg hm PySem.boot_len (bi (bQ hi hv hd hcd) b7 he) (he:=he) (hpl:=hpl)).weak fun σ H Q ⟨Z,S,ok,w⟩=>by
  unfold eOwnLen at w
  split at w
  ·rename_i ds e0
   obtain⟨a,vs,e1,e2,e3,e4,r⟩:=ok.own i ds e0
   refine⟨.ref a,e1,a,vs,rfl,.inl (SqL.of e2),?_⟩
   rw[← r.length]
   exact WG.now w ok.sub _ aI
  ·exact w.elim
variable {σ':Type}{S:SS}{st:Stmt}{rest:List Stmt}{J:σ'→SS→Prop}
end
inductive Prd {α β:Type}(R:α→β→Prop):List α→List β→Prop
 | nil:Prd R [] []
 | cons {a b l r}:R a b→Prd R l r→Prd R (a::l) (b::r)
section
variable {prog:Program}{w:World}{E:Value→Shared→Prop}
end
theorem Prd.at {α β:Type}{R:α→β→Prop}:∀ {l:List α} {r:List β} {i:Nat} {a:α},Prd R l r→l[i]?=some a→∃ b,r[i]?=some b∧R a b
 | _,_,i,a,.nil,e=>by simp at e
 | _,_,0,a,.cons (b:=b) h _,e=>by
  cases e
  exact⟨b,rfl,h⟩
 | _,_,i+1,a,.cons _ t,e=>t.at (i:=i) e
theorem Prd.length {α β:Type}{R:α→β→Prop}:∀ {l:List α} {r:List β},Prd R l r→l.length=r.length
 | _,_,.nil=>rfl
 | _,_,.cons _ t=>by rw[List.length_cons,List.length_cons,t.length]
section
variable {prog:Program}{w:World}{A:Around}{E:Value→Shared→Prop}{s:Shared}{R:Result→Shared→Prop}
end
section
variable {X:Cx}{F:Fx}{p p2 pos pos2:Pos}{e:Expr}{gs:SS→R (List D)}{k:Nat}{pins:List (Addr×Obj)}{σ:List (Option V)}{H:Hp}{s:Shared}
end
end FF
end
noncomputable section
set_option maxRecDepth 1000000
namespace FF
open PySem PySem.Spec PyProof.Rows L2
def ltOf:Code→Option Value→Option Bool
 | .call (.builtin id) ⟨[.int a _,.int b _],[]⟩,none=>if id="int.__lt__" then some (decide (a < b)) else none
 | _,_=>none
def ev {α:Type}(σ:Setting):Sem α→Option α
 | .pure a=>some a
 | .rule _ k=>ev σ (k ())
 | .point _ k=>ev σ (k ())
 | .ask k=>ev σ (k σ)
 | .call c h _ _ k=>match ltOf c h with
  | some b=>ev σ (k (.ok (.ret (.bool b))))
  | none=>none
 | _=>none
section
variable {prog:Program}{w:World}{A:Around}{E:Value→Shared→Prop}{s:Shared}
end
def known (f:Nat→Int)(t:Nat→Tok):List Value:=(List.range 64).map fun i=>.int (f i) (t i)
section
variable {prog:Program}{w:World}{A:Around}{E:Value→Shared→Prop}{s:Shared}
end
section
variable {X:Cx}{F:Fx}{p pos:Pos}{e:Expr}{gs:SS→R (List D)}{k:Nat}
end
def oStN (ds:List D)(i v:D):R (List D):=match i with
 | .int j=>match L2.ixN ds.length j with
  | some n=>.ok (ds.set n v)
  | none=>.stuck
 | _=>.stuck
def sStoN (i:Nat)(g ge:SS→R D):SS→O:=fun S=>match S[i]? with
 | some (some (.own ds))=>rO ((((ge S).bind fun v=>(g S).bind fun j=>oStN ds j v)).bind fun ds'=>.ok (.nx (S.set i (some (.own ds')))))
 | _=>.stuck
section
variable {X:Cx}{F:Fx}{pos:Pos}{k:Nat}{g ge:SS→R D}{e ei:Expr}{x:Str}
theorem nY (i:Nat){p0 pos':Pos}(bx:BX X F k)(he:FE X F e ge)(hix:FE X F ei g)(hi:X.N[i]?=some x:=by rfl)(hv:Vis X.env.scope x:=by first | exact Or.inl rfl | exact Or.inr (Or.inl rfl) | exact Or.inr (Or.inr rfl))(hd:(x==("__debug__":Str))=false:=by decide)
  (hcd:(x==("__classdict__":Str))=false:=by decide)
  (hasg:∀ v,assign (.Subscript (.Name x p0) ei pos') X.env v=(do
   let ov ← holding [v] (eval (.Name x p0) X.env)
   let iv ← holding [v,ov] (eval ei X.env)
   standAt pos'
   holding [v,ov,iv] (setItem ov iv v)
   release [v,ov,iv] []):=by intro _;rfl)
  (hs:swapsWithSole [.Subscript (.Name x p0) ei pos'] e pos.line X.env=pure false:=by rfl) (hw:swappedStores [.Subscript (.Name x p0) ei pos'] e X.env=pure none:=by rfl)
  (h1:(assignEach [.Subscript (.Name x p0) ei pos'] X.env).map (·.2)=[assign (.Subscript (.Name x p0) ei pos') X.env]:=by rfl) :
  FS X F (.Assign [.Subscript (.Name x p0) ei pos'] e pos) (sStoN i g ge) :=
 (oH he (oG (bQ hi hv hd hcd) hix jS hasg) hs hw h1).weak fun D σ H ⟨Z,S,ok,w⟩=>by
  unfold sStoN at w
  cases q:S[i]? with
  | none=>rw[q]at w;exact w.elim
  | some o =>
   cases o with
   | none=>rw[q]at w;exact w.elim
   | some y =>
    cases y with
    | own ds =>
     rw[q]at w
     have w0:WO F Z (rO ((ge S).bind fun v=>((g S).bind fun j=>oStN ds j v).bind fun ds'=>R.ok (O.nx (S.set i (some (.own ds')))))) D:=by
      rw[← R.bind_assoc];exact w
     refine aB ok (WO.wg ok w0) fun d v H1 Z1 ok1 x1 rv w1=>?_
     obtain⟨a,vs,e1,e2,e3,e4,r⟩:=ok1.own i ds q
     have w1':WG F H1 Z1 ((g S).bind fun j=>(oStN ds j d).bind fun ds'=>R.ok (O.nx (S.set i (some (.own ds'))))) fun o _ Z'=>WO F Z' o D:=by
      rw[← R.bind_assoc];exact w1
     refine⟨.ref a,e1,aB ok1 w1' fun d2 v2 H2 Z2 ok2 x2 rv2 w2=>?_⟩
     cases d2 with
     | int j =>
      rw[Rep]at rv2
      cases qj:L2.ixN ds.length j with
      | none =>
       have:oStN ds (.int j) d=.stuck:=by unfold oStN;simp only[qj]
       rw[this]at w2
       exact w2.elim
      | some n =>
       have:oStN ds (.int j) d=.ok (ds.set n d):=by unfold oStN;simp only[qj]
       rw[this]at w2
       refine⟨a,vs,j,n,rfl,rv2,x2.same _ _ e2,by rw[← r.length];exact qj,?_⟩
       have w4:=WG.now w2 ok2.sub
       exact w4 σ _ Z2 (Same.refl _) (ok2.write q e1 (Reps.setAt (rv.mono x2.z) n (r.mono x2.z)))
     | _=>exact w2.elim
    | _=>rw[q]at w;exact w.elim
end
section
variable {X:Cx}{F:Fx}{p pos:Pos}{e a b:Expr}{ga gb:SS→R D}{gs:SS→R (List D)}{k:Nat}
end
section
variable {X:Cx}{F:Fx}{o e:Expr}{g:SS→R D}{gs:List (SS→R D)}{apos cpos:Pos}{k:Nat}
end
section
variable {X:Cx}{F:Fx}{e:Expr}{lo hi:Option Expr}{g:SS→R D}{l h:SS→R (Option Int)}{pos p2:Pos}
end
section
variable {X:Cx}
end
section
variable {X:Cx}{F:Fx}{e ei:Expr}{gs:SS→R (List D)}{pos p0 apos cpos:Pos}{x:Str}
end
section
variable {X:Cx}{pins:List (Addr×Obj)}{σ:St}
variable {F:Fx}{k:Nat}{f:Addr}{fd:FuncData}{ps:List Str}{t:List D→R D}{ds:List D}{l I S:Addr}{H0 Z0:Hp}{R:Result→Shared→Prop}{d:D}
end
section
variable {X:Cx}{F:Fx}{p pos kp np:Pos}{e:Expr}{g:SS→R D}{k:Nat}{x:Str}{ps:List Str}{t:List D→R D}
end
def tget (kvs:List TKV)(ks:List Int):Option V:=(kvs.find? fun p=>decide (p.1=ks)).map (·.2.2)
section
variable {kvs:List TKV}{xs:List TKU}{ks:List Int}
end
section
variable {X:Cx}{pins:List (Addr×Obj)}{σ:St}{H:Hp}{s:Shared}{a b:Addr}{kvs:List TKV}{ks:List Int}{A:Around}{E:Value→Shared→Prop}
def KeysAt (K:PySem.W.Frag)(H:Hp)(kvs:List TKV):Prop:=∀ x∈kvs,SqT K H x.2.1 (x.1.map V.int)
end
section
variable {X:Cx}{pos:Pos}{o i e value:Expr}{td ty tv:TE}{pos':Pos}
end
structure TabOk (F:Fx)(Z:Hp)(m:List (List Int×D))(kvs:List TKV):Prop where
 ks:kvs.map (·.1)=m.map (·.1)
 at_:KeysAt F.K Z kvs
 vs:Reps F.K F.C Z (m.map (·.2)) (kvs.map (·.2.2))
section
variable {F:Fx}{Z Z':Hp}{m:List (List Int×D)}{kvs:List TKV}{ks:List Int}{d:D}{v:V}{b:Addr}
theorem TabOk.inv {k:List Int×D}(h:TabOk F Z (k::m) kvs):∃ b v r,kvs=(k.1,b,v)::r∧SqT F.K Z b (k.1.map V.int)∧Rep F.K F.C Z k.2 v∧TabOk F Z m r:=by
 cases kvs with
 | nil=>have:=h.ks;cases this
 | cons p r =>
  obtain⟨k',b,v⟩:=p
  obtain⟨h1,h2,h3⟩:=h
  rw[List.map_cons,List.map_cons]at h1
  injection h1 with h1 h4
  have q:=h2 _ (.head _)
  obtain⟨r1,r2⟩:=Reps.uncons h3
  cases (show k'=k.1 from h1)
  exact⟨b,v,r,rfl,q,r1,h4,fun x hx=>h2 x (.tail _ hx),r2⟩
theorem TabOk.inv0 (h:TabOk F Z [] kvs):kvs=[]:=by
 cases kvs with
 | nil=>rfl
 | cons p r=>have:=h.ks;cases this
theorem TabOk.any:∀ {m:List (List Int×D)} {kvs:List TKV},TabOk F Z m kvs→(kvs.any fun p=>decide (p.1=ks))=(m.any fun p=>decide (p.1=ks))
 | [],kvs,h=>by rw[h.inv0];rfl
 | k::m,kvs,h=>by
  obtain⟨b,v,r,rfl,_,_,h2⟩:=h.inv
  rw[List.any_cons,List.any_cons,h2.any]
theorem TabOk.get:∀ {m:List (List Int×D)} {kvs:List TKV},TabOk F Z m kvs→dicGet m ks=some d→∃ v,tget kvs ks=some v∧Rep F.K F.C Z d v
 | [],kvs,h,e=>nomatch e
 | k::m,kvs,h,e=>by
  obtain⟨b,v,r,rfl,h0,h1,h2⟩:=h.inv
  unfold dicGet at e
  rw[List.find?_cons]at e
  unfold tget
  rw[List.find?_cons]
  by_cases hk:k.1=ks
  ·rw[decide_eq_true hk]at e
   rw[decide_eq_true (show (k.1,b,v).1=ks from hk)]
   cases e
   exact⟨v,rfl,h1⟩
  ·rw[decide_eq_false hk]at e
   rw[decide_eq_false (show ¬ (k.1,b,v).1=ks from hk)]
   exact h2.get e
end
abbrev dt (m:List (List Int×D)):Option Sl:=some (.dit m)
section
variable {F:Fx}{H Z:Hp}{S:SS}{σ:St}
end
section
variable {X:Cx}{F:Fx}{pos p p0:Pos}{k:Nat}{g ge:SS→R D}{e ei:Expr}{x:Str}
end
section
variable {σ:Type}{X:Cx}{F:Fx}{S:SS}{J:σ→SS→Prop}
end
section
variable {X:Cx}{F:Fx}
variable {σ':Type}{S:SS}{st:Stmt}{rest:List Stmt}{J:σ'→SS→Prop}
end
inductive OC where
 | ins (c:Nat) (fs:List (Str×D)) | lst (ds:List D)
abbrev Wd:=Addr→Option OC
def WObj (K:PySem.W.Frag)(C:Nat→Addr)(H Z:Hp)(a:Addr):OC→Prop
 | .ins c fs=>∃ dx vs,H a=some (.ins (C c) dx vs)∧H dx=some (.own a)∧Cls K (C c)∧vs.map Prod.fst=fs.map Prod.fst∧Reps K C Z (fs.map Prod.snd) (vs.map Prod.snd)
 | .lst ds=>∃ vs,H a=some (.lst vs)∧Reps K C Z ds vs
def TblOk (H:Hp)(P:Addr)(q:Str):Prop:=∃ ps,H P=some (.tbl ps)∧TriplesOk ps.toList ∧
 ∀ pos cv,codeAmong pos ps.toList=some cv→∃ c oc ws t,cv=.ref c∧H c=some (.frz oc (.own 0))∧oc.data=.fields ws∧ws[1]?=some (.str q t)
def qOf (K:PySem.W.Frag)(f:Addr):Str:=match K.lookup f with
 | some ⟨_,_,.func fd,_⟩=>fd.qualname ++ ".<locals>." ++ "<lambda>"
 | _=>Str.empty
def Tbs (K:PySem.W.Frag)(C:Nat→Addr)(H:Hp):Prop:=∀ i,i < C 900→TblOk H (C (901+2*i)) (qOf K (C (902+2*i)))
theorem Tbs.mono {K:PySem.W.Frag}{C:Nat→Addr}{H H':Hp}(h:Tbs K C H)(x:Same H H'):Tbs K C H':=fun i hi=>by
 obtain⟨ps,e,t,k⟩:=h i hi
 refine⟨ps,x _ _ e,t,fun pos cv q=>?_⟩
 obtain⟨c,oc,ws,t,e1,e2,r⟩:=k pos cv q
 exact⟨c,oc,ws,t,e1,x _ _ e2,r⟩
structure WdOk (K:PySem.W.Frag)(C:Nat→Addr)(H Z:Hp)(W:Wd):Prop where
 wo:∀ a o,W a=some o→WObj K C H Z a o
 tb:Tbs K C H
instance {K:PySem.W.Frag}{C:Nat→Addr}{H Z:Hp}{W:Wd}:CoeFun (WdOk K C H Z W) (fun _=>∀ a o,W a=some o→WObj K C H Z a o):=⟨WdOk.wo⟩
theorem WObj.mono {K:PySem.W.Frag}{C:Nat→Addr}{H Z H' Z':Hp}{a:Addr}{o:OC}(h:WObj K C H Z a o)(x:Same H H')(z:Same Z Z'):WObj K C H' Z' a o:=by
 cases o with
 | ins c fs=>obtain⟨dx,vs,e1,e2,c,e3,r⟩:=h;exact⟨dx,vs,x _ _ e1,x _ _ e2,c,e3,r.mono z⟩
 | lst ds=>obtain⟨vs,e1,r⟩:=h;exact⟨vs,x _ _ e1,r.mono z⟩
theorem WdOk.mono {K:PySem.W.Frag}{C:Nat→Addr}{H Z H' Z':Hp}{W:Wd}(h:WdOk K C H Z W)(x:Same H H')(z:Same Z Z'):WdOk K C H' Z' W:=⟨fun a o e=>(h.wo a o e).mono x z,h.tb.mono x⟩
structure GX (HW Z H HW' Z' H':Hp):Prop where
 fr:∀ b o,HW b=none→H b=some o→H' b=some o
 z:Same Z Z'
 zh:Same Z' H'
 wh:Same HW' H'
 dm:∀ b,HW b≠none→HW' b≠none
 nw:∀ b,HW' b≠none→HW b≠none∨H b=none
 nz:∀ b,Z' b≠none→Z b≠none∨H b=none
 dj:∀ b,HW' b≠none→Z' b=none
theorem rL {o:Option HO}(h:o≠none):∃ u,o=some u:=by cases o with | none=>exact absurd rfl h | some u=>exact⟨u,rfl⟩
theorem bj {o:Option HO}{u:HO}(h:o=some u):o≠none:=by rw[h];simp
theorem GX.refl {HW Z H:Hp}(zh:Same Z H)(wh:Same HW H)(dj:∀ b,HW b≠none→Z b=none):GX HW Z H HW Z H :=
 ⟨fun _ _ _ e=>e,Same.refl _,zh,wh,fun _ h=>h,fun _ h=>.inl h,fun _ h=>.inl h,dj⟩
theorem GX.trans {HW Z H HW1 Z1 H1 HW2 Z2 H2:Hp}(a:GX HW Z H HW1 Z1 H1)(b:GX HW1 Z1 H1 HW2 Z2 H2):GX HW Z H HW2 Z2 H2:=by
 have back:∀ c,H1 c=none→H c=none∨HW c≠none:=fun c h=>by
  cases e:HW c with
  | some o=>exact .inr (by simp)
  | none =>
   cases e2:H c with
   | none=>exact .inl rfl
   | some o=>have:=a.fr c o e e2;rw[h]at this;cases this
 refine⟨fun c o h1 h2=>?_,a.z.trans b.z,b.zh,b.wh,fun c h=>b.dm c (a.dm c h),fun c h=>?_,fun c h=>?_,b.dj⟩
 ·have e:=a.fr c o h1 h2
  cases q:HW1 c with
  | none=>exact b.fr c o q e
  | some u =>
   rcases a.nw c (bj q) with z | z
   ·exact absurd h1 z
   ·rw[h2]at z;cases z
 ·rcases b.nw c h with z | z
  ·exact a.nw c z
  ·exact(back c z).symm
 ·rcases b.nz c h with z | z
  ·exact a.nz c z
  ·rcases back c z with q | q
   ·exact .inr q
   ·exact absurd (b.dj c (b.dm c (a.dm c q))) h
def kp (HW Z HW0 H0 H:Hp):Hp:=fun b=>if HW b≠none∨Z b≠none∨(HW0 b=none∧H0 b≠none) then H b else none
theorem jz {HW Z HW0 H0 H:Hp}:Same (kp HW Z HW0 H0 H) H:=fun b o e=>by
 unfold kp at e
 split at e
 ·exact e
 ·cases e
section
variable {HW0 Z0 H0 HW Z H:Hp}
theorem kp_w (g:GX HW0 Z0 H0 HW Z H):Same HW (kp HW Z HW0 H0 H):=fun b o e=>by
 unfold kp
 rw[if_pos (.inl (bj e))]
 exact g.wh b o e
theorem kp_z (g:GX HW0 Z0 H0 HW Z H):Same Z (kp HW Z HW0 H0 H):=fun b o e=>by
 unfold kp
 rw[if_pos (.inr (.inl (bj e)))]
 exact g.zh b o e
theorem kp_0 (g:GX HW0 Z0 H0 HW Z H){b:Addr}{o:HO}(h:HW0 b=none)(e:H0 b=some o):kp HW Z HW0 H0 H b=some o:=by
 unfold kp
 rw[if_pos (.inr (.inr ⟨h,bj e⟩))]
 exact g.fr b o h e
theorem db (g:GX HW0 Z0 H0 HW Z H){b:Addr}(h:kp HW Z HW0 H0 H b=none):HW b=none∧Z b=none∧(HW0 b≠none∨H0 b=none):=by
 refine⟨?_,?_,?_⟩
 ·cases e:HW b with
  | none=>rfl
  | some o=>rw[kp_w g b o e]at h;cases h
 ·cases e:Z b with
  | none=>rfl
  | some o=>rw[kp_z g b o e]at h;cases h
 ·cases e:HW0 b with
  | some o=>exact .inl (by simp)
  | none =>
   cases e2:H0 b with
   | none=>exact .inr rfl
   | some o=>rw[kp_0 g e e2]at h;cases h
theorem sJ {b:Addr}(h1:HW b=none)(h2:Z b=none)(h3:HW0 b≠none∨H0 b=none):kp HW Z HW0 H0 H b=none:=by
 unfold kp
 rw[if_neg]
 rintro (z | z | z)
 ·exact z h1
 ·exact z h2
 ·rcases h3 with q | q
  ·exact q z.1
  ·exact z.2 q
theorem GX.err {H':Hp}(g:GX HW0 Z0 H0 HW Z H)(s:Same (kp HW Z HW0 H0 H) H'):GX HW0 Z0 H0 HW Z H' :=
 ⟨fun b o h e=>s b o (kp_0 g h e),g.z,(kp_z g).trans s,(kp_w g).trans s,g.dm,g.nw,g.nz,g.dj⟩
theorem GX.after {H' Z':Hp}(g:GX HW0 Z0 H0 HW Z H)(x:Ex (kp HW Z HW0 H0 H) Z H' Z'):GX HW0 Z0 H0 HW Z' H':=by
 have e:=g.err x.same
 refine⟨e.fr,g.z.trans x.z,x.sub,e.wh,g.dm,g.nw,fun b h=>?_,fun b h=>?_⟩
 ·rcases x.new b h with q | q
  ·exact g.nz b q
  ·rcases(db g q).2.2 with z | z
   ·exact absurd (db g q).1 (g.dm b z)
   ·exact .inr z
 ·cases q:Z' b with
  | none=>rfl
  | some o =>
   rcases x.new b (bj q) with z | z
   ·exact absurd (g.dj b h) z
   ·exact absurd (db g z).1 h
theorem GX.ex {H' Z':Hp}(zh:Same Z H)(wh:Same HW H)(dj:∀ b,HW b≠none→Z b=none)(x:Ex H Z H' Z'):GX HW Z H HW Z' H' :=
 ⟨fun b o _ e=>x.same b o e,x.z,x.sub,wh.trans x.same,fun _ h=>h,fun _ h=>.inl h,x.new,fun b h=>by
  cases q:Z' b with
  | none=>rfl
  | some o =>
   rcases x.new b (bj q) with z | z
   ·exact absurd (dj b h) z
   ·obtain⟨u,e⟩:=rL h
    rw[wh b u e]at z;cases z⟩
end
theorem StOk.rebase {F F':Fx}{H Z:Hp}{S:SS}{σ:St}(h:StOk F H Z S σ)(x:Ex F'.H0 F'.Z0 H Z)(hp:∀ a o,H a=some o→Z a=none→F.H0 a=none→F'.H0 a=none)(hK:F'.K=F.K:=by rfl)(hC:F'.C=F.C:=by rfl):StOk F' H Z S σ:=by
 refine⟨x,h.len,fun i y e=>?_,fun i j y z v w A B hij e1 e2 e3 e4 o1 o2=>?_⟩
 ·obtain⟨v,A,e1,o,p⟩:=h.sl i y e
  exact⟨v,A,e1,ow_K o hK hC,⟨p.nd,p.z,fun a ha=>let ⟨u,hu⟩:=o.there a ha;hp a u hu (p.z a ha) (p.h0 a ha)⟩⟩
 ·exact h.dj i j y z v w A B hij e1 e2 e3 e4 (ow_K o1 hK.symm hC.symm) (ow_K o2 hK.symm hC.symm)
structure Gx where
 K:PySem.W.Frag
 C:Nat→Addr
 HW0:Hp
 Z0:Hp
 H0:Hp
 E:XK
abbrev Gx.at (G:Gx)(H0 Z0:Hp):Fx:=⟨G.K,G.C,H0,Z0,G.E⟩
abbrev Gx.fx (G:Gx)(HW Z H:Hp):Fx:=⟨G.K,G.C,kp HW Z G.HW0 G.H0 H,Z,G.E⟩
structure GOk (G:Gx)(W:Wd)(HW Z H:Hp)(S:SS)(ρ:St):Prop where
 gx:GX G.HW0 G.Z0 G.H0 HW Z H
 wd:WdOk G.K G.C HW Z W
 nm:StOk (G.fx HW Z H) H Z S ρ
abbrev Wk (F:Fx)(W:Wd):Prop:=WdOk F.K F.C F.H0 F.Z0 W
section
variable {G:Gx}{W W':Wd}{HW Z H HW' Z' H':Hp}{S S':SS}{ρ ρ':St}
theorem GOk.wk (h:GOk G W HW Z H S ρ):Wk (G.fx HW Z H) W:=h.wd.mono (kp_w h.gx) (Same.refl _)
theorem GOk.after (h:GOk G W HW Z H S ρ)(k:StOk (G.fx HW Z H) H' Z' S' ρ'):GOk G W HW Z' H' S' ρ':=by
 have g:=h.gx.after k.ex
 refine⟨g,h.wd.mono (Same.refl _) k.ex.z,k.rebase ⟨jz,Same.refl _,k.sub,fun _ q=>.inl q⟩ fun a o e z n=>?_⟩
 have q:=db h.gx n
 exact sJ q.1 z q.2.2
theorem GOk.more (h:GOk G W HW Z H S ρ)(x:GX HW Z H HW' Z' H')(w:WdOk G.K G.C HW' Z' W'):GOk G W' HW' Z' H' S ρ:=by
 have g:=h.gx.trans x
 have keep:∀ {y:Sl} {v:V} {A:List Addr},Ow (G.fx HW Z H) H Z y v A→Priv (G.fx HW Z H) Z A→Ow (G.fx HW' Z' H') H' Z' y v A:=fun o p=>ow_K (o.mono x.z fun a ha u e=>x.fr a u (db h.gx (p.h0 a ha)).1 e)
 refine⟨g,w,⟨⟨jz,Same.refl _,x.zh,fun _ q=>.inl q⟩,h.nm.len,fun i y e=>?_,fun i j y z v w A B hij e1 e2 e3 e4 o1 o2=>?_⟩⟩
 ·obtain⟨v,A,e1,o,p⟩:=h.nm.sl i y e
  refine⟨v,A,e1,keep o p,⟨p.nd,fun a ha=>?_,fun a ha=>?_⟩⟩
  ·obtain⟨u,hu⟩:=o.there a ha
   cases q:Z' a with
   | none=>rfl
   | some r =>
    rcases x.nz a (bj q) with z | z
    ·exact absurd (p.z a ha) z
    ·rw[hu]at z;cases z
  ·obtain⟨u,hu⟩:=o.there a ha
   have n:=db h.gx (p.h0 a ha)
   refine sJ ?_ ?_ n.2.2
   ·cases q:HW' a with
    | none=>rfl
    | some r =>
     rcases x.nw a (bj q) with z | z
     ·exact absurd n.1 z
     ·rw[hu]at z;cases z
   ·cases q:Z' a with
    | none=>rfl
    | some r =>
     rcases x.nz a (bj q) with z | z
     ·exact absurd (p.z a ha) z
     ·rw[hu]at z;cases z
 ·obtain⟨v',A',f1,q1,p1⟩:=h.nm.sl i y e1
  obtain⟨w',B',f2,q2,p2⟩:=h.nm.sl j z e2
  rw[e3]at f1;cases f1
  rw[e4]at f2;cases f2
  rw[o1.det (keep q1 p1),o2.det (keep q2 p2)]
  exact h.nm.dj i j y z v w A' B' hij e1 e2 e3 e4 q1 q2
end
inductive RW where
 | ok (w:Wd) (d:D) | er (w:Wd) (k:Nat) | al (w:Wd) (f:Addr→RW) | stuck
inductive LW (σ:Type) where
 | nx (w:Wd) (s:σ) | rt (w:Wd) (d:D) | er (w:Wd) (k:Nat) | al (w:Wd) (f:Addr→LW σ) | stuck
def WRW (K:PySem.W.Frag)(C:Nat→Addr)(E:XK)(HW Z H:Hp)(P:Wd→D→Hp→Hp→Hp→Prop):RW→Prop
 | .ok w d=>∀ HW' Z' H',GX HW Z H HW' Z' H'→WdOk K C HW' Z' w→P w d HW' Z' H'
 | .er w k=>∀ HW' Z' H',GX HW Z H HW' Z' H'→WdOk K C HW' Z' w→E (.ref (C k)) none H'
 | .al w f=>∀ a,w a=none→WRW K C E HW Z H P (f a)
 | .stuck=>False
theorem WRW.more {K:PySem.W.Frag}{C:Nat→Addr}{E:XK}{HW Z H HW1 Z1 H1:Hp}{P:Wd→D→Hp→Hp→Hp→Prop}(x:GX HW Z H HW1 Z1 H1):∀ {r:RW},WRW K C E HW Z H P r→WRW K C E HW1 Z1 H1 P r
 | .ok w d,h=>fun a b c y=>h a b c (x.trans y)
 | .er w k,h=>fun a b c y=>h a b c (x.trans y)
 | .al w f,h=>fun a e=>WRW.more x (h a e)
 | .stuck,h=>h
theorem WRW.imp {K:PySem.W.Frag}{C:Nat→Addr}{E:XK}{HW Z H:Hp}{P P':Wd→D→Hp→Hp→Hp→Prop}(hp:∀ w d HW' Z' H',GX HW Z H HW' Z' H'→WdOk K C HW' Z' w→P w d HW' Z' H'→P' w d HW' Z' H'):∀ {r:RW},WRW K C E HW Z H P r→WRW K C E HW Z H P' r
 | .ok w d,h=>fun a b c y z=>hp w d a b c y z (h a b c y z)
 | .er w k,h=>h
 | .al w f,h=>fun a e=>WRW.imp hp (h a e)
 | .stuck,h=>h
def WGL {σ:Type}(G:Gx)(Z1:Hp)(J:σ→SS→Prop)(D:Ends):LW σ→Prop
 | .nx w s=>∀ S ρ HW Z H,J s S→Same Z1 Z→GOk G w HW Z H S ρ→D.nx ρ H
 | .rt w d=>∀ v HW Z H,GX G.HW0 G.Z0 G.H0 HW Z H→WdOk G.K G.C HW Z w→Rep G.K G.C Z d v→D.rt v H
 | .er w k=>∀ HW Z H,Same Z1 Z→GX G.HW0 G.Z0 G.H0 HW Z H→WdOk G.K G.C HW Z w→G.E (.ref (G.C k)) none H
 | .al w f=>∀ a,w a=none→WGL G Z1 J D (f a)
 | .stuck=>False
theorem WGL.more {σ:Type}{G:Gx}{Z1 Z2:Hp}{J:σ→SS→Prop}{D:Ends}(z:Same Z1 Z2):∀ {l:LW σ},WGL G Z1 J D l→WGL G Z2 J D l
 | .nx w s,h=>fun S ρ HW Z H j q=>h S ρ HW Z H j (z.trans q)
 | .rt w d,h=>h
 | .er w k,h=>fun HW Z H q=>h HW Z H (z.trans q)
 | .al w f,h=>fun a e=>WGL.more z (h a e)
 | .stuck,h=>h
def tGL {σ:Type}(G:Gx)(W:Wd)(S:SS)(J:σ→SS→Prop)(l:LW σ):TS:=fun D ρ H=>∃ HW Z,GOk G W HW Z H S ρ∧WGL G Z J D l
abbrev GL {σ:Type}(X:Cx)(G:Gx)(W:Wd)(S:SS)(sts:List Stmt)(J:σ→SS→Prop)(l:LW σ):Prop:=PSs X sts (tGL G W S J l)
abbrev GL1 {σ:Type}(X:Cx)(G:Gx)(W:Wd)(S:SS)(st:Stmt)(J:σ→SS→Prop)(l:LW σ):Prop:=PS X st (tGL G W S J l)
def tGE (G:Gx)(W:Wd)(S:SS)(r:RW):TE:=fun ρ H Q=>∃ HW Z,GOk G W HW Z H S ρ∧WRW G.K G.C G.E HW Z H (fun _ d _ Z' H'=>∀ v,Rep G.K G.C Z' d v→Q v H') r
abbrev GE (X:Cx)(G:Gx)(W:Wd)(S:SS)(e:Expr)(r:RW):Prop:=PE X e (tGE G W S r)
def rwR (W:Wd)(r:R D):RW:=match r with
 | .ok d=>.ok W d
 | .err k=>.er W k
 | .stuck=>.stuck
def rwA {α:Type}(W:Wd)(r:R α)(k:α→RW):RW:=match r with
 | .ok a=>k a
 | .err e=>.er W e
 | .stuck=>.stuck
def lwB {σ:Type}:RW→(Wd→D→LW σ)→LW σ
 | .ok w d,k=>k w d
 | .er w e,_=>.er w e
 | .al w f,k=>.al w fun a=>lwB (f a) k
 | .stuck,_=>.stuck
def rwB:RW→(Wd→D→RW)→RW
 | .ok w d,k=>k w d
 | .er w e,_=>.er w e
 | .al w f,k=>.al w fun a=>rwB (f a) k
 | .stuck,_=>.stuck
def lwS {τ σ:Type}:LW τ→(Wd→τ→LW σ)→LW σ
 | .nx w s,k=>k w s
 | .rt w d,_=>.rt w d
 | .er w e,_=>.er w e
 | .al w f,k=>.al w fun a=>lwS (f a) k
 | .stuck,_=>.stuck
def outW {σ:Type}:LW σ→RW
 | .nx w _=>.ok w .non
 | .rt w d=>.ok w d
 | .er w k=>.er w k
 | .al w f=>.al w fun a=>outW (f a)
 | .stuck=>.stuck
section
variable {X:Cx}{G:Gx}{W:Wd}{S:SS}{e:Expr}{es:List Expr}{st:Stmt}{rest:List Stmt}{σ τ V':Type}{J:σ→SS→Prop}
theorem GOk.wh {HW Z H:Hp}{ρ:St}(h:GOk G W HW Z H S ρ):Same HW H:=h.gx.wh
theorem GOk.zh {HW Z H:Hp}{ρ:St}(h:GOk G W HW Z H S ρ):Same Z H:=h.gx.zh
theorem GOk.ex {HW Z H H' Z':Hp}{ρ:St}(h:GOk G W HW Z H S ρ)(x:Ex H Z H' Z'):GX HW Z H HW Z' H':=GX.ex h.gx.zh h.gx.wh h.gx.dj x
theorem bv {g:SS→R D}(h:∀ H0 Z0,Wk (G.at H0 Z0) W→FE X (G.at H0 Z0) e g):GE X G W S e (rwR W (g S)):=fun pins s ρ H Q I ⟨HW,Z,ok,w⟩=>by
 refine h _ _ ok.wk pins s ρ H Q I ⟨Z,S,ok.nm,?_⟩
 cases q:g S with
 | ok d=>rw[q]at w;exact fun H' Z' x=>w HW Z' H' (ok.ex x) (ok.wd.mono (Same.refl _) x.z)
 | err k=>rw[q]at w;exact fun H' x=>w HW Z H' ⟨fun b o _ e=>x b o e,Same.refl _,ok.zh.trans x,ok.wh.trans x,fun _ h=>h,fun _ h=>.inl h,fun _ h=>.inl h,ok.gx.dj⟩ ok.wd
 | stuck=>rw[q]at w;exact w
theorem ln {s:σ}(h:J s S):GL X G W S [] J (.nx W s):=lU.weak fun D ρ H ⟨HW,Z,ok,w⟩=>w S ρ HW Z H h (Same.refl _) ok
theorem pY {l:LW σ}(h:GL1 X G W S st J l):GL X G W S [st] J l:=fY h
theorem WGL.bind {D:Ends}{J1:τ→SS→Prop}{Z:Hp}{k:Wd→τ→LW σ}{N:St→Hp→Prop}(hN:∀ w s S ρ HW Z' H,J1 s S→Same Z Z'→GOk G w HW Z' H S ρ→WGL G Z' J D (k w s)→N ρ H):∀ {l:LW τ},WGL G Z J D (lwS l k)→WGL G Z J1 { D with nx:=N } l
 | .nx w s,h=>fun S ρ HW Z' H j z ok=>hN w s S ρ HW Z' H j z ok (h.more z)
 | .rt w d,h=>h
 | .er w k,h=>h
 | .al w f,h=>fun a e=>WGL.bind hN (h a e)
 | .stuck,h=>h
theorem pZ {l:LW τ}{k:Wd→τ→LW σ}{inj:τ→V'→SS}(h:GL1 X G W S st (JX inj) l)(hk:∀ w s x,GL X G w (inj s x) rest J (k w s)):GL X G W S (st::rest) J (lwS l k) :=
 (a9 h (bp fun w=>bp fun s=>bp fun x=>hk w s x)).weak fun D ρ H ⟨HW,Z,ok,w⟩=>⟨HW,Z,ok,WGL.bind (fun w' s S' ρ' HW' Z' H' ⟨x,e⟩ z ok' wk=>⟨w',s,x,HW',Z',e ▸ ok',wk⟩) w⟩
theorem WRW.gl {D:Ends}{HW Z H:Hp}{ρ:St}{k:Wd→FF.D→LW σ}{Q:VK}(ok:GOk G W HW Z H S ρ)(hQ:∀ w d HW' Z' H' v,GOk G w HW' Z' H' S ρ→Same Z Z'→Rep G.K G.C Z' d v→WGL G Z' J D (k w d)→Q v H'):∀ {r:RW},WGL G Z J D (lwB r k)→WRW G.K G.C G.E HW Z H (fun _ d _ Z' H'=>∀ v,Rep G.K G.C Z' d v→Q v H') r
 | .ok w d,h=>fun HW' Z' H' x wd v r=>hQ w d HW' Z' H' v (ok.more x wd) x.z r (h.more x.z)
 | .er w k,h=>fun HW' Z' H' x wd=>h HW' Z' H' x.z (ok.gx.trans x) wd
 | .al w f,h=>fun a e=>WRW.gl ok hQ (h a e)
 | .stuck,h=>h
end
structure BG (X:Cx)(G:Gx)(k:Nat):Prop where
 room:Room k X.A
 K:X.K=G.K
 calm:X.calm=true
 pass:Passes (CXE X.prog X.w) X G.E
section
variable {X:Cx}{G:Gx}{W:Wd}{F:Fx}{k:Nat}
theorem BG.bx (b:BG X G k){H0 Z0:Hp}:BX X (G.at H0 Z0) k:=⟨b.room,b.K,b.calm,b.pass⟩
end
section
variable {X:Cx}{F:Fx}{W:Wd}{c:Nat}{f:Str}{e:Expr}{g:SS→R D}{pos:Pos}
end
section
variable {G:Gx}{W:Wd}{HW Z H:Hp}{S:SS}{ρ:St}
end
section
variable {X:Cx}{G:Gx}{W:Wd}{S:SS}{o e:Expr}{σ:Type}{J:σ→SS→Prop}{r:RW}{pos pos':Pos}{f:Str}{c:Nat}
theorem rM (h:GE X G W S e r):GL1 X G W S (.Return (some e) pos) J (lwB r fun w d=>.rt w d) :=
 (kG h).weak fun D ρ H ⟨HW,Z,ok,w⟩=>⟨HW,Z,ok,WRW.gl (J:=J) (D:=D) (k:=fun w d=>.rt w d) ok (fun w1 d HW1 Z1 H1 v ok1 z1 rd wl=>wl v HW1 Z1 H1 ok1.gx ok1.wd rd) w⟩
end
def spG (K:PySem.W.Frag)(C:Nat→Addr)(n:Nat)(f:Wd→List D→RW):Sp:=fun vs H Q E =>
 vs.length=n∧∃ W HW Z ds,Same Z H∧Same HW H∧(∀ b,HW b≠none→Z b=none)∧WdOk K C HW Z W∧Reps K C Z ds vs∧WRW K C E HW Z H (fun _ d _ Z' H'=>∀ v,Rep K C Z' d v→Q v H') (f W ds)
section
variable {P:Program}{w:World}{K:PySem.W.Frag}{mg:Str→Option Value}{base:Heap}
theorem WGL.start {G:Gx}{Q:VK}{Z1:Hp}:∀ {l:LW Unit},WRW G.K G.C G.E G.HW0 G.Z0 G.H0 (fun _ d _ Z' H'=>∀ v,Rep G.K G.C Z' d v→Q v H') (outW l)→WGL G Z1 JU { nx:=fun _ H'=>Q .non H',rt:=Q } l
 | .nx w s,h=>fun S ρ HW Z H _ _ ok=>h HW Z H ok.gx ok.wd .non (by rw[Rep])
 | .rt w d,h=>fun v HW Z H x wd r=>h HW Z H x wd v r
 | .er w k,h=>fun HW Z H _ gx wd=>h HW Z H gx wd
 | .al w f,h=>fun a e=>WGL.start (h a e)
 | .stuck,h=>h
theorem GOk.start {K:PySem.W.Frag}{C:Nat→Addr}{E:XK}{HW Z H:Hp}{W:Wd}{N:List Str}{ds:List D}{vs:List V}(zh:Same Z H)(wh:Same HW H)(dj:∀ b,HW b≠none→Z b=none)(wd:WdOk K C HW Z W)(r:Reps K C Z ds vs) :
  GOk ⟨K,C,HW,Z,H,E⟩ W HW Z H (startS N.length ds) (start N vs):=by
 have gx:GX HW Z H HW Z H:=GX.refl zh wh dj
 refine⟨gx,wd,?_⟩
 have s:=dP (F:=⟨K,C,H,Z,E⟩) (N:=N) zh r
 exact s.rebase ⟨jz,Same.refl _,zh,fun _ q=>.inl q⟩ fun a o e _ n=>by
  have e:H a=some o:=e
  have n:H a=none:=n
  rw[e]at n;cases n
end
structure FnW (P:Program)(w:World)(K:PySem.W.Frag)(mg:Str→Option Value)(base:Heap)(C:Nat→Addr)(k:Nat)(x:Str)(ps:List Str)(f:Wd→List D→RW):Prop where
 ex:∃ a fd,FnOk P w K mg base (CXE P w) k a fd ps (spG K C ps.length f)∧mg x=some (.ref a)∧PySem.W.keepIn K (.ref a)=true∧Binds K fd ps []
structure MeW (P:Program)(w:World)(K:PySem.W.Frag)(mg:Str→Option Value)(base:Heap)(C:Nat→Addr)(k:Nat)(c:Nat)(m:Str)(ps:List Str)(f:Wd→List D→RW):Prop where
 ex:∃ a fd,FnOk P w K mg base (CXE P w) k a fd ps (spG K C ps.length f)∧Meth K (C c) m a∧Binds K fd ps []
structure MkW (P:Program)(w:World)(K:PySem.W.Frag)(mg:Str→Option Value)(base:Heap)(C:Nat→Addr)(k:Nat)(c:Nat)(x:Str)(ps:List Str)(f:Wd→List D→RW):Prop where
 ex:∃ a fd,FnOk P w K mg base (CXE P w) k a fd ps (spG K C ps.length f)∧Mk K (C c) a∧mg x=some (.ref (C c))∧Binds K fd ps []
 cls:Cls K (C c)
section
variable {X:Cx}{G:Gx}{W:Wd}{S:SS}{o e:Expr}{es:List Expr}{k:Nat}{x m:Str}{ps:List Str}{f:Wd→List D→RW}{gs:SS→R (List D)}{p pos apos:Pos}{c:Nat}
end
theorem WRW.bind {K:PySem.W.Frag}{C:Nat→Addr}{E:XK}{HW Z H:Hp}{P P1:Wd→D→Hp→Hp→Hp→Prop}{k:Wd→D→RW}(hp:∀ w d HW' Z' H',GX HW Z H HW' Z' H'→WdOk K C HW' Z' w→WRW K C E HW' Z' H' P (k w d)→P1 w d HW' Z' H'):∀ {r:RW},WRW K C E HW Z H P (rwB r k)→WRW K C E HW Z H P1 r
 | .ok w d,h=>fun a b c x y=>hp w d a b c x y (h.more x)
 | .er w k,h=>h
 | .al w f,h=>fun a e=>WRW.bind hp (h a e)
 | .stuck,h=>h
section
variable {X:Cx}{G:Gx}{W:Wd}{S:SS}{o a b c e:Expr}{es:List Expr}{k:Nat}{x m:Str}{ps:List Str}{f:Wd→List D→RW}{gs:SS→R (List D)}{go gb:SS→R D}{p pos apos:Pos}{cl:Nat}{r r1 r2:RW}
theorem uh {g:SS→R D}(h:∀ H0 Z0 W',Wk (G.at H0 Z0) W'→FE X (G.at H0 Z0) e g):PE X e (fun ρ H Q=>∃ W' HW Z,GOk G W' HW Z H S ρ∧tE (G.fx HW Z H) g ρ H Q):=fun pins s ρ H Q I ⟨W',HW,Z,ok,t⟩=>h _ _ W' ok.wk pins s ρ H Q I t
theorem u6 {HW Z H:Hp}{ρ:St}{g:SS→R D}{α:Type}{kk:D→RW}{P:Wd→D→Hp→Hp→Hp→Prop}{Q:VK}(ok:GOk G W HW Z H S ρ)(w:WRW G.K G.C G.E HW Z H P (rwA W (g S) kk))
  (h:∀ d v H1 Z1,GOk G W HW Z1 H1 S ρ→GX HW Z H HW Z1 H1→Rep G.K G.C Z1 d v→WRW G.K G.C G.E HW Z1 H1 P (kk d)→Q v H1):tE (G.fx HW Z H) g ρ H Q:=by
 refine⟨Z,S,ok.nm,?_⟩
 cases q:g S with
 | ok d =>
  rw[q]at w
  intro H1 Z1 x v rv
  have gx:=ok.ex x
  exact h d v H1 Z1 (ok.more gx (ok.wd.mono (Same.refl _) x.z)) gx rv (WRW.more gx w)
 | err k=>rw[q]at w;exact fun H' x=>w HW Z H' ⟨fun b o _ e=>x b o e,Same.refl _,ok.zh.trans x,ok.wh.trans x,fun _ h=>h,fun _ h=>.inl h,fun _ h=>.inl h,ok.gx.dj⟩ ok.wd
 | stuck=>rw[q]at w;exact w
def tGT (G:Gx)(W:Wd)(S:SS)(r:RW):TT:=fun ρ H Q=>∃ HW Z,GOk G W HW Z H S ρ∧WRW G.K G.C G.E HW Z H (fun _ d _ _ H'=>∃ t,d=.bl t∧Q t H') r
abbrev GT (X:Cx)(G:Gx)(W:Wd)(S:SS)(e:Expr)(r:RW):Prop:=PT X e (tGT G W S r)
def rwNot (r:RW):RW:=rwB r fun w d=>match d with
 | .bl t=>.ok w (.bl (!t))
 | _=>.stuck
theorem rN {gt:SS→R Bool}(h:∀ H0 Z0,Wk (G.at H0 Z0) W→FT X (G.at H0 Z0) e gt):GT X G W S e (rwR W ((gt S).bind fun t=>.ok (.bl t))):=fun pins s ρ H Q I ⟨HW,Z,ok,w⟩=>by
 refine h _ _ ok.wk pins s ρ H Q I ⟨Z,S,ok.nm,?_⟩
 cases q:gt S with
 | ok t=>rw[q]at w;exact fun H' Z' x=>let ⟨_,e,q⟩:=w HW Z' H' (ok.ex x) (ok.wd.mono (Same.refl _) x.z);by cases e;exact q
 | err k=>rw[q]at w;exact fun H' x=>w HW Z H' ⟨fun b o _ e=>x b o e,Same.refl _,ok.zh.trans x,ok.wh.trans x,fun _ h=>h,fun _ h=>.inl h,fun _ h=>.inl h,ok.gx.dj⟩ ok.wd
 | stuck=>rw[q]at w;exact w
def lwT {σ:Type}(r:RW)(A B:Wd→LW σ):LW σ:=lwB r fun w d=>match d with
 | .bl true=>A w
 | .bl false=>B w
 | _=>.stuck
theorem WRW.glT {σ:Type}{J:σ→SS→Prop}{D:Ends}{HW Z H:Hp}{ρ:St}{A B:Wd→LW σ}{Q:Bool→Hp→Prop}(ok:GOk G W HW Z H S ρ)(hQ:∀ w t HW' Z' H',GOk G w HW' Z' H' S ρ→Same Z Z'→WGL G Z' J D (if t=true then A w else B w)→Q t H'):∀ {r:RW},WGL G Z J D (lwT r A B)→WRW G.K G.C G.E HW Z H (fun _ d _ _ H'=>∃ t,d=.bl t∧Q t H') r
 | .ok w d,h=>fun HW' Z' H' x wd=>by
  cases d with
  | bl t=>exact⟨t,rfl,hQ w t HW' Z' H' (ok.more x wd) x.z (by cases t<;>exact WGL.more x.z h)⟩
  | _=>exact h.elim
 | .er w k,h=>fun HW' Z' H' x wd=>h HW' Z' H' x.z (ok.gx.trans x) wd
 | .al w f,h=>fun a e=>WRW.glT ok hQ (h a e)
 | .stuck,h=>h
theorem p5 {σ:Type}{J:σ→SS→Prop}{sa sb:List Stmt}{A B:Wd→LW σ}(hc:GT X G W S c r)(ha:∀ w,GL X G w S sa J (A w))(hb:∀ w,GL X G w S sb J (B w)):GL1 X G W S (.If c sa sb pos) J (lwT r A B) :=
 (sx hc (bp ha) (bp hb)).weak fun D ρ H ⟨HW,Z,ok,w⟩=>⟨HW,Z,ok,WRW.glT ok (fun w1 t HW1 Z1 H1 ok1 z1 wl=>by
  cases t with
  | true=>exact⟨w1,HW1,Z1,ok1,wl⟩
  | false=>exact⟨w1,HW1,Z1,ok1,wl⟩) w⟩
end
section
variable {X:Cx}{body:List Stmt}{c n y:Str}{np np2 kp apos hpos pos:Pos}{k:Nat}{q:Nat→Bool}{C0:Addr}{C:Nat→Addr}{tb:XK→TS}
end
section
variable {X:Cx}{G:Gx}{W:Wd}{S:SS}{τ σ V':Type}{J:σ→SS→Prop}{body rest:List Stmt}{c n y:Str}{np np2 kp apos hpos pos:Pos}{k:Nat}{q:Nat→Bool}{C0:Addr}
end
def lwR {α σ:Type}(W:Wd)(r:R α)(k:α→LW σ):LW σ:=match r with
 | .ok a=>k a
 | .err e=>.er W e
 | .stuck=>.stuck
section
variable {X:Cx}{G:Gx}{W:Wd}{S:SS}{a b e:Expr}{es:List Expr}{st:Stmt}{rest:List Stmt}{α σ τ V':Type}{J:σ→SS→Prop}{k:Nat}{r:RW}{pos pos':Pos}
theorem jA {g:SS→O}(h:∀ H0 Z0,Wk (G.at H0 Z0) W→FS X (G.at H0 Z0) st g):PS X st (fun D ρ H=>∃ HW Z,GOk G W HW Z H S ρ∧WO (G.fx HW Z H) Z (g S) D):=fun pins s ρ H D I ⟨HW,Z,ok,w⟩=>h _ _ ok.wk pins s ρ H D I ⟨Z,S,ok.nm,w⟩
theorem jB {g:SS→O}{r:R α}{S':α→SS}{k:α→LW σ}(h:∀ H0 Z0,Wk (G.at H0 Z0) W→FS X (G.at H0 Z0) st g)(hg:g S=rO (r.bind fun a=>.ok (.nx (S' a))))(hk:∀ a,GL X G W (S' a) rest J (k a)):GL X G W S (st::rest) J (lwR W r k) :=
 (a9 (jA (S:=S) h) (bp hk)).weak fun D ρ H ⟨HW,Z,ok,w⟩=>⟨HW,Z,ok,by
  rw[hg]
  cases r with
  | ok a=>exact fun ρ' H' Z' z ok'=>⟨a,HW,Z',ok.after ok',WGL.more (l:=k a) z w⟩
  | err k=>exact fun H' x=>w HW Z H' (Same.refl _) (ok.gx.err x) ok.wd
  | stuck=>exact w⟩
theorem p6 {g:SS→O}{S':SS}{l:LW σ}(h:∀ H0 Z0,Wk (G.at H0 Z0) W→FS X (G.at H0 Z0) st g)(hg:g S=.nx S')(hk:GL X G W S' rest J l):GL X G W S (st::rest) J l :=
 (a9 (jA (S:=S) h) hk).weak fun D ρ H ⟨HW,Z,ok,w⟩=>⟨HW,Z,ok,by rw[hg];exact fun ρ' H' Z' z ok'=>⟨HW,Z',ok.after ok',WGL.more z w⟩⟩
theorem mz {g:SS→R D}{r:R D}(h:∀ H0 Z0,Wk (G.at H0 Z0) W→FS X (G.at H0 Z0) st (sRet g))(hr:g S=r):GL X G W S (st::rest) J (lwR W r fun d=>.rt W d) :=
 (a9 (jA (S:=S) h) eI).weak fun D ρ H ⟨HW,Z,ok,w⟩=>⟨HW,Z,ok,by
  unfold sRet
  rw[hr]
  cases r with
  | ok d=>exact fun v H' Z' x rv=>w v HW Z' H' (ok.gx.after x) (ok.wd.mono (Same.refl _) x.z) rv
  | err k=>exact fun H' x=>w HW Z H' (Same.refl _) (ok.gx.err x) ok.wd
  | stuck=>exact w⟩
theorem g6 {g:SS→R D}{d:D}(h:∀ H0 Z0,Wk (G.at H0 Z0) W→FS X (G.at H0 Z0) st (sRet g))(hr:g S=.ok d):GL X G W S (st::rest) J (.rt W d):=mz (r:=.ok d) h hr
theorem p7 (i:Nat){ds:List D}{S':SS}{sts:List Stmt}{l:LW σ}(hi:S[i]?=some (some (.own ds)))(hS:S.set i (some (.val (.lst ds)))=S')(h:GL X G W S' sts J l):GL X G W S sts J l :=
 h.weak fun D ρ H ⟨HW,Z,ok,w⟩=>by
  obtain⟨Z',z,ok'⟩:=ok.nm.freeze hi
  rw[hS]at ok'
  exact⟨HW,Z',ok.after ok',WGL.more z w⟩
end
theorem WGL.bind2 {τ σ:Type}{G:Gx}{J:σ→SS→Prop}{D D':Ends}{J1:τ→SS→Prop}{Z:Hp}{k:Wd→τ→LW σ}(hr:D'.rt=D.rt)(hN:∀ w s S ρ HW Z' H,J1 s S→Same Z Z'→GOk G w HW Z' H S ρ→WGL G Z' J D (k w s)→D'.nx ρ H):∀ {l:LW τ},WGL G Z J D (lwS l k)→WGL G Z J1 D' l
 | .nx w s,h=>fun S ρ HW Z' H j z ok=>hN w s S ρ HW Z' H j z ok (h.more z)
 | .rt w d,h=>by
  show ∀ v HW Z H,GX G.HW0 G.Z0 G.H0 HW Z H→WdOk G.K G.C HW Z w→Rep G.K G.C Z d v→D'.rt v H
  rw[hr];exact h
 | .er w k,h=>h
 | .al w f,h=>fun a e=>WGL.bind2 hr hN (h a e)
 | .stuck,h=>h
def lwFor {τ:Type}(step:Wd→τ→D→LW τ):List D→Wd→τ→LW τ
 | [],w,s=>.nx w s
 | d::r,w,s=>lwS (step w s d) fun w' s'=>lwFor step r w' s'
section
variable {X:Cx}{G:Gx}{W:Wd}{S:SS}{τ V':Type}{k:Nat}{tg iter:Expr}{body:List Stmt}{pos:Pos}{git:SS→R (List D)}{inj:τ→V'→SS}{step:Wd→τ→D→LW τ}
theorem rP (i:Nat){s0:τ}{B:τ→V'→D→SS}(w0:V')(hp:PassesOwn (model X.prog X.w) X.A X.env X.xe)(hc:X.calm=true)(hi:∀ H0 Z0,Wk (G.at H0 Z0) W→FI X (G.at H0 Z0) tg iter git)(hg:∀ H0 Z0 W',Wk (G.at H0 Z0) W'→FG X (G.at H0 Z0) tg (gNm i))
  (hS:S=inj s0 w0) (hB:∀ s w x,(inj s w).set i (some (.val x))=B s w x) (hb:∀ W' s w x,GL X G W' (B s w x) body (JX inj) (step W' s x))
  (hs:∀ x,foldedSetIterable iter X.env x=pure x:=by intro _;rfl):GL1 X G W S (.For tg iter body [] pos) (JX inj) (lwR W (git S) fun xs=>lwFor step xs W s0):=by
 have hi':PI X tg iter (fun ρ H Q=>∃ HW Z,GOk G W HW Z H S ρ∧tI (G.fx HW Z H) git ρ H Q):=fun pins s ρ H Q I ⟨HW,Z,ok,t⟩=>hi _ _ ok.wk pins s ρ H Q I t
 have hg':PG X tg (fun v ρ H Q=>∃ W' HW Z S',GOk G W' HW Z H S' ρ∧tGd (G.fx HW Z H) (gNm i) v ρ H Q):=fun pins s ρ H v u Q I r ⟨W',HW,Z,S',ok,t⟩=>hg _ _ W' ok.wk pins s ρ H v u Q I r t
 have hbb:PSs X body (fun D ρ H=>∃ q:Wd×τ×V'×FF.D,tGL G q.1 (B q.2.1 q.2.2.1 q.2.2.2) (JX inj) (step q.1 q.2.1 q.2.2.2) D ρ H):=fun pins s ρ H D I ⟨q,t⟩=>hb q.1 q.2.1 q.2.2.1 q.2.2.2 pins s ρ H D I t
 refine(oK hp hc hi' hg' hbb hs).weak fun D ρ H ⟨HW,Z,ok,w⟩=>⟨HW,Z,ok,Z,S,ok.nm,?_⟩
 cases q:git S with
 | err e=>rw[q]at w;exact fun H' x=>w HW Z H' (Same.refl _) (ok.gx.trans ⟨fun b o _ e=>x b o e,Same.refl _,ok.zh.trans x,ok.wh.trans x,fun _ h=>h,fun _ h=>.inl h,fun _ h=>.inl h,ok.gx.dj⟩) ok.wd
 | stuck=>rw[q]at w;exact w
 | ok ds =>
  rw[q]at w
  intro H1 Z1 x1
  have w1:WGL G Z1 (JX inj) D (lwFor step ds W s0):=WGL.more x1.z w
  have okA:=ok.more (ok.ex x1) (ok.wd.mono (Same.refl _) x1.z)
  intro It wk _
  refine⟨fun n m ρ H=>m=ds.length - n∧n≤ds.length∧∃ W2 HW2 Z2 s w,GOk G W2 HW2 Z2 H (inj s w) ρ∧Same Z1 Z2∧WGL G Z2 (JX inj) D (lwFor step (ds.drop n) W2 s),⟨ds.length,rfl,Nat.zero_le _,W,HW,Z1,s0,w0,by rw[← hS];exact okA,Same.refl _,w1⟩,?_⟩
  rintro n m ρ2 H2 ⟨rfl,hle,W2,HW2,Z2,s,w2,ok2,z2,wl2⟩
  obtain⟨k1,k2⟩:=wk n H2 Z2 z2 ok2.zh
  by_cases hlt:n < ds.length
  ·obtain⟨go,y⟩:=k1 hlt
   refine .inr ⟨go,fun ρ' H'=>∃ W3 HW3 Z3 s3 w3,GOk G W3 HW3 Z3 H' (inj s3 w3) ρ'∧Same Z1 Z3∧WGL G Z3 (JX inj) D (lwFor step (ds.drop (n+1)) W3 s3),fun ρ' H' ⟨W3,HW3,Z3,s3,w3,q⟩=>⟨ds.length - (n+1),by omega,rfl,hlt,W3,HW3,Z3,s3,w3,q⟩,fun x H' hy=>?_⟩
   obtain⟨Z2',d,x',e3,rd⟩:=y x H' hy
   have ok2:=ok2.more (ok2.ex x') (ok2.wd.mono (Same.refl _) x'.z)
   have hd:ds.drop n=d::ds.drop (n+1):=by
    obtain⟨hi,e4⟩:=List.getElem?_eq_some_iff.mp e3
    rw[List.drop_eq_getElem_cons hi,e4]
   rw[hd]at wl2
   refine⟨W2,HW2,Z2',inj s w2,ok2,Z2',inj s w2,d,ok2.nm,rd,?_⟩
   intro H4 Z4 x4 ρ4 ok4
   have okB:=ok2.after ok4
   refine⟨⟨W2,s,w2,d⟩,HW2,Z4,by rw[← hB];exact okB,?_⟩
   have z14:Same Z1 Z4:=(z2.trans x'.z).trans x4.z
   refine WGL.bind2 (D:=D) (J1:=JX inj) (k:=fun w' s'=>lwFor step (ds.drop (n+1)) w' s') (by rfl) ?_ (WGL.more (x'.z.trans x4.z) wl2)
   intro w3 s3 S3 ρ3 HW3 Z3 H3 ⟨w5,e5⟩ z3 ok3 wl3
   exact⟨w3,HW3,Z3,s3,w5,e5 ▸ ok3,z14.trans z3,wl3⟩
  ·refine .inl ⟨k2 (by omega),?_⟩
   rw[List.drop_eq_nil_of_le (by omega)]at wl2
   exact wl2 (inj s w2) ρ2 HW2 Z2 H2 ⟨w2,rfl⟩ (Same.refl _) ok2
end
def MadeG (X:Cx)(G:Gx):Prop:=∀ F:Fx,F.E=G.E→MadeX X F
def spR (K:PySem.W.Frag)(C:Nat→Addr)(n:Nat)(f:Wd→List D→R D):Sp:=fun vs H Q E =>
 vs.length=n∧∃ W Z ds,Same Z H∧WdOk K C H Z W∧Reps K C Z ds vs∧WG ⟨K,C,H,Z,E⟩ H Z (f W ds) fun d H' Z'=>∀ v,Rep K C Z' d v→Q v H'
structure MeR (P:Program)(w:World)(K:PySem.W.Frag)(mg:Str→Option Value)(base:Heap)(C:Nat→Addr)(k:Nat)(c:Nat)(m:Str)(f:Wd→List D→R D):Prop where
 ex:∃ a fd x,FnOk P w K mg base (CXE P w) k a fd [x] (spR K C 1 f)∧Meth K (C c) m a∧Binds K fd [x] []
 cls:Cls K (C c)
section
variable {X:Cx}{F:Fx}{W:Wd}{c k:Nat}{m:Str}{o:Expr}{go:SS→R D}{f:Wd→List D→R D}{pos apos:Pos}
end
def OkG (P:Program)(w:World)(K:PySem.W.Frag)(mg:Str→Option Value)(base:Heap)(C:Nat→Addr)(k:Nat)(x qual:Str)(st:Stmt)(ps:List Str)(fn:Wd→List D→RW):Prop :=
 ∀ {f:Addr} {fd:FuncData},Fun K x qual st f fd→FnOk P w K mg base (CXE P w) (k+1) f fd ps (spG K C ps.length fn)
def OkR (P:Program)(w:World)(K:PySem.W.Frag)(mg:Str→Option Value)(base:Heap)(C:Nat→Addr)(k:Nat)(x qual:Str)(st:Stmt)(p:Str)(fn:Wd→List D→R D):Prop :=
 ∀ {f:Addr} {fd:FuncData},Fun K x qual st f fd→FnOk P w K mg base (CXE P w) (k+1) f fd [p] (spR K C 1 fn)
def b1 (k:Wd→D→LW Unit):Wd→List D→RW
 | W,[a]=>outW (k W a)
 | _,_=>.stuck
def b2 (k:Wd→D→D→LW Unit):Wd→List D→RW
 | W,[a,b]=>outW (k W a b)
 | _,_=>.stuck
def b3 (k:Wd→D→D→D→LW Unit):Wd→List D→RW
 | W,[a,b,c]=>outW (k W a b c)
 | _,_=>.stuck
def b4 (k:Wd→D→D→D→D→LW Unit):Wd→List D→RW
 | W,[a,b,c,d]=>outW (k W a b c d)
 | _,_=>.stuck
def b5 (k:Wd→D→D→D→D→D→LW Unit):Wd→List D→RW
 | W,[a,b,c,d,e]=>outW (k W a b c d e)
 | _,_=>.stuck
def r1 (k:Wd→D→L Unit):Wd→List D→R D
 | W,[a]=>outL (k W a)
 | _,_=>.stuck
section
variable {P:Program}{w:World}{K:PySem.W.Frag}{mg:Str→Option Value}{base:Heap}{C:Nat→Addr}{k:Nat}{N ps:List Str}{x qual:Str}{st:Stmt}
theorem eZ {f:Addr}{fd:FuncData}{n:Nat}:FnOk P w K mg base (CXE P w) k f fd ps (spG K C n fun _ _=>.stuck) :=
 ⟨fun vs H Q E h=>by obtain⟨_,_,_,_,_,_,_,_,_,_,z⟩:=h;exact z.elim,fun A outer s H args us vs Q E _ _ _ _ h=>by obtain⟨_,_,_,_,_,_,_,_,_,_,z⟩:=h;exact z.elim⟩
theorem i3 {f:Addr}{fd:FuncData}{n:Nat}:FnOk P w K mg base (CXE P w) k f fd ps (spR K C n fun _ _=>.stuck) :=
 ⟨fun vs H Q E h=>by obtain⟨_,_,_,_,_,_,_,z⟩:=h;exact z.elim,fun A outer s H args us vs Q E _ _ _ _ h=>by obtain⟨_,_,_,_,_,_,_,z⟩:=h;exact z.elim⟩
structure Md (K:PySem.W.Frag)(C:Nat→Addr)(c:Nat)(m qual:Str)(ps:List Str)(st:Stmt):Prop where
 ex:∃ a fd,Fun K m qual st a fd∧Meth K (C c) m a∧Binds K fd ps []
structure Kl (K:PySem.W.Frag)(mg:Str→Option Value)(C:Nat→Addr)(c:Nat)(x qual:Str)(ps:List Str)(st:Stmt):Prop where
 ex:∃ a fd,Fun K "__init__" qual st a fd∧Mk K (C c) a∧mg x=some (.ref (C c))∧Binds K fd ps []
 cls:Cls K (C c)
variable {c:Nat}{m:Str}{fn:Wd→List D→RW}{fr:Wd→List D→R D}{p:Str}
theorem w0 (F:Fd K mg x ps st):FnW P w K mg base C 0 x ps (fun _ _=>.stuck):=by obtain⟨a,fd,F,h,b⟩:=F.ex;exact⟨a,fd,eZ,h,F.kp,b⟩
theorem w1 (F:Fd K mg x ps st)(ok:OkG P w K mg base C k x x st ps fn):FnW P w K mg base C (k+1) x ps fn:=by obtain⟨a,fd,F,h,b⟩:=F.ex;exact⟨a,fd,ok F,h,F.kp,b⟩
theorem m0 (F:Md K C c m qual ps st):MeW P w K mg base C 0 c m ps (fun _ _=>.stuck):=by obtain⟨a,fd,F,h,b⟩:=F.ex;exact⟨a,fd,eZ,h,b⟩
theorem m1 (F:Md K C c m qual ps st)(ok:OkG P w K mg base C k m qual st ps fn):MeW P w K mg base C (k+1) c m ps fn:=by obtain⟨a,fd,F,h,b⟩:=F.ex;exact⟨a,fd,ok F,h,b⟩
theorem e0 (F:Md K C c m qual [p] st)(cl:Cls K (C c)):MeR P w K mg base C 0 c m (fun _ _=>.stuck):=by obtain⟨a,fd,F,h,b⟩:=F.ex;exact⟨⟨a,fd,p,i3,h,b⟩,cl⟩
theorem e1 (F:Md K C c m qual [p] st)(cl:Cls K (C c))(ok:OkR P w K mg base C k m qual st p fr):MeR P w K mg base C (k+1) c m fr:=by obtain⟨a,fd,F,h,b⟩:=F.ex;exact⟨⟨a,fd,p,ok F,h,b⟩,cl⟩
theorem n0 (F:Kl K mg C c x qual ps st):MkW P w K mg base C 0 c x ps (fun _ _=>.stuck):=by obtain⟨a,fd,F1,h,h2,b⟩:=F.ex;exact⟨⟨a,fd,eZ,h,h2,b⟩,F.cls⟩
theorem n1 (F:Kl K mg C c x qual ps st)(ok:OkG P w K mg base C k "__init__" qual st ps fn):MkW P w K mg base C (k+1) c x ps fn:=by obtain⟨a,fd,F1,h,h2,b⟩:=F.ex;exact⟨⟨a,fd,ok F1,h,h2,b⟩,F.cls⟩
end
section
variable {X:Cx}{G:Gx}{W:Wd}{S:SS}{a b o e oe ie:Expr}{st:Stmt}{rest:List Stmt}{σ:Type}{J:σ→SS→Prop}{r0 r:RW}{pos pos':Pos}{k:Nat}{gb go gi:SS→R D}
theorem ui {c:Expr}{sa sb:List Stmt}{A B:Wd→LW σ}(hc:GT X G W S c r0)(hr:r0=r)(ha:∀ w,GL X G w S sa J (A w))(hb:∀ w,GL X G w S sb J (B w)):GL X G W S [.If c sa sb pos] J (lwT r A B):=by subst hr;exact pY (p5 hc ha hb)
theorem mB {τ V':Type}{c:Expr}{sa sb:List Stmt}{inj:τ→V'→SS}{A B:Wd→LW τ}{k:Wd→τ→LW σ}(hc:GT X G W S c r0)(hr:r0=r)(ha:∀ w,GL X G w S sa (JX inj) (A w))(hb:∀ w,GL X G w S sb (JX inj) (B w))(hk:∀ w s x,GL X G w (inj s x) rest J (k w s)):GL X G W S (.If c sa sb pos::rest) J (lwS (lwT r A B) k):=by subst hr;exact pZ (p5 hc ha hb) hk
theorem rQ {τ V':Type}{inj:τ→V'→SS}{l0 l:LW τ}{k:Wd→τ→LW σ}(hl:l0=l)(h:GL1 X G W S st (JX inj) l0)(hk:∀ w s x,GL X G w (inj s x) rest J (k w s)):GL X G W S (st::rest) J (lwS l k):=by subst hl;exact pZ h hk
end
structure MeRs (P:Program)(w:World)(K:PySem.W.Frag)(mg:Str→Option Value)(base:Heap)(C:Nat→Addr)(k:Nat)(c:Nat)(m:Str)(ps:List Str)(f:Wd→List D→R D):Prop where
 ex:∃ a fd,FnOk P w K mg base (CXE P w) k a fd ps (spR K C ps.length f)∧Meth K (C c) m a∧Binds K fd ps []
 cls:Cls K (C c)
section
variable {X:Cx}{F:Fx}{W:Wd}{c k:Nat}{m:Str}{o e:Expr}{es:List Expr}{go:SS→R D}{gs:SS→R (List D)}{f:Wd→List D→R D}{ps:List Str}{pos apos:Pos}
end
section
variable {X:Cx}{G:Gx}{W:Wd}{S:SS}{k:Nat}{x:Str}{ps:List Str}{f:Wd→List D→RW}{p pos:Pos}{c:Nat}
end
section
variable {X:Cx}{G:Gx}{W:Wd}{S:SS}{oe e:Expr}{go:SS→R D}{gs:SS→R (List D)}{apos cpos:Pos}
end
def OkRs (P:Program)(w:World)(K:PySem.W.Frag)(mg:Str→Option Value)(base:Heap)(C:Nat→Addr)(k:Nat)(x qual:Str)(st:Stmt)(ps:List Str)(fn:Wd→List D→R D):Prop :=
 ∀ {f:Addr} {fd:FuncData},Fun K x qual st f fd→FnOk P w K mg base (CXE P w) (k+1) f fd ps (spR K C ps.length fn)
def r2 (k:Wd→D→D→L Unit):Wd→List D→R D
 | W,[a,b]=>outL (k W a b)
 | _,_=>.stuck
def r3 (k:Wd→D→D→D→L Unit):Wd→List D→R D
 | W,[a,b,c]=>outL (k W a b c)
 | _,_=>.stuck
section
variable {P:Program}{w:World}{K:PySem.W.Frag}{mg:Str→Option Value}{base:Heap}{C:Nat→Addr}{k:Nat}{N ps:List Str}{x qual:Str}{st:Stmt}
variable {c:Nat}{m:Str}{fr:Wd→List D→R D}
theorem es0 (F:Md K C c m qual ps st)(cl:Cls K (C c)):MeRs P w K mg base C 0 c m ps (fun _ _=>.stuck):=by obtain⟨a,fd,F,h,b⟩:=F.ex;exact⟨⟨a,fd,i3,h,b⟩,cl⟩
theorem es1 (F:Md K C c m qual ps st)(cl:Cls K (C c))(ok:OkRs P w K mg base C k m qual st ps fr):MeRs P w K mg base C (k+1) c m ps fr:=by obtain⟨a,fd,F,h,b⟩:=F.ex;exact⟨⟨a,fd,ok F,h,b⟩,cl⟩
end
section
variable {X:Cx}{G:Gx}{W:Wd}{S:SS}{a b:Expr}{r:RW}{gb:SS→R D}{pos:Pos}{k:Nat}
end
def lamX (P:Program)(w:World)(K:PySem.W.Frag)(mg:Str→Option Value)(base:Heap)(N:List Str)(qual:Str)(scope:Scope)(f:Addr)(cd:Value)(cl:List (Str×Addr))(A:Around)(outer:List Env)(s:Shared)(H:Hp)(E:XK):Cx where
 prog:=P
 w:=w
 K:=K
 mg:=mg
 base:=base
 A:=A.deeper (PySem.W.envX qual scope s.heap.objs.size f cd cl)
 N:=N
 s₀:=s
 H₀:=H
 env:=PySem.W.envX qual scope s.heap.objs.size f cd cl
 outer:=outer
 stack:=PySem.W.envX qual scope s.heap.objs.size f cd cl::outer
 ex:=[]
 calm:=true
 fn:=fun _=>false
 pn:=[]
 xe:=fun e s'=>wpAny (model P w) (A.deeper (PySem.W.envX qual scope s.heap.objs.size f cd cl)) (leaving (PySem.W.envX qual scope s.heap.objs.size f cd cl) e) (fun _ s''=>CXE P w outer H s E e s'') (fun e' s''=>CXE P w outer H s E e' s'') s'
section
variable {P:Program}{w:World}{K:PySem.W.Frag}{mg:Str→Option Value}{base:Heap}{N:List Str}{qual:Str}{scope:Scope}{f:Addr}{cd:Value}{cl:List (Str×Addr)}{A:Around}{outer:List Env}{s0:Shared}{H0:Hp}{E:XK}
theorem p8 {pins:List (Addr×Obj)}{σ:St}{H':Hp}{s':Shared}{B h2:Heap}{ea C t:Addr}(J:Inv (lamX P w K mg base N qual scope f cd cl A outer s0 H0 E) pins σ H' s')
  (cov:Cov B s0.heap s'.heap H' (PySem.W.envX qual scope s0.heap.objs.size f cd cl::outer)) (up:s'.heap.UpToSlots h2) (fl:Heap.FlyingW B outer ea (.ref C) (.ref t) h2) (hn:H' ea=none) (hE:E (.ref C) none H') :
  CXE P w outer H0 s0 E (.ref ea) { s' with heap:=h2 }:=by
 have hB:=fl.1
 have nloc:∀ b o,s0.heap.get? b=some o→b≠s0.heap.objs.size:=fun b o e=>Nat.ne_of_lt (Heap.lt_size e)
 have nstk:∀ b,b≠s0.heap.objs.size→b∉frs outer→b∉frs (PySem.W.envX qual scope s0.heap.objs.size f cd cl::outer):=fun b h1 h2 z=>(List.mem_cons.mp (J.stkSub b z)).elim h1 h2
 have trk:∀ b o,s'.heap.get? b=some o→H' b≠none→B.get? b=some o:=fun b o e ht=>cov b o e (.inl ht) fun z=>ht (J.stkFree b z)
 have noe:∀ b:Addr,b∉([]:List Addr):=fun _ z=>nomatch z
 have nf:∀ b∈frs outer,∀ o,s'.heap.get? b=some o→∀ vs,o.data≠.fields vs:=fun b hb o e=>by
  obtain⟨_,o',e',d⟩:=J.funs.mem hb
  rw[e]at e';cases e';exact d
 have thr:∀ b o,s0.heap.get? b=some o→∃ o',s'.heap.get? b=some o'∧(b∉frs outer→B.get? b=some o'):=fun b o e=>by
  obtain⟨o',e1⟩:=J.base.there b o e (noe b)
  exact⟨o',e1,fun hb=>cov b o' e1 (.inr ⟨o,e⟩) (nstk b (nloc b o e) hb)⟩
 refine⟨ea,C,t,H',B,rfl,J.os,J.bare,⟨fun b o e n hb hx=>?_,fun b o e n hb hx=>?_,J.base.free,fun b o e hx=>?_,J.base.tups,J.base.frzs,J.base.tbls⟩,fun b u e=>?_,fl,hn,fun b o e hc hb=>?_,hE⟩
 ·have e1:=J.base.keep b o e n hb hx
  exact hB b o (cov b o e1 (.inr ⟨o,e⟩) (nstk b (nloc b o e) hb))
 ·obtain⟨sl,e1⟩:=J.base.slot b o e n hb hx
  obtain⟨sl',e2⟩:=up b _ e1 (nf b hb _ e1)
  exact⟨sl',e2⟩
 ·obtain⟨o',e1,e2⟩:=thr b o e
  by_cases hb:b∈frs outer
  ·obtain⟨sl',e3⟩:=up b _ e1 (nf b hb _ e1)
   exact⟨_,e3⟩
  ·exact⟨o',hB b o' (e2 hb)⟩
 ·refine(J.hok b u e).stay (fun c v hc q=>hB c v (trk c v q ?_)) (fun _ q=>q) fun _ _ q=>q
  rcases hc with z | z
  ·subst z;rw[e];simp
  ·rw[z];simp
 ·have same:∀ o',s'.heap.get? b=some o'→B.get? b=some o'→B.get? b=some o:=fun o' _ q=>by
   have:=hB b o' q
   have e':h2.get? b=some o:=e
   rw[e']at this;cases this;exact q
  rcases hc with z | ⟨o',z⟩
  ·cases q:H' b with
   | none=>exact absurd q z
   | some u =>
    obtain⟨o',e1⟩:=objThere (J.hok b u q)
    exact same o' e1 (trk b o' e1 (by rw[q];simp))
  ·obtain⟨o'',e1,e2⟩:=thr b o' z
   exact same o'' e1 (e2 hb)
theorem p9:Passes (CXE P w) (lamX P w K mg base N qual scope f cd cl A outer s0 H0 E) E:=by
 intro pins σ H s e s' I h
 obtain⟨ea,C,t,H',B,rfl,os,bare,un,hok,fl,hn,cov,hE⟩:=h
 have J:Inv (lamX P w K mg base N qual scope f cd cl A outer s0 H0 E) pins σ H' s':=I.call' (ch:=[]) os un hok bare fun b z=>nomatch z
 refine wpAny_leaves_onW I.ok.frames rfl fl fun h2 fl2 up=>?_
 refine p8 J (fun b o e hc hb=>cov b o e ?_ hb) up fl2 hn hE
 rcases hc with z | ⟨o',z⟩
 ·exact .inl z
 ·obtain⟨o'',z'⟩:=I.base.there b o' z (fun q=>nomatch q)
  exact .inr ⟨o'',z'⟩
end
end FF
namespace L2
open PySem PySem.Spec PyProof.Rows
structure RoomH (k:Nat)(A:Around):Prop where
 dp:A.depth+3*k+3 < recursionLimit
 un:A.units+16*k+190 < cLine
theorem RoomH.deeper {k:Nat}{A:Around}(r:RoomH (k+1) A)(env:Env):RoomH k (A.deeper env) :=
 ⟨by have:=r.dp;show A.depth+1+3*k+3 < _;omega,by have:=r.un;show A.units+3+16*k+190 < _;omega⟩
theorem RoomH.depth {k:Nat}{A:Around}(r:RoomH k A):A.depth < recursionLimit:=by have:=r.dp;omega
def cxOfH (CX:CXT)(P:Program)(w:World)(K:PySem.W.Frag)(mg:Str→Option Value)(base:Heap)(N:List Str)(qual:Str)(scope:Scope)(f:Addr)(cd:Value)(A:Around)(outer:List Env)(s:Shared)(H:Hp)(E:XK):Cx :=
 { cxOf CX P w K mg base N qual scope f cd A outer s H E with calm:=false }
theorem u7 {CX:CXT}{P:Program}{w:World}{K:PySem.W.Frag}{mg:Str→Option Value}{base:Heap}{k:Nat}{f:Addr}{name qual:Str}{params:Arguments}{body:List Stmt}{scope:Scope}{dV kV doc pm cdv ct oc:Value}{an od:Option Addr}
  {osl:Array (Option Value)} {N ps:List Str} {A:Around} {outer:List Env} {s:Shared} {H:Hp} {args:Args} {us:List Value} {vs:List V} {Q:VK} {E:XK} {t:TS} (lk:K.lookup f=some ⟨oc,od,.func (PySem.W.fnOf name qual params body scope dV kV doc pm an cdv ct),osl⟩) (hcd:PySem.W.codeIn K cdv qual=true) (S:FnScope N ps scope)
  (hl:vs.length=ps.length) (hr:RoomW (k+1) A) (e0:Env0 P w K mg base A outer s H) (hb:BindsTo s (PySem.W.fnOf name qual params body scope dV kV doc pm an cdv ct) args (ps.zip us)) (r:Vals vs us)
  (ht:PSs (cxOf CX P w K mg base N qual scope f cdv A outer s H E) body t) (hq:t { nx:=fun _ H'=>Q .non H',rt:=Q } (start N vs) H) :
  codeAny (model P w) A (.call (.ref f) args) (CR CX outer P w H s Q E) s:=by
 have KX:K.In s.heap:=e0.mod.kin.keeps fun b o e=>(e0.bs b o e).1
 have lim:s.heap.NoLimit:=e0.mod.nolimit.keeps fun b o e=>(e0.bs b o e).1
 have hkind:∀ y∈ps.zip us,scope.names.lookup y.1=some .local∨(scope.names.lookup y.1=some .cell∧((cellsFrom (s.heap.objs.size+1) scope.names []).lookup y.1).isSome=true):=fun ⟨n,v⟩ hy=>by
  rcases S.par n (List.of_mem_zip hy).1 with q | q
  ·exact .inl q
  ·exact .inr ⟨q,PySem.W.cellsFrom_some _ _ _ (.inl q)⟩
 refine codeAny_call_function hr.depth (KX _ _ lk) rfl S.co S.gen rfl (PySem.W.codeRec_of KX hcd) (hb _ _ _ _ ?_)
 refine wpAny_newFunctionEnv_cells S.kind hkind fun env he s1 x=>?_
 subst he
 refine⟨lim.keeps x.toInCall.keep,codeAny_func ?_⟩
 have I:Inv (cxOf CX P w K mg base N qual scope f cdv A outer s H E) [] (start N vs) H s1:=iQ S hr.hd e0 hl r x
 refine wpAny_mono (ht [] s1 (start N vs) H _ I hq) (fun fl s' hs=>?_) fun e s' hs=>hs
 have fin:∀ {σ':St} {H':Hp} {v:V} {u:Value},Inv (cxOf CX P w K mg base N qual scope f cdv A outer s H E) [] σ' H' s'→RelV v u→Q v H'→CE outer P w H s Q u s' :=
  fun {σ' H' v u} J rv q=>⟨v,H',J.os,J.bare,J.base,J.hok,rv,q⟩
 cases fl with
 | ret u =>
  obtain⟨v,σ',H',J,rv,q⟩:=hs
  exact fin J rv q
 | next =>
  obtain⟨σ',H',J,q⟩:=hs
  exact fin (v:=V.non) (u:=Value.none) J rfl q
 | brk =>
  obtain⟨_,_,_,q⟩:=hs
  exact False.elim q
 | cont =>
  obtain⟨_,_,_,q⟩:=hs
  exact False.elim q
theorem lp {CX:CXT}{P:Program}{w:World}{K:PySem.W.Frag}{mg:Str→Option Value}{base:Heap}{N ps:List Str}{qual:Str}{scope:Scope}{f:Addr}{cd:Value}{A:Around}{outer:List Env}{s s1:Shared}{H:Hp}{E:XK}{us:List Value}{vs:List V}
  (S:FnScope N ps scope) (e0:Env0 P w K mg base A outer s H) (hl:vs.length=ps.length) (r:Vals vs us)
  (x:InCallC s s.heap.objs.size (bindL (envOfC qual scope s.heap.objs.size f cd).kindOf (ps.zip us) fun _=>none) (cellsFrom (s.heap.objs.size+1) scope.names []) (bindC (envOfC qual scope s.heap.objs.size f cd).kindOf (ps.zip us) fun _=>none) s1) :
  Inv (cxOfH CX P w K mg base N qual scope f cd A outer s H E) [] (start N vs) H s1:=by
 have hpl:ps.length≤N.length:=by have:=congrArg List.length S.pre;rw[List.length_take]at this;omega
 obtain⟨h1,tk,rfl,hk⟩:=x.done
 have noA:∀ b:Addr,b∉(cxOfH CX P w K mg base N qual scope f cd A outer s H E).ex:=fun b z=>absurd (show b∈([]:List Addr) from z) (by simp)
 refine⟨⟨e0.mod,S.kind,rfl,rfl,Nat.le_refl _,fun y z c h1 h2=>?_,fun y hy=>?_,fun y c _ h=>?_,(fun z=>nomatch z),Around.frames_deeper e0.frames,.inr ⟨rfl,rfl⟩,fun b z=>absurd z (noA b),e0.bs,e0.bsz,fun b _ _=>noA b,fun b z=>absurd z (noA b),e0.funs,e0.frf⟩,
  rfl,e0.bare,Un.kept hk,⟨_,x.toInCall.ns,fun i y v h1 h2 h3=>?_⟩,fun y c h=>⟨_,x.cell y c h⟩,e0.hok.fresh (Nat.le_refl _),fun y c h=>?_,fun p hp=>absurd (show p∈([]:List (Addr×Obj)) from hp) (by simp),e0.hok.kept hk,?_⟩
 ·exact name_of_addr x.apart (PySem.mem_of_lookup h1) (PySem.mem_of_lookup h2)
 ·have hy:scope.names.lookup y=some .cell∨scope.names.lookup y=some .free:=hy
  rcases hy with hy | hy
  ·exact dH hy
  ·exact absurd rfl (S.nofree _ (PySem.mem_of_lookup hy))
 ·exact Nat.le_of_lt (x.above y c (PySem.mem_of_lookup h))
 ·have hi:i < vs.length:=by
   unfold start at h2
   by_cases hi:i < vs.length
   ·exact hi
   ·rw[List.getElem?_append_right (by simpa using hi)]at h2
    rw[List.getElem?_replicate]at h2
    split at h2<;>cases h2
  have ha:vs[i]?=some v:=by
   unfold start at h2
   rw[List.getElem?_append_left (by simpa using hi),List.getElem?_map]at h2
   cases e:vs[i]? with
   | none=>rw[e]at h2;cases h2
   | some a=>rw[e]at h2;cases h2;rfl
  obtain⟨u,hu,rv⟩:=r.get ha
  have hp:ps[i]?=some y:=by
   rw[← S.pre,List.getElem?_take_of_lt (by omega)];exact h1
  have ndP:ps.Nodup:=by rw[← S.pre];exact S.nd.sublist (List.take_sublist _ _)
  refine⟨u,rv,?_⟩
  rcases S.par y (List.mem_of_getElem? hp) with k | k
  ·exact .inl ⟨k,eJ ndP hp hu k⟩
  ·obtain⟨c,e⟩:=dH (n:=s.heap.objs.size+1) k
   refine .inr ⟨.inl k,c,e,?_⟩
   have q:=x.cell y c e
   rw[eL ndP hp hu (by show scope.names.lookup y≠_;rw[k];decide)]at q
   exact q
 ·exact e0.hok.fresh (Nat.le_of_lt (x.above y c (PySem.mem_of_lookup h)))
 ·unfold start
  show _=N.length
  rw[List.length_append,List.length_map,List.length_replicate]
  omega
theorem uj {CX:CXT}{P:Program}{w:World}{K:PySem.W.Frag}{mg:Str→Option Value}{base:Heap}{k:Nat}{f:Addr}{name qual:Str}{params:Arguments}{body:List Stmt}{scope:Scope}{dV kV doc pm cdv ct oc:Value}{an od:Option Addr}
  {osl:Array (Option Value)} {N ps:List Str} {A:Around} {outer:List Env} {s:Shared} {H:Hp} {args:Args} {us:List Value} {vs:List V} {Q:VK} {E:XK} {t:TS} (lk:K.lookup f=some ⟨oc,od,.func (PySem.W.fnOf name qual params body scope dV kV doc pm an cdv ct),osl⟩) (hcd:PySem.W.codeIn K cdv qual=true) (S:FnScope N ps scope)
  (hl:vs.length=ps.length) (hr:RoomH (k+1) A) (e0:Env0 P w K mg base A outer s H) (hb:BindsTo s (PySem.W.fnOf name qual params body scope dV kV doc pm an cdv ct) args (ps.zip us)) (r:Vals vs us)
  (ht:PSs (cxOfH CX P w K mg base N qual scope f cdv A outer s H E) body t) (hq:t { nx:=fun _ H'=>Q .non H',rt:=Q } (start N vs) H) :
  codeAny (model P w) A (.call (.ref f) args) (CR CX outer P w H s Q E) s:=by
 have KX:K.In s.heap:=e0.mod.kin.keeps fun b o e=>(e0.bs b o e).1
 have lim:s.heap.NoLimit:=e0.mod.nolimit.keeps fun b o e=>(e0.bs b o e).1
 have hkind:∀ y∈ps.zip us,scope.names.lookup y.1=some .local∨(scope.names.lookup y.1=some .cell∧((cellsFrom (s.heap.objs.size+1) scope.names []).lookup y.1).isSome=true):=fun ⟨n,v⟩ hy=>by
  rcases S.par n (List.of_mem_zip hy).1 with q | q
  ·exact .inl q
  ·exact .inr ⟨q,PySem.W.cellsFrom_some _ _ _ (.inl q)⟩
 refine codeAny_call_function hr.depth (KX _ _ lk) rfl S.co S.gen rfl (PySem.W.codeRec_of KX hcd) (hb _ _ _ _ ?_)
 refine wpAny_newFunctionEnv_cells S.kind hkind fun env he s1 x=>?_
 subst he
 refine⟨lim.keeps x.toInCall.keep,codeAny_func ?_⟩
 have I:Inv (cxOfH CX P w K mg base N qual scope f cdv A outer s H E) [] (start N vs) H s1:=lp S e0 hl r x
 refine wpAny_mono (ht [] s1 (start N vs) H _ I hq) (fun fl s' hs=>?_) fun e s' hs=>hs
 have fin:∀ {σ':St} {H':Hp} {v:V} {u:Value},Inv (cxOfH CX P w K mg base N qual scope f cdv A outer s H E) [] σ' H' s'→RelV v u→Q v H'→CE outer P w H s Q u s' :=
  fun {σ' H' v u} J rv q=>⟨v,H',J.os,J.bare,J.base,J.hok,rv,q⟩
 cases fl with
 | ret u =>
  obtain⟨v,σ',H',J,rv,q⟩:=hs
  exact fin J rv q
 | next =>
  obtain⟨σ',H',J,q⟩:=hs
  exact fin (v:=V.non) (u:=Value.none) J rfl q
 | brk =>
  obtain⟨_,_,_,q⟩:=hs
  exact False.elim q
 | cont =>
  obtain⟨_,_,_,q⟩:=hs
  exact False.elim q
end L2
end
noncomputable section
namespace FF
open PySem PySem.Spec PyProof.Rows L2
structure Lam (h:Heap)(H:Hp)(qual:Str)(params:Arguments)(scope:Scope)(body:Expr)(N:List Str)(f:Addr)(vs:List V):Prop where
 ex:∃ pm c ctv cl oc ws t,H f=some (.frz (PySem.W.kla_obj "<lambda>" qual params body scope cl pm c ctv) (.own 0))∧H c=some (.frz oc (.own 0))∧oc.data=.fields ws∧ws[1]?=some (.str qual t) ∧
  (∀ x y a,cl.lookup x=some a→cl.lookup y=some a→x=y)∧(∀ x a,cl.lookup x=some a→(∃ v,h.IsCell a v)∧H a=none) ∧
  (∀ x,scope.names.lookup x=some .free→∃ a,cl.lookup x=some a) ∧
  (∀ (i:Nat) (x:Str) (v:V),N[i]?=some x→vs[i]?=some v→scope.names.lookup x=some .free∧∃ u a,RelV v u∧cl.lookup x=some a∧h.IsCell a (some u))
section
variable {X:Cx}{pins:List (Addr×Obj)}{σ:St}{H:Hp}{s:Shared}{qual:Str}{params:Arguments}{scope:Scope}{body:Expr}{N:List Str}{f:Addr}{vs:List V}
theorem kj {H0 H:Hp}{h0 h:Heap}{fs:List Addr}{a:Addr}{v:Option Value}(u:Un fs [] H0 H h0 h)(n:H0 a=none)(c:h0.IsCell a v):h.IsCell a v:=by
 obtain⟨o,e,d⟩:=c
 obtain⟨sl,e2⟩:=u.any e n (by simp)
 exact⟨_,e2,d⟩
theorem Lam.later {H0:Hp}{h0 h:Heap}{fs:List Addr}(L:Lam h0 H0 qual params scope body N f vs)(u:Un fs [] H0 H h0 h):Lam h H qual params scope body N f vs:=by
 obtain⟨pm,c,ctv,cl,oc,ws,t,e1,e2,e3,e4,e5,e6,e7,e8⟩:=L.ex
 refine⟨pm,c,ctv,cl,oc,ws,t,u.frzs _ _ _ e1,u.frzs _ _ _ e2,e3,e4,e5,fun x a q=>?_,e7,fun i x v q1 q2=>?_⟩
 ·obtain⟨⟨v,k⟩,n⟩:=e6 x a q
  obtain⟨o,ho,_⟩:=id k
  exact⟨⟨v,kj u n k⟩,u.free a o ho n (by simp)⟩
 ·obtain⟨k,w,a,r,q,z⟩:=e8 i x v q1 q2
  exact⟨k,w,a,r,q,kj u (e6 x a q).2 z⟩
theorem i4 {N:List Str}{vs:List V}(h:vs.length=N.length):L2.start N vs=vs.map some:=by
 unfold L2.start
 rw[h,Nat.sub_self]
 simp
theorem rR {P:Program}{w:World}{K:PySem.W.Frag}{mg:Str→Option Value}{base:Heap}{cd:Value}{cl:List (Str×Addr)}{A:Around}{outer:List Env}{E:XK}{h1:Heap}{tk:Nat}{m:Str→Option Value}
  (hd:A.handled=none) (e0:Env0 P w K mg base A outer s H) (sk:scope.kind=.function) (snc:∀ x∈scope.names,x.2≠.cell) (hvl:vs.length=N.length) (hns:h1.Ns s.heap.objs.size m) (hk:∀ b o,s.heap.get? b=some o→h1.get? b=some o)
  (e5:∀ x y a,cl.lookup x=some a→cl.lookup y=some a→x=y) (e6:∀ x a,cl.lookup x=some a→(∃ v,s.heap.IsCell a v)∧H a=none) (e7:∀ x,scope.names.lookup x=some .free→∃ a,cl.lookup x=some a)
  (e8:∀ (i:Nat) (x:Str) (v:V),N[i]?=some x→vs[i]?=some v→scope.names.lookup x=some .free∧∃ u a,RelV v u∧cl.lookup x=some a∧s.heap.IsCell a (some u)) :
  Inv (lamX P w K mg base N qual scope f cd cl A outer s H E) [] (L2.start N vs) H { s with heap:=h1,toks:=tk }:=by
 have ck:∀ {a:Addr} {v:Option Value},s.heap.IsCell a v→h1.IsCell a v:=fun ⟨o,e,d⟩=>⟨o,hk _ _ e,d⟩
 have noA:∀ b:Addr,b∉(lamX P w K mg base N qual scope f cd cl A outer s H E).ex:=fun b z=>absurd (show b∈([]:List Addr) from z) (by simp)
 refine⟨⟨e0.mod,sk,rfl,rfl,Nat.le_refl _,e5,fun y hy=>?_,fun y c hf _=>absurd (show false=true from hf) Bool.false_ne_true,fun _=>hd,Around.frames_deeper e0.frames,.inr ⟨rfl,rfl⟩,fun b z=>absurd z (noA b),e0.bs,e0.bsz,fun b _ _=>noA b,fun b z=>absurd z (noA b),e0.funs,e0.frf⟩,
  rfl,e0.bare,Un.kept hk,⟨m,hns,fun i y v h1 h2 h3=>?_⟩,fun y c h=>?_,e0.hok.fresh (Nat.le_refl _),fun y c h=>(e6 y c h).2,fun p hp=>absurd (show p∈([]:List (Addr×Obj)) from hp) (by simp),e0.hok.kept hk,?_⟩
 ·have hy:scope.names.lookup y=some .cell∨scope.names.lookup y=some .free:=hy
  rcases hy with hy | hy
  ·exact absurd rfl (snc _ (PySem.mem_of_lookup hy))
  ·exact e7 y hy
 ·rw[i4 hvl,List.getElem?_map]at h2
  cases q:vs[i]? with
  | none=>rw[q]at h2;cases h2
  | some v' =>
   rw[q]at h2
   cases h2
   obtain⟨k,u,a,r,q2,z⟩:=e8 i y v h1 q
   exact⟨u,r,.inr ⟨.inr k,a,q2,ck z⟩⟩
 ·obtain⟨⟨v,z⟩,_⟩:=e6 y c h
  exact⟨v,ck z⟩
 ·show (L2.start N vs).length=N.length
  rw[i4 hvl,List.length_map,hvl]
theorem rS {E:XK}{k:Nat}{Q:VK}(I:Inv X pins σ H s)(hc:X.calm=true)(L:Lam s.heap H qual params scope body N f vs)(hr:Room (k+1) X.A)(hx:Passes (CXE X.prog X.w) X E)
  (sk:scope.kind=.function) (sco:scope.isCoroutine=false) (sgen:scope.isGenerator=false) (snc:∀ x∈scope.names,x.2≠.cell) (hvl:vs.length=N.length)
  (hbind:∀ cl pm c ctv,bindArgs (PySem.W.kla_fn "<lambda>" qual params body scope cl pm c ctv) ⟨[],[]⟩=pure [])
  (hb:∀ cd cl,Room k (X.A.deeper (PySem.W.envX qual scope s.heap.objs.size f cd cl))→∃ t,PE (lamX X.prog X.w X.K X.mg X.base N qual scope f cd cl X.A X.stack s H E) body t∧t (L2.start N vs) H Q) :
  wpAny (model X.prog X.w) X.A (call (.ref f) []) (EP X pins σ Q) X.xe s:=by
 obtain⟨pm,c,ctv,cl,oc,ws,tq,e1,e2,e3,e4,e5,e6,e7,e8⟩:=L.ex
 have ho:=(I.hok f _ e1).1
 have hoc:=(I.hok c _ e2).1
 refine wpAny_call (codeAny_mono (R:=CR (CXE X.prog X.w) X.stack X.prog X.w H s Q E) ?_ fun r s' hq=>?_)
 ·refine PySem.W.kla_callFunE (by have:=hr.dp;omega) ho rfl sco sgen rfl ⟨c,oc,ws,tq,rfl,hoc,e3,e4⟩ ?_
  rw[hbind]
  refine wpAny_pure (wpAny_newFunctionEnv snc (fun x hx=>nomatch hx) (fun h₁ hns hsb=>?_) sk)
  have hk₁:∀ b o,s.heap.get? b=some o→h₁.get? b=some o:=fun b o e=>hsb.extBut b o (Nat.ne_of_lt (Heap.lt_size e)) (Heap.get?_push_of_some _ e)
  refine⟨I.nolimit.keeps hk₁,?_⟩
  show codeAny _ _ (.expr body (PySem.W.envX qual scope s.heap.objs.size f (.ref c) cl)) _ _
  obtain⟨t,hp,ht⟩:=hb (.ref c) cl (hr.deeper _)
  have I₁:Inv (lamX X.prog X.w X.K X.mg X.base N qual scope f (.ref c) cl X.A X.stack s H E) [] (L2.start N vs) H { s with heap:=h₁,toks:=s.toks+([]:List (Str×Value)).length } :=
   rR (I.ok.hd hc) I.env0 sk snc hvl hns hk₁ e5 e6 e7 e8
  refine PySem.W.kla_codeExpr (wpAny_mono (hp [] _ _ _ _ I₁ ht) (fun v s' hv=>?_) fun e s' he=>he)
  obtain⟨v',H',J,rv,q⟩:=hv
  exact⟨v',H',J.os,J.bare,J.base,J.hok,rv,q⟩
 ·cases r with
  | error e=>exact hx pins σ H s e s' I hq
  | ok fl =>
   cases fl with
   | ret u=>exact I.after hq
   | next=>exact False.elim hq
   | brk=>exact False.elim hq
   | cont=>exact False.elim hq
theorem lq {E:XK}{k:Nat}{i:Nat}{x:Str}{p pos:Pos}{T:St→Hp→VK→Prop}(hc:X.calm=true)(hr:Room (k+1) X.A)(hx:Passes (CXE X.prog X.w) X E)
  (sk:scope.kind=.function) (sco:scope.isCoroutine=false) (sgen:scope.isGenerator=false) (snc:∀ x∈scope.names,x.2≠.cell) (hvl:vs.length=N.length)
  (hbind:∀ cl pm c ctv,bindArgs (PySem.W.kla_fn "<lambda>" qual params body scope cl pm c ctv) ⟨[],[]⟩=pure []) (hN:X.N[i]?=some x) (hv:Vis X.env.scope x)
  (hL:∀ pins σ H s,Inv X pins σ H s→Lam s.heap H qual params scope body N f vs)
  (hT:∀ σ H Q,T σ H Q→σ[i]?=some (some (.ref f)))
  (hb:∀ pins σ H s Q,Inv X pins σ H s→T σ H Q→∀ cd cl,Room k (X.A.deeper (PySem.W.envX qual scope s.heap.objs.size f cd cl))→∃ t,PE (lamX X.prog X.w X.K X.mg X.base N qual scope f cd cl X.A X.stack s H E) body t∧t (L2.start N vs) H Q)
  (hd:(x==("__debug__":Str))=false:=by decide) (hcd:(x==("__classdict__":Str))=false:=by decide):PE X (.Call (.Name x p) [] [] pos) T:=by
 intro pins s σ H Q I h
 refine wpAny_Call_Name_kw ?_
 refine thn (bQ (pos:=p) hN hv hd hcd pins s σ H (fun v H'=>v=.ref f∧H'=H) I ⟨.ref f,hT _ _ _ h,rfl,rfl⟩) fun u s1 ⟨v,H1,I1,r,e1,e2⟩=>?_
 subst e1 e2
 cases r
 obtain⟨pm,c,ctv,cl,oc,ws,tq,e1,_⟩:=(hL pins σ H1 s1 I1).ex
 refine PySem.W.callWith_F0 ⟨_,_,_,_,(I1.hok f _ e1).1⟩ ?_
 exact rS I1 hc (hL pins σ H1 s1 I1) hr hx sk sco sgen snc hvl hbind (hb pins σ H1 s1 Q I1 h)
end
def CodeK (K:PySem.W.Frag)(c P:Addr):Prop :=
 ∃ o vs file tf flags tg inF text tt,K.lookup c=some o∧o.cls=.type "code" ∧ o.data=.fields vs∧vs[11]?=some (.ref P)∧vs.getD 11 .none=.ref P∧vs.getD 18 .none=.str file tf ∧
  vs.getD 7 .none=.int flags tg∧vs.getD 9 .none=.bool inF∧vs.getD 10 .none=.int text tt∧c≠P
theorem CodeK.hd {K:PySem.W.Frag}{c P:Addr}{h:Heap}(x:CodeK K c P)(k:K.In h):PySem.W.CodeHd h c P :=
 let ⟨o,vs,file,tf,flags,tg,inF,text,tt,e,r⟩:=x;⟨o,vs,file,tf,flags,tg,inF,text,tt,k _ _ e,r⟩
def BMn (mg:Str→Option Value)(base:Heap):Prop:=∃ bm ob,mg "__builtins__"=some (.ref bm)∧bm≠builtinsNs∧base.get? bm=some ob∧ob.cls=.type "module" ∧ ob.dict=some builtinsNs∧ob.data=.plain
structure LamX (X:Cx)(K:PySem.W.Frag)(C:Nat→Addr)(i:Nat):Prop where
 lt:i < C 900
 q:qOf K (C (902+2*i))=X.env.qual ++ "<lambda>"
 cd:∃ c,X.env.code=.ref c∧CodeK K c (C (901+2*i))
 bm:BMn X.mg X.base
 inj:∀ j,j < C 900→C (901+2*j)=C (901+2*i)→j=i
theorem nZ {pos:Pos}(m:List Value)(l:List Value)(h:TriplesOk l):codeAmong pos (l++m)=(codeAmong pos l).or (codeAmong pos m):=by
 fun_induction TriplesOk l with
 | case1=>simp[codeAmong]
 | case2 a t b u x rest ih =>
  simp only[List.cons_append,codeAmong]
  split
  ·rfl
  ·exact ih h
 | case3 l h1 h2=>exact h.elim
section
variable {X:Cx}{G:Gx}{W:Wd}{HW Z H:Hp}{S:SS}{ρ:St}{pins:List (Addr×Obj)}{s:Shared}{params:Arguments}{scope:Scope}{body:Expr}{lpos:Pos}{clos:List (Str×Addr)}
theorem uk {Q:Value→Shared→Prop}(i:Nat)(I:Inv X pins ρ H s)(ok:GOk G W HW Z H S ρ)(hK:X.K=G.K)(lx:LamX X G.K G.C i)(hcl:closureFor scope X.env=pure clos)(hdef:defaultsOf params X.env=([],[]))
  (h:∀ f c ctv oc ws t pm s1 H1 HW1,Inv X pins ρ H1 s1→GX HW Z H HW1 Z H1→WdOk G.K G.C HW1 Z W→H1 f=some (.frz (PySem.W.kla_obj "<lambda>" (X.env.qual ++ "<lambda>") params body scope clos pm c ctv) (.own 0)) →
   H1 c=some (.frz oc (.own 0))→oc.data=.fields ws→ws[1]?=some (.str (X.env.qual ++ "<lambda>") t)→Q (.ref f) s1) :
  wpAny (model X.prog X.w) X.A (eval (.Lambda params body scope lpos) X.env) Q X.xe s:=by
 obtain⟨c,hcode,ck⟩:=lx.cd
 obtain⟨ps,hP,tp,hits⟩:=ok.wd.tb i lx.lt
 rw[lx.q]at hits
 have tbo:∀ j,j < G.C 900→TblOk HW (G.C (901+2*j)) (qOf G.K (G.C (902+2*j))):=ok.wd.tb
 have q0:=lx.q
 generalize hPe:G.C (901+2*i)=P at hP ck
 have hP':=ok.wh _ _ hP
 have heP:s.heap.get? P=some (PySem.W.tabObj ps):=I.hok P _ hP'
 have CH:PySem.W.CodeHd s.heap c P:=ck.hd (hK ▸ I.kIn)
 have hg:s.heap.Ns mainGlobals X.mg:=I.ok.mod.glob.keeps I.bk
 have hbs:∀ b o,X.base.get? b=some o→b≠P:=fun b o e z=>by
  have:=(I.bs b o e).2
  rw[z,hP']at this;cases this
 have hgP:mainGlobals≠P:=by obtain⟨o,es,ep,e,_⟩:=I.ok.mod.glob;exact hbs _ _ e
 obtain⟨bm,ob,b1,b2,b3,b4,b5,b6⟩:=lx.bm
 have hbG:bm≠mainGlobals:=fun q=>by
  obtain⟨o,es,ep,e,hd,_⟩:=I.ok.mod.glob
  rw[q,e]at b3;cases b3;rw[hd]at b6;cases b6
 have hb:s.heap.BuiltinsAt X.mg P:=⟨bm,ob,b1,b2,hbG,hbs _ _ b3,I.bk _ _ b3,b4,b5,b6⟩
 refine PySem.W.kla_eval hdef ?_
 cases hq:codeAmong lpos ps.toList with
 | some cv =>
  obtain⟨c',oc,ws,t,rfl,hc',d1,d2⟩:=hits lpos cv hq
  refine PySem.W.kla_makeFunctionHit (mg:=X.mg) hcl I.ok.glob hg hcode CH heP tp hq hb fun ctv h' tk hk hsz=>?_
  have hf:H h'.objs.size=none:=I.hok.fresh hsz
  have hcH:=ok.wh _ _ hc'
  refine h _ c' ctv oc ws t _ _ _ HW (I.laid (o:=.frz (PySem.W.kla_obj "<lambda>" (X.env.qual ++ "<lambda>") params body scope clos ((X.mg "__name__").getD .none) c' ctv) (.own 0)) (t':=tk) (fun b u e=>Heap.get?_push_of_some _ (hk b u e)) hsz ⟨Heap.get?_push_size _ rfl,⟨_,Heap.get?_push_size _ rfl⟩⟩) ?_ ok.wd ao ?_ d1 d2
  ·exact ok.ex ⟨fun b u e=>by rw[ai (aF e hf)];exact e,Same.refl _,fun b u e=>by have e1:=ok.zh b u e;rw[ai (aF e1 hf)];exact e1,fun _ q=>.inl q⟩
  ·rw[ai (aF hcH hf)];exact hcH
 | none =>
  refine PySem.W.kla_makeFunction (mg:=X.mg) hcl I.ok.glob hg hcode CH heP tp hq hgP hb fun c' ctv h' tk hx hge hlt hrec htb=>?_
  obtain⟨c2,oc,ws,t,ec,hoc,d1,d2⟩:=hrec
  cases ec
  have hszf:s.heap.objs.size≤h'.objs.size:=Nat.le_trans hge (Nat.le_of_lt hlt)
  have hc0:H c'=none:=I.hok.fresh hge
  have hf0:H h'.objs.size=none:=I.hok.fresh hszf
  have ncf:c'≠h'.objs.size:=Nat.ne_of_lt hlt
  have ncP:P≠c':=aF hP' hc0
  have nfP:P≠h'.objs.size:=aF hP' hf0
  let fo:HO:=.frz (PySem.W.kla_obj "<lambda>" (X.env.qual ++ "<lambda>") params body scope clos ((X.mg "__name__").getD .none) c' ctv) (.own 0)
  let H1:Hp:=upd (upd (upd H P (.tbl (ps++#[rawInt lpos.line,rawInt lpos.col,.ref c']))) c' (.frz oc (.own 0))) h'.objs.size fo
  let HW1:Hp:=upd (upd HW P (.tbl (ps++#[rawInt lpos.line,rawInt lpos.col,.ref c']))) c' (.frz oc (.own 0))
  have a1:H1 h'.objs.size=some fo:=ao
  have a2:H1 c'=some (.frz oc (.own 0)):=by show upd _ _ _ c'=_;rw[ai ncf,ao]
  have a3:H1 P=some (.tbl (ps++#[rawInt lpos.line,rawInt lpos.col,.ref c'])):=by show upd _ _ _ P=_;rw[ai nfP,ai ncP,ao]
  have a4:∀ b,b≠P→H b≠none→H1 b=H b:=fun b h1 h2=>by
   show upd _ _ _ b=_
   rw[ai (fun z=>h2 (by rw[z];exact hf0)),ai (fun z=>h2 (by rw[z];exact hc0)),ai h1]
  have w2:HW1 c'=some (.frz oc (.own 0)):=ao
  have w3:HW1 P=some (.tbl (ps++#[rawInt lpos.line,rawInt lpos.col,.ref c'])):=by show upd _ _ _ P=_;rw[ai ncP,ao]
  have wc0:HW c'=none:=ok.wh.free hc0
  have w4:∀ b,b≠P→HW b≠none→HW1 b=HW b:=fun b h1 h2=>by
   show upd _ _ _ b=_
   rw[ai (fun z=>h2 (by rw[z];exact wc0)),ai h1]
  have g1:∀ b o,b≠P→s.heap.get? b=some o→(h'.push (PySem.W.kla_obj "<lambda>" (X.env.qual ++ "<lambda>") params body scope clos ((X.mg "__name__").getD .none) c' ctv)).get? b=some o:=fun b o hb e=>Heap.get?_push_of_some _ (hx b o hb e)
  have nP:∀ b,H b=none→b≠P:=fun b n z=>by rw[z,hP']at n;cases n
  have nsz:∀ b o,s.heap.get? b=some o→b≠c'∧b≠h'.objs.size:=fun b o e=>⟨Nat.ne_of_lt (Nat.lt_of_lt_of_le (Heap.lt_size e) hge),Nat.ne_of_lt (Nat.lt_of_lt_of_le (Heap.lt_size e) hszf)⟩
  have un:Un X.fs [] H H1 s.heap (h'.push (PySem.W.kla_obj "<lambda>" (X.env.qual ++ "<lambda>") params body scope clos ((X.mg "__name__").getD .none) c' ctv)):=by
   refine⟨fun b o e n _ _=>g1 b o (nP b n) e,fun b o e n _ _=>⟨o.slots,g1 b o (nP b n) e⟩,fun b o e n _=>?_,fun b o e _=>?_,fun b xs e=>?_,fun b o u e=>?_,fun b qs e=>?_⟩
   ·show upd _ _ _ b=_
    rw[ai (nsz b o e).2,ai (nsz b o e).1,ai (nP b n)];exact n
   ·by_cases hb:b=P
    ·exact⟨_,by rw[hb];exact Heap.get?_push_of_some _ htb⟩
    ·exact⟨o,g1 b o hb e⟩
   ·rw[a4 b (fun z=>by rw[z,hP']at e;cases e) (by rw[e];simp)];exact e
   ·rw[a4 b (fun z=>by rw[z,hP']at e;cases e) (by rw[e];simp)];exact e
   ·by_cases hb:b=P
    ·subst hb;rw[hP']at e;cases e;exact⟨_,a3⟩
    ·exact⟨#[],by rw[a4 b hb (by rw[e];simp),e];simp⟩
  have hok:HOk X.prog X.w H1 (h'.push (PySem.W.kla_obj "<lambda>" (X.env.qual ++ "<lambda>") params body scope clos ((X.mg "__name__").getD .none) c' ctv)):=fun b u e=>by
   by_cases hb1:b=h'.objs.size
   ·subst hb1;rw[a1]at e;cases e
    exact⟨Heap.get?_push_size _ rfl,⟨_,Heap.get?_push_size _ rfl⟩⟩
   ·by_cases hb2:b=c'
    ·subst hb2;rw[a2]at e;cases e
     exact⟨Heap.get?_push_of_some _ hoc,⟨_,Heap.get?_push_of_some _ hoc⟩⟩
    ·by_cases hb3:b=P
     ·subst hb3;rw[a3]at e;cases e
      exact Heap.get?_push_of_some _ htb
     ·have e0:H b=some u:=by
       have:H1 b=H b:=by show upd _ _ _ b=_;rw[ai hb1,ai hb2,ai hb3]
       rw[← this];exact e
      refine(I.hok b u e0).stay (fun d v hd q=>g1 d v ?_ q) (fun d q=>?_) fun d xs q=>?_
      ·rcases hd with z | z
       ·rw[z];exact hb3
       ·intro z2;rw[z2,hP']at z;cases z
      ·rw[a4 d (fun z=>by rw[z,hP']at q;cases q) (by rw[q];simp)];exact q
      ·rw[a4 d (fun z=>by rw[z,hP']at q;cases q) (by rw[q];simp)];exact q
  have gx:GX HW Z H HW1 Z H1:=by
   refine⟨fun b o n e=>?_,Same.refl _,fun b o e=>?_,fun b o e=>?_,fun b n=>?_,fun b n=>?_,fun b n=>.inl n,fun b n=>?_⟩
   ·rw[a4 b (fun z=>by rw[z,hP]at n;cases n) (by rw[e];simp)];exact e
   ·have e1:=ok.zh b o e
    rw[a4 b (fun z=>by rw[z]at e;rw[ok.gx.dj P (bj hP)]at e;cases e) (by rw[e1];simp)];exact e1
   ·by_cases hb:b=P
    ·subst hb;rw[w3]at e;rw[a3];exact e
    ·by_cases hb2:b=c'
     ·subst hb2;rw[w2]at e;rw[a2];exact e
     ·have e0:HW b=some o:=by
       have:HW1 b=HW b:=by show upd _ _ _ b=_;rw[ai hb2,ai hb]
       rw[← this];exact e
      have e1:=ok.wh b o e0
      rw[a4 b hb (by rw[e1];simp)];exact e1
   ·by_cases hb:b=P
    ·rw[hb,w3];simp
    ·rw[w4 b hb n];exact n
   ·by_cases hb:b=P
    ·exact .inl (by rw[hb,hP];simp)
    ·by_cases hb2:b=c'
     ·exact .inr (by rw[hb2];exact hc0)
     ·have:HW1 b=HW b:=by show upd _ _ _ b=_;rw[ai hb2,ai hb]
      rw[this]at n;exact .inl n
   ·by_cases hb:b=P
    ·rw[hb];exact ok.gx.dj P (bj hP)
    ·by_cases hb2:b=c'
     ·rw[hb2];exact ok.zh.free hc0
     ·have:HW1 b=HW b:=by show upd _ _ _ b=_;rw[ai hb2,ai hb]
      rw[this]at n;exact ok.gx.dj b n
  have keepW:∀ b u,HW b=some u→(∀ qs,u≠.tbl qs)→HW1 b=some u:=fun b u e hn=>by
   rw[w4 b (fun z=>by rw[z,hP]at e;cases e;exact hn _ rfl) (by rw[e];simp)];exact e
  have wd:WdOk G.K G.C HW1 Z W:=by
   refine⟨fun b o e=>?_,fun j hj=>?_⟩
   ·have q:=ok.wd b o e
    cases o with
    | ins n fs=>obtain⟨dx,vs,e1,e2,cl,e3,r⟩:=q;exact⟨dx,vs,keepW _ _ e1 (fun _ z=>nomatch z),keepW _ _ e2 (fun _ z=>nomatch z),cl,e3,r⟩
    | lst ds=>obtain⟨vs,e1,r⟩:=q;exact⟨vs,keepW _ _ e1 (fun _ z=>nomatch z),r⟩
   ·obtain⟨qs,f1,f2,f3⟩:=tbo j hj
    by_cases hb:G.C (901+2*j)=P
    ·rw[hb]at f1 ⊢
     have ej:qs=ps:=by rw[hP]at f1;cases f1;rfl
     subst ej
     refine⟨_,w3,?_,fun pos cv q=>?_⟩
     ·rw[Array.toList_append];exact TriplesOk_snoc _ _ _ _ f2
     ·rw[Array.toList_append,nZ _ _ f2]at q
      cases hh:codeAmong pos qs.toList with
      | some v =>
       rw[hh]at q
       cases q
       obtain⟨c3,oc3,ws3,t3,k1,k2,k3,k4⟩:=f3 pos cv hh
       exact⟨c3,oc3,ws3,t3,k1,keepW _ _ k2 (fun _ z=>nomatch z),k3,k4⟩
      | none =>
       rw[hh]at q
       have q':codeAmong pos [rawInt lpos.line,rawInt lpos.col,.ref c']=some cv:=q
       simp only[codeAmong,rawInt]at q'
       split at q'
       ·cases q'
        refine⟨c',oc,ws,t,rfl,w2,d1,?_⟩
        rw[d2]
        rw[lx.inj j hj (hb.trans hPe.symm),q0]
       ·cases q'
    ·refine⟨qs,by rw[w4 _ hb (by rw[f1];simp)];exact f1,f2,fun pos cv q=>?_⟩
     obtain⟨c3,oc3,ws3,t3,k1,k2,k3,k4⟩:=f3 pos cv q
     exact⟨c3,oc3,ws3,t3,k1,keepW _ _ k2 (fun _ z=>nomatch z),k3,k4⟩
  exact h _ c' ctv oc ws t _ _ H1 HW1 (I.un (t':=tk) un hok) gx wd a1 a2 d1 d2
end
theorem BG.mono {X:Cx}{G:Gx}{j k:Nat}(b:BG X G k)(h:j≤k):BG X G j:=⟨b.room.mono h,b.K,b.calm,b.pass⟩
def LamB (P:Program)(w:World)(K:PySem.W.Frag)(mg:Str→Option Value)(base:Heap)(C:Nat→Addr)(k:Nat)(N:List Str)(qual:Str)(scope:Scope)(body:Expr)(ds:List D)(rf:Wd→RW):Prop :=
 ∀ (f:Addr) (cd:Value) (cl:List (Str×Addr)) (A:Around) (outer:List Env) (s:Shared) (HW Z H:Hp) (E:XK) (W:Wd),BG (lamX P w K mg base N qual scope f cd cl A outer s H E) ⟨K,C,HW,Z,H,E⟩ k →
  GE (lamX P w K mg base N qual scope f cd cl A outer s H E) ⟨K,C,HW,Z,H,E⟩ W (startS N.length ds) body (rf W)
structure LamSc (scope:Scope)(params:Arguments)(body:Expr)(qual:Str):Prop where
 sk:scope.kind=.function
 sco:scope.isCoroutine=false
 sgen:scope.isGenerator=false
 snc:∀ x∈scope.names,x.2≠.cell
 hb:∀ cl pm c ctv,bindArgs (PySem.W.kla_fn "<lambda>" qual params body scope cl pm c ctv) ⟨[],[]⟩=pure []
def DeedAt (X0:Cx)(G0:Gx)(k:Nat)(i:Nat)(x:Str)(f:Addr)(rf:Wd→RW):Prop:=∀ pn xe E' p pos W S,BG (tryX X0 pn xe) { G0 with E:=E' } k→S[i]?=some (some (.val (.ptr f))) →
 GE (tryX X0 pn xe) { G0 with E:=E' } W S (.Call (.Name x p) [] [] pos) (rf W)
section
variable {X:Cx}{G:Gx}{W:Wd}{S:SS}{k:Nat}{N:List Str}{qual:Str}{params:Arguments}{scope:Scope}{body:Expr}{ds:List D}{vs:List V}{rf:Wd→RW}{f:Addr}{x:Str}{p pos:Pos}
theorem rT (i:Nat)(bg:BG X G (k+1))(hex:X.ex=[])(L:Lam X.s₀.heap X.H₀ qual params scope body N f vs)(sc:LamSc scope params body qual)(hr:Reps G.K G.C G.Z0 ds vs)(hl:vs.length=N.length)
  (hS:S[i]?=some (some (.val (.ptr f)))) (hb:LamB X.prog X.w X.K X.mg X.base G.C k N qual scope body ds rf) (hi:X.N[i]?=some x) (hv:Vis X.env.scope x)
  (hd:(x==("__debug__":Str))=false) (hcd:(x==("__classdict__":Str))=false):GE X G W S (.Call (.Name x p) [] [] pos) (rf W):=by
 have hK:=bg.K
 refine lq (E:=G.E) (i:=i) (f:=f) (vs:=vs) (N:=N) (qual:=qual) (params:=params) (scope:=scope) (body:=body) bg.calm bg.room bg.pass sc.sk sc.sco sc.sgen sc.snc hl sc.hb hi hv
  (fun pins σ H s I=>L.later (by have:=I.base;rw[hex]at this;exact this)) (fun σ H Q ⟨HW,Z,ok,w⟩=>?_) (fun pins σ H s Q I ⟨HW,Z,ok,w⟩ cd cl room=>?_) hd hcd
 ·obtain⟨v,A,e,o,_⟩:=ok.nm.sl i _ hS
  have r:=o.2
  rw[Rep]at r
  rw[e,r]
 ·have b':BG (lamX X.prog X.w X.K X.mg X.base N qual scope f cd cl X.A X.stack s H G.E) ⟨X.K,G.C,HW,Z,H,G.E⟩ k:=⟨room,rfl,rfl,p9⟩
  refine⟨_,hb f cd cl X.A X.stack s HW Z H G.E W b',HW,Z,GOk.start ok.zh ok.wh ok.gx.dj (by rw[hK];exact ok.wd) (by rw[hK];exact hr.mono ok.gx.z),?_⟩
  rw[hK];exact w
inductive Cap (X:Cx)(S:SS)(scope:Scope):List Str→List D→Prop
 | nil:Cap X S scope [] []
 | cons (i:Nat) {x:Str} {d:D} {N:List Str} {ds:List D} (h1:X.N[i]?=some x) (h2:S[i]?=some (some (.val d))) (h3:X.env.scope.names.lookup x=some .cell) (h4:scope.names.lookup x=some .free) (r:Cap X S scope N ds):Cap X S scope (x::N) (d::ds)
theorem Cap.vals {HW Z H:Hp}{ρ:St}{pins:List (Addr×Obj)}{s:Shared}(ok:GOk G W HW Z H S ρ)(I:Inv X pins ρ H s):∀ {N:List Str} {ds:List D},Cap X S scope N ds→∃ vs,Reps G.K G.C Z ds vs∧vs.length=N.length ∧
  ∀ (i:Nat) (x:Str) (v:V),N[i]?=some x→vs[i]?=some v→scope.names.lookup x=some .free∧∃ u a,RelV v u∧X.env.cells.lookup x=some a∧s.heap.IsCell a (some u)
 | _,_,.nil=>⟨[],Reps.nil,rfl,fun i x v e _=>by simp at e⟩
 | _,_,.cons i h1 h2 h3 h4 r=>by
  obtain⟨vs,rs,hl,k⟩:=Cap.vals ok I r
  obtain⟨v,A,e,o,_⟩:=ok.nm.sl i _ h2
  obtain⟨m,hn,hv⟩:=I.loc
  obtain⟨u,ru,lk⟩:=hv i _ v h1 e (.inr (.inl h3))
  refine⟨v::vs,Reps.cons o.2 rs,by rw[List.length_cons,List.length_cons,hl],fun j y w e1 e2=>?_⟩
  cases j with
  | zero =>
   simp at e1 e2
   subst e1 e2
   refine⟨h4,u,?_⟩
   rcases lk with ⟨z,_⟩ | ⟨_,a,ea,z⟩
   ·have z:X.env.scope.names.lookup _=some .local:=z
    rw[h3]at z;cases z
   ·exact⟨a,ru,ea,z⟩
  | succ j=>exact k j y w (by simpa using e1) (by simpa using e2)
def closOf (cells:List (Str×Addr))(fr:List Str):List (Str×Addr):=fr.map fun x=>(x,(cells.lookup x).getD 0)
theorem d0 {cells:List (Str×Addr)}{y:Str}{a:Addr}:∀ {fr:List Str},fr.all (fun x=>(cells.lookup x).isSome)=true→(closOf cells fr).lookup y=some a→cells.lookup y=some a
 | [],_,e=>by simp[closOf]at e
 | x::fr,h,e=>by
  rw[List.all_cons,Bool.and_eq_true]at h
  unfold closOf at e
  rw[List.map_cons,List.lookup_cons]at e
  cases q:(y==x) with
  | true =>
   rw[q]at e
   have hy:y=x:=eq_of_beq q
   subst hy
   cases q2:cells.lookup y with
   | none=>rw[q2]at h;exact absurd h.1 (by simp)
   | some b=>rw[q2]at e;exact e
  | false=>rw[q]at e;exact d0 h.2 e
theorem g7 {cells:List (Str×Addr)}{y:Str}:∀ {fr:List Str},y∈fr→∃ a,(closOf cells fr).lookup y=some a
 | x::fr,h=>by
  unfold closOf
  rw[List.map_cons,List.lookup_cons]
  cases q:(y==x) with
  | true=>exact⟨_,rfl⟩
  | false =>
   rcases List.mem_cons.mp h with z | z
   ·rw[z]at q;simp at q
   ·exact g7 z
theorem qd {cells:List (Str×Addr)}{y:Str}{fr:List Str}{a:Addr}(h:fr.all (fun x=>(cells.lookup x).isSome)=true)(hy:y∈fr)(e:cells.lookup y=some a):(closOf cells fr).lookup y=some a:=by
 obtain⟨b,q⟩:=g7 (cells:=cells) hy
 have:=d0 h q
 rw[e]at this;cases this;exact q
def tLam (G:Gx)(W:Wd)(S:SS)(qual:Str)(params:Arguments)(scope:Scope)(body:Expr)(clos:List (Str×Addr)):TE:=fun ρ H Q=>∃ HW Z,GOk G W HW Z H S ρ∧∀ f c ctv oc ws t pm H1 HW1,GX HW Z H HW1 Z H1→WdOk G.K G.C HW1 Z W →
 H1 f=some (.frz (PySem.W.kla_obj "<lambda>" qual params body scope clos pm c ctv) (.own 0))→H1 c=some (.frz oc (.own 0))→oc.data=.fields ws→ws[1]?=some (.str qual t)→Q (.ref f) H1
theorem ul {clos:List (Str×Addr)}{lpos:Pos}(i:Nat)(hK:X.K=G.K)(lx:LamX X G.K G.C i)(hcl:closureFor scope X.env=pure clos)(hdef:defaultsOf params X.env=([],[])) :
  PE X (.Lambda params body scope lpos) (tLam G W S (X.env.qual ++ "<lambda>") params scope body clos):=fun pins s ρ H Q I ⟨HW,Z,ok,w⟩ =>
 uk i I ok hK lx hcl hdef fun f c ctv oc ws t pm s1 H1 HW1 I1 gx wd a1 a2 a3 a4=>⟨.ref f,H1,I1,rfl,w f c ctv oc ws t pm H1 HW1 gx wd a1 a2 a3 a4⟩
def ToldB (P:Program)(w:World)(K:PySem.W.Frag)(mg:Str→Option Value)(base:Heap)(C:Nat→Addr)(k:Nat)(NT:List Str)(told dn:Str)(st:Stmt)(rf:Wd→RW)(lt:Wd→LW Unit):Prop :=
 ∀ (f:Addr) (cdv:Value) (A:Around) (outer:List Env) (s:Shared) (HW Z H:Hp) (E:XK) (fl:Addr),BG (bodyX P w K mg base NT told (defScope st) f cdv A outer s H E) ⟨K,C,HW,Z,H,E⟩ k →
  PassesOwn (model P w) (bodyX P w K mg base NT told (defScope st) f cdv A outer s H E).A (bodyX P w K mg base NT told (defScope st) f cdv A outer s H E).env (bodyX P w K mg base NT told (defScope st) f cdv A outer s H E).xe →
  MadeG (bodyX P w K mg base NT told (defScope st) f cdv A outer s H E) ⟨K,C,HW,Z,H,E⟩→DeedAt (bodyX P w K mg base NT told (defScope st) f cdv A outer s H E) ⟨K,C,HW,Z,H,E⟩ k 0 dn fl rf →
  ∀ W,GL (bodyX P w K mg base NT told (defScope st) f cdv A outer s H E) ⟨K,C,HW,Z,H,E⟩ W (startS NT.length [.ptr fl]) (defBody st) JU (lt W)
theorem bw {told dn:Str}{st:Stmt}{NT fr:List Str}{lt:Wd→LW Unit}{lpos:Pos}(i:Nat)(bg:BG X G (k+2))(lx:LamX X G.K G.C i)(FT:Fd G.K X.mg told [dn] st)(scT:FnScope NT [dn] (defScope st))(hN0:NT[0]?=some dn)(hg:Gl X told)
  (cap:Cap X S scope fr ds) (sc:LamSc scope params body (X.env.qual ++ "<lambda>"))
  (hb:LamB X.prog X.w X.K X.mg X.base G.C k fr (X.env.qual ++ "<lambda>") scope body ds rf) (hT:ToldB X.prog X.w X.K X.mg X.base G.C (k+1) NT told dn st rf lt)
  (hcl:closureFor scope X.env=pure (closOf X.env.cells fr):=by rfl) (hall:fr.all (fun x=>(X.env.cells.lookup x).isSome)=true:=by rfl) (hfr:scope.names.all (fun p=>p.2 != .free||fr.contains p.1)=true:=by rfl)
  (hdef:defaultsOf params X.env=([],[]):=by rfl) (hdb:(told==("__debug__":Str))=false:=by decide) (hdd:(dn==("__debug__":Str))=false:=by decide) (hdc:(dn==("__classdict__":Str))=false:=by decide)
  (he:starEach [.Lambda params body scope lpos] X.env=(false,eval (.Lambda params body scope lpos) X.env)::starEach [] X.env:=by rfl) (hpl:(backTo pos (starEach [] X.env)).any (·.1)=false:=by rfl) :
  GE X G W S (.Call (.Name told p) [.Lambda params body scope lpos] [] pos) (outW (lt W)):=by
 have hK:=bg.K
 obtain⟨a,fd,F,hm,hbd⟩:=FT.ex
 obtain⟨oc,od,kV,doc,pm,an,cdv,ct,osl,rfl,lk,hcd⟩:=F.ex
 intro pins s ρ H Q I ⟨HW,Z,ok,w⟩
 refine wpAny_Call_Name_kw (cX I hg hm ?_ hdb)
 refine PySem.W.callWith_K (h₀:=X.base) I.ok.mod.kin (by rw[hK];exact F.kp) (thn (bi (ul (G:=G) (W:=W) (S:=S) (body:=body) (lpos:=lpos) i hK lx hcl hdef) b7 he pos pins s ρ H
  (fun vs H1=>∃ f c ctv oc ws t pm HW1,vs=[.ref f]∧GX HW Z H HW1 Z H1∧WdOk G.K G.C HW1 Z W∧H1 f=some (.frz (PySem.W.kla_obj "<lambda>" (X.env.qual ++ "<lambda>") params body scope (closOf X.env.cells fr) pm c ctv) (.own 0))∧H1 c=some (.frz oc (.own 0))∧oc.data=.fields ws∧ws[1]?=some (.str (X.env.qual ++ "<lambda>") t)) I
  ⟨HW,Z,ok,fun f c ctv oc ws t pm H1 HW1 gx wd a1 a2 a3 a4=>⟨f,c,ctv,oc,ws,t,pm,HW1,rfl,gx,wd,a1,a2,a3,a4⟩⟩) fun us s1 ⟨vs1,H1,I1,r1,q1⟩=>⟨I1.kIn,?_⟩) he hpl
 obtain⟨f,c,ctv,oc',ws,t,pm',HW1,rfl,gx,wd,a1,a2,a3,a4⟩:=q1
 have ok1:GOk G W HW1 Z H1 S ρ:=ok.more gx wd
 obtain⟨vs,rs,hl,kk⟩:=Cap.vals ok1 I1 cap
 have memfr:∀ x,scope.names.lookup x=some .free→x∈fr:=fun x e=>by
  have m:=List.all_eq_true.mp hfr _ (PySem.mem_of_lookup e)
  simpa using m
 have L:Lam s1.heap H1 (X.env.qual ++ "<lambda>") params scope body fr f vs:=by
  refine⟨pm',c,ctv,closOf X.env.cells fr,oc',ws,t,a1,a2,a3,a4,fun x y b e1 e2=>I1.ok.inj x y b (d0 hall e1) (d0 hall e2),fun x b e=>?_,fun x e=>g7 (memfr x e),fun j x v e1 e2=>?_⟩
  ·have e':=d0 hall e
   exact⟨I1.cell x b e',I1.freeC x b e'⟩
  ·obtain⟨z,u,b,r,e,q⟩:=kk j x v e1 e2
   exact⟨z,u,b,r,qd hall (memfr x z) e,q⟩
 obtain⟨u,rfl,ru⟩:=r1.one
 have r':Vals [.ref f] [u]:=.cons ru .nil
 have hlen:([u]++([]:List Value)).length=[dn].length:=rfl
 have hbind:=(hbd s1 [u] (hK ▸ I1.kIn) hlen)
 have hWR:WRW G.K G.C G.E HW1 Z H1 (fun _ d _ Z' H'=>∀ v,Rep G.K G.C Z' d v→Q v H') (outW (lt W)):=w.more gx
 have bT:BG (bodyX X.prog X.w X.K X.mg X.base NT told (defScope st) a cdv X.A X.stack s1 H1 G.E) ⟨X.K,G.C,HW1,Z,H1,G.E⟩ (k+1):=⟨bg.room.deeper _,rfl,rfl,cY⟩
 have hrun:=u7 (CX:=CXE X.prog X.w) (P:=X.prog) (w:=X.w) (K:=X.K) (mg:=X.mg) (base:=X.base) (k:=k+1) (A:=X.A) (outer:=X.stack) (s:=s1) (H:=H1) (args:=⟨[u],[]⟩) (us:=[u]) (vs:=[.ref f]) (Q:=Q) (E:=G.E)
  (by rw[hK];exact lk) (by rw[hK];exact hcd) scT rfl bg.room.w I1.env0 (by simpa using hbind) r'
  (hT a cdv X.A X.stack s1 HW1 Z H1 G.E f bT PassesOwn.leaving (fun F' e' pins σ H1 s1 h1 ea C1 args I hx hE=>eS I hx (by rw[e']at hE;exact hE))
   (fun pn xe E' p pos W S b hS=>rT 0 b rfl L sc (by show Reps X.K _ _ _ _;rw[hK];exact rs) hl hS hb hN0 ((scT.par dn (by simp)).imp id .inl) hdd hdc) W)
  ⟨HW1,Z,GOk.start (N:=NT) ok1.zh ok1.wh ok1.gx.dj (by rw[hK];exact wd) (Reps.cons (by rw[Rep]) Reps.nil),WGL.start (G:=⟨X.K,G.C,HW1,Z,H1,G.E⟩) (by rw[hK];exact hWR)⟩
 refine wpAny_call (codeAny_mono hrun fun r s' hq=>?_)
 cases r with
 | error e=>exact bg.pass pins ρ H1 s1 e s' I1 hq
 | ok fl =>
  cases fl with
  | ret u=>exact I1.after hq
  | next=>exact False.elim hq
  | brk=>exact False.elim hq
  | cont=>exact False.elim hq
end
structure HX (X:Cx)(F:Fx)(k:Nat):Prop where
 room:RoomH k X.A
 K:X.K=F.K
theorem n3 {X:Cx}{k:Nat}(hr:RoomH k X.A):MtR X "list.count" (rCountB X.K):=by
 intro pins s σ H x vs v us Q I rx rv h
 obtain⟨l,bs,k,rfl,rfl,hH,q⟩:=h
 cases rx
 obtain⟨u,rfl,ru⟩:=rv.one
 cases ru
 obtain⟨its,r,⟨⟨c2,d2,dt2,sl2⟩,n2,e2,p2,p3,p4⟩,z2⟩:=I.list hH
 have e:=bn r
 subst e
 simp only at p2 p3 p4
 subst p2 p3 p4
 refine call_meets F.slot_list_count ⟨_,e2,rfl⟩ F.entry_list_count (F.args_list_count_2 _ _) (SeqAt.list_countAt l _ n2 _ _ (.bool k) (isB k)) ⟨e2,fun y hy=>?_,?_⟩
 ·have hy':y∈bs.map Value.bool:=by simpa using hy
  obtain⟨b,_,rfl⟩:=List.mem_map.mp hy'
  exact ci I (by have:=hr.un;show X.A.units+1 < cLine;omega) b k
 ·have hc:((bs.map Value.bool).toArray.toList.countP (isB k))=bs.countP (· == k):=by
   show (bs.map Value.bool).countP (isB k)=_
   rw[List.countP_map]
   rfl
  rw[hc]
  exact⟨.int _,H,I.tok _,⟨_,rfl⟩,q⟩
theorem n4 {X:Cx}{k:Nat}(hr:RoomH k X.A):MtR X "list.index" (rIndexB X.K):=by
 intro pins s σ H x vs v us Q I rx rv h
 obtain⟨l,bs,k,rfl,rfl,hH,hj,q⟩:=h
 cases rx
 obtain⟨u,rfl,ru⟩:=rv.one
 cases ru
 obtain⟨its,r,⟨⟨c2,d2,dt2,sl2⟩,n2,e2,p2,p3,p4⟩,z2⟩:=I.list hH
 have e:=bn r
 subst e
 simp only at p2 p3 p4
 subst p2 p3 p4
 rw[List.length_map,sizeLine_eq]at z2
 have hsz:bs.idxOf k < (bs.map Value.bool).toArray.size:=by rw[List.size_toArray,List.length_map];exact hj
 have hat:∀ m (hm:m < (bs.map Value.bool).toArray.size) (hm':m < bs.length),isB k (bs.map Value.bool).toArray[m]=(bs[m]==k):=fun m hm hm'=>by simp[isB]
 refine call_meets F.slot_list_index ⟨_,e2,rfl⟩ F.entry_list_index (F.args_list_index_2 _ _) (SeqAt.list_indexAt l _ n2 _ _ (.bool k) (isB k) (bs.idxOf k) hsz (by omega) ?_ ?_) ⟨e2,fun y hy=>?_,⟨.int _,H,I.tok _,⟨_,rfl⟩,q⟩⟩
 ·rw[hat _ _ hj]
  exact List.findIdx_getElem (w:=hj)
 ·intro m hm hlt
  have hm':m < bs.length:=by omega
  rw[hat _ _ hm']
  exact Bool.eq_false_iff.mpr (by simpa using List.not_of_lt_findIdx hlt)
 ·have hy':y∈bs.map Value.bool:=by simpa using hy
  obtain⟨b,_,rfl⟩:=List.mem_map.mp hy'
  exact ci I (by have:=hr.un;show X.A.units+1 < cLine;omega) b k
section
variable {X:Cx}{F:Fx}{o e a b:Expr}{g ga gb:SS→R D}{gs:SS→R (List D)}{apos cpos p pos:Pos}{ec:Expr}{k:Nat}{y:V}{q:D→Option Bool}
theorem n5 (bx:HX X F k)(ho:FE X F o g)(ha:FA X F [e] gs)
  (hbase:attributeBase o "count" X.env (eval o X.env)=eval o X.env:=by rfl)
  (hfew:((backTo cpos (starEach [e] X.env)).all (fun x=>!x.1)&&(backToKw cpos (keywordEach [] X.env)).all (fun x=>x.1.isSome)
   && decide ([e].length+([]:List Keyword).length+(if ([]:List Keyword).isEmpty then 0 else 1) < 30))=true:=by rfl)
  (hline:(apos.endLine==cpos.line)=true:=by rfl) (hs:starEach [e] X.env=(false,eval e X.env)::starEach [] X.env:=by rfl) (hplain:(backTo cpos (starEach [] X.env)).any (·.1)=false:=by rfl) :
  FE X F (.Call (.Attribute o "count" apos) [e] [] cpos) (eMethL dCount g gs) :=
 (fC PySem.F.plainAttrs_list PySem.F.slot_list_count (by kernel_rfl) (n3 bx.room) ho ha hbase hfew hline hs hplain).weak (by rw[bx.K];exact da fF)
theorem lr (bx:HX X F k)(ho:FE X F o g)(ha:FA X F [e] gs)
  (hbase:attributeBase o "index" X.env (eval o X.env)=eval o X.env:=by rfl)
  (hfew:((backTo cpos (starEach [e] X.env)).all (fun x=>!x.1)&&(backToKw cpos (keywordEach [] X.env)).all (fun x=>x.1.isSome)
   && decide ([e].length+([]:List Keyword).length+(if ([]:List Keyword).isEmpty then 0 else 1) < 30))=true:=by rfl)
  (hline:(apos.endLine==cpos.line)=true:=by rfl) (hs:starEach [e] X.env=(false,eval e X.env)::starEach [] X.env:=by rfl) (hplain:(backTo cpos (starEach [] X.env)).any (·.1)=false:=by rfl) :
  FE X F (.Call (.Attribute o "index" apos) [e] [] cpos) (eMethL dIndex g gs) :=
 (fC PySem.F.plainAttrs_list PySem.F.slot_list_index (by kernel_rfl) (n4 bx.room) ho ha hbase hfew hline hs hplain).weak (by rw[bx.K];exact da fG)
theorem rV (bx:HX X F k)(hq:IsA F.K F.C y q):∀ σ H Q,tE F (eIs q g) σ H Q→tCB (fun xs H Q=>∃ (Z:Hp) (d:D) (x y:V) (b:Bool),xs=[x,y]∧Same Z H∧Rep X.K F.C Z d x∧((∃ n,y=.ty n)∨∃ a,y=.ref a) ∧
  PySem.W.kitOne X.K (tyD F.C d) (cV y)=some b∧(∀ j,d=.exc j→ExcK X.K (F.C j))∧(∀ j,d≠.fn j)∧isDct d=false∧Q (.bl b) H) (tCons (tE F g) (tCons (tC y) tNil)) σ H Q:=fun σ H Q ⟨Z,S,ok,w⟩ =>
 aB ok w fun d v H1 Z1 ok1 x1 rv w1=>by
  cases e:q d with
  | none=>unfold dIsA at w1;rw[e]at w1;exact w1.elim
  | some b =>
   unfold dIsA at w1
   rw[e]at w1
   refine⟨Z1,d,v,y,b,rfl,ok1.sub,by rw[bx.K];exact rv,hq.one,by rw[bx.K];exact hq.ans d b e,fun j ej=>?_,fun j ej=>(by rw[ej,hq.fn j]at e;cases e),(by cases hd:isDct d with | false=>rfl | true=>rw[hq.dct d hd]at e;cases e),WG.now (a:=D.bl b) w1 ok1.sub _ aU⟩
   subst ej
   rw[bx.K]
   exact hq.exc j b e
theorem aG (bx:HX X F k)(hg:Gl X "isinstance")(hm:X.mg "isinstance"=none)(hq:IsA F.K F.C y q)(ha:FE X F e g)(hc:PE X ec (tC y))(he:starEach [e,ec] X.env=(false,eval e X.env)::starEach [ec] X.env:=by rfl)
  (he2:starEach [ec] X.env=(false,eval ec X.env)::starEach [] X.env:=by rfl) (hpl:(backTo pos (starEach [ec] X.env)).any (·.1)=false:=by rfl) :
  FE X F (.Call (.Name "isinstance" p) [e,ec] [] pos) (eIs q g) :=
 (cE (id := "isinstance") fE hg hm (by decide +kernel) (bi ha (bi hc b7 he2) he) (he:=he) (hpl:=hpl)).weak (rV bx hq)
theorem um (hK:X.K=F.K)(hr:RoomH k X.A):OpR X (compareOp .NotEq) (rNf F.K F.C):=by
 intro pins s σ H x y v u Q I rx ry h
 obtain⟨Z,d,e,z,h1,h2,g1,g2,q⟩:=h
 have hu:X.A.units+60 < cLine:=by have:=hr.un;omega
 exact mi hK I z 60 X.A d e x y v u g1 g2 h1 h2 rx ry hu X.prog X.w X.xe _ ⟨.bl (!eqD d e),H,I,rfl,q⟩
theorem uo (bx:HX X F k)(ha:FE X F a ga)(hb:FE X F b gb):FT X F (.Compare a [.NotEq] [b] pos) (gB (eOp dNf ga gb)):=dk (um bx.K bx.room) kZ ha hb
end
structure FnHd (P:Program)(w:World)(K:PySem.W.Frag)(mg:Str→Option Value)(base:Heap)(C:Nat→Addr)(k:Nat)(x:Str)(ps:List Str)(f:List D→R D):Prop where
 ex:∃ a fd,(∀ (A:Around) (outer:List Env) (s:Shared) (H:Hp) (args:Args) (us:List Value) (vs:List V) (Q:VK),RoomH k A→Env0 P w K mg base A outer s H→BindsTo s fd args (ps.zip us)→Vals vs us→spF K C ps.length f vs H Q E0 →
  codeAny (model P w) A (.call (.ref a) args) (CR CX0 outer P w H s Q E0) s)∧mg x=some (.ref a)∧PySem.W.keepIn K (.ref a)=true∧Binds K fd ps []
def OkHB (P:Program)(w:World)(K:PySem.W.Frag)(mg:Str→Option Value)(base:Heap)(C:Nat→Addr)(k:Nat)(N:List Str)(x:Str)(st:Stmt)(ds:List D)(l:L Unit):Prop :=
 ∀ (f:Addr) (cdv:Value) (A:Around) (outer:List Env) (s:Shared) (H Z:Hp),HX (cxOfH CX0 P w K mg base N x (defScope st) f cdv A outer s H E0) ⟨K,C,H,Z,E0⟩ k →
  FL (cxOfH CX0 P w K mg base N x (defScope st) f cdv A outer s H E0) ⟨K,C,H,Z,E0⟩ (startS N.length ds) (defBody st) JU l
section
variable {P:Program}{w:World}{K:PySem.W.Frag}{mg:Str→Option Value}{base:Heap}{C:Nat→Addr}{k:Nat}{N:List Str}{x p:Str}{st:Stmt}
theorem uq (F:Fd K mg x [p] st):FnHd P w K mg base C 0 x [p] (fun _=>.stuck):=by
 obtain⟨a,fd,F,h,b⟩:=F.ex
 exact⟨a,fd,fun A outer s H args us vs Q _ _ _ _ z=>by obtain⟨_,_,_,_,_,z⟩:=z;exact z.elim,h,F.kp,b⟩
theorem lu {c:D→L Unit}(F:Fd K mg x [p] st)(S:FnScope N [p] (defScope st))(h:∀ a,OkHB P w K mg base C k N x st [a] (c a)):FnHd P w K mg base C (k+1) x [p] (a1 c):=by
 obtain⟨a,fd,F,hm,b⟩:=F.ex
 obtain⟨oc,od,kV,doc,pm,an,cdv,ct,osl,rfl,lk,hcd⟩:=F.ex
 refine⟨a,_,fun A outer s H args us vs Q hr e0 hb r hsp=>?_,hm,F.kp,b⟩
 obtain⟨hl,Z,ds,z,rs,wr⟩:=hsp
 obtain⟨d,rfl⟩:=len1 (ds:=ds) (by rw[rs.length];exact hl)
 refine uj (k:=k) lk hcd S hl hr e0 hb r (h d a cdv A outer s H Z ⟨hr.deeper _,rfl⟩) ⟨Z,dP (F:=⟨K,C,H,Z,E0⟩) (N:=N) z rs,?_⟩
 have wr:WG ⟨K,C,H,Z,E0⟩ H Z (outL (c d)) fun d H' Z'=>∀ v,Rep K C Z' d v→Q v H':=wr
 cases q:c d with
 | nx u=>rw[q]at wr;exact fun S' ρ' H' Z' _ _ ok=>wr H' Z' ok.ex .non (by rw[Rep])
 | rt d=>rw[q]at wr;exact fun v H' Z' x rv=>wr H' Z' x v rv
 | er k=>rw[q]at wr;exact wr
 | stuck=>rw[q]at wr;exact wr
end
def tCallH (K:PySem.W.Frag)(C:Nat→Addr)(f:List D→R D)(te:TE):TE:=fun σ H Q=>te σ H fun v H1=>spF K C 1 f [v] H1 Q E0
theorem qf {X:Cx}{C:Nat→Addr}{k:Nat}{x y:Str}{f:List D→R D}{e:Expr}{te:TE}{p pos:Pos}(h:FnHd X.prog X.w X.K X.mg X.base C k x [y] f)(hr:RoomH k X.A)(hg:Gl X x)(ha:PE X e te)
  (hdb:(x==("__debug__":Str))=false) (he:starEach [e] X.env=(false,eval e X.env)::starEach [] X.env) (hpl:(backTo pos (starEach [] X.env)).any (·.1)=false):PE X (.Call (.Name x p) [e] [] pos) (tCallH X.K C f te):=by
 obtain⟨a,fd,h1,h2,h3,h4⟩:=h.ex
 intro pins s σ H Q I hq
 refine wpAny_Call_Name_kw (cX I hg h2 ?_ hdb)
 refine PySem.W.callWith_K (h₀:=X.base) I.ok.mod.kin h3 (thn (bi ha b7 he pos pins s σ H (fun vs H1=>∃ v,vs=[v]∧spF X.K C 1 f [v] H1 Q E0) I (by
  refine(show te σ H _ from ?_)
  exact cast (congrArg (te σ H) (by funext v H1;exact propext ⟨fun z=>⟨v,rfl,z⟩,fun ⟨v',e1,z⟩=>by cases e1;exact z⟩)) hq)) fun us s1 ⟨vs,H1,I1,r,q⟩=>⟨I1.kIn,?_⟩) he hpl
 obtain⟨v,rfl,q⟩:=q
 have hlen:(us++([]:List Value)).length=[y].length:=by rw[List.append_nil,← r.length];rfl
 have hb:=h4 s1 us I1.kIn hlen
 rw[List.append_nil]at hb
 refine wpAny_call (codeAny_mono (h1 X.A X.stack s1 H1 ⟨us,[]⟩ us [v] Q hr I1.env0 hb r q) fun r s' hq=>?_)
 cases r with
 | error e=>exact False.elim hq
 | ok fl =>
  cases fl with
  | ret u=>exact I1.after hq
  | next=>exact False.elim hq
  | brk=>exact False.elim hq
  | cont=>exact False.elim hq
theorem qh {Z H:Hp}{a:Addr}{o:HO}(h:Same Z H):Same (upd Z a o) (upd H a o):=fun b u e=>by
 by_cases z:b=a
 ·subst z;rw[ao]at e ⊢;exact e
 ·rw[ai z]at e ⊢;exact h b u e
section
variable {X:Cx}{body:List Stmt}{c n cl yp:Str}{np np2 cp rp apos hpos pos:Pos}{fh:List D→R D}{k:Nat}{q:Nat→Bool}{C0:Addr}{C:Nat→Addr}{tb:XK→TS}
def tTryR (K:PySem.W.Frag)(C:Nat→Addr)(q:Nat→Bool)(fh:List D→R D)(tb:XK→TS):TS:=fun D σ H=>∃ E':XK,(∀ cls x H',E' cls x H'→∃ k Z',cls=.ref (C k)∧q k=true∧Same Z' H'∧∀ ea,H' ea=none →
 WG ⟨K,C,upd H' ea (excO C k ea),upd Z' ea (excO C k ea),E0⟩ (upd H' ea (excO C k ea)) (upd Z' ea (excO C k ea)) (fh [.exc k]) fun d H2 Z2=>∀ v,Rep K C Z2 d v→D.rt v H2)∧tb E' D σ H
theorem rW (i:Nat)(hr:RoomH k X.A)(hcf:FnHd X.prog X.w X.K X.mg X.base C k cl [yp] fh)(hgc:Gl X cl)(hst:X.stack=X.env::X.outer)(hfm:X.env.frame=some X.env.locals)(hex:X.ex=[])(hN:X.N.Nodup)(hg:Gl X c)(hm:X.mg c=some (.ref C0))(T:Takes X.K C C0 q)
  (hb:∀ pn xe E',Passes (CXE X.prog X.w) (tryX X pn xe) E'→PSs (tryX X pn xe) body (tb E'))
  (hi:X.N[i]?=some n:=by rfl) (hn:X.env.scope.names.lookup n=some .local:=by rfl) (hkn:X.env.kindOf n=some .local:=by rfl)
  (he:starEach [.Name n np2] X.env=(false,eval (.Name n np2) X.env)::starEach [] X.env:=by rfl) (hpl:(backTo apos (starEach [] X.env)).any (·.1)=false:=by rfl) (hdl:(cl==("__debug__":Str))=false:=by decide) (hdc:(c==("__debug__":Str))=false:=by decide) (hdn:(n==("__debug__":Str))=false:=by decide) (hcd:(n==("__classdict__":Str))=false:=by decide) :
  PS X (.Try body [.ExceptHandler (some (.Name c np)) (some n) [.Return (some (.Call (.Name cl cp) [.Name n np2] [] apos)) rp] hpos] [] [] pos) (tTryR X.K C q fh tb):=by
 intro pins s σ H D I h
 obtain⟨E',hE',w⟩:=h
 refine wpAny_Try_except ?_
 have hil:i < X.N.length:=(List.getElem?_eq_some_iff.mp hi).1
 let txe:Value→Shared→Prop:=fun e s₁=>wpAny (model X.prog X.w) X.A (noteFrame e X.env) (fun _ s₂=>wpAny (model X.prog X.w) X.A (setFlight e none) (fun _ s₃=>wpAny (model X.prog X.w) X.A (handleBy e X.env [.ExceptHandler (some (.Name c np)) (some n) [.Return (some (.Call (.Name cl cp) [.Name n np2] [] apos)) rp] hpos]) (SP X pins D) X.xe s₃) X.xe s₂) X.xe s₁
 have back:∀ {pl:List (Addr×Obj)} {σ':St} {H':Hp} {s':Shared},Inv (tryX X (X.pn++pins) txe) pl σ' H' s'→Inv X pins σ' H' s':=fun J=>gP (X:=tryX X (X.pn++pins) txe) J rfl I.ok.hd fun p hp=>List.mem_append_left _ hp
 have ps:Passes (CXE X.prog X.w) (tryX X (X.pn++pins) txe) E':=by
  intro pl σ1 H1 s1 e s2 I1 hx
  obtain⟨ea,Ce,t,H2,B,rfl,os,bare,un,hok,fl,hn2,cov,hE⟩:=hx
  obtain⟨k',Z',hC,hk,zs,w1⟩:=hE' _ _ _ hE
  have J:Inv (tryX X (X.pn++pins) txe) pl σ1 H2 s2:=I1.call' (ch:=[]) os un hok bare (fun b z=>nomatch z)
  obtain⟨oe0,ws0,ge0,_,gd0,_⟩:=fl.first
  obtain⟨mL1,nL1,_⟩:=I1.loc
  obtain⟨oL1,_,_,hoL1,_⟩:=id nL1
  have hnf:ea∉frs X.stack:=fun z=>by
   rcases List.mem_cons.mp (J.stkSub ea z) with z1 | z1
   ·obtain⟨mL,nL,_⟩:=J.loc
    obtain⟨oL,es,ep,hoL,hdL,_⟩:=nL
    have hoL':s2.heap.get? ea=some oL:=by rw[z1];exact hoL
    rw[ge0]at hoL'
    cases hoL'
    rw[hdL]at gd0
    cases gd0
   ·obtain⟨_,o',e',d⟩:=J.funs.mem z1
    rw[ge0]at e'
    cases e'
    exact d _ gd0
  have hnew:∀ o,s1.heap.get? ea≠some o:=fun o z=>by
   have:=cov ea oe0 ge0 (.inr ⟨o,z⟩) hnf
   rw[fl.2.1]at this
   cases this
  have h0:X.s₀.heap.get? ea=none:=by
   cases z:X.s₀.heap.get? ea with
   | none=>rfl
   | some o =>
    obtain⟨o',z'⟩:=I1.base.there ea o z (by show ea∉X.ex;rw[hex];exact fun q=>nomatch q)
    exact absurd z' (hnew o')
  have hnl:ea≠X.env.locals:=fun z=>hnew oL1 (by rw[z];exact hoL1)
  obtain⟨hp2,g2,d2,t2,os2⟩:=s2
  have fl':=fl
  rw[show (tryX X (X.pn++pins) txe).stack=X.env::X.outer from hst]at fl'
  show txe (.ref ea) _
  refine wpAny_looks_onW (I.ok.frames.trans (by rw[hst])) hfm fl' fun h4 held4 up4=>?_
  refine wpAny_landsW held4 fun h5 fl5 up5=>?_
  have fly:∀ {h6:Heap},B.StaysIn h6→hp2.UpToSlots h6→Inv (tryX X (X.pn++pins) txe) pl σ1 H2 ⟨h6,g2,d2,t2,os2⟩:=fun {h6} a b=>qY J ⟨σ1,H1,pl,I1⟩ (fun p hp=>⟨_,(I1.pin p hp).1⟩) (fun o _=>⟨oL1,hoL1⟩) cov a b
  have J5:=fly fl5.1 (up4.trans up5)
  let Xm:Cx:={ tryX X (X.pn++pins) txe with A:=X.A.mark (some (.ref ea)),calm:=false,pn:=X.pn++pins,xe:=fun _ _=>False }
  have J5m:Inv Xm pl σ1 H2 ⟨h5,g2,d2,t2,os2⟩:=gP J5 rfl (fun z=>nomatch z) fun p hp=>hp
  refine wpAny_handleBy_cons (codeAny_handlers_test (cX (X:=Xm) J5m hg hm ?_ hdc)) (by intro z;cases z)
  obtain⟨ob,hob,hobc⟩:=fl5.there
  refine j0 T (J5.kIn) hob (hobc.trans hC) hk ?_
  refine codeAny_handlers_suite_as ?_
  refine lands_againW fl5 fun h6 fl6 up6=>?_
  have J6:=fly fl6.1 ((up4.trans up5).trans up6)
  obtain⟨oe,ws,hoe,hoec,hoed,_⟩:=fl6.first
  have J7:=nj J6 (a:=ea) (o:=excO C k' ea) hn2 h0 hnl (fun x c' e z=>by
    obtain⟨v,o,ho,_⟩:=I1.cell x c' e
    exact hnew o (by rw[← z];exact ho)) (fun p hp z=>hnew p.2 (by rw[← z];exact(I1.pin p hp).1)) ⟨⟨oe,hoe,hoec.trans hC,ws,hoed⟩,⟨oe,hoe⟩,fun h1 h2 ⟨o,a1,a2,a3⟩ kk=>⟨o,kk o a1,a2,a3⟩⟩
  have J7m:Inv Xm pl σ1 (upd H2 ea (excO C k' ea)) ⟨h6,g2,d2,t2,os2⟩:=gP J7 rfl (fun z=>nomatch z) fun p hp=>hp
  have hl1:σ1.length=X.N.length:=I1.len
  refine dG (X:=Xm) (v:=.ref ea) J7m hN hi (.inl hn) rfl (fun s8 I8=>?_) (.inr hn)
  have st:=fY (kG (X:=Xm) (pos:=rp) (qf (X:=Xm) (p:=cp) (pos:=apos) hcf ⟨hr.dp,hr.un⟩ hgc (bQ (X:=Xm) (pos:=np2) hi (.inl hn) hdn hcd) hdl he hpl))
  have w2:=w1 ea hn2
  refine wpAny_mono (st pl s8 _ _ ⟨fun _ _=>False,D.rt,fun _ _=>False,fun _ _=>False⟩ I8 ⟨.ref ea,by rw[List.getElem?_set_self (by rw[hl1];exact hil)],rfl,_,_,qh zs,Reps.cons (by rw[Rep];exact⟨ea,rfl,ao⟩) Reps.nil,w2⟩) (fun f s9 h9=>?_) fun _ _ z=>z.elim
  cases f with
  | ret u =>
   obtain⟨v9,σ9,H9,I9,rv9,q9⟩:=h9
   show wpAny (model X.prog X.w) X.A (do bindName X.env n .none;unbindBehindTheSuite X.env n hpos) _ X.xe s9
   have hl9:σ9.length=X.N.length:=I9.len
   refine wpAny_bind (wpAny_bindName (dG (X:=Xm) (v:=.non) I9 hN hi (.inl hn) rfl (fun s10 I10=>?_) (.inr hn)))
   unfold unbindBehindTheSuite
   refine wpAny_onRaise (nk (X:=Xm) (v:=.non) I10 hN hi hkn hn (by rw[List.getElem?_set_self (by rw[hl9];exact hil)]) fun s11 I11=>?_)
   have IX:Inv X pins _ _ s11:=gP (X:=Xm) I11 rfl I.ok.hd fun p hp=>List.mem_append_left _ hp
   exact⟨v9,_,_,IX,rv9,q9⟩
  | _=>first | (obtain⟨_,_,_,z⟩:=h9;exact z.elim) | (obtain⟨_,_,_,_,_,z⟩:=h9;exact z.elim)
 have run:=hb (X.pn++pins) txe E' ps [] s σ H D (gP I rfl I.ok.hd (by simp)) w
 refine wpAny_mono run (fun f s1 h1=>?_) fun _ _ x=>x
 cases f with
 | next =>
  obtain⟨σ',H',I',d'⟩:=h1
  exact wpAny_execs_nil ⟨σ',H',back I',d'⟩
 | brk =>
  obtain⟨σ',H',I',d'⟩:=h1
  exact⟨σ',H',back I',d'⟩
 | cont =>
  obtain⟨σ',H',I',d'⟩:=h1
  exact⟨σ',H',back I',d'⟩
 | ret u =>
  obtain⟨v,σ',H',I',r,d'⟩:=h1
  exact⟨v,σ',H',back I',r,d'⟩
end
def lwTryR {σ:Type}(q:Nat→Bool)(fh:List D→R D):LW Unit→LW σ
 | .nx _ _=>.stuck
 | .rt w d=>.rt w d
 | .er w e=>if q e=true then (match fh [.exc e] with | .ok d=>.rt w d | _=>.stuck) else .stuck
 | .al w f=>.al w fun a=>lwTryR q fh (f a)
 | .stuck=>.stuck
section
variable {X:Cx}{G:Gx}{W:Wd}{S:SS}{σ:Type}{J:σ→SS→Prop}{body:List Stmt}{c n cl yp:Str}{np np2 cp rp apos hpos pos:Pos}{k:Nat}{q:Nat→Bool}{C0:Addr}{fh:List D→R D}
theorem rX (i:Nat){l:LW Unit}(bg:BG X G k)(hcf:FnHd X.prog X.w X.K X.mg X.base G.C k cl [yp] fh)(hgc:Gl X cl)(hst:X.stack=X.env::X.outer)(hfm:X.env.frame=some X.env.locals)(hex:X.ex=[])(hN:X.N.Nodup)(hg:Gl X c)(hm:X.mg c=some (.ref C0))(T:Takes G.K G.C C0 q)
  (hb:∀ pn xe E',BG (tryX X pn xe) { G with E:=E' } k→GL (tryX X pn xe) { G with E:=E' } W S body JU l)
  (hi:X.N[i]?=some n:=by rfl) (hn:X.env.scope.names.lookup n=some .local:=by rfl) (hkn:X.env.kindOf n=some .local:=by rfl)
  (he:starEach [.Name n np2] X.env=(false,eval (.Name n np2) X.env)::starEach [] X.env:=by rfl) (hpl:(backTo apos (starEach [] X.env)).any (·.1)=false:=by rfl) (hdl:(cl==("__debug__":Str))=false:=by decide)
  (hdc:(c==("__debug__":Str))=false:=by decide) (hdn:(n==("__debug__":Str))=false:=by decide) (hcd:(n==("__classdict__":Str))=false:=by decide) :
  GL X G W S [.Try body [.ExceptHandler (some (.Name c np)) (some n) [.Return (some (.Call (.Name cl cp) [.Name n np2] [] apos)) rp] hpos] [] [] pos] J (lwTryR q fh l):=by
 have hK:=bg.K
 have ht:=rW (X:=X) (C:=G.C) (q:=q) (np:=np) (np2:=np2) (cp:=cp) (rp:=rp) (apos:=apos) (hpos:=hpos) (pos:=pos) i ⟨by have:=bg.room.dp;omega,by have:=bg.room.un;omega⟩ hcf hgc hst hfm hex hN hg hm (by rw[hK];exact T) (tb:=fun E'=>tGL { G with E:=E' } W S JU l)
  (fun pn xe E' ps=>hb pn xe E' ⟨bg.room,bg.K,bg.calm,ps⟩) hi hn hkn he hpl hdl hdc hdn hcd
 refine(fY ht).weak fun D ρ H ⟨HW,Z,ok,w⟩=>?_
 let E':XK:=fun cls _ H'=>∃ e w' HW' Z' d,cls=.ref (G.C e)∧q e=true∧GX G.HW0 G.Z0 G.H0 HW' Z' H'∧WdOk G.K G.C HW' Z' w'∧fh [.exc e]=.ok d∧WGL G Z' J D (.rt w' d)
 refine⟨E',fun cls x H' ⟨e,w',HW',Z',d,e1,e2,e3,e4,e5,e6⟩=>⟨e,Z',e1,e2,e3.zh,fun ea hn=>?_⟩,HW,Z,⟨ok.gx,ok.wd,ok.nm.rebase ⟨jz,Same.refl _,ok.zh,fun _ q=>.inl q⟩ (fun _ _ _ _ h=>h)⟩,?_⟩
 ·rw[e5]
  intro H2 Z2 x2 v rv
  have x1:Ex H' Z' (upd H' ea (excO G.C e ea)) (upd Z' ea (excO G.C e ea)):=Ex.alloc e3.zh hn
  have g1:GX HW' Z' H' HW' (upd Z' ea (excO G.C e ea)) (upd H' ea (excO G.C e ea)):=GX.ex e3.zh e3.wh e3.dj x1
  have g2:GX HW' (upd Z' ea (excO G.C e ea)) (upd H' ea (excO G.C e ea)) HW' Z2 H2:=GX.ex g1.zh g1.wh g1.dj x2
  have gg:=(e3.trans g1).trans g2
  exact e6 v HW' Z2 H2 gg (e4.mono (Same.refl _) (x1.z.trans x2.z)) (by rw[← hK];exact rv)
 have key:∀ {l:LW Unit},WGL G Z J D (lwTryR q fh l)→WGL { G with E:=E' } Z JU D l:=fun {l}=>by
  induction l with
  | nx w s=>exact fun h=>h.elim
  | rt w d=>exact fun h=>h
  | er w e =>
   intro h HW' Z' H' zz gx wd
   unfold lwTryR at h
   by_cases hq:q e=true
   ·rw[if_pos hq]at h
    cases hf:fh [.exc e] with
    | ok d=>rw[hf]at h;exact⟨e,w,HW',Z',d,rfl,hq,gx,wd,hf,WGL.more zz h⟩
    | err k=>rw[hf]at h;exact h.elim
    | stuck=>rw[hf]at h;exact h.elim
   ·rw[if_neg hq]at h;exact h.elim
  | al w f ih=>exact fun h a e=>ih a (h a e)
  | stuck=>exact fun h=>h
 exact key w
end
section
variable {X:Cx}{G:Gx}{W:Wd}{S:SS}{σ:Type}{J:σ→SS→Prop}{e:Expr}{r:RW}{rest:List Stmt}{x:Str}{pos pos' lpos p0 apos cpos:Pos}
theorem rY (i:Nat){S':D→SS}{k:Wd→D→LW σ}(hN:X.N.Nodup)(h:GE X G W S e r)(hS:∀ d,S.set i (some (.own [d]))=S' d)(hk:∀ w d,GL X G w (S' d) rest J (k w d))(hi:X.N[i]?=some x:=by rfl)(hx:Loc X.env.scope x:=by first | exact Or.inl rfl | exact Or.inr rfl)
  (hs:swapsWith (.List [e] lpos) (some (.Name x pos')) pos.line X.env=pure false:=by rfl) (hf:X.fn x=true∨X.env.scope.names.lookup x=some .local:=by first | exact .inl rfl | exact .inr rfl)
  (he:starEach [e] X.env=(false,eval e X.env)::starEach [] X.env:=by rfl):GL X G W S (.Assign [.Name x pos'] (.List [e] lpos) pos::rest) J (lwB r k) :=
 (a9 (ji hN hi hx (kK (bi h b7 he)) hs hf) (bp fun w=>bp fun d=>hk w d)).weak fun D ρ H ⟨HW,Z,ok,w⟩ =>
  ⟨HW,Z,ok,WRW.gl (J:=J) (D:=D) (k:=k) ok (fun w1 d HW1 Z1 H1 v ok1 z1 rd wl=>⟨by show 1≤sizeLine;decide,fun p hp=>⟨w1,d,HW1,Z1,hS d ▸ ok1.after (ok1.nm.newOwn hp (Reps.cons rd Reps.nil)),wl⟩⟩) w⟩
theorem cq (i:Nat){ds:List D}{S':List D→SS}{k:Wd→List D→LW σ}(h0:S[i]?=some (some (.own ds)))(h:GE X G W S e r)(hS:∀ xs,S.set i (some (.own xs))=S' xs)(hk:∀ w xs,GL X G w (S' xs) rest J (k w xs))
  (hi:X.N[i]?=some x:=by rfl) (hv:Vis X.env.scope x:=by first | exact Or.inl rfl | exact Or.inr (Or.inl rfl) | exact Or.inr (Or.inr rfl)) (hd:(x==("__debug__":Str))=false:=by decide)
  (hcd:(x==("__classdict__":Str))=false:=by decide)
  (hbase:attributeBase (.Name x p0) "append" X.env (eval (.Name x p0) X.env)=eval (.Name x p0) X.env:=by rfl)
  (hfew:((backTo cpos (starEach [e] X.env)).all (fun x=>!x.1)&&(backToKw cpos (keywordEach [] X.env)).all (fun x=>x.1.isSome)
   && decide ([e].length+([]:List Keyword).length+(if ([]:List Keyword).isEmpty then 0 else 1) < 30))=true:=by rfl)
  (hline:(apos.endLine==cpos.line)=true:=by rfl) (hs:starEach [e] X.env=(false,eval e X.env)::starEach [] X.env:=by rfl) (hplain:(backTo cpos (starEach [] X.env)).any (·.1)=false:=by rfl)
  (hsw:swapsWith (.Call (.Attribute (.Name x p0) "append" apos) [e] [] cpos) none pos.line X.env=pure false:=by rfl) :
  GL X G W S (.Expr (.Call (.Attribute (.Name x p0) "append" apos) [e] [] cpos) pos::rest) J (lwB r fun w d=>lwR w (oApp ds d) fun xs=>k w xs) :=
 (a9 (fZ (fC PySem.F.plainAttrs_list PySem.F.slot_list_append (by kernel_rfl) (eO (X:=X)) (bQ hi hv hd hcd) (bi h b7 hs) hbase hfew hline hs hplain) hsw) (bp fun w=>bp fun xs=>hk w xs)).weak fun D ρ H ⟨HW,Z,ok,w⟩=>by
  obtain⟨a,vs,e1,e2,_⟩:=ok.nm.own i ds h0
  refine⟨.ref a,e1,.inl ⟨rfl,vs,SqL.of e2⟩,HW,Z,ok,WRW.gl (J:=J) (D:=D) (k:=fun w d=>lwR w (oApp ds d) fun xs=>k w xs) ok (fun w1 d HW1 Z1 H1 v ok1 z1 rd wl=>?_) w⟩
  obtain⟨a1,vs1,e1',e2',_,_,r1⟩:=ok1.nm.own i ds h0
  rw[e1]at e1';cases e1'
  unfold oApp at wl
  by_cases hl:ds.length < 16777216
  ·rw[if_pos hl]at wl
   exact⟨a,vs1,v,rfl,rfl,e2',by rw[← r1.length,sizeLine_eq];exact hl,w1,_,HW1,Z1,hS _ ▸ ok1.after (ok1.nm.write h0 e1 (r1.append (Reps.cons rd Reps.nil))),wl⟩
  ·rw[if_neg hl]at wl;exact wl.elim
end
structure LamK (K:PySem.W.Frag)(C:Nat→Addr)(i:Nat):Prop where
 lt:i < C 900
 inj:∀ j,j < C 900→C (901+2*j)=C (901+2*i)→j=i
 cd:∃ c oc od fd sl,K.lookup (C (902+2*i))=some ⟨oc,od,.func fd,sl⟩∧fd.code=.ref c∧CodeK K c (C (901+2*i))
def OkGL (P:Program)(w:World)(K:PySem.W.Frag)(mg:Str→Option Value)(base:Heap)(C:Nat→Addr)(k i:Nat)(x:Str)(st:Stmt)(ps:List Str)(fn:Wd→List D→RW):Prop :=
 ∀ {f:Addr} {fd:FuncData},Fun K x x st f fd→f=C (902+2*i)→LamK K C i→BMn mg base→FnOk P w K mg base (CXE P w) (k+1) f fd ps (spG K C ps.length fn)
def OkGBL (P:Program)(w:World)(K:PySem.W.Frag)(mg:Str→Option Value)(base:Heap)(C:Nat→Addr)(k i:Nat)(N:List Str)(x:Str)(st:Stmt)(W:Wd)(ds:List D)(l:LW Unit):Prop :=
 ∀ (f:Addr) (cdv:Value) (A:Around) (outer:List Env) (s:Shared) (HW Z H:Hp) (E:XK),BG (bodyX P w K mg base N x (defScope st) f cdv A outer s H E) ⟨K,C,HW,Z,H,E⟩ k →
  PassesOwn (model P w) (bodyX P w K mg base N x (defScope st) f cdv A outer s H E).A (bodyX P w K mg base N x (defScope st) f cdv A outer s H E).env (bodyX P w K mg base N x (defScope st) f cdv A outer s H E).xe →
  MadeG (bodyX P w K mg base N x (defScope st) f cdv A outer s H E) ⟨K,C,HW,Z,H,E⟩→LamX (bodyX P w K mg base N x (defScope st) f cdv A outer s H E) K C i →
  GL (bodyX P w K mg base N x (defScope st) f cdv A outer s H E) ⟨K,C,HW,Z,H,E⟩ W (startS N.length ds) (defBody st) JU l
section
variable {P:Program}{w:World}{K:PySem.W.Frag}{mg:Str→Option Value}{base:Heap}{C:Nat→Addr}{k i:Nat}{N ps:List Str}{x:Str}{st:Stmt}{fn:Wd→List D→RW}
theorem okgl (S:FnScope N ps (defScope st))(h:∀ W ds,ds.length=ps.length→∃ l,fn W ds=outW l∧OkGBL P w K mg base C k i N x st W ds l):OkGL P w K mg base C k i x st ps fn:=fun {f fd} F hf lk bm=>by
 obtain⟨oc,od,kV,doc,pm,an,cdv,ct,osl,rfl,lo,hcd⟩:=F.ex
 obtain⟨c,oc',od',fd',sl',l1,l2,l3⟩:=lk.cd
 rw[← hf,lo]at l1
 cases l1
 have l2:cdv=.ref c:=l2
 refine oP lo hcd S (fun vs H Q E q=>q.1) fun A outer s H vs Q E hr hsp=>?_
 obtain⟨hl,W,HW,Z,ds,zh,wh,dj,wd,r,wr⟩:=hsp
 obtain⟨l,e,o⟩:=h W ds (by rw[r.length];exact hl)
 rw[e]at wr
 have lx:LamX (bodyX P w K mg base N x (defScope st) f cdv A outer s H E) K C i:=⟨lk.lt,by rw[← hf];unfold qOf;rw[lo];rfl,⟨c,l2,l3⟩,bm,lk.inj⟩
 exact⟨_,o _ cdv A outer s HW Z H E ⟨hr,rfl,rfl,cY⟩ PassesOwn.leaving (fun F' e' pins σ H1 s1 h1 ea C1 args I hx hE=>eS I hx (by rw[e']at hE;exact hE)) lx,HW,Z,GOk.start (N:=N) zh wh dj wd r,WGL.start (G:=⟨K,C,HW,Z,H,E⟩) wr⟩
theorem okgl1 {p:Str}{c:Wd→D→LW Unit}(S:FnScope N [p] (defScope st))(h:∀ W a,OkGBL P w K mg base C k i N x st W [a] (c W a)):OkGL P w K mg base C k i x st [p] (b1 c):=okgl S fun W ds hl=>by obtain⟨a,rfl⟩:=len1 hl;exact⟨c W a,rfl,h W a⟩
end
theorem _root_.L2.RoomH.mono {j k:Nat}{A:Around}(r:RoomH k A)(h:j≤k):RoomH j A:=⟨by have:=r.dp;omega,by have:=r.un;omega⟩
theorem FnHd.mono {P:Program}{w:World}{K:PySem.W.Frag}{mg:Str→Option Value}{base:Heap}{C:Nat→Addr}{j k:Nat}{x:Str}{ps:List Str}{f:List D→R D}(h:FnHd P w K mg base C j x ps f)(hj:j≤k):FnHd P w K mg base C k x ps f:=by
 obtain⟨a,fd,h1,h2⟩:=h.ex
 exact⟨a,fd,fun A outer s H args us vs Q hr=>h1 A outer s H args us vs Q (hr.mono hj),h2⟩
def codeKB (K:PySem.W.Frag)(c P:Addr):Bool:=match K.lookup c with
 | some ⟨.type n,_,.fields vs,_⟩=>(n == "code")&&(match (vs[11]?:Option Value),vs.getD 18 .none,vs.getD 7 .none,vs.getD 9 .none,vs.getD 10 .none with
  | some (.ref P'),.str _ _,.int _ _,.bool _,.int _ _=>(P'==P) && !(c==P)
  | _,_,_,_,_=>false)
 | _=>false
theorem qi {K:PySem.W.Frag}{c P:Addr}(h:codeKB K c P=true):CodeK K c P:=by
 unfold codeKB at h
 split at h
 ·rename_i n d vs sl e
  rw[Bool.and_eq_true]at h
  obtain⟨h1,h2⟩:=h
  have hn:n="code" := eq_of_beq h1
  subst hn
  split at h2
  ·rename_i P' f tf fl tg b tx tt e1 e2 e3 e4 e5
   rw[Bool.and_eq_true]at h2
   have hP:P'=P:=eq_of_beq h2.1
   subst hP
   have hc:c≠P':=fun z=>by rw[z]at h2;simp at h2
   refine⟨_,vs,f,tf,fl,tg,b,tx,tt,e,rfl,rfl,e1,?_,e2,e3,e4,e5,hc⟩
   rw[Array.getD_eq_getD_getElem?,e1];rfl
  ·cases h2
 ·cases h
end FF
namespace L2
open PySem PySem.Spec PyProof.Rows
def OnlyT (tabs:List (Addr×Addr))(H:Hp):Prop:=(∀ b,H b=none∨(∃ o xs,H b=some (.frz o (.lst xs)))∨(b∈tabs.map (·.2)∧H b=some (.tbl #[])))∧∀ q∈tabs,H q.2=some (.tbl #[])
theorem n6 {P:Program}{w:World}{K:PySem.W.Frag}{mg mb:Str→Option Value}{CX:CXT}{k:Nat}{fa a:Addr}{fd:FuncData}{x:Str}{sp:Sp}{s₁:Shared}{vs:List Value}{ns:List Int}{tabs:List (Addr×Addr)}
  (hT:PySem.W.TabsAt tabs s₁.heap) (hKT:∀ q∈tabs,K.lookup q.2=none) (bmn:FF.BMn mg s₁.heap)
  (KX:K.In s₁.heap) (hns:s₁.heap.Ns mainGlobals mg) (hb:s₁.heap.Ns builtinsNs mb) (hbb:∀ x:Str,x ≠ "__name__" → mb x=bootBuiltins x) (hlim:s₁.heap.NoLimit) (hg:s₁.gens = #[])
  (ha:s₁.heap.get? a=some { cls:=.type "list",data:=.seq vs.toArray }) (hi:IntsAre vs ns) (hl:ns.length≤sizeLine) (hr:Room k callerA)
  (F:∀ base:Heap,K.In base→base.Ns mainGlobals mg→FF.BMn mg base→FnOk P w K mg base CX k fa fd [x] sp) (hbind:∀ (s:Shared) (u:Value),BindsTo s fd ⟨[u],[]⟩ [(x,u)])
  (hsp:∀ H:Hp,OnlyT tabs H→SqL K H a (ns.map V.int)→sp [.ref a] H (fun v _=>v=.bl true) fun _ _ _=>False)
  (hCX:∀ H e s',CX [] H s₁ (fun _ _ _=>False) e s'→False) :
  codeAny (model P w) callerA (.call (.ref fa) ⟨[.ref a],[]⟩) (fun r s'=>r=.ok (.ret (.bool true))∧OldK s₁.heap s'.heap∧s'.os=s₁.os∧AllBare s'.gens) s₁:=by
 have rv:=bG hi
 have lenV:=hi.length
 have core:∀ H:Hp,OnlyT tabs H→SqL K H a (ns.map V.int)→HOk P w H s₁.heap→(∀ b,H b≠none→b=a∨b∈tabs.map (·.2))→(H a≠none→K.lookup a=none) →
   codeAny (model P w) callerA (.call (.ref fa) ⟨[.ref a],[]⟩) (fun r s'=>r=.ok (.ret (.bool true))∧OldK s₁.heap s'.heap∧s'.os=s₁.os∧AllBare s'.gens) s₁:=by
  intro H hO hS hok hA hK
  have base_of:∀ {b:Addr} {o:Obj},s₁.heap.get? b=some o→H b=none→(hidT s₁.heap H).get? b=some o:=fun e n=>oF e n
  have tabO:∀ b∈tabs.map (·.2),s₁.heap.get? b=some (PySem.W.tabObj #[]):=fun b hb'=>by
   obtain⟨q,hq,rfl⟩:=List.mem_map.mp hb'
   exact(hT q hq).2
  have noD:∀ {b:Addr} {o:Obj},s₁.heap.get? b=some o→(∀ ys n,o.data≠.seq ys n)→(∀ ys,o.data≠.fields ys)→H b=none:=fun {b o} e d1 d2=>by
   cases q:H b with
   | none=>rfl
   | some u =>
    rcases hA b (by rw[q];simp) with e' | e'
    ·subst e'
     rw[ha]at e;cases e
     exact absurd rfl (d1 _ _)
    ·rw[tabO b e']at e;cases e
     exact absurd rfl (d2 _)
  have noA:∀ {b:Addr} {o:Obj} {es:Array DictEntry} {ep:Nat},s₁.heap.get? b=some o→o.data=.dict es ep→H b=none:=fun {b o es ep} e d=>noD e (fun _ _ z=>by rw[d]at z;cases z) (fun _ z=>by rw[d]at z;cases z)
  have nsK:∀ {b:Addr} {m:Str→Option Value},s₁.heap.Ns b m→(hidT s₁.heap H).Ns b m:=fun {b m} ⟨o,es,ep,e,d,r⟩=>⟨o,es,ep,base_of e (noA e d),d,r⟩
  have hKb:K.In (hidT s₁.heap H):=fun b o e=>base_of (KX b o e) (by
   cases q:H b with
   | none=>rfl
   | some u =>
    rcases hA b (by rw[q];simp) with e' | e'
    ·subst e'
     rw[hK (by rw[q];simp)]at e;cases e
    ·obtain⟨q',hq',rfl⟩:=List.mem_map.mp e'
     rw[hKT q' hq']at e;cases e)
  have hM:Mod K mg (hidT s₁.heap H):=⟨hKb,nsK hns,⟨mb,nsK hb,hbb⟩,let ⟨mc,h1,h2⟩:=hlim;⟨mc,nsK h1,h2⟩⟩
  have hbm:FF.BMn mg (hidT s₁.heap H):=by
   obtain⟨bm,ob,b1,b2,b3,b4,b5,b6⟩:=bmn
   exact⟨bm,ob,b1,b2,base_of b3 (noD b3 (fun _ _ z=>by rw[b6]at z;cases z) (fun _ z=>by rw[b6]at z;cases z)),b4,b5,b6⟩
  have e0:Env0 P w K mg (hidT s₁.heap H) callerA [] s₁ H:=⟨rfl,hM,fun b o e=>qG e,Nat.le_of_eq (mK _ _),trivial,fun b hb=>absurd (show b∈([]:List Addr) from hb) (by simp),hok,.of_eq hg⟩
  refine codeAny_mono ((F _ hKb (nsK hns) hbm).run callerA [] s₁ H ⟨[.ref a],[]⟩ [.ref a] [.ref a] _ _ hr.w e0 (hbind s₁ (.ref a)) (.cons rfl .nil) (hsp H hO hS)) fun r s' h=>?_
  cases r with
  | error e=>exact(hCX H e s' h).elim
  | ok fl =>
   cases fl with
   | next=>exact False.elim h
   | brk=>exact False.elim h
   | cont=>exact False.elim h
   | ret u =>
    obtain⟨v,H',os,bare,un,hok',r',q⟩:=h
    have q':v=.bl true:=q
    subst q'
    obtain rfl:u=Value.bool true:=r'
    have both:∀ b o,s₁.heap.get? b=some o→s'.heap.get? b=some o∨(isCodeTable s₁.heap b∧o=PySem.W.tabObj #[]∧∃ ps,s'.heap.get? b=some (PySem.W.tabObj ps)):=fun b o e=>by
     cases q:H b with
     | none=>exact .inl (un.keep b o e q (by intro z;exact absurd (show b∈([]:List Addr) from z) (by simp)) (by simp))
     | some u =>
      rcases hO.1 b with z | ⟨ob,xs,z⟩ | ⟨hm,z⟩
      ·rw[q]at z;cases z
      ·have z2:=un.frzs b ob _ z
       obtain⟨e1,_⟩:=hok b _ z
       obtain⟨e2,_⟩:=hok' b _ z2
       rw[e]at e1;cases e1
       exact .inl e2
      ·obtain⟨more,z2⟩:=un.tbls b _ z
       have e2:s'.heap.get? b=some (PySem.W.tabObj (#[]++more)):=hok' b _ z2
       obtain⟨qq,hq,rfl⟩:=List.mem_map.mp hm
       have e3:=(hT qq hq).2
       rw[e]at e3
       exact .inr ⟨((hT qq hq).1.tab (hT qq hq).2).isCodeTable,Option.some.inj e3,_,e2⟩
    refine⟨rfl,⟨fun b o e=>?_,fun b o e=>?_⟩,os,bare⟩
    ·rcases both b o e with z | ⟨z1,rfl,ps,z2⟩
     ·exact .inl z
     ·exact .inr (.inl ⟨z1,rfl,#[],ps,rfl,by rw[Array.empty_append];exact z2⟩)
    ·rcases both b o e with z | ⟨z1,rfl,ps,z2⟩
     ·exact⟨_,z⟩
     ·exact⟨_,z2⟩
 have nta:a∉tabs.map (·.2):=fun z=>by
  obtain⟨q,hq,e⟩:=List.mem_map.mp z
  have:=(hT q hq).2
  rw[e,ha]at this;cases this
 have tobj:∀ b∈tabs.map (·.2),s₁.heap.get? b=some { cls:=.none,data:=.fields #[] }:=fun b hb'=>by
  obtain⟨q,hq,rfl⟩:=List.mem_map.mp hb'
  exact(hT q hq).2
 cases hk:K.lookup a with
 | some o =>
  have e:=KX a o hk
  rw[ha]at e
  cases e
  refine core (fun b=>if b∈tabs.map (·.2) then some (.tbl #[]) else none) ⟨fun b=>?_,fun q hq=>if_pos (List.mem_map_of_mem hq)⟩ (.inr ⟨_,vs.toArray,_,hk,rfl,rfl,rfl,by rw[List.size_toArray,lenV];exact hl,by simpa using rv⟩) (fun b u z=>?_) (fun b z=>?_) fun z=>absurd (if_neg nta) z
  ·by_cases hb:b∈tabs.map (·.2)
   ·exact .inr (.inr ⟨hb,if_pos hb⟩)
   ·exact .inl (if_neg hb)
  ·by_cases hb:b∈tabs.map (·.2)
   ·have z':=(if_pos hb).symm.trans z
    cases z'
    exact tobj b hb
   ·have z':=(if_neg hb).symm.trans z
    cases z'
  ·by_cases hb:b∈tabs.map (·.2)
   ·exact .inr hb
   ·exact absurd (if_neg hb) z
 | none =>
  refine core (fun b=>if b=a then some (.frz { cls:=.type "list",data:=.seq vs.toArray } (.lst (ns.map V.int))) else if b∈tabs.map (·.2) then some (.tbl #[]) else none) ⟨fun b=>?_,fun q hq=>?_⟩ (.inl (.inr ⟨{ cls:=.type "list",data:=.seq vs.toArray },if_pos rfl⟩)) (fun b u z=>?_) (fun b z=>?_) fun _=>hk
  ·by_cases hb:b=a
   ·exact .inr (.inl ⟨_,_,if_pos hb⟩)
   ·by_cases hb2:b∈tabs.map (·.2)
    ·exact .inr (.inr ⟨hb2,(if_neg hb).trans (if_pos hb2)⟩)
    ·exact .inl ((if_neg hb).trans (if_neg hb2))
  ·have hm:=List.mem_map_of_mem (f:=(·.2)) hq
   exact(if_neg fun (z:q.2=a)=>nta (by rw[← z];exact hm)).trans (if_pos hm)
  ·by_cases hb:b=a
   ·have z':=(if_pos hb).symm.trans z
    cases z'
    subst hb
    exact⟨ha,by rw[List.length_map];exact hl,vs,_,rv,ha⟩
   ·have z1:=(if_neg hb).symm.trans z
    by_cases hb2:b∈tabs.map (·.2)
    ·have z':=(if_pos hb2).symm.trans z1
     cases z'
     exact tobj b hb2
    ·have z':=(if_neg hb2).symm.trans z1
     cases z'
  ·by_cases hb:b=a
   ·exact .inl hb
   ·by_cases hb2:b∈tabs.map (·.2)
    ·exact .inr hb2
    ·exact absurd ((if_neg hb).trans (if_neg hb2)) z
theorem qk {l:PySem.W.OpenLaw}{n k:Nat}{q:Program}{loose:List Str}{XP:(Str→Option Value)→Heap→Prop}{YP:World→Heap→Prop}{d:DefRec}{K:Params→PySem.W.Frag}{CX:World→CXT}{sp:World→Sp}{x:Str}{tabs:World→List (Addr×Addr)}
  (hT:∀ (w:World) (loose:List Str) (mean:ExcName→Option Value) (mg mb:Str→Option Value) (h:Heap),Top q loose mean mg mb h→(K w.params).In h→PySem.W.TabsAt (tabs w) h) (hKT:∀ (w:World),∀ q∈tabs w,(K w.params).lookup q.2=none)
  (hn:l.most=some n) (hn2:n≤sizeLine) (hdf:d.params.defaults=[]) (hr:Room k callerA)
  (hY:∀ (w:World) (h:Heap),YP w h→(K w.params).In h)
  (F:∀ (w:World) (mg:Str→Option Value) (fa:Addr) (h:Heap),(K w.params).In h→h.Ns mainGlobals mg→mg d.name=some (.ref fa) →
   ∃ fd:FuncData,(∀ (s:Shared) (u:Value),BindsTo s fd ⟨[u],[]⟩ [(x,u)]) ∧
    ∀ base:Heap,(K w.params).In base→base.Ns mainGlobals mg→FF.BMn mg base→FnOk l.prog w (K w.params) mg base (CX w) k fa fd [x] (sp w))
  (hsp:∀ (w:World) (H:Hp) (a:Addr) (ns:List Int),ns.length≤n→OnlyT (tabs w) H→SqL (K w.params) H a (ns.map V.int)→sp w [.ref a] H (fun v _=>v=.bl true) fun _ _ _=>False)
  (hCX:∀ (w:World) (H:Hp) (s:Shared) (e:Value) (s':Shared),CX w [] H s (fun _ _ _=>False) e s'→False) :
  PySem.W.WalkO q loose XP YP l.row.toRowW d [] (fun f vs=>PySem.call f vs):=by
 refine Att.attach_call hn hdf fun w s₀ s₁ mg mb fa o pm cd doc a vs ns G Y ho hd hcd hmg hobj hints hlen hg=>?_
 have KX:=hY w _ Y
 obtain⟨fd,hb,hF⟩:=F w mg fa _ KX G.T.g hmg
 exact n6 (hT w _ _ mg mb _ G.T KX) (hKT w) G.T.bmain KX G.T.g G.T.b G.T.builtins G.T.nolimit hg hobj hints (Nat.le_trans hlen hn2) hr hF hb (fun H hO hS=>hsp w H a ns hlen hO hS) fun H e s'=>hCX w H s₁ e s'
end L2
end
noncomputable section
namespace FF
open PySem PySem.Spec PyProof.Rows L2
def tabOf (K:PySem.W.Frag)(x:Str):Addr×Addr:=(PySem.W.tabIn K x).getD (0,0)
def tabOkB (K:PySem.W.Frag)(x:Str):Bool:=match PySem.W.tabIn K x with
 | some (c,P)=>codeKB K c P&&(K.lookup P).isNone
 | none=>false
theorem g8 {K:PySem.W.Frag}{x:Str}(h:tabOkB K x=true):PySem.W.tabIn K x=some (tabOf K x)∧CodeK K (tabOf K x).1 (tabOf K x).2∧K.lookup (tabOf K x).2=none:=by
 unfold tabOkB at h
 unfold tabOf
 cases q:PySem.W.tabIn K x with
 | none=>rw[q]at h;cases h
 | some p =>
  rw[q]at h
  have h:(codeKB K p.1 p.2&&(K.lookup p.2).isNone)=true:=h
  rw[Bool.and_eq_true]at h
  exact⟨rfl,qi h.1,Option.isNone_iff_eq_none.mp h.2⟩
theorem ur {K:PySem.W.Frag}{x:Str}{c P f:Addr}(h:PySem.W.tabIn K x=some (c,P))(hf:PySem.W.nsIn K mainGlobals x=some (some (.ref f))):∃ oc od fd sl,K.lookup f=some ⟨oc,od,.func fd,sl⟩∧fd.code=.ref c:=by
 unfold PySem.W.tabIn at h
 rw[hf]at h
 simp only at h
 split at h
 ·rename_i oc od fd sl hl
  split at h
  ·rename_i c2 hc
   split at h
   ·split at h
    ·cases h;exact⟨oc,od,fd,sl,hl,hc⟩
    ·cases h
   ·cases h
  ·cases h
 ·cases h
theorem rZ {q:Program}{loose:List Str}{mean:ExcName→Option Value}{mg mb:Str→Option Value}{h:Heap}{K:PySem.W.Frag}{xs:List Str}(hB:∀ x∈xs,tabOkB K x=true)(hR:∀ x∈xs,((recsOf q).find? (fun e=>e.name==x)).isSome=true)
  (T:Top q loose mean mg mb h) (X:K.In h):PySem.W.TabsAt (xs.map (tabOf K)) h:=fun p hp=>by
 obtain⟨x,hx,rfl⟩:=List.mem_map.mp hp
 obtain⟨d,hd⟩:=Option.isSome_iff_exists.mp (hR x hx)
 exact PySem.W.tab_of (c:=(tabOf K x).1) (P:=(tabOf K x).2) T X hd (g8 (hB x hx)).1
theorem ql {K:PySem.W.Frag}{C:Nat→Addr}{x:Str}{f:Addr}(h0:C 900=1)(h1:C 901=(tabOf K x).2)(h2:C 902=f)(hB:tabOkB K x=true)(hf:PySem.W.nsIn K mainGlobals x=some (some (.ref f))):LamK K C 0:=by
 obtain⟨a,b,_⟩:=g8 hB
 obtain⟨oc,od,fd,sl,l1,l2⟩:=ur (c:=(tabOf K x).1) (P:=(tabOf K x).2) a hf
 exact⟨by rw[h0];exact Nat.one_pos,fun j hj _=>by rw[h0]at hj;exact Nat.lt_one_iff.mp hj,_,oc,od,fd,sl,by rw[show 902+2*0=902 from rfl,h2];exact l1,l2,by rw[show 901+2*0=901 from rfl,h1];exact b⟩
theorem n8 {K:PySem.W.Frag}{C:Nat→Addr}{HW:Hp}(h:∀ i,i < C 900→HW (C (901+2*i))=some (.tbl #[])):Tbs K C HW:=fun i hi=>⟨#[],h i hi,trivial,fun pos cv q=>by simp[codeAmong]at q⟩
theorem qm {K:PySem.W.Frag}{C:Nat→Addr}{H:Hp}{a:Addr}{ns:List Int}{tabs:List (Addr×Addr)}{f:Wd→List D→RW}(hO:OnlyT tabs H)(hS:SqL K H a (ns.map V.int))(hC:∀ i,i < C 900→C (901+2*i)∈tabs.map (·.2))
  (hw:∀ HW Z,WRW K C (fun _ _ _=>False) HW Z H (fun _ d _ Z' H'=>∀ v,Rep K C Z' d v→v=.bl true) (f (fun _=>none) [.lst (ns.map .int)])) :
  spG K C 1 f [.ref a] H (fun v _=>v=.bl true) fun _ _ _=>False:=by
 refine⟨rfl,fun _=>none,fun b=>match H b with | some (.tbl ps)=>some (.tbl ps) | _=>none,fun b=>match H b with | some (.frz o u)=>some (.frz o u) | _=>none,[.lst (ns.map .int)],fun b o e=>?_,fun b o e=>?_,fun b h=>?_,⟨fun _ _ e=>(nomatch e),n8 fun i hi=>?_⟩,?_,hw _ _⟩
 ·simp only at e
  split at e
  ·rename_i h;rw[h];exact e
  ·cases e
 ·simp only at e
  split at e
  ·rename_i h;rw[h];exact e
  ·cases e
 ·simp only at h ⊢
  split at h
  ·rename_i q;rw[q]
  ·exact absurd rfl h
 ·obtain⟨q,hq,e⟩:=List.mem_map.mp (hC i hi)
  have z:=hO.2 q hq
  rw[e]at z
  simp only[z]
 ·rw[Reps]
  refine⟨_,_,rfl,?_,Reps.nil⟩
  rw[Rep]
  refine⟨a,_,rfl,?_,mt ns⟩
  rcases hS with (z | ⟨o,z⟩) | z
  ·rcases hO.1 a with q | ⟨o,xs,q⟩ | ⟨_,q⟩<;>(rw[z]at q;cases q)
  ·exact .inl (.inr ⟨o,by simp only[z]⟩)
  ·exact .inr z
theorem bU {X:Cx}{G:Gx}{W:Wd}{S:SS}{e:Expr}{r0 r:RW}(h:GE X G W S e r0)(hr:r0=r):GE X G W S e r:=hr ▸ h
end FF
namespace FF
open PySem PySem.Spec PyProof.Rows L2
def isStar:Expr→Bool
 | .Starred ..=>true
 | _=>false
theorem ae {e:Expr}{es:List Expr}{env:Env}(h:isStar e=false):starEach (e::es) env=(false,eval e env)::starEach es env:=by
 cases e<;>first | rfl | cases h
section
variable {X:Cx}{F:Fx}{o e:Expr}{go g:SS→R D}{pos:Pos}{k:Nat}
end
section
variable {X:Cx}{F:Fx}{S:SS}{σ:Type}{J:σ→SS→Prop}
end
section
variable {X:Cx}{F:Fx}{tg a b e o:Expr}{g ga gb go:SS→R D}{gs:SS→R (List D)}{p pos:Pos}{k:Nat}
end
section
variable {X:Cx}{F:Fx}{e ei:Expr}{g:SS→R D}{gs:SS→R (List D)}{p pos pos' p0 apos cpos:Pos}{k:Nat}{x:Str}
end
section
variable {prog:Program}{w:World}{A:Around}{E:Value→Shared→Prop}{s:Shared}{κ:Type}[DecidableEq κ]{knd:PySem.KeyKind prog w κ}
end
section
variable {X:Cx}{F:Fx}{e:Expr}{gs:SS→R (List D)}{p pos:Pos}{k:Nat}
end
structure FSw (X:Cx)(F:Fx)(st:Stmt)(g:SS→O):Prop where
 out:FS X F st g
structure FEw (X:Cx)(F:Fx)(e:Expr)(g:SS→R D):Prop where
 out:FE X F e g
section
variable {X:Cx}{F:Fx}{e:Expr}{es:List Expr}{g:SS→R D}{gs:List (SS→R D)}{x:Str}{pos pos' lpos p0 apos cpos:Pos}{k:Nat}
theorem ap {i j pos}:FEw X F (.Constant (.int i) j pos) (eC (.int i)):=⟨ag⟩
theorem r6 {i j pos}:FEw X F (.Constant (.str i) j pos) (eC (.str i)):=⟨ax⟩
theorem lw {i j pos}:FEw X F (.Constant (.bool i) j pos) (eC (.bl i)):=⟨bO⟩
theorem mC {j pos}:FEw X F (.Constant .none j pos) (eC .non):=⟨kR⟩
theorem mD (h:FEw X F e g):FEw X F (.UnaryOp .USub e pos) (eNeg g):=⟨eV h.out⟩
theorem aX {x1}(h:FAL X F es gs)(hl:gs.length≤16777216:=by exact Nat.le_of_ble_eq_true rfl):FEw X F (.Tuple es x1 pos) (eBA (fun ds=>.ok (.tup ds)) gs):=⟨aO h hl⟩
theorem gr (h:FAL X F es gs)(hl:gs.length≤16777216:=by exact Nat.le_of_ble_eq_true rfl):FEw X F (.List es pos) (eBA (fun ds=>.ok (.lst ds)) gs):=⟨aQ h hl⟩
theorem falw (ha:FEw X F e g)(hr:FAL X F es gs)(hs:isStar e=false:=by rfl):FAL X F (e::es) (g::gs):=aa ha.out hr (ae hs)
theorem r8 (i:Nat)(hN:X.N.Nodup)(h:FAL X F es gs)(hl:gs.length≤16777216:=by exact Nat.le_of_ble_eq_true rfl)(hi:X.N[i]?=some x:=by rfl)(hx:Loc X.env.scope x:=by first | exact Or.inl rfl | exact Or.inr rfl)
  (hf:X.fn x=true∨X.env.scope.names.lookup x=some .local:=by first | exact .inl rfl | exact .inr rfl):FSw X F (.Assign [.Name x pos'] (.List es lpos) pos) (sOwnC i gs):=⟨fs_O (cI i hN h.out hi hx rfl hf) hl⟩
theorem mE (i:Nat)(hN:X.N.Nodup)(h:FEw X F e g)(hi:X.N[i]?=some x:=by rfl)(hx:Loc X.env.scope x:=by first | exact Or.inl rfl | exact Or.inr rfl)(hf:X.fn x=true∨X.env.scope.names.lookup x=some .local:=by first | exact .inl rfl | exact .inr rfl)
  (hs:swapsWith e (some (.Name x pos')) pos.line X.env=pure false:=by rfl):FSw X F (.Assign [.Name x pos'] e pos) (sSet i g):=⟨aE i hN h.out hi hx hs hf⟩
theorem r9 (i:Nat)(bK:X.K=F.K)(h:FEw X F e g)(hs0:isStar e=false:=by rfl)(hi:X.N[i]?=some x:=by rfl)(hv:Vis X.env.scope x:=by first | exact Or.inl rfl | exact Or.inr (Or.inl rfl) | exact Or.inr (Or.inr rfl))(hd:(x==("__debug__":Str))=false:=by decide)
  (hcd:(x==("__classdict__":Str))=false:=by decide)
  (hbase:attributeBase (.Name x p0) "extend" X.env (eval (.Name x p0) X.env)=eval (.Name x p0) X.env:=by rfl)
  (hline:(apos.endLine==cpos.line)=true:=by rfl)
  (hsw:swapsWith (.Call (.Attribute (.Name x p0) "extend" apos) [e] [] cpos) none pos.line X.env=pure false:=by rfl) :
  FSw X F (.Expr (.Call (.Attribute (.Name x p0) "extend" apos) [e] [] cpos) pos) (sExtC i g) :=
 ⟨fs_X (bo i bK (aa h.out ad (ae hs0)).out hi hv hd hcd hbase (by rw[ae hs0];rfl) hline (ae hs0) rfl hsw)⟩
end
section
variable {X:Cx}{G:Gx}{W:Wd}{S:SS}{σ:Type}{J:σ→SS→Prop}{st:Stmt}{rest:List Stmt}{α:Type}
theorem qo {g:SS→O}{r:R α}{S':α→SS}{k:α→LW σ}(h:∀ H0 Z0,Wk (G.at H0 Z0) W→FSw X (G.at H0 Z0) st g)(hg:g S=rO (r.bind fun a=>.ok (.nx (S' a))))(hk:∀ a,GL X G W (S' a) rest J (k a)):GL X G W S (st::rest) J (lwR W r k):=jB (fun a b c=>(h a b c).out) hg hk
theorem n9 {g:SS→O}{S':SS}{l:LW σ}(h:∀ H0 Z0,Wk (G.at H0 Z0) W→FSw X (G.at H0 Z0) st g)(hg:g S=.nx S')(hk:GL X G W S' rest J l):GL X G W S (st::rest) J l:=p6 (fun a b c=>(h a b c).out) hg hk
end
end FF
namespace FF
open PySem PySem.Spec PyProof.Rows L2
structure GLw {σ:Type}(X:Cx)(G:Gx)(W:Wd)(S:SS)(sts:List Stmt)(J:σ→SS→Prop)(l:LW σ):Prop where
 out:GL X G W S sts J l
section
variable {X:Cx}{G:Gx}{W:Wd}{S:SS}{σ:Type}{J:σ→SS→Prop}{st:Stmt}{rest sts:List Stmt}{α:Type}
theorem ut {l:LW σ}(h:GL X G W S sts J l):GLw X G W S sts J l:=⟨h⟩
theorem oa {g:SS→O}{r:R α}{S':α→SS}{k:α→LW σ}(h:∀ H0 Z0,Wk (G.at H0 Z0) W→FSw X (G.at H0 Z0) st g)(hg:g S=rO (r.bind fun a=>.ok (.nx (S' a))))(hk:∀ a,GLw X G W (S' a) rest J (k a)):GLw X G W S (st::rest) J (lwR W r k):=⟨qo h hg fun a=>(hk a).out⟩
theorem dz {g:SS→O}{S':SS}{l:LW σ}(h:∀ H0 Z0,Wk (G.at H0 Z0) W→FSw X (G.at H0 Z0) st g)(hg:g S=.nx S')(hk:GLw X G W S' rest J l):GLw X G W S (st::rest) J l:=⟨n9 h hg hk.out⟩
end
section
variable {P:Program}{w:World}{K:PySem.W.Frag}{mg:Str→Option Value}{base:Heap}{C:Nat→Addr}{k i:Nat}{N ps:List Str}{x:Str}{st:Stmt}{fn:Wd→List D→RW}
def OkGBLw (P:Program)(w:World)(K:PySem.W.Frag)(mg:Str→Option Value)(base:Heap)(C:Nat→Addr)(k i:Nat)(N:List Str)(x:Str)(st:Stmt)(W:Wd)(ds:List D)(l:LW Unit):Prop :=
 ∀ (f:Addr) (cdv:Value) (A:Around) (outer:List Env) (s:Shared) (HW Z H:Hp) (E:XK),BG (bodyX P w K mg base N x (defScope st) f cdv A outer s H E) ⟨K,C,HW,Z,H,E⟩ k →
  PassesOwn (model P w) (bodyX P w K mg base N x (defScope st) f cdv A outer s H E).A (bodyX P w K mg base N x (defScope st) f cdv A outer s H E).env (bodyX P w K mg base N x (defScope st) f cdv A outer s H E).xe →
  MadeG (bodyX P w K mg base N x (defScope st) f cdv A outer s H E) ⟨K,C,HW,Z,H,E⟩→LamX (bodyX P w K mg base N x (defScope st) f cdv A outer s H E) K C i →
  GLw (bodyX P w K mg base N x (defScope st) f cdv A outer s H E) ⟨K,C,HW,Z,H,E⟩ W (startS N.length ds) (defBody st) JU l
theorem okgl1w {p:Str}{c:Wd→D→LW Unit}(S:FnScope N [p] (defScope st))(h:∀ W a,OkGBLw P w K mg base C k i N x st W [a] (c W a)):OkGL P w K mg base C k i x st [p] (b1 c):=okgl1 S fun W a f cdv A outer s HW Z H E b1 b2 b3 b4=>(h W a f cdv A outer s HW Z H E b1 b2 b3 b4).out
end
section
variable {X:Cx}{F:Fx}{st:Stmt}{g:SS→R D}{i:Nat}
end
section
variable {X:Cx}{G:Gx}{W:Wd}{S:SS}{σ:Type}{J:σ→SS→Prop}
end
section
variable {X:Cx}{G:Gx}{W:Wd}{S:SS}{a b:Expr}{rest:List Expr}{r:RW}{r2:Wd→RW}{gb:SS→R D}{pos:Pos}{k:Nat}
theorem uu {op:CmpOp}{rr:R2}{ff:D→D→R D}(ho:OpR X (compareOp op) rr)(hd:∀ H0 Z0,OpD (G.at H0 Z0) rr ff)(ha:GE X G W S a r)(hb:∀ H0 Z0 W',Wk (G.at H0 Z0) W'→FE X (G.at H0 Z0) b gb)(hm:behindInMarks op b=false:=by first | exact nomark _ | rfl) :
  GT X G W S (.Compare a [op] [b] pos) (rwB r fun w d=>rwA w (gb S) fun y=>rwR w (ff d y)) :=
 (lW ho ha (uh (S:=S) hb) hm).weak fun ρ H Q ⟨HW,Z,ok,w⟩=>by
  have w':WRW G.K G.C G.E HW Z H (fun _ d _ Z' H'=>∀ v,Rep G.K G.C Z' d v→∃ t,v=.bl t∧Q t H') (rwB r fun w d=>rwA w (gb S) fun y=>rwR w (ff d y)):=w.imp fun w1 d HW' Z' H' x wd ⟨t,e,q⟩ v rv=>by subst e;rw[Rep]at rv;exact⟨t,rv,q⟩
  exact⟨HW,Z,ok,WRW.bind (fun w1 d HW1 Z1 H1 x1 wd1 w2 v rv=>by
   have ok1:=ok.more x1 wd1
   refine⟨w1,HW1,Z1,ok1,u6 (α:=Unit) ok1 w2 fun y vy H2 Z2 ok2 gx2 ry w3=>?_⟩
   refine hd (kp HW1 Z2 G.HW0 G.H0 H2) Z2 H2 Z2 v vy d y (fun v H'=>∃ t,v=.bl t∧Q t H') ok2.zh (rv.mono gx2.z) ry ?_
   cases q:ff d y with
   | ok z=>rw[q]at w3;exact fun H3 Z3 x3=>w3 HW1 Z3 H3 (ok2.ex x3) (ok2.wd.mono (Same.refl _) x3.z)
   | err k=>rw[q]at w3;exact fun H' x=>w3 HW1 Z2 H' ⟨fun b o _ e=>x b o e,Same.refl _,ok2.zh.trans x,ok2.wh.trans x,fun _ h=>h,fun _ h=>.inl h,fun _ h=>.inl h,ok2.gx.dj⟩ ok2.wd
   | stuck=>rw[q]at w3;exact w3) w'⟩
theorem qp (bg:BG X G k)(ha:GE X G W S a r)(hb:∀ H0 Z0 W',Wk (G.at H0 Z0) W'→FE X (G.at H0 Z0) b gb):GT X G W S (.Compare a [.NotEq] [b] pos) (rwB r fun w d=>rwA w (gb S) fun y=>rwR w (dNf d y)) :=
 uu (sG (F:=G.at G.H0 G.Z0) bg.K bg.room) (fun _ _=>kZ) ha hb
end
end FF
end
noncomputable section
namespace Lw
open PySem FF
def esL:List Nat:=[1,2,3]
namespace F
abbrev al:Nat:=20
abbrev ai:Nat:=21
abbrev aL:Nat:=22
abbrev aB:Nat:=23
abbrev ax:Nat:=24
abbrev an:Nat:=25
abbrev au:Nat:=26
abbrev ay:Nat:=43
abbrev aj:Nat:=44
abbrev aE:Nat:=27
abbrev ab:Nat:=28
abbrev aq:Nat:=65
abbrev ak:Nat:=45
abbrev az:Nat:=46
abbrev aG:Nat:=47
abbrev aH:Nat:=49
abbrev ad:Nat:=50
abbrev aN:Nat:=51
abbrev aK:Nat:=52
abbrev aD:Nat:=53
abbrev aR:Nat:=29
abbrev aC:Nat:=66
abbrev aO:Nat:=67
abbrev aI:Nat:=68
abbrev aF:Nat:=82
abbrev aP:Nat:=83
abbrev ar:Nat:=69
abbrev aQ:Nat:=70
abbrev aM:Nat:=71
abbrev aJ:Nat:=72
abbrev af:Nat:=76
abbrev av:Nat:=77
abbrev ac:Nat:=78
abbrev aa:Nat:=79
abbrev ag:Nat:=80
abbrev aw:Nat:=85
abbrev ap:Nat:=86
abbrev ae:Nat:=87
abbrev aA:Nat:=30
abbrev ao:Nat:=31
abbrev ah:Nat:=89
end F
def fvL:List Nat:=[21]
def g9 (t:Nat→List D→R D)(thing:D):L Unit :=
 lB (vAnd (dIsA qInt thing) (vNot (dIsA qBool thing))) .rt
def hG (t:Nat→List D→R D)(thing:D):L Unit :=
 lB (vAnd (t F.al [thing]) (rCh dLe dLe (.int 0) thing (.ok (.int 9)))) .rt
def i5 (t:Nat→List D→R D)(thing:D):L Unit :=
 lB (vAnd (t F.al [thing]) (rCh dLe dLe (.int 0) thing (.ok (.int 3)))) .rt
def i6 (t:Nat→List D→R D)(size_:D)(thing:D)(is_end:D):L Unit :=
 lS (lB (σ:=Unit) (rNot (asB (dIsA qTup thing))) fun b=>if b=true then lB (onF fvL is_end fun i=>t i [thing]) .rt else .nx ()) fun _ =>
 lS (lB (σ:=Unit) (rOr (asB (dEq size_ (.int 0))) (asB ((dLen [thing]).bind fun x=>dNf x (.int 4)))) fun b1=>if b1=true then .rt (.bl false) else .nx ()) fun _ =>
 lB (((sq thing).bind fun xs=>cMap (fun part=>(dSub size_ (.int 1)).bind fun x1=>t F.aB [x1,part,is_end]) xs).bind fun x2=>dAll [x2]) .rt
def cB (t:Nat→List D→R D)(thing:D)(is_end:D):L Unit :=
 lS (lB (σ:=Unit) (rOr (rNot (asB (dIsA qTup thing))) (asB ((dLen [thing]).bind fun x=>dNf x (.int 2)))) fun b=>if b=true then .rt (.bl false) else .nx ()) fun _ =>
 lB (vAnd ((dIx thing (.int 0)).bind fun x3=>t F.aL [x3]) ((dIx thing (.int 0)).bind fun x1=>(dIx thing (.int 1)).bind fun x2=>t F.aB [x1,x2,is_end])) .rt
def cL (t:Nat→List D→R D)(four:D):L Unit :=
 lB (dIx four (.int 0)) fun first =>
 lS (lB (σ:=Unit) (rAnd (rNot (asB (dIsA qTup first))) (asB (dEq four (.tup [first,first,first,first])))) fun b=>if b=true then .rt first else .nx ()) fun _ =>
 .rt four
def fL (t:Nat→List D→R D)(tree_:D):L Unit :=
 lS (lB (σ:=Unit) (rNot (asB (dIsA qTup tree_))) fun b=>if b=true then .rt tree_ else .nx ()) fun _ =>
 lB ((((sq tree_).bind fun xs=>cMap (fun part=>t F.au [part]) xs).bind fun x=>dTuple [x]).bind fun x1=>t F.an [x1]) .rt
def hJ (t:Nat→List D→R D)(tree_:D)(side:D)(x:D)(y:D):L Unit :=
 lS (lB (σ:=Unit) (rNot (asB (dIsA qTup tree_))) fun b=>if b=true then .rt tree_ else .nx ()) fun _ =>
 lB (dDiv side (.int 2)) fun half =>
 lB (((dDiv y half).bind fun x1=>dMul (.int 2) x1).bind fun x2=>(dDiv x half).bind fun x3=>dAdd x2 x3) fun number =>
 lB ((dIx tree_ number).bind fun x4=>(dMod x half).bind fun x5=>(dMod y half).bind fun x6=>t F.ay [x4,half,x5,x6]) .rt
def i7 (t:Nat→List D→R D)(rows:D)(left:D)(top:D)(side:D):L Unit :=
 lS (lB (σ:=Unit) (asB (dEq side (.int 1))) fun b=>if b=true then lB ((dIx rows top).bind fun x=>dIx x left) .rt else .nx ()) fun _ =>
 lB (dDiv side (.int 2)) fun half =>
 lB (((t F.aj [rows,left,top,half]).bind fun x1=>((dAdd left half).bind fun x2=>t F.aj [rows,x2,top,half]).bind fun x3=>((dAdd top half).bind fun x4=>t F.aj [rows,left,x4,half]).bind fun x5=>((dAdd left half).bind fun x6=>(dAdd top half).bind fun x7=>t F.aj [rows,x6,x7,half]).bind fun x8=>.ok (.tup [x1,x3,x5,x8])).bind fun x9=>t F.an [x9]) .rt
def d9 (t:Nat→List D→R D)(thing:D):L Unit :=
 lB (t F.ax [thing,(.fn F.ai)]) .rt
def cC (t:Nat→List D→R D)(thing:D):L Unit :=
 lB (rNot (asB (t F.aE [thing]))) fun b=>if b=true then .er 1 else .nx ()
def dh (t:Nat→List D→R D)(thing:D):L Unit :=
 lB (rNot (asB (t F.ai [thing]))) fun b=>if b=true then .er 1 else .nx ()
def i8 (t:Nat→List D→R D)(picture:D):L Unit :=
 lB ((dIx picture (.int 0)).bind fun x=>dIx (tupI [1,2,4,8]) x) .rt
def hU (t:Nat→List D→R D)(side:D)(thing:D):L Unit :=
 lB (vAnd (t F.al [thing]) (rCh dLe dLt (.int 0) thing (.ok side))) .rt
def ed (t:Nat→List D→R D)(picture:D)(x:D)(y:D):L Unit :=
 lB (t F.ak [picture]) fun side =>
 lB (rOr (rNot (asB (t F.az [side,x]))) (rNot (asB (t F.az [side,y])))) fun b=>if b=true then .er 2 else .nx ()
def fM (t:Nat→List D→R D)(picture:D)(y:D):L Unit :=
 lB (t F.ak [picture]) fun side =>
 lB (((rng1 [side]).bind fun xs=>cMap (fun x=>(dIx picture (.int 1)).bind fun x1=>t F.ay [x1,side,x,y]) xs).bind fun x2=>dTuple [x2]) .rt
def eg (t:Nat→List D→R D)(picture:D):L Unit :=
 lB (t F.ab [picture]) fun _ =>
 lB ((((t F.ak [picture]).bind fun x=>rng1 [x]).bind fun xs=>cMap (fun y=>t F.aH [picture,y]) xs).bind fun x1=>dTuple [x1]) .rt
def kl (t:Nat→List D→R D)(thing:D)(side:D):L Unit :=
 lS (lB (σ:=Unit) (rOr (rNot (asB (dIsA qTup thing))) (asB ((dLen [thing]).bind fun x=>dNf x side))) fun b=>if b=true then .rt (.bl false) else .nx ()) fun _ =>
 lB (((sq thing).bind fun xs=>cMap (fun worth=>t F.ai [worth]) xs).bind fun x1=>dAll [x1]) .rt
def hV (t:Nat→List D→R D)(thing:D):L Unit :=
 lS (lB (σ:=Unit) (rOr (rNot (asB (dIsA qTup thing))) (asB ((dLen [thing]).bind fun x=>dNotInD x (tupI [1,2,4,8])))) fun b=>if b=true then .rt (.bl false) else .nx ()) fun _ =>
 lB (((sq thing).bind fun xs=>cMap (fun row=>(dLen [thing]).bind fun x1=>t F.aN [row,x1]) xs).bind fun x2=>dAll [x2]) .rt
def i9 (t:Nat→List D→R D)(rows:D):L Unit :=
 lS (lB (σ:=Unit) (rNot (asB (t F.aK [rows]))) fun b=>if b=true then .er 1 else .nx ()) fun _ =>
 lB (dLen [rows]) fun side =>
 lB ((onT (tupI [1,2,4,8]) fun ls=>dIndexI ls [side]).bind fun x=>(t F.aj [rows,(.int 0),(.int 0),side]).bind fun x1=>.ok (.tup [x,x1])) .rt
def qu (t:Nat→List D→R D)(picture:D):L Unit :=
 lB (t F.ab [picture]) fun _ =>
 lB ((dIx picture (.int 0)).bind fun x=>((dIx picture (.int 1)).bind fun x1=>t F.au [x1]).bind fun x2=>.ok (.tup [x,x2])) .rt
def ja (t:Nat→List D→R D)(start:D)(length:D)(side:D):L Unit :=
 lB (vAnd (dLe (.int 0) start) (vAnd (dLe (.int 1) length) ((dAdd start length).bind fun x=>dLe x side))) .rt
def km (t:Nat→List D→R D)(picture:D)(thing:D):L Unit :=
 lS (lB (σ:=Unit) (rOr (rNot (asB (dIsA qTup thing))) (asB ((dLen [thing]).bind fun x=>dNf x (.int 4)))) fun b=>if b=true then .rt (.bl false) else .nx ()) fun _ =>
 lS (lB (σ:=Unit) (rNot (asB (((sq thing).bind fun xs=>cMap (fun number=>t F.al [number]) xs).bind fun x1=>dAll [x1]))) fun b1=>if b1=true then .rt (.bl false) else .nx ()) fun _ =>
 lB (t F.ak [picture]) fun side =>
 lB (vAnd ((dIx thing (.int 0)).bind fun x4=>(dIx thing (.int 2)).bind fun x5=>t F.aC [x4,x5,side]) ((dIx thing (.int 1)).bind fun x2=>(dIx thing (.int 3)).bind fun x3=>t F.aC [x2,x3,side])) .rt
def fN (t:Nat→List D→R D)(picture:D)(thing:D):L Unit :=
 lB (rNot (asB (t F.aO [picture,thing]))) fun b=>if b=true then .er 3 else .nx ()
def eh (t:Nat→List D→R D)(row:D)(left:D)(width:D)(worth:D):L Unit :=
 lB ((((asI left).bind fun i=>dSw row none i).bind fun x=>(dMul (.tup [worth]) width).bind fun x1=>dAdd x x1).bind fun x2=>(((dAdd left width).bind asI).bind fun i1=>dSw row i1 none).bind fun x3=>dAdd x2 x3) .rt
def kn (t:Nat→List D→R D)(box:D)(worth:D)(rows:List D)(y:D):L (List D) :=
 lB (((oIx rows y).bind fun x=>(dIx box (.int 0)).bind fun x1=>(dIx box (.int 2)).bind fun x2=>t F.aF [x,x1,x2,worth]).bind fun x3=>oSt rows y x3) fun rows1=>.nx rows1
def ko (t:Nat→List D→R D)(picture:D)(box:D)(worth:D):L Unit :=
 lB (t F.ab [picture]) fun _ =>
 lB (t F.aI [picture,box]) fun _ =>
 lB (t F.aq [worth]) fun _ =>
 lB ((t F.ad [picture]).bind fun x=>asTup x) fun rows=>lS (lB ((dIx box (.int 1)).bind fun x1=>((dIx box (.int 1)).bind fun x2=>(dIx box (.int 3)).bind fun x3=>dAdd x2 x3).bind fun x4=>rng2 [x1,x4]) fun xs=>lFor (τ:=List D) (fun s x=>kn t box worth s x) xs rows) fun rows2 =>
 lB ((dTuple [(.lst rows2)]).bind fun x10=>t F.aD [x10]) .rt
def ek (t:Nat→List D→R D)(tree_:D)(order:D):L Unit :=
 lS (lB (σ:=Unit) (rNot (asB (dIsA qTup tree_))) fun b=>if b=true then .rt tree_ else .nx ()) fun _ =>
 lB (((sq order).bind fun xs=>cMap (fun number=>(dIx tree_ number).bind fun x=>t F.ar [x,order]) xs).bind fun x1=>dTuple [x1]) .rt
def mF (t:Nat→List D→R D)(picture:D)(order:D):L Unit :=
 lB (t F.aR [picture]) fun shown =>
 lB ((dIx shown (.int 0)).bind fun x=>((dIx shown (.int 1)).bind fun x1=>t F.ar [x1,order]).bind fun x2=>.ok (.tup [x,x2])) .rt
def jb (t:Nat→List D→R D)(picture:D):L Unit :=
 lB (t F.aQ [picture,(tupI [0,2,1,3])]) .rt
def hZ (t:Nat→List D→R D)(worths:List D)(row:D):L (List D) :=
 lB (oExt worths row) fun worths1 =>
 .nx worths1
def fO (t:Nat→List D→R D)(rows:D):L Unit :=
 lS (lB (sq rows) fun xs=>lFor (τ:=List D) (fun s x=>hZ t s x) xs []) fun worths1 =>
 .rt (.lst worths1)
def fP (t:Nat→List D→R D)(picture:D):L Unit :=
 lB (((t F.ad [picture]).bind fun x=>t F.aJ [x]).bind fun x1=>dSortS [x1]) .rt
def fQ (t:Nat→List D→R D)(picture:D)(worth:D):L Unit :=
 lB (((t F.ad [picture]).bind fun x=>dEnum x).bind fun xs=>cFil (fun p=>un2 p fun y row=>(asB (dInD worth row))) (fun p=>un2 p fun y row=>.ok y) xs) .rt
def kq (t:Nat→List D→R D)(picture:D)(worth:D):L Unit :=
 lB (t F.ab [picture]) fun _ =>
 lB (t F.aq [worth]) fun _ =>
 lB (t F.av [picture,worth]) fun down =>
 lS (lB (σ:=Unit) (asB ((dLen [down]).bind fun x=>dEq x (.int 0))) fun b=>if b=true then .rt .non else .nx ()) fun _ =>
 lB ((t F.aM [picture]).bind fun x1=>t F.av [x1,worth]) fun across =>
 lB ((dIx across (.int 0)).bind fun x2=>(dIx down (.int 0)).bind fun x3=>(((dIx across (.int (-1))).bind fun x4=>(dIx across (.int 0)).bind fun x5=>dSub x4 x5).bind fun x6=>dAdd x6 (.int 1)).bind fun x7=>(((dIx down (.int (-1))).bind fun x8=>(dIx down (.int 0)).bind fun x9=>dSub x8 x9).bind fun x10=>dAdd x10 (.int 1)).bind fun x11=>.ok (.tup [x2,x3,x7,x11])) .rt
def jC (t:Nat→List D→R D)(runs:List D)(worth:D):L (List D) :=
 lB (rAnd (asB (dGt (.int (runs.length:Nat)) (.int 0))) (asB (((oIx runs (.int (-1))).bind fun x=>dIx x (.int 0)).bind fun x1=>dEq x1 worth))) fun b=>if b=true then lB (((((oIx runs (.int (-1))).bind fun x2=>dIx x2 (.int 1)).bind fun x3=>dAdd x3 (.int 1)).bind fun x4=>.ok (.tup [worth,x4])).bind fun x5=>oStN runs (.int (-1)) x5) fun runs1=>.nx runs1 else lB (oApp runs (.tup [worth,(.int 1)])) fun runs2 =>
 .nx runs2
def jc (t:Nat→List D→R D)(picture:D)(y:D):L Unit :=
 lB (t F.ab [picture]) fun _ =>
 lB (t F.aG [picture,(.int 0),y]) fun _ =>
 lS (lB (((t F.ad [picture]).bind fun x=>dIx x y).bind fun x1=>sq x1) fun xs=>lFor (τ:=List D) (fun s x=>jC t s x) xs []) fun runs2 =>
 .rt (.lst runs2)
def h7 (t:Nat→List D→R D)(rows:D)(couples:List D)(y:D)(row:D):L (List D) :=
 lB ((((dAdd y (.int 1)).bind fun x=>(dLen [rows]).bind fun x1=>rng2 [x,x1]).bind fun xs=>cFil (fun other=>(asB ((dIx rows other).bind fun x2=>dEq x2 row))) (fun other=>.ok (.tup [y,other])) xs).bind fun x3=>oExt couples x3) fun couples1 =>
 .nx couples1
def fR (t:Nat→List D→R D)(picture:D):L Unit :=
 lB (t F.ad [picture]) fun rows =>
 lS (lB (dEnum rows) fun xs1=>lFor (τ:=List D) (fun s p=>lUn2 p fun x0 x1=>h7 t rows s x0 x1) xs1 []) fun couples1 =>
 .rt (.lst couples1)
def fT (t:Nat→List D→R D)(things:D)(by_:D):L Unit :=
 lB (dLen [things]) fun many =>
 lB (((rng1 [many]).bind fun xs=>cMap (fun place=>((dSub place by_).bind fun x=>dMod x many).bind fun x1=>dIx things x1) xs).bind fun x2=>dTuple [x2]) .rt
def kr (t:Nat→List D→R D)(picture:D)(right:D)(down:D):L Unit :=
 lB ((t F.ad [picture]).bind fun x=>t F.aw [x,down]) fun rows =>
 lB ((((sq rows).bind fun xs=>cMap (fun row=>t F.aw [row,right]) xs).bind fun x1=>dTuple [x1]).bind fun x2=>t F.aD [x2]) .rt
def kt (t:Nat→List D→R D)(worth:D)(told:D)(edge:D):L (D) :=
 lB (t F.aP [told,edge,worth]) fun told1 =>
 .nx told1
def ku (t:Nat→List D→R D)(picture:D)(worth:D):L Unit :=
 lB (t F.ab [picture]) fun _ =>
 lB ((t F.ak [picture]).bind fun x=>dSub x (.int 1)) fun last =>
 lS (lB ((((dAdd last (.int 1)).bind fun x1=>.ok (.tup [(.int 0),(.int 0),x1,(.int 1)])).bind fun x2=>((dAdd last (.int 1)).bind fun x3=>.ok (.tup [(.int 0),last,x3,(.int 1)])).bind fun x4=>((dAdd last (.int 1)).bind fun x5=>.ok (.tup [(.int 0),(.int 0),(.int 1),x5])).bind fun x6=>((dAdd last (.int 1)).bind fun x7=>.ok (.tup [last,(.int 0),(.int 1),x7])).bind fun x8=>.ok (.lst [x2,x4,x6,x8])).bind fun x9=>sq x9) fun xs=>lFor (τ:=D) (fun s x=>kt t worth s x) xs picture) fun told1 =>
 .rt told1
def en (t:Nat→List D→R D)(ve:D)(vE:D):L Unit :=
 lS (lB (σ:=Unit) (asB ((dLen [ve]).bind fun x=>dLt vE x)) fun b=>if b=true then lB (dIx ve vE) .rt else .nx ()) fun _ =>
 lS (lB (σ:=Unit) (asB (dEq ve (.lst []))) fun b1=>if b1=true then .rt (.int 0) else .nx ()) fun _ =>
 lB (((((dLen [ve]).bind fun x1=>dMod vE x1).bind fun x2=>dIx ve x2).bind fun x3=>dMul x3 (.int 31)).bind fun x4=>dAdd x4 vE) .rt
def eo (t:Nat→List D→R D)(ve:D)(vE:D)(vH:D):L Unit :=
 lB ((((t F.aA [ve,vE]).bind fun x=>((dAdd vE (.int 1)).bind fun x1=>dMul (.int 6151) x1).bind fun x2=>dAdd x x2).bind fun x3=>dMul x3 (.int 40692)).bind fun x4=>dMod x4 (.int 2147483399)) fun vF =>
 lB ((((dMul vF vF).bind fun x5=>(dDiv vF (.int 31)).bind fun x6=>dAdd x5 x6).bind fun x7=>dMod x7 (.int 2147483629)).bind fun x8=>dMod x8 vH) .rt
def e9 (t:Nat→List D→R D)(vh:D):L Unit :=
 lB ((dIsA (qEx esL 3) vh).bind fun x=>(dIsA (qEx esL 6) vh).bind fun x1=>(dIsA (qEx esL 7) vh).bind fun x2=>.ok [x,x1,x2]) fun vC=>lB (((dIsA (qEx esL 11) vh).bind fun x3=>.ok (.lst [x3])).bind fun x4=>oExt vC x4) fun vm =>
 lB (((dIsA (qEx esL 8) vh).bind fun x5=>(dIsA (qEx esL 1) vh).bind fun x6=>(dIsA (qEx esL 5) vh).bind fun x7=>.ok (.lst [x5,x6,x7])).bind fun x8=>dAdd (.lst vm) x8) fun vn =>
 lB (((dIsA (qEx esL 2) vh).bind fun x9=>(dIsA (qEx esL 10) vh).bind fun x10=>(dIsA (qEx esL 9) vh).bind fun x11=>.ok (.lst [x9,x10,x11])).bind fun x12=>dAdd vn x12) fun vo =>
 lB (((dIsA (qEx esL 4) vh).bind fun x13=>.ok (.lst [x13])).bind fun x14=>dAdd vo x14) fun vi =>
 lS (lB (σ:=Unit) (rOr (asB ((onL vi fun ls=>dCount ls [(.bl true)]).bind fun x15=>dNf x15 (.int 1))) (rNot (asB (dIsA (qVx esL) vh)))) fun b=>if b=true then .rt (.str "wrong") else .nx ()) fun _ =>
 lB (oExt [(.str "bad box"),(.str "no blocks"),(.str "no change"),(.str "no name"),(.str "no number"),(.str "no picture"),(.str "no rule")] (.lst [(.str "no spot"),(.str "no text")])) fun vp =>
 lB ((dAdd (.lst vp) (.lst [(.str "nothing done"),(.str "unlike")])).bind fun x16=>(onL vi fun ls1=>dIndex ls1 [(.bl true)]).bind fun x17=>dIx x16 x17) .rt
def pf:Nat→Nat→List D→R D
 | 0,_=>fun _=>.stuck
 | n+1,i=>match i with
  | 20=>a1 (g9 (pf n))
  | 21=>a1 (hG (pf n))
  | 22=>a1 (i5 (pf n))
  | 23=>a3 (i6 (pf n))
  | 24=>a2 (cB (pf n))
  | 25=>a1 (cL (pf n))
  | 26=>a1 (fL (pf n))
  | 43=>a4 (hJ (pf n))
  | 44=>a4 (i7 (pf n))
  | 27=>a1 (d9 (pf n))
  | 28=>a1 (cC (pf n))
  | 65=>a1 (dh (pf n))
  | 45=>a1 (i8 (pf n))
  | 46=>a2 (hU (pf n))
  | 47=>a3 (ed (pf n))
  | 49=>a2 (fM (pf n))
  | 50=>a1 (eg (pf n))
  | 51=>a2 (kl (pf n))
  | 52=>a1 (hV (pf n))
  | 53=>a1 (i9 (pf n))
  | 29=>a1 (qu (pf n))
  | 66=>a3 (ja (pf n))
  | 67=>a2 (km (pf n))
  | 68=>a2 (fN (pf n))
  | 82=>a4 (eh (pf n))
  | 83=>a3 (ko (pf n))
  | 69=>a2 (ek (pf n))
  | 70=>a2 (mF (pf n))
  | 71=>a1 (jb (pf n))
  | 72=>a1 (fO (pf n))
  | 76=>a1 (fP (pf n))
  | 77=>a2 (fQ (pf n))
  | 78=>a2 (kq (pf n))
  | 79=>a2 (jc (pf n))
  | 80=>a1 (fR (pf n))
  | 85=>a2 (fT (pf n))
  | 86=>a3 (kr (pf n))
  | 87=>a2 (ku (pf n))
  | 30=>a2 (en (pf n))
  | 31=>a3 (eo (pf n))
  | 89=>a1 (e9 (pf n))
  | _=>fun _=>.stuck
theorem og (n:Nat)(a0 a1:D):pf (n+1) F.aA [a0,a1]=outL (en (pf n) a0 a1):=rfl
theorem oh (n:Nat)(a0 a1 a2:D):pf (n+1) F.ao [a0,a1,a2]=outL (eo (pf n) a0 a1 a2):=rfl
namespace M
abbrev law_k06:Nat:=1
end M
def aw (t:Nat→List D→R D)(rf:Wd→RW)(W:Wd):LW Unit :=
 lwTryR (qTk esL) (t F.ah) (lwB (rf W) fun w d=>.rt w d)
def au (t:Nat→List D→R D)(tr:Nat→Wd→List D→R D)(tw:Nat→Wd→List D→RW)(ve:D)(vj:D)(vJ:D)(vG:D)(W:Wd)(vE:D):LW Unit :=
 lwR W ((((t F.ao [ve,(.int 0),(.int 10)]).bind fun x=>(dMul (.int 3) vE).bind fun x1=>dAdd x x1).bind fun x2=>dMod x2 (.int 10)).bind fun x3=>dIx vj x3) fun vf =>
 lwR W ((((t F.ao [ve,(.int 1),(.int 8)]).bind fun x4=>(dMul (.int 3) vE).bind fun x5=>dAdd x4 x5).bind fun x6=>dMod x6 (.int 8)).bind fun x7=>dIx vJ x7) fun vg =>
 lwB (outW (aw t (fun w=>rwR w (t F.af [vf])) W)) fun w1 vD =>
 lwB (outW (aw t (fun w2=>rwR w2 (t F.ac [vf,vg])) w1)) fun w3 d=>lwR w3 (oApp [vD] d) fun vq =>
 lwB (outW (aw t (fun w4=>rwR w4 (t F.ac [vG,vg])) w3)) fun w5 d1=>lwR w5 (oApp vq d1) fun vt =>
 lwB (outW (aw t (fun w6=>rwR w6 (t F.aa [vf,vg])) w5)) fun w7 d2=>lwR w7 (oApp vt d2) fun vw =>
 lwB (outW (aw t (fun w8=>rwR w8 (t F.ag [vf])) w7)) fun w9 d3=>lwR w9 (oApp vw d3) fun vz =>
 lwB (outW (aw t (fun w10=>rwR w10 (t F.ap [vf,(.int 1),(.int 1)])) w9)) fun w11 d4=>lwR w11 (oApp vz d4) fun vA =>
 lwB (outW (aw t (fun w12=>rwR w12 (t F.ae [vf,vg])) w11)) fun w13 d5=>lwR w13 (oApp vA d5) fun vB =>
 lwB (outW (aw t (fun w14=>rwR w14 (t F.ae [vG,vg])) w13)) fun w15 d6=>lwR w15 (oApp vB d6) fun vk =>
 lwS (lwT (σ:=Unit) (rwR w15 (((asB ((dMul (.lst [(.str "no picture")]) (.int 8)).bind fun x8=>dNf (.lst vk) x8))).bind fun t=>.ok (.bl t))) (fun w16=>.rt w16 (.bl false)) (fun w17=>.nx w17 ())) fun w18 _ =>
 lwS (lwT (σ:=Unit) (rwB (outW (aw t (fun w19=>rwR w19 (t F.aa [vG,vg])) w18)) fun w20 d7=>rwA w20 (.ok (.str "no spot")) fun y=>rwR w20 (dNf d7 y)) (fun w21=>.rt w21 (.bl false)) (fun w22=>.nx w22 ())) fun w23 _ =>
 lwT (rwB (outW (aw t (fun w24=>rwR w24 (t F.aa [(.tup [(.int 0),(.int 5)]),(.int 1)])) w23)) fun w25 d8=>rwA w25 (.ok (.str "no spot")) fun y1=>rwR w25 (dNf d8 y1)) (fun w26=>.rt w26 (.bl false)) (fun w27=>.nx w27 ())
def dc (t:Nat→List D→R D)(tr:Nat→Wd→List D→R D)(tw:Nat→Wd→List D→RW)(W:Wd)(ve:D):LW Unit :=
 lwR W (oExt [.non,(.tup []),(.tup [(.int 4),(.int 0)]),(.tup [(.int 0),(.tup [(.int 1),(.int 1),(.int 1),(.int 1)])]),(.tup [(.int 1),(.tup [(.int 1),(.int 1),(.int 1)])]),(.lst [(.int 0),(.int 1)]),(.tup [(.bl true),(.int 1)]),(.tup [(.int 1),(.int 10)]),(.tup [(.int 0),(.bl true)])] (.lst [(.tup [(.int 2),(.tup [(.tup [(.int 1),(.int 2),(.int 3),(.int (-1))]),(.int 0),(.int 0),(.int 0)])])])) fun vj =>
 lwS (lwR W (rng1 [(.int 4)]) fun xs=>lwFor (τ:=Unit) (fun W _ x=>au t tr tw ve (.lst vj) (.lst [.non,(.int (-1)),(.int 10),(.bl true),(.str "1"),(.tup [(.int 0)]),(.lst [(.int 1)]),(.int 99)]) (.tup [(.int 1),(.tup [(.int 1),(.int 2),(.int 3),(.int 3)])]) W x) xs W ()) fun w29 _ =>
 lwR w29 (vAnd ((t F.aa [(.tup [(.int 1),(.tup [(.int 1),(.int 2),(.int 3),(.int 3)])]),(.int 1)]).bind fun x12=>dEq x12 (.lst [(.tup [(.int 3),(.int 2)])])) (vAnd ((t F.ac [(.tup [(.int 1),(.tup [(.int 1),(.int 2),(.int 3),(.int 3)])]),(.int 3)]).bind fun x11=>dEq x11 (.tup [(.int 0),(.int 1),(.int 2),(.int 1)])) ((t F.ac [(.tup [(.int 1),(.tup [(.int 1),(.int 2),(.int 3),(.int 3)])]),(.int 0)]).bind fun x10=>dIs x10 .non))) fun d=>.rt w29 d
def pr:Nat→Nat→Wd→List D→R D
 | 0,_=>fun _ _=>.stuck
 | n+1,i=>match i with
  | _=>fun _ _=>.stuck
def pw:Nat→Nat→Wd→List D→RW
 | 0,_=>fun _ _=>.stuck
 | n+1,i=>match i with
  | 1=>match n with
   | m+2=>b1 (dc (pf m) (pr m) (pw m))
   | _=>fun _ _=>.stuck
  | _=>fun _ _=>.stuck
theorem lz (n:Nat)(W:Wd)(a0:D):pw (n+3) M.law_k06 W [a0]=outW (dc (pf n) (pr n) (pw n) W a0):=rfl
end Lw
end
noncomputable section
set_option maxHeartbeats 4000000
namespace Lw
open PySem PySem.Spec PyProof.Rows L2 FF
def top (i:Nat):Stmt:=PySem.Challenge.pw_fourfold_k06_measures_refused.main.body.getD i (.Pass ⟨0,0,0,0⟩)
abbrev dA:Stmt:=top 16
theorem kx:FnScope ["thing"] ["thing"] (defScope dA):=mkSc
abbrev dB:Stmt:=top 17
theorem ky:FnScope ["thing"] ["thing"] (defScope dB):=mkSc
abbrev fb:Stmt:=top 18
theorem lA:FnScope ["thing"] ["thing"] (defScope fb):=mkSc
abbrev fc:Stmt:=top 19
theorem lC:FnScope ["size","thing","is_end"] ["size","thing","is_end"] (defScope fc):=mkSc
abbrev bC:Stmt:=top 20
theorem fe:FnScope ["thing","is_end"] ["thing","is_end"] (defScope bC):=mkSc
abbrev bN:Stmt:=top 21
theorem cD:FnScope ["four","first"] ["four"] (defScope bN):=mkSc
abbrev cM:Stmt:=top 22
theorem jD:FnScope ["tree"] ["tree"] (defScope cM):=mkSc
abbrev dC:Stmt:=top 23
theorem cN:FnScope ["tree","side","x","y","half","number"] ["tree","side","x","y"] (defScope dC):=mkSc
abbrev fg:Stmt:=top 24
theorem h8:FnScope ["rows","left","top","side","half"] ["rows","left","top","side"] (defScope fg):=mkSc
abbrev cr:Stmt:=top 27
theorem iE:FnScope ["thing"] ["thing"] (defScope cr):=mkSc
abbrev bD:Stmt:=top 28
theorem fi:FnScope ["thing"] ["thing"] (defScope bD):=mkSc
abbrev bV:Stmt:=top 29
theorem ia:FnScope ["thing"] ["thing"] (defScope bV):=mkSc
abbrev fj:Stmt:=top 30
theorem lD:FnScope ["picture"] ["picture"] (defScope fj):=mkSc
abbrev dD:Stmt:=top 31
theorem kz:FnScope ["side","thing"] ["side","thing"] (defScope dD):=mkSc
abbrev cu:Stmt:=top 32
theorem di:FnScope ["picture","x","y","side"] ["picture","x","y"] (defScope cu):=mkSc
abbrev cO:Stmt:=top 33
theorem et:FnScope ["picture","y","side"] ["picture","y"] (defScope cO):=mkSc
abbrev cw:Stmt:=top 34
theorem iF:FnScope ["picture"] ["picture"] (defScope cw):=mkSc
abbrev ib:Stmt:=top 35
theorem oi:FnScope ["thing","side"] ["thing","side"] (defScope ib):=mkSc
abbrev dE:Stmt:=top 36
theorem kA:FnScope ["thing"] ["thing"] (defScope dE):=mkSc
abbrev fk:Stmt:=top 37
theorem ic:FnScope ["rows","side"] ["rows"] (defScope fk):=mkSc
abbrev lE:Stmt:=top 38
theorem sd:FnScope ["picture"] ["picture"] (defScope lE):=mkSc
abbrev fm:Stmt:=top 40
theorem lF:FnScope ["start","length","side"] ["start","length","side"] (defScope fm):=mkSc
abbrev ig:Stmt:=top 41
theorem jd:FnScope ["picture","thing","side"] ["picture","thing"] (defScope ig):=mkSc
abbrev cP:Stmt:=top 42
theorem jE:FnScope ["picture","thing"] ["picture","thing"] (defScope cP):=mkSc
abbrev cx:Stmt:=top 43
theorem iG:FnScope ["row","left","width","worth"] ["row","left","width","worth"] (defScope cx):=mkSc
abbrev ii:Stmt:=top 44
theorem fq:FnScope ["picture","box","worth","rows","y"] ["picture","box","worth"] (defScope ii):=mkSc
abbrev cy:Stmt:=top 47
theorem iH:FnScope ["tree","order"] ["tree","order"] (defScope cy):=mkSc
abbrev jF:Stmt:=top 48
theorem kB:FnScope ["picture","order","shown"] ["picture","order"] (defScope jF):=mkSc
abbrev fu:Stmt:=top 49
theorem lG:FnScope ["picture"] ["picture"] (defScope fu):=mkSc
abbrev cQ:Stmt:=top 51
theorem cz:FnScope ["rows","worths","row"] ["rows"] (defScope cQ):=mkSc
abbrev cR:Stmt:=top 53
theorem jG:FnScope ["picture"] ["picture"] (defScope cR):=mkSc
abbrev cS:Stmt:=top 54
theorem jH:FnScope ["picture","worth"] ["picture","worth"] (defScope cS):=mkSc
abbrev ij:Stmt:=top 55
theorem fv:FnScope ["picture","worth","down","across"] ["picture","worth"] (defScope ij):=mkSc
abbrev fw:Stmt:=top 56
theorem dF:FnScope ["picture","y","runs","worth"] ["picture","y"] (defScope fw):=mkSc
abbrev cT:Stmt:=top 57
theorem bF:FnScope ["picture","rows","couples","y","row"] ["picture"] (defScope cT):=mkSc
abbrev cU:Stmt:=top 58
theorem ez:FnScope ["things","by","many"] ["things","by"] (defScope cU):=mkSc
abbrev ik:Stmt:=top 59
theorem je:FnScope ["picture","right","down","rows"] ["picture","right","down"] (defScope ik):=mkSc
abbrev il:Stmt:=top 60
theorem bZ:FnScope ["picture","worth","last","told","edge"] ["picture","worth"] (defScope il):=mkSc
abbrev im:Stmt:=top 62
theorem oj:FnScope ["_law_script","_law_k"] ["_law_script","_law_k"] (defScope im):=mkSc
abbrev io:Stmt:=top 63
theorem jf:FnScope ["_law_script","_law_k","_law_many","_law_drawn"] ["_law_script","_law_k","_law_many"] (defScope io):=mkSc
abbrev de:Stmt:=top 64
theorem aC:FnScope ["_law_kept","_law_kinds","_law_some"] ["_law_kept"] (defScope de):=mkSc
structure Txt (K:PySem.W.Frag)(mg:Str→Option Value)(C:Nat→Addr)(wP:Params):Prop where
 b_ValueError:mg "ValueError"=none
 b_all:mg "all"=none
 b_bool:mg "bool"=none
 b_enumerate:mg "enumerate"=none
 b_int:mg "int"=none
 b_isinstance:mg "isinstance"=none
 b_len:mg "len"=none
 b_list:mg "list"=none
 b_range:mg "range"=none
 b_set:mg "set"=none
 b_sorted:mg "sorted"=none
 b_tuple:mg "tuple"=none
 k_GREATEST_WORTH:∃ t,mg "GREATEST_WORTH"=some (.int 9 t)
 k_LARGEST_SIZE:∃ t,mg "LARGEST_SIZE"=some (.int 3 t)
 t_BY_SWAPPING:∃ a,mg "BY_SWAPPING"=some (.ref a)∧TupK K a [0,2,1,3]
 t_SIDES:∃ a,mg "SIDES"=some (.ref a)∧TupK K a [1,2,4,8]
 f_is_worth:mg "is_worth"=some (.ref (C F.ai))
 c_FourError:mg "FourError"=some (.ref (C 0))
 c_NoPicture:mg "NoPicture"=some (.ref (C 1))
 c_NoSpot:mg "NoSpot"=some (.ref (C 2))
 c_BadBox:mg "BadBox"=some (.ref (C 3))
 c_Unlike:mg "Unlike"=some (.ref (C 4))
 c_NoRule:mg "NoRule"=some (.ref (C 5))
 c_NoBlocks:mg "NoBlocks"=some (.ref (C 6))
 c_NoChange:mg "NoChange"=some (.ref (C 7))
 c_NoNumber:mg "NoNumber"=some (.ref (C 8))
 c_NothingDone:mg "NothingDone"=some (.ref (C 9))
 c_NoText:mg "NoText"=some (.ref (C 10))
 c_NoName:mg "NoName"=some (.ref (C 11))
 x_NoPicture:PySem.W.excIn K (C 1) bmVE "ValueError.__new__"=true
 x_NoSpot:PySem.W.excIn K (C 2) bmVE "ValueError.__new__"=true
 x_BadBox:PySem.W.excIn K (C 3) bmVE "ValueError.__new__"=true
 i_BadBox:IsA K C (.ref (C 3)) (qEx esL 3)
 i_NoBlocks:IsA K C (.ref (C 6)) (qEx esL 6)
 i_NoChange:IsA K C (.ref (C 7)) (qEx esL 7)
 i_NoName:IsA K C (.ref (C 11)) (qEx esL 11)
 i_NoNumber:IsA K C (.ref (C 8)) (qEx esL 8)
 i_NoPicture:IsA K C (.ref (C 1)) (qEx esL 1)
 i_NoRule:IsA K C (.ref (C 5)) (qEx esL 5)
 i_NoSpot:IsA K C (.ref (C 2)) (qEx esL 2)
 i_NoText:IsA K C (.ref (C 10)) (qEx esL 10)
 i_NothingDone:IsA K C (.ref (C 9)) (qEx esL 9)
 i_Unlike:IsA K C (.ref (C 4)) (qEx esL 4)
 i_ValueError:IsA K C (.ty "ValueError") (qVx esL)
 takes:Takes K C (C 0) (qTk esL)
structure Tab (P:Program)(w:World)(K:PySem.W.Frag)(mg:Str→Option Value)(base:Heap)(C:Nat→Addr)(k:Nat)(t:Nat→List FF.D→FF.R FF.D):Prop where
 g20:Fn1 P w K mg base C k "is_whole" ["thing"] (t F.al)
 g21:Fn1 P w K mg base C k "is_worth" ["thing"] (t F.ai)
 g22:Fn1 P w K mg base C k "is_size" ["thing"] (t F.aL)
 g23:Fn1 P w K mg base C k "is_tree" ["size","thing","is_end"] (t F.aB)
 g24:Fn1 P w K mg base C k "is_sized_tree" ["thing","is_end"] (t F.ax)
 g25:Fn1 P w K mg base C k "put_together" ["four"] (t F.an)
 g26:Fn1 P w K mg base C k "lean_tree" ["tree"] (t F.au)
 g43:Fn1 P w K mg base C k "worth_in" ["tree","side","x","y"] (t F.ay)
 g44:Fn1 P w K mg base C k "tree_of" ["rows","left","top","side"] (t F.aj)
 g27:Fn1 P w K mg base C k "is_picture" ["thing"] (t F.aE)
 g28:Fn1 P w K mg base C k "check_picture" ["thing"] (t F.ab)
 g65:Fn1 P w K mg base C k "check_worth" ["thing"] (t F.aq)
 g45:Fn1 P w K mg base C k "side_of" ["picture"] (t F.ak)
 g46:Fn1 P w K mg base C k "is_along" ["side","thing"] (t F.az)
 g47:Fn1 P w K mg base C k "check_spot" ["picture","x","y"] (t F.aG)
 g49:Fn1 P w K mg base C k "shown_row" ["picture","y"] (t F.aH)
 g50:Fn1 P w K mg base C k "shown_rows" ["picture"] (t F.ad)
 g51:Fn1 P w K mg base C k "is_row" ["thing","side"] (t F.aN)
 g52:Fn1 P w K mg base C k "are_rows" ["thing"] (t F.aK)
 g53:Fn1 P w K mg base C k "of_rows" ["rows"] (t F.aD)
 g29:Fn1 P w K mg base C k "lean" ["picture"] (t F.aR)
 g66:Fn1 P w K mg base C k "is_span" ["start","length","side"] (t F.aC)
 g67:Fn1 P w K mg base C k "is_box" ["picture","thing"] (t F.aO)
 g68:Fn1 P w K mg base C k "check_box" ["picture","thing"] (t F.aI)
 g82:Fn1 P w K mg base C k "filled_row" ["row","left","width","worth"] (t F.aF)
 g83:Fn1 P w K mg base C k "filled" ["picture","box","worth"] (t F.aP)
 g69:Fn1 P w K mg base C k "moved_tree" ["tree","order"] (t F.ar)
 g70:Fn1 P w K mg base C k "moved" ["picture","order"] (t F.aQ)
 g71:Fn1 P w K mg base C k "swapped" ["picture"] (t F.aM)
 g72:Fn1 P w K mg base C k "worths_of" ["rows"] (t F.aJ)
 g76:Fn1 P w K mg base C k "worths_in" ["picture"] (t F.af)
 g77:Fn1 P w K mg base C k "rows_with" ["picture","worth"] (t F.av)
 g78:Fn1 P w K mg base C k "box_of" ["picture","worth"] (t F.ac)
 g79:Fn1 P w K mg base C k "runs_in" ["picture","y"] (t F.aa)
 g80:Fn1 P w K mg base C k "like_rows" ["picture"] (t F.ag)
 g85:Fn1 P w K mg base C k "rolled_on" ["things","by"] (t F.aw)
 g86:Fn1 P w K mg base C k "rolled" ["picture","right","down"] (t F.ap)
 g87:Fn1 P w K mg base C k "framed" ["picture","worth"] (t F.ae)
 g30:Fn1 P w K mg base C k "_law_cell" ["_law_script","_law_k"] (t F.aA)
 g31:Fn1 P w K mg base C k "_law_pick" ["_law_script","_law_k","_law_many"] (t F.ao)
 g89:Fn1 P w K mg base C k "_law_class" ["_law_kept"] (t F.ah)
 v:∀ i∈fvL,FnV P w K mg base C k i (t i)
section
variable {P:Program}{w:World}{K:PySem.W.Frag}{mg:Str→Option Value}{base:Heap}{C:Nat→Addr}{k:Nat}{t:Nat→List FF.D→FF.R FF.D}(T:Txt K mg C w.params)(G:Tab P w K mg base C k t)
include T G
theorem kC:OkD P w K mg base C k "is_whole" dA ["thing"] (a1 (g9 t)):=ok1 kx fun thing _ _ _ _ _ _ _ _ bx _ _=>by
 show FL _ _ [vv thing] _ _ _
 refine av (aj (bR (aq bx rfl T.b_isinstance rm (ac 0) (bc rfl T.b_int (by decide +kernel) rfl)) (cG (tN (aq bx rfl T.b_isinstance pj (ac 0) (bc rfl T.b_bool (by decide +kernel) rfl)))))) ?_
 rfl
theorem fU:OkD P w K mg base C k "is_worth" dB ["thing"] (a1 (hG t)):=ok1 ky fun thing _ _ _ _ _ _ _ _ bx _ _=>by
 show FL _ _ [vv thing] _ _ _
 refine av (aj (bR (af bx G.g20 rfl (aa (ac 0) ad (ae rfl))) (cG (ma ag (ac 0) (mh T.k_GREATEST_WORTH rfl))))) ?_
 rfl
theorem lH:OkD P w K mg base C k "is_size" fb ["thing"] (a1 (i5 t)):=ok1 lA fun thing _ _ _ _ _ _ _ _ bx _ _=>by
 show FL _ _ [vv thing] _ _ _
 refine av (aj (bR (af bx G.g20 rfl (aa (ac 0) ad (ae rfl))) (cG (ma ag (ac 0) (mh T.k_LARGEST_SIZE rfl))))) ?_
 rfl
theorem lI:OkD P w K mg base C k "is_tree" fc ["size","thing","is_end"] (a3 (i6 t)):=ok3 lC fun size_ thing is_end _ _ _ _ _ _ _ _ bx _ _=>by
 show FL _ _ [vv size_,vv thing,vv is_end] _ _ _
 refine aN (inj:=fun (_:Unit) (w:Unit)=>[vv size_,vv thing,vv is_end]) (aM (a7 (a6 (aq bx rfl T.b_isinstance bE (ac 1) (bc rfl T.b_tuple (by decide +kernel) rfl)))) ?_ ?_ ?_) (fun _ w=>?_)
 rfl
 ·refine av (aj (pG bx G.v (ac 2) (aa (ac 1) ad (ae rfl)))) ?_
  rfl
 ·exact aD ⟨(),rfl⟩
 refine aN (inj:=fun (_:Unit) (w1:Unit)=>[vv size_,vv thing,vv is_end]) (aM (ft_w (fD (gL bx (ac 0) ag) (cF (iX bx (fe_N (bB bx rfl T.b_len (FAL.out (aa (ac 1) ad (ae rfl))))) ag)))) ?_ ?_ ?_) (fun _ w1=>?_)
 rfl
 ·refine aJ (aj bO) ?_
  rfl
 ·exact aD ⟨(),rfl⟩
 refine av (aj (fe_N (jq bx rfl T.b_all (FAL.out (aa (fe_C (br (N:=["part","is_end","size"]) (own:=1) (cap:=[2,0]) bx (BlkOk.of (by kernel_rfl)) (bS bx.K (ac 1)) (bI (by decide)) (fun _ _ _ _ _=>aT 0 (show List.Nodup (α:=Str) ["part","is_end","size"] by decide +kernel)) (fun _ _ _ _ _=>(af (bd bx) G.g23 rfl (aa (gJ (ac 2) ag) (aa (ac 0) (aa (ac 1) ad (ae rfl)) (ae rfl)) (ae rfl)))))) ad (ae rfl)))))) ?_
 rfl
theorem fz:OkD P w K mg base C k "is_sized_tree" bC ["thing","is_end"] (a2 (cB t)):=ok2 fe fun thing is_end _ _ _ _ _ _ _ _ bx _ _=>by
 show FL _ _ [vv thing,vv is_end] _ _ _
 refine aN (inj:=fun (_:Unit) (w:Unit)=>[vv thing,vv is_end]) (aM (ft_w (fD (a7 (a6 (aq bx rfl T.b_isinstance bE (ac 0) (bc rfl T.b_tuple (by decide +kernel) rfl)))) (cF (iX bx (fe_N (bB bx rfl T.b_len (FAL.out (aa (ac 0) ad (ae rfl))))) ag)))) ?_ ?_ ?_) (fun _ w=>?_)
 rfl
 ·refine aJ (aj bO) ?_
  rfl
 ·exact aD ⟨(),rfl⟩
 refine av (aj (bR (af bx G.g22 rfl (aa (ah bx.K (ac 0) ag) ad (ae rfl))) (cG (af bx G.g23 rfl (aa (ah bx.K (ac 0) ag) (aa (ah bx.K (ac 0) ag) (aa (ac 1) ad (ae rfl)) (ae rfl)) (ae rfl)))))) ?_
 rfl
theorem fX:OkD P w K mg base C k "put_together" bN ["four"] (a1 (cL t)):=ok1 cD fun four _ _ _ _ _ _ _ _ bx _ _=>by
 show FL _ _ [vv four,nn] _ _ _
 refine ak (S':=fun first=>[vv four,vv first]) (aE 1 cD.nd (ah bx.K (ac 0) ag)) ?_ (fun first=>?_)
 rfl
 refine aN (inj:=fun (_:Unit) (w:Unit)=>[vv four,vv first]) (aM (ft_w (oU (a7 (a6 (aq bx rfl T.b_isinstance bE (ac 1) (bc rfl T.b_tuple (by decide +kernel) rfl)))) (l6 (gL bx (ac 0) (aO (aa (ac 1) (aa (ac 1) (aa (ac 1) (aa (ac 1) ad (ae rfl)) (ae rfl)) (ae rfl)) (ae rfl))))))) ?_ ?_ ?_) (fun _ w=>?_)
 rfl
 ·refine aJ (aj (ac 1)) ?_
  rfl
 ·exact aD ⟨(),rfl⟩
 refine aJ (aj (ac 0)) ?_
 rfl
theorem jI:OkD P w K mg base C k "lean_tree" cM ["tree"] (a1 (fL t)):=ok1 jD fun tree_ _ _ _ _ _ _ _ _ bx _ _=>by
 show FL _ _ [vv tree_] _ _ _
 refine aN (inj:=fun (_:Unit) (w:Unit)=>[vv tree_]) (aM (a7 (a6 (aq bx rfl T.b_isinstance bE (ac 0) (bc rfl T.b_tuple (by decide +kernel) rfl)))) ?_ ?_ ?_) (fun _ w=>?_)
 rfl
 ·refine aJ (aj (ac 0)) ?_
  rfl
 ·exact aD ⟨(),rfl⟩
 refine av (aj (af bx G.g25 rfl (aa (fe_N (bJ bx rfl T.b_tuple (FAL.out (aa (fe_C (br (N:=["part"]) (own:=1) (cap:=[]) bx (BlkOk.of (by kernel_rfl)) (bS bx.K (ac 0)) (bI (by decide)) (fun _ _ _ _ _=>aT 0 (show List.Nodup (α:=Str) ["part"] by decide +kernel)) (fun _ _ _ _ _=>(af (bd bx) G.g26 rfl (aa (ac 0) ad (ae rfl)))))) ad (ae rfl))))) ad (ae rfl)))) ?_
 rfl
theorem kD:OkD P w K mg base C k "worth_in" dC ["tree","side","x","y"] (a4 (hJ t)):=ok4 cN fun tree_ side x y _ _ _ _ _ _ _ _ bx _ _=>by
 show FL _ _ [vv tree_,vv side,vv x,vv y,nn,nn] _ _ _
 refine aN (inj:=fun (_:Unit) (w:Unit)=>[vv tree_,vv side,vv x,vv y,nn,nn]) (aM (a7 (a6 (aq bx rfl T.b_isinstance bE (ac 0) (bc rfl T.b_tuple (by decide +kernel) rfl)))) ?_ ?_ ?_) (fun _ w=>?_)
 rfl
 ·refine aJ (aj (ac 0)) ?_
  rfl
 ·exact aD ⟨(),rfl⟩
 refine ak (S':=fun half=>[vv tree_,vv side,vv x,vv y,vv half,nn]) (aE 4 cN.nd (gK (ac 1) ag)) ?_ (fun half=>?_)
 rfl
 refine ak (S':=fun number=>[vv tree_,vv side,vv x,vv y,vv half,vv number]) (aE 5 cN.nd (aA bx.K (cf bx.K ag (gK (ac 3) (ac 4))) (gK (ac 2) (ac 4)))) ?_ (fun number=>?_)
 rfl
 refine av (aj (af bx G.g43 rfl (aa (ah bx.K (ac 0) (ac 5)) (aa (ac 4) (aa (ce (ac 2) (ac 4)) (aa (ce (ac 3) (ac 4)) ad (ae rfl)) (ae rfl)) (ae rfl)) (ae rfl)))) ?_
 rfl
theorem lJ:OkD P w K mg base C k "tree_of" fg ["rows","left","top","side"] (a4 (i7 t)):=ok4 h8 fun rows left top side _ _ _ _ _ _ _ _ bx _ _=>by
 show FL _ _ [vv rows,vv left,vv top,vv side,nn] _ _ _
 refine aN (inj:=fun (_:Unit) (w:Unit)=>[vv rows,vv left,vv top,vv side,nn]) (aM (gL bx (ac 3) ag) ?_ ?_ ?_) (fun _ w=>?_)
 rfl
 ·refine av (aj (ah bx.K (ah bx.K (ac 0) (ac 2)) (ac 1))) ?_
  rfl
 ·exact aD ⟨(),rfl⟩
 refine ak (S':=fun half=>[vv rows,vv left,vv top,vv side,vv half]) (aE 4 h8.nd (gK (ac 3) ag)) ?_ (fun half=>?_)
 rfl
 refine av (aj (af bx G.g25 rfl (aa (aO (aa (af bx G.g44 rfl (aa (ac 0) (aa (ac 1) (aa (ac 2) (aa (ac 4) ad (ae rfl)) (ae rfl)) (ae rfl)) (ae rfl))) (aa (af bx G.g44 rfl (aa (ac 0) (aa (aA bx.K (ac 1) (ac 4)) (aa (ac 2) (aa (ac 4) ad (ae rfl)) (ae rfl)) (ae rfl)) (ae rfl))) (aa (af bx G.g44 rfl (aa (ac 0) (aa (ac 1) (aa (aA bx.K (ac 2) (ac 4)) (aa (ac 4) ad (ae rfl)) (ae rfl)) (ae rfl)) (ae rfl))) (aa (af bx G.g44 rfl (aa (ac 0) (aa (aA bx.K (ac 1) (ac 4)) (aa (aA bx.K (ac 2) (ac 4)) (aa (ac 4) ad (ae rfl)) (ae rfl)) (ae rfl)) (ae rfl))) ad (ae rfl)) (ae rfl)) (ae rfl)) (ae rfl))) ad (ae rfl)))) ?_
 rfl
theorem iI:OkD P w K mg base C k "is_picture" cr ["thing"] (a1 (d9 t)):=ok1 iE fun thing _ _ _ _ _ _ _ _ bx _ _=>by
 show FL _ _ [vv thing] _ _ _
 refine av (aj (af bx G.g24 rfl (aa (ac 0) (aa (uW T.f_is_worth rfl) ad (ae rfl)) (ae rfl)))) ?_
 rfl
theorem fA:OkD P w K mg base C k "check_picture" bD ["thing"] (a1 (cC t)):=ok1 fi fun thing _ _ _ _ _ _ _ _ bx _ made=>by
 show FL _ _ [vv thing] _ _ _
 refine gS (aM (a7 (a6 (af bx G.g27 rfl (aa (ac 0) ad (ae rfl))))) ?_ ?_ ?_)
 rfl
 ·refine j4 (cJ 1 bx made rfl T.c_NoPicture T.x_NoPicture (FAL.out (aa ax ad (ae rfl)))) ?_
  rfl
 ·exact aD True.intro
theorem ip:OkD P w K mg base C k "check_worth" bV ["thing"] (a1 (dh t)):=ok1 ia fun thing _ _ _ _ _ _ _ _ bx _ made=>by
 show FL _ _ [vv thing] _ _ _
 refine gS (aM (a7 (a6 (af bx G.g21 rfl (aa (ac 0) ad (ae rfl))))) ?_ ?_ ?_)
 rfl
 ·refine j4 (cJ 1 bx made rfl T.c_NoPicture T.x_NoPicture (FAL.out (aa ax ad (ae rfl)))) ?_
  rfl
 ·exact aD True.intro
theorem lK:OkD P w K mg base C k "side_of" fj ["picture"] (a1 (i8 t)):=ok1 lD fun picture _ _ _ _ _ _ _ _ bx _ _=>by
 show FL _ _ [vv picture] _ _ _
 refine av (aj (ah bx.K (js T.t_SIDES rfl) (ah bx.K (ac 0) ag))) ?_
 rfl
theorem kE:OkD P w K mg base C k "is_along" dD ["side","thing"] (a2 (hU t)):=ok2 kz fun side thing _ _ _ _ _ _ _ _ bx _ _=>by
 show FL _ _ [vv side,vv thing] _ _ _
 refine av (aj (bR (af bx G.g20 rfl (aa (ac 1) ad (ae rfl))) (cG (rk ag (ac 1) (ac 0))))) ?_
 rfl
theorem iJ:OkD P w K mg base C k "check_spot" cu ["picture","x","y"] (a3 (ed t)):=ok3 di fun picture x y _ _ _ _ _ _ _ _ bx _ made=>by
 show FL _ _ [vv picture,vv x,vv y,nn] _ _ _
 refine ak (S':=fun side=>[vv picture,vv x,vv y,vv side]) (aE 3 di.nd (af bx G.g45 rfl (aa (ac 0) ad (ae rfl)))) ?_ (fun side=>?_)
 rfl
 refine gS (aM (ft_w (fD (a7 (a6 (af bx G.g46 rfl (aa (ac 3) (aa (ac 1) ad (ae rfl)) (ae rfl))))) (cF (a7 (a6 (af bx G.g46 rfl (aa (ac 3) (aa (ac 2) ad (ae rfl)) (ae rfl)))))))) ?_ ?_ ?_)
 rfl
 ·refine j4 (cJ 2 bx made rfl T.c_NoSpot T.x_NoSpot (FAL.out (aa ax ad (ae rfl)))) ?_
  rfl
 ·exact aD True.intro
theorem jJ:OkD P w K mg base C k "shown_row" cO ["picture","y"] (a2 (fM t)):=ok2 et fun picture y _ _ _ _ _ _ _ _ bx _ _=>by
 show FL _ _ [vv picture,vv y,nn] _ _ _
 refine ak (S':=fun side=>[vv picture,vv y,vv side]) (aE 2 et.nd (af bx G.g45 rfl (aa (ac 0) ad (ae rfl)))) ?_ (fun side=>?_)
 rfl
 refine av (aj (fe_N (bJ bx rfl T.b_tuple (FAL.out (aa (fe_C (br (N:=["x","side","y","picture"]) (own:=1) (cap:=[2,1,0]) bx (BlkOk.of (by kernel_rfl)) (mm (cZ rfl T.b_range (FAL.out (aa (ac 2) ad (ae rfl))))) (bI (by decide)) (fun _ _ _ _ _=>aT 0 (show List.Nodup (α:=Str) ["x","side","y","picture"] by decide +kernel)) (fun _ _ _ _ _=>(af (bd bx) G.g43 rfl (aa (ah (bd bx).K (ac 3) ag) (aa (ac 1) (aa (ac 0) (aa (ac 2) ad (ae rfl)) (ae rfl)) (ae rfl)) (ae rfl)))))) ad (ae rfl)))))) ?_
 rfl
theorem iK:OkD P w K mg base C k "shown_rows" cw ["picture"] (a1 (eg t)):=ok1 iF fun picture _ _ _ _ _ _ _ _ bx _ _=>by
 show FL _ _ [vv picture] _ _ _
 refine ak (S':=fun _=>[vv picture]) (bq (af bx G.g28 rfl (aa (ac 0) ad (ae rfl)))) ?_ (fun _=>?_)
 rfl
 refine av (aj (fe_N (bJ bx rfl T.b_tuple (FAL.out (aa (fe_C (br (N:=["y","picture"]) (own:=1) (cap:=[0]) bx (BlkOk.of (by kernel_rfl)) (mm (cZ rfl T.b_range (FAL.out (aa (af bx G.g45 rfl (aa (ac 0) ad (ae rfl))) ad (ae rfl))))) (bI (by decide)) (fun _ _ _ _ _=>aT 0 (show List.Nodup (α:=Str) ["y","picture"] by decide +kernel)) (fun _ _ _ _ _=>(af (bd bx) G.g49 rfl (aa (ac 1) (aa (ac 0) ad (ae rfl)) (ae rfl)))))) ad (ae rfl)))))) ?_
 rfl
theorem om:OkD P w K mg base C k "is_row" ib ["thing","side"] (a2 (kl t)):=ok2 oi fun thing side _ _ _ _ _ _ _ _ bx _ _=>by
 show FL _ _ [vv thing,vv side] _ _ _
 refine aN (inj:=fun (_:Unit) (w:Unit)=>[vv thing,vv side]) (aM (ft_w (fD (a7 (a6 (aq bx rfl T.b_isinstance bE (ac 0) (bc rfl T.b_tuple (by decide +kernel) rfl)))) (cF (iX bx (fe_N (bB bx rfl T.b_len (FAL.out (aa (ac 0) ad (ae rfl))))) (ac 1))))) ?_ ?_ ?_) (fun _ w=>?_)
 rfl
 ·refine aJ (aj bO) ?_
  rfl
 ·exact aD ⟨(),rfl⟩
 refine av (aj (fe_N (jq bx rfl T.b_all (FAL.out (aa (fe_C (br (N:=["worth"]) (own:=1) (cap:=[]) bx (BlkOk.of (by kernel_rfl)) (bS bx.K (ac 0)) (bI (by decide)) (fun _ _ _ _ _=>aT 0 (show List.Nodup (α:=Str) ["worth"] by decide +kernel)) (fun _ _ _ _ _=>(af (bd bx) G.g21 rfl (aa (ac 0) ad (ae rfl)))))) ad (ae rfl)))))) ?_
 rfl
theorem kF:OkD P w K mg base C k "are_rows" dE ["thing"] (a1 (hV t)):=ok1 kA fun thing _ _ _ _ _ _ _ _ bx _ _=>by
 show FL _ _ [vv thing] _ _ _
 refine aN (inj:=fun (_:Unit) (w:Unit)=>[vv thing]) (aM (ft_w (fD (a7 (a6 (aq bx rfl T.b_isinstance bE (ac 0) (bc rfl T.b_tuple (by decide +kernel) rfl)))) (cF (nB bx (fe_N (bB bx rfl T.b_len (FAL.out (aa (ac 0) ad (ae rfl))))) (js T.t_SIDES rfl))))) ?_ ?_ ?_) (fun _ w=>?_)
 rfl
 ·refine aJ (aj bO) ?_
  rfl
 ·exact aD ⟨(),rfl⟩
 refine av (aj (fe_N (jq bx rfl T.b_all (FAL.out (aa (fe_C (br (N:=["row","thing"]) (own:=1) (cap:=[0]) bx (BlkOk.of (by kernel_rfl)) (bS bx.K (ac 0)) (bI (by decide)) (fun _ _ _ _ _=>aT 0 (show List.Nodup (α:=Str) ["row","thing"] by decide +kernel)) (fun _ _ _ _ _=>(af (bd bx) G.g51 rfl (aa (ac 0) (aa (fe_N (bB (bd bx) rfl T.b_len (FAL.out (aa (ac 1) ad (ae rfl))))) ad (ae rfl)) (ae rfl)))))) ad (ae rfl)))))) ?_
 rfl
theorem lL:OkD P w K mg base C k "of_rows" fk ["rows"] (a1 (i9 t)):=ok1 ic fun rows _ _ _ _ _ _ _ _ bx _ made=>by
 show FL _ _ [vv rows,nn] _ _ _
 refine aN (inj:=fun (_:Unit) (w:Unit)=>[vv rows,nn]) (aM (a7 (a6 (af bx G.g52 rfl (aa (ac 0) ad (ae rfl))))) ?_ ?_ ?_) (fun _ w=>?_)
 rfl
 ·refine j4 (cJ 1 bx made rfl T.c_NoPicture T.x_NoPicture (FAL.out (aa ax ad (ae rfl)))) ?_
  rfl
 ·exact aD ⟨(),rfl⟩
 refine ak (S':=fun side=>[vv rows,vv side]) (aE 1 ic.nd (fe_N (bB bx rfl T.b_len (FAL.out (aa (ac 0) ad (ae rfl)))))) ?_ (fun side=>?_)
 rfl
 refine av (aj (aO (aa (uZ (nv bx T.t_SIDES rfl (FAL.out (aa (ac 1) ad (ae rfl))))) (aa (af bx G.g44 rfl (aa (ac 0) (aa ag (aa ag (aa (ac 1) ad (ae rfl)) (ae rfl)) (ae rfl)) (ae rfl))) ad (ae rfl)) (ae rfl)))) ?_
 rfl
theorem se:OkD P w K mg base C k "lean" lE ["picture"] (a1 (qu t)):=ok1 sd fun picture _ _ _ _ _ _ _ _ bx _ _=>by
 show FL _ _ [vv picture] _ _ _
 refine ak (S':=fun _=>[vv picture]) (bq (af bx G.g28 rfl (aa (ac 0) ad (ae rfl)))) ?_ (fun _=>?_)
 rfl
 refine av (aj (aO (aa (ah bx.K (ac 0) ag) (aa (af bx G.g26 rfl (aa (ah bx.K (ac 0) ag) ad (ae rfl))) ad (ae rfl)) (ae rfl)))) ?_
 rfl
theorem lM:OkD P w K mg base C k "is_span" fm ["start","length","side"] (a3 (ja t)):=ok3 lF fun start length side _ _ _ _ _ _ _ _ bx _ _=>by
 show FL _ _ [vv start,vv length,vv side] _ _ _
 refine av (aj (bR (pb ag (ac 0)) (bR (pb ag (ac 1)) (cG (pb (aA bx.K (ac 0) (ac 1)) (ac 2)))))) ?_
 rfl
theorem on:OkD P w K mg base C k "is_box" ig ["picture","thing"] (a2 (km t)):=ok2 jd fun picture thing _ _ _ _ _ _ _ _ bx _ _=>by
 show FL _ _ [vv picture,vv thing,nn] _ _ _
 refine aN (inj:=fun (_:Unit) (w:Unit)=>[vv picture,vv thing,nn]) (aM (ft_w (fD (a7 (a6 (aq bx rfl T.b_isinstance bE (ac 1) (bc rfl T.b_tuple (by decide +kernel) rfl)))) (cF (iX bx (fe_N (bB bx rfl T.b_len (FAL.out (aa (ac 1) ad (ae rfl))))) ag)))) ?_ ?_ ?_) (fun _ w=>?_)
 rfl
 ·refine aJ (aj bO) ?_
  rfl
 ·exact aD ⟨(),rfl⟩
 refine aN (inj:=fun (_:Unit) (w1:Unit)=>[vv picture,vv thing,nn]) (aM (a7 (a6 (fe_N (jq bx rfl T.b_all (FAL.out (aa (fe_C (br (N:=["number"]) (own:=1) (cap:=[]) bx (BlkOk.of (by kernel_rfl)) (bS bx.K (ac 1)) (bI (by decide)) (fun _ _ _ _ _=>aT 0 (show List.Nodup (α:=Str) ["number"] by decide +kernel)) (fun _ _ _ _ _=>(af (bd bx) G.g20 rfl (aa (ac 0) ad (ae rfl)))))) ad (ae rfl))))))) ?_ ?_ ?_) (fun _ w1=>?_)
 rfl
 ·refine aJ (aj bO) ?_
  rfl
 ·exact aD ⟨(),rfl⟩
 refine ak (S':=fun side=>[vv picture,vv thing,vv side]) (aE 2 jd.nd (af bx G.g45 rfl (aa (ac 0) ad (ae rfl)))) ?_ (fun side=>?_)
 rfl
 refine av (aj (bR (af bx G.g66 rfl (aa (ah bx.K (ac 1) ag) (aa (ah bx.K (ac 1) ag) (aa (ac 2) ad (ae rfl)) (ae rfl)) (ae rfl))) (cG (af bx G.g66 rfl (aa (ah bx.K (ac 1) ag) (aa (ah bx.K (ac 1) ag) (aa (ac 2) ad (ae rfl)) (ae rfl)) (ae rfl)))))) ?_
 rfl
theorem jK:OkD P w K mg base C k "check_box" cP ["picture","thing"] (a2 (fN t)):=ok2 jE fun picture thing _ _ _ _ _ _ _ _ bx _ made=>by
 show FL _ _ [vv picture,vv thing] _ _ _
 refine gS (aM (a7 (a6 (af bx G.g67 rfl (aa (ac 0) (aa (ac 1) ad (ae rfl)) (ae rfl))))) ?_ ?_ ?_)
 rfl
 ·refine j4 (cJ 3 bx made rfl T.c_BadBox T.x_BadBox (FAL.out (aa ax ad (ae rfl)))) ?_
  rfl
 ·exact aD True.intro
theorem iL:OkD P w K mg base C k "filled_row" cx ["row","left","width","worth"] (a4 (eh t)):=ok4 iG fun row left width worth _ _ _ _ _ _ _ _ bx _ _=>by
 show FL _ _ [vv row,vv left,vv width,vv worth] _ _ _
 refine av (aj (aA bx.K (aA bx.K (pA bx.K (ac 0) sE (sF (ac 1))) (cf bx.K (aO (aa (ac 3) ad (ae rfl))) (ac 2))) (pA bx.K (ac 0) (sF (aA bx.K (ac 1) (ac 2))) sE))) ?_
 rfl
theorem oo:OkD P w K mg base C k "filled" ii ["picture","box","worth"] (a3 (ko t)):=ok3 fq fun picture box worth _ _ _ _ _ _ _ _ bx hpo _=>by
 show FL _ _ [vv picture,vv box,vv worth,nn,nn] _ _ _
 refine ak (S':=fun _=>[vv picture,vv box,vv worth,nn,nn]) (bq (af bx G.g28 rfl (aa (ac 0) ad (ae rfl)))) ?_ (fun _=>?_)
 rfl
 refine ak (S':=fun _=>[vv picture,vv box,vv worth,nn,nn]) (bq (af bx G.g68 rfl (aa (ac 0) (aa (ac 1) ad (ae rfl)) (ae rfl)))) ?_ (fun _=>?_)
 rfl
 refine ak (S':=fun _=>[vv picture,vv box,vv worth,nn,nn]) (bq (af bx G.g65 rfl (aa (ac 2) ad (ae rfl)))) ?_ (fun _=>?_)
 rfl
 refine ak (S':=fun rows=>[vv picture,vv box,vv worth,ow rows,nn]) (uY (pB 3 bx fq.nd rfl T.b_list (FAL.out (aa (af bx G.g50 rfl (aa (ac 0) ad (ae rfl))) ad (ae rfl))))) ?_ (fun rows=>?_)
 rfl
 refine aN (inj:=fun (s:List D) (w:Option Sl)=>[vv picture,vv box,vv worth,ow s,w]) (gm 4 (B:=fun (s:List D) (w:Option Sl) x5=>[vv picture,vv box,vv worth,ow s,vv x5]) nn hpo rfl (sI (iT rfl T.b_range (FAL.out (aa (ah bx.K (ac 1) ag) (aa (aA bx.K (ah bx.K (ac 1) ag) (ah bx.K (ac 1) ag)) ad (ae rfl)) (ae rfl))))) ?_ (aT 4 fq.nd) rfl (fun _ _ _=>rfl) (fun s w x5=>?_)) (fun rows2 w1=>?_)
 rfl
 ·refine ak (S':=fun rows1=>[vv picture,vv box,vv worth,ow rows1,vv x5]) (fs_S (pC 3 bx (af bx G.g82 rfl (aa (gR 3 bx.K (ac 4)) (aa (ah bx.K (ac 1) ag) (aa (ah bx.K (ac 1) ag) (aa (ac 2) ad (ae rfl)) (ae rfl)) (ae rfl)) (ae rfl))) (ac 4))) ?_ (fun rows1=>?_)
  rfl
  exact aD ⟨vv x5,rfl⟩
 refine cK 3 (S':=[vv picture,vv box,vv worth,vv (.lst rows2),w1]) rfl rfl ?_
 refine av (aj (af bx G.g53 rfl (aa (fe_N (bJ bx rfl T.b_tuple (FAL.out (aa (ac 3) ad (ae rfl))))) ad (ae rfl)))) ?_
 rfl
theorem iM:OkD P w K mg base C k "moved_tree" cy ["tree","order"] (a2 (ek t)):=ok2 iH fun tree_ order _ _ _ _ _ _ _ _ bx _ _=>by
 show FL _ _ [vv tree_,vv order] _ _ _
 refine aN (inj:=fun (_:Unit) (w:Unit)=>[vv tree_,vv order]) (aM (a7 (a6 (aq bx rfl T.b_isinstance bE (ac 0) (bc rfl T.b_tuple (by decide +kernel) rfl)))) ?_ ?_ ?_) (fun _ w=>?_)
 rfl
 ·refine aJ (aj (ac 0)) ?_
  rfl
 ·exact aD ⟨(),rfl⟩
 refine av (aj (fe_N (bJ bx rfl T.b_tuple (FAL.out (aa (fe_C (br (N:=["number","order","tree"]) (own:=1) (cap:=[1,0]) bx (BlkOk.of (by kernel_rfl)) (bS bx.K (ac 1)) (bI (by decide)) (fun _ _ _ _ _=>aT 0 (show List.Nodup (α:=Str) ["number","order","tree"] by decide +kernel)) (fun _ _ _ _ _=>(af (bd bx) G.g69 rfl (aa (ah (bd bx).K (ac 2) (ac 0)) (aa (ac 1) ad (ae rfl)) (ae rfl)))))) ad (ae rfl)))))) ?_
 rfl
theorem qv:OkD P w K mg base C k "moved" jF ["picture","order"] (a2 (mF t)):=ok2 kB fun picture order _ _ _ _ _ _ _ _ bx _ _=>by
 show FL _ _ [vv picture,vv order,nn] _ _ _
 refine ak (S':=fun shown=>[vv picture,vv order,vv shown]) (aE 2 kB.nd (af bx G.g29 rfl (aa (ac 0) ad (ae rfl)))) ?_ (fun shown=>?_)
 rfl
 refine av (aj (aO (aa (ah bx.K (ac 2) ag) (aa (af bx G.g69 rfl (aa (ah bx.K (ac 2) ag) (aa (ac 1) ad (ae rfl)) (ae rfl))) ad (ae rfl)) (ae rfl)))) ?_
 rfl
theorem lN:OkD P w K mg base C k "swapped" fu ["picture"] (a1 (jb t)):=ok1 lG fun picture _ _ _ _ _ _ _ _ bx _ _=>by
 show FL _ _ [vv picture] _ _ _
 refine av (aj (af bx G.g70 rfl (aa (ac 0) (aa (js T.t_BY_SWAPPING rfl) ad (ae rfl)) (ae rfl)))) ?_
 rfl
theorem jL:OkD P w K mg base C k "worths_of" cQ ["rows"] (a1 (fO t)):=ok1 cz fun rows _ _ _ _ _ _ _ _ bx hpo _=>by
 show FL _ _ [vv rows,nn,nn] _ _ _
 refine bY (S':=[vv rows,ow [],nn]) (fs_O (cI 1 cz.nd (FAL.out ad))) ?_ ?_
 rfl
 refine aN (inj:=fun (s:List D) (w:Option Sl)=>[vv rows,ow s,w]) (gm 2 (B:=fun (s:List D) (w:Option Sl) x=>[vv rows,ow s,vv x]) nn hpo rfl (bS bx.K (ac 0)) ?_ (aT 2 cz.nd) rfl (fun _ _ _=>rfl) (fun s w x=>?_)) (fun worths1 w1=>?_)
 rfl
 ·refine ak (S':=fun worths=>[vv rows,ow worths,vv x]) (fs_X (bo 1 bx.K (FAL.out (aa (ac 2) ad (ae rfl))))) ?_ (fun worths=>?_)
  rfl
  exact aD ⟨vv x,rfl⟩
 refine cK 1 (S':=[vv rows,vv (.lst worths1),w1]) rfl rfl ?_
 refine aJ (aj (ac 1)) ?_
 rfl
theorem jM:OkD P w K mg base C k "worths_in" cR ["picture"] (a1 (fP t)):=ok1 jG fun picture _ _ _ _ _ _ _ _ bx _ _=>by
 show FL _ _ [vv picture] _ _ _
 refine av (aj (fe_N (jy bx rfl T.b_sorted rfl T.b_set (FAL.out (aa (af bx G.g72 rfl (aa (af bx G.g50 rfl (aa (ac 0) ad (ae rfl))) ad (ae rfl))) ad (ae rfl)))))) ?_
 rfl
theorem jN:OkD P w K mg base C k "rows_with" cS ["picture","worth"] (a2 (fQ t)):=ok2 jH fun picture worth _ _ _ _ _ _ _ _ bx _ _=>by
 show FL _ _ [vv picture,vv worth] _ _ _
 refine av (aj (uX (iV (N:=["y","row","worth"]) (own:=2) (cap:=[1]) bx (BlkOk.of (by kernel_rfl)) (dU bx rfl T.b_enumerate (af bx G.g50 rfl (aa (ac 0) ad (ae rfl)))) (pJ (by decide) (by decide)) (fun _ _ _ _ _=>mo 0 1 rfl (show List.Nodup (α:=Str) ["y","row","worth"] by decide +kernel)) (fun _ _ _ _ _=>(ue (bd bx) (ac 2) (ac 1))) (fun _ _ _ _ _=>(ac 0))))) ?_
 rfl
theorem oq:OkD P w K mg base C k "box_of" ij ["picture","worth"] (a2 (kq t)):=ok2 fv fun picture worth _ _ _ _ _ _ _ _ bx _ _=>by
 show FL _ _ [vv picture,vv worth,nn,nn] _ _ _
 refine ak (S':=fun _=>[vv picture,vv worth,nn,nn]) (bq (af bx G.g28 rfl (aa (ac 0) ad (ae rfl)))) ?_ (fun _=>?_)
 rfl
 refine ak (S':=fun _=>[vv picture,vv worth,nn,nn]) (bq (af bx G.g65 rfl (aa (ac 1) ad (ae rfl)))) ?_ (fun _=>?_)
 rfl
 refine ak (S':=fun down=>[vv picture,vv worth,vv down,nn]) (aE 2 fv.nd (af bx G.g77 rfl (aa (ac 0) (aa (ac 1) ad (ae rfl)) (ae rfl)))) ?_ (fun down=>?_)
 rfl
 refine aN (inj:=fun (_:Unit) (w:Unit)=>[vv picture,vv worth,vv down,nn]) (aM (gL bx (fe_N (bB bx rfl T.b_len (FAL.out (aa (ac 2) ad (ae rfl))))) ag) ?_ ?_ ?_) (fun _ w=>?_)
 rfl
 ·refine aJ (aj kR) ?_
  rfl
 ·exact aD ⟨(),rfl⟩
 refine ak (S':=fun across=>[vv picture,vv worth,vv down,vv across]) (aE 3 fv.nd (af bx G.g77 rfl (aa (af bx G.g71 rfl (aa (ac 0) ad (ae rfl))) (aa (ac 1) ad (ae rfl)) (ae rfl)))) ?_ (fun across=>?_)
 rfl
 refine av (aj (aO (by exact(aa (ah bx.K (ac 3) ag) (aa (ah bx.K (ac 2) ag) (aa (aA bx.K (gJ (ah bx.K (ac 3) (eV ag)) (ah bx.K (ac 3) ag)) ag) (aa (aA bx.K (gJ (ah bx.K (ac 2) (eV ag)) (ah bx.K (ac 2) ag)) ag) ad (ae rfl)) (ae rfl)) (ae rfl)) (ae rfl))))) ?_
 rfl
theorem lO:OkD P w K mg base C k "runs_in" fw ["picture","y"] (a2 (jc t)):=ok2 dF fun picture y _ _ _ _ _ _ _ _ bx hpo _=>by
 show FL _ _ [vv picture,vv y,nn,nn] _ _ _
 refine ak (S':=fun _=>[vv picture,vv y,nn,nn]) (bq (af bx G.g28 rfl (aa (ac 0) ad (ae rfl)))) ?_ (fun _=>?_)
 rfl
 refine ak (S':=fun _=>[vv picture,vv y,nn,nn]) (bq (af bx G.g47 rfl (aa (ac 0) (aa ag (aa (ac 1) ad (ae rfl)) (ae rfl)) (ae rfl)))) ?_ (fun _=>?_)
 rfl
 refine bY (S':=[vv picture,vv y,ow [],nn]) (fs_O (cI 2 dF.nd (FAL.out ad))) ?_ ?_
 rfl
 refine aN (inj:=fun (s:List D) (w:Option Sl)=>[vv picture,vv y,ow s,w]) (gm 3 (B:=fun (s:List D) (w:Option Sl) x2=>[vv picture,vv y,ow s,vv x2]) nn hpo rfl (bS bx.K (ah bx.K (af bx G.g50 rfl (aa (ac 0) ad (ae rfl))) (ac 1))) ?_ (aT 3 dF.nd) rfl (fun _ _ _=>rfl) (fun s w x2=>?_)) (fun runs2 w1=>?_)
 rfl
 ·refine gS (aM (ft_w (oU (uI (nX 2 bx rfl T.b_len) ag) (l6 (gL bx (ah bx.K (gR 2 bx.K (eV ag)) ag) (ac 3))))) ?_ ?_ ?_)
  rfl
  ·refine ak (S':=fun runs=>[vv picture,vv y,ow runs,vv x2]) (nY 2 bx (aO (aa (ac 3) (aa (aA bx.K (ah bx.K (gR 2 bx.K (eV ag)) ag) ag) ad (ae rfl)) (ae rfl))) (eV ag)) ?_ (fun runs=>?_)
   rfl
   exact aD ⟨vv x2,rfl⟩
  ·refine ak (S':=fun runs1=>[vv picture,vv y,ow runs1,vv x2]) (fs_A (nh 2 (FAL.out (aa (aO (aa (ac 3) (aa ag ad (ae rfl)) (ae rfl))) ad (ae rfl))))) ?_ (fun runs1=>?_)
   rfl
   exact aD ⟨vv x2,rfl⟩
 refine cK 2 (S':=[vv picture,vv y,vv (.lst runs2),w1]) rfl rfl ?_
 refine aJ (aj (ac 2)) ?_
 rfl
theorem jO:OkD P w K mg base C k "like_rows" cT ["picture"] (a1 (fR t)):=ok1 bF fun picture _ _ _ _ _ _ _ _ bx hpo _=>by
 show FL _ _ [vv picture,nn,nn,nn,nn] _ _ _
 refine ak (S':=fun rows=>[vv picture,vv rows,nn,nn,nn]) (aE 1 bF.nd (af bx G.g50 rfl (aa (ac 0) ad (ae rfl)))) ?_ (fun rows=>?_)
 rfl
 refine bY (S':=[vv picture,vv rows,ow [],nn,nn]) (fs_O (cI 2 bF.nd (FAL.out ad))) ?_ ?_
 rfl
 refine aN (inj:=fun (s:List D) (w:Option Sl×Option Sl)=>[vv picture,vv rows,ow s,w.1,w.2]) (pE 3 4 (B:=fun (s:List D) (w:Option Sl×Option Sl) x x1=>[vv picture,vv rows,ow s,vv x,vv x1]) (nn,nn) hpo rfl (dU bx rfl T.b_enumerate (ac 1)) ?_ (mo 3 4 rfl bF.nd) rfl (fun _ _ _ _=>rfl) (fun s w x x1=>?_)) (fun couples1 w1=>?_)
 rfl
 ·refine ak (S':=fun couples=>[vv picture,vv rows,ow couples,vv x,vv x1]) (fs_X (bo 2 bx.K (FAL.out (aa (fe_C (iV (N:=["other","y","row","rows"]) (own:=1) (cap:=[3,4,1]) bx (BlkOk.of (by kernel_rfl)) (sI (iT rfl T.b_range (FAL.out (aa (aA bx.K (ac 3) ag) (aa (fe_N (bB bx rfl T.b_len (FAL.out (aa (ac 1) ad (ae rfl))))) ad (ae rfl)) (ae rfl))))) (bI (by decide)) (fun _ _ _ _ _=>aT 0 (show List.Nodup (α:=Str) ["other","y","row","rows"] by decide +kernel)) (fun _ _ _ _ _=>(gL (bd bx) (ah (bd bx).K (ac 3) (ac 0)) (ac 2))) (fun _ _ _ _ _=>(aO (aa (ac 1) (aa (ac 0) ad (ae rfl)) (ae rfl)))))) ad (ae rfl))))) ?_ (fun couples=>?_)
  rfl
  exact aD ⟨(vv x,vv x1),rfl⟩
 refine cK 2 (S':=[vv picture,vv rows,vv (.lst couples1),w1.1,w1.2]) rfl rfl ?_
 refine aJ (aj (ac 2)) ?_
 rfl
theorem jP:OkD P w K mg base C k "rolled_on" cU ["things","by"] (a2 (fT t)):=ok2 ez fun things by_ _ _ _ _ _ _ _ _ bx _ _=>by
 show FL _ _ [vv things,vv by_,nn] _ _ _
 refine ak (S':=fun many=>[vv things,vv by_,vv many]) (aE 2 ez.nd (fe_N (bB bx rfl T.b_len (FAL.out (aa (ac 0) ad (ae rfl)))))) ?_ (fun many=>?_)
 rfl
 refine av (aj (fe_N (bJ bx rfl T.b_tuple (FAL.out (aa (fe_C (br (N:=["place","things","many","by"]) (own:=1) (cap:=[0,2,1]) bx (BlkOk.of (by kernel_rfl)) (mm (cZ rfl T.b_range (FAL.out (aa (ac 2) ad (ae rfl))))) (bI (by decide)) (fun _ _ _ _ _=>aT 0 (show List.Nodup (α:=Str) ["place","things","many","by"] by decide +kernel)) (fun _ _ _ _ _=>(ah (bd bx).K (ac 1) (ce (gJ (ac 0) (ac 3)) (ac 2)))))) ad (ae rfl)))))) ?_
 rfl
theorem ou:OkD P w K mg base C k "rolled" ik ["picture","right","down"] (a3 (kr t)):=ok3 je fun picture right down _ _ _ _ _ _ _ _ bx _ _=>by
 show FL _ _ [vv picture,vv right,vv down,nn] _ _ _
 refine ak (S':=fun rows=>[vv picture,vv right,vv down,vv rows]) (aE 3 je.nd (af bx G.g85 rfl (aa (af bx G.g50 rfl (aa (ac 0) ad (ae rfl))) (aa (ac 2) ad (ae rfl)) (ae rfl)))) ?_ (fun rows=>?_)
 rfl
 refine av (aj (af bx G.g53 rfl (aa (fe_N (bJ bx rfl T.b_tuple (FAL.out (aa (fe_C (br (N:=["row","right"]) (own:=1) (cap:=[1]) bx (BlkOk.of (by kernel_rfl)) (bS bx.K (ac 3)) (bI (by decide)) (fun _ _ _ _ _=>aT 0 (show List.Nodup (α:=Str) ["row","right"] by decide +kernel)) (fun _ _ _ _ _=>(af (bd bx) G.g85 rfl (aa (ac 0) (aa (ac 1) ad (ae rfl)) (ae rfl)))))) ad (ae rfl))))) ad (ae rfl)))) ?_
 rfl
theorem oy:OkD P w K mg base C k "framed" il ["picture","worth"] (a2 (ku t)):=ok2 bZ fun picture worth _ _ _ _ _ _ _ _ bx hpo _=>by
 show FL _ _ [vv picture,vv worth,nn,nn,nn] _ _ _
 refine ak (S':=fun _=>[vv picture,vv worth,nn,nn,nn]) (bq (af bx G.g28 rfl (aa (ac 0) ad (ae rfl)))) ?_ (fun _=>?_)
 rfl
 refine ak (S':=fun last=>[vv picture,vv worth,vv last,nn,nn]) (aE 2 bZ.nd (gJ (af bx G.g45 rfl (aa (ac 0) ad (ae rfl))) ag)) ?_ (fun last=>?_)
 rfl
 refine bY (S':=[vv picture,vv worth,vv last,vv picture,nn]) (aE 3 bZ.nd (ac 0)) ?_ ?_
 rfl
 refine aN (inj:=fun (s:D) (w:Option Sl)=>[vv picture,vv worth,vv last,vv s,w]) (gm 4 (B:=fun (s:D) (w:Option Sl) x10=>[vv picture,vv worth,vv last,vv s,vv x10]) nn hpo rfl (bS bx.K (aQ (by exact(aa (aO (aa ag (aa ag (aa (aA bx.K (ac 2) ag) (aa ag ad (ae rfl)) (ae rfl)) (ae rfl)) (ae rfl))) (aa (aO (aa ag (aa (ac 2) (aa (aA bx.K (ac 2) ag) (aa ag ad (ae rfl)) (ae rfl)) (ae rfl)) (ae rfl))) (aa (aO (aa ag (aa ag (aa ag (aa (aA bx.K (ac 2) ag) ad (ae rfl)) (ae rfl)) (ae rfl)) (ae rfl))) (aa (aO (aa (ac 2) (aa ag (aa ag (aa (aA bx.K (ac 2) ag) ad (ae rfl)) (ae rfl)) (ae rfl)) (ae rfl))) ad (ae rfl)) (ae rfl)) (ae rfl)) (ae rfl))))) ?_ (aT 4 bZ.nd) rfl (fun _ _ _=>rfl) (fun s w x10=>?_)) (fun told1 w1=>?_)
 rfl
 ·refine ak (S':=fun told=>[vv picture,vv worth,vv last,vv told,vv x10]) (aE 3 bZ.nd (af bx G.g83 rfl (aa (ac 3) (aa (ac 4) (aa (ac 1) ad (ae rfl)) (ae rfl)) (ae rfl)))) ?_ (fun told=>?_)
  rfl
  exact aD ⟨vv x10,rfl⟩
 refine aJ (aj (ac 3)) ?_
 rfl
theorem oz:OkD P w K mg base C k "_law_cell" im ["_law_script","_law_k"] (a2 (en t)):=ok2 oj fun ve vE _ _ _ _ _ _ _ _ bx _ _=>by
 show FL _ _ [vv ve,vv vE] _ _ _
 refine aN (inj:=fun (_:Unit) (w:Unit)=>[vv ve,vv vE]) (aM (uH (ac 1) (fe_N (bB bx rfl T.b_len (FAL.out (aa (ac 0) ad (ae rfl)))))) ?_ ?_ ?_) (fun _ w=>?_)
 rfl
 ·refine av (aj (ah bx.K (ac 0) (ac 1))) ?_
  rfl
 ·exact aD ⟨(),rfl⟩
 refine aN (inj:=fun (_:Unit) (w1:Unit)=>[vv ve,vv vE]) (aM (gL bx (ac 0) (aQ ad)) ?_ ?_ ?_) (fun _ w1=>?_)
 rfl
 ·refine aJ (aj ag) ?_
  rfl
 ·exact aD ⟨(),rfl⟩
 refine av (aj (aA bx.K (cf bx.K (ah bx.K (ac 0) (ce (ac 1) (fe_N (bB bx rfl T.b_len (FAL.out (aa (ac 0) ad (ae rfl))))))) ag) (ac 1))) ?_
 rfl
theorem oA:OkD P w K mg base C k "_law_pick" io ["_law_script","_law_k","_law_many"] (a3 (eo t)):=ok3 jf fun ve vE vH _ _ _ _ _ _ _ _ bx _ _=>by
 show FL _ _ [vv ve,vv vE,vv vH,nn] _ _ _
 refine ak (S':=fun vF=>[vv ve,vv vE,vv vH,vv vF]) (aE 3 jf.nd (ce (cf bx.K (aA bx.K (af bx G.g30 rfl (aa (ac 0) (aa (ac 1) ad (ae rfl)) (ae rfl))) (cf bx.K ag (aA bx.K (ac 1) ag))) ag) ag)) ?_ (fun vF=>?_)
 rfl
 refine av (aj (ce (ce (aA bx.K (cf bx.K (ac 3) (ac 3)) (gK (ac 3) ag)) ag) (ac 2))) ?_
 rfl
theorem lP:OkD P w K mg base C k "_law_class" de ["_law_kept"] (a1 (e9 t)):=ok1 aC fun vh _ _ _ _ _ _ _ _ bx _ _=>by
 show FL _ _ [vv vh,nn,nn] _ _ _
 refine ak (S':=fun vC=>[vv vh,ow vC,nn]) (fs_O (cI 1 aC.nd (FAL.out (aa (aq bx rfl T.b_isinstance T.i_BadBox (ac 0) (az rfl T.c_BadBox rfl)) (aa (aq bx rfl T.b_isinstance T.i_NoBlocks (ac 0) (az rfl T.c_NoBlocks rfl)) (aa (aq bx rfl T.b_isinstance T.i_NoChange (ac 0) (az rfl T.c_NoChange rfl)) ad (ae rfl)) (ae rfl)) (ae rfl))))) ?_ (fun vC=>?_)
 rfl
 refine ak (S':=fun vm=>[vv vh,ow vm,nn]) (fs_X (bo 1 bx.K (FAL.out (aa (aQ (aa (aq bx rfl T.b_isinstance T.i_NoName (ac 0) (az rfl T.c_NoName rfl)) ad (ae rfl))) ad (ae rfl))))) ?_ (fun vm=>?_)
 rfl
 refine cK 1 (S':=[vv vh,vv (.lst vm),nn]) rfl rfl ?_
 refine ak (S':=fun vn=>[vv vh,vv vn,nn]) (aE 1 aC.nd (aA bx.K (ac 1) (aQ (aa (aq bx rfl T.b_isinstance T.i_NoNumber (ac 0) (az rfl T.c_NoNumber rfl)) (aa (aq bx rfl T.b_isinstance T.i_NoPicture (ac 0) (az rfl T.c_NoPicture rfl)) (aa (aq bx rfl T.b_isinstance T.i_NoRule (ac 0) (az rfl T.c_NoRule rfl)) ad (ae rfl)) (ae rfl)) (ae rfl))))) ?_ (fun vn=>?_)
 rfl
 refine ak (S':=fun vo=>[vv vh,vv vo,nn]) (aE 1 aC.nd (aA bx.K (ac 1) (aQ (aa (aq bx rfl T.b_isinstance T.i_NoSpot (ac 0) (az rfl T.c_NoSpot rfl)) (aa (aq bx rfl T.b_isinstance T.i_NoText (ac 0) (az rfl T.c_NoText rfl)) (aa (aq bx rfl T.b_isinstance T.i_NothingDone (ac 0) (az rfl T.c_NothingDone rfl)) ad (ae rfl)) (ae rfl)) (ae rfl))))) ?_ (fun vo=>?_)
 rfl
 refine ak (S':=fun vi=>[vv vh,vv vi,nn]) (aE 1 aC.nd (aA bx.K (ac 1) (aQ (aa (aq bx rfl T.b_isinstance T.i_Unlike (ac 0) (az rfl T.c_Unlike rfl)) ad (ae rfl))))) ?_ (fun vi=>?_)
 rfl
 refine aN (inj:=fun (_:Unit) (w:Unit)=>[vv vh,vv vi,nn]) (aM (ft_w (fD (iX bx (mj (pz bx (ac 1) (FAL.out (aa bO ad (ae rfl))))) ag) (cF (a7 (a6 (aq bx rfl T.b_isinstance T.i_ValueError (ac 0) (bc rfl T.b_ValueError (by decide +kernel) rfl))))))) ?_ ?_ ?_) (fun _ w=>?_)
 rfl
 ·refine aJ (aj ax) ?_
  rfl
 ·exact aD ⟨(),rfl⟩
 refine bY (S':=[vv vh,vv vi,ow ([(.str "bad box"),(.str "no blocks"),(.str "no change"),(.str "no name"),(.str "no number"),(.str "no picture"),(.str "no rule")])]) (fs_O (cI 2 aC.nd (FAL.out (by exact(aa ax (aa ax (aa ax (aa ax (aa ax (aa ax (aa ax ad (ae rfl)) (ae rfl)) (ae rfl)) (ae rfl)) (ae rfl)) (ae rfl)) (ae rfl)))))) ?_ ?_
 rfl
 refine ak (S':=fun vp=>[vv vh,vv vi,ow vp]) (fs_X (bo 2 bx.K (FAL.out (aa (aQ (aa ax (aa ax ad (ae rfl)) (ae rfl))) ad (ae rfl))))) ?_ (fun vp=>?_)
 rfl
 refine cK 2 (S':=[vv vh,vv vi,vv (.lst vp)]) rfl rfl ?_
 refine av (aj (ah bx.K (aA bx.K (ac 2) (aQ (aa ax (aa ax ad (ae rfl)) (ae rfl)))) (mj (ni bx (ac 1) (FAL.out (aa bO ad (ae rfl))))))) ?_
 rfl
end
abbrev aZ:Stmt:=top 66
theorem bb:FnScope ["_law_script","_law_odd","_law_bad","_law_picture","_law_k","_law_thing","_law_worth","_law_told_here"] ["_law_script"] (defScope aZ):=mkSc
abbrev eB:Stmt:=top 65
theorem aV:FnScope ["_law_deed","e"] ["_law_deed"] (defScope eB):=mkSc
structure TabQ (P:Program)(w:World)(K:PySem.W.Frag)(mg:Str→Option Value)(base:Heap)(C:Nat→Addr)(k:Nat)(t:Nat→List FF.D→FF.R FF.D)(tr:Nat→Wd→List FF.D→FF.R FF.D)(tw:Nat→Wd→List FF.D→RW):Prop where
 hc:FnHd P w K mg base C k "_law_class" ["_law_kept"] (t F.ah)
 td_L_told:Fd K mg "_law_told" ["_law_deed"] eB
theorem cW {P:Program}{w:World}{K:PySem.W.Frag}{mg:Str→Option Value}{base:Heap}{C:Nat→Addr}{k:Nat}{t:Nat→List FF.D→FF.R FF.D}(T:Txt K mg C w.params)(vh:FF.D):OkHB P w K mg base C k ["_law_kept","_law_kinds","_law_some"] "_law_class" de [vh] (e9 t vh):=fun _ _ _ _ _ _ _ bx=>by
 show FL _ _ [vv vh,nn,nn] _ _ _
 refine ak (S':=fun vC=>[vv vh,ow vC,nn]) (fs_O (cI 1 aC.nd (FAL.out (aa (aG bx rfl T.b_isinstance T.i_BadBox (ac 0) (az rfl T.c_BadBox rfl)) (aa (aG bx rfl T.b_isinstance T.i_NoBlocks (ac 0) (az rfl T.c_NoBlocks rfl)) (aa (aG bx rfl T.b_isinstance T.i_NoChange (ac 0) (az rfl T.c_NoChange rfl)) ad (ae rfl)) (ae rfl)) (ae rfl))))) ?_ (fun vC=>?_)
 rfl
 refine ak (S':=fun vm=>[vv vh,ow vm,nn]) (fs_X (bo 1 bx.K (FAL.out (aa (aQ (aa (aG bx rfl T.b_isinstance T.i_NoName (ac 0) (az rfl T.c_NoName rfl)) ad (ae rfl))) ad (ae rfl))))) ?_ (fun vm=>?_)
 rfl
 refine cK 1 (S':=[vv vh,vv (.lst vm),nn]) rfl rfl ?_
 refine ak (S':=fun vn=>[vv vh,vv vn,nn]) (aE 1 aC.nd (aA bx.K (ac 1) (aQ (aa (aG bx rfl T.b_isinstance T.i_NoNumber (ac 0) (az rfl T.c_NoNumber rfl)) (aa (aG bx rfl T.b_isinstance T.i_NoPicture (ac 0) (az rfl T.c_NoPicture rfl)) (aa (aG bx rfl T.b_isinstance T.i_NoRule (ac 0) (az rfl T.c_NoRule rfl)) ad (ae rfl)) (ae rfl)) (ae rfl))))) ?_ (fun vn=>?_)
 rfl
 refine ak (S':=fun vo=>[vv vh,vv vo,nn]) (aE 1 aC.nd (aA bx.K (ac 1) (aQ (aa (aG bx rfl T.b_isinstance T.i_NoSpot (ac 0) (az rfl T.c_NoSpot rfl)) (aa (aG bx rfl T.b_isinstance T.i_NoText (ac 0) (az rfl T.c_NoText rfl)) (aa (aG bx rfl T.b_isinstance T.i_NothingDone (ac 0) (az rfl T.c_NothingDone rfl)) ad (ae rfl)) (ae rfl)) (ae rfl))))) ?_ (fun vo=>?_)
 rfl
 refine ak (S':=fun vi=>[vv vh,vv vi,nn]) (aE 1 aC.nd (aA bx.K (ac 1) (aQ (aa (aG bx rfl T.b_isinstance T.i_Unlike (ac 0) (az rfl T.c_Unlike rfl)) ad (ae rfl))))) ?_ (fun vi=>?_)
 rfl
 refine aN (inj:=fun (_:Unit) (w:Unit)=>[vv vh,vv vi,nn]) (aM (ft_w (fD (uo bx (mj (n5 bx (ac 1) (FAL.out (aa bO ad (ae rfl))))) ag) (cF (a7 (a6 (aG bx rfl T.b_isinstance T.i_ValueError (ac 0) (bc rfl T.b_ValueError (by decide +kernel) rfl))))))) ?_ ?_ ?_) (fun _ w=>?_)
 rfl
 ·refine aJ (aj ax) ?_
  rfl
 ·exact aD ⟨(),rfl⟩
 refine bY (S':=[vv vh,vv vi,ow ([(.str "bad box"),(.str "no blocks"),(.str "no change"),(.str "no name"),(.str "no number"),(.str "no picture"),(.str "no rule")])]) (fs_O (cI 2 aC.nd (FAL.out (by exact(aa ax (aa ax (aa ax (aa ax (aa ax (aa ax (aa ax ad (ae rfl)) (ae rfl)) (ae rfl)) (ae rfl)) (ae rfl)) (ae rfl)) (ae rfl)))))) ?_ ?_
 rfl
 refine ak (S':=fun vp=>[vv vh,vv vi,ow vp]) (fs_X (bo 2 bx.K (FAL.out (aa (aQ (aa ax (aa ax ad (ae rfl)) (ae rfl))) ad (ae rfl))))) ?_ (fun vp=>?_)
 rfl
 refine cK 2 (S':=[vv vh,vv vi,vv (.lst vp)]) rfl rfl ?_
 refine av (aj (ah bx.K (aA bx.K (ac 2) (aQ (aa ax (aa ax ad (ae rfl)) (ae rfl)))) (mj (lr bx (ac 1) (FAL.out (aa bO ad (ae rfl))))))) ?_
 rfl
section
variable {P:Program}{w:World}{K:PySem.W.Frag}{mg:Str→Option Value}{base:Heap}{C:Nat→Addr}{k:Nat}{t:Nat→List FF.D→FF.R FF.D}{tr:Nat→Wd→List FF.D→FF.R FF.D}{tw:Nat→Wd→List FF.D→RW}(T:Txt K mg C w.params)(G:Tab P w K mg base C k t)(Q:TabQ P w K mg base C k t tr tw)
include T G Q
theorem aR (rf:Wd→RW):ToldB P w K mg base C (k+1) ["_law_deed","e"] "_law_told" "_law_deed" eB rf (aw t rf):=fun _ _ _ _ _ _ _ _ _ _ bg _ _ deed W =>
 rX 1 bg (Q.hc.mono (Nat.le_succ k)) rfl rfl rfl rfl aV.nd rfl T.c_FourError T.takes (fun pn xe E' bg'=>pY (rM (deed pn xe E' _ _ W _ bg' rfl)))
theorem lQ:OkGL P w K mg base C (k+2) 0 "law" aZ ["_law_script"] (b1 (dc t tr tw)):=okgl1w bb fun W ve _ _ _ _ _ _ _ _ _ bg2 hpo made lx=>by
 have bg:=bg2.mono (Nat.le_add_right k 2)
 show GLw _ _ W [vv ve,nn,nn,nn,nn,nn,nn,nn] _ _ _
 refine dz (S':=[vv ve,ow ([.non,(.tup []),(.tup [(.int 4),(.int 0)]),(.tup [(.int 0),(.tup [(.int 1),(.int 1),(.int 1),(.int 1)])]),(.tup [(.int 1),(.tup [(.int 1),(.int 1),(.int 1)])]),(.lst [(.int 0),(.int 1)]),(.tup [(.bl true),(.int 1)]),(.tup [(.int 1),(.int 10)]),(.tup [(.int 0),(.bl true)])]),nn,nn,nn,nn,nn,nn]) (fun H0 Z0 wk=>r8 1 bb.nd (falw mC (falw (aX ad) (falw (aX (falw ap (falw ap ad))) (falw (aX (falw ap (falw (aX (falw ap (falw ap (falw ap (falw ap ad))))) ad))) (falw (aX (falw ap (falw (aX (falw ap (falw ap (falw ap ad)))) ad))) (falw (gr (falw ap (falw ap ad))) (falw (aX (falw lw (falw ap ad))) (falw (aX (falw ap (falw ap ad))) (falw (aX (falw ap (falw lw ad))) ad)))))))))) ?_ ?_
 rfl
 refine oa (S':=fun vj=>[vv ve,ow vj,nn,nn,nn,nn,nn,nn]) (fun H0 Z0 wk=>r9 1 bg.K (gr (falw (aX (falw ap (falw (aX (falw (aX (falw ap (falw ap (falw ap (falw (mD ap) ad))))) (falw ap (falw ap (falw ap ad))))) ad))) ad))) ?_ (fun vj=>?_)
 rfl
 refine dz (S':=[vv ve,ow vj,vv (.lst [.non,(.int (-1)),(.int 10),(.bl true),(.str "1"),(.tup [(.int 0)]),(.lst [(.int 1)]),(.int 99)]),nn,nn,nn,nn,nn]) (fun H0 Z0 wk=>mE 2 bb.nd (gr (falw mC (falw (mD ap) (falw ap (falw lw (falw r6 (falw (aX (falw ap ad)) (falw (gr (falw ap ad)) (falw ap ad)))))))))) ?_ ?_
 rfl
 refine dz (S':=[vv ve,ow vj,vv (.lst [.non,(.int (-1)),(.int 10),(.bl true),(.str "1"),(.tup [(.int 0)]),(.lst [(.int 1)]),(.int 99)]),vv (.tup [(.int 1),(.tup [(.int 1),(.int 2),(.int 3),(.int 3)])]),nn,nn,nn,nn]) (fun H0 Z0 wk=>mE 3 bb.nd (aX (falw ap (falw (aX (falw ap (falw ap (falw ap (falw ap ad))))) ad)))) ?_ ?_
 rfl
 refine ut ?_
 refine p7 1 (S':=[vv ve,vv (.lst vj),vv (.lst [.non,(.int (-1)),(.int 10),(.bl true),(.str "1"),(.tup [(.int 0)]),(.lst [(.int 1)]),(.int 99)]),vv (.tup [(.int 1),(.tup [(.int 1),(.int 2),(.int 3),(.int 3)])]),nn,nn,nn,nn]) rfl rfl ?_
 refine rQ (inj:=fun (_:Unit) (j:Option Sl×Option Sl×Option Sl×Option Sl)=>[vv ve,vv (.lst vj),vv (.lst [.non,(.int (-1)),(.int 10),(.bl true),(.str "1"),(.tup [(.int 0)]),(.lst [(.int 1)]),(.int 99)]),vv (.tup [(.int 1),(.tup [(.int 1),(.int 2),(.int 3),(.int 3)])]),j.1,j.2.1,j.2.2.1,j.2.2.2]) ?_ (rP 4 (s0:=()) (B:=fun (_:Unit) (j:Option Sl×Option Sl×Option Sl×Option Sl) x=>[vv ve,vv (.lst vj),vv (.lst [.non,(.int (-1)),(.int 10),(.bl true),(.str "1"),(.tup [(.int 0)]),(.lst [(.int 1)]),(.int 99)]),vv (.tup [(.int 1),(.tup [(.int 1),(.int 2),(.int 3),(.int 3)])]),vv x,j.2.1,j.2.2.1,j.2.2.2]) (step:=fun W _ x=>au t tr tw ve (.lst vj) (.lst [.non,(.int (-1)),(.int 10),(.bl true),(.str "1"),(.tup [(.int 0)]),(.lst [(.int 1)]),(.int 99)]) (.tup [(.int 1),(.tup [(.int 1),(.int 2),(.int 3),(.int 3)])]) W x) (nn,nn,nn,nn) hpo rfl (fun H0 Z0 wk=>(mm (cZ rfl T.b_range (FAL.out (aa ag ad (ae rfl)))))) (fun _ _ _ _=>aT 4 bb.nd) rfl (fun _ _ _=>rfl) (fun w _ j x=>?_)) (fun w29 _ j3=>?_)
 rfl
 ·refine jB (S':=fun vf=>[vv ve,vv (.lst vj),vv (.lst [.non,(.int (-1)),(.int 10),(.bl true),(.str "1"),(.tup [(.int 0)]),(.lst [(.int 1)]),(.int 99)]),vv (.tup [(.int 1),(.tup [(.int 1),(.int 2),(.int 3),(.int 3)])]),vv x,vv vf,j.2.2.1,j.2.2.2]) (fun H0 Z0 wk=>aE 5 bb.nd (ah bg.bx.K (ac 1) (ce (aA bg.bx.K (af bg.bx G.g31 rfl (aa (ac 0) (aa ag (aa ag ad (ae rfl)) (ae rfl)) (ae rfl))) (cf bg.bx.K ag (ac 4))) ag))) ?_ (fun vf=>?_)
  rfl
  refine jB (S':=fun vg=>[vv ve,vv (.lst vj),vv (.lst [.non,(.int (-1)),(.int 10),(.bl true),(.str "1"),(.tup [(.int 0)]),(.lst [(.int 1)]),(.int 99)]),vv (.tup [(.int 1),(.tup [(.int 1),(.int 2),(.int 3),(.int 3)])]),vv x,vv vf,vv vg,j.2.2.2]) (fun H0 Z0 wk=>aE 6 bb.nd (ah bg.bx.K (ac 2) (ce (aA bg.bx.K (af bg.bx G.g31 rfl (aa (ac 0) (aa ag (aa ag ad (ae rfl)) (ae rfl)) (ae rfl))) (cf bg.bx.K ag (ac 4))) ag))) ?_ (fun vg=>?_)
  rfl
  refine rY 7 (S':=fun vD=>[vv ve,vv (.lst vj),vv (.lst [.non,(.int (-1)),(.int 10),(.bl true),(.str "1"),(.tup [(.int 0)]),(.lst [(.int 1)]),(.int 99)]),vv (.tup [(.int 1),(.tup [(.int 1),(.int 2),(.int 3),(.int 3)])]),vv x,vv vf,vv vg,ow [vD]]) bb.nd (bw (k:=k) (fr:=["_law_thing"]) (ds:=[vf]) (rf:=(fun w1=>rwR w1 (t F.af [vf]))) (lt:=aw t (fun w1=>rwR w1 (t F.af [vf]))) 0 bg2 lx Q.td_L_told aV rfl rfl (.cons 5 rfl rfl rfl rfl .nil) ⟨rfl,rfl,rfl,by decide,fun _ _ _ _=>rfl⟩ (fun _ _ _ _ _ _ _ _ _ _ w1 bg=>bU (bv (fun H0 Z0 wk=>(af bg.bx G.g76 rfl (aa (ac 0) ad (ae rfl))))) rfl) (aR T G Q (fun w1=>rwR w1 (t F.af [vf])))) (fun _=>rfl) (fun w2 vD=>?_)
  refine cq 7 (S':=fun vq=>[vv ve,vv (.lst vj),vv (.lst [.non,(.int (-1)),(.int 10),(.bl true),(.str "1"),(.tup [(.int 0)]),(.lst [(.int 1)]),(.int 99)]),vv (.tup [(.int 1),(.tup [(.int 1),(.int 2),(.int 3),(.int 3)])]),vv x,vv vf,vv vg,ow vq]) rfl (bw (k:=k) (fr:=["_law_worth","_law_thing"]) (ds:=[vg,vf]) (rf:=(fun w3=>rwR w3 (t F.ac [vf,vg]))) (lt:=aw t (fun w3=>rwR w3 (t F.ac [vf,vg]))) 0 bg2 lx Q.td_L_told aV rfl rfl (.cons 6 rfl rfl rfl rfl (.cons 5 rfl rfl rfl rfl .nil)) ⟨rfl,rfl,rfl,by decide,fun _ _ _ _=>rfl⟩ (fun _ _ _ _ _ _ _ _ _ _ w3 bg=>bU (bv (fun H0 Z0 wk=>(af bg.bx G.g78 rfl (aa (ac 1) (aa (ac 0) ad (ae rfl)) (ae rfl))))) rfl) (aR T G Q (fun w3=>rwR w3 (t F.ac [vf,vg])))) (fun _=>rfl) (fun w4 vq=>?_)
  refine cq 7 (S':=fun vt=>[vv ve,vv (.lst vj),vv (.lst [.non,(.int (-1)),(.int 10),(.bl true),(.str "1"),(.tup [(.int 0)]),(.lst [(.int 1)]),(.int 99)]),vv (.tup [(.int 1),(.tup [(.int 1),(.int 2),(.int 3),(.int 3)])]),vv x,vv vf,vv vg,ow vt]) rfl (bw (k:=k) (fr:=["_law_worth","_law_picture"]) (ds:=[vg,(.tup [(.int 1),(.tup [(.int 1),(.int 2),(.int 3),(.int 3)])])]) (rf:=(fun w5=>rwR w5 (t F.ac [(.tup [(.int 1),(.tup [(.int 1),(.int 2),(.int 3),(.int 3)])]),vg]))) (lt:=aw t (fun w5=>rwR w5 (t F.ac [(.tup [(.int 1),(.tup [(.int 1),(.int 2),(.int 3),(.int 3)])]),vg]))) 0 bg2 lx Q.td_L_told aV rfl rfl (.cons 6 rfl rfl rfl rfl (.cons 3 rfl rfl rfl rfl .nil)) ⟨rfl,rfl,rfl,by decide,fun _ _ _ _=>rfl⟩ (fun _ _ _ _ _ _ _ _ _ _ w5 bg=>bU (bv (fun H0 Z0 wk=>(af bg.bx G.g78 rfl (aa (ac 1) (aa (ac 0) ad (ae rfl)) (ae rfl))))) rfl) (aR T G Q (fun w5=>rwR w5 (t F.ac [(.tup [(.int 1),(.tup [(.int 1),(.int 2),(.int 3),(.int 3)])]),vg])))) (fun _=>rfl) (fun w6 vt=>?_)
  refine cq 7 (S':=fun vw=>[vv ve,vv (.lst vj),vv (.lst [.non,(.int (-1)),(.int 10),(.bl true),(.str "1"),(.tup [(.int 0)]),(.lst [(.int 1)]),(.int 99)]),vv (.tup [(.int 1),(.tup [(.int 1),(.int 2),(.int 3),(.int 3)])]),vv x,vv vf,vv vg,ow vw]) rfl (bw (k:=k) (fr:=["_law_worth","_law_thing"]) (ds:=[vg,vf]) (rf:=(fun w7=>rwR w7 (t F.aa [vf,vg]))) (lt:=aw t (fun w7=>rwR w7 (t F.aa [vf,vg]))) 0 bg2 lx Q.td_L_told aV rfl rfl (.cons 6 rfl rfl rfl rfl (.cons 5 rfl rfl rfl rfl .nil)) ⟨rfl,rfl,rfl,by decide,fun _ _ _ _=>rfl⟩ (fun _ _ _ _ _ _ _ _ _ _ w7 bg=>bU (bv (fun H0 Z0 wk=>(af bg.bx G.g79 rfl (aa (ac 1) (aa (ac 0) ad (ae rfl)) (ae rfl))))) rfl) (aR T G Q (fun w7=>rwR w7 (t F.aa [vf,vg])))) (fun _=>rfl) (fun w8 vw=>?_)
  refine cq 7 (S':=fun vz=>[vv ve,vv (.lst vj),vv (.lst [.non,(.int (-1)),(.int 10),(.bl true),(.str "1"),(.tup [(.int 0)]),(.lst [(.int 1)]),(.int 99)]),vv (.tup [(.int 1),(.tup [(.int 1),(.int 2),(.int 3),(.int 3)])]),vv x,vv vf,vv vg,ow vz]) rfl (bw (k:=k) (fr:=["_law_thing"]) (ds:=[vf]) (rf:=(fun w9=>rwR w9 (t F.ag [vf]))) (lt:=aw t (fun w9=>rwR w9 (t F.ag [vf]))) 0 bg2 lx Q.td_L_told aV rfl rfl (.cons 5 rfl rfl rfl rfl .nil) ⟨rfl,rfl,rfl,by decide,fun _ _ _ _=>rfl⟩ (fun _ _ _ _ _ _ _ _ _ _ w9 bg=>bU (bv (fun H0 Z0 wk=>(af bg.bx G.g80 rfl (aa (ac 0) ad (ae rfl))))) rfl) (aR T G Q (fun w9=>rwR w9 (t F.ag [vf])))) (fun _=>rfl) (fun w10 vz=>?_)
  refine cq 7 (S':=fun vA=>[vv ve,vv (.lst vj),vv (.lst [.non,(.int (-1)),(.int 10),(.bl true),(.str "1"),(.tup [(.int 0)]),(.lst [(.int 1)]),(.int 99)]),vv (.tup [(.int 1),(.tup [(.int 1),(.int 2),(.int 3),(.int 3)])]),vv x,vv vf,vv vg,ow vA]) rfl (bw (k:=k) (fr:=["_law_thing"]) (ds:=[vf]) (rf:=(fun w11=>rwR w11 (t F.ap [vf,(.int 1),(.int 1)]))) (lt:=aw t (fun w11=>rwR w11 (t F.ap [vf,(.int 1),(.int 1)]))) 0 bg2 lx Q.td_L_told aV rfl rfl (.cons 5 rfl rfl rfl rfl .nil) ⟨rfl,rfl,rfl,by decide,fun _ _ _ _=>rfl⟩ (fun _ _ _ _ _ _ _ _ _ _ w11 bg=>bU (bv (fun H0 Z0 wk=>(af bg.bx G.g86 rfl (aa (ac 0) (aa ag (aa ag ad (ae rfl)) (ae rfl)) (ae rfl))))) rfl) (aR T G Q (fun w11=>rwR w11 (t F.ap [vf,(.int 1),(.int 1)])))) (fun _=>rfl) (fun w12 vA=>?_)
  refine cq 7 (S':=fun vB=>[vv ve,vv (.lst vj),vv (.lst [.non,(.int (-1)),(.int 10),(.bl true),(.str "1"),(.tup [(.int 0)]),(.lst [(.int 1)]),(.int 99)]),vv (.tup [(.int 1),(.tup [(.int 1),(.int 2),(.int 3),(.int 3)])]),vv x,vv vf,vv vg,ow vB]) rfl (bw (k:=k) (fr:=["_law_worth","_law_thing"]) (ds:=[vg,vf]) (rf:=(fun w13=>rwR w13 (t F.ae [vf,vg]))) (lt:=aw t (fun w13=>rwR w13 (t F.ae [vf,vg]))) 0 bg2 lx Q.td_L_told aV rfl rfl (.cons 6 rfl rfl rfl rfl (.cons 5 rfl rfl rfl rfl .nil)) ⟨rfl,rfl,rfl,by decide,fun _ _ _ _=>rfl⟩ (fun _ _ _ _ _ _ _ _ _ _ w13 bg=>bU (bv (fun H0 Z0 wk=>(af bg.bx G.g87 rfl (aa (ac 1) (aa (ac 0) ad (ae rfl)) (ae rfl))))) rfl) (aR T G Q (fun w13=>rwR w13 (t F.ae [vf,vg])))) (fun _=>rfl) (fun w14 vB=>?_)
  refine cq 7 (S':=fun vk=>[vv ve,vv (.lst vj),vv (.lst [.non,(.int (-1)),(.int 10),(.bl true),(.str "1"),(.tup [(.int 0)]),(.lst [(.int 1)]),(.int 99)]),vv (.tup [(.int 1),(.tup [(.int 1),(.int 2),(.int 3),(.int 3)])]),vv x,vv vf,vv vg,ow vk]) rfl (bw (k:=k) (fr:=["_law_worth","_law_picture"]) (ds:=[vg,(.tup [(.int 1),(.tup [(.int 1),(.int 2),(.int 3),(.int 3)])])]) (rf:=(fun w15=>rwR w15 (t F.ae [(.tup [(.int 1),(.tup [(.int 1),(.int 2),(.int 3),(.int 3)])]),vg]))) (lt:=aw t (fun w15=>rwR w15 (t F.ae [(.tup [(.int 1),(.tup [(.int 1),(.int 2),(.int 3),(.int 3)])]),vg]))) 0 bg2 lx Q.td_L_told aV rfl rfl (.cons 6 rfl rfl rfl rfl (.cons 3 rfl rfl rfl rfl .nil)) ⟨rfl,rfl,rfl,by decide,fun _ _ _ _=>rfl⟩ (fun _ _ _ _ _ _ _ _ _ _ w15 bg=>bU (bv (fun H0 Z0 wk=>(af bg.bx G.g87 rfl (aa (ac 1) (aa (ac 0) ad (ae rfl)) (ae rfl))))) rfl) (aR T G Q (fun w15=>rwR w15 (t F.ae [(.tup [(.int 1),(.tup [(.int 1),(.int 2),(.int 3),(.int 3)])]),vg])))) (fun _=>rfl) (fun w16 vk=>?_)
  refine p7 7 (S':=[vv ve,vv (.lst vj),vv (.lst [.non,(.int (-1)),(.int 10),(.bl true),(.str "1"),(.tup [(.int 0)]),(.lst [(.int 1)]),(.int 99)]),vv (.tup [(.int 1),(.tup [(.int 1),(.int 2),(.int 3),(.int 3)])]),vv x,vv vf,vv vg,vv (.lst vk)]) rfl rfl ?_
  refine mB (inj:=fun (_:Unit) (j1:Unit)=>[vv ve,vv (.lst vj),vv (.lst [.non,(.int (-1)),(.int 10),(.bl true),(.str "1"),(.tup [(.int 0)]),(.lst [(.int 1)]),(.int 99)]),vv (.tup [(.int 1),(.tup [(.int 1),(.int 2),(.int 3),(.int 3)])]),vv x,vv vf,vv vg,vv (.lst vk)]) (rN (fun H0 Z0 wk=>(iX bg.bx (ac 7) (cf bg.bx.K (aQ (aa ax ad (ae rfl))) ag)))) ?_ (fun w17=>?_) (fun w18=>?_) (fun w19 _ j1=>?_)
  rfl
  ·refine g6 (fun H0 Z0 wk=>aj bO) ?_
   rfl
  ·exact ln ⟨(),rfl⟩
  refine mB (inj:=fun (_:Unit) (j2:Unit)=>[vv ve,vv (.lst vj),vv (.lst [.non,(.int (-1)),(.int 10),(.bl true),(.str "1"),(.tup [(.int 0)]),(.lst [(.int 1)]),(.int 99)]),vv (.tup [(.int 1),(.tup [(.int 1),(.int 2),(.int 3),(.int 3)])]),vv x,vv vf,vv vg,vv (.lst vk)]) (qp bg (bw (k:=k) (fr:=["_law_worth","_law_picture"]) (ds:=[vg,(.tup [(.int 1),(.tup [(.int 1),(.int 2),(.int 3),(.int 3)])])]) (rf:=(fun w20=>rwR w20 (t F.aa [(.tup [(.int 1),(.tup [(.int 1),(.int 2),(.int 3),(.int 3)])]),vg]))) (lt:=aw t (fun w20=>rwR w20 (t F.aa [(.tup [(.int 1),(.tup [(.int 1),(.int 2),(.int 3),(.int 3)])]),vg]))) 0 bg2 lx Q.td_L_told aV rfl rfl (.cons 6 rfl rfl rfl rfl (.cons 3 rfl rfl rfl rfl .nil)) ⟨rfl,rfl,rfl,by decide,fun _ _ _ _=>rfl⟩ (fun _ _ _ _ _ _ _ _ _ _ w20 bg=>bU (bv (fun H0 Z0 wk=>(af bg.bx G.g79 rfl (aa (ac 1) (aa (ac 0) ad (ae rfl)) (ae rfl))))) rfl) (aR T G Q (fun w20=>rwR w20 (t F.aa [(.tup [(.int 1),(.tup [(.int 1),(.int 2),(.int 3),(.int 3)])]),vg])))) (fun H0 Z0 W' wk=>ax)) ?_ (fun w22=>?_) (fun w23=>?_) (fun w24 _ j2=>?_)
  rfl
  ·refine g6 (fun H0 Z0 wk=>aj bO) ?_
   rfl
  ·exact ln ⟨(),rfl⟩
  refine ui (qp bg (bw (k:=k) (fr:=[]) (ds:=[]) (rf:=(fun w25=>rwR w25 (t F.aa [(.tup [(.int 0),(.int 5)]),(.int 1)]))) (lt:=aw t (fun w25=>rwR w25 (t F.aa [(.tup [(.int 0),(.int 5)]),(.int 1)]))) 0 bg2 lx Q.td_L_told aV rfl rfl .nil ⟨rfl,rfl,rfl,by decide,fun _ _ _ _=>rfl⟩ (fun _ _ _ _ _ _ _ _ _ _ w25 bg=>bU (bv (fun H0 Z0 wk=>(af bg.bx G.g79 rfl (aa (aO (aa ag (aa ag ad (ae rfl)) (ae rfl))) (aa ag ad (ae rfl)) (ae rfl))))) rfl) (aR T G Q (fun w25=>rwR w25 (t F.aa [(.tup [(.int 0),(.int 5)]),(.int 1)])))) (fun H0 Z0 W' wk=>ax)) ?_ (fun w27=>?_) (fun w28=>?_)
  rfl
  ·refine g6 (fun H0 Z0 wk=>aj bO) ?_
   rfl
  ·exact ln ⟨(vv x,vv vf,vv vg,vv (.lst vk)),rfl⟩
 refine mz (fun H0 Z0 wk=>aj (bR (sD bg.bx (af bg.bx G.g79 rfl (aa (ac 3) (aa ag ad (ae rfl)) (ae rfl))) (aQ (aa (aO (aa ag (aa ag ad (ae rfl)) (ae rfl))) ad (ae rfl)))) (bR (sD bg.bx (af bg.bx G.g78 rfl (aa (ac 3) (aa ag ad (ae rfl)) (ae rfl))) (aO (aa ag (aa ag (aa ag (aa ag ad (ae rfl)) (ae rfl)) (ae rfl)) (ae rfl)))) (cG (uJ (af bg.bx G.g78 rfl (aa (ac 3) (aa ag ad (ae rfl)) (ae rfl))) kR))))) ?_
 rfl
end
end Lw
end
noncomputable section
section
namespace Lw
open PySem FF
inductive Q (α:Type) where
 | lf (a:α) | nd (a b c d:Q α)
 deriving DecidableEq
section
variable {α β γ:Type}
def Q.at:Nat→Q α→Nat→Nat→α
 | _,.lf a,_,_=>a
 | 0,.nd a _ _ _,x,y=>Q.at 0 a x y
 | n+1,.nd a b c d,x,y=>if y < 2^n then (if x < 2^n then a.at n x y else b.at n (x - 2^n) y) else (if x < 2^n then c.at n x (y - 2^n) else d.at n (x - 2^n) (y - 2^n))
@[simp] theorem vd (n:Nat)(a:α)(x y:Nat):Q.at n (.lf a) x y=a:=by cases n<;>rfl
variable [DecidableEq α][DecidableEq β][DecidableEq γ]
end
section
variable {α:Type}[DecidableEq α]{e:α→D}
end
@[simp] theorem lR (xs:List D):dTuple [.lst xs]=.ok (.tup xs):=rfl
@[simp] theorem lT (xs:List D):dTuple [.tup xs]=.ok (.tup xs):=rfl
@[simp] theorem oB (xs:List D):dList [.tup xs]=.ok (.lst xs):=rfl
@[simp] theorem oC (xs:List D):dList [.lst xs]=.ok (.lst xs):=rfl
@[simp] theorem qw (xs:List D):dLen [.tup xs]=.ok (.int xs.length):=rfl
@[simp] theorem qy (xs:List D):dLen [.lst xs]=.ok (.int xs.length):=rfl
@[simp] theorem eD (a b:Int):dAdd (.int a) (.int b)=.ok (.int (a+b)):=rfl
@[simp] theorem qA (a b:Int):dSub (.int a) (.int b)=.ok (.int (a - b)):=rfl
@[simp] theorem sf (a b:Int):dLt (.int a) (.int b)=.ok (.bl (decide (a < b))):=rfl
@[simp] theorem sg (a b:Int):dLe (.int a) (.int b)=.ok (.bl (decide (a≤b))):=rfl
@[simp] theorem sh (a b:Int):dGt (.int a) (.int b)=.ok (.bl (decide (b < a))):=rfl
@[simp] theorem si (a b:Int):dGe (.int a) (.int b)=.ok (.bl (decide (b≤a))):=rfl
@[simp] theorem sj (a b:Int):dEq (.int a) (.int b)=.ok (.bl (decide (a=b))):=by
 show R.ok (D.bl (a==b))=_
 rw[Bool.beq_eq_decide_eq]
@[simp] theorem so (a b:Int):dNf (.int a) (.int b)=.ok (.bl (!decide (a=b))):=by
 show R.ok (D.bl (!(a==b)))=_
 rw[Bool.beq_eq_decide_eq]
theorem eE {a b:Int}(h:(-(2^64) < b∧b < 2^64)∨(-(2^64) < a∧a < 2^64)):dMul (.int a) (.int b)=.ok (.int (a*b)):=by
 have:cMul a b=true:=by unfold cMul;simp only[Bool.or_eq_true,Bool.and_eq_true,decide_eq_true_eq];rcases h with h | h;exact .inr h;exact .inl h
 show (if cMul a b=true then R.ok (D.int (a*b)) else R.stuck)=_
 rw[if_pos this]
theorem qB {a b:Int}(h0:0 < b)(h1:b < 1073741824):dDiv (.int a) (.int b)=.ok (.int (a/b)):=by
 have:cDiv a b=true:=by unfold cDiv;simp only[Bool.and_eq_true,decide_eq_true_eq];exact⟨h0,h1⟩
 show (if cDiv a b=true then R.ok (D.int (a/b)) else R.stuck)=_
 rw[if_pos this]
theorem eF {a b:Int}(h0:0 < b):dMod (.int a) (.int b)=.ok (.int (a%b)):=by
 show (if decide (0 < b)=true then R.ok (D.int (a%b)) else R.stuck)=_
 rw[if_pos (by simpa using h0)]
theorem qC {x y:D}(hx:good 60 x=true)(hy:good 60 y=true):dEq x y=.ok (.bl (eqD x y)):=by unfold dEq;rw[if_pos ⟨hx,hy⟩]
theorem lZ {α:Type}{xs:List α}{i:Nat}{x:α}(h:xs[i]?=some x):L2.atI xs ((i:Nat):Int)=some x:=by
 have hi:i < xs.length:=(List.getElem?_eq_some_iff.mp h).1
 unfold L2.atI L2.ixN
 rw[if_pos (by omega),if_pos (by omega)]
 simpa using h
theorem ixL {xs:List D}{i:Nat}{x:D}(h:xs[i]?=some x):dIx (.lst xs) (.int ((i:Nat):Int))=.ok x:=by
 show (match L2.atI xs (i:Int) with | some d=>R.ok d | none=>R.stuck)=_
 rw[lZ h]
@[simp] theorem ix20 (a b:D):dIx (.tup [a,b]) (.int 0)=.ok a:=rfl
@[simp] theorem ix21 (a b:D):dIx (.tup [a,b]) (.int 1)=.ok b:=rfl
@[simp] theorem ix40 (a b c d:D):dIx (.tup [a,b,c,d]) (.int 0)=.ok a:=rfl
@[simp] theorem ix41 (a b c d:D):dIx (.tup [a,b,c,d]) (.int 1)=.ok b:=rfl
@[simp] theorem ix42 (a b c d:D):dIx (.tup [a,b,c,d]) (.int 2)=.ok c:=rfl
@[simp] theorem ix43 (a b c d:D):dIx (.tup [a,b,c,d]) (.int 3)=.ok d:=rfl
@[simp] theorem oD (xs:List D):dIsA qTup (.tup xs)=.ok (.bl true):=rfl
@[simp] theorem oE (i:Int):dIsA qTup (.int i)=.ok (.bl false):=rfl
theorem mG (f:Int→Int→Bool)(F' G':D→D→R D){x y w:Int}{g:Int→Int→Bool}(h1:F' (.int x) (.int y)=.ok (.bl (f x y)))(h2:G' (.int y) (.int w)=.ok (.bl (g y w))):rCh F' G' (.int x) (.int y) (.ok (.int w))=.ok (.bl (f x y&&g y w)):=by
 unfold rCh
 rw[h1]
 cases f x y with
 | true=>show G' (.int y) (.int w)=_;rw[h2];rfl
 | false=>rfl
@[simp] theorem qD (x y w:Int):rCh dLe dLe (.int x) (.int y) (.ok (.int w))=.ok (.bl (decide (x≤y)&&decide (y≤w))):=mG (fun a b=>decide (a≤b)) _ _ (g:=fun a b=>decide (a≤b)) rfl rfl
@[simp] theorem qE (x y w:Int):rCh dLe dLt (.int x) (.int y) (.ok (.int w))=.ok (.bl (decide (x≤y)&&decide (y < w))):=mG (fun a b=>decide (a≤b)) _ _ (g:=fun a b=>decide (a < b)) rfl rfl
theorem sr (a b:Bool):vAnd (.ok (.bl a)) (.ok (.bl b))=.ok (.bl (a&&b)):=by cases a<;>rfl
theorem uv (a b:Bool):vOr (.ok (.bl a)) (.ok (.bl b))=.ok (.bl (a||b)):=by cases a<;>rfl
theorem ss (a b:Bool):rAnd (.ok a) (.ok b)=.ok (a&&b):=by cases a<;>rfl
theorem uw (a b:Bool):rOr (.ok a) (.ok b)=.ok (a||b):=by cases a<;>rfl
def STP:=And.intro @sH (And.intro @t7 (And.intro @uL (And.intro @uM (And.intro @uN (And.intro @rA (And.intro @rz (And.intro @rB (And.intro @R.bind_ok (And.intro @R.bind_err (And.intro @t8 (And.intro @rC (And.intro @ss (And.intro @uw (And.intro @t9 (And.intro @ua (And.intro @uQ (And.intro @uR (And.intro @ub (And.intro @uc (And.intro @uS (And.intro @uT (And.intro @sr (And.intro @uv (And.intro @rD (And.intro @uU (And.intro @uV (And.intro @Bool.not_true (And.intro @Bool.not_false (And.intro @Bool.false_or (And.intro @Bool.true_or (And.intro @Bool.or_false (And.intro @Bool.or_true (And.intro @Bool.true_and (And.intro @Bool.false_and (And.intro @Bool.and_true (And.intro @Bool.and_false (And.intro @Bool.false_eq_true (@Bool.true_eq_false))))))))))))))))))))))))))))))))))))))
def OPP:=And.intro @eD (And.intro @qA (And.intro @sf (And.intro @sg (And.intro @sh (And.intro @si (And.intro @sj (And.intro @so (And.intro @qw (And.intro @qy (And.intro @lR (And.intro @lT (And.intro @oB (And.intro @oC (And.intro @ix20 (And.intro @ix21 (And.intro @ix40 (And.intro @ix41 (And.intro @ix42 (And.intro @ix43 (And.intro @oD (And.intro @oE (And.intro @qD (@qE)))))))))))))))))))))))
theorem ex1 {n k:Nat}(h:k+1≤n):∃ m,n=m+1∧k≤m:=⟨n - 1,by omega,by omega⟩
def scr (ns:List Int):D:=.lst (ns.map .int)
def cell (ns:List Int)(k:Nat):Int:=if k < ns.length then ns.getD k 0 else if ns=[] then 0 else ns.getD (k%ns.length) 0*31+k
def pk (ns:List Int)(k:Nat)(m:Int):Int :=
 let d:=(cell ns k+6151*((k:Int)+1))*40692%2147483399
 (d*d+d/31)%2147483629%m
theorem jg (n:Nat):∀ ns:List Int,goods n (ns.map .int)=true
 | []=>rfl
 | i::r=>by rw[List.map_cons,goods,jg n r];cases n<;>rfl
theorem su {n:Nat}(hn:1≤n)(ns:List Int)(k:Nat):pf n F.aA [scr ns,.int k]=.ok (.int (cell ns k)):=by
 obtain⟨n,rfl,hn⟩:=ex1 hn
 rw[og,en]
 unfold scr cell
 by_cases h:k < ns.length
 ·have h':((k:Int) < (ns.length:Int)):=by omega
  have e0:=ixL (xs:=ns.map .int) (i:=k) (x:=.int (ns.getD k 0)) (by rw[List.getElem?_map,List.getElem?_eq_getElem h];simp[List.getD,h])
  simp only[STP,if_true,if_false,ite_true,ite_false,reduceIte,reduceCtorEq,OPP,List.length_map,decide_eq_true h',e0,if_pos h]
 ·have h':¬ ((k:Int) < (ns.length:Int)):=by omega
  cases ns with
  | nil =>
   have e1:dEq (.lst []) (.lst [])=.ok (.bl true):=rfl
   have h2:¬ ((k:Int) < ((0:Nat):Int)):=by omega
   simp only[STP,if_true,if_false,ite_true,ite_false,reduceIte,reduceCtorEq,OPP,List.map_nil,List.length_nil,decide_eq_false h2,e1,if_neg (Nat.not_lt_zero k)]
  | cons a r =>
   have hl:0 < (a::r).length:=by simp
   have hk:k%(a::r).length < (a::r).length:=Nat.mod_lt _ hl
   have e1:dEq (.lst ((a::r).map .int)) (.lst [])=.ok (.bl false):=by
    rw[qC (by rw[good];exact jg _ _) rfl]
    simp[eqD,eqDs]
   have e2:dMod (.int (k:Int)) (.int ((a::r).length:Int))=.ok (.int ((k%(a::r).length:Nat):Int)):=by
    rw[eF (by omega)];rfl
   have e3:dIx (.lst ((a::r).map .int)) (.int ((k%(a::r).length:Nat):Int))=.ok (.int ((a::r).getD (k%(a::r).length) 0)) :=
    ixL (by rw[List.getElem?_map,List.getElem?_eq_getElem hk,List.getD,List.getElem?_eq_getElem hk];rfl)
   have e4:=eE (a:=(a::r).getD (k%(a::r).length) 0) (b:=31) (.inl (by decide))
   simp only[STP,if_true,if_false,ite_true,ite_false,reduceIte,reduceCtorEq,OPP,List.length_map,decide_eq_false h',e1,e2,e3,e4,if_neg h]
theorem sv {n:Nat}(hn:2≤n)(ns:List Int)(k:Nat){m:Int}(hm:0 < m):pf n F.ao [scr ns,.int k,.int m]=.ok (.int (pk ns k m)):=by
 obtain⟨n,rfl,hn⟩:=ex1 hn
 rw[oh,eo,su (by omega)]
 simp only[R.bind_ok,eD]
 rw[eE (.inr (by decide))]
 simp only[R.bind_ok,eD]
 rw[eE (.inl (by decide))]
 simp only[R.bind_ok]
 rw[eF (by decide)]
 simp only[sH]
 have h0:0≤(cell ns k+6151*((k:Int)+1))*40692%2147483399:=Int.emod_nonneg _ (by decide)
 have h1:(cell ns k+6151*((k:Int)+1))*40692%2147483399 < 2147483399:=Int.emod_lt_of_pos _ (by decide)
 rw[eE (.inl ⟨by omega,by omega⟩),qB (by decide) (by decide)]
 simp only[R.bind_ok,eD]
 rw[eF (by decide)]
 simp only[R.bind_ok]
 rw[eF hm]
 rfl
theorem mH {n:Nat}(hn:2≤n)(ns:List Int)(k:Nat){a m:Int}(ha:a=(k:Int))(hm:0 < m):pf n F.ao [scr ns,.int a,.int m]=.ok (.int (pk ns k m)):=by subst ha;exact sv hn ns k hm
theorem rng4:rng1 [.int 4]=.ok [.int 0,.int 1,.int 2,.int 3]:=rfl
def All (P:Wd→D→Prop):RW→Prop
 | .ok w d=>P w d
 | .er _ _=>False
 | .al w f=>∀ a,w a=none→All P (f a)
 | .stuck=>False
abbrev nP:D:=.str "no picture"
abbrev nS:D:=.str "no spot"
def odds:List D:=[.non,(.tup []),(.tup [(.int 4),(.int 0)]),(.tup [(.int 0),(.tup [(.int 1),(.int 1),(.int 1),(.int 1)])]),(.tup [(.int 1),(.tup [(.int 1),(.int 1),(.int 1)])]),(.lst [(.int 0),(.int 1)]),(.tup [(.bl true),(.int 1)]),(.tup [(.int 1),(.int 10)]),(.tup [(.int 0),(.bl true)]),
 (.tup [(.int 2),(.tup [(.tup [(.int 1),(.int 2),(.int 3),(.int (-1))]),(.int 0),(.int 0),(.int 0)])])]
def bads:List D:=[.non,(.int (-1)),(.int 10),(.bl true),(.str "1"),(.tup [(.int 0)]),(.lst [(.int 1)]),(.int 99)]
abbrev pic:D:=.tup [(.int 1),(.tup [(.int 1),(.int 2),(.int 3),(.int 3)])]
def isE (j:Nat):R D→Bool
 | .err k=>k==j
 | _=>false
theorem bW {j:Nat}{r:R D}(h:isE j r=true):r=.err j:=by
 cases r with
 | err k=>exact congrArg R.err (eq_of_beq h)
 | ok d=>cases h
 | stuck=>cases h
def chk (x y:D):Bool:=isE 1 (pf 37 F.af [x])&&isE 1 (pf 37 F.ac [x,y])&&isE 1 (pf 37 F.ac [pic,y])&&isE 1 (pf 37 F.aa [x,y])&&isE 1 (pf 37 F.ag [x])&&isE 1 (pf 37 F.ap [x,.int 1,.int 1])&&isE 1 (pf 37 F.ae [x,y])&&isE 1 (pf 37 F.ae [pic,y])&&isE 2 (pf 37 F.aa [pic,y])
theorem sw:odds.all (fun x=>bads.all fun y=>chk x y)=true:=by decide +kernel
theorem cls1:pf 37 F.ah [.exc 1]=.ok nP:=by rfl
theorem cls2:pf 37 F.ah [.exc 2]=.ok nS:=by rfl
theorem bz {r:R D}{j:Nat}{d:D}(W:Wd)(h:r=.err j)(hq:qTk esL j=true)(hc:pf 37 F.ah [.exc j]=.ok d):outW (aw (pf 37) (fun w=>rwR w r) W)=.ok W d:=by
 subst h
 show outW (if qTk esL j=true then (match pf 37 F.ah [.exc j] with | .ok d=>LW.rt W d | _=>.stuck) else .stuck)=_
 rw[if_pos hq,hc]
 rfl
theorem q1:qTk esL 1=true:=by decide
theorem q2:qTk esL 2=true:=by decide
theorem ux:pf 37 F.aa [.tup [.int 0,.int 5],.int 1]=.err 2:=bW (by decide +kernel)
theorem qF {xs:List D}{i:Int}(h0:0≤i)(h1:i < xs.length):∃ d∈xs,dIx (.lst xs) (.int i)=.ok d:=by
 have hj:L2.ixN xs.length i=some i.toNat:=by
  unfold L2.ixN
  rw[if_pos h0,if_pos h1]
 have hl:i.toNat < xs.length:=by omega
 refine⟨xs[i.toNat],List.getElem_mem _,?_⟩
 show (match (L2.ixN xs.length i).bind fun j=>xs[j]? with | some d=>R.ok d | none=>.stuck)=_
 rw[hj]
 show (match xs[i.toNat]? with | some d=>R.ok d | none=>.stuck)=_
 rw[List.getElem?_eq_getElem hl]
theorem gu (ns:List Int)(W:Wd)(k:Int)(hk:0≤k):au (pf 37) (pr 37) (pw 37) (scr ns) (.lst odds) (.lst bads) pic W (.int k)=.nx W ():=by
 unfold au
 rw[mH (k:=0) (by decide) ns (a:=0) (m:=10) rfl (by decide),mH (k:=1) (by decide) ns (a:=1) (m:=8) rfl (by decide)]
 obtain⟨x,hx,ex⟩:=qF (xs:=odds) (i:=(pk ns 0 10+3*k)%10) (Int.emod_nonneg _ (by decide)) (Int.emod_lt_of_pos _ (by decide))
 obtain⟨y,hy,ey⟩:=qF (xs:=bads) (i:=(pk ns 1 8+3*k)%8) (Int.emod_nonneg _ (by decide)) (Int.emod_lt_of_pos _ (by decide))
 have c:chk x y=true:=List.all_eq_true.mp (List.all_eq_true.mp sw x hx) y hy
 simp only[chk,Bool.and_eq_true]at c
 obtain⟨⟨⟨⟨⟨⟨⟨⟨c1,c2⟩,c3⟩,c4⟩,c5⟩,c6⟩,c7⟩,c8⟩,c9⟩:=c
 show lwR W (dIx (.lst odds) (.int ((pk ns 0 10+3*k)%10))) _=_
 rw[ex]
 show lwR W (dIx (.lst bads) (.int ((pk ns 1 8+3*k)%8))) _=_
 rw[ey]
 have f1:=fun W=>bz W (bW c1) q1 cls1
 have f2:=fun W=>bz W (bW c2) q1 cls1
 have f3:=fun W=>bz W (bW c3) q1 cls1
 have f4:=fun W=>bz W (bW c4) q1 cls1
 have f5:=fun W=>bz W (bW c5) q1 cls1
 have f6:=fun W=>bz W (bW c6) q1 cls1
 have f7:=fun W=>bz W (bW c7) q1 cls1
 have f8:=fun W=>bz W (bW c8) q1 cls1
 have f9:=fun W=>bz W (bW c9) q2 cls2
 have f0:=fun W=>bz W ux q2 cls2
 show lwB _ _=_
 simp only[f1,f2,f3,f4,f5,f6,f7,f8,f9,f0]
 rfl
theorem iN (ns:List Int):All (fun _ d=>d=.bl true) (pw 40 M.law_k06 (fun _=>none) [.lst (ns.map .int)]):=by
 rw[lz 37]
 unfold dc
 show All _ (outW (lwS (lwR _ (rng1 [.int 4]) fun xs=>lwFor (fun W _ x=>au (pf 37) (pr 37) (pw 37) (scr ns) (.lst odds) (.lst bads) pic W x) xs _ ()) _))
 rw[rng4]
 show All _ (outW (lwS (lwS (au (pf 37) (pr 37) (pw 37) (scr ns) (.lst odds) (.lst bads) pic _ (.int 0)) fun W _=>lwS (au (pf 37) (pr 37) (pw 37) (scr ns) (.lst odds) (.lst bads) pic W (.int 1)) fun W _=>lwS (au (pf 37) (pr 37) (pw 37) (scr ns) (.lst odds) (.lst bads) pic W (.int 2)) fun W _=>lwS (au (pf 37) (pr 37) (pw 37) (scr ns) (.lst odds) (.lst bads) pic W (.int 3)) fun W _=>.nx W ()) _))
 rw[gu ns _ 0 (by decide)]
 show All _ (outW (lwS (lwS (au (pf 37) (pr 37) (pw 37) (scr ns) (.lst odds) (.lst bads) pic _ (.int 1)) fun W _=>lwS (au (pf 37) (pr 37) (pw 37) (scr ns) (.lst odds) (.lst bads) pic W (.int 2)) fun W _=>lwS (au (pf 37) (pr 37) (pw 37) (scr ns) (.lst odds) (.lst bads) pic W (.int 3)) fun W _=>.nx W ()) _))
 rw[gu ns _ 1 (by decide)]
 show All _ (outW (lwS (lwS (au (pf 37) (pr 37) (pw 37) (scr ns) (.lst odds) (.lst bads) pic _ (.int 2)) fun W _=>lwS (au (pf 37) (pr 37) (pw 37) (scr ns) (.lst odds) (.lst bads) pic W (.int 3)) fun W _=>.nx W ()) _))
 rw[gu ns _ 2 (by decide)]
 show All _ (outW (lwS (lwS (au (pf 37) (pr 37) (pw 37) (scr ns) (.lst odds) (.lst bads) pic _ (.int 3)) fun W _=>.nx W ()) _))
 rw[gu ns _ 3 (by decide)]
 have e:(vAnd ((pf 37 F.aa [pic,.int 1]).bind fun x12=>dEq x12 (.lst [(.tup [(.int 3),(.int 2)])])) (vAnd ((pf 37 F.ac [pic,.int 3]).bind fun x11=>dEq x11 (.tup [(.int 0),(.int 1),(.int 2),(.int 1)])) ((pf 37 F.ac [pic,.int 0]).bind fun x10=>dIs x10 .non)))=.ok (.bl true):=by rfl
 simp only[e]
 rfl
end Lw
end
end
noncomputable section
set_option maxHeartbeats 4000000
namespace Lw
open PySem PySem.Spec PyProof.Rows L2 FF
def cname:Nat→Str
 | 0 => "FourError"
 | 1 => "NoPicture"
 | 2 => "NoSpot"
 | 3 => "BadBox"
 | 4 => "Unlike"
 | 5 => "NoRule"
 | 6 => "NoBlocks"
 | 7 => "NoChange"
 | 8 => "NoNumber"
 | 9 => "NothingDone"
 | 10 => "NoText"
 | 11 => "NoName"
 | 21 => "is_worth"
 | 902 => "law"
 | _ => "?"
def CofN (K:PySem.W.Frag)(i:Nat):Addr:=match PySem.W.nsIn K mainGlobals (cname i) with
 | some (some (.ref a))=>a
 | _=>0
def Cof (K:PySem.W.Frag):Nat→Addr
 | 900=>1
 | 901=>(tabOf K "law").2
 | i=>CofN K i
theorem cof {K:PySem.W.Frag}{i:Nat}{x:Str}{a:Addr}(h:Ng K x (some (.ref a)))(hx:cname i=x:=by rfl)(hi:Cof K i=CofN K i:=by rfl):Cof K i=a:=by rw[hi];unfold CofN;rw[hx,h]
structure Fds (K:PySem.W.Frag)(mg:Str→Option Value):Prop where
 F20:Fd K mg "is_whole" ["thing"] dA
 F21:Fd K mg "is_worth" ["thing"] dB
 F22:Fd K mg "is_size" ["thing"] fb
 F23:Fd K mg "is_tree" ["size","thing","is_end"] fc
 F24:Fd K mg "is_sized_tree" ["thing","is_end"] bC
 F25:Fd K mg "put_together" ["four"] bN
 F26:Fd K mg "lean_tree" ["tree"] cM
 F43:Fd K mg "worth_in" ["tree","side","x","y"] dC
 F44:Fd K mg "tree_of" ["rows","left","top","side"] fg
 F27:Fd K mg "is_picture" ["thing"] cr
 F28:Fd K mg "check_picture" ["thing"] bD
 F65:Fd K mg "check_worth" ["thing"] bV
 F45:Fd K mg "side_of" ["picture"] fj
 F46:Fd K mg "is_along" ["side","thing"] dD
 F47:Fd K mg "check_spot" ["picture","x","y"] cu
 F49:Fd K mg "shown_row" ["picture","y"] cO
 F50:Fd K mg "shown_rows" ["picture"] cw
 F51:Fd K mg "is_row" ["thing","side"] ib
 F52:Fd K mg "are_rows" ["thing"] dE
 F53:Fd K mg "of_rows" ["rows"] fk
 F29:Fd K mg "lean" ["picture"] lE
 F66:Fd K mg "is_span" ["start","length","side"] fm
 F67:Fd K mg "is_box" ["picture","thing"] ig
 F68:Fd K mg "check_box" ["picture","thing"] cP
 F82:Fd K mg "filled_row" ["row","left","width","worth"] cx
 F83:Fd K mg "filled" ["picture","box","worth"] ii
 F69:Fd K mg "moved_tree" ["tree","order"] cy
 F70:Fd K mg "moved" ["picture","order"] jF
 F71:Fd K mg "swapped" ["picture"] fu
 F72:Fd K mg "worths_of" ["rows"] cQ
 F76:Fd K mg "worths_in" ["picture"] cR
 F77:Fd K mg "rows_with" ["picture","worth"] cS
 F78:Fd K mg "box_of" ["picture","worth"] ij
 F79:Fd K mg "runs_in" ["picture","y"] fw
 F80:Fd K mg "like_rows" ["picture"] cT
 F85:Fd K mg "rolled_on" ["things","by"] cU
 F86:Fd K mg "rolled" ["picture","right","down"] ik
 F87:Fd K mg "framed" ["picture","worth"] il
 F30:Fd K mg "_law_cell" ["_law_script","_law_k"] im
 F31:Fd K mg "_law_pick" ["_law_script","_law_k","_law_many"] io
 F89:Fd K mg "_law_class" ["_law_kept"] de
 F_law_k06:Fd K mg "law" ["_law_script"] aZ
 D_L_told:Fd K mg "_law_told" ["_law_deed"] eB
structure Mds (K:PySem.W.Frag)(mg:Str→Option Value):Prop where
theorem tab {P:Program}{w:World}{K:PySem.W.Frag}{mg:Str→Option Value}{base:Heap}{C:Nat→Addr}(T:Txt K mg C w.params)(S:Fds K mg):∀ n,Tab P w K mg base C n (pf n)
 | 0=>⟨g0 S.F20,g0 S.F21,g0 S.F22,g0 S.F23,g0 S.F24,g0 S.F25,g0 S.F26,g0 S.F43,g0 S.F44,g0 S.F27,g0 S.F28,g0 S.F65,g0 S.F45,g0 S.F46,g0 S.F47,g0 S.F49,g0 S.F50,g0 S.F51,g0 S.F52,g0 S.F53,g0 S.F29,g0 S.F66,g0 S.F67,g0 S.F68,g0 S.F82,g0 S.F83,g0 S.F69,g0 S.F70,g0 S.F71,g0 S.F72,g0 S.F76,g0 S.F77,g0 S.F78,g0 S.F79,g0 S.F80,g0 S.F85,g0 S.F86,g0 S.F87,g0 S.F30,g0 S.F31,g0 S.F89,
  fun i hi=>by
  simp only[fvL,List.mem_cons,List.not_mem_nil,or_false]at hi
  rcases hi with rfl
  ·exact u3 S.F21 T.f_is_worth⟩
 | n+1=>by
  have G:=tab T S n (P:=P) (w:=w) (base:=base)
  exact⟨g1 S.F20 (kC T G),g1 S.F21 (fU T G),g1 S.F22 (lH T G),g1 S.F23 (lI T G),g1 S.F24 (fz T G),g1 S.F25 (fX T G),g1 S.F26 (jI T G),g1 S.F43 (kD T G),g1 S.F44 (lJ T G),g1 S.F27 (iI T G),g1 S.F28 (fA T G),g1 S.F65 (ip T G),g1 S.F45 (lK T G),g1 S.F46 (kE T G),g1 S.F47 (iJ T G),g1 S.F49 (jJ T G),g1 S.F50 (iK T G),g1 S.F51 (om T G),g1 S.F52 (kF T G),g1 S.F53 (lL T G),g1 S.F29 (se T G),g1 S.F66 (lM T G),g1 S.F67 (on T G),g1 S.F68 (jK T G),g1 S.F82 (iL T G),g1 S.F83 (oo T G),g1 S.F69 (iM T G),g1 S.F70 (qv T G),g1 S.F71 (lN T G),g1 S.F72 (jL T G),g1 S.F76 (jM T G),g1 S.F77 (jN T G),g1 S.F78 (oq T G),g1 S.F79 (lO T G),g1 S.F80 (jO T G),g1 S.F85 (jP T G),g1 S.F86 (ou T G),g1 S.F87 (oy T G),g1 S.F30 (oz T G),g1 S.F31 (oA T G),g1 S.F89 (lP T G),
  fun i hi=>by
  simp only[fvL,List.mem_cons,List.not_mem_nil,or_false]at hi
  rcases hi with rfl
  ·exact u4 S.F21 T.f_is_worth (fU T G) (fun ds h=>u0 h)⟩
structure Lms (K:PySem.W.Frag)(mg:Str→Option Value):Prop where
 x0:mg "law"=some (.ref (Cof K 902))
 l0:LamK K (Cof K) 0
theorem tabQ {P:Program}{w:World}{K:PySem.W.Frag}{mg:Str→Option Value}{base:Heap}(T:Txt K mg (Cof K) w.params)(S:Fds K mg)(S2:Mds K mg)(LM:Lms K mg)(bm:BMn mg base)(n:Nat):TabQ P w K mg base (Cof K) n (pf n) (pr n) (pw n):=Nat.strongRecOn n fun n ih=>match n,ih with
 | 0,_=>⟨uq S.F89,S.D_L_told⟩
 | 1,ih=>by
  have G:=tab T S 0 (P:=P) (w:=w) (base:=base)
  have Q:=ih 0 (by omega)
  exact⟨lu S.F89 aC (cW T),S.D_L_told⟩
 | 2,ih=>by
  have G:=tab T S 1 (P:=P) (w:=w) (base:=base)
  have Q:=ih 1 (by omega)
  exact⟨lu S.F89 aC (cW T),S.D_L_told⟩
 | m+3,ih=>by
  have G:=tab T S (m+2) (P:=P) (w:=w) (base:=base)
  have Q:=ih (m+2) (by omega)
  have G0:=tab T S m (P:=P) (w:=w) (base:=base)
  have Q0:=ih m (by omega)
  exact⟨lu S.F89 aC (cW T),S.D_L_told⟩
theorem uy {l:PySem.W.OpenLaw}{w:World}{K:PySem.W.Frag}{h:Heap}{mg:Str→Option Value}{fa f1 f41 C0 C1 C2 C3 C4 C5 C6 C7 C8 C9 C10 C11:Addr}(X:K.In h)(G:h.Ns mainGlobals mg)(hfa:mg "law"=some (.ref fa))(S:Fds K mg)(S2:Mds K mg)
  {od41 an41:Option Addr} {sl41:Array (Option Value)} {oc41 kV41 dc41 pm41 cd41 ct41:Value} {tk_GREATEST_WORTH tk_LARGEST_SIZE:Tok} {ta_BY_SWAPPING ta_SIDES:Addr} {tn_BY_SWAPPING tn_SIDES:Nat} {ts_BY_SWAPPING ts_SIDES:Array (Option Value)} {tt_BY_SWAPPING_0 tt_BY_SWAPPING_1 tt_BY_SWAPPING_2 tt_BY_SWAPPING_3 tt_SIDES_0 tt_SIDES_1 tt_SIDES_2 tt_SIDES_3:Tok} {cl_NoPicture cl_NoSpot cl_BadBox cl_Unlike cl_NoRule cl_NoBlocks cl_NoChange cl_NoNumber cl_NothingDone cl_NoText cl_NoName:ClassData}
  (z0:Ng K "is_worth" (some (.ref f1)))
  (z1:Ng K "law" (some (.ref f41)))
  (z2:K.lookup f41=some ⟨oc41,od41,.func (PySem.W.fnOf "law" "law" (defArgs aZ) (defBody aZ) (defScope aZ) .none kV41 dc41 pm41 an41 cd41 ct41),sl41⟩)
  (z3:PySem.W.codeIn K cd41 "law"=true)
  (z4:PySem.W.keepIn K (.ref f41)=true)
  (z5:tabOkB K "law"=true)
  (z6:Ng K "ValueError" none)
  (z7:Ng K "all" none)
  (z8:Ng K "bool" none)
  (z9:Ng K "enumerate" none)
  (z10:Ng K "int" none)
  (z11:Ng K "isinstance" none)
  (z12:Ng K "len" none)
  (z13:Ng K "list" none)
  (z14:Ng K "range" none)
  (z15:Ng K "set" none)
  (z16:Ng K "sorted" none)
  (z17:Ng K "tuple" none)
  (z18:Ng K "GREATEST_WORTH" (some (.int 9 tk_GREATEST_WORTH)))
  (z19:Ng K "LARGEST_SIZE" (some (.int 3 tk_LARGEST_SIZE)))
  (z20:Ng K "BY_SWAPPING" (some (.ref ta_BY_SWAPPING)))
  (z21:K.lookup ta_BY_SWAPPING=some ⟨.type "tuple",none,.seq #[.int 0 tt_BY_SWAPPING_0,.int 2 tt_BY_SWAPPING_1,.int 1 tt_BY_SWAPPING_2,.int 3 tt_BY_SWAPPING_3] tn_BY_SWAPPING,ts_BY_SWAPPING⟩)
  (z22:Ng K "SIDES" (some (.ref ta_SIDES)))
  (z23:K.lookup ta_SIDES=some ⟨.type "tuple",none,.seq #[.int 1 tt_SIDES_0,.int 2 tt_SIDES_1,.int 4 tt_SIDES_2,.int 8 tt_SIDES_3] tn_SIDES,ts_SIDES⟩)
  (z24:Ng K "FourError" (some (.ref C0)))
  (z25:Ng K "NoPicture" (some (.ref C1)))
  (z26:Ng K "NoSpot" (some (.ref C2)))
  (z27:Ng K "BadBox" (some (.ref C3)))
  (z28:Ng K "Unlike" (some (.ref C4)))
  (z29:Ng K "NoRule" (some (.ref C5)))
  (z30:Ng K "NoBlocks" (some (.ref C6)))
  (z31:Ng K "NoChange" (some (.ref C7)))
  (z32:Ng K "NoNumber" (some (.ref C8)))
  (z33:Ng K "NothingDone" (some (.ref C9)))
  (z34:Ng K "NoText" (some (.ref C10)))
  (z35:Ng K "NoName" (some (.ref C11)))
  (z36:PySem.W.excIn K C1 bmVE "ValueError.__new__"=true)
  (z37:PySem.W.excIn K C2 bmVE "ValueError.__new__"=true)
  (z38:PySem.W.excIn K C3 bmVE "ValueError.__new__"=true)
  (z39:PySem.W.excIn K C0 bmVE "ValueError.__new__"=true)
  (z40:PySem.W.clsIn K C1=some cl_NoPicture)
  (z41:PySem.W.typeIn K (.ref C1)=some (.type "type"))
  (z42:PySem.W.clsIn K C2=some cl_NoSpot)
  (z43:PySem.W.typeIn K (.ref C2)=some (.type "type"))
  (z44:PySem.W.clsIn K C3=some cl_BadBox)
  (z45:PySem.W.typeIn K (.ref C3)=some (.type "type"))
  (z46:PySem.W.clsIn K C4=some cl_Unlike)
  (z47:PySem.W.typeIn K (.ref C4)=some (.type "type"))
  (z48:PySem.W.clsIn K C5=some cl_NoRule)
  (z49:PySem.W.typeIn K (.ref C5)=some (.type "type"))
  (z50:PySem.W.clsIn K C6=some cl_NoBlocks)
  (z51:PySem.W.typeIn K (.ref C6)=some (.type "type"))
  (z52:PySem.W.clsIn K C7=some cl_NoChange)
  (z53:PySem.W.typeIn K (.ref C7)=some (.type "type"))
  (z54:PySem.W.clsIn K C8=some cl_NoNumber)
  (z55:PySem.W.typeIn K (.ref C8)=some (.type "type"))
  (z56:PySem.W.clsIn K C9=some cl_NothingDone)
  (z57:PySem.W.typeIn K (.ref C9)=some (.type "type"))
  (z58:PySem.W.clsIn K C10=some cl_NoText)
  (z59:PySem.W.typeIn K (.ref C10)=some (.type "type"))
  (z60:PySem.W.clsIn K C11=some cl_NoName)
  (z61:PySem.W.typeIn K (.ref C11)=some (.type "type"))
  (z62:PySem.W.subIn K (.ref C1) (.ref C1)=some true)
  (z63:PySem.W.subIn K (.ref C1) (.ref C2)=some false)
  (z64:PySem.W.subIn K (.ref C1) (.ref C3)=some false)
  (z65:PySem.W.subIn K (.ref C1) (.ref C4)=some false)
  (z66:PySem.W.subIn K (.ref C1) (.ref C5)=some false)
  (z67:PySem.W.subIn K (.ref C1) (.ref C6)=some false)
  (z68:PySem.W.subIn K (.ref C1) (.ref C7)=some false)
  (z69:PySem.W.subIn K (.ref C1) (.ref C8)=some false)
  (z70:PySem.W.subIn K (.ref C1) (.ref C9)=some false)
  (z71:PySem.W.subIn K (.ref C1) (.ref C10)=some false)
  (z72:PySem.W.subIn K (.ref C1) (.ref C11)=some false)
  (z73:PySem.W.subIn K (.ref C1) (.ref C0)=some true)
  (z74:PySem.W.subIn K (.ref C1) (.type "ValueError")=some true)
  (z75:PySem.W.findIn K (.ref C1) "__getattribute__"=some (some (.builtin "BaseException.__getattribute__")))
  (z76:PySem.W.findIn K (.ref C1) "__getattr__"=some none)
  (z77:PySem.W.findIn K (.ref C1) "__class__"=some (some (.builtin "object.__class__")))
  (z78:PySem.W.subIn K (.ref C1) (.type "BaseException")=some true)
  (z79:PySem.W.subIn K (.ref C1) (.type "object")=some true)
  (z80:PySem.W.subIn K (.ref C2) (.ref C1)=some false)
  (z81:PySem.W.subIn K (.ref C2) (.ref C2)=some true)
  (z82:PySem.W.subIn K (.ref C2) (.ref C3)=some false)
  (z83:PySem.W.subIn K (.ref C2) (.ref C4)=some false)
  (z84:PySem.W.subIn K (.ref C2) (.ref C5)=some false)
  (z85:PySem.W.subIn K (.ref C2) (.ref C6)=some false)
  (z86:PySem.W.subIn K (.ref C2) (.ref C7)=some false)
  (z87:PySem.W.subIn K (.ref C2) (.ref C8)=some false)
  (z88:PySem.W.subIn K (.ref C2) (.ref C9)=some false)
  (z89:PySem.W.subIn K (.ref C2) (.ref C10)=some false)
  (z90:PySem.W.subIn K (.ref C2) (.ref C11)=some false)
  (z91:PySem.W.subIn K (.ref C2) (.ref C0)=some true)
  (z92:PySem.W.subIn K (.ref C2) (.type "ValueError")=some true)
  (z93:PySem.W.findIn K (.ref C2) "__getattribute__"=some (some (.builtin "BaseException.__getattribute__")))
  (z94:PySem.W.findIn K (.ref C2) "__getattr__"=some none)
  (z95:PySem.W.findIn K (.ref C2) "__class__"=some (some (.builtin "object.__class__")))
  (z96:PySem.W.subIn K (.ref C2) (.type "BaseException")=some true)
  (z97:PySem.W.subIn K (.ref C2) (.type "object")=some true)
  (z98:PySem.W.subIn K (.ref C3) (.ref C1)=some false)
  (z99:PySem.W.subIn K (.ref C3) (.ref C2)=some false)
  (z100:PySem.W.subIn K (.ref C3) (.ref C3)=some true)
  (z101:PySem.W.subIn K (.ref C3) (.ref C4)=some false)
  (z102:PySem.W.subIn K (.ref C3) (.ref C5)=some false)
  (z103:PySem.W.subIn K (.ref C3) (.ref C6)=some false)
  (z104:PySem.W.subIn K (.ref C3) (.ref C7)=some false)
  (z105:PySem.W.subIn K (.ref C3) (.ref C8)=some false)
  (z106:PySem.W.subIn K (.ref C3) (.ref C9)=some false)
  (z107:PySem.W.subIn K (.ref C3) (.ref C10)=some false)
  (z108:PySem.W.subIn K (.ref C3) (.ref C11)=some false)
  (z109:PySem.W.subIn K (.ref C3) (.ref C0)=some true)
  (z110:PySem.W.subIn K (.ref C3) (.type "ValueError")=some true)
  (z111:PySem.W.findIn K (.ref C3) "__getattribute__"=some (some (.builtin "BaseException.__getattribute__")))
  (z112:PySem.W.findIn K (.ref C3) "__getattr__"=some none)
  (z113:PySem.W.findIn K (.ref C3) "__class__"=some (some (.builtin "object.__class__")))
  (z114:PySem.W.subIn K (.ref C3) (.type "BaseException")=some true)
  (z115:PySem.W.subIn K (.ref C3) (.type "object")=some true) :
  ∃ fd:FuncData,(∀ (s:Shared) (v:Value),BindsTo s fd ⟨[v],[]⟩ [("_law_script",v)])∧∀ base:Heap,K.In base→base.Ns mainGlobals mg→BMn mg base→FnOk l.prog w K mg base (CXE l.prog w) 40 fa fd ["_law_script"] (spG K (Cof K) 1 (pw 40 Lw.M.law_k06)):=by
 have e:=hfa.symm.trans (PySem.W.mg_of X G z1)
 cases e
 have q_FourError:Cof K 0=C0:=cof z24
 have q_NoPicture:Cof K 1=C1:=cof z25
 have q_NoSpot:Cof K 2=C2:=cof z26
 have q_BadBox:Cof K 3=C3:=cof z27
 have q_Unlike:Cof K 4=C4:=cof z28
 have q_NoRule:Cof K 5=C5:=cof z29
 have q_NoBlocks:Cof K 6=C6:=cof z30
 have q_NoChange:Cof K 7=C7:=cof z31
 have q_NoNumber:Cof K 8=C8:=cof z32
 have q_NothingDone:Cof K 9=C9:=cof z33
 have q_NoText:Cof K 10=C10:=cof z34
 have q_NoName:Cof K 11=C11:=cof z35
 have xk_NoPicture:ExcK K (Cof K 1):=by rw[q_NoPicture];exact⟨z75,z76,z77,z78,z79,by rw[z40];rfl⟩
 have xk_NoSpot:ExcK K (Cof K 2):=by rw[q_NoSpot];exact⟨z93,z94,z95,z96,z97,by rw[z42];rfl⟩
 have xk_BadBox:ExcK K (Cof K 3):=by rw[q_BadBox];exact⟨z111,z112,z113,z114,z115,by rw[z44];rfl⟩
 have T:Txt K mg (Cof K) w.params:=⟨PySem.W.mg_none_of X G z6,
  PySem.W.mg_none_of X G z7,
  PySem.W.mg_none_of X G z8,
  PySem.W.mg_none_of X G z9,
  PySem.W.mg_none_of X G z10,
  PySem.W.mg_none_of X G z11,
  PySem.W.mg_none_of X G z12,
  PySem.W.mg_none_of X G z13,
  PySem.W.mg_none_of X G z14,
  PySem.W.mg_none_of X G z15,
  PySem.W.mg_none_of X G z16,
  PySem.W.mg_none_of X G z17,
  ⟨_,PySem.W.mg_of X G z18⟩,
  ⟨_,PySem.W.mg_of X G z19⟩,
  ⟨_,PySem.W.mg_of X G z20,_,_,_,z21,rfl,rfl,rfl,by show 4≤sizeLine;decide,(.cons ⟨_,rfl⟩ (.cons ⟨_,rfl⟩ (.cons ⟨_,rfl⟩ (.cons ⟨_,rfl⟩ .nil))))⟩,
  ⟨_,PySem.W.mg_of X G z22,_,_,_,z23,rfl,rfl,rfl,by show 4≤sizeLine;decide,(.cons ⟨_,rfl⟩ (.cons ⟨_,rfl⟩ (.cons ⟨_,rfl⟩ (.cons ⟨_,rfl⟩ .nil))))⟩,
  (by rw[cof (i:=F.ai) z0];exact PySem.W.mg_of X G z0),
  (by rw[q_FourError];exact PySem.W.mg_of X G z24),
  (by rw[q_NoPicture];exact PySem.W.mg_of X G z25),
  (by rw[q_NoSpot];exact PySem.W.mg_of X G z26),
  (by rw[q_BadBox];exact PySem.W.mg_of X G z27),
  (by rw[q_Unlike];exact PySem.W.mg_of X G z28),
  (by rw[q_NoRule];exact PySem.W.mg_of X G z29),
  (by rw[q_NoBlocks];exact PySem.W.mg_of X G z30),
  (by rw[q_NoChange];exact PySem.W.mg_of X G z31),
  (by rw[q_NoNumber];exact PySem.W.mg_of X G z32),
  (by rw[q_NothingDone];exact PySem.W.mg_of X G z33),
  (by rw[q_NoText];exact PySem.W.mg_of X G z34),
  (by rw[q_NoName];exact PySem.W.mg_of X G z35),
  (by rw[q_NoPicture];exact z36),
  (by rw[q_NoSpot];exact z37),
  (by rw[q_BadBox];exact z38),
  (bL (fun j hj=>by
   simp only[esL,List.mem_cons,List.not_mem_nil,or_false]at hj
   rcases hj with rfl | rfl | rfl
   ·rw[q_NoPicture,q_BadBox];exact ay z44 z45 z64 z62
   ·rw[q_NoSpot,q_BadBox];exact ay z44 z45 z82 z81
   ·rw[q_BadBox];exact ay z44 z45 z100 z100) (fun j hj=>by
   simp only[esL,List.mem_cons,List.not_mem_nil,or_false]at hj
   rcases hj with rfl | rfl | rfl
   ·exact xk_NoPicture
   ·exact xk_NoSpot
   ·exact xk_BadBox)),
  (bL (fun j hj=>by
   simp only[esL,List.mem_cons,List.not_mem_nil,or_false]at hj
   rcases hj with rfl | rfl | rfl
   ·rw[q_NoPicture,q_NoBlocks];exact ay z50 z51 z67 z62
   ·rw[q_NoSpot,q_NoBlocks];exact ay z50 z51 z85 z81
   ·rw[q_BadBox,q_NoBlocks];exact ay z50 z51 z103 z100) (fun j hj=>by
   simp only[esL,List.mem_cons,List.not_mem_nil,or_false]at hj
   rcases hj with rfl | rfl | rfl
   ·exact xk_NoPicture
   ·exact xk_NoSpot
   ·exact xk_BadBox)),
  (bL (fun j hj=>by
   simp only[esL,List.mem_cons,List.not_mem_nil,or_false]at hj
   rcases hj with rfl | rfl | rfl
   ·rw[q_NoPicture,q_NoChange];exact ay z52 z53 z68 z62
   ·rw[q_NoSpot,q_NoChange];exact ay z52 z53 z86 z81
   ·rw[q_BadBox,q_NoChange];exact ay z52 z53 z104 z100) (fun j hj=>by
   simp only[esL,List.mem_cons,List.not_mem_nil,or_false]at hj
   rcases hj with rfl | rfl | rfl
   ·exact xk_NoPicture
   ·exact xk_NoSpot
   ·exact xk_BadBox)),
  (bL (fun j hj=>by
   simp only[esL,List.mem_cons,List.not_mem_nil,or_false]at hj
   rcases hj with rfl | rfl | rfl
   ·rw[q_NoPicture,q_NoName];exact ay z60 z61 z72 z62
   ·rw[q_NoSpot,q_NoName];exact ay z60 z61 z90 z81
   ·rw[q_BadBox,q_NoName];exact ay z60 z61 z108 z100) (fun j hj=>by
   simp only[esL,List.mem_cons,List.not_mem_nil,or_false]at hj
   rcases hj with rfl | rfl | rfl
   ·exact xk_NoPicture
   ·exact xk_NoSpot
   ·exact xk_BadBox)),
  (bL (fun j hj=>by
   simp only[esL,List.mem_cons,List.not_mem_nil,or_false]at hj
   rcases hj with rfl | rfl | rfl
   ·rw[q_NoPicture,q_NoNumber];exact ay z54 z55 z69 z62
   ·rw[q_NoSpot,q_NoNumber];exact ay z54 z55 z87 z81
   ·rw[q_BadBox,q_NoNumber];exact ay z54 z55 z105 z100) (fun j hj=>by
   simp only[esL,List.mem_cons,List.not_mem_nil,or_false]at hj
   rcases hj with rfl | rfl | rfl
   ·exact xk_NoPicture
   ·exact xk_NoSpot
   ·exact xk_BadBox)),
  (bL (fun j hj=>by
   simp only[esL,List.mem_cons,List.not_mem_nil,or_false]at hj
   rcases hj with rfl | rfl | rfl
   ·rw[q_NoPicture];exact ay z40 z41 z62 z62
   ·rw[q_NoSpot,q_NoPicture];exact ay z40 z41 z80 z81
   ·rw[q_BadBox,q_NoPicture];exact ay z40 z41 z98 z100) (fun j hj=>by
   simp only[esL,List.mem_cons,List.not_mem_nil,or_false]at hj
   rcases hj with rfl | rfl | rfl
   ·exact xk_NoPicture
   ·exact xk_NoSpot
   ·exact xk_BadBox)),
  (bL (fun j hj=>by
   simp only[esL,List.mem_cons,List.not_mem_nil,or_false]at hj
   rcases hj with rfl | rfl | rfl
   ·rw[q_NoPicture,q_NoRule];exact ay z48 z49 z66 z62
   ·rw[q_NoSpot,q_NoRule];exact ay z48 z49 z84 z81
   ·rw[q_BadBox,q_NoRule];exact ay z48 z49 z102 z100) (fun j hj=>by
   simp only[esL,List.mem_cons,List.not_mem_nil,or_false]at hj
   rcases hj with rfl | rfl | rfl
   ·exact xk_NoPicture
   ·exact xk_NoSpot
   ·exact xk_BadBox)),
  (bL (fun j hj=>by
   simp only[esL,List.mem_cons,List.not_mem_nil,or_false]at hj
   rcases hj with rfl | rfl | rfl
   ·rw[q_NoPicture,q_NoSpot];exact ay z42 z43 z63 z62
   ·rw[q_NoSpot];exact ay z42 z43 z81 z81
   ·rw[q_BadBox,q_NoSpot];exact ay z42 z43 z99 z100) (fun j hj=>by
   simp only[esL,List.mem_cons,List.not_mem_nil,or_false]at hj
   rcases hj with rfl | rfl | rfl
   ·exact xk_NoPicture
   ·exact xk_NoSpot
   ·exact xk_BadBox)),
  (bL (fun j hj=>by
   simp only[esL,List.mem_cons,List.not_mem_nil,or_false]at hj
   rcases hj with rfl | rfl | rfl
   ·rw[q_NoPicture,q_NoText];exact ay z58 z59 z71 z62
   ·rw[q_NoSpot,q_NoText];exact ay z58 z59 z89 z81
   ·rw[q_BadBox,q_NoText];exact ay z58 z59 z107 z100) (fun j hj=>by
   simp only[esL,List.mem_cons,List.not_mem_nil,or_false]at hj
   rcases hj with rfl | rfl | rfl
   ·exact xk_NoPicture
   ·exact xk_NoSpot
   ·exact xk_BadBox)),
  (bL (fun j hj=>by
   simp only[esL,List.mem_cons,List.not_mem_nil,or_false]at hj
   rcases hj with rfl | rfl | rfl
   ·rw[q_NoPicture,q_NothingDone];exact ay z56 z57 z70 z62
   ·rw[q_NoSpot,q_NothingDone];exact ay z56 z57 z88 z81
   ·rw[q_BadBox,q_NothingDone];exact ay z56 z57 z106 z100) (fun j hj=>by
   simp only[esL,List.mem_cons,List.not_mem_nil,or_false]at hj
   rcases hj with rfl | rfl | rfl
   ·exact xk_NoPicture
   ·exact xk_NoSpot
   ·exact xk_BadBox)),
  (bL (fun j hj=>by
   simp only[esL,List.mem_cons,List.not_mem_nil,or_false]at hj
   rcases hj with rfl | rfl | rfl
   ·rw[q_NoPicture,q_Unlike];exact ay z46 z47 z65 z62
   ·rw[q_NoSpot,q_Unlike];exact ay z46 z47 z83 z81
   ·rw[q_BadBox,q_Unlike];exact ay z46 z47 z101 z100) (fun j hj=>by
   simp only[esL,List.mem_cons,List.not_mem_nil,or_false]at hj
   rcases hj with rfl | rfl | rfl
   ·exact xk_NoPicture
   ·exact xk_NoSpot
   ·exact xk_BadBox)),
  (t6 (fun j hj=>by
   simp only[esL,List.mem_cons,List.not_mem_nil,or_false]at hj
   rcases hj with rfl | rfl | rfl
   ·rw[q_NoPicture];exact k8 z74
   ·rw[q_NoSpot];exact k8 z92
   ·rw[q_BadBox];exact k8 z110) (fun j hj=>by
   simp only[esL,List.mem_cons,List.not_mem_nil,or_false]at hj
   rcases hj with rfl | rfl | rfl
   ·exact xk_NoPicture
   ·exact xk_NoSpot
   ·exact xk_BadBox)),
  (pD (by rw[q_FourError];exact z39) (fun j hj=>by
   simp only[esL,List.mem_cons,List.not_mem_nil,or_false]at hj
   rcases hj with rfl | rfl | rfl
   ·rw[q_NoPicture,q_FourError];exact z73
   ·rw[q_NoSpot,q_FourError];exact z91
   ·rw[q_BadBox,q_FourError];exact z109))⟩
 have FL:=kP (st:=aZ) z2 z3 z4
 have e902:Cof K 902=_:=cof z1
 have LM:Lms K mg:=⟨by rw[e902];exact PySem.W.mg_of X G z1,ql rfl rfl e902 z5 z1⟩
 exact⟨PySem.W.fnOf "law" "law" (defArgs aZ) (defBody aZ) (defScope aZ) .none kV41 dc41 pm41 an41 cd41 ct41,fun s v=>.of_eq rfl,fun base _ _ bm=>lQ T (tab T S 37) (tabQ T S S2 LM bm 37) FL e902.symm LM.l0 bm⟩
theorem mJ {K:PySem.W.Frag}{C:Nat→Addr}{E:L2.XK}{HW Z H:Hp}{P:Wd→FF.D→Hp→Hp→Hp→Prop}:∀ {r:RW},All (fun _ d=>d=.bl true) r→(∀ w d HW' Z' H',d=.bl true→P w d HW' Z' H')→WRW K C E HW Z H P r
 | .ok w d,h,k=>fun HW' Z' H' _ _=>k w d HW' Z' H' h
 | .er _ _,h,_=>h.elim
 | .al w f,h,k=>fun a e=>mJ (h a e) k
 | .stuck,h,_=>h.elim
theorem walk {l:PySem.W.OpenLaw}{q:Program}{loose:List Str}{XP:(Str→Option Value)→Heap→Prop}{YP:World→Heap→Prop}{d:DefRec}{K:Params→PySem.W.Frag}(hB:∀ w:World,∀ x∈(["law"]:List Str),tabOkB (K w.params) x=true)(hR:∀ x∈(["law"]:List Str),((recsOf q).find? (fun e=>e.name==x)).isSome=true)(hn:l.most=some 63)(hdf:d.params.defaults=[])
  (hY:∀ (w:World) (h:Heap),YP w h→(K w.params).In h)
  (F:∀ (w:World) (mg:Str→Option Value) (fa:Addr) (h:Heap),(K w.params).In h→h.Ns mainGlobals mg→mg d.name=some (.ref fa) →
   ∃ fd:FuncData,(∀ (s:Shared) (u:Value),BindsTo s fd ⟨[u],[]⟩ [("_law_script",u)])∧∀ base:Heap,(K w.params).In base→base.Ns mainGlobals mg→BMn mg base→FnOk l.prog w (K w.params) mg base (CXE l.prog w) 40 fa fd ["_law_script"] (spG (K w.params) (Cof (K w.params)) 1 (pw 40 Lw.M.law_k06))) :
  PySem.W.WalkO q loose XP YP l.row.toRowW d [] (fun f vs=>PySem.call f vs) :=
 L2.qk (tabs:=fun w=>(["law"]:List Str).map (tabOf (K w.params))) (n:=63) (k:=40) (x := "_law_script") (CX:=fun w=>CXE l.prog w) (sp:=fun w=>spG (K w.params) (Cof (K w.params)) 1 (pw 40 Lw.M.law_k06))
  (fun w _ _ _ _ _ T X=>rZ (hB w) hR T X) (fun w q hq=>by obtain⟨x,hx,rfl⟩:=List.mem_map.mp hq;exact(g8 (hB w x hx)).2.2) hn (by decide) hdf ⟨rfl,by decide,by decide⟩ hY F
  (fun w H a ns hl hO hS=>qm hO hS (fun i hi=>match i,hi with
   | 0,_=>.head _
   | n+1,h=>absurd (show Nat.lt (n+1) 1 from h) (Nat.not_lt_of_le (Nat.le_add_left 1 n))) (fun HW Z=>mJ (iN ns) (fun w d HW Z H' e v rv=>by subst e;rw[Rep]at rv;exact rv)))
  fun w H s e s' z=>by obtain⟨_,_,_,_,_,_,_,_,_,_,_,_,_,z⟩:=z;exact z
end Lw
open PySem PySem.W PyProof.Rows
def PySem.W.Fast.tw9436189866288679969:Nat:=0
def PySem.W.Fast.tw6528074212953387264:Nat:=0
def PySem.W.Fast.tw13950630226660102680:Nat:=0
def PySem.W.Fast.tw3992156494570756394:Nat:=0
def PySem.W.Fast.tw9008859870995579060:Nat:=0
def PySem.W.Fast.tw1425430362526088665:Nat:=0
def PySem.W.Fast.tw10423118327271842582:Nat:=0
def PySem.W.Fast.tw992607129096507752:Nat:=0
def PySem.W.Fast.tw2656770410298249801:Nat:=0
def PySem.W.Fast.tw2576630874079517670:Nat:=0
def PySem.W.Fast.tw16650331103527705274:Nat:=0
def PySem.W.Fast.tw18224297355828530591:Nat:=0
def PySem.W.Fast.tw14701787436444760111:Nat:=0
def PySem.W.Fast.tw5817280076244275918:Nat:=0
def PySem.W.Fast.tw16516920696694718123:Nat:=0
def PySem.W.Fast.tw15027461261892120676:Nat:=0
def PySem.W.Fast.tw15385144850893474852:Nat:=0
def PySem.W.Fast.tw16153977065886946990:Nat:=0
def PySem.W.Fast.tw13266087152409649153:Nat:=0
def PySem.W.Fast.tw15609194483688483024:Nat:=0
def PySem.W.Fast.tw14367349376828880159:Nat:=0
def PySem.W.Fast.tw8938088103701157115:Nat:=0
def PySem.W.Fast.tw14924831361885206839:Nat:=0
def PySem.W.Fast.tw14655454646855513173:Nat:=0
def PySem.W.Fast.tw13664562064803204012:Nat:=0
def PySem.W.Fast.tw3691571397049808954:Nat:=0
def PySem.W.Fast.tw5790447015514905299:Nat:=0
def PySem.W.Fast.tw6812296474654908977:Nat:=0
def PySem.W.Fast.tw7892524003350372237:Nat:=0
def PySem.W.Fast.tw1596132757505286384:Nat:=0
def PySem.W.Fast.tw2311999594475515170:Nat:=0
def PySem.W.Fast.tw11216190474313027378:Nat:=0
def PySem.W.Fast.tw17290033336676132612:Nat:=0
def PySem.W.Fast.tw14241196386225173702:Nat:=0
def PySem.W.Fast.tw1345433948113636266:Nat:=0
def PySem.W.Fast.tw10992948269746939609:Nat:=0
def PySem.W.Fast.tw9147345480381913927:Nat:=0
def PySem.W.Fast.tw10699958043655770182:Nat:=0
def PySem.W.Fast.tw3770293153153478200:Nat:=0
def PySem.W.Fast.tw9073587341826908031:Nat:=0
def PySem.W.Fast.tw13651865610943610643:Nat:=0
def PySem.W.Fast.tw14403203001691880639:Nat:=0
def PySem.W.Fast.tw1553175668701327441:Nat:=0
set_option maxRecDepth 100000 in
set_option maxHeartbeats 0 in
theorem PySem.Challenge.cw_fourfold_k06_measures_refused_holds : PySem.Challenge.rw_fourfold_k06_measures_refused.Holds := by
 w_on;o_law;k_head;(case hw=>w_witness2)
 k_fill
 refine Lw.walk (l:=PySem.Challenge.rw_fourfold_k06_measures_refused) ?B ?R rfl rfl (fun w h Y=>by first | exact PySem.W.km_in_of Y | exact PySem.W.kIn_of Y) ?F
 case B =>
  intro w x hx
  simp only[List.mem_cons,List.not_mem_nil,or_false]at hx
  rcases hx with rfl<;>kernel_rfl
 case R =>
  intro x hx
  simp only[List.mem_cons,List.not_mem_nil,or_false]at hx
  rcases hx with rfl<;>rfl
 case F =>
  intro w mg fa h KX G hmg
  refine' Lw.uy KX G hmg ?S ?S2 ?z0 ?z1 ?z2 ?z3 ?z4 ?z5 ?z6 ?z7 ?z8 ?z9 ?z10 ?z11 ?z12 ?z13 ?z14 ?z15 ?z16 ?z17 ?z18 ?z19 ?z20 ?z21 ?z22 ?z23 ?z24 ?z25 ?z26 ?z27 ?z28 ?z29 ?z30 ?z31 ?z32 ?z33 ?z34 ?z35 ?z36 ?z37 ?z38 ?z39 ?z40 ?z41 ?z42 ?z43 ?z44 ?z45 ?z46 ?z47 ?z48 ?z49 ?z50 ?z51 ?z52 ?z53 ?z54 ?z55 ?z56 ?z57 ?z58 ?z59 ?z60 ?z61 ?z62 ?z63 ?z64 ?z65 ?z66 ?z67 ?z68 ?z69 ?z70 ?z71 ?z72 ?z73 ?z74 ?z75 ?z76 ?z77 ?z78 ?z79 ?z80 ?z81 ?z82 ?z83 ?z84 ?z85 ?z86 ?z87 ?z88 ?z89 ?z90 ?z91 ?z92 ?z93 ?z94 ?z95 ?z96 ?z97 ?z98 ?z99 ?z100 ?z101 ?z102 ?z103 ?z104 ?z105 ?z106 ?z107 ?z108 ?z109 ?z110 ?z111 ?z112 ?z113 ?z114 ?z115
  case S =>
   constructor
   all_goals
    refine' FF.u5 KX G (fun _ _ _ _ _ _ us hl=>by first | (obtain⟨_,rfl⟩:=FF.ln1 hl;rfl) | (obtain⟨_,_,rfl⟩:=FF.ln2 hl;rfl) | (obtain⟨_,_,_,rfl⟩:=FF.ln3 hl;rfl) | (obtain⟨_,_,_,_,rfl⟩:=FF.ln4 hl;rfl) | (obtain⟨_,_,_,_,_,rfl⟩:=FF.ln5 hl;rfl) | (cases List.length_eq_zero_iff.mp hl;rfl)) ?a ?l ?c ?k
    (case a=>k_is);(case l=>k_is);(case c=>k_is);(case k=>k_is)
  case S2 =>
   constructor
  (case z0=>show _=_;k_is)
  (case z1=>show _=_;k_is)
  (case z2=>k_is)
  (case z3=>k_is)
  (case z4=>k_is)
  (case z5=>kernel_rfl)
  (case z6=>show _=_;k_is)
  (case z7=>show _=_;k_is)
  (case z8=>show _=_;k_is)
  (case z9=>show _=_;k_is)
  (case z10=>show _=_;k_is)
  (case z11=>show _=_;k_is)
  (case z12=>show _=_;k_is)
  (case z13=>show _=_;k_is)
  (case z14=>show _=_;k_is)
  (case z15=>show _=_;k_is)
  (case z16=>show _=_;k_is)
  (case z17=>show _=_;k_is)
  (case z18=>show _=_;k_is)
  (case z19=>show _=_;k_is)
  (case z20=>show _=_;k_is)
  (case z21=>k_is)
  (case z22=>show _=_;k_is)
  (case z23=>k_is)
  (case z24=>show _=_;k_is)
  (case z25=>show _=_;k_is)
  (case z26=>show _=_;k_is)
  (case z27=>show _=_;k_is)
  (case z28=>show _=_;k_is)
  (case z29=>show _=_;k_is)
  (case z30=>show _=_;k_is)
  (case z31=>show _=_;k_is)
  (case z32=>show _=_;k_is)
  (case z33=>show _=_;k_is)
  (case z34=>show _=_;k_is)
  (case z35=>show _=_;k_is)
  (case z36=>k_exc)
  (case z37=>k_exc)
  (case z38=>k_exc)
  (case z39=>k_exc)
  (case z40=>k_is)
  (case z41=>k_is)
  (case z42=>k_is)
  (case z43=>k_is)
  (case z44=>k_is)
  (case z45=>k_is)
  (case z46=>k_is)
  (case z47=>k_is)
  (case z48=>k_is)
  (case z49=>k_is)
  (case z50=>k_is)
  (case z51=>k_is)
  (case z52=>k_is)
  (case z53=>k_is)
  (case z54=>k_is)
  (case z55=>k_is)
  (case z56=>k_is)
  (case z57=>k_is)
  (case z58=>k_is)
  (case z59=>k_is)
  (case z60=>k_is)
  (case z61=>k_is)
  (case z62=>k_is)
  (case z63=>k_is)
  (case z64=>k_is)
  (case z65=>k_is)
  (case z66=>k_is)
  (case z67=>k_is)
  (case z68=>k_is)
  (case z69=>k_is)
  (case z70=>k_is)
  (case z71=>k_is)
  (case z72=>k_is)
  (case z73=>k_is)
  (case z74=>k_is)
  (case z75=>k_is)
  (case z76=>k_is)
  (case z77=>k_is)
  (case z78=>k_is)
  (case z79=>k_is)
  (case z80=>k_is)
  (case z81=>k_is)
  (case z82=>k_is)
  (case z83=>k_is)
  (case z84=>k_is)
  (case z85=>k_is)
  (case z86=>k_is)
  (case z87=>k_is)
  (case z88=>k_is)
  (case z89=>k_is)
  (case z90=>k_is)
  (case z91=>k_is)
  (case z92=>k_is)
  (case z93=>k_is)
  (case z94=>k_is)
  (case z95=>k_is)
  (case z96=>k_is)
  (case z97=>k_is)
  (case z98=>k_is)
  (case z99=>k_is)
  (case z100=>k_is)
  (case z101=>k_is)
  (case z102=>k_is)
  (case z103=>k_is)
  (case z104=>k_is)
  (case z105=>k_is)
  (case z106=>k_is)
  (case z107=>k_is)
  (case z108=>k_is)
  (case z109=>k_is)
  (case z110=>k_is)
  (case z111=>k_is)
  (case z112=>k_is)
  (case z113=>k_is)
  (case z114=>k_is)
  (case z115=>k_is)
end
