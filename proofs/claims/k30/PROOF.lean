import PyProof.Rows.All
import Wide.All
import OpenK.AllK
import Wide.FinOn
import PyProof.EqAt
import PyProof.EqKinds
import PyProof.TupleCall
import PyProof.ExcArgsOwn
import PyProof.ExcAttrAll.ValueError
import PyProof.IsiH_tuple
import PyProof.Rows.TopTwo
import PyProof.ExcBaseAll.ValueError
import PyProof.RulesAs
import PyProof.RulesDel
import PyProof.Rows.Catch
import PyProof.WalkInts
import PyProof.SumWalkG
import PyProof.Rows.TupAssign
import PyProof.NeKinds
import PyProof.FactsAll.tuple_1
import PyProof.FactsAll.tuple_2
import PyProof.FactsAll.tuple_3
import PyProof.ZipIter
import PyProof.Rows.ZipGen
import PyProof.Draws
import PyProof.EnumMake
import PyProof.LayNew
import OpenK.KTop
import PyProof.DictWalks
import PyProof.ListRange
import PyProof.Rows.SortWalk
import Lean
import PySem.Challenge.RW_fourfold_k30_whole_ways
set_option Elab.async false
set_option linter.all false
set_option maxRecDepth 100000
noncomputable section
namespace L2
open PySem PySem.Spec PyProof.Rows
abbrev Key:=Sum Int Str
def keyIs:Key→Value→Bool
 | .inl k,v=>Value.isInt k v
 | .inr x,v=>Value.isStrOf x v
def keyH (w:World):Key→Int
 | .inl k=>hashInt k
 | .inr x=>hashStr w x
theorem aO:∀ {k:Key} {v:Value},keyIs k v=true→(∃ i t,k=Sum.inl i∧v=Value.int i t)∨(∃ x t,k=Sum.inr x∧v=Value.str x t)
 | .inl i,v,h=>by
  obtain⟨t,e⟩:=Value.isInt_shape (k:=i) (v:=v) h
  exact .inl ⟨i,t,rfl,e⟩
 | .inr x,v,h=>by
  obtain⟨t,e⟩:=Value.isStrOf_shape (x:=x) (v:=v) h
  exact .inr ⟨x,t,rfl,e⟩
theorem tV (a b:Int):decide ((Sum.inl a:Key)=Sum.inl b)=(a==b):=by
 by_cases e:a=b
 ·subst e;simp
 ·have h:¬ (Sum.inl a:Key)=Sum.inl b:=fun q=>e (Sum.inl.inj q)
  rw[decide_eq_false h]
  exact(beq_eq_false_iff_ne.mpr e).symm
theorem tW (a b:Str):decide ((Sum.inr a:Key)=Sum.inr b)=decide (a=b):=by
 by_cases e:a=b
 ·subst e;simp
 ·have h:¬ (Sum.inr a:Key)=Sum.inr b:=fun q=>e (Sum.inr.inj q)
  rw[decide_eq_false h,decide_eq_false e]
theorem tX (a:Int)(b:Str):decide ((Sum.inl a:Key)=Sum.inr b)=false:=decide_eq_false (fun q=>nomatch q)
theorem tY (a:Str)(b:Int):decide ((Sum.inr a:Key)=Sum.inl b)=false:=decide_eq_false (fun q=>nomatch q)
def mixKind (prog:Program)(w:World):PySem.KeyKind prog w Key where
 is:=keyIs
 hash:=keyH w
 inj:=fun v a b ha hb=>by
  rcases aO ha with ⟨i,t,rfl,rfl⟩ | ⟨x,t,rfl,rfl⟩
  ·rcases aO hb with ⟨j,u,rfl,e⟩ | ⟨y,u,rfl,e⟩
   ·injection e with e1 _;rw[e1]
   ·exact nomatch e
  ·rcases aO hb with ⟨j,u,rfl,e⟩ | ⟨y,u,rfl,e⟩
   ·exact nomatch e
   ·injection e with e1 _;rw[e1]
 byValue:=fun k v h=>by
  rcases aO h with ⟨i,t,rfl,rfl⟩ | ⟨x,t,rfl,rfl⟩<;>rfl
 pyHash:=fun hv h=>by
  rcases aO hv with ⟨i,t,rfl,rfl⟩ | ⟨x,t,rfl,rfl⟩
  ·exact wpAny_pyHash_int h
  ·exact wpAny_pyHash_str h
 eqBool:=fun hu hv h=>by
  rcases aO hu with ⟨i,t,rfl,rfl⟩ | ⟨x,t,rfl,rfl⟩
  ·rcases aO hv with ⟨j,u,rfl,rfl⟩ | ⟨y,u,rfl,rfl⟩
   ·rw[tV]at h;exact wpAny_eqBool_int h
   ·rw[tX]at h;exact SeqAt.EqAt.int_str i t y u _ _ _ _ h
  ·rcases aO hv with ⟨j,u,rfl,rfl⟩ | ⟨y,u,rfl,rfl⟩
   ·rw[tY]at h;exact SeqAt.EqAt.str_int x t j u _ _ _ _ h
   ·rw[tW]at h;exact wpAny_eqBool_str h
 «strs»:=fun k x t v h=>by
  rcases aO h with ⟨i,u,rfl,e⟩ | ⟨y,u,rfl,e⟩
  ·exact nomatch e
  ·injection e with e1 _
   subst e1
   cases v<;>rfl
end L2
namespace L2
open PySem PySem.Spec PyProof.Rows
inductive V where
 | non | bl (b:Bool) | int (i:Int) | str (x:Str) | byt (b:Array UInt8) | flt (b:UInt64) | ref (a:Addr) | ty (n:String)
 deriving DecidableEq
def RelV:V→Value→Prop
 | .non,u=>u=Value.none
 | .bl b,u=>u=Value.bool b
 | .int i,u=>∃ t,u=Value.int i t
 | .str x,u=>∃ t,u=Value.str x t
 | .byt b,u=>∃ t,u=Value.bytes b t
 | .flt b,u=>∃ t,u=Value.float b t
 | .ref a,u=>u=Value.ref a
 | .ty n,u=>u=Value.type n
abbrev Vals:List V→List Value→Prop:=Paired RelV
theorem Vals.length {xs:List V}{us:List Value}(r:Vals xs us):xs.length=us.length:=Paired.length r
theorem Vals.get:∀ {xs:List V} {us:List Value} {i:Nat} {x:V},Vals xs us→xs[i]?=some x→∃ u,us[i]?=some u∧RelV x u
 | _,_,_,_,.nil,e=>by simp at e
 | _,_,0,_,.cons r _,e=>by simp at e;subst e;exact⟨_,rfl,r⟩
 | _,_,i+1,x,.cons _ t,e=>by
  obtain⟨u,h1,h2⟩:=Vals.get (i:=i) (x:=x) t (by simpa using e)
  exact⟨u,by simpa using h1,h2⟩
theorem Vals.append:∀ {xs ys:List V} {us ws:List Value},Vals xs us→Vals ys ws→Vals (xs++ys) (us++ws)
 | _,_,_,_,.nil,s=>s
 | _,_,_,_,.cons r t,s=>.cons r (Vals.append t s)
theorem Vals.take:∀ {xs:List V} {us:List Value} (n:Nat),Vals xs us→Vals (xs.take n) (us.take n)
 | _,_,0,_=>.nil
 | _,_,_+1,.nil=>.nil
 | _,_,n+1,.cons r t=>.cons r (Vals.take n t)
theorem Vals.drop:∀ {xs:List V} {us:List Value} (n:Nat),Vals xs us→Vals (xs.drop n) (us.drop n)
 | _,_,0,r=>r
 | _,_,_+1,.nil=>.nil
 | _,_,n+1,.cons _ t=>Vals.drop n t
theorem Vals.none_of:∀ {xs:List V} {us:List Value} {i:Nat},Vals xs us→xs[i]?=none→us[i]?=none:=fun {xs us i} r e=>by
 have h1:=r.length
 have h2:xs.length≤i:=List.getElem?_eq_none_iff.mp e
 exact List.getElem?_eq_none_iff.mpr (by omega)
def RelO:Option V→Option Value→Prop
 | some v,some u=>RelV v u
 | none,none=>True
 | _,_=>False
def KV {κ:Type}:List (κ×V)→List (κ×Value)→Prop:=Paired fun (p:κ×V) (q:κ×Value)=>p.1=q.1∧RelV p.2 q.2
def kV:Key→V
 | .inl i=>.int i
 | .inr x=>.str x
inductive HO where
 | lst (xs:List V)
 | tup (xs:List V)
 | dK (kvs:List (Key×V)) | dT (kvs:List (List Key×V))
 | set (S:Int→Bool) (n:Nat)
 | ins (C dx:Addr) (fs:List (Str×V))
 | own (x:Addr)
 | xd (fs:List (Str×V))
 | met (f x:Addr)
 | rng (lo hi:Int)
 | frz (o:Obj) (u:HO)
 | tbl (ps:Array Value)
 | ext (φ:Heap→Prop)
abbrev Hp:=Addr→Option HO
def upd (H:Hp)(a:Addr)(o:HO):Hp:=fun b=>if b=a then some o else H b
theorem ap {H:Hp}{a:Addr}{o:HO}:upd H a o a=some o:=by unfold upd;rw[if_pos rfl]
theorem ar {H:Hp}{a b:Addr}{o:HO}(h:b≠a):upd H a o b=H b:=by unfold upd;rw[if_neg h]
theorem bu {H:Hp}{a b:Addr}{o:HO}(h:H a=some o)(h':H b=none):a≠b:=by
 intro e;subst e;rw[h]at h';cases h'
def TupO (h:Heap)(a:Addr)(its:Array Value):Prop:=∃ o,h.get? a=some o∧o.cls=.type "tuple" ∧ o.dict=none∧∃ n,o.data=.seq its n
theorem TupO.is {h:Heap}{a:Addr}{its:Array Value}(p:TupO h a its):IsTup h a its:=let ⟨o,e,c,_,d⟩:=p;⟨o,e,c,d⟩
theorem TupO.lt {h:Heap}{a:Addr}{its:Array Value}(p:TupO h a its):a < h.objs.size:=p.is.lt
theorem TupO.new (h:Heap)(its:Array Value):TupO (h.push { cls:=.type "tuple",data:=.seq its }) h.objs.size its:=⟨_,Heap.get?_push_size _ rfl,rfl,rfl,_,rfl⟩
section
variable (P:Program)(w:World)
def ObjOk (H:Hp)(h:Heap)(a:Addr):HO→Prop
 | .lst xs=>xs.length≤sizeLine∧∃ (its:List Value) (n:Nat),Vals xs its∧h.get? a=some { cls:=.type "list",data:=.seq its.toArray n }
 | .tup xs=>xs.length≤sizeLine∧∃ its:List Value,Vals xs its∧TupO h a its.toArray
 | .dK kvs=>kvs.length≤sizeLine∧(a==sysModules)=false∧∃ vs,KV kvs vs∧h.DictOf (mixKind P w) a vs
 | .dT kvs=>kvs.length≤sizeLine∧(a==sysModules)=false∧∃ xs:List (List Key×Addr×Value),
   Paired (fun (p:List Key×V) (q:List Key×Addr×Value)=>p.1=q.1∧H q.2.1=some (.tup (p.1.map kV))∧RelV p.2 q.2.2) kvs xs ∧
   ∃ o es ep,h.get? a=some o∧o.ExactDict∧o.data=.dict es ep∧es.toList=xs.map (entryOfKey (tupleKind (mixKind P w)))∧(xs.map (·.1)).Nodup
 | .set S n=>h.SetOf (intKind P w) a S n
 | .ins C dx fs=>H dx=some (.own a)∧fs.length≤1000∧dx≠a∧h.get? a=some (PySem.W.instObj C dx) ∧
   ∃ mA,h.Ns1 dx mA∧(∀ f,RelO (fs.lookup f) (mA f))∧PySem.Within mA (fs.map (·.1))
 | .own _=>∃ o,h.get? a=some o
 | .xd fs=>∃ mA,h.Ns1 a mA∧∀ f,RelO (fs.lookup f) (mA f)
 | .rng lo hi=>∃ t u v,h.get? a=some { cls:=.type "range",data:=.fields #[.int lo t,.int hi u,.int 1 v] }
 | .frz o u=>h.get? a=some o∧ObjOk H h a u
 | .tbl ps=>h.get? a=some { cls:=.none,data:=.fields ps }
 | .met f x=>h.get? a=some (PySem.W.methodObj (.ref f) (.ref x))
 | .ext φ=>φ h∧(∃ o,h.get? a=some o)∧∀ h1 h2:Heap,φ h1→(∀ o,h1.get? a=some o→h2.get? a=some o)→φ h2
def HOk (H:Hp)(h:Heap):Prop:=∀ a o,H a=some o→ObjOk P w H h a o
end
section
variable {P:Program}{w:World}{H H':Hp}{h h':Heap}{a:Addr}{o:HO}
theorem ObjOk.lt (x:ObjOk P w H h a o):a < h.objs.size:=by
 cases o with
 | lst xs=>obtain⟨_,_,_,_,e⟩:=x;exact Heap.lt_size e
 | tup xs=>obtain⟨_,_,_,p⟩:=x;exact p.lt
 | dK kvs=>obtain⟨_,_,_,_,o,_,_,e,_⟩:=x;exact Heap.lt_size e
 | dT kvs=>obtain⟨_,_,_,_,o,_,_,e,_⟩:=x;exact Heap.lt_size e
 | set S n=>obtain⟨o,_,_,_,e,_⟩:=x;exact Heap.lt_size e
 | ins C dx fs=>obtain⟨_,_,_,e,_⟩:=x;exact Heap.lt_size e
 | own y=>obtain⟨_,e⟩:=x;exact Heap.lt_size e
 | xd fs=>obtain⟨_,⟨_,_,_,e,_⟩,_⟩:=x;exact Heap.lt_size e
 | rng lo hi=>obtain⟨_,_,_,e⟩:=x;exact Heap.lt_size e
 | frz ob u=>obtain⟨e,_⟩:=x;exact Heap.lt_size e
 | tbl ps=>exact Heap.lt_size (show h.get? a=some _ from x)
 | met f y=>exact Heap.lt_size (show h.get? a=some _ from x)
 | ext φ=>obtain⟨_,⟨_,e⟩,_⟩:=x;exact Heap.lt_size e
theorem Paired.mapP {α β:Type}{F G:α→β→Prop}:∀ {l₁:List α} {l₂:List β},Paired F l₁ l₂→(∀ a b,F a b→G a b)→Paired G l₁ l₂
 | _,_,.nil,_=>.nil
 | _,_,.cons r t,f=>.cons (f _ _ r) (Paired.mapP t f)
theorem ObjOk.stay (x:ObjOk P w H h a o)(k:∀ b u,(b=a∨H b=some (.own a))→h.get? b=some u→h'.get? b=some u)
  (ho:∀ b,H b=some (.own a)→H' b=some (.own a)) (ht:∀ b xs,H b=some (.tup xs)→H' b=some (.tup xs)):ObjOk P w H' h' a o:=by
 induction o with
 | lst xs=>obtain⟨z,its,n,r,e⟩:=x;exact⟨z,its,n,r,k _ _ (.inl rfl) e⟩
 | tup xs=>obtain⟨z,its,r,ob,e,c⟩:=x;exact⟨z,its,r,ob,k _ _ (.inl rfl) e,c⟩
 | dK kvs=>obtain⟨z,y,vs,r,ob,es,ep,e,c⟩:=x;exact⟨z,y,vs,r,ob,es,ep,k _ _ (.inl rfl) e,c⟩
 | dT kvs =>
  obtain⟨z,y,xs,r,ob,es,ep,e,c⟩:=x
  exact⟨z,y,xs,Paired.mapP r fun p q z=>⟨z.1,ht _ _ z.2.1,z.2.2⟩,ob,es,ep,k _ _ (.inl rfl) e,c⟩
 | set S n=>obtain⟨ob,es,ep,t,e,c⟩:=x;exact⟨ob,es,ep,t,k _ _ (.inl rfl) e,c⟩
 | ins C dx fs =>
  obtain⟨d,z,ne,e,mA,⟨od,es,ep,e2,c⟩,r⟩:=x
  exact⟨ho _ d,z,ne,k _ _ (.inl rfl) e,mA,⟨od,es,ep,k _ _ (.inr d) e2,c⟩,r⟩
 | own y=>obtain⟨ob,e⟩:=x;exact⟨ob,k _ _ (.inl rfl) e⟩
 | xd fs=>obtain⟨mA,⟨od,es,ep,e,c⟩,r⟩:=x;exact⟨mA,⟨od,es,ep,k _ _ (.inl rfl) e,c⟩,r⟩
 | rng lo hi=>obtain⟨t,u,v,e⟩:=x;exact⟨t,u,v,k _ _ (.inl rfl) e⟩
 | frz ob u ih=>obtain⟨e,q⟩:=x;exact⟨k _ _ (.inl rfl) e,ih q⟩
 | tbl ps =>
  have e:h.get? a=some { cls:=.none,data:=.fields ps }:=x
  show h'.get? a=some { cls:=.none,data:=.fields ps }
  exact k a _ (.inl rfl) e
 | met f y =>
  have e:h.get? a=some (PySem.W.methodObj (.ref f) (.ref y)):=x
  show h'.get? a=some (PySem.W.methodObj (.ref f) (.ref y))
  exact k a _ (.inl rfl) e
 | ext φ=>obtain⟨p,⟨o,e⟩,st⟩:=x;exact⟨st _ _ p fun o q=>k _ _ (.inl rfl) q,⟨o,k _ _ (.inl rfl) e⟩,st⟩
theorem HOk.lt (x:HOk P w H h)(e:H a=some o):a < h.objs.size:=(x a o e).lt
theorem HOk.fresh (x:HOk P w H h)(e:h.objs.size≤a):H a=none:=by
 cases q:H a with
 | none=>rfl
 | some u=>exact absurd (Nat.lt_of_lt_of_le (x.lt q) e) (Nat.lt_irrefl _)
theorem HOk.kept (x:HOk P w H h)(k:∀ b u,h.get? b=some u→h'.get? b=some u):HOk P w H h':=fun a o e =>
 (x a o e).stay (fun b u _ q=>k b u q) (fun _ q=>q) fun _ _ q=>q
theorem HOk.laid (x:HOk P w H h)(k:∀ b u,h.get? b=some u→h'.get? b=some u)(hp:h.objs.size≤a)(new:ObjOk P w (upd H a o) h' a o):HOk P w (upd H a o) h':=fun b u e=>by
 have hn:=x.fresh hp
 by_cases hb:b=a
 ·subst hb;rw[ap]at e;cases e;exact new
 ·rw[ar hb]at e
  exact(x b u e).stay (fun c v _ q=>k c v q) (fun c q=>by rw[ar (bu q hn)];exact q) fun c xs q=>by rw[ar (bu q hn)];exact q
end
def Rd (H:Hp)(a:Addr)(u:HO):Prop:=H a=some u∨∃ o,H a=some (.frz o u)
theorem Rd.ok {P:Program}{w:World}{H:Hp}{h:Heap}{a:Addr}{u:HO}(r:Rd H a u)(x:HOk P w H h):ObjOk P w H h a u:=by
 rcases r with r | ⟨o,r⟩
 ·exact x a u r
 ·obtain⟨_,q⟩:=x a _ r
  exact q
def Mut:Option HO→Prop
 | some (.lst _)=>True
 | some (.dK _)=>True
 | some (.dT _)=>True
 | some (.set _ _)=>True
 | some (.ins _ _ _)=>True
 | some (.ext _)=>True
 | _=>False
section
variable {P:Program}{w:World}{H:Hp}{h h':Heap}{x e:Addr}{o':HO}
theorem HOk.write (ok:HOk P w H h)(mu:Mut (H x))(he:e=x∨H e=some (.own x))(k:∀ b u,b≠e→h.get? b=some u→h'.get? b=some u)(heo:∃ u,h'.get? e=some u)
  (new:ObjOk P w (upd H x o') h' x o'):HOk P w (upd H x o') h':=fun b u q=>by
 have nown:∀ c y,H c=some (.own y)→c≠x:=fun c y r z=>by subst z;rw[r]at mu;exact mu
 have ntup:∀ c xs,H c=some (.tup xs)→c≠x:=fun c xs r z=>by subst z;rw[r]at mu;exact mu
 by_cases hb:b=x
 ·subst hb;rw[ap]at q;cases q;exact new
 ·rw[ar hb]at q
  by_cases hbe:b=e
  ·have q':H b=some (.own x):=by
    rcases he with z | z
    ·exact absurd (hbe.trans z) hb
    ·rw[hbe];exact z
   rw[q]at q';cases q'
   obtain⟨v,hv⟩:=heo
   exact⟨v,by rw[hbe];exact hv⟩
  ·refine(ok b u q).stay (fun c v hc r=>k c v ?_ r) (fun c r=>by rw[ar (nown c b r)];exact r) fun c xs r=>by rw[ar (ntup c xs r)];exact r
   rcases hc with rfl | hc
   ·exact hbe
   ·rintro rfl
    rcases he with z | z
    ·exact nown c b hc z
    ·rw[hc]at z;cases z;exact hb rfl
end
structure Un (fs ex:List Addr)(H H':Hp)(h h':Heap):Prop where
 keep:∀ b o,h.get? b=some o→H b=none→b∉fs→b∉ex→h'.get? b=some o
 slot:∀ b o,h.get? b=some o→H b=none→b∈fs→b∉ex→∃ sl,h'.get? b=some { o with slots:=sl }
 free:∀ b o,h.get? b=some o→H b=none→b∉ex→H' b=none
 there:∀ b o,h.get? b=some o→b∉ex→∃ o',h'.get? b=some o'
 tups:∀ b xs,H b=some (.tup xs)→H' b=some (.tup xs)
 frzs:∀ b o u,H b=some (.frz o u)→H' b=some (.frz o u)
 tbls:∀ b ps,H b=some (.tbl ps)→∃ more,H' b=some (.tbl (ps++more))
section
variable {fs fs' ex ex':List Addr}{H H1 H2:Hp}{h h1 h2 h':Heap}{a x e:Addr}{o:HO}
theorem Un.any (u:Un fs ex H H1 h h1){b:Addr}{ob:Obj}(q:h.get? b=some ob)(n:H b=none)(hx:b∉ex):∃ sl,h1.get? b=some { ob with slots:=sl }:=by
 by_cases hb:b∈fs
 ·exact u.slot b ob q n hb hx
 ·exact⟨ob.slots,u.keep b ob q n hb hx⟩
theorem Un.trans (a:Un fs ex H H1 h h1)(b:Un fs ex H1 H2 h1 h2):Un fs ex H H2 h h2 where
 keep:=fun c ob q n hc hx=>b.keep c ob (a.keep c ob q n hc hx) (a.free c ob q n hx) hc hx
 slot:=fun c ob q n hc hx=>by
  obtain⟨sl,e1⟩:=a.slot c ob q n hc hx
  obtain⟨sl',e2⟩:=b.slot c _ e1 (a.free c ob q n hx) hc hx
  exact⟨sl',e2⟩
 free:=fun c ob q n hx=>by
  obtain⟨o',e1⟩:=a.there c ob q hx
  exact b.free c o' e1 (a.free c ob q n hx) hx
 there:=fun c ob q hx=>by
  obtain⟨o',e1⟩:=a.there c ob q hx
  exact b.there c o' e1 hx
 tups:=fun c xs q=>b.tups c xs (a.tups c xs q)
 frzs:=fun c ob xs q=>b.frzs c ob xs (a.frzs c ob xs q)
 tbls:=fun c ps q=>by
  obtain⟨m1,e1⟩:=a.tbls c ps q
  obtain⟨m2,e2⟩:=b.tbls c _ e1
  exact⟨m1++m2,by rw[e2,Array.append_assoc]⟩
theorem Un.kept (k:∀ b u,h.get? b=some u→h'.get? b=some u):Un fs ex H H h h' :=
 ⟨fun b ob q _ _ _=>k b ob q,fun b ob q _ _ _=>⟨ob.slots,k b ob q⟩,fun _ _ _ n _=>n,fun b ob q _=>⟨ob,k b ob q⟩,fun _ _ q=>q,fun _ _ _ q=>q,fun _ ps q=>⟨#[],by rw[q];simp⟩⟩
theorem Un.refl:Un fs ex H H h h:=Un.kept fun _ _ q=>q
theorem Un.laid (k:∀ b u,h.get? b=some u→h'.get? b=some u)(hp:h.objs.size≤a)(hn:H a=none):Un fs ex H (upd H a o) h h' where
 keep:=fun b u q _ _ _=>k b u q
 slot:=fun b u q _ _ _=>⟨u.slots,k b u q⟩
 free:=fun b u q n _=>by rw[ar (Nat.ne_of_lt (Nat.lt_of_lt_of_le (Heap.lt_size q) hp))];exact n
 there:=fun b u q _=>⟨u,k b u q⟩
 tups:=fun b xs q=>by rw[ar (bu q hn)];exact q
 frzs:=fun b u xs q=>by rw[ar (bu q hn)];exact q
 tbls:=fun b ps q=>⟨#[],by rw[ar (bu q hn),q];simp⟩
theorem Un.write (mu:Mut (H x))(he:e=x∨H e=some (.own x))(k:∀ b u,b≠e→h.get? b=some u→h'.get? b=some u)(heo:∃ u,h'.get? e=some u):Un fs ex H (upd H x o) h h':=by
 have hx:∀ b,H b=none→b≠x:=fun b n z=>by subst z;rw[n]at mu;exact mu
 have hb:∀ b,H b=none→b≠e:=fun b n z=>by
  subst z
  rcases he with r | r
  ·exact hx b n r
  ·rw[n]at r;cases r
 have hm:∀ b u,H b=some u→¬ Mut (some u)→b≠x:=fun b u q nm z=>by subst z;rw[q]at mu;exact nm mu
 refine⟨fun b u q n _ _=>k b u (hb b n) q,fun b u q n _ _=>⟨u.slots,k b u (hb b n) q⟩,fun b u q n _=>by rw[ar (hx b n)];exact n,fun b u q _=>?_,
  fun b xs q=>by rw[ar (hm b _ q fun z=>z)];exact q,fun b u xs q=>by rw[ar (hm b _ q fun z=>z)];exact q,fun b ps q=>⟨#[],by rw[ar (hm b _ q fun z=>z),q];simp⟩⟩
 by_cases hbe:b=e
 ·subst hbe;exact heo
 ·exact⟨u,k b u hbe q⟩
end
def trk (h:Heap)(H:Hp):List Addr:=(List.range h.objs.size).filter fun a=>(H a).isSome
def hidT (h:Heap)(H:Hp):Heap:=PySem.W.hideAll h (trk h H)
theorem nS (h:Heap)(H:Hp):(hidT h H).objs.size=h.objs.size:=PySem.W.hideAll_size _ _
theorem pj {h:Heap}{H:Hp}{b:Addr}{o:Obj}(e:h.get? b=some o)(n:H b=none):(hidT h H).get? b=some o :=
 PySem.W.hideAll_get _ e fun hm=>by
  have q:(H b).isSome=true:=(List.mem_filter.mp hm).2
  rw[n]at q;simp at q
theorem rq {h:Heap}{H:Hp}{b:Addr}{o:Obj}(e:(hidT h H).get? b=some o):h.get? b=some o∧H b=none:=by
 have e':h.get? b=some o:=PySem.W.of_hideAll (trk h H) e
 refine⟨e',?_⟩
 cases q:H b with
 | none=>rfl
 | some x =>
  have hm:b∈trk h H:=List.mem_filter.mpr ⟨List.mem_range.mpr (Heap.lt_size e'),by simp[q]⟩
  have z:(hidT h H).get? b=none:=PySem.W.hideAll_none (trk h H) hm
  rw[z]at e;cases e
def allNews (g h:Heap)(L:Addr):List (Addr×Obj):=(List.range h.objs.size).filterMap fun a=>if a=L∨(g.get? a).isSome=true then none else (h.get? a).map fun o=>(a,o)
def rest (g h:Heap)(L d:Addr):List (Addr×Obj):=(allNews g h L).filter fun p=>decide (p.1≠d)
end L2
namespace L2
open PySem PySem.Spec PyProof.Rows
structure Mod (K:PySem.W.Frag)(mg:Str→Option Value)(base:Heap):Prop where
 kin:K.In base
 glob:base.Ns mainGlobals mg
 blt:∃ mb,base.Ns builtinsNs mb∧∀ x:Str,x ≠ "__name__" → mb x=bootBuiltins x
 nolimit:base.NoLimit
structure Cx where
 prog:Program
 w:World
 K:PySem.W.Frag
 mg:Str→Option Value
 base:Heap
 A:Around
 N:List Str
 s₀:Shared
 H₀:Hp
 env:Env
 outer:List Env
 stack:List Env
 ex:List Addr
 fn:Str→Bool
 calm:Bool
 pn:List (Addr×Obj)
 xe:Value→Shared→Prop
def frs (l:List Env):List Addr:=l.filterMap (·.frame)
abbrev Cx.fs (X:Cx):List Addr:=frs X.outer
def Vis (sc:Scope)(x:Str):Prop:=sc.names.lookup x=some .local∨sc.names.lookup x=some .cell∨sc.names.lookup x=some .free
def Loc (sc:Scope)(x:Str):Prop:=sc.names.lookup x=some .local∨sc.names.lookup x=some .cell
def Look (env:Env)(h:Heap)(m:Str→Option Value)(x:Str)(u:Value):Prop :=
 (env.kindOf x=some .local∧m x=some u)∨((env.kindOf x=some .cell∨env.kindOf x=some .free)∧∃ c,env.cells.lookup x=some c∧h.IsCell c (some u))
structure Cx.Ok (X:Cx):Prop where
 mod:Mod X.K X.mg X.base
 kind:X.env.scope.kind=.function
 glob:X.env.globals=mainGlobals
 blt:X.env.builtins=builtinsNs
 above:X.s₀.heap.objs.size≤X.env.locals
 inj:∀ x y c,X.env.cells.lookup x=some c→X.env.cells.lookup y=some c→x=y
 has:∀ x,(X.env.kindOf x=some .cell∨X.env.kindOf x=some .free)→∃ c,X.env.cells.lookup x=some c
 cab:∀ x c,X.fn x=true→X.env.cells.lookup x=some c→X.s₀.heap.objs.size≤c
 hd:X.calm=true→X.A.handled=none
 frames:X.A.frames=some X.stack
 stk:X.stack=X.outer∨(X.stack=X.env::X.outer∧X.env.frame=some X.env.locals)
 exf:∀ b∈X.ex,b≠X.env.locals∧∀ x c,X.env.cells.lookup x=some c→c≠b
 bs:∀ b o,X.base.get? b=some o→X.s₀.heap.get? b=some o∧X.H₀ b=none
 bsz:X.base.objs.size≤X.s₀.heap.objs.size
 noex:∀ b o,X.base.get? b=some o→b∉X.ex
 exfs:∀ b∈X.ex,b∉X.fs
 funs:X.s₀.heap.FunFrames X.base X.outer
 frf:∀ b∈X.fs,X.H₀ b=none
structure Inv (X:Cx)(pins:List (Addr×Obj))(σ:List (Option V))(H:Hp)(s:Shared):Prop where
 ok:X.Ok
 os:s.os=X.s₀.os
 bare:AllBare s.gens
 base:Un X.fs X.ex X.H₀ H X.s₀.heap s.heap
 loc:∃ m,s.heap.Ns X.env.locals m∧∀ (i:Nat) (x:Str) (v:V),X.N[i]?=some x→σ[i]?=some (some v)→Vis X.env.scope x→∃ u,RelV v u∧Look X.env s.heap m x u
 cell:∀ x c,X.env.cells.lookup x=some c→∃ v,s.heap.IsCell c v
 free:H X.env.locals=none
 freeC:∀ x c,X.env.cells.lookup x=some c→H c=none
 pin:∀ p∈X.pn++pins,s.heap.get? p.1=some p.2∧H p.1=none∧p.1≠X.env.locals∧p.1∉X.fs∧∀ v,p.2.data≠.cell v
 hok:HOk X.prog X.w H s.heap
 len:σ.length=X.N.length
section
variable {X:Cx}{pins:List (Addr×Obj)}{σ:List (Option V)}{H H':Hp}{s:Shared}{h':Heap}
theorem Cx.Ok.nofr (ok:X.Ok){b:Addr}{o:Obj}(e:X.base.get? b=some o):b∉X.fs:=fun hb=>by
 have:=(ok.funs.mem hb).1
 rw[e]at this;cases this
theorem Inv.bs (I:Inv X pins σ H s):∀ b o,X.base.get? b=some o→s.heap.get? b=some o∧H b=none:=fun b o e =>
 ⟨I.base.keep b o (I.ok.bs b o e).1 (I.ok.bs b o e).2 (I.ok.nofr e) (I.ok.noex b o e),I.base.free b o (I.ok.bs b o e).1 (I.ok.bs b o e).2 (I.ok.noex b o e)⟩
theorem Inv.bk (I:Inv X pins σ H s):∀ b o,X.base.get? b=some o→s.heap.get? b=some o:=fun b o e=>(I.bs b o e).1
theorem Inv.mod (I:Inv X pins σ H s):Mod X.K X.mg X.base:=I.ok.mod
theorem Inv.kIn (I:Inv X pins σ H s):X.K.In s.heap:=I.ok.mod.kin.keeps I.bk
theorem Inv.lt (I:Inv X pins σ H s):X.env.locals < s.heap.objs.size:=let ⟨_,hn,_⟩:=I.loc;hn.lt
theorem Inv.sz (I:Inv X pins σ H s):X.s₀.heap.objs.size≤s.heap.objs.size:=Nat.le_trans I.ok.above (Nat.le_of_lt I.lt)
theorem Inv.nofs (I:Inv X pins σ H s){a:Addr}(h:s.heap.objs.size≤a):a∉X.fs:=fun hb=>by
 obtain⟨_,o,ho,_⟩:=I.ok.funs.mem hb
 exact absurd (Nat.lt_of_lt_of_le (Heap.lt_size ho) (Nat.le_trans I.sz h)) (Nat.lt_irrefl _)
theorem Inv.cne (I:Inv X pins σ H s):∀ x c,X.env.cells.lookup x=some c→c≠X.env.locals:=fun x c e z=>by
 obtain⟨v,o,ho,hd⟩:=I.cell x c e
 obtain⟨m,⟨o',es,ep,ho',hd',_⟩,_⟩:=I.loc
 rw[z,ho']at ho;cases ho;rw[hd']at hd;cases hd
theorem Inv.funs (I:Inv X pins σ H s):s.heap.FunFrames X.base X.outer:=by
 have all:∀ (l:List Env),(∀ b∈frs l,b∈X.fs)→X.s₀.heap.FunFrames X.base l→s.heap.FunFrames X.base l:=by
  intro l
  induction l with
  | nil=>intro _ _;trivial
  | cons env r ih =>
   intro hs hl
   obtain⟨hk,⟨L,o,hf,hn,ho,hd⟩,hr⟩:=hl
   have hL:L∈X.fs:=hs L (by unfold frs;rw[List.filterMap_cons,hf];exact List.mem_cons_self)
   obtain⟨sl,e⟩:=I.base.slot L o ho (I.ok.frf L hL) hL fun z=>I.ok.exfs L z hL
   exact⟨hk,⟨L,_,hf,hn,e,hd⟩,ih (fun b hb=>hs b (by unfold frs;rw[List.filterMap_cons,hf];exact List.mem_cons_of_mem _ hb)) hr⟩
 exact all X.outer (fun _ hb=>hb) I.ok.funs
theorem Inv.stack (I:Inv X pins σ H s):s.heap.FunFrames X.base X.stack:=by
 rcases I.ok.stk with e | ⟨e,hf⟩
 ·rw[e];exact I.funs
 ·rw[e]
  obtain⟨m,hn,_⟩:=I.loc
  refine .cons (by rw[I.ok.kind];decide) hf hn ?_ I.funs
  exact Heap.get?_none_of_le (Nat.le_trans I.ok.bsz I.ok.above)
theorem Inv.stkSub (I:Inv X pins σ H s):∀ b∈frs X.stack,b∈X.env.locals::X.fs:=fun b hb=>by
 rcases I.ok.stk with e | ⟨e,hf⟩
 ·rw[e]at hb;exact List.mem_cons_of_mem _ hb
 ·rw[e]at hb
  unfold frs at hb
  rw[List.filterMap_cons,hf]at hb
  exact hb
theorem Inv.stkFree (I:Inv X pins σ H s):∀ b∈frs X.stack,H b=none:=fun b hb=>by
 rcases List.mem_cons.mp (I.stkSub b hb) with e | hb
 ·rw[e];exact I.free
 ·obtain⟨_,o,ho,_⟩:=I.ok.funs.mem hb
  exact I.base.free b o ho (I.ok.frf b hb) fun z=>I.ok.exfs b z hb
theorem Inv.step {g':Array GenState}{t':Nat}{d':Drawn}{ch:List Addr}(I:Inv X pins σ H s)
  (hch:∀ b∈ch,(b∈X.ex∨X.s₀.heap.objs.size≤b)∧b≠X.env.locals∧(∀ x c,X.env.cells.lookup x=some c→c≠b)∧∀ p∈X.pn++pins,p.1≠b)
  (keep:∀ b o,b≠X.env.locals→b∉X.fs→b∉ch→s.heap.get? b=some o→H b=none→h'.get? b=some o)
  (slot:∀ b o,b≠X.env.locals→b∈X.fs→b∉ch→s.heap.get? b=some o→H b=none→∃ sl,h'.get? b=some { o with slots:=sl }) (free:∀ b o,b∉ch→s.heap.get? b=some o→H b=none→H' b=none)
  (there:∀ b o,b∉ch→s.heap.get? b=some o→∃ o',h'.get? b=some o')
  (tups:∀ b xs,H b=some (.tup xs)→H' b=some (.tup xs)) (frzs:∀ b o u,H b=some (.frz o u)→H' b=some (.frz o u)) (tbls:∀ b ps,H b=some (.tbl ps)→∃ more,H' b=some (.tbl (ps++more)))
  (ns:∀ m,s.heap.Ns X.env.locals m→h'.Ns X.env.locals m) (hok:HOk X.prog X.w H' h') (hg:AllBare g') :
  Inv X pins σ H' { s with heap:=h',gens:=g',drawn:=d',toks:=t' }:=by
 have neL:∀ b o,X.s₀.heap.get? b=some o→b≠X.env.locals:=fun b o e=>Nat.ne_of_lt (Nat.lt_of_lt_of_le (Heap.lt_size e) I.ok.above)
 have neC:∀ b o,X.s₀.heap.get? b=some o→b∉X.ex→b∉ch:=fun b o e hx hb=>by
  rcases(hch b hb).1 with z | z
  ·exact hx z
  ·exact absurd (Nat.lt_of_lt_of_le (Heap.lt_size e) z) (Nat.lt_irrefl _)
 have cellK:∀ x c,X.env.cells.lookup x=some c→∀ v,s.heap.IsCell c v→h'.IsCell c v:=fun x c e v ⟨o,ho,hd⟩=>by
  have nch:c∉ch:=fun z=>(hch c z).2.2.1 x c e rfl
  by_cases hc:c∈X.fs
  ·obtain⟨sl,q⟩:=slot c o (I.cne x c e) hc nch ho (I.freeC x c e)
   exact⟨_,q,hd⟩
  ·exact⟨o,keep c o (I.cne x c e) hc nch ho (I.freeC x c e),hd⟩
 refine⟨I.ok,I.os,hg,⟨fun b o e n hb hx=>?_,fun b o e n hb hx=>?_,fun b o e n hx=>?_,fun b o e hx=>?_,fun b xs e=>tups b xs (I.base.tups b xs e),fun b o xs e=>frzs b o xs (I.base.frzs b o xs e),fun b ps e=>?_⟩,?_,fun x c e=>?_,?_,fun x c e=>?_,fun p hp=>?_,hok,I.len⟩
 ·exact keep b o (neL b o e) hb (neC b o e hx) (I.base.keep b o e n hb hx) (I.base.free b o e n hx)
 ·obtain⟨sl,e1⟩:=I.base.slot b o e n hb hx
  obtain⟨sl',e2⟩:=slot b _ (neL b o e) hb (neC b o e hx) e1 (I.base.free b o e n hx)
  exact⟨sl',e2⟩
 ·obtain⟨o',e1⟩:=I.base.there b o e hx
  exact free b o' (neC b o e hx) e1 (I.base.free b o e n hx)
 ·obtain⟨o',e1⟩:=I.base.there b o e hx
  exact there b o' (neC b o e hx) e1
 ·obtain⟨m1,e1⟩:=I.base.tbls b ps e
  obtain⟨m2,e2⟩:=tbls b _ e1
  exact⟨m1++m2,by rw[e2,Array.append_assoc]⟩
 ·obtain⟨m,hn,hl⟩:=I.loc
  refine⟨m,ns m hn,fun i x v e1 e2 e3=>?_⟩
  obtain⟨u,r,l⟩:=hl i x v e1 e2 e3
  refine⟨u,r,?_⟩
  rcases l with l | ⟨k,c,e,z⟩
  ·exact .inl l
  ·exact .inr ⟨k,c,e,cellK x c e _ z⟩
 ·obtain⟨v,z⟩:=I.cell x c e
  exact⟨v,cellK x c e v z⟩
 ·obtain⟨m,⟨o,_,_,ho,_⟩,_⟩:=I.loc
  exact free _ o (fun z=>(hch _ z).2.1 rfl) ho I.free
 ·obtain⟨v,o,ho,hd⟩:=I.cell x c e
  exact free c o (fun z=>(hch c z).2.2.1 x c e rfl) ho (I.freeC x c e)
 ·obtain⟨e,n,ne,nf,d⟩:=I.pin p hp
  have nch:p.1∉ch:=fun z=>(hch p.1 z).2.2.2 p hp rfl
  exact⟨keep p.1 p.2 ne nf nch e n,free p.1 p.2 nch e n,ne,nf,d⟩
theorem Inv.un {t':Nat}(I:Inv X pins σ H s)(u:Un X.fs [] H H' s.heap h')(hok:HOk X.prog X.w H' h'):Inv X pins σ H' { s with heap:=h',toks:=t' }:=by
 obtain⟨m,⟨o,es,ep,ho,r⟩,_⟩:=id I.loc
 obtain⟨sl,hL⟩:=u.any ho I.free (by simp)
 exact I.step (g':=s.gens) (d':=s.drawn) (ch:=[]) (fun _ z=>nomatch z) (fun b o _ hb _ e n=>u.keep b o e n hb (by simp)) (fun b o _ hb _ e n=>u.slot b o e n hb (by simp)) (fun b o _ e n=>u.free b o e n (by simp)) (fun b o _ e=>u.there b o e (by simp)) u.tups u.frzs u.tbls (fun m' hm=>by
  obtain⟨o',es',ep',ho',r'⟩:=hm
  rw[ho]at ho';cases ho'
  exact⟨_,es',ep',hL,r'⟩) hok I.bare
theorem Inv.call {g':Array GenState}{t':Nat}{d':Drawn}{ch:List Addr}(I:Inv X pins σ H s)(u:Un (frs X.stack) ch H H' s.heap h')(hok:HOk X.prog X.w H' h')(hg:AllBare g')
  (hch:∀ b∈ch,(b∈X.ex∨X.s₀.heap.objs.size≤b)∧b≠X.env.locals∧(∀ x c,X.env.cells.lookup x=some c→c≠b)∧∀ p∈X.pn++pins,p.1≠b) :
  Inv X pins σ H' { s with heap:=h',gens:=g',drawn:=d',toks:=t' }:=by
 obtain⟨m,⟨o,es,ep,ho,r⟩,_⟩:=id I.loc
 obtain⟨sl,hL⟩:=u.any ho I.free fun z=>(hch _ z).2.1 rfl
 exact I.step (ch:=ch) hch (fun b o hL hb hc e n=>u.keep b o e n (fun z=>(List.mem_cons.mp (I.stkSub b z)).elim hL hb) hc) (fun b o _ _ hc e n=>u.any e n hc) (fun b o hc e n=>u.free b o e n hc) (fun b o hc e=>u.there b o e hc) u.tups u.frzs u.tbls (fun m' hm=>by
  obtain⟨o',es',ep',ho',r'⟩:=hm
  rw[ho]at ho';cases ho'
  exact⟨_,es',ep',hL,r'⟩) hok hg
theorem Inv.turned {t':Nat}{it:Addr}(I:Inv X pins σ H s)(k:∀ b o,b≠it→s.heap.get? b=some o→h'.get? b=some o)(hn:H it=none)(hL:it≠X.env.locals)
  (h1:it∈X.ex∨X.s₀.heap.objs.size≤it) (h2:∀ x c,X.env.cells.lookup x=some c→c≠it) (h3:∀ p∈X.pn++pins,p.1≠it):Inv X pins σ H { s with heap:=h',toks:=t' }:=by
 have nit:∀ b u,H b=some u→b≠it:=fun b u e z=>by rw[z,hn]at e;cases e
 refine I.step (g':=s.gens) (d':=s.drawn) (ch:=[it]) (fun b hb=>?_) (fun b o _ _ hc e _=>k b o (fun z=>hc (by simp[z])) e) (fun b o _ _ hc e _=>⟨o.slots,k b o (fun z=>hc (by simp[z])) e⟩) (fun _ _ _ _ n=>n)
  (fun b o hc e=>⟨o,k b o (fun z=>hc (by simp[z])) e⟩) (fun _ _ e=>e) (fun _ _ _ e=>e) (fun b ps e=>⟨#[],by rw[e];simp⟩) (fun m hm=>?_) (fun b u e=>?_) I.bare
 ·have e:b=it:=by simpa using hb
  subst e
  exact⟨h1,hL,h2,h3⟩
 ·obtain⟨o,es,ep,ho,r⟩:=hm
  exact⟨o,es,ep,k _ o (Ne.symm hL) ho,r⟩
 ·refine(I.hok b u e).stay (fun c v hc q=>k c v ?_ q) (fun _ q=>q) fun _ _ q=>q
  rcases hc with z | z
  ·rw[z];exact nit b u e
  ·exact nit c _ z
theorem Inv.tok (I:Inv X pins σ H s)(t:Nat):Inv X pins σ H { s with toks:=t }:=I.un (h':=s.heap) (t':=t) Un.refl I.hok
theorem Inv.kept {t':Nat}(I:Inv X pins σ H s)(k:∀ b u,s.heap.get? b=some u→h'.get? b=some u):Inv X pins σ H { s with heap:=h',toks:=t' }:=I.un (Un.kept k) (I.hok.kept k)
theorem Inv.laid {a:Addr}{o:HO}{t':Nat}(I:Inv X pins σ H s)(k:∀ b u,s.heap.get? b=some u→h'.get? b=some u)(hp:s.heap.objs.size≤a)(new:ObjOk X.prog X.w (upd H a o) h' a o) :
  Inv X pins σ (upd H a o) { s with heap:=h',toks:=t' }:=I.un (Un.laid k hp (I.hok.fresh hp)) (I.hok.laid k hp new)
theorem Inv.write {x e:Addr}{o:HO}{t':Nat}(I:Inv X pins σ H s)(mu:Mut (H x))(he:e=x∨H e=some (.own x))(k:∀ b u,b≠e→s.heap.get? b=some u→h'.get? b=some u)(heo:∃ u,h'.get? e=some u)
  (new:ObjOk X.prog X.w (upd H x o) h' x o):Inv X pins σ (upd H x o) { s with heap:=h',toks:=t' }:=I.un (Un.write mu he k heo) (I.hok.write mu he k heo new)
theorem Inv.pins_of {pins':List (Addr×Obj)}(I:Inv X pins σ H s)(h:∀ p∈pins',s.heap.get? p.1=some p.2∧H p.1=none∧p.1≠X.env.locals∧p.1∉X.fs∧∀ v,p.2.data≠.cell v):Inv X pins' σ H s :=
 ⟨I.ok,I.os,I.bare,I.base,I.loc,I.cell,I.free,I.freeC,fun p hp=>(List.mem_append.mp hp).elim (fun z=>I.pin p (List.mem_append_left _ z)) (h p),I.hok,I.len⟩
theorem g6 {N:List Str}(hN:N.Nodup){i j:Nat}{x:Str}(a:N[i]?=some x)(b:N[j]?=some x):i=j:=by
 obtain⟨h1,e1⟩:=List.getElem?_eq_some_iff.mp a
 obtain⟨h2,e2⟩:=List.getElem?_eq_some_iff.mp b
 exact(List.getElem_inj hN).mp (e1.trans e2.symm)
theorem ju {M:Model}{A:Around}{E:Value→Shared→Prop}{i:Nat}{x:Str}{v:V}{u:Value}{Q:Unit→Shared→Prop}(I:Inv X pins σ H s)(hN:X.N.Nodup)(hi:X.N[i]?=some x)(hx:Loc X.env.scope x)(r:RelV v u)
  (h:∀ s',Inv X pins (σ.set i (some v)) H s'→(∃ a,Heap.SameBut a s.heap s'.heap∧(a=X.env.locals∨X.env.cells.lookup x=some a))→Q () s') (hf:X.fn x=true∨X.env.scope.names.lookup x=some .local:=by first | exact .inl rfl | exact .inr rfl | assumption):wpAny M A (storeName X.env x u) Q E s:=by
 obtain⟨m,hn,hl⟩:=id I.loc
 have hcls:(X.env.scope.kind==.class||(X.env.scope.kind==.module&&X.env.locals != X.env.globals))=false:=by rw[I.ok.kind];rfl
 have hiσ:i < σ.length:=by rw[I.len];exact(List.getElem?_eq_some_iff.mp hi).1
 have cne:=I.cne
 have tracked:∀ {a:Addr} {h':Heap},(∃ o,s.heap.get? a=some o∧H a=none)→Heap.SameBut a s.heap h'→HOk X.prog X.w H h':=fun {a h'} ha hs b ob e=>by
  obtain⟨_,_,hfree⟩:=ha
  refine(I.hok b ob e).stay (fun c w' hc q=>(hs.2 c ?_).trans q) (fun _ q=>q) fun _ _ q=>q
  rintro rfl
  rcases hc with rfl | hc
  ·rw[hfree]at e;cases e
  ·rw[hfree]at hc;cases hc
 rcases hx with hk | hk
 ·refine wpAny_storeName_local hk hn (fun h' hn' hs=>?_) hcls
  obtain⟨oL,_,_,hoL,_⟩:=id hn
  refine h _ ⟨I.ok,I.os,I.bare,⟨fun b o e n hb hx=>?_,fun b o e n hb hx=>?_,I.base.free,fun b o e hx=>?_,I.base.tups,I.base.frzs,I.base.tbls⟩,⟨_,hn',fun j y v' e1 e2 e3=>?_⟩,fun y c e=>?_,I.free,I.freeC,fun p hp=>?_,tracked ⟨oL,hoL,I.free⟩ hs,by simpa using I.len⟩ ⟨_,hs,.inl rfl⟩
  ·exact(hs.2 b (Nat.ne_of_lt (Nat.lt_of_lt_of_le (Heap.lt_size e) I.ok.above))).trans (I.base.keep b o e n hb hx)
  ·obtain⟨sl,e1⟩:=I.base.slot b o e n hb hx
   exact⟨sl,(hs.2 b (Nat.ne_of_lt (Nat.lt_of_lt_of_le (Heap.lt_size e) I.ok.above))).trans e1⟩
  ·obtain⟨o',e1⟩:=I.base.there b o e hx
   exact⟨o',(hs.2 b (Nat.ne_of_lt (Nat.lt_of_lt_of_le (Heap.lt_size e) I.ok.above))).trans e1⟩
  ·by_cases hj:j=i
   ·subst hj
    rw[hi]at e1;cases e1
    rw[List.getElem?_set_self hiσ]at e2
    cases e2
    exact⟨u,r,.inl ⟨hk,by simp⟩⟩
   ·rw[List.getElem?_set_ne (Ne.symm hj)]at e2
    obtain⟨u',r',q⟩:=hl j y v' e1 e2 e3
    refine⟨u',r',?_⟩
    rcases q with ⟨k,e⟩ | ⟨k,c,e,z⟩
    ·refine .inl ⟨k,?_⟩
     have:y≠x:=fun e=>hj (g6 hN e1 (e ▸ hi))
     simp[this,e]
    ·exact .inr ⟨k,c,e,z.sameBut hs (cne y c e)⟩
  ·obtain⟨w',z⟩:=I.cell y c e
   exact⟨w',z.sameBut hs (cne y c e)⟩
  ·obtain⟨e,n,ne,nf,d⟩:=I.pin p hp
   exact⟨(hs.2 p.1 ne).trans e,n,ne,nf,d⟩
 ·have hfn:X.fn x=true:=by
   rcases hf with z | z
   ·exact z
   ·rw[z]at hk;cases hk
  obtain⟨c,hc⟩:=I.ok.has x (.inl hk)
  obtain⟨w',z⟩:=I.cell x c hc
  refine wpAny_storeName_cell I.ok.kind hk hc z (fun h' hc' hs=>?_)
  obtain⟨oc,hoc,hocd⟩:=id z
  refine h { s with heap:=h' } ⟨I.ok,I.os,I.bare,⟨fun b o e n hb hx=>?_,fun b o e n hb hx=>?_,I.base.free,fun b o e hx=>?_,I.base.tups,I.base.frzs,I.base.tbls⟩,⟨m,hn.sameBut hs (Ne.symm (cne x c hc)),fun j y v' e1 e2 e3=>?_⟩,fun y c' e=>?_,I.free,I.freeC,fun p hp=>?_,tracked ⟨oc,hoc,I.freeC x c hc⟩ hs,by simpa using I.len⟩ ⟨c,hs,.inr hc⟩
  ·exact(hs.2 b (Nat.ne_of_lt (Nat.lt_of_lt_of_le (Heap.lt_size e) (I.ok.cab x c hfn hc)))).trans (I.base.keep b o e n hb hx)
  ·obtain⟨sl,e1⟩:=I.base.slot b o e n hb hx
   exact⟨sl,(hs.2 b (Nat.ne_of_lt (Nat.lt_of_lt_of_le (Heap.lt_size e) (I.ok.cab x c hfn hc)))).trans e1⟩
  ·obtain⟨o',e1⟩:=I.base.there b o e hx
   exact⟨o',(hs.2 b (Nat.ne_of_lt (Nat.lt_of_lt_of_le (Heap.lt_size e) (I.ok.cab x c hfn hc)))).trans e1⟩
  ·by_cases hj:j=i
   ·subst hj
    rw[hi]at e1;cases e1
    rw[List.getElem?_set_self hiσ]at e2
    cases e2
    exact⟨u,r,.inr ⟨.inl hk,c,hc,hc'⟩⟩
   ·rw[List.getElem?_set_ne (Ne.symm hj)]at e2
    obtain⟨u',r',q⟩:=hl j y v' e1 e2 e3
    refine⟨u',r',?_⟩
    rcases q with q | ⟨k,c',e,z'⟩
    ·exact .inl q
    ·refine .inr ⟨k,c',e,z'.sameBut hs ?_⟩
     rintro rfl
     exact hj (g6 hN e1 (I.ok.inj _ _ _ e hc ▸ hi))
  ·by_cases hcc:c'=c
   ·subst hcc;exact⟨_,hc'⟩
   ·obtain⟨w2,z2⟩:=I.cell y c' e
    exact⟨w2,z2.sameBut hs hcc⟩
  ·obtain⟨e,n,ne,nf,d⟩:=I.pin p hp
   refine⟨(hs.2 p.1 ?_).trans e,n,ne,nf,d⟩
   intro q
   rw[q,hoc]at e
   have q':oc=p.2:=Option.some.inj e
   exact d w' (by rw[← q'];exact hocd)
theorem cY {M:Model}{A:Around}{E:Value→Shared→Prop}{i:Nat}{x:Str}{v:V}{u:Value}{Q:Unit→Shared→Prop}(I:Inv X pins σ H s)(hN:X.N.Nodup)(hi:X.N[i]?=some x)(hx:Loc X.env.scope x)(r:RelV v u)
  (h:∀ s',Inv X pins (σ.set i (some v)) H s'→Q () s') (hf:X.fn x=true∨X.env.scope.names.lookup x=some .local:=by first | exact .inl rfl | exact .inr rfl | assumption):wpAny M A (storeName X.env x u) Q E s :=
 ju I hN hi hx r (fun s' I' _=>h s' I') hf
theorem Inv.call' {s':Shared}{ch:List Addr}(I:Inv X pins σ H s)(ho:s'.os=s.os)(u:Un (frs X.stack) ch H H' s.heap s'.heap)(hok:HOk X.prog X.w H' s'.heap)(hg:AllBare s'.gens)
  (hch:∀ b∈ch,(b∈X.ex∨X.s₀.heap.objs.size≤b)∧b≠X.env.locals∧(∀ x c,X.env.cells.lookup x=some c→c≠b)∧∀ p∈X.pn++pins,p.1≠b):Inv X pins σ H' s':=by
 obtain⟨h',g',d',t',o'⟩:=s'
 have e:o'=s.os:=ho
 subst e
 exact I.call (g':=g') (t':=t') (d':=d') u hok hg hch
end
abbrev XK:=Value→Option Addr→Hp→Prop
abbrev St:=List (Option V)
abbrev VK:=V→Hp→Prop
abbrev TE:=St→Hp→VK→Prop
abbrev TT:=St→Hp→(Bool→Hp→Prop)→Prop
abbrev TA:=St→Hp→(List V→Hp→Prop)→Prop
structure Ends where
 nx:St→Hp→Prop
 rt:VK
 bk:St→Hp→Prop:=fun _ _=>False
 ct:St→Hp→Prop:=fun _ _=>False
abbrev TS:=Ends→St→Hp→Prop
def EP (X:Cx)(pins:List (Addr×Obj))(σ:St)(Q:VK)(u:Value)(s':Shared):Prop:=∃ v H',Inv X pins σ H' s'∧RelV v u∧Q v H'
def TP (X:Cx)(pins:List (Addr×Obj))(σ:St)(Q:Bool→Hp→Prop)(b:Bool)(s':Shared):Prop:=∃ H',Inv X pins σ H' s'∧Q b H'
def AP (X:Cx)(pins:List (Addr×Obj))(σ:St)(Q:List V→Hp→Prop)(us:List Value)(s':Shared):Prop:=∃ vs H',Inv X pins σ H' s'∧Vals vs us∧Q vs H'
def SP (X:Cx)(pins:List (Addr×Obj))(D:Ends)(f:Flow)(s':Shared):Prop :=
 match f with
 | .next=>∃ σ' H',Inv X pins σ' H' s'∧D.nx σ' H'
 | .brk=>∃ σ' H',Inv X pins σ' H' s'∧D.bk σ' H'
 | .cont=>∃ σ' H',Inv X pins σ' H' s'∧D.ct σ' H'
 | .ret u=>∃ v σ' H',Inv X pins σ' H' s'∧RelV v u∧D.rt v H'
def PE (X:Cx)(e:Expr)(t:TE):Prop :=
 ∀ (pins:List (Addr×Obj)) (s:Shared) (σ:St) (H:Hp) (Q:VK),Inv X pins σ H s→t σ H Q→wpAny (model X.prog X.w) X.A (eval e X.env) (EP X pins σ Q) X.xe s
def PT (X:Cx)(e:Expr)(t:TT):Prop :=
 ∀ (pins:List (Addr×Obj)) (s:Shared) (σ:St) (H:Hp) (Q:Bool→Hp→Prop),Inv X pins σ H s→t σ H Q→wpAny (model X.prog X.w) X.A (isTrue e X.env (eval e X.env)) (TP X pins σ Q) X.xe s
def PW (X:Cx)(e:Expr)(t:TT):Prop :=
 ∀ (whole:Sem Value) (pins:List (Addr×Obj)) (s:Shared) (σ:St) (H:Hp) (Q:Bool→Hp→Prop),Inv X pins σ H s→t σ H Q→wpAny (model X.prog X.w) X.A (isTrue e X.env whole) (TP X pins σ Q) X.xe s
theorem PW.pt {X:Cx}{e:Expr}{t:TT}(h:PW X e t):PT X e t:=h _
def PA (X:Cx)(es:List Expr)(t:TA):Prop :=
 ∀ (pos:Pos) (pins:List (Addr×Obj)) (s:Shared) (σ:St) (H:Hp) (Q:List V→Hp→Prop),Inv X pins σ H s→t σ H Q→wpAny (model X.prog X.w) X.A (spliced (backTo pos (starEach es X.env))) (AP X pins σ Q) X.xe s
def PS (X:Cx)(st:Stmt)(t:TS):Prop :=
 ∀ (pins:List (Addr×Obj)) (s:Shared) (σ:St) (H:Hp) (D:Ends),Inv X pins σ H s→t D σ H→wpAny (model X.prog X.w) X.A (exec st X.env) (SP X pins D) X.xe s
def PSs (X:Cx)(st:List Stmt)(t:TS):Prop :=
 ∀ (pins:List (Addr×Obj)) (s:Shared) (σ:St) (H:Hp) (D:Ends),Inv X pins σ H s→t D σ H→wpAny (model X.prog X.w) X.A (execs st X.env) (SP X pins D) X.xe s
theorem thn {α:Type}{t:Sem α}{Q Q':α→Shared→Prop}{M:Model}{A:Around}{E:Value→Shared→Prop}{s:Shared}(h:wpAny M A t Q E s)(hQ:∀ a s,Q a s→Q' a s):wpAny M A t Q' E s:=wpAny_mono h hQ fun _ _ x=>x
end L2
namespace L2
open PySem PySem.Spec PyProof.Rows
section
variable {X:Cx}
theorem bin {a b:Expr}{ta tb:TE}(ha:PE X a ta)(hb:PE X b tb){pins:List (Addr×Obj)}{s:Shared}{σ:St}{H:Hp}{R:V→V→Hp→Prop}(I:Inv X pins σ H s)(h:ta σ H fun x H1=>tb σ H1 fun y H2=>R x y H2)
  {α:Type} {Q:α→Shared→Prop} {f:Value→Value→Sem α}
  (hf:∀ v u s2 x y H2,Inv X pins σ H2 s2→RelV x v→RelV y u→R x y H2→wpAny (model X.prog X.w) X.A (f v u) Q X.xe s2) :
  wpAny (model X.prog X.w) X.A (eval a X.env) (fun v s₁=>wpAny (model X.prog X.w) X.A (eval b X.env) (fun u s₂=>wpAny (model X.prog X.w) X.A (f v u) Q X.xe s₂) X.xe s₁) X.xe s:=by
 refine thn (ha pins s σ H _ I h) fun v s1 ⟨x,H1,I1,r1,q1⟩=>?_
 refine thn (hb pins s1 σ H1 _ I1 q1) fun u s2 ⟨y,H2,I2,r2,q2⟩=>?_
 exact hf v u s2 x y H2 I2 r1 r2 q2
def tVar (i:Nat):TE:=fun σ H Q=>∃ v,σ[i]?=some (some v)∧Q v H
def tC (v:V):TE:=fun _ H Q=>Q v H
theorem g7 {i:Nat}{x:Str}{pos:Pos}(hN:X.N[i]?=some x)(hv:Vis X.env.scope x)(hd:(x==("__debug__":Str))=false:=by decide)(hcd:(x==("__classdict__":Str))=false:=by decide):PE X (.Name x pos) (tVar i):=by
 intro pins s σ H Q I h
 obtain⟨v,e,h⟩:=h
 obtain⟨m,hn,hl⟩:=I.loc
 obtain⟨u,r,l⟩:=hl i x v hN e hv
 have fin:EP X pins σ Q u s:=⟨v,H,I,r,h⟩
 rcases l with ⟨hk,hm⟩ | ⟨hk,c,hc,hcell⟩
 ·exact wpAny_Name (wpAny_loadName_local I.ok.kind hk hn hm fin) hd
 ·rcases hk with hk | hk
  ·exact wpAny_Name (wpAny_loadName_cell I.ok.kind hk hc hcell fin) hd
  ·exact wpAny_Name (wpAny_loadName_free I.ok.kind hk hc hcell fin hcd) hd
theorem pp {i j pos}:PE X (.Constant (.int i) j pos) (tC (.int i)):=fun _ _ _ H _ I h=>wpAny_Constant_int ⟨.int i,H,I.tok _,⟨_,rfl⟩,h⟩
theorem u5 {b j pos}:PE X (.Constant (.bool b) j pos) (tC (.bl b)):=fun _ _ _ H _ I h=>Constant_bool ⟨.bl b,H,I,rfl,h⟩
theorem tZ {j pos}:PE X (.Constant .none j pos) (tC .non):=fun _ _ _ H _ I h=>Constant_none ⟨.non,H,I,rfl,h⟩
theorem t5 {x j pos}:PE X (.Constant (.str x) j pos) (tC (.str x)):=fun _ _ _ H _ I h=>Calls.Constant_str ⟨.str x,H,I.tok _,⟨_,rfl⟩,h⟩
def Gl (X:Cx)(x:Str):Prop:=X.env.kindOf x=some .globalImplicit
theorem gO {E:Value→Shared→Prop}{pins:List (Addr×Obj)}{s:Shared}{σ:St}{H:Hp}{x:Str}{u:Value}{pos:Pos}{Q:Value→Shared→Prop}(I:Inv X pins σ H s)(hg:Gl X x)(hm:X.mg x=some u)(h:Q u s)
  (hd:(x==("__debug__":Str))=false:=by decide):wpAny (model X.prog X.w) X.A (eval (.Name x pos) X.env) Q E s :=
 Calls.Name_function_global I.ok.kind hg (Calls.loadGlobal_global (by rw[I.ok.glob];exact I.mod.glob.keeps I.bk) hm h) hd
theorem j0 {E:Value→Shared→Prop}{pins:List (Addr×Obj)}{s:Shared}{σ:St}{H:Hp}{x:Str}{u:Value}{pos:Pos}{Q:Value→Shared→Prop}(I:Inv X pins σ H s)(hg:Gl X x)(hm:X.mg x=none)(hv:bootBuiltins x=some u)(h:Q u s)
  (hn:x ≠ "__name__" := by decide) (hd:(x==("__debug__":Str))=false:=by decide):wpAny (model X.prog X.w) X.A (eval (.Name x pos) X.env) Q E s:=by
 obtain⟨mb,h1,h2⟩:=I.mod.blt
 exact Calls.Name_function_global I.ok.kind hg (Calls.loadGlobal_builtin (by rw[I.ok.glob];exact I.mod.glob.keeps I.bk) hm (by rw[I.ok.blt];exact h1.keeps I.bk) ((h2 x hn).trans hv) h) hd
theorem bd {x:Str}{v:V}{u:Value}{pos:Pos}(hg:Gl X x)(hm:X.mg x=some u)(r:RelV v u)(hd:(x==("__debug__":Str))=false:=by decide):PE X (.Name x pos) (tC v) :=
 fun _ _ _ H _ I h=>gO I hg hm ⟨v,H,I,r,h⟩ hd
theorem aP {x:Str}{v:V}{u:Value}{pos:Pos}(hg:Gl X x)(hm:X.mg x=none)(hv:bootBuiltins x=some u)(r:RelV v u)(hn:x ≠ "__name__" := by decide)(hd:(x==("__debug__":Str))=false:=by decide):PE X (.Name x pos) (tC v) :=
 fun _ _ _ H _ I h=>j0 I hg hm hv ⟨v,H,I,r,h⟩ hn hd
variable {a b:Expr}{ta tb:TE}{pos:Pos}
def PC (X:Cx)(op:CmpOp)(a b:Expr)(t:TE):Prop :=
 ∀ (pins:List (Addr×Obj)) (s:Shared) (σ:St) (H:Hp) (Q:VK),Inv X pins σ H s→t σ H Q →
  wpAny (model X.prog X.w) X.A (eval a X.env) (fun v s₁=>wpAny (model X.prog X.w) X.A (eval b X.env) (fun u s₂=>wpAny (model X.prog X.w) X.A (compareOp op v u) (EP X pins σ Q) X.xe s₂) X.xe s₁) X.xe s
theorem nobehind (b:Expr){op:CmpOp}(h:op≠.In)(h2:op≠.NotIn):behindInMarks op b=false:=by
 have e1:(op==CmpOp.In)=false:=by cases op<;>first | rfl | exact absurd rfl h
 have e2:(op==CmpOp.NotIn)=false:=by cases op<;>first | rfl | exact absurd rfl h2
 cases b<;>simp[behindInMarks,e1,e2]
def tB (t:TE):TT:=fun σ H Q=>t σ H fun x H1=>∃ c,x=.bl c∧Q c H1
theorem vt {op:CmpOp}{t:TE}(h:PC X op a b t)(h1:behindInMarks op b=false:=by first | exact nobehind _ (by decide) (by decide) | rfl):PT X (.Compare a [op] [b] pos) (tB t):=by
 intro pins s σ H Q I hw
 refine wpAny_isTrue_Compare1 (thn (h pins s σ H _ I hw) fun v s1 h1=>thn h1 fun u s2 h2=>thn h2 fun c s3 ⟨x,H1,I1,r1,q1⟩=>?_) h1
 obtain⟨d,rfl,q⟩:=q1
 cases r1
 exact wpAny_truthy_bool ⟨H1,I1,q⟩
theorem t6 {e:Expr}{t:TE}(h:PE X e t)(he:∀ whole,isTrue e X.env whole=(do let v ← whole;standAt e.pos;holding [v] (truthy v)):=by intro _;rfl):PT X e (tB t):=by
 intro pins s σ H Q I hw
 refine isTrue_plain (thn (h pins s σ H _ I hw) fun v s1 ⟨x,H1,I1,r1,q1⟩=>?_) (he _)
 obtain⟨d,rfl,q⟩:=q1
 cases r1
 exact wpAny_truthy_bool ⟨H1,I1,q⟩
variable {tA tB':TT}{rest:List Expr}
def tAnd (t u:TT):TT:=fun σ H Q=>t σ H fun c H1=>if c=true then u σ H1 Q else Q false H1
def tOr (t u:TT):TT:=fun σ H Q=>t σ H fun c H1=>if c=true then Q true H1 else u σ H1 Q
def tNot (t:TT):TT:=fun σ H Q=>t σ H fun c H1=>Q (!c) H1
theorem rz (ha:PT X a tA):PW X (.BoolOp .And [a] pos) tA:=by
 intro wh pins s σ H Q I h
 refine isTrue_and (thn (ha pins s σ H Q I h) fun c s1 e=>?_)
 cases c with
 | true=>exact isTrue_and_nil e
 | false=>exact e
theorem t7 (ha:PT X a tA):PW X (.BoolOp .Or [a] pos) tA:=by
 intro wh pins s σ H Q I h
 refine isTrue_or (thn (ha pins s σ H Q I h) fun c s1 e=>?_)
 cases c with
 | false=>exact isTrue_or_nil e
 | true=>exact e
theorem t8 (ha:PT X a tA)(hb:PW X (.BoolOp .And (b::rest) pos) tB'):PW X (.BoolOp .And (a::b::rest) pos) (tAnd tA tB'):=by
 intro wh pins s σ H Q I h
 refine isTrue_and (thn (ha pins s σ H _ I h) fun c s1 ⟨H1,I1,q1⟩=>?_)
 cases c with
 | true=>exact hb wh pins s1 σ H1 Q I1 q1
 | false=>exact⟨H1,I1,q1⟩
theorem u6 (ha:PT X a tA)(hb:PW X (.BoolOp .Or (b::rest) pos) tB'):PW X (.BoolOp .Or (a::b::rest) pos) (tOr tA tB'):=by
 intro wh pins s σ H Q I h
 refine isTrue_or (thn (ha pins s σ H _ I h) fun c s1 ⟨H1,I1,q1⟩=>?_)
 cases c with
 | true=>exact⟨H1,I1,q1⟩
 | false=>exact hb wh pins s1 σ H1 Q I1 q1
theorem t9 (ha:PT X a tA):PT X (.UnaryOp .Not a pos) (tNot tA):=by
 intro pins s σ H Q I h
 exact isTrue_not (ha pins s σ H (fun c H1=>Q (!c) H1) I h)
def tAndV (ta tb:TE):TE:=fun σ H Q=>ta σ H fun x H1=>∃ c,x=.bl c∧if c=true then tb σ H1 Q else Q (.bl false) H1
def tOrV (ta tb:TE):TE:=fun σ H Q=>ta σ H fun x H1=>∃ c,x=.bl c∧if c=true then Q (.bl true) H1 else tb σ H1 Q
def tNotV (ta:TE):TE:=fun σ H Q=>ta σ H fun x H1=>∃ c,x=.bl c∧Q (.bl (!c)) H1
theorem ua {op}{t:TE}(h:PE X a t):PE X (.BoolOp op [a] pos) t:=fun pins s σ H Q I hw=>BoolOp_one (h pins s σ H Q I hw)
theorem ub (ha:PE X a ta)(hb:PE X (.BoolOp .And (b::rest) pos) tb):PE X (.BoolOp .And (a::b::rest) pos) (tAndV ta tb):=by
 intro pins s σ H Q I h
 refine BoolOp_and (thn (ha pins s σ H _ I h) fun v s1 ⟨x,H1,I1,r1,q1⟩=>?_)
 obtain⟨c,rfl,q1⟩:=q1
 cases r1
 refine wpAny_truthy_bool ?_
 cases c with
 | true=>exact hb pins s1 σ H1 Q I1 q1
 | false=>exact⟨.bl false,H1,I1,rfl,q1⟩
theorem u7 (ha:PE X a ta)(hb:PE X (.BoolOp .Or (b::rest) pos) tb):PE X (.BoolOp .Or (a::b::rest) pos) (tOrV ta tb):=by
 intro pins s σ H Q I h
 refine BoolOp_or (thn (ha pins s σ H _ I h) fun v s1 ⟨x,H1,I1,r1,q1⟩=>?_)
 obtain⟨c,rfl,q1⟩:=q1
 cases r1
 refine wpAny_truthy_bool ?_
 cases c with
 | false=>exact hb pins s1 σ H1 Q I1 q1
 | true=>exact⟨.bl true,H1,I1,rfl,q1⟩
theorem uc (ha:PE X a ta):PE X (.UnaryOp .Not a pos) (tNotV ta):=by
 intro pins s σ H Q I h
 refine UnaryOp_ (thn (ha pins s σ H _ I h) fun v s1 ⟨x,H1,I1,r1,q1⟩=>?_)
 obtain⟨c,rfl,q1⟩:=q1
 cases r1
 exact not_of (wpAny_truthy_bool ⟨.bl (!c),H1,I1,rfl,q1⟩)
def tIf (t:TT)(ta tb:TE):TE:=fun σ H Q=>t σ H fun c H1=>if c=true then ta σ H1 Q else tb σ H1 Q
theorem pq {c:Expr}(hc:PT X c tA)(ha:PE X a ta)(hb:PE X b tb):PE X (.IfExp c a b pos) (tIf tA ta tb):=by
 intro pins s σ H Q I h
 refine wpAny_IfExp (thn (hc pins s σ H _ I h) fun d s1 ⟨H1,I1,q1⟩=>?_)
 cases d with
 | true=>exact ha pins s1 σ H1 Q I1 q1
 | false=>exact hb pins s1 σ H1 Q I1 q1
end
end L2
namespace L2
open PySem PySem.Spec PyProof.Rows
def SqL (K:PySem.W.Frag)(H:Hp)(a:Addr)(xs:List V):Prop :=
 Rd H a (.lst xs) ∨
  ∃ (o:Obj) (its:Array Value) (n:Nat),K.lookup a=some o∧o.cls=.type "list" ∧ o.dict=none∧o.data=.seq its n∧its.size≤sizeLine∧Vals xs its.toList
def SqT (K:PySem.W.Frag)(H:Hp)(a:Addr)(xs:List V):Prop :=
 Rd H a (.tup xs) ∨
  ∃ (o:Obj) (its:Array Value) (n:Nat),K.lookup a=some o∧o.cls=.type "tuple" ∧ o.dict=none∧o.data=.seq its n∧its.size≤sizeLine∧Vals xs its.toList
def absV:Value→Option V
 | .none=>some .non
 | .bool b=>some (.bl b)
 | .int i _=>some (.int i)
 | .str x _=>some (.str x)
 | .bytes b _=>some (.byt b)
 | .float b _=>some (.flt b)
 | .ref a=>some (.ref a)
 | .type n=>some (.ty n)
 | _=>none
theorem RelV.abs {x:V}{u:Value}(r:RelV x u):absV u=some x:=by
 cases x with
 | non=>cases r;rfl
 | bl _=>cases r;rfl
 | int _=>obtain⟨t,rfl⟩:=r;rfl
 | str _=>obtain⟨t,rfl⟩:=r;rfl
 | byt _=>obtain⟨t,rfl⟩:=r;rfl
 | flt _=>obtain⟨t,rfl⟩:=r;rfl
 | ref _=>cases r;rfl
 | ty _=>cases r;rfl
theorem RelV.inj {x y:V}{u:Value}(r:RelV x u)(q:RelV y u):x=y:=Option.some.inj (r.abs.symm.trans q.abs)
theorem Vals.inj:∀ {xs ys:List V} {us:List Value},Vals xs us→Vals ys us→xs=ys
 | _,_,_,.nil,.nil=>rfl
 | _,_,_,.cons r t,.cons r' t'=>by rw[r.inj r',Vals.inj t t']
section
variable {X:Cx}{pins:List (Addr×Obj)}{σ:St}{H:Hp}{s:Shared}{a:Addr}{xs ys:List V}
theorem SqL.of {K:PySem.W.Frag}(h:H a=some (.lst xs)):SqL K H a xs:=.inl (.inl h)
theorem SqT.of {K:PySem.W.Frag}(h:H a=some (.tup xs)):SqT K H a xs:=.inl (.inl h)
theorem Inv.list (I:Inv X pins σ H s)(h:SqL X.K H a xs):∃ its:List Value,Vals xs its∧PlainL s.heap a its.toArray∧xs.length≤sizeLine:=by
 rcases h with h | ⟨o,its,n,hk,hc,hd,hs,hz,r⟩
 ·obtain⟨z,its,n,r,e⟩:=h.ok I.hok
  exact⟨its,r,⟨_,n,e,rfl,rfl,rfl⟩,z⟩
 ·refine⟨its.toList,r,⟨o,n,I.kIn a o hk,hc,hd,by simpa using hs⟩,?_⟩
  have e:=r.length
  simp only[Array.length_toList]at e
  omega
theorem Inv.tuple (I:Inv X pins σ H s)(h:SqT X.K H a xs):∃ its:List Value,Vals xs its∧IsTup s.heap a its.toArray∧xs.length≤sizeLine:=by
 rcases h with h | ⟨o,its,n,hk,hc,_,hs,hz,r⟩
 ·obtain⟨z,its,r,p⟩:=h.ok I.hok
  exact⟨its,r,p.is,z⟩
 ·refine⟨its.toList,r,⟨o,I.kIn a o hk,hc,n,by simpa using hs⟩,?_⟩
  have e:=r.length
  simp only[Array.length_toList]at e
  omega
theorem Inv.list_inj (I:Inv X pins σ H s)(h:SqL X.K H a xs)(h':SqL X.K H a ys):xs=ys:=by
 obtain⟨its,r,⟨o,n,e,_,_,d⟩,_⟩:=I.list h
 obtain⟨its',r',⟨o',n',e',_,_,d'⟩,_⟩:=I.list h'
 rw[e]at e';cases e'
 rw[d]at d'
 injection d' with d1 _
 have:its=its':=by simpa using congrArg Array.toList d1
 subst this
 exact r.inj r'
theorem Inv.tuple_inj (I:Inv X pins σ H s)(h:SqT X.K H a xs)(h':SqT X.K H a ys):xs=ys:=by
 obtain⟨its,r,⟨o,e,_,n,d⟩,_⟩:=I.tuple h
 obtain⟨its',r',⟨o',e',_,n',d'⟩,_⟩:=I.tuple h'
 rw[e]at e';cases e'
 rw[d]at d'
 injection d' with d1 _
 have:its=its':=by simpa using congrArg Array.toList d1
 subst this
 exact r.inj r'
end
section
variable {X:Cx}{pins:List (Addr×Obj)}{σ:St}{H:Hp}{s:Shared}{E:Value→Shared→Prop}
end
section
variable {X:Cx}{st:Stmt}{rest:List Stmt}{t u:TS}{e:Expr}{te:TE}{pos:Pos}
def tNext:TS:=fun D σ H=>D.nx σ H
def tSeq (t u:TS):TS:=fun D σ H=>t { D with nx:=u D } σ H
theorem rA:PSs X [] tNext:=fun _ _ σ H _ I h=>wpAny_execs_nil ⟨σ,H,I,h⟩
theorem cZ (h1:PS X st t)(h2:PSs X rest u):PSs X (st::rest) (tSeq t u):=by
 intro pins s σ H D I h
 refine wpAny_execs_cons (thn (h1 pins s σ H { D with nx:=u D } I h) fun f s1 q=>?_)
 cases f with
 | next =>
  obtain⟨σ',H',I',q⟩:=q
  exact h2 pins s1 σ' H' D I' q
 | ret v=>exact q
 | brk=>exact q
 | cont=>exact q
theorem ni (h1:PS X st t):PSs X [st] t:=by
 intro pins s σ H D I h
 refine wpAny_execs_cons (thn (h1 pins s σ H D I h) fun f s1 q=>?_)
 cases f with
 | next=>exact wpAny_execs_nil q
 | ret v=>exact q
 | brk=>exact q
 | cont=>exact q
theorem Inv.quiet {pins:List (Addr×Obj)}{σ:St}{H:Hp}{s:Shared}(I:Inv X pins σ H s):interactive X.env=false:=by simp[interactive,I.ok.kind]
def tDrop (te:TE):TS:=fun D σ H=>te σ H fun _ H1=>D.nx σ H1
theorem j3 (he:PE X e te)(hs:swapsWith e none pos.line X.env=pure false:=by rfl):PS X (.Expr e pos) (tDrop te):=by
 intro pins s σ H D I h
 exact wpAny_Expr_any (thn (he pins s σ H _ I h) fun v s1 ⟨x,H1,I1,r1,q1⟩=>⟨σ,H1,I1,q1⟩) I.quiet hs
def tRet (te:TE):TS:=fun D σ H=>te σ H D.rt
theorem ud (he:PE X e te):PS X (.Return (some e) pos) (tRet te):=by
 intro pins s σ H D I h
 exact wpAny_Return_some (thn (he pins s σ H _ I h) fun v s1 ⟨x,H1,I1,r1,q1⟩=>⟨x,σ,H1,I1,r1,q1⟩)
def tIfS (c:TT)(t u:TS):TS:=fun D σ H=>c σ H fun b H1=>if b=true then t D σ H1 else u D σ H1
theorem u8 {c:Expr}{a b:List Stmt}{tc:TT}(hc:PT X c tc)(ha:PSs X a t)(hb:PSs X b u):PS X (.If c a b pos) (tIfS tc t u):=by
 intro pins s σ H D I h
 refine wpAny_If (thn (hc pins s σ H _ I h) fun d s1 ⟨H1,I1,q1⟩=>?_)
 cases d with
 | true=>exact ha pins s1 σ H1 D I1 q1
 | false=>exact hb pins s1 σ H1 D I1 q1
def tNever:TS:=fun _ _ _=>False
theorem jv {sts:List Stmt}:PSs X sts tNever:=fun _ _ _ _ _ _ h=>h.elim
end
abbrev TG:=V→St→Hp→(St→Hp→Prop)→Prop
abbrev TGs:=List V→St→Hp→(St→Hp→Prop)→Prop
def PG (X:Cx)(target:Expr)(t:TG):Prop :=
 ∀ (pins:List (Addr×Obj)) (s:Shared) (σ:St) (H:Hp) (v:V) (u:Value) (Q:St→Hp→Prop),Inv X pins σ H s→RelV v u→t v σ H Q →
  wpAny (model X.prog X.w) X.A (assign target X.env u) (fun _ s'=>∃ σ' H',Inv X pins σ' H' s'∧Q σ' H') X.xe s
def PGs (X:Cx)(ts:List Expr)(t:TGs):Prop :=
 ∀ (pins:List (Addr×Obj)) (s:Shared) (σ:St) (H:Hp) (vs:List V) (us:List Value) (Q:St→Hp→Prop),Inv X pins σ H s→Vals vs us→t vs σ H Q →
  wpAny (model X.prog X.w) X.A (assignInOrder ((assignEach ts X.env).map (·.2)) us) (fun _ s'=>∃ σ' H',Inv X pins σ' H' s'∧Q σ' H') X.xe s
section
variable {X:Cx}{pos:Pos}
def gName (i:Nat):TG:=fun v σ H Q=>Q (σ.set i (some v)) H
theorem cI {i:Nat}{x:Str}(hN:X.N.Nodup)(hi:X.N[i]?=some x)(hx:Loc X.env.scope x)(hf:X.fn x=true∨X.env.scope.names.lookup x=some .local:=by first | exact .inl rfl | exact .inr rfl | assumption):PG X (.Name x pos) (gName i):=by
 intro pins s σ H v u Q I r h
 exact wpAny_assign_Name (cY I hN hi hx r (fun s' I'=>⟨_,H,I',h⟩) hf)
def gNil:TGs:=fun vs σ H Q=>vs=[]∧Q σ H
def gCons (t:TG)(u:TGs):TGs:=fun vs σ H Q=>∃ v r,vs=v::r∧t v σ H fun σ' H'=>u r σ' H' Q
theorem j4:PGs X [] gNil:=by
 intro pins s σ H vs us Q I r h
 obtain⟨e,h⟩:=h
 subst e
 cases r
 exact assignInOrder_nil ⟨σ,H,I,h⟩
theorem cq {e:Expr}{es:List Expr}{t:TG}{u:TGs}(h1:PG X e t)(h2:PGs X es u)
  (hs:(assignEach (e::es) X.env).map (·.2)=assign e X.env::(assignEach es X.env).map (·.2):=by rfl):PGs X (e::es) (gCons t u):=by
 intro pins s σ H vs us Q I r h
 obtain⟨v,vr,e1,h⟩:=h
 subst e1
 cases r with
 | cons r rr =>
  rw[hs]
  refine assignInOrder_cons (thn (h1 pins s σ H _ _ _ I r h) fun _ s1 ⟨σ1,H1,I1,q1⟩=>?_)
  exact h2 pins s1 σ1 H1 _ _ Q I1 rr q1
def gTup (K:PySem.W.Frag)(n:Nat)(t:TGs):TG:=fun v σ H Q=>∃ a xs,v=.ref a∧SqT K H a xs∧xs.length=n∧t xs σ H Q
theorem ue {es:List Expr}{k:Nat}{t:TGs}{n:Nat}(hc:X.calm=true)(h:PGs X es t)
  (hn:(assignEach es X.env).length=n:=by rfl) (hst:(assignEach es X.env).findIdx? (·.1)=none:=by rfl):PG X (.Tuple es k pos) (gTup X.K n t):=by
 intro pins s σ H v u Q I r hw
 obtain⟨a,xs,e1,hq,hl,hw⟩:=hw
 subst e1
 cases r
 obtain⟨its,rv,ht,hz⟩:=I.tuple hq
 refine assign_Tuple_tuple (I.ok.hd hc) ht (by simp[hn,← hl,rv.length]) hst fun h' hx=>?_
 have I1:Inv X pins σ H { s with heap:=h' }:=I.kept (t':=s.toks) fun b o e=>hx b o (Nat.ne_of_lt (Heap.lt_size e)) e
 exact h pins _ σ H xs _ Q I1 (by simpa using rv) hw
def tAsg (te:TE)(g:TG):TS:=fun D σ H=>te σ H fun x H1=>g x σ H1 D.nx
theorem uf {tg e:Expr}{te:TE}{g:TG}(he:PE X e te)(hg:PG X tg g)(hs:swapsWithSole [tg] e pos.line X.env=pure false:=by rfl)(hw:swappedStores [tg] e X.env=pure none:=by rfl)
  (h1:(assignEach [tg] X.env).map (·.2)=[assign tg X.env]:=by rfl):PS X (.Assign [tg] e pos) (tAsg te g):=by
 intro pins s σ H D I h
 refine wpAny_Assign_stores (thn (he pins s σ H _ I h) fun v s1 ⟨x,H1,I1,r1,q1⟩=>?_) hs hw
 rw[h1]
 exact thn (hg pins s1 σ H1 x v _ I1 r1 q1) fun _ s2 q=>q
theorem mj {i:Nat}{x:Str}{e:Expr}{te:TE}{pos':Pos}(hN:X.N.Nodup)(hi:X.N[i]?=some x)(hx:Loc X.env.scope x)(he:PE X e te)(hs:swapsWith e (some (.Name x pos')) pos.line X.env=pure false:=by rfl)(hf:X.fn x=true∨X.env.scope.names.lookup x=some .local:=by first | exact .inl rfl | exact .inr rfl | assumption) :
  PS X (.Assign [.Name x pos'] e pos) (tAsg te (gName i)):=by
 intro pins s σ H D I h
 refine wpAny_Assign_Name (thn (he pins s σ H _ I h) fun v s1 ⟨y,H1,I1,r1,q1⟩=>?_) hs
 exact cY I1 hN hi hx r1 (fun s2 I2=>⟨_,H1,I2,q1⟩) hf
def tPar (i j:Nat)(ta:TA):TS:=fun D σ H=>ta σ H fun vs H1=>∃ v w,vs=[v,w]∧D.nx ((σ.set i (some v)).set j (some w)) H1
theorem ug {i j:Nat}{x y:Str}{a b:Expr}{ta:TA}{px py pt:Pos}{kt k2 pt2}(hc:X.calm=true)(hN:X.N.Nodup)(hi:X.N[i]?=some x)(hj:X.N[j]?=some y)(hij:i≠j)
  (hx:X.env.scope.names.lookup x=some .local) (hy:X.env.scope.names.lookup y=some .local) (ha:PA X [a,b] ta)
  (hw:swappedStores [.Tuple [.Name x px,.Name y py] kt pt] (.Tuple [a,b] k2 pt2) X.env=pure (some [x,y]))
  (hs:swapsWithSole [.Tuple [.Name x px,.Name y py] kt pt] (.Tuple [a,b] k2 pt2) pos.line X.env=pure false:=by rfl) :
  PS X (.Assign [.Tuple [.Name x px,.Name y py] kt pt] (.Tuple [a,b] k2 pt2) pos) (tPar i j ta):=by
 intro pins s σ H D I h
 rw[exec_Assign_arm]
 refine wpAny_bind (wpAny_standAt ?_)
 rw[hs]
 refine wpAny_bind (wpAny_pure ?_)
 rw[if_neg (by decide)]
 refine wpAny_bind (Tuple_ (thn (ha _ pins s σ H _ I h) fun us s1 ⟨vs,H1,I1,r1,q1⟩=>?_))
 obtain⟨v,w,e1,q1⟩:=q1
 subst e1
 obtain⟨u1,u2,rfl,rv,rw'⟩:∃ u1 u2,us=[u1,u2]∧RelV v u1∧RelV w u2:=by
  cases r1 with
  | cons p q =>
   cases q with
   | cons p' q' =>
    cases q'
    exact⟨_,_,rfl,p,p'⟩
 refine wpAny_newObj_type ?_ (by show 2≤sizeLine;decide)
 have I2:Inv X pins σ H1 { s1 with heap:=s1.heap.push { cls:=.type "tuple",data:=.seq [u1,u2].toArray } }:=I1.kept (t':=s1.toks) fun b o e=>Heap.get?_push_of_some _ e
 rw[hw]
 refine wpAny_bind (wpAny_pure ?_)
 show wpAny (model X.prog X.w) X.A (do rule "assign.swapped-stores";let items ← unpackItems (.ref s1.heap.objs.size) 2 none;assignInOrder [fun v=>bindName X.env y v,fun v=>bindName X.env x v] items.reverse;pure Flow.next) _ _ _
 refine wpAny_bind (wpAny_rule (wpAny_bind (unpackItems_tuple (items:=#[u1,u2]) (I.ok.hd hc) (IsTup.new s1.heap _) fun h' hx'=>?_)))
 have I3:=I2.kept (h':=h') (t':=s1.toks) fun b o e=>hx' b o (Nat.ne_of_lt (Heap.lt_size e)) e
 show wpAny _ _ (assignInOrder [fun v=>bindName X.env y v,fun v=>bindName X.env x v] [u2,u1] >>= fun _=>pure Flow.next) _ _ _
 refine wpAny_bind (assignInOrder_cons (wpAny_bindName (cY I3 hN hj (.inl hy) rw' (fun s2 I4=>?_) (.inr hy))))
 refine assignInOrder_cons (wpAny_bindName (cY I4 hN hi (.inl hx) rv (fun s3 I5=>assignInOrder_nil (wpAny_pure ?_)) (.inr hx)))
 rw[List.set_comm _ _ (Ne.symm hij)]at I5
 exact⟨_,H1,I5,q1⟩
end
section
variable {X:Cx}{pos:Pos}
end
structure It where
 go:Nat→Hp→Prop
 yld:Nat→Hp→V→Hp→Prop
 stop:Nat→Hp→Prop
def FpOk (X:Cx)(pins:List (Addr×Obj))(H:Hp)(b:Addr):Prop :=
 H b=none∧b≠X.env.locals∧b∉X.fs∧(b∈X.ex∨X.s₀.heap.objs.size≤b)∧(∀ x c,X.env.cells.lookup x=some c→c≠b)∧∀ p∈X.pn++pins,p.1≠b
theorem Inv.fpOk {X:Cx}{pins:List (Addr×Obj)}{σ:St}{H H':Hp}{s:Shared}{b:Addr}(I:Inv X pins σ H s)(hb:s.heap.objs.size≤b)(hn:H' b=none):FpOk X pins H' b:=by
 refine⟨hn,Nat.ne_of_gt (Nat.lt_of_lt_of_le I.lt hb),I.nofs hb,.inr (Nat.le_trans I.sz hb),fun x c e z=>?_,fun p hp z=>?_⟩
 ·obtain⟨v,q⟩:=I.cell x c e
  exact absurd (Nat.lt_of_lt_of_le q.lt (by rw[z];exact hb)) (Nat.lt_irrefl _)
 ·exact absurd (Nat.lt_of_lt_of_le (Heap.lt_size (I.pin p hp).1) (by rw[z];exact hb)) (Nat.lt_irrefl _)
structure Turn (P:Program)(w:World)(K:PySem.W.Frag)(tg:Expr)(J:It)(fp:List Addr)(it:Addr)(tn:Nat→Heap→Prop):Prop where
 mem:it∈fp
 obj:∀ i h,tn i h→∀ b∈fp,∃ o,h.get? b=some o∧∀ v,o.data≠.cell v
 keep:∀ i h h',tn i h→(∀ b∈fp,∀ o,h.get? b=some o→h'.get? b=some o)→tn i h'
 item:∀ (X:Cx),X.prog=P→X.w=w→X.K=K→X.calm=true→∀ (i:Nat) (pins:List (Addr×Obj)) (s:Shared) (σ:St) (H:Hp) (E:Value→Shared→Prop),Inv X pins σ H s→(∀ b∈fp,FpOk X pins H b)→tn i s.heap→J.go i H →
  wpAny (model P w) X.A (pyNext (.ref it)) (fun r s1=>∃ u,r=some u ∧
   wpAny (model P w) X.A (letOwnedTupleGo tg (.ref it) u) (fun _ s2=>∃ x H',Inv X pins σ H' s2∧RelV x u∧J.yld i H x H'∧tn (i+1) s2.heap∧∀ b∈fp,H' b=none) E s1) E s
 done:∀ (X:Cx),X.prog=P→X.w=w→X.K=K→X.calm=true→∀ (i:Nat) (pins:List (Addr×Obj)) (s:Shared) (σ:St) (H:Hp) (E:Value→Shared→Prop),Inv X pins σ H s→(∀ b∈fp,FpOk X pins H b)→tn i s.heap→J.stop i H →
  wpAny (model P w) X.A (pyNext (.ref it)) (fun r s1=>r=none∧Inv X pins σ H s1) E s
 self:∀ (A:Around) (i:Nat) (s:Shared) (Q:Value→Shared→Prop) (E:Value→Shared→Prop),tn i s.heap→Q (.ref it) s→wpAny (model P w) A (pyIter (.ref it)) Q E s
abbrev TI:=St→Hp→(It→Hp→Prop)→Prop
def PIE (X:Cx)(pins:List (Addr×Obj))(σ:St)(tg:Expr)(R:It→Hp→Prop)(itv:Value)(s2:Shared):Prop :=
 ∃ (it:Addr) (fp:List Addr) (tn:Nat→Heap→Prop) (J:It) (H':Hp),itv=.ref it∧Inv X pins σ H' s2∧Turn X.prog X.w X.K tg J fp it tn∧tn 0 s2.heap∧(∀ b∈fp,FpOk X pins H' b)∧R J H'
def PI (X:Cx)(tg iter:Expr)(wi:TI):Prop :=
 ∀ (pins:List (Addr×Obj)) (s:Shared) (σ:St) (H:Hp) (R:It→Hp→Prop),Inv X pins σ H s→wi σ H R →
  wpAny (model X.prog X.w) X.A (eval iter X.env) (fun v s1=>wpAny (model X.prog X.w) X.A (pyIter v) (PIE X pins σ tg R) X.xe s1) X.xe s
theorem pr {M:Model}{A:Around}{E:Value→Shared→Prop}{s:Shared}{tg:Expr}{it:Addr}{u:Value}{o:Obj}{n:String}{vs:Array Value}{Q:Unit→Shared→Prop}(ho:s.heap.get? it=some o)(hc:o.cls=.type n)(hd:o.data=.fields vs)
  (hn:["enumerate","zip","dict_itemiterator","dict_reverseitemiterator","odict_iterator","itertools.zip_longest","itertools.pairwise"].contains n=false) (hQ:Q () s):wpAny M A (letOwnedTupleGo tg (.ref it) u) Q E s:=by
 unfold letOwnedTupleGo
 cases tg<;>first
  | exact wpAny_pure hQ
  | (cases u<;>first
    | exact wpAny_pure hQ
    | (refine wpAny_bind (wpAny_load ho ?_)
       rw[hc,hd]
       show wpAny M A (if (["enumerate","zip","dict_itemiterator","dict_reverseitemiterator","odict_iterator","itertools.zip_longest","itertools.pairwise"].contains n&&vs[0]?==some (rawInt _))=true then _ else _) Q E s
       rw[if_neg (by intro h;rw[hn,Bool.false_and]at h;cases h)]
       exact wpAny_pure hQ))
def Itl (K:PySem.W.Frag)(a:Addr):It :=
 ⟨fun i H=>∃ xs x,SqL K H a xs∧xs[i]?=some x,fun i H x H'=>H'=H∧∀ xs,SqL K H a xs→xs[i]?=some x,fun i H=>∃ xs,SqL K H a xs∧xs.length≤i⟩
def Itt (K:PySem.W.Frag)(a:Addr):It :=
 ⟨fun i H=>∃ xs x,SqT K H a xs∧xs[i]?=some x,fun i H x H'=>H'=H∧∀ xs,SqT K H a xs→xs[i]?=some x,fun i H=>∃ xs,SqT K H a xs∧xs.length≤i⟩
def Itr (lo:Int)(n:Nat):It:=⟨fun i _=>i < n,fun i H x H'=>H'=H∧x=.int (lo+i),fun i _=>n≤i⟩
theorem nU {P:Program}{w:World}{K:PySem.W.Frag}{tg:Expr}(a it:Addr):Turn P w K tg (Itl K a) [it] it (fun i h=>h.IsListIter it a i) where
 mem:=by simp
 obj:=fun i h st b hb=>by
  have e:b=it:=by simpa using hb
  subst e
  obtain⟨o,e,c,d⟩:=st
  exact⟨o,e,fun v z=>by rw[d]at z;cases z⟩
 keep:=fun i h h' st k=>st.at fun o e=>k it (by simp) o e
 item:=by
  intro X hP hw hK hc i pins s σ H E I hf st hg
  subst hP hw hK
  obtain⟨xs,x,hq,hx⟩:=hg
  obtain⟨its,rv,p,hz⟩:=I.list hq
  obtain⟨u,hu,ru⟩:=rv.get hx
  obtain⟨f0,f1,f2,f3,f4,f5⟩:=hf it (by simp)
  refine wpAny_pyNext_list_item st p.isList (x:=u) (by simpa using hu) fun h' st' sb=>?_
  have I1:Inv X pins σ H { s with heap:=h' }:=I.turned (t':=s.toks) (fun b o hb e=>(sb.2 b hb).trans e) f0 f1 f3 f4 f5
  obtain⟨o,e,c,d⟩:=id st'
  exact⟨u,rfl,pr (s:={ s with heap:=h' }) e c d (by decide) ⟨x,H,I1,ru,⟨rfl,fun ys hy=>by rw[I.list_inj hy hq];exact hx⟩,st',fun b hb=>(hf b hb).1⟩⟩
 done:=by
  intro X hP hw hK hc i pins s σ H E I hf st hg
  subst hP hw hK
  obtain⟨xs,hq,hx⟩:=hg
  obtain⟨its,rv,p,hz⟩:=I.list hq
  obtain⟨f0,f1,f2,f3,f4,f5⟩:=hf it (by simp)
  have hl:=rv.length
  exact wpAny_pyNext_list_end (I.ok.hd hc) st p.isList (by simp;omega) fun h' eb=>⟨rfl,I.turned (t':=s.toks) (fun b o hb e=>eb b o hb e) f0 f1 f3 f4 f5⟩
 self:=fun _ _ _ _ _ st h=>wpAny_pyIter_listiter st h
theorem ml {P:Program}{w:World}{K:PySem.W.Frag}{tg:Expr}(a it:Addr):Turn P w K tg (Itt K a) [it] it (fun i h=>h.IsTupleIter it a i) where
 mem:=by simp
 obj:=fun i h st b hb=>by
  have e:b=it:=by simpa using hb
  subst e
  obtain⟨o,e,c,d⟩:=st
  exact⟨o,e,fun v z=>by rw[d]at z;cases z⟩
 keep:=fun i h h' st k=>st.at fun o e=>k it (by simp) o e
 item:=by
  intro X hP hw hK hc i pins s σ H E I hf st hg
  subst hP hw hK
  obtain⟨xs,x,hq,hx⟩:=hg
  obtain⟨its,rv,p,hz⟩:=I.tuple hq
  obtain⟨u,hu,ru⟩:=rv.get hx
  obtain⟨f0,f1,f2,f3,f4,f5⟩:=hf it (by simp)
  refine wpAny_pyNext_tuple_item st (show s.heap.IsTuple a its.toArray from p) (x:=u) (by simpa using hu) fun h' st' sb=>?_
  have I1:Inv X pins σ H { s with heap:=h' }:=I.turned (t':=s.toks) (fun b o hb e=>(sb.2 b hb).trans e) f0 f1 f3 f4 f5
  obtain⟨o,e,c,d⟩:=id st'
  exact⟨u,rfl,pr (s:={ s with heap:=h' }) e c d (by decide) ⟨x,H,I1,ru,⟨rfl,fun ys hy=>by rw[I.tuple_inj hy hq];exact hx⟩,st',fun b hb=>(hf b hb).1⟩⟩
 done:=by
  intro X hP hw hK hc i pins s σ H E I hf st hg
  subst hP hw hK
  obtain⟨xs,hq,hx⟩:=hg
  obtain⟨its,rv,p,hz⟩:=I.tuple hq
  obtain⟨f0,f1,f2,f3,f4,f5⟩:=hf it (by simp)
  have hl:=rv.length
  exact wpAny_pyNext_tuple_end (I.ok.hd hc) st (show s.heap.IsTuple a its.toArray from p) (by simp;omega) fun h' eb=>⟨rfl,I.turned (t':=s.toks) (fun b o hb e=>eb b o hb e) f0 f1 f3 f4 f5⟩
 self:=fun _ _ _ _ _ st h=>wpAny_pyIter_tupleiter st h
theorem mn {P:Program}{w:World}{K:PySem.W.Frag}{tg:Expr}(it:Addr)(lo:Int)(n:Nat):Turn P w K tg (Itr lo n) [it] it (fun i h=>IsRangeIter h it (lo+(i:Nat)*1) ((n:Int) - (i:Nat)) 1) where
 mem:=by simp
 obj:=fun i h st b hb=>by
  have e:b=it:=by simpa using hb
  subst e
  exact⟨_,st,fun v z=>by
   have z':Data.fields _=Data.cell v:=z
   cases z'⟩
 keep:=fun i h h' st k=>k it (by simp) _ st
 item:=by
  intro X hP hw hK hc i pins s σ H E I hf st hg
  subst hP hw hK
  obtain⟨f0,f1,f2,f3,f4,f5⟩:=hf it (by simp)
  have W:=Walks.range (prog:=X.prog) (w:=X.w) (I.ok.hd hc) it lo 1 n
  refine W.item i s _ _ hg st fun v h' tk hv st' kk=>?_
  obtain⟨t,rfl⟩:=hv
  have I1:Inv X pins σ H { s with heap:=h',toks:=tk }:=I.turned (fun b o hb e=>kk b o (by simpa using hb) e) f0 f1 f3 f4 f5
  refine⟨_,rfl,pr (s:={ s with heap:=h',toks:=tk }) (n := "range_iterator") st' rfl rfl (by decide) ⟨.int (lo+i),H,I1,⟨t,?_⟩,⟨rfl,rfl⟩,st',fun b hb=>(hf b hb).1⟩⟩
  rw[Int.mul_one]
 done:=by
  intro X hP hw hK hc i pins s σ H E I hf st hg
  subst hP hw hK
  obtain⟨f0,f1,f2,f3,f4,f5⟩:=hf it (by simp)
  exact wpAny_pyNext_range_end (I.ok.hd hc) st (by have:n≤i:=hg;omega) fun h' eb=>⟨rfl,I.turned (t':=s.toks) (fun b o hb e=>eb b o hb e) f0 f1 f3 f4 f5⟩
 self:=fun _ _ _ _ _ st h=>wpAny_pyIter_rangeiter st h
end L2
namespace L2
open PySem PySem.Spec PyProof.Rows
section
variable {X:Cx}{tg:Expr}
theorem pv {pins:List (Addr×Obj)}{σ:St}{H:Hp}{s:Shared}{R:It→Hp→Prop}{E:Value→Shared→Prop}{lo hi:Int}{t u v:Tok}{tk:Nat}(I:Inv X pins σ H s)(h1 : -(2^62)≤lo)(h2:lo < 2^62)(h3 : -(2^62)≤hi)(h4:hi < 2^62)
  (q:R (Itr lo (hi - lo).toNat) H):wpAny (model X.prog X.w) X.A (pyIter (.ref s.heap.objs.size)) (PIE X pins σ tg R) E { s with heap:=s.heap.push { cls:=.type "range",data:=.fields #[.int lo t,.int hi u,.int 1 v] },toks:=tk }:=by
 refine wpAny_pyIter_range (IsRange.new ..) (small_one h1 h2 h3 h4) ?_
 have I1:Inv X pins σ H { s with heap:=s.heap.push { cls:=.type "range",data:=.fields #[.int lo t,.int hi u,.int 1 v] },toks:=tk }:=I.kept fun b o e=>Heap.get?_push_of_some _ e
 refine⟨(s.heap.push { cls:=.type "range",data:=.fields #[.int lo t,.int hi u,.int 1 v] }).objs.size,[(s.heap.push { cls:=.type "range",data:=.fields #[.int lo t,.int hi u,.int 1 v] }).objs.size],_,_,H,rfl,
  I1.kept (t':=tk) fun b o e=>Heap.get?_push_of_some _ e,mn _ lo (hi - lo).toNat,?_,fun b hb=>?_,q⟩
 ·have e1:lo+((0:Nat):Int)*1=lo:=by simp
  have e2:(((hi - lo).toNat:Nat):Int) - ((0:Nat):Int)=Builtin.Range.rangeSize lo hi 1:=by rw[rangeSize_one];split<;>omega
  show IsRangeIter _ _ (lo+((0:Nat):Int)*1) ((((hi - lo).toNat:Nat):Int) - ((0:Nat):Int)) 1
  rw[e1,e2]
  exact Heap.get?_push_size _ rfl
 ·have e:b=(s.heap.push { cls:=.type "range",data:=.fields #[.int lo t,.int hi u,.int 1 v] }).objs.size:=by simpa using hb
  subst e
  exact I1.fpOk (Nat.le_refl _) (I1.hok.fresh (Nat.le_refl _))
def iRng1 (ta:TA):TI:=fun σ H R=>ta σ H fun vs H1=>∃ j:Int,vs=[.int j]∧-(2^62)≤j∧j < 2^62∧R (Itr 0 j.toNat) H1
theorem nV {a:Expr}{ta:TA}{p pos:Pos}(hg:Gl X "range")(hm:X.mg "range"=none)(ha:PA X [a] ta)(hs:starEach [a] X.env=[(false,eval a X.env)]:=by rfl):PI X tg (.Call (.Name "range" p) [a] [] pos) (iRng1 ta):=by
 intro pins s σ H R I h
 refine Call_ (j0 I hg hm boot_range (PyProof.Rows.callWith_type1 (thn (ha pos pins s σ H _ I h) fun us s1 ⟨vs,H1,I1,r1,q1⟩=>?_) hs rfl))
 obtain⟨j,e,q1,q2,q⟩:=q1
 subst e
 cases r1 with
 | cons r rr =>
  cases rr
  obtain⟨t,rfl⟩:=r
  exact call_range_1 (pv I1 (by omega) (by omega) q1 q2 (by simpa using q))
def tFor (wi:TI)(g:TG)(tb:TS):TS:=fun D σ H=>wi σ H fun J H1=>∃ W:Nat→Nat→St→Hp→Prop,(∃ m,W 0 m σ H1)∧∀ i m σ H,W i m σ H →
 (J.stop i H∧D.nx σ H)∨(J.go i H∧∃ N:St→Hp→Prop,(∀ σ' H',N σ' H'→∃ m',m' < m∧W (i+1) m' σ' H')∧∀ x H',J.yld i H x H'→g x σ H' fun σ2 H2=>tb { D with nx:=N,ct:=N,bk:=D.nx } σ2 H2)
def pinsAt (fp:List Addr)(h:Heap):List (Addr×Obj):=fp.filterMap fun b=>(h.get? b).map fun o=>(b,o)
theorem bN {fp:List Addr}{h:Heap}{b:Addr}{o:Obj}(hb:b∈fp)(e:h.get? b=some o):(b,o)∈pinsAt fp h:=List.mem_filterMap.mpr ⟨b,hb,by rw[e];rfl⟩
theorem nW {fp:List Addr}{h:Heap}{p:Addr×Obj}(hp:p∈pinsAt fp h):p.1∈fp∧h.get? p.1=some p.2:=by
 obtain⟨b,hb,e⟩:=List.mem_filterMap.mp hp
 cases q:h.get? b with
 | none=>rw[q]at e;cases e
 | some o =>
  rw[q]at e
  have e':(b,o)=p:=Option.some.inj e
  subst e'
  exact⟨hb,q⟩
theorem Inv.pinned {pins:List (Addr×Obj)}{σ:St}{H:Hp}{s:Shared}{fp:List Addr}(I:Inv X pins σ H s)(hf:∀ b∈fp,FpOk X pins H b)(ho:∀ b∈fp,∃ o,s.heap.get? b=some o∧∀ v,o.data≠.cell v):Inv X (pins++pinsAt fp s.heap) σ H s :=
 I.pins_of fun p hp=>(List.mem_append.mp hp).elim (fun z=>I.pin p (List.mem_append_right _ z)) fun z=>by
  obtain⟨hb,e⟩:=nW z
  obtain⟨f0,f1,f2,_⟩:=hf p.1 hb
  obtain⟨o,e',d⟩:=ho p.1 hb
  rw[e]at e';cases e'
  exact⟨e,f0,f1,f2,d⟩
theorem Inv.unpinned {pins pl:List (Addr×Obj)}{σ:St}{H:Hp}{s:Shared}(I:Inv X (pins++pl) σ H s):Inv X pins σ H s:=I.pins_of fun p hp=>I.pin p (List.mem_append_right _ (List.mem_append_left _ hp))
theorem uh {iter:Expr}{body:List Stmt}{wi:TI}{g:TG}{tb:TS}{pos:Pos}(hp:PassesOwn (model X.prog X.w) X.A X.env X.xe)(hc:X.calm=true)(hi:PI X tg iter wi)(hg:PG X tg g)(hb:PSs X body tb)
  (hs:∀ x,foldedSetIterable iter X.env x=pure x:=by intro _;rfl):PS X (.For tg iter body [] pos) (tFor wi g tb):=by
 intro pins s σ H D I h
 refine wpAny_For (thn (hi pins s σ H _ I h) fun v s1 h1=>thn h1 fun itv s2 h2=>?_) hs
 obtain⟨it,fp,tn,J,H2,e,I2,T,st2,f2,W,⟨m0,w0⟩,turn⟩:=h2
 subst e
 have stat:∀ {H':Hp},(∀ b∈fp,H' b=none)→∀ b∈fp,FpOk X pins H' b:=fun hn b hb=>⟨hn b hb,(f2 b hb).2⟩
 refine codeAny_forLoop_any (fun n s'=>∃ i σ' H',Inv X pins σ' H' s'∧tn i s'.heap∧(∀ b∈fp,H' b=none)∧W i n σ' H') ?_ m0 ⟨0,σ,H2,I2,st2,fun b hb=>(f2 b hb).1,w0⟩
 rintro n s3 ⟨i,σ3,H3,I3,st3,fr3,w3⟩
 rcases turn i n σ3 H3 w3 with ⟨stop,qn⟩ | ⟨go,N,hN,step⟩
 ·refine wpAny_passesOwn hp (thn (T.done X rfl rfl rfl hc i pins s3 σ3 H3 X.xe I3 (stat fr3) st3 stop) fun r s4 ⟨hr,I4⟩=>?_)
  subst hr
  exact wpAny_execs_nil ⟨σ3,H3,I4,qn⟩
 ·refine wpAny_passesOwn hp (thn (T.item X rfl rfl rfl hc i pins s3 σ3 H3 X.xe I3 (stat fr3) st3 go) fun r s4 ⟨u,hr,h4⟩=>?_)
  subst hr
  refine wpAny_passesOwn hp (thn h4 fun _ s5 ⟨x,H5,I5,r5,y5,st5,fr5⟩=>?_)
  have I5':=I5.pinned (stat fr5) (T.obj _ _ st5)
  refine wpAny_passesOwn hp (thn (hg _ s5 σ3 H5 x u _ I5' r5 (step x H5 y5)) fun _ s6 ⟨σ6,H6,I6,q6⟩=>?_)
  refine wpAny_passesOwn hp (thn (hb _ s6 σ6 H6 _ I6 q6) fun f s7 q7=>?_)
  have again:∀ {σ7:St} {H7:Hp},Inv X (pins++pinsAt fp s5.heap) σ7 H7 s7→N σ7 H7→∃ m,m < n∧∃ i σ' H',Inv X pins σ' H' s7∧tn i s7.heap∧(∀ b∈fp,H' b=none)∧W i m σ' H':=fun {σ7 H7} I7 n7=>by
   obtain⟨m',hm,w7⟩:=hN σ7 H7 n7
   refine⟨m',hm,i+1,σ7,H7,I7.unpinned,T.keep _ _ _ st5 fun b hb o e=>(I7.pin (b,o) (List.mem_append_right _ (List.mem_append_right _ (bN hb e)))).1,fun b hb=>?_,w7⟩
   obtain⟨o,e,d⟩:=T.obj _ _ st5 b hb
   exact(I7.pin (b,o) (List.mem_append_right _ (List.mem_append_right _ (bN hb e)))).2.1
  cases f with
  | next=>obtain⟨σ7,H7,I7,n7⟩:=q7;exact again I7 n7
  | cont=>obtain⟨σ7,H7,I7,n7⟩:=q7;exact again I7 n7
  | brk=>obtain⟨σ7,H7,I7,q7⟩:=q7;exact⟨σ7,H7,I7.unpinned,q7⟩
  | ret v=>obtain⟨x7,σ7,H7,I7,r7,q7⟩:=q7;exact⟨x7,σ7,H7,I7.unpinned,r7,q7⟩
end
end L2
namespace L2
open PySem PySem.Spec PyProof.Rows
abbrev R2:=V→V→Hp→VK→Prop
def OpR (X:Cx)(f:Value→Value→Sem Value)(r:R2):Prop :=
 ∀ (pins:List (Addr×Obj)) (s:Shared) (σ:St) (H:Hp) (x y:V) (v u:Value) (Q:VK),Inv X pins σ H s→RelV x v→RelV y u→r x y H Q →
  wpAny (model X.prog X.w) X.A (f v u) (EP X pins σ Q) X.xe s
def UnR (X:Cx)(f:Value→Sem Value)(r:V→Hp→VK→Prop):Prop :=
 ∀ (pins:List (Addr×Obj)) (s:Shared) (σ:St) (H:Hp) (x:V) (v:Value) (Q:VK),Inv X pins σ H s→RelV x v→r x H Q →
  wpAny (model X.prog X.w) X.A (f v) (EP X pins σ Q) X.xe s
def CallR (X:Cx)(f:Value)(r:List V→Hp→VK→Prop):Prop :=
 ∀ (pins:List (Addr×Obj)) (s:Shared) (σ:St) (H:Hp) (xs:List V) (us:List Value) (Q:VK),Inv X pins σ H s→Vals xs us→r xs H Q →
  wpAny (model X.prog X.w) X.A (call f us) (EP X pins σ Q) X.xe s
def tOp (r:R2)(ta tb:TE):TE:=fun σ H Q=>ta σ H fun x H1=>tb σ H1 fun y H2=>r x y H2 Q
def tUn (r:V→Hp→VK→Prop)(ta:TE):TE:=fun σ H Q=>ta σ H fun x H1=>r x H1 Q
def rI (C:Int→Int→Prop)(g:Int→Int→V):R2:=fun x y H Q=>∃ i j,x=.int i∧y=.int j∧C i j∧Q (g i j) H
def rI0 (g:Int→Int→V):R2:=fun x y H Q=>∃ i j,x=.int i∧y=.int j∧Q (g i j) H
def rU (g:Int→V):V→Hp→VK→Prop:=fun x H Q=>∃ i,x=.int i∧Q (g i) H
section
variable {X:Cx}{a b c:Expr}{ta tb tc:TE}{pos:Pos}
theorem binT (ha:PE X a ta)(hb:PE X b tb){pins:List (Addr×Obj)}{s:Shared}{σ:St}{H:Hp}{R:V→V→Hp→Prop}(I:Inv X pins σ H s)
  (h:ta σ H fun x H1=>tb σ H1 fun y H2=>R x y H2) {Q:Value→Shared→Prop} {f:Value→Value→Sem Value}
  (hf:∀ v u s2 x y H2,Inv X pins σ H2 s2→RelV x v→RelV y u→R x y H2→wpAny (model X.prog X.w) X.A (f v u) Q X.xe s2) :
  wpAny (model X.prog X.w) X.A (eval a X.env) (fun v s₁=>wpAny (model X.prog X.w) X.A (eval b X.env) (fun u s₂=>wpAny (model X.prog X.w) X.A (f v u) Q X.xe s₂) X.xe s₁) X.xe s:=by
 refine thn (ha pins s σ H _ I h) fun v s1 ⟨x,H1,I1,r1,q1⟩=>?_
 refine thn (hb pins s1 σ H1 _ I1 q1) fun u s2 ⟨y,H2,I2,r2,q2⟩=>?_
 exact hf v u s2 x y H2 I2 r1 r2 q2
theorem u9 {op:Operator}{r:R2}(ho:OpR X (binaryOp op) r)(ha:PE X a ta)(hb:PE X b tb):PE X (.BinOp a op b pos) (tOp r ta tb):=by
 intro pins s σ H Q I h
 exact wpAny_BinOp (binT ha hb I h fun v u s2 x y H2 I2 rx ry q=>ho pins s2 σ H2 x y v u Q I2 rx ry q)
theorem tG {op:UnaryOp}{r:V→Hp→VK→Prop}(ho:UnR X (unaryOp op) r)(ha:PE X a ta):PE X (.UnaryOp op a pos) (tUn r ta):=by
 intro pins s σ H Q I h
 exact UnaryOp_ (thn (ha pins s σ H _ I h) fun v s1 ⟨x,H1,I1,r1,q1⟩=>ho pins s1 σ H1 x v Q I1 r1 q1)
theorem opI {f:Value→Value→Sem Value}{C:Int→Int→Prop}{g:Int→Int→Int}
  (rule:∀ (i j:Int) (t u:Tok) (s:Shared) (Q:Value→Shared→Prop) (E:Value→Shared→Prop),C i j→Q (.int (g i j) s.toks) { s with toks:=s.toks+1 }→wpAny (model X.prog X.w) X.A (f (.int i t) (.int j u)) Q E s) :
  OpR X f (rI C fun i j=>.int (g i j)):=by
 intro pins s σ H x y v u Q I rx ry h
 obtain⟨i,j,rfl,rfl,hc,q⟩:=h
 obtain⟨t,rfl⟩:=rx
 obtain⟨t',rfl⟩:=ry
 exact rule i j t t' s _ _ hc ⟨.int (g i j),H,I.tok _,⟨_,rfl⟩,q⟩
theorem opI0 {f:Value→Value→Sem Value}{g:Int→Int→Int}
  (rule:∀ (i j:Int) (t u:Tok) (s:Shared) (Q:Value→Shared→Prop) (E:Value→Shared→Prop),Q (.int (g i j) s.toks) { s with toks:=s.toks+1 }→wpAny (model X.prog X.w) X.A (f (.int i t) (.int j u)) Q E s) :
  OpR X f (rI0 fun i j=>.int (g i j)):=by
 intro pins s σ H x y v u Q I rx ry h
 obtain⟨i,j,rfl,rfl,q⟩:=h
 obtain⟨t,rfl⟩:=rx
 obtain⟨t',rfl⟩:=ry
 exact rule i j t t' s _ _ ⟨.int (g i j),H,I.tok _,⟨_,rfl⟩,q⟩
theorem opB0 {f:Value→Value→Sem Value}{g:Int→Int→Bool}
  (rule:∀ (i j:Int) (t u:Tok) (s:Shared) (Q:Value→Shared→Prop) (E:Value→Shared→Prop),Q (.bool (g i j)) s→wpAny (model X.prog X.w) X.A (f (.int i t) (.int j u)) Q E s) :
  OpR X f (rI0 fun i j=>.bl (g i j)):=by
 intro pins s σ H x y v u Q I rx ry h
 obtain⟨i,j,rfl,rfl,q⟩:=h
 obtain⟨t,rfl⟩:=rx
 obtain⟨t',rfl⟩:=ry
 exact rule i j t t' s _ _ ⟨.bl (g i j),H,I,rfl,q⟩
def CDiv (i j:Int):Prop:=0 < j∧j < 1073741824
def CMul (i j:Int):Prop:=(-(2^64) < i∧i < 2^64)∨(-(2^64) < j∧j < 2^64)
theorem CMul.ok {i j:Int}(h:CMul i j):IntMulOk i j:=by
 rcases h with ⟨h1,h2⟩ | ⟨h1,h2⟩
 ·exact .of_left (intBits_le_64 h1 h2)
 ·exact .of_right (intBits_le_64 h1 h2)
theorem ui:OpR X (binaryOp .Add) (rI0 fun i j=>.int (i+j)):=opI0 fun _ _ _ _ _ _ _ q=>add_int q
theorem uj:OpR X (binaryOp .Sub) (rI0 fun i j=>.int (i - j)):=opI0 fun _ _ _ _ _ _ _ q=>sub_int q
theorem uk:OpR X (binaryOp .Mult) (rI CMul fun i j=>.int (i*j)):=opI fun _ _ _ _ _ _ _ hc q=>mul_int q hc.ok
theorem rB:OpR X (binaryOp .FloorDiv) (rI CDiv fun i j=>.int (i/j)):=opI fun i j _ _ _ _ _ hc q=>by
 have h1:(0:Int) < j:=hc.1
 have h2:j < 1073741824:=hc.2
 exact floordiv_int (by omega) (by rw[Int.fdiv_eq_ediv_of_nonneg i (by omega)];exact q) (.inl (PyProof.noPylong_small (by omega)))
theorem ul:OpR X (binaryOp .Mod) (rI (fun _ j=>0 < j) fun i j=>.int (i%j)):=opI fun i j _ _ _ _ _ hc q=>by
 have h1:(0:Int) < j:=hc
 exact mod_int' (by omega) (by rw[Int.fmod_eq_emod_of_nonneg i (by omega)];exact q)
theorem unI {f:Value→Sem Value}{g:Int→Int}
  (rule:∀ (i:Int) (t:Tok) (s:Shared) (Q:Value→Shared→Prop) (E:Value→Shared→Prop),Q (.int (g i) s.toks) { s with toks:=s.toks+1 }→wpAny (model X.prog X.w) X.A (f (.int i t)) Q E s) :
  UnR X f (rU fun i=>.int (g i)):=by
 intro pins s σ H x v Q I rx h
 obtain⟨i,rfl,q⟩:=h
 obtain⟨t,rfl⟩:=rx
 exact rule i t s _ _ ⟨.int (g i),H,I.tok _,⟨_,rfl⟩,q⟩
theorem pw:UnR X (unaryOp .USub) (rU fun i=>.int (-i)):=unI fun _ _ _ _ _ q=>neg_int q
end
section
variable {X:Cx}{a b c:Expr}{ta tb tc:TE}{pos:Pos}
theorem j5 {pins:List (Addr×Obj)}{σ:St}{H:Hp}{s:Shared}{Q:VK}{k k':Bool}(I:Inv X pins σ H s)(q:Q (.bl k) H)(e:k=k'):EP X pins σ Q (.bool k') s:=by
 subst e
 exact⟨.bl k,H,I,rfl,q⟩
theorem pz:OpR X (compareOp .Lt) (rI0 fun i j=>.bl (decide (i < j))):=opB0 fun _ _ _ _ _ _ _ q=>lt_int q
theorem nj:OpR X (compareOp .LtE) (rI0 fun i j=>.bl (decide (i≤j))):=opB0 fun _ _ _ _ _ _ _ q=>le_int q
theorem va:OpR X (compareOp .GtE) (rI0 fun i j=>.bl (decide (j≤i))):=opB0 fun _ _ _ _ _ _ _ q=>ge_int q
theorem OpR.or {f:Value→Value→Sem Value}{r r':R2}(h:OpR X f r)(h':OpR X f r'):OpR X f (fun x y H Q=>r x y H Q∨r' x y H Q):=by
 intro pins s σ H x y v u Q I rx ry q
 rcases q with q | q
 ·exact h pins s σ H x y v u Q I rx ry q
 ·exact h' pins s σ H x y v u Q I rx ry q
theorem nomark (b:Expr){op:CmpOp}(h:op≠.In:=by decide)(h2:op≠.NotIn:=by decide):behindInMarks op b=false:=by
 have e1:(op==CmpOp.In)=false:=by cases op<;>first | rfl | exact absurd rfl h
 have e2:(op==CmpOp.NotIn)=false:=by cases op<;>first | rfl | exact absurd rfl h2
 cases b<;>simp[behindInMarks,e1,e2]
theorem rC {op:CmpOp}{r:R2}(ho:OpR X (compareOp op) r)(ha:PE X a ta)(hb:PE X b tb)(hm:behindInMarks op b=false):PE X (.Compare a [op] [b] pos) (tOp r ta tb):=by
 intro pins s σ H Q I h
 exact wpAny_Compare1 (binT ha hb I h fun v u s2 x y H2 I2 rx ry q=>ho pins s2 σ H2 x y v u Q I2 rx ry q) hm
def tTest (t:TE):TT:=fun σ H Q=>t σ H fun x H'=>∃ k,x=.bl k∧Q k H'
theorem rD {op:CmpOp}{r:R2}(ho:OpR X (compareOp op) r)(ha:PE X a ta)(hb:PE X b tb)(hm:behindInMarks op b=false):PT X (.Compare a [op] [b] pos) (tTest (tOp r ta tb)):=by
 intro pins s σ H Q I h
 refine wpAny_isTrue_Compare1 (thn (ha pins s σ H _ I h) fun v s1 ⟨x,H1,I1,r1,q1⟩=>thn (hb pins s1 σ H1 _ I1 q1) fun u s2 ⟨y,H2,I2,r2,q2⟩ =>
  thn (ho pins s2 σ H2 x y v u _ I2 r1 r2 q2) fun c s3 ⟨z,H3,I3,r3,k,e,q3⟩=>?_) hm
 subst e
 cases r3
 exact wpAny_truthy_bool ⟨H3,I3,q3⟩
def tChain (r r':R2)(ta tb tc:TE):TE:=fun σ H Q=>ta σ H fun x H1=>tb σ H1 fun y H2=>r x y H2 fun z H3=>∃ k,z=.bl k ∧
 (if k=true then tc σ H3 fun w' H4=>r' y w' H4 Q else Q (.bl false) H3)
theorem pA {op op':CmpOp}{r r':R2}(ho:OpR X (compareOp op) r)(ho':OpR X (compareOp op') r')(ha:PE X a ta)(hb:PE X b tb)(hc:PE X c tc)
  (hm:lastMarks [op,op'] [b,c]=false:=by with_unfolding_all rfl):PE X (.Compare a [op,op'] [b,c] pos) (tChain r r' ta tb tc):=by
 intro pins s σ H Q I h
 refine Compare_chain (thn (ha pins s σ H _ I h) fun v s1 ⟨x,H1,I1,r1,q1⟩=>chain_link (thn (hb pins s1 σ H1 _ I1 q1) fun u s2 ⟨y,H2,I2,r2,q2⟩ =>
  thn (ho pins s2 σ H2 x y v u _ I2 r1 r2 q2) fun d s3 ⟨z,H3,I3,r3,k,e,q3⟩=>?_)) hm
 subst e
 cases r3
 refine wpAny_truthy_bool ?_
 cases k with
 | false=>exact ite_ff ⟨.bl false,H3,I3,rfl,q3⟩
 | true=>exact ite_tt (chain_last (thn (hc pins s3 σ H3 _ I3 q3) fun w' s4 ⟨z',H4,I4,r4,q4⟩=>ho' pins s4 σ H4 y z' u w' Q I4 r2 r4 q4))
theorem pB {op op':CmpOp}{r r':R2}(ho:OpR X (compareOp op) r)(ho':OpR X (compareOp op') r')(ha:PE X a ta)(hb:PE X b tb)(hc:PE X c tc)
  (hm:lastMarks [op,op'] [b,c]=false:=by with_unfolding_all rfl):PT X (.Compare a [op,op'] [b,c] pos) (tTest (tChain r r' ta tb tc)):=by
 intro pins s σ H Q I h
 refine isTrue_chain (thn (ha pins s σ H _ I h) fun v s1 ⟨x,H1,I1,r1,q1⟩=>test_link (thn (hb pins s1 σ H1 _ I1 q1) fun u s2 ⟨y,H2,I2,r2,q2⟩ =>
  thn (ho pins s2 σ H2 x y v u _ I2 r1 r2 q2) fun d s3 ⟨z,H3,I3,r3,k,e,q3⟩=>?_)) hm
 subst e
 cases r3
 refine wpAny_truthy_bool ?_
 cases k with
 | false =>
  obtain⟨k',e',q'⟩:=q3
  cases e'
  exact ite_ff ⟨H3,I3,q'⟩
 | true =>
  refine ite_tt (test_last (thn (hc pins s3 σ H3 _ I3 q3) fun w' s4 ⟨z',H4,I4,r4,q4⟩=>thn (ho' pins s4 σ H4 y z' u w' _ I4 r2 r4 q4) fun d' s5 ⟨z2,H5,I5,r5,k2,e2,q5⟩=>?_))
  subst e2
  cases r5
  exact wpAny_truthy_bool ⟨H5,I5,q5⟩
theorem line63:(sizeLine:Nat) < 2^63:=by rw[sizeLine_eq];decide
theorem vals1 {x:V}{us:List Value}(r:Vals [x] us):∃ u,us=[u]∧RelV x u:=by
 cases r with
 | cons r1 r2=>cases r2;exact⟨_,rfl,r1⟩
theorem vals2 {x y:V}{us:List Value}(r:Vals [x,y] us):∃ u w',us=[u,w']∧RelV x u∧RelV y w':=by
 cases r with
 | cons r1 r2 =>
  cases r2 with
  | cons r3 r4=>cases r4;exact⟨_,_,rfl,r1,r3⟩
theorem nX (hc:X.calm=true):CallR X (.builtin "max") (fun xs H Q=>∃ i j,xs=[.int i,.int j]∧Q (.int (if j > i then j else i)) H):=by
 intro pins s σ H xs us Q I r h
 obtain⟨i,j,rfl,q⟩:=h
 obtain⟨u,w',rfl,⟨t,rfl⟩,⟨t',rfl⟩⟩:=vals2 r
 refine max_two_ints (I.ok.hd hc) fun h' tk k=>⟨_,H,I.kept k,?_,q⟩
 by_cases hj:j > i
 ·rw[if_pos hj,if_pos hj];exact⟨_,rfl⟩
 ·rw[if_neg hj,if_neg hj];exact⟨_,rfl⟩
theorem nY:CallR X (.type "int") (fun xs H Q=>(∃ i,xs=[.int i]∧Q (.int i) H)∨∃ k,xs=[.bl k]∧Q (.int (if k then 1 else 0)) H):=by
 intro pins s σ H xs us Q I r h
 rcases h with ⟨i,rfl,q⟩ | ⟨k,rfl,q⟩
 ·obtain⟨u,rfl,t,rfl⟩:=vals1 r
  exact call_int_int ⟨.int i,H,I,⟨_,rfl⟩,q⟩
 ·obtain⟨u,rfl,r1⟩:=vals1 r
  cases r1
  exact call_int_bool ⟨.int (if k then 1 else 0),H,I.tok _,⟨_,rfl⟩,q⟩
end
end L2
namespace L2
open PySem PySem.Spec PyProof.Rows
structure ObjM (h:Heap)(x dx C:Addr)(mA:Str→Option Value):Prop where
 obj:h.get? x=some (PySem.W.instObj C dx)
 ns:h.Ns1 dx mA
 ne:dx≠x
theorem nZ {h:Heap}{dx:Addr}{mA:Str→Option Value}(n:h.Ns1 dx mA):∃ od,h.get? dx=some od∧∀ name,PySem.W.lookIn name od=some (mA name):=by
 obtain⟨o,es,ep,ho,hd,hk,_,hm⟩:=n
 refine⟨o,ho,fun name=>?_⟩
 have e:=hm name
 unfold nsFind findBy at e
 rw[← Array.find?_toList]at e
 unfold PySem.W.lookIn
 rw[hd]
 dsimp only
 split
 ·rename_i y q
  rw[q]at e
  exact congrArg some e
 ·rename_i q
  rw[q]at e
  have a:es.toList.any (·.refKey)=false:=by
   rw[List.any_eq_false]
   intro y hy
   obtain⟨z,t,hkey⟩:=hk y (Array.mem_toList_iff.mp hy)
   simp[DictEntry.refKey,hkey]
  have a':¬ es.toList.any (·.refKey)=true:=by rw[a];exact Bool.false_ne_true
  rw[if_neg a']
  exact congrArg some e
theorem ObjM.look {h:Heap}{x dx C:Addr}{mA:Str→Option Value}(I:ObjM h x dx C mA):∃ od,PySem.W.InstAt h x (PySem.W.instObj C dx) C (some od)∧∀ name,PySem.W.lookIn name od=some (mA name) :=
 let ⟨od,ho,hl⟩:=nZ I.ns
 ⟨od,⟨I.obj,rfl,rfl,ho⟩,hl⟩
section
variable {prog:Program}{w:World}{A:Around}{E:Value→Shared→Prop}{s:Shared}{K:PySem.W.Frag}{x dx C f:Addr}{mA:Str→Option Value}{name:Str}{v:Value}
theorem pC {pl:Sem Bool}{Q:Value×List Value→Shared→Prop}(X:K.In s.heap)(I:ObjM s.heap x dx C mA)(hg:PySem.W.plainGet K C name=true)
  (hf:PySem.W.findIn K (.ref C) name=some (some (.ref f))) (ht:PySem.W.isFn K (.ref f)=true) (hv:mA name=none) (h:Q (.ref f,[.ref x]) s) :
  wpAny (model prog w) A (getMethod (.ref x) name pl) Q E s:=by
 obtain⟨od,J,hl⟩:=I.look
 exact PySem.W.method_fn X J (PySem.W.plainGet_of hg).1 (PySem.W.plainGet_of hg).2 hf (beq_iff_eq.mp ht) (by show (PySem.W.lookIn name od).map (·.isSome)=some false;rw[hl,hv];rfl) h
theorem vb {R:Result→Shared→Prop}{vs:List Value}{kw:List (Str×Value)}(X:K.In s.heap)(hm:PySem.W.makesIn K C=true)
  (hi:PySem.W.findIn K (.ref C) "__init__"=some (some (.ref f))) (hf:PySem.W.typeIn K (.ref f)=some (.type "function"))
  (h:codeAny (model prog w) (A.under (.builtin "type.__call__" ⟨.ref C::vs,kw⟩)) (.call (.ref f) ⟨.ref (s.heap.objs.size+1)::vs,kw⟩) (PySem.W.InitBack (s.heap.objs.size+1) R)
   { s with heap:=(s.heap.push PySem.W.emptyDict).push (PySem.W.instObj C s.heap.objs.size) }) :
  codeAny (model prog w) A (.call (.ref C) ⟨vs,kw⟩) R s:=by
 obtain⟨hh,g,d,t,os⟩:=s
 exact PySem.W.make_core (PySem.W.makes_of X hm) (PySem.W.looks_findIn X hi) (fun self=>PySem.W.bind_fn X self hf) (.inl rfl) h
end
theorem RelO.none_of {o:Option Value}(r:RelO none o):o=none:=by
 cases o with
 | none=>rfl
 | some u=>exact(show False from r).elim
section
variable {P:Program}{w:World}{H H':Hp}{h h':Heap}{a C dx:Addr}{fs fs':List (Str×V)}
theorem rE (hok:HOk P w H h)(e:H a=some (.ins C dx fs)):∃ mA,ObjM h a dx C mA∧(∀ f,RelO (fs.lookup f) (mA f))∧PySem.Within mA (fs.map (·.1))∧fs.length≤1000∧H dx=some (.own a):=by
 obtain⟨d,z,ne,ob,mA,n,r,q⟩:=(show ObjOk P w H h a (.ins C dx fs) from hok a _ e)
 exact⟨mA,⟨ob,n,ne⟩,r,q,z,d⟩
end
structure Cls (K:PySem.W.Frag)(C:Addr):Prop where
 pg:PySem.W.plainGet K C Str.empty=true
 hd:PySem.W.hasDictIn K C=true
 po:PySem.W.plainOver K C=true
 sa:PySem.W.findIn K (.ref C) "__setattr__"=some (some (.builtin "object.__setattr__"))
theorem Cls.get {K:PySem.W.Frag}{C:Addr}(c:Cls K C)(f:Str):PySem.W.plainGet K C f=true:=c.pg
structure Meth (K:PySem.W.Frag)(C:Addr)(m:Str)(f:Addr):Prop where
 at_:PySem.W.findIn K (.ref C) m=some (some (.ref f))
 fn:PySem.W.isFn K (.ref f)=true
 kp:PySem.W.keepIn K (.ref f)=true
section
variable {X:Cx}{pins:List (Addr×Obj)}{σ:St}{H:Hp}{s:Shared}{a C dx:Addr}{fs:List (Str×V)}{f:Str}{v:V}{A:Around}{E:Value→Shared→Prop}
theorem mo {m:Str}{g:Addr}{pl:Sem Bool}{Q:Value×List Value→Shared→Prop}(I:Inv X pins σ H s)(e:H a=some (.ins C dx fs))(c:Cls X.K C)(k:Meth X.K C m g)(l:fs.lookup m=none)
  (h:Q (.ref g,[.ref a]) s):wpAny (model X.prog X.w) A (getMethod (.ref a) m pl) Q E s:=by
 obtain⟨mA,O,r,_,_,_⟩:=rE I.hok e
 have hn:mA m=none:=RelO.none_of (by rw[← l];exact r m)
 exact pC I.kIn O (c.get m) k.at_ k.fn hn h
end
section
variable {X:Cx}{o e value:Expr}{f:Str}{pos pos' tpos:Pos}{ta tv:TE}
theorem tH {pl:Sem Bool}{m:Str}{apos:Pos}{args:List Expr}{pins:List (Addr×Obj)}{s:Shared}{σ:St}{H:Hp}{Q:Value→Shared→Prop}{te:TE}(he:PE X e te)(I:Inv X pins σ H s)
  (h:te σ H fun x H1=>∃ a C dx fs g,x=.ref a∧H1 a=some (.ins C dx fs)∧Cls X.K C∧Meth X.K C m g∧fs.lookup m=none ∧
   ∀ s1,Inv X pins σ H1 s1→wpAny (model X.prog X.w) X.A (callWith pos (.ref g) [.ref a] (backTo pos (starEach args X.env)) (backToKw pos (keywordEach [] X.env))) Q X.xe s1)
  (ht:eval (.Call (.Attribute e m apos) args [] pos) X.env=(do
   let ov ← eval e X.env
   standAt apos.atName
   let (f,first) ← holding [ov] (getMethod ov m pl)
   callWith pos f first (backTo pos (starEach args X.env)) (backToKw pos (keywordEach [] X.env)))) :
  wpAny (model X.prog X.w) X.A (eval (.Call (.Attribute e m apos) args [] pos) X.env) Q X.xe s:=by
 refine PySem.W.methodCall_KW (pl:=pl) (thn (he pins s σ H _ I h) fun u s1 ⟨x,H1,I1,rx,a,C,dx,fs,g,ex,ea,c,k,l,q⟩=>?_) ht
 subst ex
 obtain rfl:u=Value.ref a:=rx
 exact mo I1 ea c k l (q s1 I1)
end
section
variable {X:Cx}{pins:List (Addr×Obj)}{σ:St}{H:Hp}{s:Shared}{A:Around}{E:Value→Shared→Prop}{Q:Value→Shared→Prop}{c:Value}{b:Bool}
inductive TyOf (K:PySem.W.Frag)(H:Hp):V→Value→Prop where
 | non:TyOf K H .non (.type "NoneType")
 | bl (x:Bool):TyOf K H (.bl x) (.type "bool")
 | int (i:Int):TyOf K H (.int i) (.type "int")
 | str (x:Str):TyOf K H (.str x) (.type "str")
 | flt (x:UInt64):TyOf K H (.flt x) (.type "float")
 | lst {a:Addr} {xs:List V} (e:H a=some (.lst xs)):TyOf K H (.ref a) (.type "list")
 | frz {a:Addr} {o:Obj} {xs:List V} (e:H a=some (.frz o (.lst xs))):TyOf K H (.ref a) (.type "list")
 | tup {a:Addr} {xs:List V} (e:H a=some (.tup xs)):TyOf K H (.ref a) (.type "tuple")
 | dK {a:Addr} {kvs:List (Key×V)} (e:H a=some (.dK kvs)):TyOf K H (.ref a) (.type "dict")
 | dT {a:Addr} {kvs:List (List Key×V)} (e:H a=some (.dT kvs)):TyOf K H (.ref a) (.type "dict")
 | ins {a C dx:Addr} {fs:List (Str×V)} (e:H a=some (.ins C dx fs)) (cl:Cls K C) (ha:PySem.W.findIn K (.ref C) "__class__"=some (some (.builtin "object.__class__")))
   (hn:PySem.W.specialIn K (.builtin "object.__class__") "__get__"=some (some (.builtin "getset_descriptor.__get__"))) (htk:PySem.W.takesIn K (.builtin "object.__class__")=some true)
   (hm:PySem.W.mroIn K C (.type "object")=some true):TyOf K H (.ref a) (.ref C)
end
end L2
namespace L2
open PySem PySem.Spec PyProof.Rows
structure Room (k:Nat)(A:Around):Prop where
 hd:A.handled=none
 dp:A.depth+3*k+5 < recursionLimit
 un:A.units+16*k+200 < cLine
theorem Room.deeper {k:Nat}{A:Around}(r:Room (k+1) A)(env:Env):Room k (A.deeper env) :=
 ⟨r.hd,by have:=r.dp;show A.depth+1+3*k+5 < _;omega,by have:=r.un;show A.units+3+16*k+200 < _;omega⟩
theorem Room.depth {k:Nat}{A:Around}(r:Room k A):A.depth < recursionLimit:=by have:=r.dp;omega
def tNil:TA:=fun _ H Q=>Q [] H
def tCons (ta:TE)(tr:TA):TA:=fun σ H Q=>ta σ H fun x H1=>tr σ H1 fun xs H2=>Q (x::xs) H2
section
variable {X:Cx}{e:Expr}{es:List Expr}{te:TE}{t:TA}{pos:Pos}
theorem mq:PA X [] tNil:=fun _ _ _ _ H Q I h=>Calls.spliced_nil ⟨[],H,I,.nil,h⟩
theorem gP (ha:PE X e te)(hr:PA X es t)(hs:starEach (e::es) X.env=(false,eval e X.env)::starEach es X.env:=by rfl):PA X (e::es) (tCons te t):=by
 intro pos pins s σ H Q I h
 rw[hs]
 show wpAny _ _ (spliced ((false,eval e X.env)::backTo pos (starEach es X.env))) _ _ s
 refine Calls.spliced_cons (thn (ha pins s σ H _ I h) fun u s1 ⟨x,H1,I1,r1,q1⟩=>?_)
 exact thn (hr pos pins s1 σ H1 _ I1 q1) fun us s2 ⟨xs,H2,I2,r2,q2⟩=>⟨x::xs,H2,I2,.cons r1 r2,q2⟩
def tTup (t:TA):TE:=fun σ H Q=>t σ H fun xs H1=>xs.length≤sizeLine∧∀ p,H1 p=none→Q (.ref p) (upd H1 p (.tup xs))
def tLst (t:TA):TE:=fun σ H Q=>t σ H fun xs H1=>xs.length≤sizeLine∧∀ p,H1 p=none→Q (.ref p) (upd H1 p (.lst xs))
theorem um {x1}(h:PA X es t):PE X (.Tuple es x1 pos) (tTup t):=by
 intro pins s σ H Q I hq
 refine wpAny_Tuple_spliced (thn (h pos pins s σ H _ I hq) fun us s1 ⟨xs,H1,I1,r,z,q⟩=>⟨by rw[← r.length];exact z,?_⟩)
 have hf:H1 s1.heap.objs.size=none:=I1.hok.fresh (Nat.le_refl _)
 refine⟨.ref s1.heap.objs.size,upd H1 s1.heap.objs.size (.tup xs),I1.laid (t':=s1.toks) (fun b u e=>Heap.get?_push_of_some _ e) (Nat.le_refl _) ?_,rfl,q _ hf⟩
 exact⟨z,us,r,TupO.new _ _⟩
theorem pE (h:PA X es t):PE X (.List es pos) (tLst t):=by
 intro pins s σ H Q I hq
 refine wpAny_List_spliced (thn (h pos pins s σ H _ I hq) fun us s1 ⟨xs,H1,I1,r,z,q⟩=>⟨by rw[← r.length];exact z,?_⟩)
 have hf:H1 s1.heap.objs.size=none:=I1.hok.fresh (Nat.le_refl _)
 refine⟨.ref s1.heap.objs.size,upd H1 s1.heap.objs.size (.lst xs),I1.laid (t':=s1.toks) (fun b u e=>Heap.get?_push_of_some _ e) (Nat.le_refl _) ?_,rfl,q _ hf⟩
 exact⟨z,us,0,r,Heap.get?_push_size _ rfl⟩
end
abbrev Sp:=List V→Hp→VK→XK→Prop
abbrev CXT:=List Env→Hp→Shared→XK→Value→Shared→Prop
structure Env0 (P:Program)(w:World)(K:PySem.W.Frag)(mg:Str→Option Value)(base:Heap)(A:Around)(outer:List Env)(s:Shared)(H:Hp):Prop where
 frames:A.frames=some outer
 mod:Mod K mg base
 bs:∀ b o,base.get? b=some o→s.heap.get? b=some o∧H b=none
 bsz:base.objs.size≤s.heap.objs.size
 funs:s.heap.FunFrames base outer
 frf:∀ b∈frs outer,H b=none
 hok:HOk P w H s.heap
 bare:AllBare s.gens
def CE (outer:List Env)(P:Program)(w:World)(H:Hp)(s:Shared)(Q:VK)(u:Value)(s':Shared):Prop :=
 ∃ v H',s'.os=s.os∧AllBare s'.gens∧Un (frs outer) [] H H' s.heap s'.heap∧HOk P w H' s'.heap∧RelV v u∧Q v H'
def CR (CX:CXT)(outer:List Env)(P:Program)(w:World)(H:Hp)(s:Shared)(Q:VK)(E:XK)(r:Result)(s':Shared):Prop :=
 match r with
 | .ok (.ret u)=>CE outer P w H s Q u s'
 | .ok _=>False
 | .error e=>CX outer H s E e s'
structure FnOk (P:Program)(w:World)(K:PySem.W.Frag)(mg:Str→Option Value)(base:Heap)(CX:CXT)(k:Nat)(f:Addr)(fd:FuncData)(ps:List Str)(sp:Sp):Prop where
 len:∀ vs H Q E,sp vs H Q E→vs.length=ps.length
 run:∀ (A:Around) (outer:List Env) (s:Shared) (H:Hp) (args:Args) (us:List Value) (vs:List V) (Q:VK) (E:XK),Room k A→Env0 P w K mg base A outer s H→BindsTo s fd args (ps.zip us)→Vals vs us→sp vs H Q E →
  codeAny (model P w) A (.call (.ref f) args) (CR CX outer P w H s Q E) s
section
variable {X:Cx}{pins:List (Addr×Obj)}{σ:St}{H:Hp}{s s':Shared}
theorem Inv.env0 (I:Inv X pins σ H s):Env0 X.prog X.w X.K X.mg X.base X.A X.stack s H :=
 ⟨I.ok.frames,I.ok.mod,I.bs,Nat.le_trans I.ok.bsz I.sz,I.stack,I.stkFree,I.hok,I.bare⟩
theorem Inv.after {Q:VK}{u:Value}(I:Inv X pins σ H s)(h:CE X.stack X.prog X.w H s Q u s'):EP X pins σ Q u s':=by
 obtain⟨v,H',os,bare,un,hok,r,q⟩:=h
 obtain⟨hh,g,d,t,os'⟩:=s'
 obtain rfl:os'=s.os:=os
 exact⟨v,H',I.call (h':=hh) (g':=g) (d':=d) (t':=t) (ch:=[]) un hok bare (fun b z=>absurd z (by simp)),r,q⟩
end
def tCall (sp:Sp)(dvs:List V)(E:XK)(t:TA):TE:=fun σ H Q=>t σ H fun vs H1=>sp (vs++dvs) H1 Q E
def Binds (K:PySem.W.Frag)(fd:FuncData)(ps:List Str)(ds:List Value):Prop :=
 ∀ (s:Shared) (us:List Value),K.In s.heap→(us++ds).length=ps.length→BindsTo s fd ⟨us,[]⟩ (ps.zip (us++ds))
theorem Binds.all {K:PySem.W.Frag}{fd:FuncData}{ps:List Str}(h:∀ us:List Value,us.length=ps.length→bindArgs fd ⟨us,[]⟩=pure (ps.zip us)):Binds K fd ps []:=fun s us _ hl=>by
 rw[List.append_nil]at hl ⊢
 exact .of_eq (h us hl)
def Passes (CX:CXT)(X:Cx)(E:XK):Prop:=∀ (pins:List (Addr×Obj)) (σ:St) (H:Hp) (s:Shared) (e:Value) (s':Shared),Inv X pins σ H s→CX X.stack H s E e s'→X.xe e s'
section
variable {X:Cx}{CX:CXT}{k:Nat}{f C:Addr}{fd:FuncData}{ps:List Str}{sp:Sp}{dvs:List V}{ds:List Value}{E:XK}{x m:Str}{p pos apos:Pos}{e o:Expr}{es:List Expr}{ta:TE}{t:TA}
theorem pF {pins:List (Addr×Obj)}{σ:St}{H:Hp}{s:Shared}{Q:VK}{us:List Value}{vs:List V}(F:FnOk X.prog X.w X.K X.mg X.base CX k f fd ps sp)(hr:Room k X.A)(hb:Binds X.K fd ps ds)(hd:Vals dvs ds)(hx:Passes CX X E)
  (I:Inv X pins σ H s) (r:Vals vs us) (h:sp (vs++dvs) H Q E):wpAny (model X.prog X.w) X.A (call (.ref f) us) (EP X pins σ Q) X.xe s:=by
 have r2:Vals (vs++dvs) (us++ds):=r.append hd
 have hl:(us++ds).length=ps.length:=by rw[← r2.length];exact F.len _ _ _ _ h
 refine wpAny_call (codeAny_mono (F.run X.A X.stack s H ⟨us,[]⟩ (us++ds) (vs++dvs) Q E hr I.env0 (hb s us I.kIn hl) r2 h) fun r s' hq=>?_)
 cases r with
 | error e=>exact hx pins σ H s e s' I hq
 | ok fl =>
  cases fl with
  | ret u=>exact I.after hq
  | next=>exact False.elim hq
  | brk=>exact False.elim hq
  | cont=>exact False.elim hq
theorem rF (F:FnOk X.prog X.w X.K X.mg X.base CX k f fd ps sp)(hr:Room k X.A)(hg:Gl X x)(hm:X.mg x=some (.ref f))(hk:PySem.W.keepIn X.K (.ref f)=true)(hb:Binds X.K fd ps ds)(hd:Vals dvs ds)(hx:Passes CX X E)
  (ha:PA X (e::es) t) (hdb:(x==("__debug__":Str))=false:=by decide) (he:starEach (e::es) X.env=(false,eval e X.env)::starEach es X.env:=by rfl) (hpl:(backTo pos (starEach es X.env)).any (·.1)=false:=by rfl) :
  PE X (.Call (.Name x p) (e::es) [] pos) (tCall sp dvs E t):=by
 intro pins s σ H Q I h
 refine wpAny_Call_Name_kw (gO I hg hm ?_ hdb)
 refine PySem.W.callWith_K (h₀:=X.base) I.ok.mod.kin hk (thn (ha pos pins s σ H _ I h) fun us s1 ⟨vs,H1,I1,r,q⟩=>⟨I1.kIn,?_⟩) he hpl
 exact pF F hr hb hd hx I1 r q
end
section
variable {X:Cx}{CX:CXT}{k:Nat}{f C:Addr}{fd:FuncData}{ps ks:List Str}{sp:Sp}{E:XK}{x m:Str}{p pos apos kpos:Pos}{e o:Expr}{es:List Expr}{kws:List Keyword}{te ta:TE}{t tk:TA}{nm:Option Str}
variable {g:List Value→List Value→List Value}{gV:List V→List V→List V}
end
structure FnScope (N P:List Str)(sc:Scope):Prop where
 kind:sc.kind=.function
 co:sc.isCoroutine=false
 gen:sc.isGenerator=false
 nd:N.Nodup
 pre:N.take P.length=P
 par:∀ x∈P,sc.names.lookup x=some .local∨sc.names.lookup x=some .cell
 nofree:∀ y∈sc.names,y.2≠.free
theorem jw {kindOf:Str→Option NameKind}{x:Str}:∀ {binds:List (Str×Value)} {m:Str→Option Value},(∀ v,(x,v)∉binds)→bindL kindOf binds m x=m x
 | [],_,_=>rfl
 | (n,v)::r,m,h=>by
  unfold bindL
  rw[jw fun w hw=>h w (List.mem_cons_of_mem _ hw)]
  split
  ·have:x≠n:=by rintro rfl;exact h v List.mem_cons_self
   simp[this]
  ·rfl
theorem jy {kindOf:Str→Option NameKind}{x:Str}:∀ {binds:List (Str×Value)} {m:Str→Option Value},(∀ v,(x,v)∉binds)→bindC kindOf binds m x=m x
 | [],_,_=>rfl
 | (n,v)::r,m,h=>by
  unfold bindC
  rw[jy fun w hw=>h w (List.mem_cons_of_mem _ hw)]
  split
  ·rfl
  ·have:x≠n:=by rintro rfl;exact h v List.mem_cons_self
   simp[this]
theorem jz {kindOf:Str→Option NameKind}{x:Str}{v:Value}:∀ {P:List Str} {vs:List Value} {i:Nat} {m:Str→Option Value},P.Nodup→P[i]?=some x→vs[i]?=some v→kindOf x=some .local →
  bindL kindOf (P.zip vs) m x=some v
 | [],_,_,_,_,h,_,_=>by simp at h
 | _::_,[],_,_,_,_,h,_=>by simp at h
 | p::P,w::vs,0,m,nd,h1,h2,hk=>by
  simp at h1 h2;subst h1;subst h2
  show bindL kindOf ((p,w)::P.zip vs) m p=_
  unfold bindL
  rw[jw fun v hv=>(List.nodup_cons.mp nd).1 (List.of_mem_zip hv).1,if_pos hk]
  simp
 | p::P,w::vs,i+1,m,nd,h1,h2,hk=>by
  show bindL kindOf ((p,w)::P.zip vs) m x=_
  unfold bindL
  exact jz (i:=i) (List.nodup_cons.mp nd).2 (by simpa using h1) (by simpa using h2) hk
theorem jA {kindOf:Str→Option NameKind}{x:Str}{v:Value}:∀ {P:List Str} {vs:List Value} {i:Nat} {m:Str→Option Value},P.Nodup→P[i]?=some x→vs[i]?=some v→kindOf x≠some .local →
  bindC kindOf (P.zip vs) m x=some v
 | [],_,_,_,_,h,_,_=>by simp at h
 | _::_,[],_,_,_,_,h,_=>by simp at h
 | p::P,w::vs,0,m,nd,h1,h2,hk=>by
  simp at h1 h2;subst h1;subst h2
  show bindC kindOf ((p,w)::P.zip vs) m p=_
  unfold bindC
  rw[jy fun v hv=>(List.nodup_cons.mp nd).1 (List.of_mem_zip hv).1,if_neg hk]
  simp
 | p::P,w::vs,i+1,m,nd,h1,h2,hk=>by
  show bindC kindOf ((p,w)::P.zip vs) m x=_
  unfold bindC
  exact jA (i:=i) (List.nodup_cons.mp nd).2 (by simpa using h1) (by simpa using h2) hk
def start (N:List Str)(vs:List V):St:=vs.map some++List.replicate (N.length - vs.length) none
def cxOf (CX:CXT)(P:Program)(w:World)(K:PySem.W.Frag)(mg:Str→Option Value)(base:Heap)(N:List Str)(qual:Str)(scope:Scope)(f:Addr)(cd:Value)(A:Around)(outer:List Env)(s:Shared)(H:Hp)(E:XK):Cx where
 prog:=P
 w:=w
 K:=K
 mg:=mg
 base:=base
 A:=A.deeper (envOfC qual scope s.heap.objs.size f cd)
 N:=N
 s₀:=s
 H₀:=H
 env:=envOfC qual scope s.heap.objs.size f cd
 outer:=outer
 stack:=envOfC qual scope s.heap.objs.size f cd::outer
 ex:=[]
 calm:=true
 fn:=fun _=>true
 pn:=[]
 xe:=fun e s'=>wpAny (model P w) (A.deeper (envOfC qual scope s.heap.objs.size f cd)) (leaving (envOfC qual scope s.heap.objs.size f cd) e) (fun _ s''=>CX outer H s E e s'') (fun e' s''=>CX outer H s E e' s'') s'
theorem kO {sc:Scope}{n:Nat}{x:Str}(h:sc.names.lookup x=some .cell):∃ c,(cellsFrom n sc.names []).lookup x=some c:=by
 have q:=PySem.W.cellsFrom_some sc.names n [] (.inl h)
 exact Option.isSome_iff_exists.mp q
theorem n3 {CX:CXT}{P:Program}{w:World}{K:PySem.W.Frag}{mg:Str→Option Value}{base:Heap}{N ps:List Str}{qual:Str}{scope:Scope}{f:Addr}{cd:Value}{A:Around}{outer:List Env}{s s1:Shared}{H:Hp}{E:XK}{us:List Value}{vs:List V}
  (S:FnScope N ps scope) (hd:A.handled=none) (e0:Env0 P w K mg base A outer s H) (hl:vs.length=ps.length) (r:Vals vs us)
  (x:InCallC s s.heap.objs.size (bindL (envOfC qual scope s.heap.objs.size f cd).kindOf (ps.zip us) fun _=>none) (cellsFrom (s.heap.objs.size+1) scope.names []) (bindC (envOfC qual scope s.heap.objs.size f cd).kindOf (ps.zip us) fun _=>none) s1) :
  Inv (cxOf CX P w K mg base N qual scope f cd A outer s H E) [] (start N vs) H s1:=by
 have hpl:ps.length≤N.length:=by have:=congrArg List.length S.pre;rw[List.length_take]at this;omega
 obtain⟨h1,tk,rfl,hk⟩:=x.done
 have noA:∀ b:Addr,b∉(cxOf CX P w K mg base N qual scope f cd A outer s H E).ex:=fun b z=>absurd (show b∈([]:List Addr) from z) (by simp)
 refine⟨⟨e0.mod,S.kind,rfl,rfl,Nat.le_refl _,fun y z c h1 h2=>?_,fun y hy=>?_,fun y c _ h=>?_,fun _=>hd,Around.frames_deeper e0.frames,.inr ⟨rfl,rfl⟩,fun b z=>absurd z (noA b),e0.bs,e0.bsz,fun b _ _=>noA b,fun b z=>absurd z (noA b),e0.funs,e0.frf⟩,
  rfl,e0.bare,Un.kept hk,⟨_,x.toInCall.ns,fun i y v h1 h2 h3=>?_⟩,fun y c h=>⟨_,x.cell y c h⟩,e0.hok.fresh (Nat.le_refl _),fun y c h=>?_,fun p hp=>absurd (show p∈([]:List (Addr×Obj)) from hp) (by simp),e0.hok.kept hk,?_⟩
 ·exact name_of_addr x.apart (PySem.mem_of_lookup h1) (PySem.mem_of_lookup h2)
 ·have hy:scope.names.lookup y=some .cell∨scope.names.lookup y=some .free:=hy
  rcases hy with hy | hy
  ·exact kO hy
  ·exact absurd rfl (S.nofree _ (PySem.mem_of_lookup hy))
 ·exact Nat.le_of_lt (x.above y c (PySem.mem_of_lookup h))
 ·have hi:i < vs.length:=by
   unfold start at h2
   by_cases hi:i < vs.length
   ·exact hi
   ·rw[List.getElem?_append_right (by simpa using hi)]at h2
    rw[List.getElem?_replicate]at h2
    split at h2<;>cases h2
  have ha:vs[i]?=some v:=by
   unfold start at h2
   rw[List.getElem?_append_left (by simpa using hi),List.getElem?_map]at h2
   cases e:vs[i]? with
   | none=>rw[e]at h2;cases h2
   | some a=>rw[e]at h2;cases h2;rfl
  obtain⟨u,hu,rv⟩:=r.get ha
  have hp:ps[i]?=some y:=by
   rw[← S.pre,List.getElem?_take_of_lt (by omega)];exact h1
  have ndP:ps.Nodup:=by rw[← S.pre];exact S.nd.sublist (List.take_sublist _ _)
  refine⟨u,rv,?_⟩
  rcases S.par y (List.mem_of_getElem? hp) with k | k
  ·exact .inl ⟨k,jz ndP hp hu k⟩
  ·obtain⟨c,e⟩:=kO (n:=s.heap.objs.size+1) k
   refine .inr ⟨.inl k,c,e,?_⟩
   have q:=x.cell y c e
   rw[jA ndP hp hu (by show scope.names.lookup y≠_;rw[k];decide)]at q
   exact q
 ·exact e0.hok.fresh (Nat.le_of_lt (x.above y c (PySem.mem_of_lookup h)))
 ·unfold start
  show _=N.length
  rw[List.length_append,List.length_map,List.length_replicate]
  omega
theorem tJ {CX:CXT}{P:Program}{w:World}{K:PySem.W.Frag}{mg:Str→Option Value}{base:Heap}{k:Nat}{f:Addr}{name qual:Str}{params:Arguments}{body:List Stmt}{scope:Scope}{dV kV doc pm cdv ct oc:Value}{an od:Option Addr}
  {osl:Array (Option Value)} {N ps:List Str} {sp:Sp} (lk:K.lookup f=some ⟨oc,od,.func (PySem.W.fnOf name qual params body scope dV kV doc pm an cdv ct),osl⟩) (hcd:PySem.W.codeIn K cdv qual=true) (S:FnScope N ps scope)
  (len:∀ vs H Q E,sp vs H Q E→vs.length=ps.length)
  (hbody:∀ (A:Around) (outer:List Env) (s:Shared) (H:Hp) (vs:List V) (Q:VK) (E:XK),Room k (A.deeper (envOfC qual scope s.heap.objs.size f cdv))→sp vs H Q E →
   ∃ t,PSs (cxOf CX P w K mg base N qual scope f cdv A outer s H E) body t∧t { nx:=fun _ H'=>Q .non H',rt:=Q } (start N vs) H) :
  FnOk P w K mg base CX (k+1) f (PySem.W.fnOf name qual params body scope dV kV doc pm an cdv ct) ps sp:=by
 refine⟨len,fun A outer s H args us vs Q E hr e0 hb r hsp=>?_⟩
 have hl:=len _ _ _ _ hsp
 have KX:K.In s.heap:=e0.mod.kin.keeps fun b o e=>(e0.bs b o e).1
 have lim:s.heap.NoLimit:=e0.mod.nolimit.keeps fun b o e=>(e0.bs b o e).1
 have hkind:∀ y∈ps.zip us,scope.names.lookup y.1=some .local∨(scope.names.lookup y.1=some .cell∧((cellsFrom (s.heap.objs.size+1) scope.names []).lookup y.1).isSome=true):=fun ⟨n,v⟩ hy=>by
  rcases S.par n (List.of_mem_zip hy).1 with q | q
  ·exact .inl q
  ·exact .inr ⟨q,PySem.W.cellsFrom_some _ _ _ (.inl q)⟩
 refine codeAny_call_function hr.depth (KX _ _ lk) rfl S.co S.gen rfl (PySem.W.codeRec_of KX hcd) (hb _ _ _ _ ?_)
 refine wpAny_newFunctionEnv_cells S.kind hkind fun env he s1 x=>?_
 subst he
 refine⟨lim.keeps x.toInCall.keep,codeAny_func ?_⟩
 obtain⟨t,ht,hq⟩:=hbody A outer s H vs Q E (hr.deeper _) hsp
 have I:Inv (cxOf CX P w K mg base N qual scope f cdv A outer s H E) [] (start N vs) H s1:=n3 S hr.hd e0 hl r x
 refine wpAny_mono (ht [] s1 (start N vs) H _ I hq) (fun fl s' hs=>?_) fun e s' hs=>hs
 have fin:∀ {σ':St} {H':Hp} {v:V} {u:Value},Inv (cxOf CX P w K mg base N qual scope f cdv A outer s H E) [] σ' H' s'→RelV v u→Q v H'→CE outer P w H s Q u s' :=
  fun {σ' H' v u} J rv q=>⟨v,H',J.os,J.bare,J.base,J.hok,rv,q⟩
 cases fl with
 | ret u =>
  obtain⟨v,σ',H',J,rv,q⟩:=hs
  exact fin J rv q
 | next =>
  obtain⟨σ',H',J,q⟩:=hs
  exact fin (v:=V.non) (u:=Value.none) J rfl q
 | brk =>
  obtain⟨_,_,_,q⟩:=hs
  exact False.elim q
 | cont =>
  obtain⟨_,_,_,q⟩:=hs
  exact False.elim q
end L2
namespace L2
open PySem PySem.Spec PyProof.Rows
section
variable {X:Cx}{x:Str}{p pos:Pos}{e:Expr}{es:List Expr}{t:TA}{id T:String}{r:List V→Hp→VK→Prop}
def tCB (r:List V→Hp→VK→Prop)(t:TA):TE:=fun σ H Q=>t σ H fun vs H1=>r vs H1 Q
theorem g8 (hc:CallR X (.builtin id) r)(hg:Gl X x)(hm:X.mg x=none)(hv:bootBuiltins x=some (.builtin id))(ha:PA X (e::es) t)(hn:x ≠ "__name__" := by decide)(hdb:(x==("__debug__":Str))=false:=by decide)
  (he:starEach (e::es) X.env=(false,eval e X.env)::starEach es X.env:=by rfl) (hpl:(backTo pos (starEach es X.env)).any (·.1)=false:=by rfl):PE X (.Call (.Name x p) (e::es) [] pos) (tCB r t):=by
 intro pins s σ H Q I h
 refine wpAny_Call_Name_kw (j0 I hg hm hv ?_ hn hdb)
 exact PyProof.Rows.callWith_builtin1 (thn (ha pos pins s σ H _ I h) fun us s1 ⟨vs,H1,I1,r1,q1⟩=>hc pins s1 σ H1 vs us Q I1 r1 q1) he hpl
theorem jB (hc:CallR X (.type T) r)(hg:Gl X x)(hm:X.mg x=none)(hv:bootBuiltins x=some (.type T))(ha:PA X (e::es) t)(hn:x ≠ "__name__" := by decide)(hdb:(x==("__debug__":Str))=false:=by decide)
  (he:starEach (e::es) X.env=(false,eval e X.env)::starEach es X.env:=by rfl) (hpl:(backTo pos (starEach es X.env)).any (·.1)=false:=by rfl):PE X (.Call (.Name x p) (e::es) [] pos) (tCB r t):=by
 intro pins s σ H Q I h
 refine wpAny_Call_Name_kw (j0 I hg hm hv ?_ hn hdb)
 exact PyProof.Rows.callWith_type1 (thn (ha pos pins s σ H _ I h) fun us s1 ⟨vs,H1,I1,r1,q1⟩=>hc pins s1 σ H1 vs us Q I1 r1 q1) he hpl
end
end L2
namespace HT
open PySem PyProof.Rows
section
open PySem.SeqAt
open PySem.AutoSeq1 (wpAny_loadPart')
open PySem.MeetsSeq PySem.MeetsSeq2 PySem.MeetsSeq3
end
section
variable {prog:Program}{w:World}{A:Around}{E:Value→Shared→Prop}{s:Shared}
theorem rG {t b:Addr}{vs ws:List Value}{Q:Value→Shared→Prop}(ht:IsTup s.heap t vs.toArray)(hb:IsTup s.heap b ws.toArray)(hv:vs≠[])
  (h1:ws=[]→Q (.ref t) s) (h2:ws≠[]→Q (.ref s.heap.objs.size) { s with heap:=s.heap.push { cls:=.type "tuple",data:=.seq (vs++ws).toArray } })
  (hsz:vs.length+ws.length≤sizeLine):wpAny (model prog w) A (binaryOp .Add (.ref t) (.ref b)) Q E s:=by
 obtain⟨⟨cls,dd,data,sl⟩,ho,hc,n,hd⟩:=id ht
 obtain⟨⟨cls2,dd2,data2,sl2⟩,ho2,hc2,n2,hd2⟩:=id hb
 simp only at hc hd hc2 hd2
 subst hc hd hc2 hd2
 have e:vs.toArray++ws.toArray=(vs++ws).toArray:=by simp
 by_cases hw:ws=[]
 ·exact concat_meets ⟨_,ho,rfl⟩ ⟨_,ho2,rfl⟩ noFill_tuple_add seq_tuple_add PySem.F.slot_tuple_add PySem.F.entry_tuple_add (PySem.F.args_tuple_add_2 _ _)
   (tuple_addW1 t b vs.toArray ws.toArray n n2 dd dd2 sl sl2 (by simpa using hv) (by simp[hw])) ⟨ho,ho2,h1 hw⟩
 ·refine concat_meets ⟨_,ho,rfl⟩ ⟨_,ho2,rfl⟩ noFill_tuple_add seq_tuple_add PySem.F.slot_tuple_add PySem.F.entry_tuple_add (PySem.F.args_tuple_add_2 _ _)
   (tuple_addW2 t b vs.toArray ws.toArray n n2 dd dd2 sl sl2 (by simpa using hv) (by simpa using hw) (by rw[List.size_toArray,List.size_toArray];exact hsz)) ⟨ho,ho2,?_⟩
  rw[e]
  exact h2 hw
def sIx (n d:Nat):Option Int→Nat
 | none=>d
 | some v=>if v < 0 then (v+(n:Int)).toNat else min v.toNat n
theorem kP (n d:Nat):sIx n d none=d:=rfl
theorem uo (n d:Nat)(hd:d≤n)(o:Option Int):sIx n d o≤n:=by
 cases o with
 | none=>exact hd
 | some v =>
  show (if v < 0 then (v+(n:Int)).toNat else min v.toNat n)≤n
  by_cases hv:v < 0
  ·rw[if_pos hv];omega
  ·rw[if_neg hv];exact Nat.min_le_right _ _
theorem nk (v:Int)(n d:Nat):(if v < 0 then max (v+(n:Int)) 0 else min v (n:Int))=((sIx n d (some v):Nat):Int):=by
 show (if v < 0 then max (v+(n:Int)) 0 else min v (n:Int))=(((if v < 0 then (v+(n:Int)).toNat else min v.toNat n):Nat):Int)
 by_cases hv:v < 0
 ·simp only[if_pos hv];omega
 ·simp only[if_neg hv];omega
theorem mr (lo hi:Option Int)(n:Nat):Builtin.Slice.sliceAdjust lo hi 1 (n:Int)=(((sIx n 0 lo:Nat):Int),((sIx n n hi:Nat):Int)):=by
 have h1:¬ ((1:Int) < 0):=by omega
 unfold Builtin.Slice.sliceAdjust
 simp only[h1,if_false]
 refine Prod.ext ?_ ?_
 ·cases lo with
  | none=>rfl
  | some v=>exact nk v n 0
 ·cases hi with
  | none=>rfl
  | some v=>exact nk v n n
theorem ms (i j:Nat):Builtin.Slice.slicePlaces (i:Int) (j:Int) 1=j - i:=by
 unfold Builtin.Slice.slicePlaces
 have h1:(1:Int) > 0:=by omega
 simp only[h1,if_true,Int.ediv_one]
 split<;>omega
theorem g9 {v:Value}{o:Option Int}{Q:Option Int→Shared→Prop}(p:IsPart v o)(h:Q o s):wpAny (model prog w) A (Builtin.Slice.slicePartIndex v) Q E s:=by
 cases p with
 | none=>exact slicePart_none h
 | int i t=>exact slicePart_int h
theorem c5 {sl:Addr}{vl vu:Value}{lo hi:Option Int}{n:Nat}{Q:Int×Int×Nat→Shared→Prop}(hs:s.heap.IsSliceOf sl vl vu .none)(pl:IsPart vl lo)(pu:IsPart vu hi)
  (h:Q (((sIx n 0 lo:Nat):Int),1,sIx n n hi - sIx n 0 lo) s):wpAny (model prog w) A (Builtin.Slice.sliceApplied (.ref sl) (pure (n:Int))) Q E s:=by
 obtain⟨os,hos,hcs,hds⟩:=id hs
 unfold Builtin.Slice.sliceApplied Builtin.Slice.sliceFields
 refine wpAny_bind (wpAny_bind (wpAny_field hos hds (x:=vl) rfl (wpAny_bind (wpAny_field hos hds (x:=vu) rfl (wpAny_bind (wpAny_field hos hds (x:=.none) rfl (wpAny_pure ?_)))))))
 refine wpAny_bind (slicePart_none ?_)
 show wpAny _ _ (if ((1:Int)==0)=true then _ else _) _ _ s
 rw[if_neg (by decide)]
 refine wpAny_bind (g9 pl (wpAny_bind (g9 pu (wpAny_bind (wpAny_pure ?_)))))
 show wpAny _ _ (match Builtin.Slice.sliceAdjust lo hi 1 (n:Int) with | (lo,hi)=>pure (lo,(1:Int),Builtin.Slice.slicePlaces lo hi 1)) _ _ s
 rw[mr lo hi n]
 show wpAny _ _ (pure (((sIx n 0 lo:Nat):Int),(1:Int),Builtin.Slice.slicePlaces ((sIx n 0 lo:Nat):Int) ((sIx n n hi:Nat):Int) 1)) _ _ s
 rw[ms]
 exact wpAny_pure h
theorem pG (xs:Array Value)(i k:Nat):((List.range k).filterMap fun (m:Nat)=>xs[((i:Int)+(m:Int)*1).toNat]?).toArray=((xs.toList.drop i).take k).toArray:=by
 have e:(fun (m:Nat)=>xs[((i:Int)+(m:Int)*1).toNat]?)=fun m=>xs[i+m]?:=by
  funext m
  have:((i:Int)+(m:Int)*1).toNat=i+m:=by omega
  rw[this]
 rw[e]
 have:=pick_run xs i k
 rw[List.filterMap_map]at this
 have e2:((fun x=>xs[x]?)∘fun x=>i+x)=fun m=>xs[i+m]?:=rfl
 rw[e2]at this
 rw[this]
theorem eV {t sl:Addr}{items:Array Value}{vl vu:Value}{lo hi:Option Int}{Q:Value→Shared→Prop}(ht:IsTup s.heap t items)(hs:s.heap.IsSliceOf sl vl vu .none)(pl:IsPart vl lo)(pu:IsPart vu hi)
  (hw:¬ (sIx items.size 0 lo=0∧sIx items.size items.size hi=items.size))
  (h:Q (.ref s.heap.objs.size) { s with heap:=s.heap.push { cls:=.type "tuple",data:=.seq ((items.toList.drop (sIx items.size 0 lo)).take (sIx items.size items.size hi - sIx items.size 0 lo)).toArray } })
  (hsz:items.size≤sizeLine):wpAny (model prog w) A (getItem (.ref t) (.ref sl)) Q E s:=by
 have htake:sizeOk (.seq ((items.toList.drop (sIx items.size 0 lo)).take (sIx items.size items.size hi - sIx items.size 0 lo)).toArray):=by
  show ((items.toList.drop (sIx items.size 0 lo)).take (sIx items.size items.size hi - sIx items.size 0 lo)).toArray.size≤sizeLine
  rw[List.size_toArray,List.length_take,List.length_drop,Array.length_toList]
  omega
 have hj:sIx items.size items.size hi≤items.size:=uo _ _ (Nat.le_refl _) hi
 obtain⟨os,hos,hcs,hds⟩:=id hs
 have hTs:s.TypeIs (.ref sl) "slice" := ⟨os,hos,hcs⟩
 unfold getItem
 try with_reducible refine wpAny_holding ?_
 first | refine wpAny_bind (wpAny_pure ?_) | skip
 refine wpAny_bind (wpAny_sequenceKey ht.typeIs (by decide) ?_)
 refine wpAny_bind (wpAny_callSpecial?_slot (name:=Str.ofString "__getitem__") ht.typeIs PyProof.Rows.slot_tuple_getitem
  (wpAny_call_entry PyProof.Rows.slot_tuple_getitem ht.typeIs entry_tuple_getitem ?_ (args_tuple_getitem _ _)))
 show wpAny _ _ (Builtin.Tuple.tupleItemsOf (.ref t) >>= _) _ _ s
 refine wpAny_bind (tupleItemsOf_ ht ?_)
 refine wpAny_bind (wpAny_typeOf hTs ?_)
 rw[if_pos (by decide)]
 refine wpAny_bind (c5 hs pl pu ?_)
 have hno:¬ ((((sIx items.size 0 lo:Nat):Int)==0&&(1:Int)==1&&(sIx items.size items.size hi - sIx items.size 0 lo)==items.size)=true):=by
  intro q
  rw[Bool.and_eq_true,Bool.and_eq_true]at q
  have q1:((sIx items.size 0 lo:Nat):Int)=0:=eq_of_beq q.1.1
  have q2:sIx items.size items.size hi - sIx items.size 0 lo=items.size:=eq_of_beq q.2
  exact hw ⟨by omega,by omega⟩
 show wpAny _ _ (if (((sIx items.size 0 lo:Nat):Int)==0&&(1:Int)==1&&(sIx items.size items.size hi - sIx items.size 0 lo)==items.size)=true then _ else _) _ _ s
 rw[if_neg hno,pG]
 first
  | exact wpAny_bind (m:=Builtin.Tuple.tupleExact _) (wpAny_newObj_type (wpAny_pure ⟨_,rfl,wpAny_pure h⟩) htake)
  | exact wpAny_bind (m:=Builtin.Tuple.tupleExact _) (wpAny_newObj_type (wpAny_bind (wpAny_pure (wpAny_pure ⟨_,rfl,wpAny_pure h⟩))) htake)
  | exact wpAny_bind (wpAny_bind (m:=Builtin.Tuple.tupleExact _) (wpAny_newObj_type (wpAny_pure (wpAny_pure ⟨_,rfl,wpAny_pure h⟩)) htake))
  | exact wpAny_bind (wpAny_bind (m:=Builtin.Tuple.tupleExact _) (wpAny_newObj_type (wpAny_pure ⟨_,rfl,wpAny_pure h⟩) htake))
end
end HT
namespace L2
open PySem PySem.Spec PyProof.Rows
abbrev TO:=St→Hp→(Option Int→Hp→Prop)→Prop
def PO (X:Cx)(e:Option Expr)(t:TO):Prop :=
 ∀ (pins:List (Addr×Obj)) (s:Shared) (σ:St) (H:Hp) (Q:Option Int→Hp→Prop),Inv X pins σ H s→t σ H Q →
  wpAny (model X.prog X.w) X.A (evalPart e X.env) (fun u s'=>∃ o H',Inv X pins σ H' s'∧IsPart u o∧Q o H') X.xe s
def tNoPart:TO:=fun _ H Q=>Q none H
def tPart (t:TE):TO:=fun σ H Q=>t σ H fun x H1=>∃ i,x=.int i∧Q (some i) H1
section
variable {X:Cx}{e:Expr}{te:TE}{lo hi:Option Expr}{tl th:TO}{pos p2:Pos}
theorem rH:PO X none tNoPart:=by
 intro pins s σ H Q I h
 rw[evalPart_none]
 exact wpAny_pure ⟨none,H,I,.none,h⟩
theorem rJ (h:PE X e te):PO X (some e) (tPart te):=by
 intro pins s σ H Q I hw
 rw[evalPart_some]
 refine thn (h pins s σ H _ I hw) fun u s1 ⟨x,H1,I1,r1,q1⟩=>?_
 obtain⟨i,rfl,q⟩:=q1
 obtain⟨t,rfl⟩:=r1
 exact⟨some i,H1,I1,.int i t,q⟩
def SlR (X:Cx)(r:V→Option Int→Option Int→Hp→VK→Prop):Prop :=
 ∀ (pins:List (Addr×Obj)) (s:Shared) (σ:St) (H:Hp) (x:V) (v vl vu:Value) (lo hi:Option Int) (sl:Addr) (Q:VK),Inv X pins σ H s→RelV x v→s.heap.IsSliceOf sl vl vu .none→IsPart vl lo→IsPart vu hi→r x lo hi H Q →
  ∃ T id,typeLookup (.type T) "__getitem__"=pure (some (.builtin id))∧s.TypeIs v T∧wpAny (model X.prog X.w) X.A (getItem v (.ref sl)) (EP X pins σ Q) X.xe s
theorem SlR.or {r r':V→Option Int→Option Int→Hp→VK→Prop}(h:SlR X r)(h':SlR X r'):SlR X (fun x lo hi H Q=>r x lo hi H Q∨r' x lo hi H Q):=by
 intro pins s σ H x v vl vu lo hi sl Q I rx hs pl pu q
 rcases q with q | q
 ·exact h pins s σ H x v vl vu lo hi sl Q I rx hs pl pu q
 ·exact h' pins s σ H x v vl vu lo hi sl Q I rx hs pl pu q
def tSl (r:V→Option Int→Option Int→Hp→VK→Prop)(te:TE)(tl th:TO):TE:=fun σ H Q=>te σ H fun x H1=>tl σ H1 fun l H2=>th σ H2 fun u H3=>r x l u H3 Q
theorem pH {r:V→Option Int→Option Int→Hp→VK→Prop}(hr:SlR X r)(he:PE X e te)(hl:PO X lo tl)(hu:PO X hi th):PE X (.Subscript e (.Slice lo hi none p2) pos) (tSl r te tl th):=by
 intro pins s σ H Q I h
 refine Subscript_ (thn (he pins s σ H _ I h) fun v s1 ⟨x,H1,I1,r1,q1⟩=>?_)
 refine wpAny_Slice (thn (hl pins s1 σ H1 _ I1 q1) fun vl s2 ⟨l,H2,I2,pl,q2⟩=>thn (hu pins s2 σ H2 _ I2 q2) fun vu s3 ⟨u,H3,I3,pu,q3⟩=>?_)
 rw[evalPart_none]
 refine wpAny_pure ?_
 have I4:Inv X pins σ H3 { s3 with heap:=s3.heap.push { cls:=.type "slice",data:=.fields #[vl,vu,.none] } }:=I3.kept (t':=s3.toks) fun b ob q=>Heap.get?_push_of_some _ q
 obtain⟨T,id,hT,ht,hg⟩:=hr pins { s3 with heap:=s3.heap.push { cls:=.type "slice",data:=.fields #[vl,vu,.none] } } σ H3 x v vl vu l u s3.heap.objs.size Q I4 r1 (Heap.IsSliceOf.new ..) pl pu q3
 show wpAny (model X.prog X.w) X.A (subscriptTail e (.Slice lo hi none p2) v (.ref s3.heap.objs.size)) (EP X pins σ Q) X.xe { s3 with heap:=s3.heap.push { cls:=.type "slice",data:=.fields #[vl,vu,.none] } }
 exact tail_any (ops:=[.ref s3.heap.objs.size,v]) ht hT hg (by with_unfolding_all rfl)
def cutV (xs:List V)(lo hi:Option Int):List V:=(xs.drop (HT.sIx xs.length 0 lo)).take (HT.sIx xs.length xs.length hi - HT.sIx xs.length 0 lo)
theorem gu (xs:List V)(lo hi:Option Int):(cutV xs lo hi).length≤xs.length:=by
 unfold cutV
 rw[List.length_take,List.length_drop]
 omega
def rSlT (K:PySem.W.Frag):V→Option Int→Option Int→Hp→VK→Prop:=fun x lo hi H Q=>∃ a xs,x=.ref a∧SqT K H a xs ∧
 ¬ (HT.sIx xs.length 0 lo=0∧HT.sIx xs.length xs.length hi=xs.length)∧∀ p,H p=none→Q (.ref p) (upd H p (.tup (cutV xs lo hi)))
theorem uq:SlR X (rSlT X.K):=by
 intro pins s σ H x v vl vu lo hi sl Q I rx hs pl pu h
 obtain⟨a,xs,rfl,hx,hw,q⟩:=h
 cases rx
 obtain⟨its,r,ht,hz⟩:=I.tuple hx
 have hlen:its.toArray.size=xs.length:=by rw[List.size_toArray];exact r.length.symm
 refine⟨"tuple",_,PyProof.Rows.slot_tuple_getitem.lookup,ht.typeIs,?_⟩
 refine HT.eV ht hs pl pu (by rw[hlen];exact hw) ?_ (by rw[hlen];exact hz)
 rw[hlen]
 refine⟨.ref s.heap.objs.size,_,I.laid (t':=s.toks) (o:=.tup (cutV xs lo hi)) (fun b ob q=>Heap.get?_push_of_some _ q) (Nat.le_refl _) ?_,rfl,q _ (I.hok.fresh (Nat.le_refl _))⟩
 exact⟨Nat.le_trans (gu xs lo hi) hz,_,(r.drop (HT.sIx xs.length 0 lo)).take (HT.sIx xs.length xs.length hi - HT.sIx xs.length 0 lo),TupO.new _ _⟩
def rCatT (K:PySem.W.Frag):R2:=fun x y H Q=>∃ a b xs ys,x=.ref a∧y=.ref b∧SqT K H a xs∧SqT K H b ys∧xs≠[]∧xs.length+ys.length≤sizeLine ∧
 (ys=[]→Q (.ref a) H)∧(ys≠[]→∀ p,H p=none→Q (.ref p) (upd H p (.tup (xs++ys))))
theorem Vals.nil_iff {xs:List V}{us:List Value}(r:Vals xs us):us=[]↔xs=[]:=by
 cases r with
 | nil=>simp
 | cons _ _=>simp
theorem rK:OpR X (binaryOp .Add) (rCatT X.K):=by
 intro pins s σ H x y v u Q I rx ry h
 obtain⟨a,b,xs,ys,rfl,rfl,ha,hb,hx,hz,q1,q2⟩:=h
 cases rx
 cases ry
 obtain⟨its,r1,p1,_⟩:=I.tuple ha
 obtain⟨its2,r2,p2,_⟩:=I.tuple hb
 refine HT.rG p1 p2 (fun z=>hx (r1.nil_iff.mp z)) (fun z=>⟨.ref a,H,I,rfl,q1 (r2.nil_iff.mp z)⟩) (fun z=>?_) (by rw[← r1.length,← r2.length];exact hz)
 refine⟨.ref s.heap.objs.size,_,I.laid (t':=s.toks) (o:=.tup (xs++ys)) (fun b ob q=>Heap.get?_push_of_some _ q) (Nat.le_refl _) ?_,rfl,q2 (fun w=>z (r2.nil_iff.mpr w)) _ (I.hok.fresh (Nat.le_refl _))⟩
 exact⟨by rw[List.length_append];exact hz,_,r1.append r2,TupO.new _ _⟩
end
end L2
namespace L2
open PySem PySem.Spec PyProof.Rows
def ixN (n:Nat)(i:Int):Option Nat:=if 0≤i then (if i < n then some i.toNat else none) else if -(n:Int)≤i then some (i+n).toNat else none
def atI {α:Type}(xs:List α)(i:Int):Option α:=(ixN xs.length i).bind fun j=>xs[j]?
theorem rL {n:Nat}{i:Int}{j:Nat}(h:ixN n i=some j):seqIndex? i n=some j∧j < n∧-(n:Int)≤i∧i < n:=by
 unfold ixN at h
 by_cases h0:0≤i
 ·rw[if_pos h0]at h
  by_cases h1:i < n
  ·rw[if_pos h1]at h
   have e:i.toNat=j:=Option.some.inj h
   exact⟨by rw[seqIndex_of h0 h1,e],by omega,by omega,h1⟩
  ·rw[if_neg h1]at h;cases h
 ·rw[if_neg h0]at h
  by_cases h1 : -(n:Int)≤i
  ·rw[if_pos h1]at h
   have e:(i+n).toNat=j:=Option.some.inj h
   exact⟨by rw[seqIndex_neg (by omega) h1,e],by omega,h1,by omega⟩
  ·rw[if_neg h1]at h;cases h
theorem j6 {α:Type}{xs:List α}{i:Int}{v:α}(h:atI xs i=some v):∃ j,seqIndex? i xs.length=some j∧xs[j]?=some v∧j < xs.length∧-(xs.length:Int)≤i∧i < xs.length:=by
 unfold atI at h
 cases e:ixN xs.length i with
 | none=>rw[e]at h;cases h
 | some j =>
  rw[e]at h
  obtain⟨h1,h2,h3,h4⟩:=rL e
  exact⟨j,h1,h,h2,h3,h4⟩
theorem j7 {α:Type}{xs:List α}{j:Nat}{v:α}(h:xs[j]?=some v):atI xs (j:Int)=some v:=by
 have hj:j < xs.length:=(List.getElem?_eq_some_iff.mp h).1
 have e:ixN xs.length (j:Int)=some j:=by
  unfold ixN
  rw[if_pos (by omega),if_pos (by omega)];simp
 unfold atI;rw[e];exact h
def PlainIx (b:Expr):Prop:=∀ o i,subscripted b false o i=operate [o,i] (getItem o i)
def IxR (X:Cx)(r:R2):Prop :=
 ∀ (value slice:Expr) (pins:List (Addr×Obj)) (s:Shared) (σ:St) (H:Hp) (x y:V) (v u:Value) (Q:VK),Inv X pins σ H s→RelV x v→RelV y u→r x y H Q →
  subscripted slice false v u=operate [v,u] (getItem v u)→wpAny (model X.prog X.w) X.A (subscriptTail value slice v u) (EP X pins σ Q) X.xe s
def MtR (X:Cx)(id:String)(r:V→List V→Hp→VK→Prop):Prop :=
 ∀ (pins:List (Addr×Obj)) (s:Shared) (σ:St) (H:Hp) (x:V) (xs:List V) (v:Value) (us:List Value) (Q:VK),Inv X pins σ H s→RelV x v→Vals xs us→r x xs H Q →
  wpAny (model X.prog X.w) X.A (call (.builtin id) (v::us)) (EP X pins σ Q) X.xe s
section
variable {X:Cx}{a b:Expr}{ta tb:TE}{pos:Pos}
theorem IxR.or {r r':R2}(h:IxR X r)(h':IxR X r'):IxR X (fun x y H Q=>r x y H Q∨r' x y H Q):=by
 intro value slice pins s σ H x y v u Q I rx ry q hs
 rcases q with q | q
 ·exact h value slice pins s σ H x y v u Q I rx ry q hs
 ·exact h' value slice pins s σ H x y v u Q I rx ry q hs
theorem tK {r:R2}(hr:IxR X r)(ha:PE X a ta)(hb:PE X b tb)(hs:PlainIx b):PE X (.Subscript a b pos) (tOp r ta tb):=by
 intro pins s σ H Q I h
 exact Subscript_ (binT ha hb I h fun v u s2 x y H2 I2 rx ry q=>hr a b pins s2 σ H2 x y v u Q I2 rx ry q (hs _ _))
def rIxL (K:PySem.W.Frag):R2:=fun x y H Q=>∃ p xs i v,x=.ref p∧y=.int i∧SqL K H p xs∧atI xs i=some v∧Q v H
def rIxT (K:PySem.W.Frag):R2:=fun x y H Q=>∃ p xs i v,x=.ref p∧y=.int i∧SqT K H p xs∧atI xs i=some v∧Q v H
def rIxS:R2:=fun x y H Q=>∃ z i c,x=.str z∧y=.int i∧z.length≤sizeLine∧atI z.cps.toList i=some c∧Q (.str ⟨#[c]⟩) H
theorem nq:IxR X (rIxL X.K):=by
 intro value slice pins s σ H x y v u Q I rx ry h hs
 obtain⟨p,xs,i,z,rfl,rfl,hq,he,q⟩:=h
 cases rx
 obtain⟨t,rfl⟩:=ry
 obtain⟨its,r,pl,hz⟩:=I.list hq
 obtain⟨j,h1,h2,h3,h4,h5⟩:=j6 he
 obtain⟨w,ew,rw'⟩:=r.get h2
 have hl:=r.length
 have hn:=line63
 have fin:EP X pins σ Q w s:=⟨z,H,I,rw',q⟩
 by_cases h0:0≤i
 ·have hj:i.toNat=j:=by
   rw[seqIndex_of h0 h5]at h1
   exact Option.some.inj h1
  exact item_listR pl.isList h0 (by omega) (by rw[hj];simpa using ew) fin hs
 ·have hj:(i+(its.toArray.size:Int)).toNat=j:=by
   rw[seqIndex_neg (by omega) h4]at h1
   rw[List.size_toArray,← hl]
   exact Option.some.inj h1
  exact subscriptTail_builtinR (x:=w) pl.isList.typeIs slot_list_getitem.lookup
   (wpAny_getItem_list_neg (Q:=fun r s'=>r=w∧EP X pins σ Q r s') pl.isList (by omega) (by rw[List.size_toArray]<;>omega) (by omega) (by rw[hj];simpa using ew) ⟨rfl,fin⟩) hs
theorem ur:IxR X (rIxT X.K):=by
 intro value slice pins s σ H x y v u Q I rx ry h hs
 obtain⟨p,xs,i,z,rfl,rfl,hq,he,q⟩:=h
 cases rx
 obtain⟨t,rfl⟩:=ry
 obtain⟨its,r,pl,hz⟩:=I.tuple hq
 obtain⟨j,h1,h2,h3,h4,h5⟩:=j6 he
 obtain⟨w,ew,rw'⟩:=r.get h2
 have hl:=r.length
 have hn:=line63
 have fin:EP X pins σ Q w s:=⟨z,H,I,rw',q⟩
 exact subscriptTail_builtinR (x:=w) pl.typeIs slot_tuple_getitem.lookup
  (getItem_tuple (j:=j) (Q:=fun r s'=>r=w∧EP X pins σ Q r s') pl (by omega) (by omega) (by rw[List.size_toArray,← hl];exact h1) (by simpa using ew) ⟨rfl,fin⟩) hs
theorem ut:IxR X rIxS:=by
 intro value slice pins s σ H x y v u Q I rx ry h hs
 obtain⟨z,i,c,rfl,rfl,hz,he,q⟩:=h
 obtain⟨t,rfl⟩:=rx
 obtain⟨t',rfl⟩:=ry
 obtain⟨j,h1,h2,h3,h4,h5⟩:=j6 he
 have hl:z.cps.toList.length=z.length:=by simp[Str.length]
 rw[hl]at h1 h4 h5
 have hn:=line63
 exact tail_any (typeIs_str s z t) slot_str_getitem.lookup (getItem_str (c:=c) (by
  have e1:decide (i < -(2^63:Int))=false:=decide_eq_false (by omega)
  have e2:decide (i≥2^63)=false:=decide_eq_false (by omega)
  rw[e1,e2,Bool.or_false]) (by rw[h1];simpa using h2) ⟨.str ⟨#[c]⟩,H,I.tok _,⟨_,rfl⟩,q⟩) hs
def rIx (K:PySem.W.Frag):R2:=fun x y H Q=>rIxL K x y H Q∨rIxT K x y H Q∨rIxS x y H Q
theorem uu:IxR X (rIx X.K):=nq.or (ur.or ut)
theorem j8 (lo hi:Option Int)(n:Nat):(sliceBounds lo hi none n).1=((HT.sIx n 0 lo:Nat):Int)∧(sliceBounds lo hi none n).2.1=((HT.sIx n n hi:Nat):Int)∧(sliceBounds lo hi none n).2.2=1:=by
 refine⟨?_,?_,rfl⟩
 ·cases lo with
  | none=>simp[sliceBounds,HT.sIx]
  | some i =>
   simp only[sliceBounds,HT.sIx,Option.getD_none,show (1:Int) > 0 by decide,if_true]
   by_cases h:i < 0
   ·simp only[h,if_true]<;>omega
   ·simp only[h,if_false]<;>omega
 ·cases hi with
  | none=>simp[sliceBounds,HT.sIx]
  | some i =>
   simp only[sliceBounds,HT.sIx,Option.getD_none,show (1:Int) > 0 by decide,if_true]
   by_cases h:i < 0
   ·simp only[h,if_true]<;>omega
   ·simp only[h,if_false]<;>omega
theorem je (its:List Value)(lo hi:Option Int):slicePick its.toArray lo hi none=((its.drop (HT.sIx its.length 0 lo)).take (HT.sIx its.length its.length hi - HT.sIx its.length 0 lo)).toArray:=by
 obtain⟨h1,h2,h3⟩:=j8 lo hi its.toArray.size
 unfold slicePick
 rw[h1,h2,h3]
 simp only[sliceRange_one,pick_run,List.size_toArray]<;>rfl
def rSlL (K:PySem.W.Frag):V→Option Int→Option Int→Hp→VK→Prop:=fun x lo hi H Q=>∃ a xs,x=.ref a∧SqL K H a xs∧∀ p,H p=none→Q (.ref p) (upd H p (.lst (cutV xs lo hi)))
theorem rM:SlR X (rSlL X.K):=by
 intro pins s σ H x v vl vu lo hi sl Q I rx hs pl pu h
 obtain⟨a,xs,rfl,hx,q⟩:=h
 cases rx
 obtain⟨its,r,ht,hz⟩:=I.list hx
 have hlen:=r.length
 refine⟨"list",_,slot_list_getitem.lookup,ht.isList.typeIs,?_⟩
 refine wpAny_getItem_list_slice ht.isList hs pl pu .none (by simp) ?_ (by rw[List.size_toArray]<;>omega)
 rw[je,← hlen]
 refine⟨.ref s.heap.objs.size,_,I.laid (t':=s.toks) (o:=.lst (cutV xs lo hi)) (fun b ob q=>Heap.get?_push_of_some _ q) (Nat.le_refl _) ?_,rfl,q _ (I.hok.fresh (Nat.le_refl _))⟩
 exact⟨Nat.le_trans (gu xs lo hi) hz,_,0,(r.drop (HT.sIx xs.length 0 lo)).take (HT.sIx xs.length xs.length hi - HT.sIx xs.length 0 lo),Heap.get?_push_size _ rfl⟩
def flatV:V→Bool
 | .non=>true
 | .bl _=>true
 | .int _=>true
 | .str _=>true
 | _=>false
def eqV:V→V→Bool
 | .non,.non=>true
 | .bl a,.bl b=>a==b
 | .bl a,.int b=>(if a then 1 else 0)==b
 | .int a,.bl b=>a==(if b then 1 else 0)
 | .int a,.int b=>a==b
 | .str a,.str b=>a==b
 | _,_=>false
theorem pI {A:Around}{s:Shared}{y x:V}{u v:Value}(ry:RelV y u)(rx:RelV x v)(fy:flatV y=true)(fx:flatV x=true):SeqAt.EqAt A s u v (eqV y x):=by
 cases y with
 | non =>
  cases ry
  cases x with
  | non=>cases rx;exact SeqAt.EqAt.same _
  | bl b=>cases rx;exact SeqAt.EqAt.none_bool b
  | int b=>obtain⟨t,rfl⟩:=rx;exact SeqAt.EqAt.none_int b t
  | str b=>obtain⟨t,rfl⟩:=rx;exact SeqAt.EqAt.none_str b t
  | _=>exact absurd (show false=true from fx) Bool.false_ne_true
 | bl a =>
  cases ry
  cases x with
  | non=>cases rx;exact SeqAt.EqAt.bool_none a
  | bl b=>cases rx;exact SeqAt.EqAt.bool_bool a b
  | int b=>obtain⟨t,rfl⟩:=rx;exact SeqAt.EqAt.bool_int a b t
  | str b=>obtain⟨t,rfl⟩:=rx;exact SeqAt.EqAt.bool_str a b t
  | _=>exact absurd (show false=true from fx) Bool.false_ne_true
 | int a =>
  obtain⟨t',rfl⟩:=ry
  cases x with
  | non=>cases rx;exact SeqAt.EqAt.int_none a t'
  | bl b=>cases rx;exact SeqAt.EqAt.int_bool a t' b
  | int b=>obtain⟨t,rfl⟩:=rx;exact SeqAt.EqAt.int_int a t' b t
  | str b=>obtain⟨t,rfl⟩:=rx;exact SeqAt.EqAt.int_str a t' b t
  | _=>exact absurd (show false=true from fx) Bool.false_ne_true
 | str a =>
  obtain⟨t',rfl⟩:=ry
  cases x with
  | non=>cases rx;exact SeqAt.EqAt.str_none a t'
  | bl b=>cases rx;exact SeqAt.EqAt.str_bool a t' b
  | int b=>obtain⟨t,rfl⟩:=rx;exact SeqAt.EqAt.str_int a t' b t
  | str b=>obtain⟨t,rfl⟩:=rx;exact SeqAt.EqAt.str_str a t' b t
  | _=>exact absurd (show false=true from fx) Bool.false_ne_true
 | _=>exact absurd (show false=true from fy) Bool.false_ne_true
theorem j9:CallR X (.builtin "len") (fun xs H Q=>∃ p ys,xs=[.ref p]∧(SqL X.K H p ys∨SqT X.K H p ys)∧Q (.int ys.length) H):=by
 intro pins s σ H xs us Q I r h
 obtain⟨p,ys,rfl,hq,q⟩:=h
 obtain⟨u,rfl,rx⟩:=vals1 r
 cases rx
 have hn:=line63
 rcases hq with hq | hq
 ·obtain⟨its,r',pl,hz⟩:=I.list hq
  have hlen:=r'.length
  exact Calls.call_len_list pl.isList (by simp only[List.size_toArray]<;>omega) ⟨.int ys.length,H,I.tok _,⟨s.toks+1,by rw[List.size_toArray,hlen]⟩,q⟩
 ·obtain⟨its,r',pl,hz⟩:=I.tuple hq
  have hlen:=r'.length
  exact len_tuple pl (by simp only[List.size_toArray]<;>omega) ⟨.int ys.length,H,I.tok _,⟨s.toks+1,by rw[List.size_toArray,hlen]⟩,q⟩
theorem jf:CallR X (.type "tuple") (fun xs H Q=>∃ p ys,xs=[.ref p]∧((SqL X.K H p ys∧∀ l,H l=none→Q (.ref l) (upd H l (.tup ys)))∨(SqT X.K H p ys∧Q (.ref p) H))):=by
 intro pins s σ H xs us Q I r h
 obtain⟨p,ys,rfl,h⟩:=h
 obtain⟨u,rfl,rx⟩:=vals1 r
 cases rx
 rcases h with ⟨hq,q⟩ | ⟨hq,q⟩
 ·obtain⟨its,r',pl,hz⟩:=I.list hq
  have hlen:=r'.length
  refine call_tuple_list pl.isList (fun h' kp=>?_) (by simp only[List.size_toArray]<;>omega)
  have I1:Inv X pins σ H { s with heap:=h' }:=I.kept (t':=s.toks) kp
  have I2:Inv X pins σ (upd H h'.objs.size (.tup ys)) { s with heap:=h'.push { cls:=.type "tuple",data:=.seq its.toArray } } :=
   I1.laid (t':=s.toks) (fun b o e=>Heap.get?_push_of_some _ e) (Nat.le_refl _) (show ObjOk X.prog X.w _ _ _ (.tup ys) from ⟨hz,its,r',TupO.new _ _⟩)
  exact⟨.ref h'.objs.size,_,I2,rfl,q _ (I1.hok.fresh (Nat.le_refl _))⟩
 ·obtain⟨its,r',pl,hz⟩:=I.tuple hq
  exact call_tuple_same pl ⟨.ref p,H,I,rfl,q⟩
def tyV (K:PySem.W.Frag)(T:String)(x:V)(H:Hp):Prop:=match x with
 | .str _=>T="str"
 | .int _=>T="int"
 | .ref p=>(T="list" ∧ ∃ xs,SqL K H p xs)∨(T="tuple" ∧ ∃ o,K.lookup p=some o∧o.cls=.type "tuple" ∧ o.dict=none) ∨
   (T="dict" ∧ ((∃ kvs,H p=some (.dK kvs))∨∃ kvs,H p=some (.dT kvs)))∨(T="set" ∧ ∃ S n,H p=some (.set S n))
 | _=>False
theorem uv {pins:List (Addr×Obj)}{σ:St}{H:Hp}{s:Shared}{T:String}{x:V}{v:Value}(I:Inv X pins σ H s)(r:RelV x v)(ty:tyV X.K T x H) :
  s.TypeIs v T∧∀ a,v=.ref a→∃ ob,s.heap.get? a=some ob∧ob.dict=none:=by
 cases x with
 | str z =>
  obtain⟨t,rfl⟩:=r
  cases (show T="str" from ty)
  exact⟨typeIs_str s z t,fun _ e=>nomatch e⟩
 | int i =>
  obtain⟨t,rfl⟩:=r
  cases (show T="int" from ty)
  exact⟨typeIs_int s i t,fun _ e=>nomatch e⟩
 | ref p =>
  cases r
  rcases ty with ⟨rfl,xs,hq⟩ | ⟨rfl,o,hk,hc,hd⟩ | ⟨rfl,hk⟩ | ⟨rfl,S,n,hk⟩
  ·obtain⟨its,_,pl,_⟩:=I.list hq
   refine⟨pl.isList.typeIs,fun a e=>?_⟩
   cases e
   obtain⟨o,n,e,c,hd,_⟩:=pl
   exact⟨o,e,hd⟩
  ·refine⟨⟨o,I.kIn p o hk,hc⟩,fun a e=>?_⟩
   cases e
   exact⟨o,I.kIn _ o hk,hd⟩
  ·have z:∃ o,s.heap.get? p=some o∧o.ExactDict:=by
    rcases hk with ⟨kvs,hk⟩ | ⟨kvs,hk⟩
    ·obtain⟨_,_,_,_,o,_,_,e,ex,_⟩:=I.hok p _ hk
     exact⟨o,e,ex⟩
    ·obtain⟨_,_,_,_,o,_,_,e,ex,_⟩:=I.hok p _ hk
     exact⟨o,e,ex⟩
   obtain⟨o,e,ex⟩:=z
   refine⟨⟨o,e,ex.1⟩,fun a e2=>?_⟩
   cases e2
   exact⟨o,e,ex.2.1⟩
  ·obtain⟨o,_,_,_,e,ex,_⟩:=I.hok p _ hk
   refine⟨⟨o,e,ex.1⟩,fun a e2=>?_⟩
   cases e2
   exact⟨o,e,ex.2.1⟩
 | _=>exact False.elim ty
def tBM (K:PySem.W.Frag)(T:String)(r:V→List V→Hp→VK→Prop)(to:TE)(t:TA):TE:=fun σ H Q=>to σ H fun x H1=>tyV K T x H1∧t σ H1 fun xs H2=>r x xs H2 Q
variable {o e:Expr}{es:List Expr}{to:TE}{t:TA}{name:Str}{apos cpos:Pos}{T id:String}{r:V→List V→Hp→VK→Prop}
theorem kQ (pa:PlainAttrs T)(slot:Slot T name id)(hty:typeOf (.builtin id)=pure (.type "method_descriptor"))(hm:MtR X id r)(ho:PE X o to)(ha:PA X (e::es) t)
  (hbase:attributeBase o name X.env (eval o X.env)=eval o X.env:=by rfl)
  (hfew:((backTo cpos (starEach (e::es) X.env)).all (fun x=>!x.1)&&(backToKw cpos (keywordEach [] X.env)).all (fun x=>x.1.isSome)
   && decide ((e::es).length+([]:List Keyword).length+(if ([]:List Keyword).isEmpty then 0 else 1) < 30))=true:=by rfl)
  (hline:(apos.endLine==cpos.line)=true:=by rfl) (hs:starEach (e::es) X.env=(false,eval e X.env)::starEach es X.env:=by rfl) (hplain:(backTo cpos (starEach es X.env)).any (·.1)=false:=by rfl) :
  PE X (.Call (.Attribute o name apos) (e::es) [] cpos) (tBM X.K T r to t):=by
 intro pins s σ H Q I h
 refine wpAny_Call_method_late hbase hfew hline rfl (thn (ho pins s σ H _ I h) fun v s1 ⟨x,H1,I1,r1,ty,q1⟩=>?_)
 obtain⟨h1,h2⟩:=uv I1 r1 ty
 refine⟨T,id,pa,slot,hty,h1,h2,?_⟩
 have hA:=ha cpos pins s1 σ H1 _ I1 q1
 rw[hs]at hA ⊢
 refine Calls.callWith_builtin (by show (false||(backTo cpos (starEach es X.env)).any (·.1))=false;rw[hplain]<;>rfl) (Calls.evalArgs_plain ?_)
 exact thn hA fun us s2 ⟨vs,H2,I2,r2,q2⟩=>hm pins s2 σ H2 x vs v us Q I2 r1 r2 q2
end
end L2
namespace L2
open PySem PySem.Spec PyProof.Rows
def MtM (X:Cx)(id:String)(r:V→List V→Hp→VK→Prop):Prop :=
 ∀ (pins:List (Addr×Obj)) (s:Shared) (σ:St) (H:Hp) (x:V) (xs:List V) (v:Value) (us:List Value) (Q:VK),Inv X pins σ H s→RelV x v→Vals xs us→r x xs H Q →
  wpAny (model X.prog X.w) X.A (call (.builtin id) (v::us)) (EP X pins σ Q) X.xe s
theorem Vals.one:∀ {x:V} {us:List Value},Vals [x] us→∃ u,us=[u]∧RelV x u
 | _,_,.cons r .nil=>⟨_,rfl,r⟩
theorem Vals.rep {xs:List V}{us:List Value}(h:Vals xs us):∀ k:Nat,Vals (List.replicate k xs).flatten (List.replicate k us).flatten
 | 0=>.nil
 | k+1=>by
  rw[List.replicate_succ,List.replicate_succ,List.flatten_cons,List.flatten_cons]
  exact Vals.append h (Vals.rep h k)
theorem fF (its:List Value):∀ (k:Nat) (acc:List Value),
  List.foldl (fun x1 x2=>x1++x2) acc.toArray (List.replicate k its.toArray)=(acc++(List.replicate k its).flatten).toArray
 | 0,acc=>by simp
 | k+1,acc=>by
  have e:acc.toArray++its.toArray=(acc++its).toArray:=by simp
  have e2:(acc++its)++(List.replicate k its).flatten=acc++(List.replicate (k+1) its).flatten:=by
   rw[List.replicate_succ,List.flatten_cons,List.append_assoc]
  rw[← e2,← fF its k (acc++its),← e,List.replicate_succ,List.foldl_cons]
section
variable {X:Cx}{pins:List (Addr×Obj)}{σ:St}{H:Hp}{s:Shared}{l b:Addr}{xs ys zs:List V}
theorem Inv.lset {its its':List Value}{n:Nat}{f:Array Value→Array Value}{t':Nat}(I:Inv X pins σ H s)(hH:H l=some (.lst xs))
  (e:s.heap.get? l=some { cls:=.type "list",data:=.seq its.toArray n }) (hf:f its.toArray=its'.toArray) (hv:Vals ys its') (hz:ys.length≤sizeLine) :
  Inv X pins σ (upd H l (.lst ys)) { s with heap:=s.heap.update l (Obj.mapSeq f),toks:=t' }:=by
 have q:=PySem.IsL.update e f
 rw[hf]at q
 refine I.write (x:=l) (e:=l) (by rw[hH];exact trivial) (.inl rfl) (fun b' u hb hu=>(Heap.get?_update_other s.heap (Obj.mapSeq f) (Ne.symm hb)).trans hu) ⟨_,q⟩ ?_
 exact⟨hz,its',_,hv,q⟩
theorem Inv.lnew {its:List Value}{t':Nat}(I:Inv X pins σ H s)(hv:Vals ys its)(hz:ys.length≤sizeLine) :
  Inv X pins σ (upd H s.heap.objs.size (.lst ys)) { s with heap:=s.heap.push { cls:=.type "list",data:=.seq its.toArray },toks:=t' } :=
 I.laid (fun _ _ q=>Heap.get?_push_of_some _ q) (Nat.le_refl _) ⟨hz,its,0,hv,Heap.get?_push_size _ rfl⟩
theorem Inv.fresh (I:Inv X pins σ H s):H s.heap.objs.size=none:=I.hok.fresh (Nat.le_refl _)
theorem Inv.lstM (I:Inv X pins σ H s)(hH:H l=some (.lst xs)):xs.length≤sizeLine∧∃ (its:List Value) (n:Nat),Vals xs its∧xs.length=its.length∧s.heap.get? l=some { cls:=.type "list",data:=.seq its.toArray n }:=by
 obtain⟨z,its,n,r,e⟩:=I.hok l _ hH
 exact⟨z,its,n,r,r.length,e⟩
theorem notLongL {n:Nat}(h:n≤sizeLine):Builtin.List.listTooLong n=false:=by
 unfold Builtin.List.listTooLong
 exact decide_eq_false (by omega)
end
section
variable {X:Cx}
def rAppend:V→List V→Hp→VK→Prop:=fun x vs H Q=>∃ l xs y,x=.ref l∧vs=[y]∧H l=some (.lst xs)∧xs.length < sizeLine∧Q .non (upd H l (.lst (xs++[y])))
theorem fG:MtM X "list.append" rAppend:=by
 intro pins s σ H x vs v us Q I rx rv h
 obtain⟨l,xs,y,rfl,rfl,hH,hz,q⟩:=h
 cases rx
 obtain⟨u,rfl,ru⟩:=rv.one
 obtain⟨z,its,n,r,hl,e⟩:=I.lstM hH
 refine call_meets F.slot_list_append ⟨_,e,rfl⟩ F.entry_list_append (F.args_list_append_2 _ _) (PySem.list_append l its.toArray n u (by rw[List.size_toArray];omega)) ⟨e,?_⟩
 refine⟨.non,_,I.lset (its':=its++[u]) hH e (by simp) (r.append (.cons ru .nil)) ?_,rfl,q⟩
 rw[List.length_append,List.length_singleton]
 omega
theorem nr {α:Type}(xs:List α)(k:Nat):(List.replicate k xs).flatten.length=k*xs.length:=by
 induction k with
 | zero=>simp
 | succ k ih=>rw[List.replicate_succ,List.flatten_cons,List.length_append,ih,Nat.succ_mul,Nat.add_comm]
end
section
variable {prog:Program}{w:World}{A:Around}{E:Value→Shared→Prop}{s:Shared}
set_option maxRecDepth 100000 in
end
section
variable {X:Cx}
end
end L2
namespace Att
open PySem PySem.W PySem.Calls PyProof.Rows
theorem gH {P:Params}{h:Heap}:∀ (ns:List Int) (vs:List Value),WellAll P h vs (ns.map WData.int)→IntsAre vs ns:=by
 intro ns
 induction ns with
 | nil =>
  intro vs w
  rw[List.map_nil]at w
  cases w
  exact .nil
 | cons n ns ih =>
  intro vs w
  rw[List.map_cons]at w
  cases w with
  | cons a b =>
   cases a
   exact .cons _ _ (ih _ b)
theorem n4 {l:OpenLaw}{n:Nat}(hn:l.most=some n){P:Params}{h:Heap}{args:List WData}{vals:List Value}
  (hpre:l.row.toRowW.claim.pre args=true) (hwl:WellAll P h vals args) :
  ∃ a vs ns,vals=[Value.ref a]∧args=[WData.list (ns.map WData.int)]∧h.get? a=some { cls:=.type "list",data:=.seq vs.toArray }∧IntsAre vs ns∧ns.length≤n:=by
 have hsh:WShape.hasAll [] args [.list .int]=true:=(pre_splitW hpre).1
 have hc:l.pre.holds [] { args:=args }=true:=(pre_splitW hpre).2
 obtain⟨d,r,rfl,h1,h2⟩:=hasAllW_cons hsh
 obtain rfl:=hasAllW_nil h2
 obtain⟨xs,rfl,h3⟩:=hasW_list h1
 obtain⟨ns,rfl⟩:=items_int h3
 have hlen:ns.length≤n:=by
  unfold OpenLaw.pre at hc
  have h4:(WTm.not (.lt (.lit (.int (n:Int))) (.len (.arg 0)))).holds [] { args:=[.list (ns.map .int)] }=true:=by
   have h4:=(holds_andW hc).1
   rw[hn]at h4
   exact h4
  have h5:=condW_of h4 (w_not (w_lt w_lit (w_len_list (w_arg rfl))))
  rw[List.length_map]at h5
  refine Nat.le_of_not_lt fun q=>?_
  have q':(n:Int) < ((ns.length:Nat):Int):=by omega
  first
   | (rw[decide_eq_true q']at h5;exact absurd h5 (by decide))
   | (simp at h5;omega)
 cases hwl with
 | cons w1 w2 =>
  cases w2
  cases w1 with
  | list ho hall=>exact⟨_,_,ns,rfl,rfl,ho,gH ns _ hall,hlen⟩
theorem n5 (l:OpenLaw)(args:List WData):l.row.toRowW.claim.post args (.bool true) args=true :=
 postW_of (r:=l.row.toRowW) (X:=(true==true))
  (show WShape.has [] (.bool true) .bool=true by first | rfl | decide | simp[WShape.has,WShape.arms,WShape.armsAll])
  (show (WTm.eq .res (.lit (.bool true))).value [] { args:=args,res:=some (.bool true),after:=args }=some (.bool (true==true)) from w_eq_bool (w_res rfl) w_lit) rfl
theorem attach_call {l:OpenLaw}{n:Nat}{q:Program}{loose:List Str}{XP:(Str→Option Value)→Heap→Prop}{YP:World→Heap→Prop}{d:DefRec}
  (hn:l.most=some n) (hdf:d.params.defaults=[])
  (call:∀ (w:World) (s₀ s₁:Shared) (mg mb:Str→Option Value) (fa:Addr) (o:Obj) (pm cd doc:Value) (a:Addr) (vs:List Value) (ns:List Int),
   Ground q loose [] XP w s₀ mg mb s₁.heap→YP w s₁.heap →
   s₁.heap.get? fa=some o→o.data=.func (docDef d.name d.params d.body d.scope pm cd doc)→s₁.heap.CodeRec cd d.name→mg d.name=some (.ref fa) →
   s₁.heap.get? a=some { cls:=.type "list",data:=.seq vs.toArray }→IntsAre vs ns→ns.length≤n→s₁.gens = #[] →
   codeAny (model l.prog w) callerA (.call (.ref fa) ⟨[.ref a],[]⟩) (fun r s'=>r=.ok (.ret (.bool true))∧OldK s₁.heap s'.heap∧s'.os=s₁.os∧AllBare s'.gens) s₁) :
  WalkO q loose XP YP l.row.toRowW d [] (fun f vs=>PySem.call f vs):=by
 intro w s₀ s₁ mg mb G Y fa o pm cd doc dV kV ho hd hcd hD hmg hg args vals as hpre hlay hrd hwl hlo
 obtain rfl:dV=.none:=Dflts.none hD hdf
 obtain rfl:kV=.none:=Dflts.noKw hD
 obtain⟨a,vs,ns,rfl,rfl,hobj,hints,hlen⟩:=n4 hn hpre hwl
 refine enter_call (codeAny_mono (call w s₀ s₁ mg mb fa o pm cd doc a vs ns G Y ho (fd_plain hd) hcd hmg hobj hints hlen hg) fun r s' hq=>?_)
 obtain⟨rfl,h2,h3,h4⟩:=hq
 exact⟨.inl ⟨.bool true,.bool true,[],rfl,fun _=>rfl,.bool true,n5 l _,fun _=>⟨List.Pairwise.nil,fun _ hm=>(nomatch hm)⟩⟩,h2,h3,h4⟩
section
variable {prog:Program}{w:World}{A:Around}{E:Value→Shared→Prop}{s:Shared}{K:Frag}
theorem u4 {x C:Addr}{ox:Obj}{es:List DictEntry}{n:Nat}{name:Str}{expr:Bool}{v:Value}{Q:Value→Shared→Prop}
  (X:K.In s.heap) (I:PySem.W.InstAt s.heap x ox C (some (dictOf es n))) (hg:plainGet K C name=true) (hh:hasDictIn K C=true) (ha:findIn K (.ref C) name=some none)
  (hl:getL name es=some (some v)) (hv:handedIn v=true) (h:Q v { s with toks:=s.toks+1 }):wpAny (model prog w) A (getAttr (.ref x) name expr) Q E s :=
 get_value X I (plainGet_of hg).1 (findObj_own hh ha rfl hl) hv h
end
end Att
namespace L2
open PySem PySem.Spec PyProof.Rows
theorem ck:∀ {vs:List Value} {ns:List Int},IntsAre vs ns→Vals (ns.map V.int) vs
 | _,_,.nil=>.nil
 | _,_,.cons n t h=>.cons ⟨t,rfl⟩ (ck h)
def Only (H:Hp):Prop:=∀ b,H b=none∨∃ o xs,H b=some (.frz o (.lst xs))
theorem pJ {P:Program}{w:World}{K:PySem.W.Frag}{mg mb:Str→Option Value}{CX:CXT}{k:Nat}{fa a:Addr}{fd:FuncData}{x:Str}{sp:Sp}{s₁:Shared}{vs:List Value}{ns:List Int}
  (KX:K.In s₁.heap) (hns:s₁.heap.Ns mainGlobals mg) (hb:s₁.heap.Ns builtinsNs mb) (hbb:∀ x:Str,x ≠ "__name__" → mb x=bootBuiltins x) (hlim:s₁.heap.NoLimit) (hg:s₁.gens = #[])
  (ha:s₁.heap.get? a=some { cls:=.type "list",data:=.seq vs.toArray }) (hi:IntsAre vs ns) (hl:ns.length≤sizeLine) (hr:Room k callerA)
  (F:∀ base:Heap,K.In base→base.Ns mainGlobals mg→FnOk P w K mg base CX k fa fd [x] sp) (hbind:∀ (s:Shared) (u:Value),BindsTo s fd ⟨[u],[]⟩ [(x,u)])
  (hsp:∀ H:Hp,Only H→SqL K H a (ns.map V.int)→sp [.ref a] H (fun v _=>v=.bl true) fun _ _ _=>False)
  (hCX:∀ H e s',CX [] H s₁ (fun _ _ _=>False) e s'→False) :
  codeAny (model P w) callerA (.call (.ref fa) ⟨[.ref a],[]⟩) (fun r s'=>r=.ok (.ret (.bool true))∧OldK s₁.heap s'.heap∧s'.os=s₁.os∧AllBare s'.gens) s₁:=by
 have rv:=ck hi
 have lenV:=hi.length
 have core:∀ H:Hp,Only H→SqL K H a (ns.map V.int)→HOk P w H s₁.heap→(∀ b,H b≠none→b=a)→(H a≠none→K.lookup a=none) →
   codeAny (model P w) callerA (.call (.ref fa) ⟨[.ref a],[]⟩) (fun r s'=>r=.ok (.ret (.bool true))∧OldK s₁.heap s'.heap∧s'.os=s₁.os∧AllBare s'.gens) s₁:=by
  intro H hO hS hok hA hK
  have base_of:∀ {b:Addr} {o:Obj},s₁.heap.get? b=some o→H b=none→(hidT s₁.heap H).get? b=some o:=fun e n=>pj e n
  have noA:∀ {b:Addr} {o:Obj} {es:Array DictEntry} {ep:Nat},s₁.heap.get? b=some o→o.data=.dict es ep→H b=none:=fun {b o es ep} e d=>by
   cases q:H b with
   | none=>rfl
   | some u =>
    have e':b=a:=hA b (by rw[q];simp)
    subst e'
    rw[ha]at e;cases e
    have d':Data.seq vs.toArray _=Data.dict es ep:=d
    cases d'
  have nsK:∀ {b:Addr} {m:Str→Option Value},s₁.heap.Ns b m→(hidT s₁.heap H).Ns b m:=fun {b m} ⟨o,es,ep,e,d,r⟩=>⟨o,es,ep,base_of e (noA e d),d,r⟩
  have hKb:K.In (hidT s₁.heap H):=fun b o e=>base_of (KX b o e) (by
   cases q:H b with
   | none=>rfl
   | some u =>
    have e':b=a:=hA b (by rw[q];simp)
    subst e'
    rw[hK (by rw[q];simp)]at e;cases e)
  have hM:Mod K mg (hidT s₁.heap H):=⟨hKb,nsK hns,⟨mb,nsK hb,hbb⟩,let ⟨mc,h1,h2⟩:=hlim;⟨mc,nsK h1,h2⟩⟩
  have e0:Env0 P w K mg (hidT s₁.heap H) callerA [] s₁ H:=⟨rfl,hM,fun b o e=>rq e,Nat.le_of_eq (nS _ _),trivial,fun b hb=>absurd (show b∈([]:List Addr) from hb) (by simp),hok,.of_eq hg⟩
  refine codeAny_mono ((F _ hKb (nsK hns)).run callerA [] s₁ H ⟨[.ref a],[]⟩ [.ref a] [.ref a] _ _ hr e0 (hbind s₁ (.ref a)) (.cons rfl .nil) (hsp H hO hS)) fun r s' h=>?_
  cases r with
  | error e=>exact(hCX H e s' h).elim
  | ok fl =>
   cases fl with
   | next=>exact False.elim h
   | brk=>exact False.elim h
   | cont=>exact False.elim h
   | ret u =>
    obtain⟨v,H',os,bare,un,hok',r',q⟩:=h
    have q':v=.bl true:=q
    subst q'
    obtain rfl:u=Value.bool true:=r'
    refine⟨rfl,OldK.of_keep fun b o e=>?_,os,bare⟩
    cases q:H b with
    | none=>exact un.keep b o e q (by intro z;exact absurd (show b∈([]:List Addr) from z) (by simp)) (by simp)
    | some u =>
     rcases hO b with z | ⟨ob,xs,z⟩
     ·rw[q]at z;cases z
     ·have z2:=un.frzs b ob _ z
      obtain⟨e1,_⟩:=hok b _ z
      obtain⟨e2,_⟩:=hok' b _ z2
      rw[e]at e1;cases e1
      exact e2
 cases hk:K.lookup a with
 | some o =>
  have e:=KX a o hk
  rw[ha]at e
  cases e
  refine core (fun _=>none) (fun _=>.inl rfl) (.inr ⟨_,vs.toArray,_,hk,rfl,rfl,rfl,by rw[List.size_toArray,lenV];exact hl,by simpa using rv⟩) (fun b u z=>by have z':(none:Option HO)=some u:=z;cases z') (fun b z=>absurd rfl z) fun z=>absurd rfl z
 | none =>
  refine core (fun b=>if b=a then some (.frz { cls:=.type "list",data:=.seq vs.toArray } (.lst (ns.map V.int))) else none) (fun b=>?_) (.inl (.inr ⟨{ cls:=.type "list",data:=.seq vs.toArray },if_pos rfl⟩)) (fun b u z=>?_) (fun b z=>?_) fun _=>hk
  ·by_cases hb:b=a
   ·exact .inr ⟨_,_,if_pos hb⟩
   ·exact .inl (if_neg hb)
  ·by_cases hb:b=a
   ·have z':=(if_pos hb).symm.trans z
    cases z'
    subst hb
    exact⟨ha,by rw[List.length_map];exact hl,vs,_,rv,ha⟩
   ·have z':=(if_neg hb).symm.trans z
    cases z'
  ·by_cases hb:b=a
   ·exact hb
   ·exact absurd (if_neg hb) z
end L2
namespace L2
open PySem PySem.Spec PyProof.Rows
theorem rN {l:PySem.W.OpenLaw}{n k:Nat}{q:Program}{loose:List Str}{XP:(Str→Option Value)→Heap→Prop}{YP:World→Heap→Prop}{d:DefRec}{K:Params→PySem.W.Frag}{CX:World→CXT}{sp:World→Sp}{x:Str}
  (hn:l.most=some n) (hn2:n≤sizeLine) (hdf:d.params.defaults=[]) (hr:Room k callerA)
  (hY:∀ (w:World) (h:Heap),YP w h→(K w.params).In h)
  (F:∀ (w:World) (mg:Str→Option Value) (fa:Addr) (h:Heap),(K w.params).In h→h.Ns mainGlobals mg→mg d.name=some (.ref fa) →
   ∃ fd:FuncData,(∀ (s:Shared) (u:Value),BindsTo s fd ⟨[u],[]⟩ [(x,u)]) ∧
    ∀ base:Heap,(K w.params).In base→base.Ns mainGlobals mg→FnOk l.prog w (K w.params) mg base (CX w) k fa fd [x] (sp w))
  (hsp:∀ (w:World) (H:Hp) (a:Addr) (ns:List Int),ns.length≤n→Only H→SqL (K w.params) H a (ns.map V.int)→sp w [.ref a] H (fun v _=>v=.bl true) fun _ _ _=>False)
  (hCX:∀ (w:World) (H:Hp) (s:Shared) (e:Value) (s':Shared),CX w [] H s (fun _ _ _=>False) e s'→False) :
  PySem.W.WalkO q loose XP YP l.row.toRowW d [] (fun f vs=>PySem.call f vs):=by
 refine Att.attach_call hn hdf fun w s₀ s₁ mg mb fa o pm cd doc a vs ns G Y ho hd hcd hmg hobj hints hlen hg=>?_
 have KX:=hY w _ Y
 obtain⟨fd,hb,hF⟩:=F w mg fa _ KX G.T.g hmg
 exact pJ KX G.T.g G.T.b G.T.builtins G.T.nolimit hg hobj hints (Nat.le_trans hlen hn2) hr hF hb (fun H hO hS=>hsp w H a ns hlen hO hS) fun H e s'=>hCX w H s₁ e s'
end L2
namespace L2
open PySem PySem.Spec PyProof.Rows
def defArgs (s:Stmt):Arguments:=match s with
 | .FunctionDef _ a _ _ _ _ _ _ _ _=>a
 | _=>{ posonlyargs:=[],args:=[],vararg:=none,kwonlyargs:=[],kw_defaults:=[],kwarg:=none,defaults:=[] }
def defBody (s:Stmt):List Stmt:=match s with
 | .FunctionDef _ _ b _ _ _ _ _ _ _=>b
 | _=>[]
def defScope (s:Stmt):Scope:=match s with
 | .FunctionDef _ _ _ _ _ _ sc _ _ _=>sc
 | _=>{ kind:=.function,names:=[],isGenerator:=false,isCoroutine:=false }
structure Fun (K:PySem.W.Frag)(x qual:Str)(st:Stmt)(f:Addr)(fd:FuncData):Prop where
 ex:∃ (oc:Value) (od:Option Addr) (kV doc pm:Value) (an:Option Addr) (cdv ct:Value) (osl:Array (Option Value)),
  fd=PySem.W.fnOf x qual (defArgs st) (defBody st) (defScope st) .none kV doc pm an cdv ct∧K.lookup f=some ⟨oc,od,.func fd,osl⟩∧PySem.W.codeIn K cdv qual=true
 kp:PySem.W.keepIn K (.ref f)=true
section
variable {P:Program}{w:World}{K:PySem.W.Frag}{mg:Str→Option Value}{base:Heap}
theorem Fun.binds {x qual:Str}{st:Stmt}{f:Addr}{fd:FuncData}{ps:List Str}(F:Fun K x qual st f fd)
  (h:∀ (kV doc pm:Value) (an:Option Addr) (cdv ct:Value) (us:List Value),us.length=ps.length→bindArgs (PySem.W.fnOf x qual (defArgs st) (defBody st) (defScope st) .none kV doc pm an cdv ct) ⟨us,[]⟩=pure (ps.zip us)):Binds K fd ps []:=by
 obtain⟨oc,od,kV,doc,pm,an,cdv,ct,osl,rfl,lk,hcd⟩:=F.ex
 exact .all (h kV doc pm an cdv ct)
theorem mt {x qual:Str}{st:Stmt}{f:Addr}{oc:Value}{od an:Option Addr}{osl:Array (Option Value)}{kV doc pm cdv ct:Value}(l:K.lookup f=some ⟨oc,od,.func (PySem.W.fnOf x qual (defArgs st) (defBody st) (defScope st) .none kV doc pm an cdv ct),osl⟩)
  (c:PySem.W.codeIn K cdv qual=true) (k:PySem.W.keepIn K (.ref f)=true):Fun K x qual st f (PySem.W.fnOf x qual (defArgs st) (defBody st) (defScope st) .none kV doc pm an cdv ct):=⟨⟨oc,od,kV,doc,pm,an,cdv,ct,osl,rfl,l,c⟩,k⟩
end
section
variable {X:Cx}
end
def Same (H H':Hp):Prop:=∀ b o,H b=some o→H' b=some o
theorem Same.refl (H:Hp):Same H H:=fun _ _ h=>h
theorem Same.trans {H H1 H2:Hp}(a:Same H H1)(b:Same H1 H2):Same H H2:=fun c o h=>b c o (a c o h)
theorem Same.free {H H':Hp}(e:Same H H'){l:Addr}(h:H' l=Option.none):H l=Option.none:=by
 cases q:H l with
 | none=>rfl
 | some o =>
  rw[e l o q]at h
  cases h
theorem Same.seq {K:PySem.W.Frag}{H H':Hp}{a:Addr}{xs:List V}(e:Same H H')(h:SqL K H a xs):SqL K H' a xs:=by
 rcases h with (h | ⟨o,h⟩) | h
 ·exact .inl (.inl (e _ _ h))
 ·exact .inl (.inr ⟨o,e _ _ h⟩)
 ·exact .inr h
end L2
end
noncomputable section
namespace FF
abbrev St:=L2.St
end FF
namespace FF
open PySem
open AutoSeq1 (wpAny_loadPart')
theorem fH:fillsNumberSlot (.type "tuple") "mul"=pure false :=
 fillsNumberSlot_seq (id := "tuple.__mul__") (r:=some (.builtin "tuple.__rmul__")) F.slot_tuple_mul.lookup (by decide +kernel) F.slot_tuple_rmul.lookup (by decide +kernel)
theorem ke:seqRepeat? (.type "tuple")=pure (some (.builtin "tuple.__mul__")):=by
 unfold seqRepeat?
 rw[seqSlot_of (T := "tuple") (name := "__mul__") (id := "tuple.__mul__") F.slot_tuple_mul.lookup (by decide +kernel),seqSlot_of (T := "tuple") (name := "__rmul__") (id := "tuple.__rmul__") F.slot_tuple_rmul.lookup (by decide +kernel)]
 rfl
theorem hG (a:Int)(t:Tok)(l:Addr)(items:Array Value)(n:Nat)(dd:Option Addr)(sl:Array (Option Value)) :
  Meets (Builtin.«int.__rmul__» ⟨[.int a t,.ref l],[]⟩) (fun _ R s=>s.heap.get? l=some { cls:=.type "tuple",dict:=dd,data:=.seq items n,slots:=sl }∧R (.ok (.ret Value.notImplemented)) s) :=
 .of_wp fun prog w A R s h=>by obtain⟨hp,g,d,tk,os⟩:=s;obtain⟨hl,h⟩:=h;wp_walk;exact⟨_,rfl,h⟩
theorem jg (l:Addr)(items:Array Value)(n:Nat)(k:Int)(t:Tok)(dd:Option Addr)(sl:Array (Option Value))(h0:2≤k)(h1:k < 1000000)(hsz:items.size*k.toNat≤sizeLine)(hne:items.isEmpty=false) :
  Meets (Builtin.«tuple.__mul__» ⟨[.ref l,.int k t],[]⟩) (fun _ R s=>s.heap.get? l=some { cls:=.type "tuple",dict:=dd,data:=.seq items n,slots:=sl } ∧
   R (.ok (.ret (.ref s.heap.objs.size))) { s with heap:=s.heap.push { cls:=.type "tuple",data:=.seq (List.foldl (fun x1 x2=>x1++x2) #[] (List.replicate k.toNat items)) } }) :=
 .of_wp fun prog w A R s h=>by
  obtain⟨hp,g,d,tk,os⟩:=s;obtain⟨hl,h⟩:=h
  have f1:=AutoSeq1.idx_int
  have f2:=AutoSeq1.sub_tuple_tuple
  have c0:¬ (decide (k < -2^63)||decide (k≥2^63))=true:=by
   simp only[Bool.or_eq_true,decide_eq_true_eq];omega
  have c1:¬ (items.isEmpty||k==1)=true:=by
   rw[hne,Bool.false_or,beq_iff_eq];omega
  have c2:¬ (decide (k≤0)||items.isEmpty)=true:=by
   rw[hne,Bool.or_false,decide_eq_true_eq];omega
  have hs:sizeLine=16777216:=sizeLine_eq
  have hk:(items.size:Int)*k=((items.size*k.toNat:Nat):Int):=by
   rw[Int.natCast_mul,Int.toNat_of_nonneg (by omega)]
  have c3:¬ ((items.size:Int)*k > (2^63 - 1)/8):=by
   rw[hk];omega
  have c4:¬ Builtin.Tuple.tupleTooMany ((items.size:Int)*k)=true:=by
   rw[hk]
   unfold Builtin.Tuple.tupleTooMany
   simp only[decide_eq_true_eq]
   omega
  have hlen:(List.foldl (fun x1 x2=>x1++x2) #[] (List.replicate k.toNat items)).size≤sizeLine:=by
   have:∀ (m:Nat) (acc:Array Value),(List.foldl (fun x1 x2=>x1++x2) acc (List.replicate m items)).size=acc.size+m*items.size:=by
    intro m
    induction m with
    | zero=>intro acc;simp
    | succ m ih=>intro acc;rw[List.replicate_succ,List.foldl_cons,ih,Array.size_append,Nat.succ_mul];omega
   rw[this,Nat.mul_comm];simpa using hsz
  unfold Builtin.«tuple.__mul__»
  wp_walk using wpAny_loadPart' hl
  rw[if_neg c0]
  wp_walk using wpAny_loadPart' hl
  rw[if_neg c1]
  try wp_walk using wpAny_loadPart' hl
  rw[if_neg c2]
  try wp_walk using wpAny_loadPart' hl
  rw[if_neg c3]
  try wp_walk using wpAny_loadPart' hl
  rw[if_neg c4]
  try wp_walk using wpAny_loadPart' hl
  rw[if_neg (Nat.not_lt.mpr hlen)]
  try wp_walk using wpAny_loadPart' hl
  exact⟨_,rfl,h⟩
theorem jh (l:Addr)(items:Array Value)(n:Nat)(t:Tok)(dd:Option Addr)(sl:Array (Option Value)) :
  Meets (Builtin.«tuple.__mul__» ⟨[.ref l,.int 1 t],[]⟩) (fun _ R s=>s.heap.get? l=some { cls:=.type "tuple",dict:=dd,data:=.seq items n,slots:=sl }∧R (.ok (.ret (.ref l))) s) :=
 .of_wp fun prog w A R s h=>by
  obtain⟨hp,g,d,tk,os⟩:=s;obtain⟨hl,h⟩:=h
  have f1:=AutoSeq1.idx_int
  have f2:=AutoSeq1.sub_tuple_tuple
  have c1:(items.isEmpty||(1:Int)==1)=true:=by simp
  unfold Builtin.«tuple.__mul__»
  wp_walk using wpAny_loadPart' hl
  exact⟨_,rfl,h⟩
theorem ji (l:Addr)(n:Nat)(k:Int)(t:Tok)(dd:Option Addr)(sl:Array (Option Value))(h0:0≤k)(h1:k < 1000000) :
  Meets (Builtin.«tuple.__mul__» ⟨[.ref l,.int k t],[]⟩) (fun _ R s=>s.heap.get? l=some { cls:=.type "tuple",dict:=dd,data:=.seq #[] n,slots:=sl }∧R (.ok (.ret (.ref l))) s) :=
 .of_wp fun prog w A R s h=>by
  obtain⟨hp,g,d,tk,os⟩:=s;obtain⟨hl,h⟩:=h
  have f1:=AutoSeq1.idx_int
  have f2:=AutoSeq1.sub_tuple_tuple
  have c0:¬ (decide (k < -2^63)||decide (k≥2^63))=true:=by
   simp only[Bool.or_eq_true,decide_eq_true_eq];omega
  have c1:((#[]:Array Value).isEmpty||k==1)=true:=by simp
  unfold Builtin.«tuple.__mul__»
  wp_walk using wpAny_loadPart' hl
  rw[if_neg c0]
  wp_walk using wpAny_loadPart' hl
  exact⟨_,rfl,h⟩
theorem hI (l:Addr)(items:Array Value)(n:Nat)(t:Tok)(dd:Option Addr)(sl:Array (Option Value))(hne:items.isEmpty=false) :
  Meets (Builtin.«tuple.__mul__» ⟨[.ref l,.int 0 t],[]⟩) (fun _ R s=>s.heap.get? l=some { cls:=.type "tuple",dict:=dd,data:=.seq items n,slots:=sl } ∧
   R (.ok (.ret (.ref s.heap.objs.size))) { s with heap:=s.heap.push { cls:=.type "tuple",data:=.seq #[] } }) :=
 .of_wp fun prog w A R s h=>by
  obtain⟨hp,g,d,tk,os⟩:=s;obtain⟨hl,h⟩:=h
  have f1:=AutoSeq1.idx_int
  have f2:=AutoSeq1.sub_tuple_tuple
  have c1:¬ (items.isEmpty||(0:Int)==1)=true:=by rw[hne];decide
  have c2:(decide ((0:Int)≤0)||items.isEmpty)=true:=by simp
  unfold Builtin.«tuple.__mul__»
  wp_walk using wpAny_loadPart' hl
  exact⟨_,rfl,h⟩
end FF
namespace FF
open PySem
theorem dg (env:Env):∀ (names:List (Str×NameKind)) (acc:List (Str×Addr)),(∀ y∈names,y.2=.free→∃ c,env.cells.lookup y.1=some c)→(∀ n c,acc.lookup n=some c→env.cells.lookup n=some c) →
  ∃ cl,(forIn names acc fun (x:Str×NameKind) (cs:List (Str×Addr))=>(do
    if x.2==.free then let a ← cellOf env x.1;pure (ForInStep.yield ((x.1,a)::cs)) else pure (ForInStep.yield cs):Sem (ForInStep (List (Str×Addr)))))=pure cl ∧
   (∀ n c,cl.lookup n=some c→env.cells.lookup n=some c)∧(∀ n c,acc.lookup n=some c→∃ c',cl.lookup n=some c')∧(∀ y∈names,y.2=.free→∃ c,cl.lookup y.1=some c)
 | [],acc,_,h=>⟨acc,rfl,h,fun n c e=>⟨c,e⟩,fun _ z=>nomatch z⟩
 | (n,k)::r,acc,hf,h=>by
  by_cases hk:k=.free
  ·subst hk
   obtain⟨c,hc⟩:=hf (n,.free) List.mem_cons_self rfl
   have h':∀ m d,List.lookup m ((n,c)::acc)=some d→env.cells.lookup m=some d:=fun m d e=>by
    by_cases q:(m==n)=true
    ·have q':m=n:=eq_of_beq q
     simp only[List.lookup,q]at e
     cases e
     rw[q'];exact hc
    ·have q':(m==n)=false:=by simpa using q
     simp only[List.lookup,q']at e
     exact h m d e
   obtain⟨cl,e1,e2,e3,e4⟩:=dg env r ((n,c)::acc) (fun y hy=>hf y (List.mem_cons_of_mem _ hy)) h'
   have self:List.lookup n ((n,c)::acc)=some c:=by simp[List.lookup]
   refine⟨cl,?_,e2,fun m d e=>?_,fun y hy hy2=>?_⟩
   ·rw[List.forIn_cons]
    have:cellOf env n=pure c:=by unfold cellOf;rw[hc]
    simp only[beq_self_eq_true,if_true,this]
    exact e1
   ·by_cases q:(m==n)=true
    ·have q':m=n:=eq_of_beq q
     rw[q'];exact e3 n c self
    ·have q':(m==n)=false:=by simpa using q
     exact e3 m d (by simp only[List.lookup,q'];exact e)
   ·rcases List.mem_cons.mp hy with z | z
    ·subst z;exact e3 n c self
    ·exact e4 y z hy2
  ·have hb:(k==NameKind.free)=false:=by simpa using hk
   obtain⟨cl,e1,e2,e3,e4⟩:=dg env r acc (fun y hy=>hf y (List.mem_cons_of_mem _ hy)) h
   refine⟨cl,?_,e2,e3,fun y hy hy2=>?_⟩
   ·rw[List.forIn_cons]
    simp only[hb,Bool.false_eq_true,if_false]
    exact e1
   ·rcases List.mem_cons.mp hy with z | z
    ·subst z;exact absurd hy2 hk
    ·exact e4 y z hy2
theorem eG (scope:Scope)(env:Env)(h:∀ y∈scope.names,y.2=.free→∃ c,env.cells.lookup y.1=some c) :
  ∃ cl,closureFor scope env=pure cl∧(∀ n c,cl.lookup n=some c→env.cells.lookup n=some c)∧(∀ y∈scope.names,y.2=.free→∃ c,cl.lookup y.1=some c):=by
 obtain⟨cl,e1,e2,_,e4⟩:=dg env scope.names [] h (fun n c e=>by simp at e)
 refine⟨cl,?_,e2,e4⟩
 exact(congrArg (fun t:Sem (List (Str×Addr))=>t >>= fun s=>pure s) e1).trans rfl
end FF
namespace FF
open PySem
def tests (ifs:List Expr)(env:Env):Sem Bool:=match ifs with
 | []=>pure true
 | c::_=>isTrue c env (eval c env)
theorem n6 {prog:Program}{w:World}{A:Around}{R:Result→Shared→Prop}{s:Shared}{elt target iter:Expr}{ifs:List Expr}{scope:Scope}{pos:Pos}{it acc:Value}{env:Env}(hifs:ifs.length≤1)(W:Nat→Shared→Prop)
  (turn:∀ n s,W n s→wpAny (model prog w) A (pyNext it) (fun r s1=>match r with
   | none=>R (.ok .next) s1
   | some v=>wpAny (model prog w) A (letOwnedTupleGo target it v) (fun _ s2=>wpAny (model prog w) A (assign target env v) (fun _ s3=>wpAny (model prog w) A (tests ifs env) (fun ok s4 =>
     if ok=true then wpAny (model prog w) A (eval elt env) (fun x s5=>wpAny (model prog w) A (call (.builtin "list.append") [acc,x]) (fun _ s6=>∃ m,m < n∧W m s6) (fun _ _=>False) s5) (fun _ _=>False) s4
     else ∃ m,m < n∧W m s4) (fun _ _=>False) s3) (fun _ _=>False) s2) (fun _ _=>False) s1) (fun _ _=>False) s)
  (n:Nat) (h:W n s):codeAny (model prog w) A (.compLoop (.ListComp elt [⟨target,iter,ifs,0⟩] scope pos) 0 it acc env) R s:=by
 have weak:∀ {α:Type} {t:Sem α} {Q Q':α→Shared→Prop} {E:Value→Shared→Prop} {s:Shared},wpAny (model prog w) A t Q (fun _ _=>False) s→(∀ a s,Q a s→Q' a s)→wpAny (model prog w) A t Q' E s :=
  fun h k=>wpAny_mono h k fun _ _ z=>z.elim
 refine codeAny_loop rfl W (fun n s hW=>?_) n h
 show wpAny _ A ((compTurn (.ListComp elt [⟨target,iter,ifs,0⟩] scope pos) 0 it acc env).onRaise (fun x=>do noteFrame x env;theTreesLotGoes x)) _ _ s
 refine wpAny_noted ?_
 rw[compTurn_list]
 refine wpAny_bind (wpAny_standAt (wpAny_bind (weak (turn n s hW) fun r s1 h1=>?_)))
 cases r with
 | none=>exact wpAny_pure h1
 | some v =>
  refine wpAny_bind (weak h1 fun _ s2 h2=>wpAny_bind (weak h2 fun _ s3 h3=>wpAny_bind ?_))
  have fin:∀ ok s4,(if ok=true then wpAny (model prog w) A (eval elt env) (fun x s5=>wpAny (model prog w) A (call (.builtin "list.append") [acc,x]) (fun _ s6=>∃ m,m < n∧W m s6) (fun _ _=>False) s5) (fun _ _=>False) s4
     else ∃ m,m < n∧W m s4)→wpAny (model prog w) A (if ok=true then ((do let _ ← call (.builtin "list.append") [acc,← eval elt env];pure ()) >>= fun _=>again (.compLoop (.ListComp elt [⟨target,iter,ifs,0⟩] scope pos) 0 it acc env)) else again (.compLoop (.ListComp elt [⟨target,iter,ifs,0⟩] scope pos) 0 it acc env))
      (fun fin s'=>match fin with | .done f=>R (.ok f) s' | .again c'=>c'=(.compLoop (.ListComp elt [⟨target,iter,ifs,0⟩] scope pos) 0 it acc env)∧∃ m,m < n∧W m s') (notedBy (model prog w) A env fun e s'=>R (.error e) s') s4:=by
   intro ok s4 h4
   cases ok with
   | true=>exact wpAny_bind (wpAny_bind (weak h4 fun x s5 h5=>wpAny_bind (weak h5 fun _ s6 h6=>wpAny_pure (wpAny_pure ⟨rfl,h6⟩))))
   | false=>exact wpAny_pure ⟨rfl,h4⟩
  match ifs,hifs,h3,fin with
  | [],_,h3,fin =>
   refine wpAny_tests_nil ?_
   exact wpAny_bind (m:=(pure true:Sem Bool)) (weak h3 fin)
  | [c],_,h3,fin =>
   refine wpAny_tests_one ?_
   exact weak h3 fin
end FF
namespace FF
open PySem PyProof.Rows
open AutoSeq1 (wpAny_loadPart')
theorem n8 (l b:Addr)(items items2:Array Value)(n n2:Nat)(dd dd2:Option Addr)(sl sl2:Array (Option Value))(hsz:items.size+items2.size≤sizeLine) :
  Meets (Builtin.«list.__add__» ⟨[.ref l,.ref b],[]⟩) (fun _ R s=>s.heap.get? l=some { cls:=.type "list",dict:=dd,data:=.seq items n,slots:=sl }∧s.heap.get? b=some { cls:=.type "list",dict:=dd2,data:=.seq items2 n2,slots:=sl2 } ∧
   R (.ok (.ret (.ref s.heap.objs.size))) { s with heap:=s.heap.push { cls:=.type "list",data:=.seq (items++items2) } }) :=
 .of_wp fun prog w A R s h=>by
  obtain⟨hp,g,d,tk,os⟩:=s;obtain⟨hl,hb,h⟩:=h
  have f1:=AutoSeq1.idx_int;have f2:=AutoSeq1.sub_tuple_tuple;have f3:=AutoSeq1.sub_list_list;have f4:=AutoSeq1.sub_tuple_list;have f5:=AutoSeq1.sub_list_tuple
  have hl0:¬ Builtin.List.listTooLong (items.size+items2.size)=true:=by rw[L2.notLongL hsz];exact Bool.false_ne_true
  have hz:(items++items2).size≤sizeLine:=by rw[Array.size_append];exact hsz
  wp_walk using wpAny_loadPart' hl,wpAny_loadPart' hb
  all_goals first | exact⟨_,rfl,h⟩ | trace_state
theorem n9 (l:Addr)(items:Array Value)(n:Nat)(k:Int)(t:Tok)(dd:Option Addr)(sl:Array (Option Value))(h0 : -(2^63)≤k)(h1:k < 2^63)(hsz:items.size*k.toNat≤sizeLine) :
  Meets (Builtin.«list.__mul__» ⟨[.ref l,.int k t],[]⟩) (fun _ R s=>s.heap.get? l=some { cls:=.type "list",dict:=dd,data:=.seq items n,slots:=sl } ∧
   R (.ok (.ret (.ref s.heap.objs.size))) { s with heap:=s.heap.push { cls:=.type "list",data:=.seq (List.foldl (fun x1 x2=>x1++x2) #[] (List.replicate (if items.isEmpty=true then 0 else k.toNat) items)) } }) :=
 .of_wp fun prog w A R s h=>by
  obtain⟨hp,g,d,tk,os⟩:=s;obtain⟨hl,h⟩:=h
  have f1:=AutoSeq1.idx_int;have f2:=AutoSeq1.sub_tuple_tuple;have f3:=AutoSeq1.sub_list_list
  have hs:=sizeLine_eq
  have c1:¬ items.size*k.toNat > (2^63 - 1)/8:=by omega
  have c2:¬ (!Builtin.List.listFitsIndex k)=true:=by rw[fitsIndex_both h0 h1];exact Bool.false_ne_true
  have c3:¬ Builtin.List.listTooLong (items.size*k.toNat)=true:=by rw[L2.notLongL hsz];exact Bool.false_ne_true
  have hz:=AutoListH.joined_fits c3
  wp_walk using wpAny_loadPart' hl
  rw[if_neg (Nat.not_lt.mpr hz)]
  wp_walk
  exact⟨_,rfl,h⟩
theorem jj (a:Int)(t:Tok)(l:Addr)(items:Array Value)(n:Nat)(dd:Option Addr)(sl:Array (Option Value)) :
  Meets (Builtin.«int.__rmul__» ⟨[.int a t,.ref l],[]⟩) (fun _ R s=>s.heap.get? l=some { cls:=.type "list",dict:=dd,data:=.seq items n,slots:=sl }∧R (.ok (.ret Value.notImplemented)) s) :=
 .of_wp fun prog w A R s h=>by obtain⟨hp,g,d,tk,os⟩:=s;obtain⟨hl,h⟩:=h;wp_walk;exact⟨_,rfl,h⟩
theorem oa (l b:Addr)(items items2:Array Value)(n n2:Nat)(dd2:Option Addr)(sl2:Array (Option Value))(hsz:items.size+items2.size≤sizeLine) :
  Meets (Builtin.«list.extend» ⟨[.ref l,.ref b],[]⟩) (fun _ R s=>s.heap.get? l=some { cls:=.type "list",data:=.seq items n }∧s.heap.get? b=some { cls:=.type "list",dict:=dd2,data:=.seq items2 n2,slots:=sl2 } ∧
   R (.ok (.ret .none)) { s with heap:=s.heap.update l (Obj.mapSeq fun x=>x++items2) }) :=
 .of_wp fun prog w A R s h=>by
  obtain⟨hp,g,d,tk,os⟩:=s;obtain⟨hl,hb,h⟩:=h
  have f1:=AutoSeq1.idx_int;have f2:=AutoSeq1.sub_tuple_tuple;have f3:=AutoSeq1.sub_list_list;have f4:=AutoSeq1.sub_tuple_list;have f5:=AutoSeq1.sub_list_tuple
  have hc0:¬(!items.isEmpty&&Builtin.List.listTooLong (items.size+items2.size))=true:=by rw[L2.notLongL hsz,Bool.and_false];exact Bool.false_ne_true
  have hc1:items.size≤sizeLine:=by omega
  have hs2:items.size+items2.size≤sizeLine+1:=by omega
  have hz':(items++items2).size≤sizeLine+1:=by rw[Array.size_append];omega
  wp_walk using (wpAny_updateSeq hl rfl (hz:=hc1) (_hz':=hz')),wpAny_loadPart' hl,wpAny_loadPart' hb
  exact⟨_,rfl,h⟩
theorem og (l b:Addr)(items items2:Array Value)(n n2:Nat)(dd2:Option Addr)(sl2:Array (Option Value))(hsz:items.size+items2.size≤sizeLine) :
  Meets (Builtin.«list.extend» ⟨[.ref l,.ref b],[]⟩) (fun _ R s=>s.heap.get? l=some { cls:=.type "list",data:=.seq items n }∧s.heap.get? b=some { cls:=.type "tuple",dict:=dd2,data:=.seq items2 n2,slots:=sl2 } ∧
   R (.ok (.ret .none)) { s with heap:=s.heap.update l (Obj.mapSeq fun x=>x++items2) }) :=
 .of_wp fun prog w A R s h=>by
  obtain⟨hp,g,d,tk,os⟩:=s;obtain⟨hl,hb,h⟩:=h
  have f1:=AutoSeq1.idx_int;have f2:=AutoSeq1.sub_tuple_tuple;have f3:=AutoSeq1.sub_list_list;have f4:=AutoSeq1.sub_tuple_list;have f5:=AutoSeq1.sub_list_tuple
  have hc0:¬(!items.isEmpty&&Builtin.List.listTooLong (items.size+items2.size))=true:=by rw[L2.notLongL hsz,Bool.and_false];exact Bool.false_ne_true
  have hc1:items.size≤sizeLine:=by omega
  have hs2:items.size+items2.size≤sizeLine+1:=by omega
  have hz':(items++items2).size≤sizeLine+1:=by rw[Array.size_append];omega
  wp_walk using (wpAny_updateSeq hl rfl (hz:=hc1) (_hz':=hz')),wpAny_loadPart' hl,wpAny_loadPart' hb
  exact⟨_,rfl,h⟩
end FF
end
noncomputable section
namespace FF
open PySem PySem.Spec PyProof.Rows L2
inductive D where
 | non | bl (b:Bool) | int (i:Int) | str (x:Str) | tup (xs:List D) | lst (xs:List D) | exc (k:Nat) | fn (k:Nat)
inductive R (α:Type) where
 | ok (a:α) | err (k:Nat) | stuck
def R.bind {α β:Type}(r:R α)(f:α→R β):R β:=match r with
 | .ok a=>f a
 | .err k=>.err k
 | .stuck=>.stuck
@[simp] theorem R.bind_ok {α β:Type}(a:α)(f:α→R β):(R.ok a).bind f=f a:=rfl
@[simp] theorem R.bind_err {α β:Type}(k:Nat)(f:α→R β):(R.err k:R α).bind f=.err k:=rfl
@[simp] theorem R.bind_stuck {α β:Type}(f:α→R β):(R.stuck:R α).bind f=.stuck:=rfl
def excO (C:Nat→Addr)(k:Nat)(a:Addr):HO :=
 .ext fun h=>∃ o,h.get? a=some o∧o.cls=.ref (C k)∧∃ vs,o.data=.fields vs
mutual
def Rep (K:PySem.W.Frag)(C:Nat→Addr)(Z:Hp):D→V→Prop
 | .non,v=>v=.non
 | .bl b,v=>v=.bl b
 | .int i,v=>v=.int i
 | .str x,v=>v=.str x
 | .tup ds,v=>∃ a vs,v=.ref a∧SqT K Z a vs∧Reps K C Z ds vs
 | .lst ds,v=>∃ a vs,v=.ref a∧SqL K Z a vs∧Reps K C Z ds vs
 | .exc k,v=>∃ a,v=.ref a∧Z a=some (excO C k a)
 | .fn k,v=>v=.ref (C k)
def Reps (K:PySem.W.Frag)(C:Nat→Addr)(Z:Hp):List D→List V→Prop
 | [],vs=>vs=[]
 | d::ds,vs=>∃ v r,vs=v::r∧Rep K C Z d v∧Reps K C Z ds r
end
theorem _root_.L2.SqT.mono {K:PySem.W.Frag}{Z Z':Hp}{a:Addr}{xs:List V}(e:Same Z Z')(h:SqT K Z a xs):SqT K Z' a xs:=by
 rcases h with (h | ⟨o,h⟩) | h
 ·exact .inl (.inl (e _ _ h))
 ·exact .inl (.inr ⟨o,e _ _ h⟩)
 ·exact .inr h
section
variable {K:PySem.W.Frag}{C:Nat→Addr}{Z Z':Hp}
mutual
theorem Rep.mono (e:Same Z Z'):∀ (d:D) (v:V),Rep K C Z d v→Rep K C Z' d v
 | .non,v,h=>by rw[Rep]at h ⊢;exact h
 | .bl b,v,h=>by rw[Rep]at h ⊢;exact h
 | .int i,v,h=>by rw[Rep]at h ⊢;exact h
 | .str x,v,h=>by rw[Rep]at h ⊢;exact h
 | .fn k,v,h=>by rw[Rep]at h ⊢;exact h
 | .tup ds,v,h=>by
  rw[Rep]at h ⊢
  obtain⟨a,vs,h1,h2,h3⟩:=h
  exact⟨a,vs,h1,h2.mono e,Reps.mono e ds vs h3⟩
 | .lst ds,v,h=>by
  rw[Rep]at h ⊢
  obtain⟨a,vs,h1,h2,h3⟩:=h
  exact⟨a,vs,h1,e.seq h2,Reps.mono e ds vs h3⟩
 | .exc k,v,h=>by
  rw[Rep]at h ⊢
  obtain⟨a,h1,h2⟩:=h
  exact⟨a,h1,e _ _ h2⟩
theorem Reps.mono (e:Same Z Z'):∀ (ds:List D) (vs:List V),Reps K C Z ds vs→Reps K C Z' ds vs
 | [],vs,h=>by rw[Reps]at h ⊢;exact h
 | d::ds,vs,h=>by
  rw[Reps]at h ⊢
  obtain⟨v,r,h1,h2,h3⟩:=h
  exact⟨v,r,h1,Rep.mono e d v h2,Reps.mono e ds r h3⟩
end
theorem Reps.nil:Reps K C Z [] []:=by rw[Reps]
theorem Reps.cons {d:D}{v:V}{ds:List D}{vs:List V}(h:Rep K C Z d v)(t:Reps K C Z ds vs):Reps K C Z (d::ds) (v::vs):=by
 rw[Reps];exact⟨v,vs,rfl,h,t⟩
theorem Reps.uncons {d:D}{v:V}{ds:List D}{vs:List V}(h:Reps K C Z (d::ds) (v::vs)):Rep K C Z d v∧Reps K C Z ds vs:=by
 rw[Reps]at h
 obtain⟨v',r,e,h1,h2⟩:=h
 cases e
 exact⟨h1,h2⟩
theorem Reps.length:∀ {ds:List D} {vs:List V},Reps K C Z ds vs→ds.length=vs.length
 | [],vs,h=>by rw[Reps]at h;subst h;rfl
 | d::ds,vs,h=>by
  rw[Reps]at h
  obtain⟨v,r,e,_,h2⟩:=h
  subst e
  simp[Reps.length h2]
theorem Reps.get:∀ {ds:List D} {vs:List V} {i:Nat} {d:D},Reps K C Z ds vs→ds[i]?=some d→∃ v,vs[i]?=some v∧Rep K C Z d v
 | [],vs,i,d,h,e=>by simp at e
 | d'::ds,vs,i,d,h,e=>by
  rw[Reps]at h
  obtain⟨v,r,q,h1,h2⟩:=h
  subst q
  cases i with
  | zero=>simp at e;subst e;exact⟨v,rfl,h1⟩
  | succ i =>
   obtain⟨v',e1,h3⟩:=Reps.get (i:=i) h2 (by simpa using e)
   exact⟨v',by simpa using e1,h3⟩
theorem Reps.get':∀ {ds:List D} {vs:List V} {i:Nat} {v:V},Reps K C Z ds vs→vs[i]?=some v→∃ d,ds[i]?=some d∧Rep K C Z d v
 | [],vs,i,v,h,e=>by rw[Reps]at h;subst h;simp at e
 | d'::ds,vs,i,v,h,e=>by
  rw[Reps]at h
  obtain⟨v0,r,q,h1,h2⟩:=h
  subst q
  cases i with
  | zero=>simp at e;subst e;exact⟨d',rfl,h1⟩
  | succ i =>
   obtain⟨d,e1,h3⟩:=Reps.get' (i:=i) h2 (by simpa using e)
   exact⟨d,by simpa using e1,h3⟩
theorem Reps.append:∀ {ds es:List D} {vs us:List V},Reps K C Z ds vs→Reps K C Z es us→Reps K C Z (ds++es) (vs++us)
 | [],es,vs,us,h,h'=>by rw[Reps]at h;subst h;exact h'
 | d::ds,es,vs,us,h,h'=>by
  rw[Reps]at h
  obtain⟨v,r,q,h1,h2⟩:=h
  subst q
  exact Reps.cons h1 (Reps.append h2 h')
theorem Reps.take:∀ {ds:List D} {vs:List V} (n:Nat),Reps K C Z ds vs→Reps K C Z (ds.take n) (vs.take n)
 | [],vs,n,h=>by rw[Reps]at h;subst h;simpa using Reps.nil
 | d::ds,vs,n,h=>by
  rw[Reps]at h
  obtain⟨v,r,q,h1,h2⟩:=h
  subst q
  cases n with
  | zero=>exact Reps.nil
  | succ n=>exact Reps.cons h1 (Reps.take n h2)
theorem Reps.drop:∀ {ds:List D} {vs:List V} (n:Nat),Reps K C Z ds vs→Reps K C Z (ds.drop n) (vs.drop n)
 | [],vs,n,h=>by rw[Reps]at h;subst h;simpa using Reps.nil
 | d::ds,vs,n,h=>by
  rw[Reps]at h
  obtain⟨v,r,q,h1,h2⟩:=h
  subst q
  cases n with
  | zero=>exact Reps.cons h1 h2
  | succ n=>exact Reps.drop n h2
end
structure Ex (H Z H' Z':Hp):Prop where
 same:Same H H'
 z:Same Z Z'
 sub:Same Z' H'
 new:∀ b,Z' b≠none→Z b≠none∨H b=none
theorem Ex.refl {H Z:Hp}(s:Same Z H):Ex H Z H Z:=⟨Same.refl _,Same.refl _,s,fun _ h=>.inl h⟩
theorem Ex.trans {H Z H1 Z1 H2 Z2:Hp}(a:Ex H Z H1 Z1)(b:Ex H1 Z1 H2 Z2):Ex H Z H2 Z2 :=
 ⟨a.same.trans b.same,a.z.trans b.z,b.sub,fun c h=>(b.new c h).elim (fun h1=>a.new c h1) fun h1=>.inr (a.same.free h1)⟩
theorem aC {H:Hp}{p:Addr}{o:HO}(h:H p=none):Same H (upd H p o):=fun b u e=>by
 rw[ar (bu e h)];exact e
theorem Ex.alloc {H Z:Hp}{p:Addr}{o:HO}(s:Same Z H)(h:H p=none):Ex H Z (upd H p o) (upd Z p o):=by
 have hz:Z p=none:=s.free h
 refine⟨aC h,aC hz,fun b u e=>?_,fun b hb=>?_⟩
 ·by_cases q:b=p
  ·subst q;rw[ap]at e ⊢;exact e
  ·rw[ar q]at e ⊢;exact s b u e
 ·by_cases q:b=p
  ·subst q;exact .inr h
  ·rw[ar q]at hb;exact .inl hb
theorem Ex.hidden {H Z:Hp}{p:Addr}{o:HO}(s:Same Z H)(h:H p=none):Ex H Z (upd H p o) Z :=
 ⟨aC h,Same.refl _,s.trans (aC h),fun _ hb=>.inl hb⟩
inductive Sl where
 | val (d:D) | own (ds:List D) | mat (m:List (List D)) | dic (m:List (Key×D)) | dit (m:List (List Key×D))
abbrev SS:=List (Option Sl)
structure Fx where
 K:PySem.W.Frag
 C:Nat→Addr
 H0:Hp
 Z0:Hp
 E:XK
def Rows (F:Fx)(H Z:Hp):List (List D)→List Addr→Prop
 | [],[]=>True
 | ds::m,r::rs=>(∃ vs,H r=some (.lst vs)∧Reps F.K F.C Z ds vs)∧Rows F H Z m rs
 | _,_=>False
def Pairs {κ:Type}(F:Fx)(Z:Hp)(m:List (κ×D))(kvs:List (κ×V)):Prop:=kvs.map Prod.fst=m.map Prod.fst∧Reps F.K F.C Z (m.map Prod.snd) (kvs.map Prod.snd)
def Ow (F:Fx)(H Z:Hp):Sl→V→List Addr→Prop
 | .val d,v,A=>A=[]∧Rep F.K F.C Z d v
 | .own ds,v,A=>∃ a vs,v=.ref a∧A=[a]∧H a=some (.lst vs)∧Reps F.K F.C Z ds vs
 | .mat m,v,A=>∃ a rs,v=.ref a∧A=a::rs∧H a=some (.lst (rs.map V.ref))∧Rows F H Z m rs
 | .dic m,v,A=>∃ a kvs,v=.ref a∧A=[a]∧H a=some (.dK kvs)∧Pairs F Z m kvs
 | .dit m,v,A=>∃ a kvs,v=.ref a∧A=[a]∧H a=some (.dT kvs)∧Pairs F Z m kvs
structure Priv (F:Fx)(Z:Hp)(A:List Addr):Prop where
 nd:A.Nodup
 z:∀ a∈A,Z a=none
 h0:∀ a∈A,F.H0 a=none
structure StOk (F:Fx)(H Z:Hp)(S:SS)(σ:St):Prop where
 ex:Ex F.H0 F.Z0 H Z
 len:S.length=σ.length
 sl:∀ (i:Nat) (x:Sl),S[i]?=some (some x)→∃ v A,σ[i]?=some (some v)∧Ow F H Z x v A∧Priv F Z A
 dj:∀ (i j:Nat) (x y:Sl) (v w:V) (A B:List Addr),i≠j→S[i]?=some (some x)→S[j]?=some (some y)→σ[i]?=some (some v)→σ[j]?=some (some w)→Ow F H Z x v A→Ow F H Z y w B→∀ a∈A,a∉B
section
variable {F:Fx}{H Z H' Z':Hp}{S:SS}{σ:St}{x:Sl}{v:V}{A B:List Addr}
theorem Rows.mono (hz:Same Z Z'):∀ {m:List (List D)} {rs:List Addr},Rows F H Z m rs→(∀ a∈rs,∀ o,H a=some o→H' a=some o)→Rows F H' Z' m rs
 | [],[],_,_=>trivial
 | ds::m,r::rs,h,k=>by
  obtain⟨⟨vs,e,q⟩,h⟩:=h
  exact⟨⟨vs,k r (.head _) _ e,q.mono hz⟩,Rows.mono hz h fun a ha=>k a (.tail _ ha)⟩
 | [],_::_,h,_=>h.elim
 | _::_,[],h,_=>h.elim
theorem Rows.there:∀ {m:List (List D)} {rs:List Addr},Rows F H Z m rs→∀ a∈rs,∃ o,H a=some o
 | [],[],_,a,ha=>nomatch ha
 | ds::m,r::rs,h,a,ha=>by
  obtain⟨⟨vs,e,q⟩,h⟩:=h
  rcases List.mem_cons.mp ha with rfl | ha
  ·exact⟨_,e⟩
  ·exact Rows.there h a ha
 | [],_::_,h,_,_=>h.elim
 | _::_,[],h,_,_=>h.elim
theorem Rows.len:∀ {m:List (List D)} {rs:List Addr},Rows F H Z m rs→rs.length=m.length
 | [],[],_=>rfl
 | ds::m,r::rs,h=>by rw[List.length_cons,List.length_cons,Rows.len h.2]
 | [],_::_,h=>h.elim
 | _::_,[],h=>h.elim
theorem kR:∀ {rs qs:List Addr},rs.map V.ref=qs.map V.ref→rs=qs
 | [],[],_=>rfl
 | r::rs,q::qs,h=>by
  rw[List.map_cons,List.map_cons]at h
  injection h with h1 h2
  injection h1 with h1
  rw[h1,kR h2]
 | [],_::_,h=>nomatch h
 | _::_,[],h=>nomatch h
theorem Ow.mono (hz:Same Z Z')(h:Ow F H Z x v A)(hs:∀ a∈A,∀ o,H a=some o→H' a=some o):Ow F H' Z' x v A:=by
 cases x with
 | val d=>exact⟨h.1,h.2.mono hz⟩
 | own ds =>
  obtain⟨a,vs,e1,e2,e3,r⟩:=h
  exact⟨a,vs,e1,e2,hs a (by rw[e2];exact .head _) _ e3,r.mono hz⟩
 | mat m =>
  obtain⟨a,rs,e1,e2,e3,r⟩:=h
  exact⟨a,rs,e1,e2,hs a (by rw[e2];exact .head _) _ e3,r.mono hz fun b hb=>hs b (by rw[e2];exact .tail _ hb)⟩
 | dic m =>
  obtain⟨a,vs,e1,e2,e3,r⟩:=h
  exact⟨a,vs,e1,e2,hs a (by rw[e2];exact .head _) _ e3,r.1,r.2.mono hz⟩
 | dit m =>
  obtain⟨a,vs,e1,e2,e3,r⟩:=h
  exact⟨a,vs,e1,e2,hs a (by rw[e2];exact .head _) _ e3,r.1,r.2.mono hz⟩
theorem Ow.det (h:Ow F H Z x v A)(h':Ow F H Z x v B):A=B:=by
 cases x with
 | val d=>rw[h.1,h'.1]
 | own ds =>
  obtain⟨a,vs,e1,e2,_⟩:=h
  obtain⟨b,us,f1,f2,_⟩:=h'
  rw[e1]at f1;cases f1
  rw[e2,f2]
 | mat m =>
  obtain⟨a,rs,e1,e2,e3,_⟩:=h
  obtain⟨b,qs,f1,f2,f3,_⟩:=h'
  rw[e1]at f1;cases f1
  rw[e3]at f3
  injection f3 with f3
  injection f3 with f3
  rw[e2,f2,kR f3]
 | dic m =>
  obtain⟨a,vs,e1,e2,_⟩:=h
  obtain⟨b,us,f1,f2,_⟩:=h'
  rw[e1]at f1;cases f1
  rw[e2,f2]
 | dit m =>
  obtain⟨a,vs,e1,e2,_⟩:=h
  obtain⟨b,us,f1,f2,_⟩:=h'
  rw[e1]at f1;cases f1
  rw[e2,f2]
theorem Ow.there (h:Ow F H Z x v A):∀ a∈A,∃ o,H a=some o:=fun a ha=>by
 cases x with
 | val d=>rw[h.1]at ha;cases ha
 | own ds =>
  obtain⟨b,vs,e1,e2,e3,r⟩:=h
  rw[e2]at ha
  cases List.mem_singleton.mp ha
  exact⟨_,e3⟩
 | mat m =>
  obtain⟨b,rs,e1,e2,e3,r⟩:=h
  rw[e2]at ha
  rcases List.mem_cons.mp ha with rfl | ha
  ·exact⟨_,e3⟩
  ·exact r.there a ha
 | dic m =>
  obtain⟨b,vs,e1,e2,e3,r⟩:=h
  rw[e2]at ha
  cases List.mem_singleton.mp ha
  exact⟨_,e3⟩
 | dit m =>
  obtain⟨b,vs,e1,e2,e3,r⟩:=h
  rw[e2]at ha
  cases List.mem_singleton.mp ha
  exact⟨_,e3⟩
theorem StOk.sub (h:StOk F H Z S σ):Same Z H:=h.ex.sub
theorem StOk.more (h:StOk F H Z S σ)(x:Ex H Z H' Z'):StOk F H' Z' S σ:=by
 have up:∀ {y:Sl} {v:V} {A:List Addr},Ow F H Z y v A→Ow F H' Z' y v A:=fun o=>o.mono x.z fun a _ o e=>x.same _ _ e
 refine⟨h.ex.trans x,h.len,fun i y e=>?_,fun i j y z v w A B hij e1 e2 e3 e4 o1 o2=>?_⟩
 ·obtain⟨v,A,e1,o,p⟩:=h.sl i y e
  refine⟨v,A,e1,up o,p.nd,fun a ha=>?_,p.h0⟩
  cases q:Z' a with
  | none=>rfl
  | some u =>
   obtain⟨w,hw⟩:=o.there a ha
   rcases x.new a (by rw[q];simp) with z | z
   ·exact absurd (p.z a ha) z
   ·rw[hw]at z;cases z
 ·obtain⟨v',A',f1,q1,_⟩:=h.sl i y e1
  obtain⟨w',B',f2,q2,_⟩:=h.sl j z e2
  rw[e3]at f1;cases f1
  rw[e4]at f2;cases f2
  rw[o1.det (up q1),o2.det (up q2)]
  exact h.dj i j y z v w A' B' hij e1 e2 e3 e4 q1 q2
theorem StOk.val (h:StOk F H Z S σ)(i:Nat)(d:D)(e:S[i]?=some (some (.val d))):∃ v,σ[i]?=some (some v)∧Rep F.K F.C Z d v:=by
 obtain⟨v,A,e1,o,_⟩:=h.sl i _ e
 exact⟨v,e1,o.2⟩
theorem StOk.own (h:StOk F H Z S σ)(i:Nat)(ds:List D)(e:S[i]?=some (some (.own ds))):∃ a vs,σ[i]?=some (some (.ref a))∧H a=some (.lst vs)∧Z a=none∧F.H0 a=none∧Reps F.K F.C Z ds vs:=by
 obtain⟨v,A,e1,⟨a,vs,rfl,rfl,q,r⟩,p⟩:=h.sl i _ e
 exact⟨a,vs,e1,q,p.z a (.head _),p.h0 a (.head _),r⟩
theorem StOk.put (h:StOk F H Z S σ){i:Nat}(o:Ow F H Z x v A)(p:Priv F Z A)(hn:∀ (j:Nat) (y:Sl) (w:V) (B:List Addr),j≠i→S[j]?=some (some y)→σ[j]?=some (some w)→Ow F H Z y w B→∀ a∈A,a∉B) :
  StOk F H Z (S.set i (some x)) (σ.set i (some v)):=by
 have self:∀ {y:Option Sl},(S.set i (some x))[i]?=some y→y=some x∧i < S.length:=fun {y} e=>by
  by_cases hl:i < S.length
  ·rw[List.getElem?_set_self hl]at e;cases e;exact⟨rfl,hl⟩
  ·rw[List.getElem?_eq_none (by simpa using hl)]at e;cases e
 refine⟨h.ex,by simp[h.len],fun j y e=>?_,fun j k y z w u A' B' hjk e1 e2 e3 e4 o1 o2=>?_⟩
 ·by_cases q:i=j
  ·subst q
   obtain⟨z,hl⟩:=self e
   cases z
   exact⟨v,A,by rw[List.getElem?_set_self (by rw[← h.len];exact hl)],o,p⟩
  ·rw[List.getElem?_set_ne q]at e ⊢
   exact h.sl j y e
 ·by_cases q:i=j
  ·have q2:i≠k:=fun z=>hjk (q ▸ z)
   subst q
   obtain⟨z,hl⟩:=self e1
   cases z
   rw[List.getElem?_set_self (by rw[← h.len];exact hl)]at e3
   cases e3
   rw[List.getElem?_set_ne q2]at e2 e4
   rw[o1.det o]
   exact hn k _ _ _ (Ne.symm q2) e2 e4 o2
  ·rw[List.getElem?_set_ne q]at e1 e3
   by_cases q2:i=k
   ·subst q2
    obtain⟨z,hl⟩:=self e2
    cases z
    rw[List.getElem?_set_self (by rw[← h.len];exact hl)]at e4
    cases e4
    rw[o2.det o]
    exact fun a ha hb=>hn j _ _ _ (Ne.symm q) e1 e3 o1 a hb ha
   ·rw[List.getElem?_set_ne q2]at e2 e4
    exact h.dj j k _ _ _ _ _ _ hjk e1 e2 e3 e4 o1 o2
theorem Priv.nil:Priv F Z []:=⟨List.Pairwise.nil,(fun _ h=>nomatch h),(fun _ h=>nomatch h)⟩
theorem StOk.setVal (h:StOk F H Z S σ){i:Nat}{d:D}{v:V}(r:Rep F.K F.C Z d v):StOk F H Z (S.set i (some (.val d))) (σ.set i (some v)) :=
 h.put (x:=.val d) (A:=[]) ⟨rfl,r⟩ Priv.nil fun _ _ _ _ _ _ _ _ _ ha=>nomatch ha
theorem StOk.putNew (h:StOk F H Z S σ){i:Nat}(e:Ex H Z H' Z')(o:Ow F H' Z' x v A)(p:Priv F Z' A)(hn:∀ a∈A,H a=none):StOk F H' Z' (S.set i (some x)) (σ.set i (some v)):=by
 refine(h.more e).put o p fun j y w B hj e1 e2 o2 a ha hb=>?_
 obtain⟨w',B',f1,q,_⟩:=h.sl j y e1
 rw[e2]at f1;cases f1
 rw[o2.det (q.mono e.z fun a _ o e'=>e.same _ _ e')]at hb
 obtain⟨u,hu⟩:=q.there a hb
 rw[hn a ha]at hu;cases hu
theorem StOk.newOwn (h:StOk F H Z S σ){i:Nat}{a:Addr}{ds:List D}{vs:List V}(hp:H a=none)(r:Reps F.K F.C Z ds vs):StOk F (upd H a (.lst vs)) Z (S.set i (some (.own ds))) (σ.set i (some (.ref a))) :=
 h.putNew (x:=.own ds) (A:=[a]) (Ex.hidden h.sub hp) ⟨a,vs,rfl,rfl,ap,r⟩ ⟨by simp,fun b hb=>by cases List.mem_singleton.mp hb;exact h.sub.free hp,fun b hb=>by cases List.mem_singleton.mp hb;exact h.ex.same.free hp⟩ fun b hb=>by cases List.mem_singleton.mp hb;exact hp
theorem StOk.rewr (h:StOk F H Z S σ){i:Nat}{x':Sl}(e:S[i]?=some (some x))(ev:σ[i]?=some (some v))(o:Ow F H Z x v A)(o':Ow F H' Z x' v A)(hH:∀ b,b∉A→H' b=H b):StOk F H' Z (S.set i (some x')) σ:=by
 have hl:i < S.length:=(List.getElem?_eq_some_iff.mp e).1
 obtain⟨v',A',f1,q1,p⟩:=h.sl i x e
 rw[ev]at f1;cases f1
 cases o.det q1
 have up:∀ {j:Nat} {y:Sl} {w:V} {B:List Addr},j≠i→S[j]?=some (some y)→σ[j]?=some (some w)→Ow F H Z y w B→Ow F H' Z y w B:=fun {j y w B} hj e1 e2 q=>q.mono (Same.refl _) fun b hb u eu=>by
  rw[hH b (h.dj j i y x w v B A hj e1 e e2 ev q o b hb)];exact eu
 refine⟨⟨fun b u q=>?_,h.ex.z,fun b u q=>?_,h.ex.new⟩,by simp[h.len],fun j y q=>?_,fun j k y z w u A' B' hjk e1 e2 e3 e4 o1 o2=>?_⟩
 ·rw[hH b fun z=>by rw[p.h0 b z]at q;cases q];exact h.ex.same b u q
 ·rw[hH b fun z=>by rw[p.z b z]at q;cases q];exact h.ex.sub b u q
 ·by_cases z:i=j
  ·subst z
   rw[List.getElem?_set_self hl]at q;cases q
   exact⟨v,A,ev,o',p⟩
  ·rw[List.getElem?_set_ne z]at q
   obtain⟨w,B,g1,g2,g3⟩:=h.sl j y q
   exact⟨w,B,g1,up (Ne.symm z) q g1 g2,g3⟩
 ·have one:∀ {j:Nat} {y:Sl} {w:V} {B:List Addr},(S.set i (some x'))[j]?=some (some y)→σ[j]?=some (some w)→Ow F H' Z y w B→∃ y0,S[j]?=some (some y0)∧Ow F H Z y0 w B:=fun {j y w B} g1 g2 g3=>by
   by_cases z:i=j
   ·subst z
    rw[List.getElem?_set_self hl]at g1;cases g1
    rw[ev]at g2;cases g2
    rw[g3.det o']
    exact⟨x,e,o⟩
   ·rw[List.getElem?_set_ne z]at g1
    obtain⟨w',B',k1,k2,_⟩:=h.sl j y g1
    rw[g2]at k1;cases k1
    rw[g3.det (up (Ne.symm z) g1 g2 k2)]
    exact⟨y,g1,k2⟩
  obtain⟨y0,a1,a2⟩:=one e1 e3 o1
  obtain⟨z0,b1,b2⟩:=one e2 e4 o2
  exact h.dj j k y0 z0 w u A' B' hjk a1 b1 e3 e4 a2 b2
theorem StOk.write (h:StOk F H Z S σ){i:Nat}{ds es:List D}{a:Addr}{us:List V}(e:S[i]?=some (some (.own ds)))(ha:σ[i]?=some (some (.ref a)))(r:Reps F.K F.C Z es us) :
  StOk F (upd H a (.lst us)) Z (S.set i (some (.own es))) σ:=by
 obtain⟨a',vs,e1,e2,e3,e4,r0⟩:=h.own i ds e
 rw[ha]at e1;cases e1
 exact h.rewr (x:=.own ds) (A:=[a]) e ha ⟨a,vs,rfl,rfl,e2,r0⟩ ⟨a,us,rfl,rfl,ap,r⟩ fun b hb=>ar fun z=>hb (by rw[z];exact .head _)
theorem StOk.frzAll (h:StOk F H Z S σ){i:Nat}{d:D}(e:S[i]?=some (some x))(ev:σ[i]?=some (some v))(o:Ow F H Z x v A)(hz:Same Z Z')(hsub:Same Z' H)(hnew:∀ b,Z' b≠none→Z b≠none∨b∈A)(r:Rep F.K F.C Z' d v):StOk F H Z' (S.set i (some (.val d))) σ:=by
 have hl:i < S.length:=(List.getElem?_eq_some_iff.mp e).1
 obtain⟨v',A',f1,q1,p⟩:=h.sl i x e
 rw[ev]at f1;cases f1
 cases o.det q1
 have up:∀ {y:Sl} {w:V} {B:List Addr},Ow F H Z y w B→Ow F H Z' y w B:=fun q=>q.mono hz fun _ _ _ e=>e
 refine⟨⟨h.ex.same,h.ex.z.trans hz,hsub,fun b q=>?_⟩,by simp[h.len],fun j y q=>?_,fun j k y z w u A' B' hjk e1 e2 e3 e4 o1 o2=>?_⟩
 ·rcases hnew b q with z | z
  ·exact h.ex.new b z
  ·exact .inr (p.h0 b z)
 ·by_cases z:i=j
  ·subst z
   rw[List.getElem?_set_self hl]at q;cases q
   exact⟨v,[],ev,⟨rfl,r⟩,Priv.nil⟩
  ·rw[List.getElem?_set_ne z]at q
   obtain⟨w,B,g1,g2,g3⟩:=h.sl j y q
   refine⟨w,B,g1,up g2,g3.nd,fun b hb=>?_,g3.h0⟩
   cases qz:Z' b with
   | none=>rfl
   | some u =>
    rcases hnew b (by rw[qz];simp) with y1 | y1
    ·exact absurd (g3.z b hb) y1
    ·exact absurd y1 (h.dj j i _ _ _ _ _ _ (Ne.symm z) q e g1 ev g2 o b hb)
 ·have one:∀ {j:Nat} {y:Sl} {w:V} {B:List Addr},(S.set i (some (.val d)))[j]?=some (some y)→σ[j]?=some (some w)→Ow F H Z' y w B→B=[]∨(j≠i∧S[j]?=some (some y)∧Ow F H Z y w B):=fun {j y w B} g1 g2 g3=>by
   by_cases z:i=j
   ·subst z
    rw[List.getElem?_set_self hl]at g1;cases g1
    exact .inl g3.1
   ·rw[List.getElem?_set_ne z]at g1
    obtain⟨w',B',k1,k2,_⟩:=h.sl j y g1
    rw[g2]at k1;cases k1
    rw[g3.det (up k2)]
    exact .inr ⟨Ne.symm z,g1,k2⟩
  rcases one e1 e3 o1 with z1 | ⟨_,z1,z2⟩
  ·rw[z1];exact fun a ha=>nomatch ha
  ·rcases one e2 e4 o2 with y1 | ⟨_,y1,y2⟩
   ·rw[y1];exact fun a _ ha=>nomatch ha
   ·exact h.dj j k _ _ _ _ _ _ hjk z1 y1 e3 e4 z2 y2
theorem StOk.freeze (h:StOk F H Z S σ){i:Nat}{ds:List D}(e:S[i]?=some (some (.own ds))):∃ Z',Same Z Z'∧StOk F H Z' (S.set i (some (.val (.lst ds)))) σ:=by
 obtain⟨a,vs,e1,e2,e3,e4,r⟩:=h.own i ds e
 have hz:Same Z (upd Z a (.lst vs)):=aC e3
 refine⟨upd Z a (.lst vs),hz,h.frzAll (x:=.own ds) (A:=[a]) e e1 ⟨a,vs,rfl,rfl,e2,r⟩ hz (fun b o q=>?_) (fun b q=>?_) (by rw[Rep];exact⟨a,vs,rfl,SqL.of ap,r.mono hz⟩)⟩
 ·by_cases y:b=a
  ·subst y;rw[ap]at q;cases q;exact e2
  ·rw[ar y]at q;exact h.ex.sub b o q
 ·by_cases y:b=a
  ·exact .inr (by rw[y];exact .head _)
  ·rw[ar y]at q;exact .inl q
end
theorem pK {F G:Fx}{H Z:Hp}(hK:G.K=F.K:=by rfl)(hC:G.C=F.C:=by rfl):∀ {m:List (List D)} {rs:List Addr},Rows F H Z m rs→Rows G H Z m rs
 | [],[],_=>trivial
 | ds::m,r::rs,h=>by
  obtain⟨⟨vs,e,q⟩,h⟩:=h
  exact⟨⟨vs,e,by rw[hK,hC];exact q⟩,pK hK hC h⟩
 | [],_::_,h=>h.elim
 | _::_,[],h=>h.elim
theorem ow_K {F G:Fx}{H Z:Hp}{x:Sl}{v:V}{A:List Addr}(h:Ow F H Z x v A)(hK:G.K=F.K:=by rfl)(hC:G.C=F.C:=by rfl):Ow G H Z x v A:=by
 cases x with
 | val d=>exact⟨h.1,by rw[hK,hC];exact h.2⟩
 | own ds=>obtain⟨a,vs,e1,e2,e3,r⟩:=h;exact⟨a,vs,e1,e2,e3,by rw[hK,hC];exact r⟩
 | mat m=>obtain⟨a,rs,e1,e2,e3,r⟩:=h;exact⟨a,rs,e1,e2,e3,pK hK hC r⟩
 | dic m=>obtain⟨a,vs,e1,e2,e3,r⟩:=h;exact⟨a,vs,e1,e2,e3,r.1,by rw[hK,hC];exact r.2⟩
 | dit m=>obtain⟨a,vs,e1,e2,e3,r⟩:=h;exact⟨a,vs,e1,e2,e3,r.1,by rw[hK,hC];exact r.2⟩
end FF
end
noncomputable section
namespace FF
open PySem PySem.Spec PyProof.Rows L2
def WG {α:Type}(F:Fx)(H Z:Hp)(r:R α)(P:α→Hp→Hp→Prop):Prop:=match r with
 | .ok a=>∀ H' Z',Ex H Z H' Z'→P a H' Z'
 | .err k=>∀ H',Same H H'→F.E (.ref (F.C k)) none H'
 | .stuck=>False
section
variable {α:Type}{F:Fx}{H Z H1 Z1:Hp}{r:R α}{P P':α→Hp→Hp→Prop}
theorem WG.more (w:WG F H Z r P)(x:Ex H Z H1 Z1):WG F H1 Z1 r P:=by
 cases r with
 | ok a=>exact fun H' Z' y=>w H' Z' (x.trans y)
 | err k=>exact fun H' y=>w H' (x.same.trans y)
 | stuck=>exact w
theorem WG.now {a:α}(w:WG F H Z (.ok a) P)(s:Same Z H):P a H Z:=w H Z (Ex.refl s)
end
def tE (F:Fx)(g:SS→R D):TE:=fun σ H Q=>∃ Z S,StOk F H Z S σ∧WG F H Z (g S) fun d H' Z'=>∀ v,Rep F.K F.C Z' d v→Q v H'
def tT (F:Fx)(g:SS→R Bool):TT:=fun σ H Q=>∃ Z S,StOk F H Z S σ∧WG F H Z (g S) fun b H' _=>Q b H'
def tAl (F:Fx)(g:SS→R (List D)):TA:=fun σ H Q=>∃ Z S,StOk F H Z S σ∧WG F H Z (g S) fun ds H' Z'=>∀ vs,Reps F.K F.C Z' ds vs→Q vs H'
inductive O where
 | nx (S:SS) | rt (d:D) | er (k:Nat) | bk (S:SS) | ct (S:SS) | stuck
def WO (F:Fx)(Z:Hp)(o:O)(D:Ends):Prop:=match o with
 | .nx S=>∀ σ H Z',Same Z Z'→StOk F H Z' S σ→D.nx σ H
 | .rt d=>∀ v H Z',Ex F.H0 F.Z0 H Z'→Rep F.K F.C Z' d v→D.rt v H
 | .er k=>∀ H,Same F.H0 H→F.E (.ref (F.C k)) none H
 | .bk S=>∀ σ H Z',Same Z Z'→StOk F H Z' S σ→D.bk σ H
 | .ct S=>∀ σ H Z',Same Z Z'→StOk F H Z' S σ→D.ct σ H
 | .stuck=>False
theorem WO.more {F:Fx}{Z Z1:Hp}{o:O}{D:Ends}(w:WO F Z o D)(z:Same Z Z1):WO F Z1 o D:=by
 cases o with
 | nx S=>exact fun σ H Z' q=>w σ H Z' (z.trans q)
 | rt d=>exact w
 | er k=>exact w
 | bk S=>exact fun σ H Z' q=>w σ H Z' (z.trans q)
 | ct S=>exact fun σ H Z' q=>w σ H Z' (z.trans q)
 | stuck=>exact w
def tS (F:Fx)(g:SS→O):TS:=fun D σ H=>∃ Z S,StOk F H Z S σ∧WO F Z (g S) D
abbrev FE (X:Cx)(F:Fx)(e:Expr)(g:SS→R D):Prop:=PE X e (tE F g)
abbrev FT (X:Cx)(F:Fx)(e:Expr)(g:SS→R Bool):Prop:=PT X e (tT F g)
abbrev FW (X:Cx)(F:Fx)(e:Expr)(g:SS→R Bool):Prop:=PW X e (tT F g)
abbrev FA (X:Cx)(F:Fx)(es:List Expr)(g:SS→R (List D)):Prop:=PA X es (tAl F g)
abbrev FS (X:Cx)(F:Fx)(st:Stmt)(g:SS→O):Prop:=PS X st (tS F g)
abbrev FSs (X:Cx)(F:Fx)(sts:List Stmt)(g:SS→O):Prop:=PSs X sts (tS F g)
theorem _root_.L2.PE.weak {X:Cx}{e:Expr}{t t':TE}(h:PE X e t)(w:∀ σ H Q,t' σ H Q→t σ H Q):PE X e t':=fun pins s σ H Q I q=>h pins s σ H Q I (w σ H Q q)
theorem _root_.L2.PT.weak {X:Cx}{e:Expr}{t t':TT}(h:PT X e t)(w:∀ σ H Q,t' σ H Q→t σ H Q):PT X e t':=fun pins s σ H Q I q=>h pins s σ H Q I (w σ H Q q)
theorem _root_.L2.PW.weak {X:Cx}{e:Expr}{t t':TT}(h:PW X e t)(w:∀ σ H Q,t' σ H Q→t σ H Q):PW X e t':=fun wh pins s σ H Q I q=>h wh pins s σ H Q I (w σ H Q q)
theorem _root_.L2.PA.weak {X:Cx}{e:List Expr}{t t':TA}(h:PA X e t)(w:∀ σ H Q,t' σ H Q→t σ H Q):PA X e t':=fun p pins s σ H Q I q=>h p pins s σ H Q I (w σ H Q q)
theorem _root_.L2.PS.weak {X:Cx}{e:Stmt}{t t':TS}(h:PS X e t)(w:∀ D σ H,t' D σ H→t D σ H):PS X e t':=fun pins s σ H D I q=>h pins s σ H D I (w D σ H q)
theorem _root_.L2.PSs.weak {X:Cx}{e:List Stmt}{t t':TS}(h:PSs X e t)(w:∀ D σ H,t' D σ H→t D σ H):PSs X e t':=fun pins s σ H D I q=>h pins s σ H D I (w D σ H q)
section
variable {F:Fx}{σ:St}{H Z:Hp}{S:SS}
theorem aF {α:Type}{g:SS→R D}{k:D→R α}{P:α→Hp→Hp→Prop}{Q:VK}(ok:StOk F H Z S σ)(w:WG F H Z ((g S).bind k) P)
  (h:∀ d v H1 Z1,StOk F H1 Z1 S σ→Ex H Z H1 Z1→Rep F.K F.C Z1 d v→WG F H1 Z1 (k d) P→Q v H1):tE F g σ H Q:=by
 refine⟨Z,S,ok,?_⟩
 cases e:g S with
 | ok d =>
  rw[e]at w
  intro H1 Z1 x v r
  exact h d v H1 Z1 (ok.more x) x r (WG.more (r:=k d) w x)
 | err k=>rw[e]at w;exact w
 | stuck=>rw[e]at w;exact w
theorem eW {α:Type}{g:SS→R Bool}{k:Bool→R α}{P:α→Hp→Hp→Prop}{Q:Bool→Hp→Prop}(ok:StOk F H Z S σ)(w:WG F H Z ((g S).bind k) P)
  (h:∀ b H1 Z1,StOk F H1 Z1 S σ→Ex H Z H1 Z1→WG F H1 Z1 (k b) P→Q b H1):tT F g σ H Q:=by
 refine⟨Z,S,ok,?_⟩
 cases e:g S with
 | ok d =>
  rw[e]at w
  intro H1 Z1 x
  exact h d H1 Z1 (ok.more x) x (WG.more (r:=k d) w x)
 | err k=>rw[e]at w;exact w
 | stuck=>rw[e]at w;exact w
theorem bf {α:Type}{g:SS→R (List D)}{k:List D→R α}{P:α→Hp→Hp→Prop}{Q:List V→Hp→Prop}(ok:StOk F H Z S σ)(w:WG F H Z ((g S).bind k) P)
  (h:∀ ds vs H1 Z1,StOk F H1 Z1 S σ→Ex H Z H1 Z1→Reps F.K F.C Z1 ds vs→WG F H1 Z1 (k ds) P→Q vs H1):tAl F g σ H Q:=by
 refine⟨Z,S,ok,?_⟩
 cases e:g S with
 | ok d =>
  rw[e]at w
  intro H1 Z1 x v r
  exact h d v H1 Z1 (ok.more x) x r (WG.more (r:=k d) w x)
 | err k=>rw[e]at w;exact w
 | stuck=>rw[e]at w;exact w
end
def eVar (i:Nat):SS→R D:=fun S=>match S[i]? with
 | some (some (.val d))=>.ok d
 | _=>.stuck
def eC (d:D):SS→R D:=fun _=>.ok d
section
variable {X:Cx}{F:Fx}{e a b:Expr}{g ga gb:SS→R D}{pos:Pos}
theorem dh {v:V}{d:D}(h:PE X e (tC v))(r:∀ Z,Rep F.K F.C Z d v):FE X F e (eC d):=h.weak fun σ H Q ⟨Z,S,ok,w⟩=>WG.now w ok.sub v (r Z)
theorem ae {i j pos}:FE X F (.Constant (.int i) j pos) (eC (.int i)):=dh pp fun _=>by rw[Rep]
theorem bW {b j pos}:FE X F (.Constant (.bool b) j pos) (eC (.bl b)):=dh u5 fun _=>by rw[Rep]
theorem eH {j pos}:FE X F (.Constant .none j pos) (eC .non):=dh tZ fun _=>by rw[Rep]
theorem a8 {x j pos}:FE X F (.Constant (.str x) j pos) (eC (.str x)):=dh t5 fun _=>by rw[Rep]
theorem ac (i:Nat){x:Str}{pos:Pos}(hN:X.N[i]?=some x:=by rfl)(hv:Vis X.env.scope x:=by first | exact Or.inl rfl | exact Or.inr (Or.inl rfl) | exact Or.inr (Or.inr rfl))(hd:(x==("__debug__":Str))=false:=by decide)
  (hcd:(x==("__classdict__":Str))=false:=by decide):FE X F (.Name x pos) (eVar i):=(g7 hN hv hd hcd).weak fun σ H Q ⟨Z,S,ok,w⟩=>by
 unfold eVar at w
 split at w
 ·rename_i d e
  obtain⟨v,e1,r⟩:=ok.val i d e
  exact⟨v,e1,WG.now w ok.sub v r⟩
 ·exact w.elim
end
def OpD (F:Fx)(r:R2)(f:D→D→R D):Prop:=∀ (H Z:Hp) (x y:V) (dx dy:D) (Q:VK),Same Z H→Rep F.K F.C Z dx x→Rep F.K F.C Z dy y →
 WG F H Z (f dx dy) (fun d H' Z'=>∀ v,Rep F.K F.C Z' d v→Q v H')→r x y H Q
def eOp (f:D→D→R D)(ga gb:SS→R D):SS→R D:=fun S=>(ga S).bind fun x=>(gb S).bind fun y=>f x y
section
variable {X:Cx}{F:Fx}{e a b c:Expr}{ga gb gc:SS→R D}{pos:Pos}{r:R2}{f:D→D→R D}
theorem kg (hd:OpD F r f):∀ σ H Q,tE F (eOp f ga gb) σ H Q→tOp r (tE F ga) (tE F gb) σ H Q:=fun σ H Q ⟨Z,S,ok,w⟩ =>
 aF ok w fun dx x H1 Z1 ok1 x1 rx w1=>aF ok1 w1 fun dy y H2 Z2 ok2 x2 ry w2=>hd H2 Z2 x y dx dy Q ok2.sub (rx.mono x2.z) ry w2
theorem kS {op:Operator}(ho:OpR X (binaryOp op) r)(hd:OpD F r f)(ha:FE X F a ga)(hb:FE X F b gb):FE X F (.BinOp a op b pos) (eOp f ga gb):=(u9 ho ha hb).weak (kg hd)
theorem uw {op:CmpOp}(ho:OpR X (compareOp op) r)(hd:OpD F r f)(ha:FE X F a ga)(hb:FE X F b gb)(hm:behindInMarks op b=false:=by first | exact nomark _ | rfl):FE X F (.Compare a [op] [b] pos) (eOp f ga gb) :=
 (rC ho ha hb hm).weak (kg hd)
theorem vc (ho:IxR X r)(hd:OpD F r f)(ha:FE X F a ga)(hb:FE X F b gb)(hs:PlainIx b:=by intro _ _;rfl):FE X F (.Subscript a b pos) (eOp f ga gb):=(tK ho ha hb hs).weak (kg hd)
def asB (r:R D):R Bool:=r.bind fun d=>match d with
 | .bl b=>.ok b
 | _=>.stuck
def gB (g:SS→R D):SS→R Bool:=fun S=>asB (g S)
theorem pL {t:TE}{g:SS→R D}(h:∀ σ H Q,tE F g σ H Q→t σ H Q):∀ σ H Q,tT F (gB g) σ H Q→tTest t σ H Q:=fun σ H Q ⟨Z,S,ok,w⟩=>by
 refine h σ H _ (aF ok w fun d v H1 Z1 ok1 x1 rv w1=>?_)
 cases d with
 | bl b=>rw[Rep]at rv;exact⟨b,rv,WG.now w1 ok1.sub⟩
 | _=>exact w1.elim
theorem aT {g:SS→R D}(h:FE X F e g)(he:∀ whole,isTrue e X.env whole=(do let v ← whole;standAt e.pos;holding [v] (truthy v)):=by intro _;rfl):FT X F e (gB g) :=
 (t6 h he).weak (pL (t:=tE F g) fun _ _ _ q=>q)
theorem hJ {op:CmpOp}(ho:OpR X (compareOp op) r)(hd:OpD F r f)(ha:FE X F a ga)(hb:FE X F b gb)(hm:behindInMarks op b=false:=by first | exact nomark _ | rfl):FT X F (.Compare a [op] [b] pos) (gB (eOp f ga gb)) :=
 (rD ho ha hb hm).weak (pL (kg hd))
end
def gAnd (a b:SS→R Bool):SS→R Bool:=fun S=>(a S).bind fun c=>if c=true then b S else .ok false
def gOr (a b:SS→R Bool):SS→R Bool:=fun S=>(a S).bind fun c=>if c=true then .ok true else b S
def gNot (a:SS→R Bool):SS→R Bool:=fun S=>(a S).bind fun c=>.ok (!c)
def eIf (c:SS→R Bool)(a b:SS→R D):SS→R D:=fun S=>(c S).bind fun t=>if t=true then a S else b S
section
variable {X:Cx}{F:Fx}{e a b c:Expr}{rest:List Expr}{ta tb tc:SS→R Bool}{ga gb:SS→R D}{pos:Pos}
theorem nu (h:FT X F a ta):FW X F (.BoolOp .And [a] pos) ta:=rz h
theorem cu (h:FT X F a ta):FW X F (.BoolOp .Or [a] pos) ta:=t7 h
theorem pM (ha:FT X F a ta)(hb:FW X F (.BoolOp .And (b::rest) pos) tb):FW X F (.BoolOp .And (a::b::rest) pos) (gAnd ta tb) :=
 (t8 ha hb).weak fun σ H Q ⟨Z,S,ok,w⟩=>eW ok w fun d H1 Z1 ok1 x1 w1=>by
  cases d with
  | true=>exact⟨Z1,S,ok1,w1⟩
  | false=>exact WG.now w1 ok1.sub
theorem cv (ha:FT X F a ta)(hb:FW X F (.BoolOp .Or (b::rest) pos) tb):FW X F (.BoolOp .Or (a::b::rest) pos) (gOr ta tb) :=
 (u6 ha hb).weak fun σ H Q ⟨Z,S,ok,w⟩=>eW ok w fun d H1 Z1 ok1 x1 w1=>by
  cases d with
  | true=>exact WG.now w1 ok1.sub
  | false=>exact⟨Z1,S,ok1,w1⟩
theorem ft_w (h:FW X F e ta):FT X F e ta:=h.pt
theorem aX (h:FT X F a ta):FT X F (.UnaryOp .Not a pos) (gNot ta) :=
 (t9 h).weak fun σ H Q ⟨Z,S,ok,w⟩=>eW ok w fun d H1 Z1 ok1 x1 w1=>WG.now w1 ok1.sub
theorem fI {op}(h:FE X F a ga):FE X F (.BoolOp op [a] pos) ga:=ua h
def eAnd (a b:SS→R D):SS→R D:=fun S=>(asB (a S)).bind fun c=>if c=true then b S else .ok (.bl false)
def eOr (a b:SS→R D):SS→R D:=fun S=>(asB (a S)).bind fun c=>if c=true then .ok (.bl true) else b S
def eNot (a:SS→R D):SS→R D:=fun S=>(asB (a S)).bind fun c=>.ok (.bl (!c))
theorem mw {α:Type}{σ:St}{H Z:Hp}{S:SS}{g:SS→R D}{k:Bool→R α}{P:α→Hp→Hp→Prop}{Q:VK}(ok:StOk F H Z S σ)(w:WG F H Z ((asB (g S)).bind k) P)
  (h:∀ c H1 Z1,StOk F H1 Z1 S σ→Ex H Z H1 Z1→WG F H1 Z1 (k c) P→Q (.bl c) H1):tE F g σ H Q:=by
 have e:(asB (g S)).bind k=(g S).bind fun d=>(match d with | .bl b=>R.ok b | _=>R.stuck).bind k:=by
  unfold asB;cases g S<;>rfl
 rw[e]at w
 refine aF ok w fun d v H1 Z1 ok1 x1 rv w1=>?_
 cases d with
 | bl b=>rw[Rep]at rv;subst rv;exact h b H1 Z1 ok1 x1 w1
 | _=>exact w1.elim
theorem hR (ha:FE X F a ga)(hb:FE X F (.BoolOp .And (b::rest) pos) gb):FE X F (.BoolOp .And (a::b::rest) pos) (eAnd ga gb) :=
 (ub ha hb).weak fun σ H Q ⟨Z,S,ok,w⟩=>mw ok w fun c H1 Z1 ok1 x1 w1=>⟨c,rfl,by
  cases c with
  | true=>exact⟨Z1,S,ok1,w1⟩
  | false=>exact WG.now w1 ok1.sub _ (by rw[Rep])⟩
theorem vd (ha:FE X F a ga)(hb:FE X F (.BoolOp .Or (b::rest) pos) gb):FE X F (.BoolOp .Or (a::b::rest) pos) (eOr ga gb) :=
 (u7 ha hb).weak fun σ H Q ⟨Z,S,ok,w⟩=>mw ok w fun c H1 Z1 ok1 x1 w1=>⟨c,rfl,by
  cases c with
  | true=>exact WG.now w1 ok1.sub _ (by rw[Rep])
  | false=>exact⟨Z1,S,ok1,w1⟩⟩
theorem ux (ha:FE X F a ga):FE X F (.UnaryOp .Not a pos) (eNot ga) :=
 (uc ha).weak fun σ H Q ⟨Z,S,ok,w⟩=>mw ok w fun c H1 Z1 ok1 x1 w1=>⟨c,rfl,WG.now w1 ok1.sub _ (by rw[Rep])⟩
theorem nv (hc:FT X F c tc)(ha:FE X F a ga)(hb:FE X F b gb):FE X F (.IfExp c a b pos) (eIf tc ga gb) :=
 (pq hc ha hb).weak fun σ H Q ⟨Z,S,ok,w⟩=>eW ok w fun d H1 Z1 ok1 x1 w1=>by
  cases d with
  | true=>exact⟨Z1,S,ok1,w1⟩
  | false=>exact⟨Z1,S,ok1,w1⟩
end
def aNil:SS→R (List D):=fun _=>.ok []
def aCons (g:SS→R D)(gs:SS→R (List D)):SS→R (List D):=fun S=>(g S).bind fun d=>(gs S).bind fun ds=>.ok (d::ds)
def eTup (gs:SS→R (List D)):SS→R D:=fun S=>(gs S).bind fun ds=>if ds.length≤16777216 then .ok (.tup ds) else .stuck
def eLst (gs:SS→R (List D)):SS→R D:=fun S=>(gs S).bind fun ds=>if ds.length≤16777216 then .ok (.lst ds) else .stuck
section
variable {X:Cx}{F:Fx}{e:Expr}{es:List Expr}{g:SS→R D}{gs:SS→R (List D)}{pos:Pos}
theorem uy:FA X F [] aNil:=mq.weak fun σ H Q ⟨Z,S,ok,w⟩=>WG.now w ok.sub [] Reps.nil
theorem rP (ha:FE X F e g)(hr:FA X F es gs)(hs:starEach (e::es) X.env=(false,eval e X.env)::starEach es X.env:=by rfl):FA X F (e::es) (aCons g gs) :=
 (gP ha hr hs).weak fun σ H Q ⟨Z,S,ok,w⟩=>aF ok w fun d v H1 Z1 ok1 x1 rv w1=>bf ok1 w1 fun ds vs H2 Z2 ok2 x2 rs w2=>WG.now w2 ok2.sub _ (Reps.cons (rv.mono x2.z) rs)
theorem pN {x1}(h:FA X F es gs):FE X F (.Tuple es x1 pos) (eTup gs) :=
 (um h).weak fun σ H Q ⟨Z,S,ok,w⟩=>bf ok w fun ds vs H1 Z1 ok1 x1 rs w1=>by
  split at w1
  ·rename_i hl
   refine⟨by rw[← rs.length,sizeLine_eq];exact hl,fun p hp=>?_⟩
   have z:Same Z1 (upd Z1 p (.tup vs)):=aC (ok1.sub.free hp)
   exact w1 _ _ (Ex.alloc ok1.sub hp) _ (by rw[Rep];exact⟨p,vs,rfl,SqT.of ap,rs.mono z⟩)
  ·exact w1.elim
theorem uz (h:FA X F es gs):FE X F (.List es pos) (eLst gs) :=
 (pE h).weak fun σ H Q ⟨Z,S,ok,w⟩=>bf ok w fun ds vs H1 Z1 ok1 x1 rs w1=>by
  split at w1
  ·rename_i hl
   refine⟨by rw[← rs.length,sizeLine_eq];exact hl,fun p hp=>?_⟩
   have z:Same Z1 (upd Z1 p (.lst vs)):=aC (ok1.sub.free hp)
   exact w1 _ _ (Ex.alloc ok1.sub hp) _ (by rw[Rep];exact⟨p,vs,rfl,SqL.of ap,rs.mono z⟩)
  ·exact w1.elim
end
def rO (r:R O):O:=match r with
 | .ok o=>o
 | .err k=>.er k
 | .stuck=>.stuck
def sDrop (g:SS→R D):SS→O:=fun S=>rO ((g S).bind fun _=>.ok (.nx S))
def sRet (g:SS→R D):SS→O:=fun S=>rO ((g S).bind fun d=>.ok (.rt d))
def sSet (i:Nat)(g:SS→R D):SS→O:=fun S=>rO ((g S).bind fun d=>.ok (.nx (S.set i (some (.val d)))))
section
variable {X:Cx}{F:Fx}{st:Stmt}{rest:List Stmt}{e c:Expr}{g:SS→R D}{gt:SS→R Bool}{ga gb:SS→O}{pos:Pos}
theorem WO.wg {D:Ends}{r:R O}{H Z:Hp}{S:SS}{σ:St}(ok:StOk F H Z S σ)(w:WO F Z (rO r) D):WG F H Z r fun o _ Z'=>WO F Z' o D:=by
 cases r with
 | ok o=>exact fun _ _ x=>WO.more w x.z
 | err k=>exact fun H' s=>w H' (ok.ex.same.trans s)
 | stuck=>exact w
theorem gQ (h:FE X F e g)(hs:swapsWith e none pos.line X.env=pure false:=by rfl):FS X F (.Expr e pos) (sDrop g) :=
 (j3 h hs).weak fun D σ H ⟨Z,S,ok,w⟩=>aF ok (WO.wg ok w) fun d v H1 Z1 ok1 x1 rv w1=>WG.now w1 ok1.sub σ H1 Z1 (Same.refl _) ok1
theorem ah (h:FE X F e g):FS X F (.Return (some e) pos) (sRet g) :=
 (ud h).weak fun D σ H ⟨Z,S,ok,w⟩=>aF ok (WO.wg ok w) fun d v H1 Z1 ok1 x1 rv w1=>WG.now w1 ok1.sub v H1 Z1 ok1.ex rv
theorem aw (i:Nat){x:Str}{pos':Pos}(hN:X.N.Nodup)(h:FE X F e g)(hi:X.N[i]?=some x:=by rfl)(hx:Loc X.env.scope x:=by first | exact Or.inl rfl | exact Or.inr rfl)
  (hs:swapsWith e (some (.Name x pos')) pos.line X.env=pure false:=by rfl) (hf:X.fn x=true∨X.env.scope.names.lookup x=some .local:=by first | exact .inl rfl | exact .inr rfl):FS X F (.Assign [.Name x pos'] e pos) (sSet i g) :=
 (mj hN hi hx h hs hf).weak fun D σ H ⟨Z,S,ok,w⟩=>aF ok (WO.wg ok w) fun d v H1 Z1 ok1 x1 rv w1=>WG.now w1 ok1.sub _ _ _ (Same.refl _) (ok1.setVal rv)
end
end FF
end
noncomputable section
namespace FF
open PySem PySem.Spec PyProof.Rows L2
theorem OpD.or {F:Fx}{r r':R2}{f f':D→D→R D}(p:D→D→Bool)(h:OpD F r f)(h':OpD F r' f'):OpD F (fun x y H Q=>r x y H Q∨r' x y H Q) (fun x y=>if p x y=true then f x y else f' x y):=by
 intro H Z x y dx dy Q s rx ry w
 by_cases e:p dx dy=true
 ·dsimp only at w;rw[if_pos e]at w;exact .inl (h H Z x y dx dy Q s rx ry w)
 ·dsimp only at w;rw[if_neg e]at w;exact .inr (h' H Z x y dx dy Q s rx ry w)
def dI (c:Int→Int→Bool)(g:Int→Int→D):D→D→R D
 | .int i,.int j=>if c i j=true then .ok (g i j) else .stuck
 | _,_=>.stuck
def dI0 (g:Int→Int→D):D→D→R D
 | .int i,.int j=>.ok (g i j)
 | _,_=>.stuck
theorem pO {F:Fx}{C:Int→Int→Prop}{c:Int→Int→Bool}{g:Int→Int→V}{g':Int→Int→D}(hc:∀ i j,c i j=true→C i j)(hg:∀ i j Z,Rep F.K F.C Z (g' i j) (g i j)):OpD F (rI C g) (dI c g'):=by
 intro H Z x y dx dy Q s rx ry w
 cases dx with
 | int i =>
  cases dy with
  | int j =>
   rw[Rep]at rx
   rw[Rep]at ry
   subst rx;subst ry
   unfold dI at w
   dsimp only at w
   split at w
   ·rename_i q;exact⟨i,j,rfl,rfl,hc i j q,WG.now w s _ (hg i j Z)⟩
   ·exact w.elim
  | _=>exact w.elim
 | _=>exact w.elim
theorem cS {F:Fx}{g:Int→Int→V}{g':Int→Int→D}(hg:∀ i j Z,Rep F.K F.C Z (g' i j) (g i j)):OpD F (rI0 g) (dI0 g'):=by
 intro H Z x y dx dy Q s rx ry w
 cases dx with
 | int i =>
  cases dy with
  | int j =>
   rw[Rep]at rx
   rw[Rep]at ry
   subst rx;subst ry
   exact⟨i,j,rfl,rfl,WG.now w s _ (hg i j Z)⟩
  | _=>exact w.elim
 | _=>exact w.elim
def cMul (i j:Int):Bool:=(decide (-(2^64) < i)&&decide (i < 2^64))||(decide (-(2^64) < j)&&decide (j < 2^64))
def cDiv (i j:Int):Bool:=decide (0 < j)&&decide (j < 1073741824)
theorem rQ (i j:Int)(h:cMul i j=true):CMul i j:=by
 unfold cMul at h
 simp only[Bool.or_eq_true,Bool.and_eq_true,decide_eq_true_eq]at h
 exact h
theorem rR (i j:Int)(h:cDiv i j=true):CDiv i j:=by
 unfold cDiv at h
 simp only[Bool.and_eq_true,decide_eq_true_eq]at h
 exact h
def isInt:D→Bool
 | .int _=>true
 | _=>false
def isTup:D→Bool
 | .tup _=>true
 | _=>false
def isLst:D→Bool
 | .lst _=>true
 | _=>false
def dCatT:D→D→R D
 | .tup xs,.tup ys=>if xs.length+ys.length≤16777216 then .ok (.tup (xs++ys)) else .stuck
 | _,_=>.stuck
def dCatL:D→D→R D
 | .lst xs,.lst ys=>if xs.length+ys.length≤16777216 then .ok (.lst (xs++ys)) else .stuck
 | _,_=>.stuck
def dRepT:D→D→R D
 | .tup xs,.int k=>if 0≤k∧k < 1000000∧xs.length*k.toNat≤16777216 then .ok (.tup (List.replicate k.toNat xs).flatten) else .stuck
 | _,_=>.stuck
def dRepL:D→D→R D
 | .lst xs,.int k=>if 0≤k∧k < 1000000∧xs.length*k.toNat≤16777216 then .ok (.lst (List.replicate k.toNat xs).flatten) else .stuck
 | _,_=>.stuck
def dIx:D→D→R D
 | .tup xs,.int i=>match atI xs i with
  | some d=>.ok d
  | none=>.stuck
 | .lst xs,.int i=>match atI xs i with
  | some d=>.ok d
  | none=>.stuck
 | _,_=>.stuck
theorem Reps.at {K:PySem.W.Frag}{C:Nat→Addr}{Z:Hp}{ds:List D}{vs:List V}{i:Int}{d:D}(r:Reps K C Z ds vs)(h:atI ds i=some d):∃ v,atI vs i=some v∧Rep K C Z d v:=by
 unfold atI at h ⊢
 rw[← r.length]
 cases e:ixN ds.length i with
 | none=>rw[e]at h;cases h
 | some j =>
  rw[e]at h
  exact r.get (i:=j) h
theorem uA {F:Fx}:OpD F (rIx F.K) dIx:=by
 intro H Z x y dx dy Q s rx ry w
 cases dx with
 | tup ds =>
  cases dy with
  | int i =>
   rw[Rep]at rx
   rw[Rep]at ry
   obtain⟨a,vs,rfl,h1,h2⟩:=rx
   subst ry
   unfold dIx at w
   dsimp only at w
   split at w
   ·rename_i d e
    obtain⟨v,e1,r⟩:=h2.at e
    exact .inr (.inl ⟨a,vs,i,v,rfl,rfl,h1.mono s,e1,WG.now w s v r⟩)
   ·exact w.elim
  | _=>exact w.elim
 | lst ds =>
  cases dy with
  | int i =>
   rw[Rep]at rx
   rw[Rep]at ry
   obtain⟨a,vs,rfl,h1,h2⟩:=rx
   subst ry
   unfold dIx at w
   dsimp only at w
   split at w
   ·rename_i d e
    obtain⟨v,e1,r⟩:=h2.at e
    exact .inl ⟨a,vs,i,v,rfl,rfl,s.seq h1,e1,WG.now w s v r⟩
   ·exact w.elim
  | _=>exact w.elim
 | _=>exact w.elim
section
open AutoSeq1 (wpAny_loadPart')
theorem kT (l b:Addr)(items items2:Array Value)(n n2:Nat)(dd dd2:Option Addr)(sl sl2:Array (Option Value))(hc0:items.isEmpty=true) :
  Meets (Builtin.«tuple.__add__» ⟨[.ref l,.ref b],[]⟩) (fun _ R s=>s.heap.get? l=some { cls:=.type "tuple",dict:=dd,data:=.seq items n,slots:=sl }∧s.heap.get? b=some { cls:=.type "tuple",dict:=dd2,data:=.seq items2 n2,slots:=sl2 }∧R (.ok (.ret (.ref b))) s) :=
 .of_wp fun prog w A R s h=>by
  obtain⟨hp,g,d,tk,os⟩:=s;obtain⟨hl,hb,h⟩:=h
  have f2:=AutoSeq1.sub_tuple_tuple
  have f3:=AutoSeq1.sub_list_list
  wp_walk using wpAny_loadPart' hl,wpAny_loadPart' hb
  exact⟨_,rfl,h⟩
end
theorem eX {K:PySem.W.Frag}{C:Nat→Addr}{Z:Hp}{ds:List D}{vs:List V}(r:Reps K C Z ds vs):∀ k:Nat,Reps K C Z (List.replicate k ds).flatten (List.replicate k vs).flatten
 | 0=>Reps.nil
 | k+1=>by
  rw[List.replicate_succ,List.replicate_succ,List.flatten_cons,List.flatten_cons]
  exact r.append (eX r k)
def rCat2 (K:PySem.W.Frag):R2:=fun x y H Q=>∃ a b xs ys,x=.ref a∧y=.ref b∧SqT K H a xs∧SqT K H b ys∧xs.length+ys.length≤sizeLine∧(∀ p,H p=none→Q (.ref p) (upd H p (.tup (xs++ys))))∧(ys=[]→Q (.ref a) H)∧(xs=[]→Q (.ref b) H)
theorem rS {X:Cx}:OpR X (binaryOp .Add) (rCat2 X.K):=by
 intro pins s σ H x y v u Q I rx ry h
 obtain⟨a,b,xs,ys,rfl,rfl,ha,hb,hz,q1,q2,q3⟩:=h
 by_cases hx:xs=[]
 ·cases rx
  cases ry
  obtain⟨its,r1,p1,_⟩:=I.tuple ha
  obtain⟨its2,r2,p2,_⟩:=I.tuple hb
  obtain⟨⟨cls,dd,data,sl⟩,ho,hc,n,hd⟩:=id p1
  obtain⟨⟨cls2,dd2,data2,sl2⟩,ho2,hc2,n2,hd2⟩:=id p2
  simp only at hc hd hc2 hd2
  subst hc hd hc2 hd2
  have he:its=[]:=by
   have:=r1.length
   rw[hx]at this
   exact List.length_eq_zero_iff.mp this.symm
  exact concat_meets ⟨_,ho,rfl⟩ ⟨_,ho2,rfl⟩ noFill_tuple_add seq_tuple_add PySem.F.slot_tuple_add PySem.F.entry_tuple_add (PySem.F.args_tuple_add_2 _ _)
   (kT a b its.toArray its2.toArray n n2 dd dd2 sl sl2 (by simp[he])) ⟨ho,ho2,⟨.ref b,H,I,rfl,q3 hx⟩⟩
 ·exact rK pins s σ H _ _ v u Q I rx ry ⟨a,b,xs,ys,rfl,rfl,ha,hb,hx,hz,q2,fun _=>q1⟩
theorem pP {F:Fx}:OpD F (rCat2 F.K) dCatT:=by
 intro H Z x y dx dy Q s rx ry w
 cases dx with
 | tup ds =>
  cases dy with
  | tup es =>
   rw[Rep]at rx
   rw[Rep]at ry
   obtain⟨a,vs,rfl,h1,h2⟩:=rx
   obtain⟨b,us,rfl,k1,k2⟩:=ry
   unfold dCatT at w
   dsimp only at w
   split at w
   ·rename_i hl
    refine⟨a,b,vs,us,rfl,rfl,h1.mono s,k1.mono s,by rw[← h2.length,← k2.length,sizeLine_eq];exact hl,fun p hp=>?_,fun e=>?_,fun e=>?_⟩
    ·have z:Same Z (upd Z p (.tup (vs++us))):=aC (s.free hp)
     exact w _ _ (Ex.alloc s hp) _ (by rw[Rep];exact⟨p,_,rfl,SqT.of ap,(h2.append k2).mono z⟩)
    ·have:es=[]:=List.length_eq_zero_iff.mp (by rw[k2.length,e];rfl)
     subst this
     exact WG.now w s _ (by rw[List.append_nil,Rep];exact⟨a,vs,rfl,h1,h2⟩)
    ·have:ds=[]:=List.length_eq_zero_iff.mp (by rw[h2.length,e];rfl)
     subst this
     exact WG.now w s _ (by rw[List.nil_append,Rep];exact⟨b,us,rfl,k1,k2⟩)
   ·exact w.elim
  | _=>exact w.elim
 | _=>exact w.elim
def rRepT (K:PySem.W.Frag):R2:=fun x y H Q=>∃ a k xs,x=.ref a∧y=.int k∧SqT K H a xs∧0≤k∧k < 1000000∧xs.length*k.toNat≤sizeLine∧(∀ p,H p=none→Q (.ref p) (upd H p (.tup (List.replicate k.toNat xs).flatten)))∧((List.replicate k.toNat xs).flatten=xs→Q (.ref a) H)
theorem rT {X:Cx}:OpR X (binaryOp .Mult) (rRepT X.K):=by
 intro pins s σ H x y v u Q I rx ry h
 obtain⟨a,k,xs,rfl,rfl,ha,h0,h1,hz,q1,q2⟩:=h
 cases rx
 obtain⟨t,rfl⟩:=ry
 obtain⟨its,r,p1,_⟩:=I.tuple ha
 have hl:=r.length
 obtain⟨⟨cls,dd,data,sl⟩,ho,hc,n,hd⟩:=id p1
 simp only at hc hd
 subst hc hd
 refine wpAny_binaryOp_repeat_ref (T := "tuple") (U := "int") (by decide) ⟨_,ho,rfl⟩ (fun s'=>typeIs_int s' k t) fH PySem.F.fills_int_mul PySem.F.slot_int_rmul ke PySem.F.slot_int_index.lookup
  (call_meets PySem.F.slot_int_rmul (typeIs_int s k t) PySem.F.entry_int_rmul (PySem.F.args_int_rmul_2 _ _) (hG k t a its.toArray n dd sl) ⟨ho,rfl,⟨_,ho,rfl⟩,?_⟩)
 cases its with
 | nil =>
  have hx:xs=[]:=List.length_eq_zero_iff.mp hl
  have e:(List.replicate k.toNat xs).flatten=xs:=by rw[hx];simp
  exact call_meets PySem.F.slot_tuple_mul ⟨_,ho,rfl⟩ PySem.F.entry_tuple_mul (PySem.F.args_tuple_mul_2 _ _) (ji a n k t dd sl h0 h1) ⟨ho,⟨.ref a,H,I,rfl,q2 e⟩⟩
 | cons it its' =>
  have hne:(it::its').toArray.isEmpty=false:=by simp
  by_cases k1:k=1
  ·subst k1
   have e:(List.replicate (1:Int).toNat xs).flatten=xs:=by simp
   exact call_meets PySem.F.slot_tuple_mul ⟨_,ho,rfl⟩ PySem.F.entry_tuple_mul (PySem.F.args_tuple_mul_2 _ _) (jh a _ n t dd sl) ⟨ho,⟨.ref a,H,I,rfl,q2 e⟩⟩
  ·by_cases k0:k=0
   ·subst k0
    refine call_meets PySem.F.slot_tuple_mul ⟨_,ho,rfl⟩ PySem.F.entry_tuple_mul (PySem.F.args_tuple_mul_2 _ _) (hI a _ n t dd sl hne) ⟨ho,?_⟩
    refine⟨.ref s.heap.objs.size,_,I.laid (t':=s.toks) (o:=.tup []) (fun b ob q=>Heap.get?_push_of_some _ q) (Nat.le_refl _) ?_,rfl,q1 _ (I.hok.fresh (Nat.le_refl _))⟩
    exact⟨Nat.zero_le _,[],.nil,TupO.new _ _⟩
   ·refine call_meets PySem.F.slot_tuple_mul ⟨_,ho,rfl⟩ PySem.F.entry_tuple_mul (PySem.F.args_tuple_mul_2 _ _) (jg a _ n k t dd sl (by omega) h1 (by rw[List.size_toArray,← hl];exact hz) hne) ⟨ho,?_⟩
    have ef:=fF (it::its') k.toNat []
    rw[List.nil_append]at ef
    have ef':List.foldl (fun x1 x2=>x1++x2) #[] (List.replicate k.toNat (it::its').toArray)=(List.replicate k.toNat (it::its')).flatten.toArray:=ef
    rw[ef']
    refine⟨.ref s.heap.objs.size,_,I.laid (t':=s.toks) (o:=.tup (List.replicate k.toNat xs).flatten) (fun b ob q=>Heap.get?_push_of_some _ q) (Nat.le_refl _) ?_,rfl,q1 _ (I.hok.fresh (Nat.le_refl _))⟩
    exact⟨by rw[nr,Nat.mul_comm];exact hz,_,r.rep k.toNat,TupO.new _ _⟩
theorem pQ {F:Fx}:OpD F (rRepT F.K) dRepT:=by
 intro H Z x y dx dy Q s rx ry w
 cases dx with
 | tup ds =>
  cases dy with
  | int k =>
   rw[Rep]at rx
   rw[Rep]at ry
   obtain⟨a,vs,rfl,h1,h2⟩:=rx
   subst ry
   unfold dRepT at w
   dsimp only at w
   split at w
   ·rename_i hk
    refine⟨a,k,vs,rfl,rfl,h1.mono s,hk.1,hk.2.1,by rw[← h2.length,sizeLine_eq];exact hk.2.2,fun p hp=>?_,fun e=>?_⟩
    ·have z:Same Z (upd Z p (.tup (List.replicate k.toNat vs).flatten)):=aC (s.free hp)
     exact w _ _ (Ex.alloc s hp) _ (by rw[Rep];exact⟨p,_,rfl,SqT.of ap,(eX h2 k.toNat).mono z⟩)
    ·refine WG.now w s _ ?_
     rw[Rep]
     exact⟨a,vs,rfl,h1,by have:=eX h2 k.toNat;rw[e]at this;exact this⟩
   ·exact w.elim
  | _=>exact w.elim
 | _=>exact w.elim
theorem pR {F:Fx}:OpD F (fun x y H Q=>∃ a b xs ys,x=.ref a∧y=.ref b∧SqL F.K H a xs∧SqL F.K H b ys∧xs.length+ys.length≤sizeLine∧∀ p,H p=none→Q (.ref p) (upd H p (.lst (xs++ys)))) dCatL:=by
 intro H Z x y dx dy Q s rx ry w
 cases dx with
 | lst ds =>
  cases dy with
  | lst es =>
   rw[Rep]at rx
   rw[Rep]at ry
   obtain⟨a,vs,rfl,h1,h2⟩:=rx
   obtain⟨b,us,rfl,k1,k2⟩:=ry
   unfold dCatL at w
   dsimp only at w
   split at w
   ·rename_i hl
    refine⟨a,b,vs,us,rfl,rfl,s.seq h1,s.seq k1,by rw[← h2.length,← k2.length,sizeLine_eq];exact hl,fun p hp=>?_⟩
    have z:Same Z (upd Z p (.lst (vs++us))):=aC (s.free hp)
    exact w _ _ (Ex.alloc s hp) _ (by rw[Rep];exact⟨p,_,rfl,SqL.of ap,(h2.append k2).mono z⟩)
   ·exact w.elim
  | _=>exact w.elim
 | _=>exact w.elim
theorem pS {X:Cx}:OpR X (binaryOp .Add) (fun x y H Q=>∃ a b xs ys,x=.ref a∧y=.ref b∧SqL X.K H a xs∧SqL X.K H b ys∧xs.length+ys.length≤sizeLine∧∀ p,H p=none→Q (.ref p) (upd H p (.lst (xs++ys)))):=by
 intro pins s σ H x y v u Q I rx ry h
 obtain⟨a,b,xs,ys,rfl,rfl,ha,hb,hz,q⟩:=h
 cases rx
 cases ry
 obtain⟨its,r,⟨o,n,e,c1,c2,c3⟩,_⟩:=I.list ha
 obtain⟨its2,r2,⟨o2,n2,e2,d1,d2,d3⟩,_⟩:=I.list hb
 have l1:=r.length
 have l2:=r2.length
 obtain⟨cls,dd,data,sl⟩:=o
 obtain⟨cls2,dd2,data2,sl2⟩:=o2
 simp only at c1 c3 d1 d3
 subst c1 c3 d1 d3
 refine concat_meets ⟨_,e,rfl⟩ ⟨_,e2,rfl⟩ noFill_list_add seq_list_add PySem.F.slot_list_add PySem.F.entry_list_add (PySem.F.args_list_add_2 _ _) (n8 a b its.toArray its2.toArray n n2 dd dd2 sl sl2 (by rw[List.size_toArray,List.size_toArray];omega)) ⟨e,e2,?_⟩
 have ea:its.toArray++its2.toArray=(its++its2).toArray:=by simp
 rw[ea]
 exact⟨.ref _,_,I.lnew (t':=s.toks) (r.append r2) (by rw[List.length_append];omega),rfl,q _ I.fresh⟩
def rRepL (K:PySem.W.Frag):R2:=fun x y H Q=>∃ a k xs,x=.ref a∧y=.int k∧SqL K H a xs∧0≤k∧k < 1000000∧xs.length*k.toNat≤sizeLine∧∀ p,H p=none→Q (.ref p) (upd H p (.lst (List.replicate k.toNat xs).flatten))
theorem rV {X:Cx}:OpR X (binaryOp .Mult) (rRepL X.K):=by
 intro pins s σ H x y v u Q I rx ry h
 obtain⟨a,k,xs,rfl,rfl,ha,h0,h1,hz,q⟩:=h
 cases rx
 obtain⟨t,rfl⟩:=ry
 obtain⟨its,r,⟨o,n,e,c1,c2,c3⟩,_⟩:=I.list ha
 have hl:=r.length
 obtain⟨cls,dd,data,sl⟩:=o
 simp only at c1 c3
 subst c1 c3
 refine wpAny_binaryOp_repeat_ref (T := "list") (U := "int") (by decide) ⟨_,e,rfl⟩ (fun s'=>typeIs_int s' k t) noFill_list_mul PySem.F.fills_int_mul PySem.F.slot_int_rmul repeat_list PySem.F.slot_int_index.lookup
  (call_meets PySem.F.slot_int_rmul (typeIs_int s k t) PySem.F.entry_int_rmul (PySem.F.args_int_rmul_2 _ _) (jj k t a its.toArray n dd sl) ⟨e,rfl,⟨_,e,rfl⟩,
   call_meets PySem.F.slot_list_mul ⟨_,e,rfl⟩ PySem.F.entry_list_mul (PySem.F.args_list_mul_2 _ _) (n9 a its.toArray n k t dd sl (by omega) (by omega) (by rw[List.size_toArray,← hl];exact hz)) ⟨e,?_⟩⟩)
 have hnew:List.foldl (fun x1 x2=>x1++x2) #[] (List.replicate (if its.toArray.isEmpty=true then 0 else k.toNat) its.toArray)=(List.replicate k.toNat its).flatten.toArray:=by
  have f0:∀ m:Nat,List.foldl (fun x1 x2=>x1++x2) #[] (List.replicate m its.toArray)=(List.replicate m its).flatten.toArray:=fun m=>by
   have:=fF its m []
   rwa [List.nil_append]at this
  rw[f0]
  cases its with
  | nil=>simp
  | cons a r'=>rw[if_neg (by simp)]
 rw[hnew]
 exact⟨.ref _,_,I.lnew (t':=s.toks) (r.rep k.toNat) (by rw[nr,Nat.mul_comm];exact hz),rfl,q _ I.fresh⟩
theorem pT {F:Fx}:OpD F (rRepL F.K) dRepL:=by
 intro H Z x y dx dy Q s rx ry w
 cases dx with
 | lst ds =>
  cases dy with
  | int k =>
   rw[Rep]at rx
   rw[Rep]at ry
   obtain⟨a,vs,rfl,h1,h2⟩:=rx
   subst ry
   unfold dRepL at w
   dsimp only at w
   split at w
   ·rename_i hk
    refine⟨a,k,vs,rfl,rfl,s.seq h1,hk.1,hk.2.1,by rw[← h2.length,sizeLine_eq];exact hk.2.2,fun p hp=>?_⟩
    have z:Same Z (upd Z p (.lst (List.replicate k.toNat vs).flatten)):=aC (s.free hp)
    exact w _ _ (Ex.alloc s hp) _ (by rw[Rep];exact⟨p,_,rfl,SqL.of ap,(eX h2 k.toNat).mono z⟩)
   ·exact w.elim
  | _=>exact w.elim
 | _=>exact w.elim
mutual
def eqD:D→D→Bool
 | .non,.non=>true
 | .bl a,.bl b=>a==b
 | .bl a,.int b=>(if a then 1 else 0)==b
 | .int a,.bl b=>a==(if b then 1 else 0)
 | .int a,.int b=>a==b
 | .str a,.str b=>a==b
 | .tup xs,.tup ys=>eqDs xs ys
 | .lst xs,.lst ys=>eqDs xs ys
 | _,_=>false
def eqDs:List D→List D→Bool
 | [],[]=>true
 | x::xs,y::ys=>eqD x y&&eqDs xs ys
 | _,_=>false
end
mutual
def good:Nat→D→Bool
 | _,.exc _=>false
 | _,.fn _=>false
 | 0,.tup _=>false
 | 0,.lst _=>false
 | n+1,.tup xs=>goods n xs
 | n+1,.lst xs=>goods n xs
 | _,_=>true
def goods:Nat→List D→Bool
 | _,[]=>true
 | n,x::xs=>good n x&&goods n xs
end
end FF
end
noncomputable section
namespace FF
open PySem PySem.Spec PyProof.Rows L2
mutual
theorem dL:∀ (n:Nat) (d:D),good n d=true→eqD d d=true
 | n,.non,_=>by simp[eqD]
 | n,.bl b,_=>by simp[eqD]
 | n,.int i,_=>by simp[eqD]
 | n,.str x,_=>by simp[eqD]
 | 0,.tup xs,h=>by simp[good]at h
 | 0,.lst xs,h=>by simp[good]at h
 | n+1,.tup xs,h=>by rw[good]at h;rw[eqD];exact fJ n xs h
 | n+1,.lst xs,h=>by rw[good]at h;rw[eqD];exact fJ n xs h
 | n,.exc k,h=>by cases n<;>simp[good]at h
 | n,.fn k,h=>by cases n<;>simp[good]at h
theorem fJ:∀ (n:Nat) (ds:List D),goods n ds=true→eqDs ds ds=true
 | n,[],_=>by simp[eqDs]
 | n,d::ds,h=>by
  rw[goods,Bool.and_eq_true]at h
  rw[eqDs,dL n d h.1,fJ n ds h.2]
  rfl
end
theorem aI {n:Nat}:∀ {ds:List D} {i:Nat} {d:D},goods n ds=true→ds[i]?=some d→good n d=true
 | [],_,_,_,e=>by simp at e
 | x::xs,0,d,h,e=>by
  rw[goods,Bool.and_eq_true]at h
  simp at e;subst e;exact h.1
 | x::xs,i+1,d,h,e=>by
  rw[goods,Bool.and_eq_true]at h
  exact aI h.2 (by simpa using e)
theorem cw:∀ (ds es:List D),eqDs ds es=((List.range (min ds.length es.length)).all (fun j=>eqD (ds.getD j .non) (es.getD j .non))&&ds.length==es.length)
 | [],[]=>by simp[eqDs]
 | [],e::es=>by simp[eqDs]
 | d::ds,[]=>by simp[eqDs]
 | d::ds,e::es=>by
  rw[eqDs,cw ds es]
  have h1:min (d::ds).length (e::es).length=min ds.length es.length+1:=by simp only[List.length_cons];omega
  rw[h1,List.range_succ_eq_map,List.all_cons,List.all_map]
  have h2:((d::ds).length==(e::es).length)=(ds.length==es.length):=by simp
  rw[h2]
  simp only[List.getD_cons_zero,Bool.and_assoc]
  rfl
section
variable {X:Cx}{F:Fx}{pins:List (Addr×Obj)}{σ:St}{H Z:Hp}{s:Shared}
theorem jC {a:Addr}{xs ys:List V}(I:Inv X pins σ H s)(h:SqL X.K H a xs)(h':SqT X.K H a ys):False:=by
 obtain⟨its,r,p,_⟩:=I.list h
 obtain⟨its',r',p',_⟩:=I.tuple h'
 exact SeqAt.ne_of_list_tuple p.isList (show s.heap.IsTuple a its'.toArray from p') rfl
mutual
theorem kh {K:PySem.W.Frag}{C:Nat→Addr}(hK:X.K=K)(I:Inv X pins σ H s)(z:Same Z H):∀ (n:Nat) (d e:D) (v:V),good n d=true→good n e=true→Rep K C Z d v→Rep K C Z e v→d=e
 | n,.non,e,v,g1,g2,h,h'=>by rw[Rep]at h;subst h;cases e<;>rw[Rep]at h'<;>first | rfl | (obtain⟨_,_,q,_⟩:=h';cases q;done) | (obtain⟨_,q,_⟩:=h';cases q;done) | (cases h';done)
 | n,.bl b,e,v,g1,g2,h,h'=>by rw[Rep]at h;subst h;cases e<;>rw[Rep]at h'<;>first | (cases h';rfl) | (obtain⟨_,_,q,_⟩:=h';cases q;done) | (obtain⟨_,q,_⟩:=h';cases q;done) | (cases h';done)
 | n,.int b,e,v,g1,g2,h,h'=>by rw[Rep]at h;subst h;cases e<;>rw[Rep]at h'<;>first | (cases h';rfl) | (obtain⟨_,_,q,_⟩:=h';cases q;done) | (obtain⟨_,q,_⟩:=h';cases q;done) | (cases h';done)
 | n,.str b,e,v,g1,g2,h,h'=>by rw[Rep]at h;subst h;cases e<;>rw[Rep]at h'<;>first | (cases h';rfl) | (obtain⟨_,_,q,_⟩:=h';cases q;done) | (obtain⟨_,q,_⟩:=h';cases q;done) | (cases h';done)
 | 0,.tup xs,e,v,g1,g2,h,h'=>by simp[good]at g1
 | 0,.lst xs,e,v,g1,g2,h,h'=>by simp[good]at g1
 | n,.exc k,e,v,g1,g2,h,h'=>by cases n<;>simp[good]at g1
 | n,.fn k,e,v,g1,g2,h,h'=>by cases n<;>simp[good]at g1
 | n+1,.tup ds,e,v,g1,g2,h,h'=>by
  rw[Rep]at h
  obtain⟨a,vs,rfl,h1,h2⟩:=h
  cases e with
  | tup es =>
   rw[Rep]at h'
   obtain⟨b,us,q,k1,k2⟩:=h'
   cases q
   have e1:vs=us:=I.tuple_inj (by rw[hK];exact h1.mono z) (by rw[hK];exact k1.mono z)
   subst e1
   rw[good]at g1 g2
   rw[hV hK I z n ds es vs g1 g2 h2 k2]
  | lst es =>
   rw[Rep]at h'
   obtain⟨b,us,q,k1,k2⟩:=h'
   cases q
   exact(jC I (by rw[hK];exact z.seq k1) (by rw[hK];exact h1.mono z)).elim
  | exc k=>simp[good]at g2
  | fn k=>simp[good]at g2
  | _=>rw[Rep]at h';cases h'
 | n+1,.lst ds,e,v,g1,g2,h,h'=>by
  rw[Rep]at h
  obtain⟨a,vs,rfl,h1,h2⟩:=h
  cases e with
  | lst es =>
   rw[Rep]at h'
   obtain⟨b,us,q,k1,k2⟩:=h'
   cases q
   have e1:vs=us:=I.list_inj (by rw[hK];exact z.seq h1) (by rw[hK];exact z.seq k1)
   subst e1
   rw[good]at g1 g2
   rw[hV hK I z n ds es vs g1 g2 h2 k2]
  | tup es =>
   rw[Rep]at h'
   obtain⟨b,us,q,k1,k2⟩:=h'
   cases q
   exact(jC I (by rw[hK];exact z.seq h1) (by rw[hK];exact k1.mono z)).elim
  | exc k=>simp[good]at g2
  | fn k=>simp[good]at g2
  | _=>rw[Rep]at h';cases h'
theorem hV {K:PySem.W.Frag}{C:Nat→Addr}(hK:X.K=K)(I:Inv X pins σ H s)(z:Same Z H):∀ (n:Nat) (ds es:List D) (vs:List V),goods n ds=true→goods n es=true→Reps K C Z ds vs→Reps K C Z es vs→ds=es
 | n,[],es,vs,g1,g2,h,h'=>by
  rw[Reps]at h;subst h
  cases es with
  | nil=>rfl
  | cons e es=>rw[Reps]at h';obtain⟨_,_,q,_⟩:=h';cases q
 | n,d::ds,es,vs,g1,g2,h,h'=>by
  rw[Reps]at h
  obtain⟨v,r,rfl,h1,h2⟩:=h
  cases es with
  | nil=>rw[Reps]at h';cases h'
  | cons e es =>
   obtain⟨k1,k2⟩:=h'.uncons
   rw[goods,Bool.and_eq_true]at g1 g2
   rw[kh hK I z n d e v g1.1 g2.1 h1 k1,hV hK I z n ds es r g1.2 g2.2 h2 k2]
end
def flatD:D→Bool
 | .non=>true
 | .bl _=>true
 | .int _=>true
 | .str _=>true
 | _=>false
theorem eY {K:PySem.W.Frag}{C:Nat→Addr}{d:D}{v:V}(f:flatD d=true)(h:Rep K C Z d v):flatV v=true:=by
 cases d<;>first | (rw[Rep]at h;subst h;rfl) | simp[flatD]at f
theorem kU {K:PySem.W.Frag}{C:Nat→Addr}{d e:D}{v u:V}(f1:flatD d=true)(f2:flatD e=true)(h:Rep K C Z d v)(h':Rep K C Z e u):eqV v u=eqD d e:=by
 cases d<;>first | (simp[flatD]at f1;done) | (cases e<;>first | (simp[flatD]at f2;done) | (rw[Rep]at h;rw[Rep]at h';subst h;subst h';simp[eqV,eqD]))
set_option maxHeartbeats 4000000 in
theorem fK {K:PySem.W.Frag}{C:Nat→Addr}(hK:X.K=K)(I:Inv X pins σ H s)(z:Same Z H):∀ (n:Nat) (A:Around) (d e:D) (v u:V) (x y:Value),good n d=true→good n e=true→Rep K C Z d v→Rep K C Z e u→RelV v x→RelV u y→A.units+n < cLine→SeqAt.EqAt A s x y (eqD d e):=by
 intro n
 induction n with
 | zero =>
  intro A d e v u x y g1 g2 h h' rx ry hu
  have f1:flatD d=true:=by cases d<;>first | rfl | simp[good]at g1
  have f2:flatD e=true:=by cases e<;>first | rfl | simp[good]at g2
  rw[← kU f1 f2 h h']
  exact pI rx ry (eY f1 h) (eY f2 h')
 | succ n ih =>
  intro A d e v u x y g1 g2 h h' rx ry hu
  have hu0:A.units < cLine:=by omega
  have in1:A.in1.units+n < cLine:=by show A.units+1+n < cLine;omega
  by_cases f1:flatD d=true
  ·by_cases f2:flatD e=true
   ·rw[← kU f1 f2 h h']
    exact pI rx ry (eY f1 h) (eY f2 h')
   ·cases e with
    | tup es =>
     rw[Rep]at h'
     obtain⟨b,us,rfl,k1,k2⟩:=h'
     cases ry
     obtain⟨its,_,p,_⟩:=I.tuple (by rw[hK];exact k1.mono z:SqT X.K H b us)
     have p':s.heap.IsTuple b its.toArray:=p
     cases d<;>first | (simp[flatD]at f1;done) | (rw[Rep]at h;subst h;simp only[eqD];first | (cases rx;first | exact SeqAt.EqAt.none_tuple p' hu0 | exact SeqAt.EqAt.bool_tuple _ p' hu0) | (obtain⟨t,rfl⟩:=rx;first | exact SeqAt.EqAt.int_tuple _ _ p' hu0 | exact SeqAt.EqAt.str_tuple _ _ p' hu0))
    | lst es =>
     rw[Rep]at h'
     obtain⟨b,us,rfl,k1,k2⟩:=h'
     cases ry
     obtain⟨its,_,p,_⟩:=I.list (by rw[hK];exact z.seq k1:SqL X.K H b us)
     have p':=p.isList
     cases d<;>first | (simp[flatD]at f1;done) | (rw[Rep]at h;subst h;simp only[eqD];first | (cases rx;first | exact SeqAt.EqAt.none_list p' hu0 | exact SeqAt.EqAt.bool_list _ p' hu0) | (obtain⟨t,rfl⟩:=rx;first | exact SeqAt.EqAt.int_list _ _ p' hu0 | exact SeqAt.EqAt.str_list _ _ p' hu0))
    | exc k=>simp[good]at g2
    | fn k=>simp[good]at g2
    | _=>simp[flatD]at f2
  ·cases d with
   | tup ds =>
    have hh:=h
    rw[Rep]at h
    obtain⟨a,vs,rfl,h1,h2⟩:=h
    cases rx
    obtain⟨its,r,p,_⟩:=I.tuple (by rw[hK];exact h1.mono z:SqT X.K H a vs)
    have p':s.heap.IsTuple a its.toArray:=p
    cases e with
    | tup es =>
     have hh':=h'
     rw[Rep]at h'
     obtain⟨b,us,rfl,k1,k2⟩:=h'
     cases ry
     by_cases hab:a=b
     ·subst hab
      have:=kh hK I z (n+1) _ _ _ g1 g2 hh hh'
      rw[← this,dL (n+1) _ g1]
      exact SeqAt.EqAt.same _
     ·obtain⟨its2,r2,p2,_⟩:=I.tuple (by rw[hK];exact k1.mono z:SqT X.K H b us)
      have p2':s.heap.IsTuple b its2.toArray:=p2
      rw[good]at g1 g2
      have q:=SeqAt.RcAt.tuples (A:=A) (e:=fun j=>eqD (ds.getD j .non) (es.getD j .non)) p' p2' hu0 fun j j1 j2=>by
       have j1':j < its.length:=by simpa using j1
       have j2':j < its2.length:=by simpa using j2
       have l1:j < ds.length:=by rw[h2.length,r.length];exact j1'
       have l2:j < es.length:=by rw[k2.length,r2.length];exact j2'
       have e1:ds[j]?=some ds[j]:=by simp
       have e2:es[j]?=some es[j]:=by simp
       obtain⟨w1,f1,f2⟩:=h2.get e1
       obtain⟨w2,f3,f4⟩:=k2.get e2
       obtain⟨z1,m1,m2⟩:=r.get f1
       obtain⟨z2,m3,m4⟩:=r2.get f3
       have n1:its.toArray[j]=z1:=by simpa [j1'] using m1
       have n2:its2.toArray[j]=z2:=by simpa [j2'] using m3
       rw[n1,n2]
       have g3:ds.getD j .non=ds[j]:=by simp[l1]
       have g4:es.getD j .non=es[j]:=by simp[l2]
       rw[g3,g4]
       exact ih A.in1 _ _ w1 w2 z1 z2 (aI g1 e1) (aI g2 e2) f2 f4 m2 m4 in1
      rw[eqD,cw]
      have s1:its.toArray.size=ds.length:=by rw[List.size_toArray,h2.length,r.length]
      have s2:its2.toArray.size=es.length:=by rw[List.size_toArray,k2.length,r2.length]
      rw[s1,s2]at q
      exact SeqAt.EqAt.of_refs hab q
    | lst es =>
     rw[Rep]at h'
     obtain⟨b,us,rfl,k1,k2⟩:=h'
     cases ry
     obtain⟨its2,r2,p2,_⟩:=I.list (by rw[hK];exact z.seq k1:SqL X.K H b us)
     simp only[eqD]
     exact SeqAt.EqAt.tuple_list p' p2.isList hu0
    | exc k=>simp[good]at g2
    | fn k=>simp[good]at g2
    | _=>rw[Rep]at h';subst h';simp only[eqD];first | (cases ry;first | exact SeqAt.EqAt.tuple_none p' hu0 | exact SeqAt.EqAt.tuple_bool _ p' hu0) | (obtain⟨t,rfl⟩:=ry;first | exact SeqAt.EqAt.tuple_int _ _ p' hu0 | exact SeqAt.EqAt.tuple_str _ _ p' hu0)
   | lst ds =>
    have hh:=h
    rw[Rep]at h
    obtain⟨a,vs,rfl,h1,h2⟩:=h
    cases rx
    obtain⟨its,r,p,_⟩:=I.list (by rw[hK];exact z.seq h1:SqL X.K H a vs)
    have p':=p.isList
    cases e with
    | lst es =>
     have hh':=h'
     rw[Rep]at h'
     obtain⟨b,us,rfl,k1,k2⟩:=h'
     cases ry
     by_cases hab:a=b
     ·subst hab
      have:=kh hK I z (n+1) _ _ _ g1 g2 hh hh'
      rw[← this,dL (n+1) _ g1]
      exact SeqAt.EqAt.same _
     ·obtain⟨its2,r2,p2,_⟩:=I.list (by rw[hK];exact z.seq k1:SqL X.K H b us)
      have p2':=p2.isList
      rw[good]at g1 g2
      have s1:its.toArray.size=ds.length:=by rw[List.size_toArray,h2.length,r.length]
      have s2:its2.toArray.size=es.length:=by rw[List.size_toArray,k2.length,r2.length]
      rw[eqD,cw]
      by_cases hsz:ds.length=es.length
      ·have q:=SeqAt.RcAt.lists (A:=A) (e:=fun j=>eqD (ds.getD j .non) (es.getD j .non)) p' p2' (by rw[s1,s2];exact hsz) hu0 fun j j1 j2=>by
        have j1':j < its.length:=by simpa using j1
        have j2':j < its2.length:=by simpa using j2
        have l1:j < ds.length:=by rw[h2.length,r.length];exact j1'
        have l2:j < es.length:=by rw[k2.length,r2.length];exact j2'
        have e1:ds[j]?=some ds[j]:=by simp
        have e2:es[j]?=some es[j]:=by simp
        obtain⟨w1,f1,f2⟩:=h2.get e1
        obtain⟨w2,f3,f4⟩:=k2.get e2
        obtain⟨z1,m1,m2⟩:=r.get f1
        obtain⟨z2,m3,m4⟩:=r2.get f3
        have n1:its.toArray[j]=z1:=by simpa [j1'] using m1
        have n2:its2.toArray[j]=z2:=by simpa [j2'] using m3
        rw[n1,n2]
        have g3:ds.getD j .non=ds[j]:=by simp[l1]
        have g4:es.getD j .non=es[j]:=by simp[l2]
        rw[g3,g4]
        exact ih A.in1 _ _ w1 w2 z1 z2 (aI g1 e1) (aI g2 e2) f2 f4 m2 m4 in1
       rw[s1]at q
       rw[hsz,Nat.min_self,beq_self_eq_true,Bool.and_true,← hsz]
       exact SeqAt.EqAt.of_refs hab q
      ·have q:=SeqAt.RcAt.lists_lengths (A:=A) p' p2' (by rw[s1,s2];simpa using hsz) hu0
       rw[show (ds.length==es.length)=false by simpa using hsz,Bool.and_false]
       exact SeqAt.EqAt.of_refs hab q
    | tup es =>
     rw[Rep]at h'
     obtain⟨b,us,rfl,k1,k2⟩:=h'
     cases ry
     obtain⟨its2,r2,p2,_⟩:=I.tuple (by rw[hK];exact k1.mono z:SqT X.K H b us)
     simp only[eqD]
     exact SeqAt.EqAt.list_tuple p' (show s.heap.IsTuple b its2.toArray from p2) hu0
    | exc k=>simp[good]at g2
    | fn k=>simp[good]at g2
    | _=>rw[Rep]at h';subst h';simp only[eqD];first | (cases ry;first | exact SeqAt.EqAt.list_none p' hu0 | exact SeqAt.EqAt.list_bool _ p' hu0) | (obtain⟨t,rfl⟩:=ry;first | exact SeqAt.EqAt.list_int _ _ p' hu0 | exact SeqAt.EqAt.list_str _ _ p' hu0)
   | exc k=>simp[good]at g1
   | fn k=>simp[good]at g1
   | _=>simp[flatD]at f1
end
end FF
end
noncomputable section
namespace FF
open PySem PySem.Spec PyProof.Rows L2
theorem objThere {P:Program}{w:World}{H:Hp}{h:Heap}{a:Addr}{o:HO}(x:ObjOk P w H h a o):∃ ob,h.get? a=some ob:=by
 cases o with
 | lst xs=>obtain⟨_,_,_,_,e⟩:=x;exact⟨_,e⟩
 | tup xs=>obtain⟨_,_,_,o,e,_⟩:=x;exact⟨o,e⟩
 | dK kvs=>obtain⟨_,_,_,_,o,_,_,e,_⟩:=x;exact⟨o,e⟩
 | dT kvs=>obtain⟨_,_,_,_,o,_,_,e,_⟩:=x;exact⟨o,e⟩
 | set S n=>obtain⟨o,_,_,_,e,_⟩:=x;exact⟨o,e⟩
 | ins C dx fs=>obtain⟨_,_,_,e,_⟩:=x;exact⟨_,e⟩
 | own y=>exact x
 | xd fs=>obtain⟨_,⟨o,_,_,e,_⟩,_⟩:=x;exact⟨o,e⟩
 | rng lo hi=>obtain⟨_,_,_,e⟩:=x;exact⟨_,e⟩
 | frz ob u=>obtain⟨e,_⟩:=x;exact⟨_,e⟩
 | tbl ps=>exact⟨_,(show h.get? a=some _ from x)⟩
 | met f y=>exact⟨_,(show h.get? a=some _ from x)⟩
 | ext φ=>obtain⟨_,e,_⟩:=x;exact e
def Cov (B:Heap)(h h':Heap)(H':Hp)(l:List Env):Prop:=∀ b o,h'.get? b=some o→(H' b≠none∨∃ o',h.get? b=some o')→b∉frs l→B.get? b=some o
def CXE (P:Program)(w:World):CXT:=fun outer H s E e s' =>
 ∃ (ea C t:Addr) (H':Hp) (B:Heap),e=.ref ea∧s'.os=s.os∧AllBare s'.gens∧Un (frs outer) [] H H' s.heap s'.heap∧HOk P w H' s'.heap ∧
  Heap.FlyingW B outer ea (.ref C) (.ref t) s'.heap∧H' ea=none∧Cov B s.heap s'.heap H' outer∧E (.ref C) none H'
section
variable {X:Cx}{pins:List (Addr×Obj)}{σ:St}{H H':Hp}{s s':Shared}{B:Heap}
theorem rW {h2:Heap}{sc:Shared}(J:Inv X pins σ H' s')(I:∃ σ0 H0 pl,Inv X pl σ0 H0 sc)(hp:∀ p∈X.pn++pins,∃ o,sc.heap.get? p.1=some o)(hl:∀ o,s'.heap.get? X.env.locals=some o→∃ o',sc.heap.get? X.env.locals=some o')
  (cov:Cov B sc.heap s'.heap H' X.stack) (hB:B.StaysIn h2) (up:s'.heap.UpToSlots h2):Inv X pins σ H' { s' with heap:=h2 }:=by
 obtain⟨σ0,H0,pl,I0⟩:=I
 have ins:∀ b o,X.s₀.heap.get? b=some o→b∉X.ex→∃ o',sc.heap.get? b=some o':=fun b o e hx=>I0.base.there b o e hx
 have nloc:∀ b o,X.s₀.heap.get? b=some o→b≠X.env.locals:=fun b o e=>Nat.ne_of_lt (Nat.lt_of_lt_of_le (Heap.lt_size e) J.ok.above)
 have nstk:∀ b,b≠X.env.locals→b∉X.fs→b∉frs X.stack:=fun b h1 h2 z=>(List.mem_cons.mp (J.stkSub b z)).elim h1 h2
 have trk:∀ b o,s'.heap.get? b=some o→H' b≠none→h2.get? b=some o:=fun b o e ht=>hB b o (cov b o e (.inl ht) fun z=>ht (J.stkFree b z))
 have nf:∀ b∈X.fs,∀ o,s'.heap.get? b=some o→∀ vs,o.data≠.fields vs:=fun b hb o e=>by
  obtain⟨_,o',e',d⟩:=J.funs.mem hb
  rw[e]at e';cases e';exact d
 refine⟨J.ok,J.os,J.bare,⟨fun b o e n hb hx=>?_,fun b o e n hb hx=>?_,J.base.free,fun b o e hx=>?_,J.base.tups,J.base.frzs,J.base.tbls⟩,?_,fun x c e=>?_,J.free,J.freeC,fun p hpp=>?_,fun b u e=>?_,J.len⟩
 ·have e1:=J.base.keep b o e n hb hx
  exact hB b o (cov b o e1 (.inr (ins b o e hx)) (nstk b (nloc b o e) hb))
 ·obtain⟨sl,e1⟩:=J.base.slot b o e n hb hx
  obtain⟨sl',e2⟩:=up b _ e1 (nf b hb _ e1)
  exact⟨sl',e2⟩
 ·obtain⟨o',e1⟩:=J.base.there b o e hx
  by_cases hb:b∈X.fs
  ·obtain⟨sl',e2⟩:=up b _ e1 (nf b hb _ e1)
   exact⟨_,e2⟩
  ·exact⟨o',hB b o' (cov b o' e1 (.inr (ins b o e hx)) (nstk b (nloc b o e) hb))⟩
 ·obtain⟨m,hn,hv⟩:=J.loc
  refine⟨m,up.ns hn,fun i x v h1 h2 h3=>?_⟩
  obtain⟨u,r,l⟩:=hv i x v h1 h2 h3
  refine⟨u,r,?_⟩
  rcases l with l | ⟨k,c,e,⟨o,ho,hd⟩⟩
  ·exact .inl l
  ·obtain⟨sl,e2⟩:=up c o ho fun vs q=>by rw[hd]at q;cases q
   exact .inr ⟨k,c,e,⟨_,e2,hd⟩⟩
 ·obtain⟨v,o,ho,hd⟩:=J.cell x c e
  obtain⟨sl,e2⟩:=up c o ho fun vs q=>by rw[hd]at q;cases q
  exact⟨v,_,e2,hd⟩
 ·obtain⟨e,n,ne,nf',d⟩:=J.pin p hpp
  exact⟨hB _ _ (cov p.1 p.2 e (.inr (hp p hpp)) (nstk _ ne nf')),n,ne,nf',d⟩
 ·refine(J.hok b u e).stay (fun c v hc q=>trk c v q ?_) (fun _ q=>q) fun _ _ q=>q
  rcases hc with z | z
  ·subst z;rw[e];simp
  ·rw[z];simp
end
section
variable {P:Program}{w:World}{K:PySem.W.Frag}{mg:Str→Option Value}{base:Heap}{N:List Str}{qual:Str}{scope:Scope}{f:Addr}{cd:Value}{A:Around}{outer:List Env}{s0:Shared}{H0:Hp}{E:XK}
abbrev bodyX (P:Program)(w:World)(K:PySem.W.Frag)(mg:Str→Option Value)(base:Heap)(N:List Str)(qual:Str)(scope:Scope)(f:Addr)(cd:Value)(A:Around)(outer:List Env)(s0:Shared)(H0:Hp)(E:XK):Cx :=
 cxOf (CXE P w) P w K mg base N qual scope f cd A outer s0 H0 E
theorem ki {pins:List (Addr×Obj)}{σ:St}{H':Hp}{s':Shared}{B h2:Heap}{ea C t:Addr}(J:Inv (bodyX P w K mg base N qual scope f cd A outer s0 H0 E) pins σ H' s')
  (cov:Cov B s0.heap s'.heap H' (envOfC qual scope s0.heap.objs.size f cd::outer)) (up:s'.heap.UpToSlots h2) (fl:Heap.FlyingW B outer ea (.ref C) (.ref t) h2) (hn:H' ea=none) (hE:E (.ref C) none H') :
  CXE P w outer H0 s0 E (.ref ea) { s' with heap:=h2 }:=by
 have hB:=fl.1
 have nloc:∀ b o,s0.heap.get? b=some o→b≠s0.heap.objs.size:=fun b o e=>Nat.ne_of_lt (Heap.lt_size e)
 have nstk:∀ b,b≠s0.heap.objs.size→b∉frs outer→b∉frs (envOfC qual scope s0.heap.objs.size f cd::outer):=fun b h1 h2 z=>(List.mem_cons.mp (J.stkSub b z)).elim h1 h2
 have trk:∀ b o,s'.heap.get? b=some o→H' b≠none→B.get? b=some o:=fun b o e ht=>cov b o e (.inl ht) fun z=>ht (J.stkFree b z)
 have noe:∀ b:Addr,b∉([]:List Addr):=fun _ z=>nomatch z
 have nf:∀ b∈frs outer,∀ o,s'.heap.get? b=some o→∀ vs,o.data≠.fields vs:=fun b hb o e=>by
  obtain⟨_,o',e',d⟩:=J.funs.mem hb
  rw[e]at e';cases e';exact d
 have thr:∀ b o,s0.heap.get? b=some o→∃ o',s'.heap.get? b=some o'∧(b∉frs outer→B.get? b=some o'):=fun b o e=>by
  obtain⟨o',e1⟩:=J.base.there b o e (noe b)
  exact⟨o',e1,fun hb=>cov b o' e1 (.inr ⟨o,e⟩) (nstk b (nloc b o e) hb)⟩
 refine⟨ea,C,t,H',B,rfl,J.os,J.bare,⟨fun b o e n hb hx=>?_,fun b o e n hb hx=>?_,J.base.free,fun b o e hx=>?_,J.base.tups,J.base.frzs,J.base.tbls⟩,fun b u e=>?_,fl,hn,fun b o e hc hb=>?_,hE⟩
 ·have e1:=J.base.keep b o e n hb hx
  exact hB b o (cov b o e1 (.inr ⟨o,e⟩) (nstk b (nloc b o e) hb))
 ·obtain⟨sl,e1⟩:=J.base.slot b o e n hb hx
  obtain⟨sl',e2⟩:=up b _ e1 (nf b hb _ e1)
  exact⟨sl',e2⟩
 ·obtain⟨o',e1,e2⟩:=thr b o e
  by_cases hb:b∈frs outer
  ·obtain⟨sl',e3⟩:=up b _ e1 (nf b hb _ e1)
   exact⟨_,e3⟩
  ·exact⟨o',hB b o' (e2 hb)⟩
 ·refine(J.hok b u e).stay (fun c v hc q=>hB c v (trk c v q ?_)) (fun _ q=>q) fun _ _ q=>q
  rcases hc with z | z
  ·subst z;rw[e];simp
  ·rw[z];simp
 ·have same:∀ o',s'.heap.get? b=some o'→B.get? b=some o'→B.get? b=some o:=fun o' _ q=>by
   have:=hB b o' q
   have e':h2.get? b=some o:=e
   rw[e']at this;cases this;exact q
  rcases hc with z | ⟨o',z⟩
  ·cases q:H' b with
   | none=>exact absurd q z
   | some u =>
    obtain⟨o',e1⟩:=objThere (J.hok b u q)
    exact same o' e1 (trk b o' e1 (by rw[q];simp))
  ·obtain⟨o'',e1,e2⟩:=thr b o' z
   exact same o'' e1 (e2 hb)
theorem jD:Passes (CXE P w) (bodyX P w K mg base N qual scope f cd A outer s0 H0 E) E:=by
 intro pins σ H s e s' I h
 obtain⟨ea,C,t,H',B,rfl,os,bare,un,hok,fl,hn,cov,hE⟩:=h
 have J:Inv (bodyX P w K mg base N qual scope f cd A outer s0 H0 E) pins σ H' s':=I.call' (ch:=[]) os un hok bare fun b z=>nomatch z
 refine wpAny_leaves_onW I.ok.frames rfl fl fun h2 fl2 up=>?_
 refine ki J (fun b o e hc hb=>cov b o e ?_ hb) up fl2 hn hE
 rcases hc with z | ⟨o',z⟩
 ·exact .inl z
 ·obtain⟨o'',z'⟩:=I.base.there b o' z (fun q=>nomatch q)
  exact .inr ⟨o'',z'⟩
theorem oh {pins:List (Addr×Obj)}{σ:St}{H:Hp}{s:Shared}{h1:Heap}{ea C:Addr}{args:List Value}(I:Inv (bodyX P w K mg base N qual scope f cd A outer s0 H0 E) pins σ H s)(hx:Heap.MadeExcOf s.heap h1 ea (.ref C) args)(hE:E (.ref C) none H) :
  (bodyX P w K mg base N qual scope f cd A outer s0 H0 E).xe (.ref ea) { s with heap:=h1 }:=by
 have hin:∀ env∈(envOfC qual scope s0.heap.objs.size f cd::outer),∀ a,env.frame=some a→a∈frs (envOfC qual scope s0.heap.objs.size f cd::outer):=fun env he a ha=>List.mem_filterMap.mpr ⟨env,he,ha⟩
 refine wpAny_leaves_madeW (s:={ s with heap:=h1 }) (base:=PySem.W.hideAll s.heap (frs (envOfC qual scope s0.heap.objs.size f cd::outer))) I.ok.frames rfl (fun b o q=>PySem.W.of_hideAll _ q) (PySem.W.funFrames_hide I.stack hin) hx fun h2 t fl _ _ up=>?_
 have hn:H ea=none:=by
  cases q:H ea with
  | none=>rfl
  | some u =>
   obtain⟨o,e⟩:=objThere (I.hok ea u q)
   rw[hx.new]at e;cases e
 exact ki (s':=s) I (fun b o e _ hb=>PySem.W.hideAll_get _ e hb) ((Heap.UpToSlots.of_keeps hx.keeps).trans up) fl hn hE
end
end FF
end
noncomputable section
namespace FF
open PySem PySem.Spec PyProof.Rows L2
def relabN (names:List (Str×NameKind))(env:Env):List (Str×NameKind) :=
 names.map fun (n,k)=>if (k==.free&&env.scope.kind==.function&&env.kindOf n==some .cell) then (n,.cell) else (n,k)
theorem hZ {env:Env}:∀ {names:List (Str×NameKind)} {x:Str},names.lookup x=some .free→(relabN names env).lookup x=some .cell∨(relabN names env).lookup x=some .free
 | [],_,h=>by simp at h
 | (n,k)::r,x,h=>by
  have ih:=@hZ env r x
  show List.lookup x ((if (k==NameKind.free&&env.scope.kind==.function&&env.kindOf n==some .cell)=true then (n,NameKind.cell) else (n,k))::relabN r env)=_∨List.lookup x ((if (k==NameKind.free&&env.scope.kind==.function&&env.kindOf n==some .cell)=true then (n,NameKind.cell) else (n,k))::relabN r env)=_
  cases hx:x==n with
  | true =>
   simp only[List.lookup_cons,hx]at h
   cases h
   split
   ·exact .inl (by simp[List.lookup_cons,hx])
   ·exact .inr (by simp[List.lookup_cons,hx])
  | false =>
   simp only[List.lookup_cons,hx]at h
   split<;>(simp only[List.lookup_cons,hx];exact ih h)
theorem ia {env:Env}:∀ {names:List (Str×NameKind)} {x:Str},((relabN names env).lookup x=some .cell∨(relabN names env).lookup x=some .free)→∃ y∈names,y.1=x∧(y.2=.free∨y.2=.cell)
 | [],_,h=>by simp[relabN]at h
 | (n,k)::r,x,h=>by
  have ih:=@ia env r x
  change List.lookup x ((if (k==NameKind.free&&env.scope.kind==.function&&env.kindOf n==some .cell)=true then (n,NameKind.cell) else (n,k))::relabN r env)=_∨List.lookup x ((if (k==NameKind.free&&env.scope.kind==.function&&env.kindOf n==some .cell)=true then (n,NameKind.cell) else (n,k))::relabN r env)=_ at h
  cases hx:x==n with
  | true =>
   have e:x=n:=eq_of_beq hx
   refine⟨(n,k),List.mem_cons_self,e.symm,?_⟩
   by_cases hq:(k==NameKind.free&&env.scope.kind==.function&&env.kindOf n==some .cell)=true
   ·simp only[Bool.and_eq_true,beq_iff_eq]at hq
    exact .inl hq.1.1
   ·rw[if_neg hq]at h
    simp only[List.lookup_cons,hx]at h
    rcases h with h | h
    ·cases h;exact .inr rfl
    ·cases h;exact .inl rfl
  | false =>
   have h':(relabN r env).lookup x=some .cell∨(relabN r env).lookup x=some .free:=by
    by_cases hq:(k==NameKind.free&&env.scope.kind==.function&&env.kindOf n==some .cell)=true
    ·rw[if_pos hq]at h;simpa only[List.lookup_cons,hx] using h
    ·rw[if_neg hq]at h;simpa only[List.lookup_cons,hx] using h
   obtain⟨y,hy,e⟩:=ih h'
   exact⟨y,List.mem_cons_of_mem _ hy,e⟩
theorem a9:∀ (names:List (Str×NameKind)) (n:Nat) (acc:List (Str×Addr)),cellsFrom n names acc=cellsFrom n names []++acc
 | [],_,_=>rfl
 | (name,kind)::r,n,acc=>by
  unfold cellsFrom
  split
  ·rw[a9 r (n+1) ((name,n)::acc),a9 r (n+1) [(name,n)],List.append_assoc];rfl
  ·exact a9 r n acc
theorem fL:∀ (names:List (Str×NameKind)) (n:Nat) {x:Str} {c:Addr},(x,c)∈cellsFrom n names []→(x,NameKind.cell)∈names
 | [],_,_,_,h=>nomatch h
 | (name,kind)::r,n,x,c,h=>by
  unfold cellsFrom at h
  split at h
  ·rename_i hk
   rw[a9]at h
   rcases List.mem_append.mp h with h | h
   ·exact List.mem_cons_of_mem _ (fL r _ h)
   ·rw[List.mem_singleton]at h
    cases h
    rw[eq_of_beq hk];exact List.mem_cons_self
  ·exact List.mem_cons_of_mem _ (fL r _ h)
theorem fM:∀ (names:List (Str×NameKind)) (n:Nat) {x:Str},(x,NameKind.cell)∈names→∃ c,(cellsFrom n names []).lookup x=some c
 | [],_,_,h=>nomatch h
 | (name,kind)::r,n,x,h=>by
  by_cases hr:(x,NameKind.cell)∈r
  ·unfold cellsFrom
   split
   ·obtain⟨c,hc⟩:=fM r (n+1) hr
    rw[a9,List.lookup_append,hc];exact⟨c,rfl⟩
   ·exact fM r n hr
  ·rcases List.mem_cons.mp h with e | e
   ·cases e
    unfold cellsFrom
    rw[if_pos (by rfl),a9,List.lookup_append]
    cases (cellsFrom (n+1) r []).lookup name with
    | some c=>exact⟨c,rfl⟩
    | none=>exact⟨n,by simp[List.lookup_cons]⟩
   ·exact absurd e hr
structure CellsB (scope:Scope)(cl cl2:List (Str×Addr))(C:Addr)(h:Heap):Prop where
 old:∀ n c,cl2.lookup n=some c→(cl.lookup n=some c∧(n,NameKind.cell)∉scope.names)∨(C < c∧h.IsCell c none∧(n,NameKind.cell)∈scope.names)
 keep:∀ n,(n,NameKind.cell)∉scope.names→cl2.lookup n=cl.lookup n
 mine:∀ n,(n,NameKind.cell)∈scope.names→∃ c,cl2.lookup n=some c
 inj:∀ x y c,C < c→cl2.lookup x=some c→cl2.lookup y=some c→(x,NameKind.cell)∈scope.names→(y,NameKind.cell)∈scope.names→x=y
section
variable {M:Model}{A:Around}{E:Value→Shared→Prop}{s:Shared}
theorem eZ {scope:Scope}{globals:Addr}{cl:List (Str×Addr)}{qual:Str}{env:Env}{Q:Env→Shared→Prop}
  (hQ:∀ h' cl2,h'.Ns s.heap.objs.size (fun _=>none)→(∀ b o,s.heap.get? b=some o→h'.get? b=some o)→CellsB scope cl cl2 s.heap.objs.size h'→Q (newEnv scope s.heap.objs.size globals cl2 qual none .none (some env) builtinsNs) { s with heap:=h' }) :
  wpAny M A (newFunctionEnv scope globals cl [] qual none .none (some env)) Q E s:=by
 simp only[newFunctionEnv,Option.isSome_some,if_true]
 refine wpAny_bind (wpAny_alloc ?_)
 refine wpAny_bind (wpAny_layCells _ (fun name kind cells=>by cases hkc:kind==NameKind.cell<;>simp[hkc]) _ _ _ _ ?_)
 have ok:=cellsFrom_ok scope.names (s.heap.push { cls:=.type "dict",data:=.dict #[] }) (s.heap.objs.size+1) [] ⟨fun _ _ hm=>(nomatch hm),List.Pairwise.nil⟩ (by rw[Heap.size_push];exact Nat.le_refl _)
 rw[Heap.size_push]at ok
 rw[show ({ s with heap:=s.heap.push { cls:=.type "dict",data:=.dict #[] } }:Shared).heap.objs.size=s.heap.objs.size+1 from Heap.size_push ..]
 simp only[List.forIn_nil]
 refine wpAny_bind (wpAny_pure (wpAny_pure ?_))
 refine hQ _ _ ((Heap.Ns.new s.heap (.type "dict")).keeps (pushCells_keeps _ _)) (fun b o e=>pushCells_keeps _ _ b o (Heap.get?_push_of_some _ e)) ?_
 have look:∀ n,(cellsFrom (s.heap.objs.size+1) scope.names cl).lookup n=((cellsFrom (s.heap.objs.size+1) scope.names []).lookup n).or (cl.lookup n):=fun n=>by rw[a9,List.lookup_append]
 have no:∀ n,(n,NameKind.cell)∉scope.names→(cellsFrom (s.heap.objs.size+1) scope.names []).lookup n=none:=fun n hn=>by
  cases e:(cellsFrom (s.heap.objs.size+1) scope.names []).lookup n with
  | none=>rfl
  | some c=>exact absurd (fL _ _ (PySem.mem_of_lookup e)) hn
 have keep:∀ n,(n,NameKind.cell)∉scope.names→(cellsFrom (s.heap.objs.size+1) scope.names cl).lookup n=cl.lookup n:=fun n hn=>by rw[look,no n hn];rfl
 have new:∀ n,(n,NameKind.cell)∈scope.names→∃ c,(cellsFrom (s.heap.objs.size+1) scope.names []).lookup n=some c∧(cellsFrom (s.heap.objs.size+1) scope.names cl).lookup n=some c:=fun n hn=>by
  obtain⟨c,hc⟩:=fM scope.names (s.heap.objs.size+1) hn
  exact⟨c,hc,by rw[look,hc];rfl⟩
 refine⟨fun n c e=>?_,keep,fun n hn=>?_,fun x y c _ ex ey hx hy=>?_⟩
 ·by_cases hn:(n,NameKind.cell)∈scope.names
  ·obtain⟨c',h1,h2⟩:=new n hn
   rw[e]at h2;cases h2
   have:=ok.empty n c (PySem.mem_of_lookup h1)
   exact .inr ⟨this.2,this.1,hn⟩
  ·rw[keep n hn]at e
   exact .inl ⟨e,hn⟩
 ·obtain⟨c,_,h2⟩:=new n hn
  exact⟨c,h2⟩
 ·obtain⟨c1,h1,h2⟩:=new x hx
  obtain⟨c2,h3,h4⟩:=new y hy
  rw[ex]at h2;cases h2
  rw[ey]at h4;cases h4
  exact name_of_addr ok.apart (PySem.mem_of_lookup h1) (PySem.mem_of_lookup h3)
end
theorem dM {names:List (Str×NameKind)}{x:Str}{k:NameKind}(h:names.lookup x=some k):(x,k)∈names:=PySem.mem_of_lookup h
def blk (X:Cx)(scope:Scope)(cl:List (Str×Addr))(C:Addr)(s:Shared)(H:Hp)(fp:List Addr)(N:List Str):Cx where
 prog:=X.prog
 w:=X.w
 K:=X.K
 mg:=X.mg
 base:=X.base
 A:=X.A
 N:=N
 s₀:=s
 H₀:=H
 env:=compEnvC scope cl C X.env
 outer:=X.stack
 stack:=X.stack
 ex:=fp
 fn:=fun x=>scope.names.lookup x==some .cell
 calm:=true
 pn:=[]
 xe:=fun _ _=>False
def startB (own:Nat)(cap:List Nat)(σ:St):St:=List.replicate own none++cap.map fun i=>(σ[i]?).getD none
structure BlkOk (XN:List Str)(osc scope:Scope)(N:List Str)(own:Nat)(cap:List Nat):Prop where
 kind:scope.kind=.function
 ncell:∀ y∈scope.names,y.2=.cell→scope.names.lookup y.1=some .cell
 nfree:∀ y∈scope.names,y.2=.free→scope.names.lookup y.1=some .free
 nloc:∀ y∈scope.names,y.2=.local→scope.names.lookup y.1=some .local
 free:∀ y∈scope.names,y.2=.free→osc.names.lookup y.1=some .cell∨osc.names.lookup y.1=some .free
 len:N.length=own+cap.length
 capN:∀ j i,cap[j]?=some i→∃ x,N[own+j]?=some x∧XN[i]?=some x∧scope.names.lookup x=some .free
section
variable {X:Cx}{pins:List (Addr×Obj)}{σ:St}{H:Hp}{s:Shared}{scope:Scope}{N:List Str}{own:Nat}{cap:List Nat}{cl:List (Str×Addr)}{fp:List Addr}
theorem nw {cl2:List (Str×Addr)}(b:BlkOk X.N X.env.scope scope N own cap)(hc:X.calm=true)(I:Inv X pins σ H s)(hf:∀ b∈fp,FpOk X pins H b)(hfo:∀ b∈fp,b < s.heap.objs.size)(c1:∀ n c,cl.lookup n=some c→X.env.cells.lookup n=some c)
  (c2:∀ y∈scope.names,y.2=.free→∃ c,cl.lookup y.1=some c) {h':Heap} {t':Nat} {m:Str→Option Value} (hns:h'.Ns s.heap.objs.size m) (hk:∀ b o,s.heap.get? b=some o→h'.get? b=some o) (cb:CellsB scope cl cl2 s.heap.objs.size h') :
  Inv (blk X scope cl2 s.heap.objs.size s H fp N) [] (startB own cap σ) H { s with heap:=h',toks:=t' }:=by
 have hC:H s.heap.objs.size=none:=I.hok.fresh (Nat.le_refl _)
 have lt:∀ n c,cl.lookup n=some c→c < s.heap.objs.size:=fun n c e=>by obtain⟨v,hv⟩:=I.cell n c (c1 n c e);exact hv.lt
 have inj:∀ x y c,cl2.lookup x=some c→cl2.lookup y=some c→x=y:=fun x y c h1 h2=>by
  rcases cb.old x c h1 with ⟨a1,_⟩ | ⟨a1,_,a2⟩<;>rcases cb.old y c h2 with ⟨b1,_⟩ | ⟨b1,_,b2⟩
  ·exact I.ok.inj x y c (c1 x c a1) (c1 y c b1)
  ·exact absurd (lt x c a1) (Nat.lt_asymm b1)
  ·exact absurd (lt y c b1) (Nat.lt_asymm a1)
  ·exact cb.inj x y c a1 h1 h2 a2 b2
 refine⟨⟨I.ok.mod,b.kind,I.ok.glob,I.ok.blt,Nat.le_refl _,inj,fun x hx=>?_,fun x c hx e=>?_,fun _=>I.ok.hd hc,I.ok.frames,.inl rfl,fun b' hb=>?_,I.bs,Nat.le_trans I.ok.bsz I.sz,fun b' o e hb=>?_,fun b' hb hm=>?_,I.stack,I.stkFree⟩,rfl,I.bare,Un.kept hk,⟨m,hns,fun i x v h1 h2 h3=>?_⟩,fun x c e=>?_,hC,fun x c e=>?_,fun p hp=>(nomatch hp),I.hok.kept hk,?_⟩
 ·obtain⟨y,hy,e1,e2⟩:=ia (env:=X.env) hx
  rcases e2 with e2 | e2
  ·obtain⟨c,e⟩:=c2 y hy e2
   have hn:(y.1,NameKind.cell)∉scope.names:=fun z=>by
    have q1:=b.nfree y hy e2
    have q2:=b.ncell _ z rfl
    rw[q1]at q2;cases q2
   exact⟨c,by rw[← e1];show cl2.lookup y.1=some c;rw[cb.keep _ hn];exact e⟩
  ·obtain⟨c,e⟩:=cb.mine y.1 (by rw[← e2];exact hy)
   exact⟨c,by rw[← e1];exact e⟩
 ·rcases cb.old x c e with ⟨a1,a2⟩ | ⟨a1,_,_⟩
  ·have hx':(scope.names.lookup x==some NameKind.cell)=true:=hx
   exact absurd (dM (eq_of_beq hx')) a2
  ·exact Nat.le_of_lt a1
 ·refine⟨Nat.ne_of_lt (hfo b' hb),fun x c e=>?_⟩
  rcases cb.old x c e with ⟨a1,_⟩ | ⟨a1,_,_⟩
  ·exact(hf b' hb).2.2.2.2.1 x c (c1 x c a1)
  ·exact fun z=>Nat.lt_asymm a1 (z ▸ hfo b' hb)
 ·rcases(hf b' hb).2.2.2.1 with z | z
  ·exact I.ok.noex b' o e z
  ·have:=Heap.lt_size (I.ok.bs b' o e).1
   exact absurd (Nat.lt_of_lt_of_le this z) (Nat.lt_irrefl _)
 ·rcases List.mem_cons.mp (I.stkSub b' hm) with z | z
  ·exact(hf b' hb).2.1 z
  ·exact(hf b' hb).2.2.1 z
 ·
  unfold startB at h2
  by_cases hi:i < own
  ·rw[List.getElem?_append_left (by simpa using hi),List.getElem?_replicate]at h2
   split at h2<;>cases h2
  ·rw[List.getElem?_append_right (by simpa using hi),List.length_replicate,List.getElem?_map]at h2
   cases e:cap[i - own]? with
   | none=>rw[e]at h2;cases h2
   | some k =>
    rw[e]at h2
    obtain⟨x',f1,f2,f3⟩:=b.capN _ _ e
    rw[show own+(i - own)=i by omega]at f1
    have h1':N[i]?=some x:=h1
    rw[h1']at f1;cases f1
    have h2':σ[k]?=some (some v):=by
     cases q:σ[k]? with
     | none=>simp only[Option.map_some,q,Option.getD_none,Option.some.injEq]at h2;cases h2
     | some o=>simp only[Option.map_some,q,Option.getD_some,Option.some.injEq]at h2;rw[h2]
    obtain⟨m0,_,hl⟩:=I.loc
    have kf:=b.free (x,.free) (dM f3) rfl
    obtain⟨u,r,l⟩:=hl k x v f2 h2' (kf.elim (fun z=>.inr (.inl z)) fun z=>.inr (.inr z))
    refine⟨u,r,?_⟩
    rcases l with ⟨z,_⟩ | ⟨_,c,e1,e2⟩
    ·have z':X.env.scope.names.lookup x=some .local:=z
     rcases kf with y | y
     ·have y':X.env.scope.names.lookup x=some .cell:=y
      rw[z']at y';cases y'
     ·have y':X.env.scope.names.lookup x=some .free:=y
      rw[z']at y';cases y'
    ·obtain⟨c',g1⟩:=c2 (x,.free) (dM f3) rfl
     have g2:=c1 x c' g1
     rw[e1]at g2;cases g2
     have hn:(x,NameKind.cell)∉scope.names:=fun z=>by
      have q2:=b.ncell _ z rfl
      have q2':scope.names.lookup x=some .cell:=q2
      rw[f3]at q2';cases q2'
     exact .inr ⟨hZ (env:=X.env) f3,c,by show cl2.lookup x=some c;rw[cb.keep _ hn];exact g1,by obtain⟨o,ho,hd⟩:=e2;exact⟨o,hk _ _ ho,hd⟩⟩
 ·rcases cb.old x c e with ⟨a1,_⟩ | ⟨_,a2,_⟩
  ·obtain⟨v,o,ho,hd⟩:=I.cell x c (c1 x c a1)
   exact⟨v,o,hk _ _ ho,hd⟩
  ·exact⟨none,a2⟩
 ·rcases cb.old x c e with ⟨a1,_⟩ | ⟨a1,_,_⟩
  ·exact I.freeC x c (c1 x c a1)
  ·exact I.hok.fresh (Nat.le_of_lt a1)
 ·unfold startB
  show _=N.length
  rw[List.length_append,List.length_replicate,List.length_map,b.len]
theorem ib {s3 s':Shared}{H3 H':Hp}{σ':St}{pl:List (Addr×Obj)}{D C:Addr}(I:Inv X pins σ H s)(hf:∀ b∈fp,FpOk X pins H b)(hD:D=s.heap.objs.size)(h3:s3={ s with heap:=s.heap.push { cls:=.type "list",data:=.seq #[] } })(hH:H3=upd H D (.lst []))(hC:C=s3.heap.objs.size)
  (J:Inv (blk X scope cl C s3 H3 fp N) pl σ' H' s'):Inv X pins σ H' s'∧FpOk X pins H' C∧∃ m,s'.heap.Ns C m:=by
 subst h3
 have hs:s.heap.objs.size≤C:=by rw[hC];show _≤(s.heap.push _).objs.size;rw[Heap.size_push];exact Nat.le_succ _
 have u1:Un (frs X.stack) fp H H3 s.heap (s.heap.push { cls:=.type "list",data:=.seq #[] }):=by
  rw[hH,hD]
  exact Un.laid (fun b u e=>Heap.get?_push_of_some _ e) (Nat.le_refl _) (I.hok.fresh (Nat.le_refl _))
 have u2:Un (frs X.stack) fp H3 H' (s.heap.push { cls:=.type "list",data:=.seq #[] }) s'.heap:=J.base
 have os:s'.os=s.os:=J.os
 refine⟨I.call' (ch:=fp) os (u1.trans u2) J.hok J.bare fun b hb=>?_,I.fpOk hs J.free,?_⟩
 ·obtain⟨_,f1,f2,f3,f4,f5⟩:=hf b hb
  exact⟨f3,f1,f4,f5⟩
 ·obtain⟨m,hn,_⟩:=J.loc
  exact⟨m,hn⟩
end
def tTests (ifs:List Expr)(t:TT):TT:=match ifs with
 | []=>fun _ H Q=>Q true H
 | _::_=>t
theorem ic {ifs:List Expr}{t:TT}{σ:St}{H:Hp}{Q:Bool→Hp→Prop}(e:ifs=[])(h:tTests ifs t σ H Q):Q true H:=by subst e;exact h
theorem mx {ifs:List Expr}{t:TT}{σ:St}{H:Hp}{Q:Bool→Hp→Prop}{c:Expr}(e:ifs=[c])(h:tTests ifs t σ H Q):t σ H Q:=by subst e;exact h
theorem oi {M:Model}{A:Around}{ifs:List Expr}{env:Env}{Q:Bool→Shared→Prop}{E:Value→Shared→Prop}{s:Shared}(hifs:ifs.length≤1)(h0:ifs=[]→Q true s)(h1:∀ c,ifs=[c]→wpAny M A (isTrue c env (eval c env)) Q E s):wpAny M A (tests ifs env) Q E s:=by
 match ifs,hifs,h0,h1 with
 | [],_,h0,_=>exact wpAny_pure (h0 rfl)
 | [c],_,_,h1=>exact h1 c rfl
def BlkW (sz:Nat)(J:It)(g:TG)(tc:TT)(te:TE)(D:Addr)(Fin:Hp→List V→Prop)(W:Nat→Nat→St→Hp→List V→Prop):Prop :=
 ∀ i m σ H ys,W i m σ H ys→H D=some (.lst ys)∧((J.stop i H∧Fin H ys)∨(J.go i H∧∀ x H',J.yld i H x H'→g x σ H' fun σ2 H2=>tc σ2 H2 fun ok H3 =>
  if ok=true then te σ2 H3 fun y H4=>H4 D=some (.lst ys)∧ys.length < sz∧∃ m',m' < m∧W (i+1) m' σ2 (upd H4 D (.lst (ys++[y]))) (ys++[y])
  else ∃ m',m' < m∧W (i+1) m' σ2 H3 ys))
section
variable {X:Cx}{elt tg iter:Expr}{ifs:List Expr}{scope:Scope}{N:List Str}{own:Nat}{cap:List Nat}{pos:Pos}{wi:TI}{g:TG}{tc:TT}{te:TE}
set_option maxHeartbeats 4000000 in
theorem kW {pins:List (Addr×Obj)}{σ:St}{H:Hp}{s:Shared}{it:Addr}{fp:List Addr}{tn:Nat→Heap→Prop}{J:It}{cl:List (Str×Addr)}{E:Value→Shared→Prop}{RR:Value→Addr→Result→Shared→Prop}{Fin:Addr→Hp→List V→Prop}
  (b:BlkOk X.N X.env.scope scope N own cap) (hc:X.calm=true) (hifs:ifs.length≤1)
  (hg:∀ cl C s H fp,PG (blk X scope cl C s H fp N) tg g) (ht:∀ c,ifs=[c]→∀ cl C s H fp,PT (blk X scope cl C s H fp N) c tc) (he:∀ cl C s H fp,PE (blk X scope cl C s H fp N) elt te)
  (hclos:closureFor scope X.env=pure cl) (c1:∀ n c,cl.lookup n=some c→X.env.cells.lookup n=some c) (c2:∀ y∈scope.names,y.2=.free→∃ c,cl.lookup y.1=some c)
  (I:Inv X pins σ H s) (T:Turn X.prog X.w X.K tg J fp it tn) (st:tn 0 s.heap) (hf:∀ b∈fp,FpOk X pins H b)
  (hW:∀ D,H D=none→∃ W,BlkW sizeLine J g (tTests ifs tc) te D (Fin D) W∧∃ m,W 0 m (startB own cap σ) (upd H D (.lst [])) [])
  (fin:∀ D C s' H' ys,Inv X pins σ H' s'→FpOk X pins H' C→(∃ m,s'.heap.Ns C m)→H' D=some (.lst ys)→Fin D H' ys→RR (.ref D) C (.ok .next) s') :
  wpAny (model X.prog X.w) X.A (newList []) (fun acc s3=>wpAny (model X.prog X.w) X.A (newFunctionEnv scope X.env.globals cl [] X.env.qual none .none (some X.env)) (fun cenv s4 =>
   codeAny (model X.prog X.w) X.A (.compStart (.ListComp elt [⟨tg,iter,ifs,0⟩] scope pos) 0 (.ref it) acc { cenv with scope:=relabel scope X.env }) (RR acc cenv.locals) s4) E s3) E s:=by
 have hfo:∀ b∈fp,b < s.heap.objs.size:=fun b hb=>by
  obtain⟨o,e,_⟩:=T.obj 0 _ st b hb
  exact Heap.lt_size e
 have hD:H s.heap.objs.size=none:=I.hok.fresh (Nat.le_refl _)
 obtain⟨W,hturn,m0,w0⟩:=hW _ hD
 refine wpAny_newObj_type (eZ fun h1 cl2 hns kk cb=>?_)
 have I3:Inv X pins σ (upd H s.heap.objs.size (.lst [])) { s with heap:=s.heap.push { cls:=.type "list",data:=.seq #[] } }:=I.lnew (t':=s.toks) (its:=[]) .nil (Nat.zero_le _)
 have hfp3:∀ b∈fp,FpOk X pins (upd H s.heap.objs.size (.lst [])) b:=fun b hb=>⟨by rw[ar (Nat.ne_of_lt (hfo b hb))];exact(hf b hb).1,(hf b hb).2⟩
 have st1:tn 0 h1:=T.keep 0 _ _ st fun b hb o e=>kk b o (Heap.get?_push_of_some _ e)
 generalize hX:blk X scope cl2 (s.heap.push { cls:=.type "list",data:=.seq #[] }).objs.size { s with heap:=s.heap.push { cls:=.type "list",data:=.seq #[] } } (upd H s.heap.objs.size (.lst [])) fp N=X'
 have I4:Inv X' [] (startB own cap σ) (upd H s.heap.objs.size (.lst [])) { s with heap:=h1 }:=by
  rw[← hX]
  exact nw b hc I3 hfp3 (fun b hb=>Nat.lt_of_lt_of_le (hfo b hb) (by show _≤(s.heap.push _).objs.size;rw[Heap.size_push];exact Nat.le_succ _)) c1 c2 hns kk cb
 have eP:X'.prog=X.prog:=by rw[← hX];rfl
 have ew:X'.w=X.w:=by rw[← hX];rfl
 have eK:X'.K=X.K:=by rw[← hX];rfl
 have eA:X'.A=X.A:=by rw[← hX];rfl
 have ec:X'.calm=true:=by rw[← hX];rfl
 have ee:X'.env=compEnvC scope cl2 (s.heap.push { cls:=.type "list",data:=.seq #[] }).objs.size X.env:=by rw[← hX];rfl
 have ex:X'.xe=fun _ _=>False:=by rw[← hX];rfl
 have epn:X'.pn=[]:=by rw[← hX];rfl
 have eex:X'.ex=fp:=by rw[← hX];rfl
 have pg:PG X' tg g:=by rw[← hX];exact hg _ _ _ _ _
 have pe:PE X' elt te:=by rw[← hX];exact he _ _ _ _ _
 have pt:∀ c,ifs=[c]→PT X' c tc:=fun c q=>by rw[← hX];exact ht c q _ _ _ _ _
 have fpB:∀ {H':Hp},(∀ b∈fp,H' b=none)→∀ {s'':Shared} {σ':St},Inv X' [] σ' H' s''→∀ b∈fp,FpOk X' [] H' b:=fun {H'} hn {s'' σ'} Iv b hb =>
  ⟨hn b hb,(Iv.ok.exf b (by rw[eex];exact hb)).1,Iv.ok.exfs b (by rw[eex];exact hb),.inl (by rw[eex];exact hb),(Iv.ok.exf b (by rw[eex];exact hb)).2,fun p hp=>by rw[epn]at hp;exact(nomatch hp)⟩
 have loop:codeAny (model X.prog X.w) X.A (.compLoop (.ListComp elt [⟨tg,iter,ifs,0⟩] scope pos) 0 (.ref it) (.ref s.heap.objs.size) (compEnvC scope cl2 (s.heap.push { cls:=.type "list",data:=.seq #[] }).objs.size X.env))
   (RR (.ref s.heap.objs.size) (s.heap.push { cls:=.type "list",data:=.seq #[] }).objs.size) { s with heap:=h1 }:=by
  refine n6 hifs (fun n s'=>∃ i σ' H' ys,Inv X' [] σ' H' s'∧tn i s'.heap∧(∀ b∈fp,H' b=none)∧W i n σ' H' ys) (fun n s5 ⟨i,σ5,H5,ys,I5,st5,fr5,w5⟩=>?_) m0
   ⟨0,startB own cap σ,_,[],I4,st1,fun b hb=>(hfp3 b hb).1,w0⟩
  obtain⟨hDy,hgo⟩:=hturn i n σ5 H5 ys w5
  have hs5:=fpB fr5 I5
  rcases hgo with ⟨stop,hfin⟩ | ⟨go,step⟩
  ·have q:=T.done X' eP ew eK ec i [] s5 σ5 H5 (fun _ _=>False) I5 hs5 st5 stop
   rw[eA]at q
   refine wpAny_mono q (fun r s6 ⟨hr,I6⟩=>?_) fun _ _ z=>z
   subst hr
   rw[← hX]at I6
   obtain⟨J1,J2,J3⟩:=ib I hf rfl rfl rfl rfl I6
   exact fin _ _ s6 H5 ys J1 J2 J3 hDy hfin
  ·have q:=T.item X' eP ew eK ec i [] s5 σ5 H5 (fun _ _=>False) I5 hs5 st5 go
   rw[eA]at q
   refine wpAny_mono q (fun r s6 ⟨u,hr,h6⟩=>?_) fun _ _ z=>z
   subst hr
   refine wpAny_mono h6 (fun _ s7 ⟨x,H7,I7,r7,y7,st7,fr7⟩=>?_) fun _ _ z=>z
   have I7':=I7.pinned (fpB fr7 I7) (T.obj _ _ st7)
   rw[List.nil_append]at I7'
   have qg:=pg _ s7 σ5 H7 x u _ I7' r7 (step x H7 y7)
   rw[eP,ew,eA,ee,ex]at qg
   refine wpAny_mono qg (fun _ s8 ⟨σ8,H8,I8,q8⟩=>?_) fun _ _ z=>z
   have again:∀ {s9:Shared} {H9:Hp} {zs:List V},Inv X' (pinsAt fp s7.heap) σ8 H9 s9→(∃ m',m' < n∧W (i+1) m' σ8 H9 zs) →
     ∃ m,m < n∧∃ i σ' H' ys,Inv X' [] σ' H' s9∧tn i s9.heap∧(∀ b∈fp,H' b=none)∧W i m σ' H' ys:=fun {s9 H9 zs} I9 ⟨m',hm,w9⟩=>by
    have I9':Inv X' ([]++pinsAt fp s7.heap) σ8 H9 s9:=by rw[List.nil_append];exact I9
    refine⟨m',hm,i+1,σ8,H9,zs,I9'.unpinned,T.keep _ _ _ st7 fun b hb o e=>(I9.pin (b,o) (List.mem_append_right _ (bN hb e))).1,fun b hb=>?_,w9⟩
    obtain⟨o,e,d⟩:=T.obj _ _ st7 b hb
    exact(I9.pin (b,o) (List.mem_append_right _ (bN hb e))).2.1
   have body:∀ (ok:Bool) (s9:Shared),(∃ H9,Inv X' (pinsAt fp s7.heap) σ8 H9 s9∧(if ok=true then te σ8 H9 fun y H4=>H4 s.heap.objs.size=some (.lst ys)∧ys.length < sizeLine∧∃ m',m' < n∧W (i+1) m' σ8 (upd H4 s.heap.objs.size (.lst (ys++[y]))) (ys++[y]) else ∃ m',m' < n∧W (i+1) m' σ8 H9 ys)) →
     if ok=true then wpAny (model X.prog X.w) X.A (eval elt (compEnvC scope cl2 (s.heap.push { cls:=.type "list",data:=.seq #[] }).objs.size X.env)) (fun x s5=>wpAny (model X.prog X.w) X.A (call (.builtin "list.append") [.ref s.heap.objs.size,x]) (fun _ s6=>∃ m,m < n∧∃ i σ' H' ys,Inv X' [] σ' H' s6∧tn i s6.heap∧(∀ b∈fp,H' b=none)∧W i m σ' H' ys) (fun _ _=>False) s5) (fun _ _=>False) s9
     else ∃ m,m < n∧∃ i σ' H' ys,Inv X' [] σ' H' s9∧tn i s9.heap∧(∀ b∈fp,H' b=none)∧W i m σ' H' ys:=by
    intro ok s9 ⟨H9,I9,h9⟩
    cases ok with
    | false=>exact again I9 h9
    | true =>
     have qe:=pe _ s9 σ8 H9 _ I9 h9
     rw[eP,ew,eA,ee,ex]at qe
     refine wpAny_mono qe (fun u s10 ⟨y,H10,I10,r10,hD10,hlt,m',hm,w10⟩=>?_) fun _ _ z=>z
     have qa:=fG (X:=X') (pinsAt fp s7.heap) s10 σ8 H10 (.ref s.heap.objs.size) [y] (.ref s.heap.objs.size) [u] (fun _ H11=>H11=upd H10 s.heap.objs.size (.lst (ys++[y]))) I10 rfl (.cons r10 .nil)
      ⟨s.heap.objs.size,ys,y,rfl,rfl,hD10,hlt,rfl⟩
     rw[eP,ew,eA,ex]at qa
     refine wpAny_mono qa (fun _ s11 ⟨_,H11,I11,_,e11⟩=>?_) fun _ _ z=>z
     subst e11
     exact again I11 ⟨m',hm,w10⟩
   refine oi hifs (fun q=>body true s8 ⟨H8,I8,ic q q8⟩) fun c q=>?_
   have qt:=pt c q _ s8 σ8 H8 _ I8 (mx q q8)
   rw[eP,ew,eA,ee,ex]at qt
   exact wpAny_mono qt (fun ok s9 ⟨H9,I9,h9⟩=>body ok s9 ⟨H9,I9,h9⟩) fun _ _ z=>z
 exact codeAny_compStart_list loop (T.self _ 0 _ _ _ st1 loop)
def tComp (own:Nat)(cap:List Nat)(wi:TI)(g:TG)(tc:TT)(te:TE):TE:=fun σ H Q=>wi σ H fun J H1=>∀ D,H1 D=none→∃ W,BlkW sizeLine J g tc te D (fun H' _=>Q (.ref D) H') W∧∃ m,W 0 m (startB own cap σ) (upd H1 D (.lst [])) []
theorem ny (b:BlkOk X.N X.env.scope scope N own cap)(hc:X.calm=true)(hifs:ifs.length≤1)(hi:PI X tg iter wi)
  (hg:∀ cl C s H fp,PG (blk X scope cl C s H fp N) tg g) (ht:∀ c,ifs=[c]→∀ cl C s H fp,PT (blk X scope cl C s H fp N) c tc) (he:∀ cl C s H fp,PE (blk X scope cl C s H fp N) elt te)
  (hs:∀ x,foldedSetIterable iter X.env x=pure x:=by intro _;rfl):PE X (.ListComp elt [⟨tg,iter,ifs,0⟩] scope pos) (tComp own cap wi g (tTests ifs tc) te):=by
 intro pins s σ H Q I h
 obtain⟨cl,hclos,c1,c2⟩:=eG scope X.env fun y hy hf=>I.ok.has y.1 (b.free y hy hf)
 rw[eval_ListComp]
 refine wpAny_comprehension_free (use:=none) rfl hs hclos b.kind b.nloc (thn (hi pins s σ H _ I h) fun v s1 h1=>thn h1 fun itv s2 h2=>?_)
 obtain⟨it,fp,tn,J,H2,e,I2,T,st2,f2,hW⟩:=h2
 subst e
 refine kW (RR:=fun acc C=>compPost (model X.prog X.w) X.A X.xe none (EP X pins σ Q) acc C) b hc hifs hg ht he hclos c1 c2 I2 T st2 f2 hW fun D C s' H' ys J1 J2 ⟨m,hm⟩ hD hQ=>?_
 refine⟨m,hm,fun h' hsb=>⟨.ref D,H',?_,rfl,hQ⟩⟩
 obtain⟨f0,f1,f2,f3,f4,f5⟩:=J2
 exact J1.turned (t':=s'.toks) (fun b o hb e=>(hsb.2 b hb).trans e) f0 f1 f3 f4 f5
def tCompSet (i own:Nat)(cap:List Nat)(wi:TI)(g:TG)(tc:TT)(te:TE):TS:=fun E σ H=>wi σ H fun J H1=>∀ D,H1 D=none→∃ W,BlkW sizeLine J g tc te D (fun H' _=>E.nx (σ.set i (some (.ref D))) H') W∧∃ m,W 0 m (startB own cap σ) (upd H1 D (.lst [])) []
theorem my {i:Nat}{y:Str}{py spos:Pos}(b:BlkOk X.N X.env.scope scope N own cap)(hc:X.calm=true)(hifs:ifs.length≤1)(hi:PI X tg iter wi)
  (hg:∀ cl C s H fp,PG (blk X scope cl C s H fp N) tg g) (ht:∀ c,ifs=[c]→∀ cl C s H fp,PT (blk X scope cl C s H fp N) c tc) (he:∀ cl C s H fp,PE (blk X scope cl C s H fp N) elt te)
  (hN:X.N.Nodup) (hiy:X.N[i]?=some y) (hy:Loc X.env.scope y) (hfn:X.fn y=true∨X.env.scope.names.lookup y=some .local)
  (hsw:swapsWith (.ListComp elt [⟨tg,iter,ifs,0⟩] scope pos) (some (.Name y py)) spos.line X.env=pure true)
  (hs:∀ x,foldedSetIterable iter X.env x=pure x:=by intro _;rfl):PS X (.Assign [.Name y py] (.ListComp elt [⟨tg,iter,ifs,0⟩] scope pos) spos) (tCompSet i own cap wi g (tTests ifs tc) te):=by
 intro pins s σ H E I h
 obtain⟨cl,hclos,c1,c2⟩:=eG scope X.env fun y hy hf=>I.ok.has y.1 (b.free y hy hf)
 rw[exec_Assign_Name_used _ _ _ _ hsw]
 refine wpAny_bind (wpAny_standAt (wpAny_bind ?_))
 show wpAny _ X.A (do let _ ← comprehension (.ListComp elt [⟨tg,iter,ifs,0⟩] scope pos) scope X.env _ (newList []) false (eval iter X.env) (some (assign (.Name y py) X.env))) _ _ s
 refine wpAny_bind (wpAny_mono (wpAny_comprehension_free (use:=some (assign (.Name y py) X.env)) (Q:=fun _ s'=>SP X pins E .next s') rfl hs hclos b.kind b.nloc (thn (hi pins s σ H _ I h) fun v s1 h1=>thn h1 fun itv s2 h2=>?_)) (fun _ s' hq=>wpAny_pure (wpAny_pure hq)) fun _ _ e=>e)
 obtain⟨it,fp,tn,J,H2,e,I2,T,st2,f2,hW⟩:=h2
 subst e
 refine kW (RR:=fun acc C=>compPost (model X.prog X.w) X.A X.xe (some (assign (.Name y py) X.env)) (fun _ s'=>SP X pins E .next s') acc C) b hc hifs hg ht he hclos c1 c2 I2 T st2 f2 hW fun D C s' H' ys J1 J2 ⟨m,hm⟩ hD hQ=>?_
 obtain⟨f0,f1,f2,f3,f4,f5⟩:=J2
 refine wpAny_assign_Name (ju J1 hN hiy hy (v:=.ref D) rfl (fun s'' I'' ⟨a,hsb,ha⟩=>?_) hfn)
 have hne:C≠a:=by
  rcases ha with z | z
  ·rw[z];exact f1
  ·exact fun q=>f4 y a z q.symm
 refine⟨m,hm.sameBut hsb hne,fun h' hs'=>⟨_,H',I''.turned (t':=s''.toks) (fun b o hb e=>(hs'.2 b hb).trans e) f0 f1 f3 f4 f5,hQ⟩⟩
end
end FF
end
noncomputable section
namespace FF
open PySem PySem.Spec PyProof.Rows L2
def Walk (J:It)(vs:List V)(Ok:Hp→Prop):Prop:=∀ (i:Nat) (H:Hp),Ok H→(i < vs.length→J.go i H∧∀ x H',J.yld i H x H'→H'=H∧vs[i]?=some x)∧(vs.length≤i→J.stop i H)
def WalkG (F:Fx)(J:It)(ds:List D)(Z1:Hp):Prop:=∀ (i:Nat) (H Z:Hp),Same Z1 Z→Same Z H→(i < ds.length→J.go i H∧∀ x H',J.yld i H x H'→∃ Z' d,Ex H Z H' Z'∧ds[i]?=some d∧Rep F.K F.C Z' d x)∧(ds.length≤i→J.stop i H)
theorem ie {F:Fx}{J:It}{ds:List D}{vs:List V}{Z1:Hp}(rs:Reps F.K F.C Z1 ds vs)(w:Walk J vs (Same Z1)):WalkG F J ds Z1:=fun i H Z z1 z2=>by
 obtain⟨k1,k2⟩:=w i H (z1.trans z2)
 have hl:=rs.length
 refine⟨fun hi=>?_,fun hi=>k2 (by omega)⟩
 obtain⟨go,y⟩:=k1 (by omega)
 exact⟨go,fun x H' hy=>by
  obtain⟨e0,e2⟩:=y x H' hy
  subst e0
  obtain⟨d,e3,rd⟩:=rs.get' e2
  exact⟨Z,d,Ex.refl z2,e3,rd.mono z1⟩⟩
def tI (F:Fx)(g:SS→R (List D)):TI:=fun σ H Q=>∃ Z S,StOk F H Z S σ∧WG F H Z (g S) fun ds H' Z'=>∀ J,WalkG F J ds Z'→ds.length≤16777216→Q J H'
abbrev FI (X:Cx)(F:Fx)(tg e:Expr)(g:SS→R (List D)):Prop:=PI X tg e (tI F g)
def asSeq:D→R (List D)
 | .tup xs=>.ok xs
 | .lst xs=>.ok xs
 | _=>.stuck
def iSeq (g:SS→R D):SS→R (List D):=fun S=>(g S).bind fun d=>(asSeq d).bind fun ds=>if ds.length≤16777216 then .ok ds else .stuck
theorem _root_.L2.PI.weak {X:Cx}{tg e:Expr}{t t':TI}(h:PI X tg e t)(w:∀ σ H Q,t' σ H Q→t σ H Q):PI X tg e t':=fun pins s σ H Q I q=>h pins s σ H Q I (w σ H Q q)
theorem oj {K:PySem.W.Frag}{a:Addr}{vs:List V}{Z:Hp}(h:SqL K Z a vs):Walk (Itl K a) vs (Same Z):=fun i H hz =>
 ⟨fun hi=>⟨⟨vs,vs[i],hz.seq h,by simp[hi]⟩,fun x H' ⟨e,y⟩=>⟨e,y vs (hz.seq h)⟩⟩,fun hi=>⟨vs,hz.seq h,hi⟩⟩
theorem pU {K:PySem.W.Frag}{a:Addr}{vs:List V}{Z:Hp}(h:SqT K Z a vs):Walk (Itt K a) vs (Same Z):=fun i H hz =>
 ⟨fun hi=>⟨⟨vs,vs[i],h.mono hz,by simp[hi]⟩,fun x H' ⟨e,y⟩=>⟨e,y vs (h.mono hz)⟩⟩,fun hi=>⟨vs,h.mono hz,hi⟩⟩
theorem mz {lo:Int}{n:Nat}{Z:Hp}:Walk (Itr lo n) ((List.range n).map fun i=>.int (lo+(i:Nat))) (Same Z):=fun i H hz=>by
 refine⟨fun hi=>?_,fun hi=>?_⟩
 ·have hi':i < n:=by simpa using hi
  exact⟨hi',fun x H' ⟨e,y⟩=>⟨e,by rw[y];simp[hi']⟩⟩
 ·show n≤i
  simpa using hi
theorem uB {X:Cx}{tg l:Expr}{tl:TE}(hl:PE X l tl):PI X tg l (fun σ H R=>tl σ H fun x H1=>∃ a,x=.ref a∧(((∃ xs,SqL X.K H1 a xs)∧R (Itl X.K a) H1)∨((∃ xs,SqT X.K H1 a xs)∧R (Itt X.K a) H1))):=by
 intro pins s σ H Q I h
 refine thn (hl pins s σ H _ I h) fun v s1 ⟨x,H1,I1,r1,a,e,q⟩=>?_
 subst e
 cases r1
 rcases q with ⟨⟨xs,hq⟩,q⟩ | ⟨⟨xs,hq⟩,q⟩
 ·obtain⟨its,rv,p,hz⟩:=I1.list hq
  refine wpAny_pyIter_list p.isList ⟨s1.heap.objs.size,[s1.heap.objs.size],_,_,H1,rfl,I1.kept (t':=s1.toks) fun b o e=>Heap.get?_push_of_some _ e,nU a _,⟨_,Heap.get?_push_size _ rfl,rfl,rfl⟩,fun b hb=>?_,q⟩
  obtain rfl:b=s1.heap.objs.size:=by simpa using hb
  exact I1.fpOk (Nat.le_refl _) (I1.hok.fresh (Nat.le_refl _))
 ·obtain⟨its,rv,p,hz⟩:=I1.tuple hq
  refine wpAny_pyIter_tuple (show s1.heap.IsTuple a its.toArray from p) ⟨s1.heap.objs.size,[s1.heap.objs.size],_,_,H1,rfl,I1.kept (t':=s1.toks) fun b o e=>Heap.get?_push_of_some _ e,ml a _,⟨_,Heap.get?_push_size _ rfl,rfl,rfl⟩,fun b hb=>?_,q⟩
  obtain rfl:b=s1.heap.objs.size:=by simpa using hb
  exact I1.fpOk (Nat.le_refl _) (I1.hok.fresh (Nat.le_refl _))
section
variable {X:Cx}{F:Fx}{tg e:Expr}{g:SS→R D}{gs:SS→R (List D)}
theorem bj (hK:X.K=F.K)(h:FE X F e g):FI X F tg e (iSeq g):=(uB h).weak fun σ H Q ⟨Z,S,ok,w⟩=>aF ok w fun d v H1 Z1 ok1 x1 rv w1=>by
 rw[hK]
 cases d with
 | tup ds =>
  rw[Rep]at rv
  obtain⟨a,vs,rfl,h1,h2⟩:=rv
  have w2:WG F H1 Z1 (if ds.length≤16777216 then R.ok ds else .stuck) _:=w1
  split at w2
  ·rename_i hl
   exact⟨a,rfl,.inr ⟨⟨vs,h1.mono ok1.sub⟩,WG.now w2 ok1.sub _ (ie h2 (pU h1)) hl⟩⟩
  ·exact w2.elim
 | lst ds =>
  rw[Rep]at rv
  obtain⟨a,vs,rfl,h1,h2⟩:=rv
  have w2:WG F H1 Z1 (if ds.length≤16777216 then R.ok ds else .stuck) _:=w1
  split at w2
  ·rename_i hl
   exact⟨a,rfl,.inl ⟨⟨vs,ok1.sub.seq h1⟩,WG.now w2 ok1.sub _ (ie h2 (oj h1)) hl⟩⟩
  ·exact w2.elim
 | _=>exact w1.elim
def rngD (lo:Int)(n:Nat):List D:=(List.range n).map fun i=>.int (lo+(i:Nat))
def rng1:List D→R (List D)
 | [.int j]=>if -16777216≤j∧j≤16777216 then .ok (rngD 0 j.toNat) else .stuck
 | _=>.stuck
def iRange1 (gs:SS→R (List D)):SS→R (List D):=fun S=>(gs S).bind rng1
theorem kX {K:PySem.W.Frag}{C:Nat→Addr}{Z:Hp}(lo:Int):∀ (l:List Nat),Reps K C Z (l.map fun i=>.int (lo+(i:Nat))) (l.map fun i=>.int (lo+(i:Nat)))
 | []=>Reps.nil
 | a::r=>Reps.cons (by rw[Rep]) (kX lo r)
theorem nz {K:PySem.W.Frag}{C:Nat→Addr}{Z:Hp}{j:Int}{vs:List V}(r:Reps K C Z [.int j] vs):vs=[.int j]:=by
 rw[Reps]at r
 obtain⟨v,r',rfl,h1,h2⟩:=r
 rw[Reps]at h2
 rw[Rep]at h1
 rw[h1,h2]
theorem pV {K:PySem.W.Frag}{C:Nat→Addr}{Z:Hp}{i j:Int}{vs:List V}(r:Reps K C Z [.int i,.int j] vs):vs=[.int i,.int j]:=by
 rw[Reps]at r
 obtain⟨v,r',rfl,h1,h2⟩:=r
 rw[Rep]at h1
 rw[h1,nz h2]
theorem rX {ds:List D}{es:List D}(h:rng1 ds=.ok es):∃ j:Int,ds=[.int j]∧(-16777216≤j∧j≤16777216)∧es=rngD 0 j.toNat:=by
 unfold rng1 at h
 split at h
 ·rename_i j
  split at h
  ·rename_i q;cases h;exact⟨j,rfl,q,rfl⟩
  ·cases h
 ·cases h
theorem rY {ds:List D}{k:Nat}(h:rng1 ds=.err k):False:=by
 unfold rng1 at h
 split at h
 ·split at h<;>cases h
 ·cases h
theorem aD {a:Expr}{p pos:Pos}(hg:Gl X "range")(hm:X.mg "range"=none)(ha:FA X F [a] gs)(hs:starEach [a] X.env=[(false,eval a X.env)]:=by rfl):FI X F tg (.Call (.Name "range" p) [a] [] pos) (iRange1 gs) :=
 (nV hg hm ha hs).weak fun σ H Q ⟨Z,S,ok,w⟩=>bf ok w fun ds vs H1 Z1 ok1 x1 rs w1=>by
  cases e:rng1 ds with
  | err k=>exact(rY e).elim
  | stuck=>rw[e]at w1;exact w1.elim
  | ok es =>
   rw[e]at w1
   obtain⟨j,rfl,hj,rfl⟩:=rX e
   exact⟨j,nz rs,by omega,by omega,WG.now w1 ok1.sub _ (ie (kX 0 _) mz) (by unfold rngD;rw[List.length_map,List.length_range];omega)⟩
end
def tGd (F:Fx)(g:D→SS→R SS):TG:=fun v σ H Q=>∃ Z S d,StOk F H Z S σ∧Rep F.K F.C Z d v∧WG F H Z (g d S) fun S' H' Z'=>∀ σ',StOk F H' Z' S' σ'→Q σ' H'
abbrev FG (X:Cx)(F:Fx)(tg:Expr)(g:D→SS→R SS):Prop:=PG X tg (tGd F g)
def gNm (i:Nat):D→SS→R SS:=fun d S=>.ok (S.set i (some (.val d)))
theorem _root_.L2.PG.weak {X:Cx}{tg:Expr}{t t':TG}(h:PG X tg t)(w:∀ v σ H Q,t' v σ H Q→t v σ H Q):PG X tg t':=fun pins s σ H v u Q I r q=>h pins s σ H v u Q I r (w v σ H Q q)
theorem au {X:Cx}{F:Fx}(i:Nat){x:Str}{pos:Pos}(hN:X.N.Nodup)(hi:X.N[i]?=some x:=by rfl)(hx:Loc X.env.scope x:=by first | exact Or.inl rfl | exact Or.inr rfl)(hf:X.fn x=true∨X.env.scope.names.lookup x=some .local:=by first | exact .inl rfl | exact .inr rfl) :
  FG X F (.Name x pos) (gNm i):=(cI hN hi hx hf).weak fun v σ H Q ⟨Z,S,d,ok,r,w⟩=>WG.now w ok.sub _ (ok.setVal r)
end FF
end
noncomputable section
namespace FF
open PySem PySem.Spec PyProof.Rows L2
def spF (K:PySem.W.Frag)(C:Nat→Addr)(n:Nat)(f:List D→R D):Sp:=fun vs H Q E =>
 vs.length=n∧∃ Z ds,Same Z H∧Reps K C Z ds vs∧WG ⟨K,C,H,Z,E⟩ H Z (f ds) fun d H' Z'=>∀ v,Rep K C Z' d v→Q v H'
def outD (o:O):R D:=match o with
 | .nx _=>.ok .non
 | .rt d=>.ok d
 | .er k=>.err k
 | _=>.stuck
def startS (n:Nat)(ds:List D):SS:=ds.map (fun d=>some (.val d))++List.replicate (n - ds.length) none
def fnD (n:Nat)(body:SS→O):List D→R D:=fun ds=>outD (body (startS n ds))
theorem kY {F:Fx}{N:List Str}{ds:List D}{vs:List V}(z:Same F.Z0 F.H0)(r:Reps F.K F.C F.Z0 ds vs):StOk F F.H0 F.Z0 (startS N.length ds) (start N vs):=by
 have hl:=r.length
 have at_:∀ {i:Nat} {x:Option Sl},(startS N.length ds)[i]?=some x→(i < ds.length∧∃ d,ds[i]?=some d∧x=some (.val d))∨x=none:=fun {i x} e=>by
  unfold startS at e
  by_cases hi:i < ds.length
  ·rw[List.getElem?_append_left (by simpa using hi),List.getElem?_map]at e
   cases q:ds[i]? with
   | none=>rw[q]at e;cases e
   | some d=>rw[q]at e;cases e;exact .inl ⟨hi,d,rfl,rfl⟩
  ·rw[List.getElem?_append_right (by simpa using hi),List.getElem?_replicate]at e
   split at e
   ·cases e;exact .inr rfl
   ·cases e
 refine⟨Ex.refl z,?_,fun i d e=>?_,fun i j x y v w A B _ e1 _ _ _ o1 _=>?_⟩
 ·unfold startS L2.start
  simp[hl]
 ·rcases at_ e with ⟨hi,d',e1,e2⟩ | e2
  ·cases e2
   obtain⟨v,e3,rv⟩:=r.get e1
   refine⟨v,[],?_,⟨rfl,rv⟩,Priv.nil⟩
   unfold L2.start
   rw[List.getElem?_append_left (by simpa [← hl] using hi),List.getElem?_map,e3]
   rfl
  ·cases e2
 ·rcases at_ e1 with ⟨_,d',_,e2⟩ | e2
  ·cases e2;rw[o1.1];exact fun a ha=>nomatch ha
  ·cases e2
section
variable {P:Program}{w:World}{K:PySem.W.Frag}{mg:Str→Option Value}{base:Heap}
structure BX (X:Cx)(F:Fx)(k:Nat):Prop where
 room:Room k X.A
 K:X.K=F.K
 calm:X.calm=true
 pass:Passes (CXE X.prog X.w) X F.E
theorem vw {x qual:Str}{st:Stmt}{f:Addr}{fd:FuncData}{N ps:List Str}{k:Nat}{C:Nat→Addr}{body:SS→O}(F:Fun K x qual st f fd)(S:FnScope N ps (defScope st))
  (h:∀ (cdv:Value) (A:Around) (outer:List Env) (s:Shared) (H Z:Hp) (E:XK),BX (bodyX P w K mg base N qual (defScope st) f cdv A outer s H E) ⟨K,C,H,Z,E⟩ k →
   PassesOwn (model P w) (bodyX P w K mg base N qual (defScope st) f cdv A outer s H E).A (bodyX P w K mg base N qual (defScope st) f cdv A outer s H E).env (bodyX P w K mg base N qual (defScope st) f cdv A outer s H E).xe →
   FSs (bodyX P w K mg base N qual (defScope st) f cdv A outer s H E) ⟨K,C,H,Z,E⟩ (defBody st) body) :
  FnOk P w K mg base (CXE P w) (k+1) f fd ps (spF K C ps.length (fnD N.length body)):=by
 obtain⟨oc,od,kV,doc,pm,an,cdv,ct,osl,rfl,lk,hcd⟩:=F.ex
 refine tJ lk hcd S (fun vs H Q E q=>q.1) fun A outer s H vs Q E hr hsp=>?_
 obtain⟨_,Z,ds,z,r,w⟩:=hsp
 refine⟨_,h cdv A outer s H Z E ⟨hr,rfl,rfl,jD⟩ PassesOwn.leaving,Z,startS N.length ds,kY (F:=⟨K,C,H,Z,E⟩) (N:=N) z r,?_⟩
 unfold fnD at w
 cases e:body (startS N.length ds) with
 | nx S'=>rw[e]at w;exact fun σ' H' Z' _ ok=>w H' Z' ok.ex .non (by rw[Rep])
 | rt d=>rw[e]at w;exact fun v H' Z' x rv=>w H' Z' x v rv
 | er k=>rw[e]at w;exact w
 | bk S'=>rw[e]at w;exact w.elim
 | ct S'=>rw[e]at w;exact w.elim
 | stuck=>rw[e]at w;exact w
end
structure Fn1 (P:Program)(w:World)(K:PySem.W.Frag)(mg:Str→Option Value)(base:Heap)(C:Nat→Addr)(k:Nat)(x:Str)(ps:List Str)(f:List D→R D):Prop where
 ex:∃ a fd,FnOk P w K mg base (CXE P w) k a fd ps (spF K C ps.length f)∧mg x=some (.ref a)∧PySem.W.keepIn K (.ref a)=true∧Binds K fd ps []
def eCall (f:List D→R D)(gs:SS→R (List D)):SS→R D:=fun S=>(gs S).bind f
section
variable {X:Cx}{F:Fx}{x:Str}{p pos:Pos}{e:Expr}{es:List Expr}{gs:SS→R (List D)}{k:Nat}{ps:List Str}{f:List D→R D}
theorem pW (n:Nat)(hn:∀ S ds,gs S=.ok ds→ds.length=n):∀ σ H Q,tE F (eCall f gs) σ H Q→tCall (spF F.K F.C n f) [] F.E (tAl F gs) σ H Q:=fun σ H Q ⟨Z,S,ok,w⟩=>by
 refine⟨Z,S,ok,?_⟩
 cases e:gs S with
 | err k=>unfold eCall at w;rw[e]at w;exact w
 | stuck=>unfold eCall at w;rw[e]at w;exact w
 | ok ds =>
  unfold eCall at w
  rw[e]at w
  intro H1 Z1 x1 vs rs
  have w1:=WG.more (r:=f ds) w x1
  refine⟨by rw[List.append_nil,← rs.length];exact hn S ds e,Z1,ds,x1.sub,by rw[List.append_nil];exact rs,?_⟩
  cases q:f ds with
  | ok d=>rw[q]at w1;exact w1
  | err k=>rw[q]at w1;exact w1
  | stuck=>rw[q]at w1;exact w1
theorem rZ (b:BX X F k)(h:Fn1 X.prog X.w F.K X.mg X.base F.C k x ps f)(hg:Gl X x)(ha:FA X F (e::es) gs)(hn:∀ S ds,gs S=.ok ds→ds.length=ps.length)(hdb:(x==("__debug__":Str))=false:=by decide)
  (he:starEach (e::es) X.env=(false,eval e X.env)::starEach es X.env:=by rfl) (hpl:(backTo pos (starEach es X.env)).any (·.1)=false:=by rfl):FE X F (.Call (.Name x p) (e::es) [] pos) (eCall f gs):=by
 obtain⟨a,fd,h1,h2,h3,h4⟩:=h.ex
 have hK:=b.K
 exact(rF (ds:=[]) (dvs:=[]) (E:=F.E) (by rw[hK];exact h1) b.room hg h2 (by rw[hK];exact h3) (by rw[hK];exact h4) .nil b.pass ha hdb he hpl).weak (pW ps.length hn)
theorem ol {g:SS→R D}{gs:SS→R (List D)}{n:Nat}(h:∀ S ds,gs S=.ok ds→ds.length=n):∀ S ds,aCons g gs S=.ok ds→ds.length=n+1:=fun S ds e=>by
 unfold aCons at e
 cases q:g S with
 | err k=>rw[q]at e;cases e
 | stuck=>rw[q]at e;cases e
 | ok d =>
  rw[q]at e
  cases q2:gs S with
  | err k=>rw[R.bind_ok,q2]at e;cases e
  | stuck=>rw[R.bind_ok,q2]at e;cases e
  | ok r =>
   rw[R.bind_ok,q2]at e
   cases e
   simp[h S r q2]
end
def noErr {α:Type}(r:R α):R α:=match r with
 | .ok a=>.ok a
 | _=>.stuck
def blkS (own:Nat)(cap:List Nat)(S:SS):SS:=List.replicate own none++cap.map fun i=>match S[i]? with
 | some (some (.val d))=>some (.val d)
 | _=>none
def compGo (S:SS)(g:D→SS→R SS)(c:SS→R Bool)(e:SS→R D):List D→R (List D)
 | []=>.ok []
 | d::r=>(g d S).bind fun S1=>(c S1).bind fun t=>if t=true then (e S1).bind fun y=>(compGo S g c e r).bind fun ys=>.ok (y::ys) else compGo S g c e r
def eComp (own:Nat)(cap:List Nat)(it:SS→R (List D))(g:D→SS→R SS)(c:SS→R Bool)(e:SS→R D):SS→R D:=fun S=>(it S).bind fun ds=>(noErr (compGo (blkS own cap S) g c e ds)).bind fun ys=>.ok (.lst ys)
def tTrue:SS→R Bool:=fun _=>.ok true
abbrev noE (F:Fx):Fx:={ F with E:=fun _ _ _=>False }
def Own (own:Nat)(g:D→SS→R SS):Prop:=∀ d S S1,g d S=.ok S1→S1.length=S.length∧∀ i,own≤i→S1[i]?=S[i]?
theorem aq {X:Cx}{F:Fx}{k:Nat}(bx:BX X F k){scope:Scope}{cl:List (Str×Addr)}{C:Addr}{s:Shared}{H:Hp}{fp:List Addr}{N:List Str}:BX (blk X scope cl C s H fp N) (noE F) k :=
 ⟨bx.room,bx.K,rfl,fun pins σ H s e s' _ h=>by
  obtain⟨_,_,_,_,_,_,_,_,_,_,_,_,_,hE⟩:=h
  exact hE.elim⟩
theorem aN {own i:Nat}(h:i < own):Own own (gNm i):=fun d S S1 e=>by
 cases e
 exact⟨by simp,fun j hj=>List.getElem?_set_ne (by omega)⟩
theorem StOk.forget {F:Fx}{H Z:Hp}{S S0:SS}{σ:St}(h:StOk F H Z S σ)(hl:S0.length=S.length)(hs:∀ (i:Nat) (x:Sl),S0[i]?=some (some x)→S[i]?=some (some x)):StOk F H Z S0 σ :=
 ⟨h.ex,hl.trans h.len,fun i x e=>h.sl i x (hs i _ e),fun i j x y v w A B hij e1 e2=>h.dj i j x y v w A B hij (hs i _ e1) (hs j _ e2)⟩
theorem StOk.wish {F:Fx}{H Z:Hp}{S:SS}{σ:St}(h:StOk F H Z S σ)(E:XK):StOk { F with E:=E } H Z S σ :=
 ⟨h.ex,h.len,fun i x e=>by obtain⟨v,A,e1,o,p⟩:=h.sl i x e;exact⟨v,A,e1,ow_K o,p.nd,p.z,p.h0⟩,fun i j x y v w A B hij e1 e2 e3 e4 o1 o2=>h.dj i j x y v w A B hij e1 e2 e3 e4 (ow_K o1) (ow_K o2)⟩
theorem cJ {own:Nat}{cap:List Nat}{S:SS}{i:Nat}{x:Sl}(e:(blkS own cap S)[i]?=some (some x)):own≤i∧∃ k d,cap[i - own]?=some k∧S[k]?=some (some (.val d))∧x=.val d:=by
 unfold blkS at e
 by_cases hi:i < own
 ·rw[List.getElem?_append_left (by simpa using hi),List.getElem?_replicate]at e
  split at e<;>cases e
 ·rw[List.getElem?_append_right (by simpa using hi),List.length_replicate,List.getElem?_map]at e
  cases q:cap[i - own]? with
  | none=>rw[q]at e;cases e
  | some k =>
   rw[q]at e
   simp only[Option.map_some,Option.some.injEq]at e
   split at e
   ·rename_i d q2
    cases e
    exact⟨by omega,k,d,rfl,q2,rfl⟩
   ·cases e
theorem jE {F:Fx}{H Z:Hp}{S:SS}{σ:St}{own:Nat}{cap:List Nat}{D:Addr}(ok:StOk F H Z S σ)(hD:H D=none):StOk (noE F) (upd H D (.lst [])) Z (blkS own cap S) (startB own cap σ):=by
 refine⟨ok.ex.trans (Ex.hidden ok.sub hD),by simp[blkS,startB],fun i x e=>?_,fun i j x y v w A B _ e1 _ _ _ o1 _=>?_⟩
 ·obtain⟨hi,k,d',q1,q2,q3⟩:=cJ e
  cases q3
  obtain⟨v,e1,r⟩:=ok.val k d' q2
  refine⟨v,[],?_,⟨rfl,r⟩,Priv.nil⟩
  unfold startB
  rw[List.getElem?_append_right (by simpa using hi),List.length_replicate,List.getElem?_map,q1]
  simp[e1]
 ·obtain⟨_,_,_,_,_,q⟩:=cJ e1
  cases q
  rw[o1.1];exact fun a ha=>nomatch ha
section
variable {X:Cx}{F:Fx}{tg iter elt:Expr}{ifs:List Expr}{scope:Scope}{N:List Str}{own:Nat}{cap:List Nat}{pos:Pos}{git:SS→R (List D)}{g:D→SS→R SS}{gc:SS→R Bool}{ge:SS→R D}
theorem mB {σ:St}{H Z:Hp}{S:SS}{ifs:List Expr}{P:D→Hp→Hp→Prop}{Q:Addr→Hp→Prop}(hgc:ifs=[]→gc=tTrue)(hgo:Own own g)(ok:StOk F H Z S σ)(w:WG F H Z (eComp own cap git g gc ge S) P)
  (hP:∀ D ys ds H1 Z1 H' Z',Ex H Z H1 Z1→H1 D=none→Ex H1 Z1 H' Z'→Z' D=none→(∀ H'' Z'',Ex H1 Z1 H'' Z''→P (.lst ds) H'' Z'')→H' D=some (.lst ys)→Reps F.K F.C Z' ds ys→Q D H') :
  tI F git σ H fun J H1=>∀ D,H1 D=none→∃ W,BlkW sizeLine J (tGd (noE F) g) (tTests ifs (tT (noE F) gc)) (tE (noE F) ge) D (fun H' _=>Q D H') W∧∃ m,W 0 m (startB own cap σ) (upd H1 D (.lst [])) []:=by
 refine⟨Z,S,ok,?_⟩
 unfold eComp at w
 cases e:git S with
 | err k=>rw[e]at w;exact w
 | stuck=>rw[e]at w;exact w
 | ok ds =>
  rw[e]at w
  intro H1 Z1 x1 J wk hlen D hD
  have w1:=WG.more (r:=(noErr (compGo (blkS own cap S) g gc ge ds)).bind fun ys=>R.ok (FF.D.lst ys)) w x1
  have ok1:=ok.more x1
  have hS:=sizeLine_eq
  refine⟨fun i m σ' H' ys=>m=ds.length - i∧i≤ds.length∧H' D=some (.lst ys)∧ys.length≤i∧∃ Z' acc,Ex H1 Z1 H' Z'∧Z' D=none∧Reps F.K F.C Z' acc ys∧StOk (noE F) H' Z' (blkS own cap S) σ' ∧
   WG F H1 Z1 ((noErr (compGo (blkS own cap S) g gc ge (ds.drop i))).bind fun zs=>R.ok (FF.D.lst (acc++zs))) P,?_,ds.length,rfl,Nat.zero_le _,ap,Nat.le_refl _,Z1,[],Ex.hidden ok1.sub hD,ok1.sub.free hD,Reps.nil,jE ok1 hD,w1⟩
  rintro i m σ2 H2 ys ⟨rfl,hle,hDy,hyl,Z2,acc,x2,hZD,ra,ok2,w2⟩
  refine⟨hDy,?_⟩
  obtain⟨k1,k2⟩:=wk i H2 Z2 x2.z x2.sub
  by_cases hlt:i < ds.length
  ·obtain⟨go,y⟩:=k1 hlt
   refine .inr ⟨go,fun x H' hy=>?_⟩
   obtain⟨Z2',d,x',e3,rd⟩:=y x H' hy
   have ok2:=ok2.more x'
   have hZD:Z2' D=none:=by
    cases r:Z2' D with
    | none=>rfl
    | some o =>
     rcases x'.new D (by rw[r];simp) with z | z
     ·exact absurd hZD z
     ·rw[hDy]at z;cases z
   have hDy:=x'.same _ _ hDy
   have x2:=x2.trans x'
   have ra:=ra.mono x'.z
   have hd:ds.drop i=d::ds.drop (i+1):=by
    obtain⟨hi,e4⟩:=List.getElem?_eq_some_iff.mp e3
    rw[List.drop_eq_getElem_cons hi,e4]
   rw[hd]at w2
   unfold compGo at w2
   refine⟨Z2',blkS own cap S,d,ok2,rd,?_⟩
   cases qg:g d (blkS own cap S) with
   | err k=>rw[qg]at w2;exact w2.elim
   | stuck=>rw[qg]at w2;exact w2.elim
   | ok S1 =>
    rw[qg,R.bind_ok]at w2
    intro H3 Z3 x3 σ3 ok3
    obtain⟨gl,gk⟩:=hgo _ _ _ qg
    have back:∀ {H Z:Hp},StOk (noE F) H Z S1 σ3→StOk (noE F) H Z (blkS own cap S) σ3:=fun h=>h.forget gl.symm fun j z q=>by
     rw[gk j (cJ q).1];exact q
    have hD3:H3 D=some (.lst ys):=x3.same _ _ hDy
    have x13:=x2.trans x3
    have zD:∀ {H Z:Hp},Ex H1 Z1 H Z→Ex H' Z2' H Z→Z D=none:=fun {H Z} _ q=>by
     cases r:Z D with
     | none=>rfl
     | some o =>
      rcases q.new D (by rw[r];simp) with z | z
      ·exact absurd hZD z
      ·rw[hDy]at z;cases z
    have fin:∀ (t:Bool) (H4 Z4:Hp),Ex H' Z2' H4 Z4→StOk (noE F) H4 Z4 S1 σ3→gc S1=.ok t→if t=true then tE (noE F) ge σ3 H4 fun y H5=>H5 D=some (.lst ys)∧ys.length < sizeLine∧∃ m',m' < ds.length - i∧(m'=ds.length - (i+1)∧i+1≤ds.length∧(upd H5 D (.lst (ys++[y]))) D=some (.lst (ys++[y]))∧(ys++[y]).length≤i+1∧∃ Z' acc,Ex H1 Z1 (upd H5 D (.lst (ys++[y]))) Z'∧Z' D=none∧Reps F.K F.C Z' acc (ys++[y])∧StOk (noE F) (upd H5 D (.lst (ys++[y]))) Z' (blkS own cap S) σ3 ∧
      WG F H1 Z1 ((noErr (compGo (blkS own cap S) g gc ge (ds.drop (i+1)))).bind fun zs=>R.ok (FF.D.lst (acc++zs))) P)
      else ∃ m',m' < ds.length - i∧(m'=ds.length - (i+1)∧i+1≤ds.length∧H4 D=some (.lst ys)∧ys.length≤i+1∧∃ Z' acc,Ex H1 Z1 H4 Z'∧Z' D=none∧Reps F.K F.C Z' acc ys∧StOk (noE F) H4 Z' (blkS own cap S) σ3 ∧
      WG F H1 Z1 ((noErr (compGo (blkS own cap S) g gc ge (ds.drop (i+1)))).bind fun zs=>R.ok (FF.D.lst (acc++zs))) P):=by
     intro t H4 Z4 x4 ok4 qc
     rw[qc,R.bind_ok]at w2
     cases t with
     | false =>
      rw[if_neg Bool.false_ne_true]at w2 ⊢
      exact⟨ds.length - (i+1),by omega,rfl,hlt,x4.same _ _ hDy,by omega,Z4,acc,x2.trans x4,zD (x2.trans x4) x4,ra.mono x4.z,back ok4,w2⟩
     | true =>
      rw[if_pos rfl]at w2 ⊢
      refine⟨Z4,S1,ok4,?_⟩
      cases qe:ge S1 with
      | err k=>rw[qe]at w2;exact w2.elim
      | stuck=>rw[qe]at w2;exact w2.elim
      | ok yd =>
       rw[qe,R.bind_ok]at w2
       intro H5 Z5 x5 yv ry
       have hD5:H5 D=some (.lst ys):=x5.same _ _ (x4.same _ _ hDy)
       have x25:=x4.trans x5
       have z5:=zD (x2.trans x25) x25
       have ok5:=ok4.more x5
       have n0:F.H0 D=none:=ok1.ex.same.free hD
       have xu:Ex H1 Z1 (upd H5 D (.lst (ys++[yv]))) Z5:=by
        have q:=x2.trans x25
        refine⟨fun b o e=>?_,q.z,fun b o e=>?_,q.new⟩
        ·rw[ar (fun z=>by subst z;rw[hD]at e;cases e)];exact q.same b o e
        ·rw[ar (fun z=>by subst z;rw[z5]at e;cases e)];exact q.sub b o e
       refine⟨hD5,by omega,ds.length - (i+1),by omega,rfl,hlt,ap,by simp;omega,Z5,acc++[yd],xu,z5,(ra.mono x25.z).append (Reps.cons ry Reps.nil),?_,?_⟩
       ·have q:=back ok5
        refine⟨⟨fun b o e=>?_,q.ex.z,fun b o e=>?_,q.ex.new⟩,q.len,fun j x e=>?_,fun j k x y v w A B _ e1 _ _ _ o1 _=>?_⟩
        ·rw[ar (fun z=>by subst z;have e':F.H0 b=some o:=e;rw[n0]at e';cases e')];exact q.ex.same b o e
        ·rw[ar (fun z=>by subst z;rw[z5]at e;cases e)];exact q.ex.sub b o e
        ·obtain⟨_,_,_,_,_,z⟩:=cJ e
         cases z
         obtain⟨v,e1,r⟩:=q.val j _ e
         exact⟨v,[],e1,⟨rfl,r⟩,Priv.nil⟩
        ·obtain⟨_,_,_,_,_,z⟩:=cJ e1
         cases z
         rw[o1.1];exact fun a ha=>nomatch ha
       ·cases qr:compGo (blkS own cap S) g gc ge (ds.drop (i+1)) with
        | err k=>rw[qr]at w2;exact w2.elim
        | stuck=>rw[qr]at w2;exact w2.elim
        | ok zs=>rw[qr]at w2;simpa [noErr,List.append_assoc] using w2
    cases qc:gc S1 with
    | err k=>rw[qc]at w2;exact w2.elim
    | stuck=>rw[qc]at w2;exact w2.elim
    | ok t =>
     cases ifs with
     | nil =>
      have:=hgc rfl
      subst this
      cases qc
      exact fin true H3 Z3 x3 ok3 rfl
     | cons c r =>
      refine⟨Z3,S1,ok3,?_⟩
      rw[qc]
      intro H4 Z4 x4
      exact fin t H4 Z4 (x3.trans x4) (ok3.more x4) qc
  ·have ei:i=ds.length:=by omega
   refine .inl ⟨k2 (by omega),?_⟩
   rw[List.drop_eq_nil_of_le (by omega)]at w2
   have w3:WG F H1 Z1 (R.ok (FF.D.lst (acc++[]))) P:=w2
   rw[List.append_nil]at w3
   exact hP D ys acc H1 Z1 H2 Z2 x1 hD x2 hZD w3 hDy ra
theorem fN {σ:St}{H Z:Hp}{S:SS}{ifs:List Expr}{P:D→Hp→Hp→Prop}{Q:Addr→Hp→Prop}(hgc:ifs=[]→gc=tTrue)(hgo:Own own g)(ok:StOk F H Z S σ)(w:WG F H Z (eComp own cap git g gc ge S) P)(hP:∀ D ys ds H' Z',Ex H Z H' Z'→P (.lst ds) H' Z'→H' D=some (.lst ys)→Z' D=some (.lst ys)→Reps F.K F.C Z' ds ys→Q D H') :
  tI F git σ H fun J H1=>∀ D,H1 D=none→∃ W,BlkW sizeLine J (tGd (noE F) g) (tTests ifs (tT (noE F) gc)) (tE (noE F) ge) D (fun H' _=>Q D H') W∧∃ m,W 0 m (startB own cap σ) (upd H1 D (.lst [])) [] :=
 mB hgc hgo ok w fun D ys ds H1 Z1 H2 Z2 x1 hD x2 hZD w3 hDy ra=>by
  have hz:Same Z2 (upd Z2 D (.lst ys)):=aC hZD
  have xf:Ex H1 Z1 H2 (upd Z2 D (.lst ys)):=by
   refine⟨x2.same,x2.z.trans hz,fun b o e=>?_,fun b hb=>?_⟩
   ·by_cases q:b=D
    ·subst q;rw[ap]at e;cases e;exact hDy
    ·rw[ar q]at e;exact x2.sub b o e
   ·by_cases q:b=D
    ·subst q;exact .inr hD
    ·rw[ar q]at hb;exact x2.new b hb
  exact hP D ys ds H2 _ (x1.trans xf) (w3 H2 _ xf) hDy ap (ra.mono hz)
theorem aK {k:Nat}(bx:BX X F k)(b:BlkOk X.N X.env.scope scope N own cap)(hi:FI X F tg iter git)(hgo:Own own g)
  (hg:∀ cl C s H fp,FG (blk X scope cl C s H fp N) (noE F) tg g) (he:∀ cl C s H fp,FE (blk X scope cl C s H fp N) (noE F) elt ge)
  (hs:∀ x,foldedSetIterable iter X.env x=pure x:=by intro _;rfl):FE X F (.ListComp elt [⟨tg,iter,[],0⟩] scope pos) (eComp own cap git g tTrue ge) :=
 (ny (ifs:=[]) (tc:=tT (noE F) tTrue) b bx.calm (by simp) hi hg (fun c q=>nomatch q) he hs).weak fun σ H Q ⟨Z,S,ok,w⟩ =>
  fN (fun _=>rfl) hgo ok w fun D ys ds H' Z' _ p h1 h2 r=>p _ (by rw[Rep];exact⟨D,ys,rfl,SqL.of h2,r⟩)
theorem om {k:Nat}{c:Expr}(bx:BX X F k)(b:BlkOk X.N X.env.scope scope N own cap)(hi:FI X F tg iter git)(hgo:Own own g)
  (hg:∀ cl C s H fp,FG (blk X scope cl C s H fp N) (noE F) tg g) (ht:∀ cl C s H fp,FT (blk X scope cl C s H fp N) (noE F) c gc) (he:∀ cl C s H fp,FE (blk X scope cl C s H fp N) (noE F) elt ge)
  (hs:∀ x,foldedSetIterable iter X.env x=pure x:=by intro _;rfl):FE X F (.ListComp elt [⟨tg,iter,[c],0⟩] scope pos) (eComp own cap git g gc ge) :=
 (ny (ifs:=[c]) b bx.calm (by simp) hi hg (fun c' q=>by cases q;exact ht) he hs).weak fun σ H Q ⟨Z,S,ok,w⟩ =>
  fN (fun q=>nomatch q) hgo ok w fun D ys ds H' Z' _ p h1 h2 r=>p _ (by rw[Rep];exact⟨D,ys,rfl,SqL.of h2,r⟩)
theorem WG.unbind {α β:Type}{F:Fx}{H Z:Hp}{r:R α}{f:α→β}{P:β→Hp→Hp→Prop}(w:WG F H Z (r.bind fun d=>.ok (f d)) P):WG F H Z r fun d H' Z'=>P (f d) H' Z':=by
 cases r with
 | ok d=>exact w
 | err k=>exact w
 | stuck=>exact w
theorem pX {i:Nat}{D:Ends}{σ:St}{H Z:Hp}{S:SS}(hgc:ifs=[]→gc=tTrue)(hgo:Own own g)(ok:StOk F H Z S σ)(w:WO F Z (sSet i (eComp own cap git g gc ge) S) D) :
  tCompSet i own cap (tI F git) (tGd (noE F) g) (tTests ifs (tT (noE F) gc)) (tE (noE F) ge) D σ H :=
 fN (P:=fun d _ Z'=>WO F Z' (.nx (S.set i (some (.val d)))) D) (Q:=fun a H'=>D.nx (σ.set i (some (.ref a))) H') hgc hgo ok (WG.unbind (WO.wg ok w)) fun a ys ds H' Z' x p h1 h2 r =>
  p _ H' Z' (Same.refl _) ((ok.more x).setVal (by rw[Rep];exact⟨a,ys,rfl,SqL.of h2,r⟩))
theorem ig {k:Nat}(i:Nat){y:Str}{py spos:Pos}(bx:BX X F k)(b:BlkOk X.N X.env.scope scope N own cap)(hi:FI X F tg iter git)(hgo:Own own g)
  (hg:∀ cl C s H fp,FG (blk X scope cl C s H fp N) (noE F) tg g) (he:∀ cl C s H fp,FE (blk X scope cl C s H fp N) (noE F) elt ge) (hN:X.N.Nodup)
  (hsw:swapsWith (.ListComp elt [⟨tg,iter,[],0⟩] scope pos) (some (.Name y py)) spos.line X.env=pure true:=by rfl) (hiy:X.N[i]?=some y:=by rfl) (hy:Loc X.env.scope y:=by first | exact Or.inl rfl | exact Or.inr rfl)
  (hfn:X.fn y=true∨X.env.scope.names.lookup y=some .local:=by first | exact .inl rfl | exact .inr rfl) (hs:∀ x,foldedSetIterable iter X.env x=pure x:=by intro _;rfl) :
  FS X F (.Assign [.Name y py] (.ListComp elt [⟨tg,iter,[],0⟩] scope pos) spos) (sSet i (eComp own cap git g tTrue ge)) :=
 (my (ifs:=[]) (tc:=tT (noE F) tTrue) b bx.calm (by simp) hi hg (fun c q=>nomatch q) he hN hiy hy hfn hsw hs).weak fun D σ H ⟨Z,S,ok,w⟩=>pX (fun _=>rfl) hgo ok w
end
end FF
end
noncomputable section
namespace FF
open PySem PySem.Spec PyProof.Rows L2
def dAdd (x y:D):R D:=if isInt x=true then dI0 (fun i j=>.int (i+j)) x y else if isTup x=true then dCatT x y else dCatL x y
def dSub:D→D→R D:=dI0 fun i j=>.int (i - j)
def dMul (x y:D):R D:=if isInt x=true then dI cMul (fun i j=>.int (i*j)) x y else if isTup x=true then dRepT x y else dRepL x y
def dDiv:D→D→R D:=dI cDiv fun i j=>.int (i/j)
def dMod:D→D→R D:=dI (fun _ j=>decide (0 < j)) fun i j=>.int (i%j)
def dLt:D→D→R D:=dI0 fun i j=>.bl (decide (i < j))
def dLe:D→D→R D:=dI0 fun i j=>.bl (decide (i≤j))
def dGt:D→D→R D:=dI0 fun i j=>.bl (decide (j < i))
def dGe:D→D→R D:=dI0 fun i j=>.bl (decide (j≤i))
theorem aH {K:PySem.W.Frag}{C:Nat→Addr}{Z:Hp}{i:Int}:Rep K C Z (.int i) (.int i):=by rw[Rep]
theorem bn {K:PySem.W.Frag}{C:Nat→Addr}{Z:Hp}{i:Bool}:Rep K C Z (.bl i) (.bl i):=by rw[Rep]
section
variable {X:Cx}{F:Fx}{a b c:Expr}{ga gb gc:SS→R D}{pos:Pos}
theorem bB (ha:FE X F a ga)(hb:FE X F b gb):FE X F (.BinOp a .Sub b pos) (eOp dSub ga gb):=kS uj (cS fun _ _ _=>aH) ha hb
theorem kj (ha:FE X F a ga)(hb:FE X F b gb):FE X F (.BinOp a .FloorDiv b pos) (eOp dDiv ga gb):=kS rB (pO rR fun _ _ _=>aH) ha hb
theorem di (ha:FE X F a ga)(hb:FE X F b gb):FE X F (.BinOp a .Mod b pos) (eOp dMod ga gb):=kS ul (pO (fun i j h=>of_decide_eq_true h) fun _ _ _=>aH) ha hb
theorem pY (ha:FE X F a ga)(hb:FE X F b gb):FT X F (.Compare a [.Lt] [b] pos) (gB (eOp dLt ga gb)):=hJ pz (cS fun _ _ _=>bn) ha hb
theorem nA (ha:FE X F a ga)(hb:FE X F b gb):FT X F (.Compare a [.GtE] [b] pos) (gB (eOp dGe ga gb)):=hJ va (cS fun _ _ _=>bn) ha hb
theorem ag (hK:X.K=F.K)(ha:FE X F a ga)(hb:FE X F b gb)(hs:PlainIx b:=by intro _ _;rfl):FE X F (.Subscript a b pos) (eOp dIx ga gb):=vc uu (by rw[hK];exact uA) ha hb hs
theorem r6:OpR X (binaryOp .Add) (fun x y H Q=>rI0 (fun i j=>.int (i+j)) x y H Q∨(rCat2 X.K x y H Q∨∃ a b xs ys,x=.ref a∧y=.ref b∧SqL X.K H a xs∧SqL X.K H b ys∧xs.length+ys.length≤sizeLine∧∀ p,H p=none→Q (.ref p) (upd H p (.lst (xs++ys))))) :=
 ui.or (rS.or pS)
theorem aE (hK:X.K=F.K)(ha:FE X F a ga)(hb:FE X F b gb):FE X F (.BinOp a .Add b pos) (eOp dAdd ga gb) :=
 kS r6 (by rw[hK];exact OpD.or (fun x _=>isInt x) (cS fun _ _ _=>aH) (OpD.or (fun x _=>isTup x) pP pR)) ha hb
theorem bv (hK:X.K=F.K)(ha:FE X F a ga)(hb:FE X F b gb):FE X F (.BinOp a .Mult b pos) (eOp dMul ga gb) :=
 kS (uk.or (rT.or rV)) (by rw[hK];exact OpD.or (fun x _=>isInt x) (pO rQ fun _ _ _=>aH) (OpD.or (fun x _=>isTup x) pQ pT)) ha hb
end
theorem uC {X:Cx}{pins:List (Addr×Obj)}{σ:St}{H Z:Hp}{s:Shared}{K:PySem.W.Frag}{C:Nat→Addr}(hK:X.K=K)(I:Inv X pins σ H s)(z:Same Z H)(n:Nat)(A:Around)(d e:D)(v u:V)(x y:Value)(g1:good n d=true)(g2:good n e=true)
  (h:Rep K C Z d v) (h':Rep K C Z e u) (rx:RelV v x) (ry:RelV u y) (hu:A.units+n < cLine):SeqAt.RcAt A s x y (eqD d e):=by
 have hu0:A.units < cLine:=by omega
 cases d with
 | exc k=>cases n<;>simp[good]at g1
 | fn k=>cases n<;>simp[good]at g1
 | tup ds =>
  cases n with
  | zero=>simp[good]at g1
  | succ n =>
   have in1:A.in1.units+n < cLine:=by show A.units+1+n < cLine;omega
   rw[Rep]at h
   obtain⟨a,vs,rfl,h1,h2⟩:=h
   cases rx
   obtain⟨its,r,p,_⟩:=I.tuple (by rw[hK];exact h1.mono z:SqT X.K H a vs)
   have p':s.heap.IsTuple a its.toArray:=p
   cases e with
   | tup es =>
    rw[Rep]at h'
    obtain⟨b,us,rfl,k1,k2⟩:=h'
    cases ry
    obtain⟨its2,r2,p2,_⟩:=I.tuple (by rw[hK];exact k1.mono z:SqT X.K H b us)
    have p2':s.heap.IsTuple b its2.toArray:=p2
    rw[good]at g1 g2
    have q:=SeqAt.RcAt.tuples (A:=A) (e:=fun j=>eqD (ds.getD j .non) (es.getD j .non)) p' p2' hu0 fun j j1 j2=>by
     have j1':j < its.length:=by simpa using j1
     have j2':j < its2.length:=by simpa using j2
     have l1:j < ds.length:=by rw[h2.length,r.length];exact j1'
     have l2:j < es.length:=by rw[k2.length,r2.length];exact j2'
     have e1:ds[j]?=some ds[j]:=by simp
     have e2:es[j]?=some es[j]:=by simp
     obtain⟨w1,f1,f2⟩:=h2.get e1
     obtain⟨w2,f3,f4⟩:=k2.get e2
     obtain⟨z1,m1,m2⟩:=r.get f1
     obtain⟨z2,m3,m4⟩:=r2.get f3
     have n1:its.toArray[j]=z1:=by simpa [j1'] using m1
     have n2:its2.toArray[j]=z2:=by simpa [j2'] using m3
     rw[n1,n2]
     have g3:ds.getD j .non=ds[j]:=by simp[l1]
     have g4:es.getD j .non=es[j]:=by simp[l2]
     rw[g3,g4]
     exact fK hK I z n A.in1 _ _ w1 w2 z1 z2 (aI g1 e1) (aI g2 e2) f2 f4 m2 m4 in1
    rw[eqD,cw]
    have s1:its.toArray.size=ds.length:=by rw[List.size_toArray,h2.length,r.length]
    have s2:its2.toArray.size=es.length:=by rw[List.size_toArray,k2.length,r2.length]
    rw[s1,s2]at q
    exact q
   | lst es =>
    rw[Rep]at h'
    obtain⟨b,us,rfl,k1,k2⟩:=h'
    cases ry
    obtain⟨its2,r2,p2,_⟩:=I.list (by rw[hK];exact z.seq k1:SqL X.K H b us)
    simp only[eqD]
    exact SeqAt.RcAt.tuple_list p' p2.isList hu0
   | exc k=>simp[good]at g2
   | fn k=>simp[good]at g2
   | non=>rw[Rep]at h';subst h';cases ry;simp only[eqD];exact SeqAt.RcAt.tuple_none p' hu0
   | bl b=>rw[Rep]at h';subst h';cases ry;simp only[eqD];exact SeqAt.RcAt.tuple_bool _ p' hu0
   | int b=>rw[Rep]at h';subst h';obtain⟨t,rfl⟩:=ry;simp only[eqD];exact SeqAt.RcAt.tuple_int _ _ p' hu0
   | str b=>rw[Rep]at h';subst h';obtain⟨t,rfl⟩:=ry;simp only[eqD];exact SeqAt.RcAt.tuple_str _ _ p' hu0
 | lst ds =>
  cases n with
  | zero=>simp[good]at g1
  | succ n =>
   have in1:A.in1.units+n < cLine:=by show A.units+1+n < cLine;omega
   rw[Rep]at h
   obtain⟨a,vs,rfl,h1,h2⟩:=h
   cases rx
   obtain⟨its,r,p,_⟩:=I.list (by rw[hK];exact z.seq h1:SqL X.K H a vs)
   have p':=p.isList
   cases e with
   | lst es =>
    rw[Rep]at h'
    obtain⟨b,us,rfl,k1,k2⟩:=h'
    cases ry
    obtain⟨its2,r2,p2,_⟩:=I.list (by rw[hK];exact z.seq k1:SqL X.K H b us)
    have p2':=p2.isList
    rw[good]at g1 g2
    have s1:its.toArray.size=ds.length:=by rw[List.size_toArray,h2.length,r.length]
    have s2:its2.toArray.size=es.length:=by rw[List.size_toArray,k2.length,r2.length]
    rw[eqD,cw]
    by_cases hsz:ds.length=es.length
    ·have q:=SeqAt.RcAt.lists (A:=A) (e:=fun j=>eqD (ds.getD j .non) (es.getD j .non)) p' p2' (by rw[s1,s2];exact hsz) hu0 fun j j1 j2=>by
      have j1':j < its.length:=by simpa using j1
      have j2':j < its2.length:=by simpa using j2
      have l1:j < ds.length:=by rw[h2.length,r.length];exact j1'
      have l2:j < es.length:=by rw[k2.length,r2.length];exact j2'
      have e1:ds[j]?=some ds[j]:=by simp
      have e2:es[j]?=some es[j]:=by simp
      obtain⟨w1,f1,f2⟩:=h2.get e1
      obtain⟨w2,f3,f4⟩:=k2.get e2
      obtain⟨z1,m1,m2⟩:=r.get f1
      obtain⟨z2,m3,m4⟩:=r2.get f3
      have n1:its.toArray[j]=z1:=by simpa [j1'] using m1
      have n2:its2.toArray[j]=z2:=by simpa [j2'] using m3
      rw[n1,n2]
      have g3:ds.getD j .non=ds[j]:=by simp[l1]
      have g4:es.getD j .non=es[j]:=by simp[l2]
      rw[g3,g4]
      exact fK hK I z n A.in1 _ _ w1 w2 z1 z2 (aI g1 e1) (aI g2 e2) f2 f4 m2 m4 in1
     rw[s1]at q
     rw[hsz,Nat.min_self,beq_self_eq_true,Bool.and_true,← hsz]
     exact q
    ·have q:=SeqAt.RcAt.lists_lengths (A:=A) p' p2' (by rw[s1,s2];simpa using hsz) hu0
     rw[show (ds.length==es.length)=false by simpa using hsz,Bool.and_false]
     exact q
   | tup es =>
    rw[Rep]at h'
    obtain⟨b,us,rfl,k1,k2⟩:=h'
    cases ry
    obtain⟨its2,r2,p2,_⟩:=I.tuple (by rw[hK];exact k1.mono z:SqT X.K H b us)
    simp only[eqD]
    exact SeqAt.RcAt.list_tuple p' (show s.heap.IsTuple b its2.toArray from p2) hu0
   | exc k=>simp[good]at g2
   | fn k=>simp[good]at g2
   | non=>rw[Rep]at h';subst h';cases ry;simp only[eqD];exact SeqAt.RcAt.list_none p' hu0
   | bl b=>rw[Rep]at h';subst h';cases ry;simp only[eqD];exact SeqAt.RcAt.list_bool _ p' hu0
   | int b=>rw[Rep]at h';subst h';obtain⟨t,rfl⟩:=ry;simp only[eqD];exact SeqAt.RcAt.list_int _ _ p' hu0
   | str b=>rw[Rep]at h';subst h';obtain⟨t,rfl⟩:=ry;simp only[eqD];exact SeqAt.RcAt.list_str _ _ p' hu0
 | non =>
  rw[Rep]at h;subst h;cases rx
  cases e with
  | tup es =>
   rw[Rep]at h'
   obtain⟨b,us,rfl,k1,k2⟩:=h'
   cases ry
   obtain⟨its2,r2,p2,_⟩:=I.tuple (by rw[hK];exact k1.mono z:SqT X.K H b us)
   simp only[eqD];exact SeqAt.RcAt.none_tuple (show s.heap.IsTuple b its2.toArray from p2) hu0
  | lst es =>
   rw[Rep]at h'
   obtain⟨b,us,rfl,k1,k2⟩:=h'
   cases ry
   obtain⟨its2,r2,p2,_⟩:=I.list (by rw[hK];exact z.seq k1:SqL X.K H b us)
   simp only[eqD];exact SeqAt.RcAt.none_list p2.isList hu0
  | exc k=>cases n<;>simp[good]at g2
  | fn k=>cases n<;>simp[good]at g2
  | non=>rw[Rep]at h';subst h';cases ry;simp only[eqD];exact SeqAt.RcAt.none_none
  | bl b=>rw[Rep]at h';subst h';cases ry;simp only[eqD];exact SeqAt.RcAt.none_bool _
  | int b=>rw[Rep]at h';subst h';obtain⟨t,rfl⟩:=ry;simp only[eqD];exact SeqAt.RcAt.none_int _ _
  | str b=>rw[Rep]at h';subst h';obtain⟨t,rfl⟩:=ry;simp only[eqD];exact SeqAt.RcAt.none_str _ _
 | bl a =>
  rw[Rep]at h;subst h;cases rx
  cases e with
  | tup es =>
   rw[Rep]at h'
   obtain⟨b,us,rfl,k1,k2⟩:=h'
   cases ry
   obtain⟨its2,r2,p2,_⟩:=I.tuple (by rw[hK];exact k1.mono z:SqT X.K H b us)
   simp only[eqD];exact SeqAt.RcAt.bool_tuple _ (show s.heap.IsTuple b its2.toArray from p2) hu0
  | lst es =>
   rw[Rep]at h'
   obtain⟨b,us,rfl,k1,k2⟩:=h'
   cases ry
   obtain⟨its2,r2,p2,_⟩:=I.list (by rw[hK];exact z.seq k1:SqL X.K H b us)
   simp only[eqD];exact SeqAt.RcAt.bool_list _ p2.isList hu0
  | exc k=>cases n<;>simp[good]at g2
  | fn k=>cases n<;>simp[good]at g2
  | non=>rw[Rep]at h';subst h';cases ry;simp only[eqD];exact SeqAt.RcAt.bool_none _
  | bl b=>rw[Rep]at h';subst h';cases ry;simp only[eqD];exact SeqAt.RcAt.bool_bool _ _
  | int b=>rw[Rep]at h';subst h';obtain⟨t,rfl⟩:=ry;simp only[eqD];exact SeqAt.RcAt.bool_int _ _ _
  | str b=>rw[Rep]at h';subst h';obtain⟨t,rfl⟩:=ry;simp only[eqD];exact SeqAt.RcAt.bool_str _ _ _
 | int a =>
  rw[Rep]at h;subst h;obtain⟨t0,rfl⟩:=rx
  cases e with
  | tup es =>
   rw[Rep]at h'
   obtain⟨b,us,rfl,k1,k2⟩:=h'
   cases ry
   obtain⟨its2,r2,p2,_⟩:=I.tuple (by rw[hK];exact k1.mono z:SqT X.K H b us)
   simp only[eqD];exact SeqAt.RcAt.int_tuple _ _ (show s.heap.IsTuple b its2.toArray from p2) hu0
  | lst es =>
   rw[Rep]at h'
   obtain⟨b,us,rfl,k1,k2⟩:=h'
   cases ry
   obtain⟨its2,r2,p2,_⟩:=I.list (by rw[hK];exact z.seq k1:SqL X.K H b us)
   simp only[eqD];exact SeqAt.RcAt.int_list _ _ p2.isList hu0
  | exc k=>cases n<;>simp[good]at g2
  | fn k=>cases n<;>simp[good]at g2
  | non=>rw[Rep]at h';subst h';cases ry;simp only[eqD];exact SeqAt.RcAt.int_none _ _
  | bl b=>rw[Rep]at h';subst h';cases ry;simp only[eqD];exact SeqAt.RcAt.int_bool _ _ _
  | int b=>rw[Rep]at h';subst h';obtain⟨t,rfl⟩:=ry;simp only[eqD];exact SeqAt.RcAt.int_int _ _ _ _
  | str b=>rw[Rep]at h';subst h';obtain⟨t,rfl⟩:=ry;simp only[eqD];exact SeqAt.RcAt.int_str _ _ _ _
 | str a =>
  rw[Rep]at h;subst h;obtain⟨t0,rfl⟩:=rx
  cases e with
  | tup es =>
   rw[Rep]at h'
   obtain⟨b,us,rfl,k1,k2⟩:=h'
   cases ry
   obtain⟨its2,r2,p2,_⟩:=I.tuple (by rw[hK];exact k1.mono z:SqT X.K H b us)
   simp only[eqD];exact SeqAt.RcAt.str_tuple _ _ (show s.heap.IsTuple b its2.toArray from p2) hu0
  | lst es =>
   rw[Rep]at h'
   obtain⟨b,us,rfl,k1,k2⟩:=h'
   cases ry
   obtain⟨its2,r2,p2,_⟩:=I.list (by rw[hK];exact z.seq k1:SqL X.K H b us)
   simp only[eqD];exact SeqAt.RcAt.str_list _ _ p2.isList hu0
  | exc k=>cases n<;>simp[good]at g2
  | fn k=>cases n<;>simp[good]at g2
  | non=>rw[Rep]at h';subst h';cases ry;simp only[eqD];exact SeqAt.RcAt.str_none _ _
  | bl b=>rw[Rep]at h';subst h';cases ry;simp only[eqD];exact SeqAt.RcAt.str_bool _ _ _
  | int b=>rw[Rep]at h';subst h';obtain⟨t,rfl⟩:=ry;simp only[eqD];exact SeqAt.RcAt.str_int _ _ _ _
  | str b=>rw[Rep]at h';subst h';obtain⟨t,rfl⟩:=ry;simp only[eqD];exact SeqAt.RcAt.str_str _ _ _ _
def dEq (x y:D):R D:=if good 60 x=true∧good 60 y=true then .ok (.bl (eqD x y)) else .stuck
def rEqD (K:PySem.W.Frag)(C:Nat→Addr):R2:=fun x y H Q=>∃ Z d e,Same Z H∧Rep K C Z d x∧Rep K C Z e y∧good 60 d=true∧good 60 e=true∧Q (.bl (eqD d e)) H
section
variable {X:Cx}{F:Fx}{a b c:Expr}{ga gb gc:SS→R D}{pos:Pos}{k:Nat}
theorem pZ (hK:X.K=F.K)(hr:Room k X.A):OpR X (compareOp .Eq) (rEqD F.K F.C):=by
 intro pins s σ H x y v u Q I rx ry h
 obtain⟨Z,d,e,z,h1,h2,g1,g2,q⟩:=h
 have hu:X.A.units+60 < cLine:=by have:=hr.un;omega
 exact uC hK I z 60 X.A d e x y v u g1 g2 h1 h2 rx ry hu X.prog X.w X.xe _ ⟨.bl (eqD d e),H,I,rfl,q⟩
theorem p5:OpD F (rEqD F.K F.C) dEq:=by
 intro H Z x y dx dy Q s rx ry w
 unfold dEq at w
 split at w
 ·rename_i g
  exact⟨Z,dx,dy,s,rx,ry,g.1,g.2,WG.now w s _ bn⟩
 ·exact w.elim
theorem nB (bx:BX X F k)(ha:FE X F a ga)(hb:FE X F b gb):FE X F (.Compare a [.Eq] [b] pos) (eOp dEq ga gb):=uw (pZ bx.K bx.room) p5 ha hb
theorem dN (bx:BX X F k)(ha:FE X F a ga)(hb:FE X F b gb):FT X F (.Compare a [.Eq] [b] pos) (gB (eOp dEq ga gb)):=hJ (pZ bx.K bx.room) p5 ha hb
end
end FF
end
noncomputable section
namespace FF
open PySem PySem.Spec PyProof.Rows L2
def eChain (f f':D→D→R D)(ga gb gc:SS→R D):SS→R D:=fun S=>(ga S).bind fun x=>(gb S).bind fun y=>(asB (f x y)).bind fun k=>if k=true then (gc S).bind fun w=>f' y w else .ok (.bl false)
section
variable {X:Cx}{F:Fx}{a b c:Expr}{ga gb gc:SS→R D}{pos:Pos}{r r':R2}{f f':D→D→R D}{op op':CmpOp}
theorem jF (hd:OpD F r f)(hd':OpD F r' f'):∀ σ H Q,tE F (eChain f f' ga gb gc) σ H Q→tChain r r' (tE F ga) (tE F gb) (tE F gc) σ H Q:=fun σ H Q ⟨Z,S,ok,w⟩ =>
 aF ok w fun dx x H1 Z1 ok1 x1 rx w1=>aF ok1 w1 fun dy y H2 Z2 ok2 x2 ry w2=>hd H2 Z2 x y dx dy _ ok2.sub (rx.mono x2.z) ry (by
  cases e:f dx dy with
  | err k=>rw[e]at w2;exact w2
  | stuck=>rw[e]at w2;exact w2
  | ok d =>
   rw[e]at w2
   intro H3 Z3 x3 v rv
   cases d with
   | bl k =>
    rw[Rep]at rv
    subst rv
    have w3:WG F H3 Z3 (if k=true then (gc S).bind fun w=>f' dy w else .ok (.bl false)) _:=WG.more w2 x3
    refine⟨k,rfl,?_⟩
    have ok3:=ok2.more x3
    cases k with
    | false=>exact WG.now w3 ok3.sub _ bn
    | true=>exact aF ok3 w3 fun dw wv H4 Z4 ok4 x4 rw' w4=>hd' H4 Z4 y wv dy dw Q ok4.sub (ry.mono (x3.z.trans x4.z)) rw' w4
   | _=>exact w2.elim)
theorem kZ (ho:OpR X (compareOp op) r)(ho':OpR X (compareOp op') r')(hd:OpD F r f)(hd':OpD F r' f')(ha:FE X F a ga)(hb:FE X F b gb)(hc:FE X F c gc)(hm:lastMarks [op,op'] [b,c]=false:=by with_unfolding_all rfl) :
  FE X F (.Compare a [op,op'] [b,c] pos) (eChain f f' ga gb gc):=(pA ho ho' ha hb hc hm).weak (jF hd hd')
theorem p6 (ho:OpR X (compareOp op) r)(ho':OpR X (compareOp op') r')(hd:OpD F r f)(hd':OpD F r' f')(ha:FE X F a ga)(hb:FE X F b gb)(hc:FE X F c gc)(hm:lastMarks [op,op'] [b,c]=false:=by with_unfolding_all rfl) :
  FT X F (.Compare a [op,op'] [b,c] pos) (gB (eChain f f' ga gb gc)):=(pB ho ho' ha hb hc hm).weak (pL (jF hd hd'))
theorem gR (ha:FE X F a ga)(hb:FE X F b gb)(hc:FE X F c gc)(hm:lastMarks [.LtE,.LtE] [b,c]=false:=by with_unfolding_all rfl):FE X F (.Compare a [.LtE,.LtE] [b,c] pos) (eChain dLe dLe ga gb gc):=kZ nj nj (cS fun _ _ _=>bn) (cS fun _ _ _=>bn) ha hb hc hm
theorem r9 (ha:FE X F a ga)(hb:FE X F b gb)(hc:FE X F c gc)(hm:lastMarks [.LtE,.Lt] [b,c]=false:=by with_unfolding_all rfl):FE X F (.Compare a [.LtE,.Lt] [b,c] pos) (eChain dLe dLt ga gb gc):=kZ nj pz (cS fun _ _ _=>bn) (cS fun _ _ _=>bn) ha hb hc hm
theorem gS (ha:FE X F a ga)(hb:FE X F b gb)(hc:FE X F c gc)(hm:lastMarks [.LtE,.Lt] [b,c]=false:=by with_unfolding_all rfl):FT X F (.Compare a [.LtE,.Lt] [b,c] pos) (gB (eChain dLe dLt ga gb gc)):=p6 nj pz (cS fun _ _ _=>bn) (cS fun _ _ _=>bn) ha hb hc hm
end
def dIs:D→D→R D
 | x,.non=>.ok (.bl (match x with | .non=>true | _=>false))
 | x,.bl b=>.ok (.bl (match x with | .bl a=>a==b | _=>false))
 | _,_=>.stuck
def isV:V→V→Bool
 | .non,.non=>true
 | .bl a,.bl b=>a==b
 | _,_=>false
section
variable {X:Cx}{F:Fx}{a b:Expr}{ga gb:SS→R D}{pos:Pos}
theorem uD:OpR X (compareOp .Is) (fun x y H Q=>(y=.non∨∃ b,y=.bl b)∧Q (.bl (isV x y)) H):=by
 intro pins s σ H x y v u Q I rx ry h
 obtain⟨hy,q⟩:=h
 rcases hy with rfl | ⟨b,rfl⟩
 ·cases ry
  refine is_none_gen (j5 I q ?_)
  cases x<;>first
   | (cases rx;rfl)
   | (obtain⟨t,rfl⟩:=rx;rfl)
 ·cases ry
  cases x<;>first
   | (obtain⟨t,rfl⟩:=rx;exact wpAny_pure (j5 I q rfl))
   | (cases rx;exact wpAny_pure (j5 I q rfl))
   | (cases rx;rename_i a;exact wpAny_pure (j5 I q (by cases a<;>cases b<;>rfl)))
theorem se {K:PySem.W.Frag}{C:Nat→Addr}{Z:Hp}{d e:D}{x y:V}{r:D}(h:Rep K C Z d x)(h':Rep K C Z e y)(q:dIs d e=.ok r):(y=.non∨∃ b,y=.bl b)∧r=.bl (isV x y):=by
 cases e with
 | non =>
  rw[Rep]at h';subst h'
  cases q
  refine⟨.inl rfl,?_⟩
  cases d<;>rw[Rep]at h<;>first | (subst h;rfl) | (obtain⟨_,_,rfl,_⟩:=h;rfl) | (obtain⟨_,rfl,_⟩:=h;rfl)
 | bl b =>
  rw[Rep]at h';subst h'
  cases q
  refine⟨.inr ⟨b,rfl⟩,?_⟩
  cases d<;>rw[Rep]at h<;>first | (subst h;rfl) | (obtain⟨_,_,rfl,_⟩:=h;rfl) | (obtain⟨_,rfl,_⟩:=h;rfl)
 | _=>simp[dIs]at q
theorem uE {d e:D}{k:Nat}(q:dIs d e=.err k):False:=by cases e<;>simp[dIs]at q
theorem uF:OpD F (fun x y H Q=>(y=.non∨∃ b,y=.bl b)∧Q (.bl (isV x y)) H) dIs:=by
 intro H Z x y dx dy Q s rx ry w
 cases e:dIs dx dy with
 | err k=>exact(uE e).elim
 | stuck=>rw[e]at w;exact w.elim
 | ok r =>
  rw[e]at w
  obtain⟨h1,rfl⟩:=se rx ry e
  exact⟨h1,WG.now w s _ bn⟩
theorem tM (ha:FE X F a ga)(hb:FE X F b gb):FT X F (.Compare a [.Is] [b] pos) (gB (eOp dIs ga gb)):=hJ uD uF ha hb
end
def cutD (xs:List D)(lo hi:Option Int):List D:=(xs.drop (HT.sIx xs.length 0 lo)).take (HT.sIx xs.length xs.length hi - HT.sIx xs.length 0 lo)
theorem Reps.cut {K:PySem.W.Frag}{C:Nat→Addr}{Z:Hp}{ds:List D}{vs:List V}(r:Reps K C Z ds vs)(lo hi:Option Int):Reps K C Z (cutD ds lo hi) (cutV vs lo hi):=by
 unfold cutD cutV
 rw[r.length]
 exact(r.drop _).take _
def dSl (d:D)(lo hi:Option Int):R D:=match d with
 | .lst xs=>.ok (.lst (cutD xs lo hi))
 | .tup xs=>if HT.sIx xs.length 0 lo=0∧HT.sIx xs.length xs.length hi=xs.length then .stuck else .ok (.tup (cutD xs lo hi))
 | _=>.stuck
def asI (d:D):R (Option Int):=match d with
 | .int i=>.ok (some i)
 | _=>.stuck
def pNo:SS→R (Option Int):=fun _=>.ok none
def pSo (g:SS→R D):SS→R (Option Int):=fun S=>(g S).bind asI
def tP (F:Fx)(g:SS→R (Option Int)):TO:=fun σ H Q=>∃ Z S,StOk F H Z S σ∧WG F H Z (g S) fun o H' _=>Q o H'
section
variable {X:Cx}{F:Fx}{e:Expr}{lo hi:Option Expr}{g:SS→R D}{l h:SS→R (Option Int)}{pos p2:Pos}
theorem p7:PO X none (tP F pNo):=fun pins s σ H Q I ⟨Z,S,ok,w⟩=>rH pins s σ H Q I (WG.now w ok.sub)
theorem ij (he:FE X F e g):PO X (some e) (tP F (pSo g)):=fun pins s σ H Q I ⟨Z,S,ok,w⟩=>rJ he pins s σ H Q I (aF ok w fun d v H1 Z1 ok1 x1 rv w1=>by
 cases d with
 | int i=>rw[Rep]at rv;exact⟨i,rv,WG.now (a:=some i) w1 ok1.sub⟩
 | _=>exact w1.elim)
theorem nC {α:Type}{σ:St}{H Z:Hp}{S:SS}{k:Option Int→R α}{P:α→Hp→Hp→Prop}{Q:Option Int→Hp→Prop}(ok:StOk F H Z S σ)(w:WG F H Z ((l S).bind k) P)
  (h:∀ o H1 Z1,StOk F H1 Z1 S σ→Ex H Z H1 Z1→WG F H1 Z1 (k o) P→Q o H1):tP F l σ H Q:=by
 refine⟨Z,S,ok,?_⟩
 cases e:l S with
 | ok d =>
  rw[e]at w
  intro H1 Z1 x
  exact h d H1 Z1 (ok.more x) x (WG.more (r:=k d) w x)
 | err k=>rw[e]at w;exact w
 | stuck=>rw[e]at w;exact w
end
def CallD (F:Fx)(r:List V→Hp→VK→Prop)(f:List D→R D):Prop:=∀ (H Z:Hp) (xs:List V) (ds:List D) (Q:VK),Same Z H→Reps F.K F.C Z ds xs→WG F H Z (f ds) (fun d H' Z'=>∀ v,Rep F.K F.C Z' d v→Q v H')→r xs H Q
section
variable {X:Cx}{F:Fx}{x:Str}{p pos:Pos}{e:Expr}{es:List Expr}{gs:SS→R (List D)}{id T:String}{r:List V→Hp→VK→Prop}{f:List D→R D}
theorem p9 (hd:CallD F r f):∀ σ H Q,tE F (eCall f gs) σ H Q→tCB r (tAl F gs) σ H Q:=fun σ H Q ⟨Z,S,ok,w⟩=>bf ok w fun ds vs H1 Z1 ok1 x1 rs w1=>hd H1 Z1 vs ds Q ok1.sub rs w1
theorem ik (hc:CallR X (.builtin id) r)(hd:CallD F r f)(hg:Gl X x)(hm:X.mg x=none)(hv:bootBuiltins x=some (.builtin id))(ha:FA X F (e::es) gs)(hn:x ≠ "__name__" := by decide)(hdb:(x==("__debug__":Str))=false:=by decide)
  (he:starEach (e::es) X.env=(false,eval e X.env)::starEach es X.env:=by rfl) (hpl:(backTo pos (starEach es X.env)).any (·.1)=false:=by rfl):FE X F (.Call (.Name x p) (e::es) [] pos) (eCall f gs):=(g8 hc hg hm hv ha hn hdb he hpl).weak (p9 hd)
theorem jG (hc:CallR X (.type T) r)(hd:CallD F r f)(hg:Gl X x)(hm:X.mg x=none)(hv:bootBuiltins x=some (.type T))(ha:FA X F (e::es) gs)(hn:x ≠ "__name__" := by decide)(hdb:(x==("__debug__":Str))=false:=by decide)
  (he:starEach (e::es) X.env=(false,eval e X.env)::starEach es X.env:=by rfl) (hpl:(backTo pos (starEach es X.env)).any (·.1)=false:=by rfl):FE X F (.Call (.Name x p) (e::es) [] pos) (eCall f gs):=(jB hc hg hm hv ha hn hdb he hpl).weak (p9 hd)
end
theorem bp {K:PySem.W.Frag}{C:Nat→Addr}{Z:Hp}{d:D}{vs:List V}(r:Reps K C Z [d] vs):∃ v,vs=[v]∧Rep K C Z d v:=by
 rw[Reps]at r
 obtain⟨v,r',rfl,h1,h2⟩:=r
 rw[Reps]at h2
 exact⟨v,by rw[h2],h1⟩
def dLen:List D→R D
 | [.lst xs]=>.ok (.int xs.length)
 | [.tup xs]=>.ok (.int xs.length)
 | _=>.stuck
theorem on {F:Fx}:CallD F (fun xs H Q=>∃ p ys,xs=[.ref p]∧(SqL F.K H p ys∨SqT F.K H p ys)∧Q (.int ys.length) H) dLen:=by
 intro H Z xs ds Q s rs w
 unfold dLen at w
 split at w
 ·obtain⟨v,rfl,h⟩:=bp rs
  rw[Rep]at h
  obtain⟨a,vs,rfl,h1,h2⟩:=h
  exact⟨a,vs,rfl,.inl (s.seq h1),by rw[← h2.length];exact WG.now w s _ aH⟩
 ·obtain⟨v,rfl,h⟩:=bp rs
  rw[Rep]at h
  obtain⟨a,vs,rfl,h1,h2⟩:=h
  exact⟨a,vs,rfl,.inr (h1.mono s),by rw[← h2.length];exact WG.now w s _ aH⟩
 ·exact w.elim
def dMax2:List D→R D
 | [.int i,.int j]=>.ok (.int (if j > i then j else i))
 | _=>.stuck
theorem mC {F:Fx}:CallD F (fun xs H Q=>∃ i j,xs=[.int i,.int j]∧Q (.int (if j > i then j else i)) H) dMax2:=by
 intro H Z xs ds Q s rs w
 unfold dMax2 at w
 split at w
 ·exact⟨_,_,pV rs,WG.now w s _ aH⟩
 ·exact w.elim
def dTuple:List D→R D
 | [.lst xs]=>.ok (.tup xs)
 | [.tup xs]=>.ok (.tup xs)
 | _=>.stuck
theorem k4 {F:Fx}:CallD F (fun xs H Q=>∃ p ys,xs=[.ref p]∧((SqL F.K H p ys∧∀ l,H l=none→Q (.ref l) (upd H l (.tup ys)))∨(SqT F.K H p ys∧Q (.ref p) H))) dTuple:=by
 intro H Z xs ds Q s rs w
 unfold dTuple at w
 split at w
 ·obtain⟨v,rfl,h⟩:=bp rs
  rw[Rep]at h
  obtain⟨a,vs,rfl,h1,h2⟩:=h
  refine⟨a,vs,rfl,.inl ⟨s.seq h1,fun p hp=>?_⟩⟩
  have z:Same Z (upd Z p (.tup vs)):=aC (s.free hp)
  exact w _ _ (Ex.alloc s hp) _ (by rw[Rep];exact⟨p,_,rfl,SqT.of ap,h2.mono z⟩)
 ·obtain⟨v,rfl,h⟩:=bp rs
  have hh:=h
  rw[Rep]at h
  obtain⟨a,vs,rfl,h1,h2⟩:=h
  exact⟨a,vs,rfl,.inr ⟨h1.mono s,WG.now w s _ hh⟩⟩
 ·exact w.elim
def boolsD:List D→Option (List Bool)
 | []=>some []
 | .bl b::r=>(boolsD r).map (b::·)
 | _::_=>none
theorem dk {K:PySem.W.Frag}{C:Nat→Addr}{Z:Hp}:∀ {ds:List D} {vs:List V} {bs:List Bool},Reps K C Z ds vs→boolsD ds=some bs→vs=bs.map V.bl
 | [],vs,bs,r,e=>by rw[Reps]at r;cases e;exact r
 | d::ds,vs,bs,r,e=>by
  rw[Reps]at r
  obtain⟨v,r',rfl,h1,h2⟩:=r
  cases d with
  | bl b =>
   rw[boolsD]at e
   cases q:boolsD ds with
   | none=>rw[q]at e;cases e
   | some bs' =>
    rw[q]at e
    cases e
    rw[Rep]at h1
    rw[h1,dk h2 q]
    rfl
  | _=>simp[boolsD]at e
def dAll:List D→R D
 | [.lst xs]=>match boolsD xs with
  | some bs=>.ok (.bl (bs.all id))
  | none=>.stuck
 | _=>.stuck
theorem dl:∀ {bs:List Bool} {us:List Value},Vals (bs.map V.bl) us→us=bs.map Value.bool
 | [],us,h=>by rw[List.map_nil]at h;cases h;rfl
 | b::bs,us,h=>by
  rw[List.map_cons]at h
  cases h with
  | cons r t =>
   have r':_=Value.bool b:=r
   rw[r',dl t]
   rfl
theorem il {X:Cx}(hc:X.calm=true):CallR X (.builtin "all") (fun xs H Q=>∃ (p:Addr) (bs:List Bool),xs=[.ref p]∧SqL X.K H p (bs.map V.bl)∧Q (.bl (bs.all id)) H):=by
 intro pins s σ H xs us Q I r h
 obtain⟨p,bs,rfl,hq,q⟩:=h
 obtain⟨u,rfl,ru⟩:=vals1 r
 cases ru
 obtain⟨its,rv,pl,hz⟩:=I.list hq
 have e:=dl rv
 subst e
 have hlt:p < s.heap.objs.size:=by obtain⟨o,_,ho,_⟩:=pl;exact Heap.lt_size ho
 refine call_all_walk (wpAny_pyIter_list pl.isList ⟨s.heap.objs.size,_,_,_,_,_,fun i=>bs.getD i false,rfl,Walks.list (show X.A.in1.handled=none from I.ok.hd hc) s.heap.objs.size p (Nat.ne_of_lt hlt) (bs.map Value.bool).toArray,⟨⟨_,Heap.get?_push_size _ rfl,rfl,rfl⟩,?_⟩,?_,fun h' tk hk=>?_⟩)
 ·obtain⟨o,ho,h2,n,h3⟩:=pl.isList
  exact⟨o,Heap.get?_push_of_some _ ho,h2,n,h3⟩
 ·intro i v s' Q' E' hp hq'
  have hp':bs[i]?.map Value.bool=some v:=by simpa using hp
  cases e:bs[i]? with
  | none=>rw[e]at hp';cases hp'
  | some b =>
   rw[e]at hp'
   cases hp'
   refine wpAny_truthy_bool ?_
   have:bs.getD i false=b:=by simp[List.getD,e]
   have hq2:Q' (bs.getD i false) s':=hq'
   rw[this]at hq2
   exact hq2
 ·have hall:(List.range (bs.map Value.bool).toArray.size).all (fun i=>bs.getD i false)=bs.all id:=by
   rw[List.size_toArray,List.length_map]
   rw[Bool.eq_iff_iff,List.all_eq_true,List.all_eq_true]
   constructor
   ·intro h b hb
    obtain⟨i,hi,rfl⟩:=List.mem_iff_getElem.mp hb
    have:=h i (List.mem_range.mpr hi)
    simpa [List.getD,hi] using this
   ·intro h i hi
    have hi':=List.mem_range.mp hi
    have:=h bs[i] (List.getElem_mem hi')
    simpa [List.getD,hi'] using this
  rw[hall]
  exact⟨.bl (bs.all id),H,I.kept fun b o e=>hk b o (by simp;exact Nat.ne_of_lt (Heap.lt_size e)) (Heap.get?_push_of_some _ e),rfl,q⟩
theorem oo {F:Fx}:CallD F (fun xs H Q=>∃ (p:Addr) (bs:List Bool),xs=[.ref p]∧SqL F.K H p (bs.map V.bl)∧Q (.bl (bs.all id)) H) dAll:=by
 intro H Z xs ds Q s rs w
 unfold dAll at w
 split at w
 ·split at w
  ·rename_i bs e
   obtain⟨v,rfl,h⟩:=bp rs
   rw[Rep]at h
   obtain⟨a,vs,rfl,h1,h2⟩:=h
   have e2:=dk h2 e
   subst e2
   exact⟨a,bs,rfl,s.seq h1,WG.now w s _ bn⟩
  ·exact w.elim
 ·exact w.elim
section
variable {X:Cx}{F:Fx}{p pos:Pos}{e:Expr}{es:List Expr}{gs:SS→R (List D)}{k:Nat}
theorem bO (bx:BX X F k)(hg:Gl X "len")(hm:X.mg "len"=none)(ha:FA X F [e] gs)(he:starEach [e] X.env=(false,eval e X.env)::starEach [] X.env:=by rfl)(hpl:(backTo pos (starEach [] X.env)).any (·.1)=false:=by rfl):FE X F (.Call (.Name "len" p) [e] [] pos) (eCall dLen gs) :=
 ik (by have:=j9 (X:=X);rw[bx.K]at this;exact this) on hg hm PySem.boot_len ha (he:=he) (hpl:=hpl)
theorem sf {e2:Expr}(bx:BX X F k)(hg:Gl X "max")(hm:X.mg "max"=none)(ha:FA X F [e,e2] gs)(he:starEach [e,e2] X.env=(false,eval e X.env)::starEach [e2] X.env:=by rfl)(hpl:(backTo pos (starEach [e2] X.env)).any (·.1)=false:=by rfl) :
  FE X F (.Call (.Name "max" p) [e,e2] [] pos) (eCall dMax2 gs):=ik (nX bx.calm) mC hg hm (by decide +kernel) ha (he:=he) (hpl:=hpl)
theorem aU (bx:BX X F k)(hg:Gl X "tuple")(hm:X.mg "tuple"=none)(ha:FA X F [e] gs)(he:starEach [e] X.env=(false,eval e X.env)::starEach [] X.env:=by rfl)(hpl:(backTo pos (starEach [] X.env)).any (·.1)=false:=by rfl):FE X F (.Call (.Name "tuple" p) [e] [] pos) (eCall dTuple gs) :=
 jG (by have:=jf (X:=X);rw[bx.K]at this;exact this) k4 hg hm (by decide +kernel) ha (he:=he) (hpl:=hpl)
theorem uG (bx:BX X F k)(hg:Gl X "all")(hm:X.mg "all"=none)(ha:FA X F [e] gs)(he:starEach [e] X.env=(false,eval e X.env)::starEach [] X.env:=by rfl)(hpl:(backTo pos (starEach [] X.env)).any (·.1)=false:=by rfl):FE X F (.Call (.Name "all" p) [e] [] pos) (eCall dAll gs) :=
 ik (id := "all") (by have:=il (X:=X) bx.calm;rw[bx.K]at this;exact this) oo hg hm (by decide +kernel) ha (he:=he) (hpl:=hpl)
end
end FF
end
noncomputable section
namespace FF
open PySem PySem.Spec PySem.Calls PyProof.Rows PySem.W
def ExcAt (a C:Addr)(h:Heap):Prop:=∃ o,h.get? a=some o∧o.cls=.ref C∧∃ vs,o.data=.fields vs
structure ExcK (K:Frag)(C:Addr):Prop where
 ga:findIn K (.ref C) "__getattribute__"=some (some (.builtin "BaseException.__getattribute__"))
 gt:findIn K (.ref C) "__getattr__"=some none
 cl:findIn K (.ref C) "__class__"=some (some (.builtin "object.__class__"))
 be:subIn K (.ref C) (.type "BaseException")=some true
 ob:subIn K (.ref C) (.type "object")=some true
 ty:(clsIn K C).isSome=true
section
variable {prog:Program}{w:World}{A:Around}{E:Value→Shared→Prop}{h:Heap}{g:Array GenState}{d:Drawn}{t:Nat}{os:OsState}{a C:Addr}{K:Frag}{o:Obj}{vs:Array Value}
theorem mD {M:Model}(p:ExcAt a C h):Looks M h (typeOf (.ref a)) (.ref C):=by
 obtain⟨o,h1,h2,h3⟩:=p
 exact h2 ▸ (Looks.ld h1).andThen .now
theorem mE {M:Model}(X:K.In h)(k:ExcK K C):Looks M h (isType (.ref C)) true:=by
 have z:=k.ty
 unfold clsIn at z
 split at z
 ·rename_i c' d' cd' sl' ho
  intro A' Q' E' s' kk q
  unfold isType loadHead
  exact wpAny_bind (wpAny_loadPart (kk _ _ (X _ _ ho)) (wpAny_pure q))
 ·cases z
theorem jk {R:Result→Shared→Prop}(X:K.In h)(k:ExcK K C)(hx:h.get? a=some o)(hc:o.cls=.ref C)(hq:R (.ok (.ret (.ref C))) ⟨h,g,d,t,os⟩) :
  codeAny (model prog w) A (.call (.builtin "getset_descriptor.__get__") ⟨[.builtin "object.__class__",.ref a,.ref C],[]⟩) R ⟨h,g,d,t,os⟩:=by
 have hT5:(⟨h,g,d,t,os⟩:Shared).TypeIs (.builtin "object.__class__") "getset_descriptor" := F.typeOf_object_class
 have L8:Looks (model prog w) h (isSubtype (.ref C) (.type (".".intercalate ("object.__class__".cutAt '.').dropLast))) true:=by
  rw[F.owner_object_class];exact looks_subIn X k.ob
 refine codeAny_call_builtin F.slot_gs_get.plain F.entry_gs_get (F.slot_gs_get.check _ _ _ _ _ _ _ _ hT5 (F.args_gs_get _ _ _) ?_)
 repeat (any_goals (first | assumption | (with_reducible refine wpAny_loadPart_at hx ?_;rw[hc]) | (with_reducible refine L8.at ?_) | wp_step))
 refine⟨Code.quiet_builtin _ (by decide +kernel),codeAny_builtin F.entry_object_class ?_⟩
 repeat (any_goals (first | assumption | (with_reducible refine wpAny_loadPart_at hx ?_;rw[hc]) | wp_step))
theorem gI {tk:Tok}{Q:Fin→Shared→Prop}(X:K.In h)(k:ExcK K C)(hx:h.get? a=some o)(hc:o.cls=.ref C)(hq:Q (.done (.ret (.ref C))) ⟨h,g,d,t,os⟩) :
  wpAny (model prog w) A (Builtin.«object.__getattribute__» ⟨[.ref a,.str "__class__" tk],[]⟩) Q E ⟨h,g,d,t,os⟩:=by
 have hT5:(⟨h,g,d,t,os⟩:Shared).TypeIs (.builtin "object.__class__") "getset_descriptor" := F.typeOf_object_class
 have f5:=F.typeOf_object_class
 have f6:=F.slot_gs_get.lookup
 have f7:=F.slot_gs_set.lookup
 have L4:Looks (model prog w) h (typeLookup (.ref C) "__class__") _:=looks_findIn X k.cl
 repeat (any_goals (first | assumption | (with_reducible refine wpAny_loadPart_at hx ?_;rw[hc]) | (with_reducible refine L4.at ?_) | wp_step))
 refine jk X k hx hc ?_
 repeat (any_goals (first | assumption | wp_step))
theorem oq {M:Model}{nameV:Value}{Q:Unit→Shared→Prop}(X:K.In h)(k:ExcK K C)(hx:h.get? a=some o)(hc:o.cls=.ref C)(hq:Q () ⟨h,g,d,t,os⟩):wpAny M A (checkBuiltinCall "BaseException.__getattribute__" ⟨[.ref a,nameV],[]⟩) Q E ⟨h,g,d,t,os⟩:=by
 have hk:builtinKind "BaseException.__getattribute__"=some .slot:=by decide +kernel
 have hsplit:splitId "BaseException.__getattribute__"=some ("BaseException","__getattribute__"):=by decide +kernel
 have L8:Looks M h (isSubtype (.ref C) (.type "BaseException")) true:=looks_subIn X k.be
 have ha:=F.args_bexc_ga (.ref a) nameV
 simp only[checkBuiltinCall,hk,hsplit]
 refine wpAny_bind ?_
 ·unfold isInstance
  repeat (first | (with_reducible refine wpAny_loadPart_at hx ?_;rw[hc]) | (with_reducible refine L8.at ?_) | wp_step)
  exact hq
theorem im {tk:Tok}{R:Result→Shared→Prop}(X:K.In h)(k:ExcK K C)(hx:h.get? a=some o)(hc:o.cls=.ref C)(hq:R (.ok (.ret (.ref C))) ⟨h,g,d,t,os⟩) :
  codeAny (model prog w) A (.call (.builtin "BaseException.__getattribute__") ⟨[.ref a,.str "__class__" tk],[]⟩) R ⟨h,g,d,t,os⟩ :=
 codeAny_call_builtin F.attr_ValueError.ga.plain F.entry_bexc_ga (oq X k hx hc (gI X k hx hc hq))
theorem kl {tk:Tok}{Q:Value→Shared→Prop}(X:K.In h)(k:ExcK K C)(hx:h.get? a=some o)(hc:o.cls=.ref C)(hq:Q (.ref C) ⟨h,g,d,t,os⟩) :
  wpAny (model prog w) A (getAttrBy (.ref a) (.str "__class__" tk) false) Q E ⟨h,g,d,t,os⟩:=by
 have f3:=F.attr_ValueError.ga.bind (.ref a)
 have L1:Looks (model prog w) h (typeLookup (.ref C) "__getattribute__") _:=looks_findIn X k.ga
 have L2:Looks (model prog w) h (typeLookup (.ref C) "__getattr__") _:=looks_findIn X k.gt
 have hx2:(Value.builtin "BaseException.__getattribute__" == Value.builtin "object.__getattribute__")=false:=by decide +kernel
 have hx1:(onTheHeap (Value.ref C)&&Value.builtin "BaseException.__getattribute__" == Value.builtin "object.__getattribute__")=false:=by rw[hx2];rfl
 repeat (any_goals (first | assumption | (with_reducible refine wpAny_loadPart_at hx ?_;rw[hc]) | (with_reducible refine L1.at ?_) | (with_reducible refine L2.at ?_) | wp_step))
 refine im X k hx hc ?_
 repeat (any_goals (first | assumption | wp_step))
theorem io {Q:Option Value→Shared→Prop}(X:K.In h)(k:ExcK K C)(hx:h.get? a=some o)(hc:o.cls=.ref C)(hq:Q (some (.ref C)) ⟨h,g,d,t+1,os⟩) :
  wpAny (model prog w) A (getAttr? (.ref a) "__class__") Q E ⟨h,g,d,t,os⟩:=by
 unfold getAttr? getAttrBy?
 repeat (any_goals (first | assumption | with_reducible apply kl X k hx hc | wp_step))
end
end FF
end
noncomputable section
namespace FF
open PySem PySem.Spec PyProof.Rows L2
theorem qd {K:PySem.W.Frag}{a C:Addr}(k:ExcK K C):PySem.W.KitX K (.ref a) (.ref C) (ExcAt a C) where
 ty:=fun _ _ _ p=>mD p
 it:=fun _ _ X _=>mE X k
 ne:=fun h tp dd its n sl X htp=>by
  refine Bool.eq_false_iff.mpr fun q=>?_
  have e:C=tp:=Value.ref.inj (beq_iff_eq.mp q)
  subst e
  have z:=k.ty
  unfold PySem.W.clsIn at z
  split at z
  ·rename_i c' d' cd' sl' ho
   have z:=(X _ _ ho).symm.trans htp
   cases z
  ·cases z
 ca:=fun {_ _ _ _ _ s} X p h=>by
  obtain⟨hh,g,d,t,os⟩:=s
  obtain⟨o,h1,h2,_⟩:=p
  exact io X k h1 h2 h
def tyD (C:Nat→Addr):D→Value
 | .non=>.type "NoneType"
 | .bl _=>.type "bool"
 | .int _=>.type "int"
 | .str _=>.type "str"
 | .tup _=>.type "tuple"
 | .lst _=>.type "list"
 | .exc k=>.ref (C k)
 | .fn _=>.none
def cV:V→Value
 | .ty n=>.type n
 | .ref a=>.ref a
 | _=>.none
theorem k6 {X:Cx}{C:Nat→Addr}:CallR X (.builtin "isinstance") (fun xs H Q=>∃ (Z:Hp) (d:D) (x y:V) (b:Bool),xs=[x,y]∧Same Z H∧Rep X.K C Z d x∧((∃ n,y=.ty n)∨∃ a,y=.ref a) ∧
  PySem.W.kitOne X.K (tyD C d) (cV y)=some b∧(∀ j,d=.exc j→ExcK X.K (C j))∧(∀ j,d≠.fn j)∧Q (.bl b) H):=by
 intro pins s σ H xs us Q I r h
 obtain⟨Z,d,x,y,b,rfl,sm,rp,hy,e,he,hf,q⟩:=h
 obtain⟨u,c,rfl,ru,rc⟩:=vals2 r
 have hc:c=cV y:=by
  rcases hy with ⟨n,rfl⟩ | ⟨a,rfl⟩<;>exact rc
 subst hc
 have fin:∀ tk,EP X pins σ Q (.bool b) { s with toks:=tk }:=fun tk=>⟨.bl b,H,I.tok tk,rfl,q⟩
 cases d with
 | non=>rw[Rep]at rp;subst rp;cases (show u=Value.none from ru);exact PySem.W.kia_one PySem.W.kitx_none I.kIn True.intro e (fun z=>nomatch z) fin
 | bl k=>rw[Rep]at rp;subst rp;cases (show u=Value.bool k from ru);exact PySem.W.kia_one PySem.W.kitx_bool I.kIn True.intro e (fun z=>nomatch z) fin
 | int i=>rw[Rep]at rp;subst rp;obtain⟨t,rfl⟩:=(show ∃ t,u=Value.int i t from ru);exact PySem.W.kia_one PySem.W.kitx_int I.kIn True.intro e (fun z=>nomatch z) fin
 | str i=>rw[Rep]at rp;subst rp;obtain⟨t,rfl⟩:=(show ∃ t,u=Value.str i t from ru);exact PySem.W.kia_one PySem.W.kitx_str I.kIn True.intro e (fun z=>nomatch z) fin
 | tup ds =>
  rw[Rep]at rp
  obtain⟨a,vs,rfl,h1,h2⟩:=rp
  cases (show u=Value.ref a from ru)
  obtain⟨its,_,⟨o,p1,p2,_⟩,_⟩:=I.tuple (h1.mono sm)
  exact PySem.W.kia_one PySem.W.kitx_tuple I.kIn ⟨o,p1,p2⟩ e (fun z=>nomatch z) fin
 | lst ds =>
  rw[Rep]at rp
  obtain⟨a,vs,rfl,h1,h2⟩:=rp
  cases (show u=Value.ref a from ru)
  obtain⟨its,_,⟨o,n,p1,p2,_⟩,_⟩:=I.list (sm.seq h1)
  exact PySem.W.kia_one PySem.W.kitx_list I.kIn ⟨o,p1,p2⟩ e (fun z=>nomatch z) fin
 | fn k=>exact absurd rfl (hf k)
 | exc k =>
  rw[Rep]at rp
  obtain⟨a,rfl,h1⟩:=rp
  cases (show u=Value.ref a from ru)
  obtain⟨o,h2,h3,h5⟩:=(show ObjOk X.prog X.w H s.heap a (excO C k a) from I.hok a _ (sm a _ h1)).1
  exact PySem.W.kia_one (qd (he k rfl)) I.kIn ⟨o,h2,h3,h5⟩ e (fun z=>nomatch z) fin
def dIsA (q:D→Option Bool)(d:D):R D:=match q d with
 | some b=>.ok (.bl b)
 | none=>.stuck
def eIs (q:D→Option Bool)(g:SS→R D):SS→R D:=fun S=>(g S).bind (dIsA q)
structure IsA (K:PySem.W.Frag)(C:Nat→Addr)(y:V)(q:D→Option Bool):Prop where
 one:(∃ n,y=.ty n)∨∃ a,y=.ref a
 ans:∀ d b,q d=some b→PySem.W.kitOne K (tyD C d) (cV y)=some b
 exc:∀ j b,q (.exc j)=some b→ExcK K (C j)
 fn:∀ j,q (.fn j)=none
section
variable {X:Cx}{F:Fx}{p pos:Pos}{e ec:Expr}{g:SS→R D}{k:Nat}{y:V}{q:D→Option Bool}
theorem uH (bx:BX X F k)(hq:IsA F.K F.C y q):∀ σ H Q,tE F (eIs q g) σ H Q→tCB (fun xs H Q=>∃ (Z:Hp) (d:D) (x y:V) (b:Bool),xs=[x,y]∧Same Z H∧Rep X.K F.C Z d x∧((∃ n,y=.ty n)∨∃ a,y=.ref a) ∧
  PySem.W.kitOne X.K (tyD F.C d) (cV y)=some b∧(∀ j,d=.exc j→ExcK X.K (F.C j))∧(∀ j,d≠.fn j)∧Q (.bl b) H) (tCons (tE F g) (tCons (tC y) tNil)) σ H Q:=fun σ H Q ⟨Z,S,ok,w⟩ =>
 aF ok w fun d v H1 Z1 ok1 x1 rv w1=>by
  cases e:q d with
  | none=>unfold dIsA at w1;rw[e]at w1;exact w1.elim
  | some b =>
   unfold dIsA at w1
   rw[e]at w1
   refine⟨Z1,d,v,y,b,rfl,ok1.sub,by rw[bx.K];exact rv,hq.one,by rw[bx.K];exact hq.ans d b e,fun j ej=>?_,fun j ej=>(by rw[ej,hq.fn j]at e;cases e),WG.now (a:=D.bl b) w1 ok1.sub _ bn⟩
   subst ej
   rw[bx.K]
   exact hq.exc j b e
theorem ao (bx:BX X F k)(hg:Gl X "isinstance")(hm:X.mg "isinstance"=none)(hq:IsA F.K F.C y q)(ha:FE X F e g)(hc:PE X ec (tC y))(he:starEach [e,ec] X.env=(false,eval e X.env)::starEach [ec] X.env:=by rfl)
  (he2:starEach [ec] X.env=(false,eval ec X.env)::starEach [] X.env:=by rfl) (hpl:(backTo pos (starEach [ec] X.env)).any (·.1)=false:=by rfl) :
  FE X F (.Call (.Name "isinstance" p) [e,ec] [] pos) (eIs q g) :=
 (g8 (id := "isinstance") k6 hg hm (by decide +kernel) (gP ha (gP hc mq he2) he) (he:=he) (hpl:=hpl)).weak (uH bx hq)
end
def qTup:D→Option Bool
 | .tup _=>some true
 | .exc _=>none
 | .fn _=>none
 | _=>some false
def qInt:D→Option Bool
 | .int _=>some true
 | .bl _=>some true
 | .exc _=>none
 | .fn _=>none
 | _=>some false
def qBool:D→Option Bool
 | .bl _=>some true
 | .exc _=>none
 | .fn _=>none
 | _=>some false
theorem cf {K:PySem.W.Frag}{C:Nat→Addr}:IsA K C (.ty "tuple") qTup:=⟨.inl ⟨_,rfl⟩,fun d b e=>by cases d<;>cases e<;>with_unfolding_all rfl,fun j b e=>(nomatch e),fun _=>rfl⟩
theorem gU {K:PySem.W.Frag}{C:Nat→Addr}:IsA K C (.ty "int") qInt:=⟨.inl ⟨_,rfl⟩,fun d b e=>by cases d<;>cases e<;>with_unfolding_all rfl,fun j b e=>(nomatch e),fun _=>rfl⟩
theorem ip {K:PySem.W.Frag}{C:Nat→Addr}:IsA K C (.ty "bool") qBool:=⟨.inl ⟨_,rfl⟩,fun d b e=>by cases d<;>cases e<;>with_unfolding_all rfl,fun j b e=>(nomatch e),fun _=>rfl⟩
end FF
end
noncomputable section
namespace FF
open PySem PySem.Spec PyProof.Rows L2
def sOwn (i:Nat)(gs:SS→R (List D)):SS→O:=fun S=>rO ((gs S).bind fun ds=>if ds.length≤16777216 then .ok (.nx (S.set i (some (.own ds)))) else .stuck)
def sApp (i:Nat)(gs:SS→R (List D)):SS→O:=fun S=>match S[i]? with
 | some (some (.own ds))=>rO ((gs S).bind fun es=>match es with
  | [d]=>if ds.length < 16777216 then .ok (.nx (S.set i (some (.own (ds++[d]))))) else .stuck
  | _=>.stuck)
 | _=>.stuck
def sExt (i:Nat)(gs:SS→R (List D)):SS→O:=fun S=>match S[i]? with
 | some (some (.own ds))=>rO ((gs S).bind fun es=>match es with
  | [.lst xs]=>if ds.length+xs.length≤16777216 then .ok (.nx (S.set i (some (.own (ds++xs))))) else .stuck
  | [.tup xs]=>if ds.length+xs.length≤16777216 then .ok (.nx (S.set i (some (.own (ds++xs))))) else .stuck
  | _=>.stuck)
 | _=>.stuck
def rExt (K:PySem.W.Frag):V→List V→Hp→VK→Prop:=fun x vs H Q=>∃ l b xs zs,x=.ref l∧vs=[.ref b]∧H l=some (.lst xs)∧(SqL K H b zs∨SqT K H b zs)∧xs.length+zs.length≤sizeLine∧Q .non (upd H l (.lst (xs++zs)))
theorem uI {X:Cx}:MtR X "list.extend" (rExt X.K):=by
 intro pins s σ H x vs v us Q I rx rv h
 obtain⟨l,b,xs,zs,rfl,rfl,hH,hB,hz,q⟩:=h
 cases rx
 obtain⟨u,rfl,ru⟩:=rv.one
 cases ru
 obtain⟨z,its,n,r,hl,e⟩:=I.lstM hH
 rcases hB with hB | hB
 ·obtain⟨its2,r2,⟨⟨c2,d2,dt2,sl2⟩,n2,e2,p2,p3,p4⟩,z2⟩:=I.list hB
  simp only at p2 p3 p4
  subst p2 p3 p4
  have hl2:=r2.length
  have hsz:its.toArray.size+its2.toArray.size≤sizeLine:=by rw[List.size_toArray,List.size_toArray];omega
  refine call_meets F.slot_list_extend ⟨_,e,rfl⟩ F.entry_list_extend (F.args_list_extend_2 _ _) (oa l b its.toArray its2.toArray n n2 _ _ hsz) ⟨e,e2,?_⟩
  refine⟨.non,_,I.lset (its':=its++its2) hH e (by simp) (r.append r2) ?_,rfl,q⟩
  rw[List.length_append]
  omega
 ·obtain⟨its2,r2,⟨⟨c2,d2,dt2,sl2⟩,e2,p2,n2,p3⟩,z2⟩:=I.tuple hB
  simp only at p2 p3
  subst p2 p3
  have hl2:=r2.length
  have hsz:its.toArray.size+its2.toArray.size≤sizeLine:=by rw[List.size_toArray,List.size_toArray];omega
  refine call_meets F.slot_list_extend ⟨_,e,rfl⟩ F.entry_list_extend (F.args_list_extend_2 _ _) (og l b its.toArray its2.toArray n n2 _ _ hsz) ⟨e,e2,?_⟩
  refine⟨.non,_,I.lset (its':=its++its2) hH e (by simp) (r.append r2) ?_,rfl,q⟩
  rw[List.length_append]
  omega
section
variable {X:Cx}{F:Fx}{e:Expr}{es:List Expr}{gs:SS→R (List D)}{pos p0 apos cpos lpos:Pos}{x:Str}
theorem fO (i:Nat){pos':Pos}(hN:X.N.Nodup)(h:FA X F es gs)(hi:X.N[i]?=some x:=by rfl)(hx:Loc X.env.scope x:=by first | exact Or.inl rfl | exact Or.inr rfl)
  (hs:swapsWith (.List es lpos) (some (.Name x pos')) pos.line X.env=pure false:=by rfl) (hf:X.fn x=true∨X.env.scope.names.lookup x=some .local:=by first | exact .inl rfl | exact .inr rfl):FS X F (.Assign [.Name x pos'] (.List es lpos) pos) (sOwn i gs) :=
 (mj hN hi hx (pE h) hs hf).weak fun D σ H ⟨Z,S,ok,w⟩=>bf ok (WO.wg ok w) fun ds vs H1 Z1 ok1 x1 rs w1=>by
  split at w1
  ·rename_i hl
   refine⟨by rw[← rs.length,sizeLine_eq];exact hl,fun p hp=>?_⟩
   have w2:=WG.now w1 ok1.sub
   exact w2 _ _ Z1 (Same.refl _) (ok1.newOwn hp rs)
  ·exact w1.elim
theorem jH (i:Nat)(ha:FA X F [e] gs)(hi:X.N[i]?=some x:=by rfl)(hv:Vis X.env.scope x:=by first | exact Or.inl rfl | exact Or.inr (Or.inl rfl) | exact Or.inr (Or.inr rfl))(hd:(x==("__debug__":Str))=false:=by decide)
  (hcd:(x==("__classdict__":Str))=false:=by decide)
  (hbase:attributeBase (.Name x p0) "append" X.env (eval (.Name x p0) X.env)=eval (.Name x p0) X.env:=by rfl)
  (hfew:((backTo cpos (starEach [e] X.env)).all (fun x=>!x.1)&&(backToKw cpos (keywordEach [] X.env)).all (fun x=>x.1.isSome)
   && decide ([e].length+([]:List Keyword).length+(if ([]:List Keyword).isEmpty then 0 else 1) < 30))=true:=by rfl)
  (hline:(apos.endLine==cpos.line)=true:=by rfl) (hs:starEach [e] X.env=(false,eval e X.env)::starEach [] X.env:=by rfl) (hplain:(backTo cpos (starEach [] X.env)).any (·.1)=false:=by rfl)
  (hsw:swapsWith (.Call (.Attribute (.Name x p0) "append" apos) [e] [] cpos) none pos.line X.env=pure false:=by rfl) :
  FS X F (.Expr (.Call (.Attribute (.Name x p0) "append" apos) [e] [] cpos) pos) (sApp i gs) :=
 (j3 (kQ PySem.F.plainAttrs_list PySem.F.slot_list_append (by kernel_rfl) (fG (X:=X)) (g7 hi hv hd hcd) ha hbase hfew hline hs hplain) hsw).weak fun D σ H ⟨Z,S,ok,w⟩=>by
  unfold sApp at w
  split at w
  ·rename_i ds e0
   obtain⟨a,vs,e1,e2,e3,e4,r⟩:=ok.own i ds e0
   refine⟨.ref a,e1,.inl ⟨rfl,vs,SqL.of e2⟩,bf ok (WO.wg ok w) fun es' us H1 Z1 ok1 x1 rs w1=>?_⟩
   split at w1
   ·rename_i d
    split at w1
    ·rename_i hl
     obtain⟨y,rfl,ry⟩:=bp rs
     have w2:=WG.now w1 ok1.sub
     refine⟨a,vs,y,rfl,rfl,x1.same _ _ e2,by rw[← r.length,sizeLine_eq];exact hl,?_⟩
     exact w2 σ _ Z1 (Same.refl _) (ok1.write e0 e1 ((r.mono x1.z).append (Reps.cons ry Reps.nil)))
    ·exact w1.elim
   ·exact w1.elim
  ·exact w.elim
theorem cm (i:Nat)(bK:X.K=F.K)(ha:FA X F [e] gs)(hi:X.N[i]?=some x:=by rfl)(hv:Vis X.env.scope x:=by first | exact Or.inl rfl | exact Or.inr (Or.inl rfl) | exact Or.inr (Or.inr rfl))(hd:(x==("__debug__":Str))=false:=by decide)
  (hcd:(x==("__classdict__":Str))=false:=by decide)
  (hbase:attributeBase (.Name x p0) "extend" X.env (eval (.Name x p0) X.env)=eval (.Name x p0) X.env:=by rfl)
  (hfew:((backTo cpos (starEach [e] X.env)).all (fun x=>!x.1)&&(backToKw cpos (keywordEach [] X.env)).all (fun x=>x.1.isSome)
   && decide ([e].length+([]:List Keyword).length+(if ([]:List Keyword).isEmpty then 0 else 1) < 30))=true:=by rfl)
  (hline:(apos.endLine==cpos.line)=true:=by rfl) (hs:starEach [e] X.env=(false,eval e X.env)::starEach [] X.env:=by rfl) (hplain:(backTo cpos (starEach [] X.env)).any (·.1)=false:=by rfl)
  (hsw:swapsWith (.Call (.Attribute (.Name x p0) "extend" apos) [e] [] cpos) none pos.line X.env=pure false:=by rfl) :
  FS X F (.Expr (.Call (.Attribute (.Name x p0) "extend" apos) [e] [] cpos) pos) (sExt i gs) :=
 (j3 (kQ PySem.F.plainAttrs_list PySem.F.slot_list_extend (by kernel_rfl) (uI (X:=X)) (g7 hi hv hd hcd) ha hbase hfew hline hs hplain) hsw).weak fun D σ H ⟨Z,S,ok,w⟩=>by
  unfold sExt at w
  split at w
  ·rename_i ds e0
   obtain⟨a,vs,e1,e2,e3,e4,r⟩:=ok.own i ds e0
   refine⟨.ref a,e1,.inl ⟨rfl,vs,SqL.of e2⟩,bf ok (WO.wg ok w) fun es' us H1 Z1 ok1 x1 rs w1=>?_⟩
   split at w1
   ·rename_i xs
    split at w1
    ·rename_i hl
     obtain⟨y,rfl,ry⟩:=bp rs
     rw[Rep]at ry
     obtain⟨b,zs,rfl,h1,h2⟩:=ry
     have w2:=WG.now w1 ok1.sub
     refine⟨a,b,vs,zs,rfl,rfl,x1.same _ _ e2,.inl (by rw[bK];exact ok1.sub.seq h1),by rw[← r.length,← h2.length,sizeLine_eq];exact hl,?_⟩
     exact w2 σ _ Z1 (Same.refl _) (ok1.write e0 e1 ((r.mono x1.z).append h2))
    ·exact w1.elim
   ·rename_i xs
    split at w1
    ·rename_i hl
     obtain⟨y,rfl,ry⟩:=bp rs
     rw[Rep]at ry
     obtain⟨b,zs,rfl,h1,h2⟩:=ry
     have w2:=WG.now w1 ok1.sub
     refine⟨a,b,vs,zs,rfl,rfl,x1.same _ _ e2,.inr (by rw[bK];exact h1.mono ok1.sub),by rw[← r.length,← h2.length,sizeLine_eq];exact hl,?_⟩
     exact w2 σ _ Z1 (Same.refl _) (ok1.write e0 e1 ((r.mono x1.z).append h2))
    ·exact w1.elim
   ·exact w1.elim
  ·exact w.elim
end
def dCount (xs es:List D):R D:=match es with
 | [.bl k]=>match boolsD xs with
  | some bs=>.ok (.int (bs.countP (· == k):Nat))
  | none=>.stuck
 | _=>.stuck
def dIndex (xs es:List D):R D:=match es with
 | [.bl k]=>match boolsD xs with
  | some bs=>if bs.idxOf k < bs.length then .ok (.int (bs.idxOf k:Nat)) else .stuck
  | none=>.stuck
 | _=>.stuck
def eMethL (f:List D→List D→R D)(g:SS→R D)(gs:SS→R (List D)):SS→R D:=fun S=>(g S).bind fun d=>match d with
 | .lst xs=>(gs S).bind fun es=>f xs es
 | _=>.stuck
def rCountB (K:PySem.W.Frag):V→List V→Hp→VK→Prop:=fun x vs H Q=>∃ (l:Addr) (bs:List Bool) (k:Bool),x=.ref l∧vs=[.bl k]∧SqL K H l (bs.map V.bl)∧Q (.int (bs.countP (· == k):Nat)) H
def rIndexB (K:PySem.W.Frag):V→List V→Hp→VK→Prop:=fun x vs H Q=>∃ (l:Addr) (bs:List Bool) (k:Bool),x=.ref l∧vs=[.bl k]∧SqL K H l (bs.map V.bl)∧bs.idxOf k < bs.length∧Q (.int (bs.idxOf k:Nat)) H
theorem ir {X:Cx}{pins:List (Addr×Obj)}{σ:St}{H:Hp}{s:Shared}(I:Inv X pins σ H s){A:Around}(hu:A.units < cLine)(b k:Bool):SeqAt.EqAt A s (.bool b) (.bool k) (b==k) :=
 fK (K:=X.K) (C:=fun _=>0) (Z:=fun _=>none) rfl I (fun _ _ e=>nomatch e) 0 A (.bl b) (.bl k) (.bl b) (.bl k) _ _ rfl rfl bn bn rfl rfl (by omega)
def isB (k:Bool):Value→Bool
 | .bool b=>b==k
 | _=>false
theorem qf {X:Cx}{k:Nat}(hr:Room k X.A):MtR X "list.count" (rCountB X.K):=by
 intro pins s σ H x vs v us Q I rx rv h
 obtain⟨l,bs,k,rfl,rfl,hH,q⟩:=h
 cases rx
 obtain⟨u,rfl,ru⟩:=rv.one
 cases ru
 obtain⟨its,r,⟨⟨c2,d2,dt2,sl2⟩,n2,e2,p2,p3,p4⟩,z2⟩:=I.list hH
 have e:=dl r
 subst e
 simp only at p2 p3 p4
 subst p2 p3 p4
 refine call_meets F.slot_list_count ⟨_,e2,rfl⟩ F.entry_list_count (F.args_list_count_2 _ _) (SeqAt.list_countAt l _ n2 _ _ (.bool k) (isB k)) ⟨e2,fun y hy=>?_,?_⟩
 ·have hy':y∈bs.map Value.bool:=by simpa using hy
  obtain⟨b,_,rfl⟩:=List.mem_map.mp hy'
  exact ir I (by have:=hr.un;show X.A.units+1 < cLine;omega) b k
 ·have hc:((bs.map Value.bool).toArray.toList.countP (isB k))=bs.countP (· == k):=by
   show (bs.map Value.bool).countP (isB k)=_
   rw[List.countP_map]
   rfl
  rw[hc]
  exact⟨.int _,H,I.tok _,⟨_,rfl⟩,q⟩
theorem qh {X:Cx}{k:Nat}(hr:Room k X.A):MtR X "list.index" (rIndexB X.K):=by
 intro pins s σ H x vs v us Q I rx rv h
 obtain⟨l,bs,k,rfl,rfl,hH,hj,q⟩:=h
 cases rx
 obtain⟨u,rfl,ru⟩:=rv.one
 cases ru
 obtain⟨its,r,⟨⟨c2,d2,dt2,sl2⟩,n2,e2,p2,p3,p4⟩,z2⟩:=I.list hH
 have e:=dl r
 subst e
 simp only at p2 p3 p4
 subst p2 p3 p4
 rw[List.length_map,sizeLine_eq]at z2
 have hsz:bs.idxOf k < (bs.map Value.bool).toArray.size:=by rw[List.size_toArray,List.length_map];exact hj
 have hat:∀ m (hm:m < (bs.map Value.bool).toArray.size) (hm':m < bs.length),isB k (bs.map Value.bool).toArray[m]=(bs[m]==k):=fun m hm hm'=>by simp[isB]
 refine call_meets F.slot_list_index ⟨_,e2,rfl⟩ F.entry_list_index (F.args_list_index_2 _ _) (SeqAt.list_indexAt l _ n2 _ _ (.bool k) (isB k) (bs.idxOf k) hsz (by omega) ?_ ?_) ⟨e2,fun y hy=>?_,⟨.int _,H,I.tok _,⟨_,rfl⟩,q⟩⟩
 ·rw[hat _ _ hj]
  exact List.findIdx_getElem (w:=hj)
 ·intro m hm hlt
  have hm':m < bs.length:=by omega
  rw[hat _ _ hm']
  exact Bool.eq_false_iff.mpr (by simpa using List.not_of_lt_findIdx hlt)
 ·have hy':y∈bs.map Value.bool:=by simpa using hy
  obtain⟨b,_,rfl⟩:=List.mem_map.mp hy'
  exact ir I (by have:=hr.un;show X.A.units+1 < cLine;omega) b k
section
variable {X:Cx}{F:Fx}{o e:Expr}{g:SS→R D}{gs:SS→R (List D)}{apos cpos:Pos}{k:Nat}
theorem qi {K:PySem.W.Frag}{C:Nat→Addr}{Z:Hp}{k:Bool}{vs:List V}(r:Reps K C Z [.bl k] vs):vs=[.bl k]:=by
 obtain⟨v,rfl,h⟩:=bp r
 rw[Rep]at h
 rw[h]
def MethD (F:Fx)(r:V→List V→Hp→VK→Prop)(f:List D→List D→R D):Prop:=∀ (H Z:Hp) (a:Addr) (vs:List V) (xs:List D) (us:List V) (es:List D) (Q:VK),Same Z H→SqL F.K H a vs→Reps F.K F.C Z xs vs→Reps F.K F.C Z es us →
 WG F H Z (f xs es) (fun d H' Z'=>∀ v,Rep F.K F.C Z' d v→Q v H')→r (.ref a) us H Q
theorem k7:MethD F (rCountB F.K) dCount:=by
 intro H Z a vs xs us es Q s h1 h2 rs w
 unfold dCount at w
 split at w
 ·rename_i k
  split at w
  ·rename_i bs eb
   have e3:=dk h2 eb
   subst e3
   exact⟨a,bs,k,rfl,qi rs,h1,WG.now w s _ aH⟩
  ·exact w.elim
 ·exact w.elim
theorem k8:MethD F (rIndexB F.K) dIndex:=by
 intro H Z a vs xs us es Q s h1 h2 rs w
 unfold dIndex at w
 split at w
 ·rename_i k
  split at w
  ·rename_i bs eb
   have e3:=dk h2 eb
   subst e3
   split at w
   ·rename_i hl
    exact⟨a,bs,k,rfl,qi rs,h1,hl,WG.now w s _ aH⟩
   ·exact w.elim
  ·exact w.elim
 ·exact w.elim
theorem fP {r:V→List V→Hp→VK→Prop}{f:List D→List D→R D}(hd:MethD F r f):∀ σ H Q,tE F (eMethL f g gs) σ H Q→tBM F.K "list" r (tE F g) (tAl F gs) σ H Q:=fun σ H Q ⟨Z,S,ok,w⟩=>aF ok w fun d v H1 Z1 ok1 x1 rv w1=>by
 cases d with
 | lst xs =>
  rw[Rep]at rv
  obtain⟨a,vs,rfl,h1,h2⟩:=rv
  exact⟨.inl ⟨rfl,vs,ok1.sub.seq h1⟩,bf ok1 w1 fun es us H2 Z2 ok2 x2 rs w2=>hd H2 Z2 a vs xs us es Q ok2.sub (ok2.sub.seq (x2.z.seq h1)) (h2.mono x2.z) rs w2⟩
 | _=>exact w1.elim
theorem qj (bx:BX X F k)(ho:FE X F o g)(ha:FA X F [e] gs)
  (hbase:attributeBase o "count" X.env (eval o X.env)=eval o X.env:=by rfl)
  (hfew:((backTo cpos (starEach [e] X.env)).all (fun x=>!x.1)&&(backToKw cpos (keywordEach [] X.env)).all (fun x=>x.1.isSome)
   && decide ([e].length+([]:List Keyword).length+(if ([]:List Keyword).isEmpty then 0 else 1) < 30))=true:=by rfl)
  (hline:(apos.endLine==cpos.line)=true:=by rfl) (hs:starEach [e] X.env=(false,eval e X.env)::starEach [] X.env:=by rfl) (hplain:(backTo cpos (starEach [] X.env)).any (·.1)=false:=by rfl) :
  FE X F (.Call (.Attribute o "count" apos) [e] [] cpos) (eMethL dCount g gs) :=
 (kQ PySem.F.plainAttrs_list PySem.F.slot_list_count (by kernel_rfl) (qf bx.room) ho ha hbase hfew hline hs hplain).weak (by rw[bx.K];exact fP k7)
theorem ot (bx:BX X F k)(ho:FE X F o g)(ha:FA X F [e] gs)
  (hbase:attributeBase o "index" X.env (eval o X.env)=eval o X.env:=by rfl)
  (hfew:((backTo cpos (starEach [e] X.env)).all (fun x=>!x.1)&&(backToKw cpos (keywordEach [] X.env)).all (fun x=>x.1.isSome)
   && decide ([e].length+([]:List Keyword).length+(if ([]:List Keyword).isEmpty then 0 else 1) < 30))=true:=by rfl)
  (hline:(apos.endLine==cpos.line)=true:=by rfl) (hs:starEach [e] X.env=(false,eval e X.env)::starEach [] X.env:=by rfl) (hplain:(backTo cpos (starEach [] X.env)).any (·.1)=false:=by rfl) :
  FE X F (.Call (.Attribute o "index" apos) [e] [] cpos) (eMethL dIndex g gs) :=
 (kQ PySem.F.plainAttrs_list PySem.F.slot_list_index (by kernel_rfl) (qh bx.room) ho ha hbase hfew hline hs hplain).weak (by rw[bx.K];exact fP k8)
end
end FF
end
noncomputable section
namespace FF
open PySem PySem.Spec PyProof.Rows L2
def MadeX (X:Cx)(F:Fx):Prop:=∀ (pins:List (Addr×Obj)) (σ:St) (H:Hp) (s:Shared) (h1:Heap) (ea C:Addr) (args:List Value),Inv X pins σ H s→Heap.MadeExcOf s.heap h1 ea (.ref C) args→F.E (.ref C) none H→X.xe (.ref ea) { s with heap:=h1 }
def bmVE:List Value:=[.type "ValueError",.type "Exception",.type "BaseException",.type "object"]
theorem nD {K:PySem.W.Frag}{h:Heap}{C:Addr}{bmB:List Value}{newId:String}(X:K.In h)(q:PySem.W.excIn K C bmB newId=true) :
  ∃ (bm:List Value) (N:Addr) (nm qn:Str) (bs:List Value) (hdct:Bool) (sn:List Str) (sub:List Value) (ab:Bool) (col:Option Bool) (dd:Option Addr) (k0 k1 k2 k3 k5:Option Value) (mN:Str→Option Value),
   h.get? C=some (excClassObj nm qn C N bs bm hdct sn sub ab col dd k0 k1 k2 k3 k5 newId)∧h.Ns N mN∧mN "__init__"=none∧OwnTail h bmB bm:=by
 unfold PySem.W.excIn at q
 split at q
 ·rename_i dd cd sl ho
  split at q
  ·rename_i C' bm k0 k1 k2 k3 n k5 hm hs
   simp only[Bool.and_eq_true,beq_iff_eq,Bool.not_eq_true']at q
   obtain⟨⟨⟨⟨⟨rfl,rfl⟩,hdel⟩,ht⟩,hok⟩,hni⟩:=q
   obtain⟨nm,bs,mro,ns,qn,hd,sn,sub,ab,col,del⟩:=cd
   dsimp only at hm hdel hok hni
   subst hm hdel
   have hsl:sl = #[k0,k1,k2,k3,some (.builtin n),k5]:=by
    obtain⟨l⟩:=sl
    simp only at hs
    rw[hs]
   subst hsl
   exact⟨bm,ns,nm,qn,bs,hd,sn,sub,ab,col,dd,k0,k1,k2,k3,k5,_,X _ _ ho,.of_isNs (PySem.W.isNs_of_in X hok),PySem.W.nsMap_none_of_in X hok hni,PySem.W.tail_of_in X ht⟩
  ·cases q
 ·cases q
def sRaise (j:Nat)(gs:SS→R (List D)):SS→O:=fun S=>rO ((gs S).bind fun ds=>if ds.length≤1000 then .ok (.er j) else .stuck)
section
variable {X:Cx}{F:Fx}{e:Expr}{es:List Expr}{gs:SS→R (List D)}{pos np cpos:Pos}{x:Str}{k j:Nat}
theorem k9 (j:Nat)(bx:BX X F k)(hmade:MadeX X F)(hg:Gl X x)(hm:X.mg x=some (.ref (F.C j)))(q:PySem.W.excIn F.K (F.C j) bmVE "ValueError.__new__"=true)(ha:FA X F (e::es) gs)(hd:(x==("__debug__":Str))=false:=by decide)
  (he:starEach (e::es) X.env=(false,eval e X.env)::starEach es X.env:=by rfl) (hpl:(backTo cpos (starEach es X.env)).any (·.1)=false:=by rfl) :
  FS X F (.Raise (some (.Call (.Name x np) (e::es) [] cpos)) none pos) (sRaise j gs):=by
 intro pins s σ H D I h
 obtain⟨Z,S,ok,w⟩:=h
 have q':=q
 rw[← bx.K]at q'
 obtain⟨bm,N,nm,qn,bs,hdct,sn,sub,ab,col,dd,k0,k1,k2,k3,k5,mN,hC0,hN0,hni0,T0⟩:=nD (bmB:=bmVE) I.ok.mod.kin q'
 have hb:∀ {pl σ' H' s'},Inv X pl σ' H' s'→∀ b o,X.base.get? b=some o→s'.heap.get? b=some o:=fun I'=>I'.bk
 refine wpAny_Raise_call_subU (C:=F.C j) (nm:=nm) (q:=qn) (N:=N) (bs:=bs) (bm:=bm) (hdct:=hdct) (sn:=sn) (sub:=sub) (ab:=ab) (col:=col) (dd:=dd) (k0:=k0) (k1:=k1) (k2:=k2) (k3:=k3) (k5:=k5) PySem.F.excBase_ValueError (by decide) PySem.F.excBase_ValueError (T0.hasType PySem.F.excBase_ValueError.hasBase) (I.ok.hd bx.calm) (by rw[he];show (false||(backTo cpos (starEach es X.env)).any (·.1))=false;rw[hpl];rfl) hni0 (gO I hg hm ⟨rfl,?_⟩ hd)
 have hA:=ha cpos pins s σ H (fun vs H1=>vs.length≤1000∧F.E (.ref (F.C j)) none H1) I (bf ok (WO.wg ok w) fun ds vs H1 Z1 ok1 x1 rs w1=>by
  split at w1
  ·rename_i hl
   exact⟨by rw[← rs.length];exact hl,WG.now w1 ok1.sub H1 ok1.ex.same⟩
  ·exact w1.elim)
 rw[he]at hA ⊢
 refine Calls.evalArgs_plain (thn hA fun us s2 ⟨vs,H2,I2,r2,q2⟩=>⟨rfl,?_,hb I2 _ _ hC0,hN0.keeps (hb I2),T0.keeps (hb I2),fun h' e hm'=>hmade pins σ H2 s2 h' e _ us I2 hm' q2.2⟩)
 rw[← r2.length,sizeLine_eq]
 omega
end
end FF
end
noncomputable section
namespace FF
open PySem PySem.Spec PyProof.Rows L2
section
variable {X:Cx}{pins:List (Addr×Obj)}{σ:St}{H:Hp}{s:Shared}
theorem iu (I:Inv X pins σ H s){A:Around}{calm:Bool}{pn pins':List (Addr×Obj)}{xe:Value→Shared→Prop}(hf:A.frames=X.A.frames)(hc:calm=true→A.handled=none)(hp:∀ p∈pn++pins',p∈X.pn++pins) :
  Inv { X with A:=A,calm:=calm,pn:=pn,xe:=xe } pins' σ H s :=
 ⟨⟨I.ok.mod,I.ok.kind,I.ok.glob,I.ok.blt,I.ok.above,I.ok.inj,I.ok.has,I.ok.cab,hc,hf.trans I.ok.frames,I.ok.stk,I.ok.exf,I.ok.bs,I.ok.bsz,I.ok.noex,I.ok.exfs,I.ok.funs,I.ok.frf⟩,I.os,I.bare,I.base,I.loc,I.cell,I.free,I.freeC,
  fun p hpp=>I.pin p (hp p hpp),I.hok,I.len⟩
theorem ou (I:Inv X pins σ H s){a:Addr}{o:HO}(hn:H a=none)(h0:X.s₀.heap.get? a=none)(hl:a≠X.env.locals)(hc:∀ x c,X.env.cells.lookup x=some c→c≠a)(hp:∀ p∈X.pn++pins,p.1≠a)
  (ho:ObjOk X.prog X.w (upd H a o) s.heap a o):Inv X pins σ (upd H a o) s:=by
 have nn:∀ {b:Addr} {u:HO},H b=some u→upd H a o b=some u:=fun {b u} e=>by rw[ar (bu e hn)];exact e
 refine⟨I.ok,I.os,I.bare,⟨I.base.keep,I.base.slot,fun b ob e n hx=>?_,I.base.there,fun b xs e=>nn (I.base.tups b xs e),fun b o' u e=>nn (I.base.frzs b o' u e),fun b ps e=>?_⟩,I.loc,I.cell,?_,fun x c e=>?_,fun p h=>?_,fun b u e=>?_,I.len⟩
 ·rw[ar (by rintro rfl;rw[h0]at e;cases e)]
  exact I.base.free b ob e n hx
 ·obtain⟨more,q⟩:=I.base.tbls b ps e
  exact⟨more,nn q⟩
 ·rw[ar (Ne.symm hl)];exact I.free
 ·rw[ar (hc x c e)];exact I.freeC x c e
 ·obtain⟨a1,a2,a3⟩:=I.pin p h
  exact⟨a1,by rw[ar (hp p h)];exact a2,a3⟩
 ·by_cases q:b=a
  ·subst q
   rw[ap]at e
   cases e
   exact ho
  ·rw[ar q]at e
   exact(I.hok b u e).stay (fun _ _ _ z=>z) (fun c z=>nn z) fun c xs z=>nn z
theorem oy {M:Model}{A:Around}{E:Value→Shared→Prop}{i:Nat}{n:Str}{v:V}{Q:Unit→Shared→Prop}(I:Inv X pins σ H s)(hN:X.N.Nodup)(hi:X.N[i]?=some n)(hk:X.env.kindOf n=some .local)(hs:X.env.scope.names.lookup n=some .local)(hv:σ[i]?=some (some v))
  (h:∀ s',Inv X pins (σ.set i none) H s'→Q () s'):wpAny M A (unbindName X.env n) Q E s:=by
 obtain⟨m,hn,hl⟩:=id I.loc
 have hcls:(X.env.scope.kind==.class||(X.env.scope.kind==.module&&X.env.locals != X.env.globals))=false:=by rw[I.ok.kind];rfl
 obtain⟨u,ru,lk⟩:=hl i n v hi hv (.inl hs)
 have hm:m n=some u:=by
  rcases lk with ⟨_,e⟩ | ⟨z,_⟩
  ·exact e
  ·rw[hk]at z;rcases z with z | z<;>cases z
 have cne:=I.cne
 have hiσ:i < σ.length:=(List.getElem?_eq_some_iff.mp hv).1
 refine wpAny_unbindName_local hk hn hm hcls fun h' u' hn' hs'=>?_
 obtain⟨oL,_,_,hoL,_⟩:=id hn
 have nl:∀ b o,X.s₀.heap.get? b=some o→b≠X.env.locals:=fun b o e=>Nat.ne_of_lt (Nat.lt_of_lt_of_le (Heap.lt_size e) I.ok.above)
 refine h _ ⟨I.ok,I.os,I.bare,⟨fun b o e nn hb hx=>(hs'.2 b (nl b o e)).trans (I.base.keep b o e nn hb hx),fun b o e nn hb hx=>?_,I.base.free,fun b o e hx=>?_,I.base.tups,I.base.frzs,I.base.tbls⟩,⟨_,hn',fun j y v' e1 e2 e3=>?_⟩,fun y c e=>?_,I.free,I.freeC,fun p hp=>?_,fun b ob e=>?_,by simpa using I.len⟩
 ·obtain⟨sl,e1⟩:=I.base.slot b o e nn hb hx
  exact⟨sl,(hs'.2 b (nl b o e)).trans e1⟩
 ·obtain⟨o',e1⟩:=I.base.there b o e hx
  exact⟨o',(hs'.2 b (nl b o e)).trans e1⟩
 ·have hj:j≠i:=fun q=>by
   subst q
   rw[List.getElem?_set_self hiσ]at e2
   cases e2
  rw[List.getElem?_set_ne (Ne.symm hj)]at e2
  obtain⟨u2,r2,q⟩:=hl j y v' e1 e2 e3
  refine⟨u2,r2,?_⟩
  rcases q with ⟨k,e⟩ | ⟨k,c,e,z⟩
  ·refine .inl ⟨k,?_⟩
   have:y≠n:=fun e=>hj (g6 hN e1 (e ▸ hi))
   simp[this,e]
  ·exact .inr ⟨k,c,e,z.sameBut hs' (cne y c e)⟩
 ·obtain⟨w',z⟩:=I.cell y c e
  exact⟨w',z.sameBut hs' (cne y c e)⟩
 ·obtain⟨e,nn,ne,nf,d⟩:=I.pin p hp
  exact⟨(hs'.2 p.1 ne).trans e,nn,ne,nf,d⟩
 ·refine(I.hok b ob e).stay (fun c w' hc q=>(hs'.2 c ?_).trans q) (fun _ q=>q) fun _ _ q=>q
  rintro rfl
  rcases hc with z | z
  ·subst z;rw[I.free]at e;cases e
  ·rw[I.free]at z;cases z
end
structure Takes (K:PySem.W.Frag)(C:Nat→Addr)(C0:Addr)(q:Nat→Bool):Prop where
 exc:PySem.W.excIn K C0 bmVE "ValueError.__new__"=true
 sub:∀ k,q k=true→PySem.W.subIn K (.ref (C k)) (.ref C0)=some true
theorem lg {K:PySem.W.Frag}{C:Nat→Addr}{C0:Addr}{q:Nat→Bool}(T:Takes K C C0 q){M:Model}{A:Around}{E:Value→Shared→Prop}{h:Heap}{g:Array GenState}{d:Drawn}{t:Nat}{os:OsState}{e:Addr}{oe:Obj}{k:Nat}{Q:Bool→Shared→Prop}
  (X:K.In h) (he:h.get? e=some oe) (hc:oe.cls=.ref (C k)) (hk:q k=true) (hq:Q true ⟨h,g,d,t,os⟩):wpAny M A (excMatches (.ref e) (.ref C0)) Q E ⟨h,g,d,t,os⟩:=by
 obtain⟨bm,N,nm,qn,bs,hdct,sn,sub,ab,col,dd,k0,k1,k2,k3,k5,mN,hC,hN,hni,TL⟩:=nD X T.exc
 have hcB:(Value.ref C0::bm).contains (.type "BaseException")=true:=by rw[List.contains_cons,TL.hasType (show bmVE.contains (.type "BaseException")=true by decide),Bool.or_true]
 have L3:=PySem.W.looks_subIn (M:=M) X (T.sub k hk)
 have f:=tc_notTuple
 unfold excMatches
 repeat (first | (with_reducible refine wpAny_loadPart_at he ?_;rw[hc]) | with_reducible refine wpAny_loadPart_at hC ?_ | (with_reducible refine wpAny_isSubtype_exc hC ?_;rw[hcB]) | (with_reducible refine L3.at ?_) | wp_step)
 exact hq
def blankS (S:SS):SS:=List.replicate S.length none
abbrev tryX (X:Cx)(pn:List (Addr×Obj))(xe:Value→Shared→Prop):Cx:={ X with A:=X.A,calm:=X.calm,pn:=pn,xe:=xe }
def bothH (F:Fx)(Z:Hp):Hp:=fun b=>match F.H0 b with
 | some o=>some o
 | none=>Z b
section
variable {F:Fx}{H Z:Hp}{S:SS}{σ:St}
theorem both1:Same F.H0 (bothH F Z):=fun b o e=>by unfold bothH;rw[e]
theorem both2 (ok:StOk F H Z S σ):Same (bothH F Z) H:=fun b o e=>by
 unfold bothH at e
 split at e
 ·rename_i o' q
  cases e
  exact ok.ex.same b _ q
 ·exact ok.sub b o e
theorem both3 (ok:StOk F H Z S σ):Same Z (bothH F Z):=fun b o e=>by
 unfold bothH
 split
 ·rename_i o' q
  have h1:=ok.ex.same b _ q
  have h2:=ok.sub b _ e
  rw[h1]at h2
  exact h2
 ·exact e
theorem nE (ok:StOk F H Z S σ){H' Z':Hp}(x:Ex (bothH F Z) Z H' Z'):Ex F.H0 F.Z0 H' Z':=by
 refine⟨both1.trans x.same,ok.ex.z.trans x.z,x.sub,fun b h=>?_⟩
 rcases x.new b h with z | z
 ·exact ok.ex.new b z
 ·exact .inr (both1.free z)
theorem sg (ok:StOk F H Z S σ){E:XK}{H' Z':Hp}{S':SS}{σ':St}(h:StOk ⟨F.K,F.C,bothH F Z,Z,E⟩ H' Z' S' σ'):StOk F H' Z' S' σ' :=
 ⟨nE ok h.ex,h.len,fun i x e=>by
  obtain⟨v,A,e1,o,p⟩:=h.sl i x e
  exact⟨v,A,e1,ow_K o,p.nd,p.z,fun a ha=>both1.free (p.h0 a ha)⟩,fun i j x y v w A B hij e1 e2 e3 e4 o1 o2=>h.dj i j x y v w A B hij e1 e2 e3 e4 (ow_K o1) (ow_K o2)⟩
theorem si (ok:StOk F H Z S σ){E:XK}:StOk ⟨F.K,F.C,bothH F Z,Z,E⟩ H Z S σ :=
 ⟨⟨both2 ok,Same.refl _,ok.sub,fun b h=>.inl h⟩,ok.len,fun i x e=>by
  obtain⟨v,A,e1,o,p⟩:=ok.sl i x e
  refine⟨v,A,e1,ow_K o,p.nd,p.z,fun a ha=>?_⟩
  show bothH F Z a=none
  unfold bothH
  rw[p.h0 a ha]
  exact p.z a ha,fun i j x y v w A B hij e1 e2 e3 e4 o1 o2=>ok.dj i j x y v w A B hij e1 e2 e3 e4 (ow_K o1) (ow_K o2)⟩
theorem oz (ok:StOk F H Z S σ){H':Hp}{j k:Nat}{ea:Addr}{σ':St}(hs:Same (bothH F Z) H')(hn:H' ea=none)(hl:S.length=σ'.length)(hv:j < σ'.length→σ'[j]?=some (some (.ref ea))) :
  ∃ Z',Same Z Z'∧StOk F (upd H' ea (excO F.C k ea)) Z' ((blankS S).set j (some (.val (.exc k)))) σ':=by
 have zn:Z ea=none:=(both3 ok).free (hs.free hn)
 have fn:F.H0 ea=none:=both1.free (hs.free hn)
 have one:∀ {i:Nat} {x:Sl},((blankS S).set j (some (.val (.exc k))))[i]?=some (some x)→i=j∧x=.val (.exc k)∧j < S.length:=fun {i x} e=>by
  have hlen:(blankS S).length=S.length:=by unfold blankS;simp
  by_cases q:j=i
  ·subst q
   by_cases hj:j < S.length
   ·rw[List.getElem?_set_self (by rw[hlen];exact hj)]at e
    cases e
    exact⟨rfl,rfl,hj⟩
   ·rw[List.getElem?_eq_none (by simpa [hlen] using hj)]at e;cases e
  ·rw[List.getElem?_set_ne q]at e
   unfold blankS at e
   rw[List.getElem?_replicate]at e
   split at e<;>cases e
 refine⟨upd Z ea (excO F.C k ea),aC zn,⟨⟨(both1.trans hs).trans (aC hn),ok.ex.z.trans (aC zn),fun b o e=>?_,fun b h=>?_⟩,by simp[blankS,hl],fun i x e=>?_,fun i1 i2 x y v w A B _ e1 _ _ _ o1 _=>?_⟩⟩
 ·by_cases q:b=ea
  ·subst q;rw[ap]at e ⊢;exact e
  ·rw[ar q]at e ⊢;exact hs b o (both3 ok b o e)
 ·by_cases q:b=ea
  ·subst q;exact .inr fn
  ·rw[ar q]at h;exact ok.ex.new b h
 ·obtain⟨rfl,e2,hj⟩:=one e
  cases e2
  exact⟨.ref ea,[],hv (by rw[← hl];exact hj),⟨rfl,by rw[Rep];exact⟨ea,rfl,ap⟩⟩,Priv.nil⟩
 ·obtain⟨_,e2,_⟩:=one e1
  cases e2
  rw[o1.1];exact fun a ha=>nomatch ha
end
section
variable {X:Cx}{F:Fx}{body:List Stmt}{g:SS→O}{c n y:Str}{np np2 kp apos hpos pos:Pos}{k:Nat}{q:Nat→Bool}{C0:Addr}
end
end FF
end
noncomputable section
namespace FF
open PySem PySem.Spec PyProof.Rows L2
def eNeg (g:SS→R D):SS→R D:=fun S=>(g S).bind fun d=>match d with
 | .int i=>.ok (.int (-i))
 | _=>.stuck
section
variable {X:Cx}{F:Fx}{a:Expr}{g:SS→R D}{pos:Pos}{x:Str}{i:Int}
theorem uJ (h:FE X F a g):FE X F (.UnaryOp .USub a pos) (eNeg g):=(tG pw h).weak fun σ H Q ⟨Z,S,ok,w⟩=>aF ok w fun d v H1 Z1 ok1 x1 rv w1=>by
 cases d with
 | int i=>rw[Rep]at rv;exact⟨i,rv,WG.now w1 ok1.sub _ aH⟩
 | _=>exact w1.elim
theorem bg (h:∃ t,X.mg x=some (.int i t))(hg:Gl X x)(hd:(x==("__debug__":Str))=false:=by decide):FE X F (.Name x pos) (eC (.int i)):=by
 obtain⟨t,e⟩:=h
 exact dh (bd (v:=.int i) hg e ⟨t,rfl⟩ hd) fun _=>aH
end
end FF
end
noncomputable section
namespace FF
open PySem PySem.Spec PyProof.Rows L2
section
variable {X:Cx}{F:Fx}{e:Expr}{es:List Expr}{g:SS→R D}{gs:SS→R (List D)}
end
end FF
end
noncomputable section
namespace FF
open PySem L2
def tupI (l:List Int):D:=.tup (l.map .int)
def dSw (d:D)(lo hi:Option Int):R D:=match d with
 | .lst xs=>.ok (.lst (cutD xs lo hi))
 | .tup xs=>.ok (.tup (cutD xs lo hi))
 | _=>.stuck
def eSw (g:SS→R D)(l h:SS→R (Option Int)):SS→R D:=fun S=>(g S).bind fun d=>(l S).bind fun lo=>(h S).bind fun hi=>dSw d lo hi
def intsOf:List D→Option (List Int)
 | []=>some []
 | .int i::r=>(intsOf r).map (i::·)
 | _::_=>none
def sumI (is:List Int):Int:=is.foldl (· + ·) 0
def dSum:List D→R D
 | [.lst xs]=>match intsOf xs with
  | some is=>.ok (.int (sumI is))
  | none=>.stuck
 | [.tup xs]=>match intsOf xs with
  | some is=>.ok (.int (sumI is))
  | none=>.stuck
 | _=>.stuck
def setAll:List Nat→List D→SS→SS
 | i::r,d::ds,S=>setAll r ds (S.set i (some (.val d)))
 | _,_,S=>S
def gTup (ix:List Nat):D→SS→R SS:=fun d S=>match d with
 | .tup ds=>if ds.length=ix.length then .ok (setAll ix ds S) else .stuck
 | _=>.stuck
def sAsg (g:D→SS→R SS)(e:SS→R D):SS→O:=fun S=>rO ((e S).bind fun d=>(g d S).bind fun S1=>.ok (.nx S1))
end FF
end
noncomputable section
namespace FF
open PySem PySem.Spec PyProof.Rows L2
def TupK (K:PySem.W.Frag)(a:Addr)(l:List Int):Prop :=
 ∃ (o:Obj) (its:Array Value) (n:Nat),K.lookup a=some o∧o.cls=.type "tuple" ∧ o.dict=none∧o.data=.seq its n∧its.size≤sizeLine∧Vals (l.map V.int) its.toList
theorem jI {K:PySem.W.Frag}{C:Nat→Addr}{Z:Hp}:∀ ns:List Int,Reps K C Z (ns.map .int) (ns.map V.int)
 | []=>by rw[List.map_nil,List.map_nil,Reps]
 | i::ns=>by rw[List.map_cons,List.map_cons,Reps];exact⟨_,_,rfl,aH,jI ns⟩
theorem gX {X:Cx}{F:Fx}{x:Str}{pos:Pos}{l:List Int}(h:∃ a,X.mg x=some (.ref a)∧TupK F.K a l)(hg:Gl X x)(hd:(x==("__debug__":Str))=false:=by decide):FE X F (.Name x pos) (eC (tupI l)):=by
 obtain⟨a,e,o,its,n,h1,h2,h2d,h3,h4,h5⟩:=h
 exact dh (bd (v:=.ref a) hg e rfl hd) fun Z=>by
  unfold tupI
  rw[Rep]
  exact⟨a,_,rfl,.inr ⟨o,its,n,h1,h2,h2d,h3,h4,h5⟩,jI l⟩
theorem eI {K:PySem.W.Frag}{C:Nat→Addr}{Z:Hp}:∀ {ds:List D} {vs:List V} {is:List Int},Reps K C Z ds vs→intsOf ds=some is→vs=is.map V.int
 | [],vs,is,r,e=>by rw[Reps]at r;cases e;exact r
 | d::ds,vs,is,r,e=>by
  rw[Reps]at r
  obtain⟨v,r',rfl,h1,h2⟩:=r
  cases d with
  | int i =>
   rw[intsOf]at e
   cases q:intsOf ds with
   | none=>rw[q]at e;cases e
   | some is' =>
    rw[q]at e
    cases e
    rw[Rep]at h1
    rw[h1,eI h2 q]
    rfl
  | _=>simp[intsOf]at e
theorem ck:∀ {is:List Int} {us:List Value},Vals (is.map V.int) us→∃ ps:List (Int×Tok),us=ps.map (fun p=>Value.int p.1 p.2)∧ps.map (·.1)=is
 | [],us,h=>by rw[List.map_nil]at h;cases h;exact⟨[],rfl,rfl⟩
 | i::is,us,h=>by
  rw[List.map_cons]at h
  cases h with
  | cons r t =>
   obtain⟨tk,e⟩:=(show ∃ t,_=Value.int i t from r)
   obtain⟨ps,e2,e3⟩:=ck t
   exact⟨(i,tk)::ps,by rw[e,e2];rfl,by rw[← e3];rfl⟩
section
variable {X:Cx}
end
section
variable {X:Cx}{F:Fx}{p pos:Pos}{e:Expr}{gs:SS→R (List D)}{k:Nat}
end
theorem oA {X:Cx}{pins:List (Addr×Obj)}{σ:St}{H:Hp}{s:Shared}(I:Inv X pins σ H s){A:Around}(hu:A.units < cLine)(b k:Int)(t t':Tok):SeqAt.EqAt A s (.int b t) (.int k t') (b==k) :=
 fK (K:=X.K) (C:=fun _=>0) (Z:=fun _=>none) rfl I (fun _ _ e=>nomatch e) 0 A (.int b) (.int k) (.int b) (.int k) _ _ rfl rfl aH aH ⟨t,rfl⟩ ⟨t',rfl⟩ (by omega)
def isI (k:Int):Value→Bool
 | .int b _=>b==k
 | _=>false
section
variable {X:Cx}{F:Fx}{o e:Expr}{g:SS→R D}{gs:SS→R (List D)}{apos cpos:Pos}{k:Nat}
theorem sj {K:PySem.W.Frag}{C:Nat→Addr}{Z:Hp}{k:Int}{vs:List V}(r:Reps K C Z [.int k] vs):vs=[.int k]:=by
 obtain⟨v,rfl,h⟩:=bp r
 rw[Rep]at h
 rw[h]
end
end FF
namespace HT
open PySem PyProof.Rows
theorem ez {prog:Program}{w:World}{A:Around}{E:Value→Shared→Prop}{s:Shared}{t sl:Addr}{items:Array Value}{vl vu:Value}{lo hi:Option Int}{Q:Value→Shared→Prop}(ht:IsTup s.heap t items)(hs:s.heap.IsSliceOf sl vl vu .none)(pl:IsPart vl lo)(pu:IsPart vu hi)
  (hw:sIx items.size 0 lo=0∧sIx items.size items.size hi=items.size) (h:Q (.ref t) s):wpAny (model prog w) A (getItem (.ref t) (.ref sl)) Q E s:=by
 obtain⟨os,hos,hcs,hds⟩:=id hs
 have hTs:s.TypeIs (.ref sl) "slice" := ⟨os,hos,hcs⟩
 unfold getItem
 try with_reducible refine wpAny_holding ?_
 first | refine wpAny_bind (wpAny_pure ?_) | skip
 refine wpAny_bind (wpAny_sequenceKey ht.typeIs (by decide) ?_)
 refine wpAny_bind (wpAny_callSpecial?_slot (name:=Str.ofString "__getitem__") ht.typeIs PyProof.Rows.slot_tuple_getitem
  (wpAny_call_entry PyProof.Rows.slot_tuple_getitem ht.typeIs entry_tuple_getitem ?_ (args_tuple_getitem _ _)))
 show wpAny _ _ (Builtin.Tuple.tupleItemsOf (.ref t) >>= _) _ _ s
 refine wpAny_bind (tupleItemsOf_ ht ?_)
 refine wpAny_bind (wpAny_typeOf hTs ?_)
 rw[if_pos (by decide)]
 refine wpAny_bind (c5 hs pl pu ?_)
 rw[hw.1,hw.2]
 show wpAny _ _ (if (((0:Nat):Int)==0&&(1:Int)==1&&(items.size - 0)==items.size)=true then _ else _) _ _ s
 rw[if_pos (by simp)]
 unfold Builtin.Tuple.tupleIsExact
 refine wpAny_bind (wpAny_bind (wpAny_typeOf ht.typeIs (wpAny_pure ?_)))
 rw[if_pos (by decide)]
 exact wpAny_bind (wpAny_rule (wpAny_pure ⟨_,rfl,wpAny_pure h⟩))
end HT
namespace FF
open PySem PySem.Spec PyProof.Rows L2
def rSlW (K:PySem.W.Frag):V→Option Int→Option Int→Hp→VK→Prop:=fun x lo hi H Q=>∃ a xs,x=.ref a∧SqT K H a xs∧(HT.sIx xs.length 0 lo=0∧HT.sIx xs.length xs.length hi=xs.length)∧Q (.ref a) H
theorem sk {X:Cx}:SlR X (rSlW X.K):=by
 intro pins s σ H x v vl vu lo hi sl Q I rx hs pl pu h
 obtain⟨a,xs,rfl,hx,hw,q⟩:=h
 cases rx
 obtain⟨its,r,ht,hz⟩:=I.tuple hx
 have hlen:its.toArray.size=xs.length:=by rw[List.size_toArray];exact r.length.symm
 refine⟨"tuple",_,PyProof.Rows.slot_tuple_getitem.lookup,ht.typeIs,?_⟩
 refine HT.ez ht hs pl pu (by rw[hlen];exact hw) ?_
 exact⟨.ref a,H,I,rfl,q⟩
theorem oB {xs:List D}{lo hi:Option Int}(h:HT.sIx xs.length 0 lo=0∧HT.sIx xs.length xs.length hi=xs.length):cutD xs lo hi=xs:=by
 unfold cutD
 rw[h.1,h.2,List.drop_zero,Nat.sub_zero,List.take_length]
section
variable {X:Cx}{F:Fx}{e:Expr}{lo hi:Option Expr}{g:SS→R D}{l h:SS→R (Option Int)}{pos p2:Pos}
theorem iv (hK:X.K=F.K)(he:FE X F e g)(hl:PO X lo (tP F l))(hh:PO X hi (tP F h)):FE X F (.Subscript e (.Slice lo hi none p2) pos) (eSw g l h) :=
 (pH (rM.or (uq.or sk)) he hl hh).weak fun σ H Q ⟨Z,S,ok,w⟩=>aF ok w fun d v H1 Z1 ok1 x1 rv w1=>nC ok1 w1 fun o H2 Z2 ok2 x2 w2=>nC ok2 w2 fun o' H3 Z3 ok3 x3 w3=>by
  have rv3:=rv.mono (x2.z.trans x3.z)
  cases d with
  | lst ds =>
   rw[Rep]at rv3
   obtain⟨a,vs,rfl,h1,h2⟩:=rv3
   refine .inl ⟨a,vs,rfl,by rw[hK];exact ok3.sub.seq h1,fun p hp=>?_⟩
   have z:Same Z3 (upd Z3 p (.lst (cutV vs o o'))):=aC (ok3.sub.free hp)
   exact w3 _ _ (Ex.alloc ok3.sub hp) _ (by rw[Rep];exact⟨p,_,rfl,SqL.of ap,(h2.cut o o').mono z⟩)
  | tup ds =>
   have rv4:=rv3
   rw[Rep]at rv3
   obtain⟨a,vs,rfl,h1,h2⟩:=rv3
   have w4:WG F H3 Z3 (R.ok (FF.D.tup (cutD ds o o'))) _:=w3
   by_cases hw:HT.sIx ds.length 0 o=0∧HT.sIx ds.length ds.length o'=ds.length
   ·refine .inr (.inr ⟨a,vs,rfl,by rw[hK];exact h1.mono ok3.sub,by rw[← h2.length];exact hw,?_⟩)
    rw[oB hw]at w4
    exact WG.now w4 ok3.sub _ rv4
   ·refine .inr (.inl ⟨a,vs,rfl,by rw[hK];exact h1.mono ok3.sub,by rw[← h2.length];exact hw,fun p hp=>?_⟩)
    have z:Same Z3 (upd Z3 p (.tup (cutV vs o o'))):=aC (ok3.sub.free hp)
    exact w4 _ _ (Ex.alloc ok3.sub hp) _ (by rw[Rep];exact⟨p,_,rfl,SqT.of ap,(h2.cut o o').mono z⟩)
  | _=>exact w3.elim
end
theorem R.bind_assoc {α β γ:Type}(r:R α)(f:α→R β)(g:β→R γ):(r.bind f).bind g=r.bind fun x=>(f x).bind g:=by cases r<;>rfl
theorem so (i j:Nat){X:Cx}{F:Fx}{x y:Str}{p1 p2 tp pos pt2:Pos}{k k2:_}{n:Nat}{a b:Expr}{gs:SS→R (List D)}(bx:BX X F n)(hN:X.N.Nodup)(ha:FA X F [a,b] gs)(hij:i≠j:=by decide)(hi:X.N[i]?=some x:=by rfl)(hj:X.N[j]?=some y:=by rfl)
  (hx:X.env.scope.names.lookup x=some .local:=by rfl) (hy:X.env.scope.names.lookup y=some .local:=by rfl)
  (hw:swappedStores [.Tuple [.Name x p1,.Name y p2] k tp] (.Tuple [a,b] k2 pt2) X.env=pure (some [x,y]):=by rfl) (hs:swapsWithSole [.Tuple [.Name x p1,.Name y p2] k tp] (.Tuple [a,b] k2 pt2) pos.line X.env=pure false:=by rfl) :
  FS X F (.Assign [.Tuple [.Name x p1,.Name y p2] k tp] (.Tuple [a,b] k2 pt2) pos) (sAsg (gTup [i,j]) (eTup gs)) :=
 (ug bx.calm hN hi hj hij hx hy ha hw hs).weak fun D σ H ⟨Z,S,ok,w⟩=>by
  have w0:WG F H Z ((gs S).bind fun ds=>(if ds.length≤16777216 then R.ok (FF.D.tup ds) else R.stuck).bind fun d=>(gTup [i,j] d S).bind fun S1=>R.ok (O.nx S1)) fun o _ Z'=>WO F Z' o D:=by
   rw[← R.bind_assoc]
   exact WO.wg ok w
  refine bf ok w0 fun ds vs H1 Z1 ok1 x1 rs w1=>?_
  split at w1
  ·have w2:WG F H1 Z1 (R.bind (if ds.length=2 then R.ok (setAll [i,j] ds S) else R.stuck) fun S1=>R.ok (O.nx S1)) fun o _ Z'=>WO F Z' o D:=w1
   split at w2
   ·rename_i hl
    match ds,hl,rs with
    | [d1,d2],_,h2 =>
     rw[Reps]at h2
     obtain⟨v1,r,rfl,q1,h2⟩:=h2
     rw[Reps]at h2
     obtain⟨v2,r,rfl,q2,h2⟩:=h2
     rw[Reps]at h2
     subst h2
     refine⟨v1,v2,rfl,?_⟩
     have w3:=WG.now w2 ok1.sub
     exact w3 _ _ _ (Same.refl _) ((ok1.setVal (i:=i) q1).setVal (i:=j) q2)
   ·exact w2.elim
  ·exact w1.elim
end FF
end
noncomputable section
namespace FF
open PySem L2
def sameK:D→D→Bool
 | .tup _,.tup _=>true
 | .int _,.int _=>true
 | _,_=>false
def dInI (x y:D):R D:=match x,y with
 | .int i,.tup ds=>match intsOf ds with
  | some is=>.ok (.bl (is.any (· == i)))
  | none=>.stuck
 | _,_=>.stuck
def dIndexI (xs es:List D):R D:=match es with
 | [.int k]=>match intsOf xs with
  | some is=>if is.idxOf k < is.length then .ok (.int (is.idxOf k:Nat)) else .stuck
  | none=>.stuck
 | _=>.stuck
def eOwnIx (i:Nat)(g:SS→R D):SS→R D:=fun S=>match S[i]? with
 | some (some (.own ds))=>(g S).bind fun k=>match k with
  | .int j=>match atI ds j with
   | some d=>.ok d
   | none=>.stuck
  | _=>.stuck
 | _=>.stuck
end FF
end
noncomputable section
namespace PySem.SeqAt
open AutoSeq1 (wpAny_loadPart')
open MeetsSeq MeetsSeq2 MeetsSeq3 SeqRoads2
end PySem.SeqAt
namespace FF
open PySem PySem.Spec PyProof.Rows L2
section
variable {X:Cx}{F:Fx}{a b:Expr}{ga gb:SS→R D}{pos:Pos}{k:Nat}
end
section
variable {X:Cx}{F:Fx}{a b:Expr}{ga gb:SS→R D}{pos:Pos}{k:Nat}
end
section
variable {X:Cx}{F:Fx}{o e:Expr}{g:SS→R D}{gs:SS→R (List D)}{apos cpos:Pos}{k:Nat}
end
section
variable {X:Cx}{F:Fx}{pos p:Pos}{k:Nat}{gs:SS→R (List D)}{g ge:SS→R D}{e ei:Expr}{x:Str}
theorem qk (i:Nat){p0:Pos}(hK:X.K=F.K)(he:FE X F e g)(hs:PlainIx e:=by intro _ _;rfl)(hi:X.N[i]?=some x:=by rfl)(hv:Vis X.env.scope x:=by first | exact Or.inl rfl | exact Or.inr (Or.inl rfl) | exact Or.inr (Or.inr rfl))(hd:(x==("__debug__":Str))=false:=by decide)
  (hcd:(x==("__classdict__":Str))=false:=by decide):FE X F (.Subscript (.Name x p0) e pos) (eOwnIx i g) :=
 (tK nq (g7 hi hv hd hcd) he hs).weak fun σ H Q ⟨Z,S,ok,w⟩=>by
  unfold eOwnIx at w
  split at w
  ·rename_i ds e0
   obtain⟨a,vs,e1,e2,e3,e4,r⟩:=ok.own i ds e0
   refine⟨.ref a,e1,aF ok w fun d v H1 Z1 ok1 x1 rv w1=>?_⟩
   cases d with
   | int j =>
    rw[Rep]at rv
    have w2:WG F H1 Z1 (match atI ds j with | some d=>R.ok d | none=>R.stuck) _:=w1
    cases q:atI ds j with
    | none=>rw[q]at w2;exact w2.elim
    | some d =>
     rw[q]at w2
     obtain⟨v',f1,f2⟩:=(r.mono x1.z).at q
     exact⟨a,vs,j,v',rfl,rv,SqL.of (x1.same _ _ e2),f1,WG.now w2 ok1.sub _ f2⟩
   | _=>exact w1.elim
  ·exact w.elim
end
end FF
end
noncomputable section
namespace FF
open PySem PySem.Spec PyProof.Rows L2
def dNf (x y:D):R D:=if good 60 x=true∧good 60 y=true then .ok (.bl (!eqD x y)) else .stuck
theorem sr {X:Cx}{pins:List (Addr×Obj)}{σ:St}{H Z:Hp}{s:Shared}{K:PySem.W.Frag}{C:Nat→Addr}(hK:X.K=K)(I:Inv X pins σ H s)(z:Same Z H)(n:Nat)(A:Around)(d e:D)(v u:V)(x y:Value)(g1:good n d=true)(g2:good n e=true)
  (h:Rep K C Z d v) (h':Rep K C Z e u) (rx:RelV v x) (ry:RelV u y) (hu:A.units+n < cLine):SeqAt.RcNeAt A s x y (!eqD d e):=by
 have hu0:A.units < cLine:=by omega
 cases d with
 | exc k=>cases n<;>simp[good]at g1
 | fn k=>cases n<;>simp[good]at g1
 | tup ds =>
  cases n with
  | zero=>simp[good]at g1
  | succ n =>
   have in1:A.in1.units+n < cLine:=by show A.units+1+n < cLine;omega
   rw[Rep]at h
   obtain⟨a,vs,rfl,h1,h2⟩:=h
   cases rx
   obtain⟨its,r,p,_⟩:=I.tuple (by rw[hK];exact h1.mono z:SqT X.K H a vs)
   have p':s.heap.IsTuple a its.toArray:=p
   cases e with
   | tup es =>
    rw[Rep]at h'
    obtain⟨b,us,rfl,k1,k2⟩:=h'
    cases ry
    obtain⟨its2,r2,p2,_⟩:=I.tuple (by rw[hK];exact k1.mono z:SqT X.K H b us)
    have p2':s.heap.IsTuple b its2.toArray:=p2
    rw[good]at g1 g2
    have q:=SeqAt.RcNeAt.tuples (A:=A) (e:=fun j=>eqD (ds.getD j .non) (es.getD j .non)) p' p2' hu0 fun j j1 j2=>by
     have j1':j < its.length:=by simpa using j1
     have j2':j < its2.length:=by simpa using j2
     have l1:j < ds.length:=by rw[h2.length,r.length];exact j1'
     have l2:j < es.length:=by rw[k2.length,r2.length];exact j2'
     have e1:ds[j]?=some ds[j]:=by simp
     have e2:es[j]?=some es[j]:=by simp
     obtain⟨w1,f1,f2⟩:=h2.get e1
     obtain⟨w2,f3,f4⟩:=k2.get e2
     obtain⟨z1,m1,m2⟩:=r.get f1
     obtain⟨z2,m3,m4⟩:=r2.get f3
     have n1:its.toArray[j]=z1:=by simpa [j1'] using m1
     have n2:its2.toArray[j]=z2:=by simpa [j2'] using m3
     rw[n1,n2]
     have g3:ds.getD j .non=ds[j]:=by simp[l1]
     have g4:es.getD j .non=es[j]:=by simp[l2]
     rw[g3,g4]
     exact fK hK I z n A.in1 _ _ w1 w2 z1 z2 (aI g1 e1) (aI g2 e2) f2 f4 m2 m4 in1
    rw[eqD,cw]
    have s1:its.toArray.size=ds.length:=by rw[List.size_toArray,h2.length,r.length]
    have s2:its2.toArray.size=es.length:=by rw[List.size_toArray,k2.length,r2.length]
    rw[s1,s2]at q
    exact q
   | lst es =>
    rw[Rep]at h'
    obtain⟨b,us,rfl,k1,k2⟩:=h'
    cases ry
    obtain⟨its2,r2,p2,_⟩:=I.list (by rw[hK];exact z.seq k1:SqL X.K H b us)
    simp only[eqD,Bool.not_false,Bool.not_true]
    exact SeqAt.RcNeAt.tuple_list p' p2.isList hu0
   | exc k=>simp[good]at g2
   | fn k=>simp[good]at g2
   | non=>rw[Rep]at h';subst h';cases ry;simp only[eqD,Bool.not_false,Bool.not_true];exact SeqAt.RcNeAt.tuple_none p' hu0
   | bl b=>rw[Rep]at h';subst h';cases ry;simp only[eqD,Bool.not_false,Bool.not_true];exact SeqAt.RcNeAt.tuple_bool _ p' hu0
   | int b=>rw[Rep]at h';subst h';obtain⟨t,rfl⟩:=ry;simp only[eqD,Bool.not_false,Bool.not_true];exact SeqAt.RcNeAt.tuple_int _ _ p' hu0
   | str b=>rw[Rep]at h';subst h';obtain⟨t,rfl⟩:=ry;simp only[eqD,Bool.not_false,Bool.not_true];exact SeqAt.RcNeAt.tuple_str _ _ p' hu0
 | lst ds =>
  cases n with
  | zero=>simp[good]at g1
  | succ n =>
   have in1:A.in1.units+n < cLine:=by show A.units+1+n < cLine;omega
   rw[Rep]at h
   obtain⟨a,vs,rfl,h1,h2⟩:=h
   cases rx
   obtain⟨its,r,p,_⟩:=I.list (by rw[hK];exact z.seq h1:SqL X.K H a vs)
   have p':=p.isList
   cases e with
   | lst es =>
    rw[Rep]at h'
    obtain⟨b,us,rfl,k1,k2⟩:=h'
    cases ry
    obtain⟨its2,r2,p2,_⟩:=I.list (by rw[hK];exact z.seq k1:SqL X.K H b us)
    have p2':=p2.isList
    rw[good]at g1 g2
    have s1:its.toArray.size=ds.length:=by rw[List.size_toArray,h2.length,r.length]
    have s2:its2.toArray.size=es.length:=by rw[List.size_toArray,k2.length,r2.length]
    rw[eqD,cw]
    by_cases hsz:ds.length=es.length
    ·have q:=SeqAt.RcNeAt.lists (A:=A) (e:=fun j=>eqD (ds.getD j .non) (es.getD j .non)) p' p2' (by rw[s1,s2];exact hsz) hu0 fun j j1 j2=>by
      have j1':j < its.length:=by simpa using j1
      have j2':j < its2.length:=by simpa using j2
      have l1:j < ds.length:=by rw[h2.length,r.length];exact j1'
      have l2:j < es.length:=by rw[k2.length,r2.length];exact j2'
      have e1:ds[j]?=some ds[j]:=by simp
      have e2:es[j]?=some es[j]:=by simp
      obtain⟨w1,f1,f2⟩:=h2.get e1
      obtain⟨w2,f3,f4⟩:=k2.get e2
      obtain⟨z1,m1,m2⟩:=r.get f1
      obtain⟨z2,m3,m4⟩:=r2.get f3
      have n1:its.toArray[j]=z1:=by simpa [j1'] using m1
      have n2:its2.toArray[j]=z2:=by simpa [j2'] using m3
      rw[n1,n2]
      have g3:ds.getD j .non=ds[j]:=by simp[l1]
      have g4:es.getD j .non=es[j]:=by simp[l2]
      rw[g3,g4]
      exact fK hK I z n A.in1 _ _ w1 w2 z1 z2 (aI g1 e1) (aI g2 e2) f2 f4 m2 m4 in1
     rw[s1]at q
     rw[hsz,Nat.min_self,beq_self_eq_true,Bool.and_true,← hsz]
     exact q
    ·have q:=SeqAt.RcNeAt.lists_lengths (A:=A) p' p2' (by rw[s1,s2];simpa using hsz) hu0
     rw[show (ds.length==es.length)=false by simpa using hsz,Bool.and_false]
     exact q
   | tup es =>
    rw[Rep]at h'
    obtain⟨b,us,rfl,k1,k2⟩:=h'
    cases ry
    obtain⟨its2,r2,p2,_⟩:=I.tuple (by rw[hK];exact k1.mono z:SqT X.K H b us)
    simp only[eqD,Bool.not_false,Bool.not_true]
    exact SeqAt.RcNeAt.list_tuple p' (show s.heap.IsTuple b its2.toArray from p2) hu0
   | exc k=>simp[good]at g2
   | fn k=>simp[good]at g2
   | non=>rw[Rep]at h';subst h';cases ry;simp only[eqD,Bool.not_false,Bool.not_true];exact SeqAt.RcNeAt.list_none p' hu0
   | bl b=>rw[Rep]at h';subst h';cases ry;simp only[eqD,Bool.not_false,Bool.not_true];exact SeqAt.RcNeAt.list_bool _ p' hu0
   | int b=>rw[Rep]at h';subst h';obtain⟨t,rfl⟩:=ry;simp only[eqD,Bool.not_false,Bool.not_true];exact SeqAt.RcNeAt.list_int _ _ p' hu0
   | str b=>rw[Rep]at h';subst h';obtain⟨t,rfl⟩:=ry;simp only[eqD,Bool.not_false,Bool.not_true];exact SeqAt.RcNeAt.list_str _ _ p' hu0
 | non =>
  rw[Rep]at h;subst h;cases rx
  cases e with
  | tup es =>
   rw[Rep]at h'
   obtain⟨b,us,rfl,k1,k2⟩:=h'
   cases ry
   obtain⟨its2,r2,p2,_⟩:=I.tuple (by rw[hK];exact k1.mono z:SqT X.K H b us)
   simp only[eqD,Bool.not_false,Bool.not_true];exact SeqAt.RcNeAt.none_tuple (show s.heap.IsTuple b its2.toArray from p2) hu0
  | lst es =>
   rw[Rep]at h'
   obtain⟨b,us,rfl,k1,k2⟩:=h'
   cases ry
   obtain⟨its2,r2,p2,_⟩:=I.list (by rw[hK];exact z.seq k1:SqL X.K H b us)
   simp only[eqD,Bool.not_false,Bool.not_true];exact SeqAt.RcNeAt.none_list p2.isList hu0
  | exc k=>cases n<;>simp[good]at g2
  | fn k=>cases n<;>simp[good]at g2
  | non=>rw[Rep]at h';subst h';cases ry;simp only[eqD,Bool.not_false,Bool.not_true];exact SeqAt.RcNeAt.none_none
  | bl b=>rw[Rep]at h';subst h';cases ry;simp only[eqD,Bool.not_false,Bool.not_true];exact SeqAt.RcNeAt.none_bool _
  | int b=>rw[Rep]at h';subst h';obtain⟨t,rfl⟩:=ry;simp only[eqD,Bool.not_false,Bool.not_true];exact SeqAt.RcNeAt.none_int _ _
  | str b=>rw[Rep]at h';subst h';obtain⟨t,rfl⟩:=ry;simp only[eqD,Bool.not_false,Bool.not_true];exact SeqAt.RcNeAt.none_str _ _
 | bl a =>
  rw[Rep]at h;subst h;cases rx
  cases e with
  | tup es =>
   rw[Rep]at h'
   obtain⟨b,us,rfl,k1,k2⟩:=h'
   cases ry
   obtain⟨its2,r2,p2,_⟩:=I.tuple (by rw[hK];exact k1.mono z:SqT X.K H b us)
   simp only[eqD,Bool.not_false,Bool.not_true];exact SeqAt.RcNeAt.bool_tuple _ (show s.heap.IsTuple b its2.toArray from p2) hu0
  | lst es =>
   rw[Rep]at h'
   obtain⟨b,us,rfl,k1,k2⟩:=h'
   cases ry
   obtain⟨its2,r2,p2,_⟩:=I.list (by rw[hK];exact z.seq k1:SqL X.K H b us)
   simp only[eqD,Bool.not_false,Bool.not_true];exact SeqAt.RcNeAt.bool_list _ p2.isList hu0
  | exc k=>cases n<;>simp[good]at g2
  | fn k=>cases n<;>simp[good]at g2
  | non=>rw[Rep]at h';subst h';cases ry;simp only[eqD,Bool.not_false,Bool.not_true];exact SeqAt.RcNeAt.bool_none _
  | bl b=>rw[Rep]at h';subst h';cases ry;simp only[eqD,Bool.not_false,Bool.not_true];exact SeqAt.RcNeAt.bool_bool _ _
  | int b=>rw[Rep]at h';subst h';obtain⟨t,rfl⟩:=ry;simp only[eqD,Bool.not_false,Bool.not_true];exact SeqAt.RcNeAt.bool_int _ _ _
  | str b=>rw[Rep]at h';subst h';obtain⟨t,rfl⟩:=ry;simp only[eqD,Bool.not_false,Bool.not_true];exact SeqAt.RcNeAt.bool_str _ _ _
 | int a =>
  rw[Rep]at h;subst h;obtain⟨t0,rfl⟩:=rx
  cases e with
  | tup es =>
   rw[Rep]at h'
   obtain⟨b,us,rfl,k1,k2⟩:=h'
   cases ry
   obtain⟨its2,r2,p2,_⟩:=I.tuple (by rw[hK];exact k1.mono z:SqT X.K H b us)
   simp only[eqD,Bool.not_false,Bool.not_true];exact SeqAt.RcNeAt.int_tuple _ _ (show s.heap.IsTuple b its2.toArray from p2) hu0
  | lst es =>
   rw[Rep]at h'
   obtain⟨b,us,rfl,k1,k2⟩:=h'
   cases ry
   obtain⟨its2,r2,p2,_⟩:=I.list (by rw[hK];exact z.seq k1:SqL X.K H b us)
   simp only[eqD,Bool.not_false,Bool.not_true];exact SeqAt.RcNeAt.int_list _ _ p2.isList hu0
  | exc k=>cases n<;>simp[good]at g2
  | fn k=>cases n<;>simp[good]at g2
  | non=>rw[Rep]at h';subst h';cases ry;simp only[eqD,Bool.not_false,Bool.not_true];exact SeqAt.RcNeAt.int_none _ _
  | bl b=>rw[Rep]at h';subst h';cases ry;simp only[eqD,Bool.not_false,Bool.not_true];exact SeqAt.RcNeAt.int_bool _ _ _
  | int b=>rw[Rep]at h';subst h';obtain⟨t,rfl⟩:=ry;simp only[eqD,Bool.not_false,Bool.not_true];exact SeqAt.RcNeAt.int_int _ _ _ _
  | str b=>rw[Rep]at h';subst h';obtain⟨t,rfl⟩:=ry;simp only[eqD,Bool.not_false,Bool.not_true];exact SeqAt.RcNeAt.int_str _ _ _ _
 | str a =>
  rw[Rep]at h;subst h;obtain⟨t0,rfl⟩:=rx
  cases e with
  | tup es =>
   rw[Rep]at h'
   obtain⟨b,us,rfl,k1,k2⟩:=h'
   cases ry
   obtain⟨its2,r2,p2,_⟩:=I.tuple (by rw[hK];exact k1.mono z:SqT X.K H b us)
   simp only[eqD,Bool.not_false,Bool.not_true];exact SeqAt.RcNeAt.str_tuple _ _ (show s.heap.IsTuple b its2.toArray from p2) hu0
  | lst es =>
   rw[Rep]at h'
   obtain⟨b,us,rfl,k1,k2⟩:=h'
   cases ry
   obtain⟨its2,r2,p2,_⟩:=I.list (by rw[hK];exact z.seq k1:SqL X.K H b us)
   simp only[eqD,Bool.not_false,Bool.not_true];exact SeqAt.RcNeAt.str_list _ _ p2.isList hu0
  | exc k=>cases n<;>simp[good]at g2
  | fn k=>cases n<;>simp[good]at g2
  | non=>rw[Rep]at h';subst h';cases ry;simp only[eqD,Bool.not_false,Bool.not_true];exact SeqAt.RcNeAt.str_none _ _
  | bl b=>rw[Rep]at h';subst h';cases ry;simp only[eqD,Bool.not_false,Bool.not_true];exact SeqAt.RcNeAt.str_bool _ _ _
  | int b=>rw[Rep]at h';subst h';obtain⟨t,rfl⟩:=ry;simp only[eqD,Bool.not_false,Bool.not_true];exact SeqAt.RcNeAt.str_int _ _ _ _
  | str b=>rw[Rep]at h';subst h';obtain⟨t,rfl⟩:=ry;simp only[eqD,Bool.not_false,Bool.not_true];exact SeqAt.RcNeAt.str_str _ _ _ _
def rNf (K:PySem.W.Frag)(C:Nat→Addr):R2:=fun x y H Q=>∃ Z d e,Same Z H∧Rep K C Z d x∧Rep K C Z e y∧good 60 d=true∧good 60 e=true∧Q (.bl (!eqD d e)) H
section
variable {X:Cx}{F:Fx}{a b:Expr}{ga gb:SS→R D}{pos:Pos}{k:Nat}
theorem ve (hK:X.K=F.K)(hr:Room k X.A):OpR X (compareOp .NotEq) (rNf F.K F.C):=by
 intro pins s σ H x y v u Q I rx ry h
 obtain⟨Z,d,e,z,h1,h2,g1,g2,q⟩:=h
 have hu:X.A.units+60 < cLine:=by have:=hr.un;omega
 exact sr hK I z 60 X.A d e x y v u g1 g2 h1 h2 rx ry hu X.prog X.w X.xe _ ⟨.bl (!eqD d e),H,I,rfl,q⟩
theorem uK:OpD F (rNf F.K F.C) dNf:=by
 intro H Z x y dx dy Q s rx ry w
 unfold dNf at w
 split at w
 ·rename_i g
  exact⟨Z,dx,dy,s,rx,ry,g.1,g.2,WG.now w s _ bn⟩
 ·exact w.elim
theorem cK (bx:BX X F k)(ha:FE X F a ga)(hb:FE X F b gb):FT X F (.Compare a [.NotEq] [b] pos) (gB (eOp dNf ga gb)):=hJ (ve bx.K bx.room) uK ha hb
end
def qEx (es:List Nat)(i:Nat):D→Option Bool
 | .exc j=>if es.contains j=true then some (i==j||i==0) else none
 | _=>none
def qVx (es:List Nat):D→Option Bool
 | .exc j=>if es.contains j=true then some true else none
 | _=>none
def qTk (es:List Nat)(j:Nat):Bool:=es.contains j
theorem cT {K:PySem.W.Frag}{C:Nat→Addr}{es:List Nat}{i:Nat}(h:∀ j∈es,PySem.W.kitOne K (.ref (C j)) (.ref (C i))=some (i==j||i==0))(hx:∀ j∈es,ExcK K (C j)):IsA K C (.ref (C i)) (qEx es i):=by
 refine⟨.inr ⟨_,rfl⟩,fun d b e=>?_,fun j b e=>?_,fun _=>rfl⟩
 ·cases d with
  | exc j =>
   have e':(if es.contains j=true then some (i==j||i==0) else none)=some b:=e
   by_cases hj:es.contains j=true
   ·rw[if_pos hj]at e'
    cases e'
    exact h j (by simpa using hj)
   ·rw[if_neg hj]at e';cases e'
  | _=>cases e
 ·have e':(if es.contains j=true then some (i==j||i==0) else none)=some b:=e
  by_cases hj:es.contains j=true
  ·exact hx j (by simpa using hj)
  ·rw[if_neg hj]at e';cases e'
theorem uL {K:PySem.W.Frag}{C:Nat→Addr}{es:List Nat}(h:∀ j∈es,PySem.W.kitOne K (.ref (C j)) (.type "ValueError")=some true)(hx:∀ j∈es,ExcK K (C j)):IsA K C (.ty "ValueError") (qVx es):=by
 refine⟨.inl ⟨_,rfl⟩,fun d b e=>?_,fun j b e=>?_,fun _=>rfl⟩
 ·cases d with
  | exc j =>
   have e':(if es.contains j=true then some true else none)=some b:=e
   by_cases hj:es.contains j=true
   ·rw[if_pos hj]at e'
    cases e'
    exact h j (by simpa using hj)
   ·rw[if_neg hj]at e';cases e'
  | _=>cases e
 ·have e':(if es.contains j=true then some true else none)=some b:=e
  by_cases hj:es.contains j=true
  ·exact hx j (by simpa using hj)
  ·rw[if_neg hj]at e';cases e'
theorem ql {K:PySem.W.Frag}{C:Nat→Addr}{es:List Nat}(h:PySem.W.excIn K (C 0) bmVE "ValueError.__new__"=true)(hs:∀ j∈es,PySem.W.subIn K (.ref (C j)) (.ref (C 0))=some true):Takes K C (C 0) (qTk es) :=
 ⟨h,fun k e=>hs k (by simpa [qTk] using e)⟩
def rIndexI (K:PySem.W.Frag):V→List V→Hp→VK→Prop:=fun x vs H Q=>∃ (l:Addr) (is:List Int) (k:Int),x=.ref l∧vs=[.int k]∧SqL K H l (is.map V.int)∧is.idxOf k < is.length∧Q (.int (is.idxOf k:Nat)) H
theorem oC {X:Cx}{k:Nat}(hr:Room k X.A):MtR X "list.index" (rIndexI X.K):=by
 intro pins s σ H x vs v us Q I rx rv h
 obtain⟨l,is,k,rfl,rfl,hH,hj,q⟩:=h
 cases rx
 obtain⟨u,rfl,ru⟩:=rv.one
 obtain⟨tk,rfl⟩:=(show ∃ t,u=Value.int k t from ru)
 obtain⟨its,r,⟨⟨c2,d2,dt2,sl2⟩,n2,e2,p2,p3,p4⟩,z2⟩:=I.list hH
 obtain⟨ps,rfl,e⟩:=ck r
 simp only at p2 p3 p4
 subst p2 p3 p4
 have hl:ps.length=is.length:=by have:=congrArg List.length e;simpa using this
 rw[List.length_map,sizeLine_eq]at z2
 have hsz:is.idxOf k < (ps.map fun p=>Value.int p.1 p.2).toArray.size:=by rw[List.size_toArray,List.length_map,hl];exact hj
 have hat:∀ m (hm:m < (ps.map fun p=>Value.int p.1 p.2).toArray.size) (hm':m < is.length),isI k (ps.map fun p=>Value.int p.1 p.2).toArray[m]=(is[m]==k):=fun m hm hm'=>by
  subst e
  simp[isI]
 refine call_meets F.slot_list_index ⟨_,e2,rfl⟩ F.entry_list_index (F.args_list_index_2 _ _) (SeqAt.list_indexAt l _ n2 _ _ (.int k tk) (isI k) (is.idxOf k) hsz (by omega) ?_ ?_) ⟨e2,fun y hy=>?_,⟨.int _,H,I.tok _,⟨_,rfl⟩,q⟩⟩
 ·rw[hat _ _ hj]
  exact List.findIdx_getElem (w:=hj)
 ·intro m hm hlt
  have hm':m < is.length:=by omega
  rw[hat _ _ hm']
  exact Bool.eq_false_iff.mpr (by simpa using List.not_of_lt_findIdx hlt)
 ·have hy':y∈ps.map fun p=>Value.int p.1 p.2:=by simpa using hy
  obtain⟨b,_,rfl⟩:=List.mem_map.mp hy'
  exact oA I (by have:=hr.un;show X.A.units+1 < cLine;omega) b.1 k b.2 tk
section
variable {X:Cx}{F:Fx}{o e:Expr}{g:SS→R D}{gs:SS→R (List D)}{apos cpos:Pos}{k:Nat}
theorem km:MethD F (rIndexI F.K) dIndexI:=by
 intro H Z a vs xs us es Q s h1 h2 rs w
 unfold dIndexI at w
 split at w
 ·rename_i k
  split at w
  ·rename_i is eb
   have e3:=eI h2 eb
   subst e3
   split at w
   ·rename_i hl
    exact⟨a,is,k,rfl,sj rs,h1,hl,WG.now w s _ aH⟩
   ·exact w.elim
  ·exact w.elim
 ·exact w.elim
theorem jJ (bx:BX X F k)(ho:FE X F o g)(ha:FA X F [e] gs)
  (hbase:attributeBase o "index" X.env (eval o X.env)=eval o X.env:=by rfl)
  (hfew:((backTo cpos (starEach [e] X.env)).all (fun x=>!x.1)&&(backToKw cpos (keywordEach [] X.env)).all (fun x=>x.1.isSome)
   && decide ([e].length+([]:List Keyword).length+(if ([]:List Keyword).isEmpty then 0 else 1) < 30))=true:=by rfl)
  (hline:(apos.endLine==cpos.line)=true:=by rfl) (hs:starEach [e] X.env=(false,eval e X.env)::starEach [] X.env:=by rfl) (hplain:(backTo cpos (starEach [] X.env)).any (·.1)=false:=by rfl) :
  FE X F (.Call (.Attribute o "index" apos) [e] [] cpos) (eMethL dIndexI g gs) :=
 (kQ PySem.F.plainAttrs_list PySem.F.slot_list_index (by kernel_rfl) (oC bx.room) ho ha hbase hfew hline hs hplain).weak (by rw[bx.K];exact fP km)
end
end FF
end
noncomputable section
namespace FF
open PySem L2
inductive L (σ:Type) where
 | nx (s:σ) | rt (d:D) | er (k:Nat) | stuck
def lB {α σ:Type}(r:R α)(k:α→L σ):L σ:=match r with
 | .ok a=>k a
 | .err e=>.er e
 | .stuck=>.stuck
def lS {τ σ:Type}(l:L τ)(k:τ→L σ):L σ:=match l with
 | .nx s=>k s
 | .rt d=>.rt d
 | .er e=>.er e
 | .stuck=>.stuck
def lFor {α τ:Type}(f:τ→α→L τ):List α→τ→L τ
 | [],s=>.nx s
 | d::r,s=>lS (f s d) fun s'=>lFor f r s'
def lTry {τ σ:Type}(q:Nat→Bool)(l:L τ)(k:τ→L σ)(h:Nat→L σ):L σ:=match l with
 | .nx s=>k s
 | .rt d=>.rt d
 | .er e=>if q e=true then h e else .stuck
 | .stuck=>.stuck
def outL {σ:Type}(l:L σ):R D:=match l with
 | .nx _=>.ok .non
 | .rt d=>.ok d
 | .er k=>.err k
 | .stuck=>.stuck
section
variable {α τ σ:Type}
@[simp] theorem az (a:α)(k:α→L σ):lB (.ok a) k=k a:=rfl
@[simp] theorem qm (e:Nat)(k:α→L σ):lB (.err e) k=.er e:=rfl
@[simp] theorem vf (k:α→L σ):lB .stuck k=.stuck:=rfl
@[simp] theorem bM (s:τ)(k:τ→L σ):lS (.nx s) k=k s:=rfl
@[simp] theorem vg (d:D)(k:τ→L σ):lS (.rt d) k=.rt d:=rfl
@[simp] theorem vh (e:Nat)(k:τ→L σ):lS (.er e) k=.er e:=rfl
@[simp] theorem vi (k:τ→L σ):lS .stuck k=.stuck:=rfl
@[simp] theorem iw (f:τ→α→L τ)(s:τ):lFor f [] s=.nx s:=rfl
theorem a6 (f:τ→α→L τ)(d:α)(r:List α)(s:τ):lFor f (d::r) s=lS (f s d) fun s'=>lFor f r s':=rfl
@[simp] theorem vp (q:Nat→Bool)(s:τ)(k:τ→L σ)(h:Nat→L σ):lTry q (.nx s) k h=k s:=rfl
@[simp] theorem vq (q:Nat→Bool)(d:D)(k:τ→L σ)(h:Nat→L σ):lTry q (.rt d:L τ) k h=.rt d:=rfl
@[simp] theorem ss (q:Nat→Bool)(e:Nat)(k:τ→L σ)(h:Nat→L σ):lTry q (.er e:L τ) k h=if q e=true then h e else .stuck:=rfl
@[simp] theorem su (s:σ):outL (.nx s)=.ok .non:=rfl
@[simp] theorem nF (d:D):outL (.rt d:L σ)=.ok d:=rfl
@[simp] theorem sv (k:Nat):outL (.er k:L σ)=.err k:=rfl
end
def rAnd (a b:R Bool):R Bool:=a.bind fun c=>if c=true then b else .ok false
def rOr (a b:R Bool):R Bool:=a.bind fun c=>if c=true then .ok true else b
def rNot (a:R Bool):R Bool:=a.bind fun c=>.ok (!c)
def vAnd (a b:R D):R D:=(asB a).bind fun c=>if c=true then b else .ok (.bl false)
def vOr (a b:R D):R D:=(asB a).bind fun c=>if c=true then .ok (.bl true) else b
def vNot (a:R D):R D:=(asB a).bind fun c=>.ok (.bl (!c))
def rIf (c:R Bool)(a b:R D):R D:=c.bind fun t=>if t=true then a else b
def rCh (f f':D→D→R D)(x y:D)(w:R D):R D:=(asB (f x y)).bind fun k=>if k=true then w.bind fun w=>f' y w else .ok (.bl false)
@[simp] theorem ba (b:Bool):asB (.ok (.bl b))=.ok b:=rfl
@[simp] theorem uM (b:R Bool):rAnd (.ok true) b=b:=rfl
@[simp] theorem uN (b:R Bool):rAnd (.ok false) b=.ok false:=rfl
@[simp] theorem vj (b:R Bool):rOr (.ok true) b=.ok true:=rfl
@[simp] theorem vk (b:R Bool):rOr (.ok false) b=b:=rfl
@[simp] theorem kn (b:Bool):rNot (.ok b)=.ok (!b):=rfl
@[simp] theorem uO (b:R D):vAnd (.ok (.bl true)) b=b:=rfl
@[simp] theorem uP (b:R D):vAnd (.ok (.bl false)) b=.ok (.bl false):=rfl
@[simp] theorem vm (b:R D):vOr (.ok (.bl true)) b=.ok (.bl true):=rfl
@[simp] theorem tN (b:R D):vOr (.ok (.bl false)) b=b:=rfl
@[simp] theorem sw (b:Bool):vNot (.ok (.bl b))=.ok (.bl (!b)):=rfl
@[simp] theorem tO (a b:R D):rIf (.ok true) a b=a:=rfl
@[simp] theorem tQ (a b:R D):rIf (.ok false) a b=b:=rfl
def bA {α:Type}:List (R D)→(List D→R α)→R α
 | [],k=>k []
 | r::rs,k=>r.bind fun d=>bA rs fun ds=>k (d::ds)
def cGo (c:D→R Bool)(e:D→R D):List D→R (List D)
 | []=>.ok []
 | d::r=>match c d with
  | .ok true=>match e d with
   | .ok y=>match cGo c e r with
    | .ok ys=>.ok (y::ys)
    | _=>.stuck
   | _=>.stuck
  | .ok false=>cGo c e r
  | _=>.stuck
def cMap (e:D→R D)(xs:List D):R D:=(cGo (fun _=>.ok true) e xs).bind fun ys=>.ok (.lst ys)
def cFil (c:D→R Bool)(e:D→R D)(xs:List D):R D:=(cGo c e xs).bind fun ys=>.ok (.lst ys)
def un2 {α:Type}(d:D)(k:D→D→R α):R α:=match d with
 | .tup [a,b]=>k a b
 | _=>.stuck
def lUn2 {σ:Type}(d:D)(k:D→D→L σ):L σ:=match d with
 | .tup [a,b]=>k a b
 | _=>.stuck
def lUn3 {σ:Type}(d:D)(k:D→D→D→L σ):L σ:=match d with
 | .tup [a,b,c]=>k a b c
 | _=>.stuck
def sq (d:D):R (List D):=(asSeq d).bind fun ds=>if ds.length≤16777216 then .ok ds else .stuck
def dList:List D→R D
 | [.lst xs]=>.ok (.lst xs)
 | [.tup xs]=>.ok (.lst xs)
 | _=>.stuck
def dLenSet:List D→R D
 | [.lst xs]=>match intsOf xs with
  | some is=>if is.length≤4000 then .ok (.int (is.eraseDups.length:Nat)) else .stuck
  | none=>.stuck
 | _=>.stuck
def dRev (d:D):R D:=match d with
 | .lst xs=>.ok (.lst xs.reverse)
 | .tup xs=>.ok (.tup xs.reverse)
 | _=>.stuck
def dMin2:List D→R D
 | [.int i,.int j]=>.ok (.int (if j < i then j else i))
 | _=>.stuck
def dIntB:List D→R D
 | [.bl b]=>.ok (.int (if b then 1 else 0))
 | _=>.stuck
def onF {α:Type}(fs:List Nat)(f:D)(k:Nat→R α):R α:=match f with
 | .fn i=>if fs.contains i=true then k i else .stuck
 | _=>.stuck
def onL {α:Type}(d:D)(k:List D→R α):R α:=match d with
 | .lst xs=>k xs
 | _=>.stuck
def dNeg (d:D):R D:=match d with
 | .int i=>.ok (.int (-i))
 | _=>.stuck
def oIx (ds:List D)(i:D):R D:=match i with
 | .int j=>match atI ds j with
  | some d=>.ok d
  | none=>.stuck
 | _=>.stuck
def oApp (ds:List D)(v:D):R (List D):=if ds.length < 16777216 then .ok (ds++[v]) else .stuck
def oExt (ds:List D)(v:D):R (List D):=match v with
 | .lst xs=>if ds.length+xs.length≤16777216 then .ok (ds++xs) else .stuck
 | .tup xs=>if ds.length+xs.length≤16777216 then .ok (ds++xs) else .stuck
 | _=>.stuck
def a0 (k:L Unit):List D→R D
 | []=>outL k
 | _=>.stuck
def a1 (k:D→L Unit):List D→R D
 | [a]=>outL (k a)
 | _=>.stuck
def a2 (k:D→D→L Unit):List D→R D
 | [a,b]=>outL (k a b)
 | _=>.stuck
def a3 (k:D→D→D→L Unit):List D→R D
 | [a,b,c]=>outL (k a b c)
 | _=>.stuck
def a4 (k:D→D→D→D→L Unit):List D→R D
 | [a,b,c,d]=>outL (k a b c d)
 | _=>.stuck
def a5 (k:D→D→D→D→D→L Unit):List D→R D
 | [a,b,c,d,e]=>outL (k a b c d e)
 | _=>.stuck
end FF
end
noncomputable section
namespace FF
open PySem PySem.Spec PyProof.Rows L2
section
variable {α τ σ W:Type}
def WL (F:Fx)(Z:Hp)(J:σ→SS→Prop)(l:L σ)(D:Ends):Prop:=match l with
 | .nx s=>∀ S ρ H Z',J s S→Same Z Z'→StOk F H Z' S ρ→D.nx ρ H
 | .rt d=>∀ v H Z',Ex F.H0 F.Z0 H Z'→Rep F.K F.C Z' d v→D.rt v H
 | .er k=>∀ H,Same F.H0 H→F.E (.ref (F.C k)) none H
 | .stuck=>False
theorem WL.more {F:Fx}{Z Z1:Hp}{J:σ→SS→Prop}{l:L σ}{D:Ends}(w:WL F Z J l D)(z:Same Z Z1):WL F Z1 J l D:=by
 cases l with
 | nx s=>exact fun S ρ H Z' j q=>w S ρ H Z' j (z.trans q)
 | rt d=>exact w
 | er k=>exact w
 | stuck=>exact w
def tL (F:Fx)(S:SS)(J:σ→SS→Prop)(l:L σ):TS:=fun D ρ H=>∃ Z,StOk F H Z S ρ∧WL F Z J l D
abbrev FL (X:Cx)(F:Fx)(S:SS)(sts:List Stmt)(J:σ→SS→Prop)(l:L σ):Prop:=PSs X sts (tL F S J l)
abbrev FL1 (X:Cx)(F:Fx)(S:SS)(st:Stmt)(J:σ→SS→Prop)(l:L σ):Prop:=PS X st (tL F S J l)
def JX (inj:τ→W→SS):τ→SS→Prop:=fun s S=>∃ w,S=inj s w
def JU:Unit→SS→Prop:=fun _ _=>True
abbrev vv (d:D):Option Sl:=some (.val d)
abbrev ow (ds:List D):Option Sl:=some (.own ds)
abbrev nn:Option Sl:=none
variable {X:Cx}{F:Fx}{S:SS}{st:Stmt}{rest:List Stmt}{J:σ→SS→Prop}{J1:τ→SS→Prop}
theorem mF {sts:List Stmt}{t:α→TS}(h:∀ a,PSs X sts (t a)):PSs X sts (fun D ρ H=>∃ a,t a D ρ H):=fun pins s ρ H D I ⟨a,w⟩=>h a pins s ρ H D I w
theorem WL.wg {D:Ends}{r:R α}{k:α→L σ}{H Z:Hp}{ρ:St}(ok:StOk F H Z S ρ)(w:WL F Z J (lB r k) D):WG F H Z r fun a _ Z'=>WL F Z' J (k a) D:=by
 cases r with
 | ok o=>exact fun _ _ x=>WL.more (l:=k o) w x.z
 | err k=>exact fun H' s=>w H' (ok.ex.same.trans s)
 | stuck=>exact w
theorem ak {s:σ}(h:J s S):FL X F S [] J (.nx s):=rA.weak fun D ρ H ⟨Z,ok,w⟩=>w S ρ H Z h (Same.refl _) ok
theorem aj {g:SS→O}{r:R α}{S':α→SS}{k:α→L σ}(h:FS X F st g)(hg:g S=rO (r.bind fun a=>.ok (.nx (S' a))))(hk:∀ a,FL X F (S' a) rest J (k a)):FL X F S (st::rest) J (lB r k) :=
 (cZ h (mF hk)).weak fun D ρ H ⟨Z,ok,w⟩=>⟨Z,S,ok,by
  rw[hg]
  cases r with
  | ok a=>exact fun ρ' H' Z' z ok'=>⟨a,Z',ok',WL.more (l:=k a) w z⟩
  | err k=>exact w
  | stuck=>exact w⟩
theorem bb {g:SS→O}{S':SS}{l:L σ}(h:FS X F st g)(hg:g S=.nx S')(hk:FL X F S' rest J l):FL X F S (st::rest) J l :=
 (cZ h hk).weak fun D ρ H ⟨Z,ok,w⟩=>⟨Z,S,ok,by rw[hg];exact fun ρ' H' Z' z ok'=>⟨Z',ok',WL.more w z⟩⟩
theorem ax {g:SS→R D}{r:R D}(h:FS X F st (sRet g))(hr:g S=r):FL X F S (st::rest) J (lB r .rt) :=
 (cZ h jv).weak fun D ρ H ⟨Z,ok,w⟩=>⟨Z,S,ok,by
  unfold sRet
  rw[hr]
  cases r with
  | ok a=>exact w
  | err k=>exact w
  | stuck=>exact w⟩
theorem aB {g:SS→R D}{v:D}(h:FS X F st (sRet g))(hr:g S=.ok v):FL X F S (st::rest) J (.rt v):=ax (r:=.ok v) h hr
theorem tR {g:SS→O}{k:Nat}(h:FS X F st g)(hg:g S=.er k):FL X F S (st::rest) J (.er k) :=
 (cZ h jv).weak fun D ρ H ⟨Z,ok,w⟩=>⟨Z,S,ok,by rw[hg];exact w⟩
theorem iy (i:Nat){ds:List D}{S':SS}{sts:List Stmt}{l:L σ}(hi:S[i]?=some (some (.own ds)))(hS:S.set i (some (.val (.lst ds)))=S')(h:FL X F S' sts J l):FL X F S sts J l :=
 h.weak fun D ρ H ⟨Z,ok,w⟩=>by
  obtain⟨Z',z,ok'⟩:=ok.freeze hi
  rw[hS]at ok'
  exact⟨Z',ok',WL.more w z⟩
theorem aA {c:Expr}{a b:List Stmt}{pos:Pos}{gt:SS→R Bool}{r:R Bool}{A B:L σ}(hc:FT X F c gt)(hr:gt S=r)(ha:FL X F S a J A)(hb:FL X F S b J B):FL1 X F S (.If c a b pos) J (lB r fun t=>if t=true then A else B) :=
 (u8 hc ha hb).weak fun D ρ H ⟨Z,ok,w⟩=>eW (k:=fun t=>R.ok t) (P:=fun t _ Z'=>WL F Z' J (if t=true then A else B) D) ok (by
  rw[hr]
  have:=WL.wg ok w
  cases r<;>exact this) fun t H1 Z1 ok1 x1 w1=>by
  have w2:=WG.now w1 ok1.sub
  cases t with
  | true=>exact⟨Z1,ok1,w2⟩
  | false=>exact⟨Z1,ok1,w2⟩
theorem eJ {l:L σ}(h:FL1 X F S st J l):FL X F S [st] J l:=ni h
theorem ay {l:L τ}{k:τ→L σ}{inj:τ→W→SS}(h:FL1 X F S st (JX inj) l)(hk:∀ s w,FL X F (inj s w) rest J (k s)):FL X F S (st::rest) J (lS l k) :=
 (cZ h (mF (fun s=>mF fun w=>hk s w))).weak fun D ρ H ⟨Z,ok,w⟩=>⟨Z,ok,by
  cases l with
  | nx s=>exact fun S' ρ' H' Z' ⟨x,e⟩ z ok'=>⟨s,x,Z',by rw[← e];exact ok',WL.more (l:=k s) w z⟩
  | rt d=>exact w
  | er k=>exact w
  | stuck=>exact w⟩
end
section
variable {σ τ W:Type}{X:Cx}{F:Fx}{S:SS}{tg iter:Expr}{body:List Stmt}{pos:Pos}{git:SS→R (List D)}{g:D→SS→R SS}{inj:τ→W→SS}{step:τ→D→L τ}
theorem qo {r:R (List D)}{s0:τ}(w0:W)(hp:PassesOwn (model X.prog X.w) X.A X.env X.xe)(hc:X.calm=true)(hi:FI X F tg iter git)(hr:git S=r)(hg:FG X F tg g)
  (hb:∀ s w x S1,g x (inj s w)=.ok S1→FL X F S1 body (JX inj) (step s x)) (hno:∀ s w x k,g x (inj s w)≠.err k) (hst:∀ s w x,g x (inj s w)=.stuck→step s x=.stuck)
  (hS:S=inj s0 w0) (hs:∀ x,foldedSetIterable iter X.env x=pure x:=by intro _;rfl):FL1 X F S (.For tg iter body [] pos) (JX inj) (lB r fun xs=>lFor step xs s0):=by
 have hbb:PSs X body (fun D ρ H=>∃ (q:τ×W×FF.D×SS) (_:g q.2.2.1 (inj q.1 q.2.1)=.ok q.2.2.2),tL F q.2.2.2 (JX inj) (step q.1 q.2.2.1) D ρ H):=fun pins s ρ H D I ⟨q,e,w⟩=>hb q.1 q.2.1 q.2.2.1 q.2.2.2 e pins s ρ H D I w
 refine(uh hp hc hi hg hbb hs).weak fun D ρ H ⟨Z,ok,w⟩=>?_
 refine⟨Z,S,ok,?_⟩
 have w00:=WL.wg ok w
 rw[hr]
 cases r with
 | err k=>exact w00
 | stuck=>exact w00
 | ok ds =>
  intro H1 Z1 x1
  have w1:WL F Z1 (JX inj) (lFor step ds s0) D:=w00 H1 Z1 x1
  intro J wk _
  refine⟨fun i m ρ H=>m=ds.length - i∧i≤ds.length∧∃ Z2 s w,StOk F H Z2 (inj s w) ρ∧Same Z1 Z2∧WL F Z2 (JX inj) (lFor step (ds.drop i) s) D,⟨ds.length,rfl,Nat.zero_le _,Z1,s0,w0,by rw[← hS];exact ok.more x1,Same.refl _,w1⟩,?_⟩
  rintro i m ρ2 H2 ⟨rfl,hle,Z2,s,w2,ok2,z2,wl2⟩
  obtain⟨k1,k2⟩:=wk i H2 Z2 z2 ok2.sub
  by_cases hlt:i < ds.length
  ·obtain⟨go,y⟩:=k1 hlt
   refine .inr ⟨go,fun ρ' H'=>∃ Z3 s3 w3,StOk F H' Z3 (inj s3 w3) ρ'∧Same Z1 Z3∧WL F Z3 (JX inj) (lFor step (ds.drop (i+1)) s3) D,fun ρ' H' ⟨Z3,s3,w3,q⟩=>⟨ds.length - (i+1),by omega,rfl,hlt,Z3,s3,w3,q⟩,fun x H' hy=>?_⟩
   obtain⟨Z2',d,x',e3,rd⟩:=y x H' hy
   have ok2:=ok2.more x'
   have hd:ds.drop i=d::ds.drop (i+1):=by
    obtain⟨hi,e4⟩:=List.getElem?_eq_some_iff.mp e3
    rw[List.drop_eq_getElem_cons hi,e4]
   rw[hd,a6]at wl2
   refine⟨Z2',inj s w2,d,ok2,rd,?_⟩
   cases q:g d (inj s w2) with
   | err k=>exact absurd q (hno s w2 d k)
   | stuck=>rw[hst s w2 d q]at wl2;exact wl2
   | ok S1 =>
    intro H4 Z4 x4 ρ4 ok4
    refine⟨⟨s,w2,d,S1⟩,q,Z4,ok4,?_⟩
    have z14:Same Z1 Z4:=(z2.trans x'.z).trans x4.z
    cases qb:step s d with
    | nx s5 =>
     rw[qb]at wl2
     exact fun S5 ρ5 H5 Z5 ⟨w5,e5⟩ z5 ok5=>⟨Z5,s5,w5,by rw[← e5];exact ok5,z14.trans z5,WL.more (l:=lFor step (ds.drop (i+1)) s5) wl2 ((x'.z.trans x4.z).trans z5)⟩
    | rt d=>rw[qb]at wl2;exact wl2
    | er k=>rw[qb]at wl2;exact wl2
    | stuck=>rw[qb]at wl2;exact wl2
  ·refine .inl ⟨k2 (by omega),?_⟩
   rw[List.drop_eq_nil_of_le (by omega)]at wl2
   exact wl2 (inj s w2) ρ2 H2 Z2 ⟨w2,rfl⟩ (Same.refl _) ok2
theorem bD (i:Nat){r:R (List D)}{s0:τ}{B:τ→W→D→SS}(w0:W)(hp:PassesOwn (model X.prog X.w) X.A X.env X.xe)(hc:X.calm=true)(hi:FI X F tg iter git)(hr:git S=r)(hg:FG X F tg (gNm i))
  (hS:S=inj s0 w0) (hB:∀ s w x,(inj s w).set i (some (.val x))=B s w x) (hb:∀ s w x,FL X F (B s w x) body (JX inj) (step s x))
  (hs:∀ x,foldedSetIterable iter X.env x=pure x:=by intro _;rfl):FL1 X F S (.For tg iter body [] pos) (JX inj) (lB r fun xs=>lFor step xs s0) :=
 qo w0 hp hc hi hr hg (fun s w x S1 e=>by cases e;rw[hB];exact hb s w x) (fun s w x k e=>nomatch e) (fun s w x e=>nomatch e) hS hs
end
section
variable {σ τ W:Type}{X:Cx}{F:Fx}{S:SS}{rest:List Stmt}{J:σ→SS→Prop}{k:Nat}
def tryL (q:Nat→Bool)(l:L τ):L (τ ⊕ Nat):=match l with
 | .nx s=>.nx (.inl s)
 | .rt d=>.rt d
 | .er e=>if q e=true then .nx (.inr e) else .stuck
 | .stuck=>.stuck
def tryJ (inj:τ→W→SS)(B:Nat→SS):τ ⊕ Nat→SS→Prop
 | .inl s,S=>∃ w,S=inj s w
 | .inr k,S=>S=B k
end
section
variable {σ τ W:Type}{S:SS}{X:Cx}{F:Fx}{body:List Stmt}{g:SS→O}{c n y:Str}{np np2 kp apos hpos pos:Pos}{k:Nat}{q:Nat→Bool}{C0:Addr}
theorem sx (i j:Nat){l:L τ}{inj:τ→W→SS}(bx:BX X F k)(hij:i≠j)(hst:X.stack=X.env::X.outer)(hfm:X.env.frame=some X.env.locals)(hex:X.ex=[])(hN:X.N.Nodup)(hg:Gl X c)(hm:X.mg c=some (.ref C0))(T:Takes F.K F.C C0 q)
  (hb:∀ pn xe H0 Z0 E,BX (tryX X pn xe) ⟨F.K,F.C,H0,Z0,E⟩ k→FL (tryX X pn xe) ⟨F.K,F.C,H0,Z0,E⟩ S body (JX inj) l)
  (hi:X.N[i]?=some n:=by rfl) (hj:X.N[j]?=some y:=by rfl) (hn:X.env.scope.names.lookup n=some .local:=by rfl) (hkn:X.env.kindOf n=some .local:=by rfl) (hy:X.env.scope.names.lookup y=some .local:=by rfl)
  (hs:swapsWith (.Name n np2) (some (.Name y kp)) apos.line X.env=pure false:=by rfl) (hdc:(c==("__debug__":Str))=false:=by decide) (hdn:(n==("__debug__":Str))=false:=by decide) (hcd:(n==("__classdict__":Str))=false:=by decide) :
  FL1 X F S (.Try body [.ExceptHandler (some (.Name c np)) (some n) [.Assign [.Name y kp] (.Name n np2) apos] hpos] [] [] pos) (tryJ inj fun e=>(blankS S).set j (some (.val (.exc e)))) (tryL q l):=by
 intro pins s σ H D I h
 obtain⟨Z,ok,w⟩:=h
 refine wpAny_Try_except ?_
 have hjl:j < X.N.length:=(List.getElem?_eq_some_iff.mp hj).1
 have hil:i < X.N.length:=(List.getElem?_eq_some_iff.mp hi).1
 let txe:Value→Shared→Prop:=fun e s₁=>wpAny (model X.prog X.w) X.A (noteFrame e X.env) (fun _ s₂=>wpAny (model X.prog X.w) X.A (setFlight e none) (fun _ s₃=>wpAny (model X.prog X.w) X.A (handleBy e X.env [.ExceptHandler (some (.Name c np)) (some n) [.Assign [.Name y kp] (.Name n np2) apos] hpos]) (SP X pins D) X.xe s₃) X.xe s₂) X.xe s₁
 let E':XK:=fun cls _ H'=>∃ k,cls=.ref (F.C k)∧q k=true∧Same (bothH F Z) H'∧WL F Z (tryJ inj fun e=>(blankS S).set j (some (.val (.exc e)))) (.nx (.inr k)) D
 have back:∀ {pl:List (Addr×Obj)} {σ':St} {H':Hp} {s':Shared},Inv (tryX X (X.pn++pins) txe) pl σ' H' s'→Inv X pins σ' H' s':=fun J=>iu (X:=tryX X (X.pn++pins) txe) J rfl I.ok.hd fun p hp=>List.mem_append_left _ hp
 have bx':BX (tryX X (X.pn++pins) txe) ⟨F.K,F.C,bothH F Z,Z,E'⟩ k:=by
  refine⟨bx.room,bx.K,bx.calm,?_⟩
  intro pl σ1 H1 s1 e s2 I1 hx
  obtain⟨ea,C,t,H2,B,rfl,os,bare,un,hok,fl,hn2,cov,hE⟩:=hx
  obtain⟨k',hC,hk,hsm,w1⟩:=hE
  have J:Inv (tryX X (X.pn++pins) txe) pl σ1 H2 s2:=I1.call' (ch:=[]) os un hok bare (fun b z=>nomatch z)
  obtain⟨oe0,ws0,ge0,_,gd0,_⟩:=fl.first
  obtain⟨mL1,nL1,_⟩:=I1.loc
  obtain⟨oL1,_,_,hoL1,_⟩:=id nL1
  have hnf:ea∉frs X.stack:=fun z=>by
   rcases List.mem_cons.mp (J.stkSub ea z) with z1 | z1
   ·obtain⟨mL,nL,_⟩:=J.loc
    obtain⟨oL,es,ep,hoL,hdL,_⟩:=nL
    have hoL':s2.heap.get? ea=some oL:=by rw[z1];exact hoL
    rw[ge0]at hoL'
    cases hoL'
    rw[hdL]at gd0
    cases gd0
   ·obtain⟨_,o',e',d⟩:=J.funs.mem z1
    rw[ge0]at e'
    cases e'
    exact d _ gd0
  have hnew:∀ o,s1.heap.get? ea≠some o:=fun o z=>by
   have:=cov ea oe0 ge0 (.inr ⟨o,z⟩) hnf
   rw[fl.2.1]at this
   cases this
  have h0:X.s₀.heap.get? ea=none:=by
   cases z:X.s₀.heap.get? ea with
   | none=>rfl
   | some o =>
    obtain⟨o',z'⟩:=I1.base.there ea o z (by show ea∉X.ex;rw[hex];exact fun q=>nomatch q)
    exact absurd z' (hnew o')
  have hnl:ea≠X.env.locals:=fun z=>hnew oL1 (by rw[z];exact hoL1)
  obtain⟨hp2,g2,d2,t2,os2⟩:=s2
  have fl':=fl
  rw[show (tryX X (X.pn++pins) txe).stack=X.env::X.outer from hst]at fl'
  show txe (.ref ea) _
  refine wpAny_looks_onW (I.ok.frames.trans (by rw[hst])) hfm fl' fun h4 held4 up4=>?_
  refine wpAny_landsW held4 fun h5 fl5 up5=>?_
  have fly:∀ {h6:Heap},B.StaysIn h6→hp2.UpToSlots h6→Inv (tryX X (X.pn++pins) txe) pl σ1 H2 ⟨h6,g2,d2,t2,os2⟩:=fun {h6} a b=>rW J ⟨σ1,H1,pl,I1⟩ (fun p hp=>⟨_,(I1.pin p hp).1⟩) (fun o _=>⟨oL1,hoL1⟩) cov a b
  have J5:=fly fl5.1 (up4.trans up5)
  let Xm:Cx:={ tryX X (X.pn++pins) txe with A:=X.A.mark (some (.ref ea)),calm:=false,pn:=X.pn++pins,xe:=fun _ _=>False }
  have J5m:Inv Xm pl σ1 H2 ⟨h5,g2,d2,t2,os2⟩:=iu J5 rfl (fun z=>nomatch z) fun p hp=>hp
  refine wpAny_handleBy_cons (codeAny_handlers_test (gO (X:=Xm) J5m hg hm ?_ hdc)) (by intro z;cases z)
  obtain⟨ob,hob,hobc⟩:=fl5.there
  refine lg T (by have:=J5.kIn;rw[← bx.K];exact this) hob (hobc.trans hC) hk ?_
  refine codeAny_handlers_suite_as ?_
  refine lands_againW fl5 fun h6 fl6 up6=>?_
  have J6:=fly fl6.1 ((up4.trans up5).trans up6)
  obtain⟨oe,ws,hoe,hoec,hoed,_⟩:=fl6.first
  have J7:=ou J6 (a:=ea) (o:=excO F.C k' ea) hn2 h0 hnl (fun x c' e z=>by
    obtain⟨v,o,ho,_⟩:=I1.cell x c' e
    exact hnew o (by rw[← z];exact ho)) (fun p hp z=>hnew p.2 (by rw[← z];exact(I1.pin p hp).1)) ⟨⟨oe,hoe,hoec.trans hC,ws,hoed⟩,⟨oe,hoe⟩,fun h1 h2 ⟨o,a1,a2,a3⟩ kk=>⟨o,kk o a1,a2,a3⟩⟩
  have J7m:Inv Xm pl σ1 (upd H2 ea (excO F.C k' ea)) ⟨h6,g2,d2,t2,os2⟩:=iu J7 rfl (fun z=>nomatch z) fun p hp=>hp
  have hl1:σ1.length=X.N.length:=I1.len
  refine cY (X:=Xm) (v:=.ref ea) J7m hN hi (.inl hn) rfl (fun s8 I8=>?_) (.inr hn)
  have st:=ni (mj (X:=Xm) (pos:=apos) (pos':=kp) hN hj (.inl hy) (g7 (X:=Xm) (pos:=np2) hi (.inl hn) hdn hcd) hs (.inr hy))
  refine wpAny_mono (st pl s8 _ _ ⟨fun σ' H'=>σ'=(σ1.set i (some (.ref ea))).set j (some (.ref ea))∧H'=upd H2 ea (excO F.C k' ea),fun _ _=>False,fun _ _=>False,fun _ _=>False⟩ I8 ⟨.ref ea,by rw[List.getElem?_set_self (by rw[hl1];exact hil)],rfl,rfl⟩) (fun f s9 h9=>?_) fun _ _ z=>z.elim
  cases f with
  | next =>
   obtain⟨σ9,H9,I9,rfl,rfl⟩:=h9
   show wpAny (model X.prog X.w) X.A (do bindName X.env n .none;unbindBehindTheSuite X.env n hpos) _ X.xe s9
   refine wpAny_bind (wpAny_bindName (cY (X:=Xm) (v:=.non) I9 hN hi (.inl hn) rfl (fun s10 I10=>?_) (.inr hn)))
   unfold unbindBehindTheSuite
   refine wpAny_onRaise (oy (X:=Xm) (v:=.non) I10 hN hi hkn hn (by rw[List.getElem?_set_self (by simp[hl1];exact hil)]) fun s11 I11=>?_)
   have IX:Inv X pins _ _ s11:=iu (X:=Xm) I11 rfl I.ok.hd fun p hp=>List.mem_append_left _ hp
   obtain⟨Z',z,ok'⟩:=oz (k:=k') (j:=j) (ea:=ea) (σ':=(((σ1.set i (some (.ref ea))).set j (some (.ref ea))).set i (some .non)).set i none) ok hsm hn2 (by rw[ok.len,I.len];simp[hl1]) (fun _=>by
    rw[List.getElem?_set_ne hij,List.getElem?_set_ne hij,List.getElem?_set_self (by simp[hl1];exact hjl)])
   exact⟨_,_,IX,w1 _ _ _ Z' rfl z ok'⟩
  | _=>first | (obtain⟨_,_,_,z⟩:=h9;exact z.elim) | (obtain⟨_,_,_,_,_,z⟩:=h9;exact z.elim)
 have w':WL ⟨F.K,F.C,bothH F Z,Z,E'⟩ Z (JX inj) l D:=by
  cases l with
  | nx s'=>exact fun S' ρ' H' Z' jx z o=>w S' ρ' H' Z' jx z (sg ok o)
  | rt d=>exact fun v H' Z' x r=>w v H' Z' (nE ok x) r
  | er k' =>
   intro H' sm
   unfold tryL at w
   by_cases hk:q k'=true
   ·simp only[hk,if_true]at w
    exact⟨k',rfl,hk,sm,w⟩
   ·simp only[hk]at w
    exact w.elim
  | stuck=>exact w
 have run:=hb (X.pn++pins) txe (bothH F Z) Z E' bx' [] s σ H D (iu I rfl I.ok.hd (by simp)) ⟨Z,si ok,w'⟩
 refine wpAny_mono run (fun f s1 h1=>?_) fun _ _ x=>x
 cases f with
 | next =>
  obtain⟨σ',H',I',d'⟩:=h1
  exact wpAny_execs_nil ⟨σ',H',back I',d'⟩
 | brk =>
  obtain⟨σ',H',I',d'⟩:=h1
  exact⟨σ',H',back I',d'⟩
 | cont =>
  obtain⟨σ',H',I',d'⟩:=h1
  exact⟨σ',H',back I',d'⟩
 | ret u =>
  obtain⟨v,σ',H',I',r,d'⟩:=h1
  exact⟨v,σ',H',back I',r,d'⟩
end
section
variable {σ τ W:Type}{X:Cx}{F:Fx}{S:SS}{rest:List Stmt}{J:σ→SS→Prop}
theorem uQ (i j:Nat){l:L τ}{inj:τ→W→SS}{q:Nat→Bool}{st:Stmt}{B:Nat→SS}{n1:τ→L σ}{n2:Nat→L σ}(h:FL1 X F S st (tryJ inj fun e=>(blankS S).set j (some (.val (.exc e)))) (tryL q l))
  (hB:∀ e,(blankS S).set j (some (.val (.exc e)))=B e) (h1:∀ s w,FL X F (inj s w) rest J (n1 s)) (h2:∀ e,FL X F (B e) rest J (n2 e)):FL X F S (st::rest) J (lTry q l n1 n2):=by
 have hr:PSs X rest (fun D ρ H=>(∃ s w,tL F (inj s w) J (n1 s) D ρ H)∨∃ e,tL F (B e) J (n2 e) D ρ H):=fun pins s ρ H D I z=>by
  rcases z with ⟨s',w',z⟩ | ⟨e,z⟩
  ·exact h1 s' w' pins s ρ H D I z
  ·exact h2 e pins s ρ H D I z
 refine(cZ h hr).weak fun D ρ H ⟨Z,ok,w⟩=>⟨Z,ok,?_⟩
 cases l with
 | nx s=>exact fun S' ρ' H' Z' ⟨x,e⟩ z ok'=>.inl ⟨s,x,Z',by rw[← e];exact ok',WL.more (l:=n1 s) w z⟩
 | rt d=>exact w
 | er e =>
  have w':WL F Z J (if q e=true then n2 e else .stuck) D:=w
  by_cases hq:q e=true
  ·rw[if_pos hq]at w'
   show WL F Z _ (if q e=true then (L.nx (Sum.inr e):L (τ ⊕ Nat)) else L.stuck) _
   rw[if_pos hq]
   exact fun S' ρ' H' Z' hj z ok'=>.inr ⟨e,Z',by have hj':S'=(blankS S).set j (some (.val (.exc e))):=hj;rw[← hB e,← hj'];exact ok',WL.more w' z⟩
  ·rw[if_neg hq]at w';exact w'.elim
 | stuck=>exact w
end
end FF
end
noncomputable section
namespace FF
open PySem PySem.Spec PyProof.Rows L2
section
variable {X:Cx}{F:Fx}{e:Expr}{es:List Expr}{g g':SS→R D}{gs:List (SS→R D)}{k:Nat}{f:List D→R D}{pos:Pos}
theorem e8 (h:FE X F e g)(hg:∀ S,g S=g' S):FE X F e g':=by
 have:g=g':=funext hg
 rw[← this];exact h
theorem gY {st:Stmt}{g g':SS→O}(h:FS X F st g)(hg:∀ S,g S=g' S):FS X F st g':=by
 have:g=g':=funext hg
 rw[← this];exact h
def aL:List (SS→R D)→SS→R (List D)
 | []=>aNil
 | g::gs=>aCons g (aL gs)
def eBA {α:Type}(f:List D→R α)(gs:List (SS→R D)):SS→R α:=fun S=>bA (gs.map fun g=>g S) f
theorem c6 {α β:Type}{r:R α}{f f':α→R β}(h:∀ a,f a=f' a):r.bind f=r.bind f':=by cases r<;>first | exact h _ | rfl
theorem cL {α:Type}(S:SS):∀ (gs:List (SS→R D)) (f:List D→R α),(aL gs S).bind f=eBA f gs S
 | [],f=>rfl
 | g::gs,f=>by
  show ((g S).bind fun d=>(aL gs S).bind fun ds=>R.ok (d::ds)).bind f=(g S).bind fun d=>bA (gs.map fun g=>g S) fun ds=>f (d::ds)
  rw[R.bind_assoc]
  refine c6 fun d=>?_
  rw[R.bind_assoc]
  exact cL S gs fun ds=>f (d::ds)
theorem fQ {S:SS}:∀ {gs:List (SS→R D)} {ds:List D},aL gs S=.ok ds→ds.length=gs.length
 | [],ds,h=>by cases h;rfl
 | g::gs,ds,h=>ol (n:=gs.length) (fun S' ds' h'=>by
   by_cases q:S'=S
   ·subst q;exact fQ h'
   ·exact fQ (S:=S') h') S ds h
structure FAL (X:Cx)(F:Fx)(es:List Expr)(gs:List (SS→R D)):Prop where
 out:FA X F es (aL gs)
theorem ad:FAL X F [] []:=⟨uy⟩
theorem aa (ha:FE X F e g)(hr:FAL X F es gs)(hs:starEach (e::es) X.env=(false,eval e X.env)::starEach es X.env:=by rfl):FAL X F (e::es) (g::gs):=⟨rP ha hr.out hs⟩
theorem fe_N (h:FE X F e (eCall f (aL gs))):FE X F e (eBA f gs):=e8 h fun S=>cL S gs f
theorem af {x:Str}{p:Pos}{ps:List Str}(b:BX X F k)(h:Fn1 X.prog X.w F.K X.mg X.base F.C k x ps f)(hg:Gl X x)(ha:FAL X F (e::es) gs)(hn:gs.length=ps.length:=by rfl)(hdb:(x==("__debug__":Str))=false:=by decide)
  (he:starEach (e::es) X.env=(false,eval e X.env)::starEach es X.env:=by rfl) (hpl:(backTo pos (starEach es X.env)).any (·.1)=false:=by rfl):FE X F (.Call (.Name x p) (e::es) [] pos) (eBA f gs) :=
 fe_N (rZ b h hg ha.out (fun S ds q=>(fQ q).trans hn) hdb he hpl)
theorem av {x1}(h:FAL X F es gs)(hl:gs.length≤16777216:=by exact Nat.le_of_ble_eq_true rfl):FE X F (.Tuple es x1 pos) (eBA (fun ds=>.ok (.tup ds)) gs) :=
 e8 (pN h.out) fun S=>by
  rw[← cL]
  show (aL gs S).bind _=_
  cases q:aL gs S with
  | ok ds=>show (if ds.length≤16777216 then R.ok (FF.D.tup ds) else R.stuck)=_;rw[if_pos (by rw[fQ q];exact hl)];rfl
  | err k=>rfl
  | stuck=>rfl
theorem aM (h:FAL X F es gs)(hl:gs.length≤16777216:=by exact Nat.le_of_ble_eq_true rfl):FE X F (.List es pos) (eBA (fun ds=>.ok (.lst ds)) gs) :=
 e8 (uz h.out) fun S=>by
  rw[← cL]
  show (aL gs S).bind _=_
  cases q:aL gs S with
  | ok ds=>show (if ds.length≤16777216 then R.ok (FF.D.lst ds) else R.stuck)=_;rw[if_pos (by rw[fQ q];exact hl)];rfl
  | err k=>rfl
  | stuck=>rfl
end
section
variable {X:Cx}{F:Fx}{k:Nat}{e f:Expr}{es:List Expr}{p pos:Pos}{x:Str}
theorem lh {i:Nat}(hm:X.mg x=some (.ref (F.C i)))(hg:Gl X x)(hd:(x==("__debug__":Str))=false:=by decide):FE X F (.Name x pos) (eC (.fn i)) :=
 dh (bd (v:=.ref (F.C i)) hg hm rfl hd) fun _=>by rw[Rep]
theorem qp {CX:CXT}{E:XK}{tf:TE}{t:TA}(hf:PE X f tf)(hr:Room k X.A)(hx:Passes CX X E)(ha:PA X (e::es) t)
  (hev:eval (.Call f (e::es) [] pos) X.env=(do callWith pos (← eval f X.env) [] (backTo pos (starEach (e::es) X.env)) (backToKw pos (keywordEach [] X.env))):=by rfl)
  (he:starEach (e::es) X.env=(false,eval e X.env)::starEach es X.env:=by rfl) (hpl:(backTo pos (starEach es X.env)).any (·.1)=false:=by rfl) :
  PE X (.Call f (e::es) [] pos) (fun σ H Q=>tf σ H fun v H1=>∃ a fd ps sp,v=.ref a∧FnOk X.prog X.w X.K X.mg X.base CX k a fd ps sp∧PySem.W.keepIn X.K (.ref a)=true∧Binds X.K fd ps []∧t σ H1 fun vs H2=>sp (vs++[]) H2 Q E):=by
 intro pins s σ H Q I h
 rw[hev]
 refine wpAny_bind (thn (hf pins s σ H _ I h) fun u s1 ⟨v,H1,I1,r,a,fd,ps,sp,ev,FO,hk,hb,q⟩=>?_)
 subst ev
 cases r
 refine PySem.W.callWith_K (h₀:=X.base) I1.ok.mod.kin hk (thn (ha pos pins s1 σ H1 _ I1 q) fun us s2 ⟨vs,H2,I2,r2,q2⟩=>⟨I2.kIn,?_⟩) he hpl
 exact pF FO hr hb .nil hx I2 r2 q2
structure FnV (P:Program)(w:World)(K:PySem.W.Frag)(mg:Str→Option Value)(base:Heap)(C:Nat→Addr)(k:Nat)(i:Nat)(f:List D→R D):Prop where
 ex:∃ fd ps,FnOk P w K mg base (CXE P w) k (C i) fd ps (spF K C ps.length f)∧PySem.W.keepIn K (.ref (C i))=true∧Binds K fd ps []∧∀ ds,ds.length≠ps.length→f ds=.stuck
def eCV (fs:List Nat)(t:Nat→List D→R D)(gf:SS→R D)(gs:List (SS→R D)):SS→R D:=fun S=>(gf S).bind fun f=>onF fs f fun i=>bA (gs.map fun g=>g S) (t i)
theorem li {fs:List Nat}{t:Nat→List D→R D}{gf:SS→R D}{gs:List (SS→R D)}(b:BX X F k)(hT:∀ i∈fs,FnV X.prog X.w F.K X.mg X.base F.C k i (t i))(hf:FE X F f gf)(ha:FAL X F (e::es) gs)
  (hev:eval (.Call f (e::es) [] pos) X.env=(do callWith pos (← eval f X.env) [] (backTo pos (starEach (e::es) X.env)) (backToKw pos (keywordEach [] X.env))):=by rfl)
  (he:starEach (e::es) X.env=(false,eval e X.env)::starEach es X.env:=by rfl) (hpl:(backTo pos (starEach es X.env)).any (·.1)=false:=by rfl) :
  FE X F (.Call f (e::es) [] pos) (eCV fs t gf gs) :=
 (qp hf b.room b.pass ha.out hev he hpl).weak fun σ H Q ⟨Z,S,ok,w⟩=>by
  refine aF ok w fun d v H1 Z1 ok1 x1 rv w1=>?_
  cases d with
  | fn i =>
   by_cases hi:fs.contains i=true
   ·rw[Rep]at rv
    obtain⟨fd,ps,h1,h2,h3,h4⟩:=(hT i (by simpa using hi)).ex
    refine⟨F.C i,fd,ps,_,rv,by rw[b.K];exact h1,by rw[b.K];exact h2,by rw[b.K];exact h3,?_⟩
    have e0:onF fs (.fn i) (fun i=>bA (gs.map fun g=>g S) (t i))=(aL gs S).bind (t i):=by
     rw[cL]
     show (if fs.contains i=true then _ else R.stuck)=_
     rw[if_pos hi];rfl
    rw[e0]at w1
    refine bf ok1 w1 fun ds vs H2 Z2 ok2 x2 rs w4=>?_
    by_cases hl:ds.length=ps.length
    ·refine⟨by rw[List.append_nil,← rs.length];exact hl,Z2,ds,ok2.sub,by rw[List.append_nil];exact rs,?_⟩
     cases q:t i ds with
     | ok d=>rw[q]at w4;exact w4
     | err k=>rw[q]at w4;exact w4
     | stuck=>rw[q]at w4;exact w4
    ·rw[h4 ds hl]at w4;exact w4.elim
   ·have e0:onF fs (.fn i) (fun i=>bA (gs.map fun g=>g S) (t i))=.stuck:=by
     show (if fs.contains i=true then _ else R.stuck)=_
     rw[if_neg hi]
    rw[e0]at w1
    exact w1.elim
  | _=>exact w1.elim
end
theorem lj {S:SS}{g:D→SS→R SS}{c:SS→R Bool}{e:SS→R D}:∀ ds,noErr (compGo S g c e ds)=cGo (fun d=>(g d S).bind c) (fun d=>(g d S).bind e) ds
 | []=>rfl
 | d::r=>by
  have ih:=lj (S:=S) (g:=g) (c:=c) (e:=e) r
  rw[cGo,compGo]
  cases q:g d S with
  | err k=>rfl
  | stuck=>rfl
  | ok S1 =>
   show noErr ((c S1).bind fun t=>if t=true then (e S1).bind fun y=>(compGo S g c e r).bind fun ys=>.ok (y::ys) else compGo S g c e r)=(match c S1 with
    | .ok true=>match e S1 with
     | .ok y=>match cGo _ _ r with
      | .ok ys=>.ok (y::ys)
      | _=>.stuck
     | _=>.stuck
    | .ok false=>cGo _ _ r
    | _=>.stuck)
   cases qc:c S1 with
   | err k=>rfl
   | stuck=>rfl
   | ok t =>
    cases t with
    | false=>exact ih
    | true =>
     show noErr ((e S1).bind fun y=>(compGo S g c e r).bind fun ys=>.ok (y::ys))=(match e S1 with
      | .ok y=>match cGo _ _ r with
       | .ok ys=>.ok (y::ys)
       | _=>.stuck
      | _=>.stuck)
     cases qe:e S1 with
     | err k=>rfl
     | stuck=>rfl
     | ok y =>
      rw[← ih]
      show noErr ((compGo S g c e r).bind fun ys=>.ok (y::ys))=(match noErr (compGo S g c e r) with
       | .ok ys=>.ok (y::ys)
       | _=>.stuck)
      cases compGo S g c e r<;>rfl
def eCC (own:Nat)(cap:List Nat)(it:SS→R (List D))(g:D→SS→R SS)(c:SS→R Bool)(e:SS→R D):SS→R D:=fun S=>(it S).bind fun ds=>(cGo (fun d=>(g d (blkS own cap S)).bind c) (fun d=>(g d (blkS own cap S)).bind e) ds).bind fun ys=>.ok (.lst ys)
theorem ll {own:Nat}{cap:List Nat}{it:SS→R (List D)}{g:D→SS→R SS}{c:SS→R Bool}{e:SS→R D}(S:SS):eComp own cap it g c e S=eCC own cap it g c e S:=by
 unfold eComp eCC
 exact c6 fun ds=>by rw[lj]
theorem fe_C {X:Cx}{F:Fx}{e:Expr}{own:Nat}{cap:List Nat}{it:SS→R (List D)}{g:D→SS→R SS}{c:SS→R Bool}{el:SS→R D}(h:FE X F e (eComp own cap it g c el)):FE X F e (eCC own cap it g c el):=e8 h ll
theorem fs_C {X:Cx}{F:Fx}{st:Stmt}{n own:Nat}{cap:List Nat}{it:SS→R (List D)}{g:D→SS→R SS}{c:SS→R Bool}{el:SS→R D}(h:FS X F st (sSet n (eComp own cap it g c el))):FS X F st (sSet n (eCC own cap it g c el)):=gY h fun S=>by unfold sSet;rw[ll]
section
variable {X:Cx}{F:Fx}{st:Stmt}{i:Nat}{g:SS→R D}
def sAppC (i:Nat)(g:SS→R D):SS→O:=fun S=>match S[i]? with
 | some (some (.own ds))=>rO (((g S).bind fun v=>oApp ds v).bind fun ds'=>.ok (.nx (S.set i (some (.own ds')))))
 | _=>.stuck
theorem lm {α:Type}(r:R D)(f:List D→R α):((r.bind fun d=>(R.ok []:R (List D)).bind fun ds=>R.ok (d::ds)).bind f)=r.bind fun d=>f [d]:=by cases r<;>rfl
theorem fs_A (h:FS X F st (sApp i (aL [g]))):FS X F st (sAppC i g):=gY h fun S=>by
 unfold sApp sAppC
 cases q:S[i]? with
 | none=>rfl
 | some o =>
  cases o with
  | none=>rfl
  | some x =>
   cases x with
   | val d=>rfl
   | mat m=>rfl
   | dic m=>rfl
   | dit m=>rfl
   | own ds =>
    show rO (((g S).bind fun d=>(R.ok []:R (List D)).bind fun ds=>R.ok (d::ds)).bind _)=rO _
    rw[lm,R.bind_assoc]
    refine congrArg rO (c6 fun v=>?_)
    unfold oApp
    show (if _ then _ else _)=_
    split<;>rfl
def sExtC (i:Nat)(g:SS→R D):SS→O:=fun S=>match S[i]? with
 | some (some (.own ds))=>rO (((g S).bind fun v=>oExt ds v).bind fun ds'=>.ok (.nx (S.set i (some (.own ds')))))
 | _=>.stuck
theorem fs_X (h:FS X F st (sExt i (aL [g]))):FS X F st (sExtC i g):=gY h fun S=>by
 unfold sExt sExtC
 cases q:S[i]? with
 | none=>rfl
 | some o =>
  cases o with
  | none=>rfl
  | some x =>
   cases x with
   | val d=>rfl
   | mat m=>rfl
   | dic m=>rfl
   | dit m=>rfl
   | own ds =>
    show rO (((g S).bind fun d=>(R.ok []:R (List D)).bind fun ds=>R.ok (d::ds)).bind _)=rO _
    rw[lm,R.bind_assoc]
    refine congrArg rO (c6 fun v=>?_)
    unfold oExt
    cases v with
    | lst xs=>by_cases hl:ds.length+xs.length≤16777216<;>simp[hl]
    | tup xs=>by_cases hl:ds.length+xs.length≤16777216<;>simp[hl]
    | _=>rfl
def sOwnC (i:Nat)(gs:List (SS→R D)):SS→O:=fun S=>rO ((eBA .ok gs S).bind fun ds=>.ok (.nx (S.set i (some (.own ds)))))
theorem fs_O {gs:List (SS→R D)}(h:FS X F st (sOwn i (aL gs)))(hl:gs.length≤16777216:=by exact Nat.le_of_ble_eq_true rfl):FS X F st (sOwnC i gs):=gY h fun S=>by
 unfold sOwn sOwnC
 rw[← cL,R.bind_assoc]
 refine congrArg rO ?_
 cases q:aL gs S with
 | ok ds=>show (if ds.length≤16777216 then _ else _)=_;rw[if_pos (by rw[fQ q];exact hl)];rfl
 | err k=>rfl
 | stuck=>rfl
end
section
variable {X:Cx}{F:Fx}{e tg:Expr}{g ga:SS→R D}{f:List D→List D→R D}{gs:List (SS→R D)}
def eML (f:List D→List D→R D)(g:SS→R D)(gs:List (SS→R D)):SS→R D:=fun S=>(g S).bind fun d=>onL d fun xs=>bA (gs.map fun g=>g S) (f xs)
theorem nG (h:FE X F e (eMethL f g (aL gs))):FE X F e (eML f g gs):=e8 h fun S=>by
 unfold eMethL eML
 refine c6 fun d=>?_
 cases d with
 | lst xs=>exact cL S gs (f xs)
 | _=>rfl
theorem sy {g g':SS→R (List D)}(h:FI X F tg e g)(hg:∀ S,g S=g' S):FI X F tg e g':=by
 have:g=g':=funext hg
 rw[← this];exact h
theorem bX (h:FI X F tg e (iRange1 (aL gs))):FI X F tg e (eBA rng1 gs):=sy h fun S=>cL S gs rng1
end
theorem lq {k:D→L Unit}{ds:List D}(h:ds.length≠1):a1 k ds=.stuck:=by
 match ds,h with
 | [],_=>rfl
 | [_],h=>exact absurd rfl h
 | _::_::_,_=>rfl
section
variable {σ:Type}{X:Cx}{F:Fx}{S:SS}{st:Stmt}{rest:List Stmt}{J:σ→SS→Prop}
theorem nH (i j:Nat){ga gb:SS→R D}{ra rb:R D}{S':D→D→SS}{k:D→D→L σ}(h:FS X F st (sAsg (gTup [i,j]) (eTup (aL [ga,gb]))))(ha:ga S=ra)(hb:gb S=rb)(hS:∀ x y,(S.set i (some (.val x))).set j (some (.val y))=S' x y)
  (hk:∀ x y,FL X F (S' x y) rest J (k x y)):FL X F S (st::rest) J (lB ra fun x=>lB rb fun y=>k x y):=by
 have e:sAsg (gTup [i,j]) (eTup (aL [ga,gb])) S=rO ((ra.bind fun x=>rb.bind fun y=>R.ok (x,y)).bind fun p=>.ok (.nx (S' p.1 p.2))):=by
  unfold sAsg eTup
  show rO (((((ga S).bind fun d=>((gb S).bind fun d=>(R.ok []:R (List D)).bind fun ds=>R.ok (d::ds)).bind fun ds=>R.ok (d::ds)).bind fun ds=>if ds.length≤16777216 then R.ok (FF.D.tup ds) else .stuck)).bind fun d=>(gTup [i,j] d S).bind fun S1=>R.ok (O.nx S1))=_
  rw[ha,hb]
  cases ra with
  | err k=>rfl
  | stuck=>rfl
  | ok x =>
   cases rb with
   | err k=>rfl
   | stuck=>rfl
   | ok y=>show O.nx ((S.set i (some (.val x))).set j (some (.val y)))=O.nx (S' x y);rw[hS]
 have:=aj (rest:=rest) (J:=J) (S:=S) (r:=ra.bind fun x=>rb.bind fun y=>R.ok (x,y)) (S':=fun p=>S' p.1 p.2) (k:=fun p=>k p.1 p.2) h e fun p=>hk p.1 p.2
 have q:lB (ra.bind fun x=>rb.bind fun y=>R.ok (x,y)) (fun p=>k p.1 p.2)=lB ra fun x=>lB rb fun y=>k x y:=by
  cases ra with
  | ok x=>cases rb<;>rfl
  | err k=>rfl
  | stuck=>rfl
 rw[q]at this
 exact this
end
section
variable {P:Program}{w:World}{K:PySem.W.Frag}{mg:Str→Option Value}{base:Heap}
theorem sA {x qual:Str}{st:Stmt}{f:Addr}{fd:FuncData}{N ps:List Str}{k:Nat}{C:Nat→Addr}{fn:List D→R D}(F:Fun K x qual st f fd)(S:FnScope N ps (defScope st))
  (h:∀ (cdv:Value) (A:Around) (outer:List Env) (s:Shared) (H Z:Hp) (E:XK),BX (bodyX P w K mg base N qual (defScope st) f cdv A outer s H E) ⟨K,C,H,Z,E⟩ k →
   PassesOwn (model P w) (bodyX P w K mg base N qual (defScope st) f cdv A outer s H E).A (bodyX P w K mg base N qual (defScope st) f cdv A outer s H E).env (bodyX P w K mg base N qual (defScope st) f cdv A outer s H E).xe →
   MadeX (bodyX P w K mg base N qual (defScope st) f cdv A outer s H E) ⟨K,C,H,Z,E⟩ →
   ∀ ds,ds.length=ps.length→∃ l:L Unit,fn ds=outL l∧FL (bodyX P w K mg base N qual (defScope st) f cdv A outer s H E) ⟨K,C,H,Z,E⟩ (startS N.length ds) (defBody st) JU l) :
  FnOk P w K mg base (CXE P w) (k+1) f fd ps (spF K C ps.length fn):=by
 obtain⟨oc,od,kV,doc,pm,an,cdv,ct,osl,rfl,lk,hcd⟩:=F.ex
 refine tJ lk hcd S (fun vs H Q E q=>q.1) fun A outer s H vs Q E hr hsp=>?_
 obtain⟨hv,Z,ds,z,r,w⟩:=hsp
 obtain⟨l,e,hl⟩:=h cdv A outer s H Z E ⟨hr,rfl,rfl,jD⟩ PassesOwn.leaving (fun pins σ H1 s1 h1 ea C1 args I hx hE=>oh I hx hE) ds (by rw[r.length];exact hv)
 refine⟨_,hl,Z,kY (F:=⟨K,C,H,Z,E⟩) (N:=N) z r,?_⟩
 rw[e]at w
 cases l with
 | nx u=>exact fun S' ρ' H' Z' _ _ ok=>w H' Z' ok.ex .non (by rw[Rep])
 | rt d=>exact fun v H' Z' x rv=>w H' Z' x v rv
 | er k=>exact w
 | stuck=>exact w
end
theorem len1 {ds:List D}(h:ds.length=1):∃ a,ds=[a]:=by
 match ds,h with
 | [a],_=>exact⟨a,rfl⟩
theorem len2 {ds:List D}(h:ds.length=2):∃ a b,ds=[a,b]:=by
 match ds,h with
 | [a,b],_=>exact⟨a,b,rfl⟩
theorem len3 {ds:List D}(h:ds.length=3):∃ a b c,ds=[a,b,c]:=by
 match ds,h with
 | [a,b,c],_=>exact⟨a,b,c,rfl⟩
theorem len4 {ds:List D}(h:ds.length=4):∃ a b c d,ds=[a,b,c,d]:=by
 match ds,h with
 | [a,b,c,d],_=>exact⟨a,b,c,d,rfl⟩
theorem len5 {ds:List D}(h:ds.length=5):∃ a b c d e,ds=[a,b,c,d,e]:=by
 match ds,h with
 | [a,b,c,d,e],_=>exact⟨a,b,c,d,e,rfl⟩
end FF
end
noncomputable section
namespace FF
open PySem PySem.Spec PyProof.Rows L2
section
variable {X:Cx}{F:Fx}{st:Stmt}{i:Nat}{g ge:SS→R D}
end
section
variable {X:Cx}{F:Fx}{pins:List (Addr×Obj)}{σ:St}{H Z:Hp}{s:Shared}
open Classical in
end
section
variable {X:Cx}{F:Fx}{a b:Expr}{ga gb:SS→R D}{pos:Pos}{k:Nat}
end
section
variable {X:Cx}{F:Fx}{p pos:Pos}{e e2:Expr}{gs:SS→R (List D)}{k:Nat}
theorem mG:CallD F (fun xs H Q=>(∃ i,xs=[.int i]∧Q (.int i) H)∨∃ k,xs=[.bl k]∧Q (.int (if k then 1 else 0)) H) dIntB:=by
 intro H Z xs ds Q s rs w
 unfold dIntB at w
 split at w
 ·rename_i b
  obtain⟨v,rfl,h⟩:=bp rs
  rw[Rep]at h
  subst h
  exact .inr ⟨b,rfl,WG.now w s _ aH⟩
 ·exact w.elim
theorem sB (bx:BX X F k)(hg:Gl X "int")(hm:X.mg "int"=none)(ha:FA X F [e] gs)(he:starEach [e] X.env=(false,eval e X.env)::starEach [] X.env:=by rfl)(hpl:(backTo pos (starEach [] X.env)).any (·.1)=false:=by rfl) :
  FE X F (.Call (.Name "int" p) [e] [] pos) (eCall dIntB gs):=jG nY mG hg hm (by decide +kernel) ha (he:=he) (hpl:=hpl)
end
section
variable {X:Cx}{F:Fx}{pos p1 p2:Pos}{x y:Str}{kk:Nat}
end
end FF
end
noncomputable section
namespace FF
open PySem PySem.Spec PyProof.Rows L2
theorem gw:∀ (l acc:List Int),l.foldl step_dedup acc=acc++(l.filter fun x=>!acc.any (· == x)).eraseDups
 | [],acc=>by simp
 | x::l,acc=>by
  rw[List.foldl_cons,gw l]
  unfold step_dedup
  by_cases h:acc.any (· == x)=true
  ·rw[if_pos h,List.filter_cons_of_neg (by rw[h];decide)]
  ·have h':acc.any (· == x)=false:=Bool.not_eq_true _ ▸ h
   have ef:(l.filter fun y=>!(acc++[x]).any (· == y))=(l.filter fun y=>!acc.any (· == y)).filter fun b=>!b==x:=by
    rw[List.filter_filter]
    refine List.filter_congr fun y _=>?_
    rw[List.any_append]
    have:([x].any fun z=>z==y)=(y==x):=by simp[Bool.beq_comm,BEq.comm]
    rw[this]
    cases acc.any (· == y)<;>cases (y==x)<;>rfl
   rw[if_neg h,List.filter_cons_of_pos (by rw[h'];rfl),List.eraseDups_cons,ef,List.append_assoc]
   rfl
theorem jl (is:List Int):(firstMet (fun i=>is.getD i 0) is.length).length=is.eraseDups.length:=by
 unfold firstMet
 rw[gw]
 have:(List.range is.length).map (fun i=>is.getD i 0)=is:=by
  apply List.ext_getElem?
  intro i
  rw[List.getElem?_map]
  by_cases h:i < is.length
  ·rw[List.getElem?_range h,List.getElem?_eq_getElem h];simp[List.getD,h]
  ·rw[List.getElem?_eq_none (by simpa using h),List.getElem?_eq_none (by simpa using h)];rfl
 rw[this]
 have:(is.filter fun x=>!([]:List Int).any (· == x))=is:=List.filter_eq_self.mpr fun _ _=>rfl
 rw[this,List.nil_append]
section
variable {X:Cx}{F:Fx}{p p2 pos pos2:Pos}{e:Expr}{gs:SS→R (List D)}{k:Nat}
theorem qq (hc:X.calm=true):CallR X (.type "set") (fun xs H Q=>∃ (p:Addr) (is:List Int),xs=[.ref p]∧SqL X.K H p (is.map V.int)∧is.length≤4000∧∀ a,H a=none→Q (.ref a) (upd H a (.set (fun k'=>(firstMet (fun i=>is.getD i 0) is.length).any (· == k')) is.eraseDups.length))):=by
 intro pins s σ H xs us Q I r h
 obtain⟨p,is,rfl,hq,hl,q⟩:=h
 obtain⟨u,rfl,ru⟩:=vals1 r
 cases ru
 obtain⟨its,rv,pl,hz⟩:=I.list hq
 obtain⟨ps,rfl,e⟩:=ck rv
 have hlen:ps.length=is.length:=by rw[← e,List.length_map]
 have hs:(ps.map fun p=>Value.int p.1 p.2).toArray.size=is.length:=by simp[hlen]
 refine call_set_list (ns:=is) (I.ok.hd hc) pl.isList ?_ (by rw[hs];show is.length+1 < 4096;omega) fun h' tk hS hk=>?_
 ·have:∀ (ps:List (Int×Tok)),IntsAre (ps.map fun p=>Value.int p.1 p.2) (ps.map (·.1)):=by
   intro ps
   induction ps with
   | nil=>exact .nil
   | cons a l ih=>exact .cons a.1 a.2 ih
  rw[← e]
  exact this ps
 ·rw[hs,jl]at hS
  exact⟨.ref s.heap.objs.size,_,I.laid (o:=.set (fun k'=>(firstMet (fun i=>is.getD i 0) is.length).any (· == k')) is.eraseDups.length) (t':=tk) (fun b u q=>hk b u (Heap.lt_size q) q) (Nat.le_refl _) hS,rfl,q _ I.fresh⟩
theorem lu:CallR X (.builtin "len") (fun xs H Q=>∃ (a:Addr) (S:Int→Bool) (n:Nat),xs=[.ref a]∧H a=some (.set S n)∧Q (.int n) H):=by
 intro pins s σ H xs us Q I r h
 obtain⟨a,S,n,rfl,hq,q⟩:=h
 obtain⟨u,rfl,ru⟩:=vals1 r
 cases ru
 obtain⟨o,es,ep,t,h1,h2,h3,h4,h5,h6,h7,h8⟩:=(show s.heap.SetOf (intKind X.prog X.w) a S n from I.hok a _ hq)
 subst h8
 have:es.size < 4096:=h6
 exact call_len_set h1 h2 h3 h7 (by omega) ⟨.int es.size,H,I.tok _,⟨_,rfl⟩,q⟩
theorem oD (bx:BX X F k)(hg:Gl X "len")(hm:X.mg "len"=none)(hg2:Gl X "set")(hm2:X.mg "set"=none)(ha:FA X F [e] gs)(he:starEach [e] X.env=(false,eval e X.env)::starEach [] X.env:=by rfl)(hpl:(backTo pos2 (starEach [] X.env)).any (·.1)=false:=by rfl)
  (he2:starEach [.Call (.Name "set" p2) [e] [] pos2] X.env=(false,eval (.Call (.Name "set" p2) [e] [] pos2) X.env)::starEach [] X.env:=by rfl) (hpl2:(backTo pos (starEach [] X.env)).any (·.1)=false:=by rfl) :
  FE X F (.Call (.Name "len" p) [.Call (.Name "set" p2) [e] [] pos2] [] pos) (eCall dLenSet gs) :=
 (g8 lu hg hm PySem.boot_len (gP (jB (qq bx.calm) hg2 hm2 (by decide +kernel) ha (he:=he) (hpl:=hpl)) mq he2) (he:=he2) (hpl:=hpl2)).weak fun σ H Q ⟨Z,S,ok,w⟩=>by
  refine bf ok w fun ds vs H1 Z1 ok1 x1 rs w1=>?_
  unfold dLenSet at w1
  split at w1
  ·rename_i xs
   split at w1
   ·rename_i is e
    split at w1
    ·rename_i hl
     obtain⟨v,rfl,h⟩:=bp rs
     rw[Rep]at h
     obtain⟨a,us,rfl,h1,h2⟩:=h
     have e2:=eI h2 e
     subst e2
     refine⟨a,is,rfl,by rw[bx.K];exact ok1.sub.seq h1,hl,fun c hc=>⟨c,_,_,rfl,ap,?_⟩⟩
     exact w1 _ _ (Ex.hidden ok1.sub hc) _ aH
    ·exact w1.elim
   ·exact w1.elim
  ·exact w1.elim
end
end FF
end
noncomputable section
namespace FF
open PySem PySem.Spec PyProof.Rows L2
section
variable {X:Cx}{F:Fx}
def gNames:List Nat→TGs
 | []=>gNil
 | i::r=>gCons (gName i) (gNames r)
theorem jK {H Z:Hp}{Q:St→Hp→Prop}:∀ (ix:List Nat) (ds:List D) (vs:List V) (S:SS) (σ:St),ds.length=ix.length→Reps F.K F.C Z ds vs→StOk F H Z S σ→(∀ σ',StOk F H Z (setAll ix ds S) σ'→Q σ' H)→gNames ix vs σ H Q
 | [],[],vs,S,σ,_,rs,ok,h=>by
  rw[Reps]at rs
  subst rs
  exact⟨rfl,h σ ok⟩
 | i::ix,d::ds,vs,S,σ,hl,rs,ok,h=>by
  rw[Reps]at rs
  obtain⟨v,r,rfl,q,rs⟩:=rs
  exact⟨v,r,rfl,jK ix ds r _ _ (by simpa using hl) rs (ok.setVal (i:=i) q) h⟩
 | [],_::_,_,_,_,hl,_,_,_=>by simp at hl
 | _::_,[],_,_,_,hl,_,_,_=>by simp at hl
theorem iz {es:List Expr}{kk:Nat}{pos:Pos}(ix:List Nat)(hc:X.calm=true)(h:PGs X es (gNames ix))(hn:(assignEach es X.env).length=ix.length)(hst:(assignEach es X.env).findIdx? (·.1)=none)(hK:X.K=F.K):FG X F (.Tuple es kk pos) (gTup ix) :=
 (ue hc h hn hst).weak fun v σ H Q ⟨Z,S,d,ok,rd,w⟩=>by
  cases d with
  | tup ds =>
   by_cases hl:ds.length=ix.length
   ·have w':WG F H Z (R.ok (setAll ix ds S)) fun S' H' Z'=>∀ σ',StOk F H' Z' S' σ'→Q σ' H':=by
     have e:gTup ix (.tup ds) S=R.ok (setAll ix ds S):=by unfold gTup;simp[hl]
     rw[e]at w;exact w
    have rd':=rd
    rw[Rep]at rd'
    obtain⟨c,vs,rfl,h1,h2⟩:=rd'
    refine⟨c,vs,rfl,by rw[hK];exact h1.mono ok.sub,by rw[← h2.length,hl],?_⟩
    exact jK ix ds vs S σ hl h2 ok (WG.now w' ok.sub)
   ·have e:gTup ix (.tup ds) S=R.stuck:=by unfold gTup;simp[hl]
    rw[e]at w
    exact w.elim
  | _=>exact w.elim
theorem ko {tg e:Expr}{pos:Pos}{ge:SS→R D}{g:D→SS→R SS}(he:FE X F e ge)(hg:FG X F tg g)(hs:swapsWithSole [tg] e pos.line X.env=pure false)(hw:swappedStores [tg] e X.env=pure none)(h1:(assignEach [tg] X.env).map (·.2)=[assign tg X.env]):FS X F (.Assign [tg] e pos) (sAsg g ge) :=
 (uf he hg hs hw h1).weak fun D σ H ⟨Z,S,ok,w⟩=>aF ok (WO.wg ok w) fun d v H1 Z1 ok1 x1 rv w1=>by
  refine⟨Z1,S,d,ok1,rv,?_⟩
  cases q:g d S with
  | ok S1 =>
   rw[q]at w1
   intro H' Z' x' σ' ok'
   exact(w1 H' Z' x') _ _ _ (Same.refl _) ok'
  | err k=>rw[q]at w1;exact w1
  | stuck=>rw[q]at w1;exact w1
variable {σ:Type}{S:SS}{rest:List Stmt}{J:σ→SS→Prop}{e:Expr}{ge:SS→R D}{r:R D}{n:Nat}
theorem qu {tg:Expr}{pos:Pos}{ix:List Nat}{U:D→L σ}(h:FS X F (.Assign [tg] e pos) (sAsg (gTup ix) ge))(hr:ge S=r)
  (hU:∀ d,(∃ ds,d=.tup ds∧ds.length=ix.length∧FL X F (setAll ix ds S) rest J (U d))∨(gTup ix d S=.stuck∧U d=.stuck)):FL X F S (.Assign [tg] e pos::rest) J (lB r U):=by
 have hg:sAsg (gTup ix) ge S=rO ((r.bind fun d=>(gTup ix d S).bind fun S1=>R.ok (d,S1)).bind fun p=>.ok (.nx p.2)):=by
  unfold sAsg
  rw[hr]
  cases r with
  | ok d=>show rO ((gTup ix d S).bind _)=rO (((gTup ix d S).bind _).bind _);cases gTup ix d S<;>rfl
  | err k=>rfl
  | stuck=>rfl
 cases r with
 | ok d =>
  rcases hU d with ⟨ds,rfl,hl,hk⟩ | ⟨e1,e2⟩
  ·have e3:gTup ix (.tup ds) S=.ok (setAll ix ds S):=by unfold gTup;simp[hl]
   have:sAsg (gTup ix) ge S=.nx (setAll ix ds S):=by
    unfold sAsg;rw[hr];show rO ((gTup ix (.tup ds) S).bind _)=_;rw[e3];rfl
   exact bb h this hk
  ·show FL X F S _ J (U d)
   rw[e2]
   intro pins s σ' H D I ⟨Z,ok,w⟩
   exact w.elim
 | err k=>exact aj (k:=fun (p:D×SS)=>L.stuck) (S':=fun p=>p.2) (r:=R.err k) h (by unfold sAsg;rw[hr];rfl) (fun a=>by intro pins s σ' H D I ⟨Z,ok,w⟩;exact w.elim)
 | stuck=>intro pins s σ' H D I ⟨Z,ok,w⟩;exact w.elim
theorem uR (i j:Nat){x y:Str}{p1 p2 tp pos:Pos}{kk:Nat}{S':D→D→SS}{k:D→D→L σ}(bx:BX X F n)(hN:X.N.Nodup)(he:FE X F e ge)(hr:ge S=r)(hS:∀ a b,(S.set i (some (.val a))).set j (some (.val b))=S' a b)(hk:∀ a b,FL X F (S' a b) rest J (k a b))
  (hi:X.N[i]?=some x:=by rfl) (hj:X.N[j]?=some y:=by rfl) (hx:Loc X.env.scope x:=by first | exact Or.inl rfl | exact Or.inr rfl) (hy:Loc X.env.scope y:=by first | exact Or.inl rfl | exact Or.inr rfl)
  (hfx:X.fn x=true∨X.env.scope.names.lookup x=some .local:=by first | exact .inl rfl | exact .inr rfl) (hfy:X.fn y=true∨X.env.scope.names.lookup y=some .local:=by first | exact .inl rfl | exact .inr rfl)
  (hn:(assignEach [.Name x p1,.Name y p2] X.env).length=2:=by rfl) (hst:(assignEach [.Name x p1,.Name y p2] X.env).findIdx? (·.1)=none:=by rfl)
  (hs:swapsWithSole [.Tuple [.Name x p1,.Name y p2] kk tp] e pos.line X.env=pure false:=by rfl) (hw:swappedStores [.Tuple [.Name x p1,.Name y p2] kk tp] e X.env=pure none:=by rfl)
  (h1:(assignEach [.Tuple [.Name x p1,.Name y p2] kk tp] X.env).map (·.2)=[assign (.Tuple [.Name x p1,.Name y p2] kk tp) X.env]:=by rfl):FL X F S (.Assign [.Tuple [.Name x p1,.Name y p2] kk tp] e pos::rest) J (lB r fun d=>lUn2 d fun a b=>k a b):=by
 refine qu (ix:=[i,j]) (ko he (iz [i,j] bx.calm (cq (cI hN hi hx hfx) (cq (cI hN hj hy hfy) j4)) hn hst bx.K) hs hw h1) hr fun d=>?_
 cases d with
 | tup ds =>
  match ds with
  | [a,b]=>exact .inl ⟨_,rfl,rfl,by have:=hk a b;rw[← hS]at this;exact this⟩
  | []=>exact .inr ⟨rfl,rfl⟩
  | [_]=>exact .inr ⟨rfl,rfl⟩
  | _::_::_::_=>exact .inr ⟨by unfold gTup;simp,rfl⟩
 | _=>exact .inr ⟨rfl,rfl⟩
theorem uS (i j l:Nat){x y z:Str}{p1 p2 p3 tp pos:Pos}{kk:Nat}{S':D→D→D→SS}{k:D→D→D→L σ}(bx:BX X F n)(hN:X.N.Nodup)(he:FE X F e ge)(hr:ge S=r)(hS:∀ a b c,((S.set i (some (.val a))).set j (some (.val b))).set l (some (.val c))=S' a b c)(hk:∀ a b c,FL X F (S' a b c) rest J (k a b c))
  (hi:X.N[i]?=some x:=by rfl) (hj:X.N[j]?=some y:=by rfl) (hl:X.N[l]?=some z:=by rfl) (hx:Loc X.env.scope x:=by first | exact Or.inl rfl | exact Or.inr rfl) (hy:Loc X.env.scope y:=by first | exact Or.inl rfl | exact Or.inr rfl) (hz:Loc X.env.scope z:=by first | exact Or.inl rfl | exact Or.inr rfl)
  (hfx:X.fn x=true∨X.env.scope.names.lookup x=some .local:=by first | exact .inl rfl | exact .inr rfl) (hfy:X.fn y=true∨X.env.scope.names.lookup y=some .local:=by first | exact .inl rfl | exact .inr rfl) (hfz:X.fn z=true∨X.env.scope.names.lookup z=some .local:=by first | exact .inl rfl | exact .inr rfl)
  (hn:(assignEach [.Name x p1,.Name y p2,.Name z p3] X.env).length=3:=by rfl) (hst:(assignEach [.Name x p1,.Name y p2,.Name z p3] X.env).findIdx? (·.1)=none:=by rfl)
  (hs:swapsWithSole [.Tuple [.Name x p1,.Name y p2,.Name z p3] kk tp] e pos.line X.env=pure false:=by rfl) (hw:swappedStores [.Tuple [.Name x p1,.Name y p2,.Name z p3] kk tp] e X.env=pure none:=by rfl)
  (h1:(assignEach [.Tuple [.Name x p1,.Name y p2,.Name z p3] kk tp] X.env).map (·.2)=[assign (.Tuple [.Name x p1,.Name y p2,.Name z p3] kk tp) X.env]:=by rfl):FL X F S (.Assign [.Tuple [.Name x p1,.Name y p2,.Name z p3] kk tp] e pos::rest) J (lB r fun d=>lUn3 d fun a b c=>k a b c):=by
 refine qu (ix:=[i,j,l]) (ko he (iz [i,j,l] bx.calm (cq (cI hN hi hx hfx) (cq (cI hN hj hy hfy) (cq (cI hN hl hz hfz) j4))) hn hst bx.K) hs hw h1) hr fun d=>?_
 cases d with
 | tup ds =>
  match ds with
  | [a,b,c]=>exact .inl ⟨_,rfl,rfl,by have:=hk a b c;rw[← hS]at this;exact this⟩
  | []=>exact .inr ⟨rfl,rfl⟩
  | [_]=>exact .inr ⟨rfl,rfl⟩
  | [_,_]=>exact .inr ⟨rfl,rfl⟩
  | _::_::_::_::_=>exact .inr ⟨by unfold gTup;simp,rfl⟩
 | _=>exact .inr ⟨rfl,rfl⟩
end
end FF
end
noncomputable section
namespace L2
open PySem PySem.Spec PyProof.Rows
section
variable {X:Cx}{pos:Pos}
end
end L2
namespace FF
open PySem PySem.Spec PyProof.Rows L2
section
variable {X:Cx}{F:Fx}{σ:Type}{S:SS}{st:Stmt}{rest:List Stmt}{J:σ→SS→Prop}
end
end FF
end
noncomputable section
namespace FF
open PySem PySem.Spec PyProof.Rows L2
section
variable {prog:Program}{w:World}{A:Around}{E:Value→Shared→Prop}{s:Shared}
end
end FF
end
noncomputable section
namespace FF
open PySem PySem.Spec PyProof.Rows L2
section
variable {X:Cx}{pins:List (Addr×Obj)}{σ:St}{H:Hp}{s:Shared}{h':Heap}
end
section
variable {X:Cx}{F:Fx}{a b:Expr}{ga gb:SS→R D}{k:Nat}
end
end FF
end
noncomputable section
namespace FF
open PySem PySem.Spec PyProof.Rows L2
section
variable {prog:Program}{w:World}{A:Around}{R:Result→Shared→Prop}{I S:Addr}{res:Value}{n:Nat}
end
section
variable {X:Cx}{pins:List (Addr×Obj)}{σ:St}{H1:Hp}{S z TI TO i1 i2 a1 a2:Addr}{b1 b2:Bool}{xs ys:List V}
end
section
variable {X:Cx}{F:Fx}{a b:Expr}{ga gb:SS→R D}{k:Nat}
end
end FF
end
noncomputable section
namespace FF
open PySem PySem.Spec PyProof.Rows L2
section
variable {X:Cx}{F:Fx}{e:Expr}{g:SS→R D}{k:Nat}{l:List (Str×Nat)}{x:Str}{p pos:Pos}
end
section
variable {prog:Program}{w:World}{A:Around}{E:Value→Shared→Prop}{s:Shared}
end
section
variable {X:Cx}{F:Fx}{k:Nat}{l:List (Str×Nat)}{x:Str}{p p2 pos:Pos}
end
end FF
end
noncomputable section
namespace FF
open PySem PySem.Spec PyProof.Rows L2
open AutoSeq1 (wpAny_loadPart')
section
variable {prog:Program}{w:World}{A:Around}{E:Value→Shared→Prop}{s:Shared}
end
section
variable {prog:Program}{w:World}{A:Around}{E:Value→Shared→Prop}{s:Shared}
end
section
variable {X:Cx}{F:Fx}{a:Expr}{ga:SS→R D}{k:Nat}
end
end FF
end
noncomputable section
namespace FF
open PySem PySem.Spec PyProof.Rows L2
section
variable {X:Cx}{F:Fx}{a:Expr}{ga:SS→R D}{k:Nat}{p p2 pos pos2:Pos}
end
section
variable {prog:Program}{w:World}{A:Around}{E:Value→Shared→Prop}{s:Shared}
end
section
variable {X:Cx}{F:Fx}
variable {σ:Type}{S:SS}{rest:List Stmt}{J:σ→SS→Prop}{e:Expr}{ge:SS→R D}{r:R D}{n:Nat}
end
end FF
end
noncomputable section
namespace FF
open PySem PySem.Spec PyProof.Rows L2
section
variable {X:Cx}{F:Fx}
theorem qv (i j:Nat){x y:Str}{p1 p2 tp pos pt2:Pos}{k k2:_}{n:Nat}{a b:Expr}{gs:SS→R (List D)}(bx:BX X F n)(hN:X.N.Nodup)(ha:FA X F [a,b] gs)(hi:X.N[i]?=some x:=by rfl)(hj:X.N[j]?=some y:=by rfl)
  (hx:Loc X.env.scope x:=by first | exact Or.inl rfl | exact Or.inr rfl) (hy:Loc X.env.scope y:=by first | exact Or.inl rfl | exact Or.inr rfl)
  (hfx:X.fn x=true∨X.env.scope.names.lookup x=some .local:=by first | exact .inl rfl | exact .inr rfl) (hfy:X.fn y=true∨X.env.scope.names.lookup y=some .local:=by first | exact .inl rfl | exact .inr rfl)
  (hn:(assignEach [.Name x p1,.Name y p2] X.env).length=2:=by rfl) (hst:(assignEach [.Name x p1,.Name y p2] X.env).findIdx? (·.1)=none:=by rfl)
  (hs:swapsWithSole [.Tuple [.Name x p1,.Name y p2] k tp] (.Tuple [a,b] k2 pt2) pos.line X.env=pure false:=by rfl) (hw:swappedStores [.Tuple [.Name x p1,.Name y p2] k tp] (.Tuple [a,b] k2 pt2) X.env=pure none:=by rfl)
  (h1:(assignEach [.Tuple [.Name x p1,.Name y p2] k tp] X.env).map (·.2)=[assign (.Tuple [.Name x p1,.Name y p2] k tp) X.env]:=by rfl) :
  FS X F (.Assign [.Tuple [.Name x p1,.Name y p2] k tp] (.Tuple [a,b] k2 pt2) pos) (sAsg (gTup [i,j]) (eTup gs)) :=
 ko (pN ha) (iz [i,j] bx.calm (cq (cI hN hi hx hfx) (cq (cI hN hj hy hfy) j4)) hn hst bx.K) hs hw h1
end
end FF
end
noncomputable section
namespace FF
open PySem PySem.Spec PyProof.Rows L2
def capB (XN:List Str)(scope:Scope)(N:List Str)(own:Nat):Nat→List Nat→Bool
 | _,[]=>true
 | j,i::r=>(match N[own+j]?,XN[i]? with
  | some x,some y=>x==y&&scope.names.lookup x==some .free
  | _,_=>false)&&capB XN scope N own (j+1) r
def blkB (XN:List Str)(osc scope:Scope)(N:List Str)(own:Nat)(cap:List Nat):Bool :=
 scope.kind==.function&&(scope.names.all fun y=>scope.names.lookup y.1==some y.2)&&(scope.names.all fun y=>!(y.2==.free)||(osc.names.lookup y.1==some .cell||osc.names.lookup y.1==some .free))&&N.length==own+cap.length&&capB XN scope N own 0 cap
theorem nI {XN:List Str}{scope:Scope}{N:List Str}{own:Nat}:∀ {cap:List Nat} {k:Nat},capB XN scope N own k cap=true→∀ j i,cap[j]?=some i→∃ x,N[own+(k+j)]?=some x∧XN[i]?=some x∧scope.names.lookup x=some .free
 | [],_,_,j,i,e=>by simp at e
 | c::r,k,h,j,i,e=>by
  unfold capB at h
  rw[Bool.and_eq_true]at h
  cases j with
  | zero =>
   simp only[List.getElem?_cons_zero,Option.some.injEq]at e
   subst e
   have h1:=h.1
   split at h1
   ·rename_i x y e1 e2
    rw[Bool.and_eq_true]at h1
    have:=eq_of_beq h1.1
    subst this
    exact⟨x,by rw[Nat.add_zero];exact e1,e2,eq_of_beq h1.2⟩
   ·cases h1
  | succ j =>
   obtain⟨x,a,b⟩:=nI h.2 j i (by simpa using e)
   exact⟨x,by rw[← a];congr 1;omega,b⟩
theorem BlkOk.of {XN:List Str}{osc scope:Scope}{N:List Str}{own:Nat}{cap:List Nat}(h:blkB XN osc scope N own cap=true):BlkOk XN osc scope N own cap:=by
 unfold blkB at h
 simp only[Bool.and_eq_true,List.all_eq_true]at h
 obtain⟨⟨⟨⟨h1,h2⟩,h3⟩,h4⟩,h5⟩:=h
 have look:∀ y∈scope.names,scope.names.lookup y.1=some y.2:=fun y hy=>eq_of_beq (h2 y hy)
 refine⟨eq_of_beq h1,fun y hy e=>by rw[look y hy,e],fun y hy e=>by rw[look y hy,e],fun y hy e=>by rw[look y hy,e],fun y hy e=>?_,eq_of_beq h4,fun j i e=>?_⟩
 ·have:=h3 y hy
  rw[e]at this
  simp only[beq_self_eq_true,Bool.not_true,Bool.false_or,Bool.or_eq_true]at this
  rcases this with z | z
  ·exact .inl (eq_of_beq z)
  ·exact .inr (eq_of_beq z)
 ·have:=nI h5 j i e
  rw[Nat.zero_add]at this
  exact this
end FF
end
noncomputable section
namespace FF
open PySem PySem.Spec PyProof.Rows L2
section
variable {X:Cx}{F:Fx}{o e:Expr}{g:SS→R D}{gs:List (SS→R D)}{apos cpos:Pos}{k:Nat}
end
end FF
end
noncomputable section
namespace FF
open PySem PySem.Spec PyProof.Rows L2
def OkD (P:Program)(w:World)(K:PySem.W.Frag)(mg:Str→Option Value)(base:Heap)(C:Nat→Addr)(k:Nat)(x:Str)(st:Stmt)(ps:List Str)(fn:List D→R D):Prop :=
 ∀ {f:Addr} {fd:FuncData},Fun K x x st f fd→FnOk P w K mg base (CXE P w) (k+1) f fd ps (spF K C ps.length fn)
def OkB (P:Program)(w:World)(K:PySem.W.Frag)(mg:Str→Option Value)(base:Heap)(C:Nat→Addr)(k:Nat)(N:List Str)(x:Str)(st:Stmt)(ds:List D)(l:L Unit):Prop :=
 ∀ (f:Addr) (cdv:Value) (A:Around) (outer:List Env) (s:Shared) (H Z:Hp) (E:XK),BX (bodyX P w K mg base N x (defScope st) f cdv A outer s H E) ⟨K,C,H,Z,E⟩ k →
  PassesOwn (model P w) (bodyX P w K mg base N x (defScope st) f cdv A outer s H E).A (bodyX P w K mg base N x (defScope st) f cdv A outer s H E).env (bodyX P w K mg base N x (defScope st) f cdv A outer s H E).xe →
  MadeX (bodyX P w K mg base N x (defScope st) f cdv A outer s H E) ⟨K,C,H,Z,E⟩→FL (bodyX P w K mg base N x (defScope st) f cdv A outer s H E) ⟨K,C,H,Z,E⟩ (startS N.length ds) (defBody st) JU l
theorem mkSc {N ps:List Str}{sc:Scope}(a:sc.kind=.function:=by rfl)(b:sc.isCoroutine=false:=by rfl)(c:sc.isGenerator=false:=by rfl)(d:N.Nodup:=by decide +kernel)(e:N.take ps.length=ps:=by rfl)
  (f:∀ x∈ps,sc.names.lookup x=some .local∨sc.names.lookup x=some .cell:=by decide +kernel) (g:∀ y∈sc.names,y.2≠.free:=by decide +kernel):FnScope N ps sc:=⟨a,b,c,d,e,f,g⟩
section
variable {P:Program}{w:World}{K:PySem.W.Frag}{mg:Str→Option Value}{base:Heap}{C:Nat→Addr}{k:Nat}{N ps:List Str}{x:Str}{st:Stmt}
theorem okd {fn:List D→R D}(S:FnScope N ps (defScope st))(h:∀ ds,ds.length=ps.length→∃ l,fn ds=outL l∧OkB P w K mg base C k N x st ds l):OkD P w K mg base C k x st ps fn:=fun F =>
 sA F S fun cdv A outer s H Z E bx hp md ds hl=>by
  obtain⟨l,e,o⟩:=h ds hl
  exact⟨l,e,o _ cdv A outer s H Z E bx hp md⟩
theorem ok1 {p:Str}{c:D→L Unit}(S:FnScope N [p] (defScope st))(h:∀ a,OkB P w K mg base C k N x st [a] (c a)):OkD P w K mg base C k x st [p] (a1 c):=okd S fun ds hl=>by obtain⟨a,rfl⟩:=len1 hl;exact⟨c a,rfl,h a⟩
theorem ok2 {p q:Str}{c:D→D→L Unit}(S:FnScope N [p,q] (defScope st))(h:∀ a b,OkB P w K mg base C k N x st [a,b] (c a b)):OkD P w K mg base C k x st [p,q] (a2 c):=okd S fun ds hl=>by obtain⟨a,b,rfl⟩:=len2 hl;exact⟨c a b,rfl,h a b⟩
theorem ok3 {p q r:Str}{c:D→D→D→L Unit}(S:FnScope N [p,q,r] (defScope st))(h:∀ a b d,OkB P w K mg base C k N x st [a,b,d] (c a b d)):OkD P w K mg base C k x st [p,q,r] (a3 c):=okd S fun ds hl=>by obtain⟨a,b,d,rfl⟩:=len3 hl;exact⟨c a b d,rfl,h a b d⟩
theorem ok4 {p q r s:Str}{c:D→D→D→D→L Unit}(S:FnScope N [p,q,r,s] (defScope st))(h:∀ a b d e,OkB P w K mg base C k N x st [a,b,d,e] (c a b d e)):OkD P w K mg base C k x st [p,q,r,s] (a4 c):=okd S fun ds hl=>by obtain⟨a,b,d,e,rfl⟩:=len4 hl;exact⟨c a b d e,rfl,h a b d e⟩
theorem ok5 {p q r s t:Str}{c:D→D→D→D→D→L Unit}(S:FnScope N [p,q,r,s,t] (defScope st))(h:∀ a b d e f,OkB P w K mg base C k N x st [a,b,d,e,f] (c a b d e f)):OkD P w K mg base C k x st [p,q,r,s,t] (a5 c):=okd S fun ds hl=>by obtain⟨a,b,d,e,f,rfl⟩:=len5 hl;exact⟨c a b d e f,rfl,h a b d e f⟩
structure Fd (K:PySem.W.Frag)(mg:Str→Option Value)(x:Str)(ps:List Str)(st:Stmt):Prop where
 ex:∃ a fd,Fun K x x st a fd∧mg x=some (.ref a)∧Binds K fd ps []
theorem lv {f:Addr}{fd:FuncData}{n:Nat}:FnOk P w K mg base (CXE P w) k f fd ps (spF K C n fun _=>.stuck) :=
 ⟨fun vs H Q E h=>by obtain⟨_,_,_,_,_,z⟩:=h;exact z.elim,fun A outer s H args us vs Q E _ _ _ _ h=>by obtain⟨_,_,_,_,_,z⟩:=h;exact z.elim⟩
theorem lw {i:Nat}(F:Fd K mg x ps st)(hf:mg x=some (.ref (C i))):FnV P w K mg base C 0 i fun _=>.stuck:=by
 obtain⟨a,fd,F,h,b⟩:=F.ex
 rw[hf]at h
 cases h
 exact⟨fd,ps,lv,F.kp,b,fun _ _=>rfl⟩
theorem lz {i:Nat}{fn:List D→R D}(F:Fd K mg x ps st)(hf:mg x=some (.ref (C i)))(ok:OkD P w K mg base C k x st ps fn)(hl:∀ ds,ds.length≠ps.length→fn ds=.stuck):FnV P w K mg base C (k+1) i fn:=by
 obtain⟨a,fd,F,h,b⟩:=F.ex
 rw[hf]at h
 cases h
 exact⟨fd,ps,ok F,F.kp,b,hl⟩
theorem g0 (F:Fd K mg x ps st):Fn1 P w K mg base C 0 x ps (fun _=>.stuck):=by obtain⟨a,fd,F,h,b⟩:=F.ex;exact⟨a,fd,lv,h,F.kp,b⟩
theorem g1 {fn:List D→R D}(F:Fd K mg x ps st)(ok:OkD P w K mg base C k x st ps fn):Fn1 P w K mg base C (k+1) x ps fn:=by obtain⟨a,fd,F,h,b⟩:=F.ex;exact⟨a,fd,ok F,h,F.kp,b⟩
section
variable {h:Heap}{f:Addr}{oc:Value}{od an:Option Addr}{osl:Array (Option Value)}{kV doc pm cdv ct:Value}
theorem vn (X:K.In h)(G:h.Ns mainGlobals mg)(hb:∀ (kV doc pm:Value) (an:Option Addr) (cdv ct:Value) (us:List Value),us.length=ps.length→bindArgs (PySem.W.fnOf x x (defArgs st) (defBody st) (defScope st) .none kV doc pm an cdv ct) ⟨us,[]⟩=pure (ps.zip us))
  (a:PySem.W.nsIn K mainGlobals x=some (some (.ref f))) (l:K.lookup f=some ⟨oc,od,.func (PySem.W.fnOf x x (defArgs st) (defBody st) (defScope st) .none kV doc pm an cdv ct),osl⟩) (c:PySem.W.codeIn K cdv x=true) (k:PySem.W.keepIn K (.ref f)=true):Fd K mg x ps st :=
 ⟨f,_,mt l c k,PySem.W.mg_of X G a,(mt l c k).binds hb⟩
end
theorem ln1 {us:List Value}(h:us.length=1):∃ a,us=[a]:=match us,h with | [a],_=>⟨a,rfl⟩
theorem ln2 {us:List Value}(h:us.length=2):∃ a b,us=[a,b]:=match us,h with | [a,b],_=>⟨a,b,rfl⟩
theorem ln3 {us:List Value}(h:us.length=3):∃ a b c,us=[a,b,c]:=match us,h with | [a,b,c],_=>⟨a,b,c,rfl⟩
theorem ln4 {us:List Value}(h:us.length=4):∃ a b c d,us=[a,b,c,d]:=match us,h with | [a,b,c,d],_=>⟨a,b,c,d,rfl⟩
end
abbrev Ng (K:PySem.W.Frag)(x:Str)(v:Option Value):Prop:=PySem.W.nsIn K mainGlobals x=some v
theorem aV {K:PySem.W.Frag}{n c:Addr}{b:Bool}{cd:ClassData}(hd:PySem.W.clsIn K c=some cd)(hy:PySem.W.typeIn K (.ref c)=some (.type "type"))(hs:PySem.W.subIn K (.ref n) (.ref c)=some b)(hn:PySem.W.subIn K (.ref n) (.ref n)=some true):PySem.W.kitOne K (.ref n) (.ref c)=some b:=by
 unfold PySem.W.kitOne
 by_cases e:n=c
 ·subst e
  rw[hn]at hs
  rw[if_pos (by simp)]
  exact hs
 ·rw[if_neg (by simpa using e)]
  show (if ((PySem.W.clsIn K c).isSome&&PySem.W.typeIn K (.ref c)==some (.type "type"))=true then PySem.W.subIn K (.ref n) (.ref c) else none)=some b
  rw[hd,hy,if_pos (by simp)]
  exact hs
theorem qw {K:PySem.W.Frag}{n:Addr}(hs:PySem.W.subIn K (.ref n) (.type "ValueError")=some true):PySem.W.kitOne K (.ref n) (.type "ValueError")=some true:=by
 unfold PySem.W.kitOne
 rw[if_neg (by simp)]
 show (if PySem.W.kitMeta "ValueError"=true then PySem.W.subIn K (.ref n) (.type "ValueError") else none)=some true
 rw[if_pos (by decide +kernel)]
 exact hs
theorem nJ {K:PySem.W.Frag}{C:Nat→Addr}{Z:Hp}:∀ ns:List Int,Reps K C Z (ns.map .int) (ns.map V.int)
 | []=>by rw[List.map_nil,List.map_nil,Reps]
 | i::ns=>by rw[List.map_cons,List.map_cons,Reps];exact⟨_,_,rfl,aH,nJ ns⟩
end FF
end
noncomputable section
namespace FF
open PySem PySem.Spec PyProof.Rows L2
section
variable {σ:Type}{X:Cx}{F:Fx}{S:SS}{J:σ→SS→Prop}
end
section
variable {X:Cx}{F:Fx}{e ey ex:Expr}{ge gy gx:SS→R D}{x:Str}{pos:Pos}{k:Nat}
end
section
variable {X:Cx}{F:Fx}{tg iter elt:Expr}{scope:Scope}{N:List Str}{own:Nat}{cap:List Nat}{pos:Pos}{git:SS→R (List D)}
end
section
variable {X:Cx}{F:Fx}{tg iter elt:Expr}{ifs:List Expr}{scope:Scope}{N:List Str}{own:Nat}{cap:List Nat}{pos:Pos}{git:SS→R (List D)}{g:D→SS→R SS}{gc:SS→R Bool}{ge:SS→R D}
end
end FF
end
noncomputable section
namespace FF
open PySem PySem.Spec PyProof.Rows L2
section
variable {X:Cx}{F:Fx}{p pos p1 p2 p3:Pos}{e:Expr}{g:SS→R D}{k:Nat}
end
end FF
end
noncomputable section
namespace L2
open PySem PySem.Spec PyProof.Rows
section
variable {κ:Type}[DecidableEq κ]
def valV (kvs:List (κ×V))(k:κ):Option V:=(kvs.find? fun kv=>decide (kv.1=k)).map (·.2)
theorem qx {p:κ×V}{r:List (κ×V)}{k:κ}(e:p.1=k):valV (p::r) k=some p.2:=by simp[valV,List.find?_cons,e]
theorem qy {p:κ×V}{r:List (κ×V)}{k:κ}(e:¬ p.1=k):valV (p::r) k=valV r k:=by simp[valV,List.find?_cons,e]
theorem KV.any {kvs:List (κ×V)}{vs:List (κ×Value)}(r:KV kvs vs)(k:κ):(kvs.any fun kv=>decide (kv.1=k))=vs.any fun kv=>decide (kv.1=k):=by
 unfold KV at r
 induction r with
 | nil=>rfl
 | cons h t ih=>rw[List.any_cons,List.any_cons,ih,h.1]
theorem KV.length {kvs:List (κ×V)}{vs:List (κ×Value)}(r:KV kvs vs):kvs.length=vs.length:=Paired.length r
end
section
variable {P:Program}{w:World}{H:Hp}{h:Heap}{a:Addr}
end
section
variable {X:Cx}{pins:List (Addr×Obj)}{σ:St}{H:Hp}{s:Shared}{a:Addr}{y v:V}{u r:Value}{o:Option V}{A:Around}{E:Value→Shared→Prop}
end
section
variable {X:Cx}{pins:List (Addr×Obj)}{σ:St}{H:Hp}{s:Shared}{a:Addr}{kvs:List (Key×V)}{k:Key}{u:Value}{A:Around}{E:Value→Shared→Prop}
end
section
variable {X:Cx}{o i e value:Expr}{pos pos' tpos:Pos}{td ty tv:TE}
end
section
variable {X:Cx}{pos:Pos}
end
section
variable {X:Cx}{pins:List (Addr×Obj)}{σ:St}{H:Hp}{s:Shared}{a:Addr}{y d:V}{u r:Value}{o:Option V}{A:Around}{E:Value→Shared→Prop}
end
section
variable {X:Cx}{o e f:Expr}{apos cpos:Pos}{td ty tx:TE}
end
section
variable {X:Cx}{pins:List (Addr×Obj)}{σ:St}{H:Hp}{s:Shared}{a:Addr}{kvs:List (Key×V)}{A:Around}{E:Value→Shared→Prop}
end
section
variable {X:Cx}{pins:List (Addr×Obj)}{σ:St}{H:Hp}{s:Shared}{a:Addr}{y:V}{u:Value}{A:Around}{E:Value→Shared→Prop}
end
end L2
end
noncomputable section
namespace FF
open PySem PySem.Spec PyProof.Rows L2
def dicGet {κ:Type}[DecidableEq κ](m:List (κ×D))(k:κ):Option D:=(m.find? fun p=>decide (p.1=k)).map (·.2)
section
variable {κ:Type}{F:Fx}{Z:Hp}{m:List (κ×D)}{kvs:List (κ×V)}{k:κ}{d:D}{v:V}
theorem Pairs.inv (h:Pairs F Z ((k,d)::m) kvs):∃ v r,kvs=(k,v)::r∧Rep F.K F.C Z d v∧Pairs F Z m r:=by
 cases kvs with
 | nil=>have:=h.1;cases this
 | cons p r =>
  obtain⟨k',v⟩:=p
  obtain⟨h1,h2⟩:=h
  rw[List.map_cons,List.map_cons]at h1
  injection h1 with h1 h3
  rw[List.map_cons,List.map_cons,Reps]at h2
  obtain⟨v',r',e,q1,q2⟩:=h2
  injection e with e1 e2
  subst e1 e2
  cases (show k'=k from h1)
  exact⟨v,r,rfl,q1,h3,q2⟩
theorem Pairs.inv0 (h:Pairs F Z ([]:List (κ×D)) kvs):kvs=[]:=by
 cases kvs with
 | nil=>rfl
 | cons p r=>have:=h.1;cases this
theorem Pairs.length (h:Pairs F Z m kvs):kvs.length=m.length:=by have:=congrArg List.length h.1;simpa using this
variable [DecidableEq κ]
theorem Pairs.get:∀ {m:List (κ×D)} {kvs:List (κ×V)},Pairs F Z m kvs→dicGet m k=some d→∃ v,valV kvs k=some v∧Rep F.K F.C Z d v
 | [],kvs,h,e=>nomatch e
 | (k',d')::m,kvs,h,e=>by
  obtain⟨v,q,rfl,h1,h2⟩:=h.inv
  unfold dicGet at e
  rw[List.find?_cons]at e
  by_cases hk:k'=k
  ·rw[decide_eq_true (show (k',d').1=k from hk)]at e
   cases e
   exact⟨v,qx (p:=(k',v)) hk,h1⟩
  ·rw[decide_eq_false (show ¬ (k',d').1=k from hk)]at e
   obtain⟨u,e1,e2⟩:=h2.get e
   exact⟨u,by rw[qy (p:=(k',v)) hk];exact e1,e2⟩
theorem Pairs.any:∀ {m:List (κ×D)} {kvs:List (κ×V)},Pairs F Z m kvs→(kvs.any fun kv=>decide (kv.1=k))=(m.any fun p=>decide (p.1=k))
 | [],kvs,h=>by rw[h.inv0];rfl
 | (k',d')::m,kvs,h=>by
  obtain⟨v,q,rfl,h1,h2⟩:=h.inv
  rw[List.any_cons,List.any_cons,h2.any]
end
section
variable {F:Fx}{H Z:Hp}{S:SS}{σ:St}
end
section
variable {X:Cx}{F:Fx}{pos p:Pos}{k:Nat}{g ge:SS→R D}{e ei:Expr}{x:Str}
end
section
variable {X:Cx}{F:Fx}{pos p:Pos}{keys:List (Option Expr)}{values:List Expr}{ks:List Key}{gs:List (SS→R D)}{g:SS→R D}{e:Expr}{x:Str}
end
end FF
end
noncomputable section
namespace FF
open PySem PySem.Spec PyProof.Rows L2
section
variable {X:Cx}{F:Fx}{p pos:Pos}{e:Expr}{gs:SS→R (List D)}{k:Nat}
end
end FF
end
noncomputable section
namespace FF
open PySem PySem.Spec PyProof.Rows L2
section
variable {X:Cx}{F:Fx}{pos p:Pos}{k:Nat}{ga gb:SS→R D}{a b:Expr}{x:Str}
end
end FF
end
noncomputable section
namespace FF
open PySem PySem.Spec PyProof.Rows L2
theorem e9 {α β:Type}{f g:α→Option β}:∀ {l:List α},(∀ x∈l,f x=g x)→l.filterMap f=l.filterMap g
 | [],_=>rfl
 | a::r,h=>by rw[List.filterMap_cons,List.filterMap_cons,h a List.mem_cons_self,e9 fun x hx=>h x (List.mem_cons_of_mem _ hx)]
theorem fR {α:Type}:∀ l:List α,(List.range l.length).filterMap (fun m=>l[l.length - 1 - m]?)=l.reverse
 | []=>rfl
 | a::r=>by
  rw[List.length_cons,List.range_succ,List.filterMap_append,List.reverse_cons]
  congr 1
  ·rw[← fR r]
   refine e9 fun m hm=>?_
   have hm:=List.mem_range.mp hm
   rw[show r.length+1 - 1 - m=(r.length - 1 - m)+1 by omega,List.getElem?_cons_succ]
  ·simp
theorem qA (xs:Array Value):((List.range xs.size).filterMap fun (m:Nat)=>xs[(((xs.size:Int) - 1)+(m:Int)*(-1)).toNat]?).toArray=xs.toList.reverse.toArray:=by
 rw[← fR xs.toList,Array.length_toList]
 congr 1
 refine e9 fun m hm=>?_
 have hm:=List.mem_range.mp hm
 rw[show (((xs.size:Int) - 1)+(m:Int)*(-1)).toNat=xs.size - 1 - m by omega,Array.getElem?_toList]
section
variable {prog:Program}{w:World}{A:Around}{E:Value→Shared→Prop}{s:Shared}
theorem fS {sl:Addr}{t:Tok}{n:Nat}{Q:Int×Int×Nat→Shared→Prop}(hs:s.heap.IsSliceOf sl .none .none (.int (-1) t))
  (h:Q ((n:Int) - 1,-1,n) s):wpAny (model prog w) A (Builtin.Slice.sliceApplied (.ref sl) (pure (n:Int))) Q E s:=by
 obtain⟨os,hos,hcs,hds⟩:=id hs
 unfold Builtin.Slice.sliceApplied Builtin.Slice.sliceFields
 refine wpAny_bind (wpAny_bind (wpAny_field hos hds (x:=.none) rfl (wpAny_bind (wpAny_field hos hds (x:=.none) rfl (wpAny_bind (wpAny_field hos hds (x:=.int (-1) t) rfl (wpAny_pure ?_)))))))
 refine wpAny_bind (slicePart_int ?_)
 show wpAny _ _ (if ((-1:Int)==0)=true then _ else _) _ _ s
 rw[if_neg (by decide)]
 refine wpAny_bind (slicePart_none (wpAny_bind (slicePart_none (wpAny_bind (wpAny_pure ?_)))))
 show wpAny _ _ (match Builtin.Slice.sliceAdjust none none (-1) (n:Int) with | (lo,hi)=>pure (lo,(-1:Int),Builtin.Slice.slicePlaces lo hi (-1))) _ _ s
 have e:Builtin.Slice.sliceAdjust none none (-1) (n:Int)=((n:Int) - 1,-1):=rfl
 rw[e]
 show wpAny _ _ (pure ((n:Int) - 1,(-1:Int),Builtin.Slice.slicePlaces ((n:Int) - 1) (-1) (-1))) _ _ s
 have p:Builtin.Slice.slicePlaces ((n:Int) - 1) (-1) (-1)=n:=by
  unfold Builtin.Slice.slicePlaces
  rw[if_neg (by decide),show (-(-1):Int)=1 by decide,Int.ediv_one]
  split<;>omega
 rw[p]
 exact wpAny_pure h
theorem fc {t sl:Addr}{items:Array Value}{tk:Tok}{Q:Value→Shared→Prop}(ht:IsTup s.heap t items)(hs:s.heap.IsSliceOf sl .none .none (.int (-1) tk))
  (h:Q (.ref s.heap.objs.size) { s with heap:=s.heap.push { cls:=.type "tuple",data:=.seq items.toList.reverse.toArray } })
  (hsz:items.size≤sizeLine):wpAny (model prog w) A (getItem (.ref t) (.ref sl)) Q E s:=by
 have htake:sizeOk (.seq items.toList.reverse.toArray):=by
  show items.toList.reverse.toArray.size≤sizeLine
  rw[List.size_toArray,List.length_reverse,Array.length_toList]
  exact hsz
 obtain⟨os,hos,hcs,hds⟩:=id hs
 have hTs:s.TypeIs (.ref sl) "slice" := ⟨os,hos,hcs⟩
 unfold getItem
 try with_reducible refine wpAny_holding ?_
 first | refine wpAny_bind (wpAny_pure ?_) | skip
 refine wpAny_bind (wpAny_sequenceKey ht.typeIs (by decide) ?_)
 refine wpAny_bind (wpAny_callSpecial?_slot (name:=Str.ofString "__getitem__") ht.typeIs PyProof.Rows.slot_tuple_getitem
  (wpAny_call_entry PyProof.Rows.slot_tuple_getitem ht.typeIs entry_tuple_getitem ?_ (args_tuple_getitem _ _)))
 show wpAny _ _ (Builtin.Tuple.tupleItemsOf (.ref t) >>= _) _ _ s
 refine wpAny_bind (tupleItemsOf_ ht ?_)
 refine wpAny_bind (wpAny_typeOf hTs ?_)
 rw[if_pos (by decide)]
 refine wpAny_bind (fS hs ?_)
 have hno:¬ ((((items.size:Int) - 1)==0&&(-1:Int)==1&&items.size==items.size)=true):=by
  intro q
  rw[Bool.and_eq_true,Bool.and_eq_true]at q
  exact absurd q.1.2 (by decide)
 show wpAny _ _ (if (((items.size:Int) - 1)==0&&(-1:Int)==1&&items.size==items.size)=true then _ else _) _ _ s
 rw[if_neg hno,qA]
 first
  | exact wpAny_bind (m:=Builtin.Tuple.tupleExact _) (wpAny_newObj_type (wpAny_pure ⟨_,rfl,wpAny_pure h⟩) htake)
  | exact wpAny_bind (m:=Builtin.Tuple.tupleExact _) (wpAny_newObj_type (wpAny_bind (wpAny_pure (wpAny_pure ⟨_,rfl,wpAny_pure h⟩))) htake)
  | exact wpAny_bind (wpAny_bind (m:=Builtin.Tuple.tupleExact _) (wpAny_newObj_type (wpAny_pure (wpAny_pure ⟨_,rfl,wpAny_pure h⟩)) htake))
  | exact wpAny_bind (wpAny_bind (m:=Builtin.Tuple.tupleExact _) (wpAny_newObj_type (wpAny_pure ⟨_,rfl,wpAny_pure h⟩) htake))
theorem jm (items:Array Value):slicePick items none none (some (-1))=items.toList.reverse.toArray:=by
 unfold slicePick
 have b:sliceBounds none none (some (-1)) items.size=((items.size:Int) - 1,-1,-1):=rfl
 rw[b]
 have r:sliceRange ((items.size:Int) - 1) (-1) (-1)=(List.range items.size).map fun k=>items.size - 1 - k:=by
  unfold sliceRange
  have c:(if (-1:Int) > 0 then (if (items.size:Int) - 1 < -1 then (-1 - ((items.size:Int) - 1) + -1 - 1) / -1 else 0) else (if (items.size:Int) - 1 > -1 then ((items.size:Int) - 1 - -1 - -1 - 1)/(-(-1)) else 0)).toNat=items.size:=by
   rw[if_neg (by decide),show (-(-1):Int)=1 by decide,Int.ediv_one]
   split<;>omega
  show (List.range _).map _=_
  rw[c]
  exact List.map_congr_left fun k hk=>by have:=List.mem_range.mp hk;omega
 show ((sliceRange ((items.size:Int) - 1) (-1) (-1)).filterMap (items[·]?)).toArray=_
 rw[r,List.filterMap_map,← fR items.toList,Array.length_toList]
 congr 1
 exact e9 fun m _=>by rw[Array.getElem?_toList];rfl
end
section
variable {X:Cx}{F:Fx}{e st:Expr}{te:TE}{g:SS→R D}{pos p2:Pos}
def rRev (K:PySem.W.Frag):V→Hp→VK→Prop:=fun x H Q=>∃ a xs,x=.ref a∧((SqT K H a xs∧∀ p,H p=none→Q (.ref p) (upd H p (.tup xs.reverse)))∨(SqL K H a xs∧∀ p,H p=none→Q (.ref p) (upd H p (.lst xs.reverse))))
theorem iA:∀ {xs:List V} {us:List Value},Vals xs us→Vals xs.reverse us.reverse
 | _,_,.nil=>.nil
 | _,_,.cons h r=>by rw[List.reverse_cons,List.reverse_cons];exact(iA r).append (.cons h .nil)
theorem lA {pins:List (Addr×Obj)}{s:Shared}{σ:L2.St}{H:Hp}{x:V}{v:Value}{sl:Addr}{tk:Tok}{Q:VK}(I:Inv X pins σ H s)(rx:RelV x v)(hs:s.heap.IsSliceOf sl .none .none (.int (-1) tk))(h:rRev X.K x H Q) :
  ∃ T id,typeLookup (.type T) "__getitem__"=pure (some (.builtin id))∧s.TypeIs v T∧wpAny (model X.prog X.w) X.A (getItem v (.ref sl)) (EP X pins σ Q) X.xe s:=by
 obtain⟨a,xs,rfl,h⟩:=h
 cases rx
 rcases h with ⟨hx,q⟩ | ⟨hx,q⟩
 ·obtain⟨its,r,ht,hz⟩:=I.tuple hx
  have hlen:its.toArray.size=xs.length:=by rw[List.size_toArray];exact r.length.symm
  refine⟨"tuple",_,PyProof.Rows.slot_tuple_getitem.lookup,ht.typeIs,?_⟩
  refine fc ht hs ?_ (by rw[hlen];exact hz)
  refine⟨.ref s.heap.objs.size,_,I.laid (t':=s.toks) (o:=.tup xs.reverse) (fun b ob q=>Heap.get?_push_of_some _ q) (Nat.le_refl _) ?_,rfl,q _ (I.hok.fresh (Nat.le_refl _))⟩
  exact⟨by rw[List.length_reverse];exact hz,_,iA r,TupO.new _ _⟩
 ·obtain⟨its,r,pl,hz⟩:=I.list hx
  have hlen:its.toArray.size=xs.length:=by rw[List.size_toArray];exact r.length.symm
  refine⟨"list",_,list_getitem_lookup,pl.isList.typeIs,?_⟩
  refine wpAny_getItem_list_slice (lo:=none) (hi:=none) (st:=some (-1)) pl.isList hs .none .none (.int _ _) (by decide) ?_ (by rw[hlen];exact hz)
  rw[jm]
  exact⟨.ref s.heap.objs.size,_,I.lnew (t':=s.toks) (iA r) (by rw[List.length_reverse];exact hz),rfl,q _ (I.hok.fresh (Nat.le_refl _))⟩
def tRev (K:PySem.W.Frag)(te:TE):TE:=fun σ H Q=>te σ H fun x H1=>rRev K x H1 Q
theorem uT (he:PE X e te)(hst:PE X st (tC (.int (-1)))):PE X (.Subscript e (.Slice none none (some st) p2) pos) (tRev X.K te):=by
 intro pins s σ H Q I h
 refine Subscript_ (thn (he pins s σ H _ I h) fun v s1 ⟨x,H1,I1,r1,q1⟩=>?_)
 refine wpAny_Slice ?_
 rw[evalPart_none]
 refine wpAny_pure (wpAny_pure ?_)
 rw[evalPart_some]
 refine thn (hst pins s1 σ H1 (fun y H2=>y=.int (-1)∧H2=H1) I1 ⟨rfl,rfl⟩) fun u s2 ⟨y,H2,I2,r2,ey,eh⟩=>?_
 subst ey eh
 obtain⟨tk,rfl⟩:=r2
 have I4:Inv X pins σ H2 { s2 with heap:=s2.heap.push { cls:=.type "slice",data:=.fields #[.none,.none,.int (-1) tk] } }:=I2.kept (t':=s2.toks) fun b ob q=>Heap.get?_push_of_some _ q
 obtain⟨T,id,hT,ht,hg⟩:=lA (sl:=s2.heap.objs.size) (tk:=tk) I4 r1 (Heap.IsSliceOf.new ..) q1
 show wpAny (model X.prog X.w) X.A (subscriptTail e (.Slice none none (some st) p2) v (.ref s2.heap.objs.size)) (EP X pins σ Q) X.xe { s2 with heap:=s2.heap.push { cls:=.type "slice",data:=.fields #[.none,.none,.int (-1) tk] } }
 exact tail_any (ops:=[v,.ref s2.heap.objs.size]) ht hT hg (by with_unfolding_all rfl)
theorem tU {j p3}:PE X (.UnaryOp .USub (.Constant (.int 1) j p3) pos) (tC (.int (-1))):=(tG pw pp).weak fun σ H Q h=>⟨1,rfl,h⟩
theorem iB {F:Fx}{Z:Hp}:∀ {ds:List D} {vs:List V},Reps F.K F.C Z ds vs→Reps F.K F.C Z ds.reverse vs.reverse
 | [],vs,h=>by rw[Reps]at h;subst h;exact Reps.nil
 | d::ds,vs,h=>by
  rw[Reps]at h
  obtain⟨v,r,rfl,h1,h2⟩:=h
  rw[List.reverse_cons,List.reverse_cons]
  exact(iB h2).append (Reps.cons h1 Reps.nil)
theorem qB (hK:X.K=F.K)(he:FE X F e g)(hst:PE X st (tC (.int (-1)))):FE X F (.Subscript e (.Slice none none (some st) p2) pos) (fun S=>(g S).bind dRev) :=
 (uT he hst).weak fun σ H Q ⟨Z,S,ok,w⟩=>aF ok w fun d v H1 Z1 ok1 x1 rv w1=>by
  unfold dRev at w1
  split at w1
  ·rename_i xs
   rw[Rep]at rv
   obtain⟨a,vs,rfl,h1,h2⟩:=rv
   refine⟨a,vs,rfl,.inr ⟨by rw[hK];exact ok1.sub.seq h1,fun p hp=>?_⟩⟩
   have z:Same Z1 (upd Z1 p (.lst vs.reverse)):=aC (ok1.sub.free hp)
   exact w1 _ _ (Ex.alloc ok1.sub hp) _ (by rw[Rep];exact⟨p,_,rfl,SqL.of ap,(iB h2).mono z⟩)
  ·rename_i xs
   rw[Rep]at rv
   obtain⟨a,vs,rfl,h1,h2⟩:=rv
   refine⟨a,vs,rfl,.inl ⟨by rw[hK];exact h1.mono ok1.sub,fun p hp=>?_⟩⟩
   have z:Same Z1 (upd Z1 p (.tup vs.reverse)):=aC (ok1.sub.free hp)
   exact w1 _ _ (Ex.alloc ok1.sub hp) _ (by rw[Rep];exact⟨p,_,rfl,SqT.of ap,(iB h2).mono z⟩)
  ·exact w1.elim
end
end FF
end
noncomputable section
namespace HT
open PySem PyProof.Rows
section
open PySem.SeqAt
open PySem.AutoSeq1 (wpAny_loadPart')
open PySem.MeetsSeq PySem.MeetsSeq2 PySem.MeetsSeq3
end
section
variable {prog:Program}{w:World}{A:Around}{E:Value→Shared→Prop}{s:Shared}
end
end HT
end
noncomputable section
namespace FF
open PySem PySem.Spec PyProof.Rows L2
section
variable {X:Cx}{F:Fx}{a b:Expr}{ga gb:SS→R D}{pos:Pos}{k:Nat}
end
end FF
end
noncomputable section
namespace FF
open PySem PySem.Spec PyProof.Rows L2
section
variable {M:Model}{A:Around}{E:Value→Shared→Prop}{s:Shared}
def HeldA (B:Heap)(l:List Env)(e:Addr)(cls a0:Value)(h:Heap):Prop:=B.StaysIn h∧B.get? e=none∧h.FunFrames B l∧∃ fl,h.TracedAtW B e cls a0 fl
theorem lC {B:Heap}{l:List Env}{e:Addr}{fr:Option Addr}{cls a0:Value}{Q:Unit→Shared→Prop}(hh:HeldA B l e cls a0 s.heap)
  (hQ:∀ h',HeldA B l e cls a0 h'→s.heap.UpToSlots h'→Q () { s with heap:=h' }):wpAny M A (setFlight (.ref e) fr) Q E s:=by
 obtain⟨st,en,ff,fl,oe,vs,T,oT,ts,he,hc,hd,v1,bT,Te,hT,dT,v3⟩:=hh
 have lt3:3 < ts.size:=(Array.getElem?_eq_some_iff.mp v3).1
 have oth:∀ b,b≠T→(s.heap.update T (Obj.mapFields (·.setIfInBounds 3 (fr.elim Value.none fun f=>rawInt f)))).get? b=s.heap.get? b:=fun b hb=>Heap.get?_update_other _ _ (Ne.symm hb)
 have nT:∀ b o,s.heap.get? b=some o→(∀ vs,o.data≠.fields vs)→b≠T:=fun b o hb n q=>by
  subst q;rw[hT]at hb;cases hb;exact n ts dT
 unfold setFlight
 refine wpAny_bind (wpAny_field he hd v1 ?_)
 rw[if_pos (by simp)]
 refine wpAny_setField hT dT lt3 (hQ _ ⟨fun b o q=>?_,en,ff.of_keeps fun b o q n=>⟨o,by rw[oth b (nT b o q n)];exact q,rfl⟩,fr.elim Value.none fun f=>rawInt f,oe,vs,T,_,_,by rw[oth e (Ne.symm Te)];exact he,hc,hd,v1,bT,Te,
  Heap.get?_update_self _ hT (Obj.isFreed_of_fields (Obj.data_mapFields dT _)),Obj.data_mapFields dT _,by simp[lt3]⟩ fun b o q n=>⟨o.slots,by rw[oth b (nT b o q n)];exact q⟩)
 rw[oth b fun z=>by subst z;rw[bT]at q;cases q]
 exact st b o q
theorem oE {α:Type}{what:String}{env:Env}{B:Heap}{l:List Env}{e:Addr}{cls a0:Value}{Q:α→Shared→Prop}(hh:HeldA B l e cls a0 s.heap)
  (hQ:∀ h',HeldA B l e cls a0 h'→s.heap.UpToSlots h'→E (.ref e) { s with heap:=h' }):wpAny M A (PySem.passOn what (.ref e) env:Sem α) Q E s:=by
 obtain⟨_,_,_,_,oe,vs,T,_,_,he,_,hd,v1,_⟩:=id hh
 unfold PySem.passOn
 refine wpAny_bind (wpAny_field he hd v1 ?_)
 rw[if_neg (by simp)]
 exact wpAny_bind (lC hh fun h' a b=>wpAny_throw (hQ h' a b))
theorem mH {B:Heap}{env:Env}{outer:List Env}{L e:Addr}{cls a0:Value}{Q:Unit→Shared→Prop}(hfr:A.frames=some (env::outer))(hf:env.frame=some L)(hh:HeldA B (env::outer) e cls a0 s.heap)
  (hQ:∀ h',Heap.FlyingW B outer e cls a0 h'→s.heap.UpToSlots h'→Q () { s with heap:=h' }):wpAny M A (leaving env (.ref e)) Q E s:=by
 obtain⟨st,en,ff,fl,tr⟩:=hh
 by_cases hL:fl=rawInt L
 ·subst hL
  unfold leaving
  refine wpAny_bind (wpAny_noteFrame_againW hf tr (wpAny_landsW ⟨st,en,ff,tr⟩ fun h' x up=>?_))
  exact hQ h' ⟨x.1,x.2.1,x.2.2.1.2.2,x.2.2.2⟩ up
 ·
  obtain⟨oe,vs,T,oT,ts,he,hc,hd,v1,bT,Te,hT,dT,v3⟩:=tr
  have lt3:3 < ts.size:=(Array.getElem?_eq_some_iff.mp v3).1
  unfold leaving noteFrame
  rw[hf]
  refine wpAny_bind (wpAny_bind (wpAny_field he hd v1 ?_))
  rw[if_pos (by simp)]
  refine wpAny_bind (wpAny_field hT dT v3 ?_)
  rw[if_neg (by simpa using hL)]
  refine wpAny_bind (wpAny_setField hT dT lt3 ?_)
  have oth:∀ b,b≠T→(s.heap.update T (Obj.mapFields (·.setIfInBounds 3 Value.none))).get? b=s.heap.get? b:=fun b hb=>Heap.get?_update_other _ _ (Ne.symm hb)
  have nT:∀ b o,s.heap.get? b=some o→(∀ vs,o.data≠.fields vs)→b≠T:=fun b o hb n q=>by
   subst q;rw[hT]at hb;cases hb;exact n ts dT
  subst_vars
  obtain⟨hc1,hc2⟩:=hc
  subst hc1
  refine wpAny_newEntryW (base:=B) hfr (ff.of_keeps fun b o q n=>⟨o,by rw[oth b (nT b o q n)];exact q,rfl⟩) hf (by rw[oth e (Ne.symm Te)];exact he) (fun b o q=>?_) en hd (Array.getElem?_eq_some_iff.mp v1).1 hc2 fun h' x=>hQ h' ⟨x.1,en,x.2.1.2.2,x.2.2.1⟩ fun b o q n=>x.2.2.2 b o (by rw[oth b (nT b o q n)];exact q) n
  rw[oth b fun z=>by subst z;rw[bT]at q;cases q]
  exact st b o q
end
structure Noted (X:Cx)(E:XK):Prop where
 stk:X.stack=X.env::X.outer
 fr:X.env.frame=some X.env.locals
 pass:∀ (pins:List (Addr×Obj)) (σ:L2.St) (H':Hp) (s':Shared) (h2:Heap) (ea C t:Addr) (B:Heap),Inv X pins σ H' s' →
  (∀ b o,s'.heap.get? b=some o→(H' b≠none∨((∃ o',X.s₀.heap.get? b=some o')∧b∉X.ex))→b∉frs X.stack→B.get? b=some o) →
  s'.heap.UpToSlots h2→HeldA B X.stack ea (.ref C) (.ref t) h2→H' ea=none→E (.ref C) none H'→X.xe (.ref ea) { s' with heap:=h2 }
section
variable {P:Program}{w:World}{K:PySem.W.Frag}{mg:Str→Option Value}{base:Heap}{N:List Str}{qual:Str}{scope:Scope}{f:Addr}{cd:Value}{A:Around}{outer:List Env}{s0:Shared}{H0:Hp}{E:XK}
theorem mI:Noted (bodyX P w K mg base N qual scope f cd A outer s0 H0 E) E:=by
 refine⟨rfl,rfl,fun pins σ H' s' h2 ea C t B J cov up hh hn hE=>?_⟩
 show wpAny _ _ (leaving _ (.ref ea)) _ _ { s' with heap:=h2 }
 refine mH J.ok.frames rfl hh fun h3 fl up3=>?_
 refine ki (s':=s') (B:=B) J (fun b o e hc hb=>cov b o e ?_ hb) (up.trans up3) fl hn hE
 rcases hc with z | z
 ·exact .inl z
 ·exact .inr ⟨z,fun q=>nomatch q⟩
end
def blkE (X:Cx)(E:XK)(scope:Scope)(cl:List (Str×Addr))(C:Addr)(s:Shared)(H:Hp)(fp:List Addr)(N:List Str):Cx :=
 { blk X scope cl C s H fp N with xe:=fun e s'=>∃ pins σ H1 s1,Inv (blk X scope cl C s H fp N) pins σ H1 s1∧CXE X.prog X.w X.stack H1 s1 E e s' }
section
variable {X:Cx}{E:XK}{scope:Scope}{cl:List (Str×Addr)}{C:Addr}{s:Shared}{H:Hp}{fp:List Addr}{N:List Str}{pins:List (Addr×Obj)}{σ:L2.St}{H1:Hp}{s1:Shared}
theorem qC (I:Inv (blk X scope cl C s H fp N) pins σ H1 s1):Inv (blkE X E scope cl C s H fp N) pins σ H1 s1 :=
 ⟨⟨I.ok.mod,I.ok.kind,I.ok.glob,I.ok.blt,I.ok.above,I.ok.inj,I.ok.has,I.ok.cab,I.ok.hd,I.ok.frames,I.ok.stk,I.ok.exf,I.ok.bs,I.ok.bsz,I.ok.noex,I.ok.exfs,I.ok.funs,I.ok.frf⟩,I.os,I.bare,I.base,I.loc,I.cell,I.free,I.freeC,I.pin,I.hok,I.len⟩
theorem nK (I:Inv (blkE X E scope cl C s H fp N) pins σ H1 s1):Inv (blk X scope cl C s H fp N) pins σ H1 s1 :=
 ⟨⟨I.ok.mod,I.ok.kind,I.ok.glob,I.ok.blt,I.ok.above,I.ok.inj,I.ok.has,I.ok.cab,I.ok.hd,I.ok.frames,I.ok.stk,I.ok.exf,I.ok.bs,I.ok.bsz,I.ok.noex,I.ok.exfs,I.ok.funs,I.ok.frf⟩,I.os,I.bare,I.base,I.loc,I.cell,I.free,I.freeC,I.pin,I.hok,I.len⟩
end
theorem sC {X:Cx}{F:Fx}{k:Nat}(bx:BX X F k){scope:Scope}{cl:List (Str×Addr)}{C:Addr}{s:Shared}{H:Hp}{fp:List Addr}{N:List Str}:BX (blkE X F.E scope cl C s H fp N) F k :=
 ⟨bx.room,bx.K,rfl,fun pins σ H s e s' I h=>⟨pins,σ,H,s,nK I,h⟩⟩
theorem mJ {prog:Program}{w:World}{A:Around}{R:Result→Shared→Prop}{s:Shared}{elt target iter:Expr}{scope:Scope}{pos:Pos}{it acc:Value}{env:Env}(W:Nat→Shared→Prop)
  (turn:∀ n s,W n s→wpAny (model prog w) A (pyNext it) (fun r s1=>match r with
   | none=>R (.ok .next) s1
   | some v=>wpAny (model prog w) A (letOwnedTupleGo target it v) (fun _ s2=>wpAny (model prog w) A (assign target env v) (fun _ s3 =>
     wpAny (model prog w) A (eval elt env) (fun x s5=>wpAny (model prog w) A (call (.builtin "list.append") [acc,x]) (fun _ s6=>∃ m,m < n∧W m s6) (notedBy (model prog w) A env fun e s'=>R (.error e) s') s5) (notedBy (model prog w) A env fun e s'=>R (.error e) s') s3) (notedBy (model prog w) A env fun e s'=>R (.error e) s') s2) (fun _ _=>False) s1) (fun _ _=>False) s)
  (n:Nat) (h:W n s):codeAny (model prog w) A (.compLoop (.ListComp elt [⟨target,iter,[],0⟩] scope pos) 0 it acc env) R s:=by
 have weak:∀ {α:Type} {t:Sem α} {Q Q':α→Shared→Prop} {E:Value→Shared→Prop} {s:Shared},wpAny (model prog w) A t Q (fun _ _=>False) s→(∀ a s,Q a s→Q' a s)→wpAny (model prog w) A t Q' E s :=
  fun h k=>wpAny_mono h k fun _ _ z=>z.elim
 refine codeAny_loop rfl W (fun n s hW=>?_) n h
 show wpAny _ A ((compTurn (.ListComp elt [⟨target,iter,[],0⟩] scope pos) 0 it acc env).onRaise (fun x=>do noteFrame x env;theTreesLotGoes x)) _ _ s
 refine wpAny_noted ?_
 rw[compTurn_list]
 refine wpAny_bind (wpAny_standAt (wpAny_bind (weak (turn n s hW) fun r s1 h1=>?_)))
 cases r with
 | none=>exact wpAny_pure h1
 | some v =>
  refine wpAny_bind (weak h1 fun _ s2 h2=>wpAny_bind (wpAny_mono h2 (fun _ s3 h3=>wpAny_bind ?_) fun _ _ z=>z))
  refine wpAny_tests_nil ?_
  have fin:∀ (ok:Bool) (s4:Shared),(ok=true∧s4=s3)→wpAny (model prog w) A (if ok=true then ((do let _ ← call (.builtin "list.append") [acc,← eval elt env];pure ()) >>= fun _=>again (.compLoop (.ListComp elt [⟨target,iter,[],0⟩] scope pos) 0 it acc env)) else again (.compLoop (.ListComp elt [⟨target,iter,[],0⟩] scope pos) 0 it acc env))
      (fun fin s'=>match fin with | .done f=>R (.ok f) s' | .again c'=>c'=(.compLoop (.ListComp elt [⟨target,iter,[],0⟩] scope pos) 0 it acc env)∧∃ m,m < n∧W m s') (notedBy (model prog w) A env fun e s'=>R (.error e) s') s4:=by
   rintro ok s4 ⟨rfl,rfl⟩
   rw[if_pos rfl]
   exact wpAny_bind (wpAny_bind (wpAny_mono h3 (fun x s5 h5=>wpAny_bind (wpAny_mono h5 (fun _ s6 h6=>wpAny_pure (wpAny_pure ⟨rfl,h6⟩)) fun _ _ z=>z)) fun _ _ z=>z))
  have h0:wpAny (model prog w) A (pure true:Sem Bool) (fun ok s=>ok=true∧s=s3) (fun _ _=>False) s3:=wpAny_pure ⟨rfl,rfl⟩
  exact wpAny_bind (m:=(pure true:Sem Bool)) (weak h0 fin)
section
variable {X:Cx}{E:XK}{elt tg iter:Expr}{scope:Scope}{N:List Str}{own:Nat}{cap:List Nat}{pos:Pos}{wi:TI}{g:TG}{tc:TT}{te:TE}
set_option maxHeartbeats 4000000 in
theorem oF {pins:List (Addr×Obj)}{σ:L2.St}{H:Hp}{s:Shared}{it:Addr}{fp:List Addr}{tn:Nat→Heap→Prop}{J:It}{cl:List (Str×Addr)}{Er:Value→Shared→Prop}{RR:Value→Addr→Result→Shared→Prop}{Fin:Addr→Hp→List V→Prop}
  (b:BlkOk X.N X.env.scope scope N own cap) (hc:X.calm=true)
  (hg:∀ cl C s H fp,PG (blkE X E scope cl C s H fp N) tg g) (he:∀ cl C s H fp,PE (blkE X E scope cl C s H fp N) elt te)
  (hclos:closureFor scope X.env=pure cl) (c1:∀ n c,cl.lookup n=some c→X.env.cells.lookup n=some c) (c2:∀ y∈scope.names,y.2=.free→∃ c,cl.lookup y.1=some c)
  (I:Inv X pins σ H s) (T:Turn X.prog X.w X.K tg J fp it tn) (st:tn 0 s.heap) (hf:∀ b∈fp,FpOk X pins H b)
  (hW:∀ D,H D=none→∃ W,BlkW sizeLine J g (tTests [] tc) te D (Fin D) W∧∃ m,W 0 m (startB own cap σ) (upd H D (.lst [])) [])
  (fin:∀ D C s' H' ys,Inv X pins σ H' s'→FpOk X pins H' C→(∃ m,s'.heap.Ns C m)→H' D=some (.lst ys)→Fin D H' ys→RR (.ref D) C (.ok .next) s')
  (ferr:∀ D C s' H' ea C0 t B,Inv X pins σ H' s'→FpOk X pins H' C→(∃ m,s'.heap.Ns C m)→Heap.FlyingW B X.stack ea (.ref C0) (.ref t) s'.heap→H' ea=none →
   (∀ b o,s'.heap.get? b=some o→(H' b≠none∨((∃ o',X.s₀.heap.get? b=some o')∧b∉X.ex))→b∉frs X.stack→B.get? b=some o)→E (.ref C0) none H' →
   wpAny (model X.prog X.w) X.A (noteFrame (.ref ea) X.env) (fun _ s''=>RR (.ref D) C (.error (.ref ea)) s'') (fun e s''=>RR (.ref D) C (.error e) s'') s') :
  wpAny (model X.prog X.w) X.A (newList []) (fun acc s3=>wpAny (model X.prog X.w) X.A (newFunctionEnv scope X.env.globals cl [] X.env.qual none .none (some X.env)) (fun cenv s4 =>
   codeAny (model X.prog X.w) X.A (.compStart (.ListComp elt [⟨tg,iter,[],0⟩] scope pos) 0 (.ref it) acc { cenv with scope:=relabel scope X.env }) (RR acc cenv.locals) s4) Er s3) Er s:=by
 have hfo:∀ b∈fp,b < s.heap.objs.size:=fun b hb=>by
  obtain⟨o,e,_⟩:=T.obj 0 _ st b hb
  exact Heap.lt_size e
 have hD:H s.heap.objs.size=none:=I.hok.fresh (Nat.le_refl _)
 obtain⟨W,hturn,m0,w0⟩:=hW _ hD
 refine wpAny_newObj_type (eZ fun h1 cl2 hns kk cb=>?_)
 have I3:Inv X pins σ (upd H s.heap.objs.size (.lst [])) { s with heap:=s.heap.push { cls:=.type "list",data:=.seq #[] } }:=I.lnew (t':=s.toks) (its:=[]) .nil (Nat.zero_le _)
 have hfp3:∀ b∈fp,FpOk X pins (upd H s.heap.objs.size (.lst [])) b:=fun b hb=>⟨by rw[ar (Nat.ne_of_lt (hfo b hb))];exact(hf b hb).1,(hf b hb).2⟩
 have st1:tn 0 h1:=T.keep 0 _ _ st fun b hb o e=>kk b o (Heap.get?_push_of_some _ e)
 have er:∀ e s',(blkE X E scope cl2 (s.heap.push { cls:=.type "list",data:=.seq #[] }).objs.size { s with heap:=s.heap.push { cls:=.type "list",data:=.seq #[] } } (upd H s.heap.objs.size (.lst [])) fp N).xe e s' →
   notedBy (model X.prog X.w) X.A (compEnvC scope cl2 (s.heap.push { cls:=.type "list",data:=.seq #[] }).objs.size X.env) (fun e s''=>RR (.ref s.heap.objs.size) (s.heap.push { cls:=.type "list",data:=.seq #[] }).objs.size (.error e) s'') e s':=by
  rintro e s' ⟨pl,σ1,H1,s1,I1,ea,C0,t,H',B,rfl,os,bare,un,hok,fl,hn,cov,hE⟩
  have J:Inv (blk X scope cl2 (s.heap.push { cls:=.type "list",data:=.seq #[] }).objs.size { s with heap:=s.heap.push { cls:=.type "list",data:=.seq #[] } } (upd H s.heap.objs.size (.lst [])) fp N) pl σ1 H' s' :=
   I1.call' (ch:=[]) os un hok bare fun b z=>nomatch z
  obtain⟨J1,J2,J3⟩:=ib I hf rfl rfl rfl rfl J
  refine ferr _ _ s' H' ea C0 t B J1 J2 J3 fl hn (fun b o eb hb hs=>cov b o eb ?_ hs) hE
  rcases hb with z | ⟨⟨o',z⟩,hx⟩
  ·exact .inl z
  ·obtain⟨o1,e1⟩:=I.base.there b o' z hx
   obtain⟨o2,e2⟩:=I1.base.there b o1 (Heap.get?_push_of_some _ e1) fun q=>by
    rcases(hf b q).2.2.2.1 with y | y
    ·exact hx y
    ·exact absurd (Heap.lt_size z) (Nat.not_lt.mpr y)
   exact .inr ⟨o2,e2⟩
 generalize hX:blkE X E scope cl2 (s.heap.push { cls:=.type "list",data:=.seq #[] }).objs.size { s with heap:=s.heap.push { cls:=.type "list",data:=.seq #[] } } (upd H s.heap.objs.size (.lst [])) fp N=X' at er
 have I4:Inv X' [] (startB own cap σ) (upd H s.heap.objs.size (.lst [])) { s with heap:=h1 }:=by
  rw[← hX]
  exact qC (nw b hc I3 hfp3 (fun b hb=>Nat.lt_of_lt_of_le (hfo b hb) (by show _≤(s.heap.push _).objs.size;rw[Heap.size_push];exact Nat.le_succ _)) c1 c2 hns kk cb)
 have eP:X'.prog=X.prog:=by rw[← hX];rfl
 have ew:X'.w=X.w:=by rw[← hX];rfl
 have eK:X'.K=X.K:=by rw[← hX];rfl
 have eA:X'.A=X.A:=by rw[← hX];rfl
 have ec:X'.calm=true:=by rw[← hX];rfl
 have ee:X'.env=compEnvC scope cl2 (s.heap.push { cls:=.type "list",data:=.seq #[] }).objs.size X.env:=by rw[← hX];rfl
 have epn:X'.pn=[]:=by rw[← hX];rfl
 have eex:X'.ex=fp:=by rw[← hX];rfl
 have pg:PG X' tg g:=by rw[← hX];exact hg _ _ _ _ _
 have pe:PE X' elt te:=by rw[← hX];exact he _ _ _ _ _
 have fpB:∀ {H':Hp},(∀ b∈fp,H' b=none)→∀ {s'':Shared} {σ':L2.St},Inv X' [] σ' H' s''→∀ b∈fp,FpOk X' [] H' b:=fun {H'} hn {s'' σ'} Iv b hb =>
  ⟨hn b hb,(Iv.ok.exf b (by rw[eex];exact hb)).1,Iv.ok.exfs b (by rw[eex];exact hb),.inl (by rw[eex];exact hb),(Iv.ok.exf b (by rw[eex];exact hb)).2,fun p hp=>by rw[epn]at hp;exact(nomatch hp)⟩
 have loop:codeAny (model X.prog X.w) X.A (.compLoop (.ListComp elt [⟨tg,iter,[],0⟩] scope pos) 0 (.ref it) (.ref s.heap.objs.size) (compEnvC scope cl2 (s.heap.push { cls:=.type "list",data:=.seq #[] }).objs.size X.env))
   (RR (.ref s.heap.objs.size) (s.heap.push { cls:=.type "list",data:=.seq #[] }).objs.size) { s with heap:=h1 }:=by
  refine mJ (fun n s'=>∃ i σ' H' ys,Inv X' [] σ' H' s'∧tn i s'.heap∧(∀ b∈fp,H' b=none)∧W i n σ' H' ys) (fun n s5 ⟨i,σ5,H5,ys,I5,st5,fr5,w5⟩=>?_) m0
   ⟨0,startB own cap σ,_,[],I4,st1,fun b hb=>(hfp3 b hb).1,w0⟩
  obtain⟨hDy,hgo⟩:=hturn i n σ5 H5 ys w5
  have hs5:=fpB fr5 I5
  rcases hgo with ⟨stop,hfin⟩ | ⟨go,step⟩
  ·have q:=T.done X' eP ew eK ec i [] s5 σ5 H5 (fun _ _=>False) I5 hs5 st5 stop
   rw[eA]at q
   refine wpAny_mono q (fun r s6 ⟨hr,I6⟩=>?_) fun _ _ z=>z
   subst hr
   rw[← hX]at I6
   obtain⟨J1,J2,J3⟩:=ib I hf rfl rfl rfl rfl (nK I6)
   exact fin _ _ s6 H5 ys J1 J2 J3 hDy hfin
  ·have q:=T.item X' eP ew eK ec i [] s5 σ5 H5 (fun _ _=>False) I5 hs5 st5 go
   rw[eA]at q
   refine wpAny_mono q (fun r s6 ⟨u,hr,h6⟩=>?_) fun _ _ z=>z
   subst hr
   refine wpAny_mono h6 (fun _ s7 ⟨x,H7,I7,r7,y7,st7,fr7⟩=>?_) fun _ _ z=>z
   have I7':=I7.pinned (fpB fr7 I7) (T.obj _ _ st7)
   rw[List.nil_append]at I7'
   have qg:=pg _ s7 σ5 H7 x u _ I7' r7 (step x H7 y7)
   rw[eP,ew,eA,ee]at qg
   refine wpAny_mono qg (fun _ s8 ⟨σ8,H8,I8,q8⟩=>?_) er
   have again:∀ {s9:Shared} {H9:Hp} {zs:List V},Inv X' (pinsAt fp s7.heap) σ8 H9 s9→(∃ m',m' < n∧W (i+1) m' σ8 H9 zs) →
     ∃ m,m < n∧∃ i σ' H' ys,Inv X' [] σ' H' s9∧tn i s9.heap∧(∀ b∈fp,H' b=none)∧W i m σ' H' ys:=fun {s9 H9 zs} I9 ⟨m',hm,w9⟩=>by
    have I9':Inv X' ([]++pinsAt fp s7.heap) σ8 H9 s9:=by rw[List.nil_append];exact I9
    refine⟨m',hm,i+1,σ8,H9,zs,I9'.unpinned,T.keep _ _ _ st7 fun b hb o e=>(I9.pin (b,o) (List.mem_append_right _ (bN hb e))).1,fun b hb=>?_,w9⟩
    obtain⟨o,e,d⟩:=T.obj _ _ st7 b hb
    exact(I9.pin (b,o) (List.mem_append_right _ (bN hb e))).2.1
   have h9:=ic rfl q8
   rw[if_pos rfl]at h9
   have qe:=pe _ s8 σ8 H8 _ I8 h9
   rw[eP,ew,eA,ee]at qe
   refine wpAny_mono qe (fun u s10 ⟨y,H10,I10,r10,hD10,hlt,m',hm,w10⟩=>?_) er
   have qa:=fG (X:=X') (pinsAt fp s7.heap) s10 σ8 H10 (.ref s.heap.objs.size) [y] (.ref s.heap.objs.size) [u] (fun _ H11=>H11=upd H10 s.heap.objs.size (.lst (ys++[y]))) I10 rfl (.cons r10 .nil)
    ⟨s.heap.objs.size,ys,y,rfl,rfl,hD10,hlt,rfl⟩
   rw[eP,ew,eA]at qa
   refine wpAny_mono qa (fun _ s11 ⟨_,H11,I11,_,e11⟩=>?_) er
   subst e11
   exact again I11 ⟨m',hm,w10⟩
 exact codeAny_compStart_list loop (T.self _ 0 _ _ _ st1 loop)
theorem qD (nt:Noted X E)(b:BlkOk X.N X.env.scope scope N own cap)(hc:X.calm=true)(hi:PI X tg iter wi)
  (hg:∀ cl C s H fp,PG (blkE X E scope cl C s H fp N) tg g) (he:∀ cl C s H fp,PE (blkE X E scope cl C s H fp N) elt te)
  (hs:∀ x,foldedSetIterable iter X.env x=pure x:=by intro _;rfl):PE X (.ListComp elt [⟨tg,iter,[],0⟩] scope pos) (tComp own cap wi g (tTests [] tc) te):=by
 intro pins s σ H Q I h
 obtain⟨cl,hclos,c1,c2⟩:=eG scope X.env fun y hy hf=>I.ok.has y.1 (b.free y hy hf)
 rw[eval_ListComp]
 refine wpAny_comprehension_free (use:=none) rfl hs hclos b.kind b.nloc (thn (hi pins s σ H _ I h) fun v s1 h1=>thn h1 fun itv s2 h2=>?_)
 obtain⟨it,fp,tn,J,H2,e,I2,T,st2,f2,hW⟩:=h2
 subst e
 refine oF (RR:=fun acc C=>compPost (model X.prog X.w) X.A X.xe none (EP X pins σ Q) acc C) b hc hg he hclos c1 c2 I2 T st2 f2 hW (fun D C s' H' ys J1 J2 ⟨m,hm⟩ hD hQ=>?_) fun D C s' H' ea C0 t B J1 J2 ⟨m,hm⟩ fl hn cov hE=>?_
 ·refine⟨m,hm,fun h' hsb=>⟨.ref D,H',?_,rfl,hQ⟩⟩
  obtain⟨f0,f1,f2,f3,f4,f5⟩:=J2
  exact J1.turned (t':=s'.toks) (fun b o hb e=>(hsb.2 b hb).trans e) f0 f1 f3 f4 f5
 ·obtain⟨f0,f1,f2,f3,f4,f5⟩:=J2
  have hst:=nt.stk
  have fl':=fl
  rw[hst]at fl'
  refine wpAny_looks_onW (by rw[← hst];exact J1.ok.frames) nt.fr fl' fun h1 hh up=>?_
  rw[← hst]at hh
  have hm1:=up.ns hm
  refine⟨m,hm1,fun h2 hsb cenv hl=>?_⟩
  have nfr:∀ env∈X.stack,∀ a∈[C],env.frame≠some a:=fun env he a ha q=>by
   rw[List.mem_singleton.mp ha]at q
   have:C∈frs X.stack:=List.mem_filterMap.mpr ⟨env,he,q⟩
   rcases List.mem_cons.mp (J1.stkSub C this) with z | z
   ·exact f1 z
   ·exact f2 z
  have hd:∀ b o vs,h1.get? b=some o→o.data=.fields vs→b≠C:=fun b o vs e d q=>by
   obtain⟨o',es,ep,e',d',_⟩:=hm1
   rw[q]at e
   have e'':h1.get? C=some o':=e'
   rw[e]at e'';cases e''
   rw[d]at d';cases d'
  have keep:∀ b o,b≠C→h1.get? b=some o→h2.get? b=some o:=fun b o hb e=>(hsb.2 b hb).trans e
  have hB:(PySem.W.hideAll B [C]).StaysIn B:=fun b o q=>PySem.W.of_hideAll _ q
  have bC:∀ b o,(PySem.W.hideAll B [C]).get? b=some o→b≠C:=fun b o q z=>by
   rw[z,PySem.W.hideAll_none [C] (List.mem_singleton.mpr rfl)]at q;cases q
  have hnone:∀ b,B.get? b=none→(PySem.W.hideAll B [C]).get? b=none:=fun b q=>by
   cases r:(PySem.W.hideAll B [C]).get? b with
   | none=>rfl
   | some o=>rw[hB b o r]at q;cases q
  have hh2:HeldA (PySem.W.hideAll B [C]) X.stack ea (.ref C0) (.ref t) h2:=by
   obtain⟨k1,k2,k3,oe,vs,T',oT,ts,he',hcls,hdd,hv1,hnT,hTe,hT,hdT,h3⟩:=hh
   refine⟨fun b o q=>keep b o (bC b o q) (k1 b o (hB b o q)),hnone _ k2,?_,_,oe,vs,T',oT,ts,keep _ _ (hd _ _ _ he' hdd) he',hcls,hdd,hv1,hnone _ hnT,hTe,keep _ _ (hd _ _ _ hT hdT) hT,hdT,h3⟩
   have q1:=PySem.W.funFrames_hideAll (as:=[C]) k3 nfr
   have q2:h2.FunFrames B X.stack:=q1.of_keeps fun b o e _=>by
    have hb:b≠C:=fun z=>by rw[z,PySem.W.hideAll_none [C] (List.mem_singleton.mpr rfl)]at e;cases e
    exact⟨o,keep b o hb (PySem.W.of_hideAll _ e),rfl⟩
   exact PySem.W.funFrames_base hB q2
  refine oE hh2 fun h3 hh3 up3=>?_
  have J2':Inv X pins σ H' { s' with heap:=PySem.W.hideAll s'.heap [C],toks:=s'.toks }:=J1.turned (t':=s'.toks) (fun b o hb e=>PySem.W.hideAll_get _ e (by simpa using hb)) f0 f1 f3 f4 f5
  refine nt.pass pins σ H' { s' with heap:=PySem.W.hideAll s'.heap [C] } h3 ea C0 t (PySem.W.hideAll B [C]) J2' (fun b o e hb hs=>?_) (fun b o e hnf=>?_) hh3 hn hE
  ·have hbC:b≠C:=fun z=>by
    have e':(PySem.W.hideAll s'.heap [C]).get? b=some o:=e
    rw[z,PySem.W.hideAll_none [C] (List.mem_singleton.mpr rfl)]at e';cases e'
   exact PySem.W.hideAll_get _ (cov b o (PySem.W.of_hideAll _ e) hb hs) (by simpa using hbC)
  ·have hbC:b≠C:=fun z=>by
    have e':(PySem.W.hideAll s'.heap [C]).get? b=some o:=e
    rw[z,PySem.W.hideAll_none [C] (List.mem_singleton.mpr rfl)]at e';cases e'
   obtain⟨sl,q⟩:=up b o (PySem.W.of_hideAll _ e) hnf
   obtain⟨sl2,q2⟩:=up3 b _ (keep b _ hbC q) hnf
   exact⟨sl2,q2⟩
def cGoE (e:D→R D):List D→R (List D)
 | []=>.ok []
 | d::r=>(e d).bind fun y=>(cGoE e r).bind fun ys=>.ok (y::ys)
def cMapE (e:D→R D)(xs:List D):R D:=(cGoE e xs).bind fun ys=>.ok (.lst ys)
def eCE (own:Nat)(cap:List Nat)(it:SS→R (List D))(g:D→SS→R SS)(e:SS→R D):SS→R D:=fun S=>(it S).bind fun ds=>cMapE (fun d=>(g d (blkS own cap S)).bind e) ds
end
section
variable {X:Cx}{F:Fx}{tg iter elt:Expr}{scope:Scope}{N:List Str}{own:Nat}{cap:List Nat}{pos:Pos}{git:SS→R (List D)}{g:D→SS→R SS}{ge:SS→R D}
theorem mK {σ:L2.St}{H Z:Hp}{S:SS}{P:D→Hp→Hp→Prop}{Q:Addr→Hp→Prop}(hgo:Own own g)(ok:StOk F H Z S σ)(w:WG F H Z (eCE own cap git g ge S) P)
  (hP:∀ D ys ds H1 Z1 H' Z',Ex H Z H1 Z1→H1 D=none→Ex H1 Z1 H' Z'→Z' D=none→(∀ H'' Z'',Ex H1 Z1 H'' Z''→P (.lst ds) H'' Z'')→H' D=some (.lst ys)→Reps F.K F.C Z' ds ys→Q D H') :
  tI F git σ H fun J H1=>∀ D,H1 D=none→∃ W,BlkW sizeLine J (tGd F g) (tTests [] (tT F tTrue)) (tE F ge) D (fun H' _=>Q D H') W∧∃ m,W 0 m (startB own cap σ) (upd H1 D (.lst [])) []:=by
 refine⟨Z,S,ok,?_⟩
 unfold eCE cMapE at w
 cases e:git S with
 | err k=>rw[e]at w;exact w
 | stuck=>rw[e]at w;exact w
 | ok ds =>
  rw[e]at w
  intro H1 Z1 x1 J wk hlen D hD
  have w1:=WG.more (r:=(cGoE (fun d=>(g d (blkS own cap S)).bind ge) ds).bind fun ys=>R.ok (FF.D.lst ys)) w x1
  have ok1:=ok.more x1
  have hS:=sizeLine_eq
  have hst:StOk F (upd H1 D (.lst [])) Z1 (blkS own cap S) (startB own cap σ):=(jE ok1 hD).wish F.E
  refine⟨fun i m σ' H' ys=>m=ds.length - i∧i≤ds.length∧H' D=some (.lst ys)∧ys.length≤i∧∃ Z' acc,Ex H1 Z1 H' Z'∧Z' D=none∧Reps F.K F.C Z' acc ys∧StOk F H' Z' (blkS own cap S) σ' ∧
   WG F H1 Z1 ((cGoE (fun d=>(g d (blkS own cap S)).bind ge) (ds.drop i)).bind fun zs=>R.ok (FF.D.lst (acc++zs))) P,?_,ds.length,rfl,Nat.zero_le _,ap,Nat.le_refl _,Z1,[],Ex.hidden ok1.sub hD,ok1.sub.free hD,Reps.nil,hst,w1⟩
  rintro i m σ2 H2 ys ⟨rfl,hle,hDy,hyl,Z2,acc,x2,hZD,ra,ok2,w2⟩
  refine⟨hDy,?_⟩
  obtain⟨k1,k2⟩:=wk i H2 Z2 x2.z x2.sub
  by_cases hlt:i < ds.length
  ·obtain⟨go,y⟩:=k1 hlt
   refine .inr ⟨go,fun x H' hy=>?_⟩
   obtain⟨Z2',d,x',e3,rd⟩:=y x H' hy
   have ok2:=ok2.more x'
   have hZD:Z2' D=none:=by
    cases r:Z2' D with
    | none=>rfl
    | some o =>
     rcases x'.new D (by rw[r];simp) with z | z
     ·exact absurd hZD z
     ·rw[hDy]at z;cases z
   have hDy:=x'.same _ _ hDy
   have x2:=x2.trans x'
   have ra:=ra.mono x'.z
   have hd:ds.drop i=d::ds.drop (i+1):=by
    obtain⟨hi,e4⟩:=List.getElem?_eq_some_iff.mp e3
    rw[List.drop_eq_getElem_cons hi,e4]
   rw[hd]at w2
   unfold cGoE at w2
   refine⟨Z2',blkS own cap S,d,ok2,rd,?_⟩
   cases qg:g d (blkS own cap S) with
   | err k=>rw[qg]at w2;exact fun H'' q=>w2 H'' (x2.same.trans q)
   | stuck=>rw[qg]at w2;exact w2.elim
   | ok S1 =>
    rw[qg,R.bind_ok]at w2
    intro H3 Z3 x3 σ3 ok3
    obtain⟨gl,gk⟩:=hgo _ _ _ qg
    have back:∀ {H Z:Hp},StOk F H Z S1 σ3→StOk F H Z (blkS own cap S) σ3:=fun h=>h.forget gl.symm fun j z q=>by
     rw[gk j (cJ q).1];exact q
    have zD:∀ {H Z:Hp},Ex H1 Z1 H Z→Ex H' Z2' H Z→Z D=none:=fun {H Z} _ q=>by
     cases r:Z D with
     | none=>rfl
     | some o =>
      rcases q.new D (by rw[r];simp) with z | z
      ·exact absurd hZD z
      ·rw[hDy]at z;cases z
    dsimp only[tTests]
    rw[if_pos rfl]
    refine⟨Z3,S1,ok3,?_⟩
    cases qe:ge S1 with
    | err k=>rw[qe]at w2;exact fun H'' q=>w2 H'' ((x2.trans x3).same.trans q)
    | stuck=>rw[qe]at w2;exact w2.elim
    | ok yd =>
     rw[qe,R.bind_ok]at w2
     intro H5 Z5 x5 yv ry
     have hD5:H5 D=some (.lst ys):=x5.same _ _ (x3.same _ _ hDy)
     have x25:=x3.trans x5
     have z5:=zD (x2.trans x25) x25
     have ok5:=ok3.more x5
     have n0:F.H0 D=none:=ok1.ex.same.free hD
     have xu:Ex H1 Z1 (upd H5 D (.lst (ys++[yv]))) Z5:=by
      have q:=x2.trans x25
      refine⟨fun b o e=>?_,q.z,fun b o e=>?_,q.new⟩
      ·rw[ar (fun z=>by subst z;rw[hD]at e;cases e)];exact q.same b o e
      ·rw[ar (fun z=>by subst z;rw[z5]at e;cases e)];exact q.sub b o e
     refine⟨hD5,by omega,ds.length - (i+1),by omega,rfl,hlt,ap,by simp;omega,Z5,acc++[yd],xu,z5,(ra.mono x25.z).append (Reps.cons ry Reps.nil),?_,?_⟩
     ·have q:=back ok5
      refine⟨⟨fun b o e=>?_,q.ex.z,fun b o e=>?_,q.ex.new⟩,q.len,fun j x e=>?_,fun j k x y v w A B _ e1 _ _ _ o1 _=>?_⟩
      ·rw[ar (fun z=>by subst z;have e':F.H0 b=some o:=e;rw[n0]at e';cases e')];exact q.ex.same b o e
      ·rw[ar (fun z=>by subst z;rw[z5]at e;cases e)];exact q.ex.sub b o e
      ·obtain⟨_,_,_,_,_,z⟩:=cJ e
       cases z
       obtain⟨v,e1,r⟩:=q.val j _ e
       exact⟨v,[],e1,⟨rfl,r⟩,Priv.nil⟩
      ·obtain⟨_,_,_,_,_,z⟩:=cJ e1
       cases z
       rw[o1.1];exact fun a ha=>nomatch ha
     ·cases qr:cGoE (fun d=>(g d (blkS own cap S)).bind ge) (ds.drop (i+1)) with
      | err k=>rw[qr]at w2;exact w2
      | stuck=>rw[qr]at w2;exact w2.elim
      | ok zs=>rw[qr]at w2;simpa [List.append_assoc] using w2
  ·have ei:i=ds.length:=by omega
   refine .inl ⟨k2 (by omega),?_⟩
   rw[List.drop_eq_nil_of_le (by omega)]at w2
   have w3:WG F H1 Z1 (R.ok (FF.D.lst (acc++[]))) P:=w2
   rw[List.append_nil]at w3
   exact hP D ys acc H1 Z1 H2 Z2 x1 hD x2 hZD w3 hDy ra
theorem qE {k:Nat}(nt:Noted X F.E)(bx:BX X F k)(b:BlkOk X.N X.env.scope scope N own cap)(hi:FI X F tg iter git)(hgo:Own own g)
  (hg:∀ cl C s H fp,FG (blkE X F.E scope cl C s H fp N) F tg g) (he:∀ cl C s H fp,FE (blkE X F.E scope cl C s H fp N) F elt ge)
  (hs:∀ x,foldedSetIterable iter X.env x=pure x:=by intro _;rfl):FE X F (.ListComp elt [⟨tg,iter,[],0⟩] scope pos) (eCE own cap git g ge) :=
 (qD (tc:=tT F tTrue) nt b bx.calm hi hg he hs).weak fun σ H Q ⟨Z,S,ok,w⟩ =>
  mK hgo ok w fun D ys ds H1 Z1 H2 Z2 x1 hD x2 hZD w3 hDy ra=>by
   have hz:Same Z2 (upd Z2 D (.lst ys)):=aC hZD
   have xf:Ex H1 Z1 H2 (upd Z2 D (.lst ys)):=by
    refine⟨x2.same,x2.z.trans hz,fun b o e=>?_,fun b hb=>?_⟩
    ·by_cases q:b=D
     ·subst q;rw[ap]at e;cases e;exact hDy
     ·rw[ar q]at e;exact x2.sub b o e
    ·by_cases q:b=D
     ·subst q;exact .inr hD
     ·rw[ar q]at hb;exact x2.new b hb
   exact w3 H2 _ xf _ (by rw[Rep];exact⟨D,ys,rfl,SqL.of ap,ra.mono hz⟩)
end
end FF
end
noncomputable section
namespace FF
open PySem PySem.Spec PyProof.Rows L2
section
variable {X:Cx}{F:Fx}{p pos:Pos}{e:Expr}{kws:List Keyword}{gs:SS→R (List D)}{k:Nat}
end
end FF
end
noncomputable section
namespace Lw
open PySem FF
def esL:List Nat:=[1,2]
namespace F
abbrev aB:Nat:=20
abbrev ao:Nat:=21
abbrev aL:Nat:=22
abbrev az:Nat:=23
abbrev ax:Nat:=24
abbrev aC:Nat:=25
abbrev ar:Nat:=26
abbrev aI:Nat:=27
abbrev ab:Nat:=28
abbrev aJ:Nat:=29
abbrev al:Nat:=69
abbrev aj:Nat:=70
abbrev ag:Nat:=125
abbrev ae:Nat:=84
abbrev ap:Nat:=126
abbrev aA:Nat:=71
abbrev ak:Nat:=127
abbrev af:Nat:=128
abbrev aE:Nat:=129
abbrev aR:Nat:=130
abbrev aG:Nat:=131
abbrev ay:Nat:=132
abbrev aQ:Nat:=30
abbrev ac:Nat:=31
abbrev au:Nat:=32
abbrev aF:Nat:=33
abbrev av:Nat:=54
abbrev aN:Nat:=55
abbrev aM:Nat:=56
abbrev aK:Nat:=57
abbrev aD:Nat:=34
abbrev aP:Nat:=35
abbrev aO:Nat:=36
abbrev ad:Nat:=37
abbrev ah:Nat:=39
abbrev an:Nat:=38
abbrev ai:Nat:=133
abbrev aw:Nat:=40
abbrev aa:Nat:=134
abbrev aq:Nat:=135
abbrev aH:Nat:=136
end F
def fvL:List Nat:=[21,125,84,126,71]
def eL (t:Nat→List D→R D)(thing:D):L Unit :=
 lB (vAnd (dIsA qInt thing) (vNot (dIsA qBool thing))) .rt
def dm (t:Nat→List D→R D)(thing:D):L Unit :=
 lB (vAnd (t F.aB [thing]) (rCh dLe dLe (.int 0) thing (.ok (.int 9)))) .rt
def eg (t:Nat→List D→R D)(thing:D):L Unit :=
 lB (vAnd (t F.aB [thing]) (rCh dLe dLe (.int 0) thing (.ok (.int 3)))) .rt
def c7 (t:Nat→List D→R D)(size_:D)(thing:D)(is_end:D):L Unit :=
 lS (lB (σ:=Unit) (rNot (asB (dIsA qTup thing))) fun b=>if b=true then lB (onF fvL is_end fun i=>t i [thing]) .rt else .nx ()) fun _ =>
 lS (lB (σ:=Unit) (rOr (asB (dEq size_ (.int 0))) (asB ((dLen [thing]).bind fun x=>dNf x (.int 4)))) fun b1=>if b1=true then .rt (.bl false) else .nx ()) fun _ =>
 lB (((sq thing).bind fun xs=>cMap (fun part=>(dSub size_ (.int 1)).bind fun x1=>t F.az [x1,part,is_end]) xs).bind fun x2=>dAll [x2]) .rt
def bq (t:Nat→List D→R D)(thing:D)(is_end:D):L Unit :=
 lS (lB (σ:=Unit) (rOr (rNot (asB (dIsA qTup thing))) (asB ((dLen [thing]).bind fun x=>dNf x (.int 2)))) fun b=>if b=true then .rt (.bl false) else .nx ()) fun _ =>
 lB (vAnd ((dIx thing (.int 0)).bind fun x3=>t F.aL [x3]) ((dIx thing (.int 0)).bind fun x1=>(dIx thing (.int 1)).bind fun x2=>t F.az [x1,x2,is_end])) .rt
def bE (t:Nat→List D→R D)(four:D):L Unit :=
 lB (dIx four (.int 0)) fun first =>
 lS (lB (σ:=Unit) (rAnd (rNot (asB (dIsA qTup first))) (asB (dEq four (.tup [first,first,first,first])))) fun b=>if b=true then .rt first else .nx ()) fun _ =>
 .rt four
def bY (t:Nat→List D→R D)(tree_:D):L Unit :=
 lS (lB (σ:=Unit) (rNot (asB (dIsA qTup tree_))) fun b=>if b=true then .rt tree_ else .nx ()) fun _ =>
 lB ((((sq tree_).bind fun xs=>cMap (fun part=>t F.ar [part]) xs).bind fun x=>dTuple [x]).bind fun x1=>t F.aC [x1]) .rt
def cg (t:Nat→List D→R D)(thing:D):L Unit :=
 lB (t F.ax [thing,(.fn F.ao)]) .rt
def br (t:Nat→List D→R D)(thing:D):L Unit :=
 lB (rNot (asB (t F.aI [thing]))) fun b=>if b=true then .er 1 else .nx ()
def iC (t:Nat→List D→R D)(picture:D):L Unit :=
 lB (t F.ab [picture]) fun _ =>
 lB ((dIx picture (.int 0)).bind fun x=>((dIx picture (.int 1)).bind fun x1=>t F.ar [x1]).bind fun x2=>.ok (.tup [x,x2])) .rt
def bF (t:Nat→List D→R D)(tree_:D)(order:D):L Unit :=
 lS (lB (σ:=Unit) (rNot (asB (dIsA qTup tree_))) fun b=>if b=true then .rt tree_ else .nx ()) fun _ =>
 lB (((sq order).bind fun xs=>cMap (fun number=>(dIx tree_ number).bind fun x=>t F.al [x,order]) xs).bind fun x1=>dTuple [x1]) .rt
def fe (t:Nat→List D→R D)(picture:D)(order:D):L Unit :=
 lB (t F.aJ [picture]) fun shown =>
 lB ((dIx shown (.int 0)).bind fun x=>((dIx shown (.int 1)).bind fun x1=>t F.al [x1,order]).bind fun x2=>.ok (.tup [x,x2])) .rt
def dO (t:Nat→List D→R D)(picture:D):L Unit :=
 lB (t F.aj [picture,(tupI [2,0,3,1])]) .rt
def cx (t:Nat→List D→R D)(picture:D):L Unit :=
 lB (t F.aj [picture,(tupI [1,0,3,2])]) .rt
def c8 (t:Nat→List D→R D)(picture:D):L Unit :=
 lB (t F.aj [picture,(tupI [2,3,0,1])]) .rt
def c9 (t:Nat→List D→R D)(picture:D):L Unit :=
 lB (t F.aj [picture,(tupI [0,2,1,3])]) .rt
def bZ (t:Nat→List D→R D)(thing:D):L Unit :=
 lB (rOr (rNot (asB (t F.aB [thing]))) (rNot (asB (rCh dLe dLt (.int 0) thing (.ok (.int 8)))))) fun b=>if b=true then .er 2 else .nx ()
def cM (t:Nat→List D→R D)(told:D)(step:D):L (D) :=
 lB (t F.ag [told]) fun told1 =>
 .nx told1
def da (t:Nat→List D→R D)(picture:D)(way:D):L Unit :=
 lB (t F.aJ [picture]) fun told =>
 lB (t F.ak [way]) fun _ =>
 lS (lB (σ:=D) (asB (dGe way (.int 4))) fun b=>if b=true then lB (t F.ae [told]) fun told1 =>
 .nx told1 else .nx told) fun told2 =>
 lS (lB ((dMod way (.int 4)).bind fun x=>rng1 [x]) fun xs=>lFor (τ:=D) (fun s x=>cM t s x) xs told2) fun told4 =>
 .rt told4
def cy (t:Nat→List D→R D)(picture:D):L Unit :=
 lB ((rng1 [(.int 8)]).bind fun xs=>cMapE (fun way=>t F.af [picture,way]) xs) .rt
def kq (t:Nat→List D→R D)(side:D)(step:D):L (D) :=
 lB (dMul side (.int 2)) fun side1 =>
 .nx side1
def jL (t:Nat→List D→R D)(size_:D):L Unit :=
 lS (lB (rng1 [size_]) fun xs=>lFor (τ:=D) (fun s x=>kq t s x) xs (.int 1)) fun side1 =>
 .rt side1
def bP (t:Nat→List D→R D)(last:D)(spot:D)(step:D):L (D) :=
 lB (((dIx spot (.int 1)).bind fun x=>dSub last x).bind fun x1=>(dIx spot (.int 0)).bind fun x2=>.ok (.tup [x1,x2])) fun spot1 =>
 .nx spot1
def bU (t:Nat→List D→R D)(size_:D)(way:D)(x:D)(y:D):L Unit :=
 lB ((t F.aR [size_]).bind fun x1=>dSub x1 (.int 1)) fun last =>
 lS (lB (σ:=D) (asB (dGe way (.int 4))) fun b=>if b=true then lB ((dSub last x).bind fun x2=>.ok (.tup [x2,y])) fun spot =>
 .nx spot else .nx (.tup [x,y])) fun spot1 =>
 lS (lB ((dMod way (.int 4)).bind fun x3=>rng1 [x3]) fun xs=>lFor (τ:=D) (fun s x=>bP t last s x) xs spot1) fun spot3 =>
 .rt spot3
def bG (t:Nat→List D→R D)(one:D)(other:D):L Unit :=
 lB (t F.ak [one]) fun _ =>
 lB (t F.ak [other]) fun _ =>
 lB (((dDiv one (.int 4)).bind fun x=>(dDiv other (.int 4)).bind fun x1=>dAdd x x1).bind fun x2=>dMod x2 (.int 2)) fun mirrors =>
 lB (rIf (asB (dGe other (.int 4))) (dSub other one) (dAdd other one)) fun turns =>
 lB ((dMul (.int 4) mirrors).bind fun x3=>(dMod turns (.int 4)).bind fun x4=>dAdd x3 x4) .rt
def fg (t:Nat→List D→R D)(vy:D)(vP:D):L Unit :=
 lS (lB (σ:=Unit) (asB ((dLen [vy]).bind fun x=>dLt vP x)) fun b=>if b=true then lB (dIx vy vP) .rt else .nx ()) fun _ =>
 lS (lB (σ:=Unit) (asB (dEq vy (.lst []))) fun b1=>if b1=true then .rt (.int 0) else .nx ()) fun _ =>
 lB (((((dLen [vy]).bind fun x1=>dMod vP x1).bind fun x2=>dIx vy x2).bind fun x3=>dMul x3 (.int 31)).bind fun x4=>dAdd x4 vP) .rt
def fh (t:Nat→List D→R D)(vy:D)(vP:D)(wB:D):L Unit :=
 lB ((((t F.aQ [vy,vP]).bind fun x=>((dAdd vP (.int 1)).bind fun x1=>dMul (.int 6151) x1).bind fun x2=>dAdd x x2).bind fun x3=>dMul x3 (.int 40692)).bind fun x4=>dMod x4 (.int 2147483399)) fun wd =>
 lB ((((dMul wd wd).bind fun x5=>(dDiv wd (.int 31)).bind fun x6=>dAdd x5 x6).bind fun x7=>dMod x7 (.int 2147483629)).bind fun x8=>dMod x8 wB) .rt
def dP (t:Nat→List D→R D)(vy:D)(vI:D)(vD:D):L Unit :=
 lB (t F.ac [vy,vI,(.int 6)]) fun vL =>
 lS (lB (σ:=Unit) (rOr (asB (dEq vD (.int 0))) (asB (dLt vL (.int 2)))) fun b=>if b=true then lB ((((dAdd vI (.int 1)).bind fun x=>t F.ac [vy,x,(.int 10)]).bind fun x1=>.ok (.lst [(.int 0),(.int 1),(.int 1),(.int 2),(.int 9),x1])).bind fun x2=>((dAdd vI (.int 2)).bind fun x3=>t F.ac [vy,x3,(.int 6)]).bind fun x4=>dIx x2 x4) .rt else .nx ()) fun _ =>
 lS (lB (σ:=Unit) (asB (dEq vL (.int 2))) fun b1=>if b1=true then lB ((((dAdd vI (.int 3)).bind fun x5=>(dSub vD (.int 1)).bind fun x6=>t F.au [vy,x5,x6]).bind fun x7=>.ok (.tup [x7])).bind fun x8=>dMul x8 (.int 4)) .rt else .nx ()) fun _ =>
 lB (((rng1 [(.int 4)]).bind fun xs=>cMap (fun vP=>(((dMul (.int 5) vI).bind fun x9=>dAdd x9 (.int 7)).bind fun x10=>(dMul (.int 11) vP).bind fun x11=>dAdd x10 x11).bind fun x12=>(dSub vD (.int 1)).bind fun x13=>t F.au [vy,x12,x13]) xs).bind fun x14=>dTuple [x14]) .rt
def cN (t:Nat→List D→R D)(vy:D)(vI:D)(wC:D):L Unit :=
 lB ((((t F.ac [vy,vI,(.int 7)]).bind fun x=>dIx (.lst [(.int 0),(.int 0),(.int 0),(.int 1),(.int 1),(.int 2),(.int 3)]) x).bind fun x1=>dSub wC x1).bind fun x2=>dMax2 [(.int 0),x2]) fun vD =>
 lB (((dAdd vI (.int 1)).bind fun x3=>t F.au [vy,x3,vD]).bind fun x4=>.ok (.tup [vD,x4])) .rt
def cz (t:Nat→List D→R D)(vQ:D)(v6:List D)(wE:D):L (List D) :=
 lB (((((dIx vQ wE).bind fun x=>dLen [x]).bind fun x1=>rng1 [x1]).bind fun xs=>cMap (fun vP=>((dIx vQ wE).bind fun x2=>dIx x2 vP).bind fun x3=>(((dAdd wE (.int 1)).bind fun x4=>dIx vQ x4).bind fun x5=>dIx x5 vP).bind fun x6=>dAdd x3 x6) xs).bind fun x7=>oExt v6 x7) fun vV =>
 .nx vV
def b5 (t:Nat→List D→R D)(vD:D)(vH:D):L Unit :=
 lS (lB (σ:=Unit) (asB (dEq vD (.int 0))) fun b=>if b=true then .rt (.lst [(.lst [vH])]) else .nx ()) fun _ =>
 lB (rIf (asB (dIsA qTup vH)) (.ok vH) (dMul (.tup [vH]) (.int 4))) fun vN =>
 lB ((sq vN).bind fun xs=>cMap (fun vT=>(dSub vD (.int 1)).bind fun x=>t F.av [x,vT]) xs) fun vQ =>
 lS (lB (sq (.tup [(.int 0),(.int 2)])) fun xs2=>lFor (τ:=List D) (fun s x=>cz t vQ s x) xs2 []) fun vV =>
 .rt (.lst vV)
def fi (t:Nat→List D→R D)(vz:D):L Unit :=
 lB (((((dIx vz (.int 0)).bind fun x=>(dIx vz (.int 1)).bind fun x1=>t F.av [x,x1]).bind fun x2=>sq x2).bind fun xs=>cMap (fun vZ=>dTuple [vZ]) xs).bind fun x3=>dTuple [x3]) .rt
def ci (t:Nat→List D→R D)(wp:List D)(vZ:D):L (List D) :=
 lB (oExt wp vZ) fun vJ =>
 .nx vJ
def dq (t:Nat→List D→R D)(vx:D)(vR:D)(wG:D)(vN:List D)(wJ:D):L (List D) :=
 lB ((((((asI wG).bind fun i=>((dAdd wG vR).bind asI).bind fun i1=>dSw vx i i1).bind fun x=>sq x).bind fun xs=>cMap (fun vZ=>(asI wJ).bind fun i2=>((dAdd wJ vR).bind asI).bind fun i3=>dSw vZ i2 i3) xs).bind fun x1=>t F.aM [x1]).bind fun x2=>oApp vN x2) fun wH =>
 .nx wH
def dr (t:Nat→List D→R D)(vx:D)(vR:D)(vN:List D)(wG:D):L (List D) :=
 lS (lB (sq (.tup [(.int 0),vR])) fun xs1=>lFor (τ:=List D) (fun s x=>dq t vx vR wG s x) xs1 vN) fun we =>
 .nx we
def db (t:Nat→List D→R D)(vx:D):L Unit :=
 lS (lB (sq vx) fun xs=>lFor (τ:=List D) (fun s x=>ci t s x) xs []) fun vJ =>
 lS (lB (σ:=Unit) (asB ((dLenSet [(.lst vJ)]).bind fun x1=>dEq x1 (.int 1))) fun b=>if b=true then lB (dIx (.lst vJ) (.int 0)) .rt else .nx ()) fun _ =>
 lB ((dLen [vx]).bind fun x2=>dDiv x2 (.int 2)) fun vR =>
 lS (lB (sq (.tup [(.int 0),vR])) fun xs3=>lFor (τ:=List D) (fun s x=>dr t vx vR s x) xs3 []) fun we =>
 lB (dTuple [(.lst we)]) .rt
def kr (t:Nat→List D→R D)(vx:D):L Unit :=
 lB ((onL (.lst [(.int 1),(.int 2),(.int 4),(.int 8)]) fun ls=>(dLen [vx]).bind fun x=>dIndexI ls [x]).bind fun x1=>(t F.aM [vx]).bind fun x2=>.ok (.tup [x1,x2])) .rt
def cU (t:Nat→List D→R D)(vA:D)(v6:List D)(vP:D):L (List D) :=
 lB (((((dIx vA vP).bind fun x=>t F.aD [x]).bind fun x1=>sq x1).bind fun xs=>cMap (fun vF=>dAdd (.tup [vP]) vF) xs).bind fun x2=>oExt v6 x2) fun vV =>
 .nx vV
def cA (t:Nat→List D→R D)(vA:D):L Unit :=
 lS (lB (σ:=List D) (asB (dIsA qTup vA)) fun b=>if b=true then lS (lB ((dLen [vA]).bind fun x=>rng1 [x]) fun xs1=>lFor (τ:=List D) (fun s x=>cU t vA s x) xs1 [(.tup [])]) fun vV =>
 .nx vV else .nx [(.tup [])]) fun wm =>
 .rt (.lst wm)
def fj (t:Nat→List D→R D)(vA:D)(vF:D)(wy:D):L Unit :=
 lS (lB (σ:=Unit) (asB (dEq vF (.tup []))) fun b=>if b=true then .rt wy else .nx ()) fun _ =>
 lB (dIx vF (.int 0)) fun vP =>
 lB ((((asI vP).bind fun i=>dSw vA none i).bind fun x=>(((dIx vA vP).bind fun x1=>(dSw vF (some 1) none).bind fun x2=>t F.aP [x1,x2,wy]).bind fun x3=>.ok (.tup [x3])).bind fun x4=>dAdd x x4).bind fun x5=>(((dAdd vP (.int 1)).bind asI).bind fun i1=>dSw vA i1 none).bind fun x6=>dAdd x5 x6) .rt
def du (t:Nat→List D→R D)(vA:D)(vP:D):L (D) :=
 lB (dIx vA vP) fun wq =>
 .nx wq
def ek (t:Nat→List D→R D)(vA:D)(vF:D):L Unit :=
 lS (lB (sq vF) fun xs=>lFor (τ:=D) (fun s x=>du t s x) xs vA) fun wI =>
 .rt wI
def bh (t:Nat→List D→R D)(vy:D)(vI:D)(vA:D):L Unit :=
 lB (t F.aD [vA]) fun vM =>
 lB (((dLen [vM]).bind fun x=>t F.ac [vy,vI,x]).bind fun x1=>dIx vM x1) fun vF =>
 lB (t F.aO [vA,vF]) fun wn =>
 lB (((dMul (.tup [wn]) (.int 4)).bind fun x2=>.ok (.lst [(.lst [(.int 1),(.int 2),(.int 3),(.int 4)]),x2])).bind fun x3=>oExt [(.int (-1)),(.int 0),(.int 3),(.int 4),(.int 9),(.int 10),(.bl true),.non,(.str "1"),(.tup []),(.tup [(.int 1),(.int 2),(.int 3)]),(.tup [(.int 1),(.int 1),(.int 1),(.int 1)]),(.tup [(.int 1),(.int 2),(.int 3),(.int 4),(.int 5)])] x3) fun vQ =>
 lB ((((dAdd vI (.int 1)).bind fun x4=>t F.ac [vy,x4,(.int 15)]).bind fun x5=>oIx vQ x5).bind fun x6=>t F.aP [vA,vF,x6]) .rt
def b7 (t:Nat→List D→R D)(vA:D)(vD:D):L Unit :=
 lS (lB (σ:=Unit) (rAnd (asB (dIsA qInt vA)) (rNot (asB (dIsA qBool vA)))) fun b=>if b=true then lB (rCh dLe dLe (.int 0) vA (.ok (.int 9))) .rt else .nx ()) fun _ =>
 lS (lB (σ:=Unit) (rOr (rNot (asB (dIsA qTup vA))) (rOr (asB ((dLen [vA]).bind fun x=>dNf x (.int 4))) (asB (dEq vD (.int 0))))) fun b1=>if b1=true then .rt (.bl false) else .nx ()) fun _ =>
 lB (((sq vA).bind fun xs=>cFil (fun vT=>(rNot (asB ((dSub vD (.int 1)).bind fun x1=>t F.ah [vT,x1])))) (fun vT=>.ok vT) xs).bind fun x2=>dEq x2 (.lst [])) .rt
def bH (t:Nat→List D→R D)(vA:D):L Unit :=
 lS (lB (σ:=Unit) (rOr (rNot (asB (dIsA qTup vA))) (rOr (asB ((dLen [vA]).bind fun x2=>dNf x2 (.int 2))) (rOr (rNot (asB ((dIx vA (.int 0)).bind fun x1=>dIsA qInt x1))) (asB ((dIx vA (.int 0)).bind fun x=>dIsA qBool x))))) fun b=>if b=true then .rt (.bl false) else .nx ()) fun _ =>
 lB (vAnd ((dIx vA (.int 0)).bind fun x5=>rCh dLe dLe (.int 0) x5 (.ok (.int 3))) ((dIx vA (.int 1)).bind fun x3=>(dIx vA (.int 0)).bind fun x4=>t F.ah [x3,x4])) .rt
def bV (t:Nat→List D→R D)(vB:D)(vx:D)(wM:D):L (D) :=
 lB (((rng1 [vB]).bind fun xs=>cMap (fun wb=>((rng1 [vB]).bind fun xs1=>cMap (fun wc=>(((dSub vB (.int 1)).bind fun x=>dSub x wc).bind fun x1=>dIx vx x1).bind fun x2=>dIx x2 wb) xs1).bind fun x3=>dTuple [x3]) xs).bind fun x4=>dTuple [x4]) fun vU =>
 .nx vU
def dv (t:Nat→List D→R D)(vx:D)(vL:D):L Unit :=
 lB (dLen [vx]) fun vB =>
 lS (lB (σ:=D) (asB (dGe vL (.int 4))) fun b=>if b=true then lB (((sq vx).bind fun xs=>cMap (fun vZ=>dRev vZ) xs).bind fun x=>dTuple [x]) fun vU =>
 .nx vU else .nx vx) fun v7 =>
 lS (lB ((dMod vL (.int 4)).bind fun x1=>rng1 [x1]) fun xs3=>lFor (τ:=D) (fun s x=>bV t vB s x) xs3 v7) fun ww =>
 .rt ww
def dQ (t:Nat→List D→R D)(vO:D):L Unit :=
 lB ((dIsA (qEx esL 3) vO).bind fun x=>(dIsA (qEx esL 6) vO).bind fun x1=>(dIsA (qEx esL 7) vO).bind fun x2=>.ok [x,x1,x2]) fun wz=>lB ((dIsA (qEx esL 8) vO).bind fun x3=>oApp wz x3) fun wr =>
 lB (((dIsA (qEx esL 1) vO).bind fun x4=>(dIsA (qEx esL 5) vO).bind fun x5=>(dIsA (qEx esL 2) vO).bind fun x6=>.ok (.lst [x4,x5,x6])).bind fun x7=>oExt wr x7) fun wt =>
 lB (((dIsA (qEx esL 10) vO).bind fun x8=>(dIsA (qEx esL 9) vO).bind fun x9=>(dIsA (qEx esL 4) vO).bind fun x10=>.ok (.lst [x8,x9,x10])).bind fun x11=>oExt wt x11) fun vX =>
 lS (lB (σ:=Unit) (rOr (asB ((onL (.lst vX) fun ls=>dCount ls [(.bl true)]).bind fun x12=>dNf x12 (.int 1))) (rNot (asB (dIsA (qVx esL) vO)))) fun b=>if b=true then .rt (.str "wrong") else .nx ()) fun _ =>
 lB ((dAdd (.lst [(.str "bad box"),(.str "no blocks"),(.str "no change"),(.str "no number"),(.str "no picture"),(.str "no rule"),(.str "no spot"),(.str "no text")]) (.lst [(.str "nothing done"),(.str "unlike")])).bind fun x13=>(onL (.lst vX) fun ls1=>dIndex ls1 [(.bl true)]).bind fun x14=>dIx x13 x14) .rt
def aY (t:Nat→List D→R D)(vS:D)(vE:D)(vC:D):L Unit :=
 lTry (τ:=D) (qTk esL) (lB (asB (dLt vS (.int 4))) fun b=>if b=true then lB ((dIx (.lst [(.fn F.ag),(.fn F.ae),(.fn F.ap),(.fn F.aA)]) vS).bind fun f=>onF fvL f fun i=>t i [vE]) fun wu =>
 .nx wu else lB (asB (dEq vS (.int 4))) fun b1=>if b1=true then lB (t F.af [vE,vC]) fun wj =>
 .nx wj else lB (rIf (asB (dEq vS (.int 5))) (t F.ay [vE,vC]) (t F.aE [vE])) fun wl =>
 .nx wl) (fun wa=>lS (lB (σ:=Unit) (asB (dIs .non .non)) fun b2=>if b2=true then .rt wa else .nx ()) fun _ =>
 lB (t F.aw [.non]) .rt) (fun k=>lS (lB (σ:=Unit) (asB (dIs (.exc k) .non)) fun b3=>if b3=true then lB (R.stuck) .rt else .nx ()) fun _ =>
 lB (t F.aw [(.exc k)]) .rt)
def bi (t:Nat→List D→R D)(vy:D)(vI:D)(vB:D)(v8:D):L Unit :=
 lB (.ok v8) fun d1=>lUn3 d1 fun vE vC v9 =>
 lS (lB (σ:=Unit) (asB (((t F.ai [(.tup [(.tup [(.int 0),(.int 1)]),(.tup [(.int 2),(.int 3)])]),vE]).bind fun x=>t F.ai [x,vC]).bind fun x1=>(t F.ai [(.tup [(.tup [(.int 0),(.int 1)]),(.tup [(.int 2),(.int 3)])]),v9]).bind fun x2=>dNf x1 x2)) fun b=>if b=true then .rt (.bl false) else .nx ()) fun _ =>
 lB (t F.ac [vy,vI,vB]) fun wc =>
 lB ((dAdd vI (.int 1)).bind fun x3=>t F.ac [vy,x3,vB]) fun wb =>
 lB ((onL (.lst [(.int 1),(.int 2),(.int 4),(.int 8)]) fun ls=>dIndexI ls [vB]).bind fun x4=>t F.aG [x4,vE,wc,wb]) fun d=>lUn2 d fun v5 wf =>
 lS (lB (σ:=Unit) (rOr (rNot (asB (rCh dLe dLt (.int 0) v5 (.ok vB)))) (rNot (asB (rCh dLe dLt (.int 0) wf (.ok vB))))) fun b1=>if b1=true then .rt (.bl false) else .nx ()) fun _ =>
 lB (((rng1 [vB]).bind fun xs=>cMap (fun wK=>((rng1 [vB]).bind fun xs1=>cMap (fun wL=>(dEq (.tup [wc,wb]) (.tup [wL,wK])).bind fun x5=>dIntB [x5]) xs1).bind fun x6=>dTuple [x6]) xs).bind fun x7=>dTuple [x7]) fun wA =>
 lB ((((t F.ai [wA,vE]).bind fun x8=>dIx x8 wf).bind fun x9=>dIx x9 v5).bind fun x10=>dEq x10 (.int 1)) .rt
def cj (t:Nat→List D→R D)(vy:D)(vz:D)(vB:D)(vG:D)(vP:D):L (Unit) :=
 lB ((((dMul (.int 2) vP).bind fun x=>dAdd (.int 5000) x).bind fun x1=>t F.ac [vy,x1,(.int 10)]).bind fun x2=>dSub x2 (.int 1)) fun vE =>
 lB ((((dMul (.int 2) vP).bind fun x3=>dAdd (.int 5001) x3).bind fun x4=>t F.ac [vy,x4,(.int 10)]).bind fun x5=>dSub x5 (.int 1)) fun vC =>
 lB ((sq (.tup [vE,vC])).bind fun xs=>cMap (fun vL=>rCh dLe dLt (.int 0) vL (.ok (.int 8))) xs) fun v4 =>
 lS (lB (σ:=Unit) (asB ((t F.aa [(.int 4),vz,vE]).bind fun x6=>(rIf (asB (dIx v4 (.int 0))) (dIx vG vE) (.ok (.str "no spot"))).bind fun x7=>dNf x6 x7)) fun b=>if b=true then .rt (.bl false) else .nx ()) fun _ =>
 lB (t F.aa [(.int 5),vE,vC]) fun vY =>
 lB (asB (dNf v4 (.lst [(.bl true),(.bl true)]))) fun b1=>if b1=true then lB (asB (dNf vY (.str "no spot"))) fun b2=>if b2=true then .rt (.bl false) else .nx () else lS (lB (σ:=Unit) (rOr (rNot (asB (dIsA qInt vY))) (rOr (rNot (asB (rCh dLe dLt (.int 0) vY (.ok (.int 8))))) (asB (((t F.af [vz,vE]).bind fun x8=>t F.af [x8,vC]).bind fun x9=>(dIx vG vY).bind fun x10=>dNf x9 x10)))) fun b3=>if b3=true then .rt (.bl false) else .nx ()) fun _ =>
 lB (rNot (asB (((dMul (.int 2) vP).bind fun x11=>dAdd (.int 5020) x11).bind fun x12=>t F.aq [vy,x12,vB,(.tup [vE,vC,vY])]))) fun b4=>if b4=true then .rt (.bl false) else .nx ()
def em (t:Nat→List D→R D)(vy:D):L Unit :=
 lB (t F.aF [vy,(.int 0),(.int 3)]) fun vz =>
 lB (t F.aN [vz]) fun vx =>
 lB (dLen [vx]) fun vB =>
 lB ((rng1 [(.int 8)]).bind fun xs=>cMap (fun vL=>(t F.ai [vx,vL]).bind fun x=>t F.aK [x]) xs) fun vG =>
 lB ((((rng1 [vB]).bind fun xs1=>cMap (fun wb=>((rng1 [vB]).bind fun xs2=>cMap (fun wc=>(dIx vx wc).bind fun x1=>dIx x1 wb) xs2).bind fun x2=>dTuple [x2]) xs1).bind fun x3=>dTuple [x3]).bind fun x4=>t F.aK [x4]) fun vK =>
 lB ((dIx vG (.int 1)).bind fun x5=>(dIx vG (.int 4)).bind fun x6=>((dRev vx).bind fun x7=>t F.aK [x7]).bind fun x8=>.ok (.lst [x5,x6,x8,vK])) fun vW =>
 lS (lB (σ:=Unit) (rOr (asB (((rng1 [(.int 4)]).bind fun xs3=>cMap (fun vS=>t F.aa [vS,vz,.non]) xs3).bind fun x10=>dNf x10 vW)) (asB ((t F.aa [(.int 6),vz,.non]).bind fun x9=>dNf x9 vG))) fun b=>if b=true then .rt (.bl false) else .nx ()) fun _ =>
 lS (lB (rng1 [(.int 4)]) fun xs5=>lFor (τ:=Unit) (fun _ x=>cj t vy vz vB vG x) xs5 ()) fun _ =>
 lS (lB (σ:=Unit) (rOr (asB (((((t F.ag [vz]).bind fun x28=>t F.ag [x28]).bind fun x29=>t F.ag [x29]).bind fun x30=>t F.ag [x30]).bind fun x31=>(dIx vG (.int 0)).bind fun x32=>dNf x31 x32)) (asB (((t F.ap [vz]).bind fun x25=>t F.ae [x25]).bind fun x26=>(dIx vG (.int 2)).bind fun x27=>dNf x26 x27))) fun b6=>if b6=true then .rt (.bl false) else .nx ()) fun _ =>
 lB (t F.ad [vy,(.int 5200),vz]) fun wD =>
 lB (vOr (t F.an [wD]) (((sq (.tup [(.int 0),(.int 1),(.int 2),(.int 3),(.int 4),(.int 6)])).bind fun xs6=>cMap (fun wF=>t F.aa [wF,wD,(.int 0)]) xs6).bind fun x33=>(dMul (.lst [(.str "no picture")]) (.int 6)).bind fun x34=>dEq x33 x34)) .rt
def pf:Nat→Nat→List D→R D
 | 0,_=>fun _=>.stuck
 | n+1,i=>match i with
  | 20=>a1 (eL (pf n))
  | 21=>a1 (dm (pf n))
  | 22=>a1 (eg (pf n))
  | 23=>a3 (c7 (pf n))
  | 24=>a2 (bq (pf n))
  | 25=>a1 (bE (pf n))
  | 26=>a1 (bY (pf n))
  | 27=>a1 (cg (pf n))
  | 28=>a1 (br (pf n))
  | 29=>a1 (iC (pf n))
  | 69=>a2 (bF (pf n))
  | 70=>a2 (fe (pf n))
  | 125=>a1 (dO (pf n))
  | 84=>a1 (cx (pf n))
  | 126=>a1 (c8 (pf n))
  | 71=>a1 (c9 (pf n))
  | 127=>a1 (bZ (pf n))
  | 128=>a2 (da (pf n))
  | 129=>a1 (cy (pf n))
  | 130=>a1 (jL (pf n))
  | 131=>a4 (bU (pf n))
  | 132=>a2 (bG (pf n))
  | 30=>a2 (fg (pf n))
  | 31=>a3 (fh (pf n))
  | 32=>a3 (dP (pf n))
  | 33=>a3 (cN (pf n))
  | 54=>a2 (b5 (pf n))
  | 55=>a1 (fi (pf n))
  | 56=>a1 (db (pf n))
  | 57=>a1 (kr (pf n))
  | 34=>a1 (cA (pf n))
  | 35=>a3 (fj (pf n))
  | 36=>a2 (ek (pf n))
  | 37=>a3 (bh (pf n))
  | 39=>a2 (b7 (pf n))
  | 38=>a1 (bH (pf n))
  | 133=>a2 (dv (pf n))
  | 40=>a1 (dQ (pf n))
  | 134=>a3 (aY (pf n))
  | 135=>a4 (bi (pf n))
  | 136=>a1 (em (pf n))
  | _=>fun _=>.stuck
theorem lD (n:Nat)(a0:D):pf (n+1) F.aB [a0]=outL (eL (pf n) a0):=rfl
theorem lE (n:Nat)(a0:D):pf (n+1) F.ao [a0]=outL (dm (pf n) a0):=rfl
theorem mM (n:Nat)(a0:D):pf (n+1) F.aL [a0]=outL (eg (pf n) a0):=rfl
theorem iD (n:Nat)(a0 a1 a2:D):pf (n+1) F.az [a0,a1,a2]=outL (c7 (pf n) a0 a1 a2):=rfl
theorem fT (n:Nat)(a0 a1:D):pf (n+1) F.ax [a0,a1]=outL (bq (pf n) a0 a1):=rfl
theorem gJ (n:Nat)(a0:D):pf (n+1) F.aC [a0]=outL (bE (pf n) a0):=rfl
theorem fk (n:Nat)(a0:D):pf (n+1) F.ar [a0]=outL (bY (pf n) a0):=rfl
theorem jn (n:Nat)(a0:D):pf (n+1) F.aI [a0]=outL (cg (pf n) a0):=rfl
theorem fU (n:Nat)(a0:D):pf (n+1) F.ab [a0]=outL (br (pf n) a0):=rfl
theorem nM (n:Nat)(a0:D):pf (n+1) F.aJ [a0]=outL (iC (pf n) a0):=rfl
theorem eB (n:Nat)(a0 a1:D):pf (n+1) F.al [a0,a1]=outL (bF (pf n) a0 a1):=rfl
theorem lG (n:Nat)(a0 a1:D):pf (n+1) F.aj [a0,a1]=outL (fe (pf n) a0 a1):=rfl
theorem jM (n:Nat)(a0:D):pf (n+1) F.ag [a0]=outL (dO (pf n) a0):=rfl
theorem gz (n:Nat)(a0:D):pf (n+1) F.ae [a0]=outL (cx (pf n) a0):=rfl
theorem iE (n:Nat)(a0:D):pf (n+1) F.ap [a0]=outL (c8 (pf n) a0):=rfl
theorem iF (n:Nat)(a0:D):pf (n+1) F.aA [a0]=outL (c9 (pf n) a0):=rfl
theorem fm (n:Nat)(a0:D):pf (n+1) F.ak [a0]=outL (bZ (pf n) a0):=rfl
theorem fV (n:Nat)(a0 a1:D):pf (n+1) F.af [a0,a1]=outL (da (pf n) a0 a1):=rfl
theorem gA (n:Nat)(a0:D):pf (n+1) F.aE [a0]=outL (cy (pf n) a0):=rfl
theorem iG (n:Nat)(a0 a1 a2 a3:D):pf (n+1) F.aG [a0,a1,a2,a3]=outL (bU (pf n) a0 a1 a2 a3):=rfl
theorem eD (n:Nat)(a0 a1:D):pf (n+1) F.ay [a0,a1]=outL (bG (pf n) a0 a1):=rfl
theorem oG (n:Nat)(a0 a1:D):pf (n+1) F.aQ [a0,a1]=outL (fg (pf n) a0 a1):=rfl
theorem oH (n:Nat)(a0 a1 a2:D):pf (n+1) F.ac [a0,a1,a2]=outL (fh (pf n) a0 a1 a2):=rfl
theorem jN (n:Nat)(a0 a1 a2:D):pf (n+1) F.au [a0,a1,a2]=outL (dP (pf n) a0 a1 a2):=rfl
theorem ku (n:Nat)(a0 a1 a2:D):pf (n+1) F.aF [a0,a1,a2]=outL (cN (pf n) a0 a1 a2):=rfl
theorem fo (n:Nat)(a0 a1:D):pf (n+1) F.av [a0,a1]=outL (b5 (pf n) a0 a1):=rfl
theorem oI (n:Nat)(a0:D):pf (n+1) F.aN [a0]=outL (fi (pf n) a0):=rfl
theorem iH (n:Nat)(a0:D):pf (n+1) F.aM [a0]=outL (db (pf n) a0):=rfl
theorem sD (n:Nat)(a0:D):pf (n+1) F.aK [a0]=outL (kr (pf n) a0):=rfl
theorem gC (n:Nat)(a0:D):pf (n+1) F.aD [a0]=outL (cA (pf n) a0):=rfl
theorem lH (n:Nat)(a0 a1 a2:D):pf (n+1) F.aP [a0,a1,a2]=outL (fj (pf n) a0 a1 a2):=rfl
theorem mO (n:Nat)(a0 a1:D):pf (n+1) F.aO [a0,a1]=outL (ek (pf n) a0 a1):=rfl
theorem fq (n:Nat)(a0 a1 a2:D):pf (n+1) F.ad [a0,a1,a2]=outL (bh (pf n) a0 a1 a2):=rfl
theorem ft (n:Nat)(a0 a1:D):pf (n+1) F.ah [a0,a1]=outL (b7 (pf n) a0 a1):=rfl
theorem gK (n:Nat)(a0:D):pf (n+1) F.an [a0]=outL (bH (pf n) a0):=rfl
theorem lI (n:Nat)(a0 a1:D):pf (n+1) F.ai [a0,a1]=outL (dv (pf n) a0 a1):=rfl
theorem jO (n:Nat)(a0:D):pf (n+1) F.aw [a0]=outL (dQ (pf n) a0):=rfl
theorem jP (n:Nat)(a0 a1 a2:D):pf (n+1) F.aa [a0,a1,a2]=outL (aY (pf n) a0 a1 a2):=rfl
theorem fu (n:Nat)(a0 a1 a2 a3:D):pf (n+1) F.aq [a0,a1,a2,a3]=outL (bi (pf n) a0 a1 a2 a3):=rfl
theorem mP (n:Nat)(a0:D):pf (n+1) F.aH [a0]=outL (em (pf n) a0):=rfl
end Lw
end
noncomputable section
set_option maxHeartbeats 4000000
namespace Lw
open PySem PySem.Spec PyProof.Rows L2 FF
def top (i:Nat):Stmt:=PySem.Challenge.pw_fourfold_k30_whole_ways.main.body.getD i (.Pass ⟨0,0,0,0⟩)
abbrev eM:Stmt:=top 15
theorem lJ:FnScope ["thing"] ["thing"] (defScope eM):=mkSc
abbrev eN:Stmt:=top 16
theorem lK:FnScope ["thing"] ["thing"] (defScope eN):=mkSc
abbrev fW:Stmt:=top 17
theorem mQ:FnScope ["thing"] ["thing"] (defScope fW):=mkSc
abbrev fX:Stmt:=top 18
theorem mR:FnScope ["size","thing","is_end"] ["size","thing","is_end"] (defScope fX):=mkSc
abbrev cc:Stmt:=top 19
theorem fY:FnScope ["thing","is_end"] ["thing","is_end"] (defScope cc):=mkSc
abbrev cB:Stmt:=top 20
theorem dJ:FnScope ["four","first"] ["four"] (defScope cB):=mkSc
abbrev dR:Stmt:=top 21
theorem kx:FnScope ["tree"] ["tree"] (defScope dR):=mkSc
abbrev dz:Stmt:=top 23
theorem jo:FnScope ["thing"] ["thing"] (defScope dz):=mkSc
abbrev ce:Stmt:=top 24
theorem fZ:FnScope ["thing"] ["thing"] (defScope ce):=mkSc
abbrev mS:Stmt:=top 25
theorem sE:FnScope ["picture"] ["picture"] (defScope mS):=mkSc
abbrev dA:Stmt:=top 33
theorem jp:FnScope ["tree","order"] ["tree","order"] (defScope dA):=mkSc
abbrev ky:Stmt:=top 34
theorem lL:FnScope ["picture","order","shown"] ["picture","order"] (defScope ky):=mkSc
abbrev iI:Stmt:=top 35
theorem oJ:FnScope ["picture"] ["picture"] (defScope iI):=mkSc
abbrev eO:Stmt:=top 36
theorem lM:FnScope ["picture"] ["picture"] (defScope eO):=mkSc
abbrev f8:Stmt:=top 37
theorem mT:FnScope ["picture"] ["picture"] (defScope f8):=mkSc
abbrev f9:Stmt:=top 38
theorem mU:FnScope ["picture"] ["picture"] (defScope f9):=mkSc
abbrev dS:Stmt:=top 39
theorem kz:FnScope ["thing"] ["thing"] (defScope dS):=mkSc
abbrev iJ:Stmt:=top 40
theorem dc:FnScope ["picture","way","told","step"] ["picture","way"] (defScope iJ):=mkSc
abbrev eQ:Stmt:=top 41
theorem lN:FnScope ["picture"] ["picture"] (defScope eQ):=mkSc
abbrev gg:Stmt:=top 42
theorem dB:FnScope ["size","side","step"] ["size"] (defScope gg):=mkSc
abbrev cW:Stmt:=top 43
theorem aW:FnScope ["size","way","x","y","last","spot","step"] ["size","way","x","y"] (defScope cW):=mkSc
abbrev dC:Stmt:=top 44
theorem cX:FnScope ["one","other","mirrors","turns"] ["one","other"] (defScope dC):=mkSc
abbrev iK:Stmt:=top 46
theorem oK:FnScope ["_law_script","_law_k"] ["_law_script","_law_k"] (defScope iK):=mkSc
abbrev iL:Stmt:=top 47
theorem jQ:FnScope ["_law_script","_law_k","_law_many","_law_drawn"] ["_law_script","_law_k","_law_many"] (defScope iL):=mkSc
abbrev iM:Stmt:=top 48
theorem jR:FnScope ["_law_script","_law_at","_law_size","_law_way"] ["_law_script","_law_at","_law_size"] (defScope iM):=mkSc
abbrev dU:Stmt:=top 49
theorem fv:FnScope ["_law_script","_law_at","_law_most","_law_size"] ["_law_script","_law_at","_law_most"] (defScope dU):=mkSc
abbrev dW:Stmt:=top 50
theorem bI:FnScope ["_law_size","_law_tree_here","_law_parts","_law_some","_law_made","_law_upper"] ["_law_size","_law_tree_here"] (defScope dW):=mkSc
abbrev iO:Stmt:=top 51
theorem oM:FnScope ["_law_picture_here"] ["_law_picture_here"] (defScope iO):=mkSc
abbrev gh:Stmt:=top 52
theorem bz:FnScope ["_law_rows_here","_law_worths","_law_row","_law_half","_law_parts","_law_top","_law_left"] ["_law_rows_here"] (defScope gh):=mkSc
abbrev mV:Stmt:=top 53
theorem sF:FnScope ["_law_rows_here"] ["_law_rows_here"] (defScope mV):=mkSc
abbrev eR:Stmt:=top 54
theorem dX:FnScope ["_law_thing","_law_made","_law_k"] ["_law_thing"] (defScope eR):=mkSc
abbrev kA:Stmt:=top 55
theorem lO:FnScope ["_law_thing","_law_place","_law_new","_law_k"] ["_law_thing","_law_place","_law_new"] (defScope kA):=mkSc
abbrev gi:Stmt:=top 56
theorem eS:FnScope ["_law_thing","_law_place","_law_k"] ["_law_thing","_law_place"] (defScope gi):=mkSc
abbrev bQ:Stmt:=top 57
theorem aQ:FnScope ["_law_script","_law_at","_law_thing","_law_places_here","_law_place","_law_here","_law_some"] ["_law_script","_law_at","_law_thing"] (defScope bQ):=mkSc
abbrev cC:Stmt:=top 58
theorem gL:FnScope ["_law_thing"] ["_law_thing"] (defScope cC):=mkSc
abbrev dY:Stmt:=top 59
theorem kB:FnScope ["_law_thing","_law_size"] ["_law_thing","_law_size"] (defScope dY):=mkSc
abbrev eT:Stmt:=top 60
theorem b8:FnScope ["_law_rows_here","_law_way","_law_side","_law_again"] ["_law_rows_here","_law_way"] (defScope eT):=mkSc
abbrev iP:Stmt:=top 61
theorem gj:FnScope ["_law_kept","_law_kinds","_law_words"] ["_law_kept"] (defScope iP):=mkSc
abbrev iQ:Stmt:=top 62
theorem bR:FnScope ["_law_what","_law_one","_law_other","_law_kept","_law_answer","e"] ["_law_what","_law_one","_law_other"] (defScope iQ):=mkSc
abbrev bS:Stmt:=top 63
theorem aR:FnScope ["_law_script","_law_at","_law_side","_law_ways","_law_one","_law_other","_law_last","_law_x","_law_y","_law_across","_law_down","_law_marks"] ["_law_script","_law_at","_law_side","_law_ways"] (defScope bS):=mkSc
abbrev a7:Stmt:=top 64
theorem aG:FnScope ["_law_script","_law_picture_here","_law_rows_here","_law_side","_law_every","_law_crossed","_law_due","_law_k","_law_one","_law_other","_law_good","_law_told","_law_bad"] ["_law_script"] (defScope a7):=mkSc
structure Txt (K:PySem.W.Frag)(mg:Str→Option Value)(C:Nat→Addr)(wP:Params):Prop where
 b_ValueError:mg "ValueError"=none
 b_all:mg "all"=none
 b_bool:mg "bool"=none
 b_int:mg "int"=none
 b_isinstance:mg "isinstance"=none
 b_len:mg "len"=none
 b_max:mg "max"=none
 b_range:mg "range"=none
 b_set:mg "set"=none
 b_tuple:mg "tuple"=none
 k_GREATEST_WORTH:∃ t,mg "GREATEST_WORTH"=some (.int 9 t)
 k_LARGEST_SIZE:∃ t,mg "LARGEST_SIZE"=some (.int 3 t)
 k_TURNS:∃ t,mg "TURNS"=some (.int 4 t)
 k_WAYS:∃ t,mg "WAYS"=some (.int 8 t)
 t_BY_FLIPPING:∃ a,mg "BY_FLIPPING"=some (.ref a)∧TupK K a [2,3,0,1]
 t_BY_MIRRORING:∃ a,mg "BY_MIRRORING"=some (.ref a)∧TupK K a [1,0,3,2]
 t_BY_SWAPPING:∃ a,mg "BY_SWAPPING"=some (.ref a)∧TupK K a [0,2,1,3]
 t_BY_TURNING:∃ a,mg "BY_TURNING"=some (.ref a)∧TupK K a [2,0,3,1]
 f_is_worth:mg "is_worth"=some (.ref (C F.ao))
 f_turned:mg "turned"=some (.ref (C F.ag))
 f_mirrored:mg "mirrored"=some (.ref (C F.ae))
 f_flipped:mg "flipped"=some (.ref (C F.ap))
 f_swapped:mg "swapped"=some (.ref (C F.aA))
 c_FourError:mg "FourError"=some (.ref (C 0))
 c_NoPicture:mg "NoPicture"=some (.ref (C 1))
 c_NoSpot:mg "NoSpot"=some (.ref (C 2))
 c_BadBox:mg "BadBox"=some (.ref (C 3))
 c_Unlike:mg "Unlike"=some (.ref (C 4))
 c_NoRule:mg "NoRule"=some (.ref (C 5))
 c_NoBlocks:mg "NoBlocks"=some (.ref (C 6))
 c_NoChange:mg "NoChange"=some (.ref (C 7))
 c_NoNumber:mg "NoNumber"=some (.ref (C 8))
 c_NothingDone:mg "NothingDone"=some (.ref (C 9))
 c_NoText:mg "NoText"=some (.ref (C 10))
 x_NoPicture:PySem.W.excIn K (C 1) bmVE "ValueError.__new__"=true
 x_NoSpot:PySem.W.excIn K (C 2) bmVE "ValueError.__new__"=true
 i_BadBox:IsA K C (.ref (C 3)) (qEx esL 3)
 i_NoBlocks:IsA K C (.ref (C 6)) (qEx esL 6)
 i_NoChange:IsA K C (.ref (C 7)) (qEx esL 7)
 i_NoNumber:IsA K C (.ref (C 8)) (qEx esL 8)
 i_NoPicture:IsA K C (.ref (C 1)) (qEx esL 1)
 i_NoRule:IsA K C (.ref (C 5)) (qEx esL 5)
 i_NoSpot:IsA K C (.ref (C 2)) (qEx esL 2)
 i_NoText:IsA K C (.ref (C 10)) (qEx esL 10)
 i_NothingDone:IsA K C (.ref (C 9)) (qEx esL 9)
 i_Unlike:IsA K C (.ref (C 4)) (qEx esL 4)
 i_ValueError:IsA K C (.ty "ValueError") (qVx esL)
 takes:Takes K C (C 0) (qTk esL)
structure Tab (P:Program)(w:World)(K:PySem.W.Frag)(mg:Str→Option Value)(base:Heap)(C:Nat→Addr)(k:Nat)(t:Nat→List FF.D→FF.R FF.D):Prop where
 g20:Fn1 P w K mg base C k "is_whole" ["thing"] (t F.aB)
 g21:Fn1 P w K mg base C k "is_worth" ["thing"] (t F.ao)
 g22:Fn1 P w K mg base C k "is_size" ["thing"] (t F.aL)
 g23:Fn1 P w K mg base C k "is_tree" ["size","thing","is_end"] (t F.az)
 g24:Fn1 P w K mg base C k "is_sized_tree" ["thing","is_end"] (t F.ax)
 g25:Fn1 P w K mg base C k "put_together" ["four"] (t F.aC)
 g26:Fn1 P w K mg base C k "lean_tree" ["tree"] (t F.ar)
 g27:Fn1 P w K mg base C k "is_picture" ["thing"] (t F.aI)
 g28:Fn1 P w K mg base C k "check_picture" ["thing"] (t F.ab)
 g29:Fn1 P w K mg base C k "lean" ["picture"] (t F.aJ)
 g69:Fn1 P w K mg base C k "moved_tree" ["tree","order"] (t F.al)
 g70:Fn1 P w K mg base C k "moved" ["picture","order"] (t F.aj)
 g125:Fn1 P w K mg base C k "turned" ["picture"] (t F.ag)
 g84:Fn1 P w K mg base C k "mirrored" ["picture"] (t F.ae)
 g126:Fn1 P w K mg base C k "flipped" ["picture"] (t F.ap)
 g71:Fn1 P w K mg base C k "swapped" ["picture"] (t F.aA)
 g127:Fn1 P w K mg base C k "check_way" ["thing"] (t F.ak)
 g128:Fn1 P w K mg base C k "by_way" ["picture","way"] (t F.af)
 g129:Fn1 P w K mg base C k "all_ways" ["picture"] (t F.aE)
 g130:Fn1 P w K mg base C k "side_at" ["size"] (t F.aR)
 g131:Fn1 P w K mg base C k "spot_behind" ["size","way","x","y"] (t F.aG)
 g132:Fn1 P w K mg base C k "behind_way" ["one","other"] (t F.ay)
 g30:Fn1 P w K mg base C k "_law_cell" ["_law_script","_law_k"] (t F.aQ)
 g31:Fn1 P w K mg base C k "_law_pick" ["_law_script","_law_k","_law_many"] (t F.ac)
 g32:Fn1 P w K mg base C k "_law_tree" ["_law_script","_law_at","_law_size"] (t F.au)
 g33:Fn1 P w K mg base C k "_law_picture" ["_law_script","_law_at","_law_most"] (t F.aF)
 g54:Fn1 P w K mg base C k "_law_rows_of" ["_law_size","_law_tree_here"] (t F.av)
 g55:Fn1 P w K mg base C k "_law_rows" ["_law_picture_here"] (t F.aN)
 g56:Fn1 P w K mg base C k "_law_least" ["_law_rows_here"] (t F.aM)
 g57:Fn1 P w K mg base C k "_law_of" ["_law_rows_here"] (t F.aK)
 g34:Fn1 P w K mg base C k "_law_places" ["_law_thing"] (t F.aD)
 g35:Fn1 P w K mg base C k "_law_put" ["_law_thing","_law_place","_law_new"] (t F.aP)
 g36:Fn1 P w K mg base C k "_law_there" ["_law_thing","_law_place"] (t F.aO)
 g37:Fn1 P w K mg base C k "_law_spoilt_thing" ["_law_script","_law_at","_law_thing"] (t F.ad)
 g38:Fn1 P w K mg base C k "_law_is_picture" ["_law_thing"] (t F.an)
 g39:Fn1 P w K mg base C k "_law_is_tree" ["_law_thing","_law_size"] (t F.ah)
 g133:Fn1 P w K mg base C k "_law_by_way" ["_law_rows_here","_law_way"] (t F.ai)
 g40:Fn1 P w K mg base C k "_law_word" ["_law_kept"] (t F.aw)
 g134:Fn1 P w K mg base C k "_law_do" ["_law_what","_law_one","_law_other"] (t F.aa)
 g135:Fn1 P w K mg base C k "_law_is_led_right" ["_law_script","_law_at","_law_side","_law_ways"] (t F.aq)
 g136:Fn1 P w K mg base C k "law" ["_law_script"] (t F.aH)
 v:∀ i∈fvL,FnV P w K mg base C k i (t i)
section
variable {P:Program}{w:World}{K:PySem.W.Frag}{mg:Str→Option Value}{base:Heap}{C:Nat→Addr}{k:Nat}{t:Nat→List FF.D→FF.R FF.D}(T:Txt K mg C w.params)(G:Tab P w K mg base C k t)
include T G
theorem lP:OkD P w K mg base C k "is_whole" eM ["thing"] (a1 (eL t)):=ok1 lJ fun thing _ _ _ _ _ _ _ _ bx _ _=>by
 show FL _ _ [vv thing] _ _ _
 refine ax (ah (hR (ao bx rfl T.b_isinstance gU (ac 0) (aP rfl T.b_int (by decide +kernel) rfl)) (fI (ux (ao bx rfl T.b_isinstance ip (ac 0) (aP rfl T.b_bool (by decide +kernel) rfl)))))) ?_
 rfl
theorem gD:OkD P w K mg base C k "is_worth" eN ["thing"] (a1 (dm t)):=ok1 lK fun thing _ _ _ _ _ _ _ _ bx _ _=>by
 show FL _ _ [vv thing] _ _ _
 refine ax (ah (hR (af bx G.g20 rfl (aa (ac 0) ad)) (fI (gR ae (ac 0) (bg T.k_GREATEST_WORTH rfl))))) ?_
 rfl
theorem mW:OkD P w K mg base C k "is_size" fW ["thing"] (a1 (eg t)):=ok1 mQ fun thing _ _ _ _ _ _ _ _ bx _ _=>by
 show FL _ _ [vv thing] _ _ _
 refine ax (ah (hR (af bx G.g20 rfl (aa (ac 0) ad)) (fI (gR ae (ac 0) (bg T.k_LARGEST_SIZE rfl))))) ?_
 rfl
theorem mX:OkD P w K mg base C k "is_tree" fX ["size","thing","is_end"] (a3 (c7 t)):=ok3 mR fun size_ thing is_end _ _ _ _ _ _ _ _ bx _ _=>by
 show FL _ _ [vv size_,vv thing,vv is_end] _ _ _
 refine ay (inj:=fun (_:Unit) (w:Unit)=>[vv size_,vv thing,vv is_end]) (aA (aX (aT (ao bx rfl T.b_isinstance cf (ac 1) (aP rfl T.b_tuple (by decide +kernel) rfl)))) ?_ ?_ ?_) (fun _ w=>?_)
 rfl
 ·refine ax (ah (li bx G.v (ac 2) (aa (ac 1) ad))) ?_
  rfl
 ·exact ak ⟨(),rfl⟩
 refine ay (inj:=fun (_:Unit) (w1:Unit)=>[vv size_,vv thing,vv is_end]) (aA (ft_w (cv (dN bx (ac 0) ae) (cu (cK bx (fe_N (bO bx rfl T.b_len (FAL.out (aa (ac 1) ad)))) ae)))) ?_ ?_ ?_) (fun _ w1=>?_)
 rfl
 ·refine aB (ah bW) ?_
  rfl
 ·exact ak ⟨(),rfl⟩
 refine ax (ah (fe_N (uG bx rfl T.b_all (FAL.out (aa (fe_C (aK (N:=["part","is_end","size"]) (own:=1) (cap:=[2,0]) bx (BlkOk.of (by kernel_rfl)) (bj bx.K (ac 1)) (aN (by decide)) (fun _ _ _ _ _=>au 0 (show List.Nodup (α:=Str) ["part","is_end","size"] by decide +kernel)) (fun _ _ _ _ _=>(af (aq bx) G.g23 rfl (aa (bB (ac 2) ae) (aa (ac 0) (aa (ac 1) ad))))))) ad))))) ?_
 rfl
theorem gm:OkD P w K mg base C k "is_sized_tree" cc ["thing","is_end"] (a2 (bq t)):=ok2 fY fun thing is_end _ _ _ _ _ _ _ _ bx _ _=>by
 show FL _ _ [vv thing,vv is_end] _ _ _
 refine ay (inj:=fun (_:Unit) (w:Unit)=>[vv thing,vv is_end]) (aA (ft_w (cv (aX (aT (ao bx rfl T.b_isinstance cf (ac 0) (aP rfl T.b_tuple (by decide +kernel) rfl)))) (cu (cK bx (fe_N (bO bx rfl T.b_len (FAL.out (aa (ac 0) ad)))) ae)))) ?_ ?_ ?_) (fun _ w=>?_)
 rfl
 ·refine aB (ah bW) ?_
  rfl
 ·exact ak ⟨(),rfl⟩
 refine ax (ah (hR (af bx G.g22 rfl (aa (ag bx.K (ac 0) ae) ad)) (fI (af bx G.g23 rfl (aa (ag bx.K (ac 0) ae) (aa (ag bx.K (ac 0) ae) (aa (ac 1) ad))))))) ?_
 rfl
theorem gM:OkD P w K mg base C k "put_together" cB ["four"] (a1 (bE t)):=ok1 dJ fun four _ _ _ _ _ _ _ _ bx _ _=>by
 show FL _ _ [vv four,nn] _ _ _
 refine aj (S':=fun first=>[vv four,vv first]) (aw 1 dJ.nd (ag bx.K (ac 0) ae)) ?_ (fun first=>?_)
 rfl
 refine ay (inj:=fun (_:Unit) (w:Unit)=>[vv four,vv first]) (aA (ft_w (pM (aX (aT (ao bx rfl T.b_isinstance cf (ac 1) (aP rfl T.b_tuple (by decide +kernel) rfl)))) (nu (dN bx (ac 0) (av (aa (ac 1) (aa (ac 1) (aa (ac 1) (aa (ac 1) ad))))))))) ?_ ?_ ?_) (fun _ w=>?_)
 rfl
 ·refine aB (ah (ac 1)) ?_
  rfl
 ·exact ak ⟨(),rfl⟩
 refine aB (ah (ac 0)) ?_
 rfl
theorem kC:OkD P w K mg base C k "lean_tree" dR ["tree"] (a1 (bY t)):=ok1 kx fun tree_ _ _ _ _ _ _ _ _ bx _ _=>by
 show FL _ _ [vv tree_] _ _ _
 refine ay (inj:=fun (_:Unit) (w:Unit)=>[vv tree_]) (aA (aX (aT (ao bx rfl T.b_isinstance cf (ac 0) (aP rfl T.b_tuple (by decide +kernel) rfl)))) ?_ ?_ ?_) (fun _ w=>?_)
 rfl
 ·refine aB (ah (ac 0)) ?_
  rfl
 ·exact ak ⟨(),rfl⟩
 refine ax (ah (af bx G.g25 rfl (aa (fe_N (aU bx rfl T.b_tuple (FAL.out (aa (fe_C (aK (N:=["part"]) (own:=1) (cap:=[]) bx (BlkOk.of (by kernel_rfl)) (bj bx.K (ac 0)) (aN (by decide)) (fun _ _ _ _ _=>au 0 (show List.Nodup (α:=Str) ["part"] by decide +kernel)) (fun _ _ _ _ _=>(af (aq bx) G.g26 rfl (aa (ac 0) ad))))) ad)))) ad))) ?_
 rfl
theorem jq:OkD P w K mg base C k "is_picture" dz ["thing"] (a1 (cg t)):=ok1 jo fun thing _ _ _ _ _ _ _ _ bx _ _=>by
 show FL _ _ [vv thing] _ _ _
 refine ax (ah (af bx G.g24 rfl (aa (ac 0) (aa (lh T.f_is_worth rfl) ad)))) ?_
 rfl
theorem gn:OkD P w K mg base C k "check_picture" ce ["thing"] (a1 (br t)):=ok1 fZ fun thing _ _ _ _ _ _ _ _ bx _ made=>by
 show FL _ _ [vv thing] _ _ _
 refine eJ (aA (aX (aT (af bx G.g27 rfl (aa (ac 0) ad)))) ?_ ?_ ?_)
 rfl
 ·refine tR (k9 1 bx made rfl T.c_NoPicture T.x_NoPicture (FAL.out (aa a8 ad))) ?_
  rfl
 ·exact ak True.intro
theorem sG:OkD P w K mg base C k "lean" mS ["picture"] (a1 (iC t)):=ok1 sE fun picture _ _ _ _ _ _ _ _ bx _ _=>by
 show FL _ _ [vv picture] _ _ _
 refine aj (S':=fun _=>[vv picture]) (gQ (af bx G.g28 rfl (aa (ac 0) ad))) ?_ (fun _=>?_)
 rfl
 refine ax (ah (av (aa (ag bx.K (ac 0) ae) (aa (af bx G.g26 rfl (aa (ag bx.K (ac 0) ae) ad)) ad)))) ?_
 rfl
theorem jr:OkD P w K mg base C k "moved_tree" dA ["tree","order"] (a2 (bF t)):=ok2 jp fun tree_ order _ _ _ _ _ _ _ _ bx _ _=>by
 show FL _ _ [vv tree_,vv order] _ _ _
 refine ay (inj:=fun (_:Unit) (w:Unit)=>[vv tree_,vv order]) (aA (aX (aT (ao bx rfl T.b_isinstance cf (ac 0) (aP rfl T.b_tuple (by decide +kernel) rfl)))) ?_ ?_ ?_) (fun _ w=>?_)
 rfl
 ·refine aB (ah (ac 0)) ?_
  rfl
 ·exact ak ⟨(),rfl⟩
 refine ax (ah (fe_N (aU bx rfl T.b_tuple (FAL.out (aa (fe_C (aK (N:=["number","order","tree"]) (own:=1) (cap:=[1,0]) bx (BlkOk.of (by kernel_rfl)) (bj bx.K (ac 1)) (aN (by decide)) (fun _ _ _ _ _=>au 0 (show List.Nodup (α:=Str) ["number","order","tree"] by decide +kernel)) (fun _ _ _ _ _=>(af (aq bx) G.g69 rfl (aa (ag (aq bx).K (ac 2) (ac 0)) (aa (ac 1) ad)))))) ad))))) ?_
 rfl
theorem qF:OkD P w K mg base C k "moved" ky ["picture","order"] (a2 (fe t)):=ok2 lL fun picture order _ _ _ _ _ _ _ _ bx _ _=>by
 show FL _ _ [vv picture,vv order,nn] _ _ _
 refine aj (S':=fun shown=>[vv picture,vv order,vv shown]) (aw 2 lL.nd (af bx G.g29 rfl (aa (ac 0) ad))) ?_ (fun shown=>?_)
 rfl
 refine ax (ah (av (aa (ag bx.K (ac 2) ae) (aa (af bx G.g69 rfl (aa (ag bx.K (ac 2) ae) (aa (ac 1) ad))) ad)))) ?_
 rfl
theorem jS:OkD P w K mg base C k "turned" iI ["picture"] (a1 (dO t)):=ok1 oJ fun picture _ _ _ _ _ _ _ _ bx _ _=>by
 show FL _ _ [vv picture] _ _ _
 refine ax (ah (af bx G.g70 rfl (aa (ac 0) (aa (gX T.t_BY_TURNING rfl) ad)))) ?_
 rfl
theorem gE:OkD P w K mg base C k "mirrored" eO ["picture"] (a1 (cx t)):=ok1 lM fun picture _ _ _ _ _ _ _ _ bx _ _=>by
 show FL _ _ [vv picture] _ _ _
 refine ax (ah (af bx G.g70 rfl (aa (ac 0) (aa (gX T.t_BY_MIRRORING rfl) ad)))) ?_
 rfl
theorem iR:OkD P w K mg base C k "flipped" f8 ["picture"] (a1 (c8 t)):=ok1 mT fun picture _ _ _ _ _ _ _ _ bx _ _=>by
 show FL _ _ [vv picture] _ _ _
 refine ax (ah (af bx G.g70 rfl (aa (ac 0) (aa (gX T.t_BY_FLIPPING rfl) ad)))) ?_
 rfl
theorem iS:OkD P w K mg base C k "swapped" f9 ["picture"] (a1 (c9 t)):=ok1 mU fun picture _ _ _ _ _ _ _ _ bx _ _=>by
 show FL _ _ [vv picture] _ _ _
 refine ax (ah (af bx G.g70 rfl (aa (ac 0) (aa (gX T.t_BY_SWAPPING rfl) ad)))) ?_
 rfl
theorem kD:OkD P w K mg base C k "check_way" dS ["thing"] (a1 (bZ t)):=ok1 kz fun thing _ _ _ _ _ _ _ _ bx _ made=>by
 show FL _ _ [vv thing] _ _ _
 refine eJ (aA (ft_w (cv (aX (aT (af bx G.g20 rfl (aa (ac 0) ad)))) (cu (aX (gS ae (ac 0) (bg T.k_WAYS rfl)))))) ?_ ?_ ?_)
 rfl
 ·refine tR (k9 2 bx made rfl T.c_NoSpot T.x_NoSpot (FAL.out (aa a8 ad))) ?_
  rfl
 ·exact ak True.intro
theorem oN:OkD P w K mg base C k "by_way" iJ ["picture","way"] (a2 (da t)):=ok2 dc fun picture way _ _ _ _ _ _ _ _ bx hpo _=>by
 show FL _ _ [vv picture,vv way,nn,nn] _ _ _
 refine aj (S':=fun told=>[vv picture,vv way,vv told,nn]) (aw 2 dc.nd (af bx G.g29 rfl (aa (ac 0) ad))) ?_ (fun told=>?_)
 rfl
 refine aj (S':=fun _=>[vv picture,vv way,vv told,nn]) (gQ (af bx G.g127 rfl (aa (ac 1) ad))) ?_ (fun _=>?_)
 rfl
 refine ay (inj:=fun (told2:D) (w:Unit)=>[vv picture,vv way,vv told2,nn]) (aA (nA (ac 1) (bg T.k_TURNS rfl)) ?_ ?_ ?_) (fun told2 w=>?_)
 rfl
 ·refine aj (S':=fun told1=>[vv picture,vv way,vv told1,nn]) (aw 2 dc.nd (af bx G.g84 rfl (aa (ac 2) ad))) ?_ (fun told1=>?_)
  rfl
  exact ak ⟨(),rfl⟩
 ·exact ak ⟨(),rfl⟩
 refine ay (inj:=fun (s:D) (w1:Option Sl)=>[vv picture,vv way,vv s,w1]) (bD 3 (B:=fun (s:D) (w1:Option Sl) x1=>[vv picture,vv way,vv s,vv x1]) nn hpo rfl (bX (aD rfl T.b_range (FAL.out (aa (di (ac 1) (bg T.k_TURNS rfl)) ad)))) ?_ (au 3 dc.nd) rfl (fun _ _ _=>rfl) (fun s w1 x1=>?_)) (fun told4 w2=>?_)
 rfl
 ·refine aj (S':=fun told3=>[vv picture,vv way,vv told3,vv x1]) (aw 2 dc.nd (af bx G.g125 rfl (aa (ac 2) ad))) ?_ (fun told3=>?_)
  rfl
  exact ak ⟨vv x1,rfl⟩
 refine aB (ah (ac 2)) ?_
 rfl
theorem lQ:OkD P w K mg base C k "all_ways" eQ ["picture"] (a1 (cy t)):=ok1 lN fun picture _ _ _ _ _ _ _ _ bx _ _=>by
 show FL _ _ [vv picture] _ _ _
 refine ax (ah (qE mI (N:=["way","picture"]) (own:=1) (cap:=[0]) bx (BlkOk.of (by kernel_rfl)) (bX (aD rfl T.b_range (FAL.out (aa (bg T.k_WAYS rfl) ad)))) (aN (by decide)) (fun _ _ _ _ _=>au 0 (show List.Nodup (α:=Str) ["way","picture"] by decide +kernel)) (fun _ _ _ _ _=>(af (sC bx) G.g128 rfl (aa (ac 1) (aa (ac 0) ad)))))) ?_
 rfl
theorem mY:OkD P w K mg base C k "side_at" gg ["size"] (a1 (jL t)):=ok1 dB fun size_ _ _ _ _ _ _ _ _ bx hpo _=>by
 show FL _ _ [vv size_,nn,nn] _ _ _
 refine bb (S':=[vv size_,vv (.int 1),nn]) (aw 1 dB.nd ae) ?_ ?_
 rfl
 refine ay (inj:=fun (s:D) (w:Option Sl)=>[vv size_,vv s,w]) (bD 2 (B:=fun (s:D) (w:Option Sl) x=>[vv size_,vv s,vv x]) nn hpo rfl (bX (aD rfl T.b_range (FAL.out (aa (ac 0) ad)))) ?_ (au 2 dB.nd) rfl (fun _ _ _=>rfl) (fun s w x=>?_)) (fun side1 w1=>?_)
 rfl
 ·refine aj (S':=fun side=>[vv size_,vv side,vv x]) (aw 1 dB.nd (bv bx.K (ac 1) ae)) ?_ (fun side=>?_)
  rfl
  exact ak ⟨vv x,rfl⟩
 refine aB (ah (ac 1)) ?_
 rfl
theorem iT:OkD P w K mg base C k "spot_behind" cW ["size","way","x","y"] (a4 (bU t)):=ok4 aW fun size_ way x y _ _ _ _ _ _ _ _ bx hpo _=>by
 show FL _ _ [vv size_,vv way,vv x,vv y,nn,nn,nn] _ _ _
 refine aj (S':=fun last=>[vv size_,vv way,vv x,vv y,vv last,nn,nn]) (aw 4 aW.nd (bB (af bx G.g130 rfl (aa (ac 0) ad)) ae)) ?_ (fun last=>?_)
 rfl
 refine bb (S':=[vv size_,vv way,vv x,vv y,vv last,vv (.tup [x,y]),nn]) (aw 5 aW.nd (av (aa (ac 2) (aa (ac 3) ad)))) ?_ ?_
 rfl
 refine ay (inj:=fun (spot1:D) (w:Unit)=>[vv size_,vv way,vv x,vv y,vv last,vv spot1,nn]) (aA (nA (ac 1) (bg T.k_TURNS rfl)) ?_ ?_ ?_) (fun spot1 w=>?_)
 rfl
 ·refine aj (S':=fun spot=>[vv size_,vv way,vv x,vv y,vv last,vv spot,nn]) (aw 5 aW.nd (av (aa (bB (ac 4) (ac 2)) (aa (ac 3) ad)))) ?_ (fun spot=>?_)
  rfl
  exact ak ⟨(),rfl⟩
 ·exact ak ⟨(),rfl⟩
 refine ay (inj:=fun (s:D) (w1:Option Sl)=>[vv size_,vv way,vv x,vv y,vv last,vv s,w1]) (bD 6 (B:=fun (s:D) (w1:Option Sl) x4=>[vv size_,vv way,vv x,vv y,vv last,vv s,vv x4]) nn hpo rfl (bX (aD rfl T.b_range (FAL.out (aa (di (ac 1) (bg T.k_TURNS rfl)) ad)))) ?_ (au 6 aW.nd) rfl (fun _ _ _=>rfl) (fun s w1 x4=>?_)) (fun spot3 w2=>?_)
 rfl
 ·refine aj (S':=fun spot2=>[vv size_,vv way,vv x,vv y,vv last,vv spot2,vv x4]) (aw 5 aW.nd (av (aa (bB (ac 4) (ag bx.K (ac 5) ae)) (aa (ag bx.K (ac 5) ae) ad)))) ?_ (fun spot2=>?_)
  rfl
  exact ak ⟨vv x4,rfl⟩
 refine aB (ah (ac 5)) ?_
 rfl
theorem js:OkD P w K mg base C k "behind_way" dC ["one","other"] (a2 (bG t)):=ok2 cX fun one other _ _ _ _ _ _ _ _ bx _ _=>by
 show FL _ _ [vv one,vv other,nn,nn] _ _ _
 refine aj (S':=fun _=>[vv one,vv other,nn,nn]) (gQ (af bx G.g127 rfl (aa (ac 0) ad))) ?_ (fun _=>?_)
 rfl
 refine aj (S':=fun _=>[vv one,vv other,nn,nn]) (gQ (af bx G.g127 rfl (aa (ac 1) ad))) ?_ (fun _=>?_)
 rfl
 refine aj (S':=fun mirrors=>[vv one,vv other,vv mirrors,nn]) (aw 2 cX.nd (di (aE bx.K (kj (ac 0) (bg T.k_TURNS rfl)) (kj (ac 1) (bg T.k_TURNS rfl))) ae)) ?_ (fun mirrors=>?_)
 rfl
 refine aj (S':=fun turns=>[vv one,vv other,vv mirrors,vv turns]) (aw 3 cX.nd (nv (nA (ac 1) (bg T.k_TURNS rfl)) (bB (ac 1) (ac 0)) (aE bx.K (ac 1) (ac 0)))) ?_ (fun turns=>?_)
 rfl
 refine ax (ah (aE bx.K (bv bx.K (bg T.k_TURNS rfl) (ac 2)) (di (ac 3) (bg T.k_TURNS rfl)))) ?_
 rfl
theorem oO:OkD P w K mg base C k "_law_cell" iK ["_law_script","_law_k"] (a2 (fg t)):=ok2 oK fun vy vP _ _ _ _ _ _ _ _ bx _ _=>by
 show FL _ _ [vv vy,vv vP] _ _ _
 refine ay (inj:=fun (_:Unit) (w:Unit)=>[vv vy,vv vP]) (aA (pY (ac 1) (fe_N (bO bx rfl T.b_len (FAL.out (aa (ac 0) ad))))) ?_ ?_ ?_) (fun _ w=>?_)
 rfl
 ·refine ax (ah (ag bx.K (ac 0) (ac 1))) ?_
  rfl
 ·exact ak ⟨(),rfl⟩
 refine ay (inj:=fun (_:Unit) (w1:Unit)=>[vv vy,vv vP]) (aA (dN bx (ac 0) (aM ad)) ?_ ?_ ?_) (fun _ w1=>?_)
 rfl
 ·refine aB (ah ae) ?_
  rfl
 ·exact ak ⟨(),rfl⟩
 refine ax (ah (aE bx.K (bv bx.K (ag bx.K (ac 0) (di (ac 1) (fe_N (bO bx rfl T.b_len (FAL.out (aa (ac 0) ad)))))) ae) (ac 1))) ?_
 rfl
theorem oP:OkD P w K mg base C k "_law_pick" iL ["_law_script","_law_k","_law_many"] (a3 (fh t)):=ok3 jQ fun vy vP wB _ _ _ _ _ _ _ _ bx _ _=>by
 show FL _ _ [vv vy,vv vP,vv wB,nn] _ _ _
 refine aj (S':=fun wd=>[vv vy,vv vP,vv wB,vv wd]) (aw 3 jQ.nd (di (bv bx.K (aE bx.K (af bx G.g30 rfl (aa (ac 0) (aa (ac 1) ad))) (bv bx.K ae (aE bx.K (ac 1) ae))) ae) ae)) ?_ (fun wd=>?_)
 rfl
 refine ax (ah (di (di (aE bx.K (bv bx.K (ac 3) (ac 3)) (kj (ac 3) ae)) ae) (ac 2))) ?_
 rfl
theorem oQ:OkD P w K mg base C k "_law_tree" iM ["_law_script","_law_at","_law_size"] (a3 (dP t)):=ok3 jR fun vy vI vD _ _ _ _ _ _ _ _ bx _ _=>by
 show FL _ _ [vv vy,vv vI,vv vD,nn] _ _ _
 refine aj (S':=fun vL=>[vv vy,vv vI,vv vD,vv vL]) (aw 3 jR.nd (af bx G.g31 rfl (aa (ac 0) (aa (ac 1) (aa ae ad))))) ?_ (fun vL=>?_)
 rfl
 refine ay (inj:=fun (_:Unit) (w:Unit)=>[vv vy,vv vI,vv vD,vv vL]) (aA (ft_w (cv (dN bx (ac 2) ae) (cu (pY (ac 3) ae)))) ?_ ?_ ?_) (fun _ w=>?_)
 rfl
 ·refine ax (ah (ag bx.K (aM (aa ae (aa ae (aa ae (aa ae (aa ae (aa (af bx G.g31 rfl (aa (ac 0) (aa (aE bx.K (ac 1) ae) (aa ae ad)))) ad))))))) (af bx G.g31 rfl (aa (ac 0) (aa (aE bx.K (ac 1) ae) (aa ae ad)))))) ?_
  rfl
 ·exact ak ⟨(),rfl⟩
 refine ay (inj:=fun (_:Unit) (w1:Unit)=>[vv vy,vv vI,vv vD,vv vL]) (aA (dN bx (ac 3) ae) ?_ ?_ ?_) (fun _ w1=>?_)
 rfl
 ·refine ax (ah (bv bx.K (av (aa (af bx G.g32 rfl (aa (ac 0) (aa (aE bx.K (ac 1) ae) (aa (bB (ac 2) ae) ad)))) ad)) ae)) ?_
  rfl
 ·exact ak ⟨(),rfl⟩
 refine ax (ah (fe_N (aU bx rfl T.b_tuple (FAL.out (aa (fe_C (aK (N:=["_law_k","_law_script","_law_size","_law_at"]) (own:=1) (cap:=[0,2,1]) bx (BlkOk.of (by kernel_rfl)) (bX (aD rfl T.b_range (FAL.out (aa ae ad)))) (aN (by decide)) (fun _ _ _ _ _=>au 0 (show List.Nodup (α:=Str) ["_law_k","_law_script","_law_size","_law_at"] by decide +kernel)) (fun _ _ _ _ _=>(af (aq bx) G.g32 rfl (aa (ac 1) (aa (aE (aq bx).K (aE (aq bx).K (bv (aq bx).K ae (ac 3)) ae) (bv (aq bx).K ae (ac 0))) (aa (bB (ac 2) ae) ad))))))) ad))))) ?_
 rfl
theorem kE:OkD P w K mg base C k "_law_picture" dU ["_law_script","_law_at","_law_most"] (a3 (cN t)):=ok3 fv fun vy vI wC _ _ _ _ _ _ _ _ bx _ _=>by
 show FL _ _ [vv vy,vv vI,vv wC,nn] _ _ _
 refine aj (S':=fun vD=>[vv vy,vv vI,vv wC,vv vD]) (aw 3 fv.nd (fe_N (sf bx rfl T.b_max (FAL.out (aa ae (aa (bB (ac 2) (ag bx.K (aM (aa ae (aa ae (aa ae (aa ae (aa ae (aa ae (aa ae ad)))))))) (af bx G.g31 rfl (aa (ac 0) (aa (ac 1) (aa ae ad)))))) ad)))))) ?_ (fun vD=>?_)
 rfl
 refine ax (ah (av (aa (ac 3) (aa (af bx G.g32 rfl (aa (ac 0) (aa (aE bx.K (ac 1) ae) (aa (ac 3) ad)))) ad)))) ?_
 rfl
theorem kF:OkD P w K mg base C k "_law_rows_of" dW ["_law_size","_law_tree_here"] (a2 (b5 t)):=ok2 bI fun vD vH _ _ _ _ _ _ _ _ bx hpo _=>by
 show FL _ _ [vv vD,vv vH,nn,nn,nn,nn] _ _ _
 refine ay (inj:=fun (_:Unit) (w:Unit)=>[vv vD,vv vH,nn,nn,nn,nn]) (aA (dN bx (ac 0) ae) ?_ ?_ ?_) (fun _ w=>?_)
 rfl
 ·refine aB (ah (aM (aa (aM (aa (ac 1) ad)) ad))) ?_
  rfl
 ·exact ak ⟨(),rfl⟩
 refine aj (S':=fun vN=>[vv vD,vv vH,vv vN,nn,nn,nn]) (aw 2 bI.nd (nv (aT (ao bx rfl T.b_isinstance cf (ac 1) (aP rfl T.b_tuple (by decide +kernel) rfl))) (ac 1) (bv bx.K (av (aa (ac 1) ad)) ae))) ?_ (fun vN=>?_)
 rfl
 refine aj (S':=fun vQ=>[vv vD,vv vH,vv vN,vv vQ,nn,nn]) (aw 3 bI.nd (fe_C (aK (N:=["_law_part","_law_size"]) (own:=1) (cap:=[0]) bx (BlkOk.of (by kernel_rfl)) (bj bx.K (ac 2)) (aN (by decide)) (fun _ _ _ _ _=>au 0 (show List.Nodup (α:=Str) ["_law_part","_law_size"] by decide +kernel)) (fun _ _ _ _ _=>(af (aq bx) G.g54 rfl (aa (bB (ac 1) ae) (aa (ac 0) ad)))))) (hs:=by kernel_rfl)) ?_ (fun vQ=>?_)
 rfl
 refine bb (S':=[vv vD,vv vH,vv vN,vv vQ,ow [],nn]) (fs_O (fO 4 bI.nd (FAL.out ad))) ?_ ?_
 rfl
 refine ay (inj:=fun (s:List D) (w1:Option Sl)=>[vv vD,vv vH,vv vN,vv vQ,ow s,w1]) (bD 5 (B:=fun (s:List D) (w1:Option Sl) x1=>[vv vD,vv vH,vv vN,vv vQ,ow s,vv x1]) nn hpo rfl (bj bx.K (av (aa ae (aa ae ad)))) ?_ (au 5 bI.nd) rfl (fun _ _ _=>rfl) (fun s w1 x1=>?_)) (fun vV w2=>?_)
 rfl
 ·refine aj (S':=fun v6=>[vv vD,vv vH,vv vN,vv vQ,ow v6,vv x1]) (fs_X (cm 4 bx.K (FAL.out (aa (fe_C (aK (N:=["_law_k","_law_some","_law_upper"]) (own:=1) (cap:=[3,5]) bx (BlkOk.of (by kernel_rfl)) (bX (aD rfl T.b_range (FAL.out (aa (fe_N (bO bx rfl T.b_len (FAL.out (aa (ag bx.K (ac 3) (ac 5)) ad)))) ad)))) (aN (by decide)) (fun _ _ _ _ _=>au 0 (show List.Nodup (α:=Str) ["_law_k","_law_some","_law_upper"] by decide +kernel)) (fun _ _ _ _ _=>(aE (aq bx).K (ag (aq bx).K (ag (aq bx).K (ac 1) (ac 2)) (ac 0)) (ag (aq bx).K (ag (aq bx).K (ac 1) (aE (aq bx).K (ac 2) ae)) (ac 0)))))) ad)))) ?_ (fun v6=>?_)
  rfl
  exact ak ⟨vv x1,rfl⟩
 refine iy 4 (S':=[vv vD,vv vH,vv vN,vv vQ,vv (.lst vV),w2]) rfl rfl ?_
 refine aB (ah (ac 4)) ?_
 rfl
theorem oR:OkD P w K mg base C k "_law_rows" iO ["_law_picture_here"] (a1 (fi t)):=ok1 oM fun vz _ _ _ _ _ _ _ _ bx _ _=>by
 show FL _ _ [vv vz] _ _ _
 refine ax (ah (fe_N (aU bx rfl T.b_tuple (FAL.out (aa (fe_C (aK (N:=["_law_row"]) (own:=1) (cap:=[]) bx (BlkOk.of (by kernel_rfl)) (bj bx.K (af bx G.g54 rfl (aa (ag bx.K (ac 0) ae) (aa (ag bx.K (ac 0) ae) ad)))) (aN (by decide)) (fun _ _ _ _ _=>au 0 (show List.Nodup (α:=Str) ["_law_row"] by decide +kernel)) (fun _ _ _ _ _=>(fe_N (aU (aq bx) rfl T.b_tuple (FAL.out (aa (ac 0) ad))))))) ad))))) ?_
 rfl
theorem mZ:OkD P w K mg base C k "_law_least" gh ["_law_rows_here"] (a1 (db t)):=ok1 bz fun vx _ _ _ _ _ _ _ _ bx hpo _=>by
 show FL _ _ [vv vx,nn,nn,nn,nn,nn,nn] _ _ _
 refine bb (S':=[vv vx,ow [],nn,nn,nn,nn,nn]) (fs_O (fO 1 bz.nd (FAL.out ad))) ?_ ?_
 rfl
 refine ay (inj:=fun (s:List D) (w:Option Sl)=>[vv vx,ow s,w,nn,nn,nn,nn]) (bD 2 (B:=fun (s:List D) (w:Option Sl) x=>[vv vx,ow s,vv x,nn,nn,nn,nn]) nn hpo rfl (bj bx.K (ac 0)) ?_ (au 2 bz.nd) rfl (fun _ _ _=>rfl) (fun s w x=>?_)) (fun vJ w1=>?_)
 rfl
 ·refine aj (S':=fun wp=>[vv vx,ow wp,vv x,nn,nn,nn,nn]) (fs_X (cm 1 bx.K (FAL.out (aa (ac 2) ad)))) ?_ (fun wp=>?_)
  rfl
  exact ak ⟨vv x,rfl⟩
 refine iy 1 (S':=[vv vx,vv (.lst vJ),w1,nn,nn,nn,nn]) rfl rfl ?_
 refine ay (inj:=fun (_:Unit) (w2:Unit)=>[vv vx,vv (.lst vJ),w1,nn,nn,nn,nn]) (aA (dN bx (fe_N (oD bx rfl T.b_len rfl T.b_set (FAL.out (aa (ac 1) ad)))) ae) ?_ ?_ ?_) (fun _ w2=>?_)
 rfl
 ·refine ax (ah (ag bx.K (ac 1) ae)) ?_
  rfl
 ·exact ak ⟨(),rfl⟩
 refine aj (S':=fun vR=>[vv vx,vv (.lst vJ),w1,vv vR,nn,nn,nn]) (aw 3 bz.nd (kj (fe_N (bO bx rfl T.b_len (FAL.out (aa (ac 0) ad)))) ae)) ?_ (fun vR=>?_)
 rfl
 refine bb (S':=[vv vx,vv (.lst vJ),w1,vv vR,ow [],nn,nn]) (fs_O (fO 4 bz.nd (FAL.out ad))) ?_ ?_
 rfl
 refine ay (inj:=fun (s1:List D) (w3:Option Sl×Option Sl)=>[vv vx,vv (.lst vJ),w1,vv vR,ow s1,w3.1,w3.2]) (bD 5 (B:=fun (s1:List D) (w3:Option Sl×Option Sl) x3=>[vv vx,vv (.lst vJ),w1,vv vR,ow s1,vv x3,w3.2]) (nn,nn) hpo rfl (bj bx.K (av (aa ae (aa (ac 3) ad)))) ?_ (au 5 bz.nd) rfl (fun _ _ _=>rfl) (fun s1 w3 x3=>?_)) (fun we w6=>?_)
 rfl
 ·refine ay (inj:=fun (s2:List D) (w4:Option Sl)=>[vv vx,vv (.lst vJ),w1,vv vR,ow s2,vv x3,w4]) (bD 6 (B:=fun (s2:List D) (w4:Option Sl) x4=>[vv vx,vv (.lst vJ),w1,vv vR,ow s2,vv x3,vv x4]) w3.2 hpo rfl (bj bx.K (av (aa ae (aa (ac 3) ad)))) ?_ (au 6 bz.nd) rfl (fun _ _ _=>rfl) (fun s2 w4 x4=>?_)) (fun wH w5=>?_)
  rfl
  ·refine aj (S':=fun vN=>[vv vx,vv (.lst vJ),w1,vv vR,ow vN,vv x3,vv x4]) (fs_A (jH 4 (FAL.out (aa (af bx G.g56 rfl (aa (fe_C (aK (N:=["_law_row","_law_left","_law_half"]) (own:=1) (cap:=[6,3]) bx (BlkOk.of (by kernel_rfl)) (bj bx.K (iv bx.K (ac 0) (ij (ac 5)) (ij (aE bx.K (ac 5) (ac 3))))) (aN (by decide)) (fun _ _ _ _ _=>au 0 (show List.Nodup (α:=Str) ["_law_row","_law_left","_law_half"] by decide +kernel)) (fun _ _ _ _ _=>(iv (aq bx).K (ac 0) (ij (ac 1)) (ij (aE (aq bx).K (ac 1) (ac 2))))))) ad)) ad)))) ?_ (fun vN=>?_)
   rfl
   exact ak ⟨vv x4,rfl⟩
  exact ak ⟨(vv x3,w5),rfl⟩
 refine iy 4 (S':=[vv vx,vv (.lst vJ),w1,vv vR,vv (.lst we),w6.1,w6.2]) rfl rfl ?_
 refine ax (ah (fe_N (aU bx rfl T.b_tuple (FAL.out (aa (ac 4) ad))))) ?_
 rfl
theorem sH:OkD P w K mg base C k "_law_of" mV ["_law_rows_here"] (a1 (kr t)):=ok1 sF fun vx _ _ _ _ _ _ _ _ bx _ _=>by
 show FL _ _ [vv vx] _ _ _
 refine ax (ah (av (aa (nG (jJ bx (aM (aa ae (aa ae (aa ae (aa ae ad))))) (FAL.out (aa (fe_N (bO bx rfl T.b_len (FAL.out (aa (ac 0) ad)))) ad)))) (aa (af bx G.g56 rfl (aa (ac 0) ad)) ad)))) ?_
 rfl
theorem lR:OkD P w K mg base C k "_law_places" eR ["_law_thing"] (a1 (cA t)):=ok1 dX fun vA _ _ _ _ _ _ _ _ bx hpo _=>by
 show FL _ _ [vv vA,nn,nn] _ _ _
 refine bb (S':=[vv vA,ow ([(.tup [])]),nn]) (fs_O (fO 1 dX.nd (FAL.out (aa (av ad) ad)))) ?_ ?_
 rfl
 refine ay (inj:=fun (wm:List D) (w2:Option Sl)=>[vv vA,ow wm,w2]) (aA (aT (ao bx rfl T.b_isinstance cf (ac 0) (aP rfl T.b_tuple (by decide +kernel) rfl))) ?_ ?_ ?_) (fun wm w2=>?_)
 rfl
 ·refine ay (inj:=fun (s:List D) (w:Option Sl)=>[vv vA,ow s,w]) (bD 2 (B:=fun (s:List D) (w:Option Sl) x1=>[vv vA,ow s,vv x1]) nn hpo rfl (bX (aD rfl T.b_range (FAL.out (aa (fe_N (bO bx rfl T.b_len (FAL.out (aa (ac 0) ad)))) ad)))) ?_ (au 2 dX.nd) rfl (fun _ _ _=>rfl) (fun s w x1=>?_)) (fun vV w1=>?_)
  rfl
  ·refine aj (S':=fun v6=>[vv vA,ow v6,vv x1]) (fs_X (cm 1 bx.K (FAL.out (aa (fe_C (aK (N:=["_law_place","_law_k"]) (own:=1) (cap:=[2]) bx (BlkOk.of (by kernel_rfl)) (bj bx.K (af bx G.g34 rfl (aa (ag bx.K (ac 0) (ac 2)) ad))) (aN (by decide)) (fun _ _ _ _ _=>au 0 (show List.Nodup (α:=Str) ["_law_place","_law_k"] by decide +kernel)) (fun _ _ _ _ _=>(aE (aq bx).K (av (aa (ac 1) ad)) (ac 0))))) ad)))) ?_ (fun v6=>?_)
   rfl
   exact ak ⟨vv x1,rfl⟩
  exact ak ⟨w1,rfl⟩
 ·exact ak ⟨nn,rfl⟩
 refine iy 1 (S':=[vv vA,vv (.lst wm),w2]) rfl rfl ?_
 refine aB (ah (ac 1)) ?_
 rfl
theorem qG:OkD P w K mg base C k "_law_put" kA ["_law_thing","_law_place","_law_new"] (a3 (fj t)):=ok3 lO fun vA vF wy _ _ _ _ _ _ _ _ bx _ _=>by
 show FL _ _ [vv vA,vv vF,vv wy,nn] _ _ _
 refine ay (inj:=fun (_:Unit) (w:Unit)=>[vv vA,vv vF,vv wy,nn]) (aA (dN bx (ac 1) (av ad)) ?_ ?_ ?_) (fun _ w=>?_)
 rfl
 ·refine aB (ah (ac 2)) ?_
  rfl
 ·exact ak ⟨(),rfl⟩
 refine aj (S':=fun vP=>[vv vA,vv vF,vv wy,vv vP]) (aw 3 lO.nd (ag bx.K (ac 1) ae)) ?_ (fun vP=>?_)
 rfl
 refine ax (ah (aE bx.K (aE bx.K (iv bx.K (ac 0) p7 (ij (ac 3))) (av (aa (af bx G.g35 rfl (aa (ag bx.K (ac 0) (ac 3)) (aa (iv bx.K (ac 1) (ij ae) p7) (aa (ac 2) ad)))) ad))) (iv bx.K (ac 0) (ij (aE bx.K (ac 3) ae)) p7))) ?_
 rfl
theorem m5:OkD P w K mg base C k "_law_there" gi ["_law_thing","_law_place"] (a2 (ek t)):=ok2 eS fun vA vF _ _ _ _ _ _ _ _ bx hpo _=>by
 show FL _ _ [vv vA,vv vF,nn] _ _ _
 refine ay (inj:=fun (s:D) (w:Option Sl)=>[vv s,vv vF,w]) (bD 2 (B:=fun (s:D) (w:Option Sl) x=>[vv s,vv vF,vv x]) nn hpo rfl (bj bx.K (ac 1)) ?_ (au 2 eS.nd) rfl (fun _ _ _=>rfl) (fun s w x=>?_)) (fun wI w1=>?_)
 rfl
 ·refine aj (S':=fun wq=>[vv wq,vv vF,vv x]) (aw 0 eS.nd (ag bx.K (ac 0) (ac 2))) ?_ (fun wq=>?_)
  rfl
  exact ak ⟨vv x,rfl⟩
 refine aB (ah (ac 0)) ?_
 rfl
theorem fw:OkD P w K mg base C k "_law_spoilt_thing" bQ ["_law_script","_law_at","_law_thing"] (a3 (bh t)):=ok3 aQ fun vy vI vA _ _ _ _ _ _ _ _ bx _ _=>by
 show FL _ _ [vv vy,vv vI,vv vA,nn,nn,nn,nn] _ _ _
 refine aj (S':=fun vM=>[vv vy,vv vI,vv vA,vv vM,nn,nn,nn]) (aw 3 aQ.nd (af bx G.g34 rfl (aa (ac 2) ad))) ?_ (fun vM=>?_)
 rfl
 refine aj (S':=fun vF=>[vv vy,vv vI,vv vA,vv vM,vv vF,nn,nn]) (aw 4 aQ.nd (ag bx.K (ac 3) (af bx G.g31 rfl (aa (ac 0) (aa (ac 1) (aa (fe_N (bO bx rfl T.b_len (FAL.out (aa (ac 3) ad)))) ad)))))) ?_ (fun vF=>?_)
 rfl
 refine aj (S':=fun wn=>[vv vy,vv vI,vv vA,vv vM,vv vF,vv wn,nn]) (aw 5 aQ.nd (af bx G.g36 rfl (aa (ac 2) (aa (ac 4) ad)))) ?_ (fun wn=>?_)
 rfl
 refine bb (S':=[vv vy,vv vI,vv vA,vv vM,vv vF,vv wn,ow ([(.int (-1)),(.int 0),(.int 3),(.int 4),(.int 9),(.int 10),(.bl true),.non,(.str "1"),(.tup []),(.tup [(.int 1),(.int 2),(.int 3)]),(.tup [(.int 1),(.int 1),(.int 1),(.int 1)]),(.tup [(.int 1),(.int 2),(.int 3),(.int 4),(.int 5)])])]) (fs_O (fO 6 aQ.nd (FAL.out (aa (uJ ae) (aa ae (aa ae (aa ae (aa ae (aa ae (aa bW (aa eH (aa a8 (aa (av ad) (aa (av (aa ae (aa ae (aa ae ad)))) (aa (av (aa ae (aa ae (aa ae (aa ae ad))))) (aa (av (aa ae (aa ae (aa ae (aa ae (aa ae ad)))))) ad)))))))))))))))) ?_ ?_
 rfl
 refine aj (S':=fun vQ=>[vv vy,vv vI,vv vA,vv vM,vv vF,vv wn,ow vQ]) (fs_X (cm 6 bx.K (FAL.out (aa (aM (aa (aM (aa ae (aa ae (aa ae (aa ae ad))))) (aa (bv bx.K (av (aa (ac 5) ad)) ae) ad))) ad)))) ?_ (fun vQ=>?_)
 rfl
 refine ax (ah (af bx G.g35 rfl (aa (ac 2) (aa (ac 4) (aa (qk 6 bx.K (af bx G.g31 rfl (aa (ac 0) (aa (aE bx.K (ac 1) ae) (aa ae ad))))) ad))))) ?_
 rfl
theorem gN:OkD P w K mg base C k "_law_is_picture" cC ["_law_thing"] (a1 (bH t)):=ok1 gL fun vA _ _ _ _ _ _ _ _ bx _ _=>by
 show FL _ _ [vv vA] _ _ _
 refine ay (inj:=fun (_:Unit) (w:Unit)=>[vv vA]) (aA (ft_w (cv (aX (aT (ao bx rfl T.b_isinstance cf (ac 0) (aP rfl T.b_tuple (by decide +kernel) rfl)))) (cv (cK bx (fe_N (bO bx rfl T.b_len (FAL.out (aa (ac 0) ad)))) ae) (cv (aX (aT (ao bx rfl T.b_isinstance gU (ag bx.K (ac 0) ae) (aP rfl T.b_int (by decide +kernel) rfl)))) (cu (aT (ao bx rfl T.b_isinstance ip (ag bx.K (ac 0) ae) (aP rfl T.b_bool (by decide +kernel) rfl)))))))) ?_ ?_ ?_) (fun _ w=>?_)
 rfl
 ·refine aB (ah bW) ?_
  rfl
 ·exact ak ⟨(),rfl⟩
 refine ax (ah (hR (gR ae (ag bx.K (ac 0) ae) ae) (fI (af bx G.g39 rfl (aa (ag bx.K (ac 0) ae) (aa (ag bx.K (ac 0) ae) ad)))))) ?_
 rfl
theorem kG:OkD P w K mg base C k "_law_is_tree" dY ["_law_thing","_law_size"] (a2 (b7 t)):=ok2 kB fun vA vD _ _ _ _ _ _ _ _ bx _ _=>by
 show FL _ _ [vv vA,vv vD] _ _ _
 refine ay (inj:=fun (_:Unit) (w:Unit)=>[vv vA,vv vD]) (aA (ft_w (pM (aT (ao bx rfl T.b_isinstance gU (ac 0) (aP rfl T.b_int (by decide +kernel) rfl))) (nu (aX (aT (ao bx rfl T.b_isinstance ip (ac 0) (aP rfl T.b_bool (by decide +kernel) rfl))))))) ?_ ?_ ?_) (fun _ w=>?_)
 rfl
 ·refine ax (ah (gR ae (ac 0) ae)) ?_
  rfl
 ·exact ak ⟨(),rfl⟩
 refine ay (inj:=fun (_:Unit) (w1:Unit)=>[vv vA,vv vD]) (aA (ft_w (cv (aX (aT (ao bx rfl T.b_isinstance cf (ac 0) (aP rfl T.b_tuple (by decide +kernel) rfl)))) (cv (cK bx (fe_N (bO bx rfl T.b_len (FAL.out (aa (ac 0) ad)))) ae) (cu (dN bx (ac 1) ae))))) ?_ ?_ ?_) (fun _ w1=>?_)
 rfl
 ·refine aB (ah bW) ?_
  rfl
 ·exact ak ⟨(),rfl⟩
 refine ax (ah (nB bx (fe_C (om (N:=["_law_part","_law_size"]) (own:=1) (cap:=[1]) bx (BlkOk.of (by kernel_rfl)) (bj bx.K (ac 0)) (aN (by decide)) (fun _ _ _ _ _=>au 0 (show List.Nodup (α:=Str) ["_law_part","_law_size"] by decide +kernel)) (fun _ _ _ _ _=>(aX (aT (af (aq bx) G.g39 rfl (aa (ac 0) (aa (bB (ac 1) ae) ad)))))) (fun _ _ _ _ _=>(ac 0)))) (aM ad))) ?_
 rfl
theorem lT:OkD P w K mg base C k "_law_by_way" eT ["_law_rows_here","_law_way"] (a2 (dv t)):=ok2 b8 fun vx vL _ _ _ _ _ _ _ _ bx hpo _=>by
 show FL _ _ [vv vx,vv vL,nn,nn] _ _ _
 refine aj (S':=fun vB=>[vv vx,vv vL,vv vB,nn]) (aw 2 b8.nd (fe_N (bO bx rfl T.b_len (FAL.out (aa (ac 0) ad))))) ?_ (fun vB=>?_)
 rfl
 refine ay (inj:=fun (v7:D) (w:Unit)=>[vv v7,vv vL,vv vB,nn]) (aA (nA (ac 1) ae) ?_ ?_ ?_) (fun v7 w=>?_)
 rfl
 ·refine aj (S':=fun vU=>[vv vU,vv vL,vv vB,nn]) (aw 0 b8.nd (fe_N (aU bx rfl T.b_tuple (FAL.out (aa (fe_C (aK (N:=["_law_row"]) (own:=1) (cap:=[]) bx (BlkOk.of (by kernel_rfl)) (bj bx.K (ac 0)) (aN (by decide)) (fun _ _ _ _ _=>au 0 (show List.Nodup (α:=Str) ["_law_row"] by decide +kernel)) (fun _ _ _ _ _=>(qB (aq bx).K (ac 0) tU)))) ad))))) ?_ (fun vU=>?_)
  rfl
  exact ak ⟨(),rfl⟩
 ·exact ak ⟨(),rfl⟩
 refine ay (inj:=fun (s:D) (w1:Option Sl)=>[vv s,vv vL,vv vB,w1]) (bD 3 (B:=fun (s:D) (w1:Option Sl) x2=>[vv s,vv vL,vv vB,vv x2]) nn hpo rfl (bX (aD rfl T.b_range (FAL.out (aa (di (ac 1) ae) ad)))) ?_ (au 3 b8.nd) rfl (fun _ _ _=>rfl) (fun s w1 x2=>?_)) (fun ww w2=>?_)
 rfl
 ·refine aj (S':=fun wx=>[vv wx,vv vL,vv vB,vv x2]) (aw 0 b8.nd (fe_N (aU bx rfl T.b_tuple (FAL.out (aa (fe_C (aK (N:=["_law_y","_law_rows_here","_law_side"]) (own:=1) (cap:=[0,2]) bx (BlkOk.of (by kernel_rfl)) (bX (aD rfl T.b_range (FAL.out (aa (ac 2) ad)))) (aN (by decide)) (fun _ _ _ _ _=>au 0 (show List.Nodup (α:=Str) ["_law_y","_law_rows_here","_law_side"] by decide +kernel)) (fun _ _ _ _ _=>(fe_N (aU (aq bx) rfl T.b_tuple (FAL.out (aa (fe_C (aK (N:=["_law_x","_law_y","_law_rows_here","_law_side"]) (own:=1) (cap:=[0,1,2]) (aq bx) (BlkOk.of (by kernel_rfl)) (bX (aD rfl T.b_range (FAL.out (aa (ac 2) ad)))) (aN (by decide)) (fun _ _ _ _ _=>au 0 (show List.Nodup (α:=Str) ["_law_x","_law_y","_law_rows_here","_law_side"] by decide +kernel)) (fun _ _ _ _ _=>(ag (aq (aq bx)).K (ag (aq (aq bx)).K (ac 2) (bB (bB (ac 3) ae) (ac 0))) (ac 1))))) ad))))))) ad))))) ?_ (fun wx=>?_)
  rfl
  exact ak ⟨vv x2,rfl⟩
 refine aB (ah (ac 0)) ?_
 rfl
theorem oS:OkD P w K mg base C k "_law_word" iP ["_law_kept"] (a1 (dQ t)):=ok1 gj fun vO _ _ _ _ _ _ _ _ bx _ _=>by
 show FL _ _ [vv vO,nn,nn] _ _ _
 refine aj (S':=fun wz=>[vv vO,ow wz,nn]) (fs_O (fO 1 gj.nd (FAL.out (aa (ao bx rfl T.b_isinstance T.i_BadBox (ac 0) (bd rfl T.c_BadBox rfl)) (aa (ao bx rfl T.b_isinstance T.i_NoBlocks (ac 0) (bd rfl T.c_NoBlocks rfl)) (aa (ao bx rfl T.b_isinstance T.i_NoChange (ac 0) (bd rfl T.c_NoChange rfl)) ad)))))) ?_ (fun wz=>?_)
 rfl
 refine aj (S':=fun wr=>[vv vO,ow wr,nn]) (fs_A (jH 1 (FAL.out (aa (ao bx rfl T.b_isinstance T.i_NoNumber (ac 0) (bd rfl T.c_NoNumber rfl)) ad)))) ?_ (fun wr=>?_)
 rfl
 refine aj (S':=fun wt=>[vv vO,ow wt,nn]) (fs_X (cm 1 bx.K (FAL.out (aa (aM (aa (ao bx rfl T.b_isinstance T.i_NoPicture (ac 0) (bd rfl T.c_NoPicture rfl)) (aa (ao bx rfl T.b_isinstance T.i_NoRule (ac 0) (bd rfl T.c_NoRule rfl)) (aa (ao bx rfl T.b_isinstance T.i_NoSpot (ac 0) (bd rfl T.c_NoSpot rfl)) ad)))) ad)))) ?_ (fun wt=>?_)
 rfl
 refine aj (S':=fun vX=>[vv vO,ow vX,nn]) (fs_X (cm 1 bx.K (FAL.out (aa (aM (aa (ao bx rfl T.b_isinstance T.i_NoText (ac 0) (bd rfl T.c_NoText rfl)) (aa (ao bx rfl T.b_isinstance T.i_NothingDone (ac 0) (bd rfl T.c_NothingDone rfl)) (aa (ao bx rfl T.b_isinstance T.i_Unlike (ac 0) (bd rfl T.c_Unlike rfl)) ad)))) ad)))) ?_ (fun vX=>?_)
 rfl
 refine iy 1 (S':=[vv vO,vv (.lst vX),nn]) rfl rfl ?_
 refine ay (inj:=fun (_:Unit) (w:Unit)=>[vv vO,vv (.lst vX),nn]) (aA (ft_w (cv (cK bx (nG (qj bx (ac 1) (FAL.out (aa bW ad)))) ae) (cu (aX (aT (ao bx rfl T.b_isinstance T.i_ValueError (ac 0) (aP rfl T.b_ValueError (by decide +kernel) rfl))))))) ?_ ?_ ?_) (fun _ w=>?_)
 rfl
 ·refine aB (ah a8) ?_
  rfl
 ·exact ak ⟨(),rfl⟩
 refine bb (S':=[vv vO,vv (.lst vX),vv (.lst [(.str "bad box"),(.str "no blocks"),(.str "no change"),(.str "no number"),(.str "no picture"),(.str "no rule"),(.str "no spot"),(.str "no text")])]) (aw 2 gj.nd (aM (aa a8 (aa a8 (aa a8 (aa a8 (aa a8 (aa a8 (aa a8 (aa a8 ad)))))))))) ?_ ?_
 rfl
 refine ax (ah (ag bx.K (aE bx.K (ac 2) (aM (aa a8 (aa a8 ad)))) (nG (ot bx (ac 1) (FAL.out (aa bW ad)))))) ?_
 rfl
theorem oU:OkD P w K mg base C k "_law_do" iQ ["_law_what","_law_one","_law_other"] (a3 (aY t)):=ok3 bR fun vS vE vC _ _ _ _ _ _ _ _ bx _ _=>by
 show FL _ _ [vv vS,vv vE,vv vC,nn,nn,nn] _ _ _
 refine bb (S':=[vv vS,vv vE,vv vC,vv .non,nn,nn]) (aw 3 bR.nd eH) ?_ ?_
 rfl
 refine bb (S':=[vv vS,vv vE,vv vC,vv .non,vv .non,nn]) (aw 4 bR.nd eH) ?_ ?_
 rfl
 refine uQ 5 3 (B:=fun k=>[nn,nn,nn,vv (.exc k),nn,nn]) (sx 5 3 (inj:=fun (wa:D) (w:Unit)=>[vv vS,vv vE,vv vC,vv .non,vv wa,nn]) bx (by decide) rfl rfl rfl bR.nd rfl T.c_FourError T.takes (fun pn xe H0 Z0 E bx=>?_)) (fun _=>rfl) (fun wa w=>?_) (fun k=>?_)
 ·refine eJ (aA (pY (ac 0) ae) ?_ ?_ ?_)
  rfl
  ·refine aj (S':=fun wu=>[vv vS,vv vE,vv vC,vv .non,vv wu,nn]) (aw 4 bR.nd (li bx G.v (ag bx.K (aM (aa (lh T.f_turned rfl) (aa (lh T.f_mirrored rfl) (aa (lh T.f_flipped rfl) (aa (lh T.f_swapped rfl) ad))))) (ac 0)) (aa (ac 1) ad))) ?_ (fun wu=>?_)
   rfl
   exact ak ⟨(),rfl⟩
  ·refine eJ (aA (dN bx (ac 0) ae) ?_ ?_ ?_)
   rfl
   ·refine aj (S':=fun wj=>[vv vS,vv vE,vv vC,vv .non,vv wj,nn]) (aw 4 bR.nd (af bx G.g128 rfl (aa (ac 1) (aa (ac 2) ad)))) ?_ (fun wj=>?_)
    rfl
    exact ak ⟨(),rfl⟩
   ·refine aj (S':=fun wl=>[vv vS,vv vE,vv vC,vv .non,vv wl,nn]) (aw 4 bR.nd (nv (dN bx (ac 0) ae) (af bx G.g132 rfl (aa (ac 1) (aa (ac 2) ad))) (af bx G.g129 rfl (aa (ac 1) ad)))) ?_ (fun wl=>?_)
    rfl
    exact ak ⟨(),rfl⟩
 ·refine ay (inj:=fun (_:Unit) (w1:Unit)=>[vv vS,vv vE,vv vC,vv .non,vv wa,nn]) (aA (tM (ac 3) eH) ?_ ?_ ?_) (fun _ w1=>?_)
  rfl
  ·refine aB (ah (ac 4)) ?_
   rfl
  ·exact ak ⟨(),rfl⟩
  refine ax (ah (af bx G.g40 rfl (aa (ac 3) ad))) ?_
  rfl
 ·refine ay (inj:=fun (_:Unit) (w2:Unit)=>[nn,nn,nn,vv (.exc k),nn,nn]) (aA (tM (ac 3) eH) ?_ ?_ ?_) (fun _ w2=>?_)
  rfl
  ·refine ax (ah (ac 4)) ?_
   rfl
  ·exact ak ⟨(),rfl⟩
  refine ax (ah (af bx G.g40 rfl (aa (ac 3) ad))) ?_
  rfl
theorem fz:OkD P w K mg base C k "_law_is_led_right" bS ["_law_script","_law_at","_law_side","_law_ways"] (a4 (bi t)):=ok4 aR fun vy vI vB v8 _ _ _ _ _ _ _ _ bx _ _=>by
 show FL _ _ [vv vy,vv vI,vv vB,vv v8,nn,nn,nn,nn,nn,nn,nn,nn] _ _ _
 refine uS 4 5 6 (S':=fun vE vC v9=>[vv vy,vv vI,vv vB,vv v8,vv vE,vv vC,vv v9,nn,nn,nn,nn,nn]) bx aR.nd (ac 3) ?_ (fun _ _ _=>rfl) (fun vE vC v9=>?_)
 rfl
 refine ay (inj:=fun (_:Unit) (w:Unit)=>[vv vy,vv vI,vv vB,vv v8,vv vE,vv vC,vv v9,nn,nn,nn,nn,nn]) (aA (cK bx (af bx G.g133 rfl (aa (af bx G.g133 rfl (aa (av (aa (av (aa ae (aa ae ad))) (aa (av (aa ae (aa ae ad))) ad))) (aa (ac 4) ad))) (aa (ac 5) ad))) (af bx G.g133 rfl (aa (av (aa (av (aa ae (aa ae ad))) (aa (av (aa ae (aa ae ad))) ad))) (aa (ac 6) ad)))) ?_ ?_ ?_) (fun _ w=>?_)
 rfl
 ·refine aB (ah bW) ?_
  rfl
 ·exact ak ⟨(),rfl⟩
 refine nH 7 8 (S':=fun wc wb=>[vv vy,vv vI,vv vB,vv v8,vv vE,vv vC,vv v9,vv wc,vv wb,nn,nn,nn]) (qv 7 8 bx aR.nd (FAL.out (aa (af bx G.g31 rfl (aa (ac 0) (aa (ac 1) (aa (ac 2) ad)))) (aa (af bx G.g31 rfl (aa (ac 0) (aa (aE bx.K (ac 1) ae) (aa (ac 2) ad)))) ad)))) ?_ ?_ (fun _ _=>rfl) (fun wc wb=>?_)
 rfl
 rfl
 refine uR 9 10 (S':=fun v5 wf=>[vv vy,vv vI,vv vB,vv v8,vv vE,vv vC,vv v9,vv wc,vv wb,vv v5,vv wf,nn]) bx aR.nd (af bx G.g131 rfl (aa (nG (jJ bx (aM (aa ae (aa ae (aa ae (aa ae ad))))) (FAL.out (aa (ac 2) ad)))) (aa (ac 4) (aa (ac 7) (aa (ac 8) ad))))) ?_ (fun _ _=>rfl) (fun v5 wf=>?_)
 rfl
 refine ay (inj:=fun (_:Unit) (w1:Unit)=>[vv vy,vv vI,vv vB,vv v8,vv vE,vv vC,vv v9,vv wc,vv wb,vv v5,vv wf,nn]) (aA (ft_w (cv (aX (gS ae (ac 9) (ac 2))) (cu (aX (gS ae (ac 10) (ac 2)))))) ?_ ?_ ?_) (fun _ w1=>?_)
 rfl
 ·refine aB (ah bW) ?_
  rfl
 ·exact ak ⟨(),rfl⟩
 refine aj (S':=fun wA=>[vv vy,vv vI,vv vB,vv v8,vv vE,vv vC,vv v9,vv wc,vv wb,vv v5,vv wf,vv wA]) (aw 11 aR.nd (fe_N (aU bx rfl T.b_tuple (FAL.out (aa (fe_C (aK (N:=["_law_j","_law_side","_law_x","_law_y"]) (own:=1) (cap:=[2,7,8]) bx (BlkOk.of (by kernel_rfl)) (bX (aD rfl T.b_range (FAL.out (aa (ac 2) ad)))) (aN (by decide)) (fun _ _ _ _ _=>au 0 (show List.Nodup (α:=Str) ["_law_j","_law_side","_law_x","_law_y"] by decide +kernel)) (fun _ _ _ _ _=>(fe_N (aU (aq bx) rfl T.b_tuple (FAL.out (aa (fe_C (aK (N:=["_law_i","_law_x","_law_y","_law_j"]) (own:=1) (cap:=[2,3,0]) (aq bx) (BlkOk.of (by kernel_rfl)) (bX (aD rfl T.b_range (FAL.out (aa (ac 1) ad)))) (aN (by decide)) (fun _ _ _ _ _=>au 0 (show List.Nodup (α:=Str) ["_law_i","_law_x","_law_y","_law_j"] by decide +kernel)) (fun _ _ _ _ _=>(fe_N (sB (aq (aq bx)) rfl T.b_int (FAL.out (aa (nB (aq (aq bx)) (av (aa (ac 1) (aa (ac 2) ad))) (av (aa (ac 0) (aa (ac 3) ad)))) ad))))))) ad))))))) ad))))) ?_ (fun wA=>?_)
 rfl
 refine ax (ah (nB bx (ag bx.K (ag bx.K (af bx G.g133 rfl (aa (ac 11) (aa (ac 4) ad))) (ac 10)) (ac 9)) ae)) ?_
 rfl
theorem iU:OkD P w K mg base C k "law" a7 ["_law_script"] (a1 (em t)):=ok1 aG fun vy _ _ _ _ _ _ _ _ bx hpo _=>by
 show FL _ _ [vv vy,nn,nn,nn,nn,nn,nn,nn,nn,nn,nn,nn,nn] _ _ _
 refine aj (S':=fun vz=>[vv vy,vv vz,nn,nn,nn,nn,nn,nn,nn,nn,nn,nn,nn]) (aw 1 aG.nd (af bx G.g33 rfl (aa (ac 0) (aa ae (aa ae ad))))) ?_ (fun vz=>?_)
 rfl
 refine aj (S':=fun vx=>[vv vy,vv vz,vv vx,nn,nn,nn,nn,nn,nn,nn,nn,nn,nn]) (aw 2 aG.nd (af bx G.g55 rfl (aa (ac 1) ad))) ?_ (fun vx=>?_)
 rfl
 refine aj (S':=fun vB=>[vv vy,vv vz,vv vx,vv vB,nn,nn,nn,nn,nn,nn,nn,nn,nn]) (aw 3 aG.nd (fe_N (bO bx rfl T.b_len (FAL.out (aa (ac 2) ad))))) ?_ (fun vB=>?_)
 rfl
 refine aj (S':=fun vG=>[vv vy,vv vz,vv vx,vv vB,vv vG,nn,nn,nn,nn,nn,nn,nn,nn]) (fs_C (ig 4 (N:=["_law_way","_law_rows_here"]) (own:=1) (cap:=[2]) bx (BlkOk.of (by kernel_rfl)) (bX (aD rfl T.b_range (FAL.out (aa ae ad)))) (aN (by decide)) (fun _ _ _ _ _=>au 0 (show List.Nodup (α:=Str) ["_law_way","_law_rows_here"] by decide +kernel)) (fun _ _ _ _ _=>(af (aq bx) G.g57 rfl (aa (af (aq bx) G.g133 rfl (aa (ac 1) (aa (ac 0) ad))) ad))) aG.nd (hsw:=by kernel_rfl))) ?_ (fun vG=>?_)
 rfl
 refine aj (S':=fun vK=>[vv vy,vv vz,vv vx,vv vB,vv vG,vv vK,nn,nn,nn,nn,nn,nn,nn]) (aw 5 aG.nd (af bx G.g57 rfl (aa (fe_N (aU bx rfl T.b_tuple (FAL.out (aa (fe_C (aK (N:=["_law_y","_law_rows_here","_law_side"]) (own:=1) (cap:=[2,3]) bx (BlkOk.of (by kernel_rfl)) (bX (aD rfl T.b_range (FAL.out (aa (ac 3) ad)))) (aN (by decide)) (fun _ _ _ _ _=>au 0 (show List.Nodup (α:=Str) ["_law_y","_law_rows_here","_law_side"] by decide +kernel)) (fun _ _ _ _ _=>(fe_N (aU (aq bx) rfl T.b_tuple (FAL.out (aa (fe_C (aK (N:=["_law_x","_law_y","_law_rows_here"]) (own:=1) (cap:=[0,1]) (aq bx) (BlkOk.of (by kernel_rfl)) (bX (aD rfl T.b_range (FAL.out (aa (ac 2) ad)))) (aN (by decide)) (fun _ _ _ _ _=>au 0 (show List.Nodup (α:=Str) ["_law_x","_law_y","_law_rows_here"] by decide +kernel)) (fun _ _ _ _ _=>(ag (aq (aq bx)).K (ag (aq (aq bx)).K (ac 2) (ac 0)) (ac 1))))) ad))))))) ad)))) ad))) ?_ (fun vK=>?_)
 rfl
 refine aj (S':=fun vW=>[vv vy,vv vz,vv vx,vv vB,vv vG,vv vK,vv vW,nn,nn,nn,nn,nn,nn]) (aw 6 aG.nd (aM (aa (ag bx.K (ac 4) ae) (aa (ag bx.K (ac 4) ae) (aa (af bx G.g57 rfl (aa (qB bx.K (ac 2) tU) ad)) (aa (ac 5) ad)))))) ?_ (fun vW=>?_)
 rfl
 refine ay (inj:=fun (_:Unit) (w:Unit)=>[vv vy,vv vz,vv vx,vv vB,vv vG,vv vK,vv vW,nn,nn,nn,nn,nn,nn]) (aA (ft_w (cv (cK bx (fe_C (aK (N:=["_law_what","_law_picture_here"]) (own:=1) (cap:=[1]) bx (BlkOk.of (by kernel_rfl)) (bX (aD rfl T.b_range (FAL.out (aa ae ad)))) (aN (by decide)) (fun _ _ _ _ _=>au 0 (show List.Nodup (α:=Str) ["_law_what","_law_picture_here"] by decide +kernel)) (fun _ _ _ _ _=>(af (aq bx) G.g134 rfl (aa (ac 0) (aa (ac 1) (aa eH ad))))))) (ac 6)) (cu (cK bx (af bx G.g134 rfl (aa ae (aa (ac 1) (aa eH ad)))) (ac 4))))) ?_ ?_ ?_) (fun _ w=>?_)
 rfl
 ·refine aB (ah bW) ?_
  rfl
 ·exact ak ⟨(),rfl⟩
 refine ay (inj:=fun (s:Unit) (w1:Option Sl×Option Sl×Option Sl×Option Sl×Option Sl)=>[vv vy,vv vz,vv vx,vv vB,vv vG,vv vK,vv vW,w1.1,w1.2.1,w1.2.2.1,w1.2.2.2.1,w1.2.2.2.2,nn]) (bD 7 (B:=fun (s:Unit) (w1:Option Sl×Option Sl×Option Sl×Option Sl×Option Sl) x11=>[vv vy,vv vz,vv vx,vv vB,vv vG,vv vK,vv vW,vv x11,w1.2.1,w1.2.2.1,w1.2.2.2.1,w1.2.2.2.2,nn]) (nn,nn,nn,nn,nn) hpo rfl (bX (aD rfl T.b_range (FAL.out (aa ae ad)))) ?_ (au 7 aG.nd) rfl (fun _ _ _=>rfl) (fun s w1 x11=>?_)) (fun _ w4=>?_)
 rfl
 ·refine nH 8 9 (S':=fun vE vC=>[vv vy,vv vz,vv vx,vv vB,vv vG,vv vK,vv vW,vv x11,vv vE,vv vC,w1.2.2.2.1,w1.2.2.2.2,nn]) (so 8 9 bx aG.nd (FAL.out (aa (bB (af bx G.g31 rfl (aa (ac 0) (aa (aE bx.K ae (bv bx.K ae (ac 7))) (aa ae ad)))) ae) (aa (bB (af bx G.g31 rfl (aa (ac 0) (aa (aE bx.K ae (bv bx.K ae (ac 7))) (aa ae ad)))) ae) ad)))) ?_ ?_ (fun _ _=>rfl) (fun vE vC=>?_)
  rfl
  rfl
  refine aj (S':=fun v4=>[vv vy,vv vz,vv vx,vv vB,vv vG,vv vK,vv vW,vv x11,vv vE,vv vC,vv v4,w1.2.2.2.2,nn]) (fs_C (ig 10 (N:=["_law_way"]) (own:=1) (cap:=[]) bx (BlkOk.of (by kernel_rfl)) (bj bx.K (av (aa (ac 8) (aa (ac 9) ad)))) (aN (by decide)) (fun _ _ _ _ _=>au 0 (show List.Nodup (α:=Str) ["_law_way"] by decide +kernel)) (fun _ _ _ _ _=>(r9 ae (ac 0) ae)) aG.nd (hsw:=by kernel_rfl))) ?_ (fun v4=>?_)
  rfl
  refine ay (inj:=fun (_:Unit) (w2:Unit)=>[vv vy,vv vz,vv vx,vv vB,vv vG,vv vK,vv vW,vv x11,vv vE,vv vC,vv v4,w1.2.2.2.2,nn]) (aA (cK bx (af bx G.g134 rfl (aa ae (aa (ac 1) (aa (ac 8) ad)))) (nv (aT (ag bx.K (ac 10) ae)) (ag bx.K (ac 4) (ac 8)) a8)) ?_ ?_ ?_) (fun _ w2=>?_)
  rfl
  ·refine aB (ah bW) ?_
   rfl
  ·exact ak ⟨(),rfl⟩
  refine aj (S':=fun vY=>[vv vy,vv vz,vv vx,vv vB,vv vG,vv vK,vv vW,vv x11,vv vE,vv vC,vv v4,vv vY,nn]) (aw 11 aG.nd (af bx G.g134 rfl (aa ae (aa (ac 8) (aa (ac 9) ad))))) ?_ (fun vY=>?_)
  rfl
  refine eJ (aA (cK bx (ac 10) (aM (aa bW (aa bW ad)))) ?_ ?_ ?_)
  rfl
  ·refine eJ (aA (cK bx (ac 11) a8) ?_ ?_ ?_)
   rfl
   ·refine aB (ah bW) ?_
    rfl
   ·exact ak ⟨(vv x11,vv vE,vv vC,vv v4,vv vY),rfl⟩
  ·refine ay (inj:=fun (_:Unit) (w3:Unit)=>[vv vy,vv vz,vv vx,vv vB,vv vG,vv vK,vv vW,vv x11,vv vE,vv vC,vv v4,vv vY,nn]) (aA (ft_w (cv (aX (aT (ao bx rfl T.b_isinstance gU (ac 11) (aP rfl T.b_int (by decide +kernel) rfl)))) (cv (aX (gS ae (ac 11) ae)) (cu (cK bx (af bx G.g128 rfl (aa (af bx G.g128 rfl (aa (ac 1) (aa (ac 8) ad))) (aa (ac 9) ad))) (ag bx.K (ac 4) (ac 11))))))) ?_ ?_ ?_) (fun _ w3=>?_)
   rfl
   ·refine aB (ah bW) ?_
    rfl
   ·exact ak ⟨(),rfl⟩
   refine eJ (aA (aX (aT (af bx G.g135 rfl (aa (ac 0) (aa (aE bx.K ae (bv bx.K ae (ac 7))) (aa (ac 3) (aa (av (aa (ac 8) (aa (ac 9) (aa (ac 11) ad)))) ad))))))) ?_ ?_ ?_)
   rfl
   ·refine aB (ah bW) ?_
    rfl
   ·exact ak ⟨(vv x11,vv vE,vv vC,vv v4,vv vY),rfl⟩
 refine ay (inj:=fun (_:Unit) (w5:Unit)=>[vv vy,vv vz,vv vx,vv vB,vv vG,vv vK,vv vW,w4.1,w4.2.1,w4.2.2.1,w4.2.2.2.1,w4.2.2.2.2,nn]) (aA (ft_w (cv (cK bx (af bx G.g125 rfl (aa (af bx G.g125 rfl (aa (af bx G.g125 rfl (aa (af bx G.g125 rfl (aa (ac 1) ad)) ad)) ad)) ad)) (ag bx.K (ac 4) ae)) (cu (cK bx (af bx G.g84 rfl (aa (af bx G.g126 rfl (aa (ac 1) ad)) ad)) (ag bx.K (ac 4) ae))))) ?_ ?_ ?_) (fun _ w5=>?_)
 rfl
 ·refine aB (ah bW) ?_
  rfl
 ·exact ak ⟨(),rfl⟩
 refine aj (S':=fun wD=>[vv vy,vv vz,vv vx,vv vB,vv vG,vv vK,vv vW,w4.1,w4.2.1,w4.2.2.1,w4.2.2.2.1,w4.2.2.2.2,vv wD]) (aw 12 aG.nd (af bx G.g37 rfl (aa (ac 0) (aa ae (aa (ac 1) ad))))) ?_ (fun wD=>?_)
 rfl
 refine ax (ah (vd (af bx G.g38 rfl (aa (ac 12) ad)) (fI (nB bx (fe_C (aK (N:=["_law_what","_law_bad"]) (own:=1) (cap:=[12]) bx (BlkOk.of (by kernel_rfl)) (bj bx.K (av (aa ae (aa ae (aa ae (aa ae (aa ae (aa ae ad)))))))) (aN (by decide)) (fun _ _ _ _ _=>au 0 (show List.Nodup (α:=Str) ["_law_what","_law_bad"] by decide +kernel)) (fun _ _ _ _ _=>(af (aq bx) G.g134 rfl (aa (ac 0) (aa (ac 1) (aa ae ad))))))) (bv bx.K (aM (aa a8 ad)) ae))))) ?_
 rfl
end
end Lw
end
noncomputable section
section
namespace Lw
open PySem FF
inductive Q (α:Type) where
 | lf (a:α) | nd (a b c d:Q α)
 deriving DecidableEq
section
variable {α β γ:Type}
def Q.dep:Q α→Nat
 | .lf _=>0
 | .nd a b c d=>1+max (max a.dep b.dep) (max c.dep d.dep)
def Q.at:Nat→Q α→Nat→Nat→α
 | _,.lf a,_,_=>a
 | 0,.nd a _ _ _,x,y=>Q.at 0 a x y
 | n+1,.nd a b c d,x,y=>if y < 2^n then (if x < 2^n then a.at n x y else b.at n (x - 2^n) y) else (if x < 2^n then c.at n x (y - 2^n) else d.at n (x - 2^n) (y - 2^n))
def Q.All (p:α→Prop):Q α→Prop
 | .lf a=>p a
 | .nd a b c d=>a.All p∧b.All p∧c.All p∧d.All p
def sh (f:Nat→Nat→α)(a b:Nat):Nat→Nat→α:=fun x y=>f (x+a) (y+b)
@[simp] theorem lU (n:Nat)(a:α)(x y:Nat):Q.at n (.lf a) x y=a:=by cases n<;>rfl
variable [DecidableEq α][DecidableEq β][DecidableEq γ]
def put4 (a b c d:Q α):Q α:=match a with
 | .lf v=>if b=.lf v∧c=.lf v∧d=.lf v then .lf v else .nd a b c d
 | _=>.nd a b c d
def T (f:Nat→Nat→α):Nat→Q α
 | 0=>.lf (f 0 0)
 | n+1=>put4 (T f n) (T (sh f (2^n) 0) n) (T (sh f 0 (2^n)) n) (T (sh f (2^n) (2^n)) n)
def Q.lean:Q α→Q α
 | .lf a=>.lf a
 | .nd a b c d=>put4 a.lean b.lean c.lean d.lean
theorem dD (n:Nat):(2^(n+1):Nat)=2^n+2^n:=by rw[Nat.pow_succ];omega
theorem eo (v:α):put4 (.lf v) (.lf v) (.lf v) (.lf v)=.lf v:=by simp[put4]
theorem sI (n:Nat)(a b c d:Q α)(x y:Nat):(put4 a b c d).at (n+1) x y=(Q.nd a b c d).at (n+1) x y:=by
 unfold put4
 split
 ·split
  ·rename_i h
   obtain⟨rfl,rfl,rfl⟩:=h
   simp only[Q.at,lU,ite_self]
  ·rfl
 ·rfl
theorem qH (n:Nat)(a b c d:Q α)(ha:a.dep≤n)(hb:b.dep≤n)(hc:c.dep≤n)(hd:d.dep≤n):(put4 a b c d).dep≤n+1:=by
 unfold put4
 split
 ·split
  ·exact Nat.zero_le _
  ·simp only[Q.dep] at *;omega
 ·simp only[Q.dep] at *;omega
theorem aS:∀ (n:Nat) (f g:Nat→Nat→α),(∀ x y,x < 2^n→y < 2^n→f x y=g x y)→T f n=T g n
 | 0,f,g,h=>by rw[T,T,h 0 0 (by decide) (by decide)]
 | n+1,f,g,h=>by
  rw[dD]at h
  rw[T,T,aS n f g fun x y hx hy=>h x y (by omega) (by omega),aS n (sh f (2^n) 0) (sh g (2^n) 0) fun x y hx hy=>h _ _ (by omega) (by omega),
   aS n (sh f 0 (2^n)) (sh g 0 (2^n)) fun x y hx hy=>h _ _ (by omega) (by omega),aS n (sh f (2^n) (2^n)) (sh g (2^n) (2^n)) fun x y hx hy=>h _ _ (by omega) (by omega)]
theorem kH (v:α):∀ n,T (fun _ _=>v) n=.lf v
 | 0=>rfl
 | n+1=>by
  rw[T]
  show put4 (T (fun _ _=>v) n) (T (fun _ _=>v) n) (T (fun _ _=>v) n) (T (fun _ _=>v) n)=_
  rw[kH v n,eo]
theorem iV:∀ (n:Nat) (f:Nat→Nat→α),(T f n).dep≤n
 | 0,f=>Nat.le_refl _
 | n+1,f=>qH n _ _ _ _ (iV n _) (iV n _) (iV n _) (iV n _)
theorem T_at:∀ (n:Nat) (f:Nat→Nat→α) (x y:Nat),x < 2^n→y < 2^n→(T f n).at n x y=f x y
 | 0,f,x,y,hx,hy=>by
  have:x=0:=by simp at hx;exact hx
  have:y=0:=by simp at hy;exact hy
  subst x;subst y
  rfl
 | n+1,f,x,y,hx,hy=>by
  rw[dD]at hx hy
  rw[T,sI,Q.at]
  by_cases h1:y < 2^n
  ·rw[if_pos h1]
   by_cases h2:x < 2^n
   ·rw[if_pos h2,T_at n f x y h2 h1]
   ·rw[if_neg h2,T_at n _ _ _ (by omega) h1]
    unfold sh
    rw[show x - 2^n+2^n=x by omega,Nat.add_zero]
  ·rw[if_neg h1]
   by_cases h2:x < 2^n
   ·rw[if_pos h2,T_at n _ _ _ h2 (by omega)]
    unfold sh
    rw[show y - 2^n+2^n=y by omega,Nat.add_zero]
   ·rw[if_neg h2,T_at n _ _ _ (by omega) (by omega)]
    unfold sh
    rw[show x - 2^n+2^n=x by omega,show y - 2^n+2^n=y by omega]
theorem lV {p:α→Prop}:∀ (n:Nat) (f:Nat→Nat→α),(∀ x y,x < 2^n→y < 2^n→p (f x y))→(T f n).All p
 | 0,f,h=>h 0 0 (by decide) (by decide)
 | n+1,f,h=>by
  rw[dD]at h
  have ha:=lV n f fun x y hx hy=>h x y (by omega) (by omega)
  have hb:=lV n (sh f (2^n) 0) fun x y hx hy=>h _ _ (by omega) (by omega)
  have hc:=lV n (sh f 0 (2^n)) fun x y hx hy=>h _ _ (by omega) (by omega)
  have hd:=lV n (sh f (2^n) (2^n)) fun x y hx hy=>h _ _ (by omega) (by omega)
  rw[T]
  unfold put4
  split
  ·rename_i v e
   split
   ·rw[e]at ha;exact ha
   ·exact⟨ha,hb,hc,hd⟩
  ·exact⟨ha,hb,hc,hd⟩
theorem gp {p:α→Prop}:∀ (n:Nat) (t:Q α) (x y:Nat),t.All p→p (t.at n x y)
 | n,.lf a,x,y,h=>by rw[lU];exact h
 | 0,.nd a _ _ _,x,y,h=>gp 0 a x y h.1
 | n+1,.nd a b c d,x,y,h=>by
  rw[Q.at]
  split
  ·split
   ·exact gp n a _ _ h.1
   ·exact gp n b _ _ h.2.1
  ·split
   ·exact gp n c _ _ h.2.2.1
   ·exact gp n d _ _ h.2.2.2
theorem qI (n:Nat)(a b c d:Q α):T ((Q.nd a b c d).at (n+1)) (n+1)=put4 (T (a.at n) n) (T (b.at n) n) (T (c.at n) n) (T (d.at n) n):=by
 rw[T]
 congr 1
 ·exact aS n _ _ fun x y hx hy=>by rw[Q.at,if_pos hy,if_pos hx]
 ·exact aS n _ _ fun x y hx hy=>by
   unfold sh
   rw[Q.at,if_pos (by omega),if_neg (by omega)]
   simp
 ·exact aS n _ _ fun x y hx hy=>by
   unfold sh
   rw[Q.at,if_neg (by omega),if_pos (by omega)]
   simp
 ·exact aS n _ _ fun x y hx hy=>by
   unfold sh
   rw[Q.at,if_neg (by omega),if_neg (by omega)]
   simp
theorem gq:∀ (n:Nat) (t:Q α),t.dep≤n→t.lean=T (t.at n) n
 | n,.lf a,_=>by
  rw[Q.lean]
  exact(kH a n).symm.trans (aS _ _ _ fun x y _ _=>(lU _ _ _ _).symm)
 | 0,.nd a b c d,h=>by simp[Q.dep]at h
 | n+1,.nd a b c d,h=>by
  have h':1+max (max a.dep b.dep) (max c.dep d.dep)≤n+1:=h
  rw[qI,Q.lean,gq n a (by omega),gq n b (by omega),gq n c (by omega),gq n d (by omega)]
theorem fA {n:Nat}{t:Q α}(h:t.dep≤n):t.lean.dep≤n:=by rw[gq n t h];exact iV n _
structure En (e:α→D):Prop where
 tup:∀ a,isTup (e a)=false
 gd:∀ n a,good n (e a)=true
 eq:∀ a b,eqD (e a) (e b)=decide (a=b)
 tD:∀ a xs,eqD (e a) (.tup xs)=false
 dT:∀ a xs,eqD (.tup xs) (e a)=false
end
section
variable {α:Type}[DecidableEq α]{e:α→D}
def Q.d (e:α→D):Q α→D
 | .lf a=>e a
 | .nd a b c d=>.tup [a.d e,b.d e,c.d e,d.d e]
theorem Q.gd (E:En e):∀ (n:Nat) (t:Q α),t.dep≤n→good n (t.d e)=true
 | n,.lf a,_=>E.gd n a
 | 0,.nd a b c d,h=>by simp[Q.dep]at h
 | n+1,.nd a b c d,h=>by
  have h':1+max (max a.dep b.dep) (max c.dep d.dep)≤n+1:=h
  rw[Q.d,good,goods,goods,goods,goods,goods,Q.gd E n a (by omega),Q.gd E n b (by omega),Q.gd E n c (by omega),Q.gd E n d (by omega)]
  rfl
theorem Q.eqd (E:En e):∀ (s t:Q α),eqD (s.d e) (t.d e)=decide (s=t)
 | .lf a,.lf b=>by rw[Q.d,Q.d,E.eq];simp
 | .lf a,.nd ..=>by rw[Q.d,Q.d,E.tD];simp
 | .nd ..,.lf b=>by rw[Q.d,Q.d,E.dT];simp
 | .nd a b c d,.nd a' b' c' d'=>by
  rw[Q.d,Q.d,eqD,eqDs,eqDs,eqDs,eqDs,eqDs,Q.eqd E a a',Q.eqd E b b',Q.eqd E c c',Q.eqd E d d']
  simp[Bool.eq_iff_iff]
end
theorem En.int:En FF.D.int:=⟨fun _=>rfl,fun n a=>by cases n<;>rfl,fun a b=>by simp[eqD,Bool.beq_eq_decide_eq],fun a xs=>by simp[eqD],fun a xs=>by simp[eqD]⟩
end Lw
end
section
namespace Lw
open PySem FF
theorem eU {xs:List D}(h:xs.length≤16777216):sq (.tup xs)=.ok xs:=by unfold sq asSeq;rw[R.bind_ok,if_pos h]
theorem m6 {xs:List D}(h:xs.length≤16777216):sq (.lst xs)=.ok xs:=by unfold sq asSeq;rw[R.bind_ok,if_pos h]
theorem sq4 (a b c d:D):sq (.tup [a,b,c,d])=.ok [a,b,c,d]:=eU (by show 4≤16777216;decide)
theorem qJ {e:D→R D}{f:D→D}:∀ {xs:List D},(∀ d∈xs,e d=.ok (f d))→cGo (fun _=>.ok true) e xs=.ok (xs.map f)
 | [],_=>rfl
 | x::xs,h=>by
  rw[cGo]
  simp only
  rw[h x (.head _),qJ fun d hd=>h d (.tail _ hd)]
  rfl
theorem sJ {e:D→R D}{xs:List D}(f:D→D)(h:∀ d∈xs,e d=.ok (f d)):cMap e xs=.ok (.lst (xs.map f)):=by
 unfold cMap;rw[qJ h];rfl
theorem bt {α:Type}{e:D→R D}{l:List α}(c g:α→D)(h:∀ a∈l,e (c a)=.ok (g a)):cMap e (l.map c)=.ok (.lst (l.map g)):=by
 unfold cMap
 have:∀ {l:List α},(∀ a∈l,e (c a)=.ok (g a))→cGo (fun _=>.ok true) e (l.map c)=.ok (l.map g):=by
  intro l
  induction l with
  | nil=>intro _;rfl
  | cons a l ih =>
   intro h
   rw[List.map_cons,cGo]
   simp only
   rw[h a (.head _),ih fun b hb=>h b (.tail _ hb)]
   rfl
 rw[this h];rfl
theorem cMap4 {e:D→R D}{a b c d a' b' c' d':D}(ha:e a=.ok a')(hb:e b=.ok b')(hc:e c=.ok c')(hd:e d=.ok d'):cMap e [a,b,c,d]=.ok (.lst [a',b',c',d']):=by
 unfold cMap;simp only[cGo,ha,hb,hc,hd];rfl
theorem sK {α:Type}{c:D→R Bool}{e:D→R D}{l:List α}(k g:α→D)(p:α→Bool)(h:∀ a∈l,c (k a)=.ok (p a)∧(p a=true→e (k a)=.ok (g a))):cFil c e (l.map k)=.ok (.lst ((l.filter p).map g)):=by
 unfold cFil
 have:∀ {l:List α},(∀ a∈l,c (k a)=.ok (p a)∧(p a=true→e (k a)=.ok (g a)))→cGo c e (l.map k)=.ok ((l.filter p).map g):=by
  intro l
  induction l with
  | nil=>intro _;rfl
  | cons a l ih =>
   intro h
   have h1:=h a (.head _)
   have h2:=ih fun b hb=>h b (.tail _ hb)
   rw[List.map_cons,cGo,h1.1]
   cases q:p a with
   | false=>simp only;rw[h2,List.filter_cons_of_neg (by simp[q])]
   | true=>simp only;rw[h1.2 q,h2,List.filter_cons_of_pos q];rfl
 rw[this h];rfl
@[simp] theorem dE (xs:List D):dTuple [.lst xs]=.ok (.tup xs):=rfl
@[simp] theorem m7 (xs:List D):dTuple [.tup xs]=.ok (.tup xs):=rfl
@[simp] theorem oV (xs:List D):dList [.tup xs]=.ok (.lst xs):=rfl
@[simp] theorem oW (xs:List D):dList [.lst xs]=.ok (.lst xs):=rfl
@[simp] theorem cD (xs:List D):dLen [.tup xs]=.ok (.int xs.length):=rfl
@[simp] theorem iW (xs:List D):dLen [.lst xs]=.ok (.int xs.length):=rfl
@[simp] theorem aJ (a b:Int):dAdd (.int a) (.int b)=.ok (.int (a+b)):=rfl
@[simp] theorem aZ (a b:Int):dSub (.int a) (.int b)=.ok (.int (a - b)):=rfl
@[simp] theorem sL (a b:Int):dLt (.int a) (.int b)=.ok (.bl (decide (a < b))):=rfl
@[simp] theorem kI (a b:Int):dLe (.int a) (.int b)=.ok (.bl (decide (a≤b))):=rfl
@[simp] theorem sM (a b:Int):dGt (.int a) (.int b)=.ok (.bl (decide (b < a))):=rfl
@[simp] theorem et (a b:Int):dGe (.int a) (.int b)=.ok (.bl (decide (b≤a))):=rfl
@[simp] theorem kJ (a b:Int):dEq (.int a) (.int b)=.ok (.bl (decide (a=b))):=by
 show R.ok (D.bl (a==b))=_
 rw[Bool.beq_eq_decide_eq]
@[simp] theorem gZ (a b:Int):dNf (.int a) (.int b)=.ok (.bl (!decide (a=b))):=by
 show R.ok (D.bl (!(a==b)))=_
 rw[Bool.beq_eq_decide_eq]
theorem b9 {a b:Int}(h:(-(2^64) < b∧b < 2^64)∨(-(2^64) < a∧a < 2^64)):dMul (.int a) (.int b)=.ok (.int (a*b)):=by
 have:cMul a b=true:=by unfold cMul;simp only[Bool.or_eq_true,Bool.and_eq_true,decide_eq_true_eq];rcases h with h | h;exact .inr h;exact .inl h
 show (if cMul a b=true then R.ok (D.int (a*b)) else R.stuck)=_
 rw[if_pos this]
theorem lW {a b:Int}(h0:0 < b)(h1:b < 1073741824):dDiv (.int a) (.int b)=.ok (.int (a/b)):=by
 have:cDiv a b=true:=by unfold cDiv;simp only[Bool.and_eq_true,decide_eq_true_eq];exact⟨h0,h1⟩
 show (if cDiv a b=true then R.ok (D.int (a/b)) else R.stuck)=_
 rw[if_pos this]
theorem bJ {a b:Int}(h0:0 < b):dMod (.int a) (.int b)=.ok (.int (a%b)):=by
 show (if decide (0 < b)=true then R.ok (D.int (a%b)) else R.stuck)=_
 rw[if_pos (by simpa using h0)]
theorem iX {x y:D}(hx:good 60 x=true)(hy:good 60 y=true):dEq x y=.ok (.bl (eqD x y)):=by unfold dEq;rw[if_pos ⟨hx,hy⟩]
theorem lX {x y:D}(hx:good 60 x=true)(hy:good 60 y=true):dNf x y=.ok (.bl (!eqD x y)):=by unfold dNf;rw[if_pos ⟨hx,hy⟩]
theorem j7 {α:Type}{xs:List α}{i:Nat}{x:α}(h:xs[i]?=some x):L2.atI xs ((i:Nat):Int)=some x:=by
 have hi:i < xs.length:=(List.getElem?_eq_some_iff.mp h).1
 unfold L2.atI L2.ixN
 rw[if_pos (by omega),if_pos (by omega)]
 simpa using h
theorem ixT {xs:List D}{i:Nat}{x:D}(h:xs[i]?=some x):dIx (.tup xs) (.int ((i:Nat):Int))=.ok x:=by
 show (match L2.atI xs (i:Int) with | some d=>R.ok d | none=>R.stuck)=_
 rw[j7 h]
theorem ixL {xs:List D}{i:Nat}{x:D}(h:xs[i]?=some x):dIx (.lst xs) (.int ((i:Nat):Int))=.ok x:=by
 show (match L2.atI xs (i:Int) with | some d=>R.ok d | none=>R.stuck)=_
 rw[j7 h]
@[simp] theorem ix20 (a b:D):dIx (.tup [a,b]) (.int 0)=.ok a:=rfl
@[simp] theorem ix21 (a b:D):dIx (.tup [a,b]) (.int 1)=.ok b:=rfl
@[simp] theorem ix40 (a b c d:D):dIx (.tup [a,b,c,d]) (.int 0)=.ok a:=rfl
@[simp] theorem ix41 (a b c d:D):dIx (.tup [a,b,c,d]) (.int 1)=.ok b:=rfl
@[simp] theorem ix42 (a b c d:D):dIx (.tup [a,b,c,d]) (.int 2)=.ok c:=rfl
@[simp] theorem ix43 (a b c d:D):dIx (.tup [a,b,c,d]) (.int 3)=.ok d:=rfl
@[simp] theorem cn (xs:List D):dIsA qTup (.tup xs)=.ok (.bl true):=rfl
@[simp] theorem oX (i:Int):dIsA qTup (.int i)=.ok (.bl false):=rfl
theorem iY {α:Type}(p:α→Bool):∀ l:List α,boolsD (l.map fun d=>D.bl (p d))=some (l.map p)
 | []=>rfl
 | a::r=>by simp only[List.map_cons,boolsD,iY p r,Option.map_some]
theorem qK {α:Type}(p:α→Bool)(l:List α):dAll [.lst (l.map fun d=>D.bl (p d))]=.ok (.bl (l.all p)):=by
 show (match boolsD (l.map fun d=>D.bl (p d)) with | some bs=>R.ok (D.bl (bs.all id)) | none=>R.stuck)=_
 rw[iY]
 simp[List.all_map,Function.comp_def]
theorem nN (f:Int→Int→Bool)(F' G':D→D→R D){x y w:Int}{g:Int→Int→Bool}(h1:F' (.int x) (.int y)=.ok (.bl (f x y)))(h2:G' (.int y) (.int w)=.ok (.bl (g y w))):rCh F' G' (.int x) (.int y) (.ok (.int w))=.ok (.bl (f x y&&g y w)):=by
 unfold rCh
 rw[h1]
 cases f x y with
 | true=>show G' (.int y) (.int w)=_;rw[h2];rfl
 | false=>rfl
@[simp] theorem qL (x y w:Int):rCh dLe dLe (.int x) (.int y) (.ok (.int w))=.ok (.bl (decide (x≤y)&&decide (y≤w))):=nN (fun a b=>decide (a≤b)) _ _ (g:=fun a b=>decide (a≤b)) rfl rfl
@[simp] theorem dZ (x y w:Int):rCh dLe dLt (.int x) (.int y) (.ok (.int w))=.ok (.bl (decide (x≤y)&&decide (y < w))):=nN (fun a b=>decide (a≤b)) _ _ (g:=fun a b=>decide (a < b)) rfl rfl
theorem sN (a b:Bool):vAnd (.ok (.bl a)) (.ok (.bl b))=.ok (.bl (a&&b)):=by cases a<;>rfl
theorem uU (a b:Bool):vOr (.ok (.bl a)) (.ok (.bl b))=.ok (.bl (a||b)):=by cases a<;>rfl
theorem sO (a b:Bool):rAnd (.ok a) (.ok b)=.ok (a&&b):=by cases a<;>rfl
theorem iZ (a b:Bool):rOr (.ok a) (.ok b)=.ok (a||b):=by cases a<;>rfl
def isW:D→Bool
 | .int _=>true
 | _=>false
def noX:D→Bool
 | .exc _=>false
 | .fn _=>false
 | _=>true
def inTo (hi:Int):D→Bool
 | .int i=>decide (0≤i)&&decide (i≤hi)
 | _=>false
theorem cE {n:Nat}{d:D}(h:good n d=true):noX d=true:=by
 cases d<;>first | rfl | (cases n<;>simp[good]at h)
theorem fB {n:Nat}(hn:1≤n){d:D}(h:noX d=true):pf n F.aB [d]=.ok (.bl (isW d)):=by
 obtain⟨m,rfl⟩:∃ m,n=m+1:=⟨n - 1,by omega⟩
 rw[lD]
 cases d<;>first | rfl | (cases h)
theorem qM {n:Nat}(hn:2≤n){d:D}(h:noX d=true):pf n F.ao [d]=.ok (.bl (inTo 9 d)):=by
 obtain⟨m,rfl⟩:∃ m,n=m+1:=⟨n - 1,by omega⟩
 rw[lE,dm,fB (by omega) h]
 cases d<;>first | rfl | (cases h;done) | skip
 simp[isW,inTo]
theorem sP {n:Nat}(hn:2≤n){d:D}(h:noX d=true):pf n F.aL [d]=.ok (.bl (inTo 3 d)):=by
 obtain⟨m,rfl⟩:∃ m,n=m+1:=⟨n - 1,by omega⟩
 rw[mM,eg,fB (by omega) h]
 cases d<;>first | rfl | (cases h;done) | skip
 simp[isW,inTo]
def STP:=And.intro @az (And.intro @qm (And.intro @bM (And.intro @vg (And.intro @vh (And.intro @nF (And.intro @su (And.intro @sv (And.intro @R.bind_ok (And.intro @R.bind_err (And.intro @ba (And.intro @kn (And.intro @sO (And.intro @iZ (And.intro @uM (And.intro @uN (And.intro @vj (And.intro @vk (And.intro @uO (And.intro @uP (And.intro @vm (And.intro @tN (And.intro @sN (And.intro @uU (And.intro @sw (And.intro @tO (And.intro @tQ (And.intro @Bool.not_true (And.intro @Bool.not_false (And.intro @Bool.false_or (And.intro @Bool.true_or (And.intro @Bool.or_false (And.intro @Bool.or_true (And.intro @Bool.true_and (And.intro @Bool.false_and (And.intro @Bool.and_true (And.intro @Bool.and_false (And.intro @Bool.false_eq_true (@Bool.true_eq_false))))))))))))))))))))))))))))))))))))))
def OPP:=And.intro @aJ (And.intro @aZ (And.intro @sL (And.intro @kI (And.intro @sM (And.intro @et (And.intro @kJ (And.intro @gZ (And.intro @cD (And.intro @iW (And.intro @dE (And.intro @m7 (And.intro @oV (And.intro @oW (And.intro @ix20 (And.intro @ix21 (And.intro @ix40 (And.intro @ix41 (And.intro @ix42 (And.intro @ix43 (And.intro @cn (And.intro @oX (And.intro @qL (@dZ)))))))))))))))))))))))
end Lw
end
section
namespace Lw
open PySem FF
def slim:Nat→D→Bool
 | n+1,.tup xs=>decide (xs.length≤1000)&&xs.all (slim n)
 | n+1,.lst xs=>decide (xs.length≤1000)&&xs.all (slim n)
 | _,_=>true
def treeOk (p:D→Bool):Nat→Int→D→Bool
 | n+1,s,.tup xs=>decide (s≠0)&&(decide (xs.length=4)&&xs.all (treeOk p n (s - 1)))
 | _,_,d=>p d
theorem cp {n:Nat}:∀ {xs:List D},goods n xs=true→∀ d∈xs,good n d=true
 | x::xs,h,d,hd=>by
  rw[goods,Bool.and_eq_true]at h
  cases hd with
  | head=>exact h.1
  | tail _ hd=>exact cp h.2 d hd
theorem bo {n:Nat}:∀ {xs:List D},(∀ d∈xs,good n d=true)→goods n xs=true
 | [],_=>rfl
 | x::xs,h=>by rw[goods,h x (.head _),bo fun d hd=>h d (.tail _ hd)];rfl
theorem ex1 {n k:Nat}(h:k+1≤n):∃ m,n=m+1∧k≤m:=⟨n - 1,by omega,by omega⟩
theorem cF {d:D}(h:isTup d=false)(h':noX d=true):dIsA qTup d=.ok (.bl false):=by cases d<;>first | rfl | (cases h;done) | (cases h';done)
theorem sQ {i c:Nat}{p:D→Bool}(hi:fvL.contains i=true)(hp:∀ m d,c≤m→noX d=true→pf m i [d]=.ok (.bl (p d))):∀ (n m:Nat) (s:Int) (d:D),good n d=true→slim n d=true→n+c+1≤m→pf m F.az [.int s,d,.fn i]=.ok (.bl (treeOk p n s d)):=by
 have flat:∀ (n m:Nat) (s:Int) (d:D),isTup d=false→noX d=true→c+1≤m→treeOk p n s d=p d→pf m F.az [.int s,d,.fn i]=.ok (.bl (treeOk p n s d)):=fun n m s d ht hx hm e=>by
  obtain⟨m,rfl,hm⟩:=ex1 hm
  rw[iD,c7,cF ht hx,e]
  have:onF fvL (.fn i) (fun i=>pf m i [d])=.ok (.bl (p d)):=by
   show (if fvL.contains i=true then pf m i [d] else R.stuck)=_
   rw[if_pos hi,hp m d (by omega) hx]
  simp[this]
 intro n
 induction n with
 | zero =>
  intro m s d hg hs hm
  have ht:isTup d=false:=by cases d<;>first | rfl | (simp[good]at hg)
  exact flat 0 m s d ht (cE hg) (by omega) (by cases d<;>rfl)
 | succ n ih =>
  intro m s d hg hs hm
  by_cases ht:isTup d=true
  ·cases d with
   | tup xs =>
    rw[good]at hg
    rw[slim,Bool.and_eq_true,decide_eq_true_eq,List.all_eq_true]at hs
    obtain⟨m,rfl,hm⟩:=ex1 (show n+c+1+1≤m by omega)
    rw[iD,c7]
    have hc:cMap (fun part=>(dSub (.int s) (.int 1)).bind fun x1=>pf m F.az [x1,part,.fn i]) xs=.ok (.lst (xs.map fun d=>.bl (treeOk p n (s - 1) d))) :=
     sJ _ fun d hd=>by rw[aZ,R.bind_ok];exact ih m (s - 1) d (cp hg d hd) (hs.2 d hd) (by omega)
    simp only[cn,ba,kn,Bool.not_true,az,bM,kJ,cD,R.bind_ok,gZ,iZ,eU (show xs.length≤16777216 by omega),hc,qK,treeOk]
    by_cases h0:s=0
    ·simp[h0]
    ·by_cases h4:xs.length=4
     ·simp[h0,h4]
     ·have h4':¬ ((xs.length:Int)=4):=by omega
      simp[h0,h4,h4']
   | _=>cases ht
  ·have ht':isTup d=false:=by simpa using ht
   exact flat (n+1) m s d ht' (cE hg) (by omega) (by cases d<;>first | rfl | (cases ht';done))
def sizedOk (p:D→Bool)(n:Nat):D→Bool
 | .tup [s,t]=>inTo 3 s&&(match s with
  | .int i=>treeOk p n i t
  | _=>false)
 | _=>false
theorem qN {i c:Nat}{p:D→Bool}(hc:2≤c)(hi:fvL.contains i=true)(hp:∀ m d,c≤m→noX d=true→pf m i [d]=.ok (.bl (p d)))(n m:Nat)(d:D)(hg:good (n+1) d=true)(hs:slim (n+1) d=true)(hm:n+c+2≤m):pf m F.ax [d,.fn i]=.ok (.bl (sizedOk p n d)):=by
 obtain⟨m,rfl,hm⟩:=ex1 (show n+c+1+1≤m by omega)
 rw[fT,bq]
 by_cases ht:isTup d=true
 ·cases d with
  | tup xs =>
   rw[good]at hg
   rw[slim,Bool.and_eq_true,decide_eq_true_eq,List.all_eq_true]at hs
   by_cases h2:xs.length=2
   ·match xs,h2 with
    | [a,b],_ =>
     have ga:=cp hg a (by simp)
     have gb:=cp hg b (by simp)
     have sb:=hs.2 b (by simp)
     have hz:pf m F.aL [a]=.ok (.bl (inTo 3 a)):=sP (by omega) (cE ga)
     simp only[cn,ba,kn,Bool.not_true,cD,R.bind_ok,gZ,ix20,ix21,iZ,List.length_cons,List.length_nil,hz]
     cases a with
     | int v =>
      rw[sQ hi hp n m v b gb sb (by omega)]
      by_cases hv:inTo 3 (.int v)=true
      ·simp[hv,sizedOk]
      ·have hv':inTo 3 (.int v)=false:=by simpa using hv
       simp[hv',sizedOk]
     | _=>simp[sizedOk,inTo]
   ·have h2':¬ ((xs.length:Int)=2):=by omega
    have e:sizedOk p n (.tup xs)=false:=by
     match xs,h2 with
     | [],_=>rfl
     | [_],_=>rfl
     | _::_::_::_,_=>rfl
    simp[h2',e]
  | _=>cases ht
 ·have ht':isTup d=false:=by simpa using ht
  rw[cF ht' (cE hg)]
  have e:sizedOk p n d=false:=by cases d<;>first | rfl | (cases ht';done)
  simp[e]
end Lw
end
section
namespace Lw
open PySem FF
def scr (ns:List Int):D:=.lst (ns.map .int)
def cell (ns:List Int)(k:Nat):Int:=if k < ns.length then ns.getD k 0 else if ns=[] then 0 else ns.getD (k%ns.length) 0*31+k
def pk (ns:List Int)(k:Nat)(m:Int):Int :=
 let d:=(cell ns k+6151*((k:Int)+1))*40692%2147483399
 (d*d+d/31)%2147483629%m
theorem eE {ns:List Int}{k:Nat}{m:Int}(h:0 < m):0≤pk ns k m:=Int.emod_nonneg _ (by omega)
theorem eF {ns:List Int}{k:Nat}{m:Int}(h:0 < m):pk ns k m < m:=Int.emod_lt_of_pos _ h
theorem jT (n:Nat):∀ ns:List Int,goods n (ns.map .int)=true
 | []=>rfl
 | i::r=>by rw[List.map_cons,goods,jT n r];cases n<;>rfl
theorem sR {n:Nat}(hn:1≤n)(ns:List Int)(k:Nat):pf n F.aQ [scr ns,.int k]=.ok (.int (cell ns k)):=by
 obtain⟨n,rfl,hn⟩:=ex1 hn
 rw[oG,fg]
 unfold scr cell
 by_cases h:k < ns.length
 ·have h':((k:Int) < (ns.length:Int)):=by omega
  have e0:=ixL (xs:=ns.map .int) (i:=k) (x:=.int (ns.getD k 0)) (by rw[List.getElem?_map,List.getElem?_eq_getElem h];simp[List.getD,h])
  simp only[STP,if_true,if_false,ite_true,ite_false,reduceIte,reduceCtorEq,OPP,List.length_map,decide_eq_true h',e0,if_pos h]
 ·have h':¬ ((k:Int) < (ns.length:Int)):=by omega
  cases ns with
  | nil =>
   have e1:dEq (.lst []) (.lst [])=.ok (.bl true):=rfl
   have h2:¬ ((k:Int) < ((0:Nat):Int)):=by omega
   simp only[STP,if_true,if_false,ite_true,ite_false,reduceIte,reduceCtorEq,OPP,List.map_nil,List.length_nil,decide_eq_false h2,e1,if_neg (Nat.not_lt_zero k)]
  | cons a r =>
   have hl:0 < (a::r).length:=by simp
   have hk:k%(a::r).length < (a::r).length:=Nat.mod_lt _ hl
   have e1:dEq (.lst ((a::r).map .int)) (.lst [])=.ok (.bl false):=by
    rw[iX (by rw[good];exact jT _ _) rfl]
    simp[eqD,eqDs]
   have e2:dMod (.int (k:Int)) (.int ((a::r).length:Int))=.ok (.int ((k%(a::r).length:Nat):Int)):=by
    rw[bJ (by omega)];rfl
   have e3:dIx (.lst ((a::r).map .int)) (.int ((k%(a::r).length:Nat):Int))=.ok (.int ((a::r).getD (k%(a::r).length) 0)) :=
    ixL (by rw[List.getElem?_map,List.getElem?_eq_getElem hk,List.getD,List.getElem?_eq_getElem hk];rfl)
   have e4:=b9 (a:=(a::r).getD (k%(a::r).length) 0) (b:=31) (.inl (by decide))
   simp only[STP,if_true,if_false,ite_true,ite_false,reduceIte,reduceCtorEq,OPP,List.length_map,decide_eq_false h',e1,e2,e3,e4,if_neg h]
theorem fC {n:Nat}(hn:2≤n)(ns:List Int)(k:Nat){m:Int}(hm:0 < m):pf n F.ac [scr ns,.int k,.int m]=.ok (.int (pk ns k m)):=by
 obtain⟨n,rfl,hn⟩:=ex1 hn
 rw[oH,fh,sR (by omega)]
 simp only[R.bind_ok,aJ]
 rw[b9 (.inr (by decide))]
 simp only[R.bind_ok,aJ]
 rw[b9 (.inl (by decide))]
 simp only[R.bind_ok]
 rw[bJ (by decide)]
 simp only[az]
 have h0:0≤(cell ns k+6151*((k:Int)+1))*40692%2147483399:=Int.emod_nonneg _ (by decide)
 have h1:(cell ns k+6151*((k:Int)+1))*40692%2147483399 < 2147483399:=Int.emod_lt_of_pos _ (by decide)
 rw[b9 (.inl ⟨by omega,by omega⟩),lW (by decide) (by decide)]
 simp only[R.bind_ok,aJ]
 rw[bJ (by decide)]
 simp only[R.bind_ok]
 rw[bJ hm]
 rfl
theorem dF {n:Nat}(hn:2≤n)(ns:List Int)(k:Nat){a m:Int}(ha:a=(k:Int))(hm:0 < m):pf n F.ac [scr ns,.int a,.int m]=.ok (.int (pk ns k m)):=by subst ha;exact fC hn ns k hm
def W9 (v:Int):Prop:=0≤v∧v≤9
def dleaf (ns:List Int)(k:Nat):Int:=[0,1,1,2,9,pk ns (k+1) 10].getD (pk ns (k+2) 6).toNat 0
def dt (ns:List Int):Nat→Nat→Q Int
 | 0,k=>.lf (dleaf ns k)
 | n+1,k=>if pk ns k 6 < 2 then .lf (dleaf ns k) else if pk ns k 6=2 then .nd (dt ns n (k+3)) (dt ns n (k+3)) (dt ns n (k+3)) (dt ns n (k+3)) else
  .nd (dt ns n (5*k+7)) (dt ns n (5*k+18)) (dt ns n (5*k+29)) (dt ns n (5*k+40))
theorem nO (ns:List Int)(k:Nat):W9 (dleaf ns k):=by
 unfold dleaf W9
 have h0:=eE (ns:=ns) (k:=k+2) (m:=6) (by decide)
 have h1:=eF (ns:=ns) (k:=k+2) (m:=6) (by decide)
 have g0:=eE (ns:=ns) (k:=k+1) (m:=10) (by decide)
 have g1:=eF (ns:=ns) (k:=k+1) (m:=10) (by decide)
 obtain⟨j,hj⟩:∃ j:Nat,pk ns (k+2) 6=(j:Int):=⟨(pk ns (k+2) 6).toNat,by omega⟩
 rw[hj]at h1 ⊢
 have:j < 6:=by omega
 rcases j with _ | _ | _ | _ | _ | _ | j<;>first | (simp;done) | (simp;omega) | omega
theorem qO (ns:List Int):∀ n k,(dt ns n k).dep≤n
 | 0,k=>Nat.le_refl _
 | n+1,k=>by
  rw[dt]
  have h1:=qO ns n
  split
  ·exact Nat.zero_le _
  ·split
   ·have:=h1 (k+3);simp only[Q.dep];omega
   ·have a:=h1 (5*k+7);have b:=h1 (5*k+18);have c:=h1 (5*k+29);have d:=h1 (5*k+40);simp only[Q.dep];omega
theorem qP (ns:List Int):∀ n k,(dt ns n k).All W9
 | 0,k=>nO ns k
 | n+1,k=>by
  rw[dt]
  have h1:=qP ns n
  split
  ·exact nO ns k
  ·split
   ·exact⟨h1 _,h1 _,h1 _,h1 _⟩
   ·exact⟨h1 _,h1 _,h1 _,h1 _⟩
theorem lY {n:Nat}(hn:2≤n)(ns:List Int)(k:Nat):((((dAdd (.int (k:Int)) (.int 1)).bind fun x=>pf n F.ac [scr ns,x,(.int 10)]).bind fun x1=>.ok (.lst [(.int 0),(.int 1),(.int 1),(.int 2),(.int 9),x1])).bind fun x2=>((dAdd (.int (k:Int)) (.int 2)).bind fun x3=>pf n F.ac [scr ns,x3,(.int 6)]).bind fun x4=>dIx x2 x4)=.ok (.int (dleaf ns k)):=by
 simp only[aJ,R.bind_ok]
 rw[dF hn ns (k+1) (by omega) (by decide),dF hn ns (k+2) (by omega) (by decide)]
 simp only[R.bind_ok]
 have h0:=eE (ns:=ns) (k:=k+2) (m:=6) (by decide)
 have h1:=eF (ns:=ns) (k:=k+2) (m:=6) (by decide)
 unfold dleaf
 obtain⟨j,hj⟩:∃ j:Nat,pk ns (k+2) 6=(j:Int):=⟨(pk ns (k+2) 6).toNat,by omega⟩
 rw[hj]at h1 ⊢
 have:j < 6:=by omega
 rcases j with _ | _ | _ | _ | _ | _ | j<;>first | rfl | omega
theorem rep4 (x:D):dMul (.tup [x]) (.int 4)=.ok (.tup [x,x,x,x]):=rfl
theorem rng4:rng1 [.int 4]=.ok [.int 0,.int 1,.int 2,.int 3]:=rfl
theorem qQ (ns:List Int):∀ (s k n:Nat),s+3≤n→pf n F.au [scr ns,.int k,.int s]=.ok ((dt ns s k).d .int):=by
 intro s
 induction s with
 | zero =>
  intro k n hn
  obtain⟨n,rfl,hn⟩:=ex1 (show 2+1≤n by omega)
  rw[jN,dP,fC (by omega) ns k (by decide)]
  simp only[az]
  rw[lY (by omega)]
  simp[dt,Q.d]
 | succ s ih =>
  intro k n hn
  obtain⟨n,rfl,hn⟩:=ex1 (show s+3+1≤n by omega)
  rw[jN,dP,fC (by omega) ns k (by decide)]
  simp only[az]
  rw[lY (by omega)]
  have hs:¬ (((s+1:Nat):Int)=0):=by omega
  have hs1:((s+1:Nat):Int) - 1=(s:Int):=by omega
  have ih':∀ (a:Int) (j:Nat),a=(j:Int)→pf n F.au [scr ns,.int a,.int (s:Int)]=.ok ((dt ns s j).d .int):=fun a j e=>by subst e;exact ih j n (by omega)
  rw[dt]
  by_cases h2:pk ns k 6 < 2
  ·simp only[STP,if_true,if_false,ite_true,ite_false,reduceIte,reduceCtorEq,OPP,decide_eq_false hs,decide_eq_true h2,if_pos h2,Q.d]
  ·by_cases h3:pk ns k 6=2
   ·have e:=ih' ((k:Int)+3) (k+3) (by omega)
    simp only[STP,if_true,if_false,ite_true,ite_false,reduceIte,reduceCtorEq,OPP,decide_eq_false hs,decide_eq_false h2,decide_eq_true h3,if_neg h2,if_pos h3,hs1,e,rep4,Q.d]
   ·have step:∀ (i:Nat) ,(((dMul (.int 5) (.int (k:Int))).bind fun x9=>dAdd x9 (.int 7)).bind fun x10=>(dMul (.int 11) (.int (i:Int))).bind fun x11=>dAdd x10 x11).bind (fun x12=>pf n F.au [scr ns,x12,.int (s:Int)])=.ok ((dt ns s (5*k+7+11*i)).d .int):=fun i=>by
     rw[b9 (.inr (by decide)),b9 (.inr (by decide))]
     simp only[R.bind_ok,aJ]
     exact ih' _ _ (by omega)
    have e:cMap (fun vP=>(((dMul (.int 5) (.int (k:Int))).bind fun x9=>dAdd x9 (.int 7)).bind fun x10=>(dMul (.int 11) vP).bind fun x11=>dAdd x10 x11).bind fun x12=>pf n F.au [scr ns,x12,.int (s:Int)]) [.int 0,.int 1,.int 2,.int 3]=.ok (.lst [(dt ns s (5*k+7)).d .int,(dt ns s (5*k+18)).d .int,(dt ns s (5*k+29)).d .int,(dt ns s (5*k+40)).d .int]):=cMap4 (step 0) (step 1) (step 2) (step 3)
    simp only[STP,if_true,if_false,ite_true,ite_false,reduceIte,reduceCtorEq,OPP,decide_eq_false hs,decide_eq_false h2,decide_eq_false h3,if_neg h2,if_neg h3,hs1,rng4]
    rw[e]
    rfl
structure Pc (sz:Nat)(t:Q Int):Prop where
 h3:sz≤3
 dep:t.dep≤sz
 all:t.All W9
def picD (sz:Nat)(t:Q Int):D:=.tup [.int (sz:Int),t.d .int]
theorem sS (ns:List Int)(k most n:Nat)(hm:most≤3)(hn:7≤n):∃ sz t,sz≤most∧Pc sz t∧pf n F.aF [scr ns,.int k,.int most]=.ok (picD sz t):=by
 obtain⟨n,rfl,hn⟩:=ex1 (show 6+1≤n by omega)
 have h0:=eE (ns:=ns) (k:=k) (m:=7) (by decide)
 have h1:=eF (ns:=ns) (k:=k) (m:=7) (by decide)
 obtain⟨j,hj⟩:∃ j:Nat,pk ns k 7=(j:Int):=⟨(pk ns k 7).toNat,by omega⟩
 rw[hj]at h1
 have hj7:j < 7:=by omega
 obtain⟨c,hc3,hc⟩:∃ c:Nat,c≤3∧dIx (.lst [(.int 0),(.int 0),(.int 0),(.int 1),(.int 1),(.int 2),(.int 3)]) (.int (j:Int))=.ok (.int (c:Int)):=by
  rcases j with _ | _ | _ | _ | _ | _ | _ | j
  ·exact⟨0,by omega,rfl⟩
  ·exact⟨0,by omega,rfl⟩
  ·exact⟨0,by omega,rfl⟩
  ·exact⟨1,by omega,rfl⟩
  ·exact⟨1,by omega,rfl⟩
  ·exact⟨2,by omega,rfl⟩
  ·exact⟨3,by omega,rfl⟩
  ·omega
 refine⟨most - c,dt ns (most - c) (k+1),by omega,⟨by omega,qO _ _ _,qP _ _ _⟩,?_⟩
 have hx:dMax2 [.int 0,.int ((most:Int) - (c:Int))]=.ok (.int ((most - c:Nat):Int)):=by
  show R.ok (D.int (if (most:Int) - c > 0 then (most:Int) - c else 0))=_
  congr 2
  split<;>omega
 rw[ku,cN,fC (by omega) ns k (by decide),R.bind_ok,hj,hc]
 simp only[R.bind_ok,aZ,hx,az,aJ]
 have e:((k:Int)+1)=((k+1:Nat):Int):=by omega
 rw[e,qQ ns (most - c) (k+1) n (by omega)]
 rfl
end Lw
end
section
namespace Lw
open PySem FF
section
variable {α:Type}[DecidableEq α]{e:α→D}
theorem cO:∀ {n m:Nat} {d:D},good n d=true→n≤m→good m d=true
 | n,m,.non,_,_=>by cases m<;>rfl
 | n,m,.bl _,_,_=>by cases m<;>rfl
 | n,m,.int _,_,_=>by cases m<;>rfl
 | n,m,.str _,_,_=>by cases m<;>rfl
 | n,m,.exc _,h,_=>by cases n<;>simp[good]at h
 | n,m,.fn _,h,_=>by cases n<;>simp[good]at h
 | 0,m,.tup _,h,_=>by simp[good]at h
 | 0,m,.lst _,h,_=>by simp[good]at h
 | n+1,0,.tup _,_,l=>by omega
 | n+1,0,.lst _,_,l=>by omega
 | n+1,m+1,.tup xs,h,l=>by
  rw[good]at h ⊢
  exact bo fun d hd=>cO (n:=n) (cp h d hd) (by omega)
 | n+1,m+1,.lst xs,h,l=>by
  rw[good]at h ⊢
  exact bo fun d hd=>cO (n:=n) (cp h d hd) (by omega)
theorem uV (E:En e){n:Nat}(hn:1≤n){a b c d:Q α}(ha:a.dep≤50)(hb:b.dep≤50)(hc:c.dep≤50)(hd:d.dep≤50):pf n F.aC [.tup [a.d e,b.d e,c.d e,d.d e]]=.ok ((put4 a b c d).d e):=by
 obtain⟨n,rfl,hn⟩:=ex1 hn
 rw[gJ,bE]
 cases a with
 | nd a1 a2 a3 a4=>simp only[STP,if_true,if_false,ite_true,ite_false,reduceIte,reduceCtorEq,OPP,Q.d,put4]
 | lf v =>
  have e1:dIsA qTup (Q.d e (.lf v))=.ok (.bl false):=cF (E.tup v) (cE (E.gd 0 v))
  have gv:good 59 (e v)=true:=E.gd 59 v
  have e2:dEq (.tup [Q.d e (.lf v),b.d e,c.d e,d.d e]) (.tup [Q.d e (.lf v),Q.d e (.lf v),Q.d e (.lf v),Q.d e (.lf v)])=.ok (.bl (decide (b=.lf v)&&(decide (c=.lf v)&&decide (d=.lf v)))):=by
   rw[iX]
   ·rw[eqD,eqDs,eqDs,eqDs,eqDs,eqDs,Q.eqd E,Q.eqd E,Q.eqd E,Q.eqd E]
    simp
   ·rw[good,goods,goods,goods,goods,goods,cO (Q.gd E 50 b hb) (by decide),cO (Q.gd E 50 c hc) (by decide),cO (Q.gd E 50 d hd) (by decide),Q.d,gv]
    rfl
   ·rw[good,goods,goods,goods,goods,goods,Q.d,gv]
    rfl
  simp only[STP,if_true,if_false,ite_true,ite_false,reduceIte,reduceCtorEq,OPP,e1,e2]
  unfold put4
  by_cases hb':b=.lf v
  ·by_cases hc':c=.lf v
   ·by_cases hd':d=.lf v
    ·simp[hb',hc',hd']
    ·simp[hb',hc',hd',Q.d]
   ·simp[hb',hc',Q.d]
  ·simp[hb',Q.d]
theorem d7 (E:En e):∀ (t:Q α) (n:Nat),t.dep≤40→t.dep+2≤n→pf n F.ar [t.d e]=.ok (t.lean.d e)
 | .lf a,n,_,hn=>by
  obtain⟨n,rfl,hn⟩:=ex1 (show 1+1≤n by omega)
  rw[fk,bY]
  have e1:dIsA qTup (Q.d e (.lf a))=.ok (.bl false):=cF (E.tup a) (cE (E.gd 0 a))
  simp only[STP,if_true,if_false,ite_true,ite_false,reduceIte,reduceCtorEq,e1,Q.lean]
 | .nd a b c d,n,hd,hn=>by
  have hd':1+max (max a.dep b.dep) (max c.dep d.dep)≤40:=hd
  have hn':1+max (max a.dep b.dep) (max c.dep d.dep)+2≤n:=hn
  obtain⟨n,rfl,hn⟩:=ex1 (show max (max a.dep b.dep) (max c.dep d.dep)+2+1≤n by omega)
  rw[fk,bY]
  have ka:=d7 E a n (by omega) (by omega)
  have kb:=d7 E b n (by omega) (by omega)
  have kc:=d7 E c n (by omega) (by omega)
  have kd:=d7 E d n (by omega) (by omega)
  have hm:cMap (fun part=>pf n F.ar [part]) [a.d e,b.d e,c.d e,d.d e]=.ok (.lst [a.lean.d e,b.lean.d e,c.lean.d e,d.lean.d e]):=cMap4 ka kb kc kd
  have hp:=uV E (n:=n) (by omega) (a:=a.lean) (b:=b.lean) (c:=c.lean) (d:=d.lean) (fA (n:=50) (by omega)) (fA (n:=50) (by omega)) (fA (n:=50) (by omega)) (fA (n:=50) (by omega))
  rw[Q.d]
  simp only[STP,if_true,if_false,ite_true,ite_false,reduceIte,reduceCtorEq,OPP,sq4,hm,hp,Q.lean]
theorem nP:∀ {n:Nat} {d:D},isTup d=false→isLst d=false→slim n d=true
 | 0,d,_,_=>by cases d<;>rfl
 | n+1,d,h,h'=>by cases d<;>first | rfl | (cases h;done) | (cases h';done)
theorem i0 (hl:∀ a,isLst (e a)=false)(E:En e):∀ (n:Nat) (t:Q α),slim n (t.d e)=true
 | n,.lf a=>nP (E.tup a) (hl a)
 | 0,.nd ..=>rfl
 | n+1,.nd a b c d=>by
  rw[Q.d,Lw.slim]
  simp only[List.all_cons,List.all_nil,i0 hl E n a,i0 hl E n b,i0 hl E n c,i0 hl E n d,List.length_cons,List.length_nil]
  rfl
theorem i4 {p:D→Bool}(E:En e):∀ (m:Nat) (s:Nat) (t:Q α),t.dep≤m→t.dep≤s→t.All (fun a=>p (e a)=true)→treeOk p m s (t.d e)=true
 | m,s,.lf a,_,_,h=>by
  have:treeOk p m s (e a)=p (e a):=by
   have:=E.tup a
   cases m with
   | zero=>cases e a<;>rfl
   | succ m=>cases q:e a<;>first | rfl | (rw[q]at this;cases this)
  exact this.trans h
 | 0,s,.nd a b c d,h,_,_=>by simp[Q.dep]at h
 | m+1,0,.nd a b c d,_,h,_=>by simp[Q.dep]at h
 | m+1,s+1,.nd a b c d,h,h',hall=>by
  have h1:1+max (max a.dep b.dep) (max c.dep d.dep)≤m+1:=h
  have h2:1+max (max a.dep b.dep) (max c.dep d.dep)≤s+1:=h'
  rw[Q.d,Lw.treeOk,show ((s+1:Nat):Int) - 1=(s:Int) by omega]
  have h0:((s+1:Nat):Int)≠0:=by omega
  simp only[List.all_cons,List.all_nil,i4 E m s a (by omega) (by omega) hall.1,i4 E m s b (by omega) (by omega) hall.2.1,i4 E m s c (by omega) (by omega) hall.2.2.1,i4 E m s d (by omega) (by omega) hall.2.2.2,List.length_cons,List.length_nil,decide_eq_true h0]
  rfl
end
theorem fD {α:Type}{p q:α→Prop}(h:∀ a,p a→q a):∀ {t:Q α},t.All p→t.All q
 | .lf a,x=>h a x
 | .nd _ _ _ _,x=>⟨fD h x.1,fD h x.2.1,fD h x.2.2.1,fD h x.2.2.2⟩
theorem in9 {v:Int}(h:W9 v):inTo 9 (.int v)=true:=by simp[inTo,h.1,h.2]
theorem qR:fvL.contains F.ao=true:=by decide
theorem qS {n m:Nat}{d:D}(hg:good (m+1) d=true)(hs:slim (m+1) d=true)(hn:m+5≤n):pf n F.aI [d]=.ok (.bl (sizedOk (inTo 9) m d)):=by
 obtain⟨n,rfl,hn⟩:=ex1 (show m+4+1≤n by omega)
 rw[jn,cg,qN (c:=2) (p:=inTo 9) (by decide) qR (fun m d h1 h2=>qM h1 h2) m n d hg hs (by omega)]
 rfl
theorem jU {n m:Nat}{d:D}(hg:good (m+1) d=true)(hs:slim (m+1) d=true)(hn:m+6≤n):pf n F.ab [d]=if sizedOk (inTo 9) m d=true then .ok .non else .err 1:=by
 obtain⟨n,rfl,hn⟩:=ex1 (show m+5+1≤n by omega)
 rw[fU,br,qS hg hs (by omega)]
 cases sizedOk (inTo 9) m d<;>rfl
section
variable {sz:Nat}{t:Q Int}
theorem Pc.good (p:Pc sz t):good 4 (picD sz t)=true:=by
 unfold picD
 rw[FF.good,goods,goods,goods,Q.gd En.int 3 t (Nat.le_trans p.dep p.h3)]
 rfl
theorem Pc.slim (p:Pc sz t):slim 4 (picD sz t)=true:=by
 unfold picD
 rw[Lw.slim]
 simp only[List.all_cons,List.all_nil,i0 (fun _=>rfl) En.int,nP (d:=.int (sz:Int)) rfl rfl,List.length_cons,List.length_nil]
 rfl
theorem Pc.sized (p:Pc sz t):sizedOk (inTo 9) 3 (picD sz t)=true:=by
 have h3:=p.h3
 have h1:inTo 3 (.int (sz:Int))=true:=by simp[inTo];omega
 unfold picD sizedOk
 simp only[h1,i4 En.int 3 sz t (Nat.le_trans p.dep p.h3) p.dep (fD (fun a h=>in9 h) p.all)]
 rfl
theorem Pc.check (p:Pc sz t){n:Nat}(hn:9≤n):pf n F.ab [picD sz t]=.ok .non:=by rw[jU p.good p.slim hn,p.sized];rfl
theorem Pc.lean (p:Pc sz t){n:Nat}(hn:10≤n):pf n F.aJ [picD sz t]=.ok (picD sz (T (t.at sz) sz)):=by
 obtain⟨n,rfl,hn⟩:=ex1 (show 9+1≤n by omega)
 have h3:=p.h3
 have hd:=p.dep
 have e1:=p.check (n:=n) (by omega)
 have e2:=d7 En.int t n (by omega) (by omega)
 rw[nM,iC,e1,← gq sz t p.dep]
 unfold picD
 simp only[STP,if_true,if_false,ite_true,ite_false,reduceIte,reduceCtorEq,OPP,e2]
theorem pc_T {f:Nat→Nat→Int}(h3:sz≤3)(h:∀ x y,x < 2^sz→y < 2^sz→W9 (f x y)):Pc sz (T f sz):=⟨h3,iV sz f,lV sz f h⟩
theorem Pc.at (p:Pc sz t)(x y:Nat):W9 (t.at sz x y):=gp sz t x y p.all
end
end Lw
end
section
namespace Lw
open PySem FF
section
variable {α:Type}[DecidableEq α]{e:α→D}
theorem p8 {s:Nat}(h:s≤3):2^s≤8:=by
 have:s=0∨s=1∨s=2∨s=3:=by omega
 rcases this with rfl | rfl | rfl | rfl<;>decide
theorem pos2 (s:Nat):0 < 2^s:=Nat.pow_pos (by decide)
theorem i5 {a b:Nat}(h0:0 < b)(h1:b < 1073741824):dDiv (.int (a:Int)) (.int (b:Int))=.ok (.int ((a/b:Nat):Int)):=by
 rw[lW (by omega) (by omega)];rfl
end
def rowT {α:Type}(e:α→D)(f:Nat→Nat→α)(w y:Nat):D:=.tup ((List.range w).map fun x=>e (f x y))
def rowsT {α:Type}(e:α→D)(f:Nat→Nat→α)(w h:Nat):D:=.tup ((List.range h).map fun y=>rowT e f w y)
theorem bL {s:Nat}(h:s≤16777216):rng1 [.int (s:Int)]=.ok ((List.range s).map fun i=>D.int ((i:Nat):Int)):=by
 show (if -16777216≤(s:Int)∧(s:Int)≤16777216 then R.ok (rngD 0 (s:Int).toNat) else R.stuck)=_
 rw[if_pos ⟨by omega,by omega⟩]
 unfold rngD
 simp
theorem m8 {α:Type}{e:α→D}{f g:Nat→Nat→α}{w y:Nat}(h:∀ x,x < w→f x y=g x y):rowT e f w y=rowT e g w y:=by
 unfold rowT
 congr 1
 exact List.map_congr_left fun x hx=>by rw[h x (List.mem_range.mp hx)]
theorem gF {α:Type}{e:α→D}{f g:Nat→Nat→α}{w k:Nat}(h:∀ x y,x < w→y < k→f x y=g x y):rowsT e f w k=rowsT e g w k:=by
 unfold rowsT
 congr 1
 exact List.map_congr_left fun y hy=>m8 fun x hx=>h x y hx (List.mem_range.mp hy)
theorem kK {α:Type}{e:α→D}{f:Nat→Nat→α}{w x y:Nat}(h:x < w):dIx (rowT e f w y) (.int (x:Int))=.ok (e (f x y)):=ixT (by simp[h])
theorem i6 {α:Type}{e:α→D}{f:Nat→Nat→α}{w k y:Nat}(h:y < k):dIx (rowsT e f w k) (.int (y:Int))=.ok (rowT e f w y):=ixT (by simp[h])
theorem oY {α:Type}{e:α→D}(hE:∀ n a,good n (e a)=true)(f:Nat→Nat→α)(w y n:Nat):good (n+1) (rowT e f w y)=true:=by
 unfold rowT
 rw[good]
 exact bo fun d hd=>by
  obtain⟨x,_,rfl⟩:=List.mem_map.mp hd
  exact hE n _
theorem m9 {α:Type}{e:α→D}(hE:∀ n a,good n (e a)=true)(f:Nat→Nat→α)(w k n:Nat):good (n+2) (rowsT e f w k)=true:=by
 unfold rowsT
 rw[good]
 exact bo fun d hd=>by
  obtain⟨x,_,rfl⟩:=List.mem_map.mp hd
  exact oY hE f w x n
section
variable {sz:Nat}{t:Q Int}
end
end Lw
end
section
namespace Lw
open PySem FF
theorem sT (n:Nat):dDiv (.int ((2^(n+1):Nat):Int)) (.int 2)=.ok (.int ((2^n:Nat):Int)):=by
 have:=i5 (a:=2^(n+1)) (b:=2) (by decide) (by decide)
 rw[show (2^(n+1)/2:Nat)=2^n by rw[dD];omega]at this
 exact this
theorem i7 {sz:Nat}(h:sz≤3):sz=0∨sz=1∨sz=2∨sz=3:=by omega
theorem i8 {sz:Nat}(h:sz≤3):dIndexI [(.int 1),(.int 2),(.int 4),(.int 8)] [.int ((2^sz:Nat):Int)]=.ok (.int (sz:Int)):=by
 rcases i7 h with rfl | rfl | rfl | rfl<;>rfl
def Wo (f:Nat→Nat→Int)(sz:Nat):Prop:=∀ x y,x < 2^sz→y < 2^sz→W9 (f x y)
def rowL {α:Type}(e:α→D)(f:Nat→Nat→α)(w y:Nat):D:=.lst ((List.range w).map fun x=>e (f x y))
def rowsL {α:Type}(e:α→D)(f:Nat→Nat→α)(w h:Nat):D:=.lst ((List.range h).map fun y=>rowL e f w y)
theorem qT {α:Type}{e:α→D}{f:Nat→Nat→α}{w k y:Nat}(h:y < k):dIx (rowsL e f w k) (.int (y:Int))=.ok (rowL e f w y):=ixL (by simp[h])
theorem catL {xs ys:List D}(h:xs.length+ys.length≤16777216):dAdd (.lst xs) (.lst ys)=.ok (.lst (xs++ys)):=by
 show (if xs.length+ys.length≤16777216 then R.ok (D.lst (xs++ys)) else R.stuck)=_
 rw[if_pos h]
theorem qU {α:Type}{e:α→D}{fa fb F:Nat→Nat→α}{h y y':Nat}(ha:∀ x,x < h→F x y'=fa x y)(hb:∀ x,x < h→F (h+x) y'=fb x y):((List.range h).map fun x=>e (fa x y))++((List.range h).map fun x=>e (fb x y))=(List.range (h+h)).map fun x=>e (F x y'):=by
 rw[List.range_add,List.map_append,List.map_map]
 congr 1
 ·exact List.map_congr_left fun x hx=>by rw[ha x (List.mem_range.mp hx)]
 ·exact List.map_congr_left fun x hx=>by show _=e (F (h+x) y');rw[hb x (List.mem_range.mp hx)]
theorem qV {xs ys:List D}(h:xs.length+ys.length≤16777216):oExt xs (.lst ys)=.ok (xs++ys):=by unfold oExt;simp[h]
theorem qW {xs ys:List D}(h:xs.length+ys.length≤16777216):oExt xs (.tup ys)=.ok (xs++ys):=by unfold oExt;simp[h]
theorem sU {xs:List D}{y:D}(h:xs.length < 16777216):oApp xs y=.ok (xs++[y]):=by unfold oApp;simp[h]
section
variable {α:Type}[DecidableEq α]{e:α→D}
theorem lZ {fa fb F:Nat→Nat→α}{h o:Nat}(hh:h≤1000){some_:List D}{u:Nat}(e1:some_[u]?=some (rowsL e fa h h))(e2:some_[u+1]?=some (rowsL e fb h h))(ha:∀ x y,x < h→y < h→F x (o+y)=fa x y)(hb:∀ x y,x < h→y < h→F (h+x) (o+y)=fb x y){t:Nat→List D→R D}{made:List D}(hm:made.length≤1000) :
  cz t (.lst some_) made (.int (u:Int))=.nx (made++(List.range h).map fun y=>rowL e F (h+h) (o+y)):=by
 have i1:=ixL e1
 have i2:dIx (.lst some_) (.int ((u:Int)+1))=.ok (rowsL e fb h h):=by have:=ixL e2;rw[show ((u+1:Nat):Int)=(u:Int)+1 by omega]at this;exact this
 have hl:dLen [rowsL e fa h h]=.ok (.int (h:Int)):=by unfold rowsL;rw[iW,List.length_map,List.length_range]
 have hc:cMap (fun vP=>((dIx (.lst some_) (.int (u:Int))).bind fun x2=>dIx x2 vP).bind fun x3=>(((dAdd (.int (u:Int)) (.int 1)).bind fun x4=>dIx (.lst some_) x4).bind fun x5=>dIx x5 vP).bind fun x6=>dAdd x3 x6) ((List.range h).map fun i=>D.int ((i:Nat):Int))=.ok (.lst ((List.range h).map fun y=>rowL e F (h+h) (o+y))) :=
  bt _ _ fun y hy=>by
   have hy:=List.mem_range.mp hy
   rw[i1]
   simp only[STP,if_true,if_false,ite_true,ite_false,reduceIte,reduceCtorEq,OPP,i2,qT hy]
   unfold rowL
   rw[catL (by simp;omega),qU (F:=F) (y':=o+y) (fun x hx=>ha x y hx hy) (fun x hx=>hb x y hx hy)]
 unfold cz
 rw[i1]
 simp only[STP,if_true,if_false,ite_true,ite_false,reduceIte,reduceCtorEq,hl,bL (show h≤16777216 by omega)]
 rw[i1]at hc
 simp only[STP,if_true,if_false,ite_true,ite_false,reduceIte,reduceCtorEq]at hc
 simp only[STP,if_true,if_false,ite_true,ite_false,reduceIte,reduceCtorEq,hc]
 rw[qV (by simp;omega)]
 rfl
theorem cG (E:En e):∀ (s:Nat) (t:Q α) (n:Nat),s≤3→t.dep≤s→s+1≤n→pf n F.av [.int (s:Int),t.d e]=.ok (rowsL e (t.at s) (2^s) (2^s))
 | 0,t,n,_,hd,hn=>by
  obtain⟨n,rfl,hn⟩:=ex1 (show 0+1≤n by omega)
  rw[fo,b5,show ((0:Nat):Int)=0 from rfl]
  simp only[STP,if_true,if_false,ite_true,ite_false,reduceIte,reduceCtorEq,OPP,decide_true]
  cases t with
  | lf a=>rfl
  | nd=>simp[Q.dep]at hd
 | s+1,t,n,h3,hd,hn=>by
  obtain⟨n,rfl,hn⟩:=ex1 (show s+1+1≤n by omega)
  have e0:¬ (((s+1:Nat):Int)=0):=by omega
  have e1:((s+1:Nat):Int) - 1=(s:Int):=by omega
  have h8:=p8 (show s≤3 by omega)
  obtain⟨a,b,c,d,hq,ha,hb,hc,hd4,hF⟩:∃ a b c d:Q α,(rIf (asB (dIsA qTup (t.d e))) (.ok (t.d e)) (dMul (.tup [t.d e]) (.int 4)))=.ok (.tup [a.d e,b.d e,c.d e,d.d e])∧a.dep≤s∧b.dep≤s∧c.dep≤s∧d.dep≤s∧∀ x y,t.at (s+1) x y=(Q.nd a b c d).at (s+1) x y:=by
   cases t with
   | lf v =>
    refine⟨.lf v,.lf v,.lf v,.lf v,?_,Nat.zero_le _,Nat.zero_le _,Nat.zero_le _,Nat.zero_le _,fun x y=>by simp[Q.at]⟩
    rw[cF (d:=Q.d e (.lf v)) (E.tup v) (cE (E.gd 0 v))]
    rfl
   | nd a b c d =>
    have hd':1+max (max a.dep b.dep) (max c.dep d.dep)≤s+1:=hd
    exact⟨a,b,c,d,rfl,by omega,by omega,by omega,by omega,fun _ _=>rfl⟩
  have ka:=cG E s a n (by omega) ha (by omega)
  have kb:=cG E s b n (by omega) hb (by omega)
  have kc:=cG E s c n (by omega) hc (by omega)
  have kd:=cG E s d n (by omega) hd4 (by omega)
  have hm:cMap (fun vT=>(dSub (.int ((s+1:Nat):Int)) (.int 1)).bind fun x=>pf n F.av [x,vT]) [a.d e,b.d e,c.d e,d.d e]=.ok (.lst [rowsL e (a.at s) (2^s) (2^s),rowsL e (b.at s) (2^s) (2^s),rowsL e (c.at s) (2^s) (2^s),rowsL e (d.at s) (2^s) (2^s)]):=by
   rw[aZ,e1];exact cMap4 ka kb kc kd
  have u1:=lZ (e:=e) (fa:=a.at s) (fb:=b.at s) (F:=t.at (s+1)) (h:=2^s) (o:=0) (by omega) (some_:=[rowsL e (a.at s) (2^s) (2^s),rowsL e (b.at s) (2^s) (2^s),rowsL e (c.at s) (2^s) (2^s),rowsL e (d.at s) (2^s) (2^s)]) (u:=0) rfl rfl
   (fun x y hx hy=>by rw[hF,Q.at,if_pos (by omega),if_pos hx,Nat.zero_add]) (fun x y hx hy=>by rw[hF,Q.at,if_pos (by omega),if_neg (by omega),Nat.zero_add,Nat.add_sub_cancel_left]) (t:=pf n) (made:=[]) (by simp)
  have u2:=lZ (e:=e) (fa:=c.at s) (fb:=d.at s) (F:=t.at (s+1)) (h:=2^s) (o:=2^s) (by omega) (some_:=[rowsL e (a.at s) (2^s) (2^s),rowsL e (b.at s) (2^s) (2^s),rowsL e (c.at s) (2^s) (2^s),rowsL e (d.at s) (2^s) (2^s)]) (u:=2) rfl rfl
   (fun x y hx hy=>by rw[hF,Q.at,if_neg (by omega),if_pos hx,Nat.add_sub_cancel_left]) (fun x y hx hy=>by rw[hF,Q.at,if_neg (by omega),if_neg (by omega),Nat.add_sub_cancel_left,Nat.add_sub_cancel_left]) (t:=pf n) (made:=(List.range (2^s)).map fun y=>rowL e (t.at (s+1)) (2^s+2^s) (0+y)) (by simp;omega)
  rw[fo,b5,hq]
  have hs2:sq (.tup [(.int 0),(.int 2)])=.ok [.int 0,.int 2]:=rfl
  rw[show ((0:Nat):Int)=0 from rfl]at u1
  rw[show ((2:Nat):Int)=2 from rfl]at u2
  simp only[STP,if_true,if_false,ite_true,ite_false,reduceIte,reduceCtorEq,OPP,decide_eq_false e0,sq4,e1,hs2,a6,iw]at hm ⊢
  simp only[STP,if_true,if_false,ite_true,ite_false,reduceIte,reduceCtorEq,hm,u1,List.nil_append]at u2 ⊢
  simp only[STP,if_true,if_false,ite_true,ite_false,reduceIte,reduceCtorEq,u2]
  unfold rowsL
  rw[dD,List.range_add,List.map_append,List.map_map]
  simp[Function.comp_def]
end
theorem Pc.lrows {sz:Nat}{t:Q Int}(p:Pc sz t){n:Nat}(hn:5≤n):pf n F.aN [picD sz t]=.ok (rowsT .int (t.at sz) (2^sz) (2^sz)):=by
 obtain⟨n,rfl,hn⟩:=ex1 (show 4+1≤n by omega)
 have h3:=p.h3
 have h8:=p8 h3
 have e1:=cG En.int sz t n h3 p.dep (by omega)
 have hsq:sq (rowsL .int (t.at sz) (2^sz) (2^sz))=.ok ((List.range (2^sz)).map fun y=>rowL .int (t.at sz) (2^sz) y):=m6 (by simp;omega)
 have hm:cMap (fun vZ=>dTuple [vZ]) ((List.range (2^sz)).map fun y=>rowL .int (t.at sz) (2^sz) y)=.ok (.lst ((List.range (2^sz)).map fun y=>rowT .int (t.at sz) (2^sz) y)):=bt _ _ fun y _=>rfl
 rw[oI,fi]
 unfold picD
 simp only[STP,if_true,if_false,ite_true,ite_false,reduceIte,reduceCtorEq,OPP,e1,hsq,hm]
 rfl
end Lw
end
section
namespace Lw
open PySem FF
theorem l0 {α:Type}(c:α→D){step:List D→D→L (List D)}(g:α→List D)(m:Nat):∀ (l:List α) (acc:List D),(∀ a∈l,∀ acc:List D,acc.length≤10000→step acc (c a)=.nx (acc++g a))→(∀ a∈l,(g a).length≤m)→acc.length+l.length*m≤10000→lFor step (l.map c) acc=.nx (acc++l.flatMap g)
 | [],acc,_,_,_=>by simp
 | a::l,acc,h,hm,hl=>by
  have hl':acc.length+(l.length+1)*m≤10000:=hl
  rw[Nat.add_mul]at hl'
  have ha:=hm a (.head _)
  rw[List.map_cons,a6,h a (.head _) acc (by omega),bM,l0 c g m l (acc++g a) (fun b hb=>h b (.tail _ hb)) (fun b hb=>hm b (.tail _ hb)) (by rw[List.length_append];omega),List.flatMap_cons,List.append_assoc]
theorem i9:∀ is:List Int,intsOf (is.map .int)=some is
 | []=>rfl
 | i::r=>by rw[List.map_cons,intsOf,i9 r];rfl
def vals (f:Nat→Nat→Int)(w k:Nat):List Int:=(List.range k).flatMap fun y=>(List.range w).map fun x=>f x y
theorem qX (f:Nat→Nat→Int)(w k:Nat):(vals f w k).length=k*w:=by
 unfold vals
 rw[List.length_flatMap]
 have:∀ l:List Nat,(l.map fun y=>((List.range w).map fun x=>f x y).length).sum=l.length*w:=fun l=>by
  induction l with
  | nil=>simp
  | cons a l ih=>rw[List.map_cons,List.sum_cons,ih,List.length_map,List.length_range,List.length_cons,Nat.add_mul];omega
 rw[this,List.length_range]
theorem l3 {f:Nat→Nat→Int}{w k:Nat}{v:Int}:v∈vals f w k↔∃ x y,x < w∧y < k∧v=f x y:=by
 unfold vals
 simp only[List.mem_flatMap,List.mem_map,List.mem_range]
 constructor
 ·rintro ⟨y,hy,x,hx,rfl⟩;exact⟨x,y,hx,hy,rfl⟩
 ·rintro ⟨x,y,hx,hy,rfl⟩;exact⟨y,hy,x,hx,rfl⟩
theorem qY:∀ {l:List Int},l.eraseDups.length=1↔∃ a r,l=a::r∧∀ v∈l,v=a
 | []=>by simp
 | a::r=>by
  rw[List.eraseDups_cons]
  constructor
  ·intro h
   have h0:(r.filter fun b=>!b==a).eraseDups=[]:=List.length_eq_zero_iff.mp (by simpa using h)
   have h1:(r.filter fun b=>!b==a)=[]:=by
    cases q:(r.filter fun b=>!b==a) with
    | nil=>rfl
    | cons b s=>rw[q,List.eraseDups_cons]at h0;cases h0
   refine⟨a,r,rfl,fun v hv=>?_⟩
   cases hv with
   | head=>rfl
   | tail _ hv =>
    rw[List.filter_eq_nil_iff]at h1
    simpa using h1 v hv
  ·rintro ⟨a',r',e,h⟩
   cases e
   have:(r.filter fun b=>!b==a)=[]:=List.filter_eq_nil_iff.mpr fun v hv=>by simpa using h v (.tail _ hv)
   rw[this];rfl
theorem jV {f:Nat→Nat→Int}{w k:Nat}(hw:0 < w)(hk:0 < k):∃ r,vals f w k=f 0 0::r:=by
 obtain⟨w,rfl⟩:∃ m,w=m+1:=⟨w - 1,by omega⟩
 obtain⟨k,rfl⟩:∃ m,k=m+1:=⟨k - 1,by omega⟩
 unfold vals
 rw[List.range_succ_eq_map (n:=k),List.flatMap_cons,List.range_succ_eq_map (n:=w),List.map_cons]
 exact⟨_,rfl⟩
theorem qZ {f:Nat→Nat→Int}{w k:Nat}(hw:0 < w)(hk:0 < k):(vals f w k).eraseDups.length=1↔∀ x y,x < w→y < k→f x y=f 0 0:=by
 rw[qY]
 obtain⟨r,hr⟩:=jV (f:=f) hw hk
 constructor
 ·rintro ⟨a,r',e,h⟩ x y hx hy
  rw[hr]at e
  cases e
  exact h _ (l3.mpr ⟨x,y,hx,hy,rfl⟩)
 ·intro h
  refine⟨_,r,hr,fun v hv=>?_⟩
  obtain⟨x,y,hx,hy,rfl⟩:=l3.mp hv
  exact h x y hx hy
theorem T_nd {α:Type}[DecidableEq α]{n:Nat}{f:Nat→Nat→α}(h:¬ ∀ x y,x < 2^(n+1)→y < 2^(n+1)→f x y=f 0 0):T f (n+1)=.nd (T f n) (T (sh f (2^n) 0) n) (T (sh f 0 (2^n)) n) (T (sh f (2^n) (2^n)) n):=by
 by_cases q:∃ v,T f (n+1)=.lf v
 ·obtain⟨v,q⟩:=q
  exfalso
  apply h
  intro x y hx hy
  have:=T_at (n+1) f x y hx hy
  rw[q,lU]at this
  have h0:=T_at (n+1) f 0 0 (pos2 _) (pos2 _)
  rw[q,lU]at h0
  rw[← this,h0]
 ·rw[T]at q ⊢
  unfold put4 at q ⊢
  split
  ·rename_i v e
   split
   ·rename_i h';exfalso;apply q;rw[e];simp only;rw[if_pos h'];exact⟨v,rfl⟩
   ·rw[e]
  ·rfl
theorem g5 {n d k:Nat}(h:k≤n):HT.sIx n d (some ((k:Nat):Int))=k:=by
 unfold HT.sIx
 simp only
 rw[if_neg (by omega)]
 rw[Int.toNat_natCast]
 omega
theorem jW {g:Nat→D}{w a h:Nat}(hw:a+h≤w):cutD ((List.range w).map g) (some ((a:Nat):Int)) (some ((a+h:Nat):Int))=(List.range h).map fun i=>g (a+i):=by
 unfold cutD
 rw[List.length_map,List.length_range,g5 (by omega),g5 (by omega),← List.map_drop,← List.map_take]
 have:((List.range w).drop a).take (a+h - a)=(List.range h).map (a + ·):=by
  rw[show a+h - a=h by omega]
  apply List.ext_getElem?
  intro i
  rw[List.getElem?_take]
  by_cases hi:i < h
  ·rw[if_pos hi,List.getElem?_drop,List.getElem?_range (by omega),List.getElem?_map,List.getElem?_range hi];rfl
  ·rw[if_neg hi,List.getElem?_eq_none (by simp;omega)]
 rw[this,List.map_map]
 rfl
def seqD (b:Bool)(xs:List D):D:=if b then .tup xs else .lst xs
theorem na {b:Bool}{xs:List D}(h:xs.length≤16777216):sq (seqD b xs)=.ok xs:=by cases b;exact m6 h;exact eU h
theorem sV {b:Bool}{xs:List D}{lo hi:Option Int}:dSw (seqD b xs) lo hi=.ok (seqD b (cutD xs lo hi)):=by cases b<;>rfl
theorem l4 {b:Bool}{xs:List D}:dLen [seqD b xs]=.ok (.int xs.length):=by cases b<;>rfl
def rowsS {α:Type}(b:Bool)(e:α→D)(f:Nat→Nat→α)(w h:Nat):D:=seqD b ((List.range h).map fun y=>rowT e f w y)
theorem oZ:∀ (n:Nat) (b:Bool) (f:Nat→Nat→Int) (k:Nat),n≤3→n+1≤k→pf k F.aM [rowsS b .int f (2^n) (2^n)]=.ok ((T f n).d .int):=by
 have flat:∀ (b:Bool) (f:Nat→Nat→Int) (s:Nat) (t:Nat→List D→R D),s≤8→lFor (τ:=List D) (fun s x=>ci t s x) ((List.range s).map fun y=>rowT .int f s y) []=.nx ((vals f s s).map .int):=fun b f s t hs=>by
  have h8:s*s≤64:=Nat.mul_le_mul hs hs
  have:=l0 (fun y=>rowT .int f s y) (step:=fun s x=>ci t s x) (fun y=>(List.range s).map fun x=>D.int (f x y)) s (List.range s) [] (fun y hy acc ha=>by
   unfold ci rowT
   rw[qW (by simp;omega)]
   rfl) (fun y hy=>by simp) (by simp;omega)
  rw[this]
  unfold vals
  simp[List.map_flatMap,Function.comp_def]
 intro n
 induction n with
 | zero =>
  intro b f k _ hk
  obtain⟨k,rfl,hk⟩:=ex1 (show 0+1≤k by omega)
  have hf:=flat b f 1 (pf k) (by decide)
  rw[iH,db]
  unfold rowsS
  rw[show (2^0:Nat)=1 from rfl,na (by simp),az,hf]
  rfl
 | succ n ih =>
  intro b f k h3 hk
  obtain⟨k,rfl,hk⟩:=ex1 (show n+1+1≤k by omega)
  have h8:=p8 h3
  have hp:=pos2 (n+1)
  have hq:=pos2 n
  have hd:=dD n
  have hf:=flat b f (2^(n+1)) (pf k) h8
  have hls:dLenSet [.lst ((vals f (2^(n+1)) (2^(n+1))).map .int)]=.ok (.int ((vals f (2^(n+1)) (2^(n+1))).eraseDups.length:Nat)):=by
   have hl:(vals f (2^(n+1)) (2^(n+1))).length≤4000:=by
    rw[qX];have:=Nat.mul_le_mul h8 h8;omega
   unfold dLenSet;simp only[i9];rw[if_pos hl]
  have hv:=qZ (f:=f) hp hp
  obtain⟨r,hr⟩:=jV (f:=f) hp hp
  have hsq:sq (rowsS b .int f (2^(n+1)) (2^(n+1)))=.ok ((List.range (2^(n+1))).map fun y=>rowT .int f (2^(n+1)) y):=na (by simp;omega)
  have hln:dLen [rowsS b .int f (2^(n+1)) (2^(n+1))]=.ok (.int ((2^(n+1):Nat):Int)):=by unfold rowsS;rw[l4];simp
  rw[iH,db]
  by_cases hall:∀ x y,x < 2^(n+1)→y < 2^(n+1)→f x y=f 0 0
  ·have h1:((vals f (2^(n+1)) (2^(n+1))).eraseDups.length:Int)=1:=by have:=hv.mpr hall;omega
   have h2:dIx (.lst ((vals f (2^(n+1)) (2^(n+1))).map .int)) (.int 0)=.ok (.int (f 0 0)):=by
    have:=ixL (xs:=(vals f (2^(n+1)) (2^(n+1))).map .int) (i:=0) (x:=.int (f 0 0)) (by rw[hr];rfl)
    exact this
   have h3:T f (n+1)=.lf (f 0 0):=(aS _ _ _ hall).trans (kH _ _)
   simp only[STP,if_true,if_false,ite_true,ite_false,reduceIte,reduceCtorEq,OPP,hsq,hf,hls,decide_eq_true h1,h2,h3,Q.d]
  ·have h1:¬ ((vals f (2^(n+1)) (2^(n+1))).eraseDups.length:Int)=1:=fun q=>hall (hv.mp (by omega))
   have one:∀ (tp lf:Nat) (parts:List D),tp+2^n≤2^(n+1)→lf+2^n≤2^(n+1)→parts.length≤10→dq (pf k) (rowsS b .int f (2^(n+1)) (2^(n+1))) (.int ((2^n:Nat):Int)) (.int (tp:Int)) parts (.int (lf:Int))=.nx (parts++[(T (sh f lf tp) n).d .int]):=fun tp lf parts htp hlf hpa=>by
    have c1:(tp:Int)+((2^n:Nat):Int)=((tp+2^n:Nat):Int):=by omega
    have c2:(lf:Int)+((2^n:Nat):Int)=((lf+2^n:Nat):Int):=by omega
    have ai:∀ i:Int,asI (.int i)=.ok (some i):=fun _=>rfl
    have s1:dSw (rowsS b .int f (2^(n+1)) (2^(n+1))) (some (tp:Int)) (some ((tp+2^n:Nat):Int))=.ok (seqD b ((List.range (2^n)).map fun i=>rowT .int f (2^(n+1)) (tp+i))):=by
     unfold rowsS
     rw[sV,jW htp]
    have s2:sq (seqD b ((List.range (2^n)).map fun i=>rowT .int f (2^(n+1)) (tp+i)))=.ok ((List.range (2^n)).map fun i=>rowT .int f (2^(n+1)) (tp+i)):=na (by simp;omega)
    have s3:cMap (fun vZ=>dSw vZ (some (lf:Int)) (some ((lf+2^n:Nat):Int))) ((List.range (2^n)).map fun i=>rowT .int f (2^(n+1)) (tp+i))=.ok (rowsS false .int (sh f lf tp) (2^n) (2^n)):=by
     refine(bt _ (fun i=>rowT .int (sh f lf tp) (2^n) i) fun i hi=>?_).trans rfl
     unfold rowT
     show R.ok (D.tup (cutD _ _ _))=_
     rw[jW (g:=fun x=>D.int (f x (tp+i))) hlf]
     unfold sh
     congr 2
     exact List.map_congr_left fun x _=>by rw[Nat.add_comm lf x,Nat.add_comm tp i]
    have s4:=ih false (sh f lf tp) k (by omega) (by omega)
    unfold dq
    simp only[STP,if_true,if_false,ite_true,ite_false,reduceIte,reduceCtorEq,OPP,ai,c1,c2,s1,s2,s3,s4]
    rw[sU (by omega)]
    rfl
   have pair:∀ (tp:Nat) (parts:List D),tp+2^n≤2^(n+1)→parts.length≤5→dr (pf k) (rowsS b .int f (2^(n+1)) (2^(n+1))) (.int ((2^n:Nat):Int)) parts (.int (tp:Int))=.nx (parts++[(T (sh f 0 tp) n).d .int,(T (sh f (2^n) tp) n).d .int]):=fun tp parts htp hpa=>by
    have h0:=one tp 0 parts htp (by omega) (by omega)
    have h1:=one tp (2^n) (parts++[(T (sh f 0 tp) n).d .int]) htp (by omega) (by simp;omega)
    have hs2:sq (.tup [(.int 0),(.int ((2^n:Nat):Int))])=.ok [.int 0,.int ((2^n:Nat):Int)]:=rfl
    rw[show ((0:Nat):Int)=0 from rfl]at h0
    unfold dr
    simp only[STP,if_true,if_false,ite_true,ite_false,reduceIte,reduceCtorEq,hs2,a6,iw,h0,h1,List.append_assoc,List.cons_append,List.nil_append]
   have p0:=pair 0 [] (by omega) (by simp)
   have p1:=pair (2^n) [(T (sh f 0 0) n).d .int,(T (sh f (2^n) 0) n).d .int] (by omega) (by simp)
   have hs2:sq (.tup [(.int 0),(.int ((2^n:Nat):Int))])=.ok [.int 0,.int ((2^n:Nat):Int)]:=rfl
   rw[show ((0:Nat):Int)=0 from rfl]at p0
   rw[T_nd hall]
   simp only[STP,if_true,if_false,ite_true,ite_false,reduceIte,reduceCtorEq,OPP,hsq,hf,hls,decide_eq_false h1,hln,sT,hs2,a6,iw,p0,List.nil_append,p1,List.cons_append,Q.d]
   rfl
theorem uW {n:Nat}(b:Bool)(f:Nat→Nat→Int){sz:Nat}(h3:sz≤3)(hn:5≤n):pf n F.aK [rowsS b .int f (2^sz) (2^sz)]=.ok (picD sz (T f sz)):=by
 obtain⟨n,rfl,hn⟩:=ex1 (show 4+1≤n by omega)
 have hln:dLen [rowsS b .int f (2^sz) (2^sz)]=.ok (.int ((2^sz:Nat):Int)):=by unfold rowsS;rw[l4];simp
 have e1:(onL (.lst [(.int 1),(.int 2),(.int 4),(.int 8)]) fun ls=>dIndexI ls [.int ((2^sz:Nat):Int)])=.ok (.int (sz:Int)):=i8 h3
 have e2:=oZ sz b f n h3 (by omega)
 rw[sD,kr]
 simp only[STP,if_true,if_false,ite_true,ite_false,reduceIte,reduceCtorEq,hln,e1,e2]
 rfl
theorem q9 {n:Nat}(f:Nat→Nat→Int){sz:Nat}(h3:sz≤3)(hn:5≤n):pf n F.aK [rowsT .int f (2^sz) (2^sz)]=.ok (picD sz (T f sz)):=uW true f h3 hn
end Lw
end
section
namespace Lw
open PySem FF
theorem sW {α:Type}(xs:List D)(k:List D→R α):onL (.lst xs) k=k xs:=rfl
section
variable {sz:Nat}{tr:Q Int}
end
section
variable {sz:Nat}{tr:Q Int}
end
end Lw
end
section
namespace Lw
open PySem FF
theorem gG {α τ:Type}(f:τ→α→L τ):∀ (xs ys:List α) (s:τ),lFor f (xs++ys) s=lS (lFor f xs s) fun s'=>lFor f ys s'
 | [],ys,s=>rfl
 | x::xs,ys,s=>by
  rw[List.cons_append,a6,a6]
  cases f s x with
  | nx s'=>exact gG f xs ys s'
  | rt d=>rfl
  | er k=>rfl
  | stuck=>rfl
theorem d8 {α τ:Type}{f:τ→α→L τ}(c:Nat→α)(inv:Nat→τ):∀ n,(∀ i,i < n→f (inv i) (c i)=.nx (inv (i+1)))→lFor f ((List.range n).map c) (inv 0)=.nx (inv n)
 | 0,_=>rfl
 | n+1,h=>by
  rw[List.range_succ,List.map_append,gG,d8 c inv n fun i hi=>h i (by omega),bM,List.map_cons,List.map_nil,a6,h n (by omega)]
  rfl
theorem l5 {α:Type}{f:Unit→α→L Unit}:∀ (l:List α),(∀ a∈l,f () a=.nx ())→lFor f l ()=.nx ()
 | [],_=>rfl
 | a::l,h=>by rw[a6,h a (.head _),bM];exact l5 l fun b hb=>h b (.tail _ hb)
structure Sh (sz:Nat)(g:Nat→Nat→Int)(t:Q Int):Prop where
 p:Pc sz t
 w:∀ x y,x < 2^sz→y < 2^sz→t.at sz x y=g x y
theorem Sh.wo {sz:Nat}{g:Nat→Nat→Int}{t:Q Int}(h:Sh sz g t):Wo g sz:=fun x y hx hy=>by rw[← h.w x y hx hy];exact h.p.at x y
theorem sh_T {sz:Nat}{g:Nat→Nat→Int}(h3:sz≤3)(h:Wo g sz):Sh sz g (T g sz):=⟨pc_T h3 h,fun x y hx hy=>T_at sz g x y hx hy⟩
theorem Pc.sh {sz:Nat}{t:Q Int}(p:Pc sz t):Sh sz (t.at sz) t:=⟨p,fun _ _ _ _=>rfl⟩
section
variable {sz:Nat}{g:Nat→Nat→Int}{t:Q Int}
theorem Sh.lean (q:Sh sz g t){n:Nat}(hn:10≤n):pf n F.aJ [picD sz t]=.ok (picD sz (T g sz)):=by rw[q.p.lean hn,aS sz _ _ q.w]
theorem Sh.lrows (q:Sh sz g t){n:Nat}(hn:5≤n):pf n F.aN [picD sz t]=.ok (rowsT .int g (2^sz) (2^sz)):=by rw[q.p.lrows hn,gF q.w]
end
theorem uX {xs:List D}{a:Nat}(h:a≤xs.length):cutD xs none (some ((a:Nat):Int))=xs.take a:=by
 unfold cutD
 rw[g5 h,HT.kP]
 simp
theorem l6 {xs:List D}{a:Nat}(h:a≤xs.length):cutD xs (some ((a:Nat):Int)) none=xs.drop a:=by
 unfold cutD
 rw[g5 h,HT.kP,List.take_of_length_le (by simp)]
section
variable {sz:Nat}{g:Nat→Nat→Int}{t:Q Int}
end
theorem o0:∀ {n:Nat} {d:D},good n d=true→eqD d d=true:=fun {n d} h=>FF.dL n d h
theorem cH {x:D}(h:good 60 x=true):dNf x x=.ok (.bl false):=by rw[lX h h,FF.dL 60 x h];rfl
theorem Pc.g60 {sz:Nat}{t:Q Int}(p:Pc sz t):FF.good 60 (picD sz t)=true:=cO p.good (by decide)
end Lw
end
section
namespace Lw
open PySem FF
def th (w:Nat):Nat→D→Bool
 | n+1,.tup xs=>decide (xs.length≤w)&&xs.all (th w n)
 | 0,.tup _=>false
 | _,.lst xs=>decide (xs.length≤w)&&xs.all flatD
 | _,.exc _=>false
 | _,.fn _=>false
 | _,_=>true
def kid (xs:List D)(i:Nat):D:=xs[i]?.getD .non
def places:Nat→D→List (List Nat)
 | n+1,.tup xs=>[]::(List.range xs.length).flatMap fun i=>(places n (kid xs i)).map (i::·)
 | _,_=>[[]]
def pD (p:List Nat):D:=.tup (p.map fun (i:Nat)=>.int (i:Int))
theorem nb {xs:List D}{i:Nat}(h:i < xs.length):xs[i]?=some (kid xs i):=by
 unfold kid;rw[List.getElem?_eq_getElem h];rfl
theorem cP {xs:List D}{i:Nat}(h:i < xs.length):kid xs i∈xs:=by
 have:=nb h
 exact List.mem_of_getElem? this
theorem kL {xs:List D}{i:Nat}(h:i < xs.length):dIx (.tup xs) (.int (i:Int))=.ok (kid xs i):=by
 have e:L2.atI xs (i:Int)=some (kid xs i):=by
  unfold L2.atI L2.ixN
  rw[if_pos (by omega),if_pos (by omega)]
  show xs[(i:Int).toNat]?=_
  rw[Int.toNat_natCast]
  exact nb h
 show (match L2.atI xs (i:Int) with | some d=>R.ok d | none=>R.stuck)=_
 rw[e]
theorem bc {w n:Nat}{xs:List D}:th w (n+1) (.tup xs)=true↔xs.length≤w∧∀ x∈xs,th w n x=true:=by
 rw[th,Bool.and_eq_true,decide_eq_true_eq,List.all_eq_true]
theorem re {w n:Nat}{d:D}(h:th w n d=true):noX d=true:=by
 cases d<;>first | rfl | (cases n<;>simp[th]at h)
theorem jX {n:Nat}{d:D}(h:flatD d=true):good n d=true:=by
 cases d<;>first | (simp[flatD]at h;done) | (cases n<;>rfl)
theorem o3 {n:Nat}{d:D}(h:flatD d=true):slim n d=true:=by
 cases d<;>first | (simp[flatD]at h;done) | (cases n<;>rfl)
theorem nQ {w:Nat}:∀ {n:Nat} {d:D},th w n d=true→good (n+1) d=true:=by
 intro n
 induction n with
 | zero =>
  intro d h
  cases d with
  | lst xs =>
   simp only[th,Bool.and_eq_true,decide_eq_true_eq,List.all_eq_true]at h
   rw[good]
   exact bo fun x hx=>jX (h.2 x hx)
  | _=>first | rfl | (simp[th]at h)
 | succ n ih =>
  intro d h
  cases d with
  | tup xs =>
   rw[good]
   exact bo fun x hx=>ih ((bc.mp h).2 x hx)
  | lst xs =>
   simp only[th,Bool.and_eq_true,decide_eq_true_eq,List.all_eq_true]at h
   rw[good]
   exact bo fun x hx=>jX (h.2 x hx)
  | _=>first | rfl | (simp[th]at h)
theorem sX {w:Nat}(hw:w≤1000):∀ {n:Nat} {d:D} (m:Nat),th w n d=true→slim m d=true:=by
 have hl:∀ {n:Nat} {xs:List D} (m:Nat),th w n (.lst xs)=true→slim m (.lst xs)=true:=fun {n xs} m h=>by
  have h':xs.length≤w∧∀ x∈xs,flatD x=true:=by
   cases n<;>simpa only[th,Bool.and_eq_true,decide_eq_true_eq,List.all_eq_true] using h
  cases m with
  | zero=>rfl
  | succ m =>
   rw[slim,Bool.and_eq_true,decide_eq_true_eq,List.all_eq_true]
   exact⟨by omega,fun x hx=>o3 (h'.2 x hx)⟩
 intro n
 induction n with
 | zero =>
  intro d m h
  cases d with
  | lst xs=>exact hl m h
  | _=>first | (cases m<;>rfl) | (simp[th]at h)
 | succ n ih =>
  intro d m h
  cases d with
  | lst xs=>exact hl m h
  | tup xs =>
   cases m with
   | zero=>rfl
   | succ m =>
    rw[slim,Bool.and_eq_true,decide_eq_true_eq,List.all_eq_true]
    exact⟨by have:=(bc.mp h).1;omega,fun x hx=>ih m ((bc.mp h).2 x hx)⟩
  | _=>first | (cases m<;>rfl) | (simp[th]at h)
theorem rf {w v:Nat}(hv:w≤v):∀ {n m:Nat} {d:D},th w n d=true→n≤m→th v m d=true:=by
 have hl:∀ {n m:Nat} {xs:List D},th w n (.lst xs)=true→th v m (.lst xs)=true:=fun {n m xs} h=>by
  have h':xs.length≤w∧∀ x∈xs,flatD x=true:=by
   cases n<;>simpa only[th,Bool.and_eq_true,decide_eq_true_eq,List.all_eq_true] using h
  have:xs.length≤v∧∀ x∈xs,flatD x=true:=⟨by omega,h'.2⟩
  cases m<;>simpa only[th,Bool.and_eq_true,decide_eq_true_eq,List.all_eq_true] using this
 intro n
 induction n with
 | zero =>
  intro m d h _
  cases d with
  | lst xs=>exact hl h
  | _=>first | (cases m<;>rfl) | (simp[th]at h)
 | succ n ih =>
  intro m d h hm
  cases d with
  | lst xs=>exact hl h
  | tup xs =>
   obtain⟨m,rfl⟩:∃ k,m=k+1:=⟨m - 1,by omega⟩
   exact bc.mpr ⟨by have:=(bc.mp h).1;omega,fun x hx=>ih ((bc.mp h).2 x hx) (by omega)⟩
  | _=>first | (cases m<;>rfl) | (simp[th]at h)
theorem ja {α:Type}{g:Nat→List α}{b:Nat}:∀ k,(∀ i,i < k→(g i).length≤b)→((List.range k).flatMap g).length≤k*b
 | 0,_=>by simp
 | k+1,h=>by
  rw[List.range_succ,List.flatMap_append,List.length_append,Nat.succ_mul]
  have h1:=ja k fun i hi=>h i (by omega)
  have h2:=h k (by omega)
  have:([k].flatMap g).length=(g k).length:=by simp
  omega
theorem nc (n:Nat)(d:D):1≤(places n d).length:=by
 cases n with
 | zero=>cases d<;>exact Nat.le_refl 1
 | succ n=>cases d<;>first | (show 1≤_+1;omega) | exact Nat.le_refl 1
theorem jb {w:Nat}:∀ {n:Nat} {d:D},th w n d=true→(places n d).length≤(w+1)^n:=by
 intro n
 induction n with
 | zero=>intro d h;cases d<;>exact Nat.le_refl 1
 | succ n ih =>
  intro d h
  have h1:1≤(w+1)^(n+1):=Nat.pow_pos (by omega)
  cases d with
  | tup xs =>
   have ht:=bc.mp h
   have:=ja (g:=fun i=>(places n (kid xs i)).map (i::·)) (b:=(w+1)^n) xs.length fun i hi=>by
    rw[List.length_map];exact ih (ht.2 _ (cP hi))
   show ((List.range xs.length).flatMap fun i=>(places n (kid xs i)).map (i::·)).length+1≤_
   have h2:xs.length*(w+1)^n≤w*(w+1)^n:=Nat.mul_le_mul_right _ ht.1
   have h3:1≤(w+1)^n:=Nat.pow_pos (by omega)
   have h4:(w+1)^(n+1)=w*(w+1)^n+(w+1)^n:=by rw[Nat.pow_succ,Nat.mul_comm,Nat.succ_mul]
   omega
  | _=>exact h1
theorem rg {w n:Nat}{d:D}(h:th w n d=true)(ht:isTup d=false):dIsA qTup d=.ok (.bl false):=cF ht (re h)
theorem l7 {n:Nat}{d:D}(ht:isTup d=false):places n d=[[]]:=by
 cases n<;>cases d<;>first | rfl | (cases ht;done)
theorem sY (k:Nat)(p:List Nat)(h:p.length < 16777216):dAdd (.tup [.int (k:Int)]) (pD p)=.ok (pD (k::p)):=by
 show (if 1+(p.map fun (i:Nat)=>D.int (i:Int)).length≤16777216 then _ else _)=_
 rw[List.length_map,if_pos (by omega)]
 rfl
theorem cQ {n:Nat}:∀ {d:D} {p:List Nat},p∈places n d→p.length≤n:=by
 induction n with
 | zero=>intro d p h;cases d<;>simp[places]at h<;>simp[h]
 | succ n ih =>
  intro d p h
  cases d with
  | tup xs =>
   rw[places,List.mem_cons,List.mem_flatMap]at h
   rcases h with rfl | ⟨i,_,h⟩
   ·simp
   ·obtain⟨q,hq,rfl⟩:=List.mem_map.mp h
    have:=ih hq
    simp only[List.length_cons]
    omega
  | _=>simp[places]at h;simp[h]
theorem o4 {w:Nat}:∀ (n m:Nat) (d:D),th w n d=true→(w+1)^n≤16000000→n+1≤m→w≤1000→n≤1000→pf m F.aD [d]=.ok (.lst ((places n d).map pD)):=by
 have flat:∀ (n m:Nat) (d:D),th w n d=true→isTup d=false→1≤m→pf m F.aD [d]=.ok (.lst ((places n d).map pD)):=fun n m d h ht hm=>by
  obtain⟨m,rfl,_⟩:=ex1 hm
  rw[gC,cA,rg h ht,l7 ht]
  simp only[STP,if_true,if_false,ite_true,ite_false,reduceIte,reduceCtorEq]
  rfl
 intro n
 induction n with
 | zero =>
  intro m d h _ hm _ _
  exact flat 0 m d h (by cases d<;>first | rfl | (simp[th]at h)) hm
 | succ n ih =>
  intro m d h hp hm hw hn
  by_cases ht:isTup d=true
  ·cases d with
   | tup xs =>
    have hh:=bc.mp h
    obtain⟨m,rfl,hm⟩:=ex1 hm
    have hpn:(w+1)^n≤16000000:=Nat.le_trans (Nat.pow_le_pow_right (by omega) (Nat.le_succ n)) hp
    have loop:lFor (τ:=List D) (fun s x=>cU (pf m) (.tup xs) s x) ((List.range xs.length).map fun i=>.int (0+((i:Nat):Int))) ((fun k=>([]::(List.range k).flatMap fun i=>(places n (kid xs i)).map (i::·)).map pD) 0)=.nx (([]::(List.range xs.length).flatMap fun i=>(places n (kid xs i)).map (i::·)).map pD):=by
     refine d8 _ (fun k=>([]::(List.range k).flatMap fun i=>(places n (kid xs i)).map (i::·)).map pD) xs.length fun i hi=>?_
     have hk:=ih m (kid xs i) (hh.2 _ (cP hi)) hpn (by omega) hw (by omega)
     have hc:cMap (fun vF=>dAdd (.tup [.int (i:Int)]) vF) ((places n (kid xs i)).map pD)=.ok (.lst (((places n (kid xs i)).map (i::·)).map pD)):=by
      rw[bt (l:=places n (kid xs i)) pD (fun p:List Nat=>pD (i::p)) fun p hp=>sY i p (by have:=cQ hp;omega),List.map_map]
      rfl
     have hl:=jb (hh.2 _ (cP hi))
     have hl2:=ja (g:=fun i=>(places n (kid xs i)).map (i::·)) (b:=(w+1)^n) i fun j hj=>by
      rw[List.length_map];exact jb (hh.2 _ (cP (by omega)))
     have h2:i*(w+1)^n+(w+1)^n≤(w+1)^(n+1):=by
      rw[← Nat.succ_mul,Nat.pow_succ,Nat.mul_comm];exact Nat.mul_le_mul_left _ (by have:=hh.1;omega)
     unfold cU
     rw[show (0:Int)+(i:Int)=(i:Int) by omega,kL hi]
     simp only[STP,if_true,if_false,ite_true,ite_false,reduceIte,reduceCtorEq,hk,m6 (show ((places n (kid xs i)).map pD).length≤16777216 by rw[List.length_map];omega),hc]
     have ho:oExt (([]::(List.range i).flatMap fun i=>(places n (kid xs i)).map (i::·)).map pD) (.lst (((places n (kid xs i)).map (i::·)).map pD))=.ok (([]::(List.range (i+1)).flatMap fun i=>(places n (kid xs i)).map (i::·)).map pD):=by
      show (if _ then _ else _)=_
      rw[if_pos (by simp only[List.length_map,List.length_cons];omega),← List.map_append,List.cons_append,List.range_succ,List.flatMap_append]
      simp
     rw[ho]
     simp only[STP,if_true,if_false,ite_true,ite_false,reduceIte,reduceCtorEq]
    rw[gC,cA]
    have hr:rng1 [.int (xs.length:Int)]=.ok ((List.range xs.length).map fun i=>.int (0+((i:Nat):Int))):=by
     have:=hh.1
     show (if _ then _ else _)=_
     rw[if_pos (by omega)]
     rw[Int.toNat_natCast]
     rfl
    have e0:((fun k=>([]::(List.range k).flatMap fun i=>(places n (kid xs i)).map (i::·)).map pD) 0)=[.tup []]:=rfl
    rw[e0]at loop
    simp only[cn,STP,if_true,if_false,ite_true,ite_false,reduceIte,reduceCtorEq,cD,hr,loop]
    rfl
   | _=>cases ht
  ·exact flat (n+1) m d h (by simpa using ht) (by omega)
def there:D→List Nat→D
 | d,[]=>d
 | .tup xs,i::p=>there (kid xs i) p
 | d,_::_=>d
def putAt:D→List Nat→D→D
 | _,[],e=>e
 | .tup xs,i::p,e=>.tup (xs.set i (putAt (kid xs i) p e))
 | d,_::_,_=>d
theorem dG {n:Nat}{d:D}{i:Nat}{p:List Nat}(h:i::p∈places n d):∃ xs k,n=k+1∧d=.tup xs∧i < xs.length∧p∈places k (kid xs i):=by
 cases n with
 | zero=>cases d<;>simp[places]at h
 | succ n =>
  cases d with
  | tup xs =>
   rw[places,List.mem_cons,List.mem_flatMap]at h
   rcases h with h | ⟨j,hj,h⟩
   ·cases h
   ·obtain⟨q,hq,e⟩:=List.mem_map.mp h
    injection e with e1 e2
    subst e1;subst e2
    exact⟨xs,n,rfl,rfl,List.mem_range.mp hj,hq⟩
  | _=>simp[places]at h
theorem jc {t:Nat→List D→R D}:∀ {p:List Nat} {n:Nat} {d:D},p∈places n d→lFor (τ:=D) (fun s x=>du t s x) (p.map fun (i:Nat)=>.int (i:Int)) d=.nx (there d p)
 | [],n,d,_=>by cases d<;>rfl
 | i::p,n,d,h=>by
  obtain⟨xs,k,rfl,rfl,hi,hp⟩:=dG h
  rw[List.map_cons,a6]
  unfold du
  rw[kL hi]
  simp only[STP,if_true,if_false,ite_true,ite_false,reduceIte,reduceCtorEq]
  exact jc (t:=t) hp
theorem l8 {w:Nat}:∀ {p:List Nat} {n:Nat} {d:D},p∈places n d→th w n d=true→th w (n - p.length) (there d p)=true
 | [],n,d,_,h=>by cases d<;>exact h
 | i::p,n,d,h,ht=>by
  obtain⟨xs,k,rfl,rfl,hi,hp⟩:=dG h
  have:=l8 hp ((bc.mp ht).2 _ (cP hi))
  show th w (k+1 - (p.length+1)) _=true
  rw[Nat.add_sub_add_right]
  exact this
theorem rh {n m:Nat}{d:D}{p:List Nat}(h:p∈places n d)(hm:1≤m)(hn:n≤1000):pf m F.aO [d,pD p]=.ok (there d p):=by
 obtain⟨m,rfl,hm⟩:=ex1 hm
 rw[mO,ek]
 unfold pD
 have hl:=cQ h
 rw[eU (by rw[List.length_map];omega)]
 simp only[STP,if_true,if_false,ite_true,ite_false,reduceIte,reduceCtorEq,jc h]
theorem l9 {w:Nat}:∀ {p:List Nat} {n N k:Nat} {d e:D},p∈places n d→th w n d=true→th w k e=true→k+p.length≤N→n≤N→th w N (putAt d p e)=true
 | [],n,N,k,d,e,_,_,he,hk,_=>by cases d<;>exact rf (Nat.le_refl w) he (by simpa using hk)
 | i::p,n,N,k,d,e,h,hd,he,hk,hn=>by
  obtain⟨xs,j,rfl,rfl,hi,hp⟩:=dG h
  obtain⟨N,rfl⟩:∃ M,N=M+1:=⟨N - 1,by omega⟩
  have ht:=bc.mp hd
  have hr:=l9 (N:=N) hp (ht.2 _ (cP hi)) he (by simp only[List.length_cons]at hk;omega) (by omega)
  show th w (N+1) (.tup (xs.set i (putAt (kid xs i) p e)))=true
  refine bc.mpr ⟨by rw[List.length_set];exact ht.1,fun x hx=>?_⟩
  rcases List.mem_or_eq_of_mem_set hx with hx | rfl
  ·exact rf (Nat.le_refl w) (ht.2 x hx) (by omega)
  ·exact hr
theorem sZ {n:Nat}(hn:1≤n)(p:List Nat):good n (pD p)=true:=by
 obtain⟨n,rfl⟩:∃ k,n=k+1:=⟨n - 1,by omega⟩
 unfold pD
 rw[good]
 refine bo fun d hd=>?_
 obtain⟨i,_,rfl⟩:=List.mem_map.mp hd
 cases n<;>rfl
theorem ma (xs ys:List D)(h:xs.length+ys.length≤16777216):dAdd (.tup xs) (.tup ys)=.ok (.tup (xs++ys)):=by
 show (if xs.length+ys.length≤16777216 then _ else _)=_
 rw[if_pos h]
theorem ri {w:Nat}(hw:w≤1000):∀ {p:List Nat} {n m:Nat} {d:D} (e:D),p∈places n d→th w n d=true→p.length+1≤m→pf m F.aP [d,pD p,e]=.ok (putAt d p e)
 | [],n,m,d,e,_,_,hm=>by
  obtain⟨m,rfl,hm⟩:=ex1 (k:=0) (by simpa using hm)
  rw[lH,fj]
  have:dEq (pD []) (.tup [])=.ok (.bl true):=rfl
  simp only[STP,if_true,if_false,ite_true,ite_false,reduceIte,reduceCtorEq,this]
  cases d<;>rfl
 | i::p,n,m,d,e,h,hd,hm=>by
  obtain⟨xs,j,rfl,rfl,hi,hp⟩:=dG h
  have ht:=bc.mp hd
  obtain⟨m,rfl,hm⟩:=ex1 hm
  have ih:=ri hw (m:=m) e hp (ht.2 _ (cP hi)) (by simpa using hm)
  have h0:dEq (pD (i::p)) (.tup [])=.ok (.bl false):=by
   unfold dEq
   rw[if_pos ⟨sZ (by decide) _,rfl⟩]
   rfl
  have h1:dIx (pD (i::p)) (.int 0)=.ok (.int (i:Int)):=kL (xs:=(i::p).map fun (i:Nat)=>D.int (i:Int)) (i:=0) (by simp)
  have h2:dSw (pD (i::p)) (some 1) none=.ok (pD p):=by
   show R.ok (D.tup (cutD _ (some ((1:Nat):Int)) none))=_
   rw[l6 (by simp)]
   rfl
  have h3:dSw (.tup xs) none (some (i:Int))=.ok (.tup (xs.take i)):=by
   show R.ok (D.tup (cutD _ none (some (i:Int))))=_
   rw[uX (by omega)]
  have h4:dSw (.tup xs) (some ((i:Int)+1)) none=.ok (.tup (xs.drop (i+1))):=by
   rw[show (i:Int)+1=((i+1:Nat):Int) by omega]
   show R.ok (D.tup (cutD _ (some ((i+1:Nat):Int)) none))=_
   rw[l6 (by omega)]
  have h5:∀ v:Int,asI (.int v)=.ok (some v):=fun v=>rfl
  have h6:dAdd (.tup (xs.take i)) (.tup [putAt (kid xs i) p e])=.ok (.tup (xs.take i++[putAt (kid xs i) p e])):=ma _ _ (by simp only[List.length_take,List.length_cons,List.length_nil];omega)
  have h7:dAdd (.tup (xs.take i++[putAt (kid xs i) p e])) (.tup (xs.drop (i+1)))=.ok (.tup (xs.set i (putAt (kid xs i) p e))):=by
   rw[ma _ _ (by simp only[List.length_append,List.length_take,List.length_drop,List.length_cons,List.length_nil];omega),List.set_eq_take_append_cons_drop,if_pos hi,List.append_assoc]
   rfl
  rw[lH,fj]
  simp only[STP,if_true,if_false,ite_true,ite_false,reduceIte,reduceCtorEq,h0,h1,h5,h3,kL hi,h2,ih,h6,aJ,h4,h7]
  rfl
theorem rj {ds:List D}{i:Int}(h0:0≤i)(h:i < ds.length):∃ e∈ds,L2.atI ds i=some e:=by
 refine⟨kid ds i.toNat,cP (by omega),?_⟩
 unfold L2.atI L2.ixN
 rw[if_pos h0,if_pos h]
 exact nb (by omega)
theorem ti {ds:List D}{i:Int}(h0:0≤i)(h:i < ds.length):∃ e∈ds,oIx ds (.int i)=.ok e:=by
 obtain⟨e,he,h⟩:=rj h0 h
 refine⟨e,he,?_⟩
 show (match L2.atI ds i with | some d=>R.ok d | none=>R.stuck)=_
 rw[h]
theorem tj {ds:List D}{i:Int}(h0:0≤i)(h:i < ds.length):∃ e∈ds,dIx (.lst ds) (.int i)=.ok e:=by
 obtain⟨e,he,h⟩:=rj h0 h
 refine⟨e,he,?_⟩
 show (match L2.atI ds i with | some d=>R.ok d | none=>R.stuck)=_
 rw[h]
def news (here:D):List D:=[(.int (-1)),(.int 0),(.int 3),(.int 4),(.int 9),(.int 10),(.bl true),.non,(.str "1"),(.tup []),(.tup [(.int 1),(.int 2),(.int 3)]),(.tup [(.int 1),(.int 1),(.int 1),(.int 1)]),(.tup [(.int 1),(.int 2),(.int 3),(.int 4),(.int 5)]),(.lst [(.int 1),(.int 2),(.int 3),(.int 4)]),.tup [here,here,here,here]]
theorem tm {w n:Nat}(hw:5≤w){here e:D}(h:th w n here=true)(he:e∈news here):th w (n+1) e=true:=by
 have cons:∀ {xs:List D},xs.length≤w→(∀ x∈xs,th w n x=true)→th w (n+1) (.tup xs)=true:=fun h1 h2=>bc.mpr ⟨h1,h2⟩
 have iN:∀ i:Int,th w n (.int i)=true:=fun i=>by cases n<;>rfl
 unfold news at he
 simp only[List.mem_cons,List.not_mem_nil,or_false]at he
 rcases he with rfl | rfl | rfl | rfl | rfl | rfl | rfl | rfl | rfl | rfl | rfl | rfl | rfl | rfl | rfl
 any_goals rfl
 ·exact cons (Nat.le_trans (by decide) hw) (by intro x hx;simp only[List.mem_cons,List.not_mem_nil,or_false]at hx;rcases hx with rfl | rfl | rfl<;>exact iN _)
 ·exact cons (Nat.le_trans (by decide) hw) (by intro x hx;simp only[List.mem_cons,List.not_mem_nil,or_false]at hx;rcases hx with rfl | rfl | rfl | rfl<;>exact iN _)
 ·exact cons hw (by intro x hx;simp only[List.mem_cons,List.not_mem_nil,or_false]at hx;rcases hx with rfl | rfl | rfl | rfl | rfl<;>exact iN _)
 ·rw[th,Bool.and_eq_true,decide_eq_true_eq];exact⟨Nat.le_trans (by decide) hw,rfl⟩
 ·exact cons (by show 4≤w;omega) (by intro x hx;simp only[List.mem_cons,List.not_mem_nil,or_false]at hx;rcases hx with rfl | rfl | rfl | rfl<;>exact h)
theorem o5 {w n:Nat}(hw:w≤1000)(h5:5≤w)(hn:n≤100)(hp:(w+1)^n≤16000000){d:D}(h:th w n d=true){m:Nat}(hm:n+4≤m)(ns:List Int)(k:Nat):∃ p∈places n d,∃ e∈news (there d p),pf m F.ad [scr ns,.int (k:Int),d]=.ok (putAt d p e):=by
 obtain⟨m,rfl,hm⟩:=ex1 (show n+3+1≤m by omega)
 have e1:=o4 n m d h hp (by omega) hw (by omega)
 have hl:=nc n d
 have hl':(0:Int) < (((places n d).map pD).length:Nat):=by rw[List.length_map];omega
 have p1:=dF (n:=m) (by omega) ns k (a:=(k:Int)) (m:=(((places n d).map pD).length:Nat)) rfl hl'
 have b0:=eE (ns:=ns) (k:=k) (m:=(((places n d).map pD).length:Nat)) hl'
 have b1:=eF (ns:=ns) (k:=k) (m:=(((places n d).map pD).length:Nat)) hl'
 obtain⟨q,hq,e2⟩:=tj b0 b1
 obtain⟨p,hp',rfl⟩:=List.mem_map.mp hq
 have e3:=rh hp' (m:=m) (by omega) (by omega)
 have p2:=dF (n:=m) (by omega) ns (k+1) (a:=(k:Int)+1) (m:=15) (by omega) (by decide)
 have c0:=eE (ns:=ns) (k:=k+1) (m:=15) (by decide)
 have c1:=eF (ns:=ns) (k:=k+1) (m:=15) (by decide)
 obtain⟨e,he,e4⟩:=ti (ds:=news (there d p)) c0 (by show _ < ((15:Nat):Int);omega)
 have hd:=cQ hp'
 have e5:=ri hw (m:=m) e hp' h (by omega)
 refine⟨p,hp',e,he,?_⟩
 have r4:dMul (.tup [there d p]) (.int 4)=.ok (.tup [there d p,there d p,there d p,there d p]):=rfl
 rw[fq,bh]
 simp only[STP,if_true,if_false,ite_true,ite_false,reduceIte,reduceCtorEq,e1,iW,p1,e2,e3,r4]
 have ho:oExt [(.int (-1)),(.int 0),(.int 3),(.int 4),(.int 9),(.int 10),(.bl true),.non,(.str "1"),(.tup []),(.tup [(.int 1),(.int 2),(.int 3)]),(.tup [(.int 1),(.int 1),(.int 1),(.int 1)]),(.tup [(.int 1),(.int 2),(.int 3),(.int 4),(.int 5)])] (.lst [.lst [.int 1,.int 2,.int 3,.int 4],.tup [there d p,there d p,there d p,there d p]])=.ok (news (there d p)):=rfl
 simp only[STP,if_true,if_false,ite_true,ite_false,reduceIte,reduceCtorEq,ho,aJ,p2,e4,e5]
theorem o6 {w n:Nat}(hw:w≤1000)(h5:5≤w)(hn:n≤100)(hp:(w+1)^n≤16000000){d:D}(h:th w n d=true){m:Nat}(hm:n+4≤m)(ns:List Int)(k:Nat):∃ d',th w (n+1) d'=true∧pf m F.ad [scr ns,.int (k:Int),d]=.ok d':=by
 obtain⟨p,hp',e,he,q⟩:=o5 hw h5 hn hp h hm ns k
 have hd:=cQ hp'
 exact⟨_,l9 hp' h (tm h5 (l8 hp' h) he) (by omega) (by omega),q⟩
end Lw
end
section
namespace Lw
open PySem FF
theorem o7 {w:Nat}(hw:w≤1000):∀ (n m:Nat) (s:Int) (d:D),th w n d=true→n+1≤m→n≤50→pf m F.ah [d,.int s]=.ok (.bl (treeOk (inTo 9) n s d)):=by
 have flat:∀ (n m:Nat) (s:Int) (d:D),th w n d=true→isTup d=false→1≤m→pf m F.ah [d,.int s]=.ok (.bl (treeOk (inTo 9) n s d)):=fun n m s d h ht hm=>by
  obtain⟨m,rfl,hm⟩:=ex1 hm
  have e:treeOk (inTo 9) n s d=inTo 9 d:=by cases n<;>cases d<;>first | rfl | (cases ht;done)
  rw[ft,b7,e]
  cases d with
  | int i =>
   have:rAnd (asB (dIsA qInt (.int i))) (rNot (asB (dIsA qBool (.int i))))=.ok true:=rfl
   simp only[this,STP,if_true,if_false,ite_true,ite_false,reduceIte,reduceCtorEq]
   simp only[rCh,kI,ba,R.bind_ok,inTo]
   by_cases h0:(0:Int)≤i<;>simp[h0]
  | tup _=>cases ht
  | exc _=>cases n<;>simp[th]at h
  | fn _=>cases n<;>simp[th]at h
  | _=>rfl
 intro n
 induction n with
 | zero=>intro m s d h hm _;exact flat 0 m s d h (by cases d<;>first | rfl | (simp[th]at h)) hm
 | succ n ih =>
  intro m s d h hm hn
  by_cases ht:isTup d=true
  ·cases d with
   | tup xs =>
    have hh:=bc.mp h
    obtain⟨m,rfl,hm⟩:=ex1 hm
    have hc:cFil (fun vT=>(rNot (asB ((dSub (.int s) (.int 1)).bind fun x1=>pf m F.ah [vT,x1])))) (fun vT=>.ok vT) xs=.ok (.lst (xs.filter fun d=>!treeOk (inTo 9) n (s - 1) d)):=by
     have:=sK (c:=fun vT=>(rNot (asB ((dSub (.int s) (.int 1)).bind fun x1=>pf m F.ah [vT,x1])))) (e:=fun vT=>.ok vT) (l:=xs) (fun d=>d) (fun d=>d) (fun d=>!treeOk (inTo 9) n (s - 1) d) fun d hd=>⟨by
      rw[aZ,R.bind_ok,ih m (s - 1) d (hh.2 d hd) (by omega) (by omega)]
      rfl,fun _=>rfl⟩
     rw[List.map_id',List.map_id']at this
     exact this
    have he:dEq (.lst (xs.filter fun d=>!treeOk (inTo 9) n (s - 1) d)) (.lst [])=.ok (.bl (xs.all (treeOk (inTo 9) n (s - 1)))):=by
     unfold dEq
     rw[if_pos ⟨by
      rw[good]
      exact bo fun d hd=>cO (nQ (hh.2 d (List.mem_filter.mp hd).1)) (by omega),rfl⟩]
     cases hx:xs.filter fun d=>!treeOk (inTo 9) n (s - 1) d with
     | nil =>
      have:xs.all (treeOk (inTo 9) n (s - 1))=true:=by
       rw[List.all_eq_true]
       intro d hd
       have:=List.filter_eq_nil_iff.mp hx d hd
       simpa using this
      rw[this]
      rfl
     | cons a l =>
      have ha:a∈xs.filter fun d=>!treeOk (inTo 9) n (s - 1) d:=by rw[hx];simp
      have:=List.mem_filter.mp ha
      have:xs.all (treeOk (inTo 9) n (s - 1))=false:=by
       rw[List.all_eq_false]
       exact⟨a,this.1,by simpa using this.2⟩
      rw[this]
      rfl
    have hi:rAnd (asB (dIsA qInt (.tup xs))) (rNot (asB (dIsA qBool (.tup xs))))=.ok false:=rfl
    rw[ft,b7]
    simp only[hi,cn,STP,if_true,if_false,ite_true,ite_false,reduceIte,reduceCtorEq,cD,gZ,kJ,eU (show xs.length≤16777216 by have:=hh.1;omega),hc,he,treeOk]
    by_cases h0:s=0
    ·by_cases h4:(xs.length:Int)=4<;>simp[h0,h4]
    ·by_cases h4:xs.length=4
     ·simp[h0,h4]
     ·have h4':¬ ((xs.length:Int)=4):=by omega
      simp[h0,h4,h4']
   | _=>cases ht
  ·exact flat (n+1) m s d h (by simpa using ht) (by omega)
theorem jY {w:Nat}(hw:w≤1000){n m:Nat}{d:D}(h:th w (n+1) d=true)(hm:n+2≤m)(hn:n≤50):pf m F.an [d]=.ok (.bl (sizedOk (inTo 9) n d)):=by
 obtain⟨m,rfl,hm⟩:=ex1 hm
 rw[gK,bH]
 by_cases ht:isTup d=true
 ·cases d with
  | tup xs =>
   have hh:=bc.mp h
   by_cases h2:xs.length=2
   ·match xs,h2 with
    | [a,b],_ =>
     have ha:=hh.2 a (by simp)
     have hb:=hh.2 b (by simp)
     have l2:asB ((dLen [.tup [a,b]]).bind fun x2=>dNf x2 (.int 2))=.ok false:=rfl
     cases a with
     | int v =>
      have ht:=o7 hw n m v b hb (by omega) hn
      have hi:(rNot (asB (dIsA qInt (.int v))))=.ok false:=rfl
      have hj:(asB (dIsA qBool (.int v)))=.ok false:=rfl
      simp only[cn,STP,if_true,if_false,ite_true,ite_false,reduceIte,reduceCtorEq,l2,ix20,ix21,hi,hj,ht,sizedOk,inTo,rCh,kI]
      by_cases c0:(0:Int)≤v
      ·by_cases c1:v≤3<;>simp[c0,c1]
      ·simp[c0]
     | exc _=>cases n<;>simp[th]at ha
     | fn _=>cases n<;>simp[th]at ha
     | _=>rfl
   ·have h2':¬ ((xs.length:Int)=2):=by omega
    have e:sizedOk (inTo 9) n (.tup xs)=false:=by
     match xs,h2 with
     | [],_=>rfl
     | [_],_=>rfl
     | _::_::_::_,_=>rfl
    simp[h2',e]
  | _=>cases ht
 ·have ht':isTup d=false:=by simpa using ht
  rw[cF ht' (re h)]
  have e:sizedOk (inTo 9) n d=false:=by cases d<;>first | rfl | (cases ht';done)
  simp[e]
theorem Pc.th (p:Pc sz t):th 5 4 (picD sz t)=true:=by
 have hq:∀ (n:Nat) (t:Q Int),t.dep≤n→Lw.th 5 n (t.d .int)=true:=by
  intro n
  induction n with
  | zero=>intro t h;cases t with
   | lf a=>rfl
   | nd a b c d=>rw[Q.dep]at h;omega
  | succ n ih =>
   intro t h
   cases t with
   | lf a=>rfl
   | nd a b c d =>
    rw[Q.dep]at h
    refine bc.mpr ⟨by show 4≤5;decide,fun x hx=>?_⟩
    simp only[List.mem_cons,List.not_mem_nil,or_false]at hx
    rcases hx with rfl | rfl | rfl | rfl
    ·exact ih a (by omega)
    ·exact ih b (by omega)
    ·exact ih c (by omega)
    ·exact ih d (by omega)
 refine bc.mpr ⟨by show 2≤5;decide,fun x hx=>?_⟩
 simp only[List.mem_cons,List.not_mem_nil,or_false]at hx
 rcases hx with rfl | rfl
 ·rfl
 ·exact hq 3 t (by have:=p.dep;have:=p.h3;omega)
theorem word1 {m:Nat}(hm:1≤m):pf m F.aw [.exc 1]=.ok (.str "no picture"):=by
 obtain⟨m,rfl,hm⟩:=ex1 hm
 rw[jO,dQ]
 rfl
end Lw
end
section
namespace Lw
open PySem FF
section
variable {α:Type}[DecidableEq α]
end
section
variable {sz:Nat}{r:PySem.Str}{i:Nat}{f:Int→Int→Int}
variable {g g':Nat→Nat→Int}{t t':Q Int}
end
end Lw
end
section
namespace Lw
open PySem FF
def sel {β:Type}(k:Nat)(a b c d:β):β:=match k with
 | 0=>a
 | 1=>b
 | 2=>c
 | _=>d
section
variable {α:Type}[DecidableEq α]
def Q.mv (p q r s:Nat):Q α→Q α
 | .lf v=>.lf v
 | .nd a b c d=>.nd (sel p (a.mv p q r s) (b.mv p q r s) (c.mv p q r s) (d.mv p q r s)) (sel q (a.mv p q r s) (b.mv p q r s) (c.mv p q r s) (d.mv p q r s)) (sel r (a.mv p q r s) (b.mv p q r s) (c.mv p q r s) (d.mv p q r s)) (sel s (a.mv p q r s) (b.mv p q r s) (c.mv p q r s) (d.mv p q r s))
theorem nR {p q r s:Nat}{t:Q α}{v:α}:t.mv p q r s=.lf v↔t=.lf v:=by cases t<;>simp[Q.mv]
theorem me (a b c d:Q α):(∃ v,a=.lf v∧b=.lf v∧c=.lf v∧d=.lf v)∨put4 a b c d=.nd a b c d:=by
 unfold put4
 split
 ·split
  ·rename_i h2;exact .inl ⟨_,rfl,h2⟩
  ·exact .inr rfl
 ·exact .inr rfl
structure Odr (p q r s:Nat)(m:Nat→(Nat→Nat→Int)→Nat→Nat→Int):Prop where
 lt:p < 4∧q < 4∧r < 4∧s < 4
 all:∀ k,k < 4→k=p∨k=q∨k=r∨k=s
 one:∀ g:Nat→Nat→Int,m 1 g 0 0=g 0 0
 loc:∀ (n:Nat) (g:Nat→Nat→Int) (x y:Nat),x < n→y < n→∃ x' y',x' < n∧y' < n∧∀ g':Nat→Nat→Int,m n g' x y=g' x' y'
 q0:∀ (h:Nat) (g:Nat→Nat→Int) (x y:Nat),x < h→y < h→m (h+h) g x y=m h (sel p g (sh g h 0) (sh g 0 h) (sh g h h)) x y
 q1:∀ (h:Nat) (g:Nat→Nat→Int) (x y:Nat),x < h→y < h→m (h+h) g (x+h) y=m h (sel q g (sh g h 0) (sh g 0 h) (sh g h h)) x y
 q2:∀ (h:Nat) (g:Nat→Nat→Int) (x y:Nat),x < h→y < h→m (h+h) g x (y+h)=m h (sel r g (sh g h 0) (sh g 0 h) (sh g h h)) x y
 q3:∀ (h:Nat) (g:Nat→Nat→Int) (x y:Nat),x < h→y < h→m (h+h) g (x+h) (y+h)=m h (sel s g (sh g h 0) (sh g 0 h) (sh g h h)) x y
theorem sel4 {k:Nat}(h:k < 4):k=0∨k=1∨k=2∨k=3:=by omega
theorem tq {p q r s:Nat}{m:Nat→(Nat→Nat→Int)→Nat→Nat→Int}(o:Odr p q r s m)(a b c d:Q Int):(put4 a b c d).mv p q r s=put4 (sel p (a.mv p q r s) (b.mv p q r s) (c.mv p q r s) (d.mv p q r s)) (sel q (a.mv p q r s) (b.mv p q r s) (c.mv p q r s) (d.mv p q r s)) (sel r (a.mv p q r s) (b.mv p q r s) (c.mv p q r s) (d.mv p q r s)) (sel s (a.mv p q r s) (b.mv p q r s) (c.mv p q r s) (d.mv p q r s)):=by
 rcases me a b c d with ⟨v,rfl,rfl,rfl,rfl⟩ | h
 ·have e:∀ k,sel k ((Q.lf v:Q Int).mv p q r s) ((Q.lf v).mv p q r s) ((Q.lf v).mv p q r s) ((Q.lf v).mv p q r s)=.lf v:=fun k=>by unfold sel;split<;>rfl
  rw[eo,e,e,e,e,eo];rfl
 ·rw[h]
  rcases me (sel p (a.mv p q r s) (b.mv p q r s) (c.mv p q r s) (d.mv p q r s)) (sel q (a.mv p q r s) (b.mv p q r s) (c.mv p q r s) (d.mv p q r s)) (sel r (a.mv p q r s) (b.mv p q r s) (c.mv p q r s) (d.mv p q r s)) (sel s (a.mv p q r s) (b.mv p q r s) (c.mv p q r s) (d.mv p q r s)) with ⟨v,h0,h1,h2,h3⟩ | h'
  ·have al:∀ k,k < 4→sel k (a.mv p q r s) (b.mv p q r s) (c.mv p q r s) (d.mv p q r s)=.lf v:=fun k hk=>by
    rcases o.all k hk with h | h | h | h
    ·rw[h];exact h0
    ·rw[h];exact h1
    ·rw[h];exact h2
    ·rw[h];exact h3
   have ea:=nR.1 (al 0 (by omega));have eb:=nR.1 (al 1 (by omega));have ec:=nR.1 (al 2 (by omega));have ed:=nR.1 (al 3 (by omega))
   rw[ea,eb,ec,ed,eo]at h
   cases h
  ·rw[h'];rfl
theorem mv_T {p q r s:Nat}{m:Nat→(Nat→Nat→Int)→Nat→Nat→Int}(o:Odr p q r s m):∀ (n:Nat) (g:Nat→Nat→Int),(T g n).mv p q r s=T (m (2^n) g) n
 | 0,g=>by show (Q.lf (g 0 0)).mv p q r s=Q.lf (m 1 g 0 0);rw[o.one];rfl
 | n+1,g=>by
  rw[T,tq o,T,dD]
  have e:∀ k,k < 4→sel k ((T g n).mv p q r s) ((T (sh g (2^n) 0) n).mv p q r s) ((T (sh g 0 (2^n)) n).mv p q r s) ((T (sh g (2^n) (2^n)) n).mv p q r s)=T (m (2^n) (sel k g (sh g (2^n) 0) (sh g 0 (2^n)) (sh g (2^n) (2^n)))) n:=fun k hk=>by
   rcases sel4 hk with rfl | rfl | rfl | rfl<;>exact mv_T o n _
  rw[e p o.lt.1,e q o.lt.2.1,e r o.lt.2.2.1,e s o.lt.2.2.2]
  congr 1
  ·exact aS n _ _ fun x y hx hy=>(o.q0 _ g x y hx hy).symm
  ·exact aS n _ _ fun x y hx hy=>(o.q1 _ g x y hx hy).symm
  ·exact aS n _ _ fun x y hx hy=>(o.q2 _ g x y hx hy).symm
  ·exact aS n _ _ fun x y hx hy=>(o.q3 _ g x y hx hy).symm
end
def mTurn (s:Nat)(g:Nat→Nat→Int):Nat→Nat→Int:=fun x y=>g y (s - 1 - x)
def mMirr (s:Nat)(g:Nat→Nat→Int):Nat→Nat→Int:=fun x y=>g (s - 1 - x) y
def mFlip (s:Nat)(g:Nat→Nat→Int):Nat→Nat→Int:=fun x y=>g x (s - 1 - y)
def mSwap (s:Nat)(g:Nat→Nat→Int):Nat→Nat→Int:=fun x y=>g y x
theorem gr:Odr 2 0 3 1 mTurn:=⟨by decide,by decide,fun g=>rfl,fun n g x y hx hy=>⟨y,n - 1 - x,hy,by omega,fun _=>rfl⟩,
 fun h g x y hx hy=>by simp only[mTurn,sel,sh];congr 1<;>omega,fun h g x y hx hy=>by simp only[mTurn,sel,sh];congr 1<;>omega,fun h g x y hx hy=>by simp only[mTurn,sel,sh];congr 1<;>omega,fun h g x y hx hy=>by simp only[mTurn,sel,sh];congr 1<;>omega⟩
theorem kM:Odr 1 0 3 2 mMirr:=⟨by decide,by decide,fun g=>rfl,fun n g x y hx hy=>⟨n - 1 - x,y,by omega,hy,fun _=>rfl⟩,
 fun h g x y hx hy=>by simp only[mMirr,sel,sh];congr 1<;>omega,fun h g x y hx hy=>by simp only[mMirr,sel,sh];congr 1<;>omega,fun h g x y hx hy=>by simp only[mMirr,sel,sh];congr 1<;>omega,fun h g x y hx hy=>by simp only[mMirr,sel,sh];congr 1<;>omega⟩
theorem ng:Odr 2 3 0 1 mFlip:=⟨by decide,by decide,fun g=>rfl,fun n g x y hx hy=>⟨x,n - 1 - y,hx,by omega,fun _=>rfl⟩,
 fun h g x y hx hy=>by simp only[mFlip,sel,sh];congr 1<;>omega,fun h g x y hx hy=>by simp only[mFlip,sel,sh];congr 1<;>omega,fun h g x y hx hy=>by simp only[mFlip,sel,sh];congr 1<;>omega,fun h g x y hx hy=>by simp only[mFlip,sel,sh];congr 1<;>omega⟩
theorem rk:Odr 0 2 1 3 mSwap:=⟨by decide,by decide,fun g=>rfl,fun n g x y hx hy=>⟨y,x,hy,hx,fun _=>rfl⟩,
 fun h g x y hx hy=>by simp only[mSwap,sel,sh],fun h g x y hx hy=>by simp only[mSwap,sel,sh];congr 1,fun h g x y hx hy=>by simp only[mSwap,sel,sh];congr 1,fun h g x y hx hy=>by simp only[mSwap,sel,sh]⟩
section
variable {p q r s:Nat}{m:Nat→(Nat→Nat→Int)→Nat→Nat→Int}
theorem rl (a b c d:Int):sq (tupI [a,b,c,d])=.ok [.int a,.int b,.int c,.int d]:=rfl
theorem uY {k:Nat}(h:k < 4)(a b c d:D):dIx (.tup [a,b,c,d]) (.int (k:Int))=.ok (sel k a b c d):=by rcases sel4 h with rfl | rfl | rfl | rfl<;>rfl
theorem d9 (o:Odr p q r s m):∀ (n:Nat) (t:Q Int),t.dep+1≤n→pf n F.al [t.d .int,tupI [(p:Int),(q:Int),(r:Int),(s:Int)]]=.ok ((t.mv p q r s).d .int)
 | 0,t,h=>by omega
 | n+1,.lf v,h=>by rw[eB,bF];simp only[Q.d,STP,if_true,if_false,ite_true,ite_false,reduceIte,reduceCtorEq,OPP];rfl
 | n+1,.nd a b c d,h=>by
  have hd:a.dep+1≤n∧b.dep+1≤n∧c.dep+1≤n∧d.dep+1≤n:=by simp only[Q.dep]at h;omega
  have ha:=d9 o n a hd.1;have hb:=d9 o n b hd.2.1;have hc:=d9 o n c hd.2.2.1;have hdd:=d9 o n d hd.2.2.2
  have step:∀ k:Nat,k < 4→((dIx (.tup [a.d .int,b.d .int,c.d .int,d.d .int]) (.int (k:Int))).bind fun x=>pf n F.al [x,tupI [(p:Int),(q:Int),(r:Int),(s:Int)]])=.ok ((sel k (a.mv p q r s) (b.mv p q r s) (c.mv p q r s) (d.mv p q r s)).d .int):=fun k hk=>by
   rw[uY hk,R.bind_ok]
   rcases sel4 hk with rfl | rfl | rfl | rfl
   ·exact ha
   ·exact hb
   ·exact hc
   ·exact hdd
  rw[eB,bF]
  simp only[Q.d,STP,if_true,if_false,ite_true,ite_false,reduceIte,reduceCtorEq,OPP,rl]
  rw[cMap4 (step p o.lt.1) (step q o.lt.2.1) (step r o.lt.2.2.1) (step s o.lt.2.2.2)]
  rfl
variable {sz:Nat}{g:Nat→Nat→Int}{t:Q Int}
theorem Sh.moved (w:Sh sz g t)(o:Odr p q r s m){n:Nat}(hn:11≤n):pf n F.aj [picD sz t,tupI [(p:Int),(q:Int),(r:Int),(s:Int)]]=.ok (picD sz (T (m (2^sz) g) sz)):=by
 obtain⟨n,rfl⟩:∃ j,n=j+1:=⟨n - 1,by omega⟩
 have e1:=w.lean (n:=n) (by omega)
 have e2:=d9 o n (T g sz) (by have:=iV sz g;have:=w.p.h3;omega)
 rw[mv_T o]at e2
 have e3:dIx (picD sz (T g sz)) (.int 0)=.ok (.int (sz:Int)):=rfl
 have e4:dIx (picD sz (T g sz)) (.int 1)=.ok ((T g sz).d .int):=rfl
 rw[lG,fe]
 simp only[STP,if_true,if_false,ite_true,ite_false,reduceIte,reduceCtorEq,e1,e2,e3,e4]
 rfl
theorem Sh.mv (w:Sh sz g t)(o:Odr p q r s m):Sh sz (m (2^sz) g) (T (m (2^sz) g) sz):=sh_T w.p.h3 fun x y hx hy=>by
 obtain⟨x',y',h1,h2,h3⟩:=o.loc (2^sz) g x y hx hy
 rw[h3];exact w.wo x' y' h1 h2
theorem Sh.turned (w:Sh sz g t){n:Nat}(hn:12≤n):pf n F.ag [picD sz t]=.ok (picD sz (T (mTurn (2^sz) g) sz)):=by
 obtain⟨n,rfl⟩:∃ j,n=j+1:=⟨n - 1,by omega⟩
 have h:pf n F.aj [picD sz t,tupI [2,0,3,1]]=_:=w.moved gr (n:=n) (by omega)
 rw[jM,dO];simp only[STP,if_true,if_false,ite_true,ite_false,reduceIte,reduceCtorEq,h]
theorem Sh.mirrored (w:Sh sz g t){n:Nat}(hn:12≤n):pf n F.ae [picD sz t]=.ok (picD sz (T (mMirr (2^sz) g) sz)):=by
 obtain⟨n,rfl⟩:∃ j,n=j+1:=⟨n - 1,by omega⟩
 have h:pf n F.aj [picD sz t,tupI [1,0,3,2]]=_:=w.moved kM (n:=n) (by omega)
 rw[gz,cx];simp only[STP,if_true,if_false,ite_true,ite_false,reduceIte,reduceCtorEq,h]
def turns (s:Nat):Nat→(Nat→Nat→Int)→Nat→Nat→Int
 | 0,g=>g
 | k+1,g=>mTurn s (turns s k g)
def mWay (s w:Nat)(g:Nat→Nat→Int):Nat→Nat→Int:=turns s (w%4) (if 4≤w then mMirr s g else g)
theorem fE (w:Sh sz g t):∀ k,∃ t',Sh sz (turns (2^sz) k g) t'
 | 0=>⟨t,w⟩
 | k+1=>by obtain⟨t',h⟩:=fE w k;exact⟨_,h.mv gr⟩
theorem Sh.way_ex (w:Sh sz g t)(k:Nat):∃ t',Sh sz (mWay (2^sz) k g) t':=by
 unfold mWay
 split
 ·exact fE (w.mv kM) _
 ·exact fE w _
theorem Sh.way (w:Sh sz g t)(k:Nat):Sh sz (mWay (2^sz) k g) (T (mWay (2^sz) k g) sz):=by obtain⟨t',h⟩:=w.way_ex k;exact sh_T h.p.h3 h.wo
theorem jd (w:Sh sz g t){n:Nat}(hn:12≤n):∀ k,lFor (τ:=D) (fun s x=>cM (pf n) s x) ((List.range k).map fun i:Nat=>D.int (i:Int)) (picD sz (T g sz))=.nx (picD sz (T (turns (2^sz) k g) sz)):=fun k =>
 d8 (fun i:Nat=>D.int (i:Int)) (fun i=>picD sz (T (turns (2^sz) i g) sz)) k (fun i _=>by
  obtain⟨t',h⟩:=fE w i
  have:=(sh_T h.p.h3 h.wo).turned hn
  show cM (pf n) (picD sz (T (turns (2^sz) i g) sz)) (.int (i:Int))=_
  unfold cM;simp only[STP,if_true,if_false,ite_true,ite_false,reduceIte,reduceCtorEq,this];rfl)
theorem cR {n:Nat}(hn:2≤n){k:Nat}(hk:k < 8):pf n F.ak [.int (k:Int)]=.ok .non:=by
 obtain⟨n,rfl⟩:∃ j,n=j+1:=⟨n - 1,by omega⟩
 have h1:=fB (n:=n) (by omega) (d:=.int (k:Int)) rfl
 have e:(decide ((0:Int)≤(k:Int))&&decide ((k:Int) < 8))=true:=by simp;omega
 rw[fm,bZ]
 simp only[STP,if_true,if_false,ite_true,ite_false,reduceIte,reduceCtorEq,OPP,h1,e]
 rfl
theorem Sh.byway (w:Sh sz g t){n:Nat}(hn:13≤n){k:Nat}(hk:k < 8):pf n F.af [picD sz t,.int (k:Int)]=.ok (picD sz (T (mWay (2^sz) k g) sz)):=by
 obtain⟨n,rfl⟩:∃ j,n=j+1:=⟨n - 1,by omega⟩
 have e1:=w.lean (n:=n) (by omega)
 have e2:=cR (n:=n) (by omega) hk
 have s:=sh_T w.p.h3 w.wo
 have e3:=s.mirrored (n:=n) (by omega)
 have e4:(k:Int)%4=((k%4:Nat):Int):=by omega
 have e5:=bL (s:=k%4) (by omega)
 have e6:=jd w (n:=n) (by omega) (k%4)
 have e7:=jd (w.mv kM) (n:=n) (by omega) (k%4)
 rw[fV,da]
 simp only[STP,if_true,if_false,ite_true,ite_false,reduceIte,reduceCtorEq,OPP,e1,e2,bJ (show (0:Int) < 4 by decide),e4,e5]
 by_cases h:4≤k
 ·have d:decide ((4:Int)≤(k:Int))=true:=by simp;omega
  simp only[d,STP,if_true,if_false,ite_true,ite_false,reduceIte,reduceCtorEq,e3,e7,mWay,if_pos h]
 ·have d:decide ((4:Int)≤(k:Int))=false:=by simp;omega
  simp only[d,STP,if_true,if_false,ite_true,ite_false,reduceIte,reduceCtorEq,e6,mWay,if_neg h]
end
end Lw
end
section
namespace Lw
open PySem FF
section
variable {sz:Nat}{g g' g'':Nat→Nat→Int}{t t' t'':Q Int}
end
theorem o8 {w:Nat}(hw:w≤1000){n m:Nat}{d:D}(h:th w n d=true)(hm:n+6≤m)(c:sizedOk (inTo 9) n d=false):pf m F.ab [d]=.err 1:=by
 have e:=jU (n:=m) (m:=n) (nQ h) (sX hw _ h) (by omega)
 rw[c]at e;exact e
end Lw
end
section
namespace Lw
open PySem FF
section
variable {sz:Nat}{g:Nat→Nat→Int}{t:Q Int}
theorem Sh.swapped (q:Sh sz g t){n:Nat}(hn:12≤n):pf n F.aA [picD sz t]=.ok (picD sz (T (mSwap (2^sz) g) sz)):=by
 obtain⟨n,rfl,hn⟩:=ex1 (show 11+1≤n by omega)
 have e:=q.moved rk (n:=n) (by omega)
 rw[iF,c9]
 have e':pf n F.aj [picD sz t,tupI [0,2,1,3]]=_:=e
 rw[e']
 rfl
end
section
variable {sz:Nat}{g:Nat→Nat→Int}{t:Q Int}
end
end Lw
end
section
namespace Lw
open PySem FF
structure Bk where
 l:Nat
 t:Nat
 w:Nat
 v:Int
 deriving DecidableEq
def bks:Nat→Q Int→Nat→Nat→List Bk
 | n,.lf v,l,t=>[⟨l,t,2^n,v⟩]
 | 0,.nd _ _ _ _,_,_=>[]
 | n+1,.nd a b c d,l,t=>bks n a l t++(bks n b (l+2^n) t++(bks n c l (t+2^n)++bks n d (l+2^n) (t+2^n)))
end Lw
end
section
namespace Lw
open PySem FF
theorem rm {σ:Type}(a b:D)(k:D→D→L σ):lUn2 (.tup [a,b]) k=k a b:=rfl
section
variable {sz:Nat}{g:Nat→Nat→Int}{t:Q Int}
def bs (sz:Nat)(g:Nat→Nat→Int):List Bk:=bks sz (T g sz) 0 0
end
end Lw
end
section
namespace Lw
open PySem FF
theorem o9 (f:Nat→Nat→Int)(w k:Nat):good 60 (rowsT .int f w k)=true:=m9 En.int.gd f w k 58
section
variable {sz sz':Nat}{g g':Nat→Nat→Int}{t t':Q Int}
end
end Lw
end
section
namespace Lw
open PySem FF
section
variable {s sz:Nat}{g:Nat→Nat→Int}{t:Q Int}
end
end Lw
end
section
namespace Lw
open PySem FF
section
variable {s sz:Nat}{g:Nat→Nat→Int}{t:Q Int}
end
end Lw
end
section
namespace Lw
open PySem FF
section
variable {s:Nat}
end
end Lw
end
section
namespace Lw
open PySem FF
end Lw
namespace Lw
open PySem FF
end Lw
namespace Lw
open PySem FF
end Lw
end
section
namespace Lw
open PySem FF
theorem rn {α:Type}{e:D→R D}{l:List α}(c g:α→D)(h:∀ a∈l,e (c a)=.ok (g a)):cMapE e (l.map c)=.ok (.lst (l.map g)):=by
 have:∀ l:List α,(∀ a∈l,e (c a)=.ok (g a))→cGoE e (l.map c)=.ok (l.map g):=by
  intro l
  induction l with
  | nil=>intro _;rfl
  | cons a l ih =>
   intro h
   rw[List.map_cons,cGoE,h a (.head _),R.bind_ok,ih fun b hb=>h b (.tail _ hb)];rfl
 unfold cMapE
 rw[this l h];rfl
theorem pb {e:D→R D}{x:D}{r:List D}{k:Nat}(h:e x=.err k):cMapE e (x::r)=.err k:=by
 unfold cMapE
 rw[cGoE,h];rfl
theorem revR {α:Type}(f:Nat→α)(s:Nat):((List.range s).map f).reverse=(List.range s).map fun y=>f (s - 1 - y):=by
 apply List.ext_getElem
 ·simp
 ·intro i h1 h2
  simp at h1
  simp[h1]
theorem pc (g:Nat→Nat→Int){s:Nat}(hs:s≤1000){t:Nat→List D→R D}(i:D):bV t (.int (s:Int)) (rowsT .int g s s) i=.nx (rowsT .int (mTurn s g) s s):=by
 have r:=bL (s:=s) (by omega)
 have h:cMap (fun wb=>((rng1 [.int (s:Int)]).bind fun xs1=>cMap (fun wc=>(((dSub (.int (s:Int)) (.int 1)).bind fun x=>dSub x wc).bind fun x1=>dIx (rowsT .int g s s) x1).bind fun x2=>dIx x2 wb) xs1).bind fun x3=>dTuple [x3]) ((List.range s).map fun i=>D.int ((i:Nat):Int))=.ok (.lst ((List.range s).map fun y=>rowT .int (mTurn s g) s y)):=bt _ _ fun y hy=>by
  have hy:=List.mem_range.mp hy
  rw[r,R.bind_ok,bt (fun i:Nat=>D.int (i:Int)) (fun x:Nat=>D.int (mTurn s g x y)) fun x hx=>by
   have hx:=List.mem_range.mp hx
   have e:(s:Int) - 1 - (x:Int)=((s - 1 - x:Nat):Int):=by omega
   rw[aZ,R.bind_ok,aZ,R.bind_ok,e,i6 (by omega),R.bind_ok,kK hy]
   rfl]
  rfl
 unfold bV
 simp only[r,R.bind_ok]at h ⊢
 rw[h]
 rfl
theorem lturns (g:Nat→Nat→Int){s:Nat}(hs:s≤1000){t:Nat→List D→R D}(k:Nat):lFor (τ:=D) (fun r x=>bV t (.int (s:Int)) r x) ((List.range k).map fun i:Nat=>D.int (i:Int)) (rowsT .int g s s)=.nx (rowsT .int (turns s k g) s s) :=
 d8 (fun i:Nat=>D.int (i:Int)) (fun i=>rowsT .int (turns s i g) s s) k fun i _=>pc (turns s i g) hs _
theorem de (g:Nat→Nat→Int){s:Nat}(hs:s≤1000){n:Nat}(hn:1≤n)(k:Nat):pf n F.ai [rowsT .int g s s,.int (k:Int)]=.ok (rowsT .int (mWay s k g) s s):=by
 obtain⟨n,rfl,hn⟩:=ex1 (show 0+1≤n by omega)
 have e4:(k:Int)%4=((k%4:Nat):Int):=by omega
 have e5:=bL (s:=k%4) (by omega)
 have ln:dLen [rowsT .int g s s]=.ok (.int (s:Int)):=by unfold rowsT;rw[cD];simp
 have sqr:sq (rowsT .int g s s)=.ok ((List.range s).map fun y=>rowT .int g s y):=eU (by simp;omega)
 have m:cMap (fun vZ=>dRev vZ) ((List.range s).map fun y=>rowT .int g s y)=.ok (.lst ((List.range s).map fun y=>rowT .int (mMirr s g) s y)):=bt _ _ fun y _=>by
  show R.ok (D.tup ((List.range s).map fun x=>D.int (g x y)).reverse)=_
  rw[revR];rfl
 rw[lI,dv,ln,az,bJ (show (0:Int) < 4 by decide),R.bind_ok,e4,e5]
 by_cases h:4≤k
 ·have d:dGe (.int (k:Int)) (.int 4)=.ok (.bl true):=by rw[et,decide_eq_true (by omega)]
  rw[d,ba,az,if_pos rfl,sqr,R.bind_ok,m,R.bind_ok,dE,az,bM,az]
  have:=lturns (t:=pf n) (mMirr s g) hs (k%4)
  rw[show D.tup ((List.range s).map fun y=>rowT .int (mMirr s g) s y)=rowsT .int (mMirr s g) s s from rfl,this,bM]
  unfold mWay
  rw[if_pos h];rfl
 ·have d:dGe (.int (k:Int)) (.int 4)=.ok (.bl false):=by rw[et,decide_eq_false (by omega)]
  rw[d,ba,az,if_neg (by decide),bM,az,lturns (t:=pf n) g hs (k%4),bM]
  unfold mWay
  rw[if_neg h];rfl
def beh (a b:Nat):Nat:=4*((a/4+b/4)%2)+(if 4≤b then (b+8 - a)%4 else (a+b)%4)
theorem lt8 {a:Nat}(h:a < 8):a=0∨a=1∨a=2∨a=3∨a=4∨a=5∨a=6∨a=7:=by omega
theorem mf {s a b:Nat}(ha:a < 8)(hb:b < 8)(g:Nat→Nat→Int){x y:Nat}(hx:x < s)(hy:y < s):mWay s b (mWay s a g) x y=mWay s (beh a b) g x y:=by
 have h:∀ {a b c d:Nat},a=c→b=d→g a b=g c d:=fun e f=>by rw[e,f]
 rcases lt8 ha with rfl | rfl | rfl | rfl | rfl | rfl | rfl | rfl<;>rcases lt8 hb with rfl | rfl | rfl | rfl | rfl | rfl | rfl | rfl<;>exact h (by omega) (by omega)
theorem uZ {a b:Nat}(ha:a < 8)(hb:b < 8):beh a b < 8:=by unfold beh;split<;>omega
theorem pd {n:Nat}(hn:3≤n){a b:Nat}(ha:a < 8)(hb:b < 8):pf n F.ay [.int (a:Int),.int (b:Int)]=.ok (.int (beh a b:Nat)):=by
 obtain⟨n,rfl,hn⟩:=ex1 (show 2+1≤n by omega)
 have d1:dDiv (.int (a:Int)) (.int 4)=.ok (.int ((a/4:Nat):Int)):=i5 (b:=4) (by decide) (by decide)
 have d2:dDiv (.int (b:Int)) (.int 4)=.ok (.int ((b/4:Nat):Int)):=i5 (b:=4) (by decide) (by decide)
 have m0:0 < (2:Int):=by decide
 have m4:0 < (4:Int):=by decide
 have rif:rIf (asB (dGe (.int (b:Int)) (.int 4))) (dSub (.int (b:Int)) (.int (a:Int))) (dAdd (.int (b:Int)) (.int (a:Int)))=.ok (.int (if 4≤b then (b:Int) - a else (b:Int)+a)):=by
  rw[et,ba]
  by_cases h:4≤b
  ·rw[decide_eq_true (by omega),if_pos h];rfl
  ·rw[decide_eq_false (by omega),if_neg h];rfl
 rw[eD,bG,cR (by omega) ha,az,cR (by omega) hb,az,d1,R.bind_ok,d2,R.bind_ok,aJ,R.bind_ok,bJ m0,az,rif,az,b9 (.inr ⟨by decide,by decide⟩),R.bind_ok,bJ m4,R.bind_ok,aJ,az,nF]
 congr 2
 unfold beh
 split<;>omega
theorem dH {n:Nat}(hn:2≤n){v:Int}(h:¬ (0≤v∧v < 8)):pf n F.ak [.int v]=.err 2:=by
 obtain⟨n,rfl,hn⟩:=ex1 (show 1+1≤n by omega)
 have h1:=fB (n:=n) (by omega) (d:=.int v) rfl
 have e:(decide ((0:Int)≤v)&&decide (v < 8))=false:=by simp;omega
 rw[fm,bZ]
 simp only[STP,if_true,if_false,ite_true,ite_false,reduceIte,reduceCtorEq,OPP,h1,e]
section
variable {sz:Nat}{g:Nat→Nat→Int}{t:Q Int}
theorem Sh.flipped (w:Sh sz g t){n:Nat}(hn:12≤n):pf n F.ap [picD sz t]=.ok (picD sz (T (mFlip (2^sz) g) sz)):=by
 obtain⟨n,rfl⟩:∃ j,n=j+1:=⟨n - 1,by omega⟩
 have h:pf n F.aj [picD sz t,tupI [2,3,0,1]]=_:=w.moved ng (n:=n) (by omega)
 rw[iE,c8];simp only[STP,if_true,if_false,ite_true,ite_false,reduceIte,reduceCtorEq,h]
theorem Sh.allways (w:Sh sz g t){n:Nat}(hn:14≤n):pf n F.aE [picD sz t]=.ok (.lst ((List.range 8).map fun k=>picD sz (T (mWay (2^sz) k g) sz))):=by
 obtain⟨n,rfl,hn⟩:=ex1 (show 13+1≤n by omega)
 have r:rng1 [.int 8]=.ok ((List.range 8).map fun i=>D.int ((i:Nat):Int)):=bL (s:=8) (by decide)
 rw[gA,cy,r,R.bind_ok,rn (fun i:Nat=>D.int (i:Int)) (fun k=>picD sz (T (mWay (2^sz) k g) sz)) fun k hk=>w.byway (by omega) (List.mem_range.mp hk)]
 rfl
theorem Sh.waybad (w:Sh sz g t){n:Nat}(hn:11≤n){v:Int}(h:¬ (0≤v∧v < 8)):pf n F.af [picD sz t,.int v]=.err 2:=by
 obtain⟨n,rfl,hn⟩:=ex1 (show 10+1≤n by omega)
 rw[fV,da,w.lean (by omega),az,dH (by omega) h]
 rfl
end
theorem mh {d:D}{m:Nat}(h:pf m F.ab [d]=.err 1):pf (m+1) F.aJ [d]=.err 1:=by rw[nM,iC,h];rfl
theorem ph {d o:D}{m:Nat}(h:pf m F.aJ [d]=.err 1):pf (m+1) F.aj [d,o]=.err 1:=by rw[lG,fe,h];rfl
theorem jZ {d o:D}{m:Nat}(h:pf m F.aJ [d]=.err 1):pf (m+1) F.af [d,o]=.err 1:=by rw[fV,da,h];rfl
theorem mi {d:D}{m:Nat}(h:pf m F.af [d,.int 0]=.err 1):pf (m+1) F.aE [d]=.err 1:=by
 have r:rng1 [.int 8]=.ok ((List.range 8).map fun i=>D.int ((i:Nat):Int)):=bL (s:=8) (by decide)
 rw[gA,cy,r,R.bind_ok]
 rw[show (List.range 8).map (fun i=>D.int ((i:Nat):Int))=.int 0::(List.range' 1 7).map (fun i=>D.int ((i:Nat):Int)) from rfl,pb h]
 rfl
def spT (s:Nat):Nat→Nat→Nat→Nat×Nat
 | 0,x,y=>(x,y)
 | k+1,x,y=>(s - 1 - (spT s k x y).2,(spT s k x y).1)
theorem kN {s:Nat}(g:Nat→Nat→Int){x y:Nat}(hx:x < s)(hy:y < s):∀ k,(spT s k x y).1 < s∧(spT s k x y).2 < s∧turns s k g (spT s k x y).1 (spT s k x y).2=g x y
 | 0=>⟨hx,hy,rfl⟩
 | k+1=>by
  obtain⟨a,b,c⟩:=kN g hx hy k
  refine⟨?_,a,?_⟩
  ·show s - 1 - _ < s;omega
  ·show turns s k g (spT s k x y).1 (s - 1 - (s - 1 - (spT s k x y).2))=_
   rw[show s - 1 - (s - 1 - (spT s k x y).2)=(spT s k x y).2 by omega];exact c
def sb (s w x y:Nat):Nat×Nat:=spT s (w%4) (if 4≤w then s - 1 - x else x) y
theorem vo {s:Nat}(g:Nat→Nat→Int){x y:Nat}(hx:x < s)(hy:y < s)(w:Nat):(sb s w x y).1 < s∧(sb s w x y).2 < s∧mWay s w g (sb s w x y).1 (sb s w x y).2=g x y:=by
 unfold sb mWay
 by_cases h:4≤w
 ·rw[if_pos h,if_pos h]
  obtain⟨a,b,c⟩:=kN (mMirr s g) (x:=s - 1 - x) (y:=y) (by omega) hy (w%4)
  refine⟨a,b,c.trans ?_⟩
  show g (s - 1 - (s - 1 - x)) y=_
  rw[show s - 1 - (s - 1 - x)=x by omega]
 ·rw[if_neg h,if_neg h]
  exact kN g hx hy (w%4)
theorem nh {n sz:Nat}(hn:1≤n)(h:sz≤3):pf n F.aR [.int (sz:Int)]=.ok (.int ((2^sz:Nat):Int)):=by
 obtain⟨n,rfl,hn⟩:=ex1 (show 0+1≤n by omega)
 rcases i7 h with rfl | rfl | rfl | rfl<;>rfl
theorem tt {n sz w x y:Nat}(hn:2≤n)(h:sz≤3)(hx:x < 2^sz)(hy:y < 2^sz):pf n F.aG [.int (sz:Int),.int (w:Int),.int (x:Int),.int (y:Int)]=.ok (.tup [.int ((sb (2^sz) w x y).1:Nat),.int ((sb (2^sz) w x y).2:Nat)]):=by
 obtain⟨n,rfl,hn⟩:=ex1 (show 1+1≤n by omega)
 generalize hs:2^sz=s at *
 have sd:=nh (n:=n) (by omega) h
 rw[hs]at sd
 have e4:(w:Int)%4=((w%4:Nat):Int):=by omega
 have e5:=bL (s:=w%4) (by omega)
 have lp:∀ a,a < s→lFor (τ:=D) (fun r x=>bP (pf n) (.int ((s:Int) - 1)) r x) ((List.range (w%4)).map fun i:Nat=>D.int (i:Int)) (.tup [.int (a:Int),.int (y:Int)])=.nx (.tup [.int ((spT s (w%4) a y).1:Nat),.int ((spT s (w%4) a y).2:Nat)]):=fun a ha =>
  d8 (fun i:Nat=>D.int (i:Int)) (fun i=>D.tup [.int ((spT s i a y).1:Nat),.int ((spT s i a y).2:Nat)]) (w%4) fun i _=>by
   obtain⟨p,q,_⟩:=kN (fun _ _=>0) ha hy i
   unfold bP
   rw[ix21,R.bind_ok,aZ,R.bind_ok,ix20,R.bind_ok,az]
   rw[show (s:Int) - 1 - ((spT s i a y).2:Nat)=((spT s (i+1) a y).1:Nat) by show _=((s - 1 - (spT s i a y).2:Nat):Int);omega]
   rfl
 rw[iG,bU,sd,R.bind_ok,aZ,az,bJ (show (0:Int) < 4 by decide),R.bind_ok,e4,e5]
 unfold sb
 by_cases h:4≤w
 ·have d:dGe (.int (w:Int)) (.int 4)=.ok (.bl true):=by rw[et,decide_eq_true (by omega)]
  rw[d,ba,az,if_pos rfl,aZ,R.bind_ok,az,bM,az,show (s:Int) - 1 - (x:Int)=((s - 1 - x:Nat):Int) by omega,lp (s - 1 - x) (by omega),bM,if_pos h]
  rfl
 ·have d:dGe (.int (w:Int)) (.int 4)=.ok (.bl false):=by rw[et,decide_eq_false (by omega)]
  rw[d,ba,az,if_neg (by decide),bM,az,lp x hx,bM,if_neg h]
  rfl
end Lw
end
section
namespace Lw
open PySem FF
def tw (t:Nat→List D→R D)(r:R D):L Unit:=lTry (τ:=D) (qTk esL) (lB r .nx) (fun x=>.rt x) (fun k=>lB (t F.aw [.exc k]) .rt)
theorem u0 {t:Nat→List D→R D}{k:Nat}{d:D}(hk:qTk esL k=true)(h:t F.aw [.exc k]=.ok d):outL (tw t (.err k))=.ok d:=by
 unfold tw
 rw[qm,ss,if_pos hk,h];rfl
theorem d0 (t:Nat→List D→R D)(a b:D):aY t (.int 0) a b=tw t (t F.ag [a]):=rfl
theorem d1 (t:Nat→List D→R D)(a b:D):aY t (.int 1) a b=tw t (t F.ae [a]):=rfl
theorem d2 (t:Nat→List D→R D)(a b:D):aY t (.int 2) a b=tw t (t F.ap [a]):=rfl
theorem d3 (t:Nat→List D→R D)(a b:D):aY t (.int 3) a b=tw t (t F.aA [a]):=rfl
theorem d4 (t:Nat→List D→R D)(a b:D):aY t (.int 4) a b=tw t (t F.af [a,b]):=rfl
theorem d5 (t:Nat→List D→R D)(a b:D):aY t (.int 5) a b=tw t (t F.ay [a,b]):=rfl
theorem d6 (t:Nat→List D→R D)(a b:D):aY t (.int 6) a b=tw t (t F.aE [a]):=rfl
theorem od {m:Nat}{w a b d:D}{r:R D}(h:aY (pf m) w a b=tw (pf m) r)(hr:r=.ok d):pf (m+1) F.aa [w,a,b]=.ok d:=by rw[jP,h,hr];rfl
theorem oe {m:Nat}{w a b d:D}{r:R D}{k:Nat}(h:aY (pf m) w a b=tw (pf m) r)(hr:r=.err k)(hk:qTk esL k=true)(hw:pf m F.aw [.exc k]=.ok d):pf (m+1) F.aa [w,a,b]=.ok d:=by rw[jP,h,hr,u0 hk hw]
theorem word2 {m:Nat}(hm:1≤m):pf m F.aw [.exc 2]=.ok (.str "no spot"):=by
 obtain⟨m,rfl,hm⟩:=ex1 hm
 rw[jO,dQ]
 rfl
theorem ro (s:Str):dNf (.str s) (.str s)=.ok (.bl false):=by rw[lX rfl rfl,o0 (n:=1) rfl];rfl
def m2 (x y:Nat):Int:=2*(y:Int)+x
theorem tu:(D.tup [(.tup [(.int 0),(.int 1)]),(.tup [(.int 2),(.int 3)])])=rowsT .int m2 2 2:=rfl
def mk (x y:Nat)(i j:Nat):Int:=if x=i∧y=j then 1 else 0
theorem tz (x y i j:Nat):((dEq (.tup [.int (x:Int),.int (y:Int)]) (.tup [.int (i:Int),.int (j:Int)])).bind fun x5=>dIntB [x5])=.ok (.int (mk x y i j)):=by
 rw[iX rfl rfl,R.bind_ok]
 have:eqD (.tup [.int (x:Int),.int (y:Int)]) (.tup [.int (i:Int),.int (j:Int)])=decide (x=i∧y=j):=by
  simp only[eqD,eqDs,Bool.and_true]
  by_cases h1:x=i<;>by_cases h2:y=j<;>simp[h1,h2]<;>omega
 rw[this]
 unfold mk
 by_cases h:x=i∧y=j
 ·rw[if_pos h,decide_eq_true h];rfl
 ·rw[if_neg h,decide_eq_false h];rfl
theorem rowsEqW {s a b:Nat}(ha:a < 8)(hb:b < 8)(g:Nat→Nat→Int):rowsT .int (mWay s b (mWay s a g)) s s=rowsT .int (mWay s (beh a b) g) s s:=gF fun x y hx hy=>mf ha hb g hx hy
theorem pi {sz:Nat}(h3:sz≤3)(ns:List Int)(k:Nat){a b:Nat}(ha:a < 8)(hb:b < 8){n:Nat}(hn:5≤n) :
  pf n F.aq [scr ns,.int (k:Int),.int ((2^sz:Nat):Int),.tup [.int (a:Int),.int (b:Int),.int (beh a b:Nat)]]=.ok (.bl true):=by
 obtain⟨n,rfl,hn⟩:=ex1 (show 4+1≤n by omega)
 have h1:=pos2 sz
 have h8:=p8 h3
 have p1:=fC (n:=n) (by omega) ns k (m:=((2^sz:Nat):Int)) (by omega)
 have p2:=dF (n:=n) (by omega) ns (k+1) (a:=(k:Int)+1) (m:=((2^sz:Nat):Int)) (by omega) (by omega)
 have a0:=eE (ns:=ns) (k:=k) (m:=((2^sz:Nat):Int)) (by omega)
 have a1:=eF (ns:=ns) (k:=k) (m:=((2^sz:Nat):Int)) (by omega)
 have b0:=eE (ns:=ns) (k:=k+1) (m:=((2^sz:Nat):Int)) (by omega)
 have b1:=eF (ns:=ns) (k:=k+1) (m:=((2^sz:Nat):Int)) (by omega)
 obtain⟨x,hx⟩:∃ a:Nat,pk ns k ((2^sz:Nat):Int)=(a:Int):=⟨(pk ns k ((2^sz:Nat):Int)).toNat,by omega⟩
 obtain⟨y,hy⟩:∃ a:Nat,pk ns (k+1) ((2^sz:Nat):Int)=(a:Int):=⟨(pk ns (k+1) ((2^sz:Nat):Int)).toNat,by omega⟩
 rw[hx]at p1 a1
 rw[hy]at p2 b1
 have lx:x < 2^sz:=by omega
 have ly:y < 2^sz:=by omega
 have ix:=i8 h3
 have sp:=tt (n:=n) (w:=a) (by omega) h3 lx ly
 obtain⟨s1,s2,s3⟩:=vo (mk x y) lx ly a
 generalize hS:2^sz=s at *
 have w1:=de m2 (s:=2) (by decide) (n:=n) (by omega) a
 have w2:=de (mWay 2 a m2) (s:=2) (by decide) (n:=n) (by omega) b
 have w3:=de m2 (s:=2) (by decide) (n:=n) (by omega) (beh a b)
 rw[rowsEqW ha hb]at w2
 have w4:=de (mk x y) (s:=s) (by omega) (n:=n) (by omega) a
 have r:=bL (s:=s) (by omega)
 have mkr:cMap (fun wK=>((rng1 [.int (s:Int)]).bind fun xs1=>cMap (fun wL=>(dEq (.tup [.int (x:Int),.int (y:Int)]) (.tup [wL,wK])).bind fun x5=>dIntB [x5]) xs1).bind fun x6=>dTuple [x6]) ((List.range s).map fun i=>D.int ((i:Nat):Int))=.ok (.lst ((List.range s).map fun j=>rowT .int (mk x y) s j)):=bt _ _ fun j _=>by
  rw[r,R.bind_ok,bt (fun i:Nat=>D.int (i:Int)) (fun i:Nat=>D.int (mk x y i j)) fun i _=>tz x y i j]
  rfl
 simp only[r,R.bind_ok]at mkr
 have c1:rCh dLe dLt (.int 0) (.int ((sb s a x y).1:Nat)) (.ok (.int (s:Int)))=.ok (.bl true):=by
  rw[dZ,decide_eq_true (by omega),decide_eq_true (by omega)];rfl
 have c2:rCh dLe dLt (.int 0) (.int ((sb s a x y).2:Nat)) (.ok (.int (s:Int)))=.ok (.bl true):=by
  rw[dZ,decide_eq_true (by omega),decide_eq_true (by omega)];rfl
 have mm:mk x y x y=1:=by unfold mk;rw[if_pos ⟨rfl,rfl⟩]
 have un3:∀ (k:D→D→D→L Unit),lUn3 (.tup [.int (a:Int),.int (b:Int),.int (beh a b:Nat)]) k=k (.int (a:Int)) (.int (b:Int)) (.int (beh a b:Nat)):=fun _=>rfl
 have g2:good 60 (rowsT .int (mWay 2 (beh a b) m2) 2 2)=true:=o9 _ _ _
 rw[fu,bi,az,un3,tu,w1,R.bind_ok,w2,R.bind_ok,w3,R.bind_ok,cH g2,ba,az,if_neg (by decide),bM,p1,az,aJ,R.bind_ok,p2,az,sW,ix,R.bind_ok,sp,az,rm,c1,c2,ba]
 simp only[r,R.bind_ok]
 rw[mkr,R.bind_ok,dE,az]
 rw[show D.tup ((List.range s).map fun j=>rowT .int (mk x y) s j)=rowsT .int (mk x y) s s from rfl,w4,R.bind_ok,i6 s2,R.bind_ok,kK s1,R.bind_ok,s3,mm]
 rfl
theorem good2 (a b:Int):((sq (.tup [.int a,.int b])).bind fun xs=>cMap (fun vL=>rCh dLe dLt (.int 0) vL (.ok (.int 8))) xs)=.ok (.lst [.bl (decide (0≤a)&&decide (a < 8)),.bl (decide (0≤b)&&decide (b < 8))]):=by
 rw[show sq (.tup [.int a,.int b])=.ok [.int a,.int b] from rfl,R.bind_ok]
 simp only[cMap,cGo,dZ,R.bind_ok]
section
variable {sz:Nat}{g:Nat→Nat→Int}{t:Q Int}
def everyD (sz:Nat)(g:Nat→Nat→Int):D:=.lst ((List.range 8).map fun k=>picD sz (T (mWay (2^sz) k g) sz))
theorem df {k:Nat}(h:k < 8):dIx (everyD sz g) (.int (k:Int))=.ok (picD sz (T (mWay (2^sz) k g) sz)):=ixL (by simp[h])
theorem tF (q:Sh sz g t)(ns:List Int)(k:Nat):cj (pf 39) (scr ns) (picD sz t) (.int ((2^sz:Nat):Int)) (everyD sz g) (.int (k:Int))=.nx ():=by
 have h3:=q.p.h3
 have p1:=dF (n:=39) (by decide) ns (5000+2*k) (a:=5000+2*(k:Int)) (m:=10) (by omega) (by decide)
 have p2:=dF (n:=39) (by decide) ns (5001+2*k) (a:=5001+2*(k:Int)) (m:=10) (by omega) (by decide)
 have a0:=eE (ns:=ns) (k:=5000+2*k) (m:=10) (by decide)
 have a1:=eF (ns:=ns) (k:=5000+2*k) (m:=10) (by decide)
 have b0:=eE (ns:=ns) (k:=5001+2*k) (m:=10) (by decide)
 have b1:=eF (ns:=ns) (k:=5001+2*k) (m:=10) (by decide)
 generalize pk ns (5000+2*k) 10=u at *
 generalize pk ns (5001+2*k) 10=v at *
 have mk2:dMul (.int 2) (.int (k:Int))=.ok (.int (2*(k:Int))):=b9 (.inr ⟨by decide,by decide⟩)
 unfold cj
 rw[mk2,R.bind_ok,aJ,R.bind_ok,p1,R.bind_ok,aZ,az,R.bind_ok,aJ,R.bind_ok,p2,R.bind_ok,aZ,az,good2,az]
 have gx:∀ p r:Bool,dIx (.lst [.bl p,.bl r]) (.int 0)=.ok (.bl p):=fun _ _=>rfl
 rw[gx,ba]
 have A:(pf 39 F.aa [(.int 4),picD sz t,.int (u - 1)]).bind (fun x6=>(rIf (R.ok (decide (0≤u - 1)&&decide (u - 1 < 8))) (dIx (everyD sz g) (.int (u - 1))) (.ok (.str "no spot"))).bind fun x7=>dNf x6 x7)=.ok (.bl false):=by
  by_cases h:0≤u - 1∧u - 1 < 8
  ·obtain⟨a,ea⟩:∃ a:Nat,u - 1=(a:Int):=⟨(u - 1).toNat,by omega⟩
   rw[ea]at h ⊢
   have la:a < 8:=by omega
   rw[od (m:=38) (d4 _ _ _) (q.byway (by decide) la),R.bind_ok,decide_eq_true h.1,decide_eq_true h.2]
   show (rIf (R.ok true) _ _).bind _=_
   rw[tO,df la,R.bind_ok,cH (q.way a).p.g60]
  ·rw[oe (m:=38) (d4 _ _ _) (q.waybad (by decide) h) (by decide) (word2 (m:=38) (by decide)),R.bind_ok,show (decide (0≤u - 1)&&decide (u - 1 < 8))=false by simp;omega,tQ,R.bind_ok,ro]
 rw[A,ba,az,if_neg (by decide),bM]
 by_cases h:(0≤u - 1∧u - 1 < 8)∧(0≤v - 1∧v - 1 < 8)
 ·obtain⟨ha,hb⟩:=h
  obtain⟨a,ea⟩:∃ a:Nat,u - 1=(a:Int):=⟨(u - 1).toNat,by omega⟩
  obtain⟨b,eb⟩:∃ b:Nat,v - 1=(b:Int):=⟨(v - 1).toNat,by omega⟩
  rw[ea]at ha ⊢
  rw[eb]at hb ⊢
  have la:a < 8:=by omega
  have lb:b < 8:=by omega
  have lc:=uZ la lb
  have lr:=pi (n:=39) h3 ns (5020+2*k) la lb (by decide)
  have e20:(5020:Int)+2*(k:Int)=((5020+2*k:Nat):Int):=by omega
  have c:rCh dLe dLt (.int 0) (.int ((beh a b:Nat):Int)) (.ok (.int 8))=.ok (.bl true):=by
   rw[dZ,decide_eq_true (by omega),decide_eq_true (by omega)];rfl
  have bw:(((pf 39 F.af [picD sz t,.int (a:Int)]).bind fun x8=>pf 39 F.af [x8,.int (b:Int)]).bind fun x9=>(dIx (everyD sz g) (.int ((beh a b:Nat):Int))).bind fun x10=>dNf x9 x10)=.ok (.bl false):=by
   rw[q.byway (by decide) la,R.bind_ok,(q.way a).byway (by decide) lb,R.bind_ok,df lc,R.bind_ok,aS sz _ _ fun x y hx hy=>mf la lb g hx hy,cH (q.way _).p.g60]
  have dn:dNf (.lst [.bl true,.bl true]) (.lst [.bl true,.bl true])=.ok (.bl false):=rfl
  have ii:dIsA qInt (.int ((beh a b:Nat):Int))=.ok (.bl true):=rfl
  rw[od (m:=38) (d5 _ _ _) (pd (by decide) la lb),az,decide_eq_true ha.1,decide_eq_true ha.2,decide_eq_true hb.1,decide_eq_true hb.2]
  show lB (asB (dNf (.lst [.bl true,.bl true]) (.lst [.bl true,.bl true]))) _=_
  rw[dn,ba,az,if_neg (by decide),ii,c,bw,R.bind_ok,aJ,R.bind_ok,e20,lr]
  rfl
 ·have tl:pf 39 F.aa [.int 5,.int (u - 1),.int (v - 1)]=.ok (.str "no spot"):=by
   refine oe (m:=38) (d5 _ _ _) (k:=2) ?_ (by decide) (word2 (m:=38) (by decide))
   rw[eD,bG]
   by_cases h1:0≤u - 1∧u - 1 < 8
   ·obtain⟨a,ea⟩:∃ a:Nat,u - 1=(a:Int):=⟨(u - 1).toNat,by omega⟩
    rw[ea]at h1 h ⊢
    rw[cR (by decide) (show a < 8 by omega),az,dH (by decide) fun z=>h ⟨h1,z⟩]
    rfl
   ·rw[dH (by decide) h1];rfl
  have dn:dNf (.lst [.bl (decide (0≤u - 1)&&decide (u - 1 < 8)),.bl (decide (0≤v - 1)&&decide (v - 1 < 8))]) (.lst [.bl true,.bl true])=.ok (.bl true):=by
   by_cases h1:0≤u - 1∧u - 1 < 8
   ·have h2:¬ (0≤v - 1∧v - 1 < 8):=fun z=>h ⟨h1,z⟩
    rw[show (decide (0≤v - 1)&&decide (v - 1 < 8))=false by simp;omega,show (decide (0≤u - 1)&&decide (u - 1 < 8))=true by simp;omega];rfl
   ·rw[show (decide (0≤u - 1)&&decide (u - 1 < 8))=false by simp;omega]
    cases (decide (0≤v - 1)&&decide (v - 1 < 8))<;>rfl
  rw[tl,az,dn,ba,az,if_pos rfl,ro]
  rfl
end
theorem jt (ns:List Int):pf 40 F.aH [.lst (ns.map .int)]=.ok (.bl true):=by
 obtain⟨sz,t,_,p,hp⟩:=sS ns 0 3 39 (by decide) (by decide)
 have hp':pf 39 F.aF [scr ns,.int 0,.int 3]=.ok (picD sz t):=hp
 have q:=p.sh
 have h3:=p.h3
 have h8:=p8 h3
 have h1:=pos2 sz
 generalize t.at sz=g at *
 have lr:=q.lrows (n:=39) (by decide)
 have ln:dLen [rowsT .int g (2^sz) (2^sz)]=.ok (.int ((2^sz:Nat):Int)):=by unfold rowsT;rw[cD];simp
 have r8:rng1 [.int 8]=.ok ((List.range 8).map fun i=>D.int ((i:Nat):Int)):=bL (s:=8) (by decide)
 have r4:rng1 [.int 4]=.ok ((List.range 4).map fun i=>D.int ((i:Nat):Int)):=bL (s:=4) (by decide)
 have ev:cMap (fun vL=>(pf 39 F.ai [rowsT .int g (2^sz) (2^sz),vL]).bind fun x=>pf 39 F.aK [x]) ((List.range 8).map fun i=>D.int ((i:Nat):Int))=.ok (everyD sz g):=bt _ _ fun k _=>by
  rw[de g (by omega) (by decide) k,R.bind_ok,q9 _ h3 (by decide)]
 have rs:=bL (s:=2^sz) (by omega)
 have cr:cMap (fun wb=>((rng1 [.int ((2^sz:Nat):Int)]).bind fun xs2=>cMap (fun wc=>(dIx (rowsT .int g (2^sz) (2^sz)) wc).bind fun x1=>dIx x1 wb) xs2).bind fun x2=>dTuple [x2]) ((List.range (2^sz)).map fun i=>D.int ((i:Nat):Int))=.ok (.lst ((List.range (2^sz)).map fun y=>rowT .int (mSwap (2^sz) g) (2^sz) y)):=bt _ _ fun y hy=>by
  have hy:=List.mem_range.mp hy
  rw[rs,R.bind_ok,bt (fun i:Nat=>D.int (i:Int)) (fun x:Nat=>D.int (mSwap (2^sz) g x y)) fun x hx=>by
   have hx:=List.mem_range.mp hx
   rw[i6 hx,R.bind_ok,kK hy];rfl]
  rfl
 simp only[rs,R.bind_ok]at cr
 have rv:dRev (rowsT .int g (2^sz) (2^sz))=.ok (rowsT .int (mFlip (2^sz) g) (2^sz) (2^sz)):=by
  show R.ok (D.tup ((List.range (2^sz)).map fun y=>rowT .int g (2^sz) y).reverse)=_
  rw[revR];rfl
 have lF:=q9 (n:=39) (mFlip (2^sz) g) h3 (by decide)
 have lS:=q9 (n:=39) (mSwap (2^sz) g) h3 (by decide)
 have z0:pf 39 F.aa [.int 0,picD sz t,.non]=_:=od (m:=38) (d0 _ _ _) (q.turned (by decide))
 have z1:pf 39 F.aa [.int 1,picD sz t,.non]=_:=od (m:=38) (d1 _ _ _) (q.mirrored (by decide))
 have z2:pf 39 F.aa [.int 2,picD sz t,.non]=_:=od (m:=38) (d2 _ _ _) (q.flipped (by decide))
 have z3:pf 39 F.aa [.int 3,picD sz t,.non]=_:=od (m:=38) (d3 _ _ _) (q.swapped (by decide))
 have z6:pf 39 F.aa [.int 6,picD sz t,.non]=.ok (everyD sz g):=od (m:=38) (d6 _ _ _) (q.allways (by decide))
 have four:cMap (fun vS=>pf 39 F.aa [vS,picD sz t,.non]) [.int 0,.int 1,.int 2,.int 3]=_:=cMap4 z0 z1 z2 z3
 have e0:dIx (everyD sz g) (.int 0)=.ok (picD sz (T g sz)):=df (k:=0) (by decide)
 have e1:dIx (everyD sz g) (.int 1)=.ok (picD sz (T (mTurn (2^sz) g) sz)):=df (k:=1) (by decide)
 have e2:dIx (everyD sz g) (.int 2)=.ok (picD sz (T (mWay (2^sz) 2 g) sz)):=df (k:=2) (by decide)
 have e4:dIx (everyD sz g) (.int 4)=.ok (picD sz (T (mMirr (2^sz) g) sz)):=df (k:=4) (by decide)
 have gd:∀ {h:Nat→Nat→Int},Wo h sz→good 59 (picD sz (T h sz))=true:=fun w=>cO (sh_T h3 w).p.good (by decide)
 have gev:good 60 (everyD sz g)=true:=by
  unfold everyD
  have:∀ l:List Nat,goods 59 (l.map fun k=>picD sz (T (mWay (2^sz) k g) sz))=true:=by
   intro l
   induction l with
   | nil=>rfl
   | cons k l ih =>
    show (good 59 _&&goods 59 _)=true
    rw[gd (q.way k).wo,ih];rfl
  exact this _
 have gdue:good 60 (.lst [picD sz (T (mTurn (2^sz) g) sz),picD sz (T (mMirr (2^sz) g) sz),picD sz (T (mFlip (2^sz) g) sz),picD sz (T (mSwap (2^sz) g) sz)])=true:=by
  show (good 59 _&&(good 59 _&&(good 59 _&&(good 59 _&&true))))=true
  rw[gd (q.mv gr).wo,gd (q.mv kM).wo,gd (q.mv ng).wo,gd (q.mv rk).wo];rfl
 have lp:=l5 (f:=fun _ x=>cj (pf 39) (scr ns) (picD sz t) (.int ((2^sz:Nat):Int)) (everyD sz g) x) ((List.range 4).map fun i=>D.int ((i:Nat):Int)) (fun d hd=>by
  obtain⟨k,_,rfl⟩:=List.mem_map.1 hd
  exact tF q ns k)
 have qt:=q.mv gr
 have qtt:=qt.mv gr
 have qttt:=qtt.mv gr
 have t1:=q.turned (n:=39) (by decide)
 have t2:=qt.turned (n:=39) (by decide)
 have t3:=qtt.turned (n:=39) (by decide)
 have t4:=qttt.turned (n:=39) (by decide)
 rw[aS sz (mTurn (2^sz) (mTurn (2^sz) (mTurn (2^sz) (mTurn (2^sz) g)))) g fun x y hx hy=>by
  show g (2^sz - 1 - (2^sz - 1 - x)) (2^sz - 1 - (2^sz - 1 - y))=_
  rw[show 2^sz - 1 - (2^sz - 1 - x)=x by omega,show 2^sz - 1 - (2^sz - 1 - y)=y by omega]]at t4
 have f1:=q.flipped (n:=39) (by decide)
 have f2:=(q.mv ng).mirrored (n:=39) (by decide)
 have f2':pf 39 F.ae [picD sz (T (mFlip (2^sz) g) sz)]=.ok (picD sz (T (mWay (2^sz) 2 g) sz)):=f2
 have gT:=(sh_T h3 q.wo).p.g60
 have gW:=(q.way 2).p.g60
 obtain⟨bad,tb',eb⟩:=o6 (w:=5) (n:=4) (by decide) (by decide) (by decide) (by decide) p.th (m:=39) (by decide) ns 5200
 have eb':pf 39 F.ad [scr ns,.int 5200,picD sz t]=.ok bad:=eb
 have iq:=jY (w:=5) (by decide) (n:=4) tb' (m:=39) (by decide) (by decide)
 have BAD:vOr (pf 39 F.an [bad]) (((sq (.tup [(.int 0),(.int 1),(.int 2),(.int 3),(.int 4),(.int 6)])).bind fun xs6=>cMap (fun wF=>pf 39 F.aa [wF,bad,(.int 0)]) xs6).bind fun x33=>(dMul (.lst [(.str "no picture")]) (.int 6)).bind fun x34=>dEq x33 x34)=.ok (.bl true):=by
  rw[iq]
  cases c4:sizedOk (inTo 9) 4 bad with
  | true=>rfl
  | false =>
   have cb:∀ m,30≤m→pf m F.ab [bad]=.err 1:=fun m hm=>by
    have h1:=jY (w:=5) (by decide) (n:=5) (rf (Nat.le_refl 5) tb' (show 5≤6 by decide)) (m:=39) (by decide) (by decide)
    rw[iq,c4]at h1
    exact o8 (n:=5) (by decide) tb' (by omega) (D.bl.inj (R.ok.inj h1)).symm
   have w1:=word1 (m:=38) (by decide)
   have lb:=mh (cb 35 (by decide))
   have mb:∀ o,pf 37 F.aj [bad,o]=.err 1:=fun o=>ph lb
   have y0:pf 39 F.aa [.int 0,bad,.int 0]=_:=oe (m:=38) (d0 _ _ _) (by rw[jM,dO,mb];rfl) (by decide) w1
   have y1:pf 39 F.aa [.int 1,bad,.int 0]=_:=oe (m:=38) (d1 _ _ _) (by rw[gz,cx,mb];rfl) (by decide) w1
   have y2:pf 39 F.aa [.int 2,bad,.int 0]=_:=oe (m:=38) (d2 _ _ _) (by rw[iE,c8,mb];rfl) (by decide) w1
   have y3:pf 39 F.aa [.int 3,bad,.int 0]=_:=oe (m:=38) (d3 _ _ _) (by rw[iF,c9,mb];rfl) (by decide) w1
   have lb':=mh (cb 36 (by decide))
   have y4:pf 39 F.aa [.int 4,bad,.int 0]=_:=oe (m:=38) (d4 _ _ _) (jZ lb') (by decide) w1
   have y6:pf 39 F.aa [.int 6,bad,.int 0]=_:=oe (m:=38) (d6 _ _ _) (mi (jZ lb)) (by decide) w1
   rw[tN,eU (by decide),R.bind_ok]
   simp only[cMap,cGo,y0,y1,y2,y3,y4,y6,R.bind_ok]
   rfl
 have pf39:pf 39 F.aK [.tup ((List.range (2^sz)).map fun y=>rowT .int (mSwap (2^sz) g) (2^sz) y)]=.ok (picD sz (T (mSwap (2^sz) g) sz)):=lS
 rw[show D.lst (ns.map .int)=scr ns from rfl,mP,em,hp',az,lr,az,ln,az,r8,R.bind_ok,ev,az]
 simp only[rs,R.bind_ok]
 rw[cr,R.bind_ok,dE,R.bind_ok,pf39,az,e1,R.bind_ok,e4,R.bind_ok,rv,R.bind_ok,lF,R.bind_ok,az,r4,R.bind_ok,z6,R.bind_ok,cH gev]
 rw[show (List.range 4).map (fun i=>D.int ((i:Nat):Int))=[.int 0,.int 1,.int 2,.int 3] from rfl,four,R.bind_ok,cH gdue,ba,iZ,Bool.or_self,az,if_neg (by decide),bM,az]
 rw[show [D.int 0,.int 1,.int 2,.int 3]=(List.range 4).map (fun i=>D.int ((i:Nat):Int)) from rfl,lp,bM,t1,R.bind_ok,t2,R.bind_ok,t3,R.bind_ok,t4,R.bind_ok,e0,R.bind_ok,cH gT,f1,R.bind_ok,f2',R.bind_ok,e2,R.bind_ok,cH gW,ba,iZ,Bool.or_self,az,if_neg (by decide),bM,eb',az,BAD]
 rfl
end Lw
end
end
noncomputable section
set_option maxHeartbeats 4000000
namespace Lw
open PySem PySem.Spec PyProof.Rows L2 FF
def cname:Nat→Str
 | 0 => "FourError"
 | 1 => "NoPicture"
 | 2 => "NoSpot"
 | 3 => "BadBox"
 | 4 => "Unlike"
 | 5 => "NoRule"
 | 6 => "NoBlocks"
 | 7 => "NoChange"
 | 8 => "NoNumber"
 | 9 => "NothingDone"
 | 10 => "NoText"
 | 21 => "is_worth"
 | 125 => "turned"
 | 84 => "mirrored"
 | 126 => "flipped"
 | 71 => "swapped"
 | _ => "?"
def Cof (K:PySem.W.Frag)(i:Nat):Addr:=match PySem.W.nsIn K mainGlobals (cname i) with
 | some (some (.ref a))=>a
 | _=>0
theorem cof {K:PySem.W.Frag}{i:Nat}{x:Str}{a:Addr}(h:Ng K x (some (.ref a)))(hx:cname i=x:=by rfl):Cof K i=a:=by unfold Cof;rw[hx,h]
structure Fds (K:PySem.W.Frag)(mg:Str→Option Value):Prop where
 F20:Fd K mg "is_whole" ["thing"] eM
 F21:Fd K mg "is_worth" ["thing"] eN
 F22:Fd K mg "is_size" ["thing"] fW
 F23:Fd K mg "is_tree" ["size","thing","is_end"] fX
 F24:Fd K mg "is_sized_tree" ["thing","is_end"] cc
 F25:Fd K mg "put_together" ["four"] cB
 F26:Fd K mg "lean_tree" ["tree"] dR
 F27:Fd K mg "is_picture" ["thing"] dz
 F28:Fd K mg "check_picture" ["thing"] ce
 F29:Fd K mg "lean" ["picture"] mS
 F69:Fd K mg "moved_tree" ["tree","order"] dA
 F70:Fd K mg "moved" ["picture","order"] ky
 F125:Fd K mg "turned" ["picture"] iI
 F84:Fd K mg "mirrored" ["picture"] eO
 F126:Fd K mg "flipped" ["picture"] f8
 F71:Fd K mg "swapped" ["picture"] f9
 F127:Fd K mg "check_way" ["thing"] dS
 F128:Fd K mg "by_way" ["picture","way"] iJ
 F129:Fd K mg "all_ways" ["picture"] eQ
 F130:Fd K mg "side_at" ["size"] gg
 F131:Fd K mg "spot_behind" ["size","way","x","y"] cW
 F132:Fd K mg "behind_way" ["one","other"] dC
 F30:Fd K mg "_law_cell" ["_law_script","_law_k"] iK
 F31:Fd K mg "_law_pick" ["_law_script","_law_k","_law_many"] iL
 F32:Fd K mg "_law_tree" ["_law_script","_law_at","_law_size"] iM
 F33:Fd K mg "_law_picture" ["_law_script","_law_at","_law_most"] dU
 F54:Fd K mg "_law_rows_of" ["_law_size","_law_tree_here"] dW
 F55:Fd K mg "_law_rows" ["_law_picture_here"] iO
 F56:Fd K mg "_law_least" ["_law_rows_here"] gh
 F57:Fd K mg "_law_of" ["_law_rows_here"] mV
 F34:Fd K mg "_law_places" ["_law_thing"] eR
 F35:Fd K mg "_law_put" ["_law_thing","_law_place","_law_new"] kA
 F36:Fd K mg "_law_there" ["_law_thing","_law_place"] gi
 F37:Fd K mg "_law_spoilt_thing" ["_law_script","_law_at","_law_thing"] bQ
 F38:Fd K mg "_law_is_picture" ["_law_thing"] cC
 F39:Fd K mg "_law_is_tree" ["_law_thing","_law_size"] dY
 F133:Fd K mg "_law_by_way" ["_law_rows_here","_law_way"] eT
 F40:Fd K mg "_law_word" ["_law_kept"] iP
 F134:Fd K mg "_law_do" ["_law_what","_law_one","_law_other"] iQ
 F135:Fd K mg "_law_is_led_right" ["_law_script","_law_at","_law_side","_law_ways"] bS
 F136:Fd K mg "law" ["_law_script"] a7
theorem tab {P:Program}{w:World}{K:PySem.W.Frag}{mg:Str→Option Value}{base:Heap}{C:Nat→Addr}(T:Txt K mg C w.params)(S:Fds K mg):∀ n,Tab P w K mg base C n (pf n)
 | 0=>⟨g0 S.F20,g0 S.F21,g0 S.F22,g0 S.F23,g0 S.F24,g0 S.F25,g0 S.F26,g0 S.F27,g0 S.F28,g0 S.F29,g0 S.F69,g0 S.F70,g0 S.F125,g0 S.F84,g0 S.F126,g0 S.F71,g0 S.F127,g0 S.F128,g0 S.F129,g0 S.F130,g0 S.F131,g0 S.F132,g0 S.F30,g0 S.F31,g0 S.F32,g0 S.F33,g0 S.F54,g0 S.F55,g0 S.F56,g0 S.F57,g0 S.F34,g0 S.F35,g0 S.F36,g0 S.F37,g0 S.F38,g0 S.F39,g0 S.F133,g0 S.F40,g0 S.F134,g0 S.F135,g0 S.F136,
  fun i hi=>by
  simp only[fvL,List.mem_cons,List.not_mem_nil,or_false]at hi
  rcases hi with rfl | rfl | rfl | rfl | rfl
  ·exact lw S.F21 T.f_is_worth
  ·exact lw S.F125 T.f_turned
  ·exact lw S.F84 T.f_mirrored
  ·exact lw S.F126 T.f_flipped
  ·exact lw S.F71 T.f_swapped⟩
 | n+1=>by
  have G:=tab T S n (P:=P) (w:=w) (base:=base)
  exact⟨g1 S.F20 (lP T G),g1 S.F21 (gD T G),g1 S.F22 (mW T G),g1 S.F23 (mX T G),g1 S.F24 (gm T G),g1 S.F25 (gM T G),g1 S.F26 (kC T G),g1 S.F27 (jq T G),g1 S.F28 (gn T G),g1 S.F29 (sG T G),g1 S.F69 (jr T G),g1 S.F70 (qF T G),g1 S.F125 (jS T G),g1 S.F84 (gE T G),g1 S.F126 (iR T G),g1 S.F71 (iS T G),g1 S.F127 (kD T G),g1 S.F128 (oN T G),g1 S.F129 (lQ T G),g1 S.F130 (mY T G),g1 S.F131 (iT T G),g1 S.F132 (js T G),g1 S.F30 (oO T G),g1 S.F31 (oP T G),g1 S.F32 (oQ T G),g1 S.F33 (kE T G),g1 S.F54 (kF T G),g1 S.F55 (oR T G),g1 S.F56 (mZ T G),g1 S.F57 (sH T G),g1 S.F34 (lR T G),g1 S.F35 (qG T G),g1 S.F36 (m5 T G),g1 S.F37 (fw T G),g1 S.F38 (gN T G),g1 S.F39 (kG T G),g1 S.F133 (lT T G),g1 S.F40 (oS T G),g1 S.F134 (oU T G),g1 S.F135 (fz T G),g1 S.F136 (iU T G),
  fun i hi=>by
  simp only[fvL,List.mem_cons,List.not_mem_nil,or_false]at hi
  rcases hi with rfl | rfl | rfl | rfl | rfl
  ·exact lz S.F21 T.f_is_worth (gD T G) (fun ds h=>lq h)
  ·exact lz S.F125 T.f_turned (jS T G) (fun ds h=>lq h)
  ·exact lz S.F84 T.f_mirrored (gE T G) (fun ds h=>lq h)
  ·exact lz S.F126 T.f_flipped (iR T G) (fun ds h=>lq h)
  ·exact lz S.F71 T.f_swapped (iS T G) (fun ds h=>lq h)⟩
theorem u3 {l:PySem.W.OpenLaw}{w:World}{K:PySem.W.Frag}{h:Heap}{mg:Str→Option Value}{fa f1 f12 f13 f14 f15 f40 C0 C1 C2 C3 C4 C5 C6 C7 C8 C9 C10:Addr}(X:K.In h)(G:h.Ns mainGlobals mg)(hfa:mg "law"=some (.ref fa))(S:Fds K mg)
  {od40 an40:Option Addr} {sl40:Array (Option Value)} {oc40 kV40 dc40 pm40 cd40 ct40:Value} {tk_GREATEST_WORTH tk_LARGEST_SIZE tk_TURNS tk_WAYS:Tok} {ta_BY_FLIPPING ta_BY_MIRRORING ta_BY_SWAPPING ta_BY_TURNING:Addr} {tn_BY_FLIPPING tn_BY_MIRRORING tn_BY_SWAPPING tn_BY_TURNING:Nat} {ts_BY_FLIPPING ts_BY_MIRRORING ts_BY_SWAPPING ts_BY_TURNING:Array (Option Value)} {tt_BY_FLIPPING_0 tt_BY_FLIPPING_1 tt_BY_FLIPPING_2 tt_BY_FLIPPING_3 tt_BY_MIRRORING_0 tt_BY_MIRRORING_1 tt_BY_MIRRORING_2 tt_BY_MIRRORING_3 tt_BY_SWAPPING_0 tt_BY_SWAPPING_1 tt_BY_SWAPPING_2 tt_BY_SWAPPING_3 tt_BY_TURNING_0 tt_BY_TURNING_1 tt_BY_TURNING_2 tt_BY_TURNING_3:Tok} {cl_NoPicture cl_NoSpot cl_BadBox cl_Unlike cl_NoRule cl_NoBlocks cl_NoChange cl_NoNumber cl_NothingDone cl_NoText:ClassData}
  (z0:Ng K "is_worth" (some (.ref f1)))
  (z1:Ng K "turned" (some (.ref f12)))
  (z2:Ng K "mirrored" (some (.ref f13)))
  (z3:Ng K "flipped" (some (.ref f14)))
  (z4:Ng K "swapped" (some (.ref f15)))
  (z5:Ng K "law" (some (.ref f40)))
  (z6:K.lookup f40=some ⟨oc40,od40,.func (PySem.W.fnOf "law" "law" (defArgs a7) (defBody a7) (defScope a7) .none kV40 dc40 pm40 an40 cd40 ct40),sl40⟩)
  (z7:PySem.W.codeIn K cd40 "law"=true)
  (z8:PySem.W.keepIn K (.ref f40)=true)
  (z9:Ng K "ValueError" none)
  (z10:Ng K "all" none)
  (z11:Ng K "bool" none)
  (z12:Ng K "int" none)
  (z13:Ng K "isinstance" none)
  (z14:Ng K "len" none)
  (z15:Ng K "max" none)
  (z16:Ng K "range" none)
  (z17:Ng K "set" none)
  (z18:Ng K "tuple" none)
  (z19:Ng K "GREATEST_WORTH" (some (.int 9 tk_GREATEST_WORTH)))
  (z20:Ng K "LARGEST_SIZE" (some (.int 3 tk_LARGEST_SIZE)))
  (z21:Ng K "TURNS" (some (.int 4 tk_TURNS)))
  (z22:Ng K "WAYS" (some (.int 8 tk_WAYS)))
  (z23:Ng K "BY_FLIPPING" (some (.ref ta_BY_FLIPPING)))
  (z24:K.lookup ta_BY_FLIPPING=some ⟨.type "tuple",none,.seq #[.int 2 tt_BY_FLIPPING_0,.int 3 tt_BY_FLIPPING_1,.int 0 tt_BY_FLIPPING_2,.int 1 tt_BY_FLIPPING_3] tn_BY_FLIPPING,ts_BY_FLIPPING⟩)
  (z25:Ng K "BY_MIRRORING" (some (.ref ta_BY_MIRRORING)))
  (z26:K.lookup ta_BY_MIRRORING=some ⟨.type "tuple",none,.seq #[.int 1 tt_BY_MIRRORING_0,.int 0 tt_BY_MIRRORING_1,.int 3 tt_BY_MIRRORING_2,.int 2 tt_BY_MIRRORING_3] tn_BY_MIRRORING,ts_BY_MIRRORING⟩)
  (z27:Ng K "BY_SWAPPING" (some (.ref ta_BY_SWAPPING)))
  (z28:K.lookup ta_BY_SWAPPING=some ⟨.type "tuple",none,.seq #[.int 0 tt_BY_SWAPPING_0,.int 2 tt_BY_SWAPPING_1,.int 1 tt_BY_SWAPPING_2,.int 3 tt_BY_SWAPPING_3] tn_BY_SWAPPING,ts_BY_SWAPPING⟩)
  (z29:Ng K "BY_TURNING" (some (.ref ta_BY_TURNING)))
  (z30:K.lookup ta_BY_TURNING=some ⟨.type "tuple",none,.seq #[.int 2 tt_BY_TURNING_0,.int 0 tt_BY_TURNING_1,.int 3 tt_BY_TURNING_2,.int 1 tt_BY_TURNING_3] tn_BY_TURNING,ts_BY_TURNING⟩)
  (z31:Ng K "FourError" (some (.ref C0)))
  (z32:Ng K "NoPicture" (some (.ref C1)))
  (z33:Ng K "NoSpot" (some (.ref C2)))
  (z34:Ng K "BadBox" (some (.ref C3)))
  (z35:Ng K "Unlike" (some (.ref C4)))
  (z36:Ng K "NoRule" (some (.ref C5)))
  (z37:Ng K "NoBlocks" (some (.ref C6)))
  (z38:Ng K "NoChange" (some (.ref C7)))
  (z39:Ng K "NoNumber" (some (.ref C8)))
  (z40:Ng K "NothingDone" (some (.ref C9)))
  (z41:Ng K "NoText" (some (.ref C10)))
  (z42:PySem.W.excIn K C1 bmVE "ValueError.__new__"=true)
  (z43:PySem.W.excIn K C2 bmVE "ValueError.__new__"=true)
  (z44:PySem.W.excIn K C0 bmVE "ValueError.__new__"=true)
  (z45:PySem.W.clsIn K C1=some cl_NoPicture)
  (z46:PySem.W.typeIn K (.ref C1)=some (.type "type"))
  (z47:PySem.W.clsIn K C2=some cl_NoSpot)
  (z48:PySem.W.typeIn K (.ref C2)=some (.type "type"))
  (z49:PySem.W.clsIn K C3=some cl_BadBox)
  (z50:PySem.W.typeIn K (.ref C3)=some (.type "type"))
  (z51:PySem.W.clsIn K C4=some cl_Unlike)
  (z52:PySem.W.typeIn K (.ref C4)=some (.type "type"))
  (z53:PySem.W.clsIn K C5=some cl_NoRule)
  (z54:PySem.W.typeIn K (.ref C5)=some (.type "type"))
  (z55:PySem.W.clsIn K C6=some cl_NoBlocks)
  (z56:PySem.W.typeIn K (.ref C6)=some (.type "type"))
  (z57:PySem.W.clsIn K C7=some cl_NoChange)
  (z58:PySem.W.typeIn K (.ref C7)=some (.type "type"))
  (z59:PySem.W.clsIn K C8=some cl_NoNumber)
  (z60:PySem.W.typeIn K (.ref C8)=some (.type "type"))
  (z61:PySem.W.clsIn K C9=some cl_NothingDone)
  (z62:PySem.W.typeIn K (.ref C9)=some (.type "type"))
  (z63:PySem.W.clsIn K C10=some cl_NoText)
  (z64:PySem.W.typeIn K (.ref C10)=some (.type "type"))
  (z65:PySem.W.subIn K (.ref C1) (.ref C1)=some true)
  (z66:PySem.W.subIn K (.ref C1) (.ref C2)=some false)
  (z67:PySem.W.subIn K (.ref C1) (.ref C3)=some false)
  (z68:PySem.W.subIn K (.ref C1) (.ref C4)=some false)
  (z69:PySem.W.subIn K (.ref C1) (.ref C5)=some false)
  (z70:PySem.W.subIn K (.ref C1) (.ref C6)=some false)
  (z71:PySem.W.subIn K (.ref C1) (.ref C7)=some false)
  (z72:PySem.W.subIn K (.ref C1) (.ref C8)=some false)
  (z73:PySem.W.subIn K (.ref C1) (.ref C9)=some false)
  (z74:PySem.W.subIn K (.ref C1) (.ref C10)=some false)
  (z75:PySem.W.subIn K (.ref C1) (.ref C0)=some true)
  (z76:PySem.W.subIn K (.ref C1) (.type "ValueError")=some true)
  (z77:PySem.W.findIn K (.ref C1) "__getattribute__"=some (some (.builtin "BaseException.__getattribute__")))
  (z78:PySem.W.findIn K (.ref C1) "__getattr__"=some none)
  (z79:PySem.W.findIn K (.ref C1) "__class__"=some (some (.builtin "object.__class__")))
  (z80:PySem.W.subIn K (.ref C1) (.type "BaseException")=some true)
  (z81:PySem.W.subIn K (.ref C1) (.type "object")=some true)
  (z82:PySem.W.subIn K (.ref C2) (.ref C1)=some false)
  (z83:PySem.W.subIn K (.ref C2) (.ref C2)=some true)
  (z84:PySem.W.subIn K (.ref C2) (.ref C3)=some false)
  (z85:PySem.W.subIn K (.ref C2) (.ref C4)=some false)
  (z86:PySem.W.subIn K (.ref C2) (.ref C5)=some false)
  (z87:PySem.W.subIn K (.ref C2) (.ref C6)=some false)
  (z88:PySem.W.subIn K (.ref C2) (.ref C7)=some false)
  (z89:PySem.W.subIn K (.ref C2) (.ref C8)=some false)
  (z90:PySem.W.subIn K (.ref C2) (.ref C9)=some false)
  (z91:PySem.W.subIn K (.ref C2) (.ref C10)=some false)
  (z92:PySem.W.subIn K (.ref C2) (.ref C0)=some true)
  (z93:PySem.W.subIn K (.ref C2) (.type "ValueError")=some true)
  (z94:PySem.W.findIn K (.ref C2) "__getattribute__"=some (some (.builtin "BaseException.__getattribute__")))
  (z95:PySem.W.findIn K (.ref C2) "__getattr__"=some none)
  (z96:PySem.W.findIn K (.ref C2) "__class__"=some (some (.builtin "object.__class__")))
  (z97:PySem.W.subIn K (.ref C2) (.type "BaseException")=some true)
  (z98:PySem.W.subIn K (.ref C2) (.type "object")=some true) :
  ∃ fd:FuncData,(∀ (s:Shared) (v:Value),BindsTo s fd ⟨[v],[]⟩ [("_law_script",v)])∧∀ base:Heap,K.In base→base.Ns mainGlobals mg→FnOk l.prog w K mg base (CXE l.prog w) 40 fa fd ["_law_script"] (spF K (Cof K) 1 (pf 40 Lw.F.aH)):=by
 have e:=hfa.symm.trans (PySem.W.mg_of X G z5)
 cases e
 have q_FourError:Cof K 0=C0:=cof z31
 have q_NoPicture:Cof K 1=C1:=cof z32
 have q_NoSpot:Cof K 2=C2:=cof z33
 have q_BadBox:Cof K 3=C3:=cof z34
 have q_Unlike:Cof K 4=C4:=cof z35
 have q_NoRule:Cof K 5=C5:=cof z36
 have q_NoBlocks:Cof K 6=C6:=cof z37
 have q_NoChange:Cof K 7=C7:=cof z38
 have q_NoNumber:Cof K 8=C8:=cof z39
 have q_NothingDone:Cof K 9=C9:=cof z40
 have q_NoText:Cof K 10=C10:=cof z41
 have xk_NoPicture:ExcK K (Cof K 1):=by rw[q_NoPicture];exact⟨z77,z78,z79,z80,z81,by rw[z45];rfl⟩
 have xk_NoSpot:ExcK K (Cof K 2):=by rw[q_NoSpot];exact⟨z94,z95,z96,z97,z98,by rw[z47];rfl⟩
 have T:Txt K mg (Cof K) w.params:=⟨PySem.W.mg_none_of X G z9,
  PySem.W.mg_none_of X G z10,
  PySem.W.mg_none_of X G z11,
  PySem.W.mg_none_of X G z12,
  PySem.W.mg_none_of X G z13,
  PySem.W.mg_none_of X G z14,
  PySem.W.mg_none_of X G z15,
  PySem.W.mg_none_of X G z16,
  PySem.W.mg_none_of X G z17,
  PySem.W.mg_none_of X G z18,
  ⟨_,PySem.W.mg_of X G z19⟩,
  ⟨_,PySem.W.mg_of X G z20⟩,
  ⟨_,PySem.W.mg_of X G z21⟩,
  ⟨_,PySem.W.mg_of X G z22⟩,
  ⟨_,PySem.W.mg_of X G z23,_,_,_,z24,rfl,rfl,rfl,by show 4≤sizeLine;decide,(.cons ⟨_,rfl⟩ (.cons ⟨_,rfl⟩ (.cons ⟨_,rfl⟩ (.cons ⟨_,rfl⟩ .nil))))⟩,
  ⟨_,PySem.W.mg_of X G z25,_,_,_,z26,rfl,rfl,rfl,by show 4≤sizeLine;decide,(.cons ⟨_,rfl⟩ (.cons ⟨_,rfl⟩ (.cons ⟨_,rfl⟩ (.cons ⟨_,rfl⟩ .nil))))⟩,
  ⟨_,PySem.W.mg_of X G z27,_,_,_,z28,rfl,rfl,rfl,by show 4≤sizeLine;decide,(.cons ⟨_,rfl⟩ (.cons ⟨_,rfl⟩ (.cons ⟨_,rfl⟩ (.cons ⟨_,rfl⟩ .nil))))⟩,
  ⟨_,PySem.W.mg_of X G z29,_,_,_,z30,rfl,rfl,rfl,by show 4≤sizeLine;decide,(.cons ⟨_,rfl⟩ (.cons ⟨_,rfl⟩ (.cons ⟨_,rfl⟩ (.cons ⟨_,rfl⟩ .nil))))⟩,
  (by rw[cof (i:=F.ao) z0];exact PySem.W.mg_of X G z0),
  (by rw[cof (i:=F.ag) z1];exact PySem.W.mg_of X G z1),
  (by rw[cof (i:=F.ae) z2];exact PySem.W.mg_of X G z2),
  (by rw[cof (i:=F.ap) z3];exact PySem.W.mg_of X G z3),
  (by rw[cof (i:=F.aA) z4];exact PySem.W.mg_of X G z4),
  (by rw[q_FourError];exact PySem.W.mg_of X G z31),
  (by rw[q_NoPicture];exact PySem.W.mg_of X G z32),
  (by rw[q_NoSpot];exact PySem.W.mg_of X G z33),
  (by rw[q_BadBox];exact PySem.W.mg_of X G z34),
  (by rw[q_Unlike];exact PySem.W.mg_of X G z35),
  (by rw[q_NoRule];exact PySem.W.mg_of X G z36),
  (by rw[q_NoBlocks];exact PySem.W.mg_of X G z37),
  (by rw[q_NoChange];exact PySem.W.mg_of X G z38),
  (by rw[q_NoNumber];exact PySem.W.mg_of X G z39),
  (by rw[q_NothingDone];exact PySem.W.mg_of X G z40),
  (by rw[q_NoText];exact PySem.W.mg_of X G z41),
  (by rw[q_NoPicture];exact z42),
  (by rw[q_NoSpot];exact z43),
  (cT (fun j hj=>by
   simp only[esL,List.mem_cons,List.not_mem_nil,or_false]at hj
   rcases hj with rfl | rfl
   ·rw[q_NoPicture,q_BadBox];exact aV z49 z50 z67 z65
   ·rw[q_NoSpot,q_BadBox];exact aV z49 z50 z84 z83) (fun j hj=>by
   simp only[esL,List.mem_cons,List.not_mem_nil,or_false]at hj
   rcases hj with rfl | rfl
   ·exact xk_NoPicture
   ·exact xk_NoSpot)),
  (cT (fun j hj=>by
   simp only[esL,List.mem_cons,List.not_mem_nil,or_false]at hj
   rcases hj with rfl | rfl
   ·rw[q_NoPicture,q_NoBlocks];exact aV z55 z56 z70 z65
   ·rw[q_NoSpot,q_NoBlocks];exact aV z55 z56 z87 z83) (fun j hj=>by
   simp only[esL,List.mem_cons,List.not_mem_nil,or_false]at hj
   rcases hj with rfl | rfl
   ·exact xk_NoPicture
   ·exact xk_NoSpot)),
  (cT (fun j hj=>by
   simp only[esL,List.mem_cons,List.not_mem_nil,or_false]at hj
   rcases hj with rfl | rfl
   ·rw[q_NoPicture,q_NoChange];exact aV z57 z58 z71 z65
   ·rw[q_NoSpot,q_NoChange];exact aV z57 z58 z88 z83) (fun j hj=>by
   simp only[esL,List.mem_cons,List.not_mem_nil,or_false]at hj
   rcases hj with rfl | rfl
   ·exact xk_NoPicture
   ·exact xk_NoSpot)),
  (cT (fun j hj=>by
   simp only[esL,List.mem_cons,List.not_mem_nil,or_false]at hj
   rcases hj with rfl | rfl
   ·rw[q_NoPicture,q_NoNumber];exact aV z59 z60 z72 z65
   ·rw[q_NoSpot,q_NoNumber];exact aV z59 z60 z89 z83) (fun j hj=>by
   simp only[esL,List.mem_cons,List.not_mem_nil,or_false]at hj
   rcases hj with rfl | rfl
   ·exact xk_NoPicture
   ·exact xk_NoSpot)),
  (cT (fun j hj=>by
   simp only[esL,List.mem_cons,List.not_mem_nil,or_false]at hj
   rcases hj with rfl | rfl
   ·rw[q_NoPicture];exact aV z45 z46 z65 z65
   ·rw[q_NoSpot,q_NoPicture];exact aV z45 z46 z82 z83) (fun j hj=>by
   simp only[esL,List.mem_cons,List.not_mem_nil,or_false]at hj
   rcases hj with rfl | rfl
   ·exact xk_NoPicture
   ·exact xk_NoSpot)),
  (cT (fun j hj=>by
   simp only[esL,List.mem_cons,List.not_mem_nil,or_false]at hj
   rcases hj with rfl | rfl
   ·rw[q_NoPicture,q_NoRule];exact aV z53 z54 z69 z65
   ·rw[q_NoSpot,q_NoRule];exact aV z53 z54 z86 z83) (fun j hj=>by
   simp only[esL,List.mem_cons,List.not_mem_nil,or_false]at hj
   rcases hj with rfl | rfl
   ·exact xk_NoPicture
   ·exact xk_NoSpot)),
  (cT (fun j hj=>by
   simp only[esL,List.mem_cons,List.not_mem_nil,or_false]at hj
   rcases hj with rfl | rfl
   ·rw[q_NoPicture,q_NoSpot];exact aV z47 z48 z66 z65
   ·rw[q_NoSpot];exact aV z47 z48 z83 z83) (fun j hj=>by
   simp only[esL,List.mem_cons,List.not_mem_nil,or_false]at hj
   rcases hj with rfl | rfl
   ·exact xk_NoPicture
   ·exact xk_NoSpot)),
  (cT (fun j hj=>by
   simp only[esL,List.mem_cons,List.not_mem_nil,or_false]at hj
   rcases hj with rfl | rfl
   ·rw[q_NoPicture,q_NoText];exact aV z63 z64 z74 z65
   ·rw[q_NoSpot,q_NoText];exact aV z63 z64 z91 z83) (fun j hj=>by
   simp only[esL,List.mem_cons,List.not_mem_nil,or_false]at hj
   rcases hj with rfl | rfl
   ·exact xk_NoPicture
   ·exact xk_NoSpot)),
  (cT (fun j hj=>by
   simp only[esL,List.mem_cons,List.not_mem_nil,or_false]at hj
   rcases hj with rfl | rfl
   ·rw[q_NoPicture,q_NothingDone];exact aV z61 z62 z73 z65
   ·rw[q_NoSpot,q_NothingDone];exact aV z61 z62 z90 z83) (fun j hj=>by
   simp only[esL,List.mem_cons,List.not_mem_nil,or_false]at hj
   rcases hj with rfl | rfl
   ·exact xk_NoPicture
   ·exact xk_NoSpot)),
  (cT (fun j hj=>by
   simp only[esL,List.mem_cons,List.not_mem_nil,or_false]at hj
   rcases hj with rfl | rfl
   ·rw[q_NoPicture,q_Unlike];exact aV z51 z52 z68 z65
   ·rw[q_NoSpot,q_Unlike];exact aV z51 z52 z85 z83) (fun j hj=>by
   simp only[esL,List.mem_cons,List.not_mem_nil,or_false]at hj
   rcases hj with rfl | rfl
   ·exact xk_NoPicture
   ·exact xk_NoSpot)),
  (uL (fun j hj=>by
   simp only[esL,List.mem_cons,List.not_mem_nil,or_false]at hj
   rcases hj with rfl | rfl
   ·rw[q_NoPicture];exact qw z76
   ·rw[q_NoSpot];exact qw z93) (fun j hj=>by
   simp only[esL,List.mem_cons,List.not_mem_nil,or_false]at hj
   rcases hj with rfl | rfl
   ·exact xk_NoPicture
   ·exact xk_NoSpot)),
  (ql (by rw[q_FourError];exact z44) (fun j hj=>by
   simp only[esL,List.mem_cons,List.not_mem_nil,or_false]at hj
   rcases hj with rfl | rfl
   ·rw[q_NoPicture,q_FourError];exact z75
   ·rw[q_NoSpot,q_FourError];exact z92))⟩
 have FL:=mt (st:=a7) z6 z7 z8
 exact⟨PySem.W.fnOf "law" "law" (defArgs a7) (defBody a7) (defScope a7) .none kV40 dc40 pm40 an40 cd40 ct40,fun s v=>.of_eq rfl,fun base _ _=>iU T (tab T S 39) FL⟩
theorem walk {l:PySem.W.OpenLaw}{q:Program}{loose:List Str}{XP:(Str→Option Value)→Heap→Prop}{YP:World→Heap→Prop}{d:DefRec}{K:Params→PySem.W.Frag}(hn:l.most=some 63)(hdf:d.params.defaults=[])
  (hY:∀ (w:World) (h:Heap),YP w h→(K w.params).In h)
  (F:∀ (w:World) (mg:Str→Option Value) (fa:Addr) (h:Heap),(K w.params).In h→h.Ns mainGlobals mg→mg d.name=some (.ref fa) →
   ∃ fd:FuncData,(∀ (s:Shared) (u:Value),BindsTo s fd ⟨[u],[]⟩ [("_law_script",u)])∧∀ base:Heap,(K w.params).In base→base.Ns mainGlobals mg→FnOk l.prog w (K w.params) mg base (CXE l.prog w) 40 fa fd ["_law_script"] (spF (K w.params) (Cof (K w.params)) 1 (pf 40 Lw.F.aH))) :
  PySem.W.WalkO q loose XP YP l.row.toRowW d [] (fun f vs=>PySem.call f vs) :=
 L2.rN (n:=63) (k:=40) (x := "_law_script") (CX:=fun w=>CXE l.prog w) (sp:=fun w=>spF (K w.params) (Cof (K w.params)) 1 (pf 40 Lw.F.aH)) hn (by decide) hdf ⟨rfl,by decide,by decide⟩ hY F
  (fun w H a ns hl _ hS=>⟨rfl,H,[.lst (ns.map .int)],Same.refl H,by rw[Reps];exact⟨_,_,rfl,by rw[Rep];exact⟨a,_,rfl,hS,nJ ns⟩,by rw[Reps]⟩,by rw[jt ns];exact fun H' Z' _ v rv=>by rw[Rep]at rv;exact rv⟩)
  fun w H s e s' z=>by obtain⟨_,_,_,_,_,_,_,_,_,_,_,_,_,z⟩:=z;exact z
end Lw
open PySem PySem.W PyProof.Rows
def PySem.W.Fast.tw2250213124381030773:Nat:=0
def PySem.W.Fast.tw13880760600438137551:Nat:=0
def PySem.W.Fast.tw10098003833296723365:Nat:=0
def PySem.W.Fast.tw9473755547158740679:Nat:=0
def PySem.W.Fast.tw17653596969911247945:Nat:=0
def PySem.W.Fast.tw13337146325834143675:Nat:=0
def PySem.W.Fast.tw863917819819483465:Nat:=0
def PySem.W.Fast.tw5002769083073589445:Nat:=0
def PySem.W.Fast.tw13961657635363839387:Nat:=0
def PySem.W.Fast.tw4345422523791802680:Nat:=0
def PySem.W.Fast.tw6876940867588994218:Nat:=0
def PySem.W.Fast.tw10268367891817839177:Nat:=0
def PySem.W.Fast.tw8651076305343591660:Nat:=0
def PySem.W.Fast.tw3029315736005587914:Nat:=0
def PySem.W.Fast.tw13904349236563739323:Nat:=0
def PySem.W.Fast.tw9532719982303546774:Nat:=0
def PySem.W.Fast.tw850481136817678492:Nat:=0
def PySem.W.Fast.tw2857155697656571250:Nat:=0
def PySem.W.Fast.tw2054060990606496551:Nat:=0
def PySem.W.Fast.tw4347066028230810415:Nat:=0
def PySem.W.Fast.tw6958773295924726200:Nat:=0
def PySem.W.Fast.tw17129127496272649623:Nat:=0
def PySem.W.Fast.tw5852447483419497043:Nat:=0
def PySem.W.Fast.tw17120887195689543237:Nat:=0
def PySem.W.Fast.tw2279399773343402668:Nat:=0
def PySem.W.Fast.tw1789800673193338906:Nat:=0
def PySem.W.Fast.tw15720671861514485422:Nat:=0
def PySem.W.Fast.tw7682278187630865264:Nat:=0
def PySem.W.Fast.tw7709941946841187130:Nat:=0
def PySem.W.Fast.tw2373573031976319052:Nat:=0
def PySem.W.Fast.tw1318672484366082235:Nat:=0
def PySem.W.Fast.tw15037077103413506616:Nat:=0
def PySem.W.Fast.tw14889686385501070555:Nat:=0
def PySem.W.Fast.tw4651203699057889810:Nat:=0
def PySem.W.Fast.tw7008809511626916504:Nat:=0
def PySem.W.Fast.tw12431849480127830660:Nat:=0
def PySem.W.Fast.tw10064859187067801751:Nat:=0
def PySem.W.Fast.tw5900261469881729651:Nat:=0
def PySem.W.Fast.tw16884975539573886641:Nat:=0
def PySem.W.Fast.tw16577443118484643451:Nat:=0
def PySem.W.Fast.tw3325241856298791233:Nat:=0
def PySem.W.Fast.tw2123951216486213224:Nat:=0
def PySem.W.Fast.tw2808470407187494159:Nat:=0
def PySem.W.Fast.tw12301338452073676590:Nat:=0
def PySem.W.Fast.tw10456808375853368826:Nat:=0
def PySem.W.Fast.tw18275755565765531435:Nat:=0
def PySem.W.Fast.tw7353351272132112552:Nat:=0
def PySem.W.Fast.tw10119410089548234039:Nat:=0
set_option maxRecDepth 100000 in
set_option maxHeartbeats 0 in
theorem PySem.Challenge.cw_fourfold_k30_whole_ways_holds : PySem.Challenge.rw_fourfold_k30_whole_ways.Holds := by
 w_on;o_law;k_head;(case hw=>w_witness2)
 k_fill
 refine Lw.walk (l:=PySem.Challenge.rw_fourfold_k30_whole_ways) rfl rfl (fun w h Y=>PySem.W.kIn_of Y) ?F
 case F =>
  intro w mg fa h KX G hmg
  refine' Lw.u3 KX G hmg ?S ?z0 ?z1 ?z2 ?z3 ?z4 ?z5 ?z6 ?z7 ?z8 ?z9 ?z10 ?z11 ?z12 ?z13 ?z14 ?z15 ?z16 ?z17 ?z18 ?z19 ?z20 ?z21 ?z22 ?z23 ?z24 ?z25 ?z26 ?z27 ?z28 ?z29 ?z30 ?z31 ?z32 ?z33 ?z34 ?z35 ?z36 ?z37 ?z38 ?z39 ?z40 ?z41 ?z42 ?z43 ?z44 ?z45 ?z46 ?z47 ?z48 ?z49 ?z50 ?z51 ?z52 ?z53 ?z54 ?z55 ?z56 ?z57 ?z58 ?z59 ?z60 ?z61 ?z62 ?z63 ?z64 ?z65 ?z66 ?z67 ?z68 ?z69 ?z70 ?z71 ?z72 ?z73 ?z74 ?z75 ?z76 ?z77 ?z78 ?z79 ?z80 ?z81 ?z82 ?z83 ?z84 ?z85 ?z86 ?z87 ?z88 ?z89 ?z90 ?z91 ?z92 ?z93 ?z94 ?z95 ?z96 ?z97 ?z98
  case S =>
   constructor
   all_goals
    refine' FF.vn KX G (fun _ _ _ _ _ _ us hl=>by first | (obtain⟨_,rfl⟩:=FF.ln1 hl;rfl) | (obtain⟨_,_,rfl⟩:=FF.ln2 hl;rfl) | (obtain⟨_,_,_,rfl⟩:=FF.ln3 hl;rfl) | (obtain⟨_,_,_,_,rfl⟩:=FF.ln4 hl;rfl) | (obtain⟨_,_,_,_,_,rfl⟩:=FF.ln5 hl;rfl) | (cases List.length_eq_zero_iff.mp hl;rfl)) ?a ?l ?c ?k
    (case a=>k_is);(case l=>k_is);(case c=>k_is);(case k=>k_is)
  (case z0=>show _=_;k_is)
  (case z1=>show _=_;k_is)
  (case z2=>show _=_;k_is)
  (case z3=>show _=_;k_is)
  (case z4=>show _=_;k_is)
  (case z5=>show _=_;k_is)
  (case z6=>k_is)
  (case z7=>k_is)
  (case z8=>k_is)
  (case z9=>show _=_;k_is)
  (case z10=>show _=_;k_is)
  (case z11=>show _=_;k_is)
  (case z12=>show _=_;k_is)
  (case z13=>show _=_;k_is)
  (case z14=>show _=_;k_is)
  (case z15=>show _=_;k_is)
  (case z16=>show _=_;k_is)
  (case z17=>show _=_;k_is)
  (case z18=>show _=_;k_is)
  (case z19=>show _=_;k_is)
  (case z20=>show _=_;k_is)
  (case z21=>show _=_;k_is)
  (case z22=>show _=_;k_is)
  (case z23=>show _=_;k_is)
  (case z24=>k_is)
  (case z25=>show _=_;k_is)
  (case z26=>k_is)
  (case z27=>show _=_;k_is)
  (case z28=>k_is)
  (case z29=>show _=_;k_is)
  (case z30=>k_is)
  (case z31=>show _=_;k_is)
  (case z32=>show _=_;k_is)
  (case z33=>show _=_;k_is)
  (case z34=>show _=_;k_is)
  (case z35=>show _=_;k_is)
  (case z36=>show _=_;k_is)
  (case z37=>show _=_;k_is)
  (case z38=>show _=_;k_is)
  (case z39=>show _=_;k_is)
  (case z40=>show _=_;k_is)
  (case z41=>show _=_;k_is)
  (case z42=>k_exc)
  (case z43=>k_exc)
  (case z44=>k_exc)
  (case z45=>k_is)
  (case z46=>k_is)
  (case z47=>k_is)
  (case z48=>k_is)
  (case z49=>k_is)
  (case z50=>k_is)
  (case z51=>k_is)
  (case z52=>k_is)
  (case z53=>k_is)
  (case z54=>k_is)
  (case z55=>k_is)
  (case z56=>k_is)
  (case z57=>k_is)
  (case z58=>k_is)
  (case z59=>k_is)
  (case z60=>k_is)
  (case z61=>k_is)
  (case z62=>k_is)
  (case z63=>k_is)
  (case z64=>k_is)
  (case z65=>k_is)
  (case z66=>k_is)
  (case z67=>k_is)
  (case z68=>k_is)
  (case z69=>k_is)
  (case z70=>k_is)
  (case z71=>k_is)
  (case z72=>k_is)
  (case z73=>k_is)
  (case z74=>k_is)
  (case z75=>k_is)
  (case z76=>k_is)
  (case z77=>k_is)
  (case z78=>k_is)
  (case z79=>k_is)
  (case z80=>k_is)
  (case z81=>k_is)
  (case z82=>k_is)
  (case z83=>k_is)
  (case z84=>k_is)
  (case z85=>k_is)
  (case z86=>k_is)
  (case z87=>k_is)
  (case z88=>k_is)
  (case z89=>k_is)
  (case z90=>k_is)
  (case z91=>k_is)
  (case z92=>k_is)
  (case z93=>k_is)
  (case z94=>k_is)
  (case z95=>k_is)
  (case z96=>k_is)
  (case z97=>k_is)
  (case z98=>k_is)
end
