import PyProof.Rows.All
import Wide.All
import OpenK.AllK
import Wide.FinOn
import PyProof.EqAt
import PyProof.EqKinds
import PyProof.TupleCall
import PyProof.ExcArgsOwn
import PyProof.ExcAttrAll.ValueError
import PyProof.IsiH_tuple
import PyProof.Rows.TopTwo
import PyProof.ExcBaseAll.ValueError
import PyProof.RulesAs
import PyProof.RulesDel
import PyProof.Rows.Catch
import PyProof.WalkInts
import PyProof.SumWalkG
import PyProof.Rows.TupAssign
import PyProof.NeKinds
import PyProof.FactsAll.tuple_1
import PyProof.FactsAll.tuple_2
import PyProof.FactsAll.tuple_3
import PyProof.ZipIter
import PyProof.Rows.ZipGen
import PyProof.Draws
import PyProof.EnumMake
import PyProof.LayNew
import OpenK.KTop
import PyProof.DictWalks
import PyProof.ListRange
import Lean
import PySem.Challenge.RW_fourfold_k11_whole_quarters
set_option Elab.async false
set_option linter.all false
set_option maxRecDepth 100000
noncomputable section
namespace L2
open PySem PySem.Spec PyProof.Rows
abbrev Key:=Sum Int Str
def keyIs:Key→Value→Bool
 | .inl k,v=>Value.isInt k v
 | .inr x,v=>Value.isStrOf x v
def keyH (w:World):Key→Int
 | .inl k=>hashInt k
 | .inr x=>hashStr w x
theorem aO:∀ {k:Key} {v:Value},keyIs k v=true→(∃ i t,k=Sum.inl i∧v=Value.int i t)∨(∃ x t,k=Sum.inr x∧v=Value.str x t)
 | .inl i,v,h=>by
  obtain⟨t,e⟩:=Value.isInt_shape (k:=i) (v:=v) h
  exact .inl ⟨i,t,rfl,e⟩
 | .inr x,v,h=>by
  obtain⟨t,e⟩:=Value.isStrOf_shape (x:=x) (v:=v) h
  exact .inr ⟨x,t,rfl,e⟩
theorem uq (a b:Int):decide ((Sum.inl a:Key)=Sum.inl b)=(a==b):=by
 by_cases e:a=b
 ·subst e;simp
 ·have h:¬ (Sum.inl a:Key)=Sum.inl b:=fun q=>e (Sum.inl.inj q)
  rw[decide_eq_false h]
  exact(beq_eq_false_iff_ne.mpr e).symm
theorem ur (a b:Str):decide ((Sum.inr a:Key)=Sum.inr b)=decide (a=b):=by
 by_cases e:a=b
 ·subst e;simp
 ·have h:¬ (Sum.inr a:Key)=Sum.inr b:=fun q=>e (Sum.inr.inj q)
  rw[decide_eq_false h,decide_eq_false e]
theorem ut (a:Int)(b:Str):decide ((Sum.inl a:Key)=Sum.inr b)=false:=decide_eq_false (fun q=>nomatch q)
theorem uu (a:Str)(b:Int):decide ((Sum.inr a:Key)=Sum.inl b)=false:=decide_eq_false (fun q=>nomatch q)
def mixKind (prog:Program)(w:World):PySem.KeyKind prog w Key where
 is:=keyIs
 hash:=keyH w
 inj:=fun v a b ha hb=>by
  rcases aO ha with ⟨i,t,rfl,rfl⟩ | ⟨x,t,rfl,rfl⟩
  ·rcases aO hb with ⟨j,u,rfl,e⟩ | ⟨y,u,rfl,e⟩
   ·injection e with e1 _;rw[e1]
   ·exact nomatch e
  ·rcases aO hb with ⟨j,u,rfl,e⟩ | ⟨y,u,rfl,e⟩
   ·exact nomatch e
   ·injection e with e1 _;rw[e1]
 byValue:=fun k v h=>by
  rcases aO h with ⟨i,t,rfl,rfl⟩ | ⟨x,t,rfl,rfl⟩<;>rfl
 pyHash:=fun hv h=>by
  rcases aO hv with ⟨i,t,rfl,rfl⟩ | ⟨x,t,rfl,rfl⟩
  ·exact wpAny_pyHash_int h
  ·exact wpAny_pyHash_str h
 eqBool:=fun hu hv h=>by
  rcases aO hu with ⟨i,t,rfl,rfl⟩ | ⟨x,t,rfl,rfl⟩
  ·rcases aO hv with ⟨j,u,rfl,rfl⟩ | ⟨y,u,rfl,rfl⟩
   ·rw[uq]at h;exact wpAny_eqBool_int h
   ·rw[ut]at h;exact SeqAt.EqAt.int_str i t y u _ _ _ _ h
  ·rcases aO hv with ⟨j,u,rfl,rfl⟩ | ⟨y,u,rfl,rfl⟩
   ·rw[uu]at h;exact SeqAt.EqAt.str_int x t j u _ _ _ _ h
   ·rw[ur]at h;exact wpAny_eqBool_str h
 «strs»:=fun k x t v h=>by
  rcases aO h with ⟨i,u,rfl,e⟩ | ⟨y,u,rfl,e⟩
  ·exact nomatch e
  ·injection e with e1 _
   subst e1
   cases v<;>rfl
end L2
namespace L2
open PySem PySem.Spec PyProof.Rows
inductive V where
 | non | bl (b:Bool) | int (i:Int) | str (x:Str) | byt (b:Array UInt8) | flt (b:UInt64) | ref (a:Addr) | ty (n:String)
 deriving DecidableEq
def RelV:V→Value→Prop
 | .non,u=>u=Value.none
 | .bl b,u=>u=Value.bool b
 | .int i,u=>∃ t,u=Value.int i t
 | .str x,u=>∃ t,u=Value.str x t
 | .byt b,u=>∃ t,u=Value.bytes b t
 | .flt b,u=>∃ t,u=Value.float b t
 | .ref a,u=>u=Value.ref a
 | .ty n,u=>u=Value.type n
abbrev Vals:List V→List Value→Prop:=Paired RelV
theorem Vals.length {xs:List V}{us:List Value}(r:Vals xs us):xs.length=us.length:=Paired.length r
theorem Vals.get:∀ {xs:List V} {us:List Value} {i:Nat} {x:V},Vals xs us→xs[i]?=some x→∃ u,us[i]?=some u∧RelV x u
 | _,_,_,_,.nil,e=>by simp at e
 | _,_,0,_,.cons r _,e=>by simp at e;subst e;exact⟨_,rfl,r⟩
 | _,_,i+1,x,.cons _ t,e=>by
  obtain⟨u,h1,h2⟩:=Vals.get (i:=i) (x:=x) t (by simpa using e)
  exact⟨u,by simpa using h1,h2⟩
theorem Vals.set {x:V}{u:Value}(r:RelV x u):∀ {xs:List V} {us:List Value} (i:Nat),Vals xs us→Vals (xs.set i x) (us.set i u)
 | _,_,_,.nil=>.nil
 | _,_,0,.cons _ t=>.cons r t
 | _,_,i+1,.cons q t=>.cons q (Vals.set r i t)
theorem Vals.append:∀ {xs ys:List V} {us ws:List Value},Vals xs us→Vals ys ws→Vals (xs++ys) (us++ws)
 | _,_,_,_,.nil,s=>s
 | _,_,_,_,.cons r t,s=>.cons r (Vals.append t s)
theorem Vals.take:∀ {xs:List V} {us:List Value} (n:Nat),Vals xs us→Vals (xs.take n) (us.take n)
 | _,_,0,_=>.nil
 | _,_,_+1,.nil=>.nil
 | _,_,n+1,.cons r t=>.cons r (Vals.take n t)
theorem Vals.drop:∀ {xs:List V} {us:List Value} (n:Nat),Vals xs us→Vals (xs.drop n) (us.drop n)
 | _,_,0,r=>r
 | _,_,_+1,.nil=>.nil
 | _,_,n+1,.cons _ t=>Vals.drop n t
theorem Vals.none_of:∀ {xs:List V} {us:List Value} {i:Nat},Vals xs us→xs[i]?=none→us[i]?=none:=fun {xs us i} r e=>by
 have h1:=r.length
 have h2:xs.length≤i:=List.getElem?_eq_none_iff.mp e
 exact List.getElem?_eq_none_iff.mpr (by omega)
def RelO:Option V→Option Value→Prop
 | some v,some u=>RelV v u
 | none,none=>True
 | _,_=>False
def KV {κ:Type}:List (κ×V)→List (κ×Value)→Prop:=Paired fun (p:κ×V) (q:κ×Value)=>p.1=q.1∧RelV p.2 q.2
def kV:Key→V
 | .inl i=>.int i
 | .inr x=>.str x
inductive HO where
 | lst (xs:List V)
 | tup (xs:List V)
 | dK (kvs:List (Key×V)) | dT (kvs:List (List Key×V))
 | set (S:Int→Bool) (n:Nat)
 | ins (C dx:Addr) (fs:List (Str×V))
 | own (x:Addr)
 | xd (fs:List (Str×V))
 | met (f x:Addr)
 | rng (lo hi:Int)
 | frz (o:Obj) (u:HO)
 | tbl (ps:Array Value)
 | ext (φ:Heap→Prop)
abbrev Hp:=Addr→Option HO
def upd (H:Hp)(a:Addr)(o:HO):Hp:=fun b=>if b=a then some o else H b
theorem ap {H:Hp}{a:Addr}{o:HO}:upd H a o a=some o:=by unfold upd;rw[if_pos rfl]
theorem al {H:Hp}{a b:Addr}{o:HO}(h:b≠a):upd H a o b=H b:=by unfold upd;rw[if_neg h]
theorem bG {H:Hp}{a b:Addr}{o:HO}(h:H a=some o)(h':H b=none):a≠b:=by
 intro e;subst e;rw[h]at h';cases h'
def TupO (h:Heap)(a:Addr)(its:Array Value):Prop:=∃ o,h.get? a=some o∧o.cls=.type "tuple" ∧ o.dict=none∧∃ n,o.data=.seq its n
theorem TupO.is {h:Heap}{a:Addr}{its:Array Value}(p:TupO h a its):IsTup h a its:=let ⟨o,e,c,_,d⟩:=p;⟨o,e,c,d⟩
theorem TupO.lt {h:Heap}{a:Addr}{its:Array Value}(p:TupO h a its):a < h.objs.size:=p.is.lt
theorem TupO.new (h:Heap)(its:Array Value):TupO (h.push { cls:=.type "tuple",data:=.seq its }) h.objs.size its:=⟨_,Heap.get?_push_size _ rfl,rfl,rfl,_,rfl⟩
section
variable (P:Program)(w:World)
def ObjOk (H:Hp)(h:Heap)(a:Addr):HO→Prop
 | .lst xs=>xs.length≤sizeLine∧∃ (its:List Value) (n:Nat),Vals xs its∧h.get? a=some { cls:=.type "list",data:=.seq its.toArray n }
 | .tup xs=>xs.length≤sizeLine∧∃ its:List Value,Vals xs its∧TupO h a its.toArray
 | .dK kvs=>kvs.length≤sizeLine∧(a==sysModules)=false∧∃ vs,KV kvs vs∧h.DictOf (mixKind P w) a vs
 | .dT kvs=>kvs.length≤sizeLine∧(a==sysModules)=false∧∃ xs:List (List Key×Addr×Value),
   Paired (fun (p:List Key×V) (q:List Key×Addr×Value)=>p.1=q.1∧H q.2.1=some (.tup (p.1.map kV))∧RelV p.2 q.2.2) kvs xs ∧
   ∃ o es ep,h.get? a=some o∧o.ExactDict∧o.data=.dict es ep∧es.toList=xs.map (entryOfKey (tupleKind (mixKind P w)))∧(xs.map (·.1)).Nodup
 | .set S n=>h.SetOf (intKind P w) a S n
 | .ins C dx fs=>H dx=some (.own a)∧fs.length≤1000∧dx≠a∧h.get? a=some (PySem.W.instObj C dx) ∧
   ∃ mA,h.Ns1 dx mA∧(∀ f,RelO (fs.lookup f) (mA f))∧PySem.Within mA (fs.map (·.1))
 | .own _=>∃ o,h.get? a=some o
 | .xd fs=>∃ mA,h.Ns1 a mA∧∀ f,RelO (fs.lookup f) (mA f)
 | .rng lo hi=>∃ t u v,h.get? a=some { cls:=.type "range",data:=.fields #[.int lo t,.int hi u,.int 1 v] }
 | .frz o u=>h.get? a=some o∧ObjOk H h a u
 | .tbl ps=>h.get? a=some { cls:=.none,data:=.fields ps }
 | .met f x=>h.get? a=some (PySem.W.methodObj (.ref f) (.ref x))
 | .ext φ=>φ h∧(∃ o,h.get? a=some o)∧∀ h1 h2:Heap,φ h1→(∀ o,h1.get? a=some o→h2.get? a=some o)→φ h2
def HOk (H:Hp)(h:Heap):Prop:=∀ a o,H a=some o→ObjOk P w H h a o
end
section
variable {P:Program}{w:World}{H H':Hp}{h h':Heap}{a:Addr}{o:HO}
theorem ObjOk.lt (x:ObjOk P w H h a o):a < h.objs.size:=by
 cases o with
 | lst xs=>obtain⟨_,_,_,_,e⟩:=x;exact Heap.lt_size e
 | tup xs=>obtain⟨_,_,_,p⟩:=x;exact p.lt
 | dK kvs=>obtain⟨_,_,_,_,o,_,_,e,_⟩:=x;exact Heap.lt_size e
 | dT kvs=>obtain⟨_,_,_,_,o,_,_,e,_⟩:=x;exact Heap.lt_size e
 | set S n=>obtain⟨o,_,_,_,e,_⟩:=x;exact Heap.lt_size e
 | ins C dx fs=>obtain⟨_,_,_,e,_⟩:=x;exact Heap.lt_size e
 | own y=>obtain⟨_,e⟩:=x;exact Heap.lt_size e
 | xd fs=>obtain⟨_,⟨_,_,_,e,_⟩,_⟩:=x;exact Heap.lt_size e
 | rng lo hi=>obtain⟨_,_,_,e⟩:=x;exact Heap.lt_size e
 | frz ob u=>obtain⟨e,_⟩:=x;exact Heap.lt_size e
 | tbl ps=>exact Heap.lt_size (show h.get? a=some _ from x)
 | met f y=>exact Heap.lt_size (show h.get? a=some _ from x)
 | ext φ=>obtain⟨_,⟨_,e⟩,_⟩:=x;exact Heap.lt_size e
theorem Paired.mapP {α β:Type}{F G:α→β→Prop}:∀ {l₁:List α} {l₂:List β},Paired F l₁ l₂→(∀ a b,F a b→G a b)→Paired G l₁ l₂
 | _,_,.nil,_=>.nil
 | _,_,.cons r t,f=>.cons (f _ _ r) (Paired.mapP t f)
theorem ObjOk.stay (x:ObjOk P w H h a o)(k:∀ b u,(b=a∨H b=some (.own a))→h.get? b=some u→h'.get? b=some u)
  (ho:∀ b,H b=some (.own a)→H' b=some (.own a)) (ht:∀ b xs,H b=some (.tup xs)→H' b=some (.tup xs)):ObjOk P w H' h' a o:=by
 induction o with
 | lst xs=>obtain⟨z,its,n,r,e⟩:=x;exact⟨z,its,n,r,k _ _ (.inl rfl) e⟩
 | tup xs=>obtain⟨z,its,r,ob,e,c⟩:=x;exact⟨z,its,r,ob,k _ _ (.inl rfl) e,c⟩
 | dK kvs=>obtain⟨z,y,vs,r,ob,es,ep,e,c⟩:=x;exact⟨z,y,vs,r,ob,es,ep,k _ _ (.inl rfl) e,c⟩
 | dT kvs =>
  obtain⟨z,y,xs,r,ob,es,ep,e,c⟩:=x
  exact⟨z,y,xs,Paired.mapP r fun p q z=>⟨z.1,ht _ _ z.2.1,z.2.2⟩,ob,es,ep,k _ _ (.inl rfl) e,c⟩
 | set S n=>obtain⟨ob,es,ep,t,e,c⟩:=x;exact⟨ob,es,ep,t,k _ _ (.inl rfl) e,c⟩
 | ins C dx fs =>
  obtain⟨d,z,ne,e,mA,⟨od,es,ep,e2,c⟩,r⟩:=x
  exact⟨ho _ d,z,ne,k _ _ (.inl rfl) e,mA,⟨od,es,ep,k _ _ (.inr d) e2,c⟩,r⟩
 | own y=>obtain⟨ob,e⟩:=x;exact⟨ob,k _ _ (.inl rfl) e⟩
 | xd fs=>obtain⟨mA,⟨od,es,ep,e,c⟩,r⟩:=x;exact⟨mA,⟨od,es,ep,k _ _ (.inl rfl) e,c⟩,r⟩
 | rng lo hi=>obtain⟨t,u,v,e⟩:=x;exact⟨t,u,v,k _ _ (.inl rfl) e⟩
 | frz ob u ih=>obtain⟨e,q⟩:=x;exact⟨k _ _ (.inl rfl) e,ih q⟩
 | tbl ps =>
  have e:h.get? a=some { cls:=.none,data:=.fields ps }:=x
  show h'.get? a=some { cls:=.none,data:=.fields ps }
  exact k a _ (.inl rfl) e
 | met f y =>
  have e:h.get? a=some (PySem.W.methodObj (.ref f) (.ref y)):=x
  show h'.get? a=some (PySem.W.methodObj (.ref f) (.ref y))
  exact k a _ (.inl rfl) e
 | ext φ=>obtain⟨p,⟨o,e⟩,st⟩:=x;exact⟨st _ _ p fun o q=>k _ _ (.inl rfl) q,⟨o,k _ _ (.inl rfl) e⟩,st⟩
theorem HOk.lt (x:HOk P w H h)(e:H a=some o):a < h.objs.size:=(x a o e).lt
theorem HOk.fresh (x:HOk P w H h)(e:h.objs.size≤a):H a=none:=by
 cases q:H a with
 | none=>rfl
 | some u=>exact absurd (Nat.lt_of_lt_of_le (x.lt q) e) (Nat.lt_irrefl _)
theorem HOk.kept (x:HOk P w H h)(k:∀ b u,h.get? b=some u→h'.get? b=some u):HOk P w H h':=fun a o e =>
 (x a o e).stay (fun b u _ q=>k b u q) (fun _ q=>q) fun _ _ q=>q
theorem HOk.laid (x:HOk P w H h)(k:∀ b u,h.get? b=some u→h'.get? b=some u)(hp:h.objs.size≤a)(new:ObjOk P w (upd H a o) h' a o):HOk P w (upd H a o) h':=fun b u e=>by
 have hn:=x.fresh hp
 by_cases hb:b=a
 ·subst hb;rw[ap]at e;cases e;exact new
 ·rw[al hb]at e
  exact(x b u e).stay (fun c v _ q=>k c v q) (fun c q=>by rw[al (bG q hn)];exact q) fun c xs q=>by rw[al (bG q hn)];exact q
end
def Rd (H:Hp)(a:Addr)(u:HO):Prop:=H a=some u∨∃ o,H a=some (.frz o u)
theorem Rd.ok {P:Program}{w:World}{H:Hp}{h:Heap}{a:Addr}{u:HO}(r:Rd H a u)(x:HOk P w H h):ObjOk P w H h a u:=by
 rcases r with r | ⟨o,r⟩
 ·exact x a u r
 ·obtain⟨_,q⟩:=x a _ r
  exact q
def Mut:Option HO→Prop
 | some (.lst _)=>True
 | some (.dK _)=>True
 | some (.dT _)=>True
 | some (.set _ _)=>True
 | some (.ins _ _ _)=>True
 | some (.ext _)=>True
 | _=>False
section
variable {P:Program}{w:World}{H:Hp}{h h':Heap}{x e:Addr}{o':HO}
theorem HOk.write (ok:HOk P w H h)(mu:Mut (H x))(he:e=x∨H e=some (.own x))(k:∀ b u,b≠e→h.get? b=some u→h'.get? b=some u)(heo:∃ u,h'.get? e=some u)
  (new:ObjOk P w (upd H x o') h' x o'):HOk P w (upd H x o') h':=fun b u q=>by
 have nown:∀ c y,H c=some (.own y)→c≠x:=fun c y r z=>by subst z;rw[r]at mu;exact mu
 have ntup:∀ c xs,H c=some (.tup xs)→c≠x:=fun c xs r z=>by subst z;rw[r]at mu;exact mu
 by_cases hb:b=x
 ·subst hb;rw[ap]at q;cases q;exact new
 ·rw[al hb]at q
  by_cases hbe:b=e
  ·have q':H b=some (.own x):=by
    rcases he with z | z
    ·exact absurd (hbe.trans z) hb
    ·rw[hbe];exact z
   rw[q]at q';cases q'
   obtain⟨v,hv⟩:=heo
   exact⟨v,by rw[hbe];exact hv⟩
  ·refine(ok b u q).stay (fun c v hc r=>k c v ?_ r) (fun c r=>by rw[al (nown c b r)];exact r) fun c xs r=>by rw[al (ntup c xs r)];exact r
   rcases hc with rfl | hc
   ·exact hbe
   ·rintro rfl
    rcases he with z | z
    ·exact nown c b hc z
    ·rw[hc]at z;cases z;exact hb rfl
end
structure Un (fs ex:List Addr)(H H':Hp)(h h':Heap):Prop where
 keep:∀ b o,h.get? b=some o→H b=none→b∉fs→b∉ex→h'.get? b=some o
 slot:∀ b o,h.get? b=some o→H b=none→b∈fs→b∉ex→∃ sl,h'.get? b=some { o with slots:=sl }
 free:∀ b o,h.get? b=some o→H b=none→b∉ex→H' b=none
 there:∀ b o,h.get? b=some o→b∉ex→∃ o',h'.get? b=some o'
 tups:∀ b xs,H b=some (.tup xs)→H' b=some (.tup xs)
 frzs:∀ b o u,H b=some (.frz o u)→H' b=some (.frz o u)
 tbls:∀ b ps,H b=some (.tbl ps)→∃ more,H' b=some (.tbl (ps++more))
section
variable {fs fs' ex ex':List Addr}{H H1 H2:Hp}{h h1 h2 h':Heap}{a x e:Addr}{o:HO}
theorem Un.any (u:Un fs ex H H1 h h1){b:Addr}{ob:Obj}(q:h.get? b=some ob)(n:H b=none)(hx:b∉ex):∃ sl,h1.get? b=some { ob with slots:=sl }:=by
 by_cases hb:b∈fs
 ·exact u.slot b ob q n hb hx
 ·exact⟨ob.slots,u.keep b ob q n hb hx⟩
theorem Un.trans (a:Un fs ex H H1 h h1)(b:Un fs ex H1 H2 h1 h2):Un fs ex H H2 h h2 where
 keep:=fun c ob q n hc hx=>b.keep c ob (a.keep c ob q n hc hx) (a.free c ob q n hx) hc hx
 slot:=fun c ob q n hc hx=>by
  obtain⟨sl,e1⟩:=a.slot c ob q n hc hx
  obtain⟨sl',e2⟩:=b.slot c _ e1 (a.free c ob q n hx) hc hx
  exact⟨sl',e2⟩
 free:=fun c ob q n hx=>by
  obtain⟨o',e1⟩:=a.there c ob q hx
  exact b.free c o' e1 (a.free c ob q n hx) hx
 there:=fun c ob q hx=>by
  obtain⟨o',e1⟩:=a.there c ob q hx
  exact b.there c o' e1 hx
 tups:=fun c xs q=>b.tups c xs (a.tups c xs q)
 frzs:=fun c ob xs q=>b.frzs c ob xs (a.frzs c ob xs q)
 tbls:=fun c ps q=>by
  obtain⟨m1,e1⟩:=a.tbls c ps q
  obtain⟨m2,e2⟩:=b.tbls c _ e1
  exact⟨m1++m2,by rw[e2,Array.append_assoc]⟩
theorem Un.kept (k:∀ b u,h.get? b=some u→h'.get? b=some u):Un fs ex H H h h' :=
 ⟨fun b ob q _ _ _=>k b ob q,fun b ob q _ _ _=>⟨ob.slots,k b ob q⟩,fun _ _ _ n _=>n,fun b ob q _=>⟨ob,k b ob q⟩,fun _ _ q=>q,fun _ _ _ q=>q,fun _ ps q=>⟨#[],by rw[q];simp⟩⟩
theorem Un.refl:Un fs ex H H h h:=Un.kept fun _ _ q=>q
theorem Un.laid (k:∀ b u,h.get? b=some u→h'.get? b=some u)(hp:h.objs.size≤a)(hn:H a=none):Un fs ex H (upd H a o) h h' where
 keep:=fun b u q _ _ _=>k b u q
 slot:=fun b u q _ _ _=>⟨u.slots,k b u q⟩
 free:=fun b u q n _=>by rw[al (Nat.ne_of_lt (Nat.lt_of_lt_of_le (Heap.lt_size q) hp))];exact n
 there:=fun b u q _=>⟨u,k b u q⟩
 tups:=fun b xs q=>by rw[al (bG q hn)];exact q
 frzs:=fun b u xs q=>by rw[al (bG q hn)];exact q
 tbls:=fun b ps q=>⟨#[],by rw[al (bG q hn),q];simp⟩
theorem Un.write (mu:Mut (H x))(he:e=x∨H e=some (.own x))(k:∀ b u,b≠e→h.get? b=some u→h'.get? b=some u)(heo:∃ u,h'.get? e=some u):Un fs ex H (upd H x o) h h':=by
 have hx:∀ b,H b=none→b≠x:=fun b n z=>by subst z;rw[n]at mu;exact mu
 have hb:∀ b,H b=none→b≠e:=fun b n z=>by
  subst z
  rcases he with r | r
  ·exact hx b n r
  ·rw[n]at r;cases r
 have hm:∀ b u,H b=some u→¬ Mut (some u)→b≠x:=fun b u q nm z=>by subst z;rw[q]at mu;exact nm mu
 refine⟨fun b u q n _ _=>k b u (hb b n) q,fun b u q n _ _=>⟨u.slots,k b u (hb b n) q⟩,fun b u q n _=>by rw[al (hx b n)];exact n,fun b u q _=>?_,
  fun b xs q=>by rw[al (hm b _ q fun z=>z)];exact q,fun b u xs q=>by rw[al (hm b _ q fun z=>z)];exact q,fun b ps q=>⟨#[],by rw[al (hm b _ q fun z=>z),q];simp⟩⟩
 by_cases hbe:b=e
 ·subst hbe;exact heo
 ·exact⟨u,k b u hbe q⟩
theorem Un.mono (u:Un fs ex H H1 h h1)(hs:∀ b∈fs,b∈fs')(hx:∀ b∈ex,b∈ex'):Un fs' ex' H H1 h h1 :=
 ⟨fun b ob q n hb he=>u.keep b ob q n (fun z=>hb (hs b z)) fun z=>he (hx b z),fun _ _ q n _ he=>u.any q n fun z=>he (hx _ z),fun b ob q n he=>u.free b ob q n fun z=>he (hx b z),fun b ob q he=>u.there b ob q fun z=>he (hx b z),u.tups,u.frzs,u.tbls⟩
end
def trk (h:Heap)(H:Hp):List Addr:=(List.range h.objs.size).filter fun a=>(H a).isSome
def hidT (h:Heap)(H:Hp):Heap:=PySem.W.hideAll h (trk h H)
theorem nU (h:Heap)(H:Hp):(hidT h H).objs.size=h.objs.size:=PySem.W.hideAll_size _ _
theorem pC {h:Heap}{H:Hp}{b:Addr}{o:Obj}(e:h.get? b=some o)(n:H b=none):(hidT h H).get? b=some o :=
 PySem.W.hideAll_get _ e fun hm=>by
  have q:(H b).isSome=true:=(List.mem_filter.mp hm).2
  rw[n]at q;simp at q
theorem sk {h:Heap}{H:Hp}{b:Addr}{o:Obj}(e:(hidT h H).get? b=some o):h.get? b=some o∧H b=none:=by
 have e':h.get? b=some o:=PySem.W.of_hideAll (trk h H) e
 refine⟨e',?_⟩
 cases q:H b with
 | none=>rfl
 | some x =>
  have hm:b∈trk h H:=List.mem_filter.mpr ⟨List.mem_range.mpr (Heap.lt_size e'),by simp[q]⟩
  have z:(hidT h H).get? b=none:=PySem.W.hideAll_none (trk h H) hm
  rw[z]at e;cases e
def allNews (g h:Heap)(L:Addr):List (Addr×Obj):=(List.range h.objs.size).filterMap fun a=>if a=L∨(g.get? a).isSome=true then none else (h.get? a).map fun o=>(a,o)
def rest (g h:Heap)(L d:Addr):List (Addr×Obj):=(allNews g h L).filter fun p=>decide (p.1≠d)
end L2
namespace L2
open PySem PySem.Spec PyProof.Rows
structure Mod (K:PySem.W.Frag)(mg:Str→Option Value)(base:Heap):Prop where
 kin:K.In base
 glob:base.Ns mainGlobals mg
 blt:∃ mb,base.Ns builtinsNs mb∧∀ x:Str,x ≠ "__name__" → mb x=bootBuiltins x
 nolimit:base.NoLimit
structure Cx where
 prog:Program
 w:World
 K:PySem.W.Frag
 mg:Str→Option Value
 base:Heap
 A:Around
 N:List Str
 s₀:Shared
 H₀:Hp
 env:Env
 outer:List Env
 stack:List Env
 ex:List Addr
 fn:Str→Bool
 calm:Bool
 pn:List (Addr×Obj)
 xe:Value→Shared→Prop
def frs (l:List Env):List Addr:=l.filterMap (·.frame)
abbrev Cx.fs (X:Cx):List Addr:=frs X.outer
def Vis (sc:Scope)(x:Str):Prop:=sc.names.lookup x=some .local∨sc.names.lookup x=some .cell∨sc.names.lookup x=some .free
def Loc (sc:Scope)(x:Str):Prop:=sc.names.lookup x=some .local∨sc.names.lookup x=some .cell
def Look (env:Env)(h:Heap)(m:Str→Option Value)(x:Str)(u:Value):Prop :=
 (env.kindOf x=some .local∧m x=some u)∨((env.kindOf x=some .cell∨env.kindOf x=some .free)∧∃ c,env.cells.lookup x=some c∧h.IsCell c (some u))
structure Cx.Ok (X:Cx):Prop where
 mod:Mod X.K X.mg X.base
 kind:X.env.scope.kind=.function
 glob:X.env.globals=mainGlobals
 blt:X.env.builtins=builtinsNs
 above:X.s₀.heap.objs.size≤X.env.locals
 inj:∀ x y c,X.env.cells.lookup x=some c→X.env.cells.lookup y=some c→x=y
 has:∀ x,(X.env.kindOf x=some .cell∨X.env.kindOf x=some .free)→∃ c,X.env.cells.lookup x=some c
 cab:∀ x c,X.fn x=true→X.env.cells.lookup x=some c→X.s₀.heap.objs.size≤c
 hd:X.calm=true→X.A.handled=none
 frames:X.A.frames=some X.stack
 stk:X.stack=X.outer∨(X.stack=X.env::X.outer∧X.env.frame=some X.env.locals)
 exf:∀ b∈X.ex,b≠X.env.locals∧∀ x c,X.env.cells.lookup x=some c→c≠b
 bs:∀ b o,X.base.get? b=some o→X.s₀.heap.get? b=some o∧X.H₀ b=none
 bsz:X.base.objs.size≤X.s₀.heap.objs.size
 noex:∀ b o,X.base.get? b=some o→b∉X.ex
 exfs:∀ b∈X.ex,b∉X.fs
 funs:X.s₀.heap.FunFrames X.base X.outer
 frf:∀ b∈X.fs,X.H₀ b=none
structure Inv (X:Cx)(pins:List (Addr×Obj))(σ:List (Option V))(H:Hp)(s:Shared):Prop where
 ok:X.Ok
 os:s.os=X.s₀.os
 bare:AllBare s.gens
 base:Un X.fs X.ex X.H₀ H X.s₀.heap s.heap
 loc:∃ m,s.heap.Ns X.env.locals m∧∀ (i:Nat) (x:Str) (v:V),X.N[i]?=some x→σ[i]?=some (some v)→Vis X.env.scope x→∃ u,RelV v u∧Look X.env s.heap m x u
 cell:∀ x c,X.env.cells.lookup x=some c→∃ v,s.heap.IsCell c v
 free:H X.env.locals=none
 freeC:∀ x c,X.env.cells.lookup x=some c→H c=none
 pin:∀ p∈X.pn++pins,s.heap.get? p.1=some p.2∧H p.1=none∧p.1≠X.env.locals∧p.1∉X.fs∧∀ v,p.2.data≠.cell v
 hok:HOk X.prog X.w H s.heap
 len:σ.length=X.N.length
section
variable {X:Cx}{pins:List (Addr×Obj)}{σ:List (Option V)}{H H':Hp}{s:Shared}{h':Heap}
theorem Cx.Ok.nofr (ok:X.Ok){b:Addr}{o:Obj}(e:X.base.get? b=some o):b∉X.fs:=fun hb=>by
 have:=(ok.funs.mem hb).1
 rw[e]at this;cases this
theorem Inv.bs (I:Inv X pins σ H s):∀ b o,X.base.get? b=some o→s.heap.get? b=some o∧H b=none:=fun b o e =>
 ⟨I.base.keep b o (I.ok.bs b o e).1 (I.ok.bs b o e).2 (I.ok.nofr e) (I.ok.noex b o e),I.base.free b o (I.ok.bs b o e).1 (I.ok.bs b o e).2 (I.ok.noex b o e)⟩
theorem Inv.bk (I:Inv X pins σ H s):∀ b o,X.base.get? b=some o→s.heap.get? b=some o:=fun b o e=>(I.bs b o e).1
theorem Inv.mod (I:Inv X pins σ H s):Mod X.K X.mg X.base:=I.ok.mod
theorem Inv.kIn (I:Inv X pins σ H s):X.K.In s.heap:=I.ok.mod.kin.keeps I.bk
theorem Inv.lt (I:Inv X pins σ H s):X.env.locals < s.heap.objs.size:=let ⟨_,hn,_⟩:=I.loc;hn.lt
theorem Inv.sz (I:Inv X pins σ H s):X.s₀.heap.objs.size≤s.heap.objs.size:=Nat.le_trans I.ok.above (Nat.le_of_lt I.lt)
theorem Inv.nofs (I:Inv X pins σ H s){a:Addr}(h:s.heap.objs.size≤a):a∉X.fs:=fun hb=>by
 obtain⟨_,o,ho,_⟩:=I.ok.funs.mem hb
 exact absurd (Nat.lt_of_lt_of_le (Heap.lt_size ho) (Nat.le_trans I.sz h)) (Nat.lt_irrefl _)
theorem Inv.cne (I:Inv X pins σ H s):∀ x c,X.env.cells.lookup x=some c→c≠X.env.locals:=fun x c e z=>by
 obtain⟨v,o,ho,hd⟩:=I.cell x c e
 obtain⟨m,⟨o',es,ep,ho',hd',_⟩,_⟩:=I.loc
 rw[z,ho']at ho;cases ho;rw[hd']at hd;cases hd
theorem Inv.funs (I:Inv X pins σ H s):s.heap.FunFrames X.base X.outer:=by
 have all:∀ (l:List Env),(∀ b∈frs l,b∈X.fs)→X.s₀.heap.FunFrames X.base l→s.heap.FunFrames X.base l:=by
  intro l
  induction l with
  | nil=>intro _ _;trivial
  | cons env r ih =>
   intro hs hl
   obtain⟨hk,⟨L,o,hf,hn,ho,hd⟩,hr⟩:=hl
   have hL:L∈X.fs:=hs L (by unfold frs;rw[List.filterMap_cons,hf];exact List.mem_cons_self)
   obtain⟨sl,e⟩:=I.base.slot L o ho (I.ok.frf L hL) hL fun z=>I.ok.exfs L z hL
   exact⟨hk,⟨L,_,hf,hn,e,hd⟩,ih (fun b hb=>hs b (by unfold frs;rw[List.filterMap_cons,hf];exact List.mem_cons_of_mem _ hb)) hr⟩
 exact all X.outer (fun _ hb=>hb) I.ok.funs
theorem Inv.stack (I:Inv X pins σ H s):s.heap.FunFrames X.base X.stack:=by
 rcases I.ok.stk with e | ⟨e,hf⟩
 ·rw[e];exact I.funs
 ·rw[e]
  obtain⟨m,hn,_⟩:=I.loc
  refine .cons (by rw[I.ok.kind];decide) hf hn ?_ I.funs
  exact Heap.get?_none_of_le (Nat.le_trans I.ok.bsz I.ok.above)
theorem Inv.stkSub (I:Inv X pins σ H s):∀ b∈frs X.stack,b∈X.env.locals::X.fs:=fun b hb=>by
 rcases I.ok.stk with e | ⟨e,hf⟩
 ·rw[e]at hb;exact List.mem_cons_of_mem _ hb
 ·rw[e]at hb
  unfold frs at hb
  rw[List.filterMap_cons,hf]at hb
  exact hb
theorem Inv.stkFree (I:Inv X pins σ H s):∀ b∈frs X.stack,H b=none:=fun b hb=>by
 rcases List.mem_cons.mp (I.stkSub b hb) with e | hb
 ·rw[e];exact I.free
 ·obtain⟨_,o,ho,_⟩:=I.ok.funs.mem hb
  exact I.base.free b o ho (I.ok.frf b hb) fun z=>I.ok.exfs b z hb
theorem Inv.step {g':Array GenState}{t':Nat}{d':Drawn}{ch:List Addr}(I:Inv X pins σ H s)
  (hch:∀ b∈ch,(b∈X.ex∨X.s₀.heap.objs.size≤b)∧b≠X.env.locals∧(∀ x c,X.env.cells.lookup x=some c→c≠b)∧∀ p∈X.pn++pins,p.1≠b)
  (keep:∀ b o,b≠X.env.locals→b∉X.fs→b∉ch→s.heap.get? b=some o→H b=none→h'.get? b=some o)
  (slot:∀ b o,b≠X.env.locals→b∈X.fs→b∉ch→s.heap.get? b=some o→H b=none→∃ sl,h'.get? b=some { o with slots:=sl }) (free:∀ b o,b∉ch→s.heap.get? b=some o→H b=none→H' b=none)
  (there:∀ b o,b∉ch→s.heap.get? b=some o→∃ o',h'.get? b=some o')
  (tups:∀ b xs,H b=some (.tup xs)→H' b=some (.tup xs)) (frzs:∀ b o u,H b=some (.frz o u)→H' b=some (.frz o u)) (tbls:∀ b ps,H b=some (.tbl ps)→∃ more,H' b=some (.tbl (ps++more)))
  (ns:∀ m,s.heap.Ns X.env.locals m→h'.Ns X.env.locals m) (hok:HOk X.prog X.w H' h') (hg:AllBare g') :
  Inv X pins σ H' { s with heap:=h',gens:=g',drawn:=d',toks:=t' }:=by
 have neL:∀ b o,X.s₀.heap.get? b=some o→b≠X.env.locals:=fun b o e=>Nat.ne_of_lt (Nat.lt_of_lt_of_le (Heap.lt_size e) I.ok.above)
 have neC:∀ b o,X.s₀.heap.get? b=some o→b∉X.ex→b∉ch:=fun b o e hx hb=>by
  rcases(hch b hb).1 with z | z
  ·exact hx z
  ·exact absurd (Nat.lt_of_lt_of_le (Heap.lt_size e) z) (Nat.lt_irrefl _)
 have cellK:∀ x c,X.env.cells.lookup x=some c→∀ v,s.heap.IsCell c v→h'.IsCell c v:=fun x c e v ⟨o,ho,hd⟩=>by
  have nch:c∉ch:=fun z=>(hch c z).2.2.1 x c e rfl
  by_cases hc:c∈X.fs
  ·obtain⟨sl,q⟩:=slot c o (I.cne x c e) hc nch ho (I.freeC x c e)
   exact⟨_,q,hd⟩
  ·exact⟨o,keep c o (I.cne x c e) hc nch ho (I.freeC x c e),hd⟩
 refine⟨I.ok,I.os,hg,⟨fun b o e n hb hx=>?_,fun b o e n hb hx=>?_,fun b o e n hx=>?_,fun b o e hx=>?_,fun b xs e=>tups b xs (I.base.tups b xs e),fun b o xs e=>frzs b o xs (I.base.frzs b o xs e),fun b ps e=>?_⟩,?_,fun x c e=>?_,?_,fun x c e=>?_,fun p hp=>?_,hok,I.len⟩
 ·exact keep b o (neL b o e) hb (neC b o e hx) (I.base.keep b o e n hb hx) (I.base.free b o e n hx)
 ·obtain⟨sl,e1⟩:=I.base.slot b o e n hb hx
  obtain⟨sl',e2⟩:=slot b _ (neL b o e) hb (neC b o e hx) e1 (I.base.free b o e n hx)
  exact⟨sl',e2⟩
 ·obtain⟨o',e1⟩:=I.base.there b o e hx
  exact free b o' (neC b o e hx) e1 (I.base.free b o e n hx)
 ·obtain⟨o',e1⟩:=I.base.there b o e hx
  exact there b o' (neC b o e hx) e1
 ·obtain⟨m1,e1⟩:=I.base.tbls b ps e
  obtain⟨m2,e2⟩:=tbls b _ e1
  exact⟨m1++m2,by rw[e2,Array.append_assoc]⟩
 ·obtain⟨m,hn,hl⟩:=I.loc
  refine⟨m,ns m hn,fun i x v e1 e2 e3=>?_⟩
  obtain⟨u,r,l⟩:=hl i x v e1 e2 e3
  refine⟨u,r,?_⟩
  rcases l with l | ⟨k,c,e,z⟩
  ·exact .inl l
  ·exact .inr ⟨k,c,e,cellK x c e _ z⟩
 ·obtain⟨v,z⟩:=I.cell x c e
  exact⟨v,cellK x c e v z⟩
 ·obtain⟨m,⟨o,_,_,ho,_⟩,_⟩:=I.loc
  exact free _ o (fun z=>(hch _ z).2.1 rfl) ho I.free
 ·obtain⟨v,o,ho,hd⟩:=I.cell x c e
  exact free c o (fun z=>(hch c z).2.2.1 x c e rfl) ho (I.freeC x c e)
 ·obtain⟨e,n,ne,nf,d⟩:=I.pin p hp
  have nch:p.1∉ch:=fun z=>(hch p.1 z).2.2.2 p hp rfl
  exact⟨keep p.1 p.2 ne nf nch e n,free p.1 p.2 nch e n,ne,nf,d⟩
theorem Inv.un {t':Nat}(I:Inv X pins σ H s)(u:Un X.fs [] H H' s.heap h')(hok:HOk X.prog X.w H' h'):Inv X pins σ H' { s with heap:=h',toks:=t' }:=by
 obtain⟨m,⟨o,es,ep,ho,r⟩,_⟩:=id I.loc
 obtain⟨sl,hL⟩:=u.any ho I.free (by simp)
 exact I.step (g':=s.gens) (d':=s.drawn) (ch:=[]) (fun _ z=>nomatch z) (fun b o _ hb _ e n=>u.keep b o e n hb (by simp)) (fun b o _ hb _ e n=>u.slot b o e n hb (by simp)) (fun b o _ e n=>u.free b o e n (by simp)) (fun b o _ e=>u.there b o e (by simp)) u.tups u.frzs u.tbls (fun m' hm=>by
  obtain⟨o',es',ep',ho',r'⟩:=hm
  rw[ho]at ho';cases ho'
  exact⟨_,es',ep',hL,r'⟩) hok I.bare
theorem Inv.call {g':Array GenState}{t':Nat}{d':Drawn}{ch:List Addr}(I:Inv X pins σ H s)(u:Un (frs X.stack) ch H H' s.heap h')(hok:HOk X.prog X.w H' h')(hg:AllBare g')
  (hch:∀ b∈ch,(b∈X.ex∨X.s₀.heap.objs.size≤b)∧b≠X.env.locals∧(∀ x c,X.env.cells.lookup x=some c→c≠b)∧∀ p∈X.pn++pins,p.1≠b) :
  Inv X pins σ H' { s with heap:=h',gens:=g',drawn:=d',toks:=t' }:=by
 obtain⟨m,⟨o,es,ep,ho,r⟩,_⟩:=id I.loc
 obtain⟨sl,hL⟩:=u.any ho I.free fun z=>(hch _ z).2.1 rfl
 exact I.step (ch:=ch) hch (fun b o hL hb hc e n=>u.keep b o e n (fun z=>(List.mem_cons.mp (I.stkSub b z)).elim hL hb) hc) (fun b o _ _ hc e n=>u.any e n hc) (fun b o hc e n=>u.free b o e n hc) (fun b o hc e=>u.there b o e hc) u.tups u.frzs u.tbls (fun m' hm=>by
  obtain⟨o',es',ep',ho',r'⟩:=hm
  rw[ho]at ho';cases ho'
  exact⟨_,es',ep',hL,r'⟩) hok hg
theorem Inv.turned {t':Nat}{it:Addr}(I:Inv X pins σ H s)(k:∀ b o,b≠it→s.heap.get? b=some o→h'.get? b=some o)(hn:H it=none)(hL:it≠X.env.locals)
  (h1:it∈X.ex∨X.s₀.heap.objs.size≤it) (h2:∀ x c,X.env.cells.lookup x=some c→c≠it) (h3:∀ p∈X.pn++pins,p.1≠it):Inv X pins σ H { s with heap:=h',toks:=t' }:=by
 have nit:∀ b u,H b=some u→b≠it:=fun b u e z=>by rw[z,hn]at e;cases e
 refine I.step (g':=s.gens) (d':=s.drawn) (ch:=[it]) (fun b hb=>?_) (fun b o _ _ hc e _=>k b o (fun z=>hc (by simp[z])) e) (fun b o _ _ hc e _=>⟨o.slots,k b o (fun z=>hc (by simp[z])) e⟩) (fun _ _ _ _ n=>n)
  (fun b o hc e=>⟨o,k b o (fun z=>hc (by simp[z])) e⟩) (fun _ _ e=>e) (fun _ _ _ e=>e) (fun b ps e=>⟨#[],by rw[e];simp⟩) (fun m hm=>?_) (fun b u e=>?_) I.bare
 ·have e:b=it:=by simpa using hb
  subst e
  exact⟨h1,hL,h2,h3⟩
 ·obtain⟨o,es,ep,ho,r⟩:=hm
  exact⟨o,es,ep,k _ o (Ne.symm hL) ho,r⟩
 ·refine(I.hok b u e).stay (fun c v hc q=>k c v ?_ q) (fun _ q=>q) fun _ _ q=>q
  rcases hc with z | z
  ·rw[z];exact nit b u e
  ·exact nit c _ z
theorem Inv.tok (I:Inv X pins σ H s)(t:Nat):Inv X pins σ H { s with toks:=t }:=I.un (h':=s.heap) (t':=t) Un.refl I.hok
theorem Inv.kept {t':Nat}(I:Inv X pins σ H s)(k:∀ b u,s.heap.get? b=some u→h'.get? b=some u):Inv X pins σ H { s with heap:=h',toks:=t' }:=I.un (Un.kept k) (I.hok.kept k)
theorem Inv.laid {a:Addr}{o:HO}{t':Nat}(I:Inv X pins σ H s)(k:∀ b u,s.heap.get? b=some u→h'.get? b=some u)(hp:s.heap.objs.size≤a)(new:ObjOk X.prog X.w (upd H a o) h' a o) :
  Inv X pins σ (upd H a o) { s with heap:=h',toks:=t' }:=I.un (Un.laid k hp (I.hok.fresh hp)) (I.hok.laid k hp new)
theorem Inv.write {x e:Addr}{o:HO}{t':Nat}(I:Inv X pins σ H s)(mu:Mut (H x))(he:e=x∨H e=some (.own x))(k:∀ b u,b≠e→s.heap.get? b=some u→h'.get? b=some u)(heo:∃ u,h'.get? e=some u)
  (new:ObjOk X.prog X.w (upd H x o) h' x o):Inv X pins σ (upd H x o) { s with heap:=h',toks:=t' }:=I.un (Un.write mu he k heo) (I.hok.write mu he k heo new)
theorem Inv.pins_of {pins':List (Addr×Obj)}(I:Inv X pins σ H s)(h:∀ p∈pins',s.heap.get? p.1=some p.2∧H p.1=none∧p.1≠X.env.locals∧p.1∉X.fs∧∀ v,p.2.data≠.cell v):Inv X pins' σ H s :=
 ⟨I.ok,I.os,I.bare,I.base,I.loc,I.cell,I.free,I.freeC,fun p hp=>(List.mem_append.mp hp).elim (fun z=>I.pin p (List.mem_append_left _ z)) (h p),I.hok,I.len⟩
theorem ib {N:List Str}(hN:N.Nodup){i j:Nat}{x:Str}(a:N[i]?=some x)(b:N[j]?=some x):i=j:=by
 obtain⟨h1,e1⟩:=List.getElem?_eq_some_iff.mp a
 obtain⟨h2,e2⟩:=List.getElem?_eq_some_iff.mp b
 exact(List.getElem_inj hN).mp (e1.trans e2.symm)
theorem jG {M:Model}{A:Around}{E:Value→Shared→Prop}{i:Nat}{x:Str}{v:V}{u:Value}{Q:Unit→Shared→Prop}(I:Inv X pins σ H s)(hN:X.N.Nodup)(hi:X.N[i]?=some x)(hx:Loc X.env.scope x)(r:RelV v u)
  (h:∀ s',Inv X pins (σ.set i (some v)) H s'→(∃ a,Heap.SameBut a s.heap s'.heap∧(a=X.env.locals∨X.env.cells.lookup x=some a))→Q () s') (hf:X.fn x=true∨X.env.scope.names.lookup x=some .local:=by first | exact .inl rfl | exact .inr rfl | assumption):wpAny M A (storeName X.env x u) Q E s:=by
 obtain⟨m,hn,hl⟩:=id I.loc
 have hcls:(X.env.scope.kind==.class||(X.env.scope.kind==.module&&X.env.locals != X.env.globals))=false:=by rw[I.ok.kind];rfl
 have hiσ:i < σ.length:=by rw[I.len];exact(List.getElem?_eq_some_iff.mp hi).1
 have cne:=I.cne
 have tracked:∀ {a:Addr} {h':Heap},(∃ o,s.heap.get? a=some o∧H a=none)→Heap.SameBut a s.heap h'→HOk X.prog X.w H h':=fun {a h'} ha hs b ob e=>by
  obtain⟨_,_,hfree⟩:=ha
  refine(I.hok b ob e).stay (fun c w' hc q=>(hs.2 c ?_).trans q) (fun _ q=>q) fun _ _ q=>q
  rintro rfl
  rcases hc with rfl | hc
  ·rw[hfree]at e;cases e
  ·rw[hfree]at hc;cases hc
 rcases hx with hk | hk
 ·refine wpAny_storeName_local hk hn (fun h' hn' hs=>?_) hcls
  obtain⟨oL,_,_,hoL,_⟩:=id hn
  refine h _ ⟨I.ok,I.os,I.bare,⟨fun b o e n hb hx=>?_,fun b o e n hb hx=>?_,I.base.free,fun b o e hx=>?_,I.base.tups,I.base.frzs,I.base.tbls⟩,⟨_,hn',fun j y v' e1 e2 e3=>?_⟩,fun y c e=>?_,I.free,I.freeC,fun p hp=>?_,tracked ⟨oL,hoL,I.free⟩ hs,by simpa using I.len⟩ ⟨_,hs,.inl rfl⟩
  ·exact(hs.2 b (Nat.ne_of_lt (Nat.lt_of_lt_of_le (Heap.lt_size e) I.ok.above))).trans (I.base.keep b o e n hb hx)
  ·obtain⟨sl,e1⟩:=I.base.slot b o e n hb hx
   exact⟨sl,(hs.2 b (Nat.ne_of_lt (Nat.lt_of_lt_of_le (Heap.lt_size e) I.ok.above))).trans e1⟩
  ·obtain⟨o',e1⟩:=I.base.there b o e hx
   exact⟨o',(hs.2 b (Nat.ne_of_lt (Nat.lt_of_lt_of_le (Heap.lt_size e) I.ok.above))).trans e1⟩
  ·by_cases hj:j=i
   ·subst hj
    rw[hi]at e1;cases e1
    rw[List.getElem?_set_self hiσ]at e2
    cases e2
    exact⟨u,r,.inl ⟨hk,by simp⟩⟩
   ·rw[List.getElem?_set_ne (Ne.symm hj)]at e2
    obtain⟨u',r',q⟩:=hl j y v' e1 e2 e3
    refine⟨u',r',?_⟩
    rcases q with ⟨k,e⟩ | ⟨k,c,e,z⟩
    ·refine .inl ⟨k,?_⟩
     have:y≠x:=fun e=>hj (ib hN e1 (e ▸ hi))
     simp[this,e]
    ·exact .inr ⟨k,c,e,z.sameBut hs (cne y c e)⟩
  ·obtain⟨w',z⟩:=I.cell y c e
   exact⟨w',z.sameBut hs (cne y c e)⟩
  ·obtain⟨e,n,ne,nf,d⟩:=I.pin p hp
   exact⟨(hs.2 p.1 ne).trans e,n,ne,nf,d⟩
 ·have hfn:X.fn x=true:=by
   rcases hf with z | z
   ·exact z
   ·rw[z]at hk;cases hk
  obtain⟨c,hc⟩:=I.ok.has x (.inl hk)
  obtain⟨w',z⟩:=I.cell x c hc
  refine wpAny_storeName_cell I.ok.kind hk hc z (fun h' hc' hs=>?_)
  obtain⟨oc,hoc,hocd⟩:=id z
  refine h { s with heap:=h' } ⟨I.ok,I.os,I.bare,⟨fun b o e n hb hx=>?_,fun b o e n hb hx=>?_,I.base.free,fun b o e hx=>?_,I.base.tups,I.base.frzs,I.base.tbls⟩,⟨m,hn.sameBut hs (Ne.symm (cne x c hc)),fun j y v' e1 e2 e3=>?_⟩,fun y c' e=>?_,I.free,I.freeC,fun p hp=>?_,tracked ⟨oc,hoc,I.freeC x c hc⟩ hs,by simpa using I.len⟩ ⟨c,hs,.inr hc⟩
  ·exact(hs.2 b (Nat.ne_of_lt (Nat.lt_of_lt_of_le (Heap.lt_size e) (I.ok.cab x c hfn hc)))).trans (I.base.keep b o e n hb hx)
  ·obtain⟨sl,e1⟩:=I.base.slot b o e n hb hx
   exact⟨sl,(hs.2 b (Nat.ne_of_lt (Nat.lt_of_lt_of_le (Heap.lt_size e) (I.ok.cab x c hfn hc)))).trans e1⟩
  ·obtain⟨o',e1⟩:=I.base.there b o e hx
   exact⟨o',(hs.2 b (Nat.ne_of_lt (Nat.lt_of_lt_of_le (Heap.lt_size e) (I.ok.cab x c hfn hc)))).trans e1⟩
  ·by_cases hj:j=i
   ·subst hj
    rw[hi]at e1;cases e1
    rw[List.getElem?_set_self hiσ]at e2
    cases e2
    exact⟨u,r,.inr ⟨.inl hk,c,hc,hc'⟩⟩
   ·rw[List.getElem?_set_ne (Ne.symm hj)]at e2
    obtain⟨u',r',q⟩:=hl j y v' e1 e2 e3
    refine⟨u',r',?_⟩
    rcases q with q | ⟨k,c',e,z'⟩
    ·exact .inl q
    ·refine .inr ⟨k,c',e,z'.sameBut hs ?_⟩
     rintro rfl
     exact hj (ib hN e1 (I.ok.inj _ _ _ e hc ▸ hi))
  ·by_cases hcc:c'=c
   ·subst hcc;exact⟨_,hc'⟩
   ·obtain⟨w2,z2⟩:=I.cell y c' e
    exact⟨w2,z2.sameBut hs hcc⟩
  ·obtain⟨e,n,ne,nf,d⟩:=I.pin p hp
   refine⟨(hs.2 p.1 ?_).trans e,n,ne,nf,d⟩
   intro q
   rw[q,hoc]at e
   have q':oc=p.2:=Option.some.inj e
   exact d w' (by rw[← q'];exact hocd)
theorem fh {M:Model}{A:Around}{E:Value→Shared→Prop}{i:Nat}{x:Str}{v:V}{u:Value}{Q:Unit→Shared→Prop}(I:Inv X pins σ H s)(hN:X.N.Nodup)(hi:X.N[i]?=some x)(hx:Loc X.env.scope x)(r:RelV v u)
  (h:∀ s',Inv X pins (σ.set i (some v)) H s'→Q () s') (hf:X.fn x=true∨X.env.scope.names.lookup x=some .local:=by first | exact .inl rfl | exact .inr rfl | assumption):wpAny M A (storeName X.env x u) Q E s :=
 jG I hN hi hx r (fun s' I' _=>h s' I') hf
theorem Inv.call' {s':Shared}{ch:List Addr}(I:Inv X pins σ H s)(ho:s'.os=s.os)(u:Un (frs X.stack) ch H H' s.heap s'.heap)(hok:HOk X.prog X.w H' s'.heap)(hg:AllBare s'.gens)
  (hch:∀ b∈ch,(b∈X.ex∨X.s₀.heap.objs.size≤b)∧b≠X.env.locals∧(∀ x c,X.env.cells.lookup x=some c→c≠b)∧∀ p∈X.pn++pins,p.1≠b):Inv X pins σ H' s':=by
 obtain⟨h',g',d',t',o'⟩:=s'
 have e:o'=s.os:=ho
 subst e
 exact I.call (g':=g') (t':=t') (d':=d') u hok hg hch
end
abbrev XK:=Value→Option Addr→Hp→Prop
abbrev St:=List (Option V)
abbrev VK:=V→Hp→Prop
abbrev TE:=St→Hp→VK→Prop
abbrev TT:=St→Hp→(Bool→Hp→Prop)→Prop
abbrev TA:=St→Hp→(List V→Hp→Prop)→Prop
structure Ends where
 nx:St→Hp→Prop
 rt:VK
 bk:St→Hp→Prop:=fun _ _=>False
 ct:St→Hp→Prop:=fun _ _=>False
abbrev TS:=Ends→St→Hp→Prop
def EP (X:Cx)(pins:List (Addr×Obj))(σ:St)(Q:VK)(u:Value)(s':Shared):Prop:=∃ v H',Inv X pins σ H' s'∧RelV v u∧Q v H'
def TP (X:Cx)(pins:List (Addr×Obj))(σ:St)(Q:Bool→Hp→Prop)(b:Bool)(s':Shared):Prop:=∃ H',Inv X pins σ H' s'∧Q b H'
def AP (X:Cx)(pins:List (Addr×Obj))(σ:St)(Q:List V→Hp→Prop)(us:List Value)(s':Shared):Prop:=∃ vs H',Inv X pins σ H' s'∧Vals vs us∧Q vs H'
def SP (X:Cx)(pins:List (Addr×Obj))(D:Ends)(f:Flow)(s':Shared):Prop :=
 match f with
 | .next=>∃ σ' H',Inv X pins σ' H' s'∧D.nx σ' H'
 | .brk=>∃ σ' H',Inv X pins σ' H' s'∧D.bk σ' H'
 | .cont=>∃ σ' H',Inv X pins σ' H' s'∧D.ct σ' H'
 | .ret u=>∃ v σ' H',Inv X pins σ' H' s'∧RelV v u∧D.rt v H'
def PE (X:Cx)(e:Expr)(t:TE):Prop :=
 ∀ (pins:List (Addr×Obj)) (s:Shared) (σ:St) (H:Hp) (Q:VK),Inv X pins σ H s→t σ H Q→wpAny (model X.prog X.w) X.A (eval e X.env) (EP X pins σ Q) X.xe s
def PT (X:Cx)(e:Expr)(t:TT):Prop :=
 ∀ (pins:List (Addr×Obj)) (s:Shared) (σ:St) (H:Hp) (Q:Bool→Hp→Prop),Inv X pins σ H s→t σ H Q→wpAny (model X.prog X.w) X.A (isTrue e X.env (eval e X.env)) (TP X pins σ Q) X.xe s
def PW (X:Cx)(e:Expr)(t:TT):Prop :=
 ∀ (whole:Sem Value) (pins:List (Addr×Obj)) (s:Shared) (σ:St) (H:Hp) (Q:Bool→Hp→Prop),Inv X pins σ H s→t σ H Q→wpAny (model X.prog X.w) X.A (isTrue e X.env whole) (TP X pins σ Q) X.xe s
theorem PW.pt {X:Cx}{e:Expr}{t:TT}(h:PW X e t):PT X e t:=h _
def PA (X:Cx)(es:List Expr)(t:TA):Prop :=
 ∀ (pos:Pos) (pins:List (Addr×Obj)) (s:Shared) (σ:St) (H:Hp) (Q:List V→Hp→Prop),Inv X pins σ H s→t σ H Q→wpAny (model X.prog X.w) X.A (spliced (backTo pos (starEach es X.env))) (AP X pins σ Q) X.xe s
def PS (X:Cx)(st:Stmt)(t:TS):Prop :=
 ∀ (pins:List (Addr×Obj)) (s:Shared) (σ:St) (H:Hp) (D:Ends),Inv X pins σ H s→t D σ H→wpAny (model X.prog X.w) X.A (exec st X.env) (SP X pins D) X.xe s
def PSs (X:Cx)(st:List Stmt)(t:TS):Prop :=
 ∀ (pins:List (Addr×Obj)) (s:Shared) (σ:St) (H:Hp) (D:Ends),Inv X pins σ H s→t D σ H→wpAny (model X.prog X.w) X.A (execs st X.env) (SP X pins D) X.xe s
theorem thn {α:Type}{t:Sem α}{Q Q':α→Shared→Prop}{M:Model}{A:Around}{E:Value→Shared→Prop}{s:Shared}(h:wpAny M A t Q E s)(hQ:∀ a s,Q a s→Q' a s):wpAny M A t Q' E s:=wpAny_mono h hQ fun _ _ x=>x
end L2
namespace L2
open PySem PySem.Spec PyProof.Rows
section
variable {X:Cx}
theorem bin {a b:Expr}{ta tb:TE}(ha:PE X a ta)(hb:PE X b tb){pins:List (Addr×Obj)}{s:Shared}{σ:St}{H:Hp}{R:V→V→Hp→Prop}(I:Inv X pins σ H s)(h:ta σ H fun x H1=>tb σ H1 fun y H2=>R x y H2)
  {α:Type} {Q:α→Shared→Prop} {f:Value→Value→Sem α}
  (hf:∀ v u s2 x y H2,Inv X pins σ H2 s2→RelV x v→RelV y u→R x y H2→wpAny (model X.prog X.w) X.A (f v u) Q X.xe s2) :
  wpAny (model X.prog X.w) X.A (eval a X.env) (fun v s₁=>wpAny (model X.prog X.w) X.A (eval b X.env) (fun u s₂=>wpAny (model X.prog X.w) X.A (f v u) Q X.xe s₂) X.xe s₁) X.xe s:=by
 refine thn (ha pins s σ H _ I h) fun v s1 ⟨x,H1,I1,r1,q1⟩=>?_
 refine thn (hb pins s1 σ H1 _ I1 q1) fun u s2 ⟨y,H2,I2,r2,q2⟩=>?_
 exact hf v u s2 x y H2 I2 r1 r2 q2
def tVar (i:Nat):TE:=fun σ H Q=>∃ v,σ[i]?=some (some v)∧Q v H
def tC (v:V):TE:=fun _ H Q=>Q v H
theorem fV {i:Nat}{x:Str}{pos:Pos}(hN:X.N[i]?=some x)(hv:Vis X.env.scope x)(hd:(x==("__debug__":Str))=false:=by decide)(hcd:(x==("__classdict__":Str))=false:=by decide):PE X (.Name x pos) (tVar i):=by
 intro pins s σ H Q I h
 obtain⟨v,e,h⟩:=h
 obtain⟨m,hn,hl⟩:=I.loc
 obtain⟨u,r,l⟩:=hl i x v hN e hv
 have fin:EP X pins σ Q u s:=⟨v,H,I,r,h⟩
 rcases l with ⟨hk,hm⟩ | ⟨hk,c,hc,hcell⟩
 ·exact wpAny_Name (wpAny_loadName_local I.ok.kind hk hn hm fin) hd
 ·rcases hk with hk | hk
  ·exact wpAny_Name (wpAny_loadName_cell I.ok.kind hk hc hcell fin) hd
  ·exact wpAny_Name (wpAny_loadName_free I.ok.kind hk hc hcell fin hcd) hd
theorem uv {i j pos}:PE X (.Constant (.int i) j pos) (tC (.int i)):=fun _ _ _ H _ I h=>wpAny_Constant_int ⟨.int i,H,I.tok _,⟨_,rfl⟩,h⟩
theorem vy {b j pos}:PE X (.Constant (.bool b) j pos) (tC (.bl b)):=fun _ _ _ H _ I h=>Constant_bool ⟨.bl b,H,I,rfl,h⟩
theorem uw {j pos}:PE X (.Constant .none j pos) (tC .non):=fun _ _ _ H _ I h=>Constant_none ⟨.non,H,I,rfl,h⟩
theorem ux {x j pos}:PE X (.Constant (.str x) j pos) (tC (.str x)):=fun _ _ _ H _ I h=>Calls.Constant_str ⟨.str x,H,I.tok _,⟨_,rfl⟩,h⟩
def Gl (X:Cx)(x:Str):Prop:=X.env.kindOf x=some .globalImplicit
theorem hI {E:Value→Shared→Prop}{pins:List (Addr×Obj)}{s:Shared}{σ:St}{H:Hp}{x:Str}{u:Value}{pos:Pos}{Q:Value→Shared→Prop}(I:Inv X pins σ H s)(hg:Gl X x)(hm:X.mg x=some u)(h:Q u s)
  (hd:(x==("__debug__":Str))=false:=by decide):wpAny (model X.prog X.w) X.A (eval (.Name x pos) X.env) Q E s :=
 Calls.Name_function_global I.ok.kind hg (Calls.loadGlobal_global (by rw[I.ok.glob];exact I.mod.glob.keeps I.bk) hm h) hd
theorem ic {E:Value→Shared→Prop}{pins:List (Addr×Obj)}{s:Shared}{σ:St}{H:Hp}{x:Str}{u:Value}{pos:Pos}{Q:Value→Shared→Prop}(I:Inv X pins σ H s)(hg:Gl X x)(hm:X.mg x=none)(hv:bootBuiltins x=some u)(h:Q u s)
  (hn:x ≠ "__name__" := by decide) (hd:(x==("__debug__":Str))=false:=by decide):wpAny (model X.prog X.w) X.A (eval (.Name x pos) X.env) Q E s:=by
 obtain⟨mb,h1,h2⟩:=I.mod.blt
 exact Calls.Name_function_global I.ok.kind hg (Calls.loadGlobal_builtin (by rw[I.ok.glob];exact I.mod.glob.keeps I.bk) hm (by rw[I.ok.blt];exact h1.keeps I.bk) ((h2 x hn).trans hv) h) hd
theorem bw {x:Str}{v:V}{u:Value}{pos:Pos}(hg:Gl X x)(hm:X.mg x=some u)(r:RelV v u)(hd:(x==("__debug__":Str))=false:=by decide):PE X (.Name x pos) (tC v) :=
 fun _ _ _ H _ I h=>hI I hg hm ⟨v,H,I,r,h⟩ hd
theorem aN {x:Str}{v:V}{u:Value}{pos:Pos}(hg:Gl X x)(hm:X.mg x=none)(hv:bootBuiltins x=some u)(r:RelV v u)(hn:x ≠ "__name__" := by decide)(hd:(x==("__debug__":Str))=false:=by decide):PE X (.Name x pos) (tC v) :=
 fun _ _ _ H _ I h=>ic I hg hm hv ⟨v,H,I,r,h⟩ hn hd
variable {a b:Expr}{ta tb:TE}{pos:Pos}
def PC (X:Cx)(op:CmpOp)(a b:Expr)(t:TE):Prop :=
 ∀ (pins:List (Addr×Obj)) (s:Shared) (σ:St) (H:Hp) (Q:VK),Inv X pins σ H s→t σ H Q →
  wpAny (model X.prog X.w) X.A (eval a X.env) (fun v s₁=>wpAny (model X.prog X.w) X.A (eval b X.env) (fun u s₂=>wpAny (model X.prog X.w) X.A (compareOp op v u) (EP X pins σ Q) X.xe s₂) X.xe s₁) X.xe s
theorem nobehind (b:Expr){op:CmpOp}(h:op≠.In)(h2:op≠.NotIn):behindInMarks op b=false:=by
 have e1:(op==CmpOp.In)=false:=by cases op<;>first | rfl | exact absurd rfl h
 have e2:(op==CmpOp.NotIn)=false:=by cases op<;>first | rfl | exact absurd rfl h2
 cases b<;>simp[behindInMarks,e1,e2]
def tB (t:TE):TT:=fun σ H Q=>t σ H fun x H1=>∃ c,x=.bl c∧Q c H1
theorem wf {op:CmpOp}{t:TE}(h:PC X op a b t)(h1:behindInMarks op b=false:=by first | exact nobehind _ (by decide) (by decide) | rfl):PT X (.Compare a [op] [b] pos) (tB t):=by
 intro pins s σ H Q I hw
 refine wpAny_isTrue_Compare1 (thn (h pins s σ H _ I hw) fun v s1 h1=>thn h1 fun u s2 h2=>thn h2 fun c s3 ⟨x,H1,I1,r1,q1⟩=>?_) h1
 obtain⟨d,rfl,q⟩:=q1
 cases r1
 exact wpAny_truthy_bool ⟨H1,I1,q⟩
theorem uy {e:Expr}{t:TE}(h:PE X e t)(he:∀ whole,isTrue e X.env whole=(do let v ← whole;standAt e.pos;holding [v] (truthy v)):=by intro _;rfl):PT X e (tB t):=by
 intro pins s σ H Q I hw
 refine isTrue_plain (thn (h pins s σ H _ I hw) fun v s1 ⟨x,H1,I1,r1,q1⟩=>?_) (he _)
 obtain⟨d,rfl,q⟩:=q1
 cases r1
 exact wpAny_truthy_bool ⟨H1,I1,q⟩
variable {tA tB':TT}{rest:List Expr}
def tAnd (t u:TT):TT:=fun σ H Q=>t σ H fun c H1=>if c=true then u σ H1 Q else Q false H1
def tOr (t u:TT):TT:=fun σ H Q=>t σ H fun c H1=>if c=true then Q true H1 else u σ H1 Q
def tNot (t:TT):TT:=fun σ H Q=>t σ H fun c H1=>Q (!c) H1
theorem so (ha:PT X a tA):PW X (.BoolOp .And [a] pos) tA:=by
 intro wh pins s σ H Q I h
 refine isTrue_and (thn (ha pins s σ H Q I h) fun c s1 e=>?_)
 cases c with
 | true=>exact isTrue_and_nil e
 | false=>exact e
theorem uz (ha:PT X a tA):PW X (.BoolOp .Or [a] pos) tA:=by
 intro wh pins s σ H Q I h
 refine isTrue_or (thn (ha pins s σ H Q I h) fun c s1 e=>?_)
 cases c with
 | false=>exact isTrue_or_nil e
 | true=>exact e
theorem uA (ha:PT X a tA)(hb:PW X (.BoolOp .And (b::rest) pos) tB'):PW X (.BoolOp .And (a::b::rest) pos) (tAnd tA tB'):=by
 intro wh pins s σ H Q I h
 refine isTrue_and (thn (ha pins s σ H _ I h) fun c s1 ⟨H1,I1,q1⟩=>?_)
 cases c with
 | true=>exact hb wh pins s1 σ H1 Q I1 q1
 | false=>exact⟨H1,I1,q1⟩
theorem vz (ha:PT X a tA)(hb:PW X (.BoolOp .Or (b::rest) pos) tB'):PW X (.BoolOp .Or (a::b::rest) pos) (tOr tA tB'):=by
 intro wh pins s σ H Q I h
 refine isTrue_or (thn (ha pins s σ H _ I h) fun c s1 ⟨H1,I1,q1⟩=>?_)
 cases c with
 | true=>exact⟨H1,I1,q1⟩
 | false=>exact hb wh pins s1 σ H1 Q I1 q1
theorem uB (ha:PT X a tA):PT X (.UnaryOp .Not a pos) (tNot tA):=by
 intro pins s σ H Q I h
 exact isTrue_not (ha pins s σ H (fun c H1=>Q (!c) H1) I h)
def tAndV (ta tb:TE):TE:=fun σ H Q=>ta σ H fun x H1=>∃ c,x=.bl c∧if c=true then tb σ H1 Q else Q (.bl false) H1
def tNotV (ta:TE):TE:=fun σ H Q=>ta σ H fun x H1=>∃ c,x=.bl c∧Q (.bl (!c)) H1
theorem uC {op}{t:TE}(h:PE X a t):PE X (.BoolOp op [a] pos) t:=fun pins s σ H Q I hw=>BoolOp_one (h pins s σ H Q I hw)
theorem uD (ha:PE X a ta)(hb:PE X (.BoolOp .And (b::rest) pos) tb):PE X (.BoolOp .And (a::b::rest) pos) (tAndV ta tb):=by
 intro pins s σ H Q I h
 refine BoolOp_and (thn (ha pins s σ H _ I h) fun v s1 ⟨x,H1,I1,r1,q1⟩=>?_)
 obtain⟨c,rfl,q1⟩:=q1
 cases r1
 refine wpAny_truthy_bool ?_
 cases c with
 | true=>exact hb pins s1 σ H1 Q I1 q1
 | false=>exact⟨.bl false,H1,I1,rfl,q1⟩
theorem uE (ha:PE X a ta):PE X (.UnaryOp .Not a pos) (tNotV ta):=by
 intro pins s σ H Q I h
 refine UnaryOp_ (thn (ha pins s σ H _ I h) fun v s1 ⟨x,H1,I1,r1,q1⟩=>?_)
 obtain⟨c,rfl,q1⟩:=q1
 cases r1
 exact not_of (wpAny_truthy_bool ⟨.bl (!c),H1,I1,rfl,q1⟩)
def tIf (t:TT)(ta tb:TE):TE:=fun σ H Q=>t σ H fun c H1=>if c=true then ta σ H1 Q else tb σ H1 Q
theorem pE {c:Expr}(hc:PT X c tA)(ha:PE X a ta)(hb:PE X b tb):PE X (.IfExp c a b pos) (tIf tA ta tb):=by
 intro pins s σ H Q I h
 refine wpAny_IfExp (thn (hc pins s σ H _ I h) fun d s1 ⟨H1,I1,q1⟩=>?_)
 cases d with
 | true=>exact ha pins s1 σ H1 Q I1 q1
 | false=>exact hb pins s1 σ H1 Q I1 q1
end
end L2
namespace L2
open PySem PySem.Spec PyProof.Rows
def SqL (K:PySem.W.Frag)(H:Hp)(a:Addr)(xs:List V):Prop :=
 Rd H a (.lst xs) ∨
  ∃ (o:Obj) (its:Array Value) (n:Nat),K.lookup a=some o∧o.cls=.type "list" ∧ o.dict=none∧o.data=.seq its n∧its.size≤sizeLine∧Vals xs its.toList
def SqT (K:PySem.W.Frag)(H:Hp)(a:Addr)(xs:List V):Prop :=
 Rd H a (.tup xs) ∨
  ∃ (o:Obj) (its:Array Value) (n:Nat),K.lookup a=some o∧o.cls=.type "tuple" ∧ o.dict=none∧o.data=.seq its n∧its.size≤sizeLine∧Vals xs its.toList
def absV:Value→Option V
 | .none=>some .non
 | .bool b=>some (.bl b)
 | .int i _=>some (.int i)
 | .str x _=>some (.str x)
 | .bytes b _=>some (.byt b)
 | .float b _=>some (.flt b)
 | .ref a=>some (.ref a)
 | .type n=>some (.ty n)
 | _=>none
theorem RelV.abs {x:V}{u:Value}(r:RelV x u):absV u=some x:=by
 cases x with
 | non=>cases r;rfl
 | bl _=>cases r;rfl
 | int _=>obtain⟨t,rfl⟩:=r;rfl
 | str _=>obtain⟨t,rfl⟩:=r;rfl
 | byt _=>obtain⟨t,rfl⟩:=r;rfl
 | flt _=>obtain⟨t,rfl⟩:=r;rfl
 | ref _=>cases r;rfl
 | ty _=>cases r;rfl
theorem RelV.inj {x y:V}{u:Value}(r:RelV x u)(q:RelV y u):x=y:=Option.some.inj (r.abs.symm.trans q.abs)
theorem Vals.inj:∀ {xs ys:List V} {us:List Value},Vals xs us→Vals ys us→xs=ys
 | _,_,_,.nil,.nil=>rfl
 | _,_,_,.cons r t,.cons r' t'=>by rw[r.inj r',Vals.inj t t']
section
variable {X:Cx}{pins:List (Addr×Obj)}{σ:St}{H:Hp}{s:Shared}{a:Addr}{xs ys:List V}
theorem SqL.of {K:PySem.W.Frag}(h:H a=some (.lst xs)):SqL K H a xs:=.inl (.inl h)
theorem SqT.of {K:PySem.W.Frag}(h:H a=some (.tup xs)):SqT K H a xs:=.inl (.inl h)
theorem Inv.list (I:Inv X pins σ H s)(h:SqL X.K H a xs):∃ its:List Value,Vals xs its∧PlainL s.heap a its.toArray∧xs.length≤sizeLine:=by
 rcases h with h | ⟨o,its,n,hk,hc,hd,hs,hz,r⟩
 ·obtain⟨z,its,n,r,e⟩:=h.ok I.hok
  exact⟨its,r,⟨_,n,e,rfl,rfl,rfl⟩,z⟩
 ·refine⟨its.toList,r,⟨o,n,I.kIn a o hk,hc,hd,by simpa using hs⟩,?_⟩
  have e:=r.length
  simp only[Array.length_toList]at e
  omega
theorem Inv.tuple (I:Inv X pins σ H s)(h:SqT X.K H a xs):∃ its:List Value,Vals xs its∧IsTup s.heap a its.toArray∧xs.length≤sizeLine:=by
 rcases h with h | ⟨o,its,n,hk,hc,_,hs,hz,r⟩
 ·obtain⟨z,its,r,p⟩:=h.ok I.hok
  exact⟨its,r,p.is,z⟩
 ·refine⟨its.toList,r,⟨o,I.kIn a o hk,hc,n,by simpa using hs⟩,?_⟩
  have e:=r.length
  simp only[Array.length_toList]at e
  omega
theorem Inv.list_inj (I:Inv X pins σ H s)(h:SqL X.K H a xs)(h':SqL X.K H a ys):xs=ys:=by
 obtain⟨its,r,⟨o,n,e,_,_,d⟩,_⟩:=I.list h
 obtain⟨its',r',⟨o',n',e',_,_,d'⟩,_⟩:=I.list h'
 rw[e]at e';cases e'
 rw[d]at d'
 injection d' with d1 _
 have:its=its':=by simpa using congrArg Array.toList d1
 subst this
 exact r.inj r'
theorem Inv.tuple_inj (I:Inv X pins σ H s)(h:SqT X.K H a xs)(h':SqT X.K H a ys):xs=ys:=by
 obtain⟨its,r,⟨o,e,_,n,d⟩,_⟩:=I.tuple h
 obtain⟨its',r',⟨o',e',_,n',d'⟩,_⟩:=I.tuple h'
 rw[e]at e';cases e'
 rw[d]at d'
 injection d' with d1 _
 have:its=its':=by simpa using congrArg Array.toList d1
 subst this
 exact r.inj r'
end
abbrev Cx.wish (X:Cx)(E:Value→Shared→Prop):Cx:={ X with xe:=E }
abbrev Cx.nox (X:Cx):Cx:=X.wish fun _ _=>False
theorem Cx.Ok.wish {X:Cx}(ok:X.Ok)(E:Value→Shared→Prop):(X.wish E).Ok :=
 ⟨ok.mod,ok.kind,ok.glob,ok.blt,ok.above,ok.inj,ok.has,ok.cab,ok.hd,ok.frames,ok.stk,ok.exf,ok.bs,ok.bsz,ok.noex,ok.exfs,ok.funs,ok.frf⟩
theorem Cx.Ok.unwish {X:Cx}{E:Value→Shared→Prop}(ok:(X.wish E).Ok):X.Ok :=
 ⟨ok.mod,ok.kind,ok.glob,ok.blt,ok.above,ok.inj,ok.has,ok.cab,ok.hd,ok.frames,ok.stk,ok.exf,ok.bs,ok.bsz,ok.noex,ok.exfs,ok.funs,ok.frf⟩
section
variable {X:Cx}{pins:List (Addr×Obj)}{σ:St}{H:Hp}{s:Shared}{E:Value→Shared→Prop}
theorem Inv.wish (I:Inv X pins σ H s)(E:Value→Shared→Prop):Inv (X.wish E) pins σ H s:=⟨I.ok.wish E,I.os,I.bare,I.base,I.loc,I.cell,I.free,I.freeC,I.pin,I.hok,I.len⟩
theorem Inv.unwish (I:Inv (X.wish E) pins σ H s):Inv X pins σ H s:=⟨I.ok.unwish,I.os,I.bare,I.base,I.loc,I.cell,I.free,I.freeC,I.pin,I.hok,I.len⟩
theorem SP.unwish {D:Ends}{f:Flow}{s':Shared}(h:SP (X.wish E) pins D f s'):SP X pins D f s':=by
 cases f with
 | next=>obtain⟨σ',H',I,q⟩:=h;exact⟨σ',H',I.unwish,q⟩
 | brk=>obtain⟨σ',H',I,q⟩:=h;exact⟨σ',H',I.unwish,q⟩
 | cont=>obtain⟨σ',H',I,q⟩:=h;exact⟨σ',H',I.unwish,q⟩
 | ret u=>obtain⟨v,σ',H',I,r,q⟩:=h;exact⟨v,σ',H',I.unwish,r,q⟩
theorem PE.nox {e:Expr}{t:TE}(h:PE X.nox e t):PE X e t:=fun pins s σ H Q I hw =>
 wpAny_mono (h pins s σ H Q (I.wish _) hw) (fun _ _ ⟨v,H',I',r,q⟩=>⟨v,H',I'.unwish,r,q⟩) fun _ _ z=>False.elim z
theorem PT.nox {e:Expr}{t:TT}(h:PT X.nox e t):PT X e t:=fun pins s σ H Q I hw =>
 wpAny_mono (h pins s σ H Q (I.wish _) hw) (fun _ _ ⟨H',I',q⟩=>⟨H',I'.unwish,q⟩) fun _ _ z=>False.elim z
theorem PSs.nox {st:List Stmt}{t:TS}(h:PSs X.nox st t):PSs X st t:=fun pins s σ H D I hw =>
 wpAny_mono (h pins s σ H D (I.wish _) hw) (fun _ _ q=>q.unwish) fun _ _ z=>False.elim z
end
section
variable {X:Cx}{st:Stmt}{rest:List Stmt}{t u:TS}{e:Expr}{te:TE}{pos:Pos}
def tNext:TS:=fun D σ H=>D.nx σ H
def tSeq (t u:TS):TS:=fun D σ H=>t { D with nx:=u D } σ H
theorem sr:PSs X [] tNext:=fun _ _ σ H _ I h=>wpAny_execs_nil ⟨σ,H,I,h⟩
theorem dg (h1:PS X st t)(h2:PSs X rest u):PSs X (st::rest) (tSeq t u):=by
 intro pins s σ H D I h
 refine wpAny_execs_cons (thn (h1 pins s σ H { D with nx:=u D } I h) fun f s1 q=>?_)
 cases f with
 | next =>
  obtain⟨σ',H',I',q⟩:=q
  exact h2 pins s1 σ' H' D I' q
 | ret v=>exact q
 | brk=>exact q
 | cont=>exact q
theorem nc (h1:PS X st t):PSs X [st] t:=by
 intro pins s σ H D I h
 refine wpAny_execs_cons (thn (h1 pins s σ H D I h) fun f s1 q=>?_)
 cases f with
 | next=>exact wpAny_execs_nil q
 | ret v=>exact q
 | brk=>exact q
 | cont=>exact q
theorem Inv.quiet {pins:List (Addr×Obj)}{σ:St}{H:Hp}{s:Shared}(I:Inv X pins σ H s):interactive X.env=false:=by simp[interactive,I.ok.kind]
def tDrop (te:TE):TS:=fun D σ H=>te σ H fun _ H1=>D.nx σ H1
theorem kg (he:PE X e te)(hs:swapsWith e none pos.line X.env=pure false:=by rfl):PS X (.Expr e pos) (tDrop te):=by
 intro pins s σ H D I h
 exact wpAny_Expr_any (thn (he pins s σ H _ I h) fun v s1 ⟨x,H1,I1,r1,q1⟩=>⟨σ,H1,I1,q1⟩) I.quiet hs
def tRet (te:TE):TS:=fun D σ H=>te σ H D.rt
theorem uF (he:PE X e te):PS X (.Return (some e) pos) (tRet te):=by
 intro pins s σ H D I h
 exact wpAny_Return_some (thn (he pins s σ H _ I h) fun v s1 ⟨x,H1,I1,r1,q1⟩=>⟨x,σ,H1,I1,r1,q1⟩)
def tIfS (c:TT)(t u:TS):TS:=fun D σ H=>c σ H fun b H1=>if b=true then t D σ H1 else u D σ H1
theorem vA {c:Expr}{a b:List Stmt}{tc:TT}(hc:PT X c tc)(ha:PSs X a t)(hb:PSs X b u):PS X (.If c a b pos) (tIfS tc t u):=by
 intro pins s σ H D I h
 refine wpAny_If (thn (hc pins s σ H _ I h) fun d s1 ⟨H1,I1,q1⟩=>?_)
 cases d with
 | true=>exact ha pins s1 σ H1 D I1 q1
 | false=>exact hb pins s1 σ H1 D I1 q1
def tNever:TS:=fun _ _ _=>False
theorem jH {sts:List Stmt}:PSs X sts tNever:=fun _ _ _ _ _ _ h=>h.elim
end
abbrev TG:=V→St→Hp→(St→Hp→Prop)→Prop
abbrev TGs:=List V→St→Hp→(St→Hp→Prop)→Prop
def PG (X:Cx)(target:Expr)(t:TG):Prop :=
 ∀ (pins:List (Addr×Obj)) (s:Shared) (σ:St) (H:Hp) (v:V) (u:Value) (Q:St→Hp→Prop),Inv X pins σ H s→RelV v u→t v σ H Q →
  wpAny (model X.prog X.w) X.A (assign target X.env u) (fun _ s'=>∃ σ' H',Inv X pins σ' H' s'∧Q σ' H') X.xe s
def PGs (X:Cx)(ts:List Expr)(t:TGs):Prop :=
 ∀ (pins:List (Addr×Obj)) (s:Shared) (σ:St) (H:Hp) (vs:List V) (us:List Value) (Q:St→Hp→Prop),Inv X pins σ H s→Vals vs us→t vs σ H Q →
  wpAny (model X.prog X.w) X.A (assignInOrder ((assignEach ts X.env).map (·.2)) us) (fun _ s'=>∃ σ' H',Inv X pins σ' H' s'∧Q σ' H') X.xe s
abbrev TSet:=V→V→V→Hp→(Hp→Prop)→Prop
def PSet (X:Cx)(t:TSet):Prop :=
 ∀ (pins:List (Addr×Obj)) (s:Shared) (σ:St) (H:Hp) (o i v:V) (ov iv u:Value) (Q:Hp→Prop),Inv X pins σ H s→RelV o ov→RelV i iv→RelV v u→t o i v H Q →
  wpAny (model X.prog X.w) X.A (setItem ov iv u) (fun _ s'=>∃ H',Inv X pins σ H' s'∧Q H') X.xe s
section
variable {X:Cx}{pos:Pos}
def gName (i:Nat):TG:=fun v σ H Q=>Q (σ.set i (some v)) H
theorem fi {i:Nat}{x:Str}(hN:X.N.Nodup)(hi:X.N[i]?=some x)(hx:Loc X.env.scope x)(hf:X.fn x=true∨X.env.scope.names.lookup x=some .local:=by first | exact .inl rfl | exact .inr rfl | assumption):PG X (.Name x pos) (gName i):=by
 intro pins s σ H v u Q I r h
 exact wpAny_assign_Name (fh I hN hi hx r (fun s' I'=>⟨_,H,I',h⟩) hf)
def gNil:TGs:=fun vs σ H Q=>vs=[]∧Q σ H
def gCons (t:TG)(u:TGs):TGs:=fun vs σ H Q=>∃ v r,vs=v::r∧t v σ H fun σ' H'=>u r σ' H' Q
theorem ng:PGs X [] gNil:=by
 intro pins s σ H vs us Q I r h
 obtain⟨e,h⟩:=h
 subst e
 cases r
 exact assignInOrder_nil ⟨σ,H,I,h⟩
theorem fj {e:Expr}{es:List Expr}{t:TG}{u:TGs}(h1:PG X e t)(h2:PGs X es u)
  (hs:(assignEach (e::es) X.env).map (·.2)=assign e X.env::(assignEach es X.env).map (·.2):=by rfl):PGs X (e::es) (gCons t u):=by
 intro pins s σ H vs us Q I r h
 obtain⟨v,vr,e1,h⟩:=h
 subst e1
 cases r with
 | cons r rr =>
  rw[hs]
  refine assignInOrder_cons (thn (h1 pins s σ H _ _ _ I r h) fun _ s1 ⟨σ1,H1,I1,q1⟩=>?_)
  exact h2 pins s1 σ1 H1 _ _ Q I1 rr q1
def gTup (K:PySem.W.Frag)(n:Nat)(t:TGs):TG:=fun v σ H Q=>∃ a xs,v=.ref a∧SqT K H a xs∧xs.length=n∧t xs σ H Q
theorem pF {es:List Expr}{k:Nat}{t:TGs}{n:Nat}(hc:X.calm=true)(h:PGs X es t)
  (hn:(assignEach es X.env).length=n:=by rfl) (hst:(assignEach es X.env).findIdx? (·.1)=none:=by rfl):PG X (.Tuple es k pos) (gTup X.K n t):=by
 intro pins s σ H v u Q I r hw
 obtain⟨a,xs,e1,hq,hl,hw⟩:=hw
 subst e1
 cases r
 obtain⟨its,rv,ht,hz⟩:=I.tuple hq
 refine assign_Tuple_tuple (I.ok.hd hc) ht (by simp[hn,← hl,rv.length]) hst fun h' hx=>?_
 have I1:Inv X pins σ H { s with heap:=h' }:=I.kept (t':=s.toks) fun b o e=>hx b o (Nat.ne_of_lt (Heap.lt_size e)) e
 exact h pins _ σ H xs _ Q I1 (by simpa using rv) hw
def gSub (to ti:TE)(t:TSet):TG:=fun v σ H Q=>to σ H fun o H1=>ti σ H1 fun i H2=>t o i v H2 fun H3=>Q σ H3
theorem uG {o i:Expr}{to ti:TE}{t:TSet}(ho:PE X o to)(hi:PE X i ti)(hs:PSet X t)
  (ha:∀ v,assign (.Subscript o i pos) X.env v=(do
   let ov ← holding [v] (eval o X.env)
   let iv ← holding [v,ov] (eval i X.env)
   standAt pos
   holding [v,ov,iv] (setItem ov iv v)
   release [v,ov,iv] []):=by intro _;rfl):PG X (.Subscript o i pos) (gSub to ti t):=by
 intro pins s σ H v u Q I r h
 rw[ha]
 refine wpAny_bind (wpAny_holding (thn (ho pins s σ H _ I h) fun ov s1 ⟨x,H1,I1,r1,q1⟩=>?_))
 refine wpAny_bind (wpAny_holding (thn (hi pins s1 σ H1 _ I1 q1) fun iv s2 ⟨y,H2,I2,r2,q2⟩=>?_))
 refine wpAny_bind (wpAny_standAt (wpAny_bind (wpAny_holding (thn (hs pins s2 σ H2 x y v ov iv u _ I2 r1 r2 r q2) fun _ s3 ⟨H3,I3,q3⟩=>?_))))
 exact wpAny_release ⟨σ,H3,I3,q3⟩
def tAsg (te:TE)(g:TG):TS:=fun D σ H=>te σ H fun x H1=>g x σ H1 D.nx
theorem pG {tg e:Expr}{te:TE}{g:TG}(he:PE X e te)(hg:PG X tg g)(hs:swapsWithSole [tg] e pos.line X.env=pure false:=by rfl)(hw:swappedStores [tg] e X.env=pure none:=by rfl)
  (h1:(assignEach [tg] X.env).map (·.2)=[assign tg X.env]:=by rfl):PS X (.Assign [tg] e pos) (tAsg te g):=by
 intro pins s σ H D I h
 refine wpAny_Assign_stores (thn (he pins s σ H _ I h) fun v s1 ⟨x,H1,I1,r1,q1⟩=>?_) hs hw
 rw[h1]
 exact thn (hg pins s1 σ H1 x v _ I1 r1 q1) fun _ s2 q=>q
theorem kh {i:Nat}{x:Str}{e:Expr}{te:TE}{pos':Pos}(hN:X.N.Nodup)(hi:X.N[i]?=some x)(hx:Loc X.env.scope x)(he:PE X e te)(hs:swapsWith e (some (.Name x pos')) pos.line X.env=pure false:=by rfl)(hf:X.fn x=true∨X.env.scope.names.lookup x=some .local:=by first | exact .inl rfl | exact .inr rfl | assumption) :
  PS X (.Assign [.Name x pos'] e pos) (tAsg te (gName i)):=by
 intro pins s σ H D I h
 refine wpAny_Assign_Name (thn (he pins s σ H _ I h) fun v s1 ⟨y,H1,I1,r1,q1⟩=>?_) hs
 exact fh I1 hN hi hx r1 (fun s2 I2=>⟨_,H1,I2,q1⟩) hf
end
section
variable {X:Cx}{pos:Pos}
end
structure It where
 go:Nat→Hp→Prop
 yld:Nat→Hp→V→Hp→Prop
 stop:Nat→Hp→Prop
def FpOk (X:Cx)(pins:List (Addr×Obj))(H:Hp)(b:Addr):Prop :=
 H b=none∧b≠X.env.locals∧b∉X.fs∧(b∈X.ex∨X.s₀.heap.objs.size≤b)∧(∀ x c,X.env.cells.lookup x=some c→c≠b)∧∀ p∈X.pn++pins,p.1≠b
theorem Inv.fpOk {X:Cx}{pins:List (Addr×Obj)}{σ:St}{H H':Hp}{s:Shared}{b:Addr}(I:Inv X pins σ H s)(hb:s.heap.objs.size≤b)(hn:H' b=none):FpOk X pins H' b:=by
 refine⟨hn,Nat.ne_of_gt (Nat.lt_of_lt_of_le I.lt hb),I.nofs hb,.inr (Nat.le_trans I.sz hb),fun x c e z=>?_,fun p hp z=>?_⟩
 ·obtain⟨v,q⟩:=I.cell x c e
  exact absurd (Nat.lt_of_lt_of_le q.lt (by rw[z];exact hb)) (Nat.lt_irrefl _)
 ·exact absurd (Nat.lt_of_lt_of_le (Heap.lt_size (I.pin p hp).1) (by rw[z];exact hb)) (Nat.lt_irrefl _)
structure Turn (P:Program)(w:World)(K:PySem.W.Frag)(tg:Expr)(J:It)(fp:List Addr)(it:Addr)(tn:Nat→Heap→Prop):Prop where
 mem:it∈fp
 obj:∀ i h,tn i h→∀ b∈fp,∃ o,h.get? b=some o∧∀ v,o.data≠.cell v
 keep:∀ i h h',tn i h→(∀ b∈fp,∀ o,h.get? b=some o→h'.get? b=some o)→tn i h'
 item:∀ (X:Cx),X.prog=P→X.w=w→X.K=K→X.calm=true→∀ (i:Nat) (pins:List (Addr×Obj)) (s:Shared) (σ:St) (H:Hp) (E:Value→Shared→Prop),Inv X pins σ H s→(∀ b∈fp,FpOk X pins H b)→tn i s.heap→J.go i H →
  wpAny (model P w) X.A (pyNext (.ref it)) (fun r s1=>∃ u,r=some u ∧
   wpAny (model P w) X.A (letOwnedTupleGo tg (.ref it) u) (fun _ s2=>∃ x H',Inv X pins σ H' s2∧RelV x u∧J.yld i H x H'∧tn (i+1) s2.heap∧∀ b∈fp,H' b=none) E s1) E s
 done:∀ (X:Cx),X.prog=P→X.w=w→X.K=K→X.calm=true→∀ (i:Nat) (pins:List (Addr×Obj)) (s:Shared) (σ:St) (H:Hp) (E:Value→Shared→Prop),Inv X pins σ H s→(∀ b∈fp,FpOk X pins H b)→tn i s.heap→J.stop i H →
  wpAny (model P w) X.A (pyNext (.ref it)) (fun r s1=>r=none∧Inv X pins σ H s1) E s
 self:∀ (A:Around) (i:Nat) (s:Shared) (Q:Value→Shared→Prop) (E:Value→Shared→Prop),tn i s.heap→Q (.ref it) s→wpAny (model P w) A (pyIter (.ref it)) Q E s
abbrev TI:=St→Hp→(It→Hp→Prop)→Prop
def PIE (X:Cx)(pins:List (Addr×Obj))(σ:St)(tg:Expr)(R:It→Hp→Prop)(itv:Value)(s2:Shared):Prop :=
 ∃ (it:Addr) (fp:List Addr) (tn:Nat→Heap→Prop) (J:It) (H':Hp),itv=.ref it∧Inv X pins σ H' s2∧Turn X.prog X.w X.K tg J fp it tn∧tn 0 s2.heap∧(∀ b∈fp,FpOk X pins H' b)∧R J H'
def PI (X:Cx)(tg iter:Expr)(wi:TI):Prop :=
 ∀ (pins:List (Addr×Obj)) (s:Shared) (σ:St) (H:Hp) (R:It→Hp→Prop),Inv X pins σ H s→wi σ H R →
  wpAny (model X.prog X.w) X.A (eval iter X.env) (fun v s1=>wpAny (model X.prog X.w) X.A (pyIter v) (PIE X pins σ tg R) X.xe s1) X.xe s
theorem pH {M:Model}{A:Around}{E:Value→Shared→Prop}{s:Shared}{tg:Expr}{it:Addr}{u:Value}{o:Obj}{n:String}{vs:Array Value}{Q:Unit→Shared→Prop}(ho:s.heap.get? it=some o)(hc:o.cls=.type n)(hd:o.data=.fields vs)
  (hn:["enumerate","zip","dict_itemiterator","dict_reverseitemiterator","odict_iterator","itertools.zip_longest","itertools.pairwise"].contains n=false) (hQ:Q () s):wpAny M A (letOwnedTupleGo tg (.ref it) u) Q E s:=by
 unfold letOwnedTupleGo
 cases tg<;>first
  | exact wpAny_pure hQ
  | (cases u<;>first
    | exact wpAny_pure hQ
    | (refine wpAny_bind (wpAny_load ho ?_)
       rw[hc,hd]
       show wpAny M A (if (["enumerate","zip","dict_itemiterator","dict_reverseitemiterator","odict_iterator","itertools.zip_longest","itertools.pairwise"].contains n&&vs[0]?==some (rawInt _))=true then _ else _) Q E s
       rw[if_neg (by intro h;rw[hn,Bool.false_and]at h;cases h)]
       exact wpAny_pure hQ))
def Itl (K:PySem.W.Frag)(a:Addr):It :=
 ⟨fun i H=>∃ xs x,SqL K H a xs∧xs[i]?=some x,fun i H x H'=>H'=H∧∀ xs,SqL K H a xs→xs[i]?=some x,fun i H=>∃ xs,SqL K H a xs∧xs.length≤i⟩
def Itt (K:PySem.W.Frag)(a:Addr):It :=
 ⟨fun i H=>∃ xs x,SqT K H a xs∧xs[i]?=some x,fun i H x H'=>H'=H∧∀ xs,SqT K H a xs→xs[i]?=some x,fun i H=>∃ xs,SqT K H a xs∧xs.length≤i⟩
def Itr (lo:Int)(n:Nat):It:=⟨fun i _=>i < n,fun i H x H'=>H'=H∧x=.int (lo+i),fun i _=>n≤i⟩
theorem nV {P:Program}{w:World}{K:PySem.W.Frag}{tg:Expr}(a it:Addr):Turn P w K tg (Itl K a) [it] it (fun i h=>h.IsListIter it a i) where
 mem:=by simp
 obj:=fun i h st b hb=>by
  have e:b=it:=by simpa using hb
  subst e
  obtain⟨o,e,c,d⟩:=st
  exact⟨o,e,fun v z=>by rw[d]at z;cases z⟩
 keep:=fun i h h' st k=>st.at fun o e=>k it (by simp) o e
 item:=by
  intro X hP hw hK hc i pins s σ H E I hf st hg
  subst hP hw hK
  obtain⟨xs,x,hq,hx⟩:=hg
  obtain⟨its,rv,p,hz⟩:=I.list hq
  obtain⟨u,hu,ru⟩:=rv.get hx
  obtain⟨f0,f1,f2,f3,f4,f5⟩:=hf it (by simp)
  refine wpAny_pyNext_list_item st p.isList (x:=u) (by simpa using hu) fun h' st' sb=>?_
  have I1:Inv X pins σ H { s with heap:=h' }:=I.turned (t':=s.toks) (fun b o hb e=>(sb.2 b hb).trans e) f0 f1 f3 f4 f5
  obtain⟨o,e,c,d⟩:=id st'
  exact⟨u,rfl,pH (s:={ s with heap:=h' }) e c d (by decide) ⟨x,H,I1,ru,⟨rfl,fun ys hy=>by rw[I.list_inj hy hq];exact hx⟩,st',fun b hb=>(hf b hb).1⟩⟩
 done:=by
  intro X hP hw hK hc i pins s σ H E I hf st hg
  subst hP hw hK
  obtain⟨xs,hq,hx⟩:=hg
  obtain⟨its,rv,p,hz⟩:=I.list hq
  obtain⟨f0,f1,f2,f3,f4,f5⟩:=hf it (by simp)
  have hl:=rv.length
  exact wpAny_pyNext_list_end (I.ok.hd hc) st p.isList (by simp;omega) fun h' eb=>⟨rfl,I.turned (t':=s.toks) (fun b o hb e=>eb b o hb e) f0 f1 f3 f4 f5⟩
 self:=fun _ _ _ _ _ st h=>wpAny_pyIter_listiter st h
theorem me {P:Program}{w:World}{K:PySem.W.Frag}{tg:Expr}(a it:Addr):Turn P w K tg (Itt K a) [it] it (fun i h=>h.IsTupleIter it a i) where
 mem:=by simp
 obj:=fun i h st b hb=>by
  have e:b=it:=by simpa using hb
  subst e
  obtain⟨o,e,c,d⟩:=st
  exact⟨o,e,fun v z=>by rw[d]at z;cases z⟩
 keep:=fun i h h' st k=>st.at fun o e=>k it (by simp) o e
 item:=by
  intro X hP hw hK hc i pins s σ H E I hf st hg
  subst hP hw hK
  obtain⟨xs,x,hq,hx⟩:=hg
  obtain⟨its,rv,p,hz⟩:=I.tuple hq
  obtain⟨u,hu,ru⟩:=rv.get hx
  obtain⟨f0,f1,f2,f3,f4,f5⟩:=hf it (by simp)
  refine wpAny_pyNext_tuple_item st (show s.heap.IsTuple a its.toArray from p) (x:=u) (by simpa using hu) fun h' st' sb=>?_
  have I1:Inv X pins σ H { s with heap:=h' }:=I.turned (t':=s.toks) (fun b o hb e=>(sb.2 b hb).trans e) f0 f1 f3 f4 f5
  obtain⟨o,e,c,d⟩:=id st'
  exact⟨u,rfl,pH (s:={ s with heap:=h' }) e c d (by decide) ⟨x,H,I1,ru,⟨rfl,fun ys hy=>by rw[I.tuple_inj hy hq];exact hx⟩,st',fun b hb=>(hf b hb).1⟩⟩
 done:=by
  intro X hP hw hK hc i pins s σ H E I hf st hg
  subst hP hw hK
  obtain⟨xs,hq,hx⟩:=hg
  obtain⟨its,rv,p,hz⟩:=I.tuple hq
  obtain⟨f0,f1,f2,f3,f4,f5⟩:=hf it (by simp)
  have hl:=rv.length
  exact wpAny_pyNext_tuple_end (I.ok.hd hc) st (show s.heap.IsTuple a its.toArray from p) (by simp;omega) fun h' eb=>⟨rfl,I.turned (t':=s.toks) (fun b o hb e=>eb b o hb e) f0 f1 f3 f4 f5⟩
 self:=fun _ _ _ _ _ st h=>wpAny_pyIter_tupleiter st h
theorem mf {P:Program}{w:World}{K:PySem.W.Frag}{tg:Expr}(it:Addr)(lo:Int)(n:Nat):Turn P w K tg (Itr lo n) [it] it (fun i h=>IsRangeIter h it (lo+(i:Nat)*1) ((n:Int) - (i:Nat)) 1) where
 mem:=by simp
 obj:=fun i h st b hb=>by
  have e:b=it:=by simpa using hb
  subst e
  exact⟨_,st,fun v z=>by
   have z':Data.fields _=Data.cell v:=z
   cases z'⟩
 keep:=fun i h h' st k=>k it (by simp) _ st
 item:=by
  intro X hP hw hK hc i pins s σ H E I hf st hg
  subst hP hw hK
  obtain⟨f0,f1,f2,f3,f4,f5⟩:=hf it (by simp)
  have W:=Walks.range (prog:=X.prog) (w:=X.w) (I.ok.hd hc) it lo 1 n
  refine W.item i s _ _ hg st fun v h' tk hv st' kk=>?_
  obtain⟨t,rfl⟩:=hv
  have I1:Inv X pins σ H { s with heap:=h',toks:=tk }:=I.turned (fun b o hb e=>kk b o (by simpa using hb) e) f0 f1 f3 f4 f5
  refine⟨_,rfl,pH (s:={ s with heap:=h',toks:=tk }) (n := "range_iterator") st' rfl rfl (by decide) ⟨.int (lo+i),H,I1,⟨t,?_⟩,⟨rfl,rfl⟩,st',fun b hb=>(hf b hb).1⟩⟩
  rw[Int.mul_one]
 done:=by
  intro X hP hw hK hc i pins s σ H E I hf st hg
  subst hP hw hK
  obtain⟨f0,f1,f2,f3,f4,f5⟩:=hf it (by simp)
  exact wpAny_pyNext_range_end (I.ok.hd hc) st (by have:n≤i:=hg;omega) fun h' eb=>⟨rfl,I.turned (t':=s.toks) (fun b o hb e=>eb b o hb e) f0 f1 f3 f4 f5⟩
 self:=fun _ _ _ _ _ st h=>wpAny_pyIter_rangeiter st h
end L2
namespace L2
open PySem PySem.Spec PyProof.Rows
section
variable {X:Cx}{tg:Expr}
theorem pI {pins:List (Addr×Obj)}{σ:St}{H:Hp}{s:Shared}{R:It→Hp→Prop}{E:Value→Shared→Prop}{lo hi:Int}{t u v:Tok}{tk:Nat}(I:Inv X pins σ H s)(h1 : -(2^62)≤lo)(h2:lo < 2^62)(h3 : -(2^62)≤hi)(h4:hi < 2^62)
  (q:R (Itr lo (hi - lo).toNat) H):wpAny (model X.prog X.w) X.A (pyIter (.ref s.heap.objs.size)) (PIE X pins σ tg R) E { s with heap:=s.heap.push { cls:=.type "range",data:=.fields #[.int lo t,.int hi u,.int 1 v] },toks:=tk }:=by
 refine wpAny_pyIter_range (IsRange.new ..) (small_one h1 h2 h3 h4) ?_
 have I1:Inv X pins σ H { s with heap:=s.heap.push { cls:=.type "range",data:=.fields #[.int lo t,.int hi u,.int 1 v] },toks:=tk }:=I.kept fun b o e=>Heap.get?_push_of_some _ e
 refine⟨(s.heap.push { cls:=.type "range",data:=.fields #[.int lo t,.int hi u,.int 1 v] }).objs.size,[(s.heap.push { cls:=.type "range",data:=.fields #[.int lo t,.int hi u,.int 1 v] }).objs.size],_,_,H,rfl,
  I1.kept (t':=tk) fun b o e=>Heap.get?_push_of_some _ e,mf _ lo (hi - lo).toNat,?_,fun b hb=>?_,q⟩
 ·have e1:lo+((0:Nat):Int)*1=lo:=by simp
  have e2:(((hi - lo).toNat:Nat):Int) - ((0:Nat):Int)=Builtin.Range.rangeSize lo hi 1:=by rw[rangeSize_one];split<;>omega
  show IsRangeIter _ _ (lo+((0:Nat):Int)*1) ((((hi - lo).toNat:Nat):Int) - ((0:Nat):Int)) 1
  rw[e1,e2]
  exact Heap.get?_push_size _ rfl
 ·have e:b=(s.heap.push { cls:=.type "range",data:=.fields #[.int lo t,.int hi u,.int 1 v] }).objs.size:=by simpa using hb
  subst e
  exact I1.fpOk (Nat.le_refl _) (I1.hok.fresh (Nat.le_refl _))
def iRng1 (ta:TA):TI:=fun σ H R=>ta σ H fun vs H1=>∃ j:Int,vs=[.int j]∧-(2^62)≤j∧j < 2^62∧R (Itr 0 j.toNat) H1
theorem nW {a:Expr}{ta:TA}{p pos:Pos}(hg:Gl X "range")(hm:X.mg "range"=none)(ha:PA X [a] ta)(hs:starEach [a] X.env=[(false,eval a X.env)]:=by rfl):PI X tg (.Call (.Name "range" p) [a] [] pos) (iRng1 ta):=by
 intro pins s σ H R I h
 refine Call_ (ic I hg hm boot_range (PyProof.Rows.callWith_type1 (thn (ha pos pins s σ H _ I h) fun us s1 ⟨vs,H1,I1,r1,q1⟩=>?_) hs rfl))
 obtain⟨j,e,q1,q2,q⟩:=q1
 subst e
 cases r1 with
 | cons r rr =>
  cases rr
  obtain⟨t,rfl⟩:=r
  exact call_range_1 (pI I1 (by omega) (by omega) q1 q2 (by simpa using q))
def tFor (wi:TI)(g:TG)(tb:TS):TS:=fun D σ H=>wi σ H fun J H1=>∃ W:Nat→Nat→St→Hp→Prop,(∃ m,W 0 m σ H1)∧∀ i m σ H,W i m σ H →
 (J.stop i H∧D.nx σ H)∨(J.go i H∧∃ N:St→Hp→Prop,(∀ σ' H',N σ' H'→∃ m',m' < m∧W (i+1) m' σ' H')∧∀ x H',J.yld i H x H'→g x σ H' fun σ2 H2=>tb { D with nx:=N,ct:=N,bk:=D.nx } σ2 H2)
def pinsAt (fp:List Addr)(h:Heap):List (Addr×Obj):=fp.filterMap fun b=>(h.get? b).map fun o=>(b,o)
theorem dA {fp:List Addr}{h:Heap}{b:Addr}{o:Obj}(hb:b∈fp)(e:h.get? b=some o):(b,o)∈pinsAt fp h:=List.mem_filterMap.mpr ⟨b,hb,by rw[e];rfl⟩
theorem nX {fp:List Addr}{h:Heap}{p:Addr×Obj}(hp:p∈pinsAt fp h):p.1∈fp∧h.get? p.1=some p.2:=by
 obtain⟨b,hb,e⟩:=List.mem_filterMap.mp hp
 cases q:h.get? b with
 | none=>rw[q]at e;cases e
 | some o =>
  rw[q]at e
  have e':(b,o)=p:=Option.some.inj e
  subst e'
  exact⟨hb,q⟩
theorem Inv.pinned {pins:List (Addr×Obj)}{σ:St}{H:Hp}{s:Shared}{fp:List Addr}(I:Inv X pins σ H s)(hf:∀ b∈fp,FpOk X pins H b)(ho:∀ b∈fp,∃ o,s.heap.get? b=some o∧∀ v,o.data≠.cell v):Inv X (pins++pinsAt fp s.heap) σ H s :=
 I.pins_of fun p hp=>(List.mem_append.mp hp).elim (fun z=>I.pin p (List.mem_append_right _ z)) fun z=>by
  obtain⟨hb,e⟩:=nX z
  obtain⟨f0,f1,f2,_⟩:=hf p.1 hb
  obtain⟨o,e',d⟩:=ho p.1 hb
  rw[e]at e';cases e'
  exact⟨e,f0,f1,f2,d⟩
theorem Inv.unpinned {pins pl:List (Addr×Obj)}{σ:St}{H:Hp}{s:Shared}(I:Inv X (pins++pl) σ H s):Inv X pins σ H s:=I.pins_of fun p hp=>I.pin p (List.mem_append_right _ (List.mem_append_left _ hp))
theorem uH {iter:Expr}{body:List Stmt}{wi:TI}{g:TG}{tb:TS}{pos:Pos}(hp:PassesOwn (model X.prog X.w) X.A X.env X.xe)(hc:X.calm=true)(hi:PI X tg iter wi)(hg:PG X tg g)(hb:PSs X body tb)
  (hs:∀ x,foldedSetIterable iter X.env x=pure x:=by intro _;rfl):PS X (.For tg iter body [] pos) (tFor wi g tb):=by
 intro pins s σ H D I h
 refine wpAny_For (thn (hi pins s σ H _ I h) fun v s1 h1=>thn h1 fun itv s2 h2=>?_) hs
 obtain⟨it,fp,tn,J,H2,e,I2,T,st2,f2,W,⟨m0,w0⟩,turn⟩:=h2
 subst e
 have stat:∀ {H':Hp},(∀ b∈fp,H' b=none)→∀ b∈fp,FpOk X pins H' b:=fun hn b hb=>⟨hn b hb,(f2 b hb).2⟩
 refine codeAny_forLoop_any (fun n s'=>∃ i σ' H',Inv X pins σ' H' s'∧tn i s'.heap∧(∀ b∈fp,H' b=none)∧W i n σ' H') ?_ m0 ⟨0,σ,H2,I2,st2,fun b hb=>(f2 b hb).1,w0⟩
 rintro n s3 ⟨i,σ3,H3,I3,st3,fr3,w3⟩
 rcases turn i n σ3 H3 w3 with ⟨stop,qn⟩ | ⟨go,N,hN,step⟩
 ·refine wpAny_passesOwn hp (thn (T.done X rfl rfl rfl hc i pins s3 σ3 H3 X.xe I3 (stat fr3) st3 stop) fun r s4 ⟨hr,I4⟩=>?_)
  subst hr
  exact wpAny_execs_nil ⟨σ3,H3,I4,qn⟩
 ·refine wpAny_passesOwn hp (thn (T.item X rfl rfl rfl hc i pins s3 σ3 H3 X.xe I3 (stat fr3) st3 go) fun r s4 ⟨u,hr,h4⟩=>?_)
  subst hr
  refine wpAny_passesOwn hp (thn h4 fun _ s5 ⟨x,H5,I5,r5,y5,st5,fr5⟩=>?_)
  have I5':=I5.pinned (stat fr5) (T.obj _ _ st5)
  refine wpAny_passesOwn hp (thn (hg _ s5 σ3 H5 x u _ I5' r5 (step x H5 y5)) fun _ s6 ⟨σ6,H6,I6,q6⟩=>?_)
  refine wpAny_passesOwn hp (thn (hb _ s6 σ6 H6 _ I6 q6) fun f s7 q7=>?_)
  have again:∀ {σ7:St} {H7:Hp},Inv X (pins++pinsAt fp s5.heap) σ7 H7 s7→N σ7 H7→∃ m,m < n∧∃ i σ' H',Inv X pins σ' H' s7∧tn i s7.heap∧(∀ b∈fp,H' b=none)∧W i m σ' H':=fun {σ7 H7} I7 n7=>by
   obtain⟨m',hm,w7⟩:=hN σ7 H7 n7
   refine⟨m',hm,i+1,σ7,H7,I7.unpinned,T.keep _ _ _ st5 fun b hb o e=>(I7.pin (b,o) (List.mem_append_right _ (List.mem_append_right _ (dA hb e)))).1,fun b hb=>?_,w7⟩
   obtain⟨o,e,d⟩:=T.obj _ _ st5 b hb
   exact(I7.pin (b,o) (List.mem_append_right _ (List.mem_append_right _ (dA hb e)))).2.1
  cases f with
  | next=>obtain⟨σ7,H7,I7,n7⟩:=q7;exact again I7 n7
  | cont=>obtain⟨σ7,H7,I7,n7⟩:=q7;exact again I7 n7
  | brk=>obtain⟨σ7,H7,I7,q7⟩:=q7;exact⟨σ7,H7,I7.unpinned,q7⟩
  | ret v=>obtain⟨x7,σ7,H7,I7,r7,q7⟩:=q7;exact⟨x7,σ7,H7,I7.unpinned,r7,q7⟩
end
end L2
namespace L2
open PySem PySem.Spec PyProof.Rows
abbrev R2:=V→V→Hp→VK→Prop
def OpR (X:Cx)(f:Value→Value→Sem Value)(r:R2):Prop :=
 ∀ (pins:List (Addr×Obj)) (s:Shared) (σ:St) (H:Hp) (x y:V) (v u:Value) (Q:VK),Inv X pins σ H s→RelV x v→RelV y u→r x y H Q →
  wpAny (model X.prog X.w) X.A (f v u) (EP X pins σ Q) X.xe s
def UnR (X:Cx)(f:Value→Sem Value)(r:V→Hp→VK→Prop):Prop :=
 ∀ (pins:List (Addr×Obj)) (s:Shared) (σ:St) (H:Hp) (x:V) (v:Value) (Q:VK),Inv X pins σ H s→RelV x v→r x H Q →
  wpAny (model X.prog X.w) X.A (f v) (EP X pins σ Q) X.xe s
def CallR (X:Cx)(f:Value)(r:List V→Hp→VK→Prop):Prop :=
 ∀ (pins:List (Addr×Obj)) (s:Shared) (σ:St) (H:Hp) (xs:List V) (us:List Value) (Q:VK),Inv X pins σ H s→Vals xs us→r xs H Q →
  wpAny (model X.prog X.w) X.A (call f us) (EP X pins σ Q) X.xe s
def tOp (r:R2)(ta tb:TE):TE:=fun σ H Q=>ta σ H fun x H1=>tb σ H1 fun y H2=>r x y H2 Q
def tUn (r:V→Hp→VK→Prop)(ta:TE):TE:=fun σ H Q=>ta σ H fun x H1=>r x H1 Q
def rI (C:Int→Int→Prop)(g:Int→Int→V):R2:=fun x y H Q=>∃ i j,x=.int i∧y=.int j∧C i j∧Q (g i j) H
def rI0 (g:Int→Int→V):R2:=fun x y H Q=>∃ i j,x=.int i∧y=.int j∧Q (g i j) H
def rU (g:Int→V):V→Hp→VK→Prop:=fun x H Q=>∃ i,x=.int i∧Q (g i) H
section
variable {X:Cx}{a b c:Expr}{ta tb tc:TE}{pos:Pos}
theorem binT (ha:PE X a ta)(hb:PE X b tb){pins:List (Addr×Obj)}{s:Shared}{σ:St}{H:Hp}{R:V→V→Hp→Prop}(I:Inv X pins σ H s)
  (h:ta σ H fun x H1=>tb σ H1 fun y H2=>R x y H2) {Q:Value→Shared→Prop} {f:Value→Value→Sem Value}
  (hf:∀ v u s2 x y H2,Inv X pins σ H2 s2→RelV x v→RelV y u→R x y H2→wpAny (model X.prog X.w) X.A (f v u) Q X.xe s2) :
  wpAny (model X.prog X.w) X.A (eval a X.env) (fun v s₁=>wpAny (model X.prog X.w) X.A (eval b X.env) (fun u s₂=>wpAny (model X.prog X.w) X.A (f v u) Q X.xe s₂) X.xe s₁) X.xe s:=by
 refine thn (ha pins s σ H _ I h) fun v s1 ⟨x,H1,I1,r1,q1⟩=>?_
 refine thn (hb pins s1 σ H1 _ I1 q1) fun u s2 ⟨y,H2,I2,r2,q2⟩=>?_
 exact hf v u s2 x y H2 I2 r1 r2 q2
theorem vB {op:Operator}{r:R2}(ho:OpR X (binaryOp op) r)(ha:PE X a ta)(hb:PE X b tb):PE X (.BinOp a op b pos) (tOp r ta tb):=by
 intro pins s σ H Q I h
 exact wpAny_BinOp (binT ha hb I h fun v u s2 x y H2 I2 rx ry q=>ho pins s2 σ H2 x y v u Q I2 rx ry q)
theorem vC {op:UnaryOp}{r:V→Hp→VK→Prop}(ho:UnR X (unaryOp op) r)(ha:PE X a ta):PE X (.UnaryOp op a pos) (tUn r ta):=by
 intro pins s σ H Q I h
 exact UnaryOp_ (thn (ha pins s σ H _ I h) fun v s1 ⟨x,H1,I1,r1,q1⟩=>ho pins s1 σ H1 x v Q I1 r1 q1)
theorem opI {f:Value→Value→Sem Value}{C:Int→Int→Prop}{g:Int→Int→Int}
  (rule:∀ (i j:Int) (t u:Tok) (s:Shared) (Q:Value→Shared→Prop) (E:Value→Shared→Prop),C i j→Q (.int (g i j) s.toks) { s with toks:=s.toks+1 }→wpAny (model X.prog X.w) X.A (f (.int i t) (.int j u)) Q E s) :
  OpR X f (rI C fun i j=>.int (g i j)):=by
 intro pins s σ H x y v u Q I rx ry h
 obtain⟨i,j,rfl,rfl,hc,q⟩:=h
 obtain⟨t,rfl⟩:=rx
 obtain⟨t',rfl⟩:=ry
 exact rule i j t t' s _ _ hc ⟨.int (g i j),H,I.tok _,⟨_,rfl⟩,q⟩
theorem opI0 {f:Value→Value→Sem Value}{g:Int→Int→Int}
  (rule:∀ (i j:Int) (t u:Tok) (s:Shared) (Q:Value→Shared→Prop) (E:Value→Shared→Prop),Q (.int (g i j) s.toks) { s with toks:=s.toks+1 }→wpAny (model X.prog X.w) X.A (f (.int i t) (.int j u)) Q E s) :
  OpR X f (rI0 fun i j=>.int (g i j)):=by
 intro pins s σ H x y v u Q I rx ry h
 obtain⟨i,j,rfl,rfl,q⟩:=h
 obtain⟨t,rfl⟩:=rx
 obtain⟨t',rfl⟩:=ry
 exact rule i j t t' s _ _ ⟨.int (g i j),H,I.tok _,⟨_,rfl⟩,q⟩
theorem opB0 {f:Value→Value→Sem Value}{g:Int→Int→Bool}
  (rule:∀ (i j:Int) (t u:Tok) (s:Shared) (Q:Value→Shared→Prop) (E:Value→Shared→Prop),Q (.bool (g i j)) s→wpAny (model X.prog X.w) X.A (f (.int i t) (.int j u)) Q E s) :
  OpR X f (rI0 fun i j=>.bl (g i j)):=by
 intro pins s σ H x y v u Q I rx ry h
 obtain⟨i,j,rfl,rfl,q⟩:=h
 obtain⟨t,rfl⟩:=rx
 obtain⟨t',rfl⟩:=ry
 exact rule i j t t' s _ _ ⟨.bl (g i j),H,I,rfl,q⟩
def CDiv (i j:Int):Prop:=0 < j∧j < 1073741824
def CMul (i j:Int):Prop:=(-(2^64) < i∧i < 2^64)∨(-(2^64) < j∧j < 2^64)
theorem CMul.ok {i j:Int}(h:CMul i j):IntMulOk i j:=by
 rcases h with ⟨h1,h2⟩ | ⟨h1,h2⟩
 ·exact .of_left (intBits_le_64 h1 h2)
 ·exact .of_right (intBits_le_64 h1 h2)
theorem uI:OpR X (binaryOp .Add) (rI0 fun i j=>.int (i+j)):=opI0 fun _ _ _ _ _ _ _ q=>add_int q
theorem uJ:OpR X (binaryOp .Sub) (rI0 fun i j=>.int (i - j)):=opI0 fun _ _ _ _ _ _ _ q=>sub_int q
theorem uK:OpR X (binaryOp .Mult) (rI CMul fun i j=>.int (i*j)):=opI fun _ _ _ _ _ _ _ hc q=>mul_int q hc.ok
theorem ss:OpR X (binaryOp .FloorDiv) (rI CDiv fun i j=>.int (i/j)):=opI fun i j _ _ _ _ _ hc q=>by
 have h1:(0:Int) < j:=hc.1
 have h2:j < 1073741824:=hc.2
 exact floordiv_int (by omega) (by rw[Int.fdiv_eq_ediv_of_nonneg i (by omega)];exact q) (.inl (PyProof.noPylong_small (by omega)))
theorem uL:OpR X (binaryOp .Mod) (rI (fun _ j=>0 < j) fun i j=>.int (i%j)):=opI fun i j _ _ _ _ _ hc q=>by
 have h1:(0:Int) < j:=hc
 exact mod_int' (by omega) (by rw[Int.fmod_eq_emod_of_nonneg i (by omega)];exact q)
theorem unI {f:Value→Sem Value}{g:Int→Int}
  (rule:∀ (i:Int) (t:Tok) (s:Shared) (Q:Value→Shared→Prop) (E:Value→Shared→Prop),Q (.int (g i) s.toks) { s with toks:=s.toks+1 }→wpAny (model X.prog X.w) X.A (f (.int i t)) Q E s) :
  UnR X f (rU fun i=>.int (g i)):=by
 intro pins s σ H x v Q I rx h
 obtain⟨i,rfl,q⟩:=h
 obtain⟨t,rfl⟩:=rx
 exact rule i t s _ _ ⟨.int (g i),H,I.tok _,⟨_,rfl⟩,q⟩
theorem uM:UnR X (unaryOp .USub) (rU fun i=>.int (-i)):=unI fun _ _ _ _ _ q=>neg_int q
end
section
variable {X:Cx}{a b c:Expr}{ta tb tc:TE}{pos:Pos}
theorem ki {pins:List (Addr×Obj)}{σ:St}{H:Hp}{s:Shared}{Q:VK}{k k':Bool}(I:Inv X pins σ H s)(q:Q (.bl k) H)(e:k=k'):EP X pins σ Q (.bool k') s:=by
 subst e
 exact⟨.bl k,H,I,rfl,q⟩
theorem pJ:OpR X (compareOp .Lt) (rI0 fun i j=>.bl (decide (i < j))):=opB0 fun _ _ _ _ _ _ _ q=>lt_int q
theorem kS:OpR X (compareOp .LtE) (rI0 fun i j=>.bl (decide (i≤j))):=opB0 fun _ _ _ _ _ _ _ q=>le_int q
theorem vD:OpR X (compareOp .Gt) (rI0 fun i j=>.bl (decide (j < i))):=opB0 fun _ _ _ _ _ _ _ q=>gt_int q
theorem OpR.or {f:Value→Value→Sem Value}{r r':R2}(h:OpR X f r)(h':OpR X f r'):OpR X f (fun x y H Q=>r x y H Q∨r' x y H Q):=by
 intro pins s σ H x y v u Q I rx ry q
 rcases q with q | q
 ·exact h pins s σ H x y v u Q I rx ry q
 ·exact h' pins s σ H x y v u Q I rx ry q
theorem nomark (b:Expr){op:CmpOp}(h:op≠.In:=by decide)(h2:op≠.NotIn:=by decide):behindInMarks op b=false:=by
 have e1:(op==CmpOp.In)=false:=by cases op<;>first | rfl | exact absurd rfl h
 have e2:(op==CmpOp.NotIn)=false:=by cases op<;>first | rfl | exact absurd rfl h2
 cases b<;>simp[behindInMarks,e1,e2]
theorem su {op:CmpOp}{r:R2}(ho:OpR X (compareOp op) r)(ha:PE X a ta)(hb:PE X b tb)(hm:behindInMarks op b=false):PE X (.Compare a [op] [b] pos) (tOp r ta tb):=by
 intro pins s σ H Q I h
 exact wpAny_Compare1 (binT ha hb I h fun v u s2 x y H2 I2 rx ry q=>ho pins s2 σ H2 x y v u Q I2 rx ry q) hm
def tTest (t:TE):TT:=fun σ H Q=>t σ H fun x H'=>∃ k,x=.bl k∧Q k H'
theorem sv {op:CmpOp}{r:R2}(ho:OpR X (compareOp op) r)(ha:PE X a ta)(hb:PE X b tb)(hm:behindInMarks op b=false):PT X (.Compare a [op] [b] pos) (tTest (tOp r ta tb)):=by
 intro pins s σ H Q I h
 refine wpAny_isTrue_Compare1 (thn (ha pins s σ H _ I h) fun v s1 ⟨x,H1,I1,r1,q1⟩=>thn (hb pins s1 σ H1 _ I1 q1) fun u s2 ⟨y,H2,I2,r2,q2⟩ =>
  thn (ho pins s2 σ H2 x y v u _ I2 r1 r2 q2) fun c s3 ⟨z,H3,I3,r3,k,e,q3⟩=>?_) hm
 subst e
 cases r3
 exact wpAny_truthy_bool ⟨H3,I3,q3⟩
def tChain (r r':R2)(ta tb tc:TE):TE:=fun σ H Q=>ta σ H fun x H1=>tb σ H1 fun y H2=>r x y H2 fun z H3=>∃ k,z=.bl k ∧
 (if k=true then tc σ H3 fun w' H4=>r' y w' H4 Q else Q (.bl false) H3)
theorem pK {op op':CmpOp}{r r':R2}(ho:OpR X (compareOp op) r)(ho':OpR X (compareOp op') r')(ha:PE X a ta)(hb:PE X b tb)(hc:PE X c tc)
  (hm:lastMarks [op,op'] [b,c]=false:=by with_unfolding_all rfl):PE X (.Compare a [op,op'] [b,c] pos) (tChain r r' ta tb tc):=by
 intro pins s σ H Q I h
 refine Compare_chain (thn (ha pins s σ H _ I h) fun v s1 ⟨x,H1,I1,r1,q1⟩=>chain_link (thn (hb pins s1 σ H1 _ I1 q1) fun u s2 ⟨y,H2,I2,r2,q2⟩ =>
  thn (ho pins s2 σ H2 x y v u _ I2 r1 r2 q2) fun d s3 ⟨z,H3,I3,r3,k,e,q3⟩=>?_)) hm
 subst e
 cases r3
 refine wpAny_truthy_bool ?_
 cases k with
 | false=>exact ite_ff ⟨.bl false,H3,I3,rfl,q3⟩
 | true=>exact ite_tt (chain_last (thn (hc pins s3 σ H3 _ I3 q3) fun w' s4 ⟨z',H4,I4,r4,q4⟩=>ho' pins s4 σ H4 y z' u w' Q I4 r2 r4 q4))
theorem pL {op op':CmpOp}{r r':R2}(ho:OpR X (compareOp op) r)(ho':OpR X (compareOp op') r')(ha:PE X a ta)(hb:PE X b tb)(hc:PE X c tc)
  (hm:lastMarks [op,op'] [b,c]=false:=by with_unfolding_all rfl):PT X (.Compare a [op,op'] [b,c] pos) (tTest (tChain r r' ta tb tc)):=by
 intro pins s σ H Q I h
 refine isTrue_chain (thn (ha pins s σ H _ I h) fun v s1 ⟨x,H1,I1,r1,q1⟩=>test_link (thn (hb pins s1 σ H1 _ I1 q1) fun u s2 ⟨y,H2,I2,r2,q2⟩ =>
  thn (ho pins s2 σ H2 x y v u _ I2 r1 r2 q2) fun d s3 ⟨z,H3,I3,r3,k,e,q3⟩=>?_)) hm
 subst e
 cases r3
 refine wpAny_truthy_bool ?_
 cases k with
 | false =>
  obtain⟨k',e',q'⟩:=q3
  cases e'
  exact ite_ff ⟨H3,I3,q'⟩
 | true =>
  refine ite_tt (test_last (thn (hc pins s3 σ H3 _ I3 q3) fun w' s4 ⟨z',H4,I4,r4,q4⟩=>thn (ho' pins s4 σ H4 y z' u w' _ I4 r2 r4 q4) fun d' s5 ⟨z2,H5,I5,r5,k2,e2,q5⟩=>?_))
  subst e2
  cases r5
  exact wpAny_truthy_bool ⟨H5,I5,q5⟩
theorem line63:(sizeLine:Nat) < 2^63:=by rw[sizeLine_eq];decide
theorem vals1 {x:V}{us:List Value}(r:Vals [x] us):∃ u,us=[u]∧RelV x u:=by
 cases r with
 | cons r1 r2=>cases r2;exact⟨_,rfl,r1⟩
theorem vals2 {x y:V}{us:List Value}(r:Vals [x,y] us):∃ u w',us=[u,w']∧RelV x u∧RelV y w':=by
 cases r with
 | cons r1 r2 =>
  cases r2 with
  | cons r3 r4=>cases r4;exact⟨_,_,rfl,r1,r3⟩
theorem nY (hc:X.calm=true):CallR X (.builtin "max") (fun xs H Q=>∃ i j,xs=[.int i,.int j]∧Q (.int (if j > i then j else i)) H):=by
 intro pins s σ H xs us Q I r h
 obtain⟨i,j,rfl,q⟩:=h
 obtain⟨u,w',rfl,⟨t,rfl⟩,⟨t',rfl⟩⟩:=vals2 r
 refine max_two_ints (I.ok.hd hc) fun h' tk k=>⟨_,H,I.kept k,?_,q⟩
 by_cases hj:j > i
 ·rw[if_pos hj,if_pos hj];exact⟨_,rfl⟩
 ·rw[if_neg hj,if_neg hj];exact⟨_,rfl⟩
end
end L2
namespace L2
open PySem PySem.Spec PyProof.Rows
structure ObjM (h:Heap)(x dx C:Addr)(mA:Str→Option Value):Prop where
 obj:h.get? x=some (PySem.W.instObj C dx)
 ns:h.Ns1 dx mA
 ne:dx≠x
theorem nZ {h:Heap}{dx:Addr}{mA:Str→Option Value}(n:h.Ns1 dx mA):∃ od,h.get? dx=some od∧∀ name,PySem.W.lookIn name od=some (mA name):=by
 obtain⟨o,es,ep,ho,hd,hk,_,hm⟩:=n
 refine⟨o,ho,fun name=>?_⟩
 have e:=hm name
 unfold nsFind findBy at e
 rw[← Array.find?_toList]at e
 unfold PySem.W.lookIn
 rw[hd]
 dsimp only
 split
 ·rename_i y q
  rw[q]at e
  exact congrArg some e
 ·rename_i q
  rw[q]at e
  have a:es.toList.any (·.refKey)=false:=by
   rw[List.any_eq_false]
   intro y hy
   obtain⟨z,t,hkey⟩:=hk y (Array.mem_toList_iff.mp hy)
   simp[DictEntry.refKey,hkey]
  have a':¬ es.toList.any (·.refKey)=true:=by rw[a];exact Bool.false_ne_true
  rw[if_neg a']
  exact congrArg some e
theorem ObjM.look {h:Heap}{x dx C:Addr}{mA:Str→Option Value}(I:ObjM h x dx C mA):∃ od,PySem.W.InstAt h x (PySem.W.instObj C dx) C (some od)∧∀ name,PySem.W.lookIn name od=some (mA name) :=
 let ⟨od,ho,hl⟩:=nZ I.ns
 ⟨od,⟨I.obj,rfl,rfl,ho⟩,hl⟩
section
variable {prog:Program}{w:World}{A:Around}{E:Value→Shared→Prop}{s:Shared}{K:PySem.W.Frag}{x dx C f:Addr}{mA:Str→Option Value}{name:Str}{v:Value}
theorem pM {pl:Sem Bool}{Q:Value×List Value→Shared→Prop}(X:K.In s.heap)(I:ObjM s.heap x dx C mA)(hg:PySem.W.plainGet K C name=true)
  (hf:PySem.W.findIn K (.ref C) name=some (some (.ref f))) (ht:PySem.W.isFn K (.ref f)=true) (hv:mA name=none) (h:Q (.ref f,[.ref x]) s) :
  wpAny (model prog w) A (getMethod (.ref x) name pl) Q E s:=by
 obtain⟨od,J,hl⟩:=I.look
 exact PySem.W.method_fn X J (PySem.W.plainGet_of hg).1 (PySem.W.plainGet_of hg).2 hf (beq_iff_eq.mp ht) (by show (PySem.W.lookIn name od).map (·.isSome)=some false;rw[hl,hv];rfl) h
theorem vE {R:Result→Shared→Prop}{vs:List Value}{kw:List (Str×Value)}(X:K.In s.heap)(hm:PySem.W.makesIn K C=true)
  (hi:PySem.W.findIn K (.ref C) "__init__"=some (some (.ref f))) (hf:PySem.W.typeIn K (.ref f)=some (.type "function"))
  (h:codeAny (model prog w) (A.under (.builtin "type.__call__" ⟨.ref C::vs,kw⟩)) (.call (.ref f) ⟨.ref (s.heap.objs.size+1)::vs,kw⟩) (PySem.W.InitBack (s.heap.objs.size+1) R)
   { s with heap:=(s.heap.push PySem.W.emptyDict).push (PySem.W.instObj C s.heap.objs.size) }) :
  codeAny (model prog w) A (.call (.ref C) ⟨vs,kw⟩) R s:=by
 obtain⟨hh,g,d,t,os⟩:=s
 exact PySem.W.make_core (PySem.W.makes_of X hm) (PySem.W.looks_findIn X hi) (fun self=>PySem.W.bind_fn X self hf) (.inl rfl) h
end
theorem RelO.none_of {o:Option Value}(r:RelO none o):o=none:=by
 cases o with
 | none=>rfl
 | some u=>exact(show False from r).elim
section
variable {P:Program}{w:World}{H H':Hp}{h h':Heap}{a C dx:Addr}{fs fs':List (Str×V)}
theorem sx (hok:HOk P w H h)(e:H a=some (.ins C dx fs)):∃ mA,ObjM h a dx C mA∧(∀ f,RelO (fs.lookup f) (mA f))∧PySem.Within mA (fs.map (·.1))∧fs.length≤1000∧H dx=some (.own a):=by
 obtain⟨d,z,ne,ob,mA,n,r,q⟩:=(show ObjOk P w H h a (.ins C dx fs) from hok a _ e)
 exact⟨mA,⟨ob,n,ne⟩,r,q,z,d⟩
end
structure Cls (K:PySem.W.Frag)(C:Addr):Prop where
 pg:PySem.W.plainGet K C Str.empty=true
 hd:PySem.W.hasDictIn K C=true
 po:PySem.W.plainOver K C=true
 sa:PySem.W.findIn K (.ref C) "__setattr__"=some (some (.builtin "object.__setattr__"))
theorem Cls.get {K:PySem.W.Frag}{C:Addr}(c:Cls K C)(f:Str):PySem.W.plainGet K C f=true:=c.pg
structure Meth (K:PySem.W.Frag)(C:Addr)(m:Str)(f:Addr):Prop where
 at_:PySem.W.findIn K (.ref C) m=some (some (.ref f))
 fn:PySem.W.isFn K (.ref f)=true
 kp:PySem.W.keepIn K (.ref f)=true
section
variable {X:Cx}{pins:List (Addr×Obj)}{σ:St}{H:Hp}{s:Shared}{a C dx:Addr}{fs:List (Str×V)}{f:Str}{v:V}{A:Around}{E:Value→Shared→Prop}
theorem mh {m:Str}{g:Addr}{pl:Sem Bool}{Q:Value×List Value→Shared→Prop}(I:Inv X pins σ H s)(e:H a=some (.ins C dx fs))(c:Cls X.K C)(k:Meth X.K C m g)(l:fs.lookup m=none)
  (h:Q (.ref g,[.ref a]) s):wpAny (model X.prog X.w) A (getMethod (.ref a) m pl) Q E s:=by
 obtain⟨mA,O,r,_,_,_⟩:=sx I.hok e
 have hn:mA m=none:=RelO.none_of (by rw[← l];exact r m)
 exact pM I.kIn O (c.get m) k.at_ k.fn hn h
end
section
variable {X:Cx}{o e value:Expr}{f:Str}{pos pos' tpos:Pos}{ta tv:TE}
theorem uj {pl:Sem Bool}{m:Str}{apos:Pos}{args:List Expr}{pins:List (Addr×Obj)}{s:Shared}{σ:St}{H:Hp}{Q:Value→Shared→Prop}{te:TE}(he:PE X e te)(I:Inv X pins σ H s)
  (h:te σ H fun x H1=>∃ a C dx fs g,x=.ref a∧H1 a=some (.ins C dx fs)∧Cls X.K C∧Meth X.K C m g∧fs.lookup m=none ∧
   ∀ s1,Inv X pins σ H1 s1→wpAny (model X.prog X.w) X.A (callWith pos (.ref g) [.ref a] (backTo pos (starEach args X.env)) (backToKw pos (keywordEach [] X.env))) Q X.xe s1)
  (ht:eval (.Call (.Attribute e m apos) args [] pos) X.env=(do
   let ov ← eval e X.env
   standAt apos.atName
   let (f,first) ← holding [ov] (getMethod ov m pl)
   callWith pos f first (backTo pos (starEach args X.env)) (backToKw pos (keywordEach [] X.env)))) :
  wpAny (model X.prog X.w) X.A (eval (.Call (.Attribute e m apos) args [] pos) X.env) Q X.xe s:=by
 refine PySem.W.methodCall_KW (pl:=pl) (thn (he pins s σ H _ I h) fun u s1 ⟨x,H1,I1,rx,a,C,dx,fs,g,ex,ea,c,k,l,q⟩=>?_) ht
 subst ex
 obtain rfl:u=Value.ref a:=rx
 exact mh I1 ea c k l (q s1 I1)
end
section
variable {X:Cx}{pins:List (Addr×Obj)}{σ:St}{H:Hp}{s:Shared}{A:Around}{E:Value→Shared→Prop}{Q:Value→Shared→Prop}{c:Value}{b:Bool}
inductive TyOf (K:PySem.W.Frag)(H:Hp):V→Value→Prop where
 | non:TyOf K H .non (.type "NoneType")
 | bl (x:Bool):TyOf K H (.bl x) (.type "bool")
 | int (i:Int):TyOf K H (.int i) (.type "int")
 | str (x:Str):TyOf K H (.str x) (.type "str")
 | flt (x:UInt64):TyOf K H (.flt x) (.type "float")
 | lst {a:Addr} {xs:List V} (e:H a=some (.lst xs)):TyOf K H (.ref a) (.type "list")
 | frz {a:Addr} {o:Obj} {xs:List V} (e:H a=some (.frz o (.lst xs))):TyOf K H (.ref a) (.type "list")
 | tup {a:Addr} {xs:List V} (e:H a=some (.tup xs)):TyOf K H (.ref a) (.type "tuple")
 | dK {a:Addr} {kvs:List (Key×V)} (e:H a=some (.dK kvs)):TyOf K H (.ref a) (.type "dict")
 | dT {a:Addr} {kvs:List (List Key×V)} (e:H a=some (.dT kvs)):TyOf K H (.ref a) (.type "dict")
 | ins {a C dx:Addr} {fs:List (Str×V)} (e:H a=some (.ins C dx fs)) (cl:Cls K C) (ha:PySem.W.findIn K (.ref C) "__class__"=some (some (.builtin "object.__class__")))
   (hn:PySem.W.specialIn K (.builtin "object.__class__") "__get__"=some (some (.builtin "getset_descriptor.__get__"))) (htk:PySem.W.takesIn K (.builtin "object.__class__")=some true)
   (hm:PySem.W.mroIn K C (.type "object")=some true):TyOf K H (.ref a) (.ref C)
end
end L2
namespace L2
open PySem PySem.Spec PyProof.Rows
structure Room (k:Nat)(A:Around):Prop where
 hd:A.handled=none
 dp:A.depth+3*k+5 < recursionLimit
 un:A.units+16*k+200 < cLine
theorem Room.mono {j k:Nat}{A:Around}(r:Room k A)(h:j≤k):Room j A:=⟨r.hd,by have:=r.dp;omega,by have:=r.un;omega⟩
theorem Room.deeper {k:Nat}{A:Around}(r:Room (k+1) A)(env:Env):Room k (A.deeper env) :=
 ⟨r.hd,by have:=r.dp;show A.depth+1+3*k+5 < _;omega,by have:=r.un;show A.units+3+16*k+200 < _;omega⟩
theorem Room.depth {k:Nat}{A:Around}(r:Room k A):A.depth < recursionLimit:=by have:=r.dp;omega
def tNil:TA:=fun _ H Q=>Q [] H
def tCons (ta:TE)(tr:TA):TA:=fun σ H Q=>ta σ H fun x H1=>tr σ H1 fun xs H2=>Q (x::xs) H2
section
variable {X:Cx}{e:Expr}{es:List Expr}{te:TE}{t:TA}{pos:Pos}
theorem ie:PA X [] tNil:=fun _ _ _ _ H Q I h=>Calls.spliced_nil ⟨[],H,I,.nil,h⟩
theorem cR (ha:PE X e te)(hr:PA X es t)(hs:starEach (e::es) X.env=(false,eval e X.env)::starEach es X.env:=by rfl):PA X (e::es) (tCons te t):=by
 intro pos pins s σ H Q I h
 rw[hs]
 show wpAny _ _ (spliced ((false,eval e X.env)::backTo pos (starEach es X.env))) _ _ s
 refine Calls.spliced_cons (thn (ha pins s σ H _ I h) fun u s1 ⟨x,H1,I1,r1,q1⟩=>?_)
 exact thn (hr pos pins s1 σ H1 _ I1 q1) fun us s2 ⟨xs,H2,I2,r2,q2⟩=>⟨x::xs,H2,I2,.cons r1 r2,q2⟩
def tTup (t:TA):TE:=fun σ H Q=>t σ H fun xs H1=>xs.length≤sizeLine∧∀ p,H1 p=none→Q (.ref p) (upd H1 p (.tup xs))
def tLst (t:TA):TE:=fun σ H Q=>t σ H fun xs H1=>xs.length≤sizeLine∧∀ p,H1 p=none→Q (.ref p) (upd H1 p (.lst xs))
theorem pN {x1}(h:PA X es t):PE X (.Tuple es x1 pos) (tTup t):=by
 intro pins s σ H Q I hq
 refine wpAny_Tuple_spliced (thn (h pos pins s σ H _ I hq) fun us s1 ⟨xs,H1,I1,r,z,q⟩=>⟨by rw[← r.length];exact z,?_⟩)
 have hf:H1 s1.heap.objs.size=none:=I1.hok.fresh (Nat.le_refl _)
 refine⟨.ref s1.heap.objs.size,upd H1 s1.heap.objs.size (.tup xs),I1.laid (t':=s1.toks) (fun b u e=>Heap.get?_push_of_some _ e) (Nat.le_refl _) ?_,rfl,q _ hf⟩
 exact⟨z,us,r,TupO.new _ _⟩
theorem pO (h:PA X es t):PE X (.List es pos) (tLst t):=by
 intro pins s σ H Q I hq
 refine wpAny_List_spliced (thn (h pos pins s σ H _ I hq) fun us s1 ⟨xs,H1,I1,r,z,q⟩=>⟨by rw[← r.length];exact z,?_⟩)
 have hf:H1 s1.heap.objs.size=none:=I1.hok.fresh (Nat.le_refl _)
 refine⟨.ref s1.heap.objs.size,upd H1 s1.heap.objs.size (.lst xs),I1.laid (t':=s1.toks) (fun b u e=>Heap.get?_push_of_some _ e) (Nat.le_refl _) ?_,rfl,q _ hf⟩
 exact⟨z,us,0,r,Heap.get?_push_size _ rfl⟩
end
abbrev Sp:=List V→Hp→VK→XK→Prop
abbrev CXT:=List Env→Hp→Shared→XK→Value→Shared→Prop
structure Env0 (P:Program)(w:World)(K:PySem.W.Frag)(mg:Str→Option Value)(base:Heap)(A:Around)(outer:List Env)(s:Shared)(H:Hp):Prop where
 frames:A.frames=some outer
 mod:Mod K mg base
 bs:∀ b o,base.get? b=some o→s.heap.get? b=some o∧H b=none
 bsz:base.objs.size≤s.heap.objs.size
 funs:s.heap.FunFrames base outer
 frf:∀ b∈frs outer,H b=none
 hok:HOk P w H s.heap
 bare:AllBare s.gens
def CE (outer:List Env)(P:Program)(w:World)(H:Hp)(s:Shared)(Q:VK)(u:Value)(s':Shared):Prop :=
 ∃ v H',s'.os=s.os∧AllBare s'.gens∧Un (frs outer) [] H H' s.heap s'.heap∧HOk P w H' s'.heap∧RelV v u∧Q v H'
def CR (CX:CXT)(outer:List Env)(P:Program)(w:World)(H:Hp)(s:Shared)(Q:VK)(E:XK)(r:Result)(s':Shared):Prop :=
 match r with
 | .ok (.ret u)=>CE outer P w H s Q u s'
 | .ok _=>False
 | .error e=>CX outer H s E e s'
structure FnOk (P:Program)(w:World)(K:PySem.W.Frag)(mg:Str→Option Value)(base:Heap)(CX:CXT)(k:Nat)(f:Addr)(fd:FuncData)(ps:List Str)(sp:Sp):Prop where
 len:∀ vs H Q E,sp vs H Q E→vs.length=ps.length
 run:∀ (A:Around) (outer:List Env) (s:Shared) (H:Hp) (args:Args) (us:List Value) (vs:List V) (Q:VK) (E:XK),Room k A→Env0 P w K mg base A outer s H→BindsTo s fd args (ps.zip us)→Vals vs us→sp vs H Q E →
  codeAny (model P w) A (.call (.ref f) args) (CR CX outer P w H s Q E) s
theorem FnOk.mono {P:Program}{w:World}{K:PySem.W.Frag}{mg:Str→Option Value}{base:Heap}{CX:CXT}{j k:Nat}{f:Addr}{fd:FuncData}{ps:List Str}{sp:Sp}(F:FnOk P w K mg base CX j f fd ps sp)(h:j≤k) :
  FnOk P w K mg base CX k f fd ps sp:=⟨F.len,fun A outer s H args us vs Q E hr=>F.run A outer s H args us vs Q E (hr.mono h)⟩
section
variable {X:Cx}{pins:List (Addr×Obj)}{σ:St}{H:Hp}{s s':Shared}
theorem Inv.env0 (I:Inv X pins σ H s):Env0 X.prog X.w X.K X.mg X.base X.A X.stack s H :=
 ⟨I.ok.frames,I.ok.mod,I.bs,Nat.le_trans I.ok.bsz I.sz,I.stack,I.stkFree,I.hok,I.bare⟩
theorem Inv.after {Q:VK}{u:Value}(I:Inv X pins σ H s)(h:CE X.stack X.prog X.w H s Q u s'):EP X pins σ Q u s':=by
 obtain⟨v,H',os,bare,un,hok,r,q⟩:=h
 obtain⟨hh,g,d,t,os'⟩:=s'
 obtain rfl:os'=s.os:=os
 exact⟨v,H',I.call (h':=hh) (g':=g) (d':=d) (t':=t) (ch:=[]) un hok bare (fun b z=>absurd z (by simp)),r,q⟩
end
def tCall (sp:Sp)(dvs:List V)(E:XK)(t:TA):TE:=fun σ H Q=>t σ H fun vs H1=>sp (vs++dvs) H1 Q E
def Binds (K:PySem.W.Frag)(fd:FuncData)(ps:List Str)(ds:List Value):Prop :=
 ∀ (s:Shared) (us:List Value),K.In s.heap→(us++ds).length=ps.length→BindsTo s fd ⟨us,[]⟩ (ps.zip (us++ds))
theorem Binds.all {K:PySem.W.Frag}{fd:FuncData}{ps:List Str}(h:∀ us:List Value,us.length=ps.length→bindArgs fd ⟨us,[]⟩=pure (ps.zip us)):Binds K fd ps []:=fun s us _ hl=>by
 rw[List.append_nil]at hl ⊢
 exact .of_eq (h us hl)
def Passes (CX:CXT)(X:Cx)(E:XK):Prop:=∀ (pins:List (Addr×Obj)) (σ:St) (H:Hp) (s:Shared) (e:Value) (s':Shared),Inv X pins σ H s→CX X.stack H s E e s'→X.xe e s'
section
variable {X:Cx}{CX:CXT}{k:Nat}{f C:Addr}{fd:FuncData}{ps:List Str}{sp:Sp}{dvs:List V}{ds:List Value}{E:XK}{x m:Str}{p pos apos:Pos}{e o:Expr}{es:List Expr}{ta:TE}{t:TA}
theorem pP {pins:List (Addr×Obj)}{σ:St}{H:Hp}{s:Shared}{Q:VK}{us:List Value}{vs:List V}(F:FnOk X.prog X.w X.K X.mg X.base CX k f fd ps sp)(hr:Room k X.A)(hb:Binds X.K fd ps ds)(hd:Vals dvs ds)(hx:Passes CX X E)
  (I:Inv X pins σ H s) (r:Vals vs us) (h:sp (vs++dvs) H Q E):wpAny (model X.prog X.w) X.A (call (.ref f) us) (EP X pins σ Q) X.xe s:=by
 have r2:Vals (vs++dvs) (us++ds):=r.append hd
 have hl:(us++ds).length=ps.length:=by rw[← r2.length];exact F.len _ _ _ _ h
 refine wpAny_call (codeAny_mono (F.run X.A X.stack s H ⟨us,[]⟩ (us++ds) (vs++dvs) Q E hr I.env0 (hb s us I.kIn hl) r2 h) fun r s' hq=>?_)
 cases r with
 | error e=>exact hx pins σ H s e s' I hq
 | ok fl =>
  cases fl with
  | ret u=>exact I.after hq
  | next=>exact False.elim hq
  | brk=>exact False.elim hq
  | cont=>exact False.elim hq
theorem sy (F:FnOk X.prog X.w X.K X.mg X.base CX k f fd ps sp)(hr:Room k X.A)(hg:Gl X x)(hm:X.mg x=some (.ref f))(hk:PySem.W.keepIn X.K (.ref f)=true)(hb:Binds X.K fd ps ds)(hd:Vals dvs ds)(hx:Passes CX X E)
  (ha:PA X (e::es) t) (hdb:(x==("__debug__":Str))=false:=by decide) (he:starEach (e::es) X.env=(false,eval e X.env)::starEach es X.env:=by rfl) (hpl:(backTo pos (starEach es X.env)).any (·.1)=false:=by rfl) :
  PE X (.Call (.Name x p) (e::es) [] pos) (tCall sp dvs E t):=by
 intro pins s σ H Q I h
 refine wpAny_Call_Name_kw (hI I hg hm ?_ hdb)
 refine PySem.W.callWith_K (h₀:=X.base) I.ok.mod.kin hk (thn (ha pos pins s σ H _ I h) fun us s1 ⟨vs,H1,I1,r,q⟩=>⟨I1.kIn,?_⟩) he hpl
 exact pP F hr hb hd hx I1 r q
end
section
variable {X:Cx}{CX:CXT}{k:Nat}{f C:Addr}{fd:FuncData}{ps ks:List Str}{sp:Sp}{E:XK}{x m:Str}{p pos apos kpos:Pos}{e o:Expr}{es:List Expr}{kws:List Keyword}{te ta:TE}{t tk:TA}{nm:Option Str}
variable {g:List Value→List Value→List Value}{gV:List V→List V→List V}
end
structure FnScope (N P:List Str)(sc:Scope):Prop where
 kind:sc.kind=.function
 co:sc.isCoroutine=false
 gen:sc.isGenerator=false
 nd:N.Nodup
 pre:N.take P.length=P
 par:∀ x∈P,sc.names.lookup x=some .local∨sc.names.lookup x=some .cell
 nofree:∀ y∈sc.names,y.2≠.free
theorem jI {kindOf:Str→Option NameKind}{x:Str}:∀ {binds:List (Str×Value)} {m:Str→Option Value},(∀ v,(x,v)∉binds)→bindL kindOf binds m x=m x
 | [],_,_=>rfl
 | (n,v)::r,m,h=>by
  unfold bindL
  rw[jI fun w hw=>h w (List.mem_cons_of_mem _ hw)]
  split
  ·have:x≠n:=by rintro rfl;exact h v List.mem_cons_self
   simp[this]
  ·rfl
theorem jJ {kindOf:Str→Option NameKind}{x:Str}:∀ {binds:List (Str×Value)} {m:Str→Option Value},(∀ v,(x,v)∉binds)→bindC kindOf binds m x=m x
 | [],_,_=>rfl
 | (n,v)::r,m,h=>by
  unfold bindC
  rw[jJ fun w hw=>h w (List.mem_cons_of_mem _ hw)]
  split
  ·rfl
  ·have:x≠n:=by rintro rfl;exact h v List.mem_cons_self
   simp[this]
theorem jK {kindOf:Str→Option NameKind}{x:Str}{v:Value}:∀ {P:List Str} {vs:List Value} {i:Nat} {m:Str→Option Value},P.Nodup→P[i]?=some x→vs[i]?=some v→kindOf x=some .local →
  bindL kindOf (P.zip vs) m x=some v
 | [],_,_,_,_,h,_,_=>by simp at h
 | _::_,[],_,_,_,_,h,_=>by simp at h
 | p::P,w::vs,0,m,nd,h1,h2,hk=>by
  simp at h1 h2;subst h1;subst h2
  show bindL kindOf ((p,w)::P.zip vs) m p=_
  unfold bindL
  rw[jI fun v hv=>(List.nodup_cons.mp nd).1 (List.of_mem_zip hv).1,if_pos hk]
  simp
 | p::P,w::vs,i+1,m,nd,h1,h2,hk=>by
  show bindL kindOf ((p,w)::P.zip vs) m x=_
  unfold bindL
  exact jK (i:=i) (List.nodup_cons.mp nd).2 (by simpa using h1) (by simpa using h2) hk
theorem jL {kindOf:Str→Option NameKind}{x:Str}{v:Value}:∀ {P:List Str} {vs:List Value} {i:Nat} {m:Str→Option Value},P.Nodup→P[i]?=some x→vs[i]?=some v→kindOf x≠some .local →
  bindC kindOf (P.zip vs) m x=some v
 | [],_,_,_,_,h,_,_=>by simp at h
 | _::_,[],_,_,_,_,h,_=>by simp at h
 | p::P,w::vs,0,m,nd,h1,h2,hk=>by
  simp at h1 h2;subst h1;subst h2
  show bindC kindOf ((p,w)::P.zip vs) m p=_
  unfold bindC
  rw[jJ fun v hv=>(List.nodup_cons.mp nd).1 (List.of_mem_zip hv).1,if_neg hk]
  simp
 | p::P,w::vs,i+1,m,nd,h1,h2,hk=>by
  show bindC kindOf ((p,w)::P.zip vs) m x=_
  unfold bindC
  exact jL (i:=i) (List.nodup_cons.mp nd).2 (by simpa using h1) (by simpa using h2) hk
def start (N:List Str)(vs:List V):St:=vs.map some++List.replicate (N.length - vs.length) none
def cxOf (CX:CXT)(P:Program)(w:World)(K:PySem.W.Frag)(mg:Str→Option Value)(base:Heap)(N:List Str)(qual:Str)(scope:Scope)(f:Addr)(cd:Value)(A:Around)(outer:List Env)(s:Shared)(H:Hp)(E:XK):Cx where
 prog:=P
 w:=w
 K:=K
 mg:=mg
 base:=base
 A:=A.deeper (envOfC qual scope s.heap.objs.size f cd)
 N:=N
 s₀:=s
 H₀:=H
 env:=envOfC qual scope s.heap.objs.size f cd
 outer:=outer
 stack:=envOfC qual scope s.heap.objs.size f cd::outer
 ex:=[]
 calm:=true
 fn:=fun _=>true
 pn:=[]
 xe:=fun e s'=>wpAny (model P w) (A.deeper (envOfC qual scope s.heap.objs.size f cd)) (leaving (envOfC qual scope s.heap.objs.size f cd) e) (fun _ s''=>CX outer H s E e s'') (fun e' s''=>CX outer H s E e' s'') s'
theorem kT {sc:Scope}{n:Nat}{x:Str}(h:sc.names.lookup x=some .cell):∃ c,(cellsFrom n sc.names []).lookup x=some c:=by
 have q:=PySem.W.cellsFrom_some sc.names n [] (.inl h)
 exact Option.isSome_iff_exists.mp q
theorem n4 {CX:CXT}{P:Program}{w:World}{K:PySem.W.Frag}{mg:Str→Option Value}{base:Heap}{N ps:List Str}{qual:Str}{scope:Scope}{f:Addr}{cd:Value}{A:Around}{outer:List Env}{s s1:Shared}{H:Hp}{E:XK}{us:List Value}{vs:List V}
  (S:FnScope N ps scope) (hd:A.handled=none) (e0:Env0 P w K mg base A outer s H) (hl:vs.length=ps.length) (r:Vals vs us)
  (x:InCallC s s.heap.objs.size (bindL (envOfC qual scope s.heap.objs.size f cd).kindOf (ps.zip us) fun _=>none) (cellsFrom (s.heap.objs.size+1) scope.names []) (bindC (envOfC qual scope s.heap.objs.size f cd).kindOf (ps.zip us) fun _=>none) s1) :
  Inv (cxOf CX P w K mg base N qual scope f cd A outer s H E) [] (start N vs) H s1:=by
 have hpl:ps.length≤N.length:=by have:=congrArg List.length S.pre;rw[List.length_take]at this;omega
 obtain⟨h1,tk,rfl,hk⟩:=x.done
 have noA:∀ b:Addr,b∉(cxOf CX P w K mg base N qual scope f cd A outer s H E).ex:=fun b z=>absurd (show b∈([]:List Addr) from z) (by simp)
 refine⟨⟨e0.mod,S.kind,rfl,rfl,Nat.le_refl _,fun y z c h1 h2=>?_,fun y hy=>?_,fun y c _ h=>?_,fun _=>hd,Around.frames_deeper e0.frames,.inr ⟨rfl,rfl⟩,fun b z=>absurd z (noA b),e0.bs,e0.bsz,fun b _ _=>noA b,fun b z=>absurd z (noA b),e0.funs,e0.frf⟩,
  rfl,e0.bare,Un.kept hk,⟨_,x.toInCall.ns,fun i y v h1 h2 h3=>?_⟩,fun y c h=>⟨_,x.cell y c h⟩,e0.hok.fresh (Nat.le_refl _),fun y c h=>?_,fun p hp=>absurd (show p∈([]:List (Addr×Obj)) from hp) (by simp),e0.hok.kept hk,?_⟩
 ·exact name_of_addr x.apart (PySem.mem_of_lookup h1) (PySem.mem_of_lookup h2)
 ·have hy:scope.names.lookup y=some .cell∨scope.names.lookup y=some .free:=hy
  rcases hy with hy | hy
  ·exact kT hy
  ·exact absurd rfl (S.nofree _ (PySem.mem_of_lookup hy))
 ·exact Nat.le_of_lt (x.above y c (PySem.mem_of_lookup h))
 ·have hi:i < vs.length:=by
   unfold start at h2
   by_cases hi:i < vs.length
   ·exact hi
   ·rw[List.getElem?_append_right (by simpa using hi)]at h2
    rw[List.getElem?_replicate]at h2
    split at h2<;>cases h2
  have ha:vs[i]?=some v:=by
   unfold start at h2
   rw[List.getElem?_append_left (by simpa using hi),List.getElem?_map]at h2
   cases e:vs[i]? with
   | none=>rw[e]at h2;cases h2
   | some a=>rw[e]at h2;cases h2;rfl
  obtain⟨u,hu,rv⟩:=r.get ha
  have hp:ps[i]?=some y:=by
   rw[← S.pre,List.getElem?_take_of_lt (by omega)];exact h1
  have ndP:ps.Nodup:=by rw[← S.pre];exact S.nd.sublist (List.take_sublist _ _)
  refine⟨u,rv,?_⟩
  rcases S.par y (List.mem_of_getElem? hp) with k | k
  ·exact .inl ⟨k,jK ndP hp hu k⟩
  ·obtain⟨c,e⟩:=kT (n:=s.heap.objs.size+1) k
   refine .inr ⟨.inl k,c,e,?_⟩
   have q:=x.cell y c e
   rw[jL ndP hp hu (by show scope.names.lookup y≠_;rw[k];decide)]at q
   exact q
 ·exact e0.hok.fresh (Nat.le_of_lt (x.above y c (PySem.mem_of_lookup h)))
 ·unfold start
  show _=N.length
  rw[List.length_append,List.length_map,List.length_replicate]
  omega
theorem pQ {CX:CXT}{P:Program}{w:World}{K:PySem.W.Frag}{mg:Str→Option Value}{base:Heap}{k:Nat}{f:Addr}{name qual:Str}{params:Arguments}{body:List Stmt}{scope:Scope}{dV kV doc pm cdv ct oc:Value}{an od:Option Addr}
  {osl:Array (Option Value)} {N ps:List Str} {sp:Sp} (lk:K.lookup f=some ⟨oc,od,.func (PySem.W.fnOf name qual params body scope dV kV doc pm an cdv ct),osl⟩) (hcd:PySem.W.codeIn K cdv qual=true) (S:FnScope N ps scope)
  (len:∀ vs H Q E,sp vs H Q E→vs.length=ps.length)
  (hbody:∀ (A:Around) (outer:List Env) (s:Shared) (H:Hp) (vs:List V) (Q:VK) (E:XK),Room k (A.deeper (envOfC qual scope s.heap.objs.size f cdv))→sp vs H Q E →
   ∃ t,PSs (cxOf CX P w K mg base N qual scope f cdv A outer s H E) body t∧t { nx:=fun _ H'=>Q .non H',rt:=Q } (start N vs) H) :
  FnOk P w K mg base CX (k+1) f (PySem.W.fnOf name qual params body scope dV kV doc pm an cdv ct) ps sp:=by
 refine⟨len,fun A outer s H args us vs Q E hr e0 hb r hsp=>?_⟩
 have hl:=len _ _ _ _ hsp
 have KX:K.In s.heap:=e0.mod.kin.keeps fun b o e=>(e0.bs b o e).1
 have lim:s.heap.NoLimit:=e0.mod.nolimit.keeps fun b o e=>(e0.bs b o e).1
 have hkind:∀ y∈ps.zip us,scope.names.lookup y.1=some .local∨(scope.names.lookup y.1=some .cell∧((cellsFrom (s.heap.objs.size+1) scope.names []).lookup y.1).isSome=true):=fun ⟨n,v⟩ hy=>by
  rcases S.par n (List.of_mem_zip hy).1 with q | q
  ·exact .inl q
  ·exact .inr ⟨q,PySem.W.cellsFrom_some _ _ _ (.inl q)⟩
 refine codeAny_call_function hr.depth (KX _ _ lk) rfl S.co S.gen rfl (PySem.W.codeRec_of KX hcd) (hb _ _ _ _ ?_)
 refine wpAny_newFunctionEnv_cells S.kind hkind fun env he s1 x=>?_
 subst he
 refine⟨lim.keeps x.toInCall.keep,codeAny_func ?_⟩
 obtain⟨t,ht,hq⟩:=hbody A outer s H vs Q E (hr.deeper _) hsp
 have I:Inv (cxOf CX P w K mg base N qual scope f cdv A outer s H E) [] (start N vs) H s1:=n4 S hr.hd e0 hl r x
 refine wpAny_mono (ht [] s1 (start N vs) H _ I hq) (fun fl s' hs=>?_) fun e s' hs=>hs
 have fin:∀ {σ':St} {H':Hp} {v:V} {u:Value},Inv (cxOf CX P w K mg base N qual scope f cdv A outer s H E) [] σ' H' s'→RelV v u→Q v H'→CE outer P w H s Q u s' :=
  fun {σ' H' v u} J rv q=>⟨v,H',J.os,J.bare,J.base,J.hok,rv,q⟩
 cases fl with
 | ret u =>
  obtain⟨v,σ',H',J,rv,q⟩:=hs
  exact fin J rv q
 | next =>
  obtain⟨σ',H',J,q⟩:=hs
  exact fin (v:=V.non) (u:=Value.none) J rfl q
 | brk =>
  obtain⟨_,_,_,q⟩:=hs
  exact False.elim q
 | cont =>
  obtain⟨_,_,_,q⟩:=hs
  exact False.elim q
end L2
namespace L2
open PySem PySem.Spec PyProof.Rows
section
variable {X:Cx}{x:Str}{p pos:Pos}{e:Expr}{es:List Expr}{t:TA}{id T:String}{r:List V→Hp→VK→Prop}
def tCB (r:List V→Hp→VK→Prop)(t:TA):TE:=fun σ H Q=>t σ H fun vs H1=>r vs H1 Q
theorem fk (hc:CallR X (.builtin id) r)(hg:Gl X x)(hm:X.mg x=none)(hv:bootBuiltins x=some (.builtin id))(ha:PA X (e::es) t)(hn:x ≠ "__name__" := by decide)(hdb:(x==("__debug__":Str))=false:=by decide)
  (he:starEach (e::es) X.env=(false,eval e X.env)::starEach es X.env:=by rfl) (hpl:(backTo pos (starEach es X.env)).any (·.1)=false:=by rfl):PE X (.Call (.Name x p) (e::es) [] pos) (tCB r t):=by
 intro pins s σ H Q I h
 refine wpAny_Call_Name_kw (ic I hg hm hv ?_ hn hdb)
 exact PyProof.Rows.callWith_builtin1 (thn (ha pos pins s σ H _ I h) fun us s1 ⟨vs,H1,I1,r1,q1⟩=>hc pins s1 σ H1 vs us Q I1 r1 q1) he hpl
theorem fW (hc:CallR X (.type T) r)(hg:Gl X x)(hm:X.mg x=none)(hv:bootBuiltins x=some (.type T))(ha:PA X (e::es) t)(hn:x ≠ "__name__" := by decide)(hdb:(x==("__debug__":Str))=false:=by decide)
  (he:starEach (e::es) X.env=(false,eval e X.env)::starEach es X.env:=by rfl) (hpl:(backTo pos (starEach es X.env)).any (·.1)=false:=by rfl):PE X (.Call (.Name x p) (e::es) [] pos) (tCB r t):=by
 intro pins s σ H Q I h
 refine wpAny_Call_Name_kw (ic I hg hm hv ?_ hn hdb)
 exact PyProof.Rows.callWith_type1 (thn (ha pos pins s σ H _ I h) fun us s1 ⟨vs,H1,I1,r1,q1⟩=>hc pins s1 σ H1 vs us Q I1 r1 q1) he hpl
end
end L2
namespace HT
open PySem PyProof.Rows
section
open PySem.SeqAt
open PySem.AutoSeq1 (wpAny_loadPart')
open PySem.MeetsSeq PySem.MeetsSeq2 PySem.MeetsSeq3
end
section
variable {prog:Program}{w:World}{A:Around}{E:Value→Shared→Prop}{s:Shared}
theorem sA {t b:Addr}{vs ws:List Value}{Q:Value→Shared→Prop}(ht:IsTup s.heap t vs.toArray)(hb:IsTup s.heap b ws.toArray)(hv:vs≠[])
  (h1:ws=[]→Q (.ref t) s) (h2:ws≠[]→Q (.ref s.heap.objs.size) { s with heap:=s.heap.push { cls:=.type "tuple",data:=.seq (vs++ws).toArray } })
  (hsz:vs.length+ws.length≤sizeLine):wpAny (model prog w) A (binaryOp .Add (.ref t) (.ref b)) Q E s:=by
 obtain⟨⟨cls,dd,data,sl⟩,ho,hc,n,hd⟩:=id ht
 obtain⟨⟨cls2,dd2,data2,sl2⟩,ho2,hc2,n2,hd2⟩:=id hb
 simp only at hc hd hc2 hd2
 subst hc hd hc2 hd2
 have e:vs.toArray++ws.toArray=(vs++ws).toArray:=by simp
 by_cases hw:ws=[]
 ·exact concat_meets ⟨_,ho,rfl⟩ ⟨_,ho2,rfl⟩ noFill_tuple_add seq_tuple_add PySem.F.slot_tuple_add PySem.F.entry_tuple_add (PySem.F.args_tuple_add_2 _ _)
   (tuple_addW1 t b vs.toArray ws.toArray n n2 dd dd2 sl sl2 (by simpa using hv) (by simp[hw])) ⟨ho,ho2,h1 hw⟩
 ·refine concat_meets ⟨_,ho,rfl⟩ ⟨_,ho2,rfl⟩ noFill_tuple_add seq_tuple_add PySem.F.slot_tuple_add PySem.F.entry_tuple_add (PySem.F.args_tuple_add_2 _ _)
   (tuple_addW2 t b vs.toArray ws.toArray n n2 dd dd2 sl sl2 (by simpa using hv) (by simpa using hw) (by rw[List.size_toArray,List.size_toArray];exact hsz)) ⟨ho,ho2,?_⟩
  rw[e]
  exact h2 hw
def sIx (n d:Nat):Option Int→Nat
 | none=>d
 | some v=>if v < 0 then (v+(n:Int)).toNat else min v.toNat n
theorem kU (n d:Nat):sIx n d none=d:=rfl
theorem uN (n d:Nat)(hd:d≤n)(o:Option Int):sIx n d o≤n:=by
 cases o with
 | none=>exact hd
 | some v =>
  show (if v < 0 then (v+(n:Int)).toNat else min v.toNat n)≤n
  by_cases hv:v < 0
  ·rw[if_pos hv];omega
  ·rw[if_neg hv];exact Nat.min_le_right _ _
theorem nh (v:Int)(n d:Nat):(if v < 0 then max (v+(n:Int)) 0 else min v (n:Int))=((sIx n d (some v):Nat):Int):=by
 show (if v < 0 then max (v+(n:Int)) 0 else min v (n:Int))=(((if v < 0 then (v+(n:Int)).toNat else min v.toNat n):Nat):Int)
 by_cases hv:v < 0
 ·simp only[if_pos hv];omega
 ·simp only[if_neg hv];omega
theorem mi (lo hi:Option Int)(n:Nat):Builtin.Slice.sliceAdjust lo hi 1 (n:Int)=(((sIx n 0 lo:Nat):Int),((sIx n n hi:Nat):Int)):=by
 have h1:¬ ((1:Int) < 0):=by omega
 unfold Builtin.Slice.sliceAdjust
 simp only[h1,if_false]
 refine Prod.ext ?_ ?_
 ·cases lo with
  | none=>rfl
  | some v=>exact nh v n 0
 ·cases hi with
  | none=>rfl
  | some v=>exact nh v n n
theorem mj (i j:Nat):Builtin.Slice.slicePlaces (i:Int) (j:Int) 1=j - i:=by
 unfold Builtin.Slice.slicePlaces
 have h1:(1:Int) > 0:=by omega
 simp only[h1,if_true,Int.ediv_one]
 split<;>omega
theorem ig {v:Value}{o:Option Int}{Q:Option Int→Shared→Prop}(p:IsPart v o)(h:Q o s):wpAny (model prog w) A (Builtin.Slice.slicePartIndex v) Q E s:=by
 cases p with
 | none=>exact slicePart_none h
 | int i t=>exact slicePart_int h
theorem dh {sl:Addr}{vl vu:Value}{lo hi:Option Int}{n:Nat}{Q:Int×Int×Nat→Shared→Prop}(hs:s.heap.IsSliceOf sl vl vu .none)(pl:IsPart vl lo)(pu:IsPart vu hi)
  (h:Q (((sIx n 0 lo:Nat):Int),1,sIx n n hi - sIx n 0 lo) s):wpAny (model prog w) A (Builtin.Slice.sliceApplied (.ref sl) (pure (n:Int))) Q E s:=by
 obtain⟨os,hos,hcs,hds⟩:=id hs
 unfold Builtin.Slice.sliceApplied Builtin.Slice.sliceFields
 refine wpAny_bind (wpAny_bind (wpAny_field hos hds (x:=vl) rfl (wpAny_bind (wpAny_field hos hds (x:=vu) rfl (wpAny_bind (wpAny_field hos hds (x:=.none) rfl (wpAny_pure ?_)))))))
 refine wpAny_bind (slicePart_none ?_)
 show wpAny _ _ (if ((1:Int)==0)=true then _ else _) _ _ s
 rw[if_neg (by decide)]
 refine wpAny_bind (ig pl (wpAny_bind (ig pu (wpAny_bind (wpAny_pure ?_)))))
 show wpAny _ _ (match Builtin.Slice.sliceAdjust lo hi 1 (n:Int) with | (lo,hi)=>pure (lo,(1:Int),Builtin.Slice.slicePlaces lo hi 1)) _ _ s
 rw[mi lo hi n]
 show wpAny _ _ (pure (((sIx n 0 lo:Nat):Int),(1:Int),Builtin.Slice.slicePlaces ((sIx n 0 lo:Nat):Int) ((sIx n n hi:Nat):Int) 1)) _ _ s
 rw[mj]
 exact wpAny_pure h
theorem pR (xs:Array Value)(i k:Nat):((List.range k).filterMap fun (m:Nat)=>xs[((i:Int)+(m:Int)*1).toNat]?).toArray=((xs.toList.drop i).take k).toArray:=by
 have e:(fun (m:Nat)=>xs[((i:Int)+(m:Int)*1).toNat]?)=fun m=>xs[i+m]?:=by
  funext m
  have:((i:Int)+(m:Int)*1).toNat=i+m:=by omega
  rw[this]
 rw[e]
 have:=pick_run xs i k
 rw[List.filterMap_map]at this
 have e2:((fun x=>xs[x]?)∘fun x=>i+x)=fun m=>xs[i+m]?:=rfl
 rw[e2]at this
 rw[this]
theorem fm {t sl:Addr}{items:Array Value}{vl vu:Value}{lo hi:Option Int}{Q:Value→Shared→Prop}(ht:IsTup s.heap t items)(hs:s.heap.IsSliceOf sl vl vu .none)(pl:IsPart vl lo)(pu:IsPart vu hi)
  (hw:¬ (sIx items.size 0 lo=0∧sIx items.size items.size hi=items.size))
  (h:Q (.ref s.heap.objs.size) { s with heap:=s.heap.push { cls:=.type "tuple",data:=.seq ((items.toList.drop (sIx items.size 0 lo)).take (sIx items.size items.size hi - sIx items.size 0 lo)).toArray } })
  (hsz:items.size≤sizeLine):wpAny (model prog w) A (getItem (.ref t) (.ref sl)) Q E s:=by
 have htake:sizeOk (.seq ((items.toList.drop (sIx items.size 0 lo)).take (sIx items.size items.size hi - sIx items.size 0 lo)).toArray):=by
  show ((items.toList.drop (sIx items.size 0 lo)).take (sIx items.size items.size hi - sIx items.size 0 lo)).toArray.size≤sizeLine
  rw[List.size_toArray,List.length_take,List.length_drop,Array.length_toList]
  omega
 have hj:sIx items.size items.size hi≤items.size:=uN _ _ (Nat.le_refl _) hi
 obtain⟨os,hos,hcs,hds⟩:=id hs
 have hTs:s.TypeIs (.ref sl) "slice" := ⟨os,hos,hcs⟩
 unfold getItem
 try with_reducible refine wpAny_holding ?_
 first | refine wpAny_bind (wpAny_pure ?_) | skip
 refine wpAny_bind (wpAny_sequenceKey ht.typeIs (by decide) ?_)
 refine wpAny_bind (wpAny_callSpecial?_slot (name:=Str.ofString "__getitem__") ht.typeIs PyProof.Rows.slot_tuple_getitem
  (wpAny_call_entry PyProof.Rows.slot_tuple_getitem ht.typeIs entry_tuple_getitem ?_ (args_tuple_getitem _ _)))
 show wpAny _ _ (Builtin.Tuple.tupleItemsOf (.ref t) >>= _) _ _ s
 refine wpAny_bind (tupleItemsOf_ ht ?_)
 refine wpAny_bind (wpAny_typeOf hTs ?_)
 rw[if_pos (by decide)]
 refine wpAny_bind (dh hs pl pu ?_)
 have hno:¬ ((((sIx items.size 0 lo:Nat):Int)==0&&(1:Int)==1&&(sIx items.size items.size hi - sIx items.size 0 lo)==items.size)=true):=by
  intro q
  rw[Bool.and_eq_true,Bool.and_eq_true]at q
  have q1:((sIx items.size 0 lo:Nat):Int)=0:=eq_of_beq q.1.1
  have q2:sIx items.size items.size hi - sIx items.size 0 lo=items.size:=eq_of_beq q.2
  exact hw ⟨by omega,by omega⟩
 show wpAny _ _ (if (((sIx items.size 0 lo:Nat):Int)==0&&(1:Int)==1&&(sIx items.size items.size hi - sIx items.size 0 lo)==items.size)=true then _ else _) _ _ s
 rw[if_neg hno,pR]
 first
  | exact wpAny_bind (m:=Builtin.Tuple.tupleExact _) (wpAny_newObj_type (wpAny_pure ⟨_,rfl,wpAny_pure h⟩) htake)
  | exact wpAny_bind (m:=Builtin.Tuple.tupleExact _) (wpAny_newObj_type (wpAny_bind (wpAny_pure (wpAny_pure ⟨_,rfl,wpAny_pure h⟩))) htake)
  | exact wpAny_bind (wpAny_bind (m:=Builtin.Tuple.tupleExact _) (wpAny_newObj_type (wpAny_pure (wpAny_pure ⟨_,rfl,wpAny_pure h⟩)) htake))
  | exact wpAny_bind (wpAny_bind (m:=Builtin.Tuple.tupleExact _) (wpAny_newObj_type (wpAny_pure ⟨_,rfl,wpAny_pure h⟩) htake))
end
end HT
namespace L2
open PySem PySem.Spec PyProof.Rows
abbrev TO:=St→Hp→(Option Int→Hp→Prop)→Prop
def PO (X:Cx)(e:Option Expr)(t:TO):Prop :=
 ∀ (pins:List (Addr×Obj)) (s:Shared) (σ:St) (H:Hp) (Q:Option Int→Hp→Prop),Inv X pins σ H s→t σ H Q →
  wpAny (model X.prog X.w) X.A (evalPart e X.env) (fun u s'=>∃ o H',Inv X pins σ H' s'∧IsPart u o∧Q o H') X.xe s
def tNoPart:TO:=fun _ H Q=>Q none H
def tPart (t:TE):TO:=fun σ H Q=>t σ H fun x H1=>∃ i,x=.int i∧Q (some i) H1
section
variable {X:Cx}{e:Expr}{te:TE}{lo hi:Option Expr}{tl th:TO}{pos p2:Pos}
theorem sB:PO X none tNoPart:=by
 intro pins s σ H Q I h
 rw[evalPart_none]
 exact wpAny_pure ⟨none,H,I,.none,h⟩
theorem sC (h:PE X e te):PO X (some e) (tPart te):=by
 intro pins s σ H Q I hw
 rw[evalPart_some]
 refine thn (h pins s σ H _ I hw) fun u s1 ⟨x,H1,I1,r1,q1⟩=>?_
 obtain⟨i,rfl,q⟩:=q1
 obtain⟨t,rfl⟩:=r1
 exact⟨some i,H1,I1,.int i t,q⟩
def SlR (X:Cx)(r:V→Option Int→Option Int→Hp→VK→Prop):Prop :=
 ∀ (pins:List (Addr×Obj)) (s:Shared) (σ:St) (H:Hp) (x:V) (v vl vu:Value) (lo hi:Option Int) (sl:Addr) (Q:VK),Inv X pins σ H s→RelV x v→s.heap.IsSliceOf sl vl vu .none→IsPart vl lo→IsPart vu hi→r x lo hi H Q →
  ∃ T id,typeLookup (.type T) "__getitem__"=pure (some (.builtin id))∧s.TypeIs v T∧wpAny (model X.prog X.w) X.A (getItem v (.ref sl)) (EP X pins σ Q) X.xe s
theorem SlR.or {r r':V→Option Int→Option Int→Hp→VK→Prop}(h:SlR X r)(h':SlR X r'):SlR X (fun x lo hi H Q=>r x lo hi H Q∨r' x lo hi H Q):=by
 intro pins s σ H x v vl vu lo hi sl Q I rx hs pl pu q
 rcases q with q | q
 ·exact h pins s σ H x v vl vu lo hi sl Q I rx hs pl pu q
 ·exact h' pins s σ H x v vl vu lo hi sl Q I rx hs pl pu q
def tSl (r:V→Option Int→Option Int→Hp→VK→Prop)(te:TE)(tl th:TO):TE:=fun σ H Q=>te σ H fun x H1=>tl σ H1 fun l H2=>th σ H2 fun u H3=>r x l u H3 Q
theorem pS {r:V→Option Int→Option Int→Hp→VK→Prop}(hr:SlR X r)(he:PE X e te)(hl:PO X lo tl)(hu:PO X hi th):PE X (.Subscript e (.Slice lo hi none p2) pos) (tSl r te tl th):=by
 intro pins s σ H Q I h
 refine Subscript_ (thn (he pins s σ H _ I h) fun v s1 ⟨x,H1,I1,r1,q1⟩=>?_)
 refine wpAny_Slice (thn (hl pins s1 σ H1 _ I1 q1) fun vl s2 ⟨l,H2,I2,pl,q2⟩=>thn (hu pins s2 σ H2 _ I2 q2) fun vu s3 ⟨u,H3,I3,pu,q3⟩=>?_)
 rw[evalPart_none]
 refine wpAny_pure ?_
 have I4:Inv X pins σ H3 { s3 with heap:=s3.heap.push { cls:=.type "slice",data:=.fields #[vl,vu,.none] } }:=I3.kept (t':=s3.toks) fun b ob q=>Heap.get?_push_of_some _ q
 obtain⟨T,id,hT,ht,hg⟩:=hr pins { s3 with heap:=s3.heap.push { cls:=.type "slice",data:=.fields #[vl,vu,.none] } } σ H3 x v vl vu l u s3.heap.objs.size Q I4 r1 (Heap.IsSliceOf.new ..) pl pu q3
 show wpAny (model X.prog X.w) X.A (subscriptTail e (.Slice lo hi none p2) v (.ref s3.heap.objs.size)) (EP X pins σ Q) X.xe { s3 with heap:=s3.heap.push { cls:=.type "slice",data:=.fields #[vl,vu,.none] } }
 exact tail_any (ops:=[.ref s3.heap.objs.size,v]) ht hT hg (by with_unfolding_all rfl)
def cutV (xs:List V)(lo hi:Option Int):List V:=(xs.drop (HT.sIx xs.length 0 lo)).take (HT.sIx xs.length xs.length hi - HT.sIx xs.length 0 lo)
theorem gP (xs:List V)(lo hi:Option Int):(cutV xs lo hi).length≤xs.length:=by
 unfold cutV
 rw[List.length_take,List.length_drop]
 omega
def rSlT (K:PySem.W.Frag):V→Option Int→Option Int→Hp→VK→Prop:=fun x lo hi H Q=>∃ a xs,x=.ref a∧SqT K H a xs ∧
 ¬ (HT.sIx xs.length 0 lo=0∧HT.sIx xs.length xs.length hi=xs.length)∧∀ p,H p=none→Q (.ref p) (upd H p (.tup (cutV xs lo hi)))
theorem uO:SlR X (rSlT X.K):=by
 intro pins s σ H x v vl vu lo hi sl Q I rx hs pl pu h
 obtain⟨a,xs,rfl,hx,hw,q⟩:=h
 cases rx
 obtain⟨its,r,ht,hz⟩:=I.tuple hx
 have hlen:its.toArray.size=xs.length:=by rw[List.size_toArray];exact r.length.symm
 refine⟨"tuple",_,PyProof.Rows.slot_tuple_getitem.lookup,ht.typeIs,?_⟩
 refine HT.fm ht hs pl pu (by rw[hlen];exact hw) ?_ (by rw[hlen];exact hz)
 rw[hlen]
 refine⟨.ref s.heap.objs.size,_,I.laid (t':=s.toks) (o:=.tup (cutV xs lo hi)) (fun b ob q=>Heap.get?_push_of_some _ q) (Nat.le_refl _) ?_,rfl,q _ (I.hok.fresh (Nat.le_refl _))⟩
 exact⟨Nat.le_trans (gP xs lo hi) hz,_,(r.drop (HT.sIx xs.length 0 lo)).take (HT.sIx xs.length xs.length hi - HT.sIx xs.length 0 lo),TupO.new _ _⟩
def rCatT (K:PySem.W.Frag):R2:=fun x y H Q=>∃ a b xs ys,x=.ref a∧y=.ref b∧SqT K H a xs∧SqT K H b ys∧xs≠[]∧xs.length+ys.length≤sizeLine ∧
 (ys=[]→Q (.ref a) H)∧(ys≠[]→∀ p,H p=none→Q (.ref p) (upd H p (.tup (xs++ys))))
theorem Vals.nil_iff {xs:List V}{us:List Value}(r:Vals xs us):us=[]↔xs=[]:=by
 cases r with
 | nil=>simp
 | cons _ _=>simp
theorem sD:OpR X (binaryOp .Add) (rCatT X.K):=by
 intro pins s σ H x y v u Q I rx ry h
 obtain⟨a,b,xs,ys,rfl,rfl,ha,hb,hx,hz,q1,q2⟩:=h
 cases rx
 cases ry
 obtain⟨its,r1,p1,_⟩:=I.tuple ha
 obtain⟨its2,r2,p2,_⟩:=I.tuple hb
 refine HT.sA p1 p2 (fun z=>hx (r1.nil_iff.mp z)) (fun z=>⟨.ref a,H,I,rfl,q1 (r2.nil_iff.mp z)⟩) (fun z=>?_) (by rw[← r1.length,← r2.length];exact hz)
 refine⟨.ref s.heap.objs.size,_,I.laid (t':=s.toks) (o:=.tup (xs++ys)) (fun b ob q=>Heap.get?_push_of_some _ q) (Nat.le_refl _) ?_,rfl,q2 (fun w=>z (r2.nil_iff.mpr w)) _ (I.hok.fresh (Nat.le_refl _))⟩
 exact⟨by rw[List.length_append];exact hz,_,r1.append r2,TupO.new _ _⟩
end
end L2
namespace L2
open PySem PySem.Spec PyProof.Rows
def ixN (n:Nat)(i:Int):Option Nat:=if 0≤i then (if i < n then some i.toNat else none) else if -(n:Int)≤i then some (i+n).toNat else none
def atI {α:Type}(xs:List α)(i:Int):Option α:=(ixN xs.length i).bind fun j=>xs[j]?
theorem ni {n:Nat}{i:Int}{j:Nat}(h:ixN n i=some j):seqIndex? i n=some j∧j < n∧-(n:Int)≤i∧i < n:=by
 unfold ixN at h
 by_cases h0:0≤i
 ·rw[if_pos h0]at h
  by_cases h1:i < n
  ·rw[if_pos h1]at h
   have e:i.toNat=j:=Option.some.inj h
   exact⟨by rw[seqIndex_of h0 h1,e],by omega,by omega,h1⟩
  ·rw[if_neg h1]at h;cases h
 ·rw[if_neg h0]at h
  by_cases h1 : -(n:Int)≤i
  ·rw[if_pos h1]at h
   have e:(i+n).toNat=j:=Option.some.inj h
   exact⟨by rw[seqIndex_neg (by omega) h1,e],by omega,h1,by omega⟩
  ·rw[if_neg h1]at h;cases h
theorem kj {α:Type}{xs:List α}{i:Int}{v:α}(h:atI xs i=some v):∃ j,seqIndex? i xs.length=some j∧xs[j]?=some v∧j < xs.length∧-(xs.length:Int)≤i∧i < xs.length:=by
 unfold atI at h
 cases e:ixN xs.length i with
 | none=>rw[e]at h;cases h
 | some j =>
  rw[e]at h
  obtain⟨h1,h2,h3,h4⟩:=ni e
  exact⟨j,h1,h,h2,h3,h4⟩
theorem kl {α:Type}{xs:List α}{j:Nat}{v:α}(h:xs[j]?=some v):atI xs (j:Int)=some v:=by
 have hj:j < xs.length:=(List.getElem?_eq_some_iff.mp h).1
 have e:ixN xs.length (j:Int)=some j:=by
  unfold ixN
  rw[if_pos (by omega),if_pos (by omega)];simp
 unfold atI;rw[e];exact h
def PlainIx (b:Expr):Prop:=∀ o i,subscripted b false o i=operate [o,i] (getItem o i)
def IxR (X:Cx)(r:R2):Prop :=
 ∀ (value slice:Expr) (pins:List (Addr×Obj)) (s:Shared) (σ:St) (H:Hp) (x y:V) (v u:Value) (Q:VK),Inv X pins σ H s→RelV x v→RelV y u→r x y H Q →
  subscripted slice false v u=operate [v,u] (getItem v u)→wpAny (model X.prog X.w) X.A (subscriptTail value slice v u) (EP X pins σ Q) X.xe s
def MtR (X:Cx)(id:String)(r:V→List V→Hp→VK→Prop):Prop :=
 ∀ (pins:List (Addr×Obj)) (s:Shared) (σ:St) (H:Hp) (x:V) (xs:List V) (v:Value) (us:List Value) (Q:VK),Inv X pins σ H s→RelV x v→Vals xs us→r x xs H Q →
  wpAny (model X.prog X.w) X.A (call (.builtin id) (v::us)) (EP X pins σ Q) X.xe s
section
variable {X:Cx}{a b:Expr}{ta tb:TE}{pos:Pos}
theorem IxR.or {r r':R2}(h:IxR X r)(h':IxR X r'):IxR X (fun x y H Q=>r x y H Q∨r' x y H Q):=by
 intro value slice pins s σ H x y v u Q I rx ry q hs
 rcases q with q | q
 ·exact h value slice pins s σ H x y v u Q I rx ry q hs
 ·exact h' value slice pins s σ H x y v u Q I rx ry q hs
theorem uk {r:R2}(hr:IxR X r)(ha:PE X a ta)(hb:PE X b tb)(hs:PlainIx b):PE X (.Subscript a b pos) (tOp r ta tb):=by
 intro pins s σ H Q I h
 exact Subscript_ (binT ha hb I h fun v u s2 x y H2 I2 rx ry q=>hr a b pins s2 σ H2 x y v u Q I2 rx ry q (hs _ _))
def rIxL (K:PySem.W.Frag):R2:=fun x y H Q=>∃ p xs i v,x=.ref p∧y=.int i∧SqL K H p xs∧atI xs i=some v∧Q v H
def rIxT (K:PySem.W.Frag):R2:=fun x y H Q=>∃ p xs i v,x=.ref p∧y=.int i∧SqT K H p xs∧atI xs i=some v∧Q v H
def rIxS:R2:=fun x y H Q=>∃ z i c,x=.str z∧y=.int i∧z.length≤sizeLine∧atI z.cps.toList i=some c∧Q (.str ⟨#[c]⟩) H
theorem nj:IxR X (rIxL X.K):=by
 intro value slice pins s σ H x y v u Q I rx ry h hs
 obtain⟨p,xs,i,z,rfl,rfl,hq,he,q⟩:=h
 cases rx
 obtain⟨t,rfl⟩:=ry
 obtain⟨its,r,pl,hz⟩:=I.list hq
 obtain⟨j,h1,h2,h3,h4,h5⟩:=kj he
 obtain⟨w,ew,rw'⟩:=r.get h2
 have hl:=r.length
 have hn:=line63
 have fin:EP X pins σ Q w s:=⟨z,H,I,rw',q⟩
 by_cases h0:0≤i
 ·have hj:i.toNat=j:=by
   rw[seqIndex_of h0 h5]at h1
   exact Option.some.inj h1
  exact item_listR pl.isList h0 (by omega) (by rw[hj];simpa using ew) fin hs
 ·have hj:(i+(its.toArray.size:Int)).toNat=j:=by
   rw[seqIndex_neg (by omega) h4]at h1
   rw[List.size_toArray,← hl]
   exact Option.some.inj h1
  exact subscriptTail_builtinR (x:=w) pl.isList.typeIs slot_list_getitem.lookup
   (wpAny_getItem_list_neg (Q:=fun r s'=>r=w∧EP X pins σ Q r s') pl.isList (by omega) (by rw[List.size_toArray]<;>omega) (by omega) (by rw[hj];simpa using ew) ⟨rfl,fin⟩) hs
theorem uP:IxR X (rIxT X.K):=by
 intro value slice pins s σ H x y v u Q I rx ry h hs
 obtain⟨p,xs,i,z,rfl,rfl,hq,he,q⟩:=h
 cases rx
 obtain⟨t,rfl⟩:=ry
 obtain⟨its,r,pl,hz⟩:=I.tuple hq
 obtain⟨j,h1,h2,h3,h4,h5⟩:=kj he
 obtain⟨w,ew,rw'⟩:=r.get h2
 have hl:=r.length
 have hn:=line63
 have fin:EP X pins σ Q w s:=⟨z,H,I,rw',q⟩
 exact subscriptTail_builtinR (x:=w) pl.typeIs slot_tuple_getitem.lookup
  (getItem_tuple (j:=j) (Q:=fun r s'=>r=w∧EP X pins σ Q r s') pl (by omega) (by omega) (by rw[List.size_toArray,← hl];exact h1) (by simpa using ew) ⟨rfl,fin⟩) hs
theorem uQ:IxR X rIxS:=by
 intro value slice pins s σ H x y v u Q I rx ry h hs
 obtain⟨z,i,c,rfl,rfl,hz,he,q⟩:=h
 obtain⟨t,rfl⟩:=rx
 obtain⟨t',rfl⟩:=ry
 obtain⟨j,h1,h2,h3,h4,h5⟩:=kj he
 have hl:z.cps.toList.length=z.length:=by simp[Str.length]
 rw[hl]at h1 h4 h5
 have hn:=line63
 exact tail_any (typeIs_str s z t) slot_str_getitem.lookup (getItem_str (c:=c) (by
  have e1:decide (i < -(2^63:Int))=false:=decide_eq_false (by omega)
  have e2:decide (i≥2^63)=false:=decide_eq_false (by omega)
  rw[e1,e2,Bool.or_false]) (by rw[h1];simpa using h2) ⟨.str ⟨#[c]⟩,H,I.tok _,⟨_,rfl⟩,q⟩) hs
def rIx (K:PySem.W.Frag):R2:=fun x y H Q=>rIxL K x y H Q∨rIxT K x y H Q∨rIxS x y H Q
theorem uR:IxR X (rIx X.K):=nj.or (uP.or uQ)
theorem mo (its:List Value)(n j:Nat)(u:Value):Obj.mapSeq (·.setIfInBounds j u) { cls:=.type "list",data:=.seq its.toArray n }={ cls:=.type "list",data:=.seq (its.set j u).toArray n }:=by
 simp[Obj.mapSeq]
theorem Inv.lst {pins:List (Addr×Obj)}{σ:St}{H:Hp}{s:Shared}{p:Addr}{xs:List V}(I:Inv X pins σ H s)(h:H p=some (.lst xs)) :
  ∃ (its:List Value) (n:Nat),Vals xs its∧s.heap.get? p=some { cls:=.type "list",data:=.seq its.toArray n }∧xs.length≤sizeLine:=by
 obtain⟨z,its,n,r,e⟩:=I.hok p _ h
 exact⟨its,n,r,e,z⟩
theorem Inv.lstUpd {pins:List (Addr×Obj)}{σ:St}{H:Hp}{s:Shared}{p:Addr}{xs ys:List V}{its its':List Value}{n n':Nat}{f:Obj→Obj}(I:Inv X pins σ H s)(h:H p=some (.lst xs))
  (ho:s.heap.get? p=some { cls:=.type "list",data:=.seq its.toArray n }) (hf:f { cls:=.type "list",data:=.seq its.toArray n }={ cls:=.type "list",data:=.seq its'.toArray n' }) (r:Vals ys its') (hz:ys.length≤sizeLine) (t:Nat) :
  Inv X pins σ (upd H p (.lst ys)) { s with heap:=s.heap.update p f,toks:=t }:=by
 have e:(s.heap.update p f).get? p=some { cls:=.type "list",data:=.seq its'.toArray n' }:=by
  rw[Heap.get?_update_self f ho (by rw[hf]<;>rfl),hf]
 refine I.write (x:=p) (e:=p) (by rw[h];trivial) (.inl rfl) (fun b u hb q=>(Heap.get?_update_other _ _ (Ne.symm hb)).trans q) ⟨_,e⟩ ?_
 exact⟨hz,its',n',r,e⟩
def rSetL:V→V→V→Hp→(Hp→Prop)→Prop:=fun o i v H Q=>∃ p xs k j,o=.ref p∧i=.int k∧H p=some (.lst xs)∧ixN xs.length k=some j∧Q (upd H p (.lst (xs.set j v)))
theorem pT:PSet X rSetL:=by
 intro pins s σ H o i v ov iv u Q I ro ri rv h
 obtain⟨p,xs,k,j,rfl,rfl,hp,hj,q⟩:=h
 cases ro
 obtain⟨t,rfl⟩:=ri
 obtain⟨its,n,r,ho,hz⟩:=I.lst hp
 obtain⟨h1,h2,h3,h4⟩:=ni hj
 have hl:=r.length
 have hn:=line63
 have I':Inv X pins σ (upd H p (.lst (xs.set j v))) { s with heap:=s.heap.update p (Obj.mapSeq (·.setIfInBounds j u)) } :=
  I.lstUpd hp ho (mo its n j u) (r.set rv j) (by rw[List.length_set];exact hz) s.toks
 by_cases h0:0≤k
 ·have hk:k.toNat=j:=by
   rw[seqIndex_of h0 h4]at h1
   exact Option.some.inj h1
  exact PySem.W.ki_setAt ho h0 (by omega) (by rw[List.size_toArray,← hl];exact h4) (by rw[hk];exact⟨_,I',q⟩)
 ·have hk:(k+(its.toArray.size:Int)).toNat=j:=by
   rw[seqIndex_neg (by omega) h3]at h1
   rw[List.size_toArray,← hl]
   exact Option.some.inj h1
  exact PySem.W.ki_setBack ho (by omega) (by rw[List.size_toArray,← hl];exact h3) (by omega) (by rw[hk];exact⟨_,I',q⟩)
theorem km (lo hi:Option Int)(n:Nat):(sliceBounds lo hi none n).1=((HT.sIx n 0 lo:Nat):Int)∧(sliceBounds lo hi none n).2.1=((HT.sIx n n hi:Nat):Int)∧(sliceBounds lo hi none n).2.2=1:=by
 refine⟨?_,?_,rfl⟩
 ·cases lo with
  | none=>simp[sliceBounds,HT.sIx]
  | some i =>
   simp only[sliceBounds,HT.sIx,Option.getD_none,show (1:Int) > 0 by decide,if_true]
   by_cases h:i < 0
   ·simp only[h,if_true]<;>omega
   ·simp only[h,if_false]<;>omega
 ·cases hi with
  | none=>simp[sliceBounds,HT.sIx]
  | some i =>
   simp only[sliceBounds,HT.sIx,Option.getD_none,show (1:Int) > 0 by decide,if_true]
   by_cases h:i < 0
   ·simp only[h,if_true]<;>omega
   ·simp only[h,if_false]<;>omega
theorem jg (its:List Value)(lo hi:Option Int):slicePick its.toArray lo hi none=((its.drop (HT.sIx its.length 0 lo)).take (HT.sIx its.length its.length hi - HT.sIx its.length 0 lo)).toArray:=by
 obtain⟨h1,h2,h3⟩:=km lo hi its.toArray.size
 unfold slicePick
 rw[h1,h2,h3]
 simp only[sliceRange_one,pick_run,List.size_toArray]<;>rfl
def rSlL (K:PySem.W.Frag):V→Option Int→Option Int→Hp→VK→Prop:=fun x lo hi H Q=>∃ a xs,x=.ref a∧SqL K H a xs∧∀ p,H p=none→Q (.ref p) (upd H p (.lst (cutV xs lo hi)))
theorem sE:SlR X (rSlL X.K):=by
 intro pins s σ H x v vl vu lo hi sl Q I rx hs pl pu h
 obtain⟨a,xs,rfl,hx,q⟩:=h
 cases rx
 obtain⟨its,r,ht,hz⟩:=I.list hx
 have hlen:=r.length
 refine⟨"list",_,slot_list_getitem.lookup,ht.isList.typeIs,?_⟩
 refine wpAny_getItem_list_slice ht.isList hs pl pu .none (by simp) ?_ (by rw[List.size_toArray]<;>omega)
 rw[jg,← hlen]
 refine⟨.ref s.heap.objs.size,_,I.laid (t':=s.toks) (o:=.lst (cutV xs lo hi)) (fun b ob q=>Heap.get?_push_of_some _ q) (Nat.le_refl _) ?_,rfl,q _ (I.hok.fresh (Nat.le_refl _))⟩
 exact⟨Nat.le_trans (gP xs lo hi) hz,_,0,(r.drop (HT.sIx xs.length 0 lo)).take (HT.sIx xs.length xs.length hi - HT.sIx xs.length 0 lo),Heap.get?_push_size _ rfl⟩
def flatV:V→Bool
 | .non=>true
 | .bl _=>true
 | .int _=>true
 | .str _=>true
 | _=>false
def eqV:V→V→Bool
 | .non,.non=>true
 | .bl a,.bl b=>a==b
 | .bl a,.int b=>(if a then 1 else 0)==b
 | .int a,.bl b=>a==(if b then 1 else 0)
 | .int a,.int b=>a==b
 | .str a,.str b=>a==b
 | _,_=>false
theorem pU {A:Around}{s:Shared}{y x:V}{u v:Value}(ry:RelV y u)(rx:RelV x v)(fy:flatV y=true)(fx:flatV x=true):SeqAt.EqAt A s u v (eqV y x):=by
 cases y with
 | non =>
  cases ry
  cases x with
  | non=>cases rx;exact SeqAt.EqAt.same _
  | bl b=>cases rx;exact SeqAt.EqAt.none_bool b
  | int b=>obtain⟨t,rfl⟩:=rx;exact SeqAt.EqAt.none_int b t
  | str b=>obtain⟨t,rfl⟩:=rx;exact SeqAt.EqAt.none_str b t
  | _=>exact absurd (show false=true from fx) Bool.false_ne_true
 | bl a =>
  cases ry
  cases x with
  | non=>cases rx;exact SeqAt.EqAt.bool_none a
  | bl b=>cases rx;exact SeqAt.EqAt.bool_bool a b
  | int b=>obtain⟨t,rfl⟩:=rx;exact SeqAt.EqAt.bool_int a b t
  | str b=>obtain⟨t,rfl⟩:=rx;exact SeqAt.EqAt.bool_str a b t
  | _=>exact absurd (show false=true from fx) Bool.false_ne_true
 | int a =>
  obtain⟨t',rfl⟩:=ry
  cases x with
  | non=>cases rx;exact SeqAt.EqAt.int_none a t'
  | bl b=>cases rx;exact SeqAt.EqAt.int_bool a t' b
  | int b=>obtain⟨t,rfl⟩:=rx;exact SeqAt.EqAt.int_int a t' b t
  | str b=>obtain⟨t,rfl⟩:=rx;exact SeqAt.EqAt.int_str a t' b t
  | _=>exact absurd (show false=true from fx) Bool.false_ne_true
 | str a =>
  obtain⟨t',rfl⟩:=ry
  cases x with
  | non=>cases rx;exact SeqAt.EqAt.str_none a t'
  | bl b=>cases rx;exact SeqAt.EqAt.str_bool a t' b
  | int b=>obtain⟨t,rfl⟩:=rx;exact SeqAt.EqAt.str_int a t' b t
  | str b=>obtain⟨t,rfl⟩:=rx;exact SeqAt.EqAt.str_str a t' b t
  | _=>exact absurd (show false=true from fx) Bool.false_ne_true
 | _=>exact absurd (show false=true from fy) Bool.false_ne_true
theorem kn:CallR X (.builtin "len") (fun xs H Q=>∃ p ys,xs=[.ref p]∧(SqL X.K H p ys∨SqT X.K H p ys)∧Q (.int ys.length) H):=by
 intro pins s σ H xs us Q I r h
 obtain⟨p,ys,rfl,hq,q⟩:=h
 obtain⟨u,rfl,rx⟩:=vals1 r
 cases rx
 have hn:=line63
 rcases hq with hq | hq
 ·obtain⟨its,r',pl,hz⟩:=I.list hq
  have hlen:=r'.length
  exact Calls.call_len_list pl.isList (by simp only[List.size_toArray]<;>omega) ⟨.int ys.length,H,I.tok _,⟨s.toks+1,by rw[List.size_toArray,hlen]⟩,q⟩
 ·obtain⟨its,r',pl,hz⟩:=I.tuple hq
  have hlen:=r'.length
  exact len_tuple pl (by simp only[List.size_toArray]<;>omega) ⟨.int ys.length,H,I.tok _,⟨s.toks+1,by rw[List.size_toArray,hlen]⟩,q⟩
theorem ko:CallR X (.type "list") (fun xs H Q=>∃ p ys,xs=[.ref p]∧(SqL X.K H p ys∨SqT X.K H p ys)∧∀ l,H l=none→Q (.ref l) (upd H l (.lst ys))):=by
 intro pins s σ H xs us Q I r h
 obtain⟨p,ys,rfl,hq,q⟩:=h
 obtain⟨u,rfl,rx⟩:=vals1 r
 cases rx
 have fin:∀ (its:List Value),Vals ys its→ys.length≤sizeLine→∀ (h':Heap) (c':Nat),(∀ b o',s.heap.get? b=some o'→h'.get? b=some o') →
   h'.get? s.heap.objs.size=some { cls:=.type "list",dict:=none,data:=.seq its.toArray c',slots:=#[] }→EP X pins σ Q (.ref s.heap.objs.size) { s with heap:=h' }:=fun its r' hz h' c' kp e =>
  ⟨.ref s.heap.objs.size,_,I.laid (t':=s.toks) kp (Nat.le_refl _) (show ObjOk X.prog X.w _ h' _ (.lst ys) from ⟨hz,its,c',r',e⟩),rfl,q _ (I.hok.fresh (Nat.le_refl _))⟩
 rcases hq with hq | hq
 ·obtain⟨its,r',pl,hz⟩:=I.list hq
  have hlen:=r'.length
  obtain⟨o,ho,hc,n,hd⟩:=pl.isList
  exact call_list_seq p (.inl rfl) ho hc hd (fun h' c' kp e=>fin its r' hz h' c' kp e) (by simp only[List.size_toArray]<;>omega)
 ·obtain⟨its,r',pl,hz⟩:=I.tuple hq
  have hlen:=r'.length
  obtain⟨o,ho,hc,n,hd⟩:=pl
  exact call_list_seq p (.inr rfl) ho hc hd (fun h' c' kp e=>fin its r' hz h' c' kp e) (by simp only[List.size_toArray]<;>omega)
theorem jh:CallR X (.type "tuple") (fun xs H Q=>∃ p ys,xs=[.ref p]∧((SqL X.K H p ys∧∀ l,H l=none→Q (.ref l) (upd H l (.tup ys)))∨(SqT X.K H p ys∧Q (.ref p) H))):=by
 intro pins s σ H xs us Q I r h
 obtain⟨p,ys,rfl,h⟩:=h
 obtain⟨u,rfl,rx⟩:=vals1 r
 cases rx
 rcases h with ⟨hq,q⟩ | ⟨hq,q⟩
 ·obtain⟨its,r',pl,hz⟩:=I.list hq
  have hlen:=r'.length
  refine call_tuple_list pl.isList (fun h' kp=>?_) (by simp only[List.size_toArray]<;>omega)
  have I1:Inv X pins σ H { s with heap:=h' }:=I.kept (t':=s.toks) kp
  have I2:Inv X pins σ (upd H h'.objs.size (.tup ys)) { s with heap:=h'.push { cls:=.type "tuple",data:=.seq its.toArray } } :=
   I1.laid (t':=s.toks) (fun b o e=>Heap.get?_push_of_some _ e) (Nat.le_refl _) (show ObjOk X.prog X.w _ _ _ (.tup ys) from ⟨hz,its,r',TupO.new _ _⟩)
  exact⟨.ref h'.objs.size,_,I2,rfl,q _ (I1.hok.fresh (Nat.le_refl _))⟩
 ·obtain⟨its,r',pl,hz⟩:=I.tuple hq
  exact call_tuple_same pl ⟨.ref p,H,I,rfl,q⟩
def tyV (K:PySem.W.Frag)(T:String)(x:V)(H:Hp):Prop:=match x with
 | .str _=>T="str"
 | .int _=>T="int"
 | .ref p=>(T="list" ∧ ∃ xs,SqL K H p xs)∨(T="tuple" ∧ ∃ o,K.lookup p=some o∧o.cls=.type "tuple" ∧ o.dict=none) ∨
   (T="dict" ∧ ((∃ kvs,H p=some (.dK kvs))∨∃ kvs,H p=some (.dT kvs)))∨(T="set" ∧ ∃ S n,H p=some (.set S n))
 | _=>False
theorem uS {pins:List (Addr×Obj)}{σ:St}{H:Hp}{s:Shared}{T:String}{x:V}{v:Value}(I:Inv X pins σ H s)(r:RelV x v)(ty:tyV X.K T x H) :
  s.TypeIs v T∧∀ a,v=.ref a→∃ ob,s.heap.get? a=some ob∧ob.dict=none:=by
 cases x with
 | str z =>
  obtain⟨t,rfl⟩:=r
  cases (show T="str" from ty)
  exact⟨typeIs_str s z t,fun _ e=>nomatch e⟩
 | int i =>
  obtain⟨t,rfl⟩:=r
  cases (show T="int" from ty)
  exact⟨typeIs_int s i t,fun _ e=>nomatch e⟩
 | ref p =>
  cases r
  rcases ty with ⟨rfl,xs,hq⟩ | ⟨rfl,o,hk,hc,hd⟩ | ⟨rfl,hk⟩ | ⟨rfl,S,n,hk⟩
  ·obtain⟨its,_,pl,_⟩:=I.list hq
   refine⟨pl.isList.typeIs,fun a e=>?_⟩
   cases e
   obtain⟨o,n,e,c,hd,_⟩:=pl
   exact⟨o,e,hd⟩
  ·refine⟨⟨o,I.kIn p o hk,hc⟩,fun a e=>?_⟩
   cases e
   exact⟨o,I.kIn _ o hk,hd⟩
  ·have z:∃ o,s.heap.get? p=some o∧o.ExactDict:=by
    rcases hk with ⟨kvs,hk⟩ | ⟨kvs,hk⟩
    ·obtain⟨_,_,_,_,o,_,_,e,ex,_⟩:=I.hok p _ hk
     exact⟨o,e,ex⟩
    ·obtain⟨_,_,_,_,o,_,_,e,ex,_⟩:=I.hok p _ hk
     exact⟨o,e,ex⟩
   obtain⟨o,e,ex⟩:=z
   refine⟨⟨o,e,ex.1⟩,fun a e2=>?_⟩
   cases e2
   exact⟨o,e,ex.2.1⟩
  ·obtain⟨o,_,_,_,e,ex,_⟩:=I.hok p _ hk
   refine⟨⟨o,e,ex.1⟩,fun a e2=>?_⟩
   cases e2
   exact⟨o,e,ex.2.1⟩
 | _=>exact False.elim ty
def tBM (K:PySem.W.Frag)(T:String)(r:V→List V→Hp→VK→Prop)(to:TE)(t:TA):TE:=fun σ H Q=>to σ H fun x H1=>tyV K T x H1∧t σ H1 fun xs H2=>r x xs H2 Q
variable {o e:Expr}{es:List Expr}{to:TE}{t:TA}{name:Str}{apos cpos:Pos}{T id:String}{r:V→List V→Hp→VK→Prop}
theorem kW (pa:PlainAttrs T)(slot:Slot T name id)(hty:typeOf (.builtin id)=pure (.type "method_descriptor"))(hm:MtR X id r)(ho:PE X o to)(ha:PA X (e::es) t)
  (hbase:attributeBase o name X.env (eval o X.env)=eval o X.env:=by rfl)
  (hfew:((backTo cpos (starEach (e::es) X.env)).all (fun x=>!x.1)&&(backToKw cpos (keywordEach [] X.env)).all (fun x=>x.1.isSome)
   && decide ((e::es).length+([]:List Keyword).length+(if ([]:List Keyword).isEmpty then 0 else 1) < 30))=true:=by rfl)
  (hline:(apos.endLine==cpos.line)=true:=by rfl) (hs:starEach (e::es) X.env=(false,eval e X.env)::starEach es X.env:=by rfl) (hplain:(backTo cpos (starEach es X.env)).any (·.1)=false:=by rfl) :
  PE X (.Call (.Attribute o name apos) (e::es) [] cpos) (tBM X.K T r to t):=by
 intro pins s σ H Q I h
 refine wpAny_Call_method_late hbase hfew hline rfl (thn (ho pins s σ H _ I h) fun v s1 ⟨x,H1,I1,r1,ty,q1⟩=>?_)
 obtain⟨h1,h2⟩:=uS I1 r1 ty
 refine⟨T,id,pa,slot,hty,h1,h2,?_⟩
 have hA:=ha cpos pins s1 σ H1 _ I1 q1
 rw[hs]at hA ⊢
 refine Calls.callWith_builtin (by show (false||(backTo cpos (starEach es X.env)).any (·.1))=false;rw[hplain]<;>rfl) (Calls.evalArgs_plain ?_)
 exact thn hA fun us s2 ⟨vs,H2,I2,r2,q2⟩=>hm pins s2 σ H2 x vs v us Q I2 r1 r2 q2
end
end L2
namespace L2
open PySem PySem.Spec PyProof.Rows
def MtM (X:Cx)(id:String)(r:V→List V→Hp→VK→Prop):Prop :=
 ∀ (pins:List (Addr×Obj)) (s:Shared) (σ:St) (H:Hp) (x:V) (xs:List V) (v:Value) (us:List Value) (Q:VK),Inv X pins σ H s→RelV x v→Vals xs us→r x xs H Q →
  wpAny (model X.prog X.w) X.A (call (.builtin id) (v::us)) (EP X pins σ Q) X.xe s
theorem Vals.one:∀ {x:V} {us:List Value},Vals [x] us→∃ u,us=[u]∧RelV x u
 | _,_,.cons r .nil=>⟨_,rfl,r⟩
theorem Vals.rep {xs:List V}{us:List Value}(h:Vals xs us):∀ k:Nat,Vals (List.replicate k xs).flatten (List.replicate k us).flatten
 | 0=>.nil
 | k+1=>by
  rw[List.replicate_succ,List.replicate_succ,List.flatten_cons,List.flatten_cons]
  exact Vals.append h (Vals.rep h k)
theorem fX (its:List Value):∀ (k:Nat) (acc:List Value),
  List.foldl (fun x1 x2=>x1++x2) acc.toArray (List.replicate k its.toArray)=(acc++(List.replicate k its).flatten).toArray
 | 0,acc=>by simp
 | k+1,acc=>by
  have e:acc.toArray++its.toArray=(acc++its).toArray:=by simp
  have e2:(acc++its)++(List.replicate k its).flatten=acc++(List.replicate (k+1) its).flatten:=by
   rw[List.replicate_succ,List.flatten_cons,List.append_assoc]
  rw[← e2,← fX its k (acc++its),← e,List.replicate_succ,List.foldl_cons]
section
variable {X:Cx}{pins:List (Addr×Obj)}{σ:St}{H:Hp}{s:Shared}{l b:Addr}{xs ys zs:List V}
theorem Inv.lset {its its':List Value}{n:Nat}{f:Array Value→Array Value}{t':Nat}(I:Inv X pins σ H s)(hH:H l=some (.lst xs))
  (e:s.heap.get? l=some { cls:=.type "list",data:=.seq its.toArray n }) (hf:f its.toArray=its'.toArray) (hv:Vals ys its') (hz:ys.length≤sizeLine) :
  Inv X pins σ (upd H l (.lst ys)) { s with heap:=s.heap.update l (Obj.mapSeq f),toks:=t' }:=by
 have q:=PySem.IsL.update e f
 rw[hf]at q
 refine I.write (x:=l) (e:=l) (by rw[hH];exact trivial) (.inl rfl) (fun b' u hb hu=>(Heap.get?_update_other s.heap (Obj.mapSeq f) (Ne.symm hb)).trans hu) ⟨_,q⟩ ?_
 exact⟨hz,its',_,hv,q⟩
theorem Inv.lnew {its:List Value}{t':Nat}(I:Inv X pins σ H s)(hv:Vals ys its)(hz:ys.length≤sizeLine) :
  Inv X pins σ (upd H s.heap.objs.size (.lst ys)) { s with heap:=s.heap.push { cls:=.type "list",data:=.seq its.toArray },toks:=t' } :=
 I.laid (fun _ _ q=>Heap.get?_push_of_some _ q) (Nat.le_refl _) ⟨hz,its,0,hv,Heap.get?_push_size _ rfl⟩
theorem Inv.fresh (I:Inv X pins σ H s):H s.heap.objs.size=none:=I.hok.fresh (Nat.le_refl _)
theorem Inv.lstM (I:Inv X pins σ H s)(hH:H l=some (.lst xs)):xs.length≤sizeLine∧∃ (its:List Value) (n:Nat),Vals xs its∧xs.length=its.length∧s.heap.get? l=some { cls:=.type "list",data:=.seq its.toArray n }:=by
 obtain⟨z,its,n,r,e⟩:=I.hok l _ hH
 exact⟨z,its,n,r,r.length,e⟩
theorem notLongL {n:Nat}(h:n≤sizeLine):Builtin.List.listTooLong n=false:=by
 unfold Builtin.List.listTooLong
 exact decide_eq_false (by omega)
end
section
variable {X:Cx}
def rAppend:V→List V→Hp→VK→Prop:=fun x vs H Q=>∃ l xs y,x=.ref l∧vs=[y]∧H l=some (.lst xs)∧xs.length < sizeLine∧Q .non (upd H l (.lst (xs++[y])))
theorem jM:MtM X "list.append" rAppend:=by
 intro pins s σ H x vs v us Q I rx rv h
 obtain⟨l,xs,y,rfl,rfl,hH,hz,q⟩:=h
 cases rx
 obtain⟨u,rfl,ru⟩:=rv.one
 obtain⟨z,its,n,r,hl,e⟩:=I.lstM hH
 refine call_meets F.slot_list_append ⟨_,e,rfl⟩ F.entry_list_append (F.args_list_append_2 _ _) (PySem.list_append l its.toArray n u (by rw[List.size_toArray];omega)) ⟨e,?_⟩
 refine⟨.non,_,I.lset (its':=its++[u]) hH e (by simp) (r.append (.cons ru .nil)) ?_,rfl,q⟩
 rw[List.length_append,List.length_singleton]
 omega
theorem nk {α:Type}(xs:List α)(k:Nat):(List.replicate k xs).flatten.length=k*xs.length:=by
 induction k with
 | zero=>simp
 | succ k ih=>rw[List.replicate_succ,List.flatten_cons,List.length_append,ih,Nat.succ_mul,Nat.add_comm]
end
section
variable {prog:Program}{w:World}{A:Around}{E:Value→Shared→Prop}{s:Shared}
set_option maxRecDepth 100000 in
end
section
variable {X:Cx}
end
end L2
namespace Att
open PySem PySem.W PySem.Calls PyProof.Rows
theorem gX {P:Params}{h:Heap}:∀ (ns:List Int) (vs:List Value),WellAll P h vs (ns.map WData.int)→IntsAre vs ns:=by
 intro ns
 induction ns with
 | nil =>
  intro vs w
  rw[List.map_nil]at w
  cases w
  exact .nil
 | cons n ns ih =>
  intro vs w
  rw[List.map_cons]at w
  cases w with
  | cons a b =>
   cases a
   exact .cons _ _ (ih _ b)
theorem n5 {l:OpenLaw}{n:Nat}(hn:l.most=some n){P:Params}{h:Heap}{args:List WData}{vals:List Value}
  (hpre:l.row.toRowW.claim.pre args=true) (hwl:WellAll P h vals args) :
  ∃ a vs ns,vals=[Value.ref a]∧args=[WData.list (ns.map WData.int)]∧h.get? a=some { cls:=.type "list",data:=.seq vs.toArray }∧IntsAre vs ns∧ns.length≤n:=by
 have hsh:WShape.hasAll [] args [.list .int]=true:=(pre_splitW hpre).1
 have hc:l.pre.holds [] { args:=args }=true:=(pre_splitW hpre).2
 obtain⟨d,r,rfl,h1,h2⟩:=hasAllW_cons hsh
 obtain rfl:=hasAllW_nil h2
 obtain⟨xs,rfl,h3⟩:=hasW_list h1
 obtain⟨ns,rfl⟩:=items_int h3
 have hlen:ns.length≤n:=by
  unfold OpenLaw.pre at hc
  have h4:(WTm.not (.lt (.lit (.int (n:Int))) (.len (.arg 0)))).holds [] { args:=[.list (ns.map .int)] }=true:=by
   have h4:=(holds_andW hc).1
   rw[hn]at h4
   exact h4
  have h5:=condW_of h4 (w_not (w_lt w_lit (w_len_list (w_arg rfl))))
  rw[List.length_map]at h5
  refine Nat.le_of_not_lt fun q=>?_
  have q':(n:Int) < ((ns.length:Nat):Int):=by omega
  first
   | (rw[decide_eq_true q']at h5;exact absurd h5 (by decide))
   | (simp at h5;omega)
 cases hwl with
 | cons w1 w2 =>
  cases w2
  cases w1 with
  | list ho hall=>exact⟨_,_,ns,rfl,rfl,ho,gX ns _ hall,hlen⟩
theorem n6 (l:OpenLaw)(args:List WData):l.row.toRowW.claim.post args (.bool true) args=true :=
 postW_of (r:=l.row.toRowW) (X:=(true==true))
  (show WShape.has [] (.bool true) .bool=true by first | rfl | decide | simp[WShape.has,WShape.arms,WShape.armsAll])
  (show (WTm.eq .res (.lit (.bool true))).value [] { args:=args,res:=some (.bool true),after:=args }=some (.bool (true==true)) from w_eq_bool (w_res rfl) w_lit) rfl
theorem attach_call {l:OpenLaw}{n:Nat}{q:Program}{loose:List Str}{XP:(Str→Option Value)→Heap→Prop}{YP:World→Heap→Prop}{d:DefRec}
  (hn:l.most=some n) (hdf:d.params.defaults=[])
  (call:∀ (w:World) (s₀ s₁:Shared) (mg mb:Str→Option Value) (fa:Addr) (o:Obj) (pm cd doc:Value) (a:Addr) (vs:List Value) (ns:List Int),
   Ground q loose [] XP w s₀ mg mb s₁.heap→YP w s₁.heap →
   s₁.heap.get? fa=some o→o.data=.func (docDef d.name d.params d.body d.scope pm cd doc)→s₁.heap.CodeRec cd d.name→mg d.name=some (.ref fa) →
   s₁.heap.get? a=some { cls:=.type "list",data:=.seq vs.toArray }→IntsAre vs ns→ns.length≤n→s₁.gens = #[] →
   codeAny (model l.prog w) callerA (.call (.ref fa) ⟨[.ref a],[]⟩) (fun r s'=>r=.ok (.ret (.bool true))∧OldK s₁.heap s'.heap∧s'.os=s₁.os∧AllBare s'.gens) s₁) :
  WalkO q loose XP YP l.row.toRowW d [] (fun f vs=>PySem.call f vs):=by
 intro w s₀ s₁ mg mb G Y fa o pm cd doc dV kV ho hd hcd hD hmg hg args vals as hpre hlay hrd hwl hlo
 obtain rfl:dV=.none:=Dflts.none hD hdf
 obtain rfl:kV=.none:=Dflts.noKw hD
 obtain⟨a,vs,ns,rfl,rfl,hobj,hints,hlen⟩:=n5 hn hpre hwl
 refine enter_call (codeAny_mono (call w s₀ s₁ mg mb fa o pm cd doc a vs ns G Y ho (fd_plain hd) hcd hmg hobj hints hlen hg) fun r s' hq=>?_)
 obtain⟨rfl,h2,h3,h4⟩:=hq
 exact⟨.inl ⟨.bool true,.bool true,[],rfl,fun _=>rfl,.bool true,n6 l _,fun _=>⟨List.Pairwise.nil,fun _ hm=>(nomatch hm)⟩⟩,h2,h3,h4⟩
section
variable {prog:Program}{w:World}{A:Around}{E:Value→Shared→Prop}{s:Shared}{K:Frag}
theorem vx {x C:Addr}{ox:Obj}{es:List DictEntry}{n:Nat}{name:Str}{expr:Bool}{v:Value}{Q:Value→Shared→Prop}
  (X:K.In s.heap) (I:PySem.W.InstAt s.heap x ox C (some (dictOf es n))) (hg:plainGet K C name=true) (hh:hasDictIn K C=true) (ha:findIn K (.ref C) name=some none)
  (hl:getL name es=some (some v)) (hv:handedIn v=true) (h:Q v { s with toks:=s.toks+1 }):wpAny (model prog w) A (getAttr (.ref x) name expr) Q E s :=
 get_value X I (plainGet_of hg).1 (findObj_own hh ha rfl hl) hv h
end
end Att
namespace L2
open PySem PySem.Spec PyProof.Rows
theorem bL:∀ {vs:List Value} {ns:List Int},IntsAre vs ns→Vals (ns.map V.int) vs
 | _,_,.nil=>.nil
 | _,_,.cons n t h=>.cons ⟨t,rfl⟩ (bL h)
def Only (H:Hp):Prop:=∀ b,H b=none∨∃ o xs,H b=some (.frz o (.lst xs))
theorem pV {P:Program}{w:World}{K:PySem.W.Frag}{mg mb:Str→Option Value}{CX:CXT}{k:Nat}{fa a:Addr}{fd:FuncData}{x:Str}{sp:Sp}{s₁:Shared}{vs:List Value}{ns:List Int}
  (KX:K.In s₁.heap) (hns:s₁.heap.Ns mainGlobals mg) (hb:s₁.heap.Ns builtinsNs mb) (hbb:∀ x:Str,x ≠ "__name__" → mb x=bootBuiltins x) (hlim:s₁.heap.NoLimit) (hg:s₁.gens = #[])
  (ha:s₁.heap.get? a=some { cls:=.type "list",data:=.seq vs.toArray }) (hi:IntsAre vs ns) (hl:ns.length≤sizeLine) (hr:Room k callerA)
  (F:∀ base:Heap,K.In base→base.Ns mainGlobals mg→FnOk P w K mg base CX k fa fd [x] sp) (hbind:∀ (s:Shared) (u:Value),BindsTo s fd ⟨[u],[]⟩ [(x,u)])
  (hsp:∀ H:Hp,Only H→SqL K H a (ns.map V.int)→sp [.ref a] H (fun v _=>v=.bl true) fun _ _ _=>False)
  (hCX:∀ H e s',CX [] H s₁ (fun _ _ _=>False) e s'→False) :
  codeAny (model P w) callerA (.call (.ref fa) ⟨[.ref a],[]⟩) (fun r s'=>r=.ok (.ret (.bool true))∧OldK s₁.heap s'.heap∧s'.os=s₁.os∧AllBare s'.gens) s₁:=by
 have rv:=bL hi
 have lenV:=hi.length
 have core:∀ H:Hp,Only H→SqL K H a (ns.map V.int)→HOk P w H s₁.heap→(∀ b,H b≠none→b=a)→(H a≠none→K.lookup a=none) →
   codeAny (model P w) callerA (.call (.ref fa) ⟨[.ref a],[]⟩) (fun r s'=>r=.ok (.ret (.bool true))∧OldK s₁.heap s'.heap∧s'.os=s₁.os∧AllBare s'.gens) s₁:=by
  intro H hO hS hok hA hK
  have base_of:∀ {b:Addr} {o:Obj},s₁.heap.get? b=some o→H b=none→(hidT s₁.heap H).get? b=some o:=fun e n=>pC e n
  have noA:∀ {b:Addr} {o:Obj} {es:Array DictEntry} {ep:Nat},s₁.heap.get? b=some o→o.data=.dict es ep→H b=none:=fun {b o es ep} e d=>by
   cases q:H b with
   | none=>rfl
   | some u =>
    have e':b=a:=hA b (by rw[q];simp)
    subst e'
    rw[ha]at e;cases e
    have d':Data.seq vs.toArray _=Data.dict es ep:=d
    cases d'
  have nsK:∀ {b:Addr} {m:Str→Option Value},s₁.heap.Ns b m→(hidT s₁.heap H).Ns b m:=fun {b m} ⟨o,es,ep,e,d,r⟩=>⟨o,es,ep,base_of e (noA e d),d,r⟩
  have hKb:K.In (hidT s₁.heap H):=fun b o e=>base_of (KX b o e) (by
   cases q:H b with
   | none=>rfl
   | some u =>
    have e':b=a:=hA b (by rw[q];simp)
    subst e'
    rw[hK (by rw[q];simp)]at e;cases e)
  have hM:Mod K mg (hidT s₁.heap H):=⟨hKb,nsK hns,⟨mb,nsK hb,hbb⟩,let ⟨mc,h1,h2⟩:=hlim;⟨mc,nsK h1,h2⟩⟩
  have e0:Env0 P w K mg (hidT s₁.heap H) callerA [] s₁ H:=⟨rfl,hM,fun b o e=>sk e,Nat.le_of_eq (nU _ _),trivial,fun b hb=>absurd (show b∈([]:List Addr) from hb) (by simp),hok,.of_eq hg⟩
  refine codeAny_mono ((F _ hKb (nsK hns)).run callerA [] s₁ H ⟨[.ref a],[]⟩ [.ref a] [.ref a] _ _ hr e0 (hbind s₁ (.ref a)) (.cons rfl .nil) (hsp H hO hS)) fun r s' h=>?_
  cases r with
  | error e=>exact(hCX H e s' h).elim
  | ok fl =>
   cases fl with
   | next=>exact False.elim h
   | brk=>exact False.elim h
   | cont=>exact False.elim h
   | ret u =>
    obtain⟨v,H',os,bare,un,hok',r',q⟩:=h
    have q':v=.bl true:=q
    subst q'
    obtain rfl:u=Value.bool true:=r'
    refine⟨rfl,OldK.of_keep fun b o e=>?_,os,bare⟩
    cases q:H b with
    | none=>exact un.keep b o e q (by intro z;exact absurd (show b∈([]:List Addr) from z) (by simp)) (by simp)
    | some u =>
     rcases hO b with z | ⟨ob,xs,z⟩
     ·rw[q]at z;cases z
     ·have z2:=un.frzs b ob _ z
      obtain⟨e1,_⟩:=hok b _ z
      obtain⟨e2,_⟩:=hok' b _ z2
      rw[e]at e1;cases e1
      exact e2
 cases hk:K.lookup a with
 | some o =>
  have e:=KX a o hk
  rw[ha]at e
  cases e
  refine core (fun _=>none) (fun _=>.inl rfl) (.inr ⟨_,vs.toArray,_,hk,rfl,rfl,rfl,by rw[List.size_toArray,lenV];exact hl,by simpa using rv⟩) (fun b u z=>by have z':(none:Option HO)=some u:=z;cases z') (fun b z=>absurd rfl z) fun z=>absurd rfl z
 | none =>
  refine core (fun b=>if b=a then some (.frz { cls:=.type "list",data:=.seq vs.toArray } (.lst (ns.map V.int))) else none) (fun b=>?_) (.inl (.inr ⟨{ cls:=.type "list",data:=.seq vs.toArray },if_pos rfl⟩)) (fun b u z=>?_) (fun b z=>?_) fun _=>hk
  ·by_cases hb:b=a
   ·exact .inr ⟨_,_,if_pos hb⟩
   ·exact .inl (if_neg hb)
  ·by_cases hb:b=a
   ·have z':=(if_pos hb).symm.trans z
    cases z'
    subst hb
    exact⟨ha,by rw[List.length_map];exact hl,vs,_,rv,ha⟩
   ·have z':=(if_neg hb).symm.trans z
    cases z'
  ·by_cases hb:b=a
   ·exact hb
   ·exact absurd (if_neg hb) z
end L2
namespace L2
open PySem PySem.Spec PyProof.Rows
theorem sF {l:PySem.W.OpenLaw}{n k:Nat}{q:Program}{loose:List Str}{XP:(Str→Option Value)→Heap→Prop}{YP:World→Heap→Prop}{d:DefRec}{K:Params→PySem.W.Frag}{CX:World→CXT}{sp:World→Sp}{x:Str}
  (hn:l.most=some n) (hn2:n≤sizeLine) (hdf:d.params.defaults=[]) (hr:Room k callerA)
  (hY:∀ (w:World) (h:Heap),YP w h→(K w.params).In h)
  (F:∀ (w:World) (mg:Str→Option Value) (fa:Addr) (h:Heap),(K w.params).In h→h.Ns mainGlobals mg→mg d.name=some (.ref fa) →
   ∃ fd:FuncData,(∀ (s:Shared) (u:Value),BindsTo s fd ⟨[u],[]⟩ [(x,u)]) ∧
    ∀ base:Heap,(K w.params).In base→base.Ns mainGlobals mg→FnOk l.prog w (K w.params) mg base (CX w) k fa fd [x] (sp w))
  (hsp:∀ (w:World) (H:Hp) (a:Addr) (ns:List Int),ns.length≤n→Only H→SqL (K w.params) H a (ns.map V.int)→sp w [.ref a] H (fun v _=>v=.bl true) fun _ _ _=>False)
  (hCX:∀ (w:World) (H:Hp) (s:Shared) (e:Value) (s':Shared),CX w [] H s (fun _ _ _=>False) e s'→False) :
  PySem.W.WalkO q loose XP YP l.row.toRowW d [] (fun f vs=>PySem.call f vs):=by
 refine Att.attach_call hn hdf fun w s₀ s₁ mg mb fa o pm cd doc a vs ns G Y ho hd hcd hmg hobj hints hlen hg=>?_
 have KX:=hY w _ Y
 obtain⟨fd,hb,hF⟩:=F w mg fa _ KX G.T.g hmg
 exact pV KX G.T.g G.T.b G.T.builtins G.T.nolimit hg hobj hints (Nat.le_trans hlen hn2) hr hF hb (fun H hO hS=>hsp w H a ns hlen hO hS) fun H e s'=>hCX w H s₁ e s'
end L2
namespace L2
open PySem PySem.Spec PyProof.Rows
def defArgs (s:Stmt):Arguments:=match s with
 | .FunctionDef _ a _ _ _ _ _ _ _ _=>a
 | _=>{ posonlyargs:=[],args:=[],vararg:=none,kwonlyargs:=[],kw_defaults:=[],kwarg:=none,defaults:=[] }
def defBody (s:Stmt):List Stmt:=match s with
 | .FunctionDef _ _ b _ _ _ _ _ _ _=>b
 | _=>[]
def defScope (s:Stmt):Scope:=match s with
 | .FunctionDef _ _ _ _ _ _ sc _ _ _=>sc
 | _=>{ kind:=.function,names:=[],isGenerator:=false,isCoroutine:=false }
abbrev CX0:CXT:=fun _ _ _ _ _ _=>False
structure Fun (K:PySem.W.Frag)(x qual:Str)(st:Stmt)(f:Addr)(fd:FuncData):Prop where
 ex:∃ (oc:Value) (od:Option Addr) (kV doc pm:Value) (an:Option Addr) (cdv ct:Value) (osl:Array (Option Value)),
  fd=PySem.W.fnOf x qual (defArgs st) (defBody st) (defScope st) .none kV doc pm an cdv ct∧K.lookup f=some ⟨oc,od,.func fd,osl⟩∧PySem.W.codeIn K cdv qual=true
 kp:PySem.W.keepIn K (.ref f)=true
section
variable {P:Program}{w:World}{K:PySem.W.Frag}{mg:Str→Option Value}{base:Heap}
theorem Fun.ok {x qual:Str}{st:Stmt}{f:Addr}{fd:FuncData}{N ps:List Str}{k:Nat}{sp:Sp}(F:Fun K x qual st f fd)(S:FnScope N ps (defScope st))(len:∀ vs H Q E,sp vs H Q E→vs.length=ps.length)
  (hbody:∀ (cdv:Value) (A:Around) (outer:List Env) (s:Shared) (H:Hp) (vs:List V) (Q:VK) (E:XK),Room k (A.deeper (envOfC qual (defScope st) s.heap.objs.size f cdv))→sp vs H Q E →
   ∃ t,PSs (cxOf CX0 P w K mg base N qual (defScope st) f cdv A outer s H E).nox (defBody st) t∧t { nx:=fun _ H'=>Q .non H',rt:=Q } (start N vs) H):FnOk P w K mg base CX0 (k+1) f fd ps sp:=by
 obtain⟨oc,od,kV,doc,pm,an,cdv,ct,osl,rfl,lk,hcd⟩:=F.ex
 refine pQ lk hcd S len fun A outer s H vs Q E hr hsp=>?_
 obtain⟨t,h,q⟩:=hbody cdv A outer s H vs Q E hr hsp
 exact⟨t,h.nox,q⟩
theorem Fun.binds {x qual:Str}{st:Stmt}{f:Addr}{fd:FuncData}{ps:List Str}(F:Fun K x qual st f fd)
  (h:∀ (kV doc pm:Value) (an:Option Addr) (cdv ct:Value) (us:List Value),us.length=ps.length→bindArgs (PySem.W.fnOf x qual (defArgs st) (defBody st) (defScope st) .none kV doc pm an cdv ct) ⟨us,[]⟩=pure (ps.zip us)):Binds K fd ps []:=by
 obtain⟨oc,od,kV,doc,pm,an,cdv,ct,osl,rfl,lk,hcd⟩:=F.ex
 exact .all (h kV doc pm an cdv ct)
theorem mq {x qual:Str}{st:Stmt}{f:Addr}{oc:Value}{od an:Option Addr}{osl:Array (Option Value)}{kV doc pm cdv ct:Value}(l:K.lookup f=some ⟨oc,od,.func (PySem.W.fnOf x qual (defArgs st) (defBody st) (defScope st) .none kV doc pm an cdv ct),osl⟩)
  (c:PySem.W.codeIn K cdv qual=true) (k:PySem.W.keepIn K (.ref f)=true):Fun K x qual st f (PySem.W.fnOf x qual (defArgs st) (defBody st) (defScope st) .none kV doc pm an cdv ct):=⟨⟨oc,od,kV,doc,pm,an,cdv,ct,osl,rfl,l,c⟩,k⟩
end
section
variable {X:Cx}
end
def Same (H H':Hp):Prop:=∀ b o,H b=some o→H' b=some o
theorem Same.refl (H:Hp):Same H H:=fun _ _ h=>h
theorem Same.trans {H H1 H2:Hp}(a:Same H H1)(b:Same H1 H2):Same H H2:=fun c o h=>b c o (a c o h)
theorem Same.free {H H':Hp}(e:Same H H'){l:Addr}(h:H' l=Option.none):H l=Option.none:=by
 cases q:H l with
 | none=>rfl
 | some o =>
  rw[e l o q]at h
  cases h
theorem Same.seq {K:PySem.W.Frag}{H H':Hp}{a:Addr}{xs:List V}(e:Same H H')(h:SqL K H a xs):SqL K H' a xs:=by
 rcases h with (h | ⟨o,h⟩) | h
 ·exact .inl (.inl (e _ _ h))
 ·exact .inl (.inr ⟨o,e _ _ h⟩)
 ·exact .inr h
end L2
end
noncomputable section
namespace FF
abbrev St:=L2.St
end FF
namespace FF
open PySem
open AutoSeq1 (wpAny_loadPart')
theorem fY:fillsNumberSlot (.type "tuple") "mul"=pure false :=
 fillsNumberSlot_seq (id := "tuple.__mul__") (r:=some (.builtin "tuple.__rmul__")) F.slot_tuple_mul.lookup (by decide +kernel) F.slot_tuple_rmul.lookup (by decide +kernel)
theorem kq:seqRepeat? (.type "tuple")=pure (some (.builtin "tuple.__mul__")):=by
 unfold seqRepeat?
 rw[seqSlot_of (T := "tuple") (name := "__mul__") (id := "tuple.__mul__") F.slot_tuple_mul.lookup (by decide +kernel),seqSlot_of (T := "tuple") (name := "__rmul__") (id := "tuple.__rmul__") F.slot_tuple_rmul.lookup (by decide +kernel)]
 rfl
theorem ii (a:Int)(t:Tok)(l:Addr)(items:Array Value)(n:Nat)(dd:Option Addr)(sl:Array (Option Value)) :
  Meets (Builtin.«int.__rmul__» ⟨[.int a t,.ref l],[]⟩) (fun _ R s=>s.heap.get? l=some { cls:=.type "tuple",dict:=dd,data:=.seq items n,slots:=sl }∧R (.ok (.ret Value.notImplemented)) s) :=
 .of_wp fun prog w A R s h=>by obtain⟨hp,g,d,tk,os⟩:=s;obtain⟨hl,h⟩:=h;wp_walk;exact⟨_,rfl,h⟩
theorem ji (l:Addr)(items:Array Value)(n:Nat)(k:Int)(t:Tok)(dd:Option Addr)(sl:Array (Option Value))(h0:2≤k)(h1:k < 1000000)(hsz:items.size*k.toNat≤sizeLine)(hne:items.isEmpty=false) :
  Meets (Builtin.«tuple.__mul__» ⟨[.ref l,.int k t],[]⟩) (fun _ R s=>s.heap.get? l=some { cls:=.type "tuple",dict:=dd,data:=.seq items n,slots:=sl } ∧
   R (.ok (.ret (.ref s.heap.objs.size))) { s with heap:=s.heap.push { cls:=.type "tuple",data:=.seq (List.foldl (fun x1 x2=>x1++x2) #[] (List.replicate k.toNat items)) } }) :=
 .of_wp fun prog w A R s h=>by
  obtain⟨hp,g,d,tk,os⟩:=s;obtain⟨hl,h⟩:=h
  have f1:=AutoSeq1.idx_int
  have f2:=AutoSeq1.sub_tuple_tuple
  have c0:¬ (decide (k < -2^63)||decide (k≥2^63))=true:=by
   simp only[Bool.or_eq_true,decide_eq_true_eq];omega
  have c1:¬ (items.isEmpty||k==1)=true:=by
   rw[hne,Bool.false_or,beq_iff_eq];omega
  have c2:¬ (decide (k≤0)||items.isEmpty)=true:=by
   rw[hne,Bool.or_false,decide_eq_true_eq];omega
  have hs:sizeLine=16777216:=sizeLine_eq
  have hk:(items.size:Int)*k=((items.size*k.toNat:Nat):Int):=by
   rw[Int.natCast_mul,Int.toNat_of_nonneg (by omega)]
  have c3:¬ ((items.size:Int)*k > (2^63 - 1)/8):=by
   rw[hk];omega
  have c4:¬ Builtin.Tuple.tupleTooMany ((items.size:Int)*k)=true:=by
   rw[hk]
   unfold Builtin.Tuple.tupleTooMany
   simp only[decide_eq_true_eq]
   omega
  have hlen:(List.foldl (fun x1 x2=>x1++x2) #[] (List.replicate k.toNat items)).size≤sizeLine:=by
   have:∀ (m:Nat) (acc:Array Value),(List.foldl (fun x1 x2=>x1++x2) acc (List.replicate m items)).size=acc.size+m*items.size:=by
    intro m
    induction m with
    | zero=>intro acc;simp
    | succ m ih=>intro acc;rw[List.replicate_succ,List.foldl_cons,ih,Array.size_append,Nat.succ_mul];omega
   rw[this,Nat.mul_comm];simpa using hsz
  unfold Builtin.«tuple.__mul__»
  wp_walk using wpAny_loadPart' hl
  rw[if_neg c0]
  wp_walk using wpAny_loadPart' hl
  rw[if_neg c1]
  try wp_walk using wpAny_loadPart' hl
  rw[if_neg c2]
  try wp_walk using wpAny_loadPart' hl
  rw[if_neg c3]
  try wp_walk using wpAny_loadPart' hl
  rw[if_neg c4]
  try wp_walk using wpAny_loadPart' hl
  rw[if_neg (Nat.not_lt.mpr hlen)]
  try wp_walk using wpAny_loadPart' hl
  exact⟨_,rfl,h⟩
theorem jk (l:Addr)(items:Array Value)(n:Nat)(t:Tok)(dd:Option Addr)(sl:Array (Option Value)) :
  Meets (Builtin.«tuple.__mul__» ⟨[.ref l,.int 1 t],[]⟩) (fun _ R s=>s.heap.get? l=some { cls:=.type "tuple",dict:=dd,data:=.seq items n,slots:=sl }∧R (.ok (.ret (.ref l))) s) :=
 .of_wp fun prog w A R s h=>by
  obtain⟨hp,g,d,tk,os⟩:=s;obtain⟨hl,h⟩:=h
  have f1:=AutoSeq1.idx_int
  have f2:=AutoSeq1.sub_tuple_tuple
  have c1:(items.isEmpty||(1:Int)==1)=true:=by simp
  unfold Builtin.«tuple.__mul__»
  wp_walk using wpAny_loadPart' hl
  exact⟨_,rfl,h⟩
theorem jl (l:Addr)(n:Nat)(k:Int)(t:Tok)(dd:Option Addr)(sl:Array (Option Value))(h0:0≤k)(h1:k < 1000000) :
  Meets (Builtin.«tuple.__mul__» ⟨[.ref l,.int k t],[]⟩) (fun _ R s=>s.heap.get? l=some { cls:=.type "tuple",dict:=dd,data:=.seq #[] n,slots:=sl }∧R (.ok (.ret (.ref l))) s) :=
 .of_wp fun prog w A R s h=>by
  obtain⟨hp,g,d,tk,os⟩:=s;obtain⟨hl,h⟩:=h
  have f1:=AutoSeq1.idx_int
  have f2:=AutoSeq1.sub_tuple_tuple
  have c0:¬ (decide (k < -2^63)||decide (k≥2^63))=true:=by
   simp only[Bool.or_eq_true,decide_eq_true_eq];omega
  have c1:((#[]:Array Value).isEmpty||k==1)=true:=by simp
  unfold Builtin.«tuple.__mul__»
  wp_walk using wpAny_loadPart' hl
  rw[if_neg c0]
  wp_walk using wpAny_loadPart' hl
  exact⟨_,rfl,h⟩
theorem ij (l:Addr)(items:Array Value)(n:Nat)(t:Tok)(dd:Option Addr)(sl:Array (Option Value))(hne:items.isEmpty=false) :
  Meets (Builtin.«tuple.__mul__» ⟨[.ref l,.int 0 t],[]⟩) (fun _ R s=>s.heap.get? l=some { cls:=.type "tuple",dict:=dd,data:=.seq items n,slots:=sl } ∧
   R (.ok (.ret (.ref s.heap.objs.size))) { s with heap:=s.heap.push { cls:=.type "tuple",data:=.seq #[] } }) :=
 .of_wp fun prog w A R s h=>by
  obtain⟨hp,g,d,tk,os⟩:=s;obtain⟨hl,h⟩:=h
  have f1:=AutoSeq1.idx_int
  have f2:=AutoSeq1.sub_tuple_tuple
  have c1:¬ (items.isEmpty||(0:Int)==1)=true:=by rw[hne];decide
  have c2:(decide ((0:Int)≤0)||items.isEmpty)=true:=by simp
  unfold Builtin.«tuple.__mul__»
  wp_walk using wpAny_loadPart' hl
  exact⟨_,rfl,h⟩
end FF
namespace FF
open PySem
theorem dB (env:Env):∀ (names:List (Str×NameKind)) (acc:List (Str×Addr)),(∀ y∈names,y.2=.free→∃ c,env.cells.lookup y.1=some c)→(∀ n c,acc.lookup n=some c→env.cells.lookup n=some c) →
  ∃ cl,(forIn names acc fun (x:Str×NameKind) (cs:List (Str×Addr))=>(do
    if x.2==.free then let a ← cellOf env x.1;pure (ForInStep.yield ((x.1,a)::cs)) else pure (ForInStep.yield cs):Sem (ForInStep (List (Str×Addr)))))=pure cl ∧
   (∀ n c,cl.lookup n=some c→env.cells.lookup n=some c)∧(∀ n c,acc.lookup n=some c→∃ c',cl.lookup n=some c')∧(∀ y∈names,y.2=.free→∃ c,cl.lookup y.1=some c)
 | [],acc,_,h=>⟨acc,rfl,h,fun n c e=>⟨c,e⟩,fun _ z=>nomatch z⟩
 | (n,k)::r,acc,hf,h=>by
  by_cases hk:k=.free
  ·subst hk
   obtain⟨c,hc⟩:=hf (n,.free) List.mem_cons_self rfl
   have h':∀ m d,List.lookup m ((n,c)::acc)=some d→env.cells.lookup m=some d:=fun m d e=>by
    by_cases q:(m==n)=true
    ·have q':m=n:=eq_of_beq q
     simp only[List.lookup,q]at e
     cases e
     rw[q'];exact hc
    ·have q':(m==n)=false:=by simpa using q
     simp only[List.lookup,q']at e
     exact h m d e
   obtain⟨cl,e1,e2,e3,e4⟩:=dB env r ((n,c)::acc) (fun y hy=>hf y (List.mem_cons_of_mem _ hy)) h'
   have self:List.lookup n ((n,c)::acc)=some c:=by simp[List.lookup]
   refine⟨cl,?_,e2,fun m d e=>?_,fun y hy hy2=>?_⟩
   ·rw[List.forIn_cons]
    have:cellOf env n=pure c:=by unfold cellOf;rw[hc]
    simp only[beq_self_eq_true,if_true,this]
    exact e1
   ·by_cases q:(m==n)=true
    ·have q':m=n:=eq_of_beq q
     rw[q'];exact e3 n c self
    ·have q':(m==n)=false:=by simpa using q
     exact e3 m d (by simp only[List.lookup,q'];exact e)
   ·rcases List.mem_cons.mp hy with z | z
    ·subst z;exact e3 n c self
    ·exact e4 y z hy2
  ·have hb:(k==NameKind.free)=false:=by simpa using hk
   obtain⟨cl,e1,e2,e3,e4⟩:=dB env r acc (fun y hy=>hf y (List.mem_cons_of_mem _ hy)) h
   refine⟨cl,?_,e2,e3,fun y hy hy2=>?_⟩
   ·rw[List.forIn_cons]
    simp only[hb,Bool.false_eq_true,if_false]
    exact e1
   ·rcases List.mem_cons.mp hy with z | z
    ·subst z;exact absurd hy2 hk
    ·exact e4 y z hy2
theorem ik (scope:Scope)(env:Env)(h:∀ y∈scope.names,y.2=.free→∃ c,env.cells.lookup y.1=some c) :
  ∃ cl,closureFor scope env=pure cl∧(∀ n c,cl.lookup n=some c→env.cells.lookup n=some c)∧(∀ y∈scope.names,y.2=.free→∃ c,cl.lookup y.1=some c):=by
 obtain⟨cl,e1,e2,_,e4⟩:=dB env scope.names [] h (fun n c e=>by simp at e)
 refine⟨cl,?_,e2,e4⟩
 exact(congrArg (fun t:Sem (List (Str×Addr))=>t >>= fun s=>pure s) e1).trans rfl
end FF
namespace FF
open PySem
def tests (ifs:List Expr)(env:Env):Sem Bool:=match ifs with
 | []=>pure true
 | c::_=>isTrue c env (eval c env)
theorem n8 {prog:Program}{w:World}{A:Around}{R:Result→Shared→Prop}{s:Shared}{elt target iter:Expr}{ifs:List Expr}{scope:Scope}{pos:Pos}{it acc:Value}{env:Env}(hifs:ifs.length≤1)(W:Nat→Shared→Prop)
  (turn:∀ n s,W n s→wpAny (model prog w) A (pyNext it) (fun r s1=>match r with
   | none=>R (.ok .next) s1
   | some v=>wpAny (model prog w) A (letOwnedTupleGo target it v) (fun _ s2=>wpAny (model prog w) A (assign target env v) (fun _ s3=>wpAny (model prog w) A (tests ifs env) (fun ok s4 =>
     if ok=true then wpAny (model prog w) A (eval elt env) (fun x s5=>wpAny (model prog w) A (call (.builtin "list.append") [acc,x]) (fun _ s6=>∃ m,m < n∧W m s6) (fun _ _=>False) s5) (fun _ _=>False) s4
     else ∃ m,m < n∧W m s4) (fun _ _=>False) s3) (fun _ _=>False) s2) (fun _ _=>False) s1) (fun _ _=>False) s)
  (n:Nat) (h:W n s):codeAny (model prog w) A (.compLoop (.ListComp elt [⟨target,iter,ifs,0⟩] scope pos) 0 it acc env) R s:=by
 have weak:∀ {α:Type} {t:Sem α} {Q Q':α→Shared→Prop} {E:Value→Shared→Prop} {s:Shared},wpAny (model prog w) A t Q (fun _ _=>False) s→(∀ a s,Q a s→Q' a s)→wpAny (model prog w) A t Q' E s :=
  fun h k=>wpAny_mono h k fun _ _ z=>z.elim
 refine codeAny_loop rfl W (fun n s hW=>?_) n h
 show wpAny _ A ((compTurn (.ListComp elt [⟨target,iter,ifs,0⟩] scope pos) 0 it acc env).onRaise (fun x=>do noteFrame x env;theTreesLotGoes x)) _ _ s
 refine wpAny_noted ?_
 rw[compTurn_list]
 refine wpAny_bind (wpAny_standAt (wpAny_bind (weak (turn n s hW) fun r s1 h1=>?_)))
 cases r with
 | none=>exact wpAny_pure h1
 | some v =>
  refine wpAny_bind (weak h1 fun _ s2 h2=>wpAny_bind (weak h2 fun _ s3 h3=>wpAny_bind ?_))
  have fin:∀ ok s4,(if ok=true then wpAny (model prog w) A (eval elt env) (fun x s5=>wpAny (model prog w) A (call (.builtin "list.append") [acc,x]) (fun _ s6=>∃ m,m < n∧W m s6) (fun _ _=>False) s5) (fun _ _=>False) s4
     else ∃ m,m < n∧W m s4)→wpAny (model prog w) A (if ok=true then ((do let _ ← call (.builtin "list.append") [acc,← eval elt env];pure ()) >>= fun _=>again (.compLoop (.ListComp elt [⟨target,iter,ifs,0⟩] scope pos) 0 it acc env)) else again (.compLoop (.ListComp elt [⟨target,iter,ifs,0⟩] scope pos) 0 it acc env))
      (fun fin s'=>match fin with | .done f=>R (.ok f) s' | .again c'=>c'=(.compLoop (.ListComp elt [⟨target,iter,ifs,0⟩] scope pos) 0 it acc env)∧∃ m,m < n∧W m s') (notedBy (model prog w) A env fun e s'=>R (.error e) s') s4:=by
   intro ok s4 h4
   cases ok with
   | true=>exact wpAny_bind (wpAny_bind (weak h4 fun x s5 h5=>wpAny_bind (weak h5 fun _ s6 h6=>wpAny_pure (wpAny_pure ⟨rfl,h6⟩))))
   | false=>exact wpAny_pure ⟨rfl,h4⟩
  match ifs,hifs,h3,fin with
  | [],_,h3,fin =>
   refine wpAny_tests_nil ?_
   exact wpAny_bind (m:=(pure true:Sem Bool)) (weak h3 fin)
  | [c],_,h3,fin =>
   refine wpAny_tests_one ?_
   exact weak h3 fin
end FF
namespace FF
open PySem PyProof.Rows
open AutoSeq1 (wpAny_loadPart')
theorem n9 (l b:Addr)(items items2:Array Value)(n n2:Nat)(dd dd2:Option Addr)(sl sl2:Array (Option Value))(hsz:items.size+items2.size≤sizeLine) :
  Meets (Builtin.«list.__add__» ⟨[.ref l,.ref b],[]⟩) (fun _ R s=>s.heap.get? l=some { cls:=.type "list",dict:=dd,data:=.seq items n,slots:=sl }∧s.heap.get? b=some { cls:=.type "list",dict:=dd2,data:=.seq items2 n2,slots:=sl2 } ∧
   R (.ok (.ret (.ref s.heap.objs.size))) { s with heap:=s.heap.push { cls:=.type "list",data:=.seq (items++items2) } }) :=
 .of_wp fun prog w A R s h=>by
  obtain⟨hp,g,d,tk,os⟩:=s;obtain⟨hl,hb,h⟩:=h
  have f1:=AutoSeq1.idx_int;have f2:=AutoSeq1.sub_tuple_tuple;have f3:=AutoSeq1.sub_list_list;have f4:=AutoSeq1.sub_tuple_list;have f5:=AutoSeq1.sub_list_tuple
  have hl0:¬ Builtin.List.listTooLong (items.size+items2.size)=true:=by rw[L2.notLongL hsz];exact Bool.false_ne_true
  have hz:(items++items2).size≤sizeLine:=by rw[Array.size_append];exact hsz
  wp_walk using wpAny_loadPart' hl,wpAny_loadPart' hb
  all_goals first | exact⟨_,rfl,h⟩ | trace_state
theorem oa (l:Addr)(items:Array Value)(n:Nat)(k:Int)(t:Tok)(dd:Option Addr)(sl:Array (Option Value))(h0 : -(2^63)≤k)(h1:k < 2^63)(hsz:items.size*k.toNat≤sizeLine) :
  Meets (Builtin.«list.__mul__» ⟨[.ref l,.int k t],[]⟩) (fun _ R s=>s.heap.get? l=some { cls:=.type "list",dict:=dd,data:=.seq items n,slots:=sl } ∧
   R (.ok (.ret (.ref s.heap.objs.size))) { s with heap:=s.heap.push { cls:=.type "list",data:=.seq (List.foldl (fun x1 x2=>x1++x2) #[] (List.replicate (if items.isEmpty=true then 0 else k.toNat) items)) } }) :=
 .of_wp fun prog w A R s h=>by
  obtain⟨hp,g,d,tk,os⟩:=s;obtain⟨hl,h⟩:=h
  have f1:=AutoSeq1.idx_int;have f2:=AutoSeq1.sub_tuple_tuple;have f3:=AutoSeq1.sub_list_list
  have hs:=sizeLine_eq
  have c1:¬ items.size*k.toNat > (2^63 - 1)/8:=by omega
  have c2:¬ (!Builtin.List.listFitsIndex k)=true:=by rw[fitsIndex_both h0 h1];exact Bool.false_ne_true
  have c3:¬ Builtin.List.listTooLong (items.size*k.toNat)=true:=by rw[L2.notLongL hsz];exact Bool.false_ne_true
  have hz:=AutoListH.joined_fits c3
  wp_walk using wpAny_loadPart' hl
  rw[if_neg (Nat.not_lt.mpr hz)]
  wp_walk
  exact⟨_,rfl,h⟩
theorem jm (a:Int)(t:Tok)(l:Addr)(items:Array Value)(n:Nat)(dd:Option Addr)(sl:Array (Option Value)) :
  Meets (Builtin.«int.__rmul__» ⟨[.int a t,.ref l],[]⟩) (fun _ R s=>s.heap.get? l=some { cls:=.type "list",dict:=dd,data:=.seq items n,slots:=sl }∧R (.ok (.ret Value.notImplemented)) s) :=
 .of_wp fun prog w A R s h=>by obtain⟨hp,g,d,tk,os⟩:=s;obtain⟨hl,h⟩:=h;wp_walk;exact⟨_,rfl,h⟩
theorem og (l b:Addr)(items items2:Array Value)(n n2:Nat)(dd2:Option Addr)(sl2:Array (Option Value))(hsz:items.size+items2.size≤sizeLine) :
  Meets (Builtin.«list.extend» ⟨[.ref l,.ref b],[]⟩) (fun _ R s=>s.heap.get? l=some { cls:=.type "list",data:=.seq items n }∧s.heap.get? b=some { cls:=.type "list",dict:=dd2,data:=.seq items2 n2,slots:=sl2 } ∧
   R (.ok (.ret .none)) { s with heap:=s.heap.update l (Obj.mapSeq fun x=>x++items2) }) :=
 .of_wp fun prog w A R s h=>by
  obtain⟨hp,g,d,tk,os⟩:=s;obtain⟨hl,hb,h⟩:=h
  have f1:=AutoSeq1.idx_int;have f2:=AutoSeq1.sub_tuple_tuple;have f3:=AutoSeq1.sub_list_list;have f4:=AutoSeq1.sub_tuple_list;have f5:=AutoSeq1.sub_list_tuple
  have hc0:¬(!items.isEmpty&&Builtin.List.listTooLong (items.size+items2.size))=true:=by rw[L2.notLongL hsz,Bool.and_false];exact Bool.false_ne_true
  have hc1:items.size≤sizeLine:=by omega
  have hs2:items.size+items2.size≤sizeLine+1:=by omega
  have hz':(items++items2).size≤sizeLine+1:=by rw[Array.size_append];omega
  wp_walk using (wpAny_updateSeq hl rfl (hz:=hc1) (_hz':=hz')),wpAny_loadPart' hl,wpAny_loadPart' hb
  exact⟨_,rfl,h⟩
theorem oh (l b:Addr)(items items2:Array Value)(n n2:Nat)(dd2:Option Addr)(sl2:Array (Option Value))(hsz:items.size+items2.size≤sizeLine) :
  Meets (Builtin.«list.extend» ⟨[.ref l,.ref b],[]⟩) (fun _ R s=>s.heap.get? l=some { cls:=.type "list",data:=.seq items n }∧s.heap.get? b=some { cls:=.type "tuple",dict:=dd2,data:=.seq items2 n2,slots:=sl2 } ∧
   R (.ok (.ret .none)) { s with heap:=s.heap.update l (Obj.mapSeq fun x=>x++items2) }) :=
 .of_wp fun prog w A R s h=>by
  obtain⟨hp,g,d,tk,os⟩:=s;obtain⟨hl,hb,h⟩:=h
  have f1:=AutoSeq1.idx_int;have f2:=AutoSeq1.sub_tuple_tuple;have f3:=AutoSeq1.sub_list_list;have f4:=AutoSeq1.sub_tuple_list;have f5:=AutoSeq1.sub_list_tuple
  have hc0:¬(!items.isEmpty&&Builtin.List.listTooLong (items.size+items2.size))=true:=by rw[L2.notLongL hsz,Bool.and_false];exact Bool.false_ne_true
  have hc1:items.size≤sizeLine:=by omega
  have hs2:items.size+items2.size≤sizeLine+1:=by omega
  have hz':(items++items2).size≤sizeLine+1:=by rw[Array.size_append];omega
  wp_walk using (wpAny_updateSeq hl rfl (hz:=hc1) (_hz':=hz')),wpAny_loadPart' hl,wpAny_loadPart' hb
  exact⟨_,rfl,h⟩
end FF
end
noncomputable section
namespace FF
open PySem PySem.Spec PyProof.Rows L2
inductive D where
 | non | bl (b:Bool) | int (i:Int) | str (x:Str) | tup (xs:List D) | lst (xs:List D) | exc (k:Nat) | fn (k:Nat)
inductive R (α:Type) where
 | ok (a:α) | err (k:Nat) | stuck
def R.bind {α β:Type}(r:R α)(f:α→R β):R β:=match r with
 | .ok a=>f a
 | .err k=>.err k
 | .stuck=>.stuck
@[simp] theorem R.bind_ok {α β:Type}(a:α)(f:α→R β):(R.ok a).bind f=f a:=rfl
@[simp] theorem R.bind_err {α β:Type}(k:Nat)(f:α→R β):(R.err k:R α).bind f=.err k:=rfl
@[simp] theorem R.bind_stuck {α β:Type}(f:α→R β):(R.stuck:R α).bind f=.stuck:=rfl
def excO (C:Nat→Addr)(k:Nat)(a:Addr):HO :=
 .ext fun h=>∃ o,h.get? a=some o∧o.cls=.ref (C k)∧∃ vs,o.data=.fields vs
mutual
def Rep (K:PySem.W.Frag)(C:Nat→Addr)(Z:Hp):D→V→Prop
 | .non,v=>v=.non
 | .bl b,v=>v=.bl b
 | .int i,v=>v=.int i
 | .str x,v=>v=.str x
 | .tup ds,v=>∃ a vs,v=.ref a∧SqT K Z a vs∧Reps K C Z ds vs
 | .lst ds,v=>∃ a vs,v=.ref a∧SqL K Z a vs∧Reps K C Z ds vs
 | .exc k,v=>∃ a,v=.ref a∧Z a=some (excO C k a)
 | .fn k,v=>v=.ref (C k)
def Reps (K:PySem.W.Frag)(C:Nat→Addr)(Z:Hp):List D→List V→Prop
 | [],vs=>vs=[]
 | d::ds,vs=>∃ v r,vs=v::r∧Rep K C Z d v∧Reps K C Z ds r
end
theorem _root_.L2.SqT.mono {K:PySem.W.Frag}{Z Z':Hp}{a:Addr}{xs:List V}(e:Same Z Z')(h:SqT K Z a xs):SqT K Z' a xs:=by
 rcases h with (h | ⟨o,h⟩) | h
 ·exact .inl (.inl (e _ _ h))
 ·exact .inl (.inr ⟨o,e _ _ h⟩)
 ·exact .inr h
section
variable {K:PySem.W.Frag}{C:Nat→Addr}{Z Z':Hp}
mutual
theorem Rep.mono (e:Same Z Z'):∀ (d:D) (v:V),Rep K C Z d v→Rep K C Z' d v
 | .non,v,h=>by rw[Rep]at h ⊢;exact h
 | .bl b,v,h=>by rw[Rep]at h ⊢;exact h
 | .int i,v,h=>by rw[Rep]at h ⊢;exact h
 | .str x,v,h=>by rw[Rep]at h ⊢;exact h
 | .fn k,v,h=>by rw[Rep]at h ⊢;exact h
 | .tup ds,v,h=>by
  rw[Rep]at h ⊢
  obtain⟨a,vs,h1,h2,h3⟩:=h
  exact⟨a,vs,h1,h2.mono e,Reps.mono e ds vs h3⟩
 | .lst ds,v,h=>by
  rw[Rep]at h ⊢
  obtain⟨a,vs,h1,h2,h3⟩:=h
  exact⟨a,vs,h1,e.seq h2,Reps.mono e ds vs h3⟩
 | .exc k,v,h=>by
  rw[Rep]at h ⊢
  obtain⟨a,h1,h2⟩:=h
  exact⟨a,h1,e _ _ h2⟩
theorem Reps.mono (e:Same Z Z'):∀ (ds:List D) (vs:List V),Reps K C Z ds vs→Reps K C Z' ds vs
 | [],vs,h=>by rw[Reps]at h ⊢;exact h
 | d::ds,vs,h=>by
  rw[Reps]at h ⊢
  obtain⟨v,r,h1,h2,h3⟩:=h
  exact⟨v,r,h1,Rep.mono e d v h2,Reps.mono e ds r h3⟩
end
theorem Reps.nil:Reps K C Z [] []:=by rw[Reps]
theorem Reps.cons {d:D}{v:V}{ds:List D}{vs:List V}(h:Rep K C Z d v)(t:Reps K C Z ds vs):Reps K C Z (d::ds) (v::vs):=by
 rw[Reps];exact⟨v,vs,rfl,h,t⟩
theorem Reps.uncons {d:D}{v:V}{ds:List D}{vs:List V}(h:Reps K C Z (d::ds) (v::vs)):Rep K C Z d v∧Reps K C Z ds vs:=by
 rw[Reps]at h
 obtain⟨v',r,e,h1,h2⟩:=h
 cases e
 exact⟨h1,h2⟩
theorem Reps.length:∀ {ds:List D} {vs:List V},Reps K C Z ds vs→ds.length=vs.length
 | [],vs,h=>by rw[Reps]at h;subst h;rfl
 | d::ds,vs,h=>by
  rw[Reps]at h
  obtain⟨v,r,e,_,h2⟩:=h
  subst e
  simp[Reps.length h2]
theorem Reps.get:∀ {ds:List D} {vs:List V} {i:Nat} {d:D},Reps K C Z ds vs→ds[i]?=some d→∃ v,vs[i]?=some v∧Rep K C Z d v
 | [],vs,i,d,h,e=>by simp at e
 | d'::ds,vs,i,d,h,e=>by
  rw[Reps]at h
  obtain⟨v,r,q,h1,h2⟩:=h
  subst q
  cases i with
  | zero=>simp at e;subst e;exact⟨v,rfl,h1⟩
  | succ i =>
   obtain⟨v',e1,h3⟩:=Reps.get (i:=i) h2 (by simpa using e)
   exact⟨v',by simpa using e1,h3⟩
theorem Reps.get':∀ {ds:List D} {vs:List V} {i:Nat} {v:V},Reps K C Z ds vs→vs[i]?=some v→∃ d,ds[i]?=some d∧Rep K C Z d v
 | [],vs,i,v,h,e=>by rw[Reps]at h;subst h;simp at e
 | d'::ds,vs,i,v,h,e=>by
  rw[Reps]at h
  obtain⟨v0,r,q,h1,h2⟩:=h
  subst q
  cases i with
  | zero=>simp at e;subst e;exact⟨d',rfl,h1⟩
  | succ i =>
   obtain⟨d,e1,h3⟩:=Reps.get' (i:=i) h2 (by simpa using e)
   exact⟨d,by simpa using e1,h3⟩
theorem Reps.append:∀ {ds es:List D} {vs us:List V},Reps K C Z ds vs→Reps K C Z es us→Reps K C Z (ds++es) (vs++us)
 | [],es,vs,us,h,h'=>by rw[Reps]at h;subst h;exact h'
 | d::ds,es,vs,us,h,h'=>by
  rw[Reps]at h
  obtain⟨v,r,q,h1,h2⟩:=h
  subst q
  exact Reps.cons h1 (Reps.append h2 h')
theorem Reps.take:∀ {ds:List D} {vs:List V} (n:Nat),Reps K C Z ds vs→Reps K C Z (ds.take n) (vs.take n)
 | [],vs,n,h=>by rw[Reps]at h;subst h;simpa using Reps.nil
 | d::ds,vs,n,h=>by
  rw[Reps]at h
  obtain⟨v,r,q,h1,h2⟩:=h
  subst q
  cases n with
  | zero=>exact Reps.nil
  | succ n=>exact Reps.cons h1 (Reps.take n h2)
theorem Reps.drop:∀ {ds:List D} {vs:List V} (n:Nat),Reps K C Z ds vs→Reps K C Z (ds.drop n) (vs.drop n)
 | [],vs,n,h=>by rw[Reps]at h;subst h;simpa using Reps.nil
 | d::ds,vs,n,h=>by
  rw[Reps]at h
  obtain⟨v,r,q,h1,h2⟩:=h
  subst q
  cases n with
  | zero=>exact Reps.cons h1 h2
  | succ n=>exact Reps.drop n h2
theorem Reps.set:∀ {ds:List D} {vs:List V} (i:Nat) {d:D} {v:V},Reps K C Z ds vs→Rep K C Z d v→Reps K C Z (ds.set i d) (vs.set i v)
 | [],vs,i,d,v,h,_=>by rw[Reps]at h;subst h;simpa using Reps.nil
 | d'::ds,vs,i,d,v,h,hd=>by
  rw[Reps]at h
  obtain⟨v0,r,q,h1,h2⟩:=h
  subst q
  cases i with
  | zero=>exact Reps.cons hd h2
  | succ i=>exact Reps.cons h1 (Reps.set i h2 hd)
end
structure Ex (H Z H' Z':Hp):Prop where
 same:Same H H'
 z:Same Z Z'
 sub:Same Z' H'
 new:∀ b,Z' b≠none→Z b≠none∨H b=none
theorem Ex.refl {H Z:Hp}(s:Same Z H):Ex H Z H Z:=⟨Same.refl _,Same.refl _,s,fun _ h=>.inl h⟩
theorem Ex.trans {H Z H1 Z1 H2 Z2:Hp}(a:Ex H Z H1 Z1)(b:Ex H1 Z1 H2 Z2):Ex H Z H2 Z2 :=
 ⟨a.same.trans b.same,a.z.trans b.z,b.sub,fun c h=>(b.new c h).elim (fun h1=>a.new c h1) fun h1=>.inr (a.same.free h1)⟩
theorem aD {H:Hp}{p:Addr}{o:HO}(h:H p=none):Same H (upd H p o):=fun b u e=>by
 rw[al (bG e h)];exact e
theorem Ex.alloc {H Z:Hp}{p:Addr}{o:HO}(s:Same Z H)(h:H p=none):Ex H Z (upd H p o) (upd Z p o):=by
 have hz:Z p=none:=s.free h
 refine⟨aD h,aD hz,fun b u e=>?_,fun b hb=>?_⟩
 ·by_cases q:b=p
  ·subst q;rw[ap]at e ⊢;exact e
  ·rw[al q]at e ⊢;exact s b u e
 ·by_cases q:b=p
  ·subst q;exact .inr h
  ·rw[al q]at hb;exact .inl hb
theorem Ex.hidden {H Z:Hp}{p:Addr}{o:HO}(s:Same Z H)(h:H p=none):Ex H Z (upd H p o) Z :=
 ⟨aD h,Same.refl _,s.trans (aD h),fun _ hb=>.inl hb⟩
inductive Sl where
 | val (d:D) | own (ds:List D) | mat (m:List (List D))
abbrev SS:=List (Option Sl)
structure Fx where
 K:PySem.W.Frag
 C:Nat→Addr
 H0:Hp
 Z0:Hp
 E:XK
def Rows (F:Fx)(H Z:Hp):List (List D)→List Addr→Prop
 | [],[]=>True
 | ds::m,r::rs=>(∃ vs,H r=some (.lst vs)∧Reps F.K F.C Z ds vs)∧Rows F H Z m rs
 | _,_=>False
def Ow (F:Fx)(H Z:Hp):Sl→V→List Addr→Prop
 | .val d,v,A=>A=[]∧Rep F.K F.C Z d v
 | .own ds,v,A=>∃ a vs,v=.ref a∧A=[a]∧H a=some (.lst vs)∧Reps F.K F.C Z ds vs
 | .mat m,v,A=>∃ a rs,v=.ref a∧A=a::rs∧H a=some (.lst (rs.map V.ref))∧Rows F H Z m rs
structure Priv (F:Fx)(Z:Hp)(A:List Addr):Prop where
 nd:A.Nodup
 z:∀ a∈A,Z a=none
 h0:∀ a∈A,F.H0 a=none
structure StOk (F:Fx)(H Z:Hp)(S:SS)(σ:St):Prop where
 ex:Ex F.H0 F.Z0 H Z
 len:S.length=σ.length
 sl:∀ (i:Nat) (x:Sl),S[i]?=some (some x)→∃ v A,σ[i]?=some (some v)∧Ow F H Z x v A∧Priv F Z A
 dj:∀ (i j:Nat) (x y:Sl) (v w:V) (A B:List Addr),i≠j→S[i]?=some (some x)→S[j]?=some (some y)→σ[i]?=some (some v)→σ[j]?=some (some w)→Ow F H Z x v A→Ow F H Z y w B→∀ a∈A,a∉B
section
variable {F:Fx}{H Z H' Z':Hp}{S:SS}{σ:St}{x:Sl}{v:V}{A B:List Addr}
theorem Rows.mono (hz:Same Z Z'):∀ {m:List (List D)} {rs:List Addr},Rows F H Z m rs→(∀ a∈rs,∀ o,H a=some o→H' a=some o)→Rows F H' Z' m rs
 | [],[],_,_=>trivial
 | ds::m,r::rs,h,k=>by
  obtain⟨⟨vs,e,q⟩,h⟩:=h
  exact⟨⟨vs,k r (.head _) _ e,q.mono hz⟩,Rows.mono hz h fun a ha=>k a (.tail _ ha)⟩
 | [],_::_,h,_=>h.elim
 | _::_,[],h,_=>h.elim
theorem Rows.there:∀ {m:List (List D)} {rs:List Addr},Rows F H Z m rs→∀ a∈rs,∃ o,H a=some o
 | [],[],_,a,ha=>nomatch ha
 | ds::m,r::rs,h,a,ha=>by
  obtain⟨⟨vs,e,q⟩,h⟩:=h
  rcases List.mem_cons.mp ha with rfl | ha
  ·exact⟨_,e⟩
  ·exact Rows.there h a ha
 | [],_::_,h,_,_=>h.elim
 | _::_,[],h,_,_=>h.elim
theorem Rows.len:∀ {m:List (List D)} {rs:List Addr},Rows F H Z m rs→rs.length=m.length
 | [],[],_=>rfl
 | ds::m,r::rs,h=>by rw[List.length_cons,List.length_cons,Rows.len h.2]
 | [],_::_,h=>h.elim
 | _::_,[],h=>h.elim
theorem kX:∀ {rs qs:List Addr},rs.map V.ref=qs.map V.ref→rs=qs
 | [],[],_=>rfl
 | r::rs,q::qs,h=>by
  rw[List.map_cons,List.map_cons]at h
  injection h with h1 h2
  injection h1 with h1
  rw[h1,kX h2]
 | [],_::_,h=>nomatch h
 | _::_,[],h=>nomatch h
theorem Ow.mono (hz:Same Z Z')(h:Ow F H Z x v A)(hs:∀ a∈A,∀ o,H a=some o→H' a=some o):Ow F H' Z' x v A:=by
 cases x with
 | val d=>exact⟨h.1,h.2.mono hz⟩
 | own ds =>
  obtain⟨a,vs,e1,e2,e3,r⟩:=h
  exact⟨a,vs,e1,e2,hs a (by rw[e2];exact .head _) _ e3,r.mono hz⟩
 | mat m =>
  obtain⟨a,rs,e1,e2,e3,r⟩:=h
  exact⟨a,rs,e1,e2,hs a (by rw[e2];exact .head _) _ e3,r.mono hz fun b hb=>hs b (by rw[e2];exact .tail _ hb)⟩
theorem Ow.det (h:Ow F H Z x v A)(h':Ow F H Z x v B):A=B:=by
 cases x with
 | val d=>rw[h.1,h'.1]
 | own ds =>
  obtain⟨a,vs,e1,e2,_⟩:=h
  obtain⟨b,us,f1,f2,_⟩:=h'
  rw[e1]at f1;cases f1
  rw[e2,f2]
 | mat m =>
  obtain⟨a,rs,e1,e2,e3,_⟩:=h
  obtain⟨b,qs,f1,f2,f3,_⟩:=h'
  rw[e1]at f1;cases f1
  rw[e3]at f3
  injection f3 with f3
  injection f3 with f3
  rw[e2,f2,kX f3]
theorem Ow.there (h:Ow F H Z x v A):∀ a∈A,∃ o,H a=some o:=fun a ha=>by
 cases x with
 | val d=>rw[h.1]at ha;cases ha
 | own ds =>
  obtain⟨b,vs,e1,e2,e3,r⟩:=h
  rw[e2]at ha
  cases List.mem_singleton.mp ha
  exact⟨_,e3⟩
 | mat m =>
  obtain⟨b,rs,e1,e2,e3,r⟩:=h
  rw[e2]at ha
  rcases List.mem_cons.mp ha with rfl | ha
  ·exact⟨_,e3⟩
  ·exact r.there a ha
theorem StOk.sub (h:StOk F H Z S σ):Same Z H:=h.ex.sub
theorem StOk.more (h:StOk F H Z S σ)(x:Ex H Z H' Z'):StOk F H' Z' S σ:=by
 have up:∀ {y:Sl} {v:V} {A:List Addr},Ow F H Z y v A→Ow F H' Z' y v A:=fun o=>o.mono x.z fun a _ o e=>x.same _ _ e
 refine⟨h.ex.trans x,h.len,fun i y e=>?_,fun i j y z v w A B hij e1 e2 e3 e4 o1 o2=>?_⟩
 ·obtain⟨v,A,e1,o,p⟩:=h.sl i y e
  refine⟨v,A,e1,up o,p.nd,fun a ha=>?_,p.h0⟩
  cases q:Z' a with
  | none=>rfl
  | some u =>
   obtain⟨w,hw⟩:=o.there a ha
   rcases x.new a (by rw[q];simp) with z | z
   ·exact absurd (p.z a ha) z
   ·rw[hw]at z;cases z
 ·obtain⟨v',A',f1,q1,_⟩:=h.sl i y e1
  obtain⟨w',B',f2,q2,_⟩:=h.sl j z e2
  rw[e3]at f1;cases f1
  rw[e4]at f2;cases f2
  rw[o1.det (up q1),o2.det (up q2)]
  exact h.dj i j y z v w A' B' hij e1 e2 e3 e4 q1 q2
theorem StOk.val (h:StOk F H Z S σ)(i:Nat)(d:D)(e:S[i]?=some (some (.val d))):∃ v,σ[i]?=some (some v)∧Rep F.K F.C Z d v:=by
 obtain⟨v,A,e1,o,_⟩:=h.sl i _ e
 exact⟨v,e1,o.2⟩
theorem StOk.own (h:StOk F H Z S σ)(i:Nat)(ds:List D)(e:S[i]?=some (some (.own ds))):∃ a vs,σ[i]?=some (some (.ref a))∧H a=some (.lst vs)∧Z a=none∧F.H0 a=none∧Reps F.K F.C Z ds vs:=by
 obtain⟨v,A,e1,⟨a,vs,rfl,rfl,q,r⟩,p⟩:=h.sl i _ e
 exact⟨a,vs,e1,q,p.z a (.head _),p.h0 a (.head _),r⟩
theorem StOk.put (h:StOk F H Z S σ){i:Nat}(o:Ow F H Z x v A)(p:Priv F Z A)(hn:∀ (j:Nat) (y:Sl) (w:V) (B:List Addr),j≠i→S[j]?=some (some y)→σ[j]?=some (some w)→Ow F H Z y w B→∀ a∈A,a∉B) :
  StOk F H Z (S.set i (some x)) (σ.set i (some v)):=by
 have self:∀ {y:Option Sl},(S.set i (some x))[i]?=some y→y=some x∧i < S.length:=fun {y} e=>by
  by_cases hl:i < S.length
  ·rw[List.getElem?_set_self hl]at e;cases e;exact⟨rfl,hl⟩
  ·rw[List.getElem?_eq_none (by simpa using hl)]at e;cases e
 refine⟨h.ex,by simp[h.len],fun j y e=>?_,fun j k y z w u A' B' hjk e1 e2 e3 e4 o1 o2=>?_⟩
 ·by_cases q:i=j
  ·subst q
   obtain⟨z,hl⟩:=self e
   cases z
   exact⟨v,A,by rw[List.getElem?_set_self (by rw[← h.len];exact hl)],o,p⟩
  ·rw[List.getElem?_set_ne q]at e ⊢
   exact h.sl j y e
 ·by_cases q:i=j
  ·have q2:i≠k:=fun z=>hjk (q ▸ z)
   subst q
   obtain⟨z,hl⟩:=self e1
   cases z
   rw[List.getElem?_set_self (by rw[← h.len];exact hl)]at e3
   cases e3
   rw[List.getElem?_set_ne q2]at e2 e4
   rw[o1.det o]
   exact hn k _ _ _ (Ne.symm q2) e2 e4 o2
  ·rw[List.getElem?_set_ne q]at e1 e3
   by_cases q2:i=k
   ·subst q2
    obtain⟨z,hl⟩:=self e2
    cases z
    rw[List.getElem?_set_self (by rw[← h.len];exact hl)]at e4
    cases e4
    rw[o2.det o]
    exact fun a ha hb=>hn j _ _ _ (Ne.symm q) e1 e3 o1 a hb ha
   ·rw[List.getElem?_set_ne q2]at e2 e4
    exact h.dj j k _ _ _ _ _ _ hjk e1 e2 e3 e4 o1 o2
theorem Priv.nil:Priv F Z []:=⟨List.Pairwise.nil,(fun _ h=>nomatch h),(fun _ h=>nomatch h)⟩
theorem StOk.setVal (h:StOk F H Z S σ){i:Nat}{d:D}{v:V}(r:Rep F.K F.C Z d v):StOk F H Z (S.set i (some (.val d))) (σ.set i (some v)) :=
 h.put (x:=.val d) (A:=[]) ⟨rfl,r⟩ Priv.nil fun _ _ _ _ _ _ _ _ _ ha=>nomatch ha
theorem StOk.putNew (h:StOk F H Z S σ){i:Nat}(e:Ex H Z H' Z')(o:Ow F H' Z' x v A)(p:Priv F Z' A)(hn:∀ a∈A,H a=none):StOk F H' Z' (S.set i (some x)) (σ.set i (some v)):=by
 refine(h.more e).put o p fun j y w B hj e1 e2 o2 a ha hb=>?_
 obtain⟨w',B',f1,q,_⟩:=h.sl j y e1
 rw[e2]at f1;cases f1
 rw[o2.det (q.mono e.z fun a _ o e'=>e.same _ _ e')]at hb
 obtain⟨u,hu⟩:=q.there a hb
 rw[hn a ha]at hu;cases hu
theorem StOk.newOwn (h:StOk F H Z S σ){i:Nat}{a:Addr}{ds:List D}{vs:List V}(hp:H a=none)(r:Reps F.K F.C Z ds vs):StOk F (upd H a (.lst vs)) Z (S.set i (some (.own ds))) (σ.set i (some (.ref a))) :=
 h.putNew (x:=.own ds) (A:=[a]) (Ex.hidden h.sub hp) ⟨a,vs,rfl,rfl,ap,r⟩ ⟨by simp,fun b hb=>by cases List.mem_singleton.mp hb;exact h.sub.free hp,fun b hb=>by cases List.mem_singleton.mp hb;exact h.ex.same.free hp⟩ fun b hb=>by cases List.mem_singleton.mp hb;exact hp
theorem StOk.rewr (h:StOk F H Z S σ){i:Nat}{x':Sl}(e:S[i]?=some (some x))(ev:σ[i]?=some (some v))(o:Ow F H Z x v A)(o':Ow F H' Z x' v A)(hH:∀ b,b∉A→H' b=H b):StOk F H' Z (S.set i (some x')) σ:=by
 have hl:i < S.length:=(List.getElem?_eq_some_iff.mp e).1
 obtain⟨v',A',f1,q1,p⟩:=h.sl i x e
 rw[ev]at f1;cases f1
 cases o.det q1
 have up:∀ {j:Nat} {y:Sl} {w:V} {B:List Addr},j≠i→S[j]?=some (some y)→σ[j]?=some (some w)→Ow F H Z y w B→Ow F H' Z y w B:=fun {j y w B} hj e1 e2 q=>q.mono (Same.refl _) fun b hb u eu=>by
  rw[hH b (h.dj j i y x w v B A hj e1 e e2 ev q o b hb)];exact eu
 refine⟨⟨fun b u q=>?_,h.ex.z,fun b u q=>?_,h.ex.new⟩,by simp[h.len],fun j y q=>?_,fun j k y z w u A' B' hjk e1 e2 e3 e4 o1 o2=>?_⟩
 ·rw[hH b fun z=>by rw[p.h0 b z]at q;cases q];exact h.ex.same b u q
 ·rw[hH b fun z=>by rw[p.z b z]at q;cases q];exact h.ex.sub b u q
 ·by_cases z:i=j
  ·subst z
   rw[List.getElem?_set_self hl]at q;cases q
   exact⟨v,A,ev,o',p⟩
  ·rw[List.getElem?_set_ne z]at q
   obtain⟨w,B,g1,g2,g3⟩:=h.sl j y q
   exact⟨w,B,g1,up (Ne.symm z) q g1 g2,g3⟩
 ·have one:∀ {j:Nat} {y:Sl} {w:V} {B:List Addr},(S.set i (some x'))[j]?=some (some y)→σ[j]?=some (some w)→Ow F H' Z y w B→∃ y0,S[j]?=some (some y0)∧Ow F H Z y0 w B:=fun {j y w B} g1 g2 g3=>by
   by_cases z:i=j
   ·subst z
    rw[List.getElem?_set_self hl]at g1;cases g1
    rw[ev]at g2;cases g2
    rw[g3.det o']
    exact⟨x,e,o⟩
   ·rw[List.getElem?_set_ne z]at g1
    obtain⟨w',B',k1,k2,_⟩:=h.sl j y g1
    rw[g2]at k1;cases k1
    rw[g3.det (up (Ne.symm z) g1 g2 k2)]
    exact⟨y,g1,k2⟩
  obtain⟨y0,a1,a2⟩:=one e1 e3 o1
  obtain⟨z0,b1,b2⟩:=one e2 e4 o2
  exact h.dj j k y0 z0 w u A' B' hjk a1 b1 e3 e4 a2 b2
theorem StOk.write (h:StOk F H Z S σ){i:Nat}{ds es:List D}{a:Addr}{us:List V}(e:S[i]?=some (some (.own ds)))(ha:σ[i]?=some (some (.ref a)))(r:Reps F.K F.C Z es us) :
  StOk F (upd H a (.lst us)) Z (S.set i (some (.own es))) σ:=by
 obtain⟨a',vs,e1,e2,e3,e4,r0⟩:=h.own i ds e
 rw[ha]at e1;cases e1
 exact h.rewr (x:=.own ds) (A:=[a]) e ha ⟨a,vs,rfl,rfl,e2,r0⟩ ⟨a,us,rfl,rfl,ap,r⟩ fun b hb=>al fun z=>hb (by rw[z];exact .head _)
theorem StOk.frzAll (h:StOk F H Z S σ){i:Nat}{d:D}(e:S[i]?=some (some x))(ev:σ[i]?=some (some v))(o:Ow F H Z x v A)(hz:Same Z Z')(hsub:Same Z' H)(hnew:∀ b,Z' b≠none→Z b≠none∨b∈A)(r:Rep F.K F.C Z' d v):StOk F H Z' (S.set i (some (.val d))) σ:=by
 have hl:i < S.length:=(List.getElem?_eq_some_iff.mp e).1
 obtain⟨v',A',f1,q1,p⟩:=h.sl i x e
 rw[ev]at f1;cases f1
 cases o.det q1
 have up:∀ {y:Sl} {w:V} {B:List Addr},Ow F H Z y w B→Ow F H Z' y w B:=fun q=>q.mono hz fun _ _ _ e=>e
 refine⟨⟨h.ex.same,h.ex.z.trans hz,hsub,fun b q=>?_⟩,by simp[h.len],fun j y q=>?_,fun j k y z w u A' B' hjk e1 e2 e3 e4 o1 o2=>?_⟩
 ·rcases hnew b q with z | z
  ·exact h.ex.new b z
  ·exact .inr (p.h0 b z)
 ·by_cases z:i=j
  ·subst z
   rw[List.getElem?_set_self hl]at q;cases q
   exact⟨v,[],ev,⟨rfl,r⟩,Priv.nil⟩
  ·rw[List.getElem?_set_ne z]at q
   obtain⟨w,B,g1,g2,g3⟩:=h.sl j y q
   refine⟨w,B,g1,up g2,g3.nd,fun b hb=>?_,g3.h0⟩
   cases qz:Z' b with
   | none=>rfl
   | some u =>
    rcases hnew b (by rw[qz];simp) with y1 | y1
    ·exact absurd (g3.z b hb) y1
    ·exact absurd y1 (h.dj j i _ _ _ _ _ _ (Ne.symm z) q e g1 ev g2 o b hb)
 ·have one:∀ {j:Nat} {y:Sl} {w:V} {B:List Addr},(S.set i (some (.val d)))[j]?=some (some y)→σ[j]?=some (some w)→Ow F H Z' y w B→B=[]∨(j≠i∧S[j]?=some (some y)∧Ow F H Z y w B):=fun {j y w B} g1 g2 g3=>by
   by_cases z:i=j
   ·subst z
    rw[List.getElem?_set_self hl]at g1;cases g1
    exact .inl g3.1
   ·rw[List.getElem?_set_ne z]at g1
    obtain⟨w',B',k1,k2,_⟩:=h.sl j y g1
    rw[g2]at k1;cases k1
    rw[g3.det (up k2)]
    exact .inr ⟨Ne.symm z,g1,k2⟩
  rcases one e1 e3 o1 with z1 | ⟨_,z1,z2⟩
  ·rw[z1];exact fun a ha=>nomatch ha
  ·rcases one e2 e4 o2 with y1 | ⟨_,y1,y2⟩
   ·rw[y1];exact fun a _ ha=>nomatch ha
   ·exact h.dj j k _ _ _ _ _ _ hjk z1 y1 e3 e4 z2 y2
theorem StOk.freeze (h:StOk F H Z S σ){i:Nat}{ds:List D}(e:S[i]?=some (some (.own ds))):∃ Z',Same Z Z'∧StOk F H Z' (S.set i (some (.val (.lst ds)))) σ:=by
 obtain⟨a,vs,e1,e2,e3,e4,r⟩:=h.own i ds e
 have hz:Same Z (upd Z a (.lst vs)):=aD e3
 refine⟨upd Z a (.lst vs),hz,h.frzAll (x:=.own ds) (A:=[a]) e e1 ⟨a,vs,rfl,rfl,e2,r⟩ hz (fun b o q=>?_) (fun b q=>?_) (by rw[Rep];exact⟨a,vs,rfl,SqL.of ap,r.mono hz⟩)⟩
 ·by_cases y:b=a
  ·subst y;rw[ap]at q;cases q;exact e2
  ·rw[al y]at q;exact h.ex.sub b o q
 ·by_cases y:b=a
  ·exact .inr (by rw[y];exact .head _)
  ·rw[al y]at q;exact .inl q
end
theorem pW {F G:Fx}{H Z:Hp}(hK:G.K=F.K:=by rfl)(hC:G.C=F.C:=by rfl):∀ {m:List (List D)} {rs:List Addr},Rows F H Z m rs→Rows G H Z m rs
 | [],[],_=>trivial
 | ds::m,r::rs,h=>by
  obtain⟨⟨vs,e,q⟩,h⟩:=h
  exact⟨⟨vs,e,by rw[hK,hC];exact q⟩,pW hK hC h⟩
 | [],_::_,h=>h.elim
 | _::_,[],h=>h.elim
theorem ow_K {F G:Fx}{H Z:Hp}{x:Sl}{v:V}{A:List Addr}(h:Ow F H Z x v A)(hK:G.K=F.K:=by rfl)(hC:G.C=F.C:=by rfl):Ow G H Z x v A:=by
 cases x with
 | val d=>exact⟨h.1,by rw[hK,hC];exact h.2⟩
 | own ds=>obtain⟨a,vs,e1,e2,e3,r⟩:=h;exact⟨a,vs,e1,e2,e3,by rw[hK,hC];exact r⟩
 | mat m=>obtain⟨a,rs,e1,e2,e3,r⟩:=h;exact⟨a,rs,e1,e2,e3,pW hK hC r⟩
end FF
end
noncomputable section
namespace FF
open PySem PySem.Spec PyProof.Rows L2
def WG {α:Type}(F:Fx)(H Z:Hp)(r:R α)(P:α→Hp→Hp→Prop):Prop:=match r with
 | .ok a=>∀ H' Z',Ex H Z H' Z'→P a H' Z'
 | .err k=>∀ H',Same H H'→F.E (.ref (F.C k)) none H'
 | .stuck=>False
section
variable {α:Type}{F:Fx}{H Z H1 Z1:Hp}{r:R α}{P P':α→Hp→Hp→Prop}
theorem WG.more (w:WG F H Z r P)(x:Ex H Z H1 Z1):WG F H1 Z1 r P:=by
 cases r with
 | ok a=>exact fun H' Z' y=>w H' Z' (x.trans y)
 | err k=>exact fun H' y=>w H' (x.same.trans y)
 | stuck=>exact w
theorem WG.now {a:α}(w:WG F H Z (.ok a) P)(s:Same Z H):P a H Z:=w H Z (Ex.refl s)
end
def tE (F:Fx)(g:SS→R D):TE:=fun σ H Q=>∃ Z S,StOk F H Z S σ∧WG F H Z (g S) fun d H' Z'=>∀ v,Rep F.K F.C Z' d v→Q v H'
def tT (F:Fx)(g:SS→R Bool):TT:=fun σ H Q=>∃ Z S,StOk F H Z S σ∧WG F H Z (g S) fun b H' _=>Q b H'
def tAl (F:Fx)(g:SS→R (List D)):TA:=fun σ H Q=>∃ Z S,StOk F H Z S σ∧WG F H Z (g S) fun ds H' Z'=>∀ vs,Reps F.K F.C Z' ds vs→Q vs H'
inductive O where
 | nx (S:SS) | rt (d:D) | er (k:Nat) | bk (S:SS) | ct (S:SS) | stuck
def WO (F:Fx)(Z:Hp)(o:O)(D:Ends):Prop:=match o with
 | .nx S=>∀ σ H Z',Same Z Z'→StOk F H Z' S σ→D.nx σ H
 | .rt d=>∀ v H Z',Ex F.H0 F.Z0 H Z'→Rep F.K F.C Z' d v→D.rt v H
 | .er k=>∀ H,Same F.H0 H→F.E (.ref (F.C k)) none H
 | .bk S=>∀ σ H Z',Same Z Z'→StOk F H Z' S σ→D.bk σ H
 | .ct S=>∀ σ H Z',Same Z Z'→StOk F H Z' S σ→D.ct σ H
 | .stuck=>False
theorem WO.more {F:Fx}{Z Z1:Hp}{o:O}{D:Ends}(w:WO F Z o D)(z:Same Z Z1):WO F Z1 o D:=by
 cases o with
 | nx S=>exact fun σ H Z' q=>w σ H Z' (z.trans q)
 | rt d=>exact w
 | er k=>exact w
 | bk S=>exact fun σ H Z' q=>w σ H Z' (z.trans q)
 | ct S=>exact fun σ H Z' q=>w σ H Z' (z.trans q)
 | stuck=>exact w
def tS (F:Fx)(g:SS→O):TS:=fun D σ H=>∃ Z S,StOk F H Z S σ∧WO F Z (g S) D
abbrev FE (X:Cx)(F:Fx)(e:Expr)(g:SS→R D):Prop:=PE X e (tE F g)
abbrev FT (X:Cx)(F:Fx)(e:Expr)(g:SS→R Bool):Prop:=PT X e (tT F g)
abbrev FW (X:Cx)(F:Fx)(e:Expr)(g:SS→R Bool):Prop:=PW X e (tT F g)
abbrev FA (X:Cx)(F:Fx)(es:List Expr)(g:SS→R (List D)):Prop:=PA X es (tAl F g)
abbrev FS (X:Cx)(F:Fx)(st:Stmt)(g:SS→O):Prop:=PS X st (tS F g)
abbrev FSs (X:Cx)(F:Fx)(sts:List Stmt)(g:SS→O):Prop:=PSs X sts (tS F g)
theorem _root_.L2.PE.weak {X:Cx}{e:Expr}{t t':TE}(h:PE X e t)(w:∀ σ H Q,t' σ H Q→t σ H Q):PE X e t':=fun pins s σ H Q I q=>h pins s σ H Q I (w σ H Q q)
theorem _root_.L2.PT.weak {X:Cx}{e:Expr}{t t':TT}(h:PT X e t)(w:∀ σ H Q,t' σ H Q→t σ H Q):PT X e t':=fun pins s σ H Q I q=>h pins s σ H Q I (w σ H Q q)
theorem _root_.L2.PW.weak {X:Cx}{e:Expr}{t t':TT}(h:PW X e t)(w:∀ σ H Q,t' σ H Q→t σ H Q):PW X e t':=fun wh pins s σ H Q I q=>h wh pins s σ H Q I (w σ H Q q)
theorem _root_.L2.PA.weak {X:Cx}{e:List Expr}{t t':TA}(h:PA X e t)(w:∀ σ H Q,t' σ H Q→t σ H Q):PA X e t':=fun p pins s σ H Q I q=>h p pins s σ H Q I (w σ H Q q)
theorem _root_.L2.PS.weak {X:Cx}{e:Stmt}{t t':TS}(h:PS X e t)(w:∀ D σ H,t' D σ H→t D σ H):PS X e t':=fun pins s σ H D I q=>h pins s σ H D I (w D σ H q)
theorem _root_.L2.PSs.weak {X:Cx}{e:List Stmt}{t t':TS}(h:PSs X e t)(w:∀ D σ H,t' D σ H→t D σ H):PSs X e t':=fun pins s σ H D I q=>h pins s σ H D I (w D σ H q)
section
variable {F:Fx}{σ:St}{H Z:Hp}{S:SS}
theorem aE {α:Type}{g:SS→R D}{k:D→R α}{P:α→Hp→Hp→Prop}{Q:VK}(ok:StOk F H Z S σ)(w:WG F H Z ((g S).bind k) P)
  (h:∀ d v H1 Z1,StOk F H1 Z1 S σ→Ex H Z H1 Z1→Rep F.K F.C Z1 d v→WG F H1 Z1 (k d) P→Q v H1):tE F g σ H Q:=by
 refine⟨Z,S,ok,?_⟩
 cases e:g S with
 | ok d =>
  rw[e]at w
  intro H1 Z1 x v r
  exact h d v H1 Z1 (ok.more x) x r (WG.more (r:=k d) w x)
 | err k=>rw[e]at w;exact w
 | stuck=>rw[e]at w;exact w
theorem fo {α:Type}{g:SS→R Bool}{k:Bool→R α}{P:α→Hp→Hp→Prop}{Q:Bool→Hp→Prop}(ok:StOk F H Z S σ)(w:WG F H Z ((g S).bind k) P)
  (h:∀ b H1 Z1,StOk F H1 Z1 S σ→Ex H Z H1 Z1→WG F H1 Z1 (k b) P→Q b H1):tT F g σ H Q:=by
 refine⟨Z,S,ok,?_⟩
 cases e:g S with
 | ok d =>
  rw[e]at w
  intro H1 Z1 x
  exact h d H1 Z1 (ok.more x) x (WG.more (r:=k d) w x)
 | err k=>rw[e]at w;exact w
 | stuck=>rw[e]at w;exact w
theorem bc {α:Type}{g:SS→R (List D)}{k:List D→R α}{P:α→Hp→Hp→Prop}{Q:List V→Hp→Prop}(ok:StOk F H Z S σ)(w:WG F H Z ((g S).bind k) P)
  (h:∀ ds vs H1 Z1,StOk F H1 Z1 S σ→Ex H Z H1 Z1→Reps F.K F.C Z1 ds vs→WG F H1 Z1 (k ds) P→Q vs H1):tAl F g σ H Q:=by
 refine⟨Z,S,ok,?_⟩
 cases e:g S with
 | ok d =>
  rw[e]at w
  intro H1 Z1 x v r
  exact h d v H1 Z1 (ok.more x) x r (WG.more (r:=k d) w x)
 | err k=>rw[e]at w;exact w
 | stuck=>rw[e]at w;exact w
end
def eVar (i:Nat):SS→R D:=fun S=>match S[i]? with
 | some (some (.val d))=>.ok d
 | _=>.stuck
def eC (d:D):SS→R D:=fun _=>.ok d
section
variable {X:Cx}{F:Fx}{e a b:Expr}{g ga gb:SS→R D}{pos:Pos}
theorem eJ {v:V}{d:D}(h:PE X e (tC v))(r:∀ Z,Rep F.K F.C Z d v):FE X F e (eC d):=h.weak fun σ H Q ⟨Z,S,ok,w⟩=>WG.now w ok.sub v (r Z)
theorem ae {i j pos}:FE X F (.Constant (.int i) j pos) (eC (.int i)):=eJ uv fun _=>by rw[Rep]
theorem di {b j pos}:FE X F (.Constant (.bool b) j pos) (eC (.bl b)):=eJ vy fun _=>by rw[Rep]
theorem br {j pos}:FE X F (.Constant .none j pos) (eC .non):=eJ uw fun _=>by rw[Rep]
theorem aI {x j pos}:FE X F (.Constant (.str x) j pos) (eC (.str x)):=eJ ux fun _=>by rw[Rep]
theorem ac (i:Nat){x:Str}{pos:Pos}(hN:X.N[i]?=some x:=by rfl)(hv:Vis X.env.scope x:=by first | exact Or.inl rfl | exact Or.inr (Or.inl rfl) | exact Or.inr (Or.inr rfl))(hd:(x==("__debug__":Str))=false:=by decide)
  (hcd:(x==("__classdict__":Str))=false:=by decide):FE X F (.Name x pos) (eVar i):=(fV hN hv hd hcd).weak fun σ H Q ⟨Z,S,ok,w⟩=>by
 unfold eVar at w
 split at w
 ·rename_i d e
  obtain⟨v,e1,r⟩:=ok.val i d e
  exact⟨v,e1,WG.now w ok.sub v r⟩
 ·exact w.elim
end
def OpD (F:Fx)(r:R2)(f:D→D→R D):Prop:=∀ (H Z:Hp) (x y:V) (dx dy:D) (Q:VK),Same Z H→Rep F.K F.C Z dx x→Rep F.K F.C Z dy y →
 WG F H Z (f dx dy) (fun d H' Z'=>∀ v,Rep F.K F.C Z' d v→Q v H')→r x y H Q
def eOp (f:D→D→R D)(ga gb:SS→R D):SS→R D:=fun S=>(ga S).bind fun x=>(gb S).bind fun y=>f x y
section
variable {X:Cx}{F:Fx}{e a b c:Expr}{ga gb gc:SS→R D}{pos:Pos}{r:R2}{f:D→D→R D}
theorem kr (hd:OpD F r f):∀ σ H Q,tE F (eOp f ga gb) σ H Q→tOp r (tE F ga) (tE F gb) σ H Q:=fun σ H Q ⟨Z,S,ok,w⟩ =>
 aE ok w fun dx x H1 Z1 ok1 x1 rx w1=>aE ok1 w1 fun dy y H2 Z2 ok2 x2 ry w2=>hd H2 Z2 x y dx dy Q ok2.sub (rx.mono x2.z) ry w2
theorem kY {op:Operator}(ho:OpR X (binaryOp op) r)(hd:OpD F r f)(ha:FE X F a ga)(hb:FE X F b gb):FE X F (.BinOp a op b pos) (eOp f ga gb):=(vB ho ha hb).weak (kr hd)
theorem mr {op:CmpOp}(ho:OpR X (compareOp op) r)(hd:OpD F r f)(ha:FE X F a ga)(hb:FE X F b gb)(hm:behindInMarks op b=false:=by first | exact nomark _ | rfl):FE X F (.Compare a [op] [b] pos) (eOp f ga gb) :=
 (su ho ha hb hm).weak (kr hd)
theorem vF (ho:IxR X r)(hd:OpD F r f)(ha:FE X F a ga)(hb:FE X F b gb)(hs:PlainIx b:=by intro _ _;rfl):FE X F (.Subscript a b pos) (eOp f ga gb):=(uk ho ha hb hs).weak (kr hd)
def asB (r:R D):R Bool:=r.bind fun d=>match d with
 | .bl b=>.ok b
 | _=>.stuck
def gB (g:SS→R D):SS→R Bool:=fun S=>asB (g S)
theorem pX {t:TE}{g:SS→R D}(h:∀ σ H Q,tE F g σ H Q→t σ H Q):∀ σ H Q,tT F (gB g) σ H Q→tTest t σ H Q:=fun σ H Q ⟨Z,S,ok,w⟩=>by
 refine h σ H _ (aE ok w fun d v H1 Z1 ok1 x1 rv w1=>?_)
 cases d with
 | bl b=>rw[Rep]at rv;exact⟨b,rv,WG.now w1 ok1.sub⟩
 | _=>exact w1.elim
theorem aH {g:SS→R D}(h:FE X F e g)(he:∀ whole,isTrue e X.env whole=(do let v ← whole;standAt e.pos;holding [v] (truthy v)):=by intro _;rfl):FT X F e (gB g) :=
 (uy h he).weak (pX (t:=tE F g) fun _ _ _ q=>q)
theorem il {op:CmpOp}(ho:OpR X (compareOp op) r)(hd:OpD F r f)(ha:FE X F a ga)(hb:FE X F b gb)(hm:behindInMarks op b=false:=by first | exact nomark _ | rfl):FT X F (.Compare a [op] [b] pos) (gB (eOp f ga gb)) :=
 (sv ho ha hb hm).weak (pX (kr hd))
end
def gAnd (a b:SS→R Bool):SS→R Bool:=fun S=>(a S).bind fun c=>if c=true then b S else .ok false
def gOr (a b:SS→R Bool):SS→R Bool:=fun S=>(a S).bind fun c=>if c=true then .ok true else b S
def gNot (a:SS→R Bool):SS→R Bool:=fun S=>(a S).bind fun c=>.ok (!c)
def eIf (c:SS→R Bool)(a b:SS→R D):SS→R D:=fun S=>(c S).bind fun t=>if t=true then a S else b S
section
variable {X:Cx}{F:Fx}{e a b c:Expr}{rest:List Expr}{ta tb tc:SS→R Bool}{ga gb:SS→R D}{pos:Pos}
theorem fq (h:FT X F a ta):FW X F (.BoolOp .And [a] pos) ta:=so h
theorem c7 (h:FT X F a ta):FW X F (.BoolOp .Or [a] pos) ta:=uz h
theorem im (ha:FT X F a ta)(hb:FW X F (.BoolOp .And (b::rest) pos) tb):FW X F (.BoolOp .And (a::b::rest) pos) (gAnd ta tb) :=
 (uA ha hb).weak fun σ H Q ⟨Z,S,ok,w⟩=>fo ok w fun d H1 Z1 ok1 x1 w1=>by
  cases d with
  | true=>exact⟨Z1,S,ok1,w1⟩
  | false=>exact WG.now w1 ok1.sub
theorem cS (ha:FT X F a ta)(hb:FW X F (.BoolOp .Or (b::rest) pos) tb):FW X F (.BoolOp .Or (a::b::rest) pos) (gOr ta tb) :=
 (vz ha hb).weak fun σ H Q ⟨Z,S,ok,w⟩=>fo ok w fun d H1 Z1 ok1 x1 w1=>by
  cases d with
  | true=>exact WG.now w1 ok1.sub
  | false=>exact⟨Z1,S,ok1,w1⟩
theorem ft_w (h:FW X F e ta):FT X F e ta:=h.pt
theorem bf (h:FT X F a ta):FT X F (.UnaryOp .Not a pos) (gNot ta) :=
 (uB h).weak fun σ H Q ⟨Z,S,ok,w⟩=>fo ok w fun d H1 Z1 ok1 x1 w1=>WG.now w1 ok1.sub
theorem eV {op}(h:FE X F a ga):FE X F (.BoolOp op [a] pos) ga:=uC h
def eAnd (a b:SS→R D):SS→R D:=fun S=>(asB (a S)).bind fun c=>if c=true then b S else .ok (.bl false)
def eNot (a:SS→R D):SS→R D:=fun S=>(asB (a S)).bind fun c=>.ok (.bl (!c))
theorem pY {α:Type}{σ:St}{H Z:Hp}{S:SS}{g:SS→R D}{k:Bool→R α}{P:α→Hp→Hp→Prop}{Q:VK}(ok:StOk F H Z S σ)(w:WG F H Z ((asB (g S)).bind k) P)
  (h:∀ c H1 Z1,StOk F H1 Z1 S σ→Ex H Z H1 Z1→WG F H1 Z1 (k c) P→Q (.bl c) H1):tE F g σ H Q:=by
 have e:(asB (g S)).bind k=(g S).bind fun d=>(match d with | .bl b=>R.ok b | _=>R.stuck).bind k:=by
  unfold asB;cases g S<;>rfl
 rw[e]at w
 refine aE ok w fun d v H1 Z1 ok1 x1 rv w1=>?_
 cases d with
 | bl b=>rw[Rep]at rv;subst rv;exact h b H1 Z1 ok1 x1 w1
 | _=>exact w1.elim
theorem eW (ha:FE X F a ga)(hb:FE X F (.BoolOp .And (b::rest) pos) gb):FE X F (.BoolOp .And (a::b::rest) pos) (eAnd ga gb) :=
 (uD ha hb).weak fun σ H Q ⟨Z,S,ok,w⟩=>pY ok w fun c H1 Z1 ok1 x1 w1=>⟨c,rfl,by
  cases c with
  | true=>exact⟨Z1,S,ok1,w1⟩
  | false=>exact WG.now w1 ok1.sub _ (by rw[Rep])⟩
theorem uT (ha:FE X F a ga):FE X F (.UnaryOp .Not a pos) (eNot ga) :=
 (uE ha).weak fun σ H Q ⟨Z,S,ok,w⟩=>pY ok w fun c H1 Z1 ok1 x1 w1=>⟨c,rfl,WG.now w1 ok1.sub _ (by rw[Rep])⟩
theorem jN (hc:FT X F c tc)(ha:FE X F a ga)(hb:FE X F b gb):FE X F (.IfExp c a b pos) (eIf tc ga gb) :=
 (pE hc ha hb).weak fun σ H Q ⟨Z,S,ok,w⟩=>fo ok w fun d H1 Z1 ok1 x1 w1=>by
  cases d with
  | true=>exact⟨Z1,S,ok1,w1⟩
  | false=>exact⟨Z1,S,ok1,w1⟩
end
def aNil:SS→R (List D):=fun _=>.ok []
def aCons (g:SS→R D)(gs:SS→R (List D)):SS→R (List D):=fun S=>(g S).bind fun d=>(gs S).bind fun ds=>.ok (d::ds)
def eTup (gs:SS→R (List D)):SS→R D:=fun S=>(gs S).bind fun ds=>if ds.length≤16777216 then .ok (.tup ds) else .stuck
def eLst (gs:SS→R (List D)):SS→R D:=fun S=>(gs S).bind fun ds=>if ds.length≤16777216 then .ok (.lst ds) else .stuck
section
variable {X:Cx}{F:Fx}{e:Expr}{es:List Expr}{g:SS→R D}{gs:SS→R (List D)}{pos:Pos}
theorem uU:FA X F [] aNil:=ie.weak fun σ H Q ⟨Z,S,ok,w⟩=>WG.now w ok.sub [] Reps.nil
theorem sG (ha:FE X F e g)(hr:FA X F es gs)(hs:starEach (e::es) X.env=(false,eval e X.env)::starEach es X.env:=by rfl):FA X F (e::es) (aCons g gs) :=
 (cR ha hr hs).weak fun σ H Q ⟨Z,S,ok,w⟩=>aE ok w fun d v H1 Z1 ok1 x1 rv w1=>bc ok1 w1 fun ds vs H2 Z2 ok2 x2 rs w2=>WG.now w2 ok2.sub _ (Reps.cons (rv.mono x2.z) rs)
theorem pZ {x1}(h:FA X F es gs):FE X F (.Tuple es x1 pos) (eTup gs) :=
 (pN h).weak fun σ H Q ⟨Z,S,ok,w⟩=>bc ok w fun ds vs H1 Z1 ok1 x1 rs w1=>by
  split at w1
  ·rename_i hl
   refine⟨by rw[← rs.length,sizeLine_eq];exact hl,fun p hp=>?_⟩
   have z:Same Z1 (upd Z1 p (.tup vs)):=aD (ok1.sub.free hp)
   exact w1 _ _ (Ex.alloc ok1.sub hp) _ (by rw[Rep];exact⟨p,vs,rfl,SqT.of ap,rs.mono z⟩)
  ·exact w1.elim
theorem uV (h:FA X F es gs):FE X F (.List es pos) (eLst gs) :=
 (pO h).weak fun σ H Q ⟨Z,S,ok,w⟩=>bc ok w fun ds vs H1 Z1 ok1 x1 rs w1=>by
  split at w1
  ·rename_i hl
   refine⟨by rw[← rs.length,sizeLine_eq];exact hl,fun p hp=>?_⟩
   have z:Same Z1 (upd Z1 p (.lst vs)):=aD (ok1.sub.free hp)
   exact w1 _ _ (Ex.alloc ok1.sub hp) _ (by rw[Rep];exact⟨p,vs,rfl,SqL.of ap,rs.mono z⟩)
  ·exact w1.elim
end
def rO (r:R O):O:=match r with
 | .ok o=>o
 | .err k=>.er k
 | .stuck=>.stuck
def sDrop (g:SS→R D):SS→O:=fun S=>rO ((g S).bind fun _=>.ok (.nx S))
def sRet (g:SS→R D):SS→O:=fun S=>rO ((g S).bind fun d=>.ok (.rt d))
def sSet (i:Nat)(g:SS→R D):SS→O:=fun S=>rO ((g S).bind fun d=>.ok (.nx (S.set i (some (.val d)))))
section
variable {X:Cx}{F:Fx}{st:Stmt}{rest:List Stmt}{e c:Expr}{g:SS→R D}{gt:SS→R Bool}{ga gb:SS→O}{pos:Pos}
theorem WO.wg {D:Ends}{r:R O}{H Z:Hp}{S:SS}{σ:St}(ok:StOk F H Z S σ)(w:WO F Z (rO r) D):WG F H Z r fun o _ Z'=>WO F Z' o D:=by
 cases r with
 | ok o=>exact fun _ _ x=>WO.more w x.z
 | err k=>exact fun H' s=>w H' (ok.ex.same.trans s)
 | stuck=>exact w
theorem bT (h:FE X F e g)(hs:swapsWith e none pos.line X.env=pure false:=by rfl):FS X F (.Expr e pos) (sDrop g) :=
 (kg h hs).weak fun D σ H ⟨Z,S,ok,w⟩=>aE ok (WO.wg ok w) fun d v H1 Z1 ok1 x1 rv w1=>WG.now w1 ok1.sub σ H1 Z1 (Same.refl _) ok1
theorem aj (h:FE X F e g):FS X F (.Return (some e) pos) (sRet g) :=
 (uF h).weak fun D σ H ⟨Z,S,ok,w⟩=>aE ok (WO.wg ok w) fun d v H1 Z1 ok1 x1 rv w1=>WG.now w1 ok1.sub v H1 Z1 ok1.ex rv
theorem av (i:Nat){x:Str}{pos':Pos}(hN:X.N.Nodup)(h:FE X F e g)(hi:X.N[i]?=some x:=by rfl)(hx:Loc X.env.scope x:=by first | exact Or.inl rfl | exact Or.inr rfl)
  (hs:swapsWith e (some (.Name x pos')) pos.line X.env=pure false:=by rfl) (hf:X.fn x=true∨X.env.scope.names.lookup x=some .local:=by first | exact .inl rfl | exact .inr rfl):FS X F (.Assign [.Name x pos'] e pos) (sSet i g) :=
 (kh hN hi hx h hs hf).weak fun D σ H ⟨Z,S,ok,w⟩=>aE ok (WO.wg ok w) fun d v H1 Z1 ok1 x1 rv w1=>WG.now w1 ok1.sub _ _ _ (Same.refl _) (ok1.setVal rv)
end
end FF
end
noncomputable section
namespace FF
open PySem PySem.Spec PyProof.Rows L2
theorem OpD.or {F:Fx}{r r':R2}{f f':D→D→R D}(p:D→D→Bool)(h:OpD F r f)(h':OpD F r' f'):OpD F (fun x y H Q=>r x y H Q∨r' x y H Q) (fun x y=>if p x y=true then f x y else f' x y):=by
 intro H Z x y dx dy Q s rx ry w
 by_cases e:p dx dy=true
 ·dsimp only at w;rw[if_pos e]at w;exact .inl (h H Z x y dx dy Q s rx ry w)
 ·dsimp only at w;rw[if_neg e]at w;exact .inr (h' H Z x y dx dy Q s rx ry w)
def dI (c:Int→Int→Bool)(g:Int→Int→D):D→D→R D
 | .int i,.int j=>if c i j=true then .ok (g i j) else .stuck
 | _,_=>.stuck
def dI0 (g:Int→Int→D):D→D→R D
 | .int i,.int j=>.ok (g i j)
 | _,_=>.stuck
theorem p5 {F:Fx}{C:Int→Int→Prop}{c:Int→Int→Bool}{g:Int→Int→V}{g':Int→Int→D}(hc:∀ i j,c i j=true→C i j)(hg:∀ i j Z,Rep F.K F.C Z (g' i j) (g i j)):OpD F (rI C g) (dI c g'):=by
 intro H Z x y dx dy Q s rx ry w
 cases dx with
 | int i =>
  cases dy with
  | int j =>
   rw[Rep]at rx
   rw[Rep]at ry
   subst rx;subst ry
   unfold dI at w
   dsimp only at w
   split at w
   ·rename_i q;exact⟨i,j,rfl,rfl,hc i j q,WG.now w s _ (hg i j Z)⟩
   ·exact w.elim
  | _=>exact w.elim
 | _=>exact w.elim
theorem cD {F:Fx}{g:Int→Int→V}{g':Int→Int→D}(hg:∀ i j Z,Rep F.K F.C Z (g' i j) (g i j)):OpD F (rI0 g) (dI0 g'):=by
 intro H Z x y dx dy Q s rx ry w
 cases dx with
 | int i =>
  cases dy with
  | int j =>
   rw[Rep]at rx
   rw[Rep]at ry
   subst rx;subst ry
   exact⟨i,j,rfl,rfl,WG.now w s _ (hg i j Z)⟩
  | _=>exact w.elim
 | _=>exact w.elim
def cMul (i j:Int):Bool:=(decide (-(2^64) < i)&&decide (i < 2^64))||(decide (-(2^64) < j)&&decide (j < 2^64))
def cDiv (i j:Int):Bool:=decide (0 < j)&&decide (j < 1073741824)
theorem sH (i j:Int)(h:cMul i j=true):CMul i j:=by
 unfold cMul at h
 simp only[Bool.or_eq_true,Bool.and_eq_true,decide_eq_true_eq]at h
 exact h
theorem sI (i j:Int)(h:cDiv i j=true):CDiv i j:=by
 unfold cDiv at h
 simp only[Bool.and_eq_true,decide_eq_true_eq]at h
 exact h
def isInt:D→Bool
 | .int _=>true
 | _=>false
def isTup:D→Bool
 | .tup _=>true
 | _=>false
def isLst:D→Bool
 | .lst _=>true
 | _=>false
def dCatT:D→D→R D
 | .tup xs,.tup ys=>if xs.length+ys.length≤16777216 then .ok (.tup (xs++ys)) else .stuck
 | _,_=>.stuck
def dCatL:D→D→R D
 | .lst xs,.lst ys=>if xs.length+ys.length≤16777216 then .ok (.lst (xs++ys)) else .stuck
 | _,_=>.stuck
def dRepT:D→D→R D
 | .tup xs,.int k=>if 0≤k∧k < 1000000∧xs.length*k.toNat≤16777216 then .ok (.tup (List.replicate k.toNat xs).flatten) else .stuck
 | _,_=>.stuck
def dRepL:D→D→R D
 | .lst xs,.int k=>if 0≤k∧k < 1000000∧xs.length*k.toNat≤16777216 then .ok (.lst (List.replicate k.toNat xs).flatten) else .stuck
 | _,_=>.stuck
def dIx:D→D→R D
 | .tup xs,.int i=>match atI xs i with
  | some d=>.ok d
  | none=>.stuck
 | .lst xs,.int i=>match atI xs i with
  | some d=>.ok d
  | none=>.stuck
 | _,_=>.stuck
theorem Reps.at {K:PySem.W.Frag}{C:Nat→Addr}{Z:Hp}{ds:List D}{vs:List V}{i:Int}{d:D}(r:Reps K C Z ds vs)(h:atI ds i=some d):∃ v,atI vs i=some v∧Rep K C Z d v:=by
 unfold atI at h ⊢
 rw[← r.length]
 cases e:ixN ds.length i with
 | none=>rw[e]at h;cases h
 | some j =>
  rw[e]at h
  exact r.get (i:=j) h
theorem uW {F:Fx}:OpD F (rIx F.K) dIx:=by
 intro H Z x y dx dy Q s rx ry w
 cases dx with
 | tup ds =>
  cases dy with
  | int i =>
   rw[Rep]at rx
   rw[Rep]at ry
   obtain⟨a,vs,rfl,h1,h2⟩:=rx
   subst ry
   unfold dIx at w
   dsimp only at w
   split at w
   ·rename_i d e
    obtain⟨v,e1,r⟩:=h2.at e
    exact .inr (.inl ⟨a,vs,i,v,rfl,rfl,h1.mono s,e1,WG.now w s v r⟩)
   ·exact w.elim
  | _=>exact w.elim
 | lst ds =>
  cases dy with
  | int i =>
   rw[Rep]at rx
   rw[Rep]at ry
   obtain⟨a,vs,rfl,h1,h2⟩:=rx
   subst ry
   unfold dIx at w
   dsimp only at w
   split at w
   ·rename_i d e
    obtain⟨v,e1,r⟩:=h2.at e
    exact .inl ⟨a,vs,i,v,rfl,rfl,s.seq h1,e1,WG.now w s v r⟩
   ·exact w.elim
  | _=>exact w.elim
 | _=>exact w.elim
section
open AutoSeq1 (wpAny_loadPart')
theorem kZ (l b:Addr)(items items2:Array Value)(n n2:Nat)(dd dd2:Option Addr)(sl sl2:Array (Option Value))(hc0:items.isEmpty=true) :
  Meets (Builtin.«tuple.__add__» ⟨[.ref l,.ref b],[]⟩) (fun _ R s=>s.heap.get? l=some { cls:=.type "tuple",dict:=dd,data:=.seq items n,slots:=sl }∧s.heap.get? b=some { cls:=.type "tuple",dict:=dd2,data:=.seq items2 n2,slots:=sl2 }∧R (.ok (.ret (.ref b))) s) :=
 .of_wp fun prog w A R s h=>by
  obtain⟨hp,g,d,tk,os⟩:=s;obtain⟨hl,hb,h⟩:=h
  have f2:=AutoSeq1.sub_tuple_tuple
  have f3:=AutoSeq1.sub_list_list
  wp_walk using wpAny_loadPart' hl,wpAny_loadPart' hb
  exact⟨_,rfl,h⟩
end
theorem ft {K:PySem.W.Frag}{C:Nat→Addr}{Z:Hp}{ds:List D}{vs:List V}(r:Reps K C Z ds vs):∀ k:Nat,Reps K C Z (List.replicate k ds).flatten (List.replicate k vs).flatten
 | 0=>Reps.nil
 | k+1=>by
  rw[List.replicate_succ,List.replicate_succ,List.flatten_cons,List.flatten_cons]
  exact r.append (ft r k)
def rCat2 (K:PySem.W.Frag):R2:=fun x y H Q=>∃ a b xs ys,x=.ref a∧y=.ref b∧SqT K H a xs∧SqT K H b ys∧xs.length+ys.length≤sizeLine∧(∀ p,H p=none→Q (.ref p) (upd H p (.tup (xs++ys))))∧(ys=[]→Q (.ref a) H)∧(xs=[]→Q (.ref b) H)
theorem sJ {X:Cx}:OpR X (binaryOp .Add) (rCat2 X.K):=by
 intro pins s σ H x y v u Q I rx ry h
 obtain⟨a,b,xs,ys,rfl,rfl,ha,hb,hz,q1,q2,q3⟩:=h
 by_cases hx:xs=[]
 ·cases rx
  cases ry
  obtain⟨its,r1,p1,_⟩:=I.tuple ha
  obtain⟨its2,r2,p2,_⟩:=I.tuple hb
  obtain⟨⟨cls,dd,data,sl⟩,ho,hc,n,hd⟩:=id p1
  obtain⟨⟨cls2,dd2,data2,sl2⟩,ho2,hc2,n2,hd2⟩:=id p2
  simp only at hc hd hc2 hd2
  subst hc hd hc2 hd2
  have he:its=[]:=by
   have:=r1.length
   rw[hx]at this
   exact List.length_eq_zero_iff.mp this.symm
  exact concat_meets ⟨_,ho,rfl⟩ ⟨_,ho2,rfl⟩ noFill_tuple_add seq_tuple_add PySem.F.slot_tuple_add PySem.F.entry_tuple_add (PySem.F.args_tuple_add_2 _ _)
   (kZ a b its.toArray its2.toArray n n2 dd dd2 sl sl2 (by simp[he])) ⟨ho,ho2,⟨.ref b,H,I,rfl,q3 hx⟩⟩
 ·exact sD pins s σ H _ _ v u Q I rx ry ⟨a,b,xs,ys,rfl,rfl,ha,hb,hx,hz,q2,fun _=>q1⟩
theorem p6 {F:Fx}:OpD F (rCat2 F.K) dCatT:=by
 intro H Z x y dx dy Q s rx ry w
 cases dx with
 | tup ds =>
  cases dy with
  | tup es =>
   rw[Rep]at rx
   rw[Rep]at ry
   obtain⟨a,vs,rfl,h1,h2⟩:=rx
   obtain⟨b,us,rfl,k1,k2⟩:=ry
   unfold dCatT at w
   dsimp only at w
   split at w
   ·rename_i hl
    refine⟨a,b,vs,us,rfl,rfl,h1.mono s,k1.mono s,by rw[← h2.length,← k2.length,sizeLine_eq];exact hl,fun p hp=>?_,fun e=>?_,fun e=>?_⟩
    ·have z:Same Z (upd Z p (.tup (vs++us))):=aD (s.free hp)
     exact w _ _ (Ex.alloc s hp) _ (by rw[Rep];exact⟨p,_,rfl,SqT.of ap,(h2.append k2).mono z⟩)
    ·have:es=[]:=List.length_eq_zero_iff.mp (by rw[k2.length,e];rfl)
     subst this
     exact WG.now w s _ (by rw[List.append_nil,Rep];exact⟨a,vs,rfl,h1,h2⟩)
    ·have:ds=[]:=List.length_eq_zero_iff.mp (by rw[h2.length,e];rfl)
     subst this
     exact WG.now w s _ (by rw[List.nil_append,Rep];exact⟨b,us,rfl,k1,k2⟩)
   ·exact w.elim
  | _=>exact w.elim
 | _=>exact w.elim
def rRepT (K:PySem.W.Frag):R2:=fun x y H Q=>∃ a k xs,x=.ref a∧y=.int k∧SqT K H a xs∧0≤k∧k < 1000000∧xs.length*k.toNat≤sizeLine∧(∀ p,H p=none→Q (.ref p) (upd H p (.tup (List.replicate k.toNat xs).flatten)))∧((List.replicate k.toNat xs).flatten=xs→Q (.ref a) H)
theorem sK {X:Cx}:OpR X (binaryOp .Mult) (rRepT X.K):=by
 intro pins s σ H x y v u Q I rx ry h
 obtain⟨a,k,xs,rfl,rfl,ha,h0,h1,hz,q1,q2⟩:=h
 cases rx
 obtain⟨t,rfl⟩:=ry
 obtain⟨its,r,p1,_⟩:=I.tuple ha
 have hl:=r.length
 obtain⟨⟨cls,dd,data,sl⟩,ho,hc,n,hd⟩:=id p1
 simp only at hc hd
 subst hc hd
 refine wpAny_binaryOp_repeat_ref (T := "tuple") (U := "int") (by decide) ⟨_,ho,rfl⟩ (fun s'=>typeIs_int s' k t) fY PySem.F.fills_int_mul PySem.F.slot_int_rmul kq PySem.F.slot_int_index.lookup
  (call_meets PySem.F.slot_int_rmul (typeIs_int s k t) PySem.F.entry_int_rmul (PySem.F.args_int_rmul_2 _ _) (ii k t a its.toArray n dd sl) ⟨ho,rfl,⟨_,ho,rfl⟩,?_⟩)
 cases its with
 | nil =>
  have hx:xs=[]:=List.length_eq_zero_iff.mp hl
  have e:(List.replicate k.toNat xs).flatten=xs:=by rw[hx];simp
  exact call_meets PySem.F.slot_tuple_mul ⟨_,ho,rfl⟩ PySem.F.entry_tuple_mul (PySem.F.args_tuple_mul_2 _ _) (jl a n k t dd sl h0 h1) ⟨ho,⟨.ref a,H,I,rfl,q2 e⟩⟩
 | cons it its' =>
  have hne:(it::its').toArray.isEmpty=false:=by simp
  by_cases k1:k=1
  ·subst k1
   have e:(List.replicate (1:Int).toNat xs).flatten=xs:=by simp
   exact call_meets PySem.F.slot_tuple_mul ⟨_,ho,rfl⟩ PySem.F.entry_tuple_mul (PySem.F.args_tuple_mul_2 _ _) (jk a _ n t dd sl) ⟨ho,⟨.ref a,H,I,rfl,q2 e⟩⟩
  ·by_cases k0:k=0
   ·subst k0
    refine call_meets PySem.F.slot_tuple_mul ⟨_,ho,rfl⟩ PySem.F.entry_tuple_mul (PySem.F.args_tuple_mul_2 _ _) (ij a _ n t dd sl hne) ⟨ho,?_⟩
    refine⟨.ref s.heap.objs.size,_,I.laid (t':=s.toks) (o:=.tup []) (fun b ob q=>Heap.get?_push_of_some _ q) (Nat.le_refl _) ?_,rfl,q1 _ (I.hok.fresh (Nat.le_refl _))⟩
    exact⟨Nat.zero_le _,[],.nil,TupO.new _ _⟩
   ·refine call_meets PySem.F.slot_tuple_mul ⟨_,ho,rfl⟩ PySem.F.entry_tuple_mul (PySem.F.args_tuple_mul_2 _ _) (ji a _ n k t dd sl (by omega) h1 (by rw[List.size_toArray,← hl];exact hz) hne) ⟨ho,?_⟩
    have ef:=fX (it::its') k.toNat []
    rw[List.nil_append]at ef
    have ef':List.foldl (fun x1 x2=>x1++x2) #[] (List.replicate k.toNat (it::its').toArray)=(List.replicate k.toNat (it::its')).flatten.toArray:=ef
    rw[ef']
    refine⟨.ref s.heap.objs.size,_,I.laid (t':=s.toks) (o:=.tup (List.replicate k.toNat xs).flatten) (fun b ob q=>Heap.get?_push_of_some _ q) (Nat.le_refl _) ?_,rfl,q1 _ (I.hok.fresh (Nat.le_refl _))⟩
    exact⟨by rw[nk,Nat.mul_comm];exact hz,_,r.rep k.toNat,TupO.new _ _⟩
theorem p7 {F:Fx}:OpD F (rRepT F.K) dRepT:=by
 intro H Z x y dx dy Q s rx ry w
 cases dx with
 | tup ds =>
  cases dy with
  | int k =>
   rw[Rep]at rx
   rw[Rep]at ry
   obtain⟨a,vs,rfl,h1,h2⟩:=rx
   subst ry
   unfold dRepT at w
   dsimp only at w
   split at w
   ·rename_i hk
    refine⟨a,k,vs,rfl,rfl,h1.mono s,hk.1,hk.2.1,by rw[← h2.length,sizeLine_eq];exact hk.2.2,fun p hp=>?_,fun e=>?_⟩
    ·have z:Same Z (upd Z p (.tup (List.replicate k.toNat vs).flatten)):=aD (s.free hp)
     exact w _ _ (Ex.alloc s hp) _ (by rw[Rep];exact⟨p,_,rfl,SqT.of ap,(ft h2 k.toNat).mono z⟩)
    ·refine WG.now w s _ ?_
     rw[Rep]
     exact⟨a,vs,rfl,h1,by have:=ft h2 k.toNat;rw[e]at this;exact this⟩
   ·exact w.elim
  | _=>exact w.elim
 | _=>exact w.elim
theorem p9 {F:Fx}:OpD F (fun x y H Q=>∃ a b xs ys,x=.ref a∧y=.ref b∧SqL F.K H a xs∧SqL F.K H b ys∧xs.length+ys.length≤sizeLine∧∀ p,H p=none→Q (.ref p) (upd H p (.lst (xs++ys)))) dCatL:=by
 intro H Z x y dx dy Q s rx ry w
 cases dx with
 | lst ds =>
  cases dy with
  | lst es =>
   rw[Rep]at rx
   rw[Rep]at ry
   obtain⟨a,vs,rfl,h1,h2⟩:=rx
   obtain⟨b,us,rfl,k1,k2⟩:=ry
   unfold dCatL at w
   dsimp only at w
   split at w
   ·rename_i hl
    refine⟨a,b,vs,us,rfl,rfl,s.seq h1,s.seq k1,by rw[← h2.length,← k2.length,sizeLine_eq];exact hl,fun p hp=>?_⟩
    have z:Same Z (upd Z p (.lst (vs++us))):=aD (s.free hp)
    exact w _ _ (Ex.alloc s hp) _ (by rw[Rep];exact⟨p,_,rfl,SqL.of ap,(h2.append k2).mono z⟩)
   ·exact w.elim
  | _=>exact w.elim
 | _=>exact w.elim
theorem qd {X:Cx}:OpR X (binaryOp .Add) (fun x y H Q=>∃ a b xs ys,x=.ref a∧y=.ref b∧SqL X.K H a xs∧SqL X.K H b ys∧xs.length+ys.length≤sizeLine∧∀ p,H p=none→Q (.ref p) (upd H p (.lst (xs++ys)))):=by
 intro pins s σ H x y v u Q I rx ry h
 obtain⟨a,b,xs,ys,rfl,rfl,ha,hb,hz,q⟩:=h
 cases rx
 cases ry
 obtain⟨its,r,⟨o,n,e,c1,c2,c3⟩,_⟩:=I.list ha
 obtain⟨its2,r2,⟨o2,n2,e2,d1,d2,d3⟩,_⟩:=I.list hb
 have l1:=r.length
 have l2:=r2.length
 obtain⟨cls,dd,data,sl⟩:=o
 obtain⟨cls2,dd2,data2,sl2⟩:=o2
 simp only at c1 c3 d1 d3
 subst c1 c3 d1 d3
 refine concat_meets ⟨_,e,rfl⟩ ⟨_,e2,rfl⟩ noFill_list_add seq_list_add PySem.F.slot_list_add PySem.F.entry_list_add (PySem.F.args_list_add_2 _ _) (n9 a b its.toArray its2.toArray n n2 dd dd2 sl sl2 (by rw[List.size_toArray,List.size_toArray];omega)) ⟨e,e2,?_⟩
 have ea:its.toArray++its2.toArray=(its++its2).toArray:=by simp
 rw[ea]
 exact⟨.ref _,_,I.lnew (t':=s.toks) (r.append r2) (by rw[List.length_append];omega),rfl,q _ I.fresh⟩
def rRepL (K:PySem.W.Frag):R2:=fun x y H Q=>∃ a k xs,x=.ref a∧y=.int k∧SqL K H a xs∧0≤k∧k < 1000000∧xs.length*k.toNat≤sizeLine∧∀ p,H p=none→Q (.ref p) (upd H p (.lst (List.replicate k.toNat xs).flatten))
theorem sL {X:Cx}:OpR X (binaryOp .Mult) (rRepL X.K):=by
 intro pins s σ H x y v u Q I rx ry h
 obtain⟨a,k,xs,rfl,rfl,ha,h0,h1,hz,q⟩:=h
 cases rx
 obtain⟨t,rfl⟩:=ry
 obtain⟨its,r,⟨o,n,e,c1,c2,c3⟩,_⟩:=I.list ha
 have hl:=r.length
 obtain⟨cls,dd,data,sl⟩:=o
 simp only at c1 c3
 subst c1 c3
 refine wpAny_binaryOp_repeat_ref (T := "list") (U := "int") (by decide) ⟨_,e,rfl⟩ (fun s'=>typeIs_int s' k t) noFill_list_mul PySem.F.fills_int_mul PySem.F.slot_int_rmul repeat_list PySem.F.slot_int_index.lookup
  (call_meets PySem.F.slot_int_rmul (typeIs_int s k t) PySem.F.entry_int_rmul (PySem.F.args_int_rmul_2 _ _) (jm k t a its.toArray n dd sl) ⟨e,rfl,⟨_,e,rfl⟩,
   call_meets PySem.F.slot_list_mul ⟨_,e,rfl⟩ PySem.F.entry_list_mul (PySem.F.args_list_mul_2 _ _) (oa a its.toArray n k t dd sl (by omega) (by omega) (by rw[List.size_toArray,← hl];exact hz)) ⟨e,?_⟩⟩)
 have hnew:List.foldl (fun x1 x2=>x1++x2) #[] (List.replicate (if its.toArray.isEmpty=true then 0 else k.toNat) its.toArray)=(List.replicate k.toNat its).flatten.toArray:=by
  have f0:∀ m:Nat,List.foldl (fun x1 x2=>x1++x2) #[] (List.replicate m its.toArray)=(List.replicate m its).flatten.toArray:=fun m=>by
   have:=fX its m []
   rwa [List.nil_append]at this
  rw[f0]
  cases its with
  | nil=>simp
  | cons a r'=>rw[if_neg (by simp)]
 rw[hnew]
 exact⟨.ref _,_,I.lnew (t':=s.toks) (r.rep k.toNat) (by rw[nk,Nat.mul_comm];exact hz),rfl,q _ I.fresh⟩
theorem qf {F:Fx}:OpD F (rRepL F.K) dRepL:=by
 intro H Z x y dx dy Q s rx ry w
 cases dx with
 | lst ds =>
  cases dy with
  | int k =>
   rw[Rep]at rx
   rw[Rep]at ry
   obtain⟨a,vs,rfl,h1,h2⟩:=rx
   subst ry
   unfold dRepL at w
   dsimp only at w
   split at w
   ·rename_i hk
    refine⟨a,k,vs,rfl,rfl,s.seq h1,hk.1,hk.2.1,by rw[← h2.length,sizeLine_eq];exact hk.2.2,fun p hp=>?_⟩
    have z:Same Z (upd Z p (.lst (List.replicate k.toNat vs).flatten)):=aD (s.free hp)
    exact w _ _ (Ex.alloc s hp) _ (by rw[Rep];exact⟨p,_,rfl,SqL.of ap,(ft h2 k.toNat).mono z⟩)
   ·exact w.elim
  | _=>exact w.elim
 | _=>exact w.elim
mutual
def eqD:D→D→Bool
 | .non,.non=>true
 | .bl a,.bl b=>a==b
 | .bl a,.int b=>(if a then 1 else 0)==b
 | .int a,.bl b=>a==(if b then 1 else 0)
 | .int a,.int b=>a==b
 | .str a,.str b=>a==b
 | .tup xs,.tup ys=>eqDs xs ys
 | .lst xs,.lst ys=>eqDs xs ys
 | _,_=>false
def eqDs:List D→List D→Bool
 | [],[]=>true
 | x::xs,y::ys=>eqD x y&&eqDs xs ys
 | _,_=>false
end
mutual
def good:Nat→D→Bool
 | _,.exc _=>false
 | _,.fn _=>false
 | 0,.tup _=>false
 | 0,.lst _=>false
 | n+1,.tup xs=>goods n xs
 | n+1,.lst xs=>goods n xs
 | _,_=>true
def goods:Nat→List D→Bool
 | _,[]=>true
 | n,x::xs=>good n x&&goods n xs
end
end FF
end
noncomputable section
namespace FF
open PySem PySem.Spec PyProof.Rows L2
mutual
theorem dk:∀ (n:Nat) (d:D),good n d=true→eqD d d=true
 | n,.non,_=>by simp[eqD]
 | n,.bl b,_=>by simp[eqD]
 | n,.int i,_=>by simp[eqD]
 | n,.str x,_=>by simp[eqD]
 | 0,.tup xs,h=>by simp[good]at h
 | 0,.lst xs,h=>by simp[good]at h
 | n+1,.tup xs,h=>by rw[good]at h;rw[eqD];exact fZ n xs h
 | n+1,.lst xs,h=>by rw[good]at h;rw[eqD];exact fZ n xs h
 | n,.exc k,h=>by cases n<;>simp[good]at h
 | n,.fn k,h=>by cases n<;>simp[good]at h
theorem fZ:∀ (n:Nat) (ds:List D),goods n ds=true→eqDs ds ds=true
 | n,[],_=>by simp[eqDs]
 | n,d::ds,h=>by
  rw[goods,Bool.and_eq_true]at h
  rw[eqDs,dk n d h.1,fZ n ds h.2]
  rfl
end
theorem aM {n:Nat}:∀ {ds:List D} {i:Nat} {d:D},goods n ds=true→ds[i]?=some d→good n d=true
 | [],_,_,_,e=>by simp at e
 | x::xs,0,d,h,e=>by
  rw[goods,Bool.and_eq_true]at h
  simp at e;subst e;exact h.1
 | x::xs,i+1,d,h,e=>by
  rw[goods,Bool.and_eq_true]at h
  exact aM h.2 (by simpa using e)
theorem cE:∀ (ds es:List D),eqDs ds es=((List.range (min ds.length es.length)).all (fun j=>eqD (ds.getD j .non) (es.getD j .non))&&ds.length==es.length)
 | [],[]=>by simp[eqDs]
 | [],e::es=>by simp[eqDs]
 | d::ds,[]=>by simp[eqDs]
 | d::ds,e::es=>by
  rw[eqDs,cE ds es]
  have h1:min (d::ds).length (e::es).length=min ds.length es.length+1:=by simp only[List.length_cons];omega
  rw[h1,List.range_succ_eq_map,List.all_cons,List.all_map]
  have h2:((d::ds).length==(e::es).length)=(ds.length==es.length):=by simp
  rw[h2]
  simp only[List.getD_cons_zero,Bool.and_assoc]
  rfl
section
variable {X:Cx}{F:Fx}{pins:List (Addr×Obj)}{σ:St}{H Z:Hp}{s:Shared}
theorem jO {a:Addr}{xs ys:List V}(I:Inv X pins σ H s)(h:SqL X.K H a xs)(h':SqT X.K H a ys):False:=by
 obtain⟨its,r,p,_⟩:=I.list h
 obtain⟨its',r',p',_⟩:=I.tuple h'
 exact SeqAt.ne_of_list_tuple p.isList (show s.heap.IsTuple a its'.toArray from p') rfl
mutual
theorem kt {K:PySem.W.Frag}{C:Nat→Addr}(hK:X.K=K)(I:Inv X pins σ H s)(z:Same Z H):∀ (n:Nat) (d e:D) (v:V),good n d=true→good n e=true→Rep K C Z d v→Rep K C Z e v→d=e
 | n,.non,e,v,g1,g2,h,h'=>by rw[Rep]at h;subst h;cases e<;>rw[Rep]at h'<;>first | rfl | (obtain⟨_,_,q,_⟩:=h';cases q;done) | (obtain⟨_,q,_⟩:=h';cases q;done) | (cases h';done)
 | n,.bl b,e,v,g1,g2,h,h'=>by rw[Rep]at h;subst h;cases e<;>rw[Rep]at h'<;>first | (cases h';rfl) | (obtain⟨_,_,q,_⟩:=h';cases q;done) | (obtain⟨_,q,_⟩:=h';cases q;done) | (cases h';done)
 | n,.int b,e,v,g1,g2,h,h'=>by rw[Rep]at h;subst h;cases e<;>rw[Rep]at h'<;>first | (cases h';rfl) | (obtain⟨_,_,q,_⟩:=h';cases q;done) | (obtain⟨_,q,_⟩:=h';cases q;done) | (cases h';done)
 | n,.str b,e,v,g1,g2,h,h'=>by rw[Rep]at h;subst h;cases e<;>rw[Rep]at h'<;>first | (cases h';rfl) | (obtain⟨_,_,q,_⟩:=h';cases q;done) | (obtain⟨_,q,_⟩:=h';cases q;done) | (cases h';done)
 | 0,.tup xs,e,v,g1,g2,h,h'=>by simp[good]at g1
 | 0,.lst xs,e,v,g1,g2,h,h'=>by simp[good]at g1
 | n,.exc k,e,v,g1,g2,h,h'=>by cases n<;>simp[good]at g1
 | n,.fn k,e,v,g1,g2,h,h'=>by cases n<;>simp[good]at g1
 | n+1,.tup ds,e,v,g1,g2,h,h'=>by
  rw[Rep]at h
  obtain⟨a,vs,rfl,h1,h2⟩:=h
  cases e with
  | tup es =>
   rw[Rep]at h'
   obtain⟨b,us,q,k1,k2⟩:=h'
   cases q
   have e1:vs=us:=I.tuple_inj (by rw[hK];exact h1.mono z) (by rw[hK];exact k1.mono z)
   subst e1
   rw[good]at g1 g2
   rw[io hK I z n ds es vs g1 g2 h2 k2]
  | lst es =>
   rw[Rep]at h'
   obtain⟨b,us,q,k1,k2⟩:=h'
   cases q
   exact(jO I (by rw[hK];exact z.seq k1) (by rw[hK];exact h1.mono z)).elim
  | exc k=>simp[good]at g2
  | fn k=>simp[good]at g2
  | _=>rw[Rep]at h';cases h'
 | n+1,.lst ds,e,v,g1,g2,h,h'=>by
  rw[Rep]at h
  obtain⟨a,vs,rfl,h1,h2⟩:=h
  cases e with
  | lst es =>
   rw[Rep]at h'
   obtain⟨b,us,q,k1,k2⟩:=h'
   cases q
   have e1:vs=us:=I.list_inj (by rw[hK];exact z.seq h1) (by rw[hK];exact z.seq k1)
   subst e1
   rw[good]at g1 g2
   rw[io hK I z n ds es vs g1 g2 h2 k2]
  | tup es =>
   rw[Rep]at h'
   obtain⟨b,us,q,k1,k2⟩:=h'
   cases q
   exact(jO I (by rw[hK];exact z.seq h1) (by rw[hK];exact k1.mono z)).elim
  | exc k=>simp[good]at g2
  | fn k=>simp[good]at g2
  | _=>rw[Rep]at h';cases h'
theorem io {K:PySem.W.Frag}{C:Nat→Addr}(hK:X.K=K)(I:Inv X pins σ H s)(z:Same Z H):∀ (n:Nat) (ds es:List D) (vs:List V),goods n ds=true→goods n es=true→Reps K C Z ds vs→Reps K C Z es vs→ds=es
 | n,[],es,vs,g1,g2,h,h'=>by
  rw[Reps]at h;subst h
  cases es with
  | nil=>rfl
  | cons e es=>rw[Reps]at h';obtain⟨_,_,q,_⟩:=h';cases q
 | n,d::ds,es,vs,g1,g2,h,h'=>by
  rw[Reps]at h
  obtain⟨v,r,rfl,h1,h2⟩:=h
  cases es with
  | nil=>rw[Reps]at h';cases h'
  | cons e es =>
   obtain⟨k1,k2⟩:=h'.uncons
   rw[goods,Bool.and_eq_true]at g1 g2
   rw[kt hK I z n d e v g1.1 g2.1 h1 k1,io hK I z n ds es r g1.2 g2.2 h2 k2]
end
def flatD:D→Bool
 | .non=>true
 | .bl _=>true
 | .int _=>true
 | .str _=>true
 | _=>false
theorem fu {K:PySem.W.Frag}{C:Nat→Addr}{d:D}{v:V}(f:flatD d=true)(h:Rep K C Z d v):flatV v=true:=by
 cases d<;>first | (rw[Rep]at h;subst h;rfl) | simp[flatD]at f
theorem k6 {K:PySem.W.Frag}{C:Nat→Addr}{d e:D}{v u:V}(f1:flatD d=true)(f2:flatD e=true)(h:Rep K C Z d v)(h':Rep K C Z e u):eqV v u=eqD d e:=by
 cases d<;>first | (simp[flatD]at f1;done) | (cases e<;>first | (simp[flatD]at f2;done) | (rw[Rep]at h;rw[Rep]at h';subst h;subst h';simp[eqV,eqD]))
set_option maxHeartbeats 4000000 in
theorem f8 {K:PySem.W.Frag}{C:Nat→Addr}(hK:X.K=K)(I:Inv X pins σ H s)(z:Same Z H):∀ (n:Nat) (A:Around) (d e:D) (v u:V) (x y:Value),good n d=true→good n e=true→Rep K C Z d v→Rep K C Z e u→RelV v x→RelV u y→A.units+n < cLine→SeqAt.EqAt A s x y (eqD d e):=by
 intro n
 induction n with
 | zero =>
  intro A d e v u x y g1 g2 h h' rx ry hu
  have f1:flatD d=true:=by cases d<;>first | rfl | simp[good]at g1
  have f2:flatD e=true:=by cases e<;>first | rfl | simp[good]at g2
  rw[← k6 f1 f2 h h']
  exact pU rx ry (fu f1 h) (fu f2 h')
 | succ n ih =>
  intro A d e v u x y g1 g2 h h' rx ry hu
  have hu0:A.units < cLine:=by omega
  have in1:A.in1.units+n < cLine:=by show A.units+1+n < cLine;omega
  by_cases f1:flatD d=true
  ·by_cases f2:flatD e=true
   ·rw[← k6 f1 f2 h h']
    exact pU rx ry (fu f1 h) (fu f2 h')
   ·cases e with
    | tup es =>
     rw[Rep]at h'
     obtain⟨b,us,rfl,k1,k2⟩:=h'
     cases ry
     obtain⟨its,_,p,_⟩:=I.tuple (by rw[hK];exact k1.mono z:SqT X.K H b us)
     have p':s.heap.IsTuple b its.toArray:=p
     cases d<;>first | (simp[flatD]at f1;done) | (rw[Rep]at h;subst h;simp only[eqD];first | (cases rx;first | exact SeqAt.EqAt.none_tuple p' hu0 | exact SeqAt.EqAt.bool_tuple _ p' hu0) | (obtain⟨t,rfl⟩:=rx;first | exact SeqAt.EqAt.int_tuple _ _ p' hu0 | exact SeqAt.EqAt.str_tuple _ _ p' hu0))
    | lst es =>
     rw[Rep]at h'
     obtain⟨b,us,rfl,k1,k2⟩:=h'
     cases ry
     obtain⟨its,_,p,_⟩:=I.list (by rw[hK];exact z.seq k1:SqL X.K H b us)
     have p':=p.isList
     cases d<;>first | (simp[flatD]at f1;done) | (rw[Rep]at h;subst h;simp only[eqD];first | (cases rx;first | exact SeqAt.EqAt.none_list p' hu0 | exact SeqAt.EqAt.bool_list _ p' hu0) | (obtain⟨t,rfl⟩:=rx;first | exact SeqAt.EqAt.int_list _ _ p' hu0 | exact SeqAt.EqAt.str_list _ _ p' hu0))
    | exc k=>simp[good]at g2
    | fn k=>simp[good]at g2
    | _=>simp[flatD]at f2
  ·cases d with
   | tup ds =>
    have hh:=h
    rw[Rep]at h
    obtain⟨a,vs,rfl,h1,h2⟩:=h
    cases rx
    obtain⟨its,r,p,_⟩:=I.tuple (by rw[hK];exact h1.mono z:SqT X.K H a vs)
    have p':s.heap.IsTuple a its.toArray:=p
    cases e with
    | tup es =>
     have hh':=h'
     rw[Rep]at h'
     obtain⟨b,us,rfl,k1,k2⟩:=h'
     cases ry
     by_cases hab:a=b
     ·subst hab
      have:=kt hK I z (n+1) _ _ _ g1 g2 hh hh'
      rw[← this,dk (n+1) _ g1]
      exact SeqAt.EqAt.same _
     ·obtain⟨its2,r2,p2,_⟩:=I.tuple (by rw[hK];exact k1.mono z:SqT X.K H b us)
      have p2':s.heap.IsTuple b its2.toArray:=p2
      rw[good]at g1 g2
      have q:=SeqAt.RcAt.tuples (A:=A) (e:=fun j=>eqD (ds.getD j .non) (es.getD j .non)) p' p2' hu0 fun j j1 j2=>by
       have j1':j < its.length:=by simpa using j1
       have j2':j < its2.length:=by simpa using j2
       have l1:j < ds.length:=by rw[h2.length,r.length];exact j1'
       have l2:j < es.length:=by rw[k2.length,r2.length];exact j2'
       have e1:ds[j]?=some ds[j]:=by simp
       have e2:es[j]?=some es[j]:=by simp
       obtain⟨w1,f1,f2⟩:=h2.get e1
       obtain⟨w2,f3,f4⟩:=k2.get e2
       obtain⟨z1,m1,m2⟩:=r.get f1
       obtain⟨z2,m3,m4⟩:=r2.get f3
       have n1:its.toArray[j]=z1:=by simpa [j1'] using m1
       have n2:its2.toArray[j]=z2:=by simpa [j2'] using m3
       rw[n1,n2]
       have g3:ds.getD j .non=ds[j]:=by simp[l1]
       have g4:es.getD j .non=es[j]:=by simp[l2]
       rw[g3,g4]
       exact ih A.in1 _ _ w1 w2 z1 z2 (aM g1 e1) (aM g2 e2) f2 f4 m2 m4 in1
      rw[eqD,cE]
      have s1:its.toArray.size=ds.length:=by rw[List.size_toArray,h2.length,r.length]
      have s2:its2.toArray.size=es.length:=by rw[List.size_toArray,k2.length,r2.length]
      rw[s1,s2]at q
      exact SeqAt.EqAt.of_refs hab q
    | lst es =>
     rw[Rep]at h'
     obtain⟨b,us,rfl,k1,k2⟩:=h'
     cases ry
     obtain⟨its2,r2,p2,_⟩:=I.list (by rw[hK];exact z.seq k1:SqL X.K H b us)
     simp only[eqD]
     exact SeqAt.EqAt.tuple_list p' p2.isList hu0
    | exc k=>simp[good]at g2
    | fn k=>simp[good]at g2
    | _=>rw[Rep]at h';subst h';simp only[eqD];first | (cases ry;first | exact SeqAt.EqAt.tuple_none p' hu0 | exact SeqAt.EqAt.tuple_bool _ p' hu0) | (obtain⟨t,rfl⟩:=ry;first | exact SeqAt.EqAt.tuple_int _ _ p' hu0 | exact SeqAt.EqAt.tuple_str _ _ p' hu0)
   | lst ds =>
    have hh:=h
    rw[Rep]at h
    obtain⟨a,vs,rfl,h1,h2⟩:=h
    cases rx
    obtain⟨its,r,p,_⟩:=I.list (by rw[hK];exact z.seq h1:SqL X.K H a vs)
    have p':=p.isList
    cases e with
    | lst es =>
     have hh':=h'
     rw[Rep]at h'
     obtain⟨b,us,rfl,k1,k2⟩:=h'
     cases ry
     by_cases hab:a=b
     ·subst hab
      have:=kt hK I z (n+1) _ _ _ g1 g2 hh hh'
      rw[← this,dk (n+1) _ g1]
      exact SeqAt.EqAt.same _
     ·obtain⟨its2,r2,p2,_⟩:=I.list (by rw[hK];exact z.seq k1:SqL X.K H b us)
      have p2':=p2.isList
      rw[good]at g1 g2
      have s1:its.toArray.size=ds.length:=by rw[List.size_toArray,h2.length,r.length]
      have s2:its2.toArray.size=es.length:=by rw[List.size_toArray,k2.length,r2.length]
      rw[eqD,cE]
      by_cases hsz:ds.length=es.length
      ·have q:=SeqAt.RcAt.lists (A:=A) (e:=fun j=>eqD (ds.getD j .non) (es.getD j .non)) p' p2' (by rw[s1,s2];exact hsz) hu0 fun j j1 j2=>by
        have j1':j < its.length:=by simpa using j1
        have j2':j < its2.length:=by simpa using j2
        have l1:j < ds.length:=by rw[h2.length,r.length];exact j1'
        have l2:j < es.length:=by rw[k2.length,r2.length];exact j2'
        have e1:ds[j]?=some ds[j]:=by simp
        have e2:es[j]?=some es[j]:=by simp
        obtain⟨w1,f1,f2⟩:=h2.get e1
        obtain⟨w2,f3,f4⟩:=k2.get e2
        obtain⟨z1,m1,m2⟩:=r.get f1
        obtain⟨z2,m3,m4⟩:=r2.get f3
        have n1:its.toArray[j]=z1:=by simpa [j1'] using m1
        have n2:its2.toArray[j]=z2:=by simpa [j2'] using m3
        rw[n1,n2]
        have g3:ds.getD j .non=ds[j]:=by simp[l1]
        have g4:es.getD j .non=es[j]:=by simp[l2]
        rw[g3,g4]
        exact ih A.in1 _ _ w1 w2 z1 z2 (aM g1 e1) (aM g2 e2) f2 f4 m2 m4 in1
       rw[s1]at q
       rw[hsz,Nat.min_self,beq_self_eq_true,Bool.and_true,← hsz]
       exact SeqAt.EqAt.of_refs hab q
      ·have q:=SeqAt.RcAt.lists_lengths (A:=A) p' p2' (by rw[s1,s2];simpa using hsz) hu0
       rw[show (ds.length==es.length)=false by simpa using hsz,Bool.and_false]
       exact SeqAt.EqAt.of_refs hab q
    | tup es =>
     rw[Rep]at h'
     obtain⟨b,us,rfl,k1,k2⟩:=h'
     cases ry
     obtain⟨its2,r2,p2,_⟩:=I.tuple (by rw[hK];exact k1.mono z:SqT X.K H b us)
     simp only[eqD]
     exact SeqAt.EqAt.list_tuple p' (show s.heap.IsTuple b its2.toArray from p2) hu0
    | exc k=>simp[good]at g2
    | fn k=>simp[good]at g2
    | _=>rw[Rep]at h';subst h';simp only[eqD];first | (cases ry;first | exact SeqAt.EqAt.list_none p' hu0 | exact SeqAt.EqAt.list_bool _ p' hu0) | (obtain⟨t,rfl⟩:=ry;first | exact SeqAt.EqAt.list_int _ _ p' hu0 | exact SeqAt.EqAt.list_str _ _ p' hu0)
   | exc k=>simp[good]at g1
   | fn k=>simp[good]at g1
   | _=>simp[flatD]at f1
end
end FF
end
noncomputable section
namespace FF
open PySem PySem.Spec PyProof.Rows L2
theorem objThere {P:Program}{w:World}{H:Hp}{h:Heap}{a:Addr}{o:HO}(x:ObjOk P w H h a o):∃ ob,h.get? a=some ob:=by
 cases o with
 | lst xs=>obtain⟨_,_,_,_,e⟩:=x;exact⟨_,e⟩
 | tup xs=>obtain⟨_,_,_,o,e,_⟩:=x;exact⟨o,e⟩
 | dK kvs=>obtain⟨_,_,_,_,o,_,_,e,_⟩:=x;exact⟨o,e⟩
 | dT kvs=>obtain⟨_,_,_,_,o,_,_,e,_⟩:=x;exact⟨o,e⟩
 | set S n=>obtain⟨o,_,_,_,e,_⟩:=x;exact⟨o,e⟩
 | ins C dx fs=>obtain⟨_,_,_,e,_⟩:=x;exact⟨_,e⟩
 | own y=>exact x
 | xd fs=>obtain⟨_,⟨o,_,_,e,_⟩,_⟩:=x;exact⟨o,e⟩
 | rng lo hi=>obtain⟨_,_,_,e⟩:=x;exact⟨_,e⟩
 | frz ob u=>obtain⟨e,_⟩:=x;exact⟨_,e⟩
 | tbl ps=>exact⟨_,(show h.get? a=some _ from x)⟩
 | met f y=>exact⟨_,(show h.get? a=some _ from x)⟩
 | ext φ=>obtain⟨_,e,_⟩:=x;exact e
def Cov (B:Heap)(h h':Heap)(H':Hp)(l:List Env):Prop:=∀ b o,h'.get? b=some o→(H' b≠none∨∃ o',h.get? b=some o')→b∉frs l→B.get? b=some o
def CXE (P:Program)(w:World):CXT:=fun outer H s E e s' =>
 ∃ (ea C t:Addr) (H':Hp) (B:Heap),e=.ref ea∧s'.os=s.os∧AllBare s'.gens∧Un (frs outer) [] H H' s.heap s'.heap∧HOk P w H' s'.heap ∧
  Heap.FlyingW B outer ea (.ref C) (.ref t) s'.heap∧H' ea=none∧Cov B s.heap s'.heap H' outer∧E (.ref C) none H'
section
variable {X:Cx}{pins:List (Addr×Obj)}{σ:St}{H H':Hp}{s s':Shared}{B:Heap}
theorem sM {h2:Heap}{sc:Shared}(J:Inv X pins σ H' s')(I:∃ σ0 H0 pl,Inv X pl σ0 H0 sc)(hp:∀ p∈X.pn++pins,∃ o,sc.heap.get? p.1=some o)(hl:∀ o,s'.heap.get? X.env.locals=some o→∃ o',sc.heap.get? X.env.locals=some o')
  (cov:Cov B sc.heap s'.heap H' X.stack) (hB:B.StaysIn h2) (up:s'.heap.UpToSlots h2):Inv X pins σ H' { s' with heap:=h2 }:=by
 obtain⟨σ0,H0,pl,I0⟩:=I
 have ins:∀ b o,X.s₀.heap.get? b=some o→b∉X.ex→∃ o',sc.heap.get? b=some o':=fun b o e hx=>I0.base.there b o e hx
 have nloc:∀ b o,X.s₀.heap.get? b=some o→b≠X.env.locals:=fun b o e=>Nat.ne_of_lt (Nat.lt_of_lt_of_le (Heap.lt_size e) J.ok.above)
 have nstk:∀ b,b≠X.env.locals→b∉X.fs→b∉frs X.stack:=fun b h1 h2 z=>(List.mem_cons.mp (J.stkSub b z)).elim h1 h2
 have trk:∀ b o,s'.heap.get? b=some o→H' b≠none→h2.get? b=some o:=fun b o e ht=>hB b o (cov b o e (.inl ht) fun z=>ht (J.stkFree b z))
 have nf:∀ b∈X.fs,∀ o,s'.heap.get? b=some o→∀ vs,o.data≠.fields vs:=fun b hb o e=>by
  obtain⟨_,o',e',d⟩:=J.funs.mem hb
  rw[e]at e';cases e';exact d
 refine⟨J.ok,J.os,J.bare,⟨fun b o e n hb hx=>?_,fun b o e n hb hx=>?_,J.base.free,fun b o e hx=>?_,J.base.tups,J.base.frzs,J.base.tbls⟩,?_,fun x c e=>?_,J.free,J.freeC,fun p hpp=>?_,fun b u e=>?_,J.len⟩
 ·have e1:=J.base.keep b o e n hb hx
  exact hB b o (cov b o e1 (.inr (ins b o e hx)) (nstk b (nloc b o e) hb))
 ·obtain⟨sl,e1⟩:=J.base.slot b o e n hb hx
  obtain⟨sl',e2⟩:=up b _ e1 (nf b hb _ e1)
  exact⟨sl',e2⟩
 ·obtain⟨o',e1⟩:=J.base.there b o e hx
  by_cases hb:b∈X.fs
  ·obtain⟨sl',e2⟩:=up b _ e1 (nf b hb _ e1)
   exact⟨_,e2⟩
  ·exact⟨o',hB b o' (cov b o' e1 (.inr (ins b o e hx)) (nstk b (nloc b o e) hb))⟩
 ·obtain⟨m,hn,hv⟩:=J.loc
  refine⟨m,up.ns hn,fun i x v h1 h2 h3=>?_⟩
  obtain⟨u,r,l⟩:=hv i x v h1 h2 h3
  refine⟨u,r,?_⟩
  rcases l with l | ⟨k,c,e,⟨o,ho,hd⟩⟩
  ·exact .inl l
  ·obtain⟨sl,e2⟩:=up c o ho fun vs q=>by rw[hd]at q;cases q
   exact .inr ⟨k,c,e,⟨_,e2,hd⟩⟩
 ·obtain⟨v,o,ho,hd⟩:=J.cell x c e
  obtain⟨sl,e2⟩:=up c o ho fun vs q=>by rw[hd]at q;cases q
  exact⟨v,_,e2,hd⟩
 ·obtain⟨e,n,ne,nf',d⟩:=J.pin p hpp
  exact⟨hB _ _ (cov p.1 p.2 e (.inr (hp p hpp)) (nstk _ ne nf')),n,ne,nf',d⟩
 ·refine(J.hok b u e).stay (fun c v hc q=>trk c v q ?_) (fun _ q=>q) fun _ _ q=>q
  rcases hc with z | z
  ·subst z;rw[e];simp
  ·rw[z];simp
end
section
variable {P:Program}{w:World}{K:PySem.W.Frag}{mg:Str→Option Value}{base:Heap}{N:List Str}{qual:Str}{scope:Scope}{f:Addr}{cd:Value}{A:Around}{outer:List Env}{s0:Shared}{H0:Hp}{E:XK}
abbrev bodyX (P:Program)(w:World)(K:PySem.W.Frag)(mg:Str→Option Value)(base:Heap)(N:List Str)(qual:Str)(scope:Scope)(f:Addr)(cd:Value)(A:Around)(outer:List Env)(s0:Shared)(H0:Hp)(E:XK):Cx :=
 cxOf (CXE P w) P w K mg base N qual scope f cd A outer s0 H0 E
theorem nq {pins:List (Addr×Obj)}{σ:St}{H':Hp}{s':Shared}{B h2:Heap}{ea C t:Addr}(J:Inv (bodyX P w K mg base N qual scope f cd A outer s0 H0 E) pins σ H' s')
  (cov:Cov B s0.heap s'.heap H' (envOfC qual scope s0.heap.objs.size f cd::outer)) (up:s'.heap.UpToSlots h2) (fl:Heap.FlyingW B outer ea (.ref C) (.ref t) h2) (hn:H' ea=none) (hE:E (.ref C) none H') :
  CXE P w outer H0 s0 E (.ref ea) { s' with heap:=h2 }:=by
 have hB:=fl.1
 have nloc:∀ b o,s0.heap.get? b=some o→b≠s0.heap.objs.size:=fun b o e=>Nat.ne_of_lt (Heap.lt_size e)
 have nstk:∀ b,b≠s0.heap.objs.size→b∉frs outer→b∉frs (envOfC qual scope s0.heap.objs.size f cd::outer):=fun b h1 h2 z=>(List.mem_cons.mp (J.stkSub b z)).elim h1 h2
 have trk:∀ b o,s'.heap.get? b=some o→H' b≠none→B.get? b=some o:=fun b o e ht=>cov b o e (.inl ht) fun z=>ht (J.stkFree b z)
 have noe:∀ b:Addr,b∉([]:List Addr):=fun _ z=>nomatch z
 have nf:∀ b∈frs outer,∀ o,s'.heap.get? b=some o→∀ vs,o.data≠.fields vs:=fun b hb o e=>by
  obtain⟨_,o',e',d⟩:=J.funs.mem hb
  rw[e]at e';cases e';exact d
 have thr:∀ b o,s0.heap.get? b=some o→∃ o',s'.heap.get? b=some o'∧(b∉frs outer→B.get? b=some o'):=fun b o e=>by
  obtain⟨o',e1⟩:=J.base.there b o e (noe b)
  exact⟨o',e1,fun hb=>cov b o' e1 (.inr ⟨o,e⟩) (nstk b (nloc b o e) hb)⟩
 refine⟨ea,C,t,H',B,rfl,J.os,J.bare,⟨fun b o e n hb hx=>?_,fun b o e n hb hx=>?_,J.base.free,fun b o e hx=>?_,J.base.tups,J.base.frzs,J.base.tbls⟩,fun b u e=>?_,fl,hn,fun b o e hc hb=>?_,hE⟩
 ·have e1:=J.base.keep b o e n hb hx
  exact hB b o (cov b o e1 (.inr ⟨o,e⟩) (nstk b (nloc b o e) hb))
 ·obtain⟨sl,e1⟩:=J.base.slot b o e n hb hx
  obtain⟨sl',e2⟩:=up b _ e1 (nf b hb _ e1)
  exact⟨sl',e2⟩
 ·obtain⟨o',e1,e2⟩:=thr b o e
  by_cases hb:b∈frs outer
  ·obtain⟨sl',e3⟩:=up b _ e1 (nf b hb _ e1)
   exact⟨_,e3⟩
  ·exact⟨o',hB b o' (e2 hb)⟩
 ·refine(J.hok b u e).stay (fun c v hc q=>hB c v (trk c v q ?_)) (fun _ q=>q) fun _ _ q=>q
  rcases hc with z | z
  ·subst z;rw[e];simp
  ·rw[z];simp
 ·have same:∀ o',s'.heap.get? b=some o'→B.get? b=some o'→B.get? b=some o:=fun o' _ q=>by
   have:=hB b o' q
   have e':h2.get? b=some o:=e
   rw[e']at this;cases this;exact q
  rcases hc with z | ⟨o',z⟩
  ·cases q:H' b with
   | none=>exact absurd q z
   | some u =>
    obtain⟨o',e1⟩:=objThere (J.hok b u q)
    exact same o' e1 (trk b o' e1 (by rw[q];simp))
  ·obtain⟨o'',e1,e2⟩:=thr b o' z
   exact same o'' e1 (e2 hb)
theorem jP:Passes (CXE P w) (bodyX P w K mg base N qual scope f cd A outer s0 H0 E) E:=by
 intro pins σ H s e s' I h
 obtain⟨ea,C,t,H',B,rfl,os,bare,un,hok,fl,hn,cov,hE⟩:=h
 have J:Inv (bodyX P w K mg base N qual scope f cd A outer s0 H0 E) pins σ H' s':=I.call' (ch:=[]) os un hok bare fun b z=>nomatch z
 refine wpAny_leaves_onW I.ok.frames rfl fl fun h2 fl2 up=>?_
 refine nq J (fun b o e hc hb=>cov b o e ?_ hb) up fl2 hn hE
 rcases hc with z | ⟨o',z⟩
 ·exact .inl z
 ·obtain⟨o'',z'⟩:=I.base.there b o' z (fun q=>nomatch q)
  exact .inr ⟨o'',z'⟩
theorem oi {pins:List (Addr×Obj)}{σ:St}{H:Hp}{s:Shared}{h1:Heap}{ea C:Addr}{args:List Value}(I:Inv (bodyX P w K mg base N qual scope f cd A outer s0 H0 E) pins σ H s)(hx:Heap.MadeExcOf s.heap h1 ea (.ref C) args)(hE:E (.ref C) none H) :
  (bodyX P w K mg base N qual scope f cd A outer s0 H0 E).xe (.ref ea) { s with heap:=h1 }:=by
 have hin:∀ env∈(envOfC qual scope s0.heap.objs.size f cd::outer),∀ a,env.frame=some a→a∈frs (envOfC qual scope s0.heap.objs.size f cd::outer):=fun env he a ha=>List.mem_filterMap.mpr ⟨env,he,ha⟩
 refine wpAny_leaves_madeW (s:={ s with heap:=h1 }) (base:=PySem.W.hideAll s.heap (frs (envOfC qual scope s0.heap.objs.size f cd::outer))) I.ok.frames rfl (fun b o q=>PySem.W.of_hideAll _ q) (PySem.W.funFrames_hide I.stack hin) hx fun h2 t fl _ _ up=>?_
 have hn:H ea=none:=by
  cases q:H ea with
  | none=>rfl
  | some u =>
   obtain⟨o,e⟩:=objThere (I.hok ea u q)
   rw[hx.new]at e;cases e
 exact nq (s':=s) I (fun b o e _ hb=>PySem.W.hideAll_get _ e hb) ((Heap.UpToSlots.of_keeps hx.keeps).trans up) fl hn hE
end
end FF
end
noncomputable section
namespace FF
open PySem PySem.Spec PyProof.Rows L2
def relabN (names:List (Str×NameKind))(env:Env):List (Str×NameKind) :=
 names.map fun (n,k)=>if (k==.free&&env.scope.kind==.function&&env.kindOf n==some .cell) then (n,.cell) else (n,k)
theorem ip {env:Env}:∀ {names:List (Str×NameKind)} {x:Str},names.lookup x=some .free→(relabN names env).lookup x=some .cell∨(relabN names env).lookup x=some .free
 | [],_,h=>by simp at h
 | (n,k)::r,x,h=>by
  have ih:=@ip env r x
  show List.lookup x ((if (k==NameKind.free&&env.scope.kind==.function&&env.kindOf n==some .cell)=true then (n,NameKind.cell) else (n,k))::relabN r env)=_∨List.lookup x ((if (k==NameKind.free&&env.scope.kind==.function&&env.kindOf n==some .cell)=true then (n,NameKind.cell) else (n,k))::relabN r env)=_
  cases hx:x==n with
  | true =>
   simp only[List.lookup_cons,hx]at h
   cases h
   split
   ·exact .inl (by simp[List.lookup_cons,hx])
   ·exact .inr (by simp[List.lookup_cons,hx])
  | false =>
   simp only[List.lookup_cons,hx]at h
   split<;>(simp only[List.lookup_cons,hx];exact ih h)
theorem ir {env:Env}:∀ {names:List (Str×NameKind)} {x:Str},((relabN names env).lookup x=some .cell∨(relabN names env).lookup x=some .free)→∃ y∈names,y.1=x∧(y.2=.free∨y.2=.cell)
 | [],_,h=>by simp[relabN]at h
 | (n,k)::r,x,h=>by
  have ih:=@ir env r x
  change List.lookup x ((if (k==NameKind.free&&env.scope.kind==.function&&env.kindOf n==some .cell)=true then (n,NameKind.cell) else (n,k))::relabN r env)=_∨List.lookup x ((if (k==NameKind.free&&env.scope.kind==.function&&env.kindOf n==some .cell)=true then (n,NameKind.cell) else (n,k))::relabN r env)=_ at h
  cases hx:x==n with
  | true =>
   have e:x=n:=eq_of_beq hx
   refine⟨(n,k),List.mem_cons_self,e.symm,?_⟩
   by_cases hq:(k==NameKind.free&&env.scope.kind==.function&&env.kindOf n==some .cell)=true
   ·simp only[Bool.and_eq_true,beq_iff_eq]at hq
    exact .inl hq.1.1
   ·rw[if_neg hq]at h
    simp only[List.lookup_cons,hx]at h
    rcases h with h | h
    ·cases h;exact .inr rfl
    ·cases h;exact .inl rfl
  | false =>
   have h':(relabN r env).lookup x=some .cell∨(relabN r env).lookup x=some .free:=by
    by_cases hq:(k==NameKind.free&&env.scope.kind==.function&&env.kindOf n==some .cell)=true
    ·rw[if_pos hq]at h;simpa only[List.lookup_cons,hx] using h
    ·rw[if_neg hq]at h;simpa only[List.lookup_cons,hx] using h
   obtain⟨y,hy,e⟩:=ih h'
   exact⟨y,List.mem_cons_of_mem _ hy,e⟩
theorem bg:∀ (names:List (Str×NameKind)) (n:Nat) (acc:List (Str×Addr)),cellsFrom n names acc=cellsFrom n names []++acc
 | [],_,_=>rfl
 | (name,kind)::r,n,acc=>by
  unfold cellsFrom
  split
  ·rw[bg r (n+1) ((name,n)::acc),bg r (n+1) [(name,n)],List.append_assoc];rfl
  ·exact bg r n acc
theorem f9:∀ (names:List (Str×NameKind)) (n:Nat) {x:Str} {c:Addr},(x,c)∈cellsFrom n names []→(x,NameKind.cell)∈names
 | [],_,_,_,h=>nomatch h
 | (name,kind)::r,n,x,c,h=>by
  unfold cellsFrom at h
  split at h
  ·rename_i hk
   rw[bg]at h
   rcases List.mem_append.mp h with h | h
   ·exact List.mem_cons_of_mem _ (f9 r _ h)
   ·rw[List.mem_singleton]at h
    cases h
    rw[eq_of_beq hk];exact List.mem_cons_self
  ·exact List.mem_cons_of_mem _ (f9 r _ h)
theorem gg:∀ (names:List (Str×NameKind)) (n:Nat) {x:Str},(x,NameKind.cell)∈names→∃ c,(cellsFrom n names []).lookup x=some c
 | [],_,_,h=>nomatch h
 | (name,kind)::r,n,x,h=>by
  by_cases hr:(x,NameKind.cell)∈r
  ·unfold cellsFrom
   split
   ·obtain⟨c,hc⟩:=gg r (n+1) hr
    rw[bg,List.lookup_append,hc];exact⟨c,rfl⟩
   ·exact gg r n hr
  ·rcases List.mem_cons.mp h with e | e
   ·cases e
    unfold cellsFrom
    rw[if_pos (by rfl),bg,List.lookup_append]
    cases (cellsFrom (n+1) r []).lookup name with
    | some c=>exact⟨c,rfl⟩
    | none=>exact⟨n,by simp[List.lookup_cons]⟩
   ·exact absurd e hr
structure CellsB (scope:Scope)(cl cl2:List (Str×Addr))(C:Addr)(h:Heap):Prop where
 old:∀ n c,cl2.lookup n=some c→(cl.lookup n=some c∧(n,NameKind.cell)∉scope.names)∨(C < c∧h.IsCell c none∧(n,NameKind.cell)∈scope.names)
 keep:∀ n,(n,NameKind.cell)∉scope.names→cl2.lookup n=cl.lookup n
 mine:∀ n,(n,NameKind.cell)∈scope.names→∃ c,cl2.lookup n=some c
 inj:∀ x y c,C < c→cl2.lookup x=some c→cl2.lookup y=some c→(x,NameKind.cell)∈scope.names→(y,NameKind.cell)∈scope.names→x=y
section
variable {M:Model}{A:Around}{E:Value→Shared→Prop}{s:Shared}
theorem ku {scope:Scope}{globals:Addr}{cl:List (Str×Addr)}{qual:Str}{env:Env}{Q:Env→Shared→Prop}
  (hQ:∀ h' cl2,h'.Ns s.heap.objs.size (fun _=>none)→(∀ b o,s.heap.get? b=some o→h'.get? b=some o)→CellsB scope cl cl2 s.heap.objs.size h'→Q (newEnv scope s.heap.objs.size globals cl2 qual none .none (some env) builtinsNs) { s with heap:=h' }) :
  wpAny M A (newFunctionEnv scope globals cl [] qual none .none (some env)) Q E s:=by
 simp only[newFunctionEnv,Option.isSome_some,if_true]
 refine wpAny_bind (wpAny_alloc ?_)
 refine wpAny_bind (wpAny_layCells _ (fun name kind cells=>by cases hkc:kind==NameKind.cell<;>simp[hkc]) _ _ _ _ ?_)
 have ok:=cellsFrom_ok scope.names (s.heap.push { cls:=.type "dict",data:=.dict #[] }) (s.heap.objs.size+1) [] ⟨fun _ _ hm=>(nomatch hm),List.Pairwise.nil⟩ (by rw[Heap.size_push];exact Nat.le_refl _)
 rw[Heap.size_push]at ok
 rw[show ({ s with heap:=s.heap.push { cls:=.type "dict",data:=.dict #[] } }:Shared).heap.objs.size=s.heap.objs.size+1 from Heap.size_push ..]
 simp only[List.forIn_nil]
 refine wpAny_bind (wpAny_pure (wpAny_pure ?_))
 refine hQ _ _ ((Heap.Ns.new s.heap (.type "dict")).keeps (pushCells_keeps _ _)) (fun b o e=>pushCells_keeps _ _ b o (Heap.get?_push_of_some _ e)) ?_
 have look:∀ n,(cellsFrom (s.heap.objs.size+1) scope.names cl).lookup n=((cellsFrom (s.heap.objs.size+1) scope.names []).lookup n).or (cl.lookup n):=fun n=>by rw[bg,List.lookup_append]
 have no:∀ n,(n,NameKind.cell)∉scope.names→(cellsFrom (s.heap.objs.size+1) scope.names []).lookup n=none:=fun n hn=>by
  cases e:(cellsFrom (s.heap.objs.size+1) scope.names []).lookup n with
  | none=>rfl
  | some c=>exact absurd (f9 _ _ (PySem.mem_of_lookup e)) hn
 have keep:∀ n,(n,NameKind.cell)∉scope.names→(cellsFrom (s.heap.objs.size+1) scope.names cl).lookup n=cl.lookup n:=fun n hn=>by rw[look,no n hn];rfl
 have new:∀ n,(n,NameKind.cell)∈scope.names→∃ c,(cellsFrom (s.heap.objs.size+1) scope.names []).lookup n=some c∧(cellsFrom (s.heap.objs.size+1) scope.names cl).lookup n=some c:=fun n hn=>by
  obtain⟨c,hc⟩:=gg scope.names (s.heap.objs.size+1) hn
  exact⟨c,hc,by rw[look,hc];rfl⟩
 refine⟨fun n c e=>?_,keep,fun n hn=>?_,fun x y c _ ex ey hx hy=>?_⟩
 ·by_cases hn:(n,NameKind.cell)∈scope.names
  ·obtain⟨c',h1,h2⟩:=new n hn
   rw[e]at h2;cases h2
   have:=ok.empty n c (PySem.mem_of_lookup h1)
   exact .inr ⟨this.2,this.1,hn⟩
  ·rw[keep n hn]at e
   exact .inl ⟨e,hn⟩
 ·obtain⟨c,_,h2⟩:=new n hn
  exact⟨c,h2⟩
 ·obtain⟨c1,h1,h2⟩:=new x hx
  obtain⟨c2,h3,h4⟩:=new y hy
  rw[ex]at h2;cases h2
  rw[ey]at h4;cases h4
  exact name_of_addr ok.apart (PySem.mem_of_lookup h1) (PySem.mem_of_lookup h3)
end
theorem d6 {names:List (Str×NameKind)}{x:Str}{k:NameKind}(h:names.lookup x=some k):(x,k)∈names:=PySem.mem_of_lookup h
def blk (X:Cx)(scope:Scope)(cl:List (Str×Addr))(C:Addr)(s:Shared)(H:Hp)(fp:List Addr)(N:List Str):Cx where
 prog:=X.prog
 w:=X.w
 K:=X.K
 mg:=X.mg
 base:=X.base
 A:=X.A
 N:=N
 s₀:=s
 H₀:=H
 env:=compEnvC scope cl C X.env
 outer:=X.stack
 stack:=X.stack
 ex:=fp
 fn:=fun x=>scope.names.lookup x==some .cell
 calm:=true
 pn:=[]
 xe:=fun _ _=>False
def startB (own:Nat)(cap:List Nat)(σ:St):St:=List.replicate own none++cap.map fun i=>(σ[i]?).getD none
structure BlkOk (XN:List Str)(osc scope:Scope)(N:List Str)(own:Nat)(cap:List Nat):Prop where
 kind:scope.kind=.function
 ncell:∀ y∈scope.names,y.2=.cell→scope.names.lookup y.1=some .cell
 nfree:∀ y∈scope.names,y.2=.free→scope.names.lookup y.1=some .free
 nloc:∀ y∈scope.names,y.2=.local→scope.names.lookup y.1=some .local
 free:∀ y∈scope.names,y.2=.free→osc.names.lookup y.1=some .cell∨osc.names.lookup y.1=some .free
 len:N.length=own+cap.length
 capN:∀ j i,cap[j]?=some i→∃ x,N[own+j]?=some x∧XN[i]?=some x∧scope.names.lookup x=some .free
section
variable {X:Cx}{pins:List (Addr×Obj)}{σ:St}{H:Hp}{s:Shared}{scope:Scope}{N:List Str}{own:Nat}{cap:List Nat}{cl:List (Str×Addr)}{fp:List Addr}
theorem sN {cl2:List (Str×Addr)}(b:BlkOk X.N X.env.scope scope N own cap)(hc:X.calm=true)(I:Inv X pins σ H s)(hf:∀ b∈fp,FpOk X pins H b)(hfo:∀ b∈fp,b < s.heap.objs.size)(c1:∀ n c,cl.lookup n=some c→X.env.cells.lookup n=some c)
  (c2:∀ y∈scope.names,y.2=.free→∃ c,cl.lookup y.1=some c) {h':Heap} {t':Nat} {m:Str→Option Value} (hns:h'.Ns s.heap.objs.size m) (hk:∀ b o,s.heap.get? b=some o→h'.get? b=some o) (cb:CellsB scope cl cl2 s.heap.objs.size h') :
  Inv (blk X scope cl2 s.heap.objs.size s H fp N) [] (startB own cap σ) H { s with heap:=h',toks:=t' }:=by
 have hC:H s.heap.objs.size=none:=I.hok.fresh (Nat.le_refl _)
 have lt:∀ n c,cl.lookup n=some c→c < s.heap.objs.size:=fun n c e=>by obtain⟨v,hv⟩:=I.cell n c (c1 n c e);exact hv.lt
 have inj:∀ x y c,cl2.lookup x=some c→cl2.lookup y=some c→x=y:=fun x y c h1 h2=>by
  rcases cb.old x c h1 with ⟨a1,_⟩ | ⟨a1,_,a2⟩<;>rcases cb.old y c h2 with ⟨b1,_⟩ | ⟨b1,_,b2⟩
  ·exact I.ok.inj x y c (c1 x c a1) (c1 y c b1)
  ·exact absurd (lt x c a1) (Nat.lt_asymm b1)
  ·exact absurd (lt y c b1) (Nat.lt_asymm a1)
  ·exact cb.inj x y c a1 h1 h2 a2 b2
 refine⟨⟨I.ok.mod,b.kind,I.ok.glob,I.ok.blt,Nat.le_refl _,inj,fun x hx=>?_,fun x c hx e=>?_,fun _=>I.ok.hd hc,I.ok.frames,.inl rfl,fun b' hb=>?_,I.bs,Nat.le_trans I.ok.bsz I.sz,fun b' o e hb=>?_,fun b' hb hm=>?_,I.stack,I.stkFree⟩,rfl,I.bare,Un.kept hk,⟨m,hns,fun i x v h1 h2 h3=>?_⟩,fun x c e=>?_,hC,fun x c e=>?_,fun p hp=>(nomatch hp),I.hok.kept hk,?_⟩
 ·obtain⟨y,hy,e1,e2⟩:=ir (env:=X.env) hx
  rcases e2 with e2 | e2
  ·obtain⟨c,e⟩:=c2 y hy e2
   have hn:(y.1,NameKind.cell)∉scope.names:=fun z=>by
    have q1:=b.nfree y hy e2
    have q2:=b.ncell _ z rfl
    rw[q1]at q2;cases q2
   exact⟨c,by rw[← e1];show cl2.lookup y.1=some c;rw[cb.keep _ hn];exact e⟩
  ·obtain⟨c,e⟩:=cb.mine y.1 (by rw[← e2];exact hy)
   exact⟨c,by rw[← e1];exact e⟩
 ·rcases cb.old x c e with ⟨a1,a2⟩ | ⟨a1,_,_⟩
  ·have hx':(scope.names.lookup x==some NameKind.cell)=true:=hx
   exact absurd (d6 (eq_of_beq hx')) a2
  ·exact Nat.le_of_lt a1
 ·refine⟨Nat.ne_of_lt (hfo b' hb),fun x c e=>?_⟩
  rcases cb.old x c e with ⟨a1,_⟩ | ⟨a1,_,_⟩
  ·exact(hf b' hb).2.2.2.2.1 x c (c1 x c a1)
  ·exact fun z=>Nat.lt_asymm a1 (z ▸ hfo b' hb)
 ·rcases(hf b' hb).2.2.2.1 with z | z
  ·exact I.ok.noex b' o e z
  ·have:=Heap.lt_size (I.ok.bs b' o e).1
   exact absurd (Nat.lt_of_lt_of_le this z) (Nat.lt_irrefl _)
 ·rcases List.mem_cons.mp (I.stkSub b' hm) with z | z
  ·exact(hf b' hb).2.1 z
  ·exact(hf b' hb).2.2.1 z
 ·
  unfold startB at h2
  by_cases hi:i < own
  ·rw[List.getElem?_append_left (by simpa using hi),List.getElem?_replicate]at h2
   split at h2<;>cases h2
  ·rw[List.getElem?_append_right (by simpa using hi),List.length_replicate,List.getElem?_map]at h2
   cases e:cap[i - own]? with
   | none=>rw[e]at h2;cases h2
   | some k =>
    rw[e]at h2
    obtain⟨x',f1,f2,f3⟩:=b.capN _ _ e
    rw[show own+(i - own)=i by omega]at f1
    have h1':N[i]?=some x:=h1
    rw[h1']at f1;cases f1
    have h2':σ[k]?=some (some v):=by
     cases q:σ[k]? with
     | none=>simp only[Option.map_some,q,Option.getD_none,Option.some.injEq]at h2;cases h2
     | some o=>simp only[Option.map_some,q,Option.getD_some,Option.some.injEq]at h2;rw[h2]
    obtain⟨m0,_,hl⟩:=I.loc
    have kf:=b.free (x,.free) (d6 f3) rfl
    obtain⟨u,r,l⟩:=hl k x v f2 h2' (kf.elim (fun z=>.inr (.inl z)) fun z=>.inr (.inr z))
    refine⟨u,r,?_⟩
    rcases l with ⟨z,_⟩ | ⟨_,c,e1,e2⟩
    ·have z':X.env.scope.names.lookup x=some .local:=z
     rcases kf with y | y
     ·have y':X.env.scope.names.lookup x=some .cell:=y
      rw[z']at y';cases y'
     ·have y':X.env.scope.names.lookup x=some .free:=y
      rw[z']at y';cases y'
    ·obtain⟨c',g1⟩:=c2 (x,.free) (d6 f3) rfl
     have g2:=c1 x c' g1
     rw[e1]at g2;cases g2
     have hn:(x,NameKind.cell)∉scope.names:=fun z=>by
      have q2:=b.ncell _ z rfl
      have q2':scope.names.lookup x=some .cell:=q2
      rw[f3]at q2';cases q2'
     exact .inr ⟨ip (env:=X.env) f3,c,by show cl2.lookup x=some c;rw[cb.keep _ hn];exact g1,by obtain⟨o,ho,hd⟩:=e2;exact⟨o,hk _ _ ho,hd⟩⟩
 ·rcases cb.old x c e with ⟨a1,_⟩ | ⟨_,a2,_⟩
  ·obtain⟨v,o,ho,hd⟩:=I.cell x c (c1 x c a1)
   exact⟨v,o,hk _ _ ho,hd⟩
  ·exact⟨none,a2⟩
 ·rcases cb.old x c e with ⟨a1,_⟩ | ⟨a1,_,_⟩
  ·exact I.freeC x c (c1 x c a1)
  ·exact I.hok.fresh (Nat.le_of_lt a1)
 ·unfold startB
  show _=N.length
  rw[List.length_append,List.length_replicate,List.length_map,b.len]
theorem qh {s3 s':Shared}{H3 H':Hp}{σ':St}{pl:List (Addr×Obj)}{D C:Addr}(I:Inv X pins σ H s)(hf:∀ b∈fp,FpOk X pins H b)(hD:D=s.heap.objs.size)(h3:s3={ s with heap:=s.heap.push { cls:=.type "list",data:=.seq #[] } })(hH:H3=upd H D (.lst []))(hC:C=s3.heap.objs.size)
  (J:Inv (blk X scope cl C s3 H3 fp N) pl σ' H' s'):Inv X pins σ H' s'∧FpOk X pins H' C∧∃ m,s'.heap.Ns C m:=by
 subst h3
 have hs:s.heap.objs.size≤C:=by rw[hC];show _≤(s.heap.push _).objs.size;rw[Heap.size_push];exact Nat.le_succ _
 have u1:Un (frs X.stack) fp H H3 s.heap (s.heap.push { cls:=.type "list",data:=.seq #[] }):=by
  rw[hH,hD]
  exact Un.laid (fun b u e=>Heap.get?_push_of_some _ e) (Nat.le_refl _) (I.hok.fresh (Nat.le_refl _))
 have u2:Un (frs X.stack) fp H3 H' (s.heap.push { cls:=.type "list",data:=.seq #[] }) s'.heap:=J.base
 have os:s'.os=s.os:=J.os
 refine⟨I.call' (ch:=fp) os (u1.trans u2) J.hok J.bare fun b hb=>?_,I.fpOk hs J.free,?_⟩
 ·obtain⟨_,f1,f2,f3,f4,f5⟩:=hf b hb
  exact⟨f3,f1,f4,f5⟩
 ·obtain⟨m,hn,_⟩:=J.loc
  exact⟨m,hn⟩
end
def tTests (ifs:List Expr)(t:TT):TT:=match ifs with
 | []=>fun _ H Q=>Q true H
 | _::_=>t
theorem ms {ifs:List Expr}{t:TT}{σ:St}{H:Hp}{Q:Bool→Hp→Prop}(e:ifs=[])(h:tTests ifs t σ H Q):Q true H:=by subst e;exact h
theorem mt {ifs:List Expr}{t:TT}{σ:St}{H:Hp}{Q:Bool→Hp→Prop}{c:Expr}(e:ifs=[c])(h:tTests ifs t σ H Q):t σ H Q:=by subst e;exact h
theorem oj {M:Model}{A:Around}{ifs:List Expr}{env:Env}{Q:Bool→Shared→Prop}{E:Value→Shared→Prop}{s:Shared}(hifs:ifs.length≤1)(h0:ifs=[]→Q true s)(h1:∀ c,ifs=[c]→wpAny M A (isTrue c env (eval c env)) Q E s):wpAny M A (tests ifs env) Q E s:=by
 match ifs,hifs,h0,h1 with
 | [],_,h0,_=>exact wpAny_pure (h0 rfl)
 | [c],_,_,h1=>exact h1 c rfl
def BlkW (sz:Nat)(J:It)(g:TG)(tc:TT)(te:TE)(D:Addr)(Fin:Hp→List V→Prop)(W:Nat→Nat→St→Hp→List V→Prop):Prop :=
 ∀ i m σ H ys,W i m σ H ys→H D=some (.lst ys)∧((J.stop i H∧Fin H ys)∨(J.go i H∧∀ x H',J.yld i H x H'→g x σ H' fun σ2 H2=>tc σ2 H2 fun ok H3 =>
  if ok=true then te σ2 H3 fun y H4=>H4 D=some (.lst ys)∧ys.length < sz∧∃ m',m' < m∧W (i+1) m' σ2 (upd H4 D (.lst (ys++[y]))) (ys++[y])
  else ∃ m',m' < m∧W (i+1) m' σ2 H3 ys))
section
variable {X:Cx}{elt tg iter:Expr}{ifs:List Expr}{scope:Scope}{N:List Str}{own:Nat}{cap:List Nat}{pos:Pos}{wi:TI}{g:TG}{tc:TT}{te:TE}
set_option maxHeartbeats 4000000 in
theorem k7 {pins:List (Addr×Obj)}{σ:St}{H:Hp}{s:Shared}{it:Addr}{fp:List Addr}{tn:Nat→Heap→Prop}{J:It}{cl:List (Str×Addr)}{E:Value→Shared→Prop}{RR:Value→Addr→Result→Shared→Prop}{Fin:Addr→Hp→List V→Prop}
  (b:BlkOk X.N X.env.scope scope N own cap) (hc:X.calm=true) (hifs:ifs.length≤1)
  (hg:∀ cl C s H fp,PG (blk X scope cl C s H fp N) tg g) (ht:∀ c,ifs=[c]→∀ cl C s H fp,PT (blk X scope cl C s H fp N) c tc) (he:∀ cl C s H fp,PE (blk X scope cl C s H fp N) elt te)
  (hclos:closureFor scope X.env=pure cl) (c1:∀ n c,cl.lookup n=some c→X.env.cells.lookup n=some c) (c2:∀ y∈scope.names,y.2=.free→∃ c,cl.lookup y.1=some c)
  (I:Inv X pins σ H s) (T:Turn X.prog X.w X.K tg J fp it tn) (st:tn 0 s.heap) (hf:∀ b∈fp,FpOk X pins H b)
  (hW:∀ D,H D=none→∃ W,BlkW sizeLine J g (tTests ifs tc) te D (Fin D) W∧∃ m,W 0 m (startB own cap σ) (upd H D (.lst [])) [])
  (fin:∀ D C s' H' ys,Inv X pins σ H' s'→FpOk X pins H' C→(∃ m,s'.heap.Ns C m)→H' D=some (.lst ys)→Fin D H' ys→RR (.ref D) C (.ok .next) s') :
  wpAny (model X.prog X.w) X.A (newList []) (fun acc s3=>wpAny (model X.prog X.w) X.A (newFunctionEnv scope X.env.globals cl [] X.env.qual none .none (some X.env)) (fun cenv s4 =>
   codeAny (model X.prog X.w) X.A (.compStart (.ListComp elt [⟨tg,iter,ifs,0⟩] scope pos) 0 (.ref it) acc { cenv with scope:=relabel scope X.env }) (RR acc cenv.locals) s4) E s3) E s:=by
 have hfo:∀ b∈fp,b < s.heap.objs.size:=fun b hb=>by
  obtain⟨o,e,_⟩:=T.obj 0 _ st b hb
  exact Heap.lt_size e
 have hD:H s.heap.objs.size=none:=I.hok.fresh (Nat.le_refl _)
 obtain⟨W,hturn,m0,w0⟩:=hW _ hD
 refine wpAny_newObj_type (ku fun h1 cl2 hns kk cb=>?_)
 have I3:Inv X pins σ (upd H s.heap.objs.size (.lst [])) { s with heap:=s.heap.push { cls:=.type "list",data:=.seq #[] } }:=I.lnew (t':=s.toks) (its:=[]) .nil (Nat.zero_le _)
 have hfp3:∀ b∈fp,FpOk X pins (upd H s.heap.objs.size (.lst [])) b:=fun b hb=>⟨by rw[al (Nat.ne_of_lt (hfo b hb))];exact(hf b hb).1,(hf b hb).2⟩
 have st1:tn 0 h1:=T.keep 0 _ _ st fun b hb o e=>kk b o (Heap.get?_push_of_some _ e)
 generalize hX:blk X scope cl2 (s.heap.push { cls:=.type "list",data:=.seq #[] }).objs.size { s with heap:=s.heap.push { cls:=.type "list",data:=.seq #[] } } (upd H s.heap.objs.size (.lst [])) fp N=X'
 have I4:Inv X' [] (startB own cap σ) (upd H s.heap.objs.size (.lst [])) { s with heap:=h1 }:=by
  rw[← hX]
  exact sN b hc I3 hfp3 (fun b hb=>Nat.lt_of_lt_of_le (hfo b hb) (by show _≤(s.heap.push _).objs.size;rw[Heap.size_push];exact Nat.le_succ _)) c1 c2 hns kk cb
 have eP:X'.prog=X.prog:=by rw[← hX];rfl
 have ew:X'.w=X.w:=by rw[← hX];rfl
 have eK:X'.K=X.K:=by rw[← hX];rfl
 have eA:X'.A=X.A:=by rw[← hX];rfl
 have ec:X'.calm=true:=by rw[← hX];rfl
 have ee:X'.env=compEnvC scope cl2 (s.heap.push { cls:=.type "list",data:=.seq #[] }).objs.size X.env:=by rw[← hX];rfl
 have ex:X'.xe=fun _ _=>False:=by rw[← hX];rfl
 have epn:X'.pn=[]:=by rw[← hX];rfl
 have eex:X'.ex=fp:=by rw[← hX];rfl
 have pg:PG X' tg g:=by rw[← hX];exact hg _ _ _ _ _
 have pe:PE X' elt te:=by rw[← hX];exact he _ _ _ _ _
 have pt:∀ c,ifs=[c]→PT X' c tc:=fun c q=>by rw[← hX];exact ht c q _ _ _ _ _
 have fpB:∀ {H':Hp},(∀ b∈fp,H' b=none)→∀ {s'':Shared} {σ':St},Inv X' [] σ' H' s''→∀ b∈fp,FpOk X' [] H' b:=fun {H'} hn {s'' σ'} Iv b hb =>
  ⟨hn b hb,(Iv.ok.exf b (by rw[eex];exact hb)).1,Iv.ok.exfs b (by rw[eex];exact hb),.inl (by rw[eex];exact hb),(Iv.ok.exf b (by rw[eex];exact hb)).2,fun p hp=>by rw[epn]at hp;exact(nomatch hp)⟩
 have loop:codeAny (model X.prog X.w) X.A (.compLoop (.ListComp elt [⟨tg,iter,ifs,0⟩] scope pos) 0 (.ref it) (.ref s.heap.objs.size) (compEnvC scope cl2 (s.heap.push { cls:=.type "list",data:=.seq #[] }).objs.size X.env))
   (RR (.ref s.heap.objs.size) (s.heap.push { cls:=.type "list",data:=.seq #[] }).objs.size) { s with heap:=h1 }:=by
  refine n8 hifs (fun n s'=>∃ i σ' H' ys,Inv X' [] σ' H' s'∧tn i s'.heap∧(∀ b∈fp,H' b=none)∧W i n σ' H' ys) (fun n s5 ⟨i,σ5,H5,ys,I5,st5,fr5,w5⟩=>?_) m0
   ⟨0,startB own cap σ,_,[],I4,st1,fun b hb=>(hfp3 b hb).1,w0⟩
  obtain⟨hDy,hgo⟩:=hturn i n σ5 H5 ys w5
  have hs5:=fpB fr5 I5
  rcases hgo with ⟨stop,hfin⟩ | ⟨go,step⟩
  ·have q:=T.done X' eP ew eK ec i [] s5 σ5 H5 (fun _ _=>False) I5 hs5 st5 stop
   rw[eA]at q
   refine wpAny_mono q (fun r s6 ⟨hr,I6⟩=>?_) fun _ _ z=>z
   subst hr
   rw[← hX]at I6
   obtain⟨J1,J2,J3⟩:=qh I hf rfl rfl rfl rfl I6
   exact fin _ _ s6 H5 ys J1 J2 J3 hDy hfin
  ·have q:=T.item X' eP ew eK ec i [] s5 σ5 H5 (fun _ _=>False) I5 hs5 st5 go
   rw[eA]at q
   refine wpAny_mono q (fun r s6 ⟨u,hr,h6⟩=>?_) fun _ _ z=>z
   subst hr
   refine wpAny_mono h6 (fun _ s7 ⟨x,H7,I7,r7,y7,st7,fr7⟩=>?_) fun _ _ z=>z
   have I7':=I7.pinned (fpB fr7 I7) (T.obj _ _ st7)
   rw[List.nil_append]at I7'
   have qg:=pg _ s7 σ5 H7 x u _ I7' r7 (step x H7 y7)
   rw[eP,ew,eA,ee,ex]at qg
   refine wpAny_mono qg (fun _ s8 ⟨σ8,H8,I8,q8⟩=>?_) fun _ _ z=>z
   have again:∀ {s9:Shared} {H9:Hp} {zs:List V},Inv X' (pinsAt fp s7.heap) σ8 H9 s9→(∃ m',m' < n∧W (i+1) m' σ8 H9 zs) →
     ∃ m,m < n∧∃ i σ' H' ys,Inv X' [] σ' H' s9∧tn i s9.heap∧(∀ b∈fp,H' b=none)∧W i m σ' H' ys:=fun {s9 H9 zs} I9 ⟨m',hm,w9⟩=>by
    have I9':Inv X' ([]++pinsAt fp s7.heap) σ8 H9 s9:=by rw[List.nil_append];exact I9
    refine⟨m',hm,i+1,σ8,H9,zs,I9'.unpinned,T.keep _ _ _ st7 fun b hb o e=>(I9.pin (b,o) (List.mem_append_right _ (dA hb e))).1,fun b hb=>?_,w9⟩
    obtain⟨o,e,d⟩:=T.obj _ _ st7 b hb
    exact(I9.pin (b,o) (List.mem_append_right _ (dA hb e))).2.1
   have body:∀ (ok:Bool) (s9:Shared),(∃ H9,Inv X' (pinsAt fp s7.heap) σ8 H9 s9∧(if ok=true then te σ8 H9 fun y H4=>H4 s.heap.objs.size=some (.lst ys)∧ys.length < sizeLine∧∃ m',m' < n∧W (i+1) m' σ8 (upd H4 s.heap.objs.size (.lst (ys++[y]))) (ys++[y]) else ∃ m',m' < n∧W (i+1) m' σ8 H9 ys)) →
     if ok=true then wpAny (model X.prog X.w) X.A (eval elt (compEnvC scope cl2 (s.heap.push { cls:=.type "list",data:=.seq #[] }).objs.size X.env)) (fun x s5=>wpAny (model X.prog X.w) X.A (call (.builtin "list.append") [.ref s.heap.objs.size,x]) (fun _ s6=>∃ m,m < n∧∃ i σ' H' ys,Inv X' [] σ' H' s6∧tn i s6.heap∧(∀ b∈fp,H' b=none)∧W i m σ' H' ys) (fun _ _=>False) s5) (fun _ _=>False) s9
     else ∃ m,m < n∧∃ i σ' H' ys,Inv X' [] σ' H' s9∧tn i s9.heap∧(∀ b∈fp,H' b=none)∧W i m σ' H' ys:=by
    intro ok s9 ⟨H9,I9,h9⟩
    cases ok with
    | false=>exact again I9 h9
    | true =>
     have qe:=pe _ s9 σ8 H9 _ I9 h9
     rw[eP,ew,eA,ee,ex]at qe
     refine wpAny_mono qe (fun u s10 ⟨y,H10,I10,r10,hD10,hlt,m',hm,w10⟩=>?_) fun _ _ z=>z
     have qa:=jM (X:=X') (pinsAt fp s7.heap) s10 σ8 H10 (.ref s.heap.objs.size) [y] (.ref s.heap.objs.size) [u] (fun _ H11=>H11=upd H10 s.heap.objs.size (.lst (ys++[y]))) I10 rfl (.cons r10 .nil)
      ⟨s.heap.objs.size,ys,y,rfl,rfl,hD10,hlt,rfl⟩
     rw[eP,ew,eA,ex]at qa
     refine wpAny_mono qa (fun _ s11 ⟨_,H11,I11,_,e11⟩=>?_) fun _ _ z=>z
     subst e11
     exact again I11 ⟨m',hm,w10⟩
   refine oj hifs (fun q=>body true s8 ⟨H8,I8,ms q q8⟩) fun c q=>?_
   have qt:=pt c q _ s8 σ8 H8 _ I8 (mt q q8)
   rw[eP,ew,eA,ee,ex]at qt
   exact wpAny_mono qt (fun ok s9 ⟨H9,I9,h9⟩=>body ok s9 ⟨H9,I9,h9⟩) fun _ _ z=>z
 exact codeAny_compStart_list loop (T.self _ 0 _ _ _ st1 loop)
def tComp (own:Nat)(cap:List Nat)(wi:TI)(g:TG)(tc:TT)(te:TE):TE:=fun σ H Q=>wi σ H fun J H1=>∀ D,H1 D=none→∃ W,BlkW sizeLine J g tc te D (fun H' _=>Q (.ref D) H') W∧∃ m,W 0 m (startB own cap σ) (upd H1 D (.lst [])) []
theorem nr (b:BlkOk X.N X.env.scope scope N own cap)(hc:X.calm=true)(hifs:ifs.length≤1)(hi:PI X tg iter wi)
  (hg:∀ cl C s H fp,PG (blk X scope cl C s H fp N) tg g) (ht:∀ c,ifs=[c]→∀ cl C s H fp,PT (blk X scope cl C s H fp N) c tc) (he:∀ cl C s H fp,PE (blk X scope cl C s H fp N) elt te)
  (hs:∀ x,foldedSetIterable iter X.env x=pure x:=by intro _;rfl):PE X (.ListComp elt [⟨tg,iter,ifs,0⟩] scope pos) (tComp own cap wi g (tTests ifs tc) te):=by
 intro pins s σ H Q I h
 obtain⟨cl,hclos,c1,c2⟩:=ik scope X.env fun y hy hf=>I.ok.has y.1 (b.free y hy hf)
 rw[eval_ListComp]
 refine wpAny_comprehension_free (use:=none) rfl hs hclos b.kind b.nloc (thn (hi pins s σ H _ I h) fun v s1 h1=>thn h1 fun itv s2 h2=>?_)
 obtain⟨it,fp,tn,J,H2,e,I2,T,st2,f2,hW⟩:=h2
 subst e
 refine k7 (RR:=fun acc C=>compPost (model X.prog X.w) X.A X.xe none (EP X pins σ Q) acc C) b hc hifs hg ht he hclos c1 c2 I2 T st2 f2 hW fun D C s' H' ys J1 J2 ⟨m,hm⟩ hD hQ=>?_
 refine⟨m,hm,fun h' hsb=>⟨.ref D,H',?_,rfl,hQ⟩⟩
 obtain⟨f0,f1,f2,f3,f4,f5⟩:=J2
 exact J1.turned (t':=s'.toks) (fun b o hb e=>(hsb.2 b hb).trans e) f0 f1 f3 f4 f5
def tCompSet (i own:Nat)(cap:List Nat)(wi:TI)(g:TG)(tc:TT)(te:TE):TS:=fun E σ H=>wi σ H fun J H1=>∀ D,H1 D=none→∃ W,BlkW sizeLine J g tc te D (fun H' _=>E.nx (σ.set i (some (.ref D))) H') W∧∃ m,W 0 m (startB own cap σ) (upd H1 D (.lst [])) []
theorem eX {i:Nat}{y:Str}{py spos:Pos}(b:BlkOk X.N X.env.scope scope N own cap)(hc:X.calm=true)(hifs:ifs.length≤1)(hi:PI X tg iter wi)
  (hg:∀ cl C s H fp,PG (blk X scope cl C s H fp N) tg g) (ht:∀ c,ifs=[c]→∀ cl C s H fp,PT (blk X scope cl C s H fp N) c tc) (he:∀ cl C s H fp,PE (blk X scope cl C s H fp N) elt te)
  (hN:X.N.Nodup) (hiy:X.N[i]?=some y) (hy:Loc X.env.scope y) (hfn:X.fn y=true∨X.env.scope.names.lookup y=some .local)
  (hsw:swapsWith (.ListComp elt [⟨tg,iter,ifs,0⟩] scope pos) (some (.Name y py)) spos.line X.env=pure true)
  (hs:∀ x,foldedSetIterable iter X.env x=pure x:=by intro _;rfl):PS X (.Assign [.Name y py] (.ListComp elt [⟨tg,iter,ifs,0⟩] scope pos) spos) (tCompSet i own cap wi g (tTests ifs tc) te):=by
 intro pins s σ H E I h
 obtain⟨cl,hclos,c1,c2⟩:=ik scope X.env fun y hy hf=>I.ok.has y.1 (b.free y hy hf)
 rw[exec_Assign_Name_used _ _ _ _ hsw]
 refine wpAny_bind (wpAny_standAt (wpAny_bind ?_))
 show wpAny _ X.A (do let _ ← comprehension (.ListComp elt [⟨tg,iter,ifs,0⟩] scope pos) scope X.env _ (newList []) false (eval iter X.env) (some (assign (.Name y py) X.env))) _ _ s
 refine wpAny_bind (wpAny_mono (wpAny_comprehension_free (use:=some (assign (.Name y py) X.env)) (Q:=fun _ s'=>SP X pins E .next s') rfl hs hclos b.kind b.nloc (thn (hi pins s σ H _ I h) fun v s1 h1=>thn h1 fun itv s2 h2=>?_)) (fun _ s' hq=>wpAny_pure (wpAny_pure hq)) fun _ _ e=>e)
 obtain⟨it,fp,tn,J,H2,e,I2,T,st2,f2,hW⟩:=h2
 subst e
 refine k7 (RR:=fun acc C=>compPost (model X.prog X.w) X.A X.xe (some (assign (.Name y py) X.env)) (fun _ s'=>SP X pins E .next s') acc C) b hc hifs hg ht he hclos c1 c2 I2 T st2 f2 hW fun D C s' H' ys J1 J2 ⟨m,hm⟩ hD hQ=>?_
 obtain⟨f0,f1,f2,f3,f4,f5⟩:=J2
 refine wpAny_assign_Name (jG J1 hN hiy hy (v:=.ref D) rfl (fun s'' I'' ⟨a,hsb,ha⟩=>?_) hfn)
 have hne:C≠a:=by
  rcases ha with z | z
  ·rw[z];exact f1
  ·exact fun q=>f4 y a z q.symm
 refine⟨m,hm.sameBut hsb hne,fun h' hs'=>⟨_,H',I''.turned (t':=s''.toks) (fun b o hb e=>(hs'.2 b hb).trans e) f0 f1 f3 f4 f5,hQ⟩⟩
end
end FF
end
noncomputable section
namespace FF
open PySem PySem.Spec PyProof.Rows L2
def Walk (J:It)(vs:List V)(Ok:Hp→Prop):Prop:=∀ (i:Nat) (H:Hp),Ok H→(i < vs.length→J.go i H∧∀ x H',J.yld i H x H'→H'=H∧vs[i]?=some x)∧(vs.length≤i→J.stop i H)
def WalkG (F:Fx)(J:It)(ds:List D)(Z1:Hp):Prop:=∀ (i:Nat) (H Z:Hp),Same Z1 Z→Same Z H→(i < ds.length→J.go i H∧∀ x H',J.yld i H x H'→∃ Z' d,Ex H Z H' Z'∧ds[i]?=some d∧Rep F.K F.C Z' d x)∧(ds.length≤i→J.stop i H)
theorem iu {F:Fx}{J:It}{ds:List D}{vs:List V}{Z1:Hp}(rs:Reps F.K F.C Z1 ds vs)(w:Walk J vs (Same Z1)):WalkG F J ds Z1:=fun i H Z z1 z2=>by
 obtain⟨k1,k2⟩:=w i H (z1.trans z2)
 have hl:=rs.length
 refine⟨fun hi=>?_,fun hi=>k2 (by omega)⟩
 obtain⟨go,y⟩:=k1 (by omega)
 exact⟨go,fun x H' hy=>by
  obtain⟨e0,e2⟩:=y x H' hy
  subst e0
  obtain⟨d,e3,rd⟩:=rs.get' e2
  exact⟨Z,d,Ex.refl z2,e3,rd.mono z1⟩⟩
def tI (F:Fx)(g:SS→R (List D)):TI:=fun σ H Q=>∃ Z S,StOk F H Z S σ∧WG F H Z (g S) fun ds H' Z'=>∀ J,WalkG F J ds Z'→ds.length≤16777216→Q J H'
abbrev FI (X:Cx)(F:Fx)(tg e:Expr)(g:SS→R (List D)):Prop:=PI X tg e (tI F g)
def asSeq:D→R (List D)
 | .tup xs=>.ok xs
 | .lst xs=>.ok xs
 | _=>.stuck
def iSeq (g:SS→R D):SS→R (List D):=fun S=>(g S).bind fun d=>(asSeq d).bind fun ds=>if ds.length≤16777216 then .ok ds else .stuck
theorem _root_.L2.PI.weak {X:Cx}{tg e:Expr}{t t':TI}(h:PI X tg e t)(w:∀ σ H Q,t' σ H Q→t σ H Q):PI X tg e t':=fun pins s σ H Q I q=>h pins s σ H Q I (w σ H Q q)
theorem om {K:PySem.W.Frag}{a:Addr}{vs:List V}{Z:Hp}(h:SqL K Z a vs):Walk (Itl K a) vs (Same Z):=fun i H hz =>
 ⟨fun hi=>⟨⟨vs,vs[i],hz.seq h,by simp[hi]⟩,fun x H' ⟨e,y⟩=>⟨e,y vs (hz.seq h)⟩⟩,fun hi=>⟨vs,hz.seq h,hi⟩⟩
theorem qj {K:PySem.W.Frag}{a:Addr}{vs:List V}{Z:Hp}(h:SqT K Z a vs):Walk (Itt K a) vs (Same Z):=fun i H hz =>
 ⟨fun hi=>⟨⟨vs,vs[i],h.mono hz,by simp[hi]⟩,fun x H' ⟨e,y⟩=>⟨e,y vs (h.mono hz)⟩⟩,fun hi=>⟨vs,h.mono hz,hi⟩⟩
theorem mv {lo:Int}{n:Nat}{Z:Hp}:Walk (Itr lo n) ((List.range n).map fun i=>.int (lo+(i:Nat))) (Same Z):=fun i H hz=>by
 refine⟨fun hi=>?_,fun hi=>?_⟩
 ·have hi':i < n:=by simpa using hi
  exact⟨hi',fun x H' ⟨e,y⟩=>⟨e,by rw[y];simp[hi']⟩⟩
 ·show n≤i
  simpa using hi
theorem uX {X:Cx}{tg l:Expr}{tl:TE}(hl:PE X l tl):PI X tg l (fun σ H R=>tl σ H fun x H1=>∃ a,x=.ref a∧(((∃ xs,SqL X.K H1 a xs)∧R (Itl X.K a) H1)∨((∃ xs,SqT X.K H1 a xs)∧R (Itt X.K a) H1))):=by
 intro pins s σ H Q I h
 refine thn (hl pins s σ H _ I h) fun v s1 ⟨x,H1,I1,r1,a,e,q⟩=>?_
 subst e
 cases r1
 rcases q with ⟨⟨xs,hq⟩,q⟩ | ⟨⟨xs,hq⟩,q⟩
 ·obtain⟨its,rv,p,hz⟩:=I1.list hq
  refine wpAny_pyIter_list p.isList ⟨s1.heap.objs.size,[s1.heap.objs.size],_,_,H1,rfl,I1.kept (t':=s1.toks) fun b o e=>Heap.get?_push_of_some _ e,nV a _,⟨_,Heap.get?_push_size _ rfl,rfl,rfl⟩,fun b hb=>?_,q⟩
  obtain rfl:b=s1.heap.objs.size:=by simpa using hb
  exact I1.fpOk (Nat.le_refl _) (I1.hok.fresh (Nat.le_refl _))
 ·obtain⟨its,rv,p,hz⟩:=I1.tuple hq
  refine wpAny_pyIter_tuple (show s1.heap.IsTuple a its.toArray from p) ⟨s1.heap.objs.size,[s1.heap.objs.size],_,_,H1,rfl,I1.kept (t':=s1.toks) fun b o e=>Heap.get?_push_of_some _ e,me a _,⟨_,Heap.get?_push_size _ rfl,rfl,rfl⟩,fun b hb=>?_,q⟩
  obtain rfl:b=s1.heap.objs.size:=by simpa using hb
  exact I1.fpOk (Nat.le_refl _) (I1.hok.fresh (Nat.le_refl _))
section
variable {X:Cx}{F:Fx}{tg e:Expr}{g:SS→R D}{gs:SS→R (List D)}
theorem aX (hK:X.K=F.K)(h:FE X F e g):FI X F tg e (iSeq g):=(uX h).weak fun σ H Q ⟨Z,S,ok,w⟩=>aE ok w fun d v H1 Z1 ok1 x1 rv w1=>by
 rw[hK]
 cases d with
 | tup ds =>
  rw[Rep]at rv
  obtain⟨a,vs,rfl,h1,h2⟩:=rv
  have w2:WG F H1 Z1 (if ds.length≤16777216 then R.ok ds else .stuck) _:=w1
  split at w2
  ·rename_i hl
   exact⟨a,rfl,.inr ⟨⟨vs,h1.mono ok1.sub⟩,WG.now w2 ok1.sub _ (iu h2 (qj h1)) hl⟩⟩
  ·exact w2.elim
 | lst ds =>
  rw[Rep]at rv
  obtain⟨a,vs,rfl,h1,h2⟩:=rv
  have w2:WG F H1 Z1 (if ds.length≤16777216 then R.ok ds else .stuck) _:=w1
  split at w2
  ·rename_i hl
   exact⟨a,rfl,.inl ⟨⟨vs,ok1.sub.seq h1⟩,WG.now w2 ok1.sub _ (iu h2 (om h1)) hl⟩⟩
  ·exact w2.elim
 | _=>exact w1.elim
def rngD (lo:Int)(n:Nat):List D:=(List.range n).map fun i=>.int (lo+(i:Nat))
def rng1:List D→R (List D)
 | [.int j]=>if -16777216≤j∧j≤16777216 then .ok (rngD 0 j.toNat) else .stuck
 | _=>.stuck
def iRange1 (gs:SS→R (List D)):SS→R (List D):=fun S=>(gs S).bind rng1
theorem k8 {K:PySem.W.Frag}{C:Nat→Addr}{Z:Hp}(lo:Int):∀ (l:List Nat),Reps K C Z (l.map fun i=>.int (lo+(i:Nat))) (l.map fun i=>.int (lo+(i:Nat)))
 | []=>Reps.nil
 | a::r=>Reps.cons (by rw[Rep]) (k8 lo r)
theorem nt {K:PySem.W.Frag}{C:Nat→Addr}{Z:Hp}{j:Int}{vs:List V}(r:Reps K C Z [.int j] vs):vs=[.int j]:=by
 rw[Reps]at r
 obtain⟨v,r',rfl,h1,h2⟩:=r
 rw[Reps]at h2
 rw[Rep]at h1
 rw[h1,h2]
theorem ql {K:PySem.W.Frag}{C:Nat→Addr}{Z:Hp}{i j:Int}{vs:List V}(r:Reps K C Z [.int i,.int j] vs):vs=[.int i,.int j]:=by
 rw[Reps]at r
 obtain⟨v,r',rfl,h1,h2⟩:=r
 rw[Rep]at h1
 rw[h1,nt h2]
theorem sO {ds:List D}{es:List D}(h:rng1 ds=.ok es):∃ j:Int,ds=[.int j]∧(-16777216≤j∧j≤16777216)∧es=rngD 0 j.toNat:=by
 unfold rng1 at h
 split at h
 ·rename_i j
  split at h
  ·rename_i q;cases h;exact⟨j,rfl,q,rfl⟩
  ·cases h
 ·cases h
theorem sP {ds:List D}{k:Nat}(h:rng1 ds=.err k):False:=by
 unfold rng1 at h
 split at h
 ·split at h<;>cases h
 ·cases h
theorem aV {a:Expr}{p pos:Pos}(hg:Gl X "range")(hm:X.mg "range"=none)(ha:FA X F [a] gs)(hs:starEach [a] X.env=[(false,eval a X.env)]:=by rfl):FI X F tg (.Call (.Name "range" p) [a] [] pos) (iRange1 gs) :=
 (nW hg hm ha hs).weak fun σ H Q ⟨Z,S,ok,w⟩=>bc ok w fun ds vs H1 Z1 ok1 x1 rs w1=>by
  cases e:rng1 ds with
  | err k=>exact(sP e).elim
  | stuck=>rw[e]at w1;exact w1.elim
  | ok es =>
   rw[e]at w1
   obtain⟨j,rfl,hj,rfl⟩:=sO e
   exact⟨j,nt rs,by omega,by omega,WG.now w1 ok1.sub _ (iu (k8 0 _) mv) (by unfold rngD;rw[List.length_map,List.length_range];omega)⟩
end
def tGd (F:Fx)(g:D→SS→R SS):TG:=fun v σ H Q=>∃ Z S d,StOk F H Z S σ∧Rep F.K F.C Z d v∧WG F H Z (g d S) fun S' H' Z'=>∀ σ',StOk F H' Z' S' σ'→Q σ' H'
abbrev FG (X:Cx)(F:Fx)(tg:Expr)(g:D→SS→R SS):Prop:=PG X tg (tGd F g)
def gNm (i:Nat):D→SS→R SS:=fun d S=>.ok (S.set i (some (.val d)))
theorem _root_.L2.PG.weak {X:Cx}{tg:Expr}{t t':TG}(h:PG X tg t)(w:∀ v σ H Q,t' v σ H Q→t v σ H Q):PG X tg t':=fun pins s σ H v u Q I r q=>h pins s σ H v u Q I r (w v σ H Q q)
theorem ay {X:Cx}{F:Fx}(i:Nat){x:Str}{pos:Pos}(hN:X.N.Nodup)(hi:X.N[i]?=some x:=by rfl)(hx:Loc X.env.scope x:=by first | exact Or.inl rfl | exact Or.inr rfl)(hf:X.fn x=true∨X.env.scope.names.lookup x=some .local:=by first | exact .inl rfl | exact .inr rfl) :
  FG X F (.Name x pos) (gNm i):=(fi hN hi hx hf).weak fun v σ H Q ⟨Z,S,d,ok,r,w⟩=>WG.now w ok.sub _ (ok.setVal r)
end FF
end
noncomputable section
namespace FF
open PySem PySem.Spec PyProof.Rows L2
def spF (K:PySem.W.Frag)(C:Nat→Addr)(n:Nat)(f:List D→R D):Sp:=fun vs H Q E =>
 vs.length=n∧∃ Z ds,Same Z H∧Reps K C Z ds vs∧WG ⟨K,C,H,Z,E⟩ H Z (f ds) fun d H' Z'=>∀ v,Rep K C Z' d v→Q v H'
def outD (o:O):R D:=match o with
 | .nx _=>.ok .non
 | .rt d=>.ok d
 | .er k=>.err k
 | _=>.stuck
def startS (n:Nat)(ds:List D):SS:=ds.map (fun d=>some (.val d))++List.replicate (n - ds.length) none
def fnD (n:Nat)(body:SS→O):List D→R D:=fun ds=>outD (body (startS n ds))
theorem k9 {F:Fx}{N:List Str}{ds:List D}{vs:List V}(z:Same F.Z0 F.H0)(r:Reps F.K F.C F.Z0 ds vs):StOk F F.H0 F.Z0 (startS N.length ds) (start N vs):=by
 have hl:=r.length
 have at_:∀ {i:Nat} {x:Option Sl},(startS N.length ds)[i]?=some x→(i < ds.length∧∃ d,ds[i]?=some d∧x=some (.val d))∨x=none:=fun {i x} e=>by
  unfold startS at e
  by_cases hi:i < ds.length
  ·rw[List.getElem?_append_left (by simpa using hi),List.getElem?_map]at e
   cases q:ds[i]? with
   | none=>rw[q]at e;cases e
   | some d=>rw[q]at e;cases e;exact .inl ⟨hi,d,rfl,rfl⟩
  ·rw[List.getElem?_append_right (by simpa using hi),List.getElem?_replicate]at e
   split at e
   ·cases e;exact .inr rfl
   ·cases e
 refine⟨Ex.refl z,?_,fun i d e=>?_,fun i j x y v w A B _ e1 _ _ _ o1 _=>?_⟩
 ·unfold startS L2.start
  simp[hl]
 ·rcases at_ e with ⟨hi,d',e1,e2⟩ | e2
  ·cases e2
   obtain⟨v,e3,rv⟩:=r.get e1
   refine⟨v,[],?_,⟨rfl,rv⟩,Priv.nil⟩
   unfold L2.start
   rw[List.getElem?_append_left (by simpa [← hl] using hi),List.getElem?_map,e3]
   rfl
  ·cases e2
 ·rcases at_ e1 with ⟨_,d',_,e2⟩ | e2
  ·cases e2;rw[o1.1];exact fun a ha=>nomatch ha
  ·cases e2
section
variable {P:Program}{w:World}{K:PySem.W.Frag}{mg:Str→Option Value}{base:Heap}
structure BX (X:Cx)(F:Fx)(k:Nat):Prop where
 room:Room k X.A
 K:X.K=F.K
 calm:X.calm=true
 pass:Passes (CXE X.prog X.w) X F.E
theorem wj {x qual:Str}{st:Stmt}{f:Addr}{fd:FuncData}{N ps:List Str}{k:Nat}{C:Nat→Addr}{body:SS→O}(F:Fun K x qual st f fd)(S:FnScope N ps (defScope st))
  (h:∀ (cdv:Value) (A:Around) (outer:List Env) (s:Shared) (H Z:Hp) (E:XK),BX (bodyX P w K mg base N qual (defScope st) f cdv A outer s H E) ⟨K,C,H,Z,E⟩ k →
   PassesOwn (model P w) (bodyX P w K mg base N qual (defScope st) f cdv A outer s H E).A (bodyX P w K mg base N qual (defScope st) f cdv A outer s H E).env (bodyX P w K mg base N qual (defScope st) f cdv A outer s H E).xe →
   FSs (bodyX P w K mg base N qual (defScope st) f cdv A outer s H E) ⟨K,C,H,Z,E⟩ (defBody st) body) :
  FnOk P w K mg base (CXE P w) (k+1) f fd ps (spF K C ps.length (fnD N.length body)):=by
 obtain⟨oc,od,kV,doc,pm,an,cdv,ct,osl,rfl,lk,hcd⟩:=F.ex
 refine pQ lk hcd S (fun vs H Q E q=>q.1) fun A outer s H vs Q E hr hsp=>?_
 obtain⟨_,Z,ds,z,r,w⟩:=hsp
 refine⟨_,h cdv A outer s H Z E ⟨hr,rfl,rfl,jP⟩ PassesOwn.leaving,Z,startS N.length ds,k9 (F:=⟨K,C,H,Z,E⟩) (N:=N) z r,?_⟩
 unfold fnD at w
 cases e:body (startS N.length ds) with
 | nx S'=>rw[e]at w;exact fun σ' H' Z' _ ok=>w H' Z' ok.ex .non (by rw[Rep])
 | rt d=>rw[e]at w;exact fun v H' Z' x rv=>w H' Z' x v rv
 | er k=>rw[e]at w;exact w
 | bk S'=>rw[e]at w;exact w.elim
 | ct S'=>rw[e]at w;exact w.elim
 | stuck=>rw[e]at w;exact w
end
structure Fn1 (P:Program)(w:World)(K:PySem.W.Frag)(mg:Str→Option Value)(base:Heap)(C:Nat→Addr)(k:Nat)(x:Str)(ps:List Str)(f:List D→R D):Prop where
 ex:∃ a fd,FnOk P w K mg base (CXE P w) k a fd ps (spF K C ps.length f)∧mg x=some (.ref a)∧PySem.W.keepIn K (.ref a)=true∧Binds K fd ps []
def eCall (f:List D→R D)(gs:SS→R (List D)):SS→R D:=fun S=>(gs S).bind f
section
variable {X:Cx}{F:Fx}{x:Str}{p pos:Pos}{e:Expr}{es:List Expr}{gs:SS→R (List D)}{k:Nat}{ps:List Str}{f:List D→R D}
theorem qm (n:Nat)(hn:∀ S ds,gs S=.ok ds→ds.length=n):∀ σ H Q,tE F (eCall f gs) σ H Q→tCall (spF F.K F.C n f) [] F.E (tAl F gs) σ H Q:=fun σ H Q ⟨Z,S,ok,w⟩=>by
 refine⟨Z,S,ok,?_⟩
 cases e:gs S with
 | err k=>unfold eCall at w;rw[e]at w;exact w
 | stuck=>unfold eCall at w;rw[e]at w;exact w
 | ok ds =>
  unfold eCall at w
  rw[e]at w
  intro H1 Z1 x1 vs rs
  have w1:=WG.more (r:=f ds) w x1
  refine⟨by rw[List.append_nil,← rs.length];exact hn S ds e,Z1,ds,x1.sub,by rw[List.append_nil];exact rs,?_⟩
  cases q:f ds with
  | ok d=>rw[q]at w1;exact w1
  | err k=>rw[q]at w1;exact w1
  | stuck=>rw[q]at w1;exact w1
theorem sQ (b:BX X F k)(h:Fn1 X.prog X.w F.K X.mg X.base F.C k x ps f)(hg:Gl X x)(ha:FA X F (e::es) gs)(hn:∀ S ds,gs S=.ok ds→ds.length=ps.length)(hdb:(x==("__debug__":Str))=false:=by decide)
  (he:starEach (e::es) X.env=(false,eval e X.env)::starEach es X.env:=by rfl) (hpl:(backTo pos (starEach es X.env)).any (·.1)=false:=by rfl):FE X F (.Call (.Name x p) (e::es) [] pos) (eCall f gs):=by
 obtain⟨a,fd,h1,h2,h3,h4⟩:=h.ex
 have hK:=b.K
 exact(sy (ds:=[]) (dvs:=[]) (E:=F.E) (by rw[hK];exact h1) b.room hg h2 (by rw[hK];exact h3) (by rw[hK];exact h4) .nil b.pass ha hdb he hpl).weak (qm ps.length hn)
theorem on {g:SS→R D}{gs:SS→R (List D)}{n:Nat}(h:∀ S ds,gs S=.ok ds→ds.length=n):∀ S ds,aCons g gs S=.ok ds→ds.length=n+1:=fun S ds e=>by
 unfold aCons at e
 cases q:g S with
 | err k=>rw[q]at e;cases e
 | stuck=>rw[q]at e;cases e
 | ok d =>
  rw[q]at e
  cases q2:gs S with
  | err k=>rw[R.bind_ok,q2]at e;cases e
  | stuck=>rw[R.bind_ok,q2]at e;cases e
  | ok r =>
   rw[R.bind_ok,q2]at e
   cases e
   simp[h S r q2]
end
def noErr {α:Type}(r:R α):R α:=match r with
 | .ok a=>.ok a
 | _=>.stuck
def blkS (own:Nat)(cap:List Nat)(S:SS):SS:=List.replicate own none++cap.map fun i=>match S[i]? with
 | some (some (.val d))=>some (.val d)
 | _=>none
def compGo (S:SS)(g:D→SS→R SS)(c:SS→R Bool)(e:SS→R D):List D→R (List D)
 | []=>.ok []
 | d::r=>(g d S).bind fun S1=>(c S1).bind fun t=>if t=true then (e S1).bind fun y=>(compGo S g c e r).bind fun ys=>.ok (y::ys) else compGo S g c e r
def eComp (own:Nat)(cap:List Nat)(it:SS→R (List D))(g:D→SS→R SS)(c:SS→R Bool)(e:SS→R D):SS→R D:=fun S=>(it S).bind fun ds=>(noErr (compGo (blkS own cap S) g c e ds)).bind fun ys=>.ok (.lst ys)
def tTrue:SS→R Bool:=fun _=>.ok true
abbrev noE (F:Fx):Fx:={ F with E:=fun _ _ _=>False }
def Own (own:Nat)(g:D→SS→R SS):Prop:=∀ d S S1,g d S=.ok S1→S1.length=S.length∧∀ i,own≤i→S1[i]?=S[i]?
theorem aq {X:Cx}{F:Fx}{k:Nat}(bx:BX X F k){scope:Scope}{cl:List (Str×Addr)}{C:Addr}{s:Shared}{H:Hp}{fp:List Addr}{N:List Str}:BX (blk X scope cl C s H fp N) (noE F) k :=
 ⟨bx.room,bx.K,rfl,fun pins σ H s e s' _ h=>by
  obtain⟨_,_,_,_,_,_,_,_,_,_,_,_,_,hE⟩:=h
  exact hE.elim⟩
theorem aT {own i:Nat}(h:i < own):Own own (gNm i):=fun d S S1 e=>by
 cases e
 exact⟨by simp,fun j hj=>List.getElem?_set_ne (by omega)⟩
theorem StOk.forget {F:Fx}{H Z:Hp}{S S0:SS}{σ:St}(h:StOk F H Z S σ)(hl:S0.length=S.length)(hs:∀ (i:Nat) (x:Sl),S0[i]?=some (some x)→S[i]?=some (some x)):StOk F H Z S0 σ :=
 ⟨h.ex,hl.trans h.len,fun i x e=>h.sl i x (hs i _ e),fun i j x y v w A B hij e1 e2=>h.dj i j x y v w A B hij (hs i _ e1) (hs j _ e2)⟩
theorem StOk.wish {F:Fx}{H Z:Hp}{S:SS}{σ:St}(h:StOk F H Z S σ)(E:XK):StOk { F with E:=E } H Z S σ :=
 ⟨h.ex,h.len,fun i x e=>by obtain⟨v,A,e1,o,p⟩:=h.sl i x e;exact⟨v,A,e1,ow_K o,p.nd,p.z,p.h0⟩,fun i j x y v w A B hij e1 e2 e3 e4 o1 o2=>h.dj i j x y v w A B hij e1 e2 e3 e4 (ow_K o1) (ow_K o2)⟩
theorem fv {own:Nat}{cap:List Nat}{S:SS}{i:Nat}{x:Sl}(e:(blkS own cap S)[i]?=some (some x)):own≤i∧∃ k d,cap[i - own]?=some k∧S[k]?=some (some (.val d))∧x=.val d:=by
 unfold blkS at e
 by_cases hi:i < own
 ·rw[List.getElem?_append_left (by simpa using hi),List.getElem?_replicate]at e
  split at e<;>cases e
 ·rw[List.getElem?_append_right (by simpa using hi),List.length_replicate,List.getElem?_map]at e
  cases q:cap[i - own]? with
  | none=>rw[q]at e;cases e
  | some k =>
   rw[q]at e
   simp only[Option.map_some,Option.some.injEq]at e
   split at e
   ·rename_i d q2
    cases e
    exact⟨by omega,k,d,rfl,q2,rfl⟩
   ·cases e
theorem oo {F:Fx}{H Z:Hp}{S:SS}{σ:St}{own:Nat}{cap:List Nat}{D:Addr}(ok:StOk F H Z S σ)(hD:H D=none):StOk (noE F) (upd H D (.lst [])) Z (blkS own cap S) (startB own cap σ):=by
 refine⟨ok.ex.trans (Ex.hidden ok.sub hD),by simp[blkS,startB],fun i x e=>?_,fun i j x y v w A B _ e1 _ _ _ o1 _=>?_⟩
 ·obtain⟨hi,k,d',q1,q2,q3⟩:=fv e
  cases q3
  obtain⟨v,e1,r⟩:=ok.val k d' q2
  refine⟨v,[],?_,⟨rfl,r⟩,Priv.nil⟩
  unfold startB
  rw[List.getElem?_append_right (by simpa using hi),List.length_replicate,List.getElem?_map,q1]
  simp[e1]
 ·obtain⟨_,_,_,_,_,q⟩:=fv e1
  cases q
  rw[o1.1];exact fun a ha=>nomatch ha
section
variable {X:Cx}{F:Fx}{tg iter elt:Expr}{ifs:List Expr}{scope:Scope}{N:List Str}{own:Nat}{cap:List Nat}{pos:Pos}{git:SS→R (List D)}{g:D→SS→R SS}{gc:SS→R Bool}{ge:SS→R D}
theorem iw {σ:St}{H Z:Hp}{S:SS}{ifs:List Expr}{P:D→Hp→Hp→Prop}{Q:Addr→Hp→Prop}(hgc:ifs=[]→gc=tTrue)(hgo:Own own g)(ok:StOk F H Z S σ)(w:WG F H Z (eComp own cap git g gc ge S) P)
  (hP:∀ D ys ds H1 Z1 H' Z',Ex H Z H1 Z1→H1 D=none→Ex H1 Z1 H' Z'→Z' D=none→(∀ H'' Z'',Ex H1 Z1 H'' Z''→P (.lst ds) H'' Z'')→H' D=some (.lst ys)→Reps F.K F.C Z' ds ys→Q D H') :
  tI F git σ H fun J H1=>∀ D,H1 D=none→∃ W,BlkW sizeLine J (tGd (noE F) g) (tTests ifs (tT (noE F) gc)) (tE (noE F) ge) D (fun H' _=>Q D H') W∧∃ m,W 0 m (startB own cap σ) (upd H1 D (.lst [])) []:=by
 refine⟨Z,S,ok,?_⟩
 unfold eComp at w
 cases e:git S with
 | err k=>rw[e]at w;exact w
 | stuck=>rw[e]at w;exact w
 | ok ds =>
  rw[e]at w
  intro H1 Z1 x1 J wk hlen D hD
  have w1:=WG.more (r:=(noErr (compGo (blkS own cap S) g gc ge ds)).bind fun ys=>R.ok (FF.D.lst ys)) w x1
  have ok1:=ok.more x1
  have hS:=sizeLine_eq
  refine⟨fun i m σ' H' ys=>m=ds.length - i∧i≤ds.length∧H' D=some (.lst ys)∧ys.length≤i∧∃ Z' acc,Ex H1 Z1 H' Z'∧Z' D=none∧Reps F.K F.C Z' acc ys∧StOk (noE F) H' Z' (blkS own cap S) σ' ∧
   WG F H1 Z1 ((noErr (compGo (blkS own cap S) g gc ge (ds.drop i))).bind fun zs=>R.ok (FF.D.lst (acc++zs))) P,?_,ds.length,rfl,Nat.zero_le _,ap,Nat.le_refl _,Z1,[],Ex.hidden ok1.sub hD,ok1.sub.free hD,Reps.nil,oo ok1 hD,w1⟩
  rintro i m σ2 H2 ys ⟨rfl,hle,hDy,hyl,Z2,acc,x2,hZD,ra,ok2,w2⟩
  refine⟨hDy,?_⟩
  obtain⟨k1,k2⟩:=wk i H2 Z2 x2.z x2.sub
  by_cases hlt:i < ds.length
  ·obtain⟨go,y⟩:=k1 hlt
   refine .inr ⟨go,fun x H' hy=>?_⟩
   obtain⟨Z2',d,x',e3,rd⟩:=y x H' hy
   have ok2:=ok2.more x'
   have hZD:Z2' D=none:=by
    cases r:Z2' D with
    | none=>rfl
    | some o =>
     rcases x'.new D (by rw[r];simp) with z | z
     ·exact absurd hZD z
     ·rw[hDy]at z;cases z
   have hDy:=x'.same _ _ hDy
   have x2:=x2.trans x'
   have ra:=ra.mono x'.z
   have hd:ds.drop i=d::ds.drop (i+1):=by
    obtain⟨hi,e4⟩:=List.getElem?_eq_some_iff.mp e3
    rw[List.drop_eq_getElem_cons hi,e4]
   rw[hd]at w2
   unfold compGo at w2
   refine⟨Z2',blkS own cap S,d,ok2,rd,?_⟩
   cases qg:g d (blkS own cap S) with
   | err k=>rw[qg]at w2;exact w2.elim
   | stuck=>rw[qg]at w2;exact w2.elim
   | ok S1 =>
    rw[qg,R.bind_ok]at w2
    intro H3 Z3 x3 σ3 ok3
    obtain⟨gl,gk⟩:=hgo _ _ _ qg
    have back:∀ {H Z:Hp},StOk (noE F) H Z S1 σ3→StOk (noE F) H Z (blkS own cap S) σ3:=fun h=>h.forget gl.symm fun j z q=>by
     rw[gk j (fv q).1];exact q
    have hD3:H3 D=some (.lst ys):=x3.same _ _ hDy
    have x13:=x2.trans x3
    have zD:∀ {H Z:Hp},Ex H1 Z1 H Z→Ex H' Z2' H Z→Z D=none:=fun {H Z} _ q=>by
     cases r:Z D with
     | none=>rfl
     | some o =>
      rcases q.new D (by rw[r];simp) with z | z
      ·exact absurd hZD z
      ·rw[hDy]at z;cases z
    have fin:∀ (t:Bool) (H4 Z4:Hp),Ex H' Z2' H4 Z4→StOk (noE F) H4 Z4 S1 σ3→gc S1=.ok t→if t=true then tE (noE F) ge σ3 H4 fun y H5=>H5 D=some (.lst ys)∧ys.length < sizeLine∧∃ m',m' < ds.length - i∧(m'=ds.length - (i+1)∧i+1≤ds.length∧(upd H5 D (.lst (ys++[y]))) D=some (.lst (ys++[y]))∧(ys++[y]).length≤i+1∧∃ Z' acc,Ex H1 Z1 (upd H5 D (.lst (ys++[y]))) Z'∧Z' D=none∧Reps F.K F.C Z' acc (ys++[y])∧StOk (noE F) (upd H5 D (.lst (ys++[y]))) Z' (blkS own cap S) σ3 ∧
      WG F H1 Z1 ((noErr (compGo (blkS own cap S) g gc ge (ds.drop (i+1)))).bind fun zs=>R.ok (FF.D.lst (acc++zs))) P)
      else ∃ m',m' < ds.length - i∧(m'=ds.length - (i+1)∧i+1≤ds.length∧H4 D=some (.lst ys)∧ys.length≤i+1∧∃ Z' acc,Ex H1 Z1 H4 Z'∧Z' D=none∧Reps F.K F.C Z' acc ys∧StOk (noE F) H4 Z' (blkS own cap S) σ3 ∧
      WG F H1 Z1 ((noErr (compGo (blkS own cap S) g gc ge (ds.drop (i+1)))).bind fun zs=>R.ok (FF.D.lst (acc++zs))) P):=by
     intro t H4 Z4 x4 ok4 qc
     rw[qc,R.bind_ok]at w2
     cases t with
     | false =>
      rw[if_neg Bool.false_ne_true]at w2 ⊢
      exact⟨ds.length - (i+1),by omega,rfl,hlt,x4.same _ _ hDy,by omega,Z4,acc,x2.trans x4,zD (x2.trans x4) x4,ra.mono x4.z,back ok4,w2⟩
     | true =>
      rw[if_pos rfl]at w2 ⊢
      refine⟨Z4,S1,ok4,?_⟩
      cases qe:ge S1 with
      | err k=>rw[qe]at w2;exact w2.elim
      | stuck=>rw[qe]at w2;exact w2.elim
      | ok yd =>
       rw[qe,R.bind_ok]at w2
       intro H5 Z5 x5 yv ry
       have hD5:H5 D=some (.lst ys):=x5.same _ _ (x4.same _ _ hDy)
       have x25:=x4.trans x5
       have z5:=zD (x2.trans x25) x25
       have ok5:=ok4.more x5
       have n0:F.H0 D=none:=ok1.ex.same.free hD
       have xu:Ex H1 Z1 (upd H5 D (.lst (ys++[yv]))) Z5:=by
        have q:=x2.trans x25
        refine⟨fun b o e=>?_,q.z,fun b o e=>?_,q.new⟩
        ·rw[al (fun z=>by subst z;rw[hD]at e;cases e)];exact q.same b o e
        ·rw[al (fun z=>by subst z;rw[z5]at e;cases e)];exact q.sub b o e
       refine⟨hD5,by omega,ds.length - (i+1),by omega,rfl,hlt,ap,by simp;omega,Z5,acc++[yd],xu,z5,(ra.mono x25.z).append (Reps.cons ry Reps.nil),?_,?_⟩
       ·have q:=back ok5
        refine⟨⟨fun b o e=>?_,q.ex.z,fun b o e=>?_,q.ex.new⟩,q.len,fun j x e=>?_,fun j k x y v w A B _ e1 _ _ _ o1 _=>?_⟩
        ·rw[al (fun z=>by subst z;have e':F.H0 b=some o:=e;rw[n0]at e';cases e')];exact q.ex.same b o e
        ·rw[al (fun z=>by subst z;rw[z5]at e;cases e)];exact q.ex.sub b o e
        ·obtain⟨_,_,_,_,_,z⟩:=fv e
         cases z
         obtain⟨v,e1,r⟩:=q.val j _ e
         exact⟨v,[],e1,⟨rfl,r⟩,Priv.nil⟩
        ·obtain⟨_,_,_,_,_,z⟩:=fv e1
         cases z
         rw[o1.1];exact fun a ha=>nomatch ha
       ·cases qr:compGo (blkS own cap S) g gc ge (ds.drop (i+1)) with
        | err k=>rw[qr]at w2;exact w2.elim
        | stuck=>rw[qr]at w2;exact w2.elim
        | ok zs=>rw[qr]at w2;simpa [noErr,List.append_assoc] using w2
    cases qc:gc S1 with
    | err k=>rw[qc]at w2;exact w2.elim
    | stuck=>rw[qc]at w2;exact w2.elim
    | ok t =>
     cases ifs with
     | nil =>
      have:=hgc rfl
      subst this
      cases qc
      exact fin true H3 Z3 x3 ok3 rfl
     | cons c r =>
      refine⟨Z3,S1,ok3,?_⟩
      rw[qc]
      intro H4 Z4 x4
      exact fin t H4 Z4 (x3.trans x4) (ok3.more x4) qc
  ·have ei:i=ds.length:=by omega
   refine .inl ⟨k2 (by omega),?_⟩
   rw[List.drop_eq_nil_of_le (by omega)]at w2
   have w3:WG F H1 Z1 (R.ok (FF.D.lst (acc++[]))) P:=w2
   rw[List.append_nil]at w3
   exact hP D ys acc H1 Z1 H2 Z2 x1 hD x2 hZD w3 hDy ra
theorem gh {σ:St}{H Z:Hp}{S:SS}{ifs:List Expr}{P:D→Hp→Hp→Prop}{Q:Addr→Hp→Prop}(hgc:ifs=[]→gc=tTrue)(hgo:Own own g)(ok:StOk F H Z S σ)(w:WG F H Z (eComp own cap git g gc ge S) P)(hP:∀ D ys ds H' Z',Ex H Z H' Z'→P (.lst ds) H' Z'→H' D=some (.lst ys)→Z' D=some (.lst ys)→Reps F.K F.C Z' ds ys→Q D H') :
  tI F git σ H fun J H1=>∀ D,H1 D=none→∃ W,BlkW sizeLine J (tGd (noE F) g) (tTests ifs (tT (noE F) gc)) (tE (noE F) ge) D (fun H' _=>Q D H') W∧∃ m,W 0 m (startB own cap σ) (upd H1 D (.lst [])) [] :=
 iw hgc hgo ok w fun D ys ds H1 Z1 H2 Z2 x1 hD x2 hZD w3 hDy ra=>by
  have hz:Same Z2 (upd Z2 D (.lst ys)):=aD hZD
  have xf:Ex H1 Z1 H2 (upd Z2 D (.lst ys)):=by
   refine⟨x2.same,x2.z.trans hz,fun b o e=>?_,fun b hb=>?_⟩
   ·by_cases q:b=D
    ·subst q;rw[ap]at e;cases e;exact hDy
    ·rw[al q]at e;exact x2.sub b o e
   ·by_cases q:b=D
    ·subst q;exact .inr hD
    ·rw[al q]at hb;exact x2.new b hb
  exact hP D ys ds H2 _ (x1.trans xf) (w3 H2 _ xf) hDy ap (ra.mono hz)
theorem aP {k:Nat}(bx:BX X F k)(b:BlkOk X.N X.env.scope scope N own cap)(hi:FI X F tg iter git)(hgo:Own own g)
  (hg:∀ cl C s H fp,FG (blk X scope cl C s H fp N) (noE F) tg g) (he:∀ cl C s H fp,FE (blk X scope cl C s H fp N) (noE F) elt ge)
  (hs:∀ x,foldedSetIterable iter X.env x=pure x:=by intro _;rfl):FE X F (.ListComp elt [⟨tg,iter,[],0⟩] scope pos) (eComp own cap git g tTrue ge) :=
 (nr (ifs:=[]) (tc:=tT (noE F) tTrue) b bx.calm (by simp) hi hg (fun c q=>nomatch q) he hs).weak fun σ H Q ⟨Z,S,ok,w⟩ =>
  gh (fun _=>rfl) hgo ok w fun D ys ds H' Z' _ p h1 h2 r=>p _ (by rw[Rep];exact⟨D,ys,rfl,SqL.of h2,r⟩)
theorem oq {k:Nat}{c:Expr}(bx:BX X F k)(b:BlkOk X.N X.env.scope scope N own cap)(hi:FI X F tg iter git)(hgo:Own own g)
  (hg:∀ cl C s H fp,FG (blk X scope cl C s H fp N) (noE F) tg g) (ht:∀ cl C s H fp,FT (blk X scope cl C s H fp N) (noE F) c gc) (he:∀ cl C s H fp,FE (blk X scope cl C s H fp N) (noE F) elt ge)
  (hs:∀ x,foldedSetIterable iter X.env x=pure x:=by intro _;rfl):FE X F (.ListComp elt [⟨tg,iter,[c],0⟩] scope pos) (eComp own cap git g gc ge) :=
 (nr (ifs:=[c]) b bx.calm (by simp) hi hg (fun c' q=>by cases q;exact ht) he hs).weak fun σ H Q ⟨Z,S,ok,w⟩ =>
  gh (fun q=>nomatch q) hgo ok w fun D ys ds H' Z' _ p h1 h2 r=>p _ (by rw[Rep];exact⟨D,ys,rfl,SqL.of h2,r⟩)
theorem WG.unbind {α β:Type}{F:Fx}{H Z:Hp}{r:R α}{f:α→β}{P:β→Hp→Hp→Prop}(w:WG F H Z (r.bind fun d=>.ok (f d)) P):WG F H Z r fun d H' Z'=>P (f d) H' Z':=by
 cases r with
 | ok d=>exact w
 | err k=>exact w
 | stuck=>exact w
theorem qo {i:Nat}{D:Ends}{σ:St}{H Z:Hp}{S:SS}(hgc:ifs=[]→gc=tTrue)(hgo:Own own g)(ok:StOk F H Z S σ)(w:WO F Z (sSet i (eComp own cap git g gc ge) S) D) :
  tCompSet i own cap (tI F git) (tGd (noE F) g) (tTests ifs (tT (noE F) gc)) (tE (noE F) ge) D σ H :=
 gh (P:=fun d _ Z'=>WO F Z' (.nx (S.set i (some (.val d)))) D) (Q:=fun a H'=>D.nx (σ.set i (some (.ref a))) H') hgc hgo ok (WG.unbind (WO.wg ok w)) fun a ys ds H' Z' x p h1 h2 r =>
  p _ H' Z' (Same.refl _) ((ok.more x).setVal (by rw[Rep];exact⟨a,ys,rfl,SqL.of h2,r⟩))
theorem dC {k:Nat}(i:Nat){y:Str}{py spos:Pos}(bx:BX X F k)(b:BlkOk X.N X.env.scope scope N own cap)(hi:FI X F tg iter git)(hgo:Own own g)
  (hg:∀ cl C s H fp,FG (blk X scope cl C s H fp N) (noE F) tg g) (he:∀ cl C s H fp,FE (blk X scope cl C s H fp N) (noE F) elt ge) (hN:X.N.Nodup)
  (hsw:swapsWith (.ListComp elt [⟨tg,iter,[],0⟩] scope pos) (some (.Name y py)) spos.line X.env=pure true:=by rfl) (hiy:X.N[i]?=some y:=by rfl) (hy:Loc X.env.scope y:=by first | exact Or.inl rfl | exact Or.inr rfl)
  (hfn:X.fn y=true∨X.env.scope.names.lookup y=some .local:=by first | exact .inl rfl | exact .inr rfl) (hs:∀ x,foldedSetIterable iter X.env x=pure x:=by intro _;rfl) :
  FS X F (.Assign [.Name y py] (.ListComp elt [⟨tg,iter,[],0⟩] scope pos) spos) (sSet i (eComp own cap git g tTrue ge)) :=
 (eX (ifs:=[]) (tc:=tT (noE F) tTrue) b bx.calm (by simp) hi hg (fun c q=>nomatch q) he hN hiy hy hfn hsw hs).weak fun D σ H ⟨Z,S,ok,w⟩=>qo (fun _=>rfl) hgo ok w
end
end FF
end
noncomputable section
namespace FF
open PySem PySem.Spec PyProof.Rows L2
def dAdd (x y:D):R D:=if isInt x=true then dI0 (fun i j=>.int (i+j)) x y else if isTup x=true then dCatT x y else dCatL x y
def dSub:D→D→R D:=dI0 fun i j=>.int (i - j)
def dMul (x y:D):R D:=if isInt x=true then dI cMul (fun i j=>.int (i*j)) x y else if isTup x=true then dRepT x y else dRepL x y
def dDiv:D→D→R D:=dI cDiv fun i j=>.int (i/j)
def dMod:D→D→R D:=dI (fun _ j=>decide (0 < j)) fun i j=>.int (i%j)
def dLt:D→D→R D:=dI0 fun i j=>.bl (decide (i < j))
def dLe:D→D→R D:=dI0 fun i j=>.bl (decide (i≤j))
def dGt:D→D→R D:=dI0 fun i j=>.bl (decide (j < i))
def dGe:D→D→R D:=dI0 fun i j=>.bl (decide (j≤i))
theorem aK {K:PySem.W.Frag}{C:Nat→Addr}{Z:Hp}{i:Int}:Rep K C Z (.int i) (.int i):=by rw[Rep]
theorem aY {K:PySem.W.Frag}{C:Nat→Addr}{Z:Hp}{i:Bool}:Rep K C Z (.bl i) (.bl i):=by rw[Rep]
section
variable {X:Cx}{F:Fx}{a b c:Expr}{ga gb gc:SS→R D}{pos:Pos}
theorem cg (ha:FE X F a ga)(hb:FE X F b gb):FE X F (.BinOp a .Sub b pos) (eOp dSub ga gb):=kY uJ (cD fun _ _ _=>aK) ha hb
theorem gj (ha:FE X F a ga)(hb:FE X F b gb):FE X F (.BinOp a .FloorDiv b pos) (eOp dDiv ga gb):=kY ss (p5 sI fun _ _ _=>aK) ha hb
theorem iy (ha:FE X F a ga)(hb:FE X F b gb):FE X F (.BinOp a .Mod b pos) (eOp dMod ga gb):=kY uL (p5 (fun i j h=>of_decide_eq_true h) fun _ _ _=>aK) ha hb
theorem vG (ha:FE X F a ga)(hb:FE X F b gb):FE X F (.Compare a [.Lt] [b] pos) (eOp dLt ga gb):=mr pJ (cD fun _ _ _=>aY) ha hb
theorem qq (ha:FE X F a ga)(hb:FE X F b gb):FT X F (.Compare a [.Lt] [b] pos) (gB (eOp dLt ga gb)):=il pJ (cD fun _ _ _=>aY) ha hb
theorem ul (ha:FE X F a ga)(hb:FE X F b gb):FT X F (.Compare a [.Gt] [b] pos) (gB (eOp dGt ga gb)):=il vD (cD fun _ _ _=>aY) ha hb
theorem ag (hK:X.K=F.K)(ha:FE X F a ga)(hb:FE X F b gb)(hs:PlainIx b:=by intro _ _;rfl):FE X F (.Subscript a b pos) (eOp dIx ga gb):=vF uR (by rw[hK];exact uW) ha hb hs
theorem sR:OpR X (binaryOp .Add) (fun x y H Q=>rI0 (fun i j=>.int (i+j)) x y H Q∨(rCat2 X.K x y H Q∨∃ a b xs ys,x=.ref a∧y=.ref b∧SqL X.K H a xs∧SqL X.K H b ys∧xs.length+ys.length≤sizeLine∧∀ p,H p=none→Q (.ref p) (upd H p (.lst (xs++ys))))) :=
 uI.or (sJ.or qd)
theorem aF (hK:X.K=F.K)(ha:FE X F a ga)(hb:FE X F b gb):FE X F (.BinOp a .Add b pos) (eOp dAdd ga gb) :=
 kY sR (by rw[hK];exact OpD.or (fun x _=>isInt x) (cD fun _ _ _=>aK) (OpD.or (fun x _=>isTup x) p6 p9)) ha hb
theorem bH (hK:X.K=F.K)(ha:FE X F a ga)(hb:FE X F b gb):FE X F (.BinOp a .Mult b pos) (eOp dMul ga gb) :=
 kY (uK.or (sK.or sL)) (by rw[hK];exact OpD.or (fun x _=>isInt x) (p5 sH fun _ _ _=>aK) (OpD.or (fun x _=>isTup x) p7 qf)) ha hb
end
theorem uY {X:Cx}{pins:List (Addr×Obj)}{σ:St}{H Z:Hp}{s:Shared}{K:PySem.W.Frag}{C:Nat→Addr}(hK:X.K=K)(I:Inv X pins σ H s)(z:Same Z H)(n:Nat)(A:Around)(d e:D)(v u:V)(x y:Value)(g1:good n d=true)(g2:good n e=true)
  (h:Rep K C Z d v) (h':Rep K C Z e u) (rx:RelV v x) (ry:RelV u y) (hu:A.units+n < cLine):SeqAt.RcAt A s x y (eqD d e):=by
 have hu0:A.units < cLine:=by omega
 cases d with
 | exc k=>cases n<;>simp[good]at g1
 | fn k=>cases n<;>simp[good]at g1
 | tup ds =>
  cases n with
  | zero=>simp[good]at g1
  | succ n =>
   have in1:A.in1.units+n < cLine:=by show A.units+1+n < cLine;omega
   rw[Rep]at h
   obtain⟨a,vs,rfl,h1,h2⟩:=h
   cases rx
   obtain⟨its,r,p,_⟩:=I.tuple (by rw[hK];exact h1.mono z:SqT X.K H a vs)
   have p':s.heap.IsTuple a its.toArray:=p
   cases e with
   | tup es =>
    rw[Rep]at h'
    obtain⟨b,us,rfl,k1,k2⟩:=h'
    cases ry
    obtain⟨its2,r2,p2,_⟩:=I.tuple (by rw[hK];exact k1.mono z:SqT X.K H b us)
    have p2':s.heap.IsTuple b its2.toArray:=p2
    rw[good]at g1 g2
    have q:=SeqAt.RcAt.tuples (A:=A) (e:=fun j=>eqD (ds.getD j .non) (es.getD j .non)) p' p2' hu0 fun j j1 j2=>by
     have j1':j < its.length:=by simpa using j1
     have j2':j < its2.length:=by simpa using j2
     have l1:j < ds.length:=by rw[h2.length,r.length];exact j1'
     have l2:j < es.length:=by rw[k2.length,r2.length];exact j2'
     have e1:ds[j]?=some ds[j]:=by simp
     have e2:es[j]?=some es[j]:=by simp
     obtain⟨w1,f1,f2⟩:=h2.get e1
     obtain⟨w2,f3,f4⟩:=k2.get e2
     obtain⟨z1,m1,m2⟩:=r.get f1
     obtain⟨z2,m3,m4⟩:=r2.get f3
     have n1:its.toArray[j]=z1:=by simpa [j1'] using m1
     have n2:its2.toArray[j]=z2:=by simpa [j2'] using m3
     rw[n1,n2]
     have g3:ds.getD j .non=ds[j]:=by simp[l1]
     have g4:es.getD j .non=es[j]:=by simp[l2]
     rw[g3,g4]
     exact f8 hK I z n A.in1 _ _ w1 w2 z1 z2 (aM g1 e1) (aM g2 e2) f2 f4 m2 m4 in1
    rw[eqD,cE]
    have s1:its.toArray.size=ds.length:=by rw[List.size_toArray,h2.length,r.length]
    have s2:its2.toArray.size=es.length:=by rw[List.size_toArray,k2.length,r2.length]
    rw[s1,s2]at q
    exact q
   | lst es =>
    rw[Rep]at h'
    obtain⟨b,us,rfl,k1,k2⟩:=h'
    cases ry
    obtain⟨its2,r2,p2,_⟩:=I.list (by rw[hK];exact z.seq k1:SqL X.K H b us)
    simp only[eqD]
    exact SeqAt.RcAt.tuple_list p' p2.isList hu0
   | exc k=>simp[good]at g2
   | fn k=>simp[good]at g2
   | non=>rw[Rep]at h';subst h';cases ry;simp only[eqD];exact SeqAt.RcAt.tuple_none p' hu0
   | bl b=>rw[Rep]at h';subst h';cases ry;simp only[eqD];exact SeqAt.RcAt.tuple_bool _ p' hu0
   | int b=>rw[Rep]at h';subst h';obtain⟨t,rfl⟩:=ry;simp only[eqD];exact SeqAt.RcAt.tuple_int _ _ p' hu0
   | str b=>rw[Rep]at h';subst h';obtain⟨t,rfl⟩:=ry;simp only[eqD];exact SeqAt.RcAt.tuple_str _ _ p' hu0
 | lst ds =>
  cases n with
  | zero=>simp[good]at g1
  | succ n =>
   have in1:A.in1.units+n < cLine:=by show A.units+1+n < cLine;omega
   rw[Rep]at h
   obtain⟨a,vs,rfl,h1,h2⟩:=h
   cases rx
   obtain⟨its,r,p,_⟩:=I.list (by rw[hK];exact z.seq h1:SqL X.K H a vs)
   have p':=p.isList
   cases e with
   | lst es =>
    rw[Rep]at h'
    obtain⟨b,us,rfl,k1,k2⟩:=h'
    cases ry
    obtain⟨its2,r2,p2,_⟩:=I.list (by rw[hK];exact z.seq k1:SqL X.K H b us)
    have p2':=p2.isList
    rw[good]at g1 g2
    have s1:its.toArray.size=ds.length:=by rw[List.size_toArray,h2.length,r.length]
    have s2:its2.toArray.size=es.length:=by rw[List.size_toArray,k2.length,r2.length]
    rw[eqD,cE]
    by_cases hsz:ds.length=es.length
    ·have q:=SeqAt.RcAt.lists (A:=A) (e:=fun j=>eqD (ds.getD j .non) (es.getD j .non)) p' p2' (by rw[s1,s2];exact hsz) hu0 fun j j1 j2=>by
      have j1':j < its.length:=by simpa using j1
      have j2':j < its2.length:=by simpa using j2
      have l1:j < ds.length:=by rw[h2.length,r.length];exact j1'
      have l2:j < es.length:=by rw[k2.length,r2.length];exact j2'
      have e1:ds[j]?=some ds[j]:=by simp
      have e2:es[j]?=some es[j]:=by simp
      obtain⟨w1,f1,f2⟩:=h2.get e1
      obtain⟨w2,f3,f4⟩:=k2.get e2
      obtain⟨z1,m1,m2⟩:=r.get f1
      obtain⟨z2,m3,m4⟩:=r2.get f3
      have n1:its.toArray[j]=z1:=by simpa [j1'] using m1
      have n2:its2.toArray[j]=z2:=by simpa [j2'] using m3
      rw[n1,n2]
      have g3:ds.getD j .non=ds[j]:=by simp[l1]
      have g4:es.getD j .non=es[j]:=by simp[l2]
      rw[g3,g4]
      exact f8 hK I z n A.in1 _ _ w1 w2 z1 z2 (aM g1 e1) (aM g2 e2) f2 f4 m2 m4 in1
     rw[s1]at q
     rw[hsz,Nat.min_self,beq_self_eq_true,Bool.and_true,← hsz]
     exact q
    ·have q:=SeqAt.RcAt.lists_lengths (A:=A) p' p2' (by rw[s1,s2];simpa using hsz) hu0
     rw[show (ds.length==es.length)=false by simpa using hsz,Bool.and_false]
     exact q
   | tup es =>
    rw[Rep]at h'
    obtain⟨b,us,rfl,k1,k2⟩:=h'
    cases ry
    obtain⟨its2,r2,p2,_⟩:=I.tuple (by rw[hK];exact k1.mono z:SqT X.K H b us)
    simp only[eqD]
    exact SeqAt.RcAt.list_tuple p' (show s.heap.IsTuple b its2.toArray from p2) hu0
   | exc k=>simp[good]at g2
   | fn k=>simp[good]at g2
   | non=>rw[Rep]at h';subst h';cases ry;simp only[eqD];exact SeqAt.RcAt.list_none p' hu0
   | bl b=>rw[Rep]at h';subst h';cases ry;simp only[eqD];exact SeqAt.RcAt.list_bool _ p' hu0
   | int b=>rw[Rep]at h';subst h';obtain⟨t,rfl⟩:=ry;simp only[eqD];exact SeqAt.RcAt.list_int _ _ p' hu0
   | str b=>rw[Rep]at h';subst h';obtain⟨t,rfl⟩:=ry;simp only[eqD];exact SeqAt.RcAt.list_str _ _ p' hu0
 | non =>
  rw[Rep]at h;subst h;cases rx
  cases e with
  | tup es =>
   rw[Rep]at h'
   obtain⟨b,us,rfl,k1,k2⟩:=h'
   cases ry
   obtain⟨its2,r2,p2,_⟩:=I.tuple (by rw[hK];exact k1.mono z:SqT X.K H b us)
   simp only[eqD];exact SeqAt.RcAt.none_tuple (show s.heap.IsTuple b its2.toArray from p2) hu0
  | lst es =>
   rw[Rep]at h'
   obtain⟨b,us,rfl,k1,k2⟩:=h'
   cases ry
   obtain⟨its2,r2,p2,_⟩:=I.list (by rw[hK];exact z.seq k1:SqL X.K H b us)
   simp only[eqD];exact SeqAt.RcAt.none_list p2.isList hu0
  | exc k=>cases n<;>simp[good]at g2
  | fn k=>cases n<;>simp[good]at g2
  | non=>rw[Rep]at h';subst h';cases ry;simp only[eqD];exact SeqAt.RcAt.none_none
  | bl b=>rw[Rep]at h';subst h';cases ry;simp only[eqD];exact SeqAt.RcAt.none_bool _
  | int b=>rw[Rep]at h';subst h';obtain⟨t,rfl⟩:=ry;simp only[eqD];exact SeqAt.RcAt.none_int _ _
  | str b=>rw[Rep]at h';subst h';obtain⟨t,rfl⟩:=ry;simp only[eqD];exact SeqAt.RcAt.none_str _ _
 | bl a =>
  rw[Rep]at h;subst h;cases rx
  cases e with
  | tup es =>
   rw[Rep]at h'
   obtain⟨b,us,rfl,k1,k2⟩:=h'
   cases ry
   obtain⟨its2,r2,p2,_⟩:=I.tuple (by rw[hK];exact k1.mono z:SqT X.K H b us)
   simp only[eqD];exact SeqAt.RcAt.bool_tuple _ (show s.heap.IsTuple b its2.toArray from p2) hu0
  | lst es =>
   rw[Rep]at h'
   obtain⟨b,us,rfl,k1,k2⟩:=h'
   cases ry
   obtain⟨its2,r2,p2,_⟩:=I.list (by rw[hK];exact z.seq k1:SqL X.K H b us)
   simp only[eqD];exact SeqAt.RcAt.bool_list _ p2.isList hu0
  | exc k=>cases n<;>simp[good]at g2
  | fn k=>cases n<;>simp[good]at g2
  | non=>rw[Rep]at h';subst h';cases ry;simp only[eqD];exact SeqAt.RcAt.bool_none _
  | bl b=>rw[Rep]at h';subst h';cases ry;simp only[eqD];exact SeqAt.RcAt.bool_bool _ _
  | int b=>rw[Rep]at h';subst h';obtain⟨t,rfl⟩:=ry;simp only[eqD];exact SeqAt.RcAt.bool_int _ _ _
  | str b=>rw[Rep]at h';subst h';obtain⟨t,rfl⟩:=ry;simp only[eqD];exact SeqAt.RcAt.bool_str _ _ _
 | int a =>
  rw[Rep]at h;subst h;obtain⟨t0,rfl⟩:=rx
  cases e with
  | tup es =>
   rw[Rep]at h'
   obtain⟨b,us,rfl,k1,k2⟩:=h'
   cases ry
   obtain⟨its2,r2,p2,_⟩:=I.tuple (by rw[hK];exact k1.mono z:SqT X.K H b us)
   simp only[eqD];exact SeqAt.RcAt.int_tuple _ _ (show s.heap.IsTuple b its2.toArray from p2) hu0
  | lst es =>
   rw[Rep]at h'
   obtain⟨b,us,rfl,k1,k2⟩:=h'
   cases ry
   obtain⟨its2,r2,p2,_⟩:=I.list (by rw[hK];exact z.seq k1:SqL X.K H b us)
   simp only[eqD];exact SeqAt.RcAt.int_list _ _ p2.isList hu0
  | exc k=>cases n<;>simp[good]at g2
  | fn k=>cases n<;>simp[good]at g2
  | non=>rw[Rep]at h';subst h';cases ry;simp only[eqD];exact SeqAt.RcAt.int_none _ _
  | bl b=>rw[Rep]at h';subst h';cases ry;simp only[eqD];exact SeqAt.RcAt.int_bool _ _ _
  | int b=>rw[Rep]at h';subst h';obtain⟨t,rfl⟩:=ry;simp only[eqD];exact SeqAt.RcAt.int_int _ _ _ _
  | str b=>rw[Rep]at h';subst h';obtain⟨t,rfl⟩:=ry;simp only[eqD];exact SeqAt.RcAt.int_str _ _ _ _
 | str a =>
  rw[Rep]at h;subst h;obtain⟨t0,rfl⟩:=rx
  cases e with
  | tup es =>
   rw[Rep]at h'
   obtain⟨b,us,rfl,k1,k2⟩:=h'
   cases ry
   obtain⟨its2,r2,p2,_⟩:=I.tuple (by rw[hK];exact k1.mono z:SqT X.K H b us)
   simp only[eqD];exact SeqAt.RcAt.str_tuple _ _ (show s.heap.IsTuple b its2.toArray from p2) hu0
  | lst es =>
   rw[Rep]at h'
   obtain⟨b,us,rfl,k1,k2⟩:=h'
   cases ry
   obtain⟨its2,r2,p2,_⟩:=I.list (by rw[hK];exact z.seq k1:SqL X.K H b us)
   simp only[eqD];exact SeqAt.RcAt.str_list _ _ p2.isList hu0
  | exc k=>cases n<;>simp[good]at g2
  | fn k=>cases n<;>simp[good]at g2
  | non=>rw[Rep]at h';subst h';cases ry;simp only[eqD];exact SeqAt.RcAt.str_none _ _
  | bl b=>rw[Rep]at h';subst h';cases ry;simp only[eqD];exact SeqAt.RcAt.str_bool _ _ _
  | int b=>rw[Rep]at h';subst h';obtain⟨t,rfl⟩:=ry;simp only[eqD];exact SeqAt.RcAt.str_int _ _ _ _
  | str b=>rw[Rep]at h';subst h';obtain⟨t,rfl⟩:=ry;simp only[eqD];exact SeqAt.RcAt.str_str _ _ _ _
def dEq (x y:D):R D:=if good 60 x=true∧good 60 y=true then .ok (.bl (eqD x y)) else .stuck
def rEqD (K:PySem.W.Frag)(C:Nat→Addr):R2:=fun x y H Q=>∃ Z d e,Same Z H∧Rep K C Z d x∧Rep K C Z e y∧good 60 d=true∧good 60 e=true∧Q (.bl (eqD d e)) H
section
variable {X:Cx}{F:Fx}{a b c:Expr}{ga gb gc:SS→R D}{pos:Pos}{k:Nat}
theorem qu (hK:X.K=F.K)(hr:Room k X.A):OpR X (compareOp .Eq) (rEqD F.K F.C):=by
 intro pins s σ H x y v u Q I rx ry h
 obtain⟨Z,d,e,z,h1,h2,g1,g2,q⟩:=h
 have hu:X.A.units+60 < cLine:=by have:=hr.un;omega
 exact uY hK I z 60 X.A d e x y v u g1 g2 h1 h2 rx ry hu X.prog X.w X.xe _ ⟨.bl (eqD d e),H,I,rfl,q⟩
theorem qv:OpD F (rEqD F.K F.C) dEq:=by
 intro H Z x y dx dy Q s rx ry w
 unfold dEq at w
 split at w
 ·rename_i g
  exact⟨Z,dx,dy,s,rx,ry,g.1,g.2,WG.now w s _ aY⟩
 ·exact w.elim
theorem nu (bx:BX X F k)(ha:FE X F a ga)(hb:FE X F b gb):FE X F (.Compare a [.Eq] [b] pos) (eOp dEq ga gb):=mr (qu bx.K bx.room) qv ha hb
theorem bX (bx:BX X F k)(ha:FE X F a ga)(hb:FE X F b gb):FT X F (.Compare a [.Eq] [b] pos) (gB (eOp dEq ga gb)):=il (qu bx.K bx.room) qv ha hb
end
end FF
end
noncomputable section
namespace FF
open PySem PySem.Spec PyProof.Rows L2
def eChain (f f':D→D→R D)(ga gb gc:SS→R D):SS→R D:=fun S=>(ga S).bind fun x=>(gb S).bind fun y=>(asB (f x y)).bind fun k=>if k=true then (gc S).bind fun w=>f' y w else .ok (.bl false)
section
variable {X:Cx}{F:Fx}{a b c:Expr}{ga gb gc:SS→R D}{pos:Pos}{r r':R2}{f f':D→D→R D}{op op':CmpOp}
theorem jQ (hd:OpD F r f)(hd':OpD F r' f'):∀ σ H Q,tE F (eChain f f' ga gb gc) σ H Q→tChain r r' (tE F ga) (tE F gb) (tE F gc) σ H Q:=fun σ H Q ⟨Z,S,ok,w⟩ =>
 aE ok w fun dx x H1 Z1 ok1 x1 rx w1=>aE ok1 w1 fun dy y H2 Z2 ok2 x2 ry w2=>hd H2 Z2 x y dx dy _ ok2.sub (rx.mono x2.z) ry (by
  cases e:f dx dy with
  | err k=>rw[e]at w2;exact w2
  | stuck=>rw[e]at w2;exact w2
  | ok d =>
   rw[e]at w2
   intro H3 Z3 x3 v rv
   cases d with
   | bl k =>
    rw[Rep]at rv
    subst rv
    have w3:WG F H3 Z3 (if k=true then (gc S).bind fun w=>f' dy w else .ok (.bl false)) _:=WG.more w2 x3
    refine⟨k,rfl,?_⟩
    have ok3:=ok2.more x3
    cases k with
    | false=>exact WG.now w3 ok3.sub _ aY
    | true=>exact aE ok3 w3 fun dw wv H4 Z4 ok4 x4 rw' w4=>hd' H4 Z4 y wv dy dw Q ok4.sub (ry.mono (x3.z.trans x4.z)) rw' w4
   | _=>exact w2.elim)
theorem la (ho:OpR X (compareOp op) r)(ho':OpR X (compareOp op') r')(hd:OpD F r f)(hd':OpD F r' f')(ha:FE X F a ga)(hb:FE X F b gb)(hc:FE X F c gc)(hm:lastMarks [op,op'] [b,c]=false:=by with_unfolding_all rfl) :
  FE X F (.Compare a [op,op'] [b,c] pos) (eChain f f' ga gb gc):=(pK ho ho' ha hb hc hm).weak (jQ hd hd')
theorem qw (ho:OpR X (compareOp op) r)(ho':OpR X (compareOp op') r')(hd:OpD F r f)(hd':OpD F r' f')(ha:FE X F a ga)(hb:FE X F b gb)(hc:FE X F c gc)(hm:lastMarks [op,op'] [b,c]=false:=by with_unfolding_all rfl) :
  FT X F (.Compare a [op,op'] [b,c] pos) (gB (eChain f f' ga gb gc)):=(pL ho ho' ha hb hc hm).weak (pX (jQ hd hd'))
theorem fw (ha:FE X F a ga)(hb:FE X F b gb)(hc:FE X F c gc)(hm:lastMarks [.LtE,.LtE] [b,c]=false:=by with_unfolding_all rfl):FE X F (.Compare a [.LtE,.LtE] [b,c] pos) (eChain dLe dLe ga gb gc):=la kS kS (cD fun _ _ _=>aY) (cD fun _ _ _=>aY) ha hb hc hm
theorem kv (ha:FE X F a ga)(hb:FE X F b gb)(hc:FE X F c gc)(hm:lastMarks [.LtE,.LtE] [b,c]=false:=by with_unfolding_all rfl):FT X F (.Compare a [.LtE,.LtE] [b,c] pos) (gB (eChain dLe dLe ga gb gc)):=qw kS kS (cD fun _ _ _=>aY) (cD fun _ _ _=>aY) ha hb hc hm
theorem sS (ha:FE X F a ga)(hb:FE X F b gb)(hc:FE X F c gc)(hm:lastMarks [.LtE,.Lt] [b,c]=false:=by with_unfolding_all rfl):FE X F (.Compare a [.LtE,.Lt] [b,c] pos) (eChain dLe dLt ga gb gc):=la kS pJ (cD fun _ _ _=>aY) (cD fun _ _ _=>aY) ha hb hc hm
end
def dIs:D→D→R D
 | x,.non=>.ok (.bl (match x with | .non=>true | _=>false))
 | x,.bl b=>.ok (.bl (match x with | .bl a=>a==b | _=>false))
 | _,_=>.stuck
def isV:V→V→Bool
 | .non,.non=>true
 | .bl a,.bl b=>a==b
 | _,_=>false
section
variable {X:Cx}{F:Fx}{a b:Expr}{ga gb:SS→R D}{pos:Pos}
theorem uZ:OpR X (compareOp .Is) (fun x y H Q=>(y=.non∨∃ b,y=.bl b)∧Q (.bl (isV x y)) H):=by
 intro pins s σ H x y v u Q I rx ry h
 obtain⟨hy,q⟩:=h
 rcases hy with rfl | ⟨b,rfl⟩
 ·cases ry
  refine is_none_gen (ki I q ?_)
  cases x<;>first
   | (cases rx;rfl)
   | (obtain⟨t,rfl⟩:=rx;rfl)
 ·cases ry
  cases x<;>first
   | (obtain⟨t,rfl⟩:=rx;exact wpAny_pure (ki I q rfl))
   | (cases rx;exact wpAny_pure (ki I q rfl))
   | (cases rx;rename_i a;exact wpAny_pure (ki I q (by cases a<;>cases b<;>rfl)))
theorem sT {K:PySem.W.Frag}{C:Nat→Addr}{Z:Hp}{d e:D}{x y:V}{r:D}(h:Rep K C Z d x)(h':Rep K C Z e y)(q:dIs d e=.ok r):(y=.non∨∃ b,y=.bl b)∧r=.bl (isV x y):=by
 cases e with
 | non =>
  rw[Rep]at h';subst h'
  cases q
  refine⟨.inl rfl,?_⟩
  cases d<;>rw[Rep]at h<;>first | (subst h;rfl) | (obtain⟨_,_,rfl,_⟩:=h;rfl) | (obtain⟨_,rfl,_⟩:=h;rfl)
 | bl b =>
  rw[Rep]at h';subst h'
  cases q
  refine⟨.inr ⟨b,rfl⟩,?_⟩
  cases d<;>rw[Rep]at h<;>first | (subst h;rfl) | (obtain⟨_,_,rfl,_⟩:=h;rfl) | (obtain⟨_,rfl,_⟩:=h;rfl)
 | _=>simp[dIs]at q
theorem u0 {d e:D}{k:Nat}(q:dIs d e=.err k):False:=by cases e<;>simp[dIs]at q
theorem u3:OpD F (fun x y H Q=>(y=.non∨∃ b,y=.bl b)∧Q (.bl (isV x y)) H) dIs:=by
 intro H Z x y dx dy Q s rx ry w
 cases e:dIs dx dy with
 | err k=>exact(u0 e).elim
 | stuck=>rw[e]at w;exact w.elim
 | ok r =>
  rw[e]at w
  obtain⟨h1,rfl⟩:=sT rx ry e
  exact⟨h1,WG.now w s _ aY⟩
theorem um (ha:FE X F a ga)(hb:FE X F b gb):FT X F (.Compare a [.Is] [b] pos) (gB (eOp dIs ga gb)):=il uZ u3 ha hb
end
def cutD (xs:List D)(lo hi:Option Int):List D:=(xs.drop (HT.sIx xs.length 0 lo)).take (HT.sIx xs.length xs.length hi - HT.sIx xs.length 0 lo)
theorem Reps.cut {K:PySem.W.Frag}{C:Nat→Addr}{Z:Hp}{ds:List D}{vs:List V}(r:Reps K C Z ds vs)(lo hi:Option Int):Reps K C Z (cutD ds lo hi) (cutV vs lo hi):=by
 unfold cutD cutV
 rw[r.length]
 exact(r.drop _).take _
def dSl (d:D)(lo hi:Option Int):R D:=match d with
 | .lst xs=>.ok (.lst (cutD xs lo hi))
 | .tup xs=>if HT.sIx xs.length 0 lo=0∧HT.sIx xs.length xs.length hi=xs.length then .stuck else .ok (.tup (cutD xs lo hi))
 | _=>.stuck
def asI (d:D):R (Option Int):=match d with
 | .int i=>.ok (some i)
 | _=>.stuck
def pNo:SS→R (Option Int):=fun _=>.ok none
def pSo (g:SS→R D):SS→R (Option Int):=fun S=>(g S).bind asI
def tP (F:Fx)(g:SS→R (Option Int)):TO:=fun σ H Q=>∃ Z S,StOk F H Z S σ∧WG F H Z (g S) fun o H' _=>Q o H'
section
variable {X:Cx}{F:Fx}{e:Expr}{lo hi:Option Expr}{g:SS→R D}{l h:SS→R (Option Int)}{pos p2:Pos}
theorem qA:PO X none (tP F pNo):=fun pins s σ H Q I ⟨Z,S,ok,w⟩=>sB pins s σ H Q I (WG.now w ok.sub)
theorem d7 (he:FE X F e g):PO X (some e) (tP F (pSo g)):=fun pins s σ H Q I ⟨Z,S,ok,w⟩=>sC he pins s σ H Q I (aE ok w fun d v H1 Z1 ok1 x1 rv w1=>by
 cases d with
 | int i=>rw[Rep]at rv;exact⟨i,rv,WG.now (a:=some i) w1 ok1.sub⟩
 | _=>exact w1.elim)
theorem nv {α:Type}{σ:St}{H Z:Hp}{S:SS}{k:Option Int→R α}{P:α→Hp→Hp→Prop}{Q:Option Int→Hp→Prop}(ok:StOk F H Z S σ)(w:WG F H Z ((l S).bind k) P)
  (h:∀ o H1 Z1,StOk F H1 Z1 S σ→Ex H Z H1 Z1→WG F H1 Z1 (k o) P→Q o H1):tP F l σ H Q:=by
 refine⟨Z,S,ok,?_⟩
 cases e:l S with
 | ok d =>
  rw[e]at w
  intro H1 Z1 x
  exact h d H1 Z1 (ok.more x) x (WG.more (r:=k d) w x)
 | err k=>rw[e]at w;exact w
 | stuck=>rw[e]at w;exact w
end
def CallD (F:Fx)(r:List V→Hp→VK→Prop)(f:List D→R D):Prop:=∀ (H Z:Hp) (xs:List V) (ds:List D) (Q:VK),Same Z H→Reps F.K F.C Z ds xs→WG F H Z (f ds) (fun d H' Z'=>∀ v,Rep F.K F.C Z' d v→Q v H')→r xs H Q
section
variable {X:Cx}{F:Fx}{x:Str}{p pos:Pos}{e:Expr}{es:List Expr}{gs:SS→R (List D)}{id T:String}{r:List V→Hp→VK→Prop}{f:List D→R D}
theorem qB (hd:CallD F r f):∀ σ H Q,tE F (eCall f gs) σ H Q→tCB r (tAl F gs) σ H Q:=fun σ H Q ⟨Z,S,ok,w⟩=>bc ok w fun ds vs H1 Z1 ok1 x1 rs w1=>hd H1 Z1 vs ds Q ok1.sub rs w1
theorem dl (hc:CallR X (.builtin id) r)(hd:CallD F r f)(hg:Gl X x)(hm:X.mg x=none)(hv:bootBuiltins x=some (.builtin id))(ha:FA X F (e::es) gs)(hn:x ≠ "__name__" := by decide)(hdb:(x==("__debug__":Str))=false:=by decide)
  (he:starEach (e::es) X.env=(false,eval e X.env)::starEach es X.env:=by rfl) (hpl:(backTo pos (starEach es X.env)).any (·.1)=false:=by rfl):FE X F (.Call (.Name x p) (e::es) [] pos) (eCall f gs):=(fk hc hg hm hv ha hn hdb he hpl).weak (qB hd)
theorem ot (hc:CallR X (.type T) r)(hd:CallD F r f)(hg:Gl X x)(hm:X.mg x=none)(hv:bootBuiltins x=some (.type T))(ha:FA X F (e::es) gs)(hn:x ≠ "__name__" := by decide)(hdb:(x==("__debug__":Str))=false:=by decide)
  (he:starEach (e::es) X.env=(false,eval e X.env)::starEach es X.env:=by rfl) (hpl:(backTo pos (starEach es X.env)).any (·.1)=false:=by rfl):FE X F (.Call (.Name x p) (e::es) [] pos) (eCall f gs):=(fW hc hg hm hv ha hn hdb he hpl).weak (qB hd)
end
theorem aZ {K:PySem.W.Frag}{C:Nat→Addr}{Z:Hp}{d:D}{vs:List V}(r:Reps K C Z [d] vs):∃ v,vs=[v]∧Rep K C Z d v:=by
 rw[Reps]at r
 obtain⟨v,r',rfl,h1,h2⟩:=r
 rw[Reps]at h2
 exact⟨v,by rw[h2],h1⟩
def dLen:List D→R D
 | [.lst xs]=>.ok (.int xs.length)
 | [.tup xs]=>.ok (.int xs.length)
 | _=>.stuck
theorem ou {F:Fx}:CallD F (fun xs H Q=>∃ p ys,xs=[.ref p]∧(SqL F.K H p ys∨SqT F.K H p ys)∧Q (.int ys.length) H) dLen:=by
 intro H Z xs ds Q s rs w
 unfold dLen at w
 split at w
 ·obtain⟨v,rfl,h⟩:=aZ rs
  rw[Rep]at h
  obtain⟨a,vs,rfl,h1,h2⟩:=h
  exact⟨a,vs,rfl,.inl (s.seq h1),by rw[← h2.length];exact WG.now w s _ aK⟩
 ·obtain⟨v,rfl,h⟩:=aZ rs
  rw[Rep]at h
  obtain⟨a,vs,rfl,h1,h2⟩:=h
  exact⟨a,vs,rfl,.inr (h1.mono s),by rw[← h2.length];exact WG.now w s _ aK⟩
 ·exact w.elim
def dMax2:List D→R D
 | [.int i,.int j]=>.ok (.int (if j > i then j else i))
 | _=>.stuck
theorem mw {F:Fx}:CallD F (fun xs H Q=>∃ i j,xs=[.int i,.int j]∧Q (.int (if j > i then j else i)) H) dMax2:=by
 intro H Z xs ds Q s rs w
 unfold dMax2 at w
 split at w
 ·exact⟨_,_,ql rs,WG.now w s _ aK⟩
 ·exact w.elim
def dTuple:List D→R D
 | [.lst xs]=>.ok (.tup xs)
 | [.tup xs]=>.ok (.tup xs)
 | _=>.stuck
theorem lb {F:Fx}:CallD F (fun xs H Q=>∃ p ys,xs=[.ref p]∧((SqL F.K H p ys∧∀ l,H l=none→Q (.ref l) (upd H l (.tup ys)))∨(SqT F.K H p ys∧Q (.ref p) H))) dTuple:=by
 intro H Z xs ds Q s rs w
 unfold dTuple at w
 split at w
 ·obtain⟨v,rfl,h⟩:=aZ rs
  rw[Rep]at h
  obtain⟨a,vs,rfl,h1,h2⟩:=h
  refine⟨a,vs,rfl,.inl ⟨s.seq h1,fun p hp=>?_⟩⟩
  have z:Same Z (upd Z p (.tup vs)):=aD (s.free hp)
  exact w _ _ (Ex.alloc s hp) _ (by rw[Rep];exact⟨p,_,rfl,SqT.of ap,h2.mono z⟩)
 ·obtain⟨v,rfl,h⟩:=aZ rs
  have hh:=h
  rw[Rep]at h
  obtain⟨a,vs,rfl,h1,h2⟩:=h
  exact⟨a,vs,rfl,.inr ⟨h1.mono s,WG.now w s _ hh⟩⟩
 ·exact w.elim
def boolsD:List D→Option (List Bool)
 | []=>some []
 | .bl b::r=>(boolsD r).map (b::·)
 | _::_=>none
theorem cF {K:PySem.W.Frag}{C:Nat→Addr}{Z:Hp}:∀ {ds:List D} {vs:List V} {bs:List Bool},Reps K C Z ds vs→boolsD ds=some bs→vs=bs.map V.bl
 | [],vs,bs,r,e=>by rw[Reps]at r;cases e;exact r
 | d::ds,vs,bs,r,e=>by
  rw[Reps]at r
  obtain⟨v,r',rfl,h1,h2⟩:=r
  cases d with
  | bl b =>
   rw[boolsD]at e
   cases q:boolsD ds with
   | none=>rw[q]at e;cases e
   | some bs' =>
    rw[q]at e
    cases e
    rw[Rep]at h1
    rw[h1,cF h2 q]
    rfl
  | _=>simp[boolsD]at e
def dAll:List D→R D
 | [.lst xs]=>match boolsD xs with
  | some bs=>.ok (.bl (bs.all id))
  | none=>.stuck
 | _=>.stuck
def dAny:List D→R D
 | [.lst xs]=>match boolsD xs with
  | some bs=>.ok (.bl (bs.any id))
  | none=>.stuck
 | _=>.stuck
theorem cG:∀ {bs:List Bool} {us:List Value},Vals (bs.map V.bl) us→us=bs.map Value.bool
 | [],us,h=>by rw[List.map_nil]at h;cases h;rfl
 | b::bs,us,h=>by
  rw[List.map_cons]at h
  cases h with
  | cons r t =>
   have r':_=Value.bool b:=r
   rw[r',cG t]
   rfl
theorem iz {X:Cx}(hc:X.calm=true):CallR X (.builtin "all") (fun xs H Q=>∃ (p:Addr) (bs:List Bool),xs=[.ref p]∧SqL X.K H p (bs.map V.bl)∧Q (.bl (bs.all id)) H):=by
 intro pins s σ H xs us Q I r h
 obtain⟨p,bs,rfl,hq,q⟩:=h
 obtain⟨u,rfl,ru⟩:=vals1 r
 cases ru
 obtain⟨its,rv,pl,hz⟩:=I.list hq
 have e:=cG rv
 subst e
 have hlt:p < s.heap.objs.size:=by obtain⟨o,_,ho,_⟩:=pl;exact Heap.lt_size ho
 refine call_all_walk (wpAny_pyIter_list pl.isList ⟨s.heap.objs.size,_,_,_,_,_,fun i=>bs.getD i false,rfl,Walks.list (show X.A.in1.handled=none from I.ok.hd hc) s.heap.objs.size p (Nat.ne_of_lt hlt) (bs.map Value.bool).toArray,⟨⟨_,Heap.get?_push_size _ rfl,rfl,rfl⟩,?_⟩,?_,fun h' tk hk=>?_⟩)
 ·obtain⟨o,ho,h2,n,h3⟩:=pl.isList
  exact⟨o,Heap.get?_push_of_some _ ho,h2,n,h3⟩
 ·intro i v s' Q' E' hp hq'
  have hp':bs[i]?.map Value.bool=some v:=by simpa using hp
  cases e:bs[i]? with
  | none=>rw[e]at hp';cases hp'
  | some b =>
   rw[e]at hp'
   cases hp'
   refine wpAny_truthy_bool ?_
   have:bs.getD i false=b:=by simp[List.getD,e]
   have hq2:Q' (bs.getD i false) s':=hq'
   rw[this]at hq2
   exact hq2
 ·have hall:(List.range (bs.map Value.bool).toArray.size).all (fun i=>bs.getD i false)=bs.all id:=by
   rw[List.size_toArray,List.length_map]
   rw[Bool.eq_iff_iff,List.all_eq_true,List.all_eq_true]
   constructor
   ·intro h b hb
    obtain⟨i,hi,rfl⟩:=List.mem_iff_getElem.mp hb
    have:=h i (List.mem_range.mpr hi)
    simpa [List.getD,hi] using this
   ·intro h i hi
    have hi':=List.mem_range.mp hi
    have:=h bs[i] (List.getElem_mem hi')
    simpa [List.getD,hi'] using this
  rw[hall]
  exact⟨.bl (bs.all id),H,I.kept fun b o e=>hk b o (by simp;exact Nat.ne_of_lt (Heap.lt_size e)) (Heap.get?_push_of_some _ e),rfl,q⟩
theorem oy {F:Fx}:CallD F (fun xs H Q=>∃ (p:Addr) (bs:List Bool),xs=[.ref p]∧SqL F.K H p (bs.map V.bl)∧Q (.bl (bs.all id)) H) dAll:=by
 intro H Z xs ds Q s rs w
 unfold dAll at w
 split at w
 ·split at w
  ·rename_i bs e
   obtain⟨v,rfl,h⟩:=aZ rs
   rw[Rep]at h
   obtain⟨a,vs,rfl,h1,h2⟩:=h
   have e2:=cF h2 e
   subst e2
   exact⟨a,bs,rfl,s.seq h1,WG.now w s _ aY⟩
  ·exact w.elim
 ·exact w.elim
section
variable {X:Cx}{F:Fx}{p pos:Pos}{e:Expr}{es:List Expr}{gs:SS→R (List D)}{k:Nat}
theorem bI (bx:BX X F k)(hg:Gl X "len")(hm:X.mg "len"=none)(ha:FA X F [e] gs)(he:starEach [e] X.env=(false,eval e X.env)::starEach [] X.env:=by rfl)(hpl:(backTo pos (starEach [] X.env)).any (·.1)=false:=by rfl):FE X F (.Call (.Name "len" p) [e] [] pos) (eCall dLen gs) :=
 dl (by have:=kn (X:=X);rw[bx.K]at this;exact this) ou hg hm PySem.boot_len ha (he:=he) (hpl:=hpl)
theorem nw {e2:Expr}(bx:BX X F k)(hg:Gl X "max")(hm:X.mg "max"=none)(ha:FA X F [e,e2] gs)(he:starEach [e,e2] X.env=(false,eval e X.env)::starEach [e2] X.env:=by rfl)(hpl:(backTo pos (starEach [e2] X.env)).any (·.1)=false:=by rfl) :
  FE X F (.Call (.Name "max" p) [e,e2] [] pos) (eCall dMax2 gs):=dl (nY bx.calm) mw hg hm (by decide +kernel) ha (he:=he) (hpl:=hpl)
theorem bh (bx:BX X F k)(hg:Gl X "tuple")(hm:X.mg "tuple"=none)(ha:FA X F [e] gs)(he:starEach [e] X.env=(false,eval e X.env)::starEach [] X.env:=by rfl)(hpl:(backTo pos (starEach [] X.env)).any (·.1)=false:=by rfl):FE X F (.Call (.Name "tuple" p) [e] [] pos) (eCall dTuple gs) :=
 ot (by have:=jh (X:=X);rw[bx.K]at this;exact this) lb hg hm (by decide +kernel) ha (he:=he) (hpl:=hpl)
theorem u4 (bx:BX X F k)(hg:Gl X "all")(hm:X.mg "all"=none)(ha:FA X F [e] gs)(he:starEach [e] X.env=(false,eval e X.env)::starEach [] X.env:=by rfl)(hpl:(backTo pos (starEach [] X.env)).any (·.1)=false:=by rfl):FE X F (.Call (.Name "all" p) [e] [] pos) (eCall dAll gs) :=
 dl (id := "all") (by have:=iz (X:=X) bx.calm;rw[bx.K]at this;exact this) oy hg hm (by decide +kernel) ha (he:=he) (hpl:=hpl)
end
end FF
end
noncomputable section
namespace FF
open PySem PySem.Spec PySem.Calls PyProof.Rows PySem.W
def ExcAt (a C:Addr)(h:Heap):Prop:=∃ o,h.get? a=some o∧o.cls=.ref C∧∃ vs,o.data=.fields vs
structure ExcK (K:Frag)(C:Addr):Prop where
 ga:findIn K (.ref C) "__getattribute__"=some (some (.builtin "BaseException.__getattribute__"))
 gt:findIn K (.ref C) "__getattr__"=some none
 cl:findIn K (.ref C) "__class__"=some (some (.builtin "object.__class__"))
 be:subIn K (.ref C) (.type "BaseException")=some true
 ob:subIn K (.ref C) (.type "object")=some true
 ty:(clsIn K C).isSome=true
section
variable {prog:Program}{w:World}{A:Around}{E:Value→Shared→Prop}{h:Heap}{g:Array GenState}{d:Drawn}{t:Nat}{os:OsState}{a C:Addr}{K:Frag}{o:Obj}{vs:Array Value}
theorem my {M:Model}(p:ExcAt a C h):Looks M h (typeOf (.ref a)) (.ref C):=by
 obtain⟨o,h1,h2,h3⟩:=p
 exact h2 ▸ (Looks.ld h1).andThen .now
theorem mz {M:Model}(X:K.In h)(k:ExcK K C):Looks M h (isType (.ref C)) true:=by
 have z:=k.ty
 unfold clsIn at z
 split at z
 ·rename_i c' d' cd' sl' ho
  intro A' Q' E' s' kk q
  unfold isType loadHead
  exact wpAny_bind (wpAny_loadPart (kk _ _ (X _ _ ho)) (wpAny_pure q))
 ·cases z
theorem jn {R:Result→Shared→Prop}(X:K.In h)(k:ExcK K C)(hx:h.get? a=some o)(hc:o.cls=.ref C)(hq:R (.ok (.ret (.ref C))) ⟨h,g,d,t,os⟩) :
  codeAny (model prog w) A (.call (.builtin "getset_descriptor.__get__") ⟨[.builtin "object.__class__",.ref a,.ref C],[]⟩) R ⟨h,g,d,t,os⟩:=by
 have hT5:(⟨h,g,d,t,os⟩:Shared).TypeIs (.builtin "object.__class__") "getset_descriptor" := F.typeOf_object_class
 have L8:Looks (model prog w) h (isSubtype (.ref C) (.type (".".intercalate ("object.__class__".cutAt '.').dropLast))) true:=by
  rw[F.owner_object_class];exact looks_subIn X k.ob
 refine codeAny_call_builtin F.slot_gs_get.plain F.entry_gs_get (F.slot_gs_get.check _ _ _ _ _ _ _ _ hT5 (F.args_gs_get _ _ _) ?_)
 repeat (any_goals (first | assumption | (with_reducible refine wpAny_loadPart_at hx ?_;rw[hc]) | (with_reducible refine L8.at ?_) | wp_step))
 refine⟨Code.quiet_builtin _ (by decide +kernel),codeAny_builtin F.entry_object_class ?_⟩
 repeat (any_goals (first | assumption | (with_reducible refine wpAny_loadPart_at hx ?_;rw[hc]) | wp_step))
theorem gY {tk:Tok}{Q:Fin→Shared→Prop}(X:K.In h)(k:ExcK K C)(hx:h.get? a=some o)(hc:o.cls=.ref C)(hq:Q (.done (.ret (.ref C))) ⟨h,g,d,t,os⟩) :
  wpAny (model prog w) A (Builtin.«object.__getattribute__» ⟨[.ref a,.str "__class__" tk],[]⟩) Q E ⟨h,g,d,t,os⟩:=by
 have hT5:(⟨h,g,d,t,os⟩:Shared).TypeIs (.builtin "object.__class__") "getset_descriptor" := F.typeOf_object_class
 have f5:=F.typeOf_object_class
 have f6:=F.slot_gs_get.lookup
 have f7:=F.slot_gs_set.lookup
 have L4:Looks (model prog w) h (typeLookup (.ref C) "__class__") _:=looks_findIn X k.cl
 repeat (any_goals (first | assumption | (with_reducible refine wpAny_loadPart_at hx ?_;rw[hc]) | (with_reducible refine L4.at ?_) | wp_step))
 refine jn X k hx hc ?_
 repeat (any_goals (first | assumption | wp_step))
theorem oz {M:Model}{nameV:Value}{Q:Unit→Shared→Prop}(X:K.In h)(k:ExcK K C)(hx:h.get? a=some o)(hc:o.cls=.ref C)(hq:Q () ⟨h,g,d,t,os⟩):wpAny M A (checkBuiltinCall "BaseException.__getattribute__" ⟨[.ref a,nameV],[]⟩) Q E ⟨h,g,d,t,os⟩:=by
 have hk:builtinKind "BaseException.__getattribute__"=some .slot:=by decide +kernel
 have hsplit:splitId "BaseException.__getattribute__"=some ("BaseException","__getattribute__"):=by decide +kernel
 have L8:Looks M h (isSubtype (.ref C) (.type "BaseException")) true:=looks_subIn X k.be
 have ha:=F.args_bexc_ga (.ref a) nameV
 simp only[checkBuiltinCall,hk,hsplit]
 refine wpAny_bind ?_
 ·unfold isInstance
  repeat (first | (with_reducible refine wpAny_loadPart_at hx ?_;rw[hc]) | (with_reducible refine L8.at ?_) | wp_step)
  exact hq
theorem iA {tk:Tok}{R:Result→Shared→Prop}(X:K.In h)(k:ExcK K C)(hx:h.get? a=some o)(hc:o.cls=.ref C)(hq:R (.ok (.ret (.ref C))) ⟨h,g,d,t,os⟩) :
  codeAny (model prog w) A (.call (.builtin "BaseException.__getattribute__") ⟨[.ref a,.str "__class__" tk],[]⟩) R ⟨h,g,d,t,os⟩ :=
 codeAny_call_builtin F.attr_ValueError.ga.plain F.entry_bexc_ga (oz X k hx hc (gY X k hx hc hq))
theorem kx {tk:Tok}{Q:Value→Shared→Prop}(X:K.In h)(k:ExcK K C)(hx:h.get? a=some o)(hc:o.cls=.ref C)(hq:Q (.ref C) ⟨h,g,d,t,os⟩) :
  wpAny (model prog w) A (getAttrBy (.ref a) (.str "__class__" tk) false) Q E ⟨h,g,d,t,os⟩:=by
 have f3:=F.attr_ValueError.ga.bind (.ref a)
 have L1:Looks (model prog w) h (typeLookup (.ref C) "__getattribute__") _:=looks_findIn X k.ga
 have L2:Looks (model prog w) h (typeLookup (.ref C) "__getattr__") _:=looks_findIn X k.gt
 have hx2:(Value.builtin "BaseException.__getattribute__" == Value.builtin "object.__getattribute__")=false:=by decide +kernel
 have hx1:(onTheHeap (Value.ref C)&&Value.builtin "BaseException.__getattribute__" == Value.builtin "object.__getattribute__")=false:=by rw[hx2];rfl
 repeat (any_goals (first | assumption | (with_reducible refine wpAny_loadPart_at hx ?_;rw[hc]) | (with_reducible refine L1.at ?_) | (with_reducible refine L2.at ?_) | wp_step))
 refine iA X k hx hc ?_
 repeat (any_goals (first | assumption | wp_step))
theorem iB {Q:Option Value→Shared→Prop}(X:K.In h)(k:ExcK K C)(hx:h.get? a=some o)(hc:o.cls=.ref C)(hq:Q (some (.ref C)) ⟨h,g,d,t+1,os⟩) :
  wpAny (model prog w) A (getAttr? (.ref a) "__class__") Q E ⟨h,g,d,t,os⟩:=by
 unfold getAttr? getAttrBy?
 repeat (any_goals (first | assumption | with_reducible apply kx X k hx hc | wp_step))
end
end FF
end
noncomputable section
namespace FF
open PySem PySem.Spec PyProof.Rows L2
theorem qC {K:PySem.W.Frag}{a C:Addr}(k:ExcK K C):PySem.W.KitX K (.ref a) (.ref C) (ExcAt a C) where
 ty:=fun _ _ _ p=>my p
 it:=fun _ _ X _=>mz X k
 ne:=fun h tp dd its n sl X htp=>by
  refine Bool.eq_false_iff.mpr fun q=>?_
  have e:C=tp:=Value.ref.inj (beq_iff_eq.mp q)
  subst e
  have z:=k.ty
  unfold PySem.W.clsIn at z
  split at z
  ·rename_i c' d' cd' sl' ho
   have z:=(X _ _ ho).symm.trans htp
   cases z
  ·cases z
 ca:=fun {_ _ _ _ _ s} X p h=>by
  obtain⟨hh,g,d,t,os⟩:=s
  obtain⟨o,h1,h2,_⟩:=p
  exact iB X k h1 h2 h
def tyD (C:Nat→Addr):D→Value
 | .non=>.type "NoneType"
 | .bl _=>.type "bool"
 | .int _=>.type "int"
 | .str _=>.type "str"
 | .tup _=>.type "tuple"
 | .lst _=>.type "list"
 | .exc k=>.ref (C k)
 | .fn _=>.none
def cV:V→Value
 | .ty n=>.type n
 | .ref a=>.ref a
 | _=>.none
theorem lc {X:Cx}{C:Nat→Addr}:CallR X (.builtin "isinstance") (fun xs H Q=>∃ (Z:Hp) (d:D) (x y:V) (b:Bool),xs=[x,y]∧Same Z H∧Rep X.K C Z d x∧((∃ n,y=.ty n)∨∃ a,y=.ref a) ∧
  PySem.W.kitOne X.K (tyD C d) (cV y)=some b∧(∀ j,d=.exc j→ExcK X.K (C j))∧(∀ j,d≠.fn j)∧Q (.bl b) H):=by
 intro pins s σ H xs us Q I r h
 obtain⟨Z,d,x,y,b,rfl,sm,rp,hy,e,he,hf,q⟩:=h
 obtain⟨u,c,rfl,ru,rc⟩:=vals2 r
 have hc:c=cV y:=by
  rcases hy with ⟨n,rfl⟩ | ⟨a,rfl⟩<;>exact rc
 subst hc
 have fin:∀ tk,EP X pins σ Q (.bool b) { s with toks:=tk }:=fun tk=>⟨.bl b,H,I.tok tk,rfl,q⟩
 cases d with
 | non=>rw[Rep]at rp;subst rp;cases (show u=Value.none from ru);exact PySem.W.kia_one PySem.W.kitx_none I.kIn True.intro e (fun z=>nomatch z) fin
 | bl k=>rw[Rep]at rp;subst rp;cases (show u=Value.bool k from ru);exact PySem.W.kia_one PySem.W.kitx_bool I.kIn True.intro e (fun z=>nomatch z) fin
 | int i=>rw[Rep]at rp;subst rp;obtain⟨t,rfl⟩:=(show ∃ t,u=Value.int i t from ru);exact PySem.W.kia_one PySem.W.kitx_int I.kIn True.intro e (fun z=>nomatch z) fin
 | str i=>rw[Rep]at rp;subst rp;obtain⟨t,rfl⟩:=(show ∃ t,u=Value.str i t from ru);exact PySem.W.kia_one PySem.W.kitx_str I.kIn True.intro e (fun z=>nomatch z) fin
 | tup ds =>
  rw[Rep]at rp
  obtain⟨a,vs,rfl,h1,h2⟩:=rp
  cases (show u=Value.ref a from ru)
  obtain⟨its,_,⟨o,p1,p2,_⟩,_⟩:=I.tuple (h1.mono sm)
  exact PySem.W.kia_one PySem.W.kitx_tuple I.kIn ⟨o,p1,p2⟩ e (fun z=>nomatch z) fin
 | lst ds =>
  rw[Rep]at rp
  obtain⟨a,vs,rfl,h1,h2⟩:=rp
  cases (show u=Value.ref a from ru)
  obtain⟨its,_,⟨o,n,p1,p2,_⟩,_⟩:=I.list (sm.seq h1)
  exact PySem.W.kia_one PySem.W.kitx_list I.kIn ⟨o,p1,p2⟩ e (fun z=>nomatch z) fin
 | fn k=>exact absurd rfl (hf k)
 | exc k =>
  rw[Rep]at rp
  obtain⟨a,rfl,h1⟩:=rp
  cases (show u=Value.ref a from ru)
  obtain⟨o,h2,h3,h5⟩:=(show ObjOk X.prog X.w H s.heap a (excO C k a) from I.hok a _ (sm a _ h1)).1
  exact PySem.W.kia_one (qC (he k rfl)) I.kIn ⟨o,h2,h3,h5⟩ e (fun z=>nomatch z) fin
def dIsA (q:D→Option Bool)(d:D):R D:=match q d with
 | some b=>.ok (.bl b)
 | none=>.stuck
def eIs (q:D→Option Bool)(g:SS→R D):SS→R D:=fun S=>(g S).bind (dIsA q)
structure IsA (K:PySem.W.Frag)(C:Nat→Addr)(y:V)(q:D→Option Bool):Prop where
 one:(∃ n,y=.ty n)∨∃ a,y=.ref a
 ans:∀ d b,q d=some b→PySem.W.kitOne K (tyD C d) (cV y)=some b
 exc:∀ j b,q (.exc j)=some b→ExcK K (C j)
 fn:∀ j,q (.fn j)=none
section
variable {X:Cx}{F:Fx}{p pos:Pos}{e ec:Expr}{g:SS→R D}{k:Nat}{y:V}{q:D→Option Bool}
theorem u5 (bx:BX X F k)(hq:IsA F.K F.C y q):∀ σ H Q,tE F (eIs q g) σ H Q→tCB (fun xs H Q=>∃ (Z:Hp) (d:D) (x y:V) (b:Bool),xs=[x,y]∧Same Z H∧Rep X.K F.C Z d x∧((∃ n,y=.ty n)∨∃ a,y=.ref a) ∧
  PySem.W.kitOne X.K (tyD F.C d) (cV y)=some b∧(∀ j,d=.exc j→ExcK X.K (F.C j))∧(∀ j,d≠.fn j)∧Q (.bl b) H) (tCons (tE F g) (tCons (tC y) tNil)) σ H Q:=fun σ H Q ⟨Z,S,ok,w⟩ =>
 aE ok w fun d v H1 Z1 ok1 x1 rv w1=>by
  cases e:q d with
  | none=>unfold dIsA at w1;rw[e]at w1;exact w1.elim
  | some b =>
   unfold dIsA at w1
   rw[e]at w1
   refine⟨Z1,d,v,y,b,rfl,ok1.sub,by rw[bx.K];exact rv,hq.one,by rw[bx.K];exact hq.ans d b e,fun j ej=>?_,fun j ej=>(by rw[ej,hq.fn j]at e;cases e),WG.now (a:=D.bl b) w1 ok1.sub _ aY⟩
   subst ej
   rw[bx.K]
   exact hq.exc j b e
theorem ao (bx:BX X F k)(hg:Gl X "isinstance")(hm:X.mg "isinstance"=none)(hq:IsA F.K F.C y q)(ha:FE X F e g)(hc:PE X ec (tC y))(he:starEach [e,ec] X.env=(false,eval e X.env)::starEach [ec] X.env:=by rfl)
  (he2:starEach [ec] X.env=(false,eval ec X.env)::starEach [] X.env:=by rfl) (hpl:(backTo pos (starEach [ec] X.env)).any (·.1)=false:=by rfl) :
  FE X F (.Call (.Name "isinstance" p) [e,ec] [] pos) (eIs q g) :=
 (fk (id := "isinstance") lc hg hm (by decide +kernel) (cR ha (cR hc ie he2) he) (he:=he) (hpl:=hpl)).weak (u5 bx hq)
end
def qTup:D→Option Bool
 | .tup _=>some true
 | .exc _=>none
 | .fn _=>none
 | _=>some false
def qInt:D→Option Bool
 | .int _=>some true
 | .bl _=>some true
 | .exc _=>none
 | .fn _=>none
 | _=>some false
def qBool:D→Option Bool
 | .bl _=>some true
 | .exc _=>none
 | .fn _=>none
 | _=>some false
theorem cp {K:PySem.W.Frag}{C:Nat→Addr}:IsA K C (.ty "tuple") qTup:=⟨.inl ⟨_,rfl⟩,fun d b e=>by cases d<;>cases e<;>with_unfolding_all rfl,fun j b e=>(nomatch e),fun _=>rfl⟩
theorem ky {K:PySem.W.Frag}{C:Nat→Addr}:IsA K C (.ty "int") qInt:=⟨.inl ⟨_,rfl⟩,fun d b e=>by cases d<;>cases e<;>with_unfolding_all rfl,fun j b e=>(nomatch e),fun _=>rfl⟩
theorem iC {K:PySem.W.Frag}{C:Nat→Addr}:IsA K C (.ty "bool") qBool:=⟨.inl ⟨_,rfl⟩,fun d b e=>by cases d<;>cases e<;>with_unfolding_all rfl,fun j b e=>(nomatch e),fun _=>rfl⟩
end FF
end
noncomputable section
namespace FF
open PySem PySem.Spec PyProof.Rows L2
def sOwn (i:Nat)(gs:SS→R (List D)):SS→O:=fun S=>rO ((gs S).bind fun ds=>if ds.length≤16777216 then .ok (.nx (S.set i (some (.own ds)))) else .stuck)
def sApp (i:Nat)(gs:SS→R (List D)):SS→O:=fun S=>match S[i]? with
 | some (some (.own ds))=>rO ((gs S).bind fun es=>match es with
  | [d]=>if ds.length < 16777216 then .ok (.nx (S.set i (some (.own (ds++[d]))))) else .stuck
  | _=>.stuck)
 | _=>.stuck
def sExt (i:Nat)(gs:SS→R (List D)):SS→O:=fun S=>match S[i]? with
 | some (some (.own ds))=>rO ((gs S).bind fun es=>match es with
  | [.lst xs]=>if ds.length+xs.length≤16777216 then .ok (.nx (S.set i (some (.own (ds++xs))))) else .stuck
  | [.tup xs]=>if ds.length+xs.length≤16777216 then .ok (.nx (S.set i (some (.own (ds++xs))))) else .stuck
  | _=>.stuck)
 | _=>.stuck
def rExt (K:PySem.W.Frag):V→List V→Hp→VK→Prop:=fun x vs H Q=>∃ l b xs zs,x=.ref l∧vs=[.ref b]∧H l=some (.lst xs)∧(SqL K H b zs∨SqT K H b zs)∧xs.length+zs.length≤sizeLine∧Q .non (upd H l (.lst (xs++zs)))
theorem u6 {X:Cx}:MtR X "list.extend" (rExt X.K):=by
 intro pins s σ H x vs v us Q I rx rv h
 obtain⟨l,b,xs,zs,rfl,rfl,hH,hB,hz,q⟩:=h
 cases rx
 obtain⟨u,rfl,ru⟩:=rv.one
 cases ru
 obtain⟨z,its,n,r,hl,e⟩:=I.lstM hH
 rcases hB with hB | hB
 ·obtain⟨its2,r2,⟨⟨c2,d2,dt2,sl2⟩,n2,e2,p2,p3,p4⟩,z2⟩:=I.list hB
  simp only at p2 p3 p4
  subst p2 p3 p4
  have hl2:=r2.length
  have hsz:its.toArray.size+its2.toArray.size≤sizeLine:=by rw[List.size_toArray,List.size_toArray];omega
  refine call_meets F.slot_list_extend ⟨_,e,rfl⟩ F.entry_list_extend (F.args_list_extend_2 _ _) (og l b its.toArray its2.toArray n n2 _ _ hsz) ⟨e,e2,?_⟩
  refine⟨.non,_,I.lset (its':=its++its2) hH e (by simp) (r.append r2) ?_,rfl,q⟩
  rw[List.length_append]
  omega
 ·obtain⟨its2,r2,⟨⟨c2,d2,dt2,sl2⟩,e2,p2,n2,p3⟩,z2⟩:=I.tuple hB
  simp only at p2 p3
  subst p2 p3
  have hl2:=r2.length
  have hsz:its.toArray.size+its2.toArray.size≤sizeLine:=by rw[List.size_toArray,List.size_toArray];omega
  refine call_meets F.slot_list_extend ⟨_,e,rfl⟩ F.entry_list_extend (F.args_list_extend_2 _ _) (oh l b its.toArray its2.toArray n n2 _ _ hsz) ⟨e,e2,?_⟩
  refine⟨.non,_,I.lset (its':=its++its2) hH e (by simp) (r.append r2) ?_,rfl,q⟩
  rw[List.length_append]
  omega
section
variable {X:Cx}{F:Fx}{e:Expr}{es:List Expr}{gs:SS→R (List D)}{pos p0 apos cpos lpos:Pos}{x:Str}
theorem d8 (i:Nat){pos':Pos}(hN:X.N.Nodup)(h:FA X F es gs)(hi:X.N[i]?=some x:=by rfl)(hx:Loc X.env.scope x:=by first | exact Or.inl rfl | exact Or.inr rfl)
  (hs:swapsWith (.List es lpos) (some (.Name x pos')) pos.line X.env=pure false:=by rfl) (hf:X.fn x=true∨X.env.scope.names.lookup x=some .local:=by first | exact .inl rfl | exact .inr rfl):FS X F (.Assign [.Name x pos'] (.List es lpos) pos) (sOwn i gs) :=
 (kh hN hi hx (pO h) hs hf).weak fun D σ H ⟨Z,S,ok,w⟩=>bc ok (WO.wg ok w) fun ds vs H1 Z1 ok1 x1 rs w1=>by
  split at w1
  ·rename_i hl
   refine⟨by rw[← rs.length,sizeLine_eq];exact hl,fun p hp=>?_⟩
   have w2:=WG.now w1 ok1.sub
   exact w2 _ _ Z1 (Same.refl _) (ok1.newOwn hp rs)
  ·exact w1.elim
theorem jR (i:Nat)(ha:FA X F [e] gs)(hi:X.N[i]?=some x:=by rfl)(hv:Vis X.env.scope x:=by first | exact Or.inl rfl | exact Or.inr (Or.inl rfl) | exact Or.inr (Or.inr rfl))(hd:(x==("__debug__":Str))=false:=by decide)
  (hcd:(x==("__classdict__":Str))=false:=by decide)
  (hbase:attributeBase (.Name x p0) "append" X.env (eval (.Name x p0) X.env)=eval (.Name x p0) X.env:=by rfl)
  (hfew:((backTo cpos (starEach [e] X.env)).all (fun x=>!x.1)&&(backToKw cpos (keywordEach [] X.env)).all (fun x=>x.1.isSome)
   && decide ([e].length+([]:List Keyword).length+(if ([]:List Keyword).isEmpty then 0 else 1) < 30))=true:=by rfl)
  (hline:(apos.endLine==cpos.line)=true:=by rfl) (hs:starEach [e] X.env=(false,eval e X.env)::starEach [] X.env:=by rfl) (hplain:(backTo cpos (starEach [] X.env)).any (·.1)=false:=by rfl)
  (hsw:swapsWith (.Call (.Attribute (.Name x p0) "append" apos) [e] [] cpos) none pos.line X.env=pure false:=by rfl) :
  FS X F (.Expr (.Call (.Attribute (.Name x p0) "append" apos) [e] [] cpos) pos) (sApp i gs) :=
 (kg (kW PySem.F.plainAttrs_list PySem.F.slot_list_append (by kernel_rfl) (jM (X:=X)) (fV hi hv hd hcd) ha hbase hfew hline hs hplain) hsw).weak fun D σ H ⟨Z,S,ok,w⟩=>by
  unfold sApp at w
  split at w
  ·rename_i ds e0
   obtain⟨a,vs,e1,e2,e3,e4,r⟩:=ok.own i ds e0
   refine⟨.ref a,e1,.inl ⟨rfl,vs,SqL.of e2⟩,bc ok (WO.wg ok w) fun es' us H1 Z1 ok1 x1 rs w1=>?_⟩
   split at w1
   ·rename_i d
    split at w1
    ·rename_i hl
     obtain⟨y,rfl,ry⟩:=aZ rs
     have w2:=WG.now w1 ok1.sub
     refine⟨a,vs,y,rfl,rfl,x1.same _ _ e2,by rw[← r.length,sizeLine_eq];exact hl,?_⟩
     exact w2 σ _ Z1 (Same.refl _) (ok1.write e0 e1 ((r.mono x1.z).append (Reps.cons ry Reps.nil)))
    ·exact w1.elim
   ·exact w1.elim
  ·exact w.elim
theorem bR (i:Nat)(bK:X.K=F.K)(ha:FA X F [e] gs)(hi:X.N[i]?=some x:=by rfl)(hv:Vis X.env.scope x:=by first | exact Or.inl rfl | exact Or.inr (Or.inl rfl) | exact Or.inr (Or.inr rfl))(hd:(x==("__debug__":Str))=false:=by decide)
  (hcd:(x==("__classdict__":Str))=false:=by decide)
  (hbase:attributeBase (.Name x p0) "extend" X.env (eval (.Name x p0) X.env)=eval (.Name x p0) X.env:=by rfl)
  (hfew:((backTo cpos (starEach [e] X.env)).all (fun x=>!x.1)&&(backToKw cpos (keywordEach [] X.env)).all (fun x=>x.1.isSome)
   && decide ([e].length+([]:List Keyword).length+(if ([]:List Keyword).isEmpty then 0 else 1) < 30))=true:=by rfl)
  (hline:(apos.endLine==cpos.line)=true:=by rfl) (hs:starEach [e] X.env=(false,eval e X.env)::starEach [] X.env:=by rfl) (hplain:(backTo cpos (starEach [] X.env)).any (·.1)=false:=by rfl)
  (hsw:swapsWith (.Call (.Attribute (.Name x p0) "extend" apos) [e] [] cpos) none pos.line X.env=pure false:=by rfl) :
  FS X F (.Expr (.Call (.Attribute (.Name x p0) "extend" apos) [e] [] cpos) pos) (sExt i gs) :=
 (kg (kW PySem.F.plainAttrs_list PySem.F.slot_list_extend (by kernel_rfl) (u6 (X:=X)) (fV hi hv hd hcd) ha hbase hfew hline hs hplain) hsw).weak fun D σ H ⟨Z,S,ok,w⟩=>by
  unfold sExt at w
  split at w
  ·rename_i ds e0
   obtain⟨a,vs,e1,e2,e3,e4,r⟩:=ok.own i ds e0
   refine⟨.ref a,e1,.inl ⟨rfl,vs,SqL.of e2⟩,bc ok (WO.wg ok w) fun es' us H1 Z1 ok1 x1 rs w1=>?_⟩
   split at w1
   ·rename_i xs
    split at w1
    ·rename_i hl
     obtain⟨y,rfl,ry⟩:=aZ rs
     rw[Rep]at ry
     obtain⟨b,zs,rfl,h1,h2⟩:=ry
     have w2:=WG.now w1 ok1.sub
     refine⟨a,b,vs,zs,rfl,rfl,x1.same _ _ e2,.inl (by rw[bK];exact ok1.sub.seq h1),by rw[← r.length,← h2.length,sizeLine_eq];exact hl,?_⟩
     exact w2 σ _ Z1 (Same.refl _) (ok1.write e0 e1 ((r.mono x1.z).append h2))
    ·exact w1.elim
   ·rename_i xs
    split at w1
    ·rename_i hl
     obtain⟨y,rfl,ry⟩:=aZ rs
     rw[Rep]at ry
     obtain⟨b,zs,rfl,h1,h2⟩:=ry
     have w2:=WG.now w1 ok1.sub
     refine⟨a,b,vs,zs,rfl,rfl,x1.same _ _ e2,.inr (by rw[bK];exact h1.mono ok1.sub),by rw[← r.length,← h2.length,sizeLine_eq];exact hl,?_⟩
     exact w2 σ _ Z1 (Same.refl _) (ok1.write e0 e1 ((r.mono x1.z).append h2))
    ·exact w1.elim
   ·exact w1.elim
  ·exact w.elim
end
def dCount (xs es:List D):R D:=match es with
 | [.bl k]=>match boolsD xs with
  | some bs=>.ok (.int (bs.countP (· == k):Nat))
  | none=>.stuck
 | _=>.stuck
def dIndex (xs es:List D):R D:=match es with
 | [.bl k]=>match boolsD xs with
  | some bs=>if bs.idxOf k < bs.length then .ok (.int (bs.idxOf k:Nat)) else .stuck
  | none=>.stuck
 | _=>.stuck
def eMethL (f:List D→List D→R D)(g:SS→R D)(gs:SS→R (List D)):SS→R D:=fun S=>(g S).bind fun d=>match d with
 | .lst xs=>(gs S).bind fun es=>f xs es
 | _=>.stuck
def rCountB (K:PySem.W.Frag):V→List V→Hp→VK→Prop:=fun x vs H Q=>∃ (l:Addr) (bs:List Bool) (k:Bool),x=.ref l∧vs=[.bl k]∧SqL K H l (bs.map V.bl)∧Q (.int (bs.countP (· == k):Nat)) H
def rIndexB (K:PySem.W.Frag):V→List V→Hp→VK→Prop:=fun x vs H Q=>∃ (l:Addr) (bs:List Bool) (k:Bool),x=.ref l∧vs=[.bl k]∧SqL K H l (bs.map V.bl)∧bs.idxOf k < bs.length∧Q (.int (bs.idxOf k:Nat)) H
theorem iD {X:Cx}{pins:List (Addr×Obj)}{σ:St}{H:Hp}{s:Shared}(I:Inv X pins σ H s){A:Around}(hu:A.units < cLine)(b k:Bool):SeqAt.EqAt A s (.bool b) (.bool k) (b==k) :=
 f8 (K:=X.K) (C:=fun _=>0) (Z:=fun _=>none) rfl I (fun _ _ e=>nomatch e) 0 A (.bl b) (.bl k) (.bl b) (.bl k) _ _ rfl rfl aY aY rfl rfl (by omega)
def isB (k:Bool):Value→Bool
 | .bool b=>b==k
 | _=>false
theorem qD {X:Cx}{k:Nat}(hr:Room k X.A):MtR X "list.count" (rCountB X.K):=by
 intro pins s σ H x vs v us Q I rx rv h
 obtain⟨l,bs,k,rfl,rfl,hH,q⟩:=h
 cases rx
 obtain⟨u,rfl,ru⟩:=rv.one
 cases ru
 obtain⟨its,r,⟨⟨c2,d2,dt2,sl2⟩,n2,e2,p2,p3,p4⟩,z2⟩:=I.list hH
 have e:=cG r
 subst e
 simp only at p2 p3 p4
 subst p2 p3 p4
 refine call_meets F.slot_list_count ⟨_,e2,rfl⟩ F.entry_list_count (F.args_list_count_2 _ _) (SeqAt.list_countAt l _ n2 _ _ (.bool k) (isB k)) ⟨e2,fun y hy=>?_,?_⟩
 ·have hy':y∈bs.map Value.bool:=by simpa using hy
  obtain⟨b,_,rfl⟩:=List.mem_map.mp hy'
  exact iD I (by have:=hr.un;show X.A.units+1 < cLine;omega) b k
 ·have hc:((bs.map Value.bool).toArray.toList.countP (isB k))=bs.countP (· == k):=by
   show (bs.map Value.bool).countP (isB k)=_
   rw[List.countP_map]
   rfl
  rw[hc]
  exact⟨.int _,H,I.tok _,⟨_,rfl⟩,q⟩
theorem qE {X:Cx}{k:Nat}(hr:Room k X.A):MtR X "list.index" (rIndexB X.K):=by
 intro pins s σ H x vs v us Q I rx rv h
 obtain⟨l,bs,k,rfl,rfl,hH,hj,q⟩:=h
 cases rx
 obtain⟨u,rfl,ru⟩:=rv.one
 cases ru
 obtain⟨its,r,⟨⟨c2,d2,dt2,sl2⟩,n2,e2,p2,p3,p4⟩,z2⟩:=I.list hH
 have e:=cG r
 subst e
 simp only at p2 p3 p4
 subst p2 p3 p4
 rw[List.length_map,sizeLine_eq]at z2
 have hsz:bs.idxOf k < (bs.map Value.bool).toArray.size:=by rw[List.size_toArray,List.length_map];exact hj
 have hat:∀ m (hm:m < (bs.map Value.bool).toArray.size) (hm':m < bs.length),isB k (bs.map Value.bool).toArray[m]=(bs[m]==k):=fun m hm hm'=>by simp[isB]
 refine call_meets F.slot_list_index ⟨_,e2,rfl⟩ F.entry_list_index (F.args_list_index_2 _ _) (SeqAt.list_indexAt l _ n2 _ _ (.bool k) (isB k) (bs.idxOf k) hsz (by omega) ?_ ?_) ⟨e2,fun y hy=>?_,⟨.int _,H,I.tok _,⟨_,rfl⟩,q⟩⟩
 ·rw[hat _ _ hj]
  exact List.findIdx_getElem (w:=hj)
 ·intro m hm hlt
  have hm':m < bs.length:=by omega
  rw[hat _ _ hm']
  exact Bool.eq_false_iff.mpr (by simpa using List.not_of_lt_findIdx hlt)
 ·have hy':y∈bs.map Value.bool:=by simpa using hy
  obtain⟨b,_,rfl⟩:=List.mem_map.mp hy'
  exact iD I (by have:=hr.un;show X.A.units+1 < cLine;omega) b k
section
variable {X:Cx}{F:Fx}{o e:Expr}{g:SS→R D}{gs:SS→R (List D)}{apos cpos:Pos}{k:Nat}
theorem qF {K:PySem.W.Frag}{C:Nat→Addr}{Z:Hp}{k:Bool}{vs:List V}(r:Reps K C Z [.bl k] vs):vs=[.bl k]:=by
 obtain⟨v,rfl,h⟩:=aZ r
 rw[Rep]at h
 rw[h]
def MethD (F:Fx)(r:V→List V→Hp→VK→Prop)(f:List D→List D→R D):Prop:=∀ (H Z:Hp) (a:Addr) (vs:List V) (xs:List D) (us:List V) (es:List D) (Q:VK),Same Z H→SqL F.K H a vs→Reps F.K F.C Z xs vs→Reps F.K F.C Z es us →
 WG F H Z (f xs es) (fun d H' Z'=>∀ v,Rep F.K F.C Z' d v→Q v H')→r (.ref a) us H Q
theorem lg:MethD F (rCountB F.K) dCount:=by
 intro H Z a vs xs us es Q s h1 h2 rs w
 unfold dCount at w
 split at w
 ·rename_i k
  split at w
  ·rename_i bs eb
   have e3:=cF h2 eb
   subst e3
   exact⟨a,bs,k,rfl,qF rs,h1,WG.now w s _ aK⟩
  ·exact w.elim
 ·exact w.elim
theorem lh:MethD F (rIndexB F.K) dIndex:=by
 intro H Z a vs xs us es Q s h1 h2 rs w
 unfold dIndex at w
 split at w
 ·rename_i k
  split at w
  ·rename_i bs eb
   have e3:=cF h2 eb
   subst e3
   split at w
   ·rename_i hl
    exact⟨a,bs,k,rfl,qF rs,h1,hl,WG.now w s _ aK⟩
   ·exact w.elim
  ·exact w.elim
 ·exact w.elim
theorem gm {r:V→List V→Hp→VK→Prop}{f:List D→List D→R D}(hd:MethD F r f):∀ σ H Q,tE F (eMethL f g gs) σ H Q→tBM F.K "list" r (tE F g) (tAl F gs) σ H Q:=fun σ H Q ⟨Z,S,ok,w⟩=>aE ok w fun d v H1 Z1 ok1 x1 rv w1=>by
 cases d with
 | lst xs =>
  rw[Rep]at rv
  obtain⟨a,vs,rfl,h1,h2⟩:=rv
  exact⟨.inl ⟨rfl,vs,ok1.sub.seq h1⟩,bc ok1 w1 fun es us H2 Z2 ok2 x2 rs w2=>hd H2 Z2 a vs xs us es Q ok2.sub (ok2.sub.seq (x2.z.seq h1)) (h2.mono x2.z) rs w2⟩
 | _=>exact w1.elim
theorem qG (bx:BX X F k)(ho:FE X F o g)(ha:FA X F [e] gs)
  (hbase:attributeBase o "count" X.env (eval o X.env)=eval o X.env:=by rfl)
  (hfew:((backTo cpos (starEach [e] X.env)).all (fun x=>!x.1)&&(backToKw cpos (keywordEach [] X.env)).all (fun x=>x.1.isSome)
   && decide ([e].length+([]:List Keyword).length+(if ([]:List Keyword).isEmpty then 0 else 1) < 30))=true:=by rfl)
  (hline:(apos.endLine==cpos.line)=true:=by rfl) (hs:starEach [e] X.env=(false,eval e X.env)::starEach [] X.env:=by rfl) (hplain:(backTo cpos (starEach [] X.env)).any (·.1)=false:=by rfl) :
  FE X F (.Call (.Attribute o "count" apos) [e] [] cpos) (eMethL dCount g gs) :=
 (kW PySem.F.plainAttrs_list PySem.F.slot_list_count (by kernel_rfl) (qD bx.room) ho ha hbase hfew hline hs hplain).weak (by rw[bx.K];exact gm lg)
theorem oA (bx:BX X F k)(ho:FE X F o g)(ha:FA X F [e] gs)
  (hbase:attributeBase o "index" X.env (eval o X.env)=eval o X.env:=by rfl)
  (hfew:((backTo cpos (starEach [e] X.env)).all (fun x=>!x.1)&&(backToKw cpos (keywordEach [] X.env)).all (fun x=>x.1.isSome)
   && decide ([e].length+([]:List Keyword).length+(if ([]:List Keyword).isEmpty then 0 else 1) < 30))=true:=by rfl)
  (hline:(apos.endLine==cpos.line)=true:=by rfl) (hs:starEach [e] X.env=(false,eval e X.env)::starEach [] X.env:=by rfl) (hplain:(backTo cpos (starEach [] X.env)).any (·.1)=false:=by rfl) :
  FE X F (.Call (.Attribute o "index" apos) [e] [] cpos) (eMethL dIndex g gs) :=
 (kW PySem.F.plainAttrs_list PySem.F.slot_list_index (by kernel_rfl) (qE bx.room) ho ha hbase hfew hline hs hplain).weak (by rw[bx.K];exact gm lh)
end
end FF
end
noncomputable section
namespace FF
open PySem PySem.Spec PyProof.Rows L2
def MadeX (X:Cx)(F:Fx):Prop:=∀ (pins:List (Addr×Obj)) (σ:St) (H:Hp) (s:Shared) (h1:Heap) (ea C:Addr) (args:List Value),Inv X pins σ H s→Heap.MadeExcOf s.heap h1 ea (.ref C) args→F.E (.ref C) none H→X.xe (.ref ea) { s with heap:=h1 }
def bmVE:List Value:=[.type "ValueError",.type "Exception",.type "BaseException",.type "object"]
theorem ny {K:PySem.W.Frag}{h:Heap}{C:Addr}{bmB:List Value}{newId:String}(X:K.In h)(q:PySem.W.excIn K C bmB newId=true) :
  ∃ (bm:List Value) (N:Addr) (nm qn:Str) (bs:List Value) (hdct:Bool) (sn:List Str) (sub:List Value) (ab:Bool) (col:Option Bool) (dd:Option Addr) (k0 k1 k2 k3 k5:Option Value) (mN:Str→Option Value),
   h.get? C=some (excClassObj nm qn C N bs bm hdct sn sub ab col dd k0 k1 k2 k3 k5 newId)∧h.Ns N mN∧mN "__init__"=none∧OwnTail h bmB bm:=by
 unfold PySem.W.excIn at q
 split at q
 ·rename_i dd cd sl ho
  split at q
  ·rename_i C' bm k0 k1 k2 k3 n k5 hm hs
   simp only[Bool.and_eq_true,beq_iff_eq,Bool.not_eq_true']at q
   obtain⟨⟨⟨⟨⟨rfl,rfl⟩,hdel⟩,ht⟩,hok⟩,hni⟩:=q
   obtain⟨nm,bs,mro,ns,qn,hd,sn,sub,ab,col,del⟩:=cd
   dsimp only at hm hdel hok hni
   subst hm hdel
   have hsl:sl = #[k0,k1,k2,k3,some (.builtin n),k5]:=by
    obtain⟨l⟩:=sl
    simp only at hs
    rw[hs]
   subst hsl
   exact⟨bm,ns,nm,qn,bs,hd,sn,sub,ab,col,dd,k0,k1,k2,k3,k5,_,X _ _ ho,.of_isNs (PySem.W.isNs_of_in X hok),PySem.W.nsMap_none_of_in X hok hni,PySem.W.tail_of_in X ht⟩
  ·cases q
 ·cases q
def sRaise (j:Nat)(gs:SS→R (List D)):SS→O:=fun S=>rO ((gs S).bind fun ds=>if ds.length≤1000 then .ok (.er j) else .stuck)
section
variable {X:Cx}{F:Fx}{e:Expr}{es:List Expr}{gs:SS→R (List D)}{pos np cpos:Pos}{x:Str}{k j:Nat}
theorem cH (j:Nat)(bx:BX X F k)(hmade:MadeX X F)(hg:Gl X x)(hm:X.mg x=some (.ref (F.C j)))(q:PySem.W.excIn F.K (F.C j) bmVE "ValueError.__new__"=true)(ha:FA X F (e::es) gs)(hd:(x==("__debug__":Str))=false:=by decide)
  (he:starEach (e::es) X.env=(false,eval e X.env)::starEach es X.env:=by rfl) (hpl:(backTo cpos (starEach es X.env)).any (·.1)=false:=by rfl) :
  FS X F (.Raise (some (.Call (.Name x np) (e::es) [] cpos)) none pos) (sRaise j gs):=by
 intro pins s σ H D I h
 obtain⟨Z,S,ok,w⟩:=h
 have q':=q
 rw[← bx.K]at q'
 obtain⟨bm,N,nm,qn,bs,hdct,sn,sub,ab,col,dd,k0,k1,k2,k3,k5,mN,hC0,hN0,hni0,T0⟩:=ny (bmB:=bmVE) I.ok.mod.kin q'
 have hb:∀ {pl σ' H' s'},Inv X pl σ' H' s'→∀ b o,X.base.get? b=some o→s'.heap.get? b=some o:=fun I'=>I'.bk
 refine wpAny_Raise_call_subU (C:=F.C j) (nm:=nm) (q:=qn) (N:=N) (bs:=bs) (bm:=bm) (hdct:=hdct) (sn:=sn) (sub:=sub) (ab:=ab) (col:=col) (dd:=dd) (k0:=k0) (k1:=k1) (k2:=k2) (k3:=k3) (k5:=k5) PySem.F.excBase_ValueError (by decide) PySem.F.excBase_ValueError (T0.hasType PySem.F.excBase_ValueError.hasBase) (I.ok.hd bx.calm) (by rw[he];show (false||(backTo cpos (starEach es X.env)).any (·.1))=false;rw[hpl];rfl) hni0 (hI I hg hm ⟨rfl,?_⟩ hd)
 have hA:=ha cpos pins s σ H (fun vs H1=>vs.length≤1000∧F.E (.ref (F.C j)) none H1) I (bc ok (WO.wg ok w) fun ds vs H1 Z1 ok1 x1 rs w1=>by
  split at w1
  ·rename_i hl
   exact⟨by rw[← rs.length];exact hl,WG.now w1 ok1.sub H1 ok1.ex.same⟩
  ·exact w1.elim)
 rw[he]at hA ⊢
 refine Calls.evalArgs_plain (thn hA fun us s2 ⟨vs,H2,I2,r2,q2⟩=>⟨rfl,?_,hb I2 _ _ hC0,hN0.keeps (hb I2),T0.keeps (hb I2),fun h' e hm'=>hmade pins σ H2 s2 h' e _ us I2 hm' q2.2⟩)
 rw[← r2.length,sizeLine_eq]
 omega
end
end FF
end
noncomputable section
namespace FF
open PySem PySem.Spec PyProof.Rows L2
section
variable {X:Cx}{pins:List (Addr×Obj)}{σ:St}{H:Hp}{s:Shared}
theorem iE (I:Inv X pins σ H s){A:Around}{calm:Bool}{pn pins':List (Addr×Obj)}{xe:Value→Shared→Prop}(hf:A.frames=X.A.frames)(hc:calm=true→A.handled=none)(hp:∀ p∈pn++pins',p∈X.pn++pins) :
  Inv { X with A:=A,calm:=calm,pn:=pn,xe:=xe } pins' σ H s :=
 ⟨⟨I.ok.mod,I.ok.kind,I.ok.glob,I.ok.blt,I.ok.above,I.ok.inj,I.ok.has,I.ok.cab,hc,hf.trans I.ok.frames,I.ok.stk,I.ok.exf,I.ok.bs,I.ok.bsz,I.ok.noex,I.ok.exfs,I.ok.funs,I.ok.frf⟩,I.os,I.bare,I.base,I.loc,I.cell,I.free,I.freeC,
  fun p hpp=>I.pin p (hp p hpp),I.hok,I.len⟩
theorem oB (I:Inv X pins σ H s){a:Addr}{o:HO}(hn:H a=none)(h0:X.s₀.heap.get? a=none)(hl:a≠X.env.locals)(hc:∀ x c,X.env.cells.lookup x=some c→c≠a)(hp:∀ p∈X.pn++pins,p.1≠a)
  (ho:ObjOk X.prog X.w (upd H a o) s.heap a o):Inv X pins σ (upd H a o) s:=by
 have nn:∀ {b:Addr} {u:HO},H b=some u→upd H a o b=some u:=fun {b u} e=>by rw[al (bG e hn)];exact e
 refine⟨I.ok,I.os,I.bare,⟨I.base.keep,I.base.slot,fun b ob e n hx=>?_,I.base.there,fun b xs e=>nn (I.base.tups b xs e),fun b o' u e=>nn (I.base.frzs b o' u e),fun b ps e=>?_⟩,I.loc,I.cell,?_,fun x c e=>?_,fun p h=>?_,fun b u e=>?_,I.len⟩
 ·rw[al (by rintro rfl;rw[h0]at e;cases e)]
  exact I.base.free b ob e n hx
 ·obtain⟨more,q⟩:=I.base.tbls b ps e
  exact⟨more,nn q⟩
 ·rw[al (Ne.symm hl)];exact I.free
 ·rw[al (hc x c e)];exact I.freeC x c e
 ·obtain⟨a1,a2,a3⟩:=I.pin p h
  exact⟨a1,by rw[al (hp p h)];exact a2,a3⟩
 ·by_cases q:b=a
  ·subst q
   rw[ap]at e
   cases e
   exact ho
  ·rw[al q]at e
   exact(I.hok b u e).stay (fun _ _ _ z=>z) (fun c z=>nn z) fun c xs z=>nn z
theorem oC {M:Model}{A:Around}{E:Value→Shared→Prop}{i:Nat}{n:Str}{v:V}{Q:Unit→Shared→Prop}(I:Inv X pins σ H s)(hN:X.N.Nodup)(hi:X.N[i]?=some n)(hk:X.env.kindOf n=some .local)(hs:X.env.scope.names.lookup n=some .local)(hv:σ[i]?=some (some v))
  (h:∀ s',Inv X pins (σ.set i none) H s'→Q () s'):wpAny M A (unbindName X.env n) Q E s:=by
 obtain⟨m,hn,hl⟩:=id I.loc
 have hcls:(X.env.scope.kind==.class||(X.env.scope.kind==.module&&X.env.locals != X.env.globals))=false:=by rw[I.ok.kind];rfl
 obtain⟨u,ru,lk⟩:=hl i n v hi hv (.inl hs)
 have hm:m n=some u:=by
  rcases lk with ⟨_,e⟩ | ⟨z,_⟩
  ·exact e
  ·rw[hk]at z;rcases z with z | z<;>cases z
 have cne:=I.cne
 have hiσ:i < σ.length:=(List.getElem?_eq_some_iff.mp hv).1
 refine wpAny_unbindName_local hk hn hm hcls fun h' u' hn' hs'=>?_
 obtain⟨oL,_,_,hoL,_⟩:=id hn
 have nl:∀ b o,X.s₀.heap.get? b=some o→b≠X.env.locals:=fun b o e=>Nat.ne_of_lt (Nat.lt_of_lt_of_le (Heap.lt_size e) I.ok.above)
 refine h _ ⟨I.ok,I.os,I.bare,⟨fun b o e nn hb hx=>(hs'.2 b (nl b o e)).trans (I.base.keep b o e nn hb hx),fun b o e nn hb hx=>?_,I.base.free,fun b o e hx=>?_,I.base.tups,I.base.frzs,I.base.tbls⟩,⟨_,hn',fun j y v' e1 e2 e3=>?_⟩,fun y c e=>?_,I.free,I.freeC,fun p hp=>?_,fun b ob e=>?_,by simpa using I.len⟩
 ·obtain⟨sl,e1⟩:=I.base.slot b o e nn hb hx
  exact⟨sl,(hs'.2 b (nl b o e)).trans e1⟩
 ·obtain⟨o',e1⟩:=I.base.there b o e hx
  exact⟨o',(hs'.2 b (nl b o e)).trans e1⟩
 ·have hj:j≠i:=fun q=>by
   subst q
   rw[List.getElem?_set_self hiσ]at e2
   cases e2
  rw[List.getElem?_set_ne (Ne.symm hj)]at e2
  obtain⟨u2,r2,q⟩:=hl j y v' e1 e2 e3
  refine⟨u2,r2,?_⟩
  rcases q with ⟨k,e⟩ | ⟨k,c,e,z⟩
  ·refine .inl ⟨k,?_⟩
   have:y≠n:=fun e=>hj (ib hN e1 (e ▸ hi))
   simp[this,e]
  ·exact .inr ⟨k,c,e,z.sameBut hs' (cne y c e)⟩
 ·obtain⟨w',z⟩:=I.cell y c e
  exact⟨w',z.sameBut hs' (cne y c e)⟩
 ·obtain⟨e,nn,ne,nf,d⟩:=I.pin p hp
  exact⟨(hs'.2 p.1 ne).trans e,nn,ne,nf,d⟩
 ·refine(I.hok b ob e).stay (fun c w' hc q=>(hs'.2 c ?_).trans q) (fun _ q=>q) fun _ _ q=>q
  rintro rfl
  rcases hc with z | z
  ·subst z;rw[I.free]at e;cases e
  ·rw[I.free]at z;cases z
end
structure Takes (K:PySem.W.Frag)(C:Nat→Addr)(C0:Addr)(q:Nat→Bool):Prop where
 exc:PySem.W.excIn K C0 bmVE "ValueError.__new__"=true
 sub:∀ k,q k=true→PySem.W.subIn K (.ref (C k)) (.ref C0)=some true
theorem li {K:PySem.W.Frag}{C:Nat→Addr}{C0:Addr}{q:Nat→Bool}(T:Takes K C C0 q){M:Model}{A:Around}{E:Value→Shared→Prop}{h:Heap}{g:Array GenState}{d:Drawn}{t:Nat}{os:OsState}{e:Addr}{oe:Obj}{k:Nat}{Q:Bool→Shared→Prop}
  (X:K.In h) (he:h.get? e=some oe) (hc:oe.cls=.ref (C k)) (hk:q k=true) (hq:Q true ⟨h,g,d,t,os⟩):wpAny M A (excMatches (.ref e) (.ref C0)) Q E ⟨h,g,d,t,os⟩:=by
 obtain⟨bm,N,nm,qn,bs,hdct,sn,sub,ab,col,dd,k0,k1,k2,k3,k5,mN,hC,hN,hni,TL⟩:=ny X T.exc
 have hcB:(Value.ref C0::bm).contains (.type "BaseException")=true:=by rw[List.contains_cons,TL.hasType (show bmVE.contains (.type "BaseException")=true by decide),Bool.or_true]
 have L3:=PySem.W.looks_subIn (M:=M) X (T.sub k hk)
 have f:=tc_notTuple
 unfold excMatches
 repeat (first | (with_reducible refine wpAny_loadPart_at he ?_;rw[hc]) | with_reducible refine wpAny_loadPart_at hC ?_ | (with_reducible refine wpAny_isSubtype_exc hC ?_;rw[hcB]) | (with_reducible refine L3.at ?_) | wp_step)
 exact hq
def blankS (S:SS):SS:=List.replicate S.length none
abbrev tryX (X:Cx)(pn:List (Addr×Obj))(xe:Value→Shared→Prop):Cx:={ X with A:=X.A,calm:=X.calm,pn:=pn,xe:=xe }
def bothH (F:Fx)(Z:Hp):Hp:=fun b=>match F.H0 b with
 | some o=>some o
 | none=>Z b
section
variable {F:Fx}{H Z:Hp}{S:SS}{σ:St}
theorem both1:Same F.H0 (bothH F Z):=fun b o e=>by unfold bothH;rw[e]
theorem both2 (ok:StOk F H Z S σ):Same (bothH F Z) H:=fun b o e=>by
 unfold bothH at e
 split at e
 ·rename_i o' q
  cases e
  exact ok.ex.same b _ q
 ·exact ok.sub b o e
theorem both3 (ok:StOk F H Z S σ):Same Z (bothH F Z):=fun b o e=>by
 unfold bothH
 split
 ·rename_i o' q
  have h1:=ok.ex.same b _ q
  have h2:=ok.sub b _ e
  rw[h1]at h2
  exact h2
 ·exact e
theorem nz (ok:StOk F H Z S σ){H' Z':Hp}(x:Ex (bothH F Z) Z H' Z'):Ex F.H0 F.Z0 H' Z':=by
 refine⟨both1.trans x.same,ok.ex.z.trans x.z,x.sub,fun b h=>?_⟩
 rcases x.new b h with z | z
 ·exact ok.ex.new b z
 ·exact .inr (both1.free z)
theorem sU (ok:StOk F H Z S σ){E:XK}{H' Z':Hp}{S':SS}{σ':St}(h:StOk ⟨F.K,F.C,bothH F Z,Z,E⟩ H' Z' S' σ'):StOk F H' Z' S' σ' :=
 ⟨nz ok h.ex,h.len,fun i x e=>by
  obtain⟨v,A,e1,o,p⟩:=h.sl i x e
  exact⟨v,A,e1,ow_K o,p.nd,p.z,fun a ha=>both1.free (p.h0 a ha)⟩,fun i j x y v w A B hij e1 e2 e3 e4 o1 o2=>h.dj i j x y v w A B hij e1 e2 e3 e4 (ow_K o1) (ow_K o2)⟩
theorem sV (ok:StOk F H Z S σ){E:XK}:StOk ⟨F.K,F.C,bothH F Z,Z,E⟩ H Z S σ :=
 ⟨⟨both2 ok,Same.refl _,ok.sub,fun b h=>.inl h⟩,ok.len,fun i x e=>by
  obtain⟨v,A,e1,o,p⟩:=ok.sl i x e
  refine⟨v,A,e1,ow_K o,p.nd,p.z,fun a ha=>?_⟩
  show bothH F Z a=none
  unfold bothH
  rw[p.h0 a ha]
  exact p.z a ha,fun i j x y v w A B hij e1 e2 e3 e4 o1 o2=>ok.dj i j x y v w A B hij e1 e2 e3 e4 (ow_K o1) (ow_K o2)⟩
theorem oD (ok:StOk F H Z S σ){H':Hp}{j k:Nat}{ea:Addr}{σ':St}(hs:Same (bothH F Z) H')(hn:H' ea=none)(hl:S.length=σ'.length)(hv:j < σ'.length→σ'[j]?=some (some (.ref ea))) :
  ∃ Z',Same Z Z'∧StOk F (upd H' ea (excO F.C k ea)) Z' ((blankS S).set j (some (.val (.exc k)))) σ':=by
 have zn:Z ea=none:=(both3 ok).free (hs.free hn)
 have fn:F.H0 ea=none:=both1.free (hs.free hn)
 have one:∀ {i:Nat} {x:Sl},((blankS S).set j (some (.val (.exc k))))[i]?=some (some x)→i=j∧x=.val (.exc k)∧j < S.length:=fun {i x} e=>by
  have hlen:(blankS S).length=S.length:=by unfold blankS;simp
  by_cases q:j=i
  ·subst q
   by_cases hj:j < S.length
   ·rw[List.getElem?_set_self (by rw[hlen];exact hj)]at e
    cases e
    exact⟨rfl,rfl,hj⟩
   ·rw[List.getElem?_eq_none (by simpa [hlen] using hj)]at e;cases e
  ·rw[List.getElem?_set_ne q]at e
   unfold blankS at e
   rw[List.getElem?_replicate]at e
   split at e<;>cases e
 refine⟨upd Z ea (excO F.C k ea),aD zn,⟨⟨(both1.trans hs).trans (aD hn),ok.ex.z.trans (aD zn),fun b o e=>?_,fun b h=>?_⟩,by simp[blankS,hl],fun i x e=>?_,fun i1 i2 x y v w A B _ e1 _ _ _ o1 _=>?_⟩⟩
 ·by_cases q:b=ea
  ·subst q;rw[ap]at e ⊢;exact e
  ·rw[al q]at e ⊢;exact hs b o (both3 ok b o e)
 ·by_cases q:b=ea
  ·subst q;exact .inr fn
  ·rw[al q]at h;exact ok.ex.new b h
 ·obtain⟨rfl,e2,hj⟩:=one e
  cases e2
  exact⟨.ref ea,[],hv (by rw[← hl];exact hj),⟨rfl,by rw[Rep];exact⟨ea,rfl,ap⟩⟩,Priv.nil⟩
 ·obtain⟨_,e2,_⟩:=one e1
  cases e2
  rw[o1.1];exact fun a ha=>nomatch ha
end
section
variable {X:Cx}{F:Fx}{body:List Stmt}{g:SS→O}{c n y:Str}{np np2 kp apos hpos pos:Pos}{k:Nat}{q:Nat→Bool}{C0:Addr}
end
end FF
end
noncomputable section
namespace FF
open PySem PySem.Spec PyProof.Rows L2
def eNeg (g:SS→R D):SS→R D:=fun S=>(g S).bind fun d=>match d with
 | .int i=>.ok (.int (-i))
 | _=>.stuck
section
variable {X:Cx}{F:Fx}{a:Expr}{g:SS→R D}{pos:Pos}{x:Str}{i:Int}
theorem u7 (h:FE X F a g):FE X F (.UnaryOp .USub a pos) (eNeg g):=(vC uM h).weak fun σ H Q ⟨Z,S,ok,w⟩=>aE ok w fun d v H1 Z1 ok1 x1 rv w1=>by
 cases d with
 | int i=>rw[Rep]at rv;exact⟨i,rv,WG.now w1 ok1.sub _ aK⟩
 | _=>exact w1.elim
theorem hJ (h:∃ t,X.mg x=some (.int i t))(hg:Gl X x)(hd:(x==("__debug__":Str))=false:=by decide):FE X F (.Name x pos) (eC (.int i)):=by
 obtain⟨t,e⟩:=h
 exact eJ (bw (v:=.int i) hg e ⟨t,rfl⟩ hd) fun _=>aK
end
end FF
end
noncomputable section
namespace FF
open PySem PySem.Spec PyProof.Rows L2
section
variable {X:Cx}{F:Fx}{e:Expr}{es:List Expr}{g:SS→R D}{gs:SS→R (List D)}
end
end FF
end
noncomputable section
namespace FF
open PySem L2
def dSw (d:D)(lo hi:Option Int):R D:=match d with
 | .lst xs=>.ok (.lst (cutD xs lo hi))
 | .tup xs=>.ok (.tup (cutD xs lo hi))
 | _=>.stuck
def eSw (g:SS→R D)(l h:SS→R (Option Int)):SS→R D:=fun S=>(g S).bind fun d=>(l S).bind fun lo=>(h S).bind fun hi=>dSw d lo hi
def intsOf:List D→Option (List Int)
 | []=>some []
 | .int i::r=>(intsOf r).map (i::·)
 | _::_=>none
def sumI (is:List Int):Int:=is.foldl (· + ·) 0
def dSum:List D→R D
 | [.lst xs]=>match intsOf xs with
  | some is=>.ok (.int (sumI is))
  | none=>.stuck
 | [.tup xs]=>match intsOf xs with
  | some is=>.ok (.int (sumI is))
  | none=>.stuck
 | _=>.stuck
def minI (a:Int)(is:List Int):Int:=is.foldl (fun m x=>if x < m then x else m) a
def maxI (a:Int)(is:List Int):Int:=is.foldl (fun m x=>if m < x then x else m) a
def dMinL:List D→R D
 | [.lst xs]=>match intsOf xs with
  | some (a::is)=>.ok (.int (minI a is))
  | _=>.stuck
 | _=>.stuck
def dMaxL:List D→R D
 | [.lst xs]=>match intsOf xs with
  | some (a::is)=>.ok (.int (maxI a is))
  | _=>.stuck
 | _=>.stuck
def setAll:List Nat→List D→SS→SS
 | i::r,d::ds,S=>setAll r ds (S.set i (some (.val d)))
 | _,_,S=>S
def gTup (ix:List Nat):D→SS→R SS:=fun d S=>match d with
 | .tup ds=>if ds.length=ix.length then .ok (setAll ix ds S) else .stuck
 | _=>.stuck
def sAsg (g:D→SS→R SS)(e:SS→R D):SS→O:=fun S=>rO ((e S).bind fun d=>(g d S).bind fun S1=>.ok (.nx S1))
end FF
end
noncomputable section
namespace FF
open PySem PySem.Spec PyProof.Rows L2
theorem cI {K:PySem.W.Frag}{C:Nat→Addr}{Z:Hp}:∀ {ds:List D} {vs:List V} {is:List Int},Reps K C Z ds vs→intsOf ds=some is→vs=is.map V.int
 | [],vs,is,r,e=>by rw[Reps]at r;cases e;exact r
 | d::ds,vs,is,r,e=>by
  rw[Reps]at r
  obtain⟨v,r',rfl,h1,h2⟩:=r
  cases d with
  | int i =>
   rw[intsOf]at e
   cases q:intsOf ds with
   | none=>rw[q]at e;cases e
   | some is' =>
    rw[q]at e
    cases e
    rw[Rep]at h1
    rw[h1,cI h2 q]
    rfl
  | _=>simp[intsOf]at e
theorem bL:∀ {is:List Int} {us:List Value},Vals (is.map V.int) us→∃ ps:List (Int×Tok),us=ps.map (fun p=>Value.int p.1 p.2)∧ps.map (·.1)=is
 | [],us,h=>by rw[List.map_nil]at h;cases h;exact⟨[],rfl,rfl⟩
 | i::is,us,h=>by
  rw[List.map_cons]at h
  cases h with
  | cons r t =>
   obtain⟨tk,e⟩:=(show ∃ t,_=Value.int i t from r)
   obtain⟨ps,e2,e3⟩:=bL t
   exact⟨(i,tk)::ps,by rw[e,e2];rfl,by rw[← e3];rfl⟩
theorem iF (ps:List (Int×Tok))(i:Nat)(x:Int)(h:(ps.map (·.1))[i]?=some x):numAt ps.toArray i=x:=by
 rw[List.getElem?_map]at h
 unfold numAt
 rw[List.getElem?_toArray]
 rw[h]
 rfl
theorem lj (ps:List (Int×Tok)):(List.range ps.length).map (numAt ps.toArray)=ps.map (·.1):=by
 apply List.ext_getElem?
 intro i
 rw[List.getElem?_map]
 by_cases hi:i < ps.length
 ·have hr:(List.range ps.length)[i]?=some i:=by simp[hi]
  have hx:(ps.map (·.1))[i]?=some (ps[i].1):=by simp[hi]
  rw[hr,hx]
  exact congrArg some (iF ps i _ hx)
 ·have hr:(List.range ps.length)[i]?=none:=by simp;omega
  have hx:(ps.map (·.1))[i]?=none:=by simp;omega
  rw[hr,hx]
  rfl
theorem ll (val:Nat→Int):∀ k,val (argBest (fun i j=>decide (val i < val j)) k)=minI (val 0) ((List.range k).map fun i=>val (i+1))
 | 0=>rfl
 | k+1=>by
  have ih:=ll val k
  rw[List.range_succ,List.map_append,argBest]
  unfold minI
  rw[List.foldl_append]
  show _=(if val (k+1) < minI (val 0) ((List.range k).map fun i=>val (i+1)) then val (k+1) else minI (val 0) ((List.range k).map fun i=>val (i+1)))
  rw[← ih]
  by_cases h:val (k+1) < val (argBest (fun i j=>decide (val i < val j)) k)
  ·rw[if_pos h,if_pos (by simpa using h)]
  ·rw[if_neg h,if_neg (by simpa using h)]
theorem lm (val:Nat→Int):∀ k,val (argBest (fun i j=>decide (val i > val j)) k)=maxI (val 0) ((List.range k).map fun i=>val (i+1))
 | 0=>rfl
 | k+1=>by
  have ih:=lm val k
  rw[List.range_succ,List.map_append,argBest]
  unfold maxI
  rw[List.foldl_append]
  show _=(if maxI (val 0) ((List.range k).map fun i=>val (i+1)) < val (k+1) then val (k+1) else maxI (val 0) ((List.range k).map fun i=>val (i+1)))
  rw[← ih]
  by_cases h:val (argBest (fun i j=>decide (val i > val j)) k) < val (k+1)
  ·rw[if_pos h,if_pos (by simpa using h)]
  ·rw[if_neg h,if_neg (by simpa using h)]
theorem iG (ps:List (Int×Tok))(a:Int)(is:List Int)(e:ps.map (·.1)=a::is):numAt ps.toArray 0=a∧(List.range (ps.length - 1)).map (fun i=>numAt ps.toArray (i+1))=is:=by
 have hl:ps.length=is.length+1:=by have:=congrArg List.length e;simpa using this
 refine⟨iF ps 0 a (by rw[e];rfl),?_⟩
 have h:=lj ps
 rw[e,hl,List.range_succ_eq_map,List.map_cons,List.map_map]at h
 injection h with _ h
 rw[hl,Nat.add_sub_cancel]
 exact h
section
variable {X:Cx}
theorem jo (hc:X.calm=true):CallR X (.builtin "min") (fun xs H Q=>∃ (p:Addr) (a:Int) (is:List Int),xs=[.ref p]∧SqL X.K H p ((a::is).map V.int)∧Q (.int (minI a is)) H):=by
 intro pins s σ H xs us Q I r h
 obtain⟨p,a,is,rfl,hq,q⟩:=h
 obtain⟨u,rfl,ru⟩:=vals1 r
 cases ru
 obtain⟨its,rv,pl,hz⟩:=I.list hq
 obtain⟨ps,rfl,e⟩:=bL rv
 obtain⟨e0,e1⟩:=iG ps a is e
 have hl:ps.length=is.length+1:=by have:=congrArg List.length e;simpa using this
 have hil:s.heap.IsList p (intItems ps.toArray):=by
  have:=pl.isList
  unfold intItems
  simpa using this
 refine min_intList (I.ok.hd hc) hil (by simp[hl]) fun v h' tk hv hk=>?_
 obtain⟨t,rfl⟩:=intItems_at hv
 have em:numAt ps.toArray (argBest (fun i j=>decide (numAt ps.toArray i < numAt ps.toArray j)) (ps.toArray.size - 1))=minI a is:=by
  rw[ll (numAt ps.toArray),e0,List.size_toArray,e1]
 rw[em]
 exact⟨.int (minI a is),H,I.kept fun b o e=>hk b o e,⟨t,rfl⟩,q⟩
theorem jp (hc:X.calm=true):CallR X (.builtin "max") (fun xs H Q=>∃ (p:Addr) (a:Int) (is:List Int),xs=[.ref p]∧SqL X.K H p ((a::is).map V.int)∧Q (.int (maxI a is)) H):=by
 intro pins s σ H xs us Q I r h
 obtain⟨p,a,is,rfl,hq,q⟩:=h
 obtain⟨u,rfl,ru⟩:=vals1 r
 cases ru
 obtain⟨its,rv,pl,hz⟩:=I.list hq
 obtain⟨ps,rfl,e⟩:=bL rv
 obtain⟨e0,e1⟩:=iG ps a is e
 have hl:ps.length=is.length+1:=by have:=congrArg List.length e;simpa using this
 have hil:s.heap.IsList p (intItems ps.toArray):=by
  have:=pl.isList
  unfold intItems
  simpa using this
 refine max_intList (I.ok.hd hc) hil (by simp[hl]) fun v h' tk hv hk=>?_
 obtain⟨t,rfl⟩:=intItems_at hv
 have em:numAt ps.toArray (argBest (fun i j=>decide (numAt ps.toArray i > numAt ps.toArray j)) (ps.toArray.size - 1))=maxI a is:=by
  rw[lm (numAt ps.toArray),e0,List.size_toArray,e1]
 rw[em]
 exact⟨.int (maxI a is),H,I.kept fun b o e=>hk b o e,⟨t,rfl⟩,q⟩
end
theorem mB {F:Fx}:CallD F (fun xs H Q=>∃ (p:Addr) (a:Int) (is:List Int),xs=[.ref p]∧SqL F.K H p ((a::is).map V.int)∧Q (.int (minI a is)) H) dMinL:=by
 intro H Z xs ds Q s rs w
 unfold dMinL at w
 split at w
 ·split at w
  ·rename_i x is e
   obtain⟨v,rfl,h⟩:=aZ rs
   rw[Rep]at h
   obtain⟨a,vs,rfl,h1,h2⟩:=h
   have e2:=cI h2 e
   subst e2
   exact⟨a,x,is,rfl,s.seq h1,WG.now w s _ aK⟩
  ·exact w.elim
 ·exact w.elim
theorem mC {F:Fx}:CallD F (fun xs H Q=>∃ (p:Addr) (a:Int) (is:List Int),xs=[.ref p]∧SqL F.K H p ((a::is).map V.int)∧Q (.int (maxI a is)) H) dMaxL:=by
 intro H Z xs ds Q s rs w
 unfold dMaxL at w
 split at w
 ·split at w
  ·rename_i x is e
   obtain⟨v,rfl,h⟩:=aZ rs
   rw[Rep]at h
   obtain⟨a,vs,rfl,h1,h2⟩:=h
   have e2:=cI h2 e
   subst e2
   exact⟨a,x,is,rfl,s.seq h1,WG.now w s _ aK⟩
  ·exact w.elim
 ·exact w.elim
section
variable {X:Cx}{F:Fx}{p pos:Pos}{e:Expr}{gs:SS→R (List D)}{k:Nat}
theorem sW (bx:BX X F k)(hg:Gl X "min")(hm:X.mg "min"=none)(ha:FA X F [e] gs)(he:starEach [e] X.env=(false,eval e X.env)::starEach [] X.env:=by rfl)(hpl:(backTo pos (starEach [] X.env)).any (·.1)=false:=by rfl):FE X F (.Call (.Name "min" p) [e] [] pos) (eCall dMinL gs) :=
 dl (id := "min") (by have:=jo (X:=X) bx.calm;rw[bx.K]at this;exact this) mB hg hm (by decide +kernel) ha (he:=he) (hpl:=hpl)
theorem sX (bx:BX X F k)(hg:Gl X "max")(hm:X.mg "max"=none)(ha:FA X F [e] gs)(he:starEach [e] X.env=(false,eval e X.env)::starEach [] X.env:=by rfl)(hpl:(backTo pos (starEach [] X.env)).any (·.1)=false:=by rfl):FE X F (.Call (.Name "max" p) [e] [] pos) (eCall dMaxL gs) :=
 dl (id := "max") (by have:=jp (X:=X) bx.calm;rw[bx.K]at this;exact this) mC hg hm (by decide +kernel) ha (he:=he) (hpl:=hpl)
end
theorem oE {X:Cx}{pins:List (Addr×Obj)}{σ:St}{H:Hp}{s:Shared}(I:Inv X pins σ H s){A:Around}(hu:A.units < cLine)(b k:Int)(t t':Tok):SeqAt.EqAt A s (.int b t) (.int k t') (b==k) :=
 f8 (K:=X.K) (C:=fun _=>0) (Z:=fun _=>none) rfl I (fun _ _ e=>nomatch e) 0 A (.int b) (.int k) (.int b) (.int k) _ _ rfl rfl aK aK ⟨t,rfl⟩ ⟨t',rfl⟩ (by omega)
def isI (k:Int):Value→Bool
 | .int b _=>b==k
 | _=>false
section
variable {X:Cx}{F:Fx}{o e:Expr}{g:SS→R D}{gs:SS→R (List D)}{apos cpos:Pos}{k:Nat}
theorem sY {K:PySem.W.Frag}{C:Nat→Addr}{Z:Hp}{k:Int}{vs:List V}(r:Reps K C Z [.int k] vs):vs=[.int k]:=by
 obtain⟨v,rfl,h⟩:=aZ r
 rw[Rep]at h
 rw[h]
end
end FF
namespace HT
open PySem PyProof.Rows
theorem eR {prog:Program}{w:World}{A:Around}{E:Value→Shared→Prop}{s:Shared}{t sl:Addr}{items:Array Value}{vl vu:Value}{lo hi:Option Int}{Q:Value→Shared→Prop}(ht:IsTup s.heap t items)(hs:s.heap.IsSliceOf sl vl vu .none)(pl:IsPart vl lo)(pu:IsPart vu hi)
  (hw:sIx items.size 0 lo=0∧sIx items.size items.size hi=items.size) (h:Q (.ref t) s):wpAny (model prog w) A (getItem (.ref t) (.ref sl)) Q E s:=by
 obtain⟨os,hos,hcs,hds⟩:=id hs
 have hTs:s.TypeIs (.ref sl) "slice" := ⟨os,hos,hcs⟩
 unfold getItem
 try with_reducible refine wpAny_holding ?_
 first | refine wpAny_bind (wpAny_pure ?_) | skip
 refine wpAny_bind (wpAny_sequenceKey ht.typeIs (by decide) ?_)
 refine wpAny_bind (wpAny_callSpecial?_slot (name:=Str.ofString "__getitem__") ht.typeIs PyProof.Rows.slot_tuple_getitem
  (wpAny_call_entry PyProof.Rows.slot_tuple_getitem ht.typeIs entry_tuple_getitem ?_ (args_tuple_getitem _ _)))
 show wpAny _ _ (Builtin.Tuple.tupleItemsOf (.ref t) >>= _) _ _ s
 refine wpAny_bind (tupleItemsOf_ ht ?_)
 refine wpAny_bind (wpAny_typeOf hTs ?_)
 rw[if_pos (by decide)]
 refine wpAny_bind (dh hs pl pu ?_)
 rw[hw.1,hw.2]
 show wpAny _ _ (if (((0:Nat):Int)==0&&(1:Int)==1&&(items.size - 0)==items.size)=true then _ else _) _ _ s
 rw[if_pos (by simp)]
 unfold Builtin.Tuple.tupleIsExact
 refine wpAny_bind (wpAny_bind (wpAny_typeOf ht.typeIs (wpAny_pure ?_)))
 rw[if_pos (by decide)]
 exact wpAny_bind (wpAny_rule (wpAny_pure ⟨_,rfl,wpAny_pure h⟩))
end HT
namespace FF
open PySem PySem.Spec PyProof.Rows L2
def rSlW (K:PySem.W.Frag):V→Option Int→Option Int→Hp→VK→Prop:=fun x lo hi H Q=>∃ a xs,x=.ref a∧SqT K H a xs∧(HT.sIx xs.length 0 lo=0∧HT.sIx xs.length xs.length hi=xs.length)∧Q (.ref a) H
theorem sZ {X:Cx}:SlR X (rSlW X.K):=by
 intro pins s σ H x v vl vu lo hi sl Q I rx hs pl pu h
 obtain⟨a,xs,rfl,hx,hw,q⟩:=h
 cases rx
 obtain⟨its,r,ht,hz⟩:=I.tuple hx
 have hlen:its.toArray.size=xs.length:=by rw[List.size_toArray];exact r.length.symm
 refine⟨"tuple",_,PyProof.Rows.slot_tuple_getitem.lookup,ht.typeIs,?_⟩
 refine HT.eR ht hs pl pu (by rw[hlen];exact hw) ?_
 exact⟨.ref a,H,I,rfl,q⟩
theorem oF {xs:List D}{lo hi:Option Int}(h:HT.sIx xs.length 0 lo=0∧HT.sIx xs.length xs.length hi=xs.length):cutD xs lo hi=xs:=by
 unfold cutD
 rw[h.1,h.2,List.drop_zero,Nat.sub_zero,List.take_length]
section
variable {X:Cx}{F:Fx}{e:Expr}{lo hi:Option Expr}{g:SS→R D}{l h:SS→R (Option Int)}{pos p2:Pos}
theorem eY (hK:X.K=F.K)(he:FE X F e g)(hl:PO X lo (tP F l))(hh:PO X hi (tP F h)):FE X F (.Subscript e (.Slice lo hi none p2) pos) (eSw g l h) :=
 (pS (sE.or (uO.or sZ)) he hl hh).weak fun σ H Q ⟨Z,S,ok,w⟩=>aE ok w fun d v H1 Z1 ok1 x1 rv w1=>nv ok1 w1 fun o H2 Z2 ok2 x2 w2=>nv ok2 w2 fun o' H3 Z3 ok3 x3 w3=>by
  have rv3:=rv.mono (x2.z.trans x3.z)
  cases d with
  | lst ds =>
   rw[Rep]at rv3
   obtain⟨a,vs,rfl,h1,h2⟩:=rv3
   refine .inl ⟨a,vs,rfl,by rw[hK];exact ok3.sub.seq h1,fun p hp=>?_⟩
   have z:Same Z3 (upd Z3 p (.lst (cutV vs o o'))):=aD (ok3.sub.free hp)
   exact w3 _ _ (Ex.alloc ok3.sub hp) _ (by rw[Rep];exact⟨p,_,rfl,SqL.of ap,(h2.cut o o').mono z⟩)
  | tup ds =>
   have rv4:=rv3
   rw[Rep]at rv3
   obtain⟨a,vs,rfl,h1,h2⟩:=rv3
   have w4:WG F H3 Z3 (R.ok (FF.D.tup (cutD ds o o'))) _:=w3
   by_cases hw:HT.sIx ds.length 0 o=0∧HT.sIx ds.length ds.length o'=ds.length
   ·refine .inr (.inr ⟨a,vs,rfl,by rw[hK];exact h1.mono ok3.sub,by rw[← h2.length];exact hw,?_⟩)
    rw[oF hw]at w4
    exact WG.now w4 ok3.sub _ rv4
   ·refine .inr (.inl ⟨a,vs,rfl,by rw[hK];exact h1.mono ok3.sub,by rw[← h2.length];exact hw,fun p hp=>?_⟩)
    have z:Same Z3 (upd Z3 p (.tup (cutV vs o o'))):=aD (ok3.sub.free hp)
    exact w4 _ _ (Ex.alloc ok3.sub hp) _ (by rw[Rep];exact⟨p,_,rfl,SqT.of ap,(h2.cut o o').mono z⟩)
  | _=>exact w3.elim
end
theorem R.bind_assoc {α β γ:Type}(r:R α)(f:α→R β)(g:β→R γ):(r.bind f).bind g=r.bind fun x=>(f x).bind g:=by cases r<;>rfl
end FF
end
noncomputable section
namespace FF
open PySem L2
def sameK:D→D→Bool
 | .tup _,.tup _=>true
 | .int _,.int _=>true
 | _,_=>false
def dInI (x y:D):R D:=match x,y with
 | .int i,.tup ds=>match intsOf ds with
  | some is=>.ok (.bl (is.any (· == i)))
  | none=>.stuck
 | _,_=>.stuck
def dIndexI (xs es:List D):R D:=match es with
 | [.int k]=>match intsOf xs with
  | some is=>if is.idxOf k < is.length then .ok (.int (is.idxOf k:Nat)) else .stuck
  | none=>.stuck
 | _=>.stuck
def sOwnOf (i:Nat)(gs:SS→R (List D)):SS→O:=fun S=>rO ((gs S).bind fun es=>match es with
 | [.tup xs]=>.ok (.nx (S.set i (some (.own xs))))
 | _=>.stuck)
def eOwnIx (i:Nat)(g:SS→R D):SS→R D:=fun S=>match S[i]? with
 | some (some (.own ds))=>(g S).bind fun k=>match k with
  | .int j=>match atI ds j with
   | some d=>.ok d
   | none=>.stuck
  | _=>.stuck
 | _=>.stuck
def sStore (i:Nat)(gi ge:SS→R D):SS→O:=fun S=>rO ((ge S).bind fun d=>match S[i]? with
 | some (some (.own ds))=>(gi S).bind fun k=>match k with
  | .int j=>if 0≤j∧j < ds.length then .ok (.nx (S.set i (some (.own (ds.set j.toNat d))))) else .stuck
  | _=>.stuck
 | _=>.stuck)
end FF
end
noncomputable section
namespace PySem.SeqAt
open AutoSeq1 (wpAny_loadPart')
open MeetsSeq MeetsSeq2 MeetsSeq3 SeqRoads2
end PySem.SeqAt
namespace FF
open PySem PySem.Spec PyProof.Rows L2
section
variable {X:Cx}{F:Fx}{a b:Expr}{ga gb:SS→R D}{pos:Pos}{k:Nat}
end
section
variable {X:Cx}{F:Fx}{a b:Expr}{ga gb:SS→R D}{pos:Pos}{k:Nat}
end
section
variable {X:Cx}{F:Fx}{o e:Expr}{g:SS→R D}{gs:SS→R (List D)}{apos cpos:Pos}{k:Nat}
end
section
variable {X:Cx}{F:Fx}{pos p:Pos}{k:Nat}{gs:SS→R (List D)}{g ge:SS→R D}{e ei:Expr}{x:Str}
theorem qH (i:Nat){p1 pos':Pos}(bx:BX X F k)(hN:X.N.Nodup)(hg:Gl X "list")(hm:X.mg "list"=none)(ha:FA X F [e] gs)(he:starEach [e] X.env=(false,eval e X.env)::starEach [] X.env:=by rfl)(hpl:(backTo p (starEach [] X.env)).any (·.1)=false:=by rfl)
  (hi:X.N[i]?=some x:=by rfl) (hx:Loc X.env.scope x:=by first | exact Or.inl rfl | exact Or.inr rfl) (hs:swapsWith (.Call (.Name "list" p1) [e] [] p) (some (.Name x pos')) pos.line X.env=pure false:=by rfl) (hf:X.fn x=true∨X.env.scope.names.lookup x=some .local:=by first | exact .inl rfl | exact .inr rfl) :
  FS X F (.Assign [.Name x pos'] (.Call (.Name "list" p1) [e] [] p) pos) (sOwnOf i gs) :=
 (kh hN hi hx (fW (ko (X:=X)) hg hm (by decide +kernel) ha (he:=he) (hpl:=hpl)) hs hf).weak fun D σ H ⟨Z,S,ok,w⟩=>bc ok (WO.wg ok w) fun es us H1 Z1 ok1 x1 rs w1=>by
  split at w1
  ·rename_i xs
   obtain⟨v,rfl,h⟩:=aZ rs
   rw[Rep]at h
   obtain⟨a,vs,rfl,h1,h2⟩:=h
   refine⟨a,vs,rfl,.inr (by rw[bx.K];exact h1.mono ok1.sub),fun p hp=>?_⟩
   have w2:=WG.now w1 ok1.sub
   exact w2 _ _ Z1 (Same.refl _) (ok1.newOwn hp h2)
  ·exact w1.elim
theorem lq (i:Nat){p0:Pos}(hK:X.K=F.K)(he:FE X F e g)(hs:PlainIx e:=by intro _ _;rfl)(hi:X.N[i]?=some x:=by rfl)(hv:Vis X.env.scope x:=by first | exact Or.inl rfl | exact Or.inr (Or.inl rfl) | exact Or.inr (Or.inr rfl))(hd:(x==("__debug__":Str))=false:=by decide)
  (hcd:(x==("__classdict__":Str))=false:=by decide):FE X F (.Subscript (.Name x p0) e pos) (eOwnIx i g) :=
 (uk nj (fV hi hv hd hcd) he hs).weak fun σ H Q ⟨Z,S,ok,w⟩=>by
  unfold eOwnIx at w
  split at w
  ·rename_i ds e0
   obtain⟨a,vs,e1,e2,e3,e4,r⟩:=ok.own i ds e0
   refine⟨.ref a,e1,aE ok w fun d v H1 Z1 ok1 x1 rv w1=>?_⟩
   cases d with
   | int j =>
    rw[Rep]at rv
    have w2:WG F H1 Z1 (match atI ds j with | some d=>R.ok d | none=>R.stuck) _:=w1
    cases q:atI ds j with
    | none=>rw[q]at w2;exact w2.elim
    | some d =>
     rw[q]at w2
     obtain⟨v',f1,f2⟩:=(r.mono x1.z).at q
     exact⟨a,vs,j,v',rfl,rv,SqL.of (x1.same _ _ e2),f1,WG.now w2 ok1.sub _ f2⟩
   | _=>exact w1.elim
  ·exact w.elim
theorem Reps.setAt {K:PySem.W.Frag}{C:Nat→Addr}{Z:Hp}{d:D}{v:V}(q:Rep K C Z d v):∀ {ds:List D} {vs:List V} (j:Nat),Reps K C Z ds vs→Reps K C Z (ds.set j d) (vs.set j v)
 | [],vs,j,r=>by rw[Reps]at r;subst r;rw[List.set_nil,List.set_nil,Reps]
 | a::ds,vs,0,r=>by
  rw[Reps]at r
  obtain⟨w,r',rfl,h1,h2⟩:=r
  rw[List.set_cons_zero,List.set_cons_zero,Reps]
  exact⟨_,_,rfl,q,h2⟩
 | a::ds,vs,j+1,r=>by
  rw[Reps]at r
  obtain⟨w,r',rfl,h1,h2⟩:=r
  rw[List.set_cons_succ,List.set_cons_succ,Reps]
  exact⟨_,_,rfl,h1,Reps.setAt q j h2⟩
theorem iH (i:Nat){p0 pos':Pos}(bx:BX X F k)(he:FE X F e ge)(hix:FE X F ei g)(hi:X.N[i]?=some x:=by rfl)(hv:Vis X.env.scope x:=by first | exact Or.inl rfl | exact Or.inr (Or.inl rfl) | exact Or.inr (Or.inr rfl))(hd:(x==("__debug__":Str))=false:=by decide)
  (hcd:(x==("__classdict__":Str))=false:=by decide)
  (hasg:∀ v,assign (.Subscript (.Name x p0) ei pos') X.env v=(do
   let ov ← holding [v] (eval (.Name x p0) X.env)
   let iv ← holding [v,ov] (eval ei X.env)
   standAt pos'
   holding [v,ov,iv] (setItem ov iv v)
   release [v,ov,iv] []):=by intro _;rfl)
  (hs:swapsWithSole [.Subscript (.Name x p0) ei pos'] e pos.line X.env=pure false:=by rfl) (hw:swappedStores [.Subscript (.Name x p0) ei pos'] e X.env=pure none:=by rfl)
  (h1:(assignEach [.Subscript (.Name x p0) ei pos'] X.env).map (·.2)=[assign (.Subscript (.Name x p0) ei pos') X.env]:=by rfl) :
  FS X F (.Assign [.Subscript (.Name x p0) ei pos'] e pos) (sStore i g ge) :=
 (pG he (uG (fV hi hv hd hcd) hix pT hasg) hs hw h1).weak fun D σ H ⟨Z,S,ok,w⟩=>aE ok (WO.wg ok w) fun d v H1 Z1 ok1 x1 rv w1=>by
  split at w1
  ·rename_i ds e0
   obtain⟨a,vs,e1,e2,e3,e4,r⟩:=ok1.own i ds e0
   refine⟨.ref a,e1,aE ok1 w1 fun d2 v2 H2 Z2 ok2 x2 rv2 w2=>?_⟩
   cases d2 with
   | int j =>
    rw[Rep]at rv2
    have w3:WG F H2 Z2 (if 0≤j∧j < ds.length then R.ok (O.nx (S.set i (some (.own (ds.set j.toNat d))))) else R.stuck) _:=w2
    split at w3
    ·rename_i hj
     have hl:ixN vs.length j=some j.toNat:=by
      unfold ixN
      rw[← r.length,if_pos hj.1,if_pos hj.2]
     refine⟨a,vs,j,j.toNat,rfl,rv2,x2.same _ _ e2,hl,?_⟩
     have w4:=WG.now w3 ok2.sub
     exact w4 σ _ Z2 (Same.refl _) (ok2.write e0 e1 (Reps.setAt (rv.mono x2.z) j.toNat (r.mono x2.z)))
    ·exact w3.elim
   | _=>exact w2.elim
  ·exact w1.elim
end
end FF
end
noncomputable section
namespace FF
open PySem PySem.Spec PyProof.Rows L2
def dNf (x y:D):R D:=if good 60 x=true∧good 60 y=true then .ok (.bl (!eqD x y)) else .stuck
theorem td {X:Cx}{pins:List (Addr×Obj)}{σ:St}{H Z:Hp}{s:Shared}{K:PySem.W.Frag}{C:Nat→Addr}(hK:X.K=K)(I:Inv X pins σ H s)(z:Same Z H)(n:Nat)(A:Around)(d e:D)(v u:V)(x y:Value)(g1:good n d=true)(g2:good n e=true)
  (h:Rep K C Z d v) (h':Rep K C Z e u) (rx:RelV v x) (ry:RelV u y) (hu:A.units+n < cLine):SeqAt.RcNeAt A s x y (!eqD d e):=by
 have hu0:A.units < cLine:=by omega
 cases d with
 | exc k=>cases n<;>simp[good]at g1
 | fn k=>cases n<;>simp[good]at g1
 | tup ds =>
  cases n with
  | zero=>simp[good]at g1
  | succ n =>
   have in1:A.in1.units+n < cLine:=by show A.units+1+n < cLine;omega
   rw[Rep]at h
   obtain⟨a,vs,rfl,h1,h2⟩:=h
   cases rx
   obtain⟨its,r,p,_⟩:=I.tuple (by rw[hK];exact h1.mono z:SqT X.K H a vs)
   have p':s.heap.IsTuple a its.toArray:=p
   cases e with
   | tup es =>
    rw[Rep]at h'
    obtain⟨b,us,rfl,k1,k2⟩:=h'
    cases ry
    obtain⟨its2,r2,p2,_⟩:=I.tuple (by rw[hK];exact k1.mono z:SqT X.K H b us)
    have p2':s.heap.IsTuple b its2.toArray:=p2
    rw[good]at g1 g2
    have q:=SeqAt.RcNeAt.tuples (A:=A) (e:=fun j=>eqD (ds.getD j .non) (es.getD j .non)) p' p2' hu0 fun j j1 j2=>by
     have j1':j < its.length:=by simpa using j1
     have j2':j < its2.length:=by simpa using j2
     have l1:j < ds.length:=by rw[h2.length,r.length];exact j1'
     have l2:j < es.length:=by rw[k2.length,r2.length];exact j2'
     have e1:ds[j]?=some ds[j]:=by simp
     have e2:es[j]?=some es[j]:=by simp
     obtain⟨w1,f1,f2⟩:=h2.get e1
     obtain⟨w2,f3,f4⟩:=k2.get e2
     obtain⟨z1,m1,m2⟩:=r.get f1
     obtain⟨z2,m3,m4⟩:=r2.get f3
     have n1:its.toArray[j]=z1:=by simpa [j1'] using m1
     have n2:its2.toArray[j]=z2:=by simpa [j2'] using m3
     rw[n1,n2]
     have g3:ds.getD j .non=ds[j]:=by simp[l1]
     have g4:es.getD j .non=es[j]:=by simp[l2]
     rw[g3,g4]
     exact f8 hK I z n A.in1 _ _ w1 w2 z1 z2 (aM g1 e1) (aM g2 e2) f2 f4 m2 m4 in1
    rw[eqD,cE]
    have s1:its.toArray.size=ds.length:=by rw[List.size_toArray,h2.length,r.length]
    have s2:its2.toArray.size=es.length:=by rw[List.size_toArray,k2.length,r2.length]
    rw[s1,s2]at q
    exact q
   | lst es =>
    rw[Rep]at h'
    obtain⟨b,us,rfl,k1,k2⟩:=h'
    cases ry
    obtain⟨its2,r2,p2,_⟩:=I.list (by rw[hK];exact z.seq k1:SqL X.K H b us)
    simp only[eqD,Bool.not_false,Bool.not_true]
    exact SeqAt.RcNeAt.tuple_list p' p2.isList hu0
   | exc k=>simp[good]at g2
   | fn k=>simp[good]at g2
   | non=>rw[Rep]at h';subst h';cases ry;simp only[eqD,Bool.not_false,Bool.not_true];exact SeqAt.RcNeAt.tuple_none p' hu0
   | bl b=>rw[Rep]at h';subst h';cases ry;simp only[eqD,Bool.not_false,Bool.not_true];exact SeqAt.RcNeAt.tuple_bool _ p' hu0
   | int b=>rw[Rep]at h';subst h';obtain⟨t,rfl⟩:=ry;simp only[eqD,Bool.not_false,Bool.not_true];exact SeqAt.RcNeAt.tuple_int _ _ p' hu0
   | str b=>rw[Rep]at h';subst h';obtain⟨t,rfl⟩:=ry;simp only[eqD,Bool.not_false,Bool.not_true];exact SeqAt.RcNeAt.tuple_str _ _ p' hu0
 | lst ds =>
  cases n with
  | zero=>simp[good]at g1
  | succ n =>
   have in1:A.in1.units+n < cLine:=by show A.units+1+n < cLine;omega
   rw[Rep]at h
   obtain⟨a,vs,rfl,h1,h2⟩:=h
   cases rx
   obtain⟨its,r,p,_⟩:=I.list (by rw[hK];exact z.seq h1:SqL X.K H a vs)
   have p':=p.isList
   cases e with
   | lst es =>
    rw[Rep]at h'
    obtain⟨b,us,rfl,k1,k2⟩:=h'
    cases ry
    obtain⟨its2,r2,p2,_⟩:=I.list (by rw[hK];exact z.seq k1:SqL X.K H b us)
    have p2':=p2.isList
    rw[good]at g1 g2
    have s1:its.toArray.size=ds.length:=by rw[List.size_toArray,h2.length,r.length]
    have s2:its2.toArray.size=es.length:=by rw[List.size_toArray,k2.length,r2.length]
    rw[eqD,cE]
    by_cases hsz:ds.length=es.length
    ·have q:=SeqAt.RcNeAt.lists (A:=A) (e:=fun j=>eqD (ds.getD j .non) (es.getD j .non)) p' p2' (by rw[s1,s2];exact hsz) hu0 fun j j1 j2=>by
      have j1':j < its.length:=by simpa using j1
      have j2':j < its2.length:=by simpa using j2
      have l1:j < ds.length:=by rw[h2.length,r.length];exact j1'
      have l2:j < es.length:=by rw[k2.length,r2.length];exact j2'
      have e1:ds[j]?=some ds[j]:=by simp
      have e2:es[j]?=some es[j]:=by simp
      obtain⟨w1,f1,f2⟩:=h2.get e1
      obtain⟨w2,f3,f4⟩:=k2.get e2
      obtain⟨z1,m1,m2⟩:=r.get f1
      obtain⟨z2,m3,m4⟩:=r2.get f3
      have n1:its.toArray[j]=z1:=by simpa [j1'] using m1
      have n2:its2.toArray[j]=z2:=by simpa [j2'] using m3
      rw[n1,n2]
      have g3:ds.getD j .non=ds[j]:=by simp[l1]
      have g4:es.getD j .non=es[j]:=by simp[l2]
      rw[g3,g4]
      exact f8 hK I z n A.in1 _ _ w1 w2 z1 z2 (aM g1 e1) (aM g2 e2) f2 f4 m2 m4 in1
     rw[s1]at q
     rw[hsz,Nat.min_self,beq_self_eq_true,Bool.and_true,← hsz]
     exact q
    ·have q:=SeqAt.RcNeAt.lists_lengths (A:=A) p' p2' (by rw[s1,s2];simpa using hsz) hu0
     rw[show (ds.length==es.length)=false by simpa using hsz,Bool.and_false]
     exact q
   | tup es =>
    rw[Rep]at h'
    obtain⟨b,us,rfl,k1,k2⟩:=h'
    cases ry
    obtain⟨its2,r2,p2,_⟩:=I.tuple (by rw[hK];exact k1.mono z:SqT X.K H b us)
    simp only[eqD,Bool.not_false,Bool.not_true]
    exact SeqAt.RcNeAt.list_tuple p' (show s.heap.IsTuple b its2.toArray from p2) hu0
   | exc k=>simp[good]at g2
   | fn k=>simp[good]at g2
   | non=>rw[Rep]at h';subst h';cases ry;simp only[eqD,Bool.not_false,Bool.not_true];exact SeqAt.RcNeAt.list_none p' hu0
   | bl b=>rw[Rep]at h';subst h';cases ry;simp only[eqD,Bool.not_false,Bool.not_true];exact SeqAt.RcNeAt.list_bool _ p' hu0
   | int b=>rw[Rep]at h';subst h';obtain⟨t,rfl⟩:=ry;simp only[eqD,Bool.not_false,Bool.not_true];exact SeqAt.RcNeAt.list_int _ _ p' hu0
   | str b=>rw[Rep]at h';subst h';obtain⟨t,rfl⟩:=ry;simp only[eqD,Bool.not_false,Bool.not_true];exact SeqAt.RcNeAt.list_str _ _ p' hu0
 | non =>
  rw[Rep]at h;subst h;cases rx
  cases e with
  | tup es =>
   rw[Rep]at h'
   obtain⟨b,us,rfl,k1,k2⟩:=h'
   cases ry
   obtain⟨its2,r2,p2,_⟩:=I.tuple (by rw[hK];exact k1.mono z:SqT X.K H b us)
   simp only[eqD,Bool.not_false,Bool.not_true];exact SeqAt.RcNeAt.none_tuple (show s.heap.IsTuple b its2.toArray from p2) hu0
  | lst es =>
   rw[Rep]at h'
   obtain⟨b,us,rfl,k1,k2⟩:=h'
   cases ry
   obtain⟨its2,r2,p2,_⟩:=I.list (by rw[hK];exact z.seq k1:SqL X.K H b us)
   simp only[eqD,Bool.not_false,Bool.not_true];exact SeqAt.RcNeAt.none_list p2.isList hu0
  | exc k=>cases n<;>simp[good]at g2
  | fn k=>cases n<;>simp[good]at g2
  | non=>rw[Rep]at h';subst h';cases ry;simp only[eqD,Bool.not_false,Bool.not_true];exact SeqAt.RcNeAt.none_none
  | bl b=>rw[Rep]at h';subst h';cases ry;simp only[eqD,Bool.not_false,Bool.not_true];exact SeqAt.RcNeAt.none_bool _
  | int b=>rw[Rep]at h';subst h';obtain⟨t,rfl⟩:=ry;simp only[eqD,Bool.not_false,Bool.not_true];exact SeqAt.RcNeAt.none_int _ _
  | str b=>rw[Rep]at h';subst h';obtain⟨t,rfl⟩:=ry;simp only[eqD,Bool.not_false,Bool.not_true];exact SeqAt.RcNeAt.none_str _ _
 | bl a =>
  rw[Rep]at h;subst h;cases rx
  cases e with
  | tup es =>
   rw[Rep]at h'
   obtain⟨b,us,rfl,k1,k2⟩:=h'
   cases ry
   obtain⟨its2,r2,p2,_⟩:=I.tuple (by rw[hK];exact k1.mono z:SqT X.K H b us)
   simp only[eqD,Bool.not_false,Bool.not_true];exact SeqAt.RcNeAt.bool_tuple _ (show s.heap.IsTuple b its2.toArray from p2) hu0
  | lst es =>
   rw[Rep]at h'
   obtain⟨b,us,rfl,k1,k2⟩:=h'
   cases ry
   obtain⟨its2,r2,p2,_⟩:=I.list (by rw[hK];exact z.seq k1:SqL X.K H b us)
   simp only[eqD,Bool.not_false,Bool.not_true];exact SeqAt.RcNeAt.bool_list _ p2.isList hu0
  | exc k=>cases n<;>simp[good]at g2
  | fn k=>cases n<;>simp[good]at g2
  | non=>rw[Rep]at h';subst h';cases ry;simp only[eqD,Bool.not_false,Bool.not_true];exact SeqAt.RcNeAt.bool_none _
  | bl b=>rw[Rep]at h';subst h';cases ry;simp only[eqD,Bool.not_false,Bool.not_true];exact SeqAt.RcNeAt.bool_bool _ _
  | int b=>rw[Rep]at h';subst h';obtain⟨t,rfl⟩:=ry;simp only[eqD,Bool.not_false,Bool.not_true];exact SeqAt.RcNeAt.bool_int _ _ _
  | str b=>rw[Rep]at h';subst h';obtain⟨t,rfl⟩:=ry;simp only[eqD,Bool.not_false,Bool.not_true];exact SeqAt.RcNeAt.bool_str _ _ _
 | int a =>
  rw[Rep]at h;subst h;obtain⟨t0,rfl⟩:=rx
  cases e with
  | tup es =>
   rw[Rep]at h'
   obtain⟨b,us,rfl,k1,k2⟩:=h'
   cases ry
   obtain⟨its2,r2,p2,_⟩:=I.tuple (by rw[hK];exact k1.mono z:SqT X.K H b us)
   simp only[eqD,Bool.not_false,Bool.not_true];exact SeqAt.RcNeAt.int_tuple _ _ (show s.heap.IsTuple b its2.toArray from p2) hu0
  | lst es =>
   rw[Rep]at h'
   obtain⟨b,us,rfl,k1,k2⟩:=h'
   cases ry
   obtain⟨its2,r2,p2,_⟩:=I.list (by rw[hK];exact z.seq k1:SqL X.K H b us)
   simp only[eqD,Bool.not_false,Bool.not_true];exact SeqAt.RcNeAt.int_list _ _ p2.isList hu0
  | exc k=>cases n<;>simp[good]at g2
  | fn k=>cases n<;>simp[good]at g2
  | non=>rw[Rep]at h';subst h';cases ry;simp only[eqD,Bool.not_false,Bool.not_true];exact SeqAt.RcNeAt.int_none _ _
  | bl b=>rw[Rep]at h';subst h';cases ry;simp only[eqD,Bool.not_false,Bool.not_true];exact SeqAt.RcNeAt.int_bool _ _ _
  | int b=>rw[Rep]at h';subst h';obtain⟨t,rfl⟩:=ry;simp only[eqD,Bool.not_false,Bool.not_true];exact SeqAt.RcNeAt.int_int _ _ _ _
  | str b=>rw[Rep]at h';subst h';obtain⟨t,rfl⟩:=ry;simp only[eqD,Bool.not_false,Bool.not_true];exact SeqAt.RcNeAt.int_str _ _ _ _
 | str a =>
  rw[Rep]at h;subst h;obtain⟨t0,rfl⟩:=rx
  cases e with
  | tup es =>
   rw[Rep]at h'
   obtain⟨b,us,rfl,k1,k2⟩:=h'
   cases ry
   obtain⟨its2,r2,p2,_⟩:=I.tuple (by rw[hK];exact k1.mono z:SqT X.K H b us)
   simp only[eqD,Bool.not_false,Bool.not_true];exact SeqAt.RcNeAt.str_tuple _ _ (show s.heap.IsTuple b its2.toArray from p2) hu0
  | lst es =>
   rw[Rep]at h'
   obtain⟨b,us,rfl,k1,k2⟩:=h'
   cases ry
   obtain⟨its2,r2,p2,_⟩:=I.list (by rw[hK];exact z.seq k1:SqL X.K H b us)
   simp only[eqD,Bool.not_false,Bool.not_true];exact SeqAt.RcNeAt.str_list _ _ p2.isList hu0
  | exc k=>cases n<;>simp[good]at g2
  | fn k=>cases n<;>simp[good]at g2
  | non=>rw[Rep]at h';subst h';cases ry;simp only[eqD,Bool.not_false,Bool.not_true];exact SeqAt.RcNeAt.str_none _ _
  | bl b=>rw[Rep]at h';subst h';cases ry;simp only[eqD,Bool.not_false,Bool.not_true];exact SeqAt.RcNeAt.str_bool _ _ _
  | int b=>rw[Rep]at h';subst h';obtain⟨t,rfl⟩:=ry;simp only[eqD,Bool.not_false,Bool.not_true];exact SeqAt.RcNeAt.str_int _ _ _ _
  | str b=>rw[Rep]at h';subst h';obtain⟨t,rfl⟩:=ry;simp only[eqD,Bool.not_false,Bool.not_true];exact SeqAt.RcNeAt.str_str _ _ _ _
def rNf (K:PySem.W.Frag)(C:Nat→Addr):R2:=fun x y H Q=>∃ Z d e,Same Z H∧Rep K C Z d x∧Rep K C Z e y∧good 60 d=true∧good 60 e=true∧Q (.bl (!eqD d e)) H
section
variable {X:Cx}{F:Fx}{a b:Expr}{ga gb:SS→R D}{pos:Pos}{k:Nat}
theorem uo (hK:X.K=F.K)(hr:Room k X.A):OpR X (compareOp .NotEq) (rNf F.K F.C):=by
 intro pins s σ H x y v u Q I rx ry h
 obtain⟨Z,d,e,z,h1,h2,g1,g2,q⟩:=h
 have hu:X.A.units+60 < cLine:=by have:=hr.un;omega
 exact td hK I z 60 X.A d e x y v u g1 g2 h1 h2 rx ry hu X.prog X.w X.xe _ ⟨.bl (!eqD d e),H,I,rfl,q⟩
theorem qI:OpD F (rNf F.K F.C) dNf:=by
 intro H Z x y dx dy Q s rx ry w
 unfold dNf at w
 split at w
 ·rename_i g
  exact⟨Z,dx,dy,s,rx,ry,g.1,g.2,WG.now w s _ aY⟩
 ·exact w.elim
theorem vH (bx:BX X F k)(ha:FE X F a ga)(hb:FE X F b gb):FE X F (.Compare a [.NotEq] [b] pos) (eOp dNf ga gb):=mr (uo bx.K bx.room) qI ha hb
theorem d9 (bx:BX X F k)(ha:FE X F a ga)(hb:FE X F b gb):FT X F (.Compare a [.NotEq] [b] pos) (gB (eOp dNf ga gb)):=il (uo bx.K bx.room) qI ha hb
end
def qEx (es:List Nat)(i:Nat):D→Option Bool
 | .exc j=>if es.contains j=true then some (i==j||i==0) else none
 | _=>none
def qVx (es:List Nat):D→Option Bool
 | .exc j=>if es.contains j=true then some true else none
 | _=>none
def qTk (es:List Nat)(j:Nat):Bool:=es.contains j
theorem c8 {K:PySem.W.Frag}{C:Nat→Addr}{es:List Nat}{i:Nat}(h:∀ j∈es,PySem.W.kitOne K (.ref (C j)) (.ref (C i))=some (i==j||i==0))(hx:∀ j∈es,ExcK K (C j)):IsA K C (.ref (C i)) (qEx es i):=by
 refine⟨.inr ⟨_,rfl⟩,fun d b e=>?_,fun j b e=>?_,fun _=>rfl⟩
 ·cases d with
  | exc j =>
   have e':(if es.contains j=true then some (i==j||i==0) else none)=some b:=e
   by_cases hj:es.contains j=true
   ·rw[if_pos hj]at e'
    cases e'
    exact h j (by simpa using hj)
   ·rw[if_neg hj]at e';cases e'
  | _=>cases e
 ·have e':(if es.contains j=true then some (i==j||i==0) else none)=some b:=e
  by_cases hj:es.contains j=true
  ·exact hx j (by simpa using hj)
  ·rw[if_neg hj]at e';cases e'
theorem u8 {K:PySem.W.Frag}{C:Nat→Addr}{es:List Nat}(h:∀ j∈es,PySem.W.kitOne K (.ref (C j)) (.type "ValueError")=some true)(hx:∀ j∈es,ExcK K (C j)):IsA K C (.ty "ValueError") (qVx es):=by
 refine⟨.inl ⟨_,rfl⟩,fun d b e=>?_,fun j b e=>?_,fun _=>rfl⟩
 ·cases d with
  | exc j =>
   have e':(if es.contains j=true then some true else none)=some b:=e
   by_cases hj:es.contains j=true
   ·rw[if_pos hj]at e'
    cases e'
    exact h j (by simpa using hj)
   ·rw[if_neg hj]at e';cases e'
  | _=>cases e
 ·have e':(if es.contains j=true then some true else none)=some b:=e
  by_cases hj:es.contains j=true
  ·exact hx j (by simpa using hj)
  ·rw[if_neg hj]at e';cases e'
theorem qJ {K:PySem.W.Frag}{C:Nat→Addr}{es:List Nat}(h:PySem.W.excIn K (C 0) bmVE "ValueError.__new__"=true)(hs:∀ j∈es,PySem.W.subIn K (.ref (C j)) (.ref (C 0))=some true):Takes K C (C 0) (qTk es) :=
 ⟨h,fun k e=>hs k (by simpa [qTk] using e)⟩
def rIndexI (K:PySem.W.Frag):V→List V→Hp→VK→Prop:=fun x vs H Q=>∃ (l:Addr) (is:List Int) (k:Int),x=.ref l∧vs=[.int k]∧SqL K H l (is.map V.int)∧is.idxOf k < is.length∧Q (.int (is.idxOf k:Nat)) H
theorem oG {X:Cx}{k:Nat}(hr:Room k X.A):MtR X "list.index" (rIndexI X.K):=by
 intro pins s σ H x vs v us Q I rx rv h
 obtain⟨l,is,k,rfl,rfl,hH,hj,q⟩:=h
 cases rx
 obtain⟨u,rfl,ru⟩:=rv.one
 obtain⟨tk,rfl⟩:=(show ∃ t,u=Value.int k t from ru)
 obtain⟨its,r,⟨⟨c2,d2,dt2,sl2⟩,n2,e2,p2,p3,p4⟩,z2⟩:=I.list hH
 obtain⟨ps,rfl,e⟩:=bL r
 simp only at p2 p3 p4
 subst p2 p3 p4
 have hl:ps.length=is.length:=by have:=congrArg List.length e;simpa using this
 rw[List.length_map,sizeLine_eq]at z2
 have hsz:is.idxOf k < (ps.map fun p=>Value.int p.1 p.2).toArray.size:=by rw[List.size_toArray,List.length_map,hl];exact hj
 have hat:∀ m (hm:m < (ps.map fun p=>Value.int p.1 p.2).toArray.size) (hm':m < is.length),isI k (ps.map fun p=>Value.int p.1 p.2).toArray[m]=(is[m]==k):=fun m hm hm'=>by
  subst e
  simp[isI]
 refine call_meets F.slot_list_index ⟨_,e2,rfl⟩ F.entry_list_index (F.args_list_index_2 _ _) (SeqAt.list_indexAt l _ n2 _ _ (.int k tk) (isI k) (is.idxOf k) hsz (by omega) ?_ ?_) ⟨e2,fun y hy=>?_,⟨.int _,H,I.tok _,⟨_,rfl⟩,q⟩⟩
 ·rw[hat _ _ hj]
  exact List.findIdx_getElem (w:=hj)
 ·intro m hm hlt
  have hm':m < is.length:=by omega
  rw[hat _ _ hm']
  exact Bool.eq_false_iff.mpr (by simpa using List.not_of_lt_findIdx hlt)
 ·have hy':y∈ps.map fun p=>Value.int p.1 p.2:=by simpa using hy
  obtain⟨b,_,rfl⟩:=List.mem_map.mp hy'
  exact oE I (by have:=hr.un;show X.A.units+1 < cLine;omega) b.1 k b.2 tk
section
variable {X:Cx}{F:Fx}{o e:Expr}{g:SS→R D}{gs:SS→R (List D)}{apos cpos:Pos}{k:Nat}
theorem kz:MethD F (rIndexI F.K) dIndexI:=by
 intro H Z a vs xs us es Q s h1 h2 rs w
 unfold dIndexI at w
 split at w
 ·rename_i k
  split at w
  ·rename_i is eb
   have e3:=cI h2 eb
   subst e3
   split at w
   ·rename_i hl
    exact⟨a,is,k,rfl,sY rs,h1,hl,WG.now w s _ aK⟩
   ·exact w.elim
  ·exact w.elim
 ·exact w.elim
theorem oH (bx:BX X F k)(ho:FE X F o g)(ha:FA X F [e] gs)
  (hbase:attributeBase o "index" X.env (eval o X.env)=eval o X.env:=by rfl)
  (hfew:((backTo cpos (starEach [e] X.env)).all (fun x=>!x.1)&&(backToKw cpos (keywordEach [] X.env)).all (fun x=>x.1.isSome)
   && decide ([e].length+([]:List Keyword).length+(if ([]:List Keyword).isEmpty then 0 else 1) < 30))=true:=by rfl)
  (hline:(apos.endLine==cpos.line)=true:=by rfl) (hs:starEach [e] X.env=(false,eval e X.env)::starEach [] X.env:=by rfl) (hplain:(backTo cpos (starEach [] X.env)).any (·.1)=false:=by rfl) :
  FE X F (.Call (.Attribute o "index" apos) [e] [] cpos) (eMethL dIndexI g gs) :=
 (kW PySem.F.plainAttrs_list PySem.F.slot_list_index (by kernel_rfl) (oG bx.room) ho ha hbase hfew hline hs hplain).weak (by rw[bx.K];exact gm kz)
end
end FF
end
noncomputable section
namespace FF
open PySem L2
inductive L (σ:Type) where
 | nx (s:σ) | rt (d:D) | er (k:Nat) | stuck
def lB {α σ:Type}(r:R α)(k:α→L σ):L σ:=match r with
 | .ok a=>k a
 | .err e=>.er e
 | .stuck=>.stuck
def lS {τ σ:Type}(l:L τ)(k:τ→L σ):L σ:=match l with
 | .nx s=>k s
 | .rt d=>.rt d
 | .er e=>.er e
 | .stuck=>.stuck
def lFor {α τ:Type}(f:τ→α→L τ):List α→τ→L τ
 | [],s=>.nx s
 | d::r,s=>lS (f s d) fun s'=>lFor f r s'
def lTry {τ σ:Type}(q:Nat→Bool)(l:L τ)(k:τ→L σ)(h:Nat→L σ):L σ:=match l with
 | .nx s=>k s
 | .rt d=>.rt d
 | .er e=>if q e=true then h e else .stuck
 | .stuck=>.stuck
def outL {σ:Type}(l:L σ):R D:=match l with
 | .nx _=>.ok .non
 | .rt d=>.ok d
 | .er k=>.err k
 | .stuck=>.stuck
section
variable {α τ σ:Type}
@[simp] theorem az (a:α)(k:α→L σ):lB (.ok a) k=k a:=rfl
@[simp] theorem qK (e:Nat)(k:α→L σ):lB (.err e) k=.er e:=rfl
@[simp] theorem vI (k:α→L σ):lB .stuck k=.stuck:=rfl
@[simp] theorem dX (s:τ)(k:τ→L σ):lS (.nx s) k=k s:=rfl
@[simp] theorem vJ (d:D)(k:τ→L σ):lS (.rt d) k=.rt d:=rfl
@[simp] theorem vK (e:Nat)(k:τ→L σ):lS (.er e) k=.er e:=rfl
@[simp] theorem vL (k:τ→L σ):lS .stuck k=.stuck:=rfl
@[simp] theorem iI (f:τ→α→L τ)(s:τ):lFor f [] s=.nx s:=rfl
theorem bn (f:τ→α→L τ)(d:α)(r:List α)(s:τ):lFor f (d::r) s=lS (f s d) fun s'=>lFor f r s':=rfl
@[simp] theorem wd (q:Nat→Bool)(s:τ)(k:τ→L σ)(h:Nat→L σ):lTry q (.nx s) k h=k s:=rfl
@[simp] theorem we (q:Nat→Bool)(d:D)(k:τ→L σ)(h:Nat→L σ):lTry q (.rt d:L τ) k h=.rt d:=rfl
@[simp] theorem tj (q:Nat→Bool)(e:Nat)(k:τ→L σ)(h:Nat→L σ):lTry q (.er e:L τ) k h=if q e=true then h e else .stuck:=rfl
@[simp] theorem nA (s:σ):outL (.nx s)=.ok .non:=rfl
@[simp] theorem nB (d:D):outL (.rt d:L σ)=.ok d:=rfl
@[simp] theorem nC (k:Nat):outL (.er k:L σ)=.err k:=rfl
end
def rAnd (a b:R Bool):R Bool:=a.bind fun c=>if c=true then b else .ok false
def rOr (a b:R Bool):R Bool:=a.bind fun c=>if c=true then .ok true else b
def rNot (a:R Bool):R Bool:=a.bind fun c=>.ok (!c)
def vAnd (a b:R D):R D:=(asB a).bind fun c=>if c=true then b else .ok (.bl false)
def vOr (a b:R D):R D:=(asB a).bind fun c=>if c=true then .ok (.bl true) else b
def vNot (a:R D):R D:=(asB a).bind fun c=>.ok (.bl (!c))
def rIf (c:R Bool)(a b:R D):R D:=c.bind fun t=>if t=true then a else b
def rCh (f f':D→D→R D)(x y:D)(w:R D):R D:=(asB (f x y)).bind fun k=>if k=true then w.bind fun w=>f' y w else .ok (.bl false)
@[simp] theorem aW (b:Bool):asB (.ok (.bl b))=.ok b:=rfl
@[simp] theorem u9 (b:R Bool):rAnd (.ok true) b=b:=rfl
@[simp] theorem va (b:R Bool):rAnd (.ok false) b=.ok false:=rfl
@[simp] theorem vM (b:R Bool):rOr (.ok true) b=.ok true:=rfl
@[simp] theorem vN (b:R Bool):rOr (.ok false) b=b:=rfl
@[simp] theorem hR (b:Bool):rNot (.ok b)=.ok (!b):=rfl
@[simp] theorem vb (b:R D):vAnd (.ok (.bl true)) b=b:=rfl
@[simp] theorem vc (b:R D):vAnd (.ok (.bl false)) b=.ok (.bl false):=rfl
@[simp] theorem vO (b:R D):vOr (.ok (.bl true)) b=.ok (.bl true):=rfl
@[simp] theorem vP (b:R D):vOr (.ok (.bl false)) b=b:=rfl
@[simp] theorem tm (b:Bool):vNot (.ok (.bl b))=.ok (.bl (!b)):=rfl
@[simp] theorem vQ (a b:R D):rIf (.ok true) a b=a:=rfl
@[simp] theorem vR (a b:R D):rIf (.ok false) a b=b:=rfl
def bA {α:Type}:List (R D)→(List D→R α)→R α
 | [],k=>k []
 | r::rs,k=>r.bind fun d=>bA rs fun ds=>k (d::ds)
def cGo (c:D→R Bool)(e:D→R D):List D→R (List D)
 | []=>.ok []
 | d::r=>match c d with
  | .ok true=>match e d with
   | .ok y=>match cGo c e r with
    | .ok ys=>.ok (y::ys)
    | _=>.stuck
   | _=>.stuck
  | .ok false=>cGo c e r
  | _=>.stuck
def cMap (e:D→R D)(xs:List D):R D:=(cGo (fun _=>.ok true) e xs).bind fun ys=>.ok (.lst ys)
def cFil (c:D→R Bool)(e:D→R D)(xs:List D):R D:=(cGo c e xs).bind fun ys=>.ok (.lst ys)
def un2 {α:Type}(d:D)(k:D→D→R α):R α:=match d with
 | .tup [a,b]=>k a b
 | _=>.stuck
def sq (d:D):R (List D):=(asSeq d).bind fun ds=>if ds.length≤16777216 then .ok ds else .stuck
def dList:List D→R D
 | [.lst xs]=>.ok (.lst xs)
 | [.tup xs]=>.ok (.lst xs)
 | _=>.stuck
def dLenSet:List D→R D
 | [.lst xs]=>match intsOf xs with
  | some is=>if is.length≤4000 then .ok (.int (is.eraseDups.length:Nat)) else .stuck
  | none=>.stuck
 | _=>.stuck
def zipD:List D→List D→List D
 | a::r,b::s=>.tup [a,b]::zipD r s
 | _,_=>[]
def dZip (a b:D):R (List D):=(sq a).bind fun xs=>(sq b).bind fun ys=>.ok (zipD xs ys)
def dRev (d:D):R D:=match d with
 | .lst xs=>.ok (.lst xs.reverse)
 | .tup xs=>.ok (.tup xs.reverse)
 | _=>.stuck
def dMin2:List D→R D
 | [.int i,.int j]=>.ok (.int (if j < i then j else i))
 | _=>.stuck
def onF {α:Type}(fs:List Nat)(f:D)(k:Nat→R α):R α:=match f with
 | .fn i=>if fs.contains i=true then k i else .stuck
 | _=>.stuck
def onL {α:Type}(d:D)(k:List D→R α):R α:=match d with
 | .lst xs=>k xs
 | _=>.stuck
def onT {α:Type}(d:D)(k:List D→R α):R α:=match d with
 | .tup xs=>k xs
 | _=>.stuck
def dNeg (d:D):R D:=match d with
 | .int i=>.ok (.int (-i))
 | _=>.stuck
def asTup (d:D):R (List D):=match d with
 | .tup xs=>.ok xs
 | _=>.stuck
def asLst (d:D):R (List D):=match d with
 | .lst xs=>.ok xs
 | _=>.stuck
def oIx (ds:List D)(i:D):R D:=match i with
 | .int j=>match atI ds j with
  | some d=>.ok d
  | none=>.stuck
 | _=>.stuck
def oSt (ds:List D)(i v:D):R (List D):=match i with
 | .int j=>if 0≤j∧j < ds.length then .ok (ds.set j.toNat v) else .stuck
 | _=>.stuck
def oApp (ds:List D)(v:D):R (List D):=if ds.length < 16777216 then .ok (ds++[v]) else .stuck
def oExt (ds:List D)(v:D):R (List D):=match v with
 | .lst xs=>if ds.length+xs.length≤16777216 then .ok (ds++xs) else .stuck
 | .tup xs=>if ds.length+xs.length≤16777216 then .ok (ds++xs) else .stuck
 | _=>.stuck
def qLT:D→Option Bool
 | .tup _=>some true
 | .lst _=>some true
 | .exc _=>none
 | .fn _=>none
 | _=>some false
def a0 (k:L Unit):List D→R D
 | []=>outL k
 | _=>.stuck
def a1 (k:D→L Unit):List D→R D
 | [a]=>outL (k a)
 | _=>.stuck
def a2 (k:D→D→L Unit):List D→R D
 | [a,b]=>outL (k a b)
 | _=>.stuck
def a3 (k:D→D→D→L Unit):List D→R D
 | [a,b,c]=>outL (k a b c)
 | _=>.stuck
def a4 (k:D→D→D→D→L Unit):List D→R D
 | [a,b,c,d]=>outL (k a b c d)
 | _=>.stuck
def a5 (k:D→D→D→D→D→L Unit):List D→R D
 | [a,b,c,d,e]=>outL (k a b c d e)
 | _=>.stuck
def a6 (k:D→D→D→D→D→D→L Unit):List D→R D
 | [a,b,c,d,e,f]=>outL (k a b c d e f)
 | _=>.stuck
end FF
end
noncomputable section
namespace FF
open PySem PySem.Spec PyProof.Rows L2
section
variable {α τ σ W:Type}
def WL (F:Fx)(Z:Hp)(J:σ→SS→Prop)(l:L σ)(D:Ends):Prop:=match l with
 | .nx s=>∀ S ρ H Z',J s S→Same Z Z'→StOk F H Z' S ρ→D.nx ρ H
 | .rt d=>∀ v H Z',Ex F.H0 F.Z0 H Z'→Rep F.K F.C Z' d v→D.rt v H
 | .er k=>∀ H,Same F.H0 H→F.E (.ref (F.C k)) none H
 | .stuck=>False
theorem WL.more {F:Fx}{Z Z1:Hp}{J:σ→SS→Prop}{l:L σ}{D:Ends}(w:WL F Z J l D)(z:Same Z Z1):WL F Z1 J l D:=by
 cases l with
 | nx s=>exact fun S ρ H Z' j q=>w S ρ H Z' j (z.trans q)
 | rt d=>exact w
 | er k=>exact w
 | stuck=>exact w
def tL (F:Fx)(S:SS)(J:σ→SS→Prop)(l:L σ):TS:=fun D ρ H=>∃ Z,StOk F H Z S ρ∧WL F Z J l D
abbrev FL (X:Cx)(F:Fx)(S:SS)(sts:List Stmt)(J:σ→SS→Prop)(l:L σ):Prop:=PSs X sts (tL F S J l)
abbrev FL1 (X:Cx)(F:Fx)(S:SS)(st:Stmt)(J:σ→SS→Prop)(l:L σ):Prop:=PS X st (tL F S J l)
def JX (inj:τ→W→SS):τ→SS→Prop:=fun s S=>∃ w,S=inj s w
def JU:Unit→SS→Prop:=fun _ _=>True
abbrev vv (d:D):Option Sl:=some (.val d)
abbrev ow (ds:List D):Option Sl:=some (.own ds)
abbrev nn:Option Sl:=none
variable {X:Cx}{F:Fx}{S:SS}{st:Stmt}{rest:List Stmt}{J:σ→SS→Prop}{J1:τ→SS→Prop}
theorem mD {sts:List Stmt}{t:α→TS}(h:∀ a,PSs X sts (t a)):PSs X sts (fun D ρ H=>∃ a,t a D ρ H):=fun pins s ρ H D I ⟨a,w⟩=>h a pins s ρ H D I w
theorem WL.wg {D:Ends}{r:R α}{k:α→L σ}{H Z:Hp}{ρ:St}(ok:StOk F H Z S ρ)(w:WL F Z J (lB r k) D):WG F H Z r fun a _ Z'=>WL F Z' J (k a) D:=by
 cases r with
 | ok o=>exact fun _ _ x=>WL.more (l:=k o) w x.z
 | err k=>exact fun H' s=>w H' (ok.ex.same.trans s)
 | stuck=>exact w
theorem ak {s:σ}(h:J s S):FL X F S [] J (.nx s):=sr.weak fun D ρ H ⟨Z,ok,w⟩=>w S ρ H Z h (Same.refl _) ok
theorem ah {g:SS→O}{r:R α}{S':α→SS}{k:α→L σ}(h:FS X F st g)(hg:g S=rO (r.bind fun a=>.ok (.nx (S' a))))(hk:∀ a,FL X F (S' a) rest J (k a)):FL X F S (st::rest) J (lB r k) :=
 (dg h (mD hk)).weak fun D ρ H ⟨Z,ok,w⟩=>⟨Z,S,ok,by
  rw[hg]
  cases r with
  | ok a=>exact fun ρ' H' Z' z ok'=>⟨a,Z',ok',WL.more (l:=k a) w z⟩
  | err k=>exact w
  | stuck=>exact w⟩
theorem bt {g:SS→O}{S':SS}{l:L σ}(h:FS X F st g)(hg:g S=.nx S')(hk:FL X F S' rest J l):FL X F S (st::rest) J l :=
 (dg h hk).weak fun D ρ H ⟨Z,ok,w⟩=>⟨Z,S,ok,by rw[hg];exact fun ρ' H' Z' z ok'=>⟨Z',ok',WL.more w z⟩⟩
theorem aw {g:SS→R D}{r:R D}(h:FS X F st (sRet g))(hr:g S=r):FL X F S (st::rest) J (lB r .rt) :=
 (dg h jH).weak fun D ρ H ⟨Z,ok,w⟩=>⟨Z,S,ok,by
  unfold sRet
  rw[hr]
  cases r with
  | ok a=>exact w
  | err k=>exact w
  | stuck=>exact w⟩
theorem aB {g:SS→R D}{v:D}(h:FS X F st (sRet g))(hr:g S=.ok v):FL X F S (st::rest) J (.rt v):=aw (r:=.ok v) h hr
theorem iJ {g:SS→O}{k:Nat}(h:FS X F st g)(hg:g S=.er k):FL X F S (st::rest) J (.er k) :=
 (dg h jH).weak fun D ρ H ⟨Z,ok,w⟩=>⟨Z,S,ok,by rw[hg];exact w⟩
theorem c9 (i:Nat){ds:List D}{S':SS}{sts:List Stmt}{l:L σ}(hi:S[i]?=some (some (.own ds)))(hS:S.set i (some (.val (.lst ds)))=S')(h:FL X F S' sts J l):FL X F S sts J l :=
 h.weak fun D ρ H ⟨Z,ok,w⟩=>by
  obtain⟨Z',z,ok'⟩:=ok.freeze hi
  rw[hS]at ok'
  exact⟨Z',ok',WL.more w z⟩
theorem ax {c:Expr}{a b:List Stmt}{pos:Pos}{gt:SS→R Bool}{r:R Bool}{A B:L σ}(hc:FT X F c gt)(hr:gt S=r)(ha:FL X F S a J A)(hb:FL X F S b J B):FL1 X F S (.If c a b pos) J (lB r fun t=>if t=true then A else B) :=
 (vA hc ha hb).weak fun D ρ H ⟨Z,ok,w⟩=>fo (k:=fun t=>R.ok t) (P:=fun t _ Z'=>WL F Z' J (if t=true then A else B) D) ok (by
  rw[hr]
  have:=WL.wg ok w
  cases r<;>exact this) fun t H1 Z1 ok1 x1 w1=>by
  have w2:=WG.now w1 ok1.sub
  cases t with
  | true=>exact⟨Z1,ok1,w2⟩
  | false=>exact⟨Z1,ok1,w2⟩
theorem eZ {l:L σ}(h:FL1 X F S st J l):FL X F S [st] J l:=nc h
theorem au {l:L τ}{k:τ→L σ}{inj:τ→W→SS}(h:FL1 X F S st (JX inj) l)(hk:∀ s w,FL X F (inj s w) rest J (k s)):FL X F S (st::rest) J (lS l k) :=
 (dg h (mD (fun s=>mD fun w=>hk s w))).weak fun D ρ H ⟨Z,ok,w⟩=>⟨Z,ok,by
  cases l with
  | nx s=>exact fun S' ρ' H' Z' ⟨x,e⟩ z ok'=>⟨s,x,Z',by rw[← e];exact ok',WL.more (l:=k s) w z⟩
  | rt d=>exact w
  | er k=>exact w
  | stuck=>exact w⟩
end
section
variable {σ τ W:Type}{X:Cx}{F:Fx}{S:SS}{tg iter:Expr}{body:List Stmt}{pos:Pos}{git:SS→R (List D)}{g:D→SS→R SS}{inj:τ→W→SS}{step:τ→D→L τ}
theorem qL {r:R (List D)}{s0:τ}(w0:W)(hp:PassesOwn (model X.prog X.w) X.A X.env X.xe)(hc:X.calm=true)(hi:FI X F tg iter git)(hr:git S=r)(hg:FG X F tg g)
  (hb:∀ s w x S1,g x (inj s w)=.ok S1→FL X F S1 body (JX inj) (step s x)) (hno:∀ s w x k,g x (inj s w)≠.err k) (hst:∀ s w x,g x (inj s w)=.stuck→step s x=.stuck)
  (hS:S=inj s0 w0) (hs:∀ x,foldedSetIterable iter X.env x=pure x:=by intro _;rfl):FL1 X F S (.For tg iter body [] pos) (JX inj) (lB r fun xs=>lFor step xs s0):=by
 have hbb:PSs X body (fun D ρ H=>∃ (q:τ×W×FF.D×SS) (_:g q.2.2.1 (inj q.1 q.2.1)=.ok q.2.2.2),tL F q.2.2.2 (JX inj) (step q.1 q.2.2.1) D ρ H):=fun pins s ρ H D I ⟨q,e,w⟩=>hb q.1 q.2.1 q.2.2.1 q.2.2.2 e pins s ρ H D I w
 refine(uH hp hc hi hg hbb hs).weak fun D ρ H ⟨Z,ok,w⟩=>?_
 refine⟨Z,S,ok,?_⟩
 have w00:=WL.wg ok w
 rw[hr]
 cases r with
 | err k=>exact w00
 | stuck=>exact w00
 | ok ds =>
  intro H1 Z1 x1
  have w1:WL F Z1 (JX inj) (lFor step ds s0) D:=w00 H1 Z1 x1
  intro J wk _
  refine⟨fun i m ρ H=>m=ds.length - i∧i≤ds.length∧∃ Z2 s w,StOk F H Z2 (inj s w) ρ∧Same Z1 Z2∧WL F Z2 (JX inj) (lFor step (ds.drop i) s) D,⟨ds.length,rfl,Nat.zero_le _,Z1,s0,w0,by rw[← hS];exact ok.more x1,Same.refl _,w1⟩,?_⟩
  rintro i m ρ2 H2 ⟨rfl,hle,Z2,s,w2,ok2,z2,wl2⟩
  obtain⟨k1,k2⟩:=wk i H2 Z2 z2 ok2.sub
  by_cases hlt:i < ds.length
  ·obtain⟨go,y⟩:=k1 hlt
   refine .inr ⟨go,fun ρ' H'=>∃ Z3 s3 w3,StOk F H' Z3 (inj s3 w3) ρ'∧Same Z1 Z3∧WL F Z3 (JX inj) (lFor step (ds.drop (i+1)) s3) D,fun ρ' H' ⟨Z3,s3,w3,q⟩=>⟨ds.length - (i+1),by omega,rfl,hlt,Z3,s3,w3,q⟩,fun x H' hy=>?_⟩
   obtain⟨Z2',d,x',e3,rd⟩:=y x H' hy
   have ok2:=ok2.more x'
   have hd:ds.drop i=d::ds.drop (i+1):=by
    obtain⟨hi,e4⟩:=List.getElem?_eq_some_iff.mp e3
    rw[List.drop_eq_getElem_cons hi,e4]
   rw[hd,bn]at wl2
   refine⟨Z2',inj s w2,d,ok2,rd,?_⟩
   cases q:g d (inj s w2) with
   | err k=>exact absurd q (hno s w2 d k)
   | stuck=>rw[hst s w2 d q]at wl2;exact wl2
   | ok S1 =>
    intro H4 Z4 x4 ρ4 ok4
    refine⟨⟨s,w2,d,S1⟩,q,Z4,ok4,?_⟩
    have z14:Same Z1 Z4:=(z2.trans x'.z).trans x4.z
    cases qb:step s d with
    | nx s5 =>
     rw[qb]at wl2
     exact fun S5 ρ5 H5 Z5 ⟨w5,e5⟩ z5 ok5=>⟨Z5,s5,w5,by rw[← e5];exact ok5,z14.trans z5,WL.more (l:=lFor step (ds.drop (i+1)) s5) wl2 ((x'.z.trans x4.z).trans z5)⟩
    | rt d=>rw[qb]at wl2;exact wl2
    | er k=>rw[qb]at wl2;exact wl2
    | stuck=>rw[qb]at wl2;exact wl2
  ·refine .inl ⟨k2 (by omega),?_⟩
   rw[List.drop_eq_nil_of_le (by omega)]at wl2
   exact wl2 (inj s w2) ρ2 H2 Z2 ⟨w2,rfl⟩ (Same.refl _) ok2
theorem cq (i:Nat){r:R (List D)}{s0:τ}{B:τ→W→D→SS}(w0:W)(hp:PassesOwn (model X.prog X.w) X.A X.env X.xe)(hc:X.calm=true)(hi:FI X F tg iter git)(hr:git S=r)(hg:FG X F tg (gNm i))
  (hS:S=inj s0 w0) (hB:∀ s w x,(inj s w).set i (some (.val x))=B s w x) (hb:∀ s w x,FL X F (B s w x) body (JX inj) (step s x))
  (hs:∀ x,foldedSetIterable iter X.env x=pure x:=by intro _;rfl):FL1 X F S (.For tg iter body [] pos) (JX inj) (lB r fun xs=>lFor step xs s0) :=
 qL w0 hp hc hi hr hg (fun s w x S1 e=>by cases e;rw[hB];exact hb s w x) (fun s w x k e=>nomatch e) (fun s w x e=>nomatch e) hS hs
end
section
variable {σ τ W:Type}{X:Cx}{F:Fx}{S:SS}{rest:List Stmt}{J:σ→SS→Prop}{k:Nat}
def tryL (q:Nat→Bool)(l:L τ):L (τ ⊕ Nat):=match l with
 | .nx s=>.nx (.inl s)
 | .rt d=>.rt d
 | .er e=>if q e=true then .nx (.inr e) else .stuck
 | .stuck=>.stuck
def tryJ (inj:τ→W→SS)(B:Nat→SS):τ ⊕ Nat→SS→Prop
 | .inl s,S=>∃ w,S=inj s w
 | .inr k,S=>S=B k
end
section
variable {σ τ W:Type}{S:SS}{X:Cx}{F:Fx}{body:List Stmt}{g:SS→O}{c n y:Str}{np np2 kp apos hpos pos:Pos}{k:Nat}{q:Nat→Bool}{C0:Addr}
theorem tq (i j:Nat){l:L τ}{inj:τ→W→SS}(bx:BX X F k)(hij:i≠j)(hst:X.stack=X.env::X.outer)(hfm:X.env.frame=some X.env.locals)(hex:X.ex=[])(hN:X.N.Nodup)(hg:Gl X c)(hm:X.mg c=some (.ref C0))(T:Takes F.K F.C C0 q)
  (hb:∀ pn xe H0 Z0 E,BX (tryX X pn xe) ⟨F.K,F.C,H0,Z0,E⟩ k→FL (tryX X pn xe) ⟨F.K,F.C,H0,Z0,E⟩ S body (JX inj) l)
  (hi:X.N[i]?=some n:=by rfl) (hj:X.N[j]?=some y:=by rfl) (hn:X.env.scope.names.lookup n=some .local:=by rfl) (hkn:X.env.kindOf n=some .local:=by rfl) (hy:X.env.scope.names.lookup y=some .local:=by rfl)
  (hs:swapsWith (.Name n np2) (some (.Name y kp)) apos.line X.env=pure false:=by rfl) (hdc:(c==("__debug__":Str))=false:=by decide) (hdn:(n==("__debug__":Str))=false:=by decide) (hcd:(n==("__classdict__":Str))=false:=by decide) :
  FL1 X F S (.Try body [.ExceptHandler (some (.Name c np)) (some n) [.Assign [.Name y kp] (.Name n np2) apos] hpos] [] [] pos) (tryJ inj fun e=>(blankS S).set j (some (.val (.exc e)))) (tryL q l):=by
 intro pins s σ H D I h
 obtain⟨Z,ok,w⟩:=h
 refine wpAny_Try_except ?_
 have hjl:j < X.N.length:=(List.getElem?_eq_some_iff.mp hj).1
 have hil:i < X.N.length:=(List.getElem?_eq_some_iff.mp hi).1
 let txe:Value→Shared→Prop:=fun e s₁=>wpAny (model X.prog X.w) X.A (noteFrame e X.env) (fun _ s₂=>wpAny (model X.prog X.w) X.A (setFlight e none) (fun _ s₃=>wpAny (model X.prog X.w) X.A (handleBy e X.env [.ExceptHandler (some (.Name c np)) (some n) [.Assign [.Name y kp] (.Name n np2) apos] hpos]) (SP X pins D) X.xe s₃) X.xe s₂) X.xe s₁
 let E':XK:=fun cls _ H'=>∃ k,cls=.ref (F.C k)∧q k=true∧Same (bothH F Z) H'∧WL F Z (tryJ inj fun e=>(blankS S).set j (some (.val (.exc e)))) (.nx (.inr k)) D
 have back:∀ {pl:List (Addr×Obj)} {σ':St} {H':Hp} {s':Shared},Inv (tryX X (X.pn++pins) txe) pl σ' H' s'→Inv X pins σ' H' s':=fun J=>iE (X:=tryX X (X.pn++pins) txe) J rfl I.ok.hd fun p hp=>List.mem_append_left _ hp
 have bx':BX (tryX X (X.pn++pins) txe) ⟨F.K,F.C,bothH F Z,Z,E'⟩ k:=by
  refine⟨bx.room,bx.K,bx.calm,?_⟩
  intro pl σ1 H1 s1 e s2 I1 hx
  obtain⟨ea,C,t,H2,B,rfl,os,bare,un,hok,fl,hn2,cov,hE⟩:=hx
  obtain⟨k',hC,hk,hsm,w1⟩:=hE
  have J:Inv (tryX X (X.pn++pins) txe) pl σ1 H2 s2:=I1.call' (ch:=[]) os un hok bare (fun b z=>nomatch z)
  obtain⟨oe0,ws0,ge0,_,gd0,_⟩:=fl.first
  obtain⟨mL1,nL1,_⟩:=I1.loc
  obtain⟨oL1,_,_,hoL1,_⟩:=id nL1
  have hnf:ea∉frs X.stack:=fun z=>by
   rcases List.mem_cons.mp (J.stkSub ea z) with z1 | z1
   ·obtain⟨mL,nL,_⟩:=J.loc
    obtain⟨oL,es,ep,hoL,hdL,_⟩:=nL
    have hoL':s2.heap.get? ea=some oL:=by rw[z1];exact hoL
    rw[ge0]at hoL'
    cases hoL'
    rw[hdL]at gd0
    cases gd0
   ·obtain⟨_,o',e',d⟩:=J.funs.mem z1
    rw[ge0]at e'
    cases e'
    exact d _ gd0
  have hnew:∀ o,s1.heap.get? ea≠some o:=fun o z=>by
   have:=cov ea oe0 ge0 (.inr ⟨o,z⟩) hnf
   rw[fl.2.1]at this
   cases this
  have h0:X.s₀.heap.get? ea=none:=by
   cases z:X.s₀.heap.get? ea with
   | none=>rfl
   | some o =>
    obtain⟨o',z'⟩:=I1.base.there ea o z (by show ea∉X.ex;rw[hex];exact fun q=>nomatch q)
    exact absurd z' (hnew o')
  have hnl:ea≠X.env.locals:=fun z=>hnew oL1 (by rw[z];exact hoL1)
  obtain⟨hp2,g2,d2,t2,os2⟩:=s2
  have fl':=fl
  rw[show (tryX X (X.pn++pins) txe).stack=X.env::X.outer from hst]at fl'
  show txe (.ref ea) _
  refine wpAny_looks_onW (I.ok.frames.trans (by rw[hst])) hfm fl' fun h4 held4 up4=>?_
  refine wpAny_landsW held4 fun h5 fl5 up5=>?_
  have fly:∀ {h6:Heap},B.StaysIn h6→hp2.UpToSlots h6→Inv (tryX X (X.pn++pins) txe) pl σ1 H2 ⟨h6,g2,d2,t2,os2⟩:=fun {h6} a b=>sM J ⟨σ1,H1,pl,I1⟩ (fun p hp=>⟨_,(I1.pin p hp).1⟩) (fun o _=>⟨oL1,hoL1⟩) cov a b
  have J5:=fly fl5.1 (up4.trans up5)
  let Xm:Cx:={ tryX X (X.pn++pins) txe with A:=X.A.mark (some (.ref ea)),calm:=false,pn:=X.pn++pins,xe:=fun _ _=>False }
  have J5m:Inv Xm pl σ1 H2 ⟨h5,g2,d2,t2,os2⟩:=iE J5 rfl (fun z=>nomatch z) fun p hp=>hp
  refine wpAny_handleBy_cons (codeAny_handlers_test (hI (X:=Xm) J5m hg hm ?_ hdc)) (by intro z;cases z)
  obtain⟨ob,hob,hobc⟩:=fl5.there
  refine li T (by have:=J5.kIn;rw[← bx.K];exact this) hob (hobc.trans hC) hk ?_
  refine codeAny_handlers_suite_as ?_
  refine lands_againW fl5 fun h6 fl6 up6=>?_
  have J6:=fly fl6.1 ((up4.trans up5).trans up6)
  obtain⟨oe,ws,hoe,hoec,hoed,_⟩:=fl6.first
  have J7:=oB J6 (a:=ea) (o:=excO F.C k' ea) hn2 h0 hnl (fun x c' e z=>by
    obtain⟨v,o,ho,_⟩:=I1.cell x c' e
    exact hnew o (by rw[← z];exact ho)) (fun p hp z=>hnew p.2 (by rw[← z];exact(I1.pin p hp).1)) ⟨⟨oe,hoe,hoec.trans hC,ws,hoed⟩,⟨oe,hoe⟩,fun h1 h2 ⟨o,a1,a2,a3⟩ kk=>⟨o,kk o a1,a2,a3⟩⟩
  have J7m:Inv Xm pl σ1 (upd H2 ea (excO F.C k' ea)) ⟨h6,g2,d2,t2,os2⟩:=iE J7 rfl (fun z=>nomatch z) fun p hp=>hp
  have hl1:σ1.length=X.N.length:=I1.len
  refine fh (X:=Xm) (v:=.ref ea) J7m hN hi (.inl hn) rfl (fun s8 I8=>?_) (.inr hn)
  have st:=nc (kh (X:=Xm) (pos:=apos) (pos':=kp) hN hj (.inl hy) (fV (X:=Xm) (pos:=np2) hi (.inl hn) hdn hcd) hs (.inr hy))
  refine wpAny_mono (st pl s8 _ _ ⟨fun σ' H'=>σ'=(σ1.set i (some (.ref ea))).set j (some (.ref ea))∧H'=upd H2 ea (excO F.C k' ea),fun _ _=>False,fun _ _=>False,fun _ _=>False⟩ I8 ⟨.ref ea,by rw[List.getElem?_set_self (by rw[hl1];exact hil)],rfl,rfl⟩) (fun f s9 h9=>?_) fun _ _ z=>z.elim
  cases f with
  | next =>
   obtain⟨σ9,H9,I9,rfl,rfl⟩:=h9
   show wpAny (model X.prog X.w) X.A (do bindName X.env n .none;unbindBehindTheSuite X.env n hpos) _ X.xe s9
   refine wpAny_bind (wpAny_bindName (fh (X:=Xm) (v:=.non) I9 hN hi (.inl hn) rfl (fun s10 I10=>?_) (.inr hn)))
   unfold unbindBehindTheSuite
   refine wpAny_onRaise (oC (X:=Xm) (v:=.non) I10 hN hi hkn hn (by rw[List.getElem?_set_self (by simp[hl1];exact hil)]) fun s11 I11=>?_)
   have IX:Inv X pins _ _ s11:=iE (X:=Xm) I11 rfl I.ok.hd fun p hp=>List.mem_append_left _ hp
   obtain⟨Z',z,ok'⟩:=oD (k:=k') (j:=j) (ea:=ea) (σ':=(((σ1.set i (some (.ref ea))).set j (some (.ref ea))).set i (some .non)).set i none) ok hsm hn2 (by rw[ok.len,I.len];simp[hl1]) (fun _=>by
    rw[List.getElem?_set_ne hij,List.getElem?_set_ne hij,List.getElem?_set_self (by simp[hl1];exact hjl)])
   exact⟨_,_,IX,w1 _ _ _ Z' rfl z ok'⟩
  | _=>first | (obtain⟨_,_,_,z⟩:=h9;exact z.elim) | (obtain⟨_,_,_,_,_,z⟩:=h9;exact z.elim)
 have w':WL ⟨F.K,F.C,bothH F Z,Z,E'⟩ Z (JX inj) l D:=by
  cases l with
  | nx s'=>exact fun S' ρ' H' Z' jx z o=>w S' ρ' H' Z' jx z (sU ok o)
  | rt d=>exact fun v H' Z' x r=>w v H' Z' (nz ok x) r
  | er k' =>
   intro H' sm
   unfold tryL at w
   by_cases hk:q k'=true
   ·simp only[hk,if_true]at w
    exact⟨k',rfl,hk,sm,w⟩
   ·simp only[hk]at w
    exact w.elim
  | stuck=>exact w
 have run:=hb (X.pn++pins) txe (bothH F Z) Z E' bx' [] s σ H D (iE I rfl I.ok.hd (by simp)) ⟨Z,sV ok,w'⟩
 refine wpAny_mono run (fun f s1 h1=>?_) fun _ _ x=>x
 cases f with
 | next =>
  obtain⟨σ',H',I',d'⟩:=h1
  exact wpAny_execs_nil ⟨σ',H',back I',d'⟩
 | brk =>
  obtain⟨σ',H',I',d'⟩:=h1
  exact⟨σ',H',back I',d'⟩
 | cont =>
  obtain⟨σ',H',I',d'⟩:=h1
  exact⟨σ',H',back I',d'⟩
 | ret u =>
  obtain⟨v,σ',H',I',r,d'⟩:=h1
  exact⟨v,σ',H',back I',r,d'⟩
end
section
variable {σ τ W:Type}{X:Cx}{F:Fx}{S:SS}{rest:List Stmt}{J:σ→SS→Prop}
theorem vd (i j:Nat){l:L τ}{inj:τ→W→SS}{q:Nat→Bool}{st:Stmt}{B:Nat→SS}{n1:τ→L σ}{n2:Nat→L σ}(h:FL1 X F S st (tryJ inj fun e=>(blankS S).set j (some (.val (.exc e)))) (tryL q l))
  (hB:∀ e,(blankS S).set j (some (.val (.exc e)))=B e) (h1:∀ s w,FL X F (inj s w) rest J (n1 s)) (h2:∀ e,FL X F (B e) rest J (n2 e)):FL X F S (st::rest) J (lTry q l n1 n2):=by
 have hr:PSs X rest (fun D ρ H=>(∃ s w,tL F (inj s w) J (n1 s) D ρ H)∨∃ e,tL F (B e) J (n2 e) D ρ H):=fun pins s ρ H D I z=>by
  rcases z with ⟨s',w',z⟩ | ⟨e,z⟩
  ·exact h1 s' w' pins s ρ H D I z
  ·exact h2 e pins s ρ H D I z
 refine(dg h hr).weak fun D ρ H ⟨Z,ok,w⟩=>⟨Z,ok,?_⟩
 cases l with
 | nx s=>exact fun S' ρ' H' Z' ⟨x,e⟩ z ok'=>.inl ⟨s,x,Z',by rw[← e];exact ok',WL.more (l:=n1 s) w z⟩
 | rt d=>exact w
 | er e =>
  have w':WL F Z J (if q e=true then n2 e else .stuck) D:=w
  by_cases hq:q e=true
  ·rw[if_pos hq]at w'
   show WL F Z _ (if q e=true then (L.nx (Sum.inr e):L (τ ⊕ Nat)) else L.stuck) _
   rw[if_pos hq]
   exact fun S' ρ' H' Z' hj z ok'=>.inr ⟨e,Z',by have hj':S'=(blankS S).set j (some (.val (.exc e))):=hj;rw[← hB e,← hj'];exact ok',WL.more w' z⟩
  ·rw[if_neg hq]at w';exact w'.elim
 | stuck=>exact w
end
end FF
end
noncomputable section
namespace FF
open PySem PySem.Spec PyProof.Rows L2
section
variable {X:Cx}{F:Fx}{e:Expr}{es:List Expr}{g g':SS→R D}{gs:List (SS→R D)}{k:Nat}{f:List D→R D}{pos:Pos}
theorem dD (h:FE X F e g)(hg:∀ S,g S=g' S):FE X F e g':=by
 have:g=g':=funext hg
 rw[← this];exact h
theorem cT {st:Stmt}{g g':SS→O}(h:FS X F st g)(hg:∀ S,g S=g' S):FS X F st g':=by
 have:g=g':=funext hg
 rw[← this];exact h
def aL:List (SS→R D)→SS→R (List D)
 | []=>aNil
 | g::gs=>aCons g (aL gs)
def eBA {α:Type}(f:List D→R α)(gs:List (SS→R D)):SS→R α:=fun S=>bA (gs.map fun g=>g S) f
theorem bo {α β:Type}{r:R α}{f f':α→R β}(h:∀ a,f a=f' a):r.bind f=r.bind f':=by cases r<;>first | exact h _ | rfl
theorem cU {α:Type}(S:SS):∀ (gs:List (SS→R D)) (f:List D→R α),(aL gs S).bind f=eBA f gs S
 | [],f=>rfl
 | g::gs,f=>by
  show ((g S).bind fun d=>(aL gs S).bind fun ds=>R.ok (d::ds)).bind f=(g S).bind fun d=>bA (gs.map fun g=>g S) fun ds=>f (d::ds)
  rw[R.bind_assoc]
  refine bo fun d=>?_
  rw[R.bind_assoc]
  exact cU S gs fun ds=>f (d::ds)
theorem gn {S:SS}:∀ {gs:List (SS→R D)} {ds:List D},aL gs S=.ok ds→ds.length=gs.length
 | [],ds,h=>by cases h;rfl
 | g::gs,ds,h=>on (n:=gs.length) (fun S' ds' h'=>by
   by_cases q:S'=S
   ·subst q;exact gn h'
   ·exact gn (S:=S') h') S ds h
structure FAL (X:Cx)(F:Fx)(es:List Expr)(gs:List (SS→R D)):Prop where
 out:FA X F es (aL gs)
theorem ad:FAL X F [] []:=⟨uU⟩
theorem aa (ha:FE X F e g)(hr:FAL X F es gs)(hs:starEach (e::es) X.env=(false,eval e X.env)::starEach es X.env:=by rfl):FAL X F (e::es) (g::gs):=⟨sG ha hr.out hs⟩
theorem fe_N (h:FE X F e (eCall f (aL gs))):FE X F e (eBA f gs):=dD h fun S=>cU S gs f
theorem af {x:Str}{p:Pos}{ps:List Str}(b:BX X F k)(h:Fn1 X.prog X.w F.K X.mg X.base F.C k x ps f)(hg:Gl X x)(ha:FAL X F (e::es) gs)(hn:gs.length=ps.length:=by rfl)(hdb:(x==("__debug__":Str))=false:=by decide)
  (he:starEach (e::es) X.env=(false,eval e X.env)::starEach es X.env:=by rfl) (hpl:(backTo pos (starEach es X.env)).any (·.1)=false:=by rfl):FE X F (.Call (.Name x p) (e::es) [] pos) (eBA f gs) :=
 fe_N (sQ b h hg ha.out (fun S ds q=>(gn q).trans hn) hdb he hpl)
theorem aG {x1}(h:FAL X F es gs)(hl:gs.length≤16777216:=by exact Nat.le_of_ble_eq_true rfl):FE X F (.Tuple es x1 pos) (eBA (fun ds=>.ok (.tup ds)) gs) :=
 dD (pZ h.out) fun S=>by
  rw[← cU]
  show (aL gs S).bind _=_
  cases q:aL gs S with
  | ok ds=>show (if ds.length≤16777216 then R.ok (FF.D.tup ds) else R.stuck)=_;rw[if_pos (by rw[gn q];exact hl)];rfl
  | err k=>rfl
  | stuck=>rfl
theorem aQ (h:FAL X F es gs)(hl:gs.length≤16777216:=by exact Nat.le_of_ble_eq_true rfl):FE X F (.List es pos) (eBA (fun ds=>.ok (.lst ds)) gs) :=
 dD (uV h.out) fun S=>by
  rw[← cU]
  show (aL gs S).bind _=_
  cases q:aL gs S with
  | ok ds=>show (if ds.length≤16777216 then R.ok (FF.D.lst ds) else R.stuck)=_;rw[if_pos (by rw[gn q];exact hl)];rfl
  | err k=>rfl
  | stuck=>rfl
end
section
variable {X:Cx}{F:Fx}{k:Nat}{e f:Expr}{es:List Expr}{p pos:Pos}{x:Str}
theorem vS {i:Nat}(hm:X.mg x=some (.ref (F.C i)))(hg:Gl X x)(hd:(x==("__debug__":Str))=false:=by decide):FE X F (.Name x pos) (eC (.fn i)) :=
 eJ (bw (v:=.ref (F.C i)) hg hm rfl hd) fun _=>by rw[Rep]
theorem qM {CX:CXT}{E:XK}{tf:TE}{t:TA}(hf:PE X f tf)(hr:Room k X.A)(hx:Passes CX X E)(ha:PA X (e::es) t)
  (hev:eval (.Call f (e::es) [] pos) X.env=(do callWith pos (← eval f X.env) [] (backTo pos (starEach (e::es) X.env)) (backToKw pos (keywordEach [] X.env))):=by rfl)
  (he:starEach (e::es) X.env=(false,eval e X.env)::starEach es X.env:=by rfl) (hpl:(backTo pos (starEach es X.env)).any (·.1)=false:=by rfl) :
  PE X (.Call f (e::es) [] pos) (fun σ H Q=>tf σ H fun v H1=>∃ a fd ps sp,v=.ref a∧FnOk X.prog X.w X.K X.mg X.base CX k a fd ps sp∧PySem.W.keepIn X.K (.ref a)=true∧Binds X.K fd ps []∧t σ H1 fun vs H2=>sp (vs++[]) H2 Q E):=by
 intro pins s σ H Q I h
 rw[hev]
 refine wpAny_bind (thn (hf pins s σ H _ I h) fun u s1 ⟨v,H1,I1,r,a,fd,ps,sp,ev,FO,hk,hb,q⟩=>?_)
 subst ev
 cases r
 refine PySem.W.callWith_K (h₀:=X.base) I1.ok.mod.kin hk (thn (ha pos pins s1 σ H1 _ I1 q) fun us s2 ⟨vs,H2,I2,r2,q2⟩=>⟨I2.kIn,?_⟩) he hpl
 exact pP FO hr hb .nil hx I2 r2 q2
structure FnV (P:Program)(w:World)(K:PySem.W.Frag)(mg:Str→Option Value)(base:Heap)(C:Nat→Addr)(k:Nat)(i:Nat)(f:List D→R D):Prop where
 ex:∃ fd ps,FnOk P w K mg base (CXE P w) k (C i) fd ps (spF K C ps.length f)∧PySem.W.keepIn K (.ref (C i))=true∧Binds K fd ps []∧∀ ds,ds.length≠ps.length→f ds=.stuck
def eCV (fs:List Nat)(t:Nat→List D→R D)(gf:SS→R D)(gs:List (SS→R D)):SS→R D:=fun S=>(gf S).bind fun f=>onF fs f fun i=>bA (gs.map fun g=>g S) (t i)
theorem qN {fs:List Nat}{t:Nat→List D→R D}{gf:SS→R D}{gs:List (SS→R D)}(b:BX X F k)(hT:∀ i∈fs,FnV X.prog X.w F.K X.mg X.base F.C k i (t i))(hf:FE X F f gf)(ha:FAL X F (e::es) gs)
  (hev:eval (.Call f (e::es) [] pos) X.env=(do callWith pos (← eval f X.env) [] (backTo pos (starEach (e::es) X.env)) (backToKw pos (keywordEach [] X.env))):=by rfl)
  (he:starEach (e::es) X.env=(false,eval e X.env)::starEach es X.env:=by rfl) (hpl:(backTo pos (starEach es X.env)).any (·.1)=false:=by rfl) :
  FE X F (.Call f (e::es) [] pos) (eCV fs t gf gs) :=
 (qM hf b.room b.pass ha.out hev he hpl).weak fun σ H Q ⟨Z,S,ok,w⟩=>by
  refine aE ok w fun d v H1 Z1 ok1 x1 rv w1=>?_
  cases d with
  | fn i =>
   by_cases hi:fs.contains i=true
   ·rw[Rep]at rv
    obtain⟨fd,ps,h1,h2,h3,h4⟩:=(hT i (by simpa using hi)).ex
    refine⟨F.C i,fd,ps,_,rv,by rw[b.K];exact h1,by rw[b.K];exact h2,by rw[b.K];exact h3,?_⟩
    have e0:onF fs (.fn i) (fun i=>bA (gs.map fun g=>g S) (t i))=(aL gs S).bind (t i):=by
     rw[cU]
     show (if fs.contains i=true then _ else R.stuck)=_
     rw[if_pos hi];rfl
    rw[e0]at w1
    refine bc ok1 w1 fun ds vs H2 Z2 ok2 x2 rs w4=>?_
    by_cases hl:ds.length=ps.length
    ·refine⟨by rw[List.append_nil,← rs.length];exact hl,Z2,ds,ok2.sub,by rw[List.append_nil];exact rs,?_⟩
     cases q:t i ds with
     | ok d=>rw[q]at w4;exact w4
     | err k=>rw[q]at w4;exact w4
     | stuck=>rw[q]at w4;exact w4
    ·rw[h4 ds hl]at w4;exact w4.elim
   ·have e0:onF fs (.fn i) (fun i=>bA (gs.map fun g=>g S) (t i))=.stuck:=by
     show (if fs.contains i=true then _ else R.stuck)=_
     rw[if_neg hi]
    rw[e0]at w1
    exact w1.elim
  | _=>exact w1.elim
end
theorem lu {S:SS}{g:D→SS→R SS}{c:SS→R Bool}{e:SS→R D}:∀ ds,noErr (compGo S g c e ds)=cGo (fun d=>(g d S).bind c) (fun d=>(g d S).bind e) ds
 | []=>rfl
 | d::r=>by
  have ih:=lu (S:=S) (g:=g) (c:=c) (e:=e) r
  rw[cGo,compGo]
  cases q:g d S with
  | err k=>rfl
  | stuck=>rfl
  | ok S1 =>
   show noErr ((c S1).bind fun t=>if t=true then (e S1).bind fun y=>(compGo S g c e r).bind fun ys=>.ok (y::ys) else compGo S g c e r)=(match c S1 with
    | .ok true=>match e S1 with
     | .ok y=>match cGo _ _ r with
      | .ok ys=>.ok (y::ys)
      | _=>.stuck
     | _=>.stuck
    | .ok false=>cGo _ _ r
    | _=>.stuck)
   cases qc:c S1 with
   | err k=>rfl
   | stuck=>rfl
   | ok t =>
    cases t with
    | false=>exact ih
    | true =>
     show noErr ((e S1).bind fun y=>(compGo S g c e r).bind fun ys=>.ok (y::ys))=(match e S1 with
      | .ok y=>match cGo _ _ r with
       | .ok ys=>.ok (y::ys)
       | _=>.stuck
      | _=>.stuck)
     cases qe:e S1 with
     | err k=>rfl
     | stuck=>rfl
     | ok y =>
      rw[← ih]
      show noErr ((compGo S g c e r).bind fun ys=>.ok (y::ys))=(match noErr (compGo S g c e r) with
       | .ok ys=>.ok (y::ys)
       | _=>.stuck)
      cases compGo S g c e r<;>rfl
def eCC (own:Nat)(cap:List Nat)(it:SS→R (List D))(g:D→SS→R SS)(c:SS→R Bool)(e:SS→R D):SS→R D:=fun S=>(it S).bind fun ds=>(cGo (fun d=>(g d (blkS own cap S)).bind c) (fun d=>(g d (blkS own cap S)).bind e) ds).bind fun ys=>.ok (.lst ys)
theorem ed {own:Nat}{cap:List Nat}{it:SS→R (List D)}{g:D→SS→R SS}{c:SS→R Bool}{e:SS→R D}(S:SS):eComp own cap it g c e S=eCC own cap it g c e S:=by
 unfold eComp eCC
 exact bo fun ds=>by rw[lu]
def eC2 (own:Nat)(cap:List Nat)(it:SS→R (List D))(i j:Nat)(c:SS→R Bool)(e:SS→R D):SS→R D:=fun S=>(it S).bind fun ds =>
 (cGo (fun d=>un2 d fun x y=>c (((blkS own cap S).set i (some (.val x))).set j (some (.val y)))) (fun d=>un2 d fun x y=>e (((blkS own cap S).set i (some (.val x))).set j (some (.val y)))) ds).bind fun ys=>.ok (.lst ys)
theorem lv {α:Type}{i j:Nat}{S:SS}{f:SS→R α}(d:D):(gTup [i,j] d S).bind f=un2 d fun x y=>f ((S.set i (some (.val x))).set j (some (.val y))):=by
 cases d with
 | tup ds =>
  match ds with
  | []=>rfl
  | [_]=>rfl
  | [x,y]=>rfl
  | _::_::_::_=>unfold gTup un2;simp
 | _=>rfl
theorem nD {own:Nat}{cap:List Nat}{it:SS→R (List D)}{i j:Nat}{c:SS→R Bool}{e:SS→R D}(S:SS):eCC own cap it (gTup [i,j]) c e S=eC2 own cap it i j c e S:=by
 unfold eCC eC2
 exact bo fun ds=>by rw[show (fun d=>(gTup [i,j] d (blkS own cap S)).bind c)=_ from funext fun d=>lv d,show (fun d=>(gTup [i,j] d (blkS own cap S)).bind e)=_ from funext fun d=>lv d]
theorem fe_C {X:Cx}{F:Fx}{e:Expr}{own:Nat}{cap:List Nat}{it:SS→R (List D)}{g:D→SS→R SS}{c:SS→R Bool}{el:SS→R D}(h:FE X F e (eComp own cap it g c el)):FE X F e (eCC own cap it g c el):=dD h ed
theorem vT {X:Cx}{F:Fx}{e:Expr}{own:Nat}{cap:List Nat}{it:SS→R (List D)}{i j:Nat}{c:SS→R Bool}{el:SS→R D}(h:FE X F e (eComp own cap it (gTup [i,j]) c el)):FE X F e (eC2 own cap it i j c el):=dD h fun S=>(ed S).trans (nD S)
theorem fs_C {X:Cx}{F:Fx}{st:Stmt}{n own:Nat}{cap:List Nat}{it:SS→R (List D)}{g:D→SS→R SS}{c:SS→R Bool}{el:SS→R D}(h:FS X F st (sSet n (eComp own cap it g c el))):FS X F st (sSet n (eCC own cap it g c el)):=cT h fun S=>by unfold sSet;rw[ed]
theorem vU {X:Cx}{F:Fx}{st:Stmt}{n own:Nat}{cap:List Nat}{it:SS→R (List D)}{i j:Nat}{c:SS→R Bool}{el:SS→R D}(h:FS X F st (sSet n (eComp own cap it (gTup [i,j]) c el))):FS X F st (sSet n (eC2 own cap it i j c el)):=cT h fun S=>by unfold sSet;rw[ed,nD]
section
variable {X:Cx}{F:Fx}{st:Stmt}{i:Nat}{g:SS→R D}
def sAppC (i:Nat)(g:SS→R D):SS→O:=fun S=>match S[i]? with
 | some (some (.own ds))=>rO (((g S).bind fun v=>oApp ds v).bind fun ds'=>.ok (.nx (S.set i (some (.own ds')))))
 | _=>.stuck
theorem iK {α:Type}(r:R D)(f:List D→R α):((r.bind fun d=>(R.ok []:R (List D)).bind fun ds=>R.ok (d::ds)).bind f)=r.bind fun d=>f [d]:=by cases r<;>rfl
theorem fs_A (h:FS X F st (sApp i (aL [g]))):FS X F st (sAppC i g):=cT h fun S=>by
 unfold sApp sAppC
 cases q:S[i]? with
 | none=>rfl
 | some o =>
  cases o with
  | none=>rfl
  | some x =>
   cases x with
   | val d=>rfl
   | mat m=>rfl
   | own ds =>
    show rO (((g S).bind fun d=>(R.ok []:R (List D)).bind fun ds=>R.ok (d::ds)).bind _)=rO _
    rw[iK,R.bind_assoc]
    refine congrArg rO (bo fun v=>?_)
    unfold oApp
    show (if _ then _ else _)=_
    split<;>rfl
def sExtC (i:Nat)(g:SS→R D):SS→O:=fun S=>match S[i]? with
 | some (some (.own ds))=>rO (((g S).bind fun v=>oExt ds v).bind fun ds'=>.ok (.nx (S.set i (some (.own ds')))))
 | _=>.stuck
theorem fs_X (h:FS X F st (sExt i (aL [g]))):FS X F st (sExtC i g):=cT h fun S=>by
 unfold sExt sExtC
 cases q:S[i]? with
 | none=>rfl
 | some o =>
  cases o with
  | none=>rfl
  | some x =>
   cases x with
   | val d=>rfl
   | mat m=>rfl
   | own ds =>
    show rO (((g S).bind fun d=>(R.ok []:R (List D)).bind fun ds=>R.ok (d::ds)).bind _)=rO _
    rw[iK,R.bind_assoc]
    refine congrArg rO (bo fun v=>?_)
    unfold oExt
    cases v with
    | lst xs=>by_cases hl:ds.length+xs.length≤16777216<;>simp[hl]
    | tup xs=>by_cases hl:ds.length+xs.length≤16777216<;>simp[hl]
    | _=>rfl
def sOwnC (i:Nat)(gs:List (SS→R D)):SS→O:=fun S=>rO ((eBA .ok gs S).bind fun ds=>.ok (.nx (S.set i (some (.own ds)))))
theorem fs_O {gs:List (SS→R D)}(h:FS X F st (sOwn i (aL gs)))(hl:gs.length≤16777216:=by exact Nat.le_of_ble_eq_true rfl):FS X F st (sOwnC i gs):=cT h fun S=>by
 unfold sOwn sOwnC
 rw[← cU,R.bind_assoc]
 refine congrArg rO ?_
 cases q:aL gs S with
 | ok ds=>show (if ds.length≤16777216 then _ else _)=_;rw[if_pos (by rw[gn q];exact hl)];rfl
 | err k=>rfl
 | stuck=>rfl
def sOwnOfC (i:Nat)(g:SS→R D):SS→O:=fun S=>rO (((g S).bind asTup).bind fun ds=>.ok (.nx (S.set i (some (.own ds)))))
theorem vV (h:FS X F st (sOwnOf i (aL [g]))):FS X F st (sOwnOfC i g):=cT h fun S=>by
 unfold sOwnOf sOwnOfC
 show rO (((g S).bind fun d=>(R.ok []:R (List D)).bind fun ds=>R.ok (d::ds)).bind _)=_
 rw[iK,R.bind_assoc]
 refine congrArg rO (bo fun v=>?_)
 cases v<;>rfl
end
section
variable {X:Cx}{F:Fx}{e tg:Expr}{g ga:SS→R D}{f:List D→List D→R D}{gs:List (SS→R D)}
def eML (f:List D→List D→R D)(g:SS→R D)(gs:List (SS→R D)):SS→R D:=fun S=>(g S).bind fun d=>onL d fun xs=>bA (gs.map fun g=>g S) (f xs)
theorem qO (h:FE X F e (eMethL f g (aL gs))):FE X F e (eML f g gs):=dD h fun S=>by
 unfold eMethL eML
 refine bo fun d=>?_
 cases d with
 | lst xs=>exact cU S gs (f xs)
 | _=>rfl
theorem tt {g g':SS→R (List D)}(h:FI X F tg e g)(hg:∀ S,g S=g' S):FI X F tg e g':=by
 have:g=g':=funext hg
 rw[← this];exact h
theorem eg (h:FI X F tg e (iRange1 (aL gs))):FI X F tg e (eBA rng1 gs):=tt h fun S=>cU S gs rng1
end
theorem vW {k:D→L Unit}{ds:List D}(h:ds.length≠1):a1 k ds=.stuck:=by
 match ds,h with
 | [],_=>rfl
 | [_],h=>exact absurd rfl h
 | _::_::_,_=>rfl
section
variable {σ:Type}{X:Cx}{F:Fx}{S:SS}{st:Stmt}{rest:List Stmt}{J:σ→SS→Prop}
theorem tu (i j:Nat){ga gb:SS→R D}{ra rb:R D}{S':D→D→SS}{k:D→D→L σ}(h:FS X F st (sAsg (gTup [i,j]) (eTup (aL [ga,gb]))))(ha:ga S=ra)(hb:gb S=rb)(hS:∀ x y,(S.set i (some (.val x))).set j (some (.val y))=S' x y)
  (hk:∀ x y,FL X F (S' x y) rest J (k x y)):FL X F S (st::rest) J (lB ra fun x=>lB rb fun y=>k x y):=by
 have e:sAsg (gTup [i,j]) (eTup (aL [ga,gb])) S=rO ((ra.bind fun x=>rb.bind fun y=>R.ok (x,y)).bind fun p=>.ok (.nx (S' p.1 p.2))):=by
  unfold sAsg eTup
  show rO (((((ga S).bind fun d=>((gb S).bind fun d=>(R.ok []:R (List D)).bind fun ds=>R.ok (d::ds)).bind fun ds=>R.ok (d::ds)).bind fun ds=>if ds.length≤16777216 then R.ok (FF.D.tup ds) else .stuck)).bind fun d=>(gTup [i,j] d S).bind fun S1=>R.ok (O.nx S1))=_
  rw[ha,hb]
  cases ra with
  | err k=>rfl
  | stuck=>rfl
  | ok x =>
   cases rb with
   | err k=>rfl
   | stuck=>rfl
   | ok y=>show O.nx ((S.set i (some (.val x))).set j (some (.val y)))=O.nx (S' x y);rw[hS]
 have:=ah (rest:=rest) (J:=J) (S:=S) (r:=ra.bind fun x=>rb.bind fun y=>R.ok (x,y)) (S':=fun p=>S' p.1 p.2) (k:=fun p=>k p.1 p.2) h e fun p=>hk p.1 p.2
 have q:lB (ra.bind fun x=>rb.bind fun y=>R.ok (x,y)) (fun p=>k p.1 p.2)=lB ra fun x=>lB rb fun y=>k x y:=by
  cases ra with
  | ok x=>cases rb<;>rfl
  | err k=>rfl
  | stuck=>rfl
 rw[q]at this
 exact this
end
section
variable {P:Program}{w:World}{K:PySem.W.Frag}{mg:Str→Option Value}{base:Heap}
theorem tx {x qual:Str}{st:Stmt}{f:Addr}{fd:FuncData}{N ps:List Str}{k:Nat}{C:Nat→Addr}{fn:List D→R D}(F:Fun K x qual st f fd)(S:FnScope N ps (defScope st))
  (h:∀ (cdv:Value) (A:Around) (outer:List Env) (s:Shared) (H Z:Hp) (E:XK),BX (bodyX P w K mg base N qual (defScope st) f cdv A outer s H E) ⟨K,C,H,Z,E⟩ k →
   PassesOwn (model P w) (bodyX P w K mg base N qual (defScope st) f cdv A outer s H E).A (bodyX P w K mg base N qual (defScope st) f cdv A outer s H E).env (bodyX P w K mg base N qual (defScope st) f cdv A outer s H E).xe →
   MadeX (bodyX P w K mg base N qual (defScope st) f cdv A outer s H E) ⟨K,C,H,Z,E⟩ →
   ∀ ds,ds.length=ps.length→∃ l:L Unit,fn ds=outL l∧FL (bodyX P w K mg base N qual (defScope st) f cdv A outer s H E) ⟨K,C,H,Z,E⟩ (startS N.length ds) (defBody st) JU l) :
  FnOk P w K mg base (CXE P w) (k+1) f fd ps (spF K C ps.length fn):=by
 obtain⟨oc,od,kV,doc,pm,an,cdv,ct,osl,rfl,lk,hcd⟩:=F.ex
 refine pQ lk hcd S (fun vs H Q E q=>q.1) fun A outer s H vs Q E hr hsp=>?_
 obtain⟨hv,Z,ds,z,r,w⟩:=hsp
 obtain⟨l,e,hl⟩:=h cdv A outer s H Z E ⟨hr,rfl,rfl,jP⟩ PassesOwn.leaving (fun pins σ H1 s1 h1 ea C1 args I hx hE=>oi I hx hE) ds (by rw[r.length];exact hv)
 refine⟨_,hl,Z,k9 (F:=⟨K,C,H,Z,E⟩) (N:=N) z r,?_⟩
 rw[e]at w
 cases l with
 | nx u=>exact fun S' ρ' H' Z' _ _ ok=>w H' Z' ok.ex .non (by rw[Rep])
 | rt d=>exact fun v H' Z' x rv=>w H' Z' x v rv
 | er k=>exact w
 | stuck=>exact w
end
theorem len1 {ds:List D}(h:ds.length=1):∃ a,ds=[a]:=by
 match ds,h with
 | [a],_=>exact⟨a,rfl⟩
theorem len2 {ds:List D}(h:ds.length=2):∃ a b,ds=[a,b]:=by
 match ds,h with
 | [a,b],_=>exact⟨a,b,rfl⟩
theorem len3 {ds:List D}(h:ds.length=3):∃ a b c,ds=[a,b,c]:=by
 match ds,h with
 | [a,b,c],_=>exact⟨a,b,c,rfl⟩
theorem len4 {ds:List D}(h:ds.length=4):∃ a b c d,ds=[a,b,c,d]:=by
 match ds,h with
 | [a,b,c,d],_=>exact⟨a,b,c,d,rfl⟩
theorem len5 {ds:List D}(h:ds.length=5):∃ a b c d e,ds=[a,b,c,d,e]:=by
 match ds,h with
 | [a,b,c,d,e],_=>exact⟨a,b,c,d,e,rfl⟩
end FF
end
noncomputable section
namespace FF
open PySem PySem.Spec PyProof.Rows L2
section
variable {X:Cx}{F:Fx}{st:Stmt}{i:Nat}{g ge:SS→R D}
theorem qP {g g':SS→O}(h:FS X F st g)(hg:∀ S,g' S=.stuck∨g S=g' S):FS X F st g':=h.weak fun D σ H ⟨Z,S,ok,w⟩=>⟨Z,S,ok,by
 rcases hg S with e | e
 ·rw[e]at w;exact w.elim
 ·rw[e];exact w⟩
def sStoC (i:Nat)(gi ge:SS→R D):SS→O:=fun S=>match S[i]? with
 | some (some (.own ds))=>rO (((ge S).bind fun v=>(gi S).bind fun k=>oSt ds k v).bind fun ds'=>.ok (.nx (S.set i (some (.own ds')))))
 | _=>.stuck
theorem fs_S (h:FS X F st (sStore i g ge)):FS X F st (sStoC i g ge):=qP h fun S=>by
 unfold sStore sStoC
 cases q:S[i]? with
 | none=>exact .inl rfl
 | some o =>
  cases o with
  | none=>exact .inl rfl
  | some x =>
   cases x with
   | val d=>exact .inl rfl
   | mat m=>exact .inl rfl
   | own ds =>
    refine .inr ?_
    show rO ((ge S).bind fun d=>(g S).bind fun k=>_)=rO _
    rw[R.bind_assoc]
    refine congrArg rO (bo fun v=>?_)
    rw[R.bind_assoc]
    refine bo fun k=>?_
    cases k with
    | int j =>
     show (if 0≤j∧j < ds.length then R.ok _ else R.stuck)=(if 0≤j∧j < ds.length then R.ok _ else R.stuck).bind _
     by_cases hj:0≤j∧j < ds.length
     ·rw[if_pos hj,if_pos hj];rfl
     ·rw[if_neg hj,if_neg hj];rfl
    | _=>rfl
end
section
variable {X:Cx}{F:Fx}{pins:List (Addr×Obj)}{σ:St}{H Z:Hp}{s:Shared}
open Classical in
end
section
variable {X:Cx}{F:Fx}{a b:Expr}{ga gb:SS→R D}{pos:Pos}{k:Nat}
end
section
variable {X:Cx}{F:Fx}{p pos:Pos}{e e2:Expr}{gs:SS→R (List D)}{k:Nat}
theorem iL (hc:X.calm=true):CallR X (.builtin "any") (fun xs H Q=>∃ (p:Addr) (bs:List Bool),xs=[.ref p]∧SqL X.K H p (bs.map V.bl)∧Q (.bl (bs.any id)) H):=by
 intro pins s σ H xs us Q I r h
 obtain⟨p,bs,rfl,hq,q⟩:=h
 obtain⟨u,rfl,ru⟩:=vals1 r
 cases ru
 obtain⟨its,rv,pl,hz⟩:=I.list hq
 have e:=cG rv
 subst e
 have hlt:p < s.heap.objs.size:=by obtain⟨o,_,ho,_⟩:=pl;exact Heap.lt_size ho
 refine call_any_walk (wpAny_pyIter_list pl.isList ⟨s.heap.objs.size,_,_,_,_,_,fun i=>bs.getD i false,rfl,Walks.list (show X.A.in1.handled=none from I.ok.hd hc) s.heap.objs.size p (Nat.ne_of_lt hlt) (bs.map Value.bool).toArray,⟨⟨_,Heap.get?_push_size _ rfl,rfl,rfl⟩,?_⟩,?_,fun h' tk hk=>?_⟩)
 ·obtain⟨o,ho,h2,n,h3⟩:=pl.isList
  exact⟨o,Heap.get?_push_of_some _ ho,h2,n,h3⟩
 ·intro i v s' Q' E' hp hq'
  have hp':bs[i]?.map Value.bool=some v:=by simpa using hp
  cases e:bs[i]? with
  | none=>rw[e]at hp';cases hp'
  | some b =>
   rw[e]at hp'
   cases hp'
   refine wpAny_truthy_bool ?_
   have:bs.getD i false=b:=by simp[List.getD,e]
   have hq2:Q' (bs.getD i false) s':=hq'
   rw[this]at hq2
   exact hq2
 ·have hall:(List.range (bs.map Value.bool).toArray.size).any (fun i=>bs.getD i false)=bs.any id:=by
   rw[List.size_toArray,List.length_map]
   rw[Bool.eq_iff_iff,List.any_eq_true,List.any_eq_true]
   constructor
   ·rintro ⟨i,hi,h⟩
    have hi':=List.mem_range.mp hi
    exact⟨bs[i],List.getElem_mem hi',by simpa [List.getD,hi'] using h⟩
   ·rintro ⟨b,hb,h⟩
    obtain⟨i,hi,rfl⟩:=List.mem_iff_getElem.mp hb
    exact⟨i,List.mem_range.mpr hi,by simpa [List.getD,hi] using h⟩
  rw[hall]
  exact⟨.bl (bs.any id),H,I.kept fun b o e=>hk b o (by simp;exact Nat.ne_of_lt (Heap.lt_size e)) (Heap.get?_push_of_some _ e),rfl,q⟩
theorem oI:CallD F (fun xs H Q=>∃ (p:Addr) (bs:List Bool),xs=[.ref p]∧SqL F.K H p (bs.map V.bl)∧Q (.bl (bs.any id)) H) dAny:=by
 intro H Z xs ds Q s rs w
 unfold dAny at w
 split at w
 ·split at w
  ·rename_i bs e
   obtain⟨v,rfl,h⟩:=aZ rs
   rw[Rep]at h
   obtain⟨a,vs,rfl,h1,h2⟩:=h
   have e2:=cF h2 e
   subst e2
   exact⟨a,bs,rfl,s.seq h1,WG.now w s _ aY⟩
  ·exact w.elim
 ·exact w.elim
theorem ve (bx:BX X F k)(hg:Gl X "any")(hm:X.mg "any"=none)(ha:FA X F [e] gs)(he:starEach [e] X.env=(false,eval e X.env)::starEach [] X.env:=by rfl)(hpl:(backTo pos (starEach [] X.env)).any (·.1)=false:=by rfl):FE X F (.Call (.Name "any" p) [e] [] pos) (eCall dAny gs) :=
 dl (id := "any") (by have:=iL (X:=X) bx.calm;rw[bx.K]at this;exact this) oI hg hm (by decide +kernel) ha (he:=he) (hpl:=hpl)
end
section
variable {X:Cx}{F:Fx}{pos p1 p2:Pos}{x y:Str}{kk:Nat}
theorem nE (i j:Nat)(hc:X.calm=true)(hN:X.N.Nodup)(hij:i≠j:=by decide)(hi:X.N[i]?=some x:=by rfl)(hj:X.N[j]?=some y:=by rfl)(hx:Loc X.env.scope x:=by first | exact Or.inl rfl | exact Or.inr rfl)(hy:Loc X.env.scope y:=by first | exact Or.inl rfl | exact Or.inr rfl)
  (hfx:X.fn x=true∨X.env.scope.names.lookup x=some .local:=by first | exact .inl rfl | exact .inr rfl) (hfy:X.fn y=true∨X.env.scope.names.lookup y=some .local:=by first | exact .inl rfl | exact .inr rfl)
  (hK:X.K=F.K:=by first | rfl | assumption) (hn:(assignEach [.Name x p1,.Name y p2] X.env).length=2:=by rfl) (hst:(assignEach [.Name x p1,.Name y p2] X.env).findIdx? (·.1)=none:=by rfl):FG X F (.Tuple [.Name x p1,.Name y p2] kk pos) (gTup [i,j]) :=
 (pF hc (fj (fi (i:=i) hN hi hx hfx) (fj (fi (i:=j) hN hj hy hfy) ng)) hn hst).weak fun v σ H Q ⟨Z,S,d,ok,rd,w⟩=>by
  cases d with
  | tup ds =>
   match ds with
   | [a,b] =>
    rw[Rep]at rd
    obtain⟨c,vs,rfl,h1,h2⟩:=rd
    rw[Reps]at h2
    obtain⟨v1,r,rfl,q1,h2⟩:=h2
    rw[Reps]at h2
    obtain⟨v2,r,rfl,q2,h2⟩:=h2
    rw[Reps]at h2
    subst h2
    refine⟨c,[v1,v2],rfl,by rw[hK];exact h1.mono ok.sub,rfl,v1,[v2],rfl,v2,[],rfl,rfl,?_⟩
    exact WG.now w ok.sub _ ((ok.setVal (i:=i) q1).setVal (i:=j) q2)
   | []=>exact w.elim
   | [_]=>exact w.elim
   | a::b::c::r =>
    have e:gTup [i,j] (.tup (a::b::c::r)) S=.stuck:=by unfold gTup;simp
    rw[e]at w
    exact w.elim
  | _=>exact w.elim
theorem lw {own i j:Nat}(hi:i < own)(hj:j < own):Own own (gTup [i,j]):=fun d S S1 e=>by
 cases d with
 | tup ds =>
  match ds with
  | [a,b] =>
   have e':R.ok ((S.set i (some (.val a))).set j (some (.val b)))=R.ok S1:=e
   cases e'
   refine⟨by simp,fun n hn=>?_⟩
   rw[List.getElem?_set_ne (by omega),List.getElem?_set_ne (by omega)]
  | []=>cases e
  | [_]=>cases e
  | a::b::c::r =>
   have q:gTup [i,j] (.tup (a::b::c::r)) S=.stuck:=by unfold gTup;simp
   rw[q]at e
   cases e
 | _=>cases e
end
end FF
end
noncomputable section
namespace FF
open PySem PySem.Spec PyProof.Rows L2
theorem gQ:∀ (l acc:List Int),l.foldl step_dedup acc=acc++(l.filter fun x=>!acc.any (· == x)).eraseDups
 | [],acc=>by simp
 | x::l,acc=>by
  rw[List.foldl_cons,gQ l]
  unfold step_dedup
  by_cases h:acc.any (· == x)=true
  ·rw[if_pos h,List.filter_cons_of_neg (by rw[h];decide)]
  ·have h':acc.any (· == x)=false:=Bool.not_eq_true _ ▸ h
   have ef:(l.filter fun y=>!(acc++[x]).any (· == y))=(l.filter fun y=>!acc.any (· == y)).filter fun b=>!b==x:=by
    rw[List.filter_filter]
    refine List.filter_congr fun y _=>?_
    rw[List.any_append]
    have:([x].any fun z=>z==y)=(y==x):=by simp[Bool.beq_comm,BEq.comm]
    rw[this]
    cases acc.any (· == y)<;>cases (y==x)<;>rfl
   rw[if_neg h,List.filter_cons_of_pos (by rw[h'];rfl),List.eraseDups_cons,ef,List.append_assoc]
   rfl
theorem jr (is:List Int):(firstMet (fun i=>is.getD i 0) is.length).length=is.eraseDups.length:=by
 unfold firstMet
 rw[gQ]
 have:(List.range is.length).map (fun i=>is.getD i 0)=is:=by
  apply List.ext_getElem?
  intro i
  rw[List.getElem?_map]
  by_cases h:i < is.length
  ·rw[List.getElem?_range h,List.getElem?_eq_getElem h];simp[List.getD,h]
  ·rw[List.getElem?_eq_none (by simpa using h),List.getElem?_eq_none (by simpa using h)];rfl
 rw[this]
 have:(is.filter fun x=>!([]:List Int).any (· == x))=is:=List.filter_eq_self.mpr fun _ _=>rfl
 rw[this,List.nil_append]
section
variable {X:Cx}{F:Fx}{p p2 pos pos2:Pos}{e:Expr}{gs:SS→R (List D)}{k:Nat}
theorem qQ (hc:X.calm=true):CallR X (.type "set") (fun xs H Q=>∃ (p:Addr) (is:List Int),xs=[.ref p]∧SqL X.K H p (is.map V.int)∧is.length≤4000∧∀ a,H a=none→Q (.ref a) (upd H a (.set (fun k'=>(firstMet (fun i=>is.getD i 0) is.length).any (· == k')) is.eraseDups.length))):=by
 intro pins s σ H xs us Q I r h
 obtain⟨p,is,rfl,hq,hl,q⟩:=h
 obtain⟨u,rfl,ru⟩:=vals1 r
 cases ru
 obtain⟨its,rv,pl,hz⟩:=I.list hq
 obtain⟨ps,rfl,e⟩:=bL rv
 have hlen:ps.length=is.length:=by rw[← e,List.length_map]
 have hs:(ps.map fun p=>Value.int p.1 p.2).toArray.size=is.length:=by simp[hlen]
 refine call_set_list (ns:=is) (I.ok.hd hc) pl.isList ?_ (by rw[hs];show is.length+1 < 4096;omega) fun h' tk hS hk=>?_
 ·have:∀ (ps:List (Int×Tok)),IntsAre (ps.map fun p=>Value.int p.1 p.2) (ps.map (·.1)):=by
   intro ps
   induction ps with
   | nil=>exact .nil
   | cons a l ih=>exact .cons a.1 a.2 ih
  rw[← e]
  exact this ps
 ·rw[hs,jr]at hS
  exact⟨.ref s.heap.objs.size,_,I.laid (o:=.set (fun k'=>(firstMet (fun i=>is.getD i 0) is.length).any (· == k')) is.eraseDups.length) (t':=tk) (fun b u q=>hk b u (Heap.lt_size q) q) (Nat.le_refl _) hS,rfl,q _ I.fresh⟩
theorem lx:CallR X (.builtin "len") (fun xs H Q=>∃ (a:Addr) (S:Int→Bool) (n:Nat),xs=[.ref a]∧H a=some (.set S n)∧Q (.int n) H):=by
 intro pins s σ H xs us Q I r h
 obtain⟨a,S,n,rfl,hq,q⟩:=h
 obtain⟨u,rfl,ru⟩:=vals1 r
 cases ru
 obtain⟨o,es,ep,t,h1,h2,h3,h4,h5,h6,h7,h8⟩:=(show s.heap.SetOf (intKind X.prog X.w) a S n from I.hok a _ hq)
 subst h8
 have:es.size < 4096:=h6
 exact call_len_set h1 h2 h3 h7 (by omega) ⟨.int es.size,H,I.tok _,⟨_,rfl⟩,q⟩
theorem oJ (bx:BX X F k)(hg:Gl X "len")(hm:X.mg "len"=none)(hg2:Gl X "set")(hm2:X.mg "set"=none)(ha:FA X F [e] gs)(he:starEach [e] X.env=(false,eval e X.env)::starEach [] X.env:=by rfl)(hpl:(backTo pos2 (starEach [] X.env)).any (·.1)=false:=by rfl)
  (he2:starEach [.Call (.Name "set" p2) [e] [] pos2] X.env=(false,eval (.Call (.Name "set" p2) [e] [] pos2) X.env)::starEach [] X.env:=by rfl) (hpl2:(backTo pos (starEach [] X.env)).any (·.1)=false:=by rfl) :
  FE X F (.Call (.Name "len" p) [.Call (.Name "set" p2) [e] [] pos2] [] pos) (eCall dLenSet gs) :=
 (fk lx hg hm PySem.boot_len (cR (fW (qQ bx.calm) hg2 hm2 (by decide +kernel) ha (he:=he) (hpl:=hpl)) ie he2) (he:=he2) (hpl:=hpl2)).weak fun σ H Q ⟨Z,S,ok,w⟩=>by
  refine bc ok w fun ds vs H1 Z1 ok1 x1 rs w1=>?_
  unfold dLenSet at w1
  split at w1
  ·rename_i xs
   split at w1
   ·rename_i is e
    split at w1
    ·rename_i hl
     obtain⟨v,rfl,h⟩:=aZ rs
     rw[Rep]at h
     obtain⟨a,us,rfl,h1,h2⟩:=h
     have e2:=cI h2 e
     subst e2
     refine⟨a,is,rfl,by rw[bx.K];exact ok1.sub.seq h1,hl,fun c hc=>⟨c,_,_,rfl,ap,?_⟩⟩
     exact w1 _ _ (Ex.hidden ok1.sub hc) _ aK
    ·exact w1.elim
   ·exact w1.elim
  ·exact w1.elim
end
end FF
end
noncomputable section
namespace FF
open PySem PySem.Spec PyProof.Rows L2
section
variable {X:Cx}{F:Fx}
def gNames:List Nat→TGs
 | []=>gNil
 | i::r=>gCons (gName i) (gNames r)
theorem jS {H Z:Hp}{Q:St→Hp→Prop}:∀ (ix:List Nat) (ds:List D) (vs:List V) (S:SS) (σ:St),ds.length=ix.length→Reps F.K F.C Z ds vs→StOk F H Z S σ→(∀ σ',StOk F H Z (setAll ix ds S) σ'→Q σ' H)→gNames ix vs σ H Q
 | [],[],vs,S,σ,_,rs,ok,h=>by
  rw[Reps]at rs
  subst rs
  exact⟨rfl,h σ ok⟩
 | i::ix,d::ds,vs,S,σ,hl,rs,ok,h=>by
  rw[Reps]at rs
  obtain⟨v,r,rfl,q,rs⟩:=rs
  exact⟨v,r,rfl,jS ix ds r _ _ (by simpa using hl) rs (ok.setVal (i:=i) q) h⟩
 | [],_::_,_,_,_,hl,_,_,_=>by simp at hl
 | _::_,[],_,_,_,hl,_,_,_=>by simp at hl
theorem qR {es:List Expr}{kk:Nat}{pos:Pos}(ix:List Nat)(hc:X.calm=true)(h:PGs X es (gNames ix))(hn:(assignEach es X.env).length=ix.length)(hst:(assignEach es X.env).findIdx? (·.1)=none)(hK:X.K=F.K):FG X F (.Tuple es kk pos) (gTup ix) :=
 (pF hc h hn hst).weak fun v σ H Q ⟨Z,S,d,ok,rd,w⟩=>by
  cases d with
  | tup ds =>
   by_cases hl:ds.length=ix.length
   ·have w':WG F H Z (R.ok (setAll ix ds S)) fun S' H' Z'=>∀ σ',StOk F H' Z' S' σ'→Q σ' H':=by
     have e:gTup ix (.tup ds) S=R.ok (setAll ix ds S):=by unfold gTup;simp[hl]
     rw[e]at w;exact w
    have rd':=rd
    rw[Rep]at rd'
    obtain⟨c,vs,rfl,h1,h2⟩:=rd'
    refine⟨c,vs,rfl,by rw[hK];exact h1.mono ok.sub,by rw[← h2.length,hl],?_⟩
    exact jS ix ds vs S σ hl h2 ok (WG.now w' ok.sub)
   ·have e:gTup ix (.tup ds) S=R.stuck:=by unfold gTup;simp[hl]
    rw[e]at w
    exact w.elim
  | _=>exact w.elim
theorem tz {tg e:Expr}{pos:Pos}{ge:SS→R D}{g:D→SS→R SS}(he:FE X F e ge)(hg:FG X F tg g)(hs:swapsWithSole [tg] e pos.line X.env=pure false)(hw:swappedStores [tg] e X.env=pure none)(h1:(assignEach [tg] X.env).map (·.2)=[assign tg X.env]):FS X F (.Assign [tg] e pos) (sAsg g ge) :=
 (pG he hg hs hw h1).weak fun D σ H ⟨Z,S,ok,w⟩=>aE ok (WO.wg ok w) fun d v H1 Z1 ok1 x1 rv w1=>by
  refine⟨Z1,S,d,ok1,rv,?_⟩
  cases q:g d S with
  | ok S1 =>
   rw[q]at w1
   intro H' Z' x' σ' ok'
   exact(w1 H' Z' x') _ _ _ (Same.refl _) ok'
  | err k=>rw[q]at w1;exact w1
  | stuck=>rw[q]at w1;exact w1
variable {σ:Type}{S:SS}{rest:List Stmt}{J:σ→SS→Prop}{e:Expr}{ge:SS→R D}{r:R D}{n:Nat}
end
end FF
end
noncomputable section
namespace L2
open PySem PySem.Spec PyProof.Rows
section
variable {X:Cx}{pos:Pos}
end
end L2
namespace FF
open PySem PySem.Spec PyProof.Rows L2
section
variable {X:Cx}{F:Fx}{σ:Type}{S:SS}{st:Stmt}{rest:List Stmt}{J:σ→SS→Prop}
end
end FF
end
noncomputable section
namespace FF
open PySem PySem.Spec PyProof.Rows L2
section
variable {prog:Program}{w:World}{A:Around}{E:Value→Shared→Prop}{s:Shared}
theorem fz {it t:Addr}{i:Nat}{items:Array Value}{x:Value}{Q:Value→Shared→Prop}(hit:s.heap.IsTupleIter it t i)
  (hl:s.heap.IsTuple t items) (hx:items[i]?=some x)
  (hQ:∀ h',h'.IsTupleIter it t (i+1)→Heap.SameBut it s.heap h'→Q x { s with heap:=h' }) :
  wpAny (model prog w) A (Builtin.SmallTypes.nextOf (.ref it)) Q E s:=by
 obtain⟨o,ho,hc,hd⟩:=id hit
 obtain⟨ol,hol,_,nl,hdl⟩:=hl
 unfold Builtin.SmallTypes.nextOf
 refine wpAny_bind (wpAny_callSpecial?_slot (name:=Str.ofString "__next__") hit.typeIs F.slot_tuple_iterator_next
  (wpAny_call_entry F.slot_tuple_iterator_next hit.typeIs F.entry_tuple_iterator_next ?_ (F.args_tuple_iterator_next_1 _)))
 show wpAny _ _ (field (.ref it) 0 >>= _) _ _ s
 refine wpAny_bind (wpAny_field ho hd (x:=.ref t) rfl ?_)
 show wpAny _ _ (if (Value.ref t==Value.none)=true then _ else _) _ _ s
 rw[if_neg (show ¬ ((Value.ref t==Value.none)=true) from Bool.false_ne_true)]
 show wpAny _ _ (field (.ref it) 1 >>= _) _ _ s
 refine wpAny_bind (wpAny_field ho hd (x:=.int i 0) rfl ?_)
 show wpAny _ _ (seqItems? (.ref t) >>= _) _ _ s
 refine wpAny_bind (wpAny_seqItems hol hdl ?_)
 simp only[Int.toNat_natCast,hx]
 refine wpAny_bind (wpAny_setField ho hd (by simp) (wpAny_pure ⟨x,rfl,wpAny_pure (hQ _ ?_ (Heap.SameBut.update ..))⟩))
 exact⟨_,Heap.get?_update_self _ ho (Obj.isFreed_of_fields (Obj.data_mapFields hd _)),(Obj.cls_mapFields ..).trans hc,by
  rw[Obj.data_mapFields hd];simp[rawInt]⟩
theorem gp {it t:Addr}{i:Nat}{items:Array Value}{Q:Value→Shared→Prop}(hh:A.handled=none)
  (hit:s.heap.IsTupleIter it t i) (hl:s.heap.IsTuple t items) (hx:items[i]?=none)
  (hE:∀ h' e,Heap.ExtBut it s.heap h'→(∃ o,h'.get? e=some o∧o.cls=.type "StopIteration")→E (.ref e) { s with heap:=h' }) :
  wpAny (model prog w) A (Builtin.SmallTypes.nextOf (.ref it)) Q E s:=by
 obtain⟨o,ho,hc,hd⟩:=id hit
 obtain⟨ol,hol,_,nl,hdl⟩:=hl
 unfold Builtin.SmallTypes.nextOf
 refine wpAny_bind (wpAny_callSpecial?_slot (name:=Str.ofString "__next__") hit.typeIs F.slot_tuple_iterator_next
  (wpAny_call_entry F.slot_tuple_iterator_next hit.typeIs F.entry_tuple_iterator_next ?_ (F.args_tuple_iterator_next_1 _)))
 show wpAny _ _ (field (.ref it) 0 >>= _) _ _ s
 refine wpAny_bind (wpAny_field ho hd (x:=.ref t) rfl ?_)
 show wpAny _ _ (if (Value.ref t==Value.none)=true then _ else _) _ _ s
 rw[if_neg (show ¬ ((Value.ref t==Value.none)=true) from Bool.false_ne_true)]
 show wpAny _ _ (field (.ref it) 1 >>= _) _ _ s
 refine wpAny_bind (wpAny_field ho hd (x:=.int i 0) rfl ?_)
 show wpAny _ _ (seqItems? (.ref t) >>= _) _ _ s
 refine wpAny_bind (wpAny_seqItems hol hdl ?_)
 simp only[Int.toNat_natCast,hx]
 refine wpAny_bind (wpAny_rule (wpAny_bind (wpAny_setField ho hd (by simp) ?_)))
 show wpAny _ _ (newExc (.type "StopIteration") [] >>= _) _ _ _
 refine wpAny_bind ?_
 simp only[newExc,newTuple]
 refine wpAny_bind (wpAny_newObj_type ?_ (by size_fits))
 refine wpAny_bind (m:=firstArgMember _ _) (wpAny_of_eq (a:=Value.none) (by first | rfl | (simp only[firstArgMember];rfl)) ?_)
 refine wpAny_newObj_type ?_ (by size_fits)
 simp only[raiseNew]
 refine wpAny_bind (wpAny_handled ?_)
 first | rw[show A.in1.handled=none from hh] | rw[hh]
 refine wpAny_bind (wpAny_pure (wpAny_throw ?_))
 exact hE _ _ (((Heap.SameBut.update ..).extBut.push _).push _) ⟨_,Heap.get?_push_size _ rfl,rfl⟩
def SIt (h:Heap)(b:Bool)(it a:Addr)(k:Nat):Prop:=if b=true then h.IsTupleIter it a k else h.IsListIter it a k
def SOb (h:Heap)(b:Bool)(a:Addr)(xs:Array Value):Prop:=if b=true then h.IsTuple a xs else h.IsList a xs
theorem SIt.at {h h':Heap}{b:Bool}{it a:Addr}{k:Nat}(x:SIt h b it a k)(f:∀ o,h.get? it=some o→h'.get? it=some o):SIt h' b it a k:=by
 cases b<;>(obtain⟨o,ho,r⟩:=x;exact⟨o,f o ho,r⟩)
theorem SOb.at {h h':Heap}{b:Bool}{a:Addr}{xs:Array Value}(x:SOb h b a xs)(f:∀ o,h.get? a=some o→h'.get? a=some o):SOb h' b a xs:=by
 cases b<;>(obtain⟨o,ho,r⟩:=x;exact⟨o,f o ho,r⟩)
theorem SIt.lt {h:Heap}{b:Bool}{it a:Addr}{k:Nat}(x:SIt h b it a k):∃ o,h.get? it=some o∧∀ v,o.data≠.cell v:=by
 cases b<;>(obtain⟨o,ho,_,hd⟩:=x;exact⟨o,ho,fun v z=>by rw[hd]at z;cases z⟩)
theorem cz {b:Bool}{it a:Addr}{i:Nat}{items:Array Value}{x:Value}{Q:Value→Shared→Prop}(hit:SIt s.heap b it a i)(hl:SOb s.heap b a items)(hx:items[i]?=some x)
  (hQ:∀ h',SIt h' b it a (i+1)→Heap.SameBut it s.heap h'→Q x { s with heap:=h' }):wpAny (model prog w) A (Builtin.SmallTypes.nextOf (.ref it)) Q E s:=by
 cases b with
 | true=>exact fz hit hl hx hQ
 | false=>exact wpAny_nextOf_list_item hit hl hx hQ
theorem fA {b:Bool}{it a:Addr}{i:Nat}{items:Array Value}{Q:Value→Shared→Prop}(hh:A.handled=none)(hit:SIt s.heap b it a i)(hl:SOb s.heap b a items)(hx:items[i]?=none)
  (hE:∀ h' e,Heap.ExtBut it s.heap h'→(∃ o,h'.get? e=some o∧o.cls=.type "StopIteration")→E (.ref e) { s with heap:=h' }):wpAny (model prog w) A (Builtin.SmallTypes.nextOf (.ref it)) Q E s:=by
 cases b with
 | true=>exact gp hh hit hl hx hE
 | false=>exact wpAny_nextOf_list_end hh hit hl hx hE
def itOb (b:Bool)(a:Addr):Obj:={ cls:=.type (if b=true then "tuple_iterator" else "list_iterator"),data:=.fields #[.ref a,.int 0 0] }
theorem nF {b:Bool}{a:Addr}{items:Array Value}{Q:Value→Shared→Prop}(hl:SOb s.heap b a items)(hQ:Q (.ref s.heap.objs.size) { s with heap:=s.heap.push (itOb b a) }):wpAny (model prog w) A (pyIter (.ref a)) Q E s:=by
 cases b with
 | true=>exact wpAny_pyIter_tuple hl hQ
 | false=>exact wpAny_pyIter_list hl hQ
def IsZ (h:Heap)(z TI TO:Addr)(f0 f1:Value):Prop:=h.get? z=some { cls:=.type "zip",dict:=none,data:=.fields #[f0,f1,.bool false,.ref TI,.ref TO],slots:=#[] }
theorem qS {a:Addr}{o:Obj}{Q:Option Obj→Shared→Prop}(ho:s.heap.get? a=some o)(h:Q (some o) s):wpAny (model prog w) A (loadIfAlive a) Q E s:=fun Γ p hΓ=>by
 show Sem.wp _ Γ (.loadIfAlive a .pure) _ _ p s
 rw[Sem.wp_loadIfAlive,ho]
 exact h
theorem iM {z TI TO T:Addr}{oT:Obj}{u:Bool}{Q:Bool→Shared→Prop}(hz:IsZ s.heap z TI TO (rawInt T) (.bool u))(hoT:s.heap.get? T=some oT)
  (hQ:∀ h₁,IsZ h₁ z TI TO (rawInt T) (.bool true)→Heap.SameBut z s.heap h₁→Q false { s with heap:=h₁ }):wpAny (model prog w) A (Builtin.SmallTypes.ownedTupleIsFree (.ref z)) Q E s:=by
 unfold Builtin.SmallTypes.ownedTupleIsFree
 refine wpAny_bind (wpAny_field hz rfl (x:=rawInt T) rfl ?_)
 show wpAny _ _ (loadIfAlive (T:Int).toNat >>= _) _ _ _
 rw[Int.toNat_natCast]
 refine wpAny_bind (qS hoT ?_)
 show wpAny _ _ (field (.ref z) 1 >>= _) _ _ _
 refine wpAny_bind (wpAny_field hz rfl (x:=.bool u) rfl ?_)
 cases u with
 | true=>exact wpAny_pure (hQ s.heap hz (Heap.SameBut.refl ..))
 | false=>exact wpAny_bind (wpAny_setField_rec hz (by simp) fun h₁ hz₁ hs₁=>wpAny_pure (hQ h₁ hz₁ hs₁))
theorem qT {z TI TO i1 i2 l1 l2:Addr}{b1 b2:Bool}{k1 k2:Nat}{xs ys:Array Value}{f0 x y a b:Value}{u:Bool}{Q:Value→Shared→Prop}(D:ZipApart z TI TO i1 i2 l1 l2)
  (hz:IsZ s.heap z TI TO f0 (.bool u)) (hf:f0=.none∨∃ (T:Addr) (o:Obj),f0=rawInt T∧T≠z∧T≠i1∧T≠i2∧s.heap.get? T=some o) (hTI:IsPair s.heap TI (.ref i1) (.ref i2)) (hTO:IsPair s.heap TO a b)
  (h1:SIt s.heap b1 i1 l1 k1) (h2:SIt s.heap b2 i2 l2 k2) (hl1:SOb s.heap b1 l1 xs) (hl2:SOb s.heap b2 l2 ys) (hx:xs[k1]?=some x) (hy:ys[k2]?=some y)
  (hQ:∀ h' g0 g1,IsZ h' z TI TO g0 (.bool g1)→(g0=rawInt s.heap.objs.size∨g0=f0∧f0≠.none)→(f0=.none→g0=rawInt s.heap.objs.size)→(∃ a b,IsPair h' TO a b)→SIt h' b1 i1 l1 (k1+1)→SIt h' b2 i2 l2 (k2+1)→IsPair h' s.heap.objs.size x y→h'.objs.size=s.heap.objs.size+1 →
   (∀ c o,c≠z→c≠TO→c≠i1→c≠i2→s.heap.get? c=some o→h'.get? c=some o)→Q (.ref s.heap.objs.size) { s with heap:=h' }) :
  wpAny (model prog w) A (Builtin.«zip.__next__» ⟨[.ref z],[]⟩) (fun fin s'=>∃ v,fin=.done (.ret v)∧Q v s') E s:=by
 show wpAny _ _ (field (.ref z) 2 >>= _) _ _ _
 refine wpAny_bind (wpAny_field hz rfl (x:=.bool false) rfl ?_)
 show wpAny _ _ (field (.ref z) 3 >>= _) _ _ _
 refine wpAny_bind (wpAny_field hz rfl (x:=.ref TI) rfl ?_)
 refine wpAny_bind (wpAny_seqItems hTI rfl ?_)
 show wpAny _ _ (Builtin.SmallTypes.ownedTupleIsFree (.ref z) >>= _) _ _ _
 refine wpAny_bind ?_
 rcases hf with rfl | ⟨T,oT,rfl,hTz,hT1,hT2,hoT⟩
 ·unfold Builtin.SmallTypes.ownedTupleIsFree
  refine wpAny_bind (wpAny_field hz rfl (x:=.none) rfl ?_)
  refine wpAny_pure ?_
  simp only[if_true]
  refine wpAny_bind (wpAny_rule ?_)
  refine wpAny_bind (wpAny_field hz rfl (x:=.ref TO) rfl ?_)
  refine wpAny_bind (wpAny_setField_rec hz (by simp) fun h₁ hz₁ hs₁=>?_)
  replace hz₁:IsZ h₁ z TI TO .ellipsis (.bool u):=hz₁
  refine wpAny_bind ?_
  simp only[List.zipIdx_cons,List.zipIdx_nil,List.forIn_cons,List.forIn_nil]
  refine wpAny_bind (wpAny_bind (wpAny_onRaise ?_))
  show wpAny _ _ (Builtin.SmallTypes.nextOf (.ref i1) >>= _) _ _ _
  refine wpAny_bind (cz (h1.at fun o e=>hs₁.extBut _ _ D.i1z e) (hl1.at fun o e=>hs₁.extBut _ _ D.l1z e) hx fun h₂ h1₂ hs₂=>wpAny_pure ?_)
  have hTO₂:IsPair h₂ TO a b:=hs₂.extBut _ _ D.TOi1 (hs₁.extBut _ _ D.TOz hTO)
  refine wpAny_bind (wpAny_seqItems hTO₂ rfl ?_)
  refine wpAny_bind (wpAny_updateSeq_pair hTO₂ fun h₃ hTO₃ hs₃=>?_)
  replace hTO₃:IsPair h₃ TO x b:=hTO₃
  refine wpAny_bind (wpAny_letGo (wpAny_pure ?_))
  refine wpAny_bind (wpAny_bind (wpAny_onRaise ?_))
  show wpAny _ _ (Builtin.SmallTypes.nextOf (.ref i2) >>= _) _ _ _
  refine wpAny_bind (cz (((h2.at fun o e=>hs₁.extBut _ _ D.i2z e).at fun o e=>hs₂.extBut _ _ D.i12.symm e).at fun o e=>hs₃.extBut _ _ D.TOi2.symm e)
   (((hl2.at fun o e=>hs₁.extBut _ _ D.l2z e).at fun o e=>hs₂.extBut _ _ D.l2i1 e).at fun o e=>hs₃.extBut _ _ D.l2TO e) hy fun h₄ h2₄ hs₄=>wpAny_pure ?_)
  have hTO₄:IsPair h₄ TO x b:=hs₄.extBut _ _ D.TOi2 hTO₃
  refine wpAny_bind (wpAny_seqItems hTO₄ rfl ?_)
  refine wpAny_bind (wpAny_updateSeq_pair hTO₄ fun h₅ hTO₅ hs₅=>?_)
  replace hTO₅:IsPair h₅ TO x y:=hTO₅
  refine wpAny_bind (wpAny_letGo (wpAny_pure (wpAny_pure ?_)))
  refine wpAny_bind (wpAny_seqItems hTO₅ rfl ?_)
  refine wpAny_bind (wpAny_newTuple ?_)
  have hsz:h₅.objs.size=s.heap.objs.size:=by rw[hs₅.1,hs₄.1,hs₃.1,hs₂.1,hs₁.1]
  have hz₅:IsZ h₅ z TI TO .ellipsis (.bool u):=hs₅.extBut _ _ D.TOz.symm (hs₄.extBut _ _ D.i2z.symm (hs₃.extBut _ _ D.TOz.symm (hs₂.extBut _ _ D.i1z.symm hz₁)))
  have hk₅:∀ c o,c≠z→c≠TO→c≠i1→c≠i2→s.heap.get? c=some o→h₅.get? c=some o:=fun c o c1 c2 c3 c4 e =>
   hs₅.extBut _ _ c2 (hs₄.extBut _ _ c4 (hs₃.extBut _ _ c2 (hs₂.extBut _ _ c3 (hs₁.extBut _ _ c1 e))))
  have h1₅:SIt h₅ b1 i1 l1 (k1+1):=((h1₂.at fun o e=>hs₃.extBut _ _ D.TOi1.symm e).at fun o e=>hs₄.extBut _ _ D.i12 e).at fun o e=>hs₅.extBut _ _ D.TOi1.symm e
  have h2₅:SIt h₅ b2 i2 l2 (k2+1):=h2₄.at fun o e=>hs₅.extBut _ _ D.TOi2.symm e
  have hzlt:z < h₅.objs.size:=Heap.lt_size hz₅
  show wpAny _ _ (Builtin.SmallTypes.ownedTupleHandOut (.ref z) (.ref h₅.objs.size) >>= _) _ _ _
  refine wpAny_bind ?_
  unfold Builtin.SmallTypes.ownedTupleHandOut
  have hz₆:IsZ (h₅.push { cls:=.type "tuple",data:=.seq #[x,y] }) z TI TO .ellipsis (.bool u):=Heap.get?_push_of_some _ hz₅
  refine wpAny_bind (wpAny_setField_rec hz₆ (by simp) fun h₇ hz₇ hs₇=>?_)
  replace hz₇:IsZ h₇ z TI TO (rawInt h₅.objs.size) (.bool u):=hz₇
  refine wpAny_setField_rec hz₇ (by simp) fun h₈ hz₈ hs₈=>?_
  replace hz₈:IsZ h₈ z TI TO (rawInt h₅.objs.size) (.bool false):=hz₈
  have up:∀ c o,c≠z→h₅.get? c=some o→h₈.get? c=some o:=fun c o c1 e=>hs₈.extBut _ _ c1 (hs₇.extBut _ _ c1 (Heap.get?_push_of_some _ e))
  have hT₈:IsPair h₈ h₅.objs.size x y:=hs₈.extBut _ _ (Nat.ne_of_gt hzlt) (hs₇.extBut _ _ (Nat.ne_of_gt hzlt) (Heap.get?_push_size _ rfl))
  have hz8:h₈.objs.size=h₅.objs.size+1:=by rw[hs₈.1,hs₇.1,Heap.size_push]
  rw[hsz]at hz₈ hT₈ hz8
  refine wpAny_pure ⟨_,rfl,?_⟩
  show Q (.ref h₅.objs.size) _
  rw[hsz]
  exact hQ h₈ _ _ hz₈ (.inl rfl) (fun _=>rfl) ⟨_,_,up _ _ D.TOz hTO₅⟩ (h1₅.at fun o e=>up _ o D.i1z e) (h2₅.at fun o e=>up _ o D.i2z e) hT₈ hz8 fun c o c1 c2 c3 c4 e=>up c o c1 (hk₅ c o c1 c2 c3 c4 e)
 ·refine iM hz hoT fun h₁ hz₁ hs₁=>?_
  simp only[Bool.false_eq_true,if_false]
  refine wpAny_bind ?_
  simp only[List.forIn_toArray,List.forIn_cons,List.forIn_nil]
  refine wpAny_bind (wpAny_bind (wpAny_holding ?_))
  show wpAny _ _ (Builtin.SmallTypes.nextOf (.ref i1) >>= _) _ _ _
  refine wpAny_bind (cz (h1.at fun o e=>hs₁.extBut _ _ D.i1z e) (hl1.at fun o e=>hs₁.extBut _ _ D.l1z e) hx fun h₂ h1₂ hs₂=>wpAny_pure ?_)
  refine wpAny_pure ?_
  refine wpAny_bind (wpAny_bind (wpAny_holding ?_))
  show wpAny _ _ (Builtin.SmallTypes.nextOf (.ref i2) >>= _) _ _ _
  refine wpAny_bind (cz ((h2.at fun o e=>hs₁.extBut _ _ D.i2z e).at fun o e=>hs₂.extBut _ _ D.i12.symm e)
   ((hl2.at fun o e=>hs₁.extBut _ _ D.l2z e).at fun o e=>hs₂.extBut _ _ D.l2i1 e) hy fun h₃ h2₃ hs₃=>wpAny_pure ?_)
  refine wpAny_pure (wpAny_pure ?_)
  refine wpAny_bind (wpAny_newTuple (hsz:=by show 2≤sizeLine;decide) (wpAny_pure ⟨_,rfl,?_⟩))
  have hsz:h₃.objs.size=s.heap.objs.size:=by rw[hs₃.1,hs₂.1,hs₁.1]
  have hk:∀ c o,c≠z→c≠i1→c≠i2→s.heap.get? c=some o→(h₃.push { cls:=.type "tuple",data:=.seq #[x,y] }).get? c=some o:=fun c o c1 c3 c4 e =>
   Heap.get?_push_of_some _ (hs₃.extBut _ _ c4 (hs₂.extBut _ _ c3 (hs₁.extBut _ _ c1 e)))
  have hz₃:IsZ (h₃.push { cls:=.type "tuple",data:=.seq #[x,y] }) z TI TO (rawInt T) (.bool true):=Heap.get?_push_of_some _ (hs₃.extBut _ _ D.i2z.symm (hs₂.extBut _ _ D.i1z.symm hz₁))
  have hT:IsPair (h₃.push { cls:=.type "tuple",data:=.seq #[x,y] }) s.heap.objs.size x y:=by rw[← hsz];exact Heap.get?_push_size _ rfl
  show Q (.ref h₃.objs.size) _
  rw[hsz]
  exact hQ _ _ _ hz₃ (.inr ⟨rfl,by intro q;cases q⟩) (fun q=>by cases q) ⟨_,_,hk _ _ D.TOz D.TOi1 D.TOi2 hTO⟩ ((h1₂.at fun o e=>hs₃.extBut _ _ D.i12 e).at fun o e=>Heap.get?_push_of_some _ e) (h2₃.at fun o e=>Heap.get?_push_of_some _ e) hT
   (by rw[Heap.size_push,hsz]) fun c o c1 _ c3 c4 e=>hk c o c1 c3 c4 e
theorem tF {z TI TO i1 i2 l1 l2:Addr}{b1 b2:Bool}{k1 k2:Nat}{xs ys:Array Value}{f0 a b:Value}{u:Bool}{Q:Fin→Shared→Prop}(hh:A.handled=none)(D:ZipApart z TI TO i1 i2 l1 l2)
  (hz:IsZ s.heap z TI TO f0 (.bool u)) (hf:f0=.none∨∃ (T:Addr) (o:Obj),f0=rawInt T∧T≠z∧T≠i1∧T≠i2∧s.heap.get? T=some o) (hTI:IsPair s.heap TI (.ref i1) (.ref i2)) (hTO:IsPair s.heap TO a b)
  (h1:SIt s.heap b1 i1 l1 k1) (h2:SIt s.heap b2 i2 l2 k2) (hl1:SOb s.heap b1 l1 xs) (hl2:SOb s.heap b2 l2 ys) (hend:xs[k1]?=none∨ys[k2]?=none)
  (hE:∀ h' e,(∀ c o,c≠z→c≠TO→c≠i1→c≠i2→s.heap.get? c=some o→h'.get? c=some o)→(∃ o,h'.get? e=some o∧o.cls=.type "StopIteration")→E (.ref e) { s with heap:=h' }) :
  wpAny (model prog w) A (Builtin.«zip.__next__» ⟨[.ref z],[]⟩) Q E s:=by
 show wpAny _ _ (field (.ref z) 2 >>= _) _ _ _
 refine wpAny_bind (wpAny_field hz rfl (x:=.bool false) rfl ?_)
 show wpAny _ _ (field (.ref z) 3 >>= _) _ _ _
 refine wpAny_bind (wpAny_field hz rfl (x:=.ref TI) rfl ?_)
 refine wpAny_bind (wpAny_seqItems hTI rfl ?_)
 show wpAny _ _ (Builtin.SmallTypes.ownedTupleIsFree (.ref z) >>= _) _ _ _
 refine wpAny_bind ?_
 rcases hf with rfl | ⟨T,oT,rfl,hTz,hT1,hT2,hoT⟩
 ·unfold Builtin.SmallTypes.ownedTupleIsFree
  refine wpAny_bind (wpAny_field hz rfl (x:=.none) rfl ?_)
  refine wpAny_pure ?_
  simp only[if_true]
  refine wpAny_bind (wpAny_rule ?_)
  refine wpAny_bind (wpAny_field hz rfl (x:=.ref TO) rfl ?_)
  refine wpAny_bind (wpAny_setField_rec hz (by simp) fun h₁ hz₁ hs₁=>?_)
  replace hz₁:IsZ h₁ z TI TO .ellipsis (.bool u):=hz₁
  refine wpAny_bind ?_
  simp only[List.zipIdx_cons,List.zipIdx_nil,List.forIn_cons,List.forIn_nil]
  refine wpAny_bind (wpAny_bind (wpAny_onRaise ?_))
  show wpAny _ _ (Builtin.SmallTypes.nextOf (.ref i1) >>= _) _ _ _
  cases hx:xs[k1]? with
  | none =>
   refine wpAny_bind (fA hh (h1.at fun o e=>hs₁.extBut _ _ D.i1z e) (hl1.at fun o e=>hs₁.extBut _ _ D.l1z e) hx fun h₂ e hs₂ he=>?_)
   obtain⟨oe,hoe,hce⟩:=he
   have hz₂:IsZ h₂ z TI TO .ellipsis (.bool u):=hs₂ _ _ D.i1z.symm hz₁
   have hez:e≠z:=fun x=>by subst x;rw[hz₂]at hoe;cases hoe;simp at hce
   refine wpAny_setField_rec hz₂ (by simp) fun h₃ _ hs₃=>hE h₃ e (fun c o c1 _ c3 _ x=>hs₃.extBut _ _ c1 (hs₂ _ _ c3 (hs₁.extBut _ _ c1 x))) ⟨oe,hs₃.extBut _ _ hez hoe,hce⟩
  | some x =>
   have hy:ys[k2]?=none:=by rcases hend with h | h;rw[hx]at h;cases h;exact h
   refine wpAny_bind (cz (h1.at fun o e=>hs₁.extBut _ _ D.i1z e) (hl1.at fun o e=>hs₁.extBut _ _ D.l1z e) hx fun h₂ h1₂ hs₂=>wpAny_pure ?_)
   have hTO₂:IsPair h₂ TO a b:=hs₂.extBut _ _ D.TOi1 (hs₁.extBut _ _ D.TOz hTO)
   refine wpAny_bind (wpAny_seqItems hTO₂ rfl ?_)
   refine wpAny_bind (wpAny_updateSeq_pair hTO₂ fun h₃ hTO₃ hs₃=>?_)
   refine wpAny_bind (wpAny_letGo (wpAny_pure ?_))
   refine wpAny_bind (wpAny_bind (wpAny_onRaise ?_))
   show wpAny _ _ (Builtin.SmallTypes.nextOf (.ref i2) >>= _) _ _ _
   refine wpAny_bind (fA hh (((h2.at fun o e=>hs₁.extBut _ _ D.i2z e).at fun o e=>hs₂.extBut _ _ D.i12.symm e).at fun o e=>hs₃.extBut _ _ D.TOi2.symm e)
    (((hl2.at fun o e=>hs₁.extBut _ _ D.l2z e).at fun o e=>hs₂.extBut _ _ D.l2i1 e).at fun o e=>hs₃.extBut _ _ D.l2TO e) hy fun h₄ e hs₄ he=>?_)
   obtain⟨oe,hoe,hce⟩:=he
   have hz₄:IsZ h₄ z TI TO .ellipsis (.bool u):=hs₄ _ _ D.i2z.symm (hs₃.extBut _ _ D.TOz.symm (hs₂.extBut _ _ D.i1z.symm hz₁))
   have hez:e≠z:=fun x=>by subst x;rw[hz₄]at hoe;cases hoe;simp at hce
   refine wpAny_setField_rec hz₄ (by simp) fun h₅ _ hs₅=>hE h₅ e (fun c o c1 c2 c3 c4 x=>hs₅.extBut _ _ c1 (hs₄ _ _ c4 (hs₃.extBut _ _ c2 (hs₂.extBut _ _ c3 (hs₁.extBut _ _ c1 x))))) ⟨oe,hs₅.extBut _ _ hez hoe,hce⟩
 ·refine iM hz hoT fun h₁ hz₁ hs₁=>?_
  simp only[Bool.false_eq_true,if_false]
  refine wpAny_bind ?_
  simp only[List.forIn_toArray,List.forIn_cons,List.forIn_nil]
  refine wpAny_bind (wpAny_bind (wpAny_holding ?_))
  show wpAny _ _ (Builtin.SmallTypes.nextOf (.ref i1) >>= _) _ _ _
  cases hx:xs[k1]? with
  | none =>
   refine wpAny_bind (fA hh (h1.at fun o e=>hs₁.extBut _ _ D.i1z e) (hl1.at fun o e=>hs₁.extBut _ _ D.l1z e) hx fun h₂ e hs₂ he=>?_)
   exact hE h₂ e (fun c o c1 _ c3 _ x=>hs₂ _ _ c3 (hs₁.extBut _ _ c1 x)) he
  | some x =>
   have hy:ys[k2]?=none:=by rcases hend with h | h;rw[hx]at h;cases h;exact h
   refine wpAny_bind (cz (h1.at fun o e=>hs₁.extBut _ _ D.i1z e) (hl1.at fun o e=>hs₁.extBut _ _ D.l1z e) hx fun h₂ h1₂ hs₂=>wpAny_pure ?_)
   refine wpAny_pure ?_
   refine wpAny_bind (wpAny_bind (wpAny_holding ?_))
   show wpAny _ _ (Builtin.SmallTypes.nextOf (.ref i2) >>= _) _ _ _
   refine wpAny_bind (fA hh ((h2.at fun o e=>hs₁.extBut _ _ D.i2z e).at fun o e=>hs₂.extBut _ _ D.i12.symm e)
    ((hl2.at fun o e=>hs₁.extBut _ _ D.l2z e).at fun o e=>hs₂.extBut _ _ D.l2i1 e) hy fun h₄ e hs₄ he=>?_)
   exact hE h₄ e (fun c o c1 _ c3 c4 x=>hs₄ _ _ c4 (hs₂.extBut _ _ c3 (hs₁.extBut _ _ c1 x))) he
structure Zs (h:Heap)(z TI TO i1 i2 l1 l2:Addr)(b1 b2:Bool)(k:Nat)(f0:Value):Prop where
 z:∃ u,IsZ h z TI TO f0 (.bool u)
 ti:IsPair h TI (.ref i1) (.ref i2)
 to:∃ a b,IsPair h TO a b
 h1:SIt h b1 i1 l1 k
 h2:SIt h b2 i2 l2 k
theorem Zs.at {h h':Heap}{z TI TO i1 i2 l1 l2:Addr}{b1 b2:Bool}{k:Nat}{f0:Value}(x:Zs h z TI TO i1 i2 l1 l2 b1 b2 k f0)(f:∀ b∈[z,TI,TO,i1,i2],∀ o,h.get? b=some o→h'.get? b=some o):Zs h' z TI TO i1 i2 l1 l2 b1 b2 k f0:=by
 obtain⟨⟨u,e1⟩,e2,⟨a,b,e3⟩,e4,e5⟩:=x
 exact⟨⟨u,f z (by simp) _ e1⟩,f TI (by simp) _ e2,⟨a,b,f TO (by simp) _ e3⟩,e4.at fun o e=>f i1 (by simp) o e,e5.at fun o e=>f i2 (by simp) o e⟩
theorem qU {z TI TO i1 i2 l1 l2:Addr}{b1 b2:Bool}{k:Nat}{xs ys:Array Value}{f0 x y:Value}{Q:Option Value→Shared→Prop}(D:ZipApart z TI TO i1 i2 l1 l2)
  (hz:Zs s.heap z TI TO i1 i2 l1 l2 b1 b2 k f0) (hf:f0=.none∨∃ (T:Addr) (o:Obj),f0=rawInt T∧T≠z∧T≠i1∧T≠i2∧s.heap.get? T=some o)
  (hl1:SOb s.heap b1 l1 xs) (hl2:SOb s.heap b2 l2 ys) (hx:xs[k]?=some x) (hy:ys[k]?=some y)
  (hQ:∀ h' g0,Zs h' z TI TO i1 i2 l1 l2 b1 b2 (k+1) g0→(g0=rawInt s.heap.objs.size∨g0=f0∧f0≠.none)→(f0=.none→g0=rawInt s.heap.objs.size)→IsPair h' s.heap.objs.size x y→h'.objs.size=s.heap.objs.size+1 →
   (∀ c o,c≠z→c≠TO→c≠i1→c≠i2→s.heap.get? c=some o→h'.get? c=some o)→Q (some (.ref s.heap.objs.size)) { s with heap:=h' }) :
  wpAny (model prog w) A (pyNext (.ref z)) Q E s:=by
 obtain⟨⟨u,e1⟩,e2,⟨a,b,e3⟩,e4,e5⟩:=hz
 have hT:s.TypeIs (.ref z) "zip" := ⟨_,e1,rfl⟩
 unfold pyNext
 exact wpAny_bind (wpAny_attempt (wpAny_callSpecial?_slot (name:=Str.ofString "__next__") hT F.slot_zip_next
  (wpAny_call_entry F.slot_zip_next hT F.entry_zip_next
   (qT D e1 hf e2 e3 e4 e5 hl1 hl2 hx hy fun h' g0 g1 a1 a2 a2' a3 a4 a5 a6 a7 a8=>wpAny_pure (hQ h' g0 ⟨⟨g1,a1⟩,a8 _ _ D.TIz D.TITO D.TIi1 D.TIi2 e2,a3,a4,a5⟩ a2 a2' a6 a7 a8)) (F.args_zip_next_1 _))))
theorem qV {z TI TO i1 i2 l1 l2:Addr}{b1 b2:Bool}{k:Nat}{xs ys:Array Value}{f0:Value}{Q:Option Value→Shared→Prop}(hh:A.handled=none)(D:ZipApart z TI TO i1 i2 l1 l2)
  (hz:Zs s.heap z TI TO i1 i2 l1 l2 b1 b2 k f0) (hf:f0=.none∨∃ (T:Addr) (o:Obj),f0=rawInt T∧T≠z∧T≠i1∧T≠i2∧s.heap.get? T=some o)
  (hl1:SOb s.heap b1 l1 xs) (hl2:SOb s.heap b2 l2 ys) (hend:xs[k]?=none∨ys[k]?=none)
  (hQ:∀ h',(∀ c o,c≠z→c≠TO→c≠i1→c≠i2→s.heap.get? c=some o→h'.get? c=some o)→Q none { s with heap:=h' }):wpAny (model prog w) A (pyNext (.ref z)) Q E s:=by
 obtain⟨⟨u,e1⟩,e2,⟨a,b,e3⟩,e4,e5⟩:=hz
 have hT:s.TypeIs (.ref z) "zip" := ⟨_,e1,rfl⟩
 unfold pyNext
 refine wpAny_bind (wpAny_attempt (wpAny_callSpecial?_slot (name:=Str.ofString "__next__") hT F.slot_zip_next
  (wpAny_call_entry F.slot_zip_next hT F.entry_zip_next (tF hh D e1 hf e2 e3 e4 e5 hl1 hl2 hend fun h' e hk he=>?_) (F.args_zip_next_1 _))))
 obtain⟨o,ho,hc⟩:=he
 refine wpAny_bind (wpAny_isInstance (T := "StopIteration") (b:=true) ⟨o,ho,hc⟩ isSubtype_stop ?_)
 exact wpAny_pure (hQ _ hk)
theorem vf {elts:List Expr}{x1}{pos:Pos}{z TI TO i1 i2 l1 l2 T:Addr}{b1 b2:Bool}{k:Nat}{Q:Unit→Shared→Prop}(hz:Zs s.heap z TI TO i1 i2 l1 l2 b1 b2 k (rawInt T))(D:ZipApart z TI TO i1 i2 l1 l2)
  (hQ:∀ h',Zs h' z TI TO i1 i2 l1 l2 b1 b2 k .none→Heap.SameBut z s.heap h'→Q () { s with heap:=h' }) :
  wpAny (model prog w) A (letOwnedTupleGo (.Tuple elts x1 pos) (.ref z) (.ref T)) Q E s:=by
 obtain⟨⟨u,e1⟩,e2,⟨a,b,e3⟩,e4,e5⟩:=hz
 unfold letOwnedTupleGo
 refine wpAny_bind (wpAny_load e1 ?_)
 show wpAny _ _ (if (["enumerate","zip","dict_itemiterator","dict_reverseitemiterator","odict_iterator","itertools.zip_longest","itertools.pairwise"].contains "zip" &&
   (#[rawInt T,.bool u,.bool false,.ref TI,.ref TO]:Array Value)[0]?==some (rawInt T))=true then _ else _) Q E s
 rw[if_pos (by simp)]
 refine wpAny_bind (wpAny_rule ?_)
 show wpAny _ _ (setField (.ref z) 0 .none) Q E s
 exact wpAny_setField_rec e1 (by simp) fun h' hz' hs'=>hQ h' ⟨⟨u,hz'⟩,hs'.extBut _ _ D.TIz e2,⟨a,b,hs'.extBut _ _ D.TOz e3⟩,e4.at fun o e=>hs'.extBut _ _ D.i1z e,e5.at fun o e=>hs'.extBut _ _ D.i2z e⟩ hs'
theorem ly {z TI TO i1 i2 l1 l2:Addr}{b1 b2:Bool}{k:Nat}{f0:Value}{Q:Value→Shared→Prop}(hz:Zs s.heap z TI TO i1 i2 l1 l2 b1 b2 k f0)(h:Q (.ref z) s):wpAny (model prog w) A (pyIter (.ref z)) Q E s:=by
 obtain⟨⟨u,e1⟩,_⟩:=hz
 have hT:s.TypeIs (.ref z) "zip" := ⟨_,e1,rfl⟩
 refine wpAny_pyIter_slot hT F.slot_zip_iter (wpAny_call_entry F.slot_zip_iter hT F.entry_zip_iter ?_ (F.args_zip_iter_1 _))
 show wpAny _ _ (ret (.ref z)) _ _ s
 exact wpAny_pure ⟨_,rfl,"zip",_,hT,F.slot_zip_next.lookup,h⟩
abbrev zH1 (h:Heap)(b1:Bool)(l1:Addr):Heap:=h.push (itOb b1 l1)
abbrev zH2 (h:Heap)(b1 b2:Bool)(l1 l2:Addr):Heap:=(zH1 h b1 l1).push (itOb b2 l2)
abbrev zH3 (h:Heap)(b1 b2:Bool)(l1 l2:Addr):Heap:=(zH2 h b1 b2 l1 l2).push { cls:=.type "tuple",data:=.seq #[.ref h.objs.size,.ref (zH1 h b1 l1).objs.size] }
abbrev zH4 (h:Heap)(b1 b2:Bool)(l1 l2:Addr):Heap:=(zH3 h b1 b2 l1 l2).push { cls:=.type "tuple",data:=.seq #[.none,.none] }
abbrev zH5 (h:Heap)(b1 b2:Bool)(l1 l2:Addr):Heap:=(zH4 h b1 b2 l1 l2).push { cls:=.type "zip",data:=.fields #[.none,.bool false,.bool false,.ref (zH2 h b1 b2 l1 l2).objs.size,.ref (zH3 h b1 b2 l1 l2).objs.size] }
theorem oK (b1 b2:Bool)(l1 l2:Addr)(xs ys:Array Value) :
  Meets (Builtin.«zip.__new__» ⟨[.type "zip",.ref l1,.ref l2],[]⟩) (fun _ R s=>SOb s.heap b1 l1 xs∧SOb s.heap b2 l2 ys ∧
   R (.ok (.ret (.ref (zH4 s.heap b1 b2 l1 l2).objs.size))) { s with heap:=zH5 s.heap b1 b2 l1 l2 }) :=
 .of_wp fun prog w A R s h=>by
  obtain⟨hp,g,d,tk,os⟩:=s;obtain⟨hl1,hl2,h⟩:=h
  have hsub:=sub_zip
  have hL1:SOb (Shared.heap ⟨hp,g,d,tk,os⟩) b1 l1 xs:=hl1
  have hL2:SOb (Shared.heap ⟨hp.push (itOb b1 l1),g,d,tk,os⟩) b2 l2 ys:=hl2.at fun o e=>Heap.get?_push_of_some _ e
  wp_walk using nF hL1,nF hL2
  exact⟨_,rfl,h⟩
theorem qW {b1 b2:Bool}{l1 l2:Addr}{xs ys:Array Value}{Q:Value→Shared→Prop}(hl1:SOb s.heap b1 l1 xs)(hl2:SOb s.heap b2 l2 ys)
  (h:∀ h',Zs h' (s.heap.objs.size+4) (s.heap.objs.size+2) (s.heap.objs.size+3) s.heap.objs.size (s.heap.objs.size+1) l1 l2 b1 b2 0 .none→(∀ c o,s.heap.get? c=some o→h'.get? c=some o)→Q (.ref (s.heap.objs.size+4)) { s with heap:=h' }) :
  wpAny (model prog w) A (call (.type "zip") [.ref l1,.ref l2]) Q E s:=by
 refine callType_new F.called_zip (by decide) (F.typeCall_zip_2 _ _) (F.newCall_zip_2 _ _) (fun obj=>F.args_object_init_3 obj _ _) F.entry_zip_new
  (oK b1 b2 l1 l2 xs ys) ⟨hl1,hl2,?_⟩
 have z1:(zH1 s.heap b1 l1).objs.size=s.heap.objs.size+1:=Heap.size_push ..
 have z2:(zH2 s.heap b1 b2 l1 l2).objs.size=s.heap.objs.size+2:=by rw[Heap.size_push,z1]
 have z3:(zH3 s.heap b1 b2 l1 l2).objs.size=s.heap.objs.size+3:=by rw[Heap.size_push,z2]
 have z4:(zH4 s.heap b1 b2 l1 l2).objs.size=s.heap.objs.size+4:=by rw[Heap.size_push,z3]
 have g5:(zH5 s.heap b1 b2 l1 l2).get? (zH4 s.heap b1 b2 l1 l2).objs.size=some _:=Heap.get?_push_size _ rfl
 have g4:(zH5 s.heap b1 b2 l1 l2).get? (zH3 s.heap b1 b2 l1 l2).objs.size=some _:=Heap.get?_push_of_some _ (Heap.get?_push_size _ rfl)
 have g3:(zH5 s.heap b1 b2 l1 l2).get? (zH2 s.heap b1 b2 l1 l2).objs.size=some _:=Heap.get?_push_of_some _ (Heap.get?_push_of_some _ (Heap.get?_push_size _ rfl))
 have g2:(zH5 s.heap b1 b2 l1 l2).get? (zH1 s.heap b1 l1).objs.size=some (itOb b2 l2):=Heap.get?_push_of_some _ (Heap.get?_push_of_some _ (Heap.get?_push_of_some _ (Heap.get?_push_size _ rfl)))
 have g1:(zH5 s.heap b1 b2 l1 l2).get? s.heap.objs.size=some (itOb b1 l1):=Heap.get?_push_of_some _ (Heap.get?_push_of_some _ (Heap.get?_push_of_some _ (Heap.get?_push_of_some _ (Heap.get?_push_size _ rfl))))
 have mk:∀ {h:Heap} {b:Bool} {it a:Addr},h.get? it=some (itOb b a)→SIt h b it a 0:=fun {h b it a} e=>by cases b<;>exact⟨_,e,rfl,rfl⟩
 show _∧_
 rw[z2,z3,z4]at g5
 rw[z1,z2]at g3
 rw[z3]at g4
 rw[z1]at g2
 rw[z4]
 exact⟨⟨_,g5,rfl⟩,h _ ⟨⟨false,g5⟩,g3,⟨_,_,g4⟩,mk g1,mk g2⟩ fun c o x =>
  Heap.get?_push_of_some _ (Heap.get?_push_of_some _ (Heap.get?_push_of_some _ (Heap.get?_push_of_some _ (Heap.get?_push_of_some _ x))))⟩
end
end FF
end
noncomputable section
namespace FF
open PySem PySem.Spec PyProof.Rows L2
section
variable {X:Cx}{pins:List (Addr×Obj)}{σ:St}{H:Hp}{s:Shared}{h':Heap}
theorem lz {h:Heap}{b:Addr}{o x:Obj}(q:b≠h.objs.size)(e:(h.push x).get? b=some o):h.get? b=some o:=by
 rcases Heap.get?_push_cases e with ⟨z,_⟩ | z
 ·exact absurd z q
 ·exact z
theorem turnedL {t':Nat}{fp:List Addr}(I:Inv X pins σ H s)(hf:∀ b∈fp,FpOk X pins H b)(k:∀ b o,b∉fp→s.heap.get? b=some o→h'.get? b=some o):Inv X pins σ H { s with heap:=h',toks:=t' }:=by
 have nit:∀ b u,H b=some u→b∉fp:=fun b u e z=>by rw[(hf b z).1]at e;cases e
 refine I.step (g':=s.gens) (d':=s.drawn) (ch:=fp) (fun b hb=>?_) (fun b o _ _ hc e _=>k b o hc e) (fun b o _ _ hc e _=>⟨o.slots,k b o hc e⟩) (fun _ _ _ _ n=>n)
  (fun b o hc e=>⟨o,k b o hc e⟩) (fun _ _ e=>e) (fun _ _ _ e=>e) (fun b ps e=>⟨#[],by rw[e];simp⟩) (fun m hm=>?_) (fun b u e=>?_) I.bare
 ·obtain⟨_,f1,f2,f3,f4,f5⟩:=hf b hb
  exact⟨f3,f1,f4,f5⟩
 ·obtain⟨o,es,ep,ho,r⟩:=hm
  exact⟨o,es,ep,k _ o (fun z=>(hf _ z).2.1 rfl) ho,r⟩
 ·refine(I.hok b u e).stay (fun c v hc q=>k c v ?_ q) (fun _ q=>q) fun _ _ q=>q
  rcases hc with z | z
  ·rw[z];exact nit b u e
  ·exact nit c _ z
theorem turnedP {t':Nat}{fp:List Addr}{x y:V}{u v:Value}(I:Inv X pins σ H s)(hf:∀ b∈fp,FpOk X pins H b)(hlt:∀ b∈fp,b≠s.heap.objs.size)(rx:RelV x u)(ry:RelV y v)(hp:IsPair h' s.heap.objs.size u v)
  (k:∀ b o,b∉fp→s.heap.get? b=some o→h'.get? b=some o):Inv X pins σ (upd H s.heap.objs.size (.tup [x,y])) { s with heap:=h',toks:=t' }:=by
 have I1:Inv X pins σ (upd H s.heap.objs.size (.tup [x,y])) { s with heap:=s.heap.push { cls:=.type "tuple",data:=.seq #[u,v] },toks:=s.toks }:=by
  refine I.laid (t':=s.toks) (fun b u e=>Heap.get?_push_of_some _ e) (Nat.le_refl _) ?_
  exact⟨by show 2≤sizeLine;decide,[u,v],.cons rx (.cons ry .nil),TupO.new _ _⟩
 refine turnedL (s:={ s with heap:=s.heap.push { cls:=.type "tuple",data:=.seq #[u,v] },toks:=s.toks }) (fp:=fp) (t':=t') I1 (fun b hb=>?_) fun b o hb e=>?_
 ·obtain⟨f0,f1⟩:=hf b hb
  exact⟨by rw[al (hlt b hb)];exact f0,f1⟩
 ·by_cases q:b=s.heap.objs.size
  ·subst q
   have e':some _=some o:=(Heap.get?_push_size s.heap (o:={ cls:=.type "tuple",data:=.seq #[u,v] }) rfl).symm.trans e
   cases e'
   exact hp
  ·have e':s.heap.get? b=some o:=by
    exact lz q e
   exact k b o hb e'
end
def SqB (K:PySem.W.Frag)(H:Hp)(b:Bool)(a:Addr)(xs:List V):Prop:=if b=true then SqT K H a xs else SqL K H a xs
theorem gq {X:Cx}{pins:List (Addr×Obj)}{σ:St}{H:Hp}{s:Shared}{b:Bool}{a:Addr}{xs:List V}(I:Inv X pins σ H s)(h:SqB X.K H b a xs):∃ its:List Value,Vals xs its∧SOb s.heap b a its.toArray∧xs.length≤sizeLine:=by
 cases b with
 | true =>
  obtain⟨its,rv,p,hz⟩:=I.tuple h
  exact⟨its,rv,p,hz⟩
 | false =>
  obtain⟨its,rv,p,hz⟩:=I.list h
  exact⟨its,rv,p.isList,hz⟩
theorem qX {X:Cx}{pins:List (Addr×Obj)}{σ:St}{H:Hp}{s:Shared}{b:Bool}{a:Addr}{xs ys:List V}(I:Inv X pins σ H s)(h:SqB X.K H b a xs)(h':SqB X.K H b a ys):xs=ys:=by
 cases b with
 | true=>exact I.tuple_inj h h'
 | false=>exact I.list_inj h h'
theorem SqB.mono {K:PySem.W.Frag}{Z H:Hp}{b:Bool}{a:Addr}{xs:List V}(h:SqB K Z b a xs)(z:Same Z H):SqB K H b a xs:=by
 cases b with
 | true=>exact(show SqT K Z a xs from h).mono z
 | false=>exact z.seq h
theorem mE {K:PySem.W.Frag}{C:Nat→Addr}{Z:Hp}{d:D}{ds:List D}{v:V}(e:asSeq d=.ok ds)(r:Rep K C Z d v):∃ b a vs,v=.ref a∧SqB K Z b a vs∧Reps K C Z ds vs:=by
 cases d with
 | tup xs =>
  cases e
  rw[Rep]at r
  obtain⟨a,vs,rfl,h1,h2⟩:=r
  exact⟨true,a,vs,rfl,h1,h2⟩
 | lst xs =>
  cases e
  rw[Rep]at r
  obtain⟨a,vs,rfl,h1,h2⟩:=r
  exact⟨false,a,vs,rfl,h1,h2⟩
 | _=>cases e
def Itz (K:PySem.W.Frag)(b1 b2:Bool)(a1 a2:Addr):It :=
 ⟨fun i H=>∃ xs ys x y,SqB K H b1 a1 xs∧SqB K H b2 a2 ys∧xs[i]?=some x∧ys[i]?=some y,
  fun i H v H'=>∃ p x y,H p=none∧v=.ref p∧(∀ xs,SqB K H b1 a1 xs→xs[i]?=some x)∧(∀ ys,SqB K H b2 a2 ys→ys[i]?=some y)∧H'=upd H p (.tup [x,y]),
  fun i H=>∃ xs ys,SqB K H b1 a1 xs∧SqB K H b2 a2 ys∧(xs.length≤i∨ys.length≤i)⟩
theorem qY {P:Program}{w:World}{K:PySem.W.Frag}{elts:List Expr}{x1:Nat}{pos:Pos}{z TI TO i1 i2 a1 a2:Addr}(b1 b2:Bool)(D:ZipApart z TI TO i1 i2 a1 a2) :
  Turn P w K (.Tuple elts x1 pos) (Itz K b1 b2 a1 a2) [z,TI,TO,i1,i2] z (fun i h=>Zs h z TI TO i1 i2 a1 a2 b1 b2 i .none) where
 mem:=by simp
 obj:=fun i h st b hb=>by
  obtain⟨⟨u,e1⟩,e2,⟨p,q,e3⟩,e4,e5⟩:=st
  simp only[List.mem_cons,List.not_mem_nil,or_false]at hb
  rcases hb with rfl | rfl | rfl | rfl | rfl
  ·exact⟨_,e1,fun v z=>by have z':Data.fields _=Data.cell v:=z;cases z'⟩
  ·exact⟨_,e2,fun v z=>by have z':Data.seq _ _=Data.cell v:=z;cases z'⟩
  ·exact⟨_,e3,fun v z=>by have z':Data.seq _ _=Data.cell v:=z;cases z'⟩
  ·exact e4.lt
  ·exact e5.lt
 keep:=fun i h h' st k=>st.at k
 item:=by
  intro X hP hw hK hc i pins s σ H E I hf st hg
  subst hP hw hK
  obtain⟨xs,ys,x,y,q1,q2,hx,hy⟩:=hg
  obtain⟨is1,rv1,o1,_⟩:=gq I q1
  obtain⟨is2,rv2,o2,_⟩:=gq I q2
  obtain⟨u,hu,ru⟩:=rv1.get hx
  obtain⟨v,hv,rv⟩:=rv2.get hy
  have lt:∀ b∈[z,TI,TO,i1,i2],b≠s.heap.objs.size:=fun b hb=>by
   obtain⟨⟨u,e1⟩,e2,⟨p,q,e3⟩,e4,e5⟩:=st
   simp only[List.mem_cons,List.not_mem_nil,or_false]at hb
   rcases hb with rfl | rfl | rfl | rfl | rfl
   ·exact Nat.ne_of_lt (Heap.lt_size e1)
   ·exact Nat.ne_of_lt (Heap.lt_size e2)
   ·exact Nat.ne_of_lt (Heap.lt_size e3)
   ·obtain⟨o,ho,_⟩:=e4.lt;exact Nat.ne_of_lt (Heap.lt_size ho)
   ·obtain⟨o,ho,_⟩:=e5.lt;exact Nat.ne_of_lt (Heap.lt_size ho)
  refine qU D st (.inl rfl) o1 o2 (x:=u) (y:=v) (by simpa using hu) (by simpa using hv) fun h' g0 a1 _ a2 a3 a4 a5=>?_
  rw[a2 rfl]at a1
  refine⟨_,rfl,vf (s:={ s with heap:=h' }) a1 D fun h2 b1 b2=>?_⟩
  have k2:∀ b o,b∉[z,TI,TO,i1,i2]→s.heap.get? b=some o→h2.get? b=some o:=fun b o hb e=>by
   simp only[List.mem_cons,List.not_mem_nil,or_false,not_or]at hb
   exact b2.extBut _ _ hb.1 (a5 b o hb.1 hb.2.2.1 hb.2.2.2.1 hb.2.2.2.2 e)
  have hp2:IsPair h2 s.heap.objs.size u v:=b2.extBut _ _ (fun q=>lt z (by simp) q.symm) a3
  have I2:Inv X pins σ (upd H s.heap.objs.size (.tup [x,y])) { s with heap:=h2,toks:=s.toks }:=turnedP I hf lt ru rv hp2 k2
  exact⟨.ref s.heap.objs.size,_,I2,rfl,⟨s.heap.objs.size,x,y,I.hok.fresh (Nat.le_refl _),rfl,fun xs' q=>by rw[qX I q q1];exact hx,fun ys' q=>by rw[qX I q q2];exact hy,rfl⟩,b1,fun b hb=>by rw[al (lt b hb)];exact(hf b hb).1⟩
 done:=by
  intro X hP hw hK hc i pins s σ H E I hf st hg
  subst hP hw hK
  obtain⟨xs,ys,q1,q2,hx⟩:=hg
  obtain⟨is1,rv1,o1,_⟩:=gq I q1
  obtain⟨is2,rv2,o2,_⟩:=gq I q2
  have l1:=rv1.length
  have l2:=rv2.length
  refine qV (I.ok.hd hc) D st (.inl rfl) o1 o2 (by rcases hx with h | h;exact .inl (by simp;omega);exact .inr (by simp;omega)) fun h' hk=>⟨rfl,turnedL (t':=s.toks) I hf fun b o hb e=>?_⟩
  simp only[List.mem_cons,List.not_mem_nil,or_false,not_or]at hb
  exact hk b o hb.1 hb.2.2.1 hb.2.2.2.1 hb.2.2.2.2 e
 self:=fun _ _ _ _ _ st h=>ly st h
theorem qZ:bootBuiltins "zip"=some (.type "zip"):=by decide +kernel
theorem vg {X:Cx}{elts:List Expr}{x1:Nat}{ps p pos:Pos}{a b:Expr}{ta:TA}(hg:Gl X "zip")(hm:X.mg "zip"=none)(ha:PA X [a,b] ta)(hs:starEach [a,b] X.env=[(false,eval a X.env),(false,eval b X.env)]:=by rfl)(hs2:starEach [b] X.env=[(false,eval b X.env)]:=by rfl) :
  PI X (.Tuple elts x1 ps) (.Call (.Name "zip" p) [a,b] [] pos) (fun σ H R=>ta σ H fun vs H1=>∃ b1 b2 a1 a2,vs=[.ref a1,.ref a2]∧(∃ xs,SqB X.K H1 b1 a1 xs)∧(∃ ys,SqB X.K H1 b2 a2 ys)∧R (Itz X.K b1 b2 a1 a2) H1):=by
 intro pins s σ H R I h
 refine Call_ (ic I hg hm qZ (PyProof.Rows.callWith_type1 (thn (ha pos pins s σ H _ I h) fun us s1 ⟨vs,H1,I1,r1,q1⟩=>?_) (by rw[hs,hs2]) (by rw[hs2];rfl)))
 obtain⟨b1,b2,a1,a2,e,⟨xs,hx⟩,⟨ys,hy⟩,q⟩:=q1
 subst e
 cases r1 with
 | cons r rr =>
  cases rr with
  | cons r' rr =>
   cases rr
   cases r
   cases r'
   obtain⟨is1,rv1,o1,_⟩:=gq I1 hx
   obtain⟨is2,rv2,o2,_⟩:=gq I1 hy
   have lt:∀ {b:Bool} {a:Addr} {is:Array Value},SOb s1.heap b a is→a < s1.heap.objs.size:=fun {b a is} o=>by cases b<;>(obtain⟨_,e,_⟩:=o;exact Heap.lt_size e)
   have D:=zipApart_new (lt o1) (lt o2)
   refine qW o1 o2 fun h' zs hk=>ly (s:={ s1 with heap:=h' }) zs ?_
   have I2:Inv X pins σ H1 { s1 with heap:=h',toks:=s1.toks }:=I1.kept hk
   refine⟨_,_,_,_,H1,rfl,I2,qY b1 b2 D,zs,fun c hc=>?_,q⟩
   have hb:s1.heap.objs.size≤c:=by
    simp only[List.mem_cons,List.not_mem_nil,or_false]at hc
    rcases hc with rfl | rfl | rfl | rfl | rfl
    ·exact Nat.le_add_right _ _
    ·exact Nat.le_add_right _ _
    ·exact Nat.le_add_right _ _
    ·exact Nat.le_refl _
    ·exact Nat.le_add_right _ _
   exact I1.fpOk hb (I1.hok.fresh hb)
theorem lA:∀ {xs ys:List D} {i:Nat} {x y:D},xs[i]?=some x→ys[i]?=some y→(zipD xs ys)[i]?=some (.tup [x,y])
 | a::xs,b::ys,0,x,y,h1,h2=>by cases h1;cases h2;rfl
 | a::xs,b::ys,i+1,x,y,h1,h2=>lA (xs:=xs) (ys:=ys) (i:=i) (by simpa using h1) (by simpa using h2)
 | [],_,_,_,_,h1,_=>by simp at h1
 | _::_,[],_,_,_,_,h2=>by simp at h2
theorem iO:∀ (xs ys:List D),(zipD xs ys).length=min xs.length ys.length
 | a::xs,b::ys=>by show (zipD xs ys).length+1=_;rw[iO xs ys,List.length_cons,List.length_cons];omega
 | [],ys=>by cases ys<;>simp[zipD]
 | _::_,[]=>by simp[zipD]
theorem q9 {F:Fx}{b1 b2:Bool}{a1 a2:Addr}{xs ys:List D}{vs us:List V}{Z:Hp}(h1:SqB F.K Z b1 a1 vs)(h2:SqB F.K Z b2 a2 us)(r1:Reps F.K F.C Z xs vs)(r2:Reps F.K F.C Z ys us):WalkG F (Itz F.K b1 b2 a1 a2) (zipD xs ys) Z:=fun i H Z2 z1 z2=>by
 have l:=iO xs ys
 have e1:=r1.length
 have e2:=r2.length
 refine⟨fun hi=>?_,fun hi=>⟨vs,us,h1.mono (z1.trans z2),h2.mono (z1.trans z2),by omega⟩⟩
 have hx:vs[i]?=some vs[i]:=List.getElem?_eq_getElem (by omega)
 have hy:us[i]?=some us[i]:=List.getElem?_eq_getElem (by omega)
 refine⟨⟨vs,us,_,_,h1.mono (z1.trans z2),h2.mono (z1.trans z2),hx,hy⟩,fun v H' ⟨p,x,y,hp,e,qx,qy,eH⟩=>?_⟩
 subst e;subst eH
 obtain⟨dx,f1,g1⟩:=r1.get' (qx _ (h1.mono (z1.trans z2)))
 obtain⟨dy,f2,g2⟩:=r2.get' (qy _ (h2.mono (z1.trans z2)))
 have z3:Same Z (upd Z2 p (.tup [x,y])):=z1.trans (aD (z2.free hp))
 refine⟨upd Z2 p (.tup [x,y]),.tup [dx,dy],Ex.alloc z2 hp,lA f1 f2,?_⟩
 rw[Rep]
 exact⟨p,[x,y],rfl,SqT.of ap,Reps.cons (g1.mono z3) (Reps.cons (g2.mono z3) Reps.nil)⟩
section
variable {X:Cx}{F:Fx}{a b:Expr}{ga gb:SS→R D}{k:Nat}
theorem re {S:SS}{α:Type}(f:D→D→R α):((aL [ga,gb]) S).bind (fun ds=>match ds with | [x,y]=>f x y | _=>R.stuck)=(ga S).bind fun x=>(gb S).bind fun y=>f x y:=by
 show (((ga S).bind fun d=>((gb S).bind fun d=>(R.ok []:R (List D)).bind fun ds=>R.ok (d::ds)).bind fun ds=>R.ok (d::ds))).bind _=_
 cases ga S with
 | ok x=>cases gb S<;>rfl
 | err k=>rfl
 | stuck=>rfl
theorem rf {elts:List Expr}{x1:Nat}{ps p pos:Pos}(bx:BX X F k)(hg:Gl X "zip")(hm:X.mg "zip"=none)(ha:FE X F a ga)(hb:FE X F b gb)(hs:starEach [a,b] X.env=[(false,eval a X.env),(false,eval b X.env)]:=by rfl)(hs2:starEach [b] X.env=[(false,eval b X.env)]:=by rfl) :
  FI X F (.Tuple elts x1 ps) (.Call (.Name "zip" p) [a,b] [] pos) (fun S=>(ga S).bind fun x=>(gb S).bind fun y=>dZip x y) :=
 (vg hg hm (FAL.out (aa ha (aa hb ad (hs:=by rw[hs2];rfl)) (hs:=by rw[hs,hs2]))) hs hs2).weak fun σ H Q ⟨Z,S,ok,w⟩=>by
  have w:WG F H Z ((ga S).bind fun x=>(gb S).bind fun y=>dZip x y) _:=w
  rw[← re]at w
  refine bc ok w fun ds vs H1 Z1 ok1 x1 rs w1=>?_
  obtain⟨dx,dy,rfl⟩:∃ dx dy,ds=[dx,dy]:=by
   rcases ds with _ | ⟨dx,_ | ⟨dy,_ | ⟨dz,r⟩⟩⟩
   ·exact False.elim w1
   ·exact False.elim w1
   ·exact⟨dx,dy,rfl⟩
   ·exact False.elim w1
  focus
   have w2:WG F H1 Z1 (dZip dx dy) _:=w1
   unfold dZip sq at w2
   rw[Reps]at rs
   obtain⟨v1,r,rfl,q1,rs⟩:=rs
   rw[Reps]at rs
   obtain⟨v2,r,rfl,q2,rs⟩:=rs
   rw[Reps]at rs
   subst rs
   cases e1:asSeq dx with
   | err k=>rw[e1]at w2;cases dx<;>cases e1
   | stuck=>rw[e1]at w2;exact w2.elim
   | ok xs =>
    rw[e1]at w2
    have w3:WG F H1 Z1 (R.bind (if xs.length≤16777216 then R.ok xs else R.stuck) fun xs=>((asSeq dy).bind fun ds=>if ds.length≤16777216 then R.ok ds else R.stuck).bind fun ys=>R.ok (zipD xs ys)) _:=w2
    split at w3
    ·rename_i hl1
     cases e2:asSeq dy with
     | err k=>rw[e2]at w3;cases dy<;>cases e2
     | stuck=>rw[e2]at w3;exact w3.elim
     | ok ys =>
      rw[e2]at w3
      have w4:WG F H1 Z1 (R.bind (if ys.length≤16777216 then R.ok ys else R.stuck) fun ys=>R.ok (zipD xs ys)) _:=w3
      split at w4
      ·obtain⟨b1,a1,us1,rfl,s1,t1⟩:=mE e1 q1
       obtain⟨b2,a2,us2,rfl,s2,t2⟩:=mE e2 q2
       rw[bx.K]
       exact⟨b1,b2,a1,a2,rfl,⟨us1,s1.mono ok1.sub⟩,⟨us2,s2.mono ok1.sub⟩,WG.now w4 ok1.sub _ (q9 s1 s2 t1 t2) (by rw[iO];omega)⟩
      ·exact w4.elim
    ·exact w3.elim
end
end FF
end
noncomputable section
namespace FF
open PySem PySem.Spec PyProof.Rows L2
section
variable {prog:Program}{w:World}{A:Around}{R:Result→Shared→Prop}{I S:Addr}{res:Value}{n:Nat}
end
section
variable {X:Cx}{pins:List (Addr×Obj)}{σ:St}{H1:Hp}{S z TI TO i1 i2 a1 a2:Addr}{b1 b2:Bool}{xs ys:List V}
end
section
variable {X:Cx}{F:Fx}{a b:Expr}{ga gb:SS→R D}{k:Nat}
end
end FF
end
noncomputable section
namespace FF
open PySem PySem.Spec PyProof.Rows L2
section
variable {X:Cx}{F:Fx}{e:Expr}{g:SS→R D}{k:Nat}{l:List (Str×Nat)}{x:Str}{p pos:Pos}
end
section
variable {prog:Program}{w:World}{A:Around}{E:Value→Shared→Prop}{s:Shared}
end
section
variable {X:Cx}{F:Fx}{k:Nat}{l:List (Str×Nat)}{x:Str}{p p2 pos:Pos}
end
end FF
end
noncomputable section
namespace FF
open PySem PySem.Spec PyProof.Rows L2
open AutoSeq1 (wpAny_loadPart')
section
variable {prog:Program}{w:World}{A:Around}{E:Value→Shared→Prop}{s:Shared}
end
section
variable {prog:Program}{w:World}{A:Around}{E:Value→Shared→Prop}{s:Shared}
end
section
variable {X:Cx}{F:Fx}{a:Expr}{ga:SS→R D}{k:Nat}
end
end FF
end
noncomputable section
namespace FF
open PySem PySem.Spec PyProof.Rows L2
section
variable {X:Cx}{F:Fx}{a:Expr}{ga:SS→R D}{k:Nat}{p p2 pos pos2:Pos}
end
section
variable {prog:Program}{w:World}{A:Around}{E:Value→Shared→Prop}{s:Shared}
end
section
variable {X:Cx}{F:Fx}
variable {σ:Type}{S:SS}{rest:List Stmt}{J:σ→SS→Prop}{e:Expr}{ge:SS→R D}{r:R D}{n:Nat}
end
end FF
end
noncomputable section
namespace FF
open PySem PySem.Spec PyProof.Rows L2
section
variable {X:Cx}{F:Fx}
theorem rg (i j:Nat){x y:Str}{p1 p2 tp pos pt2:Pos}{k k2:_}{n:Nat}{a b:Expr}{gs:SS→R (List D)}(bx:BX X F n)(hN:X.N.Nodup)(ha:FA X F [a,b] gs)(hi:X.N[i]?=some x:=by rfl)(hj:X.N[j]?=some y:=by rfl)
  (hx:Loc X.env.scope x:=by first | exact Or.inl rfl | exact Or.inr rfl) (hy:Loc X.env.scope y:=by first | exact Or.inl rfl | exact Or.inr rfl)
  (hfx:X.fn x=true∨X.env.scope.names.lookup x=some .local:=by first | exact .inl rfl | exact .inr rfl) (hfy:X.fn y=true∨X.env.scope.names.lookup y=some .local:=by first | exact .inl rfl | exact .inr rfl)
  (hn:(assignEach [.Name x p1,.Name y p2] X.env).length=2:=by rfl) (hst:(assignEach [.Name x p1,.Name y p2] X.env).findIdx? (·.1)=none:=by rfl)
  (hs:swapsWithSole [.Tuple [.Name x p1,.Name y p2] k tp] (.Tuple [a,b] k2 pt2) pos.line X.env=pure false:=by rfl) (hw:swappedStores [.Tuple [.Name x p1,.Name y p2] k tp] (.Tuple [a,b] k2 pt2) X.env=pure none:=by rfl)
  (h1:(assignEach [.Tuple [.Name x p1,.Name y p2] k tp] X.env).map (·.2)=[assign (.Tuple [.Name x p1,.Name y p2] k tp) X.env]:=by rfl) :
  FS X F (.Assign [.Tuple [.Name x p1,.Name y p2] k tp] (.Tuple [a,b] k2 pt2) pos) (sAsg (gTup [i,j]) (eTup gs)) :=
 tz (pZ ha) (qR [i,j] bx.calm (fj (fi hN hi hx hfx) (fj (fi hN hj hy hfy) ng)) hn hst bx.K) hs hw h1
end
def eM2 (own:Nat)(cap:List Nat)(it:SS→R (List D))(i j:Nat)(e:SS→R D):SS→R D:=fun S=>(it S).bind fun ds =>
 cMap (fun d=>un2 d fun x y=>e (((blkS own cap S).set i (some (.val x))).set j (some (.val y)))) ds
theorem nG (f:D→D→R D):∀ ds:List D,cGo (fun d=>un2 d fun _ _=>.ok true) (fun d=>un2 d f) ds=cGo (fun _=>.ok true) (fun d=>un2 d f) ds
 | []=>rfl
 | d::ds=>by
  have ih:=nG f ds
  cases d with
  | tup xs =>
   match xs with
   | [a,b] =>
    have e1:un2 (.tup [a,b]) (fun _ _=>(R.ok true:R Bool))=.ok true:=rfl
    rw[cGo,cGo,e1,ih]
   | []=>rfl
   | [_]=>rfl
   | _::_::_::_=>rfl
  | _=>rfl
theorem rh {own:Nat}{cap:List Nat}{it:SS→R (List D)}{i j:Nat}{e:SS→R D}(S:SS):eC2 own cap it i j tTrue e S=eM2 own cap it i j e S:=by
 unfold eC2 eM2
 cases it S with
 | ok ds=>exact congrArg (fun r:R (List D)=>r.bind fun ys=>R.ok (FF.D.lst ys)) (nG _ ds)
 | err k=>rfl
 | stuck=>rfl
theorem vX {X:Cx}{F:Fx}{e:Expr}{own:Nat}{cap:List Nat}{it:SS→R (List D)}{i j:Nat}{el:SS→R D}(h:FE X F e (eComp own cap it (gTup [i,j]) tTrue el)):FE X F e (eM2 own cap it i j el):=dD (vT h) fun S=>rh S
theorem vY {X:Cx}{F:Fx}{st:Stmt}{n own:Nat}{cap:List Nat}{it:SS→R (List D)}{i j:Nat}{el:SS→R D}(h:FS X F st (sSet n (eComp own cap it (gTup [i,j]) tTrue el))):FS X F st (sSet n (eM2 own cap it i j el)):=cT (vU h) fun S=>by unfold sSet;rw[rh]
end FF
end
noncomputable section
namespace FF
open PySem PySem.Spec PyProof.Rows L2
def capB (XN:List Str)(scope:Scope)(N:List Str)(own:Nat):Nat→List Nat→Bool
 | _,[]=>true
 | j,i::r=>(match N[own+j]?,XN[i]? with
  | some x,some y=>x==y&&scope.names.lookup x==some .free
  | _,_=>false)&&capB XN scope N own (j+1) r
def blkB (XN:List Str)(osc scope:Scope)(N:List Str)(own:Nat)(cap:List Nat):Bool :=
 scope.kind==.function&&(scope.names.all fun y=>scope.names.lookup y.1==some y.2)&&(scope.names.all fun y=>!(y.2==.free)||(osc.names.lookup y.1==some .cell||osc.names.lookup y.1==some .free))&&N.length==own+cap.length&&capB XN scope N own 0 cap
theorem nH {XN:List Str}{scope:Scope}{N:List Str}{own:Nat}:∀ {cap:List Nat} {k:Nat},capB XN scope N own k cap=true→∀ j i,cap[j]?=some i→∃ x,N[own+(k+j)]?=some x∧XN[i]?=some x∧scope.names.lookup x=some .free
 | [],_,_,j,i,e=>by simp at e
 | c::r,k,h,j,i,e=>by
  unfold capB at h
  rw[Bool.and_eq_true]at h
  cases j with
  | zero =>
   simp only[List.getElem?_cons_zero,Option.some.injEq]at e
   subst e
   have h1:=h.1
   split at h1
   ·rename_i x y e1 e2
    rw[Bool.and_eq_true]at h1
    have:=eq_of_beq h1.1
    subst this
    exact⟨x,by rw[Nat.add_zero];exact e1,e2,eq_of_beq h1.2⟩
   ·cases h1
  | succ j =>
   obtain⟨x,a,b⟩:=nH h.2 j i (by simpa using e)
   exact⟨x,by rw[← a];congr 1;omega,b⟩
theorem BlkOk.of {XN:List Str}{osc scope:Scope}{N:List Str}{own:Nat}{cap:List Nat}(h:blkB XN osc scope N own cap=true):BlkOk XN osc scope N own cap:=by
 unfold blkB at h
 simp only[Bool.and_eq_true,List.all_eq_true]at h
 obtain⟨⟨⟨⟨h1,h2⟩,h3⟩,h4⟩,h5⟩:=h
 have look:∀ y∈scope.names,scope.names.lookup y.1=some y.2:=fun y hy=>eq_of_beq (h2 y hy)
 refine⟨eq_of_beq h1,fun y hy e=>by rw[look y hy,e],fun y hy e=>by rw[look y hy,e],fun y hy e=>by rw[look y hy,e],fun y hy e=>?_,eq_of_beq h4,fun j i e=>?_⟩
 ·have:=h3 y hy
  rw[e]at this
  simp only[beq_self_eq_true,Bool.not_true,Bool.false_or,Bool.or_eq_true]at this
  rcases this with z | z
  ·exact .inl (eq_of_beq z)
  ·exact .inr (eq_of_beq z)
 ·have:=nH h5 j i e
  rw[Nat.zero_add]at this
  exact this
end FF
end
noncomputable section
namespace FF
open PySem PySem.Spec PyProof.Rows L2
section
variable {X:Cx}{F:Fx}{o e:Expr}{g:SS→R D}{gs:List (SS→R D)}{apos cpos:Pos}{k:Nat}
end
end FF
end
noncomputable section
namespace FF
open PySem PySem.Spec PyProof.Rows L2
def OkD (P:Program)(w:World)(K:PySem.W.Frag)(mg:Str→Option Value)(base:Heap)(C:Nat→Addr)(k:Nat)(x:Str)(st:Stmt)(ps:List Str)(fn:List D→R D):Prop :=
 ∀ {f:Addr} {fd:FuncData},Fun K x x st f fd→FnOk P w K mg base (CXE P w) (k+1) f fd ps (spF K C ps.length fn)
def OkB (P:Program)(w:World)(K:PySem.W.Frag)(mg:Str→Option Value)(base:Heap)(C:Nat→Addr)(k:Nat)(N:List Str)(x:Str)(st:Stmt)(ds:List D)(l:L Unit):Prop :=
 ∀ (f:Addr) (cdv:Value) (A:Around) (outer:List Env) (s:Shared) (H Z:Hp) (E:XK),BX (bodyX P w K mg base N x (defScope st) f cdv A outer s H E) ⟨K,C,H,Z,E⟩ k →
  PassesOwn (model P w) (bodyX P w K mg base N x (defScope st) f cdv A outer s H E).A (bodyX P w K mg base N x (defScope st) f cdv A outer s H E).env (bodyX P w K mg base N x (defScope st) f cdv A outer s H E).xe →
  MadeX (bodyX P w K mg base N x (defScope st) f cdv A outer s H E) ⟨K,C,H,Z,E⟩→FL (bodyX P w K mg base N x (defScope st) f cdv A outer s H E) ⟨K,C,H,Z,E⟩ (startS N.length ds) (defBody st) JU l
theorem mkSc {N ps:List Str}{sc:Scope}(a:sc.kind=.function:=by rfl)(b:sc.isCoroutine=false:=by rfl)(c:sc.isGenerator=false:=by rfl)(d:N.Nodup:=by decide +kernel)(e:N.take ps.length=ps:=by rfl)
  (f:∀ x∈ps,sc.names.lookup x=some .local∨sc.names.lookup x=some .cell:=by decide +kernel) (g:∀ y∈sc.names,y.2≠.free:=by decide +kernel):FnScope N ps sc:=⟨a,b,c,d,e,f,g⟩
section
variable {P:Program}{w:World}{K:PySem.W.Frag}{mg:Str→Option Value}{base:Heap}{C:Nat→Addr}{k:Nat}{N ps:List Str}{x:Str}{st:Stmt}
theorem okd {fn:List D→R D}(S:FnScope N ps (defScope st))(h:∀ ds,ds.length=ps.length→∃ l,fn ds=outL l∧OkB P w K mg base C k N x st ds l):OkD P w K mg base C k x st ps fn:=fun F =>
 tx F S fun cdv A outer s H Z E bx hp md ds hl=>by
  obtain⟨l,e,o⟩:=h ds hl
  exact⟨l,e,o _ cdv A outer s H Z E bx hp md⟩
theorem ok1 {p:Str}{c:D→L Unit}(S:FnScope N [p] (defScope st))(h:∀ a,OkB P w K mg base C k N x st [a] (c a)):OkD P w K mg base C k x st [p] (a1 c):=okd S fun ds hl=>by obtain⟨a,rfl⟩:=len1 hl;exact⟨c a,rfl,h a⟩
theorem ok2 {p q:Str}{c:D→D→L Unit}(S:FnScope N [p,q] (defScope st))(h:∀ a b,OkB P w K mg base C k N x st [a,b] (c a b)):OkD P w K mg base C k x st [p,q] (a2 c):=okd S fun ds hl=>by obtain⟨a,b,rfl⟩:=len2 hl;exact⟨c a b,rfl,h a b⟩
theorem ok3 {p q r:Str}{c:D→D→D→L Unit}(S:FnScope N [p,q,r] (defScope st))(h:∀ a b d,OkB P w K mg base C k N x st [a,b,d] (c a b d)):OkD P w K mg base C k x st [p,q,r] (a3 c):=okd S fun ds hl=>by obtain⟨a,b,d,rfl⟩:=len3 hl;exact⟨c a b d,rfl,h a b d⟩
theorem ok4 {p q r s:Str}{c:D→D→D→D→L Unit}(S:FnScope N [p,q,r,s] (defScope st))(h:∀ a b d e,OkB P w K mg base C k N x st [a,b,d,e] (c a b d e)):OkD P w K mg base C k x st [p,q,r,s] (a4 c):=okd S fun ds hl=>by obtain⟨a,b,d,e,rfl⟩:=len4 hl;exact⟨c a b d e,rfl,h a b d e⟩
theorem ok5 {p q r s t:Str}{c:D→D→D→D→D→L Unit}(S:FnScope N [p,q,r,s,t] (defScope st))(h:∀ a b d e f,OkB P w K mg base C k N x st [a,b,d,e,f] (c a b d e f)):OkD P w K mg base C k x st [p,q,r,s,t] (a5 c):=okd S fun ds hl=>by obtain⟨a,b,d,e,f,rfl⟩:=len5 hl;exact⟨c a b d e f,rfl,h a b d e f⟩
structure Fd (K:PySem.W.Frag)(mg:Str→Option Value)(x:Str)(ps:List Str)(st:Stmt):Prop where
 ex:∃ a fd,Fun K x x st a fd∧mg x=some (.ref a)∧Binds K fd ps []
theorem lC {f:Addr}{fd:FuncData}{n:Nat}:FnOk P w K mg base (CXE P w) k f fd ps (spF K C n fun _=>.stuck) :=
 ⟨fun vs H Q E h=>by obtain⟨_,_,_,_,_,z⟩:=h;exact z.elim,fun A outer s H args us vs Q E _ _ _ _ h=>by obtain⟨_,_,_,_,_,z⟩:=h;exact z.elim⟩
theorem vZ {i:Nat}(F:Fd K mg x ps st)(hf:mg x=some (.ref (C i))):FnV P w K mg base C 0 i fun _=>.stuck:=by
 obtain⟨a,fd,F,h,b⟩:=F.ex
 rw[hf]at h
 cases h
 exact⟨fd,ps,lC,F.kp,b,fun _ _=>rfl⟩
theorem v3 {i:Nat}{fn:List D→R D}(F:Fd K mg x ps st)(hf:mg x=some (.ref (C i)))(ok:OkD P w K mg base C k x st ps fn)(hl:∀ ds,ds.length≠ps.length→fn ds=.stuck):FnV P w K mg base C (k+1) i fn:=by
 obtain⟨a,fd,F,h,b⟩:=F.ex
 rw[hf]at h
 cases h
 exact⟨fd,ps,ok F,F.kp,b,hl⟩
theorem g0 (F:Fd K mg x ps st):Fn1 P w K mg base C 0 x ps (fun _=>.stuck):=by obtain⟨a,fd,F,h,b⟩:=F.ex;exact⟨a,fd,lC,h,F.kp,b⟩
theorem g1 {fn:List D→R D}(F:Fd K mg x ps st)(ok:OkD P w K mg base C k x st ps fn):Fn1 P w K mg base C (k+1) x ps fn:=by obtain⟨a,fd,F,h,b⟩:=F.ex;exact⟨a,fd,ok F,h,F.kp,b⟩
section
variable {h:Heap}{f:Addr}{oc:Value}{od an:Option Addr}{osl:Array (Option Value)}{kV doc pm cdv ct:Value}
theorem v4 (X:K.In h)(G:h.Ns mainGlobals mg)(hb:∀ (kV doc pm:Value) (an:Option Addr) (cdv ct:Value) (us:List Value),us.length=ps.length→bindArgs (PySem.W.fnOf x x (defArgs st) (defBody st) (defScope st) .none kV doc pm an cdv ct) ⟨us,[]⟩=pure (ps.zip us))
  (a:PySem.W.nsIn K mainGlobals x=some (some (.ref f))) (l:K.lookup f=some ⟨oc,od,.func (PySem.W.fnOf x x (defArgs st) (defBody st) (defScope st) .none kV doc pm an cdv ct),osl⟩) (c:PySem.W.codeIn K cdv x=true) (k:PySem.W.keepIn K (.ref f)=true):Fd K mg x ps st :=
 ⟨f,_,mq l c k,PySem.W.mg_of X G a,(mq l c k).binds hb⟩
end
theorem ln1 {us:List Value}(h:us.length=1):∃ a,us=[a]:=match us,h with | [a],_=>⟨a,rfl⟩
theorem ln2 {us:List Value}(h:us.length=2):∃ a b,us=[a,b]:=match us,h with | [a,b],_=>⟨a,b,rfl⟩
theorem ln3 {us:List Value}(h:us.length=3):∃ a b c,us=[a,b,c]:=match us,h with | [a,b,c],_=>⟨a,b,c,rfl⟩
theorem ln4 {us:List Value}(h:us.length=4):∃ a b c d,us=[a,b,c,d]:=match us,h with | [a,b,c,d],_=>⟨a,b,c,d,rfl⟩
end
abbrev Ng (K:PySem.W.Frag)(x:Str)(v:Option Value):Prop:=PySem.W.nsIn K mainGlobals x=some v
theorem aC {K:PySem.W.Frag}{n c:Addr}{b:Bool}{cd:ClassData}(hd:PySem.W.clsIn K c=some cd)(hy:PySem.W.typeIn K (.ref c)=some (.type "type"))(hs:PySem.W.subIn K (.ref n) (.ref c)=some b)(hn:PySem.W.subIn K (.ref n) (.ref n)=some true):PySem.W.kitOne K (.ref n) (.ref c)=some b:=by
 unfold PySem.W.kitOne
 by_cases e:n=c
 ·subst e
  rw[hn]at hs
  rw[if_pos (by simp)]
  exact hs
 ·rw[if_neg (by simpa using e)]
  show (if ((PySem.W.clsIn K c).isSome&&PySem.W.typeIn K (.ref c)==some (.type "type"))=true then PySem.W.subIn K (.ref n) (.ref c) else none)=some b
  rw[hd,hy,if_pos (by simp)]
  exact hs
theorem mF {K:PySem.W.Frag}{n:Addr}(hs:PySem.W.subIn K (.ref n) (.type "ValueError")=some true):PySem.W.kitOne K (.ref n) (.type "ValueError")=some true:=by
 unfold PySem.W.kitOne
 rw[if_neg (by simp)]
 show (if PySem.W.kitMeta "ValueError"=true then PySem.W.subIn K (.ref n) (.type "ValueError") else none)=some true
 rw[if_pos (by decide +kernel)]
 exact hs
theorem nI {K:PySem.W.Frag}{C:Nat→Addr}{Z:Hp}:∀ ns:List Int,Reps K C Z (ns.map .int) (ns.map V.int)
 | []=>by rw[List.map_nil,List.map_nil,Reps]
 | i::ns=>by rw[List.map_cons,List.map_cons,Reps];exact⟨_,_,rfl,aK,nI ns⟩
end FF
end
noncomputable section
namespace FF
open PySem PySem.Spec PyProof.Rows L2
section
variable {σ:Type}{X:Cx}{F:Fx}{S:SS}{J:σ→SS→Prop}
end
theorem Rows.set {F:Fx}{H Z:Hp}{r:Addr}{us:List V}{ds:List D}(q:Reps F.K F.C Z ds us):∀ {m:List (List D)} {rs:List Addr} {j:Nat},rs.Nodup→Rows F H Z m rs→rs[j]?=some r→Rows F (upd H r (.lst us)) Z (m.set j ds) rs
 | d::m,b::rs,0,nd,h,e=>by
  cases e
  exact⟨⟨us,ap,q⟩,h.2.mono (Same.refl _) fun a ha o eo=>by
   have ne:a≠r:=fun z=>(List.nodup_cons.mp nd).1 (by rw[← z];exact ha)
   rw[al ne];exact eo⟩
 | d::m,b::rs,j+1,nd,h,e=>by
  obtain⟨⟨vs,k1,k2⟩,h⟩:=h
  have hr:r∈rs:=List.mem_of_getElem? (by simpa using e)
  have ne:b≠r:=fun z=>(List.nodup_cons.mp nd).1 (by rw[z];exact hr)
  exact⟨⟨vs,by rw[al ne];exact k1,k2⟩,Rows.set q (List.nodup_cons.mp nd).2 h (by simpa using e)⟩
 | [],[],_,_,_,e=>by simp at e
 | [],_::_,_,_,h,_=>h.elim
 | _::_,[],_,_,h,_=>h.elim
section
variable {X:Cx}{F:Fx}{e ey ex:Expr}{ge gy gx:SS→R D}{x:Str}{pos:Pos}{k:Nat}
end
def sqsL:List D→R (List (List D))
 | []=>.ok []
 | d::r=>(asSeq d).bind fun xs=>(sqsL r).bind fun m=>.ok (xs::m)
def sMatOf (i:Nat)(git:SS→R (List D)):SS→O:=fun S=>rO (((git S).bind sqsL).bind fun m=>.ok (.nx (S.set i (some (.mat m)))))
theorem lE:∀ {ds:List D} {m:List (List D)},sqsL ds=.ok m→m.length=ds.length∧∀ (j:Nat) d,ds[j]?=some d→∃ xs,m[j]?=some xs∧asSeq d=.ok xs
 | [],m,h=>by cases h;exact⟨rfl,fun j d e=>by simp at e⟩
 | d::ds,m,h=>by
  rw[sqsL]at h
  cases e1:asSeq d with
  | err k=>rw[e1]at h;cases h
  | stuck=>rw[e1]at h;cases h
  | ok xs =>
   rw[e1,R.bind_ok]at h
   cases e2:sqsL ds with
   | err k=>rw[e2]at h;cases h
   | stuck=>rw[e2]at h;cases h
   | ok m' =>
    rw[e2,R.bind_ok]at h
    cases h
    obtain⟨hl,hg⟩:=lE e2
    refine⟨by rw[List.length_cons,List.length_cons,hl],fun j c e=>?_⟩
    cases j with
    | zero=>cases e;exact⟨xs,rfl,e1⟩
    | succ j=>exact hg j c e
theorem tG {ds:List D}{k:Nat}:sqsL ds≠.err k:=by
 induction ds with
 | nil=>exact fun h=>nomatch h
 | cons d ds ih =>
  intro h
  rw[sqsL]at h
  cases d with
  | lst xs =>
   have h':((sqsL ds).bind fun m=>R.ok (xs::m))=.err k:=h
   cases e:sqsL ds with
   | ok m=>rw[e]at h';cases h'
   | err j=>exact ih (by rw[e]at h';cases h';exact e)
   | stuck=>rw[e]at h';cases h'
  | tup xs =>
   have h':((sqsL ds).bind fun m=>R.ok (xs::m))=.err k:=h
   cases e:sqsL ds with
   | ok m=>rw[e]at h';cases h'
   | err j=>exact ih (by rw[e]at h';cases h';exact e)
   | stuck=>rw[e]at h';cases h'
  | _=>cases h
theorem Rows.snoc {F:Fx}{H Z:Hp}{r:Addr}{ds:List D}{vs:List V}(h1:H r=some (.lst vs))(h2:Reps F.K F.C Z ds vs):∀ {m:List (List D)} {rs:List Addr},Rows F H Z m rs→Rows F H Z (m++[ds]) (rs++[r])
 | [],[],_=>⟨⟨vs,h1,h2⟩,trivial⟩
 | _::_,_::_,h=>⟨h.1,Rows.snoc h1 h2 h.2⟩
 | [],_::_,h=>h.elim
 | _::_,[],h=>h.elim
abbrev rLst (K:PySem.W.Frag):List V→Hp→VK→Prop:=fun xs H Q=>∃ p ys,xs=[.ref p]∧(SqL K H p ys∨SqT K H p ys)∧∀ l,H l=none→Q (.ref l) (upd H l (.lst ys))
section
variable {X:Cx}{F:Fx}{tg iter elt:Expr}{scope:Scope}{N:List Str}{own:Nat}{cap:List Nat}{pos:Pos}{git:SS→R (List D)}
theorem rj {i:Nat}{D:Ends}{σ:St}{H Z:Hp}{S:SS}{tc:TT}(hown:0 < own)(ok:StOk F H Z S σ)(w:WO F Z (sMatOf i git S) D) :
  tCompSet i own cap (tI F git) (gName 0) (tTests [] tc) (tCB (rLst F.K) (tCons (tVar 0) tNil)) D σ H:=by
 have w:=WO.wg ok w
 refine⟨Z,S,ok,?_⟩
 cases e:git S with
 | err k=>rw[e]at w;exact w
 | stuck=>rw[e]at w;exact w
 | ok ds =>
  rw[e]at w
  intro H1 Z1 x1 J wk hlen D' hD
  have w1:=WG.more (r:=(sqsL ds).bind fun m=>R.ok (O.nx (S.set i (some (.mat m))))) w x1
  have ok1:=ok.more x1
  cases em:sqsL ds with
  | err k=>exact(tG em).elim
  | stuck=>rw[em]at w1;exact w1.elim
  | ok m =>
   rw[em]at w1
   obtain⟨ml,mg⟩:=lE em
   have hS:=sizeLine_eq
   refine⟨fun j n σ' H' ys=>n=ds.length - j∧j≤ds.length∧0 < σ'.length∧H' D'=some (.lst ys)∧∃ Z' rs,Ex H1 Z1 H' Z'∧ys=rs.map V.ref∧Rows F H' Z' (m.take j) rs∧(D'::rs).Nodup∧∀ r∈D'::rs,Z' r=none∧H1 r=none,?_,
    ds.length,rfl,Nat.zero_le _,by unfold startB;simp;omega,ap,Z1,[],Ex.hidden ok1.sub hD,rfl,trivial,by simp,fun r hr=>by cases List.mem_singleton.mp hr;exact⟨ok1.sub.free hD,hD⟩⟩
   rintro j n σ2 H2 ys ⟨rfl,hle,hσ,hDy,Z2,rs,x2,rfl,rows,nd,fr⟩
   refine⟨hDy,?_⟩
   obtain⟨k1,k2⟩:=wk j H2 Z2 x2.z x2.sub
   have rl:rs.length=j:=by rw[rows.len,List.length_take];omega
   by_cases hlt:j < ds.length
   ·obtain⟨go,y⟩:=k1 hlt
    refine .inr ⟨go,fun x H' hy=>?_⟩
    obtain⟨Z3,d,x3,e3,rd⟩:=y x H' hy
    obtain⟨xs,em2,ea⟩:=mg j d e3
    show tCB (rLst F.K) (tCons (tVar 0) tNil) (σ2.set 0 (some x)) H' _
    refine⟨x,List.getElem?_set_self hσ,?_⟩
    obtain⟨b,p,vs,rfl,sb,rp⟩:=mE ea rd
    have h3D:H' D'=some (.lst (rs.map V.ref)):=x3.same _ _ hDy
    have there:∀ r∈D'::rs,∃ o,H2 r=some o:=fun r hr=>by
     rcases List.mem_cons.mp hr with rfl | hr
     ·exact⟨_,hDy⟩
     ·exact rows.there r hr
    have z3:∀ r∈D'::rs,Z3 r=none:=fun r hr=>by
     cases q:Z3 r with
     | none=>rfl
     | some o =>
      rcases x3.new r (by rw[q];simp) with z | z
      ·exact absurd (fr r hr).1 z
      ·obtain⟨u,hu⟩:=there r hr
       rw[hu]at z;cases z
    refine⟨p,vs,rfl,?_,fun l hl=>?_⟩
    ·cases b with
     | true=>exact .inr ((show SqT F.K Z3 p vs from sb).mono x3.sub)
     | false=>exact .inl (x3.sub.seq (show SqL F.K Z3 p vs from sb))
    ·have lD:l≠D':=fun z=>by rw[z,h3D]at hl;cases hl
     have lr:l∉rs:=fun z=>by
      obtain⟨u,hu⟩:=there l (.tail _ z)
      rw[x3.same _ _ hu]at hl;cases hl
     have l1:H1 l=none:=x2.same.free (x3.same.free hl)
     have zl:Z3 l=none:=x3.sub.free hl
     have xx:=x2.trans x3
     have ex':Ex H1 Z1 (upd (upd H' l (.lst vs)) D' (.lst (rs.map V.ref++[.ref l]))) Z3:=by
      refine⟨fun b o e=>?_,xx.z,fun b o e=>?_,xx.new⟩
      ·rw[al (fun z=>by subst z;rw[hD]at e;cases e),al (fun z=>by subst z;rw[l1]at e;cases e)];exact xx.same b o e
      ·rw[al (fun z=>by subst z;rw[z3 _ (.head _)]at e;cases e),al (fun z=>by subst z;rw[zl]at e;cases e)];exact xx.sub b o e
     refine⟨by rw[al (Ne.symm lD)];exact h3D,by rw[List.length_map,rl];omega,ds.length - (j+1),by omega,rfl,hlt,by rw[List.length_set];exact hσ,ap,Z3,rs++[l],ex',by rw[List.map_append];rfl,?_,?_,?_⟩
     ·rw[List.take_succ,em2]
      refine Rows.snoc (vs:=vs) (by rw[al lD,ap]) rp (rows.mono x3.z fun r hr o eo=>?_)
      have n1:r≠D':=fun z=>(List.nodup_cons.mp nd).1 (by rw[← z];exact hr)
      have n2:r≠l:=fun z=>lr (by rw[← z];exact hr)
      rw[al n1,al n2]
      exact x3.same _ _ eo
     ·rw[← List.cons_append,List.nodup_append]
      refine⟨nd,by simp,fun a ha b hb=>?_⟩
      cases List.mem_singleton.mp hb
      intro z
      subst z
      rcases List.mem_cons.mp ha with z | z
      ·exact lD z
      ·exact lr z
     ·intro r hr
      rw[← List.cons_append]at hr
      rcases List.mem_append.mp hr with hr | hr
      ·exact⟨z3 r hr,(fr r hr).2⟩
      ·cases List.mem_singleton.mp hr;exact⟨zl,l1⟩
   ·have ej:j=ds.length:=by omega
    refine .inl ⟨k2 (by omega),?_⟩
    have hm:m.take j=m:=List.take_of_length_le (by omega)
    rw[hm]at rows
    have w2:WO F Z2 (.nx (S.set i (some (.mat m)))) D:=w1 H2 Z2 x2
    exact w2 _ H2 Z2 (Same.refl _) (ok1.putNew (x:=.mat m) (A:=D'::rs) x2 ⟨D',rs,rfl,rfl,hDy,rows⟩ ⟨nd,fun a ha=>(fr a ha).1,fun a ha=>ok1.ex.same.free (fr a ha).2⟩ fun a ha=>(fr a ha).2)
theorem v5 {k:Nat}(i:Nat){y r:Str}{py spos pl pr tp pc:Pos}(bx:BX X F k)(b:BlkOk X.N X.env.scope scope N own cap)(hi:FI X F (.Name r tp) iter git)(hown:0 < own)
  (hg:∀ cl C s H fp,PG (blk X scope cl C s H fp N) (.Name r tp) (gName 0)) (he:∀ cl C s H fp,PE (blk X scope cl C s H fp N) (.Call (.Name "list" pl) [.Name r pr] [] pc) (tCB (rLst F.K) (tCons (tVar 0) tNil))) (hN:X.N.Nodup)
  (hsw:swapsWith (.ListComp (.Call (.Name "list" pl) [.Name r pr] [] pc) [⟨.Name r tp,iter,[],0⟩] scope pos) (some (.Name y py)) spos.line X.env=pure true:=by rfl) (hiy:X.N[i]?=some y:=by rfl) (hy:Loc X.env.scope y:=by first | exact Or.inl rfl | exact Or.inr rfl)
  (hfn:X.fn y=true∨X.env.scope.names.lookup y=some .local:=by first | exact .inl rfl | exact .inr rfl) (hs:∀ x,foldedSetIterable iter X.env x=pure x:=by intro _;rfl) :
  FS X F (.Assign [.Name y py] (.ListComp (.Call (.Name "list" pl) [.Name r pr] [] pc) [⟨.Name r tp,iter,[],0⟩] scope pos) spos) (sMatOf i git) :=
 (eX (ifs:=[]) (tc:=tT (noE F) tTrue) b bx.calm (by simp) hi hg (fun c q=>nomatch q) he hN hiy hy hfn hsw hs).weak fun D σ H ⟨Z,S,ok,w⟩=>rj hown ok w
end
theorem WG.split {α β:Type}{F:Fx}{H Z:Hp}{r:R α}{k:α→R β}{P:β→Hp→Hp→Prop}(w:WG F H Z (r.bind k) P):WG F H Z r fun d H' Z'=>WG F H' Z' (k d) P:=by
 cases r with
 | ok d=>exact fun H' Z' x=>WG.more (r:=k d) w x
 | err k=>exact w
 | stuck=>exact w
def sOwnCp (i:Nat)(g:SS→R D):SS→O:=fun S=>rO (((g S).bind asLst).bind fun ds=>.ok (.nx (S.set i (some (.own ds)))))
section
variable {X:Cx}{F:Fx}{tg iter elt:Expr}{ifs:List Expr}{scope:Scope}{N:List Str}{own:Nat}{cap:List Nat}{pos:Pos}{git:SS→R (List D)}{g:D→SS→R SS}{gc:SS→R Bool}{ge:SS→R D}
theorem rk {i:Nat}{D:Ends}{σ:St}{H Z:Hp}{S:SS}(hgc:ifs=[]→gc=tTrue)(hgo:Own own g)(ok:StOk F H Z S σ)(w:WO F Z (sOwnCp i (eComp own cap git g gc ge) S) D) :
  tCompSet i own cap (tI F git) (tGd (noE F) g) (tTests ifs (tT (noE F) gc)) (tE (noE F) ge) D σ H:=by
 have w:=WO.wg ok w
 rw[R.bind_assoc]at w
 exact iw (Q:=fun a H'=>D.nx (σ.set i (some (.ref a))) H') hgc hgo ok w.split fun a ys ds H1 Z1 H2 Z2 x1 hD x2 hZ w3 hDy ra=>by
  have w4:WG F H2 Z2 (R.ok (O.nx (S.set i (some (.own ds))))) _:=w3 H2 Z2 x2
  have w5:=WG.now w4 x2.sub
  have ok1:=ok.more x1
  exact w5 _ H2 Z2 (Same.refl _) (ok1.putNew (x:=.own ds) (A:=[a]) x2 ⟨a,ys,rfl,rfl,hDy,ra⟩ ⟨by simp,fun b hb=>by cases List.mem_singleton.mp hb;exact hZ,fun b hb=>by cases List.mem_singleton.mp hb;exact ok1.ex.same.free hD⟩ fun b hb=>by cases List.mem_singleton.mp hb;exact hD)
theorem mG {k:Nat}(i:Nat){y:Str}{py spos:Pos}(bx:BX X F k)(b:BlkOk X.N X.env.scope scope N own cap)(hi:FI X F tg iter git)(hgo:Own own g)
  (hg:∀ cl C s H fp,FG (blk X scope cl C s H fp N) (noE F) tg g) (he:∀ cl C s H fp,FE (blk X scope cl C s H fp N) (noE F) elt ge) (hN:X.N.Nodup)
  (hsw:swapsWith (.ListComp elt [⟨tg,iter,[],0⟩] scope pos) (some (.Name y py)) spos.line X.env=pure true:=by rfl) (hiy:X.N[i]?=some y:=by rfl) (hy:Loc X.env.scope y:=by first | exact Or.inl rfl | exact Or.inr rfl)
  (hfn:X.fn y=true∨X.env.scope.names.lookup y=some .local:=by first | exact .inl rfl | exact .inr rfl) (hs:∀ x,foldedSetIterable iter X.env x=pure x:=by intro _;rfl) :
  FS X F (.Assign [.Name y py] (.ListComp elt [⟨tg,iter,[],0⟩] scope pos) spos) (sOwnCp i (eCC own cap git g tTrue ge)) :=
 cT ((eX (ifs:=[]) (tc:=tT (noE F) tTrue) b bx.calm (by simp) hi hg (fun c q=>nomatch q) he hN hiy hy hfn hsw hs).weak fun D σ H ⟨Z,S,ok,w⟩=>rk (fun _=>rfl) hgo ok w) fun S=>by unfold sOwnCp;rw[ed]
end
end FF
end
noncomputable section
namespace FF
open PySem PySem.Spec PyProof.Rows L2
theorem vh {K:PySem.W.Frag}{C:Nat→Addr}{d:D}{b:Bool}(e:qLT d=some b):PySem.W.kitAny K (tyD C d) [.type "list",.type "tuple"]=some b:=by
 cases d<;>cases e<;>with_unfolding_all rfl
theorem js {X:Cx}{C:Nat→Addr}:CallR X (.builtin "isinstance") (fun xs H Q=>∃ (Z:Hp) (d:D) (x:V) (tp:Addr) (b:Bool),xs=[x,.ref tp]∧Same Z H∧Rep X.K C Z d x∧SqT X.K H tp [.ty "list",.ty "tuple"] ∧
  qLT d=some b∧Q (.bl b) H):=by
 intro pins s σ H xs us Q I r h
 obtain⟨Z,d,x,tp,b,rfl,sm,rp,ht,e,q⟩:=h
 obtain⟨u,c,rfl,ru,rc⟩:=vals2 r
 cases (show c=Value.ref tp from rc)
 obtain⟨its,rv,⟨o,g1,g2,n,g3⟩,_⟩:=I.tuple ht
 obtain⟨u1,u2,rfl,e1,e2⟩:=vals2 rv
 cases (show u1=Value.type "list" from e1)
 cases (show u2=Value.type "tuple" from e2)
 obtain⟨cls,dd,data,sl⟩:=o
 simp only at g2 g3
 subst g2 g3
 have e':=vh (K:=X.K) (C:=C) e
 have fin:∀ tk,EP X pins σ Q (.bool b) { s with toks:=tk }:=fun tk=>⟨.bl b,H,I.tok tk,rfl,q⟩
 cases d with
 | non=>rw[Rep]at rp;subst rp;cases (show u=Value.none from ru);exact PySem.W.kia_tup PySem.W.kitx_none I.kIn True.intro g1 e' (fun z=>nomatch z) fin
 | bl k=>rw[Rep]at rp;subst rp;cases (show u=Value.bool k from ru);exact PySem.W.kia_tup PySem.W.kitx_bool I.kIn True.intro g1 e' (fun z=>nomatch z) fin
 | int i=>rw[Rep]at rp;subst rp;obtain⟨t,rfl⟩:=(show ∃ t,u=Value.int i t from ru);exact PySem.W.kia_tup PySem.W.kitx_int I.kIn True.intro g1 e' (fun z=>nomatch z) fin
 | str i=>rw[Rep]at rp;subst rp;obtain⟨t,rfl⟩:=(show ∃ t,u=Value.str i t from ru);exact PySem.W.kia_tup PySem.W.kitx_str I.kIn True.intro g1 e' (fun z=>nomatch z) fin
 | tup ds =>
  rw[Rep]at rp
  obtain⟨a,vs,rfl,h1,h2⟩:=rp
  cases (show u=Value.ref a from ru)
  obtain⟨its,_,⟨o,p1,p2,_⟩,_⟩:=I.tuple (h1.mono sm)
  exact PySem.W.kia_tup PySem.W.kitx_tuple I.kIn ⟨o,p1,p2⟩ g1 e' (fun z=>nomatch z) fin
 | lst ds =>
  rw[Rep]at rp
  obtain⟨a,vs,rfl,h1,h2⟩:=rp
  cases (show u=Value.ref a from ru)
  obtain⟨its,_,⟨o,n,p1,p2,_⟩,_⟩:=I.list (sm.seq h1)
  exact PySem.W.kia_tup PySem.W.kitx_list I.kIn ⟨o,p1,p2⟩ g1 e' (fun z=>nomatch z) fin
 | fn k=>cases e
 | exc k=>cases e
section
variable {X:Cx}{F:Fx}{p pos p1 p2 p3:Pos}{e:Expr}{g:SS→R D}{k:Nat}
theorem lF {jj}(bx:BX X F k)(hg:Gl X "isinstance")(hm:X.mg "isinstance"=none)(hg1:Gl X "list")(hm1:X.mg "list"=none)(hg2:Gl X "tuple")(hm2:X.mg "tuple"=none)(ha:FE X F e g)
  (he:starEach [e,.Tuple [.Name "list" p1,.Name "tuple" p2] jj p3] X.env=(false,eval e X.env)::starEach [.Tuple [.Name "list" p1,.Name "tuple" p2] jj p3] X.env:=by rfl)
  (hpl:(backTo pos (starEach [.Tuple [.Name "list" p1,.Name "tuple" p2] jj p3] X.env)).any (·.1)=false:=by rfl) :
  FE X F (.Call (.Name "isinstance" p) [e,.Tuple [.Name "list" p1,.Name "tuple" p2] jj p3] [] pos) (eIs qLT g) :=
 (fk (id := "isinstance") (js (C:=F.C)) hg hm (by decide +kernel) (cR ha (cR (pN (cR (aN (v:=.ty "list") hg1 hm1 (by decide +kernel) rfl) (cR (aN (v:=.ty "tuple") hg2 hm2 (by decide +kernel) rfl) ie))) ie) he) (he:=he) (hpl:=hpl)).weak fun σ H Q ⟨Z,S,ok,w⟩ =>
  aE ok w fun d v H1 Z1 ok1 x1 rv w1=>by
   refine⟨by rw[sizeLine_eq];exact Nat.le_of_ble_eq_true rfl,fun tp hp=>?_⟩
   cases e:qLT d with
   | none=>unfold dIsA at w1;rw[e]at w1;exact w1.elim
   | some b =>
    unfold dIsA at w1
    rw[e]at w1
    have x2:=Ex.hidden (o:=.tup [.ty "list",.ty "tuple"]) ok1.sub hp
    refine⟨Z1,d,v,tp,b,rfl,fun a o h=>?_,by rw[bx.K];exact rv,SqT.of ap,e,?_⟩
    ·exact x2.same _ _ (ok1.sub a o h)
    ·exact w1 _ _ x2 _ aY
end
end FF
end
noncomputable section
namespace Lw
open PySem FF
def esL:List Nat:=[1,2,4]
namespace F
abbrev av:Nat:=20
abbrev aw:Nat:=21
abbrev aJ:Nat:=22
abbrev aC:Nat:=23
abbrev aA:Nat:=24
abbrev aD:Nat:=25
abbrev ad:Nat:=26
abbrev ax:Nat:=105
abbrev aI:Nat:=27
abbrev aa:Nat:=28
abbrev aP:Nat:=29
abbrev aq:Nat:=106
abbrev ap:Nat:=107
abbrev af:Nat:=108
abbrev aB:Nat:=109
abbrev aj:Nat:=110
abbrev aL:Nat:=111
abbrev ai:Nat:=112
abbrev aF:Nat:=113
abbrev aO:Nat:=30
abbrev ac:Nat:=31
abbrev ay:Nat:=32
abbrev ae:Nat:=33
abbrev az:Nat:=54
abbrev ao:Nat:=55
abbrev aK:Nat:=56
abbrev an:Nat:=57
abbrev aE:Nat:=34
abbrev aN:Nat:=35
abbrev aM:Nat:=36
abbrev ag:Nat:=37
abbrev ak:Nat:=39
abbrev au:Nat:=38
abbrev ar:Nat:=40
abbrev ab:Nat:=114
abbrev aG:Nat:=115
abbrev al:Nat:=116
abbrev ah:Nat:=117
abbrev aH:Nat:=118
end F
def fvL:List Nat:=[21]
def e6 (t:Nat→List D→R D)(thing:D):L Unit :=
 lB (vAnd (dIsA qInt thing) (vNot (dIsA qBool thing))) .rt
def dE (t:Nat→List D→R D)(thing:D):L Unit :=
 lB (vAnd (t F.av [thing]) (rCh dLe dLe (.int 0) thing (.ok (.int 9)))) .rt
def eL (t:Nat→List D→R D)(thing:D):L Unit :=
 lB (vAnd (t F.av [thing]) (rCh dLe dLe (.int 0) thing (.ok (.int 3)))) .rt
def dm (t:Nat→List D→R D)(size_:D)(thing:D)(is_end:D):L Unit :=
 lS (lB (σ:=Unit) (rNot (asB (dIsA qTup thing))) fun b=>if b=true then lB (onF fvL is_end fun i=>t i [thing]) .rt else .nx ()) fun _ =>
 lS (lB (σ:=Unit) (rOr (asB (dEq size_ (.int 0))) (asB ((dLen [thing]).bind fun x=>dNf x (.int 4)))) fun b1=>if b1=true then .rt (.bl false) else .nx ()) fun _ =>
 lB (((sq thing).bind fun xs=>cMap (fun part=>(dSub size_ (.int 1)).bind fun x1=>t F.aC [x1,part,is_end]) xs).bind fun x2=>dAll [x2]) .rt
def bz (t:Nat→List D→R D)(thing:D)(is_end:D):L Unit :=
 lS (lB (σ:=Unit) (rOr (rNot (asB (dIsA qTup thing))) (asB ((dLen [thing]).bind fun x=>dNf x (.int 2)))) fun b=>if b=true then .rt (.bl false) else .nx ()) fun _ =>
 lB (vAnd ((dIx thing (.int 0)).bind fun x3=>t F.aJ [x3]) ((dIx thing (.int 0)).bind fun x1=>(dIx thing (.int 1)).bind fun x2=>t F.aC [x1,x2,is_end])) .rt
def bM (t:Nat→List D→R D)(four:D):L Unit :=
 lB (dIx four (.int 0)) fun first =>
 lS (lB (σ:=Unit) (rAnd (rNot (asB (dIsA qTup first))) (asB (dEq four (.tup [first,first,first,first])))) fun b=>if b=true then .rt first else .nx ()) fun _ =>
 .rt four
def bY (t:Nat→List D→R D)(tree_:D):L Unit :=
 lS (lB (σ:=Unit) (rNot (asB (dIsA qTup tree_))) fun b=>if b=true then .rt tree_ else .nx ()) fun _ =>
 lB ((((sq tree_).bind fun xs=>cMap (fun part=>t F.ad [part]) xs).bind fun x=>dTuple [x]).bind fun x1=>t F.aD [x1]) .rt
def bU (t:Nat→List D→R D)(tree_:D):L Unit :=
 lS (lB (σ:=Unit) (asB (dIsA qTup tree_)) fun b=>if b=true then .rt tree_ else .nx ()) fun _ =>
 .rt (.tup [tree_,tree_,tree_,tree_])
def cu (t:Nat→List D→R D)(thing:D):L Unit :=
 lB (t F.aA [thing,(.fn F.aw)]) .rt
def bE (t:Nat→List D→R D)(thing:D):L Unit :=
 lB (rNot (asB (t F.aI [thing]))) fun b=>if b=true then .er 1 else .nx ()
def kA (t:Nat→List D→R D)(picture:D):L Unit :=
 lB (t F.aa [picture]) fun _ =>
 lB ((dIx picture (.int 0)).bind fun x=>((dIx picture (.int 1)).bind fun x1=>t F.ad [x1]).bind fun x2=>.ok (.tup [x,x2])) .rt
def cv (t:Nat→List D→R D)(number:D):L Unit :=
 lB (vAnd (t F.av [number]) (rCh dLe dLe (.int 0) number (.ok (.int 3)))) .rt
def bF (t:Nat→List D→R D)(picture:D)(number:D):L Unit :=
 lB (rOr (asB ((dIx picture (.int 0)).bind fun x=>dEq x (.int 0))) (rNot (asB (t F.aq [number])))) fun b=>if b=true then .er 2 else .nx ()
def bp (t:Nat→List D→R D)(picture:D)(number:D):L Unit :=
 lB (t F.aa [picture]) fun _ =>
 lB (t F.ap [picture,number]) fun _ =>
 lB (((dIx picture (.int 0)).bind fun x=>dSub x (.int 1)).bind fun x1=>((((dIx picture (.int 1)).bind fun x2=>t F.ax [x2]).bind fun x3=>dIx x3 number).bind fun x4=>t F.ad [x4]).bind fun x5=>.ok (.tup [x1,x5])) .rt
def ci (t:Nat→List D→R D)(picture:D):L (Unit) :=
 lB (t F.aa [picture]) fun _ =>
 .nx ()
def bN (t:Nat→List D→R D)(four:D):L Unit :=
 lS (lB (σ:=Unit) (rOr (rNot (asB (dIsA qLT four))) (asB ((dLen [four]).bind fun x=>dNf x (.int 4)))) fun b=>if b=true then .er 1 else .nx ()) fun _ =>
 lS (lB (sq four) fun xs=>lFor (τ:=Unit) (fun _ x=>ci t x) xs ()) fun _ =>
 .nx ()
def bu (t:Nat→List D→R D)(four:D):L Unit :=
 lB (t F.aB [four]) fun _ =>
 lB ((dIx four (.int 0)).bind fun x=>dIx x (.int 0)) fun size_ =>
 lS (lB (σ:=Unit) (rOr (asB (dEq size_ (.int 3))) (asB (((sq four).bind fun xs=>cMap (fun picture=>(dIx picture (.int 0)).bind fun x1=>dNf x1 size_) xs).bind fun x2=>dAny [x2]))) fun b=>if b=true then .er 4 else .nx ()) fun _ =>
 lB ((dAdd size_ (.int 1)).bind fun x3=>((((sq four).bind fun xs1=>cMap (fun picture1=>dIx picture1 (.int 1)) xs1).bind fun x4=>dTuple [x4]).bind fun x5=>t F.ad [x5]).bind fun x6=>.ok (.tup [x3,x6])) .rt
def eM (t:Nat→List D→R D)(picture:D):L Unit :=
 lB (t F.aa [picture]) fun _ =>
 lS (lB (σ:=Unit) (asB ((dIx picture (.int 0)).bind fun x=>dEq x (.int 3))) fun b=>if b=true then .er 4 else .nx ()) fun _ =>
 lB (((dIx picture (.int 0)).bind fun x1=>dAdd x1 (.int 1)).bind fun x2=>((dIx picture (.int 1)).bind fun x3=>t F.ad [x3]).bind fun x4=>.ok (.tup [x2,x4])) .rt
def aJ (t:Nat→List D→R D)(picture:D)(number:D)(other:D):L Unit :=
 lB (t F.aa [picture]) fun _ =>
 lB (t F.aa [other]) fun _ =>
 lB (t F.ap [picture,number]) fun _ =>
 lS (lB (σ:=Unit) (asB ((dIx other (.int 0)).bind fun x=>((dIx picture (.int 0)).bind fun x1=>dSub x1 (.int 1)).bind fun x2=>dNf x x2)) fun b=>if b=true then .er 4 else .nx ()) fun _ =>
 lB (((dIx picture (.int 1)).bind fun x3=>t F.ax [x3]).bind fun x4=>asTup x4) fun parts_=>lB ((dIx other (.int 1)).bind fun x5=>oSt parts_ number x5) fun parts_1=>lB ((dIx picture (.int 0)).bind fun x6=>((dTuple [(.lst parts_1)]).bind fun x7=>t F.ad [x7]).bind fun x8=>.ok (.tup [x6,x8])) .rt
def cw (t:Nat→List D→R D)(number:D)(part:D)(step:D):L (D) :=
 lB (t F.af [part,number]) fun part1 =>
 .nx part1
def cA (t:Nat→List D→R D)(picture:D)(number:D)(times:D):L Unit :=
 lB (t F.aa [picture]) fun _ =>
 lS (lB (σ:=Unit) (rOr (rNot (asB (t F.aq [number]))) (rOr (rNot (asB (t F.av [times]))) (rNot (asB (rCh dLe dLe (.int 0) times (dIx picture (.int 0))))))) fun b=>if b=true then .er 2 else .nx ()) fun _ =>
 lB (t F.aP [picture]) fun part =>
 lS (lB (rng1 [times]) fun xs=>lFor (τ:=D) (fun s x=>cw t number s x) xs part) fun part2 =>
 .rt part2
def fB (t:Nat→List D→R D)(wn:D)(wE:D):L Unit :=
 lS (lB (σ:=Unit) (asB ((dLen [wn]).bind fun x=>dLt wE x)) fun b=>if b=true then lB (dIx wn wE) .rt else .nx ()) fun _ =>
 lS (lB (σ:=Unit) (asB (dEq wn (.lst []))) fun b1=>if b1=true then .rt (.int 0) else .nx ()) fun _ =>
 lB (((((dLen [wn]).bind fun x1=>dMod wE x1).bind fun x2=>dIx wn x2).bind fun x3=>dMul x3 (.int 31)).bind fun x4=>dAdd x4 wE) .rt
def fC (t:Nat→List D→R D)(wn:D)(wE:D)(xB:D):L Unit :=
 lB ((((t F.aO [wn,wE]).bind fun x=>((dAdd wE (.int 1)).bind fun x1=>dMul (.int 6151) x1).bind fun x2=>dAdd x x2).bind fun x3=>dMul x3 (.int 40692)).bind fun x4=>dMod x4 (.int 2147483399)) fun xc =>
 lB ((((dMul xc xc).bind fun x5=>(dDiv xc (.int 31)).bind fun x6=>dAdd x5 x6).bind fun x7=>dMod x7 (.int 2147483629)).bind fun x8=>dMod x8 xB) .rt
def eh (t:Nat→List D→R D)(wn:D)(wM:D)(wq:D):L Unit :=
 lB (t F.ac [wn,wM,(.int 6)]) fun xp =>
 lS (lB (σ:=Unit) (rOr (asB (dEq wq (.int 0))) (asB (dLt xp (.int 2)))) fun b=>if b=true then lB ((((dAdd wM (.int 1)).bind fun x=>t F.ac [wn,x,(.int 10)]).bind fun x1=>.ok (.lst [(.int 0),(.int 1),(.int 1),(.int 2),(.int 9),x1])).bind fun x2=>((dAdd wM (.int 2)).bind fun x3=>t F.ac [wn,x3,(.int 6)]).bind fun x4=>dIx x2 x4) .rt else .nx ()) fun _ =>
 lS (lB (σ:=Unit) (asB (dEq xp (.int 2))) fun b1=>if b1=true then lB ((((dAdd wM (.int 3)).bind fun x5=>(dSub wq (.int 1)).bind fun x6=>t F.ay [wn,x5,x6]).bind fun x7=>.ok (.tup [x7])).bind fun x8=>dMul x8 (.int 4)) .rt else .nx ()) fun _ =>
 lB (((rng1 [(.int 4)]).bind fun xs=>cMap (fun wE=>(((dMul (.int 5) wM).bind fun x9=>dAdd x9 (.int 7)).bind fun x10=>(dMul (.int 11) wE).bind fun x11=>dAdd x10 x11).bind fun x12=>(dSub wq (.int 1)).bind fun x13=>t F.ay [wn,x12,x13]) xs).bind fun x14=>dTuple [x14]) .rt
def cW (t:Nat→List D→R D)(wn:D)(wM:D)(xC:D):L Unit :=
 lB ((((t F.ac [wn,wM,(.int 7)]).bind fun x=>dIx (.lst [(.int 0),(.int 0),(.int 0),(.int 1),(.int 1),(.int 2),(.int 3)]) x).bind fun x1=>dSub xC x1).bind fun x2=>dMax2 [(.int 0),x2]) fun wq =>
 lB (((dAdd wM (.int 1)).bind fun x3=>t F.ay [wn,x3,wq]).bind fun x4=>.ok (.tup [wq,x4])) .rt
def cJ (t:Nat→List D→R D)(wx:D)(wO:List D)(xF:D):L (List D) :=
 lB (((((dIx wx xF).bind fun x=>dLen [x]).bind fun x1=>rng1 [x1]).bind fun xs=>cMap (fun wE=>((dIx wx xF).bind fun x2=>dIx x2 wE).bind fun x3=>(((dAdd xF (.int 1)).bind fun x4=>dIx wx x4).bind fun x5=>dIx x5 wE).bind fun x6=>dAdd x3 x6) xs).bind fun x7=>oExt wO x7) fun wS =>
 .nx wS
def bZ (t:Nat→List D→R D)(wq:D)(wC:D):L Unit :=
 lS (lB (σ:=Unit) (asB (dEq wq (.int 0))) fun b=>if b=true then .rt (.lst [(.lst [wC])]) else .nx ()) fun _ =>
 lB (rIf (asB (dIsA qTup wC)) (.ok wC) (dMul (.tup [wC]) (.int 4))) fun wy =>
 lB ((sq wy).bind fun xs=>cMap (fun wW=>(dSub wq (.int 1)).bind fun x=>t F.az [x,wW]) xs) fun wx =>
 lS (lB (sq (.tup [(.int 0),(.int 2)])) fun xs2=>lFor (τ:=List D) (fun s x=>cJ t wx s x) xs2 []) fun wS =>
 .rt (.lst wS)
def fD (t:Nat→List D→R D)(wl:D):L Unit :=
 lB (((((dIx wl (.int 0)).bind fun x=>(dIx wl (.int 1)).bind fun x1=>t F.az [x,x1]).bind fun x2=>sq x2).bind fun xs=>cMap (fun wN=>dTuple [wN]) xs).bind fun x3=>dTuple [x3]) .rt
def cx (t:Nat→List D→R D)(xq:List D)(wN:D):L (List D) :=
 lB (oExt xq wN) fun wD =>
 .nx wD
def dF (t:Nat→List D→R D)(wm:D)(wA:D)(w8:D)(wy:List D)(xa:D):L (List D) :=
 lB ((((((asI w8).bind fun i=>((dAdd w8 wA).bind asI).bind fun i1=>dSw wm i i1).bind fun x=>sq x).bind fun xs=>cMap (fun wN=>(asI xa).bind fun i2=>((dAdd xa wA).bind asI).bind fun i3=>dSw wN i2 i3) xs).bind fun x1=>t F.aK [x1]).bind fun x2=>oApp wy x2) fun wL =>
 .nx wL
def dG (t:Nat→List D→R D)(wm:D)(wA:D)(wy:List D)(w8:D):L (List D) :=
 lS (lB (sq (.tup [(.int 0),wA])) fun xs1=>lFor (τ:=List D) (fun s x=>dF t wm wA w8 s x) xs1 wy) fun xh =>
 .nx xh
def dn (t:Nat→List D→R D)(wm:D):L Unit :=
 lS (lB (sq wm) fun xs=>lFor (τ:=List D) (fun s x=>cx t s x) xs []) fun wD =>
 lS (lB (σ:=Unit) (asB ((dLenSet [(.lst wD)]).bind fun x1=>dEq x1 (.int 1))) fun b=>if b=true then lB (dIx (.lst wD) (.int 0)) .rt else .nx ()) fun _ =>
 lB ((dLen [wm]).bind fun x2=>dDiv x2 (.int 2)) fun wA =>
 lS (lB (sq (.tup [(.int 0),wA])) fun xs3=>lFor (τ:=List D) (fun s x=>dG t wm wA s x) xs3 []) fun xh =>
 lB (dTuple [(.lst xh)]) .rt
def kB (t:Nat→List D→R D)(wm:D):L Unit :=
 lB ((onL (.lst [(.int 1),(.int 2),(.int 4),(.int 8)]) fun ls=>(dLen [wm]).bind fun x=>dIndexI ls [x]).bind fun x1=>(t F.aK [wm]).bind fun x2=>.ok (.tup [x1,x2])) .rt
def da (t:Nat→List D→R D)(wt:D)(wO:List D)(wE:D):L (List D) :=
 lB (((((dIx wt wE).bind fun x=>t F.aE [x]).bind fun x1=>sq x1).bind fun xs=>cMap (fun wz=>dAdd (.tup [wE]) wz) xs).bind fun x2=>oExt wO x2) fun wS =>
 .nx wS
def cK (t:Nat→List D→R D)(wt:D):L Unit :=
 lS (lB (σ:=List D) (asB (dIsA qTup wt)) fun b=>if b=true then lS (lB ((dLen [wt]).bind fun x=>rng1 [x]) fun xs1=>lFor (τ:=List D) (fun s x=>da t wt s x) xs1 [(.tup [])]) fun wS =>
 .nx wS else .nx [(.tup [])]) fun xn =>
 .rt (.lst xn)
def fE (t:Nat→List D→R D)(wt:D)(wz:D)(xy:D):L Unit :=
 lS (lB (σ:=Unit) (asB (dEq wz (.tup []))) fun b=>if b=true then .rt xy else .nx ()) fun _ =>
 lB (dIx wz (.int 0)) fun wE =>
 lB ((((asI wE).bind fun i=>dSw wt none i).bind fun x=>(((dIx wt wE).bind fun x1=>(dSw wz (some 1) none).bind fun x2=>t F.aN [x1,x2,xy]).bind fun x3=>.ok (.tup [x3])).bind fun x4=>dAdd x x4).bind fun x5=>(((dAdd wE (.int 1)).bind asI).bind fun i1=>dSw wt i1 none).bind fun x6=>dAdd x5 x6) .rt
def dH (t:Nat→List D→R D)(wt:D)(wE:D):L (D) :=
 lB (dIx wt wE) fun xr =>
 .nx xr
def eN (t:Nat→List D→R D)(wt:D)(wz:D):L Unit :=
 lS (lB (sq wz) fun xs=>lFor (τ:=D) (fun s x=>dH t s x) xs wt) fun xG =>
 .rt xG
def bq (t:Nat→List D→R D)(wn:D)(wM:D)(wt:D):L Unit :=
 lB (t F.aE [wt]) fun wG =>
 lB (((dLen [wG]).bind fun x=>t F.ac [wn,wM,x]).bind fun x1=>dIx wG x1) fun wz =>
 lB (t F.aM [wt,wz]) fun xo =>
 lB (((dMul (.tup [xo]) (.int 4)).bind fun x2=>.ok (.lst [(.lst [(.int 1),(.int 2),(.int 3),(.int 4)]),x2])).bind fun x3=>oExt [(.int (-1)),(.int 0),(.int 3),(.int 4),(.int 9),(.int 10),(.bl true),.non,(.str "1"),(.tup []),(.tup [(.int 1),(.int 2),(.int 3)]),(.tup [(.int 1),(.int 1),(.int 1),(.int 1)]),(.tup [(.int 1),(.int 2),(.int 3),(.int 4),(.int 5)])] x3) fun wx =>
 lB ((((dAdd wM (.int 1)).bind fun x4=>t F.ac [wn,x4,(.int 15)]).bind fun x5=>oIx wx x5).bind fun x6=>t F.aN [wt,wz,x6]) .rt
def b8 (t:Nat→List D→R D)(wt:D)(wq:D):L Unit :=
 lS (lB (σ:=Unit) (rAnd (asB (dIsA qInt wt)) (rNot (asB (dIsA qBool wt)))) fun b=>if b=true then lB (rCh dLe dLe (.int 0) wt (.ok (.int 9))) .rt else .nx ()) fun _ =>
 lS (lB (σ:=Unit) (rOr (rNot (asB (dIsA qTup wt))) (rOr (asB ((dLen [wt]).bind fun x=>dNf x (.int 4))) (asB (dEq wq (.int 0))))) fun b1=>if b1=true then .rt (.bl false) else .nx ()) fun _ =>
 lB (((sq wt).bind fun xs=>cFil (fun wW=>(rNot (asB ((dSub wq (.int 1)).bind fun x1=>t F.ak [wW,x1])))) (fun wW=>.ok wW) xs).bind fun x2=>dEq x2 (.lst [])) .rt
def bO (t:Nat→List D→R D)(wt:D):L Unit :=
 lS (lB (σ:=Unit) (rOr (rNot (asB (dIsA qTup wt))) (rOr (asB ((dLen [wt]).bind fun x2=>dNf x2 (.int 2))) (rOr (rNot (asB ((dIx wt (.int 0)).bind fun x1=>dIsA qInt x1))) (asB ((dIx wt (.int 0)).bind fun x=>dIsA qBool x))))) fun b=>if b=true then .rt (.bl false) else .nx ()) fun _ =>
 lB (vAnd ((dIx wt (.int 0)).bind fun x5=>rCh dLe dLe (.int 0) x5 (.ok (.int 3))) ((dIx wt (.int 1)).bind fun x3=>(dIx wt (.int 0)).bind fun x4=>t F.ak [x3,x4])) .rt
def dq (t:Nat→List D→R D)(wH:D):L Unit :=
 lB ((dIsA (qEx esL 3) wH).bind fun x=>(dIsA (qEx esL 6) wH).bind fun x1=>(dIsA (qEx esL 7) wH).bind fun x2=>.ok [x,x1,x2]) fun xz=>lB ((dIsA (qEx esL 8) wH).bind fun x3=>oApp xz x3) fun xt =>
 lB (((dIsA (qEx esL 1) wH).bind fun x4=>(dIsA (qEx esL 5) wH).bind fun x5=>(dIsA (qEx esL 2) wH).bind fun x6=>.ok (.lst [x4,x5,x6])).bind fun x7=>oExt xt x7) fun xv =>
 lB (((dIsA (qEx esL 10) wH).bind fun x8=>(dIsA (qEx esL 9) wH).bind fun x9=>(dIsA (qEx esL 4) wH).bind fun x10=>.ok (.lst [x8,x9,x10])).bind fun x11=>oExt xv x11) fun wU =>
 lS (lB (σ:=Unit) (rOr (asB ((onL (.lst wU) fun ls=>dCount ls [(.bl true)]).bind fun x12=>dNf x12 (.int 1))) (rNot (asB (dIsA (qVx esL) wH)))) fun b=>if b=true then .rt (.str "wrong") else .nx ()) fun _ =>
 lB ((dAdd (.lst [(.str "bad box"),(.str "no blocks"),(.str "no change"),(.str "no number"),(.str "no picture"),(.str "no rule"),(.str "no spot"),(.str "no text")]) (.lst [(.str "nothing done"),(.str "unlike")])).bind fun x13=>(onL (.lst wU) fun ls1=>dIndex ls1 [(.bl true)]).bind fun x14=>dIx x13 x14) .rt
def db (t:Nat→List D→R D)(wI:D)(wl:D)(wJ:D)(wu:D):L Unit :=
 lTry (τ:=D) (qTk esL) (lB (asB (dEq wI (.int 0))) fun b=>if b=true then lB (t F.af [wl,wJ]) fun xw =>
 .nx xw else lB (asB (dEq wI (.int 1))) fun b1=>if b1=true then lB (t F.ai [wl,wJ,wu]) fun xk =>
 .nx xk else lB (asB (dEq wI (.int 2))) fun b2=>if b2=true then lB (t F.aF [wl,wJ,wu]) fun xl =>
 .nx xl else lB (rIf (asB (dEq wI (.int 3))) (t F.aL [wl]) (t F.aj [wl])) fun xm =>
 .nx xm) (fun xb=>lS (lB (σ:=Unit) (asB (dIs .non .non)) fun b3=>if b3=true then .rt xb else .nx ()) fun _ =>
 lB (t F.ar [.non]) .rt) (fun k=>lS (lB (σ:=Unit) (asB (dIs (.exc k) .non)) fun b4=>if b4=true then lB (R.stuck) .rt else .nx ()) fun _ =>
 lB (t F.ar [(.exc k)]) .rt)
def fF (t:Nat→List D→R D)(wm:D)(wr:D):L Unit :=
 lB ((dLen [wm]).bind fun x=>dDiv x (.int 2)) fun wA =>
 lB ((dMod wr (.int 2)).bind fun x1=>dMul x1 wA) fun xa =>
 lB ((dDiv wr (.int 2)).bind fun x2=>dMul x2 wA) fun w8 =>
 lB (((((asI w8).bind fun i=>((dAdd w8 wA).bind asI).bind fun i1=>dSw wm i i1).bind fun x3=>sq x3).bind fun xs=>cMap (fun wN=>(asI xa).bind fun i2=>((dAdd xa wA).bind asI).bind fun i3=>dSw wN i2 i3) xs).bind fun x4=>dTuple [x4]) .rt
def cy (t:Nat→List D→R D)(wx:D):L Unit :=
 lB (((dIx wx (.int 0)).bind fun x=>(dIx wx (.int 1)).bind fun x1=>dZip x x1).bind fun xs=>cMap (fun p=>un2 p fun wJ wu=>dAdd wJ wu) xs) fun wO =>
 lB (((((dIx wx (.int 2)).bind fun x2=>(dIx wx (.int 3)).bind fun x3=>dZip x2 x3).bind fun xs1=>cMap (fun p1=>un2 p1 fun xi xK=>dAdd xi xK) xs1).bind fun x4=>dAdd wO x4).bind fun x5=>dTuple [x5]) .rt
def aR (t:Nat→List D→R D)(wn:D)(wl:D)(wm:D):L Unit :=
 lB (dIx wl (.int 0)) fun wq =>
 lB ((sq wm).bind fun xs=>cMap (fun wN=>((((dLen [wN]).bind fun x=>dMul (.int 2) x).bind fun x1=>rng1 [x1]).bind fun xs1=>cMap (fun xI=>(dDiv xI (.int 2)).bind fun x2=>dIx wN x2) xs1).bind fun x3=>dTuple [x3]) xs) fun xD =>
 lB (((((dLen [wm]).bind fun x4=>dMul (.int 2) x4).bind fun x5=>rng1 [x5]).bind fun xs2=>cMap (fun xJ=>(dDiv xJ (.int 2)).bind fun x6=>dIx xD x6) xs2).bind fun x7=>dTuple [x7]) fun wV =>
 lS (lB (σ:=Unit) (asB ((t F.ab [(.int 3),wl,.non,.non]).bind fun x8=>(rIf (asB (dLt wq (.int 3))) (t F.an [wV]) (.ok (.str "unlike"))).bind fun x9=>dNf x8 x9)) fun b=>if b=true then .rt (.bl false) else .nx ()) fun _ =>
 lB ((rng1 [(.int 4)]).bind fun xs3=>cMap (fun wE=>((dMul (.int 400) wE).bind fun x10=>dAdd (.int 6000) x10).bind fun x11=>((t F.ac [wn,(.int 5202),(.int 3)]).bind fun x12=>dAdd (.int 1) x12).bind fun x13=>t F.ae [wn,x11,x13]) xs3) fun wR =>
 lB ((sq wR).bind fun xs4=>cMap (fun wJ=>dIx wJ (.int 0)) xs4) fun wX =>
 lB (vAnd ((dMinL [wX]).bind fun x15=>(dMaxL [wX]).bind fun x16=>dEq x15 x16) ((dIx wX (.int 0)).bind fun x14=>dLt x14 (.int 3))) fun xE =>
 lB (rIf (asB (.ok xE)) ((((sq wR).bind fun xs5=>cMap (fun xi=>t F.ao [xi]) xs5).bind fun x17=>t F.al [x17]).bind fun x18=>t F.an [x18]) (.ok (.str "unlike"))) fun wQ =>
 lB ((t F.ab [(.int 4),wR,.non,.non]).bind fun x19=>dEq x19 wQ) .rt
def bP (t:Nat→List D→R D)(wr:D)(wx:D)(xL:D):L (D) :=
 lB (t F.aG [wx,wr]) fun xA =>
 .nx xA
def eO (t:Nat→List D→R D)(wn:D):L Unit :=
 lB (t F.ae [wn,(.int 0),(.int 3)]) fun wl =>
 lB (t F.ao [wl]) fun wm =>
 lB (dIx wl (.int 0)) fun wq =>
 lB ((((t F.ac [wn,(.int 4999),(.int 2)]).bind fun x=>dSub wq x).bind fun x1=>dMax2 [(.int 0),x1]).bind fun x2=>t F.ae [wn,(.int 5000),x2]) fun wu =>
 lB ((t F.ac [wn,(.int 5200),(.int 6)]).bind fun x3=>dSub x3 (.int 1)) fun wr =>
 lB (rCh dLe dLt (.int 0) wr (.ok (.int 4))) fun ww =>
 lS (lB (σ:=D) (rAnd (asB (dGt wq (.int 0))) (asB (.ok ww))) fun b=>if b=true then lB (((rng1 [(.int 4)]).bind fun xs=>cMap (fun wE=>t F.aG [wm,wE]) xs).bind fun x11=>asLst x11) fun wy=>lB (((oIx wy wr).bind fun x4=>t F.an [x4]).bind fun x5=>.ok [x5,(.str "unlike")]) fun wQ=>lB (asB ((dIx wu (.int 0)).bind fun x6=>(dSub wq (.int 1)).bind fun x7=>dEq x6 x7)) fun b1=>if b1=true then lB ((t F.ao [wu]).bind fun x8=>oSt wy wr x8) fun wL=>lB (((t F.al [(.lst wL)]).bind fun x9=>t F.an [x9]).bind fun x10=>oSt wQ (.int 1) x10) fun xj=>.nx (.lst xj) else .nx (.lst wQ) else .nx (.lst [(.str "no spot"),(.str "no spot")])) fun wF =>
 lS (lB (σ:=Unit) (asB (((rng1 [(.int 2)]).bind fun xs1=>cMap (fun wI=>t F.ab [wI,wl,wr,wu]) xs1).bind fun x12=>dNf x12 wF)) fun b2=>if b2=true then .rt (.bl false) else .nx ()) fun _ =>
 lS (lB (σ:=Unit) (asB (dGt wq (.int 0))) fun b3=>if b3=true then lB ((rng1 [(.int 4)]).bind fun xs2=>cMap (fun xH=>t F.af [wl,xH]) xs2) fun wx =>
 lB (asB ((t F.ab [(.int 4),wx,.non,.non]).bind fun x13=>(t F.an [wm]).bind fun x14=>dNf x13 x14)) fun b4=>if b4=true then .rt (.bl false) else .nx () else .nx ()) fun _ =>
 lB ((t F.ac [wn,(.int 5201),(.int 6)]).bind fun x15=>dSub x15 (.int 1)) fun wB =>
 lS (lB ((rIf (rAnd (asB (.ok ww)) (asB (rCh dLe dLe (.int 0) wB (.ok wq)))) (.ok wB) (.ok (.int 0))).bind fun x16=>rng1 [x16]) fun xs3=>lFor (τ:=D) (fun s x=>bP t wr s x) xs3 wm) fun wT =>
 lS (lB (σ:=Unit) (asB ((t F.ab [(.int 2),wl,wr,wB]).bind fun x18=>(rIf (rAnd (asB (.ok ww)) (asB (rCh dLe dLe (.int 0) wB (.ok wq)))) (t F.an [wT]) (.ok (.str "no spot"))).bind fun x19=>dNf x18 x19)) fun b5=>if b5=true then .rt (.bl false) else .nx ()) fun _ =>
 lS (lB (σ:=Unit) (rNot (asB (t F.ah [wn,wl,wm]))) fun b6=>if b6=true then .rt (.bl false) else .nx ()) fun _ =>
 lB (t F.ag [wn,(.int 8000),wl]) fun wK =>
 lS (lB (σ:=Unit) (asB (t F.au [wK])) fun b7=>if b7=true then .rt (.bl true) else .nx ()) fun _ =>
 lB ((t F.ab [(.int 0),wK,(.int 9),.non]).bind fun x20=>(t F.ab [(.int 1),wK,(.int 9),wu]).bind fun x21=>(t F.ab [(.int 1),wl,(.int 9),wK]).bind fun x22=>(t F.ab [(.int 2),wK,(.int 9),(.int 9)]).bind fun x23=>.ok [x20,x21,x22,x23]) fun xg=>lB (((t F.ab [(.int 3),wK,.non,.non]).bind fun x24=>(t F.ab [(.int 4),(.lst [wl,wK,wl,wl]),.non,.non]).bind fun x25=>.ok (.lst [x24,x25])).bind fun x26=>oExt xg x26) fun wZ =>
 lB ((dMul (.lst [(.str "no picture")]) (.int 6)).bind fun x27=>dEq (.lst wZ) x27) .rt
def pf:Nat→Nat→List D→R D
 | 0,_=>fun _=>.stuck
 | n+1,i=>match i with
  | 20=>a1 (e6 (pf n))
  | 21=>a1 (dE (pf n))
  | 22=>a1 (eL (pf n))
  | 23=>a3 (dm (pf n))
  | 24=>a2 (bz (pf n))
  | 25=>a1 (bM (pf n))
  | 26=>a1 (bY (pf n))
  | 105=>a1 (bU (pf n))
  | 27=>a1 (cu (pf n))
  | 28=>a1 (bE (pf n))
  | 29=>a1 (kA (pf n))
  | 106=>a1 (cv (pf n))
  | 107=>a2 (bF (pf n))
  | 108=>a2 (bp (pf n))
  | 109=>a1 (bN (pf n))
  | 110=>a1 (bu (pf n))
  | 111=>a1 (eM (pf n))
  | 112=>a3 (aJ (pf n))
  | 113=>a3 (cA (pf n))
  | 30=>a2 (fB (pf n))
  | 31=>a3 (fC (pf n))
  | 32=>a3 (eh (pf n))
  | 33=>a3 (cW (pf n))
  | 54=>a2 (bZ (pf n))
  | 55=>a1 (fD (pf n))
  | 56=>a1 (dn (pf n))
  | 57=>a1 (kB (pf n))
  | 34=>a1 (cK (pf n))
  | 35=>a3 (fE (pf n))
  | 36=>a2 (eN (pf n))
  | 37=>a3 (bq (pf n))
  | 39=>a2 (b8 (pf n))
  | 38=>a1 (bO (pf n))
  | 40=>a1 (dq (pf n))
  | 114=>a4 (db (pf n))
  | 115=>a2 (fF (pf n))
  | 116=>a1 (cy (pf n))
  | 117=>a3 (aR (pf n))
  | 118=>a1 (eO (pf n))
  | _=>fun _=>.stuck
theorem lG (n:Nat)(a0:D):pf (n+1) F.av [a0]=outL (e6 (pf n) a0):=rfl
theorem lH (n:Nat)(a0:D):pf (n+1) F.aw [a0]=outL (dE (pf n) a0):=rfl
theorem mH (n:Nat)(a0:D):pf (n+1) F.aJ [a0]=outL (eL (pf n) a0):=rfl
theorem iP (n:Nat)(a0 a1 a2:D):pf (n+1) F.aC [a0,a1,a2]=outL (dm (pf n) a0 a1 a2):=rfl
theorem gr (n:Nat)(a0 a1:D):pf (n+1) F.aA [a0,a1]=outL (bz (pf n) a0 a1):=rfl
theorem gZ (n:Nat)(a0:D):pf (n+1) F.aD [a0]=outL (bM (pf n) a0):=rfl
theorem fG (n:Nat)(a0:D):pf (n+1) F.ad [a0]=outL (bY (pf n) a0):=rfl
theorem iQ (n:Nat)(a0:D):pf (n+1) F.ax [a0]=outL (bU (pf n) a0):=rfl
theorem jt (n:Nat)(a0:D):pf (n+1) F.aI [a0]=outL (cu (pf n) a0):=rfl
theorem gu (n:Nat)(a0:D):pf (n+1) F.aa [a0]=outL (bE (pf n) a0):=rfl
theorem tH (n:Nat)(a0:D):pf (n+1) F.aP [a0]=outL (kA (pf n) a0):=rfl
theorem ju (n:Nat)(a0:D):pf (n+1) F.aq [a0]=outL (cv (pf n) a0):=rfl
theorem gw (n:Nat)(a0 a1:D):pf (n+1) F.ap [a0,a1]=outL (bF (pf n) a0 a1):=rfl
theorem dc (n:Nat)(a0 a1:D):pf (n+1) F.af [a0,a1]=outL (bp (pf n) a0 a1):=rfl
theorem eS (n:Nat)(a0:D):pf (n+1) F.aB [a0]=outL (bN (pf n) a0):=rfl
theorem ek (n:Nat)(a0:D):pf (n+1) F.aj [a0]=outL (bu (pf n) a0):=rfl
theorem iR (n:Nat)(a0:D):pf (n+1) F.aL [a0]=outL (eM (pf n) a0):=rfl
theorem a9 (n:Nat)(a0 a1 a2:D):pf (n+1) F.ai [a0,a1,a2]=outL (aJ (pf n) a0 a1 a2):=rfl
theorem e7 (n:Nat)(a0 a1 a2:D):pf (n+1) F.aF [a0,a1,a2]=outL (cA (pf n) a0 a1 a2):=rfl
theorem oM (n:Nat)(a0 a1:D):pf (n+1) F.aO [a0,a1]=outL (fB (pf n) a0 a1):=rfl
theorem oN (n:Nat)(a0 a1 a2:D):pf (n+1) F.ac [a0,a1,a2]=outL (fC (pf n) a0 a1 a2):=rfl
theorem jT (n:Nat)(a0 a1 a2:D):pf (n+1) F.ay [a0,a1,a2]=outL (eh (pf n) a0 a1 a2):=rfl
theorem kC (n:Nat)(a0 a1 a2:D):pf (n+1) F.ae [a0,a1,a2]=outL (cW (pf n) a0 a1 a2):=rfl
theorem fH (n:Nat)(a0 a1:D):pf (n+1) F.az [a0,a1]=outL (bZ (pf n) a0 a1):=rfl
theorem oO (n:Nat)(a0:D):pf (n+1) F.ao [a0]=outL (fD (pf n) a0):=rfl
theorem iS (n:Nat)(a0:D):pf (n+1) F.aK [a0]=outL (dn (pf n) a0):=rfl
theorem tJ (n:Nat)(a0:D):pf (n+1) F.an [a0]=outL (kB (pf n) a0):=rfl
theorem gR (n:Nat)(a0:D):pf (n+1) F.aE [a0]=outL (cK (pf n) a0):=rfl
theorem lI (n:Nat)(a0 a1 a2:D):pf (n+1) F.aN [a0,a1,a2]=outL (fE (pf n) a0 a1 a2):=rfl
theorem mI (n:Nat)(a0 a1:D):pf (n+1) F.aM [a0,a1]=outL (eN (pf n) a0 a1):=rfl
theorem fI (n:Nat)(a0 a1 a2:D):pf (n+1) F.ag [a0,a1,a2]=outL (bq (pf n) a0 a1 a2):=rfl
theorem fJ (n:Nat)(a0 a1:D):pf (n+1) F.ak [a0,a1]=outL (b8 (pf n) a0 a1):=rfl
theorem g6 (n:Nat)(a0:D):pf (n+1) F.au [a0]=outL (bO (pf n) a0):=rfl
theorem gz (n:Nat)(a0:D):pf (n+1) F.ar [a0]=outL (dq (pf n) a0):=rfl
theorem nJ (n:Nat)(a0 a1 a2 a3:D):pf (n+1) F.ab [a0,a1,a2,a3]=outL (db (pf n) a0 a1 a2 a3):=rfl
theorem oP (n:Nat)(a0 a1:D):pf (n+1) F.aG [a0,a1]=outL (fF (pf n) a0 a1):=rfl
theorem jv (n:Nat)(a0:D):pf (n+1) F.al [a0]=outL (cy (pf n) a0):=rfl
theorem d0 (n:Nat)(a0 a1 a2:D):pf (n+1) F.ah [a0,a1,a2]=outL (aR (pf n) a0 a1 a2):=rfl
theorem mJ (n:Nat)(a0:D):pf (n+1) F.aH [a0]=outL (eO (pf n) a0):=rfl
end Lw
end
noncomputable section
set_option maxHeartbeats 4000000
namespace Lw
open PySem PySem.Spec PyProof.Rows L2 FF
def top (i:Nat):Stmt:=PySem.Challenge.pw_fourfold_k11_whole_quarters.main.body.getD i (.Pass ⟨0,0,0,0⟩)
abbrev e8:Stmt:=top 15
theorem lJ:FnScope ["thing"] ["thing"] (defScope e8):=mkSc
abbrev e9:Stmt:=top 16
theorem lK:FnScope ["thing"] ["thing"] (defScope e9):=mkSc
abbrev gA:Stmt:=top 17
theorem mK:FnScope ["thing"] ["thing"] (defScope gA):=mkSc
abbrev gC:Stmt:=top 18
theorem mM:FnScope ["size","thing","is_end"] ["size","thing","is_end"] (defScope gC):=mkSc
abbrev cj:Stmt:=top 19
theorem gD:FnScope ["thing","is_end"] ["thing","is_end"] (defScope cj):=mkSc
abbrev cL:Stmt:=top 20
theorem dY:FnScope ["four","first"] ["four"] (defScope cL):=mkSc
abbrev en:Stmt:=top 21
theorem kD:FnScope ["tree"] ["tree"] (defScope en):=mkSc
abbrev de:Stmt:=top 22
theorem iT:FnScope ["tree"] ["tree"] (defScope de):=mkSc
abbrev dJ:Stmt:=top 24
theorem jw:FnScope ["thing"] ["thing"] (defScope dJ):=mkSc
abbrev ck:Stmt:=top 25
theorem gE:FnScope ["thing"] ["thing"] (defScope ck):=mkSc
abbrev mO:Stmt:=top 26
theorem tK:FnScope ["picture"] ["picture"] (defScope mO):=mkSc
abbrev dL:Stmt:=top 28
theorem jy:FnScope ["number"] ["number"] (defScope dL):=mkSc
abbrev cn:Stmt:=top 29
theorem gF:FnScope ["picture","number"] ["picture","number"] (defScope cn):=mkSc
abbrev dM:Stmt:=top 30
theorem jz:FnScope ["picture","number"] ["picture","number"] (defScope dM):=mkSc
abbrev dN:Stmt:=top 31
theorem eT:FnScope ["four","picture"] ["four"] (defScope dN):=mkSc
abbrev df:Stmt:=top 32
theorem et:FnScope ["four","size"] ["four"] (defScope df):=mkSc
abbrev kE:Stmt:=top 33
theorem rm:FnScope ["picture"] ["picture"] (defScope kE):=mkSc
abbrev cM:Stmt:=top 35
theorem dZ:FnScope ["picture","number","other","parts"] ["picture","number","other"] (defScope cM):=mkSc
abbrev gG:Stmt:=top 36
theorem dO:FnScope ["picture","number","times","part","step"] ["picture","number","times"] (defScope gG):=mkSc
abbrev iU:Stmt:=top 38
theorem oQ:FnScope ["_law_script","_law_k"] ["_law_script","_law_k"] (defScope iU):=mkSc
abbrev iV:Stmt:=top 39
theorem jU:FnScope ["_law_script","_law_k","_law_many","_law_drawn"] ["_law_script","_law_k","_law_many"] (defScope iV):=mkSc
abbrev iW:Stmt:=top 40
theorem jV:FnScope ["_law_script","_law_at","_law_size","_law_way"] ["_law_script","_law_at","_law_size"] (defScope iW):=mkSc
abbrev ez:Stmt:=top 41
theorem fK:FnScope ["_law_script","_law_at","_law_most","_law_size"] ["_law_script","_law_at","_law_most"] (defScope ez):=mkSc
abbrev eB:Stmt:=top 42
theorem bQ:FnScope ["_law_size","_law_tree_here","_law_parts","_law_some","_law_made","_law_upper"] ["_law_size","_law_tree_here"] (defScope eB):=mkSc
abbrev iX:Stmt:=top 43
theorem oR:FnScope ["_law_picture_here"] ["_law_picture_here"] (defScope iX):=mkSc
abbrev gH:Stmt:=top 44
theorem bJ:FnScope ["_law_rows_here","_law_worths","_law_row","_law_half","_law_parts","_law_top","_law_left"] ["_law_rows_here"] (defScope gH):=mkSc
abbrev mP:Stmt:=top 45
theorem tM:FnScope ["_law_rows_here"] ["_law_rows_here"] (defScope mP):=mkSc
abbrev fe:Stmt:=top 46
theorem eD:FnScope ["_law_thing","_law_made","_law_k"] ["_law_thing"] (defScope fe):=mkSc
abbrev kF:Stmt:=top 47
theorem lL:FnScope ["_law_thing","_law_place","_law_new","_law_k"] ["_law_thing","_law_place","_law_new"] (defScope kF):=mkSc
abbrev gI:Stmt:=top 48
theorem ff:FnScope ["_law_thing","_law_place","_law_k"] ["_law_thing","_law_place"] (defScope gI):=mkSc
abbrev bS:Stmt:=top 49
theorem aS:FnScope ["_law_script","_law_at","_law_thing","_law_places_here","_law_place","_law_here","_law_some"] ["_law_script","_law_at","_law_thing"] (defScope bS):=mkSc
abbrev cN:Stmt:=top 50
theorem g7:FnScope ["_law_thing"] ["_law_thing"] (defScope cN):=mkSc
abbrev eE:Stmt:=top 51
theorem kG:FnScope ["_law_thing","_law_size"] ["_law_thing","_law_size"] (defScope eE):=mkSc
abbrev iY:Stmt:=top 52
theorem gJ:FnScope ["_law_kept","_law_kinds","_law_words"] ["_law_kept"] (defScope iY):=mkSc
abbrev mQ:Stmt:=top 53
theorem cX:FnScope ["_law_what","_law_picture_here","_law_one","_law_other","_law_kept","_law_answer","e"] ["_law_what","_law_picture_here","_law_one","_law_other"] (defScope mQ):=mkSc
abbrev iZ:Stmt:=top 54
theorem gK:FnScope ["_law_rows_here","_law_number","_law_half","_law_left","_law_top"] ["_law_rows_here","_law_number"] (defScope iZ):=mkSc
abbrev dP:Stmt:=top 55
theorem eU:FnScope ["_law_some","_law_made"] ["_law_some"] (defScope dP):=mkSc
abbrev bi:Stmt:=top 56
theorem ar:FnScope ["_law_script","_law_picture_here","_law_rows_here","_law_size","_law_wide","_law_others","_law_sizes","_law_fit","_law_due"] ["_law_script","_law_picture_here","_law_rows_here"] (defScope bi):=mkSc
abbrev bb:Stmt:=top 57
theorem aA:FnScope ["_law_script","_law_picture_here","_law_rows_here","_law_size","_law_other","_law_number","_law_is_there","_law_due","_law_parts","_law_some","_law_down","_law_again","_law_bad"] ["_law_script"] (defScope bb):=mkSc
structure Txt (K:PySem.W.Frag)(mg:Str→Option Value)(C:Nat→Addr)(wP:Params):Prop where
 b_ValueError:mg "ValueError"=none
 b_all:mg "all"=none
 b_any:mg "any"=none
 b_bool:mg "bool"=none
 b_int:mg "int"=none
 b_isinstance:mg "isinstance"=none
 b_len:mg "len"=none
 b_list:mg "list"=none
 b_max:mg "max"=none
 b_min:mg "min"=none
 b_range:mg "range"=none
 b_set:mg "set"=none
 b_tuple:mg "tuple"=none
 b_zip:mg "zip"=none
 k_GREATEST_WORTH:∃ t,mg "GREATEST_WORTH"=some (.int 9 t)
 k_LARGEST_SIZE:∃ t,mg "LARGEST_SIZE"=some (.int 3 t)
 f_is_worth:mg "is_worth"=some (.ref (C F.aw))
 c_FourError:mg "FourError"=some (.ref (C 0))
 c_NoPicture:mg "NoPicture"=some (.ref (C 1))
 c_NoSpot:mg "NoSpot"=some (.ref (C 2))
 c_BadBox:mg "BadBox"=some (.ref (C 3))
 c_Unlike:mg "Unlike"=some (.ref (C 4))
 c_NoRule:mg "NoRule"=some (.ref (C 5))
 c_NoBlocks:mg "NoBlocks"=some (.ref (C 6))
 c_NoChange:mg "NoChange"=some (.ref (C 7))
 c_NoNumber:mg "NoNumber"=some (.ref (C 8))
 c_NothingDone:mg "NothingDone"=some (.ref (C 9))
 c_NoText:mg "NoText"=some (.ref (C 10))
 x_NoPicture:PySem.W.excIn K (C 1) bmVE "ValueError.__new__"=true
 x_NoSpot:PySem.W.excIn K (C 2) bmVE "ValueError.__new__"=true
 x_Unlike:PySem.W.excIn K (C 4) bmVE "ValueError.__new__"=true
 i_BadBox:IsA K C (.ref (C 3)) (qEx esL 3)
 i_NoBlocks:IsA K C (.ref (C 6)) (qEx esL 6)
 i_NoChange:IsA K C (.ref (C 7)) (qEx esL 7)
 i_NoNumber:IsA K C (.ref (C 8)) (qEx esL 8)
 i_NoPicture:IsA K C (.ref (C 1)) (qEx esL 1)
 i_NoRule:IsA K C (.ref (C 5)) (qEx esL 5)
 i_NoSpot:IsA K C (.ref (C 2)) (qEx esL 2)
 i_NoText:IsA K C (.ref (C 10)) (qEx esL 10)
 i_NothingDone:IsA K C (.ref (C 9)) (qEx esL 9)
 i_Unlike:IsA K C (.ref (C 4)) (qEx esL 4)
 i_ValueError:IsA K C (.ty "ValueError") (qVx esL)
 takes:Takes K C (C 0) (qTk esL)
structure Tab (P:Program)(w:World)(K:PySem.W.Frag)(mg:Str→Option Value)(base:Heap)(C:Nat→Addr)(k:Nat)(t:Nat→List FF.D→FF.R FF.D):Prop where
 g20:Fn1 P w K mg base C k "is_whole" ["thing"] (t F.av)
 g21:Fn1 P w K mg base C k "is_worth" ["thing"] (t F.aw)
 g22:Fn1 P w K mg base C k "is_size" ["thing"] (t F.aJ)
 g23:Fn1 P w K mg base C k "is_tree" ["size","thing","is_end"] (t F.aC)
 g24:Fn1 P w K mg base C k "is_sized_tree" ["thing","is_end"] (t F.aA)
 g25:Fn1 P w K mg base C k "put_together" ["four"] (t F.aD)
 g26:Fn1 P w K mg base C k "lean_tree" ["tree"] (t F.ad)
 g105:Fn1 P w K mg base C k "quarters_in" ["tree"] (t F.ax)
 g27:Fn1 P w K mg base C k "is_picture" ["thing"] (t F.aI)
 g28:Fn1 P w K mg base C k "check_picture" ["thing"] (t F.aa)
 g29:Fn1 P w K mg base C k "lean" ["picture"] (t F.aP)
 g106:Fn1 P w K mg base C k "is_quarter" ["number"] (t F.aq)
 g107:Fn1 P w K mg base C k "check_quarter" ["picture","number"] (t F.ap)
 g108:Fn1 P w K mg base C k "quarter_of" ["picture","number"] (t F.af)
 g109:Fn1 P w K mg base C k "check_four" ["four"] (t F.aB)
 g110:Fn1 P w K mg base C k "of_quarters" ["four"] (t F.aj)
 g111:Fn1 P w K mg base C k "grown" ["picture"] (t F.aL)
 g112:Fn1 P w K mg base C k "with_quarter" ["picture","number","other"] (t F.ai)
 g113:Fn1 P w K mg base C k "cut_out" ["picture","number","times"] (t F.aF)
 g30:Fn1 P w K mg base C k "_law_cell" ["_law_script","_law_k"] (t F.aO)
 g31:Fn1 P w K mg base C k "_law_pick" ["_law_script","_law_k","_law_many"] (t F.ac)
 g32:Fn1 P w K mg base C k "_law_tree" ["_law_script","_law_at","_law_size"] (t F.ay)
 g33:Fn1 P w K mg base C k "_law_picture" ["_law_script","_law_at","_law_most"] (t F.ae)
 g54:Fn1 P w K mg base C k "_law_rows_of" ["_law_size","_law_tree_here"] (t F.az)
 g55:Fn1 P w K mg base C k "_law_rows" ["_law_picture_here"] (t F.ao)
 g56:Fn1 P w K mg base C k "_law_least" ["_law_rows_here"] (t F.aK)
 g57:Fn1 P w K mg base C k "_law_of" ["_law_rows_here"] (t F.an)
 g34:Fn1 P w K mg base C k "_law_places" ["_law_thing"] (t F.aE)
 g35:Fn1 P w K mg base C k "_law_put" ["_law_thing","_law_place","_law_new"] (t F.aN)
 g36:Fn1 P w K mg base C k "_law_there" ["_law_thing","_law_place"] (t F.aM)
 g37:Fn1 P w K mg base C k "_law_spoilt_thing" ["_law_script","_law_at","_law_thing"] (t F.ag)
 g38:Fn1 P w K mg base C k "_law_is_picture" ["_law_thing"] (t F.au)
 g39:Fn1 P w K mg base C k "_law_is_tree" ["_law_thing","_law_size"] (t F.ak)
 g40:Fn1 P w K mg base C k "_law_word" ["_law_kept"] (t F.ar)
 g114:Fn1 P w K mg base C k "_law_do" ["_law_what","_law_picture_here","_law_one","_law_other"] (t F.ab)
 g115:Fn1 P w K mg base C k "_law_part" ["_law_rows_here","_law_number"] (t F.aG)
 g116:Fn1 P w K mg base C k "_law_together" ["_law_some"] (t F.al)
 g117:Fn1 P w K mg base C k "_law_are_larger_right" ["_law_script","_law_picture_here","_law_rows_here"] (t F.ah)
 g118:Fn1 P w K mg base C k "law" ["_law_script"] (t F.aH)
 v:∀ i∈fvL,FnV P w K mg base C k i (t i)
section
variable {P:Program}{w:World}{K:PySem.W.Frag}{mg:Str→Option Value}{base:Heap}{C:Nat→Addr}{k:Nat}{t:Nat→List FF.D→FF.R FF.D}(T:Txt K mg C w.params)(G:Tab P w K mg base C k t)
include T G
theorem lM:OkD P w K mg base C k "is_whole" e8 ["thing"] (a1 (e6 t)):=ok1 lJ fun thing _ _ _ _ _ _ _ _ bx _ _=>by
 show FL _ _ [vv thing] _ _ _
 refine aw (aj (eW (ao bx rfl T.b_isinstance ky (ac 0) (aN rfl T.b_int (by decide +kernel) rfl)) (eV (uT (ao bx rfl T.b_isinstance iC (ac 0) (aN rfl T.b_bool (by decide +kernel) rfl)))))) ?_
 rfl
theorem gS:OkD P w K mg base C k "is_worth" e9 ["thing"] (a1 (dE t)):=ok1 lK fun thing _ _ _ _ _ _ _ _ bx _ _=>by
 show FL _ _ [vv thing] _ _ _
 refine aw (aj (eW (af bx G.g20 rfl (aa (ac 0) ad)) (eV (fw ae (ac 0) (hJ T.k_GREATEST_WORTH rfl))))) ?_
 rfl
theorem mR:OkD P w K mg base C k "is_size" gA ["thing"] (a1 (eL t)):=ok1 mK fun thing _ _ _ _ _ _ _ _ bx _ _=>by
 show FL _ _ [vv thing] _ _ _
 refine aw (aj (eW (af bx G.g20 rfl (aa (ac 0) ad)) (eV (fw ae (ac 0) (hJ T.k_LARGEST_SIZE rfl))))) ?_
 rfl
theorem mS:OkD P w K mg base C k "is_tree" gC ["size","thing","is_end"] (a3 (dm t)):=ok3 mM fun size_ thing is_end _ _ _ _ _ _ _ _ bx _ _=>by
 show FL _ _ [vv size_,vv thing,vv is_end] _ _ _
 refine au (inj:=fun (_:Unit) (w:Unit)=>[vv size_,vv thing,vv is_end]) (ax (bf (aH (ao bx rfl T.b_isinstance cp (ac 1) (aN rfl T.b_tuple (by decide +kernel) rfl)))) ?_ ?_ ?_) (fun _ w=>?_)
 rfl
 ·refine aw (aj (qN bx G.v (ac 2) (aa (ac 1) ad))) ?_
  rfl
 ·exact ak ⟨(),rfl⟩
 refine au (inj:=fun (_:Unit) (w1:Unit)=>[vv size_,vv thing,vv is_end]) (ax (ft_w (cS (bX bx (ac 0) ae) (c7 (d9 bx (fe_N (bI bx rfl T.b_len (FAL.out (aa (ac 1) ad)))) ae)))) ?_ ?_ ?_) (fun _ w1=>?_)
 rfl
 ·refine aB (aj di) ?_
  rfl
 ·exact ak ⟨(),rfl⟩
 refine aw (aj (fe_N (u4 bx rfl T.b_all (FAL.out (aa (fe_C (aP (N:=["part","is_end","size"]) (own:=1) (cap:=[2,0]) bx (BlkOk.of (by kernel_rfl)) (aX bx.K (ac 1)) (aT (by decide)) (fun _ _ _ _ _=>ay 0 (show List.Nodup (α:=Str) ["part","is_end","size"] by decide +kernel)) (fun _ _ _ _ _=>(af (aq bx) G.g23 rfl (aa (cg (ac 2) ae) (aa (ac 0) (aa (ac 1) ad))))))) ad))))) ?_
 rfl
theorem gL:OkD P w K mg base C k "is_sized_tree" cj ["thing","is_end"] (a2 (bz t)):=ok2 gD fun thing is_end _ _ _ _ _ _ _ _ bx _ _=>by
 show FL _ _ [vv thing,vv is_end] _ _ _
 refine au (inj:=fun (_:Unit) (w:Unit)=>[vv thing,vv is_end]) (ax (ft_w (cS (bf (aH (ao bx rfl T.b_isinstance cp (ac 0) (aN rfl T.b_tuple (by decide +kernel) rfl)))) (c7 (d9 bx (fe_N (bI bx rfl T.b_len (FAL.out (aa (ac 0) ad)))) ae)))) ?_ ?_ ?_) (fun _ w=>?_)
 rfl
 ·refine aB (aj di) ?_
  rfl
 ·exact ak ⟨(),rfl⟩
 refine aw (aj (eW (af bx G.g22 rfl (aa (ag bx.K (ac 0) ae) ad)) (eV (af bx G.g23 rfl (aa (ag bx.K (ac 0) ae) (aa (ag bx.K (ac 0) ae) (aa (ac 1) ad))))))) ?_
 rfl
theorem g8:OkD P w K mg base C k "put_together" cL ["four"] (a1 (bM t)):=ok1 dY fun four _ _ _ _ _ _ _ _ bx _ _=>by
 show FL _ _ [vv four,nn] _ _ _
 refine ah (S':=fun first=>[vv four,vv first]) (av 1 dY.nd (ag bx.K (ac 0) ae)) ?_ (fun first=>?_)
 rfl
 refine au (inj:=fun (_:Unit) (w:Unit)=>[vv four,vv first]) (ax (ft_w (im (bf (aH (ao bx rfl T.b_isinstance cp (ac 1) (aN rfl T.b_tuple (by decide +kernel) rfl)))) (fq (bX bx (ac 0) (aG (aa (ac 1) (aa (ac 1) (aa (ac 1) (aa (ac 1) ad))))))))) ?_ ?_ ?_) (fun _ w=>?_)
 rfl
 ·refine aB (aj (ac 1)) ?_
  rfl
 ·exact ak ⟨(),rfl⟩
 refine aB (aj (ac 0)) ?_
 rfl
theorem kH:OkD P w K mg base C k "lean_tree" en ["tree"] (a1 (bY t)):=ok1 kD fun tree_ _ _ _ _ _ _ _ _ bx _ _=>by
 show FL _ _ [vv tree_] _ _ _
 refine au (inj:=fun (_:Unit) (w:Unit)=>[vv tree_]) (ax (bf (aH (ao bx rfl T.b_isinstance cp (ac 0) (aN rfl T.b_tuple (by decide +kernel) rfl)))) ?_ ?_ ?_) (fun _ w=>?_)
 rfl
 ·refine aB (aj (ac 0)) ?_
  rfl
 ·exact ak ⟨(),rfl⟩
 refine aw (aj (af bx G.g25 rfl (aa (fe_N (bh bx rfl T.b_tuple (FAL.out (aa (fe_C (aP (N:=["part"]) (own:=1) (cap:=[]) bx (BlkOk.of (by kernel_rfl)) (aX bx.K (ac 0)) (aT (by decide)) (fun _ _ _ _ _=>ay 0 (show List.Nodup (α:=Str) ["part"] by decide +kernel)) (fun _ _ _ _ _=>(af (aq bx) G.g26 rfl (aa (ac 0) ad))))) ad)))) ad))) ?_
 rfl
theorem i0:OkD P w K mg base C k "quarters_in" de ["tree"] (a1 (bU t)):=ok1 iT fun tree_ _ _ _ _ _ _ _ _ bx _ _=>by
 show FL _ _ [vv tree_] _ _ _
 refine au (inj:=fun (_:Unit) (w:Unit)=>[vv tree_]) (ax (aH (ao bx rfl T.b_isinstance cp (ac 0) (aN rfl T.b_tuple (by decide +kernel) rfl))) ?_ ?_ ?_) (fun _ w=>?_)
 rfl
 ·refine aB (aj (ac 0)) ?_
  rfl
 ·exact ak ⟨(),rfl⟩
 refine aB (aj (aG (aa (ac 0) (aa (ac 0) (aa (ac 0) (aa (ac 0) ad)))))) ?_
 rfl
theorem jA:OkD P w K mg base C k "is_picture" dJ ["thing"] (a1 (cu t)):=ok1 jw fun thing _ _ _ _ _ _ _ _ bx _ _=>by
 show FL _ _ [vv thing] _ _ _
 refine aw (aj (af bx G.g24 rfl (aa (ac 0) (aa (vS T.f_is_worth rfl) ad)))) ?_
 rfl
theorem gM:OkD P w K mg base C k "check_picture" ck ["thing"] (a1 (bE t)):=ok1 gE fun thing _ _ _ _ _ _ _ _ bx _ made=>by
 show FL _ _ [vv thing] _ _ _
 refine eZ (ax (bf (aH (af bx G.g27 rfl (aa (ac 0) ad)))) ?_ ?_ ?_)
 rfl
 ·refine iJ (cH 1 bx made rfl T.c_NoPicture T.x_NoPicture (FAL.out (aa aI ad))) ?_
  rfl
 ·exact ak True.intro
theorem tN:OkD P w K mg base C k "lean" mO ["picture"] (a1 (kA t)):=ok1 tK fun picture _ _ _ _ _ _ _ _ bx _ _=>by
 show FL _ _ [vv picture] _ _ _
 refine ah (S':=fun _=>[vv picture]) (bT (af bx G.g28 rfl (aa (ac 0) ad))) ?_ (fun _=>?_)
 rfl
 refine aw (aj (aG (aa (ag bx.K (ac 0) ae) (aa (af bx G.g26 rfl (aa (ag bx.K (ac 0) ae) ad)) ad)))) ?_
 rfl
theorem jB:OkD P w K mg base C k "is_quarter" dL ["number"] (a1 (cv t)):=ok1 jy fun number _ _ _ _ _ _ _ _ bx _ _=>by
 show FL _ _ [vv number] _ _ _
 refine aw (aj (eW (af bx G.g20 rfl (aa (ac 0) ad)) (eV (fw ae (ac 0) ae)))) ?_
 rfl
theorem gN:OkD P w K mg base C k "check_quarter" cn ["picture","number"] (a2 (bF t)):=ok2 gF fun picture number _ _ _ _ _ _ _ _ bx _ made=>by
 show FL _ _ [vv picture,vv number] _ _ _
 refine eZ (ax (ft_w (cS (bX bx (ag bx.K (ac 0) ae) ae) (c7 (bf (aH (af bx G.g106 rfl (aa (ac 1) ad))))))) ?_ ?_ ?_)
 rfl
 ·refine iJ (cH 2 bx made rfl T.c_NoSpot T.x_NoSpot (FAL.out (aa aI ad))) ?_
  rfl
 ·exact ak True.intro
theorem jC:OkD P w K mg base C k "quarter_of" dM ["picture","number"] (a2 (bp t)):=ok2 jz fun picture number _ _ _ _ _ _ _ _ bx _ _=>by
 show FL _ _ [vv picture,vv number] _ _ _
 refine ah (S':=fun _=>[vv picture,vv number]) (bT (af bx G.g28 rfl (aa (ac 0) ad))) ?_ (fun _=>?_)
 rfl
 refine ah (S':=fun _=>[vv picture,vv number]) (bT (af bx G.g107 rfl (aa (ac 0) (aa (ac 1) ad)))) ?_ (fun _=>?_)
 rfl
 refine aw (aj (aG (aa (cg (ag bx.K (ac 0) ae) ae) (aa (af bx G.g26 rfl (aa (ag bx.K (af bx G.g105 rfl (aa (ag bx.K (ac 0) ae) ad)) (ac 1)) ad)) ad)))) ?_
 rfl
theorem jD:OkD P w K mg base C k "check_four" dN ["four"] (a1 (bN t)):=ok1 eT fun four _ _ _ _ _ _ _ _ bx hpo made=>by
 show FL _ _ [vv four,nn] _ _ _
 refine au (inj:=fun (_:Unit) (w:Unit)=>[vv four,nn]) (ax (ft_w (cS (bf (aH (lF bx rfl T.b_isinstance rfl T.b_list rfl T.b_tuple (ac 0)))) (c7 (d9 bx (fe_N (bI bx rfl T.b_len (FAL.out (aa (ac 0) ad)))) ae)))) ?_ ?_ ?_) (fun _ w=>?_)
 rfl
 ·refine iJ (cH 1 bx made rfl T.c_NoPicture T.x_NoPicture (FAL.out (aa aI ad))) ?_
  rfl
 ·exact ak ⟨(),rfl⟩
 refine au (inj:=fun (s:Unit) (w1:Option Sl)=>[vv four,w1]) (cq 1 (B:=fun (s:Unit) (w1:Option Sl) x1=>[vv four,vv x1]) nn hpo rfl (aX bx.K (ac 0)) ?_ (ay 1 eT.nd) rfl (fun _ _ _=>rfl) (fun s w1 x1=>?_)) (fun _ w2=>?_)
 rfl
 ·refine ah (S':=fun _=>[vv four,vv x1]) (bT (af bx G.g28 rfl (aa (ac 1) ad))) ?_ (fun _=>?_)
  rfl
  exact ak ⟨vv x1,rfl⟩
 exact ak True.intro
theorem i4:OkD P w K mg base C k "of_quarters" df ["four"] (a1 (bu t)):=ok1 et fun four _ _ _ _ _ _ _ _ bx _ made=>by
 show FL _ _ [vv four,nn] _ _ _
 refine ah (S':=fun _=>[vv four,nn]) (bT (af bx G.g109 rfl (aa (ac 0) ad))) ?_ (fun _=>?_)
 rfl
 refine ah (S':=fun size_=>[vv four,vv size_]) (av 1 et.nd (ag bx.K (ag bx.K (ac 0) ae) ae)) ?_ (fun size_=>?_)
 rfl
 refine au (inj:=fun (_:Unit) (w:Unit)=>[vv four,vv size_]) (ax (ft_w (cS (bX bx (ac 1) (hJ T.k_LARGEST_SIZE rfl)) (c7 (aH (fe_N (ve bx rfl T.b_any (FAL.out (aa (fe_C (aP (N:=["picture","size"]) (own:=1) (cap:=[1]) bx (BlkOk.of (by kernel_rfl)) (aX bx.K (ac 0)) (aT (by decide)) (fun _ _ _ _ _=>ay 0 (show List.Nodup (α:=Str) ["picture","size"] by decide +kernel)) (fun _ _ _ _ _=>(vH (aq bx) (ag (aq bx).K (ac 0) ae) (ac 1))))) ad)))))))) ?_ ?_ ?_) (fun _ w=>?_)
 rfl
 ·refine iJ (cH 4 bx made rfl T.c_Unlike T.x_Unlike (FAL.out (aa aI ad))) ?_
  rfl
 ·exact ak ⟨(),rfl⟩
 refine aw (aj (aG (aa (aF bx.K (ac 1) ae) (aa (af bx G.g26 rfl (aa (fe_N (bh bx rfl T.b_tuple (FAL.out (aa (fe_C (aP (N:=["picture"]) (own:=1) (cap:=[]) bx (BlkOk.of (by kernel_rfl)) (aX bx.K (ac 0)) (aT (by decide)) (fun _ _ _ _ _=>ay 0 (show List.Nodup (α:=Str) ["picture"] by decide +kernel)) (fun _ _ _ _ _=>(ag (aq bx).K (ac 0) ae)))) ad)))) ad)) ad)))) ?_
 rfl
theorem rn:OkD P w K mg base C k "grown" kE ["picture"] (a1 (eM t)):=ok1 rm fun picture _ _ _ _ _ _ _ _ bx _ made=>by
 show FL _ _ [vv picture] _ _ _
 refine ah (S':=fun _=>[vv picture]) (bT (af bx G.g28 rfl (aa (ac 0) ad))) ?_ (fun _=>?_)
 rfl
 refine au (inj:=fun (_:Unit) (w:Unit)=>[vv picture]) (ax (bX bx (ag bx.K (ac 0) ae) (hJ T.k_LARGEST_SIZE rfl)) ?_ ?_ ?_) (fun _ w=>?_)
 rfl
 ·refine iJ (cH 4 bx made rfl T.c_Unlike T.x_Unlike (FAL.out (aa aI ad))) ?_
  rfl
 ·exact ak ⟨(),rfl⟩
 refine aw (aj (aG (aa (aF bx.K (ag bx.K (ac 0) ae) ae) (aa (af bx G.g26 rfl (aa (ag bx.K (ac 0) ae) ad)) ad)))) ?_
 rfl
theorem g9:OkD P w K mg base C k "with_quarter" cM ["picture","number","other"] (a3 (aJ t)):=ok3 dZ fun picture number other _ _ _ _ _ _ _ _ bx _ made=>by
 show FL _ _ [vv picture,vv number,vv other,nn] _ _ _
 refine ah (S':=fun _=>[vv picture,vv number,vv other,nn]) (bT (af bx G.g28 rfl (aa (ac 0) ad))) ?_ (fun _=>?_)
 rfl
 refine ah (S':=fun _=>[vv picture,vv number,vv other,nn]) (bT (af bx G.g28 rfl (aa (ac 2) ad))) ?_ (fun _=>?_)
 rfl
 refine ah (S':=fun _=>[vv picture,vv number,vv other,nn]) (bT (af bx G.g107 rfl (aa (ac 0) (aa (ac 1) ad)))) ?_ (fun _=>?_)
 rfl
 refine au (inj:=fun (_:Unit) (w:Unit)=>[vv picture,vv number,vv other,nn]) (ax (d9 bx (ag bx.K (ac 2) ae) (cg (ag bx.K (ac 0) ae) ae)) ?_ ?_ ?_) (fun _ w=>?_)
 rfl
 ·refine iJ (cH 4 bx made rfl T.c_Unlike T.x_Unlike (FAL.out (aa aI ad))) ?_
  rfl
 ·exact ak ⟨(),rfl⟩
 refine ah (S':=fun parts_=>[vv picture,vv number,vv other,ow parts_]) (vV (qH 3 bx dZ.nd rfl T.b_list (FAL.out (aa (af bx G.g105 rfl (aa (ag bx.K (ac 0) ae) ad)) ad)))) ?_ (fun parts_=>?_)
 rfl
 refine ah (S':=fun parts_1=>[vv picture,vv number,vv other,ow parts_1]) (fs_S (iH 3 bx (ag bx.K (ac 2) ae) (ac 1))) ?_ (fun parts_1=>?_)
 rfl
 refine c9 3 (S':=[vv picture,vv number,vv other,vv (.lst parts_1)]) rfl rfl ?_
 refine aw (aj (aG (aa (ag bx.K (ac 0) ae) (aa (af bx G.g26 rfl (aa (fe_N (bh bx rfl T.b_tuple (FAL.out (aa (ac 3) ad)))) ad)) ad)))) ?_
 rfl
theorem mT:OkD P w K mg base C k "cut_out" gG ["picture","number","times"] (a3 (cA t)):=ok3 dO fun picture number times _ _ _ _ _ _ _ _ bx hpo made=>by
 show FL _ _ [vv picture,vv number,vv times,nn,nn] _ _ _
 refine ah (S':=fun _=>[vv picture,vv number,vv times,nn,nn]) (bT (af bx G.g28 rfl (aa (ac 0) ad))) ?_ (fun _=>?_)
 rfl
 refine au (inj:=fun (_:Unit) (w:Unit)=>[vv picture,vv number,vv times,nn,nn]) (ax (ft_w (cS (bf (aH (af bx G.g106 rfl (aa (ac 1) ad)))) (cS (bf (aH (af bx G.g20 rfl (aa (ac 2) ad)))) (c7 (bf (kv ae (ac 2) (ag bx.K (ac 0) ae))))))) ?_ ?_ ?_) (fun _ w=>?_)
 rfl
 ·refine iJ (cH 2 bx made rfl T.c_NoSpot T.x_NoSpot (FAL.out (aa aI ad))) ?_
  rfl
 ·exact ak ⟨(),rfl⟩
 refine ah (S':=fun part=>[vv picture,vv number,vv times,vv part,nn]) (av 3 dO.nd (af bx G.g29 rfl (aa (ac 0) ad))) ?_ (fun part=>?_)
 rfl
 refine au (inj:=fun (s:D) (w1:Option Sl)=>[vv picture,vv number,vv times,vv s,w1]) (cq 4 (B:=fun (s:D) (w1:Option Sl) x=>[vv picture,vv number,vv times,vv s,vv x]) nn hpo rfl (eg (aV rfl T.b_range (FAL.out (aa (ac 2) ad)))) ?_ (ay 4 dO.nd) rfl (fun _ _ _=>rfl) (fun s w1 x=>?_)) (fun part2 w2=>?_)
 rfl
 ·refine ah (S':=fun part1=>[vv picture,vv number,vv times,vv part1,vv x]) (av 3 dO.nd (af bx G.g108 rfl (aa (ac 3) (aa (ac 1) ad)))) ?_ (fun part1=>?_)
  rfl
  exact ak ⟨vv x,rfl⟩
 refine aB (aj (ac 3)) ?_
 rfl
theorem oS:OkD P w K mg base C k "_law_cell" iU ["_law_script","_law_k"] (a2 (fB t)):=ok2 oQ fun wn wE _ _ _ _ _ _ _ _ bx _ _=>by
 show FL _ _ [vv wn,vv wE] _ _ _
 refine au (inj:=fun (_:Unit) (w:Unit)=>[vv wn,vv wE]) (ax (qq (ac 1) (fe_N (bI bx rfl T.b_len (FAL.out (aa (ac 0) ad))))) ?_ ?_ ?_) (fun _ w=>?_)
 rfl
 ·refine aw (aj (ag bx.K (ac 0) (ac 1))) ?_
  rfl
 ·exact ak ⟨(),rfl⟩
 refine au (inj:=fun (_:Unit) (w1:Unit)=>[vv wn,vv wE]) (ax (bX bx (ac 0) (aQ ad)) ?_ ?_ ?_) (fun _ w1=>?_)
 rfl
 ·refine aB (aj ae) ?_
  rfl
 ·exact ak ⟨(),rfl⟩
 refine aw (aj (aF bx.K (bH bx.K (ag bx.K (ac 0) (iy (ac 1) (fe_N (bI bx rfl T.b_len (FAL.out (aa (ac 0) ad)))))) ae) (ac 1))) ?_
 rfl
theorem oU:OkD P w K mg base C k "_law_pick" iV ["_law_script","_law_k","_law_many"] (a3 (fC t)):=ok3 jU fun wn wE xB _ _ _ _ _ _ _ _ bx _ _=>by
 show FL _ _ [vv wn,vv wE,vv xB,nn] _ _ _
 refine ah (S':=fun xc=>[vv wn,vv wE,vv xB,vv xc]) (av 3 jU.nd (iy (bH bx.K (aF bx.K (af bx G.g30 rfl (aa (ac 0) (aa (ac 1) ad))) (bH bx.K ae (aF bx.K (ac 1) ae))) ae) ae)) ?_ (fun xc=>?_)
 rfl
 refine aw (aj (iy (iy (aF bx.K (bH bx.K (ac 3) (ac 3)) (gj (ac 3) ae)) ae) (ac 2))) ?_
 rfl
theorem oV:OkD P w K mg base C k "_law_tree" iW ["_law_script","_law_at","_law_size"] (a3 (eh t)):=ok3 jV fun wn wM wq _ _ _ _ _ _ _ _ bx _ _=>by
 show FL _ _ [vv wn,vv wM,vv wq,nn] _ _ _
 refine ah (S':=fun xp=>[vv wn,vv wM,vv wq,vv xp]) (av 3 jV.nd (af bx G.g31 rfl (aa (ac 0) (aa (ac 1) (aa ae ad))))) ?_ (fun xp=>?_)
 rfl
 refine au (inj:=fun (_:Unit) (w:Unit)=>[vv wn,vv wM,vv wq,vv xp]) (ax (ft_w (cS (bX bx (ac 2) ae) (c7 (qq (ac 3) ae)))) ?_ ?_ ?_) (fun _ w=>?_)
 rfl
 ·refine aw (aj (ag bx.K (aQ (aa ae (aa ae (aa ae (aa ae (aa ae (aa (af bx G.g31 rfl (aa (ac 0) (aa (aF bx.K (ac 1) ae) (aa ae ad)))) ad))))))) (af bx G.g31 rfl (aa (ac 0) (aa (aF bx.K (ac 1) ae) (aa ae ad)))))) ?_
  rfl
 ·exact ak ⟨(),rfl⟩
 refine au (inj:=fun (_:Unit) (w1:Unit)=>[vv wn,vv wM,vv wq,vv xp]) (ax (bX bx (ac 3) ae) ?_ ?_ ?_) (fun _ w1=>?_)
 rfl
 ·refine aw (aj (bH bx.K (aG (aa (af bx G.g32 rfl (aa (ac 0) (aa (aF bx.K (ac 1) ae) (aa (cg (ac 2) ae) ad)))) ad)) ae)) ?_
  rfl
 ·exact ak ⟨(),rfl⟩
 refine aw (aj (fe_N (bh bx rfl T.b_tuple (FAL.out (aa (fe_C (aP (N:=["_law_k","_law_script","_law_size","_law_at"]) (own:=1) (cap:=[0,2,1]) bx (BlkOk.of (by kernel_rfl)) (eg (aV rfl T.b_range (FAL.out (aa ae ad)))) (aT (by decide)) (fun _ _ _ _ _=>ay 0 (show List.Nodup (α:=Str) ["_law_k","_law_script","_law_size","_law_at"] by decide +kernel)) (fun _ _ _ _ _=>(af (aq bx) G.g32 rfl (aa (ac 1) (aa (aF (aq bx).K (aF (aq bx).K (bH (aq bx).K ae (ac 3)) ae) (bH (aq bx).K ae (ac 0))) (aa (cg (ac 2) ae) ad))))))) ad))))) ?_
 rfl
theorem kI:OkD P w K mg base C k "_law_picture" ez ["_law_script","_law_at","_law_most"] (a3 (cW t)):=ok3 fK fun wn wM xC _ _ _ _ _ _ _ _ bx _ _=>by
 show FL _ _ [vv wn,vv wM,vv xC,nn] _ _ _
 refine ah (S':=fun wq=>[vv wn,vv wM,vv xC,vv wq]) (av 3 fK.nd (fe_N (nw bx rfl T.b_max (FAL.out (aa ae (aa (cg (ac 2) (ag bx.K (aQ (aa ae (aa ae (aa ae (aa ae (aa ae (aa ae (aa ae ad)))))))) (af bx G.g31 rfl (aa (ac 0) (aa (ac 1) (aa ae ad)))))) ad)))))) ?_ (fun wq=>?_)
 rfl
 refine aw (aj (aG (aa (ac 3) (aa (af bx G.g32 rfl (aa (ac 0) (aa (aF bx.K (ac 1) ae) (aa (ac 3) ad)))) ad)))) ?_
 rfl
theorem kJ:OkD P w K mg base C k "_law_rows_of" eB ["_law_size","_law_tree_here"] (a2 (bZ t)):=ok2 bQ fun wq wC _ _ _ _ _ _ _ _ bx hpo _=>by
 show FL _ _ [vv wq,vv wC,nn,nn,nn,nn] _ _ _
 refine au (inj:=fun (_:Unit) (w:Unit)=>[vv wq,vv wC,nn,nn,nn,nn]) (ax (bX bx (ac 0) ae) ?_ ?_ ?_) (fun _ w=>?_)
 rfl
 ·refine aB (aj (aQ (aa (aQ (aa (ac 1) ad)) ad))) ?_
  rfl
 ·exact ak ⟨(),rfl⟩
 refine ah (S':=fun wy=>[vv wq,vv wC,vv wy,nn,nn,nn]) (av 2 bQ.nd (jN (aH (ao bx rfl T.b_isinstance cp (ac 1) (aN rfl T.b_tuple (by decide +kernel) rfl))) (ac 1) (bH bx.K (aG (aa (ac 1) ad)) ae))) ?_ (fun wy=>?_)
 rfl
 refine ah (S':=fun wx=>[vv wq,vv wC,vv wy,vv wx,nn,nn]) (av 3 bQ.nd (fe_C (aP (N:=["_law_part_here","_law_size"]) (own:=1) (cap:=[0]) bx (BlkOk.of (by kernel_rfl)) (aX bx.K (ac 2)) (aT (by decide)) (fun _ _ _ _ _=>ay 0 (show List.Nodup (α:=Str) ["_law_part_here","_law_size"] by decide +kernel)) (fun _ _ _ _ _=>(af (aq bx) G.g54 rfl (aa (cg (ac 1) ae) (aa (ac 0) ad)))))) (hs:=by kernel_rfl)) ?_ (fun wx=>?_)
 rfl
 refine bt (S':=[vv wq,vv wC,vv wy,vv wx,ow [],nn]) (fs_O (d8 4 bQ.nd (FAL.out ad))) ?_ ?_
 rfl
 refine au (inj:=fun (s:List D) (w1:Option Sl)=>[vv wq,vv wC,vv wy,vv wx,ow s,w1]) (cq 5 (B:=fun (s:List D) (w1:Option Sl) x1=>[vv wq,vv wC,vv wy,vv wx,ow s,vv x1]) nn hpo rfl (aX bx.K (aG (aa ae (aa ae ad)))) ?_ (ay 5 bQ.nd) rfl (fun _ _ _=>rfl) (fun s w1 x1=>?_)) (fun wS w2=>?_)
 rfl
 ·refine ah (S':=fun wO=>[vv wq,vv wC,vv wy,vv wx,ow wO,vv x1]) (fs_X (bR 4 bx.K (FAL.out (aa (fe_C (aP (N:=["_law_k","_law_some","_law_upper"]) (own:=1) (cap:=[3,5]) bx (BlkOk.of (by kernel_rfl)) (eg (aV rfl T.b_range (FAL.out (aa (fe_N (bI bx rfl T.b_len (FAL.out (aa (ag bx.K (ac 3) (ac 5)) ad)))) ad)))) (aT (by decide)) (fun _ _ _ _ _=>ay 0 (show List.Nodup (α:=Str) ["_law_k","_law_some","_law_upper"] by decide +kernel)) (fun _ _ _ _ _=>(aF (aq bx).K (ag (aq bx).K (ag (aq bx).K (ac 1) (ac 2)) (ac 0)) (ag (aq bx).K (ag (aq bx).K (ac 1) (aF (aq bx).K (ac 2) ae)) (ac 0)))))) ad)))) ?_ (fun wO=>?_)
  rfl
  exact ak ⟨vv x1,rfl⟩
 refine c9 4 (S':=[vv wq,vv wC,vv wy,vv wx,vv (.lst wS),w2]) rfl rfl ?_
 refine aB (aj (ac 4)) ?_
 rfl
theorem oW:OkD P w K mg base C k "_law_rows" iX ["_law_picture_here"] (a1 (fD t)):=ok1 oR fun wl _ _ _ _ _ _ _ _ bx _ _=>by
 show FL _ _ [vv wl] _ _ _
 refine aw (aj (fe_N (bh bx rfl T.b_tuple (FAL.out (aa (fe_C (aP (N:=["_law_row"]) (own:=1) (cap:=[]) bx (BlkOk.of (by kernel_rfl)) (aX bx.K (af bx G.g54 rfl (aa (ag bx.K (ac 0) ae) (aa (ag bx.K (ac 0) ae) ad)))) (aT (by decide)) (fun _ _ _ _ _=>ay 0 (show List.Nodup (α:=Str) ["_law_row"] by decide +kernel)) (fun _ _ _ _ _=>(fe_N (bh (aq bx) rfl T.b_tuple (FAL.out (aa (ac 0) ad))))))) ad))))) ?_
 rfl
theorem mU:OkD P w K mg base C k "_law_least" gH ["_law_rows_here"] (a1 (dn t)):=ok1 bJ fun wm _ _ _ _ _ _ _ _ bx hpo _=>by
 show FL _ _ [vv wm,nn,nn,nn,nn,nn,nn] _ _ _
 refine bt (S':=[vv wm,ow [],nn,nn,nn,nn,nn]) (fs_O (d8 1 bJ.nd (FAL.out ad))) ?_ ?_
 rfl
 refine au (inj:=fun (s:List D) (w:Option Sl)=>[vv wm,ow s,w,nn,nn,nn,nn]) (cq 2 (B:=fun (s:List D) (w:Option Sl) x=>[vv wm,ow s,vv x,nn,nn,nn,nn]) nn hpo rfl (aX bx.K (ac 0)) ?_ (ay 2 bJ.nd) rfl (fun _ _ _=>rfl) (fun s w x=>?_)) (fun wD w1=>?_)
 rfl
 ·refine ah (S':=fun xq=>[vv wm,ow xq,vv x,nn,nn,nn,nn]) (fs_X (bR 1 bx.K (FAL.out (aa (ac 2) ad)))) ?_ (fun xq=>?_)
  rfl
  exact ak ⟨vv x,rfl⟩
 refine c9 1 (S':=[vv wm,vv (.lst wD),w1,nn,nn,nn,nn]) rfl rfl ?_
 refine au (inj:=fun (_:Unit) (w2:Unit)=>[vv wm,vv (.lst wD),w1,nn,nn,nn,nn]) (ax (bX bx (fe_N (oJ bx rfl T.b_len rfl T.b_set (FAL.out (aa (ac 1) ad)))) ae) ?_ ?_ ?_) (fun _ w2=>?_)
 rfl
 ·refine aw (aj (ag bx.K (ac 1) ae)) ?_
  rfl
 ·exact ak ⟨(),rfl⟩
 refine ah (S':=fun wA=>[vv wm,vv (.lst wD),w1,vv wA,nn,nn,nn]) (av 3 bJ.nd (gj (fe_N (bI bx rfl T.b_len (FAL.out (aa (ac 0) ad)))) ae)) ?_ (fun wA=>?_)
 rfl
 refine bt (S':=[vv wm,vv (.lst wD),w1,vv wA,ow [],nn,nn]) (fs_O (d8 4 bJ.nd (FAL.out ad))) ?_ ?_
 rfl
 refine au (inj:=fun (s1:List D) (w3:Option Sl×Option Sl)=>[vv wm,vv (.lst wD),w1,vv wA,ow s1,w3.1,w3.2]) (cq 5 (B:=fun (s1:List D) (w3:Option Sl×Option Sl) x3=>[vv wm,vv (.lst wD),w1,vv wA,ow s1,vv x3,w3.2]) (nn,nn) hpo rfl (aX bx.K (aG (aa ae (aa (ac 3) ad)))) ?_ (ay 5 bJ.nd) rfl (fun _ _ _=>rfl) (fun s1 w3 x3=>?_)) (fun xh w6=>?_)
 rfl
 ·refine au (inj:=fun (s2:List D) (w4:Option Sl)=>[vv wm,vv (.lst wD),w1,vv wA,ow s2,vv x3,w4]) (cq 6 (B:=fun (s2:List D) (w4:Option Sl) x4=>[vv wm,vv (.lst wD),w1,vv wA,ow s2,vv x3,vv x4]) w3.2 hpo rfl (aX bx.K (aG (aa ae (aa (ac 3) ad)))) ?_ (ay 6 bJ.nd) rfl (fun _ _ _=>rfl) (fun s2 w4 x4=>?_)) (fun wL w5=>?_)
  rfl
  ·refine ah (S':=fun wy=>[vv wm,vv (.lst wD),w1,vv wA,ow wy,vv x3,vv x4]) (fs_A (jR 4 (FAL.out (aa (af bx G.g56 rfl (aa (fe_C (aP (N:=["_law_row","_law_left","_law_half"]) (own:=1) (cap:=[6,3]) bx (BlkOk.of (by kernel_rfl)) (aX bx.K (eY bx.K (ac 0) (d7 (ac 5)) (d7 (aF bx.K (ac 5) (ac 3))))) (aT (by decide)) (fun _ _ _ _ _=>ay 0 (show List.Nodup (α:=Str) ["_law_row","_law_left","_law_half"] by decide +kernel)) (fun _ _ _ _ _=>(eY (aq bx).K (ac 0) (d7 (ac 1)) (d7 (aF (aq bx).K (ac 1) (ac 2))))))) ad)) ad)))) ?_ (fun wy=>?_)
   rfl
   exact ak ⟨vv x4,rfl⟩
  exact ak ⟨(vv x3,w5),rfl⟩
 refine c9 4 (S':=[vv wm,vv (.lst wD),w1,vv wA,vv (.lst xh),w6.1,w6.2]) rfl rfl ?_
 refine aw (aj (fe_N (bh bx rfl T.b_tuple (FAL.out (aa (ac 4) ad))))) ?_
 rfl
theorem tO:OkD P w K mg base C k "_law_of" mP ["_law_rows_here"] (a1 (kB t)):=ok1 tM fun wm _ _ _ _ _ _ _ _ bx _ _=>by
 show FL _ _ [vv wm] _ _ _
 refine aw (aj (aG (aa (qO (oH bx (aQ (aa ae (aa ae (aa ae (aa ae ad))))) (FAL.out (aa (fe_N (bI bx rfl T.b_len (FAL.out (aa (ac 0) ad)))) ad)))) (aa (af bx G.g56 rfl (aa (ac 0) ad)) ad)))) ?_
 rfl
theorem lN:OkD P w K mg base C k "_law_places" fe ["_law_thing"] (a1 (cK t)):=ok1 eD fun wt _ _ _ _ _ _ _ _ bx hpo _=>by
 show FL _ _ [vv wt,nn,nn] _ _ _
 refine bt (S':=[vv wt,ow ([(.tup [])]),nn]) (fs_O (d8 1 eD.nd (FAL.out (aa (aG ad) ad)))) ?_ ?_
 rfl
 refine au (inj:=fun (xn:List D) (w2:Option Sl)=>[vv wt,ow xn,w2]) (ax (aH (ao bx rfl T.b_isinstance cp (ac 0) (aN rfl T.b_tuple (by decide +kernel) rfl))) ?_ ?_ ?_) (fun xn w2=>?_)
 rfl
 ·refine au (inj:=fun (s:List D) (w:Option Sl)=>[vv wt,ow s,w]) (cq 2 (B:=fun (s:List D) (w:Option Sl) x1=>[vv wt,ow s,vv x1]) nn hpo rfl (eg (aV rfl T.b_range (FAL.out (aa (fe_N (bI bx rfl T.b_len (FAL.out (aa (ac 0) ad)))) ad)))) ?_ (ay 2 eD.nd) rfl (fun _ _ _=>rfl) (fun s w x1=>?_)) (fun wS w1=>?_)
  rfl
  ·refine ah (S':=fun wO=>[vv wt,ow wO,vv x1]) (fs_X (bR 1 bx.K (FAL.out (aa (fe_C (aP (N:=["_law_place","_law_k"]) (own:=1) (cap:=[2]) bx (BlkOk.of (by kernel_rfl)) (aX bx.K (af bx G.g34 rfl (aa (ag bx.K (ac 0) (ac 2)) ad))) (aT (by decide)) (fun _ _ _ _ _=>ay 0 (show List.Nodup (α:=Str) ["_law_place","_law_k"] by decide +kernel)) (fun _ _ _ _ _=>(aF (aq bx).K (aG (aa (ac 1) ad)) (ac 0))))) ad)))) ?_ (fun wO=>?_)
   rfl
   exact ak ⟨vv x1,rfl⟩
  exact ak ⟨w1,rfl⟩
 ·exact ak ⟨nn,rfl⟩
 refine c9 1 (S':=[vv wt,vv (.lst xn),w2]) rfl rfl ?_
 refine aB (aj (ac 1)) ?_
 rfl
theorem rq:OkD P w K mg base C k "_law_put" kF ["_law_thing","_law_place","_law_new"] (a3 (fE t)):=ok3 lL fun wt wz xy _ _ _ _ _ _ _ _ bx _ _=>by
 show FL _ _ [vv wt,vv wz,vv xy,nn] _ _ _
 refine au (inj:=fun (_:Unit) (w:Unit)=>[vv wt,vv wz,vv xy,nn]) (ax (bX bx (ac 1) (aG ad)) ?_ ?_ ?_) (fun _ w=>?_)
 rfl
 ·refine aB (aj (ac 2)) ?_
  rfl
 ·exact ak ⟨(),rfl⟩
 refine ah (S':=fun wE=>[vv wt,vv wz,vv xy,vv wE]) (av 3 lL.nd (ag bx.K (ac 1) ae)) ?_ (fun wE=>?_)
 rfl
 refine aw (aj (aF bx.K (aF bx.K (eY bx.K (ac 0) qA (d7 (ac 3))) (aG (aa (af bx G.g35 rfl (aa (ag bx.K (ac 0) (ac 3)) (aa (eY bx.K (ac 1) (d7 ae) qA) (aa (ac 2) ad)))) ad))) (eY bx.K (ac 0) (d7 (aF bx.K (ac 3) ae)) qA))) ?_
 rfl
theorem mV:OkD P w K mg base C k "_law_there" gI ["_law_thing","_law_place"] (a2 (eN t)):=ok2 ff fun wt wz _ _ _ _ _ _ _ _ bx hpo _=>by
 show FL _ _ [vv wt,vv wz,nn] _ _ _
 refine au (inj:=fun (s:D) (w:Option Sl)=>[vv s,vv wz,w]) (cq 2 (B:=fun (s:D) (w:Option Sl) x=>[vv s,vv wz,vv x]) nn hpo rfl (aX bx.K (ac 1)) ?_ (ay 2 ff.nd) rfl (fun _ _ _=>rfl) (fun s w x=>?_)) (fun xG w1=>?_)
 rfl
 ·refine ah (S':=fun xr=>[vv xr,vv wz,vv x]) (av 0 ff.nd (ag bx.K (ac 0) (ac 2))) ?_ (fun xr=>?_)
  rfl
  exact ak ⟨vv x,rfl⟩
 refine aB (aj (ac 0)) ?_
 rfl
theorem fL:OkD P w K mg base C k "_law_spoilt_thing" bS ["_law_script","_law_at","_law_thing"] (a3 (bq t)):=ok3 aS fun wn wM wt _ _ _ _ _ _ _ _ bx _ _=>by
 show FL _ _ [vv wn,vv wM,vv wt,nn,nn,nn,nn] _ _ _
 refine ah (S':=fun wG=>[vv wn,vv wM,vv wt,vv wG,nn,nn,nn]) (av 3 aS.nd (af bx G.g34 rfl (aa (ac 2) ad))) ?_ (fun wG=>?_)
 rfl
 refine ah (S':=fun wz=>[vv wn,vv wM,vv wt,vv wG,vv wz,nn,nn]) (av 4 aS.nd (ag bx.K (ac 3) (af bx G.g31 rfl (aa (ac 0) (aa (ac 1) (aa (fe_N (bI bx rfl T.b_len (FAL.out (aa (ac 3) ad)))) ad)))))) ?_ (fun wz=>?_)
 rfl
 refine ah (S':=fun xo=>[vv wn,vv wM,vv wt,vv wG,vv wz,vv xo,nn]) (av 5 aS.nd (af bx G.g36 rfl (aa (ac 2) (aa (ac 4) ad)))) ?_ (fun xo=>?_)
 rfl
 refine bt (S':=[vv wn,vv wM,vv wt,vv wG,vv wz,vv xo,ow ([(.int (-1)),(.int 0),(.int 3),(.int 4),(.int 9),(.int 10),(.bl true),.non,(.str "1"),(.tup []),(.tup [(.int 1),(.int 2),(.int 3)]),(.tup [(.int 1),(.int 1),(.int 1),(.int 1)]),(.tup [(.int 1),(.int 2),(.int 3),(.int 4),(.int 5)])])]) (fs_O (d8 6 aS.nd (FAL.out (aa (u7 ae) (aa ae (aa ae (aa ae (aa ae (aa ae (aa di (aa br (aa aI (aa (aG ad) (aa (aG (aa ae (aa ae (aa ae ad)))) (aa (aG (aa ae (aa ae (aa ae (aa ae ad))))) (aa (aG (aa ae (aa ae (aa ae (aa ae (aa ae ad)))))) ad)))))))))))))))) ?_ ?_
 rfl
 refine ah (S':=fun wx=>[vv wn,vv wM,vv wt,vv wG,vv wz,vv xo,ow wx]) (fs_X (bR 6 bx.K (FAL.out (aa (aQ (aa (aQ (aa ae (aa ae (aa ae (aa ae ad))))) (aa (bH bx.K (aG (aa (ac 5) ad)) ae) ad))) ad)))) ?_ (fun wx=>?_)
 rfl
 refine aw (aj (af bx G.g35 rfl (aa (ac 2) (aa (ac 4) (aa (lq 6 bx.K (af bx G.g31 rfl (aa (ac 0) (aa (aF bx.K (ac 1) ae) (aa ae ad))))) ad))))) ?_
 rfl
theorem hG:OkD P w K mg base C k "_law_is_picture" cN ["_law_thing"] (a1 (bO t)):=ok1 g7 fun wt _ _ _ _ _ _ _ _ bx _ _=>by
 show FL _ _ [vv wt] _ _ _
 refine au (inj:=fun (_:Unit) (w:Unit)=>[vv wt]) (ax (ft_w (cS (bf (aH (ao bx rfl T.b_isinstance cp (ac 0) (aN rfl T.b_tuple (by decide +kernel) rfl)))) (cS (d9 bx (fe_N (bI bx rfl T.b_len (FAL.out (aa (ac 0) ad)))) ae) (cS (bf (aH (ao bx rfl T.b_isinstance ky (ag bx.K (ac 0) ae) (aN rfl T.b_int (by decide +kernel) rfl)))) (c7 (aH (ao bx rfl T.b_isinstance iC (ag bx.K (ac 0) ae) (aN rfl T.b_bool (by decide +kernel) rfl)))))))) ?_ ?_ ?_) (fun _ w=>?_)
 rfl
 ·refine aB (aj di) ?_
  rfl
 ·exact ak ⟨(),rfl⟩
 refine aw (aj (eW (fw ae (ag bx.K (ac 0) ae) ae) (eV (af bx G.g39 rfl (aa (ag bx.K (ac 0) ae) (aa (ag bx.K (ac 0) ae) ad)))))) ?_
 rfl
theorem kK:OkD P w K mg base C k "_law_is_tree" eE ["_law_thing","_law_size"] (a2 (b8 t)):=ok2 kG fun wt wq _ _ _ _ _ _ _ _ bx _ _=>by
 show FL _ _ [vv wt,vv wq] _ _ _
 refine au (inj:=fun (_:Unit) (w:Unit)=>[vv wt,vv wq]) (ax (ft_w (im (aH (ao bx rfl T.b_isinstance ky (ac 0) (aN rfl T.b_int (by decide +kernel) rfl))) (fq (bf (aH (ao bx rfl T.b_isinstance iC (ac 0) (aN rfl T.b_bool (by decide +kernel) rfl))))))) ?_ ?_ ?_) (fun _ w=>?_)
 rfl
 ·refine aw (aj (fw ae (ac 0) ae)) ?_
  rfl
 ·exact ak ⟨(),rfl⟩
 refine au (inj:=fun (_:Unit) (w1:Unit)=>[vv wt,vv wq]) (ax (ft_w (cS (bf (aH (ao bx rfl T.b_isinstance cp (ac 0) (aN rfl T.b_tuple (by decide +kernel) rfl)))) (cS (d9 bx (fe_N (bI bx rfl T.b_len (FAL.out (aa (ac 0) ad)))) ae) (c7 (bX bx (ac 1) ae))))) ?_ ?_ ?_) (fun _ w1=>?_)
 rfl
 ·refine aB (aj di) ?_
  rfl
 ·exact ak ⟨(),rfl⟩
 refine aw (aj (nu bx (fe_C (oq (N:=["_law_part_here","_law_size"]) (own:=1) (cap:=[1]) bx (BlkOk.of (by kernel_rfl)) (aX bx.K (ac 0)) (aT (by decide)) (fun _ _ _ _ _=>ay 0 (show List.Nodup (α:=Str) ["_law_part_here","_law_size"] by decide +kernel)) (fun _ _ _ _ _=>(bf (aH (af (aq bx) G.g39 rfl (aa (ac 0) (aa (cg (ac 1) ae) ad)))))) (fun _ _ _ _ _=>(ac 0)))) (aQ ad))) ?_
 rfl
theorem oX:OkD P w K mg base C k "_law_word" iY ["_law_kept"] (a1 (dq t)):=ok1 gJ fun wH _ _ _ _ _ _ _ _ bx _ _=>by
 show FL _ _ [vv wH,nn,nn] _ _ _
 refine ah (S':=fun xz=>[vv wH,ow xz,nn]) (fs_O (d8 1 gJ.nd (FAL.out (aa (ao bx rfl T.b_isinstance T.i_BadBox (ac 0) (bw rfl T.c_BadBox rfl)) (aa (ao bx rfl T.b_isinstance T.i_NoBlocks (ac 0) (bw rfl T.c_NoBlocks rfl)) (aa (ao bx rfl T.b_isinstance T.i_NoChange (ac 0) (bw rfl T.c_NoChange rfl)) ad)))))) ?_ (fun xz=>?_)
 rfl
 refine ah (S':=fun xt=>[vv wH,ow xt,nn]) (fs_A (jR 1 (FAL.out (aa (ao bx rfl T.b_isinstance T.i_NoNumber (ac 0) (bw rfl T.c_NoNumber rfl)) ad)))) ?_ (fun xt=>?_)
 rfl
 refine ah (S':=fun xv=>[vv wH,ow xv,nn]) (fs_X (bR 1 bx.K (FAL.out (aa (aQ (aa (ao bx rfl T.b_isinstance T.i_NoPicture (ac 0) (bw rfl T.c_NoPicture rfl)) (aa (ao bx rfl T.b_isinstance T.i_NoRule (ac 0) (bw rfl T.c_NoRule rfl)) (aa (ao bx rfl T.b_isinstance T.i_NoSpot (ac 0) (bw rfl T.c_NoSpot rfl)) ad)))) ad)))) ?_ (fun xv=>?_)
 rfl
 refine ah (S':=fun wU=>[vv wH,ow wU,nn]) (fs_X (bR 1 bx.K (FAL.out (aa (aQ (aa (ao bx rfl T.b_isinstance T.i_NoText (ac 0) (bw rfl T.c_NoText rfl)) (aa (ao bx rfl T.b_isinstance T.i_NothingDone (ac 0) (bw rfl T.c_NothingDone rfl)) (aa (ao bx rfl T.b_isinstance T.i_Unlike (ac 0) (bw rfl T.c_Unlike rfl)) ad)))) ad)))) ?_ (fun wU=>?_)
 rfl
 refine c9 1 (S':=[vv wH,vv (.lst wU),nn]) rfl rfl ?_
 refine au (inj:=fun (_:Unit) (w:Unit)=>[vv wH,vv (.lst wU),nn]) (ax (ft_w (cS (d9 bx (qO (qG bx (ac 1) (FAL.out (aa di ad)))) ae) (c7 (bf (aH (ao bx rfl T.b_isinstance T.i_ValueError (ac 0) (aN rfl T.b_ValueError (by decide +kernel) rfl))))))) ?_ ?_ ?_) (fun _ w=>?_)
 rfl
 ·refine aB (aj aI) ?_
  rfl
 ·exact ak ⟨(),rfl⟩
 refine bt (S':=[vv wH,vv (.lst wU),vv (.lst [(.str "bad box"),(.str "no blocks"),(.str "no change"),(.str "no number"),(.str "no picture"),(.str "no rule"),(.str "no spot"),(.str "no text")])]) (av 2 gJ.nd (aQ (aa aI (aa aI (aa aI (aa aI (aa aI (aa aI (aa aI (aa aI ad)))))))))) ?_ ?_
 rfl
 refine aw (aj (ag bx.K (aF bx.K (ac 2) (aQ (aa aI (aa aI ad)))) (qO (oA bx (ac 1) (FAL.out (aa di ad)))))) ?_
 rfl
theorem tQ:OkD P w K mg base C k "_law_do" mQ ["_law_what","_law_picture_here","_law_one","_law_other"] (a4 (db t)):=ok4 cX fun wI wl wJ wu _ _ _ _ _ _ _ _ bx _ _=>by
 show FL _ _ [vv wI,vv wl,vv wJ,vv wu,nn,nn,nn] _ _ _
 refine bt (S':=[vv wI,vv wl,vv wJ,vv wu,vv .non,nn,nn]) (av 4 cX.nd br) ?_ ?_
 rfl
 refine bt (S':=[vv wI,vv wl,vv wJ,vv wu,vv .non,vv .non,nn]) (av 5 cX.nd br) ?_ ?_
 rfl
 refine vd 6 4 (B:=fun k=>[nn,nn,nn,nn,vv (.exc k),nn,nn]) (tq 6 4 (inj:=fun (xb:D) (w:Unit)=>[vv wI,vv wl,vv wJ,vv wu,vv .non,vv xb,nn]) bx (by decide) rfl rfl rfl cX.nd rfl T.c_FourError T.takes (fun pn xe H0 Z0 E bx=>?_)) (fun _=>rfl) (fun xb w=>?_) (fun k=>?_)
 ·refine eZ (ax (bX bx (ac 0) ae) ?_ ?_ ?_)
  rfl
  ·refine ah (S':=fun xw=>[vv wI,vv wl,vv wJ,vv wu,vv .non,vv xw,nn]) (av 5 cX.nd (af bx G.g108 rfl (aa (ac 1) (aa (ac 2) ad)))) ?_ (fun xw=>?_)
   rfl
   exact ak ⟨(),rfl⟩
  ·refine eZ (ax (bX bx (ac 0) ae) ?_ ?_ ?_)
   rfl
   ·refine ah (S':=fun xk=>[vv wI,vv wl,vv wJ,vv wu,vv .non,vv xk,nn]) (av 5 cX.nd (af bx G.g112 rfl (aa (ac 1) (aa (ac 2) (aa (ac 3) ad))))) ?_ (fun xk=>?_)
    rfl
    exact ak ⟨(),rfl⟩
   ·refine eZ (ax (bX bx (ac 0) ae) ?_ ?_ ?_)
    rfl
    ·refine ah (S':=fun xl=>[vv wI,vv wl,vv wJ,vv wu,vv .non,vv xl,nn]) (av 5 cX.nd (af bx G.g113 rfl (aa (ac 1) (aa (ac 2) (aa (ac 3) ad))))) ?_ (fun xl=>?_)
     rfl
     exact ak ⟨(),rfl⟩
    ·refine ah (S':=fun xm=>[vv wI,vv wl,vv wJ,vv wu,vv .non,vv xm,nn]) (av 5 cX.nd (jN (bX bx (ac 0) ae) (af bx G.g111 rfl (aa (ac 1) ad)) (af bx G.g110 rfl (aa (ac 1) ad)))) ?_ (fun xm=>?_)
     rfl
     exact ak ⟨(),rfl⟩
 ·refine au (inj:=fun (_:Unit) (w1:Unit)=>[vv wI,vv wl,vv wJ,vv wu,vv .non,vv xb,nn]) (ax (um (ac 4) br) ?_ ?_ ?_) (fun _ w1=>?_)
  rfl
  ·refine aB (aj (ac 5)) ?_
   rfl
  ·exact ak ⟨(),rfl⟩
  refine aw (aj (af bx G.g40 rfl (aa (ac 4) ad))) ?_
  rfl
 ·refine au (inj:=fun (_:Unit) (w2:Unit)=>[nn,nn,nn,nn,vv (.exc k),nn,nn]) (ax (um (ac 4) br) ?_ ?_ ?_) (fun _ w2=>?_)
  rfl
  ·refine aw (aj (ac 5)) ?_
   rfl
  ·exact ak ⟨(),rfl⟩
  refine aw (aj (af bx G.g40 rfl (aa (ac 4) ad))) ?_
  rfl
theorem oY:OkD P w K mg base C k "_law_part" iZ ["_law_rows_here","_law_number"] (a2 (fF t)):=ok2 gK fun wm wr _ _ _ _ _ _ _ _ bx _ _=>by
 show FL _ _ [vv wm,vv wr,nn,nn,nn] _ _ _
 refine ah (S':=fun wA=>[vv wm,vv wr,vv wA,nn,nn]) (av 2 gK.nd (gj (fe_N (bI bx rfl T.b_len (FAL.out (aa (ac 0) ad)))) ae)) ?_ (fun wA=>?_)
 rfl
 refine tu 3 4 (S':=fun xa w8=>[vv wm,vv wr,vv wA,vv xa,vv w8]) (rg 3 4 bx gK.nd (FAL.out (aa (bH bx.K (iy (ac 1) ae) (ac 2)) (aa (bH bx.K (gj (ac 1) ae) (ac 2)) ad)))) ?_ ?_ (fun _ _=>rfl) (fun xa w8=>?_)
 rfl
 rfl
 refine aw (aj (fe_N (bh bx rfl T.b_tuple (FAL.out (aa (fe_C (aP (N:=["_law_row","_law_left","_law_half"]) (own:=1) (cap:=[3,2]) bx (BlkOk.of (by kernel_rfl)) (aX bx.K (eY bx.K (ac 0) (d7 (ac 4)) (d7 (aF bx.K (ac 4) (ac 2))))) (aT (by decide)) (fun _ _ _ _ _=>ay 0 (show List.Nodup (α:=Str) ["_law_row","_law_left","_law_half"] by decide +kernel)) (fun _ _ _ _ _=>(eY (aq bx).K (ac 0) (d7 (ac 1)) (d7 (aF (aq bx).K (ac 1) (ac 2))))))) ad))))) ?_
 rfl
theorem jE:OkD P w K mg base C k "_law_together" dP ["_law_some"] (a1 (cy t)):=ok1 eU fun wx _ _ _ _ _ _ _ _ bx _ _=>by
 show FL _ _ [vv wx,nn] _ _ _
 refine ah (S':=fun wO=>[vv wx,vv wO]) (vY (dC 1 (N:=["_law_one","_law_other"]) (own:=2) (cap:=[]) bx (BlkOk.of (by kernel_rfl)) (rf bx rfl T.b_zip (ag bx.K (ac 0) ae) (ag bx.K (ac 0) ae)) (lw (by decide) (by decide)) (fun _ _ _ _ _=>nE 0 1 rfl (show List.Nodup (α:=Str) ["_law_one","_law_other"] by decide +kernel)) (fun _ _ _ _ _=>(aF (aq bx).K (ac 0) (ac 1))) eU.nd (hsw:=by kernel_rfl))) ?_ (fun wO=>?_)
 rfl
 refine aw (aj (fe_N (bh bx rfl T.b_tuple (FAL.out (aa (aF bx.K (ac 1) (vX (aP (N:=["_law_one","_law_other"]) (own:=2) (cap:=[]) bx (BlkOk.of (by kernel_rfl)) (rf bx rfl T.b_zip (ag bx.K (ac 0) ae) (ag bx.K (ac 0) ae)) (lw (by decide) (by decide)) (fun _ _ _ _ _=>nE 0 1 rfl (show List.Nodup (α:=Str) ["_law_one","_law_other"] by decide +kernel)) (fun _ _ _ _ _=>(aF (aq bx).K (ac 0) (ac 1)))))) ad))))) ?_
 rfl
theorem d5:OkD P w K mg base C k "_law_are_larger_right" bi ["_law_script","_law_picture_here","_law_rows_here"] (a3 (aR t)):=ok3 ar fun wn wl wm _ _ _ _ _ _ _ _ bx _ _=>by
 show FL _ _ [vv wn,vv wl,vv wm,nn,nn,nn,nn,nn,nn] _ _ _
 refine ah (S':=fun wq=>[vv wn,vv wl,vv wm,vv wq,nn,nn,nn,nn,nn]) (av 3 ar.nd (ag bx.K (ac 1) ae)) ?_ (fun wq=>?_)
 rfl
 refine ah (S':=fun xD=>[vv wn,vv wl,vv wm,vv wq,vv xD,nn,nn,nn,nn]) (av 4 ar.nd (fe_C (aP (N:=["_law_row"]) (own:=1) (cap:=[]) bx (BlkOk.of (by kernel_rfl)) (aX bx.K (ac 2)) (aT (by decide)) (fun _ _ _ _ _=>ay 0 (show List.Nodup (α:=Str) ["_law_row"] by decide +kernel)) (fun _ _ _ _ _=>(fe_N (bh (aq bx) rfl T.b_tuple (FAL.out (aa (fe_C (aP (N:=["_law_x","_law_row"]) (own:=1) (cap:=[0]) (aq bx) (BlkOk.of (by kernel_rfl)) (eg (aV rfl T.b_range (FAL.out (aa (bH (aq bx).K ae (fe_N (bI (aq bx) rfl T.b_len (FAL.out (aa (ac 0) ad))))) ad)))) (aT (by decide)) (fun _ _ _ _ _=>ay 0 (show List.Nodup (α:=Str) ["_law_x","_law_row"] by decide +kernel)) (fun _ _ _ _ _=>(ag (aq (aq bx)).K (ac 1) (gj (ac 0) ae))))) ad))))))) (hs:=by kernel_rfl)) ?_ (fun xD=>?_)
 rfl
 refine ah (S':=fun wV=>[vv wn,vv wl,vv wm,vv wq,vv wV,nn,nn,nn,nn]) (av 4 ar.nd (fe_N (bh bx rfl T.b_tuple (FAL.out (aa (fe_C (aP (N:=["_law_y","_law_wide"]) (own:=1) (cap:=[4]) bx (BlkOk.of (by kernel_rfl)) (eg (aV rfl T.b_range (FAL.out (aa (bH bx.K ae (fe_N (bI bx rfl T.b_len (FAL.out (aa (ac 2) ad))))) ad)))) (aT (by decide)) (fun _ _ _ _ _=>ay 0 (show List.Nodup (α:=Str) ["_law_y","_law_wide"] by decide +kernel)) (fun _ _ _ _ _=>(ag (aq bx).K (ac 1) (gj (ac 0) ae))))) ad))))) ?_ (fun wV=>?_)
 rfl
 refine au (inj:=fun (_:Unit) (w:Unit)=>[vv wn,vv wl,vv wm,vv wq,vv wV,nn,nn,nn,nn]) (ax (d9 bx (af bx G.g114 rfl (aa ae (aa (ac 1) (aa br (aa br ad))))) (jN (qq (ac 3) ae) (af bx G.g57 rfl (aa (ac 4) ad)) aI)) ?_ ?_ ?_) (fun _ w=>?_)
 rfl
 ·refine aB (aj di) ?_
  rfl
 ·exact ak ⟨(),rfl⟩
 refine ah (S':=fun wR=>[vv wn,vv wl,vv wm,vv wq,vv wV,vv wR,nn,nn,nn]) (fs_C (dC 5 (N:=["_law_k","_law_script"]) (own:=1) (cap:=[0]) bx (BlkOk.of (by kernel_rfl)) (eg (aV rfl T.b_range (FAL.out (aa ae ad)))) (aT (by decide)) (fun _ _ _ _ _=>ay 0 (show List.Nodup (α:=Str) ["_law_k","_law_script"] by decide +kernel)) (fun _ _ _ _ _=>(af (aq bx) G.g33 rfl (aa (ac 1) (aa (aF (aq bx).K ae (bH (aq bx).K ae (ac 0))) (aa (aF (aq bx).K ae (af (aq bx) G.g31 rfl (aa (ac 1) (aa ae (aa ae ad))))) ad))))) ar.nd (hsw:=by kernel_rfl))) ?_ (fun wR=>?_)
 rfl
 refine ah (S':=fun wX=>[vv wn,vv wl,vv wm,vv wq,vv wV,vv wR,vv wX,nn,nn]) (fs_C (dC 6 (N:=["_law_one"]) (own:=1) (cap:=[]) bx (BlkOk.of (by kernel_rfl)) (aX bx.K (ac 5)) (aT (by decide)) (fun _ _ _ _ _=>ay 0 (show List.Nodup (α:=Str) ["_law_one"] by decide +kernel)) (fun _ _ _ _ _=>(ag (aq bx).K (ac 0) ae)) ar.nd (hsw:=by kernel_rfl))) ?_ (fun wX=>?_)
 rfl
 refine ah (S':=fun xE=>[vv wn,vv wl,vv wm,vv wq,vv wV,vv wR,vv wX,vv xE,nn]) (av 7 ar.nd (eW (nu bx (fe_N (sW bx rfl T.b_min (FAL.out (aa (ac 6) ad)))) (fe_N (sX bx rfl T.b_max (FAL.out (aa (ac 6) ad))))) (eV (vG (ag bx.K (ac 6) ae) ae)))) ?_ (fun xE=>?_)
 rfl
 refine ah (S':=fun wQ=>[vv wn,vv wl,vv wm,vv wq,vv wV,vv wR,vv wX,vv xE,vv wQ]) (av 8 ar.nd (jN (aH (ac 7)) (af bx G.g57 rfl (aa (af bx G.g116 rfl (aa (fe_C (aP (N:=["_law_one"]) (own:=1) (cap:=[]) bx (BlkOk.of (by kernel_rfl)) (aX bx.K (ac 5)) (aT (by decide)) (fun _ _ _ _ _=>ay 0 (show List.Nodup (α:=Str) ["_law_one"] by decide +kernel)) (fun _ _ _ _ _=>(af (aq bx) G.g55 rfl (aa (ac 0) ad))))) ad)) ad)) aI)) ?_ (fun wQ=>?_)
 rfl
 refine aw (aj (nu bx (af bx G.g114 rfl (aa ae (aa (ac 5) (aa br (aa br ad))))) (ac 8))) ?_
 rfl
theorem i5:OkD P w K mg base C k "law" bb ["_law_script"] (a1 (eO t)):=ok1 aA fun wn _ _ _ _ _ _ _ _ bx hpo _=>by
 show FL _ _ [vv wn,nn,nn,nn,nn,nn,nn,nn,nn,nn,nn,nn,nn] _ _ _
 refine ah (S':=fun wl=>[vv wn,vv wl,nn,nn,nn,nn,nn,nn,nn,nn,nn,nn,nn]) (av 1 aA.nd (af bx G.g33 rfl (aa (ac 0) (aa ae (aa ae ad))))) ?_ (fun wl=>?_)
 rfl
 refine ah (S':=fun wm=>[vv wn,vv wl,vv wm,nn,nn,nn,nn,nn,nn,nn,nn,nn,nn]) (av 2 aA.nd (af bx G.g55 rfl (aa (ac 1) ad))) ?_ (fun wm=>?_)
 rfl
 refine ah (S':=fun wq=>[vv wn,vv wl,vv wm,vv wq,nn,nn,nn,nn,nn,nn,nn,nn,nn]) (av 3 aA.nd (ag bx.K (ac 1) ae)) ?_ (fun wq=>?_)
 rfl
 refine ah (S':=fun wu=>[vv wn,vv wl,vv wm,vv wq,vv wu,nn,nn,nn,nn,nn,nn,nn,nn]) (av 4 aA.nd (af bx G.g33 rfl (aa (ac 0) (aa ae (aa (fe_N (nw bx rfl T.b_max (FAL.out (aa ae (aa (cg (ac 3) (af bx G.g31 rfl (aa (ac 0) (aa ae (aa ae ad))))) ad))))) ad))))) ?_ (fun wu=>?_)
 rfl
 refine ah (S':=fun wr=>[vv wn,vv wl,vv wm,vv wq,vv wu,vv wr,nn,nn,nn,nn,nn,nn,nn]) (av 5 aA.nd (cg (af bx G.g31 rfl (aa (ac 0) (aa ae (aa ae ad)))) ae)) ?_ (fun wr=>?_)
 rfl
 refine ah (S':=fun ww=>[vv wn,vv wl,vv wm,vv wq,vv wu,vv wr,vv ww,nn,nn,nn,nn,nn,nn]) (av 6 aA.nd (sS ae (ac 5) ae)) ?_ (fun ww=>?_)
 rfl
 refine bt (S':=[vv wn,vv wl,vv wm,vv wq,vv wu,vv wr,vv ww,vv (.lst [(.str "no spot"),(.str "no spot")]),nn,nn,nn,nn,nn]) (av 7 aA.nd (aQ (aa aI (aa aI ad)))) ?_ ?_
 rfl
 refine au (inj:=fun (wF:D) (w:Option Sl)=>[vv wn,vv wl,vv wm,vv wq,vv wu,vv wr,vv ww,vv wF,w,nn,nn,nn,nn]) (ax (ft_w (im (ul (ac 3) ae) (fq (aH (ac 6))))) ?_ ?_ ?_) (fun wF w=>?_)
 rfl
 ·refine ah (S':=fun wy=>[vv wn,vv wl,vv wm,vv wq,vv wu,vv wr,vv ww,vv (.lst [(.str "no spot"),(.str "no spot")]),ow wy,nn,nn,nn,nn]) (mG 8 (N:=["_law_k","_law_rows_here"]) (own:=1) (cap:=[2]) bx (BlkOk.of (by kernel_rfl)) (eg (aV rfl T.b_range (FAL.out (aa ae ad)))) (aT (by decide)) (fun _ _ _ _ _=>ay 0 (show List.Nodup (α:=Str) ["_law_k","_law_rows_here"] by decide +kernel)) (fun _ _ _ _ _=>(af (aq bx) G.g115 rfl (aa (ac 1) (aa (ac 0) ad)))) aA.nd (hsw:=by kernel_rfl)) ?_ (fun wy=>?_)
  rfl
  refine ah (S':=fun wQ=>[vv wn,vv wl,vv wm,vv wq,vv wu,vv wr,vv ww,ow wQ,ow wy,nn,nn,nn,nn]) (fs_O (d8 7 aA.nd (FAL.out (aa (af bx G.g57 rfl (aa (lq 8 bx.K (ac 5)) ad)) (aa aI ad))))) ?_ (fun wQ=>?_)
  rfl
  refine eZ (ax (bX bx (ag bx.K (ac 4) ae) (cg (ac 3) ae)) ?_ ?_ ?_)
  rfl
  ·refine ah (S':=fun wL=>[vv wn,vv wl,vv wm,vv wq,vv wu,vv wr,vv ww,ow wQ,ow wL,nn,nn,nn,nn]) (fs_S (iH 8 bx (af bx G.g55 rfl (aa (ac 4) ad)) (ac 5))) ?_ (fun wL=>?_)
   rfl
   refine c9 8 (S':=[vv wn,vv wl,vv wm,vv wq,vv wu,vv wr,vv ww,ow wQ,vv (.lst wL),nn,nn,nn,nn]) rfl rfl ?_
   refine ah (S':=fun xj=>[vv wn,vv wl,vv wm,vv wq,vv wu,vv wr,vv ww,ow xj,vv (.lst wL),nn,nn,nn,nn]) (fs_S (iH 7 bx (af bx G.g57 rfl (aa (af bx G.g116 rfl (aa (ac 8) ad)) ad)) ae)) ?_ (fun xj=>?_)
   rfl
   refine c9 7 (S':=[vv wn,vv wl,vv wm,vv wq,vv wu,vv wr,vv ww,vv (.lst xj),vv (.lst wL),nn,nn,nn,nn]) rfl rfl ?_
   exact ak ⟨vv (.lst wL),rfl⟩
  ·refine c9 7 (S':=[vv wn,vv wl,vv wm,vv wq,vv wu,vv wr,vv ww,vv (.lst wQ),ow wy,nn,nn,nn,nn]) rfl rfl ?_
   exact ak ⟨ow wy,rfl⟩
 ·exact ak ⟨nn,rfl⟩
 refine au (inj:=fun (_:Unit) (w1:Unit)=>[vv wn,vv wl,vv wm,vv wq,vv wu,vv wr,vv ww,vv wF,w,nn,nn,nn,nn]) (ax (d9 bx (fe_C (aP (N:=["_law_what","_law_picture_here","_law_number","_law_other"]) (own:=1) (cap:=[1,5,4]) bx (BlkOk.of (by kernel_rfl)) (eg (aV rfl T.b_range (FAL.out (aa ae ad)))) (aT (by decide)) (fun _ _ _ _ _=>ay 0 (show List.Nodup (α:=Str) ["_law_what","_law_picture_here","_law_number","_law_other"] by decide +kernel)) (fun _ _ _ _ _=>(af (aq bx) G.g114 rfl (aa (ac 0) (aa (ac 1) (aa (ac 2) (aa (ac 3) ad)))))))) (ac 7)) ?_ ?_ ?_) (fun _ w1=>?_)
 rfl
 ·refine aB (aj di) ?_
  rfl
 ·exact ak ⟨(),rfl⟩
 refine au (inj:=fun (_:Unit) (w2:Option Sl)=>[vv wn,vv wl,vv wm,vv wq,vv wu,vv wr,vv ww,vv wF,w,w2,nn,nn,nn]) (ax (ul (ac 3) ae) ?_ ?_ ?_) (fun _ w2=>?_)
 rfl
 ·refine ah (S':=fun wx=>[vv wn,vv wl,vv wm,vv wq,vv wu,vv wr,vv ww,vv wF,w,vv wx,nn,nn,nn]) (fs_C (dC 9 (N:=["_law_k","_law_picture_here"]) (own:=1) (cap:=[1]) bx (BlkOk.of (by kernel_rfl)) (eg (aV rfl T.b_range (FAL.out (aa ae ad)))) (aT (by decide)) (fun _ _ _ _ _=>ay 0 (show List.Nodup (α:=Str) ["_law_k","_law_picture_here"] by decide +kernel)) (fun _ _ _ _ _=>(af (aq bx) G.g108 rfl (aa (ac 1) (aa (ac 0) ad)))) aA.nd (hsw:=by kernel_rfl))) ?_ (fun wx=>?_)
  rfl
  refine eZ (ax (d9 bx (af bx G.g114 rfl (aa ae (aa (ac 9) (aa br (aa br ad))))) (af bx G.g57 rfl (aa (ac 2) ad))) ?_ ?_ ?_)
  rfl
  ·refine aB (aj di) ?_
   rfl
  ·exact ak ⟨vv wx,rfl⟩
 ·exact ak ⟨nn,rfl⟩
 refine ah (S':=fun wB=>[vv wn,vv wl,vv wm,vv wq,vv wu,vv wr,vv ww,vv wF,w,w2,vv wB,nn,nn]) (av 10 aA.nd (cg (af bx G.g31 rfl (aa (ac 0) (aa ae (aa ae ad)))) ae)) ?_ (fun wB=>?_)
 rfl
 refine bt (S':=[vv wn,vv wl,vv wm,vv wq,vv wu,vv wr,vv ww,vv wF,w,vv wm,vv wB,nn,nn]) (av 9 aA.nd (ac 2)) ?_ ?_
 rfl
 refine au (inj:=fun (s:D) (w3:Option Sl)=>[vv wn,vv wl,vv wm,vv wq,vv wu,vv wr,vv ww,vv wF,w,vv s,vv wB,w3,nn]) (cq 11 (B:=fun (s:D) (w3:Option Sl) x17=>[vv wn,vv wl,vv wm,vv wq,vv wu,vv wr,vv ww,vv wF,w,vv s,vv wB,vv x17,nn]) nn hpo rfl (eg (aV rfl T.b_range (FAL.out (aa (jN (ft_w (im (aH (ac 6)) (fq (kv ae (ac 10) (ac 3))))) (ac 10) ae) ad)))) ?_ (ay 11 aA.nd) rfl (fun _ _ _=>rfl) (fun s w3 x17=>?_)) (fun wT w4=>?_)
 rfl
 ·refine ah (S':=fun xA=>[vv wn,vv wl,vv wm,vv wq,vv wu,vv wr,vv ww,vv wF,w,vv xA,vv wB,vv x17,nn]) (av 9 aA.nd (af bx G.g115 rfl (aa (ac 9) (aa (ac 5) ad)))) ?_ (fun xA=>?_)
  rfl
  exact ak ⟨vv x17,rfl⟩
 refine au (inj:=fun (_:Unit) (w5:Unit)=>[vv wn,vv wl,vv wm,vv wq,vv wu,vv wr,vv ww,vv wF,w,vv wT,vv wB,w4,nn]) (ax (d9 bx (af bx G.g114 rfl (aa ae (aa (ac 1) (aa (ac 5) (aa (ac 10) ad))))) (jN (ft_w (im (aH (ac 6)) (fq (kv ae (ac 10) (ac 3))))) (af bx G.g57 rfl (aa (ac 9) ad)) aI)) ?_ ?_ ?_) (fun _ w5=>?_)
 rfl
 ·refine aB (aj di) ?_
  rfl
 ·exact ak ⟨(),rfl⟩
 refine au (inj:=fun (_:Unit) (w6:Unit)=>[vv wn,vv wl,vv wm,vv wq,vv wu,vv wr,vv ww,vv wF,w,vv wT,vv wB,w4,nn]) (ax (bf (aH (af bx G.g117 rfl (aa (ac 0) (aa (ac 1) (aa (ac 2) ad)))))) ?_ ?_ ?_) (fun _ w6=>?_)
 rfl
 ·refine aB (aj di) ?_
  rfl
 ·exact ak ⟨(),rfl⟩
 refine ah (S':=fun wK=>[vv wn,vv wl,vv wm,vv wq,vv wu,vv wr,vv ww,vv wF,w,vv wT,vv wB,w4,vv wK]) (av 12 aA.nd (af bx G.g37 rfl (aa (ac 0) (aa ae (aa (ac 1) ad))))) ?_ (fun wK=>?_)
 rfl
 refine au (inj:=fun (_:Unit) (w7:Unit)=>[vv wn,vv wl,vv wm,vv wq,vv wu,vv wr,vv ww,vv wF,w,vv wT,vv wB,w4,vv wK]) (ax (aH (af bx G.g38 rfl (aa (ac 12) ad))) ?_ ?_ ?_) (fun _ w7=>?_)
 rfl
 ·refine aB (aj di) ?_
  rfl
 ·exact ak ⟨(),rfl⟩
 refine ah (S':=fun xg=>[vv wn,vv wl,vv wm,vv wq,vv wu,vv wr,vv ww,vv wF,w,ow xg,vv wB,w4,vv wK]) (fs_O (d8 9 aA.nd (FAL.out (aa (af bx G.g114 rfl (aa ae (aa (ac 12) (aa ae (aa br ad))))) (aa (af bx G.g114 rfl (aa ae (aa (ac 12) (aa ae (aa (ac 4) ad))))) (aa (af bx G.g114 rfl (aa ae (aa (ac 1) (aa ae (aa (ac 12) ad))))) (aa (af bx G.g114 rfl (aa ae (aa (ac 12) (aa ae (aa ae ad))))) ad))))))) ?_ (fun xg=>?_)
 rfl
 refine ah (S':=fun wZ=>[vv wn,vv wl,vv wm,vv wq,vv wu,vv wr,vv ww,vv wF,w,ow wZ,vv wB,w4,vv wK]) (fs_X (bR 9 bx.K (FAL.out (aa (aQ (aa (af bx G.g114 rfl (aa ae (aa (ac 12) (aa br (aa br ad))))) (aa (af bx G.g114 rfl (aa ae (aa (aQ (aa (ac 1) (aa (ac 12) (aa (ac 1) (aa (ac 1) ad))))) (aa br (aa br ad))))) ad))) ad)))) ?_ (fun wZ=>?_)
 rfl
 refine c9 9 (S':=[vv wn,vv wl,vv wm,vv wq,vv wu,vv wr,vv ww,vv wF,w,vv (.lst wZ),vv wB,w4,vv wK]) rfl rfl ?_
 refine aw (aj (nu bx (ac 9) (bH bx.K (aQ (aa aI ad)) ae))) ?_
 rfl
end
end Lw
end
noncomputable section
section
namespace Lw
open PySem FF
inductive Q (α:Type) where
 | lf (a:α) | nd (a b c d:Q α)
 deriving DecidableEq
section
variable {α β γ:Type}
def Q.dep:Q α→Nat
 | .lf _=>0
 | .nd a b c d=>1+max (max a.dep b.dep) (max c.dep d.dep)
def Q.at:Nat→Q α→Nat→Nat→α
 | _,.lf a,_,_=>a
 | 0,.nd a _ _ _,x,y=>Q.at 0 a x y
 | n+1,.nd a b c d,x,y=>if y < 2^n then (if x < 2^n then a.at n x y else b.at n (x - 2^n) y) else (if x < 2^n then c.at n x (y - 2^n) else d.at n (x - 2^n) (y - 2^n))
def Q.All (p:α→Prop):Q α→Prop
 | .lf a=>p a
 | .nd a b c d=>a.All p∧b.All p∧c.All p∧d.All p
def sh (f:Nat→Nat→α)(a b:Nat):Nat→Nat→α:=fun x y=>f (x+a) (y+b)
@[simp] theorem lO (n:Nat)(a:α)(x y:Nat):Q.at n (.lf a) x y=a:=by cases n<;>rfl
variable [DecidableEq α][DecidableEq β][DecidableEq γ]
def put4 (a b c d:Q α):Q α:=match a with
 | .lf v=>if b=.lf v∧c=.lf v∧d=.lf v then .lf v else .nd a b c d
 | _=>.nd a b c d
def T (f:Nat→Nat→α):Nat→Q α
 | 0=>.lf (f 0 0)
 | n+1=>put4 (T f n) (T (sh f (2^n) 0) n) (T (sh f 0 (2^n)) n) (T (sh f (2^n) (2^n)) n)
def Q.lean:Q α→Q α
 | .lf a=>.lf a
 | .nd a b c d=>put4 a.lean b.lean c.lean d.lean
theorem bd (n:Nat):(2^(n+1):Nat)=2^n+2^n:=by rw[Nat.pow_succ];omega
theorem jW (v:α):put4 (.lf v) (.lf v) (.lf v) (.lf v)=.lf v:=by simp[put4]
theorem tR (n:Nat)(a b c d:Q α)(x y:Nat):(put4 a b c d).at (n+1) x y=(Q.nd a b c d).at (n+1) x y:=by
 unfold put4
 split
 ·split
  ·rename_i h
   obtain⟨rfl,rfl,rfl⟩:=h
   simp only[Q.at,lO,ite_self]
  ·rfl
 ·rfl
theorem rz (n:Nat)(a b c d:Q α)(ha:a.dep≤n)(hb:b.dep≤n)(hc:c.dep≤n)(hd:d.dep≤n):(put4 a b c d).dep≤n+1:=by
 unfold put4
 split
 ·split
  ·exact Nat.zero_le _
  ·simp only[Q.dep] at *;omega
 ·simp only[Q.dep] at *;omega
theorem aU:∀ (n:Nat) (f g:Nat→Nat→α),(∀ x y,x < 2^n→y < 2^n→f x y=g x y)→T f n=T g n
 | 0,f,g,h=>by rw[T,T,h 0 0 (by decide) (by decide)]
 | n+1,f,g,h=>by
  rw[bd]at h
  rw[T,T,aU n f g fun x y hx hy=>h x y (by omega) (by omega),aU n (sh f (2^n) 0) (sh g (2^n) 0) fun x y hx hy=>h _ _ (by omega) (by omega),
   aU n (sh f 0 (2^n)) (sh g 0 (2^n)) fun x y hx hy=>h _ _ (by omega) (by omega),aU n (sh f (2^n) (2^n)) (sh g (2^n) (2^n)) fun x y hx hy=>h _ _ (by omega) (by omega)]
theorem kL (v:α):∀ n,T (fun _ _=>v) n=.lf v
 | 0=>rfl
 | n+1=>by
  rw[T]
  show put4 (T (fun _ _=>v) n) (T (fun _ _=>v) n) (T (fun _ _=>v) n) (T (fun _ _=>v) n)=_
  rw[kL v n,jW]
theorem i6:∀ (n:Nat) (f:Nat→Nat→α),(T f n).dep≤n
 | 0,f=>Nat.le_refl _
 | n+1,f=>rz n _ _ _ _ (i6 n _) (i6 n _) (i6 n _) (i6 n _)
theorem T_at:∀ (n:Nat) (f:Nat→Nat→α) (x y:Nat),x < 2^n→y < 2^n→(T f n).at n x y=f x y
 | 0,f,x,y,hx,hy=>by
  have:x=0:=by simp at hx;exact hx
  have:y=0:=by simp at hy;exact hy
  subst x;subst y
  rfl
 | n+1,f,x,y,hx,hy=>by
  rw[bd]at hx hy
  rw[T,tR,Q.at]
  by_cases h1:y < 2^n
  ·rw[if_pos h1]
   by_cases h2:x < 2^n
   ·rw[if_pos h2,T_at n f x y h2 h1]
   ·rw[if_neg h2,T_at n _ _ _ (by omega) h1]
    unfold sh
    rw[show x - 2^n+2^n=x by omega,Nat.add_zero]
  ·rw[if_neg h1]
   by_cases h2:x < 2^n
   ·rw[if_pos h2,T_at n _ _ _ h2 (by omega)]
    unfold sh
    rw[show y - 2^n+2^n=y by omega,Nat.add_zero]
   ·rw[if_neg h2,T_at n _ _ _ (by omega) (by omega)]
    unfold sh
    rw[show x - 2^n+2^n=x by omega,show y - 2^n+2^n=y by omega]
theorem jX {p:α→Prop}:∀ (n:Nat) (f:Nat→Nat→α),(∀ x y,x < 2^n→y < 2^n→p (f x y))→(T f n).All p
 | 0,f,h=>h 0 0 (by decide) (by decide)
 | n+1,f,h=>by
  rw[bd]at h
  have ha:=jX n f fun x y hx hy=>h x y (by omega) (by omega)
  have hb:=jX n (sh f (2^n) 0) fun x y hx hy=>h _ _ (by omega) (by omega)
  have hc:=jX n (sh f 0 (2^n)) fun x y hx hy=>h _ _ (by omega) (by omega)
  have hd:=jX n (sh f (2^n) (2^n)) fun x y hx hy=>h _ _ (by omega) (by omega)
  rw[T]
  unfold put4
  split
  ·rename_i v e
   split
   ·rw[e]at ha;exact ha
   ·exact⟨ha,hb,hc,hd⟩
  ·exact⟨ha,hb,hc,hd⟩
theorem gO {p:α→Prop}:∀ (n:Nat) (t:Q α) (x y:Nat),t.All p→p (t.at n x y)
 | n,.lf a,x,y,h=>by rw[lO];exact h
 | 0,.nd a _ _ _,x,y,h=>gO 0 a x y h.1
 | n+1,.nd a b c d,x,y,h=>by
  rw[Q.at]
  split
  ·split
   ·exact gO n a _ _ h.1
   ·exact gO n b _ _ h.2.1
  ·split
   ·exact gO n c _ _ h.2.2.1
   ·exact gO n d _ _ h.2.2.2
theorem rA (n:Nat)(a b c d:Q α):T ((Q.nd a b c d).at (n+1)) (n+1)=put4 (T (a.at n) n) (T (b.at n) n) (T (c.at n) n) (T (d.at n) n):=by
 rw[T]
 congr 1
 ·exact aU n _ _ fun x y hx hy=>by rw[Q.at,if_pos hy,if_pos hx]
 ·exact aU n _ _ fun x y hx hy=>by
   unfold sh
   rw[Q.at,if_pos (by omega),if_neg (by omega)]
   simp
 ·exact aU n _ _ fun x y hx hy=>by
   unfold sh
   rw[Q.at,if_neg (by omega),if_pos (by omega)]
   simp
 ·exact aU n _ _ fun x y hx hy=>by
   unfold sh
   rw[Q.at,if_neg (by omega),if_neg (by omega)]
   simp
def Q.qs:Q α→Q α×Q α×Q α×Q α
 | .lf a=>(.lf a,.lf a,.lf a,.lf a)
 | .nd a b c d=>(a,b,c,d)
theorem fg:∀ (n:Nat) (t:Q α),t.dep≤n→t.lean=T (t.at n) n
 | n,.lf a,_=>by
  rw[Q.lean]
  exact(kL a n).symm.trans (aU _ _ _ fun x y _ _=>(lO _ _ _ _).symm)
 | 0,.nd a b c d,h=>by simp[Q.dep]at h
 | n+1,.nd a b c d,h=>by
  have h':1+max (max a.dep b.dep) (max c.dep d.dep)≤n+1:=h
  rw[rA,Q.lean,fg n a (by omega),fg n b (by omega),fg n c (by omega),fg n d (by omega)]
theorem fM {n:Nat}{t:Q α}(h:t.dep≤n):t.lean.dep≤n:=by rw[fg n t h];exact i6 n _
structure En (e:α→D):Prop where
 tup:∀ a,isTup (e a)=false
 gd:∀ n a,good n (e a)=true
 eq:∀ a b,eqD (e a) (e b)=decide (a=b)
 tD:∀ a xs,eqD (e a) (.tup xs)=false
 dT:∀ a xs,eqD (.tup xs) (e a)=false
end
section
variable {α:Type}[DecidableEq α]{e:α→D}
def Q.d (e:α→D):Q α→D
 | .lf a=>e a
 | .nd a b c d=>.tup [a.d e,b.d e,c.d e,d.d e]
theorem Q.gd (E:En e):∀ (n:Nat) (t:Q α),t.dep≤n→good n (t.d e)=true
 | n,.lf a,_=>E.gd n a
 | 0,.nd a b c d,h=>by simp[Q.dep]at h
 | n+1,.nd a b c d,h=>by
  have h':1+max (max a.dep b.dep) (max c.dep d.dep)≤n+1:=h
  rw[Q.d,good,goods,goods,goods,goods,goods,Q.gd E n a (by omega),Q.gd E n b (by omega),Q.gd E n c (by omega),Q.gd E n d (by omega)]
  rfl
theorem Q.eqd (E:En e):∀ (s t:Q α),eqD (s.d e) (t.d e)=decide (s=t)
 | .lf a,.lf b=>by rw[Q.d,Q.d,E.eq];simp
 | .lf a,.nd ..=>by rw[Q.d,Q.d,E.tD];simp
 | .nd ..,.lf b=>by rw[Q.d,Q.d,E.dT];simp
 | .nd a b c d,.nd a' b' c' d'=>by
  rw[Q.d,Q.d,eqD,eqDs,eqDs,eqDs,eqDs,eqDs,Q.eqd E a a',Q.eqd E b b',Q.eqd E c c',Q.eqd E d d']
  simp[Bool.eq_iff_iff]
end
theorem En.int:En FF.D.int:=⟨fun _=>rfl,fun n a=>by cases n<;>rfl,fun a b=>by simp[eqD,Bool.beq_eq_decide_eq],fun a xs=>by simp[eqD],fun a xs=>by simp[eqD]⟩
end Lw
end
section
namespace Lw
open PySem FF
theorem dQ {xs:List D}(h:xs.length≤16777216):sq (.tup xs)=.ok xs:=by unfold sq asSeq;rw[R.bind_ok,if_pos h]
theorem mW {xs:List D}(h:xs.length≤16777216):sq (.lst xs)=.ok xs:=by unfold sq asSeq;rw[R.bind_ok,if_pos h]
theorem sq4 (a b c d:D):sq (.tup [a,b,c,d])=.ok [a,b,c,d]:=dQ (by show 4≤16777216;decide)
theorem rB {e:D→R D}{f:D→D}:∀ {xs:List D},(∀ d∈xs,e d=.ok (f d))→cGo (fun _=>.ok true) e xs=.ok (xs.map f)
 | [],_=>rfl
 | x::xs,h=>by
  rw[cGo]
  simp only
  rw[h x (.head _),rB fun d hd=>h d (.tail _ hd)]
  rfl
theorem tU {e:D→R D}{xs:List D}(f:D→D)(h:∀ d∈xs,e d=.ok (f d)):cMap e xs=.ok (.lst (xs.map f)):=by
 unfold cMap;rw[rB h];rfl
theorem bV {α:Type}{e:D→R D}{l:List α}(c g:α→D)(h:∀ a∈l,e (c a)=.ok (g a)):cMap e (l.map c)=.ok (.lst (l.map g)):=by
 unfold cMap
 have:∀ {l:List α},(∀ a∈l,e (c a)=.ok (g a))→cGo (fun _=>.ok true) e (l.map c)=.ok (l.map g):=by
  intro l
  induction l with
  | nil=>intro _;rfl
  | cons a l ih =>
   intro h
   rw[List.map_cons,cGo]
   simp only
   rw[h a (.head _),ih fun b hb=>h b (.tail _ hb)]
   rfl
 rw[this h];rfl
theorem cMap4 {e:D→R D}{a b c d a' b' c' d':D}(ha:e a=.ok a')(hb:e b=.ok b')(hc:e c=.ok c')(hd:e d=.ok d'):cMap e [a,b,c,d]=.ok (.lst [a',b',c',d']):=by
 unfold cMap;simp only[cGo,ha,hb,hc,hd];rfl
theorem tV {α:Type}{c:D→R Bool}{e:D→R D}{l:List α}(k g:α→D)(p:α→Bool)(h:∀ a∈l,c (k a)=.ok (p a)∧(p a=true→e (k a)=.ok (g a))):cFil c e (l.map k)=.ok (.lst ((l.filter p).map g)):=by
 unfold cFil
 have:∀ {l:List α},(∀ a∈l,c (k a)=.ok (p a)∧(p a=true→e (k a)=.ok (g a)))→cGo c e (l.map k)=.ok ((l.filter p).map g):=by
  intro l
  induction l with
  | nil=>intro _;rfl
  | cons a l ih =>
   intro h
   have h1:=h a (.head _)
   have h2:=ih fun b hb=>h b (.tail _ hb)
   rw[List.map_cons,cGo,h1.1]
   cases q:p a with
   | false=>simp only;rw[h2,List.filter_cons_of_neg (by simp[q])]
   | true=>simp only;rw[h1.2 q,h2,List.filter_cons_of_pos q];rfl
 rw[this h];rfl
@[simp] theorem cO (xs:List D):dTuple [.lst xs]=.ok (.tup xs):=rfl
@[simp] theorem mX (xs:List D):dTuple [.tup xs]=.ok (.tup xs):=rfl
@[simp] theorem oZ (xs:List D):dList [.tup xs]=.ok (.lst xs):=rfl
@[simp] theorem o5 (xs:List D):dList [.lst xs]=.ok (.lst xs):=rfl
@[simp] theorem eF (xs:List D):dLen [.tup xs]=.ok (.int xs.length):=rfl
@[simp] theorem i7 (xs:List D):dLen [.lst xs]=.ok (.int xs.length):=rfl
@[simp] theorem ba (a b:Int):dAdd (.int a) (.int b)=.ok (.int (a+b)):=rfl
@[simp] theorem bv (a b:Int):dSub (.int a) (.int b)=.ok (.int (a - b)):=rfl
@[simp] theorem kM (a b:Int):dLt (.int a) (.int b)=.ok (.bl (decide (a < b))):=rfl
@[simp] theorem kN (a b:Int):dLe (.int a) (.int b)=.ok (.bl (decide (a≤b))):=rfl
@[simp] theorem hU (a b:Int):dGt (.int a) (.int b)=.ok (.bl (decide (b < a))):=rfl
@[simp] theorem tW (a b:Int):dGe (.int a) (.int b)=.ok (.bl (decide (b≤a))):=rfl
@[simp] theorem dR (a b:Int):dEq (.int a) (.int b)=.ok (.bl (decide (a=b))):=by
 show R.ok (D.bl (a==b))=_
 rw[Bool.beq_eq_decide_eq]
@[simp] theorem cY (a b:Int):dNf (.int a) (.int b)=.ok (.bl (!decide (a=b))):=by
 show R.ok (D.bl (!(a==b)))=_
 rw[Bool.beq_eq_decide_eq]
theorem b9 {a b:Int}(h:(-(2^64) < b∧b < 2^64)∨(-(2^64) < a∧a < 2^64)):dMul (.int a) (.int b)=.ok (.int (a*b)):=by
 have:cMul a b=true:=by unfold cMul;simp only[Bool.or_eq_true,Bool.and_eq_true,decide_eq_true_eq];rcases h with h | h;exact .inr h;exact .inl h
 show (if cMul a b=true then R.ok (D.int (a*b)) else R.stuck)=_
 rw[if_pos this]
theorem lP {a b:Int}(h0:0 < b)(h1:b < 1073741824):dDiv (.int a) (.int b)=.ok (.int (a/b)):=by
 have:cDiv a b=true:=by unfold cDiv;simp only[Bool.and_eq_true,decide_eq_true_eq];exact⟨h0,h1⟩
 show (if cDiv a b=true then R.ok (D.int (a/b)) else R.stuck)=_
 rw[if_pos this]
theorem eG {a b:Int}(h0:0 < b):dMod (.int a) (.int b)=.ok (.int (a%b)):=by
 show (if decide (0 < b)=true then R.ok (D.int (a%b)) else R.stuck)=_
 rw[if_pos (by simpa using h0)]
theorem fN {x y:D}(hx:good 60 x=true)(hy:good 60 y=true):dEq x y=.ok (.bl (eqD x y)):=by unfold dEq;rw[if_pos ⟨hx,hy⟩]
theorem lQ {x y:D}(hx:good 60 x=true)(hy:good 60 y=true):dNf x y=.ok (.bl (!eqD x y)):=by unfold dNf;rw[if_pos ⟨hx,hy⟩]
theorem kl {α:Type}{xs:List α}{i:Nat}{x:α}(h:xs[i]?=some x):L2.atI xs ((i:Nat):Int)=some x:=by
 have hi:i < xs.length:=(List.getElem?_eq_some_iff.mp h).1
 unfold L2.atI L2.ixN
 rw[if_pos (by omega),if_pos (by omega)]
 simpa using h
theorem ixT {xs:List D}{i:Nat}{x:D}(h:xs[i]?=some x):dIx (.tup xs) (.int ((i:Nat):Int))=.ok x:=by
 show (match L2.atI xs (i:Int) with | some d=>R.ok d | none=>R.stuck)=_
 rw[kl h]
theorem ixL {xs:List D}{i:Nat}{x:D}(h:xs[i]?=some x):dIx (.lst xs) (.int ((i:Nat):Int))=.ok x:=by
 show (match L2.atI xs (i:Int) with | some d=>R.ok d | none=>R.stuck)=_
 rw[kl h]
@[simp] theorem ix20 (a b:D):dIx (.tup [a,b]) (.int 0)=.ok a:=rfl
@[simp] theorem ix21 (a b:D):dIx (.tup [a,b]) (.int 1)=.ok b:=rfl
@[simp] theorem ix40 (a b c d:D):dIx (.tup [a,b,c,d]) (.int 0)=.ok a:=rfl
@[simp] theorem ix41 (a b c d:D):dIx (.tup [a,b,c,d]) (.int 1)=.ok b:=rfl
@[simp] theorem ix42 (a b c d:D):dIx (.tup [a,b,c,d]) (.int 2)=.ok c:=rfl
@[simp] theorem ix43 (a b c d:D):dIx (.tup [a,b,c,d]) (.int 3)=.ok d:=rfl
@[simp] theorem cB (xs:List D):dIsA qTup (.tup xs)=.ok (.bl true):=rfl
@[simp] theorem o6 (i:Int):dIsA qTup (.int i)=.ok (.bl false):=rfl
theorem i8 {α:Type}(p:α→Bool):∀ l:List α,boolsD (l.map fun d=>D.bl (p d))=some (l.map p)
 | []=>rfl
 | a::r=>by simp only[List.map_cons,boolsD,i8 p r,Option.map_some]
theorem rC {α:Type}(p:α→Bool)(l:List α):dAll [.lst (l.map fun d=>D.bl (p d))]=.ok (.bl (l.all p)):=by
 show (match boolsD (l.map fun d=>D.bl (p d)) with | some bs=>R.ok (D.bl (bs.all id)) | none=>R.stuck)=_
 rw[i8]
 simp[List.all_map,Function.comp_def]
theorem nK (f:Int→Int→Bool)(F' G':D→D→R D){x y w:Int}{g:Int→Int→Bool}(h1:F' (.int x) (.int y)=.ok (.bl (f x y)))(h2:G' (.int y) (.int w)=.ok (.bl (g y w))):rCh F' G' (.int x) (.int y) (.ok (.int w))=.ok (.bl (f x y&&g y w)):=by
 unfold rCh
 rw[h1]
 cases f x y with
 | true=>show G' (.int y) (.int w)=_;rw[h2];rfl
 | false=>rfl
@[simp] theorem dr (x y w:Int):rCh dLe dLe (.int x) (.int y) (.ok (.int w))=.ok (.bl (decide (x≤y)&&decide (y≤w))):=nK (fun a b=>decide (a≤b)) _ _ (g:=fun a b=>decide (a≤b)) rfl rfl
@[simp] theorem lR (x y w:Int):rCh dLe dLt (.int x) (.int y) (.ok (.int w))=.ok (.bl (decide (x≤y)&&decide (y < w))):=nK (fun a b=>decide (a≤b)) _ _ (g:=fun a b=>decide (a < b)) rfl rfl
theorem nM (a b:Bool):vAnd (.ok (.bl a)) (.ok (.bl b))=.ok (.bl (a&&b)):=by cases a<;>rfl
theorem vi (a b:Bool):vOr (.ok (.bl a)) (.ok (.bl b))=.ok (.bl (a||b)):=by cases a<;>rfl
theorem kO (a b:Bool):rAnd (.ok a) (.ok b)=.ok (a&&b):=by cases a<;>rfl
theorem kP (a b:Bool):rOr (.ok a) (.ok b)=.ok (a||b):=by cases a<;>rfl
def isW:D→Bool
 | .int _=>true
 | _=>false
def noX:D→Bool
 | .exc _=>false
 | .fn _=>false
 | _=>true
def inTo (hi:Int):D→Bool
 | .int i=>decide (0≤i)&&decide (i≤hi)
 | _=>false
theorem cc {n:Nat}{d:D}(h:good n d=true):noX d=true:=by
 cases d<;>first | rfl | (cases n<;>simp[good]at h)
theorem eI {n:Nat}(hn:1≤n){d:D}(h:noX d=true):pf n F.av [d]=.ok (.bl (isW d)):=by
 obtain⟨m,rfl⟩:∃ m,n=m+1:=⟨n - 1,by omega⟩
 rw[lG]
 cases d<;>first | rfl | (cases h)
theorem rD {n:Nat}(hn:2≤n){d:D}(h:noX d=true):pf n F.aw [d]=.ok (.bl (inTo 9 d)):=by
 obtain⟨m,rfl⟩:∃ m,n=m+1:=⟨n - 1,by omega⟩
 rw[lH,dE,eI (by omega) h]
 cases d<;>first | rfl | (cases h;done) | skip
 simp[isW,inTo]
theorem tX {n:Nat}(hn:2≤n){d:D}(h:noX d=true):pf n F.aJ [d]=.ok (.bl (inTo 3 d)):=by
 obtain⟨m,rfl⟩:∃ m,n=m+1:=⟨n - 1,by omega⟩
 rw[mH,eL,eI (by omega) h]
 cases d<;>first | rfl | (cases h;done) | skip
 simp[isW,inTo]
def STP:=And.intro @az (And.intro @qK (And.intro @dX (And.intro @vJ (And.intro @vK (And.intro @nB (And.intro @nA (And.intro @nC (And.intro @R.bind_ok (And.intro @R.bind_err (And.intro @aW (And.intro @hR (And.intro @kO (And.intro @kP (And.intro @u9 (And.intro @va (And.intro @vM (And.intro @vN (And.intro @vb (And.intro @vc (And.intro @vO (And.intro @vP (And.intro @nM (And.intro @vi (And.intro @tm (And.intro @vQ (And.intro @vR (And.intro @Bool.not_true (And.intro @Bool.not_false (And.intro @Bool.false_or (And.intro @Bool.true_or (And.intro @Bool.or_false (And.intro @Bool.or_true (And.intro @Bool.true_and (And.intro @Bool.false_and (And.intro @Bool.and_true (And.intro @Bool.and_false (And.intro @Bool.false_eq_true (@Bool.true_eq_false))))))))))))))))))))))))))))))))))))))
def OPP:=And.intro @ba (And.intro @bv (And.intro @kM (And.intro @kN (And.intro @hU (And.intro @tW (And.intro @dR (And.intro @cY (And.intro @eF (And.intro @i7 (And.intro @cO (And.intro @mX (And.intro @oZ (And.intro @o5 (And.intro @ix20 (And.intro @ix21 (And.intro @ix40 (And.intro @ix41 (And.intro @ix42 (And.intro @ix43 (And.intro @cB (And.intro @o6 (And.intro @dr (@lR)))))))))))))))))))))))
end Lw
end
section
namespace Lw
open PySem FF
def slim:Nat→D→Bool
 | n+1,.tup xs=>decide (xs.length≤1000)&&xs.all (slim n)
 | n+1,.lst xs=>decide (xs.length≤1000)&&xs.all (slim n)
 | _,_=>true
def treeOk (p:D→Bool):Nat→Int→D→Bool
 | n+1,s,.tup xs=>decide (s≠0)&&(decide (xs.length=4)&&xs.all (treeOk p n (s - 1)))
 | _,_,d=>p d
theorem cC {n:Nat}:∀ {xs:List D},goods n xs=true→∀ d∈xs,good n d=true
 | x::xs,h,d,hd=>by
  rw[goods,Bool.and_eq_true]at h
  cases hd with
  | head=>exact h.1
  | tail _ hd=>exact cC h.2 d hd
theorem ce {n:Nat}:∀ {xs:List D},(∀ d∈xs,good n d=true)→goods n xs=true
 | [],_=>rfl
 | x::xs,h=>by rw[goods,h x (.head _),ce fun d hd=>h d (.tail _ hd)];rfl
theorem ex1 {n k:Nat}(h:k+1≤n):∃ m,n=m+1∧k≤m:=⟨n - 1,by omega,by omega⟩
theorem cf {d:D}(h:isTup d=false)(h':noX d=true):dIsA qTup d=.ok (.bl false):=by cases d<;>first | rfl | (cases h;done) | (cases h';done)
theorem tY {i c:Nat}{p:D→Bool}(hi:fvL.contains i=true)(hp:∀ m d,c≤m→noX d=true→pf m i [d]=.ok (.bl (p d))):∀ (n m:Nat) (s:Int) (d:D),good n d=true→slim n d=true→n+c+1≤m→pf m F.aC [.int s,d,.fn i]=.ok (.bl (treeOk p n s d)):=by
 have flat:∀ (n m:Nat) (s:Int) (d:D),isTup d=false→noX d=true→c+1≤m→treeOk p n s d=p d→pf m F.aC [.int s,d,.fn i]=.ok (.bl (treeOk p n s d)):=fun n m s d ht hx hm e=>by
  obtain⟨m,rfl,hm⟩:=ex1 hm
  rw[iP,dm,cf ht hx,e]
  have:onF fvL (.fn i) (fun i=>pf m i [d])=.ok (.bl (p d)):=by
   show (if fvL.contains i=true then pf m i [d] else R.stuck)=_
   rw[if_pos hi,hp m d (by omega) hx]
  simp[this]
 intro n
 induction n with
 | zero =>
  intro m s d hg hs hm
  have ht:isTup d=false:=by cases d<;>first | rfl | (simp[good]at hg)
  exact flat 0 m s d ht (cc hg) (by omega) (by cases d<;>rfl)
 | succ n ih =>
  intro m s d hg hs hm
  by_cases ht:isTup d=true
  ·cases d with
   | tup xs =>
    rw[good]at hg
    rw[slim,Bool.and_eq_true,decide_eq_true_eq,List.all_eq_true]at hs
    obtain⟨m,rfl,hm⟩:=ex1 (show n+c+1+1≤m by omega)
    rw[iP,dm]
    have hc:cMap (fun part=>(dSub (.int s) (.int 1)).bind fun x1=>pf m F.aC [x1,part,.fn i]) xs=.ok (.lst (xs.map fun d=>.bl (treeOk p n (s - 1) d))) :=
     tU _ fun d hd=>by rw[bv,R.bind_ok];exact ih m (s - 1) d (cC hg d hd) (hs.2 d hd) (by omega)
    simp only[cB,aW,hR,Bool.not_true,az,dX,dR,eF,R.bind_ok,cY,kP,dQ (show xs.length≤16777216 by omega),hc,rC,treeOk]
    by_cases h0:s=0
    ·simp[h0]
    ·by_cases h4:xs.length=4
     ·simp[h0,h4]
     ·have h4':¬ ((xs.length:Int)=4):=by omega
      simp[h0,h4,h4']
   | _=>cases ht
  ·have ht':isTup d=false:=by simpa using ht
   exact flat (n+1) m s d ht' (cc hg) (by omega) (by cases d<;>first | rfl | (cases ht';done))
def sizedOk (p:D→Bool)(n:Nat):D→Bool
 | .tup [s,t]=>inTo 3 s&&(match s with
  | .int i=>treeOk p n i t
  | _=>false)
 | _=>false
theorem rE {i c:Nat}{p:D→Bool}(hc:2≤c)(hi:fvL.contains i=true)(hp:∀ m d,c≤m→noX d=true→pf m i [d]=.ok (.bl (p d)))(n m:Nat)(d:D)(hg:good (n+1) d=true)(hs:slim (n+1) d=true)(hm:n+c+2≤m):pf m F.aA [d,.fn i]=.ok (.bl (sizedOk p n d)):=by
 obtain⟨m,rfl,hm⟩:=ex1 (show n+c+1+1≤m by omega)
 rw[gr,bz]
 by_cases ht:isTup d=true
 ·cases d with
  | tup xs =>
   rw[good]at hg
   rw[slim,Bool.and_eq_true,decide_eq_true_eq,List.all_eq_true]at hs
   by_cases h2:xs.length=2
   ·match xs,h2 with
    | [a,b],_ =>
     have ga:=cC hg a (by simp)
     have gb:=cC hg b (by simp)
     have sb:=hs.2 b (by simp)
     have hz:pf m F.aJ [a]=.ok (.bl (inTo 3 a)):=tX (by omega) (cc ga)
     simp only[cB,aW,hR,Bool.not_true,eF,R.bind_ok,cY,ix20,ix21,kP,List.length_cons,List.length_nil,hz]
     cases a with
     | int v =>
      rw[tY hi hp n m v b gb sb (by omega)]
      by_cases hv:inTo 3 (.int v)=true
      ·simp[hv,sizedOk]
      ·have hv':inTo 3 (.int v)=false:=by simpa using hv
       simp[hv',sizedOk]
     | _=>simp[sizedOk,inTo]
   ·have h2':¬ ((xs.length:Int)=2):=by omega
    have e:sizedOk p n (.tup xs)=false:=by
     match xs,h2 with
     | [],_=>rfl
     | [_],_=>rfl
     | _::_::_::_,_=>rfl
    simp[h2',e]
  | _=>cases ht
 ·have ht':isTup d=false:=by simpa using ht
  rw[cf ht' (cc hg)]
  have e:sizedOk p n d=false:=by cases d<;>first | rfl | (cases ht';done)
  simp[e]
end Lw
end
section
namespace Lw
open PySem FF
def scr (ns:List Int):D:=.lst (ns.map .int)
def cell (ns:List Int)(k:Nat):Int:=if k < ns.length then ns.getD k 0 else if ns=[] then 0 else ns.getD (k%ns.length) 0*31+k
def pk (ns:List Int)(k:Nat)(m:Int):Int :=
 let d:=(cell ns k+6151*((k:Int)+1))*40692%2147483399
 (d*d+d/31)%2147483629%m
theorem gT {ns:List Int}{k:Nat}{m:Int}(h:0 < m):0≤pk ns k m:=Int.emod_nonneg _ (by omega)
theorem gU {ns:List Int}{k:Nat}{m:Int}(h:0 < m):pk ns k m < m:=Int.emod_lt_of_pos _ h
theorem jY (n:Nat):∀ ns:List Int,goods n (ns.map .int)=true
 | []=>rfl
 | i::r=>by rw[List.map_cons,goods,jY n r];cases n<;>rfl
theorem tZ {n:Nat}(hn:1≤n)(ns:List Int)(k:Nat):pf n F.aO [scr ns,.int k]=.ok (.int (cell ns k)):=by
 obtain⟨n,rfl,hn⟩:=ex1 hn
 rw[oM,fB]
 unfold scr cell
 by_cases h:k < ns.length
 ·have h':((k:Int) < (ns.length:Int)):=by omega
  have e0:=ixL (xs:=ns.map .int) (i:=k) (x:=.int (ns.getD k 0)) (by rw[List.getElem?_map,List.getElem?_eq_getElem h];simp[List.getD,h])
  simp only[STP,if_true,if_false,ite_true,ite_false,reduceIte,reduceCtorEq,OPP,List.length_map,decide_eq_true h',e0,if_pos h]
 ·have h':¬ ((k:Int) < (ns.length:Int)):=by omega
  cases ns with
  | nil =>
   have e1:dEq (.lst []) (.lst [])=.ok (.bl true):=rfl
   have h2:¬ ((k:Int) < ((0:Nat):Int)):=by omega
   simp only[STP,if_true,if_false,ite_true,ite_false,reduceIte,reduceCtorEq,OPP,List.map_nil,List.length_nil,decide_eq_false h2,e1,if_neg (Nat.not_lt_zero k)]
  | cons a r =>
   have hl:0 < (a::r).length:=by simp
   have hk:k%(a::r).length < (a::r).length:=Nat.mod_lt _ hl
   have e1:dEq (.lst ((a::r).map .int)) (.lst [])=.ok (.bl false):=by
    rw[fN (by rw[good];exact jY _ _) rfl]
    simp[eqD,eqDs]
   have e2:dMod (.int (k:Int)) (.int ((a::r).length:Int))=.ok (.int ((k%(a::r).length:Nat):Int)):=by
    rw[eG (by omega)];rfl
   have e3:dIx (.lst ((a::r).map .int)) (.int ((k%(a::r).length:Nat):Int))=.ok (.int ((a::r).getD (k%(a::r).length) 0)) :=
    ixL (by rw[List.getElem?_map,List.getElem?_eq_getElem hk,List.getD,List.getElem?_eq_getElem hk];rfl)
   have e4:=b9 (a:=(a::r).getD (k%(a::r).length) 0) (b:=31) (.inl (by decide))
   simp only[STP,if_true,if_false,ite_true,ite_false,reduceIte,reduceCtorEq,OPP,List.length_map,decide_eq_false h',e1,e2,e3,e4,if_neg h]
theorem cZ {n:Nat}(hn:2≤n)(ns:List Int)(k:Nat){m:Int}(hm:0 < m):pf n F.ac [scr ns,.int k,.int m]=.ok (.int (pk ns k m)):=by
 obtain⟨n,rfl,hn⟩:=ex1 hn
 rw[oN,fC,tZ (by omega)]
 simp only[R.bind_ok,ba]
 rw[b9 (.inr (by decide))]
 simp only[R.bind_ok,ba]
 rw[b9 (.inl (by decide))]
 simp only[R.bind_ok]
 rw[eG (by decide)]
 simp only[az]
 have h0:0≤(cell ns k+6151*((k:Int)+1))*40692%2147483399:=Int.emod_nonneg _ (by decide)
 have h1:(cell ns k+6151*((k:Int)+1))*40692%2147483399 < 2147483399:=Int.emod_lt_of_pos _ (by decide)
 rw[b9 (.inl ⟨by omega,by omega⟩),lP (by decide) (by decide)]
 simp only[R.bind_ok,ba]
 rw[eG (by decide)]
 simp only[R.bind_ok]
 rw[eG hm]
 rfl
theorem hV {n:Nat}(hn:2≤n)(ns:List Int)(k:Nat){a m:Int}(ha:a=(k:Int))(hm:0 < m):pf n F.ac [scr ns,.int a,.int m]=.ok (.int (pk ns k m)):=by subst ha;exact cZ hn ns k hm
def W9 (v:Int):Prop:=0≤v∧v≤9
def dleaf (ns:List Int)(k:Nat):Int:=[0,1,1,2,9,pk ns (k+1) 10].getD (pk ns (k+2) 6).toNat 0
def dt (ns:List Int):Nat→Nat→Q Int
 | 0,k=>.lf (dleaf ns k)
 | n+1,k=>if pk ns k 6 < 2 then .lf (dleaf ns k) else if pk ns k 6=2 then .nd (dt ns n (k+3)) (dt ns n (k+3)) (dt ns n (k+3)) (dt ns n (k+3)) else
  .nd (dt ns n (5*k+7)) (dt ns n (5*k+18)) (dt ns n (5*k+29)) (dt ns n (5*k+40))
theorem nN (ns:List Int)(k:Nat):W9 (dleaf ns k):=by
 unfold dleaf W9
 have h0:=gT (ns:=ns) (k:=k+2) (m:=6) (by decide)
 have h1:=gU (ns:=ns) (k:=k+2) (m:=6) (by decide)
 have g0:=gT (ns:=ns) (k:=k+1) (m:=10) (by decide)
 have g1:=gU (ns:=ns) (k:=k+1) (m:=10) (by decide)
 obtain⟨j,hj⟩:∃ j:Nat,pk ns (k+2) 6=(j:Int):=⟨(pk ns (k+2) 6).toNat,by omega⟩
 rw[hj]at h1 ⊢
 have:j < 6:=by omega
 rcases j with _ | _ | _ | _ | _ | _ | j<;>first | (simp;done) | (simp;omega) | omega
theorem rF (ns:List Int):∀ n k,(dt ns n k).dep≤n
 | 0,k=>Nat.le_refl _
 | n+1,k=>by
  rw[dt]
  have h1:=rF ns n
  split
  ·exact Nat.zero_le _
  ·split
   ·have:=h1 (k+3);simp only[Q.dep];omega
   ·have a:=h1 (5*k+7);have b:=h1 (5*k+18);have c:=h1 (5*k+29);have d:=h1 (5*k+40);simp only[Q.dep];omega
theorem rG (ns:List Int):∀ n k,(dt ns n k).All W9
 | 0,k=>nN ns k
 | n+1,k=>by
  rw[dt]
  have h1:=rG ns n
  split
  ·exact nN ns k
  ·split
   ·exact⟨h1 _,h1 _,h1 _,h1 _⟩
   ·exact⟨h1 _,h1 _,h1 _,h1 _⟩
theorem lT {n:Nat}(hn:2≤n)(ns:List Int)(k:Nat):((((dAdd (.int (k:Int)) (.int 1)).bind fun x=>pf n F.ac [scr ns,x,(.int 10)]).bind fun x1=>.ok (.lst [(.int 0),(.int 1),(.int 1),(.int 2),(.int 9),x1])).bind fun x2=>((dAdd (.int (k:Int)) (.int 2)).bind fun x3=>pf n F.ac [scr ns,x3,(.int 6)]).bind fun x4=>dIx x2 x4)=.ok (.int (dleaf ns k)):=by
 simp only[ba,R.bind_ok]
 rw[hV hn ns (k+1) (by omega) (by decide),hV hn ns (k+2) (by omega) (by decide)]
 simp only[R.bind_ok]
 have h0:=gT (ns:=ns) (k:=k+2) (m:=6) (by decide)
 have h1:=gU (ns:=ns) (k:=k+2) (m:=6) (by decide)
 unfold dleaf
 obtain⟨j,hj⟩:∃ j:Nat,pk ns (k+2) 6=(j:Int):=⟨(pk ns (k+2) 6).toNat,by omega⟩
 rw[hj]at h1 ⊢
 have:j < 6:=by omega
 rcases j with _ | _ | _ | _ | _ | _ | j<;>first | rfl | omega
theorem rep4 (x:D):dMul (.tup [x]) (.int 4)=.ok (.tup [x,x,x,x]):=rfl
theorem rng4:rng1 [.int 4]=.ok [.int 0,.int 1,.int 2,.int 3]:=rfl
theorem rH (ns:List Int):∀ (s k n:Nat),s+3≤n→pf n F.ay [scr ns,.int k,.int s]=.ok ((dt ns s k).d .int):=by
 intro s
 induction s with
 | zero =>
  intro k n hn
  obtain⟨n,rfl,hn⟩:=ex1 (show 2+1≤n by omega)
  rw[jT,eh,cZ (by omega) ns k (by decide)]
  simp only[az]
  rw[lT (by omega)]
  simp[dt,Q.d]
 | succ s ih =>
  intro k n hn
  obtain⟨n,rfl,hn⟩:=ex1 (show s+3+1≤n by omega)
  rw[jT,eh,cZ (by omega) ns k (by decide)]
  simp only[az]
  rw[lT (by omega)]
  have hs:¬ (((s+1:Nat):Int)=0):=by omega
  have hs1:((s+1:Nat):Int) - 1=(s:Int):=by omega
  have ih':∀ (a:Int) (j:Nat),a=(j:Int)→pf n F.ay [scr ns,.int a,.int (s:Int)]=.ok ((dt ns s j).d .int):=fun a j e=>by subst e;exact ih j n (by omega)
  rw[dt]
  by_cases h2:pk ns k 6 < 2
  ·simp only[STP,if_true,if_false,ite_true,ite_false,reduceIte,reduceCtorEq,OPP,decide_eq_false hs,decide_eq_true h2,if_pos h2,Q.d]
  ·by_cases h3:pk ns k 6=2
   ·have e:=ih' ((k:Int)+3) (k+3) (by omega)
    simp only[STP,if_true,if_false,ite_true,ite_false,reduceIte,reduceCtorEq,OPP,decide_eq_false hs,decide_eq_false h2,decide_eq_true h3,if_neg h2,if_pos h3,hs1,e,rep4,Q.d]
   ·have step:∀ (i:Nat) ,(((dMul (.int 5) (.int (k:Int))).bind fun x9=>dAdd x9 (.int 7)).bind fun x10=>(dMul (.int 11) (.int (i:Int))).bind fun x11=>dAdd x10 x11).bind (fun x12=>pf n F.ay [scr ns,x12,.int (s:Int)])=.ok ((dt ns s (5*k+7+11*i)).d .int):=fun i=>by
     rw[b9 (.inr (by decide)),b9 (.inr (by decide))]
     simp only[R.bind_ok,ba]
     exact ih' _ _ (by omega)
    have e:cMap (fun wE=>(((dMul (.int 5) (.int (k:Int))).bind fun x9=>dAdd x9 (.int 7)).bind fun x10=>(dMul (.int 11) wE).bind fun x11=>dAdd x10 x11).bind fun x12=>pf n F.ay [scr ns,x12,.int (s:Int)]) [.int 0,.int 1,.int 2,.int 3]=.ok (.lst [(dt ns s (5*k+7)).d .int,(dt ns s (5*k+18)).d .int,(dt ns s (5*k+29)).d .int,(dt ns s (5*k+40)).d .int]):=cMap4 (step 0) (step 1) (step 2) (step 3)
    simp only[STP,if_true,if_false,ite_true,ite_false,reduceIte,reduceCtorEq,OPP,decide_eq_false hs,decide_eq_false h2,decide_eq_false h3,if_neg h2,if_neg h3,hs1,rng4]
    rw[e]
    rfl
structure Pc (sz:Nat)(t:Q Int):Prop where
 h3:sz≤3
 dep:t.dep≤sz
 all:t.All W9
def picD (sz:Nat)(t:Q Int):D:=.tup [.int (sz:Int),t.d .int]
theorem kQ (ns:List Int)(k most n:Nat)(hm:most≤3)(hn:7≤n):∃ sz t,sz≤most∧Pc sz t∧pf n F.ae [scr ns,.int k,.int most]=.ok (picD sz t):=by
 obtain⟨n,rfl,hn⟩:=ex1 (show 6+1≤n by omega)
 have h0:=gT (ns:=ns) (k:=k) (m:=7) (by decide)
 have h1:=gU (ns:=ns) (k:=k) (m:=7) (by decide)
 obtain⟨j,hj⟩:∃ j:Nat,pk ns k 7=(j:Int):=⟨(pk ns k 7).toNat,by omega⟩
 rw[hj]at h1
 have hj7:j < 7:=by omega
 obtain⟨c,hc3,hc⟩:∃ c:Nat,c≤3∧dIx (.lst [(.int 0),(.int 0),(.int 0),(.int 1),(.int 1),(.int 2),(.int 3)]) (.int (j:Int))=.ok (.int (c:Int)):=by
  rcases j with _ | _ | _ | _ | _ | _ | _ | j
  ·exact⟨0,by omega,rfl⟩
  ·exact⟨0,by omega,rfl⟩
  ·exact⟨0,by omega,rfl⟩
  ·exact⟨1,by omega,rfl⟩
  ·exact⟨1,by omega,rfl⟩
  ·exact⟨2,by omega,rfl⟩
  ·exact⟨3,by omega,rfl⟩
  ·omega
 refine⟨most - c,dt ns (most - c) (k+1),by omega,⟨by omega,rF _ _ _,rG _ _ _⟩,?_⟩
 have hx:dMax2 [.int 0,.int ((most:Int) - (c:Int))]=.ok (.int ((most - c:Nat):Int)):=by
  show R.ok (D.int (if (most:Int) - c > 0 then (most:Int) - c else 0))=_
  congr 2
  split<;>omega
 rw[kC,cW,cZ (by omega) ns k (by decide),R.bind_ok,hj,hc]
 simp only[R.bind_ok,bv,hx,az,ba]
 have e:((k:Int)+1)=((k+1:Nat):Int):=by omega
 rw[e,rH ns (most - c) (k+1) n (by omega)]
 rfl
end Lw
end
section
namespace Lw
open PySem FF
section
variable {α:Type}[DecidableEq α]{e:α→D}
theorem bW:∀ {n m:Nat} {d:D},good n d=true→n≤m→good m d=true
 | n,m,.non,_,_=>by cases m<;>rfl
 | n,m,.bl _,_,_=>by cases m<;>rfl
 | n,m,.int _,_,_=>by cases m<;>rfl
 | n,m,.str _,_,_=>by cases m<;>rfl
 | n,m,.exc _,h,_=>by cases n<;>simp[good]at h
 | n,m,.fn _,h,_=>by cases n<;>simp[good]at h
 | 0,m,.tup _,h,_=>by simp[good]at h
 | 0,m,.lst _,h,_=>by simp[good]at h
 | n+1,0,.tup _,_,l=>by omega
 | n+1,0,.lst _,_,l=>by omega
 | n+1,m+1,.tup xs,h,l=>by
  rw[good]at h ⊢
  exact ce fun d hd=>bW (n:=n) (cC h d hd) (by omega)
 | n+1,m+1,.lst xs,h,l=>by
  rw[good]at h ⊢
  exact ce fun d hd=>bW (n:=n) (cC h d hd) (by omega)
theorem vj (E:En e){n:Nat}(hn:1≤n){a b c d:Q α}(ha:a.dep≤50)(hb:b.dep≤50)(hc:c.dep≤50)(hd:d.dep≤50):pf n F.aD [.tup [a.d e,b.d e,c.d e,d.d e]]=.ok ((put4 a b c d).d e):=by
 obtain⟨n,rfl,hn⟩:=ex1 hn
 rw[gZ,bM]
 cases a with
 | nd a1 a2 a3 a4=>simp only[STP,if_true,if_false,ite_true,ite_false,reduceIte,reduceCtorEq,OPP,Q.d,put4]
 | lf v =>
  have e1:dIsA qTup (Q.d e (.lf v))=.ok (.bl false):=cf (E.tup v) (cc (E.gd 0 v))
  have gv:good 59 (e v)=true:=E.gd 59 v
  have e2:dEq (.tup [Q.d e (.lf v),b.d e,c.d e,d.d e]) (.tup [Q.d e (.lf v),Q.d e (.lf v),Q.d e (.lf v),Q.d e (.lf v)])=.ok (.bl (decide (b=.lf v)&&(decide (c=.lf v)&&decide (d=.lf v)))):=by
   rw[fN]
   ·rw[eqD,eqDs,eqDs,eqDs,eqDs,eqDs,Q.eqd E,Q.eqd E,Q.eqd E,Q.eqd E]
    simp
   ·rw[good,goods,goods,goods,goods,goods,bW (Q.gd E 50 b hb) (by decide),bW (Q.gd E 50 c hc) (by decide),bW (Q.gd E 50 d hd) (by decide),Q.d,gv]
    rfl
   ·rw[good,goods,goods,goods,goods,goods,Q.d,gv]
    rfl
  simp only[STP,if_true,if_false,ite_true,ite_false,reduceIte,reduceCtorEq,OPP,e1,e2]
  unfold put4
  by_cases hb':b=.lf v
  ·by_cases hc':c=.lf v
   ·by_cases hd':d=.lf v
    ·simp[hb',hc',hd']
    ·simp[hb',hc',hd',Q.d]
   ·simp[hb',hc',Q.d]
  ·simp[hb',Q.d]
theorem cP (E:En e):∀ (t:Q α) (n:Nat),t.dep≤40→t.dep+2≤n→pf n F.ad [t.d e]=.ok (t.lean.d e)
 | .lf a,n,_,hn=>by
  obtain⟨n,rfl,hn⟩:=ex1 (show 1+1≤n by omega)
  rw[fG,bY]
  have e1:dIsA qTup (Q.d e (.lf a))=.ok (.bl false):=cf (E.tup a) (cc (E.gd 0 a))
  simp only[STP,if_true,if_false,ite_true,ite_false,reduceIte,reduceCtorEq,e1,Q.lean]
 | .nd a b c d,n,hd,hn=>by
  have hd':1+max (max a.dep b.dep) (max c.dep d.dep)≤40:=hd
  have hn':1+max (max a.dep b.dep) (max c.dep d.dep)+2≤n:=hn
  obtain⟨n,rfl,hn⟩:=ex1 (show max (max a.dep b.dep) (max c.dep d.dep)+2+1≤n by omega)
  rw[fG,bY]
  have ka:=cP E a n (by omega) (by omega)
  have kb:=cP E b n (by omega) (by omega)
  have kc:=cP E c n (by omega) (by omega)
  have kd:=cP E d n (by omega) (by omega)
  have hm:cMap (fun part=>pf n F.ad [part]) [a.d e,b.d e,c.d e,d.d e]=.ok (.lst [a.lean.d e,b.lean.d e,c.lean.d e,d.lean.d e]):=cMap4 ka kb kc kd
  have hp:=vj E (n:=n) (by omega) (a:=a.lean) (b:=b.lean) (c:=c.lean) (d:=d.lean) (fM (n:=50) (by omega)) (fM (n:=50) (by omega)) (fM (n:=50) (by omega)) (fM (n:=50) (by omega))
  rw[Q.d]
  simp only[STP,if_true,if_false,ite_true,ite_false,reduceIte,reduceCtorEq,OPP,sq4,hm,hp,Q.lean]
theorem nO:∀ {n:Nat} {d:D},isTup d=false→isLst d=false→slim n d=true
 | 0,d,_,_=>by cases d<;>rfl
 | n+1,d,h,h'=>by cases d<;>first | rfl | (cases h;done) | (cases h';done)
theorem i9 (hl:∀ a,isLst (e a)=false)(E:En e):∀ (n:Nat) (t:Q α),slim n (t.d e)=true
 | n,.lf a=>nO (E.tup a) (hl a)
 | 0,.nd ..=>rfl
 | n+1,.nd a b c d=>by
  rw[Q.d,Lw.slim]
  simp only[List.all_cons,List.all_nil,i9 hl E n a,i9 hl E n b,i9 hl E n c,i9 hl E n d,List.length_cons,List.length_nil]
  rfl
theorem ja {p:D→Bool}(E:En e):∀ (m:Nat) (s:Nat) (t:Q α),t.dep≤m→t.dep≤s→t.All (fun a=>p (e a)=true)→treeOk p m s (t.d e)=true
 | m,s,.lf a,_,_,h=>by
  have:treeOk p m s (e a)=p (e a):=by
   have:=E.tup a
   cases m with
   | zero=>cases e a<;>rfl
   | succ m=>cases q:e a<;>first | rfl | (rw[q]at this;cases this)
  exact this.trans h
 | 0,s,.nd a b c d,h,_,_=>by simp[Q.dep]at h
 | m+1,0,.nd a b c d,_,h,_=>by simp[Q.dep]at h
 | m+1,s+1,.nd a b c d,h,h',hall=>by
  have h1:1+max (max a.dep b.dep) (max c.dep d.dep)≤m+1:=h
  have h2:1+max (max a.dep b.dep) (max c.dep d.dep)≤s+1:=h'
  rw[Q.d,Lw.treeOk,show ((s+1:Nat):Int) - 1=(s:Int) by omega]
  have h0:((s+1:Nat):Int)≠0:=by omega
  simp only[List.all_cons,List.all_nil,ja E m s a (by omega) (by omega) hall.1,ja E m s b (by omega) (by omega) hall.2.1,ja E m s c (by omega) (by omega) hall.2.2.1,ja E m s d (by omega) (by omega) hall.2.2.2,List.length_cons,List.length_nil,decide_eq_true h0]
  rfl
end
theorem fO {α:Type}{p q:α→Prop}(h:∀ a,p a→q a):∀ {t:Q α},t.All p→t.All q
 | .lf a,x=>h a x
 | .nd _ _ _ _,x=>⟨fO h x.1,fO h x.2.1,fO h x.2.2.1,fO h x.2.2.2⟩
theorem in9 {v:Int}(h:W9 v):inTo 9 (.int v)=true:=by simp[inTo,h.1,h.2]
theorem rJ:fvL.contains F.aw=true:=by decide
theorem rK {n m:Nat}{d:D}(hg:good (m+1) d=true)(hs:slim (m+1) d=true)(hn:m+5≤n):pf n F.aI [d]=.ok (.bl (sizedOk (inTo 9) m d)):=by
 obtain⟨n,rfl,hn⟩:=ex1 (show m+4+1≤n by omega)
 rw[jt,cu,rE (c:=2) (p:=inTo 9) (by decide) rJ (fun m d h1 h2=>rD h1 h2) m n d hg hs (by omega)]
 rfl
theorem jZ {n m:Nat}{d:D}(hg:good (m+1) d=true)(hs:slim (m+1) d=true)(hn:m+6≤n):pf n F.aa [d]=if sizedOk (inTo 9) m d=true then .ok .non else .err 1:=by
 obtain⟨n,rfl,hn⟩:=ex1 (show m+5+1≤n by omega)
 rw[gu,bE,rK hg hs (by omega)]
 cases sizedOk (inTo 9) m d<;>rfl
section
variable {sz:Nat}{t:Q Int}
theorem Pc.good (p:Pc sz t):good 4 (picD sz t)=true:=by
 unfold picD
 rw[FF.good,goods,goods,goods,Q.gd En.int 3 t (Nat.le_trans p.dep p.h3)]
 rfl
theorem Pc.slim (p:Pc sz t):slim 4 (picD sz t)=true:=by
 unfold picD
 rw[Lw.slim]
 simp only[List.all_cons,List.all_nil,i9 (fun _=>rfl) En.int,nO (d:=.int (sz:Int)) rfl rfl,List.length_cons,List.length_nil]
 rfl
theorem Pc.sized (p:Pc sz t):sizedOk (inTo 9) 3 (picD sz t)=true:=by
 have h3:=p.h3
 have h1:inTo 3 (.int (sz:Int))=true:=by simp[inTo];omega
 unfold picD sizedOk
 simp only[h1,ja En.int 3 sz t (Nat.le_trans p.dep p.h3) p.dep (fO (fun a h=>in9 h) p.all)]
 rfl
theorem Pc.check (p:Pc sz t){n:Nat}(hn:9≤n):pf n F.aa [picD sz t]=.ok .non:=by rw[jZ p.good p.slim hn,p.sized];rfl
theorem Pc.lean (p:Pc sz t){n:Nat}(hn:10≤n):pf n F.aP [picD sz t]=.ok (picD sz (T (t.at sz) sz)):=by
 obtain⟨n,rfl,hn⟩:=ex1 (show 9+1≤n by omega)
 have h3:=p.h3
 have hd:=p.dep
 have e1:=p.check (n:=n) (by omega)
 have e2:=cP En.int t n (by omega) (by omega)
 rw[tH,kA,e1,← fg sz t p.dep]
 unfold picD
 simp only[STP,if_true,if_false,ite_true,ite_false,reduceIte,reduceCtorEq,OPP,e2]
theorem pc_T {f:Nat→Nat→Int}(h3:sz≤3)(h:∀ x y,x < 2^sz→y < 2^sz→W9 (f x y)):Pc sz (T f sz):=⟨h3,i6 sz f,jX sz f h⟩
theorem Pc.at (p:Pc sz t)(x y:Nat):W9 (t.at sz x y):=gO sz t x y p.all
end
end Lw
end
section
namespace Lw
open PySem FF
section
variable {α:Type}[DecidableEq α]{e:α→D}
theorem p8 {s:Nat}(h:s≤3):2^s≤8:=by
 have:s=0∨s=1∨s=2∨s=3:=by omega
 rcases this with rfl | rfl | rfl | rfl<;>decide
theorem pos2 (s:Nat):0 < 2^s:=Nat.pow_pos (by decide)
theorem fP {a b:Nat}(h0:0 < b)(h1:b < 1073741824):dDiv (.int (a:Int)) (.int (b:Int))=.ok (.int ((a/b:Nat):Int)):=by
 rw[lP (by omega) (by omega)];rfl
theorem rL {a b:Nat}(h0:0 < b):dMod (.int (a:Int)) (.int (b:Int))=.ok (.int ((a%b:Nat):Int)):=by
 rw[eG (by omega)];rfl
end
def rowT {α:Type}(e:α→D)(f:Nat→Nat→α)(w y:Nat):D:=.tup ((List.range w).map fun x=>e (f x y))
def rowsT {α:Type}(e:α→D)(f:Nat→Nat→α)(w h:Nat):D:=.tup ((List.range h).map fun y=>rowT e f w y)
theorem fQ {s:Nat}(h:s≤16777216):rng1 [.int (s:Int)]=.ok ((List.range s).map fun i=>D.int ((i:Nat):Int)):=by
 show (if -16777216≤(s:Int)∧(s:Int)≤16777216 then R.ok (rngD 0 (s:Int).toNat) else R.stuck)=_
 rw[if_pos ⟨by omega,by omega⟩]
 unfold rngD
 simp
theorem mY {α:Type}{e:α→D}{f g:Nat→Nat→α}{w y:Nat}(h:∀ x,x < w→f x y=g x y):rowT e f w y=rowT e g w y:=by
 unfold rowT
 congr 1
 exact List.map_congr_left fun x hx=>by rw[h x (List.mem_range.mp hx)]
theorem lU {α:Type}{e:α→D}{f g:Nat→Nat→α}{w k:Nat}(h:∀ x y,x < w→y < k→f x y=g x y):rowsT e f w k=rowsT e g w k:=by
 unfold rowsT
 congr 1
 exact List.map_congr_left fun y hy=>mY fun x hx=>h x y hx (List.mem_range.mp hy)
theorem t4 {α:Type}{e:α→D}{f:Nat→Nat→α}{w x y:Nat}(h:x < w):dIx (rowT e f w y) (.int (x:Int))=.ok (e (f x y)):=ixT (by simp[h])
section
variable {sz:Nat}{t:Q Int}
end
end Lw
end
section
namespace Lw
open PySem FF
theorem nP (n:Nat):dDiv (.int ((2^(n+1):Nat):Int)) (.int 2)=.ok (.int ((2^n:Nat):Int)):=by
 have:=fP (a:=2^(n+1)) (b:=2) (by decide) (by decide)
 rw[show (2^(n+1)/2:Nat)=2^n by rw[bd];omega]at this
 exact this
theorem mZ {sz:Nat}(h:sz≤3):sz=0∨sz=1∨sz=2∨sz=3:=by omega
theorem m5 {sz:Nat}(h:sz≤3):dIndexI [(.int 1),(.int 2),(.int 4),(.int 8)] [.int ((2^sz:Nat):Int)]=.ok (.int (sz:Int)):=by
 rcases mZ h with rfl | rfl | rfl | rfl<;>rfl
def Wo (f:Nat→Nat→Int)(sz:Nat):Prop:=∀ x y,x < 2^sz→y < 2^sz→W9 (f x y)
def rowL {α:Type}(e:α→D)(f:Nat→Nat→α)(w y:Nat):D:=.lst ((List.range w).map fun x=>e (f x y))
def rowsL {α:Type}(e:α→D)(f:Nat→Nat→α)(w h:Nat):D:=.lst ((List.range h).map fun y=>rowL e f w y)
theorem rM {α:Type}{e:α→D}{f:Nat→Nat→α}{w k y:Nat}(h:y < k):dIx (rowsL e f w k) (.int (y:Int))=.ok (rowL e f w y):=ixL (by simp[h])
theorem catL {xs ys:List D}(h:xs.length+ys.length≤16777216):dAdd (.lst xs) (.lst ys)=.ok (.lst (xs++ys)):=by
 show (if xs.length+ys.length≤16777216 then R.ok (D.lst (xs++ys)) else R.stuck)=_
 rw[if_pos h]
theorem catT {xs ys:List D}(h:xs.length+ys.length≤16777216):dAdd (.tup xs) (.tup ys)=.ok (.tup (xs++ys)):=by
 show (if xs.length+ys.length≤16777216 then R.ok (D.tup (xs++ys)) else R.stuck)=_
 rw[if_pos h]
theorem jb {α:Type}{e:α→D}{fa fb F:Nat→Nat→α}{h y y':Nat}(ha:∀ x,x < h→F x y'=fa x y)(hb:∀ x,x < h→F (h+x) y'=fb x y):((List.range h).map fun x=>e (fa x y))++((List.range h).map fun x=>e (fb x y))=(List.range (h+h)).map fun x=>e (F x y'):=by
 rw[List.range_add,List.map_append,List.map_map]
 congr 1
 ·exact List.map_congr_left fun x hx=>by rw[ha x (List.mem_range.mp hx)]
 ·exact List.map_congr_left fun x hx=>by show _=e (F (h+x) y');rw[hb x (List.mem_range.mp hx)]
theorem rN {xs ys:List D}(h:xs.length+ys.length≤16777216):oExt xs (.lst ys)=.ok (xs++ys):=by unfold oExt;simp[h]
theorem rP {xs ys:List D}(h:xs.length+ys.length≤16777216):oExt xs (.tup ys)=.ok (xs++ys):=by unfold oExt;simp[h]
theorem t5 {xs:List D}{y:D}(h:xs.length < 16777216):oApp xs y=.ok (xs++[y]):=by unfold oApp;simp[h]
section
variable {α:Type}[DecidableEq α]{e:α→D}
theorem lV {fa fb F:Nat→Nat→α}{h o:Nat}(hh:h≤1000){some_:List D}{u:Nat}(e1:some_[u]?=some (rowsL e fa h h))(e2:some_[u+1]?=some (rowsL e fb h h))(ha:∀ x y,x < h→y < h→F x (o+y)=fa x y)(hb:∀ x y,x < h→y < h→F (h+x) (o+y)=fb x y){t:Nat→List D→R D}{made:List D}(hm:made.length≤1000) :
  cJ t (.lst some_) made (.int (u:Int))=.nx (made++(List.range h).map fun y=>rowL e F (h+h) (o+y)):=by
 have i1:=ixL e1
 have i2:dIx (.lst some_) (.int ((u:Int)+1))=.ok (rowsL e fb h h):=by have:=ixL e2;rw[show ((u+1:Nat):Int)=(u:Int)+1 by omega]at this;exact this
 have hl:dLen [rowsL e fa h h]=.ok (.int (h:Int)):=by unfold rowsL;rw[i7,List.length_map,List.length_range]
 have hc:cMap (fun wE=>((dIx (.lst some_) (.int (u:Int))).bind fun x2=>dIx x2 wE).bind fun x3=>(((dAdd (.int (u:Int)) (.int 1)).bind fun x4=>dIx (.lst some_) x4).bind fun x5=>dIx x5 wE).bind fun x6=>dAdd x3 x6) ((List.range h).map fun i=>D.int ((i:Nat):Int))=.ok (.lst ((List.range h).map fun y=>rowL e F (h+h) (o+y))) :=
  bV _ _ fun y hy=>by
   have hy:=List.mem_range.mp hy
   rw[i1]
   simp only[STP,if_true,if_false,ite_true,ite_false,reduceIte,reduceCtorEq,OPP,i2,rM hy]
   unfold rowL
   rw[catL (by simp;omega),jb (F:=F) (y':=o+y) (fun x hx=>ha x y hx hy) (fun x hx=>hb x y hx hy)]
 unfold cJ
 rw[i1]
 simp only[STP,if_true,if_false,ite_true,ite_false,reduceIte,reduceCtorEq,hl,fQ (show h≤16777216 by omega)]
 rw[i1]at hc
 simp only[STP,if_true,if_false,ite_true,ite_false,reduceIte,reduceCtorEq]at hc
 simp only[STP,if_true,if_false,ite_true,ite_false,reduceIte,reduceCtorEq,hc]
 rw[rN (by simp;omega)]
 rfl
theorem cQ (E:En e):∀ (s:Nat) (t:Q α) (n:Nat),s≤3→t.dep≤s→s+1≤n→pf n F.az [.int (s:Int),t.d e]=.ok (rowsL e (t.at s) (2^s) (2^s))
 | 0,t,n,_,hd,hn=>by
  obtain⟨n,rfl,hn⟩:=ex1 (show 0+1≤n by omega)
  rw[fH,bZ,show ((0:Nat):Int)=0 from rfl]
  simp only[STP,if_true,if_false,ite_true,ite_false,reduceIte,reduceCtorEq,OPP,decide_true]
  cases t with
  | lf a=>rfl
  | nd=>simp[Q.dep]at hd
 | s+1,t,n,h3,hd,hn=>by
  obtain⟨n,rfl,hn⟩:=ex1 (show s+1+1≤n by omega)
  have e0:¬ (((s+1:Nat):Int)=0):=by omega
  have e1:((s+1:Nat):Int) - 1=(s:Int):=by omega
  have h8:=p8 (show s≤3 by omega)
  obtain⟨a,b,c,d,hq,ha,hb,hc,hd4,hF⟩:∃ a b c d:Q α,(rIf (asB (dIsA qTup (t.d e))) (.ok (t.d e)) (dMul (.tup [t.d e]) (.int 4)))=.ok (.tup [a.d e,b.d e,c.d e,d.d e])∧a.dep≤s∧b.dep≤s∧c.dep≤s∧d.dep≤s∧∀ x y,t.at (s+1) x y=(Q.nd a b c d).at (s+1) x y:=by
   cases t with
   | lf v =>
    refine⟨.lf v,.lf v,.lf v,.lf v,?_,Nat.zero_le _,Nat.zero_le _,Nat.zero_le _,Nat.zero_le _,fun x y=>by simp[Q.at]⟩
    rw[cf (d:=Q.d e (.lf v)) (E.tup v) (cc (E.gd 0 v))]
    rfl
   | nd a b c d =>
    have hd':1+max (max a.dep b.dep) (max c.dep d.dep)≤s+1:=hd
    exact⟨a,b,c,d,rfl,by omega,by omega,by omega,by omega,fun _ _=>rfl⟩
  have ka:=cQ E s a n (by omega) ha (by omega)
  have kb:=cQ E s b n (by omega) hb (by omega)
  have kc:=cQ E s c n (by omega) hc (by omega)
  have kd:=cQ E s d n (by omega) hd4 (by omega)
  have hm:cMap (fun wY=>(dSub (.int ((s+1:Nat):Int)) (.int 1)).bind fun x=>pf n F.az [x,wY]) [a.d e,b.d e,c.d e,d.d e]=.ok (.lst [rowsL e (a.at s) (2^s) (2^s),rowsL e (b.at s) (2^s) (2^s),rowsL e (c.at s) (2^s) (2^s),rowsL e (d.at s) (2^s) (2^s)]):=by
   rw[bv,e1];exact cMap4 ka kb kc kd
  have u1:=lV (e:=e) (fa:=a.at s) (fb:=b.at s) (F:=t.at (s+1)) (h:=2^s) (o:=0) (by omega) (some_:=[rowsL e (a.at s) (2^s) (2^s),rowsL e (b.at s) (2^s) (2^s),rowsL e (c.at s) (2^s) (2^s),rowsL e (d.at s) (2^s) (2^s)]) (u:=0) rfl rfl
   (fun x y hx hy=>by rw[hF,Q.at,if_pos (by omega),if_pos hx,Nat.zero_add]) (fun x y hx hy=>by rw[hF,Q.at,if_pos (by omega),if_neg (by omega),Nat.zero_add,Nat.add_sub_cancel_left]) (t:=pf n) (made:=[]) (by simp)
  have u2:=lV (e:=e) (fa:=c.at s) (fb:=d.at s) (F:=t.at (s+1)) (h:=2^s) (o:=2^s) (by omega) (some_:=[rowsL e (a.at s) (2^s) (2^s),rowsL e (b.at s) (2^s) (2^s),rowsL e (c.at s) (2^s) (2^s),rowsL e (d.at s) (2^s) (2^s)]) (u:=2) rfl rfl
   (fun x y hx hy=>by rw[hF,Q.at,if_neg (by omega),if_pos hx,Nat.add_sub_cancel_left]) (fun x y hx hy=>by rw[hF,Q.at,if_neg (by omega),if_neg (by omega),Nat.add_sub_cancel_left,Nat.add_sub_cancel_left]) (t:=pf n) (made:=(List.range (2^s)).map fun y=>rowL e (t.at (s+1)) (2^s+2^s) (0+y)) (by simp;omega)
  rw[fH,bZ,hq]
  have hs2:sq (.tup [(.int 0),(.int 2)])=.ok [.int 0,.int 2]:=rfl
  rw[show ((0:Nat):Int)=0 from rfl]at u1
  rw[show ((2:Nat):Int)=2 from rfl]at u2
  simp only[STP,if_true,if_false,ite_true,ite_false,reduceIte,reduceCtorEq,OPP,decide_eq_false e0,sq4,e1,hs2,bn,iI]at hm ⊢
  simp only[STP,if_true,if_false,ite_true,ite_false,reduceIte,reduceCtorEq,hm,u1,List.nil_append]at u2 ⊢
  simp only[STP,if_true,if_false,ite_true,ite_false,reduceIte,reduceCtorEq,u2]
  unfold rowsL
  rw[bd,List.range_add,List.map_append,List.map_map]
  simp[Function.comp_def]
end
theorem Pc.lrows {sz:Nat}{t:Q Int}(p:Pc sz t){n:Nat}(hn:5≤n):pf n F.ao [picD sz t]=.ok (rowsT .int (t.at sz) (2^sz) (2^sz)):=by
 obtain⟨n,rfl,hn⟩:=ex1 (show 4+1≤n by omega)
 have h3:=p.h3
 have h8:=p8 h3
 have e1:=cQ En.int sz t n h3 p.dep (by omega)
 have hsq:sq (rowsL .int (t.at sz) (2^sz) (2^sz))=.ok ((List.range (2^sz)).map fun y=>rowL .int (t.at sz) (2^sz) y):=mW (by simp;omega)
 have hm:cMap (fun wN=>dTuple [wN]) ((List.range (2^sz)).map fun y=>rowL .int (t.at sz) (2^sz) y)=.ok (.lst ((List.range (2^sz)).map fun y=>rowT .int (t.at sz) (2^sz) y)):=bV _ _ fun y _=>rfl
 rw[oO,fD]
 unfold picD
 simp only[STP,if_true,if_false,ite_true,ite_false,reduceIte,reduceCtorEq,OPP,e1,hsq,hm]
 rfl
end Lw
end
section
namespace Lw
open PySem FF
theorem lW {α:Type}(c:α→D){step:List D→D→L (List D)}(g:α→List D)(m:Nat):∀ (l:List α) (acc:List D),(∀ a∈l,∀ acc:List D,acc.length≤10000→step acc (c a)=.nx (acc++g a))→(∀ a∈l,(g a).length≤m)→acc.length+l.length*m≤10000→lFor step (l.map c) acc=.nx (acc++l.flatMap g)
 | [],acc,_,_,_=>by simp
 | a::l,acc,h,hm,hl=>by
  have hl':acc.length+(l.length+1)*m≤10000:=hl
  rw[Nat.add_mul]at hl'
  have ha:=hm a (.head _)
  rw[List.map_cons,bn,h a (.head _) acc (by omega),dX,lW c g m l (acc++g a) (fun b hb=>h b (.tail _ hb)) (fun b hb=>hm b (.tail _ hb)) (by rw[List.length_append];omega),List.flatMap_cons,List.append_assoc]
theorem dS:∀ is:List Int,intsOf (is.map .int)=some is
 | []=>rfl
 | i::r=>by rw[List.map_cons,intsOf,dS r];rfl
def vals (f:Nat→Nat→Int)(w k:Nat):List Int:=(List.range k).flatMap fun y=>(List.range w).map fun x=>f x y
theorem rQ (f:Nat→Nat→Int)(w k:Nat):(vals f w k).length=k*w:=by
 unfold vals
 rw[List.length_flatMap]
 have:∀ l:List Nat,(l.map fun y=>((List.range w).map fun x=>f x y).length).sum=l.length*w:=fun l=>by
  induction l with
  | nil=>simp
  | cons a l ih=>rw[List.map_cons,List.sum_cons,ih,List.length_map,List.length_range,List.length_cons,Nat.add_mul];omega
 rw[this,List.length_range]
theorem lX {f:Nat→Nat→Int}{w k:Nat}{v:Int}:v∈vals f w k↔∃ x y,x < w∧y < k∧v=f x y:=by
 unfold vals
 simp only[List.mem_flatMap,List.mem_map,List.mem_range]
 constructor
 ·rintro ⟨y,hy,x,hx,rfl⟩;exact⟨x,y,hx,hy,rfl⟩
 ·rintro ⟨x,y,hx,hy,rfl⟩;exact⟨y,hy,x,hx,rfl⟩
theorem rR:∀ {l:List Int},l.eraseDups.length=1↔∃ a r,l=a::r∧∀ v∈l,v=a
 | []=>by simp
 | a::r=>by
  rw[List.eraseDups_cons]
  constructor
  ·intro h
   have h0:(r.filter fun b=>!b==a).eraseDups=[]:=List.length_eq_zero_iff.mp (by simpa using h)
   have h1:(r.filter fun b=>!b==a)=[]:=by
    cases q:(r.filter fun b=>!b==a) with
    | nil=>rfl
    | cons b s=>rw[q,List.eraseDups_cons]at h0;cases h0
   refine⟨a,r,rfl,fun v hv=>?_⟩
   cases hv with
   | head=>rfl
   | tail _ hv =>
    rw[List.filter_eq_nil_iff]at h1
    simpa using h1 v hv
  ·rintro ⟨a',r',e,h⟩
   cases e
   have:(r.filter fun b=>!b==a)=[]:=List.filter_eq_nil_iff.mpr fun v hv=>by simpa using h v (.tail _ hv)
   rw[this];rfl
theorem j0 {f:Nat→Nat→Int}{w k:Nat}(hw:0 < w)(hk:0 < k):∃ r,vals f w k=f 0 0::r:=by
 obtain⟨w,rfl⟩:∃ m,w=m+1:=⟨w - 1,by omega⟩
 obtain⟨k,rfl⟩:∃ m,k=m+1:=⟨k - 1,by omega⟩
 unfold vals
 rw[List.range_succ_eq_map (n:=k),List.flatMap_cons,List.range_succ_eq_map (n:=w),List.map_cons]
 exact⟨_,rfl⟩
theorem rS {f:Nat→Nat→Int}{w k:Nat}(hw:0 < w)(hk:0 < k):(vals f w k).eraseDups.length=1↔∀ x y,x < w→y < k→f x y=f 0 0:=by
 rw[rR]
 obtain⟨r,hr⟩:=j0 (f:=f) hw hk
 constructor
 ·rintro ⟨a,r',e,h⟩ x y hx hy
  rw[hr]at e
  cases e
  exact h _ (lX.mpr ⟨x,y,hx,hy,rfl⟩)
 ·intro h
  refine⟨_,r,hr,fun v hv=>?_⟩
  obtain⟨x,y,hx,hy,rfl⟩:=lX.mp hv
  exact h x y hx hy
theorem T_nd {α:Type}[DecidableEq α]{n:Nat}{f:Nat→Nat→α}(h:¬ ∀ x y,x < 2^(n+1)→y < 2^(n+1)→f x y=f 0 0):T f (n+1)=.nd (T f n) (T (sh f (2^n) 0) n) (T (sh f 0 (2^n)) n) (T (sh f (2^n) (2^n)) n):=by
 by_cases q:∃ v,T f (n+1)=.lf v
 ·obtain⟨v,q⟩:=q
  exfalso
  apply h
  intro x y hx hy
  have:=T_at (n+1) f x y hx hy
  rw[q,lO]at this
  have h0:=T_at (n+1) f 0 0 (pos2 _) (pos2 _)
  rw[q,lO]at h0
  rw[← this,h0]
 ·rw[T]at q ⊢
  unfold put4 at q ⊢
  split
  ·rename_i v e
   split
   ·rename_i h';exfalso;apply q;rw[e];simp only;rw[if_pos h'];exact⟨v,rfl⟩
   ·rw[e]
  ·rfl
theorem ia {n d k:Nat}(h:k≤n):HT.sIx n d (some ((k:Nat):Int))=k:=by
 unfold HT.sIx
 simp only
 rw[if_neg (by omega)]
 rw[Int.toNat_natCast]
 omega
theorem eQ {g:Nat→D}{w a h:Nat}(hw:a+h≤w):cutD ((List.range w).map g) (some ((a:Nat):Int)) (some ((a+h:Nat):Int))=(List.range h).map fun i=>g (a+i):=by
 unfold cutD
 rw[List.length_map,List.length_range,ia (by omega),ia (by omega),← List.map_drop,← List.map_take]
 have:((List.range w).drop a).take (a+h - a)=(List.range h).map (a + ·):=by
  rw[show a+h - a=h by omega]
  apply List.ext_getElem?
  intro i
  rw[List.getElem?_take]
  by_cases hi:i < h
  ·rw[if_pos hi,List.getElem?_drop,List.getElem?_range (by omega),List.getElem?_map,List.getElem?_range hi];rfl
  ·rw[if_neg hi,List.getElem?_eq_none (by simp;omega)]
 rw[this,List.map_map]
 rfl
def seqD (b:Bool)(xs:List D):D:=if b then .tup xs else .lst xs
theorem m6 {b:Bool}{xs:List D}(h:xs.length≤16777216):sq (seqD b xs)=.ok xs:=by cases b;exact mW h;exact dQ h
theorem t6 {b:Bool}{xs:List D}{lo hi:Option Int}:dSw (seqD b xs) lo hi=.ok (seqD b (cutD xs lo hi)):=by cases b<;>rfl
theorem lY {b:Bool}{xs:List D}:dLen [seqD b xs]=.ok (.int xs.length):=by cases b<;>rfl
def rowsS {α:Type}(b:Bool)(e:α→D)(f:Nat→Nat→α)(w h:Nat):D:=seqD b ((List.range h).map fun y=>rowT e f w y)
theorem o7:∀ (n:Nat) (b:Bool) (f:Nat→Nat→Int) (k:Nat),n≤3→n+1≤k→pf k F.aK [rowsS b .int f (2^n) (2^n)]=.ok ((T f n).d .int):=by
 have flat:∀ (b:Bool) (f:Nat→Nat→Int) (s:Nat) (t:Nat→List D→R D),s≤8→lFor (τ:=List D) (fun s x=>cx t s x) ((List.range s).map fun y=>rowT .int f s y) []=.nx ((vals f s s).map .int):=fun b f s t hs=>by
  have h8:s*s≤64:=Nat.mul_le_mul hs hs
  have:=lW (fun y=>rowT .int f s y) (step:=fun s x=>cx t s x) (fun y=>(List.range s).map fun x=>D.int (f x y)) s (List.range s) [] (fun y hy acc ha=>by
   unfold cx rowT
   rw[rP (by simp;omega)]
   rfl) (fun y hy=>by simp) (by simp;omega)
  rw[this]
  unfold vals
  simp[List.map_flatMap,Function.comp_def]
 intro n
 induction n with
 | zero =>
  intro b f k _ hk
  obtain⟨k,rfl,hk⟩:=ex1 (show 0+1≤k by omega)
  have hf:=flat b f 1 (pf k) (by decide)
  rw[iS,dn]
  unfold rowsS
  rw[show (2^0:Nat)=1 from rfl,m6 (by simp),az,hf]
  rfl
 | succ n ih =>
  intro b f k h3 hk
  obtain⟨k,rfl,hk⟩:=ex1 (show n+1+1≤k by omega)
  have h8:=p8 h3
  have hp:=pos2 (n+1)
  have hq:=pos2 n
  have hd:=bd n
  have hf:=flat b f (2^(n+1)) (pf k) h8
  have hls:dLenSet [.lst ((vals f (2^(n+1)) (2^(n+1))).map .int)]=.ok (.int ((vals f (2^(n+1)) (2^(n+1))).eraseDups.length:Nat)):=by
   have hl:(vals f (2^(n+1)) (2^(n+1))).length≤4000:=by
    rw[rQ];have:=Nat.mul_le_mul h8 h8;omega
   unfold dLenSet;simp only[dS];rw[if_pos hl]
  have hv:=rS (f:=f) hp hp
  obtain⟨r,hr⟩:=j0 (f:=f) hp hp
  have hsq:sq (rowsS b .int f (2^(n+1)) (2^(n+1)))=.ok ((List.range (2^(n+1))).map fun y=>rowT .int f (2^(n+1)) y):=m6 (by simp;omega)
  have hln:dLen [rowsS b .int f (2^(n+1)) (2^(n+1))]=.ok (.int ((2^(n+1):Nat):Int)):=by unfold rowsS;rw[lY];simp
  rw[iS,dn]
  by_cases hall:∀ x y,x < 2^(n+1)→y < 2^(n+1)→f x y=f 0 0
  ·have h1:((vals f (2^(n+1)) (2^(n+1))).eraseDups.length:Int)=1:=by have:=hv.mpr hall;omega
   have h2:dIx (.lst ((vals f (2^(n+1)) (2^(n+1))).map .int)) (.int 0)=.ok (.int (f 0 0)):=by
    have:=ixL (xs:=(vals f (2^(n+1)) (2^(n+1))).map .int) (i:=0) (x:=.int (f 0 0)) (by rw[hr];rfl)
    exact this
   have h3:T f (n+1)=.lf (f 0 0):=(aU _ _ _ hall).trans (kL _ _)
   simp only[STP,if_true,if_false,ite_true,ite_false,reduceIte,reduceCtorEq,OPP,hsq,hf,hls,decide_eq_true h1,h2,h3,Q.d]
  ·have h1:¬ ((vals f (2^(n+1)) (2^(n+1))).eraseDups.length:Int)=1:=fun q=>hall (hv.mp (by omega))
   have one:∀ (tp lf:Nat) (parts:List D),tp+2^n≤2^(n+1)→lf+2^n≤2^(n+1)→parts.length≤10→dF (pf k) (rowsS b .int f (2^(n+1)) (2^(n+1))) (.int ((2^n:Nat):Int)) (.int (tp:Int)) parts (.int (lf:Int))=.nx (parts++[(T (sh f lf tp) n).d .int]):=fun tp lf parts htp hlf hpa=>by
    have c1:(tp:Int)+((2^n:Nat):Int)=((tp+2^n:Nat):Int):=by omega
    have c2:(lf:Int)+((2^n:Nat):Int)=((lf+2^n:Nat):Int):=by omega
    have ai:∀ i:Int,asI (.int i)=.ok (some i):=fun _=>rfl
    have s1:dSw (rowsS b .int f (2^(n+1)) (2^(n+1))) (some (tp:Int)) (some ((tp+2^n:Nat):Int))=.ok (seqD b ((List.range (2^n)).map fun i=>rowT .int f (2^(n+1)) (tp+i))):=by
     unfold rowsS
     rw[t6,eQ htp]
    have s2:sq (seqD b ((List.range (2^n)).map fun i=>rowT .int f (2^(n+1)) (tp+i)))=.ok ((List.range (2^n)).map fun i=>rowT .int f (2^(n+1)) (tp+i)):=m6 (by simp;omega)
    have s3:cMap (fun wN=>dSw wN (some (lf:Int)) (some ((lf+2^n:Nat):Int))) ((List.range (2^n)).map fun i=>rowT .int f (2^(n+1)) (tp+i))=.ok (rowsS false .int (sh f lf tp) (2^n) (2^n)):=by
     refine(bV _ (fun i=>rowT .int (sh f lf tp) (2^n) i) fun i hi=>?_).trans rfl
     unfold rowT
     show R.ok (D.tup (cutD _ _ _))=_
     rw[eQ (g:=fun x=>D.int (f x (tp+i))) hlf]
     unfold sh
     congr 2
     exact List.map_congr_left fun x _=>by rw[Nat.add_comm lf x,Nat.add_comm tp i]
    have s4:=ih false (sh f lf tp) k (by omega) (by omega)
    unfold dF
    simp only[STP,if_true,if_false,ite_true,ite_false,reduceIte,reduceCtorEq,OPP,ai,c1,c2,s1,s2,s3,s4]
    rw[t5 (by omega)]
    rfl
   have pair:∀ (tp:Nat) (parts:List D),tp+2^n≤2^(n+1)→parts.length≤5→dG (pf k) (rowsS b .int f (2^(n+1)) (2^(n+1))) (.int ((2^n:Nat):Int)) parts (.int (tp:Int))=.nx (parts++[(T (sh f 0 tp) n).d .int,(T (sh f (2^n) tp) n).d .int]):=fun tp parts htp hpa=>by
    have h0:=one tp 0 parts htp (by omega) (by omega)
    have h1:=one tp (2^n) (parts++[(T (sh f 0 tp) n).d .int]) htp (by omega) (by simp;omega)
    have hs2:sq (.tup [(.int 0),(.int ((2^n:Nat):Int))])=.ok [.int 0,.int ((2^n:Nat):Int)]:=rfl
    rw[show ((0:Nat):Int)=0 from rfl]at h0
    unfold dG
    simp only[STP,if_true,if_false,ite_true,ite_false,reduceIte,reduceCtorEq,hs2,bn,iI,h0,h1,List.append_assoc,List.cons_append,List.nil_append]
   have p0:=pair 0 [] (by omega) (by simp)
   have p1:=pair (2^n) [(T (sh f 0 0) n).d .int,(T (sh f (2^n) 0) n).d .int] (by omega) (by simp)
   have hs2:sq (.tup [(.int 0),(.int ((2^n:Nat):Int))])=.ok [.int 0,.int ((2^n:Nat):Int)]:=rfl
   rw[show ((0:Nat):Int)=0 from rfl]at p0
   rw[T_nd hall]
   simp only[STP,if_true,if_false,ite_true,ite_false,reduceIte,reduceCtorEq,OPP,hsq,hf,hls,decide_eq_false h1,hln,nP,hs2,bn,iI,p0,List.nil_append,p1,List.cons_append,Q.d]
   rfl
theorem vk {n:Nat}(b:Bool)(f:Nat→Nat→Int){sz:Nat}(h3:sz≤3)(hn:5≤n):pf n F.an [rowsS b .int f (2^sz) (2^sz)]=.ok (picD sz (T f sz)):=by
 obtain⟨n,rfl,hn⟩:=ex1 (show 4+1≤n by omega)
 have hln:dLen [rowsS b .int f (2^sz) (2^sz)]=.ok (.int ((2^sz:Nat):Int)):=by unfold rowsS;rw[lY];simp
 have e1:(onL (.lst [(.int 1),(.int 2),(.int 4),(.int 8)]) fun ls=>dIndexI ls [.int ((2^sz:Nat):Int)])=.ok (.int (sz:Int)):=m5 h3
 have e2:=o7 sz b f n h3 (by omega)
 rw[tJ,kB]
 simp only[STP,if_true,if_false,ite_true,ite_false,reduceIte,reduceCtorEq,hln,e1,e2]
 rfl
theorem j3 {n:Nat}(f:Nat→Nat→Int){sz:Nat}(h3:sz≤3)(hn:5≤n):pf n F.an [rowsT .int f (2^sz) (2^sz)]=.ok (picD sz (T f sz)):=vk true f h3 hn
end Lw
end
section
namespace Lw
open PySem FF
section
variable {sz:Nat}{tr:Q Int}
end
theorem t7 (i:Int):asI (.int i)=.ok (some i):=rfl
section
variable {sz:Nat}{tr:Q Int}
theorem o8 (a:Int)(is:List Int):dMinL [.lst ((a::is).map .int)]=.ok (.int (minI a is)):=by unfold dMinL;simp only[dS]
theorem o9 (a:Int)(is:List Int):dMaxL [.lst ((a::is).map .int)]=.ok (.int (maxI a is)):=by unfold dMaxL;simp only[dS]
end
theorem j4:∀ (l:List Int) (a:Int),minI a l∈a::l∧∀ x∈a::l,minI a l≤x
 | [],a=>⟨.head _,fun x hx=>by simp at hx;subst hx;exact Int.le_refl _⟩
 | b::l,a=>by
  have e:minI a (b::l)=minI (if b < a then b else a) l:=rfl
  obtain⟨h1,h2⟩:=j4 l (if b < a then b else a)
  rw[e]
  refine⟨?_,fun x hx=>?_⟩
  ·rcases List.mem_cons.mp h1 with h | h
   ·rw[h];split
    ·exact .tail _ (.head _)
    ·exact .head _
   ·exact .tail _ (.tail _ h)
  ·have h3:=h2 _ (.head _)
   rcases List.mem_cons.mp hx with h | h
   ·subst h;exact Int.le_trans h3 (by split<;>omega)
   ·rcases List.mem_cons.mp h with h | h
    ·subst h;exact Int.le_trans h3 (by split<;>omega)
    ·exact h2 x (.tail _ h)
theorem j5:∀ (l:List Int) (a:Int),maxI a l∈a::l∧∀ x∈a::l,x≤maxI a l
 | [],a=>⟨.head _,fun x hx=>by simp at hx;subst hx;exact Int.le_refl _⟩
 | b::l,a=>by
  have e:maxI a (b::l)=maxI (if a < b then b else a) l:=rfl
  obtain⟨h1,h2⟩:=j5 l (if a < b then b else a)
  rw[e]
  refine⟨?_,fun x hx=>?_⟩
  ·rcases List.mem_cons.mp h1 with h | h
   ·rw[h];split
    ·exact .tail _ (.head _)
    ·exact .head _
   ·exact .tail _ (.tail _ h)
  ·have h3:=h2 _ (.head _)
   rcases List.mem_cons.mp hx with h | h
   ·subst h;exact Int.le_trans (by split<;>omega) h3
   ·rcases List.mem_cons.mp h with h | h
    ·subst h;exact Int.le_trans (by split<;>omega) h3
    ·exact h2 x (.tail _ h)
end Lw
end
section
namespace Lw
open PySem FF
theorem gW {α τ:Type}(f:τ→α→L τ):∀ (xs ys:List α) (s:τ),lFor f (xs++ys) s=lS (lFor f xs s) fun s'=>lFor f ys s'
 | [],ys,s=>rfl
 | x::xs,ys,s=>by
  rw[List.cons_append,bn,bn]
  cases f s x with
  | nx s'=>exact gW f xs ys s'
  | rt d=>rfl
  | er k=>rfl
  | stuck=>rfl
theorem fR {α τ:Type}{f:τ→α→L τ}(c:Nat→α)(inv:Nat→τ):∀ n,(∀ i,i < n→f (inv i) (c i)=.nx (inv (i+1)))→lFor f ((List.range n).map c) (inv 0)=.nx (inv n)
 | 0,_=>rfl
 | n+1,h=>by
  rw[List.range_succ,List.map_append,gW,fR c inv n fun i hi=>h i (by omega),dX,List.map_cons,List.map_nil,bn,h n (by omega)]
  rfl
structure Sh (sz:Nat)(g:Nat→Nat→Int)(t:Q Int):Prop where
 p:Pc sz t
 w:∀ x y,x < 2^sz→y < 2^sz→t.at sz x y=g x y
theorem Sh.wo {sz:Nat}{g:Nat→Nat→Int}{t:Q Int}(h:Sh sz g t):Wo g sz:=fun x y hx hy=>by rw[← h.w x y hx hy];exact h.p.at x y
theorem sh_T {sz:Nat}{g:Nat→Nat→Int}(h3:sz≤3)(h:Wo g sz):Sh sz g (T g sz):=⟨pc_T h3 h,fun x y hx hy=>T_at sz g x y hx hy⟩
theorem Pc.sh {sz:Nat}{t:Q Int}(p:Pc sz t):Sh sz (t.at sz) t:=⟨p,fun _ _ _ _=>rfl⟩
section
variable {sz:Nat}{g:Nat→Nat→Int}{t:Q Int}
theorem Sh.lean (q:Sh sz g t){n:Nat}(hn:10≤n):pf n F.aP [picD sz t]=.ok (picD sz (T g sz)):=by rw[q.p.lean hn,aU sz _ _ q.w]
theorem Sh.lrows (q:Sh sz g t){n:Nat}(hn:5≤n):pf n F.ao [picD sz t]=.ok (rowsT .int g (2^sz) (2^sz)):=by rw[q.p.lrows hn,lU q.w]
end
theorem vm {xs:List D}{a:Nat}(h:a≤xs.length):cutD xs none (some ((a:Nat):Int))=xs.take a:=by
 unfold cutD
 rw[ia h,HT.kU]
 simp
theorem lZ {xs:List D}{a:Nat}(h:a≤xs.length):cutD xs (some ((a:Nat):Int)) none=xs.drop a:=by
 unfold cutD
 rw[ia h,HT.kU,List.take_of_length_le (by simp)]
theorem nQ (xs:List D)(lo hi:Option Int):dSw (.tup xs) lo hi=.ok (.tup (cutD xs lo hi)):=rfl
section
variable {sz:Nat}{g:Nat→Nat→Int}{t:Q Int}
end
theorem j6:∀ {n:Nat} {d:D},good n d=true→eqD d d=true:=fun {n d} h=>FF.dk n d h
theorem fS {x:D}(h:good 60 x=true):dNf x x=.ok (.bl false):=by rw[lQ h h,FF.dk 60 x h];rfl
theorem rT {x:D}(h:good 60 x=true):dEq x x=.ok (.bl true):=by rw[fN h h,FF.dk 60 x h]
theorem Pc.g60 {sz:Nat}{t:Q Int}(p:Pc sz t):FF.good 60 (picD sz t)=true:=bW p.good (by decide)
end Lw
end
section
namespace Lw
open PySem FF
def th (w:Nat):Nat→D→Bool
 | n+1,.tup xs=>decide (xs.length≤w)&&xs.all (th w n)
 | 0,.tup _=>false
 | _,.lst xs=>decide (xs.length≤w)&&xs.all flatD
 | _,.exc _=>false
 | _,.fn _=>false
 | _,_=>true
def kid (xs:List D)(i:Nat):D:=xs[i]?.getD .non
def places:Nat→D→List (List Nat)
 | n+1,.tup xs=>[]::(List.range xs.length).flatMap fun i=>(places n (kid xs i)).map (i::·)
 | _,_=>[[]]
def pD (p:List Nat):D:=.tup (p.map fun (i:Nat)=>.int (i:Int))
theorem m7 {xs:List D}{i:Nat}(h:i < xs.length):xs[i]?=some (kid xs i):=by
 unfold kid;rw[List.getElem?_eq_getElem h];rfl
theorem c5 {xs:List D}{i:Nat}(h:i < xs.length):kid xs i∈xs:=by
 have:=m7 h
 exact List.mem_of_getElem? this
theorem kR {xs:List D}{i:Nat}(h:i < xs.length):dIx (.tup xs) (.int (i:Int))=.ok (kid xs i):=by
 have e:L2.atI xs (i:Int)=some (kid xs i):=by
  unfold L2.atI L2.ixN
  rw[if_pos (by omega),if_pos (by omega)]
  show xs[(i:Int).toNat]?=_
  rw[Int.toNat_natCast]
  exact m7 h
 show (match L2.atI xs (i:Int) with | some d=>R.ok d | none=>R.stuck)=_
 rw[e]
theorem bj {w n:Nat}{xs:List D}:th w (n+1) (.tup xs)=true↔xs.length≤w∧∀ x∈xs,th w n x=true:=by
 rw[th,Bool.and_eq_true,decide_eq_true_eq,List.all_eq_true]
theorem rV {w n:Nat}{d:D}(h:th w n d=true):noX d=true:=by
 cases d<;>first | rfl | (cases n<;>simp[th]at h)
theorem j7 {n:Nat}{d:D}(h:flatD d=true):good n d=true:=by
 cases d<;>first | (simp[flatD]at h;done) | (cases n<;>rfl)
theorem ph {n:Nat}{d:D}(h:flatD d=true):slim n d=true:=by
 cases d<;>first | (simp[flatD]at h;done) | (cases n<;>rfl)
theorem nR {w:Nat}:∀ {n:Nat} {d:D},th w n d=true→good (n+1) d=true:=by
 intro n
 induction n with
 | zero =>
  intro d h
  cases d with
  | lst xs =>
   simp only[th,Bool.and_eq_true,decide_eq_true_eq,List.all_eq_true]at h
   rw[good]
   exact ce fun x hx=>j7 (h.2 x hx)
  | _=>first | rfl | (simp[th]at h)
 | succ n ih =>
  intro d h
  cases d with
  | tup xs =>
   rw[good]
   exact ce fun x hx=>ih ((bj.mp h).2 x hx)
  | lst xs =>
   simp only[th,Bool.and_eq_true,decide_eq_true_eq,List.all_eq_true]at h
   rw[good]
   exact ce fun x hx=>j7 (h.2 x hx)
  | _=>first | rfl | (simp[th]at h)
theorem t8 {w:Nat}(hw:w≤1000):∀ {n:Nat} {d:D} (m:Nat),th w n d=true→slim m d=true:=by
 have hl:∀ {n:Nat} {xs:List D} (m:Nat),th w n (.lst xs)=true→slim m (.lst xs)=true:=fun {n xs} m h=>by
  have h':xs.length≤w∧∀ x∈xs,flatD x=true:=by
   cases n<;>simpa only[th,Bool.and_eq_true,decide_eq_true_eq,List.all_eq_true] using h
  cases m with
  | zero=>rfl
  | succ m =>
   rw[slim,Bool.and_eq_true,decide_eq_true_eq,List.all_eq_true]
   exact⟨by omega,fun x hx=>ph (h'.2 x hx)⟩
 intro n
 induction n with
 | zero =>
  intro d m h
  cases d with
  | lst xs=>exact hl m h
  | _=>first | (cases m<;>rfl) | (simp[th]at h)
 | succ n ih =>
  intro d m h
  cases d with
  | lst xs=>exact hl m h
  | tup xs =>
   cases m with
   | zero=>rfl
   | succ m =>
    rw[slim,Bool.and_eq_true,decide_eq_true_eq,List.all_eq_true]
    exact⟨by have:=(bj.mp h).1;omega,fun x hx=>ih m ((bj.mp h).2 x hx)⟩
  | _=>first | (cases m<;>rfl) | (simp[th]at h)
theorem rW {w v:Nat}(hv:w≤v):∀ {n m:Nat} {d:D},th w n d=true→n≤m→th v m d=true:=by
 have hl:∀ {n m:Nat} {xs:List D},th w n (.lst xs)=true→th v m (.lst xs)=true:=fun {n m xs} h=>by
  have h':xs.length≤w∧∀ x∈xs,flatD x=true:=by
   cases n<;>simpa only[th,Bool.and_eq_true,decide_eq_true_eq,List.all_eq_true] using h
  have:xs.length≤v∧∀ x∈xs,flatD x=true:=⟨by omega,h'.2⟩
  cases m<;>simpa only[th,Bool.and_eq_true,decide_eq_true_eq,List.all_eq_true] using this
 intro n
 induction n with
 | zero =>
  intro m d h _
  cases d with
  | lst xs=>exact hl h
  | _=>first | (cases m<;>rfl) | (simp[th]at h)
 | succ n ih =>
  intro m d h hm
  cases d with
  | lst xs=>exact hl h
  | tup xs =>
   obtain⟨m,rfl⟩:∃ k,m=k+1:=⟨m - 1,by omega⟩
   exact bj.mpr ⟨by have:=(bj.mp h).1;omega,fun x hx=>ih ((bj.mp h).2 x hx) (by omega)⟩
  | _=>first | (cases m<;>rfl) | (simp[th]at h)
theorem jc {α:Type}{g:Nat→List α}{b:Nat}:∀ k,(∀ i,i < k→(g i).length≤b)→((List.range k).flatMap g).length≤k*b
 | 0,_=>by simp
 | k+1,h=>by
  rw[List.range_succ,List.flatMap_append,List.length_append,Nat.succ_mul]
  have h1:=jc k fun i hi=>h i (by omega)
  have h2:=h k (by omega)
  have:([k].flatMap g).length=(g k).length:=by simp
  omega
theorem m8 (n:Nat)(d:D):1≤(places n d).length:=by
 cases n with
 | zero=>cases d<;>exact Nat.le_refl 1
 | succ n=>cases d<;>first | (show 1≤_+1;omega) | exact Nat.le_refl 1
theorem jd {w:Nat}:∀ {n:Nat} {d:D},th w n d=true→(places n d).length≤(w+1)^n:=by
 intro n
 induction n with
 | zero=>intro d h;cases d<;>exact Nat.le_refl 1
 | succ n ih =>
  intro d h
  have h1:1≤(w+1)^(n+1):=Nat.pow_pos (by omega)
  cases d with
  | tup xs =>
   have ht:=bj.mp h
   have:=jc (g:=fun i=>(places n (kid xs i)).map (i::·)) (b:=(w+1)^n) xs.length fun i hi=>by
    rw[List.length_map];exact ih (ht.2 _ (c5 hi))
   show ((List.range xs.length).flatMap fun i=>(places n (kid xs i)).map (i::·)).length+1≤_
   have h2:xs.length*(w+1)^n≤w*(w+1)^n:=Nat.mul_le_mul_right _ ht.1
   have h3:1≤(w+1)^n:=Nat.pow_pos (by omega)
   have h4:(w+1)^(n+1)=w*(w+1)^n+(w+1)^n:=by rw[Nat.pow_succ,Nat.mul_comm,Nat.succ_mul]
   omega
  | _=>exact h1
theorem rX {w n:Nat}{d:D}(h:th w n d=true)(ht:isTup d=false):dIsA qTup d=.ok (.bl false):=cf ht (rV h)
theorem l4 {n:Nat}{d:D}(ht:isTup d=false):places n d=[[]]:=by
 cases n<;>cases d<;>first | rfl | (cases ht;done)
theorem t9 (k:Nat)(p:List Nat)(h:p.length < 16777216):dAdd (.tup [.int (k:Int)]) (pD p)=.ok (pD (k::p)):=by
 show (if 1+(p.map fun (i:Nat)=>D.int (i:Int)).length≤16777216 then _ else _)=_
 rw[List.length_map,if_pos (by omega)]
 rfl
theorem c6 {n:Nat}:∀ {d:D} {p:List Nat},p∈places n d→p.length≤n:=by
 induction n with
 | zero=>intro d p h;cases d<;>simp[places]at h<;>simp[h]
 | succ n ih =>
  intro d p h
  cases d with
  | tup xs =>
   rw[places,List.mem_cons,List.mem_flatMap]at h
   rcases h with rfl | ⟨i,_,h⟩
   ·simp
   ·obtain⟨q,hq,rfl⟩:=List.mem_map.mp h
    have:=ih hq
    simp only[List.length_cons]
    omega
  | _=>simp[places]at h;simp[h]
theorem pi {w:Nat}:∀ (n m:Nat) (d:D),th w n d=true→(w+1)^n≤16000000→n+1≤m→w≤1000→n≤1000→pf m F.aE [d]=.ok (.lst ((places n d).map pD)):=by
 have flat:∀ (n m:Nat) (d:D),th w n d=true→isTup d=false→1≤m→pf m F.aE [d]=.ok (.lst ((places n d).map pD)):=fun n m d h ht hm=>by
  obtain⟨m,rfl,_⟩:=ex1 hm
  rw[gR,cK,rX h ht,l4 ht]
  simp only[STP,if_true,if_false,ite_true,ite_false,reduceIte,reduceCtorEq]
  rfl
 intro n
 induction n with
 | zero =>
  intro m d h _ hm _ _
  exact flat 0 m d h (by cases d<;>first | rfl | (simp[th]at h)) hm
 | succ n ih =>
  intro m d h hp hm hw hn
  by_cases ht:isTup d=true
  ·cases d with
   | tup xs =>
    have hh:=bj.mp h
    obtain⟨m,rfl,hm⟩:=ex1 hm
    have hpn:(w+1)^n≤16000000:=Nat.le_trans (Nat.pow_le_pow_right (by omega) (Nat.le_succ n)) hp
    have loop:lFor (τ:=List D) (fun s x=>da (pf m) (.tup xs) s x) ((List.range xs.length).map fun i=>.int (0+((i:Nat):Int))) ((fun k=>([]::(List.range k).flatMap fun i=>(places n (kid xs i)).map (i::·)).map pD) 0)=.nx (([]::(List.range xs.length).flatMap fun i=>(places n (kid xs i)).map (i::·)).map pD):=by
     refine fR _ (fun k=>([]::(List.range k).flatMap fun i=>(places n (kid xs i)).map (i::·)).map pD) xs.length fun i hi=>?_
     have hk:=ih m (kid xs i) (hh.2 _ (c5 hi)) hpn (by omega) hw (by omega)
     have hc:cMap (fun wz=>dAdd (.tup [.int (i:Int)]) wz) ((places n (kid xs i)).map pD)=.ok (.lst (((places n (kid xs i)).map (i::·)).map pD)):=by
      rw[bV (l:=places n (kid xs i)) pD (fun p:List Nat=>pD (i::p)) fun p hp=>t9 i p (by have:=c6 hp;omega),List.map_map]
      rfl
     have hl:=jd (hh.2 _ (c5 hi))
     have hl2:=jc (g:=fun i=>(places n (kid xs i)).map (i::·)) (b:=(w+1)^n) i fun j hj=>by
      rw[List.length_map];exact jd (hh.2 _ (c5 (by omega)))
     have h2:i*(w+1)^n+(w+1)^n≤(w+1)^(n+1):=by
      rw[← Nat.succ_mul,Nat.pow_succ,Nat.mul_comm];exact Nat.mul_le_mul_left _ (by have:=hh.1;omega)
     unfold da
     rw[show (0:Int)+(i:Int)=(i:Int) by omega,kR hi]
     simp only[STP,if_true,if_false,ite_true,ite_false,reduceIte,reduceCtorEq,hk,mW (show ((places n (kid xs i)).map pD).length≤16777216 by rw[List.length_map];omega),hc]
     have ho:oExt (([]::(List.range i).flatMap fun i=>(places n (kid xs i)).map (i::·)).map pD) (.lst (((places n (kid xs i)).map (i::·)).map pD))=.ok (([]::(List.range (i+1)).flatMap fun i=>(places n (kid xs i)).map (i::·)).map pD):=by
      show (if _ then _ else _)=_
      rw[if_pos (by simp only[List.length_map,List.length_cons];omega),← List.map_append,List.cons_append,List.range_succ,List.flatMap_append]
      simp
     rw[ho]
     simp only[STP,if_true,if_false,ite_true,ite_false,reduceIte,reduceCtorEq]
    rw[gR,cK]
    have hr:rng1 [.int (xs.length:Int)]=.ok ((List.range xs.length).map fun i=>.int (0+((i:Nat):Int))):=by
     have:=hh.1
     show (if _ then _ else _)=_
     rw[if_pos (by omega)]
     rw[Int.toNat_natCast]
     rfl
    have e0:((fun k=>([]::(List.range k).flatMap fun i=>(places n (kid xs i)).map (i::·)).map pD) 0)=[.tup []]:=rfl
    rw[e0]at loop
    simp only[cB,STP,if_true,if_false,ite_true,ite_false,reduceIte,reduceCtorEq,eF,hr,loop]
    rfl
   | _=>cases ht
  ·exact flat (n+1) m d h (by simpa using ht) (by omega)
def there:D→List Nat→D
 | d,[]=>d
 | .tup xs,i::p=>there (kid xs i) p
 | d,_::_=>d
def putAt:D→List Nat→D→D
 | _,[],e=>e
 | .tup xs,i::p,e=>.tup (xs.set i (putAt (kid xs i) p e))
 | d,_::_,_=>d
theorem dU {n:Nat}{d:D}{i:Nat}{p:List Nat}(h:i::p∈places n d):∃ xs k,n=k+1∧d=.tup xs∧i < xs.length∧p∈places k (kid xs i):=by
 cases n with
 | zero=>cases d<;>simp[places]at h
 | succ n =>
  cases d with
  | tup xs =>
   rw[places,List.mem_cons,List.mem_flatMap]at h
   rcases h with h | ⟨j,hj,h⟩
   ·cases h
   ·obtain⟨q,hq,e⟩:=List.mem_map.mp h
    injection e with e1 e2
    subst e1;subst e2
    exact⟨xs,n,rfl,rfl,List.mem_range.mp hj,hq⟩
  | _=>simp[places]at h
theorem je {t:Nat→List D→R D}:∀ {p:List Nat} {n:Nat} {d:D},p∈places n d→lFor (τ:=D) (fun s x=>dH t s x) (p.map fun (i:Nat)=>.int (i:Int)) d=.nx (there d p)
 | [],n,d,_=>by cases d<;>rfl
 | i::p,n,d,h=>by
  obtain⟨xs,k,rfl,rfl,hi,hp⟩:=dU h
  rw[List.map_cons,bn]
  unfold dH
  rw[kR hi]
  simp only[STP,if_true,if_false,ite_true,ite_false,reduceIte,reduceCtorEq]
  exact je (t:=t) hp
theorem l5 {w:Nat}:∀ {p:List Nat} {n:Nat} {d:D},p∈places n d→th w n d=true→th w (n - p.length) (there d p)=true
 | [],n,d,_,h=>by cases d<;>exact h
 | i::p,n,d,h,ht=>by
  obtain⟨xs,k,rfl,rfl,hi,hp⟩:=dU h
  have:=l5 hp ((bj.mp ht).2 _ (c5 hi))
  show th w (k+1 - (p.length+1)) _=true
  rw[Nat.add_sub_add_right]
  exact this
theorem rY {n m:Nat}{d:D}{p:List Nat}(h:p∈places n d)(hm:1≤m)(hn:n≤1000):pf m F.aM [d,pD p]=.ok (there d p):=by
 obtain⟨m,rfl,hm⟩:=ex1 hm
 rw[mI,eN]
 unfold pD
 have hl:=c6 h
 rw[dQ (by rw[List.length_map];omega)]
 simp only[STP,if_true,if_false,ite_true,ite_false,reduceIte,reduceCtorEq,je h]
theorem l6 {w:Nat}:∀ {p:List Nat} {n N k:Nat} {d e:D},p∈places n d→th w n d=true→th w k e=true→k+p.length≤N→n≤N→th w N (putAt d p e)=true
 | [],n,N,k,d,e,_,_,he,hk,_=>by cases d<;>exact rW (Nat.le_refl w) he (by simpa using hk)
 | i::p,n,N,k,d,e,h,hd,he,hk,hn=>by
  obtain⟨xs,j,rfl,rfl,hi,hp⟩:=dU h
  obtain⟨N,rfl⟩:∃ M,N=M+1:=⟨N - 1,by omega⟩
  have ht:=bj.mp hd
  have hr:=l6 (N:=N) hp (ht.2 _ (c5 hi)) he (by simp only[List.length_cons]at hk;omega) (by omega)
  show th w (N+1) (.tup (xs.set i (putAt (kid xs i) p e)))=true
  refine bj.mpr ⟨by rw[List.length_set];exact ht.1,fun x hx=>?_⟩
  rcases List.mem_or_eq_of_mem_set hx with hx | rfl
  ·exact rW (Nat.le_refl w) (ht.2 x hx) (by omega)
  ·exact hr
theorem ua {n:Nat}(hn:1≤n)(p:List Nat):good n (pD p)=true:=by
 obtain⟨n,rfl⟩:∃ k,n=k+1:=⟨n - 1,by omega⟩
 unfold pD
 rw[good]
 refine ce fun d hd=>?_
 obtain⟨i,_,rfl⟩:=List.mem_map.mp hd
 cases n<;>rfl
theorem l7 (xs ys:List D)(h:xs.length+ys.length≤16777216):dAdd (.tup xs) (.tup ys)=.ok (.tup (xs++ys)):=by
 show (if xs.length+ys.length≤16777216 then _ else _)=_
 rw[if_pos h]
theorem rZ {w:Nat}(hw:w≤1000):∀ {p:List Nat} {n m:Nat} {d:D} (e:D),p∈places n d→th w n d=true→p.length+1≤m→pf m F.aN [d,pD p,e]=.ok (putAt d p e)
 | [],n,m,d,e,_,_,hm=>by
  obtain⟨m,rfl,hm⟩:=ex1 (k:=0) (by simpa using hm)
  rw[lI,fE]
  have:dEq (pD []) (.tup [])=.ok (.bl true):=rfl
  simp only[STP,if_true,if_false,ite_true,ite_false,reduceIte,reduceCtorEq,this]
  cases d<;>rfl
 | i::p,n,m,d,e,h,hd,hm=>by
  obtain⟨xs,j,rfl,rfl,hi,hp⟩:=dU h
  have ht:=bj.mp hd
  obtain⟨m,rfl,hm⟩:=ex1 hm
  have ih:=rZ hw (m:=m) e hp (ht.2 _ (c5 hi)) (by simpa using hm)
  have h0:dEq (pD (i::p)) (.tup [])=.ok (.bl false):=by
   unfold dEq
   rw[if_pos ⟨ua (by decide) _,rfl⟩]
   rfl
  have h1:dIx (pD (i::p)) (.int 0)=.ok (.int (i:Int)):=kR (xs:=(i::p).map fun (i:Nat)=>D.int (i:Int)) (i:=0) (by simp)
  have h2:dSw (pD (i::p)) (some 1) none=.ok (pD p):=by
   show R.ok (D.tup (cutD _ (some ((1:Nat):Int)) none))=_
   rw[lZ (by simp)]
   rfl
  have h3:dSw (.tup xs) none (some (i:Int))=.ok (.tup (xs.take i)):=by
   show R.ok (D.tup (cutD _ none (some (i:Int))))=_
   rw[vm (by omega)]
  have h4:dSw (.tup xs) (some ((i:Int)+1)) none=.ok (.tup (xs.drop (i+1))):=by
   rw[show (i:Int)+1=((i+1:Nat):Int) by omega]
   show R.ok (D.tup (cutD _ (some ((i+1:Nat):Int)) none))=_
   rw[lZ (by omega)]
  have h5:∀ v:Int,asI (.int v)=.ok (some v):=fun v=>rfl
  have h6:dAdd (.tup (xs.take i)) (.tup [putAt (kid xs i) p e])=.ok (.tup (xs.take i++[putAt (kid xs i) p e])):=l7 _ _ (by simp only[List.length_take,List.length_cons,List.length_nil];omega)
  have h7:dAdd (.tup (xs.take i++[putAt (kid xs i) p e])) (.tup (xs.drop (i+1)))=.ok (.tup (xs.set i (putAt (kid xs i) p e))):=by
   rw[l7 _ _ (by simp only[List.length_append,List.length_take,List.length_drop,List.length_cons,List.length_nil];omega),List.set_eq_take_append_cons_drop,if_pos hi,List.append_assoc]
   rfl
  rw[lI,fE]
  simp only[STP,if_true,if_false,ite_true,ite_false,reduceIte,reduceCtorEq,h0,h1,h5,h3,kR hi,h2,ih,h6,ba,h4,h7]
  rfl
theorem r6 {ds:List D}{i:Int}(h0:0≤i)(h:i < ds.length):∃ e∈ds,L2.atI ds i=some e:=by
 refine⟨kid ds i.toNat,c5 (by omega),?_⟩
 unfold L2.atI L2.ixN
 rw[if_pos h0,if_pos h]
 exact m7 (by omega)
theorem ub {ds:List D}{i:Int}(h0:0≤i)(h:i < ds.length):∃ e∈ds,oIx ds (.int i)=.ok e:=by
 obtain⟨e,he,h⟩:=r6 h0 h
 refine⟨e,he,?_⟩
 show (match L2.atI ds i with | some d=>R.ok d | none=>R.stuck)=_
 rw[h]
theorem uc {ds:List D}{i:Int}(h0:0≤i)(h:i < ds.length):∃ e∈ds,dIx (.lst ds) (.int i)=.ok e:=by
 obtain⟨e,he,h⟩:=r6 h0 h
 refine⟨e,he,?_⟩
 show (match L2.atI ds i with | some d=>R.ok d | none=>R.stuck)=_
 rw[h]
def news (here:D):List D:=[(.int (-1)),(.int 0),(.int 3),(.int 4),(.int 9),(.int 10),(.bl true),.non,(.str "1"),(.tup []),(.tup [(.int 1),(.int 2),(.int 3)]),(.tup [(.int 1),(.int 1),(.int 1),(.int 1)]),(.tup [(.int 1),(.int 2),(.int 3),(.int 4),(.int 5)]),(.lst [(.int 1),(.int 2),(.int 3),(.int 4)]),.tup [here,here,here,here]]
theorem ud {w n:Nat}(hw:5≤w){here e:D}(h:th w n here=true)(he:e∈news here):th w (n+1) e=true:=by
 have cons:∀ {xs:List D},xs.length≤w→(∀ x∈xs,th w n x=true)→th w (n+1) (.tup xs)=true:=fun h1 h2=>bj.mpr ⟨h1,h2⟩
 have iN:∀ i:Int,th w n (.int i)=true:=fun i=>by cases n<;>rfl
 unfold news at he
 simp only[List.mem_cons,List.not_mem_nil,or_false]at he
 rcases he with rfl | rfl | rfl | rfl | rfl | rfl | rfl | rfl | rfl | rfl | rfl | rfl | rfl | rfl | rfl
 any_goals rfl
 ·exact cons (Nat.le_trans (by decide) hw) (by intro x hx;simp only[List.mem_cons,List.not_mem_nil,or_false]at hx;rcases hx with rfl | rfl | rfl<;>exact iN _)
 ·exact cons (Nat.le_trans (by decide) hw) (by intro x hx;simp only[List.mem_cons,List.not_mem_nil,or_false]at hx;rcases hx with rfl | rfl | rfl | rfl<;>exact iN _)
 ·exact cons hw (by intro x hx;simp only[List.mem_cons,List.not_mem_nil,or_false]at hx;rcases hx with rfl | rfl | rfl | rfl | rfl<;>exact iN _)
 ·rw[th,Bool.and_eq_true,decide_eq_true_eq];exact⟨Nat.le_trans (by decide) hw,rfl⟩
 ·exact cons (by show 4≤w;omega) (by intro x hx;simp only[List.mem_cons,List.not_mem_nil,or_false]at hx;rcases hx with rfl | rfl | rfl | rfl<;>exact h)
theorem pp {w n:Nat}(hw:w≤1000)(h5:5≤w)(hn:n≤100)(hp:(w+1)^n≤16000000){d:D}(h:th w n d=true){m:Nat}(hm:n+4≤m)(ns:List Int)(k:Nat):∃ p∈places n d,∃ e∈news (there d p),pf m F.ag [scr ns,.int (k:Int),d]=.ok (putAt d p e):=by
 obtain⟨m,rfl,hm⟩:=ex1 (show n+3+1≤m by omega)
 have e1:=pi n m d h hp (by omega) hw (by omega)
 have hl:=m8 n d
 have hl':(0:Int) < (((places n d).map pD).length:Nat):=by rw[List.length_map];omega
 have p1:=hV (n:=m) (by omega) ns k (a:=(k:Int)) (m:=(((places n d).map pD).length:Nat)) rfl hl'
 have b0:=gT (ns:=ns) (k:=k) (m:=(((places n d).map pD).length:Nat)) hl'
 have b1:=gU (ns:=ns) (k:=k) (m:=(((places n d).map pD).length:Nat)) hl'
 obtain⟨q,hq,e2⟩:=uc b0 b1
 obtain⟨p,hp',rfl⟩:=List.mem_map.mp hq
 have e3:=rY hp' (m:=m) (by omega) (by omega)
 have p2:=hV (n:=m) (by omega) ns (k+1) (a:=(k:Int)+1) (m:=15) (by omega) (by decide)
 have c0:=gT (ns:=ns) (k:=k+1) (m:=15) (by decide)
 have c1:=gU (ns:=ns) (k:=k+1) (m:=15) (by decide)
 obtain⟨e,he,e4⟩:=ub (ds:=news (there d p)) c0 (by show _ < ((15:Nat):Int);omega)
 have hd:=c6 hp'
 have e5:=rZ hw (m:=m) e hp' h (by omega)
 refine⟨p,hp',e,he,?_⟩
 have r4:dMul (.tup [there d p]) (.int 4)=.ok (.tup [there d p,there d p,there d p,there d p]):=rfl
 rw[fI,bq]
 simp only[STP,if_true,if_false,ite_true,ite_false,reduceIte,reduceCtorEq,e1,i7,p1,e2,e3,r4]
 have ho:oExt [(.int (-1)),(.int 0),(.int 3),(.int 4),(.int 9),(.int 10),(.bl true),.non,(.str "1"),(.tup []),(.tup [(.int 1),(.int 2),(.int 3)]),(.tup [(.int 1),(.int 1),(.int 1),(.int 1)]),(.tup [(.int 1),(.int 2),(.int 3),(.int 4),(.int 5)])] (.lst [.lst [.int 1,.int 2,.int 3,.int 4],.tup [there d p,there d p,there d p,there d p]])=.ok (news (there d p)):=rfl
 simp only[STP,if_true,if_false,ite_true,ite_false,reduceIte,reduceCtorEq,ho,ba,p2,e4,e5]
theorem pv {w n:Nat}(hw:w≤1000)(h5:5≤w)(hn:n≤100)(hp:(w+1)^n≤16000000){d:D}(h:th w n d=true){m:Nat}(hm:n+4≤m)(ns:List Int)(k:Nat):∃ d',th w (n+1) d'=true∧pf m F.ag [scr ns,.int (k:Int),d]=.ok d':=by
 obtain⟨p,hp',e,he,q⟩:=pp hw h5 hn hp h hm ns k
 have hd:=c6 hp'
 exact⟨_,l6 hp' h (ud h5 (l5 hp' h) he) (by omega) (by omega),q⟩
end Lw
end
section
namespace Lw
open PySem FF
theorem pw {w:Nat}(hw:w≤1000):∀ (n m:Nat) (s:Int) (d:D),th w n d=true→n+1≤m→n≤50→pf m F.ak [d,.int s]=.ok (.bl (treeOk (inTo 9) n s d)):=by
 have flat:∀ (n m:Nat) (s:Int) (d:D),th w n d=true→isTup d=false→1≤m→pf m F.ak [d,.int s]=.ok (.bl (treeOk (inTo 9) n s d)):=fun n m s d h ht hm=>by
  obtain⟨m,rfl,hm⟩:=ex1 hm
  have e:treeOk (inTo 9) n s d=inTo 9 d:=by cases n<;>cases d<;>first | rfl | (cases ht;done)
  rw[fJ,b8,e]
  cases d with
  | int i =>
   have:rAnd (asB (dIsA qInt (.int i))) (rNot (asB (dIsA qBool (.int i))))=.ok true:=rfl
   simp only[this,STP,if_true,if_false,ite_true,ite_false,reduceIte,reduceCtorEq]
   simp only[rCh,kN,aW,R.bind_ok,inTo]
   by_cases h0:(0:Int)≤i<;>simp[h0]
  | tup _=>cases ht
  | exc _=>cases n<;>simp[th]at h
  | fn _=>cases n<;>simp[th]at h
  | _=>rfl
 intro n
 induction n with
 | zero=>intro m s d h hm _;exact flat 0 m s d h (by cases d<;>first | rfl | (simp[th]at h)) hm
 | succ n ih =>
  intro m s d h hm hn
  by_cases ht:isTup d=true
  ·cases d with
   | tup xs =>
    have hh:=bj.mp h
    obtain⟨m,rfl,hm⟩:=ex1 hm
    have hc:cFil (fun wY=>(rNot (asB ((dSub (.int s) (.int 1)).bind fun x1=>pf m F.ak [wY,x1])))) (fun wY=>.ok wY) xs=.ok (.lst (xs.filter fun d=>!treeOk (inTo 9) n (s - 1) d)):=by
     have:=tV (c:=fun wY=>(rNot (asB ((dSub (.int s) (.int 1)).bind fun x1=>pf m F.ak [wY,x1])))) (e:=fun wY=>.ok wY) (l:=xs) (fun d=>d) (fun d=>d) (fun d=>!treeOk (inTo 9) n (s - 1) d) fun d hd=>⟨by
      rw[bv,R.bind_ok,ih m (s - 1) d (hh.2 d hd) (by omega) (by omega)]
      rfl,fun _=>rfl⟩
     rw[List.map_id',List.map_id']at this
     exact this
    have he:dEq (.lst (xs.filter fun d=>!treeOk (inTo 9) n (s - 1) d)) (.lst [])=.ok (.bl (xs.all (treeOk (inTo 9) n (s - 1)))):=by
     unfold dEq
     rw[if_pos ⟨by
      rw[good]
      exact ce fun d hd=>bW (nR (hh.2 d (List.mem_filter.mp hd).1)) (by omega),rfl⟩]
     cases hx:xs.filter fun d=>!treeOk (inTo 9) n (s - 1) d with
     | nil =>
      have:xs.all (treeOk (inTo 9) n (s - 1))=true:=by
       rw[List.all_eq_true]
       intro d hd
       have:=List.filter_eq_nil_iff.mp hx d hd
       simpa using this
      rw[this]
      rfl
     | cons a l =>
      have ha:a∈xs.filter fun d=>!treeOk (inTo 9) n (s - 1) d:=by rw[hx];simp
      have:=List.mem_filter.mp ha
      have:xs.all (treeOk (inTo 9) n (s - 1))=false:=by
       rw[List.all_eq_false]
       exact⟨a,this.1,by simpa using this.2⟩
      rw[this]
      rfl
    have hi:rAnd (asB (dIsA qInt (.tup xs))) (rNot (asB (dIsA qBool (.tup xs))))=.ok false:=rfl
    rw[fJ,b8]
    simp only[hi,cB,STP,if_true,if_false,ite_true,ite_false,reduceIte,reduceCtorEq,eF,cY,dR,dQ (show xs.length≤16777216 by have:=hh.1;omega),hc,he,treeOk]
    by_cases h0:s=0
    ·by_cases h4:(xs.length:Int)=4<;>simp[h0,h4]
    ·by_cases h4:xs.length=4
     ·simp[h0,h4]
     ·have h4':¬ ((xs.length:Int)=4):=by omega
      simp[h0,h4,h4']
   | _=>cases ht
  ·exact flat (n+1) m s d h (by simpa using ht) (by omega)
theorem j8 {w:Nat}(hw:w≤1000){n m:Nat}{d:D}(h:th w (n+1) d=true)(hm:n+2≤m)(hn:n≤50):pf m F.au [d]=.ok (.bl (sizedOk (inTo 9) n d)):=by
 obtain⟨m,rfl,hm⟩:=ex1 hm
 rw[g6,bO]
 by_cases ht:isTup d=true
 ·cases d with
  | tup xs =>
   have hh:=bj.mp h
   by_cases h2:xs.length=2
   ·match xs,h2 with
    | [a,b],_ =>
     have ha:=hh.2 a (by simp)
     have hb:=hh.2 b (by simp)
     have l2:asB ((dLen [.tup [a,b]]).bind fun x2=>dNf x2 (.int 2))=.ok false:=rfl
     cases a with
     | int v =>
      have ht:=pw hw n m v b hb (by omega) hn
      have hi:(rNot (asB (dIsA qInt (.int v))))=.ok false:=rfl
      have hj:(asB (dIsA qBool (.int v)))=.ok false:=rfl
      simp only[cB,STP,if_true,if_false,ite_true,ite_false,reduceIte,reduceCtorEq,l2,ix20,ix21,hi,hj,ht,sizedOk,inTo,rCh,kN]
      by_cases c0:(0:Int)≤v
      ·by_cases c1:v≤3<;>simp[c0,c1]
      ·simp[c0]
     | exc _=>cases n<;>simp[th]at ha
     | fn _=>cases n<;>simp[th]at ha
     | _=>rfl
   ·have h2':¬ ((xs.length:Int)=2):=by omega
    have e:sizedOk (inTo 9) n (.tup xs)=false:=by
     match xs,h2 with
     | [],_=>rfl
     | [_],_=>rfl
     | _::_::_::_,_=>rfl
    simp[h2',e]
  | _=>cases ht
 ·have ht':isTup d=false:=by simpa using ht
  rw[cf ht' (rV h)]
  have e:sizedOk (inTo 9) n d=false:=by cases d<;>first | rfl | (cases ht';done)
  simp[e]
theorem Pc.th (p:Pc sz t):th 5 4 (picD sz t)=true:=by
 have hq:∀ (n:Nat) (t:Q Int),t.dep≤n→Lw.th 5 n (t.d .int)=true:=by
  intro n
  induction n with
  | zero=>intro t h;cases t with
   | lf a=>rfl
   | nd a b c d=>rw[Q.dep]at h;omega
  | succ n ih =>
   intro t h
   cases t with
   | lf a=>rfl
   | nd a b c d =>
    rw[Q.dep]at h
    refine bj.mpr ⟨by show 4≤5;decide,fun x hx=>?_⟩
    simp only[List.mem_cons,List.not_mem_nil,or_false]at hx
    rcases hx with rfl | rfl | rfl | rfl
    ·exact ih a (by omega)
    ·exact ih b (by omega)
    ·exact ih c (by omega)
    ·exact ih d (by omega)
 refine bj.mpr ⟨by show 2≤5;decide,fun x hx=>?_⟩
 simp only[List.mem_cons,List.not_mem_nil,or_false]at hx
 rcases hx with rfl | rfl
 ·rfl
 ·exact hq 3 t (by have:=p.dep;have:=p.h3;omega)
theorem word1 {m:Nat}(hm:1≤m):pf m F.ar [.exc 1]=.ok (.str "no picture"):=by
 obtain⟨m,rfl,hm⟩:=ex1 hm
 rw[gz,dq]
 rfl
end Lw
end
section
namespace Lw
open PySem FF
section
variable {α:Type}[DecidableEq α]
theorem nS (n:Nat)(t:Q α){x y:Nat}(hx:x < 2^n)(hy:y < 2^n):t.at (n+1) x y=t.qs.1.at n x y∧t.at (n+1) (x+2^n) y=t.qs.2.1.at n x y∧t.at (n+1) x (y+2^n)=t.qs.2.2.1.at n x y∧t.at (n+1) (x+2^n) (y+2^n)=t.qs.2.2.2.at n x y:=by
 cases t with
 | lf a=>simp[Q.qs]
 | nd a b c d =>
  have e1:¬ (x+2^n < 2^n):=by omega
  have e2:¬ (y+2^n < 2^n):=by omega
  simp only[Q.at,Q.qs,if_pos hx,if_pos hy,if_neg e1,if_neg e2,Nat.add_sub_cancel]
  exact⟨trivial,trivial,trivial,trivial⟩
theorem vn {n:Nat}{t:Q α}(h:t.dep≤n+1):t.qs.1.dep≤n∧t.qs.2.1.dep≤n∧t.qs.2.2.1.dep≤n∧t.qs.2.2.2.dep≤n:=by
 cases t with
 | lf a=>exact⟨Nat.zero_le _,Nat.zero_le _,Nat.zero_le _,Nat.zero_le _⟩
 | nd a b c d =>
  rw[Q.dep]at h
  simp only[Q.qs]
  omega
theorem vo {p:α→Prop}{t:Q α}(h:t.All p):t.qs.1.All p∧t.qs.2.1.All p∧t.qs.2.2.1.All p∧t.qs.2.2.2.All p:=by
 cases t with
 | lf a=>exact⟨h,h,h,h⟩
 | nd a b c d=>exact h
def isLf:Q α→Bool
 | .lf _=>true
 | _=>false
theorem ue {e:α→D}(E:En e)(t:Q α):dIsA qTup (t.d e)=.ok (.bl (!isLf t)):=by
 cases t with
 | lf a=>exact cf (E.tup a) (cc (E.gd 0 a))
 | nd a b c d=>rfl
theorem l8 {e:α→D}(E:En e)(t:Q α){n:Nat}(hn:1≤n):pf n F.ax [t.d e]=.ok (.tup [t.qs.1.d e,t.qs.2.1.d e,t.qs.2.2.1.d e,t.qs.2.2.2.d e]):=by
 obtain⟨n,rfl,hn⟩:=ex1 hn
 rw[iQ,bU,ue E]
 cases t with
 | lf a=>rfl
 | nd a b c d=>rfl
end
theorem dW (a b c d:D):sq (.lst [a,b,c,d])=.ok [a,b,c,d]:=rfl
section
variable {sz:Nat}{r:PySem.Str}{i:Nat}{f:Int→Int→Int}
variable {g g':Nat→Nat→Int}{t t':Q Int}
end
end Lw
end
section
namespace Lw
open PySem FF
section
variable {α:Type}[DecidableEq α]
end
section
variable {p q r s:Nat}{m:Nat→(Nat→Nat→Int)→Nat→Nat→Int}
variable {sz:Nat}{g:Nat→Nat→Int}{t:Q Int}
end
end Lw
end
section
namespace Lw
open PySem FF
section
variable {sz:Nat}{g g' g'':Nat→Nat→Int}{t t' t'':Q Int}
end
theorem word4 {m:Nat}(hm:1≤m):pf m F.ar [.exc 4]=.ok (.str "unlike"):=by
 obtain⟨m,rfl,hm⟩:=ex1 hm
 rw[gz,dq]
 rfl
theorem px {w:Nat}(hw:w≤1000){n m:Nat}{d:D}(h:th w n d=true)(hm:n+6≤m)(c:sizedOk (inTo 9) n d=false):pf m F.aa [d]=.err 1:=by
 have e:=jZ (n:=m) (m:=n) (nR h) (t8 hw _ h) (by omega)
 rw[c]at e;exact e
end Lw
end
section
namespace Lw
open PySem FF
section
variable {sz:Nat}{g:Nat→Nat→Int}{t:Q Int}
end
section
variable {sz:Nat}{g:Nat→Nat→Int}{t:Q Int}
end
end Lw
end
section
namespace Lw
open PySem FF
structure Bk where
 l:Nat
 t:Nat
 w:Nat
 v:Int
 deriving DecidableEq
def bks:Nat→Q Int→Nat→Nat→List Bk
 | n,.lf v,l,t=>[⟨l,t,2^n,v⟩]
 | 0,.nd _ _ _ _,_,_=>[]
 | n+1,.nd a b c d,l,t=>bks n a l t++(bks n b (l+2^n) t++(bks n c l (t+2^n)++bks n d (l+2^n) (t+2^n)))
end Lw
end
section
namespace Lw
open PySem FF
section
variable {sz:Nat}{g:Nat→Nat→Int}{t:Q Int}
def bs (sz:Nat)(g:Nat→Nat→Int):List Bk:=bks sz (T g sz) 0 0
end
end Lw
end
section
namespace Lw
open PySem FF
section
variable {sz sz':Nat}{g g':Nat→Nat→Int}{t t':Q Int}
end
end Lw
end
section
namespace Lw
open PySem FF
def qg (g:Nat→Nat→Int)(s k:Nat):Nat→Nat→Int:=sh g (k%2*2^s) (k/2*2^s)
def jf (s:Nat)(a b c d:Nat→Nat→Int):Nat→Nat→Int:=fun x y=>if y < 2^s then (if x < 2^s then a x y else b (x - 2^s) y) else if x < 2^s then c x (y - 2^s) else d (x - 2^s) (y - 2^s)
theorem T_jf (s:Nat)(a b c d:Nat→Nat→Int):T (jf s a b c d) (s+1)=put4 (T a s) (T b s) (T c s) (T d s):=by
 show put4 _ _ _ _=_
 have e1:T (jf s a b c d) s=T a s:=aU s _ _ fun x y hx hy=>by unfold jf;rw[if_pos hy,if_pos hx]
 have e2:T (sh (jf s a b c d) (2^s) 0) s=T b s:=aU s _ _ fun x y hx hy=>by unfold sh jf;rw[if_pos (by omega),if_neg (by omega),show x+2^s - 2^s=x by omega];rfl
 have e3:T (sh (jf s a b c d) 0 (2^s)) s=T c s:=aU s _ _ fun x y hx hy=>by unfold sh jf;rw[if_neg (by omega),if_pos (by omega),show y+2^s - 2^s=y by omega];rfl
 have e4:T (sh (jf s a b c d) (2^s) (2^s)) s=T d s:=aU s _ _ fun x y hx hy=>by unfold sh jf;rw[if_neg (by omega),if_neg (by omega),show y+2^s - 2^s=y by omega,show x+2^s - 2^s=x by omega]
 rw[e1,e2,e3,e4]
theorem qg0 (g:Nat→Nat→Int)(s:Nat):qg g s 0=g:=by unfold qg;simp;rfl
theorem qg1 (g:Nat→Nat→Int)(s:Nat):qg g s 1=sh g (2^s) 0:=by unfold qg;simp
theorem qg2 (g:Nat→Nat→Int)(s:Nat):qg g s 2=sh g 0 (2^s):=by unfold qg;simp
theorem qg3 (g:Nat→Nat→Int)(s:Nat):qg g s 3=sh g (2^s) (2^s):=by unfold qg;simp
theorem T_qg (g:Nat→Nat→Int)(s:Nat):put4 (T (qg g s 0) s) (T (qg g s 1) s) (T (qg g s 2) s) (T (qg g s 3) s)=T g (s+1):=by
 rw[qg0,qg1,qg2,qg3];rfl
def qk (t:Q Int)(k:Nat):Q Int:=match k with
 | 0=>t.qs.1
 | 1=>t.qs.2.1
 | 2=>t.qs.2.2.1
 | _=>t.qs.2.2.2
section
variable {s sz:Nat}{g:Nat→Nat→Int}{t:Q Int}
theorem Sh.qk (q:Sh (s+1) g t){k:Nat}(hk:k < 4):Sh s (qg g s k) (qk t k):=by
 obtain⟨d1,d2,d3,d4⟩:=vn q.p.dep
 obtain⟨a1,a2,a3,a4⟩:=vo q.p.all
 have h3:s≤3:=by have:=q.p.h3;omega
 have hd:=bd s
 have:k=0∨k=1∨k=2∨k=3:=by omega
 rcases this with rfl | rfl | rfl | rfl
 ·exact⟨⟨h3,d1,a1⟩,fun x y hx hy=>by rw[qg0,← q.w x y (by omega) (by omega)];exact(nS s t hx hy).1.symm⟩
 ·exact⟨⟨h3,d2,a2⟩,fun x y hx hy=>by rw[qg1];unfold sh;rw[← q.w _ _ (by omega) (by omega)];exact(nS s t hx hy).2.1.symm⟩
 ·exact⟨⟨h3,d3,a3⟩,fun x y hx hy=>by rw[qg2];unfold sh;rw[← q.w _ _ (by omega) (by omega)];exact(nS s t hx hy).2.2.1.symm⟩
 ·exact⟨⟨h3,d4,a4⟩,fun x y hx hy=>by rw[qg3];unfold sh;rw[← q.w _ _ (by omega) (by omega)];exact(nS s t hx hy).2.2.2.symm⟩
theorem Sh.ln (q:Sh sz g t):t.lean=T g sz:=by rw[fg sz t q.p.dep,aU sz _ _ q.w]
theorem Sh.leant (q:Sh sz g t){n:Nat}(hn:5≤n):pf n F.ad [t.d .int]=.ok ((T g sz).d .int):=by
 have h1:=q.p.dep
 have h2:=q.p.h3
 rw[cP En.int t n (by omega) (by omega),q.ln]
theorem m9 {n:Nat}(hn:2≤n)(k:Int):pf n F.aq [.int k]=.ok (.bl (decide (0≤k)&&decide (k≤3))):=by
 obtain⟨n,rfl,hn⟩:=ex1 hn
 rw[ju,cv,eI (by omega) rfl,dr]
 rfl
theorem du {n:Nat}(hn:3≤n)(sz:Nat)(t:Q Int)(k:Int):pf n F.ap [picD sz t,.int k]=if sz≠0∧0≤k∧k≤3 then .ok .non else .err 2:=by
 obtain⟨n,rfl,hn⟩:=ex1 hn
 have e0:dIx (picD sz t) (.int 0)=.ok (.int (sz:Int)):=rfl
 rw[gw,bF,m9 (by omega),e0]
 simp only[STP,if_true,if_false,ite_true,ite_false,reduceIte,reduceCtorEq,OPP]
 by_cases h0:sz=0
 ·subst h0;rfl
 ·by_cases h1:0≤k<;>by_cases h2:k≤3<;>simp[h0,h1,h2,nC,nA]
theorem ix_q (t:Q Int){k:Nat}(hk:k < 4):dIx (.tup [t.qs.1.d .int,t.qs.2.1.d .int,t.qs.2.2.1.d .int,t.qs.2.2.2.d .int]) (.int (k:Int))=.ok ((Lw.qk t k).d .int):=by
 have:k=0∨k=1∨k=2∨k=3:=by omega
 rcases this with rfl | rfl | rfl | rfl<;>rfl
theorem Sh.quarter (q:Sh (s+1) g t){k:Nat}(hk:k < 4){n:Nat}(hn:10≤n):pf n F.af [picD (s+1) t,.int (k:Int)]=.ok (picD s (T (qg g s k) s)):=by
 obtain⟨n,rfl,hn⟩:=ex1 (show 9+1≤n by omega)
 have e0:dIx (picD (s+1) t) (.int 0)=.ok (.int ((s+1:Nat):Int)):=rfl
 have e1:dIx (picD (s+1) t) (.int 1)=.ok (t.d .int):=rfl
 rw[dc,bp,q.p.check (by omega),du (by omega),if_pos ⟨by omega,by omega,by omega⟩,e0,e1]
 simp only[STP,if_true,if_false,ite_true,ite_false,reduceIte,reduceCtorEq,OPP,l8 En.int t (show 1≤n by omega),ix_q t hk,(q.qk hk).leant (show 5≤n by omega)]
 rw[show ((s+1:Nat):Int) - 1=(s:Int) by omega]
 rfl
theorem Pc.quarter_no (p:Pc sz t){k:Int}(h:¬ (sz≠0∧0≤k∧k≤3)){n:Nat}(hn:10≤n):pf n F.af [picD sz t,.int k]=.err 2:=by
 obtain⟨n,rfl,hn⟩:=ex1 (show 9+1≤n by omega)
 rw[dc,bp,p.check (by omega),du (by omega),if_neg h]
 rfl
theorem nT {a b c d:Q Int}{fa fb fc fd:Nat→Nat→Int}(ha:Sh s fa a)(hb:Sh s fb b)(hc:Sh s fc c)(hd:Sh s fd d){n:Nat}(hn:6≤n):pf n F.ad [.tup [a.d .int,b.d .int,c.d .int,d.d .int]]=.ok ((T (jf s fa fb fc fd) (s+1)).d .int):=by
 have h3:=ha.p.h3
 have h1:=ha.p.dep
 have h2:=hb.p.dep
 have h4:=hc.p.dep
 have h5:=hd.p.dep
 have e:(Q.nd a b c d).dep≤s+1:=by show 1+max (max a.dep b.dep) (max c.dep d.dep)≤s+1;omega
 have:=cP En.int (.nd a b c d) n (by omega) (by omega)
 rw[show (Q.nd a b c d).lean=put4 a.lean b.lean c.lean d.lean from rfl,ha.ln,hb.ln,hc.ln,hd.ln,← T_jf]at this
 exact this
theorem Wo.jf {fa fb fc fd:Nat→Nat→Int}(ha:Wo fa s)(hb:Wo fb s)(hc:Wo fc s)(hd:Wo fd s):Wo (jf s fa fb fc fd) (s+1):=fun x y hx hy=>by
 have e:=bd s
 unfold Lw.jf
 split
 ·split
  ·exact ha _ _ (by omega) (by omega)
  ·exact hb _ _ (by omega) (by omega)
 ·split
  ·exact hc _ _ (by omega) (by omega)
  ·exact hd _ _ (by omega) (by omega)
def qp (k:Nat)(f:Nat→Nat→Int)(s:Nat)(g:Nat→Nat→Int)(j:Nat):Nat→Nat→Int:=if j=k then f else qg g s j
def qpt (k:Nat)(u t:Q Int)(j:Nat):Q Int:=if j=k then u else qk t j
theorem Sh.qp (q:Sh (s+1) g t){f:Nat→Nat→Int}{u:Q Int}(r:Sh s f u)(k:Nat){j:Nat}(hj:j < 4):Sh s (qp k f s g j) (qpt k u t j):=by
 unfold Lw.qp qpt
 split
 ·exact r
 ·exact q.qk hj
def jq (k:Nat)(f:Nat→Nat→Int)(s:Nat)(g:Nat→Nat→Int):Nat→Nat→Int:=jf s (qp k f s g 0) (qp k f s g 1) (qp k f s g 2) (qp k f s g 3)
theorem v6 (t u:Q Int){k:Nat}(hk:k < 4):oSt [t.qs.1.d .int,t.qs.2.1.d .int,t.qs.2.2.1.d .int,t.qs.2.2.2.d .int] (.int (k:Int)) (u.d .int)=.ok [(qpt k u t 0).d .int,(qpt k u t 1).d .int,(qpt k u t 2).d .int,(qpt k u t 3).d .int]:=by
 have:k=0∨k=1∨k=2∨k=3:=by omega
 rcases this with rfl | rfl | rfl | rfl<;>rfl
theorem Sh.withq (q:Sh (s+1) g t){f:Nat→Nat→Int}{u:Q Int}(r:Sh s f u){k:Nat}(hk:k < 4){n:Nat}(hn:10≤n):pf n F.ai [picD (s+1) t,.int (k:Int),picD s u]=.ok (picD (s+1) (T (jq k f s g) (s+1))):=by
 obtain⟨n,rfl,hn⟩:=ex1 (show 9+1≤n by omega)
 have e0:dIx (picD (s+1) t) (.int 0)=.ok (.int ((s+1:Nat):Int)):=rfl
 have e1:dIx (picD (s+1) t) (.int 1)=.ok (t.d .int):=rfl
 have e2:dIx (picD s u) (.int 0)=.ok (.int (s:Int)):=rfl
 have e3:dIx (picD s u) (.int 1)=.ok (u.d .int):=rfl
 have at4:∀ a b c d:D,asTup (.tup [a,b,c,d])=.ok [a,b,c,d]:=fun _ _ _ _=>rfl
 have nl:=nT (q.qp r k (show 0 < 4 by decide)) (q.qp r k (show 1 < 4 by decide)) (q.qp r k (show 2 < 4 by decide)) (q.qp r k (show 3 < 4 by decide)) (n:=n) (by omega)
 rw[a9,aJ,q.p.check (by omega),r.p.check (by omega),du (by omega),if_pos ⟨by omega,by omega,by omega⟩,e0,e1,e2,e3]
 simp only[STP,if_true,if_false,ite_true,ite_false,reduceIte,reduceCtorEq,OPP,show ((s+1:Nat):Int) - 1=(s:Int) by omega,decide_true,Bool.not_true,l8 En.int t (show 1≤n by omega),at4,v6 t u hk,nl]
 rfl
theorem Pc.withq_no {s':Nat}{u:Q Int}(p:Pc sz t)(r:Pc s' u){k:Int}(h:¬ (sz≠0∧0≤k∧k≤3)){n:Nat}(hn:10≤n):pf n F.ai [picD sz t,.int k,picD s' u]=.err 2:=by
 obtain⟨n,rfl,hn⟩:=ex1 (show 9+1≤n by omega)
 rw[a9,aJ,p.check (by omega),r.check (by omega),du (by omega),if_neg h]
 rfl
theorem Pc.withq_un {s':Nat}{u:Q Int}(p:Pc sz t)(r:Pc s' u){k:Int}(h:sz≠0∧0≤k∧k≤3)(hs:s'+1≠sz){n:Nat}(hn:10≤n):pf n F.ai [picD sz t,.int k,picD s' u]=.err 4:=by
 obtain⟨n,rfl,hn⟩:=ex1 (show 9+1≤n by omega)
 have e0:dIx (picD sz t) (.int 0)=.ok (.int (sz:Int)):=rfl
 have e2:dIx (picD s' u) (.int 0)=.ok (.int (s':Int)):=rfl
 rw[a9,aJ,p.check (by omega),r.check (by omega),du (by omega),if_pos h,e0,e2]
 simp only[STP,if_true,if_false,ite_true,ite_false,reduceIte,reduceCtorEq,OPP,decide_eq_false (show ¬ ((s':Int)=(sz:Int) - 1) by omega)]
end
end Lw
end
section
namespace Lw
open PySem FF
theorem any4 (a b c d:Bool):dAny [.lst [.bl a,.bl b,.bl c,.bl d]]=.ok (.bl (a||(b||(c||d)))):=by cases a<;>cases b<;>cases c<;>cases d<;>rfl
theorem l9 (xs:List D):dIsA qLT (.lst xs)=.ok (.bl true):=rfl
theorem pic0 (s:Nat)(t:Q Int):dIx (picD s t) (.int 0)=.ok (.int (s:Int)):=rfl
theorem pic1 (s:Nat)(t:Q Int):dIx (picD s t) (.int 1)=.ok (t.d .int):=rfl
theorem r8 (a b c d:D):dIx (.lst [a,b,c,d]) (.int 0)=.ok a:=rfl
theorem v7 (a b c d:D):dIx (.lst [a,b,c,d]) (.int 1)=.ok b:=rfl
theorem v8 (a b c d:D):dIx (.lst [a,b,c,d]) (.int 2)=.ok c:=rfl
theorem v9 (a b c d:D):dIx (.lst [a,b,c,d]) (.int 3)=.ok d:=rfl
theorem check4 {A B C E:D}{n:Nat}(ha:pf n F.aa [A]=.ok .non)(hb:pf n F.aa [B]=.ok .non)(hc:pf n F.aa [C]=.ok .non)(he:pf n F.aa [E]=.ok .non):pf (n+1) F.aB [.lst [A,B,C,E]]=.ok .non:=by
 rw[eS,bN,l9,dW]
 have l:dLen [.lst [A,B,C,E]]=.ok (.int 4):=rfl
 simp only[STP,if_true,if_false,ite_true,ite_false,reduceIte,reduceCtorEq,OPP,l,lFor,ci,ha,hb,hc,he]
 rfl
theorem na {A B C E:D}{n:Nat}(ha:pf n F.aa [A]=.ok .non)(hb:pf n F.aa [B]=.err 1):pf (n+1) F.aB [.lst [A,B,C,E]]=.err 1:=by
 rw[eS,bN,l9,dW]
 have l:dLen [.lst [A,B,C,E]]=.ok (.int 4):=rfl
 simp only[STP,if_true,if_false,ite_true,ite_false,reduceIte,reduceCtorEq,OPP,l,lFor,ci,ha,hb]
 rfl
theorem r9 {s0 s1 s2 s3:Nat}{a b c d:Q Int}(pa:Pc s0 a)(pb:Pc s1 b)(pc:Pc s2 c)(pd:Pc s3 d){n:Nat}(hn:10≤n) :
  pf (n+1) F.aj [.lst [picD s0 a,picD s1 b,picD s2 c,picD s3 d]]=if s0=3∨¬ (s1=s0∧s2=s0∧s3=s0) then .err 4 else (pf n F.ad [.tup [a.d .int,b.d .int,c.d .int,d.d .int]]).bind fun x=>.ok (.tup [.int (s0+1:Int),x]):=by
 obtain⟨n,rfl,hn⟩:=ex1 (show 9+1≤n by omega)
 have k4:=check4 (pa.check (n:=n) (by omega)) (pb.check (n:=n) (by omega)) (pc.check (n:=n) (by omega)) (pd.check (n:=n) (by omega))
 have c1:cMap (fun picture=>(dIx picture (.int 0)).bind fun x1=>dNf x1 (.int (s0:Int))) [picD s0 a,picD s1 b,picD s2 c,picD s3 d]=.ok (.lst [.bl (!decide ((s0:Int)=s0)),.bl (!decide ((s1:Int)=s0)),.bl (!decide ((s2:Int)=s0)),.bl (!decide ((s3:Int)=s0))]) :=
  cMap4 (by rw[pic0,R.bind_ok,cY]) (by rw[pic0,R.bind_ok,cY]) (by rw[pic0,R.bind_ok,cY]) (by rw[pic0,R.bind_ok,cY])
 have c2:cMap (fun picture1=>dIx picture1 (.int 1)) [picD s0 a,picD s1 b,picD s2 c,picD s3 d]=.ok (.lst [a.d .int,b.d .int,c.d .int,d.d .int]):=cMap4 rfl rfl rfl rfl
 have hB:rOr (asB (dEq (.int (s0:Int)) (.int 3))) (asB (((sq (.lst [picD s0 a,picD s1 b,picD s2 c,picD s3 d])).bind fun xs=>cMap (fun picture=>(dIx picture (.int 0)).bind fun x1=>dNf x1 (.int (s0:Int))) xs).bind fun x2=>dAny [x2]))=.ok (decide (s0=3∨¬ (s1=s0∧s2=s0∧s3=s0))):=by
  rw[dW,R.bind_ok,c1,R.bind_ok,any4,dR,aW,aW,kP]
  congr 1
  rw[Bool.eq_iff_iff]
  simp only[Bool.or_eq_true,Bool.not_eq_true',decide_eq_true_eq,decide_eq_false_iff_not,Int.ofNat_inj,not_true_eq_false,false_or]
  constructor
  ·intro h;omega
  ·intro h;omega
 rw[ek,bu,k4,r8,R.bind_ok,pic0]
 simp only[az]
 rw[hB,az]
 by_cases h:s0=3∨¬ (s1=s0∧s2=s0∧s3=s0)
 ·rw[if_pos h,decide_eq_true h]
  rfl
 ·rw[if_neg h,decide_eq_false h]
  simp only[STP,if_true,if_false,ite_true,ite_false,reduceIte,reduceCtorEq,OPP,dW,c2]
  cases pf (n+1) F.ad [.tup [a.d .int,b.d .int,c.d .int,d.d .int]]<;>rfl
section
variable {s sz:Nat}{g:Nat→Nat→Int}{t:Q Int}
theorem sd {a b c d:Q Int}{fa fb fc fd:Nat→Nat→Int}(ha:Sh s fa a)(hb:Sh s fb b)(hc:Sh s fc c)(hd:Sh s fd d)(hs:s < 3){n:Nat}(hn:11≤n) :
  pf n F.aj [.lst [picD s a,picD s b,picD s c,picD s d]]=.ok (picD (s+1) (T (jf s fa fb fc fd) (s+1))):=by
 obtain⟨n,rfl,hn⟩:=ex1 (show 10+1≤n by omega)
 rw[r9 ha.p hb.p hc.p hd.p (by omega),if_neg (by omega),nT ha hb hc hd (by omega)]
 rfl
theorem uf {A B C E:D}{n:Nat}(ha:pf n F.aa [A]=.ok .non)(hb:pf n F.aa [B]=.err 1):pf (n+2) F.aj [.lst [A,B,C,E]]=.err 1:=by
 rw[ek,bu,na ha hb]
 rfl
def dbl (g:Nat→Nat→Int):Nat→Nat→Int:=fun x y=>g (x/2) (y/2)
theorem nb (g:Nat→Nat→Int)(a b:Nat):sh (dbl g) (2*a) (2*b)=dbl (sh g a b):=by
 funext x y
 unfold sh dbl
 rw[show (x+2*a)/2=x/2+a by omega,show (y+2*b)/2=y/2+b by omega]
theorem j9:∀ (s:Nat) (g:Nat→Nat→Int),T (dbl g) (s+1)=T g s
 | 0,g=>by
  show put4 (.lf (dbl g 0 0)) (.lf (dbl g (0+2^0) (0+0))) (.lf (dbl g (0+0) (0+2^0))) (.lf (dbl g (0+2^0) (0+2^0)))=.lf (g 0 0)
  exact jW _
 | s+1,g=>by
  show put4 (T (dbl g) (s+1)) (T (sh (dbl g) (2^(s+1)) 0) (s+1)) (T (sh (dbl g) 0 (2^(s+1))) (s+1)) (T (sh (dbl g) (2^(s+1)) (2^(s+1))) (s+1))=put4 (T g s) (T (sh g (2^s) 0) s) (T (sh g 0 (2^s)) s) (T (sh g (2^s) (2^s)) s)
  have e:(2^(s+1):Nat)=2*2^s:=by rw[bd];omega
  have e1:sh (dbl g) (2^(s+1)) 0=dbl (sh g (2^s) 0):=by rw[e];exact nb g _ 0
  have e2:sh (dbl g) 0 (2^(s+1))=dbl (sh g 0 (2^s)):=by rw[e];exact nb g 0 _
  have e3:sh (dbl g) (2^(s+1)) (2^(s+1))=dbl (sh g (2^s) (2^s)):=by rw[e];exact nb g _ _
  rw[e1,e2,e3,j9 s g,j9 s,j9 s,j9 s]
theorem Sh.grown (q:Sh s g t)(hs:s < 3){n:Nat}(hn:10≤n):pf n F.aL [picD s t]=.ok (picD (s+1) (T (dbl g) (s+1))):=by
 obtain⟨n,rfl,hn⟩:=ex1 (show 9+1≤n by omega)
 rw[iR,eM,q.p.check (by omega),pic0,pic1]
 simp only[STP,if_true,if_false,ite_true,ite_false,reduceIte,reduceCtorEq,OPP,decide_eq_false (show ¬ ((s:Int)=3) by omega),q.leant (show 5≤n by omega),j9]
 rfl
theorem Pc.grown_no (p:Pc 3 t){n:Nat}(hn:10≤n):pf n F.aL [picD 3 t]=.err 4:=by
 obtain⟨n,rfl,hn⟩:=ex1 (show 9+1≤n by omega)
 rw[iR,eM,p.check (by omega),pic0]
 rfl
theorem Wo.qg {k:Nat}(h:Wo g (s+1))(hk:k < 4):Wo (qg g s k) s:=fun x y hx hy=>by
 have e:=bd s
 unfold Lw.qg sh
 have:k=0∨k=1∨k=2∨k=3:=by omega
 rcases this with rfl | rfl | rfl | rfl<;>exact h _ _ (by omega) (by omega)
def qi (g:Nat→Nat→Int)(sz k:Nat):Nat→Nat→Nat→Int
 | 0=>g
 | m+1=>qg (qi g sz k m) (sz - m - 1) k
theorem se {k:Nat}(hk:k < 4)(h:Wo g sz):∀ m,m≤sz→Wo (qi g sz k m) (sz - m)
 | 0,_=>h
 | m+1,hm=>by
  have:=se hk h m (by omega)
  rw[show sz - m=sz - m - 1+1 by omega]at this
  rw[show sz - (m+1)=sz - m - 1 by omega]
  exact this.qg hk
theorem ug {n k:Nat}(hn:2≤n)(hk:k < 4):pf n F.aq [.int (k:Int)]=.ok (.bl true):=by
 rw[m9 hn,decide_eq_true (show (0:Int)≤k by omega),decide_eq_true (show (k:Int)≤3 by omega)];rfl
theorem Sh.cut (q:Sh sz g t){k m:Nat}(hk:k < 4)(hm:m≤sz){n:Nat}(hn:11≤n):pf n F.aF [picD sz t,.int (k:Int),.int (m:Int)]=.ok (picD (sz - m) (T (qi g sz k m) (sz - m))):=by
 obtain⟨n,rfl,hn⟩:=ex1 (show 10+1≤n by omega)
 have h3:=q.p.h3
 have r:=fQ (s:=m) (by omega)
 have lp:=fR (f:=fun s x=>cw (pf n) (.int (k:Int)) s x) (fun i:Nat=>D.int (i:Int)) (fun i=>picD (sz - i) (T (qi g sz k i) (sz - i))) m (fun i hi=>by
  have w:=se hk q.wo i (by omega)
  have e:sz - i=sz - i - 1+1:=by omega
  rw[e]at w
  have:=(sh_T (by omega) w).quarter hk (n:=n) (by omega)
  unfold cw
  rw[e,this,show sz - (i+1)=sz - i - 1 by omega]
  rfl)
 have lp':lFor (fun s x=>cw (pf n) (.int (k:Int)) s x) ((List.range m).map fun i:Nat=>D.int (i:Int)) (picD sz (T g sz))=.nx (picD (sz - m) (T (qi g sz k m) (sz - m))):=lp
 rw[e7,cA,q.p.check (by omega),ug (by omega) hk,eI (by omega) rfl,pic0,q.lean (by omega)]
 simp only[STP,if_true,if_false,ite_true,ite_false,reduceIte,reduceCtorEq,OPP,dr,decide_eq_true (show (0:Int)≤m by omega),decide_eq_true (show (m:Int)≤sz by omega),r,lp',isW,Bool.and_self,Bool.not_true,Bool.or_self]
theorem Pc.cut_no (p:Pc sz t){k m:Int}(h:¬ ((0≤k∧k≤3)∧0≤m∧m≤sz)){n:Nat}(hn:11≤n):pf n F.aF [picD sz t,.int k,.int m]=.err 2:=by
 obtain⟨n,rfl,hn⟩:=ex1 (show 10+1≤n by omega)
 rw[e7,cA,p.check (by omega),m9 (by omega),eI (by omega) rfl,pic0]
 have e:(!(decide (0≤k)&&decide (k≤3))||(!isW (.int m) || !(decide (0≤m)&&decide (m≤(sz:Int)))))=true:=by
  simp only[isW,Bool.not_true,Bool.false_or,Bool.or_eq_true,Bool.not_eq_true',Bool.and_eq_false_iff,decide_eq_false_iff_not]
  omega
 simp only[STP,if_true,if_false,ite_true,ite_false,reduceIte,reduceCtorEq,OPP,dr,e]
end
end Lw
end
section
namespace Lw
open PySem FF
section
variable {s:Nat}
theorem ma {e:Int→D}(g:Nat→Nat→Int)(w k:Nat):dLen [rowsT e g w k]=.ok (.int (k:Int)):=by unfold rowsT;simp
theorem uh {e:Int→D}(g:Nat→Nat→Int)(w y:Nat):dLen [rowT e g w y]=.ok (.int (w:Int)):=by unfold rowT;simp
theorem fT {a b:Nat}(hb:b≤1000):dMul (.int (a:Int)) (.int (b:Int))=.ok (.int ((a*b:Nat):Int)):=by
 rw[b9 (.inl ⟨by omega,by omega⟩),Int.natCast_mul]
theorem fU (g:Nat→Nat→Int)(hs:s≤2){k:Nat}(hk:k < 4){n:Nat}(hn:1≤n):pf n F.aG [rowsT .int g (2^(s+1)) (2^(s+1)),.int (k:Int)]=.ok (rowsT .int (qg g s k) (2^s) (2^s)):=by
 obtain⟨n,rfl,hn⟩:=ex1 hn
 have h8:=p8 (show s≤3 by omega)
 have e:=bd s
 have md:dMod (.int (k:Int)) (.int 2)=.ok (.int ((k%2:Nat):Int)):=rL (b:=2) (by decide)
 have dv:dDiv (.int (k:Int)) (.int 2)=.ok (.int ((k/2:Nat):Int)):=fP (b:=2) (by decide) (by decide)
 have m1:=fT (a:=k%2) (b:=2^s) (by omega)
 have m2:=fT (a:=k/2) (b:=2^s) (by omega)
 have hL:k%2*2^s≤2^s:=by have:=Nat.mul_le_mul_right (2^s) (show k%2≤1 by omega);omega
 have hT:k/2*2^s≤2^s:=by have:=Nat.mul_le_mul_right (2^s) (show k/2≤1 by omega);omega
 have sw:dSw (rowsT .int g (2^(s+1)) (2^(s+1))) (some ((k/2*2^s:Nat):Int)) (some ((k/2*2^s+2^s:Nat):Int))=.ok (.tup ((List.range (2^s)).map fun i=>rowT .int g (2^(s+1)) (k/2*2^s+i))):=by
  show dSw (.tup _) _ _=_
  rw[nQ,eQ (by omega)]
 have cm:cMap (fun wN=>dSw wN (some ((k%2*2^s:Nat):Int)) (some ((k%2*2^s+2^s:Nat):Int))) ((List.range (2^s)).map fun i=>rowT .int g (2^(s+1)) (k/2*2^s+i))=.ok (.lst ((List.range (2^s)).map fun y=>rowT .int (qg g s k) (2^s) y)):=bV _ _ fun y _=>by
  show dSw (.tup _) _ _=_
  rw[nQ,eQ (by omega)]
  exact congrArg (fun l=>R.ok (D.tup l)) (List.map_congr_left fun x _=>by
   show D.int (g (k%2*2^s+x) (k/2*2^s+y))=D.int (g (x+k%2*2^s) (y+k/2*2^s))
   rw[Nat.add_comm (k%2*2^s) x,Nat.add_comm (k/2*2^s) y])
 have sq':sq (.tup ((List.range (2^s)).map fun i=>rowT .int g (2^(s+1)) (k/2*2^s+i)))=.ok ((List.range (2^s)).map fun i=>rowT .int g (2^(s+1)) (k/2*2^s+i)):=dQ (by simp;omega)
 rw[oP,fF,ma,R.bind_ok,nP,md,dv]
 have a1:((k/2*2^s:Nat):Int)+((2^s:Nat):Int)=((k/2*2^s+2^s:Nat):Int):=(Int.natCast_add _ _).symm
 have a2:((k%2*2^s:Nat):Int)+((2^s:Nat):Int)=((k%2*2^s+2^s:Nat):Int):=(Int.natCast_add _ _).symm
 rw[az,R.bind_ok,m1,az,R.bind_ok,m2,az]
 simp only[R.bind_ok,t7,ba,a1,a2,sw,sq',cm,cO,az,nB]
 unfold rowsT
 exact Eq.refl _
theorem ke {α:Type}(a b:α→D):∀ l:List α,zipD (l.map a) (l.map b)=l.map fun i=>.tup [a i,b i]
 | []=>rfl
 | x::l=>by rw[List.map_cons,List.map_cons,zipD,ke a b l];rfl
theorem sf (h3:s≤3)(f g:Nat→Nat→Int):dZip (rowsT .int f (2^s) (2^s)) (rowsT .int g (2^s) (2^s))=.ok ((List.range (2^s)).map fun y=>.tup [rowT .int f (2^s) y,rowT .int g (2^s) y]):=by
 have h8:=p8 h3
 unfold dZip
 rw[show sq (rowsT .int f (2^s) (2^s))=.ok ((List.range (2^s)).map fun y=>rowT .int f (2^s) y) from dQ (by simp;omega),R.bind_ok,show sq (rowsT .int g (2^s) (2^s))=.ok ((List.range (2^s)).map fun y=>rowT .int g (2^s) y) from dQ (by simp;omega),R.bind_ok,ke]
theorem sg (h3:s≤3)(a b c d:Nat→Nat→Int){n:Nat}(hn:1≤n):pf n F.al [.lst [rowsT .int a (2^s) (2^s),rowsT .int b (2^s) (2^s),rowsT .int c (2^s) (2^s),rowsT .int d (2^s) (2^s)]]=.ok (rowsT .int (jf s a b c d) (2^(s+1)) (2^(s+1))):=by
 obtain⟨n,rfl,hn⟩:=ex1 hn
 have h8:=p8 h3
 have e:=bd s
 have c1:cMap (fun p=>un2 p fun wJ wu=>dAdd wJ wu) ((List.range (2^s)).map fun y=>.tup [rowT .int a (2^s) y,rowT .int b (2^s) y])=.ok (.lst ((List.range (2^s)).map fun y=>rowT .int (jf s a b c d) (2^s+2^s) y)):=bV _ _ fun y hy=>by
  have hy:=List.mem_range.mp hy
  show dAdd (.tup _) (.tup _)=_
  rw[catT (by simp;omega),jb (F:=jf s a b c d) (y':=y) (fun x hx=>by unfold jf;rw[if_pos hy,if_pos hx]) (fun x hx=>by unfold jf;rw[if_pos hy,if_neg (by omega),show 2^s+x - 2^s=x by omega])]
  rfl
 have c2:cMap (fun p=>un2 p fun wJ wu=>dAdd wJ wu) ((List.range (2^s)).map fun y=>.tup [rowT .int c (2^s) y,rowT .int d (2^s) y])=.ok (.lst ((List.range (2^s)).map fun y=>rowT .int (jf s a b c d) (2^s+2^s) (2^s+y))):=bV _ _ fun y hy=>by
  have hy:=List.mem_range.mp hy
  show dAdd (.tup _) (.tup _)=_
  rw[catT (by simp;omega),jb (F:=jf s a b c d) (y':=2^s+y) (fun x hx=>by unfold jf;rw[if_neg (by omega),if_pos hx,show 2^s+y - 2^s=y by omega]) (fun x hx=>by unfold jf;rw[if_neg (by omega),if_neg (by omega),show 2^s+y - 2^s=y by omega,show 2^s+x - 2^s=x by omega])]
  rfl
 rw[jv,cy]
 simp only[az,R.bind_ok,r8,v7,v8,v9,sf h3,c1,c2,catL (show ((List.range (2^s)).map fun y=>rowT .int (jf s a b c d) (2^s+2^s) y).length+((List.range (2^s)).map fun y=>rowT .int (jf s a b c d) (2^s+2^s) (2^s+y)).length≤16777216 by simp;omega),cO]
 unfold rowsT
 rw[bd,List.range_add,List.map_append,List.map_map]
 rfl
theorem ui (h3:s≤3)(g:Nat→Nat→Int):((sq (rowsT .int g (2^s) (2^s))).bind fun xs=>cMap (fun wN=>((((dLen [wN]).bind fun x=>dMul (.int 2) x).bind fun x1=>rng1 [x1]).bind fun xs1=>cMap (fun xI=>(dDiv xI (.int 2)).bind fun x2=>dIx wN x2) xs1).bind fun x3=>dTuple [x3]) xs)=.ok (.lst ((List.range (2^s)).map fun y=>rowT .int (fun x y=>g (x/2) y) (2*2^s) y)):=by
 have h8:=p8 h3
 rw[show sq (rowsT .int g (2^s) (2^s))=.ok ((List.range (2^s)).map fun y=>rowT .int g (2^s) y) from dQ (by simp;omega),R.bind_ok]
 refine bV _ _ fun y _=>?_
 have m:dMul (.int 2) (.int ((2^s:Nat):Int))=.ok (.int ((2*2^s:Nat):Int)):=fT (a:=2) (by omega)
 have c:cMap (fun xI=>(dDiv xI (.int 2)).bind fun x2=>dIx (rowT .int g (2^s) y) x2) ((List.range (2*2^s)).map fun i=>D.int ((i:Nat):Int))=.ok (.lst ((List.range (2*2^s)).map fun x=>D.int (g (x/2) y))):=bV _ _ fun x hx=>by
  have hx:=List.mem_range.mp hx
  have dv:dDiv (.int (x:Int)) (.int 2)=.ok (.int ((x/2:Nat):Int)):=fP (b:=2) (by decide) (by decide)
  rw[dv,R.bind_ok,t4 (by omega)]
 rw[uh,R.bind_ok,m,R.bind_ok,fQ (by omega),R.bind_ok,c,R.bind_ok,cO]
 rfl
theorem si (h3:s≤3)(g:Nat→Nat→Int):(((((dLen [rowsT .int g (2^s) (2^s)]).bind fun x4=>dMul (.int 2) x4).bind fun x5=>rng1 [x5]).bind fun xs2=>cMap (fun xJ=>(dDiv xJ (.int 2)).bind fun x6=>dIx (.lst ((List.range (2^s)).map fun y=>rowT .int (fun x y=>g (x/2) y) (2*2^s) y)) x6) xs2).bind fun x7=>dTuple [x7])=.ok (rowsT .int (dbl g) (2^(s+1)) (2^(s+1))):=by
 have h8:=p8 h3
 have m:dMul (.int 2) (.int ((2^s:Nat):Int))=.ok (.int ((2*2^s:Nat):Int)):=fT (a:=2) (by omega)
 have c:cMap (fun xJ=>(dDiv xJ (.int 2)).bind fun x6=>dIx (.lst ((List.range (2^s)).map fun y=>rowT .int (fun x y=>g (x/2) y) (2*2^s) y)) x6) ((List.range (2*2^s)).map fun i=>D.int ((i:Nat):Int))=.ok (.lst ((List.range (2*2^s)).map fun y=>rowT .int (dbl g) (2*2^s) y)):=bV _ _ fun y hy=>by
  have hy:=List.mem_range.mp hy
  have dv:dDiv (.int (y:Int)) (.int 2)=.ok (.int ((y/2:Nat):Int)):=fP (b:=2) (by decide) (by decide)
  have hy2:y/2 < 2^s:=by omega
  rw[dv,R.bind_ok,ixL (x:=rowT .int (fun x y=>g (x/2) y) (2*2^s) (y/2)) (by simp[hy2])]
  rfl
 rw[ma,R.bind_ok,m,R.bind_ok,fQ (by omega),R.bind_ok,c,R.bind_ok,cO]
 unfold rowsT
 rw[show (2^(s+1):Nat)=2*2^s by rw[bd];omega]
end
end Lw
end
section
namespace Lw
open PySem FF
def tw (t:Nat→List D→R D)(r:R D):L Unit:=lTry (τ:=D) (qTk esL) (lB r .nx) (fun x=>.rt x) (fun k=>lB (t F.ar [.exc k]) .rt)
theorem vp {t:Nat→List D→R D}{k:Nat}{d:D}(hk:qTk esL k=true)(h:t F.ar [.exc k]=.ok d):outL (tw t (.err k))=.ok d:=by
 unfold tw
 rw[qK,tj,if_pos hk,h];rfl
theorem o0 (t:Nat→List D→R D)(a b c:D):db t (.int 0) a b c=tw t (t F.af [a,b]):=rfl
theorem o1 (t:Nat→List D→R D)(a b c:D):db t (.int 1) a b c=tw t (t F.ai [a,b,c]):=rfl
theorem o2 (t:Nat→List D→R D)(a b c:D):db t (.int 2) a b c=tw t (t F.aF [a,b,c]):=rfl
theorem o3 (t:Nat→List D→R D)(a b c:D):db t (.int 3) a b c=tw t (t F.aL [a]):=rfl
theorem o4 (t:Nat→List D→R D)(a b c:D):db t (.int 4) a b c=tw t (t F.aj [a]):=rfl
theorem od {m:Nat}{w a b c d:D}{r:R D}(h:db (pf m) w a b c=tw (pf m) r)(hr:r=.ok d):pf (m+1) F.ab [w,a,b,c]=.ok d:=by rw[nJ,h,hr];rfl
theorem oe {m:Nat}{w a b c d:D}{r:R D}{k:Nat}(h:db (pf m) w a b c=tw (pf m) r)(hr:r=.err k)(hk:qTk esL k=true)(hw:pf m F.ar [.exc k]=.ok d):pf (m+1) F.ab [w,a,b,c]=.ok d:=by rw[nJ,h,hr,vp hk hw]
theorem word2 {m:Nat}(hm:1≤m):pf m F.ar [.exc 2]=.ok (.str "no spot"):=by
 obtain⟨m,rfl,hm⟩:=ex1 hm
 rw[gz,dq]
 rfl
theorem sj (s:Str):dNf (.str s) (.str s)=.ok (.bl false):=by rw[lQ rfl rfl,j6 (n:=1) rfl];rfl
theorem vq (s:Str):dEq (.str s) (.str s)=.ok (.bl true):=by rw[fN rfl rfl,j6 (n:=1) rfl]
theorem pz {s0 s1:Nat}{t0 t1:Q Int}(p:Pc s0 t0)(r:Pc s1 t1):good 60 (.lst [picD s0 t0,picD s1 t1])=true:=by
 have a:=bW p.good (show 4≤59 by decide)
 have b:=bW r.good (show 4≤59 by decide)
 show (good 59 (picD s0 t0)&&(good 59 (picD s1 t1)&&true))=true
 rw[a,b];rfl
theorem pA {s0:Nat}{t0:Q Int}(p:Pc s0 t0)(x:Str):good 60 (.lst [picD s0 t0,.str x])=true:=by
 have a:=bW p.good (show 4≤59 by decide)
 show (good 59 (picD s0 t0)&&(true&&true))=true
 rw[a];rfl
def bA (t:Nat→List D→R D)(wm wq wu wr ww:D):L D :=
 lB (σ:=D) (rAnd (asB (dGt wq (.int 0))) (asB (.ok ww))) fun b=>if b=true then lB (((rng1 [(.int 4)]).bind fun xs=>cMap (fun wE=>t F.aG [wm,wE]) xs).bind fun x11=>asLst x11) fun wy=>lB (((oIx wy wr).bind fun x4=>t F.an [x4]).bind fun x5=>.ok [x5,(.str "unlike")]) fun wQ=>lB (asB ((dIx wu (.int 0)).bind fun x6=>(dSub wq (.int 1)).bind fun x7=>dEq x6 x7)) fun b1=>if b1=true then lB ((t F.ao [wu]).bind fun x8=>oSt wy wr x8) fun wL=>lB (((t F.al [(.lst wL)]).bind fun x9=>t F.an [x9]).bind fun x10=>oSt wQ (.int 1) x10) fun xj=>.nx (.lst xj) else .nx (.lst wQ) else .nx (.lst [(.str "no spot"),(.str "no spot")])
section
variable {sz s':Nat}{g f:Nat→Nat→Int}{t u:Q Int}
theorem oIx4 (a:Nat→D){k:Nat}(hk:k < 4):oIx [a 0,a 1,a 2,a 3] (.int (k:Int))=.ok (a k):=by
 have:k=0∨k=1∨k=2∨k=3:=by omega
 rcases this with rfl | rfl | rfl | rfl<;>rfl
theorem oSt4 (e:(Nat→Nat→Int)→D)(f g:Nat→Nat→Int)(s:Nat){k:Nat}(hk:k < 4):oSt [e (qg g s 0),e (qg g s 1),e (qg g s 2),e (qg g s 3)] (.int (k:Int)) (e f)=.ok [e (qp k f s g 0),e (qp k f s g 1),e (qp k f s g 2),e (qp k f s g 3)]:=by
 have:k=0∨k=1∨k=2∨k=3:=by omega
 rcases this with rfl | rfl | rfl | rfl<;>rfl
theorem parts4 (g:Nat→Nat→Int){s:Nat}(hs:s≤2){n:Nat}(hn:1≤n):cMap (fun wE=>pf n F.aG [rowsT .int g (2^(s+1)) (2^(s+1)),wE]) [.int 0,.int 1,.int 2,.int 3]=.ok (.lst [rowsT .int (qg g s 0) (2^s) (2^s),rowsT .int (qg g s 1) (2^s) (2^s),rowsT .int (qg g s 2) (2^s) (2^s),rowsT .int (qg g s 3) (2^s) (2^s)]) :=
 cMap4 (fU g hs (k:=0) (by decide) hn) (fU g hs (k:=1) (by decide) hn) (fU g hs (k:=2) (by decide) hn) (fU g hs (k:=3) (by decide) hn)
theorem cMap2 {e:D→R D}{a b a' b':D}(ha:e a=.ok a')(hb:e b=.ok b'):cMap e [a,b]=.ok (.lst [a',b']):=by simp only[cMap,cGo,ha,hb,R.bind_ok]
theorem wa (q:Sh sz g t)(r:Sh s' f u)(N:Int):∃ due,bA (pf 39) (rowsT .int g (2^sz) (2^sz)) (.int (sz:Int)) (picD s' u) (.int N) (.bl (decide (0≤N)&&decide (N < 4)))=.nx due∧cMap (fun wI=>pf 39 F.ab [wI,picD sz t,.int N,picD s' u]) [.int 0,.int 1]=.ok due∧good 60 due=true:=by
 have h3:=q.p.h3
 by_cases h:sz≠0∧0≤N∧N≤3
 ·obtain⟨s,rfl⟩:∃ s,sz=s+1:=⟨sz - 1,by omega⟩
  obtain⟨k,rfl⟩:∃ k:Nat,N=k:=⟨N.toNat,by omega⟩
  have hk:k < 4:=by omega
  have pr:=parts4 g (show s≤2 by omega) (n:=39) (by decide)
  have ix:=oIx4 (fun j=>rowsT .int (qg g s j) (2^s) (2^s)) hk
  have lo:=j3 (n:=39) (qg g s k) (sz:=s) (by omega) (by decide)
  have q0:pf 39 F.ab [.int 0,picD (s+1) t,.int (k:Int),picD s' u]=_:=od (m:=38) (o0 _ _ _ _) (q.quarter hk (by decide))
  have b0:rAnd (asB (dGt (.int ((s+1:Nat):Int)) (.int 0))) (asB (.ok (.bl (decide (0≤(k:Int))&&decide ((k:Int) < 4)))))=.ok true:=by
   rw[decide_eq_true (show 0≤(k:Int) by omega),decide_eq_true (show (k:Int) < 4 by omega),hU,decide_eq_true (show (0:Int) < ((s+1:Nat):Int) by omega)];rfl
  have pq:Pc s (T (qg g s k) s):=pc_T (by omega) (q.wo.qg hk)
  have as4:∀ xs:List D,asLst (.lst xs)=.ok xs:=fun _=>rfl
  by_cases he:s'=s
  ·subst he
   have q1:pf 39 F.ab [.int 1,picD (s'+1) t,.int (k:Int),picD s' u]=_:=od (m:=38) (o1 _ _ _ _) (q.withq r hk (by decide))
   have os:=oSt4 (fun f=>rowsT .int f (2^s') (2^s')) f g s' hk
   have tg:=sg (s:=s') (by omega) (qp k f s' g 0) (qp k f s' g 1) (qp k f s' g 2) (qp k f s' g 3) (n:=39) (by decide)
   have lo2:=j3 (n:=39) (jq k f s' g) (sz:=s'+1) h3 (by decide)
   have os2:∀ a b c:D,oSt [a,b] (.int 1) c=.ok [a,c]:=fun _ _ _=>rfl
   have pj:Pc (s'+1) (T (jq k f s' g) (s'+1)):=pc_T h3 (Wo.jf (q.qp r k (j:=0) (by decide)).wo (q.qp r k (j:=1) (by decide)).wo (q.qp r k (j:=2) (by decide)).wo (q.qp r k (j:=3) (by decide)).wo)
   refine⟨_,?_,cMap2 q0 q1,pz pq pj⟩
   unfold bA
   rw[b0,az,if_pos rfl,rng4,R.bind_ok,pr,R.bind_ok,as4,az,ix,R.bind_ok,lo,R.bind_ok,az,pic0,R.bind_ok,bv,R.bind_ok,dR,aW,az,if_pos (decide_eq_true (by omega)),r.lrows (by decide),R.bind_ok,os,az,tg,R.bind_ok]
   show lB (((pf 39 F.an [rowsT .int (jq k f s' g) _ _]).bind _)) _=_
   rw[lo2,R.bind_ok,os2,az]
  ·have q1:pf 39 F.ab [.int 1,picD (s+1) t,.int (k:Int),picD s' u]=_:=oe (m:=38) (o1 _ _ _ _) (q.p.withq_un r.p h (by omega) (by decide)) (by decide) (word4 (m:=38) (by decide))
   refine⟨_,?_,cMap2 q0 q1,pA pq _⟩
   unfold bA
   rw[b0,az,if_pos rfl,rng4,R.bind_ok,pr,R.bind_ok,as4,az,ix,R.bind_ok,lo,R.bind_ok,az,pic0,R.bind_ok,bv,R.bind_ok,dR,aW,az,if_neg (by rw[decide_eq_true_eq];omega)]
 ·have q0:pf 39 F.ab [.int 0,picD sz t,.int N,picD s' u]=_:=oe (m:=38) (o0 _ _ _ _) (q.p.quarter_no h (by decide)) (by decide) (word2 (m:=38) (by decide))
  have q1:pf 39 F.ab [.int 1,picD sz t,.int N,picD s' u]=_:=oe (m:=38) (o1 _ _ _ _) (q.p.withq_no r.p h (by decide)) (by decide) (word2 (m:=38) (by decide))
  have b0:rAnd (asB (dGt (.int (sz:Int)) (.int 0))) (asB (.ok (.bl (decide (0≤N)&&decide (N < 4)))))=.ok false:=by
   rw[hU,aW,aW,kO]
   congr 1
   rw[Bool.eq_false_iff]
   simp only[ne_eq,Bool.and_eq_true,decide_eq_true_eq]
   omega
  refine⟨_,?_,cMap2 q0 q1,rfl⟩
  unfold bA
  rw[b0,az,if_neg (by decide)]
def bB (t:Nat→List D→R D)(wl wm wq:D):L Unit :=
 lB (σ:=Unit) (asB (dGt wq (.int 0))) fun b3=>if b3=true then lB ((rng1 [(.int 4)]).bind fun xs2=>cMap (fun xH=>t F.af [wl,xH]) xs2) fun wx =>
 lB (asB ((t F.ab [(.int 4),wx,.non,.non]).bind fun x13=>(t F.an [wm]).bind fun x14=>dNf x13 x14)) fun b4=>if b4=true then .rt (.bl false) else .nx () else .nx ()
theorem wb (q:Sh sz g t):bB (pf 39) (picD sz t) (rowsT .int g (2^sz) (2^sz)) (.int (sz:Int))=.nx ():=by
 have h3:=q.p.h3
 unfold bB
 cases sz with
 | zero=>rfl
 | succ s =>
  have c4:cMap (fun xH=>pf 39 F.af [picD (s+1) t,xH]) [.int 0,.int 1,.int 2,.int 3]=_:=cMap4 (q.quarter (k:=0) (by decide) (by decide)) (q.quarter (k:=1) (by decide) (by decide)) (q.quarter (k:=2) (by decide) (by decide)) (q.quarter (k:=3) (by decide) (by decide))
  have w:∀ k,k < 4→Sh s (qg g s k) (T (qg g s k) s):=fun k hk=>sh_T (by omega) (q.wo.qg hk)
  have y:=od (m:=38) (o4 _ _ .non .non) (sd (w 0 (by decide)) (w 1 (by decide)) (w 2 (by decide)) (w 3 (by decide)) (by omega) (n:=38) (by decide))
  rw[T_jf,T_qg]at y
  have y':pf 39 F.ab [.int 4,.lst [picD s (T (qg g s 0) s),picD s (T (qg g s 1) s),picD s (T (qg g s 2) s),picD s (T (qg g s 3) s)],.non,.non]=_:=y
  rw[hU,decide_eq_true (show (0:Int) < ((s+1:Nat):Int) by omega),aW,az,if_pos rfl,rng4,R.bind_ok,c4,az,y',R.bind_ok,j3 g h3 (by decide),R.bind_ok,fS (pc_T h3 q.wo).g60]
  rfl
def bC (t:Nat→List D→R D)(wm wq wr ww wB:D):L D :=
 lB ((rIf (rAnd (asB (.ok ww)) (asB (rCh dLe dLe (.int 0) wB (.ok wq)))) (.ok wB) (.ok (.int 0))).bind fun x16=>rng1 [x16]) fun xs3=>lFor (τ:=D) (fun s x=>bP t wr s x) xs3 wm
def bD (t:Nat→List D→R D)(wl wq wr ww wB wT:D):L Unit :=
 lB (σ:=Unit) (asB ((t F.ab [(.int 2),wl,wr,wB]).bind fun x18=>(rIf (rAnd (asB (.ok ww)) (asB (rCh dLe dLe (.int 0) wB (.ok wq)))) (t F.an [wT]) (.ok (.str "no spot"))).bind fun x19=>dNf x18 x19)) fun b5=>if b5=true then .rt (.bl false) else .nx ()
theorem wc (q:Sh sz g t)(N M:Int):∃ some2,bC (pf 39) (rowsT .int g (2^sz) (2^sz)) (.int (sz:Int)) (.int N) (.bl (decide (0≤N)&&decide (N < 4))) (.int M)=.nx some2∧bD (pf 39) (picD sz t) (.int (sz:Int)) (.int N) (.bl (decide (0≤N)&&decide (N < 4))) (.int M) some2=.nx ():=by
 have h3:=q.p.h3
 by_cases h:(0≤N∧N≤3)∧0≤M∧M≤sz
 ·obtain⟨k,rfl⟩:∃ k:Nat,N=k:=⟨N.toNat,by omega⟩
  obtain⟨m,rfl⟩:∃ m:Nat,M=m:=⟨M.toNat,by omega⟩
  have hk:k < 4:=by omega
  have hm:m≤sz:=by omega
  have b0:rAnd (asB (.ok (.bl (decide (0≤(k:Int))&&decide ((k:Int) < 4))))) (asB (rCh dLe dLe (.int 0) (.int (m:Int)) (.ok (.int (sz:Int)))))=.ok true:=by
   rw[dr,decide_eq_true (show 0≤(k:Int) by omega),decide_eq_true (show (k:Int) < 4 by omega),decide_eq_true (show 0≤(m:Int) by omega),decide_eq_true (show (m:Int)≤sz by omega)];rfl
  have lp:=fR (f:=fun s x=>bP (pf 39) (.int (k:Int)) s x) (fun i:Nat=>D.int (i:Int)) (fun i=>rowsT .int (qi g sz k i) (2^(sz - i)) (2^(sz - i))) m (fun i hi=>by
   have e:sz - i=sz - i - 1+1:=by omega
   unfold bP
   rw[e,fU _ (by omega) hk (by decide),show sz - (i+1)=sz - i - 1 by omega]
   rfl)
  have lp':lFor (fun s x=>bP (pf 39) (.int (k:Int)) s x) ((List.range m).map fun i:Nat=>D.int (i:Int)) (rowsT .int g (2^sz) (2^sz))=_:=lp
  have y:pf 39 F.ab [.int 2,picD sz t,.int (k:Int),.int (m:Int)]=_:=od (m:=38) (o2 _ _ _ _) (q.cut hk hm (by decide))
  refine⟨rowsT .int (qi g sz k m) (2^(sz - m)) (2^(sz - m)),?_,?_⟩
  ·unfold bC rIf
   rw[b0,R.bind_ok,if_pos rfl,R.bind_ok,fQ (by omega),az,lp']
  ·unfold bD rIf
   rw[y,R.bind_ok,b0,R.bind_ok,if_pos rfl,j3 _ (by omega) (by decide),R.bind_ok,fS (pc_T (by omega) (se hk q.wo m hm)).g60]
   rfl
 ·have b0:rAnd (asB (.ok (.bl (decide (0≤N)&&decide (N < 4))))) (asB (rCh dLe dLe (.int 0) (.int M) (.ok (.int (sz:Int)))))=.ok false:=by
   rw[dr,aW,aW,kO]
   congr 1
   rw[Bool.eq_false_iff]
   simp only[ne_eq,Bool.and_eq_true,decide_eq_true_eq]
   omega
  have y:pf 39 F.ab [.int 2,picD sz t,.int N,.int M]=_:=oe (m:=38) (o2 _ _ _ _) (q.p.cut_no h (by decide)) (by decide) (word2 (m:=38) (by decide))
  refine⟨rowsT .int g (2^sz) (2^sz),?_,?_⟩
  ·unfold bC rIf
   rw[b0,R.bind_ok,if_neg (by decide),R.bind_ok]
   rfl
  ·unfold bD rIf
   rw[y,R.bind_ok,b0,R.bind_ok,if_neg (by decide),R.bind_ok,sj]
   rfl
theorem minmax4 (a b c d:Int):decide (minI a [b,c,d]=maxI a [b,c,d])=decide (b=a∧c=a∧d=a):=by
 obtain⟨_,h1⟩:=j4 [b,c,d] a
 obtain⟨_,h2⟩:=j5 [b,c,d] a
 have m0:=h1 a (by simp)
 have m1:=h1 b (by simp)
 have m2:=h1 c (by simp)
 have m3:=h1 d (by simp)
 have n0:=h2 a (by simp)
 have n1:=h2 b (by simp)
 have n2:=h2 c (by simp)
 have n3:=h2 d (by simp)
 by_cases h:b=a∧c=a∧d=a
 ·obtain⟨rfl,rfl,rfl⟩:=h
  have e1:minI d [d,d,d]=d:=by simp[minI]
  have e2:maxI d [d,d,d]=d:=by simp[maxI]
  rw[e1,e2]
  simp
 ·rw[decide_eq_false h,decide_eq_false]
  intro e
  omega
theorem pB (q:Sh sz g t)(ns:List Int):pf 39 F.ah [scr ns,picD sz t,rowsT .int g (2^sz) (2^sz)]=.ok (.bl true):=by
 have h3:=q.p.h3
 have w1:=ui h3 g
 have w2:=si h3 g
 have A:∃ due,rIf (asB (dLt (.int (sz:Int)) (.int 3))) (pf 38 F.an [rowsT .int (dbl g) (2^(sz+1)) (2^(sz+1))]) (.ok (.str "unlike"))=.ok due∧pf 38 F.ab [.int 3,picD sz t,.non,.non]=.ok due∧dNf due due=.ok (.bl false):=by
  unfold rIf
  by_cases h:sz < 3
  ·rw[kM,decide_eq_true (show (sz:Int) < 3 by omega),aW,R.bind_ok,if_pos rfl,j3 _ (by omega) (by decide)]
   refine⟨_,rfl,od (m:=37) (o3 _ _ _ _) (q.grown h (by decide)),fS (Pc.g60 ?_)⟩
   rw[j9]
   exact⟨by omega,by have:=i6 sz g;omega,jX sz g q.wo⟩
  ·have:sz=3:=by omega
   subst this
   exact⟨_,rfl,oe (m:=37) (o3 _ _ _ _) (q.p.grown_no (by decide)) (by decide) (word4 (m:=37) (by decide)),sj _⟩
 obtain⟨due,a1,a2,a3⟩:=A
 have pk3:=cZ (n:=38) (by decide) ns 5202 (m:=3) (by decide)
 have lo:=gT (ns:=ns) (k:=5202) (m:=3) (by decide)
 have hi:=gU (ns:=ns) (k:=5202) (m:=3) (by decide)
 have pk3':pf 38 F.ac [scr ns,.int 5202,.int 3]=.ok (.int (pk ns 5202 3)):=pk3
 obtain⟨p,hp⟩:∃ p:Nat,pk ns 5202 3=(p:Int):=⟨(pk ns 5202 3).toNat,by omega⟩
 rw[hp]at pk3' lo hi
 have lp:∀ k:Nat,k < 4→∃ s t,s≤3∧Pc s t∧(((dMul (.int 400) (.int (k:Int))).bind fun x10=>dAdd (.int 6000) x10).bind fun x11=>((pf 38 F.ac [scr ns,(.int 5202),(.int 3)]).bind fun x12=>dAdd (.int 1) x12).bind fun x13=>pf 38 F.ae [scr ns,x11,x13])=.ok (picD s t):=fun k hk=>by
  obtain⟨s,t,hs,pc,e⟩:=kQ ns (6000+400*k) (1+p) 38 (by omega) (by decide)
  refine⟨s,t,by omega,pc,?_⟩
  rw[b9 (.inr (by decide)),R.bind_ok,ba,R.bind_ok,pk3',R.bind_ok,ba,R.bind_ok]
  rw[show (6000:Int)+400*(k:Int)=((6000+400*k:Nat):Int) by omega,show (1:Int)+(p:Int)=((1+p:Nat):Int) by omega]
  exact e
 obtain⟨s0,t0,_,p0,l0⟩:=lp 0 (by decide)
 obtain⟨s1,t1,_,p1,l1⟩:=lp 1 (by decide)
 obtain⟨s2,t2,_,p2,l2⟩:=lp 2 (by decide)
 obtain⟨s3,t3,_,p3,l3⟩:=lp 3 (by decide)
 have c4:cMap (fun wE=>((dMul (.int 400) wE).bind fun x10=>dAdd (.int 6000) x10).bind fun x11=>((pf 38 F.ac [scr ns,(.int 5202),(.int 3)]).bind fun x12=>dAdd (.int 1) x12).bind fun x13=>pf 38 F.ae [scr ns,x11,x13]) [.int 0,.int 1,.int 2,.int 3]=_:=cMap4 l0 l1 l2 l3
 have cs:cMap (fun wJ=>dIx wJ (.int 0)) [picD s0 t0,picD s1 t1,picD s2 t2,picD s3 t3]=_:=cMap4 (pic0 s0 t0) (pic0 s1 t1) (pic0 s2 t2) (pic0 s3 t3)
 have mn:dMinL [.lst [.int (s0:Int),.int (s1:Int),.int (s2:Int),.int (s3:Int)]]=_:=o8 (s0:Int) [(s1:Int),(s2:Int),(s3:Int)]
 have mx:dMaxL [.lst [.int (s0:Int),.int (s1:Int),.int (s2:Int),.int (s3:Int)]]=_:=o9 (s0:Int) [(s1:Int),(s2:Int),(s3:Int)]
 have mm:=minmax4 (s0:Int) (s1:Int) (s2:Int) (s3:Int)
 have B:∃ due,rIf (asB (.ok (.bl (decide ((s1:Int)=s0∧(s2:Int)=s0∧(s3:Int)=s0)&&decide ((s0:Int) < 3))))) ((((sq (.lst [picD s0 t0,picD s1 t1,picD s2 t2,picD s3 t3])).bind fun xs5=>cMap (fun xi=>pf 38 F.ao [xi]) xs5).bind fun x17=>pf 38 F.al [x17]).bind fun x18=>pf 38 F.an [x18]) (.ok (.str "unlike"))=.ok due∧pf 38 F.ab [.int 4,.lst [picD s0 t0,picD s1 t1,picD s2 t2,picD s3 t3],.non,.non]=.ok due∧dEq due due=.ok (.bl true):=by
  unfold rIf
  by_cases h:(s1=s0∧s2=s0∧s3=s0)∧s0 < 3
  ·obtain⟨⟨rfl,rfl,rfl⟩,hs⟩:=h
   have cr:cMap (fun xi=>pf 38 F.ao [xi]) [picD s3 t0,picD s3 t1,picD s3 t2,picD s3 t3]=_:=cMap4 (p0.lrows (by decide)) (p1.lrows (by decide)) (p2.lrows (by decide)) (p3.lrows (by decide))
   rw[decide_eq_true (show (s3:Int)=s3∧(s3:Int)=s3∧(s3:Int)=s3 from ⟨rfl,rfl,rfl⟩),decide_eq_true (show (s3:Int) < 3 by omega),Bool.and_self,aW,R.bind_ok,if_pos rfl,dW,R.bind_ok,cr,R.bind_ok,sg p0.h3 _ _ _ _ (by decide),R.bind_ok,j3 _ (by omega) (by decide)]
   exact⟨_,rfl,od (m:=37) (o4 _ _ _ _) (sd p0.sh p1.sh p2.sh p3.sh hs (by decide)),rT (pc_T (by omega) (Wo.jf p0.sh.wo p1.sh.wo p2.sh.wo p3.sh.wo)).g60⟩
  ·have e:(decide ((s1:Int)=s0∧(s2:Int)=s0∧(s3:Int)=s0)&&decide ((s0:Int) < 3))=false:=by
    rw[Bool.eq_false_iff]
    simp only[ne_eq,Bool.and_eq_true,decide_eq_true_eq]
    omega
   rw[e,aW,R.bind_ok,if_neg (by decide)]
   refine⟨_,rfl,oe (m:=37) (o4 _ _ _ _) (k:=4) ?_ (by decide) (word4 (m:=37) (by decide)),vq _⟩
   rw[r9 p0 p1 p2 p3 (n:=36) (by decide),if_pos (by omega)]
 obtain⟨due',b1,b2,b3⟩:=B
 rw[dW]at b1
 rw[d0,aR,pic0,az,w1,az,w2,az,a2,R.bind_ok,a1,R.bind_ok,a3,aW,az,if_neg (by decide),dX,rng4,R.bind_ok,c4,az,dW,R.bind_ok,cs,az,mn,R.bind_ok,mx,R.bind_ok,dR,mm,r8,R.bind_ok,kM,nM,az,b1,az,b2,R.bind_ok,b3]
 rfl
def l11 (t:Nat→List D→R D)(wn:D):L Unit :=
 lB (t F.ae [wn,(.int 0),(.int 3)]) fun wl =>
 lB (t F.ao [wl]) fun wm =>
 lB (dIx wl (.int 0)) fun wq =>
 lB ((((t F.ac [wn,(.int 4999),(.int 2)]).bind fun x=>dSub wq x).bind fun x1=>dMax2 [(.int 0),x1]).bind fun x2=>t F.ae [wn,(.int 5000),x2]) fun wu =>
 lB ((t F.ac [wn,(.int 5200),(.int 6)]).bind fun x3=>dSub x3 (.int 1)) fun wr =>
 lB (rCh dLe dLt (.int 0) wr (.ok (.int 4))) fun ww =>
 lS (bA t wm wq wu wr ww) fun wF =>
 lS (lB (σ:=Unit) (asB (((rng1 [(.int 2)]).bind fun xs1=>cMap (fun wI=>t F.ab [wI,wl,wr,wu]) xs1).bind fun x12=>dNf x12 wF)) fun b2=>if b2=true then .rt (.bl false) else .nx ()) fun _ =>
 lS (bB t wl wm wq) fun _ =>
 lB ((t F.ac [wn,(.int 5201),(.int 6)]).bind fun x15=>dSub x15 (.int 1)) fun wB =>
 lS (bC t wm wq wr ww wB) fun wT =>
 lS (bD t wl wq wr ww wB wT) fun _ =>
 lS (lB (σ:=Unit) (rNot (asB (t F.ah [wn,wl,wm]))) fun b6=>if b6=true then .rt (.bl false) else .nx ()) fun _ =>
 lB (t F.ag [wn,(.int 8000),wl]) fun wK =>
 lS (lB (σ:=Unit) (asB (t F.au [wK])) fun b7=>if b7=true then .rt (.bl true) else .nx ()) fun _ =>
 lB ((t F.ab [(.int 0),wK,(.int 9),.non]).bind fun x20=>(t F.ab [(.int 1),wK,(.int 9),wu]).bind fun x21=>(t F.ab [(.int 1),wl,(.int 9),wK]).bind fun x22=>(t F.ab [(.int 2),wK,(.int 9),(.int 9)]).bind fun x23=>.ok [x20,x21,x22,x23]) fun xg=>lB (((t F.ab [(.int 3),wK,.non,.non]).bind fun x24=>(t F.ab [(.int 4),(.lst [wl,wK,wl,wl]),.non,.non]).bind fun x25=>.ok (.lst [x24,x25])).bind fun x26=>oExt xg x26) fun wZ =>
 lB ((dMul (.lst [(.str "no picture")]) (.int 6)).bind fun x27=>dEq (.lst wZ) x27) .rt
theorem vt (t:Nat→List D→R D)(s:D):eO t s=l11 t s:=rfl
theorem jF (ns:List Int):pf 40 F.aH [.lst (ns.map .int)]=.ok (.bl true):=by
 obtain⟨sz,t,_,p,hp⟩:=kQ ns 0 3 39 (by decide) (by decide)
 have hp':pf 39 F.ae [scr ns,.int 0,.int 3]=.ok (picD sz t):=hp
 have q:=p.sh
 generalize t.at sz=g at *
 have lr:=q.lrows (n:=39) (by decide)
 have pa:=cZ (n:=39) (by decide) ns 4999 (m:=2) (by decide)
 have pa':pf 39 F.ac [scr ns,.int 4999,.int 2]=.ok (.int (pk ns 4999 2)):=pa
 have pa0:=gT (ns:=ns) (k:=4999) (m:=2) (by decide)
 have pa1:=gU (ns:=ns) (k:=4999) (m:=2) (by decide)
 have pb:pf 39 F.ac [scr ns,.int 5200,.int 6]=.ok (.int (pk ns 5200 6)):=cZ (n:=39) (by decide) ns 5200 (m:=6) (by decide)
 have pc:pf 39 F.ac [scr ns,.int 5201,.int 6]=.ok (.int (pk ns 5201 6)):=cZ (n:=39) (by decide) ns 5201 (m:=6) (by decide)
 obtain⟨a,ha⟩:∃ a:Nat,pk ns 4999 2=(a:Int):=⟨(pk ns 4999 2).toNat,by omega⟩
 rw[ha]at pa' pa0 pa1
 have h3:=q.p.h3
 obtain⟨s',u,_,pu,hu⟩:=kQ ns 5000 (sz - a) 39 (by omega) (by decide)
 have mx:dMax2 [.int 0,.int ((sz:Int) - (a:Int))]=.ok (.int ((sz - a:Nat):Int)):=by
  show R.ok (D.int (if (sz:Int) - (a:Int) > 0 then (sz:Int) - (a:Int) else 0))=_
  congr 2
  split<;>omega
 have hu':pf 39 F.ae [scr ns,.int 5000,.int ((sz - a:Nat):Int)]=.ok (picD s' u):=hu
 generalize pk ns 5200 6=n0 at *
 generalize pk ns 5201 6=m0 at *
 obtain⟨due,y1,y2,y3⟩:=wa q pu.sh (n0 - 1)
 obtain⟨some2,y4,y5⟩:=wc q (n0 - 1) (m0 - 1)
 have y6:=wb q
 have y7:=pB q ns
 have r2:rng1 [.int 2]=.ok [.int 0,.int 1]:=rfl
 obtain⟨bad,tb,eb⟩:=pv (w:=5) (n:=4) (by decide) (by decide) (by decide) (by decide) p.th (m:=39) (by decide) ns 8000
 have eb':pf 39 F.ag [scr ns,.int 8000,picD sz t]=.ok bad:=eb
 have iq:=j8 (w:=5) (by decide) (n:=4) tb (m:=39) (by decide) (by decide)
 rw[show D.lst (ns.map .int)=scr ns from rfl,mJ,vt]
 unfold l11
 rw[hp',az,lr,az,pic0,az,pa',R.bind_ok,bv,R.bind_ok,mx,R.bind_ok,hu',az,pb,R.bind_ok,bv,az,lR,az,y1,dX,r2,R.bind_ok,y2,R.bind_ok,fS y3,aW,az,if_neg (by decide),dX,y6,dX,pc,R.bind_ok,bv,az,y4,dX,y5,dX,y7,aW,hR,az,if_neg (by decide),dX,eb',az,iq,aW,az]
 cases c4:sizedOk (inTo 9) 4 bad with
 | true=>rfl
 | false =>
  have cb:∀ m,30≤m→pf m F.aa [bad]=.err 1:=fun m hm=>by
   have h1:=j8 (w:=5) (by decide) (n:=5) (rW (Nat.le_refl 5) tb (show 5≤6 by decide)) (m:=39) (by decide) (by decide)
   rw[iq,c4]at h1
   exact px (n:=5) (by decide) tb (by omega) (D.bl.inj (R.ok.inj h1)).symm
  have z0:pf 39 F.ab [.int 0,bad,.int 9,.non]=_:=oe (m:=38) (o0 _ _ _ _) (by rw[dc,bp,cb 37 (by decide)];rfl) (by decide) (word1 (m:=38) (by decide))
  have z1:pf 39 F.ab [.int 1,bad,.int 9,picD s' u]=_:=oe (m:=38) (o1 _ _ _ _) (by rw[a9,aJ,cb 37 (by decide)];rfl) (by decide) (word1 (m:=38) (by decide))
  have z2:pf 39 F.ab [.int 1,picD sz t,.int 9,bad]=_:=oe (m:=38) (o1 _ _ _ _) (by rw[a9,aJ,p.check (by decide),cb 37 (by decide)];rfl) (by decide) (word1 (m:=38) (by decide))
  have z3:pf 39 F.ab [.int 2,bad,.int 9,.int 9]=_:=oe (m:=38) (o2 _ _ _ _) (by rw[e7,cA,cb 37 (by decide)];rfl) (by decide) (word1 (m:=38) (by decide))
  have z4:pf 39 F.ab [.int 3,bad,.non,.non]=_:=oe (m:=38) (o3 _ _ _ _) (by rw[iR,eM,cb 37 (by decide)];rfl) (by decide) (word1 (m:=38) (by decide))
  have z5:pf 39 F.ab [.int 4,.lst [picD sz t,bad,picD sz t,picD sz t],.non,.non]=_:=oe (m:=38) (o4 _ _ _ _) (uf (n:=36) (p.check (by decide)) (cb 36 (by decide))) (by decide) (word1 (m:=38) (by decide))
  rw[if_neg (by decide),dX,z0,R.bind_ok,z1,R.bind_ok,z2,R.bind_ok,z3,R.bind_ok,az,z4,R.bind_ok,z5,R.bind_ok,R.bind_ok]
  rfl
end
end Lw
end
end
noncomputable section
set_option maxHeartbeats 4000000
namespace Lw
open PySem PySem.Spec PyProof.Rows L2 FF
def cname:Nat→Str
 | 0 => "FourError"
 | 1 => "NoPicture"
 | 2 => "NoSpot"
 | 3 => "BadBox"
 | 4 => "Unlike"
 | 5 => "NoRule"
 | 6 => "NoBlocks"
 | 7 => "NoChange"
 | 8 => "NoNumber"
 | 9 => "NothingDone"
 | 10 => "NoText"
 | 21 => "is_worth"
 | _ => "?"
def Cof (K:PySem.W.Frag)(i:Nat):Addr:=match PySem.W.nsIn K mainGlobals (cname i) with
 | some (some (.ref a))=>a
 | _=>0
theorem cof {K:PySem.W.Frag}{i:Nat}{x:Str}{a:Addr}(h:Ng K x (some (.ref a)))(hx:cname i=x:=by rfl):Cof K i=a:=by unfold Cof;rw[hx,h]
structure Fds (K:PySem.W.Frag)(mg:Str→Option Value):Prop where
 F20:Fd K mg "is_whole" ["thing"] e8
 F21:Fd K mg "is_worth" ["thing"] e9
 F22:Fd K mg "is_size" ["thing"] gA
 F23:Fd K mg "is_tree" ["size","thing","is_end"] gC
 F24:Fd K mg "is_sized_tree" ["thing","is_end"] cj
 F25:Fd K mg "put_together" ["four"] cL
 F26:Fd K mg "lean_tree" ["tree"] en
 F105:Fd K mg "quarters_in" ["tree"] de
 F27:Fd K mg "is_picture" ["thing"] dJ
 F28:Fd K mg "check_picture" ["thing"] ck
 F29:Fd K mg "lean" ["picture"] mO
 F106:Fd K mg "is_quarter" ["number"] dL
 F107:Fd K mg "check_quarter" ["picture","number"] cn
 F108:Fd K mg "quarter_of" ["picture","number"] dM
 F109:Fd K mg "check_four" ["four"] dN
 F110:Fd K mg "of_quarters" ["four"] df
 F111:Fd K mg "grown" ["picture"] kE
 F112:Fd K mg "with_quarter" ["picture","number","other"] cM
 F113:Fd K mg "cut_out" ["picture","number","times"] gG
 F30:Fd K mg "_law_cell" ["_law_script","_law_k"] iU
 F31:Fd K mg "_law_pick" ["_law_script","_law_k","_law_many"] iV
 F32:Fd K mg "_law_tree" ["_law_script","_law_at","_law_size"] iW
 F33:Fd K mg "_law_picture" ["_law_script","_law_at","_law_most"] ez
 F54:Fd K mg "_law_rows_of" ["_law_size","_law_tree_here"] eB
 F55:Fd K mg "_law_rows" ["_law_picture_here"] iX
 F56:Fd K mg "_law_least" ["_law_rows_here"] gH
 F57:Fd K mg "_law_of" ["_law_rows_here"] mP
 F34:Fd K mg "_law_places" ["_law_thing"] fe
 F35:Fd K mg "_law_put" ["_law_thing","_law_place","_law_new"] kF
 F36:Fd K mg "_law_there" ["_law_thing","_law_place"] gI
 F37:Fd K mg "_law_spoilt_thing" ["_law_script","_law_at","_law_thing"] bS
 F38:Fd K mg "_law_is_picture" ["_law_thing"] cN
 F39:Fd K mg "_law_is_tree" ["_law_thing","_law_size"] eE
 F40:Fd K mg "_law_word" ["_law_kept"] iY
 F114:Fd K mg "_law_do" ["_law_what","_law_picture_here","_law_one","_law_other"] mQ
 F115:Fd K mg "_law_part" ["_law_rows_here","_law_number"] iZ
 F116:Fd K mg "_law_together" ["_law_some"] dP
 F117:Fd K mg "_law_are_larger_right" ["_law_script","_law_picture_here","_law_rows_here"] bi
 F118:Fd K mg "law" ["_law_script"] bb
theorem tab {P:Program}{w:World}{K:PySem.W.Frag}{mg:Str→Option Value}{base:Heap}{C:Nat→Addr}(T:Txt K mg C w.params)(S:Fds K mg):∀ n,Tab P w K mg base C n (pf n)
 | 0=>⟨g0 S.F20,g0 S.F21,g0 S.F22,g0 S.F23,g0 S.F24,g0 S.F25,g0 S.F26,g0 S.F105,g0 S.F27,g0 S.F28,g0 S.F29,g0 S.F106,g0 S.F107,g0 S.F108,g0 S.F109,g0 S.F110,g0 S.F111,g0 S.F112,g0 S.F113,g0 S.F30,g0 S.F31,g0 S.F32,g0 S.F33,g0 S.F54,g0 S.F55,g0 S.F56,g0 S.F57,g0 S.F34,g0 S.F35,g0 S.F36,g0 S.F37,g0 S.F38,g0 S.F39,g0 S.F40,g0 S.F114,g0 S.F115,g0 S.F116,g0 S.F117,g0 S.F118,
  fun i hi=>by
  simp only[fvL,List.mem_cons,List.not_mem_nil,or_false]at hi
  rcases hi with rfl
  ·exact vZ S.F21 T.f_is_worth⟩
 | n+1=>by
  have G:=tab T S n (P:=P) (w:=w) (base:=base)
  exact⟨g1 S.F20 (lM T G),g1 S.F21 (gS T G),g1 S.F22 (mR T G),g1 S.F23 (mS T G),g1 S.F24 (gL T G),g1 S.F25 (g8 T G),g1 S.F26 (kH T G),g1 S.F105 (i0 T G),g1 S.F27 (jA T G),g1 S.F28 (gM T G),g1 S.F29 (tN T G),g1 S.F106 (jB T G),g1 S.F107 (gN T G),g1 S.F108 (jC T G),g1 S.F109 (jD T G),g1 S.F110 (i4 T G),g1 S.F111 (rn T G),g1 S.F112 (g9 T G),g1 S.F113 (mT T G),g1 S.F30 (oS T G),g1 S.F31 (oU T G),g1 S.F32 (oV T G),g1 S.F33 (kI T G),g1 S.F54 (kJ T G),g1 S.F55 (oW T G),g1 S.F56 (mU T G),g1 S.F57 (tO T G),g1 S.F34 (lN T G),g1 S.F35 (rq T G),g1 S.F36 (mV T G),g1 S.F37 (fL T G),g1 S.F38 (hG T G),g1 S.F39 (kK T G),g1 S.F40 (oX T G),g1 S.F114 (tQ T G),g1 S.F115 (oY T G),g1 S.F116 (jE T G),g1 S.F117 (d5 T G),g1 S.F118 (i5 T G),
  fun i hi=>by
  simp only[fvL,List.mem_cons,List.not_mem_nil,or_false]at hi
  rcases hi with rfl
  ·exact v3 S.F21 T.f_is_worth (gS T G) (fun ds h=>vW h)⟩
theorem vw {l:PySem.W.OpenLaw}{w:World}{K:PySem.W.Frag}{h:Heap}{mg:Str→Option Value}{fa f1 f38 C0 C1 C2 C3 C4 C5 C6 C7 C8 C9 C10:Addr}(X:K.In h)(G:h.Ns mainGlobals mg)(hfa:mg "law"=some (.ref fa))(S:Fds K mg)
  {od38 an38:Option Addr} {sl38:Array (Option Value)} {oc38 kV38 dc38 pm38 cd38 ct38:Value} {tk_GREATEST_WORTH tk_LARGEST_SIZE:Tok} {cl_NoPicture cl_NoSpot cl_BadBox cl_Unlike cl_NoRule cl_NoBlocks cl_NoChange cl_NoNumber cl_NothingDone cl_NoText:ClassData}
  (z0:Ng K "is_worth" (some (.ref f1)))
  (z1:Ng K "law" (some (.ref f38)))
  (z2:K.lookup f38=some ⟨oc38,od38,.func (PySem.W.fnOf "law" "law" (defArgs bb) (defBody bb) (defScope bb) .none kV38 dc38 pm38 an38 cd38 ct38),sl38⟩)
  (z3:PySem.W.codeIn K cd38 "law"=true)
  (z4:PySem.W.keepIn K (.ref f38)=true)
  (z5:Ng K "ValueError" none)
  (z6:Ng K "all" none)
  (z7:Ng K "any" none)
  (z8:Ng K "bool" none)
  (z9:Ng K "int" none)
  (z10:Ng K "isinstance" none)
  (z11:Ng K "len" none)
  (z12:Ng K "list" none)
  (z13:Ng K "max" none)
  (z14:Ng K "min" none)
  (z15:Ng K "range" none)
  (z16:Ng K "set" none)
  (z17:Ng K "tuple" none)
  (z18:Ng K "zip" none)
  (z19:Ng K "GREATEST_WORTH" (some (.int 9 tk_GREATEST_WORTH)))
  (z20:Ng K "LARGEST_SIZE" (some (.int 3 tk_LARGEST_SIZE)))
  (z21:Ng K "FourError" (some (.ref C0)))
  (z22:Ng K "NoPicture" (some (.ref C1)))
  (z23:Ng K "NoSpot" (some (.ref C2)))
  (z24:Ng K "BadBox" (some (.ref C3)))
  (z25:Ng K "Unlike" (some (.ref C4)))
  (z26:Ng K "NoRule" (some (.ref C5)))
  (z27:Ng K "NoBlocks" (some (.ref C6)))
  (z28:Ng K "NoChange" (some (.ref C7)))
  (z29:Ng K "NoNumber" (some (.ref C8)))
  (z30:Ng K "NothingDone" (some (.ref C9)))
  (z31:Ng K "NoText" (some (.ref C10)))
  (z32:PySem.W.excIn K C1 bmVE "ValueError.__new__"=true)
  (z33:PySem.W.excIn K C2 bmVE "ValueError.__new__"=true)
  (z34:PySem.W.excIn K C4 bmVE "ValueError.__new__"=true)
  (z35:PySem.W.excIn K C0 bmVE "ValueError.__new__"=true)
  (z36:PySem.W.clsIn K C1=some cl_NoPicture)
  (z37:PySem.W.typeIn K (.ref C1)=some (.type "type"))
  (z38:PySem.W.clsIn K C2=some cl_NoSpot)
  (z39:PySem.W.typeIn K (.ref C2)=some (.type "type"))
  (z40:PySem.W.clsIn K C3=some cl_BadBox)
  (z41:PySem.W.typeIn K (.ref C3)=some (.type "type"))
  (z42:PySem.W.clsIn K C4=some cl_Unlike)
  (z43:PySem.W.typeIn K (.ref C4)=some (.type "type"))
  (z44:PySem.W.clsIn K C5=some cl_NoRule)
  (z45:PySem.W.typeIn K (.ref C5)=some (.type "type"))
  (z46:PySem.W.clsIn K C6=some cl_NoBlocks)
  (z47:PySem.W.typeIn K (.ref C6)=some (.type "type"))
  (z48:PySem.W.clsIn K C7=some cl_NoChange)
  (z49:PySem.W.typeIn K (.ref C7)=some (.type "type"))
  (z50:PySem.W.clsIn K C8=some cl_NoNumber)
  (z51:PySem.W.typeIn K (.ref C8)=some (.type "type"))
  (z52:PySem.W.clsIn K C9=some cl_NothingDone)
  (z53:PySem.W.typeIn K (.ref C9)=some (.type "type"))
  (z54:PySem.W.clsIn K C10=some cl_NoText)
  (z55:PySem.W.typeIn K (.ref C10)=some (.type "type"))
  (z56:PySem.W.subIn K (.ref C1) (.ref C1)=some true)
  (z57:PySem.W.subIn K (.ref C1) (.ref C2)=some false)
  (z58:PySem.W.subIn K (.ref C1) (.ref C3)=some false)
  (z59:PySem.W.subIn K (.ref C1) (.ref C4)=some false)
  (z60:PySem.W.subIn K (.ref C1) (.ref C5)=some false)
  (z61:PySem.W.subIn K (.ref C1) (.ref C6)=some false)
  (z62:PySem.W.subIn K (.ref C1) (.ref C7)=some false)
  (z63:PySem.W.subIn K (.ref C1) (.ref C8)=some false)
  (z64:PySem.W.subIn K (.ref C1) (.ref C9)=some false)
  (z65:PySem.W.subIn K (.ref C1) (.ref C10)=some false)
  (z66:PySem.W.subIn K (.ref C1) (.ref C0)=some true)
  (z67:PySem.W.subIn K (.ref C1) (.type "ValueError")=some true)
  (z68:PySem.W.findIn K (.ref C1) "__getattribute__"=some (some (.builtin "BaseException.__getattribute__")))
  (z69:PySem.W.findIn K (.ref C1) "__getattr__"=some none)
  (z70:PySem.W.findIn K (.ref C1) "__class__"=some (some (.builtin "object.__class__")))
  (z71:PySem.W.subIn K (.ref C1) (.type "BaseException")=some true)
  (z72:PySem.W.subIn K (.ref C1) (.type "object")=some true)
  (z73:PySem.W.subIn K (.ref C2) (.ref C1)=some false)
  (z74:PySem.W.subIn K (.ref C2) (.ref C2)=some true)
  (z75:PySem.W.subIn K (.ref C2) (.ref C3)=some false)
  (z76:PySem.W.subIn K (.ref C2) (.ref C4)=some false)
  (z77:PySem.W.subIn K (.ref C2) (.ref C5)=some false)
  (z78:PySem.W.subIn K (.ref C2) (.ref C6)=some false)
  (z79:PySem.W.subIn K (.ref C2) (.ref C7)=some false)
  (z80:PySem.W.subIn K (.ref C2) (.ref C8)=some false)
  (z81:PySem.W.subIn K (.ref C2) (.ref C9)=some false)
  (z82:PySem.W.subIn K (.ref C2) (.ref C10)=some false)
  (z83:PySem.W.subIn K (.ref C2) (.ref C0)=some true)
  (z84:PySem.W.subIn K (.ref C2) (.type "ValueError")=some true)
  (z85:PySem.W.findIn K (.ref C2) "__getattribute__"=some (some (.builtin "BaseException.__getattribute__")))
  (z86:PySem.W.findIn K (.ref C2) "__getattr__"=some none)
  (z87:PySem.W.findIn K (.ref C2) "__class__"=some (some (.builtin "object.__class__")))
  (z88:PySem.W.subIn K (.ref C2) (.type "BaseException")=some true)
  (z89:PySem.W.subIn K (.ref C2) (.type "object")=some true)
  (z90:PySem.W.subIn K (.ref C4) (.ref C1)=some false)
  (z91:PySem.W.subIn K (.ref C4) (.ref C2)=some false)
  (z92:PySem.W.subIn K (.ref C4) (.ref C3)=some false)
  (z93:PySem.W.subIn K (.ref C4) (.ref C4)=some true)
  (z94:PySem.W.subIn K (.ref C4) (.ref C5)=some false)
  (z95:PySem.W.subIn K (.ref C4) (.ref C6)=some false)
  (z96:PySem.W.subIn K (.ref C4) (.ref C7)=some false)
  (z97:PySem.W.subIn K (.ref C4) (.ref C8)=some false)
  (z98:PySem.W.subIn K (.ref C4) (.ref C9)=some false)
  (z99:PySem.W.subIn K (.ref C4) (.ref C10)=some false)
  (z100:PySem.W.subIn K (.ref C4) (.ref C0)=some true)
  (z101:PySem.W.subIn K (.ref C4) (.type "ValueError")=some true)
  (z102:PySem.W.findIn K (.ref C4) "__getattribute__"=some (some (.builtin "BaseException.__getattribute__")))
  (z103:PySem.W.findIn K (.ref C4) "__getattr__"=some none)
  (z104:PySem.W.findIn K (.ref C4) "__class__"=some (some (.builtin "object.__class__")))
  (z105:PySem.W.subIn K (.ref C4) (.type "BaseException")=some true)
  (z106:PySem.W.subIn K (.ref C4) (.type "object")=some true) :
  ∃ fd:FuncData,(∀ (s:Shared) (v:Value),BindsTo s fd ⟨[v],[]⟩ [("_law_script",v)])∧∀ base:Heap,K.In base→base.Ns mainGlobals mg→FnOk l.prog w K mg base (CXE l.prog w) 40 fa fd ["_law_script"] (spF K (Cof K) 1 (pf 40 Lw.F.aH)):=by
 have e:=hfa.symm.trans (PySem.W.mg_of X G z1)
 cases e
 have q_FourError:Cof K 0=C0:=cof z21
 have q_NoPicture:Cof K 1=C1:=cof z22
 have q_NoSpot:Cof K 2=C2:=cof z23
 have q_BadBox:Cof K 3=C3:=cof z24
 have q_Unlike:Cof K 4=C4:=cof z25
 have q_NoRule:Cof K 5=C5:=cof z26
 have q_NoBlocks:Cof K 6=C6:=cof z27
 have q_NoChange:Cof K 7=C7:=cof z28
 have q_NoNumber:Cof K 8=C8:=cof z29
 have q_NothingDone:Cof K 9=C9:=cof z30
 have q_NoText:Cof K 10=C10:=cof z31
 have xk_NoPicture:ExcK K (Cof K 1):=by rw[q_NoPicture];exact⟨z68,z69,z70,z71,z72,by rw[z36];rfl⟩
 have xk_NoSpot:ExcK K (Cof K 2):=by rw[q_NoSpot];exact⟨z85,z86,z87,z88,z89,by rw[z38];rfl⟩
 have xk_Unlike:ExcK K (Cof K 4):=by rw[q_Unlike];exact⟨z102,z103,z104,z105,z106,by rw[z42];rfl⟩
 have T:Txt K mg (Cof K) w.params:=⟨PySem.W.mg_none_of X G z5,
  PySem.W.mg_none_of X G z6,
  PySem.W.mg_none_of X G z7,
  PySem.W.mg_none_of X G z8,
  PySem.W.mg_none_of X G z9,
  PySem.W.mg_none_of X G z10,
  PySem.W.mg_none_of X G z11,
  PySem.W.mg_none_of X G z12,
  PySem.W.mg_none_of X G z13,
  PySem.W.mg_none_of X G z14,
  PySem.W.mg_none_of X G z15,
  PySem.W.mg_none_of X G z16,
  PySem.W.mg_none_of X G z17,
  PySem.W.mg_none_of X G z18,
  ⟨_,PySem.W.mg_of X G z19⟩,
  ⟨_,PySem.W.mg_of X G z20⟩,
  (by rw[cof (i:=F.aw) z0];exact PySem.W.mg_of X G z0),
  (by rw[q_FourError];exact PySem.W.mg_of X G z21),
  (by rw[q_NoPicture];exact PySem.W.mg_of X G z22),
  (by rw[q_NoSpot];exact PySem.W.mg_of X G z23),
  (by rw[q_BadBox];exact PySem.W.mg_of X G z24),
  (by rw[q_Unlike];exact PySem.W.mg_of X G z25),
  (by rw[q_NoRule];exact PySem.W.mg_of X G z26),
  (by rw[q_NoBlocks];exact PySem.W.mg_of X G z27),
  (by rw[q_NoChange];exact PySem.W.mg_of X G z28),
  (by rw[q_NoNumber];exact PySem.W.mg_of X G z29),
  (by rw[q_NothingDone];exact PySem.W.mg_of X G z30),
  (by rw[q_NoText];exact PySem.W.mg_of X G z31),
  (by rw[q_NoPicture];exact z32),
  (by rw[q_NoSpot];exact z33),
  (by rw[q_Unlike];exact z34),
  (c8 (fun j hj=>by
   simp only[esL,List.mem_cons,List.not_mem_nil,or_false]at hj
   rcases hj with rfl | rfl | rfl
   ·rw[q_NoPicture,q_BadBox];exact aC z40 z41 z58 z56
   ·rw[q_NoSpot,q_BadBox];exact aC z40 z41 z75 z74
   ·rw[q_Unlike,q_BadBox];exact aC z40 z41 z92 z93) (fun j hj=>by
   simp only[esL,List.mem_cons,List.not_mem_nil,or_false]at hj
   rcases hj with rfl | rfl | rfl
   ·exact xk_NoPicture
   ·exact xk_NoSpot
   ·exact xk_Unlike)),
  (c8 (fun j hj=>by
   simp only[esL,List.mem_cons,List.not_mem_nil,or_false]at hj
   rcases hj with rfl | rfl | rfl
   ·rw[q_NoPicture,q_NoBlocks];exact aC z46 z47 z61 z56
   ·rw[q_NoSpot,q_NoBlocks];exact aC z46 z47 z78 z74
   ·rw[q_Unlike,q_NoBlocks];exact aC z46 z47 z95 z93) (fun j hj=>by
   simp only[esL,List.mem_cons,List.not_mem_nil,or_false]at hj
   rcases hj with rfl | rfl | rfl
   ·exact xk_NoPicture
   ·exact xk_NoSpot
   ·exact xk_Unlike)),
  (c8 (fun j hj=>by
   simp only[esL,List.mem_cons,List.not_mem_nil,or_false]at hj
   rcases hj with rfl | rfl | rfl
   ·rw[q_NoPicture,q_NoChange];exact aC z48 z49 z62 z56
   ·rw[q_NoSpot,q_NoChange];exact aC z48 z49 z79 z74
   ·rw[q_Unlike,q_NoChange];exact aC z48 z49 z96 z93) (fun j hj=>by
   simp only[esL,List.mem_cons,List.not_mem_nil,or_false]at hj
   rcases hj with rfl | rfl | rfl
   ·exact xk_NoPicture
   ·exact xk_NoSpot
   ·exact xk_Unlike)),
  (c8 (fun j hj=>by
   simp only[esL,List.mem_cons,List.not_mem_nil,or_false]at hj
   rcases hj with rfl | rfl | rfl
   ·rw[q_NoPicture,q_NoNumber];exact aC z50 z51 z63 z56
   ·rw[q_NoSpot,q_NoNumber];exact aC z50 z51 z80 z74
   ·rw[q_Unlike,q_NoNumber];exact aC z50 z51 z97 z93) (fun j hj=>by
   simp only[esL,List.mem_cons,List.not_mem_nil,or_false]at hj
   rcases hj with rfl | rfl | rfl
   ·exact xk_NoPicture
   ·exact xk_NoSpot
   ·exact xk_Unlike)),
  (c8 (fun j hj=>by
   simp only[esL,List.mem_cons,List.not_mem_nil,or_false]at hj
   rcases hj with rfl | rfl | rfl
   ·rw[q_NoPicture];exact aC z36 z37 z56 z56
   ·rw[q_NoSpot,q_NoPicture];exact aC z36 z37 z73 z74
   ·rw[q_Unlike,q_NoPicture];exact aC z36 z37 z90 z93) (fun j hj=>by
   simp only[esL,List.mem_cons,List.not_mem_nil,or_false]at hj
   rcases hj with rfl | rfl | rfl
   ·exact xk_NoPicture
   ·exact xk_NoSpot
   ·exact xk_Unlike)),
  (c8 (fun j hj=>by
   simp only[esL,List.mem_cons,List.not_mem_nil,or_false]at hj
   rcases hj with rfl | rfl | rfl
   ·rw[q_NoPicture,q_NoRule];exact aC z44 z45 z60 z56
   ·rw[q_NoSpot,q_NoRule];exact aC z44 z45 z77 z74
   ·rw[q_Unlike,q_NoRule];exact aC z44 z45 z94 z93) (fun j hj=>by
   simp only[esL,List.mem_cons,List.not_mem_nil,or_false]at hj
   rcases hj with rfl | rfl | rfl
   ·exact xk_NoPicture
   ·exact xk_NoSpot
   ·exact xk_Unlike)),
  (c8 (fun j hj=>by
   simp only[esL,List.mem_cons,List.not_mem_nil,or_false]at hj
   rcases hj with rfl | rfl | rfl
   ·rw[q_NoPicture,q_NoSpot];exact aC z38 z39 z57 z56
   ·rw[q_NoSpot];exact aC z38 z39 z74 z74
   ·rw[q_Unlike,q_NoSpot];exact aC z38 z39 z91 z93) (fun j hj=>by
   simp only[esL,List.mem_cons,List.not_mem_nil,or_false]at hj
   rcases hj with rfl | rfl | rfl
   ·exact xk_NoPicture
   ·exact xk_NoSpot
   ·exact xk_Unlike)),
  (c8 (fun j hj=>by
   simp only[esL,List.mem_cons,List.not_mem_nil,or_false]at hj
   rcases hj with rfl | rfl | rfl
   ·rw[q_NoPicture,q_NoText];exact aC z54 z55 z65 z56
   ·rw[q_NoSpot,q_NoText];exact aC z54 z55 z82 z74
   ·rw[q_Unlike,q_NoText];exact aC z54 z55 z99 z93) (fun j hj=>by
   simp only[esL,List.mem_cons,List.not_mem_nil,or_false]at hj
   rcases hj with rfl | rfl | rfl
   ·exact xk_NoPicture
   ·exact xk_NoSpot
   ·exact xk_Unlike)),
  (c8 (fun j hj=>by
   simp only[esL,List.mem_cons,List.not_mem_nil,or_false]at hj
   rcases hj with rfl | rfl | rfl
   ·rw[q_NoPicture,q_NothingDone];exact aC z52 z53 z64 z56
   ·rw[q_NoSpot,q_NothingDone];exact aC z52 z53 z81 z74
   ·rw[q_Unlike,q_NothingDone];exact aC z52 z53 z98 z93) (fun j hj=>by
   simp only[esL,List.mem_cons,List.not_mem_nil,or_false]at hj
   rcases hj with rfl | rfl | rfl
   ·exact xk_NoPicture
   ·exact xk_NoSpot
   ·exact xk_Unlike)),
  (c8 (fun j hj=>by
   simp only[esL,List.mem_cons,List.not_mem_nil,or_false]at hj
   rcases hj with rfl | rfl | rfl
   ·rw[q_NoPicture,q_Unlike];exact aC z42 z43 z59 z56
   ·rw[q_NoSpot,q_Unlike];exact aC z42 z43 z76 z74
   ·rw[q_Unlike];exact aC z42 z43 z93 z93) (fun j hj=>by
   simp only[esL,List.mem_cons,List.not_mem_nil,or_false]at hj
   rcases hj with rfl | rfl | rfl
   ·exact xk_NoPicture
   ·exact xk_NoSpot
   ·exact xk_Unlike)),
  (u8 (fun j hj=>by
   simp only[esL,List.mem_cons,List.not_mem_nil,or_false]at hj
   rcases hj with rfl | rfl | rfl
   ·rw[q_NoPicture];exact mF z67
   ·rw[q_NoSpot];exact mF z84
   ·rw[q_Unlike];exact mF z101) (fun j hj=>by
   simp only[esL,List.mem_cons,List.not_mem_nil,or_false]at hj
   rcases hj with rfl | rfl | rfl
   ·exact xk_NoPicture
   ·exact xk_NoSpot
   ·exact xk_Unlike)),
  (qJ (by rw[q_FourError];exact z35) (fun j hj=>by
   simp only[esL,List.mem_cons,List.not_mem_nil,or_false]at hj
   rcases hj with rfl | rfl | rfl
   ·rw[q_NoPicture,q_FourError];exact z66
   ·rw[q_NoSpot,q_FourError];exact z83
   ·rw[q_Unlike,q_FourError];exact z100))⟩
 have FL:=mq (st:=bb) z2 z3 z4
 exact⟨PySem.W.fnOf "law" "law" (defArgs bb) (defBody bb) (defScope bb) .none kV38 dc38 pm38 an38 cd38 ct38,fun s v=>.of_eq rfl,fun base _ _=>i5 T (tab T S 39) FL⟩
theorem walk {l:PySem.W.OpenLaw}{q:Program}{loose:List Str}{XP:(Str→Option Value)→Heap→Prop}{YP:World→Heap→Prop}{d:DefRec}{K:Params→PySem.W.Frag}(hn:l.most=some 63)(hdf:d.params.defaults=[])
  (hY:∀ (w:World) (h:Heap),YP w h→(K w.params).In h)
  (F:∀ (w:World) (mg:Str→Option Value) (fa:Addr) (h:Heap),(K w.params).In h→h.Ns mainGlobals mg→mg d.name=some (.ref fa) →
   ∃ fd:FuncData,(∀ (s:Shared) (u:Value),BindsTo s fd ⟨[u],[]⟩ [("_law_script",u)])∧∀ base:Heap,(K w.params).In base→base.Ns mainGlobals mg→FnOk l.prog w (K w.params) mg base (CXE l.prog w) 40 fa fd ["_law_script"] (spF (K w.params) (Cof (K w.params)) 1 (pf 40 Lw.F.aH))) :
  PySem.W.WalkO q loose XP YP l.row.toRowW d [] (fun f vs=>PySem.call f vs) :=
 L2.sF (n:=63) (k:=40) (x := "_law_script") (CX:=fun w=>CXE l.prog w) (sp:=fun w=>spF (K w.params) (Cof (K w.params)) 1 (pf 40 Lw.F.aH)) hn (by decide) hdf ⟨rfl,by decide,by decide⟩ hY F
  (fun w H a ns hl _ hS=>⟨rfl,H,[.lst (ns.map .int)],Same.refl H,by rw[Reps];exact⟨_,_,rfl,by rw[Rep];exact⟨a,_,rfl,hS,nI ns⟩,by rw[Reps]⟩,by rw[jF ns];exact fun H' Z' _ v rv=>by rw[Rep]at rv;exact rv⟩)
  fun w H s e s' z=>by obtain⟨_,_,_,_,_,_,_,_,_,_,_,_,_,z⟩:=z;exact z
end Lw
open PySem PySem.W PyProof.Rows
def PySem.W.Fast.tw8733382221259450161:Nat:=0
def PySem.W.Fast.tw11870144778127397167:Nat:=0
def PySem.W.Fast.tw12401251280221521185:Nat:=0
def PySem.W.Fast.tw4418162042719085106:Nat:=0
def PySem.W.Fast.tw7247019548263521481:Nat:=0
def PySem.W.Fast.tw10496992343410581997:Nat:=0
def PySem.W.Fast.tw12343570922184324668:Nat:=0
def PySem.W.Fast.tw2654563040176883162:Nat:=0
def PySem.W.Fast.tw3958010581528250307:Nat:=0
def PySem.W.Fast.tw6665239331453224166:Nat:=0
def PySem.W.Fast.tw13402433108629829415:Nat:=0
def PySem.W.Fast.tw17118630954040685169:Nat:=0
def PySem.W.Fast.tw13425859627416800262:Nat:=0
def PySem.W.Fast.tw18223068401442322800:Nat:=0
def PySem.W.Fast.tw3444732839197633228:Nat:=0
def PySem.W.Fast.tw7797739928750845202:Nat:=0
def PySem.W.Fast.tw5621492128537505253:Nat:=0
def PySem.W.Fast.tw8421304636361969115:Nat:=0
def PySem.W.Fast.tw17744392347106370666:Nat:=0
def PySem.W.Fast.tw14313459667021942839:Nat:=0
def PySem.W.Fast.tw3692133013247037054:Nat:=0
def PySem.W.Fast.tw13463173092003096674:Nat:=0
def PySem.W.Fast.tw2792018595717948569:Nat:=0
def PySem.W.Fast.tw17891528135756667621:Nat:=0
def PySem.W.Fast.tw252152978378212681:Nat:=0
def PySem.W.Fast.tw4805910029707370369:Nat:=0
def PySem.W.Fast.tw4603686160525942007:Nat:=0
def PySem.W.Fast.tw850190945381911083:Nat:=0
def PySem.W.Fast.tw9115649871779522987:Nat:=0
def PySem.W.Fast.tw4621452621370447160:Nat:=0
def PySem.W.Fast.tw428982694301267795:Nat:=0
def PySem.W.Fast.tw10428136609418567853:Nat:=0
def PySem.W.Fast.tw12383448719010787252:Nat:=0
def PySem.W.Fast.tw16638565488105986309:Nat:=0
def PySem.W.Fast.tw10831709026220915226:Nat:=0
def PySem.W.Fast.tw7605081049337180168:Nat:=0
def PySem.W.Fast.tw824231655867128159:Nat:=0
def PySem.W.Fast.tw8945500697908385267:Nat:=0
def PySem.W.Fast.tw10612846632965790247:Nat:=0
def PySem.W.Fast.tw3612655245682242748:Nat:=0
def PySem.W.Fast.tw4035031978957162157:Nat:=0
def PySem.W.Fast.tw3188786902853313376:Nat:=0
def PySem.W.Fast.tw11332109143344959690:Nat:=0
def PySem.W.Fast.tw7199215021579674376:Nat:=0
def PySem.W.Fast.tw6037405240526451084:Nat:=0
def PySem.W.Fast.tw4759531992569329365:Nat:=0
def PySem.W.Fast.tw14535129127576088417:Nat:=0
def PySem.W.Fast.tw9824170094928896333:Nat:=0
def PySem.W.Fast.tw5635802022820826856:Nat:=0
def PySem.W.Fast.tw7427127304022536622:Nat:=0
set_option maxRecDepth 100000 in
set_option maxHeartbeats 0 in
theorem PySem.Challenge.cw_fourfold_k11_whole_quarters_holds : PySem.Challenge.rw_fourfold_k11_whole_quarters.Holds := by
 w_on;o_law;k_head;(case hw=>w_witness2)
 k_fill
 refine Lw.walk (l:=PySem.Challenge.rw_fourfold_k11_whole_quarters) rfl rfl (fun w h Y=>PySem.W.kIn_of Y) ?F
 case F =>
  intro w mg fa h KX G hmg
  refine' Lw.vw KX G hmg ?S ?z0 ?z1 ?z2 ?z3 ?z4 ?z5 ?z6 ?z7 ?z8 ?z9 ?z10 ?z11 ?z12 ?z13 ?z14 ?z15 ?z16 ?z17 ?z18 ?z19 ?z20 ?z21 ?z22 ?z23 ?z24 ?z25 ?z26 ?z27 ?z28 ?z29 ?z30 ?z31 ?z32 ?z33 ?z34 ?z35 ?z36 ?z37 ?z38 ?z39 ?z40 ?z41 ?z42 ?z43 ?z44 ?z45 ?z46 ?z47 ?z48 ?z49 ?z50 ?z51 ?z52 ?z53 ?z54 ?z55 ?z56 ?z57 ?z58 ?z59 ?z60 ?z61 ?z62 ?z63 ?z64 ?z65 ?z66 ?z67 ?z68 ?z69 ?z70 ?z71 ?z72 ?z73 ?z74 ?z75 ?z76 ?z77 ?z78 ?z79 ?z80 ?z81 ?z82 ?z83 ?z84 ?z85 ?z86 ?z87 ?z88 ?z89 ?z90 ?z91 ?z92 ?z93 ?z94 ?z95 ?z96 ?z97 ?z98 ?z99 ?z100 ?z101 ?z102 ?z103 ?z104 ?z105 ?z106
  case S =>
   constructor
   all_goals
    refine' FF.v4 KX G (fun _ _ _ _ _ _ us hl=>by first | (obtain⟨_,rfl⟩:=FF.ln1 hl;rfl) | (obtain⟨_,_,rfl⟩:=FF.ln2 hl;rfl) | (obtain⟨_,_,_,rfl⟩:=FF.ln3 hl;rfl) | (obtain⟨_,_,_,_,rfl⟩:=FF.ln4 hl;rfl) | (obtain⟨_,_,_,_,_,rfl⟩:=FF.ln5 hl;rfl) | (cases List.length_eq_zero_iff.mp hl;rfl)) ?a ?l ?c ?k
    (case a=>k_is);(case l=>k_is);(case c=>k_is);(case k=>k_is)
  (case z0=>show _=_;k_is)
  (case z1=>show _=_;k_is)
  (case z2=>k_is)
  (case z3=>k_is)
  (case z4=>k_is)
  (case z5=>show _=_;k_is)
  (case z6=>show _=_;k_is)
  (case z7=>show _=_;k_is)
  (case z8=>show _=_;k_is)
  (case z9=>show _=_;k_is)
  (case z10=>show _=_;k_is)
  (case z11=>show _=_;k_is)
  (case z12=>show _=_;k_is)
  (case z13=>show _=_;k_is)
  (case z14=>show _=_;k_is)
  (case z15=>show _=_;k_is)
  (case z16=>show _=_;k_is)
  (case z17=>show _=_;k_is)
  (case z18=>show _=_;k_is)
  (case z19=>show _=_;k_is)
  (case z20=>show _=_;k_is)
  (case z21=>show _=_;k_is)
  (case z22=>show _=_;k_is)
  (case z23=>show _=_;k_is)
  (case z24=>show _=_;k_is)
  (case z25=>show _=_;k_is)
  (case z26=>show _=_;k_is)
  (case z27=>show _=_;k_is)
  (case z28=>show _=_;k_is)
  (case z29=>show _=_;k_is)
  (case z30=>show _=_;k_is)
  (case z31=>show _=_;k_is)
  (case z32=>k_exc)
  (case z33=>k_exc)
  (case z34=>k_exc)
  (case z35=>k_exc)
  (case z36=>k_is)
  (case z37=>k_is)
  (case z38=>k_is)
  (case z39=>k_is)
  (case z40=>k_is)
  (case z41=>k_is)
  (case z42=>k_is)
  (case z43=>k_is)
  (case z44=>k_is)
  (case z45=>k_is)
  (case z46=>k_is)
  (case z47=>k_is)
  (case z48=>k_is)
  (case z49=>k_is)
  (case z50=>k_is)
  (case z51=>k_is)
  (case z52=>k_is)
  (case z53=>k_is)
  (case z54=>k_is)
  (case z55=>k_is)
  (case z56=>k_is)
  (case z57=>k_is)
  (case z58=>k_is)
  (case z59=>k_is)
  (case z60=>k_is)
  (case z61=>k_is)
  (case z62=>k_is)
  (case z63=>k_is)
  (case z64=>k_is)
  (case z65=>k_is)
  (case z66=>k_is)
  (case z67=>k_is)
  (case z68=>k_is)
  (case z69=>k_is)
  (case z70=>k_is)
  (case z71=>k_is)
  (case z72=>k_is)
  (case z73=>k_is)
  (case z74=>k_is)
  (case z75=>k_is)
  (case z76=>k_is)
  (case z77=>k_is)
  (case z78=>k_is)
  (case z79=>k_is)
  (case z80=>k_is)
  (case z81=>k_is)
  (case z82=>k_is)
  (case z83=>k_is)
  (case z84=>k_is)
  (case z85=>k_is)
  (case z86=>k_is)
  (case z87=>k_is)
  (case z88=>k_is)
  (case z89=>k_is)
  (case z90=>k_is)
  (case z91=>k_is)
  (case z92=>k_is)
  (case z93=>k_is)
  (case z94=>k_is)
  (case z95=>k_is)
  (case z96=>k_is)
  (case z97=>k_is)
  (case z98=>k_is)
  (case z99=>k_is)
  (case z100=>k_is)
  (case z101=>k_is)
  (case z102=>k_is)
  (case z103=>k_is)
  (case z104=>k_is)
  (case z105=>k_is)
  (case z106=>k_is)
end
