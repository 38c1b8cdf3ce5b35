import PyProof.Rows.All
import Wide.All
import OpenK.AllK
import Wide.FinOn
import PyProof.EqAt
import PyProof.EqKinds
import PyProof.TupleCall
import PyProof.ExcArgsOwn
import PyProof.ExcAttrAll.ValueError
import PyProof.IsiH_tuple
import PyProof.Rows.TopTwo
import PyProof.ExcBaseAll.ValueError
import PyProof.RulesAs
import PyProof.RulesDel
import PyProof.Rows.Catch
import PyProof.WalkInts
import PyProof.SumWalkG
import PyProof.Rows.TupAssign
import PyProof.NeKinds
import PyProof.FactsAll.tuple_1
import PyProof.FactsAll.tuple_2
import PyProof.FactsAll.tuple_3
import PyProof.ZipIter
import PyProof.Rows.ZipGen
import PyProof.Draws
import PyProof.EnumMake
import PyProof.LayNew
import OpenK.KTop
import PyProof.DictWalks
import PyProof.ListRange
import PyProof.Rows.SortWalk
import PyProof.Rows.Range3
import PyProof.MinMaxWalk
import PyProof.SetKind
import PyProof.Rows.SetFrom
import PyProof.CollectWalk
import PyProof.FactsAll.set_1
import PyProof.FactsAll.set_2
import PyProof.TupleKey
import Lean
import PySem.Challenge.RW_fourfold_k04_whole_measures
set_option Elab.async false
set_option linter.all false
set_option maxRecDepth 100000
noncomputable section
namespace L2
open PySem PySem.Spec PyProof.Rows
abbrev Key:=Sum Int Str
def keyIs:Key→Value→Bool
 | .inl k,v=>Value.isInt k v
 | .inr x,v=>Value.isStrOf x v
def keyH (w:World):Key→Int
 | .inl k=>hashInt k
 | .inr x=>hashStr w x
theorem aI:∀ {k:Key} {v:Value},keyIs k v=true→(∃ i t,k=Sum.inl i∧v=Value.int i t)∨(∃ x t,k=Sum.inr x∧v=Value.str x t)
 | .inl i,v,h=>by
  obtain⟨t,e⟩:=Value.isInt_shape (k:=i) (v:=v) h
  exact .inl ⟨i,t,rfl,e⟩
 | .inr x,v,h=>by
  obtain⟨t,e⟩:=Value.isStrOf_shape (x:=x) (v:=v) h
  exact .inr ⟨x,t,rfl,e⟩
theorem vG (a b:Int):decide ((Sum.inl a:Key)=Sum.inl b)=(a==b):=by
 by_cases e:a=b
 ·subst e;simp
 ·have h:¬ (Sum.inl a:Key)=Sum.inl b:=fun q=>e (Sum.inl.inj q)
  rw[decide_eq_false h]
  exact(beq_eq_false_iff_ne.mpr e).symm
theorem vH (a b:Str):decide ((Sum.inr a:Key)=Sum.inr b)=decide (a=b):=by
 by_cases e:a=b
 ·subst e;simp
 ·have h:¬ (Sum.inr a:Key)=Sum.inr b:=fun q=>e (Sum.inr.inj q)
  rw[decide_eq_false h,decide_eq_false e]
theorem vJ (a:Int)(b:Str):decide ((Sum.inl a:Key)=Sum.inr b)=false:=decide_eq_false (fun q=>nomatch q)
theorem vK (a:Str)(b:Int):decide ((Sum.inr a:Key)=Sum.inl b)=false:=decide_eq_false (fun q=>nomatch q)
def mixKind (prog:Program)(w:World):PySem.KeyKind prog w Key where
 is:=keyIs
 hash:=keyH w
 inj:=fun v a b ha hb=>by
  rcases aI ha with ⟨i,t,rfl,rfl⟩ | ⟨x,t,rfl,rfl⟩
  ·rcases aI hb with ⟨j,u,rfl,e⟩ | ⟨y,u,rfl,e⟩
   ·injection e with e1 _;rw[e1]
   ·exact nomatch e
  ·rcases aI hb with ⟨j,u,rfl,e⟩ | ⟨y,u,rfl,e⟩
   ·exact nomatch e
   ·injection e with e1 _;rw[e1]
 byValue:=fun k v h=>by
  rcases aI h with ⟨i,t,rfl,rfl⟩ | ⟨x,t,rfl,rfl⟩<;>rfl
 pyHash:=fun hv h=>by
  rcases aI hv with ⟨i,t,rfl,rfl⟩ | ⟨x,t,rfl,rfl⟩
  ·exact wpAny_pyHash_int h
  ·exact wpAny_pyHash_str h
 eqBool:=fun hu hv h=>by
  rcases aI hu with ⟨i,t,rfl,rfl⟩ | ⟨x,t,rfl,rfl⟩
  ·rcases aI hv with ⟨j,u,rfl,rfl⟩ | ⟨y,u,rfl,rfl⟩
   ·rw[vG]at h;exact wpAny_eqBool_int h
   ·rw[vJ]at h;exact SeqAt.EqAt.int_str i t y u _ _ _ _ h
  ·rcases aI hv with ⟨j,u,rfl,rfl⟩ | ⟨y,u,rfl,rfl⟩
   ·rw[vK]at h;exact SeqAt.EqAt.str_int x t j u _ _ _ _ h
   ·rw[vH]at h;exact wpAny_eqBool_str h
 «strs»:=fun k x t v h=>by
  rcases aI h with ⟨i,u,rfl,e⟩ | ⟨y,u,rfl,e⟩
  ·exact nomatch e
  ·injection e with e1 _
   subst e1
   cases v<;>rfl
end L2
namespace L2
open PySem PySem.Spec PyProof.Rows
inductive V where
 | non | bl (b:Bool) | int (i:Int) | str (x:Str) | byt (b:Array UInt8) | flt (b:UInt64) | ref (a:Addr) | ty (n:String)
 deriving DecidableEq
def RelV:V→Value→Prop
 | .non,u=>u=Value.none
 | .bl b,u=>u=Value.bool b
 | .int i,u=>∃ t,u=Value.int i t
 | .str x,u=>∃ t,u=Value.str x t
 | .byt b,u=>∃ t,u=Value.bytes b t
 | .flt b,u=>∃ t,u=Value.float b t
 | .ref a,u=>u=Value.ref a
 | .ty n,u=>u=Value.type n
abbrev Vals:List V→List Value→Prop:=Paired RelV
theorem Vals.length {xs:List V}{us:List Value}(r:Vals xs us):xs.length=us.length:=Paired.length r
theorem Vals.get:∀ {xs:List V} {us:List Value} {i:Nat} {x:V},Vals xs us→xs[i]?=some x→∃ u,us[i]?=some u∧RelV x u
 | _,_,_,_,.nil,e=>by simp at e
 | _,_,0,_,.cons r _,e=>by simp at e;subst e;exact⟨_,rfl,r⟩
 | _,_,i+1,x,.cons _ t,e=>by
  obtain⟨u,h1,h2⟩:=Vals.get (i:=i) (x:=x) t (by simpa using e)
  exact⟨u,by simpa using h1,h2⟩
theorem Vals.set {x:V}{u:Value}(r:RelV x u):∀ {xs:List V} {us:List Value} (i:Nat),Vals xs us→Vals (xs.set i x) (us.set i u)
 | _,_,_,.nil=>.nil
 | _,_,0,.cons _ t=>.cons r t
 | _,_,i+1,.cons q t=>.cons q (Vals.set r i t)
theorem Vals.append:∀ {xs ys:List V} {us ws:List Value},Vals xs us→Vals ys ws→Vals (xs++ys) (us++ws)
 | _,_,_,_,.nil,s=>s
 | _,_,_,_,.cons r t,s=>.cons r (Vals.append t s)
theorem Vals.take:∀ {xs:List V} {us:List Value} (n:Nat),Vals xs us→Vals (xs.take n) (us.take n)
 | _,_,0,_=>.nil
 | _,_,_+1,.nil=>.nil
 | _,_,n+1,.cons r t=>.cons r (Vals.take n t)
theorem Vals.drop:∀ {xs:List V} {us:List Value} (n:Nat),Vals xs us→Vals (xs.drop n) (us.drop n)
 | _,_,0,r=>r
 | _,_,_+1,.nil=>.nil
 | _,_,n+1,.cons _ t=>Vals.drop n t
theorem Vals.none_of:∀ {xs:List V} {us:List Value} {i:Nat},Vals xs us→xs[i]?=none→us[i]?=none:=fun {xs us i} r e=>by
 have h1:=r.length
 have h2:xs.length≤i:=List.getElem?_eq_none_iff.mp e
 exact List.getElem?_eq_none_iff.mpr (by omega)
def RelO:Option V→Option Value→Prop
 | some v,some u=>RelV v u
 | none,none=>True
 | _,_=>False
def KV {κ:Type}:List (κ×V)→List (κ×Value)→Prop:=Paired fun (p:κ×V) (q:κ×Value)=>p.1=q.1∧RelV p.2 q.2
def kV:Key→V
 | .inl i=>.int i
 | .inr x=>.str x
inductive HO where
 | lst (xs:List V)
 | tup (xs:List V)
 | dK (kvs:List (Key×V)) | dT (kvs:List (List Key×V))
 | set (S:Int→Bool) (n:Nat)
 | ins (C dx:Addr) (fs:List (Str×V))
 | own (x:Addr)
 | xd (fs:List (Str×V))
 | met (f x:Addr)
 | rng (lo hi:Int)
 | frz (o:Obj) (u:HO)
 | tbl (ps:Array Value)
 | ext (φ:Heap→Prop)
abbrev Hp:=Addr→Option HO
def upd (H:Hp)(a:Addr)(o:HO):Hp:=fun b=>if b=a then some o else H b
theorem ak {H:Hp}{a:Addr}{o:HO}:upd H a o a=some o:=by unfold upd;rw[if_pos rfl]
theorem av {H:Hp}{a b:Addr}{o:HO}(h:b≠a):upd H a o b=H b:=by unfold upd;rw[if_neg h]
theorem bo {H:Hp}{a b:Addr}{o:HO}(h:H a=some o)(h':H b=none):a≠b:=by
 intro e;subst e;rw[h]at h';cases h'
def TupO (h:Heap)(a:Addr)(its:Array Value):Prop:=∃ o,h.get? a=some o∧o.cls=.type "tuple" ∧ o.dict=none∧∃ n,o.data=.seq its n
theorem TupO.is {h:Heap}{a:Addr}{its:Array Value}(p:TupO h a its):IsTup h a its:=let ⟨o,e,c,_,d⟩:=p;⟨o,e,c,d⟩
theorem TupO.lt {h:Heap}{a:Addr}{its:Array Value}(p:TupO h a its):a < h.objs.size:=p.is.lt
theorem TupO.new (h:Heap)(its:Array Value):TupO (h.push { cls:=.type "tuple",data:=.seq its }) h.objs.size its:=⟨_,Heap.get?_push_size _ rfl,rfl,rfl,_,rfl⟩
section
variable (P:Program)(w:World)
def ObjOk (H:Hp)(h:Heap)(a:Addr):HO→Prop
 | .lst xs=>xs.length≤sizeLine∧∃ (its:List Value) (n:Nat),Vals xs its∧h.get? a=some { cls:=.type "list",data:=.seq its.toArray n }
 | .tup xs=>xs.length≤sizeLine∧∃ its:List Value,Vals xs its∧TupO h a its.toArray
 | .dK kvs=>kvs.length≤sizeLine∧(a==sysModules)=false∧∃ vs,KV kvs vs∧h.DictOf (mixKind P w) a vs
 | .dT kvs=>kvs.length≤sizeLine∧(a==sysModules)=false∧∃ xs:List (List Key×Addr×Value),
   Paired (fun (p:List Key×V) (q:List Key×Addr×Value)=>p.1=q.1∧H q.2.1=some (.tup (p.1.map kV))∧RelV p.2 q.2.2) kvs xs ∧
   ∃ o es ep,h.get? a=some o∧o.ExactDict∧o.data=.dict es ep∧es.toList=xs.map (entryOfKey (tupleKind (mixKind P w)))∧(xs.map (·.1)).Nodup
 | .set S n=>h.SetOf (intKind P w) a S n
 | .ins C dx fs=>H dx=some (.own a)∧fs.length≤1000∧dx≠a∧h.get? a=some (PySem.W.instObj C dx) ∧
   ∃ mA,h.Ns1 dx mA∧(∀ f,RelO (fs.lookup f) (mA f))∧PySem.Within mA (fs.map (·.1))
 | .own _=>∃ o,h.get? a=some o
 | .xd fs=>∃ mA,h.Ns1 a mA∧∀ f,RelO (fs.lookup f) (mA f)
 | .rng lo hi=>∃ t u v,h.get? a=some { cls:=.type "range",data:=.fields #[.int lo t,.int hi u,.int 1 v] }
 | .frz o u=>h.get? a=some o∧ObjOk H h a u
 | .tbl ps=>h.get? a=some { cls:=.none,data:=.fields ps }
 | .met f x=>h.get? a=some (PySem.W.methodObj (.ref f) (.ref x))
 | .ext φ=>φ h∧(∃ o,h.get? a=some o)∧∀ h1 h2:Heap,φ h1→(∀ o,h1.get? a=some o→h2.get? a=some o)→φ h2
def HOk (H:Hp)(h:Heap):Prop:=∀ a o,H a=some o→ObjOk P w H h a o
end
section
variable {P:Program}{w:World}{H H':Hp}{h h':Heap}{a:Addr}{o:HO}
theorem ObjOk.lt (x:ObjOk P w H h a o):a < h.objs.size:=by
 cases o with
 | lst xs=>obtain⟨_,_,_,_,e⟩:=x;exact Heap.lt_size e
 | tup xs=>obtain⟨_,_,_,p⟩:=x;exact p.lt
 | dK kvs=>obtain⟨_,_,_,_,o,_,_,e,_⟩:=x;exact Heap.lt_size e
 | dT kvs=>obtain⟨_,_,_,_,o,_,_,e,_⟩:=x;exact Heap.lt_size e
 | set S n=>obtain⟨o,_,_,_,e,_⟩:=x;exact Heap.lt_size e
 | ins C dx fs=>obtain⟨_,_,_,e,_⟩:=x;exact Heap.lt_size e
 | own y=>obtain⟨_,e⟩:=x;exact Heap.lt_size e
 | xd fs=>obtain⟨_,⟨_,_,_,e,_⟩,_⟩:=x;exact Heap.lt_size e
 | rng lo hi=>obtain⟨_,_,_,e⟩:=x;exact Heap.lt_size e
 | frz ob u=>obtain⟨e,_⟩:=x;exact Heap.lt_size e
 | tbl ps=>exact Heap.lt_size (show h.get? a=some _ from x)
 | met f y=>exact Heap.lt_size (show h.get? a=some _ from x)
 | ext φ=>obtain⟨_,⟨_,e⟩,_⟩:=x;exact Heap.lt_size e
theorem Paired.mapP {α β:Type}{F G:α→β→Prop}:∀ {l₁:List α} {l₂:List β},Paired F l₁ l₂→(∀ a b,F a b→G a b)→Paired G l₁ l₂
 | _,_,.nil,_=>.nil
 | _,_,.cons r t,f=>.cons (f _ _ r) (Paired.mapP t f)
theorem ObjOk.stay (x:ObjOk P w H h a o)(k:∀ b u,(b=a∨H b=some (.own a))→h.get? b=some u→h'.get? b=some u)
  (ho:∀ b,H b=some (.own a)→H' b=some (.own a)) (ht:∀ b xs,H b=some (.tup xs)→H' b=some (.tup xs)):ObjOk P w H' h' a o:=by
 induction o with
 | lst xs=>obtain⟨z,its,n,r,e⟩:=x;exact⟨z,its,n,r,k _ _ (.inl rfl) e⟩
 | tup xs=>obtain⟨z,its,r,ob,e,c⟩:=x;exact⟨z,its,r,ob,k _ _ (.inl rfl) e,c⟩
 | dK kvs=>obtain⟨z,y,vs,r,ob,es,ep,e,c⟩:=x;exact⟨z,y,vs,r,ob,es,ep,k _ _ (.inl rfl) e,c⟩
 | dT kvs =>
  obtain⟨z,y,xs,r,ob,es,ep,e,c⟩:=x
  exact⟨z,y,xs,Paired.mapP r fun p q z=>⟨z.1,ht _ _ z.2.1,z.2.2⟩,ob,es,ep,k _ _ (.inl rfl) e,c⟩
 | set S n=>obtain⟨ob,es,ep,t,e,c⟩:=x;exact⟨ob,es,ep,t,k _ _ (.inl rfl) e,c⟩
 | ins C dx fs =>
  obtain⟨d,z,ne,e,mA,⟨od,es,ep,e2,c⟩,r⟩:=x
  exact⟨ho _ d,z,ne,k _ _ (.inl rfl) e,mA,⟨od,es,ep,k _ _ (.inr d) e2,c⟩,r⟩
 | own y=>obtain⟨ob,e⟩:=x;exact⟨ob,k _ _ (.inl rfl) e⟩
 | xd fs=>obtain⟨mA,⟨od,es,ep,e,c⟩,r⟩:=x;exact⟨mA,⟨od,es,ep,k _ _ (.inl rfl) e,c⟩,r⟩
 | rng lo hi=>obtain⟨t,u,v,e⟩:=x;exact⟨t,u,v,k _ _ (.inl rfl) e⟩
 | frz ob u ih=>obtain⟨e,q⟩:=x;exact⟨k _ _ (.inl rfl) e,ih q⟩
 | tbl ps =>
  have e:h.get? a=some { cls:=.none,data:=.fields ps }:=x
  show h'.get? a=some { cls:=.none,data:=.fields ps }
  exact k a _ (.inl rfl) e
 | met f y =>
  have e:h.get? a=some (PySem.W.methodObj (.ref f) (.ref y)):=x
  show h'.get? a=some (PySem.W.methodObj (.ref f) (.ref y))
  exact k a _ (.inl rfl) e
 | ext φ=>obtain⟨p,⟨o,e⟩,st⟩:=x;exact⟨st _ _ p fun o q=>k _ _ (.inl rfl) q,⟨o,k _ _ (.inl rfl) e⟩,st⟩
theorem HOk.lt (x:HOk P w H h)(e:H a=some o):a < h.objs.size:=(x a o e).lt
theorem HOk.fresh (x:HOk P w H h)(e:h.objs.size≤a):H a=none:=by
 cases q:H a with
 | none=>rfl
 | some u=>exact absurd (Nat.lt_of_lt_of_le (x.lt q) e) (Nat.lt_irrefl _)
theorem HOk.kept (x:HOk P w H h)(k:∀ b u,h.get? b=some u→h'.get? b=some u):HOk P w H h':=fun a o e =>
 (x a o e).stay (fun b u _ q=>k b u q) (fun _ q=>q) fun _ _ q=>q
theorem HOk.laid (x:HOk P w H h)(k:∀ b u,h.get? b=some u→h'.get? b=some u)(hp:h.objs.size≤a)(new:ObjOk P w (upd H a o) h' a o):HOk P w (upd H a o) h':=fun b u e=>by
 have hn:=x.fresh hp
 by_cases hb:b=a
 ·subst hb;rw[ak]at e;cases e;exact new
 ·rw[av hb]at e
  exact(x b u e).stay (fun c v _ q=>k c v q) (fun c q=>by rw[av (bo q hn)];exact q) fun c xs q=>by rw[av (bo q hn)];exact q
end
def Rd (H:Hp)(a:Addr)(u:HO):Prop:=H a=some u∨∃ o,H a=some (.frz o u)
theorem Rd.ok {P:Program}{w:World}{H:Hp}{h:Heap}{a:Addr}{u:HO}(r:Rd H a u)(x:HOk P w H h):ObjOk P w H h a u:=by
 rcases r with r | ⟨o,r⟩
 ·exact x a u r
 ·obtain⟨_,q⟩:=x a _ r
  exact q
def Mut:Option HO→Prop
 | some (.lst _)=>True
 | some (.dK _)=>True
 | some (.dT _)=>True
 | some (.set _ _)=>True
 | some (.ins _ _ _)=>True
 | some (.ext _)=>True
 | _=>False
section
variable {P:Program}{w:World}{H:Hp}{h h':Heap}{x e:Addr}{o':HO}
theorem HOk.write (ok:HOk P w H h)(mu:Mut (H x))(he:e=x∨H e=some (.own x))(k:∀ b u,b≠e→h.get? b=some u→h'.get? b=some u)(heo:∃ u,h'.get? e=some u)
  (new:ObjOk P w (upd H x o') h' x o'):HOk P w (upd H x o') h':=fun b u q=>by
 have nown:∀ c y,H c=some (.own y)→c≠x:=fun c y r z=>by subst z;rw[r]at mu;exact mu
 have ntup:∀ c xs,H c=some (.tup xs)→c≠x:=fun c xs r z=>by subst z;rw[r]at mu;exact mu
 by_cases hb:b=x
 ·subst hb;rw[ak]at q;cases q;exact new
 ·rw[av hb]at q
  by_cases hbe:b=e
  ·have q':H b=some (.own x):=by
    rcases he with z | z
    ·exact absurd (hbe.trans z) hb
    ·rw[hbe];exact z
   rw[q]at q';cases q'
   obtain⟨v,hv⟩:=heo
   exact⟨v,by rw[hbe];exact hv⟩
  ·refine(ok b u q).stay (fun c v hc r=>k c v ?_ r) (fun c r=>by rw[av (nown c b r)];exact r) fun c xs r=>by rw[av (ntup c xs r)];exact r
   rcases hc with rfl | hc
   ·exact hbe
   ·rintro rfl
    rcases he with z | z
    ·exact nown c b hc z
    ·rw[hc]at z;cases z;exact hb rfl
end
structure Un (fs ex:List Addr)(H H':Hp)(h h':Heap):Prop where
 keep:∀ b o,h.get? b=some o→H b=none→b∉fs→b∉ex→h'.get? b=some o
 slot:∀ b o,h.get? b=some o→H b=none→b∈fs→b∉ex→∃ sl,h'.get? b=some { o with slots:=sl }
 free:∀ b o,h.get? b=some o→H b=none→b∉ex→H' b=none
 there:∀ b o,h.get? b=some o→b∉ex→∃ o',h'.get? b=some o'
 tups:∀ b xs,H b=some (.tup xs)→H' b=some (.tup xs)
 frzs:∀ b o u,H b=some (.frz o u)→H' b=some (.frz o u)
 tbls:∀ b ps,H b=some (.tbl ps)→∃ more,H' b=some (.tbl (ps++more))
section
variable {fs fs' ex ex':List Addr}{H H1 H2:Hp}{h h1 h2 h':Heap}{a x e:Addr}{o:HO}
theorem Un.any (u:Un fs ex H H1 h h1){b:Addr}{ob:Obj}(q:h.get? b=some ob)(n:H b=none)(hx:b∉ex):∃ sl,h1.get? b=some { ob with slots:=sl }:=by
 by_cases hb:b∈fs
 ·exact u.slot b ob q n hb hx
 ·exact⟨ob.slots,u.keep b ob q n hb hx⟩
theorem Un.trans (a:Un fs ex H H1 h h1)(b:Un fs ex H1 H2 h1 h2):Un fs ex H H2 h h2 where
 keep:=fun c ob q n hc hx=>b.keep c ob (a.keep c ob q n hc hx) (a.free c ob q n hx) hc hx
 slot:=fun c ob q n hc hx=>by
  obtain⟨sl,e1⟩:=a.slot c ob q n hc hx
  obtain⟨sl',e2⟩:=b.slot c _ e1 (a.free c ob q n hx) hc hx
  exact⟨sl',e2⟩
 free:=fun c ob q n hx=>by
  obtain⟨o',e1⟩:=a.there c ob q hx
  exact b.free c o' e1 (a.free c ob q n hx) hx
 there:=fun c ob q hx=>by
  obtain⟨o',e1⟩:=a.there c ob q hx
  exact b.there c o' e1 hx
 tups:=fun c xs q=>b.tups c xs (a.tups c xs q)
 frzs:=fun c ob xs q=>b.frzs c ob xs (a.frzs c ob xs q)
 tbls:=fun c ps q=>by
  obtain⟨m1,e1⟩:=a.tbls c ps q
  obtain⟨m2,e2⟩:=b.tbls c _ e1
  exact⟨m1++m2,by rw[e2,Array.append_assoc]⟩
theorem Un.kept (k:∀ b u,h.get? b=some u→h'.get? b=some u):Un fs ex H H h h' :=
 ⟨fun b ob q _ _ _=>k b ob q,fun b ob q _ _ _=>⟨ob.slots,k b ob q⟩,fun _ _ _ n _=>n,fun b ob q _=>⟨ob,k b ob q⟩,fun _ _ q=>q,fun _ _ _ q=>q,fun _ ps q=>⟨#[],by rw[q];simp⟩⟩
theorem Un.refl:Un fs ex H H h h:=Un.kept fun _ _ q=>q
theorem Un.laid (k:∀ b u,h.get? b=some u→h'.get? b=some u)(hp:h.objs.size≤a)(hn:H a=none):Un fs ex H (upd H a o) h h' where
 keep:=fun b u q _ _ _=>k b u q
 slot:=fun b u q _ _ _=>⟨u.slots,k b u q⟩
 free:=fun b u q n _=>by rw[av (Nat.ne_of_lt (Nat.lt_of_lt_of_le (Heap.lt_size q) hp))];exact n
 there:=fun b u q _=>⟨u,k b u q⟩
 tups:=fun b xs q=>by rw[av (bo q hn)];exact q
 frzs:=fun b u xs q=>by rw[av (bo q hn)];exact q
 tbls:=fun b ps q=>⟨#[],by rw[av (bo q hn),q];simp⟩
theorem Un.write (mu:Mut (H x))(he:e=x∨H e=some (.own x))(k:∀ b u,b≠e→h.get? b=some u→h'.get? b=some u)(heo:∃ u,h'.get? e=some u):Un fs ex H (upd H x o) h h':=by
 have hx:∀ b,H b=none→b≠x:=fun b n z=>by subst z;rw[n]at mu;exact mu
 have hb:∀ b,H b=none→b≠e:=fun b n z=>by
  subst z
  rcases he with r | r
  ·exact hx b n r
  ·rw[n]at r;cases r
 have hm:∀ b u,H b=some u→¬ Mut (some u)→b≠x:=fun b u q nm z=>by subst z;rw[q]at mu;exact nm mu
 refine⟨fun b u q n _ _=>k b u (hb b n) q,fun b u q n _ _=>⟨u.slots,k b u (hb b n) q⟩,fun b u q n _=>by rw[av (hx b n)];exact n,fun b u q _=>?_,
  fun b xs q=>by rw[av (hm b _ q fun z=>z)];exact q,fun b u xs q=>by rw[av (hm b _ q fun z=>z)];exact q,fun b ps q=>⟨#[],by rw[av (hm b _ q fun z=>z),q];simp⟩⟩
 by_cases hbe:b=e
 ·subst hbe;exact heo
 ·exact⟨u,k b u hbe q⟩
end
def trk (h:Heap)(H:Hp):List Addr:=(List.range h.objs.size).filter fun a=>(H a).isSome
def hidT (h:Heap)(H:Hp):Heap:=PySem.W.hideAll h (trk h H)
theorem oZ (h:Heap)(H:Hp):(hidT h H).objs.size=h.objs.size:=PySem.W.hideAll_size _ _
theorem qL {h:Heap}{H:Hp}{b:Addr}{o:Obj}(e:h.get? b=some o)(n:H b=none):(hidT h H).get? b=some o :=
 PySem.W.hideAll_get _ e fun hm=>by
  have q:(H b).isSome=true:=(List.mem_filter.mp hm).2
  rw[n]at q;simp at q
theorem tY {h:Heap}{H:Hp}{b:Addr}{o:Obj}(e:(hidT h H).get? b=some o):h.get? b=some o∧H b=none:=by
 have e':h.get? b=some o:=PySem.W.of_hideAll (trk h H) e
 refine⟨e',?_⟩
 cases q:H b with
 | none=>rfl
 | some x =>
  have hm:b∈trk h H:=List.mem_filter.mpr ⟨List.mem_range.mpr (Heap.lt_size e'),by simp[q]⟩
  have z:(hidT h H).get? b=none:=PySem.W.hideAll_none (trk h H) hm
  rw[z]at e;cases e
def allNews (g h:Heap)(L:Addr):List (Addr×Obj):=(List.range h.objs.size).filterMap fun a=>if a=L∨(g.get? a).isSome=true then none else (h.get? a).map fun o=>(a,o)
def rest (g h:Heap)(L d:Addr):List (Addr×Obj):=(allNews g h L).filter fun p=>decide (p.1≠d)
end L2
namespace L2
open PySem PySem.Spec PyProof.Rows
structure Mod (K:PySem.W.Frag)(mg:Str→Option Value)(base:Heap):Prop where
 kin:K.In base
 glob:base.Ns mainGlobals mg
 blt:∃ mb,base.Ns builtinsNs mb∧∀ x:Str,x ≠ "__name__" → mb x=bootBuiltins x
 nolimit:base.NoLimit
structure Cx where
 prog:Program
 w:World
 K:PySem.W.Frag
 mg:Str→Option Value
 base:Heap
 A:Around
 N:List Str
 s₀:Shared
 H₀:Hp
 env:Env
 outer:List Env
 stack:List Env
 ex:List Addr
 fn:Str→Bool
 calm:Bool
 pn:List (Addr×Obj)
 xe:Value→Shared→Prop
def frs (l:List Env):List Addr:=l.filterMap (·.frame)
abbrev Cx.fs (X:Cx):List Addr:=frs X.outer
def Vis (sc:Scope)(x:Str):Prop:=sc.names.lookup x=some .local∨sc.names.lookup x=some .cell∨sc.names.lookup x=some .free
def Loc (sc:Scope)(x:Str):Prop:=sc.names.lookup x=some .local∨sc.names.lookup x=some .cell
def Look (env:Env)(h:Heap)(m:Str→Option Value)(x:Str)(u:Value):Prop :=
 (env.kindOf x=some .local∧m x=some u)∨((env.kindOf x=some .cell∨env.kindOf x=some .free)∧∃ c,env.cells.lookup x=some c∧h.IsCell c (some u))
structure Cx.Ok (X:Cx):Prop where
 mod:Mod X.K X.mg X.base
 kind:X.env.scope.kind=.function
 glob:X.env.globals=mainGlobals
 blt:X.env.builtins=builtinsNs
 above:X.s₀.heap.objs.size≤X.env.locals
 inj:∀ x y c,X.env.cells.lookup x=some c→X.env.cells.lookup y=some c→x=y
 has:∀ x,(X.env.kindOf x=some .cell∨X.env.kindOf x=some .free)→∃ c,X.env.cells.lookup x=some c
 cab:∀ x c,X.fn x=true→X.env.cells.lookup x=some c→X.s₀.heap.objs.size≤c
 hd:X.calm=true→X.A.handled=none
 frames:X.A.frames=some X.stack
 stk:X.stack=X.outer∨(X.stack=X.env::X.outer∧X.env.frame=some X.env.locals)
 exf:∀ b∈X.ex,b≠X.env.locals∧∀ x c,X.env.cells.lookup x=some c→c≠b
 bs:∀ b o,X.base.get? b=some o→X.s₀.heap.get? b=some o∧X.H₀ b=none
 bsz:X.base.objs.size≤X.s₀.heap.objs.size
 noex:∀ b o,X.base.get? b=some o→b∉X.ex
 exfs:∀ b∈X.ex,b∉X.fs
 funs:X.s₀.heap.FunFrames X.base X.outer
 frf:∀ b∈X.fs,X.H₀ b=none
structure Inv (X:Cx)(pins:List (Addr×Obj))(σ:List (Option V))(H:Hp)(s:Shared):Prop where
 ok:X.Ok
 os:s.os=X.s₀.os
 bare:AllBare s.gens
 base:Un X.fs X.ex X.H₀ H X.s₀.heap s.heap
 loc:∃ m,s.heap.Ns X.env.locals m∧∀ (i:Nat) (x:Str) (v:V),X.N[i]?=some x→σ[i]?=some (some v)→Vis X.env.scope x→∃ u,RelV v u∧Look X.env s.heap m x u
 cell:∀ x c,X.env.cells.lookup x=some c→∃ v,s.heap.IsCell c v
 free:H X.env.locals=none
 freeC:∀ x c,X.env.cells.lookup x=some c→H c=none
 pin:∀ p∈X.pn++pins,s.heap.get? p.1=some p.2∧H p.1=none∧p.1≠X.env.locals∧p.1∉X.fs∧∀ v,p.2.data≠.cell v
 hok:HOk X.prog X.w H s.heap
 len:σ.length=X.N.length
section
variable {X:Cx}{pins:List (Addr×Obj)}{σ:List (Option V)}{H H':Hp}{s:Shared}{h':Heap}
theorem Cx.Ok.nofr (ok:X.Ok){b:Addr}{o:Obj}(e:X.base.get? b=some o):b∉X.fs:=fun hb=>by
 have:=(ok.funs.mem hb).1
 rw[e]at this;cases this
theorem Inv.bs (I:Inv X pins σ H s):∀ b o,X.base.get? b=some o→s.heap.get? b=some o∧H b=none:=fun b o e =>
 ⟨I.base.keep b o (I.ok.bs b o e).1 (I.ok.bs b o e).2 (I.ok.nofr e) (I.ok.noex b o e),I.base.free b o (I.ok.bs b o e).1 (I.ok.bs b o e).2 (I.ok.noex b o e)⟩
theorem Inv.bk (I:Inv X pins σ H s):∀ b o,X.base.get? b=some o→s.heap.get? b=some o:=fun b o e=>(I.bs b o e).1
theorem Inv.mod (I:Inv X pins σ H s):Mod X.K X.mg X.base:=I.ok.mod
theorem Inv.kIn (I:Inv X pins σ H s):X.K.In s.heap:=I.ok.mod.kin.keeps I.bk
theorem Inv.lt (I:Inv X pins σ H s):X.env.locals < s.heap.objs.size:=let ⟨_,hn,_⟩:=I.loc;hn.lt
theorem Inv.sz (I:Inv X pins σ H s):X.s₀.heap.objs.size≤s.heap.objs.size:=Nat.le_trans I.ok.above (Nat.le_of_lt I.lt)
theorem Inv.nofs (I:Inv X pins σ H s){a:Addr}(h:s.heap.objs.size≤a):a∉X.fs:=fun hb=>by
 obtain⟨_,o,ho,_⟩:=I.ok.funs.mem hb
 exact absurd (Nat.lt_of_lt_of_le (Heap.lt_size ho) (Nat.le_trans I.sz h)) (Nat.lt_irrefl _)
theorem Inv.cne (I:Inv X pins σ H s):∀ x c,X.env.cells.lookup x=some c→c≠X.env.locals:=fun x c e z=>by
 obtain⟨v,o,ho,hd⟩:=I.cell x c e
 obtain⟨m,⟨o',es,ep,ho',hd',_⟩,_⟩:=I.loc
 rw[z,ho']at ho;cases ho;rw[hd']at hd;cases hd
theorem Inv.funs (I:Inv X pins σ H s):s.heap.FunFrames X.base X.outer:=by
 have all:∀ (l:List Env),(∀ b∈frs l,b∈X.fs)→X.s₀.heap.FunFrames X.base l→s.heap.FunFrames X.base l:=by
  intro l
  induction l with
  | nil=>intro _ _;trivial
  | cons env r ih =>
   intro hs hl
   obtain⟨hk,⟨L,o,hf,hn,ho,hd⟩,hr⟩:=hl
   have hL:L∈X.fs:=hs L (by unfold frs;rw[List.filterMap_cons,hf];exact List.mem_cons_self)
   obtain⟨sl,e⟩:=I.base.slot L o ho (I.ok.frf L hL) hL fun z=>I.ok.exfs L z hL
   exact⟨hk,⟨L,_,hf,hn,e,hd⟩,ih (fun b hb=>hs b (by unfold frs;rw[List.filterMap_cons,hf];exact List.mem_cons_of_mem _ hb)) hr⟩
 exact all X.outer (fun _ hb=>hb) I.ok.funs
theorem Inv.stack (I:Inv X pins σ H s):s.heap.FunFrames X.base X.stack:=by
 rcases I.ok.stk with e | ⟨e,hf⟩
 ·rw[e];exact I.funs
 ·rw[e]
  obtain⟨m,hn,_⟩:=I.loc
  refine .cons (by rw[I.ok.kind];decide) hf hn ?_ I.funs
  exact Heap.get?_none_of_le (Nat.le_trans I.ok.bsz I.ok.above)
theorem Inv.stkSub (I:Inv X pins σ H s):∀ b∈frs X.stack,b∈X.env.locals::X.fs:=fun b hb=>by
 rcases I.ok.stk with e | ⟨e,hf⟩
 ·rw[e]at hb;exact List.mem_cons_of_mem _ hb
 ·rw[e]at hb
  unfold frs at hb
  rw[List.filterMap_cons,hf]at hb
  exact hb
theorem Inv.stkFree (I:Inv X pins σ H s):∀ b∈frs X.stack,H b=none:=fun b hb=>by
 rcases List.mem_cons.mp (I.stkSub b hb) with e | hb
 ·rw[e];exact I.free
 ·obtain⟨_,o,ho,_⟩:=I.ok.funs.mem hb
  exact I.base.free b o ho (I.ok.frf b hb) fun z=>I.ok.exfs b z hb
theorem Inv.step {g':Array GenState}{t':Nat}{d':Drawn}{ch:List Addr}(I:Inv X pins σ H s)
  (hch:∀ b∈ch,(b∈X.ex∨X.s₀.heap.objs.size≤b)∧b≠X.env.locals∧(∀ x c,X.env.cells.lookup x=some c→c≠b)∧∀ p∈X.pn++pins,p.1≠b)
  (keep:∀ b o,b≠X.env.locals→b∉X.fs→b∉ch→s.heap.get? b=some o→H b=none→h'.get? b=some o)
  (slot:∀ b o,b≠X.env.locals→b∈X.fs→b∉ch→s.heap.get? b=some o→H b=none→∃ sl,h'.get? b=some { o with slots:=sl }) (free:∀ b o,b∉ch→s.heap.get? b=some o→H b=none→H' b=none)
  (there:∀ b o,b∉ch→s.heap.get? b=some o→∃ o',h'.get? b=some o')
  (tups:∀ b xs,H b=some (.tup xs)→H' b=some (.tup xs)) (frzs:∀ b o u,H b=some (.frz o u)→H' b=some (.frz o u)) (tbls:∀ b ps,H b=some (.tbl ps)→∃ more,H' b=some (.tbl (ps++more)))
  (ns:∀ m,s.heap.Ns X.env.locals m→h'.Ns X.env.locals m) (hok:HOk X.prog X.w H' h') (hg:AllBare g') :
  Inv X pins σ H' { s with heap:=h',gens:=g',drawn:=d',toks:=t' }:=by
 have neL:∀ b o,X.s₀.heap.get? b=some o→b≠X.env.locals:=fun b o e=>Nat.ne_of_lt (Nat.lt_of_lt_of_le (Heap.lt_size e) I.ok.above)
 have neC:∀ b o,X.s₀.heap.get? b=some o→b∉X.ex→b∉ch:=fun b o e hx hb=>by
  rcases(hch b hb).1 with z | z
  ·exact hx z
  ·exact absurd (Nat.lt_of_lt_of_le (Heap.lt_size e) z) (Nat.lt_irrefl _)
 have cellK:∀ x c,X.env.cells.lookup x=some c→∀ v,s.heap.IsCell c v→h'.IsCell c v:=fun x c e v ⟨o,ho,hd⟩=>by
  have nch:c∉ch:=fun z=>(hch c z).2.2.1 x c e rfl
  by_cases hc:c∈X.fs
  ·obtain⟨sl,q⟩:=slot c o (I.cne x c e) hc nch ho (I.freeC x c e)
   exact⟨_,q,hd⟩
  ·exact⟨o,keep c o (I.cne x c e) hc nch ho (I.freeC x c e),hd⟩
 refine⟨I.ok,I.os,hg,⟨fun b o e n hb hx=>?_,fun b o e n hb hx=>?_,fun b o e n hx=>?_,fun b o e hx=>?_,fun b xs e=>tups b xs (I.base.tups b xs e),fun b o xs e=>frzs b o xs (I.base.frzs b o xs e),fun b ps e=>?_⟩,?_,fun x c e=>?_,?_,fun x c e=>?_,fun p hp=>?_,hok,I.len⟩
 ·exact keep b o (neL b o e) hb (neC b o e hx) (I.base.keep b o e n hb hx) (I.base.free b o e n hx)
 ·obtain⟨sl,e1⟩:=I.base.slot b o e n hb hx
  obtain⟨sl',e2⟩:=slot b _ (neL b o e) hb (neC b o e hx) e1 (I.base.free b o e n hx)
  exact⟨sl',e2⟩
 ·obtain⟨o',e1⟩:=I.base.there b o e hx
  exact free b o' (neC b o e hx) e1 (I.base.free b o e n hx)
 ·obtain⟨o',e1⟩:=I.base.there b o e hx
  exact there b o' (neC b o e hx) e1
 ·obtain⟨m1,e1⟩:=I.base.tbls b ps e
  obtain⟨m2,e2⟩:=tbls b _ e1
  exact⟨m1++m2,by rw[e2,Array.append_assoc]⟩
 ·obtain⟨m,hn,hl⟩:=I.loc
  refine⟨m,ns m hn,fun i x v e1 e2 e3=>?_⟩
  obtain⟨u,r,l⟩:=hl i x v e1 e2 e3
  refine⟨u,r,?_⟩
  rcases l with l | ⟨k,c,e,z⟩
  ·exact .inl l
  ·exact .inr ⟨k,c,e,cellK x c e _ z⟩
 ·obtain⟨v,z⟩:=I.cell x c e
  exact⟨v,cellK x c e v z⟩
 ·obtain⟨m,⟨o,_,_,ho,_⟩,_⟩:=I.loc
  exact free _ o (fun z=>(hch _ z).2.1 rfl) ho I.free
 ·obtain⟨v,o,ho,hd⟩:=I.cell x c e
  exact free c o (fun z=>(hch c z).2.2.1 x c e rfl) ho (I.freeC x c e)
 ·obtain⟨e,n,ne,nf,d⟩:=I.pin p hp
  have nch:p.1∉ch:=fun z=>(hch p.1 z).2.2.2 p hp rfl
  exact⟨keep p.1 p.2 ne nf nch e n,free p.1 p.2 nch e n,ne,nf,d⟩
theorem Inv.un {t':Nat}(I:Inv X pins σ H s)(u:Un X.fs [] H H' s.heap h')(hok:HOk X.prog X.w H' h'):Inv X pins σ H' { s with heap:=h',toks:=t' }:=by
 obtain⟨m,⟨o,es,ep,ho,r⟩,_⟩:=id I.loc
 obtain⟨sl,hL⟩:=u.any ho I.free (by simp)
 exact I.step (g':=s.gens) (d':=s.drawn) (ch:=[]) (fun _ z=>nomatch z) (fun b o _ hb _ e n=>u.keep b o e n hb (by simp)) (fun b o _ hb _ e n=>u.slot b o e n hb (by simp)) (fun b o _ e n=>u.free b o e n (by simp)) (fun b o _ e=>u.there b o e (by simp)) u.tups u.frzs u.tbls (fun m' hm=>by
  obtain⟨o',es',ep',ho',r'⟩:=hm
  rw[ho]at ho';cases ho'
  exact⟨_,es',ep',hL,r'⟩) hok I.bare
theorem Inv.call {g':Array GenState}{t':Nat}{d':Drawn}{ch:List Addr}(I:Inv X pins σ H s)(u:Un (frs X.stack) ch H H' s.heap h')(hok:HOk X.prog X.w H' h')(hg:AllBare g')
  (hch:∀ b∈ch,(b∈X.ex∨X.s₀.heap.objs.size≤b)∧b≠X.env.locals∧(∀ x c,X.env.cells.lookup x=some c→c≠b)∧∀ p∈X.pn++pins,p.1≠b) :
  Inv X pins σ H' { s with heap:=h',gens:=g',drawn:=d',toks:=t' }:=by
 obtain⟨m,⟨o,es,ep,ho,r⟩,_⟩:=id I.loc
 obtain⟨sl,hL⟩:=u.any ho I.free fun z=>(hch _ z).2.1 rfl
 exact I.step (ch:=ch) hch (fun b o hL hb hc e n=>u.keep b o e n (fun z=>(List.mem_cons.mp (I.stkSub b z)).elim hL hb) hc) (fun b o _ _ hc e n=>u.any e n hc) (fun b o hc e n=>u.free b o e n hc) (fun b o hc e=>u.there b o e hc) u.tups u.frzs u.tbls (fun m' hm=>by
  obtain⟨o',es',ep',ho',r'⟩:=hm
  rw[ho]at ho';cases ho'
  exact⟨_,es',ep',hL,r'⟩) hok hg
theorem Inv.turned {t':Nat}{it:Addr}(I:Inv X pins σ H s)(k:∀ b o,b≠it→s.heap.get? b=some o→h'.get? b=some o)(hn:H it=none)(hL:it≠X.env.locals)
  (h1:it∈X.ex∨X.s₀.heap.objs.size≤it) (h2:∀ x c,X.env.cells.lookup x=some c→c≠it) (h3:∀ p∈X.pn++pins,p.1≠it):Inv X pins σ H { s with heap:=h',toks:=t' }:=by
 have nit:∀ b u,H b=some u→b≠it:=fun b u e z=>by rw[z,hn]at e;cases e
 refine I.step (g':=s.gens) (d':=s.drawn) (ch:=[it]) (fun b hb=>?_) (fun b o _ _ hc e _=>k b o (fun z=>hc (by simp[z])) e) (fun b o _ _ hc e _=>⟨o.slots,k b o (fun z=>hc (by simp[z])) e⟩) (fun _ _ _ _ n=>n)
  (fun b o hc e=>⟨o,k b o (fun z=>hc (by simp[z])) e⟩) (fun _ _ e=>e) (fun _ _ _ e=>e) (fun b ps e=>⟨#[],by rw[e];simp⟩) (fun m hm=>?_) (fun b u e=>?_) I.bare
 ·have e:b=it:=by simpa using hb
  subst e
  exact⟨h1,hL,h2,h3⟩
 ·obtain⟨o,es,ep,ho,r⟩:=hm
  exact⟨o,es,ep,k _ o (Ne.symm hL) ho,r⟩
 ·refine(I.hok b u e).stay (fun c v hc q=>k c v ?_ q) (fun _ q=>q) fun _ _ q=>q
  rcases hc with z | z
  ·rw[z];exact nit b u e
  ·exact nit c _ z
theorem Inv.tok (I:Inv X pins σ H s)(t:Nat):Inv X pins σ H { s with toks:=t }:=I.un (h':=s.heap) (t':=t) Un.refl I.hok
theorem Inv.kept {t':Nat}(I:Inv X pins σ H s)(k:∀ b u,s.heap.get? b=some u→h'.get? b=some u):Inv X pins σ H { s with heap:=h',toks:=t' }:=I.un (Un.kept k) (I.hok.kept k)
theorem Inv.laid {a:Addr}{o:HO}{t':Nat}(I:Inv X pins σ H s)(k:∀ b u,s.heap.get? b=some u→h'.get? b=some u)(hp:s.heap.objs.size≤a)(new:ObjOk X.prog X.w (upd H a o) h' a o) :
  Inv X pins σ (upd H a o) { s with heap:=h',toks:=t' }:=I.un (Un.laid k hp (I.hok.fresh hp)) (I.hok.laid k hp new)
theorem Inv.write {x e:Addr}{o:HO}{t':Nat}(I:Inv X pins σ H s)(mu:Mut (H x))(he:e=x∨H e=some (.own x))(k:∀ b u,b≠e→s.heap.get? b=some u→h'.get? b=some u)(heo:∃ u,h'.get? e=some u)
  (new:ObjOk X.prog X.w (upd H x o) h' x o):Inv X pins σ (upd H x o) { s with heap:=h',toks:=t' }:=I.un (Un.write mu he k heo) (I.hok.write mu he k heo new)
theorem Inv.pins_of {pins':List (Addr×Obj)}(I:Inv X pins σ H s)(h:∀ p∈pins',s.heap.get? p.1=some p.2∧H p.1=none∧p.1≠X.env.locals∧p.1∉X.fs∧∀ v,p.2.data≠.cell v):Inv X pins' σ H s :=
 ⟨I.ok,I.os,I.bare,I.base,I.loc,I.cell,I.free,I.freeC,fun p hp=>(List.mem_append.mp hp).elim (fun z=>I.pin p (List.mem_append_left _ z)) (h p),I.hok,I.len⟩
theorem lu {N:List Str}(hN:N.Nodup){i j:Nat}{x:Str}(a:N[i]?=some x)(b:N[j]?=some x):i=j:=by
 obtain⟨h1,e1⟩:=List.getElem?_eq_some_iff.mp a
 obtain⟨h2,e2⟩:=List.getElem?_eq_some_iff.mp b
 exact(List.getElem_inj hN).mp (e1.trans e2.symm)
theorem jD {M:Model}{A:Around}{E:Value→Shared→Prop}{i:Nat}{x:Str}{v:V}{u:Value}{Q:Unit→Shared→Prop}(I:Inv X pins σ H s)(hN:X.N.Nodup)(hi:X.N[i]?=some x)(hx:Loc X.env.scope x)(r:RelV v u)
  (h:∀ s',Inv X pins (σ.set i (some v)) H s'→(∃ a,Heap.SameBut a s.heap s'.heap∧(a=X.env.locals∨X.env.cells.lookup x=some a))→Q () s') (hf:X.fn x=true∨X.env.scope.names.lookup x=some .local:=by first | exact .inl rfl | exact .inr rfl | assumption):wpAny M A (storeName X.env x u) Q E s:=by
 obtain⟨m,hn,hl⟩:=id I.loc
 have hcls:(X.env.scope.kind==.class||(X.env.scope.kind==.module&&X.env.locals != X.env.globals))=false:=by rw[I.ok.kind];rfl
 have hiσ:i < σ.length:=by rw[I.len];exact(List.getElem?_eq_some_iff.mp hi).1
 have cne:=I.cne
 have tracked:∀ {a:Addr} {h':Heap},(∃ o,s.heap.get? a=some o∧H a=none)→Heap.SameBut a s.heap h'→HOk X.prog X.w H h':=fun {a h'} ha hs b ob e=>by
  obtain⟨_,_,hfree⟩:=ha
  refine(I.hok b ob e).stay (fun c w' hc q=>(hs.2 c ?_).trans q) (fun _ q=>q) fun _ _ q=>q
  rintro rfl
  rcases hc with rfl | hc
  ·rw[hfree]at e;cases e
  ·rw[hfree]at hc;cases hc
 rcases hx with hk | hk
 ·refine wpAny_storeName_local hk hn (fun h' hn' hs=>?_) hcls
  obtain⟨oL,_,_,hoL,_⟩:=id hn
  refine h _ ⟨I.ok,I.os,I.bare,⟨fun b o e n hb hx=>?_,fun b o e n hb hx=>?_,I.base.free,fun b o e hx=>?_,I.base.tups,I.base.frzs,I.base.tbls⟩,⟨_,hn',fun j y v' e1 e2 e3=>?_⟩,fun y c e=>?_,I.free,I.freeC,fun p hp=>?_,tracked ⟨oL,hoL,I.free⟩ hs,by simpa using I.len⟩ ⟨_,hs,.inl rfl⟩
  ·exact(hs.2 b (Nat.ne_of_lt (Nat.lt_of_lt_of_le (Heap.lt_size e) I.ok.above))).trans (I.base.keep b o e n hb hx)
  ·obtain⟨sl,e1⟩:=I.base.slot b o e n hb hx
   exact⟨sl,(hs.2 b (Nat.ne_of_lt (Nat.lt_of_lt_of_le (Heap.lt_size e) I.ok.above))).trans e1⟩
  ·obtain⟨o',e1⟩:=I.base.there b o e hx
   exact⟨o',(hs.2 b (Nat.ne_of_lt (Nat.lt_of_lt_of_le (Heap.lt_size e) I.ok.above))).trans e1⟩
  ·by_cases hj:j=i
   ·subst hj
    rw[hi]at e1;cases e1
    rw[List.getElem?_set_self hiσ]at e2
    cases e2
    exact⟨u,r,.inl ⟨hk,by simp⟩⟩
   ·rw[List.getElem?_set_ne (Ne.symm hj)]at e2
    obtain⟨u',r',q⟩:=hl j y v' e1 e2 e3
    refine⟨u',r',?_⟩
    rcases q with ⟨k,e⟩ | ⟨k,c,e,z⟩
    ·refine .inl ⟨k,?_⟩
     have:y≠x:=fun e=>hj (lu hN e1 (e ▸ hi))
     simp[this,e]
    ·exact .inr ⟨k,c,e,z.sameBut hs (cne y c e)⟩
  ·obtain⟨w',z⟩:=I.cell y c e
   exact⟨w',z.sameBut hs (cne y c e)⟩
  ·obtain⟨e,n,ne,nf,d⟩:=I.pin p hp
   exact⟨(hs.2 p.1 ne).trans e,n,ne,nf,d⟩
 ·have hfn:X.fn x=true:=by
   rcases hf with z | z
   ·exact z
   ·rw[z]at hk;cases hk
  obtain⟨c,hc⟩:=I.ok.has x (.inl hk)
  obtain⟨w',z⟩:=I.cell x c hc
  refine wpAny_storeName_cell I.ok.kind hk hc z (fun h' hc' hs=>?_)
  obtain⟨oc,hoc,hocd⟩:=id z
  refine h { s with heap:=h' } ⟨I.ok,I.os,I.bare,⟨fun b o e n hb hx=>?_,fun b o e n hb hx=>?_,I.base.free,fun b o e hx=>?_,I.base.tups,I.base.frzs,I.base.tbls⟩,⟨m,hn.sameBut hs (Ne.symm (cne x c hc)),fun j y v' e1 e2 e3=>?_⟩,fun y c' e=>?_,I.free,I.freeC,fun p hp=>?_,tracked ⟨oc,hoc,I.freeC x c hc⟩ hs,by simpa using I.len⟩ ⟨c,hs,.inr hc⟩
  ·exact(hs.2 b (Nat.ne_of_lt (Nat.lt_of_lt_of_le (Heap.lt_size e) (I.ok.cab x c hfn hc)))).trans (I.base.keep b o e n hb hx)
  ·obtain⟨sl,e1⟩:=I.base.slot b o e n hb hx
   exact⟨sl,(hs.2 b (Nat.ne_of_lt (Nat.lt_of_lt_of_le (Heap.lt_size e) (I.ok.cab x c hfn hc)))).trans e1⟩
  ·obtain⟨o',e1⟩:=I.base.there b o e hx
   exact⟨o',(hs.2 b (Nat.ne_of_lt (Nat.lt_of_lt_of_le (Heap.lt_size e) (I.ok.cab x c hfn hc)))).trans e1⟩
  ·by_cases hj:j=i
   ·subst hj
    rw[hi]at e1;cases e1
    rw[List.getElem?_set_self hiσ]at e2
    cases e2
    exact⟨u,r,.inr ⟨.inl hk,c,hc,hc'⟩⟩
   ·rw[List.getElem?_set_ne (Ne.symm hj)]at e2
    obtain⟨u',r',q⟩:=hl j y v' e1 e2 e3
    refine⟨u',r',?_⟩
    rcases q with q | ⟨k,c',e,z'⟩
    ·exact .inl q
    ·refine .inr ⟨k,c',e,z'.sameBut hs ?_⟩
     rintro rfl
     exact hj (lu hN e1 (I.ok.inj _ _ _ e hc ▸ hi))
  ·by_cases hcc:c'=c
   ·subst hcc;exact⟨_,hc'⟩
   ·obtain⟨w2,z2⟩:=I.cell y c' e
    exact⟨w2,z2.sameBut hs hcc⟩
  ·obtain⟨e,n,ne,nf,d⟩:=I.pin p hp
   refine⟨(hs.2 p.1 ?_).trans e,n,ne,nf,d⟩
   intro q
   rw[q,hoc]at e
   have q':oc=p.2:=Option.some.inj e
   exact d w' (by rw[← q'];exact hocd)
theorem eX {M:Model}{A:Around}{E:Value→Shared→Prop}{i:Nat}{x:Str}{v:V}{u:Value}{Q:Unit→Shared→Prop}(I:Inv X pins σ H s)(hN:X.N.Nodup)(hi:X.N[i]?=some x)(hx:Loc X.env.scope x)(r:RelV v u)
  (h:∀ s',Inv X pins (σ.set i (some v)) H s'→Q () s') (hf:X.fn x=true∨X.env.scope.names.lookup x=some .local:=by first | exact .inl rfl | exact .inr rfl | assumption):wpAny M A (storeName X.env x u) Q E s :=
 jD I hN hi hx r (fun s' I' _=>h s' I') hf
theorem Inv.call' {s':Shared}{ch:List Addr}(I:Inv X pins σ H s)(ho:s'.os=s.os)(u:Un (frs X.stack) ch H H' s.heap s'.heap)(hok:HOk X.prog X.w H' s'.heap)(hg:AllBare s'.gens)
  (hch:∀ b∈ch,(b∈X.ex∨X.s₀.heap.objs.size≤b)∧b≠X.env.locals∧(∀ x c,X.env.cells.lookup x=some c→c≠b)∧∀ p∈X.pn++pins,p.1≠b):Inv X pins σ H' s':=by
 obtain⟨h',g',d',t',o'⟩:=s'
 have e:o'=s.os:=ho
 subst e
 exact I.call (g':=g') (t':=t') (d':=d') u hok hg hch
end
abbrev XK:=Value→Option Addr→Hp→Prop
abbrev St:=List (Option V)
abbrev VK:=V→Hp→Prop
abbrev TE:=St→Hp→VK→Prop
abbrev TT:=St→Hp→(Bool→Hp→Prop)→Prop
abbrev TA:=St→Hp→(List V→Hp→Prop)→Prop
structure Ends where
 nx:St→Hp→Prop
 rt:VK
 bk:St→Hp→Prop:=fun _ _=>False
 ct:St→Hp→Prop:=fun _ _=>False
abbrev TS:=Ends→St→Hp→Prop
def EP (X:Cx)(pins:List (Addr×Obj))(σ:St)(Q:VK)(u:Value)(s':Shared):Prop:=∃ v H',Inv X pins σ H' s'∧RelV v u∧Q v H'
def TP (X:Cx)(pins:List (Addr×Obj))(σ:St)(Q:Bool→Hp→Prop)(b:Bool)(s':Shared):Prop:=∃ H',Inv X pins σ H' s'∧Q b H'
def AP (X:Cx)(pins:List (Addr×Obj))(σ:St)(Q:List V→Hp→Prop)(us:List Value)(s':Shared):Prop:=∃ vs H',Inv X pins σ H' s'∧Vals vs us∧Q vs H'
def SP (X:Cx)(pins:List (Addr×Obj))(D:Ends)(f:Flow)(s':Shared):Prop :=
 match f with
 | .next=>∃ σ' H',Inv X pins σ' H' s'∧D.nx σ' H'
 | .brk=>∃ σ' H',Inv X pins σ' H' s'∧D.bk σ' H'
 | .cont=>∃ σ' H',Inv X pins σ' H' s'∧D.ct σ' H'
 | .ret u=>∃ v σ' H',Inv X pins σ' H' s'∧RelV v u∧D.rt v H'
def PE (X:Cx)(e:Expr)(t:TE):Prop :=
 ∀ (pins:List (Addr×Obj)) (s:Shared) (σ:St) (H:Hp) (Q:VK),Inv X pins σ H s→t σ H Q→wpAny (model X.prog X.w) X.A (eval e X.env) (EP X pins σ Q) X.xe s
def PT (X:Cx)(e:Expr)(t:TT):Prop :=
 ∀ (pins:List (Addr×Obj)) (s:Shared) (σ:St) (H:Hp) (Q:Bool→Hp→Prop),Inv X pins σ H s→t σ H Q→wpAny (model X.prog X.w) X.A (isTrue e X.env (eval e X.env)) (TP X pins σ Q) X.xe s
def PW (X:Cx)(e:Expr)(t:TT):Prop :=
 ∀ (whole:Sem Value) (pins:List (Addr×Obj)) (s:Shared) (σ:St) (H:Hp) (Q:Bool→Hp→Prop),Inv X pins σ H s→t σ H Q→wpAny (model X.prog X.w) X.A (isTrue e X.env whole) (TP X pins σ Q) X.xe s
theorem PW.pt {X:Cx}{e:Expr}{t:TT}(h:PW X e t):PT X e t:=h _
def PA (X:Cx)(es:List Expr)(t:TA):Prop :=
 ∀ (pos:Pos) (pins:List (Addr×Obj)) (s:Shared) (σ:St) (H:Hp) (Q:List V→Hp→Prop),Inv X pins σ H s→t σ H Q→wpAny (model X.prog X.w) X.A (spliced (backTo pos (starEach es X.env))) (AP X pins σ Q) X.xe s
def PS (X:Cx)(st:Stmt)(t:TS):Prop :=
 ∀ (pins:List (Addr×Obj)) (s:Shared) (σ:St) (H:Hp) (D:Ends),Inv X pins σ H s→t D σ H→wpAny (model X.prog X.w) X.A (exec st X.env) (SP X pins D) X.xe s
def PSs (X:Cx)(st:List Stmt)(t:TS):Prop :=
 ∀ (pins:List (Addr×Obj)) (s:Shared) (σ:St) (H:Hp) (D:Ends),Inv X pins σ H s→t D σ H→wpAny (model X.prog X.w) X.A (execs st X.env) (SP X pins D) X.xe s
theorem thn {α:Type}{t:Sem α}{Q Q':α→Shared→Prop}{M:Model}{A:Around}{E:Value→Shared→Prop}{s:Shared}(h:wpAny M A t Q E s)(hQ:∀ a s,Q a s→Q' a s):wpAny M A t Q' E s:=wpAny_mono h hQ fun _ _ x=>x
end L2
namespace L2
open PySem PySem.Spec PyProof.Rows
section
variable {X:Cx}
theorem bin {a b:Expr}{ta tb:TE}(ha:PE X a ta)(hb:PE X b tb){pins:List (Addr×Obj)}{s:Shared}{σ:St}{H:Hp}{R:V→V→Hp→Prop}(I:Inv X pins σ H s)(h:ta σ H fun x H1=>tb σ H1 fun y H2=>R x y H2)
  {α:Type} {Q:α→Shared→Prop} {f:Value→Value→Sem α}
  (hf:∀ v u s2 x y H2,Inv X pins σ H2 s2→RelV x v→RelV y u→R x y H2→wpAny (model X.prog X.w) X.A (f v u) Q X.xe s2) :
  wpAny (model X.prog X.w) X.A (eval a X.env) (fun v s₁=>wpAny (model X.prog X.w) X.A (eval b X.env) (fun u s₂=>wpAny (model X.prog X.w) X.A (f v u) Q X.xe s₂) X.xe s₁) X.xe s:=by
 refine thn (ha pins s σ H _ I h) fun v s1 ⟨x,H1,I1,r1,q1⟩=>?_
 refine thn (hb pins s1 σ H1 _ I1 q1) fun u s2 ⟨y,H2,I2,r2,q2⟩=>?_
 exact hf v u s2 x y H2 I2 r1 r2 q2
def tVar (i:Nat):TE:=fun σ H Q=>∃ v,σ[i]?=some (some v)∧Q v H
def tC (v:V):TE:=fun _ H Q=>Q v H
theorem fP {i:Nat}{x:Str}{pos:Pos}(hN:X.N[i]?=some x)(hv:Vis X.env.scope x)(hd:(x==("__debug__":Str))=false:=by decide)(hcd:(x==("__classdict__":Str))=false:=by decide):PE X (.Name x pos) (tVar i):=by
 intro pins s σ H Q I h
 obtain⟨v,e,h⟩:=h
 obtain⟨m,hn,hl⟩:=I.loc
 obtain⟨u,r,l⟩:=hl i x v hN e hv
 have fin:EP X pins σ Q u s:=⟨v,H,I,r,h⟩
 rcases l with ⟨hk,hm⟩ | ⟨hk,c,hc,hcell⟩
 ·exact wpAny_Name (wpAny_loadName_local I.ok.kind hk hn hm fin) hd
 ·rcases hk with hk | hk
  ·exact wpAny_Name (wpAny_loadName_cell I.ok.kind hk hc hcell fin) hd
  ·exact wpAny_Name (wpAny_loadName_free I.ok.kind hk hc hcell fin hcd) hd
theorem vL {i j pos}:PE X (.Constant (.int i) j pos) (tC (.int i)):=fun _ _ _ H _ I h=>wpAny_Constant_int ⟨.int i,H,I.tok _,⟨_,rfl⟩,h⟩
theorem wO {b j pos}:PE X (.Constant (.bool b) j pos) (tC (.bl b)):=fun _ _ _ H _ I h=>Constant_bool ⟨.bl b,H,I,rfl,h⟩
theorem vM {j pos}:PE X (.Constant .none j pos) (tC .non):=fun _ _ _ H _ I h=>Constant_none ⟨.non,H,I,rfl,h⟩
theorem vN {x j pos}:PE X (.Constant (.str x) j pos) (tC (.str x)):=fun _ _ _ H _ I h=>Calls.Constant_str ⟨.str x,H,I.tok _,⟨_,rfl⟩,h⟩
def Gl (X:Cx)(x:Str):Prop:=X.env.kindOf x=some .globalImplicit
theorem kg {E:Value→Shared→Prop}{pins:List (Addr×Obj)}{s:Shared}{σ:St}{H:Hp}{x:Str}{u:Value}{pos:Pos}{Q:Value→Shared→Prop}(I:Inv X pins σ H s)(hg:Gl X x)(hm:X.mg x=some u)(h:Q u s)
  (hd:(x==("__debug__":Str))=false:=by decide):wpAny (model X.prog X.w) X.A (eval (.Name x pos) X.env) Q E s :=
 Calls.Name_function_global I.ok.kind hg (Calls.loadGlobal_global (by rw[I.ok.glob];exact I.mod.glob.keeps I.bk) hm h) hd
theorem ez {E:Value→Shared→Prop}{pins:List (Addr×Obj)}{s:Shared}{σ:St}{H:Hp}{x:Str}{u:Value}{pos:Pos}{Q:Value→Shared→Prop}(I:Inv X pins σ H s)(hg:Gl X x)(hm:X.mg x=none)(hv:bootBuiltins x=some u)(h:Q u s)
  (hn:x ≠ "__name__" := by decide) (hd:(x==("__debug__":Str))=false:=by decide):wpAny (model X.prog X.w) X.A (eval (.Name x pos) X.env) Q E s:=by
 obtain⟨mb,h1,h2⟩:=I.mod.blt
 exact Calls.Name_function_global I.ok.kind hg (Calls.loadGlobal_builtin (by rw[I.ok.glob];exact I.mod.glob.keeps I.bk) hm (by rw[I.ok.blt];exact h1.keeps I.bk) ((h2 x hn).trans hv) h) hd
theorem kh {x:Str}{v:V}{u:Value}{pos:Pos}(hg:Gl X x)(hm:X.mg x=some u)(r:RelV v u)(hd:(x==("__debug__":Str))=false:=by decide):PE X (.Name x pos) (tC v) :=
 fun _ _ _ H _ I h=>kg I hg hm ⟨v,H,I,r,h⟩ hd
theorem br {x:Str}{v:V}{u:Value}{pos:Pos}(hg:Gl X x)(hm:X.mg x=none)(hv:bootBuiltins x=some u)(r:RelV v u)(hn:x ≠ "__name__" := by decide)(hd:(x==("__debug__":Str))=false:=by decide):PE X (.Name x pos) (tC v) :=
 fun _ _ _ H _ I h=>ez I hg hm hv ⟨v,H,I,r,h⟩ hn hd
variable {a b:Expr}{ta tb:TE}{pos:Pos}
def PC (X:Cx)(op:CmpOp)(a b:Expr)(t:TE):Prop :=
 ∀ (pins:List (Addr×Obj)) (s:Shared) (σ:St) (H:Hp) (Q:VK),Inv X pins σ H s→t σ H Q →
  wpAny (model X.prog X.w) X.A (eval a X.env) (fun v s₁=>wpAny (model X.prog X.w) X.A (eval b X.env) (fun u s₂=>wpAny (model X.prog X.w) X.A (compareOp op v u) (EP X pins σ Q) X.xe s₂) X.xe s₁) X.xe s
theorem nobehind (b:Expr){op:CmpOp}(h:op≠.In)(h2:op≠.NotIn):behindInMarks op b=false:=by
 have e1:(op==CmpOp.In)=false:=by cases op<;>first | rfl | exact absurd rfl h
 have e2:(op==CmpOp.NotIn)=false:=by cases op<;>first | rfl | exact absurd rfl h2
 cases b<;>simp[behindInMarks,e1,e2]
def tB (t:TE):TT:=fun σ H Q=>t σ H fun x H1=>∃ c,x=.bl c∧Q c H1
theorem xB {op:CmpOp}{t:TE}(h:PC X op a b t)(h1:behindInMarks op b=false:=by first | exact nobehind _ (by decide) (by decide) | rfl):PT X (.Compare a [op] [b] pos) (tB t):=by
 intro pins s σ H Q I hw
 refine wpAny_isTrue_Compare1 (thn (h pins s σ H _ I hw) fun v s1 h1=>thn h1 fun u s2 h2=>thn h2 fun c s3 ⟨x,H1,I1,r1,q1⟩=>?_) h1
 obtain⟨d,rfl,q⟩:=q1
 cases r1
 exact wpAny_truthy_bool ⟨H1,I1,q⟩
theorem vO {e:Expr}{t:TE}(h:PE X e t)(he:∀ whole,isTrue e X.env whole=(do let v ← whole;standAt e.pos;holding [v] (truthy v)):=by intro _;rfl):PT X e (tB t):=by
 intro pins s σ H Q I hw
 refine isTrue_plain (thn (h pins s σ H _ I hw) fun v s1 ⟨x,H1,I1,r1,q1⟩=>?_) (he _)
 obtain⟨d,rfl,q⟩:=q1
 cases r1
 exact wpAny_truthy_bool ⟨H1,I1,q⟩
variable {tA tB':TT}{rest:List Expr}
def tAnd (t u:TT):TT:=fun σ H Q=>t σ H fun c H1=>if c=true then u σ H1 Q else Q false H1
def tOr (t u:TT):TT:=fun σ H Q=>t σ H fun c H1=>if c=true then Q true H1 else u σ H1 Q
def tNot (t:TT):TT:=fun σ H Q=>t σ H fun c H1=>Q (!c) H1
theorem tZ (ha:PT X a tA):PW X (.BoolOp .And [a] pos) tA:=by
 intro wh pins s σ H Q I h
 refine isTrue_and (thn (ha pins s σ H Q I h) fun c s1 e=>?_)
 cases c with
 | true=>exact isTrue_and_nil e
 | false=>exact e
theorem vP (ha:PT X a tA):PW X (.BoolOp .Or [a] pos) tA:=by
 intro wh pins s σ H Q I h
 refine isTrue_or (thn (ha pins s σ H Q I h) fun c s1 e=>?_)
 cases c with
 | false=>exact isTrue_or_nil e
 | true=>exact e
theorem vQ (ha:PT X a tA)(hb:PW X (.BoolOp .And (b::rest) pos) tB'):PW X (.BoolOp .And (a::b::rest) pos) (tAnd tA tB'):=by
 intro wh pins s σ H Q I h
 refine isTrue_and (thn (ha pins s σ H _ I h) fun c s1 ⟨H1,I1,q1⟩=>?_)
 cases c with
 | true=>exact hb wh pins s1 σ H1 Q I1 q1
 | false=>exact⟨H1,I1,q1⟩
theorem wQ (ha:PT X a tA)(hb:PW X (.BoolOp .Or (b::rest) pos) tB'):PW X (.BoolOp .Or (a::b::rest) pos) (tOr tA tB'):=by
 intro wh pins s σ H Q I h
 refine isTrue_or (thn (ha pins s σ H _ I h) fun c s1 ⟨H1,I1,q1⟩=>?_)
 cases c with
 | true=>exact⟨H1,I1,q1⟩
 | false=>exact hb wh pins s1 σ H1 Q I1 q1
theorem vR (ha:PT X a tA):PT X (.UnaryOp .Not a pos) (tNot tA):=by
 intro pins s σ H Q I h
 exact isTrue_not (ha pins s σ H (fun c H1=>Q (!c) H1) I h)
def tAndV (ta tb:TE):TE:=fun σ H Q=>ta σ H fun x H1=>∃ c,x=.bl c∧if c=true then tb σ H1 Q else Q (.bl false) H1
def tNotV (ta:TE):TE:=fun σ H Q=>ta σ H fun x H1=>∃ c,x=.bl c∧Q (.bl (!c)) H1
theorem vS {op}{t:TE}(h:PE X a t):PE X (.BoolOp op [a] pos) t:=fun pins s σ H Q I hw=>BoolOp_one (h pins s σ H Q I hw)
theorem vT (ha:PE X a ta)(hb:PE X (.BoolOp .And (b::rest) pos) tb):PE X (.BoolOp .And (a::b::rest) pos) (tAndV ta tb):=by
 intro pins s σ H Q I h
 refine BoolOp_and (thn (ha pins s σ H _ I h) fun v s1 ⟨x,H1,I1,r1,q1⟩=>?_)
 obtain⟨c,rfl,q1⟩:=q1
 cases r1
 refine wpAny_truthy_bool ?_
 cases c with
 | true=>exact hb pins s1 σ H1 Q I1 q1
 | false=>exact⟨.bl false,H1,I1,rfl,q1⟩
theorem vU (ha:PE X a ta):PE X (.UnaryOp .Not a pos) (tNotV ta):=by
 intro pins s σ H Q I h
 refine UnaryOp_ (thn (ha pins s σ H _ I h) fun v s1 ⟨x,H1,I1,r1,q1⟩=>?_)
 obtain⟨c,rfl,q1⟩:=q1
 cases r1
 exact not_of (wpAny_truthy_bool ⟨.bl (!c),H1,I1,rfl,q1⟩)
def tIf (t:TT)(ta tb:TE):TE:=fun σ H Q=>t σ H fun c H1=>if c=true then ta σ H1 Q else tb σ H1 Q
theorem qM {c:Expr}(hc:PT X c tA)(ha:PE X a ta)(hb:PE X b tb):PE X (.IfExp c a b pos) (tIf tA ta tb):=by
 intro pins s σ H Q I h
 refine wpAny_IfExp (thn (hc pins s σ H _ I h) fun d s1 ⟨H1,I1,q1⟩=>?_)
 cases d with
 | true=>exact ha pins s1 σ H1 Q I1 q1
 | false=>exact hb pins s1 σ H1 Q I1 q1
end
end L2
namespace L2
open PySem PySem.Spec PyProof.Rows
def SqL (K:PySem.W.Frag)(H:Hp)(a:Addr)(xs:List V):Prop :=
 Rd H a (.lst xs) ∨
  ∃ (o:Obj) (its:Array Value) (n:Nat),K.lookup a=some o∧o.cls=.type "list" ∧ o.dict=none∧o.data=.seq its n∧its.size≤sizeLine∧Vals xs its.toList
def SqT (K:PySem.W.Frag)(H:Hp)(a:Addr)(xs:List V):Prop :=
 Rd H a (.tup xs) ∨
  ∃ (o:Obj) (its:Array Value) (n:Nat),K.lookup a=some o∧o.cls=.type "tuple" ∧ o.dict=none∧o.data=.seq its n∧its.size≤sizeLine∧Vals xs its.toList
def absV:Value→Option V
 | .none=>some .non
 | .bool b=>some (.bl b)
 | .int i _=>some (.int i)
 | .str x _=>some (.str x)
 | .bytes b _=>some (.byt b)
 | .float b _=>some (.flt b)
 | .ref a=>some (.ref a)
 | .type n=>some (.ty n)
 | _=>none
theorem RelV.abs {x:V}{u:Value}(r:RelV x u):absV u=some x:=by
 cases x with
 | non=>cases r;rfl
 | bl _=>cases r;rfl
 | int _=>obtain⟨t,rfl⟩:=r;rfl
 | str _=>obtain⟨t,rfl⟩:=r;rfl
 | byt _=>obtain⟨t,rfl⟩:=r;rfl
 | flt _=>obtain⟨t,rfl⟩:=r;rfl
 | ref _=>cases r;rfl
 | ty _=>cases r;rfl
theorem RelV.inj {x y:V}{u:Value}(r:RelV x u)(q:RelV y u):x=y:=Option.some.inj (r.abs.symm.trans q.abs)
theorem Vals.inj:∀ {xs ys:List V} {us:List Value},Vals xs us→Vals ys us→xs=ys
 | _,_,_,.nil,.nil=>rfl
 | _,_,_,.cons r t,.cons r' t'=>by rw[r.inj r',Vals.inj t t']
section
variable {X:Cx}{pins:List (Addr×Obj)}{σ:St}{H:Hp}{s:Shared}{a:Addr}{xs ys:List V}
theorem SqL.of {K:PySem.W.Frag}(h:H a=some (.lst xs)):SqL K H a xs:=.inl (.inl h)
theorem SqT.of {K:PySem.W.Frag}(h:H a=some (.tup xs)):SqT K H a xs:=.inl (.inl h)
theorem Inv.list (I:Inv X pins σ H s)(h:SqL X.K H a xs):∃ its:List Value,Vals xs its∧PlainL s.heap a its.toArray∧xs.length≤sizeLine:=by
 rcases h with h | ⟨o,its,n,hk,hc,hd,hs,hz,r⟩
 ·obtain⟨z,its,n,r,e⟩:=h.ok I.hok
  exact⟨its,r,⟨_,n,e,rfl,rfl,rfl⟩,z⟩
 ·refine⟨its.toList,r,⟨o,n,I.kIn a o hk,hc,hd,by simpa using hs⟩,?_⟩
  have e:=r.length
  simp only[Array.length_toList]at e
  omega
theorem Inv.tuple (I:Inv X pins σ H s)(h:SqT X.K H a xs):∃ its:List Value,Vals xs its∧IsTup s.heap a its.toArray∧xs.length≤sizeLine:=by
 rcases h with h | ⟨o,its,n,hk,hc,_,hs,hz,r⟩
 ·obtain⟨z,its,r,p⟩:=h.ok I.hok
  exact⟨its,r,p.is,z⟩
 ·refine⟨its.toList,r,⟨o,I.kIn a o hk,hc,n,by simpa using hs⟩,?_⟩
  have e:=r.length
  simp only[Array.length_toList]at e
  omega
theorem Inv.list_inj (I:Inv X pins σ H s)(h:SqL X.K H a xs)(h':SqL X.K H a ys):xs=ys:=by
 obtain⟨its,r,⟨o,n,e,_,_,d⟩,_⟩:=I.list h
 obtain⟨its',r',⟨o',n',e',_,_,d'⟩,_⟩:=I.list h'
 rw[e]at e';cases e'
 rw[d]at d'
 injection d' with d1 _
 have:its=its':=by simpa using congrArg Array.toList d1
 subst this
 exact r.inj r'
theorem Inv.tuple_inj (I:Inv X pins σ H s)(h:SqT X.K H a xs)(h':SqT X.K H a ys):xs=ys:=by
 obtain⟨its,r,⟨o,e,_,n,d⟩,_⟩:=I.tuple h
 obtain⟨its',r',⟨o',e',_,n',d'⟩,_⟩:=I.tuple h'
 rw[e]at e';cases e'
 rw[d]at d'
 injection d' with d1 _
 have:its=its':=by simpa using congrArg Array.toList d1
 subst this
 exact r.inj r'
end
section
variable {X:Cx}{pins:List (Addr×Obj)}{σ:St}{H:Hp}{s:Shared}{E:Value→Shared→Prop}
end
section
variable {X:Cx}{st:Stmt}{rest:List Stmt}{t u:TS}{e:Expr}{te:TE}{pos:Pos}
def tNext:TS:=fun D σ H=>D.nx σ H
def tSeq (t u:TS):TS:=fun D σ H=>t { D with nx:=u D } σ H
theorem t4:PSs X [] tNext:=fun _ _ σ H _ I h=>wpAny_execs_nil ⟨σ,H,I,h⟩
theorem dg (h1:PS X st t)(h2:PSs X rest u):PSs X (st::rest) (tSeq t u):=by
 intro pins s σ H D I h
 refine wpAny_execs_cons (thn (h1 pins s σ H { D with nx:=u D } I h) fun f s1 q=>?_)
 cases f with
 | next =>
  obtain⟨σ',H',I',q⟩:=q
  exact h2 pins s1 σ' H' D I' q
 | ret v=>exact q
 | brk=>exact q
 | cont=>exact q
theorem t5 (h1:PS X st t):PSs X [st] t:=by
 intro pins s σ H D I h
 refine wpAny_execs_cons (thn (h1 pins s σ H D I h) fun f s1 q=>?_)
 cases f with
 | next=>exact wpAny_execs_nil q
 | ret v=>exact q
 | brk=>exact q
 | cont=>exact q
theorem Inv.quiet {pins:List (Addr×Obj)}{σ:St}{H:Hp}{s:Shared}(I:Inv X pins σ H s):interactive X.env=false:=by simp[interactive,I.ok.kind]
def tDrop (te:TE):TS:=fun D σ H=>te σ H fun _ H1=>D.nx σ H1
theorem ki (he:PE X e te)(hs:swapsWith e none pos.line X.env=pure false:=by rfl):PS X (.Expr e pos) (tDrop te):=by
 intro pins s σ H D I h
 exact wpAny_Expr_any (thn (he pins s σ H _ I h) fun v s1 ⟨x,H1,I1,r1,q1⟩=>⟨σ,H1,I1,q1⟩) I.quiet hs
def tRet (te:TE):TS:=fun D σ H=>te σ H D.rt
theorem vV (he:PE X e te):PS X (.Return (some e) pos) (tRet te):=by
 intro pins s σ H D I h
 exact wpAny_Return_some (thn (he pins s σ H _ I h) fun v s1 ⟨x,H1,I1,r1,q1⟩=>⟨x,σ,H1,I1,r1,q1⟩)
def tIfS (c:TT)(t u:TS):TS:=fun D σ H=>c σ H fun b H1=>if b=true then t D σ H1 else u D σ H1
theorem wR {c:Expr}{a b:List Stmt}{tc:TT}(hc:PT X c tc)(ha:PSs X a t)(hb:PSs X b u):PS X (.If c a b pos) (tIfS tc t u):=by
 intro pins s σ H D I h
 refine wpAny_If (thn (hc pins s σ H _ I h) fun d s1 ⟨H1,I1,q1⟩=>?_)
 cases d with
 | true=>exact ha pins s1 σ H1 D I1 q1
 | false=>exact hb pins s1 σ H1 D I1 q1
def tNever:TS:=fun _ _ _=>False
theorem jE {sts:List Stmt}:PSs X sts tNever:=fun _ _ _ _ _ _ h=>h.elim
end
abbrev TG:=V→St→Hp→(St→Hp→Prop)→Prop
abbrev TGs:=List V→St→Hp→(St→Hp→Prop)→Prop
def PG (X:Cx)(target:Expr)(t:TG):Prop :=
 ∀ (pins:List (Addr×Obj)) (s:Shared) (σ:St) (H:Hp) (v:V) (u:Value) (Q:St→Hp→Prop),Inv X pins σ H s→RelV v u→t v σ H Q →
  wpAny (model X.prog X.w) X.A (assign target X.env u) (fun _ s'=>∃ σ' H',Inv X pins σ' H' s'∧Q σ' H') X.xe s
def PGs (X:Cx)(ts:List Expr)(t:TGs):Prop :=
 ∀ (pins:List (Addr×Obj)) (s:Shared) (σ:St) (H:Hp) (vs:List V) (us:List Value) (Q:St→Hp→Prop),Inv X pins σ H s→Vals vs us→t vs σ H Q →
  wpAny (model X.prog X.w) X.A (assignInOrder ((assignEach ts X.env).map (·.2)) us) (fun _ s'=>∃ σ' H',Inv X pins σ' H' s'∧Q σ' H') X.xe s
abbrev TSet:=V→V→V→Hp→(Hp→Prop)→Prop
def PSet (X:Cx)(t:TSet):Prop :=
 ∀ (pins:List (Addr×Obj)) (s:Shared) (σ:St) (H:Hp) (o i v:V) (ov iv u:Value) (Q:Hp→Prop),Inv X pins σ H s→RelV o ov→RelV i iv→RelV v u→t o i v H Q →
  wpAny (model X.prog X.w) X.A (setItem ov iv u) (fun _ s'=>∃ H',Inv X pins σ H' s'∧Q H') X.xe s
section
variable {X:Cx}{pos:Pos}
def gName (i:Nat):TG:=fun v σ H Q=>Q (σ.set i (some v)) H
theorem eY {i:Nat}{x:Str}(hN:X.N.Nodup)(hi:X.N[i]?=some x)(hx:Loc X.env.scope x)(hf:X.fn x=true∨X.env.scope.names.lookup x=some .local:=by first | exact .inl rfl | exact .inr rfl | assumption):PG X (.Name x pos) (gName i):=by
 intro pins s σ H v u Q I r h
 exact wpAny_assign_Name (eX I hN hi hx r (fun s' I'=>⟨_,H,I',h⟩) hf)
def gNil:TGs:=fun vs σ H Q=>vs=[]∧Q σ H
def gCons (t:TG)(u:TGs):TGs:=fun vs σ H Q=>∃ v r,vs=v::r∧t v σ H fun σ' H'=>u r σ' H' Q
theorem n4:PGs X [] gNil:=by
 intro pins s σ H vs us Q I r h
 obtain⟨e,h⟩:=h
 subst e
 cases r
 exact assignInOrder_nil ⟨σ,H,I,h⟩
theorem eZ {e:Expr}{es:List Expr}{t:TG}{u:TGs}(h1:PG X e t)(h2:PGs X es u)
  (hs:(assignEach (e::es) X.env).map (·.2)=assign e X.env::(assignEach es X.env).map (·.2):=by rfl):PGs X (e::es) (gCons t u):=by
 intro pins s σ H vs us Q I r h
 obtain⟨v,vr,e1,h⟩:=h
 subst e1
 cases r with
 | cons r rr =>
  rw[hs]
  refine assignInOrder_cons (thn (h1 pins s σ H _ _ _ I r h) fun _ s1 ⟨σ1,H1,I1,q1⟩=>?_)
  exact h2 pins s1 σ1 H1 _ _ Q I1 rr q1
def gTup (K:PySem.W.Frag)(n:Nat)(t:TGs):TG:=fun v σ H Q=>∃ a xs,v=.ref a∧SqT K H a xs∧xs.length=n∧t xs σ H Q
theorem qN {es:List Expr}{k:Nat}{t:TGs}{n:Nat}(hc:X.calm=true)(h:PGs X es t)
  (hn:(assignEach es X.env).length=n:=by rfl) (hst:(assignEach es X.env).findIdx? (·.1)=none:=by rfl):PG X (.Tuple es k pos) (gTup X.K n t):=by
 intro pins s σ H v u Q I r hw
 obtain⟨a,xs,e1,hq,hl,hw⟩:=hw
 subst e1
 cases r
 obtain⟨its,rv,ht,hz⟩:=I.tuple hq
 refine assign_Tuple_tuple (I.ok.hd hc) ht (by simp[hn,← hl,rv.length]) hst fun h' hx=>?_
 have I1:Inv X pins σ H { s with heap:=h' }:=I.kept (t':=s.toks) fun b o e=>hx b o (Nat.ne_of_lt (Heap.lt_size e)) e
 exact h pins _ σ H xs _ Q I1 (by simpa using rv) hw
def gSub (to ti:TE)(t:TSet):TG:=fun v σ H Q=>to σ H fun o H1=>ti σ H1 fun i H2=>t o i v H2 fun H3=>Q σ H3
theorem vW {o i:Expr}{to ti:TE}{t:TSet}(ho:PE X o to)(hi:PE X i ti)(hs:PSet X t)
  (ha:∀ v,assign (.Subscript o i pos) X.env v=(do
   let ov ← holding [v] (eval o X.env)
   let iv ← holding [v,ov] (eval i X.env)
   standAt pos
   holding [v,ov,iv] (setItem ov iv v)
   release [v,ov,iv] []):=by intro _;rfl):PG X (.Subscript o i pos) (gSub to ti t):=by
 intro pins s σ H v u Q I r h
 rw[ha]
 refine wpAny_bind (wpAny_holding (thn (ho pins s σ H _ I h) fun ov s1 ⟨x,H1,I1,r1,q1⟩=>?_))
 refine wpAny_bind (wpAny_holding (thn (hi pins s1 σ H1 _ I1 q1) fun iv s2 ⟨y,H2,I2,r2,q2⟩=>?_))
 refine wpAny_bind (wpAny_standAt (wpAny_bind (wpAny_holding (thn (hs pins s2 σ H2 x y v ov iv u _ I2 r1 r2 r q2) fun _ s3 ⟨H3,I3,q3⟩=>?_))))
 exact wpAny_release ⟨σ,H3,I3,q3⟩
def tAsg (te:TE)(g:TG):TS:=fun D σ H=>te σ H fun x H1=>g x σ H1 D.nx
theorem qO {tg e:Expr}{te:TE}{g:TG}(he:PE X e te)(hg:PG X tg g)(hs:swapsWithSole [tg] e pos.line X.env=pure false:=by rfl)(hw:swappedStores [tg] e X.env=pure none:=by rfl)
  (h1:(assignEach [tg] X.env).map (·.2)=[assign tg X.env]:=by rfl):PS X (.Assign [tg] e pos) (tAsg te g):=by
 intro pins s σ H D I h
 refine wpAny_Assign_stores (thn (he pins s σ H _ I h) fun v s1 ⟨x,H1,I1,r1,q1⟩=>?_) hs hw
 rw[h1]
 exact thn (hg pins s1 σ H1 x v _ I1 r1 q1) fun _ s2 q=>q
theorem qP {i:Nat}{x:Str}{e:Expr}{te:TE}{pos':Pos}(hN:X.N.Nodup)(hi:X.N[i]?=some x)(hx:Loc X.env.scope x)(he:PE X e te)(hs:swapsWith e (some (.Name x pos')) pos.line X.env=pure false:=by rfl)(hf:X.fn x=true∨X.env.scope.names.lookup x=some .local:=by first | exact .inl rfl | exact .inr rfl | assumption) :
  PS X (.Assign [.Name x pos'] e pos) (tAsg te (gName i)):=by
 intro pins s σ H D I h
 refine wpAny_Assign_Name (thn (he pins s σ H _ I h) fun v s1 ⟨y,H1,I1,r1,q1⟩=>?_) hs
 exact eX I1 hN hi hx r1 (fun s2 I2=>⟨_,H1,I2,q1⟩) hf
def tPar (i j:Nat)(ta:TA):TS:=fun D σ H=>ta σ H fun vs H1=>∃ v w,vs=[v,w]∧D.nx ((σ.set i (some v)).set j (some w)) H1
theorem qQ {i j:Nat}{x y:Str}{a b:Expr}{ta:TA}{px py pt:Pos}{kt k2 pt2}(hc:X.calm=true)(hN:X.N.Nodup)(hi:X.N[i]?=some x)(hj:X.N[j]?=some y)(hij:i≠j)
  (hx:X.env.scope.names.lookup x=some .local) (hy:X.env.scope.names.lookup y=some .local) (ha:PA X [a,b] ta)
  (hw:swappedStores [.Tuple [.Name x px,.Name y py] kt pt] (.Tuple [a,b] k2 pt2) X.env=pure (some [x,y]))
  (hs:swapsWithSole [.Tuple [.Name x px,.Name y py] kt pt] (.Tuple [a,b] k2 pt2) pos.line X.env=pure false:=by rfl) :
  PS X (.Assign [.Tuple [.Name x px,.Name y py] kt pt] (.Tuple [a,b] k2 pt2) pos) (tPar i j ta):=by
 intro pins s σ H D I h
 rw[exec_Assign_arm]
 refine wpAny_bind (wpAny_standAt ?_)
 rw[hs]
 refine wpAny_bind (wpAny_pure ?_)
 rw[if_neg (by decide)]
 refine wpAny_bind (Tuple_ (thn (ha _ pins s σ H _ I h) fun us s1 ⟨vs,H1,I1,r1,q1⟩=>?_))
 obtain⟨v,w,e1,q1⟩:=q1
 subst e1
 obtain⟨u1,u2,rfl,rv,rw'⟩:∃ u1 u2,us=[u1,u2]∧RelV v u1∧RelV w u2:=by
  cases r1 with
  | cons p q =>
   cases q with
   | cons p' q' =>
    cases q'
    exact⟨_,_,rfl,p,p'⟩
 refine wpAny_newObj_type ?_ (by show 2≤sizeLine;decide)
 have I2:Inv X pins σ H1 { s1 with heap:=s1.heap.push { cls:=.type "tuple",data:=.seq [u1,u2].toArray } }:=I1.kept (t':=s1.toks) fun b o e=>Heap.get?_push_of_some _ e
 rw[hw]
 refine wpAny_bind (wpAny_pure ?_)
 show wpAny (model X.prog X.w) X.A (do rule "assign.swapped-stores";let items ← unpackItems (.ref s1.heap.objs.size) 2 none;assignInOrder [fun v=>bindName X.env y v,fun v=>bindName X.env x v] items.reverse;pure Flow.next) _ _ _
 refine wpAny_bind (wpAny_rule (wpAny_bind (unpackItems_tuple (items:=#[u1,u2]) (I.ok.hd hc) (IsTup.new s1.heap _) fun h' hx'=>?_)))
 have I3:=I2.kept (h':=h') (t':=s1.toks) fun b o e=>hx' b o (Nat.ne_of_lt (Heap.lt_size e)) e
 show wpAny _ _ (assignInOrder [fun v=>bindName X.env y v,fun v=>bindName X.env x v] [u2,u1] >>= fun _=>pure Flow.next) _ _ _
 refine wpAny_bind (assignInOrder_cons (wpAny_bindName (eX I3 hN hj (.inl hy) rw' (fun s2 I4=>?_) (.inr hy))))
 refine assignInOrder_cons (wpAny_bindName (eX I4 hN hi (.inl hx) rv (fun s3 I5=>assignInOrder_nil (wpAny_pure ?_)) (.inr hx)))
 rw[List.set_comm _ _ (Ne.symm hij)]at I5
 exact⟨_,H1,I5,q1⟩
end
section
variable {X:Cx}{pos:Pos}
end
structure It where
 go:Nat→Hp→Prop
 yld:Nat→Hp→V→Hp→Prop
 stop:Nat→Hp→Prop
def FpOk (X:Cx)(pins:List (Addr×Obj))(H:Hp)(b:Addr):Prop :=
 H b=none∧b≠X.env.locals∧b∉X.fs∧(b∈X.ex∨X.s₀.heap.objs.size≤b)∧(∀ x c,X.env.cells.lookup x=some c→c≠b)∧∀ p∈X.pn++pins,p.1≠b
theorem Inv.fpOk {X:Cx}{pins:List (Addr×Obj)}{σ:St}{H H':Hp}{s:Shared}{b:Addr}(I:Inv X pins σ H s)(hb:s.heap.objs.size≤b)(hn:H' b=none):FpOk X pins H' b:=by
 refine⟨hn,Nat.ne_of_gt (Nat.lt_of_lt_of_le I.lt hb),I.nofs hb,.inr (Nat.le_trans I.sz hb),fun x c e z=>?_,fun p hp z=>?_⟩
 ·obtain⟨v,q⟩:=I.cell x c e
  exact absurd (Nat.lt_of_lt_of_le q.lt (by rw[z];exact hb)) (Nat.lt_irrefl _)
 ·exact absurd (Nat.lt_of_lt_of_le (Heap.lt_size (I.pin p hp).1) (by rw[z];exact hb)) (Nat.lt_irrefl _)
structure Turn (P:Program)(w:World)(K:PySem.W.Frag)(tg:Expr)(J:It)(fp:List Addr)(it:Addr)(tn:Nat→Heap→Prop):Prop where
 mem:it∈fp
 obj:∀ i h,tn i h→∀ b∈fp,∃ o,h.get? b=some o∧∀ v,o.data≠.cell v
 keep:∀ i h h',tn i h→(∀ b∈fp,∀ o,h.get? b=some o→h'.get? b=some o)→tn i h'
 item:∀ (X:Cx),X.prog=P→X.w=w→X.K=K→X.calm=true→∀ (i:Nat) (pins:List (Addr×Obj)) (s:Shared) (σ:St) (H:Hp) (E:Value→Shared→Prop),Inv X pins σ H s→(∀ b∈fp,FpOk X pins H b)→tn i s.heap→J.go i H →
  wpAny (model P w) X.A (pyNext (.ref it)) (fun r s1=>∃ u,r=some u ∧
   wpAny (model P w) X.A (letOwnedTupleGo tg (.ref it) u) (fun _ s2=>∃ x H',Inv X pins σ H' s2∧RelV x u∧J.yld i H x H'∧tn (i+1) s2.heap∧∀ b∈fp,H' b=none) E s1) E s
 done:∀ (X:Cx),X.prog=P→X.w=w→X.K=K→X.calm=true→∀ (i:Nat) (pins:List (Addr×Obj)) (s:Shared) (σ:St) (H:Hp) (E:Value→Shared→Prop),Inv X pins σ H s→(∀ b∈fp,FpOk X pins H b)→tn i s.heap→J.stop i H →
  wpAny (model P w) X.A (pyNext (.ref it)) (fun r s1=>r=none∧Inv X pins σ H s1) E s
 self:∀ (A:Around) (i:Nat) (s:Shared) (Q:Value→Shared→Prop) (E:Value→Shared→Prop),tn i s.heap→Q (.ref it) s→wpAny (model P w) A (pyIter (.ref it)) Q E s
abbrev TI:=St→Hp→(It→Hp→Prop)→Prop
def PIE (X:Cx)(pins:List (Addr×Obj))(σ:St)(tg:Expr)(R:It→Hp→Prop)(itv:Value)(s2:Shared):Prop :=
 ∃ (it:Addr) (fp:List Addr) (tn:Nat→Heap→Prop) (J:It) (H':Hp),itv=.ref it∧Inv X pins σ H' s2∧Turn X.prog X.w X.K tg J fp it tn∧tn 0 s2.heap∧(∀ b∈fp,FpOk X pins H' b)∧R J H'
def PI (X:Cx)(tg iter:Expr)(wi:TI):Prop :=
 ∀ (pins:List (Addr×Obj)) (s:Shared) (σ:St) (H:Hp) (R:It→Hp→Prop),Inv X pins σ H s→wi σ H R →
  wpAny (model X.prog X.w) X.A (eval iter X.env) (fun v s1=>wpAny (model X.prog X.w) X.A (pyIter v) (PIE X pins σ tg R) X.xe s1) X.xe s
theorem qR {M:Model}{A:Around}{E:Value→Shared→Prop}{s:Shared}{tg:Expr}{it:Addr}{u:Value}{o:Obj}{n:String}{vs:Array Value}{Q:Unit→Shared→Prop}(ho:s.heap.get? it=some o)(hc:o.cls=.type n)(hd:o.data=.fields vs)
  (hn:["enumerate","zip","dict_itemiterator","dict_reverseitemiterator","odict_iterator","itertools.zip_longest","itertools.pairwise"].contains n=false) (hQ:Q () s):wpAny M A (letOwnedTupleGo tg (.ref it) u) Q E s:=by
 unfold letOwnedTupleGo
 cases tg<;>first
  | exact wpAny_pure hQ
  | (cases u<;>first
    | exact wpAny_pure hQ
    | (refine wpAny_bind (wpAny_load ho ?_)
       rw[hc,hd]
       show wpAny M A (if (["enumerate","zip","dict_itemiterator","dict_reverseitemiterator","odict_iterator","itertools.zip_longest","itertools.pairwise"].contains n&&vs[0]?==some (rawInt _))=true then _ else _) Q E s
       rw[if_neg (by intro h;rw[hn,Bool.false_and]at h;cases h)]
       exact wpAny_pure hQ))
def Itl (K:PySem.W.Frag)(a:Addr):It :=
 ⟨fun i H=>∃ xs x,SqL K H a xs∧xs[i]?=some x,fun i H x H'=>H'=H∧∀ xs,SqL K H a xs→xs[i]?=some x,fun i H=>∃ xs,SqL K H a xs∧xs.length≤i⟩
def Itt (K:PySem.W.Frag)(a:Addr):It :=
 ⟨fun i H=>∃ xs x,SqT K H a xs∧xs[i]?=some x,fun i H x H'=>H'=H∧∀ xs,SqT K H a xs→xs[i]?=some x,fun i H=>∃ xs,SqT K H a xs∧xs.length≤i⟩
def Itr (lo:Int)(n:Nat):It:=⟨fun i _=>i < n,fun i H x H'=>H'=H∧x=.int (lo+i),fun i _=>n≤i⟩
theorem o0 {P:Program}{w:World}{K:PySem.W.Frag}{tg:Expr}(a it:Addr):Turn P w K tg (Itl K a) [it] it (fun i h=>h.IsListIter it a i) where
 mem:=by simp
 obj:=fun i h st b hb=>by
  have e:b=it:=by simpa using hb
  subst e
  obtain⟨o,e,c,d⟩:=st
  exact⟨o,e,fun v z=>by rw[d]at z;cases z⟩
 keep:=fun i h h' st k=>st.at fun o e=>k it (by simp) o e
 item:=by
  intro X hP hw hK hc i pins s σ H E I hf st hg
  subst hP hw hK
  obtain⟨xs,x,hq,hx⟩:=hg
  obtain⟨its,rv,p,hz⟩:=I.list hq
  obtain⟨u,hu,ru⟩:=rv.get hx
  obtain⟨f0,f1,f2,f3,f4,f5⟩:=hf it (by simp)
  refine wpAny_pyNext_list_item st p.isList (x:=u) (by simpa using hu) fun h' st' sb=>?_
  have I1:Inv X pins σ H { s with heap:=h' }:=I.turned (t':=s.toks) (fun b o hb e=>(sb.2 b hb).trans e) f0 f1 f3 f4 f5
  obtain⟨o,e,c,d⟩:=id st'
  exact⟨u,rfl,qR (s:={ s with heap:=h' }) e c d (by decide) ⟨x,H,I1,ru,⟨rfl,fun ys hy=>by rw[I.list_inj hy hq];exact hx⟩,st',fun b hb=>(hf b hb).1⟩⟩
 done:=by
  intro X hP hw hK hc i pins s σ H E I hf st hg
  subst hP hw hK
  obtain⟨xs,hq,hx⟩:=hg
  obtain⟨its,rv,p,hz⟩:=I.list hq
  obtain⟨f0,f1,f2,f3,f4,f5⟩:=hf it (by simp)
  have hl:=rv.length
  exact wpAny_pyNext_list_end (I.ok.hd hc) st p.isList (by simp;omega) fun h' eb=>⟨rfl,I.turned (t':=s.toks) (fun b o hb e=>eb b o hb e) f0 f1 f3 f4 f5⟩
 self:=fun _ _ _ _ _ st h=>wpAny_pyIter_listiter st h
theorem mP {P:Program}{w:World}{K:PySem.W.Frag}{tg:Expr}(a it:Addr):Turn P w K tg (Itt K a) [it] it (fun i h=>h.IsTupleIter it a i) where
 mem:=by simp
 obj:=fun i h st b hb=>by
  have e:b=it:=by simpa using hb
  subst e
  obtain⟨o,e,c,d⟩:=st
  exact⟨o,e,fun v z=>by rw[d]at z;cases z⟩
 keep:=fun i h h' st k=>st.at fun o e=>k it (by simp) o e
 item:=by
  intro X hP hw hK hc i pins s σ H E I hf st hg
  subst hP hw hK
  obtain⟨xs,x,hq,hx⟩:=hg
  obtain⟨its,rv,p,hz⟩:=I.tuple hq
  obtain⟨u,hu,ru⟩:=rv.get hx
  obtain⟨f0,f1,f2,f3,f4,f5⟩:=hf it (by simp)
  refine wpAny_pyNext_tuple_item st (show s.heap.IsTuple a its.toArray from p) (x:=u) (by simpa using hu) fun h' st' sb=>?_
  have I1:Inv X pins σ H { s with heap:=h' }:=I.turned (t':=s.toks) (fun b o hb e=>(sb.2 b hb).trans e) f0 f1 f3 f4 f5
  obtain⟨o,e,c,d⟩:=id st'
  exact⟨u,rfl,qR (s:={ s with heap:=h' }) e c d (by decide) ⟨x,H,I1,ru,⟨rfl,fun ys hy=>by rw[I.tuple_inj hy hq];exact hx⟩,st',fun b hb=>(hf b hb).1⟩⟩
 done:=by
  intro X hP hw hK hc i pins s σ H E I hf st hg
  subst hP hw hK
  obtain⟨xs,hq,hx⟩:=hg
  obtain⟨its,rv,p,hz⟩:=I.tuple hq
  obtain⟨f0,f1,f2,f3,f4,f5⟩:=hf it (by simp)
  have hl:=rv.length
  exact wpAny_pyNext_tuple_end (I.ok.hd hc) st (show s.heap.IsTuple a its.toArray from p) (by simp;omega) fun h' eb=>⟨rfl,I.turned (t':=s.toks) (fun b o hb e=>eb b o hb e) f0 f1 f3 f4 f5⟩
 self:=fun _ _ _ _ _ st h=>wpAny_pyIter_tupleiter st h
theorem mQ {P:Program}{w:World}{K:PySem.W.Frag}{tg:Expr}(it:Addr)(lo:Int)(n:Nat):Turn P w K tg (Itr lo n) [it] it (fun i h=>IsRangeIter h it (lo+(i:Nat)*1) ((n:Int) - (i:Nat)) 1) where
 mem:=by simp
 obj:=fun i h st b hb=>by
  have e:b=it:=by simpa using hb
  subst e
  exact⟨_,st,fun v z=>by
   have z':Data.fields _=Data.cell v:=z
   cases z'⟩
 keep:=fun i h h' st k=>k it (by simp) _ st
 item:=by
  intro X hP hw hK hc i pins s σ H E I hf st hg
  subst hP hw hK
  obtain⟨f0,f1,f2,f3,f4,f5⟩:=hf it (by simp)
  have W:=Walks.range (prog:=X.prog) (w:=X.w) (I.ok.hd hc) it lo 1 n
  refine W.item i s _ _ hg st fun v h' tk hv st' kk=>?_
  obtain⟨t,rfl⟩:=hv
  have I1:Inv X pins σ H { s with heap:=h',toks:=tk }:=I.turned (fun b o hb e=>kk b o (by simpa using hb) e) f0 f1 f3 f4 f5
  refine⟨_,rfl,qR (s:={ s with heap:=h',toks:=tk }) (n := "range_iterator") st' rfl rfl (by decide) ⟨.int (lo+i),H,I1,⟨t,?_⟩,⟨rfl,rfl⟩,st',fun b hb=>(hf b hb).1⟩⟩
  rw[Int.mul_one]
 done:=by
  intro X hP hw hK hc i pins s σ H E I hf st hg
  subst hP hw hK
  obtain⟨f0,f1,f2,f3,f4,f5⟩:=hf it (by simp)
  exact wpAny_pyNext_range_end (I.ok.hd hc) st (by have:n≤i:=hg;omega) fun h' eb=>⟨rfl,I.turned (t':=s.toks) (fun b o hb e=>eb b o hb e) f0 f1 f3 f4 f5⟩
 self:=fun _ _ _ _ _ st h=>wpAny_pyIter_rangeiter st h
end L2
namespace L2
open PySem PySem.Spec PyProof.Rows
section
variable {X:Cx}{tg:Expr}
theorem lz {pins:List (Addr×Obj)}{σ:St}{H:Hp}{s:Shared}{R:It→Hp→Prop}{E:Value→Shared→Prop}{lo hi:Int}{t u v:Tok}{tk:Nat}(I:Inv X pins σ H s)(h1 : -(2^62)≤lo)(h2:lo < 2^62)(h3 : -(2^62)≤hi)(h4:hi < 2^62)
  (q:R (Itr lo (hi - lo).toNat) H):wpAny (model X.prog X.w) X.A (pyIter (.ref s.heap.objs.size)) (PIE X pins σ tg R) E { s with heap:=s.heap.push { cls:=.type "range",data:=.fields #[.int lo t,.int hi u,.int 1 v] },toks:=tk }:=by
 refine wpAny_pyIter_range (IsRange.new ..) (small_one h1 h2 h3 h4) ?_
 have I1:Inv X pins σ H { s with heap:=s.heap.push { cls:=.type "range",data:=.fields #[.int lo t,.int hi u,.int 1 v] },toks:=tk }:=I.kept fun b o e=>Heap.get?_push_of_some _ e
 refine⟨(s.heap.push { cls:=.type "range",data:=.fields #[.int lo t,.int hi u,.int 1 v] }).objs.size,[(s.heap.push { cls:=.type "range",data:=.fields #[.int lo t,.int hi u,.int 1 v] }).objs.size],_,_,H,rfl,
  I1.kept (t':=tk) fun b o e=>Heap.get?_push_of_some _ e,mQ _ lo (hi - lo).toNat,?_,fun b hb=>?_,q⟩
 ·have e1:lo+((0:Nat):Int)*1=lo:=by simp
  have e2:(((hi - lo).toNat:Nat):Int) - ((0:Nat):Int)=Builtin.Range.rangeSize lo hi 1:=by rw[rangeSize_one];split<;>omega
  show IsRangeIter _ _ (lo+((0:Nat):Int)*1) ((((hi - lo).toNat:Nat):Int) - ((0:Nat):Int)) 1
  rw[e1,e2]
  exact Heap.get?_push_size _ rfl
 ·have e:b=(s.heap.push { cls:=.type "range",data:=.fields #[.int lo t,.int hi u,.int 1 v] }).objs.size:=by simpa using hb
  subst e
  exact I1.fpOk (Nat.le_refl _) (I1.hok.fresh (Nat.le_refl _))
def iRng1 (ta:TA):TI:=fun σ H R=>ta σ H fun vs H1=>∃ j:Int,vs=[.int j]∧-(2^62)≤j∧j < 2^62∧R (Itr 0 j.toNat) H1
def iRng2 (ta:TA):TI:=fun σ H R=>ta σ H fun vs H1=>∃ i j:Int,vs=[.int i,.int j]∧(-(2^62)≤i∧i < 2^62∧-(2^62)≤j∧j < 2^62)∧R (Itr i (j - i).toNat) H1
theorem o4 {a:Expr}{ta:TA}{p pos:Pos}(hg:Gl X "range")(hm:X.mg "range"=none)(ha:PA X [a] ta)(hs:starEach [a] X.env=[(false,eval a X.env)]:=by rfl):PI X tg (.Call (.Name "range" p) [a] [] pos) (iRng1 ta):=by
 intro pins s σ H R I h
 refine Call_ (ez I hg hm boot_range (PyProof.Rows.callWith_type1 (thn (ha pos pins s σ H _ I h) fun us s1 ⟨vs,H1,I1,r1,q1⟩=>?_) hs rfl))
 obtain⟨j,e,q1,q2,q⟩:=q1
 subst e
 cases r1 with
 | cons r rr =>
  cases rr
  obtain⟨t,rfl⟩:=r
  exact call_range_1 (lz I1 (by omega) (by omega) q1 q2 (by simpa using q))
theorem o5 {a b:Expr}{ta:TA}{p pos:Pos}(hg:Gl X "range")(hm:X.mg "range"=none)(ha:PA X [a,b] ta)(hs:starEach [a,b] X.env=[(false,eval a X.env),(false,eval b X.env)]:=by rfl)(hs2:starEach [b] X.env=[(false,eval b X.env)]:=by rfl) :
  PI X tg (.Call (.Name "range" p) [a,b] [] pos) (iRng2 ta):=by
 intro pins s σ H R I h
 refine Call_ (ez I hg hm boot_range (PyProof.Rows.callWith_type1 (thn (ha pos pins s σ H _ I h) fun us s1 ⟨vs,H1,I1,r1,q1⟩=>?_) (by rw[hs,hs2]) (by rw[hs2];rfl)))
 obtain⟨i,j,e,⟨q1,q2,q3,q4⟩,q⟩:=q1
 subst e
 cases r1 with
 | cons r rr =>
  cases rr with
  | cons r' rr =>
   cases rr
   obtain⟨t,rfl⟩:=r
   obtain⟨t',rfl⟩:=r'
   exact call_range_2 (lz I1 q1 q2 q3 q4 q)
def tFor (wi:TI)(g:TG)(tb:TS):TS:=fun D σ H=>wi σ H fun J H1=>∃ W:Nat→Nat→St→Hp→Prop,(∃ m,W 0 m σ H1)∧∀ i m σ H,W i m σ H →
 (J.stop i H∧D.nx σ H)∨(J.go i H∧∃ N:St→Hp→Prop,(∀ σ' H',N σ' H'→∃ m',m' < m∧W (i+1) m' σ' H')∧∀ x H',J.yld i H x H'→g x σ H' fun σ2 H2=>tb { D with nx:=N,ct:=N,bk:=D.nx } σ2 H2)
def pinsAt (fp:List Addr)(h:Heap):List (Addr×Obj):=fp.filterMap fun b=>(h.get? b).map fun o=>(b,o)
theorem cD {fp:List Addr}{h:Heap}{b:Addr}{o:Obj}(hb:b∈fp)(e:h.get? b=some o):(b,o)∈pinsAt fp h:=List.mem_filterMap.mpr ⟨b,hb,by rw[e];rfl⟩
theorem o6 {fp:List Addr}{h:Heap}{p:Addr×Obj}(hp:p∈pinsAt fp h):p.1∈fp∧h.get? p.1=some p.2:=by
 obtain⟨b,hb,e⟩:=List.mem_filterMap.mp hp
 cases q:h.get? b with
 | none=>rw[q]at e;cases e
 | some o =>
  rw[q]at e
  have e':(b,o)=p:=Option.some.inj e
  subst e'
  exact⟨hb,q⟩
theorem Inv.pinned {pins:List (Addr×Obj)}{σ:St}{H:Hp}{s:Shared}{fp:List Addr}(I:Inv X pins σ H s)(hf:∀ b∈fp,FpOk X pins H b)(ho:∀ b∈fp,∃ o,s.heap.get? b=some o∧∀ v,o.data≠.cell v):Inv X (pins++pinsAt fp s.heap) σ H s :=
 I.pins_of fun p hp=>(List.mem_append.mp hp).elim (fun z=>I.pin p (List.mem_append_right _ z)) fun z=>by
  obtain⟨hb,e⟩:=o6 z
  obtain⟨f0,f1,f2,_⟩:=hf p.1 hb
  obtain⟨o,e',d⟩:=ho p.1 hb
  rw[e]at e';cases e'
  exact⟨e,f0,f1,f2,d⟩
theorem Inv.unpinned {pins pl:List (Addr×Obj)}{σ:St}{H:Hp}{s:Shared}(I:Inv X (pins++pl) σ H s):Inv X pins σ H s:=I.pins_of fun p hp=>I.pin p (List.mem_append_right _ (List.mem_append_left _ hp))
theorem vX {iter:Expr}{body:List Stmt}{wi:TI}{g:TG}{tb:TS}{pos:Pos}(hp:PassesOwn (model X.prog X.w) X.A X.env X.xe)(hc:X.calm=true)(hi:PI X tg iter wi)(hg:PG X tg g)(hb:PSs X body tb)
  (hs:∀ x,foldedSetIterable iter X.env x=pure x:=by intro _;rfl):PS X (.For tg iter body [] pos) (tFor wi g tb):=by
 intro pins s σ H D I h
 refine wpAny_For (thn (hi pins s σ H _ I h) fun v s1 h1=>thn h1 fun itv s2 h2=>?_) hs
 obtain⟨it,fp,tn,J,H2,e,I2,T,st2,f2,W,⟨m0,w0⟩,turn⟩:=h2
 subst e
 have stat:∀ {H':Hp},(∀ b∈fp,H' b=none)→∀ b∈fp,FpOk X pins H' b:=fun hn b hb=>⟨hn b hb,(f2 b hb).2⟩
 refine codeAny_forLoop_any (fun n s'=>∃ i σ' H',Inv X pins σ' H' s'∧tn i s'.heap∧(∀ b∈fp,H' b=none)∧W i n σ' H') ?_ m0 ⟨0,σ,H2,I2,st2,fun b hb=>(f2 b hb).1,w0⟩
 rintro n s3 ⟨i,σ3,H3,I3,st3,fr3,w3⟩
 rcases turn i n σ3 H3 w3 with ⟨stop,qn⟩ | ⟨go,N,hN,step⟩
 ·refine wpAny_passesOwn hp (thn (T.done X rfl rfl rfl hc i pins s3 σ3 H3 X.xe I3 (stat fr3) st3 stop) fun r s4 ⟨hr,I4⟩=>?_)
  subst hr
  exact wpAny_execs_nil ⟨σ3,H3,I4,qn⟩
 ·refine wpAny_passesOwn hp (thn (T.item X rfl rfl rfl hc i pins s3 σ3 H3 X.xe I3 (stat fr3) st3 go) fun r s4 ⟨u,hr,h4⟩=>?_)
  subst hr
  refine wpAny_passesOwn hp (thn h4 fun _ s5 ⟨x,H5,I5,r5,y5,st5,fr5⟩=>?_)
  have I5':=I5.pinned (stat fr5) (T.obj _ _ st5)
  refine wpAny_passesOwn hp (thn (hg _ s5 σ3 H5 x u _ I5' r5 (step x H5 y5)) fun _ s6 ⟨σ6,H6,I6,q6⟩=>?_)
  refine wpAny_passesOwn hp (thn (hb _ s6 σ6 H6 _ I6 q6) fun f s7 q7=>?_)
  have again:∀ {σ7:St} {H7:Hp},Inv X (pins++pinsAt fp s5.heap) σ7 H7 s7→N σ7 H7→∃ m,m < n∧∃ i σ' H',Inv X pins σ' H' s7∧tn i s7.heap∧(∀ b∈fp,H' b=none)∧W i m σ' H':=fun {σ7 H7} I7 n7=>by
   obtain⟨m',hm,w7⟩:=hN σ7 H7 n7
   refine⟨m',hm,i+1,σ7,H7,I7.unpinned,T.keep _ _ _ st5 fun b hb o e=>(I7.pin (b,o) (List.mem_append_right _ (List.mem_append_right _ (cD hb e)))).1,fun b hb=>?_,w7⟩
   obtain⟨o,e,d⟩:=T.obj _ _ st5 b hb
   exact(I7.pin (b,o) (List.mem_append_right _ (List.mem_append_right _ (cD hb e)))).2.1
  cases f with
  | next=>obtain⟨σ7,H7,I7,n7⟩:=q7;exact again I7 n7
  | cont=>obtain⟨σ7,H7,I7,n7⟩:=q7;exact again I7 n7
  | brk=>obtain⟨σ7,H7,I7,q7⟩:=q7;exact⟨σ7,H7,I7.unpinned,q7⟩
  | ret v=>obtain⟨x7,σ7,H7,I7,r7,q7⟩:=q7;exact⟨x7,σ7,H7,I7.unpinned,r7,q7⟩
end
end L2
namespace L2
open PySem PySem.Spec PyProof.Rows
abbrev R2:=V→V→Hp→VK→Prop
def OpR (X:Cx)(f:Value→Value→Sem Value)(r:R2):Prop :=
 ∀ (pins:List (Addr×Obj)) (s:Shared) (σ:St) (H:Hp) (x y:V) (v u:Value) (Q:VK),Inv X pins σ H s→RelV x v→RelV y u→r x y H Q →
  wpAny (model X.prog X.w) X.A (f v u) (EP X pins σ Q) X.xe s
def UnR (X:Cx)(f:Value→Sem Value)(r:V→Hp→VK→Prop):Prop :=
 ∀ (pins:List (Addr×Obj)) (s:Shared) (σ:St) (H:Hp) (x:V) (v:Value) (Q:VK),Inv X pins σ H s→RelV x v→r x H Q →
  wpAny (model X.prog X.w) X.A (f v) (EP X pins σ Q) X.xe s
def CallR (X:Cx)(f:Value)(r:List V→Hp→VK→Prop):Prop :=
 ∀ (pins:List (Addr×Obj)) (s:Shared) (σ:St) (H:Hp) (xs:List V) (us:List Value) (Q:VK),Inv X pins σ H s→Vals xs us→r xs H Q →
  wpAny (model X.prog X.w) X.A (call f us) (EP X pins σ Q) X.xe s
def tOp (r:R2)(ta tb:TE):TE:=fun σ H Q=>ta σ H fun x H1=>tb σ H1 fun y H2=>r x y H2 Q
def tUn (r:V→Hp→VK→Prop)(ta:TE):TE:=fun σ H Q=>ta σ H fun x H1=>r x H1 Q
def rI (C:Int→Int→Prop)(g:Int→Int→V):R2:=fun x y H Q=>∃ i j,x=.int i∧y=.int j∧C i j∧Q (g i j) H
def rI0 (g:Int→Int→V):R2:=fun x y H Q=>∃ i j,x=.int i∧y=.int j∧Q (g i j) H
def rU (g:Int→V):V→Hp→VK→Prop:=fun x H Q=>∃ i,x=.int i∧Q (g i) H
section
variable {X:Cx}{a b c:Expr}{ta tb tc:TE}{pos:Pos}
theorem binT (ha:PE X a ta)(hb:PE X b tb){pins:List (Addr×Obj)}{s:Shared}{σ:St}{H:Hp}{R:V→V→Hp→Prop}(I:Inv X pins σ H s)
  (h:ta σ H fun x H1=>tb σ H1 fun y H2=>R x y H2) {Q:Value→Shared→Prop} {f:Value→Value→Sem Value}
  (hf:∀ v u s2 x y H2,Inv X pins σ H2 s2→RelV x v→RelV y u→R x y H2→wpAny (model X.prog X.w) X.A (f v u) Q X.xe s2) :
  wpAny (model X.prog X.w) X.A (eval a X.env) (fun v s₁=>wpAny (model X.prog X.w) X.A (eval b X.env) (fun u s₂=>wpAny (model X.prog X.w) X.A (f v u) Q X.xe s₂) X.xe s₁) X.xe s:=by
 refine thn (ha pins s σ H _ I h) fun v s1 ⟨x,H1,I1,r1,q1⟩=>?_
 refine thn (hb pins s1 σ H1 _ I1 q1) fun u s2 ⟨y,H2,I2,r2,q2⟩=>?_
 exact hf v u s2 x y H2 I2 r1 r2 q2
theorem wS {op:Operator}{r:R2}(ho:OpR X (binaryOp op) r)(ha:PE X a ta)(hb:PE X b tb):PE X (.BinOp a op b pos) (tOp r ta tb):=by
 intro pins s σ H Q I h
 exact wpAny_BinOp (binT ha hb I h fun v u s2 x y H2 I2 rx ry q=>ho pins s2 σ H2 x y v u Q I2 rx ry q)
theorem wT {op:UnaryOp}{r:V→Hp→VK→Prop}(ho:UnR X (unaryOp op) r)(ha:PE X a ta):PE X (.UnaryOp op a pos) (tUn r ta):=by
 intro pins s σ H Q I h
 exact UnaryOp_ (thn (ha pins s σ H _ I h) fun v s1 ⟨x,H1,I1,r1,q1⟩=>ho pins s1 σ H1 x v Q I1 r1 q1)
theorem opI {f:Value→Value→Sem Value}{C:Int→Int→Prop}{g:Int→Int→Int}
  (rule:∀ (i j:Int) (t u:Tok) (s:Shared) (Q:Value→Shared→Prop) (E:Value→Shared→Prop),C i j→Q (.int (g i j) s.toks) { s with toks:=s.toks+1 }→wpAny (model X.prog X.w) X.A (f (.int i t) (.int j u)) Q E s) :
  OpR X f (rI C fun i j=>.int (g i j)):=by
 intro pins s σ H x y v u Q I rx ry h
 obtain⟨i,j,rfl,rfl,hc,q⟩:=h
 obtain⟨t,rfl⟩:=rx
 obtain⟨t',rfl⟩:=ry
 exact rule i j t t' s _ _ hc ⟨.int (g i j),H,I.tok _,⟨_,rfl⟩,q⟩
theorem opI0 {f:Value→Value→Sem Value}{g:Int→Int→Int}
  (rule:∀ (i j:Int) (t u:Tok) (s:Shared) (Q:Value→Shared→Prop) (E:Value→Shared→Prop),Q (.int (g i j) s.toks) { s with toks:=s.toks+1 }→wpAny (model X.prog X.w) X.A (f (.int i t) (.int j u)) Q E s) :
  OpR X f (rI0 fun i j=>.int (g i j)):=by
 intro pins s σ H x y v u Q I rx ry h
 obtain⟨i,j,rfl,rfl,q⟩:=h
 obtain⟨t,rfl⟩:=rx
 obtain⟨t',rfl⟩:=ry
 exact rule i j t t' s _ _ ⟨.int (g i j),H,I.tok _,⟨_,rfl⟩,q⟩
theorem opB0 {f:Value→Value→Sem Value}{g:Int→Int→Bool}
  (rule:∀ (i j:Int) (t u:Tok) (s:Shared) (Q:Value→Shared→Prop) (E:Value→Shared→Prop),Q (.bool (g i j)) s→wpAny (model X.prog X.w) X.A (f (.int i t) (.int j u)) Q E s) :
  OpR X f (rI0 fun i j=>.bl (g i j)):=by
 intro pins s σ H x y v u Q I rx ry h
 obtain⟨i,j,rfl,rfl,q⟩:=h
 obtain⟨t,rfl⟩:=rx
 obtain⟨t',rfl⟩:=ry
 exact rule i j t t' s _ _ ⟨.bl (g i j),H,I,rfl,q⟩
def CDiv (i j:Int):Prop:=0 < j∧j < 1073741824
def CMul (i j:Int):Prop:=(-(2^64) < i∧i < 2^64)∨(-(2^64) < j∧j < 2^64)
theorem CMul.ok {i j:Int}(h:CMul i j):IntMulOk i j:=by
 rcases h with ⟨h1,h2⟩ | ⟨h1,h2⟩
 ·exact .of_left (intBits_le_64 h1 h2)
 ·exact .of_right (intBits_le_64 h1 h2)
theorem vY:OpR X (binaryOp .Add) (rI0 fun i j=>.int (i+j)):=opI0 fun _ _ _ _ _ _ _ q=>add_int q
theorem vZ:OpR X (binaryOp .Sub) (rI0 fun i j=>.int (i - j)):=opI0 fun _ _ _ _ _ _ _ q=>sub_int q
theorem v3:OpR X (binaryOp .Mult) (rI CMul fun i j=>.int (i*j)):=opI fun _ _ _ _ _ _ _ hc q=>mul_int q hc.ok
theorem t6:OpR X (binaryOp .FloorDiv) (rI CDiv fun i j=>.int (i/j)):=opI fun i j _ _ _ _ _ hc q=>by
 have h1:(0:Int) < j:=hc.1
 have h2:j < 1073741824:=hc.2
 exact floordiv_int (by omega) (by rw[Int.fdiv_eq_ediv_of_nonneg i (by omega)];exact q) (.inl (PyProof.noPylong_small (by omega)))
theorem v4:OpR X (binaryOp .Mod) (rI (fun _ j=>0 < j) fun i j=>.int (i%j)):=opI fun i j _ _ _ _ _ hc q=>by
 have h1:(0:Int) < j:=hc
 exact mod_int' (by omega) (by rw[Int.fmod_eq_emod_of_nonneg i (by omega)];exact q)
theorem unI {f:Value→Sem Value}{g:Int→Int}
  (rule:∀ (i:Int) (t:Tok) (s:Shared) (Q:Value→Shared→Prop) (E:Value→Shared→Prop),Q (.int (g i) s.toks) { s with toks:=s.toks+1 }→wpAny (model X.prog X.w) X.A (f (.int i t)) Q E s) :
  UnR X f (rU fun i=>.int (g i)):=by
 intro pins s σ H x v Q I rx h
 obtain⟨i,rfl,q⟩:=h
 obtain⟨t,rfl⟩:=rx
 exact rule i t s _ _ ⟨.int (g i),H,I.tok _,⟨_,rfl⟩,q⟩
theorem v5:UnR X (unaryOp .USub) (rU fun i=>.int (-i)):=unI fun _ _ _ _ _ q=>neg_int q
end
section
variable {X:Cx}{a b c:Expr}{ta tb tc:TE}{pos:Pos}
theorem kj {pins:List (Addr×Obj)}{σ:St}{H:Hp}{s:Shared}{Q:VK}{k k':Bool}(I:Inv X pins σ H s)(q:Q (.bl k) H)(e:k=k'):EP X pins σ Q (.bool k') s:=by
 subst e
 exact⟨.bl k,H,I,rfl,q⟩
theorem vp:OpR X (compareOp .Lt) (rI0 fun i j=>.bl (decide (i < j))):=opB0 fun _ _ _ _ _ _ _ q=>lt_int q
theorem n5:OpR X (compareOp .LtE) (rI0 fun i j=>.bl (decide (i≤j))):=opB0 fun _ _ _ _ _ _ _ q=>le_int q
theorem wU:OpR X (compareOp .Gt) (rI0 fun i j=>.bl (decide (j < i))):=opB0 fun _ _ _ _ _ _ _ q=>gt_int q
theorem OpR.or {f:Value→Value→Sem Value}{r r':R2}(h:OpR X f r)(h':OpR X f r'):OpR X f (fun x y H Q=>r x y H Q∨r' x y H Q):=by
 intro pins s σ H x y v u Q I rx ry q
 rcases q with q | q
 ·exact h pins s σ H x y v u Q I rx ry q
 ·exact h' pins s σ H x y v u Q I rx ry q
theorem nomark (b:Expr){op:CmpOp}(h:op≠.In:=by decide)(h2:op≠.NotIn:=by decide):behindInMarks op b=false:=by
 have e1:(op==CmpOp.In)=false:=by cases op<;>first | rfl | exact absurd rfl h
 have e2:(op==CmpOp.NotIn)=false:=by cases op<;>first | rfl | exact absurd rfl h2
 cases b<;>simp[behindInMarks,e1,e2]
theorem t7 {op:CmpOp}{r:R2}(ho:OpR X (compareOp op) r)(ha:PE X a ta)(hb:PE X b tb)(hm:behindInMarks op b=false):PE X (.Compare a [op] [b] pos) (tOp r ta tb):=by
 intro pins s σ H Q I h
 exact wpAny_Compare1 (binT ha hb I h fun v u s2 x y H2 I2 rx ry q=>ho pins s2 σ H2 x y v u Q I2 rx ry q) hm
def tTest (t:TE):TT:=fun σ H Q=>t σ H fun x H'=>∃ k,x=.bl k∧Q k H'
theorem t8 {op:CmpOp}{r:R2}(ho:OpR X (compareOp op) r)(ha:PE X a ta)(hb:PE X b tb)(hm:behindInMarks op b=false):PT X (.Compare a [op] [b] pos) (tTest (tOp r ta tb)):=by
 intro pins s σ H Q I h
 refine wpAny_isTrue_Compare1 (thn (ha pins s σ H _ I h) fun v s1 ⟨x,H1,I1,r1,q1⟩=>thn (hb pins s1 σ H1 _ I1 q1) fun u s2 ⟨y,H2,I2,r2,q2⟩ =>
  thn (ho pins s2 σ H2 x y v u _ I2 r1 r2 q2) fun c s3 ⟨z,H3,I3,r3,k,e,q3⟩=>?_) hm
 subst e
 cases r3
 exact wpAny_truthy_bool ⟨H3,I3,q3⟩
def tChain (r r':R2)(ta tb tc:TE):TE:=fun σ H Q=>ta σ H fun x H1=>tb σ H1 fun y H2=>r x y H2 fun z H3=>∃ k,z=.bl k ∧
 (if k=true then tc σ H3 fun w' H4=>r' y w' H4 Q else Q (.bl false) H3)
theorem qS {op op':CmpOp}{r r':R2}(ho:OpR X (compareOp op) r)(ho':OpR X (compareOp op') r')(ha:PE X a ta)(hb:PE X b tb)(hc:PE X c tc)
  (hm:lastMarks [op,op'] [b,c]=false:=by with_unfolding_all rfl):PE X (.Compare a [op,op'] [b,c] pos) (tChain r r' ta tb tc):=by
 intro pins s σ H Q I h
 refine Compare_chain (thn (ha pins s σ H _ I h) fun v s1 ⟨x,H1,I1,r1,q1⟩=>chain_link (thn (hb pins s1 σ H1 _ I1 q1) fun u s2 ⟨y,H2,I2,r2,q2⟩ =>
  thn (ho pins s2 σ H2 x y v u _ I2 r1 r2 q2) fun d s3 ⟨z,H3,I3,r3,k,e,q3⟩=>?_)) hm
 subst e
 cases r3
 refine wpAny_truthy_bool ?_
 cases k with
 | false=>exact ite_ff ⟨.bl false,H3,I3,rfl,q3⟩
 | true=>exact ite_tt (chain_last (thn (hc pins s3 σ H3 _ I3 q3) fun w' s4 ⟨z',H4,I4,r4,q4⟩=>ho' pins s4 σ H4 y z' u w' Q I4 r2 r4 q4))
theorem line63:(sizeLine:Nat) < 2^63:=by rw[sizeLine_eq];decide
theorem vals1 {x:V}{us:List Value}(r:Vals [x] us):∃ u,us=[u]∧RelV x u:=by
 cases r with
 | cons r1 r2=>cases r2;exact⟨_,rfl,r1⟩
theorem vals2 {x y:V}{us:List Value}(r:Vals [x,y] us):∃ u w',us=[u,w']∧RelV x u∧RelV y w':=by
 cases r with
 | cons r1 r2 =>
  cases r2 with
  | cons r3 r4=>cases r4;exact⟨_,_,rfl,r1,r3⟩
theorem o7 (hc:X.calm=true):CallR X (.builtin "max") (fun xs H Q=>∃ i j,xs=[.int i,.int j]∧Q (.int (if j > i then j else i)) H):=by
 intro pins s σ H xs us Q I r h
 obtain⟨i,j,rfl,q⟩:=h
 obtain⟨u,w',rfl,⟨t,rfl⟩,⟨t',rfl⟩⟩:=vals2 r
 refine max_two_ints (I.ok.hd hc) fun h' tk k=>⟨_,H,I.kept k,?_,q⟩
 by_cases hj:j > i
 ·rw[if_pos hj,if_pos hj];exact⟨_,rfl⟩
 ·rw[if_neg hj,if_neg hj];exact⟨_,rfl⟩
end
end L2
namespace L2
open PySem PySem.Spec PyProof.Rows
structure ObjM (h:Heap)(x dx C:Addr)(mA:Str→Option Value):Prop where
 obj:h.get? x=some (PySem.W.instObj C dx)
 ns:h.Ns1 dx mA
 ne:dx≠x
theorem o8 {h:Heap}{dx:Addr}{mA:Str→Option Value}(n:h.Ns1 dx mA):∃ od,h.get? dx=some od∧∀ name,PySem.W.lookIn name od=some (mA name):=by
 obtain⟨o,es,ep,ho,hd,hk,_,hm⟩:=n
 refine⟨o,ho,fun name=>?_⟩
 have e:=hm name
 unfold nsFind findBy at e
 rw[← Array.find?_toList]at e
 unfold PySem.W.lookIn
 rw[hd]
 dsimp only
 split
 ·rename_i y q
  rw[q]at e
  exact congrArg some e
 ·rename_i q
  rw[q]at e
  have a:es.toList.any (·.refKey)=false:=by
   rw[List.any_eq_false]
   intro y hy
   obtain⟨z,t,hkey⟩:=hk y (Array.mem_toList_iff.mp hy)
   simp[DictEntry.refKey,hkey]
  have a':¬ es.toList.any (·.refKey)=true:=by rw[a];exact Bool.false_ne_true
  rw[if_neg a']
  exact congrArg some e
theorem ObjM.look {h:Heap}{x dx C:Addr}{mA:Str→Option Value}(I:ObjM h x dx C mA):∃ od,PySem.W.InstAt h x (PySem.W.instObj C dx) C (some od)∧∀ name,PySem.W.lookIn name od=some (mA name) :=
 let ⟨od,ho,hl⟩:=o8 I.ns
 ⟨od,⟨I.obj,rfl,rfl,ho⟩,hl⟩
section
variable {prog:Program}{w:World}{A:Around}{E:Value→Shared→Prop}{s:Shared}{K:PySem.W.Frag}{x dx C f:Addr}{mA:Str→Option Value}{name:Str}{v:Value}
theorem qU {pl:Sem Bool}{Q:Value×List Value→Shared→Prop}(X:K.In s.heap)(I:ObjM s.heap x dx C mA)(hg:PySem.W.plainGet K C name=true)
  (hf:PySem.W.findIn K (.ref C) name=some (some (.ref f))) (ht:PySem.W.isFn K (.ref f)=true) (hv:mA name=none) (h:Q (.ref f,[.ref x]) s) :
  wpAny (model prog w) A (getMethod (.ref x) name pl) Q E s:=by
 obtain⟨od,J,hl⟩:=I.look
 exact PySem.W.method_fn X J (PySem.W.plainGet_of hg).1 (PySem.W.plainGet_of hg).2 hf (beq_iff_eq.mp ht) (by show (PySem.W.lookIn name od).map (·.isSome)=some false;rw[hl,hv];rfl) h
theorem wV {R:Result→Shared→Prop}{vs:List Value}{kw:List (Str×Value)}(X:K.In s.heap)(hm:PySem.W.makesIn K C=true)
  (hi:PySem.W.findIn K (.ref C) "__init__"=some (some (.ref f))) (hf:PySem.W.typeIn K (.ref f)=some (.type "function"))
  (h:codeAny (model prog w) (A.under (.builtin "type.__call__" ⟨.ref C::vs,kw⟩)) (.call (.ref f) ⟨.ref (s.heap.objs.size+1)::vs,kw⟩) (PySem.W.InitBack (s.heap.objs.size+1) R)
   { s with heap:=(s.heap.push PySem.W.emptyDict).push (PySem.W.instObj C s.heap.objs.size) }) :
  codeAny (model prog w) A (.call (.ref C) ⟨vs,kw⟩) R s:=by
 obtain⟨hh,g,d,t,os⟩:=s
 exact PySem.W.make_core (PySem.W.makes_of X hm) (PySem.W.looks_findIn X hi) (fun self=>PySem.W.bind_fn X self hf) (.inl rfl) h
end
theorem RelO.none_of {o:Option Value}(r:RelO none o):o=none:=by
 cases o with
 | none=>rfl
 | some u=>exact(show False from r).elim
section
variable {P:Program}{w:World}{H H':Hp}{h h':Heap}{a C dx:Addr}{fs fs':List (Str×V)}
theorem t9 (hok:HOk P w H h)(e:H a=some (.ins C dx fs)):∃ mA,ObjM h a dx C mA∧(∀ f,RelO (fs.lookup f) (mA f))∧PySem.Within mA (fs.map (·.1))∧fs.length≤1000∧H dx=some (.own a):=by
 obtain⟨d,z,ne,ob,mA,n,r,q⟩:=(show ObjOk P w H h a (.ins C dx fs) from hok a _ e)
 exact⟨mA,⟨ob,n,ne⟩,r,q,z,d⟩
end
structure Cls (K:PySem.W.Frag)(C:Addr):Prop where
 pg:PySem.W.plainGet K C Str.empty=true
 hd:PySem.W.hasDictIn K C=true
 po:PySem.W.plainOver K C=true
 sa:PySem.W.findIn K (.ref C) "__setattr__"=some (some (.builtin "object.__setattr__"))
theorem Cls.get {K:PySem.W.Frag}{C:Addr}(c:Cls K C)(f:Str):PySem.W.plainGet K C f=true:=c.pg
structure Meth (K:PySem.W.Frag)(C:Addr)(m:Str)(f:Addr):Prop where
 at_:PySem.W.findIn K (.ref C) m=some (some (.ref f))
 fn:PySem.W.isFn K (.ref f)=true
 kp:PySem.W.keepIn K (.ref f)=true
section
variable {X:Cx}{pins:List (Addr×Obj)}{σ:St}{H:Hp}{s:Shared}{a C dx:Addr}{fs:List (Str×V)}{f:Str}{v:V}{A:Around}{E:Value→Shared→Prop}
theorem mR {m:Str}{g:Addr}{pl:Sem Bool}{Q:Value×List Value→Shared→Prop}(I:Inv X pins σ H s)(e:H a=some (.ins C dx fs))(c:Cls X.K C)(k:Meth X.K C m g)(l:fs.lookup m=none)
  (h:Q (.ref g,[.ref a]) s):wpAny (model X.prog X.w) A (getMethod (.ref a) m pl) Q E s:=by
 obtain⟨mA,O,r,_,_,_⟩:=t9 I.hok e
 have hn:mA m=none:=RelO.none_of (by rw[← l];exact r m)
 exact qU I.kIn O (c.get m) k.at_ k.fn hn h
end
section
variable {X:Cx}{o e value:Expr}{f:Str}{pos pos' tpos:Pos}{ta tv:TE}
theorem vq {pl:Sem Bool}{m:Str}{apos:Pos}{args:List Expr}{pins:List (Addr×Obj)}{s:Shared}{σ:St}{H:Hp}{Q:Value→Shared→Prop}{te:TE}(he:PE X e te)(I:Inv X pins σ H s)
  (h:te σ H fun x H1=>∃ a C dx fs g,x=.ref a∧H1 a=some (.ins C dx fs)∧Cls X.K C∧Meth X.K C m g∧fs.lookup m=none ∧
   ∀ s1,Inv X pins σ H1 s1→wpAny (model X.prog X.w) X.A (callWith pos (.ref g) [.ref a] (backTo pos (starEach args X.env)) (backToKw pos (keywordEach [] X.env))) Q X.xe s1)
  (ht:eval (.Call (.Attribute e m apos) args [] pos) X.env=(do
   let ov ← eval e X.env
   standAt apos.atName
   let (f,first) ← holding [ov] (getMethod ov m pl)
   callWith pos f first (backTo pos (starEach args X.env)) (backToKw pos (keywordEach [] X.env)))) :
  wpAny (model X.prog X.w) X.A (eval (.Call (.Attribute e m apos) args [] pos) X.env) Q X.xe s:=by
 refine PySem.W.methodCall_KW (pl:=pl) (thn (he pins s σ H _ I h) fun u s1 ⟨x,H1,I1,rx,a,C,dx,fs,g,ex,ea,c,k,l,q⟩=>?_) ht
 subst ex
 obtain rfl:u=Value.ref a:=rx
 exact mR I1 ea c k l (q s1 I1)
end
section
variable {X:Cx}{pins:List (Addr×Obj)}{σ:St}{H:Hp}{s:Shared}{A:Around}{E:Value→Shared→Prop}{Q:Value→Shared→Prop}{c:Value}{b:Bool}
inductive TyOf (K:PySem.W.Frag)(H:Hp):V→Value→Prop where
 | non:TyOf K H .non (.type "NoneType")
 | bl (x:Bool):TyOf K H (.bl x) (.type "bool")
 | int (i:Int):TyOf K H (.int i) (.type "int")
 | str (x:Str):TyOf K H (.str x) (.type "str")
 | flt (x:UInt64):TyOf K H (.flt x) (.type "float")
 | lst {a:Addr} {xs:List V} (e:H a=some (.lst xs)):TyOf K H (.ref a) (.type "list")
 | frz {a:Addr} {o:Obj} {xs:List V} (e:H a=some (.frz o (.lst xs))):TyOf K H (.ref a) (.type "list")
 | tup {a:Addr} {xs:List V} (e:H a=some (.tup xs)):TyOf K H (.ref a) (.type "tuple")
 | dK {a:Addr} {kvs:List (Key×V)} (e:H a=some (.dK kvs)):TyOf K H (.ref a) (.type "dict")
 | dT {a:Addr} {kvs:List (List Key×V)} (e:H a=some (.dT kvs)):TyOf K H (.ref a) (.type "dict")
 | ins {a C dx:Addr} {fs:List (Str×V)} (e:H a=some (.ins C dx fs)) (cl:Cls K C) (ha:PySem.W.findIn K (.ref C) "__class__"=some (some (.builtin "object.__class__")))
   (hn:PySem.W.specialIn K (.builtin "object.__class__") "__get__"=some (some (.builtin "getset_descriptor.__get__"))) (htk:PySem.W.takesIn K (.builtin "object.__class__")=some true)
   (hm:PySem.W.mroIn K C (.type "object")=some true):TyOf K H (.ref a) (.ref C)
end
end L2
namespace L2
open PySem PySem.Spec PyProof.Rows
structure Room (k:Nat)(A:Around):Prop where
 hd:A.handled=none
 dp:A.depth+3*k+5 < recursionLimit
 un:A.units+16*k+200 < cLine
theorem Room.deeper {k:Nat}{A:Around}(r:Room (k+1) A)(env:Env):Room k (A.deeper env) :=
 ⟨r.hd,by have:=r.dp;show A.depth+1+3*k+5 < _;omega,by have:=r.un;show A.units+3+16*k+200 < _;omega⟩
theorem Room.depth {k:Nat}{A:Around}(r:Room k A):A.depth < recursionLimit:=by have:=r.dp;omega
def tNil:TA:=fun _ H Q=>Q [] H
def tCons (ta:TE)(tr:TA):TA:=fun σ H Q=>ta σ H fun x H1=>tr σ H1 fun xs H2=>Q (x::xs) H2
section
variable {X:Cx}{e:Expr}{es:List Expr}{te:TE}{t:TA}{pos:Pos}
theorem dh:PA X [] tNil:=fun _ _ _ _ H Q I h=>Calls.spliced_nil ⟨[],H,I,.nil,h⟩
theorem bE (ha:PE X e te)(hr:PA X es t)(hs:starEach (e::es) X.env=(false,eval e X.env)::starEach es X.env:=by rfl):PA X (e::es) (tCons te t):=by
 intro pos pins s σ H Q I h
 rw[hs]
 show wpAny _ _ (spliced ((false,eval e X.env)::backTo pos (starEach es X.env))) _ _ s
 refine Calls.spliced_cons (thn (ha pins s σ H _ I h) fun u s1 ⟨x,H1,I1,r1,q1⟩=>?_)
 exact thn (hr pos pins s1 σ H1 _ I1 q1) fun us s2 ⟨xs,H2,I2,r2,q2⟩=>⟨x::xs,H2,I2,.cons r1 r2,q2⟩
def tTup (t:TA):TE:=fun σ H Q=>t σ H fun xs H1=>xs.length≤sizeLine∧∀ p,H1 p=none→Q (.ref p) (upd H1 p (.tup xs))
def tLst (t:TA):TE:=fun σ H Q=>t σ H fun xs H1=>xs.length≤sizeLine∧∀ p,H1 p=none→Q (.ref p) (upd H1 p (.lst xs))
theorem qV {x1}(h:PA X es t):PE X (.Tuple es x1 pos) (tTup t):=by
 intro pins s σ H Q I hq
 refine wpAny_Tuple_spliced (thn (h pos pins s σ H _ I hq) fun us s1 ⟨xs,H1,I1,r,z,q⟩=>⟨by rw[← r.length];exact z,?_⟩)
 have hf:H1 s1.heap.objs.size=none:=I1.hok.fresh (Nat.le_refl _)
 refine⟨.ref s1.heap.objs.size,upd H1 s1.heap.objs.size (.tup xs),I1.laid (t':=s1.toks) (fun b u e=>Heap.get?_push_of_some _ e) (Nat.le_refl _) ?_,rfl,q _ hf⟩
 exact⟨z,us,r,TupO.new _ _⟩
theorem kl (h:PA X es t):PE X (.List es pos) (tLst t):=by
 intro pins s σ H Q I hq
 refine wpAny_List_spliced (thn (h pos pins s σ H _ I hq) fun us s1 ⟨xs,H1,I1,r,z,q⟩=>⟨by rw[← r.length];exact z,?_⟩)
 have hf:H1 s1.heap.objs.size=none:=I1.hok.fresh (Nat.le_refl _)
 refine⟨.ref s1.heap.objs.size,upd H1 s1.heap.objs.size (.lst xs),I1.laid (t':=s1.toks) (fun b u e=>Heap.get?_push_of_some _ e) (Nat.le_refl _) ?_,rfl,q _ hf⟩
 exact⟨z,us,0,r,Heap.get?_push_size _ rfl⟩
end
abbrev Sp:=List V→Hp→VK→XK→Prop
abbrev CXT:=List Env→Hp→Shared→XK→Value→Shared→Prop
structure Env0 (P:Program)(w:World)(K:PySem.W.Frag)(mg:Str→Option Value)(base:Heap)(A:Around)(outer:List Env)(s:Shared)(H:Hp):Prop where
 frames:A.frames=some outer
 mod:Mod K mg base
 bs:∀ b o,base.get? b=some o→s.heap.get? b=some o∧H b=none
 bsz:base.objs.size≤s.heap.objs.size
 funs:s.heap.FunFrames base outer
 frf:∀ b∈frs outer,H b=none
 hok:HOk P w H s.heap
 bare:AllBare s.gens
def CE (outer:List Env)(P:Program)(w:World)(H:Hp)(s:Shared)(Q:VK)(u:Value)(s':Shared):Prop :=
 ∃ v H',s'.os=s.os∧AllBare s'.gens∧Un (frs outer) [] H H' s.heap s'.heap∧HOk P w H' s'.heap∧RelV v u∧Q v H'
def CR (CX:CXT)(outer:List Env)(P:Program)(w:World)(H:Hp)(s:Shared)(Q:VK)(E:XK)(r:Result)(s':Shared):Prop :=
 match r with
 | .ok (.ret u)=>CE outer P w H s Q u s'
 | .ok _=>False
 | .error e=>CX outer H s E e s'
structure FnOk (P:Program)(w:World)(K:PySem.W.Frag)(mg:Str→Option Value)(base:Heap)(CX:CXT)(k:Nat)(f:Addr)(fd:FuncData)(ps:List Str)(sp:Sp):Prop where
 len:∀ vs H Q E,sp vs H Q E→vs.length=ps.length
 run:∀ (A:Around) (outer:List Env) (s:Shared) (H:Hp) (args:Args) (us:List Value) (vs:List V) (Q:VK) (E:XK),Room k A→Env0 P w K mg base A outer s H→BindsTo s fd args (ps.zip us)→Vals vs us→sp vs H Q E →
  codeAny (model P w) A (.call (.ref f) args) (CR CX outer P w H s Q E) s
section
variable {X:Cx}{pins:List (Addr×Obj)}{σ:St}{H:Hp}{s s':Shared}
theorem Inv.env0 (I:Inv X pins σ H s):Env0 X.prog X.w X.K X.mg X.base X.A X.stack s H :=
 ⟨I.ok.frames,I.ok.mod,I.bs,Nat.le_trans I.ok.bsz I.sz,I.stack,I.stkFree,I.hok,I.bare⟩
theorem Inv.after {Q:VK}{u:Value}(I:Inv X pins σ H s)(h:CE X.stack X.prog X.w H s Q u s'):EP X pins σ Q u s':=by
 obtain⟨v,H',os,bare,un,hok,r,q⟩:=h
 obtain⟨hh,g,d,t,os'⟩:=s'
 obtain rfl:os'=s.os:=os
 exact⟨v,H',I.call (h':=hh) (g':=g) (d':=d) (t':=t) (ch:=[]) un hok bare (fun b z=>absurd z (by simp)),r,q⟩
end
def tCall (sp:Sp)(dvs:List V)(E:XK)(t:TA):TE:=fun σ H Q=>t σ H fun vs H1=>sp (vs++dvs) H1 Q E
def Binds (K:PySem.W.Frag)(fd:FuncData)(ps:List Str)(ds:List Value):Prop :=
 ∀ (s:Shared) (us:List Value),K.In s.heap→(us++ds).length=ps.length→BindsTo s fd ⟨us,[]⟩ (ps.zip (us++ds))
theorem Binds.all {K:PySem.W.Frag}{fd:FuncData}{ps:List Str}(h:∀ us:List Value,us.length=ps.length→bindArgs fd ⟨us,[]⟩=pure (ps.zip us)):Binds K fd ps []:=fun s us _ hl=>by
 rw[List.append_nil]at hl ⊢
 exact .of_eq (h us hl)
def Passes (CX:CXT)(X:Cx)(E:XK):Prop:=∀ (pins:List (Addr×Obj)) (σ:St) (H:Hp) (s:Shared) (e:Value) (s':Shared),Inv X pins σ H s→CX X.stack H s E e s'→X.xe e s'
section
variable {X:Cx}{CX:CXT}{k:Nat}{f C:Addr}{fd:FuncData}{ps:List Str}{sp:Sp}{dvs:List V}{ds:List Value}{E:XK}{x m:Str}{p pos apos:Pos}{e o:Expr}{es:List Expr}{ta:TE}{t:TA}
theorem qW {pins:List (Addr×Obj)}{σ:St}{H:Hp}{s:Shared}{Q:VK}{us:List Value}{vs:List V}(F:FnOk X.prog X.w X.K X.mg X.base CX k f fd ps sp)(hr:Room k X.A)(hb:Binds X.K fd ps ds)(hd:Vals dvs ds)(hx:Passes CX X E)
  (I:Inv X pins σ H s) (r:Vals vs us) (h:sp (vs++dvs) H Q E):wpAny (model X.prog X.w) X.A (call (.ref f) us) (EP X pins σ Q) X.xe s:=by
 have r2:Vals (vs++dvs) (us++ds):=r.append hd
 have hl:(us++ds).length=ps.length:=by rw[← r2.length];exact F.len _ _ _ _ h
 refine wpAny_call (codeAny_mono (F.run X.A X.stack s H ⟨us,[]⟩ (us++ds) (vs++dvs) Q E hr I.env0 (hb s us I.kIn hl) r2 h) fun r s' hq=>?_)
 cases r with
 | error e=>exact hx pins σ H s e s' I hq
 | ok fl =>
  cases fl with
  | ret u=>exact I.after hq
  | next=>exact False.elim hq
  | brk=>exact False.elim hq
  | cont=>exact False.elim hq
theorem ua (F:FnOk X.prog X.w X.K X.mg X.base CX k f fd ps sp)(hr:Room k X.A)(hg:Gl X x)(hm:X.mg x=some (.ref f))(hk:PySem.W.keepIn X.K (.ref f)=true)(hb:Binds X.K fd ps ds)(hd:Vals dvs ds)(hx:Passes CX X E)
  (ha:PA X (e::es) t) (hdb:(x==("__debug__":Str))=false:=by decide) (he:starEach (e::es) X.env=(false,eval e X.env)::starEach es X.env:=by rfl) (hpl:(backTo pos (starEach es X.env)).any (·.1)=false:=by rfl) :
  PE X (.Call (.Name x p) (e::es) [] pos) (tCall sp dvs E t):=by
 intro pins s σ H Q I h
 refine wpAny_Call_Name_kw (kg I hg hm ?_ hdb)
 refine PySem.W.callWith_K (h₀:=X.base) I.ok.mod.kin hk (thn (ha pos pins s σ H _ I h) fun us s1 ⟨vs,H1,I1,r,q⟩=>⟨I1.kIn,?_⟩) he hpl
 exact qW F hr hb hd hx I1 r q
end
section
variable {X:Cx}{CX:CXT}{k:Nat}{f C:Addr}{fd:FuncData}{ps ks:List Str}{sp:Sp}{E:XK}{x m:Str}{p pos apos kpos:Pos}{e o:Expr}{es:List Expr}{kws:List Keyword}{te ta:TE}{t tk:TA}{nm:Option Str}
variable {g:List Value→List Value→List Value}{gV:List V→List V→List V}
end
structure FnScope (N P:List Str)(sc:Scope):Prop where
 kind:sc.kind=.function
 co:sc.isCoroutine=false
 gen:sc.isGenerator=false
 nd:N.Nodup
 pre:N.take P.length=P
 par:∀ x∈P,sc.names.lookup x=some .local∨sc.names.lookup x=some .cell
 nofree:∀ y∈sc.names,y.2≠.free
theorem jF {kindOf:Str→Option NameKind}{x:Str}:∀ {binds:List (Str×Value)} {m:Str→Option Value},(∀ v,(x,v)∉binds)→bindL kindOf binds m x=m x
 | [],_,_=>rfl
 | (n,v)::r,m,h=>by
  unfold bindL
  rw[jF fun w hw=>h w (List.mem_cons_of_mem _ hw)]
  split
  ·have:x≠n:=by rintro rfl;exact h v List.mem_cons_self
   simp[this]
  ·rfl
theorem jG {kindOf:Str→Option NameKind}{x:Str}:∀ {binds:List (Str×Value)} {m:Str→Option Value},(∀ v,(x,v)∉binds)→bindC kindOf binds m x=m x
 | [],_,_=>rfl
 | (n,v)::r,m,h=>by
  unfold bindC
  rw[jG fun w hw=>h w (List.mem_cons_of_mem _ hw)]
  split
  ·rfl
  ·have:x≠n:=by rintro rfl;exact h v List.mem_cons_self
   simp[this]
theorem jH {kindOf:Str→Option NameKind}{x:Str}{v:Value}:∀ {P:List Str} {vs:List Value} {i:Nat} {m:Str→Option Value},P.Nodup→P[i]?=some x→vs[i]?=some v→kindOf x=some .local →
  bindL kindOf (P.zip vs) m x=some v
 | [],_,_,_,_,h,_,_=>by simp at h
 | _::_,[],_,_,_,_,h,_=>by simp at h
 | p::P,w::vs,0,m,nd,h1,h2,hk=>by
  simp at h1 h2;subst h1;subst h2
  show bindL kindOf ((p,w)::P.zip vs) m p=_
  unfold bindL
  rw[jF fun v hv=>(List.nodup_cons.mp nd).1 (List.of_mem_zip hv).1,if_pos hk]
  simp
 | p::P,w::vs,i+1,m,nd,h1,h2,hk=>by
  show bindL kindOf ((p,w)::P.zip vs) m x=_
  unfold bindL
  exact jH (i:=i) (List.nodup_cons.mp nd).2 (by simpa using h1) (by simpa using h2) hk
theorem jI {kindOf:Str→Option NameKind}{x:Str}{v:Value}:∀ {P:List Str} {vs:List Value} {i:Nat} {m:Str→Option Value},P.Nodup→P[i]?=some x→vs[i]?=some v→kindOf x≠some .local →
  bindC kindOf (P.zip vs) m x=some v
 | [],_,_,_,_,h,_,_=>by simp at h
 | _::_,[],_,_,_,_,h,_=>by simp at h
 | p::P,w::vs,0,m,nd,h1,h2,hk=>by
  simp at h1 h2;subst h1;subst h2
  show bindC kindOf ((p,w)::P.zip vs) m p=_
  unfold bindC
  rw[jG fun v hv=>(List.nodup_cons.mp nd).1 (List.of_mem_zip hv).1,if_neg hk]
  simp
 | p::P,w::vs,i+1,m,nd,h1,h2,hk=>by
  show bindC kindOf ((p,w)::P.zip vs) m x=_
  unfold bindC
  exact jI (i:=i) (List.nodup_cons.mp nd).2 (by simpa using h1) (by simpa using h2) hk
def start (N:List Str)(vs:List V):St:=vs.map some++List.replicate (N.length - vs.length) none
def cxOf (CX:CXT)(P:Program)(w:World)(K:PySem.W.Frag)(mg:Str→Option Value)(base:Heap)(N:List Str)(qual:Str)(scope:Scope)(f:Addr)(cd:Value)(A:Around)(outer:List Env)(s:Shared)(H:Hp)(E:XK):Cx where
 prog:=P
 w:=w
 K:=K
 mg:=mg
 base:=base
 A:=A.deeper (envOfC qual scope s.heap.objs.size f cd)
 N:=N
 s₀:=s
 H₀:=H
 env:=envOfC qual scope s.heap.objs.size f cd
 outer:=outer
 stack:=envOfC qual scope s.heap.objs.size f cd::outer
 ex:=[]
 calm:=true
 fn:=fun _=>true
 pn:=[]
 xe:=fun e s'=>wpAny (model P w) (A.deeper (envOfC qual scope s.heap.objs.size f cd)) (leaving (envOfC qual scope s.heap.objs.size f cd) e) (fun _ s''=>CX outer H s E e s'') (fun e' s''=>CX outer H s E e' s'') s'
theorem lA {sc:Scope}{n:Nat}{x:Str}(h:sc.names.lookup x=some .cell):∃ c,(cellsFrom n sc.names []).lookup x=some c:=by
 have q:=PySem.W.cellsFrom_some sc.names n [] (.inl h)
 exact Option.isSome_iff_exists.mp q
theorem o9 {CX:CXT}{P:Program}{w:World}{K:PySem.W.Frag}{mg:Str→Option Value}{base:Heap}{N ps:List Str}{qual:Str}{scope:Scope}{f:Addr}{cd:Value}{A:Around}{outer:List Env}{s s1:Shared}{H:Hp}{E:XK}{us:List Value}{vs:List V}
  (S:FnScope N ps scope) (hd:A.handled=none) (e0:Env0 P w K mg base A outer s H) (hl:vs.length=ps.length) (r:Vals vs us)
  (x:InCallC s s.heap.objs.size (bindL (envOfC qual scope s.heap.objs.size f cd).kindOf (ps.zip us) fun _=>none) (cellsFrom (s.heap.objs.size+1) scope.names []) (bindC (envOfC qual scope s.heap.objs.size f cd).kindOf (ps.zip us) fun _=>none) s1) :
  Inv (cxOf CX P w K mg base N qual scope f cd A outer s H E) [] (start N vs) H s1:=by
 have hpl:ps.length≤N.length:=by have:=congrArg List.length S.pre;rw[List.length_take]at this;omega
 obtain⟨h1,tk,rfl,hk⟩:=x.done
 have noA:∀ b:Addr,b∉(cxOf CX P w K mg base N qual scope f cd A outer s H E).ex:=fun b z=>absurd (show b∈([]:List Addr) from z) (by simp)
 refine⟨⟨e0.mod,S.kind,rfl,rfl,Nat.le_refl _,fun y z c h1 h2=>?_,fun y hy=>?_,fun y c _ h=>?_,fun _=>hd,Around.frames_deeper e0.frames,.inr ⟨rfl,rfl⟩,fun b z=>absurd z (noA b),e0.bs,e0.bsz,fun b _ _=>noA b,fun b z=>absurd z (noA b),e0.funs,e0.frf⟩,
  rfl,e0.bare,Un.kept hk,⟨_,x.toInCall.ns,fun i y v h1 h2 h3=>?_⟩,fun y c h=>⟨_,x.cell y c h⟩,e0.hok.fresh (Nat.le_refl _),fun y c h=>?_,fun p hp=>absurd (show p∈([]:List (Addr×Obj)) from hp) (by simp),e0.hok.kept hk,?_⟩
 ·exact name_of_addr x.apart (PySem.mem_of_lookup h1) (PySem.mem_of_lookup h2)
 ·have hy:scope.names.lookup y=some .cell∨scope.names.lookup y=some .free:=hy
  rcases hy with hy | hy
  ·exact lA hy
  ·exact absurd rfl (S.nofree _ (PySem.mem_of_lookup hy))
 ·exact Nat.le_of_lt (x.above y c (PySem.mem_of_lookup h))
 ·have hi:i < vs.length:=by
   unfold start at h2
   by_cases hi:i < vs.length
   ·exact hi
   ·rw[List.getElem?_append_right (by simpa using hi)]at h2
    rw[List.getElem?_replicate]at h2
    split at h2<;>cases h2
  have ha:vs[i]?=some v:=by
   unfold start at h2
   rw[List.getElem?_append_left (by simpa using hi),List.getElem?_map]at h2
   cases e:vs[i]? with
   | none=>rw[e]at h2;cases h2
   | some a=>rw[e]at h2;cases h2;rfl
  obtain⟨u,hu,rv⟩:=r.get ha
  have hp:ps[i]?=some y:=by
   rw[← S.pre,List.getElem?_take_of_lt (by omega)];exact h1
  have ndP:ps.Nodup:=by rw[← S.pre];exact S.nd.sublist (List.take_sublist _ _)
  refine⟨u,rv,?_⟩
  rcases S.par y (List.mem_of_getElem? hp) with k | k
  ·exact .inl ⟨k,jH ndP hp hu k⟩
  ·obtain⟨c,e⟩:=lA (n:=s.heap.objs.size+1) k
   refine .inr ⟨.inl k,c,e,?_⟩
   have q:=x.cell y c e
   rw[jI ndP hp hu (by show scope.names.lookup y≠_;rw[k];decide)]at q
   exact q
 ·exact e0.hok.fresh (Nat.le_of_lt (x.above y c (PySem.mem_of_lookup h)))
 ·unfold start
  show _=N.length
  rw[List.length_append,List.length_map,List.length_replicate]
  omega
theorem vt {CX:CXT}{P:Program}{w:World}{K:PySem.W.Frag}{mg:Str→Option Value}{base:Heap}{k:Nat}{f:Addr}{name qual:Str}{params:Arguments}{body:List Stmt}{scope:Scope}{dV kV doc pm cdv ct oc:Value}{an od:Option Addr}
  {osl:Array (Option Value)} {N ps:List Str} {sp:Sp} (lk:K.lookup f=some ⟨oc,od,.func (PySem.W.fnOf name qual params body scope dV kV doc pm an cdv ct),osl⟩) (hcd:PySem.W.codeIn K cdv qual=true) (S:FnScope N ps scope)
  (len:∀ vs H Q E,sp vs H Q E→vs.length=ps.length)
  (hbody:∀ (A:Around) (outer:List Env) (s:Shared) (H:Hp) (vs:List V) (Q:VK) (E:XK),Room k (A.deeper (envOfC qual scope s.heap.objs.size f cdv))→sp vs H Q E →
   ∃ t,PSs (cxOf CX P w K mg base N qual scope f cdv A outer s H E) body t∧t { nx:=fun _ H'=>Q .non H',rt:=Q } (start N vs) H) :
  FnOk P w K mg base CX (k+1) f (PySem.W.fnOf name qual params body scope dV kV doc pm an cdv ct) ps sp:=by
 refine⟨len,fun A outer s H args us vs Q E hr e0 hb r hsp=>?_⟩
 have hl:=len _ _ _ _ hsp
 have KX:K.In s.heap:=e0.mod.kin.keeps fun b o e=>(e0.bs b o e).1
 have lim:s.heap.NoLimit:=e0.mod.nolimit.keeps fun b o e=>(e0.bs b o e).1
 have hkind:∀ y∈ps.zip us,scope.names.lookup y.1=some .local∨(scope.names.lookup y.1=some .cell∧((cellsFrom (s.heap.objs.size+1) scope.names []).lookup y.1).isSome=true):=fun ⟨n,v⟩ hy=>by
  rcases S.par n (List.of_mem_zip hy).1 with q | q
  ·exact .inl q
  ·exact .inr ⟨q,PySem.W.cellsFrom_some _ _ _ (.inl q)⟩
 refine codeAny_call_function hr.depth (KX _ _ lk) rfl S.co S.gen rfl (PySem.W.codeRec_of KX hcd) (hb _ _ _ _ ?_)
 refine wpAny_newFunctionEnv_cells S.kind hkind fun env he s1 x=>?_
 subst he
 refine⟨lim.keeps x.toInCall.keep,codeAny_func ?_⟩
 obtain⟨t,ht,hq⟩:=hbody A outer s H vs Q E (hr.deeper _) hsp
 have I:Inv (cxOf CX P w K mg base N qual scope f cdv A outer s H E) [] (start N vs) H s1:=o9 S hr.hd e0 hl r x
 refine wpAny_mono (ht [] s1 (start N vs) H _ I hq) (fun fl s' hs=>?_) fun e s' hs=>hs
 have fin:∀ {σ':St} {H':Hp} {v:V} {u:Value},Inv (cxOf CX P w K mg base N qual scope f cdv A outer s H E) [] σ' H' s'→RelV v u→Q v H'→CE outer P w H s Q u s' :=
  fun {σ' H' v u} J rv q=>⟨v,H',J.os,J.bare,J.base,J.hok,rv,q⟩
 cases fl with
 | ret u =>
  obtain⟨v,σ',H',J,rv,q⟩:=hs
  exact fin J rv q
 | next =>
  obtain⟨σ',H',J,q⟩:=hs
  exact fin (v:=V.non) (u:=Value.none) J rfl q
 | brk =>
  obtain⟨_,_,_,q⟩:=hs
  exact False.elim q
 | cont =>
  obtain⟨_,_,_,q⟩:=hs
  exact False.elim q
end L2
namespace L2
open PySem PySem.Spec PyProof.Rows
section
variable {X:Cx}{x:Str}{p pos:Pos}{e:Expr}{es:List Expr}{t:TA}{id T:String}{r:List V→Hp→VK→Prop}
def tCB (r:List V→Hp→VK→Prop)(t:TA):TE:=fun σ H Q=>t σ H fun vs H1=>r vs H1 Q
theorem di (hc:CallR X (.builtin id) r)(hg:Gl X x)(hm:X.mg x=none)(hv:bootBuiltins x=some (.builtin id))(ha:PA X (e::es) t)(hn:x ≠ "__name__" := by decide)(hdb:(x==("__debug__":Str))=false:=by decide)
  (he:starEach (e::es) X.env=(false,eval e X.env)::starEach es X.env:=by rfl) (hpl:(backTo pos (starEach es X.env)).any (·.1)=false:=by rfl):PE X (.Call (.Name x p) (e::es) [] pos) (tCB r t):=by
 intro pins s σ H Q I h
 refine wpAny_Call_Name_kw (ez I hg hm hv ?_ hn hdb)
 exact PyProof.Rows.callWith_builtin1 (thn (ha pos pins s σ H _ I h) fun us s1 ⟨vs,H1,I1,r1,q1⟩=>hc pins s1 σ H1 vs us Q I1 r1 q1) he hpl
theorem jJ (hc:CallR X (.type T) r)(hg:Gl X x)(hm:X.mg x=none)(hv:bootBuiltins x=some (.type T))(ha:PA X (e::es) t)(hn:x ≠ "__name__" := by decide)(hdb:(x==("__debug__":Str))=false:=by decide)
  (he:starEach (e::es) X.env=(false,eval e X.env)::starEach es X.env:=by rfl) (hpl:(backTo pos (starEach es X.env)).any (·.1)=false:=by rfl):PE X (.Call (.Name x p) (e::es) [] pos) (tCB r t):=by
 intro pins s σ H Q I h
 refine wpAny_Call_Name_kw (ez I hg hm hv ?_ hn hdb)
 exact PyProof.Rows.callWith_type1 (thn (ha pos pins s σ H _ I h) fun us s1 ⟨vs,H1,I1,r1,q1⟩=>hc pins s1 σ H1 vs us Q I1 r1 q1) he hpl
end
end L2
namespace HT
open PySem PyProof.Rows
section
open PySem.SeqAt
open PySem.AutoSeq1 (wpAny_loadPart')
open PySem.MeetsSeq PySem.MeetsSeq2 PySem.MeetsSeq3
end
section
variable {prog:Program}{w:World}{A:Around}{E:Value→Shared→Prop}{s:Shared}
theorem ub {t b:Addr}{vs ws:List Value}{Q:Value→Shared→Prop}(ht:IsTup s.heap t vs.toArray)(hb:IsTup s.heap b ws.toArray)(hv:vs≠[])
  (h1:ws=[]→Q (.ref t) s) (h2:ws≠[]→Q (.ref s.heap.objs.size) { s with heap:=s.heap.push { cls:=.type "tuple",data:=.seq (vs++ws).toArray } })
  (hsz:vs.length+ws.length≤sizeLine):wpAny (model prog w) A (binaryOp .Add (.ref t) (.ref b)) Q E s:=by
 obtain⟨⟨cls,dd,data,sl⟩,ho,hc,n,hd⟩:=id ht
 obtain⟨⟨cls2,dd2,data2,sl2⟩,ho2,hc2,n2,hd2⟩:=id hb
 simp only at hc hd hc2 hd2
 subst hc hd hc2 hd2
 have e:vs.toArray++ws.toArray=(vs++ws).toArray:=by simp
 by_cases hw:ws=[]
 ·exact concat_meets ⟨_,ho,rfl⟩ ⟨_,ho2,rfl⟩ noFill_tuple_add seq_tuple_add PySem.F.slot_tuple_add PySem.F.entry_tuple_add (PySem.F.args_tuple_add_2 _ _)
   (tuple_addW1 t b vs.toArray ws.toArray n n2 dd dd2 sl sl2 (by simpa using hv) (by simp[hw])) ⟨ho,ho2,h1 hw⟩
 ·refine concat_meets ⟨_,ho,rfl⟩ ⟨_,ho2,rfl⟩ noFill_tuple_add seq_tuple_add PySem.F.slot_tuple_add PySem.F.entry_tuple_add (PySem.F.args_tuple_add_2 _ _)
   (tuple_addW2 t b vs.toArray ws.toArray n n2 dd dd2 sl sl2 (by simpa using hv) (by simpa using hw) (by rw[List.size_toArray,List.size_toArray];exact hsz)) ⟨ho,ho2,?_⟩
  rw[e]
  exact h2 hw
def sIx (n d:Nat):Option Int→Nat
 | none=>d
 | some v=>if v < 0 then (v+(n:Int)).toNat else min v.toNat n
theorem qX (n d:Nat):sIx n d none=d:=rfl
theorem v6 (n d:Nat)(hd:d≤n)(o:Option Int):sIx n d o≤n:=by
 cases o with
 | none=>exact hd
 | some v =>
  show (if v < 0 then (v+(n:Int)).toNat else min v.toNat n)≤n
  by_cases hv:v < 0
  ·rw[if_pos hv];omega
  ·rw[if_neg hv];exact Nat.min_le_right _ _
theorem n6 (v:Int)(n d:Nat):(if v < 0 then max (v+(n:Int)) 0 else min v (n:Int))=((sIx n d (some v):Nat):Int):=by
 show (if v < 0 then max (v+(n:Int)) 0 else min v (n:Int))=(((if v < 0 then (v+(n:Int)).toNat else min v.toNat n):Nat):Int)
 by_cases hv:v < 0
 ·simp only[if_pos hv];omega
 ·simp only[if_neg hv];omega
theorem mS (lo hi:Option Int)(n:Nat):Builtin.Slice.sliceAdjust lo hi 1 (n:Int)=(((sIx n 0 lo:Nat):Int),((sIx n n hi:Nat):Int)):=by
 have h1:¬ ((1:Int) < 0):=by omega
 unfold Builtin.Slice.sliceAdjust
 simp only[h1,if_false]
 refine Prod.ext ?_ ?_
 ·cases lo with
  | none=>rfl
  | some v=>exact n6 v n 0
 ·cases hi with
  | none=>rfl
  | some v=>exact n6 v n n
theorem mT (i j:Nat):Builtin.Slice.slicePlaces (i:Int) (j:Int) 1=j - i:=by
 unfold Builtin.Slice.slicePlaces
 have h1:(1:Int) > 0:=by omega
 simp only[h1,if_true,Int.ediv_one]
 split<;>omega
theorem ib {v:Value}{o:Option Int}{Q:Option Int→Shared→Prop}(p:IsPart v o)(h:Q o s):wpAny (model prog w) A (Builtin.Slice.slicePartIndex v) Q E s:=by
 cases p with
 | none=>exact slicePart_none h
 | int i t=>exact slicePart_int h
theorem cx {sl:Addr}{vl vu:Value}{lo hi:Option Int}{n:Nat}{Q:Int×Int×Nat→Shared→Prop}(hs:s.heap.IsSliceOf sl vl vu .none)(pl:IsPart vl lo)(pu:IsPart vu hi)
  (h:Q (((sIx n 0 lo:Nat):Int),1,sIx n n hi - sIx n 0 lo) s):wpAny (model prog w) A (Builtin.Slice.sliceApplied (.ref sl) (pure (n:Int))) Q E s:=by
 obtain⟨os,hos,hcs,hds⟩:=id hs
 unfold Builtin.Slice.sliceApplied Builtin.Slice.sliceFields
 refine wpAny_bind (wpAny_bind (wpAny_field hos hds (x:=vl) rfl (wpAny_bind (wpAny_field hos hds (x:=vu) rfl (wpAny_bind (wpAny_field hos hds (x:=.none) rfl (wpAny_pure ?_)))))))
 refine wpAny_bind (slicePart_none ?_)
 show wpAny _ _ (if ((1:Int)==0)=true then _ else _) _ _ s
 rw[if_neg (by decide)]
 refine wpAny_bind (ib pl (wpAny_bind (ib pu (wpAny_bind (wpAny_pure ?_)))))
 show wpAny _ _ (match Builtin.Slice.sliceAdjust lo hi 1 (n:Int) with | (lo,hi)=>pure (lo,(1:Int),Builtin.Slice.slicePlaces lo hi 1)) _ _ s
 rw[mS lo hi n]
 show wpAny _ _ (pure (((sIx n 0 lo:Nat):Int),(1:Int),Builtin.Slice.slicePlaces ((sIx n 0 lo:Nat):Int) ((sIx n n hi:Nat):Int) 1)) _ _ s
 rw[mT]
 exact wpAny_pure h
theorem qY (xs:Array Value)(i k:Nat):((List.range k).filterMap fun (m:Nat)=>xs[((i:Int)+(m:Int)*1).toNat]?).toArray=((xs.toList.drop i).take k).toArray:=by
 have e:(fun (m:Nat)=>xs[((i:Int)+(m:Int)*1).toNat]?)=fun m=>xs[i+m]?:=by
  funext m
  have:((i:Int)+(m:Int)*1).toNat=i+m:=by omega
  rw[this]
 rw[e]
 have:=pick_run xs i k
 rw[List.filterMap_map]at this
 have e2:((fun x=>xs[x]?)∘fun x=>i+x)=fun m=>xs[i+m]?:=rfl
 rw[e2]at this
 rw[this]
theorem e7 {t sl:Addr}{items:Array Value}{vl vu:Value}{lo hi:Option Int}{Q:Value→Shared→Prop}(ht:IsTup s.heap t items)(hs:s.heap.IsSliceOf sl vl vu .none)(pl:IsPart vl lo)(pu:IsPart vu hi)
  (hw:¬ (sIx items.size 0 lo=0∧sIx items.size items.size hi=items.size))
  (h:Q (.ref s.heap.objs.size) { s with heap:=s.heap.push { cls:=.type "tuple",data:=.seq ((items.toList.drop (sIx items.size 0 lo)).take (sIx items.size items.size hi - sIx items.size 0 lo)).toArray } })
  (hsz:items.size≤sizeLine):wpAny (model prog w) A (getItem (.ref t) (.ref sl)) Q E s:=by
 have htake:sizeOk (.seq ((items.toList.drop (sIx items.size 0 lo)).take (sIx items.size items.size hi - sIx items.size 0 lo)).toArray):=by
  show ((items.toList.drop (sIx items.size 0 lo)).take (sIx items.size items.size hi - sIx items.size 0 lo)).toArray.size≤sizeLine
  rw[List.size_toArray,List.length_take,List.length_drop,Array.length_toList]
  omega
 have hj:sIx items.size items.size hi≤items.size:=v6 _ _ (Nat.le_refl _) hi
 obtain⟨os,hos,hcs,hds⟩:=id hs
 have hTs:s.TypeIs (.ref sl) "slice" := ⟨os,hos,hcs⟩
 unfold getItem
 try with_reducible refine wpAny_holding ?_
 first | refine wpAny_bind (wpAny_pure ?_) | skip
 refine wpAny_bind (wpAny_sequenceKey ht.typeIs (by decide) ?_)
 refine wpAny_bind (wpAny_callSpecial?_slot (name:=Str.ofString "__getitem__") ht.typeIs PyProof.Rows.slot_tuple_getitem
  (wpAny_call_entry PyProof.Rows.slot_tuple_getitem ht.typeIs entry_tuple_getitem ?_ (args_tuple_getitem _ _)))
 show wpAny _ _ (Builtin.Tuple.tupleItemsOf (.ref t) >>= _) _ _ s
 refine wpAny_bind (tupleItemsOf_ ht ?_)
 refine wpAny_bind (wpAny_typeOf hTs ?_)
 rw[if_pos (by decide)]
 refine wpAny_bind (cx hs pl pu ?_)
 have hno:¬ ((((sIx items.size 0 lo:Nat):Int)==0&&(1:Int)==1&&(sIx items.size items.size hi - sIx items.size 0 lo)==items.size)=true):=by
  intro q
  rw[Bool.and_eq_true,Bool.and_eq_true]at q
  have q1:((sIx items.size 0 lo:Nat):Int)=0:=eq_of_beq q.1.1
  have q2:sIx items.size items.size hi - sIx items.size 0 lo=items.size:=eq_of_beq q.2
  exact hw ⟨by omega,by omega⟩
 show wpAny _ _ (if (((sIx items.size 0 lo:Nat):Int)==0&&(1:Int)==1&&(sIx items.size items.size hi - sIx items.size 0 lo)==items.size)=true then _ else _) _ _ s
 rw[if_neg hno,qY]
 first
  | exact wpAny_bind (m:=Builtin.Tuple.tupleExact _) (wpAny_newObj_type (wpAny_pure ⟨_,rfl,wpAny_pure h⟩) htake)
  | exact wpAny_bind (m:=Builtin.Tuple.tupleExact _) (wpAny_newObj_type (wpAny_bind (wpAny_pure (wpAny_pure ⟨_,rfl,wpAny_pure h⟩))) htake)
  | exact wpAny_bind (wpAny_bind (m:=Builtin.Tuple.tupleExact _) (wpAny_newObj_type (wpAny_pure (wpAny_pure ⟨_,rfl,wpAny_pure h⟩)) htake))
  | exact wpAny_bind (wpAny_bind (m:=Builtin.Tuple.tupleExact _) (wpAny_newObj_type (wpAny_pure ⟨_,rfl,wpAny_pure h⟩) htake))
end
end HT
namespace L2
open PySem PySem.Spec PyProof.Rows
abbrev TO:=St→Hp→(Option Int→Hp→Prop)→Prop
def PO (X:Cx)(e:Option Expr)(t:TO):Prop :=
 ∀ (pins:List (Addr×Obj)) (s:Shared) (σ:St) (H:Hp) (Q:Option Int→Hp→Prop),Inv X pins σ H s→t σ H Q →
  wpAny (model X.prog X.w) X.A (evalPart e X.env) (fun u s'=>∃ o H',Inv X pins σ H' s'∧IsPart u o∧Q o H') X.xe s
def tNoPart:TO:=fun _ H Q=>Q none H
def tPart (t:TE):TO:=fun σ H Q=>t σ H fun x H1=>∃ i,x=.int i∧Q (some i) H1
theorem eB {ns:List Int}:∀ {us:List Value},Vals (ns.map V.int) us→IntsAre us ns:=by
 induction ns with
 | nil=>intro us r;rw[List.map_nil]at r;cases r;exact .nil
 | cons n ns ih =>
  intro us r
  rw[List.map_cons]at r
  cases r with
  | cons r1 r2 =>
   obtain⟨t,e⟩:=r1
   subst e
   exact .cons n t (ih r2)
section
variable {X:Cx}{e:Expr}{te:TE}{lo hi:Option Expr}{tl th:TO}{pos p2:Pos}
theorem uc:PO X none tNoPart:=by
 intro pins s σ H Q I h
 rw[evalPart_none]
 exact wpAny_pure ⟨none,H,I,.none,h⟩
theorem ud (h:PE X e te):PO X (some e) (tPart te):=by
 intro pins s σ H Q I hw
 rw[evalPart_some]
 refine thn (h pins s σ H _ I hw) fun u s1 ⟨x,H1,I1,r1,q1⟩=>?_
 obtain⟨i,rfl,q⟩:=q1
 obtain⟨t,rfl⟩:=r1
 exact⟨some i,H1,I1,.int i t,q⟩
def SlR (X:Cx)(r:V→Option Int→Option Int→Hp→VK→Prop):Prop :=
 ∀ (pins:List (Addr×Obj)) (s:Shared) (σ:St) (H:Hp) (x:V) (v vl vu:Value) (lo hi:Option Int) (sl:Addr) (Q:VK),Inv X pins σ H s→RelV x v→s.heap.IsSliceOf sl vl vu .none→IsPart vl lo→IsPart vu hi→r x lo hi H Q →
  ∃ T id,typeLookup (.type T) "__getitem__"=pure (some (.builtin id))∧s.TypeIs v T∧wpAny (model X.prog X.w) X.A (getItem v (.ref sl)) (EP X pins σ Q) X.xe s
theorem SlR.or {r r':V→Option Int→Option Int→Hp→VK→Prop}(h:SlR X r)(h':SlR X r'):SlR X (fun x lo hi H Q=>r x lo hi H Q∨r' x lo hi H Q):=by
 intro pins s σ H x v vl vu lo hi sl Q I rx hs pl pu q
 rcases q with q | q
 ·exact h pins s σ H x v vl vu lo hi sl Q I rx hs pl pu q
 ·exact h' pins s σ H x v vl vu lo hi sl Q I rx hs pl pu q
def tSl (r:V→Option Int→Option Int→Hp→VK→Prop)(te:TE)(tl th:TO):TE:=fun σ H Q=>te σ H fun x H1=>tl σ H1 fun l H2=>th σ H2 fun u H3=>r x l u H3 Q
theorem qZ {r:V→Option Int→Option Int→Hp→VK→Prop}(hr:SlR X r)(he:PE X e te)(hl:PO X lo tl)(hu:PO X hi th):PE X (.Subscript e (.Slice lo hi none p2) pos) (tSl r te tl th):=by
 intro pins s σ H Q I h
 refine Subscript_ (thn (he pins s σ H _ I h) fun v s1 ⟨x,H1,I1,r1,q1⟩=>?_)
 refine wpAny_Slice (thn (hl pins s1 σ H1 _ I1 q1) fun vl s2 ⟨l,H2,I2,pl,q2⟩=>thn (hu pins s2 σ H2 _ I2 q2) fun vu s3 ⟨u,H3,I3,pu,q3⟩=>?_)
 rw[evalPart_none]
 refine wpAny_pure ?_
 have I4:Inv X pins σ H3 { s3 with heap:=s3.heap.push { cls:=.type "slice",data:=.fields #[vl,vu,.none] } }:=I3.kept (t':=s3.toks) fun b ob q=>Heap.get?_push_of_some _ q
 obtain⟨T,id,hT,ht,hg⟩:=hr pins { s3 with heap:=s3.heap.push { cls:=.type "slice",data:=.fields #[vl,vu,.none] } } σ H3 x v vl vu l u s3.heap.objs.size Q I4 r1 (Heap.IsSliceOf.new ..) pl pu q3
 show wpAny (model X.prog X.w) X.A (subscriptTail e (.Slice lo hi none p2) v (.ref s3.heap.objs.size)) (EP X pins σ Q) X.xe { s3 with heap:=s3.heap.push { cls:=.type "slice",data:=.fields #[vl,vu,.none] } }
 exact tail_any (ops:=[.ref s3.heap.objs.size,v]) ht hT hg (by with_unfolding_all rfl)
def cutV (xs:List V)(lo hi:Option Int):List V:=(xs.drop (HT.sIx xs.length 0 lo)).take (HT.sIx xs.length xs.length hi - HT.sIx xs.length 0 lo)
theorem gJ (xs:List V)(lo hi:Option Int):(cutV xs lo hi).length≤xs.length:=by
 unfold cutV
 rw[List.length_take,List.length_drop]
 omega
def rSlT (K:PySem.W.Frag):V→Option Int→Option Int→Hp→VK→Prop:=fun x lo hi H Q=>∃ a xs,x=.ref a∧SqT K H a xs ∧
 ¬ (HT.sIx xs.length 0 lo=0∧HT.sIx xs.length xs.length hi=xs.length)∧∀ p,H p=none→Q (.ref p) (upd H p (.tup (cutV xs lo hi)))
theorem v7:SlR X (rSlT X.K):=by
 intro pins s σ H x v vl vu lo hi sl Q I rx hs pl pu h
 obtain⟨a,xs,rfl,hx,hw,q⟩:=h
 cases rx
 obtain⟨its,r,ht,hz⟩:=I.tuple hx
 have hlen:its.toArray.size=xs.length:=by rw[List.size_toArray];exact r.length.symm
 refine⟨"tuple",_,PyProof.Rows.slot_tuple_getitem.lookup,ht.typeIs,?_⟩
 refine HT.e7 ht hs pl pu (by rw[hlen];exact hw) ?_ (by rw[hlen];exact hz)
 rw[hlen]
 refine⟨.ref s.heap.objs.size,_,I.laid (t':=s.toks) (o:=.tup (cutV xs lo hi)) (fun b ob q=>Heap.get?_push_of_some _ q) (Nat.le_refl _) ?_,rfl,q _ (I.hok.fresh (Nat.le_refl _))⟩
 exact⟨Nat.le_trans (gJ xs lo hi) hz,_,(r.drop (HT.sIx xs.length 0 lo)).take (HT.sIx xs.length xs.length hi - HT.sIx xs.length 0 lo),TupO.new _ _⟩
def rCatT (K:PySem.W.Frag):R2:=fun x y H Q=>∃ a b xs ys,x=.ref a∧y=.ref b∧SqT K H a xs∧SqT K H b ys∧xs≠[]∧xs.length+ys.length≤sizeLine ∧
 (ys=[]→Q (.ref a) H)∧(ys≠[]→∀ p,H p=none→Q (.ref p) (upd H p (.tup (xs++ys))))
theorem Vals.nil_iff {xs:List V}{us:List Value}(r:Vals xs us):us=[]↔xs=[]:=by
 cases r with
 | nil=>simp
 | cons _ _=>simp
theorem ue:OpR X (binaryOp .Add) (rCatT X.K):=by
 intro pins s σ H x y v u Q I rx ry h
 obtain⟨a,b,xs,ys,rfl,rfl,ha,hb,hx,hz,q1,q2⟩:=h
 cases rx
 cases ry
 obtain⟨its,r1,p1,_⟩:=I.tuple ha
 obtain⟨its2,r2,p2,_⟩:=I.tuple hb
 refine HT.ub p1 p2 (fun z=>hx (r1.nil_iff.mp z)) (fun z=>⟨.ref a,H,I,rfl,q1 (r2.nil_iff.mp z)⟩) (fun z=>?_) (by rw[← r1.length,← r2.length];exact hz)
 refine⟨.ref s.heap.objs.size,_,I.laid (t':=s.toks) (o:=.tup (xs++ys)) (fun b ob q=>Heap.get?_push_of_some _ q) (Nat.le_refl _) ?_,rfl,q2 (fun w=>z (r2.nil_iff.mpr w)) _ (I.hok.fresh (Nat.le_refl _))⟩
 exact⟨by rw[List.length_append];exact hz,_,r1.append r2,TupO.new _ _⟩
end
end L2
namespace L2
open PySem PySem.Spec PyProof.Rows
def ixN (n:Nat)(i:Int):Option Nat:=if 0≤i then (if i < n then some i.toNat else none) else if -(n:Int)≤i then some (i+n).toNat else none
def atI {α:Type}(xs:List α)(i:Int):Option α:=(ixN xs.length i).bind fun j=>xs[j]?
theorem n8 {n:Nat}{i:Int}{j:Nat}(h:ixN n i=some j):seqIndex? i n=some j∧j < n∧-(n:Int)≤i∧i < n:=by
 unfold ixN at h
 by_cases h0:0≤i
 ·rw[if_pos h0]at h
  by_cases h1:i < n
  ·rw[if_pos h1]at h
   have e:i.toNat=j:=Option.some.inj h
   exact⟨by rw[seqIndex_of h0 h1,e],by omega,by omega,h1⟩
  ·rw[if_neg h1]at h;cases h
 ·rw[if_neg h0]at h
  by_cases h1 : -(n:Int)≤i
  ·rw[if_pos h1]at h
   have e:(i+n).toNat=j:=Option.some.inj h
   exact⟨by rw[seqIndex_neg (by omega) h1,e],by omega,h1,by omega⟩
  ·rw[if_neg h1]at h;cases h
theorem kn {α:Type}{xs:List α}{i:Int}{v:α}(h:atI xs i=some v):∃ j,seqIndex? i xs.length=some j∧xs[j]?=some v∧j < xs.length∧-(xs.length:Int)≤i∧i < xs.length:=by
 unfold atI at h
 cases e:ixN xs.length i with
 | none=>rw[e]at h;cases h
 | some j =>
  rw[e]at h
  obtain⟨h1,h2,h3,h4⟩:=n8 e
  exact⟨j,h1,h,h2,h3,h4⟩
theorem ko {α:Type}{xs:List α}{j:Nat}{v:α}(h:xs[j]?=some v):atI xs (j:Int)=some v:=by
 have hj:j < xs.length:=(List.getElem?_eq_some_iff.mp h).1
 have e:ixN xs.length (j:Int)=some j:=by
  unfold ixN
  rw[if_pos (by omega),if_pos (by omega)];simp
 unfold atI;rw[e];exact h
def PlainIx (b:Expr):Prop:=∀ o i,subscripted b false o i=operate [o,i] (getItem o i)
def IxR (X:Cx)(r:R2):Prop :=
 ∀ (value slice:Expr) (pins:List (Addr×Obj)) (s:Shared) (σ:St) (H:Hp) (x y:V) (v u:Value) (Q:VK),Inv X pins σ H s→RelV x v→RelV y u→r x y H Q →
  subscripted slice false v u=operate [v,u] (getItem v u)→wpAny (model X.prog X.w) X.A (subscriptTail value slice v u) (EP X pins σ Q) X.xe s
def MtR (X:Cx)(id:String)(r:V→List V→Hp→VK→Prop):Prop :=
 ∀ (pins:List (Addr×Obj)) (s:Shared) (σ:St) (H:Hp) (x:V) (xs:List V) (v:Value) (us:List Value) (Q:VK),Inv X pins σ H s→RelV x v→Vals xs us→r x xs H Q →
  wpAny (model X.prog X.w) X.A (call (.builtin id) (v::us)) (EP X pins σ Q) X.xe s
section
variable {X:Cx}{a b:Expr}{ta tb:TE}{pos:Pos}
theorem IxR.or {r r':R2}(h:IxR X r)(h':IxR X r'):IxR X (fun x y H Q=>r x y H Q∨r' x y H Q):=by
 intro value slice pins s σ H x y v u Q I rx ry q hs
 rcases q with q | q
 ·exact h value slice pins s σ H x y v u Q I rx ry q hs
 ·exact h' value slice pins s σ H x y v u Q I rx ry q hs
theorem vw {r:R2}(hr:IxR X r)(ha:PE X a ta)(hb:PE X b tb)(hs:PlainIx b):PE X (.Subscript a b pos) (tOp r ta tb):=by
 intro pins s σ H Q I h
 exact Subscript_ (binT ha hb I h fun v u s2 x y H2 I2 rx ry q=>hr a b pins s2 σ H2 x y v u Q I2 rx ry q (hs _ _))
def rIxL (K:PySem.W.Frag):R2:=fun x y H Q=>∃ p xs i v,x=.ref p∧y=.int i∧SqL K H p xs∧atI xs i=some v∧Q v H
def rIxT (K:PySem.W.Frag):R2:=fun x y H Q=>∃ p xs i v,x=.ref p∧y=.int i∧SqT K H p xs∧atI xs i=some v∧Q v H
def rIxS:R2:=fun x y H Q=>∃ z i c,x=.str z∧y=.int i∧z.length≤sizeLine∧atI z.cps.toList i=some c∧Q (.str ⟨#[c]⟩) H
theorem n9:IxR X (rIxL X.K):=by
 intro value slice pins s σ H x y v u Q I rx ry h hs
 obtain⟨p,xs,i,z,rfl,rfl,hq,he,q⟩:=h
 cases rx
 obtain⟨t,rfl⟩:=ry
 obtain⟨its,r,pl,hz⟩:=I.list hq
 obtain⟨j,h1,h2,h3,h4,h5⟩:=kn he
 obtain⟨w,ew,rw'⟩:=r.get h2
 have hl:=r.length
 have hn:=line63
 have fin:EP X pins σ Q w s:=⟨z,H,I,rw',q⟩
 by_cases h0:0≤i
 ·have hj:i.toNat=j:=by
   rw[seqIndex_of h0 h5]at h1
   exact Option.some.inj h1
  exact item_listR pl.isList h0 (by omega) (by rw[hj];simpa using ew) fin hs
 ·have hj:(i+(its.toArray.size:Int)).toNat=j:=by
   rw[seqIndex_neg (by omega) h4]at h1
   rw[List.size_toArray,← hl]
   exact Option.some.inj h1
  exact subscriptTail_builtinR (x:=w) pl.isList.typeIs slot_list_getitem.lookup
   (wpAny_getItem_list_neg (Q:=fun r s'=>r=w∧EP X pins σ Q r s') pl.isList (by omega) (by rw[List.size_toArray]<;>omega) (by omega) (by rw[hj];simpa using ew) ⟨rfl,fin⟩) hs
theorem v8:IxR X (rIxT X.K):=by
 intro value slice pins s σ H x y v u Q I rx ry h hs
 obtain⟨p,xs,i,z,rfl,rfl,hq,he,q⟩:=h
 cases rx
 obtain⟨t,rfl⟩:=ry
 obtain⟨its,r,pl,hz⟩:=I.tuple hq
 obtain⟨j,h1,h2,h3,h4,h5⟩:=kn he
 obtain⟨w,ew,rw'⟩:=r.get h2
 have hl:=r.length
 have hn:=line63
 have fin:EP X pins σ Q w s:=⟨z,H,I,rw',q⟩
 exact subscriptTail_builtinR (x:=w) pl.typeIs slot_tuple_getitem.lookup
  (getItem_tuple (j:=j) (Q:=fun r s'=>r=w∧EP X pins σ Q r s') pl (by omega) (by omega) (by rw[List.size_toArray,← hl];exact h1) (by simpa using ew) ⟨rfl,fin⟩) hs
theorem v9:IxR X rIxS:=by
 intro value slice pins s σ H x y v u Q I rx ry h hs
 obtain⟨z,i,c,rfl,rfl,hz,he,q⟩:=h
 obtain⟨t,rfl⟩:=rx
 obtain⟨t',rfl⟩:=ry
 obtain⟨j,h1,h2,h3,h4,h5⟩:=kn he
 have hl:z.cps.toList.length=z.length:=by simp[Str.length]
 rw[hl]at h1 h4 h5
 have hn:=line63
 exact tail_any (typeIs_str s z t) slot_str_getitem.lookup (getItem_str (c:=c) (by
  have e1:decide (i < -(2^63:Int))=false:=decide_eq_false (by omega)
  have e2:decide (i≥2^63)=false:=decide_eq_false (by omega)
  rw[e1,e2,Bool.or_false]) (by rw[h1];simpa using h2) ⟨.str ⟨#[c]⟩,H,I.tok _,⟨_,rfl⟩,q⟩) hs
def rIx (K:PySem.W.Frag):R2:=fun x y H Q=>rIxL K x y H Q∨rIxT K x y H Q∨rIxS x y H Q
theorem wa:IxR X (rIx X.K):=n9.or (v8.or v9)
theorem mU (its:List Value)(n j:Nat)(u:Value):Obj.mapSeq (·.setIfInBounds j u) { cls:=.type "list",data:=.seq its.toArray n }={ cls:=.type "list",data:=.seq (its.set j u).toArray n }:=by
 simp[Obj.mapSeq]
theorem Inv.lst {pins:List (Addr×Obj)}{σ:St}{H:Hp}{s:Shared}{p:Addr}{xs:List V}(I:Inv X pins σ H s)(h:H p=some (.lst xs)) :
  ∃ (its:List Value) (n:Nat),Vals xs its∧s.heap.get? p=some { cls:=.type "list",data:=.seq its.toArray n }∧xs.length≤sizeLine:=by
 obtain⟨z,its,n,r,e⟩:=I.hok p _ h
 exact⟨its,n,r,e,z⟩
theorem Inv.lstUpd {pins:List (Addr×Obj)}{σ:St}{H:Hp}{s:Shared}{p:Addr}{xs ys:List V}{its its':List Value}{n n':Nat}{f:Obj→Obj}(I:Inv X pins σ H s)(h:H p=some (.lst xs))
  (ho:s.heap.get? p=some { cls:=.type "list",data:=.seq its.toArray n }) (hf:f { cls:=.type "list",data:=.seq its.toArray n }={ cls:=.type "list",data:=.seq its'.toArray n' }) (r:Vals ys its') (hz:ys.length≤sizeLine) (t:Nat) :
  Inv X pins σ (upd H p (.lst ys)) { s with heap:=s.heap.update p f,toks:=t }:=by
 have e:(s.heap.update p f).get? p=some { cls:=.type "list",data:=.seq its'.toArray n' }:=by
  rw[Heap.get?_update_self f ho (by rw[hf]<;>rfl),hf]
 refine I.write (x:=p) (e:=p) (by rw[h];trivial) (.inl rfl) (fun b u hb q=>(Heap.get?_update_other _ _ (Ne.symm hb)).trans q) ⟨_,e⟩ ?_
 exact⟨hz,its',n',r,e⟩
def rSetL:V→V→V→Hp→(Hp→Prop)→Prop:=fun o i v H Q=>∃ p xs k j,o=.ref p∧i=.int k∧H p=some (.lst xs)∧ixN xs.length k=some j∧Q (upd H p (.lst (xs.set j v)))
theorem q5:PSet X rSetL:=by
 intro pins s σ H o i v ov iv u Q I ro ri rv h
 obtain⟨p,xs,k,j,rfl,rfl,hp,hj,q⟩:=h
 cases ro
 obtain⟨t,rfl⟩:=ri
 obtain⟨its,n,r,ho,hz⟩:=I.lst hp
 obtain⟨h1,h2,h3,h4⟩:=n8 hj
 have hl:=r.length
 have hn:=line63
 have I':Inv X pins σ (upd H p (.lst (xs.set j v))) { s with heap:=s.heap.update p (Obj.mapSeq (·.setIfInBounds j u)) } :=
  I.lstUpd hp ho (mU its n j u) (r.set rv j) (by rw[List.length_set];exact hz) s.toks
 by_cases h0:0≤k
 ·have hk:k.toNat=j:=by
   rw[seqIndex_of h0 h4]at h1
   exact Option.some.inj h1
  exact PySem.W.ki_setAt ho h0 (by omega) (by rw[List.size_toArray,← hl];exact h4) (by rw[hk];exact⟨_,I',q⟩)
 ·have hk:(k+(its.toArray.size:Int)).toNat=j:=by
   rw[seqIndex_neg (by omega) h3]at h1
   rw[List.size_toArray,← hl]
   exact Option.some.inj h1
  exact PySem.W.ki_setBack ho (by omega) (by rw[List.size_toArray,← hl];exact h3) (by omega) (by rw[hk];exact⟨_,I',q⟩)
theorem kq (lo hi:Option Int)(n:Nat):(sliceBounds lo hi none n).1=((HT.sIx n 0 lo:Nat):Int)∧(sliceBounds lo hi none n).2.1=((HT.sIx n n hi:Nat):Int)∧(sliceBounds lo hi none n).2.2=1:=by
 refine⟨?_,?_,rfl⟩
 ·cases lo with
  | none=>simp[sliceBounds,HT.sIx]
  | some i =>
   simp only[sliceBounds,HT.sIx,Option.getD_none,show (1:Int) > 0 by decide,if_true]
   by_cases h:i < 0
   ·simp only[h,if_true]<;>omega
   ·simp only[h,if_false]<;>omega
 ·cases hi with
  | none=>simp[sliceBounds,HT.sIx]
  | some i =>
   simp only[sliceBounds,HT.sIx,Option.getD_none,show (1:Int) > 0 by decide,if_true]
   by_cases h:i < 0
   ·simp only[h,if_true]<;>omega
   ·simp only[h,if_false]<;>omega
theorem jg (its:List Value)(lo hi:Option Int):slicePick its.toArray lo hi none=((its.drop (HT.sIx its.length 0 lo)).take (HT.sIx its.length its.length hi - HT.sIx its.length 0 lo)).toArray:=by
 obtain⟨h1,h2,h3⟩:=kq lo hi its.toArray.size
 unfold slicePick
 rw[h1,h2,h3]
 simp only[sliceRange_one,pick_run,List.size_toArray]<;>rfl
def rSlL (K:PySem.W.Frag):V→Option Int→Option Int→Hp→VK→Prop:=fun x lo hi H Q=>∃ a xs,x=.ref a∧SqL K H a xs∧∀ p,H p=none→Q (.ref p) (upd H p (.lst (cutV xs lo hi)))
theorem uf:SlR X (rSlL X.K):=by
 intro pins s σ H x v vl vu lo hi sl Q I rx hs pl pu h
 obtain⟨a,xs,rfl,hx,q⟩:=h
 cases rx
 obtain⟨its,r,ht,hz⟩:=I.list hx
 have hlen:=r.length
 refine⟨"list",_,slot_list_getitem.lookup,ht.isList.typeIs,?_⟩
 refine wpAny_getItem_list_slice ht.isList hs pl pu .none (by simp) ?_ (by rw[List.size_toArray]<;>omega)
 rw[jg,← hlen]
 refine⟨.ref s.heap.objs.size,_,I.laid (t':=s.toks) (o:=.lst (cutV xs lo hi)) (fun b ob q=>Heap.get?_push_of_some _ q) (Nat.le_refl _) ?_,rfl,q _ (I.hok.fresh (Nat.le_refl _))⟩
 exact⟨Nat.le_trans (gJ xs lo hi) hz,_,0,(r.drop (HT.sIx xs.length 0 lo)).take (HT.sIx xs.length xs.length hi - HT.sIx xs.length 0 lo),Heap.get?_push_size _ rfl⟩
def flatV:V→Bool
 | .non=>true
 | .bl _=>true
 | .int _=>true
 | .str _=>true
 | _=>false
def eqV:V→V→Bool
 | .non,.non=>true
 | .bl a,.bl b=>a==b
 | .bl a,.int b=>(if a then 1 else 0)==b
 | .int a,.bl b=>a==(if b then 1 else 0)
 | .int a,.int b=>a==b
 | .str a,.str b=>a==b
 | _,_=>false
theorem q9 {A:Around}{s:Shared}{y x:V}{u v:Value}(ry:RelV y u)(rx:RelV x v)(fy:flatV y=true)(fx:flatV x=true):SeqAt.EqAt A s u v (eqV y x):=by
 cases y with
 | non =>
  cases ry
  cases x with
  | non=>cases rx;exact SeqAt.EqAt.same _
  | bl b=>cases rx;exact SeqAt.EqAt.none_bool b
  | int b=>obtain⟨t,rfl⟩:=rx;exact SeqAt.EqAt.none_int b t
  | str b=>obtain⟨t,rfl⟩:=rx;exact SeqAt.EqAt.none_str b t
  | _=>exact absurd (show false=true from fx) Bool.false_ne_true
 | bl a =>
  cases ry
  cases x with
  | non=>cases rx;exact SeqAt.EqAt.bool_none a
  | bl b=>cases rx;exact SeqAt.EqAt.bool_bool a b
  | int b=>obtain⟨t,rfl⟩:=rx;exact SeqAt.EqAt.bool_int a b t
  | str b=>obtain⟨t,rfl⟩:=rx;exact SeqAt.EqAt.bool_str a b t
  | _=>exact absurd (show false=true from fx) Bool.false_ne_true
 | int a =>
  obtain⟨t',rfl⟩:=ry
  cases x with
  | non=>cases rx;exact SeqAt.EqAt.int_none a t'
  | bl b=>cases rx;exact SeqAt.EqAt.int_bool a t' b
  | int b=>obtain⟨t,rfl⟩:=rx;exact SeqAt.EqAt.int_int a t' b t
  | str b=>obtain⟨t,rfl⟩:=rx;exact SeqAt.EqAt.int_str a t' b t
  | _=>exact absurd (show false=true from fx) Bool.false_ne_true
 | str a =>
  obtain⟨t',rfl⟩:=ry
  cases x with
  | non=>cases rx;exact SeqAt.EqAt.str_none a t'
  | bl b=>cases rx;exact SeqAt.EqAt.str_bool a t' b
  | int b=>obtain⟨t,rfl⟩:=rx;exact SeqAt.EqAt.str_int a t' b t
  | str b=>obtain⟨t,rfl⟩:=rx;exact SeqAt.EqAt.str_str a t' b t
  | _=>exact absurd (show false=true from fx) Bool.false_ne_true
 | _=>exact absurd (show false=true from fy) Bool.false_ne_true
theorem e8:CallR X (.builtin "len") (fun xs H Q=>∃ p ys,xs=[.ref p]∧(SqL X.K H p ys∨SqT X.K H p ys)∧Q (.int ys.length) H):=by
 intro pins s σ H xs us Q I r h
 obtain⟨p,ys,rfl,hq,q⟩:=h
 obtain⟨u,rfl,rx⟩:=vals1 r
 cases rx
 have hn:=line63
 rcases hq with hq | hq
 ·obtain⟨its,r',pl,hz⟩:=I.list hq
  have hlen:=r'.length
  exact Calls.call_len_list pl.isList (by simp only[List.size_toArray]<;>omega) ⟨.int ys.length,H,I.tok _,⟨s.toks+1,by rw[List.size_toArray,hlen]⟩,q⟩
 ·obtain⟨its,r',pl,hz⟩:=I.tuple hq
  have hlen:=r'.length
  exact len_tuple pl (by simp only[List.size_toArray]<;>omega) ⟨.int ys.length,H,I.tok _,⟨s.toks+1,by rw[List.size_toArray,hlen]⟩,q⟩
theorem kr:CallR X (.type "list") (fun xs H Q=>∃ p ys,xs=[.ref p]∧(SqL X.K H p ys∨SqT X.K H p ys)∧∀ l,H l=none→Q (.ref l) (upd H l (.lst ys))):=by
 intro pins s σ H xs us Q I r h
 obtain⟨p,ys,rfl,hq,q⟩:=h
 obtain⟨u,rfl,rx⟩:=vals1 r
 cases rx
 have fin:∀ (its:List Value),Vals ys its→ys.length≤sizeLine→∀ (h':Heap) (c':Nat),(∀ b o',s.heap.get? b=some o'→h'.get? b=some o') →
   h'.get? s.heap.objs.size=some { cls:=.type "list",dict:=none,data:=.seq its.toArray c',slots:=#[] }→EP X pins σ Q (.ref s.heap.objs.size) { s with heap:=h' }:=fun its r' hz h' c' kp e =>
  ⟨.ref s.heap.objs.size,_,I.laid (t':=s.toks) kp (Nat.le_refl _) (show ObjOk X.prog X.w _ h' _ (.lst ys) from ⟨hz,its,c',r',e⟩),rfl,q _ (I.hok.fresh (Nat.le_refl _))⟩
 rcases hq with hq | hq
 ·obtain⟨its,r',pl,hz⟩:=I.list hq
  have hlen:=r'.length
  obtain⟨o,ho,hc,n,hd⟩:=pl.isList
  exact call_list_seq p (.inl rfl) ho hc hd (fun h' c' kp e=>fin its r' hz h' c' kp e) (by simp only[List.size_toArray]<;>omega)
 ·obtain⟨its,r',pl,hz⟩:=I.tuple hq
  have hlen:=r'.length
  obtain⟨o,ho,hc,n,hd⟩:=pl
  exact call_list_seq p (.inr rfl) ho hc hd (fun h' c' kp e=>fin its r' hz h' c' kp e) (by simp only[List.size_toArray]<;>omega)
theorem jh:CallR X (.type "tuple") (fun xs H Q=>∃ p ys,xs=[.ref p]∧((SqL X.K H p ys∧∀ l,H l=none→Q (.ref l) (upd H l (.tup ys)))∨(SqT X.K H p ys∧Q (.ref p) H))):=by
 intro pins s σ H xs us Q I r h
 obtain⟨p,ys,rfl,h⟩:=h
 obtain⟨u,rfl,rx⟩:=vals1 r
 cases rx
 rcases h with ⟨hq,q⟩ | ⟨hq,q⟩
 ·obtain⟨its,r',pl,hz⟩:=I.list hq
  have hlen:=r'.length
  refine call_tuple_list pl.isList (fun h' kp=>?_) (by simp only[List.size_toArray]<;>omega)
  have I1:Inv X pins σ H { s with heap:=h' }:=I.kept (t':=s.toks) kp
  have I2:Inv X pins σ (upd H h'.objs.size (.tup ys)) { s with heap:=h'.push { cls:=.type "tuple",data:=.seq its.toArray } } :=
   I1.laid (t':=s.toks) (fun b o e=>Heap.get?_push_of_some _ e) (Nat.le_refl _) (show ObjOk X.prog X.w _ _ _ (.tup ys) from ⟨hz,its,r',TupO.new _ _⟩)
  exact⟨.ref h'.objs.size,_,I2,rfl,q _ (I1.hok.fresh (Nat.le_refl _))⟩
 ·obtain⟨its,r',pl,hz⟩:=I.tuple hq
  exact call_tuple_same pl ⟨.ref p,H,I,rfl,q⟩
def tyV (K:PySem.W.Frag)(T:String)(x:V)(H:Hp):Prop:=match x with
 | .str _=>T="str"
 | .int _=>T="int"
 | .ref p=>(T="list" ∧ ∃ xs,SqL K H p xs)∨(T="tuple" ∧ ∃ o,K.lookup p=some o∧o.cls=.type "tuple" ∧ o.dict=none) ∨
   (T="dict" ∧ ((∃ kvs,H p=some (.dK kvs))∨∃ kvs,H p=some (.dT kvs)))∨(T="set" ∧ ∃ S n,H p=some (.set S n))
 | _=>False
theorem wb {pins:List (Addr×Obj)}{σ:St}{H:Hp}{s:Shared}{T:String}{x:V}{v:Value}(I:Inv X pins σ H s)(r:RelV x v)(ty:tyV X.K T x H) :
  s.TypeIs v T∧∀ a,v=.ref a→∃ ob,s.heap.get? a=some ob∧ob.dict=none:=by
 cases x with
 | str z =>
  obtain⟨t,rfl⟩:=r
  cases (show T="str" from ty)
  exact⟨typeIs_str s z t,fun _ e=>nomatch e⟩
 | int i =>
  obtain⟨t,rfl⟩:=r
  cases (show T="int" from ty)
  exact⟨typeIs_int s i t,fun _ e=>nomatch e⟩
 | ref p =>
  cases r
  rcases ty with ⟨rfl,xs,hq⟩ | ⟨rfl,o,hk,hc,hd⟩ | ⟨rfl,hk⟩ | ⟨rfl,S,n,hk⟩
  ·obtain⟨its,_,pl,_⟩:=I.list hq
   refine⟨pl.isList.typeIs,fun a e=>?_⟩
   cases e
   obtain⟨o,n,e,c,hd,_⟩:=pl
   exact⟨o,e,hd⟩
  ·refine⟨⟨o,I.kIn p o hk,hc⟩,fun a e=>?_⟩
   cases e
   exact⟨o,I.kIn _ o hk,hd⟩
  ·have z:∃ o,s.heap.get? p=some o∧o.ExactDict:=by
    rcases hk with ⟨kvs,hk⟩ | ⟨kvs,hk⟩
    ·obtain⟨_,_,_,_,o,_,_,e,ex,_⟩:=I.hok p _ hk
     exact⟨o,e,ex⟩
    ·obtain⟨_,_,_,_,o,_,_,e,ex,_⟩:=I.hok p _ hk
     exact⟨o,e,ex⟩
   obtain⟨o,e,ex⟩:=z
   refine⟨⟨o,e,ex.1⟩,fun a e2=>?_⟩
   cases e2
   exact⟨o,e,ex.2.1⟩
  ·obtain⟨o,_,_,_,e,ex,_⟩:=I.hok p _ hk
   refine⟨⟨o,e,ex.1⟩,fun a e2=>?_⟩
   cases e2
   exact⟨o,e,ex.2.1⟩
 | _=>exact False.elim ty
def tBM (K:PySem.W.Frag)(T:String)(r:V→List V→Hp→VK→Prop)(to:TE)(t:TA):TE:=fun σ H Q=>to σ H fun x H1=>tyV K T x H1∧t σ H1 fun xs H2=>r x xs H2 Q
variable {o e:Expr}{es:List Expr}{to:TE}{t:TA}{name:Str}{apos cpos:Pos}{T id:String}{r:V→List V→Hp→VK→Prop}
theorem re (pa:PlainAttrs T)(slot:Slot T name id)(hty:typeOf (.builtin id)=pure (.type "method_descriptor"))(hm:MtR X id r)(ho:PE X o to)(ha:PA X (e::es) t)
  (hbase:attributeBase o name X.env (eval o X.env)=eval o X.env:=by rfl)
  (hfew:((backTo cpos (starEach (e::es) X.env)).all (fun x=>!x.1)&&(backToKw cpos (keywordEach [] X.env)).all (fun x=>x.1.isSome)
   && decide ((e::es).length+([]:List Keyword).length+(if ([]:List Keyword).isEmpty then 0 else 1) < 30))=true:=by rfl)
  (hline:(apos.endLine==cpos.line)=true:=by rfl) (hs:starEach (e::es) X.env=(false,eval e X.env)::starEach es X.env:=by rfl) (hplain:(backTo cpos (starEach es X.env)).any (·.1)=false:=by rfl) :
  PE X (.Call (.Attribute o name apos) (e::es) [] cpos) (tBM X.K T r to t):=by
 intro pins s σ H Q I h
 refine wpAny_Call_method_late hbase hfew hline rfl (thn (ho pins s σ H _ I h) fun v s1 ⟨x,H1,I1,r1,ty,q1⟩=>?_)
 obtain⟨h1,h2⟩:=wb I1 r1 ty
 refine⟨T,id,pa,slot,hty,h1,h2,?_⟩
 have hA:=ha cpos pins s1 σ H1 _ I1 q1
 rw[hs]at hA ⊢
 refine Calls.callWith_builtin (by show (false||(backTo cpos (starEach es X.env)).any (·.1))=false;rw[hplain]<;>rfl) (Calls.evalArgs_plain ?_)
 exact thn hA fun us s2 ⟨vs,H2,I2,r2,q2⟩=>hm pins s2 σ H2 x vs v us Q I2 r1 r2 q2
end
end L2
namespace L2
open PySem PySem.Spec PyProof.Rows
def MtM (X:Cx)(id:String)(r:V→List V→Hp→VK→Prop):Prop :=
 ∀ (pins:List (Addr×Obj)) (s:Shared) (σ:St) (H:Hp) (x:V) (xs:List V) (v:Value) (us:List Value) (Q:VK),Inv X pins σ H s→RelV x v→Vals xs us→r x xs H Q →
  wpAny (model X.prog X.w) X.A (call (.builtin id) (v::us)) (EP X pins σ Q) X.xe s
theorem Vals.one:∀ {x:V} {us:List Value},Vals [x] us→∃ u,us=[u]∧RelV x u
 | _,_,.cons r .nil=>⟨_,rfl,r⟩
theorem Vals.rep {xs:List V}{us:List Value}(h:Vals xs us):∀ k:Nat,Vals (List.replicate k xs).flatten (List.replicate k us).flatten
 | 0=>.nil
 | k+1=>by
  rw[List.replicate_succ,List.replicate_succ,List.flatten_cons,List.flatten_cons]
  exact Vals.append h (Vals.rep h k)
theorem fQ (its:List Value):∀ (k:Nat) (acc:List Value),
  List.foldl (fun x1 x2=>x1++x2) acc.toArray (List.replicate k its.toArray)=(acc++(List.replicate k its).flatten).toArray
 | 0,acc=>by simp
 | k+1,acc=>by
  have e:acc.toArray++its.toArray=(acc++its).toArray:=by simp
  have e2:(acc++its)++(List.replicate k its).flatten=acc++(List.replicate (k+1) its).flatten:=by
   rw[List.replicate_succ,List.flatten_cons,List.append_assoc]
  rw[← e2,← fQ its k (acc++its),← e,List.replicate_succ,List.foldl_cons]
section
variable {X:Cx}{pins:List (Addr×Obj)}{σ:St}{H:Hp}{s:Shared}{l b:Addr}{xs ys zs:List V}
theorem Inv.lset {its its':List Value}{n:Nat}{f:Array Value→Array Value}{t':Nat}(I:Inv X pins σ H s)(hH:H l=some (.lst xs))
  (e:s.heap.get? l=some { cls:=.type "list",data:=.seq its.toArray n }) (hf:f its.toArray=its'.toArray) (hv:Vals ys its') (hz:ys.length≤sizeLine) :
  Inv X pins σ (upd H l (.lst ys)) { s with heap:=s.heap.update l (Obj.mapSeq f),toks:=t' }:=by
 have q:=PySem.IsL.update e f
 rw[hf]at q
 refine I.write (x:=l) (e:=l) (by rw[hH];exact trivial) (.inl rfl) (fun b' u hb hu=>(Heap.get?_update_other s.heap (Obj.mapSeq f) (Ne.symm hb)).trans hu) ⟨_,q⟩ ?_
 exact⟨hz,its',_,hv,q⟩
theorem Inv.lnew {its:List Value}{t':Nat}(I:Inv X pins σ H s)(hv:Vals ys its)(hz:ys.length≤sizeLine) :
  Inv X pins σ (upd H s.heap.objs.size (.lst ys)) { s with heap:=s.heap.push { cls:=.type "list",data:=.seq its.toArray },toks:=t' } :=
 I.laid (fun _ _ q=>Heap.get?_push_of_some _ q) (Nat.le_refl _) ⟨hz,its,0,hv,Heap.get?_push_size _ rfl⟩
theorem Inv.fresh (I:Inv X pins σ H s):H s.heap.objs.size=none:=I.hok.fresh (Nat.le_refl _)
theorem Inv.lstM (I:Inv X pins σ H s)(hH:H l=some (.lst xs)):xs.length≤sizeLine∧∃ (its:List Value) (n:Nat),Vals xs its∧xs.length=its.length∧s.heap.get? l=some { cls:=.type "list",data:=.seq its.toArray n }:=by
 obtain⟨z,its,n,r,e⟩:=I.hok l _ hH
 exact⟨z,its,n,r,r.length,e⟩
theorem notLongL {n:Nat}(h:n≤sizeLine):Builtin.List.listTooLong n=false:=by
 unfold Builtin.List.listTooLong
 exact decide_eq_false (by omega)
end
section
variable {X:Cx}
def rAppend:V→List V→Hp→VK→Prop:=fun x vs H Q=>∃ l xs y,x=.ref l∧vs=[y]∧H l=some (.lst xs)∧xs.length < sizeLine∧Q .non (upd H l (.lst (xs++[y])))
theorem jK:MtM X "list.append" rAppend:=by
 intro pins s σ H x vs v us Q I rx rv h
 obtain⟨l,xs,y,rfl,rfl,hH,hz,q⟩:=h
 cases rx
 obtain⟨u,rfl,ru⟩:=rv.one
 obtain⟨z,its,n,r,hl,e⟩:=I.lstM hH
 refine call_meets F.slot_list_append ⟨_,e,rfl⟩ F.entry_list_append (F.args_list_append_2 _ _) (PySem.list_append l its.toArray n u (by rw[List.size_toArray];omega)) ⟨e,?_⟩
 refine⟨.non,_,I.lset (its':=its++[u]) hH e (by simp) (r.append (.cons ru .nil)) ?_,rfl,q⟩
 rw[List.length_append,List.length_singleton]
 omega
theorem oa {α:Type}(xs:List α)(k:Nat):(List.replicate k xs).flatten.length=k*xs.length:=by
 induction k with
 | zero=>simp
 | succ k ih=>rw[List.replicate_succ,List.flatten_cons,List.length_append,ih,Nat.succ_mul,Nat.add_comm]
end
section
variable {prog:Program}{w:World}{A:Around}{E:Value→Shared→Prop}{s:Shared}
set_option maxRecDepth 100000 in
end
section
variable {X:Cx}
end
end L2
namespace Att
open PySem PySem.W PySem.Calls PyProof.Rows
theorem gX {P:Params}{h:Heap}:∀ (ns:List Int) (vs:List Value),WellAll P h vs (ns.map WData.int)→IntsAre vs ns:=by
 intro ns
 induction ns with
 | nil =>
  intro vs w
  rw[List.map_nil]at w
  cases w
  exact .nil
 | cons n ns ih =>
  intro vs w
  rw[List.map_cons]at w
  cases w with
  | cons a b =>
   cases a
   exact .cons _ _ (ih _ b)
theorem pb {l:OpenLaw}{n:Nat}(hn:l.most=some n){P:Params}{h:Heap}{args:List WData}{vals:List Value}
  (hpre:l.row.toRowW.claim.pre args=true) (hwl:WellAll P h vals args) :
  ∃ a vs ns,vals=[Value.ref a]∧args=[WData.list (ns.map WData.int)]∧h.get? a=some { cls:=.type "list",data:=.seq vs.toArray }∧IntsAre vs ns∧ns.length≤n:=by
 have hsh:WShape.hasAll [] args [.list .int]=true:=(pre_splitW hpre).1
 have hc:l.pre.holds [] { args:=args }=true:=(pre_splitW hpre).2
 obtain⟨d,r,rfl,h1,h2⟩:=hasAllW_cons hsh
 obtain rfl:=hasAllW_nil h2
 obtain⟨xs,rfl,h3⟩:=hasW_list h1
 obtain⟨ns,rfl⟩:=items_int h3
 have hlen:ns.length≤n:=by
  unfold OpenLaw.pre at hc
  have h4:(WTm.not (.lt (.lit (.int (n:Int))) (.len (.arg 0)))).holds [] { args:=[.list (ns.map .int)] }=true:=by
   have h4:=(holds_andW hc).1
   rw[hn]at h4
   exact h4
  have h5:=condW_of h4 (w_not (w_lt w_lit (w_len_list (w_arg rfl))))
  rw[List.length_map]at h5
  refine Nat.le_of_not_lt fun q=>?_
  have q':(n:Int) < ((ns.length:Nat):Int):=by omega
  first
   | (rw[decide_eq_true q']at h5;exact absurd h5 (by decide))
   | (simp at h5;omega)
 cases hwl with
 | cons w1 w2 =>
  cases w2
  cases w1 with
  | list ho hall=>exact⟨_,_,ns,rfl,rfl,ho,gX ns _ hall,hlen⟩
theorem pc (l:OpenLaw)(args:List WData):l.row.toRowW.claim.post args (.bool true) args=true :=
 postW_of (r:=l.row.toRowW) (X:=(true==true))
  (show WShape.has [] (.bool true) .bool=true by first | rfl | decide | simp[WShape.has,WShape.arms,WShape.armsAll])
  (show (WTm.eq .res (.lit (.bool true))).value [] { args:=args,res:=some (.bool true),after:=args }=some (.bool (true==true)) from w_eq_bool (w_res rfl) w_lit) rfl
theorem attach_call {l:OpenLaw}{n:Nat}{q:Program}{loose:List Str}{XP:(Str→Option Value)→Heap→Prop}{YP:World→Heap→Prop}{d:DefRec}
  (hn:l.most=some n) (hdf:d.params.defaults=[])
  (call:∀ (w:World) (s₀ s₁:Shared) (mg mb:Str→Option Value) (fa:Addr) (o:Obj) (pm cd doc:Value) (a:Addr) (vs:List Value) (ns:List Int),
   Ground q loose [] XP w s₀ mg mb s₁.heap→YP w s₁.heap →
   s₁.heap.get? fa=some o→o.data=.func (docDef d.name d.params d.body d.scope pm cd doc)→s₁.heap.CodeRec cd d.name→mg d.name=some (.ref fa) →
   s₁.heap.get? a=some { cls:=.type "list",data:=.seq vs.toArray }→IntsAre vs ns→ns.length≤n→s₁.gens = #[] →
   codeAny (model l.prog w) callerA (.call (.ref fa) ⟨[.ref a],[]⟩) (fun r s'=>r=.ok (.ret (.bool true))∧OldK s₁.heap s'.heap∧s'.os=s₁.os∧AllBare s'.gens) s₁) :
  WalkO q loose XP YP l.row.toRowW d [] (fun f vs=>PySem.call f vs):=by
 intro w s₀ s₁ mg mb G Y fa o pm cd doc dV kV ho hd hcd hD hmg hg args vals as hpre hlay hrd hwl hlo
 obtain rfl:dV=.none:=Dflts.none hD hdf
 obtain rfl:kV=.none:=Dflts.noKw hD
 obtain⟨a,vs,ns,rfl,rfl,hobj,hints,hlen⟩:=pb hn hpre hwl
 refine enter_call (codeAny_mono (call w s₀ s₁ mg mb fa o pm cd doc a vs ns G Y ho (fd_plain hd) hcd hmg hobj hints hlen hg) fun r s' hq=>?_)
 obtain⟨rfl,h2,h3,h4⟩:=hq
 exact⟨.inl ⟨.bool true,.bool true,[],rfl,fun _=>rfl,.bool true,pc l _,fun _=>⟨List.Pairwise.nil,fun _ hm=>(nomatch hm)⟩⟩,h2,h3,h4⟩
section
variable {prog:Program}{w:World}{A:Around}{E:Value→Shared→Prop}{s:Shared}{K:Frag}
theorem wN {x C:Addr}{ox:Obj}{es:List DictEntry}{n:Nat}{name:Str}{expr:Bool}{v:Value}{Q:Value→Shared→Prop}
  (X:K.In s.heap) (I:PySem.W.InstAt s.heap x ox C (some (dictOf es n))) (hg:plainGet K C name=true) (hh:hasDictIn K C=true) (ha:findIn K (.ref C) name=some none)
  (hl:getL name es=some (some v)) (hv:handedIn v=true) (h:Q v { s with toks:=s.toks+1 }):wpAny (model prog w) A (getAttr (.ref x) name expr) Q E s :=
 get_value X I (plainGet_of hg).1 (findObj_own hh ha rfl hl) hv h
end
end Att
namespace L2
open PySem PySem.Spec PyProof.Rows
theorem bb:∀ {vs:List Value} {ns:List Int},IntsAre vs ns→Vals (ns.map V.int) vs
 | _,_,.nil=>.nil
 | _,_,.cons n t h=>.cons ⟨t,rfl⟩ (bb h)
def Only (H:Hp):Prop:=∀ b,H b=none∨∃ o xs,H b=some (.frz o (.lst xs))
theorem rf {P:Program}{w:World}{K:PySem.W.Frag}{mg mb:Str→Option Value}{CX:CXT}{k:Nat}{fa a:Addr}{fd:FuncData}{x:Str}{sp:Sp}{s₁:Shared}{vs:List Value}{ns:List Int}
  (KX:K.In s₁.heap) (hns:s₁.heap.Ns mainGlobals mg) (hb:s₁.heap.Ns builtinsNs mb) (hbb:∀ x:Str,x ≠ "__name__" → mb x=bootBuiltins x) (hlim:s₁.heap.NoLimit) (hg:s₁.gens = #[])
  (ha:s₁.heap.get? a=some { cls:=.type "list",data:=.seq vs.toArray }) (hi:IntsAre vs ns) (hl:ns.length≤sizeLine) (hr:Room k callerA)
  (F:∀ base:Heap,K.In base→base.Ns mainGlobals mg→FnOk P w K mg base CX k fa fd [x] sp) (hbind:∀ (s:Shared) (u:Value),BindsTo s fd ⟨[u],[]⟩ [(x,u)])
  (hsp:∀ H:Hp,Only H→SqL K H a (ns.map V.int)→sp [.ref a] H (fun v _=>v=.bl true) fun _ _ _=>False)
  (hCX:∀ H e s',CX [] H s₁ (fun _ _ _=>False) e s'→False) :
  codeAny (model P w) callerA (.call (.ref fa) ⟨[.ref a],[]⟩) (fun r s'=>r=.ok (.ret (.bool true))∧OldK s₁.heap s'.heap∧s'.os=s₁.os∧AllBare s'.gens) s₁:=by
 have rv:=bb hi
 have lenV:=hi.length
 have core:∀ H:Hp,Only H→SqL K H a (ns.map V.int)→HOk P w H s₁.heap→(∀ b,H b≠none→b=a)→(H a≠none→K.lookup a=none) →
   codeAny (model P w) callerA (.call (.ref fa) ⟨[.ref a],[]⟩) (fun r s'=>r=.ok (.ret (.bool true))∧OldK s₁.heap s'.heap∧s'.os=s₁.os∧AllBare s'.gens) s₁:=by
  intro H hO hS hok hA hK
  have base_of:∀ {b:Addr} {o:Obj},s₁.heap.get? b=some o→H b=none→(hidT s₁.heap H).get? b=some o:=fun e n=>qL e n
  have noA:∀ {b:Addr} {o:Obj} {es:Array DictEntry} {ep:Nat},s₁.heap.get? b=some o→o.data=.dict es ep→H b=none:=fun {b o es ep} e d=>by
   cases q:H b with
   | none=>rfl
   | some u =>
    have e':b=a:=hA b (by rw[q];simp)
    subst e'
    rw[ha]at e;cases e
    have d':Data.seq vs.toArray _=Data.dict es ep:=d
    cases d'
  have nsK:∀ {b:Addr} {m:Str→Option Value},s₁.heap.Ns b m→(hidT s₁.heap H).Ns b m:=fun {b m} ⟨o,es,ep,e,d,r⟩=>⟨o,es,ep,base_of e (noA e d),d,r⟩
  have hKb:K.In (hidT s₁.heap H):=fun b o e=>base_of (KX b o e) (by
   cases q:H b with
   | none=>rfl
   | some u =>
    have e':b=a:=hA b (by rw[q];simp)
    subst e'
    rw[hK (by rw[q];simp)]at e;cases e)
  have hM:Mod K mg (hidT s₁.heap H):=⟨hKb,nsK hns,⟨mb,nsK hb,hbb⟩,let ⟨mc,h1,h2⟩:=hlim;⟨mc,nsK h1,h2⟩⟩
  have e0:Env0 P w K mg (hidT s₁.heap H) callerA [] s₁ H:=⟨rfl,hM,fun b o e=>tY e,Nat.le_of_eq (oZ _ _),trivial,fun b hb=>absurd (show b∈([]:List Addr) from hb) (by simp),hok,.of_eq hg⟩
  refine codeAny_mono ((F _ hKb (nsK hns)).run callerA [] s₁ H ⟨[.ref a],[]⟩ [.ref a] [.ref a] _ _ hr e0 (hbind s₁ (.ref a)) (.cons rfl .nil) (hsp H hO hS)) fun r s' h=>?_
  cases r with
  | error e=>exact(hCX H e s' h).elim
  | ok fl =>
   cases fl with
   | next=>exact False.elim h
   | brk=>exact False.elim h
   | cont=>exact False.elim h
   | ret u =>
    obtain⟨v,H',os,bare,un,hok',r',q⟩:=h
    have q':v=.bl true:=q
    subst q'
    obtain rfl:u=Value.bool true:=r'
    refine⟨rfl,OldK.of_keep fun b o e=>?_,os,bare⟩
    cases q:H b with
    | none=>exact un.keep b o e q (by intro z;exact absurd (show b∈([]:List Addr) from z) (by simp)) (by simp)
    | some u =>
     rcases hO b with z | ⟨ob,xs,z⟩
     ·rw[q]at z;cases z
     ·have z2:=un.frzs b ob _ z
      obtain⟨e1,_⟩:=hok b _ z
      obtain⟨e2,_⟩:=hok' b _ z2
      rw[e]at e1;cases e1
      exact e2
 cases hk:K.lookup a with
 | some o =>
  have e:=KX a o hk
  rw[ha]at e
  cases e
  refine core (fun _=>none) (fun _=>.inl rfl) (.inr ⟨_,vs.toArray,_,hk,rfl,rfl,rfl,by rw[List.size_toArray,lenV];exact hl,by simpa using rv⟩) (fun b u z=>by have z':(none:Option HO)=some u:=z;cases z') (fun b z=>absurd rfl z) fun z=>absurd rfl z
 | none =>
  refine core (fun b=>if b=a then some (.frz { cls:=.type "list",data:=.seq vs.toArray } (.lst (ns.map V.int))) else none) (fun b=>?_) (.inl (.inr ⟨{ cls:=.type "list",data:=.seq vs.toArray },if_pos rfl⟩)) (fun b u z=>?_) (fun b z=>?_) fun _=>hk
  ·by_cases hb:b=a
   ·exact .inr ⟨_,_,if_pos hb⟩
   ·exact .inl (if_neg hb)
  ·by_cases hb:b=a
   ·have z':=(if_pos hb).symm.trans z
    cases z'
    subst hb
    exact⟨ha,by rw[List.length_map];exact hl,vs,_,rv,ha⟩
   ·have z':=(if_neg hb).symm.trans z
    cases z'
  ·by_cases hb:b=a
   ·exact hb
   ·exact absurd (if_neg hb) z
end L2
namespace L2
open PySem PySem.Spec PyProof.Rows
theorem ug {l:PySem.W.OpenLaw}{n k:Nat}{q:Program}{loose:List Str}{XP:(Str→Option Value)→Heap→Prop}{YP:World→Heap→Prop}{d:DefRec}{K:Params→PySem.W.Frag}{CX:World→CXT}{sp:World→Sp}{x:Str}
  (hn:l.most=some n) (hn2:n≤sizeLine) (hdf:d.params.defaults=[]) (hr:Room k callerA)
  (hY:∀ (w:World) (h:Heap),YP w h→(K w.params).In h)
  (F:∀ (w:World) (mg:Str→Option Value) (fa:Addr) (h:Heap),(K w.params).In h→h.Ns mainGlobals mg→mg d.name=some (.ref fa) →
   ∃ fd:FuncData,(∀ (s:Shared) (u:Value),BindsTo s fd ⟨[u],[]⟩ [(x,u)]) ∧
    ∀ base:Heap,(K w.params).In base→base.Ns mainGlobals mg→FnOk l.prog w (K w.params) mg base (CX w) k fa fd [x] (sp w))
  (hsp:∀ (w:World) (H:Hp) (a:Addr) (ns:List Int),ns.length≤n→Only H→SqL (K w.params) H a (ns.map V.int)→sp w [.ref a] H (fun v _=>v=.bl true) fun _ _ _=>False)
  (hCX:∀ (w:World) (H:Hp) (s:Shared) (e:Value) (s':Shared),CX w [] H s (fun _ _ _=>False) e s'→False) :
  PySem.W.WalkO q loose XP YP l.row.toRowW d [] (fun f vs=>PySem.call f vs):=by
 refine Att.attach_call hn hdf fun w s₀ s₁ mg mb fa o pm cd doc a vs ns G Y ho hd hcd hmg hobj hints hlen hg=>?_
 have KX:=hY w _ Y
 obtain⟨fd,hb,hF⟩:=F w mg fa _ KX G.T.g hmg
 exact rf KX G.T.g G.T.b G.T.builtins G.T.nolimit hg hobj hints (Nat.le_trans hlen hn2) hr hF hb (fun H hO hS=>hsp w H a ns hlen hO hS) fun H e s'=>hCX w H s₁ e s'
end L2
namespace L2
open PySem PySem.Spec PyProof.Rows
def defArgs (s:Stmt):Arguments:=match s with
 | .FunctionDef _ a _ _ _ _ _ _ _ _=>a
 | _=>{ posonlyargs:=[],args:=[],vararg:=none,kwonlyargs:=[],kw_defaults:=[],kwarg:=none,defaults:=[] }
def defBody (s:Stmt):List Stmt:=match s with
 | .FunctionDef _ _ b _ _ _ _ _ _ _=>b
 | _=>[]
def defScope (s:Stmt):Scope:=match s with
 | .FunctionDef _ _ _ _ _ _ sc _ _ _=>sc
 | _=>{ kind:=.function,names:=[],isGenerator:=false,isCoroutine:=false }
structure Fun (K:PySem.W.Frag)(x qual:Str)(st:Stmt)(f:Addr)(fd:FuncData):Prop where
 ex:∃ (oc:Value) (od:Option Addr) (kV doc pm:Value) (an:Option Addr) (cdv ct:Value) (osl:Array (Option Value)),
  fd=PySem.W.fnOf x qual (defArgs st) (defBody st) (defScope st) .none kV doc pm an cdv ct∧K.lookup f=some ⟨oc,od,.func fd,osl⟩∧PySem.W.codeIn K cdv qual=true
 kp:PySem.W.keepIn K (.ref f)=true
section
variable {P:Program}{w:World}{K:PySem.W.Frag}{mg:Str→Option Value}{base:Heap}
theorem Fun.binds {x qual:Str}{st:Stmt}{f:Addr}{fd:FuncData}{ps:List Str}(F:Fun K x qual st f fd)
  (h:∀ (kV doc pm:Value) (an:Option Addr) (cdv ct:Value) (us:List Value),us.length=ps.length→bindArgs (PySem.W.fnOf x qual (defArgs st) (defBody st) (defScope st) .none kV doc pm an cdv ct) ⟨us,[]⟩=pure (ps.zip us)):Binds K fd ps []:=by
 obtain⟨oc,od,kV,doc,pm,an,cdv,ct,osl,rfl,lk,hcd⟩:=F.ex
 exact .all (h kV doc pm an cdv ct)
theorem mV {x qual:Str}{st:Stmt}{f:Addr}{oc:Value}{od an:Option Addr}{osl:Array (Option Value)}{kV doc pm cdv ct:Value}(l:K.lookup f=some ⟨oc,od,.func (PySem.W.fnOf x qual (defArgs st) (defBody st) (defScope st) .none kV doc pm an cdv ct),osl⟩)
  (c:PySem.W.codeIn K cdv qual=true) (k:PySem.W.keepIn K (.ref f)=true):Fun K x qual st f (PySem.W.fnOf x qual (defArgs st) (defBody st) (defScope st) .none kV doc pm an cdv ct):=⟨⟨oc,od,kV,doc,pm,an,cdv,ct,osl,rfl,l,c⟩,k⟩
end
section
variable {X:Cx}
end
def Same (H H':Hp):Prop:=∀ b o,H b=some o→H' b=some o
theorem Same.refl (H:Hp):Same H H:=fun _ _ h=>h
theorem Same.trans {H H1 H2:Hp}(a:Same H H1)(b:Same H1 H2):Same H H2:=fun c o h=>b c o (a c o h)
theorem Same.free {H H':Hp}(e:Same H H'){l:Addr}(h:H' l=Option.none):H l=Option.none:=by
 cases q:H l with
 | none=>rfl
 | some o =>
  rw[e l o q]at h
  cases h
theorem Same.seq {K:PySem.W.Frag}{H H':Hp}{a:Addr}{xs:List V}(e:Same H H')(h:SqL K H a xs):SqL K H' a xs:=by
 rcases h with (h | ⟨o,h⟩) | h
 ·exact .inl (.inl (e _ _ h))
 ·exact .inl (.inr ⟨o,e _ _ h⟩)
 ·exact .inr h
end L2
end
noncomputable section
namespace FF
abbrev St:=L2.St
end FF
namespace FF
open PySem
open AutoSeq1 (wpAny_loadPart')
theorem fR:fillsNumberSlot (.type "tuple") "mul"=pure false :=
 fillsNumberSlot_seq (id := "tuple.__mul__") (r:=some (.builtin "tuple.__rmul__")) F.slot_tuple_mul.lookup (by decide +kernel) F.slot_tuple_rmul.lookup (by decide +kernel)
theorem ku:seqRepeat? (.type "tuple")=pure (some (.builtin "tuple.__mul__")):=by
 unfold seqRepeat?
 rw[seqSlot_of (T := "tuple") (name := "__mul__") (id := "tuple.__mul__") F.slot_tuple_mul.lookup (by decide +kernel),seqSlot_of (T := "tuple") (name := "__rmul__") (id := "tuple.__rmul__") F.slot_tuple_rmul.lookup (by decide +kernel)]
 rfl
theorem ic (a:Int)(t:Tok)(l:Addr)(items:Array Value)(n:Nat)(dd:Option Addr)(sl:Array (Option Value)) :
  Meets (Builtin.«int.__rmul__» ⟨[.int a t,.ref l],[]⟩) (fun _ R s=>s.heap.get? l=some { cls:=.type "tuple",dict:=dd,data:=.seq items n,slots:=sl }∧R (.ok (.ret Value.notImplemented)) s) :=
 .of_wp fun prog w A R s h=>by obtain⟨hp,g,d,tk,os⟩:=s;obtain⟨hl,h⟩:=h;wp_walk;exact⟨_,rfl,h⟩
theorem ji (l:Addr)(items:Array Value)(n:Nat)(k:Int)(t:Tok)(dd:Option Addr)(sl:Array (Option Value))(h0:2≤k)(h1:k < 1000000)(hsz:items.size*k.toNat≤sizeLine)(hne:items.isEmpty=false) :
  Meets (Builtin.«tuple.__mul__» ⟨[.ref l,.int k t],[]⟩) (fun _ R s=>s.heap.get? l=some { cls:=.type "tuple",dict:=dd,data:=.seq items n,slots:=sl } ∧
   R (.ok (.ret (.ref s.heap.objs.size))) { s with heap:=s.heap.push { cls:=.type "tuple",data:=.seq (List.foldl (fun x1 x2=>x1++x2) #[] (List.replicate k.toNat items)) } }) :=
 .of_wp fun prog w A R s h=>by
  obtain⟨hp,g,d,tk,os⟩:=s;obtain⟨hl,h⟩:=h
  have f1:=AutoSeq1.idx_int
  have f2:=AutoSeq1.sub_tuple_tuple
  have c0:¬ (decide (k < -2^63)||decide (k≥2^63))=true:=by
   simp only[Bool.or_eq_true,decide_eq_true_eq];omega
  have c1:¬ (items.isEmpty||k==1)=true:=by
   rw[hne,Bool.false_or,beq_iff_eq];omega
  have c2:¬ (decide (k≤0)||items.isEmpty)=true:=by
   rw[hne,Bool.or_false,decide_eq_true_eq];omega
  have hs:sizeLine=16777216:=sizeLine_eq
  have hk:(items.size:Int)*k=((items.size*k.toNat:Nat):Int):=by
   rw[Int.natCast_mul,Int.toNat_of_nonneg (by omega)]
  have c3:¬ ((items.size:Int)*k > (2^63 - 1)/8):=by
   rw[hk];omega
  have c4:¬ Builtin.Tuple.tupleTooMany ((items.size:Int)*k)=true:=by
   rw[hk]
   unfold Builtin.Tuple.tupleTooMany
   simp only[decide_eq_true_eq]
   omega
  have hlen:(List.foldl (fun x1 x2=>x1++x2) #[] (List.replicate k.toNat items)).size≤sizeLine:=by
   have:∀ (m:Nat) (acc:Array Value),(List.foldl (fun x1 x2=>x1++x2) acc (List.replicate m items)).size=acc.size+m*items.size:=by
    intro m
    induction m with
    | zero=>intro acc;simp
    | succ m ih=>intro acc;rw[List.replicate_succ,List.foldl_cons,ih,Array.size_append,Nat.succ_mul];omega
   rw[this,Nat.mul_comm];simpa using hsz
  unfold Builtin.«tuple.__mul__»
  wp_walk using wpAny_loadPart' hl
  rw[if_neg c0]
  wp_walk using wpAny_loadPart' hl
  rw[if_neg c1]
  try wp_walk using wpAny_loadPart' hl
  rw[if_neg c2]
  try wp_walk using wpAny_loadPart' hl
  rw[if_neg c3]
  try wp_walk using wpAny_loadPart' hl
  rw[if_neg c4]
  try wp_walk using wpAny_loadPart' hl
  rw[if_neg (Nat.not_lt.mpr hlen)]
  try wp_walk using wpAny_loadPart' hl
  exact⟨_,rfl,h⟩
theorem jj (l:Addr)(items:Array Value)(n:Nat)(t:Tok)(dd:Option Addr)(sl:Array (Option Value)) :
  Meets (Builtin.«tuple.__mul__» ⟨[.ref l,.int 1 t],[]⟩) (fun _ R s=>s.heap.get? l=some { cls:=.type "tuple",dict:=dd,data:=.seq items n,slots:=sl }∧R (.ok (.ret (.ref l))) s) :=
 .of_wp fun prog w A R s h=>by
  obtain⟨hp,g,d,tk,os⟩:=s;obtain⟨hl,h⟩:=h
  have f1:=AutoSeq1.idx_int
  have f2:=AutoSeq1.sub_tuple_tuple
  have c1:(items.isEmpty||(1:Int)==1)=true:=by simp
  unfold Builtin.«tuple.__mul__»
  wp_walk using wpAny_loadPart' hl
  exact⟨_,rfl,h⟩
theorem jk (l:Addr)(n:Nat)(k:Int)(t:Tok)(dd:Option Addr)(sl:Array (Option Value))(h0:0≤k)(h1:k < 1000000) :
  Meets (Builtin.«tuple.__mul__» ⟨[.ref l,.int k t],[]⟩) (fun _ R s=>s.heap.get? l=some { cls:=.type "tuple",dict:=dd,data:=.seq #[] n,slots:=sl }∧R (.ok (.ret (.ref l))) s) :=
 .of_wp fun prog w A R s h=>by
  obtain⟨hp,g,d,tk,os⟩:=s;obtain⟨hl,h⟩:=h
  have f1:=AutoSeq1.idx_int
  have f2:=AutoSeq1.sub_tuple_tuple
  have c0:¬ (decide (k < -2^63)||decide (k≥2^63))=true:=by
   simp only[Bool.or_eq_true,decide_eq_true_eq];omega
  have c1:((#[]:Array Value).isEmpty||k==1)=true:=by simp
  unfold Builtin.«tuple.__mul__»
  wp_walk using wpAny_loadPart' hl
  rw[if_neg c0]
  wp_walk using wpAny_loadPart' hl
  exact⟨_,rfl,h⟩
theorem ig (l:Addr)(items:Array Value)(n:Nat)(t:Tok)(dd:Option Addr)(sl:Array (Option Value))(hne:items.isEmpty=false) :
  Meets (Builtin.«tuple.__mul__» ⟨[.ref l,.int 0 t],[]⟩) (fun _ R s=>s.heap.get? l=some { cls:=.type "tuple",dict:=dd,data:=.seq items n,slots:=sl } ∧
   R (.ok (.ret (.ref s.heap.objs.size))) { s with heap:=s.heap.push { cls:=.type "tuple",data:=.seq #[] } }) :=
 .of_wp fun prog w A R s h=>by
  obtain⟨hp,g,d,tk,os⟩:=s;obtain⟨hl,h⟩:=h
  have f1:=AutoSeq1.idx_int
  have f2:=AutoSeq1.sub_tuple_tuple
  have c1:¬ (items.isEmpty||(0:Int)==1)=true:=by rw[hne];decide
  have c2:(decide ((0:Int)≤0)||items.isEmpty)=true:=by simp
  unfold Builtin.«tuple.__mul__»
  wp_walk using wpAny_loadPart' hl
  exact⟨_,rfl,h⟩
end FF
namespace FF
open PySem
theorem cE (env:Env):∀ (names:List (Str×NameKind)) (acc:List (Str×Addr)),(∀ y∈names,y.2=.free→∃ c,env.cells.lookup y.1=some c)→(∀ n c,acc.lookup n=some c→env.cells.lookup n=some c) →
  ∃ cl,(forIn names acc fun (x:Str×NameKind) (cs:List (Str×Addr))=>(do
    if x.2==.free then let a ← cellOf env x.1;pure (ForInStep.yield ((x.1,a)::cs)) else pure (ForInStep.yield cs):Sem (ForInStep (List (Str×Addr)))))=pure cl ∧
   (∀ n c,cl.lookup n=some c→env.cells.lookup n=some c)∧(∀ n c,acc.lookup n=some c→∃ c',cl.lookup n=some c')∧(∀ y∈names,y.2=.free→∃ c,cl.lookup y.1=some c)
 | [],acc,_,h=>⟨acc,rfl,h,fun n c e=>⟨c,e⟩,fun _ z=>nomatch z⟩
 | (n,k)::r,acc,hf,h=>by
  by_cases hk:k=.free
  ·subst hk
   obtain⟨c,hc⟩:=hf (n,.free) List.mem_cons_self rfl
   have h':∀ m d,List.lookup m ((n,c)::acc)=some d→env.cells.lookup m=some d:=fun m d e=>by
    by_cases q:(m==n)=true
    ·have q':m=n:=eq_of_beq q
     simp only[List.lookup,q]at e
     cases e
     rw[q'];exact hc
    ·have q':(m==n)=false:=by simpa using q
     simp only[List.lookup,q']at e
     exact h m d e
   obtain⟨cl,e1,e2,e3,e4⟩:=cE env r ((n,c)::acc) (fun y hy=>hf y (List.mem_cons_of_mem _ hy)) h'
   have self:List.lookup n ((n,c)::acc)=some c:=by simp[List.lookup]
   refine⟨cl,?_,e2,fun m d e=>?_,fun y hy hy2=>?_⟩
   ·rw[List.forIn_cons]
    have:cellOf env n=pure c:=by unfold cellOf;rw[hc]
    simp only[beq_self_eq_true,if_true,this]
    exact e1
   ·by_cases q:(m==n)=true
    ·have q':m=n:=eq_of_beq q
     rw[q'];exact e3 n c self
    ·have q':(m==n)=false:=by simpa using q
     exact e3 m d (by simp only[List.lookup,q'];exact e)
   ·rcases List.mem_cons.mp hy with z | z
    ·subst z;exact e3 n c self
    ·exact e4 y z hy2
  ·have hb:(k==NameKind.free)=false:=by simpa using hk
   obtain⟨cl,e1,e2,e3,e4⟩:=cE env r acc (fun y hy=>hf y (List.mem_cons_of_mem _ hy)) h
   refine⟨cl,?_,e2,e3,fun y hy hy2=>?_⟩
   ·rw[List.forIn_cons]
    simp only[hb,Bool.false_eq_true,if_false]
    exact e1
   ·rcases List.mem_cons.mp hy with z | z
    ·subst z;exact absurd hy2 hk
    ·exact e4 y z hy2
theorem ii (scope:Scope)(env:Env)(h:∀ y∈scope.names,y.2=.free→∃ c,env.cells.lookup y.1=some c) :
  ∃ cl,closureFor scope env=pure cl∧(∀ n c,cl.lookup n=some c→env.cells.lookup n=some c)∧(∀ y∈scope.names,y.2=.free→∃ c,cl.lookup y.1=some c):=by
 obtain⟨cl,e1,e2,_,e4⟩:=cE env scope.names [] h (fun n c e=>by simp at e)
 refine⟨cl,?_,e2,e4⟩
 exact(congrArg (fun t:Sem (List (Str×Addr))=>t >>= fun s=>pure s) e1).trans rfl
end FF
namespace FF
open PySem
def tests (ifs:List Expr)(env:Env):Sem Bool:=match ifs with
 | []=>pure true
 | c::_=>isTrue c env (eval c env)
theorem pd {prog:Program}{w:World}{A:Around}{R:Result→Shared→Prop}{s:Shared}{elt target iter:Expr}{ifs:List Expr}{scope:Scope}{pos:Pos}{it acc:Value}{env:Env}(hifs:ifs.length≤1)(W:Nat→Shared→Prop)
  (turn:∀ n s,W n s→wpAny (model prog w) A (pyNext it) (fun r s1=>match r with
   | none=>R (.ok .next) s1
   | some v=>wpAny (model prog w) A (letOwnedTupleGo target it v) (fun _ s2=>wpAny (model prog w) A (assign target env v) (fun _ s3=>wpAny (model prog w) A (tests ifs env) (fun ok s4 =>
     if ok=true then wpAny (model prog w) A (eval elt env) (fun x s5=>wpAny (model prog w) A (call (.builtin "list.append") [acc,x]) (fun _ s6=>∃ m,m < n∧W m s6) (fun _ _=>False) s5) (fun _ _=>False) s4
     else ∃ m,m < n∧W m s4) (fun _ _=>False) s3) (fun _ _=>False) s2) (fun _ _=>False) s1) (fun _ _=>False) s)
  (n:Nat) (h:W n s):codeAny (model prog w) A (.compLoop (.ListComp elt [⟨target,iter,ifs,0⟩] scope pos) 0 it acc env) R s:=by
 have weak:∀ {α:Type} {t:Sem α} {Q Q':α→Shared→Prop} {E:Value→Shared→Prop} {s:Shared},wpAny (model prog w) A t Q (fun _ _=>False) s→(∀ a s,Q a s→Q' a s)→wpAny (model prog w) A t Q' E s :=
  fun h k=>wpAny_mono h k fun _ _ z=>z.elim
 refine codeAny_loop rfl W (fun n s hW=>?_) n h
 show wpAny _ A ((compTurn (.ListComp elt [⟨target,iter,ifs,0⟩] scope pos) 0 it acc env).onRaise (fun x=>do noteFrame x env;theTreesLotGoes x)) _ _ s
 refine wpAny_noted ?_
 rw[compTurn_list]
 refine wpAny_bind (wpAny_standAt (wpAny_bind (weak (turn n s hW) fun r s1 h1=>?_)))
 cases r with
 | none=>exact wpAny_pure h1
 | some v =>
  refine wpAny_bind (weak h1 fun _ s2 h2=>wpAny_bind (weak h2 fun _ s3 h3=>wpAny_bind ?_))
  have fin:∀ ok s4,(if ok=true then wpAny (model prog w) A (eval elt env) (fun x s5=>wpAny (model prog w) A (call (.builtin "list.append") [acc,x]) (fun _ s6=>∃ m,m < n∧W m s6) (fun _ _=>False) s5) (fun _ _=>False) s4
     else ∃ m,m < n∧W m s4)→wpAny (model prog w) A (if ok=true then ((do let _ ← call (.builtin "list.append") [acc,← eval elt env];pure ()) >>= fun _=>again (.compLoop (.ListComp elt [⟨target,iter,ifs,0⟩] scope pos) 0 it acc env)) else again (.compLoop (.ListComp elt [⟨target,iter,ifs,0⟩] scope pos) 0 it acc env))
      (fun fin s'=>match fin with | .done f=>R (.ok f) s' | .again c'=>c'=(.compLoop (.ListComp elt [⟨target,iter,ifs,0⟩] scope pos) 0 it acc env)∧∃ m,m < n∧W m s') (notedBy (model prog w) A env fun e s'=>R (.error e) s') s4:=by
   intro ok s4 h4
   cases ok with
   | true=>exact wpAny_bind (wpAny_bind (weak h4 fun x s5 h5=>wpAny_bind (weak h5 fun _ s6 h6=>wpAny_pure (wpAny_pure ⟨rfl,h6⟩))))
   | false=>exact wpAny_pure ⟨rfl,h4⟩
  match ifs,hifs,h3,fin with
  | [],_,h3,fin =>
   refine wpAny_tests_nil ?_
   exact wpAny_bind (m:=(pure true:Sem Bool)) (weak h3 fin)
  | [c],_,h3,fin =>
   refine wpAny_tests_one ?_
   exact weak h3 fin
end FF
namespace FF
open PySem PyProof.Rows
open AutoSeq1 (wpAny_loadPart')
theorem ph (l b:Addr)(items items2:Array Value)(n n2:Nat)(dd dd2:Option Addr)(sl sl2:Array (Option Value))(hsz:items.size+items2.size≤sizeLine) :
  Meets (Builtin.«list.__add__» ⟨[.ref l,.ref b],[]⟩) (fun _ R s=>s.heap.get? l=some { cls:=.type "list",dict:=dd,data:=.seq items n,slots:=sl }∧s.heap.get? b=some { cls:=.type "list",dict:=dd2,data:=.seq items2 n2,slots:=sl2 } ∧
   R (.ok (.ret (.ref s.heap.objs.size))) { s with heap:=s.heap.push { cls:=.type "list",data:=.seq (items++items2) } }) :=
 .of_wp fun prog w A R s h=>by
  obtain⟨hp,g,d,tk,os⟩:=s;obtain⟨hl,hb,h⟩:=h
  have f1:=AutoSeq1.idx_int;have f2:=AutoSeq1.sub_tuple_tuple;have f3:=AutoSeq1.sub_list_list;have f4:=AutoSeq1.sub_tuple_list;have f5:=AutoSeq1.sub_list_tuple
  have hl0:¬ Builtin.List.listTooLong (items.size+items2.size)=true:=by rw[L2.notLongL hsz];exact Bool.false_ne_true
  have hz:(items++items2).size≤sizeLine:=by rw[Array.size_append];exact hsz
  wp_walk using wpAny_loadPart' hl,wpAny_loadPart' hb
  all_goals first | exact⟨_,rfl,h⟩ | trace_state
theorem pi (l:Addr)(items:Array Value)(n:Nat)(k:Int)(t:Tok)(dd:Option Addr)(sl:Array (Option Value))(h0 : -(2^63)≤k)(h1:k < 2^63)(hsz:items.size*k.toNat≤sizeLine) :
  Meets (Builtin.«list.__mul__» ⟨[.ref l,.int k t],[]⟩) (fun _ R s=>s.heap.get? l=some { cls:=.type "list",dict:=dd,data:=.seq items n,slots:=sl } ∧
   R (.ok (.ret (.ref s.heap.objs.size))) { s with heap:=s.heap.push { cls:=.type "list",data:=.seq (List.foldl (fun x1 x2=>x1++x2) #[] (List.replicate (if items.isEmpty=true then 0 else k.toNat) items)) } }) :=
 .of_wp fun prog w A R s h=>by
  obtain⟨hp,g,d,tk,os⟩:=s;obtain⟨hl,h⟩:=h
  have f1:=AutoSeq1.idx_int;have f2:=AutoSeq1.sub_tuple_tuple;have f3:=AutoSeq1.sub_list_list
  have hs:=sizeLine_eq
  have c1:¬ items.size*k.toNat > (2^63 - 1)/8:=by omega
  have c2:¬ (!Builtin.List.listFitsIndex k)=true:=by rw[fitsIndex_both h0 h1];exact Bool.false_ne_true
  have c3:¬ Builtin.List.listTooLong (items.size*k.toNat)=true:=by rw[L2.notLongL hsz];exact Bool.false_ne_true
  have hz:=AutoListH.joined_fits c3
  wp_walk using wpAny_loadPart' hl
  rw[if_neg (Nat.not_lt.mpr hz)]
  wp_walk
  exact⟨_,rfl,h⟩
theorem jl (a:Int)(t:Tok)(l:Addr)(items:Array Value)(n:Nat)(dd:Option Addr)(sl:Array (Option Value)) :
  Meets (Builtin.«int.__rmul__» ⟨[.int a t,.ref l],[]⟩) (fun _ R s=>s.heap.get? l=some { cls:=.type "list",dict:=dd,data:=.seq items n,slots:=sl }∧R (.ok (.ret Value.notImplemented)) s) :=
 .of_wp fun prog w A R s h=>by obtain⟨hp,g,d,tk,os⟩:=s;obtain⟨hl,h⟩:=h;wp_walk;exact⟨_,rfl,h⟩
theorem pj (l b:Addr)(items items2:Array Value)(n n2:Nat)(dd2:Option Addr)(sl2:Array (Option Value))(hsz:items.size+items2.size≤sizeLine) :
  Meets (Builtin.«list.extend» ⟨[.ref l,.ref b],[]⟩) (fun _ R s=>s.heap.get? l=some { cls:=.type "list",data:=.seq items n }∧s.heap.get? b=some { cls:=.type "list",dict:=dd2,data:=.seq items2 n2,slots:=sl2 } ∧
   R (.ok (.ret .none)) { s with heap:=s.heap.update l (Obj.mapSeq fun x=>x++items2) }) :=
 .of_wp fun prog w A R s h=>by
  obtain⟨hp,g,d,tk,os⟩:=s;obtain⟨hl,hb,h⟩:=h
  have f1:=AutoSeq1.idx_int;have f2:=AutoSeq1.sub_tuple_tuple;have f3:=AutoSeq1.sub_list_list;have f4:=AutoSeq1.sub_tuple_list;have f5:=AutoSeq1.sub_list_tuple
  have hc0:¬(!items.isEmpty&&Builtin.List.listTooLong (items.size+items2.size))=true:=by rw[L2.notLongL hsz,Bool.and_false];exact Bool.false_ne_true
  have hc1:items.size≤sizeLine:=by omega
  have hs2:items.size+items2.size≤sizeLine+1:=by omega
  have hz':(items++items2).size≤sizeLine+1:=by rw[Array.size_append];omega
  wp_walk using (wpAny_updateSeq hl rfl (hz:=hc1) (_hz':=hz')),wpAny_loadPart' hl,wpAny_loadPart' hb
  exact⟨_,rfl,h⟩
theorem pr (l b:Addr)(items items2:Array Value)(n n2:Nat)(dd2:Option Addr)(sl2:Array (Option Value))(hsz:items.size+items2.size≤sizeLine) :
  Meets (Builtin.«list.extend» ⟨[.ref l,.ref b],[]⟩) (fun _ R s=>s.heap.get? l=some { cls:=.type "list",data:=.seq items n }∧s.heap.get? b=some { cls:=.type "tuple",dict:=dd2,data:=.seq items2 n2,slots:=sl2 } ∧
   R (.ok (.ret .none)) { s with heap:=s.heap.update l (Obj.mapSeq fun x=>x++items2) }) :=
 .of_wp fun prog w A R s h=>by
  obtain⟨hp,g,d,tk,os⟩:=s;obtain⟨hl,hb,h⟩:=h
  have f1:=AutoSeq1.idx_int;have f2:=AutoSeq1.sub_tuple_tuple;have f3:=AutoSeq1.sub_list_list;have f4:=AutoSeq1.sub_tuple_list;have f5:=AutoSeq1.sub_list_tuple
  have hc0:¬(!items.isEmpty&&Builtin.List.listTooLong (items.size+items2.size))=true:=by rw[L2.notLongL hsz,Bool.and_false];exact Bool.false_ne_true
  have hc1:items.size≤sizeLine:=by omega
  have hs2:items.size+items2.size≤sizeLine+1:=by omega
  have hz':(items++items2).size≤sizeLine+1:=by rw[Array.size_append];omega
  wp_walk using (wpAny_updateSeq hl rfl (hz:=hc1) (_hz':=hz')),wpAny_loadPart' hl,wpAny_loadPart' hb
  exact⟨_,rfl,h⟩
end FF
end
noncomputable section
namespace FF
open PySem PySem.Spec PyProof.Rows L2
inductive D where
 | non | bl (b:Bool) | int (i:Int) | str (x:Str) | tup (xs:List D) | lst (xs:List D) | exc (k:Nat) | fn (k:Nat)
inductive R (α:Type) where
 | ok (a:α) | err (k:Nat) | stuck
def R.bind {α β:Type}(r:R α)(f:α→R β):R β:=match r with
 | .ok a=>f a
 | .err k=>.err k
 | .stuck=>.stuck
@[simp] theorem R.bind_ok {α β:Type}(a:α)(f:α→R β):(R.ok a).bind f=f a:=rfl
@[simp] theorem R.bind_err {α β:Type}(k:Nat)(f:α→R β):(R.err k:R α).bind f=.err k:=rfl
@[simp] theorem R.bind_stuck {α β:Type}(f:α→R β):(R.stuck:R α).bind f=.stuck:=rfl
def excO (C:Nat→Addr)(k:Nat)(a:Addr):HO :=
 .ext fun h=>∃ o,h.get? a=some o∧o.cls=.ref (C k)∧∃ vs,o.data=.fields vs
mutual
def Rep (K:PySem.W.Frag)(C:Nat→Addr)(Z:Hp):D→V→Prop
 | .non,v=>v=.non
 | .bl b,v=>v=.bl b
 | .int i,v=>v=.int i
 | .str x,v=>v=.str x
 | .tup ds,v=>∃ a vs,v=.ref a∧SqT K Z a vs∧Reps K C Z ds vs
 | .lst ds,v=>∃ a vs,v=.ref a∧SqL K Z a vs∧Reps K C Z ds vs
 | .exc k,v=>∃ a,v=.ref a∧Z a=some (excO C k a)
 | .fn k,v=>v=.ref (C k)
def Reps (K:PySem.W.Frag)(C:Nat→Addr)(Z:Hp):List D→List V→Prop
 | [],vs=>vs=[]
 | d::ds,vs=>∃ v r,vs=v::r∧Rep K C Z d v∧Reps K C Z ds r
end
theorem _root_.L2.SqT.mono {K:PySem.W.Frag}{Z Z':Hp}{a:Addr}{xs:List V}(e:Same Z Z')(h:SqT K Z a xs):SqT K Z' a xs:=by
 rcases h with (h | ⟨o,h⟩) | h
 ·exact .inl (.inl (e _ _ h))
 ·exact .inl (.inr ⟨o,e _ _ h⟩)
 ·exact .inr h
section
variable {K:PySem.W.Frag}{C:Nat→Addr}{Z Z':Hp}
mutual
theorem Rep.mono (e:Same Z Z'):∀ (d:D) (v:V),Rep K C Z d v→Rep K C Z' d v
 | .non,v,h=>by rw[Rep]at h ⊢;exact h
 | .bl b,v,h=>by rw[Rep]at h ⊢;exact h
 | .int i,v,h=>by rw[Rep]at h ⊢;exact h
 | .str x,v,h=>by rw[Rep]at h ⊢;exact h
 | .fn k,v,h=>by rw[Rep]at h ⊢;exact h
 | .tup ds,v,h=>by
  rw[Rep]at h ⊢
  obtain⟨a,vs,h1,h2,h3⟩:=h
  exact⟨a,vs,h1,h2.mono e,Reps.mono e ds vs h3⟩
 | .lst ds,v,h=>by
  rw[Rep]at h ⊢
  obtain⟨a,vs,h1,h2,h3⟩:=h
  exact⟨a,vs,h1,e.seq h2,Reps.mono e ds vs h3⟩
 | .exc k,v,h=>by
  rw[Rep]at h ⊢
  obtain⟨a,h1,h2⟩:=h
  exact⟨a,h1,e _ _ h2⟩
theorem Reps.mono (e:Same Z Z'):∀ (ds:List D) (vs:List V),Reps K C Z ds vs→Reps K C Z' ds vs
 | [],vs,h=>by rw[Reps]at h ⊢;exact h
 | d::ds,vs,h=>by
  rw[Reps]at h ⊢
  obtain⟨v,r,h1,h2,h3⟩:=h
  exact⟨v,r,h1,Rep.mono e d v h2,Reps.mono e ds r h3⟩
end
theorem Reps.nil:Reps K C Z [] []:=by rw[Reps]
theorem Reps.cons {d:D}{v:V}{ds:List D}{vs:List V}(h:Rep K C Z d v)(t:Reps K C Z ds vs):Reps K C Z (d::ds) (v::vs):=by
 rw[Reps];exact⟨v,vs,rfl,h,t⟩
theorem Reps.uncons {d:D}{v:V}{ds:List D}{vs:List V}(h:Reps K C Z (d::ds) (v::vs)):Rep K C Z d v∧Reps K C Z ds vs:=by
 rw[Reps]at h
 obtain⟨v',r,e,h1,h2⟩:=h
 cases e
 exact⟨h1,h2⟩
theorem Reps.length:∀ {ds:List D} {vs:List V},Reps K C Z ds vs→ds.length=vs.length
 | [],vs,h=>by rw[Reps]at h;subst h;rfl
 | d::ds,vs,h=>by
  rw[Reps]at h
  obtain⟨v,r,e,_,h2⟩:=h
  subst e
  simp[Reps.length h2]
theorem Reps.get:∀ {ds:List D} {vs:List V} {i:Nat} {d:D},Reps K C Z ds vs→ds[i]?=some d→∃ v,vs[i]?=some v∧Rep K C Z d v
 | [],vs,i,d,h,e=>by simp at e
 | d'::ds,vs,i,d,h,e=>by
  rw[Reps]at h
  obtain⟨v,r,q,h1,h2⟩:=h
  subst q
  cases i with
  | zero=>simp at e;subst e;exact⟨v,rfl,h1⟩
  | succ i =>
   obtain⟨v',e1,h3⟩:=Reps.get (i:=i) h2 (by simpa using e)
   exact⟨v',by simpa using e1,h3⟩
theorem Reps.get':∀ {ds:List D} {vs:List V} {i:Nat} {v:V},Reps K C Z ds vs→vs[i]?=some v→∃ d,ds[i]?=some d∧Rep K C Z d v
 | [],vs,i,v,h,e=>by rw[Reps]at h;subst h;simp at e
 | d'::ds,vs,i,v,h,e=>by
  rw[Reps]at h
  obtain⟨v0,r,q,h1,h2⟩:=h
  subst q
  cases i with
  | zero=>simp at e;subst e;exact⟨d',rfl,h1⟩
  | succ i =>
   obtain⟨d,e1,h3⟩:=Reps.get' (i:=i) h2 (by simpa using e)
   exact⟨d,by simpa using e1,h3⟩
theorem Reps.append:∀ {ds es:List D} {vs us:List V},Reps K C Z ds vs→Reps K C Z es us→Reps K C Z (ds++es) (vs++us)
 | [],es,vs,us,h,h'=>by rw[Reps]at h;subst h;exact h'
 | d::ds,es,vs,us,h,h'=>by
  rw[Reps]at h
  obtain⟨v,r,q,h1,h2⟩:=h
  subst q
  exact Reps.cons h1 (Reps.append h2 h')
theorem Reps.take:∀ {ds:List D} {vs:List V} (n:Nat),Reps K C Z ds vs→Reps K C Z (ds.take n) (vs.take n)
 | [],vs,n,h=>by rw[Reps]at h;subst h;simpa using Reps.nil
 | d::ds,vs,n,h=>by
  rw[Reps]at h
  obtain⟨v,r,q,h1,h2⟩:=h
  subst q
  cases n with
  | zero=>exact Reps.nil
  | succ n=>exact Reps.cons h1 (Reps.take n h2)
theorem Reps.drop:∀ {ds:List D} {vs:List V} (n:Nat),Reps K C Z ds vs→Reps K C Z (ds.drop n) (vs.drop n)
 | [],vs,n,h=>by rw[Reps]at h;subst h;simpa using Reps.nil
 | d::ds,vs,n,h=>by
  rw[Reps]at h
  obtain⟨v,r,q,h1,h2⟩:=h
  subst q
  cases n with
  | zero=>exact Reps.cons h1 h2
  | succ n=>exact Reps.drop n h2
end
structure Ex (H Z H' Z':Hp):Prop where
 same:Same H H'
 z:Same Z Z'
 sub:Same Z' H'
 new:∀ b,Z' b≠none→Z b≠none∨H b=none
theorem Ex.refl {H Z:Hp}(s:Same Z H):Ex H Z H Z:=⟨Same.refl _,Same.refl _,s,fun _ h=>.inl h⟩
theorem Ex.trans {H Z H1 Z1 H2 Z2:Hp}(a:Ex H Z H1 Z1)(b:Ex H1 Z1 H2 Z2):Ex H Z H2 Z2 :=
 ⟨a.same.trans b.same,a.z.trans b.z,b.sub,fun c h=>(b.new c h).elim (fun h1=>a.new c h1) fun h1=>.inr (a.same.free h1)⟩
theorem aw {H:Hp}{p:Addr}{o:HO}(h:H p=none):Same H (upd H p o):=fun b u e=>by
 rw[av (bo e h)];exact e
theorem Ex.alloc {H Z:Hp}{p:Addr}{o:HO}(s:Same Z H)(h:H p=none):Ex H Z (upd H p o) (upd Z p o):=by
 have hz:Z p=none:=s.free h
 refine⟨aw h,aw hz,fun b u e=>?_,fun b hb=>?_⟩
 ·by_cases q:b=p
  ·subst q;rw[ak]at e ⊢;exact e
  ·rw[av q]at e ⊢;exact s b u e
 ·by_cases q:b=p
  ·subst q;exact .inr h
  ·rw[av q]at hb;exact .inl hb
theorem Ex.hidden {H Z:Hp}{p:Addr}{o:HO}(s:Same Z H)(h:H p=none):Ex H Z (upd H p o) Z :=
 ⟨aw h,Same.refl _,s.trans (aw h),fun _ hb=>.inl hb⟩
inductive Sl where
 | val (d:D) | own (ds:List D) | mat (m:List (List D)) | dic (m:List (Key×D)) | dit (m:List (List Key×D))
abbrev SS:=List (Option Sl)
structure Fx where
 K:PySem.W.Frag
 C:Nat→Addr
 H0:Hp
 Z0:Hp
 E:XK
def Rows (F:Fx)(H Z:Hp):List (List D)→List Addr→Prop
 | [],[]=>True
 | ds::m,r::rs=>(∃ vs,H r=some (.lst vs)∧Reps F.K F.C Z ds vs)∧Rows F H Z m rs
 | _,_=>False
def Pairs {κ:Type}(F:Fx)(Z:Hp)(m:List (κ×D))(kvs:List (κ×V)):Prop:=kvs.map Prod.fst=m.map Prod.fst∧Reps F.K F.C Z (m.map Prod.snd) (kvs.map Prod.snd)
def Ow (F:Fx)(H Z:Hp):Sl→V→List Addr→Prop
 | .val d,v,A=>A=[]∧Rep F.K F.C Z d v
 | .own ds,v,A=>∃ a vs,v=.ref a∧A=[a]∧H a=some (.lst vs)∧Reps F.K F.C Z ds vs
 | .mat m,v,A=>∃ a rs,v=.ref a∧A=a::rs∧H a=some (.lst (rs.map V.ref))∧Rows F H Z m rs
 | .dic m,v,A=>∃ a kvs,v=.ref a∧A=[a]∧H a=some (.dK kvs)∧Pairs F Z m kvs
 | .dit m,v,A=>∃ a kvs,v=.ref a∧A=[a]∧H a=some (.dT kvs)∧Pairs F Z m kvs
structure Priv (F:Fx)(Z:Hp)(A:List Addr):Prop where
 nd:A.Nodup
 z:∀ a∈A,Z a=none
 h0:∀ a∈A,F.H0 a=none
structure StOk (F:Fx)(H Z:Hp)(S:SS)(σ:St):Prop where
 ex:Ex F.H0 F.Z0 H Z
 len:S.length=σ.length
 sl:∀ (i:Nat) (x:Sl),S[i]?=some (some x)→∃ v A,σ[i]?=some (some v)∧Ow F H Z x v A∧Priv F Z A
 dj:∀ (i j:Nat) (x y:Sl) (v w:V) (A B:List Addr),i≠j→S[i]?=some (some x)→S[j]?=some (some y)→σ[i]?=some (some v)→σ[j]?=some (some w)→Ow F H Z x v A→Ow F H Z y w B→∀ a∈A,a∉B
section
variable {F:Fx}{H Z H' Z':Hp}{S:SS}{σ:St}{x:Sl}{v:V}{A B:List Addr}
theorem Rows.mono (hz:Same Z Z'):∀ {m:List (List D)} {rs:List Addr},Rows F H Z m rs→(∀ a∈rs,∀ o,H a=some o→H' a=some o)→Rows F H' Z' m rs
 | [],[],_,_=>trivial
 | ds::m,r::rs,h,k=>by
  obtain⟨⟨vs,e,q⟩,h⟩:=h
  exact⟨⟨vs,k r (.head _) _ e,q.mono hz⟩,Rows.mono hz h fun a ha=>k a (.tail _ ha)⟩
 | [],_::_,h,_=>h.elim
 | _::_,[],h,_=>h.elim
theorem Rows.there:∀ {m:List (List D)} {rs:List Addr},Rows F H Z m rs→∀ a∈rs,∃ o,H a=some o
 | [],[],_,a,ha=>nomatch ha
 | ds::m,r::rs,h,a,ha=>by
  obtain⟨⟨vs,e,q⟩,h⟩:=h
  rcases List.mem_cons.mp ha with rfl | ha
  ·exact⟨_,e⟩
  ·exact Rows.there h a ha
 | [],_::_,h,_,_=>h.elim
 | _::_,[],h,_,_=>h.elim
theorem lC:∀ {rs qs:List Addr},rs.map V.ref=qs.map V.ref→rs=qs
 | [],[],_=>rfl
 | r::rs,q::qs,h=>by
  rw[List.map_cons,List.map_cons]at h
  injection h with h1 h2
  injection h1 with h1
  rw[h1,lC h2]
 | [],_::_,h=>nomatch h
 | _::_,[],h=>nomatch h
theorem Ow.mono (hz:Same Z Z')(h:Ow F H Z x v A)(hs:∀ a∈A,∀ o,H a=some o→H' a=some o):Ow F H' Z' x v A:=by
 cases x with
 | val d=>exact⟨h.1,h.2.mono hz⟩
 | own ds =>
  obtain⟨a,vs,e1,e2,e3,r⟩:=h
  exact⟨a,vs,e1,e2,hs a (by rw[e2];exact .head _) _ e3,r.mono hz⟩
 | mat m =>
  obtain⟨a,rs,e1,e2,e3,r⟩:=h
  exact⟨a,rs,e1,e2,hs a (by rw[e2];exact .head _) _ e3,r.mono hz fun b hb=>hs b (by rw[e2];exact .tail _ hb)⟩
 | dic m =>
  obtain⟨a,vs,e1,e2,e3,r⟩:=h
  exact⟨a,vs,e1,e2,hs a (by rw[e2];exact .head _) _ e3,r.1,r.2.mono hz⟩
 | dit m =>
  obtain⟨a,vs,e1,e2,e3,r⟩:=h
  exact⟨a,vs,e1,e2,hs a (by rw[e2];exact .head _) _ e3,r.1,r.2.mono hz⟩
theorem Ow.det (h:Ow F H Z x v A)(h':Ow F H Z x v B):A=B:=by
 cases x with
 | val d=>rw[h.1,h'.1]
 | own ds =>
  obtain⟨a,vs,e1,e2,_⟩:=h
  obtain⟨b,us,f1,f2,_⟩:=h'
  rw[e1]at f1;cases f1
  rw[e2,f2]
 | mat m =>
  obtain⟨a,rs,e1,e2,e3,_⟩:=h
  obtain⟨b,qs,f1,f2,f3,_⟩:=h'
  rw[e1]at f1;cases f1
  rw[e3]at f3
  injection f3 with f3
  injection f3 with f3
  rw[e2,f2,lC f3]
 | dic m =>
  obtain⟨a,vs,e1,e2,_⟩:=h
  obtain⟨b,us,f1,f2,_⟩:=h'
  rw[e1]at f1;cases f1
  rw[e2,f2]
 | dit m =>
  obtain⟨a,vs,e1,e2,_⟩:=h
  obtain⟨b,us,f1,f2,_⟩:=h'
  rw[e1]at f1;cases f1
  rw[e2,f2]
theorem Ow.there (h:Ow F H Z x v A):∀ a∈A,∃ o,H a=some o:=fun a ha=>by
 cases x with
 | val d=>rw[h.1]at ha;cases ha
 | own ds =>
  obtain⟨b,vs,e1,e2,e3,r⟩:=h
  rw[e2]at ha
  cases List.mem_singleton.mp ha
  exact⟨_,e3⟩
 | mat m =>
  obtain⟨b,rs,e1,e2,e3,r⟩:=h
  rw[e2]at ha
  rcases List.mem_cons.mp ha with rfl | ha
  ·exact⟨_,e3⟩
  ·exact r.there a ha
 | dic m =>
  obtain⟨b,vs,e1,e2,e3,r⟩:=h
  rw[e2]at ha
  cases List.mem_singleton.mp ha
  exact⟨_,e3⟩
 | dit m =>
  obtain⟨b,vs,e1,e2,e3,r⟩:=h
  rw[e2]at ha
  cases List.mem_singleton.mp ha
  exact⟨_,e3⟩
theorem StOk.sub (h:StOk F H Z S σ):Same Z H:=h.ex.sub
theorem StOk.more (h:StOk F H Z S σ)(x:Ex H Z H' Z'):StOk F H' Z' S σ:=by
 have up:∀ {y:Sl} {v:V} {A:List Addr},Ow F H Z y v A→Ow F H' Z' y v A:=fun o=>o.mono x.z fun a _ o e=>x.same _ _ e
 refine⟨h.ex.trans x,h.len,fun i y e=>?_,fun i j y z v w A B hij e1 e2 e3 e4 o1 o2=>?_⟩
 ·obtain⟨v,A,e1,o,p⟩:=h.sl i y e
  refine⟨v,A,e1,up o,p.nd,fun a ha=>?_,p.h0⟩
  cases q:Z' a with
  | none=>rfl
  | some u =>
   obtain⟨w,hw⟩:=o.there a ha
   rcases x.new a (by rw[q];simp) with z | z
   ·exact absurd (p.z a ha) z
   ·rw[hw]at z;cases z
 ·obtain⟨v',A',f1,q1,_⟩:=h.sl i y e1
  obtain⟨w',B',f2,q2,_⟩:=h.sl j z e2
  rw[e3]at f1;cases f1
  rw[e4]at f2;cases f2
  rw[o1.det (up q1),o2.det (up q2)]
  exact h.dj i j y z v w A' B' hij e1 e2 e3 e4 q1 q2
theorem StOk.val (h:StOk F H Z S σ)(i:Nat)(d:D)(e:S[i]?=some (some (.val d))):∃ v,σ[i]?=some (some v)∧Rep F.K F.C Z d v:=by
 obtain⟨v,A,e1,o,_⟩:=h.sl i _ e
 exact⟨v,e1,o.2⟩
theorem StOk.own (h:StOk F H Z S σ)(i:Nat)(ds:List D)(e:S[i]?=some (some (.own ds))):∃ a vs,σ[i]?=some (some (.ref a))∧H a=some (.lst vs)∧Z a=none∧F.H0 a=none∧Reps F.K F.C Z ds vs:=by
 obtain⟨v,A,e1,⟨a,vs,rfl,rfl,q,r⟩,p⟩:=h.sl i _ e
 exact⟨a,vs,e1,q,p.z a (.head _),p.h0 a (.head _),r⟩
theorem StOk.put (h:StOk F H Z S σ){i:Nat}(o:Ow F H Z x v A)(p:Priv F Z A)(hn:∀ (j:Nat) (y:Sl) (w:V) (B:List Addr),j≠i→S[j]?=some (some y)→σ[j]?=some (some w)→Ow F H Z y w B→∀ a∈A,a∉B) :
  StOk F H Z (S.set i (some x)) (σ.set i (some v)):=by
 have self:∀ {y:Option Sl},(S.set i (some x))[i]?=some y→y=some x∧i < S.length:=fun {y} e=>by
  by_cases hl:i < S.length
  ·rw[List.getElem?_set_self hl]at e;cases e;exact⟨rfl,hl⟩
  ·rw[List.getElem?_eq_none (by simpa using hl)]at e;cases e
 refine⟨h.ex,by simp[h.len],fun j y e=>?_,fun j k y z w u A' B' hjk e1 e2 e3 e4 o1 o2=>?_⟩
 ·by_cases q:i=j
  ·subst q
   obtain⟨z,hl⟩:=self e
   cases z
   exact⟨v,A,by rw[List.getElem?_set_self (by rw[← h.len];exact hl)],o,p⟩
  ·rw[List.getElem?_set_ne q]at e ⊢
   exact h.sl j y e
 ·by_cases q:i=j
  ·have q2:i≠k:=fun z=>hjk (q ▸ z)
   subst q
   obtain⟨z,hl⟩:=self e1
   cases z
   rw[List.getElem?_set_self (by rw[← h.len];exact hl)]at e3
   cases e3
   rw[List.getElem?_set_ne q2]at e2 e4
   rw[o1.det o]
   exact hn k _ _ _ (Ne.symm q2) e2 e4 o2
  ·rw[List.getElem?_set_ne q]at e1 e3
   by_cases q2:i=k
   ·subst q2
    obtain⟨z,hl⟩:=self e2
    cases z
    rw[List.getElem?_set_self (by rw[← h.len];exact hl)]at e4
    cases e4
    rw[o2.det o]
    exact fun a ha hb=>hn j _ _ _ (Ne.symm q) e1 e3 o1 a hb ha
   ·rw[List.getElem?_set_ne q2]at e2 e4
    exact h.dj j k _ _ _ _ _ _ hjk e1 e2 e3 e4 o1 o2
theorem Priv.nil:Priv F Z []:=⟨List.Pairwise.nil,(fun _ h=>nomatch h),(fun _ h=>nomatch h)⟩
theorem StOk.setVal (h:StOk F H Z S σ){i:Nat}{d:D}{v:V}(r:Rep F.K F.C Z d v):StOk F H Z (S.set i (some (.val d))) (σ.set i (some v)) :=
 h.put (x:=.val d) (A:=[]) ⟨rfl,r⟩ Priv.nil fun _ _ _ _ _ _ _ _ _ ha=>nomatch ha
theorem StOk.putNew (h:StOk F H Z S σ){i:Nat}(e:Ex H Z H' Z')(o:Ow F H' Z' x v A)(p:Priv F Z' A)(hn:∀ a∈A,H a=none):StOk F H' Z' (S.set i (some x)) (σ.set i (some v)):=by
 refine(h.more e).put o p fun j y w B hj e1 e2 o2 a ha hb=>?_
 obtain⟨w',B',f1,q,_⟩:=h.sl j y e1
 rw[e2]at f1;cases f1
 rw[o2.det (q.mono e.z fun a _ o e'=>e.same _ _ e')]at hb
 obtain⟨u,hu⟩:=q.there a hb
 rw[hn a ha]at hu;cases hu
theorem StOk.newOwn (h:StOk F H Z S σ){i:Nat}{a:Addr}{ds:List D}{vs:List V}(hp:H a=none)(r:Reps F.K F.C Z ds vs):StOk F (upd H a (.lst vs)) Z (S.set i (some (.own ds))) (σ.set i (some (.ref a))) :=
 h.putNew (x:=.own ds) (A:=[a]) (Ex.hidden h.sub hp) ⟨a,vs,rfl,rfl,ak,r⟩ ⟨by simp,fun b hb=>by cases List.mem_singleton.mp hb;exact h.sub.free hp,fun b hb=>by cases List.mem_singleton.mp hb;exact h.ex.same.free hp⟩ fun b hb=>by cases List.mem_singleton.mp hb;exact hp
theorem StOk.rewr (h:StOk F H Z S σ){i:Nat}{x':Sl}(e:S[i]?=some (some x))(ev:σ[i]?=some (some v))(o:Ow F H Z x v A)(o':Ow F H' Z x' v A)(hH:∀ b,b∉A→H' b=H b):StOk F H' Z (S.set i (some x')) σ:=by
 have hl:i < S.length:=(List.getElem?_eq_some_iff.mp e).1
 obtain⟨v',A',f1,q1,p⟩:=h.sl i x e
 rw[ev]at f1;cases f1
 cases o.det q1
 have up:∀ {j:Nat} {y:Sl} {w:V} {B:List Addr},j≠i→S[j]?=some (some y)→σ[j]?=some (some w)→Ow F H Z y w B→Ow F H' Z y w B:=fun {j y w B} hj e1 e2 q=>q.mono (Same.refl _) fun b hb u eu=>by
  rw[hH b (h.dj j i y x w v B A hj e1 e e2 ev q o b hb)];exact eu
 refine⟨⟨fun b u q=>?_,h.ex.z,fun b u q=>?_,h.ex.new⟩,by simp[h.len],fun j y q=>?_,fun j k y z w u A' B' hjk e1 e2 e3 e4 o1 o2=>?_⟩
 ·rw[hH b fun z=>by rw[p.h0 b z]at q;cases q];exact h.ex.same b u q
 ·rw[hH b fun z=>by rw[p.z b z]at q;cases q];exact h.ex.sub b u q
 ·by_cases z:i=j
  ·subst z
   rw[List.getElem?_set_self hl]at q;cases q
   exact⟨v,A,ev,o',p⟩
  ·rw[List.getElem?_set_ne z]at q
   obtain⟨w,B,g1,g2,g3⟩:=h.sl j y q
   exact⟨w,B,g1,up (Ne.symm z) q g1 g2,g3⟩
 ·have one:∀ {j:Nat} {y:Sl} {w:V} {B:List Addr},(S.set i (some x'))[j]?=some (some y)→σ[j]?=some (some w)→Ow F H' Z y w B→∃ y0,S[j]?=some (some y0)∧Ow F H Z y0 w B:=fun {j y w B} g1 g2 g3=>by
   by_cases z:i=j
   ·subst z
    rw[List.getElem?_set_self hl]at g1;cases g1
    rw[ev]at g2;cases g2
    rw[g3.det o']
    exact⟨x,e,o⟩
   ·rw[List.getElem?_set_ne z]at g1
    obtain⟨w',B',k1,k2,_⟩:=h.sl j y g1
    rw[g2]at k1;cases k1
    rw[g3.det (up (Ne.symm z) g1 g2 k2)]
    exact⟨y,g1,k2⟩
  obtain⟨y0,a1,a2⟩:=one e1 e3 o1
  obtain⟨z0,b1,b2⟩:=one e2 e4 o2
  exact h.dj j k y0 z0 w u A' B' hjk a1 b1 e3 e4 a2 b2
theorem StOk.write (h:StOk F H Z S σ){i:Nat}{ds es:List D}{a:Addr}{us:List V}(e:S[i]?=some (some (.own ds)))(ha:σ[i]?=some (some (.ref a)))(r:Reps F.K F.C Z es us) :
  StOk F (upd H a (.lst us)) Z (S.set i (some (.own es))) σ:=by
 obtain⟨a',vs,e1,e2,e3,e4,r0⟩:=h.own i ds e
 rw[ha]at e1;cases e1
 exact h.rewr (x:=.own ds) (A:=[a]) e ha ⟨a,vs,rfl,rfl,e2,r0⟩ ⟨a,us,rfl,rfl,ak,r⟩ fun b hb=>av fun z=>hb (by rw[z];exact .head _)
theorem StOk.frzAll (h:StOk F H Z S σ){i:Nat}{d:D}(e:S[i]?=some (some x))(ev:σ[i]?=some (some v))(o:Ow F H Z x v A)(hz:Same Z Z')(hsub:Same Z' H)(hnew:∀ b,Z' b≠none→Z b≠none∨b∈A)(r:Rep F.K F.C Z' d v):StOk F H Z' (S.set i (some (.val d))) σ:=by
 have hl:i < S.length:=(List.getElem?_eq_some_iff.mp e).1
 obtain⟨v',A',f1,q1,p⟩:=h.sl i x e
 rw[ev]at f1;cases f1
 cases o.det q1
 have up:∀ {y:Sl} {w:V} {B:List Addr},Ow F H Z y w B→Ow F H Z' y w B:=fun q=>q.mono hz fun _ _ _ e=>e
 refine⟨⟨h.ex.same,h.ex.z.trans hz,hsub,fun b q=>?_⟩,by simp[h.len],fun j y q=>?_,fun j k y z w u A' B' hjk e1 e2 e3 e4 o1 o2=>?_⟩
 ·rcases hnew b q with z | z
  ·exact h.ex.new b z
  ·exact .inr (p.h0 b z)
 ·by_cases z:i=j
  ·subst z
   rw[List.getElem?_set_self hl]at q;cases q
   exact⟨v,[],ev,⟨rfl,r⟩,Priv.nil⟩
  ·rw[List.getElem?_set_ne z]at q
   obtain⟨w,B,g1,g2,g3⟩:=h.sl j y q
   refine⟨w,B,g1,up g2,g3.nd,fun b hb=>?_,g3.h0⟩
   cases qz:Z' b with
   | none=>rfl
   | some u =>
    rcases hnew b (by rw[qz];simp) with y1 | y1
    ·exact absurd (g3.z b hb) y1
    ·exact absurd y1 (h.dj j i _ _ _ _ _ _ (Ne.symm z) q e g1 ev g2 o b hb)
 ·have one:∀ {j:Nat} {y:Sl} {w:V} {B:List Addr},(S.set i (some (.val d)))[j]?=some (some y)→σ[j]?=some (some w)→Ow F H Z' y w B→B=[]∨(j≠i∧S[j]?=some (some y)∧Ow F H Z y w B):=fun {j y w B} g1 g2 g3=>by
   by_cases z:i=j
   ·subst z
    rw[List.getElem?_set_self hl]at g1;cases g1
    exact .inl g3.1
   ·rw[List.getElem?_set_ne z]at g1
    obtain⟨w',B',k1,k2,_⟩:=h.sl j y g1
    rw[g2]at k1;cases k1
    rw[g3.det (up k2)]
    exact .inr ⟨Ne.symm z,g1,k2⟩
  rcases one e1 e3 o1 with z1 | ⟨_,z1,z2⟩
  ·rw[z1];exact fun a ha=>nomatch ha
  ·rcases one e2 e4 o2 with y1 | ⟨_,y1,y2⟩
   ·rw[y1];exact fun a _ ha=>nomatch ha
   ·exact h.dj j k _ _ _ _ _ _ hjk z1 y1 e3 e4 z2 y2
theorem StOk.freeze (h:StOk F H Z S σ){i:Nat}{ds:List D}(e:S[i]?=some (some (.own ds))):∃ Z',Same Z Z'∧StOk F H Z' (S.set i (some (.val (.lst ds)))) σ:=by
 obtain⟨a,vs,e1,e2,e3,e4,r⟩:=h.own i ds e
 have hz:Same Z (upd Z a (.lst vs)):=aw e3
 refine⟨upd Z a (.lst vs),hz,h.frzAll (x:=.own ds) (A:=[a]) e e1 ⟨a,vs,rfl,rfl,e2,r⟩ hz (fun b o q=>?_) (fun b q=>?_) (by rw[Rep];exact⟨a,vs,rfl,SqL.of ak,r.mono hz⟩)⟩
 ·by_cases y:b=a
  ·subst y;rw[ak]at q;cases q;exact e2
  ·rw[av y]at q;exact h.ex.sub b o q
 ·by_cases y:b=a
  ·exact .inr (by rw[y];exact .head _)
  ·rw[av y]at q;exact .inl q
end
end FF
end
noncomputable section
namespace FF
open PySem PySem.Spec PyProof.Rows L2
def WG {α:Type}(F:Fx)(H Z:Hp)(r:R α)(P:α→Hp→Hp→Prop):Prop:=match r with
 | .ok a=>∀ H' Z',Ex H Z H' Z'→P a H' Z'
 | .err k=>∀ H',Same H H'→F.E (.ref (F.C k)) none H'
 | .stuck=>False
section
variable {α:Type}{F:Fx}{H Z H1 Z1:Hp}{r:R α}{P P':α→Hp→Hp→Prop}
theorem WG.more (w:WG F H Z r P)(x:Ex H Z H1 Z1):WG F H1 Z1 r P:=by
 cases r with
 | ok a=>exact fun H' Z' y=>w H' Z' (x.trans y)
 | err k=>exact fun H' y=>w H' (x.same.trans y)
 | stuck=>exact w
theorem WG.now {a:α}(w:WG F H Z (.ok a) P)(s:Same Z H):P a H Z:=w H Z (Ex.refl s)
end
def tE (F:Fx)(g:SS→R D):TE:=fun σ H Q=>∃ Z S,StOk F H Z S σ∧WG F H Z (g S) fun d H' Z'=>∀ v,Rep F.K F.C Z' d v→Q v H'
def tT (F:Fx)(g:SS→R Bool):TT:=fun σ H Q=>∃ Z S,StOk F H Z S σ∧WG F H Z (g S) fun b H' _=>Q b H'
def tAl (F:Fx)(g:SS→R (List D)):TA:=fun σ H Q=>∃ Z S,StOk F H Z S σ∧WG F H Z (g S) fun ds H' Z'=>∀ vs,Reps F.K F.C Z' ds vs→Q vs H'
inductive O where
 | nx (S:SS) | rt (d:D) | er (k:Nat) | bk (S:SS) | ct (S:SS) | stuck
def WO (F:Fx)(Z:Hp)(o:O)(D:Ends):Prop:=match o with
 | .nx S=>∀ σ H Z',Same Z Z'→StOk F H Z' S σ→D.nx σ H
 | .rt d=>∀ v H Z',Ex F.H0 F.Z0 H Z'→Rep F.K F.C Z' d v→D.rt v H
 | .er k=>∀ H,Same F.H0 H→F.E (.ref (F.C k)) none H
 | .bk S=>∀ σ H Z',Same Z Z'→StOk F H Z' S σ→D.bk σ H
 | .ct S=>∀ σ H Z',Same Z Z'→StOk F H Z' S σ→D.ct σ H
 | .stuck=>False
theorem WO.more {F:Fx}{Z Z1:Hp}{o:O}{D:Ends}(w:WO F Z o D)(z:Same Z Z1):WO F Z1 o D:=by
 cases o with
 | nx S=>exact fun σ H Z' q=>w σ H Z' (z.trans q)
 | rt d=>exact w
 | er k=>exact w
 | bk S=>exact fun σ H Z' q=>w σ H Z' (z.trans q)
 | ct S=>exact fun σ H Z' q=>w σ H Z' (z.trans q)
 | stuck=>exact w
def tS (F:Fx)(g:SS→O):TS:=fun D σ H=>∃ Z S,StOk F H Z S σ∧WO F Z (g S) D
abbrev FE (X:Cx)(F:Fx)(e:Expr)(g:SS→R D):Prop:=PE X e (tE F g)
abbrev FT (X:Cx)(F:Fx)(e:Expr)(g:SS→R Bool):Prop:=PT X e (tT F g)
abbrev FW (X:Cx)(F:Fx)(e:Expr)(g:SS→R Bool):Prop:=PW X e (tT F g)
abbrev FA (X:Cx)(F:Fx)(es:List Expr)(g:SS→R (List D)):Prop:=PA X es (tAl F g)
abbrev FS (X:Cx)(F:Fx)(st:Stmt)(g:SS→O):Prop:=PS X st (tS F g)
abbrev FSs (X:Cx)(F:Fx)(sts:List Stmt)(g:SS→O):Prop:=PSs X sts (tS F g)
theorem _root_.L2.PE.weak {X:Cx}{e:Expr}{t t':TE}(h:PE X e t)(w:∀ σ H Q,t' σ H Q→t σ H Q):PE X e t':=fun pins s σ H Q I q=>h pins s σ H Q I (w σ H Q q)
theorem _root_.L2.PT.weak {X:Cx}{e:Expr}{t t':TT}(h:PT X e t)(w:∀ σ H Q,t' σ H Q→t σ H Q):PT X e t':=fun pins s σ H Q I q=>h pins s σ H Q I (w σ H Q q)
theorem _root_.L2.PW.weak {X:Cx}{e:Expr}{t t':TT}(h:PW X e t)(w:∀ σ H Q,t' σ H Q→t σ H Q):PW X e t':=fun wh pins s σ H Q I q=>h wh pins s σ H Q I (w σ H Q q)
theorem _root_.L2.PA.weak {X:Cx}{e:List Expr}{t t':TA}(h:PA X e t)(w:∀ σ H Q,t' σ H Q→t σ H Q):PA X e t':=fun p pins s σ H Q I q=>h p pins s σ H Q I (w σ H Q q)
theorem _root_.L2.PS.weak {X:Cx}{e:Stmt}{t t':TS}(h:PS X e t)(w:∀ D σ H,t' D σ H→t D σ H):PS X e t':=fun pins s σ H D I q=>h pins s σ H D I (w D σ H q)
theorem _root_.L2.PSs.weak {X:Cx}{e:List Stmt}{t t':TS}(h:PSs X e t)(w:∀ D σ H,t' D σ H→t D σ H):PSs X e t':=fun pins s σ H D I q=>h pins s σ H D I (w D σ H q)
section
variable {F:Fx}{σ:St}{H Z:Hp}{S:SS}
theorem ax {α:Type}{g:SS→R D}{k:D→R α}{P:α→Hp→Hp→Prop}{Q:VK}(ok:StOk F H Z S σ)(w:WG F H Z ((g S).bind k) P)
  (h:∀ d v H1 Z1,StOk F H1 Z1 S σ→Ex H Z H1 Z1→Rep F.K F.C Z1 d v→WG F H1 Z1 (k d) P→Q v H1):tE F g σ H Q:=by
 refine⟨Z,S,ok,?_⟩
 cases e:g S with
 | ok d =>
  rw[e]at w
  intro H1 Z1 x v r
  exact h d v H1 Z1 (ok.more x) x r (WG.more (r:=k d) w x)
 | err k=>rw[e]at w;exact w
 | stuck=>rw[e]at w;exact w
theorem e9 {α:Type}{g:SS→R Bool}{k:Bool→R α}{P:α→Hp→Hp→Prop}{Q:Bool→Hp→Prop}(ok:StOk F H Z S σ)(w:WG F H Z ((g S).bind k) P)
  (h:∀ b H1 Z1,StOk F H1 Z1 S σ→Ex H Z H1 Z1→WG F H1 Z1 (k b) P→Q b H1):tT F g σ H Q:=by
 refine⟨Z,S,ok,?_⟩
 cases e:g S with
 | ok d =>
  rw[e]at w
  intro H1 Z1 x
  exact h d H1 Z1 (ok.more x) x (WG.more (r:=k d) w x)
 | err k=>rw[e]at w;exact w
 | stuck=>rw[e]at w;exact w
theorem aJ {α:Type}{g:SS→R (List D)}{k:List D→R α}{P:α→Hp→Hp→Prop}{Q:List V→Hp→Prop}(ok:StOk F H Z S σ)(w:WG F H Z ((g S).bind k) P)
  (h:∀ ds vs H1 Z1,StOk F H1 Z1 S σ→Ex H Z H1 Z1→Reps F.K F.C Z1 ds vs→WG F H1 Z1 (k ds) P→Q vs H1):tAl F g σ H Q:=by
 refine⟨Z,S,ok,?_⟩
 cases e:g S with
 | ok d =>
  rw[e]at w
  intro H1 Z1 x v r
  exact h d v H1 Z1 (ok.more x) x r (WG.more (r:=k d) w x)
 | err k=>rw[e]at w;exact w
 | stuck=>rw[e]at w;exact w
end
def eVar (i:Nat):SS→R D:=fun S=>match S[i]? with
 | some (some (.val d))=>.ok d
 | _=>.stuck
def eC (d:D):SS→R D:=fun _=>.ok d
section
variable {X:Cx}{F:Fx}{e a b:Expr}{g ga gb:SS→R D}{pos:Pos}
theorem cF {v:V}{d:D}(h:PE X e (tC v))(r:∀ Z,Rep F.K F.C Z d v):FE X F e (eC d):=h.weak fun σ H Q ⟨Z,S,ok,w⟩=>WG.now w ok.sub v (r Z)
theorem af {i j pos}:FE X F (.Constant (.int i) j pos) (eC (.int i)):=cF vL fun _=>by rw[Rep]
theorem gK {b j pos}:FE X F (.Constant (.bool b) j pos) (eC (.bl b)):=cF wO fun _=>by rw[Rep]
theorem mW {j pos}:FE X F (.Constant .none j pos) (eC .non):=cF vM fun _=>by rw[Rep]
theorem kx {x j pos}:FE X F (.Constant (.str x) j pos) (eC (.str x)):=cF vN fun _=>by rw[Rep]
theorem ac (i:Nat){x:Str}{pos:Pos}(hN:X.N[i]?=some x:=by rfl)(hv:Vis X.env.scope x:=by first | exact Or.inl rfl | exact Or.inr (Or.inl rfl) | exact Or.inr (Or.inr rfl))(hd:(x==("__debug__":Str))=false:=by decide)
  (hcd:(x==("__classdict__":Str))=false:=by decide):FE X F (.Name x pos) (eVar i):=(fP hN hv hd hcd).weak fun σ H Q ⟨Z,S,ok,w⟩=>by
 unfold eVar at w
 split at w
 ·rename_i d e
  obtain⟨v,e1,r⟩:=ok.val i d e
  exact⟨v,e1,WG.now w ok.sub v r⟩
 ·exact w.elim
end
def OpD (F:Fx)(r:R2)(f:D→D→R D):Prop:=∀ (H Z:Hp) (x y:V) (dx dy:D) (Q:VK),Same Z H→Rep F.K F.C Z dx x→Rep F.K F.C Z dy y →
 WG F H Z (f dx dy) (fun d H' Z'=>∀ v,Rep F.K F.C Z' d v→Q v H')→r x y H Q
def eOp (f:D→D→R D)(ga gb:SS→R D):SS→R D:=fun S=>(ga S).bind fun x=>(gb S).bind fun y=>f x y
section
variable {X:Cx}{F:Fx}{e a b c:Expr}{ga gb gc:SS→R D}{pos:Pos}{r:R2}{f:D→D→R D}
theorem ky (hd:OpD F r f):∀ σ H Q,tE F (eOp f ga gb) σ H Q→tOp r (tE F ga) (tE F gb) σ H Q:=fun σ H Q ⟨Z,S,ok,w⟩ =>
 ax ok w fun dx x H1 Z1 ok1 x1 rx w1=>ax ok1 w1 fun dy y H2 Z2 ok2 x2 ry w2=>hd H2 Z2 x y dx dy Q ok2.sub (rx.mono x2.z) ry w2
theorem lD {op:Operator}(ho:OpR X (binaryOp op) r)(hd:OpD F r f)(ha:FE X F a ga)(hb:FE X F b gb):FE X F (.BinOp a op b pos) (eOp f ga gb):=(wS ho ha hb).weak (ky hd)
theorem rh {op:CmpOp}(ho:OpR X (compareOp op) r)(hd:OpD F r f)(ha:FE X F a ga)(hb:FE X F b gb)(hm:behindInMarks op b=false:=by first | exact nomark _ | rfl):FE X F (.Compare a [op] [b] pos) (eOp f ga gb) :=
 (t7 ho ha hb hm).weak (ky hd)
theorem wW (ho:IxR X r)(hd:OpD F r f)(ha:FE X F a ga)(hb:FE X F b gb)(hs:PlainIx b:=by intro _ _;rfl):FE X F (.Subscript a b pos) (eOp f ga gb):=(vw ho ha hb hs).weak (ky hd)
def asB (r:R D):R Bool:=r.bind fun d=>match d with
 | .bl b=>.ok b
 | _=>.stuck
def gB (g:SS→R D):SS→R Bool:=fun S=>asB (g S)
theorem vy {t:TE}{g:SS→R D}(h:∀ σ H Q,tE F g σ H Q→t σ H Q):∀ σ H Q,tT F (gB g) σ H Q→tTest t σ H Q:=fun σ H Q ⟨Z,S,ok,w⟩=>by
 refine h σ H _ (ax ok w fun d v H1 Z1 ok1 x1 rv w1=>?_)
 cases d with
 | bl b=>rw[Rep]at rv;exact⟨b,rv,WG.now w1 ok1.sub⟩
 | _=>exact w1.elim
theorem aY {g:SS→R D}(h:FE X F e g)(he:∀ whole,isTrue e X.env whole=(do let v ← whole;standAt e.pos;holding [v] (truthy v)):=by intro _;rfl):FT X F e (gB g) :=
 (vO h he).weak (vy (t:=tE F g) fun _ _ _ q=>q)
theorem fT {op:CmpOp}(ho:OpR X (compareOp op) r)(hd:OpD F r f)(ha:FE X F a ga)(hb:FE X F b gb)(hm:behindInMarks op b=false:=by first | exact nomark _ | rfl):FT X F (.Compare a [op] [b] pos) (gB (eOp f ga gb)) :=
 (t8 ho ha hb hm).weak (vy (ky hd))
end
def gAnd (a b:SS→R Bool):SS→R Bool:=fun S=>(a S).bind fun c=>if c=true then b S else .ok false
def gOr (a b:SS→R Bool):SS→R Bool:=fun S=>(a S).bind fun c=>if c=true then .ok true else b S
def gNot (a:SS→R Bool):SS→R Bool:=fun S=>(a S).bind fun c=>.ok (!c)
def eIf (c:SS→R Bool)(a b:SS→R D):SS→R D:=fun S=>(c S).bind fun t=>if t=true then a S else b S
section
variable {X:Cx}{F:Fx}{e a b c:Expr}{rest:List Expr}{ta tb tc:SS→R Bool}{ga gb:SS→R D}{pos:Pos}
theorem kz (h:FT X F a ta):FW X F (.BoolOp .And [a] pos) ta:=tZ h
theorem dk (h:FT X F a ta):FW X F (.BoolOp .Or [a] pos) ta:=vP h
theorem mX (ha:FT X F a ta)(hb:FW X F (.BoolOp .And (b::rest) pos) tb):FW X F (.BoolOp .And (a::b::rest) pos) (gAnd ta tb) :=
 (vQ ha hb).weak fun σ H Q ⟨Z,S,ok,w⟩=>e9 ok w fun d H1 Z1 ok1 x1 w1=>by
  cases d with
  | true=>exact⟨Z1,S,ok1,w1⟩
  | false=>exact WG.now w1 ok1.sub
theorem gL (ha:FT X F a ta)(hb:FW X F (.BoolOp .Or (b::rest) pos) tb):FW X F (.BoolOp .Or (a::b::rest) pos) (gOr ta tb) :=
 (wQ ha hb).weak fun σ H Q ⟨Z,S,ok,w⟩=>e9 ok w fun d H1 Z1 ok1 x1 w1=>by
  cases d with
  | true=>exact WG.now w1 ok1.sub
  | false=>exact⟨Z1,S,ok1,w1⟩
theorem ft_w (h:FW X F e ta):FT X F e ta:=h.pt
theorem bp (h:FT X F a ta):FT X F (.UnaryOp .Not a pos) (gNot ta) :=
 (vR h).weak fun σ H Q ⟨Z,S,ok,w⟩=>e9 ok w fun d H1 Z1 ok1 x1 w1=>WG.now w1 ok1.sub
theorem dl {op}(h:FE X F a ga):FE X F (.BoolOp op [a] pos) ga:=vS h
def eAnd (a b:SS→R D):SS→R D:=fun S=>(asB (a S)).bind fun c=>if c=true then b S else .ok (.bl false)
def eNot (a:SS→R D):SS→R D:=fun S=>(asB (a S)).bind fun c=>.ok (.bl (!c))
theorem rj {α:Type}{σ:St}{H Z:Hp}{S:SS}{g:SS→R D}{k:Bool→R α}{P:α→Hp→Hp→Prop}{Q:VK}(ok:StOk F H Z S σ)(w:WG F H Z ((asB (g S)).bind k) P)
  (h:∀ c H1 Z1,StOk F H1 Z1 S σ→Ex H Z H1 Z1→WG F H1 Z1 (k c) P→Q (.bl c) H1):tE F g σ H Q:=by
 have e:(asB (g S)).bind k=(g S).bind fun d=>(match d with | .bl b=>R.ok b | _=>R.stuck).bind k:=by
  unfold asB;cases g S<;>rfl
 rw[e]at w
 refine ax ok w fun d v H1 Z1 ok1 x1 rv w1=>?_
 cases d with
 | bl b=>rw[Rep]at rv;subst rv;exact h b H1 Z1 ok1 x1 w1
 | _=>exact w1.elim
theorem cG (ha:FE X F a ga)(hb:FE X F (.BoolOp .And (b::rest) pos) gb):FE X F (.BoolOp .And (a::b::rest) pos) (eAnd ga gb) :=
 (vT ha hb).weak fun σ H Q ⟨Z,S,ok,w⟩=>rj ok w fun c H1 Z1 ok1 x1 w1=>⟨c,rfl,by
  cases c with
  | true=>exact⟨Z1,S,ok1,w1⟩
  | false=>exact WG.now w1 ok1.sub _ (by rw[Rep])⟩
theorem wc (ha:FE X F a ga):FE X F (.UnaryOp .Not a pos) (eNot ga) :=
 (vU ha).weak fun σ H Q ⟨Z,S,ok,w⟩=>rj ok w fun c H1 Z1 ok1 x1 w1=>⟨c,rfl,WG.now w1 ok1.sub _ (by rw[Rep])⟩
theorem vz (hc:FT X F c tc)(ha:FE X F a ga)(hb:FE X F b gb):FE X F (.IfExp c a b pos) (eIf tc ga gb) :=
 (qM hc ha hb).weak fun σ H Q ⟨Z,S,ok,w⟩=>e9 ok w fun d H1 Z1 ok1 x1 w1=>by
  cases d with
  | true=>exact⟨Z1,S,ok1,w1⟩
  | false=>exact⟨Z1,S,ok1,w1⟩
end
def aNil:SS→R (List D):=fun _=>.ok []
def aCons (g:SS→R D)(gs:SS→R (List D)):SS→R (List D):=fun S=>(g S).bind fun d=>(gs S).bind fun ds=>.ok (d::ds)
def eTup (gs:SS→R (List D)):SS→R D:=fun S=>(gs S).bind fun ds=>if ds.length≤16777216 then .ok (.tup ds) else .stuck
def eLst (gs:SS→R (List D)):SS→R D:=fun S=>(gs S).bind fun ds=>if ds.length≤16777216 then .ok (.lst ds) else .stuck
section
variable {X:Cx}{F:Fx}{e:Expr}{es:List Expr}{g:SS→R D}{gs:SS→R (List D)}{pos:Pos}
theorem wd:FA X F [] aNil:=dh.weak fun σ H Q ⟨Z,S,ok,w⟩=>WG.now w ok.sub [] Reps.nil
theorem uh (ha:FE X F e g)(hr:FA X F es gs)(hs:starEach (e::es) X.env=(false,eval e X.env)::starEach es X.env:=by rfl):FA X F (e::es) (aCons g gs) :=
 (bE ha hr hs).weak fun σ H Q ⟨Z,S,ok,w⟩=>ax ok w fun d v H1 Z1 ok1 x1 rv w1=>aJ ok1 w1 fun ds vs H2 Z2 ok2 x2 rs w2=>WG.now w2 ok2.sub _ (Reps.cons (rv.mono x2.z) rs)
theorem we {x1}(h:FA X F es gs):FE X F (.Tuple es x1 pos) (eTup gs) :=
 (qV h).weak fun σ H Q ⟨Z,S,ok,w⟩=>aJ ok w fun ds vs H1 Z1 ok1 x1 rs w1=>by
  split at w1
  ·rename_i hl
   refine⟨by rw[← rs.length,sizeLine_eq];exact hl,fun p hp=>?_⟩
   have z:Same Z1 (upd Z1 p (.tup vs)):=aw (ok1.sub.free hp)
   exact w1 _ _ (Ex.alloc ok1.sub hp) _ (by rw[Rep];exact⟨p,vs,rfl,SqT.of ak,rs.mono z⟩)
  ·exact w1.elim
theorem wf (h:FA X F es gs):FE X F (.List es pos) (eLst gs) :=
 (kl h).weak fun σ H Q ⟨Z,S,ok,w⟩=>aJ ok w fun ds vs H1 Z1 ok1 x1 rs w1=>by
  split at w1
  ·rename_i hl
   refine⟨by rw[← rs.length,sizeLine_eq];exact hl,fun p hp=>?_⟩
   have z:Same Z1 (upd Z1 p (.lst vs)):=aw (ok1.sub.free hp)
   exact w1 _ _ (Ex.alloc ok1.sub hp) _ (by rw[Rep];exact⟨p,vs,rfl,SqL.of ak,rs.mono z⟩)
  ·exact w1.elim
end
def rO (r:R O):O:=match r with
 | .ok o=>o
 | .err k=>.er k
 | .stuck=>.stuck
def sDrop (g:SS→R D):SS→O:=fun S=>rO ((g S).bind fun _=>.ok (.nx S))
def sRet (g:SS→R D):SS→O:=fun S=>rO ((g S).bind fun d=>.ok (.rt d))
def sSet (i:Nat)(g:SS→R D):SS→O:=fun S=>rO ((g S).bind fun d=>.ok (.nx (S.set i (some (.val d)))))
section
variable {X:Cx}{F:Fx}{st:Stmt}{rest:List Stmt}{e c:Expr}{g:SS→R D}{gt:SS→R Bool}{ga gb:SS→O}{pos:Pos}
theorem WO.wg {D:Ends}{r:R O}{H Z:Hp}{S:SS}{σ:St}(ok:StOk F H Z S σ)(w:WO F Z (rO r) D):WG F H Z r fun o _ Z'=>WO F Z' o D:=by
 cases r with
 | ok o=>exact fun _ _ x=>WO.more w x.z
 | err k=>exact fun H' s=>w H' (ok.ex.same.trans s)
 | stuck=>exact w
theorem b7 (h:FE X F e g)(hs:swapsWith e none pos.line X.env=pure false:=by rfl):FS X F (.Expr e pos) (sDrop g) :=
 (ki h hs).weak fun D σ H ⟨Z,S,ok,w⟩=>ax ok (WO.wg ok w) fun d v H1 Z1 ok1 x1 rv w1=>WG.now w1 ok1.sub σ H1 Z1 (Same.refl _) ok1
theorem ai (h:FE X F e g):FS X F (.Return (some e) pos) (sRet g) :=
 (vV h).weak fun D σ H ⟨Z,S,ok,w⟩=>ax ok (WO.wg ok w) fun d v H1 Z1 ok1 x1 rv w1=>WG.now w1 ok1.sub v H1 Z1 ok1.ex rv
theorem aH (i:Nat){x:Str}{pos':Pos}(hN:X.N.Nodup)(h:FE X F e g)(hi:X.N[i]?=some x:=by rfl)(hx:Loc X.env.scope x:=by first | exact Or.inl rfl | exact Or.inr rfl)
  (hs:swapsWith e (some (.Name x pos')) pos.line X.env=pure false:=by rfl) (hf:X.fn x=true∨X.env.scope.names.lookup x=some .local:=by first | exact .inl rfl | exact .inr rfl):FS X F (.Assign [.Name x pos'] e pos) (sSet i g) :=
 (qP hN hi hx h hs hf).weak fun D σ H ⟨Z,S,ok,w⟩=>ax ok (WO.wg ok w) fun d v H1 Z1 ok1 x1 rv w1=>WG.now w1 ok1.sub _ _ _ (Same.refl _) (ok1.setVal rv)
end
end FF
end
noncomputable section
namespace FF
open PySem PySem.Spec PyProof.Rows L2
theorem OpD.or {F:Fx}{r r':R2}{f f':D→D→R D}(p:D→D→Bool)(h:OpD F r f)(h':OpD F r' f'):OpD F (fun x y H Q=>r x y H Q∨r' x y H Q) (fun x y=>if p x y=true then f x y else f' x y):=by
 intro H Z x y dx dy Q s rx ry w
 by_cases e:p dx dy=true
 ·dsimp only at w;rw[if_pos e]at w;exact .inl (h H Z x y dx dy Q s rx ry w)
 ·dsimp only at w;rw[if_neg e]at w;exact .inr (h' H Z x y dx dy Q s rx ry w)
def dI (c:Int→Int→Bool)(g:Int→Int→D):D→D→R D
 | .int i,.int j=>if c i j=true then .ok (g i j) else .stuck
 | _,_=>.stuck
def dI0 (g:Int→Int→D):D→D→R D
 | .int i,.int j=>.ok (g i j)
 | _,_=>.stuck
theorem rk {F:Fx}{C:Int→Int→Prop}{c:Int→Int→Bool}{g:Int→Int→V}{g':Int→Int→D}(hc:∀ i j,c i j=true→C i j)(hg:∀ i j Z,Rep F.K F.C Z (g' i j) (g i j)):OpD F (rI C g) (dI c g'):=by
 intro H Z x y dx dy Q s rx ry w
 cases dx with
 | int i =>
  cases dy with
  | int j =>
   rw[Rep]at rx
   rw[Rep]at ry
   subst rx;subst ry
   unfold dI at w
   dsimp only at w
   split at w
   ·rename_i q;exact⟨i,j,rfl,rfl,hc i j q,WG.now w s _ (hg i j Z)⟩
   ·exact w.elim
  | _=>exact w.elim
 | _=>exact w.elim
theorem cH {F:Fx}{g:Int→Int→V}{g':Int→Int→D}(hg:∀ i j Z,Rep F.K F.C Z (g' i j) (g i j)):OpD F (rI0 g) (dI0 g'):=by
 intro H Z x y dx dy Q s rx ry w
 cases dx with
 | int i =>
  cases dy with
  | int j =>
   rw[Rep]at rx
   rw[Rep]at ry
   subst rx;subst ry
   exact⟨i,j,rfl,rfl,WG.now w s _ (hg i j Z)⟩
  | _=>exact w.elim
 | _=>exact w.elim
def cMul (i j:Int):Bool:=(decide (-(2^64) < i)&&decide (i < 2^64))||(decide (-(2^64) < j)&&decide (j < 2^64))
def cDiv (i j:Int):Bool:=decide (0 < j)&&decide (j < 1073741824)
theorem ui (i j:Int)(h:cMul i j=true):CMul i j:=by
 unfold cMul at h
 simp only[Bool.or_eq_true,Bool.and_eq_true,decide_eq_true_eq]at h
 exact h
theorem uj (i j:Int)(h:cDiv i j=true):CDiv i j:=by
 unfold cDiv at h
 simp only[Bool.and_eq_true,decide_eq_true_eq]at h
 exact h
def isInt:D→Bool
 | .int _=>true
 | _=>false
def isTup:D→Bool
 | .tup _=>true
 | _=>false
def isLst:D→Bool
 | .lst _=>true
 | _=>false
def dCatT:D→D→R D
 | .tup xs,.tup ys=>if xs.length+ys.length≤16777216 then .ok (.tup (xs++ys)) else .stuck
 | _,_=>.stuck
def dCatL:D→D→R D
 | .lst xs,.lst ys=>if xs.length+ys.length≤16777216 then .ok (.lst (xs++ys)) else .stuck
 | _,_=>.stuck
def dRepT:D→D→R D
 | .tup xs,.int k=>if 0≤k∧k < 1000000∧xs.length*k.toNat≤16777216 then .ok (.tup (List.replicate k.toNat xs).flatten) else .stuck
 | _,_=>.stuck
def dRepL:D→D→R D
 | .lst xs,.int k=>if 0≤k∧k < 1000000∧xs.length*k.toNat≤16777216 then .ok (.lst (List.replicate k.toNat xs).flatten) else .stuck
 | _,_=>.stuck
def dIx:D→D→R D
 | .tup xs,.int i=>match atI xs i with
  | some d=>.ok d
  | none=>.stuck
 | .lst xs,.int i=>match atI xs i with
  | some d=>.ok d
  | none=>.stuck
 | _,_=>.stuck
theorem Reps.at {K:PySem.W.Frag}{C:Nat→Addr}{Z:Hp}{ds:List D}{vs:List V}{i:Int}{d:D}(r:Reps K C Z ds vs)(h:atI ds i=some d):∃ v,atI vs i=some v∧Rep K C Z d v:=by
 unfold atI at h ⊢
 rw[← r.length]
 cases e:ixN ds.length i with
 | none=>rw[e]at h;cases h
 | some j =>
  rw[e]at h
  exact r.get (i:=j) h
theorem wj {F:Fx}:OpD F (rIx F.K) dIx:=by
 intro H Z x y dx dy Q s rx ry w
 cases dx with
 | tup ds =>
  cases dy with
  | int i =>
   rw[Rep]at rx
   rw[Rep]at ry
   obtain⟨a,vs,rfl,h1,h2⟩:=rx
   subst ry
   unfold dIx at w
   dsimp only at w
   split at w
   ·rename_i d e
    obtain⟨v,e1,r⟩:=h2.at e
    exact .inr (.inl ⟨a,vs,i,v,rfl,rfl,h1.mono s,e1,WG.now w s v r⟩)
   ·exact w.elim
  | _=>exact w.elim
 | lst ds =>
  cases dy with
  | int i =>
   rw[Rep]at rx
   rw[Rep]at ry
   obtain⟨a,vs,rfl,h1,h2⟩:=rx
   subst ry
   unfold dIx at w
   dsimp only at w
   split at w
   ·rename_i d e
    obtain⟨v,e1,r⟩:=h2.at e
    exact .inl ⟨a,vs,i,v,rfl,rfl,s.seq h1,e1,WG.now w s v r⟩
   ·exact w.elim
  | _=>exact w.elim
 | _=>exact w.elim
section
open AutoSeq1 (wpAny_loadPart')
theorem lE (l b:Addr)(items items2:Array Value)(n n2:Nat)(dd dd2:Option Addr)(sl sl2:Array (Option Value))(hc0:items.isEmpty=true) :
  Meets (Builtin.«tuple.__add__» ⟨[.ref l,.ref b],[]⟩) (fun _ R s=>s.heap.get? l=some { cls:=.type "tuple",dict:=dd,data:=.seq items n,slots:=sl }∧s.heap.get? b=some { cls:=.type "tuple",dict:=dd2,data:=.seq items2 n2,slots:=sl2 }∧R (.ok (.ret (.ref b))) s) :=
 .of_wp fun prog w A R s h=>by
  obtain⟨hp,g,d,tk,os⟩:=s;obtain⟨hl,hb,h⟩:=h
  have f2:=AutoSeq1.sub_tuple_tuple
  have f3:=AutoSeq1.sub_list_list
  wp_walk using wpAny_loadPart' hl,wpAny_loadPart' hb
  exact⟨_,rfl,h⟩
end
theorem fc {K:PySem.W.Frag}{C:Nat→Addr}{Z:Hp}{ds:List D}{vs:List V}(r:Reps K C Z ds vs):∀ k:Nat,Reps K C Z (List.replicate k ds).flatten (List.replicate k vs).flatten
 | 0=>Reps.nil
 | k+1=>by
  rw[List.replicate_succ,List.replicate_succ,List.flatten_cons,List.flatten_cons]
  exact r.append (fc r k)
def rCat2 (K:PySem.W.Frag):R2:=fun x y H Q=>∃ a b xs ys,x=.ref a∧y=.ref b∧SqT K H a xs∧SqT K H b ys∧xs.length+ys.length≤sizeLine∧(∀ p,H p=none→Q (.ref p) (upd H p (.tup (xs++ys))))∧(ys=[]→Q (.ref a) H)∧(xs=[]→Q (.ref b) H)
theorem uk {X:Cx}:OpR X (binaryOp .Add) (rCat2 X.K):=by
 intro pins s σ H x y v u Q I rx ry h
 obtain⟨a,b,xs,ys,rfl,rfl,ha,hb,hz,q1,q2,q3⟩:=h
 by_cases hx:xs=[]
 ·cases rx
  cases ry
  obtain⟨its,r1,p1,_⟩:=I.tuple ha
  obtain⟨its2,r2,p2,_⟩:=I.tuple hb
  obtain⟨⟨cls,dd,data,sl⟩,ho,hc,n,hd⟩:=id p1
  obtain⟨⟨cls2,dd2,data2,sl2⟩,ho2,hc2,n2,hd2⟩:=id p2
  simp only at hc hd hc2 hd2
  subst hc hd hc2 hd2
  have he:its=[]:=by
   have:=r1.length
   rw[hx]at this
   exact List.length_eq_zero_iff.mp this.symm
  exact concat_meets ⟨_,ho,rfl⟩ ⟨_,ho2,rfl⟩ noFill_tuple_add seq_tuple_add PySem.F.slot_tuple_add PySem.F.entry_tuple_add (PySem.F.args_tuple_add_2 _ _)
   (lE a b its.toArray its2.toArray n n2 dd dd2 sl sl2 (by simp[he])) ⟨ho,ho2,⟨.ref b,H,I,rfl,q3 hx⟩⟩
 ·exact ue pins s σ H _ _ v u Q I rx ry ⟨a,b,xs,ys,rfl,rfl,ha,hb,hx,hz,q2,fun _=>q1⟩
theorem rm {F:Fx}:OpD F (rCat2 F.K) dCatT:=by
 intro H Z x y dx dy Q s rx ry w
 cases dx with
 | tup ds =>
  cases dy with
  | tup es =>
   rw[Rep]at rx
   rw[Rep]at ry
   obtain⟨a,vs,rfl,h1,h2⟩:=rx
   obtain⟨b,us,rfl,k1,k2⟩:=ry
   unfold dCatT at w
   dsimp only at w
   split at w
   ·rename_i hl
    refine⟨a,b,vs,us,rfl,rfl,h1.mono s,k1.mono s,by rw[← h2.length,← k2.length,sizeLine_eq];exact hl,fun p hp=>?_,fun e=>?_,fun e=>?_⟩
    ·have z:Same Z (upd Z p (.tup (vs++us))):=aw (s.free hp)
     exact w _ _ (Ex.alloc s hp) _ (by rw[Rep];exact⟨p,_,rfl,SqT.of ak,(h2.append k2).mono z⟩)
    ·have:es=[]:=List.length_eq_zero_iff.mp (by rw[k2.length,e];rfl)
     subst this
     exact WG.now w s _ (by rw[List.append_nil,Rep];exact⟨a,vs,rfl,h1,h2⟩)
    ·have:ds=[]:=List.length_eq_zero_iff.mp (by rw[h2.length,e];rfl)
     subst this
     exact WG.now w s _ (by rw[List.nil_append,Rep];exact⟨b,us,rfl,k1,k2⟩)
   ·exact w.elim
  | _=>exact w.elim
 | _=>exact w.elim
def rRepT (K:PySem.W.Frag):R2:=fun x y H Q=>∃ a k xs,x=.ref a∧y=.int k∧SqT K H a xs∧0≤k∧k < 1000000∧xs.length*k.toNat≤sizeLine∧(∀ p,H p=none→Q (.ref p) (upd H p (.tup (List.replicate k.toNat xs).flatten)))∧((List.replicate k.toNat xs).flatten=xs→Q (.ref a) H)
theorem ul {X:Cx}:OpR X (binaryOp .Mult) (rRepT X.K):=by
 intro pins s σ H x y v u Q I rx ry h
 obtain⟨a,k,xs,rfl,rfl,ha,h0,h1,hz,q1,q2⟩:=h
 cases rx
 obtain⟨t,rfl⟩:=ry
 obtain⟨its,r,p1,_⟩:=I.tuple ha
 have hl:=r.length
 obtain⟨⟨cls,dd,data,sl⟩,ho,hc,n,hd⟩:=id p1
 simp only at hc hd
 subst hc hd
 refine wpAny_binaryOp_repeat_ref (T := "tuple") (U := "int") (by decide) ⟨_,ho,rfl⟩ (fun s'=>typeIs_int s' k t) fR PySem.F.fills_int_mul PySem.F.slot_int_rmul ku PySem.F.slot_int_index.lookup
  (call_meets PySem.F.slot_int_rmul (typeIs_int s k t) PySem.F.entry_int_rmul (PySem.F.args_int_rmul_2 _ _) (ic k t a its.toArray n dd sl) ⟨ho,rfl,⟨_,ho,rfl⟩,?_⟩)
 cases its with
 | nil =>
  have hx:xs=[]:=List.length_eq_zero_iff.mp hl
  have e:(List.replicate k.toNat xs).flatten=xs:=by rw[hx];simp
  exact call_meets PySem.F.slot_tuple_mul ⟨_,ho,rfl⟩ PySem.F.entry_tuple_mul (PySem.F.args_tuple_mul_2 _ _) (jk a n k t dd sl h0 h1) ⟨ho,⟨.ref a,H,I,rfl,q2 e⟩⟩
 | cons it its' =>
  have hne:(it::its').toArray.isEmpty=false:=by simp
  by_cases k1:k=1
  ·subst k1
   have e:(List.replicate (1:Int).toNat xs).flatten=xs:=by simp
   exact call_meets PySem.F.slot_tuple_mul ⟨_,ho,rfl⟩ PySem.F.entry_tuple_mul (PySem.F.args_tuple_mul_2 _ _) (jj a _ n t dd sl) ⟨ho,⟨.ref a,H,I,rfl,q2 e⟩⟩
  ·by_cases k0:k=0
   ·subst k0
    refine call_meets PySem.F.slot_tuple_mul ⟨_,ho,rfl⟩ PySem.F.entry_tuple_mul (PySem.F.args_tuple_mul_2 _ _) (ig a _ n t dd sl hne) ⟨ho,?_⟩
    refine⟨.ref s.heap.objs.size,_,I.laid (t':=s.toks) (o:=.tup []) (fun b ob q=>Heap.get?_push_of_some _ q) (Nat.le_refl _) ?_,rfl,q1 _ (I.hok.fresh (Nat.le_refl _))⟩
    exact⟨Nat.zero_le _,[],.nil,TupO.new _ _⟩
   ·refine call_meets PySem.F.slot_tuple_mul ⟨_,ho,rfl⟩ PySem.F.entry_tuple_mul (PySem.F.args_tuple_mul_2 _ _) (ji a _ n k t dd sl (by omega) h1 (by rw[List.size_toArray,← hl];exact hz) hne) ⟨ho,?_⟩
    have ef:=fQ (it::its') k.toNat []
    rw[List.nil_append]at ef
    have ef':List.foldl (fun x1 x2=>x1++x2) #[] (List.replicate k.toNat (it::its').toArray)=(List.replicate k.toNat (it::its')).flatten.toArray:=ef
    rw[ef']
    refine⟨.ref s.heap.objs.size,_,I.laid (t':=s.toks) (o:=.tup (List.replicate k.toNat xs).flatten) (fun b ob q=>Heap.get?_push_of_some _ q) (Nat.le_refl _) ?_,rfl,q1 _ (I.hok.fresh (Nat.le_refl _))⟩
    exact⟨by rw[oa,Nat.mul_comm];exact hz,_,r.rep k.toNat,TupO.new _ _⟩
theorem rq {F:Fx}:OpD F (rRepT F.K) dRepT:=by
 intro H Z x y dx dy Q s rx ry w
 cases dx with
 | tup ds =>
  cases dy with
  | int k =>
   rw[Rep]at rx
   rw[Rep]at ry
   obtain⟨a,vs,rfl,h1,h2⟩:=rx
   subst ry
   unfold dRepT at w
   dsimp only at w
   split at w
   ·rename_i hk
    refine⟨a,k,vs,rfl,rfl,h1.mono s,hk.1,hk.2.1,by rw[← h2.length,sizeLine_eq];exact hk.2.2,fun p hp=>?_,fun e=>?_⟩
    ·have z:Same Z (upd Z p (.tup (List.replicate k.toNat vs).flatten)):=aw (s.free hp)
     exact w _ _ (Ex.alloc s hp) _ (by rw[Rep];exact⟨p,_,rfl,SqT.of ak,(fc h2 k.toNat).mono z⟩)
    ·refine WG.now w s _ ?_
     rw[Rep]
     exact⟨a,vs,rfl,h1,by have:=fc h2 k.toNat;rw[e]at this;exact this⟩
   ·exact w.elim
  | _=>exact w.elim
 | _=>exact w.elim
theorem rz {F:Fx}:OpD F (fun x y H Q=>∃ a b xs ys,x=.ref a∧y=.ref b∧SqL F.K H a xs∧SqL F.K H b ys∧xs.length+ys.length≤sizeLine∧∀ p,H p=none→Q (.ref p) (upd H p (.lst (xs++ys)))) dCatL:=by
 intro H Z x y dx dy Q s rx ry w
 cases dx with
 | lst ds =>
  cases dy with
  | lst es =>
   rw[Rep]at rx
   rw[Rep]at ry
   obtain⟨a,vs,rfl,h1,h2⟩:=rx
   obtain⟨b,us,rfl,k1,k2⟩:=ry
   unfold dCatL at w
   dsimp only at w
   split at w
   ·rename_i hl
    refine⟨a,b,vs,us,rfl,rfl,s.seq h1,s.seq k1,by rw[← h2.length,← k2.length,sizeLine_eq];exact hl,fun p hp=>?_⟩
    have z:Same Z (upd Z p (.lst (vs++us))):=aw (s.free hp)
    exact w _ _ (Ex.alloc s hp) _ (by rw[Rep];exact⟨p,_,rfl,SqL.of ak,(h2.append k2).mono z⟩)
   ·exact w.elim
  | _=>exact w.elim
 | _=>exact w.elim
theorem rA {X:Cx}:OpR X (binaryOp .Add) (fun x y H Q=>∃ a b xs ys,x=.ref a∧y=.ref b∧SqL X.K H a xs∧SqL X.K H b ys∧xs.length+ys.length≤sizeLine∧∀ p,H p=none→Q (.ref p) (upd H p (.lst (xs++ys)))):=by
 intro pins s σ H x y v u Q I rx ry h
 obtain⟨a,b,xs,ys,rfl,rfl,ha,hb,hz,q⟩:=h
 cases rx
 cases ry
 obtain⟨its,r,⟨o,n,e,c1,c2,c3⟩,_⟩:=I.list ha
 obtain⟨its2,r2,⟨o2,n2,e2,d1,d2,d3⟩,_⟩:=I.list hb
 have l1:=r.length
 have l2:=r2.length
 obtain⟨cls,dd,data,sl⟩:=o
 obtain⟨cls2,dd2,data2,sl2⟩:=o2
 simp only at c1 c3 d1 d3
 subst c1 c3 d1 d3
 refine concat_meets ⟨_,e,rfl⟩ ⟨_,e2,rfl⟩ noFill_list_add seq_list_add PySem.F.slot_list_add PySem.F.entry_list_add (PySem.F.args_list_add_2 _ _) (ph a b its.toArray its2.toArray n n2 dd dd2 sl sl2 (by rw[List.size_toArray,List.size_toArray];omega)) ⟨e,e2,?_⟩
 have ea:its.toArray++its2.toArray=(its++its2).toArray:=by simp
 rw[ea]
 exact⟨.ref _,_,I.lnew (t':=s.toks) (r.append r2) (by rw[List.length_append];omega),rfl,q _ I.fresh⟩
def rRepL (K:PySem.W.Frag):R2:=fun x y H Q=>∃ a k xs,x=.ref a∧y=.int k∧SqL K H a xs∧0≤k∧k < 1000000∧xs.length*k.toNat≤sizeLine∧∀ p,H p=none→Q (.ref p) (upd H p (.lst (List.replicate k.toNat xs).flatten))
theorem um {X:Cx}:OpR X (binaryOp .Mult) (rRepL X.K):=by
 intro pins s σ H x y v u Q I rx ry h
 obtain⟨a,k,xs,rfl,rfl,ha,h0,h1,hz,q⟩:=h
 cases rx
 obtain⟨t,rfl⟩:=ry
 obtain⟨its,r,⟨o,n,e,c1,c2,c3⟩,_⟩:=I.list ha
 have hl:=r.length
 obtain⟨cls,dd,data,sl⟩:=o
 simp only at c1 c3
 subst c1 c3
 refine wpAny_binaryOp_repeat_ref (T := "list") (U := "int") (by decide) ⟨_,e,rfl⟩ (fun s'=>typeIs_int s' k t) noFill_list_mul PySem.F.fills_int_mul PySem.F.slot_int_rmul repeat_list PySem.F.slot_int_index.lookup
  (call_meets PySem.F.slot_int_rmul (typeIs_int s k t) PySem.F.entry_int_rmul (PySem.F.args_int_rmul_2 _ _) (jl k t a its.toArray n dd sl) ⟨e,rfl,⟨_,e,rfl⟩,
   call_meets PySem.F.slot_list_mul ⟨_,e,rfl⟩ PySem.F.entry_list_mul (PySem.F.args_list_mul_2 _ _) (pi a its.toArray n k t dd sl (by omega) (by omega) (by rw[List.size_toArray,← hl];exact hz)) ⟨e,?_⟩⟩)
 have hnew:List.foldl (fun x1 x2=>x1++x2) #[] (List.replicate (if its.toArray.isEmpty=true then 0 else k.toNat) its.toArray)=(List.replicate k.toNat its).flatten.toArray:=by
  have f0:∀ m:Nat,List.foldl (fun x1 x2=>x1++x2) #[] (List.replicate m its.toArray)=(List.replicate m its).flatten.toArray:=fun m=>by
   have:=fQ its m []
   rwa [List.nil_append]at this
  rw[f0]
  cases its with
  | nil=>simp
  | cons a r'=>rw[if_neg (by simp)]
 rw[hnew]
 exact⟨.ref _,_,I.lnew (t':=s.toks) (r.rep k.toNat) (by rw[oa,Nat.mul_comm];exact hz),rfl,q _ I.fresh⟩
theorem rB {F:Fx}:OpD F (rRepL F.K) dRepL:=by
 intro H Z x y dx dy Q s rx ry w
 cases dx with
 | lst ds =>
  cases dy with
  | int k =>
   rw[Rep]at rx
   rw[Rep]at ry
   obtain⟨a,vs,rfl,h1,h2⟩:=rx
   subst ry
   unfold dRepL at w
   dsimp only at w
   split at w
   ·rename_i hk
    refine⟨a,k,vs,rfl,rfl,s.seq h1,hk.1,hk.2.1,by rw[← h2.length,sizeLine_eq];exact hk.2.2,fun p hp=>?_⟩
    have z:Same Z (upd Z p (.lst (List.replicate k.toNat vs).flatten)):=aw (s.free hp)
    exact w _ _ (Ex.alloc s hp) _ (by rw[Rep];exact⟨p,_,rfl,SqL.of ak,(fc h2 k.toNat).mono z⟩)
   ·exact w.elim
  | _=>exact w.elim
 | _=>exact w.elim
mutual
def eqD:D→D→Bool
 | .non,.non=>true
 | .bl a,.bl b=>a==b
 | .bl a,.int b=>(if a then 1 else 0)==b
 | .int a,.bl b=>a==(if b then 1 else 0)
 | .int a,.int b=>a==b
 | .str a,.str b=>a==b
 | .tup xs,.tup ys=>eqDs xs ys
 | .lst xs,.lst ys=>eqDs xs ys
 | _,_=>false
def eqDs:List D→List D→Bool
 | [],[]=>true
 | x::xs,y::ys=>eqD x y&&eqDs xs ys
 | _,_=>false
end
mutual
def good:Nat→D→Bool
 | _,.exc _=>false
 | _,.fn _=>false
 | 0,.tup _=>false
 | 0,.lst _=>false
 | n+1,.tup xs=>goods n xs
 | n+1,.lst xs=>goods n xs
 | _,_=>true
def goods:Nat→List D→Bool
 | _,[]=>true
 | n,x::xs=>good n x&&goods n xs
end
end FF
end
noncomputable section
namespace FF
open PySem PySem.Spec PyProof.Rows L2
mutual
theorem dm:∀ (n:Nat) (d:D),good n d=true→eqD d d=true
 | n,.non,_=>by simp[eqD]
 | n,.bl b,_=>by simp[eqD]
 | n,.int i,_=>by simp[eqD]
 | n,.str x,_=>by simp[eqD]
 | 0,.tup xs,h=>by simp[good]at h
 | 0,.lst xs,h=>by simp[good]at h
 | n+1,.tup xs,h=>by rw[good]at h;rw[eqD];exact fU n xs h
 | n+1,.lst xs,h=>by rw[good]at h;rw[eqD];exact fU n xs h
 | n,.exc k,h=>by cases n<;>simp[good]at h
 | n,.fn k,h=>by cases n<;>simp[good]at h
theorem fU:∀ (n:Nat) (ds:List D),goods n ds=true→eqDs ds ds=true
 | n,[],_=>by simp[eqDs]
 | n,d::ds,h=>by
  rw[goods,Bool.and_eq_true]at h
  rw[eqDs,dm n d h.1,fU n ds h.2]
  rfl
end
theorem aE {n:Nat}:∀ {ds:List D} {i:Nat} {d:D},goods n ds=true→ds[i]?=some d→good n d=true
 | [],_,_,_,e=>by simp at e
 | x::xs,0,d,h,e=>by
  rw[goods,Bool.and_eq_true]at h
  simp at e;subst e;exact h.1
 | x::xs,i+1,d,h,e=>by
  rw[goods,Bool.and_eq_true]at h
  exact aE h.2 (by simpa using e)
theorem bU:∀ (ds es:List D),eqDs ds es=((List.range (min ds.length es.length)).all (fun j=>eqD (ds.getD j .non) (es.getD j .non))&&ds.length==es.length)
 | [],[]=>by simp[eqDs]
 | [],e::es=>by simp[eqDs]
 | d::ds,[]=>by simp[eqDs]
 | d::ds,e::es=>by
  rw[eqDs,bU ds es]
  have h1:min (d::ds).length (e::es).length=min ds.length es.length+1:=by simp only[List.length_cons];omega
  rw[h1,List.range_succ_eq_map,List.all_cons,List.all_map]
  have h2:((d::ds).length==(e::es).length)=(ds.length==es.length):=by simp
  rw[h2]
  simp only[List.getD_cons_zero,Bool.and_assoc]
  rfl
section
variable {X:Cx}{F:Fx}{pins:List (Addr×Obj)}{σ:St}{H Z:Hp}{s:Shared}
theorem jL {a:Addr}{xs ys:List V}(I:Inv X pins σ H s)(h:SqL X.K H a xs)(h':SqT X.K H a ys):False:=by
 obtain⟨its,r,p,_⟩:=I.list h
 obtain⟨its',r',p',_⟩:=I.tuple h'
 exact SeqAt.ne_of_list_tuple p.isList (show s.heap.IsTuple a its'.toArray from p') rfl
mutual
theorem g9 {K:PySem.W.Frag}{C:Nat→Addr}(hK:X.K=K)(I:Inv X pins σ H s)(z:Same Z H):∀ (n:Nat) (d e:D) (v:V),good n d=true→good n e=true→Rep K C Z d v→Rep K C Z e v→d=e
 | n,.non,e,v,g1,g2,h,h'=>by rw[Rep]at h;subst h;cases e<;>rw[Rep]at h'<;>first | rfl | (obtain⟨_,_,q,_⟩:=h';cases q;done) | (obtain⟨_,q,_⟩:=h';cases q;done) | (cases h';done)
 | n,.bl b,e,v,g1,g2,h,h'=>by rw[Rep]at h;subst h;cases e<;>rw[Rep]at h'<;>first | (cases h';rfl) | (obtain⟨_,_,q,_⟩:=h';cases q;done) | (obtain⟨_,q,_⟩:=h';cases q;done) | (cases h';done)
 | n,.int b,e,v,g1,g2,h,h'=>by rw[Rep]at h;subst h;cases e<;>rw[Rep]at h'<;>first | (cases h';rfl) | (obtain⟨_,_,q,_⟩:=h';cases q;done) | (obtain⟨_,q,_⟩:=h';cases q;done) | (cases h';done)
 | n,.str b,e,v,g1,g2,h,h'=>by rw[Rep]at h;subst h;cases e<;>rw[Rep]at h'<;>first | (cases h';rfl) | (obtain⟨_,_,q,_⟩:=h';cases q;done) | (obtain⟨_,q,_⟩:=h';cases q;done) | (cases h';done)
 | 0,.tup xs,e,v,g1,g2,h,h'=>by simp[good]at g1
 | 0,.lst xs,e,v,g1,g2,h,h'=>by simp[good]at g1
 | n,.exc k,e,v,g1,g2,h,h'=>by cases n<;>simp[good]at g1
 | n,.fn k,e,v,g1,g2,h,h'=>by cases n<;>simp[good]at g1
 | n+1,.tup ds,e,v,g1,g2,h,h'=>by
  rw[Rep]at h
  obtain⟨a,vs,rfl,h1,h2⟩:=h
  cases e with
  | tup es =>
   rw[Rep]at h'
   obtain⟨b,us,q,k1,k2⟩:=h'
   cases q
   have e1:vs=us:=I.tuple_inj (by rw[hK];exact h1.mono z) (by rw[hK];exact k1.mono z)
   subst e1
   rw[good]at g1 g2
   rw[ij hK I z n ds es vs g1 g2 h2 k2]
  | lst es =>
   rw[Rep]at h'
   obtain⟨b,us,q,k1,k2⟩:=h'
   cases q
   exact(jL I (by rw[hK];exact z.seq k1) (by rw[hK];exact h1.mono z)).elim
  | exc k=>simp[good]at g2
  | fn k=>simp[good]at g2
  | _=>rw[Rep]at h';cases h'
 | n+1,.lst ds,e,v,g1,g2,h,h'=>by
  rw[Rep]at h
  obtain⟨a,vs,rfl,h1,h2⟩:=h
  cases e with
  | lst es =>
   rw[Rep]at h'
   obtain⟨b,us,q,k1,k2⟩:=h'
   cases q
   have e1:vs=us:=I.list_inj (by rw[hK];exact z.seq h1) (by rw[hK];exact z.seq k1)
   subst e1
   rw[good]at g1 g2
   rw[ij hK I z n ds es vs g1 g2 h2 k2]
  | tup es =>
   rw[Rep]at h'
   obtain⟨b,us,q,k1,k2⟩:=h'
   cases q
   exact(jL I (by rw[hK];exact z.seq h1) (by rw[hK];exact k1.mono z)).elim
  | exc k=>simp[good]at g2
  | fn k=>simp[good]at g2
  | _=>rw[Rep]at h';cases h'
theorem ij {K:PySem.W.Frag}{C:Nat→Addr}(hK:X.K=K)(I:Inv X pins σ H s)(z:Same Z H):∀ (n:Nat) (ds es:List D) (vs:List V),goods n ds=true→goods n es=true→Reps K C Z ds vs→Reps K C Z es vs→ds=es
 | n,[],es,vs,g1,g2,h,h'=>by
  rw[Reps]at h;subst h
  cases es with
  | nil=>rfl
  | cons e es=>rw[Reps]at h';obtain⟨_,_,q,_⟩:=h';cases q
 | n,d::ds,es,vs,g1,g2,h,h'=>by
  rw[Reps]at h
  obtain⟨v,r,rfl,h1,h2⟩:=h
  cases es with
  | nil=>rw[Reps]at h';cases h'
  | cons e es =>
   obtain⟨k1,k2⟩:=h'.uncons
   rw[goods,Bool.and_eq_true]at g1 g2
   rw[g9 hK I z n d e v g1.1 g2.1 h1 k1,ij hK I z n ds es r g1.2 g2.2 h2 k2]
end
def flatD:D→Bool
 | .non=>true
 | .bl _=>true
 | .int _=>true
 | .str _=>true
 | _=>false
theorem fe {K:PySem.W.Frag}{C:Nat→Addr}{d:D}{v:V}(f:flatD d=true)(h:Rep K C Z d v):flatV v=true:=by
 cases d<;>first | (rw[Rep]at h;subst h;rfl) | simp[flatD]at f
theorem lF {K:PySem.W.Frag}{C:Nat→Addr}{d e:D}{v u:V}(f1:flatD d=true)(f2:flatD e=true)(h:Rep K C Z d v)(h':Rep K C Z e u):eqV v u=eqD d e:=by
 cases d<;>first | (simp[flatD]at f1;done) | (cases e<;>first | (simp[flatD]at f2;done) | (rw[Rep]at h;rw[Rep]at h';subst h;subst h';simp[eqV,eqD]))
set_option maxHeartbeats 4000000 in
theorem fV {K:PySem.W.Frag}{C:Nat→Addr}(hK:X.K=K)(I:Inv X pins σ H s)(z:Same Z H):∀ (n:Nat) (A:Around) (d e:D) (v u:V) (x y:Value),good n d=true→good n e=true→Rep K C Z d v→Rep K C Z e u→RelV v x→RelV u y→A.units+n < cLine→SeqAt.EqAt A s x y (eqD d e):=by
 intro n
 induction n with
 | zero =>
  intro A d e v u x y g1 g2 h h' rx ry hu
  have f1:flatD d=true:=by cases d<;>first | rfl | simp[good]at g1
  have f2:flatD e=true:=by cases e<;>first | rfl | simp[good]at g2
  rw[← lF f1 f2 h h']
  exact q9 rx ry (fe f1 h) (fe f2 h')
 | succ n ih =>
  intro A d e v u x y g1 g2 h h' rx ry hu
  have hu0:A.units < cLine:=by omega
  have in1:A.in1.units+n < cLine:=by show A.units+1+n < cLine;omega
  by_cases f1:flatD d=true
  ·by_cases f2:flatD e=true
   ·rw[← lF f1 f2 h h']
    exact q9 rx ry (fe f1 h) (fe f2 h')
   ·cases e with
    | tup es =>
     rw[Rep]at h'
     obtain⟨b,us,rfl,k1,k2⟩:=h'
     cases ry
     obtain⟨its,_,p,_⟩:=I.tuple (by rw[hK];exact k1.mono z:SqT X.K H b us)
     have p':s.heap.IsTuple b its.toArray:=p
     cases d<;>first | (simp[flatD]at f1;done) | (rw[Rep]at h;subst h;simp only[eqD];first | (cases rx;first | exact SeqAt.EqAt.none_tuple p' hu0 | exact SeqAt.EqAt.bool_tuple _ p' hu0) | (obtain⟨t,rfl⟩:=rx;first | exact SeqAt.EqAt.int_tuple _ _ p' hu0 | exact SeqAt.EqAt.str_tuple _ _ p' hu0))
    | lst es =>
     rw[Rep]at h'
     obtain⟨b,us,rfl,k1,k2⟩:=h'
     cases ry
     obtain⟨its,_,p,_⟩:=I.list (by rw[hK];exact z.seq k1:SqL X.K H b us)
     have p':=p.isList
     cases d<;>first | (simp[flatD]at f1;done) | (rw[Rep]at h;subst h;simp only[eqD];first | (cases rx;first | exact SeqAt.EqAt.none_list p' hu0 | exact SeqAt.EqAt.bool_list _ p' hu0) | (obtain⟨t,rfl⟩:=rx;first | exact SeqAt.EqAt.int_list _ _ p' hu0 | exact SeqAt.EqAt.str_list _ _ p' hu0))
    | exc k=>simp[good]at g2
    | fn k=>simp[good]at g2
    | _=>simp[flatD]at f2
  ·cases d with
   | tup ds =>
    have hh:=h
    rw[Rep]at h
    obtain⟨a,vs,rfl,h1,h2⟩:=h
    cases rx
    obtain⟨its,r,p,_⟩:=I.tuple (by rw[hK];exact h1.mono z:SqT X.K H a vs)
    have p':s.heap.IsTuple a its.toArray:=p
    cases e with
    | tup es =>
     have hh':=h'
     rw[Rep]at h'
     obtain⟨b,us,rfl,k1,k2⟩:=h'
     cases ry
     by_cases hab:a=b
     ·subst hab
      have:=g9 hK I z (n+1) _ _ _ g1 g2 hh hh'
      rw[← this,dm (n+1) _ g1]
      exact SeqAt.EqAt.same _
     ·obtain⟨its2,r2,p2,_⟩:=I.tuple (by rw[hK];exact k1.mono z:SqT X.K H b us)
      have p2':s.heap.IsTuple b its2.toArray:=p2
      rw[good]at g1 g2
      have q:=SeqAt.RcAt.tuples (A:=A) (e:=fun j=>eqD (ds.getD j .non) (es.getD j .non)) p' p2' hu0 fun j j1 j2=>by
       have j1':j < its.length:=by simpa using j1
       have j2':j < its2.length:=by simpa using j2
       have l1:j < ds.length:=by rw[h2.length,r.length];exact j1'
       have l2:j < es.length:=by rw[k2.length,r2.length];exact j2'
       have e1:ds[j]?=some ds[j]:=by simp
       have e2:es[j]?=some es[j]:=by simp
       obtain⟨w1,f1,f2⟩:=h2.get e1
       obtain⟨w2,f3,f4⟩:=k2.get e2
       obtain⟨z1,m1,m2⟩:=r.get f1
       obtain⟨z2,m3,m4⟩:=r2.get f3
       have n1:its.toArray[j]=z1:=by simpa [j1'] using m1
       have n2:its2.toArray[j]=z2:=by simpa [j2'] using m3
       rw[n1,n2]
       have g3:ds.getD j .non=ds[j]:=by simp[l1]
       have g4:es.getD j .non=es[j]:=by simp[l2]
       rw[g3,g4]
       exact ih A.in1 _ _ w1 w2 z1 z2 (aE g1 e1) (aE g2 e2) f2 f4 m2 m4 in1
      rw[eqD,bU]
      have s1:its.toArray.size=ds.length:=by rw[List.size_toArray,h2.length,r.length]
      have s2:its2.toArray.size=es.length:=by rw[List.size_toArray,k2.length,r2.length]
      rw[s1,s2]at q
      exact SeqAt.EqAt.of_refs hab q
    | lst es =>
     rw[Rep]at h'
     obtain⟨b,us,rfl,k1,k2⟩:=h'
     cases ry
     obtain⟨its2,r2,p2,_⟩:=I.list (by rw[hK];exact z.seq k1:SqL X.K H b us)
     simp only[eqD]
     exact SeqAt.EqAt.tuple_list p' p2.isList hu0
    | exc k=>simp[good]at g2
    | fn k=>simp[good]at g2
    | _=>rw[Rep]at h';subst h';simp only[eqD];first | (cases ry;first | exact SeqAt.EqAt.tuple_none p' hu0 | exact SeqAt.EqAt.tuple_bool _ p' hu0) | (obtain⟨t,rfl⟩:=ry;first | exact SeqAt.EqAt.tuple_int _ _ p' hu0 | exact SeqAt.EqAt.tuple_str _ _ p' hu0)
   | lst ds =>
    have hh:=h
    rw[Rep]at h
    obtain⟨a,vs,rfl,h1,h2⟩:=h
    cases rx
    obtain⟨its,r,p,_⟩:=I.list (by rw[hK];exact z.seq h1:SqL X.K H a vs)
    have p':=p.isList
    cases e with
    | lst es =>
     have hh':=h'
     rw[Rep]at h'
     obtain⟨b,us,rfl,k1,k2⟩:=h'
     cases ry
     by_cases hab:a=b
     ·subst hab
      have:=g9 hK I z (n+1) _ _ _ g1 g2 hh hh'
      rw[← this,dm (n+1) _ g1]
      exact SeqAt.EqAt.same _
     ·obtain⟨its2,r2,p2,_⟩:=I.list (by rw[hK];exact z.seq k1:SqL X.K H b us)
      have p2':=p2.isList
      rw[good]at g1 g2
      have s1:its.toArray.size=ds.length:=by rw[List.size_toArray,h2.length,r.length]
      have s2:its2.toArray.size=es.length:=by rw[List.size_toArray,k2.length,r2.length]
      rw[eqD,bU]
      by_cases hsz:ds.length=es.length
      ·have q:=SeqAt.RcAt.lists (A:=A) (e:=fun j=>eqD (ds.getD j .non) (es.getD j .non)) p' p2' (by rw[s1,s2];exact hsz) hu0 fun j j1 j2=>by
        have j1':j < its.length:=by simpa using j1
        have j2':j < its2.length:=by simpa using j2
        have l1:j < ds.length:=by rw[h2.length,r.length];exact j1'
        have l2:j < es.length:=by rw[k2.length,r2.length];exact j2'
        have e1:ds[j]?=some ds[j]:=by simp
        have e2:es[j]?=some es[j]:=by simp
        obtain⟨w1,f1,f2⟩:=h2.get e1
        obtain⟨w2,f3,f4⟩:=k2.get e2
        obtain⟨z1,m1,m2⟩:=r.get f1
        obtain⟨z2,m3,m4⟩:=r2.get f3
        have n1:its.toArray[j]=z1:=by simpa [j1'] using m1
        have n2:its2.toArray[j]=z2:=by simpa [j2'] using m3
        rw[n1,n2]
        have g3:ds.getD j .non=ds[j]:=by simp[l1]
        have g4:es.getD j .non=es[j]:=by simp[l2]
        rw[g3,g4]
        exact ih A.in1 _ _ w1 w2 z1 z2 (aE g1 e1) (aE g2 e2) f2 f4 m2 m4 in1
       rw[s1]at q
       rw[hsz,Nat.min_self,beq_self_eq_true,Bool.and_true,← hsz]
       exact SeqAt.EqAt.of_refs hab q
      ·have q:=SeqAt.RcAt.lists_lengths (A:=A) p' p2' (by rw[s1,s2];simpa using hsz) hu0
       rw[show (ds.length==es.length)=false by simpa using hsz,Bool.and_false]
       exact SeqAt.EqAt.of_refs hab q
    | tup es =>
     rw[Rep]at h'
     obtain⟨b,us,rfl,k1,k2⟩:=h'
     cases ry
     obtain⟨its2,r2,p2,_⟩:=I.tuple (by rw[hK];exact k1.mono z:SqT X.K H b us)
     simp only[eqD]
     exact SeqAt.EqAt.list_tuple p' (show s.heap.IsTuple b its2.toArray from p2) hu0
    | exc k=>simp[good]at g2
    | fn k=>simp[good]at g2
    | _=>rw[Rep]at h';subst h';simp only[eqD];first | (cases ry;first | exact SeqAt.EqAt.list_none p' hu0 | exact SeqAt.EqAt.list_bool _ p' hu0) | (obtain⟨t,rfl⟩:=ry;first | exact SeqAt.EqAt.list_int _ _ p' hu0 | exact SeqAt.EqAt.list_str _ _ p' hu0)
   | exc k=>simp[good]at g1
   | fn k=>simp[good]at g1
   | _=>simp[flatD]at f1
end
end FF
end
noncomputable section
namespace FF
open PySem PySem.Spec PyProof.Rows L2
theorem objThere {P:Program}{w:World}{H:Hp}{h:Heap}{a:Addr}{o:HO}(x:ObjOk P w H h a o):∃ ob,h.get? a=some ob:=by
 cases o with
 | lst xs=>obtain⟨_,_,_,_,e⟩:=x;exact⟨_,e⟩
 | tup xs=>obtain⟨_,_,_,o,e,_⟩:=x;exact⟨o,e⟩
 | dK kvs=>obtain⟨_,_,_,_,o,_,_,e,_⟩:=x;exact⟨o,e⟩
 | dT kvs=>obtain⟨_,_,_,_,o,_,_,e,_⟩:=x;exact⟨o,e⟩
 | set S n=>obtain⟨o,_,_,_,e,_⟩:=x;exact⟨o,e⟩
 | ins C dx fs=>obtain⟨_,_,_,e,_⟩:=x;exact⟨_,e⟩
 | own y=>exact x
 | xd fs=>obtain⟨_,⟨o,_,_,e,_⟩,_⟩:=x;exact⟨o,e⟩
 | rng lo hi=>obtain⟨_,_,_,e⟩:=x;exact⟨_,e⟩
 | frz ob u=>obtain⟨e,_⟩:=x;exact⟨_,e⟩
 | tbl ps=>exact⟨_,(show h.get? a=some _ from x)⟩
 | met f y=>exact⟨_,(show h.get? a=some _ from x)⟩
 | ext φ=>obtain⟨_,e,_⟩:=x;exact e
def Cov (B:Heap)(h h':Heap)(H':Hp)(l:List Env):Prop:=∀ b o,h'.get? b=some o→(H' b≠none∨∃ o',h.get? b=some o')→b∉frs l→B.get? b=some o
def CXE (P:Program)(w:World):CXT:=fun outer H s E e s' =>
 ∃ (ea C t:Addr) (H':Hp) (B:Heap),e=.ref ea∧s'.os=s.os∧AllBare s'.gens∧Un (frs outer) [] H H' s.heap s'.heap∧HOk P w H' s'.heap ∧
  Heap.FlyingW B outer ea (.ref C) (.ref t) s'.heap∧H' ea=none∧Cov B s.heap s'.heap H' outer∧E (.ref C) none H'
section
variable {X:Cx}{pins:List (Addr×Obj)}{σ:St}{H H':Hp}{s s':Shared}{B:Heap}
end
section
variable {P:Program}{w:World}{K:PySem.W.Frag}{mg:Str→Option Value}{base:Heap}{N:List Str}{qual:Str}{scope:Scope}{f:Addr}{cd:Value}{A:Around}{outer:List Env}{s0:Shared}{H0:Hp}{E:XK}
abbrev bodyX (P:Program)(w:World)(K:PySem.W.Frag)(mg:Str→Option Value)(base:Heap)(N:List Str)(qual:Str)(scope:Scope)(f:Addr)(cd:Value)(A:Around)(outer:List Env)(s0:Shared)(H0:Hp)(E:XK):Cx :=
 cxOf (CXE P w) P w K mg base N qual scope f cd A outer s0 H0 E
theorem og {pins:List (Addr×Obj)}{σ:St}{H':Hp}{s':Shared}{B h2:Heap}{ea C t:Addr}(J:Inv (bodyX P w K mg base N qual scope f cd A outer s0 H0 E) pins σ H' s')
  (cov:Cov B s0.heap s'.heap H' (envOfC qual scope s0.heap.objs.size f cd::outer)) (up:s'.heap.UpToSlots h2) (fl:Heap.FlyingW B outer ea (.ref C) (.ref t) h2) (hn:H' ea=none) (hE:E (.ref C) none H') :
  CXE P w outer H0 s0 E (.ref ea) { s' with heap:=h2 }:=by
 have hB:=fl.1
 have nloc:∀ b o,s0.heap.get? b=some o→b≠s0.heap.objs.size:=fun b o e=>Nat.ne_of_lt (Heap.lt_size e)
 have nstk:∀ b,b≠s0.heap.objs.size→b∉frs outer→b∉frs (envOfC qual scope s0.heap.objs.size f cd::outer):=fun b h1 h2 z=>(List.mem_cons.mp (J.stkSub b z)).elim h1 h2
 have trk:∀ b o,s'.heap.get? b=some o→H' b≠none→B.get? b=some o:=fun b o e ht=>cov b o e (.inl ht) fun z=>ht (J.stkFree b z)
 have noe:∀ b:Addr,b∉([]:List Addr):=fun _ z=>nomatch z
 have nf:∀ b∈frs outer,∀ o,s'.heap.get? b=some o→∀ vs,o.data≠.fields vs:=fun b hb o e=>by
  obtain⟨_,o',e',d⟩:=J.funs.mem hb
  rw[e]at e';cases e';exact d
 have thr:∀ b o,s0.heap.get? b=some o→∃ o',s'.heap.get? b=some o'∧(b∉frs outer→B.get? b=some o'):=fun b o e=>by
  obtain⟨o',e1⟩:=J.base.there b o e (noe b)
  exact⟨o',e1,fun hb=>cov b o' e1 (.inr ⟨o,e⟩) (nstk b (nloc b o e) hb)⟩
 refine⟨ea,C,t,H',B,rfl,J.os,J.bare,⟨fun b o e n hb hx=>?_,fun b o e n hb hx=>?_,J.base.free,fun b o e hx=>?_,J.base.tups,J.base.frzs,J.base.tbls⟩,fun b u e=>?_,fl,hn,fun b o e hc hb=>?_,hE⟩
 ·have e1:=J.base.keep b o e n hb hx
  exact hB b o (cov b o e1 (.inr ⟨o,e⟩) (nstk b (nloc b o e) hb))
 ·obtain⟨sl,e1⟩:=J.base.slot b o e n hb hx
  obtain⟨sl',e2⟩:=up b _ e1 (nf b hb _ e1)
  exact⟨sl',e2⟩
 ·obtain⟨o',e1,e2⟩:=thr b o e
  by_cases hb:b∈frs outer
  ·obtain⟨sl',e3⟩:=up b _ e1 (nf b hb _ e1)
   exact⟨_,e3⟩
  ·exact⟨o',hB b o' (e2 hb)⟩
 ·refine(J.hok b u e).stay (fun c v hc q=>hB c v (trk c v q ?_)) (fun _ q=>q) fun _ _ q=>q
  rcases hc with z | z
  ·subst z;rw[e];simp
  ·rw[z];simp
 ·have same:∀ o',s'.heap.get? b=some o'→B.get? b=some o'→B.get? b=some o:=fun o' _ q=>by
   have:=hB b o' q
   have e':h2.get? b=some o:=e
   rw[e']at this;cases this;exact q
  rcases hc with z | ⟨o',z⟩
  ·cases q:H' b with
   | none=>exact absurd q z
   | some u =>
    obtain⟨o',e1⟩:=objThere (J.hok b u q)
    exact same o' e1 (trk b o' e1 (by rw[q];simp))
  ·obtain⟨o'',e1,e2⟩:=thr b o' z
   exact same o'' e1 (e2 hb)
theorem jM:Passes (CXE P w) (bodyX P w K mg base N qual scope f cd A outer s0 H0 E) E:=by
 intro pins σ H s e s' I h
 obtain⟨ea,C,t,H',B,rfl,os,bare,un,hok,fl,hn,cov,hE⟩:=h
 have J:Inv (bodyX P w K mg base N qual scope f cd A outer s0 H0 E) pins σ H' s':=I.call' (ch:=[]) os un hok bare fun b z=>nomatch z
 refine wpAny_leaves_onW I.ok.frames rfl fl fun h2 fl2 up=>?_
 refine og J (fun b o e hc hb=>cov b o e ?_ hb) up fl2 hn hE
 rcases hc with z | ⟨o',z⟩
 ·exact .inl z
 ·obtain⟨o'',z'⟩:=I.base.there b o' z (fun q=>nomatch q)
  exact .inr ⟨o'',z'⟩
theorem pv {pins:List (Addr×Obj)}{σ:St}{H:Hp}{s:Shared}{h1:Heap}{ea C:Addr}{args:List Value}(I:Inv (bodyX P w K mg base N qual scope f cd A outer s0 H0 E) pins σ H s)(hx:Heap.MadeExcOf s.heap h1 ea (.ref C) args)(hE:E (.ref C) none H) :
  (bodyX P w K mg base N qual scope f cd A outer s0 H0 E).xe (.ref ea) { s with heap:=h1 }:=by
 have hin:∀ env∈(envOfC qual scope s0.heap.objs.size f cd::outer),∀ a,env.frame=some a→a∈frs (envOfC qual scope s0.heap.objs.size f cd::outer):=fun env he a ha=>List.mem_filterMap.mpr ⟨env,he,ha⟩
 refine wpAny_leaves_madeW (s:={ s with heap:=h1 }) (base:=PySem.W.hideAll s.heap (frs (envOfC qual scope s0.heap.objs.size f cd::outer))) I.ok.frames rfl (fun b o q=>PySem.W.of_hideAll _ q) (PySem.W.funFrames_hide I.stack hin) hx fun h2 t fl _ _ up=>?_
 have hn:H ea=none:=by
  cases q:H ea with
  | none=>rfl
  | some u =>
   obtain⟨o,e⟩:=objThere (I.hok ea u q)
   rw[hx.new]at e;cases e
 exact og (s':=s) I (fun b o e _ hb=>PySem.W.hideAll_get _ e hb) ((Heap.UpToSlots.of_keeps hx.keeps).trans up) fl hn hE
end
end FF
end
noncomputable section
namespace FF
open PySem PySem.Spec PyProof.Rows L2
def relabN (names:List (Str×NameKind))(env:Env):List (Str×NameKind) :=
 names.map fun (n,k)=>if (k==.free&&env.scope.kind==.function&&env.kindOf n==some .cell) then (n,.cell) else (n,k)
theorem ik {env:Env}:∀ {names:List (Str×NameKind)} {x:Str},names.lookup x=some .free→(relabN names env).lookup x=some .cell∨(relabN names env).lookup x=some .free
 | [],_,h=>by simp at h
 | (n,k)::r,x,h=>by
  have ih:=@ik env r x
  show List.lookup x ((if (k==NameKind.free&&env.scope.kind==.function&&env.kindOf n==some .cell)=true then (n,NameKind.cell) else (n,k))::relabN r env)=_∨List.lookup x ((if (k==NameKind.free&&env.scope.kind==.function&&env.kindOf n==some .cell)=true then (n,NameKind.cell) else (n,k))::relabN r env)=_
  cases hx:x==n with
  | true =>
   simp only[List.lookup_cons,hx]at h
   cases h
   split
   ·exact .inl (by simp[List.lookup_cons,hx])
   ·exact .inr (by simp[List.lookup_cons,hx])
  | false =>
   simp only[List.lookup_cons,hx]at h
   split<;>(simp only[List.lookup_cons,hx];exact ih h)
theorem il {env:Env}:∀ {names:List (Str×NameKind)} {x:Str},((relabN names env).lookup x=some .cell∨(relabN names env).lookup x=some .free)→∃ y∈names,y.1=x∧(y.2=.free∨y.2=.cell)
 | [],_,h=>by simp[relabN]at h
 | (n,k)::r,x,h=>by
  have ih:=@il env r x
  change List.lookup x ((if (k==NameKind.free&&env.scope.kind==.function&&env.kindOf n==some .cell)=true then (n,NameKind.cell) else (n,k))::relabN r env)=_∨List.lookup x ((if (k==NameKind.free&&env.scope.kind==.function&&env.kindOf n==some .cell)=true then (n,NameKind.cell) else (n,k))::relabN r env)=_ at h
  cases hx:x==n with
  | true =>
   have e:x=n:=eq_of_beq hx
   refine⟨(n,k),List.mem_cons_self,e.symm,?_⟩
   by_cases hq:(k==NameKind.free&&env.scope.kind==.function&&env.kindOf n==some .cell)=true
   ·simp only[Bool.and_eq_true,beq_iff_eq]at hq
    exact .inl hq.1.1
   ·rw[if_neg hq]at h
    simp only[List.lookup_cons,hx]at h
    rcases h with h | h
    ·cases h;exact .inr rfl
    ·cases h;exact .inl rfl
  | false =>
   have h':(relabN r env).lookup x=some .cell∨(relabN r env).lookup x=some .free:=by
    by_cases hq:(k==NameKind.free&&env.scope.kind==.function&&env.kindOf n==some .cell)=true
    ·rw[if_pos hq]at h;simpa only[List.lookup_cons,hx] using h
    ·rw[if_neg hq]at h;simpa only[List.lookup_cons,hx] using h
   obtain⟨y,hy,e⟩:=ih h'
   exact⟨y,List.mem_cons_of_mem _ hy,e⟩
theorem aS:∀ (names:List (Str×NameKind)) (n:Nat) (acc:List (Str×Addr)),cellsFrom n names acc=cellsFrom n names []++acc
 | [],_,_=>rfl
 | (name,kind)::r,n,acc=>by
  unfold cellsFrom
  split
  ·rw[aS r (n+1) ((name,n)::acc),aS r (n+1) [(name,n)],List.append_assoc];rfl
  ·exact aS r n acc
theorem fW:∀ (names:List (Str×NameKind)) (n:Nat) {x:Str} {c:Addr},(x,c)∈cellsFrom n names []→(x,NameKind.cell)∈names
 | [],_,_,_,h=>nomatch h
 | (name,kind)::r,n,x,c,h=>by
  unfold cellsFrom at h
  split at h
  ·rename_i hk
   rw[aS]at h
   rcases List.mem_append.mp h with h | h
   ·exact List.mem_cons_of_mem _ (fW r _ h)
   ·rw[List.mem_singleton]at h
    cases h
    rw[eq_of_beq hk];exact List.mem_cons_self
  ·exact List.mem_cons_of_mem _ (fW r _ h)
theorem fX:∀ (names:List (Str×NameKind)) (n:Nat) {x:Str},(x,NameKind.cell)∈names→∃ c,(cellsFrom n names []).lookup x=some c
 | [],_,_,h=>nomatch h
 | (name,kind)::r,n,x,h=>by
  by_cases hr:(x,NameKind.cell)∈r
  ·unfold cellsFrom
   split
   ·obtain⟨c,hc⟩:=fX r (n+1) hr
    rw[aS,List.lookup_append,hc];exact⟨c,rfl⟩
   ·exact fX r n hr
  ·rcases List.mem_cons.mp h with e | e
   ·cases e
    unfold cellsFrom
    rw[if_pos (by rfl),aS,List.lookup_append]
    cases (cellsFrom (n+1) r []).lookup name with
    | some c=>exact⟨c,rfl⟩
    | none=>exact⟨n,by simp[List.lookup_cons]⟩
   ·exact absurd e hr
structure CellsB (scope:Scope)(cl cl2:List (Str×Addr))(C:Addr)(h:Heap):Prop where
 old:∀ n c,cl2.lookup n=some c→(cl.lookup n=some c∧(n,NameKind.cell)∉scope.names)∨(C < c∧h.IsCell c none∧(n,NameKind.cell)∈scope.names)
 keep:∀ n,(n,NameKind.cell)∉scope.names→cl2.lookup n=cl.lookup n
 mine:∀ n,(n,NameKind.cell)∈scope.names→∃ c,cl2.lookup n=some c
 inj:∀ x y c,C < c→cl2.lookup x=some c→cl2.lookup y=some c→(x,NameKind.cell)∈scope.names→(y,NameKind.cell)∈scope.names→x=y
section
variable {M:Model}{A:Around}{E:Value→Shared→Prop}{s:Shared}
theorem kA {scope:Scope}{globals:Addr}{cl:List (Str×Addr)}{qual:Str}{env:Env}{Q:Env→Shared→Prop}
  (hQ:∀ h' cl2,h'.Ns s.heap.objs.size (fun _=>none)→(∀ b o,s.heap.get? b=some o→h'.get? b=some o)→CellsB scope cl cl2 s.heap.objs.size h'→Q (newEnv scope s.heap.objs.size globals cl2 qual none .none (some env) builtinsNs) { s with heap:=h' }) :
  wpAny M A (newFunctionEnv scope globals cl [] qual none .none (some env)) Q E s:=by
 simp only[newFunctionEnv,Option.isSome_some,if_true]
 refine wpAny_bind (wpAny_alloc ?_)
 refine wpAny_bind (wpAny_layCells _ (fun name kind cells=>by cases hkc:kind==NameKind.cell<;>simp[hkc]) _ _ _ _ ?_)
 have ok:=cellsFrom_ok scope.names (s.heap.push { cls:=.type "dict",data:=.dict #[] }) (s.heap.objs.size+1) [] ⟨fun _ _ hm=>(nomatch hm),List.Pairwise.nil⟩ (by rw[Heap.size_push];exact Nat.le_refl _)
 rw[Heap.size_push]at ok
 rw[show ({ s with heap:=s.heap.push { cls:=.type "dict",data:=.dict #[] } }:Shared).heap.objs.size=s.heap.objs.size+1 from Heap.size_push ..]
 simp only[List.forIn_nil]
 refine wpAny_bind (wpAny_pure (wpAny_pure ?_))
 refine hQ _ _ ((Heap.Ns.new s.heap (.type "dict")).keeps (pushCells_keeps _ _)) (fun b o e=>pushCells_keeps _ _ b o (Heap.get?_push_of_some _ e)) ?_
 have look:∀ n,(cellsFrom (s.heap.objs.size+1) scope.names cl).lookup n=((cellsFrom (s.heap.objs.size+1) scope.names []).lookup n).or (cl.lookup n):=fun n=>by rw[aS,List.lookup_append]
 have no:∀ n,(n,NameKind.cell)∉scope.names→(cellsFrom (s.heap.objs.size+1) scope.names []).lookup n=none:=fun n hn=>by
  cases e:(cellsFrom (s.heap.objs.size+1) scope.names []).lookup n with
  | none=>rfl
  | some c=>exact absurd (fW _ _ (PySem.mem_of_lookup e)) hn
 have keep:∀ n,(n,NameKind.cell)∉scope.names→(cellsFrom (s.heap.objs.size+1) scope.names cl).lookup n=cl.lookup n:=fun n hn=>by rw[look,no n hn];rfl
 have new:∀ n,(n,NameKind.cell)∈scope.names→∃ c,(cellsFrom (s.heap.objs.size+1) scope.names []).lookup n=some c∧(cellsFrom (s.heap.objs.size+1) scope.names cl).lookup n=some c:=fun n hn=>by
  obtain⟨c,hc⟩:=fX scope.names (s.heap.objs.size+1) hn
  exact⟨c,hc,by rw[look,hc];rfl⟩
 refine⟨fun n c e=>?_,keep,fun n hn=>?_,fun x y c _ ex ey hx hy=>?_⟩
 ·by_cases hn:(n,NameKind.cell)∈scope.names
  ·obtain⟨c',h1,h2⟩:=new n hn
   rw[e]at h2;cases h2
   have:=ok.empty n c (PySem.mem_of_lookup h1)
   exact .inr ⟨this.2,this.1,hn⟩
  ·rw[keep n hn]at e
   exact .inl ⟨e,hn⟩
 ·obtain⟨c,_,h2⟩:=new n hn
  exact⟨c,h2⟩
 ·obtain⟨c1,h1,h2⟩:=new x hx
  obtain⟨c2,h3,h4⟩:=new y hy
  rw[ex]at h2;cases h2
  rw[ey]at h4;cases h4
  exact name_of_addr ok.apart (PySem.mem_of_lookup h1) (PySem.mem_of_lookup h3)
end
theorem dn {names:List (Str×NameKind)}{x:Str}{k:NameKind}(h:names.lookup x=some k):(x,k)∈names:=PySem.mem_of_lookup h
def blk (X:Cx)(scope:Scope)(cl:List (Str×Addr))(C:Addr)(s:Shared)(H:Hp)(fp:List Addr)(N:List Str):Cx where
 prog:=X.prog
 w:=X.w
 K:=X.K
 mg:=X.mg
 base:=X.base
 A:=X.A
 N:=N
 s₀:=s
 H₀:=H
 env:=compEnvC scope cl C X.env
 outer:=X.stack
 stack:=X.stack
 ex:=fp
 fn:=fun x=>scope.names.lookup x==some .cell
 calm:=true
 pn:=[]
 xe:=fun _ _=>False
def startB (own:Nat)(cap:List Nat)(σ:St):St:=List.replicate own none++cap.map fun i=>(σ[i]?).getD none
structure BlkOk (XN:List Str)(osc scope:Scope)(N:List Str)(own:Nat)(cap:List Nat):Prop where
 kind:scope.kind=.function
 ncell:∀ y∈scope.names,y.2=.cell→scope.names.lookup y.1=some .cell
 nfree:∀ y∈scope.names,y.2=.free→scope.names.lookup y.1=some .free
 nloc:∀ y∈scope.names,y.2=.local→scope.names.lookup y.1=some .local
 free:∀ y∈scope.names,y.2=.free→osc.names.lookup y.1=some .cell∨osc.names.lookup y.1=some .free
 len:N.length=own+cap.length
 capN:∀ j i,cap[j]?=some i→∃ x,N[own+j]?=some x∧XN[i]?=some x∧scope.names.lookup x=some .free
section
variable {X:Cx}{pins:List (Addr×Obj)}{σ:St}{H:Hp}{s:Shared}{scope:Scope}{N:List Str}{own:Nat}{cap:List Nat}{cl:List (Str×Addr)}{fp:List Addr}
theorem uo {cl2:List (Str×Addr)}(b:BlkOk X.N X.env.scope scope N own cap)(hc:X.calm=true)(I:Inv X pins σ H s)(hf:∀ b∈fp,FpOk X pins H b)(hfo:∀ b∈fp,b < s.heap.objs.size)(c1:∀ n c,cl.lookup n=some c→X.env.cells.lookup n=some c)
  (c2:∀ y∈scope.names,y.2=.free→∃ c,cl.lookup y.1=some c) {h':Heap} {t':Nat} {m:Str→Option Value} (hns:h'.Ns s.heap.objs.size m) (hk:∀ b o,s.heap.get? b=some o→h'.get? b=some o) (cb:CellsB scope cl cl2 s.heap.objs.size h') :
  Inv (blk X scope cl2 s.heap.objs.size s H fp N) [] (startB own cap σ) H { s with heap:=h',toks:=t' }:=by
 have hC:H s.heap.objs.size=none:=I.hok.fresh (Nat.le_refl _)
 have lt:∀ n c,cl.lookup n=some c→c < s.heap.objs.size:=fun n c e=>by obtain⟨v,hv⟩:=I.cell n c (c1 n c e);exact hv.lt
 have inj:∀ x y c,cl2.lookup x=some c→cl2.lookup y=some c→x=y:=fun x y c h1 h2=>by
  rcases cb.old x c h1 with ⟨a1,_⟩ | ⟨a1,_,a2⟩<;>rcases cb.old y c h2 with ⟨b1,_⟩ | ⟨b1,_,b2⟩
  ·exact I.ok.inj x y c (c1 x c a1) (c1 y c b1)
  ·exact absurd (lt x c a1) (Nat.lt_asymm b1)
  ·exact absurd (lt y c b1) (Nat.lt_asymm a1)
  ·exact cb.inj x y c a1 h1 h2 a2 b2
 refine⟨⟨I.ok.mod,b.kind,I.ok.glob,I.ok.blt,Nat.le_refl _,inj,fun x hx=>?_,fun x c hx e=>?_,fun _=>I.ok.hd hc,I.ok.frames,.inl rfl,fun b' hb=>?_,I.bs,Nat.le_trans I.ok.bsz I.sz,fun b' o e hb=>?_,fun b' hb hm=>?_,I.stack,I.stkFree⟩,rfl,I.bare,Un.kept hk,⟨m,hns,fun i x v h1 h2 h3=>?_⟩,fun x c e=>?_,hC,fun x c e=>?_,fun p hp=>(nomatch hp),I.hok.kept hk,?_⟩
 ·obtain⟨y,hy,e1,e2⟩:=il (env:=X.env) hx
  rcases e2 with e2 | e2
  ·obtain⟨c,e⟩:=c2 y hy e2
   have hn:(y.1,NameKind.cell)∉scope.names:=fun z=>by
    have q1:=b.nfree y hy e2
    have q2:=b.ncell _ z rfl
    rw[q1]at q2;cases q2
   exact⟨c,by rw[← e1];show cl2.lookup y.1=some c;rw[cb.keep _ hn];exact e⟩
  ·obtain⟨c,e⟩:=cb.mine y.1 (by rw[← e2];exact hy)
   exact⟨c,by rw[← e1];exact e⟩
 ·rcases cb.old x c e with ⟨a1,a2⟩ | ⟨a1,_,_⟩
  ·have hx':(scope.names.lookup x==some NameKind.cell)=true:=hx
   exact absurd (dn (eq_of_beq hx')) a2
  ·exact Nat.le_of_lt a1
 ·refine⟨Nat.ne_of_lt (hfo b' hb),fun x c e=>?_⟩
  rcases cb.old x c e with ⟨a1,_⟩ | ⟨a1,_,_⟩
  ·exact(hf b' hb).2.2.2.2.1 x c (c1 x c a1)
  ·exact fun z=>Nat.lt_asymm a1 (z ▸ hfo b' hb)
 ·rcases(hf b' hb).2.2.2.1 with z | z
  ·exact I.ok.noex b' o e z
  ·have:=Heap.lt_size (I.ok.bs b' o e).1
   exact absurd (Nat.lt_of_lt_of_le this z) (Nat.lt_irrefl _)
 ·rcases List.mem_cons.mp (I.stkSub b' hm) with z | z
  ·exact(hf b' hb).2.1 z
  ·exact(hf b' hb).2.2.1 z
 ·
  unfold startB at h2
  by_cases hi:i < own
  ·rw[List.getElem?_append_left (by simpa using hi),List.getElem?_replicate]at h2
   split at h2<;>cases h2
  ·rw[List.getElem?_append_right (by simpa using hi),List.length_replicate,List.getElem?_map]at h2
   cases e:cap[i - own]? with
   | none=>rw[e]at h2;cases h2
   | some k =>
    rw[e]at h2
    obtain⟨x',f1,f2,f3⟩:=b.capN _ _ e
    rw[show own+(i - own)=i by omega]at f1
    have h1':N[i]?=some x:=h1
    rw[h1']at f1;cases f1
    have h2':σ[k]?=some (some v):=by
     cases q:σ[k]? with
     | none=>simp only[Option.map_some,q,Option.getD_none,Option.some.injEq]at h2;cases h2
     | some o=>simp only[Option.map_some,q,Option.getD_some,Option.some.injEq]at h2;rw[h2]
    obtain⟨m0,_,hl⟩:=I.loc
    have kf:=b.free (x,.free) (dn f3) rfl
    obtain⟨u,r,l⟩:=hl k x v f2 h2' (kf.elim (fun z=>.inr (.inl z)) fun z=>.inr (.inr z))
    refine⟨u,r,?_⟩
    rcases l with ⟨z,_⟩ | ⟨_,c,e1,e2⟩
    ·have z':X.env.scope.names.lookup x=some .local:=z
     rcases kf with y | y
     ·have y':X.env.scope.names.lookup x=some .cell:=y
      rw[z']at y';cases y'
     ·have y':X.env.scope.names.lookup x=some .free:=y
      rw[z']at y';cases y'
    ·obtain⟨c',g1⟩:=c2 (x,.free) (dn f3) rfl
     have g2:=c1 x c' g1
     rw[e1]at g2;cases g2
     have hn:(x,NameKind.cell)∉scope.names:=fun z=>by
      have q2:=b.ncell _ z rfl
      have q2':scope.names.lookup x=some .cell:=q2
      rw[f3]at q2';cases q2'
     exact .inr ⟨ik (env:=X.env) f3,c,by show cl2.lookup x=some c;rw[cb.keep _ hn];exact g1,by obtain⟨o,ho,hd⟩:=e2;exact⟨o,hk _ _ ho,hd⟩⟩
 ·rcases cb.old x c e with ⟨a1,_⟩ | ⟨_,a2,_⟩
  ·obtain⟨v,o,ho,hd⟩:=I.cell x c (c1 x c a1)
   exact⟨v,o,hk _ _ ho,hd⟩
  ·exact⟨none,a2⟩
 ·rcases cb.old x c e with ⟨a1,_⟩ | ⟨a1,_,_⟩
  ·exact I.freeC x c (c1 x c a1)
  ·exact I.hok.fresh (Nat.le_of_lt a1)
 ·unfold startB
  show _=N.length
  rw[List.length_append,List.length_replicate,List.length_map,b.len]
theorem rC {s3 s':Shared}{H3 H':Hp}{σ':St}{pl:List (Addr×Obj)}{D C:Addr}(I:Inv X pins σ H s)(hf:∀ b∈fp,FpOk X pins H b)(hD:D=s.heap.objs.size)(h3:s3={ s with heap:=s.heap.push { cls:=.type "list",data:=.seq #[] } })(hH:H3=upd H D (.lst []))(hC:C=s3.heap.objs.size)
  (J:Inv (blk X scope cl C s3 H3 fp N) pl σ' H' s'):Inv X pins σ H' s'∧FpOk X pins H' C∧∃ m,s'.heap.Ns C m:=by
 subst h3
 have hs:s.heap.objs.size≤C:=by rw[hC];show _≤(s.heap.push _).objs.size;rw[Heap.size_push];exact Nat.le_succ _
 have u1:Un (frs X.stack) fp H H3 s.heap (s.heap.push { cls:=.type "list",data:=.seq #[] }):=by
  rw[hH,hD]
  exact Un.laid (fun b u e=>Heap.get?_push_of_some _ e) (Nat.le_refl _) (I.hok.fresh (Nat.le_refl _))
 have u2:Un (frs X.stack) fp H3 H' (s.heap.push { cls:=.type "list",data:=.seq #[] }) s'.heap:=J.base
 have os:s'.os=s.os:=J.os
 refine⟨I.call' (ch:=fp) os (u1.trans u2) J.hok J.bare fun b hb=>?_,I.fpOk hs J.free,?_⟩
 ·obtain⟨_,f1,f2,f3,f4,f5⟩:=hf b hb
  exact⟨f3,f1,f4,f5⟩
 ·obtain⟨m,hn,_⟩:=J.loc
  exact⟨m,hn⟩
end
def tTests (ifs:List Expr)(t:TT):TT:=match ifs with
 | []=>fun _ H Q=>Q true H
 | _::_=>t
theorem mY {ifs:List Expr}{t:TT}{σ:St}{H:Hp}{Q:Bool→Hp→Prop}(e:ifs=[])(h:tTests ifs t σ H Q):Q true H:=by subst e;exact h
theorem mZ {ifs:List Expr}{t:TT}{σ:St}{H:Hp}{Q:Bool→Hp→Prop}{c:Expr}(e:ifs=[c])(h:tTests ifs t σ H Q):t σ H Q:=by subst e;exact h
theorem pw {M:Model}{A:Around}{ifs:List Expr}{env:Env}{Q:Bool→Shared→Prop}{E:Value→Shared→Prop}{s:Shared}(hifs:ifs.length≤1)(h0:ifs=[]→Q true s)(h1:∀ c,ifs=[c]→wpAny M A (isTrue c env (eval c env)) Q E s):wpAny M A (tests ifs env) Q E s:=by
 match ifs,hifs,h0,h1 with
 | [],_,h0,_=>exact wpAny_pure (h0 rfl)
 | [c],_,_,h1=>exact h1 c rfl
def BlkW (sz:Nat)(J:It)(g:TG)(tc:TT)(te:TE)(D:Addr)(Fin:Hp→List V→Prop)(W:Nat→Nat→St→Hp→List V→Prop):Prop :=
 ∀ i m σ H ys,W i m σ H ys→H D=some (.lst ys)∧((J.stop i H∧Fin H ys)∨(J.go i H∧∀ x H',J.yld i H x H'→g x σ H' fun σ2 H2=>tc σ2 H2 fun ok H3 =>
  if ok=true then te σ2 H3 fun y H4=>H4 D=some (.lst ys)∧ys.length < sz∧∃ m',m' < m∧W (i+1) m' σ2 (upd H4 D (.lst (ys++[y]))) (ys++[y])
  else ∃ m',m' < m∧W (i+1) m' σ2 H3 ys))
section
variable {X:Cx}{elt tg iter:Expr}{ifs:List Expr}{scope:Scope}{N:List Str}{own:Nat}{cap:List Nat}{pos:Pos}{wi:TI}{g:TG}{tc:TT}{te:TE}
set_option maxHeartbeats 4000000 in
theorem lG {pins:List (Addr×Obj)}{σ:St}{H:Hp}{s:Shared}{it:Addr}{fp:List Addr}{tn:Nat→Heap→Prop}{J:It}{cl:List (Str×Addr)}{E:Value→Shared→Prop}{RR:Value→Addr→Result→Shared→Prop}{Fin:Addr→Hp→List V→Prop}
  (b:BlkOk X.N X.env.scope scope N own cap) (hc:X.calm=true) (hifs:ifs.length≤1)
  (hg:∀ cl C s H fp,PG (blk X scope cl C s H fp N) tg g) (ht:∀ c,ifs=[c]→∀ cl C s H fp,PT (blk X scope cl C s H fp N) c tc) (he:∀ cl C s H fp,PE (blk X scope cl C s H fp N) elt te)
  (hclos:closureFor scope X.env=pure cl) (c1:∀ n c,cl.lookup n=some c→X.env.cells.lookup n=some c) (c2:∀ y∈scope.names,y.2=.free→∃ c,cl.lookup y.1=some c)
  (I:Inv X pins σ H s) (T:Turn X.prog X.w X.K tg J fp it tn) (st:tn 0 s.heap) (hf:∀ b∈fp,FpOk X pins H b)
  (hW:∀ D,H D=none→∃ W,BlkW sizeLine J g (tTests ifs tc) te D (Fin D) W∧∃ m,W 0 m (startB own cap σ) (upd H D (.lst [])) [])
  (fin:∀ D C s' H' ys,Inv X pins σ H' s'→FpOk X pins H' C→(∃ m,s'.heap.Ns C m)→H' D=some (.lst ys)→Fin D H' ys→RR (.ref D) C (.ok .next) s') :
  wpAny (model X.prog X.w) X.A (newList []) (fun acc s3=>wpAny (model X.prog X.w) X.A (newFunctionEnv scope X.env.globals cl [] X.env.qual none .none (some X.env)) (fun cenv s4 =>
   codeAny (model X.prog X.w) X.A (.compStart (.ListComp elt [⟨tg,iter,ifs,0⟩] scope pos) 0 (.ref it) acc { cenv with scope:=relabel scope X.env }) (RR acc cenv.locals) s4) E s3) E s:=by
 have hfo:∀ b∈fp,b < s.heap.objs.size:=fun b hb=>by
  obtain⟨o,e,_⟩:=T.obj 0 _ st b hb
  exact Heap.lt_size e
 have hD:H s.heap.objs.size=none:=I.hok.fresh (Nat.le_refl _)
 obtain⟨W,hturn,m0,w0⟩:=hW _ hD
 refine wpAny_newObj_type (kA fun h1 cl2 hns kk cb=>?_)
 have I3:Inv X pins σ (upd H s.heap.objs.size (.lst [])) { s with heap:=s.heap.push { cls:=.type "list",data:=.seq #[] } }:=I.lnew (t':=s.toks) (its:=[]) .nil (Nat.zero_le _)
 have hfp3:∀ b∈fp,FpOk X pins (upd H s.heap.objs.size (.lst [])) b:=fun b hb=>⟨by rw[av (Nat.ne_of_lt (hfo b hb))];exact(hf b hb).1,(hf b hb).2⟩
 have st1:tn 0 h1:=T.keep 0 _ _ st fun b hb o e=>kk b o (Heap.get?_push_of_some _ e)
 generalize hX:blk X scope cl2 (s.heap.push { cls:=.type "list",data:=.seq #[] }).objs.size { s with heap:=s.heap.push { cls:=.type "list",data:=.seq #[] } } (upd H s.heap.objs.size (.lst [])) fp N=X'
 have I4:Inv X' [] (startB own cap σ) (upd H s.heap.objs.size (.lst [])) { s with heap:=h1 }:=by
  rw[← hX]
  exact uo b hc I3 hfp3 (fun b hb=>Nat.lt_of_lt_of_le (hfo b hb) (by show _≤(s.heap.push _).objs.size;rw[Heap.size_push];exact Nat.le_succ _)) c1 c2 hns kk cb
 have eP:X'.prog=X.prog:=by rw[← hX];rfl
 have ew:X'.w=X.w:=by rw[← hX];rfl
 have eK:X'.K=X.K:=by rw[← hX];rfl
 have eA:X'.A=X.A:=by rw[← hX];rfl
 have ec:X'.calm=true:=by rw[← hX];rfl
 have ee:X'.env=compEnvC scope cl2 (s.heap.push { cls:=.type "list",data:=.seq #[] }).objs.size X.env:=by rw[← hX];rfl
 have ex:X'.xe=fun _ _=>False:=by rw[← hX];rfl
 have epn:X'.pn=[]:=by rw[← hX];rfl
 have eex:X'.ex=fp:=by rw[← hX];rfl
 have pg:PG X' tg g:=by rw[← hX];exact hg _ _ _ _ _
 have pe:PE X' elt te:=by rw[← hX];exact he _ _ _ _ _
 have pt:∀ c,ifs=[c]→PT X' c tc:=fun c q=>by rw[← hX];exact ht c q _ _ _ _ _
 have fpB:∀ {H':Hp},(∀ b∈fp,H' b=none)→∀ {s'':Shared} {σ':St},Inv X' [] σ' H' s''→∀ b∈fp,FpOk X' [] H' b:=fun {H'} hn {s'' σ'} Iv b hb =>
  ⟨hn b hb,(Iv.ok.exf b (by rw[eex];exact hb)).1,Iv.ok.exfs b (by rw[eex];exact hb),.inl (by rw[eex];exact hb),(Iv.ok.exf b (by rw[eex];exact hb)).2,fun p hp=>by rw[epn]at hp;exact(nomatch hp)⟩
 have loop:codeAny (model X.prog X.w) X.A (.compLoop (.ListComp elt [⟨tg,iter,ifs,0⟩] scope pos) 0 (.ref it) (.ref s.heap.objs.size) (compEnvC scope cl2 (s.heap.push { cls:=.type "list",data:=.seq #[] }).objs.size X.env))
   (RR (.ref s.heap.objs.size) (s.heap.push { cls:=.type "list",data:=.seq #[] }).objs.size) { s with heap:=h1 }:=by
  refine pd hifs (fun n s'=>∃ i σ' H' ys,Inv X' [] σ' H' s'∧tn i s'.heap∧(∀ b∈fp,H' b=none)∧W i n σ' H' ys) (fun n s5 ⟨i,σ5,H5,ys,I5,st5,fr5,w5⟩=>?_) m0
   ⟨0,startB own cap σ,_,[],I4,st1,fun b hb=>(hfp3 b hb).1,w0⟩
  obtain⟨hDy,hgo⟩:=hturn i n σ5 H5 ys w5
  have hs5:=fpB fr5 I5
  rcases hgo with ⟨stop,hfin⟩ | ⟨go,step⟩
  ·have q:=T.done X' eP ew eK ec i [] s5 σ5 H5 (fun _ _=>False) I5 hs5 st5 stop
   rw[eA]at q
   refine wpAny_mono q (fun r s6 ⟨hr,I6⟩=>?_) fun _ _ z=>z
   subst hr
   rw[← hX]at I6
   obtain⟨J1,J2,J3⟩:=rC I hf rfl rfl rfl rfl I6
   exact fin _ _ s6 H5 ys J1 J2 J3 hDy hfin
  ·have q:=T.item X' eP ew eK ec i [] s5 σ5 H5 (fun _ _=>False) I5 hs5 st5 go
   rw[eA]at q
   refine wpAny_mono q (fun r s6 ⟨u,hr,h6⟩=>?_) fun _ _ z=>z
   subst hr
   refine wpAny_mono h6 (fun _ s7 ⟨x,H7,I7,r7,y7,st7,fr7⟩=>?_) fun _ _ z=>z
   have I7':=I7.pinned (fpB fr7 I7) (T.obj _ _ st7)
   rw[List.nil_append]at I7'
   have qg:=pg _ s7 σ5 H7 x u _ I7' r7 (step x H7 y7)
   rw[eP,ew,eA,ee,ex]at qg
   refine wpAny_mono qg (fun _ s8 ⟨σ8,H8,I8,q8⟩=>?_) fun _ _ z=>z
   have again:∀ {s9:Shared} {H9:Hp} {zs:List V},Inv X' (pinsAt fp s7.heap) σ8 H9 s9→(∃ m',m' < n∧W (i+1) m' σ8 H9 zs) →
     ∃ m,m < n∧∃ i σ' H' ys,Inv X' [] σ' H' s9∧tn i s9.heap∧(∀ b∈fp,H' b=none)∧W i m σ' H' ys:=fun {s9 H9 zs} I9 ⟨m',hm,w9⟩=>by
    have I9':Inv X' ([]++pinsAt fp s7.heap) σ8 H9 s9:=by rw[List.nil_append];exact I9
    refine⟨m',hm,i+1,σ8,H9,zs,I9'.unpinned,T.keep _ _ _ st7 fun b hb o e=>(I9.pin (b,o) (List.mem_append_right _ (cD hb e))).1,fun b hb=>?_,w9⟩
    obtain⟨o,e,d⟩:=T.obj _ _ st7 b hb
    exact(I9.pin (b,o) (List.mem_append_right _ (cD hb e))).2.1
   have body:∀ (ok:Bool) (s9:Shared),(∃ H9,Inv X' (pinsAt fp s7.heap) σ8 H9 s9∧(if ok=true then te σ8 H9 fun y H4=>H4 s.heap.objs.size=some (.lst ys)∧ys.length < sizeLine∧∃ m',m' < n∧W (i+1) m' σ8 (upd H4 s.heap.objs.size (.lst (ys++[y]))) (ys++[y]) else ∃ m',m' < n∧W (i+1) m' σ8 H9 ys)) →
     if ok=true then wpAny (model X.prog X.w) X.A (eval elt (compEnvC scope cl2 (s.heap.push { cls:=.type "list",data:=.seq #[] }).objs.size X.env)) (fun x s5=>wpAny (model X.prog X.w) X.A (call (.builtin "list.append") [.ref s.heap.objs.size,x]) (fun _ s6=>∃ m,m < n∧∃ i σ' H' ys,Inv X' [] σ' H' s6∧tn i s6.heap∧(∀ b∈fp,H' b=none)∧W i m σ' H' ys) (fun _ _=>False) s5) (fun _ _=>False) s9
     else ∃ m,m < n∧∃ i σ' H' ys,Inv X' [] σ' H' s9∧tn i s9.heap∧(∀ b∈fp,H' b=none)∧W i m σ' H' ys:=by
    intro ok s9 ⟨H9,I9,h9⟩
    cases ok with
    | false=>exact again I9 h9
    | true =>
     have qe:=pe _ s9 σ8 H9 _ I9 h9
     rw[eP,ew,eA,ee,ex]at qe
     refine wpAny_mono qe (fun u s10 ⟨y,H10,I10,r10,hD10,hlt,m',hm,w10⟩=>?_) fun _ _ z=>z
     have qa:=jK (X:=X') (pinsAt fp s7.heap) s10 σ8 H10 (.ref s.heap.objs.size) [y] (.ref s.heap.objs.size) [u] (fun _ H11=>H11=upd H10 s.heap.objs.size (.lst (ys++[y]))) I10 rfl (.cons r10 .nil)
      ⟨s.heap.objs.size,ys,y,rfl,rfl,hD10,hlt,rfl⟩
     rw[eP,ew,eA,ex]at qa
     refine wpAny_mono qa (fun _ s11 ⟨_,H11,I11,_,e11⟩=>?_) fun _ _ z=>z
     subst e11
     exact again I11 ⟨m',hm,w10⟩
   refine pw hifs (fun q=>body true s8 ⟨H8,I8,mY q q8⟩) fun c q=>?_
   have qt:=pt c q _ s8 σ8 H8 _ I8 (mZ q q8)
   rw[eP,ew,eA,ee,ex]at qt
   exact wpAny_mono qt (fun ok s9 ⟨H9,I9,h9⟩=>body ok s9 ⟨H9,I9,h9⟩) fun _ _ z=>z
 exact codeAny_compStart_list loop (T.self _ 0 _ _ _ st1 loop)
def tComp (own:Nat)(cap:List Nat)(wi:TI)(g:TG)(tc:TT)(te:TE):TE:=fun σ H Q=>wi σ H fun J H1=>∀ D,H1 D=none→∃ W,BlkW sizeLine J g tc te D (fun H' _=>Q (.ref D) H') W∧∃ m,W 0 m (startB own cap σ) (upd H1 D (.lst [])) []
theorem oh (b:BlkOk X.N X.env.scope scope N own cap)(hc:X.calm=true)(hifs:ifs.length≤1)(hi:PI X tg iter wi)
  (hg:∀ cl C s H fp,PG (blk X scope cl C s H fp N) tg g) (ht:∀ c,ifs=[c]→∀ cl C s H fp,PT (blk X scope cl C s H fp N) c tc) (he:∀ cl C s H fp,PE (blk X scope cl C s H fp N) elt te)
  (hs:∀ x,foldedSetIterable iter X.env x=pure x:=by intro _;rfl):PE X (.ListComp elt [⟨tg,iter,ifs,0⟩] scope pos) (tComp own cap wi g (tTests ifs tc) te):=by
 intro pins s σ H Q I h
 obtain⟨cl,hclos,c1,c2⟩:=ii scope X.env fun y hy hf=>I.ok.has y.1 (b.free y hy hf)
 rw[eval_ListComp]
 refine wpAny_comprehension_free (use:=none) rfl hs hclos b.kind b.nloc (thn (hi pins s σ H _ I h) fun v s1 h1=>thn h1 fun itv s2 h2=>?_)
 obtain⟨it,fp,tn,J,H2,e,I2,T,st2,f2,hW⟩:=h2
 subst e
 refine lG (RR:=fun acc C=>compPost (model X.prog X.w) X.A X.xe none (EP X pins σ Q) acc C) b hc hifs hg ht he hclos c1 c2 I2 T st2 f2 hW fun D C s' H' ys J1 J2 ⟨m,hm⟩ hD hQ=>?_
 refine⟨m,hm,fun h' hsb=>⟨.ref D,H',?_,rfl,hQ⟩⟩
 obtain⟨f0,f1,f2,f3,f4,f5⟩:=J2
 exact J1.turned (t':=s'.toks) (fun b o hb e=>(hsb.2 b hb).trans e) f0 f1 f3 f4 f5
def tCompSet (i own:Nat)(cap:List Nat)(wi:TI)(g:TG)(tc:TT)(te:TE):TS:=fun E σ H=>wi σ H fun J H1=>∀ D,H1 D=none→∃ W,BlkW sizeLine J g tc te D (fun H' _=>E.nx (σ.set i (some (.ref D))) H') W∧∃ m,W 0 m (startB own cap σ) (upd H1 D (.lst [])) []
theorem m5 {i:Nat}{y:Str}{py spos:Pos}(b:BlkOk X.N X.env.scope scope N own cap)(hc:X.calm=true)(hifs:ifs.length≤1)(hi:PI X tg iter wi)
  (hg:∀ cl C s H fp,PG (blk X scope cl C s H fp N) tg g) (ht:∀ c,ifs=[c]→∀ cl C s H fp,PT (blk X scope cl C s H fp N) c tc) (he:∀ cl C s H fp,PE (blk X scope cl C s H fp N) elt te)
  (hN:X.N.Nodup) (hiy:X.N[i]?=some y) (hy:Loc X.env.scope y) (hfn:X.fn y=true∨X.env.scope.names.lookup y=some .local)
  (hsw:swapsWith (.ListComp elt [⟨tg,iter,ifs,0⟩] scope pos) (some (.Name y py)) spos.line X.env=pure true)
  (hs:∀ x,foldedSetIterable iter X.env x=pure x:=by intro _;rfl):PS X (.Assign [.Name y py] (.ListComp elt [⟨tg,iter,ifs,0⟩] scope pos) spos) (tCompSet i own cap wi g (tTests ifs tc) te):=by
 intro pins s σ H E I h
 obtain⟨cl,hclos,c1,c2⟩:=ii scope X.env fun y hy hf=>I.ok.has y.1 (b.free y hy hf)
 rw[exec_Assign_Name_used _ _ _ _ hsw]
 refine wpAny_bind (wpAny_standAt (wpAny_bind ?_))
 show wpAny _ X.A (do let _ ← comprehension (.ListComp elt [⟨tg,iter,ifs,0⟩] scope pos) scope X.env _ (newList []) false (eval iter X.env) (some (assign (.Name y py) X.env))) _ _ s
 refine wpAny_bind (wpAny_mono (wpAny_comprehension_free (use:=some (assign (.Name y py) X.env)) (Q:=fun _ s'=>SP X pins E .next s') rfl hs hclos b.kind b.nloc (thn (hi pins s σ H _ I h) fun v s1 h1=>thn h1 fun itv s2 h2=>?_)) (fun _ s' hq=>wpAny_pure (wpAny_pure hq)) fun _ _ e=>e)
 obtain⟨it,fp,tn,J,H2,e,I2,T,st2,f2,hW⟩:=h2
 subst e
 refine lG (RR:=fun acc C=>compPost (model X.prog X.w) X.A X.xe (some (assign (.Name y py) X.env)) (fun _ s'=>SP X pins E .next s') acc C) b hc hifs hg ht he hclos c1 c2 I2 T st2 f2 hW fun D C s' H' ys J1 J2 ⟨m,hm⟩ hD hQ=>?_
 obtain⟨f0,f1,f2,f3,f4,f5⟩:=J2
 refine wpAny_assign_Name (jD J1 hN hiy hy (v:=.ref D) rfl (fun s'' I'' ⟨a,hsb,ha⟩=>?_) hfn)
 have hne:C≠a:=by
  rcases ha with z | z
  ·rw[z];exact f1
  ·exact fun q=>f4 y a z q.symm
 refine⟨m,hm.sameBut hsb hne,fun h' hs'=>⟨_,H',I''.turned (t':=s''.toks) (fun b o hb e=>(hs'.2 b hb).trans e) f0 f1 f3 f4 f5,hQ⟩⟩
end
end FF
end
noncomputable section
namespace FF
open PySem PySem.Spec PyProof.Rows L2
def Walk (J:It)(vs:List V)(Ok:Hp→Prop):Prop:=∀ (i:Nat) (H:Hp),Ok H→(i < vs.length→J.go i H∧∀ x H',J.yld i H x H'→H'=H∧vs[i]?=some x)∧(vs.length≤i→J.stop i H)
def WalkG (F:Fx)(J:It)(ds:List D)(Z1:Hp):Prop:=∀ (i:Nat) (H Z:Hp),Same Z1 Z→Same Z H→(i < ds.length→J.go i H∧∀ x H',J.yld i H x H'→∃ Z' d,Ex H Z H' Z'∧ds[i]?=some d∧Rep F.K F.C Z' d x)∧(ds.length≤i→J.stop i H)
theorem ff {F:Fx}{J:It}{ds:List D}{vs:List V}{Z1:Hp}(rs:Reps F.K F.C Z1 ds vs)(w:Walk J vs (Same Z1)):WalkG F J ds Z1:=fun i H Z z1 z2=>by
 obtain⟨k1,k2⟩:=w i H (z1.trans z2)
 have hl:=rs.length
 refine⟨fun hi=>?_,fun hi=>k2 (by omega)⟩
 obtain⟨go,y⟩:=k1 (by omega)
 exact⟨go,fun x H' hy=>by
  obtain⟨e0,e2⟩:=y x H' hy
  subst e0
  obtain⟨d,e3,rd⟩:=rs.get' e2
  exact⟨Z,d,Ex.refl z2,e3,rd.mono z1⟩⟩
def tI (F:Fx)(g:SS→R (List D)):TI:=fun σ H Q=>∃ Z S,StOk F H Z S σ∧WG F H Z (g S) fun ds H' Z'=>∀ J,WalkG F J ds Z'→ds.length≤16777216→Q J H'
abbrev FI (X:Cx)(F:Fx)(tg e:Expr)(g:SS→R (List D)):Prop:=PI X tg e (tI F g)
def asSeq:D→R (List D)
 | .tup xs=>.ok xs
 | .lst xs=>.ok xs
 | _=>.stuck
def iSeq (g:SS→R D):SS→R (List D):=fun S=>(g S).bind fun d=>(asSeq d).bind fun ds=>if ds.length≤16777216 then .ok ds else .stuck
theorem _root_.L2.PI.weak {X:Cx}{tg e:Expr}{t t':TI}(h:PI X tg e t)(w:∀ σ H Q,t' σ H Q→t σ H Q):PI X tg e t':=fun pins s σ H Q I q=>h pins s σ H Q I (w σ H Q q)
theorem pz {K:PySem.W.Frag}{a:Addr}{vs:List V}{Z:Hp}(h:SqL K Z a vs):Walk (Itl K a) vs (Same Z):=fun i H hz =>
 ⟨fun hi=>⟨⟨vs,vs[i],hz.seq h,by simp[hi]⟩,fun x H' ⟨e,y⟩=>⟨e,y vs (hz.seq h)⟩⟩,fun hi=>⟨vs,hz.seq h,hi⟩⟩
theorem rD {K:PySem.W.Frag}{a:Addr}{vs:List V}{Z:Hp}(h:SqT K Z a vs):Walk (Itt K a) vs (Same Z):=fun i H hz =>
 ⟨fun hi=>⟨⟨vs,vs[i],h.mono hz,by simp[hi]⟩,fun x H' ⟨e,y⟩=>⟨e,y vs (h.mono hz)⟩⟩,fun hi=>⟨vs,h.mono hz,hi⟩⟩
theorem im {lo:Int}{n:Nat}{Z:Hp}:Walk (Itr lo n) ((List.range n).map fun i=>.int (lo+(i:Nat))) (Same Z):=fun i H hz=>by
 refine⟨fun hi=>?_,fun hi=>?_⟩
 ·have hi':i < n:=by simpa using hi
  exact⟨hi',fun x H' ⟨e,y⟩=>⟨e,by rw[y];simp[hi']⟩⟩
 ·show n≤i
  simpa using hi
theorem wl {X:Cx}{tg l:Expr}{tl:TE}(hl:PE X l tl):PI X tg l (fun σ H R=>tl σ H fun x H1=>∃ a,x=.ref a∧(((∃ xs,SqL X.K H1 a xs)∧R (Itl X.K a) H1)∨((∃ xs,SqT X.K H1 a xs)∧R (Itt X.K a) H1))):=by
 intro pins s σ H Q I h
 refine thn (hl pins s σ H _ I h) fun v s1 ⟨x,H1,I1,r1,a,e,q⟩=>?_
 subst e
 cases r1
 rcases q with ⟨⟨xs,hq⟩,q⟩ | ⟨⟨xs,hq⟩,q⟩
 ·obtain⟨its,rv,p,hz⟩:=I1.list hq
  refine wpAny_pyIter_list p.isList ⟨s1.heap.objs.size,[s1.heap.objs.size],_,_,H1,rfl,I1.kept (t':=s1.toks) fun b o e=>Heap.get?_push_of_some _ e,o0 a _,⟨_,Heap.get?_push_size _ rfl,rfl,rfl⟩,fun b hb=>?_,q⟩
  obtain rfl:b=s1.heap.objs.size:=by simpa using hb
  exact I1.fpOk (Nat.le_refl _) (I1.hok.fresh (Nat.le_refl _))
 ·obtain⟨its,rv,p,hz⟩:=I1.tuple hq
  refine wpAny_pyIter_tuple (show s1.heap.IsTuple a its.toArray from p) ⟨s1.heap.objs.size,[s1.heap.objs.size],_,_,H1,rfl,I1.kept (t':=s1.toks) fun b o e=>Heap.get?_push_of_some _ e,mP a _,⟨_,Heap.get?_push_size _ rfl,rfl,rfl⟩,fun b hb=>?_,q⟩
  obtain rfl:b=s1.heap.objs.size:=by simpa using hb
  exact I1.fpOk (Nat.le_refl _) (I1.hok.fresh (Nat.le_refl _))
section
variable {X:Cx}{F:Fx}{tg e:Expr}{g:SS→R D}{gs:SS→R (List D)}
theorem bc (hK:X.K=F.K)(h:FE X F e g):FI X F tg e (iSeq g):=(wl h).weak fun σ H Q ⟨Z,S,ok,w⟩=>ax ok w fun d v H1 Z1 ok1 x1 rv w1=>by
 rw[hK]
 cases d with
 | tup ds =>
  rw[Rep]at rv
  obtain⟨a,vs,rfl,h1,h2⟩:=rv
  have w2:WG F H1 Z1 (if ds.length≤16777216 then R.ok ds else .stuck) _:=w1
  split at w2
  ·rename_i hl
   exact⟨a,rfl,.inr ⟨⟨vs,h1.mono ok1.sub⟩,WG.now w2 ok1.sub _ (ff h2 (rD h1)) hl⟩⟩
  ·exact w2.elim
 | lst ds =>
  rw[Rep]at rv
  obtain⟨a,vs,rfl,h1,h2⟩:=rv
  have w2:WG F H1 Z1 (if ds.length≤16777216 then R.ok ds else .stuck) _:=w1
  split at w2
  ·rename_i hl
   exact⟨a,rfl,.inl ⟨⟨vs,ok1.sub.seq h1⟩,WG.now w2 ok1.sub _ (ff h2 (pz h1)) hl⟩⟩
  ·exact w2.elim
 | _=>exact w1.elim
def rngD (lo:Int)(n:Nat):List D:=(List.range n).map fun i=>.int (lo+(i:Nat))
def rng1:List D→R (List D)
 | [.int j]=>if -16777216≤j∧j≤16777216 then .ok (rngD 0 j.toNat) else .stuck
 | _=>.stuck
def rng2:List D→R (List D)
 | [.int i,.int j]=>if (-16777216≤i∧i≤16777216)∧(-16777216≤j∧j≤16777216)∧j - i≤16777216 then .ok (rngD i (j - i).toNat) else .stuck
 | _=>.stuck
def iRange1 (gs:SS→R (List D)):SS→R (List D):=fun S=>(gs S).bind rng1
def iRange2 (gs:SS→R (List D)):SS→R (List D):=fun S=>(gs S).bind rng2
theorem io {K:PySem.W.Frag}{C:Nat→Addr}{Z:Hp}(lo:Int):∀ (l:List Nat),Reps K C Z (l.map fun i=>.int (lo+(i:Nat))) (l.map fun i=>.int (lo+(i:Nat)))
 | []=>Reps.nil
 | a::r=>Reps.cons (by rw[Rep]) (io lo r)
theorem oi {K:PySem.W.Frag}{C:Nat→Addr}{Z:Hp}{j:Int}{vs:List V}(r:Reps K C Z [.int j] vs):vs=[.int j]:=by
 rw[Reps]at r
 obtain⟨v,r',rfl,h1,h2⟩:=r
 rw[Reps]at h2
 rw[Rep]at h1
 rw[h1,h2]
theorem lH {K:PySem.W.Frag}{C:Nat→Addr}{Z:Hp}{i j:Int}{vs:List V}(r:Reps K C Z [.int i,.int j] vs):vs=[.int i,.int j]:=by
 rw[Reps]at r
 obtain⟨v,r',rfl,h1,h2⟩:=r
 rw[Rep]at h1
 rw[h1,oi h2]
theorem uq {ds:List D}{es:List D}(h:rng1 ds=.ok es):∃ j:Int,ds=[.int j]∧(-16777216≤j∧j≤16777216)∧es=rngD 0 j.toNat:=by
 unfold rng1 at h
 split at h
 ·rename_i j
  split at h
  ·rename_i q;cases h;exact⟨j,rfl,q,rfl⟩
  ·cases h
 ·cases h
theorem ur {ds:List D}{es:List D}(h:rng2 ds=.ok es):∃ i j:Int,ds=[.int i,.int j]∧((-16777216≤i∧i≤16777216)∧(-16777216≤j∧j≤16777216)∧j - i≤16777216)∧es=rngD i (j - i).toNat:=by
 unfold rng2 at h
 split at h
 ·rename_i i j
  split at h
  ·rename_i q;cases h;exact⟨i,j,rfl,q,rfl⟩
  ·cases h
 ·cases h
theorem ut {ds:List D}{k:Nat}(h:rng1 ds=.err k):False:=by
 unfold rng1 at h
 split at h
 ·split at h<;>cases h
 ·cases h
theorem uu {ds:List D}{k:Nat}(h:rng2 ds=.err k):False:=by
 unfold rng2 at h
 split at h
 ·split at h<;>cases h
 ·cases h
theorem aU {a:Expr}{p pos:Pos}(hg:Gl X "range")(hm:X.mg "range"=none)(ha:FA X F [a] gs)(hs:starEach [a] X.env=[(false,eval a X.env)]:=by rfl):FI X F tg (.Call (.Name "range" p) [a] [] pos) (iRange1 gs) :=
 (o4 hg hm ha hs).weak fun σ H Q ⟨Z,S,ok,w⟩=>aJ ok w fun ds vs H1 Z1 ok1 x1 rs w1=>by
  cases e:rng1 ds with
  | err k=>exact(ut e).elim
  | stuck=>rw[e]at w1;exact w1.elim
  | ok es =>
   rw[e]at w1
   obtain⟨j,rfl,hj,rfl⟩:=uq e
   exact⟨j,oi rs,by omega,by omega,WG.now w1 ok1.sub _ (ff (io 0 _) im) (by unfold rngD;rw[List.length_map,List.length_range];omega)⟩
theorem jN {a b:Expr}{p pos:Pos}(hg:Gl X "range")(hm:X.mg "range"=none)(ha:FA X F [a,b] gs)(hs:starEach [a,b] X.env=[(false,eval a X.env),(false,eval b X.env)]:=by rfl)(hs2:starEach [b] X.env=[(false,eval b X.env)]:=by rfl) :
  FI X F tg (.Call (.Name "range" p) [a,b] [] pos) (iRange2 gs) :=
 (o5 hg hm ha hs hs2).weak fun σ H Q ⟨Z,S,ok,w⟩=>aJ ok w fun ds vs H1 Z1 ok1 x1 rs w1=>by
  cases e:rng2 ds with
  | err k=>exact(uu e).elim
  | stuck=>rw[e]at w1;exact w1.elim
  | ok es =>
   rw[e]at w1
   obtain⟨i,j,rfl,hj,rfl⟩:=ur e
   exact⟨i,j,lH rs,⟨by omega,by omega,by omega,by omega⟩,WG.now w1 ok1.sub _ (ff (io i _) im) (by unfold rngD;rw[List.length_map,List.length_range];omega)⟩
end
def tGd (F:Fx)(g:D→SS→R SS):TG:=fun v σ H Q=>∃ Z S d,StOk F H Z S σ∧Rep F.K F.C Z d v∧WG F H Z (g d S) fun S' H' Z'=>∀ σ',StOk F H' Z' S' σ'→Q σ' H'
abbrev FG (X:Cx)(F:Fx)(tg:Expr)(g:D→SS→R SS):Prop:=PG X tg (tGd F g)
def gNm (i:Nat):D→SS→R SS:=fun d S=>.ok (S.set i (some (.val d)))
theorem _root_.L2.PG.weak {X:Cx}{tg:Expr}{t t':TG}(h:PG X tg t)(w:∀ v σ H Q,t' v σ H Q→t v σ H Q):PG X tg t':=fun pins s σ H v u Q I r q=>h pins s σ H v u Q I r (w v σ H Q q)
theorem ay {X:Cx}{F:Fx}(i:Nat){x:Str}{pos:Pos}(hN:X.N.Nodup)(hi:X.N[i]?=some x:=by rfl)(hx:Loc X.env.scope x:=by first | exact Or.inl rfl | exact Or.inr rfl)(hf:X.fn x=true∨X.env.scope.names.lookup x=some .local:=by first | exact .inl rfl | exact .inr rfl) :
  FG X F (.Name x pos) (gNm i):=(eY hN hi hx hf).weak fun v σ H Q ⟨Z,S,d,ok,r,w⟩=>WG.now w ok.sub _ (ok.setVal r)
end FF
end
noncomputable section
namespace FF
open PySem PySem.Spec PyProof.Rows L2
def spF (K:PySem.W.Frag)(C:Nat→Addr)(n:Nat)(f:List D→R D):Sp:=fun vs H Q E =>
 vs.length=n∧∃ Z ds,Same Z H∧Reps K C Z ds vs∧WG ⟨K,C,H,Z,E⟩ H Z (f ds) fun d H' Z'=>∀ v,Rep K C Z' d v→Q v H'
def outD (o:O):R D:=match o with
 | .nx _=>.ok .non
 | .rt d=>.ok d
 | .er k=>.err k
 | _=>.stuck
def startS (n:Nat)(ds:List D):SS:=ds.map (fun d=>some (.val d))++List.replicate (n - ds.length) none
def fnD (n:Nat)(body:SS→O):List D→R D:=fun ds=>outD (body (startS n ds))
theorem lI {F:Fx}{N:List Str}{ds:List D}{vs:List V}(z:Same F.Z0 F.H0)(r:Reps F.K F.C F.Z0 ds vs):StOk F F.H0 F.Z0 (startS N.length ds) (start N vs):=by
 have hl:=r.length
 have at_:∀ {i:Nat} {x:Option Sl},(startS N.length ds)[i]?=some x→(i < ds.length∧∃ d,ds[i]?=some d∧x=some (.val d))∨x=none:=fun {i x} e=>by
  unfold startS at e
  by_cases hi:i < ds.length
  ·rw[List.getElem?_append_left (by simpa using hi),List.getElem?_map]at e
   cases q:ds[i]? with
   | none=>rw[q]at e;cases e
   | some d=>rw[q]at e;cases e;exact .inl ⟨hi,d,rfl,rfl⟩
  ·rw[List.getElem?_append_right (by simpa using hi),List.getElem?_replicate]at e
   split at e
   ·cases e;exact .inr rfl
   ·cases e
 refine⟨Ex.refl z,?_,fun i d e=>?_,fun i j x y v w A B _ e1 _ _ _ o1 _=>?_⟩
 ·unfold startS L2.start
  simp[hl]
 ·rcases at_ e with ⟨hi,d',e1,e2⟩ | e2
  ·cases e2
   obtain⟨v,e3,rv⟩:=r.get e1
   refine⟨v,[],?_,⟨rfl,rv⟩,Priv.nil⟩
   unfold L2.start
   rw[List.getElem?_append_left (by simpa [← hl] using hi),List.getElem?_map,e3]
   rfl
  ·cases e2
 ·rcases at_ e1 with ⟨_,d',_,e2⟩ | e2
  ·cases e2;rw[o1.1];exact fun a ha=>nomatch ha
  ·cases e2
section
variable {P:Program}{w:World}{K:PySem.W.Frag}{mg:Str→Option Value}{base:Heap}
structure BX (X:Cx)(F:Fx)(k:Nat):Prop where
 room:Room k X.A
 K:X.K=F.K
 calm:X.calm=true
 pass:Passes (CXE X.prog X.w) X F.E
theorem xC {x qual:Str}{st:Stmt}{f:Addr}{fd:FuncData}{N ps:List Str}{k:Nat}{C:Nat→Addr}{body:SS→O}(F:Fun K x qual st f fd)(S:FnScope N ps (defScope st))
  (h:∀ (cdv:Value) (A:Around) (outer:List Env) (s:Shared) (H Z:Hp) (E:XK),BX (bodyX P w K mg base N qual (defScope st) f cdv A outer s H E) ⟨K,C,H,Z,E⟩ k →
   PassesOwn (model P w) (bodyX P w K mg base N qual (defScope st) f cdv A outer s H E).A (bodyX P w K mg base N qual (defScope st) f cdv A outer s H E).env (bodyX P w K mg base N qual (defScope st) f cdv A outer s H E).xe →
   FSs (bodyX P w K mg base N qual (defScope st) f cdv A outer s H E) ⟨K,C,H,Z,E⟩ (defBody st) body) :
  FnOk P w K mg base (CXE P w) (k+1) f fd ps (spF K C ps.length (fnD N.length body)):=by
 obtain⟨oc,od,kV,doc,pm,an,cdv,ct,osl,rfl,lk,hcd⟩:=F.ex
 refine vt lk hcd S (fun vs H Q E q=>q.1) fun A outer s H vs Q E hr hsp=>?_
 obtain⟨_,Z,ds,z,r,w⟩:=hsp
 refine⟨_,h cdv A outer s H Z E ⟨hr,rfl,rfl,jM⟩ PassesOwn.leaving,Z,startS N.length ds,lI (F:=⟨K,C,H,Z,E⟩) (N:=N) z r,?_⟩
 unfold fnD at w
 cases e:body (startS N.length ds) with
 | nx S'=>rw[e]at w;exact fun σ' H' Z' _ ok=>w H' Z' ok.ex .non (by rw[Rep])
 | rt d=>rw[e]at w;exact fun v H' Z' x rv=>w H' Z' x v rv
 | er k=>rw[e]at w;exact w
 | bk S'=>rw[e]at w;exact w.elim
 | ct S'=>rw[e]at w;exact w.elim
 | stuck=>rw[e]at w;exact w
end
structure Fn1 (P:Program)(w:World)(K:PySem.W.Frag)(mg:Str→Option Value)(base:Heap)(C:Nat→Addr)(k:Nat)(x:Str)(ps:List Str)(f:List D→R D):Prop where
 ex:∃ a fd,FnOk P w K mg base (CXE P w) k a fd ps (spF K C ps.length f)∧mg x=some (.ref a)∧PySem.W.keepIn K (.ref a)=true∧Binds K fd ps []
def eCall (f:List D→R D)(gs:SS→R (List D)):SS→R D:=fun S=>(gs S).bind f
section
variable {X:Cx}{F:Fx}{x:Str}{p pos:Pos}{e:Expr}{es:List Expr}{gs:SS→R (List D)}{k:Nat}{ps:List Str}{f:List D→R D}
theorem rE (n:Nat)(hn:∀ S ds,gs S=.ok ds→ds.length=n):∀ σ H Q,tE F (eCall f gs) σ H Q→tCall (spF F.K F.C n f) [] F.E (tAl F gs) σ H Q:=fun σ H Q ⟨Z,S,ok,w⟩=>by
 refine⟨Z,S,ok,?_⟩
 cases e:gs S with
 | err k=>unfold eCall at w;rw[e]at w;exact w
 | stuck=>unfold eCall at w;rw[e]at w;exact w
 | ok ds =>
  unfold eCall at w
  rw[e]at w
  intro H1 Z1 x1 vs rs
  have w1:=WG.more (r:=f ds) w x1
  refine⟨by rw[List.append_nil,← rs.length];exact hn S ds e,Z1,ds,x1.sub,by rw[List.append_nil];exact rs,?_⟩
  cases q:f ds with
  | ok d=>rw[q]at w1;exact w1
  | err k=>rw[q]at w1;exact w1
  | stuck=>rw[q]at w1;exact w1
theorem uv (b:BX X F k)(h:Fn1 X.prog X.w F.K X.mg X.base F.C k x ps f)(hg:Gl X x)(ha:FA X F (e::es) gs)(hn:∀ S ds,gs S=.ok ds→ds.length=ps.length)(hdb:(x==("__debug__":Str))=false:=by decide)
  (he:starEach (e::es) X.env=(false,eval e X.env)::starEach es X.env:=by rfl) (hpl:(backTo pos (starEach es X.env)).any (·.1)=false:=by rfl):FE X F (.Call (.Name x p) (e::es) [] pos) (eCall f gs):=by
 obtain⟨a,fd,h1,h2,h3,h4⟩:=h.ex
 have hK:=b.K
 exact(ua (ds:=[]) (dvs:=[]) (E:=F.E) (by rw[hK];exact h1) b.room hg h2 (by rw[hK];exact h3) (by rw[hK];exact h4) .nil b.pass ha hdb he hpl).weak (rE ps.length hn)
theorem pA {g:SS→R D}{gs:SS→R (List D)}{n:Nat}(h:∀ S ds,gs S=.ok ds→ds.length=n):∀ S ds,aCons g gs S=.ok ds→ds.length=n+1:=fun S ds e=>by
 unfold aCons at e
 cases q:g S with
 | err k=>rw[q]at e;cases e
 | stuck=>rw[q]at e;cases e
 | ok d =>
  rw[q]at e
  cases q2:gs S with
  | err k=>rw[R.bind_ok,q2]at e;cases e
  | stuck=>rw[R.bind_ok,q2]at e;cases e
  | ok r =>
   rw[R.bind_ok,q2]at e
   cases e
   simp[h S r q2]
end
def noErr {α:Type}(r:R α):R α:=match r with
 | .ok a=>.ok a
 | _=>.stuck
def blkS (own:Nat)(cap:List Nat)(S:SS):SS:=List.replicate own none++cap.map fun i=>match S[i]? with
 | some (some (.val d))=>some (.val d)
 | _=>none
def compGo (S:SS)(g:D→SS→R SS)(c:SS→R Bool)(e:SS→R D):List D→R (List D)
 | []=>.ok []
 | d::r=>(g d S).bind fun S1=>(c S1).bind fun t=>if t=true then (e S1).bind fun y=>(compGo S g c e r).bind fun ys=>.ok (y::ys) else compGo S g c e r
def eComp (own:Nat)(cap:List Nat)(it:SS→R (List D))(g:D→SS→R SS)(c:SS→R Bool)(e:SS→R D):SS→R D:=fun S=>(it S).bind fun ds=>(noErr (compGo (blkS own cap S) g c e ds)).bind fun ys=>.ok (.lst ys)
def tTrue:SS→R Bool:=fun _=>.ok true
abbrev noE (F:Fx):Fx:={ F with E:=fun _ _ _=>False }
def Own (own:Nat)(g:D→SS→R SS):Prop:=∀ d S S1,g d S=.ok S1→S1.length=S.length∧∀ i,own≤i→S1[i]?=S[i]?
theorem ap {X:Cx}{F:Fx}{k:Nat}(bx:BX X F k){scope:Scope}{cl:List (Str×Addr)}{C:Addr}{s:Shared}{H:Hp}{fp:List Addr}{N:List Str}:BX (blk X scope cl C s H fp N) (noE F) k :=
 ⟨bx.room,bx.K,rfl,fun pins σ H s e s' _ h=>by
  obtain⟨_,_,_,_,_,_,_,_,_,_,_,_,_,hE⟩:=h
  exact hE.elim⟩
theorem aZ {own i:Nat}(h:i < own):Own own (gNm i):=fun d S S1 e=>by
 cases e
 exact⟨by simp,fun j hj=>List.getElem?_set_ne (by omega)⟩
theorem StOk.forget {F:Fx}{H Z:Hp}{S S0:SS}{σ:St}(h:StOk F H Z S σ)(hl:S0.length=S.length)(hs:∀ (i:Nat) (x:Sl),S0[i]?=some (some x)→S[i]?=some (some x)):StOk F H Z S0 σ :=
 ⟨h.ex,hl.trans h.len,fun i x e=>h.sl i x (hs i _ e),fun i j x y v w A B hij e1 e2=>h.dj i j x y v w A B hij (hs i _ e1) (hs j _ e2)⟩
theorem fg {own:Nat}{cap:List Nat}{S:SS}{i:Nat}{x:Sl}(e:(blkS own cap S)[i]?=some (some x)):own≤i∧∃ k d,cap[i - own]?=some k∧S[k]?=some (some (.val d))∧x=.val d:=by
 unfold blkS at e
 by_cases hi:i < own
 ·rw[List.getElem?_append_left (by simpa using hi),List.getElem?_replicate]at e
  split at e<;>cases e
 ·rw[List.getElem?_append_right (by simpa using hi),List.length_replicate,List.getElem?_map]at e
  cases q:cap[i - own]? with
  | none=>rw[q]at e;cases e
  | some k =>
   rw[q]at e
   simp only[Option.map_some,Option.some.injEq]at e
   split at e
   ·rename_i d q2
    cases e
    exact⟨by omega,k,d,rfl,q2,rfl⟩
   ·cases e
theorem pB {F:Fx}{H Z:Hp}{S:SS}{σ:St}{own:Nat}{cap:List Nat}{D:Addr}(ok:StOk F H Z S σ)(hD:H D=none):StOk (noE F) (upd H D (.lst [])) Z (blkS own cap S) (startB own cap σ):=by
 refine⟨ok.ex.trans (Ex.hidden ok.sub hD),by simp[blkS,startB],fun i x e=>?_,fun i j x y v w A B _ e1 _ _ _ o1 _=>?_⟩
 ·obtain⟨hi,k,d',q1,q2,q3⟩:=fg e
  cases q3
  obtain⟨v,e1,r⟩:=ok.val k d' q2
  refine⟨v,[],?_,⟨rfl,r⟩,Priv.nil⟩
  unfold startB
  rw[List.getElem?_append_right (by simpa using hi),List.length_replicate,List.getElem?_map,q1]
  simp[e1]
 ·obtain⟨_,_,_,_,_,q⟩:=fg e1
  cases q
  rw[o1.1];exact fun a ha=>nomatch ha
section
variable {X:Cx}{F:Fx}{tg iter elt:Expr}{ifs:List Expr}{scope:Scope}{N:List Str}{own:Nat}{cap:List Nat}{pos:Pos}{git:SS→R (List D)}{g:D→SS→R SS}{gc:SS→R Bool}{ge:SS→R D}
theorem m6 {σ:St}{H Z:Hp}{S:SS}{ifs:List Expr}{P:D→Hp→Hp→Prop}{Q:Addr→Hp→Prop}(hgc:ifs=[]→gc=tTrue)(hgo:Own own g)(ok:StOk F H Z S σ)(w:WG F H Z (eComp own cap git g gc ge S) P)
  (hP:∀ D ys ds H1 Z1 H' Z',Ex H Z H1 Z1→H1 D=none→Ex H1 Z1 H' Z'→Z' D=none→(∀ H'' Z'',Ex H1 Z1 H'' Z''→P (.lst ds) H'' Z'')→H' D=some (.lst ys)→Reps F.K F.C Z' ds ys→Q D H') :
  tI F git σ H fun J H1=>∀ D,H1 D=none→∃ W,BlkW sizeLine J (tGd (noE F) g) (tTests ifs (tT (noE F) gc)) (tE (noE F) ge) D (fun H' _=>Q D H') W∧∃ m,W 0 m (startB own cap σ) (upd H1 D (.lst [])) []:=by
 refine⟨Z,S,ok,?_⟩
 unfold eComp at w
 cases e:git S with
 | err k=>rw[e]at w;exact w
 | stuck=>rw[e]at w;exact w
 | ok ds =>
  rw[e]at w
  intro H1 Z1 x1 J wk hlen D hD
  have w1:=WG.more (r:=(noErr (compGo (blkS own cap S) g gc ge ds)).bind fun ys=>R.ok (FF.D.lst ys)) w x1
  have ok1:=ok.more x1
  have hS:=sizeLine_eq
  refine⟨fun i m σ' H' ys=>m=ds.length - i∧i≤ds.length∧H' D=some (.lst ys)∧ys.length≤i∧∃ Z' acc,Ex H1 Z1 H' Z'∧Z' D=none∧Reps F.K F.C Z' acc ys∧StOk (noE F) H' Z' (blkS own cap S) σ' ∧
   WG F H1 Z1 ((noErr (compGo (blkS own cap S) g gc ge (ds.drop i))).bind fun zs=>R.ok (FF.D.lst (acc++zs))) P,?_,ds.length,rfl,Nat.zero_le _,ak,Nat.le_refl _,Z1,[],Ex.hidden ok1.sub hD,ok1.sub.free hD,Reps.nil,pB ok1 hD,w1⟩
  rintro i m σ2 H2 ys ⟨rfl,hle,hDy,hyl,Z2,acc,x2,hZD,ra,ok2,w2⟩
  refine⟨hDy,?_⟩
  obtain⟨k1,k2⟩:=wk i H2 Z2 x2.z x2.sub
  by_cases hlt:i < ds.length
  ·obtain⟨go,y⟩:=k1 hlt
   refine .inr ⟨go,fun x H' hy=>?_⟩
   obtain⟨Z2',d,x',e3,rd⟩:=y x H' hy
   have ok2:=ok2.more x'
   have hZD:Z2' D=none:=by
    cases r:Z2' D with
    | none=>rfl
    | some o =>
     rcases x'.new D (by rw[r];simp) with z | z
     ·exact absurd hZD z
     ·rw[hDy]at z;cases z
   have hDy:=x'.same _ _ hDy
   have x2:=x2.trans x'
   have ra:=ra.mono x'.z
   have hd:ds.drop i=d::ds.drop (i+1):=by
    obtain⟨hi,e4⟩:=List.getElem?_eq_some_iff.mp e3
    rw[List.drop_eq_getElem_cons hi,e4]
   rw[hd]at w2
   unfold compGo at w2
   refine⟨Z2',blkS own cap S,d,ok2,rd,?_⟩
   cases qg:g d (blkS own cap S) with
   | err k=>rw[qg]at w2;exact w2.elim
   | stuck=>rw[qg]at w2;exact w2.elim
   | ok S1 =>
    rw[qg,R.bind_ok]at w2
    intro H3 Z3 x3 σ3 ok3
    obtain⟨gl,gk⟩:=hgo _ _ _ qg
    have back:∀ {H Z:Hp},StOk (noE F) H Z S1 σ3→StOk (noE F) H Z (blkS own cap S) σ3:=fun h=>h.forget gl.symm fun j z q=>by
     rw[gk j (fg q).1];exact q
    have hD3:H3 D=some (.lst ys):=x3.same _ _ hDy
    have x13:=x2.trans x3
    have zD:∀ {H Z:Hp},Ex H1 Z1 H Z→Ex H' Z2' H Z→Z D=none:=fun {H Z} _ q=>by
     cases r:Z D with
     | none=>rfl
     | some o =>
      rcases q.new D (by rw[r];simp) with z | z
      ·exact absurd hZD z
      ·rw[hDy]at z;cases z
    have fin:∀ (t:Bool) (H4 Z4:Hp),Ex H' Z2' H4 Z4→StOk (noE F) H4 Z4 S1 σ3→gc S1=.ok t→if t=true then tE (noE F) ge σ3 H4 fun y H5=>H5 D=some (.lst ys)∧ys.length < sizeLine∧∃ m',m' < ds.length - i∧(m'=ds.length - (i+1)∧i+1≤ds.length∧(upd H5 D (.lst (ys++[y]))) D=some (.lst (ys++[y]))∧(ys++[y]).length≤i+1∧∃ Z' acc,Ex H1 Z1 (upd H5 D (.lst (ys++[y]))) Z'∧Z' D=none∧Reps F.K F.C Z' acc (ys++[y])∧StOk (noE F) (upd H5 D (.lst (ys++[y]))) Z' (blkS own cap S) σ3 ∧
      WG F H1 Z1 ((noErr (compGo (blkS own cap S) g gc ge (ds.drop (i+1)))).bind fun zs=>R.ok (FF.D.lst (acc++zs))) P)
      else ∃ m',m' < ds.length - i∧(m'=ds.length - (i+1)∧i+1≤ds.length∧H4 D=some (.lst ys)∧ys.length≤i+1∧∃ Z' acc,Ex H1 Z1 H4 Z'∧Z' D=none∧Reps F.K F.C Z' acc ys∧StOk (noE F) H4 Z' (blkS own cap S) σ3 ∧
      WG F H1 Z1 ((noErr (compGo (blkS own cap S) g gc ge (ds.drop (i+1)))).bind fun zs=>R.ok (FF.D.lst (acc++zs))) P):=by
     intro t H4 Z4 x4 ok4 qc
     rw[qc,R.bind_ok]at w2
     cases t with
     | false =>
      rw[if_neg Bool.false_ne_true]at w2 ⊢
      exact⟨ds.length - (i+1),by omega,rfl,hlt,x4.same _ _ hDy,by omega,Z4,acc,x2.trans x4,zD (x2.trans x4) x4,ra.mono x4.z,back ok4,w2⟩
     | true =>
      rw[if_pos rfl]at w2 ⊢
      refine⟨Z4,S1,ok4,?_⟩
      cases qe:ge S1 with
      | err k=>rw[qe]at w2;exact w2.elim
      | stuck=>rw[qe]at w2;exact w2.elim
      | ok yd =>
       rw[qe,R.bind_ok]at w2
       intro H5 Z5 x5 yv ry
       have hD5:H5 D=some (.lst ys):=x5.same _ _ (x4.same _ _ hDy)
       have x25:=x4.trans x5
       have z5:=zD (x2.trans x25) x25
       have ok5:=ok4.more x5
       have n0:F.H0 D=none:=ok1.ex.same.free hD
       have xu:Ex H1 Z1 (upd H5 D (.lst (ys++[yv]))) Z5:=by
        have q:=x2.trans x25
        refine⟨fun b o e=>?_,q.z,fun b o e=>?_,q.new⟩
        ·rw[av (fun z=>by subst z;rw[hD]at e;cases e)];exact q.same b o e
        ·rw[av (fun z=>by subst z;rw[z5]at e;cases e)];exact q.sub b o e
       refine⟨hD5,by omega,ds.length - (i+1),by omega,rfl,hlt,ak,by simp;omega,Z5,acc++[yd],xu,z5,(ra.mono x25.z).append (Reps.cons ry Reps.nil),?_,?_⟩
       ·have q:=back ok5
        refine⟨⟨fun b o e=>?_,q.ex.z,fun b o e=>?_,q.ex.new⟩,q.len,fun j x e=>?_,fun j k x y v w A B _ e1 _ _ _ o1 _=>?_⟩
        ·rw[av (fun z=>by subst z;have e':F.H0 b=some o:=e;rw[n0]at e';cases e')];exact q.ex.same b o e
        ·rw[av (fun z=>by subst z;rw[z5]at e;cases e)];exact q.ex.sub b o e
        ·obtain⟨_,_,_,_,_,z⟩:=fg e
         cases z
         obtain⟨v,e1,r⟩:=q.val j _ e
         exact⟨v,[],e1,⟨rfl,r⟩,Priv.nil⟩
        ·obtain⟨_,_,_,_,_,z⟩:=fg e1
         cases z
         rw[o1.1];exact fun a ha=>nomatch ha
       ·cases qr:compGo (blkS own cap S) g gc ge (ds.drop (i+1)) with
        | err k=>rw[qr]at w2;exact w2.elim
        | stuck=>rw[qr]at w2;exact w2.elim
        | ok zs=>rw[qr]at w2;simpa [noErr,List.append_assoc] using w2
    cases qc:gc S1 with
    | err k=>rw[qc]at w2;exact w2.elim
    | stuck=>rw[qc]at w2;exact w2.elim
    | ok t =>
     cases ifs with
     | nil =>
      have:=hgc rfl
      subst this
      cases qc
      exact fin true H3 Z3 x3 ok3 rfl
     | cons c r =>
      refine⟨Z3,S1,ok3,?_⟩
      rw[qc]
      intro H4 Z4 x4
      exact fin t H4 Z4 (x3.trans x4) (ok3.more x4) qc
  ·have ei:i=ds.length:=by omega
   refine .inl ⟨k2 (by omega),?_⟩
   rw[List.drop_eq_nil_of_le (by omega)]at w2
   have w3:WG F H1 Z1 (R.ok (FF.D.lst (acc++[]))) P:=w2
   rw[List.append_nil]at w3
   exact hP D ys acc H1 Z1 H2 Z2 x1 hD x2 hZD w3 hDy ra
theorem fY {σ:St}{H Z:Hp}{S:SS}{ifs:List Expr}{P:D→Hp→Hp→Prop}{Q:Addr→Hp→Prop}(hgc:ifs=[]→gc=tTrue)(hgo:Own own g)(ok:StOk F H Z S σ)(w:WG F H Z (eComp own cap git g gc ge S) P)(hP:∀ D ys ds H' Z',Ex H Z H' Z'→P (.lst ds) H' Z'→H' D=some (.lst ys)→Z' D=some (.lst ys)→Reps F.K F.C Z' ds ys→Q D H') :
  tI F git σ H fun J H1=>∀ D,H1 D=none→∃ W,BlkW sizeLine J (tGd (noE F) g) (tTests ifs (tT (noE F) gc)) (tE (noE F) ge) D (fun H' _=>Q D H') W∧∃ m,W 0 m (startB own cap σ) (upd H1 D (.lst [])) [] :=
 m6 hgc hgo ok w fun D ys ds H1 Z1 H2 Z2 x1 hD x2 hZD w3 hDy ra=>by
  have hz:Same Z2 (upd Z2 D (.lst ys)):=aw hZD
  have xf:Ex H1 Z1 H2 (upd Z2 D (.lst ys)):=by
   refine⟨x2.same,x2.z.trans hz,fun b o e=>?_,fun b hb=>?_⟩
   ·by_cases q:b=D
    ·subst q;rw[ak]at e;cases e;exact hDy
    ·rw[av q]at e;exact x2.sub b o e
   ·by_cases q:b=D
    ·subst q;exact .inr hD
    ·rw[av q]at hb;exact x2.new b hb
  exact hP D ys ds H2 _ (x1.trans xf) (w3 H2 _ xf) hDy ak (ra.mono hz)
theorem aO {k:Nat}(bx:BX X F k)(b:BlkOk X.N X.env.scope scope N own cap)(hi:FI X F tg iter git)(hgo:Own own g)
  (hg:∀ cl C s H fp,FG (blk X scope cl C s H fp N) (noE F) tg g) (he:∀ cl C s H fp,FE (blk X scope cl C s H fp N) (noE F) elt ge)
  (hs:∀ x,foldedSetIterable iter X.env x=pure x:=by intro _;rfl):FE X F (.ListComp elt [⟨tg,iter,[],0⟩] scope pos) (eComp own cap git g tTrue ge) :=
 (oh (ifs:=[]) (tc:=tT (noE F) tTrue) b bx.calm (by simp) hi hg (fun c q=>nomatch q) he hs).weak fun σ H Q ⟨Z,S,ok,w⟩ =>
  fY (fun _=>rfl) hgo ok w fun D ys ds H' Z' _ p h1 h2 r=>p _ (by rw[Rep];exact⟨D,ys,rfl,SqL.of h2,r⟩)
theorem dW {k:Nat}{c:Expr}(bx:BX X F k)(b:BlkOk X.N X.env.scope scope N own cap)(hi:FI X F tg iter git)(hgo:Own own g)
  (hg:∀ cl C s H fp,FG (blk X scope cl C s H fp N) (noE F) tg g) (ht:∀ cl C s H fp,FT (blk X scope cl C s H fp N) (noE F) c gc) (he:∀ cl C s H fp,FE (blk X scope cl C s H fp N) (noE F) elt ge)
  (hs:∀ x,foldedSetIterable iter X.env x=pure x:=by intro _;rfl):FE X F (.ListComp elt [⟨tg,iter,[c],0⟩] scope pos) (eComp own cap git g gc ge) :=
 (oh (ifs:=[c]) b bx.calm (by simp) hi hg (fun c' q=>by cases q;exact ht) he hs).weak fun σ H Q ⟨Z,S,ok,w⟩ =>
  fY (fun q=>nomatch q) hgo ok w fun D ys ds H' Z' _ p h1 h2 r=>p _ (by rw[Rep];exact⟨D,ys,rfl,SqL.of h2,r⟩)
theorem WG.unbind {α β:Type}{F:Fx}{H Z:Hp}{r:R α}{f:α→β}{P:β→Hp→Hp→Prop}(w:WG F H Z (r.bind fun d=>.ok (f d)) P):WG F H Z r fun d H' Z'=>P (f d) H' Z':=by
 cases r with
 | ok d=>exact w
 | err k=>exact w
 | stuck=>exact w
theorem rF {i:Nat}{D:Ends}{σ:St}{H Z:Hp}{S:SS}(hgc:ifs=[]→gc=tTrue)(hgo:Own own g)(ok:StOk F H Z S σ)(w:WO F Z (sSet i (eComp own cap git g gc ge) S) D) :
  tCompSet i own cap (tI F git) (tGd (noE F) g) (tTests ifs (tT (noE F) gc)) (tE (noE F) ge) D σ H :=
 fY (P:=fun d _ Z'=>WO F Z' (.nx (S.set i (some (.val d)))) D) (Q:=fun a H'=>D.nx (σ.set i (some (.ref a))) H') hgc hgo ok (WG.unbind (WO.wg ok w)) fun a ys ds H' Z' x p h1 h2 r =>
  p _ H' Z' (Same.refl _) ((ok.more x).setVal (by rw[Rep];exact⟨a,ys,rfl,SqL.of h2,r⟩))
theorem kB {k:Nat}(i:Nat){y:Str}{py spos:Pos}{c:Expr}(bx:BX X F k)(b:BlkOk X.N X.env.scope scope N own cap)(hi:FI X F tg iter git)(hgo:Own own g)
  (hg:∀ cl C s H fp,FG (blk X scope cl C s H fp N) (noE F) tg g) (ht:∀ cl C s H fp,FT (blk X scope cl C s H fp N) (noE F) c gc) (he:∀ cl C s H fp,FE (blk X scope cl C s H fp N) (noE F) elt ge) (hN:X.N.Nodup)
  (hsw:swapsWith (.ListComp elt [⟨tg,iter,[c],0⟩] scope pos) (some (.Name y py)) spos.line X.env=pure true:=by rfl) (hiy:X.N[i]?=some y:=by rfl) (hy:Loc X.env.scope y:=by first | exact Or.inl rfl | exact Or.inr rfl)
  (hfn:X.fn y=true∨X.env.scope.names.lookup y=some .local:=by first | exact .inl rfl | exact .inr rfl) (hs:∀ x,foldedSetIterable iter X.env x=pure x:=by intro _;rfl) :
  FS X F (.Assign [.Name y py] (.ListComp elt [⟨tg,iter,[c],0⟩] scope pos) spos) (sSet i (eComp own cap git g gc ge)) :=
 (m5 (ifs:=[c]) b bx.calm (by simp) hi hg (fun c' q=>by cases q;exact ht) he hN hiy hy hfn hsw hs).weak fun D σ H ⟨Z,S,ok,w⟩=>rF (fun q=>nomatch q) hgo ok w
end
end FF
end
noncomputable section
namespace FF
open PySem PySem.Spec PyProof.Rows L2
def dAdd (x y:D):R D:=if isInt x=true then dI0 (fun i j=>.int (i+j)) x y else if isTup x=true then dCatT x y else dCatL x y
def dSub:D→D→R D:=dI0 fun i j=>.int (i - j)
def dMul (x y:D):R D:=if isInt x=true then dI cMul (fun i j=>.int (i*j)) x y else if isTup x=true then dRepT x y else dRepL x y
def dDiv:D→D→R D:=dI cDiv fun i j=>.int (i/j)
def dMod:D→D→R D:=dI (fun _ j=>decide (0 < j)) fun i j=>.int (i%j)
def dLt:D→D→R D:=dI0 fun i j=>.bl (decide (i < j))
def dLe:D→D→R D:=dI0 fun i j=>.bl (decide (i≤j))
def dGt:D→D→R D:=dI0 fun i j=>.bl (decide (j < i))
def dGe:D→D→R D:=dI0 fun i j=>.bl (decide (j≤i))
theorem aG {K:PySem.W.Frag}{C:Nat→Addr}{Z:Hp}{i:Int}:Rep K C Z (.int i) (.int i):=by rw[Rep]
theorem a9 {K:PySem.W.Frag}{C:Nat→Addr}{Z:Hp}{i:Bool}:Rep K C Z (.bl i) (.bl i):=by rw[Rep]
section
variable {X:Cx}{F:Fx}{a b c:Expr}{ga gb gc:SS→R D}{pos:Pos}
theorem cI (ha:FE X F a ga)(hb:FE X F b gb):FE X F (.BinOp a .Sub b pos) (eOp dSub ga gb):=lD vZ (cH fun _ _ _=>aG) ha hb
theorem ip (ha:FE X F a ga)(hb:FE X F b gb):FE X F (.BinOp a .FloorDiv b pos) (eOp dDiv ga gb):=lD t6 (rk uj fun _ _ _=>aG) ha hb
theorem eD (ha:FE X F a ga)(hb:FE X F b gb):FE X F (.BinOp a .Mod b pos) (eOp dMod ga gb):=lD v4 (rk (fun i j h=>of_decide_eq_true h) fun _ _ _=>aG) ha hb
theorem rG (ha:FE X F a ga)(hb:FE X F b gb):FE X F (.Compare a [.LtE] [b] pos) (eOp dLe ga gb):=rh n5 (cH fun _ _ _=>a9) ha hb
theorem vA (ha:FE X F a ga)(hb:FE X F b gb):FT X F (.Compare a [.Lt] [b] pos) (gB (eOp dLt ga gb)):=fT vp (cH fun _ _ _=>a9) ha hb
theorem wX (ha:FE X F a ga)(hb:FE X F b gb):FT X F (.Compare a [.Gt] [b] pos) (gB (eOp dGt ga gb)):=fT wU (cH fun _ _ _=>a9) ha hb
theorem ah (hK:X.K=F.K)(ha:FE X F a ga)(hb:FE X F b gb)(hs:PlainIx b:=by intro _ _;rfl):FE X F (.Subscript a b pos) (eOp dIx ga gb):=wW wa (by rw[hK];exact wj) ha hb hs
theorem uw:OpR X (binaryOp .Add) (fun x y H Q=>rI0 (fun i j=>.int (i+j)) x y H Q∨(rCat2 X.K x y H Q∨∃ a b xs ys,x=.ref a∧y=.ref b∧SqL X.K H a xs∧SqL X.K H b ys∧xs.length+ys.length≤sizeLine∧∀ p,H p=none→Q (.ref p) (upd H p (.lst (xs++ys))))) :=
 vY.or (uk.or rA)
theorem aD (hK:X.K=F.K)(ha:FE X F a ga)(hb:FE X F b gb):FE X F (.BinOp a .Add b pos) (eOp dAdd ga gb) :=
 lD uw (by rw[hK];exact OpD.or (fun x _=>isInt x) (cH fun _ _ _=>aG) (OpD.or (fun x _=>isTup x) rm rz)) ha hb
theorem bV (hK:X.K=F.K)(ha:FE X F a ga)(hb:FE X F b gb):FE X F (.BinOp a .Mult b pos) (eOp dMul ga gb) :=
 lD (v3.or (ul.or um)) (by rw[hK];exact OpD.or (fun x _=>isInt x) (rk ui fun _ _ _=>aG) (OpD.or (fun x _=>isTup x) rq rB)) ha hb
end
theorem wm {X:Cx}{pins:List (Addr×Obj)}{σ:St}{H Z:Hp}{s:Shared}{K:PySem.W.Frag}{C:Nat→Addr}(hK:X.K=K)(I:Inv X pins σ H s)(z:Same Z H)(n:Nat)(A:Around)(d e:D)(v u:V)(x y:Value)(g1:good n d=true)(g2:good n e=true)
  (h:Rep K C Z d v) (h':Rep K C Z e u) (rx:RelV v x) (ry:RelV u y) (hu:A.units+n < cLine):SeqAt.RcAt A s x y (eqD d e):=by
 have hu0:A.units < cLine:=by omega
 cases d with
 | exc k=>cases n<;>simp[good]at g1
 | fn k=>cases n<;>simp[good]at g1
 | tup ds =>
  cases n with
  | zero=>simp[good]at g1
  | succ n =>
   have in1:A.in1.units+n < cLine:=by show A.units+1+n < cLine;omega
   rw[Rep]at h
   obtain⟨a,vs,rfl,h1,h2⟩:=h
   cases rx
   obtain⟨its,r,p,_⟩:=I.tuple (by rw[hK];exact h1.mono z:SqT X.K H a vs)
   have p':s.heap.IsTuple a its.toArray:=p
   cases e with
   | tup es =>
    rw[Rep]at h'
    obtain⟨b,us,rfl,k1,k2⟩:=h'
    cases ry
    obtain⟨its2,r2,p2,_⟩:=I.tuple (by rw[hK];exact k1.mono z:SqT X.K H b us)
    have p2':s.heap.IsTuple b its2.toArray:=p2
    rw[good]at g1 g2
    have q:=SeqAt.RcAt.tuples (A:=A) (e:=fun j=>eqD (ds.getD j .non) (es.getD j .non)) p' p2' hu0 fun j j1 j2=>by
     have j1':j < its.length:=by simpa using j1
     have j2':j < its2.length:=by simpa using j2
     have l1:j < ds.length:=by rw[h2.length,r.length];exact j1'
     have l2:j < es.length:=by rw[k2.length,r2.length];exact j2'
     have e1:ds[j]?=some ds[j]:=by simp
     have e2:es[j]?=some es[j]:=by simp
     obtain⟨w1,f1,f2⟩:=h2.get e1
     obtain⟨w2,f3,f4⟩:=k2.get e2
     obtain⟨z1,m1,m2⟩:=r.get f1
     obtain⟨z2,m3,m4⟩:=r2.get f3
     have n1:its.toArray[j]=z1:=by simpa [j1'] using m1
     have n2:its2.toArray[j]=z2:=by simpa [j2'] using m3
     rw[n1,n2]
     have g3:ds.getD j .non=ds[j]:=by simp[l1]
     have g4:es.getD j .non=es[j]:=by simp[l2]
     rw[g3,g4]
     exact fV hK I z n A.in1 _ _ w1 w2 z1 z2 (aE g1 e1) (aE g2 e2) f2 f4 m2 m4 in1
    rw[eqD,bU]
    have s1:its.toArray.size=ds.length:=by rw[List.size_toArray,h2.length,r.length]
    have s2:its2.toArray.size=es.length:=by rw[List.size_toArray,k2.length,r2.length]
    rw[s1,s2]at q
    exact q
   | lst es =>
    rw[Rep]at h'
    obtain⟨b,us,rfl,k1,k2⟩:=h'
    cases ry
    obtain⟨its2,r2,p2,_⟩:=I.list (by rw[hK];exact z.seq k1:SqL X.K H b us)
    simp only[eqD]
    exact SeqAt.RcAt.tuple_list p' p2.isList hu0
   | exc k=>simp[good]at g2
   | fn k=>simp[good]at g2
   | non=>rw[Rep]at h';subst h';cases ry;simp only[eqD];exact SeqAt.RcAt.tuple_none p' hu0
   | bl b=>rw[Rep]at h';subst h';cases ry;simp only[eqD];exact SeqAt.RcAt.tuple_bool _ p' hu0
   | int b=>rw[Rep]at h';subst h';obtain⟨t,rfl⟩:=ry;simp only[eqD];exact SeqAt.RcAt.tuple_int _ _ p' hu0
   | str b=>rw[Rep]at h';subst h';obtain⟨t,rfl⟩:=ry;simp only[eqD];exact SeqAt.RcAt.tuple_str _ _ p' hu0
 | lst ds =>
  cases n with
  | zero=>simp[good]at g1
  | succ n =>
   have in1:A.in1.units+n < cLine:=by show A.units+1+n < cLine;omega
   rw[Rep]at h
   obtain⟨a,vs,rfl,h1,h2⟩:=h
   cases rx
   obtain⟨its,r,p,_⟩:=I.list (by rw[hK];exact z.seq h1:SqL X.K H a vs)
   have p':=p.isList
   cases e with
   | lst es =>
    rw[Rep]at h'
    obtain⟨b,us,rfl,k1,k2⟩:=h'
    cases ry
    obtain⟨its2,r2,p2,_⟩:=I.list (by rw[hK];exact z.seq k1:SqL X.K H b us)
    have p2':=p2.isList
    rw[good]at g1 g2
    have s1:its.toArray.size=ds.length:=by rw[List.size_toArray,h2.length,r.length]
    have s2:its2.toArray.size=es.length:=by rw[List.size_toArray,k2.length,r2.length]
    rw[eqD,bU]
    by_cases hsz:ds.length=es.length
    ·have q:=SeqAt.RcAt.lists (A:=A) (e:=fun j=>eqD (ds.getD j .non) (es.getD j .non)) p' p2' (by rw[s1,s2];exact hsz) hu0 fun j j1 j2=>by
      have j1':j < its.length:=by simpa using j1
      have j2':j < its2.length:=by simpa using j2
      have l1:j < ds.length:=by rw[h2.length,r.length];exact j1'
      have l2:j < es.length:=by rw[k2.length,r2.length];exact j2'
      have e1:ds[j]?=some ds[j]:=by simp
      have e2:es[j]?=some es[j]:=by simp
      obtain⟨w1,f1,f2⟩:=h2.get e1
      obtain⟨w2,f3,f4⟩:=k2.get e2
      obtain⟨z1,m1,m2⟩:=r.get f1
      obtain⟨z2,m3,m4⟩:=r2.get f3
      have n1:its.toArray[j]=z1:=by simpa [j1'] using m1
      have n2:its2.toArray[j]=z2:=by simpa [j2'] using m3
      rw[n1,n2]
      have g3:ds.getD j .non=ds[j]:=by simp[l1]
      have g4:es.getD j .non=es[j]:=by simp[l2]
      rw[g3,g4]
      exact fV hK I z n A.in1 _ _ w1 w2 z1 z2 (aE g1 e1) (aE g2 e2) f2 f4 m2 m4 in1
     rw[s1]at q
     rw[hsz,Nat.min_self,beq_self_eq_true,Bool.and_true,← hsz]
     exact q
    ·have q:=SeqAt.RcAt.lists_lengths (A:=A) p' p2' (by rw[s1,s2];simpa using hsz) hu0
     rw[show (ds.length==es.length)=false by simpa using hsz,Bool.and_false]
     exact q
   | tup es =>
    rw[Rep]at h'
    obtain⟨b,us,rfl,k1,k2⟩:=h'
    cases ry
    obtain⟨its2,r2,p2,_⟩:=I.tuple (by rw[hK];exact k1.mono z:SqT X.K H b us)
    simp only[eqD]
    exact SeqAt.RcAt.list_tuple p' (show s.heap.IsTuple b its2.toArray from p2) hu0
   | exc k=>simp[good]at g2
   | fn k=>simp[good]at g2
   | non=>rw[Rep]at h';subst h';cases ry;simp only[eqD];exact SeqAt.RcAt.list_none p' hu0
   | bl b=>rw[Rep]at h';subst h';cases ry;simp only[eqD];exact SeqAt.RcAt.list_bool _ p' hu0
   | int b=>rw[Rep]at h';subst h';obtain⟨t,rfl⟩:=ry;simp only[eqD];exact SeqAt.RcAt.list_int _ _ p' hu0
   | str b=>rw[Rep]at h';subst h';obtain⟨t,rfl⟩:=ry;simp only[eqD];exact SeqAt.RcAt.list_str _ _ p' hu0
 | non =>
  rw[Rep]at h;subst h;cases rx
  cases e with
  | tup es =>
   rw[Rep]at h'
   obtain⟨b,us,rfl,k1,k2⟩:=h'
   cases ry
   obtain⟨its2,r2,p2,_⟩:=I.tuple (by rw[hK];exact k1.mono z:SqT X.K H b us)
   simp only[eqD];exact SeqAt.RcAt.none_tuple (show s.heap.IsTuple b its2.toArray from p2) hu0
  | lst es =>
   rw[Rep]at h'
   obtain⟨b,us,rfl,k1,k2⟩:=h'
   cases ry
   obtain⟨its2,r2,p2,_⟩:=I.list (by rw[hK];exact z.seq k1:SqL X.K H b us)
   simp only[eqD];exact SeqAt.RcAt.none_list p2.isList hu0
  | exc k=>cases n<;>simp[good]at g2
  | fn k=>cases n<;>simp[good]at g2
  | non=>rw[Rep]at h';subst h';cases ry;simp only[eqD];exact SeqAt.RcAt.none_none
  | bl b=>rw[Rep]at h';subst h';cases ry;simp only[eqD];exact SeqAt.RcAt.none_bool _
  | int b=>rw[Rep]at h';subst h';obtain⟨t,rfl⟩:=ry;simp only[eqD];exact SeqAt.RcAt.none_int _ _
  | str b=>rw[Rep]at h';subst h';obtain⟨t,rfl⟩:=ry;simp only[eqD];exact SeqAt.RcAt.none_str _ _
 | bl a =>
  rw[Rep]at h;subst h;cases rx
  cases e with
  | tup es =>
   rw[Rep]at h'
   obtain⟨b,us,rfl,k1,k2⟩:=h'
   cases ry
   obtain⟨its2,r2,p2,_⟩:=I.tuple (by rw[hK];exact k1.mono z:SqT X.K H b us)
   simp only[eqD];exact SeqAt.RcAt.bool_tuple _ (show s.heap.IsTuple b its2.toArray from p2) hu0
  | lst es =>
   rw[Rep]at h'
   obtain⟨b,us,rfl,k1,k2⟩:=h'
   cases ry
   obtain⟨its2,r2,p2,_⟩:=I.list (by rw[hK];exact z.seq k1:SqL X.K H b us)
   simp only[eqD];exact SeqAt.RcAt.bool_list _ p2.isList hu0
  | exc k=>cases n<;>simp[good]at g2
  | fn k=>cases n<;>simp[good]at g2
  | non=>rw[Rep]at h';subst h';cases ry;simp only[eqD];exact SeqAt.RcAt.bool_none _
  | bl b=>rw[Rep]at h';subst h';cases ry;simp only[eqD];exact SeqAt.RcAt.bool_bool _ _
  | int b=>rw[Rep]at h';subst h';obtain⟨t,rfl⟩:=ry;simp only[eqD];exact SeqAt.RcAt.bool_int _ _ _
  | str b=>rw[Rep]at h';subst h';obtain⟨t,rfl⟩:=ry;simp only[eqD];exact SeqAt.RcAt.bool_str _ _ _
 | int a =>
  rw[Rep]at h;subst h;obtain⟨t0,rfl⟩:=rx
  cases e with
  | tup es =>
   rw[Rep]at h'
   obtain⟨b,us,rfl,k1,k2⟩:=h'
   cases ry
   obtain⟨its2,r2,p2,_⟩:=I.tuple (by rw[hK];exact k1.mono z:SqT X.K H b us)
   simp only[eqD];exact SeqAt.RcAt.int_tuple _ _ (show s.heap.IsTuple b its2.toArray from p2) hu0
  | lst es =>
   rw[Rep]at h'
   obtain⟨b,us,rfl,k1,k2⟩:=h'
   cases ry
   obtain⟨its2,r2,p2,_⟩:=I.list (by rw[hK];exact z.seq k1:SqL X.K H b us)
   simp only[eqD];exact SeqAt.RcAt.int_list _ _ p2.isList hu0
  | exc k=>cases n<;>simp[good]at g2
  | fn k=>cases n<;>simp[good]at g2
  | non=>rw[Rep]at h';subst h';cases ry;simp only[eqD];exact SeqAt.RcAt.int_none _ _
  | bl b=>rw[Rep]at h';subst h';cases ry;simp only[eqD];exact SeqAt.RcAt.int_bool _ _ _
  | int b=>rw[Rep]at h';subst h';obtain⟨t,rfl⟩:=ry;simp only[eqD];exact SeqAt.RcAt.int_int _ _ _ _
  | str b=>rw[Rep]at h';subst h';obtain⟨t,rfl⟩:=ry;simp only[eqD];exact SeqAt.RcAt.int_str _ _ _ _
 | str a =>
  rw[Rep]at h;subst h;obtain⟨t0,rfl⟩:=rx
  cases e with
  | tup es =>
   rw[Rep]at h'
   obtain⟨b,us,rfl,k1,k2⟩:=h'
   cases ry
   obtain⟨its2,r2,p2,_⟩:=I.tuple (by rw[hK];exact k1.mono z:SqT X.K H b us)
   simp only[eqD];exact SeqAt.RcAt.str_tuple _ _ (show s.heap.IsTuple b its2.toArray from p2) hu0
  | lst es =>
   rw[Rep]at h'
   obtain⟨b,us,rfl,k1,k2⟩:=h'
   cases ry
   obtain⟨its2,r2,p2,_⟩:=I.list (by rw[hK];exact z.seq k1:SqL X.K H b us)
   simp only[eqD];exact SeqAt.RcAt.str_list _ _ p2.isList hu0
  | exc k=>cases n<;>simp[good]at g2
  | fn k=>cases n<;>simp[good]at g2
  | non=>rw[Rep]at h';subst h';cases ry;simp only[eqD];exact SeqAt.RcAt.str_none _ _
  | bl b=>rw[Rep]at h';subst h';cases ry;simp only[eqD];exact SeqAt.RcAt.str_bool _ _ _
  | int b=>rw[Rep]at h';subst h';obtain⟨t,rfl⟩:=ry;simp only[eqD];exact SeqAt.RcAt.str_int _ _ _ _
  | str b=>rw[Rep]at h';subst h';obtain⟨t,rfl⟩:=ry;simp only[eqD];exact SeqAt.RcAt.str_str _ _ _ _
def dEq (x y:D):R D:=if good 60 x=true∧good 60 y=true then .ok (.bl (eqD x y)) else .stuck
def rEqD (K:PySem.W.Frag)(C:Nat→Addr):R2:=fun x y H Q=>∃ Z d e,Same Z H∧Rep K C Z d x∧Rep K C Z e y∧good 60 d=true∧good 60 e=true∧Q (.bl (eqD d e)) H
section
variable {X:Cx}{F:Fx}{a b c:Expr}{ga gb gc:SS→R D}{pos:Pos}{k:Nat}
theorem rH (hK:X.K=F.K)(hr:Room k X.A):OpR X (compareOp .Eq) (rEqD F.K F.C):=by
 intro pins s σ H x y v u Q I rx ry h
 obtain⟨Z,d,e,z,h1,h2,g1,g2,q⟩:=h
 have hu:X.A.units+60 < cLine:=by have:=hr.un;omega
 exact wm hK I z 60 X.A d e x y v u g1 g2 h1 h2 rx ry hu X.prog X.w X.xe _ ⟨.bl (eqD d e),H,I,rfl,q⟩
theorem rJ:OpD F (rEqD F.K F.C) dEq:=by
 intro H Z x y dx dy Q s rx ry w
 unfold dEq at w
 split at w
 ·rename_i g
  exact⟨Z,dx,dy,s,rx,ry,g.1,g.2,WG.now w s _ a9⟩
 ·exact w.elim
theorem vB (bx:BX X F k)(ha:FE X F a ga)(hb:FE X F b gb):FE X F (.Compare a [.Eq] [b] pos) (eOp dEq ga gb):=rh (rH bx.K bx.room) rJ ha hb
theorem da (bx:BX X F k)(ha:FE X F a ga)(hb:FE X F b gb):FT X F (.Compare a [.Eq] [b] pos) (gB (eOp dEq ga gb)):=fT (rH bx.K bx.room) rJ ha hb
end
end FF
end
noncomputable section
namespace FF
open PySem PySem.Spec PyProof.Rows L2
def eChain (f f':D→D→R D)(ga gb gc:SS→R D):SS→R D:=fun S=>(ga S).bind fun x=>(gb S).bind fun y=>(asB (f x y)).bind fun k=>if k=true then (gc S).bind fun w=>f' y w else .ok (.bl false)
section
variable {X:Cx}{F:Fx}{a b c:Expr}{ga gb gc:SS→R D}{pos:Pos}{r r':R2}{f f':D→D→R D}{op op':CmpOp}
theorem pC (hd:OpD F r f)(hd':OpD F r' f'):∀ σ H Q,tE F (eChain f f' ga gb gc) σ H Q→tChain r r' (tE F ga) (tE F gb) (tE F gc) σ H Q:=fun σ H Q ⟨Z,S,ok,w⟩ =>
 ax ok w fun dx x H1 Z1 ok1 x1 rx w1=>ax ok1 w1 fun dy y H2 Z2 ok2 x2 ry w2=>hd H2 Z2 x y dx dy _ ok2.sub (rx.mono x2.z) ry (by
  cases e:f dx dy with
  | err k=>rw[e]at w2;exact w2
  | stuck=>rw[e]at w2;exact w2
  | ok d =>
   rw[e]at w2
   intro H3 Z3 x3 v rv
   cases d with
   | bl k =>
    rw[Rep]at rv
    subst rv
    have w3:WG F H3 Z3 (if k=true then (gc S).bind fun w=>f' dy w else .ok (.bl false)) _:=WG.more w2 x3
    refine⟨k,rfl,?_⟩
    have ok3:=ok2.more x3
    cases k with
    | false=>exact WG.now w3 ok3.sub _ a9
    | true=>exact ax ok3 w3 fun dw wv H4 Z4 ok4 x4 rw' w4=>hd' H4 Z4 y wv dy dw Q ok4.sub (ry.mono (x3.z.trans x4.z)) rw' w4
   | _=>exact w2.elim)
theorem lJ (ho:OpR X (compareOp op) r)(ho':OpR X (compareOp op') r')(hd:OpD F r f)(hd':OpD F r' f')(ha:FE X F a ga)(hb:FE X F b gb)(hc:FE X F c gc)(hm:lastMarks [op,op'] [b,c]=false:=by with_unfolding_all rfl) :
  FE X F (.Compare a [op,op'] [b,c] pos) (eChain f f' ga gb gc):=(qS ho ho' ha hb hc hm).weak (pC hd hd')
theorem oj (ha:FE X F a ga)(hb:FE X F b gb)(hc:FE X F c gc)(hm:lastMarks [.LtE,.LtE] [b,c]=false:=by with_unfolding_all rfl):FE X F (.Compare a [.LtE,.LtE] [b,c] pos) (eChain dLe dLe ga gb gc):=lJ n5 n5 (cH fun _ _ _=>a9) (cH fun _ _ _=>a9) ha hb hc hm
theorem ux (ha:FE X F a ga)(hb:FE X F b gb)(hc:FE X F c gc)(hm:lastMarks [.LtE,.Lt] [b,c]=false:=by with_unfolding_all rfl):FE X F (.Compare a [.LtE,.Lt] [b,c] pos) (eChain dLe dLt ga gb gc):=lJ n5 vp (cH fun _ _ _=>a9) (cH fun _ _ _=>a9) ha hb hc hm
end
def dIs:D→D→R D
 | x,.non=>.ok (.bl (match x with | .non=>true | _=>false))
 | x,.bl b=>.ok (.bl (match x with | .bl a=>a==b | _=>false))
 | _,_=>.stuck
def dIsNot (x y:D):R D:=(asB (dIs x y)).bind fun k=>.ok (.bl (!k))
def isV:V→V→Bool
 | .non,.non=>true
 | .bl a,.bl b=>a==b
 | _,_=>false
section
variable {X:Cx}{F:Fx}{a b:Expr}{ga gb:SS→R D}{pos:Pos}
theorem pD:OpR X (compareOp .IsNot) (fun x y H Q=>(y=.non∨∃ b,y=.bl b)∧Q (.bl (!isV x y)) H):=by
 intro pins s σ H x y v u Q I rx ry h
 obtain⟨hy,q⟩:=h
 rcases hy with rfl | ⟨b,rfl⟩
 ·cases ry
  refine isnot_none_gen (kj I q ?_)
  cases x<;>first
   | (cases rx;rfl)
   | (obtain⟨t,rfl⟩:=rx;rfl)
 ·cases ry
  cases x<;>first
   | (obtain⟨t,rfl⟩:=rx;exact wpAny_pure (kj I q rfl))
   | (cases rx;exact wpAny_pure (kj I q rfl))
   | (cases rx;rename_i a;exact wpAny_pure (kj I q (by cases a<;>cases b<;>rfl)))
theorem uy {K:PySem.W.Frag}{C:Nat→Addr}{Z:Hp}{d e:D}{x y:V}{r:D}(h:Rep K C Z d x)(h':Rep K C Z e y)(q:dIs d e=.ok r):(y=.non∨∃ b,y=.bl b)∧r=.bl (isV x y):=by
 cases e with
 | non =>
  rw[Rep]at h';subst h'
  cases q
  refine⟨.inl rfl,?_⟩
  cases d<;>rw[Rep]at h<;>first | (subst h;rfl) | (obtain⟨_,_,rfl,_⟩:=h;rfl) | (obtain⟨_,rfl,_⟩:=h;rfl)
 | bl b =>
  rw[Rep]at h';subst h'
  cases q
  refine⟨.inr ⟨b,rfl⟩,?_⟩
  cases d<;>rw[Rep]at h<;>first | (subst h;rfl) | (obtain⟨_,_,rfl,_⟩:=h;rfl) | (obtain⟨_,rfl,_⟩:=h;rfl)
 | _=>simp[dIs]at q
theorem wn {d e:D}{k:Nat}(q:dIs d e=.err k):False:=by cases e<;>simp[dIs]at q
theorem pE:OpD F (fun x y H Q=>(y=.non∨∃ b,y=.bl b)∧Q (.bl (!isV x y)) H) dIsNot:=by
 intro H Z x y dx dy Q s rx ry w
 unfold dIsNot at w
 cases e:dIs dx dy with
 | err k=>exact(wn e).elim
 | stuck=>rw[e]at w;exact w.elim
 | ok r =>
  rw[e]at w
  obtain⟨h1,rfl⟩:=uy rx ry e
  exact⟨h1,WG.now (a:=D.bl (!isV x y)) w s _ a9⟩
theorem rK (ha:FE X F a ga)(hb:FE X F b gb):FT X F (.Compare a [.IsNot] [b] pos) (gB (eOp dIsNot ga gb)):=fT pD pE ha hb
end
def cutD (xs:List D)(lo hi:Option Int):List D:=(xs.drop (HT.sIx xs.length 0 lo)).take (HT.sIx xs.length xs.length hi - HT.sIx xs.length 0 lo)
theorem Reps.cut {K:PySem.W.Frag}{C:Nat→Addr}{Z:Hp}{ds:List D}{vs:List V}(r:Reps K C Z ds vs)(lo hi:Option Int):Reps K C Z (cutD ds lo hi) (cutV vs lo hi):=by
 unfold cutD cutV
 rw[r.length]
 exact(r.drop _).take _
def dSl (d:D)(lo hi:Option Int):R D:=match d with
 | .lst xs=>.ok (.lst (cutD xs lo hi))
 | .tup xs=>if HT.sIx xs.length 0 lo=0∧HT.sIx xs.length xs.length hi=xs.length then .stuck else .ok (.tup (cutD xs lo hi))
 | _=>.stuck
def asI (d:D):R (Option Int):=match d with
 | .int i=>.ok (some i)
 | _=>.stuck
def pNo:SS→R (Option Int):=fun _=>.ok none
def pSo (g:SS→R D):SS→R (Option Int):=fun S=>(g S).bind asI
def tP (F:Fx)(g:SS→R (Option Int)):TO:=fun σ H Q=>∃ Z S,StOk F H Z S σ∧WG F H Z (g S) fun o H' _=>Q o H'
section
variable {X:Cx}{F:Fx}{e:Expr}{lo hi:Option Expr}{g:SS→R D}{l h:SS→R (Option Int)}{pos p2:Pos}
theorem wY:PO X none (tP F pNo):=fun pins s σ H Q I ⟨Z,S,ok,w⟩=>uc pins s σ H Q I (WG.now w ok.sub)
theorem lK (he:FE X F e g):PO X (some e) (tP F (pSo g)):=fun pins s σ H Q I ⟨Z,S,ok,w⟩=>ud he pins s σ H Q I (ax ok w fun d v H1 Z1 ok1 x1 rv w1=>by
 cases d with
 | int i=>rw[Rep]at rv;exact⟨i,rv,WG.now (a:=some i) w1 ok1.sub⟩
 | _=>exact w1.elim)
theorem om {α:Type}{σ:St}{H Z:Hp}{S:SS}{k:Option Int→R α}{P:α→Hp→Hp→Prop}{Q:Option Int→Hp→Prop}(ok:StOk F H Z S σ)(w:WG F H Z ((l S).bind k) P)
  (h:∀ o H1 Z1,StOk F H1 Z1 S σ→Ex H Z H1 Z1→WG F H1 Z1 (k o) P→Q o H1):tP F l σ H Q:=by
 refine⟨Z,S,ok,?_⟩
 cases e:l S with
 | ok d =>
  rw[e]at w
  intro H1 Z1 x
  exact h d H1 Z1 (ok.more x) x (WG.more (r:=k d) w x)
 | err k=>rw[e]at w;exact w
 | stuck=>rw[e]at w;exact w
end
def CallD (F:Fx)(r:List V→Hp→VK→Prop)(f:List D→R D):Prop:=∀ (H Z:Hp) (xs:List V) (ds:List D) (Q:VK),Same Z H→Reps F.K F.C Z ds xs→WG F H Z (f ds) (fun d H' Z'=>∀ v,Rep F.K F.C Z' d v→Q v H')→r xs H Q
section
variable {X:Cx}{F:Fx}{x:Str}{p pos:Pos}{e:Expr}{es:List Expr}{gs:SS→R (List D)}{id T:String}{r:List V→Hp→VK→Prop}{f:List D→R D}
theorem rL (hd:CallD F r f):∀ σ H Q,tE F (eCall f gs) σ H Q→tCB r (tAl F gs) σ H Q:=fun σ H Q ⟨Z,S,ok,w⟩=>aJ ok w fun ds vs H1 Z1 ok1 x1 rs w1=>hd H1 Z1 vs ds Q ok1.sub rs w1
theorem iq (hc:CallR X (.builtin id) r)(hd:CallD F r f)(hg:Gl X x)(hm:X.mg x=none)(hv:bootBuiltins x=some (.builtin id))(ha:FA X F (e::es) gs)(hn:x ≠ "__name__" := by decide)(hdb:(x==("__debug__":Str))=false:=by decide)
  (he:starEach (e::es) X.env=(false,eval e X.env)::starEach es X.env:=by rfl) (hpl:(backTo pos (starEach es X.env)).any (·.1)=false:=by rfl):FE X F (.Call (.Name x p) (e::es) [] pos) (eCall f gs):=(di hc hg hm hv ha hn hdb he hpl).weak (rL hd)
theorem jO (hc:CallR X (.type T) r)(hd:CallD F r f)(hg:Gl X x)(hm:X.mg x=none)(hv:bootBuiltins x=some (.type T))(ha:FA X F (e::es) gs)(hn:x ≠ "__name__" := by decide)(hdb:(x==("__debug__":Str))=false:=by decide)
  (he:starEach (e::es) X.env=(false,eval e X.env)::starEach es X.env:=by rfl) (hpl:(backTo pos (starEach es X.env)).any (·.1)=false:=by rfl):FE X F (.Call (.Name x p) (e::es) [] pos) (eCall f gs):=(jJ hc hg hm hv ha hn hdb he hpl).weak (rL hd)
end
theorem aV {K:PySem.W.Frag}{C:Nat→Addr}{Z:Hp}{d:D}{vs:List V}(r:Reps K C Z [d] vs):∃ v,vs=[v]∧Rep K C Z d v:=by
 rw[Reps]at r
 obtain⟨v,r',rfl,h1,h2⟩:=r
 rw[Reps]at h2
 exact⟨v,by rw[h2],h1⟩
def dLen:List D→R D
 | [.lst xs]=>.ok (.int xs.length)
 | [.tup xs]=>.ok (.int xs.length)
 | _=>.stuck
theorem pF {F:Fx}:CallD F (fun xs H Q=>∃ p ys,xs=[.ref p]∧(SqL F.K H p ys∨SqT F.K H p ys)∧Q (.int ys.length) H) dLen:=by
 intro H Z xs ds Q s rs w
 unfold dLen at w
 split at w
 ·obtain⟨v,rfl,h⟩:=aV rs
  rw[Rep]at h
  obtain⟨a,vs,rfl,h1,h2⟩:=h
  exact⟨a,vs,rfl,.inl (s.seq h1),by rw[← h2.length];exact WG.now w s _ aG⟩
 ·obtain⟨v,rfl,h⟩:=aV rs
  rw[Rep]at h
  obtain⟨a,vs,rfl,h1,h2⟩:=h
  exact⟨a,vs,rfl,.inr (h1.mono s),by rw[← h2.length];exact WG.now w s _ aG⟩
 ·exact w.elim
def dMax2:List D→R D
 | [.int i,.int j]=>.ok (.int (if j > i then j else i))
 | _=>.stuck
theorem m7 {F:Fx}:CallD F (fun xs H Q=>∃ i j,xs=[.int i,.int j]∧Q (.int (if j > i then j else i)) H) dMax2:=by
 intro H Z xs ds Q s rs w
 unfold dMax2 at w
 split at w
 ·exact⟨_,_,lH rs,WG.now w s _ aG⟩
 ·exact w.elim
def dTuple:List D→R D
 | [.lst xs]=>.ok (.tup xs)
 | [.tup xs]=>.ok (.tup xs)
 | _=>.stuck
theorem lL {F:Fx}:CallD F (fun xs H Q=>∃ p ys,xs=[.ref p]∧((SqL F.K H p ys∧∀ l,H l=none→Q (.ref l) (upd H l (.tup ys)))∨(SqT F.K H p ys∧Q (.ref p) H))) dTuple:=by
 intro H Z xs ds Q s rs w
 unfold dTuple at w
 split at w
 ·obtain⟨v,rfl,h⟩:=aV rs
  rw[Rep]at h
  obtain⟨a,vs,rfl,h1,h2⟩:=h
  refine⟨a,vs,rfl,.inl ⟨s.seq h1,fun p hp=>?_⟩⟩
  have z:Same Z (upd Z p (.tup vs)):=aw (s.free hp)
  exact w _ _ (Ex.alloc s hp) _ (by rw[Rep];exact⟨p,_,rfl,SqT.of ak,h2.mono z⟩)
 ·obtain⟨v,rfl,h⟩:=aV rs
  have hh:=h
  rw[Rep]at h
  obtain⟨a,vs,rfl,h1,h2⟩:=h
  exact⟨a,vs,rfl,.inr ⟨h1.mono s,WG.now w s _ hh⟩⟩
 ·exact w.elim
def boolsD:List D→Option (List Bool)
 | []=>some []
 | .bl b::r=>(boolsD r).map (b::·)
 | _::_=>none
theorem ir {K:PySem.W.Frag}{C:Nat→Addr}{Z:Hp}:∀ {ds:List D} {vs:List V} {bs:List Bool},Reps K C Z ds vs→boolsD ds=some bs→vs=bs.map V.bl
 | [],vs,bs,r,e=>by rw[Reps]at r;cases e;exact r
 | d::ds,vs,bs,r,e=>by
  rw[Reps]at r
  obtain⟨v,r',rfl,h1,h2⟩:=r
  cases d with
  | bl b =>
   rw[boolsD]at e
   cases q:boolsD ds with
   | none=>rw[q]at e;cases e
   | some bs' =>
    rw[q]at e
    cases e
    rw[Rep]at h1
    rw[h1,ir h2 q]
    rfl
  | _=>simp[boolsD]at e
def dAll:List D→R D
 | [.lst xs]=>match boolsD xs with
  | some bs=>.ok (.bl (bs.all id))
  | none=>.stuck
 | _=>.stuck
theorem iu:∀ {bs:List Bool} {us:List Value},Vals (bs.map V.bl) us→us=bs.map Value.bool
 | [],us,h=>by rw[List.map_nil]at h;cases h;rfl
 | b::bs,us,h=>by
  rw[List.map_cons]at h
  cases h with
  | cons r t =>
   have r':_=Value.bool b:=r
   rw[r',iu t]
   rfl
theorem iw {X:Cx}(hc:X.calm=true):CallR X (.builtin "all") (fun xs H Q=>∃ (p:Addr) (bs:List Bool),xs=[.ref p]∧SqL X.K H p (bs.map V.bl)∧Q (.bl (bs.all id)) H):=by
 intro pins s σ H xs us Q I r h
 obtain⟨p,bs,rfl,hq,q⟩:=h
 obtain⟨u,rfl,ru⟩:=vals1 r
 cases ru
 obtain⟨its,rv,pl,hz⟩:=I.list hq
 have e:=iu rv
 subst e
 have hlt:p < s.heap.objs.size:=by obtain⟨o,_,ho,_⟩:=pl;exact Heap.lt_size ho
 refine call_all_walk (wpAny_pyIter_list pl.isList ⟨s.heap.objs.size,_,_,_,_,_,fun i=>bs.getD i false,rfl,Walks.list (show X.A.in1.handled=none from I.ok.hd hc) s.heap.objs.size p (Nat.ne_of_lt hlt) (bs.map Value.bool).toArray,⟨⟨_,Heap.get?_push_size _ rfl,rfl,rfl⟩,?_⟩,?_,fun h' tk hk=>?_⟩)
 ·obtain⟨o,ho,h2,n,h3⟩:=pl.isList
  exact⟨o,Heap.get?_push_of_some _ ho,h2,n,h3⟩
 ·intro i v s' Q' E' hp hq'
  have hp':bs[i]?.map Value.bool=some v:=by simpa using hp
  cases e:bs[i]? with
  | none=>rw[e]at hp';cases hp'
  | some b =>
   rw[e]at hp'
   cases hp'
   refine wpAny_truthy_bool ?_
   have:bs.getD i false=b:=by simp[List.getD,e]
   have hq2:Q' (bs.getD i false) s':=hq'
   rw[this]at hq2
   exact hq2
 ·have hall:(List.range (bs.map Value.bool).toArray.size).all (fun i=>bs.getD i false)=bs.all id:=by
   rw[List.size_toArray,List.length_map]
   rw[Bool.eq_iff_iff,List.all_eq_true,List.all_eq_true]
   constructor
   ·intro h b hb
    obtain⟨i,hi,rfl⟩:=List.mem_iff_getElem.mp hb
    have:=h i (List.mem_range.mpr hi)
    simpa [List.getD,hi] using this
   ·intro h i hi
    have hi':=List.mem_range.mp hi
    have:=h bs[i] (List.getElem_mem hi')
    simpa [List.getD,hi'] using this
  rw[hall]
  exact⟨.bl (bs.all id),H,I.kept fun b o e=>hk b o (by simp;exact Nat.ne_of_lt (Heap.lt_size e)) (Heap.get?_push_of_some _ e),rfl,q⟩
theorem pG {F:Fx}:CallD F (fun xs H Q=>∃ (p:Addr) (bs:List Bool),xs=[.ref p]∧SqL F.K H p (bs.map V.bl)∧Q (.bl (bs.all id)) H) dAll:=by
 intro H Z xs ds Q s rs w
 unfold dAll at w
 split at w
 ·split at w
  ·rename_i bs e
   obtain⟨v,rfl,h⟩:=aV rs
   rw[Rep]at h
   obtain⟨a,vs,rfl,h1,h2⟩:=h
   have e2:=ir h2 e
   subst e2
   exact⟨a,bs,rfl,s.seq h1,WG.now w s _ a9⟩
  ·exact w.elim
 ·exact w.elim
section
variable {X:Cx}{F:Fx}{p pos:Pos}{e:Expr}{es:List Expr}{gs:SS→R (List D)}{k:Nat}
theorem cJ (bx:BX X F k)(hg:Gl X "len")(hm:X.mg "len"=none)(ha:FA X F [e] gs)(he:starEach [e] X.env=(false,eval e X.env)::starEach [] X.env:=by rfl)(hpl:(backTo pos (starEach [] X.env)).any (·.1)=false:=by rfl):FE X F (.Call (.Name "len" p) [e] [] pos) (eCall dLen gs) :=
 iq (by have:=e8 (X:=X);rw[bx.K]at this;exact this) pF hg hm PySem.boot_len ha (he:=he) (hpl:=hpl)
theorem uz {e2:Expr}(bx:BX X F k)(hg:Gl X "max")(hm:X.mg "max"=none)(ha:FA X F [e,e2] gs)(he:starEach [e,e2] X.env=(false,eval e X.env)::starEach [e2] X.env:=by rfl)(hpl:(backTo pos (starEach [e2] X.env)).any (·.1)=false:=by rfl) :
  FE X F (.Call (.Name "max" p) [e,e2] [] pos) (eCall dMax2 gs):=iq (o7 bx.calm) m7 hg hm (by decide +kernel) ha (he:=he) (hpl:=hpl)
theorem bd (bx:BX X F k)(hg:Gl X "tuple")(hm:X.mg "tuple"=none)(ha:FA X F [e] gs)(he:starEach [e] X.env=(false,eval e X.env)::starEach [] X.env:=by rfl)(hpl:(backTo pos (starEach [] X.env)).any (·.1)=false:=by rfl):FE X F (.Call (.Name "tuple" p) [e] [] pos) (eCall dTuple gs) :=
 jO (by have:=jh (X:=X);rw[bx.K]at this;exact this) lL hg hm (by decide +kernel) ha (he:=he) (hpl:=hpl)
theorem rM (bx:BX X F k)(hg:Gl X "all")(hm:X.mg "all"=none)(ha:FA X F [e] gs)(he:starEach [e] X.env=(false,eval e X.env)::starEach [] X.env:=by rfl)(hpl:(backTo pos (starEach [] X.env)).any (·.1)=false:=by rfl):FE X F (.Call (.Name "all" p) [e] [] pos) (eCall dAll gs) :=
 iq (id := "all") (by have:=iw (X:=X) bx.calm;rw[bx.K]at this;exact this) pG hg hm (by decide +kernel) ha (he:=he) (hpl:=hpl)
end
end FF
end
noncomputable section
namespace FF
open PySem PySem.Spec PySem.Calls PyProof.Rows PySem.W
def ExcAt (a C:Addr)(h:Heap):Prop:=∃ o,h.get? a=some o∧o.cls=.ref C∧∃ vs,o.data=.fields vs
structure ExcK (K:Frag)(C:Addr):Prop where
 ga:findIn K (.ref C) "__getattribute__"=some (some (.builtin "BaseException.__getattribute__"))
 gt:findIn K (.ref C) "__getattr__"=some none
 cl:findIn K (.ref C) "__class__"=some (some (.builtin "object.__class__"))
 be:subIn K (.ref C) (.type "BaseException")=some true
 ob:subIn K (.ref C) (.type "object")=some true
 ty:(clsIn K C).isSome=true
section
variable {prog:Program}{w:World}{A:Around}{E:Value→Shared→Prop}{h:Heap}{g:Array GenState}{d:Drawn}{t:Nat}{os:OsState}{a C:Addr}{K:Frag}{o:Obj}{vs:Array Value}
theorem m8 {M:Model}(p:ExcAt a C h):Looks M h (typeOf (.ref a)) (.ref C):=by
 obtain⟨o,h1,h2,h3⟩:=p
 exact h2 ▸ (Looks.ld h1).andThen .now
theorem m9 {M:Model}(X:K.In h)(k:ExcK K C):Looks M h (isType (.ref C)) true:=by
 have z:=k.ty
 unfold clsIn at z
 split at z
 ·rename_i c' d' cd' sl' ho
  intro A' Q' E' s' kk q
  unfold isType loadHead
  exact wpAny_bind (wpAny_loadPart (kk _ _ (X _ _ ho)) (wpAny_pure q))
 ·cases z
theorem jm {R:Result→Shared→Prop}(X:K.In h)(k:ExcK K C)(hx:h.get? a=some o)(hc:o.cls=.ref C)(hq:R (.ok (.ret (.ref C))) ⟨h,g,d,t,os⟩) :
  codeAny (model prog w) A (.call (.builtin "getset_descriptor.__get__") ⟨[.builtin "object.__class__",.ref a,.ref C],[]⟩) R ⟨h,g,d,t,os⟩:=by
 have hT5:(⟨h,g,d,t,os⟩:Shared).TypeIs (.builtin "object.__class__") "getset_descriptor" := F.typeOf_object_class
 have L8:Looks (model prog w) h (isSubtype (.ref C) (.type (".".intercalate ("object.__class__".cutAt '.').dropLast))) true:=by
  rw[F.owner_object_class];exact looks_subIn X k.ob
 refine codeAny_call_builtin F.slot_gs_get.plain F.entry_gs_get (F.slot_gs_get.check _ _ _ _ _ _ _ _ hT5 (F.args_gs_get _ _ _) ?_)
 repeat (any_goals (first | assumption | (with_reducible refine wpAny_loadPart_at hx ?_;rw[hc]) | (with_reducible refine L8.at ?_) | wp_step))
 refine⟨Code.quiet_builtin _ (by decide +kernel),codeAny_builtin F.entry_object_class ?_⟩
 repeat (any_goals (first | assumption | (with_reducible refine wpAny_loadPart_at hx ?_;rw[hc]) | wp_step))
theorem gY {tk:Tok}{Q:Fin→Shared→Prop}(X:K.In h)(k:ExcK K C)(hx:h.get? a=some o)(hc:o.cls=.ref C)(hq:Q (.done (.ret (.ref C))) ⟨h,g,d,t,os⟩) :
  wpAny (model prog w) A (Builtin.«object.__getattribute__» ⟨[.ref a,.str "__class__" tk],[]⟩) Q E ⟨h,g,d,t,os⟩:=by
 have hT5:(⟨h,g,d,t,os⟩:Shared).TypeIs (.builtin "object.__class__") "getset_descriptor" := F.typeOf_object_class
 have f5:=F.typeOf_object_class
 have f6:=F.slot_gs_get.lookup
 have f7:=F.slot_gs_set.lookup
 have L4:Looks (model prog w) h (typeLookup (.ref C) "__class__") _:=looks_findIn X k.cl
 repeat (any_goals (first | assumption | (with_reducible refine wpAny_loadPart_at hx ?_;rw[hc]) | (with_reducible refine L4.at ?_) | wp_step))
 refine jm X k hx hc ?_
 repeat (any_goals (first | assumption | wp_step))
theorem pH {M:Model}{nameV:Value}{Q:Unit→Shared→Prop}(X:K.In h)(k:ExcK K C)(hx:h.get? a=some o)(hc:o.cls=.ref C)(hq:Q () ⟨h,g,d,t,os⟩):wpAny M A (checkBuiltinCall "BaseException.__getattribute__" ⟨[.ref a,nameV],[]⟩) Q E ⟨h,g,d,t,os⟩:=by
 have hk:builtinKind "BaseException.__getattribute__"=some .slot:=by decide +kernel
 have hsplit:splitId "BaseException.__getattribute__"=some ("BaseException","__getattribute__"):=by decide +kernel
 have L8:Looks M h (isSubtype (.ref C) (.type "BaseException")) true:=looks_subIn X k.be
 have ha:=F.args_bexc_ga (.ref a) nameV
 simp only[checkBuiltinCall,hk,hsplit]
 refine wpAny_bind ?_
 ·unfold isInstance
  repeat (first | (with_reducible refine wpAny_loadPart_at hx ?_;rw[hc]) | (with_reducible refine L8.at ?_) | wp_step)
  exact hq
theorem iy {tk:Tok}{R:Result→Shared→Prop}(X:K.In h)(k:ExcK K C)(hx:h.get? a=some o)(hc:o.cls=.ref C)(hq:R (.ok (.ret (.ref C))) ⟨h,g,d,t,os⟩) :
  codeAny (model prog w) A (.call (.builtin "BaseException.__getattribute__") ⟨[.ref a,.str "__class__" tk],[]⟩) R ⟨h,g,d,t,os⟩ :=
 codeAny_call_builtin F.attr_ValueError.ga.plain F.entry_bexc_ga (pH X k hx hc (gY X k hx hc hq))
theorem kC {tk:Tok}{Q:Value→Shared→Prop}(X:K.In h)(k:ExcK K C)(hx:h.get? a=some o)(hc:o.cls=.ref C)(hq:Q (.ref C) ⟨h,g,d,t,os⟩) :
  wpAny (model prog w) A (getAttrBy (.ref a) (.str "__class__" tk) false) Q E ⟨h,g,d,t,os⟩:=by
 have f3:=F.attr_ValueError.ga.bind (.ref a)
 have L1:Looks (model prog w) h (typeLookup (.ref C) "__getattribute__") _:=looks_findIn X k.ga
 have L2:Looks (model prog w) h (typeLookup (.ref C) "__getattr__") _:=looks_findIn X k.gt
 have hx2:(Value.builtin "BaseException.__getattribute__" == Value.builtin "object.__getattribute__")=false:=by decide +kernel
 have hx1:(onTheHeap (Value.ref C)&&Value.builtin "BaseException.__getattribute__" == Value.builtin "object.__getattribute__")=false:=by rw[hx2];rfl
 repeat (any_goals (first | assumption | (with_reducible refine wpAny_loadPart_at hx ?_;rw[hc]) | (with_reducible refine L1.at ?_) | (with_reducible refine L2.at ?_) | wp_step))
 refine iy X k hx hc ?_
 repeat (any_goals (first | assumption | wp_step))
theorem iz {Q:Option Value→Shared→Prop}(X:K.In h)(k:ExcK K C)(hx:h.get? a=some o)(hc:o.cls=.ref C)(hq:Q (some (.ref C)) ⟨h,g,d,t+1,os⟩) :
  wpAny (model prog w) A (getAttr? (.ref a) "__class__") Q E ⟨h,g,d,t,os⟩:=by
 unfold getAttr? getAttrBy?
 repeat (any_goals (first | assumption | with_reducible apply kC X k hx hc | wp_step))
end
end FF
end
noncomputable section
namespace FF
open PySem PySem.Spec PyProof.Rows L2
theorem rN {K:PySem.W.Frag}{a C:Addr}(k:ExcK K C):PySem.W.KitX K (.ref a) (.ref C) (ExcAt a C) where
 ty:=fun _ _ _ p=>m8 p
 it:=fun _ _ X _=>m9 X k
 ne:=fun h tp dd its n sl X htp=>by
  refine Bool.eq_false_iff.mpr fun q=>?_
  have e:C=tp:=Value.ref.inj (beq_iff_eq.mp q)
  subst e
  have z:=k.ty
  unfold PySem.W.clsIn at z
  split at z
  ·rename_i c' d' cd' sl' ho
   have z:=(X _ _ ho).symm.trans htp
   cases z
  ·cases z
 ca:=fun {_ _ _ _ _ s} X p h=>by
  obtain⟨hh,g,d,t,os⟩:=s
  obtain⟨o,h1,h2,_⟩:=p
  exact iz X k h1 h2 h
def tyD (C:Nat→Addr):D→Value
 | .non=>.type "NoneType"
 | .bl _=>.type "bool"
 | .int _=>.type "int"
 | .str _=>.type "str"
 | .tup _=>.type "tuple"
 | .lst _=>.type "list"
 | .exc k=>.ref (C k)
 | .fn _=>.none
def cV:V→Value
 | .ty n=>.type n
 | .ref a=>.ref a
 | _=>.none
theorem lM {X:Cx}{C:Nat→Addr}:CallR X (.builtin "isinstance") (fun xs H Q=>∃ (Z:Hp) (d:D) (x y:V) (b:Bool),xs=[x,y]∧Same Z H∧Rep X.K C Z d x∧((∃ n,y=.ty n)∨∃ a,y=.ref a) ∧
  PySem.W.kitOne X.K (tyD C d) (cV y)=some b∧(∀ j,d=.exc j→ExcK X.K (C j))∧(∀ j,d≠.fn j)∧Q (.bl b) H):=by
 intro pins s σ H xs us Q I r h
 obtain⟨Z,d,x,y,b,rfl,sm,rp,hy,e,he,hf,q⟩:=h
 obtain⟨u,c,rfl,ru,rc⟩:=vals2 r
 have hc:c=cV y:=by
  rcases hy with ⟨n,rfl⟩ | ⟨a,rfl⟩<;>exact rc
 subst hc
 have fin:∀ tk,EP X pins σ Q (.bool b) { s with toks:=tk }:=fun tk=>⟨.bl b,H,I.tok tk,rfl,q⟩
 cases d with
 | non=>rw[Rep]at rp;subst rp;cases (show u=Value.none from ru);exact PySem.W.kia_one PySem.W.kitx_none I.kIn True.intro e (fun z=>nomatch z) fin
 | bl k=>rw[Rep]at rp;subst rp;cases (show u=Value.bool k from ru);exact PySem.W.kia_one PySem.W.kitx_bool I.kIn True.intro e (fun z=>nomatch z) fin
 | int i=>rw[Rep]at rp;subst rp;obtain⟨t,rfl⟩:=(show ∃ t,u=Value.int i t from ru);exact PySem.W.kia_one PySem.W.kitx_int I.kIn True.intro e (fun z=>nomatch z) fin
 | str i=>rw[Rep]at rp;subst rp;obtain⟨t,rfl⟩:=(show ∃ t,u=Value.str i t from ru);exact PySem.W.kia_one PySem.W.kitx_str I.kIn True.intro e (fun z=>nomatch z) fin
 | tup ds =>
  rw[Rep]at rp
  obtain⟨a,vs,rfl,h1,h2⟩:=rp
  cases (show u=Value.ref a from ru)
  obtain⟨its,_,⟨o,p1,p2,_⟩,_⟩:=I.tuple (h1.mono sm)
  exact PySem.W.kia_one PySem.W.kitx_tuple I.kIn ⟨o,p1,p2⟩ e (fun z=>nomatch z) fin
 | lst ds =>
  rw[Rep]at rp
  obtain⟨a,vs,rfl,h1,h2⟩:=rp
  cases (show u=Value.ref a from ru)
  obtain⟨its,_,⟨o,n,p1,p2,_⟩,_⟩:=I.list (sm.seq h1)
  exact PySem.W.kia_one PySem.W.kitx_list I.kIn ⟨o,p1,p2⟩ e (fun z=>nomatch z) fin
 | fn k=>exact absurd rfl (hf k)
 | exc k =>
  rw[Rep]at rp
  obtain⟨a,rfl,h1⟩:=rp
  cases (show u=Value.ref a from ru)
  obtain⟨o,h2,h3,h5⟩:=(show ObjOk X.prog X.w H s.heap a (excO C k a) from I.hok a _ (sm a _ h1)).1
  exact PySem.W.kia_one (rN (he k rfl)) I.kIn ⟨o,h2,h3,h5⟩ e (fun z=>nomatch z) fin
def dIsA (q:D→Option Bool)(d:D):R D:=match q d with
 | some b=>.ok (.bl b)
 | none=>.stuck
def eIs (q:D→Option Bool)(g:SS→R D):SS→R D:=fun S=>(g S).bind (dIsA q)
structure IsA (K:PySem.W.Frag)(C:Nat→Addr)(y:V)(q:D→Option Bool):Prop where
 one:(∃ n,y=.ty n)∨∃ a,y=.ref a
 ans:∀ d b,q d=some b→PySem.W.kitOne K (tyD C d) (cV y)=some b
 exc:∀ j b,q (.exc j)=some b→ExcK K (C j)
 fn:∀ j,q (.fn j)=none
section
variable {X:Cx}{F:Fx}{p pos:Pos}{e ec:Expr}{g:SS→R D}{k:Nat}{y:V}{q:D→Option Bool}
theorem wq (bx:BX X F k)(hq:IsA F.K F.C y q):∀ σ H Q,tE F (eIs q g) σ H Q→tCB (fun xs H Q=>∃ (Z:Hp) (d:D) (x y:V) (b:Bool),xs=[x,y]∧Same Z H∧Rep X.K F.C Z d x∧((∃ n,y=.ty n)∨∃ a,y=.ref a) ∧
  PySem.W.kitOne X.K (tyD F.C d) (cV y)=some b∧(∀ j,d=.exc j→ExcK X.K (F.C j))∧(∀ j,d≠.fn j)∧Q (.bl b) H) (tCons (tE F g) (tCons (tC y) tNil)) σ H Q:=fun σ H Q ⟨Z,S,ok,w⟩ =>
 ax ok w fun d v H1 Z1 ok1 x1 rv w1=>by
  cases e:q d with
  | none=>unfold dIsA at w1;rw[e]at w1;exact w1.elim
  | some b =>
   unfold dIsA at w1
   rw[e]at w1
   refine⟨Z1,d,v,y,b,rfl,ok1.sub,by rw[bx.K];exact rv,hq.one,by rw[bx.K];exact hq.ans d b e,fun j ej=>?_,fun j ej=>(by rw[ej,hq.fn j]at e;cases e),WG.now (a:=D.bl b) w1 ok1.sub _ a9⟩
   subst ej
   rw[bx.K]
   exact hq.exc j b e
theorem aM (bx:BX X F k)(hg:Gl X "isinstance")(hm:X.mg "isinstance"=none)(hq:IsA F.K F.C y q)(ha:FE X F e g)(hc:PE X ec (tC y))(he:starEach [e,ec] X.env=(false,eval e X.env)::starEach [ec] X.env:=by rfl)
  (he2:starEach [ec] X.env=(false,eval ec X.env)::starEach [] X.env:=by rfl) (hpl:(backTo pos (starEach [ec] X.env)).any (·.1)=false:=by rfl) :
  FE X F (.Call (.Name "isinstance" p) [e,ec] [] pos) (eIs q g) :=
 (di (id := "isinstance") lM hg hm (by decide +kernel) (bE ha (bE hc dh he2) he) (he:=he) (hpl:=hpl)).weak (wq bx hq)
end
def qTup:D→Option Bool
 | .tup _=>some true
 | .exc _=>none
 | .fn _=>none
 | _=>some false
def qInt:D→Option Bool
 | .int _=>some true
 | .bl _=>some true
 | .exc _=>none
 | .fn _=>none
 | _=>some false
def qBool:D→Option Bool
 | .bl _=>some true
 | .exc _=>none
 | .fn _=>none
 | _=>some false
theorem b8 {K:PySem.W.Frag}{C:Nat→Addr}:IsA K C (.ty "tuple") qTup:=⟨.inl ⟨_,rfl⟩,fun d b e=>by cases d<;>cases e<;>with_unfolding_all rfl,fun j b e=>(nomatch e),fun _=>rfl⟩
theorem uA {K:PySem.W.Frag}{C:Nat→Addr}:IsA K C (.ty "int") qInt:=⟨.inl ⟨_,rfl⟩,fun d b e=>by cases d<;>cases e<;>with_unfolding_all rfl,fun j b e=>(nomatch e),fun _=>rfl⟩
theorem rP {K:PySem.W.Frag}{C:Nat→Addr}:IsA K C (.ty "bool") qBool:=⟨.inl ⟨_,rfl⟩,fun d b e=>by cases d<;>cases e<;>with_unfolding_all rfl,fun j b e=>(nomatch e),fun _=>rfl⟩
end FF
end
noncomputable section
namespace FF
open PySem PySem.Spec PyProof.Rows L2
def sOwn (i:Nat)(gs:SS→R (List D)):SS→O:=fun S=>rO ((gs S).bind fun ds=>if ds.length≤16777216 then .ok (.nx (S.set i (some (.own ds)))) else .stuck)
def sApp (i:Nat)(gs:SS→R (List D)):SS→O:=fun S=>match S[i]? with
 | some (some (.own ds))=>rO ((gs S).bind fun es=>match es with
  | [d]=>if ds.length < 16777216 then .ok (.nx (S.set i (some (.own (ds++[d]))))) else .stuck
  | _=>.stuck)
 | _=>.stuck
def sExt (i:Nat)(gs:SS→R (List D)):SS→O:=fun S=>match S[i]? with
 | some (some (.own ds))=>rO ((gs S).bind fun es=>match es with
  | [.lst xs]=>if ds.length+xs.length≤16777216 then .ok (.nx (S.set i (some (.own (ds++xs))))) else .stuck
  | [.tup xs]=>if ds.length+xs.length≤16777216 then .ok (.nx (S.set i (some (.own (ds++xs))))) else .stuck
  | _=>.stuck)
 | _=>.stuck
def rExt (K:PySem.W.Frag):V→List V→Hp→VK→Prop:=fun x vs H Q=>∃ l b xs zs,x=.ref l∧vs=[.ref b]∧H l=some (.lst xs)∧(SqL K H b zs∨SqT K H b zs)∧xs.length+zs.length≤sizeLine∧Q .non (upd H l (.lst (xs++zs)))
theorem wr {X:Cx}:MtR X "list.extend" (rExt X.K):=by
 intro pins s σ H x vs v us Q I rx rv h
 obtain⟨l,b,xs,zs,rfl,rfl,hH,hB,hz,q⟩:=h
 cases rx
 obtain⟨u,rfl,ru⟩:=rv.one
 cases ru
 obtain⟨z,its,n,r,hl,e⟩:=I.lstM hH
 rcases hB with hB | hB
 ·obtain⟨its2,r2,⟨⟨c2,d2,dt2,sl2⟩,n2,e2,p2,p3,p4⟩,z2⟩:=I.list hB
  simp only at p2 p3 p4
  subst p2 p3 p4
  have hl2:=r2.length
  have hsz:its.toArray.size+its2.toArray.size≤sizeLine:=by rw[List.size_toArray,List.size_toArray];omega
  refine call_meets F.slot_list_extend ⟨_,e,rfl⟩ F.entry_list_extend (F.args_list_extend_2 _ _) (pj l b its.toArray its2.toArray n n2 _ _ hsz) ⟨e,e2,?_⟩
  refine⟨.non,_,I.lset (its':=its++its2) hH e (by simp) (r.append r2) ?_,rfl,q⟩
  rw[List.length_append]
  omega
 ·obtain⟨its2,r2,⟨⟨c2,d2,dt2,sl2⟩,e2,p2,n2,p3⟩,z2⟩:=I.tuple hB
  simp only at p2 p3
  subst p2 p3
  have hl2:=r2.length
  have hsz:its.toArray.size+its2.toArray.size≤sizeLine:=by rw[List.size_toArray,List.size_toArray];omega
  refine call_meets F.slot_list_extend ⟨_,e,rfl⟩ F.entry_list_extend (F.args_list_extend_2 _ _) (pr l b its.toArray its2.toArray n n2 _ _ hsz) ⟨e,e2,?_⟩
  refine⟨.non,_,I.lset (its':=its++its2) hH e (by simp) (r.append r2) ?_,rfl,q⟩
  rw[List.length_append]
  omega
section
variable {X:Cx}{F:Fx}{e:Expr}{es:List Expr}{gs:SS→R (List D)}{pos p0 apos cpos lpos:Pos}{x:Str}
theorem iA (i:Nat){pos':Pos}(hN:X.N.Nodup)(h:FA X F es gs)(hi:X.N[i]?=some x:=by rfl)(hx:Loc X.env.scope x:=by first | exact Or.inl rfl | exact Or.inr rfl)
  (hs:swapsWith (.List es lpos) (some (.Name x pos')) pos.line X.env=pure false:=by rfl) (hf:X.fn x=true∨X.env.scope.names.lookup x=some .local:=by first | exact .inl rfl | exact .inr rfl):FS X F (.Assign [.Name x pos'] (.List es lpos) pos) (sOwn i gs) :=
 (qP hN hi hx (kl h) hs hf).weak fun D σ H ⟨Z,S,ok,w⟩=>aJ ok (WO.wg ok w) fun ds vs H1 Z1 ok1 x1 rs w1=>by
  split at w1
  ·rename_i hl
   refine⟨by rw[← rs.length,sizeLine_eq];exact hl,fun p hp=>?_⟩
   have w2:=WG.now w1 ok1.sub
   exact w2 _ _ Z1 (Same.refl _) (ok1.newOwn hp rs)
  ·exact w1.elim
theorem pI (i:Nat)(ha:FA X F [e] gs)(hi:X.N[i]?=some x:=by rfl)(hv:Vis X.env.scope x:=by first | exact Or.inl rfl | exact Or.inr (Or.inl rfl) | exact Or.inr (Or.inr rfl))(hd:(x==("__debug__":Str))=false:=by decide)
  (hcd:(x==("__classdict__":Str))=false:=by decide)
  (hbase:attributeBase (.Name x p0) "append" X.env (eval (.Name x p0) X.env)=eval (.Name x p0) X.env:=by rfl)
  (hfew:((backTo cpos (starEach [e] X.env)).all (fun x=>!x.1)&&(backToKw cpos (keywordEach [] X.env)).all (fun x=>x.1.isSome)
   && decide ([e].length+([]:List Keyword).length+(if ([]:List Keyword).isEmpty then 0 else 1) < 30))=true:=by rfl)
  (hline:(apos.endLine==cpos.line)=true:=by rfl) (hs:starEach [e] X.env=(false,eval e X.env)::starEach [] X.env:=by rfl) (hplain:(backTo cpos (starEach [] X.env)).any (·.1)=false:=by rfl)
  (hsw:swapsWith (.Call (.Attribute (.Name x p0) "append" apos) [e] [] cpos) none pos.line X.env=pure false:=by rfl) :
  FS X F (.Expr (.Call (.Attribute (.Name x p0) "append" apos) [e] [] cpos) pos) (sApp i gs) :=
 (ki (re PySem.F.plainAttrs_list PySem.F.slot_list_append (by kernel_rfl) (jK (X:=X)) (fP hi hv hd hcd) ha hbase hfew hline hs hplain) hsw).weak fun D σ H ⟨Z,S,ok,w⟩=>by
  unfold sApp at w
  split at w
  ·rename_i ds e0
   obtain⟨a,vs,e1,e2,e3,e4,r⟩:=ok.own i ds e0
   refine⟨.ref a,e1,.inl ⟨rfl,vs,SqL.of e2⟩,aJ ok (WO.wg ok w) fun es' us H1 Z1 ok1 x1 rs w1=>?_⟩
   split at w1
   ·rename_i d
    split at w1
    ·rename_i hl
     obtain⟨y,rfl,ry⟩:=aV rs
     have w2:=WG.now w1 ok1.sub
     refine⟨a,vs,y,rfl,rfl,x1.same _ _ e2,by rw[← r.length,sizeLine_eq];exact hl,?_⟩
     exact w2 σ _ Z1 (Same.refl _) (ok1.write e0 e1 ((r.mono x1.z).append (Reps.cons ry Reps.nil)))
    ·exact w1.elim
   ·exact w1.elim
  ·exact w.elim
theorem bQ (i:Nat)(bK:X.K=F.K)(ha:FA X F [e] gs)(hi:X.N[i]?=some x:=by rfl)(hv:Vis X.env.scope x:=by first | exact Or.inl rfl | exact Or.inr (Or.inl rfl) | exact Or.inr (Or.inr rfl))(hd:(x==("__debug__":Str))=false:=by decide)
  (hcd:(x==("__classdict__":Str))=false:=by decide)
  (hbase:attributeBase (.Name x p0) "extend" X.env (eval (.Name x p0) X.env)=eval (.Name x p0) X.env:=by rfl)
  (hfew:((backTo cpos (starEach [e] X.env)).all (fun x=>!x.1)&&(backToKw cpos (keywordEach [] X.env)).all (fun x=>x.1.isSome)
   && decide ([e].length+([]:List Keyword).length+(if ([]:List Keyword).isEmpty then 0 else 1) < 30))=true:=by rfl)
  (hline:(apos.endLine==cpos.line)=true:=by rfl) (hs:starEach [e] X.env=(false,eval e X.env)::starEach [] X.env:=by rfl) (hplain:(backTo cpos (starEach [] X.env)).any (·.1)=false:=by rfl)
  (hsw:swapsWith (.Call (.Attribute (.Name x p0) "extend" apos) [e] [] cpos) none pos.line X.env=pure false:=by rfl) :
  FS X F (.Expr (.Call (.Attribute (.Name x p0) "extend" apos) [e] [] cpos) pos) (sExt i gs) :=
 (ki (re PySem.F.plainAttrs_list PySem.F.slot_list_extend (by kernel_rfl) (wr (X:=X)) (fP hi hv hd hcd) ha hbase hfew hline hs hplain) hsw).weak fun D σ H ⟨Z,S,ok,w⟩=>by
  unfold sExt at w
  split at w
  ·rename_i ds e0
   obtain⟨a,vs,e1,e2,e3,e4,r⟩:=ok.own i ds e0
   refine⟨.ref a,e1,.inl ⟨rfl,vs,SqL.of e2⟩,aJ ok (WO.wg ok w) fun es' us H1 Z1 ok1 x1 rs w1=>?_⟩
   split at w1
   ·rename_i xs
    split at w1
    ·rename_i hl
     obtain⟨y,rfl,ry⟩:=aV rs
     rw[Rep]at ry
     obtain⟨b,zs,rfl,h1,h2⟩:=ry
     have w2:=WG.now w1 ok1.sub
     refine⟨a,b,vs,zs,rfl,rfl,x1.same _ _ e2,.inl (by rw[bK];exact ok1.sub.seq h1),by rw[← r.length,← h2.length,sizeLine_eq];exact hl,?_⟩
     exact w2 σ _ Z1 (Same.refl _) (ok1.write e0 e1 ((r.mono x1.z).append h2))
    ·exact w1.elim
   ·rename_i xs
    split at w1
    ·rename_i hl
     obtain⟨y,rfl,ry⟩:=aV rs
     rw[Rep]at ry
     obtain⟨b,zs,rfl,h1,h2⟩:=ry
     have w2:=WG.now w1 ok1.sub
     refine⟨a,b,vs,zs,rfl,rfl,x1.same _ _ e2,.inr (by rw[bK];exact h1.mono ok1.sub),by rw[← r.length,← h2.length,sizeLine_eq];exact hl,?_⟩
     exact w2 σ _ Z1 (Same.refl _) (ok1.write e0 e1 ((r.mono x1.z).append h2))
    ·exact w1.elim
   ·exact w1.elim
  ·exact w.elim
end
def eMethL (f:List D→List D→R D)(g:SS→R D)(gs:SS→R (List D)):SS→R D:=fun S=>(g S).bind fun d=>match d with
 | .lst xs=>(gs S).bind fun es=>f xs es
 | _=>.stuck
section
variable {X:Cx}{F:Fx}{o e:Expr}{g:SS→R D}{gs:SS→R (List D)}{apos cpos:Pos}{k:Nat}
def MethD (F:Fx)(r:V→List V→Hp→VK→Prop)(f:List D→List D→R D):Prop:=∀ (H Z:Hp) (a:Addr) (vs:List V) (xs:List D) (us:List V) (es:List D) (Q:VK),Same Z H→SqL F.K H a vs→Reps F.K F.C Z xs vs→Reps F.K F.C Z es us →
 WG F H Z (f xs es) (fun d H' Z'=>∀ v,Rep F.K F.C Z' d v→Q v H')→r (.ref a) us H Q
theorem pJ {r:V→List V→Hp→VK→Prop}{f:List D→List D→R D}(hd:MethD F r f):∀ σ H Q,tE F (eMethL f g gs) σ H Q→tBM F.K "list" r (tE F g) (tAl F gs) σ H Q:=fun σ H Q ⟨Z,S,ok,w⟩=>ax ok w fun d v H1 Z1 ok1 x1 rv w1=>by
 cases d with
 | lst xs =>
  rw[Rep]at rv
  obtain⟨a,vs,rfl,h1,h2⟩:=rv
  exact⟨.inl ⟨rfl,vs,ok1.sub.seq h1⟩,aJ ok1 w1 fun es us H2 Z2 ok2 x2 rs w2=>hd H2 Z2 a vs xs us es Q ok2.sub (ok2.sub.seq (x2.z.seq h1)) (h2.mono x2.z) rs w2⟩
 | _=>exact w1.elim
end
end FF
end
noncomputable section
namespace FF
open PySem PySem.Spec PyProof.Rows L2
def MadeX (X:Cx)(F:Fx):Prop:=∀ (pins:List (Addr×Obj)) (σ:St) (H:Hp) (s:Shared) (h1:Heap) (ea C:Addr) (args:List Value),Inv X pins σ H s→Heap.MadeExcOf s.heap h1 ea (.ref C) args→F.E (.ref C) none H→X.xe (.ref ea) { s with heap:=h1 }
def bmVE:List Value:=[.type "ValueError",.type "Exception",.type "BaseException",.type "object"]
theorem uB {K:PySem.W.Frag}{h:Heap}{C:Addr}{bmB:List Value}{newId:String}(X:K.In h)(q:PySem.W.excIn K C bmB newId=true) :
  ∃ (bm:List Value) (N:Addr) (nm qn:Str) (bs:List Value) (hdct:Bool) (sn:List Str) (sub:List Value) (ab:Bool) (col:Option Bool) (dd:Option Addr) (k0 k1 k2 k3 k5:Option Value) (mN:Str→Option Value),
   h.get? C=some (excClassObj nm qn C N bs bm hdct sn sub ab col dd k0 k1 k2 k3 k5 newId)∧h.Ns N mN∧mN "__init__"=none∧OwnTail h bmB bm:=by
 unfold PySem.W.excIn at q
 split at q
 ·rename_i dd cd sl ho
  split at q
  ·rename_i C' bm k0 k1 k2 k3 n k5 hm hs
   simp only[Bool.and_eq_true,beq_iff_eq,Bool.not_eq_true']at q
   obtain⟨⟨⟨⟨⟨rfl,rfl⟩,hdel⟩,ht⟩,hok⟩,hni⟩:=q
   obtain⟨nm,bs,mro,ns,qn,hd,sn,sub,ab,col,del⟩:=cd
   dsimp only at hm hdel hok hni
   subst hm hdel
   have hsl:sl = #[k0,k1,k2,k3,some (.builtin n),k5]:=by
    obtain⟨l⟩:=sl
    simp only at hs
    rw[hs]
   subst hsl
   exact⟨bm,ns,nm,qn,bs,hd,sn,sub,ab,col,dd,k0,k1,k2,k3,k5,_,X _ _ ho,.of_isNs (PySem.W.isNs_of_in X hok),PySem.W.nsMap_none_of_in X hok hni,PySem.W.tail_of_in X ht⟩
  ·cases q
 ·cases q
def sRaise (j:Nat)(gs:SS→R (List D)):SS→O:=fun S=>rO ((gs S).bind fun ds=>if ds.length≤1000 then .ok (.er j) else .stuck)
section
variable {X:Cx}{F:Fx}{e:Expr}{es:List Expr}{gs:SS→R (List D)}{pos np cpos:Pos}{x:Str}{k j:Nat}
theorem fh (j:Nat)(bx:BX X F k)(hmade:MadeX X F)(hg:Gl X x)(hm:X.mg x=some (.ref (F.C j)))(q:PySem.W.excIn F.K (F.C j) bmVE "ValueError.__new__"=true)(ha:FA X F (e::es) gs)(hd:(x==("__debug__":Str))=false:=by decide)
  (he:starEach (e::es) X.env=(false,eval e X.env)::starEach es X.env:=by rfl) (hpl:(backTo cpos (starEach es X.env)).any (·.1)=false:=by rfl) :
  FS X F (.Raise (some (.Call (.Name x np) (e::es) [] cpos)) none pos) (sRaise j gs):=by
 intro pins s σ H D I h
 obtain⟨Z,S,ok,w⟩:=h
 have q':=q
 rw[← bx.K]at q'
 obtain⟨bm,N,nm,qn,bs,hdct,sn,sub,ab,col,dd,k0,k1,k2,k3,k5,mN,hC0,hN0,hni0,T0⟩:=uB (bmB:=bmVE) I.ok.mod.kin q'
 have hb:∀ {pl σ' H' s'},Inv X pl σ' H' s'→∀ b o,X.base.get? b=some o→s'.heap.get? b=some o:=fun I'=>I'.bk
 refine wpAny_Raise_call_subU (C:=F.C j) (nm:=nm) (q:=qn) (N:=N) (bs:=bs) (bm:=bm) (hdct:=hdct) (sn:=sn) (sub:=sub) (ab:=ab) (col:=col) (dd:=dd) (k0:=k0) (k1:=k1) (k2:=k2) (k3:=k3) (k5:=k5) PySem.F.excBase_ValueError (by decide) PySem.F.excBase_ValueError (T0.hasType PySem.F.excBase_ValueError.hasBase) (I.ok.hd bx.calm) (by rw[he];show (false||(backTo cpos (starEach es X.env)).any (·.1))=false;rw[hpl];rfl) hni0 (kg I hg hm ⟨rfl,?_⟩ hd)
 have hA:=ha cpos pins s σ H (fun vs H1=>vs.length≤1000∧F.E (.ref (F.C j)) none H1) I (aJ ok (WO.wg ok w) fun ds vs H1 Z1 ok1 x1 rs w1=>by
  split at w1
  ·rename_i hl
   exact⟨by rw[← rs.length];exact hl,WG.now w1 ok1.sub H1 ok1.ex.same⟩
  ·exact w1.elim)
 rw[he]at hA ⊢
 refine Calls.evalArgs_plain (thn hA fun us s2 ⟨vs,H2,I2,r2,q2⟩=>⟨rfl,?_,hb I2 _ _ hC0,hN0.keeps (hb I2),T0.keeps (hb I2),fun h' e hm'=>hmade pins σ H2 s2 h' e _ us I2 hm' q2.2⟩)
 rw[← r2.length,sizeLine_eq]
 omega
end
end FF
end
noncomputable section
namespace FF
open PySem PySem.Spec PyProof.Rows L2
section
variable {X:Cx}{pins:List (Addr×Obj)}{σ:St}{H:Hp}{s:Shared}
end
structure Takes (K:PySem.W.Frag)(C:Nat→Addr)(C0:Addr)(q:Nat→Bool):Prop where
 exc:PySem.W.excIn K C0 bmVE "ValueError.__new__"=true
 sub:∀ k,q k=true→PySem.W.subIn K (.ref (C k)) (.ref C0)=some true
section
variable {F:Fx}{H Z:Hp}{S:SS}{σ:St}
end
section
variable {X:Cx}{F:Fx}{body:List Stmt}{g:SS→O}{c n y:Str}{np np2 kp apos hpos pos:Pos}{k:Nat}{q:Nat→Bool}{C0:Addr}
end
end FF
end
noncomputable section
namespace FF
open PySem PySem.Spec PyProof.Rows L2
def eNeg (g:SS→R D):SS→R D:=fun S=>(g S).bind fun d=>match d with
 | .int i=>.ok (.int (-i))
 | _=>.stuck
section
variable {X:Cx}{F:Fx}{a:Expr}{g:SS→R D}{pos:Pos}{x:Str}{i:Int}
theorem eE (h:FE X F a g):FE X F (.UnaryOp .USub a pos) (eNeg g):=(wT v5 h).weak fun σ H Q ⟨Z,S,ok,w⟩=>ax ok w fun d v H1 Z1 ok1 x1 rv w1=>by
 cases d with
 | int i=>rw[Rep]at rv;exact⟨i,rv,WG.now w1 ok1.sub _ aG⟩
 | _=>exact w1.elim
theorem kD (h:∃ t,X.mg x=some (.int i t))(hg:Gl X x)(hd:(x==("__debug__":Str))=false:=by decide):FE X F (.Name x pos) (eC (.int i)):=by
 obtain⟨t,e⟩:=h
 exact cF (kh (v:=.int i) hg e ⟨t,rfl⟩ hd) fun _=>aG
end
end FF
end
noncomputable section
namespace FF
open PySem PySem.Spec PyProof.Rows L2
section
variable {X:Cx}{F:Fx}{e:Expr}{es:List Expr}{g:SS→R D}{gs:SS→R (List D)}
end
end FF
end
noncomputable section
namespace FF
open PySem L2
def tupI (l:List Int):D:=.tup (l.map .int)
def dSw (d:D)(lo hi:Option Int):R D:=match d with
 | .lst xs=>.ok (.lst (cutD xs lo hi))
 | .tup xs=>.ok (.tup (cutD xs lo hi))
 | _=>.stuck
def eSw (g:SS→R D)(l h:SS→R (Option Int)):SS→R D:=fun S=>(g S).bind fun d=>(l S).bind fun lo=>(h S).bind fun hi=>dSw d lo hi
def intsOf:List D→Option (List Int)
 | []=>some []
 | .int i::r=>(intsOf r).map (i::·)
 | _::_=>none
def sumI (is:List Int):Int:=is.foldl (· + ·) 0
def dSum:List D→R D
 | [.lst xs]=>match intsOf xs with
  | some is=>.ok (.int (sumI is))
  | none=>.stuck
 | [.tup xs]=>match intsOf xs with
  | some is=>.ok (.int (sumI is))
  | none=>.stuck
 | _=>.stuck
def dCountI (xs es:List D):R D:=match es with
 | [.int k]=>match intsOf xs with
  | some is=>.ok (.int (is.countP (· == k):Nat))
  | none=>.stuck
 | _=>.stuck
def setAll:List Nat→List D→SS→SS
 | i::r,d::ds,S=>setAll r ds (S.set i (some (.val d)))
 | _,_,S=>S
def gTup (ix:List Nat):D→SS→R SS:=fun d S=>match d with
 | .tup ds=>if ds.length=ix.length then .ok (setAll ix ds S) else .stuck
 | _=>.stuck
def sAsg (g:D→SS→R SS)(e:SS→R D):SS→O:=fun S=>rO ((e S).bind fun d=>(g d S).bind fun S1=>.ok (.nx S1))
end FF
end
noncomputable section
namespace FF
open PySem PySem.Spec PyProof.Rows L2
def TupK (K:PySem.W.Frag)(a:Addr)(l:List Int):Prop :=
 ∃ (o:Obj) (its:Array Value) (n:Nat),K.lookup a=some o∧o.cls=.type "tuple" ∧ o.dict=none∧o.data=.seq its n∧its.size≤sizeLine∧Vals (l.map V.int) its.toList
theorem jP {K:PySem.W.Frag}{C:Nat→Addr}{Z:Hp}:∀ ns:List Int,Reps K C Z (ns.map .int) (ns.map V.int)
 | []=>by rw[List.map_nil,List.map_nil,Reps]
 | i::ns=>by rw[List.map_cons,List.map_cons,Reps];exact⟨_,_,rfl,aG,jP ns⟩
theorem on {X:Cx}{F:Fx}{x:Str}{pos:Pos}{l:List Int}(h:∃ a,X.mg x=some (.ref a)∧TupK F.K a l)(hg:Gl X x)(hd:(x==("__debug__":Str))=false:=by decide):FE X F (.Name x pos) (eC (tupI l)):=by
 obtain⟨a,e,o,its,n,h1,h2,h2d,h3,h4,h5⟩:=h
 exact cF (kh (v:=.ref a) hg e rfl hd) fun Z=>by
  unfold tupI
  rw[Rep]
  exact⟨a,_,rfl,.inr ⟨o,its,n,h1,h2,h2d,h3,h4,h5⟩,jP l⟩
theorem cK {K:PySem.W.Frag}{C:Nat→Addr}{Z:Hp}:∀ {ds:List D} {vs:List V} {is:List Int},Reps K C Z ds vs→intsOf ds=some is→vs=is.map V.int
 | [],vs,is,r,e=>by rw[Reps]at r;cases e;exact r
 | d::ds,vs,is,r,e=>by
  rw[Reps]at r
  obtain⟨v,r',rfl,h1,h2⟩:=r
  cases d with
  | int i =>
   rw[intsOf]at e
   cases q:intsOf ds with
   | none=>rw[q]at e;cases e
   | some is' =>
    rw[q]at e
    cases e
    rw[Rep]at h1
    rw[h1,cK h2 q]
    rfl
  | _=>simp[intsOf]at e
theorem bb:∀ {is:List Int} {us:List Value},Vals (is.map V.int) us→∃ ps:List (Int×Tok),us=ps.map (fun p=>Value.int p.1 p.2)∧ps.map (·.1)=is
 | [],us,h=>by rw[List.map_nil]at h;cases h;exact⟨[],rfl,rfl⟩
 | i::is,us,h=>by
  rw[List.map_cons]at h
  cases h with
  | cons r t =>
   obtain⟨tk,e⟩:=(show ∃ t,_=Value.int i t from r)
   obtain⟨ps,e2,e3⟩:=bb t
   exact⟨(i,tk)::ps,by rw[e,e2];rfl,by rw[← e3];rfl⟩
section
variable {X:Cx}
end
section
variable {X:Cx}{F:Fx}{p pos:Pos}{e:Expr}{gs:SS→R (List D)}{k:Nat}
end
def rCountI (K:PySem.W.Frag):V→List V→Hp→VK→Prop:=fun x vs H Q=>∃ (l:Addr) (is:List Int) (k:Int),x=.ref l∧vs=[.int k]∧SqL K H l (is.map V.int)∧Q (.int (is.countP (· == k):Nat)) H
theorem pK {X:Cx}{pins:List (Addr×Obj)}{σ:St}{H:Hp}{s:Shared}(I:Inv X pins σ H s){A:Around}(hu:A.units < cLine)(b k:Int)(t t':Tok):SeqAt.EqAt A s (.int b t) (.int k t') (b==k) :=
 fV (K:=X.K) (C:=fun _=>0) (Z:=fun _=>none) rfl I (fun _ _ e=>nomatch e) 0 A (.int b) (.int k) (.int b) (.int k) _ _ rfl rfl aG aG ⟨t,rfl⟩ ⟨t',rfl⟩ (by omega)
def isI (k:Int):Value→Bool
 | .int b _=>b==k
 | _=>false
theorem pL {X:Cx}{k:Nat}(hr:Room k X.A):MtR X "list.count" (rCountI X.K):=by
 intro pins s σ H x vs v us Q I rx rv h
 obtain⟨l,is,k,rfl,rfl,hH,q⟩:=h
 cases rx
 obtain⟨u,rfl,ru⟩:=rv.one
 obtain⟨tk,rfl⟩:=(show ∃ t,u=Value.int k t from ru)
 obtain⟨its,r,⟨⟨c2,d2,dt2,sl2⟩,n2,e2,p2,p3,p4⟩,z2⟩:=I.list hH
 obtain⟨ps,rfl,e⟩:=bb r
 simp only at p2 p3 p4
 subst p2 p3 p4
 refine call_meets F.slot_list_count ⟨_,e2,rfl⟩ F.entry_list_count (F.args_list_count_2 _ _) (SeqAt.list_countAt l _ n2 _ _ (.int k tk) (isI k)) ⟨e2,fun y hy=>?_,?_⟩
 ·have hy':y∈ps.map fun p=>Value.int p.1 p.2:=by simpa using hy
  obtain⟨b,_,rfl⟩:=List.mem_map.mp hy'
  exact pK I (by have:=hr.un;show X.A.units+1 < cLine;omega) b.1 k b.2 tk
 ·have hc:((ps.map fun p=>Value.int p.1 p.2).toArray.toList.countP (isI k))=is.countP (· == k):=by
   show (ps.map fun p=>Value.int p.1 p.2).countP (isI k)=_
   rw[List.countP_map,← e,List.countP_map]
   rfl
  rw[hc]
  exact⟨.int _,H,I.tok _,⟨_,rfl⟩,q⟩
section
variable {X:Cx}{F:Fx}{o e:Expr}{g:SS→R D}{gs:SS→R (List D)}{apos cpos:Pos}{k:Nat}
theorem uC {K:PySem.W.Frag}{C:Nat→Addr}{Z:Hp}{k:Int}{vs:List V}(r:Reps K C Z [.int k] vs):vs=[.int k]:=by
 obtain⟨v,rfl,h⟩:=aV r
 rw[Rep]at h
 rw[h]
theorem kE:MethD F (rCountI F.K) dCountI:=by
 intro H Z a vs xs us es Q s h1 h2 rs w
 unfold dCountI at w
 split at w
 ·rename_i k
  split at w
  ·rename_i is eb
   have e3:=cK h2 eb
   subst e3
   exact⟨a,is,k,rfl,uC rs,h1,WG.now w s _ aG⟩
  ·exact w.elim
 ·exact w.elim
theorem jQ (bx:BX X F k)(ho:FE X F o g)(ha:FA X F [e] gs)
  (hbase:attributeBase o "count" X.env (eval o X.env)=eval o X.env:=by rfl)
  (hfew:((backTo cpos (starEach [e] X.env)).all (fun x=>!x.1)&&(backToKw cpos (keywordEach [] X.env)).all (fun x=>x.1.isSome)
   && decide ([e].length+([]:List Keyword).length+(if ([]:List Keyword).isEmpty then 0 else 1) < 30))=true:=by rfl)
  (hline:(apos.endLine==cpos.line)=true:=by rfl) (hs:starEach [e] X.env=(false,eval e X.env)::starEach [] X.env:=by rfl) (hplain:(backTo cpos (starEach [] X.env)).any (·.1)=false:=by rfl) :
  FE X F (.Call (.Attribute o "count" apos) [e] [] cpos) (eMethL dCountI g gs) :=
 (re PySem.F.plainAttrs_list PySem.F.slot_list_count (by kernel_rfl) (pL bx.room) ho ha hbase hfew hline hs hplain).weak (by rw[bx.K];exact pJ kE)
end
end FF
namespace HT
open PySem PyProof.Rows
theorem eh {prog:Program}{w:World}{A:Around}{E:Value→Shared→Prop}{s:Shared}{t sl:Addr}{items:Array Value}{vl vu:Value}{lo hi:Option Int}{Q:Value→Shared→Prop}(ht:IsTup s.heap t items)(hs:s.heap.IsSliceOf sl vl vu .none)(pl:IsPart vl lo)(pu:IsPart vu hi)
  (hw:sIx items.size 0 lo=0∧sIx items.size items.size hi=items.size) (h:Q (.ref t) s):wpAny (model prog w) A (getItem (.ref t) (.ref sl)) Q E s:=by
 obtain⟨os,hos,hcs,hds⟩:=id hs
 have hTs:s.TypeIs (.ref sl) "slice" := ⟨os,hos,hcs⟩
 unfold getItem
 try with_reducible refine wpAny_holding ?_
 first | refine wpAny_bind (wpAny_pure ?_) | skip
 refine wpAny_bind (wpAny_sequenceKey ht.typeIs (by decide) ?_)
 refine wpAny_bind (wpAny_callSpecial?_slot (name:=Str.ofString "__getitem__") ht.typeIs PyProof.Rows.slot_tuple_getitem
  (wpAny_call_entry PyProof.Rows.slot_tuple_getitem ht.typeIs entry_tuple_getitem ?_ (args_tuple_getitem _ _)))
 show wpAny _ _ (Builtin.Tuple.tupleItemsOf (.ref t) >>= _) _ _ s
 refine wpAny_bind (tupleItemsOf_ ht ?_)
 refine wpAny_bind (wpAny_typeOf hTs ?_)
 rw[if_pos (by decide)]
 refine wpAny_bind (cx hs pl pu ?_)
 rw[hw.1,hw.2]
 show wpAny _ _ (if (((0:Nat):Int)==0&&(1:Int)==1&&(items.size - 0)==items.size)=true then _ else _) _ _ s
 rw[if_pos (by simp)]
 unfold Builtin.Tuple.tupleIsExact
 refine wpAny_bind (wpAny_bind (wpAny_typeOf ht.typeIs (wpAny_pure ?_)))
 rw[if_pos (by decide)]
 exact wpAny_bind (wpAny_rule (wpAny_pure ⟨_,rfl,wpAny_pure h⟩))
end HT
namespace FF
open PySem PySem.Spec PyProof.Rows L2
def rSlW (K:PySem.W.Frag):V→Option Int→Option Int→Hp→VK→Prop:=fun x lo hi H Q=>∃ a xs,x=.ref a∧SqT K H a xs∧(HT.sIx xs.length 0 lo=0∧HT.sIx xs.length xs.length hi=xs.length)∧Q (.ref a) H
theorem uD {X:Cx}:SlR X (rSlW X.K):=by
 intro pins s σ H x v vl vu lo hi sl Q I rx hs pl pu h
 obtain⟨a,xs,rfl,hx,hw,q⟩:=h
 cases rx
 obtain⟨its,r,ht,hz⟩:=I.tuple hx
 have hlen:its.toArray.size=xs.length:=by rw[List.size_toArray];exact r.length.symm
 refine⟨"tuple",_,PyProof.Rows.slot_tuple_getitem.lookup,ht.typeIs,?_⟩
 refine HT.eh ht hs pl pu (by rw[hlen];exact hw) ?_
 exact⟨.ref a,H,I,rfl,q⟩
theorem pM {xs:List D}{lo hi:Option Int}(h:HT.sIx xs.length 0 lo=0∧HT.sIx xs.length xs.length hi=xs.length):cutD xs lo hi=xs:=by
 unfold cutD
 rw[h.1,h.2,List.drop_zero,Nat.sub_zero,List.take_length]
section
variable {X:Cx}{F:Fx}{e:Expr}{lo hi:Option Expr}{g:SS→R D}{l h:SS→R (Option Int)}{pos p2:Pos}
theorem na (hK:X.K=F.K)(he:FE X F e g)(hl:PO X lo (tP F l))(hh:PO X hi (tP F h)):FE X F (.Subscript e (.Slice lo hi none p2) pos) (eSw g l h) :=
 (qZ (uf.or (v7.or uD)) he hl hh).weak fun σ H Q ⟨Z,S,ok,w⟩=>ax ok w fun d v H1 Z1 ok1 x1 rv w1=>om ok1 w1 fun o H2 Z2 ok2 x2 w2=>om ok2 w2 fun o' H3 Z3 ok3 x3 w3=>by
  have rv3:=rv.mono (x2.z.trans x3.z)
  cases d with
  | lst ds =>
   rw[Rep]at rv3
   obtain⟨a,vs,rfl,h1,h2⟩:=rv3
   refine .inl ⟨a,vs,rfl,by rw[hK];exact ok3.sub.seq h1,fun p hp=>?_⟩
   have z:Same Z3 (upd Z3 p (.lst (cutV vs o o'))):=aw (ok3.sub.free hp)
   exact w3 _ _ (Ex.alloc ok3.sub hp) _ (by rw[Rep];exact⟨p,_,rfl,SqL.of ak,(h2.cut o o').mono z⟩)
  | tup ds =>
   have rv4:=rv3
   rw[Rep]at rv3
   obtain⟨a,vs,rfl,h1,h2⟩:=rv3
   have w4:WG F H3 Z3 (R.ok (FF.D.tup (cutD ds o o'))) _:=w3
   by_cases hw:HT.sIx ds.length 0 o=0∧HT.sIx ds.length ds.length o'=ds.length
   ·refine .inr (.inr ⟨a,vs,rfl,by rw[hK];exact h1.mono ok3.sub,by rw[← h2.length];exact hw,?_⟩)
    rw[pM hw]at w4
    exact WG.now w4 ok3.sub _ rv4
   ·refine .inr (.inl ⟨a,vs,rfl,by rw[hK];exact h1.mono ok3.sub,by rw[← h2.length];exact hw,fun p hp=>?_⟩)
    have z:Same Z3 (upd Z3 p (.tup (cutV vs o o'))):=aw (ok3.sub.free hp)
    exact w4 _ _ (Ex.alloc ok3.sub hp) _ (by rw[Rep];exact⟨p,_,rfl,SqT.of ak,(h2.cut o o').mono z⟩)
  | _=>exact w3.elim
end
theorem R.bind_assoc {α β γ:Type}(r:R α)(f:α→R β)(g:β→R γ):(r.bind f).bind g=r.bind fun x=>(f x).bind g:=by cases r<;>rfl
theorem uE (i j:Nat){X:Cx}{F:Fx}{x y:Str}{p1 p2 tp pos pt2:Pos}{k k2:_}{n:Nat}{a b:Expr}{gs:SS→R (List D)}(bx:BX X F n)(hN:X.N.Nodup)(ha:FA X F [a,b] gs)(hij:i≠j:=by decide)(hi:X.N[i]?=some x:=by rfl)(hj:X.N[j]?=some y:=by rfl)
  (hx:X.env.scope.names.lookup x=some .local:=by rfl) (hy:X.env.scope.names.lookup y=some .local:=by rfl)
  (hw:swappedStores [.Tuple [.Name x p1,.Name y p2] k tp] (.Tuple [a,b] k2 pt2) X.env=pure (some [x,y]):=by rfl) (hs:swapsWithSole [.Tuple [.Name x p1,.Name y p2] k tp] (.Tuple [a,b] k2 pt2) pos.line X.env=pure false:=by rfl) :
  FS X F (.Assign [.Tuple [.Name x p1,.Name y p2] k tp] (.Tuple [a,b] k2 pt2) pos) (sAsg (gTup [i,j]) (eTup gs)) :=
 (qQ bx.calm hN hi hj hij hx hy ha hw hs).weak fun D σ H ⟨Z,S,ok,w⟩=>by
  have w0:WG F H Z ((gs S).bind fun ds=>(if ds.length≤16777216 then R.ok (FF.D.tup ds) else R.stuck).bind fun d=>(gTup [i,j] d S).bind fun S1=>R.ok (O.nx S1)) fun o _ Z'=>WO F Z' o D:=by
   rw[← R.bind_assoc]
   exact WO.wg ok w
  refine aJ ok w0 fun ds vs H1 Z1 ok1 x1 rs w1=>?_
  split at w1
  ·have w2:WG F H1 Z1 (R.bind (if ds.length=2 then R.ok (setAll [i,j] ds S) else R.stuck) fun S1=>R.ok (O.nx S1)) fun o _ Z'=>WO F Z' o D:=w1
   split at w2
   ·rename_i hl
    match ds,hl,rs with
    | [d1,d2],_,h2 =>
     rw[Reps]at h2
     obtain⟨v1,r,rfl,q1,h2⟩:=h2
     rw[Reps]at h2
     obtain⟨v2,r,rfl,q2,h2⟩:=h2
     rw[Reps]at h2
     subst h2
     refine⟨v1,v2,rfl,?_⟩
     have w3:=WG.now w2 ok1.sub
     exact w3 _ _ _ (Same.refl _) ((ok1.setVal (i:=i) q1).setVal (i:=j) q2)
   ·exact w2.elim
  ·exact w1.elim
end FF
end
noncomputable section
namespace FF
open PySem L2
def sameK:D→D→Bool
 | .tup _,.tup _=>true
 | .int _,.int _=>true
 | _,_=>false
def eOwnIx (i:Nat)(g:SS→R D):SS→R D:=fun S=>match S[i]? with
 | some (some (.own ds))=>(g S).bind fun k=>match k with
  | .int j=>match atI ds j with
   | some d=>.ok d
   | none=>.stuck
  | _=>.stuck
 | _=>.stuck
end FF
end
noncomputable section
namespace PySem.SeqAt
open AutoSeq1 (wpAny_loadPart')
open MeetsSeq MeetsSeq2 MeetsSeq3 SeqRoads2
end PySem.SeqAt
namespace FF
open PySem PySem.Spec PyProof.Rows L2
section
variable {X:Cx}{F:Fx}{a b:Expr}{ga gb:SS→R D}{pos:Pos}{k:Nat}
end
section
variable {X:Cx}{F:Fx}{a b:Expr}{ga gb:SS→R D}{pos:Pos}{k:Nat}
end
section
variable {X:Cx}{F:Fx}{o e:Expr}{g:SS→R D}{gs:SS→R (List D)}{apos cpos:Pos}{k:Nat}
end
section
variable {X:Cx}{F:Fx}{pos p:Pos}{k:Nat}{gs:SS→R (List D)}{g ge:SS→R D}{e ei:Expr}{x:Str}
theorem lN (i:Nat){p0:Pos}(hK:X.K=F.K)(he:FE X F e g)(hs:PlainIx e:=by intro _ _;rfl)(hi:X.N[i]?=some x:=by rfl)(hv:Vis X.env.scope x:=by first | exact Or.inl rfl | exact Or.inr (Or.inl rfl) | exact Or.inr (Or.inr rfl))(hd:(x==("__debug__":Str))=false:=by decide)
  (hcd:(x==("__classdict__":Str))=false:=by decide):FE X F (.Subscript (.Name x p0) e pos) (eOwnIx i g) :=
 (vw n9 (fP hi hv hd hcd) he hs).weak fun σ H Q ⟨Z,S,ok,w⟩=>by
  unfold eOwnIx at w
  split at w
  ·rename_i ds e0
   obtain⟨a,vs,e1,e2,e3,e4,r⟩:=ok.own i ds e0
   refine⟨.ref a,e1,ax ok w fun d v H1 Z1 ok1 x1 rv w1=>?_⟩
   cases d with
   | int j =>
    rw[Rep]at rv
    have w2:WG F H1 Z1 (match atI ds j with | some d=>R.ok d | none=>R.stuck) _:=w1
    cases q:atI ds j with
    | none=>rw[q]at w2;exact w2.elim
    | some d =>
     rw[q]at w2
     obtain⟨v',f1,f2⟩:=(r.mono x1.z).at q
     exact⟨a,vs,j,v',rfl,rv,SqL.of (x1.same _ _ e2),f1,WG.now w2 ok1.sub _ f2⟩
   | _=>exact w1.elim
  ·exact w.elim
theorem Reps.setAt {K:PySem.W.Frag}{C:Nat→Addr}{Z:Hp}{d:D}{v:V}(q:Rep K C Z d v):∀ {ds:List D} {vs:List V} (j:Nat),Reps K C Z ds vs→Reps K C Z (ds.set j d) (vs.set j v)
 | [],vs,j,r=>by rw[Reps]at r;subst r;rw[List.set_nil,List.set_nil,Reps]
 | a::ds,vs,0,r=>by
  rw[Reps]at r
  obtain⟨w,r',rfl,h1,h2⟩:=r
  rw[List.set_cons_zero,List.set_cons_zero,Reps]
  exact⟨_,_,rfl,q,h2⟩
 | a::ds,vs,j+1,r=>by
  rw[Reps]at r
  obtain⟨w,r',rfl,h1,h2⟩:=r
  rw[List.set_cons_succ,List.set_cons_succ,Reps]
  exact⟨_,_,rfl,h1,Reps.setAt q j h2⟩
end
end FF
end
noncomputable section
namespace FF
open PySem PySem.Spec PyProof.Rows L2
def dNf (x y:D):R D:=if good 60 x=true∧good 60 y=true then .ok (.bl (!eqD x y)) else .stuck
theorem uF {X:Cx}{pins:List (Addr×Obj)}{σ:St}{H Z:Hp}{s:Shared}{K:PySem.W.Frag}{C:Nat→Addr}(hK:X.K=K)(I:Inv X pins σ H s)(z:Same Z H)(n:Nat)(A:Around)(d e:D)(v u:V)(x y:Value)(g1:good n d=true)(g2:good n e=true)
  (h:Rep K C Z d v) (h':Rep K C Z e u) (rx:RelV v x) (ry:RelV u y) (hu:A.units+n < cLine):SeqAt.RcNeAt A s x y (!eqD d e):=by
 have hu0:A.units < cLine:=by omega
 cases d with
 | exc k=>cases n<;>simp[good]at g1
 | fn k=>cases n<;>simp[good]at g1
 | tup ds =>
  cases n with
  | zero=>simp[good]at g1
  | succ n =>
   have in1:A.in1.units+n < cLine:=by show A.units+1+n < cLine;omega
   rw[Rep]at h
   obtain⟨a,vs,rfl,h1,h2⟩:=h
   cases rx
   obtain⟨its,r,p,_⟩:=I.tuple (by rw[hK];exact h1.mono z:SqT X.K H a vs)
   have p':s.heap.IsTuple a its.toArray:=p
   cases e with
   | tup es =>
    rw[Rep]at h'
    obtain⟨b,us,rfl,k1,k2⟩:=h'
    cases ry
    obtain⟨its2,r2,p2,_⟩:=I.tuple (by rw[hK];exact k1.mono z:SqT X.K H b us)
    have p2':s.heap.IsTuple b its2.toArray:=p2
    rw[good]at g1 g2
    have q:=SeqAt.RcNeAt.tuples (A:=A) (e:=fun j=>eqD (ds.getD j .non) (es.getD j .non)) p' p2' hu0 fun j j1 j2=>by
     have j1':j < its.length:=by simpa using j1
     have j2':j < its2.length:=by simpa using j2
     have l1:j < ds.length:=by rw[h2.length,r.length];exact j1'
     have l2:j < es.length:=by rw[k2.length,r2.length];exact j2'
     have e1:ds[j]?=some ds[j]:=by simp
     have e2:es[j]?=some es[j]:=by simp
     obtain⟨w1,f1,f2⟩:=h2.get e1
     obtain⟨w2,f3,f4⟩:=k2.get e2
     obtain⟨z1,m1,m2⟩:=r.get f1
     obtain⟨z2,m3,m4⟩:=r2.get f3
     have n1:its.toArray[j]=z1:=by simpa [j1'] using m1
     have n2:its2.toArray[j]=z2:=by simpa [j2'] using m3
     rw[n1,n2]
     have g3:ds.getD j .non=ds[j]:=by simp[l1]
     have g4:es.getD j .non=es[j]:=by simp[l2]
     rw[g3,g4]
     exact fV hK I z n A.in1 _ _ w1 w2 z1 z2 (aE g1 e1) (aE g2 e2) f2 f4 m2 m4 in1
    rw[eqD,bU]
    have s1:its.toArray.size=ds.length:=by rw[List.size_toArray,h2.length,r.length]
    have s2:its2.toArray.size=es.length:=by rw[List.size_toArray,k2.length,r2.length]
    rw[s1,s2]at q
    exact q
   | lst es =>
    rw[Rep]at h'
    obtain⟨b,us,rfl,k1,k2⟩:=h'
    cases ry
    obtain⟨its2,r2,p2,_⟩:=I.list (by rw[hK];exact z.seq k1:SqL X.K H b us)
    simp only[eqD,Bool.not_false,Bool.not_true]
    exact SeqAt.RcNeAt.tuple_list p' p2.isList hu0
   | exc k=>simp[good]at g2
   | fn k=>simp[good]at g2
   | non=>rw[Rep]at h';subst h';cases ry;simp only[eqD,Bool.not_false,Bool.not_true];exact SeqAt.RcNeAt.tuple_none p' hu0
   | bl b=>rw[Rep]at h';subst h';cases ry;simp only[eqD,Bool.not_false,Bool.not_true];exact SeqAt.RcNeAt.tuple_bool _ p' hu0
   | int b=>rw[Rep]at h';subst h';obtain⟨t,rfl⟩:=ry;simp only[eqD,Bool.not_false,Bool.not_true];exact SeqAt.RcNeAt.tuple_int _ _ p' hu0
   | str b=>rw[Rep]at h';subst h';obtain⟨t,rfl⟩:=ry;simp only[eqD,Bool.not_false,Bool.not_true];exact SeqAt.RcNeAt.tuple_str _ _ p' hu0
 | lst ds =>
  cases n with
  | zero=>simp[good]at g1
  | succ n =>
   have in1:A.in1.units+n < cLine:=by show A.units+1+n < cLine;omega
   rw[Rep]at h
   obtain⟨a,vs,rfl,h1,h2⟩:=h
   cases rx
   obtain⟨its,r,p,_⟩:=I.list (by rw[hK];exact z.seq h1:SqL X.K H a vs)
   have p':=p.isList
   cases e with
   | lst es =>
    rw[Rep]at h'
    obtain⟨b,us,rfl,k1,k2⟩:=h'
    cases ry
    obtain⟨its2,r2,p2,_⟩:=I.list (by rw[hK];exact z.seq k1:SqL X.K H b us)
    have p2':=p2.isList
    rw[good]at g1 g2
    have s1:its.toArray.size=ds.length:=by rw[List.size_toArray,h2.length,r.length]
    have s2:its2.toArray.size=es.length:=by rw[List.size_toArray,k2.length,r2.length]
    rw[eqD,bU]
    by_cases hsz:ds.length=es.length
    ·have q:=SeqAt.RcNeAt.lists (A:=A) (e:=fun j=>eqD (ds.getD j .non) (es.getD j .non)) p' p2' (by rw[s1,s2];exact hsz) hu0 fun j j1 j2=>by
      have j1':j < its.length:=by simpa using j1
      have j2':j < its2.length:=by simpa using j2
      have l1:j < ds.length:=by rw[h2.length,r.length];exact j1'
      have l2:j < es.length:=by rw[k2.length,r2.length];exact j2'
      have e1:ds[j]?=some ds[j]:=by simp
      have e2:es[j]?=some es[j]:=by simp
      obtain⟨w1,f1,f2⟩:=h2.get e1
      obtain⟨w2,f3,f4⟩:=k2.get e2
      obtain⟨z1,m1,m2⟩:=r.get f1
      obtain⟨z2,m3,m4⟩:=r2.get f3
      have n1:its.toArray[j]=z1:=by simpa [j1'] using m1
      have n2:its2.toArray[j]=z2:=by simpa [j2'] using m3
      rw[n1,n2]
      have g3:ds.getD j .non=ds[j]:=by simp[l1]
      have g4:es.getD j .non=es[j]:=by simp[l2]
      rw[g3,g4]
      exact fV hK I z n A.in1 _ _ w1 w2 z1 z2 (aE g1 e1) (aE g2 e2) f2 f4 m2 m4 in1
     rw[s1]at q
     rw[hsz,Nat.min_self,beq_self_eq_true,Bool.and_true,← hsz]
     exact q
    ·have q:=SeqAt.RcNeAt.lists_lengths (A:=A) p' p2' (by rw[s1,s2];simpa using hsz) hu0
     rw[show (ds.length==es.length)=false by simpa using hsz,Bool.and_false]
     exact q
   | tup es =>
    rw[Rep]at h'
    obtain⟨b,us,rfl,k1,k2⟩:=h'
    cases ry
    obtain⟨its2,r2,p2,_⟩:=I.tuple (by rw[hK];exact k1.mono z:SqT X.K H b us)
    simp only[eqD,Bool.not_false,Bool.not_true]
    exact SeqAt.RcNeAt.list_tuple p' (show s.heap.IsTuple b its2.toArray from p2) hu0
   | exc k=>simp[good]at g2
   | fn k=>simp[good]at g2
   | non=>rw[Rep]at h';subst h';cases ry;simp only[eqD,Bool.not_false,Bool.not_true];exact SeqAt.RcNeAt.list_none p' hu0
   | bl b=>rw[Rep]at h';subst h';cases ry;simp only[eqD,Bool.not_false,Bool.not_true];exact SeqAt.RcNeAt.list_bool _ p' hu0
   | int b=>rw[Rep]at h';subst h';obtain⟨t,rfl⟩:=ry;simp only[eqD,Bool.not_false,Bool.not_true];exact SeqAt.RcNeAt.list_int _ _ p' hu0
   | str b=>rw[Rep]at h';subst h';obtain⟨t,rfl⟩:=ry;simp only[eqD,Bool.not_false,Bool.not_true];exact SeqAt.RcNeAt.list_str _ _ p' hu0
 | non =>
  rw[Rep]at h;subst h;cases rx
  cases e with
  | tup es =>
   rw[Rep]at h'
   obtain⟨b,us,rfl,k1,k2⟩:=h'
   cases ry
   obtain⟨its2,r2,p2,_⟩:=I.tuple (by rw[hK];exact k1.mono z:SqT X.K H b us)
   simp only[eqD,Bool.not_false,Bool.not_true];exact SeqAt.RcNeAt.none_tuple (show s.heap.IsTuple b its2.toArray from p2) hu0
  | lst es =>
   rw[Rep]at h'
   obtain⟨b,us,rfl,k1,k2⟩:=h'
   cases ry
   obtain⟨its2,r2,p2,_⟩:=I.list (by rw[hK];exact z.seq k1:SqL X.K H b us)
   simp only[eqD,Bool.not_false,Bool.not_true];exact SeqAt.RcNeAt.none_list p2.isList hu0
  | exc k=>cases n<;>simp[good]at g2
  | fn k=>cases n<;>simp[good]at g2
  | non=>rw[Rep]at h';subst h';cases ry;simp only[eqD,Bool.not_false,Bool.not_true];exact SeqAt.RcNeAt.none_none
  | bl b=>rw[Rep]at h';subst h';cases ry;simp only[eqD,Bool.not_false,Bool.not_true];exact SeqAt.RcNeAt.none_bool _
  | int b=>rw[Rep]at h';subst h';obtain⟨t,rfl⟩:=ry;simp only[eqD,Bool.not_false,Bool.not_true];exact SeqAt.RcNeAt.none_int _ _
  | str b=>rw[Rep]at h';subst h';obtain⟨t,rfl⟩:=ry;simp only[eqD,Bool.not_false,Bool.not_true];exact SeqAt.RcNeAt.none_str _ _
 | bl a =>
  rw[Rep]at h;subst h;cases rx
  cases e with
  | tup es =>
   rw[Rep]at h'
   obtain⟨b,us,rfl,k1,k2⟩:=h'
   cases ry
   obtain⟨its2,r2,p2,_⟩:=I.tuple (by rw[hK];exact k1.mono z:SqT X.K H b us)
   simp only[eqD,Bool.not_false,Bool.not_true];exact SeqAt.RcNeAt.bool_tuple _ (show s.heap.IsTuple b its2.toArray from p2) hu0
  | lst es =>
   rw[Rep]at h'
   obtain⟨b,us,rfl,k1,k2⟩:=h'
   cases ry
   obtain⟨its2,r2,p2,_⟩:=I.list (by rw[hK];exact z.seq k1:SqL X.K H b us)
   simp only[eqD,Bool.not_false,Bool.not_true];exact SeqAt.RcNeAt.bool_list _ p2.isList hu0
  | exc k=>cases n<;>simp[good]at g2
  | fn k=>cases n<;>simp[good]at g2
  | non=>rw[Rep]at h';subst h';cases ry;simp only[eqD,Bool.not_false,Bool.not_true];exact SeqAt.RcNeAt.bool_none _
  | bl b=>rw[Rep]at h';subst h';cases ry;simp only[eqD,Bool.not_false,Bool.not_true];exact SeqAt.RcNeAt.bool_bool _ _
  | int b=>rw[Rep]at h';subst h';obtain⟨t,rfl⟩:=ry;simp only[eqD,Bool.not_false,Bool.not_true];exact SeqAt.RcNeAt.bool_int _ _ _
  | str b=>rw[Rep]at h';subst h';obtain⟨t,rfl⟩:=ry;simp only[eqD,Bool.not_false,Bool.not_true];exact SeqAt.RcNeAt.bool_str _ _ _
 | int a =>
  rw[Rep]at h;subst h;obtain⟨t0,rfl⟩:=rx
  cases e with
  | tup es =>
   rw[Rep]at h'
   obtain⟨b,us,rfl,k1,k2⟩:=h'
   cases ry
   obtain⟨its2,r2,p2,_⟩:=I.tuple (by rw[hK];exact k1.mono z:SqT X.K H b us)
   simp only[eqD,Bool.not_false,Bool.not_true];exact SeqAt.RcNeAt.int_tuple _ _ (show s.heap.IsTuple b its2.toArray from p2) hu0
  | lst es =>
   rw[Rep]at h'
   obtain⟨b,us,rfl,k1,k2⟩:=h'
   cases ry
   obtain⟨its2,r2,p2,_⟩:=I.list (by rw[hK];exact z.seq k1:SqL X.K H b us)
   simp only[eqD,Bool.not_false,Bool.not_true];exact SeqAt.RcNeAt.int_list _ _ p2.isList hu0
  | exc k=>cases n<;>simp[good]at g2
  | fn k=>cases n<;>simp[good]at g2
  | non=>rw[Rep]at h';subst h';cases ry;simp only[eqD,Bool.not_false,Bool.not_true];exact SeqAt.RcNeAt.int_none _ _
  | bl b=>rw[Rep]at h';subst h';cases ry;simp only[eqD,Bool.not_false,Bool.not_true];exact SeqAt.RcNeAt.int_bool _ _ _
  | int b=>rw[Rep]at h';subst h';obtain⟨t,rfl⟩:=ry;simp only[eqD,Bool.not_false,Bool.not_true];exact SeqAt.RcNeAt.int_int _ _ _ _
  | str b=>rw[Rep]at h';subst h';obtain⟨t,rfl⟩:=ry;simp only[eqD,Bool.not_false,Bool.not_true];exact SeqAt.RcNeAt.int_str _ _ _ _
 | str a =>
  rw[Rep]at h;subst h;obtain⟨t0,rfl⟩:=rx
  cases e with
  | tup es =>
   rw[Rep]at h'
   obtain⟨b,us,rfl,k1,k2⟩:=h'
   cases ry
   obtain⟨its2,r2,p2,_⟩:=I.tuple (by rw[hK];exact k1.mono z:SqT X.K H b us)
   simp only[eqD,Bool.not_false,Bool.not_true];exact SeqAt.RcNeAt.str_tuple _ _ (show s.heap.IsTuple b its2.toArray from p2) hu0
  | lst es =>
   rw[Rep]at h'
   obtain⟨b,us,rfl,k1,k2⟩:=h'
   cases ry
   obtain⟨its2,r2,p2,_⟩:=I.list (by rw[hK];exact z.seq k1:SqL X.K H b us)
   simp only[eqD,Bool.not_false,Bool.not_true];exact SeqAt.RcNeAt.str_list _ _ p2.isList hu0
  | exc k=>cases n<;>simp[good]at g2
  | fn k=>cases n<;>simp[good]at g2
  | non=>rw[Rep]at h';subst h';cases ry;simp only[eqD,Bool.not_false,Bool.not_true];exact SeqAt.RcNeAt.str_none _ _
  | bl b=>rw[Rep]at h';subst h';cases ry;simp only[eqD,Bool.not_false,Bool.not_true];exact SeqAt.RcNeAt.str_bool _ _ _
  | int b=>rw[Rep]at h';subst h';obtain⟨t,rfl⟩:=ry;simp only[eqD,Bool.not_false,Bool.not_true];exact SeqAt.RcNeAt.str_int _ _ _ _
  | str b=>rw[Rep]at h';subst h';obtain⟨t,rfl⟩:=ry;simp only[eqD,Bool.not_false,Bool.not_true];exact SeqAt.RcNeAt.str_str _ _ _ _
def rNf (K:PySem.W.Frag)(C:Nat→Addr):R2:=fun x y H Q=>∃ Z d e,Same Z H∧Rep K C Z d x∧Rep K C Z e y∧good 60 d=true∧good 60 e=true∧Q (.bl (!eqD d e)) H
section
variable {X:Cx}{F:Fx}{a b:Expr}{ga gb:SS→R D}{pos:Pos}{k:Nat}
theorem wZ (hK:X.K=F.K)(hr:Room k X.A):OpR X (compareOp .NotEq) (rNf F.K F.C):=by
 intro pins s σ H x y v u Q I rx ry h
 obtain⟨Z,d,e,z,h1,h2,g1,g2,q⟩:=h
 have hu:X.A.units+60 < cLine:=by have:=hr.un;omega
 exact uF hK I z 60 X.A d e x y v u g1 g2 h1 h2 rx ry hu X.prog X.w X.xe _ ⟨.bl (!eqD d e),H,I,rfl,q⟩
theorem wt:OpD F (rNf F.K F.C) dNf:=by
 intro H Z x y dx dy Q s rx ry w
 unfold dNf at w
 split at w
 ·rename_i g
  exact⟨Z,dx,dy,s,rx,ry,g.1,g.2,WG.now w s _ a9⟩
 ·exact w.elim
theorem dq (bx:BX X F k)(ha:FE X F a ga)(hb:FE X F b gb):FT X F (.Compare a [.NotEq] [b] pos) (gB (eOp dNf ga gb)):=fT (wZ bx.K bx.room) wt ha hb
end
def qTk (es:List Nat)(j:Nat):Bool:=es.contains j
theorem rQ {K:PySem.W.Frag}{C:Nat→Addr}{es:List Nat}(h:PySem.W.excIn K (C 0) bmVE "ValueError.__new__"=true)(hs:∀ j∈es,PySem.W.subIn K (.ref (C j)) (.ref (C 0))=some true):Takes K C (C 0) (qTk es) :=
 ⟨h,fun k e=>hs k (by simpa [qTk] using e)⟩
section
variable {X:Cx}{F:Fx}{o e:Expr}{g:SS→R D}{gs:SS→R (List D)}{apos cpos:Pos}{k:Nat}
end
end FF
end
noncomputable section
namespace FF
open PySem L2
inductive L (σ:Type) where
 | nx (s:σ) | rt (d:D) | er (k:Nat) | stuck
def lB {α σ:Type}(r:R α)(k:α→L σ):L σ:=match r with
 | .ok a=>k a
 | .err e=>.er e
 | .stuck=>.stuck
def lS {τ σ:Type}(l:L τ)(k:τ→L σ):L σ:=match l with
 | .nx s=>k s
 | .rt d=>.rt d
 | .er e=>.er e
 | .stuck=>.stuck
def lFor {α τ:Type}(f:τ→α→L τ):List α→τ→L τ
 | [],s=>.nx s
 | d::r,s=>lS (f s d) fun s'=>lFor f r s'
def lTry {τ σ:Type}(q:Nat→Bool)(l:L τ)(k:τ→L σ)(h:Nat→L σ):L σ:=match l with
 | .nx s=>k s
 | .rt d=>.rt d
 | .er e=>if q e=true then h e else .stuck
 | .stuck=>.stuck
def outL {σ:Type}(l:L σ):R D:=match l with
 | .nx _=>.ok .non
 | .rt d=>.ok d
 | .er k=>.err k
 | .stuck=>.stuck
section
variable {α τ σ:Type}
@[simp] theorem aC (a:α)(k:α→L σ):lB (.ok a) k=k a:=rfl
@[simp] theorem wu (e:Nat)(k:α→L σ):lB (.err e) k=.er e:=rfl
@[simp] theorem xa (k:α→L σ):lB .stuck k=.stuck:=rfl
@[simp] theorem db (s:τ)(k:τ→L σ):lS (.nx s) k=k s:=rfl
@[simp] theorem xb (d:D)(k:τ→L σ):lS (.rt d) k=.rt d:=rfl
@[simp] theorem xc (e:Nat)(k:τ→L σ):lS (.er e) k=.er e:=rfl
@[simp] theorem xg (k:τ→L σ):lS .stuck k=.stuck:=rfl
@[simp] theorem rR (f:τ→α→L τ)(s:τ):lFor f [] s=.nx s:=rfl
theorem bR (f:τ→α→L τ)(d:α)(r:List α)(s:τ):lFor f (d::r) s=lS (f s d) fun s'=>lFor f r s':=rfl
@[simp] theorem xy (q:Nat→Bool)(s:τ)(k:τ→L σ)(h:Nat→L σ):lTry q (.nx s) k h=k s:=rfl
@[simp] theorem xz (q:Nat→Bool)(d:D)(k:τ→L σ)(h:Nat→L σ):lTry q (.rt d:L τ) k h=.rt d:=rfl
@[simp] theorem xA (q:Nat→Bool)(e:Nat)(k:τ→L σ)(h:Nat→L σ):lTry q (.er e:L τ) k h=if q e=true then h e else .stuck:=rfl
@[simp] theorem uG (s:σ):outL (.nx s)=.ok .non:=rfl
@[simp] theorem uH (d:D):outL (.rt d:L σ)=.ok d:=rfl
@[simp] theorem uI (k:Nat):outL (.er k:L σ)=.err k:=rfl
end
def rAnd (a b:R Bool):R Bool:=a.bind fun c=>if c=true then b else .ok false
def rOr (a b:R Bool):R Bool:=a.bind fun c=>if c=true then .ok true else b
def rNot (a:R Bool):R Bool:=a.bind fun c=>.ok (!c)
def vAnd (a b:R D):R D:=(asB a).bind fun c=>if c=true then b else .ok (.bl false)
def vOr (a b:R D):R D:=(asB a).bind fun c=>if c=true then .ok (.bl true) else b
def vNot (a:R D):R D:=(asB a).bind fun c=>.ok (.bl (!c))
def rIf (c:R Bool)(a b:R D):R D:=c.bind fun t=>if t=true then a else b
def rCh (f f':D→D→R D)(x y:D)(w:R D):R D:=(asB (f x y)).bind fun k=>if k=true then w.bind fun w=>f' y w else .ok (.bl false)
@[simp] theorem ba (b:Bool):asB (.ok (.bl b))=.ok b:=rfl
@[simp] theorem ww (b:R Bool):rAnd (.ok true) b=b:=rfl
@[simp] theorem wx (b:R Bool):rAnd (.ok false) b=.ok false:=rfl
@[simp] theorem xh (b:R Bool):rOr (.ok true) b=.ok true:=rfl
@[simp] theorem xi (b:R Bool):rOr (.ok false) b=b:=rfl
@[simp] theorem kF (b:Bool):rNot (.ok b)=.ok (!b):=rfl
@[simp] theorem wy (b:R D):vAnd (.ok (.bl true)) b=b:=rfl
@[simp] theorem wz (b:R D):vAnd (.ok (.bl false)) b=.ok (.bl false):=rfl
@[simp] theorem xj (b:R D):vOr (.ok (.bl true)) b=.ok (.bl true):=rfl
@[simp] theorem xk (b:R D):vOr (.ok (.bl false)) b=b:=rfl
@[simp] theorem uJ (b:Bool):vNot (.ok (.bl b))=.ok (.bl (!b)):=rfl
@[simp] theorem xl (a b:R D):rIf (.ok true) a b=a:=rfl
@[simp] theorem xm (a b:R D):rIf (.ok false) a b=b:=rfl
def bA {α:Type}:List (R D)→(List D→R α)→R α
 | [],k=>k []
 | r::rs,k=>r.bind fun d=>bA rs fun ds=>k (d::ds)
def cGo (c:D→R Bool)(e:D→R D):List D→R (List D)
 | []=>.ok []
 | d::r=>match c d with
  | .ok true=>match e d with
   | .ok y=>match cGo c e r with
    | .ok ys=>.ok (y::ys)
    | _=>.stuck
   | _=>.stuck
  | .ok false=>cGo c e r
  | _=>.stuck
def cMap (e:D→R D)(xs:List D):R D:=(cGo (fun _=>.ok true) e xs).bind fun ys=>.ok (.lst ys)
def cFil (c:D→R Bool)(e:D→R D)(xs:List D):R D:=(cGo c e xs).bind fun ys=>.ok (.lst ys)
def un2 {α:Type}(d:D)(k:D→D→R α):R α:=match d with
 | .tup [a,b]=>k a b
 | _=>.stuck
def lUn2 {σ:Type}(d:D)(k:D→D→L σ):L σ:=match d with
 | .tup [a,b]=>k a b
 | _=>.stuck
def sq (d:D):R (List D):=(asSeq d).bind fun ds=>if ds.length≤16777216 then .ok ds else .stuck
def dInD (x y:D):R D:=match y with
 | .tup ds=>if good 60 x=true∧goods 60 ds=true then .ok (.bl (ds.any fun e=>eqD e x)) else .stuck
 | .lst ds=>if good 60 x=true∧goods 60 ds=true then .ok (.bl (ds.any fun e=>eqD e x)) else .stuck
 | _=>.stuck
def dList:List D→R D
 | [.lst xs]=>.ok (.lst xs)
 | [.tup xs]=>.ok (.lst xs)
 | _=>.stuck
def dLenSet:List D→R D
 | [.lst xs]=>match intsOf xs with
  | some is=>if is.length≤4000 then .ok (.int (is.eraseDups.length:Nat)) else .stuck
  | none=>.stuck
 | _=>.stuck
def enD:List D→Nat→List D
 | [],_=>[]
 | d::r,i=>.tup [.int (i:Int),d]::enD r (i+1)
def dEnum (d:D):R (List D):=(sq d).bind fun ds=>.ok (enD ds 0)
def zipD:List D→List D→List D
 | a::r,b::s=>.tup [a,b]::zipD r s
 | _,_=>[]
def dZip (a b:D):R (List D):=(sq a).bind fun xs=>(sq b).bind fun ys=>.ok (zipD xs ys)
def dRev (d:D):R D:=match d with
 | .lst xs=>.ok (.lst xs.reverse)
 | .tup xs=>.ok (.tup xs.reverse)
 | _=>.stuck
def dMin2:List D→R D
 | [.int i,.int j]=>.ok (.int (if j < i then j else i))
 | _=>.stuck
def onF {α:Type}(fs:List Nat)(f:D)(k:Nat→R α):R α:=match f with
 | .fn i=>if fs.contains i=true then k i else .stuck
 | _=>.stuck
def onL {α:Type}(d:D)(k:List D→R α):R α:=match d with
 | .lst xs=>k xs
 | _=>.stuck
def dNeg (d:D):R D:=match d with
 | .int i=>.ok (.int (-i))
 | _=>.stuck
def oIx (ds:List D)(i:D):R D:=match i with
 | .int j=>match atI ds j with
  | some d=>.ok d
  | none=>.stuck
 | _=>.stuck
def oApp (ds:List D)(v:D):R (List D):=if ds.length < 16777216 then .ok (ds++[v]) else .stuck
def oExt (ds:List D)(v:D):R (List D):=match v with
 | .lst xs=>if ds.length+xs.length≤16777216 then .ok (ds++xs) else .stuck
 | .tup xs=>if ds.length+xs.length≤16777216 then .ok (ds++xs) else .stuck
 | _=>.stuck
def a0 (k:L Unit):List D→R D
 | []=>outL k
 | _=>.stuck
def a1 (k:D→L Unit):List D→R D
 | [a]=>outL (k a)
 | _=>.stuck
def a2 (k:D→D→L Unit):List D→R D
 | [a,b]=>outL (k a b)
 | _=>.stuck
def a3 (k:D→D→D→L Unit):List D→R D
 | [a,b,c]=>outL (k a b c)
 | _=>.stuck
def a4 (k:D→D→D→D→L Unit):List D→R D
 | [a,b,c,d]=>outL (k a b c d)
 | _=>.stuck
def a5 (k:D→D→D→D→D→L Unit):List D→R D
 | [a,b,c,d,e]=>outL (k a b c d e)
 | _=>.stuck
def a6 (k:D→D→D→D→D→D→L Unit):List D→R D
 | [a,b,c,d,e,f]=>outL (k a b c d e f)
 | _=>.stuck
end FF
end
noncomputable section
namespace FF
open PySem PySem.Spec PyProof.Rows L2
section
variable {α τ σ W:Type}
def WL (F:Fx)(Z:Hp)(J:σ→SS→Prop)(l:L σ)(D:Ends):Prop:=match l with
 | .nx s=>∀ S ρ H Z',J s S→Same Z Z'→StOk F H Z' S ρ→D.nx ρ H
 | .rt d=>∀ v H Z',Ex F.H0 F.Z0 H Z'→Rep F.K F.C Z' d v→D.rt v H
 | .er k=>∀ H,Same F.H0 H→F.E (.ref (F.C k)) none H
 | .stuck=>False
theorem WL.more {F:Fx}{Z Z1:Hp}{J:σ→SS→Prop}{l:L σ}{D:Ends}(w:WL F Z J l D)(z:Same Z Z1):WL F Z1 J l D:=by
 cases l with
 | nx s=>exact fun S ρ H Z' j q=>w S ρ H Z' j (z.trans q)
 | rt d=>exact w
 | er k=>exact w
 | stuck=>exact w
def tL (F:Fx)(S:SS)(J:σ→SS→Prop)(l:L σ):TS:=fun D ρ H=>∃ Z,StOk F H Z S ρ∧WL F Z J l D
abbrev FL (X:Cx)(F:Fx)(S:SS)(sts:List Stmt)(J:σ→SS→Prop)(l:L σ):Prop:=PSs X sts (tL F S J l)
abbrev FL1 (X:Cx)(F:Fx)(S:SS)(st:Stmt)(J:σ→SS→Prop)(l:L σ):Prop:=PS X st (tL F S J l)
def JX (inj:τ→W→SS):τ→SS→Prop:=fun s S=>∃ w,S=inj s w
def JU:Unit→SS→Prop:=fun _ _=>True
abbrev vv (d:D):Option Sl:=some (.val d)
abbrev ow (ds:List D):Option Sl:=some (.own ds)
abbrev nn:Option Sl:=none
variable {X:Cx}{F:Fx}{S:SS}{st:Stmt}{rest:List Stmt}{J:σ→SS→Prop}{J1:τ→SS→Prop}
theorem nc {sts:List Stmt}{t:α→TS}(h:∀ a,PSs X sts (t a)):PSs X sts (fun D ρ H=>∃ a,t a D ρ H):=fun pins s ρ H D I ⟨a,w⟩=>h a pins s ρ H D I w
theorem WL.wg {D:Ends}{r:R α}{k:α→L σ}{H Z:Hp}{ρ:St}(ok:StOk F H Z S ρ)(w:WL F Z J (lB r k) D):WG F H Z r fun a _ Z'=>WL F Z' J (k a) D:=by
 cases r with
 | ok o=>exact fun _ _ x=>WL.more (l:=k o) w x.z
 | err k=>exact fun H' s=>w H' (ok.ex.same.trans s)
 | stuck=>exact w
theorem ar {s:σ}(h:J s S):FL X F S [] J (.nx s):=t4.weak fun D ρ H ⟨Z,ok,w⟩=>w S ρ H Z h (Same.refl _) ok
theorem aj {g:SS→O}{r:R α}{S':α→SS}{k:α→L σ}(h:FS X F st g)(hg:g S=rO (r.bind fun a=>.ok (.nx (S' a))))(hk:∀ a,FL X F (S' a) rest J (k a)):FL X F S (st::rest) J (lB r k) :=
 (dg h (nc hk)).weak fun D ρ H ⟨Z,ok,w⟩=>⟨Z,S,ok,by
  rw[hg]
  cases r with
  | ok a=>exact fun ρ' H' Z' z ok'=>⟨a,Z',ok',WL.more (l:=k a) w z⟩
  | err k=>exact w
  | stuck=>exact w⟩
theorem cy {g:SS→O}{S':SS}{l:L σ}(h:FS X F st g)(hg:g S=.nx S')(hk:FL X F S' rest J l):FL X F S (st::rest) J l :=
 (dg h hk).weak fun D ρ H ⟨Z,ok,w⟩=>⟨Z,S,ok,by rw[hg];exact fun ρ' H' Z' z ok'=>⟨Z',ok',WL.more w z⟩⟩
theorem aq {g:SS→R D}{r:R D}(h:FS X F st (sRet g))(hr:g S=r):FL X F S (st::rest) J (lB r .rt) :=
 (dg h jE).weak fun D ρ H ⟨Z,ok,w⟩=>⟨Z,S,ok,by
  unfold sRet
  rw[hr]
  cases r with
  | ok a=>exact w
  | err k=>exact w
  | stuck=>exact w⟩
theorem aA {g:SS→R D}{v:D}(h:FS X F st (sRet g))(hr:g S=.ok v):FL X F S (st::rest) J (.rt v):=aq (r:=.ok v) h hr
theorem oo {g:SS→O}{k:Nat}(h:FS X F st g)(hg:g S=.er k):FL X F S (st::rest) J (.er k) :=
 (dg h jE).weak fun D ρ H ⟨Z,ok,w⟩=>⟨Z,S,ok,by rw[hg];exact w⟩
theorem eF (i:Nat){ds:List D}{S':SS}{sts:List Stmt}{l:L σ}(hi:S[i]?=some (some (.own ds)))(hS:S.set i (some (.val (.lst ds)))=S')(h:FL X F S' sts J l):FL X F S sts J l :=
 h.weak fun D ρ H ⟨Z,ok,w⟩=>by
  obtain⟨Z',z,ok'⟩:=ok.freeze hi
  rw[hS]at ok'
  exact⟨Z',ok',WL.more w z⟩
theorem aB {c:Expr}{a b:List Stmt}{pos:Pos}{gt:SS→R Bool}{r:R Bool}{A B:L σ}(hc:FT X F c gt)(hr:gt S=r)(ha:FL X F S a J A)(hb:FL X F S b J B):FL1 X F S (.If c a b pos) J (lB r fun t=>if t=true then A else B) :=
 (wR hc ha hb).weak fun D ρ H ⟨Z,ok,w⟩=>e9 (k:=fun t=>R.ok t) (P:=fun t _ Z'=>WL F Z' J (if t=true then A else B) D) ok (by
  rw[hr]
  have:=WL.wg ok w
  cases r<;>exact this) fun t H1 Z1 ok1 x1 w1=>by
  have w2:=WG.now w1 ok1.sub
  cases t with
  | true=>exact⟨Z1,ok1,w2⟩
  | false=>exact⟨Z1,ok1,w2⟩
theorem eG {l:L σ}(h:FL1 X F S st J l):FL X F S [st] J l:=t5 h
theorem az {l:L τ}{k:τ→L σ}{inj:τ→W→SS}(h:FL1 X F S st (JX inj) l)(hk:∀ s w,FL X F (inj s w) rest J (k s)):FL X F S (st::rest) J (lS l k) :=
 (dg h (nc (fun s=>nc fun w=>hk s w))).weak fun D ρ H ⟨Z,ok,w⟩=>⟨Z,ok,by
  cases l with
  | nx s=>exact fun S' ρ' H' Z' ⟨x,e⟩ z ok'=>⟨s,x,Z',by rw[← e];exact ok',WL.more (l:=k s) w z⟩
  | rt d=>exact w
  | er k=>exact w
  | stuck=>exact w⟩
end
section
variable {σ τ W:Type}{X:Cx}{F:Fx}{S:SS}{tg iter:Expr}{body:List Stmt}{pos:Pos}{git:SS→R (List D)}{g:D→SS→R SS}{inj:τ→W→SS}{step:τ→D→L τ}
theorem lO {r:R (List D)}{s0:τ}(w0:W)(hp:PassesOwn (model X.prog X.w) X.A X.env X.xe)(hc:X.calm=true)(hi:FI X F tg iter git)(hr:git S=r)(hg:FG X F tg g)
  (hb:∀ s w x S1,g x (inj s w)=.ok S1→FL X F S1 body (JX inj) (step s x)) (hno:∀ s w x k,g x (inj s w)≠.err k) (hst:∀ s w x,g x (inj s w)=.stuck→step s x=.stuck)
  (hS:S=inj s0 w0) (hs:∀ x,foldedSetIterable iter X.env x=pure x:=by intro _;rfl):FL1 X F S (.For tg iter body [] pos) (JX inj) (lB r fun xs=>lFor step xs s0):=by
 have hbb:PSs X body (fun D ρ H=>∃ (q:τ×W×FF.D×SS) (_:g q.2.2.1 (inj q.1 q.2.1)=.ok q.2.2.2),tL F q.2.2.2 (JX inj) (step q.1 q.2.2.1) D ρ H):=fun pins s ρ H D I ⟨q,e,w⟩=>hb q.1 q.2.1 q.2.2.1 q.2.2.2 e pins s ρ H D I w
 refine(vX hp hc hi hg hbb hs).weak fun D ρ H ⟨Z,ok,w⟩=>?_
 refine⟨Z,S,ok,?_⟩
 have w00:=WL.wg ok w
 rw[hr]
 cases r with
 | err k=>exact w00
 | stuck=>exact w00
 | ok ds =>
  intro H1 Z1 x1
  have w1:WL F Z1 (JX inj) (lFor step ds s0) D:=w00 H1 Z1 x1
  intro J wk _
  refine⟨fun i m ρ H=>m=ds.length - i∧i≤ds.length∧∃ Z2 s w,StOk F H Z2 (inj s w) ρ∧Same Z1 Z2∧WL F Z2 (JX inj) (lFor step (ds.drop i) s) D,⟨ds.length,rfl,Nat.zero_le _,Z1,s0,w0,by rw[← hS];exact ok.more x1,Same.refl _,w1⟩,?_⟩
  rintro i m ρ2 H2 ⟨rfl,hle,Z2,s,w2,ok2,z2,wl2⟩
  obtain⟨k1,k2⟩:=wk i H2 Z2 z2 ok2.sub
  by_cases hlt:i < ds.length
  ·obtain⟨go,y⟩:=k1 hlt
   refine .inr ⟨go,fun ρ' H'=>∃ Z3 s3 w3,StOk F H' Z3 (inj s3 w3) ρ'∧Same Z1 Z3∧WL F Z3 (JX inj) (lFor step (ds.drop (i+1)) s3) D,fun ρ' H' ⟨Z3,s3,w3,q⟩=>⟨ds.length - (i+1),by omega,rfl,hlt,Z3,s3,w3,q⟩,fun x H' hy=>?_⟩
   obtain⟨Z2',d,x',e3,rd⟩:=y x H' hy
   have ok2:=ok2.more x'
   have hd:ds.drop i=d::ds.drop (i+1):=by
    obtain⟨hi,e4⟩:=List.getElem?_eq_some_iff.mp e3
    rw[List.drop_eq_getElem_cons hi,e4]
   rw[hd,bR]at wl2
   refine⟨Z2',inj s w2,d,ok2,rd,?_⟩
   cases q:g d (inj s w2) with
   | err k=>exact absurd q (hno s w2 d k)
   | stuck=>rw[hst s w2 d q]at wl2;exact wl2
   | ok S1 =>
    intro H4 Z4 x4 ρ4 ok4
    refine⟨⟨s,w2,d,S1⟩,q,Z4,ok4,?_⟩
    have z14:Same Z1 Z4:=(z2.trans x'.z).trans x4.z
    cases qb:step s d with
    | nx s5 =>
     rw[qb]at wl2
     exact fun S5 ρ5 H5 Z5 ⟨w5,e5⟩ z5 ok5=>⟨Z5,s5,w5,by rw[← e5];exact ok5,z14.trans z5,WL.more (l:=lFor step (ds.drop (i+1)) s5) wl2 ((x'.z.trans x4.z).trans z5)⟩
    | rt d=>rw[qb]at wl2;exact wl2
    | er k=>rw[qb]at wl2;exact wl2
    | stuck=>rw[qb]at wl2;exact wl2
  ·refine .inl ⟨k2 (by omega),?_⟩
   rw[List.drop_eq_nil_of_le (by omega)]at wl2
   exact wl2 (inj s w2) ρ2 H2 Z2 ⟨w2,rfl⟩ (Same.refl _) ok2
theorem cL (i:Nat){r:R (List D)}{s0:τ}{B:τ→W→D→SS}(w0:W)(hp:PassesOwn (model X.prog X.w) X.A X.env X.xe)(hc:X.calm=true)(hi:FI X F tg iter git)(hr:git S=r)(hg:FG X F tg (gNm i))
  (hS:S=inj s0 w0) (hB:∀ s w x,(inj s w).set i (some (.val x))=B s w x) (hb:∀ s w x,FL X F (B s w x) body (JX inj) (step s x))
  (hs:∀ x,foldedSetIterable iter X.env x=pure x:=by intro _;rfl):FL1 X F S (.For tg iter body [] pos) (JX inj) (lB r fun xs=>lFor step xs s0) :=
 lO w0 hp hc hi hr hg (fun s w x S1 e=>by cases e;rw[hB];exact hb s w x) (fun s w x k e=>nomatch e) (fun s w x e=>nomatch e) hS hs
theorem lP (i j:Nat){r:R (List D)}{s0:τ}{B:τ→W→D→D→SS}{step:τ→D→D→L τ}(w0:W)(hp:PassesOwn (model X.prog X.w) X.A X.env X.xe)(hc:X.calm=true)(hi:FI X F tg iter git)(hr:git S=r)(hg:FG X F tg (gTup [i,j]))
  (hS:S=inj s0 w0) (hB:∀ s w x y,((inj s w).set i (some (.val x))).set j (some (.val y))=B s w x y) (hb:∀ s w x y,FL X F (B s w x y) body (JX inj) (step s x y))
  (hs:∀ x,foldedSetIterable iter X.env x=pure x:=by intro _;rfl):FL1 X F S (.For tg iter body [] pos) (JX inj) (lB r fun xs=>lFor (fun s p=>lUn2 p fun x y=>step s x y) xs s0):=by
 have two:∀ (p:D) (S0:SS),(∃ x y,p=.tup [x,y]∧gTup [i,j] p S0=.ok ((S0.set i (some (.val x))).set j (some (.val y))))∨(gTup [i,j] p S0=.stuck∧∀ (k:D→D→L τ),lUn2 p k=.stuck):=fun p S0=>by
  cases p with
  | tup ds =>
   match ds with
   | []=>exact .inr ⟨rfl,fun _=>rfl⟩
   | [_]=>exact .inr ⟨rfl,fun _=>rfl⟩
   | [x,y]=>exact .inl ⟨x,y,rfl,rfl⟩
   | _::_::_::_=>exact .inr ⟨by unfold gTup;simp,fun _=>rfl⟩
  | _=>exact .inr ⟨rfl,fun _=>rfl⟩
 refine lO w0 hp hc hi hr hg (fun s w p S1 e=>?_) (fun s w p k e=>?_) (fun s w p e=>?_) hS hs
 ·rcases two p (inj s w) with ⟨x,y,rfl,q⟩ | ⟨q,_⟩
  ·rw[q]at e
   cases e
   rw[hB]
   exact hb s w x y
  ·rw[q]at e;cases e
 ·rcases two p (inj s w) with ⟨x,y,rfl,q⟩ | ⟨q,_⟩<;>rw[q]at e<;>cases e
 ·rcases two p (inj s w) with ⟨x,y,rfl,q⟩ | ⟨_,q⟩
  ·rw[q]at e;cases e
  ·exact q _
end
section
variable {σ τ W:Type}{X:Cx}{F:Fx}{S:SS}{rest:List Stmt}{J:σ→SS→Prop}{k:Nat}
end
section
variable {σ τ W:Type}{S:SS}{X:Cx}{F:Fx}{body:List Stmt}{g:SS→O}{c n y:Str}{np np2 kp apos hpos pos:Pos}{k:Nat}{q:Nat→Bool}{C0:Addr}
end
section
variable {σ τ W:Type}{X:Cx}{F:Fx}{S:SS}{rest:List Stmt}{J:σ→SS→Prop}
end
end FF
end
noncomputable section
namespace FF
open PySem PySem.Spec PyProof.Rows L2
section
variable {X:Cx}{F:Fx}{e:Expr}{es:List Expr}{g g':SS→R D}{gs:List (SS→R D)}{k:Nat}{f:List D→R D}{pos:Pos}
theorem cM (h:FE X F e g)(hg:∀ S,g S=g' S):FE X F e g':=by
 have:g=g':=funext hg
 rw[← this];exact h
theorem hG {st:Stmt}{g g':SS→O}(h:FS X F st g)(hg:∀ S,g S=g' S):FS X F st g':=by
 have:g=g':=funext hg
 rw[← this];exact h
def aL:List (SS→R D)→SS→R (List D)
 | []=>aNil
 | g::gs=>aCons g (aL gs)
def eBA {α:Type}(f:List D→R α)(gs:List (SS→R D)):SS→R α:=fun S=>bA (gs.map fun g=>g S) f
theorem bS {α β:Type}{r:R α}{f f':α→R β}(h:∀ a,f a=f' a):r.bind f=r.bind f':=by cases r<;>first | exact h _ | rfl
theorem bF {α:Type}(S:SS):∀ (gs:List (SS→R D)) (f:List D→R α),(aL gs S).bind f=eBA f gs S
 | [],f=>rfl
 | g::gs,f=>by
  show ((g S).bind fun d=>(aL gs S).bind fun ds=>R.ok (d::ds)).bind f=(g S).bind fun d=>bA (gs.map fun g=>g S) fun ds=>f (d::ds)
  rw[R.bind_assoc]
  refine bS fun d=>?_
  rw[R.bind_assoc]
  exact bF S gs fun ds=>f (d::ds)
theorem fZ {S:SS}:∀ {gs:List (SS→R D)} {ds:List D},aL gs S=.ok ds→ds.length=gs.length
 | [],ds,h=>by cases h;rfl
 | g::gs,ds,h=>pA (n:=gs.length) (fun S' ds' h'=>by
   by_cases q:S'=S
   ·subst q;exact fZ h'
   ·exact fZ (S:=S') h') S ds h
structure FAL (X:Cx)(F:Fx)(es:List Expr)(gs:List (SS→R D)):Prop where
 out:FA X F es (aL gs)
theorem ae:FAL X F [] []:=⟨wd⟩
theorem aa (ha:FE X F e g)(hr:FAL X F es gs)(hs:starEach (e::es) X.env=(false,eval e X.env)::starEach es X.env:=by rfl):FAL X F (e::es) (g::gs):=⟨uh ha hr.out hs⟩
theorem fe_N (h:FE X F e (eCall f (aL gs))):FE X F e (eBA f gs):=cM h fun S=>bF S gs f
theorem ag {x:Str}{p:Pos}{ps:List Str}(b:BX X F k)(h:Fn1 X.prog X.w F.K X.mg X.base F.C k x ps f)(hg:Gl X x)(ha:FAL X F (e::es) gs)(hn:gs.length=ps.length:=by rfl)(hdb:(x==("__debug__":Str))=false:=by decide)
  (he:starEach (e::es) X.env=(false,eval e X.env)::starEach es X.env:=by rfl) (hpl:(backTo pos (starEach es X.env)).any (·.1)=false:=by rfl):FE X F (.Call (.Name x p) (e::es) [] pos) (eBA f gs) :=
 fe_N (uv b h hg ha.out (fun S ds q=>(fZ q).trans hn) hdb he hpl)
theorem aP {x1}(h:FAL X F es gs)(hl:gs.length≤16777216:=by exact Nat.le_of_ble_eq_true rfl):FE X F (.Tuple es x1 pos) (eBA (fun ds=>.ok (.tup ds)) gs) :=
 cM (we h.out) fun S=>by
  rw[← bF]
  show (aL gs S).bind _=_
  cases q:aL gs S with
  | ok ds=>show (if ds.length≤16777216 then R.ok (FF.D.tup ds) else R.stuck)=_;rw[if_pos (by rw[fZ q];exact hl)];rfl
  | err k=>rfl
  | stuck=>rfl
theorem b9 (h:FAL X F es gs)(hl:gs.length≤16777216:=by exact Nat.le_of_ble_eq_true rfl):FE X F (.List es pos) (eBA (fun ds=>.ok (.lst ds)) gs) :=
 cM (wf h.out) fun S=>by
  rw[← bF]
  show (aL gs S).bind _=_
  cases q:aL gs S with
  | ok ds=>show (if ds.length≤16777216 then R.ok (FF.D.lst ds) else R.stuck)=_;rw[if_pos (by rw[fZ q];exact hl)];rfl
  | err k=>rfl
  | stuck=>rfl
end
section
variable {X:Cx}{F:Fx}{k:Nat}{e f:Expr}{es:List Expr}{p pos:Pos}{x:Str}
theorem xn {i:Nat}(hm:X.mg x=some (.ref (F.C i)))(hg:Gl X x)(hd:(x==("__debug__":Str))=false:=by decide):FE X F (.Name x pos) (eC (.fn i)) :=
 cF (kh (v:=.ref (F.C i)) hg hm rfl hd) fun _=>by rw[Rep]
theorem rS {CX:CXT}{E:XK}{tf:TE}{t:TA}(hf:PE X f tf)(hr:Room k X.A)(hx:Passes CX X E)(ha:PA X (e::es) t)
  (hev:eval (.Call f (e::es) [] pos) X.env=(do callWith pos (← eval f X.env) [] (backTo pos (starEach (e::es) X.env)) (backToKw pos (keywordEach [] X.env))):=by rfl)
  (he:starEach (e::es) X.env=(false,eval e X.env)::starEach es X.env:=by rfl) (hpl:(backTo pos (starEach es X.env)).any (·.1)=false:=by rfl) :
  PE X (.Call f (e::es) [] pos) (fun σ H Q=>tf σ H fun v H1=>∃ a fd ps sp,v=.ref a∧FnOk X.prog X.w X.K X.mg X.base CX k a fd ps sp∧PySem.W.keepIn X.K (.ref a)=true∧Binds X.K fd ps []∧t σ H1 fun vs H2=>sp (vs++[]) H2 Q E):=by
 intro pins s σ H Q I h
 rw[hev]
 refine wpAny_bind (thn (hf pins s σ H _ I h) fun u s1 ⟨v,H1,I1,r,a,fd,ps,sp,ev,FO,hk,hb,q⟩=>?_)
 subst ev
 cases r
 refine PySem.W.callWith_K (h₀:=X.base) I1.ok.mod.kin hk (thn (ha pos pins s1 σ H1 _ I1 q) fun us s2 ⟨vs,H2,I2,r2,q2⟩=>⟨I2.kIn,?_⟩) he hpl
 exact qW FO hr hb .nil hx I2 r2 q2
structure FnV (P:Program)(w:World)(K:PySem.W.Frag)(mg:Str→Option Value)(base:Heap)(C:Nat→Addr)(k:Nat)(i:Nat)(f:List D→R D):Prop where
 ex:∃ fd ps,FnOk P w K mg base (CXE P w) k (C i) fd ps (spF K C ps.length f)∧PySem.W.keepIn K (.ref (C i))=true∧Binds K fd ps []∧∀ ds,ds.length≠ps.length→f ds=.stuck
def eCV (fs:List Nat)(t:Nat→List D→R D)(gf:SS→R D)(gs:List (SS→R D)):SS→R D:=fun S=>(gf S).bind fun f=>onF fs f fun i=>bA (gs.map fun g=>g S) (t i)
theorem rT {fs:List Nat}{t:Nat→List D→R D}{gf:SS→R D}{gs:List (SS→R D)}(b:BX X F k)(hT:∀ i∈fs,FnV X.prog X.w F.K X.mg X.base F.C k i (t i))(hf:FE X F f gf)(ha:FAL X F (e::es) gs)
  (hev:eval (.Call f (e::es) [] pos) X.env=(do callWith pos (← eval f X.env) [] (backTo pos (starEach (e::es) X.env)) (backToKw pos (keywordEach [] X.env))):=by rfl)
  (he:starEach (e::es) X.env=(false,eval e X.env)::starEach es X.env:=by rfl) (hpl:(backTo pos (starEach es X.env)).any (·.1)=false:=by rfl) :
  FE X F (.Call f (e::es) [] pos) (eCV fs t gf gs) :=
 (rS hf b.room b.pass ha.out hev he hpl).weak fun σ H Q ⟨Z,S,ok,w⟩=>by
  refine ax ok w fun d v H1 Z1 ok1 x1 rv w1=>?_
  cases d with
  | fn i =>
   by_cases hi:fs.contains i=true
   ·rw[Rep]at rv
    obtain⟨fd,ps,h1,h2,h3,h4⟩:=(hT i (by simpa using hi)).ex
    refine⟨F.C i,fd,ps,_,rv,by rw[b.K];exact h1,by rw[b.K];exact h2,by rw[b.K];exact h3,?_⟩
    have e0:onF fs (.fn i) (fun i=>bA (gs.map fun g=>g S) (t i))=(aL gs S).bind (t i):=by
     rw[bF]
     show (if fs.contains i=true then _ else R.stuck)=_
     rw[if_pos hi];rfl
    rw[e0]at w1
    refine aJ ok1 w1 fun ds vs H2 Z2 ok2 x2 rs w4=>?_
    by_cases hl:ds.length=ps.length
    ·refine⟨by rw[List.append_nil,← rs.length];exact hl,Z2,ds,ok2.sub,by rw[List.append_nil];exact rs,?_⟩
     cases q:t i ds with
     | ok d=>rw[q]at w4;exact w4
     | err k=>rw[q]at w4;exact w4
     | stuck=>rw[q]at w4;exact w4
    ·rw[h4 ds hl]at w4;exact w4.elim
   ·have e0:onF fs (.fn i) (fun i=>bA (gs.map fun g=>g S) (t i))=.stuck:=by
     show (if fs.contains i=true then _ else R.stuck)=_
     rw[if_neg hi]
    rw[e0]at w1
    exact w1.elim
  | _=>exact w1.elim
end
theorem lQ {S:SS}{g:D→SS→R SS}{c:SS→R Bool}{e:SS→R D}:∀ ds,noErr (compGo S g c e ds)=cGo (fun d=>(g d S).bind c) (fun d=>(g d S).bind e) ds
 | []=>rfl
 | d::r=>by
  have ih:=lQ (S:=S) (g:=g) (c:=c) (e:=e) r
  rw[cGo,compGo]
  cases q:g d S with
  | err k=>rfl
  | stuck=>rfl
  | ok S1 =>
   show noErr ((c S1).bind fun t=>if t=true then (e S1).bind fun y=>(compGo S g c e r).bind fun ys=>.ok (y::ys) else compGo S g c e r)=(match c S1 with
    | .ok true=>match e S1 with
     | .ok y=>match cGo _ _ r with
      | .ok ys=>.ok (y::ys)
      | _=>.stuck
     | _=>.stuck
    | .ok false=>cGo _ _ r
    | _=>.stuck)
   cases qc:c S1 with
   | err k=>rfl
   | stuck=>rfl
   | ok t =>
    cases t with
    | false=>exact ih
    | true =>
     show noErr ((e S1).bind fun y=>(compGo S g c e r).bind fun ys=>.ok (y::ys))=(match e S1 with
      | .ok y=>match cGo _ _ r with
       | .ok ys=>.ok (y::ys)
       | _=>.stuck
      | _=>.stuck)
     cases qe:e S1 with
     | err k=>rfl
     | stuck=>rfl
     | ok y =>
      rw[← ih]
      show noErr ((compGo S g c e r).bind fun ys=>.ok (y::ys))=(match noErr (compGo S g c e r) with
       | .ok ys=>.ok (y::ys)
       | _=>.stuck)
      cases compGo S g c e r<;>rfl
def eCC (own:Nat)(cap:List Nat)(it:SS→R (List D))(g:D→SS→R SS)(c:SS→R Bool)(e:SS→R D):SS→R D:=fun S=>(it S).bind fun ds=>(cGo (fun d=>(g d (blkS own cap S)).bind c) (fun d=>(g d (blkS own cap S)).bind e) ds).bind fun ys=>.ok (.lst ys)
theorem iB {own:Nat}{cap:List Nat}{it:SS→R (List D)}{g:D→SS→R SS}{c:SS→R Bool}{e:SS→R D}(S:SS):eComp own cap it g c e S=eCC own cap it g c e S:=by
 unfold eComp eCC
 exact bS fun ds=>by rw[lQ]
def eC2 (own:Nat)(cap:List Nat)(it:SS→R (List D))(i j:Nat)(c:SS→R Bool)(e:SS→R D):SS→R D:=fun S=>(it S).bind fun ds =>
 (cGo (fun d=>un2 d fun x y=>c (((blkS own cap S).set i (some (.val x))).set j (some (.val y)))) (fun d=>un2 d fun x y=>e (((blkS own cap S).set i (some (.val x))).set j (some (.val y)))) ds).bind fun ys=>.ok (.lst ys)
theorem lR {α:Type}{i j:Nat}{S:SS}{f:SS→R α}(d:D):(gTup [i,j] d S).bind f=un2 d fun x y=>f ((S.set i (some (.val x))).set j (some (.val y))):=by
 cases d with
 | tup ds =>
  match ds with
  | []=>rfl
  | [_]=>rfl
  | [x,y]=>rfl
  | _::_::_::_=>unfold gTup un2;simp
 | _=>rfl
theorem uK {own:Nat}{cap:List Nat}{it:SS→R (List D)}{i j:Nat}{c:SS→R Bool}{e:SS→R D}(S:SS):eCC own cap it (gTup [i,j]) c e S=eC2 own cap it i j c e S:=by
 unfold eCC eC2
 exact bS fun ds=>by rw[show (fun d=>(gTup [i,j] d (blkS own cap S)).bind c)=_ from funext fun d=>lR d,show (fun d=>(gTup [i,j] d (blkS own cap S)).bind e)=_ from funext fun d=>lR d]
theorem fe_C {X:Cx}{F:Fx}{e:Expr}{own:Nat}{cap:List Nat}{it:SS→R (List D)}{g:D→SS→R SS}{c:SS→R Bool}{el:SS→R D}(h:FE X F e (eComp own cap it g c el)):FE X F e (eCC own cap it g c el):=cM h iB
theorem rV {X:Cx}{F:Fx}{e:Expr}{own:Nat}{cap:List Nat}{it:SS→R (List D)}{i j:Nat}{c:SS→R Bool}{el:SS→R D}(h:FE X F e (eComp own cap it (gTup [i,j]) c el)):FE X F e (eC2 own cap it i j c el):=cM h fun S=>(iB S).trans (uK S)
theorem fs_C {X:Cx}{F:Fx}{st:Stmt}{n own:Nat}{cap:List Nat}{it:SS→R (List D)}{g:D→SS→R SS}{c:SS→R Bool}{el:SS→R D}(h:FS X F st (sSet n (eComp own cap it g c el))):FS X F st (sSet n (eCC own cap it g c el)):=hG h fun S=>by unfold sSet;rw[iB]
section
variable {X:Cx}{F:Fx}{st:Stmt}{i:Nat}{g:SS→R D}
def sAppC (i:Nat)(g:SS→R D):SS→O:=fun S=>match S[i]? with
 | some (some (.own ds))=>rO (((g S).bind fun v=>oApp ds v).bind fun ds'=>.ok (.nx (S.set i (some (.own ds')))))
 | _=>.stuck
theorem lT {α:Type}(r:R D)(f:List D→R α):((r.bind fun d=>(R.ok []:R (List D)).bind fun ds=>R.ok (d::ds)).bind f)=r.bind fun d=>f [d]:=by cases r<;>rfl
theorem fs_A (h:FS X F st (sApp i (aL [g]))):FS X F st (sAppC i g):=hG h fun S=>by
 unfold sApp sAppC
 cases q:S[i]? with
 | none=>rfl
 | some o =>
  cases o with
  | none=>rfl
  | some x =>
   cases x with
   | val d=>rfl
   | mat m=>rfl
   | dic m=>rfl
   | dit m=>rfl
   | own ds =>
    show rO (((g S).bind fun d=>(R.ok []:R (List D)).bind fun ds=>R.ok (d::ds)).bind _)=rO _
    rw[lT,R.bind_assoc]
    refine congrArg rO (bS fun v=>?_)
    unfold oApp
    show (if _ then _ else _)=_
    split<;>rfl
def sExtC (i:Nat)(g:SS→R D):SS→O:=fun S=>match S[i]? with
 | some (some (.own ds))=>rO (((g S).bind fun v=>oExt ds v).bind fun ds'=>.ok (.nx (S.set i (some (.own ds')))))
 | _=>.stuck
theorem fs_X (h:FS X F st (sExt i (aL [g]))):FS X F st (sExtC i g):=hG h fun S=>by
 unfold sExt sExtC
 cases q:S[i]? with
 | none=>rfl
 | some o =>
  cases o with
  | none=>rfl
  | some x =>
   cases x with
   | val d=>rfl
   | mat m=>rfl
   | dic m=>rfl
   | dit m=>rfl
   | own ds =>
    show rO (((g S).bind fun d=>(R.ok []:R (List D)).bind fun ds=>R.ok (d::ds)).bind _)=rO _
    rw[lT,R.bind_assoc]
    refine congrArg rO (bS fun v=>?_)
    unfold oExt
    cases v with
    | lst xs=>by_cases hl:ds.length+xs.length≤16777216<;>simp[hl]
    | tup xs=>by_cases hl:ds.length+xs.length≤16777216<;>simp[hl]
    | _=>rfl
def sOwnC (i:Nat)(gs:List (SS→R D)):SS→O:=fun S=>rO ((eBA .ok gs S).bind fun ds=>.ok (.nx (S.set i (some (.own ds)))))
theorem fs_O {gs:List (SS→R D)}(h:FS X F st (sOwn i (aL gs)))(hl:gs.length≤16777216:=by exact Nat.le_of_ble_eq_true rfl):FS X F st (sOwnC i gs):=hG h fun S=>by
 unfold sOwn sOwnC
 rw[← bF,R.bind_assoc]
 refine congrArg rO ?_
 cases q:aL gs S with
 | ok ds=>show (if ds.length≤16777216 then _ else _)=_;rw[if_pos (by rw[fZ q];exact hl)];rfl
 | err k=>rfl
 | stuck=>rfl
end
section
variable {X:Cx}{F:Fx}{e tg:Expr}{g ga:SS→R D}{f:List D→List D→R D}{gs:List (SS→R D)}
def eML (f:List D→List D→R D)(g:SS→R D)(gs:List (SS→R D)):SS→R D:=fun S=>(g S).bind fun d=>onL d fun xs=>bA (gs.map fun g=>g S) (f xs)
theorem vC (h:FE X F e (eMethL f g (aL gs))):FE X F e (eML f g gs):=cM h fun S=>by
 unfold eMethL eML
 refine bS fun d=>?_
 cases d with
 | lst xs=>exact bF S gs (f xs)
 | _=>rfl
theorem oq {g g':SS→R (List D)}(h:FI X F tg e g)(hg:∀ S,g S=g' S):FI X F tg e g':=by
 have:g=g':=funext hg
 rw[← this];exact h
theorem fi (h:FI X F tg e (iRange1 (aL gs))):FI X F tg e (eBA rng1 gs):=oq h fun S=>bF S gs rng1
theorem vD (h:FI X F tg e (iRange2 (aL gs))):FI X F tg e (eBA rng2 gs):=oq h fun S=>bF S gs rng2
end
theorem xo {k:D→L Unit}{ds:List D}(h:ds.length≠1):a1 k ds=.stuck:=by
 match ds,h with
 | [],_=>rfl
 | [_],h=>exact absurd rfl h
 | _::_::_,_=>rfl
section
variable {σ:Type}{X:Cx}{F:Fx}{S:SS}{st:Stmt}{rest:List Stmt}{J:σ→SS→Prop}
theorem uL (i j:Nat){ga gb:SS→R D}{ra rb:R D}{S':D→D→SS}{k:D→D→L σ}(h:FS X F st (sAsg (gTup [i,j]) (eTup (aL [ga,gb]))))(ha:ga S=ra)(hb:gb S=rb)(hS:∀ x y,(S.set i (some (.val x))).set j (some (.val y))=S' x y)
  (hk:∀ x y,FL X F (S' x y) rest J (k x y)):FL X F S (st::rest) J (lB ra fun x=>lB rb fun y=>k x y):=by
 have e:sAsg (gTup [i,j]) (eTup (aL [ga,gb])) S=rO ((ra.bind fun x=>rb.bind fun y=>R.ok (x,y)).bind fun p=>.ok (.nx (S' p.1 p.2))):=by
  unfold sAsg eTup
  show rO (((((ga S).bind fun d=>((gb S).bind fun d=>(R.ok []:R (List D)).bind fun ds=>R.ok (d::ds)).bind fun ds=>R.ok (d::ds)).bind fun ds=>if ds.length≤16777216 then R.ok (FF.D.tup ds) else .stuck)).bind fun d=>(gTup [i,j] d S).bind fun S1=>R.ok (O.nx S1))=_
  rw[ha,hb]
  cases ra with
  | err k=>rfl
  | stuck=>rfl
  | ok x =>
   cases rb with
   | err k=>rfl
   | stuck=>rfl
   | ok y=>show O.nx ((S.set i (some (.val x))).set j (some (.val y)))=O.nx (S' x y);rw[hS]
 have:=aj (rest:=rest) (J:=J) (S:=S) (r:=ra.bind fun x=>rb.bind fun y=>R.ok (x,y)) (S':=fun p=>S' p.1 p.2) (k:=fun p=>k p.1 p.2) h e fun p=>hk p.1 p.2
 have q:lB (ra.bind fun x=>rb.bind fun y=>R.ok (x,y)) (fun p=>k p.1 p.2)=lB ra fun x=>lB rb fun y=>k x y:=by
  cases ra with
  | ok x=>cases rb<;>rfl
  | err k=>rfl
  | stuck=>rfl
 rw[q]at this
 exact this
end
section
variable {P:Program}{w:World}{K:PySem.W.Frag}{mg:Str→Option Value}{base:Heap}
theorem uM {x qual:Str}{st:Stmt}{f:Addr}{fd:FuncData}{N ps:List Str}{k:Nat}{C:Nat→Addr}{fn:List D→R D}(F:Fun K x qual st f fd)(S:FnScope N ps (defScope st))
  (h:∀ (cdv:Value) (A:Around) (outer:List Env) (s:Shared) (H Z:Hp) (E:XK),BX (bodyX P w K mg base N qual (defScope st) f cdv A outer s H E) ⟨K,C,H,Z,E⟩ k →
   PassesOwn (model P w) (bodyX P w K mg base N qual (defScope st) f cdv A outer s H E).A (bodyX P w K mg base N qual (defScope st) f cdv A outer s H E).env (bodyX P w K mg base N qual (defScope st) f cdv A outer s H E).xe →
   MadeX (bodyX P w K mg base N qual (defScope st) f cdv A outer s H E) ⟨K,C,H,Z,E⟩ →
   ∀ ds,ds.length=ps.length→∃ l:L Unit,fn ds=outL l∧FL (bodyX P w K mg base N qual (defScope st) f cdv A outer s H E) ⟨K,C,H,Z,E⟩ (startS N.length ds) (defBody st) JU l) :
  FnOk P w K mg base (CXE P w) (k+1) f fd ps (spF K C ps.length fn):=by
 obtain⟨oc,od,kV,doc,pm,an,cdv,ct,osl,rfl,lk,hcd⟩:=F.ex
 refine vt lk hcd S (fun vs H Q E q=>q.1) fun A outer s H vs Q E hr hsp=>?_
 obtain⟨hv,Z,ds,z,r,w⟩:=hsp
 obtain⟨l,e,hl⟩:=h cdv A outer s H Z E ⟨hr,rfl,rfl,jM⟩ PassesOwn.leaving (fun pins σ H1 s1 h1 ea C1 args I hx hE=>pv I hx hE) ds (by rw[r.length];exact hv)
 refine⟨_,hl,Z,lI (F:=⟨K,C,H,Z,E⟩) (N:=N) z r,?_⟩
 rw[e]at w
 cases l with
 | nx u=>exact fun S' ρ' H' Z' _ _ ok=>w H' Z' ok.ex .non (by rw[Rep])
 | rt d=>exact fun v H' Z' x rv=>w H' Z' x v rv
 | er k=>exact w
 | stuck=>exact w
end
theorem len1 {ds:List D}(h:ds.length=1):∃ a,ds=[a]:=by
 match ds,h with
 | [a],_=>exact⟨a,rfl⟩
theorem len2 {ds:List D}(h:ds.length=2):∃ a b,ds=[a,b]:=by
 match ds,h with
 | [a,b],_=>exact⟨a,b,rfl⟩
theorem len3 {ds:List D}(h:ds.length=3):∃ a b c,ds=[a,b,c]:=by
 match ds,h with
 | [a,b,c],_=>exact⟨a,b,c,rfl⟩
theorem len4 {ds:List D}(h:ds.length=4):∃ a b c d,ds=[a,b,c,d]:=by
 match ds,h with
 | [a,b,c,d],_=>exact⟨a,b,c,d,rfl⟩
theorem len5 {ds:List D}(h:ds.length=5):∃ a b c d e,ds=[a,b,c,d,e]:=by
 match ds,h with
 | [a,b,c,d,e],_=>exact⟨a,b,c,d,e,rfl⟩
end FF
end
noncomputable section
namespace FF
open PySem PySem.Spec PyProof.Rows L2
section
variable {X:Cx}{F:Fx}{st:Stmt}{i:Nat}{g ge:SS→R D}
end
theorem rW {v v':V}{u:Value}(h:RelV v u)(h':RelV v' u):v=v':=by
 cases v<;>cases v'<;>simp only[L2.RelV]at h h'<;>first
  | rfl
  | (subst h;cases h';rfl)
  | (subst h;cases h';done)
  | (obtain⟨t,rfl⟩:=h;obtain⟨t',e⟩:=h';cases e;rfl)
  | (obtain⟨t,rfl⟩:=h;obtain⟨t',e⟩:=h';cases e;done)
  | (obtain⟨t,rfl⟩:=h;cases h';done)
  | (subst h;obtain⟨t',e⟩:=h';cases e;done)
section
variable {X:Cx}{F:Fx}{pins:List (Addr×Obj)}{σ:St}{H Z:Hp}{s:Shared}
open Classical in
noncomputable def itemB (P:Value→Prop) (u:Value):Bool:=if P u then true else false
theorem lU {K:PySem.W.Frag}{C:Nat→Addr}{n:Nat}{dx:D}{vx:V}{x:Value}(hK:X.K=K)(I:Inv X pins σ H s)(z:Same Z H)(gx:good n dx=true)(rx:Rep K C Z dx vx)(hx:RelV vx x){A:Around}(hu:A.units+n < cLine)(ds:List D)(hg:goods n ds=true){vs:List V}{us:List Value}(rs:Reps K C Z ds vs)(hv:Vals vs us) :
  ∃ e:Value→Bool,(∀ u∈us,SeqAt.EqAt A s u x (e u))∧us.any e=ds.any fun d=>eqD d dx:=by
 refine⟨itemB fun u=>∃ d v,good n d=true∧Rep K C Z d v∧RelV v u∧eqD d dx=true,?_⟩
 have key:∀ (d:D) (v:V) (u:Value),good n d=true→Rep K C Z d v→RelV v u→itemB (fun u=>∃ d v,good n d=true∧Rep K C Z d v∧RelV v u∧eqD d dx=true) u=eqD d dx:=fun d v u gd rd hd=>by
  unfold itemB
  by_cases h:eqD d dx=true
  ·rw[if_pos ⟨d,v,gd,rd,hd,h⟩,h]
  ·rw[if_neg,(by simpa using h:eqD d dx=false)]
   rintro ⟨d',v',g',r',h1,h2⟩
   have e1:=rW h1 hd
   subst e1
   rw[g9 hK I z n d' d v' g' gd r' rd]at h2
   exact h h2
 induction ds generalizing vs us with
 | nil =>
  rw[Reps]at rs
  subst rs
  cases hv
  exact⟨fun u hu=>(nomatch hu),rfl⟩
 | cons d ds ih =>
  rw[Reps]at rs
  obtain⟨v,r,rfl,r1,r2⟩:=rs
  rw[goods,Bool.and_eq_true]at hg
  cases hv with
  | cons hv1 hv2 =>
   obtain⟨i1,i2⟩:=ih hg.2 r2 hv2
   refine⟨fun u hu'=>?_,?_⟩
   ·rcases List.mem_cons.mp hu' with e | e
    ·subst e
     rw[key d v _ hg.1 r1 hv1]
     exact fV hK I z n A d dx v vx _ _ hg.1 gx r1 rx hv1 hx hu
    ·exact i1 u e
   ·rw[List.any_cons,List.any_cons,i2,key d v _ hg.1 r1 hv1]
end
def rInD (K:PySem.W.Frag)(C:Nat→Addr)(neg:Bool):R2:=fun x y H Q=>∃ (Z:Hp) (dx:D) (ds:List D) (p:Addr) (vs:List V),Same Z H∧Rep K C Z dx x∧good 60 dx=true∧y=.ref p∧(SqL K Z p vs∨SqT K Z p vs)∧Reps K C Z ds vs∧goods 60 ds=true∧Q (.bl (if neg then !(ds.any fun d=>eqD d dx) else ds.any fun d=>eqD d dx)) H
section
variable {X:Cx}{F:Fx}{a b:Expr}{ga gb:SS→R D}{pos:Pos}{k:Nat}
theorem wA (hK:X.K=F.K)(hr:Room k X.A):OpR X (compareOp .In) (rInD F.K F.C false):=by
 intro pins s σ H x y v u Q I rx ry h
 obtain⟨Z,dx,ds,p,vs,z,rd,gd,rfl,hq,rs,gs,q⟩:=h
 cases ry
 have hu:X.A.in1.units+60 < cLine:=by have:=hr.un;show X.A.units+1+60 < cLine;omega
 rcases hq with hq | hq
 ·obtain⟨its,r,pl,hz⟩:=I.list (by rw[hK];exact z.seq hq)
  obtain⟨e,e1,e2⟩:=lU hK I z gd rd rx hu ds gs rs r
  refine SeqAt.in_listAt e pl.isList (fun w hw=>e1 w (by simpa using hw)) ⟨.bl _,H,I,rfl,?_⟩
  rw[show its.toArray.any e=its.any e by simp,e2]
  exact q
 ·obtain⟨its,r,pl,hz⟩:=I.tuple (by rw[hK];exact hq.mono z)
  obtain⟨e,e1,e2⟩:=lU hK I z gd rd rx hu ds gs rs r
  refine SeqAt.in_tupleAt e pl (fun w hw=>e1 w (by simpa using hw)) ⟨.bl _,H,I,rfl,?_⟩
  rw[show its.toArray.any e=its.any e by simp,e2]
  exact q
theorem uN {dx dy:D}{r:R D}(h:dInD dx dy=r):(∃ ds,(dy=.tup ds∨dy=.lst ds)∧good 60 dx=true∧goods 60 ds=true∧r=.ok (.bl (ds.any fun d=>eqD d dx)))∨r=.stuck:=by
 subst h
 cases dy with
 | tup ds =>
  show _∨(if good 60 dx=true∧goods 60 ds=true then _ else _)=_
  by_cases q:good 60 dx=true∧goods 60 ds=true
  ·exact .inl ⟨ds,.inl rfl,q.1,q.2,if_pos q⟩
  ·exact .inr (if_neg q)
 | lst ds =>
  show _∨(if good 60 dx=true∧goods 60 ds=true then _ else _)=_
  by_cases q:good 60 dx=true∧goods 60 ds=true
  ·exact .inl ⟨ds,.inr rfl,q.1,q.2,if_pos q⟩
  ·exact .inr (if_neg q)
 | _=>exact .inr rfl
theorem uO:OpD F (rInD F.K F.C false) dInD:=by
 intro H Z x y dx dy Q s rx ry w
 rcases uN (dx:=dx) (dy:=dy) rfl with ⟨ds,hd,g1,g2,e⟩ | e
 ·rw[e]at w
  rcases hd with rfl | rfl
  ·rw[Rep]at ry
   obtain⟨p,vs,rfl,h1,h2⟩:=ry
   exact⟨Z,dx,ds,p,vs,s,rx,g1,rfl,.inr h1,h2,g2,WG.now w s _ a9⟩
  ·rw[Rep]at ry
   obtain⟨p,vs,rfl,h1,h2⟩:=ry
   exact⟨Z,dx,ds,p,vs,s,rx,g1,rfl,.inl h1,h2,g2,WG.now w s _ a9⟩
 ·rw[e]at w;exact w.elim
theorem wB (bx:BX X F k)(ha:FE X F a ga)(hb:FE X F b gb)(hm:behindInMarks .In b=false:=by rfl):FT X F (.Compare a [.In] [b] pos) (gB (eOp dInD ga gb)):=fT (wA bx.K bx.room) uO ha hb (hm:=hm)
end
section
variable {X:Cx}{F:Fx}{p pos:Pos}{e e2:Expr}{gs:SS→R (List D)}{k:Nat}
theorem ng:CallD F (fun xs H Q=>∃ p ys,xs=[.ref p]∧(SqL F.K H p ys∨SqT F.K H p ys)∧∀ l,H l=none→Q (.ref l) (upd H l (.lst ys))) dList:=by
 intro H Z xs ds Q s rs w
 unfold dList at w
 split at w
 ·rename_i ys
  obtain⟨v,rfl,h⟩:=aV rs
  rw[Rep]at h
  obtain⟨a,vs,rfl,h1,h2⟩:=h
  refine⟨a,vs,rfl,.inl (s.seq h1),fun l hl=>?_⟩
  have z:Same Z (upd Z l (.lst vs)):=aw (s.free hl)
  exact w _ _ (Ex.alloc s hl) _ (by rw[Rep];exact⟨l,vs,rfl,SqL.of ak,h2.mono z⟩)
 ·rename_i ys
  obtain⟨v,rfl,h⟩:=aV rs
  rw[Rep]at h
  obtain⟨a,vs,rfl,h1,h2⟩:=h
  refine⟨a,vs,rfl,.inr (h1.mono s),fun l hl=>?_⟩
  have z:Same Z (upd Z l (.lst vs)):=aw (s.free hl)
  exact w _ _ (Ex.alloc s hl) _ (by rw[Rep];exact⟨l,vs,rfl,SqL.of ak,h2.mono z⟩)
 ·exact w.elim
theorem uP (bx:BX X F k)(hg:Gl X "list")(hm:X.mg "list"=none)(ha:FA X F [e] gs)(he:starEach [e] X.env=(false,eval e X.env)::starEach [] X.env:=by rfl)(hpl:(backTo pos (starEach [] X.env)).any (·.1)=false:=by rfl) :
  FE X F (.Call (.Name "list" p) [e] [] pos) (eCall dList gs):=jO (by have:=kr (X:=X);rw[bx.K]at this;exact this) ng hg hm (by decide +kernel) ha (he:=he) (hpl:=hpl)
end
section
variable {X:Cx}{F:Fx}{pos p1 p2:Pos}{x y:Str}{kk:Nat}
theorem dX (i j:Nat)(hc:X.calm=true)(hN:X.N.Nodup)(hij:i≠j:=by decide)(hi:X.N[i]?=some x:=by rfl)(hj:X.N[j]?=some y:=by rfl)(hx:Loc X.env.scope x:=by first | exact Or.inl rfl | exact Or.inr rfl)(hy:Loc X.env.scope y:=by first | exact Or.inl rfl | exact Or.inr rfl)
  (hfx:X.fn x=true∨X.env.scope.names.lookup x=some .local:=by first | exact .inl rfl | exact .inr rfl) (hfy:X.fn y=true∨X.env.scope.names.lookup y=some .local:=by first | exact .inl rfl | exact .inr rfl)
  (hK:X.K=F.K:=by first | rfl | assumption) (hn:(assignEach [.Name x p1,.Name y p2] X.env).length=2:=by rfl) (hst:(assignEach [.Name x p1,.Name y p2] X.env).findIdx? (·.1)=none:=by rfl):FG X F (.Tuple [.Name x p1,.Name y p2] kk pos) (gTup [i,j]) :=
 (qN hc (eZ (eY (i:=i) hN hi hx hfx) (eZ (eY (i:=j) hN hj hy hfy) n4)) hn hst).weak fun v σ H Q ⟨Z,S,d,ok,rd,w⟩=>by
  cases d with
  | tup ds =>
   match ds with
   | [a,b] =>
    rw[Rep]at rd
    obtain⟨c,vs,rfl,h1,h2⟩:=rd
    rw[Reps]at h2
    obtain⟨v1,r,rfl,q1,h2⟩:=h2
    rw[Reps]at h2
    obtain⟨v2,r,rfl,q2,h2⟩:=h2
    rw[Reps]at h2
    subst h2
    refine⟨c,[v1,v2],rfl,by rw[hK];exact h1.mono ok.sub,rfl,v1,[v2],rfl,v2,[],rfl,rfl,?_⟩
    exact WG.now w ok.sub _ ((ok.setVal (i:=i) q1).setVal (i:=j) q2)
   | []=>exact w.elim
   | [_]=>exact w.elim
   | a::b::c::r =>
    have e:gTup [i,j] (.tup (a::b::c::r)) S=.stuck:=by unfold gTup;simp
    rw[e]at w
    exact w.elim
  | _=>exact w.elim
theorem fj {own i j:Nat}(hi:i < own)(hj:j < own):Own own (gTup [i,j]):=fun d S S1 e=>by
 cases d with
 | tup ds =>
  match ds with
  | [a,b] =>
   have e':R.ok ((S.set i (some (.val a))).set j (some (.val b)))=R.ok S1:=e
   cases e'
   refine⟨by simp,fun n hn=>?_⟩
   rw[List.getElem?_set_ne (by omega),List.getElem?_set_ne (by omega)]
  | []=>cases e
  | [_]=>cases e
  | a::b::c::r =>
   have q:gTup [i,j] (.tup (a::b::c::r)) S=.stuck:=by unfold gTup;simp
   rw[q]at e
   cases e
 | _=>cases e
end
end FF
end
noncomputable section
namespace FF
open PySem PySem.Spec PyProof.Rows L2
section
variable {X:Cx}{F:Fx}{p p2 pos pos2:Pos}{e:Expr}{gs:SS→R (List D)}{k:Nat}
end
end FF
end
noncomputable section
namespace FF
open PySem PySem.Spec PyProof.Rows L2
section
variable {X:Cx}{F:Fx}
variable {σ:Type}{S:SS}{rest:List Stmt}{J:σ→SS→Prop}{e:Expr}{ge:SS→R D}{r:R D}{n:Nat}
end
end FF
end
noncomputable section
namespace L2
open PySem PySem.Spec PyProof.Rows
section
variable {X:Cx}{pos:Pos}
end
end L2
namespace FF
open PySem PySem.Spec PyProof.Rows L2
section
variable {X:Cx}{F:Fx}{σ:Type}{S:SS}{st:Stmt}{rest:List Stmt}{J:σ→SS→Prop}
end
end FF
end
noncomputable section
namespace FF
open PySem PySem.Spec PyProof.Rows L2
section
variable {prog:Program}{w:World}{A:Around}{E:Value→Shared→Prop}{s:Shared}
theorem fk {it t:Addr}{i:Nat}{items:Array Value}{x:Value}{Q:Value→Shared→Prop}(hit:s.heap.IsTupleIter it t i)
  (hl:s.heap.IsTuple t items) (hx:items[i]?=some x)
  (hQ:∀ h',h'.IsTupleIter it t (i+1)→Heap.SameBut it s.heap h'→Q x { s with heap:=h' }) :
  wpAny (model prog w) A (Builtin.SmallTypes.nextOf (.ref it)) Q E s:=by
 obtain⟨o,ho,hc,hd⟩:=id hit
 obtain⟨ol,hol,_,nl,hdl⟩:=hl
 unfold Builtin.SmallTypes.nextOf
 refine wpAny_bind (wpAny_callSpecial?_slot (name:=Str.ofString "__next__") hit.typeIs F.slot_tuple_iterator_next
  (wpAny_call_entry F.slot_tuple_iterator_next hit.typeIs F.entry_tuple_iterator_next ?_ (F.args_tuple_iterator_next_1 _)))
 show wpAny _ _ (field (.ref it) 0 >>= _) _ _ s
 refine wpAny_bind (wpAny_field ho hd (x:=.ref t) rfl ?_)
 show wpAny _ _ (if (Value.ref t==Value.none)=true then _ else _) _ _ s
 rw[if_neg (show ¬ ((Value.ref t==Value.none)=true) from Bool.false_ne_true)]
 show wpAny _ _ (field (.ref it) 1 >>= _) _ _ s
 refine wpAny_bind (wpAny_field ho hd (x:=.int i 0) rfl ?_)
 show wpAny _ _ (seqItems? (.ref t) >>= _) _ _ s
 refine wpAny_bind (wpAny_seqItems hol hdl ?_)
 simp only[Int.toNat_natCast,hx]
 refine wpAny_bind (wpAny_setField ho hd (by simp) (wpAny_pure ⟨x,rfl,wpAny_pure (hQ _ ?_ (Heap.SameBut.update ..))⟩))
 exact⟨_,Heap.get?_update_self _ ho (Obj.isFreed_of_fields (Obj.data_mapFields hd _)),(Obj.cls_mapFields ..).trans hc,by
  rw[Obj.data_mapFields hd];simp[rawInt]⟩
theorem f8 {it t:Addr}{i:Nat}{items:Array Value}{Q:Value→Shared→Prop}(hh:A.handled=none)
  (hit:s.heap.IsTupleIter it t i) (hl:s.heap.IsTuple t items) (hx:items[i]?=none)
  (hE:∀ h' e,Heap.ExtBut it s.heap h'→(∃ o,h'.get? e=some o∧o.cls=.type "StopIteration")→E (.ref e) { s with heap:=h' }) :
  wpAny (model prog w) A (Builtin.SmallTypes.nextOf (.ref it)) Q E s:=by
 obtain⟨o,ho,hc,hd⟩:=id hit
 obtain⟨ol,hol,_,nl,hdl⟩:=hl
 unfold Builtin.SmallTypes.nextOf
 refine wpAny_bind (wpAny_callSpecial?_slot (name:=Str.ofString "__next__") hit.typeIs F.slot_tuple_iterator_next
  (wpAny_call_entry F.slot_tuple_iterator_next hit.typeIs F.entry_tuple_iterator_next ?_ (F.args_tuple_iterator_next_1 _)))
 show wpAny _ _ (field (.ref it) 0 >>= _) _ _ s
 refine wpAny_bind (wpAny_field ho hd (x:=.ref t) rfl ?_)
 show wpAny _ _ (if (Value.ref t==Value.none)=true then _ else _) _ _ s
 rw[if_neg (show ¬ ((Value.ref t==Value.none)=true) from Bool.false_ne_true)]
 show wpAny _ _ (field (.ref it) 1 >>= _) _ _ s
 refine wpAny_bind (wpAny_field ho hd (x:=.int i 0) rfl ?_)
 show wpAny _ _ (seqItems? (.ref t) >>= _) _ _ s
 refine wpAny_bind (wpAny_seqItems hol hdl ?_)
 simp only[Int.toNat_natCast,hx]
 refine wpAny_bind (wpAny_rule (wpAny_bind (wpAny_setField ho hd (by simp) ?_)))
 show wpAny _ _ (newExc (.type "StopIteration") [] >>= _) _ _ _
 refine wpAny_bind ?_
 simp only[newExc,newTuple]
 refine wpAny_bind (wpAny_newObj_type ?_ (by size_fits))
 refine wpAny_bind (m:=firstArgMember _ _) (wpAny_of_eq (a:=Value.none) (by first | rfl | (simp only[firstArgMember];rfl)) ?_)
 refine wpAny_newObj_type ?_ (by size_fits)
 simp only[raiseNew]
 refine wpAny_bind (wpAny_handled ?_)
 first | rw[show A.in1.handled=none from hh] | rw[hh]
 refine wpAny_bind (wpAny_pure (wpAny_throw ?_))
 exact hE _ _ (((Heap.SameBut.update ..).extBut.push _).push _) ⟨_,Heap.get?_push_size _ rfl,rfl⟩
def SIt (h:Heap)(b:Bool)(it a:Addr)(k:Nat):Prop:=if b=true then h.IsTupleIter it a k else h.IsListIter it a k
def SOb (h:Heap)(b:Bool)(a:Addr)(xs:Array Value):Prop:=if b=true then h.IsTuple a xs else h.IsList a xs
theorem SIt.at {h h':Heap}{b:Bool}{it a:Addr}{k:Nat}(x:SIt h b it a k)(f:∀ o,h.get? it=some o→h'.get? it=some o):SIt h' b it a k:=by
 cases b<;>(obtain⟨o,ho,r⟩:=x;exact⟨o,f o ho,r⟩)
theorem SOb.at {h h':Heap}{b:Bool}{a:Addr}{xs:Array Value}(x:SOb h b a xs)(f:∀ o,h.get? a=some o→h'.get? a=some o):SOb h' b a xs:=by
 cases b<;>(obtain⟨o,ho,r⟩:=x;exact⟨o,f o ho,r⟩)
theorem SIt.lt {h:Heap}{b:Bool}{it a:Addr}{k:Nat}(x:SIt h b it a k):∃ o,h.get? it=some o∧∀ v,o.data≠.cell v:=by
 cases b<;>(obtain⟨o,ho,_,hd⟩:=x;exact⟨o,ho,fun v z=>by rw[hd]at z;cases z⟩)
theorem bq {b:Bool}{it a:Addr}{i:Nat}{items:Array Value}{x:Value}{Q:Value→Shared→Prop}(hit:SIt s.heap b it a i)(hl:SOb s.heap b a items)(hx:items[i]?=some x)
  (hQ:∀ h',SIt h' b it a (i+1)→Heap.SameBut it s.heap h'→Q x { s with heap:=h' }):wpAny (model prog w) A (Builtin.SmallTypes.nextOf (.ref it)) Q E s:=by
 cases b with
 | true=>exact fk hit hl hx hQ
 | false=>exact wpAny_nextOf_list_item hit hl hx hQ
theorem cz {b:Bool}{it a:Addr}{i:Nat}{items:Array Value}{Q:Value→Shared→Prop}(hh:A.handled=none)(hit:SIt s.heap b it a i)(hl:SOb s.heap b a items)(hx:items[i]?=none)
  (hE:∀ h' e,Heap.ExtBut it s.heap h'→(∃ o,h'.get? e=some o∧o.cls=.type "StopIteration")→E (.ref e) { s with heap:=h' }):wpAny (model prog w) A (Builtin.SmallTypes.nextOf (.ref it)) Q E s:=by
 cases b with
 | true=>exact f8 hh hit hl hx hE
 | false=>exact wpAny_nextOf_list_end hh hit hl hx hE
def itOb (b:Bool)(a:Addr):Obj:={ cls:=.type (if b=true then "tuple_iterator" else "list_iterator"),data:=.fields #[.ref a,.int 0 0] }
theorem ou {b:Bool}{a:Addr}{items:Array Value}{Q:Value→Shared→Prop}(hl:SOb s.heap b a items)(hQ:Q (.ref s.heap.objs.size) { s with heap:=s.heap.push (itOb b a) }):wpAny (model prog w) A (pyIter (.ref a)) Q E s:=by
 cases b with
 | true=>exact wpAny_pyIter_tuple hl hQ
 | false=>exact wpAny_pyIter_list hl hQ
def IsZ (h:Heap)(z TI TO:Addr)(f0 f1:Value):Prop:=h.get? z=some { cls:=.type "zip",dict:=none,data:=.fields #[f0,f1,.bool false,.ref TI,.ref TO],slots:=#[] }
theorem rX {a:Addr}{o:Obj}{Q:Option Obj→Shared→Prop}(ho:s.heap.get? a=some o)(h:Q (some o) s):wpAny (model prog w) A (loadIfAlive a) Q E s:=fun Γ p hΓ=>by
 show Sem.wp _ Γ (.loadIfAlive a .pure) _ _ p s
 rw[Sem.wp_loadIfAlive,ho]
 exact h
theorem iC {z TI TO T:Addr}{oT:Obj}{u:Bool}{Q:Bool→Shared→Prop}(hz:IsZ s.heap z TI TO (rawInt T) (.bool u))(hoT:s.heap.get? T=some oT)
  (hQ:∀ h₁,IsZ h₁ z TI TO (rawInt T) (.bool true)→Heap.SameBut z s.heap h₁→Q false { s with heap:=h₁ }):wpAny (model prog w) A (Builtin.SmallTypes.ownedTupleIsFree (.ref z)) Q E s:=by
 unfold Builtin.SmallTypes.ownedTupleIsFree
 refine wpAny_bind (wpAny_field hz rfl (x:=rawInt T) rfl ?_)
 show wpAny _ _ (loadIfAlive (T:Int).toNat >>= _) _ _ _
 rw[Int.toNat_natCast]
 refine wpAny_bind (rX hoT ?_)
 show wpAny _ _ (field (.ref z) 1 >>= _) _ _ _
 refine wpAny_bind (wpAny_field hz rfl (x:=.bool u) rfl ?_)
 cases u with
 | true=>exact wpAny_pure (hQ s.heap hz (Heap.SameBut.refl ..))
 | false=>exact wpAny_bind (wpAny_setField_rec hz (by simp) fun h₁ hz₁ hs₁=>wpAny_pure (hQ h₁ hz₁ hs₁))
theorem rY {z TI TO i1 i2 l1 l2:Addr}{b1 b2:Bool}{k1 k2:Nat}{xs ys:Array Value}{f0 x y a b:Value}{u:Bool}{Q:Value→Shared→Prop}(D:ZipApart z TI TO i1 i2 l1 l2)
  (hz:IsZ s.heap z TI TO f0 (.bool u)) (hf:f0=.none∨∃ (T:Addr) (o:Obj),f0=rawInt T∧T≠z∧T≠i1∧T≠i2∧s.heap.get? T=some o) (hTI:IsPair s.heap TI (.ref i1) (.ref i2)) (hTO:IsPair s.heap TO a b)
  (h1:SIt s.heap b1 i1 l1 k1) (h2:SIt s.heap b2 i2 l2 k2) (hl1:SOb s.heap b1 l1 xs) (hl2:SOb s.heap b2 l2 ys) (hx:xs[k1]?=some x) (hy:ys[k2]?=some y)
  (hQ:∀ h' g0 g1,IsZ h' z TI TO g0 (.bool g1)→(g0=rawInt s.heap.objs.size∨g0=f0∧f0≠.none)→(f0=.none→g0=rawInt s.heap.objs.size)→(∃ a b,IsPair h' TO a b)→SIt h' b1 i1 l1 (k1+1)→SIt h' b2 i2 l2 (k2+1)→IsPair h' s.heap.objs.size x y→h'.objs.size=s.heap.objs.size+1 →
   (∀ c o,c≠z→c≠TO→c≠i1→c≠i2→s.heap.get? c=some o→h'.get? c=some o)→Q (.ref s.heap.objs.size) { s with heap:=h' }) :
  wpAny (model prog w) A (Builtin.«zip.__next__» ⟨[.ref z],[]⟩) (fun fin s'=>∃ v,fin=.done (.ret v)∧Q v s') E s:=by
 show wpAny _ _ (field (.ref z) 2 >>= _) _ _ _
 refine wpAny_bind (wpAny_field hz rfl (x:=.bool false) rfl ?_)
 show wpAny _ _ (field (.ref z) 3 >>= _) _ _ _
 refine wpAny_bind (wpAny_field hz rfl (x:=.ref TI) rfl ?_)
 refine wpAny_bind (wpAny_seqItems hTI rfl ?_)
 show wpAny _ _ (Builtin.SmallTypes.ownedTupleIsFree (.ref z) >>= _) _ _ _
 refine wpAny_bind ?_
 rcases hf with rfl | ⟨T,oT,rfl,hTz,hT1,hT2,hoT⟩
 ·unfold Builtin.SmallTypes.ownedTupleIsFree
  refine wpAny_bind (wpAny_field hz rfl (x:=.none) rfl ?_)
  refine wpAny_pure ?_
  simp only[if_true]
  refine wpAny_bind (wpAny_rule ?_)
  refine wpAny_bind (wpAny_field hz rfl (x:=.ref TO) rfl ?_)
  refine wpAny_bind (wpAny_setField_rec hz (by simp) fun h₁ hz₁ hs₁=>?_)
  replace hz₁:IsZ h₁ z TI TO .ellipsis (.bool u):=hz₁
  refine wpAny_bind ?_
  simp only[List.zipIdx_cons,List.zipIdx_nil,List.forIn_cons,List.forIn_nil]
  refine wpAny_bind (wpAny_bind (wpAny_onRaise ?_))
  show wpAny _ _ (Builtin.SmallTypes.nextOf (.ref i1) >>= _) _ _ _
  refine wpAny_bind (bq (h1.at fun o e=>hs₁.extBut _ _ D.i1z e) (hl1.at fun o e=>hs₁.extBut _ _ D.l1z e) hx fun h₂ h1₂ hs₂=>wpAny_pure ?_)
  have hTO₂:IsPair h₂ TO a b:=hs₂.extBut _ _ D.TOi1 (hs₁.extBut _ _ D.TOz hTO)
  refine wpAny_bind (wpAny_seqItems hTO₂ rfl ?_)
  refine wpAny_bind (wpAny_updateSeq_pair hTO₂ fun h₃ hTO₃ hs₃=>?_)
  replace hTO₃:IsPair h₃ TO x b:=hTO₃
  refine wpAny_bind (wpAny_letGo (wpAny_pure ?_))
  refine wpAny_bind (wpAny_bind (wpAny_onRaise ?_))
  show wpAny _ _ (Builtin.SmallTypes.nextOf (.ref i2) >>= _) _ _ _
  refine wpAny_bind (bq (((h2.at fun o e=>hs₁.extBut _ _ D.i2z e).at fun o e=>hs₂.extBut _ _ D.i12.symm e).at fun o e=>hs₃.extBut _ _ D.TOi2.symm e)
   (((hl2.at fun o e=>hs₁.extBut _ _ D.l2z e).at fun o e=>hs₂.extBut _ _ D.l2i1 e).at fun o e=>hs₃.extBut _ _ D.l2TO e) hy fun h₄ h2₄ hs₄=>wpAny_pure ?_)
  have hTO₄:IsPair h₄ TO x b:=hs₄.extBut _ _ D.TOi2 hTO₃
  refine wpAny_bind (wpAny_seqItems hTO₄ rfl ?_)
  refine wpAny_bind (wpAny_updateSeq_pair hTO₄ fun h₅ hTO₅ hs₅=>?_)
  replace hTO₅:IsPair h₅ TO x y:=hTO₅
  refine wpAny_bind (wpAny_letGo (wpAny_pure (wpAny_pure ?_)))
  refine wpAny_bind (wpAny_seqItems hTO₅ rfl ?_)
  refine wpAny_bind (wpAny_newTuple ?_)
  have hsz:h₅.objs.size=s.heap.objs.size:=by rw[hs₅.1,hs₄.1,hs₃.1,hs₂.1,hs₁.1]
  have hz₅:IsZ h₅ z TI TO .ellipsis (.bool u):=hs₅.extBut _ _ D.TOz.symm (hs₄.extBut _ _ D.i2z.symm (hs₃.extBut _ _ D.TOz.symm (hs₂.extBut _ _ D.i1z.symm hz₁)))
  have hk₅:∀ c o,c≠z→c≠TO→c≠i1→c≠i2→s.heap.get? c=some o→h₅.get? c=some o:=fun c o c1 c2 c3 c4 e =>
   hs₅.extBut _ _ c2 (hs₄.extBut _ _ c4 (hs₃.extBut _ _ c2 (hs₂.extBut _ _ c3 (hs₁.extBut _ _ c1 e))))
  have h1₅:SIt h₅ b1 i1 l1 (k1+1):=((h1₂.at fun o e=>hs₃.extBut _ _ D.TOi1.symm e).at fun o e=>hs₄.extBut _ _ D.i12 e).at fun o e=>hs₅.extBut _ _ D.TOi1.symm e
  have h2₅:SIt h₅ b2 i2 l2 (k2+1):=h2₄.at fun o e=>hs₅.extBut _ _ D.TOi2.symm e
  have hzlt:z < h₅.objs.size:=Heap.lt_size hz₅
  show wpAny _ _ (Builtin.SmallTypes.ownedTupleHandOut (.ref z) (.ref h₅.objs.size) >>= _) _ _ _
  refine wpAny_bind ?_
  unfold Builtin.SmallTypes.ownedTupleHandOut
  have hz₆:IsZ (h₅.push { cls:=.type "tuple",data:=.seq #[x,y] }) z TI TO .ellipsis (.bool u):=Heap.get?_push_of_some _ hz₅
  refine wpAny_bind (wpAny_setField_rec hz₆ (by simp) fun h₇ hz₇ hs₇=>?_)
  replace hz₇:IsZ h₇ z TI TO (rawInt h₅.objs.size) (.bool u):=hz₇
  refine wpAny_setField_rec hz₇ (by simp) fun h₈ hz₈ hs₈=>?_
  replace hz₈:IsZ h₈ z TI TO (rawInt h₅.objs.size) (.bool false):=hz₈
  have up:∀ c o,c≠z→h₅.get? c=some o→h₈.get? c=some o:=fun c o c1 e=>hs₈.extBut _ _ c1 (hs₇.extBut _ _ c1 (Heap.get?_push_of_some _ e))
  have hT₈:IsPair h₈ h₅.objs.size x y:=hs₈.extBut _ _ (Nat.ne_of_gt hzlt) (hs₇.extBut _ _ (Nat.ne_of_gt hzlt) (Heap.get?_push_size _ rfl))
  have hz8:h₈.objs.size=h₅.objs.size+1:=by rw[hs₈.1,hs₇.1,Heap.size_push]
  rw[hsz]at hz₈ hT₈ hz8
  refine wpAny_pure ⟨_,rfl,?_⟩
  show Q (.ref h₅.objs.size) _
  rw[hsz]
  exact hQ h₈ _ _ hz₈ (.inl rfl) (fun _=>rfl) ⟨_,_,up _ _ D.TOz hTO₅⟩ (h1₅.at fun o e=>up _ o D.i1z e) (h2₅.at fun o e=>up _ o D.i2z e) hT₈ hz8 fun c o c1 c2 c3 c4 e=>up c o c1 (hk₅ c o c1 c2 c3 c4 e)
 ·refine iC hz hoT fun h₁ hz₁ hs₁=>?_
  simp only[Bool.false_eq_true,if_false]
  refine wpAny_bind ?_
  simp only[List.forIn_toArray,List.forIn_cons,List.forIn_nil]
  refine wpAny_bind (wpAny_bind (wpAny_holding ?_))
  show wpAny _ _ (Builtin.SmallTypes.nextOf (.ref i1) >>= _) _ _ _
  refine wpAny_bind (bq (h1.at fun o e=>hs₁.extBut _ _ D.i1z e) (hl1.at fun o e=>hs₁.extBut _ _ D.l1z e) hx fun h₂ h1₂ hs₂=>wpAny_pure ?_)
  refine wpAny_pure ?_
  refine wpAny_bind (wpAny_bind (wpAny_holding ?_))
  show wpAny _ _ (Builtin.SmallTypes.nextOf (.ref i2) >>= _) _ _ _
  refine wpAny_bind (bq ((h2.at fun o e=>hs₁.extBut _ _ D.i2z e).at fun o e=>hs₂.extBut _ _ D.i12.symm e)
   ((hl2.at fun o e=>hs₁.extBut _ _ D.l2z e).at fun o e=>hs₂.extBut _ _ D.l2i1 e) hy fun h₃ h2₃ hs₃=>wpAny_pure ?_)
  refine wpAny_pure (wpAny_pure ?_)
  refine wpAny_bind (wpAny_newTuple (hsz:=by show 2≤sizeLine;decide) (wpAny_pure ⟨_,rfl,?_⟩))
  have hsz:h₃.objs.size=s.heap.objs.size:=by rw[hs₃.1,hs₂.1,hs₁.1]
  have hk:∀ c o,c≠z→c≠i1→c≠i2→s.heap.get? c=some o→(h₃.push { cls:=.type "tuple",data:=.seq #[x,y] }).get? c=some o:=fun c o c1 c3 c4 e =>
   Heap.get?_push_of_some _ (hs₃.extBut _ _ c4 (hs₂.extBut _ _ c3 (hs₁.extBut _ _ c1 e)))
  have hz₃:IsZ (h₃.push { cls:=.type "tuple",data:=.seq #[x,y] }) z TI TO (rawInt T) (.bool true):=Heap.get?_push_of_some _ (hs₃.extBut _ _ D.i2z.symm (hs₂.extBut _ _ D.i1z.symm hz₁))
  have hT:IsPair (h₃.push { cls:=.type "tuple",data:=.seq #[x,y] }) s.heap.objs.size x y:=by rw[← hsz];exact Heap.get?_push_size _ rfl
  show Q (.ref h₃.objs.size) _
  rw[hsz]
  exact hQ _ _ _ hz₃ (.inr ⟨rfl,by intro q;cases q⟩) (fun q=>by cases q) ⟨_,_,hk _ _ D.TOz D.TOi1 D.TOi2 hTO⟩ ((h1₂.at fun o e=>hs₃.extBut _ _ D.i12 e).at fun o e=>Heap.get?_push_of_some _ e) (h2₃.at fun o e=>Heap.get?_push_of_some _ e) hT
   (by rw[Heap.size_push,hsz]) fun c o c1 _ c3 c4 e=>hk c o c1 c3 c4 e
theorem uQ {z TI TO i1 i2 l1 l2:Addr}{b1 b2:Bool}{k1 k2:Nat}{xs ys:Array Value}{f0 a b:Value}{u:Bool}{Q:Fin→Shared→Prop}(hh:A.handled=none)(D:ZipApart z TI TO i1 i2 l1 l2)
  (hz:IsZ s.heap z TI TO f0 (.bool u)) (hf:f0=.none∨∃ (T:Addr) (o:Obj),f0=rawInt T∧T≠z∧T≠i1∧T≠i2∧s.heap.get? T=some o) (hTI:IsPair s.heap TI (.ref i1) (.ref i2)) (hTO:IsPair s.heap TO a b)
  (h1:SIt s.heap b1 i1 l1 k1) (h2:SIt s.heap b2 i2 l2 k2) (hl1:SOb s.heap b1 l1 xs) (hl2:SOb s.heap b2 l2 ys) (hend:xs[k1]?=none∨ys[k2]?=none)
  (hE:∀ h' e,(∀ c o,c≠z→c≠TO→c≠i1→c≠i2→s.heap.get? c=some o→h'.get? c=some o)→(∃ o,h'.get? e=some o∧o.cls=.type "StopIteration")→E (.ref e) { s with heap:=h' }) :
  wpAny (model prog w) A (Builtin.«zip.__next__» ⟨[.ref z],[]⟩) Q E s:=by
 show wpAny _ _ (field (.ref z) 2 >>= _) _ _ _
 refine wpAny_bind (wpAny_field hz rfl (x:=.bool false) rfl ?_)
 show wpAny _ _ (field (.ref z) 3 >>= _) _ _ _
 refine wpAny_bind (wpAny_field hz rfl (x:=.ref TI) rfl ?_)
 refine wpAny_bind (wpAny_seqItems hTI rfl ?_)
 show wpAny _ _ (Builtin.SmallTypes.ownedTupleIsFree (.ref z) >>= _) _ _ _
 refine wpAny_bind ?_
 rcases hf with rfl | ⟨T,oT,rfl,hTz,hT1,hT2,hoT⟩
 ·unfold Builtin.SmallTypes.ownedTupleIsFree
  refine wpAny_bind (wpAny_field hz rfl (x:=.none) rfl ?_)
  refine wpAny_pure ?_
  simp only[if_true]
  refine wpAny_bind (wpAny_rule ?_)
  refine wpAny_bind (wpAny_field hz rfl (x:=.ref TO) rfl ?_)
  refine wpAny_bind (wpAny_setField_rec hz (by simp) fun h₁ hz₁ hs₁=>?_)
  replace hz₁:IsZ h₁ z TI TO .ellipsis (.bool u):=hz₁
  refine wpAny_bind ?_
  simp only[List.zipIdx_cons,List.zipIdx_nil,List.forIn_cons,List.forIn_nil]
  refine wpAny_bind (wpAny_bind (wpAny_onRaise ?_))
  show wpAny _ _ (Builtin.SmallTypes.nextOf (.ref i1) >>= _) _ _ _
  cases hx:xs[k1]? with
  | none =>
   refine wpAny_bind (cz hh (h1.at fun o e=>hs₁.extBut _ _ D.i1z e) (hl1.at fun o e=>hs₁.extBut _ _ D.l1z e) hx fun h₂ e hs₂ he=>?_)
   obtain⟨oe,hoe,hce⟩:=he
   have hz₂:IsZ h₂ z TI TO .ellipsis (.bool u):=hs₂ _ _ D.i1z.symm hz₁
   have hez:e≠z:=fun x=>by subst x;rw[hz₂]at hoe;cases hoe;simp at hce
   refine wpAny_setField_rec hz₂ (by simp) fun h₃ _ hs₃=>hE h₃ e (fun c o c1 _ c3 _ x=>hs₃.extBut _ _ c1 (hs₂ _ _ c3 (hs₁.extBut _ _ c1 x))) ⟨oe,hs₃.extBut _ _ hez hoe,hce⟩
  | some x =>
   have hy:ys[k2]?=none:=by rcases hend with h | h;rw[hx]at h;cases h;exact h
   refine wpAny_bind (bq (h1.at fun o e=>hs₁.extBut _ _ D.i1z e) (hl1.at fun o e=>hs₁.extBut _ _ D.l1z e) hx fun h₂ h1₂ hs₂=>wpAny_pure ?_)
   have hTO₂:IsPair h₂ TO a b:=hs₂.extBut _ _ D.TOi1 (hs₁.extBut _ _ D.TOz hTO)
   refine wpAny_bind (wpAny_seqItems hTO₂ rfl ?_)
   refine wpAny_bind (wpAny_updateSeq_pair hTO₂ fun h₃ hTO₃ hs₃=>?_)
   refine wpAny_bind (wpAny_letGo (wpAny_pure ?_))
   refine wpAny_bind (wpAny_bind (wpAny_onRaise ?_))
   show wpAny _ _ (Builtin.SmallTypes.nextOf (.ref i2) >>= _) _ _ _
   refine wpAny_bind (cz hh (((h2.at fun o e=>hs₁.extBut _ _ D.i2z e).at fun o e=>hs₂.extBut _ _ D.i12.symm e).at fun o e=>hs₃.extBut _ _ D.TOi2.symm e)
    (((hl2.at fun o e=>hs₁.extBut _ _ D.l2z e).at fun o e=>hs₂.extBut _ _ D.l2i1 e).at fun o e=>hs₃.extBut _ _ D.l2TO e) hy fun h₄ e hs₄ he=>?_)
   obtain⟨oe,hoe,hce⟩:=he
   have hz₄:IsZ h₄ z TI TO .ellipsis (.bool u):=hs₄ _ _ D.i2z.symm (hs₃.extBut _ _ D.TOz.symm (hs₂.extBut _ _ D.i1z.symm hz₁))
   have hez:e≠z:=fun x=>by subst x;rw[hz₄]at hoe;cases hoe;simp at hce
   refine wpAny_setField_rec hz₄ (by simp) fun h₅ _ hs₅=>hE h₅ e (fun c o c1 c2 c3 c4 x=>hs₅.extBut _ _ c1 (hs₄ _ _ c4 (hs₃.extBut _ _ c2 (hs₂.extBut _ _ c3 (hs₁.extBut _ _ c1 x))))) ⟨oe,hs₅.extBut _ _ hez hoe,hce⟩
 ·refine iC hz hoT fun h₁ hz₁ hs₁=>?_
  simp only[Bool.false_eq_true,if_false]
  refine wpAny_bind ?_
  simp only[List.forIn_toArray,List.forIn_cons,List.forIn_nil]
  refine wpAny_bind (wpAny_bind (wpAny_holding ?_))
  show wpAny _ _ (Builtin.SmallTypes.nextOf (.ref i1) >>= _) _ _ _
  cases hx:xs[k1]? with
  | none =>
   refine wpAny_bind (cz hh (h1.at fun o e=>hs₁.extBut _ _ D.i1z e) (hl1.at fun o e=>hs₁.extBut _ _ D.l1z e) hx fun h₂ e hs₂ he=>?_)
   exact hE h₂ e (fun c o c1 _ c3 _ x=>hs₂ _ _ c3 (hs₁.extBut _ _ c1 x)) he
  | some x =>
   have hy:ys[k2]?=none:=by rcases hend with h | h;rw[hx]at h;cases h;exact h
   refine wpAny_bind (bq (h1.at fun o e=>hs₁.extBut _ _ D.i1z e) (hl1.at fun o e=>hs₁.extBut _ _ D.l1z e) hx fun h₂ h1₂ hs₂=>wpAny_pure ?_)
   refine wpAny_pure ?_
   refine wpAny_bind (wpAny_bind (wpAny_holding ?_))
   show wpAny _ _ (Builtin.SmallTypes.nextOf (.ref i2) >>= _) _ _ _
   refine wpAny_bind (cz hh ((h2.at fun o e=>hs₁.extBut _ _ D.i2z e).at fun o e=>hs₂.extBut _ _ D.i12.symm e)
    ((hl2.at fun o e=>hs₁.extBut _ _ D.l2z e).at fun o e=>hs₂.extBut _ _ D.l2i1 e) hy fun h₄ e hs₄ he=>?_)
   exact hE h₄ e (fun c o c1 _ c3 c4 x=>hs₄ _ _ c4 (hs₂.extBut _ _ c3 (hs₁.extBut _ _ c1 x))) he
structure Zs (h:Heap)(z TI TO i1 i2 l1 l2:Addr)(b1 b2:Bool)(k:Nat)(f0:Value):Prop where
 z:∃ u,IsZ h z TI TO f0 (.bool u)
 ti:IsPair h TI (.ref i1) (.ref i2)
 to:∃ a b,IsPair h TO a b
 h1:SIt h b1 i1 l1 k
 h2:SIt h b2 i2 l2 k
theorem Zs.at {h h':Heap}{z TI TO i1 i2 l1 l2:Addr}{b1 b2:Bool}{k:Nat}{f0:Value}(x:Zs h z TI TO i1 i2 l1 l2 b1 b2 k f0)(f:∀ b∈[z,TI,TO,i1,i2],∀ o,h.get? b=some o→h'.get? b=some o):Zs h' z TI TO i1 i2 l1 l2 b1 b2 k f0:=by
 obtain⟨⟨u,e1⟩,e2,⟨a,b,e3⟩,e4,e5⟩:=x
 exact⟨⟨u,f z (by simp) _ e1⟩,f TI (by simp) _ e2,⟨a,b,f TO (by simp) _ e3⟩,e4.at fun o e=>f i1 (by simp) o e,e5.at fun o e=>f i2 (by simp) o e⟩
theorem rZ {z TI TO i1 i2 l1 l2:Addr}{b1 b2:Bool}{k:Nat}{xs ys:Array Value}{f0 x y:Value}{Q:Option Value→Shared→Prop}(D:ZipApart z TI TO i1 i2 l1 l2)
  (hz:Zs s.heap z TI TO i1 i2 l1 l2 b1 b2 k f0) (hf:f0=.none∨∃ (T:Addr) (o:Obj),f0=rawInt T∧T≠z∧T≠i1∧T≠i2∧s.heap.get? T=some o)
  (hl1:SOb s.heap b1 l1 xs) (hl2:SOb s.heap b2 l2 ys) (hx:xs[k]?=some x) (hy:ys[k]?=some y)
  (hQ:∀ h' g0,Zs h' z TI TO i1 i2 l1 l2 b1 b2 (k+1) g0→(g0=rawInt s.heap.objs.size∨g0=f0∧f0≠.none)→(f0=.none→g0=rawInt s.heap.objs.size)→IsPair h' s.heap.objs.size x y→h'.objs.size=s.heap.objs.size+1 →
   (∀ c o,c≠z→c≠TO→c≠i1→c≠i2→s.heap.get? c=some o→h'.get? c=some o)→Q (some (.ref s.heap.objs.size)) { s with heap:=h' }) :
  wpAny (model prog w) A (pyNext (.ref z)) Q E s:=by
 obtain⟨⟨u,e1⟩,e2,⟨a,b,e3⟩,e4,e5⟩:=hz
 have hT:s.TypeIs (.ref z) "zip" := ⟨_,e1,rfl⟩
 unfold pyNext
 exact wpAny_bind (wpAny_attempt (wpAny_callSpecial?_slot (name:=Str.ofString "__next__") hT F.slot_zip_next
  (wpAny_call_entry F.slot_zip_next hT F.entry_zip_next
   (rY D e1 hf e2 e3 e4 e5 hl1 hl2 hx hy fun h' g0 g1 a1 a2 a2' a3 a4 a5 a6 a7 a8=>wpAny_pure (hQ h' g0 ⟨⟨g1,a1⟩,a8 _ _ D.TIz D.TITO D.TIi1 D.TIi2 e2,a3,a4,a5⟩ a2 a2' a6 a7 a8)) (F.args_zip_next_1 _))))
theorem r6 {z TI TO i1 i2 l1 l2:Addr}{b1 b2:Bool}{k:Nat}{xs ys:Array Value}{f0:Value}{Q:Option Value→Shared→Prop}(hh:A.handled=none)(D:ZipApart z TI TO i1 i2 l1 l2)
  (hz:Zs s.heap z TI TO i1 i2 l1 l2 b1 b2 k f0) (hf:f0=.none∨∃ (T:Addr) (o:Obj),f0=rawInt T∧T≠z∧T≠i1∧T≠i2∧s.heap.get? T=some o)
  (hl1:SOb s.heap b1 l1 xs) (hl2:SOb s.heap b2 l2 ys) (hend:xs[k]?=none∨ys[k]?=none)
  (hQ:∀ h',(∀ c o,c≠z→c≠TO→c≠i1→c≠i2→s.heap.get? c=some o→h'.get? c=some o)→Q none { s with heap:=h' }):wpAny (model prog w) A (pyNext (.ref z)) Q E s:=by
 obtain⟨⟨u,e1⟩,e2,⟨a,b,e3⟩,e4,e5⟩:=hz
 have hT:s.TypeIs (.ref z) "zip" := ⟨_,e1,rfl⟩
 unfold pyNext
 refine wpAny_bind (wpAny_attempt (wpAny_callSpecial?_slot (name:=Str.ofString "__next__") hT F.slot_zip_next
  (wpAny_call_entry F.slot_zip_next hT F.entry_zip_next (uQ hh D e1 hf e2 e3 e4 e5 hl1 hl2 hend fun h' e hk he=>?_) (F.args_zip_next_1 _))))
 obtain⟨o,ho,hc⟩:=he
 refine wpAny_bind (wpAny_isInstance (T := "StopIteration") (b:=true) ⟨o,ho,hc⟩ isSubtype_stop ?_)
 exact wpAny_pure (hQ _ hk)
theorem wC {elts:List Expr}{x1}{pos:Pos}{z TI TO i1 i2 l1 l2 T:Addr}{b1 b2:Bool}{k:Nat}{Q:Unit→Shared→Prop}(hz:Zs s.heap z TI TO i1 i2 l1 l2 b1 b2 k (rawInt T))(D:ZipApart z TI TO i1 i2 l1 l2)
  (hQ:∀ h',Zs h' z TI TO i1 i2 l1 l2 b1 b2 k .none→Heap.SameBut z s.heap h'→Q () { s with heap:=h' }) :
  wpAny (model prog w) A (letOwnedTupleGo (.Tuple elts x1 pos) (.ref z) (.ref T)) Q E s:=by
 obtain⟨⟨u,e1⟩,e2,⟨a,b,e3⟩,e4,e5⟩:=hz
 unfold letOwnedTupleGo
 refine wpAny_bind (wpAny_load e1 ?_)
 show wpAny _ _ (if (["enumerate","zip","dict_itemiterator","dict_reverseitemiterator","odict_iterator","itertools.zip_longest","itertools.pairwise"].contains "zip" &&
   (#[rawInt T,.bool u,.bool false,.ref TI,.ref TO]:Array Value)[0]?==some (rawInt T))=true then _ else _) Q E s
 rw[if_pos (by simp)]
 refine wpAny_bind (wpAny_rule ?_)
 show wpAny _ _ (setField (.ref z) 0 .none) Q E s
 exact wpAny_setField_rec e1 (by simp) fun h' hz' hs'=>hQ h' ⟨⟨u,hz'⟩,hs'.extBut _ _ D.TIz e2,⟨a,b,hs'.extBut _ _ D.TOz e3⟩,e4.at fun o e=>hs'.extBut _ _ D.i1z e,e5.at fun o e=>hs'.extBut _ _ D.i2z e⟩ hs'
theorem lV {z TI TO i1 i2 l1 l2:Addr}{b1 b2:Bool}{k:Nat}{f0:Value}{Q:Value→Shared→Prop}(hz:Zs s.heap z TI TO i1 i2 l1 l2 b1 b2 k f0)(h:Q (.ref z) s):wpAny (model prog w) A (pyIter (.ref z)) Q E s:=by
 obtain⟨⟨u,e1⟩,_⟩:=hz
 have hT:s.TypeIs (.ref z) "zip" := ⟨_,e1,rfl⟩
 refine wpAny_pyIter_slot hT F.slot_zip_iter (wpAny_call_entry F.slot_zip_iter hT F.entry_zip_iter ?_ (F.args_zip_iter_1 _))
 show wpAny _ _ (ret (.ref z)) _ _ s
 exact wpAny_pure ⟨_,rfl,"zip",_,hT,F.slot_zip_next.lookup,h⟩
abbrev zH1 (h:Heap)(b1:Bool)(l1:Addr):Heap:=h.push (itOb b1 l1)
abbrev zH2 (h:Heap)(b1 b2:Bool)(l1 l2:Addr):Heap:=(zH1 h b1 l1).push (itOb b2 l2)
abbrev zH3 (h:Heap)(b1 b2:Bool)(l1 l2:Addr):Heap:=(zH2 h b1 b2 l1 l2).push { cls:=.type "tuple",data:=.seq #[.ref h.objs.size,.ref (zH1 h b1 l1).objs.size] }
abbrev zH4 (h:Heap)(b1 b2:Bool)(l1 l2:Addr):Heap:=(zH3 h b1 b2 l1 l2).push { cls:=.type "tuple",data:=.seq #[.none,.none] }
abbrev zH5 (h:Heap)(b1 b2:Bool)(l1 l2:Addr):Heap:=(zH4 h b1 b2 l1 l2).push { cls:=.type "zip",data:=.fields #[.none,.bool false,.bool false,.ref (zH2 h b1 b2 l1 l2).objs.size,.ref (zH3 h b1 b2 l1 l2).objs.size] }
theorem pN (b1 b2:Bool)(l1 l2:Addr)(xs ys:Array Value) :
  Meets (Builtin.«zip.__new__» ⟨[.type "zip",.ref l1,.ref l2],[]⟩) (fun _ R s=>SOb s.heap b1 l1 xs∧SOb s.heap b2 l2 ys ∧
   R (.ok (.ret (.ref (zH4 s.heap b1 b2 l1 l2).objs.size))) { s with heap:=zH5 s.heap b1 b2 l1 l2 }) :=
 .of_wp fun prog w A R s h=>by
  obtain⟨hp,g,d,tk,os⟩:=s;obtain⟨hl1,hl2,h⟩:=h
  have hsub:=sub_zip
  have hL1:SOb (Shared.heap ⟨hp,g,d,tk,os⟩) b1 l1 xs:=hl1
  have hL2:SOb (Shared.heap ⟨hp.push (itOb b1 l1),g,d,tk,os⟩) b2 l2 ys:=hl2.at fun o e=>Heap.get?_push_of_some _ e
  wp_walk using ou hL1,ou hL2
  exact⟨_,rfl,h⟩
theorem r8 {b1 b2:Bool}{l1 l2:Addr}{xs ys:Array Value}{Q:Value→Shared→Prop}(hl1:SOb s.heap b1 l1 xs)(hl2:SOb s.heap b2 l2 ys)
  (h:∀ h',Zs h' (s.heap.objs.size+4) (s.heap.objs.size+2) (s.heap.objs.size+3) s.heap.objs.size (s.heap.objs.size+1) l1 l2 b1 b2 0 .none→(∀ c o,s.heap.get? c=some o→h'.get? c=some o)→Q (.ref (s.heap.objs.size+4)) { s with heap:=h' }) :
  wpAny (model prog w) A (call (.type "zip") [.ref l1,.ref l2]) Q E s:=by
 refine callType_new F.called_zip (by decide) (F.typeCall_zip_2 _ _) (F.newCall_zip_2 _ _) (fun obj=>F.args_object_init_3 obj _ _) F.entry_zip_new
  (pN b1 b2 l1 l2 xs ys) ⟨hl1,hl2,?_⟩
 have z1:(zH1 s.heap b1 l1).objs.size=s.heap.objs.size+1:=Heap.size_push ..
 have z2:(zH2 s.heap b1 b2 l1 l2).objs.size=s.heap.objs.size+2:=by rw[Heap.size_push,z1]
 have z3:(zH3 s.heap b1 b2 l1 l2).objs.size=s.heap.objs.size+3:=by rw[Heap.size_push,z2]
 have z4:(zH4 s.heap b1 b2 l1 l2).objs.size=s.heap.objs.size+4:=by rw[Heap.size_push,z3]
 have g5:(zH5 s.heap b1 b2 l1 l2).get? (zH4 s.heap b1 b2 l1 l2).objs.size=some _:=Heap.get?_push_size _ rfl
 have g4:(zH5 s.heap b1 b2 l1 l2).get? (zH3 s.heap b1 b2 l1 l2).objs.size=some _:=Heap.get?_push_of_some _ (Heap.get?_push_size _ rfl)
 have g3:(zH5 s.heap b1 b2 l1 l2).get? (zH2 s.heap b1 b2 l1 l2).objs.size=some _:=Heap.get?_push_of_some _ (Heap.get?_push_of_some _ (Heap.get?_push_size _ rfl))
 have g2:(zH5 s.heap b1 b2 l1 l2).get? (zH1 s.heap b1 l1).objs.size=some (itOb b2 l2):=Heap.get?_push_of_some _ (Heap.get?_push_of_some _ (Heap.get?_push_of_some _ (Heap.get?_push_size _ rfl)))
 have g1:(zH5 s.heap b1 b2 l1 l2).get? s.heap.objs.size=some (itOb b1 l1):=Heap.get?_push_of_some _ (Heap.get?_push_of_some _ (Heap.get?_push_of_some _ (Heap.get?_push_of_some _ (Heap.get?_push_size _ rfl))))
 have mk:∀ {h:Heap} {b:Bool} {it a:Addr},h.get? it=some (itOb b a)→SIt h b it a 0:=fun {h b it a} e=>by cases b<;>exact⟨_,e,rfl,rfl⟩
 show _∧_
 rw[z2,z3,z4]at g5
 rw[z1,z2]at g3
 rw[z3]at g4
 rw[z1]at g2
 rw[z4]
 exact⟨⟨_,g5,rfl⟩,h _ ⟨⟨false,g5⟩,g3,⟨_,_,g4⟩,mk g1,mk g2⟩ fun c o x =>
  Heap.get?_push_of_some _ (Heap.get?_push_of_some _ (Heap.get?_push_of_some _ (Heap.get?_push_of_some _ (Heap.get?_push_of_some _ x))))⟩
end
end FF
end
noncomputable section
namespace FF
open PySem PySem.Spec PyProof.Rows L2
section
variable {X:Cx}{pins:List (Addr×Obj)}{σ:St}{H:Hp}{s:Shared}{h':Heap}
theorem lW {h:Heap}{b:Addr}{o x:Obj}(q:b≠h.objs.size)(e:(h.push x).get? b=some o):h.get? b=some o:=by
 rcases Heap.get?_push_cases e with ⟨z,_⟩ | z
 ·exact absurd z q
 ·exact z
theorem turnedL {t':Nat}{fp:List Addr}(I:Inv X pins σ H s)(hf:∀ b∈fp,FpOk X pins H b)(k:∀ b o,b∉fp→s.heap.get? b=some o→h'.get? b=some o):Inv X pins σ H { s with heap:=h',toks:=t' }:=by
 have nit:∀ b u,H b=some u→b∉fp:=fun b u e z=>by rw[(hf b z).1]at e;cases e
 refine I.step (g':=s.gens) (d':=s.drawn) (ch:=fp) (fun b hb=>?_) (fun b o _ _ hc e _=>k b o hc e) (fun b o _ _ hc e _=>⟨o.slots,k b o hc e⟩) (fun _ _ _ _ n=>n)
  (fun b o hc e=>⟨o,k b o hc e⟩) (fun _ _ e=>e) (fun _ _ _ e=>e) (fun b ps e=>⟨#[],by rw[e];simp⟩) (fun m hm=>?_) (fun b u e=>?_) I.bare
 ·obtain⟨_,f1,f2,f3,f4,f5⟩:=hf b hb
  exact⟨f3,f1,f4,f5⟩
 ·obtain⟨o,es,ep,ho,r⟩:=hm
  exact⟨o,es,ep,k _ o (fun z=>(hf _ z).2.1 rfl) ho,r⟩
 ·refine(I.hok b u e).stay (fun c v hc q=>k c v ?_ q) (fun _ q=>q) fun _ _ q=>q
  rcases hc with z | z
  ·rw[z];exact nit b u e
  ·exact nit c _ z
theorem turnedP {t':Nat}{fp:List Addr}{x y:V}{u v:Value}(I:Inv X pins σ H s)(hf:∀ b∈fp,FpOk X pins H b)(hlt:∀ b∈fp,b≠s.heap.objs.size)(rx:RelV x u)(ry:RelV y v)(hp:IsPair h' s.heap.objs.size u v)
  (k:∀ b o,b∉fp→s.heap.get? b=some o→h'.get? b=some o):Inv X pins σ (upd H s.heap.objs.size (.tup [x,y])) { s with heap:=h',toks:=t' }:=by
 have I1:Inv X pins σ (upd H s.heap.objs.size (.tup [x,y])) { s with heap:=s.heap.push { cls:=.type "tuple",data:=.seq #[u,v] },toks:=s.toks }:=by
  refine I.laid (t':=s.toks) (fun b u e=>Heap.get?_push_of_some _ e) (Nat.le_refl _) ?_
  exact⟨by show 2≤sizeLine;decide,[u,v],.cons rx (.cons ry .nil),TupO.new _ _⟩
 refine turnedL (s:={ s with heap:=s.heap.push { cls:=.type "tuple",data:=.seq #[u,v] },toks:=s.toks }) (fp:=fp) (t':=t') I1 (fun b hb=>?_) fun b o hb e=>?_
 ·obtain⟨f0,f1⟩:=hf b hb
  exact⟨by rw[av (hlt b hb)];exact f0,f1⟩
 ·by_cases q:b=s.heap.objs.size
  ·subst q
   have e':some _=some o:=(Heap.get?_push_size s.heap (o:={ cls:=.type "tuple",data:=.seq #[u,v] }) rfl).symm.trans e
   cases e'
   exact hp
  ·have e':s.heap.get? b=some o:=by
    exact lW q e
   exact k b o hb e'
end
def SqB (K:PySem.W.Frag)(H:Hp)(b:Bool)(a:Addr)(xs:List V):Prop:=if b=true then SqT K H a xs else SqL K H a xs
theorem cN {X:Cx}{pins:List (Addr×Obj)}{σ:St}{H:Hp}{s:Shared}{b:Bool}{a:Addr}{xs:List V}(I:Inv X pins σ H s)(h:SqB X.K H b a xs):∃ its:List Value,Vals xs its∧SOb s.heap b a its.toArray∧xs.length≤sizeLine:=by
 cases b with
 | true =>
  obtain⟨its,rv,p,hz⟩:=I.tuple h
  exact⟨its,rv,p,hz⟩
 | false =>
  obtain⟨its,rv,p,hz⟩:=I.list h
  exact⟨its,rv,p.isList,hz⟩
theorem nh {X:Cx}{pins:List (Addr×Obj)}{σ:St}{H:Hp}{s:Shared}{b:Bool}{a:Addr}{xs ys:List V}(I:Inv X pins σ H s)(h:SqB X.K H b a xs)(h':SqB X.K H b a ys):xs=ys:=by
 cases b with
 | true=>exact I.tuple_inj h h'
 | false=>exact I.list_inj h h'
theorem SqB.mono {K:PySem.W.Frag}{Z H:Hp}{b:Bool}{a:Addr}{xs:List V}(h:SqB K Z b a xs)(z:Same Z H):SqB K H b a xs:=by
 cases b with
 | true=>exact(show SqT K Z a xs from h).mono z
 | false=>exact z.seq h
theorem nj {K:PySem.W.Frag}{C:Nat→Addr}{Z:Hp}{d:D}{ds:List D}{v:V}(e:asSeq d=.ok ds)(r:Rep K C Z d v):∃ b a vs,v=.ref a∧SqB K Z b a vs∧Reps K C Z ds vs:=by
 cases d with
 | tup xs =>
  cases e
  rw[Rep]at r
  obtain⟨a,vs,rfl,h1,h2⟩:=r
  exact⟨true,a,vs,rfl,h1,h2⟩
 | lst xs =>
  cases e
  rw[Rep]at r
  obtain⟨a,vs,rfl,h1,h2⟩:=r
  exact⟨false,a,vs,rfl,h1,h2⟩
 | _=>cases e
def Itz (K:PySem.W.Frag)(b1 b2:Bool)(a1 a2:Addr):It :=
 ⟨fun i H=>∃ xs ys x y,SqB K H b1 a1 xs∧SqB K H b2 a2 ys∧xs[i]?=some x∧ys[i]?=some y,
  fun i H v H'=>∃ p x y,H p=none∧v=.ref p∧(∀ xs,SqB K H b1 a1 xs→xs[i]?=some x)∧(∀ ys,SqB K H b2 a2 ys→ys[i]?=some y)∧H'=upd H p (.tup [x,y]),
  fun i H=>∃ xs ys,SqB K H b1 a1 xs∧SqB K H b2 a2 ys∧(xs.length≤i∨ys.length≤i)⟩
theorem r9 {P:Program}{w:World}{K:PySem.W.Frag}{elts:List Expr}{x1:Nat}{pos:Pos}{z TI TO i1 i2 a1 a2:Addr}(b1 b2:Bool)(D:ZipApart z TI TO i1 i2 a1 a2) :
  Turn P w K (.Tuple elts x1 pos) (Itz K b1 b2 a1 a2) [z,TI,TO,i1,i2] z (fun i h=>Zs h z TI TO i1 i2 a1 a2 b1 b2 i .none) where
 mem:=by simp
 obj:=fun i h st b hb=>by
  obtain⟨⟨u,e1⟩,e2,⟨p,q,e3⟩,e4,e5⟩:=st
  simp only[List.mem_cons,List.not_mem_nil,or_false]at hb
  rcases hb with rfl | rfl | rfl | rfl | rfl
  ·exact⟨_,e1,fun v z=>by have z':Data.fields _=Data.cell v:=z;cases z'⟩
  ·exact⟨_,e2,fun v z=>by have z':Data.seq _ _=Data.cell v:=z;cases z'⟩
  ·exact⟨_,e3,fun v z=>by have z':Data.seq _ _=Data.cell v:=z;cases z'⟩
  ·exact e4.lt
  ·exact e5.lt
 keep:=fun i h h' st k=>st.at k
 item:=by
  intro X hP hw hK hc i pins s σ H E I hf st hg
  subst hP hw hK
  obtain⟨xs,ys,x,y,q1,q2,hx,hy⟩:=hg
  obtain⟨is1,rv1,o1,_⟩:=cN I q1
  obtain⟨is2,rv2,o2,_⟩:=cN I q2
  obtain⟨u,hu,ru⟩:=rv1.get hx
  obtain⟨v,hv,rv⟩:=rv2.get hy
  have lt:∀ b∈[z,TI,TO,i1,i2],b≠s.heap.objs.size:=fun b hb=>by
   obtain⟨⟨u,e1⟩,e2,⟨p,q,e3⟩,e4,e5⟩:=st
   simp only[List.mem_cons,List.not_mem_nil,or_false]at hb
   rcases hb with rfl | rfl | rfl | rfl | rfl
   ·exact Nat.ne_of_lt (Heap.lt_size e1)
   ·exact Nat.ne_of_lt (Heap.lt_size e2)
   ·exact Nat.ne_of_lt (Heap.lt_size e3)
   ·obtain⟨o,ho,_⟩:=e4.lt;exact Nat.ne_of_lt (Heap.lt_size ho)
   ·obtain⟨o,ho,_⟩:=e5.lt;exact Nat.ne_of_lt (Heap.lt_size ho)
  refine rZ D st (.inl rfl) o1 o2 (x:=u) (y:=v) (by simpa using hu) (by simpa using hv) fun h' g0 a1 _ a2 a3 a4 a5=>?_
  rw[a2 rfl]at a1
  refine⟨_,rfl,wC (s:={ s with heap:=h' }) a1 D fun h2 b1 b2=>?_⟩
  have k2:∀ b o,b∉[z,TI,TO,i1,i2]→s.heap.get? b=some o→h2.get? b=some o:=fun b o hb e=>by
   simp only[List.mem_cons,List.not_mem_nil,or_false,not_or]at hb
   exact b2.extBut _ _ hb.1 (a5 b o hb.1 hb.2.2.1 hb.2.2.2.1 hb.2.2.2.2 e)
  have hp2:IsPair h2 s.heap.objs.size u v:=b2.extBut _ _ (fun q=>lt z (by simp) q.symm) a3
  have I2:Inv X pins σ (upd H s.heap.objs.size (.tup [x,y])) { s with heap:=h2,toks:=s.toks }:=turnedP I hf lt ru rv hp2 k2
  exact⟨.ref s.heap.objs.size,_,I2,rfl,⟨s.heap.objs.size,x,y,I.hok.fresh (Nat.le_refl _),rfl,fun xs' q=>by rw[nh I q q1];exact hx,fun ys' q=>by rw[nh I q q2];exact hy,rfl⟩,b1,fun b hb=>by rw[av (lt b hb)];exact(hf b hb).1⟩
 done:=by
  intro X hP hw hK hc i pins s σ H E I hf st hg
  subst hP hw hK
  obtain⟨xs,ys,q1,q2,hx⟩:=hg
  obtain⟨is1,rv1,o1,_⟩:=cN I q1
  obtain⟨is2,rv2,o2,_⟩:=cN I q2
  have l1:=rv1.length
  have l2:=rv2.length
  refine r6 (I.ok.hd hc) D st (.inl rfl) o1 o2 (by rcases hx with h | h;exact .inl (by simp;omega);exact .inr (by simp;omega)) fun h' hk=>⟨rfl,turnedL (t':=s.toks) I hf fun b o hb e=>?_⟩
  simp only[List.mem_cons,List.not_mem_nil,or_false,not_or]at hb
  exact hk b o hb.1 hb.2.2.1 hb.2.2.2.1 hb.2.2.2.2 e
 self:=fun _ _ _ _ _ st h=>lV st h
theorem sd:bootBuiltins "zip"=some (.type "zip"):=by decide +kernel
theorem wD {X:Cx}{elts:List Expr}{x1:Nat}{ps p pos:Pos}{a b:Expr}{ta:TA}(hg:Gl X "zip")(hm:X.mg "zip"=none)(ha:PA X [a,b] ta)(hs:starEach [a,b] X.env=[(false,eval a X.env),(false,eval b X.env)]:=by rfl)(hs2:starEach [b] X.env=[(false,eval b X.env)]:=by rfl) :
  PI X (.Tuple elts x1 ps) (.Call (.Name "zip" p) [a,b] [] pos) (fun σ H R=>ta σ H fun vs H1=>∃ b1 b2 a1 a2,vs=[.ref a1,.ref a2]∧(∃ xs,SqB X.K H1 b1 a1 xs)∧(∃ ys,SqB X.K H1 b2 a2 ys)∧R (Itz X.K b1 b2 a1 a2) H1):=by
 intro pins s σ H R I h
 refine Call_ (ez I hg hm sd (PyProof.Rows.callWith_type1 (thn (ha pos pins s σ H _ I h) fun us s1 ⟨vs,H1,I1,r1,q1⟩=>?_) (by rw[hs,hs2]) (by rw[hs2];rfl)))
 obtain⟨b1,b2,a1,a2,e,⟨xs,hx⟩,⟨ys,hy⟩,q⟩:=q1
 subst e
 cases r1 with
 | cons r rr =>
  cases rr with
  | cons r' rr =>
   cases rr
   cases r
   cases r'
   obtain⟨is1,rv1,o1,_⟩:=cN I1 hx
   obtain⟨is2,rv2,o2,_⟩:=cN I1 hy
   have lt:∀ {b:Bool} {a:Addr} {is:Array Value},SOb s1.heap b a is→a < s1.heap.objs.size:=fun {b a is} o=>by cases b<;>(obtain⟨_,e,_⟩:=o;exact Heap.lt_size e)
   have D:=zipApart_new (lt o1) (lt o2)
   refine r8 o1 o2 fun h' zs hk=>lV (s:={ s1 with heap:=h' }) zs ?_
   have I2:Inv X pins σ H1 { s1 with heap:=h',toks:=s1.toks }:=I1.kept hk
   refine⟨_,_,_,_,H1,rfl,I2,r9 b1 b2 D,zs,fun c hc=>?_,q⟩
   have hb:s1.heap.objs.size≤c:=by
    simp only[List.mem_cons,List.not_mem_nil,or_false]at hc
    rcases hc with rfl | rfl | rfl | rfl | rfl
    ·exact Nat.le_add_right _ _
    ·exact Nat.le_add_right _ _
    ·exact Nat.le_add_right _ _
    ·exact Nat.le_refl _
    ·exact Nat.le_add_right _ _
   exact I1.fpOk hb (I1.hok.fresh hb)
theorem lX:∀ {xs ys:List D} {i:Nat} {x y:D},xs[i]?=some x→ys[i]?=some y→(zipD xs ys)[i]?=some (.tup [x,y])
 | a::xs,b::ys,0,x,y,h1,h2=>by cases h1;cases h2;rfl
 | a::xs,b::ys,i+1,x,y,h1,h2=>lX (xs:=xs) (ys:=ys) (i:=i) (by simpa using h1) (by simpa using h2)
 | [],_,_,_,_,h1,_=>by simp at h1
 | _::_,[],_,_,_,_,h2=>by simp at h2
theorem iD:∀ (xs ys:List D),(zipD xs ys).length=min xs.length ys.length
 | a::xs,b::ys=>by show (zipD xs ys).length+1=_;rw[iD xs ys,List.length_cons,List.length_cons];omega
 | [],ys=>by cases ys<;>simp[zipD]
 | _::_,[]=>by simp[zipD]
theorem se {F:Fx}{b1 b2:Bool}{a1 a2:Addr}{xs ys:List D}{vs us:List V}{Z:Hp}(h1:SqB F.K Z b1 a1 vs)(h2:SqB F.K Z b2 a2 us)(r1:Reps F.K F.C Z xs vs)(r2:Reps F.K F.C Z ys us):WalkG F (Itz F.K b1 b2 a1 a2) (zipD xs ys) Z:=fun i H Z2 z1 z2=>by
 have l:=iD xs ys
 have e1:=r1.length
 have e2:=r2.length
 refine⟨fun hi=>?_,fun hi=>⟨vs,us,h1.mono (z1.trans z2),h2.mono (z1.trans z2),by omega⟩⟩
 have hx:vs[i]?=some vs[i]:=List.getElem?_eq_getElem (by omega)
 have hy:us[i]?=some us[i]:=List.getElem?_eq_getElem (by omega)
 refine⟨⟨vs,us,_,_,h1.mono (z1.trans z2),h2.mono (z1.trans z2),hx,hy⟩,fun v H' ⟨p,x,y,hp,e,qx,qy,eH⟩=>?_⟩
 subst e;subst eH
 obtain⟨dx,f1,g1⟩:=r1.get' (qx _ (h1.mono (z1.trans z2)))
 obtain⟨dy,f2,g2⟩:=r2.get' (qy _ (h2.mono (z1.trans z2)))
 have z3:Same Z (upd Z2 p (.tup [x,y])):=z1.trans (aw (z2.free hp))
 refine⟨upd Z2 p (.tup [x,y]),.tup [dx,dy],Ex.alloc z2 hp,lX f1 f2,?_⟩
 rw[Rep]
 exact⟨p,[x,y],rfl,SqT.of ak,Reps.cons (g1.mono z3) (Reps.cons (g2.mono z3) Reps.nil)⟩
section
variable {X:Cx}{F:Fx}{a b:Expr}{ga gb:SS→R D}{k:Nat}
theorem sf {S:SS}{α:Type}(f:D→D→R α):((aL [ga,gb]) S).bind (fun ds=>match ds with | [x,y]=>f x y | _=>R.stuck)=(ga S).bind fun x=>(gb S).bind fun y=>f x y:=by
 show (((ga S).bind fun d=>((gb S).bind fun d=>(R.ok []:R (List D)).bind fun ds=>R.ok (d::ds)).bind fun ds=>R.ok (d::ds))).bind _=_
 cases ga S with
 | ok x=>cases gb S<;>rfl
 | err k=>rfl
 | stuck=>rfl
theorem wE {elts:List Expr}{x1:Nat}{ps p pos:Pos}(bx:BX X F k)(hg:Gl X "zip")(hm:X.mg "zip"=none)(ha:FE X F a ga)(hb:FE X F b gb)(hs:starEach [a,b] X.env=[(false,eval a X.env),(false,eval b X.env)]:=by rfl)(hs2:starEach [b] X.env=[(false,eval b X.env)]:=by rfl) :
  FI X F (.Tuple elts x1 ps) (.Call (.Name "zip" p) [a,b] [] pos) (fun S=>(ga S).bind fun x=>(gb S).bind fun y=>dZip x y) :=
 (wD hg hm (FAL.out (aa ha (aa hb ae (hs:=by rw[hs2];rfl)) (hs:=by rw[hs,hs2]))) hs hs2).weak fun σ H Q ⟨Z,S,ok,w⟩=>by
  have w:WG F H Z ((ga S).bind fun x=>(gb S).bind fun y=>dZip x y) _:=w
  rw[← sf]at w
  refine aJ ok w fun ds vs H1 Z1 ok1 x1 rs w1=>?_
  obtain⟨dx,dy,rfl⟩:∃ dx dy,ds=[dx,dy]:=by
   rcases ds with _ | ⟨dx,_ | ⟨dy,_ | ⟨dz,r⟩⟩⟩
   ·exact False.elim w1
   ·exact False.elim w1
   ·exact⟨dx,dy,rfl⟩
   ·exact False.elim w1
  focus
   have w2:WG F H1 Z1 (dZip dx dy) _:=w1
   unfold dZip sq at w2
   rw[Reps]at rs
   obtain⟨v1,r,rfl,q1,rs⟩:=rs
   rw[Reps]at rs
   obtain⟨v2,r,rfl,q2,rs⟩:=rs
   rw[Reps]at rs
   subst rs
   cases e1:asSeq dx with
   | err k=>rw[e1]at w2;cases dx<;>cases e1
   | stuck=>rw[e1]at w2;exact w2.elim
   | ok xs =>
    rw[e1]at w2
    have w3:WG F H1 Z1 (R.bind (if xs.length≤16777216 then R.ok xs else R.stuck) fun xs=>((asSeq dy).bind fun ds=>if ds.length≤16777216 then R.ok ds else R.stuck).bind fun ys=>R.ok (zipD xs ys)) _:=w2
    split at w3
    ·rename_i hl1
     cases e2:asSeq dy with
     | err k=>rw[e2]at w3;cases dy<;>cases e2
     | stuck=>rw[e2]at w3;exact w3.elim
     | ok ys =>
      rw[e2]at w3
      have w4:WG F H1 Z1 (R.bind (if ys.length≤16777216 then R.ok ys else R.stuck) fun ys=>R.ok (zipD xs ys)) _:=w3
      split at w4
      ·obtain⟨b1,a1,us1,rfl,s1,t1⟩:=nj e1 q1
       obtain⟨b2,a2,us2,rfl,s2,t2⟩:=nj e2 q2
       rw[bx.K]
       exact⟨b1,b2,a1,a2,rfl,⟨us1,s1.mono ok1.sub⟩,⟨us2,s2.mono ok1.sub⟩,WG.now w4 ok1.sub _ (se s1 s2 t1 t2) (by rw[iD];omega)⟩
      ·exact w4.elim
    ·exact w3.elim
end
end FF
end
noncomputable section
namespace FF
open PySem PySem.Spec PyProof.Rows L2
section
variable {prog:Program}{w:World}{A:Around}{R:Result→Shared→Prop}{I S:Addr}{res:Value}{n:Nat}
end
section
variable {X:Cx}{pins:List (Addr×Obj)}{σ:St}{H1:Hp}{S z TI TO i1 i2 a1 a2:Addr}{b1 b2:Bool}{xs ys:List V}
end
section
variable {X:Cx}{F:Fx}{a b:Expr}{ga gb:SS→R D}{k:Nat}
end
end FF
end
noncomputable section
namespace FF
open PySem PySem.Spec PyProof.Rows L2
section
variable {X:Cx}{F:Fx}{e:Expr}{g:SS→R D}{k:Nat}{l:List (Str×Nat)}{x:Str}{p pos:Pos}
end
section
variable {prog:Program}{w:World}{A:Around}{E:Value→Shared→Prop}{s:Shared}
end
section
variable {X:Cx}{F:Fx}{k:Nat}{l:List (Str×Nat)}{x:Str}{p p2 pos:Pos}
end
end FF
end
noncomputable section
namespace FF
open PySem PySem.Spec PyProof.Rows L2
open AutoSeq1 (wpAny_loadPart')
theorem si {prog:Program}{w:World}{A:Around}(hh:A.handled=none)(b:Bool)(it a:Addr)(hne:a≠it)(items:Array Value) :
  Draws prog w A it [it,a] items.size (fun i v=>items[i]?=some v) (fun i h=>SIt h b it a i∧SOb h b a items) where
 live:=fun _ _ st=>let ⟨o,ho,_⟩:=st.1.lt;⟨o,ho⟩
 frame:=fun _ _ _ st hk=>⟨st.1.at fun o e=>hk it (by simp) o e,st.2.at fun o e=>hk a (by simp) o e⟩
 item:=fun i s Q E hi st hQ=>by
  refine bq st.1 st.2 (x:=items[i]) (by simp[hi]) fun h' hit' hs'=>?_
  exact hQ _ h' s.toks (by simp[hi]) ⟨hit',st.2.at fun o e=>hs'.extBut _ _ hne e⟩ hs'
 done:=fun s Q E st hE=>cz hh st.1 st.2 (by simp) hE
theorem iE (l:Addr)(items:Array Value)(n:Nat)(dct:Option Addr)(sl:Array (Option Value)) :
  Meets (Builtin.«enumerate.__new__» ⟨[.type "enumerate",.ref l],[]⟩) (fun _ R s=>s.heap.get? l=some { cls:=.type "tuple",dict:=dct,data:=.seq items n,slots:=sl } ∧
   R (.ok (.ret (.ref (s.heap.push { cls:=.type "tuple_iterator",data:=.fields #[.ref l,.int 0 0] }).objs.size)))
    { s with heap:=(s.heap.push { cls:=.type "tuple_iterator",data:=.fields #[.ref l,.int 0 0] }).push { cls:=.type "enumerate",data:=.fields #[.none,.bool false,.ref s.heap.objs.size,rawInt 0,.none,.none] } }) :=
 .of_wp fun prog w A R s h=>by
  obtain⟨hp,g,d,tk,os⟩:=s;obtain⟨hl,h⟩:=h
  have hsub:=sub_enumerate
  have hL:Heap.IsTuple (Shared.heap ⟨hp,g,d,tk,os⟩) l items:=⟨_,hl,rfl,n,rfl⟩
  wp_walk using wpAny_loadPart' hl
  refine wpAny_stack_any fun st=>wpAny_pure ?_
  split
  ·rename_i c _ _ _ _ _
   cases (c==Value.type "enumerate")
   ·wp_walk using wpAny_loadPart' hl,wpAny_pyIter_tuple hL
    exact⟨_,rfl,h⟩
   ·wp_walk using wpAny_loadPart' hl,wpAny_pyIter_tuple hL
    exact⟨_,rfl,h⟩
  ·wp_walk using wpAny_loadPart' hl,wpAny_pyIter_tuple hL
   exact⟨_,rfl,h⟩
section
variable {prog:Program}{w:World}{A:Around}{E:Value→Shared→Prop}{s:Shared}
theorem jn {l:Addr}{items:Array Value}{Q:Value→Shared→Prop}(hL:s.heap.IsTuple l items)
  (h:∀ h',IsEnum h' (s.heap.objs.size+1) s.heap.objs.size 0 .none→h'.IsTupleIter s.heap.objs.size l 0→h'.objs.size=s.heap.objs.size+2 →
   (∀ b o,s.heap.get? b=some o→h'.get? b=some o)→Q (.ref (s.heap.objs.size+1)) { s with heap:=h' }) :
  wpAny (model prog w) A (call (.type "enumerate") [.ref l]) Q E s:=by
 obtain⟨⟨c,dct,dt,sl⟩,hl,hc,n,hd⟩:=hL
 replace hc:c=.type "tuple" := hc
 replace hd:dt=.seq items n:=hd
 subst hc hd
 refine callType_new F.called_enumerate (by decide) (F.typeCall_enumerate_1 _) (F.newCall_enumerate_1 _) (fun obj=>F.args_object_init_2 obj _) F.entry_enumerate_new
  (iE l items n dct sl) ⟨hl,?_⟩
 have hz:(s.heap.push { cls:=.type "tuple_iterator",data:=.fields #[.ref l,.int 0 0] }).objs.size=s.heap.objs.size+1:=Heap.size_push ..
 show _∧_
 rw[hz]
 have he:IsEnum ((s.heap.push { cls:=.type "tuple_iterator",data:=.fields #[.ref l,.int 0 0] }).push
   { cls:=.type "enumerate",data:=.fields #[.none,.bool false,.ref s.heap.objs.size,rawInt 0,.none,.none] }) (s.heap.objs.size+1) s.heap.objs.size 0 .none:=by
  have:=Heap.get?_push_size (s.heap.push { cls:=.type "tuple_iterator",data:=.fields #[.ref l,.int 0 0] })
   (o:={ cls:=.type "enumerate",data:=.fields #[.none,.bool false,.ref s.heap.objs.size,rawInt 0,.none,.none] }) rfl
  rw[hz]at this;exact this
 refine⟨⟨_,he,rfl⟩,h _ he ⟨_,Heap.get?_push_of_some _ (Heap.get?_push_size _ rfl),rfl,rfl⟩ (by rw[Heap.size_push,hz]) fun b o x=>Heap.get?_push_of_some _ (Heap.get?_push_of_some _ x)⟩
theorem pO {b:Bool}{l:Addr}{items:Array Value}{Q:Value→Shared→Prop}(hL:SOb s.heap b l items)
  (h:∀ h',IsEnum h' (s.heap.objs.size+1) s.heap.objs.size 0 .none→SIt h' b s.heap.objs.size l 0→(∀ b o,s.heap.get? b=some o→h'.get? b=some o)→Q (.ref (s.heap.objs.size+1)) { s with heap:=h' }) :
  wpAny (model prog w) A (call (.type "enumerate") [.ref l]) Q E s:=by
 cases b with
 | true=>exact jn hL fun h' a1 a2 _ a3=>h h' a1 a2 a3
 | false=>exact call_enumerate_list hL fun h' a1 a2 _ a3=>h h' a1 a2 a3
theorem jR {e it:Addr}{i:Int}{old:Value}{Q:Value→Shared→Prop}(he:IsEnum s.heap e it i old)(h:Q (.ref e) s):wpAny (model prog w) A (pyIter (.ref e)) Q E s:=by
 have hT:s.TypeIs (.ref e) "enumerate" := ⟨_,he,rfl⟩
 refine wpAny_pyIter_slot hT F.slot_enumerate_iter (wpAny_call_entry F.slot_enumerate_iter hT F.entry_enumerate_iter ?_ (F.args_enumerate_iter_1 _))
 show wpAny _ _ (ret (.ref e)) _ _ s
 exact wpAny_pure ⟨_,rfl,"enumerate",_,hT,F.slot_enumerate_next.lookup,h⟩
end
section
variable {prog:Program}{w:World}{A:Around}{E:Value→Shared→Prop}{s:Shared}
theorem sj {e it a:Addr}{b:Bool}{i:Int}{k:Nat}{old:Value}{items:Array Value}{Q:Option Value→Shared→Prop}(hh:A.handled=none)(he:IsEnum s.heap e it i old)(hit:SIt s.heap b it a k)(hl:SOb s.heap b a items)(hx:items[k]?=none)
  (hQ:∀ h',Heap.ExtBut it s.heap h'→Q none { s with heap:=h' }):wpAny (model prog w) A (pyNext (.ref e)) Q E s:=by
 have hT:s.TypeIs (.ref e) "enumerate" := ⟨_,he,rfl⟩
 unfold pyNext
 refine wpAny_bind (wpAny_attempt (wpAny_callSpecial?_slot (name:=Str.ofString "__next__") hT F.slot_enumerate_next
  (wpAny_call_entry F.slot_enumerate_next hT F.entry_enumerate_next ?_ (F.args_enumerate_next_1 _))))
 show wpAny _ _ (field (.ref e) 2 >>= _) _ _ _
 refine wpAny_bind (wpAny_field he rfl (x:=.ref it) rfl ?_)
 refine wpAny_bind (cz (show A.in1.handled=none from hh) hit hl hx fun h' x he' hx'=>?_)
 obtain⟨o,ho,hc⟩:=hx'
 refine wpAny_bind (wpAny_isInstance (T := "StopIteration") (b:=true) ⟨o,ho,hc⟩ isSubtype_stop ?_)
 exact wpAny_pure (hQ _ he')
end
def Ite (K:PySem.W.Frag)(b:Bool)(a:Addr):It :=
 ⟨fun i H=>∃ xs x,SqB K H b a xs∧xs[i]?=some x,
  fun i H v H'=>∃ p x,H p=none∧v=.ref p∧(∀ xs,SqB K H b a xs→xs[i]?=some x)∧H'=upd H p (.tup [.int (i:Int),x]),
  fun i H=>∃ xs,SqB K H b a xs∧xs.length≤i⟩
theorem pP {P:Program}{w:World}{K:PySem.W.Frag}{elts:List Expr}{x1:Nat}{pos:Pos}{e it a:Addr}(b:Bool)(hei:e≠it)(hai:a≠it)(hea:e≠a) :
  Turn P w K (.Tuple elts x1 pos) (Ite K b a) [e,it] e (fun i h=>(∃ old,IsEnum h e it i old)∧SIt h b it a i) where
 mem:=by simp
 obj:=fun i h st c hb=>by
  obtain⟨⟨old,e1⟩,e2⟩:=st
  simp only[List.mem_cons,List.not_mem_nil,or_false]at hb
  rcases hb with rfl | rfl
  ·exact⟨_,e1,fun v z=>by have z':Data.fields _=Data.cell v:=z;cases z'⟩
  ·exact e2.lt
 keep:=fun i h h' st k=>by
  obtain⟨⟨old,e1⟩,e2⟩:=st
  exact⟨⟨old,k e (by simp) _ e1⟩,e2.at fun o q=>k it (by simp) o q⟩
 item:=by
  intro X hP hw hK hc i pins s σ H E I hf st hg
  subst hP hw hK
  obtain⟨xs,x,q1,hx⟩:=hg
  obtain⟨⟨old,e1⟩,e2⟩:=st
  obtain⟨is1,rv1,o1,_⟩:=cN I q1
  obtain⟨u,hu,ru⟩:=rv1.get hx
  have hl:=rv1.length
  have hil:i < xs.length:=(List.getElem?_eq_some_iff.mp hx).1
  have lt:∀ c∈[e,it],c≠s.heap.objs.size:=fun c hb=>by
   simp only[List.mem_cons,List.not_mem_nil,or_false]at hb
   rcases hb with rfl | rfl
   ·exact Nat.ne_of_lt (Heap.lt_size e1)
   ·obtain⟨o,ho,_⟩:=e2.lt;exact Nat.ne_of_lt (Heap.lt_size ho)
  have D:=si (prog:=X.prog) (w:=X.w) (A:=X.A.in1) (show X.A.in1.handled=none from I.ok.hd hc) b it a hai is1.toArray
  refine wpAny_pyNext_enum_itemD D e1 ⟨e2,o1⟩ (by simp;omega) hei (by simp[hei,hea]) fun v h' tk hP ho hs' hT hsz hk=>?_
  have ev:v=u:=by
   have h1:is1[i]?=some v:=by simpa using hP
   rw[hu]at h1;cases h1;rfl
  subst ev
  refine⟨_,rfl,wpAny_letOwnedTupleGo_enum (s:={ s with heap:=h',toks:=tk+1 }) ho fun h2 he2 sb2=>?_⟩
  have k2:∀ c o,c∉[e,it]→s.heap.get? c=some o→h2.get? c=some o:=fun c o hb q=>by
   simp only[List.mem_cons,List.not_mem_nil,or_false,not_or]at hb
   exact sb2.extBut _ _ hb.1 (hk c o hb.1 hb.2 q)
  have hp2:IsPair h2 s.heap.objs.size (.int i tk) v:=sb2.extBut _ _ (fun q=>lt e (by simp) q.symm) hT
  have I2:Inv X pins σ (upd H s.heap.objs.size (.tup [.int (i:Int),x])) { s with heap:=h2,toks:=tk+1 }:=turnedP I hf lt ⟨tk,rfl⟩ ru hp2 k2
  exact⟨.ref s.heap.objs.size,_,I2,rfl,⟨s.heap.objs.size,x,I.hok.fresh (Nat.le_refl _),rfl,fun xs' q=>by rw[nh I q q1];exact hx,rfl⟩,⟨⟨_,by simpa using he2⟩,hs'.1.at fun o q=>sb2.extBut _ _ (Ne.symm hei) q⟩,fun c hb=>by rw[av (lt c hb)];exact(hf c hb).1⟩
 done:=by
  intro X hP hw hK hc i pins s σ H E I hf st hg
  subst hP hw hK
  obtain⟨xs,q1,hx⟩:=hg
  obtain⟨⟨old,e1⟩,e2⟩:=st
  obtain⟨is1,rv1,o1,_⟩:=cN I q1
  have hl:=rv1.length
  refine sj (I.ok.hd hc) e1 e2 o1 (by simp;omega) fun h' hk=>⟨rfl,turnedL (t':=s.toks) I hf fun c o hb q=>?_⟩
  simp only[List.mem_cons,List.not_mem_nil,or_false,not_or]at hb
  exact hk c o hb.2 q
 self:=fun _ _ _ _ _ st h=>by obtain⟨⟨old,e1⟩,_⟩:=st;exact jR e1 h
theorem pQ:bootBuiltins "enumerate"=some (.type "enumerate"):=by decide +kernel
theorem uR {X:Cx}{elts:List Expr}{x1:Nat}{ps p pos:Pos}{a:Expr}{ta:TA}(hg:Gl X "enumerate")(hm:X.mg "enumerate"=none)(ha:PA X [a] ta)(hs:starEach [a] X.env=[(false,eval a X.env)]:=by rfl) :
  PI X (.Tuple elts x1 ps) (.Call (.Name "enumerate" p) [a] [] pos) (fun σ H R=>ta σ H fun vs H1=>∃ b a1,vs=[.ref a1]∧(∃ xs,SqB X.K H1 b a1 xs)∧R (Ite X.K b a1) H1):=by
 intro pins s σ H R I h
 refine Call_ (ez I hg hm pQ (PyProof.Rows.callWith_type1 (thn (ha pos pins s σ H _ I h) fun us s1 ⟨vs,H1,I1,r1,q1⟩=>?_) hs rfl))
 obtain⟨b,a1,e,⟨xs,hx⟩,q⟩:=q1
 subst e
 cases r1 with
 | cons r rr =>
  cases rr
  cases r
  obtain⟨is1,rv1,o1,_⟩:=cN I1 hx
  have lt:a1 < s1.heap.objs.size:=by cases b<;>(obtain⟨_,e,_⟩:=o1;exact Heap.lt_size e)
  refine pO o1 fun h' he hi hk=>jR (s:={ s1 with heap:=h' }) he ?_
  have I2:Inv X pins σ H1 { s1 with heap:=h',toks:=s1.toks }:=I1.kept hk
  refine⟨_,_,_,_,H1,rfl,I2,pP b (Nat.succ_ne_self _) (Nat.ne_of_lt lt) (Nat.ne_of_gt (Nat.lt_succ_of_lt lt)),⟨⟨_,he⟩,hi⟩,fun c hc=>?_,q⟩
  have hb:s1.heap.objs.size≤c:=by
   simp only[List.mem_cons,List.not_mem_nil,or_false]at hc
   rcases hc with rfl | rfl
   ·exact Nat.le_add_right _ _
   ·exact Nat.le_refl _
  exact I1.fpOk hb (I1.hok.fresh hb)
theorem oy:∀ {xs:List D} {k i:Nat} {x:D},xs[i]?=some x→(enD xs k)[i]?=some (.tup [.int ((k+i:Nat):Int),x])
 | a::xs,k,0,x,h=>by cases h;rfl
 | a::xs,k,i+1,x,h=>by
  have:=oy (xs:=xs) (k:=k+1) (i:=i) (by simpa using h)
  rw[show k+1+i=k+(i+1) by omega]at this
  simpa [enD] using this
 | [],_,_,_,h=>by simp at h
theorem kG:∀ (xs:List D) (k:Nat),(enD xs k).length=xs.length
 | [],_=>rfl
 | a::xs,k=>by show (enD xs (k+1)).length+1=_;rw[kG xs (k+1)];rfl
theorem pR {F:Fx}{b:Bool}{a:Addr}{xs:List D}{vs:List V}{Z:Hp}(h1:SqB F.K Z b a vs)(r1:Reps F.K F.C Z xs vs):WalkG F (Ite F.K b a) (enD xs 0) Z:=fun i H Z2 z1 z2=>by
 have l:=kG xs 0
 have e1:=r1.length
 refine⟨fun hi=>?_,fun hi=>⟨vs,h1.mono (z1.trans z2),by omega⟩⟩
 have hx:vs[i]?=some vs[i]:=List.getElem?_eq_getElem (by omega)
 refine⟨⟨vs,_,h1.mono (z1.trans z2),hx⟩,fun v H' ⟨p,x,hp,e,qx,eH⟩=>?_⟩
 subst e;subst eH
 obtain⟨dx,f1,g1⟩:=r1.get' (qx _ (h1.mono (z1.trans z2)))
 have z3:Same Z (upd Z2 p (.tup [.int (i:Int),x])):=z1.trans (aw (z2.free hp))
 have f2:=oy (k:=0) f1
 rw[Nat.zero_add]at f2
 refine⟨upd Z2 p (.tup [.int (i:Int),x]),.tup [.int (i:Int),dx],Ex.alloc z2 hp,f2,?_⟩
 rw[Rep]
 exact⟨p,[.int (i:Int),x],rfl,SqT.of ak,Reps.cons aG (Reps.cons (g1.mono z3) Reps.nil)⟩
section
variable {X:Cx}{F:Fx}{a:Expr}{ga:SS→R D}{k:Nat}
theorem uS {S:SS}{α:Type}(f:D→R α):((aL [ga]) S).bind (fun ds=>match ds with | [x]=>f x | _=>R.stuck)=(ga S).bind fun x=>f x:=by
 show (((ga S).bind fun d=>(R.ok []:R (List D)).bind fun ds=>R.ok (d::ds))).bind _=_
 cases ga S<;>rfl
theorem fm {elts:List Expr}{x1:Nat}{ps p pos:Pos}(bx:BX X F k)(hg:Gl X "enumerate")(hm:X.mg "enumerate"=none)(ha:FE X F a ga)(hs:starEach [a] X.env=[(false,eval a X.env)]:=by rfl) :
  FI X F (.Tuple elts x1 ps) (.Call (.Name "enumerate" p) [a] [] pos) (fun S=>(ga S).bind fun x=>dEnum x) :=
 (uR hg hm (FAL.out (aa ha ae (hs:=by rw[hs];rfl))) hs).weak fun σ H Q ⟨Z,S,ok,w⟩=>by
  have w:WG F H Z ((ga S).bind fun x=>dEnum x) _:=w
  rw[← uS]at w
  refine aJ ok w fun ds vs H1 Z1 ok1 x1 rs w1=>?_
  obtain⟨dx,rfl⟩:∃ dx,ds=[dx]:=by
   rcases ds with _ | ⟨dx,_ | ⟨dy,r⟩⟩
   ·exact False.elim w1
   ·exact⟨dx,rfl⟩
   ·exact False.elim w1
  focus
   have w2:WG F H1 Z1 (dEnum dx) _:=w1
   unfold dEnum sq at w2
   rw[Reps]at rs
   obtain⟨v1,r,rfl,q1,rs⟩:=rs
   rw[Reps]at rs
   subst rs
   cases e1:asSeq dx with
   | err k=>rw[e1]at w2;cases dx<;>cases e1
   | stuck=>rw[e1]at w2;exact w2.elim
   | ok xs =>
    rw[e1]at w2
    have w3:WG F H1 Z1 (R.bind (if xs.length≤16777216 then R.ok xs else R.stuck) fun xs=>R.ok (enD xs 0)) _:=w2
    split at w3
    ·rename_i hl1
     obtain⟨b1,a1,us1,rfl,s1,t1⟩:=nj e1 q1
     rw[bx.K]
     exact⟨b1,a1,rfl,⟨us1,s1.mono ok1.sub⟩,WG.now w3 ok1.sub _ (pR s1 t1) (by rw[kG];exact hl1)⟩
    ·exact w3.elim
end
end FF
end
noncomputable section
namespace FF
open PySem PySem.Spec PyProof.Rows L2
section
variable {X:Cx}{F:Fx}{a:Expr}{ga:SS→R D}{k:Nat}{p p2 pos pos2:Pos}
end
section
variable {prog:Program}{w:World}{A:Around}{E:Value→Shared→Prop}{s:Shared}
end
section
variable {X:Cx}{F:Fx}
variable {σ:Type}{S:SS}{rest:List Stmt}{J:σ→SS→Prop}{e:Expr}{ge:SS→R D}{r:R D}{n:Nat}
end
end FF
end
noncomputable section
namespace FF
open PySem PySem.Spec PyProof.Rows L2
section
variable {X:Cx}{F:Fx}
end
def eM2 (own:Nat)(cap:List Nat)(it:SS→R (List D))(i j:Nat)(e:SS→R D):SS→R D:=fun S=>(it S).bind fun ds =>
 cMap (fun d=>un2 d fun x y=>e (((blkS own cap S).set i (some (.val x))).set j (some (.val y)))) ds
theorem oz (f:D→D→R D):∀ ds:List D,cGo (fun d=>un2 d fun _ _=>.ok true) (fun d=>un2 d f) ds=cGo (fun _=>.ok true) (fun d=>un2 d f) ds
 | []=>rfl
 | d::ds=>by
  have ih:=oz f ds
  cases d with
  | tup xs =>
   match xs with
   | [a,b] =>
    have e1:un2 (.tup [a,b]) (fun _ _=>(R.ok true:R Bool))=.ok true:=rfl
    rw[cGo,cGo,e1,ih]
   | []=>rfl
   | [_]=>rfl
   | _::_::_::_=>rfl
  | _=>rfl
theorem wF {own:Nat}{cap:List Nat}{it:SS→R (List D)}{i j:Nat}{e:SS→R D}(S:SS):eC2 own cap it i j tTrue e S=eM2 own cap it i j e S:=by
 unfold eC2 eM2
 cases it S with
 | ok ds=>exact congrArg (fun r:R (List D)=>r.bind fun ys=>R.ok (FF.D.lst ys)) (oz _ ds)
 | err k=>rfl
 | stuck=>rfl
theorem vE {X:Cx}{F:Fx}{e:Expr}{own:Nat}{cap:List Nat}{it:SS→R (List D)}{i j:Nat}{el:SS→R D}(h:FE X F e (eComp own cap it (gTup [i,j]) tTrue el)):FE X F e (eM2 own cap it i j el):=cM (rV h) fun S=>wF S
end FF
end
noncomputable section
namespace FF
open PySem PySem.Spec PyProof.Rows L2
def capB (XN:List Str)(scope:Scope)(N:List Str)(own:Nat):Nat→List Nat→Bool
 | _,[]=>true
 | j,i::r=>(match N[own+j]?,XN[i]? with
  | some x,some y=>x==y&&scope.names.lookup x==some .free
  | _,_=>false)&&capB XN scope N own (j+1) r
def blkB (XN:List Str)(osc scope:Scope)(N:List Str)(own:Nat)(cap:List Nat):Bool :=
 scope.kind==.function&&(scope.names.all fun y=>scope.names.lookup y.1==some y.2)&&(scope.names.all fun y=>!(y.2==.free)||(osc.names.lookup y.1==some .cell||osc.names.lookup y.1==some .free))&&N.length==own+cap.length&&capB XN scope N own 0 cap
theorem oA {XN:List Str}{scope:Scope}{N:List Str}{own:Nat}:∀ {cap:List Nat} {k:Nat},capB XN scope N own k cap=true→∀ j i,cap[j]?=some i→∃ x,N[own+(k+j)]?=some x∧XN[i]?=some x∧scope.names.lookup x=some .free
 | [],_,_,j,i,e=>by simp at e
 | c::r,k,h,j,i,e=>by
  unfold capB at h
  rw[Bool.and_eq_true]at h
  cases j with
  | zero =>
   simp only[List.getElem?_cons_zero,Option.some.injEq]at e
   subst e
   have h1:=h.1
   split at h1
   ·rename_i x y e1 e2
    rw[Bool.and_eq_true]at h1
    have:=eq_of_beq h1.1
    subst this
    exact⟨x,by rw[Nat.add_zero];exact e1,e2,eq_of_beq h1.2⟩
   ·cases h1
  | succ j =>
   obtain⟨x,a,b⟩:=oA h.2 j i (by simpa using e)
   exact⟨x,by rw[← a];congr 1;omega,b⟩
theorem BlkOk.of {XN:List Str}{osc scope:Scope}{N:List Str}{own:Nat}{cap:List Nat}(h:blkB XN osc scope N own cap=true):BlkOk XN osc scope N own cap:=by
 unfold blkB at h
 simp only[Bool.and_eq_true,List.all_eq_true]at h
 obtain⟨⟨⟨⟨h1,h2⟩,h3⟩,h4⟩,h5⟩:=h
 have look:∀ y∈scope.names,scope.names.lookup y.1=some y.2:=fun y hy=>eq_of_beq (h2 y hy)
 refine⟨eq_of_beq h1,fun y hy e=>by rw[look y hy,e],fun y hy e=>by rw[look y hy,e],fun y hy e=>by rw[look y hy,e],fun y hy e=>?_,eq_of_beq h4,fun j i e=>?_⟩
 ·have:=h3 y hy
  rw[e]at this
  simp only[beq_self_eq_true,Bool.not_true,Bool.false_or,Bool.or_eq_true]at this
  rcases this with z | z
  ·exact .inl (eq_of_beq z)
  ·exact .inr (eq_of_beq z)
 ·have:=oA h5 j i e
  rw[Nat.zero_add]at this
  exact this
end FF
end
noncomputable section
namespace FF
open PySem PySem.Spec PyProof.Rows L2
section
variable {X:Cx}{F:Fx}{o e:Expr}{g:SS→R D}{gs:List (SS→R D)}{apos cpos:Pos}{k:Nat}
end
end FF
end
noncomputable section
namespace FF
open PySem PySem.Spec PyProof.Rows L2
def OkD (P:Program)(w:World)(K:PySem.W.Frag)(mg:Str→Option Value)(base:Heap)(C:Nat→Addr)(k:Nat)(x:Str)(st:Stmt)(ps:List Str)(fn:List D→R D):Prop :=
 ∀ {f:Addr} {fd:FuncData},Fun K x x st f fd→FnOk P w K mg base (CXE P w) (k+1) f fd ps (spF K C ps.length fn)
def OkB (P:Program)(w:World)(K:PySem.W.Frag)(mg:Str→Option Value)(base:Heap)(C:Nat→Addr)(k:Nat)(N:List Str)(x:Str)(st:Stmt)(ds:List D)(l:L Unit):Prop :=
 ∀ (f:Addr) (cdv:Value) (A:Around) (outer:List Env) (s:Shared) (H Z:Hp) (E:XK),BX (bodyX P w K mg base N x (defScope st) f cdv A outer s H E) ⟨K,C,H,Z,E⟩ k →
  PassesOwn (model P w) (bodyX P w K mg base N x (defScope st) f cdv A outer s H E).A (bodyX P w K mg base N x (defScope st) f cdv A outer s H E).env (bodyX P w K mg base N x (defScope st) f cdv A outer s H E).xe →
  MadeX (bodyX P w K mg base N x (defScope st) f cdv A outer s H E) ⟨K,C,H,Z,E⟩→FL (bodyX P w K mg base N x (defScope st) f cdv A outer s H E) ⟨K,C,H,Z,E⟩ (startS N.length ds) (defBody st) JU l
theorem mkSc {N ps:List Str}{sc:Scope}(a:sc.kind=.function:=by rfl)(b:sc.isCoroutine=false:=by rfl)(c:sc.isGenerator=false:=by rfl)(d:N.Nodup:=by decide +kernel)(e:N.take ps.length=ps:=by rfl)
  (f:∀ x∈ps,sc.names.lookup x=some .local∨sc.names.lookup x=some .cell:=by decide +kernel) (g:∀ y∈sc.names,y.2≠.free:=by decide +kernel):FnScope N ps sc:=⟨a,b,c,d,e,f,g⟩
section
variable {P:Program}{w:World}{K:PySem.W.Frag}{mg:Str→Option Value}{base:Heap}{C:Nat→Addr}{k:Nat}{N ps:List Str}{x:Str}{st:Stmt}
theorem okd {fn:List D→R D}(S:FnScope N ps (defScope st))(h:∀ ds,ds.length=ps.length→∃ l,fn ds=outL l∧OkB P w K mg base C k N x st ds l):OkD P w K mg base C k x st ps fn:=fun F =>
 uM F S fun cdv A outer s H Z E bx hp md ds hl=>by
  obtain⟨l,e,o⟩:=h ds hl
  exact⟨l,e,o _ cdv A outer s H Z E bx hp md⟩
theorem ok1 {p:Str}{c:D→L Unit}(S:FnScope N [p] (defScope st))(h:∀ a,OkB P w K mg base C k N x st [a] (c a)):OkD P w K mg base C k x st [p] (a1 c):=okd S fun ds hl=>by obtain⟨a,rfl⟩:=len1 hl;exact⟨c a,rfl,h a⟩
theorem ok2 {p q:Str}{c:D→D→L Unit}(S:FnScope N [p,q] (defScope st))(h:∀ a b,OkB P w K mg base C k N x st [a,b] (c a b)):OkD P w K mg base C k x st [p,q] (a2 c):=okd S fun ds hl=>by obtain⟨a,b,rfl⟩:=len2 hl;exact⟨c a b,rfl,h a b⟩
theorem ok3 {p q r:Str}{c:D→D→D→L Unit}(S:FnScope N [p,q,r] (defScope st))(h:∀ a b d,OkB P w K mg base C k N x st [a,b,d] (c a b d)):OkD P w K mg base C k x st [p,q,r] (a3 c):=okd S fun ds hl=>by obtain⟨a,b,d,rfl⟩:=len3 hl;exact⟨c a b d,rfl,h a b d⟩
theorem ok4 {p q r s:Str}{c:D→D→D→D→L Unit}(S:FnScope N [p,q,r,s] (defScope st))(h:∀ a b d e,OkB P w K mg base C k N x st [a,b,d,e] (c a b d e)):OkD P w K mg base C k x st [p,q,r,s] (a4 c):=okd S fun ds hl=>by obtain⟨a,b,d,e,rfl⟩:=len4 hl;exact⟨c a b d e,rfl,h a b d e⟩
theorem ok5 {p q r s t:Str}{c:D→D→D→D→D→L Unit}(S:FnScope N [p,q,r,s,t] (defScope st))(h:∀ a b d e f,OkB P w K mg base C k N x st [a,b,d,e,f] (c a b d e f)):OkD P w K mg base C k x st [p,q,r,s,t] (a5 c):=okd S fun ds hl=>by obtain⟨a,b,d,e,f,rfl⟩:=len5 hl;exact⟨c a b d e f,rfl,h a b d e f⟩
structure Fd (K:PySem.W.Frag)(mg:Str→Option Value)(x:Str)(ps:List Str)(st:Stmt):Prop where
 ex:∃ a fd,Fun K x x st a fd∧mg x=some (.ref a)∧Binds K fd ps []
theorem lY {f:Addr}{fd:FuncData}{n:Nat}:FnOk P w K mg base (CXE P w) k f fd ps (spF K C n fun _=>.stuck) :=
 ⟨fun vs H Q E h=>by obtain⟨_,_,_,_,_,z⟩:=h;exact z.elim,fun A outer s H args us vs Q E _ _ _ _ h=>by obtain⟨_,_,_,_,_,z⟩:=h;exact z.elim⟩
theorem xp {i:Nat}(F:Fd K mg x ps st)(hf:mg x=some (.ref (C i))):FnV P w K mg base C 0 i fun _=>.stuck:=by
 obtain⟨a,fd,F,h,b⟩:=F.ex
 rw[hf]at h
 cases h
 exact⟨fd,ps,lY,F.kp,b,fun _ _=>rfl⟩
theorem xq {i:Nat}{fn:List D→R D}(F:Fd K mg x ps st)(hf:mg x=some (.ref (C i)))(ok:OkD P w K mg base C k x st ps fn)(hl:∀ ds,ds.length≠ps.length→fn ds=.stuck):FnV P w K mg base C (k+1) i fn:=by
 obtain⟨a,fd,F,h,b⟩:=F.ex
 rw[hf]at h
 cases h
 exact⟨fd,ps,ok F,F.kp,b,hl⟩
theorem g0 (F:Fd K mg x ps st):Fn1 P w K mg base C 0 x ps (fun _=>.stuck):=by obtain⟨a,fd,F,h,b⟩:=F.ex;exact⟨a,fd,lY,h,F.kp,b⟩
theorem g1 {fn:List D→R D}(F:Fd K mg x ps st)(ok:OkD P w K mg base C k x st ps fn):Fn1 P w K mg base C (k+1) x ps fn:=by obtain⟨a,fd,F,h,b⟩:=F.ex;exact⟨a,fd,ok F,h,F.kp,b⟩
section
variable {h:Heap}{f:Addr}{oc:Value}{od an:Option Addr}{osl:Array (Option Value)}{kV doc pm cdv ct:Value}
theorem xr (X:K.In h)(G:h.Ns mainGlobals mg)(hb:∀ (kV doc pm:Value) (an:Option Addr) (cdv ct:Value) (us:List Value),us.length=ps.length→bindArgs (PySem.W.fnOf x x (defArgs st) (defBody st) (defScope st) .none kV doc pm an cdv ct) ⟨us,[]⟩=pure (ps.zip us))
  (a:PySem.W.nsIn K mainGlobals x=some (some (.ref f))) (l:K.lookup f=some ⟨oc,od,.func (PySem.W.fnOf x x (defArgs st) (defBody st) (defScope st) .none kV doc pm an cdv ct),osl⟩) (c:PySem.W.codeIn K cdv x=true) (k:PySem.W.keepIn K (.ref f)=true):Fd K mg x ps st :=
 ⟨f,_,mV l c k,PySem.W.mg_of X G a,(mV l c k).binds hb⟩
end
theorem ln1 {us:List Value}(h:us.length=1):∃ a,us=[a]:=match us,h with | [a],_=>⟨a,rfl⟩
theorem ln2 {us:List Value}(h:us.length=2):∃ a b,us=[a,b]:=match us,h with | [a,b],_=>⟨a,b,rfl⟩
theorem ln3 {us:List Value}(h:us.length=3):∃ a b c,us=[a,b,c]:=match us,h with | [a,b,c],_=>⟨a,b,c,rfl⟩
theorem ln4 {us:List Value}(h:us.length=4):∃ a b c d,us=[a,b,c,d]:=match us,h with | [a,b,c,d],_=>⟨a,b,c,d,rfl⟩
end
abbrev Ng (K:PySem.W.Frag)(x:Str)(v:Option Value):Prop:=PySem.W.nsIn K mainGlobals x=some v
theorem oB {K:PySem.W.Frag}{C:Nat→Addr}{Z:Hp}:∀ ns:List Int,Reps K C Z (ns.map .int) (ns.map V.int)
 | []=>by rw[List.map_nil,List.map_nil,Reps]
 | i::ns=>by rw[List.map_cons,List.map_cons,Reps];exact⟨_,_,rfl,aG,oB ns⟩
end FF
end
noncomputable section
namespace FF
open PySem PySem.Spec PyProof.Rows L2
section
variable {σ:Type}{X:Cx}{F:Fx}{S:SS}{J:σ→SS→Prop}
end
section
variable {X:Cx}{F:Fx}{e ey ex:Expr}{ge gy gx:SS→R D}{x:Str}{pos:Pos}{k:Nat}
end
section
variable {X:Cx}{F:Fx}{tg iter elt:Expr}{scope:Scope}{N:List Str}{own:Nat}{cap:List Nat}{pos:Pos}{git:SS→R (List D)}
end
section
variable {X:Cx}{F:Fx}{tg iter elt:Expr}{ifs:List Expr}{scope:Scope}{N:List Str}{own:Nat}{cap:List Nat}{pos:Pos}{git:SS→R (List D)}{g:D→SS→R SS}{gc:SS→R Bool}{ge:SS→R D}
end
end FF
end
noncomputable section
namespace FF
open PySem PySem.Spec PyProof.Rows L2
section
variable {X:Cx}{F:Fx}{p pos p1 p2 p3:Pos}{e:Expr}{g:SS→R D}{k:Nat}
end
end FF
end
noncomputable section
namespace L2
open PySem PySem.Spec PyProof.Rows
section
variable {κ:Type}[DecidableEq κ]
def valV (kvs:List (κ×V))(k:κ):Option V:=(kvs.find? fun kv=>decide (kv.1=k)).map (·.2)
theorem sk {p:κ×V}{r:List (κ×V)}{k:κ}(e:p.1=k):valV (p::r) k=some p.2:=by simp[valV,List.find?_cons,e]
theorem so {p:κ×V}{r:List (κ×V)}{k:κ}(e:¬ p.1=k):valV (p::r) k=valV r k:=by simp[valV,List.find?_cons,e]
theorem KV.any {kvs:List (κ×V)}{vs:List (κ×Value)}(r:KV kvs vs)(k:κ):(kvs.any fun kv=>decide (kv.1=k))=vs.any fun kv=>decide (kv.1=k):=by
 unfold KV at r
 induction r with
 | nil=>rfl
 | cons h t ih=>rw[List.any_cons,List.any_cons,ih,h.1]
theorem KV.length {kvs:List (κ×V)}{vs:List (κ×Value)}(r:KV kvs vs):kvs.length=vs.length:=Paired.length r
end
section
variable {P:Program}{w:World}{H:Hp}{h:Heap}{a:Addr}
end
section
variable {X:Cx}{pins:List (Addr×Obj)}{σ:St}{H:Hp}{s:Shared}{a:Addr}{y v:V}{u r:Value}{o:Option V}{A:Around}{E:Value→Shared→Prop}
end
section
variable {X:Cx}{pins:List (Addr×Obj)}{σ:St}{H:Hp}{s:Shared}{a:Addr}{kvs:List (Key×V)}{k:Key}{u:Value}{A:Around}{E:Value→Shared→Prop}
end
section
variable {X:Cx}{o i e value:Expr}{pos pos' tpos:Pos}{td ty tv:TE}
end
section
variable {X:Cx}{pos:Pos}
end
section
variable {X:Cx}{pins:List (Addr×Obj)}{σ:St}{H:Hp}{s:Shared}{a:Addr}{y d:V}{u r:Value}{o:Option V}{A:Around}{E:Value→Shared→Prop}
end
section
variable {X:Cx}{o e f:Expr}{apos cpos:Pos}{td ty tx:TE}
end
section
variable {X:Cx}{pins:List (Addr×Obj)}{σ:St}{H:Hp}{s:Shared}{a:Addr}{kvs:List (Key×V)}{A:Around}{E:Value→Shared→Prop}
end
section
variable {X:Cx}{pins:List (Addr×Obj)}{σ:St}{H:Hp}{s:Shared}{a:Addr}{y:V}{u:Value}{A:Around}{E:Value→Shared→Prop}
end
end L2
end
noncomputable section
namespace FF
open PySem PySem.Spec PyProof.Rows L2
def dicGet {κ:Type}[DecidableEq κ](m:List (κ×D))(k:κ):Option D:=(m.find? fun p=>decide (p.1=k)).map (·.2)
section
variable {κ:Type}{F:Fx}{Z:Hp}{m:List (κ×D)}{kvs:List (κ×V)}{k:κ}{d:D}{v:V}
theorem Pairs.inv (h:Pairs F Z ((k,d)::m) kvs):∃ v r,kvs=(k,v)::r∧Rep F.K F.C Z d v∧Pairs F Z m r:=by
 cases kvs with
 | nil=>have:=h.1;cases this
 | cons p r =>
  obtain⟨k',v⟩:=p
  obtain⟨h1,h2⟩:=h
  rw[List.map_cons,List.map_cons]at h1
  injection h1 with h1 h3
  rw[List.map_cons,List.map_cons,Reps]at h2
  obtain⟨v',r',e,q1,q2⟩:=h2
  injection e with e1 e2
  subst e1 e2
  cases (show k'=k from h1)
  exact⟨v,r,rfl,q1,h3,q2⟩
theorem Pairs.inv0 (h:Pairs F Z ([]:List (κ×D)) kvs):kvs=[]:=by
 cases kvs with
 | nil=>rfl
 | cons p r=>have:=h.1;cases this
theorem Pairs.length (h:Pairs F Z m kvs):kvs.length=m.length:=by have:=congrArg List.length h.1;simpa using this
variable [DecidableEq κ]
theorem Pairs.get:∀ {m:List (κ×D)} {kvs:List (κ×V)},Pairs F Z m kvs→dicGet m k=some d→∃ v,valV kvs k=some v∧Rep F.K F.C Z d v
 | [],kvs,h,e=>nomatch e
 | (k',d')::m,kvs,h,e=>by
  obtain⟨v,q,rfl,h1,h2⟩:=h.inv
  unfold dicGet at e
  rw[List.find?_cons]at e
  by_cases hk:k'=k
  ·rw[decide_eq_true (show (k',d').1=k from hk)]at e
   cases e
   exact⟨v,sk (p:=(k',v)) hk,h1⟩
  ·rw[decide_eq_false (show ¬ (k',d').1=k from hk)]at e
   obtain⟨u,e1,e2⟩:=h2.get e
   exact⟨u,by rw[so (p:=(k',v)) hk];exact e1,e2⟩
theorem Pairs.any:∀ {m:List (κ×D)} {kvs:List (κ×V)},Pairs F Z m kvs→(kvs.any fun kv=>decide (kv.1=k))=(m.any fun p=>decide (p.1=k))
 | [],kvs,h=>by rw[h.inv0];rfl
 | (k',d')::m,kvs,h=>by
  obtain⟨v,q,rfl,h1,h2⟩:=h.inv
  rw[List.any_cons,List.any_cons,h2.any]
end
section
variable {F:Fx}{H Z:Hp}{S:SS}{σ:St}
end
section
variable {X:Cx}{F:Fx}{pos p:Pos}{k:Nat}{g ge:SS→R D}{e ei:Expr}{x:Str}
end
section
variable {X:Cx}{F:Fx}{pos p:Pos}{keys:List (Option Expr)}{values:List Expr}{ks:List Key}{gs:List (SS→R D)}{g:SS→R D}{e:Expr}{x:Str}
end
end FF
end
noncomputable section
namespace FF
open PySem PySem.Spec PyProof.Rows L2
def insS (i:Int):List Int→List Int
 | []=>[i]
 | a::r=>if i≤a then i::a::r else a::insS i r
def sortI (is:List Int):List Int:=is.foldr insS []
theorem f9 (i:Int):∀ l:List Int,(insS i l).Perm (i::l)
 | []=>.refl _
 | a::r=>by
  unfold insS
  split
  ·exact .refl _
  ·exact((f9 i r).cons a).trans (.swap i a r)
theorem aF:∀ is:List Int,(sortI is).Perm is
 | []=>.refl _
 | i::is=>(f9 i _).trans ((aF is).cons i)
theorem oC (i:Int):∀ l:List Int,l.Pairwise (·≤·)→(insS i l).Pairwise (·≤·)
 | [],_=>by unfold insS;exact List.pairwise_singleton _ _
 | a::r,h=>by
  unfold insS
  have h1:=List.pairwise_cons.mp h
  split
  ·rename_i q
   exact List.pairwise_cons.mpr ⟨fun b hb=>by rcases List.mem_cons.mp hb with rfl | hb;exact q;exact Int.le_trans q (h1.1 b hb),h⟩
  ·rename_i q
   exact List.pairwise_cons.mpr ⟨fun b hb=>by rcases List.mem_cons.mp ((f9 i r).subset hb) with rfl | hb;omega;exact h1.1 b hb,oC i r h1.2⟩
theorem bW:∀ is:List Int,(sortI is).Pairwise (·≤·)
 | []=>.nil
 | i::is=>oC i _ (bW is)
theorem cO:∀ {a b:List Int},a.Perm b→a.Pairwise (·≤·)→b.Pairwise (·≤·)→a=b
 | [],b,p,_,_=>(List.nil_perm.mp p).symm
 | x::xs,[],p,_,_=>nomatch p.length_eq
 | x::xs,y::ys,p,ha,hb=>by
  have h1:=List.pairwise_cons.mp ha
  have h2:=List.pairwise_cons.mp hb
  have e:x=y:=by
   have m1:x∈y::ys:=p.subset List.mem_cons_self
   have m2:y∈x::xs:=p.symm.subset List.mem_cons_self
   rcases List.mem_cons.mp m1 with e | m1
   ·exact e
   ·rcases List.mem_cons.mp m2 with e | m2
    ·exact e.symm
    ·have a1:=h1.1 y m2
     have a2:=h2.1 x m1
     omega
  subst e
  rw[cO (List.Perm.cons_inv p) h1.2 h2.2]
section
variable {X:Cx}{F:Fx}{p pos:Pos}{e:Expr}{gs:SS→R (List D)}{k:Nat}
theorem lZ:CallR X (.builtin "sorted") (fun xs H Q=>∃ (a:Addr) (is:List Int),xs=[.ref a]∧SqL X.K H a (is.map V.int)∧is.length < 64∧∀ p,H p=none→Q (.ref p) (upd H p (.lst ((sortI is).map V.int)))):=by
 intro pins s σ H xs us Q I r h
 obtain⟨a,is,rfl,hq,hl,q⟩:=h
 obtain⟨u,rfl,ru⟩:=vals1 r
 cases ru
 obtain⟨its,rv,pl,hz⟩:=I.list hq
 have hlen:its.length=is.length:=by have:=rv.length;rw[List.length_map]at this;omega
 refine sorted_ints (ns:=is) pl.isList (eB rv) (by omega) fun out ns' a1 a2 a3=>?_
 have e:=cO (a2.trans (aF is).symm) a3 (bW is)
 subst e
 obtain⟨n,hn⟩:=sortedAll_at s.heap its out
 have hz2:((sortI is).map V.int).length≤sizeLine:=by rw[List.length_map,(aF is).length_eq,sizeLine_eq];omega
 exact⟨.ref (s.heap.objs.size+1),_,I.laid (o:=.lst ((sortI is).map V.int)) (t':=s.toks) (fun b u q=>sortedAll_old q) (Nat.le_succ _) ⟨hz2,out.toList,n,L2.bb a1,by simpa [seqObj] using hn⟩,rfl,q _ (I.hok.fresh (Nat.le_succ _))⟩
theorem eI {F:Fx}{Z:Hp}:∀ is:List Int,Reps F.K F.C Z (is.map .int) (is.map V.int)
 | []=>Reps.nil
 | i::is=>Reps.cons aG (eI is)
end
end FF
end
noncomputable section
namespace FF
open PySem PySem.Spec PyProof.Rows L2
section
variable {X:Cx}{F:Fx}{pos p:Pos}{k:Nat}{ga gb:SS→R D}{a b:Expr}{x:Str}
end
end FF
end
noncomputable section
namespace FF
open PySem PySem.Spec PyProof.Rows L2
section
variable {prog:Program}{w:World}{A:Around}{E:Value→Shared→Prop}{s:Shared}
end
section
variable {X:Cx}{F:Fx}{e st:Expr}{te:TE}{g:SS→R D}{pos p2:Pos}
end
end FF
end
noncomputable section
namespace HT
open PySem PyProof.Rows
section
open PySem.SeqAt
open PySem.AutoSeq1 (wpAny_loadPart')
open PySem.MeetsSeq PySem.MeetsSeq2 PySem.MeetsSeq3
end
section
variable {prog:Program}{w:World}{A:Around}{E:Value→Shared→Prop}{s:Shared}
end
end HT
end
noncomputable section
namespace FF
open PySem PySem.Spec PyProof.Rows L2
section
variable {X:Cx}{F:Fx}{a b:Expr}{ga gb:SS→R D}{pos:Pos}{k:Nat}
end
end FF
end
noncomputable section
namespace FF
open PySem PySem.Spec PyProof.Rows L2
section
variable {M:Model}{A:Around}{E:Value→Shared→Prop}{s:Shared}
end
section
variable {P:Program}{w:World}{K:PySem.W.Frag}{mg:Str→Option Value}{base:Heap}{N:List Str}{qual:Str}{scope:Scope}{f:Addr}{cd:Value}{A:Around}{outer:List Env}{s0:Shared}{H0:Hp}{E:XK}
end
section
variable {X:Cx}{E:XK}{scope:Scope}{cl:List (Str×Addr)}{C:Addr}{s:Shared}{H:Hp}{fp:List Addr}{N:List Str}{pins:List (Addr×Obj)}{σ:L2.St}{H1:Hp}{s1:Shared}
end
section
variable {X:Cx}{E:XK}{elt tg iter:Expr}{scope:Scope}{N:List Str}{own:Nat}{cap:List Nat}{pos:Pos}{wi:TI}{g:TG}{tc:TT}{te:TE}
set_option maxHeartbeats 4000000 in
end
section
variable {X:Cx}{F:Fx}{tg iter elt:Expr}{scope:Scope}{N:List Str}{own:Nat}{cap:List Nat}{pos:Pos}{git:SS→R (List D)}{g:D→SS→R SS}{ge:SS→R D}
end
end FF
end
noncomputable section
namespace FF
open PySem PySem.Spec PyProof.Rows L2
section
variable {X:Cx}{F:Fx}{p pos:Pos}{e:Expr}{kws:List Keyword}{gs:SS→R (List D)}{k:Nat}
end
end FF
end
noncomputable section
namespace FF
open PySem PySem.Spec PyProof.Rows L2
section
variable {X:Cx}{F:Fx}{tg:Expr}{gs:SS→R (List D)}
end
end FF
end
noncomputable section
namespace FF
open PySem PySem.Spec PyProof.Rows L2
section
variable {prog:Program}{w:World}{A:Around}{E:Value→Shared→Prop}{R:Result→Shared→Prop}{h₀:Heap}{l I S:Addr}{its:List Value}{ks:Nat→List Int}{s0:Shared}
end
section
variable {X:Cx}{F:Fx}{p pos:Pos}{e:Expr}{gs:SS→R (List D)}{k:Nat}
end
end FF
end
noncomputable section
namespace FF
open PySem PySem.Spec PyProof.Rows L2
section
variable {X:Cx}{F:Fx}{p pos:Pos}{e:Expr}{gs:SS→R (List D)}{k:Nat}
end
end FF
end
noncomputable section
namespace FF
open PySem PySem.Spec PyProof.Rows L2
def Rise (xs:Array Nat):Prop:=xs.toList.Pairwise (· < ·)
theorem hJ {xs:Array Nat}{k d:Nat}(h:k < xs.size):xs.getD k d=xs[k]:=by simp[Array.getD,h]
theorem hU {xs:Array Nat}(r:Rise xs){i j:Nat}(hij:i < j)(hj:j < xs.size):xs[i]'(by omega) < xs[j]:=by
 have:=List.pairwise_iff_getElem.mp r i j (by simpa using (by omega:i < xs.size)) (by simpa using hj) hij
 simpa using this
theorem iF {xs:Array Nat}(r:Rise xs)(j:Nat):∀ (fuel lo hi:Nat),hi - lo≤fuel→lo≤hi→hi≤xs.size→(∀ k (h:k < xs.size),k < lo→xs[k] < j)→(∀ k (h:k < xs.size),hi≤k→j≤xs[k]) →
  (∀ k (h:k < xs.size),k < SetTable.below.go xs j fuel lo hi→xs[k] < j)∧(∀ k (h:k < xs.size),SetTable.below.go xs j fuel lo hi≤k→j≤xs[k])∧SetTable.below.go xs j fuel lo hi≤xs.size
 | 0,lo,hi,hf,h1,h2,a,b=>by
  have:lo=hi:=by omega
  subst this
  exact⟨a,b,h2⟩
 | fuel+1,lo,hi,hf,h1,h2,a,b=>by
  unfold SetTable.below.go
  by_cases h:lo < hi
  ·rw[if_pos h]
   dsimp only
   have hm:(lo+hi)/2 < xs.size:=by omega
   by_cases c:xs.getD ((lo+hi)/2) j < j
   ·rw[if_pos c]
    rw[hJ hm]at c
    refine iF r j fuel _ hi (by omega) (by omega) h2 (fun k hk hkl=>?_) b
    by_cases e:k=(lo+hi)/2
    ·subst e;exact c
    ·exact Nat.lt_trans (hU r (show k < (lo+hi)/2 by omega) hm) c
   ·rw[if_neg c]
    rw[hJ hm]at c
    refine iF r j fuel lo _ (by omega) (by omega) (by omega) a (fun k hk hkl=>?_)
    by_cases e:k=(lo+hi)/2
    ·subst e;omega
    ·have:=hU r (show (lo+hi)/2 < k by omega) hk;omega
  ·rw[if_neg h]
   have:lo=hi:=by omega
   subst this
   exact⟨a,b,h2⟩
theorem iG {xs:Array Nat}(r:Rise xs)(j:Nat):(∀ k (h:k < xs.size),k < SetTable.below xs j→xs[k] < j)∧(∀ k (h:k < xs.size),SetTable.below xs j≤k→j≤xs[k])∧SetTable.below xs j≤xs.size :=
 iF r j xs.size 0 xs.size (by omega) (by omega) (Nat.le_refl _) (fun k _ h=>absurd h (Nat.not_lt_zero _)) (fun k h h'=>absurd h (by omega))
theorem pS {xs:Array Nat}(r:Rise xs){j:Nat}(h:xs[SetTable.below xs j]?≠some j):j∉xs.toList:=fun hm=>by
 obtain⟨k,hk,e⟩:=List.getElem_of_mem hm
 have hk':k < xs.size:=by simpa using hk
 have e':xs[k]=j:=by simpa using e
 obtain⟨a,b,c⟩:=iG r j
 have h1:¬ k < SetTable.below xs j:=fun z=>by have:=a k hk' z;omega
 have h2:¬ SetTable.below xs j < k:=fun z=>by
  have hb:SetTable.below xs j < xs.size:=by omega
  have:=b _ hb (Nat.le_refl _)
  have:=hU r z hk'
  omega
 have:SetTable.below xs j=k:=by omega
 rw[this,Array.getElem?_eq_getElem hk',e']at h
 exact h rfl
theorem l0 {xs:Array Nat}(r:Rise xs){j:Nat}(hn:j∉xs.toList):Rise (SetTable.insertAt xs (SetTable.below xs j) j):=by
 obtain⟨a,b,c⟩:=iG r j
 unfold Rise
 rw[SetTable.toList_insertAt]
 have lo:∀ y∈xs.toList.take (SetTable.below xs j),y < j:=fun y hy=>by
  obtain⟨k,hk,e⟩:=List.getElem_of_mem hy
  rw[List.length_take]at hk
  have hk':k < xs.size:=by
   have:k < xs.toList.length:=by omega
   simpa using this
  rw[List.getElem_take]at e
  have:=a k hk' (by omega)
  have e':xs[k]=y:=by simpa using e
  omega
 have hi:∀ y∈xs.toList.drop (SetTable.below xs j),j < y:=fun y hy=>by
  obtain⟨k,hk,e⟩:=List.getElem_of_mem hy
  rw[List.length_drop]at hk
  rw[List.getElem_drop]at e
  have hk':SetTable.below xs j+k < xs.size:=by
   have:SetTable.below xs j+k < xs.toList.length:=by omega
   simpa using this
  have:=b _ hk' (by omega)
  have e':xs[SetTable.below xs j+k]=y:=by simpa using e
  have ne:y≠j:=fun z=>hn (by rw[← z];exact List.mem_of_mem_drop hy)
  omega
 refine List.pairwise_append.mpr ⟨r.sublist (List.take_sublist _ _),List.pairwise_cons.mpr ⟨hi,r.sublist (List.drop_sublist _ _)⟩,fun x hx y hy=>?_⟩
 rcases List.mem_cons.mp hy with rfl | hy
 ·exact lo x hx
 ·exact Nat.lt_trans (lo x hx) (hi y hy)
theorem cP (n:Nat):Rise (Array.range n):=by
 unfold Rise
 rw[Array.toList_range]
 exact List.pairwise_lt_range
theorem ek (t:SetTable)(p:SetTable.Probe):(t.advance p).dummy=p.dummy:=by
 unfold SetTable.advance
 split
 ·rfl
 ·rfl
theorem eJ {t:SetTable}(r:Rise t.place)(ha:Nat→Int)(h:Int):∀ (fuel:Nat) (p:SetTable.Probe) {j:Nat} {d:Option Nat},(∀ x,p.dummy=some x→x∉t.place.toList)→SetTable.probe.go t ha h fuel p=some (.empty j d)→d.getD j∉t.place.toList
 | 0,p,j,d,hp,e=>by simp[SetTable.probe.go]at e
 | fuel+1,p,j,d,hp,e=>by
  unfold SetTable.probe.go at e
  have nl:t.slot p.j≠.live (SetTable.below t.place p.j)→p.j∉t.place.toList:=fun hs=>pS r fun z=>hs (by unfold SetTable.slot;simp[z])
  split at e
  ·rename_i hs
   cases e
   cases hd:p.dummy with
   | none=>exact nl (by rw[hs];simp)
   | some x=>exact hp x hd
  ·rename_i hs
   refine eJ r ha h fuel _ (fun x hx=>?_) e
   rw[ek]at hx
   cases hx
   exact nl (by rw[hs];simp)
  ·split at e
   ·cases e
   ·refine eJ r ha h fuel _ (fun x hx=>?_) e
    rw[ek]at hx
    exact hp x hx
theorem jo {t:SetTable}(r:Rise t.place){h:Int}{slot:Nat}{w:Bool}(e:t.freeSlot h=some (slot,w)):slot∉t.place.toList:=by
 unfold SetTable.freeSlot at e
 split at e
 ·rename_i j d hp
  cases e
  exact eJ r _ h _ _ (fun x hx=>by simp[SetTable.probeStart]at hx) hp
 ·cases e
theorem kH {t:SetTable}(r:Rise t.place)(n:Nat):Rise (t.orStandIn n).place∧(t.orStandIn n).led=t.led:=by
 unfold SetTable.orStandIn
 split
 ·exact⟨r,rfl⟩
 ·exact⟨cP _,rfl⟩
theorem l3 {t:SetTable}{es:Array (Int×Value)}{h:Int}{x:Value}(r:Rise t.place):Rise (layNew t es h x).2.1.place∧(layNew t es h x).2.1.led=t.led:=by
 unfold layNew
 split
 ·rename_i slot w e
  have hn:=jo r e
  exact kH (t:=(t.put slot).1) (l0 r hn) _
 ·exact⟨cP _,rfl⟩
theorem nk {t:SetTable}{es:Array (Int×Value)}{n:Nat}:Rise (relayAll t es n).2.1.place∧(relayAll t es n).2.1.led=t.led:=by
 unfold relayAll
 split
 ·rename_i t' order e
  dsimp only
  split
  ·unfold SetTable.relaid SetTable.laid at e
   simp only[Option.bind_eq_bind,Option.bind_eq_some_iff,Option.pure_def,Option.some.injEq,Prod.mk.injEq]at e
   obtain⟨ow,_,rfl,_⟩:=e
   refine⟨?_,rfl⟩
   unfold Rise
   dsimp only
   rw[List.map_filterMap]
   refine List.Pairwise.filterMap _ (fun a a' hlt b hb b' hb'=>?_) List.pairwise_lt_range
   simp only[Option.map_map,Option.map_eq_some_iff]at hb hb'
   obtain⟨_,_,rfl⟩:=hb
   obtain⟨_,_,rfl⟩:=hb'
   exact hlt
  ·exact⟨cP _,rfl⟩
 ·exact⟨cP _,rfl⟩
section
variable {prog:Program}{w:World}{A:Around}{E:Value→Shared→Prop}{s:Shared}
abbrev byT (w:World):Bool:=w.params.followText "set-order"
def SetR (prog:Program)(w:World)(h:Heap)(a:Addr)(ns:List Int):Prop:=∃ o es ep t,h.get? a=some o∧o.ExactSet∧o.data=.set es ep t∧ElemsOf (intKind prog w) es.toList∧IntsAre (es.toList.map (·.2)) ns ∧
 es.size < scanBound∧t.fits es.size=true∧Rise t.place∧t.led = !byT w
theorem cQ {vs vs':List Value}(p:vs.Perm vs'):∀ {ns:List Int},IntsAre vs ns→∃ ns',IntsAre vs' ns'∧ns.Perm ns':=by
 induction p with
 | nil=>intro ns h;exact⟨ns,h,.refl _⟩
 | cons x _ ih =>
  intro ns h
  cases h with
  | cons n t hr =>
   obtain⟨ns',a,b⟩:=ih hr
   exact⟨n::ns',.cons n t a,b.cons n⟩
 | swap x y l =>
  intro ns h
  cases h with
  | cons n t hr =>
   cases hr with
   | cons m u hr=>exact⟨_,.cons m u (.cons n t hr),.swap m n _⟩
 | trans _ _ ih1 ih2 =>
  intro ns h
  obtain⟨n1,a,b⟩:=ih1 h
  obtain⟨n2,c,d⟩:=ih2 a
  exact⟨n2,c,b.trans d⟩
theorem gM:∀ {vs us:List Value} {ns ms:List Int},IntsAre vs ns→IntsAre us ms→IntsAre (vs++us) (ns++ms)
 | _,_,_,_,.nil,h=>h
 | _,_,_,_,.cons n t hr,h=>.cons n t (gM hr h)
theorem gN:∀ {vs:List Value} {ns:List Int} {v:Value},IntsAre vs ns→v∈vs→∃ n t,n∈ns∧v=.int n t
 | _,_,v,.nil,h=>nomatch h
 | _,_,v,.cons n t hr,h=>by
  rcases List.mem_cons.mp h with rfl | h
  ·exact⟨n,t,.head _,rfl⟩
  ·obtain⟨m,u,a,b⟩:=gN hr h
   exact⟨m,u,.tail _ a,b⟩
theorem fo:∀ {vs:List Value} {ns:List Int} {n:Int},IntsAre vs ns→n∈ns→∃ t,Value.int n t∈vs
 | _,_,n,.nil,h=>nomatch h
 | _,_,n,.cons m t hr,h=>by
  rcases List.mem_cons.mp h with rfl | h
  ·exact⟨t,.head _⟩
  ·obtain⟨u,a⟩:=fo hr h
   exact⟨u,.tail _ a⟩
theorem l4 {a:Addr}{ns ns':List Int}{es:Array (Int×Value)}{t:SetTable}{Q:Unit→Shared→Prop}(hS:SetR prog w s.heap a ns)(el:ElemsOf (intKind prog w) es.toList)(hI:IntsAre (es.toList.map (·.2)) ns')(hb:es.size < scanBound)(hf:t.fits es.size=true)(hr:Rise t.place)(hl:t.led = !byT w)
  (q:∀ h',Heap.SameBut a s.heap h'→SetR prog w h' a ns'→Q () { s with heap:=h' }):wpAny (model prog w) A (storeSet a es t) Q E s:=by
 rcases hS with ⟨o,es0,ep0,t0,ho,hx,hd,-⟩
 have hp:=putSet_of es t hd
 refine wpAny_storeSet_of ho hd (q _ (.update ..) ⟨_,es,ep0+1,t,Heap.get?_update_self _ ho ?_,?_,?_,el,hI,hb,hf,hr,hl⟩) (fits_of_scanBound hb)
 ·rw[hp];rfl
 ·rw[hp];exact hx
 ·rw[hp]
theorem nq {a:Addr}{ns ns':List Int}{es:Array (Int×Value)}{t:SetTable}{dum:Bool}{g:Bool→Sem Unit}{Q:Option Bool→Shared→Prop}(hg:∀ b (s:Shared) (Q:Unit→Shared→Prop),Q () s→wpAny (model prog w) A (g b) Q E s)(hS:SetR prog w s.heap a ns)(el:ElemsOf (intKind prog w) es.toList)(hI:IntsAre (es.toList.map (·.2)) ns')(hb:es.size < scanBound)(hf:t.fits es.size=true)(hr:Rise t.place)(hl:t.led = !byT w)
  (q:∀ h' ms,Heap.SameBut a s.heap h'→SetR prog w h' a ms→ms.Perm ns'→Q (some true) { s with heap:=h' }) :
  wpAny (model prog w) A (do
   storeSet a es t
   if !dum&&t.tooFull then
    let r:=relayAll t es (SetTable.grown es.size)
    g r.2.2
    storeSet a r.1 r.2.1
   return some true) Q E s:=by
 refine wpAny_bind (l4 hS el hI hb hf hr hl fun h1 k1 S1=>?_)
 by_cases c:(!dum&&t.tooFull)=true
 ·rw[if_pos c]
  dsimp only
  have pm:=relayAll_perm t es (SetTable.grown es.size)
  obtain⟨ms,mI,mp⟩:=cQ (pm.symm.map (·.2)) hI
  have sz:(relayAll t es (SetTable.grown es.size)).1.size < scanBound:=by
   have:=pm.length_eq
   simp only[Array.length_toList]at this
   omega
  obtain⟨r1,r2⟩:=nk (t:=t) (es:=es) (n:=SetTable.grown es.size)
  exact wpAny_bind (hg _ _ _ (wpAny_bind (l4 (s:={ s with heap:=h1 }) S1 (el.perm pm) mI sz (relayAll_fits ..) r1 (r2.trans hl) fun h2 k2 S2=>wpAny_pure (q h2 ms (k1.trans k2) S2 mp.symm))))
 ·rw[if_neg c]
  exact wpAny_bind (wpAny_pure (wpAny_pure (q h1 ns' k1 S1 (.refl _))))
theorem l5 {es:List (Int×Value)}{ns:List Int}{k:Int}(hI:IntsAre (es.map (·.2)) ns):(es.findIdx? fun e=>(intKind prog w).is k e.2)=none↔k∉ns:=by
 rw[List.findIdx?_eq_none_iff]
 constructor
 ·intro h z
  obtain⟨u,hu⟩:=fo hI z
  obtain⟨e,he,e2⟩:=List.mem_map.mp hu
  have:=h e he
  rw[e2,intKind_is]at this
  cases this
 ·intro h e he
  obtain⟨n,u,h1,h2⟩:=gN hI (List.mem_map.mpr ⟨e,he,rfl⟩)
  rw[h2]
  by_cases z:(intKind prog w).is k (.int n u)=true
  ·exact absurd ((intKind prog w).inj _ k n z (intKind_is _ _ _ _) ▸ h1) h
  ·simpa using z
theorem ss {a:Addr}{ns:List Int}{k:Int}{tk:Tok}{Q:Bool→Shared→Prop}(hS:SetR prog w s.heap a ns)(hroom:ns.length+1 < scanBound)
  (h:∀ h' ns' b,Heap.SameBut a s.heap h'→SetR prog w h' a ns'→ns'.Perm (if k∈ns then ns else k::ns)→Q b { s with heap:=h' }) :
  wpAny (model prog w) A (setAddHashed a (.int k tk) ((intKind prog w).hash k)) Q E s:=by
 have again:=hS
 rcases hS with ⟨o,es,ep,t,ho,hx,hd,el,hI,hb,hf,hr,hl⟩
 have hlen:es.size=ns.length:=by simpa using hI.length
 unfold setAddHashed setAddHashedIn
 refine wpAny_holding (wpAny_bind (wpAny_setState_of ho hd hf ?_))
 simp only[byScan_of (show (Value.int k tk).scannable=true from rfl) hb el,if_true]
 refine wpAny_bind ?_
 unfold setAddByScan
 refine wpAny_bind (wpAny_rule (wpAny_bind (wpAny_setScan_of (intKind_is _ _ _ _) ho hd hf el ?_)))
 cases f:es.toList.findIdx? fun e=>(intKind prog w).is k e.2 with
 | some j =>
  have m:k∈ns:=Decidable.byContradiction fun z=>by rw[(l5 hI).mpr z]at f;cases f
  exact wpAny_pure (wpAny_pure (h s.heap ns false (.refl ..) again (by rw[if_pos m])))
 | none =>
  have m:=(l5 hI).mp f
  rw[if_neg m]at h
  have lay:=And.intro (layNew_perm t es ((intKind prog w).hash k) (.int k tk)) (And.intro (layNew_fits t es ((intKind prog w).hash k) (.int k tk)) (l3 (t:=t) (es:=es) (h:=(intKind prog w).hash k) (x:=.int k tk) hr))
  dsimp only
  generalize layNew t es ((intKind prog w).hash k) (.int k tk)=z at lay ⊢
  obtain⟨es1,t1,dum,gv⟩:=z
  obtain⟨pm,ft,rs⟩:=lay
  dsimp only at pm ft rs ⊢
  rw[Array.toList_push]at pm
  have sz:=pm.length_eq
  simp only[Array.length_toList,List.length_append,List.length_singleton]at sz
  obtain⟨ms,mI,mp⟩:=cQ (pm.symm.map (·.2)) (ns:=ns++[k]) (by rw[List.map_append];exact gM hI (.cons k tk .nil))
  have mk:ms.Perm (k::ns):=mp.symm.trans List.perm_append_comm
  have hg:∀ b (s:Shared) (Q:Unit→Shared→Prop),Q () s→wpAny (model prog w) A (match b with | true=>rule "set.scan.the-table-gave-way" | false=>pure ()) Q E s:=by
   intro b s Q q
   cases b
   ·exact wpAny_pure q
   ·exact wpAny_rule q
  refine wpAny_bind (hg _ _ _ ?_)
  have go:=nq (A:=A) (E:=E) (s:=s) hg (dum:=dum) (Q:=fun r s'=>wpAny (model prog w) A (match r with | some added=>pure added | none=>setAddHashedIn a (.int k tk) ((intKind prog w).hash k) 99999) Q E s') again ((el.push (intKind_is _ _ _ _) rfl).perm pm) mI (by omega) ft rs.1 (rs.2.trans hl) fun h' ns' k' S' p'=>wpAny_pure (h h' ns' true k' S' (p'.trans mk))
  split
  ·refine wpAny_bind ?_
   rw[hashByValue_scannable 8 (show (Value.int k tk).scannable=true from rfl)]
   exact wpAny_pure go
  ·exact wpAny_bind (wpAny_pure go)
end
end FF
end
noncomputable section
namespace FF
open PySem PySem.Spec PyProof.Rows L2
theorem kI {k:Int}{ns ms:List Int}(hn:ns.Perm ms):(if k∈ns then ns else k::ns).Perm (if k∈ms then ms else k::ms):=by
 by_cases h:k∈ns
 ·rw[if_pos h,if_pos (hn.subset h)];exact hn
 ·rw[if_neg h,if_neg (fun z=>h (hn.symm.subset z))];exact hn.cons k
def addI (ms:List Int)(k:Int):List Int:=if k∈ms then ms else k::ms
def onceI (is:List Int):List Int:=is.foldl addI []
theorem su (ms:List Int)(k:Int):(addI ms k).length≤ms.length+1:=by unfold addI;split<;>simp<;>omega
theorem fq:∀ (is ms:List Int),(is.foldl addI ms).length≤ms.length+is.length
 | [],ms=>by simp
 | k::is,ms=>by
  have:=fq is (addI ms k)
  have:=su ms k
  rw[List.foldl_cons,List.length_cons];omega
theorem jS:∀ (is ms:List Int),ms.length≤(is.foldl addI ms).length
 | [],ms=>Nat.le_refl _
 | k::is,ms=>by
  have:=jS is (addI ms k)
  have:ms.length≤(addI ms k).length:=by unfold addI;split<;>simp
  rw[List.foldl_cons];omega
theorem pT (is:List Int)(i:Nat):((is.take i).foldl addI []).length≤(onceI is).length:=by
 have e:onceI is=(is.drop i).foldl addI ((is.take i).foldl addI []):=by
  unfold onceI
  rw[← List.foldl_append,List.take_append_drop]
 rw[e]
 exact jS _ _
section
variable {prog:Program}{w:World}{A:Around}{E:Value→Shared→Prop}{s:Shared}{R:Result→Shared→Prop}
theorem sv {S I l:Addr}{items:List Value}{is:List Int}(hh:A.in1.handled=none)(hlI:l≠I)(hSI:S≠I)(hSl:S≠l)(hI:IntsAre items is)(hb:(onceI is).length+1 < scanBound) :
  ∀ (k i:Nat) (s1:Shared) (ns:List Int),items.length - i=k→i≤items.length→s1.heap.IsListIter I l i→s1.heap.IsList l items.toArray→SetR prog w s1.heap S ns→ns.Perm ((is.take i).foldl addI []) →
   (∀ h' tk ns',(∀ b o,b≠S→b≠I→s1.heap.get? b=some o→h'.get? b=some o)→SetR prog w h' S ns'→ns'.Perm (onceI is)→R (.ok (.ret .none)) { s1 with heap:=h',toks:=tk }) →
   codeAny (model prog w) A (.builtin "set.update.loop" ⟨[.ref S,.ref I],[]⟩) R s1:=by
 have W:=Walks.list (prog:=prog) (w:=w) (A:=A.in1) hh I l hlI items.toArray
 have hz:items.toArray.size=items.length:=List.size_toArray ..
 have hlen:=hI.length
 intro k
 induction k with
 | zero =>
  intro i s1 ns hk hi it ls hS hp hR
  have e:i=items.length:=by omega
  subst e
  refine codeAny_builtin PyProof.Rows.F.entry_set_update_loop ?_
  rw[Around.under_plainId PyProof.Rows.F.plain_set_update_loop _]
  show wpAny _ A.in1 (pyNext (.ref I) >>= _) _ _ s1
  refine wpAny_bind (W.done s1 _ _ ⟨by rw[hz];exact it,ls⟩ fun h' tk kk=>?_)
  have hp':ns.Perm (onceI is):=by
   rw[hlen,List.take_length]at hp;exact hp
  obtain⟨o,es,ep,t,ho,rest⟩:=hS
  exact wpAny_pure (hR h' tk ns (fun b o h1 h2 e=>kk b o (by simpa using h2) e) ⟨o,es,ep,t,kk S o (by simpa using hSI) ho,rest⟩ hp')
 | succ k ih =>
  intro i s1 ns hk hi it ls hS hp hR
  have hlt:i < items.length:=by omega
  refine codeAny_builtin PyProof.Rows.F.entry_set_update_loop ?_
  rw[Around.under_plainId PyProof.Rows.F.plain_set_update_loop _]
  show wpAny _ A.in1 (pyNext (.ref I) >>= _) _ _ s1
  refine wpAny_bind (W.item i s1 _ _ (by rw[hz];exact hlt) ⟨it,ls⟩ fun v h' tk hP st' kk=>?_)
  obtain⟨t,rfl⟩:=IntsAre.int_at hI i v (by simpa using hP)
  have hSk:SetR prog w h' S ns:=by
   obtain⟨o,es,ep,tb,ho,rest⟩:=hS
   exact⟨o,es,ep,tb,kk S o (by simpa using hSI) ho,rest⟩
  show wpAny _ A.in1 (holding [Value.int (is.getD i 0) t] (setAdd S (.int (is.getD i 0) t)) >>= _) _ _ _
  refine wpAny_bind (wpAny_holding ?_)
  unfold setAdd
  refine wpAny_holding (wpAny_bind ((intKind prog w).pyHash (k:=is.getD i 0) (intKind_is _ _ _ _) ?_))
  have hroom:ns.length+1 < scanBound:=by
   have h1:=hp.length_eq
   have h2:=pT is i
   omega
  refine ss (s:={ s1 with heap:=h',toks:=tk+1 }) hSk hroom fun h2 ns' b sb hS2 hp2=>?_
  have hp3:ns'.Perm ((is.take (i+1)).foldl addI []):=by
   have hi':i < is.length:=by omega
   rw[List.take_succ,List.getElem?_eq_getElem hi',Option.toList_some,List.foldl_append]
   have e:is.getD i 0=is[i]:=by simp[List.getD,hi']
   rw[e]at hp2
   exact hp2.trans (kI hp)
  obtain⟨oI,e1,e2,e3⟩:=id st'.1
  refine wpAny_pure ⟨plainId_quiet PyProof.Rows.F.plain_set_update_loop _,ih (i+1) _ ns' (by omega) hlt ⟨oI,(sb.2 I (Ne.symm hSI)).trans e1,e2,e3⟩ ?_ hS2 hp3 fun h3 tk3 ns3 k3 a b=>hR h3 tk3 ns3 (fun b o h1 h2 e=>k3 b o h1 h2 ((sb.2 b h1).trans (kk b o (by simpa using h2) e))) a b⟩
  obtain⟨ol,f1,f2⟩:=id st'.2
  exact⟨ol,(sb.2 l (Ne.symm hSl)).trans f1,f2⟩
theorem callT {T nid iid:String}{xs:List Value}{M Q:Value→Shared→Prop}(ft:TypeCalled T nid iid)(hc:checkTypeCall T ⟨xs,[]⟩=pure ())
  (hn:codeAny (model prog w) A.in1 (.call (.builtin nid) ⟨.type T::xs,[]⟩) (wants M E) s)
  (hi:∀ v s1,M v s1→s1.TypeIs v T∧codeAny (model prog w) A.in1 (.call (.builtin iid) ⟨v::xs,[]⟩) (wants (fun r s2=>r=.none∧Q v s2) E) s1):wpAny (model prog w) A (call (.type T) xs) Q E s:=by
 rcases ft with ⟨f1,f2,⟨c,tl,f3⟩,f4,f5,f6,f7⟩
 have go:wpAny (model prog w) (A.under (.call (.type T) ⟨xs,[]⟩)) (callAny (.type T) ⟨xs,[]⟩) (fun fin s'=>match fin with | .done f=>wants Q E (.ok f) s' | .again c'=>c'.quiet=true∧codeAny (model prog w) A c' (wants Q E) s') (fun e s'=>wants Q E (.error e) s') s→wpAny (model prog w) A (call (.type T) xs) Q E s:=fun h=>wpAny_call (codeAny_of_tree h)
 refine go (wpAny_pure ⟨Code.quiet_builtin _ (by decide +kernel),codeAny_builtin PySem.F.entry_type_call ?_⟩)
 rw[Around.under_plain rfl rfl]
 wp_walk
 refine codeAny_mono hn fun r s1 hr=>?_
 rcases r with e | (_ | _ | _ | v)<;>try exact hr
 ·obtain⟨hT,hi⟩:=hi v s1 hr
  refine wpAny_bind (wpAny_isInstance hT f6 ?_)
  rw[if_neg (by decide)]
  refine wpAny_bind (wpAny_holding (wpAny_callSpecial?_slot hT f7 (wpAny_call (codeAny_mono hi fun r2 s2 h2=>?_))))
  rcases r2 with e | (_ | _ | _ | u)<;>try exact h2
  ·obtain⟨rfl,q⟩:=h2
   exact wpAny_pure q
theorem sw (x:Value){Q:Value→Shared→Prop}(h:Q (.ref s.heap.objs.size) { s with heap:=s.heap.push { cls:=.type "set",dict:=none,data:=.set #[] 0 (.fresh 0 0 (!byT w)) } }) :
  codeAny (model prog w) A (.call (.builtin "set.__new__") ⟨[.type "set",x],[]⟩) (wants Q E) s:=by
 refine codeAny_call_builtin PySem.F.plain_set_new PySem.F.entry_set_new (wpAny_of_eq (PySem.F.newCall_set_1 x) ?_)
 unfold Builtin.«set.__new__» Builtin.Frozenset.newClass
 have hs:=sub_set_self
 wp_walk
 exact wpAny_askSetting (wpAny_pure (wpAny_newObj_type (wpAny_pure h) (by size_fits)))
abbrev bare (w:World):Obj:={ cls:=.type "set",dict:=none,data:=.set #[] 0 (.fresh 0 0 (!byT w)) }
theorem pU {h:Heap}{S:Addr}(e:h.get? S=some (bare w)):SetR prog w h S []:=⟨_,#[],0,_,e,⟨rfl,rfl,rfl⟩,rfl,(fun e he=>by simp at he),.nil,by decide,rfl,List.Pairwise.nil,rfl⟩
theorem pV {S l:Addr}{items:List Value}{is:List Int}{Q:Shared→Prop}(hh:A.handled=none)(hS:s.heap.get? S=some (bare w))(hl:s.heap.IsList l items.toArray)(hI:IntsAre items is)(hb:(onceI is).length+1 < scanBound)
  (q:∀ h' tk ns,(∀ b o,b≠S→s.heap.get? b=some o→h'.get? b=some o)→SetR prog w h' S ns→ns.Perm (onceI is)→Q { s with heap:=h',toks:=tk }) :
  codeAny (model prog w) A (.call (.builtin "set.__init__") ⟨[.ref S,.ref l],[]⟩) (wants (fun r s'=>r=.none∧Q s') E) s:=by
 have hT:s.TypeIs (.ref S) "set" := ⟨_,hS,rfl⟩
 have hTl:s.TypeIs (.ref l) "list" := by
  rcases hl with ⟨o,ho,hc,-⟩
  exact⟨o,ho,hc⟩
 refine codeAny_call_builtin PySem.F.called_set.init.plain PySem.F.entry_set_init (check_set_init_1 hT ?_)
 unfold Builtin.«set.__init__» noKeywords
 wp_walk
 refine wpAny_of_eq PySem.F.sub_list_set (wpAny_isInstance hTl PySem.F.sub_list_frozenset ?_)
 rw[if_neg (by decide)]
 refine wpAny_bind (wpAny_typeOf hTl ?_)
 rw[if_neg (by decide)]
 have lt:S < s.heap.objs.size:=Heap.lt_size hS
 have ll:l < s.heap.objs.size:=by
  rcases hl with ⟨o,ho,-⟩
  exact Heap.lt_size ho
 have ne:S≠l:=fun e=>by
  rcases hl with ⟨o,ho,hc,-⟩
  rw[← e,hS,Option.some.injEq]at ho
  rw[← ho]at hc
  exact absurd hc (show ¬ Value.type "set"=Value.type "list" by decide)
 refine wpAny_bind (wpAny_pyIter_list hl (wpAny_bind (wpAny_runValue ?_)))
 refine sv (items:=items) (is:=is) (by simpa using hh) (Nat.ne_of_lt ll) (Nat.ne_of_lt lt) ne hI hb _ 0 _ [] rfl (Nat.zero_le _) ?_ ?_ ?_ (.refl _) fun h' tk ns k S' p=>?_
 ·exact⟨_,Heap.get?_push_size _ rfl,rfl,rfl⟩
 ·exact hl.push _
 ·exact pU (Heap.get?_push_of_some _ hS)
 exact wpAny_pure (wpAny_pure ⟨rfl,q h' tk ns (fun b o hb e=>k b o hb (Nat.ne_of_lt (Heap.lt_size e)) (Heap.get?_push_of_some _ e)) S' p⟩)
theorem pW {l:Addr}{items:List Value}{is:List Int}{Q:Value→Shared→Prop}(hh:A.handled=none)(hl:s.heap.IsList l items.toArray)(hI:IntsAre items is)(hb:(onceI is).length+1 < scanBound)
  (h:∀ (h':Heap) (tk:Nat) ns,SetR prog w h' s.heap.objs.size ns→ns.Perm (onceI is)→(∀ b o,b < s.heap.objs.size→s.heap.get? b=some o→h'.get? b=some o)→Q (.ref s.heap.objs.size) { s with heap:=h',toks:=tk }) :
  wpAny (model prog w) A (call (.type "set") [.ref l]) Q E s:=by
 refine callT (M:=fun v s1=>v=.ref s.heap.objs.size∧s1={ s with heap:=s.heap.push (bare w) }) PySem.F.called_set (PySem.F.typeCall_set_1 _) (sw _ ⟨rfl,rfl⟩) ?_
 rintro v s1 ⟨rfl,rfl⟩
 have e:(s.heap.push (bare w)).get? s.heap.objs.size=some (bare w):=Heap.get?_push_size _ rfl
 refine⟨⟨_,e,rfl⟩,pV (s:={ s with heap:=s.heap.push (bare w) }) (by simpa using hh) e (hl.push _) hI hb fun h' tk ns k S p=>h h' tk ns S p fun b o hb e=>k b o (Nat.ne_of_lt hb) (Heap.get?_push_of_some _ e)⟩
end
end FF
end
noncomputable section
namespace FF
open PySem PySem.Spec PyProof.Rows L2
theorem iH:entryFor table "set.__iter__"=some Builtin.«frozenset.__iter__»:=entryFor_alias (id' := "frozenset.__iter__") (by kernel_rfl) rfl (by decide +kernel) (by kernel_rfl)
theorem ao:Slot "set_iterator" "__next__" "set_iterator.__next__" :=
 .of (owner := "set_iterator") (n := "__next__") (by rw[typeLookup_type,builtinLookup_eq_fast];kernel_rfl) (by decide +kernel) (by decide +kernel) (by decide +kernel)
  (.inl (by decide +kernel)) (by rw[isSubtype_type];kernel_rfl)
theorem aK:entryFor table "set_iterator.__next__"=some Builtin.«set_iterator.__next__»:=entryFor_of_fast (by kernel_rfl)
theorem aQ (a:Value):argsOk "set_iterator.__next__" ⟨[a],[]⟩:=by unfold argsOk;kernel_rfl
theorem cc:Slot "set_iterator" "__iter__" "set_iterator.__iter__" :=
 .of (owner := "set_iterator") (n := "__iter__") (by rw[typeLookup_type,builtinLookup_eq_fast];kernel_rfl) (by decide +kernel) (by decide +kernel) (by decide +kernel)
  (.inl (by decide +kernel)) (by rw[isSubtype_type];kernel_rfl)
theorem eL {α:Type}:∀ (xs:List α) (i:Nat) (h:i < xs.length),(xs[i]::xs.eraseIdx i).Perm xs
 | x::xs,0,h=>.refl _
 | x::xs,i+1,h=>(List.Perm.swap x _ _).trans ((eL xs i (by simpa using h)).cons x)
theorem jT {α:Type}(next:Nat→Nat):∀ (fuel k:Nat) (left:List α) (out:Array α),fuel=left.length→(pickOrder.go next fuel k left out).toList.Perm (out.toList++left)
 | 0,k,left,out,h=>by
  have:left=[]:=List.length_eq_zero_iff.mp h.symm
  subst this
  simp[pickOrder.go]
 | fuel+1,k,left,out,h=>by
  have hl:0 < left.length:=by omega
  have hm:next k%left.length < left.length:=Nat.mod_lt _ hl
  unfold pickOrder.go
  rw[List.getElem?_eq_getElem hm]
  refine(jT next fuel (k+1) _ _ (by rw[List.length_eraseIdx_of_lt hm];omega)).trans ?_
  rw[Array.toList_push,List.append_assoc]
  refine List.Perm.append_left _ ?_
  show (left[next k%left.length]::left.eraseIdx (next k%left.length)).Perm left
  exact(eL _ _ hm)
section
variable {prog:Program}{w:World}{A:Around}{E:Value→Shared→Prop}{s:Shared}
theorem pX {src:Source}{n:Nat}{Q:Nat→Shared→Prop}(hn:n≠0)(h:∀ i,i < n→Q i { s with drawn:=s.drawn.bump src }):wpAny (model prog w) A (choose src n) Q E s :=
 fun Γ p hΓ=>⟨hn,h _ (Nat.mod_lt _ (by omega))⟩
theorem oD {α:Type}{Q:List α→Shared→Prop}:∀ (n:Nat) (xs:List α) (s:Shared),n=xs.length→(∀ ys d,ys.Perm xs→Q ys { s with drawn:=d })→wpAny (model prog w) A (drawOrder n xs) Q E s
 | 0,xs,s,hn,h=>by
  have:xs=[]:=List.length_eq_zero_iff.mp hn.symm
  subst this
  exact wpAny_pure (h [] s.drawn (.refl _))
 | n+1,[],s,hn,h=>by cases hn
 | n+1,x::xs,s,hn,h=>by
  unfold drawOrder
  refine wpAny_bind (pX (by simp) fun i hi=>?_)
  rw[List.getElem?_eq_getElem hi]
  refine wpAny_bind (oD n ((x::xs).eraseIdx i) _ (by rw[List.length_eraseIdx_of_lt hi];omega) fun ys d hp=>?_)
  exact wpAny_pure (h _ d ((hp.cons _).trans (eL _ _ hi)))
def itObj (first:Value)(i:Nat)(a:Addr)(n ep:Nat):Obj:={ cls:=.type "set_iterator",data:=.fields #[first,rawInt (i:Int),.ref a,rawInt (n:Int),rawInt (ep:Int)] }
theorem uT {h:Heap}{it:Addr}{first first':Value}{i j:Nat}{a:Addr}{n ep:Nat}(e:h.get? it=some (itObj first i a n ep)):((h.update it (Obj.mapFields (·.setIfInBounds 0 first'))).update it (Obj.mapFields (·.setIfInBounds 1 (rawInt (j:Int))))).get? it=some (itObj first' j a n ep):=by
 have e1:=Heap.get?_update_self (Obj.mapFields (·.setIfInBounds 0 first')) e rfl
 exact Heap.get?_update_self (Obj.mapFields (·.setIfInBounds 1 (rawInt (j:Int)))) e1 rfl
theorem sA {h:Heap}{it:Addr}{first:Value}{i j:Nat}{a:Addr}{n ep:Nat}(e:h.get? it=some (itObj first i a n ep)):(h.update it (Obj.mapFields (·.setIfInBounds 1 (rawInt (j:Int))))).get? it=some (itObj first j a n ep) :=
 Heap.get?_update_self (Obj.mapFields (·.setIfInBounds 1 (rawInt (j:Int)))) e rfl
theorem oE {α:Type}{Q:α→Shared→Prop}(hh:A.handled=none)(h:∀ h' v,Shared.TypeIs { s with heap:=h' } v "StopIteration" → (∀ b o,s.heap.get? b=some o→h'.get? b=some o)→E v { s with heap:=h' }) :
  wpAny (model prog w) A (do raiseNew (← newExc (.type "StopIteration") []):Sem α) Q E s:=by
 unfold newExc newTuple firstArgMember
 refine wpAny_bind (wpAny_bind (wpAny_newObj_type (wpAny_bind (wpAny_pure (wpAny_newObj_type (wpAny_raiseNew_none hh (h _ _ ⟨_,Heap.get?_push_size _ rfl,rfl⟩ fun b o e=>?_)) (by size_fits)))) (by size_fits)))
 exact Heap.get?_push_of_some _ (Heap.get?_push_of_some _ e)
theorem nr {it a:Addr}{sl i n ep:Nat}{es:Array (Int×Value)}{t:SetTable}{o:Obj}{v:Value}{nx:Nat}{Q:Option Value→Shared→Prop}(hit:s.heap.get? it=some (itObj (rawInt (sl:Int)) i a n ep))(ho:s.heap.get? a=some o)(hd:o.data=.set es ep t)(hf:t.fits es.size=true)(hn:es.size=n)
  (hx:∀ (Q:Option (Value×Nat)→Shared→Prop) (E:Value→Shared→Prop),Q (some (v,nx)) s→wpAny (model prog w) A.in1 (setNext a sl i ep) Q E s)
  (hQ:∀ h',h'.get? it=some (itObj (rawInt (nx:Int)) (i+1) a n ep)→Heap.SameBut it s.heap h'→Q (some v) { s with heap:=h' }):wpAny (model prog w) A (pyNext (.ref it)) Q E s:=by
 have hT:s.TypeIs (.ref it) "set_iterator" := ⟨_,hit,rfl⟩
 unfold pyNext
 refine wpAny_bind (wpAny_attempt (wpAny_callSpecial?_slot (name:=Str.ofString "__next__") hT ao (wpAny_call_entry ao hT aK ?_ (aQ _))))
 show wpAny _ _ (fieldsOf (.ref it) >>= _) _ _ s
 refine wpAny_bind (wpAny_fieldsOf hit rfl ?_)
 show wpAny _ _ (setEntries a >>= _) _ _ s
 refine wpAny_bind (wpAny_setEntries_of ho hd hf ?_)
 rw[if_neg (by rw[hn];simp)]
 show wpAny _ _ (setNext a ((sl:Int)).toNat ((i:Int)).toNat ((ep:Int)).toNat >>= _) _ _ s
 simp only[Int.toNat_natCast]
 refine wpAny_bind (hx _ _ ?_)
 have e1:(s.heap.update it (Obj.mapFields (·.setIfInBounds 0 (rawInt (nx:Int))))).get? it=some (itObj (rawInt (nx:Int)) i a n ep):=Heap.get?_update_self (Obj.mapFields (·.setIfInBounds 0 (rawInt (nx:Int)))) hit rfl
 refine wpAny_bind (wpAny_setField hit rfl (by simp) (wpAny_bind (wpAny_setField e1 rfl (by simp) (wpAny_pure ⟨v,rfl,wpAny_pure (hQ _ ?_ ((Heap.SameBut.update ..).trans (Heap.SameBut.update ..)))⟩))))
 have:=uT (first':=rawInt (nx:Int)) (j:=i+1) hit
 exact this
theorem pY {it a:Addr}{sl i n ep:Nat}{es:Array (Int×Value)}{t:SetTable}{o:Obj}{Q:Option Value→Shared→Prop}(hh:A.handled=none)(hit:s.heap.get? it=some (itObj (rawInt (sl:Int)) i a n ep))(ho:s.heap.get? a=some o)(hd:o.data=.set es ep t)(hf:t.fits es.size=true)(hn:es.size=n)
  (hx:∀ (Q:Option (Value×Nat)→Shared→Prop) (E:Value→Shared→Prop),Q none s→wpAny (model prog w) A.in1 (setNext a sl i ep) Q E s)
  (hQ:∀ h',Heap.ExtBut it s.heap h'→Q none { s with heap:=h' }):wpAny (model prog w) A (pyNext (.ref it)) Q E s:=by
 have hT:s.TypeIs (.ref it) "set_iterator" := ⟨_,hit,rfl⟩
 unfold pyNext
 refine wpAny_bind (wpAny_attempt (wpAny_callSpecial?_slot (name:=Str.ofString "__next__") hT ao (wpAny_call_entry ao hT aK ?_ (aQ _))))
 show wpAny _ _ (fieldsOf (.ref it) >>= _) _ _ s
 refine wpAny_bind (wpAny_fieldsOf hit rfl ?_)
 show wpAny _ _ (setEntries a >>= _) _ _ s
 refine wpAny_bind (wpAny_setEntries_of ho hd hf ?_)
 rw[if_neg (by rw[hn];simp)]
 show wpAny _ _ (setNext a ((sl:Int)).toNat ((i:Int)).toNat ((ep:Int)).toNat >>= _) _ _ s
 simp only[Int.toNat_natCast]
 refine wpAny_bind (hx _ _ ?_)
 refine wpAny_bind (wpAny_setField hit rfl (by simp) ?_)
 exact oE hh fun h' v hT k=>wpAny_bind (wpAny_isInstance hT isSubtype_stop (wpAny_pure (hQ h' fun b o hb e=>k b o ((Heap.SameBut.update ..).extBut b o hb e))))
theorem nu {it a tp:Addr}{i n ep:Nat}{es:Array (Int×Value)}{t:SetTable}{o:Obj}{v:Value}{pl:List Value}{q:Nat}{tq:Tok}{Q:Option Value→Shared→Prop}(hit:s.heap.get? it=some (itObj (.ref tp) i a n ep))(ht:IsTup s.heap tp pl.toArray)(hp:pl[i]?=some (.int (q:Int) tq))(ho:s.heap.get? a=some o)(hd:o.data=.set es ep t)(hf:t.fits es.size=true)(hn:es.size=n)(hv:(es[q]?).map (·.2)=some v)
  (hQ:∀ h',h'.get? it=some (itObj (.ref tp) (i+1) a n ep)→Heap.SameBut it s.heap h'→Q (some v) { s with heap:=h' }):wpAny (model prog w) A (pyNext (.ref it)) Q E s:=by
 have hT:s.TypeIs (.ref it) "set_iterator" := ⟨_,hit,rfl⟩
 obtain⟨ot,het,hct,nt,hdt⟩:=id ht
 unfold pyNext
 refine wpAny_bind (wpAny_attempt (wpAny_callSpecial?_slot (name:=Str.ofString "__next__") hT ao (wpAny_call_entry ao hT aK ?_ (aQ _))))
 show wpAny _ _ (fieldsOf (.ref it) >>= _) _ _ s
 refine wpAny_bind (wpAny_fieldsOf hit rfl ?_)
 show wpAny _ _ (setEntries a >>= _) _ _ s
 refine wpAny_bind (wpAny_setEntries_of ho hd hf ?_)
 rw[if_neg (by rw[hn];simp)]
 show wpAny _ _ (seqItems? (.ref tp) >>= _) _ _ s
 refine wpAny_bind (wpAny_seqItems het hdt ?_)
 have e1:pl.toArray[((i:Int)).toNat]?=some (.int (q:Int) tq):=by rw[Int.toNat_natCast];simpa using hp
 show wpAny _ _ (match pl.toArray[((i:Int)).toNat]? with | some (.int place _)=>_ | some _=>_ | none=>_) _ _ s
 rw[e1]
 show wpAny _ _ (setNextDrawn a ((q:Int)).toNat ((ep:Int)).toNat >>= _) _ _ s
 simp only[Int.toNat_natCast]
 cases eq:es[q]? with
 | none=>rw[eq]at hv;cases hv
 | some e =>
  rw[eq]at hv
  cases hv
  refine wpAny_bind ?_
  unfold setNextDrawn
  refine wpAny_bind (wpAny_setState_of ho hd hf ?_)
  dsimp only
  rw[if_neg (by simp),eq]
  refine wpAny_pure ?_
  refine wpAny_bind (wpAny_setField hit rfl (by simp) (wpAny_pure ⟨e.2,rfl,wpAny_pure (hQ _ ?_ (Heap.SameBut.update ..))⟩))
  have:=sA (j:=i+1) hit
  exact this
theorem pZ {it a tp:Addr}{i n ep:Nat}{es:Array (Int×Value)}{t:SetTable}{o:Obj}{pl:List Value}{Q:Option Value→Shared→Prop}(hh:A.handled=none)(hit:s.heap.get? it=some (itObj (.ref tp) i a n ep))(ht:IsTup s.heap tp pl.toArray)(hp:pl[i]?=none)(ho:s.heap.get? a=some o)(hd:o.data=.set es ep t)(hf:t.fits es.size=true)(hn:es.size=n)
  (hQ:∀ h',Heap.ExtBut it s.heap h'→Q none { s with heap:=h' }):wpAny (model prog w) A (pyNext (.ref it)) Q E s:=by
 have hT:s.TypeIs (.ref it) "set_iterator" := ⟨_,hit,rfl⟩
 obtain⟨ot,het,hct,nt,hdt⟩:=id ht
 unfold pyNext
 refine wpAny_bind (wpAny_attempt (wpAny_callSpecial?_slot (name:=Str.ofString "__next__") hT ao (wpAny_call_entry ao hT aK ?_ (aQ _))))
 show wpAny _ _ (fieldsOf (.ref it) >>= _) _ _ s
 refine wpAny_bind (wpAny_fieldsOf hit rfl ?_)
 show wpAny _ _ (setEntries a >>= _) _ _ s
 refine wpAny_bind (wpAny_setEntries_of ho hd hf ?_)
 rw[if_neg (by rw[hn];simp)]
 show wpAny _ _ (seqItems? (.ref tp) >>= _) _ _ s
 refine wpAny_bind (wpAny_seqItems het hdt ?_)
 have e1:pl.toArray[((i:Int)).toNat]?=none:=by rw[Int.toNat_natCast];simpa using hp
 show wpAny _ _ (match pl.toArray[((i:Int)).toNat]? with | some (.int place _)=>_ | some _=>_ | none=>_) _ _ s
 rw[e1]
 have f1:(s.heap.update it (Obj.mapFields (·.setIfInBounds 0 (rawInt 0)))).get? it=some (itObj (rawInt 0) i a n ep):=Heap.get?_update_self (Obj.mapFields (·.setIfInBounds 0 (rawInt 0))) hit rfl
 refine wpAny_bind (wpAny_setField hit rfl (by simp) (wpAny_bind (wpAny_setField f1 rfl (by simp) ?_)))
 exact oE hh fun h' v hT k=>wpAny_bind (wpAny_isInstance hT isSubtype_stop (wpAny_pure (hQ h' fun b o hb e=>k b o (((Heap.SameBut.update ..).trans (Heap.SameBut.update ..)).extBut b o hb e))))
end
end FF
end
noncomputable section
namespace FF
open PySem PySem.Spec PyProof.Rows L2
section
variable {prog:Program}{w:World}{A:Around}{E:Value→Shared→Prop}{s:Shared}
theorem kJ {a:Addr}{o:Obj}{es:Array (Int×Value)}{ep i sl:Nat}{t:SetTable}{Q:Option (Value×Nat)→Shared→Prop}(hb:byT w=true)(ho:s.heap.get? a=some o)(hd:o.data=.set es ep t)(hf:t.fits es.size=true)
  (h:Q (((pickOrder (w.params.setOrder a ep) es)[i]?).map fun e=>(e.2,sl)) s):wpAny (model prog w) A (setNext a sl i ep) Q E s:=by
 unfold setNext
 refine wpAny_bind (wpAny_setState_of ho hd hf ?_)
 dsimp only
 unfold setsByText
 refine wpAny_bind (wpAny_bind (wpAny_askSetting (wpAny_pure ?_)))
 rw[if_pos (show (model prog w).w.params.followText "set-order"=true from hb)]
 rw[if_neg (by simp)]
 refine wpAny_bind ?_
 unfold setWalk
 refine wpAny_bind (wpAny_setState_of ho hd hf ?_)
 dsimp only
 unfold setsByText
 refine wpAny_bind (wpAny_bind (wpAny_askSetting (wpAny_pure ?_)))
 rw[if_pos (show (model prog w).w.params.followText "set-order"=true from hb)]
 refine wpAny_bind (wpAny_askSetting (wpAny_pure ?_))
 exact wpAny_pure h
def slotAt (t:SetTable):Nat→Nat
 | 0=>0
 | i+1=>t.place.getD i 0+1
theorem sB {t:SetTable}(r:Rise t.place){i:Nat}(h:i≤t.place.size):SetTable.below t.place (slotAt t i)=i:=by
 obtain⟨a,b,c⟩:=iG r (slotAt t i)
 cases i with
 | zero =>
  have:¬ 0 < SetTable.below t.place (slotAt t 0):=fun z=>by
   have:=a 0 (by omega) z
   exact absurd this (Nat.not_lt_zero _)
  omega
 | succ i =>
  have hi:i < t.place.size:=by omega
  have e:slotAt t (i+1)=t.place[i]+1:=by show t.place.getD i 0+1=_;rw[hJ hi]
  have h1:¬ SetTable.below t.place (slotAt t (i+1))≤i:=fun z=>by
   have:=b i hi z;omega
  have h2:¬ i+1 < SetTable.below t.place (slotAt t (i+1)):=fun z=>by
   have hz:i+1 < t.place.size:=by omega
   have:=a (i+1) hz z
   have:=hU r (show i < i+1 by omega) hz
   omega
  omega
theorem jp {a:Addr}{o:Obj}{es:Array (Int×Value)}{ep i k:Nat}{t:SetTable}{Q:Option (Value×Nat)→Shared→Prop}(hb:byT w=false)(hdr:(!t.plain&&decide (es.size > 1))=false)(hl:t.led=true)(r:Rise t.place)(ho:s.heap.get? a=some o)(hd:o.data=.set es ep t)(hf:t.fits es.size=true)(hi:i≤es.size)
  (h:Q ((es[i]?).map fun e=>(e.2,slotAt t (i+1))) s):wpAny (model prog w) A (setNext a (slotAt t i) k ep) Q E s:=by
 have hsz:t.place.size=es.size:=by
  simp only[SetTable.fits,Bool.and_eq_true,beq_iff_eq]at hf
  exact hf.1
 unfold setNext
 refine wpAny_bind (wpAny_setState_of ho hd hf ?_)
 dsimp only
 unfold setsByText
 refine wpAny_bind (wpAny_bind (wpAny_askSetting (wpAny_pure ?_)))
 rw[if_neg (show ¬ (model prog w).w.params.followText "set-order"=true from by show ¬ byT w=true;rw[hb];decide)]
 show wpAny _ _ (if (!t.plain&&decide (es.size > 1))=true then _ else _) _ _ _
 rw[hdr,if_neg (by decide)]
 refine wpAny_bind ?_
 show wpAny _ _ (if (!t.led && !es.isEmpty)=true then _ else pure ()) _ _ _
 rw[hl,if_neg (by simp)]
 refine wpAny_pure ?_
 rw[sB r (by omega)]
 cases e:es[i]? with
 | none =>
  rw[e]at h
  exact wpAny_pure h
 | some x =>
  rw[e]at h
  have hlt:i < t.place.size:=by rw[hsz];exact(Array.getElem?_eq_some_iff.mp e).1
  have ep':t.place[i]?=some t.place[i]:=Array.getElem?_eq_getElem hlt
  have es':slotAt t (i+1)=t.place[i]+1:=by show t.place.getD i 0+1=_;rw[hJ hlt]
  rw[ep']
  rw[es']at h
  exact wpAny_pure h
theorem gO {it:Addr}{h h':Heap}(e:Heap.ExtBut it h h'):∀ b o,b∉[it]→h.get? b=some o→h'.get? b=some o:=fun b o hb q=>e b o (by simpa using hb) q
theorem eM:entryFor table "set_iterator.__iter__"=some Builtin.«dict_keyiterator.__iter__»:=entryFor_alias (id' := "dict_keyiterator.__iter__") (by kernel_rfl) rfl (by decide +kernel) (by kernel_rfl)
theorem fr (a:Value):argsOk "set_iterator.__iter__" ⟨[a],[]⟩:=by unfold argsOk;kernel_rfl
theorem fv {it a:Addr}{first:Value}{i n ep:Nat}{Q:Value→Shared→Prop}(hit:s.heap.get? it=some (itObj first i a n ep))(hQ:Q (.ref it) s):wpAny (model prog w) A (pyIter (.ref it)) Q E s:=by
 have hT:s.TypeIs (.ref it) "set_iterator" := ⟨_,hit,rfl⟩
 refine wpAny_pyIter_slot hT cc (wpAny_call_entry cc hT eM ?_ (fr _))
 show wpAny _ _ (ret (.ref it)) _ _ s
 exact wpAny_pure ⟨_,rfl,"set_iterator",_,hT,ao.lookup,hQ⟩
theorem iI (hh:A.handled=none){it a:Addr}{o:Obj}{es:Array (Int×Value)}{ep:Nat}{t:SetTable}{sl:Nat→Nat}{vs:List Value}(hia:it≠a)(hd:o.data=.set es ep t)(hf:t.fits es.size=true)(hn:vs.length=es.size)
  (hx:∀ (i:Nat),i≤es.size→∀ (A:Around) (E:Value→Shared→Prop) (s:Shared) (Q:Option (Value×Nat)→Shared→Prop),s.heap.get? a=some o→Q ((vs[i]?).map fun v=>(v,sl (i+1))) s→wpAny (model prog w) A (setNext a (sl i) i ep) Q E s) :
  Walks prog w A it [it,a] [it] es.size (fun i v=>vs[i]?=some v) (fun i h=>h.get? it=some (itObj (rawInt (sl i:Int)) i a es.size ep)∧h.get? a=some o) where
 sub:=fun b hb=>by simp at hb;simp[hb]
 frame:=fun i h h' st k=>⟨k it (by simp) _ st.1,k a (by simp) _ st.2⟩
 item:=fun i s Q E hi st hQ=>by
  have ei:vs[i]?=some (vs[i]'(by omega)):=List.getElem?_eq_getElem _
  refine nr (v:=vs[i]'(by omega)) (nx:=sl (i+1)) st.1 st.2 hd hf rfl (fun Q' E' q=>hx i (by omega) _ _ _ _ st.2 (by rw[ei];exact q)) fun h' a1 a2=>?_
  exact hQ _ h' s.toks ei ⟨a1,(a2.2 a (Ne.symm hia)).trans st.2⟩ fun b o hb e=>(a2.2 b (by simpa using hb)).trans e
 done:=fun s Q E st hQ=>by
  have ei:vs[es.size]?=none:=List.getElem?_eq_none (by omega)
  refine pY hh st.1 st.2 hd hf rfl (fun Q' E' q=>hx es.size (Nat.le_refl _) _ _ _ _ st.2 (by rw[ei];exact q)) fun h' e=>?_
  exact hQ h' s.toks (gO e)
 self:=fun i s Q E st hQ=>fv st.1 hQ
end
end FF
end
noncomputable section
namespace FF
open PySem PySem.Spec PyProof.Rows L2
section
variable {prog:Program}{w:World}{A:Around}{E:Value→Shared→Prop}{s:Shared}
theorem l6 {h h':Heap}{tp:Addr}{xs:Array Value}(t:IsTup h tp xs)(k:∀ o,h.get? tp=some o→h'.get? tp=some o):IsTup h' tp xs:=by
 rcases t with ⟨o,e,r⟩
 exact⟨o,k o e,r⟩
theorem nv (hh:A.handled=none){it a tp:Addr}{o:Obj}{es:Array (Int×Value)}{ep:Nat}{t:SetTable}{ys:List Nat}{vs:List Value}(hia:it≠a)(hit:it≠tp)(hd:o.data=.set es ep t)(hf:t.fits es.size=true)(hn:vs.length=ys.length)
  (hv:∀ (i q:Nat),ys[i]?=some q→(es[q]?).map (fun e=>e.2)=vs[i]?) :
  Walks prog w A it [it,a,tp] [it] vs.length (fun i v=>vs[i]?=some v) (fun i h=>h.get? it=some (itObj (.ref tp) i a es.size ep)∧h.get? a=some o∧IsTup h tp (ys.map fun (q:Nat)=>rawInt (q:Int)).toArray) where
 sub:=fun b hb=>by simp at hb;simp[hb]
 frame:=fun i h h' st k=>⟨k it (by simp) _ st.1,k a (by simp) _ st.2.1,l6 st.2.2 fun o e=>k tp (by simp) o e⟩
 item:=fun i s Q E hi st hQ=>by
  have hy:ys[i]?=some (ys[i]'(by omega)):=List.getElem?_eq_getElem _
  have ei:vs[i]?=some (vs[i]'hi):=List.getElem?_eq_getElem _
  refine nu (q:=ys[i]'(by omega)) (v:=vs[i]'hi) st.1 st.2.2 (by rw[List.getElem?_map,hy];rfl) st.2.1 hd hf rfl (by rw[hv i _ hy,ei]) fun h' a1 a2=>?_
  exact hQ _ h' s.toks ei ⟨a1,(a2.2 a (Ne.symm hia)).trans st.2.1,l6 st.2.2 fun o e=>(a2.2 tp (Ne.symm hit)).trans e⟩ fun b o hb e=>(a2.2 b (by simpa using hb)).trans e
 done:=fun s Q E st hQ=>by
  refine pZ hh st.1 st.2.2 (by rw[List.getElem?_map,List.getElem?_eq_none (by omega)];rfl) st.2.1 hd hf rfl fun h' e=>?_
  exact hQ h' s.toks (gO e)
 self:=fun i s Q E st hQ=>fv st.1 hQ
def Goes (prog:Program)(w:World)(A:Around)(n0:Nat)(a:Addr)(h:Heap)(it:Addr)(ms:List Int):Prop :=
 ∃ (fp:List Addr) (vs:List Value) (St:Nat→Heap→Prop),Walks prog w A it fp [it] vs.length (fun i v=>vs[i]?=some v) St∧IntsAre vs ms∧St 0 h∧∀ b∈fp,b < h.objs.size∧(b=a∨n0≤b)
theorem dc {vs vs':List Value}{ns:List Int}(p:vs.Perm vs')(h:IntsAre vs ns):∃ ms,IntsAre vs' ms∧ms.Perm ns:=by
 obtain⟨ms,a,b⟩:=cQ p h
 exact⟨ms,a,b.symm⟩
theorem p5 {es:Array (Int×Value)}{ys:List Nat}(p:ys.Perm (List.range es.size)):(es.toList.map (·.2)).Perm (ys.map fun q=>(es.getD q default).2):=by
 have e:es.toList.map (·.2)=(List.range es.size).map fun q=>(es.getD q default).2:=by
  apply List.ext_getElem
  ·simp
  ·intro i h1 h2
   have:i < es.size:=by simpa using h1
   simp[Array.getD,this]
 rw[e]
 exact(p.map _).symm
theorem p6 {a:Addr}{ns:List Int}{Q:Value→Shared→Prop}(hS:SetR prog w s.heap a ns)
  (q:∀ h' d it ms,(∀ b o,s.heap.get? b=some o→h'.get? b=some o)→s.heap.objs.size≤it→ms.Perm ns→(∀ A:Around,A.handled=none→Goes prog w A s.heap.objs.size a h' it ms)→Q (.ref it) { s with heap:=h',drawn:=d }) :
  wpAny (model prog w) A (pyIter (.ref a)) Q E s:=by
 rcases hS with ⟨o,es,ep,t,ho,hx,hd,el,hI,hb,hf,hr,hl⟩
 have hT:s.TypeIs (.ref a) "set" := ⟨o,ho,hx.1⟩
 have la:a < s.heap.objs.size:=Heap.lt_size ho
 refine wpAny_pyIter_slot hT PySem.F.slot_set_iter (wpAny_call_entry PySem.F.slot_set_iter hT iH ?_ (PySem.F.args_set_iter_1 _))
 unfold Builtin.«frozenset.__iter__» Builtin.Frozenset.slot0 slotArgs Builtin.Frozenset.sizeOf Builtin.Frozenset.addrOf setDrawn setEpoch setsByText
 refine wpAny_bind (wpAny_bind (wpAny_pure (wpAny_pure ?_)))
 refine wpAny_bind (wpAny_bind (wpAny_setEntries_of ho hd hf (wpAny_pure ?_)))
 refine wpAny_bind (wpAny_bind (wpAny_setState_of ho hd hf (wpAny_bind (wpAny_bind (wpAny_askSetting (wpAny_pure ?_))))))
 refine wpAny_pure ?_
 have fin:∀ (first:Value) (s1:Shared),s1.heap.get? a=some o→Q (.ref s1.heap.objs.size) { s1 with heap:=s1.heap.push (itObj first 0 a es.size ep) } →
   wpAny (model prog w) A.in1 (do let e ← (do let x ← setState a;pure x.2.1);let v ← newFields "set_iterator" [first,rawInt 0,.ref a,rawInt (es.size:Int),rawInt (e:Int)];ret v) (fun fin s'=>∃ v,fin=.done (.ret v)∧∃ T' r,s'.TypeIs v T'∧typeLookup (.type T') "__next__"=pure (some r)∧Q v s') E s1:=by
  intro first s1 e1 hq
  refine wpAny_bind (wpAny_bind (wpAny_setState_of e1 hd hf (wpAny_pure ?_)))
  refine wpAny_bind (wpAny_newObj_type ?_ (by size_fits))
  exact wpAny_pure ⟨_,rfl,"set_iterator",_,⟨_,Heap.get?_push_size _ rfl,rfl⟩,ao.lookup,hq⟩
 have ne:∀ {h:Heap},a < h.objs.size→h.objs.size≠a:=fun l=>Nat.ne_of_gt l
 show wpAny _ _ (if (!byT w&&(!t.plain&&decide (es.size > 1)))=true then _ else _) _ _ s
 by_cases c:(!byT w&&(!t.plain&&decide (es.size > 1)))=true
 ·rw[if_pos c]
  refine wpAny_bind (oD _ _ s (by simp) fun ys d p=>?_)
  have ly:ys.length=es.size:=by have:=p.length_eq;simpa using this
  refine wpAny_bind (wpAny_newTuple ?_ (by rw[List.length_map,ly];have:=fits_of_scanBound hb;exact this))
  obtain⟨ms,mI,mp⟩:=dc (p5 p) hI
  have e1:(s.heap.push { cls:=.type "tuple",data:=.seq (ys.map fun (q:Nat)=>rawInt (q:Int)).toArray }).get? a=some o:=Heap.get?_push_of_some _ ho
  refine fin _ _ e1 (q _ d _ ms (fun b o e=>Heap.get?_push_of_some _ (Heap.get?_push_of_some _ e)) ?_ mp fun A hh=>?_)
  ·show s.heap.objs.size≤(s.heap.push _).objs.size
   rw[size_push'];exact Nat.le_succ _
  ·refine⟨_,_,_,nv hh (t:=t) (ys:=ys) (es:=es) (ep:=ep) (o:=o) (a:=a) (tp:=s.heap.objs.size) ?_ ?_ hd hf (by simp) ?_,mI,⟨Heap.get?_push_size _ rfl,Heap.get?_push_of_some _ e1,⟨_,Heap.get?_push_of_some _ (Heap.get?_push_size _ rfl),rfl,_,rfl⟩⟩,?_⟩
   ·exact ne (Heap.lt_size e1)
   ·show (s.heap.push _).objs.size≠_
    rw[size_push'];exact Nat.succ_ne_self _
   ·intro i q hq
    have hm:q∈List.range es.size:=p.subset (List.mem_of_getElem? hq)
    have hlt:q < es.size:=List.mem_range.mp hm
    rw[List.getElem?_map,hq]
    simp[Array.getD,hlt]
   ·intro b hb
    show b < ((s.heap.push _).push _).objs.size∧_
    rw[size_push',size_push']
    rcases List.mem_cons.mp hb with rfl | hb
    ·show (s.heap.push _).objs.size < _∧(_∨s.heap.objs.size≤(s.heap.push _).objs.size)
     rw[size_push'];exact⟨Nat.lt_succ_self _,.inr (Nat.le_succ _)⟩
    ·rcases List.mem_cons.mp hb with rfl | hb
     ·exact⟨Nat.lt_succ_of_lt (Nat.lt_succ_of_lt la),.inl rfl⟩
     ·rcases List.mem_cons.mp hb with rfl | hb
      ·exact⟨Nat.lt_succ_of_lt (Nat.lt_succ_self _),.inr (Nat.le_refl _)⟩
      ·cases hb
 ·rw[if_neg c]
  refine wpAny_bind (wpAny_pure ?_)
  have low:∀ b∈[s.heap.objs.size,a],b < (s.heap.push (itObj (rawInt 0) 0 a es.size ep)).objs.size∧(b=a∨s.heap.objs.size≤b):=by
   intro b hb
   rw[size_push']
   rcases List.mem_cons.mp hb with rfl | hb
   ·exact⟨Nat.lt_succ_self _,.inr (Nat.le_refl _)⟩
   ·rcases List.mem_cons.mp hb with rfl | hb
    ·exact⟨Nat.lt_succ_of_lt la,.inl rfl⟩
    ·cases hb
  by_cases bt:byT w=true
  ·have pp:=jT (w.params.setOrder a ep) es.size 0 es.toList #[] (by simp)
   have pq:(pickOrder (w.params.setOrder a ep) es).toList.Perm es.toList:=by unfold pickOrder;simpa using pp
   obtain⟨ms,mI,mp⟩:=dc (pq.symm.map (·.2)) hI
   have lv:((pickOrder (w.params.setOrder a ep) es).toList.map (·.2)).length=es.size:=by rw[List.length_map,pq.length_eq,Array.length_toList]
   refine fin _ _ ho (q _ s.drawn _ ms (fun b o e=>Heap.get?_push_of_some _ e) (Nat.le_refl _) mp fun A hh=>⟨_,_,fun i h=>h.get? s.heap.objs.size=some (itObj (rawInt ((0:Nat):Int)) i a es.size ep)∧h.get? a=some o,?_,mI,?_,low⟩)
   ·have W:=iI hh (prog:=prog) (w:=w) (it:=s.heap.objs.size) (a:=a) (sl:=fun _=>0) (vs:=(pickOrder (w.params.setOrder a ep) es).toList.map (·.2)) (ne la) hd hf lv fun i hi A E s Q e hq=>kJ bt e hd hf (by
     have e2:(((pickOrder (w.params.setOrder a ep) es).toList.map (·.2))[i]?).map (fun v=>(v,0))=((pickOrder (w.params.setOrder a ep) es)[i]?).map fun e=>(e.2,0):=by simp[Function.comp_def]
     rw[← e2];exact hq)
    rw[lv]
    exact W
   ·exact⟨Heap.get?_push_size _ rfl,Heap.get?_push_of_some _ ho⟩
  ·have bf:byT w=false:=by simpa using bt
   have lv:(es.toList.map (·.2)).length=es.size:=by simp
   refine fin _ _ ho (q _ s.drawn _ ns (fun b o e=>Heap.get?_push_of_some _ e) (Nat.le_refl _) (.refl _) fun A hh=>⟨_,_,fun i h=>h.get? s.heap.objs.size=some (itObj (rawInt ((slotAt t i:Nat):Int)) i a es.size ep)∧h.get? a=some o,?_,hI,?_,low⟩)
   ·have W:=iI hh (prog:=prog) (w:=w) (it:=s.heap.objs.size) (a:=a) (sl:=slotAt t) (vs:=es.toList.map (·.2)) (ne la) hd hf lv fun i hi A E s Q e hq=>jp bf (by simpa [bf] using c) (by rw[hl,bf];rfl) hr e hd hf hi (by
     have e2:((es.toList.map (·.2))[i]?).map (fun v=>(v,slotAt t (i+1)))=(es[i]?).map fun e=>(e.2,slotAt t (i+1)):=by simp[Function.comp_def]
     rw[← e2];exact hq)
    rw[lv]
    exact W
   ·exact⟨Heap.get?_push_size _ rfl,Heap.get?_push_of_some _ ho⟩
end
end FF
end
noncomputable section
namespace FF
open PySem PySem.Spec PyProof.Rows L2
section
variable {prog:Program}{w:World}{A:Around}{E:Value→Shared→Prop}{s:Shared}
abbrev lobj (xs:Array Value)(c:Nat):Obj:={ cls:=.type "list",dict:=none,data:=.seq xs c,slots:=#[] }
theorem sC {S:Addr}{c:Nat}{Q:Unit→Shared→Prop}(hS:s.heap.get? S=some (lobj #[] c))(q:∀ h' c',Heap.SameBut S s.heap h'→h'.get? S=some (lobj #[] c')→Q () { s with heap:=h' }) :
  wpAny (model prog w) A (Builtin.List.listTouch (.ref S)) Q E s:=by
 have e1:=Heap.get?_update_self (Obj.mapSeq (·.push Value.none)) hS rfl
 have e2:=Heap.get?_update_self (Obj.mapSeq (·.pop)) e1 rfl
 have go:wpAny (model prog w) A (updateSeq S (·.push .none) >>= fun _=>updateSeq S (·.pop)) Q E s :=
  wpAny_bind (wpAny_updateSeq hS rfl (wpAny_updateSeq e1 rfl (q _ _ ((Heap.SameBut.update ..).trans (Heap.SameBut.update ..)) e2)))
 exact go
theorem sD {a:Addr}{Q:Bool→Shared→Prop}(hT:s.TypeIs (.ref a) "set")(q:Q false s):wpAny (model prog w) A (Builtin.List.listLengthHint (.ref a)) Q E s:=by
 unfold Builtin.List.listLengthHint
 refine wpAny_bind (wpAny_specialOf hT PySem.F.slot_set_len.lookup ?_)
 have e1:splitId "set.__len__"=some ("set","__len__"):=by decide +kernel
 dsimp only
 rw[e1]
 refine wpAny_bind (wpAny_isInstance hT sub_set_self ?_)
 rw[if_neg (by decide),if_pos (by decide +kernel)]
 exact wpAny_bind (wpAny_typeOf hT (wpAny_pure q))
theorem nw {vs:List Value}{acc:Array Value}(h:ItemsOf (fun i v=>vs[i]?=some v) acc vs.length):acc.toList=vs:=by
 apply List.ext_getElem?
 intro i
 by_cases c:i < acc.size
 ·rw[Array.getElem?_toList,Array.getElem?_eq_getElem c]
  exact(h.2 i _ (Array.getElem?_eq_getElem c)).symm
 ·have:=h.1
  rw[List.getElem?_eq_none (by simp;omega),List.getElem?_eq_none (by omega)]
theorem p7 {S a:Addr}{ns:List Int}{c:Nat}{R:Result→Shared→Prop}(hh:A.handled=none)(hn:ns.length≤sizeLine)(hS:SetR prog w s.heap a ns)(hl:s.heap.get? S=some (lobj #[] c))
  (q:∀ h' d tk vs ms c',(∀ b o,b≠S→s.heap.get? b=some o→h'.get? b=some o)→IntsAre vs ms→ms.Perm ns→h'.get? S=some (lobj vs.toArray c')→R (.ok (.ret (.ref S))) { s with heap:=h',drawn:=d,toks:=tk }) :
  codeAny (model prog w) A (.builtin "list.__iadd__" ⟨[.ref S,.ref a],[]⟩) R s:=by
 have hT:s.TypeIs (.ref a) "set" := by
  rcases hS with ⟨o,-,-,-,ho,hx,-⟩
  exact⟨o,ho,hx.1⟩
 have ne:S≠a:=fun e=>by
  rcases hT with ⟨o,ho,hc⟩
  rw[← e,hl,Option.some.injEq]at ho
  rw[← ho]at hc
  exact absurd hc (show ¬ Value.type "list"=Value.type "set" by decide)
 refine codeAny_builtin PySem.F.entry_list_iadd ?_
 rw[Around.under_plainId PySem.F.plain_list_iadd _]
 have go:wpAny (model prog w) A.in1 (Builtin.List.listExtendWith (.ref S) (.ref a) (.ref S)) (fun fin s'=>match fin with | .done f=>R (.ok f) s' | .again c'=>c'.quiet=true∧codeAny (model prog w) A c' R s') (fun e s'=>R (.error e) s') s:=by
  unfold Builtin.List.listExtendWith
  refine wpAny_bind (wpAny_typeOf hT ?_)
  rw[if_neg (by simp[Builtin.List.listSameRef,ne])]
  refine wpAny_bind (p6 hS fun h1 d it ms k1 li mp go=>?_)
  refine wpAny_bind (wpAny_holding (sD (hT.imp fun o h=>⟨k1 _ _ h.1,h.2⟩) ?_))
  rw[if_pos (by decide +kernel)]
  refine wpAny_bind (wpAny_rule (wpAny_bind (sC (s:={ s with heap:=h1,drawn:=d }) (k1 _ _ hl) fun h2 c2 k2 e2=>?_)))
  obtain⟨fp,vs,St,W,vI,st,lo⟩:=go A.in1 (by simpa using hh)
  have lS:S < s.heap.objs.size:=Heap.lt_size hl
  have fS:S∉fp:=fun z=>by
   rcases(lo S z).2 with e | e
   ·exact ne e
   ·exact absurd lS (Nat.not_lt_of_le e)
  have iS:S≠it:=Nat.ne_of_lt (Nat.lt_of_lt_of_le lS li)
  have lv:vs.length=ms.length:=vI.length
  refine wpAny_pure ⟨plainId_quiet PySem.F.plain_extend_loop _,codeAny_extend_loopS W.toS (by rw[lv,mp.length_eq];exact hn) S fS (.ref S) _ 0 _ #[] c2 rfl (Nat.zero_le _) (W.frame 0 h1 h2 st fun b hb o e=>(k2.2 b fun z=>fS (z ▸ hb)).trans e) e2 (ItemsOf.nil _) fun s' acc c' mv e3 it3=>?_⟩
  have ea:acc=vs.toArray:=by rw[← nw it3]
  obtain⟨h3,g3,d3,t3,o3⟩:=s'
  have m1:=mv.gens
  have m2:=mv.drawn
  have m3:=mv.os
  dsimp only at m1 m2 m3
  subst m1;subst m2;subst m3
  rw[ea]at e3
  refine q h3 _ t3 vs ms c' (fun b o hb e=>?_) vI mp e3
  by_cases z:b=it
  ·subst z
   exact absurd (Heap.lt_size e) (Nat.not_lt_of_le li)
  ·exact mv.heap b o (by simp[hb,z]) ((k2.2 b hb).trans (k1 b o e))
 exact go
theorem kK {a:Addr}{ns:List Int}{Q:List Value→Shared→Prop}(hh:A.handled=none)(hn:ns.length≤sizeLine)(hS:SetR prog w s.heap a ns)
  (q:∀ h' d tk vs ms,(∀ b o,s.heap.get? b=some o→h'.get? b=some o)→IntsAre vs ms→ms.Perm ns→Q vs { s with heap:=h',drawn:=d,toks:=tk }):wpAny (model prog w) A (collect (.ref a)) Q E s:=by
 unfold collect
 refine wpAny_bind (wpAny_runValue (codeAny_builtin PySem.F.entry_proto_collect ?_))
 rw[Around.under_plainId PySem.F.plain_proto_collect _]
 unfold Builtin.«proto.collect»
 have hS1:SetR prog w (s.heap.push (lobj #[] 0)) a ns:=by
  rcases hS with ⟨o,es,ep,t,ho,r⟩
  exact⟨o,es,ep,t,Heap.get?_push_of_some _ ho,r⟩
 refine wpAny_bind (wpAny_newList (wpAny_pure ⟨plainId_quiet PySem.F.plain_list_iadd _,p7 (by simpa using hh) hn hS1 (Heap.get?_push_size _ rfl) fun h' d tk vs ms c' k vI mp e=>?_⟩))
 refine wpAny_bind (wpAny_load e (wpAny_pure ?_))
 exact q h' d tk vs ms (fun b o z=>k b o (Nat.ne_of_lt (Heap.lt_size z)) (Heap.get?_push_of_some _ z)) vI mp
end
end FF
end
noncomputable section
namespace FF
open PySem PySem.Spec PyProof.Rows L2
def dSortS:List D→R D
 | [.lst xs]=>match intsOf xs with
  | some is=>if (onceI is).length < 64 then .ok (.lst ((sortI (onceI is)).map .int)) else .stuck
  | none=>.stuck
 | _=>.stuck
section
variable {prog:Program}{w:World}{A:Around}{E:Value→Shared→Prop}{s:Shared}
theorem l7 {a:Addr}{ns:List Int}{Q:Value→Shared→Prop}(hh:A.handled=none)(h64:ns.length < 64)(hS:SetR prog w s.heap a ns)
  (q:∀ (h1 h':Heap) d tk vs n,(∀ b o,s.heap.get? b=some o→h1.get? b=some o)→(∀ b o,h1.get? b=some o→h'.get? b=some o)→IntsAre vs (sortI ns)→h'.get? h1.objs.size=some (seqObj "list" vs.toArray n)→Q (.ref h1.objs.size) { s with heap:=h',drawn:=d,toks:=tk }) :
  wpAny (model prog w) A (call (.builtin "sorted") [.ref a]) Q E s:=by
 refine Calls.call_function_entry kind_sorted plain_sorted entry_sorted (args_sorted1 _) ?_
 have go:wpAny (model prog w) A.in1 (collect (.ref a) >>= fun xs=>newList xs >>= fun l=>holding [l] (call (.builtin "list.sort") [l]) >>= fun _=>ret l) (fun fin s'=>∃ v,fin=.done (.ret v)∧Q v s') E s:=by
  refine wpAny_bind (kK (by simpa using hh) (by rw[sizeLine_eq];omega) hS fun h1 d tk vs ms k vI mp=>?_)
  have lv:vs.length < 64:=by rw[vI.length,mp.length_eq];exact h64
  refine wpAny_bind (wpAny_newList ?_ (by rw[sizeLine_eq];omega))
  have e1:(h1.push (seqObj "list" vs.toArray 0)).get? h1.objs.size=some (seqObj "list" vs.toArray 0):=Heap.get?_push_size _ rfl
  refine wpAny_bind (wpAny_holding (wpAny_call_entry slot_list_sort ⟨_,e1,rfl⟩ entry_list_sort (list_sort_tree e1 vI lv fun out ns' a1 a2 a3=>⟨_,rfl,?_⟩) (args_list_sort _)))
  have e2:=cO ((a2.trans mp).trans (aF ns).symm) a3 (bW ns)
  subst e2
  obtain⟨n,hn⟩:=sortedHeap_at (out:=out) e1
  refine wpAny_pure ⟨_,rfl,q h1 _ d tk out.toList n k (fun b o e=>?_) a1 (by simpa using hn)⟩
  have lt:=Heap.lt_size e
  refine(sortedHeap_old (Nat.ne_of_lt lt) ?_).trans (Heap.get?_push_of_some _ e)
  rw[size_push']
  exact Nat.lt_succ_of_lt lt
 exact go
end
section
variable {X:Cx}{F:Fx}{p p2 pos pos2:Pos}{e:Expr}{gs:SS→R (List D)}{k:Nat}
theorem sE {pins:List (Addr×Obj)}{σ:List (Option V)}{H:Hp}{s:Shared}(I:Inv X pins σ H s)(d:Drawn):Inv X pins σ H { s with drawn:=d }:=⟨I.ok,I.os,I.bare,I.base,I.loc,I.cell,I.free,I.freeC,I.pin,I.hok,I.len⟩
def setφ (X:Cx)(a:Addr)(is:List Int):Heap→Prop:=fun h=>∃ ns,SetR X.prog X.w h a ns∧ns.Perm (onceI is)
theorem p9 {a:Addr}{is:List Int}(h1 h2:Heap)(q:setφ X a is h1)(k:∀ o,h1.get? a=some o→h2.get? a=some o):setφ X a is h2:=by
 rcases q with ⟨ns,⟨o,es,ep,t,ho,r⟩,p⟩
 exact⟨ns,⟨o,es,ep,t,k o ho,r⟩,p⟩
theorem qd (hc:X.calm=true):CallR X (.type "set") (fun xs H Q=>∃ (p:Addr) (is:List Int),xs=[.ref p]∧SqL X.K H p (is.map V.int)∧(onceI is).length < 64∧∀ a,H a=none→Q (.ref a) (upd H a (.ext (setφ X a is)))):=by
 intro pins s σ H xs us Q I r h
 obtain⟨p,is,rfl,hq,hl,q⟩:=h
 obtain⟨u,rfl,ru⟩:=vals1 r
 cases ru
 obtain⟨its,rv,pl,hz⟩:=I.list hq
 refine pW (I.ok.hd hc) pl.isList (eB rv) (by show _ < 4096;omega) fun h' tk ns S p kk=>?_
 refine⟨.ref s.heap.objs.size,_,I.laid (o:=.ext (setφ X s.heap.objs.size is)) (t':=tk) (fun b u q=>kk b u (Heap.lt_size q) q) (Nat.le_refl _) ⟨⟨ns,S,p⟩,?_,p9⟩,rfl,q _ I.fresh⟩
 rcases S with ⟨o,-,-,-,ho,-⟩
 exact⟨o,ho⟩
theorem ny (hc:X.calm=true):CallR X (.builtin "sorted") (fun xs H Q=>∃ (a:Addr) (is:List Int),xs=[.ref a]∧H a=some (.ext (setφ X a is))∧(onceI is).length < 64∧∀ p,H p=none→Q (.ref p) (upd H p (.lst ((sortI (onceI is)).map V.int)))):=by
 intro pins s σ H xs us Q I r h
 obtain⟨a,is,rfl,hq,hl,q⟩:=h
 obtain⟨u,rfl,ru⟩:=vals1 r
 cases ru
 obtain⟨⟨ns,S,pm⟩,-,-⟩:=(show ObjOk X.prog X.w H s.heap a (.ext (setφ X a is)) from I.hok a _ hq)
 refine l7 (I.ok.hd hc) (by rw[pm.length_eq];exact hl) S fun h1 h' d tk vs n k1 k2 vI e=>?_
 have es:sortI ns=sortI (onceI is):=cO ((aF _).trans (pm.trans (aF _).symm)) (bW _) (bW _)
 rw[es]at vI
 have I1:=sE (I.kept (t':=tk) k1) d
 have hz:((sortI (onceI is)).map V.int).length≤sizeLine:=by rw[List.length_map,(aF _).length_eq,sizeLine_eq];omega
 exact⟨.ref h1.objs.size,_,I1.laid (a:=h1.objs.size) (o:=.lst ((sortI (onceI is)).map V.int)) (t':=tk) k2 (Nat.le_refl _) ⟨hz,vs,n,L2.bb vI,e⟩,rfl,q _ I1.fresh⟩
theorem fw (bx:BX X F k)(hg:Gl X "sorted")(hm:X.mg "sorted"=none)(hg2:Gl X "set")(hm2:X.mg "set"=none)(ha:FA X F [e] gs)(he:starEach [e] X.env=(false,eval e X.env)::starEach [] X.env:=by rfl)(hpl:(backTo pos2 (starEach [] X.env)).any (·.1)=false:=by rfl)
  (he2:starEach [.Call (.Name "set" p2) [e] [] pos2] X.env=(false,eval (.Call (.Name "set" p2) [e] [] pos2) X.env)::starEach [] X.env:=by rfl) (hpl2:(backTo pos (starEach [] X.env)).any (·.1)=false:=by rfl) :
  FE X F (.Call (.Name "sorted" p) [.Call (.Name "set" p2) [e] [] pos2] [] pos) (eCall dSortS gs) :=
 (di (ny bx.calm) hg hm boot_sorted (bE (jJ (qd bx.calm) hg2 hm2 (by decide +kernel) ha (he:=he) (hpl:=hpl)) dh he2) (he:=he2) (hpl:=hpl2)).weak fun σ H Q ⟨Z,S,ok,w⟩=>by
  refine aJ ok w fun ds vs H1 Z1 ok1 x1 rs w1=>?_
  unfold dSortS at w1
  split at w1
  ·rename_i xs
   split at w1
   ·rename_i is e
    split at w1
    ·rename_i hl
     obtain⟨v,rfl,h⟩:=aV rs
     rw[Rep]at h
     obtain⟨a,us,rfl,h1,h2⟩:=h
     have e2:=cK h2 e
     subst e2
     refine⟨a,is,rfl,by rw[bx.K];exact ok1.sub.seq h1,hl,fun c hc=>⟨c,is,rfl,ak,hl,fun p hp=>?_⟩⟩
     have x1:=Ex.hidden (o:=.ext (setφ X c is)) ok1.sub hc
     exact w1 _ _ (x1.trans (Ex.alloc x1.sub hp)) _ (by rw[Rep];exact⟨p,_,rfl,SqL.of ak,eI _⟩)
    ·exact w1.elim
   ·exact w1.elim
  ·exact w1.elim
end
end FF
end
noncomputable section
namespace FF
open PySem PySem.Spec PyProof.Rows L2
def sAsgO (i j:Nat)(g:SS→R D):SS→O:=fun S=>rO ((g S).bind fun d=>.ok (.nx ((S.set i (some (.val d))).set j (some (.own [])))))
section
variable {X:Cx}{F:Fx}
theorem uU (i j:Nat){x y:Str}{p1 p2 tp pos pt2 pl:Pos}{k k2:_}{n:Nat}{a:Expr}{g:SS→R D}(bx:BX X F n)(hN:X.N.Nodup)(ha:FE X F a g)(hij:i≠j:=by decide)(hi:X.N[i]?=some x:=by rfl)(hj:X.N[j]?=some y:=by rfl)
  (hx:X.env.scope.names.lookup x=some .local:=by rfl) (hy:X.env.scope.names.lookup y=some .local:=by rfl)
  (he:starEach [a,.List [] pl] X.env=(false,eval a X.env)::starEach [.List [] pl] X.env:=by rfl) (he2:starEach [.List [] pl] X.env=(false,eval (.List [] pl) X.env)::starEach [] X.env:=by rfl)
  (hw:swappedStores [.Tuple [.Name x p1,.Name y p2] k tp] (.Tuple [a,.List [] pl] k2 pt2) X.env=pure (some [x,y]):=by rfl) (hs:swapsWithSole [.Tuple [.Name x p1,.Name y p2] k tp] (.Tuple [a,.List [] pl] k2 pt2) pos.line X.env=pure false:=by rfl) :
  FS X F (.Assign [.Tuple [.Name x p1,.Name y p2] k tp] (.Tuple [a,.List [] pl] k2 pt2) pos) (sAsgO i j g) :=
 (qQ bx.calm hN hi hj hij hx hy (bE ha (bE (kl dh) dh he2) he) hw hs).weak fun D σ H ⟨Z,S,ok,w⟩=>ax ok (WO.wg ok w) fun d v H1 Z1 ok1 x1 rv w1=>by
  refine⟨Nat.zero_le _,fun p hp=>⟨v,.ref p,rfl,?_⟩⟩
  have w2:=WG.now w1 ok1.sub
  exact w2 _ _ Z1 (Same.refl _) ((ok1.setVal (i:=i) rv).newOwn (i:=j) hp Reps.nil)
theorem sF (i j:Nat){x y:Str}{p1 p2 tp pos pt2 pl:Pos}{k k2:_}{n:Nat}{a:Expr}{g:SS→R D}(bx:BX X F n)(hN:X.N.Nodup)(ha:FE X F a g)(hi:X.N[i]?=some x:=by rfl)(hj:X.N[j]?=some y:=by rfl)
  (hx:Loc X.env.scope x:=by first | exact Or.inl rfl | exact Or.inr rfl) (hy:Loc X.env.scope y:=by first | exact Or.inl rfl | exact Or.inr rfl)
  (hfx:X.fn x=true∨X.env.scope.names.lookup x=some .local:=by first | exact .inl rfl | exact .inr rfl) (hfy:X.fn y=true∨X.env.scope.names.lookup y=some .local:=by first | exact .inl rfl | exact .inr rfl)
  (hn:(assignEach [.Name x p1,.Name y p2] X.env).length=2:=by rfl) (hst:(assignEach [.Name x p1,.Name y p2] X.env).findIdx? (·.1)=none:=by rfl)
  (he:starEach [a,.List [] pl] X.env=(false,eval a X.env)::starEach [.List [] pl] X.env:=by rfl) (he2:starEach [.List [] pl] X.env=(false,eval (.List [] pl) X.env)::starEach [] X.env:=by rfl)
  (hs:swapsWithSole [.Tuple [.Name x p1,.Name y p2] k tp] (.Tuple [a,.List [] pl] k2 pt2) pos.line X.env=pure false:=by rfl) (hw:swappedStores [.Tuple [.Name x p1,.Name y p2] k tp] (.Tuple [a,.List [] pl] k2 pt2) X.env=pure none:=by rfl)
  (h1:(assignEach [.Tuple [.Name x p1,.Name y p2] k tp] X.env).map (·.2)=[assign (.Tuple [.Name x p1,.Name y p2] k tp) X.env]:=by rfl) :
  FS X F (.Assign [.Tuple [.Name x p1,.Name y p2] k tp] (.Tuple [a,.List [] pl] k2 pt2) pos) (sAsgO i j g) :=
 (qO (qV (bE ha (bE (kl dh) dh he2) he)) (qN bx.calm (eZ (eY hN hi hx hfx) (eZ (eY hN hj hy hfy) n4)) hn hst) hs hw h1).weak fun D σ H ⟨Z,S,ok,w⟩=>ax ok (WO.wg ok w) fun d v H1 Z1 ok1 x1 rv w1=>by
  refine⟨Nat.zero_le _,fun p hp=>⟨by rw[sizeLine_eq];show 2≤16777216;decide,fun p2 hp2=>?_⟩⟩
  refine⟨p2,[v,.ref p],rfl,SqT.of ak,rfl,v,[.ref p],rfl,.ref p,[],rfl,rfl,?_⟩
  have w2:=WG.now w1 ok1.sub
  have o2:=(ok1.setVal (i:=i) rv).newOwn (i:=j) hp Reps.nil
  exact w2 _ _ Z1 (Same.refl _) (o2.more (Ex.hidden o2.sub hp2))
def eOwnLen (i:Nat):SS→R D:=fun S=>match S[i]? with
 | some (some (.own ds))=>.ok (.int (ds.length:Nat))
 | _=>.stuck
theorem qf (i:Nat){x:Str}{p p0 pos:Pos}{k:Nat}(bx:BX X F k)(hg:Gl X "len")(hm:X.mg "len"=none)(hi:X.N[i]?=some x:=by rfl)(hv:Vis X.env.scope x:=by first | exact Or.inl rfl | exact Or.inr (Or.inl rfl) | exact Or.inr (Or.inr rfl))(hd:(x==("__debug__":Str))=false:=by decide)
  (hcd:(x==("__classdict__":Str))=false:=by decide) (he:starEach [.Name x p0] X.env=(false,eval (.Name x p0) X.env)::starEach [] X.env:=by rfl) (hpl:(backTo pos (starEach [] X.env)).any (·.1)=false:=by rfl):FE X F (.Call (.Name "len" p) [.Name x p0] [] pos) (eOwnLen i) :=
 (di e8 hg hm PySem.boot_len (bE (fP hi hv hd hcd) dh he) (he:=he) (hpl:=hpl)).weak fun σ H Q ⟨Z,S,ok,w⟩=>by
  unfold eOwnLen at w
  split at w
  ·rename_i ds e0
   obtain⟨a,vs,e1,e2,e3,e4,r⟩:=ok.own i ds e0
   refine⟨.ref a,e1,a,vs,rfl,.inl (SqL.of e2),?_⟩
   rw[← r.length]
   exact WG.now w ok.sub _ aG
  ·exact w.elim
variable {σ':Type}{S:SS}{st:Stmt}{rest:List Stmt}{J:σ'→SS→Prop}
theorem oF (i j:Nat){g:SS→R D}{r:R D}{S':D→SS}{k:D→L σ'}(h:FS X F st (sAsgO i j g))(hg:g S=r)(hS:∀ x,(S.set i (some (.val x))).set j (some (.own []))=S' x)(hk:∀ x,FL X F (S' x) rest J (k x)):FL X F S (st::rest) J (lB r fun x=>k x) :=
 aj (S':=S') h (by
  unfold sAsgO
  rw[hg]
  cases r with
  | ok d=>show O.nx _=O.nx _;rw[hS]
  | err k=>rfl
  | stuck=>rfl) hk
end
end FF
end
noncomputable section
namespace FF
open PySem PySem.Spec PyProof.Rows L2
end FF
end
noncomputable section
namespace FF
open PySem PySem.Spec PyProof.Rows L2
inductive Prd {α β:Type}(R:α→β→Prop):List α→List β→Prop
 | nil:Prd R [] []
 | cons {a b l r}:R a b→Prd R l r→Prd R (a::l) (b::r)
section
variable {prog:Program}{w:World}{E:Value→Shared→Prop}
end
end FF
end
noncomputable section
namespace FF
open PySem PySem.Spec PyProof.Rows L2
theorem Prd.length {α β:Type}{R:α→β→Prop}:∀ {l:List α} {r:List β},Prd R l r→l.length=r.length
 | _,_,.nil=>rfl
 | _,_,.cons _ t=>by rw[List.length_cons,List.length_cons,t.length]
section
variable {prog:Program}{w:World}{A:Around}{E:Value→Shared→Prop}{s:Shared}{R:Result→Shared→Prop}
end
end FF
end
noncomputable section
namespace FF
open PySem PySem.Spec PyProof.Rows L2
section
variable {X:Cx}{F:Fx}{p p2 pos pos2:Pos}{e:Expr}{gs:SS→R (List D)}{k:Nat}{pins:List (Addr×Obj)}{σ:List (Option V)}{H:Hp}{s:Shared}
end
end FF
end
noncomputable section
set_option maxRecDepth 1000000
namespace FF
open PySem PySem.Spec PyProof.Rows L2
def ltOf:Code→Option Value→Option Bool
 | .call (.builtin id) ⟨[.int a _,.int b _],[]⟩,none=>if id="int.__lt__" then some (decide (a < b)) else none
 | _,_=>none
def ev {α:Type}(σ:Setting):Sem α→Option α
 | .pure a=>some a
 | .rule _ k=>ev σ (k ())
 | .point _ k=>ev σ (k ())
 | .ask k=>ev σ (k σ)
 | .call c h _ _ k=>match ltOf c h with
  | some b=>ev σ (k (.ok (.ret (.bool b))))
  | none=>none
 | _=>none
section
variable {prog:Program}{w:World}{A:Around}{E:Value→Shared→Prop}{s:Shared}
theorem uV {a b:Int}{t u:Tok}{R:Result→Shared→Prop}(h:R (.ok (.ret (.bool (decide (a < b))))) s):codeAny (model prog w) A (.call (.builtin "int.__lt__") ⟨[.int a t,.int b u],[]⟩) R s :=
 codeAny_call_builtin slot_int_lt.plain entry_int_lt (slot_int_lt.check _ _ _ _ _ _ _ _ (typeIs_int s a t) (args_int_lt _ _) (show wpAny _ _ (ret (.bool (decide (a < b)))) _ _ s from wpAny_pure h))
theorem qh {c:Code}{h:Option Value}{b:Bool}(e:ltOf c h=some b):h=none∧∀ {A:Around} {s:Shared} {R:Result→Shared→Prop},R (.ok (.ret (.bool b))) s→codeAny (model prog w) A c R s:=by
 unfold ltOf at e
 split at e
 ·split at e
  ·rename_i id a t b' u hid
   cases e
   subst hid
   exact⟨rfl,fun r=>uV r⟩
  ·cases e
 ·cases e
theorem xt {α:Type}(m:Sem α):∀ {a:α} {Q:α→Shared→Prop},ev ⟨prog,w.params⟩ m=some a→Q a s→wpAny (model prog w) A m Q E s:=by
 induction m with
 | pure x =>
  intro a Q e q
  cases e
  exact wpAny_pure q
 | rule tag k ih =>
  intro a Q e q Γ p hΓ
  rw[Sem.wp_rule]
  exact ih () e q Γ p hΓ
 | point l k ih =>
  intro a Q e q Γ p hΓ
  rw[Sem.wp_point]
  exact ih () e q Γ p hΓ
 | ask k ih =>
  intro a Q e q Γ p hΓ
  rw[Sem.wp_ask]
  exact ih _ e q Γ p hΓ
 | call c h g l k ih =>
  intro a Q e q Γ p hΓ
  unfold ev at e
  split at e
  ·rename_i b eb
   obtain⟨rfl,hc⟩:=qh (prog:=prog) (w:=w) eb
   rw[Sem.wp_call]
   exact hc (A:=A) (s:=s) (ih _ e q Γ p hΓ) _ p rfl (hΓ.enter c none p (by intro x;cases x))
  ·cases e
 | _=>intro a Q e q;cases e
end
def sg (σ:Setting)(b:Bool):Setting:={ σ with params:={ σ.params with followText:=fun x=>if x="special-get-raises" then b else σ.params.followText x } }
theorem uW (σ:Setting):sg σ (σ.params.followText "special-get-raises")=σ:=by
 unfold sg
 have:(fun x=>if x="special-get-raises" then σ.params.followText "special-get-raises" else σ.params.followText x)=σ.params.followText:=by
  funext x
  split
  ·rename_i e;rw[e]
  ·rfl
 rw[this]
def numsV:List Value→Option (List Int)
 | []=>some []
 | .int n _::r=>(numsV r).map (n::·)
 | _=>none
theorem iJ:∀ {vs:List Value} {ns:List Int},numsV vs=some ns→IntsAre vs ns
 | [],ns,e=>by cases e;exact .nil
 | v::vs,ns,e=>by
  cases v with
  | int n t =>
   unfold numsV at e
   cases q:numsV vs with
   | none=>rw[q]at e;cases e
   | some ms =>
    rw[q]at e
    cases e
    exact .cons n t (iJ q)
  | _=>cases e
def outS (r:Unit×SortSt):Option (List Int):=if (failedOf r.2).isNone=true then numsV ((arrOf r.2).map (·.2)).toList else none
def evSort (σ:Setting)(vs:List Value):Option (List Int):=(ev σ (sortRuns'.run (SortSt.mk' oneType' (vs.toArray.zip vs.toArray) #[] 7 none))).bind outS
def known (f:Nat→Int)(t:Nat→Tok):List Value:=(List.range 64).map fun i=>.int (f i) (t i)
def xs64:List Int:=(List.range 64).map fun (i:Nat)=>((i%8:Nat):Int)
def ys64:List Int:=(List.range 64).map fun (i:Nat)=>((i/8:Nat):Int)
theorem ex_t (σ:Setting)(t:Nat→Tok):evSort (sg σ true) (known (fun i=>((i%8:Nat):Int)) t)=some ys64:=by kernel_rfl
theorem ex_f (σ:Setting)(t:Nat→Tok):evSort (sg σ false) (known (fun i=>((i%8:Nat):Int)) t)=some ys64:=by kernel_rfl
theorem ey_t (σ:Setting)(t:Nat→Tok):evSort (sg σ true) (known (fun i=>((i/8:Nat):Int)) t)=some ys64:=by kernel_rfl
theorem ey_f (σ:Setting)(t:Nat→Tok):evSort (sg σ false) (known (fun i=>((i/8:Nat):Int)) t)=some ys64:=by kernel_rfl
end FF
end
noncomputable section
namespace FF
open PySem PySem.Spec PyProof.Rows L2
def dSortJ:List D→R D
 | [.lst xs]=>match intsOf xs with
  | some is=>if is.length < 64∨is=xs64∨is=ys64 then .ok (.lst ((sortI is).map .int)) else .stuck
  | none=>.stuck
 | _=>.stuck
def tokOf (vs:List Value)(i:Nat):Tok:=match vs[i]? with
 | some (.int _ t)=>t
 | _=>0
theorem l8 {vs:List Value}{f:Nat→Int}(h:IntsAre vs ((List.range 64).map f)):vs=known f (tokOf vs):=by
 have hl:vs.length=64:=by have:=h.length;simpa using this
 apply List.ext_getElem?
 intro i
 unfold known
 rw[List.getElem?_map]
 by_cases c:i < 64
 ·have hi:i < vs.length:=by omega
  obtain⟨t,e⟩:=IntsAre.int_at h i vs[i] (List.getElem?_eq_getElem hi)
  have ef:((List.range 64).map f).getD i 0=f i:=by simp[List.getD,c]
  rw[List.getElem?_range c,List.getElem?_eq_getElem hi]
  have et:tokOf vs i=t:=by
   unfold tokOf
   rw[List.getElem?_eq_getElem hi,e]
  rw[Option.map_some,et,e,ef]
 ·rw[List.getElem?_eq_none (by omega),List.getElem?_eq_none (by simp;omega)]
  rfl
theorem nz {vs:List Value}{is:List Int}(hI:IntsAre vs is)(h:is=xs64∨is=ys64)(σ:Setting):evSort σ vs=some ys64:=by
 rw[← uW σ]
 rcases h with rfl | rfl
 ·rw[l8 (f:=fun i=>((i%8:Nat):Int)) hI]
  cases σ.params.followText "special-get-raises"
  ·exact ex_f σ _
  ·exact ex_t σ _
 ·rw[l8 (f:=fun i=>((i/8:Nat):Int)) hI]
  cases σ.params.followText "special-get-raises"
  ·exact ey_f σ _
  ·exact ey_t σ _
theorem sort64:sortI xs64=ys64∧sortI ys64=ys64∧xs64.length=64∧ys64.length=64:=by decide +kernel
section
variable {prog:Program}{w:World}{A:Around}{E:Value→Shared→Prop}{s:Shared}
theorem kL {a:Addr}{vs:List Value}{is ms:List Int}{n:Nat}{P:PySem.Fin→Shared→Prop}(ho:s.heap.get? a=some (seqObj "list" vs.toArray n))(hI:IntsAre vs is)(h2:2≤vs.length)(hz:vs.length≤1000)(hm:ms.length=vs.length)(he:evSort ⟨prog,w.params⟩ vs=some ms)
  (h:∀ out:Array Value,IntsAre out.toList ms→P (.done (.ret .none)) { s with heap:=sortedHeap s.heap a vs out }):wpAny (model prog w) A (Builtin.«list.sort» ⟨[.ref a],[]⟩) P E s:=by
 have la:a < s.heap.objs.size:=Heap.lt_size ho
 obtain⟨v1,v2,r,rfl⟩:∃ v1 v2 r,vs=v1::v2::r:=by
  rcases vs with _ | ⟨v1,_ | ⟨v2,r⟩⟩
  ·simp at h2
  ·simp at h2
  ·exact⟨v1,v2,r,rfl⟩
 unfold evSort at he
 cases q:ev ⟨prog,w.params⟩ (sortRuns'.run (SortSt.mk' oneType' ((v1::v2::r).toArray.zip (v1::v2::r).toArray) #[] 7 none)) with
 | none=>rw[q]at he;cases he
 | some z =>
  rw[q]at he
  have he:outS z=some ms:=he
  unfold outS at he
  split at he
  ·rename_i hf
   have out:=iJ he
   have sz:((arrOf z.2).map (·.2)).size=(v1::v2::r).length:=by rw[← hm,← out.length,Array.length_toList]
   rw[list_sort_plain]
   refine wpAny_bind (listItems_at ho rfl (wpAny_bind (listUpdate_at ho rfl ?_ (by rw[List.size_toArray,sizeLine_eq];omega) (by simp))))
   have e1:=get?_update_seq ho (fun _=>#[])
   refine wpAny_bind (seqEpoch_at e1 rfl (wpAny_bind (wpAny_newTuple ?_ (by rw[sizeLine_eq];show (v1::v2::r).length≤_;omega))))
   refine wpAny_bind (wpAny_newList (wpAny_holding ?_))
   have e2:(((s.heap.update a (Obj.mapSeq fun _=>#[])).push (seqObj "tuple" (v1::v2::r).toArray 0)).push (seqObj "list" #[] 0)).get? a=some (seqObj "list" #[] _):=Heap.get?_push_of_some _ (Heap.get?_push_of_some _ e1)
   rw[if_neg (by rw[List.size_toArray];omega),if_neg (by rw[List.size_toArray];omega),keyKind_ints hI]
   refine wpAny_bind (wpAny_pure (wpAny_bind (xt _ q ?_)))
   dsimp only
   refine wpAny_bind (seqEpoch_at e2 rfl (wpAny_bind (listUpdate_at e2 rfl ?_ (by simp) (by rw[sz,sizeLine_eq];omega))))
   rw[Option.isNone_iff_eq_none.mp hf]
   simp only[bne_self_eq_false,Bool.false_eq_true,if_false]
   exact wpAny_pure (h _ out)
  ·cases he
theorem qi {l:Addr}{vs:List Value}{is:List Int}{Q:Value→Shared→Prop}(hl:s.heap.IsList l vs.toArray)(hI:IntsAre vs is)(h64:is=xs64∨is=ys64)
  (h:∀ out:Array Value,IntsAre out.toList (sortI is)→Q (.ref (s.heap.objs.size+1)) { s with heap:=sortedAll s.heap vs out }):wpAny (model prog w) A (call (.builtin "sorted") [.ref l]) Q E s:=by
 have s64:=sort64
 have es:sortI is=ys64:=by rcases h64 with rfl | rfl;exact s64.1;exact s64.2.1
 have ln:vs.length=64:=by
  rw[hI.length]
  rcases h64 with rfl | rfl
  ·exact s64.2.2.1
  ·exact s64.2.2.2
 rw[es]at h
 refine Calls.call_function_entry kind_sorted plain_sorted entry_sorted (args_sorted1 _) ?_
 have go:wpAny (model prog w) A.in1 (collect (.ref l) >>= fun xs=>newList xs >>= fun l=>holding [l] (call (.builtin "list.sort") [l]) >>= fun _=>ret l) (fun fin s'=>∃ v,fin=.done (.ret v)∧Q v s') E s:=by
  refine wpAny_bind (collect_list hl ?_ (by rw[sizeLine_eq];omega))
  refine wpAny_bind (wpAny_newList ?_ (by rw[sizeLine_eq];omega))
  have hs:((s.heap.push (seqObj "list" #[] 0)).update s.heap.objs.size (Obj.mapSeq (·++vs.toArray))).objs.size=s.heap.objs.size+1:=by rw[Heap.size_update,size_push']
  have e1:(((s.heap.push (seqObj "list" #[] 0)).update s.heap.objs.size (Obj.mapSeq (·++vs.toArray))).push (seqObj "list" vs.toArray 0)).get? (s.heap.objs.size+1)=some (seqObj "list" vs.toArray 0):=by
   rw[← hs];exact Heap.get?_push_size _ rfl
  show wpAny _ _ _ _ _ { s with heap:=((s.heap.push (seqObj "list" #[] 0)).update s.heap.objs.size (Obj.mapSeq (·++vs.toArray))).push (seqObj "list" vs.toArray 0) }
  rw[hs]
  refine wpAny_bind (wpAny_holding (wpAny_call_entry slot_list_sort ⟨_,e1,rfl⟩ entry_list_sort (kL e1 hI (by omega) (by omega) (by rw[ln];exact s64.2.2.2) (nz hI h64 _) fun out a1=>⟨_,rfl,?_⟩) (args_list_sort _)))
  exact wpAny_pure ⟨_,rfl,h out a1⟩
 exact go
end
section
variable {X:Cx}{F:Fx}{p pos:Pos}{e:Expr}{gs:SS→R (List D)}{k:Nat}
theorem nA:CallR X (.builtin "sorted") (fun xs H Q=>∃ (a:Addr) (is:List Int),xs=[.ref a]∧SqL X.K H a (is.map V.int)∧(is.length < 64∨is=xs64∨is=ys64)∧∀ p,H p=none→Q (.ref p) (upd H p (.lst ((sortI is).map V.int)))):=by
 intro pins s σ H xs us Q I r h
 obtain⟨a,is,rfl,hq,hl,q⟩:=h
 by_cases c:is.length < 64
 ·exact lZ pins s σ H _ us Q I r ⟨a,is,rfl,hq,c,q⟩
 obtain⟨u,rfl,ru⟩:=vals1 r
 cases ru
 obtain⟨its,rv,pl,hz⟩:=I.list hq
 have h64:is=xs64∨is=ys64:=hl.resolve_left c
 have s64:=sort64
 refine qi pl.isList (eB rv) h64 fun out a1=>?_
 obtain⟨n,hn⟩:=sortedAll_at s.heap its out
 have hz2:((sortI is).map V.int).length≤sizeLine:=by
  rw[List.length_map,(aF is).length_eq,sizeLine_eq]
  rcases h64 with rfl | rfl
  ·rw[s64.2.2.1];decide
  ·rw[s64.2.2.2];decide
 exact⟨.ref (s.heap.objs.size+1),_,I.laid (o:=.lst ((sortI is).map V.int)) (t':=s.toks) (fun b u q=>sortedAll_old q) (Nat.le_succ _) ⟨hz2,out.toList,n,L2.bb a1,by simpa [seqObj] using hn⟩,rfl,q _ (I.hok.fresh (Nat.le_succ _))⟩
theorem iK (bx:BX X F k)(hg:Gl X "sorted")(hm:X.mg "sorted"=none)(ha:FA X F [e] gs)(he:starEach [e] X.env=(false,eval e X.env)::starEach [] X.env:=by rfl)(hpl:(backTo pos (starEach [] X.env)).any (·.1)=false:=by rfl) :
  FE X F (.Call (.Name "sorted" p) [e] [] pos) (eCall dSortJ gs) :=
 (di nA hg hm boot_sorted ha (he:=he) (hpl:=hpl)).weak fun σ H Q ⟨Z,S,ok,w⟩=>by
  refine aJ ok w fun ds vs H1 Z1 ok1 x1 rs w1=>?_
  unfold dSortJ at w1
  split at w1
  ·rename_i xs
   split at w1
   ·rename_i is e
    split at w1
    ·rename_i hl
     obtain⟨v,rfl,h⟩:=aV rs
     rw[Rep]at h
     obtain⟨a,us,rfl,h1,h2⟩:=h
     have e2:=cK h2 e
     subst e2
     refine⟨a,is,rfl,by rw[bx.K];exact ok1.sub.seq h1,hl,fun c hc=>?_⟩
     exact w1 _ _ (Ex.alloc ok1.sub hc) _ (by rw[Rep];exact⟨c,_,rfl,SqL.of ak,eI _⟩)
    ·exact w1.elim
   ·exact w1.elim
  ·exact w1.elim
end
end FF
end
noncomputable section
namespace FF
open PySem PySem.Spec PyProof.Rows L2
def oStN (ds:List D)(i v:D):R (List D):=match i with
 | .int j=>match L2.ixN ds.length j with
  | some n=>.ok (ds.set n v)
  | none=>.stuck
 | _=>.stuck
def sStoN (i:Nat)(g ge:SS→R D):SS→O:=fun S=>match S[i]? with
 | some (some (.own ds))=>rO ((((ge S).bind fun v=>(g S).bind fun j=>oStN ds j v)).bind fun ds'=>.ok (.nx (S.set i (some (.own ds')))))
 | _=>.stuck
section
variable {X:Cx}{F:Fx}{pos:Pos}{k:Nat}{g ge:SS→R D}{e ei:Expr}{x:Str}
theorem qk (i:Nat){p0 pos':Pos}(bx:BX X F k)(he:FE X F e ge)(hix:FE X F ei g)(hi:X.N[i]?=some x:=by rfl)(hv:Vis X.env.scope x:=by first | exact Or.inl rfl | exact Or.inr (Or.inl rfl) | exact Or.inr (Or.inr rfl))(hd:(x==("__debug__":Str))=false:=by decide)
  (hcd:(x==("__classdict__":Str))=false:=by decide)
  (hasg:∀ v,assign (.Subscript (.Name x p0) ei pos') X.env v=(do
   let ov ← holding [v] (eval (.Name x p0) X.env)
   let iv ← holding [v,ov] (eval ei X.env)
   standAt pos'
   holding [v,ov,iv] (setItem ov iv v)
   release [v,ov,iv] []):=by intro _;rfl)
  (hs:swapsWithSole [.Subscript (.Name x p0) ei pos'] e pos.line X.env=pure false:=by rfl) (hw:swappedStores [.Subscript (.Name x p0) ei pos'] e X.env=pure none:=by rfl)
  (h1:(assignEach [.Subscript (.Name x p0) ei pos'] X.env).map (·.2)=[assign (.Subscript (.Name x p0) ei pos') X.env]:=by rfl) :
  FS X F (.Assign [.Subscript (.Name x p0) ei pos'] e pos) (sStoN i g ge) :=
 (qO he (vW (fP hi hv hd hcd) hix q5 hasg) hs hw h1).weak fun D σ H ⟨Z,S,ok,w⟩=>by
  unfold sStoN at w
  cases q:S[i]? with
  | none=>rw[q]at w;exact w.elim
  | some o =>
   cases o with
   | none=>rw[q]at w;exact w.elim
   | some y =>
    cases y with
    | own ds =>
     rw[q]at w
     have w0:WO F Z (rO ((ge S).bind fun v=>((g S).bind fun j=>oStN ds j v).bind fun ds'=>R.ok (O.nx (S.set i (some (.own ds')))))) D:=by
      rw[← R.bind_assoc];exact w
     refine ax ok (WO.wg ok w0) fun d v H1 Z1 ok1 x1 rv w1=>?_
     obtain⟨a,vs,e1,e2,e3,e4,r⟩:=ok1.own i ds q
     have w1':WG F H1 Z1 ((g S).bind fun j=>(oStN ds j d).bind fun ds'=>R.ok (O.nx (S.set i (some (.own ds'))))) fun o _ Z'=>WO F Z' o D:=by
      rw[← R.bind_assoc];exact w1
     refine⟨.ref a,e1,ax ok1 w1' fun d2 v2 H2 Z2 ok2 x2 rv2 w2=>?_⟩
     cases d2 with
     | int j =>
      rw[Rep]at rv2
      cases qj:L2.ixN ds.length j with
      | none =>
       have:oStN ds (.int j) d=.stuck:=by unfold oStN;simp only[qj]
       rw[this]at w2
       exact w2.elim
      | some n =>
       have:oStN ds (.int j) d=.ok (ds.set n d):=by unfold oStN;simp only[qj]
       rw[this]at w2
       refine⟨a,vs,j,n,rfl,rv2,x2.same _ _ e2,by rw[← r.length];exact qj,?_⟩
       have w4:=WG.now w2 ok2.sub
       exact w4 σ _ Z2 (Same.refl _) (ok2.write q e1 (Reps.setAt (rv.mono x2.z) n (r.mono x2.z)))
     | _=>exact w2.elim
    | _=>rw[q]at w;exact w.elim
end
end FF
end
noncomputable section
namespace Lw
open PySem FF
def esL:List Nat:=[1,2,3]
namespace F
abbrev ad:Nat:=20
abbrev ac:Nat:=21
abbrev aF:Nat:=22
abbrev an:Nat:=23
abbrev al:Nat:=24
abbrev ap:Nat:=25
abbrev ah:Nat:=26
abbrev aq:Nat:=43
abbrev aB:Nat:=27
abbrev aa:Nat:=28
abbrev az:Nat:=65
abbrev ao:Nat:=45
abbrev aC:Nat:=46
abbrev aD:Nat:=47
abbrev au:Nat:=49
abbrev ab:Nat:=50
abbrev aH:Nat:=29
abbrev aG:Nat:=66
abbrev aN:Nat:=67
abbrev av:Nat:=68
abbrev af:Nat:=69
abbrev aM:Nat:=70
abbrev aK:Nat:=71
abbrev ae:Nat:=72
abbrev ar:Nat:=73
abbrev aI:Nat:=74
abbrev aP:Nat:=75
abbrev ak:Nat:=76
abbrev aw:Nat:=77
abbrev aE:Nat:=78
abbrev aL:Nat:=79
abbrev ay:Nat:=80
abbrev aO:Nat:=30
abbrev ag:Nat:=31
abbrev ai:Nat:=32
abbrev ax:Nat:=33
abbrev aj:Nat:=54
abbrev aJ:Nat:=55
abbrev aA:Nat:=81
end F
def fvL:List Nat:=[21]
def eN (t:Nat→List D→R D)(thing:D):L Unit :=
 lB (vAnd (dIsA qInt thing) (vNot (dIsA qBool thing))) .rt
def cR (t:Nat→List D→R D)(thing:D):L Unit :=
 lB (vAnd (t F.ad [thing]) (rCh dLe dLe (.int 0) thing (.ok (.int 9)))) .rt
def dY (t:Nat→List D→R D)(thing:D):L Unit :=
 lB (vAnd (t F.ad [thing]) (rCh dLe dLe (.int 0) thing (.ok (.int 3)))) .rt
def cA (t:Nat→List D→R D)(size_:D)(thing:D)(is_end:D):L Unit :=
 lS (lB (σ:=Unit) (rNot (asB (dIsA qTup thing))) fun b=>if b=true then lB (onF fvL is_end fun i=>t i [thing]) .rt else .nx ()) fun _ =>
 lS (lB (σ:=Unit) (rOr (asB (dEq size_ (.int 0))) (asB ((dLen [thing]).bind fun x=>dNf x (.int 4)))) fun b1=>if b1=true then .rt (.bl false) else .nx ()) fun _ =>
 lB (((sq thing).bind fun xs=>cMap (fun part=>(dSub size_ (.int 1)).bind fun x1=>t F.an [x1,part,is_end]) xs).bind fun x2=>dAll [x2]) .rt
def aW (t:Nat→List D→R D)(thing:D)(is_end:D):L Unit :=
 lS (lB (σ:=Unit) (rOr (rNot (asB (dIsA qTup thing))) (asB ((dLen [thing]).bind fun x=>dNf x (.int 2)))) fun b=>if b=true then .rt (.bl false) else .nx ()) fun _ =>
 lB (vAnd ((dIx thing (.int 0)).bind fun x3=>t F.aF [x3]) ((dIx thing (.int 0)).bind fun x1=>(dIx thing (.int 1)).bind fun x2=>t F.an [x1,x2,is_end])) .rt
def bg (t:Nat→List D→R D)(four:D):L Unit :=
 lB (dIx four (.int 0)) fun first =>
 lS (lB (σ:=Unit) (rAnd (rNot (asB (dIsA qTup first))) (asB (dEq four (.tup [first,first,first,first])))) fun b=>if b=true then .rt first else .nx ()) fun _ =>
 .rt four
def bv (t:Nat→List D→R D)(tree_:D):L Unit :=
 lS (lB (σ:=Unit) (rNot (asB (dIsA qTup tree_))) fun b=>if b=true then .rt tree_ else .nx ()) fun _ =>
 lB ((((sq tree_).bind fun xs=>cMap (fun part=>t F.ah [part]) xs).bind fun x=>dTuple [x]).bind fun x1=>t F.ap [x1]) .rt
def bX (t:Nat→List D→R D)(tree_:D)(side:D)(x:D)(y:D):L Unit :=
 lS (lB (σ:=Unit) (rNot (asB (dIsA qTup tree_))) fun b=>if b=true then .rt tree_ else .nx ()) fun _ =>
 lB (dDiv side (.int 2)) fun half =>
 lB (((dDiv y half).bind fun x1=>dMul (.int 2) x1).bind fun x2=>(dDiv x half).bind fun x3=>dAdd x2 x3) fun number =>
 lB ((dIx tree_ number).bind fun x4=>(dMod x half).bind fun x5=>(dMod y half).bind fun x6=>t F.aq [x4,half,x5,x6]) .rt
def bG (t:Nat→List D→R D)(thing:D):L Unit :=
 lB (t F.al [thing,(.fn F.ac)]) .rt
def aX (t:Nat→List D→R D)(thing:D):L Unit :=
 lB (rNot (asB (t F.aB [thing]))) fun b=>if b=true then .er 1 else .nx ()
def bu (t:Nat→List D→R D)(thing:D):L Unit :=
 lB (rNot (asB (t F.ac [thing]))) fun b=>if b=true then .er 1 else .nx ()
def dZ (t:Nat→List D→R D)(picture:D):L Unit :=
 lB ((dIx picture (.int 0)).bind fun x=>dIx (tupI [1,2,4,8]) x) .rt
def cS (t:Nat→List D→R D)(side:D)(thing:D):L Unit :=
 lB (vAnd (t F.ad [thing]) (rCh dLe dLt (.int 0) thing (.ok side))) .rt
def bH (t:Nat→List D→R D)(picture:D)(x:D)(y:D):L Unit :=
 lB (t F.ao [picture]) fun side =>
 lB (rOr (rNot (asB (t F.aC [side,x]))) (rNot (asB (t F.aC [side,y])))) fun b=>if b=true then .er 2 else .nx ()
def ce (t:Nat→List D→R D)(picture:D)(y:D):L Unit :=
 lB (t F.ao [picture]) fun side =>
 lB (((rng1 [side]).bind fun xs=>cMap (fun x=>(dIx picture (.int 1)).bind fun x1=>t F.aq [x1,side,x,y]) xs).bind fun x2=>dTuple [x2]) .rt
def bI (t:Nat→List D→R D)(picture:D):L Unit :=
 lB (t F.aa [picture]) fun _ =>
 lB ((((t F.ao [picture]).bind fun x=>rng1 [x]).bind fun xs=>cMap (fun y=>t F.au [picture,y]) xs).bind fun x1=>dTuple [x1]) .rt
def kM (t:Nat→List D→R D)(picture:D):L Unit :=
 lB (t F.aa [picture]) fun _ =>
 lB ((dIx picture (.int 0)).bind fun x=>((dIx picture (.int 1)).bind fun x1=>t F.ah [x1]).bind fun x2=>.ok (.tup [x,x2])) .rt
def d0 (t:Nat→List D→R D)(start:D)(length:D)(side:D):L Unit :=
 lB (vAnd (dLe (.int 0) start) (vAnd (dLe (.int 1) length) ((dAdd start length).bind fun x=>dLe x side))) .rt
def fz (t:Nat→List D→R D)(picture:D)(thing:D):L Unit :=
 lS (lB (σ:=Unit) (rOr (rNot (asB (dIsA qTup thing))) (asB ((dLen [thing]).bind fun x=>dNf x (.int 4)))) fun b=>if b=true then .rt (.bl false) else .nx ()) fun _ =>
 lS (lB (σ:=Unit) (rNot (asB (((sq thing).bind fun xs=>cMap (fun number=>t F.ad [number]) xs).bind fun x1=>dAll [x1]))) fun b1=>if b1=true then .rt (.bl false) else .nx ()) fun _ =>
 lB (t F.ao [picture]) fun side =>
 lB (vAnd ((dIx thing (.int 0)).bind fun x4=>(dIx thing (.int 2)).bind fun x5=>t F.aG [x4,x5,side]) ((dIx thing (.int 1)).bind fun x2=>(dIx thing (.int 3)).bind fun x3=>t F.aG [x2,x3,side])) .rt
def cg (t:Nat→List D→R D)(picture:D)(thing:D):L Unit :=
 lB (rNot (asB (t F.aN [picture,thing]))) fun b=>if b=true then .er 3 else .nx ()
def bh (t:Nat→List D→R D)(tree_:D)(order:D):L Unit :=
 lS (lB (σ:=Unit) (rNot (asB (dIsA qTup tree_))) fun b=>if b=true then .rt tree_ else .nx ()) fun _ =>
 lB (((sq order).bind fun xs=>cMap (fun number=>(dIx tree_ number).bind fun x=>t F.af [x,order]) xs).bind fun x1=>dTuple [x1]) .rt
def hV (t:Nat→List D→R D)(picture:D)(order:D):L Unit :=
 lB (t F.aH [picture]) fun shown =>
 lB ((dIx shown (.int 0)).bind fun x=>((dIx shown (.int 1)).bind fun x1=>t F.af [x1,order]).bind fun x2=>.ok (.tup [x,x2])) .rt
def d4 (t:Nat→List D→R D)(picture:D):L Unit :=
 lB (t F.aM [picture,(tupI [0,2,1,3])]) .rt
def bY (t:Nat→List D→R D)(worths:List D)(row:D):L (List D) :=
 lB (oExt worths row) fun worths1 =>
 .nx worths1
def cj (t:Nat→List D→R D)(rows:D):L Unit :=
 lS (lB (sq rows) fun xs=>lFor (τ:=List D) (fun s x=>bY t s x) xs []) fun worths1 =>
 .rt (.lst worths1)
def bi (t:Nat→List D→R D)(picture:D)(box:D):L Unit :=
 lB (t F.aa [picture]) fun _ =>
 lB (t F.av [picture,box]) fun _ =>
 lB ((t F.ab [picture]).bind fun x=>((dIx box (.int 1)).bind asI).bind fun i=>(((dIx box (.int 1)).bind fun x1=>(dIx box (.int 3)).bind fun x2=>dAdd x1 x2).bind asI).bind fun i1=>dSw x i i1) fun rows =>
 lB (((sq rows).bind fun xs=>cMap (fun row=>((dIx box (.int 0)).bind asI).bind fun i2=>(((dIx box (.int 0)).bind fun x3=>(dIx box (.int 2)).bind fun x4=>dAdd x3 x4).bind asI).bind fun i3=>dSw row i2 i3) xs).bind fun x5=>t F.ae [x5]) .rt
def cT (t:Nat→List D→R D)(picture:D)(box:D)(worth:D):L Unit :=
 lB (t F.ar [picture,box]) fun worths =>
 lB (rIf (asB (t F.ac [worth])) (onL worths fun ls=>dCountI ls [worth]) (.ok (.int 0))) .rt
def fA (t:Nat→List D→R D)(picture:D):L Unit :=
 lB ((t F.ab [picture]).bind fun x=>t F.ae [x]) fun worths =>
 lB ((((dAdd (.int 9) (.int 1)).bind fun x1=>rng1 [x1]).bind fun xs=>cMap (fun worth=>onL worths fun ls=>dCountI ls [worth]) xs).bind fun x2=>dTuple [x2]) .rt
def ck (t:Nat→List D→R D)(picture:D):L Unit :=
 lB (((t F.ab [picture]).bind fun x=>t F.ae [x]).bind fun x1=>dSortS [x1]) .rt
def cm (t:Nat→List D→R D)(picture:D)(worth:D):L Unit :=
 lB (((t F.ab [picture]).bind fun x=>dEnum x).bind fun xs=>cFil (fun p=>un2 p fun y row=>(asB (dInD worth row))) (fun p=>un2 p fun y row=>.ok y) xs) .rt
def dr (t:Nat→List D→R D)(picture:D)(worth:D):L Unit :=
 lB (t F.aa [picture]) fun _ =>
 lB (t F.az [worth]) fun _ =>
 lB (t F.aw [picture,worth]) fun down =>
 lS (lB (σ:=Unit) (asB ((dLen [down]).bind fun x=>dEq x (.int 0))) fun b=>if b=true then .rt .non else .nx ()) fun _ =>
 lB ((t F.aK [picture]).bind fun x1=>t F.aw [x1,worth]) fun across =>
 lB ((dIx across (.int 0)).bind fun x2=>(dIx down (.int 0)).bind fun x3=>(((dIx across (.int (-1))).bind fun x4=>(dIx across (.int 0)).bind fun x5=>dSub x4 x5).bind fun x6=>dAdd x6 (.int 1)).bind fun x7=>(((dIx down (.int (-1))).bind fun x8=>(dIx down (.int 0)).bind fun x9=>dSub x8 x9).bind fun x10=>dAdd x10 (.int 1)).bind fun x11=>.ok (.tup [x2,x3,x7,x11])) .rt
def bJ (t:Nat→List D→R D)(runs:List D)(worth:D):L (List D) :=
 lB (rAnd (asB (dGt (.int (runs.length:Nat)) (.int 0))) (asB (((oIx runs (.int (-1))).bind fun x=>dIx x (.int 0)).bind fun x1=>dEq x1 worth))) fun b=>if b=true then lB (((((oIx runs (.int (-1))).bind fun x2=>dIx x2 (.int 1)).bind fun x3=>dAdd x3 (.int 1)).bind fun x4=>.ok (.tup [worth,x4])).bind fun x5=>oStN runs (.int (-1)) x5) fun runs1=>.nx runs1 else lB (oApp runs (.tup [worth,(.int 1)])) fun runs2 =>
 .nx runs2
def d5 (t:Nat→List D→R D)(picture:D)(y:D):L Unit :=
 lB (t F.aa [picture]) fun _ =>
 lB (t F.aD [picture,(.int 0),y]) fun _ =>
 lS (lB (((t F.ab [picture]).bind fun x=>dIx x y).bind fun x1=>sq x1) fun xs=>lFor (τ:=List D) (fun s x=>bJ t s x) xs []) fun runs2 =>
 .rt (.lst runs2)
def bZ (t:Nat→List D→R D)(rows:D)(couples:List D)(y:D)(row:D):L (List D) :=
 lB ((((dAdd y (.int 1)).bind fun x=>(dLen [rows]).bind fun x1=>rng2 [x,x1]).bind fun xs=>cFil (fun other=>(asB ((dIx rows other).bind fun x2=>dEq x2 row))) (fun other=>.ok (.tup [y,other])) xs).bind fun x3=>oExt couples x3) fun couples1 =>
 .nx couples1
def cp (t:Nat→List D→R D)(picture:D):L Unit :=
 lB (t F.ab [picture]) fun rows =>
 lS (lB (dEnum rows) fun xs1=>lFor (τ:=List D) (fun s p=>lUn2 p fun x0 x1=>bZ t rows s x0 x1) xs1 []) fun couples1 =>
 .rt (.lst couples1)
def fB (t:Nat→List D→R D)(xE:D)(xL:D):L Unit :=
 lS (lB (σ:=Unit) (asB ((dLen [xE]).bind fun x=>dLt xL x)) fun b=>if b=true then lB (dIx xE xL) .rt else .nx ()) fun _ =>
 lS (lB (σ:=Unit) (asB (dEq xE (.lst []))) fun b1=>if b1=true then .rt (.int 0) else .nx ()) fun _ =>
 lB (((((dLen [xE]).bind fun x1=>dMod xL x1).bind fun x2=>dIx xE x2).bind fun x3=>dMul x3 (.int 31)).bind fun x4=>dAdd x4 xL) .rt
def fC (t:Nat→List D→R D)(xE:D)(xL:D)(xG:D):L Unit :=
 lB ((((t F.aO [xE,xL]).bind fun x=>((dAdd xL (.int 1)).bind fun x1=>dMul (.int 6151) x1).bind fun x2=>dAdd x x2).bind fun x3=>dMul x3 (.int 40692)).bind fun x4=>dMod x4 (.int 2147483399)) fun xW =>
 lB ((((dMul xW xW).bind fun x5=>(dDiv xW (.int 31)).bind fun x6=>dAdd x5 x6).bind fun x7=>dMod x7 (.int 2147483629)).bind fun x8=>dMod x8 xG) .rt
def du (t:Nat→List D→R D)(xE:D)(xR:D)(xI:D):L Unit :=
 lB (t F.ag [xE,xR,(.int 6)]) fun xY =>
 lS (lB (σ:=Unit) (rOr (asB (dEq xI (.int 0))) (asB (dLt xY (.int 2)))) fun b=>if b=true then lB ((((dAdd xR (.int 1)).bind fun x=>t F.ag [xE,x,(.int 10)]).bind fun x1=>.ok (.lst [(.int 0),(.int 1),(.int 1),(.int 2),(.int 9),x1])).bind fun x2=>((dAdd xR (.int 2)).bind fun x3=>t F.ag [xE,x3,(.int 6)]).bind fun x4=>dIx x2 x4) .rt else .nx ()) fun _ =>
 lS (lB (σ:=Unit) (asB (dEq xY (.int 2))) fun b1=>if b1=true then lB ((((dAdd xR (.int 3)).bind fun x5=>(dSub xI (.int 1)).bind fun x6=>t F.ai [xE,x5,x6]).bind fun x7=>.ok (.tup [x7])).bind fun x8=>dMul x8 (.int 4)) .rt else .nx ()) fun _ =>
 lB (((rng1 [(.int 4)]).bind fun xs=>cMap (fun xL=>(((dMul (.int 5) xR).bind fun x9=>dAdd x9 (.int 7)).bind fun x10=>(dMul (.int 11) xL).bind fun x11=>dAdd x10 x11).bind fun x12=>(dSub xI (.int 1)).bind fun x13=>t F.ai [xE,x12,x13]) xs).bind fun x14=>dTuple [x14]) .rt
def cq (t:Nat→List D→R D)(xE:D)(xR:D)(yf:D):L Unit :=
 lB ((((t F.ag [xE,xR,(.int 7)]).bind fun x=>dIx (.lst [(.int 0),(.int 0),(.int 0),(.int 1),(.int 1),(.int 2),(.int 3)]) x).bind fun x1=>dSub yf x1).bind fun x2=>dMax2 [(.int 0),x2]) fun xI =>
 lB (((dAdd xR (.int 1)).bind fun x3=>t F.ai [xE,x3,xI]).bind fun x4=>.ok (.tup [xI,x4])) .rt
def b0 (t:Nat→List D→R D)(xN:D)(yg:List D)(yj:D):L (List D) :=
 lB (((((dIx xN yj).bind fun x=>dLen [x]).bind fun x1=>rng1 [x1]).bind fun xs=>cMap (fun xL=>((dIx xN yj).bind fun x2=>dIx x2 xL).bind fun x3=>(((dAdd yj (.int 1)).bind fun x4=>dIx xN x4).bind fun x5=>dIx x5 xL).bind fun x6=>dAdd x3 x6) xs).bind fun x7=>oExt yg x7) fun xX =>
 .nx xX
def bw (t:Nat→List D→R D)(xI:D)(xJ:D):L Unit :=
 lS (lB (σ:=Unit) (asB (dEq xI (.int 0))) fun b=>if b=true then .rt (.lst [(.lst [xJ])]) else .nx ()) fun _ =>
 lB (rIf (asB (dIsA qTup xJ)) (.ok xJ) (dMul (.tup [xJ]) (.int 4))) fun xO =>
 lB ((sq xO).bind fun xs=>cMap (fun ym=>(dSub xI (.int 1)).bind fun x=>t F.aj [x,ym]) xs) fun xN =>
 lS (lB (sq (.tup [(.int 0),(.int 2)])) fun xs2=>lFor (τ:=List D) (fun s x=>b0 t xN s x) xs2 []) fun xX =>
 .rt (.lst xX)
def fD (t:Nat→List D→R D)(xD:D):L Unit :=
 lB (((((dIx xD (.int 0)).bind fun x=>(dIx xD (.int 1)).bind fun x1=>t F.aj [x,x1]).bind fun x2=>sq x2).bind fun xs=>cMap (fun yh=>dTuple [yh]) xs).bind fun x3=>dTuple [x3]) .rt
def bL (t:Nat→List D→R D)(yk:List D)(yh:D):L (List D) :=
 lB ((dList [yh]).bind fun x=>oExt yk x) fun xZ =>
 .nx xZ
def bM (t:Nat→List D→R D)(xD:D)(xG:D)(yk:D)(xT:D):L (Unit) :=
 lB (((dMul xG xG).bind fun x=>rng1 [x]).bind fun xs=>cFil (fun xL=>(asB ((dIx yk xL).bind fun x3=>dEq x3 xT))) (fun xL=>(dMod xL xG).bind fun x1=>(dDiv xL xG).bind fun x2=>.ok (.tup [x1,x2])) xs) fun xM =>
 lS (lB (σ:=D) (asB (dNf xM (.lst []))) fun b=>if b=true then lB (((sq xM).bind fun xs1=>cMap (fun p=>un2 p fun yn ye=>.ok yn) xs1).bind fun x4=>dSortJ [x4]) fun xP =>
 lB (((sq xM).bind fun xs2=>cMap (fun p1=>un2 p1 fun yr yq=>.ok yq) xs2).bind fun x5=>dSortJ [x5]) fun xV =>
 lB ((dIx xP (.int 0)).bind fun x6=>(dIx xV (.int 0)).bind fun x7=>(((dIx xP (.int (-1))).bind fun x8=>(dIx xP (.int 0)).bind fun x9=>dSub x8 x9).bind fun x10=>dAdd x10 (.int 1)).bind fun x11=>(((dIx xV (.int (-1))).bind fun x12=>(dIx xV (.int 0)).bind fun x13=>dSub x12 x13).bind fun x14=>dAdd x14 (.int 1)).bind fun x15=>.ok (.tup [x6,x7,x11,x15])) fun yl =>
 .nx yl else .nx .non) fun xS =>
 lS (lB (σ:=Unit) (rOr (asB ((t F.aE [xD,xT]).bind fun x18=>dNf x18 xS)) (asB (((t F.aH [xD]).bind fun x16=>t F.aE [x16,xT]).bind fun x17=>dNf x17 xS))) fun b1=>if b1=true then .rt (.bl false) else .nx ()) fun _ =>
 lB (rAnd (asB (dIsNot xS .non)) (asB ((t F.aI [xD,xS,xT]).bind fun x19=>((t F.aP [xD]).bind fun x20=>dIx x20 xT).bind fun x21=>dNf x19 x21))) fun b2=>if b2=true then .rt (.bl false) else .nx ()
def bj (t:Nat→List D→R D)(yp:List D)(xT:D)(yo:D):L (List D) :=
 lB ((dMul (.lst [xT]) yo).bind fun x=>oExt yp x) fun ya =>
 .nx ya
def bN (t:Nat→List D→R D)(xD:D)(xF:D)(ye:D):L (Unit) :=
 lB (t F.aL [xD,ye]) fun xQ =>
 lS (lB (sq xQ) fun xs=>lFor (τ:=List D) (fun s p=>lUn2 p fun x0 x1=>bj t s x0 x1) xs []) fun yb =>
 lB (rOr (asB ((dTuple [(.lst yb)]).bind fun x7=>(dIx xF ye).bind fun x8=>dNf x7 x8)) (asB ((((dSw xQ (some 1) none).bind fun x3=>dZip xQ x3).bind fun xs1=>cFil (fun p=>un2 p fun yi xK=>(asB ((dIx yi (.int 0)).bind fun x4=>(dIx xK (.int 0)).bind fun x5=>dEq x4 x5))) (fun p=>un2 p fun yi xK=>.ok (.int 1)) xs1).bind fun x6=>dNf x6 (.lst [])))) fun b=>if b=true then .rt (.bl false) else .nx ()
def bO (t:Nat→List D→R D)(xF:D)(xG:D)(yc:List D)(ye:D):L (List D) :=
 lB ((((dAdd ye (.int 1)).bind fun x=>rng2 [x,xG]).bind fun xs=>cFil (fun xK=>(asB ((dIx xF ye).bind fun x1=>(dIx xF xK).bind fun x2=>dEq x1 x2))) (fun xK=>.ok (.tup [ye,xK])) xs).bind fun x3=>oExt yc x3) fun xU =>
 .nx xU
def d6 (t:Nat→List D→R D)(xE:D):L Unit :=
 lB (t F.ax [xE,(.int 0),(.int 3)]) fun xD =>
 lB (t F.aJ [xD]) fun xF =>
 lB (dLen [xF]) fun xG =>
 lS (lB (sq xF) fun xs=>lFor (τ:=List D) (fun s x=>bL t s x) xs []) fun xH =>
 lS (lB (σ:=Unit) (rOr (asB ((t F.ak [xD]).bind fun x5=>(dSortS [(.lst xH)]).bind fun x6=>dNf x5 x6)) (asB (((t F.aH [xD]).bind fun x2=>t F.ak [x2]).bind fun x3=>(t F.ak [xD]).bind fun x4=>dNf x3 x4))) fun b=>if b=true then .rt (.bl false) else .nx ()) fun _ =>
 lS (lB (rng1 [(.int 10)]) fun xs4=>lFor (τ:=Unit) (fun _ x=>bM t xD xG (.lst xH) x) xs4 ()) fun _ =>
 lS (lB (rng1 [xG]) fun xs7=>lFor (τ:=Unit) (fun _ x=>bN t xD xF x) xs7 ()) fun _ =>
 lS (lB (rng1 [xG]) fun xs9=>lFor (τ:=List D) (fun s x=>bO t xF xG s x) xs9 []) fun xU =>
 lB (vAnd ((t F.ay [xD]).bind fun x47=>dEq x47 (.lst xU)) (((t F.aH [xD]).bind fun x45=>t F.ay [x45]).bind fun x46=>dEq x46 (.lst xU))) .rt
def pf:Nat→Nat→List D→R D
 | 0,_=>fun _=>.stuck
 | n+1,i=>match i with
  | 20=>a1 (eN (pf n))
  | 21=>a1 (cR (pf n))
  | 22=>a1 (dY (pf n))
  | 23=>a3 (cA (pf n))
  | 24=>a2 (aW (pf n))
  | 25=>a1 (bg (pf n))
  | 26=>a1 (bv (pf n))
  | 43=>a4 (bX (pf n))
  | 27=>a1 (bG (pf n))
  | 28=>a1 (aX (pf n))
  | 65=>a1 (bu (pf n))
  | 45=>a1 (dZ (pf n))
  | 46=>a2 (cS (pf n))
  | 47=>a3 (bH (pf n))
  | 49=>a2 (ce (pf n))
  | 50=>a1 (bI (pf n))
  | 29=>a1 (kM (pf n))
  | 66=>a3 (d0 (pf n))
  | 67=>a2 (fz (pf n))
  | 68=>a2 (cg (pf n))
  | 69=>a2 (bh (pf n))
  | 70=>a2 (hV (pf n))
  | 71=>a1 (d4 (pf n))
  | 72=>a1 (cj (pf n))
  | 73=>a2 (bi (pf n))
  | 74=>a3 (cT (pf n))
  | 75=>a1 (fA (pf n))
  | 76=>a1 (ck (pf n))
  | 77=>a2 (cm (pf n))
  | 78=>a2 (dr (pf n))
  | 79=>a2 (d5 (pf n))
  | 80=>a1 (cp (pf n))
  | 30=>a2 (fB (pf n))
  | 31=>a3 (fC (pf n))
  | 32=>a3 (du (pf n))
  | 33=>a3 (cq (pf n))
  | 54=>a2 (bw (pf n))
  | 55=>a1 (fD (pf n))
  | 81=>a1 (d6 (pf n))
  | _=>fun _=>.stuck
theorem l9 (n:Nat)(a0:D):pf (n+1) F.ad [a0]=outL (eN (pf n) a0):=rfl
theorem me (n:Nat)(a0:D):pf (n+1) F.ac [a0]=outL (cR (pf n) a0):=rfl
theorem nB (n:Nat)(a0:D):pf (n+1) F.aF [a0]=outL (dY (pf n) a0):=rfl
theorem iL (n:Nat)(a0 a1 a2:D):pf (n+1) F.an [a0,a1,a2]=outL (cA (pf n) a0 a1 a2):=rfl
theorem gg (n:Nat)(a0 a1:D):pf (n+1) F.al [a0,a1]=outL (aW (pf n) a0 a1):=rfl
theorem gZ (n:Nat)(a0:D):pf (n+1) F.ap [a0]=outL (bg (pf n) a0):=rfl
theorem fE (n:Nat)(a0:D):pf (n+1) F.ah [a0]=outL (bv (pf n) a0):=rfl
theorem gP (n:Nat)(a0 a1 a2 a3:D):pf (n+1) F.aq [a0,a1,a2,a3]=outL (bX (pf n) a0 a1 a2 a3):=rfl
theorem jq (n:Nat)(a0:D):pf (n+1) F.aB [a0]=outL (bG (pf n) a0):=rfl
theorem gh (n:Nat)(a0:D):pf (n+1) F.aa [a0]=outL (aX (pf n) a0):=rfl
theorem iM (n:Nat)(a0:D):pf (n+1) F.az [a0]=outL (bu (pf n) a0):=rfl
theorem nC (n:Nat)(a0:D):pf (n+1) F.ao [a0]=outL (dZ (pf n) a0):=rfl
theorem mf (n:Nat)(a0 a1:D):pf (n+1) F.aC [a0,a1]=outL (cS (pf n) a0 a1):=rfl
theorem jr (n:Nat)(a0 a1 a2:D):pf (n+1) F.aD [a0,a1,a2]=outL (bH (pf n) a0 a1 a2):=rfl
theorem kN (n:Nat)(a0 a1:D):pf (n+1) F.au [a0,a1]=outL (ce (pf n) a0 a1):=rfl
theorem js (n:Nat)(a0:D):pf (n+1) F.ab [a0]=outL (bI (pf n) a0):=rfl
theorem uX (n:Nat)(a0:D):pf (n+1) F.aH [a0]=outL (kM (pf n) a0):=rfl
theorem nD (n:Nat)(a0 a1 a2:D):pf (n+1) F.aG [a0,a1,a2]=outL (d0 (pf n) a0 a1 a2):=rfl
theorem ql (n:Nat)(a0 a1:D):pf (n+1) F.aN [a0,a1]=outL (fz (pf n) a0 a1):=rfl
theorem kO (n:Nat)(a0 a1:D):pf (n+1) F.av [a0,a1]=outL (cg (pf n) a0 a1):=rfl
theorem em (n:Nat)(a0 a1:D):pf (n+1) F.af [a0,a1]=outL (bh (pf n) a0 a1):=rfl
theorem sG (n:Nat)(a0 a1:D):pf (n+1) F.aM [a0,a1]=outL (hV (pf n) a0 a1):=rfl
theorem nE (n:Nat)(a0:D):pf (n+1) F.aK [a0]=outL (d4 (pf n) a0):=rfl
theorem kP (n:Nat)(a0:D):pf (n+1) F.ae [a0]=outL (cj (pf n) a0):=rfl
theorem g6 (n:Nat)(a0 a1:D):pf (n+1) F.ar [a0,a1]=outL (bi (pf n) a0 a1):=rfl
theorem mh (n:Nat)(a0 a1 a2:D):pf (n+1) F.aI [a0,a1,a2]=outL (cT (pf n) a0 a1 a2):=rfl
theorem qm (n:Nat)(a0:D):pf (n+1) F.aP [a0]=outL (fA (pf n) a0):=rfl
theorem kQ (n:Nat)(a0:D):pf (n+1) F.ak [a0]=outL (ck (pf n) a0):=rfl
theorem kR (n:Nat)(a0 a1:D):pf (n+1) F.aw [a0,a1]=outL (cm (pf n) a0 a1):=rfl
theorem jU (n:Nat)(a0 a1:D):pf (n+1) F.aE [a0,a1]=outL (dr (pf n) a0 a1):=rfl
theorem nF (n:Nat)(a0 a1:D):pf (n+1) F.aL [a0,a1]=outL (d5 (pf n) a0 a1):=rfl
theorem kS (n:Nat)(a0:D):pf (n+1) F.ay [a0]=outL (cp (pf n) a0):=rfl
theorem qo (n:Nat)(a0 a1:D):pf (n+1) F.aO [a0,a1]=outL (fB (pf n) a0 a1):=rfl
theorem qp (n:Nat)(a0 a1 a2:D):pf (n+1) F.ag [a0,a1,a2]=outL (fC (pf n) a0 a1 a2):=rfl
theorem jV (n:Nat)(a0 a1 a2:D):pf (n+1) F.ai [a0,a1,a2]=outL (du (pf n) a0 a1 a2):=rfl
theorem kT (n:Nat)(a0 a1 a2:D):pf (n+1) F.ax [a0,a1,a2]=outL (cq (pf n) a0 a1 a2):=rfl
theorem fF (n:Nat)(a0 a1:D):pf (n+1) F.aj [a0,a1]=outL (bw (pf n) a0 a1):=rfl
theorem qq (n:Nat)(a0:D):pf (n+1) F.aJ [a0]=outL (fD (pf n) a0):=rfl
theorem nG (n:Nat)(a0:D):pf (n+1) F.aA [a0]=outL (d6 (pf n) a0):=rfl
end Lw
end
noncomputable section
set_option maxHeartbeats 4000000
namespace Lw
open PySem PySem.Spec PyProof.Rows L2 FF
def top (i:Nat):Stmt:=PySem.Challenge.pw_fourfold_k04_whole_measures.main.body.getD i (.Pass ⟨0,0,0,0⟩)
abbrev eO:Stmt:=top 8
theorem mi:FnScope ["thing"] ["thing"] (defScope eO):=mkSc
abbrev eQ:Stmt:=top 9
theorem mj:FnScope ["thing"] ["thing"] (defScope eQ):=mkSc
abbrev gi:Stmt:=top 10
theorem nH:FnScope ["thing"] ["thing"] (defScope gi):=mkSc
abbrev gj:Stmt:=top 11
theorem nJ:FnScope ["size","thing","is_end"] ["size","thing","is_end"] (defScope gj):=mkSc
abbrev bC:Stmt:=top 12
theorem gm:FnScope ["thing","is_end"] ["thing","is_end"] (defScope bC):=mkSc
abbrev b3:Stmt:=top 13
theorem de:FnScope ["four","first"] ["four"] (defScope b3):=mkSc
abbrev dv:Stmt:=top 14
theorem kU:FnScope ["tree"] ["tree"] (defScope dv):=mkSc
abbrev eR:Stmt:=top 15
theorem dA:FnScope ["tree","side","x","y","half","number"] ["tree","side","x","y"] (defScope eR):=mkSc
abbrev cU:Stmt:=top 18
theorem jt:FnScope ["thing"] ["thing"] (defScope cU):=mkSc
abbrev bD:Stmt:=top 19
theorem gn:FnScope ["thing"] ["thing"] (defScope bD):=mkSc
abbrev cu:Stmt:=top 20
theorem iN:FnScope ["thing"] ["thing"] (defScope cu):=mkSc
abbrev gp:Stmt:=top 21
theorem nK:FnScope ["picture"] ["picture"] (defScope gp):=mkSc
abbrev eS:Stmt:=top 22
theorem ml:FnScope ["side","thing"] ["side","thing"] (defScope eS):=mkSc
abbrev cW:Stmt:=top 23
theorem eo:FnScope ["picture","x","y","side"] ["picture","x","y"] (defScope cW):=mkSc
abbrev dB:Stmt:=top 24
theorem fG:FnScope ["picture","y","side"] ["picture","y"] (defScope dB):=mkSc
abbrev cX:Stmt:=top 25
theorem ju:FnScope ["picture"] ["picture"] (defScope cX):=mkSc
abbrev nL:Stmt:=top 26
theorem uY:FnScope ["picture"] ["picture"] (defScope nL):=mkSc
abbrev gq:Stmt:=top 28
theorem nM:FnScope ["start","length","side"] ["start","length","side"] (defScope gq):=mkSc
abbrev iO:Stmt:=top 29
theorem jW:FnScope ["picture","thing","side"] ["picture","thing"] (defScope iO):=mkSc
abbrev dC:Stmt:=top 30
theorem kW:FnScope ["picture","thing"] ["picture","thing"] (defScope dC):=mkSc
abbrev cY:Stmt:=top 33
theorem jv:FnScope ["tree","order"] ["tree","order"] (defScope cY):=mkSc
abbrev kX:Stmt:=top 34
theorem mn:FnScope ["picture","order","shown"] ["picture","order"] (defScope kX):=mkSc
abbrev gu:Stmt:=top 35
theorem nN:FnScope ["picture"] ["picture"] (defScope gu):=mkSc
abbrev dD:Stmt:=top 37
theorem cZ:FnScope ["rows","worths","row"] ["rows"] (defScope dD):=mkSc
abbrev b4:Stmt:=top 38
theorem df:FnScope ["picture","box","rows"] ["picture","box"] (defScope b4):=mkSc
abbrev eT:Stmt:=top 39
theorem gQ:FnScope ["picture","box","worth","worths"] ["picture","box","worth"] (defScope eT):=mkSc
abbrev iP:Stmt:=top 40
theorem jX:FnScope ["picture","worths"] ["picture"] (defScope iP):=mkSc
abbrev dE:Stmt:=top 42
theorem kY:FnScope ["picture"] ["picture"] (defScope dE):=mkSc
abbrev dF:Stmt:=top 43
theorem kZ:FnScope ["picture","worth"] ["picture","worth"] (defScope dF):=mkSc
abbrev iQ:Stmt:=top 44
theorem gw:FnScope ["picture","worth","down","across"] ["picture","worth"] (defScope iQ):=mkSc
abbrev gz:Stmt:=top 45
theorem eU:FnScope ["picture","y","runs","worth"] ["picture","y"] (defScope gz):=mkSc
abbrev dG:Stmt:=top 46
theorem bP:FnScope ["picture","rows","couples","y","row"] ["picture"] (defScope dG):=mkSc
abbrev iR:Stmt:=top 48
theorem qu:FnScope ["_law_script","_law_k"] ["_law_script","_law_k"] (defScope iR):=mkSc
abbrev iT:Stmt:=top 49
theorem jY:FnScope ["_law_script","_law_k","_law_many","_law_drawn"] ["_law_script","_law_k","_law_many"] (defScope iT):=mkSc
abbrev iU:Stmt:=top 50
theorem jZ:FnScope ["_law_script","_law_at","_law_size","_law_way"] ["_law_script","_law_at","_law_size"] (defScope iU):=mkSc
abbrev dH:Stmt:=top 51
theorem fH:FnScope ["_law_script","_law_at","_law_most","_law_size"] ["_law_script","_law_at","_law_most"] (defScope dH):=mkSc
abbrev dJ:Stmt:=top 52
theorem bn:FnScope ["_law_size","_law_tree_here","_law_parts","_law_some","_law_made","_law_upper"] ["_law_size","_law_tree_here"] (defScope dJ):=mkSc
abbrev iV:Stmt:=top 53
theorem qv:FnScope ["_law_picture_here"] ["_law_picture_here"] (defScope iV):=mkSc
abbrev aN:Stmt:=top 54
theorem au:FnScope ["_law_script","_law_picture_here","_law_rows_here","_law_many","_law_stand","_law_row","_law_worth","_law_spots","_law_box","_law_across","_law_down","_law_y","_law_told","_law_line","_law_often","_law_pairs"] ["_law_script"] (defScope aN):=mkSc
structure Txt (K:PySem.W.Frag)(mg:Str→Option Value)(C:Nat→Addr)(wP:Params):Prop where
 b_all:mg "all"=none
 b_bool:mg "bool"=none
 b_enumerate:mg "enumerate"=none
 b_int:mg "int"=none
 b_isinstance:mg "isinstance"=none
 b_len:mg "len"=none
 b_list:mg "list"=none
 b_max:mg "max"=none
 b_range:mg "range"=none
 b_set:mg "set"=none
 b_sorted:mg "sorted"=none
 b_tuple:mg "tuple"=none
 b_zip:mg "zip"=none
 k_GREATEST_WORTH:∃ t,mg "GREATEST_WORTH"=some (.int 9 t)
 k_LARGEST_SIZE:∃ t,mg "LARGEST_SIZE"=some (.int 3 t)
 t_BY_SWAPPING:∃ a,mg "BY_SWAPPING"=some (.ref a)∧TupK K a [0,2,1,3]
 t_SIDES:∃ a,mg "SIDES"=some (.ref a)∧TupK K a [1,2,4,8]
 f_is_worth:mg "is_worth"=some (.ref (C F.ac))
 c_FourError:mg "FourError"=some (.ref (C 0))
 c_NoPicture:mg "NoPicture"=some (.ref (C 1))
 c_NoSpot:mg "NoSpot"=some (.ref (C 2))
 c_BadBox:mg "BadBox"=some (.ref (C 3))
 x_NoPicture:PySem.W.excIn K (C 1) bmVE "ValueError.__new__"=true
 x_NoSpot:PySem.W.excIn K (C 2) bmVE "ValueError.__new__"=true
 x_BadBox:PySem.W.excIn K (C 3) bmVE "ValueError.__new__"=true
 takes:Takes K C (C 0) (qTk esL)
structure Tab (P:Program)(w:World)(K:PySem.W.Frag)(mg:Str→Option Value)(base:Heap)(C:Nat→Addr)(k:Nat)(t:Nat→List FF.D→FF.R FF.D):Prop where
 g20:Fn1 P w K mg base C k "is_whole" ["thing"] (t F.ad)
 g21:Fn1 P w K mg base C k "is_worth" ["thing"] (t F.ac)
 g22:Fn1 P w K mg base C k "is_size" ["thing"] (t F.aF)
 g23:Fn1 P w K mg base C k "is_tree" ["size","thing","is_end"] (t F.an)
 g24:Fn1 P w K mg base C k "is_sized_tree" ["thing","is_end"] (t F.al)
 g25:Fn1 P w K mg base C k "put_together" ["four"] (t F.ap)
 g26:Fn1 P w K mg base C k "lean_tree" ["tree"] (t F.ah)
 g43:Fn1 P w K mg base C k "worth_in" ["tree","side","x","y"] (t F.aq)
 g27:Fn1 P w K mg base C k "is_picture" ["thing"] (t F.aB)
 g28:Fn1 P w K mg base C k "check_picture" ["thing"] (t F.aa)
 g65:Fn1 P w K mg base C k "check_worth" ["thing"] (t F.az)
 g45:Fn1 P w K mg base C k "side_of" ["picture"] (t F.ao)
 g46:Fn1 P w K mg base C k "is_along" ["side","thing"] (t F.aC)
 g47:Fn1 P w K mg base C k "check_spot" ["picture","x","y"] (t F.aD)
 g49:Fn1 P w K mg base C k "shown_row" ["picture","y"] (t F.au)
 g50:Fn1 P w K mg base C k "shown_rows" ["picture"] (t F.ab)
 g29:Fn1 P w K mg base C k "lean" ["picture"] (t F.aH)
 g66:Fn1 P w K mg base C k "is_span" ["start","length","side"] (t F.aG)
 g67:Fn1 P w K mg base C k "is_box" ["picture","thing"] (t F.aN)
 g68:Fn1 P w K mg base C k "check_box" ["picture","thing"] (t F.av)
 g69:Fn1 P w K mg base C k "moved_tree" ["tree","order"] (t F.af)
 g70:Fn1 P w K mg base C k "moved" ["picture","order"] (t F.aM)
 g71:Fn1 P w K mg base C k "swapped" ["picture"] (t F.aK)
 g72:Fn1 P w K mg base C k "worths_of" ["rows"] (t F.ae)
 g73:Fn1 P w K mg base C k "boxed_worths" ["picture","box"] (t F.ar)
 g74:Fn1 P w K mg base C k "count_in" ["picture","box","worth"] (t F.aI)
 g75:Fn1 P w K mg base C k "counts" ["picture"] (t F.aP)
 g76:Fn1 P w K mg base C k "worths_in" ["picture"] (t F.ak)
 g77:Fn1 P w K mg base C k "rows_with" ["picture","worth"] (t F.aw)
 g78:Fn1 P w K mg base C k "box_of" ["picture","worth"] (t F.aE)
 g79:Fn1 P w K mg base C k "runs_in" ["picture","y"] (t F.aL)
 g80:Fn1 P w K mg base C k "like_rows" ["picture"] (t F.ay)
 g30:Fn1 P w K mg base C k "_law_cell" ["_law_script","_law_k"] (t F.aO)
 g31:Fn1 P w K mg base C k "_law_pick" ["_law_script","_law_k","_law_many"] (t F.ag)
 g32:Fn1 P w K mg base C k "_law_tree" ["_law_script","_law_at","_law_size"] (t F.ai)
 g33:Fn1 P w K mg base C k "_law_picture" ["_law_script","_law_at","_law_most"] (t F.ax)
 g54:Fn1 P w K mg base C k "_law_rows_of" ["_law_size","_law_tree_here"] (t F.aj)
 g55:Fn1 P w K mg base C k "_law_rows" ["_law_picture_here"] (t F.aJ)
 g81:Fn1 P w K mg base C k "law" ["_law_script"] (t F.aA)
 v:∀ i∈fvL,FnV P w K mg base C k i (t i)
section
variable {P:Program}{w:World}{K:PySem.W.Frag}{mg:Str→Option Value}{base:Heap}{C:Nat→Addr}{k:Nat}{t:Nat→List FF.D→FF.R FF.D}(T:Txt K mg C w.params)(G:Tab P w K mg base C k t)
include T G
theorem mo:OkD P w K mg base C k "is_whole" eO ["thing"] (a1 (eN t)):=ok1 mi fun thing _ _ _ _ _ _ _ _ bx _ _=>by
 show FL _ _ [vv thing] _ _ _
 refine aq (ai (cG (aM bx rfl T.b_isinstance uA (ac 0) (br rfl T.b_int (by decide +kernel) rfl)) (dl (wc (aM bx rfl T.b_isinstance rP (ac 0) (br rfl T.b_bool (by decide +kernel) rfl)))))) ?_
 rfl
theorem gR:OkD P w K mg base C k "is_worth" eQ ["thing"] (a1 (cR t)):=ok1 mj fun thing _ _ _ _ _ _ _ _ bx _ _=>by
 show FL _ _ [vv thing] _ _ _
 refine aq (ai (cG (ag bx G.g20 rfl (aa (ac 0) ae)) (dl (oj af (ac 0) (kD T.k_GREATEST_WORTH rfl))))) ?_
 rfl
theorem nO:OkD P w K mg base C k "is_size" gi ["thing"] (a1 (dY t)):=ok1 nH fun thing _ _ _ _ _ _ _ _ bx _ _=>by
 show FL _ _ [vv thing] _ _ _
 refine aq (ai (cG (ag bx G.g20 rfl (aa (ac 0) ae)) (dl (oj af (ac 0) (kD T.k_LARGEST_SIZE rfl))))) ?_
 rfl
theorem nP:OkD P w K mg base C k "is_tree" gj ["size","thing","is_end"] (a3 (cA t)):=ok3 nJ fun size_ thing is_end _ _ _ _ _ _ _ _ bx _ _=>by
 show FL _ _ [vv size_,vv thing,vv is_end] _ _ _
 refine az (inj:=fun (_:Unit) (w:Unit)=>[vv size_,vv thing,vv is_end]) (aB (bp (aY (aM bx rfl T.b_isinstance b8 (ac 1) (br rfl T.b_tuple (by decide +kernel) rfl)))) ?_ ?_ ?_) (fun _ w=>?_)
 rfl
 ·refine aq (ai (rT bx G.v (ac 2) (aa (ac 1) ae))) ?_
  rfl
 ·exact ar ⟨(),rfl⟩
 refine az (inj:=fun (_:Unit) (w1:Unit)=>[vv size_,vv thing,vv is_end]) (aB (ft_w (gL (da bx (ac 0) af) (dk (dq bx (fe_N (cJ bx rfl T.b_len (FAL.out (aa (ac 1) ae)))) af)))) ?_ ?_ ?_) (fun _ w1=>?_)
 rfl
 ·refine aA (ai gK) ?_
  rfl
 ·exact ar ⟨(),rfl⟩
 refine aq (ai (fe_N (rM bx rfl T.b_all (FAL.out (aa (fe_C (aO (N:=["part","is_end","size"]) (own:=1) (cap:=[2,0]) bx (BlkOk.of (by kernel_rfl)) (bc bx.K (ac 1)) (aZ (by decide)) (fun _ _ _ _ _=>ay 0 (show List.Nodup (α:=Str) ["part","is_end","size"] by decide +kernel)) (fun _ _ _ _ _=>(ag (ap bx) G.g23 rfl (aa (cI (ac 2) af) (aa (ac 0) (aa (ac 1) ae))))))) ae))))) ?_
 rfl
theorem gA:OkD P w K mg base C k "is_sized_tree" bC ["thing","is_end"] (a2 (aW t)):=ok2 gm fun thing is_end _ _ _ _ _ _ _ _ bx _ _=>by
 show FL _ _ [vv thing,vv is_end] _ _ _
 refine az (inj:=fun (_:Unit) (w:Unit)=>[vv thing,vv is_end]) (aB (ft_w (gL (bp (aY (aM bx rfl T.b_isinstance b8 (ac 0) (br rfl T.b_tuple (by decide +kernel) rfl)))) (dk (dq bx (fe_N (cJ bx rfl T.b_len (FAL.out (aa (ac 0) ae)))) af)))) ?_ ?_ ?_) (fun _ w=>?_)
 rfl
 ·refine aA (ai gK) ?_
  rfl
 ·exact ar ⟨(),rfl⟩
 refine aq (ai (cG (ag bx G.g22 rfl (aa (ah bx.K (ac 0) af) ae)) (dl (ag bx G.g23 rfl (aa (ah bx.K (ac 0) af) (aa (ah bx.K (ac 0) af) (aa (ac 1) ae))))))) ?_
 rfl
theorem g7:OkD P w K mg base C k "put_together" b3 ["four"] (a1 (bg t)):=ok1 de fun four _ _ _ _ _ _ _ _ bx _ _=>by
 show FL _ _ [vv four,nn] _ _ _
 refine aj (S':=fun first=>[vv four,vv first]) (aH 1 de.nd (ah bx.K (ac 0) af)) ?_ (fun first=>?_)
 rfl
 refine az (inj:=fun (_:Unit) (w:Unit)=>[vv four,vv first]) (aB (ft_w (mX (bp (aY (aM bx rfl T.b_isinstance b8 (ac 1) (br rfl T.b_tuple (by decide +kernel) rfl)))) (kz (da bx (ac 0) (aP (aa (ac 1) (aa (ac 1) (aa (ac 1) (aa (ac 1) ae))))))))) ?_ ?_ ?_) (fun _ w=>?_)
 rfl
 ·refine aA (ai (ac 1)) ?_
  rfl
 ·exact ar ⟨(),rfl⟩
 refine aA (ai (ac 0)) ?_
 rfl
theorem k4:OkD P w K mg base C k "lean_tree" dv ["tree"] (a1 (bv t)):=ok1 kU fun tree_ _ _ _ _ _ _ _ _ bx _ _=>by
 show FL _ _ [vv tree_] _ _ _
 refine az (inj:=fun (_:Unit) (w:Unit)=>[vv tree_]) (aB (bp (aY (aM bx rfl T.b_isinstance b8 (ac 0) (br rfl T.b_tuple (by decide +kernel) rfl)))) ?_ ?_ ?_) (fun _ w=>?_)
 rfl
 ·refine aA (ai (ac 0)) ?_
  rfl
 ·exact ar ⟨(),rfl⟩
 refine aq (ai (ag bx G.g25 rfl (aa (fe_N (bd bx rfl T.b_tuple (FAL.out (aa (fe_C (aO (N:=["part"]) (own:=1) (cap:=[]) bx (BlkOk.of (by kernel_rfl)) (bc bx.K (ac 0)) (aZ (by decide)) (fun _ _ _ _ _=>ay 0 (show List.Nodup (α:=Str) ["part"] by decide +kernel)) (fun _ _ _ _ _=>(ag (ap bx) G.g26 rfl (aa (ac 0) ae))))) ae)))) ae))) ?_
 rfl
theorem mq:OkD P w K mg base C k "worth_in" eR ["tree","side","x","y"] (a4 (bX t)):=ok4 dA fun tree_ side x y _ _ _ _ _ _ _ _ bx _ _=>by
 show FL _ _ [vv tree_,vv side,vv x,vv y,nn,nn] _ _ _
 refine az (inj:=fun (_:Unit) (w:Unit)=>[vv tree_,vv side,vv x,vv y,nn,nn]) (aB (bp (aY (aM bx rfl T.b_isinstance b8 (ac 0) (br rfl T.b_tuple (by decide +kernel) rfl)))) ?_ ?_ ?_) (fun _ w=>?_)
 rfl
 ·refine aA (ai (ac 0)) ?_
  rfl
 ·exact ar ⟨(),rfl⟩
 refine aj (S':=fun half=>[vv tree_,vv side,vv x,vv y,vv half,nn]) (aH 4 dA.nd (ip (ac 1) af)) ?_ (fun half=>?_)
 rfl
 refine aj (S':=fun number=>[vv tree_,vv side,vv x,vv y,vv half,vv number]) (aH 5 dA.nd (aD bx.K (bV bx.K af (ip (ac 3) (ac 4))) (ip (ac 2) (ac 4)))) ?_ (fun number=>?_)
 rfl
 refine aq (ai (ag bx G.g43 rfl (aa (ah bx.K (ac 0) (ac 5)) (aa (ac 4) (aa (eD (ac 2) (ac 4)) (aa (eD (ac 3) (ac 4)) ae)))))) ?_
 rfl
theorem jw:OkD P w K mg base C k "is_picture" cU ["thing"] (a1 (bG t)):=ok1 jt fun thing _ _ _ _ _ _ _ _ bx _ _=>by
 show FL _ _ [vv thing] _ _ _
 refine aq (ai (ag bx G.g24 rfl (aa (ac 0) (aa (xn T.f_is_worth rfl) ae)))) ?_
 rfl
theorem gC:OkD P w K mg base C k "check_picture" bD ["thing"] (a1 (aX t)):=ok1 gn fun thing _ _ _ _ _ _ _ _ bx _ made=>by
 show FL _ _ [vv thing] _ _ _
 refine eG (aB (bp (aY (ag bx G.g27 rfl (aa (ac 0) ae)))) ?_ ?_ ?_)
 rfl
 ·refine oo (fh 1 bx made rfl T.c_NoPicture T.x_NoPicture (FAL.out (aa kx ae))) ?_
  rfl
 ·exact ar True.intro
theorem iW:OkD P w K mg base C k "check_worth" cu ["thing"] (a1 (bu t)):=ok1 iN fun thing _ _ _ _ _ _ _ _ bx _ made=>by
 show FL _ _ [vv thing] _ _ _
 refine eG (aB (bp (aY (ag bx G.g21 rfl (aa (ac 0) ae)))) ?_ ?_ ?_)
 rfl
 ·refine oo (fh 1 bx made rfl T.c_NoPicture T.x_NoPicture (FAL.out (aa kx ae))) ?_
  rfl
 ·exact ar True.intro
theorem nQ:OkD P w K mg base C k "side_of" gp ["picture"] (a1 (dZ t)):=ok1 nK fun picture _ _ _ _ _ _ _ _ bx _ _=>by
 show FL _ _ [vv picture] _ _ _
 refine aq (ai (ah bx.K (on T.t_SIDES rfl) (ah bx.K (ac 0) af))) ?_
 rfl
theorem mr:OkD P w K mg base C k "is_along" eS ["side","thing"] (a2 (cS t)):=ok2 ml fun side thing _ _ _ _ _ _ _ _ bx _ _=>by
 show FL _ _ [vv side,vv thing] _ _ _
 refine aq (ai (cG (ag bx G.g20 rfl (aa (ac 1) ae)) (dl (ux af (ac 1) (ac 0))))) ?_
 rfl
theorem jz:OkD P w K mg base C k "check_spot" cW ["picture","x","y"] (a3 (bH t)):=ok3 eo fun picture x y _ _ _ _ _ _ _ _ bx _ made=>by
 show FL _ _ [vv picture,vv x,vv y,nn] _ _ _
 refine aj (S':=fun side=>[vv picture,vv x,vv y,vv side]) (aH 3 eo.nd (ag bx G.g45 rfl (aa (ac 0) ae))) ?_ (fun side=>?_)
 rfl
 refine eG (aB (ft_w (gL (bp (aY (ag bx G.g46 rfl (aa (ac 3) (aa (ac 1) ae))))) (dk (bp (aY (ag bx G.g46 rfl (aa (ac 3) (aa (ac 2) ae)))))))) ?_ ?_ ?_)
 rfl
 ·refine oo (fh 2 bx made rfl T.c_NoSpot T.x_NoSpot (FAL.out (aa kx ae))) ?_
  rfl
 ·exact ar True.intro
theorem k6:OkD P w K mg base C k "shown_row" dB ["picture","y"] (a2 (ce t)):=ok2 fG fun picture y _ _ _ _ _ _ _ _ bx _ _=>by
 show FL _ _ [vv picture,vv y,nn] _ _ _
 refine aj (S':=fun side=>[vv picture,vv y,vv side]) (aH 2 fG.nd (ag bx G.g45 rfl (aa (ac 0) ae))) ?_ (fun side=>?_)
 rfl
 refine aq (ai (fe_N (bd bx rfl T.b_tuple (FAL.out (aa (fe_C (aO (N:=["x","side","y","picture"]) (own:=1) (cap:=[2,1,0]) bx (BlkOk.of (by kernel_rfl)) (fi (aU rfl T.b_range (FAL.out (aa (ac 2) ae)))) (aZ (by decide)) (fun _ _ _ _ _=>ay 0 (show List.Nodup (α:=Str) ["x","side","y","picture"] by decide +kernel)) (fun _ _ _ _ _=>(ag (ap bx) G.g43 rfl (aa (ah (ap bx).K (ac 3) af) (aa (ac 1) (aa (ac 0) (aa (ac 2) ae)))))))) ae))))) ?_
 rfl
theorem jA:OkD P w K mg base C k "shown_rows" cX ["picture"] (a1 (bI t)):=ok1 ju fun picture _ _ _ _ _ _ _ _ bx _ _=>by
 show FL _ _ [vv picture] _ _ _
 refine aj (S':=fun _=>[vv picture]) (b7 (ag bx G.g28 rfl (aa (ac 0) ae))) ?_ (fun _=>?_)
 rfl
 refine aq (ai (fe_N (bd bx rfl T.b_tuple (FAL.out (aa (fe_C (aO (N:=["y","picture"]) (own:=1) (cap:=[0]) bx (BlkOk.of (by kernel_rfl)) (fi (aU rfl T.b_range (FAL.out (aa (ag bx G.g45 rfl (aa (ac 0) ae)) ae)))) (aZ (by decide)) (fun _ _ _ _ _=>ay 0 (show List.Nodup (α:=Str) ["y","picture"] by decide +kernel)) (fun _ _ _ _ _=>(ag (ap bx) G.g49 rfl (aa (ac 1) (aa (ac 0) ae)))))) ae))))) ?_
 rfl
theorem uZ:OkD P w K mg base C k "lean" nL ["picture"] (a1 (kM t)):=ok1 uY fun picture _ _ _ _ _ _ _ _ bx _ _=>by
 show FL _ _ [vv picture] _ _ _
 refine aj (S':=fun _=>[vv picture]) (b7 (ag bx G.g28 rfl (aa (ac 0) ae))) ?_ (fun _=>?_)
 rfl
 refine aq (ai (aP (aa (ah bx.K (ac 0) af) (aa (ag bx G.g26 rfl (aa (ah bx.K (ac 0) af) ae)) ae)))) ?_
 rfl
theorem nR:OkD P w K mg base C k "is_span" gq ["start","length","side"] (a3 (d0 t)):=ok3 nM fun start length side _ _ _ _ _ _ _ _ bx _ _=>by
 show FL _ _ [vv start,vv length,vv side] _ _ _
 refine aq (ai (cG (rG af (ac 0)) (cG (rG af (ac 1)) (dl (rG (aD bx.K (ac 0) (ac 1)) (ac 2)))))) ?_
 rfl
theorem qw:OkD P w K mg base C k "is_box" iO ["picture","thing"] (a2 (fz t)):=ok2 jW fun picture thing _ _ _ _ _ _ _ _ bx _ _=>by
 show FL _ _ [vv picture,vv thing,nn] _ _ _
 refine az (inj:=fun (_:Unit) (w:Unit)=>[vv picture,vv thing,nn]) (aB (ft_w (gL (bp (aY (aM bx rfl T.b_isinstance b8 (ac 1) (br rfl T.b_tuple (by decide +kernel) rfl)))) (dk (dq bx (fe_N (cJ bx rfl T.b_len (FAL.out (aa (ac 1) ae)))) af)))) ?_ ?_ ?_) (fun _ w=>?_)
 rfl
 ·refine aA (ai gK) ?_
  rfl
 ·exact ar ⟨(),rfl⟩
 refine az (inj:=fun (_:Unit) (w1:Unit)=>[vv picture,vv thing,nn]) (aB (bp (aY (fe_N (rM bx rfl T.b_all (FAL.out (aa (fe_C (aO (N:=["number"]) (own:=1) (cap:=[]) bx (BlkOk.of (by kernel_rfl)) (bc bx.K (ac 1)) (aZ (by decide)) (fun _ _ _ _ _=>ay 0 (show List.Nodup (α:=Str) ["number"] by decide +kernel)) (fun _ _ _ _ _=>(ag (ap bx) G.g20 rfl (aa (ac 0) ae))))) ae)))))) ?_ ?_ ?_) (fun _ w1=>?_)
 rfl
 ·refine aA (ai gK) ?_
  rfl
 ·exact ar ⟨(),rfl⟩
 refine aj (S':=fun side=>[vv picture,vv thing,vv side]) (aH 2 jW.nd (ag bx G.g45 rfl (aa (ac 0) ae))) ?_ (fun side=>?_)
 rfl
 refine aq (ai (cG (ag bx G.g66 rfl (aa (ah bx.K (ac 1) af) (aa (ah bx.K (ac 1) af) (aa (ac 2) ae)))) (dl (ag bx G.g66 rfl (aa (ah bx.K (ac 1) af) (aa (ah bx.K (ac 1) af) (aa (ac 2) ae))))))) ?_
 rfl
theorem k7:OkD P w K mg base C k "check_box" dC ["picture","thing"] (a2 (cg t)):=ok2 kW fun picture thing _ _ _ _ _ _ _ _ bx _ made=>by
 show FL _ _ [vv picture,vv thing] _ _ _
 refine eG (aB (bp (aY (ag bx G.g67 rfl (aa (ac 0) (aa (ac 1) ae))))) ?_ ?_ ?_)
 rfl
 ·refine oo (fh 3 bx made rfl T.c_BadBox T.x_BadBox (FAL.out (aa kx ae))) ?_
  rfl
 ·exact ar True.intro
theorem jB:OkD P w K mg base C k "moved_tree" cY ["tree","order"] (a2 (bh t)):=ok2 jv fun tree_ order _ _ _ _ _ _ _ _ bx _ _=>by
 show FL _ _ [vv tree_,vv order] _ _ _
 refine az (inj:=fun (_:Unit) (w:Unit)=>[vv tree_,vv order]) (aB (bp (aY (aM bx rfl T.b_isinstance b8 (ac 0) (br rfl T.b_tuple (by decide +kernel) rfl)))) ?_ ?_ ?_) (fun _ w=>?_)
 rfl
 ·refine aA (ai (ac 0)) ?_
  rfl
 ·exact ar ⟨(),rfl⟩
 refine aq (ai (fe_N (bd bx rfl T.b_tuple (FAL.out (aa (fe_C (aO (N:=["number","order","tree"]) (own:=1) (cap:=[1,0]) bx (BlkOk.of (by kernel_rfl)) (bc bx.K (ac 1)) (aZ (by decide)) (fun _ _ _ _ _=>ay 0 (show List.Nodup (α:=Str) ["number","order","tree"] by decide +kernel)) (fun _ _ _ _ _=>(ag (ap bx) G.g69 rfl (aa (ah (ap bx).K (ac 2) (ac 0)) (aa (ac 1) ae)))))) ae))))) ?_
 rfl
theorem sH:OkD P w K mg base C k "moved" kX ["picture","order"] (a2 (hV t)):=ok2 mn fun picture order _ _ _ _ _ _ _ _ bx _ _=>by
 show FL _ _ [vv picture,vv order,nn] _ _ _
 refine aj (S':=fun shown=>[vv picture,vv order,vv shown]) (aH 2 mn.nd (ag bx G.g29 rfl (aa (ac 0) ae))) ?_ (fun shown=>?_)
 rfl
 refine aq (ai (aP (aa (ah bx.K (ac 2) af) (aa (ag bx G.g69 rfl (aa (ah bx.K (ac 2) af) (aa (ac 1) ae))) ae)))) ?_
 rfl
theorem nS:OkD P w K mg base C k "swapped" gu ["picture"] (a1 (d4 t)):=ok1 nN fun picture _ _ _ _ _ _ _ _ bx _ _=>by
 show FL _ _ [vv picture] _ _ _
 refine aq (ai (ag bx G.g70 rfl (aa (ac 0) (aa (on T.t_BY_SWAPPING rfl) ae)))) ?_
 rfl
theorem k8:OkD P w K mg base C k "worths_of" dD ["rows"] (a1 (cj t)):=ok1 cZ fun rows _ _ _ _ _ _ _ _ bx hpo _=>by
 show FL _ _ [vv rows,nn,nn] _ _ _
 refine cy (S':=[vv rows,ow [],nn]) (fs_O (iA 1 cZ.nd (FAL.out ae))) ?_ ?_
 rfl
 refine az (inj:=fun (s:List D) (w:Option Sl)=>[vv rows,ow s,w]) (cL 2 (B:=fun (s:List D) (w:Option Sl) x=>[vv rows,ow s,vv x]) nn hpo rfl (bc bx.K (ac 0)) ?_ (ay 2 cZ.nd) rfl (fun _ _ _=>rfl) (fun s w x=>?_)) (fun worths1 w1=>?_)
 rfl
 ·refine aj (S':=fun worths=>[vv rows,ow worths,vv x]) (fs_X (bQ 1 bx.K (FAL.out (aa (ac 2) ae)))) ?_ (fun worths=>?_)
  rfl
  exact ar ⟨vv x,rfl⟩
 refine eF 1 (S':=[vv rows,vv (.lst worths1),w1]) rfl rfl ?_
 refine aA (ai (ac 1)) ?_
 rfl
theorem g8:OkD P w K mg base C k "boxed_worths" b4 ["picture","box"] (a2 (bi t)):=ok2 df fun picture box _ _ _ _ _ _ _ _ bx _ _=>by
 show FL _ _ [vv picture,vv box,nn] _ _ _
 refine aj (S':=fun _=>[vv picture,vv box,nn]) (b7 (ag bx G.g28 rfl (aa (ac 0) ae))) ?_ (fun _=>?_)
 rfl
 refine aj (S':=fun _=>[vv picture,vv box,nn]) (b7 (ag bx G.g68 rfl (aa (ac 0) (aa (ac 1) ae)))) ?_ (fun _=>?_)
 rfl
 refine aj (S':=fun rows=>[vv picture,vv box,vv rows]) (aH 2 df.nd (na bx.K (ag bx G.g50 rfl (aa (ac 0) ae)) (lK (ah bx.K (ac 1) af)) (lK (aD bx.K (ah bx.K (ac 1) af) (ah bx.K (ac 1) af))))) ?_ (fun rows=>?_)
 rfl
 refine aq (ai (ag bx G.g72 rfl (aa (fe_C (aO (N:=["row","box"]) (own:=1) (cap:=[1]) bx (BlkOk.of (by kernel_rfl)) (bc bx.K (ac 2)) (aZ (by decide)) (fun _ _ _ _ _=>ay 0 (show List.Nodup (α:=Str) ["row","box"] by decide +kernel)) (fun _ _ _ _ _=>(na (ap bx).K (ac 0) (lK (ah (ap bx).K (ac 1) af)) (lK (aD (ap bx).K (ah (ap bx).K (ac 1) af) (ah (ap bx).K (ac 1) af))))))) ae))) ?_
 rfl
theorem mt:OkD P w K mg base C k "count_in" eT ["picture","box","worth"] (a3 (cT t)):=ok3 gQ fun picture box worth _ _ _ _ _ _ _ _ bx _ _=>by
 show FL _ _ [vv picture,vv box,vv worth,nn] _ _ _
 refine aj (S':=fun worths=>[vv picture,vv box,vv worth,vv worths]) (aH 3 gQ.nd (ag bx G.g73 rfl (aa (ac 0) (aa (ac 1) ae)))) ?_ (fun worths=>?_)
 rfl
 refine aq (ai (vz (aY (ag bx G.g21 rfl (aa (ac 2) ae))) (vC (jQ bx (ac 3) (FAL.out (aa (ac 2) ae)))) af)) ?_
 rfl
theorem qA:OkD P w K mg base C k "counts" iP ["picture"] (a1 (fA t)):=ok1 jX fun picture _ _ _ _ _ _ _ _ bx _ _=>by
 show FL _ _ [vv picture,nn] _ _ _
 refine aj (S':=fun worths=>[vv picture,vv worths]) (aH 1 jX.nd (ag bx G.g72 rfl (aa (ag bx G.g50 rfl (aa (ac 0) ae)) ae))) ?_ (fun worths=>?_)
 rfl
 refine aq (ai (fe_N (bd bx rfl T.b_tuple (FAL.out (aa (fe_C (aO (N:=["worth","worths"]) (own:=1) (cap:=[1]) bx (BlkOk.of (by kernel_rfl)) (fi (aU rfl T.b_range (FAL.out (aa (aD bx.K (kD T.k_GREATEST_WORTH rfl) af) ae)))) (aZ (by decide)) (fun _ _ _ _ _=>ay 0 (show List.Nodup (α:=Str) ["worth","worths"] by decide +kernel)) (fun _ _ _ _ _=>(vC (jQ (ap bx) (ac 1) (FAL.out (aa (ac 0) ae))))))) ae))))) ?_
 rfl
theorem k9:OkD P w K mg base C k "worths_in" dE ["picture"] (a1 (ck t)):=ok1 kY fun picture _ _ _ _ _ _ _ _ bx _ _=>by
 show FL _ _ [vv picture] _ _ _
 refine aq (ai (fe_N (fw bx rfl T.b_sorted rfl T.b_set (FAL.out (aa (ag bx G.g72 rfl (aa (ag bx G.g50 rfl (aa (ac 0) ae)) ae)) ae))))) ?_
 rfl
theorem lb:OkD P w K mg base C k "rows_with" dF ["picture","worth"] (a2 (cm t)):=ok2 kZ fun picture worth _ _ _ _ _ _ _ _ bx _ _=>by
 show FL _ _ [vv picture,vv worth] _ _ _
 refine aq (ai (rV (dW (N:=["y","row","worth"]) (own:=2) (cap:=[1]) bx (BlkOk.of (by kernel_rfl)) (fm bx rfl T.b_enumerate (ag bx G.g50 rfl (aa (ac 0) ae))) (fj (by decide) (by decide)) (fun _ _ _ _ _=>dX 0 1 rfl (show List.Nodup (α:=Str) ["y","row","worth"] by decide +kernel)) (fun _ _ _ _ _=>(wB (ap bx) (ac 2) (ac 1))) (fun _ _ _ _ _=>(ac 0))))) ?_
 rfl
theorem qB:OkD P w K mg base C k "box_of" iQ ["picture","worth"] (a2 (dr t)):=ok2 gw fun picture worth _ _ _ _ _ _ _ _ bx _ _=>by
 show FL _ _ [vv picture,vv worth,nn,nn] _ _ _
 refine aj (S':=fun _=>[vv picture,vv worth,nn,nn]) (b7 (ag bx G.g28 rfl (aa (ac 0) ae))) ?_ (fun _=>?_)
 rfl
 refine aj (S':=fun _=>[vv picture,vv worth,nn,nn]) (b7 (ag bx G.g65 rfl (aa (ac 1) ae))) ?_ (fun _=>?_)
 rfl
 refine aj (S':=fun down=>[vv picture,vv worth,vv down,nn]) (aH 2 gw.nd (ag bx G.g77 rfl (aa (ac 0) (aa (ac 1) ae)))) ?_ (fun down=>?_)
 rfl
 refine az (inj:=fun (_:Unit) (w:Unit)=>[vv picture,vv worth,vv down,nn]) (aB (da bx (fe_N (cJ bx rfl T.b_len (FAL.out (aa (ac 2) ae)))) af) ?_ ?_ ?_) (fun _ w=>?_)
 rfl
 ·refine aA (ai mW) ?_
  rfl
 ·exact ar ⟨(),rfl⟩
 refine aj (S':=fun across=>[vv picture,vv worth,vv down,vv across]) (aH 3 gw.nd (ag bx G.g77 rfl (aa (ag bx G.g71 rfl (aa (ac 0) ae)) (aa (ac 1) ae)))) ?_ (fun across=>?_)
 rfl
 refine aq (ai (aP (aa (ah bx.K (ac 3) af) (aa (ah bx.K (ac 2) af) (aa (aD bx.K (cI (ah bx.K (ac 3) (eE af)) (ah bx.K (ac 3) af)) af) (aa (aD bx.K (cI (ah bx.K (ac 2) (eE af)) (ah bx.K (ac 2) af)) af) ae)))))) ?_
 rfl
theorem nT:OkD P w K mg base C k "runs_in" gz ["picture","y"] (a2 (d5 t)):=ok2 eU fun picture y _ _ _ _ _ _ _ _ bx hpo _=>by
 show FL _ _ [vv picture,vv y,nn,nn] _ _ _
 refine aj (S':=fun _=>[vv picture,vv y,nn,nn]) (b7 (ag bx G.g28 rfl (aa (ac 0) ae))) ?_ (fun _=>?_)
 rfl
 refine aj (S':=fun _=>[vv picture,vv y,nn,nn]) (b7 (ag bx G.g47 rfl (aa (ac 0) (aa af (aa (ac 1) ae))))) ?_ (fun _=>?_)
 rfl
 refine cy (S':=[vv picture,vv y,ow [],nn]) (fs_O (iA 2 eU.nd (FAL.out ae))) ?_ ?_
 rfl
 refine az (inj:=fun (s:List D) (w:Option Sl)=>[vv picture,vv y,ow s,w]) (cL 3 (B:=fun (s:List D) (w:Option Sl) x2=>[vv picture,vv y,ow s,vv x2]) nn hpo rfl (bc bx.K (ah bx.K (ag bx G.g50 rfl (aa (ac 0) ae)) (ac 1))) ?_ (ay 3 eU.nd) rfl (fun _ _ _=>rfl) (fun s w x2=>?_)) (fun runs2 w1=>?_)
 rfl
 ·refine eG (aB (ft_w (mX (wX (qf 2 bx rfl T.b_len) af) (kz (da bx (ah bx.K (lN 2 bx.K (eE af)) af) (ac 3))))) ?_ ?_ ?_)
  rfl
  ·refine aj (S':=fun runs=>[vv picture,vv y,ow runs,vv x2]) (qk 2 bx (aP (aa (ac 3) (aa (aD bx.K (ah bx.K (lN 2 bx.K (eE af)) af) af) ae))) (eE af)) ?_ (fun runs=>?_)
   rfl
   exact ar ⟨vv x2,rfl⟩
  ·refine aj (S':=fun runs1=>[vv picture,vv y,ow runs1,vv x2]) (fs_A (pI 2 (FAL.out (aa (aP (aa (ac 3) (aa af ae))) ae)))) ?_ (fun runs1=>?_)
   rfl
   exact ar ⟨vv x2,rfl⟩
 refine eF 2 (S':=[vv picture,vv y,vv (.lst runs2),w1]) rfl rfl ?_
 refine aA (ai (ac 2)) ?_
 rfl
theorem lc:OkD P w K mg base C k "like_rows" dG ["picture"] (a1 (cp t)):=ok1 bP fun picture _ _ _ _ _ _ _ _ bx hpo _=>by
 show FL _ _ [vv picture,nn,nn,nn,nn] _ _ _
 refine aj (S':=fun rows=>[vv picture,vv rows,nn,nn,nn]) (aH 1 bP.nd (ag bx G.g50 rfl (aa (ac 0) ae))) ?_ (fun rows=>?_)
 rfl
 refine cy (S':=[vv picture,vv rows,ow [],nn,nn]) (fs_O (iA 2 bP.nd (FAL.out ae))) ?_ ?_
 rfl
 refine az (inj:=fun (s:List D) (w:Option Sl×Option Sl)=>[vv picture,vv rows,ow s,w.1,w.2]) (lP 3 4 (B:=fun (s:List D) (w:Option Sl×Option Sl) x x1=>[vv picture,vv rows,ow s,vv x,vv x1]) (nn,nn) hpo rfl (fm bx rfl T.b_enumerate (ac 1)) ?_ (dX 3 4 rfl bP.nd) rfl (fun _ _ _ _=>rfl) (fun s w x x1=>?_)) (fun couples1 w1=>?_)
 rfl
 ·refine aj (S':=fun couples=>[vv picture,vv rows,ow couples,vv x,vv x1]) (fs_X (bQ 2 bx.K (FAL.out (aa (fe_C (dW (N:=["other","y","row","rows"]) (own:=1) (cap:=[3,4,1]) bx (BlkOk.of (by kernel_rfl)) (vD (jN rfl T.b_range (FAL.out (aa (aD bx.K (ac 3) af) (aa (fe_N (cJ bx rfl T.b_len (FAL.out (aa (ac 1) ae)))) ae))))) (aZ (by decide)) (fun _ _ _ _ _=>ay 0 (show List.Nodup (α:=Str) ["other","y","row","rows"] by decide +kernel)) (fun _ _ _ _ _=>(da (ap bx) (ah (ap bx).K (ac 3) (ac 0)) (ac 2))) (fun _ _ _ _ _=>(aP (aa (ac 1) (aa (ac 0) ae)))))) ae)))) ?_ (fun couples=>?_)
  rfl
  exact ar ⟨(vv x,vv x1),rfl⟩
 refine eF 2 (S':=[vv picture,vv rows,vv (.lst couples1),w1.1,w1.2]) rfl rfl ?_
 refine aA (ai (ac 2)) ?_
 rfl
theorem qC:OkD P w K mg base C k "_law_cell" iR ["_law_script","_law_k"] (a2 (fB t)):=ok2 qu fun xE xL _ _ _ _ _ _ _ _ bx _ _=>by
 show FL _ _ [vv xE,vv xL] _ _ _
 refine az (inj:=fun (_:Unit) (w:Unit)=>[vv xE,vv xL]) (aB (vA (ac 1) (fe_N (cJ bx rfl T.b_len (FAL.out (aa (ac 0) ae))))) ?_ ?_ ?_) (fun _ w=>?_)
 rfl
 ·refine aq (ai (ah bx.K (ac 0) (ac 1))) ?_
  rfl
 ·exact ar ⟨(),rfl⟩
 refine az (inj:=fun (_:Unit) (w1:Unit)=>[vv xE,vv xL]) (aB (da bx (ac 0) (b9 ae)) ?_ ?_ ?_) (fun _ w1=>?_)
 rfl
 ·refine aA (ai af) ?_
  rfl
 ·exact ar ⟨(),rfl⟩
 refine aq (ai (aD bx.K (bV bx.K (ah bx.K (ac 0) (eD (ac 1) (fe_N (cJ bx rfl T.b_len (FAL.out (aa (ac 0) ae)))))) af) (ac 1))) ?_
 rfl
theorem qD:OkD P w K mg base C k "_law_pick" iT ["_law_script","_law_k","_law_many"] (a3 (fC t)):=ok3 jY fun xE xL xG _ _ _ _ _ _ _ _ bx _ _=>by
 show FL _ _ [vv xE,vv xL,vv xG,nn] _ _ _
 refine aj (S':=fun xW=>[vv xE,vv xL,vv xG,vv xW]) (aH 3 jY.nd (eD (bV bx.K (aD bx.K (ag bx G.g30 rfl (aa (ac 0) (aa (ac 1) ae))) (bV bx.K af (aD bx.K (ac 1) af))) af) af)) ?_ (fun xW=>?_)
 rfl
 refine aq (ai (eD (eD (aD bx.K (bV bx.K (ac 3) (ac 3)) (ip (ac 3) af)) af) (ac 2))) ?_
 rfl
theorem qE:OkD P w K mg base C k "_law_tree" iU ["_law_script","_law_at","_law_size"] (a3 (du t)):=ok3 jZ fun xE xR xI _ _ _ _ _ _ _ _ bx _ _=>by
 show FL _ _ [vv xE,vv xR,vv xI,nn] _ _ _
 refine aj (S':=fun xY=>[vv xE,vv xR,vv xI,vv xY]) (aH 3 jZ.nd (ag bx G.g31 rfl (aa (ac 0) (aa (ac 1) (aa af ae))))) ?_ (fun xY=>?_)
 rfl
 refine az (inj:=fun (_:Unit) (w:Unit)=>[vv xE,vv xR,vv xI,vv xY]) (aB (ft_w (gL (da bx (ac 2) af) (dk (vA (ac 3) af)))) ?_ ?_ ?_) (fun _ w=>?_)
 rfl
 ·refine aq (ai (ah bx.K (b9 (aa af (aa af (aa af (aa af (aa af (aa (ag bx G.g31 rfl (aa (ac 0) (aa (aD bx.K (ac 1) af) (aa af ae)))) ae))))))) (ag bx G.g31 rfl (aa (ac 0) (aa (aD bx.K (ac 1) af) (aa af ae)))))) ?_
  rfl
 ·exact ar ⟨(),rfl⟩
 refine az (inj:=fun (_:Unit) (w1:Unit)=>[vv xE,vv xR,vv xI,vv xY]) (aB (da bx (ac 3) af) ?_ ?_ ?_) (fun _ w1=>?_)
 rfl
 ·refine aq (ai (bV bx.K (aP (aa (ag bx G.g32 rfl (aa (ac 0) (aa (aD bx.K (ac 1) af) (aa (cI (ac 2) af) ae)))) ae)) af)) ?_
  rfl
 ·exact ar ⟨(),rfl⟩
 refine aq (ai (fe_N (bd bx rfl T.b_tuple (FAL.out (aa (fe_C (aO (N:=["_law_k","_law_script","_law_size","_law_at"]) (own:=1) (cap:=[0,2,1]) bx (BlkOk.of (by kernel_rfl)) (fi (aU rfl T.b_range (FAL.out (aa af ae)))) (aZ (by decide)) (fun _ _ _ _ _=>ay 0 (show List.Nodup (α:=Str) ["_law_k","_law_script","_law_size","_law_at"] by decide +kernel)) (fun _ _ _ _ _=>(ag (ap bx) G.g32 rfl (aa (ac 1) (aa (aD (ap bx).K (aD (ap bx).K (bV (ap bx).K af (ac 3)) af) (bV (ap bx).K af (ac 0))) (aa (cI (ac 2) af) ae))))))) ae))))) ?_
 rfl
theorem lg:OkD P w K mg base C k "_law_picture" dH ["_law_script","_law_at","_law_most"] (a3 (cq t)):=ok3 fH fun xE xR yf _ _ _ _ _ _ _ _ bx _ _=>by
 show FL _ _ [vv xE,vv xR,vv yf,nn] _ _ _
 refine aj (S':=fun xI=>[vv xE,vv xR,vv yf,vv xI]) (aH 3 fH.nd (fe_N (uz bx rfl T.b_max (FAL.out (aa af (aa (cI (ac 2) (ah bx.K (b9 (aa af (aa af (aa af (aa af (aa af (aa af (aa af ae)))))))) (ag bx G.g31 rfl (aa (ac 0) (aa (ac 1) (aa af ae)))))) ae)))))) ?_ (fun xI=>?_)
 rfl
 refine aq (ai (aP (aa (ac 3) (aa (ag bx G.g32 rfl (aa (ac 0) (aa (aD bx.K (ac 1) af) (aa (ac 3) ae)))) ae)))) ?_
 rfl
theorem lh:OkD P w K mg base C k "_law_rows_of" dJ ["_law_size","_law_tree_here"] (a2 (bw t)):=ok2 bn fun xI xJ _ _ _ _ _ _ _ _ bx hpo _=>by
 show FL _ _ [vv xI,vv xJ,nn,nn,nn,nn] _ _ _
 refine az (inj:=fun (_:Unit) (w:Unit)=>[vv xI,vv xJ,nn,nn,nn,nn]) (aB (da bx (ac 0) af) ?_ ?_ ?_) (fun _ w=>?_)
 rfl
 ·refine aA (ai (b9 (aa (b9 (aa (ac 1) ae)) ae))) ?_
  rfl
 ·exact ar ⟨(),rfl⟩
 refine aj (S':=fun xO=>[vv xI,vv xJ,vv xO,nn,nn,nn]) (aH 2 bn.nd (vz (aY (aM bx rfl T.b_isinstance b8 (ac 1) (br rfl T.b_tuple (by decide +kernel) rfl))) (ac 1) (bV bx.K (aP (aa (ac 1) ae)) af))) ?_ (fun xO=>?_)
 rfl
 refine aj (S':=fun xN=>[vv xI,vv xJ,vv xO,vv xN,nn,nn]) (aH 3 bn.nd (fe_C (aO (N:=["_law_part","_law_size"]) (own:=1) (cap:=[0]) bx (BlkOk.of (by kernel_rfl)) (bc bx.K (ac 2)) (aZ (by decide)) (fun _ _ _ _ _=>ay 0 (show List.Nodup (α:=Str) ["_law_part","_law_size"] by decide +kernel)) (fun _ _ _ _ _=>(ag (ap bx) G.g54 rfl (aa (cI (ac 1) af) (aa (ac 0) ae)))))) (hs:=by kernel_rfl)) ?_ (fun xN=>?_)
 rfl
 refine cy (S':=[vv xI,vv xJ,vv xO,vv xN,ow [],nn]) (fs_O (iA 4 bn.nd (FAL.out ae))) ?_ ?_
 rfl
 refine az (inj:=fun (s:List D) (w1:Option Sl)=>[vv xI,vv xJ,vv xO,vv xN,ow s,w1]) (cL 5 (B:=fun (s:List D) (w1:Option Sl) x1=>[vv xI,vv xJ,vv xO,vv xN,ow s,vv x1]) nn hpo rfl (bc bx.K (aP (aa af (aa af ae)))) ?_ (ay 5 bn.nd) rfl (fun _ _ _=>rfl) (fun s w1 x1=>?_)) (fun xX w2=>?_)
 rfl
 ·refine aj (S':=fun yg=>[vv xI,vv xJ,vv xO,vv xN,ow yg,vv x1]) (fs_X (bQ 4 bx.K (FAL.out (aa (fe_C (aO (N:=["_law_k","_law_some","_law_upper"]) (own:=1) (cap:=[3,5]) bx (BlkOk.of (by kernel_rfl)) (fi (aU rfl T.b_range (FAL.out (aa (fe_N (cJ bx rfl T.b_len (FAL.out (aa (ah bx.K (ac 3) (ac 5)) ae)))) ae)))) (aZ (by decide)) (fun _ _ _ _ _=>ay 0 (show List.Nodup (α:=Str) ["_law_k","_law_some","_law_upper"] by decide +kernel)) (fun _ _ _ _ _=>(aD (ap bx).K (ah (ap bx).K (ah (ap bx).K (ac 1) (ac 2)) (ac 0)) (ah (ap bx).K (ah (ap bx).K (ac 1) (aD (ap bx).K (ac 2) af)) (ac 0)))))) ae)))) ?_ (fun yg=>?_)
  rfl
  exact ar ⟨vv x1,rfl⟩
 refine eF 4 (S':=[vv xI,vv xJ,vv xO,vv xN,vv (.lst xX),w2]) rfl rfl ?_
 refine aA (ai (ac 4)) ?_
 rfl
theorem qF:OkD P w K mg base C k "_law_rows" iV ["_law_picture_here"] (a1 (fD t)):=ok1 qv fun xD _ _ _ _ _ _ _ _ bx _ _=>by
 show FL _ _ [vv xD] _ _ _
 refine aq (ai (fe_N (bd bx rfl T.b_tuple (FAL.out (aa (fe_C (aO (N:=["_law_row"]) (own:=1) (cap:=[]) bx (BlkOk.of (by kernel_rfl)) (bc bx.K (ag bx G.g54 rfl (aa (ah bx.K (ac 0) af) (aa (ah bx.K (ac 0) af) ae)))) (aZ (by decide)) (fun _ _ _ _ _=>ay 0 (show List.Nodup (α:=Str) ["_law_row"] by decide +kernel)) (fun _ _ _ _ _=>(fe_N (bd (ap bx) rfl T.b_tuple (FAL.out (aa (ac 0) ae))))))) ae))))) ?_
 rfl
theorem iX:OkD P w K mg base C k "law" aN ["_law_script"] (a1 (d6 t)):=ok1 au fun xE _ _ _ _ _ _ _ _ bx hpo _=>by
 show FL _ _ [vv xE,nn,nn,nn,nn,nn,nn,nn,nn,nn,nn,nn,nn,nn,nn,nn] _ _ _
 refine aj (S':=fun xD=>[vv xE,vv xD,nn,nn,nn,nn,nn,nn,nn,nn,nn,nn,nn,nn,nn,nn]) (aH 1 au.nd (ag bx G.g33 rfl (aa (ac 0) (aa af (aa af ae))))) ?_ (fun xD=>?_)
 rfl
 refine aj (S':=fun xF=>[vv xE,vv xD,vv xF,nn,nn,nn,nn,nn,nn,nn,nn,nn,nn,nn,nn,nn]) (aH 2 au.nd (ag bx G.g55 rfl (aa (ac 1) ae))) ?_ (fun xF=>?_)
 rfl
 refine oF 3 4 (S':=fun xG=>[vv xE,vv xD,vv xF,vv xG,ow [],nn,nn,nn,nn,nn,nn,nn,nn,nn,nn,nn]) (sF 3 4 bx au.nd (fe_N (cJ bx rfl T.b_len (FAL.out (aa (ac 2) ae))))) ?_ (fun _=>rfl) (fun xG=>?_)
 rfl
 refine az (inj:=fun (s:List D) (w:Option Sl)=>[vv xE,vv xD,vv xF,vv xG,ow s,w,nn,nn,nn,nn,nn,nn,nn,nn,nn,nn]) (cL 5 (B:=fun (s:List D) (w:Option Sl) x=>[vv xE,vv xD,vv xF,vv xG,ow s,vv x,nn,nn,nn,nn,nn,nn,nn,nn,nn,nn]) nn hpo rfl (bc bx.K (ac 2)) ?_ (ay 5 au.nd) rfl (fun _ _ _=>rfl) (fun s w x=>?_)) (fun xH w1=>?_)
 rfl
 ·refine aj (S':=fun xZ=>[vv xE,vv xD,vv xF,vv xG,ow xZ,vv x,nn,nn,nn,nn,nn,nn,nn,nn,nn,nn]) (fs_X (bQ 4 bx.K (FAL.out (aa (fe_N (uP bx rfl T.b_list (FAL.out (aa (ac 5) ae)))) ae)))) ?_ (fun xZ=>?_)
  rfl
  exact ar ⟨vv x,rfl⟩
 refine eF 4 (S':=[vv xE,vv xD,vv xF,vv xG,vv (.lst xH),w1,nn,nn,nn,nn,nn,nn,nn,nn,nn,nn]) rfl rfl ?_
 refine az (inj:=fun (_:Unit) (w2:Unit)=>[vv xE,vv xD,vv xF,vv xG,vv (.lst xH),w1,nn,nn,nn,nn,nn,nn,nn,nn,nn,nn]) (aB (ft_w (gL (dq bx (ag bx G.g76 rfl (aa (ac 1) ae)) (fe_N (fw bx rfl T.b_sorted rfl T.b_set (FAL.out (aa (ac 4) ae))))) (dk (dq bx (ag bx G.g76 rfl (aa (ag bx G.g29 rfl (aa (ac 1) ae)) ae)) (ag bx G.g76 rfl (aa (ac 1) ae)))))) ?_ ?_ ?_) (fun _ w2=>?_)
 rfl
 ·refine aA (ai gK) ?_
  rfl
 ·exact ar ⟨(),rfl⟩
 refine az (inj:=fun (s1:Unit) (w3:Option Sl×Option Sl×Option Sl×Option Sl×Option Sl)=>[vv xE,vv xD,vv xF,vv xG,vv (.lst xH),w1,w3.1,w3.2.1,w3.2.2.1,w3.2.2.2.1,w3.2.2.2.2,nn,nn,nn,nn,nn]) (cL 6 (B:=fun (s1:Unit) (w3:Option Sl×Option Sl×Option Sl×Option Sl×Option Sl) x7=>[vv xE,vv xD,vv xF,vv xG,vv (.lst xH),w1,vv x7,w3.2.1,w3.2.2.1,w3.2.2.2.1,w3.2.2.2.2,nn,nn,nn,nn,nn]) (nn,nn,nn,nn,nn) hpo rfl (fi (aU rfl T.b_range (FAL.out (aa af ae)))) ?_ (ay 6 au.nd) rfl (fun _ _ _=>rfl) (fun s1 w3 x7=>?_)) (fun _ w6=>?_)
 rfl
 ·refine aj (S':=fun xM=>[vv xE,vv xD,vv xF,vv xG,vv (.lst xH),w1,vv x7,vv xM,w3.2.2.1,w3.2.2.2.1,w3.2.2.2.2,nn,nn,nn,nn,nn]) (fs_C (kB 7 (N:=["_law_k","_law_many","_law_worth","_law_stand"]) (own:=1) (cap:=[3,6,4]) bx (BlkOk.of (by kernel_rfl)) (fi (aU rfl T.b_range (FAL.out (aa (bV bx.K (ac 3) (ac 3)) ae)))) (aZ (by decide)) (fun _ _ _ _ _=>ay 0 (show List.Nodup (α:=Str) ["_law_k","_law_many","_law_worth","_law_stand"] by decide +kernel)) (fun _ _ _ _ _=>(da (ap bx) (ah (ap bx).K (ac 3) (ac 0)) (ac 2))) (fun _ _ _ _ _=>(aP (aa (eD (ac 0) (ac 1)) (aa (ip (ac 0) (ac 1)) ae)))) au.nd (hsw:=by kernel_rfl))) ?_ (fun xM=>?_)
  rfl
  refine cy (S':=[vv xE,vv xD,vv xF,vv xG,vv (.lst xH),w1,vv x7,vv xM,vv .non,w3.2.2.2.1,w3.2.2.2.2,nn,nn,nn,nn,nn]) (aH 8 au.nd mW) ?_ ?_
  rfl
  refine az (inj:=fun (xS:D) (w4:Option Sl×Option Sl)=>[vv xE,vv xD,vv xF,vv xG,vv (.lst xH),w1,vv x7,vv xM,vv xS,w4.1,w4.2,nn,nn,nn,nn,nn]) (aB (dq bx (ac 7) (b9 ae)) ?_ ?_ ?_) (fun xS w4=>?_)
  rfl
  ·refine uL 9 10 (S':=fun xP xV=>[vv xE,vv xD,vv xF,vv xG,vv (.lst xH),w1,vv x7,vv xM,vv .non,vv xP,vv xV,nn,nn,nn,nn,nn]) (uE 9 10 bx au.nd (FAL.out (aa (fe_N (iK bx rfl T.b_sorted (FAL.out (aa (vE (aO (N:=["_law_x","_law_y"]) (own:=2) (cap:=[]) bx (BlkOk.of (by kernel_rfl)) (bc bx.K (ac 7)) (fj (by decide) (by decide)) (fun _ _ _ _ _=>dX 0 1 rfl (show List.Nodup (α:=Str) ["_law_x","_law_y"] by decide +kernel)) (fun _ _ _ _ _=>(ac 0)))) ae)))) (aa (fe_N (iK bx rfl T.b_sorted (FAL.out (aa (vE (aO (N:=["_law_x","_law_y"]) (own:=2) (cap:=[]) bx (BlkOk.of (by kernel_rfl)) (bc bx.K (ac 7)) (fj (by decide) (by decide)) (fun _ _ _ _ _=>dX 0 1 rfl (show List.Nodup (α:=Str) ["_law_x","_law_y"] by decide +kernel)) (fun _ _ _ _ _=>(ac 1)))) ae)))) ae)))) ?_ ?_ (fun _ _=>rfl) (fun xP xV=>?_)
   rfl
   rfl
   refine aj (S':=fun yl=>[vv xE,vv xD,vv xF,vv xG,vv (.lst xH),w1,vv x7,vv xM,vv yl,vv xP,vv xV,nn,nn,nn,nn,nn]) (aH 8 au.nd (aP (aa (ah bx.K (ac 9) af) (aa (ah bx.K (ac 10) af) (aa (aD bx.K (cI (ah bx.K (ac 9) (eE af)) (ah bx.K (ac 9) af)) af) (aa (aD bx.K (cI (ah bx.K (ac 10) (eE af)) (ah bx.K (ac 10) af)) af) ae)))))) ?_ (fun yl=>?_)
   rfl
   exact ar ⟨(vv xP,vv xV),rfl⟩
  ·exact ar ⟨(w3.2.2.2.1,w3.2.2.2.2),rfl⟩
  refine az (inj:=fun (_:Unit) (w5:Unit)=>[vv xE,vv xD,vv xF,vv xG,vv (.lst xH),w1,vv x7,vv xM,vv xS,w4.1,w4.2,nn,nn,nn,nn,nn]) (aB (ft_w (gL (dq bx (ag bx G.g78 rfl (aa (ac 1) (aa (ac 6) ae))) (ac 8)) (dk (dq bx (ag bx G.g78 rfl (aa (ag bx G.g29 rfl (aa (ac 1) ae)) (aa (ac 6) ae))) (ac 8))))) ?_ ?_ ?_) (fun _ w5=>?_)
  rfl
  ·refine aA (ai gK) ?_
   rfl
  ·exact ar ⟨(),rfl⟩
  refine eG (aB (ft_w (mX (rK (ac 8) mW) (kz (dq bx (ag bx G.g74 rfl (aa (ac 1) (aa (ac 8) (aa (ac 6) ae)))) (ah bx.K (ag bx G.g75 rfl (aa (ac 1) ae)) (ac 6)))))) ?_ ?_ ?_)
  rfl
  ·refine aA (ai gK) ?_
   rfl
  ·exact ar ⟨(vv x7,vv xM,vv xS,w4.1,w4.2),rfl⟩
 refine az (inj:=fun (s2:Unit) (w7:Option Sl×Option Sl×Option Sl×Option Sl×Option Sl)=>[vv xE,vv xD,vv xF,vv xG,vv (.lst xH),w1,w7.1,w6.2.1,w6.2.2.1,w6.2.2.2.1,w6.2.2.2.2,w7.2.1,w7.2.2.1,w7.2.2.2.1,w7.2.2.2.2,nn]) (cL 11 (B:=fun (s2:Unit) (w7:Option Sl×Option Sl×Option Sl×Option Sl×Option Sl) x30=>[vv xE,vv xD,vv xF,vv xG,vv (.lst xH),w1,w7.1,w6.2.1,w6.2.2.1,w6.2.2.2.1,w6.2.2.2.2,vv x30,w7.2.2.1,w7.2.2.2.1,w7.2.2.2.2,nn]) (w6.1,nn,nn,nn,nn) hpo rfl (fi (aU rfl T.b_range (FAL.out (aa (ac 3) ae)))) ?_ (ay 11 au.nd) rfl (fun _ _ _=>rfl) (fun s2 w7 x30=>?_)) (fun _ w10=>?_)
 rfl
 ·refine oF 12 13 (S':=fun xQ=>[vv xE,vv xD,vv xF,vv xG,vv (.lst xH),w1,w7.1,w6.2.1,w6.2.2.1,w6.2.2.2.1,w6.2.2.2.2,vv x30,vv xQ,ow [],w7.2.2.2.2,nn]) (uU 12 13 bx au.nd (ag bx G.g79 rfl (aa (ac 1) (aa (ac 11) ae)))) ?_ (fun _=>rfl) (fun xQ=>?_)
  rfl
  refine az (inj:=fun (s3:List D) (w8:Option Sl×Option Sl)=>[vv xE,vv xD,vv xF,vv xG,vv (.lst xH),w1,w8.1,w6.2.1,w6.2.2.1,w6.2.2.2.1,w6.2.2.2.2,vv x30,vv xQ,ow s3,w8.2,nn]) (lP 6 14 (B:=fun (s3:List D) (w8:Option Sl×Option Sl) x31 x32=>[vv xE,vv xD,vv xF,vv xG,vv (.lst xH),w1,vv x31,w6.2.1,w6.2.2.1,w6.2.2.2.1,w6.2.2.2.2,vv x30,vv xQ,ow s3,vv x32,nn]) (w7.1,w7.2.2.2.2) hpo rfl (bc bx.K (ac 12)) ?_ (dX 6 14 rfl au.nd) rfl (fun _ _ _ _=>rfl) (fun s3 w8 x31 x32=>?_)) (fun yb w9=>?_)
  rfl
  ·refine aj (S':=fun ya=>[vv xE,vv xD,vv xF,vv xG,vv (.lst xH),w1,vv x31,w6.2.1,w6.2.2.1,w6.2.2.2.1,w6.2.2.2.2,vv x30,vv xQ,ow ya,vv x32,nn]) (fs_X (bQ 13 bx.K (FAL.out (aa (bV bx.K (b9 (aa (ac 6) ae)) (ac 14)) ae)))) ?_ (fun ya=>?_)
   rfl
   exact ar ⟨(vv x31,vv x32),rfl⟩
  refine eF 13 (S':=[vv xE,vv xD,vv xF,vv xG,vv (.lst xH),w1,w9.1,w6.2.1,w6.2.2.1,w6.2.2.2.1,w6.2.2.2.2,vv x30,vv xQ,vv (.lst yb),w9.2,nn]) rfl rfl ?_
  refine eG (aB (ft_w (gL (dq bx (fe_N (bd bx rfl T.b_tuple (FAL.out (aa (ac 13) ae)))) (ah bx.K (ac 2) (ac 11))) (dk (dq bx (rV (dW (N:=["_law_one","_law_other"]) (own:=2) (cap:=[]) bx (BlkOk.of (by kernel_rfl)) (wE bx rfl T.b_zip (ac 12) (na bx.K (ac 12) (lK af) wY)) (fj (by decide) (by decide)) (fun _ _ _ _ _=>dX 0 1 rfl (show List.Nodup (α:=Str) ["_law_one","_law_other"] by decide +kernel)) (fun _ _ _ _ _=>(da (ap bx) (ah (ap bx).K (ac 0) af) (ah (ap bx).K (ac 1) af))) (fun _ _ _ _ _=>af))) (b9 ae))))) ?_ ?_ ?_)
  rfl
  ·refine aA (ai gK) ?_
   rfl
  ·exact ar ⟨(w9.1,vv x30,vv xQ,vv (.lst yb),w9.2),rfl⟩
 refine cy (S':=[vv xE,vv xD,vv xF,vv xG,vv (.lst xH),w1,w10.1,w6.2.1,w6.2.2.1,w6.2.2.2.1,w6.2.2.2.2,w10.2.1,w10.2.2.1,w10.2.2.2.1,w10.2.2.2.2,ow []]) (fs_O (iA 15 au.nd (FAL.out ae))) ?_ ?_
 rfl
 refine az (inj:=fun (s4:List D) (w11:Option Sl)=>[vv xE,vv xD,vv xF,vv xG,vv (.lst xH),w1,w10.1,w6.2.1,w6.2.2.1,w6.2.2.2.1,w6.2.2.2.2,w11,w10.2.2.1,w10.2.2.2.1,w10.2.2.2.2,ow s4]) (cL 11 (B:=fun (s4:List D) (w11:Option Sl) x40=>[vv xE,vv xD,vv xF,vv xG,vv (.lst xH),w1,w10.1,w6.2.1,w6.2.2.1,w6.2.2.2.1,w6.2.2.2.2,vv x40,w10.2.2.1,w10.2.2.2.1,w10.2.2.2.2,ow s4]) w10.2.1 hpo rfl (fi (aU rfl T.b_range (FAL.out (aa (ac 3) ae)))) ?_ (ay 11 au.nd) rfl (fun _ _ _=>rfl) (fun s4 w11 x40=>?_)) (fun xU w12=>?_)
 rfl
 ·refine aj (S':=fun yc=>[vv xE,vv xD,vv xF,vv xG,vv (.lst xH),w1,w10.1,w6.2.1,w6.2.2.1,w6.2.2.2.1,w6.2.2.2.2,vv x40,w10.2.2.1,w10.2.2.2.1,w10.2.2.2.2,ow yc]) (fs_X (bQ 15 bx.K (FAL.out (aa (fe_C (dW (N:=["_law_other","_law_y","_law_rows_here"]) (own:=1) (cap:=[11,2]) bx (BlkOk.of (by kernel_rfl)) (vD (jN rfl T.b_range (FAL.out (aa (aD bx.K (ac 11) af) (aa (ac 3) ae))))) (aZ (by decide)) (fun _ _ _ _ _=>ay 0 (show List.Nodup (α:=Str) ["_law_other","_law_y","_law_rows_here"] by decide +kernel)) (fun _ _ _ _ _=>(da (ap bx) (ah (ap bx).K (ac 2) (ac 1)) (ah (ap bx).K (ac 2) (ac 0)))) (fun _ _ _ _ _=>(aP (aa (ac 1) (aa (ac 0) ae)))))) ae)))) ?_ (fun yc=>?_)
  rfl
  exact ar ⟨vv x40,rfl⟩
 refine eF 15 (S':=[vv xE,vv xD,vv xF,vv xG,vv (.lst xH),w1,w10.1,w6.2.1,w6.2.2.1,w6.2.2.2.1,w6.2.2.2.2,w12,w10.2.2.1,w10.2.2.2.1,w10.2.2.2.2,vv (.lst xU)]) rfl rfl ?_
 refine aq (ai (cG (vB bx (ag bx G.g80 rfl (aa (ac 1) ae)) (ac 15)) (dl (vB bx (ag bx G.g80 rfl (aa (ag bx G.g29 rfl (aa (ac 1) ae)) ae)) (ac 15))))) ?_
 rfl
end
end Lw
end
noncomputable section
section
namespace Lw
open PySem FF
inductive Q (α:Type) where
 | lf (a:α) | nd (a b c d:Q α)
 deriving DecidableEq
section
variable {α β γ:Type}
def Q.dep:Q α→Nat
 | .lf _=>0
 | .nd a b c d=>1+max (max a.dep b.dep) (max c.dep d.dep)
def Q.at:Nat→Q α→Nat→Nat→α
 | _,.lf a,_,_=>a
 | 0,.nd a _ _ _,x,y=>Q.at 0 a x y
 | n+1,.nd a b c d,x,y=>if y < 2^n then (if x < 2^n then a.at n x y else b.at n (x - 2^n) y) else (if x < 2^n then c.at n x (y - 2^n) else d.at n (x - 2^n) (y - 2^n))
def Q.All (p:α→Prop):Q α→Prop
 | .lf a=>p a
 | .nd a b c d=>a.All p∧b.All p∧c.All p∧d.All p
def sh (f:Nat→Nat→α)(a b:Nat):Nat→Nat→α:=fun x y=>f (x+a) (y+b)
@[simp] theorem oG (n:Nat)(a:α)(x y:Nat):Q.at n (.lf a) x y=a:=by cases n<;>rfl
variable [DecidableEq α][DecidableEq β][DecidableEq γ]
def put4 (a b c d:Q α):Q α:=match a with
 | .lf v=>if b=.lf v∧c=.lf v∧d=.lf v then .lf v else .nd a b c d
 | _=>.nd a b c d
def T (f:Nat→Nat→α):Nat→Q α
 | 0=>.lf (f 0 0)
 | n+1=>put4 (T f n) (T (sh f (2^n) 0) n) (T (sh f 0 (2^n)) n) (T (sh f (2^n) (2^n)) n)
def Q.lean:Q α→Q α
 | .lf a=>.lf a
 | .nd a b c d=>put4 a.lean b.lean c.lean d.lean
theorem c5 (n:Nat):(2^(n+1):Nat)=2^n+2^n:=by rw[Nat.pow_succ];omega
theorem d7 (v:α):put4 (.lf v) (.lf v) (.lf v) (.lf v)=.lf v:=by simp[put4]
theorem u0 (n:Nat)(a b c d:Q α)(x y:Nat):(put4 a b c d).at (n+1) x y=(Q.nd a b c d).at (n+1) x y:=by
 unfold put4
 split
 ·split
  ·rename_i h
   obtain⟨rfl,rfl,rfl⟩:=h
   simp only[Q.at,oG,ite_self]
  ·rfl
 ·rfl
theorem sI (n:Nat)(a b c d:Q α)(ha:a.dep≤n)(hb:b.dep≤n)(hc:c.dep≤n)(hd:d.dep≤n):(put4 a b c d).dep≤n+1:=by
 unfold put4
 split
 ·split
  ·exact Nat.zero_le _
  ·simp only[Q.dep] at *;omega
 ·simp only[Q.dep] at *;omega
theorem aR:∀ (n:Nat) (f g:Nat→Nat→α),(∀ x y,x < 2^n→y < 2^n→f x y=g x y)→T f n=T g n
 | 0,f,g,h=>by rw[T,T,h 0 0 (by decide) (by decide)]
 | n+1,f,g,h=>by
  rw[c5]at h
  rw[T,T,aR n f g fun x y hx hy=>h x y (by omega) (by omega),aR n (sh f (2^n) 0) (sh g (2^n) 0) fun x y hx hy=>h _ _ (by omega) (by omega),
   aR n (sh f 0 (2^n)) (sh g 0 (2^n)) fun x y hx hy=>h _ _ (by omega) (by omega),aR n (sh f (2^n) (2^n)) (sh g (2^n) (2^n)) fun x y hx hy=>h _ _ (by omega) (by omega)]
theorem oH (v:α):∀ n,T (fun _ _=>v) n=.lf v
 | 0=>rfl
 | n+1=>by
  rw[T]
  show put4 (T (fun _ _=>v) n) (T (fun _ _=>v) n) (T (fun _ _=>v) n) (T (fun _ _=>v) n)=_
  rw[oH v n,d7]
theorem iY:∀ (n:Nat) (f:Nat→Nat→α),(T f n).dep≤n
 | 0,f=>Nat.le_refl _
 | n+1,f=>sI n _ _ _ _ (iY n _) (iY n _) (iY n _) (iY n _)
theorem T_at:∀ (n:Nat) (f:Nat→Nat→α) (x y:Nat),x < 2^n→y < 2^n→(T f n).at n x y=f x y
 | 0,f,x,y,hx,hy=>by
  have:x=0:=by simp at hx;exact hx
  have:y=0:=by simp at hy;exact hy
  subst x;subst y
  rfl
 | n+1,f,x,y,hx,hy=>by
  rw[c5]at hx hy
  rw[T,u0,Q.at]
  by_cases h1:y < 2^n
  ·rw[if_pos h1]
   by_cases h2:x < 2^n
   ·rw[if_pos h2,T_at n f x y h2 h1]
   ·rw[if_neg h2,T_at n _ _ _ (by omega) h1]
    unfold sh
    rw[show x - 2^n+2^n=x by omega,Nat.add_zero]
  ·rw[if_neg h1]
   by_cases h2:x < 2^n
   ·rw[if_pos h2,T_at n _ _ _ h2 (by omega)]
    unfold sh
    rw[show y - 2^n+2^n=y by omega,Nat.add_zero]
   ·rw[if_neg h2,T_at n _ _ _ (by omega) (by omega)]
    unfold sh
    rw[show x - 2^n+2^n=x by omega,show y - 2^n+2^n=y by omega]
theorem mw {p:α→Prop}:∀ (n:Nat) (f:Nat→Nat→α),(∀ x y,x < 2^n→y < 2^n→p (f x y))→(T f n).All p
 | 0,f,h=>h 0 0 (by decide) (by decide)
 | n+1,f,h=>by
  rw[c5]at h
  have ha:=mw n f fun x y hx hy=>h x y (by omega) (by omega)
  have hb:=mw n (sh f (2^n) 0) fun x y hx hy=>h _ _ (by omega) (by omega)
  have hc:=mw n (sh f 0 (2^n)) fun x y hx hy=>h _ _ (by omega) (by omega)
  have hd:=mw n (sh f (2^n) (2^n)) fun x y hx hy=>h _ _ (by omega) (by omega)
  rw[T]
  unfold put4
  split
  ·rename_i v e
   split
   ·rw[e]at ha;exact ha
   ·exact⟨ha,hb,hc,hd⟩
  ·exact⟨ha,hb,hc,hd⟩
theorem gD {p:α→Prop}:∀ (n:Nat) (t:Q α) (x y:Nat),t.All p→p (t.at n x y)
 | n,.lf a,x,y,h=>by rw[oG];exact h
 | 0,.nd a _ _ _,x,y,h=>gD 0 a x y h.1
 | n+1,.nd a b c d,x,y,h=>by
  rw[Q.at]
  split
  ·split
   ·exact gD n a _ _ h.1
   ·exact gD n b _ _ h.2.1
  ·split
   ·exact gD n c _ _ h.2.2.1
   ·exact gD n d _ _ h.2.2.2
theorem sJ (n:Nat)(a b c d:Q α):T ((Q.nd a b c d).at (n+1)) (n+1)=put4 (T (a.at n) n) (T (b.at n) n) (T (c.at n) n) (T (d.at n) n):=by
 rw[T]
 congr 1
 ·exact aR n _ _ fun x y hx hy=>by rw[Q.at,if_pos hy,if_pos hx]
 ·exact aR n _ _ fun x y hx hy=>by
   unfold sh
   rw[Q.at,if_pos (by omega),if_neg (by omega)]
   simp
 ·exact aR n _ _ fun x y hx hy=>by
   unfold sh
   rw[Q.at,if_neg (by omega),if_pos (by omega)]
   simp
 ·exact aR n _ _ fun x y hx hy=>by
   unfold sh
   rw[Q.at,if_neg (by omega),if_neg (by omega)]
   simp
theorem gE:∀ (n:Nat) (t:Q α),t.dep≤n→t.lean=T (t.at n) n
 | n,.lf a,_=>by
  rw[Q.lean]
  exact(oH a n).symm.trans (aR _ _ _ fun x y _ _=>(oG _ _ _ _).symm)
 | 0,.nd a b c d,h=>by simp[Q.dep]at h
 | n+1,.nd a b c d,h=>by
  have h':1+max (max a.dep b.dep) (max c.dep d.dep)≤n+1:=h
  rw[sJ,Q.lean,gE n a (by omega),gE n b (by omega),gE n c (by omega),gE n d (by omega)]
theorem fI {n:Nat}{t:Q α}(h:t.dep≤n):t.lean.dep≤n:=by rw[gE n t h];exact iY n _
structure En (e:α→D):Prop where
 tup:∀ a,isTup (e a)=false
 gd:∀ n a,good n (e a)=true
 eq:∀ a b,eqD (e a) (e b)=decide (a=b)
 tD:∀ a xs,eqD (e a) (.tup xs)=false
 dT:∀ a xs,eqD (.tup xs) (e a)=false
end
section
variable {α:Type}[DecidableEq α]{e:α→D}
def Q.d (e:α→D):Q α→D
 | .lf a=>e a
 | .nd a b c d=>.tup [a.d e,b.d e,c.d e,d.d e]
theorem Q.gd (E:En e):∀ (n:Nat) (t:Q α),t.dep≤n→good n (t.d e)=true
 | n,.lf a,_=>E.gd n a
 | 0,.nd a b c d,h=>by simp[Q.dep]at h
 | n+1,.nd a b c d,h=>by
  have h':1+max (max a.dep b.dep) (max c.dep d.dep)≤n+1:=h
  rw[Q.d,good,goods,goods,goods,goods,goods,Q.gd E n a (by omega),Q.gd E n b (by omega),Q.gd E n c (by omega),Q.gd E n d (by omega)]
  rfl
theorem Q.eqd (E:En e):∀ (s t:Q α),eqD (s.d e) (t.d e)=decide (s=t)
 | .lf a,.lf b=>by rw[Q.d,Q.d,E.eq];simp
 | .lf a,.nd ..=>by rw[Q.d,Q.d,E.tD];simp
 | .nd ..,.lf b=>by rw[Q.d,Q.d,E.dT];simp
 | .nd a b c d,.nd a' b' c' d'=>by
  rw[Q.d,Q.d,eqD,eqDs,eqDs,eqDs,eqDs,eqDs,Q.eqd E a a',Q.eqd E b b',Q.eqd E c c',Q.eqd E d d']
  simp[Bool.eq_iff_iff]
end
theorem En.int:En FF.D.int:=⟨fun _=>rfl,fun n a=>by cases n<;>rfl,fun a b=>by simp[eqD,Bool.beq_eq_decide_eq],fun a xs=>by simp[eqD],fun a xs=>by simp[eqD]⟩
end Lw
end
section
namespace Lw
open PySem FF
theorem eV {xs:List D}(h:xs.length≤16777216):sq (.tup xs)=.ok xs:=by unfold sq asSeq;rw[R.bind_ok,if_pos h]
theorem iZ {xs:List D}(h:xs.length≤16777216):sq (.lst xs)=.ok xs:=by unfold sq asSeq;rw[R.bind_ok,if_pos h]
theorem sq4 (a b c d:D):sq (.tup [a,b,c,d])=.ok [a,b,c,d]:=eV (by show 4≤16777216;decide)
theorem sK {e:D→R D}{f:D→D}:∀ {xs:List D},(∀ d∈xs,e d=.ok (f d))→cGo (fun _=>.ok true) e xs=.ok (xs.map f)
 | [],_=>rfl
 | x::xs,h=>by
  rw[cGo]
  simp only
  rw[h x (.head _),sK fun d hd=>h d (.tail _ hd)]
  rfl
theorem u3 {e:D→R D}{xs:List D}(f:D→D)(h:∀ d∈xs,e d=.ok (f d)):cMap e xs=.ok (.lst (xs.map f)):=by
 unfold cMap;rw[sK h];rfl
theorem cr {α:Type}{e:D→R D}{l:List α}(c g:α→D)(h:∀ a∈l,e (c a)=.ok (g a)):cMap e (l.map c)=.ok (.lst (l.map g)):=by
 unfold cMap
 have:∀ {l:List α},(∀ a∈l,e (c a)=.ok (g a))→cGo (fun _=>.ok true) e (l.map c)=.ok (l.map g):=by
  intro l
  induction l with
  | nil=>intro _;rfl
  | cons a l ih =>
   intro h
   rw[List.map_cons,cGo]
   simp only
   rw[h a (.head _),ih fun b hb=>h b (.tail _ hb)]
   rfl
 rw[this h];rfl
theorem cMap4 {e:D→R D}{a b c d a' b' c' d':D}(ha:e a=.ok a')(hb:e b=.ok b')(hc:e c=.ok c')(hd:e d=.ok d'):cMap e [a,b,c,d]=.ok (.lst [a',b',c',d']):=by
 unfold cMap;simp only[cGo,ha,hb,hc,hd];rfl
theorem fJ {α:Type}{c:D→R Bool}{e:D→R D}{l:List α}(k g:α→D)(p:α→Bool)(h:∀ a∈l,c (k a)=.ok (p a)∧(p a=true→e (k a)=.ok (g a))):cFil c e (l.map k)=.ok (.lst ((l.filter p).map g)):=by
 unfold cFil
 have:∀ {l:List α},(∀ a∈l,c (k a)=.ok (p a)∧(p a=true→e (k a)=.ok (g a)))→cGo c e (l.map k)=.ok ((l.filter p).map g):=by
  intro l
  induction l with
  | nil=>intro _;rfl
  | cons a l ih =>
   intro h
   have h1:=h a (.head _)
   have h2:=ih fun b hb=>h b (.tail _ hb)
   rw[List.map_cons,cGo,h1.1]
   cases q:p a with
   | false=>simp only;rw[h2,List.filter_cons_of_neg (by simp[q])]
   | true=>simp only;rw[h1.2 q,h2,List.filter_cons_of_pos q];rfl
 rw[this h];rfl
@[simp] theorem i4 (xs:List D):dTuple [.lst xs]=.ok (.tup xs):=rfl
@[simp] theorem nU (xs:List D):dTuple [.tup xs]=.ok (.tup xs):=rfl
@[simp] theorem j0 (xs:List D):dList [.tup xs]=.ok (.lst xs):=rfl
@[simp] theorem qG (xs:List D):dList [.lst xs]=.ok (.lst xs):=rfl
@[simp] theorem dL (xs:List D):dLen [.tup xs]=.ok (.int xs.length):=rfl
@[simp] theorem i5 (xs:List D):dLen [.lst xs]=.ok (.int xs.length):=rfl
@[simp] theorem aT (a b:Int):dAdd (.int a) (.int b)=.ok (.int (a+b)):=rfl
@[simp] theorem dM (a b:Int):dSub (.int a) (.int b)=.ok (.int (a - b)):=rfl
@[simp] theorem u4 (a b:Int):dLt (.int a) (.int b)=.ok (.bl (decide (a < b))):=rfl
@[simp] theorem u5 (a b:Int):dLe (.int a) (.int b)=.ok (.bl (decide (a≤b))):=rfl
@[simp] theorem oJ (a b:Int):dGt (.int a) (.int b)=.ok (.bl (decide (b < a))):=rfl
@[simp] theorem u6 (a b:Int):dGe (.int a) (.int b)=.ok (.bl (decide (b≤a))):=rfl
@[simp] theorem d8 (a b:Int):dEq (.int a) (.int b)=.ok (.bl (decide (a=b))):=by
 show R.ok (D.bl (a==b))=_
 rw[Bool.beq_eq_decide_eq]
@[simp] theorem hZ (a b:Int):dNf (.int a) (.int b)=.ok (.bl (!decide (a=b))):=by
 show R.ok (D.bl (!(a==b)))=_
 rw[Bool.beq_eq_decide_eq]
theorem bz {a b:Int}(h:(-(2^64) < b∧b < 2^64)∨(-(2^64) < a∧a < 2^64)):dMul (.int a) (.int b)=.ok (.int (a*b)):=by
 have:cMul a b=true:=by unfold cMul;simp only[Bool.or_eq_true,Bool.and_eq_true,decide_eq_true_eq];rcases h with h | h;exact .inr h;exact .inl h
 show (if cMul a b=true then R.ok (D.int (a*b)) else R.stuck)=_
 rw[if_pos this]
theorem mx {a b:Int}(h0:0 < b)(h1:b < 1073741824):dDiv (.int a) (.int b)=.ok (.int (a/b)):=by
 have:cDiv a b=true:=by unfold cDiv;simp only[Bool.and_eq_true,decide_eq_true_eq];exact⟨h0,h1⟩
 show (if cDiv a b=true then R.ok (D.int (a/b)) else R.stuck)=_
 rw[if_pos this]
theorem dN {a b:Int}(h0:0 < b):dMod (.int a) (.int b)=.ok (.int (a%b)):=by
 show (if decide (0 < b)=true then R.ok (D.int (a%b)) else R.stuck)=_
 rw[if_pos (by simpa using h0)]
theorem fK {x y:D}(hx:good 60 x=true)(hy:good 60 y=true):dEq x y=.ok (.bl (eqD x y)):=by unfold dEq;rw[if_pos ⟨hx,hy⟩]
theorem my {x y:D}(hx:good 60 x=true)(hy:good 60 y=true):dNf x y=.ok (.bl (!eqD x y)):=by unfold dNf;rw[if_pos ⟨hx,hy⟩]
theorem ko {α:Type}{xs:List α}{i:Nat}{x:α}(h:xs[i]?=some x):L2.atI xs ((i:Nat):Int)=some x:=by
 have hi:i < xs.length:=(List.getElem?_eq_some_iff.mp h).1
 unfold L2.atI L2.ixN
 rw[if_pos (by omega),if_pos (by omega)]
 simpa using h
theorem ixT {xs:List D}{i:Nat}{x:D}(h:xs[i]?=some x):dIx (.tup xs) (.int ((i:Nat):Int))=.ok x:=by
 show (match L2.atI xs (i:Int) with | some d=>R.ok d | none=>R.stuck)=_
 rw[ko h]
theorem ixL {xs:List D}{i:Nat}{x:D}(h:xs[i]?=some x):dIx (.lst xs) (.int ((i:Nat):Int))=.ok x:=by
 show (match L2.atI xs (i:Int) with | some d=>R.ok d | none=>R.stuck)=_
 rw[ko h]
@[simp] theorem ix20 (a b:D):dIx (.tup [a,b]) (.int 0)=.ok a:=rfl
@[simp] theorem ix21 (a b:D):dIx (.tup [a,b]) (.int 1)=.ok b:=rfl
@[simp] theorem ix40 (a b c d:D):dIx (.tup [a,b,c,d]) (.int 0)=.ok a:=rfl
@[simp] theorem ix41 (a b c d:D):dIx (.tup [a,b,c,d]) (.int 1)=.ok b:=rfl
@[simp] theorem ix42 (a b c d:D):dIx (.tup [a,b,c,d]) (.int 2)=.ok c:=rfl
@[simp] theorem ix43 (a b c d:D):dIx (.tup [a,b,c,d]) (.int 3)=.ok d:=rfl
@[simp] theorem gF (xs:List D):dIsA qTup (.tup xs)=.ok (.bl true):=rfl
@[simp] theorem qH (i:Int):dIsA qTup (.int i)=.ok (.bl false):=rfl
theorem i6 {α:Type}(p:α→Bool):∀ l:List α,boolsD (l.map fun d=>D.bl (p d))=some (l.map p)
 | []=>rfl
 | a::r=>by simp only[List.map_cons,boolsD,i6 p r,Option.map_some]
theorem sL {α:Type}(p:α→Bool)(l:List α):dAll [.lst (l.map fun d=>D.bl (p d))]=.ok (.bl (l.all p)):=by
 show (match boolsD (l.map fun d=>D.bl (p d)) with | some bs=>R.ok (D.bl (bs.all id)) | none=>R.stuck)=_
 rw[i6]
 simp[List.all_map,Function.comp_def]
theorem oK (f:Int→Int→Bool)(F' G':D→D→R D){x y w:Int}{g:Int→Int→Bool}(h1:F' (.int x) (.int y)=.ok (.bl (f x y)))(h2:G' (.int y) (.int w)=.ok (.bl (g y w))):rCh F' G' (.int x) (.int y) (.ok (.int w))=.ok (.bl (f x y&&g y w)):=by
 unfold rCh
 rw[h1]
 cases f x y with
 | true=>show G' (.int y) (.int w)=_;rw[h2];rfl
 | false=>rfl
@[simp] theorem sM (x y w:Int):rCh dLe dLe (.int x) (.int y) (.ok (.int w))=.ok (.bl (decide (x≤y)&&decide (y≤w))):=oK (fun a b=>decide (a≤b)) _ _ (g:=fun a b=>decide (a≤b)) rfl rfl
@[simp] theorem sN (x y w:Int):rCh dLe dLt (.int x) (.int y) (.ok (.int w))=.ok (.bl (decide (x≤y)&&decide (y < w))):=oK (fun a b=>decide (a≤b)) _ _ (g:=fun a b=>decide (a < b)) rfl rfl
theorem oM (a b:Bool):vAnd (.ok (.bl a)) (.ok (.bl b))=.ok (.bl (a&&b)):=by cases a<;>rfl
theorem wG (a b:Bool):vOr (.ok (.bl a)) (.ok (.bl b))=.ok (.bl (a||b)):=by cases a<;>rfl
theorem lj (a b:Bool):rAnd (.ok a) (.ok b)=.ok (a&&b):=by cases a<;>rfl
theorem eW (a b:Bool):rOr (.ok a) (.ok b)=.ok (a||b):=by cases a<;>rfl
def isW:D→Bool
 | .int _=>true
 | _=>false
def noX:D→Bool
 | .exc _=>false
 | .fn _=>false
 | _=>true
def inTo (hi:Int):D→Bool
 | .int i=>decide (0≤i)&&decide (i≤hi)
 | _=>false
theorem bB {n:Nat}{d:D}(h:good n d=true):noX d=true:=by
 cases d<;>first | rfl | (cases n<;>simp[good]at h)
theorem b5 {n:Nat}(hn:1≤n){d:D}(h:noX d=true):pf n F.ad [d]=.ok (.bl (isW d)):=by
 obtain⟨m,rfl⟩:∃ m,n=m+1:=⟨n - 1,by omega⟩
 rw[l9]
 cases d<;>first | rfl | (cases h)
theorem i7 {n:Nat}(hn:2≤n){d:D}(h:noX d=true):pf n F.ac [d]=.ok (.bl (inTo 9 d)):=by
 obtain⟨m,rfl⟩:∃ m,n=m+1:=⟨n - 1,by omega⟩
 rw[me,cR,b5 (by omega) h]
 cases d<;>first | rfl | (cases h;done) | skip
 simp[isW,inTo]
theorem u7 {n:Nat}(hn:2≤n){d:D}(h:noX d=true):pf n F.aF [d]=.ok (.bl (inTo 3 d)):=by
 obtain⟨m,rfl⟩:∃ m,n=m+1:=⟨n - 1,by omega⟩
 rw[nB,dY,b5 (by omega) h]
 cases d<;>first | rfl | (cases h;done) | skip
 simp[isW,inTo]
def STP:=And.intro @aC (And.intro @wu (And.intro @db (And.intro @xb (And.intro @xc (And.intro @uH (And.intro @uG (And.intro @uI (And.intro @R.bind_ok (And.intro @R.bind_err (And.intro @ba (And.intro @kF (And.intro @lj (And.intro @eW (And.intro @ww (And.intro @wx (And.intro @xh (And.intro @xi (And.intro @wy (And.intro @wz (And.intro @xj (And.intro @xk (And.intro @oM (And.intro @wG (And.intro @uJ (And.intro @xl (And.intro @xm (And.intro @Bool.not_true (And.intro @Bool.not_false (And.intro @Bool.false_or (And.intro @Bool.true_or (And.intro @Bool.or_false (And.intro @Bool.or_true (And.intro @Bool.true_and (And.intro @Bool.false_and (And.intro @Bool.and_true (And.intro @Bool.and_false (And.intro @Bool.false_eq_true (@Bool.true_eq_false))))))))))))))))))))))))))))))))))))))
def OPP:=And.intro @aT (And.intro @dM (And.intro @u4 (And.intro @u5 (And.intro @oJ (And.intro @u6 (And.intro @d8 (And.intro @hZ (And.intro @dL (And.intro @i5 (And.intro @i4 (And.intro @nU (And.intro @j0 (And.intro @qG (And.intro @ix20 (And.intro @ix21 (And.intro @ix40 (And.intro @ix41 (And.intro @ix42 (And.intro @ix43 (And.intro @gF (And.intro @qH (And.intro @sM (@sN)))))))))))))))))))))))
end Lw
end
section
namespace Lw
open PySem FF
def slim:Nat→D→Bool
 | n+1,.tup xs=>decide (xs.length≤1000)&&xs.all (slim n)
 | n+1,.lst xs=>decide (xs.length≤1000)&&xs.all (slim n)
 | _,_=>true
def treeOk (p:D→Bool):Nat→Int→D→Bool
 | n+1,s,.tup xs=>decide (s≠0)&&(decide (xs.length=4)&&xs.all (treeOk p n (s - 1)))
 | _,_,d=>p d
theorem bT {n:Nat}:∀ {xs:List D},goods n xs=true→∀ d∈xs,good n d=true
 | x::xs,h,d,hd=>by
  rw[goods,Bool.and_eq_true]at h
  cases hd with
  | head=>exact h.1
  | tail _ hd=>exact bT h.2 d hd
theorem cB {n:Nat}:∀ {xs:List D},(∀ d∈xs,good n d=true)→goods n xs=true
 | [],_=>rfl
 | x::xs,h=>by rw[goods,h x (.head _),cB fun d hd=>h d (.tail _ hd)];rfl
theorem ex1 {n k:Nat}(h:k+1≤n):∃ m,n=m+1∧k≤m:=⟨n - 1,by omega,by omega⟩
theorem cC {d:D}(h:isTup d=false)(h':noX d=true):dIsA qTup d=.ok (.bl false):=by cases d<;>first | rfl | (cases h;done) | (cases h';done)
theorem u8 {i c:Nat}{p:D→Bool}(hi:fvL.contains i=true)(hp:∀ m d,c≤m→noX d=true→pf m i [d]=.ok (.bl (p d))):∀ (n m:Nat) (s:Int) (d:D),good n d=true→slim n d=true→n+c+1≤m→pf m F.an [.int s,d,.fn i]=.ok (.bl (treeOk p n s d)):=by
 have flat:∀ (n m:Nat) (s:Int) (d:D),isTup d=false→noX d=true→c+1≤m→treeOk p n s d=p d→pf m F.an [.int s,d,.fn i]=.ok (.bl (treeOk p n s d)):=fun n m s d ht hx hm e=>by
  obtain⟨m,rfl,hm⟩:=ex1 hm
  rw[iL,cA,cC ht hx,e]
  have:onF fvL (.fn i) (fun i=>pf m i [d])=.ok (.bl (p d)):=by
   show (if fvL.contains i=true then pf m i [d] else R.stuck)=_
   rw[if_pos hi,hp m d (by omega) hx]
  simp[this]
 intro n
 induction n with
 | zero =>
  intro m s d hg hs hm
  have ht:isTup d=false:=by cases d<;>first | rfl | (simp[good]at hg)
  exact flat 0 m s d ht (bB hg) (by omega) (by cases d<;>rfl)
 | succ n ih =>
  intro m s d hg hs hm
  by_cases ht:isTup d=true
  ·cases d with
   | tup xs =>
    rw[good]at hg
    rw[slim,Bool.and_eq_true,decide_eq_true_eq,List.all_eq_true]at hs
    obtain⟨m,rfl,hm⟩:=ex1 (show n+c+1+1≤m by omega)
    rw[iL,cA]
    have hc:cMap (fun part=>(dSub (.int s) (.int 1)).bind fun x1=>pf m F.an [x1,part,.fn i]) xs=.ok (.lst (xs.map fun d=>.bl (treeOk p n (s - 1) d))) :=
     u3 _ fun d hd=>by rw[dM,R.bind_ok];exact ih m (s - 1) d (bT hg d hd) (hs.2 d hd) (by omega)
    simp only[gF,ba,kF,Bool.not_true,aC,db,d8,dL,R.bind_ok,hZ,eW,eV (show xs.length≤16777216 by omega),hc,sL,treeOk]
    by_cases h0:s=0
    ·simp[h0]
    ·by_cases h4:xs.length=4
     ·simp[h0,h4]
     ·have h4':¬ ((xs.length:Int)=4):=by omega
      simp[h0,h4,h4']
   | _=>cases ht
  ·have ht':isTup d=false:=by simpa using ht
   exact flat (n+1) m s d ht' (bB hg) (by omega) (by cases d<;>first | rfl | (cases ht';done))
def sizedOk (p:D→Bool)(n:Nat):D→Bool
 | .tup [s,t]=>inTo 3 s&&(match s with
  | .int i=>treeOk p n i t
  | _=>false)
 | _=>false
theorem sO {i c:Nat}{p:D→Bool}(hc:2≤c)(hi:fvL.contains i=true)(hp:∀ m d,c≤m→noX d=true→pf m i [d]=.ok (.bl (p d)))(n m:Nat)(d:D)(hg:good (n+1) d=true)(hs:slim (n+1) d=true)(hm:n+c+2≤m):pf m F.al [d,.fn i]=.ok (.bl (sizedOk p n d)):=by
 obtain⟨m,rfl,hm⟩:=ex1 (show n+c+1+1≤m by omega)
 rw[gg,aW]
 by_cases ht:isTup d=true
 ·cases d with
  | tup xs =>
   rw[good]at hg
   rw[slim,Bool.and_eq_true,decide_eq_true_eq,List.all_eq_true]at hs
   by_cases h2:xs.length=2
   ·match xs,h2 with
    | [a,b],_ =>
     have ga:=bT hg a (by simp)
     have gb:=bT hg b (by simp)
     have sb:=hs.2 b (by simp)
     have hz:pf m F.aF [a]=.ok (.bl (inTo 3 a)):=u7 (by omega) (bB ga)
     simp only[gF,ba,kF,Bool.not_true,dL,R.bind_ok,hZ,ix20,ix21,eW,List.length_cons,List.length_nil,hz]
     cases a with
     | int v =>
      rw[u8 hi hp n m v b gb sb (by omega)]
      by_cases hv:inTo 3 (.int v)=true
      ·simp[hv,sizedOk]
      ·have hv':inTo 3 (.int v)=false:=by simpa using hv
       simp[hv',sizedOk]
     | _=>simp[sizedOk,inTo]
   ·have h2':¬ ((xs.length:Int)=2):=by omega
    have e:sizedOk p n (.tup xs)=false:=by
     match xs,h2 with
     | [],_=>rfl
     | [_],_=>rfl
     | _::_::_::_,_=>rfl
    simp[h2',e]
  | _=>cases ht
 ·have ht':isTup d=false:=by simpa using ht
  rw[cC ht' (bB hg)]
  have e:sizedOk p n d=false:=by cases d<;>first | rfl | (cases ht';done)
  simp[e]
end Lw
end
section
namespace Lw
open PySem FF
def scr (ns:List Int):D:=.lst (ns.map .int)
def cell (ns:List Int)(k:Nat):Int:=if k < ns.length then ns.getD k 0 else if ns=[] then 0 else ns.getD (k%ns.length) 0*31+k
def pk (ns:List Int)(k:Nat)(m:Int):Int :=
 let d:=(cell ns k+6151*((k:Int)+1))*40692%2147483399
 (d*d+d/31)%2147483629%m
theorem oN {ns:List Int}{k:Nat}{m:Int}(h:0 < m):0≤pk ns k m:=Int.emod_nonneg _ (by omega)
theorem oO {ns:List Int}{k:Nat}{m:Int}(h:0 < m):pk ns k m < m:=Int.emod_lt_of_pos _ h
theorem d9 (n:Nat):∀ ns:List Int,goods n (ns.map .int)=true
 | []=>rfl
 | i::r=>by rw[List.map_cons,goods,d9 n r];cases n<;>rfl
theorem u9 {n:Nat}(hn:1≤n)(ns:List Int)(k:Nat):pf n F.aO [scr ns,.int k]=.ok (.int (cell ns k)):=by
 obtain⟨n,rfl,hn⟩:=ex1 hn
 rw[qo,fB]
 unfold scr cell
 by_cases h:k < ns.length
 ·have h':((k:Int) < (ns.length:Int)):=by omega
  have e0:=ixL (xs:=ns.map .int) (i:=k) (x:=.int (ns.getD k 0)) (by rw[List.getElem?_map,List.getElem?_eq_getElem h];simp[List.getD,h])
  simp only[STP,if_true,if_false,ite_true,ite_false,reduceIte,reduceCtorEq,OPP,List.length_map,decide_eq_true h',e0,if_pos h]
 ·have h':¬ ((k:Int) < (ns.length:Int)):=by omega
  cases ns with
  | nil =>
   have e1:dEq (.lst []) (.lst [])=.ok (.bl true):=rfl
   have h2:¬ ((k:Int) < ((0:Nat):Int)):=by omega
   simp only[STP,if_true,if_false,ite_true,ite_false,reduceIte,reduceCtorEq,OPP,List.map_nil,List.length_nil,decide_eq_false h2,e1,if_neg (Nat.not_lt_zero k)]
  | cons a r =>
   have hl:0 < (a::r).length:=by simp
   have hk:k%(a::r).length < (a::r).length:=Nat.mod_lt _ hl
   have e1:dEq (.lst ((a::r).map .int)) (.lst [])=.ok (.bl false):=by
    rw[fK (by rw[good];exact d9 _ _) rfl]
    simp[eqD,eqDs]
   have e2:dMod (.int (k:Int)) (.int ((a::r).length:Int))=.ok (.int ((k%(a::r).length:Nat):Int)):=by
    rw[dN (by omega)];rfl
   have e3:dIx (.lst ((a::r).map .int)) (.int ((k%(a::r).length:Nat):Int))=.ok (.int ((a::r).getD (k%(a::r).length) 0)) :=
    ixL (by rw[List.getElem?_map,List.getElem?_eq_getElem hk,List.getD,List.getElem?_eq_getElem hk];rfl)
   have e4:=bz (a:=(a::r).getD (k%(a::r).length) 0) (b:=31) (.inl (by decide))
   simp only[STP,if_true,if_false,ite_true,ite_false,reduceIte,reduceCtorEq,OPP,List.length_map,decide_eq_false h',e1,e2,e3,e4,if_neg h]
theorem h7 {n:Nat}(hn:2≤n)(ns:List Int)(k:Nat){m:Int}(hm:0 < m):pf n F.ag [scr ns,.int k,.int m]=.ok (.int (pk ns k m)):=by
 obtain⟨n,rfl,hn⟩:=ex1 hn
 rw[qp,fC,u9 (by omega)]
 simp only[R.bind_ok,aT]
 rw[bz (.inr (by decide))]
 simp only[R.bind_ok,aT]
 rw[bz (.inl (by decide))]
 simp only[R.bind_ok]
 rw[dN (by decide)]
 simp only[aC]
 have h0:0≤(cell ns k+6151*((k:Int)+1))*40692%2147483399:=Int.emod_nonneg _ (by decide)
 have h1:(cell ns k+6151*((k:Int)+1))*40692%2147483399 < 2147483399:=Int.emod_lt_of_pos _ (by decide)
 rw[bz (.inl ⟨by omega,by omega⟩),mx (by decide) (by decide)]
 simp only[R.bind_ok,aT]
 rw[dN (by decide)]
 simp only[R.bind_ok]
 rw[dN hm]
 rfl
theorem oP {n:Nat}(hn:2≤n)(ns:List Int)(k:Nat){a m:Int}(ha:a=(k:Int))(hm:0 < m):pf n F.ag [scr ns,.int a,.int m]=.ok (.int (pk ns k m)):=by subst ha;exact h7 hn ns k hm
def W9 (v:Int):Prop:=0≤v∧v≤9
def dleaf (ns:List Int)(k:Nat):Int:=[0,1,1,2,9,pk ns (k+1) 10].getD (pk ns (k+2) 6).toNat 0
def dt (ns:List Int):Nat→Nat→Q Int
 | 0,k=>.lf (dleaf ns k)
 | n+1,k=>if pk ns k 6 < 2 then .lf (dleaf ns k) else if pk ns k 6=2 then .nd (dt ns n (k+3)) (dt ns n (k+3)) (dt ns n (k+3)) (dt ns n (k+3)) else
  .nd (dt ns n (5*k+7)) (dt ns n (5*k+18)) (dt ns n (5*k+29)) (dt ns n (5*k+40))
theorem oQ (ns:List Int)(k:Nat):W9 (dleaf ns k):=by
 unfold dleaf W9
 have h0:=oN (ns:=ns) (k:=k+2) (m:=6) (by decide)
 have h1:=oO (ns:=ns) (k:=k+2) (m:=6) (by decide)
 have g0:=oN (ns:=ns) (k:=k+1) (m:=10) (by decide)
 have g1:=oO (ns:=ns) (k:=k+1) (m:=10) (by decide)
 obtain⟨j,hj⟩:∃ j:Nat,pk ns (k+2) 6=(j:Int):=⟨(pk ns (k+2) 6).toNat,by omega⟩
 rw[hj]at h1 ⊢
 have:j < 6:=by omega
 rcases j with _ | _ | _ | _ | _ | _ | j<;>first | (simp;done) | (simp;omega) | omega
theorem sP (ns:List Int):∀ n k,(dt ns n k).dep≤n
 | 0,k=>Nat.le_refl _
 | n+1,k=>by
  rw[dt]
  have h1:=sP ns n
  split
  ·exact Nat.zero_le _
  ·split
   ·have:=h1 (k+3);simp only[Q.dep];omega
   ·have a:=h1 (5*k+7);have b:=h1 (5*k+18);have c:=h1 (5*k+29);have d:=h1 (5*k+40);simp only[Q.dep];omega
theorem sQ (ns:List Int):∀ n k,(dt ns n k).All W9
 | 0,k=>oQ ns k
 | n+1,k=>by
  rw[dt]
  have h1:=sQ ns n
  split
  ·exact oQ ns k
  ·split
   ·exact⟨h1 _,h1 _,h1 _,h1 _⟩
   ·exact⟨h1 _,h1 _,h1 _,h1 _⟩
theorem mz {n:Nat}(hn:2≤n)(ns:List Int)(k:Nat):((((dAdd (.int (k:Int)) (.int 1)).bind fun x=>pf n F.ag [scr ns,x,(.int 10)]).bind fun x1=>.ok (.lst [(.int 0),(.int 1),(.int 1),(.int 2),(.int 9),x1])).bind fun x2=>((dAdd (.int (k:Int)) (.int 2)).bind fun x3=>pf n F.ag [scr ns,x3,(.int 6)]).bind fun x4=>dIx x2 x4)=.ok (.int (dleaf ns k)):=by
 simp only[aT,R.bind_ok]
 rw[oP hn ns (k+1) (by omega) (by decide),oP hn ns (k+2) (by omega) (by decide)]
 simp only[R.bind_ok]
 have h0:=oN (ns:=ns) (k:=k+2) (m:=6) (by decide)
 have h1:=oO (ns:=ns) (k:=k+2) (m:=6) (by decide)
 unfold dleaf
 obtain⟨j,hj⟩:∃ j:Nat,pk ns (k+2) 6=(j:Int):=⟨(pk ns (k+2) 6).toNat,by omega⟩
 rw[hj]at h1 ⊢
 have:j < 6:=by omega
 rcases j with _ | _ | _ | _ | _ | _ | j<;>first | rfl | omega
theorem rep4 (x:D):dMul (.tup [x]) (.int 4)=.ok (.tup [x,x,x,x]):=rfl
theorem rng4:rng1 [.int 4]=.ok [.int 0,.int 1,.int 2,.int 3]:=rfl
theorem sR (ns:List Int):∀ (s k n:Nat),s+3≤n→pf n F.ai [scr ns,.int k,.int s]=.ok ((dt ns s k).d .int):=by
 intro s
 induction s with
 | zero =>
  intro k n hn
  obtain⟨n,rfl,hn⟩:=ex1 (show 2+1≤n by omega)
  rw[jV,du,h7 (by omega) ns k (by decide)]
  simp only[aC]
  rw[mz (by omega)]
  simp[dt,Q.d]
 | succ s ih =>
  intro k n hn
  obtain⟨n,rfl,hn⟩:=ex1 (show s+3+1≤n by omega)
  rw[jV,du,h7 (by omega) ns k (by decide)]
  simp only[aC]
  rw[mz (by omega)]
  have hs:¬ (((s+1:Nat):Int)=0):=by omega
  have hs1:((s+1:Nat):Int) - 1=(s:Int):=by omega
  have ih':∀ (a:Int) (j:Nat),a=(j:Int)→pf n F.ai [scr ns,.int a,.int (s:Int)]=.ok ((dt ns s j).d .int):=fun a j e=>by subst e;exact ih j n (by omega)
  rw[dt]
  by_cases h2:pk ns k 6 < 2
  ·simp only[STP,if_true,if_false,ite_true,ite_false,reduceIte,reduceCtorEq,OPP,decide_eq_false hs,decide_eq_true h2,if_pos h2,Q.d]
  ·by_cases h3:pk ns k 6=2
   ·have e:=ih' ((k:Int)+3) (k+3) (by omega)
    simp only[STP,if_true,if_false,ite_true,ite_false,reduceIte,reduceCtorEq,OPP,decide_eq_false hs,decide_eq_false h2,decide_eq_true h3,if_neg h2,if_pos h3,hs1,e,rep4,Q.d]
   ·have step:∀ (i:Nat) ,(((dMul (.int 5) (.int (k:Int))).bind fun x9=>dAdd x9 (.int 7)).bind fun x10=>(dMul (.int 11) (.int (i:Int))).bind fun x11=>dAdd x10 x11).bind (fun x12=>pf n F.ai [scr ns,x12,.int (s:Int)])=.ok ((dt ns s (5*k+7+11*i)).d .int):=fun i=>by
     rw[bz (.inr (by decide)),bz (.inr (by decide))]
     simp only[R.bind_ok,aT]
     exact ih' _ _ (by omega)
    have e:cMap (fun xL=>(((dMul (.int 5) (.int (k:Int))).bind fun x9=>dAdd x9 (.int 7)).bind fun x10=>(dMul (.int 11) xL).bind fun x11=>dAdd x10 x11).bind fun x12=>pf n F.ai [scr ns,x12,.int (s:Int)]) [.int 0,.int 1,.int 2,.int 3]=.ok (.lst [(dt ns s (5*k+7)).d .int,(dt ns s (5*k+18)).d .int,(dt ns s (5*k+29)).d .int,(dt ns s (5*k+40)).d .int]):=cMap4 (step 0) (step 1) (step 2) (step 3)
    simp only[STP,if_true,if_false,ite_true,ite_false,reduceIte,reduceCtorEq,OPP,decide_eq_false hs,decide_eq_false h2,decide_eq_false h3,if_neg h2,if_neg h3,hs1,rng4]
    rw[e]
    rfl
structure Pc (sz:Nat)(t:Q Int):Prop where
 h3:sz≤3
 dep:t.dep≤sz
 all:t.All W9
def picD (sz:Nat)(t:Q Int):D:=.tup [.int (sz:Int),t.d .int]
theorem va (ns:List Int)(k most n:Nat)(hm:most≤3)(hn:7≤n):∃ sz t,sz≤most∧Pc sz t∧pf n F.ax [scr ns,.int k,.int most]=.ok (picD sz t):=by
 obtain⟨n,rfl,hn⟩:=ex1 (show 6+1≤n by omega)
 have h0:=oN (ns:=ns) (k:=k) (m:=7) (by decide)
 have h1:=oO (ns:=ns) (k:=k) (m:=7) (by decide)
 obtain⟨j,hj⟩:∃ j:Nat,pk ns k 7=(j:Int):=⟨(pk ns k 7).toNat,by omega⟩
 rw[hj]at h1
 have hj7:j < 7:=by omega
 obtain⟨c,hc3,hc⟩:∃ c:Nat,c≤3∧dIx (.lst [(.int 0),(.int 0),(.int 0),(.int 1),(.int 1),(.int 2),(.int 3)]) (.int (j:Int))=.ok (.int (c:Int)):=by
  rcases j with _ | _ | _ | _ | _ | _ | _ | j
  ·exact⟨0,by omega,rfl⟩
  ·exact⟨0,by omega,rfl⟩
  ·exact⟨0,by omega,rfl⟩
  ·exact⟨1,by omega,rfl⟩
  ·exact⟨1,by omega,rfl⟩
  ·exact⟨2,by omega,rfl⟩
  ·exact⟨3,by omega,rfl⟩
  ·omega
 refine⟨most - c,dt ns (most - c) (k+1),by omega,⟨by omega,sP _ _ _,sQ _ _ _⟩,?_⟩
 have hx:dMax2 [.int 0,.int ((most:Int) - (c:Int))]=.ok (.int ((most - c:Nat):Int)):=by
  show R.ok (D.int (if (most:Int) - c > 0 then (most:Int) - c else 0))=_
  congr 2
  split<;>omega
 rw[kT,cq,h7 (by omega) ns k (by decide),R.bind_ok,hj,hc]
 simp only[R.bind_ok,dM,hx,aC,aT]
 have e:((k:Int)+1)=((k+1:Nat):Int):=by omega
 rw[e,sR ns (most - c) (k+1) n (by omega)]
 rfl
end Lw
end
section
namespace Lw
open PySem FF
section
variable {α:Type}[DecidableEq α]{e:α→D}
theorem fL:∀ {n m:Nat} {d:D},good n d=true→n≤m→good m d=true
 | n,m,.non,_,_=>by cases m<;>rfl
 | n,m,.bl _,_,_=>by cases m<;>rfl
 | n,m,.int _,_,_=>by cases m<;>rfl
 | n,m,.str _,_,_=>by cases m<;>rfl
 | n,m,.exc _,h,_=>by cases n<;>simp[good]at h
 | n,m,.fn _,h,_=>by cases n<;>simp[good]at h
 | 0,m,.tup _,h,_=>by simp[good]at h
 | 0,m,.lst _,h,_=>by simp[good]at h
 | n+1,0,.tup _,_,l=>by omega
 | n+1,0,.lst _,_,l=>by omega
 | n+1,m+1,.tup xs,h,l=>by
  rw[good]at h ⊢
  exact cB fun d hd=>fL (n:=n) (bT h d hd) (by omega)
 | n+1,m+1,.lst xs,h,l=>by
  rw[good]at h ⊢
  exact cB fun d hd=>fL (n:=n) (bT h d hd) (by omega)
theorem wH (E:En e){n:Nat}(hn:1≤n){a b c d:Q α}(ha:a.dep≤50)(hb:b.dep≤50)(hc:c.dep≤50)(hd:d.dep≤50):pf n F.ap [.tup [a.d e,b.d e,c.d e,d.d e]]=.ok ((put4 a b c d).d e):=by
 obtain⟨n,rfl,hn⟩:=ex1 hn
 rw[gZ,bg]
 cases a with
 | nd a1 a2 a3 a4=>simp only[STP,if_true,if_false,ite_true,ite_false,reduceIte,reduceCtorEq,OPP,Q.d,put4]
 | lf v =>
  have e1:dIsA qTup (Q.d e (.lf v))=.ok (.bl false):=cC (E.tup v) (bB (E.gd 0 v))
  have gv:good 59 (e v)=true:=E.gd 59 v
  have e2:dEq (.tup [Q.d e (.lf v),b.d e,c.d e,d.d e]) (.tup [Q.d e (.lf v),Q.d e (.lf v),Q.d e (.lf v),Q.d e (.lf v)])=.ok (.bl (decide (b=.lf v)&&(decide (c=.lf v)&&decide (d=.lf v)))):=by
   rw[fK]
   ·rw[eqD,eqDs,eqDs,eqDs,eqDs,eqDs,Q.eqd E,Q.eqd E,Q.eqd E,Q.eqd E]
    simp
   ·rw[good,goods,goods,goods,goods,goods,fL (Q.gd E 50 b hb) (by decide),fL (Q.gd E 50 c hc) (by decide),fL (Q.gd E 50 d hd) (by decide),Q.d,gv]
    rfl
   ·rw[good,goods,goods,goods,goods,goods,Q.d,gv]
    rfl
  simp only[STP,if_true,if_false,ite_true,ite_false,reduceIte,reduceCtorEq,OPP,e1,e2]
  unfold put4
  by_cases hb':b=.lf v
  ·by_cases hc':c=.lf v
   ·by_cases hd':d=.lf v
    ·simp[hb',hc',hd']
    ·simp[hb',hc',hd',Q.d]
   ·simp[hb',hc',Q.d]
  ·simp[hb',Q.d]
theorem dO (E:En e):∀ (t:Q α) (n:Nat),t.dep≤40→t.dep+2≤n→pf n F.ah [t.d e]=.ok (t.lean.d e)
 | .lf a,n,_,hn=>by
  obtain⟨n,rfl,hn⟩:=ex1 (show 1+1≤n by omega)
  rw[fE,bv]
  have e1:dIsA qTup (Q.d e (.lf a))=.ok (.bl false):=cC (E.tup a) (bB (E.gd 0 a))
  simp only[STP,if_true,if_false,ite_true,ite_false,reduceIte,reduceCtorEq,e1,Q.lean]
 | .nd a b c d,n,hd,hn=>by
  have hd':1+max (max a.dep b.dep) (max c.dep d.dep)≤40:=hd
  have hn':1+max (max a.dep b.dep) (max c.dep d.dep)+2≤n:=hn
  obtain⟨n,rfl,hn⟩:=ex1 (show max (max a.dep b.dep) (max c.dep d.dep)+2+1≤n by omega)
  rw[fE,bv]
  have ka:=dO E a n (by omega) (by omega)
  have kb:=dO E b n (by omega) (by omega)
  have kc:=dO E c n (by omega) (by omega)
  have kd:=dO E d n (by omega) (by omega)
  have hm:cMap (fun part=>pf n F.ah [part]) [a.d e,b.d e,c.d e,d.d e]=.ok (.lst [a.lean.d e,b.lean.d e,c.lean.d e,d.lean.d e]):=cMap4 ka kb kc kd
  have hp:=wH E (n:=n) (by omega) (a:=a.lean) (b:=b.lean) (c:=c.lean) (d:=d.lean) (fI (n:=50) (by omega)) (fI (n:=50) (by omega)) (fI (n:=50) (by omega)) (fI (n:=50) (by omega))
  rw[Q.d]
  simp only[STP,if_true,if_false,ite_true,ite_false,reduceIte,reduceCtorEq,OPP,sq4,hm,hp,Q.lean]
theorem oR:∀ {n:Nat} {d:D},isTup d=false→isLst d=false→slim n d=true
 | 0,d,_,_=>by cases d<;>rfl
 | n+1,d,h,h'=>by cases d<;>first | rfl | (cases h;done) | (cases h';done)
theorem i8 (hl:∀ a,isLst (e a)=false)(E:En e):∀ (n:Nat) (t:Q α),slim n (t.d e)=true
 | n,.lf a=>oR (E.tup a) (hl a)
 | 0,.nd ..=>rfl
 | n+1,.nd a b c d=>by
  rw[Q.d,Lw.slim]
  simp only[List.all_cons,List.all_nil,i8 hl E n a,i8 hl E n b,i8 hl E n c,i8 hl E n d,List.length_cons,List.length_nil]
  rfl
theorem i9 {p:D→Bool}(E:En e):∀ (m:Nat) (s:Nat) (t:Q α),t.dep≤m→t.dep≤s→t.All (fun a=>p (e a)=true)→treeOk p m s (t.d e)=true
 | m,s,.lf a,_,_,h=>by
  have:treeOk p m s (e a)=p (e a):=by
   have:=E.tup a
   cases m with
   | zero=>cases e a<;>rfl
   | succ m=>cases q:e a<;>first | rfl | (rw[q]at this;cases this)
  exact this.trans h
 | 0,s,.nd a b c d,h,_,_=>by simp[Q.dep]at h
 | m+1,0,.nd a b c d,_,h,_=>by simp[Q.dep]at h
 | m+1,s+1,.nd a b c d,h,h',hall=>by
  have h1:1+max (max a.dep b.dep) (max c.dep d.dep)≤m+1:=h
  have h2:1+max (max a.dep b.dep) (max c.dep d.dep)≤s+1:=h'
  rw[Q.d,Lw.treeOk,show ((s+1:Nat):Int) - 1=(s:Int) by omega]
  have h0:((s+1:Nat):Int)≠0:=by omega
  simp only[List.all_cons,List.all_nil,i9 E m s a (by omega) (by omega) hall.1,i9 E m s b (by omega) (by omega) hall.2.1,i9 E m s c (by omega) (by omega) hall.2.2.1,i9 E m s d (by omega) (by omega) hall.2.2.2,List.length_cons,List.length_nil,decide_eq_true h0]
  rfl
end
theorem fM {α:Type}{p q:α→Prop}(h:∀ a,p a→q a):∀ {t:Q α},t.All p→t.All q
 | .lf a,x=>h a x
 | .nd _ _ _ _,x=>⟨fM h x.1,fM h x.2.1,fM h x.2.2.1,fM h x.2.2.2⟩
theorem in9 {v:Int}(h:W9 v):inTo 9 (.int v)=true:=by simp[inTo,h.1,h.2]
theorem sS:fvL.contains F.ac=true:=by decide
theorem sT {n m:Nat}{d:D}(hg:good (m+1) d=true)(hs:slim (m+1) d=true)(hn:m+5≤n):pf n F.aB [d]=.ok (.bl (sizedOk (inTo 9) m d)):=by
 obtain⟨n,rfl,hn⟩:=ex1 (show m+4+1≤n by omega)
 rw[jq,bG,sO (c:=2) (p:=inTo 9) (by decide) sS (fun m d h1 h2=>i7 h1 h2) m n d hg hs (by omega)]
 rfl
theorem qI {n m:Nat}{d:D}(hg:good (m+1) d=true)(hs:slim (m+1) d=true)(hn:m+6≤n):pf n F.aa [d]=if sizedOk (inTo 9) m d=true then .ok .non else .err 1:=by
 obtain⟨n,rfl,hn⟩:=ex1 (show m+5+1≤n by omega)
 rw[gh,aX,sT hg hs (by omega)]
 cases sizedOk (inTo 9) m d<;>rfl
section
variable {sz:Nat}{t:Q Int}
theorem Pc.good (p:Pc sz t):good 4 (picD sz t)=true:=by
 unfold picD
 rw[FF.good,goods,goods,goods,Q.gd En.int 3 t (Nat.le_trans p.dep p.h3)]
 rfl
theorem Pc.slim (p:Pc sz t):slim 4 (picD sz t)=true:=by
 unfold picD
 rw[Lw.slim]
 simp only[List.all_cons,List.all_nil,i8 (fun _=>rfl) En.int,oR (d:=.int (sz:Int)) rfl rfl,List.length_cons,List.length_nil]
 rfl
theorem Pc.sized (p:Pc sz t):sizedOk (inTo 9) 3 (picD sz t)=true:=by
 have h3:=p.h3
 have h1:inTo 3 (.int (sz:Int))=true:=by simp[inTo];omega
 unfold picD sizedOk
 simp only[h1,i9 En.int 3 sz t (Nat.le_trans p.dep p.h3) p.dep (fM (fun a h=>in9 h) p.all)]
 rfl
theorem Pc.check (p:Pc sz t){n:Nat}(hn:9≤n):pf n F.aa [picD sz t]=.ok .non:=by rw[qI p.good p.slim hn,p.sized];rfl
theorem Pc.lean (p:Pc sz t){n:Nat}(hn:10≤n):pf n F.aH [picD sz t]=.ok (picD sz (T (t.at sz) sz)):=by
 obtain⟨n,rfl,hn⟩:=ex1 (show 9+1≤n by omega)
 have h3:=p.h3
 have hd:=p.dep
 have e1:=p.check (n:=n) (by omega)
 have e2:=dO En.int t n (by omega) (by omega)
 rw[uX,kM,e1,← gE sz t p.dep]
 unfold picD
 simp only[STP,if_true,if_false,ite_true,ite_false,reduceIte,reduceCtorEq,OPP,e2]
theorem pc_T {f:Nat→Nat→Int}(h3:sz≤3)(h:∀ x y,x < 2^sz→y < 2^sz→W9 (f x y)):Pc sz (T f sz):=⟨h3,iY sz f,mw sz f h⟩
theorem Pc.at (p:Pc sz t)(x y:Nat):W9 (t.at sz x y):=gD sz t x y p.all
theorem Pc.side (p:Pc sz t){n:Nat}(hn:1≤n):pf n F.ao [picD sz t]=.ok (.int ((2^sz:Nat):Int)):=by
 obtain⟨n,rfl,hn⟩:=ex1 (show 0+1≤n by omega)
 have h3:=p.h3
 rw[nC,dZ]
 unfold picD
 have:sz=0∨sz=1∨sz=2∨sz=3:=by omega
 rcases this with rfl | rfl | rfl | rfl<;>rfl
end
end Lw
end
section
namespace Lw
open PySem FF
section
variable {α:Type}[DecidableEq α]{e:α→D}
theorem p8 {s:Nat}(h:s≤3):2^s≤8:=by
 have:s=0∨s=1∨s=2∨s=3:=by omega
 rcases this with rfl | rfl | rfl | rfl<;>decide
theorem pos2 (s:Nat):0 < 2^s:=Nat.pow_pos (by decide)
theorem fN {a b:Nat}(h0:0 < b)(h1:b < 1073741824):dDiv (.int (a:Int)) (.int (b:Int))=.ok (.int ((a/b:Nat):Int)):=by
 rw[mx (by omega) (by omega)];rfl
theorem ja {a b:Nat}(h0:0 < b):dMod (.int (a:Int)) (.int (b:Int))=.ok (.int ((a%b:Nat):Int)):=by
 rw[dN (by omega)];rfl
theorem jb (E:En e):∀ (s:Nat) (t:Q α) (n x y:Nat),s≤3→t.dep≤s→x < 2^s→y < 2^s→t.dep+1≤n→pf n F.aq [t.d e,.int ((2^s:Nat):Int),.int (x:Int),.int (y:Int)]=.ok (e (t.at s x y))
 | s,.lf a,n,x,y,_,_,_,_,hn=>by
  obtain⟨n,rfl,hn⟩:=ex1 (show 0+1≤n by omega)
  rw[gP,bX,oG]
  have e1:dIsA qTup (Q.d e (.lf a))=.ok (.bl false):=cC (E.tup a) (bB (E.gd 0 a))
  simp only[STP,if_true,if_false,ite_true,ite_false,reduceIte,reduceCtorEq,e1]
  rfl
 | 0,.nd ..,_,_,_,_,h,_,_,_=>by simp[Q.dep]at h
 | s+1,.nd a b c d,n,x,y,h3,hd,hx,hy,hn=>by
  have hd':1+max (max a.dep b.dep) (max c.dep d.dep)≤s+1:=hd
  have hn':1+max (max a.dep b.dep) (max c.dep d.dep)+1≤n:=hn
  obtain⟨n,rfl,hn⟩:=ex1 (show 0+1≤n by omega)
  have hs:=p8 (show s≤3 by omega)
  have hp:=pos2 s
  rw[c5]at hx hy
  rw[gP,bX,Q.d]
  have e1:dDiv (.int ((2^(s+1):Nat):Int)) (.int 2)=.ok (.int ((2^s:Nat):Int)):=by
   have:=fN (a:=2^(s+1)) (b:=2) (by decide) (by decide)
   rw[show (2^(s+1)/2:Nat)=2^s by rw[c5];omega]at this
   exact this
  have e2:=fN (a:=y) (b:=2^s) hp (by omega)
  have e3:=fN (a:=x) (b:=2^s) hp (by omega)
  have e4:=ja (a:=x) (b:=2^s) hp
  have e5:=ja (a:=y) (b:=2^s) hp
  have e6:dMul (.int 2) (.int ((y/2^s:Nat):Int))=.ok (.int (2*((y/2^s:Nat):Int))):=bz (.inr (by decide))
  rw[Q.at]
  by_cases h1:y < 2^s
  ·have y0:y/2^s=0:=Nat.div_eq_of_lt h1
   have y1:y%2^s=y:=Nat.mod_eq_of_lt h1
   by_cases h2:x < 2^s
   ·have x0:x/2^s=0:=Nat.div_eq_of_lt h2
    have x1:x%2^s=x:=Nat.mod_eq_of_lt h2
    have k:=jb E s a n x y (by omega) (by omega) h2 h1 (by omega)
    simp only[STP,if_true,if_false,ite_true,ite_false,reduceIte,reduceCtorEq,OPP,e1,e2,e3,e4,e5,e6,if_pos h1,if_pos h2]
    rw[y0,x0,x1,y1]
    show outL (lB ((dIx (.tup [a.d e,b.d e,c.d e,d.d e]) (.int 0)).bind _) _)=_
    simp only[STP,if_true,if_false,ite_true,ite_false,reduceIte,reduceCtorEq,OPP,k]
   ·have x0:x/2^s=1:=by
     have:x=(x - 2^s)+2^s:=by omega
     rw[this,Nat.add_div_right _ hp,Nat.div_eq_of_lt (by omega)]
    have x1:x%2^s=x - 2^s:=by rw[Nat.mod_eq_sub_mod (by omega),Nat.mod_eq_of_lt (by omega)]
    have k:=jb E s b n (x - 2^s) y (by omega) (by omega) (by omega) h1 (by omega)
    simp only[STP,if_true,if_false,ite_true,ite_false,reduceIte,reduceCtorEq,OPP,e1,e2,e3,e4,e5,e6,if_pos h1,if_neg h2]
    rw[y0,x0,x1,y1]
    show outL (lB ((dIx (.tup [a.d e,b.d e,c.d e,d.d e]) (.int 1)).bind _) _)=_
    simp only[STP,if_true,if_false,ite_true,ite_false,reduceIte,reduceCtorEq,OPP,k]
  ·have y0:y/2^s=1:=by
    have:y=(y - 2^s)+2^s:=by omega
    rw[this,Nat.add_div_right _ hp,Nat.div_eq_of_lt (by omega)]
   have y1:y%2^s=y - 2^s:=by rw[Nat.mod_eq_sub_mod (by omega),Nat.mod_eq_of_lt (by omega)]
   by_cases h2:x < 2^s
   ·have x0:x/2^s=0:=Nat.div_eq_of_lt h2
    have x1:x%2^s=x:=Nat.mod_eq_of_lt h2
    have k:=jb E s c n x (y - 2^s) (by omega) (by omega) h2 (by omega) (by omega)
    simp only[STP,if_true,if_false,ite_true,ite_false,reduceIte,reduceCtorEq,OPP,e1,e2,e3,e4,e5,e6,if_neg h1,if_pos h2]
    rw[y0,x0,x1,y1]
    show outL (lB ((dIx (.tup [a.d e,b.d e,c.d e,d.d e]) (.int 2)).bind _) _)=_
    simp only[STP,if_true,if_false,ite_true,ite_false,reduceIte,reduceCtorEq,OPP,k]
   ·have x0:x/2^s=1:=by
     have:x=(x - 2^s)+2^s:=by omega
     rw[this,Nat.add_div_right _ hp,Nat.div_eq_of_lt (by omega)]
    have x1:x%2^s=x - 2^s:=by rw[Nat.mod_eq_sub_mod (by omega),Nat.mod_eq_of_lt (by omega)]
    have k:=jb E s d n (x - 2^s) (y - 2^s) (by omega) (by omega) (by omega) (by omega) (by omega)
    simp only[STP,if_true,if_false,ite_true,ite_false,reduceIte,reduceCtorEq,OPP,e1,e2,e3,e4,e5,e6,if_neg h1,if_neg h2]
    rw[y0,x0,x1,y1]
    show outL (lB ((dIx (.tup [a.d e,b.d e,c.d e,d.d e]) (.int 3)).bind _) _)=_
    simp only[STP,if_true,if_false,ite_true,ite_false,reduceIte,reduceCtorEq,OPP,k]
end
def rowT {α:Type}(e:α→D)(f:Nat→Nat→α)(w y:Nat):D:=.tup ((List.range w).map fun x=>e (f x y))
def rowsT {α:Type}(e:α→D)(f:Nat→Nat→α)(w h:Nat):D:=.tup ((List.range h).map fun y=>rowT e f w y)
theorem c6 {s:Nat}(h:s≤16777216):rng1 [.int (s:Int)]=.ok ((List.range s).map fun i=>D.int ((i:Nat):Int)):=by
 show (if -16777216≤(s:Int)∧(s:Int)≤16777216 then R.ok (rngD 0 (s:Int).toNat) else R.stuck)=_
 rw[if_pos ⟨by omega,by omega⟩]
 unfold rngD
 simp
theorem nV {α:Type}{e:α→D}{f g:Nat→Nat→α}{w y:Nat}(h:∀ x,x < w→f x y=g x y):rowT e f w y=rowT e g w y:=by
 unfold rowT
 congr 1
 exact List.map_congr_left fun x hx=>by rw[h x (List.mem_range.mp hx)]
theorem gS {α:Type}{e:α→D}{f g:Nat→Nat→α}{w k:Nat}(h:∀ x y,x < w→y < k→f x y=g x y):rowsT e f w k=rowsT e g w k:=by
 unfold rowsT
 congr 1
 exact List.map_congr_left fun y hy=>nV fun x hx=>h x y hx (List.mem_range.mp hy)
theorem dP {α:Type}{e:α→D}{f:Nat→Nat→α}{w k y:Nat}(h:y < k):dIx (rowsT e f w k) (.int (y:Int))=.ok (rowT e f w y):=ixT (by simp[h])
theorem gG {α:Type}{e:α→D}(hE:∀ n a,good n (e a)=true)(f:Nat→Nat→α)(w y n:Nat):good (n+1) (rowT e f w y)=true:=by
 unfold rowT
 rw[good]
 exact cB fun d hd=>by
  obtain⟨x,_,rfl⟩:=List.mem_map.mp hd
  exact hE n _
section
variable {sz:Nat}{t:Q Int}
theorem Pc.row (p:Pc sz t){n:Nat}(hn:5≤n){y:Nat}(hy:y < 2^sz):pf n F.au [picD sz t,.int (y:Int)]=.ok (rowT .int (t.at sz) (2^sz) y):=by
 obtain⟨n,rfl,hn⟩:=ex1 (show 4+1≤n by omega)
 have h3:=p.h3
 have hd:=p.dep
 have h8:=p8 h3
 have e1:=p.side (n:=n) (by omega)
 have hm:cMap (fun x=>(dIx (picD sz t) (.int 1)).bind fun x1=>pf n F.aq [x1,.int ((2^sz:Nat):Int),x,.int (y:Int)]) ((List.range (2^sz)).map fun i=>D.int ((i:Nat):Int))=.ok (.lst ((List.range (2^sz)).map fun x=>D.int (t.at sz x y))) :=
  cr _ _ fun x hx=>by
   unfold picD
   rw[ix21,R.bind_ok]
   exact jb En.int sz t n x y h3 hd (List.mem_range.mp hx) hy (by omega)
 rw[kN,ce]
 simp only[STP,if_true,if_false,ite_true,ite_false,reduceIte,reduceCtorEq,e1,c6 (show 2^sz≤16777216 by omega),hm,OPP]
 rfl
theorem Pc.rows (p:Pc sz t){n:Nat}(hn:10≤n):pf n F.ab [picD sz t]=.ok (rowsT .int (t.at sz) (2^sz) (2^sz)):=by
 obtain⟨n,rfl,hn⟩:=ex1 (show 9+1≤n by omega)
 have h8:=p8 p.h3
 have e1:=p.side (n:=n) (by omega)
 have e2:=p.check (n:=n) (by omega)
 have hm:cMap (fun y=>pf n F.au [picD sz t,y]) ((List.range (2^sz)).map fun i=>D.int ((i:Nat):Int))=.ok (.lst ((List.range (2^sz)).map fun y=>rowT .int (t.at sz) (2^sz) y)) :=
  cr _ _ fun y hy=>p.row (by omega) (List.mem_range.mp hy)
 rw[js,bI]
 simp only[STP,if_true,if_false,ite_true,ite_false,reduceIte,reduceCtorEq,e1,e2,c6 (show 2^sz≤16777216 by omega),hm,OPP]
 rfl
theorem qJ {n:Nat}(hn:2≤n)(s x:Int):pf n F.aC [.int s,.int x]=.ok (.bl (decide (0≤x)&&decide (x < s))):=by
 obtain⟨n,rfl,hn⟩:=ex1 (show 1+1≤n by omega)
 rw[mf,cS,b5 (by omega) rfl]
 simp only[STP,if_true,if_false,ite_true,ite_false,reduceIte,reduceCtorEq,OPP,isW]
def inB (s:Nat)(x y:Int):Bool:=(decide (0≤x)&&decide (x < (s:Int)))&&(decide (0≤y)&&decide (y < (s:Int)))
theorem Pc.spot_any (p:Pc sz t){n:Nat}(hn:3≤n)(x y:Int):pf n F.aD [picD sz t,.int x,.int y]=if inB (2^sz) x y=true then .ok .non else .err 2:=by
 obtain⟨n,rfl,hn⟩:=ex1 (show 2+1≤n by omega)
 rw[jr,bH,p.side (by omega)]
 simp only[STP,if_true,if_false,ite_true,ite_false,reduceIte,reduceCtorEq,qJ (show 2≤n by omega)]
 unfold inB
 cases (decide (0≤x)&&decide (x < ((2^sz:Nat):Int)))<;>cases (decide (0≤y)&&decide (y < ((2^sz:Nat):Int)))<;>rfl
theorem vb {s x y:Nat}(hx:x < s)(hy:y < s):inB s x y=true:=by unfold inB;simp;omega
end
end Lw
end
section
namespace Lw
open PySem FF
theorem xv {α:Type}(f:Nat→Nat→α)(a b c d:Nat):sh (sh f a b) c d=sh f (a+c) (b+d):=by
 funext x y;unfold sh;rw[show x+c+a=x+(a+c) by omega,show y+d+b=y+(b+d) by omega]
theorem jc {sz:Nat}(h:sz≤3):sz=0∨sz=1∨sz=2∨sz=3:=by omega
def Wo (f:Nat→Nat→Int)(sz:Nat):Prop:=∀ x y,x < 2^sz→y < 2^sz→W9 (f x y)
def rowL {α:Type}(e:α→D)(f:Nat→Nat→α)(w y:Nat):D:=.lst ((List.range w).map fun x=>e (f x y))
def rowsL {α:Type}(e:α→D)(f:Nat→Nat→α)(w h:Nat):D:=.lst ((List.range h).map fun y=>rowL e f w y)
theorem sU {α:Type}{e:α→D}{f:Nat→Nat→α}{w k y:Nat}(h:y < k):dIx (rowsL e f w k) (.int (y:Int))=.ok (rowL e f w y):=ixL (by simp[h])
theorem catL {xs ys:List D}(h:xs.length+ys.length≤16777216):dAdd (.lst xs) (.lst ys)=.ok (.lst (xs++ys)):=by
 show (if xs.length+ys.length≤16777216 then R.ok (D.lst (xs++ys)) else R.stuck)=_
 rw[if_pos h]
theorem sV {α:Type}{e:α→D}{fa fb F:Nat→Nat→α}{h y y':Nat}(ha:∀ x,x < h→F x y'=fa x y)(hb:∀ x,x < h→F (h+x) y'=fb x y):((List.range h).map fun x=>e (fa x y))++((List.range h).map fun x=>e (fb x y))=(List.range (h+h)).map fun x=>e (F x y'):=by
 rw[List.range_add,List.map_append,List.map_map]
 congr 1
 ·exact List.map_congr_left fun x hx=>by rw[ha x (List.mem_range.mp hx)]
 ·exact List.map_congr_left fun x hx=>by show _=e (F (h+x) y');rw[hb x (List.mem_range.mp hx)]
theorem dQ {xs ys:List D}(h:xs.length+ys.length≤16777216):oExt xs (.lst ys)=.ok (xs++ys):=by unfold oExt;simp[h]
theorem sW {xs ys:List D}(h:xs.length+ys.length≤16777216):oExt xs (.tup ys)=.ok (xs++ys):=by unfold oExt;simp[h]
theorem vc {xs:List D}{y:D}(h:xs.length < 16777216):oApp xs y=.ok (xs++[y]):=by unfold oApp;simp[h]
section
variable {α:Type}[DecidableEq α]{e:α→D}
theorem mB {fa fb F:Nat→Nat→α}{h o:Nat}(hh:h≤1000){some_:List D}{u:Nat}(e1:some_[u]?=some (rowsL e fa h h))(e2:some_[u+1]?=some (rowsL e fb h h))(ha:∀ x y,x < h→y < h→F x (o+y)=fa x y)(hb:∀ x y,x < h→y < h→F (h+x) (o+y)=fb x y){t:Nat→List D→R D}{made:List D}(hm:made.length≤1000) :
  b0 t (.lst some_) made (.int (u:Int))=.nx (made++(List.range h).map fun y=>rowL e F (h+h) (o+y)):=by
 have i1:=ixL e1
 have i2:dIx (.lst some_) (.int ((u:Int)+1))=.ok (rowsL e fb h h):=by have:=ixL e2;rw[show ((u+1:Nat):Int)=(u:Int)+1 by omega]at this;exact this
 have hl:dLen [rowsL e fa h h]=.ok (.int (h:Int)):=by unfold rowsL;rw[i5,List.length_map,List.length_range]
 have hc:cMap (fun xL=>((dIx (.lst some_) (.int (u:Int))).bind fun x2=>dIx x2 xL).bind fun x3=>(((dAdd (.int (u:Int)) (.int 1)).bind fun x4=>dIx (.lst some_) x4).bind fun x5=>dIx x5 xL).bind fun x6=>dAdd x3 x6) ((List.range h).map fun i=>D.int ((i:Nat):Int))=.ok (.lst ((List.range h).map fun y=>rowL e F (h+h) (o+y))) :=
  cr _ _ fun y hy=>by
   have hy:=List.mem_range.mp hy
   rw[i1]
   simp only[STP,if_true,if_false,ite_true,ite_false,reduceIte,reduceCtorEq,OPP,i2,sU hy]
   unfold rowL
   rw[catL (by simp;omega),sV (F:=F) (y':=o+y) (fun x hx=>ha x y hx hy) (fun x hx=>hb x y hx hy)]
 unfold b0
 rw[i1]
 simp only[STP,if_true,if_false,ite_true,ite_false,reduceIte,reduceCtorEq,hl,c6 (show h≤16777216 by omega)]
 rw[i1]at hc
 simp only[STP,if_true,if_false,ite_true,ite_false,reduceIte,reduceCtorEq]at hc
 simp only[STP,if_true,if_false,ite_true,ite_false,reduceIte,reduceCtorEq,hc]
 rw[dQ (by simp;omega)]
 rfl
theorem b6 (E:En e):∀ (s:Nat) (t:Q α) (n:Nat),s≤3→t.dep≤s→s+1≤n→pf n F.aj [.int (s:Int),t.d e]=.ok (rowsL e (t.at s) (2^s) (2^s))
 | 0,t,n,_,hd,hn=>by
  obtain⟨n,rfl,hn⟩:=ex1 (show 0+1≤n by omega)
  rw[fF,bw,show ((0:Nat):Int)=0 from rfl]
  simp only[STP,if_true,if_false,ite_true,ite_false,reduceIte,reduceCtorEq,OPP,decide_true]
  cases t with
  | lf a=>rfl
  | nd=>simp[Q.dep]at hd
 | s+1,t,n,h3,hd,hn=>by
  obtain⟨n,rfl,hn⟩:=ex1 (show s+1+1≤n by omega)
  have e0:¬ (((s+1:Nat):Int)=0):=by omega
  have e1:((s+1:Nat):Int) - 1=(s:Int):=by omega
  have h8:=p8 (show s≤3 by omega)
  obtain⟨a,b,c,d,hq,ha,hb,hc,hd4,hF⟩:∃ a b c d:Q α,(rIf (asB (dIsA qTup (t.d e))) (.ok (t.d e)) (dMul (.tup [t.d e]) (.int 4)))=.ok (.tup [a.d e,b.d e,c.d e,d.d e])∧a.dep≤s∧b.dep≤s∧c.dep≤s∧d.dep≤s∧∀ x y,t.at (s+1) x y=(Q.nd a b c d).at (s+1) x y:=by
   cases t with
   | lf v =>
    refine⟨.lf v,.lf v,.lf v,.lf v,?_,Nat.zero_le _,Nat.zero_le _,Nat.zero_le _,Nat.zero_le _,fun x y=>by simp[Q.at]⟩
    rw[cC (d:=Q.d e (.lf v)) (E.tup v) (bB (E.gd 0 v))]
    rfl
   | nd a b c d =>
    have hd':1+max (max a.dep b.dep) (max c.dep d.dep)≤s+1:=hd
    exact⟨a,b,c,d,rfl,by omega,by omega,by omega,by omega,fun _ _=>rfl⟩
  have ka:=b6 E s a n (by omega) ha (by omega)
  have kb:=b6 E s b n (by omega) hb (by omega)
  have kc:=b6 E s c n (by omega) hc (by omega)
  have kd:=b6 E s d n (by omega) hd4 (by omega)
  have hm:cMap (fun ym=>(dSub (.int ((s+1:Nat):Int)) (.int 1)).bind fun x=>pf n F.aj [x,ym]) [a.d e,b.d e,c.d e,d.d e]=.ok (.lst [rowsL e (a.at s) (2^s) (2^s),rowsL e (b.at s) (2^s) (2^s),rowsL e (c.at s) (2^s) (2^s),rowsL e (d.at s) (2^s) (2^s)]):=by
   rw[dM,e1];exact cMap4 ka kb kc kd
  have u1:=mB (e:=e) (fa:=a.at s) (fb:=b.at s) (F:=t.at (s+1)) (h:=2^s) (o:=0) (by omega) (some_:=[rowsL e (a.at s) (2^s) (2^s),rowsL e (b.at s) (2^s) (2^s),rowsL e (c.at s) (2^s) (2^s),rowsL e (d.at s) (2^s) (2^s)]) (u:=0) rfl rfl
   (fun x y hx hy=>by rw[hF,Q.at,if_pos (by omega),if_pos hx,Nat.zero_add]) (fun x y hx hy=>by rw[hF,Q.at,if_pos (by omega),if_neg (by omega),Nat.zero_add,Nat.add_sub_cancel_left]) (t:=pf n) (made:=[]) (by simp)
  have u2:=mB (e:=e) (fa:=c.at s) (fb:=d.at s) (F:=t.at (s+1)) (h:=2^s) (o:=2^s) (by omega) (some_:=[rowsL e (a.at s) (2^s) (2^s),rowsL e (b.at s) (2^s) (2^s),rowsL e (c.at s) (2^s) (2^s),rowsL e (d.at s) (2^s) (2^s)]) (u:=2) rfl rfl
   (fun x y hx hy=>by rw[hF,Q.at,if_neg (by omega),if_pos hx,Nat.add_sub_cancel_left]) (fun x y hx hy=>by rw[hF,Q.at,if_neg (by omega),if_neg (by omega),Nat.add_sub_cancel_left,Nat.add_sub_cancel_left]) (t:=pf n) (made:=(List.range (2^s)).map fun y=>rowL e (t.at (s+1)) (2^s+2^s) (0+y)) (by simp;omega)
  rw[fF,bw,hq]
  have hs2:sq (.tup [(.int 0),(.int 2)])=.ok [.int 0,.int 2]:=rfl
  rw[show ((0:Nat):Int)=0 from rfl]at u1
  rw[show ((2:Nat):Int)=2 from rfl]at u2
  simp only[STP,if_true,if_false,ite_true,ite_false,reduceIte,reduceCtorEq,OPP,decide_eq_false e0,sq4,e1,hs2,bR,rR]at hm ⊢
  simp only[STP,if_true,if_false,ite_true,ite_false,reduceIte,reduceCtorEq,hm,u1,List.nil_append]at u2 ⊢
  simp only[STP,if_true,if_false,ite_true,ite_false,reduceIte,reduceCtorEq,u2]
  unfold rowsL
  rw[c5,List.range_add,List.map_append,List.map_map]
  simp[Function.comp_def]
end
theorem Pc.lrows {sz:Nat}{t:Q Int}(p:Pc sz t){n:Nat}(hn:5≤n):pf n F.aJ [picD sz t]=.ok (rowsT .int (t.at sz) (2^sz) (2^sz)):=by
 obtain⟨n,rfl,hn⟩:=ex1 (show 4+1≤n by omega)
 have h3:=p.h3
 have h8:=p8 h3
 have e1:=b6 En.int sz t n h3 p.dep (by omega)
 have hsq:sq (rowsL .int (t.at sz) (2^sz) (2^sz))=.ok ((List.range (2^sz)).map fun y=>rowL .int (t.at sz) (2^sz) y):=iZ (by simp;omega)
 have hm:cMap (fun yh=>dTuple [yh]) ((List.range (2^sz)).map fun y=>rowL .int (t.at sz) (2^sz) y)=.ok (.lst ((List.range (2^sz)).map fun y=>rowT .int (t.at sz) (2^sz) y)):=cr _ _ fun y _=>rfl
 rw[qq,fD]
 unfold picD
 simp only[STP,if_true,if_false,ite_true,ite_false,reduceIte,reduceCtorEq,OPP,e1,hsq,hm]
 rfl
end Lw
end
section
namespace Lw
open PySem FF
theorem dR {α:Type}(c:α→D){step:List D→D→L (List D)}(g:α→List D)(m:Nat):∀ (l:List α) (acc:List D),(∀ a∈l,∀ acc:List D,acc.length≤10000→step acc (c a)=.nx (acc++g a))→(∀ a∈l,(g a).length≤m)→acc.length+l.length*m≤10000→lFor step (l.map c) acc=.nx (acc++l.flatMap g)
 | [],acc,_,_,_=>by simp
 | a::l,acc,h,hm,hl=>by
  have hl':acc.length+(l.length+1)*m≤10000:=hl
  rw[Nat.add_mul]at hl'
  have ha:=hm a (.head _)
  rw[List.map_cons,bR,h a (.head _) acc (by omega),db,dR c g m l (acc++g a) (fun b hb=>h b (.tail _ hb)) (fun b hb=>hm b (.tail _ hb)) (by rw[List.length_append];omega),List.flatMap_cons,List.append_assoc]
theorem c7:∀ is:List Int,intsOf (is.map .int)=some is
 | []=>rfl
 | i::r=>by rw[List.map_cons,intsOf,c7 r];rfl
def vals (f:Nat→Nat→Int)(w k:Nat):List Int:=(List.range k).flatMap fun y=>(List.range w).map fun x=>f x y
theorem mC {f:Nat→Nat→Int}{w k:Nat}{v:Int}:v∈vals f w k↔∃ x y,x < w∧y < k∧v=f x y:=by
 unfold vals
 simp only[List.mem_flatMap,List.mem_map,List.mem_range]
 constructor
 ·rintro ⟨y,hy,x,hx,rfl⟩;exact⟨x,y,hx,hy,rfl⟩
 ·rintro ⟨x,y,hx,hy,rfl⟩;exact⟨y,hy,x,hx,rfl⟩
theorem lm {n d k:Nat}(h:k≤n):HT.sIx n d (some ((k:Nat):Int))=k:=by
 unfold HT.sIx
 simp only
 rw[if_neg (by omega)]
 rw[Int.toNat_natCast]
 omega
theorem j3 {g:Nat→D}{w a h:Nat}(hw:a+h≤w):cutD ((List.range w).map g) (some ((a:Nat):Int)) (some ((a+h:Nat):Int))=(List.range h).map fun i=>g (a+i):=by
 unfold cutD
 rw[List.length_map,List.length_range,lm (by omega),lm (by omega),← List.map_drop,← List.map_take]
 have:((List.range w).drop a).take (a+h - a)=(List.range h).map (a + ·):=by
  rw[show a+h - a=h by omega]
  apply List.ext_getElem?
  intro i
  rw[List.getElem?_take]
  by_cases hi:i < h
  ·rw[if_pos hi,List.getElem?_drop,List.getElem?_range (by omega),List.getElem?_map,List.getElem?_range hi];rfl
  ·rw[if_neg hi,List.getElem?_eq_none (by simp;omega)]
 rw[this,List.map_map]
 rfl
def seqD (b:Bool)(xs:List D):D:=if b then .tup xs else .lst xs
theorem wI {b:Bool}{xs:List D}(h:xs.length≤16777216):sq (seqD b xs)=.ok xs:=by cases b;exact iZ h;exact eV h
def rowsS {α:Type}(b:Bool)(e:α→D)(f:Nat→Nat→α)(w h:Nat):D:=seqD b ((List.range h).map fun y=>rowT e f w y)
end Lw
end
section
namespace Lw
open PySem FF
theorem oS {α:Type}(xs:List D)(k:List D→R α):onL (.lst xs) k=k xs:=rfl
structure Bx where
 l:Nat
 t:Nat
 w:Nat
 h:Nat
def Bx.d (b:Bx):D:=.tup [.int (b.l:Int),.int (b.t:Int),.int (b.w:Int),.int (b.h:Int)]
structure Bx.Ok (s:Nat)(b:Bx):Prop where
 w1:1≤b.w
 h1:1≤b.h
 lw:b.l+b.w≤s
 th:b.t+b.h≤s
def spanB (a b s:Int):Bool:=decide (0≤a)&&(decide (1≤b)&&decide (a+b≤s))
theorem vd {n:Nat}(hn:1≤n)(a b s:Int):pf n F.aG [.int a,.int b,.int s]=.ok (.bl (spanB a b s)):=by
 obtain⟨n,rfl,hn⟩:=ex1 (show 0+1≤n by omega)
 rw[nD,d0]
 simp only[STP,if_true,if_false,ite_true,ite_false,reduceIte,reduceCtorEq,OPP]
 rfl
def boxB (s:Nat)(l t w h:Int):Bool:=spanB l w s&&spanB t h s
section
variable {sz:Nat}{tr:Q Int}
theorem Pc.isbox (p:Pc sz tr){n:Nat}(hn:2≤n)(l t w h:Int):pf n F.aN [picD sz tr,.tup [.int l,.int t,.int w,.int h]]=.ok (.bl (boxB (2^sz) l t w h)):=by
 obtain⟨n,rfl,hn⟩:=ex1 (show 1+1≤n by omega)
 have hm:cMap (fun number=>pf n F.ad [number]) [.int l,.int t,.int w,.int h]=.ok (.lst [.bl true,.bl true,.bl true,.bl true]):=cMap4 (b5 (by omega) rfl) (b5 (by omega) rfl) (b5 (by omega) rfl) (b5 (by omega) rfl)
 have ha:dAll [.lst [.bl true,.bl true,.bl true,.bl true]]=.ok (.bl true):=rfl
 have h4:((([D.int l,D.int t,D.int w,D.int h].length:Nat):Int)=4):=rfl
 rw[ql,fz]
 simp only[STP,if_true,if_false,ite_true,ite_false,reduceIte,reduceCtorEq,OPP,decide_eq_true h4,sq4,hm,ha,p.side (show 1≤n by omega),vd (show 1≤n by omega)]
 rfl
theorem Pc.box_any (p:Pc sz tr){n:Nat}(hn:3≤n)(l t w h:Int):pf n F.av [picD sz tr,.tup [.int l,.int t,.int w,.int h]]=if boxB (2^sz) l t w h=true then .ok .non else .err 3:=by
 obtain⟨n,rfl,hn⟩:=ex1 (show 2+1≤n by omega)
 rw[kO,cg,p.isbox (by omega)]
 cases boxB (2^sz) l t w h<;>rfl
theorem Bx.Ok.b {s:Nat}{b:Bx}(h:b.Ok s):boxB s b.l b.t b.w b.h=true:=by
 have:=h.w1;have:=h.h1;have:=h.lw;have:=h.th
 unfold boxB spanB
 simp
 omega
theorem Pc.box (p:Pc sz tr){n:Nat}(hn:3≤n){b:Bx}(h:b.Ok (2^sz)):pf n F.av [picD sz tr,b.d]=.ok .non:=by
 unfold Bx.d;rw[p.box_any hn,if_pos h.b]
end
def bvals (f:Nat→Nat→Int)(b:Bx):List Int:=vals (sh f b.l b.t) b.w b.h
theorem gT {n:Nat}(hn:1≤n)(f:Nat→Nat→Int)(w h:Nat)(hw:w≤8)(hh:h≤8)(b:Bool):pf n F.ae [rowsS b .int f w h]=.ok (.lst ((vals f w h).map .int)):=by
 obtain⟨n,rfl,hn⟩:=ex1 (show 0+1≤n by omega)
 have h8:h*w≤64:=Nat.mul_le_mul hh hw
 have:=dR (fun y=>rowT .int f w y) (step:=fun s x=>bY (pf n) s x) (fun y=>(List.range w).map fun x=>D.int (f x y)) w (List.range h) [] (fun y hy acc ha=>by
  unfold bY rowT
  rw[sW (by simp;omega)]
  rfl) (fun y hy=>by simp) (by simp;omega)
 have hsq:sq (rowsS b .int f w h)=.ok ((List.range h).map fun y=>rowT .int f w y):=wI (by simp;omega)
 rw[kP,cj]
 simp only[STP,if_true,if_false,ite_true,ite_false,reduceIte,reduceCtorEq,hsq,this]
 unfold vals
 simp[List.map_flatMap,Function.comp_def]
theorem ve (i:Int):asI (.int i)=.ok (some i):=rfl
section
variable {sz:Nat}{tr:Q Int}
theorem Pc.boxed (p:Pc sz tr){n:Nat}(hn:11≤n){b:Bx}(hb:b.Ok (2^sz)):pf n F.ar [picD sz tr,b.d]=.ok (.lst ((bvals (tr.at sz) b).map .int)):=by
 obtain⟨n,rfl,hn⟩:=ex1 (show 10+1≤n by omega)
 have h8:=p8 p.h3
 have lw:=hb.lw
 have th:=hb.th
 have e1:=p.check (n:=n) (by omega)
 have e2:=p.box (n:=n) (by omega) hb
 have e3:=p.rows (n:=n) (by omega)
 have c1:(b.t:Int)+(b.h:Int)=((b.t+b.h:Nat):Int):=by omega
 have c2:(b.l:Int)+(b.w:Int)=((b.l+b.w:Nat):Int):=by omega
 have s1:dSw (rowsT .int (tr.at sz) (2^sz) (2^sz)) (some (b.t:Int)) (some ((b.t+b.h:Nat):Int))=.ok (.tup ((List.range b.h).map fun i=>rowT .int (tr.at sz) (2^sz) (b.t+i))):=by
  unfold rowsT
  show R.ok (D.tup (cutD _ _ _))=_
  rw[j3 th]
 have s2:sq (.tup ((List.range b.h).map fun i=>rowT .int (tr.at sz) (2^sz) (b.t+i)))=.ok ((List.range b.h).map fun i=>rowT .int (tr.at sz) (2^sz) (b.t+i)):=eV (by simp;omega)
 have s3:cMap (fun row=>dSw row (some (b.l:Int)) (some ((b.l+b.w:Nat):Int))) ((List.range b.h).map fun i=>rowT .int (tr.at sz) (2^sz) (b.t+i))=.ok (rowsS false .int (sh (tr.at sz) b.l b.t) b.w b.h):=by
  refine(cr _ (fun i=>rowT .int (sh (tr.at sz) b.l b.t) b.w i) fun i hi=>?_).trans rfl
  unfold rowT
  show R.ok (D.tup (cutD _ _ _))=_
  rw[j3 (g:=fun x=>D.int (tr.at sz x (b.t+i))) lw]
  unfold sh
  congr 2
  exact List.map_congr_left fun x _=>by rw[Nat.add_comm b.l x,Nat.add_comm b.t i]
 have s4:=gT (n:=n) (by omega) (sh (tr.at sz) b.l b.t) b.w b.h (by omega) (by omega) false
 rw[g6,bi,e1,e2,e3]
 unfold Bx.d
 simp only[STP,if_true,if_false,ite_true,ite_false,reduceIte,reduceCtorEq,OPP,ve,c1,c2,s1,s2,s3,s4]
 rfl
theorem gU (is:List Int)(k:Int):dCountI (is.map .int) [.int k]=.ok (.int (is.countP (· == k):Nat)):=by unfold dCountI;simp only[c7]
theorem Pc.countin (p:Pc sz tr){n:Nat}(hn:12≤n){b:Bx}(hb:b.Ok (2^sz)){v:Int}(hv:W9 v):pf n F.aI [picD sz tr,b.d,.int v]=.ok (.int ((bvals (tr.at sz) b).countP (· == v):Nat)):=by
 obtain⟨n,rfl,hn⟩:=ex1 (show 11+1≤n by omega)
 rw[mh,cT,p.boxed (by omega) hb,i7 (by omega) rfl,in9 hv]
 simp only[STP,if_true,if_false,ite_true,ite_false,reduceIte,reduceCtorEq,oS]
 rw[gU]
 rfl
end
theorem fO {α β:Type}(a b:α→List β):∀ l:List α,(l.flatMap fun y=>a y++b y).Perm (l.flatMap a++l.flatMap b)
 | []=>.nil
 | y::l=>by
  rw[List.flatMap_cons,List.flatMap_cons,List.flatMap_cons]
  have ih:=fO a b l
  calc (a y++b y++l.flatMap fun y=>a y++b y).Perm (a y++b y++(l.flatMap a++l.flatMap b)):=List.Perm.append_left _ ih
   _ |>.Perm (a y++l.flatMap a++(b y++l.flatMap b)):=by
    rw[List.append_assoc,List.append_assoc]
    refine List.Perm.append_left _ ?_
    rw[← List.append_assoc,← List.append_assoc]
    exact List.Perm.append_right _ List.perm_append_comm
theorem gW (f:Nat→Nat→Int)(c d k:Nat):(vals f (c+d) k).Perm (vals f c k++vals (sh f c 0) d k):=by
 unfold vals
 have e:((List.range k).flatMap fun y=>(List.range (c+d)).map fun x=>f x y)=(List.range k).flatMap fun y=>((List.range c).map fun x=>f x y)++((List.range d).map fun x=>sh f c 0 x y):=by
  congr 1
  funext y
  rw[List.range_add,List.map_append,List.map_map]
  congr 1
  exact List.map_congr_left fun x _=>by unfold sh;simp[Nat.add_comm]
 rw[e]
 exact fO _ _ _
theorem j4 (f:Nat→Nat→Int)(w c d:Nat):vals f w (c+d)=vals f w c++vals (sh f 0 c) w d:=by
 unfold vals
 rw[List.range_add,List.flatMap_append,List.flatMap_map]
 congr 1
 congr 1
 funext y
 exact List.map_congr_left fun x _=>by unfold sh;simp[Nat.add_comm]
end Lw
end
section
namespace Lw
open PySem FF
theorem jd {α:Type}{f:Unit→α→L Unit}:∀ (l:List α),(∀ a∈l,f () a=.nx ())→lFor f l ()=.nx ()
 | [],_=>rfl
 | a::l,h=>by rw[bR,h a (.head _),db];exact jd l fun b hb=>h b (.tail _ hb)
theorem mD {a b:Nat}(h:a≤b)(hb:b≤1000000):rng2 [.int (a:Int),.int (b:Int)]=.ok ((List.range (b - a)).map fun i=>D.int (((a+i:Nat)):Int)):=by
 show (if (-16777216≤(a:Int)∧(a:Int)≤16777216)∧(-16777216≤(b:Int)∧(b:Int)≤16777216)∧(b:Int) - (a:Int)≤16777216 then R.ok (rngD (a:Int) ((b:Int) - (a:Int)).toNat) else R.stuck)=_
 rw[if_pos ⟨by omega,by omega,by omega⟩]
 unfold rngD
 rw[show ((b:Int) - (a:Int)).toNat=b - a by omega]
 congr 1
structure Sh (sz:Nat)(g:Nat→Nat→Int)(t:Q Int):Prop where
 p:Pc sz t
 w:∀ x y,x < 2^sz→y < 2^sz→t.at sz x y=g x y
theorem Sh.wo {sz:Nat}{g:Nat→Nat→Int}{t:Q Int}(h:Sh sz g t):Wo g sz:=fun x y hx hy=>by rw[← h.w x y hx hy];exact h.p.at x y
theorem sh_T {sz:Nat}{g:Nat→Nat→Int}(h3:sz≤3)(h:Wo g sz):Sh sz g (T g sz):=⟨pc_T h3 h,fun x y hx hy=>T_at sz g x y hx hy⟩
theorem Pc.sh {sz:Nat}{t:Q Int}(p:Pc sz t):Sh sz (t.at sz) t:=⟨p,fun _ _ _ _=>rfl⟩
section
variable {sz:Nat}{g:Nat→Nat→Int}{t:Q Int}
theorem Sh.lean (q:Sh sz g t){n:Nat}(hn:10≤n):pf n F.aH [picD sz t]=.ok (picD sz (T g sz)):=by rw[q.p.lean hn,aR sz _ _ q.w]
theorem Sh.rows (q:Sh sz g t){n:Nat}(hn:10≤n):pf n F.ab [picD sz t]=.ok (rowsT .int g (2^sz) (2^sz)):=by rw[q.p.rows hn,gS q.w]
theorem Sh.lrows (q:Sh sz g t){n:Nat}(hn:5≤n):pf n F.aJ [picD sz t]=.ok (rowsT .int g (2^sz) (2^sz)):=by rw[q.p.lrows hn,gS q.w]
end
theorem sX {xs:List D}{a:Nat}(h:a≤xs.length):cutD xs (some ((a:Nat):Int)) none=xs.drop a:=by
 unfold cutD
 rw[lm h,HT.qX,List.take_of_length_le (by simp)]
theorem je {n:Nat}(hn:3≤n){d:D}(h:noX d=true):pf n F.az [d]=if inTo 9 d=true then .ok .non else .err 1:=by
 obtain⟨n,rfl,hn⟩:=ex1 (show 2+1≤n by omega)
 rw[iM,bu,i7 (by omega) h]
 cases inTo 9 d<;>rfl
section
variable {sz:Nat}{g:Nat→Nat→Int}{t:Q Int}
end
theorem jf {x:D}(h:good 60 x=true):dNf x x=.ok (.bl false):=by rw[my h h,FF.dm 60 x h];rfl
theorem sY {x:D}(h:good 60 x=true):dEq x x=.ok (.bl true):=by rw[fK h h,FF.dm 60 x h]
end Lw
end
section
namespace Lw
open PySem FF
def th (w:Nat):Nat→D→Bool
 | n+1,.tup xs=>decide (xs.length≤w)&&xs.all (th w n)
 | 0,.tup _=>false
 | _,.lst xs=>decide (xs.length≤w)&&xs.all flatD
 | _,.exc _=>false
 | _,.fn _=>false
 | _,_=>true
end Lw
end
section
namespace Lw
open PySem FF
end Lw
end
section
namespace Lw
open PySem FF
section
variable {α:Type}[DecidableEq α]
end
section
variable {sz:Nat}{r:PySem.Str}{i:Nat}{f:Int→Int→Int}
variable {g g':Nat→Nat→Int}{t t':Q Int}
end
end Lw
end
section
namespace Lw
open PySem FF
def sel {β:Type}(k:Nat)(a b c d:β):β:=match k with
 | 0=>a
 | 1=>b
 | 2=>c
 | _=>d
section
variable {α:Type}[DecidableEq α]
def Q.mv (p q r s:Nat):Q α→Q α
 | .lf v=>.lf v
 | .nd a b c d=>.nd (sel p (a.mv p q r s) (b.mv p q r s) (c.mv p q r s) (d.mv p q r s)) (sel q (a.mv p q r s) (b.mv p q r s) (c.mv p q r s) (d.mv p q r s)) (sel r (a.mv p q r s) (b.mv p q r s) (c.mv p q r s) (d.mv p q r s)) (sel s (a.mv p q r s) (b.mv p q r s) (c.mv p q r s) (d.mv p q r s))
theorem oU {p q r s:Nat}{t:Q α}{v:α}:t.mv p q r s=.lf v↔t=.lf v:=by cases t<;>simp[Q.mv]
theorem mE (a b c d:Q α):(∃ v,a=.lf v∧b=.lf v∧c=.lf v∧d=.lf v)∨put4 a b c d=.nd a b c d:=by
 unfold put4
 split
 ·split
  ·rename_i h2;exact .inl ⟨_,rfl,h2⟩
  ·exact .inr rfl
 ·exact .inr rfl
structure Odr (p q r s:Nat)(m:Nat→(Nat→Nat→Int)→Nat→Nat→Int):Prop where
 lt:p < 4∧q < 4∧r < 4∧s < 4
 all:∀ k,k < 4→k=p∨k=q∨k=r∨k=s
 one:∀ g:Nat→Nat→Int,m 1 g 0 0=g 0 0
 loc:∀ (n:Nat) (g:Nat→Nat→Int) (x y:Nat),x < n→y < n→∃ x' y',x' < n∧y' < n∧∀ g':Nat→Nat→Int,m n g' x y=g' x' y'
 q0:∀ (h:Nat) (g:Nat→Nat→Int) (x y:Nat),x < h→y < h→m (h+h) g x y=m h (sel p g (sh g h 0) (sh g 0 h) (sh g h h)) x y
 q1:∀ (h:Nat) (g:Nat→Nat→Int) (x y:Nat),x < h→y < h→m (h+h) g (x+h) y=m h (sel q g (sh g h 0) (sh g 0 h) (sh g h h)) x y
 q2:∀ (h:Nat) (g:Nat→Nat→Int) (x y:Nat),x < h→y < h→m (h+h) g x (y+h)=m h (sel r g (sh g h 0) (sh g 0 h) (sh g h h)) x y
 q3:∀ (h:Nat) (g:Nat→Nat→Int) (x y:Nat),x < h→y < h→m (h+h) g (x+h) (y+h)=m h (sel s g (sh g h 0) (sh g 0 h) (sh g h h)) x y
theorem sel4 {k:Nat}(h:k < 4):k=0∨k=1∨k=2∨k=3:=by omega
theorem vf {p q r s:Nat}{m:Nat→(Nat→Nat→Int)→Nat→Nat→Int}(o:Odr p q r s m)(a b c d:Q Int):(put4 a b c d).mv p q r s=put4 (sel p (a.mv p q r s) (b.mv p q r s) (c.mv p q r s) (d.mv p q r s)) (sel q (a.mv p q r s) (b.mv p q r s) (c.mv p q r s) (d.mv p q r s)) (sel r (a.mv p q r s) (b.mv p q r s) (c.mv p q r s) (d.mv p q r s)) (sel s (a.mv p q r s) (b.mv p q r s) (c.mv p q r s) (d.mv p q r s)):=by
 rcases mE a b c d with ⟨v,rfl,rfl,rfl,rfl⟩ | h
 ·have e:∀ k,sel k ((Q.lf v:Q Int).mv p q r s) ((Q.lf v).mv p q r s) ((Q.lf v).mv p q r s) ((Q.lf v).mv p q r s)=.lf v:=fun k=>by unfold sel;split<;>rfl
  rw[d7,e,e,e,e,d7];rfl
 ·rw[h]
  rcases mE (sel p (a.mv p q r s) (b.mv p q r s) (c.mv p q r s) (d.mv p q r s)) (sel q (a.mv p q r s) (b.mv p q r s) (c.mv p q r s) (d.mv p q r s)) (sel r (a.mv p q r s) (b.mv p q r s) (c.mv p q r s) (d.mv p q r s)) (sel s (a.mv p q r s) (b.mv p q r s) (c.mv p q r s) (d.mv p q r s)) with ⟨v,h0,h1,h2,h3⟩ | h'
  ·have al:∀ k,k < 4→sel k (a.mv p q r s) (b.mv p q r s) (c.mv p q r s) (d.mv p q r s)=.lf v:=fun k hk=>by
    rcases o.all k hk with h | h | h | h
    ·rw[h];exact h0
    ·rw[h];exact h1
    ·rw[h];exact h2
    ·rw[h];exact h3
   have ea:=oU.1 (al 0 (by omega));have eb:=oU.1 (al 1 (by omega));have ec:=oU.1 (al 2 (by omega));have ed:=oU.1 (al 3 (by omega))
   rw[ea,eb,ec,ed,d7]at h
   cases h
  ·rw[h'];rfl
theorem mv_T {p q r s:Nat}{m:Nat→(Nat→Nat→Int)→Nat→Nat→Int}(o:Odr p q r s m):∀ (n:Nat) (g:Nat→Nat→Int),(T g n).mv p q r s=T (m (2^n) g) n
 | 0,g=>by show (Q.lf (g 0 0)).mv p q r s=Q.lf (m 1 g 0 0);rw[o.one];rfl
 | n+1,g=>by
  rw[T,vf o,T,c5]
  have e:∀ k,k < 4→sel k ((T g n).mv p q r s) ((T (sh g (2^n) 0) n).mv p q r s) ((T (sh g 0 (2^n)) n).mv p q r s) ((T (sh g (2^n) (2^n)) n).mv p q r s)=T (m (2^n) (sel k g (sh g (2^n) 0) (sh g 0 (2^n)) (sh g (2^n) (2^n)))) n:=fun k hk=>by
   rcases sel4 hk with rfl | rfl | rfl | rfl<;>exact mv_T o n _
  rw[e p o.lt.1,e q o.lt.2.1,e r o.lt.2.2.1,e s o.lt.2.2.2]
  congr 1
  ·exact aR n _ _ fun x y hx hy=>(o.q0 _ g x y hx hy).symm
  ·exact aR n _ _ fun x y hx hy=>(o.q1 _ g x y hx hy).symm
  ·exact aR n _ _ fun x y hx hy=>(o.q2 _ g x y hx hy).symm
  ·exact aR n _ _ fun x y hx hy=>(o.q3 _ g x y hx hy).symm
end
def mSwap (s:Nat)(g:Nat→Nat→Int):Nat→Nat→Int:=fun x y=>g y x
theorem sZ:Odr 0 2 1 3 mSwap:=⟨by decide,by decide,fun g=>rfl,fun n g x y hx hy=>⟨y,x,hy,hx,fun _=>rfl⟩,
 fun h g x y hx hy=>by simp only[mSwap,sel,sh],fun h g x y hx hy=>by simp only[mSwap,sel,sh];congr 1,fun h g x y hx hy=>by simp only[mSwap,sel,sh];congr 1,fun h g x y hx hy=>by simp only[mSwap,sel,sh]⟩
section
variable {p q r s:Nat}{m:Nat→(Nat→Nat→Int)→Nat→Nat→Int}
theorem tj (a b c d:Int):sq (tupI [a,b,c,d])=.ok [.int a,.int b,.int c,.int d]:=rfl
theorem wJ {k:Nat}(h:k < 4)(a b c d:D):dIx (.tup [a,b,c,d]) (.int (k:Int))=.ok (sel k a b c d):=by rcases sel4 h with rfl | rfl | rfl | rfl<;>rfl
theorem dS (o:Odr p q r s m):∀ (n:Nat) (t:Q Int),t.dep+1≤n→pf n F.af [t.d .int,tupI [(p:Int),(q:Int),(r:Int),(s:Int)]]=.ok ((t.mv p q r s).d .int)
 | 0,t,h=>by omega
 | n+1,.lf v,h=>by rw[em,bh];simp only[Q.d,STP,if_true,if_false,ite_true,ite_false,reduceIte,reduceCtorEq,OPP];rfl
 | n+1,.nd a b c d,h=>by
  have hd:a.dep+1≤n∧b.dep+1≤n∧c.dep+1≤n∧d.dep+1≤n:=by simp only[Q.dep]at h;omega
  have ha:=dS o n a hd.1;have hb:=dS o n b hd.2.1;have hc:=dS o n c hd.2.2.1;have hdd:=dS o n d hd.2.2.2
  have step:∀ k:Nat,k < 4→((dIx (.tup [a.d .int,b.d .int,c.d .int,d.d .int]) (.int (k:Int))).bind fun x=>pf n F.af [x,tupI [(p:Int),(q:Int),(r:Int),(s:Int)]])=.ok ((sel k (a.mv p q r s) (b.mv p q r s) (c.mv p q r s) (d.mv p q r s)).d .int):=fun k hk=>by
   rw[wJ hk,R.bind_ok]
   rcases sel4 hk with rfl | rfl | rfl | rfl
   ·exact ha
   ·exact hb
   ·exact hc
   ·exact hdd
  rw[em,bh]
  simp only[Q.d,STP,if_true,if_false,ite_true,ite_false,reduceIte,reduceCtorEq,OPP,tj]
  rw[cMap4 (step p o.lt.1) (step q o.lt.2.1) (step r o.lt.2.2.1) (step s o.lt.2.2.2)]
  rfl
variable {sz:Nat}{g:Nat→Nat→Int}{t:Q Int}
theorem Sh.moved (w:Sh sz g t)(o:Odr p q r s m){n:Nat}(hn:11≤n):pf n F.aM [picD sz t,tupI [(p:Int),(q:Int),(r:Int),(s:Int)]]=.ok (picD sz (T (m (2^sz) g) sz)):=by
 obtain⟨n,rfl⟩:∃ j,n=j+1:=⟨n - 1,by omega⟩
 have e1:=w.lean (n:=n) (by omega)
 have e2:=dS o n (T g sz) (by have:=iY sz g;have:=w.p.h3;omega)
 rw[mv_T o]at e2
 have e3:dIx (picD sz (T g sz)) (.int 0)=.ok (.int (sz:Int)):=rfl
 have e4:dIx (picD sz (T g sz)) (.int 1)=.ok ((T g sz).d .int):=rfl
 rw[sG,hV]
 simp only[STP,if_true,if_false,ite_true,ite_false,reduceIte,reduceCtorEq,e1,e2,e3,e4]
 rfl
theorem Sh.mv (w:Sh sz g t)(o:Odr p q r s m):Sh sz (m (2^sz) g) (T (m (2^sz) g) sz):=sh_T w.p.h3 fun x y hx hy=>by
 obtain⟨x',y',h1,h2,h3⟩:=o.loc (2^sz) g x y hx hy
 rw[h3];exact w.wo x' y' h1 h2
end
end Lw
end
section
namespace Lw
open PySem FF
section
variable {sz:Nat}{g g' g'':Nat→Nat→Int}{t t' t'':Q Int}
end
end Lw
end
section
namespace Lw
open PySem FF
def rowI (g:Nat→Nat→Int)(w y:Nat):List Int:=(List.range w).map fun x=>g x y
theorem tm (g:Nat→Nat→Int)(w y:Nat):rowT .int g w y=.tup ((rowI g w y).map .int):=by unfold rowT rowI;rw[List.map_map];rfl
def countsT (l:List Int):D:=.tup ((List.range 10).map fun v:Nat=>D.int ((l.countP (· == (v:Int)):Nat):Int))
section
variable {sz:Nat}{g:Nat→Nat→Int}{t:Q Int}
theorem nW (l:List Int):cMap (fun w=>dCountI (l.map .int) [w]) ((List.range 10).map fun i:Nat=>D.int (i:Int))=.ok (.lst ((List.range 10).map fun v:Nat=>D.int ((l.countP (· == (v:Int)):Nat):Int))):=cr _ _ fun v _=>gU l v
theorem Sh.sqrows (q:Sh sz g t):sq (rowsT .int g (2^sz) (2^sz))=.ok ((List.range (2^sz)).map fun y=>rowT .int g (2^sz) y):=eV (by have:=p8 q.p.h3;simp;omega)
theorem Sh.worths (q:Sh sz g t){n:Nat}(hn:1≤n):pf n F.ae [rowsT .int g (2^sz) (2^sz)]=.ok (.lst ((vals g (2^sz) (2^sz)).map .int)):=gT hn g _ _ (p8 q.p.h3) (p8 q.p.h3) true
theorem Sh.counts (q:Sh sz g t){n:Nat}(hn:11≤n):pf n F.aP [picD sz t]=.ok (countsT (vals g (2^sz) (2^sz))):=by
 obtain⟨n,rfl,hn⟩:=ex1 (show 10+1≤n by omega)
 have r10:rng1 [.int (9+1)]=.ok ((List.range 10).map fun i:Nat=>D.int (i:Int)):=c6 (s:=10) (by decide)
 rw[qm,fA,q.rows (by omega),R.bind_ok,q.worths (by omega)]
 simp only[STP,if_true,if_false,ite_true,ite_false,reduceIte,reduceCtorEq,OPP,r10,oS,nW]
 rfl
theorem Sh.swapped (q:Sh sz g t){n:Nat}(hn:12≤n):pf n F.aK [picD sz t]=.ok (picD sz (T (mSwap (2^sz) g) sz)):=by
 obtain⟨n,rfl,hn⟩:=ex1 (show 11+1≤n by omega)
 have e:=q.moved sZ (n:=n) (by omega)
 rw[nE,d4]
 have e':pf n F.aM [picD sz t,tupI [0,2,1,3]]=_:=e
 rw[e']
 rfl
end
theorem tt {v:Int}(r:List Int):((r.map D.int).any fun e=>eqD e (.int v))=decide (v∈r):=by
 rw[List.any_map]
 rw[Bool.eq_iff_iff]
 simp only[List.any_eq_true,Function.comp_apply,eqD,beq_iff_eq,decide_eq_true_eq]
 exact⟨fun ⟨x,h,e⟩=>e ▸ h,fun h=>⟨v,h,rfl⟩⟩
theorem tu (v:Int)(r:List Int):dInD (.int v) (.tup (r.map .int))=.ok (.bl (decide (v∈r))):=by
 show (if good 60 (D.int v)=true∧goods 60 (r.map D.int)=true then R.ok (D.bl ((r.map D.int).any fun e=>eqD e (D.int v))) else R.stuck)=_
 rw[if_pos ⟨rfl,d9 60 r⟩,tt]
section
variable {sz:Nat}{g:Nat→Nat→Int}{t:Q Int}
end
end Lw
end
section
namespace Lw
open PySem FF
structure Bk where
 l:Nat
 t:Nat
 w:Nat
 v:Int
 deriving DecidableEq
def bks:Nat→Q Int→Nat→Nat→List Bk
 | n,.lf v,l,t=>[⟨l,t,2^n,v⟩]
 | 0,.nd _ _ _ _,_,_=>[]
 | n+1,.nd a b c d,l,t=>bks n a l t++(bks n b (l+2^n) t++(bks n c l (t+2^n)++bks n d (l+2^n) (t+2^n)))
end Lw
end
section
namespace Lw
open PySem FF
theorem mF {σ:Type}(a b:D)(k:D→D→L σ):lUn2 (.tup [a,b]) k=k a b:=rfl
section
variable {sz:Nat}{g:Nat→Nat→Int}{t:Q Int}
def bs (sz:Nat)(g:Nat→Nat→Int):List Bk:=bks sz (T g sz) 0 0
end
end Lw
end
section
namespace Lw
open PySem FF
theorem j5 {α:Type}(a b:α→D):∀ l:List α,eqDs (l.map a) (l.map b)=l.all fun i=>eqD (a i) (b i)
 | []=>by simp[eqDs]
 | x::l=>by rw[List.map_cons,List.map_cons,eqDs,j5 a b l,List.all_cons]
section
variable {sz sz':Nat}{g g':Nat→Nat→Int}{t t':Q Int}
end
end Lw
end
section
namespace Lw
open PySem FF
section
variable {sz:Nat}{g g':Nat→Nat→Int}{t t':Q Int}
end
section
variable {sz:Nat}{g g':Nat→Nat→Int}{t t':Q Int}
end
theorem gH:∀ (k:Nat) (l:List Int),l.Nodup→(∀ v∈l,0≤v∧v < k)→l.length≤k
 | 0,l,_,h=>by
  cases l with
  | nil=>exact Nat.le_refl _
  | cons a l=>have:=h a (.head _);omega
 | k+1,l,nd,h=>by
  by_cases m:(k:Int)∈l
  ·have e:=List.length_erase_of_mem m
   have:=gH k (l.erase k) (nd.erase _) fun v hv=>by
    have h1:=(List.Nodup.mem_erase_iff nd).mp hv
    have:=h v h1.2
    have:=h1.1
    omega
   omega
  ·have:=gH k l nd fun v hv=>by
    have:=h v hv
    have:v≠k:=fun e=>m (e ▸ hv)
    omega
   omega
theorem gI:∀ (is ms:List Int),ms.Nodup→(is.foldl addI ms).Nodup∧∀ v,v∈is.foldl addI ms↔v∈ms∨v∈is
 | [],ms,h=>⟨h,fun v=>by simp⟩
 | k::is,ms,h=>by
  have h':(addI ms k).Nodup:=by
   unfold addI
   split
   ·exact h
   ·rename_i c;exact List.nodup_cons.mpr ⟨c,h⟩
  obtain⟨a,b⟩:=gI is (addI ms k) h'
  refine⟨a,fun v=>?_⟩
  rw[List.foldl_cons,b v]
  unfold addI
  split
  ·rename_i c
   simp only[List.mem_cons]
   exact⟨fun z=>z.elim .inl fun z=>.inr (.inr z),fun z=>z.elim .inl fun z=>z.elim (fun e=>.inl (e ▸ c)) .inr⟩
  ·simp only[List.mem_cons]
   exact⟨fun z=>z.elim (fun z=>z.elim (fun e=>.inr (.inl e)) .inl) fun z=>.inr (.inr z),fun z=>z.elim (fun z=>.inl (.inr z)) fun z=>z.elim (fun e=>.inl (.inl e)) .inr⟩
theorem tw (is:List Int)(v:Int):v∈onceI is↔v∈is:=by
 have:=(gI is [] List.nodup_nil).2 v
 unfold onceI
 simpa using this
theorem tz {is:List Int}(h:∀ v∈is,W9 v):(onceI is).length≤10:=by
 refine gH 10 _ (gI is [] List.nodup_nil).1 fun v hv=>?_
 have:=h v ((tw is v).mp hv)
 unfold W9 at this
 omega
def setL (is:List Int):List Int:=sortI (onceI is)
theorem j6 {is:List Int}(h:∀ v∈is,W9 v):dSortS [.lst (is.map .int)]=.ok (.lst ((setL is).map .int)):=by
 unfold dSortS
 simp only[c7]
 have:=tz h
 rw[if_pos (by omega)]
 rfl
section
variable {sz:Nat}{g g':Nat→Nat→Int}{t t':Q Int}
theorem Sh.vals9 (q:Sh sz g t):∀ v∈vals g (2^sz) (2^sz),W9 v:=fun v hv=>by
 obtain⟨x,y,hx,hy,rfl⟩:=mC.mp hv
 exact q.wo x y hx hy
theorem Sh.worthsin (q:Sh sz g t){n:Nat}(hn:11≤n):pf n F.ak [picD sz t]=.ok (.lst ((setL (vals g (2^sz) (2^sz))).map .int)):=by
 obtain⟨n,rfl,hn⟩:=ex1 (show 10+1≤n by omega)
 rw[kQ,ck,q.rows (by omega),R.bind_ok,q.worths (by omega),R.bind_ok,j6 q.vals9]
 rfl
end
theorem vF (f:Nat→D):∀ (n k:Nat),enD ((List.range' k n).map f) k=(List.range' k n).map fun i=>.tup [.int (i:Int),f i]
 | 0,k=>rfl
 | n+1,k=>by rw[List.range'_succ,List.map_cons,enD,vF f n (k+1),List.map_cons]
theorem oV (f:Nat→D)(n:Nat)(hn:n≤1000):dEnum (.tup ((List.range n).map f))=.ok ((List.range n).map fun i:Nat=>.tup [.int (i:Int),f i]):=by
 unfold dEnum
 rw[eV (by simp;omega),R.bind_ok,List.range_eq_range',vF]
def cpD (p:Nat×Nat):D:=.tup [.int (p.1:Int),.int (p.2:Int)]
def sameR (g:Nat→Nat→Int)(s y o:Nat):Bool:=decide (∀ x,x < s→g x o=g x y)
def likes (g:Nat→Nat→Int)(s:Nat)(y:Nat):List (Nat×Nat):=(((List.range (s - (y+1))).map fun i=>y+1+i).filter (sameR g s y)).map fun o=>(y,o)
def likesL (g:Nat→Nat→Int)(s:Nat):List (Nat×Nat):=(List.range s).flatMap (likes g s)
theorem oW (g:Nat→Nat→Int)(s y o:Nat):dEq (rowT .int g s o) (rowT .int g s y)=.ok (.bl (sameR g s y o)):=by
 rw[fK (gG En.int.gd g s o 59) (gG En.int.gd g s y 59)]
 unfold rowT sameR
 rw[eqD,j5]
 congr 2
 rw[Bool.eq_iff_iff]
 simp only[List.all_eq_true,List.mem_range,eqD,beq_iff_eq,decide_eq_true_eq]
theorem eg (g:Nat→Nat→Int)(s y:Nat):(likes g s y).length≤s:=by
 unfold likes
 rw[List.length_map]
 refine Nat.le_trans (List.length_filter_le _ _) ?_
 rw[List.length_map,List.length_range]
 omega
section
variable {sz:Nat}{g g':Nat→Nat→Int}{t t':Q Int}
theorem Sh.likerows (q:Sh sz g t){n:Nat}(hn:11≤n):pf n F.ay [picD sz t]=.ok (.lst ((likesL g (2^sz)).map cpD)):=by
 obtain⟨n,rfl,hn⟩:=ex1 (show 10+1≤n by omega)
 have h8:=p8 q.p.h3
 have en:dEnum (rowsT .int g (2^sz) (2^sz))=.ok ((List.range (2^sz)).map fun y:Nat=>.tup [.int (y:Int),rowT .int g (2^sz) y]):=oV _ _ (by omega)
 have ln:dLen [rowsT .int g (2^sz) (2^sz)]=.ok (.int ((2^sz:Nat):Int)):=by unfold rowsT;rw[dL];simp
 rw[kS,cp,q.rows (by omega),aC,en,aC]
 have step:∀ y∈List.range (2^sz),∀ acc:List D,acc.length≤10000→bZ (pf n) (rowsT .int g (2^sz) (2^sz)) acc (.int (y:Int)) (rowT .int g (2^sz) y)=.nx (acc++(likes g (2^sz) y).map cpD):=by
  intro y hy acc ha
  have hy':=List.mem_range.mp hy
  have i1:(y:Int)+1=((y+1:Nat):Int):=by omega
  have cf:cFil (fun other=>asB ((dIx (rowsT .int g (2^sz) (2^sz)) other).bind fun x2=>dEq x2 (rowT .int g (2^sz) y))) (fun other=>.ok (.tup [.int (y:Int),other])) ((List.range (2^sz - (y+1))).map fun i=>D.int (((y+1+i:Nat)):Int))=.ok (.lst ((likes g (2^sz) y).map cpD)):=by
   have:=fJ (l:=(List.range (2^sz - (y+1))).map fun i=>y+1+i) (c:=fun other=>asB ((dIx (rowsT .int g (2^sz) (2^sz)) other).bind fun x2=>dEq x2 (rowT .int g (2^sz) y))) (e:=fun other=>.ok (.tup [.int (y:Int),other])) (fun o:Nat=>D.int (o:Int)) (fun o=>cpD (y,o)) (sameR g (2^sz) y) fun o ho=>by
    obtain⟨i,hi,rfl⟩:=List.mem_map.mp ho
    have:=List.mem_range.mp hi
    rw[dP (by omega),R.bind_ok,oW]
    exact⟨rfl,fun _=>rfl⟩
   rw[List.map_map]at this
   unfold likes
   rw[List.map_map]
   exact this
  rw[bZ,aT,R.bind_ok,ln,R.bind_ok,i1,mD (by omega) (by omega),R.bind_ok,cf,R.bind_ok,dQ (by have:=eg g (2^sz) y;rw[List.length_map];omega),aC]
 rw[dR (fun y:Nat=>D.tup [.int (y:Int),rowT .int g (2^sz) y]) (fun y=>(likes g (2^sz) y).map cpD) 8 _ [] (fun y hy acc ha=>by rw[mF];exact step y hy acc ha) (fun y _=>by have:=eg g (2^sz) y;rw[List.length_map];omega) (by rw[List.length_range,List.length_nil];omega),db]
 unfold likesL
 rw[List.map_flatMap]
 rfl
end
end Lw
end
section
namespace Lw
open PySem FF
theorem tF {sz:Nat}(h:sz≤3)(g:Nat→Nat→Int):vals g (2^sz) (2^sz)=(List.range (2^sz*2^sz)).map fun i=>g (i%2^sz) (i/2^sz):=by
 rcases jc h with rfl | rfl | rfl | rfl<;>rfl
theorem tG {sz:Nat}(h:sz≤3)(g:Nat→Nat→Int)(t:Nat→List D→R D):lFor (τ:=List D) (fun s x=>bL t s x) ((List.range (2^sz)).map fun y=>rowT .int g (2^sz) y) []=.nx ((vals g (2^sz) (2^sz)).map .int):=by
 have h8:=p8 h
 rw[dR (fun y=>rowT .int g (2^sz) y) (fun y=>(List.range (2^sz)).map fun x=>D.int (g x y)) 8 (List.range (2^sz)) [] (fun y hy acc ha=>by
  show bL t acc (.tup ((List.range (2^sz)).map fun x=>D.int (g x y)))=_
  rw[bL,j0,R.bind_ok,dQ (by rw[List.length_map,List.length_range];omega),aC]) (fun y _=>by rw[List.length_map,List.length_range];omega) (by rw[List.length_range,List.length_nil];omega)]
 unfold vals
 rw[List.map_flatMap,List.nil_append]
 simp only[List.map_map]
 rfl
theorem tH {l:List Int}{a:Int}{r:List Int}(e:l=a::r)(h:l.Pairwise (·≤·)):∀ x∈l,a≤x:=by
 subst e
 intro x hx
 rcases List.mem_cons.mp hx with rfl | hx
 ·exact Int.le_refl _
 ·exact(List.pairwise_cons.mp h).1 x hx
theorem tJ {l:List Int}{a:Int}{r:List Int}(e:l=r++[a])(h:l.Pairwise (·≤·)):∀ x∈l,x≤a:=by
 subst e
 intro x hx
 rcases List.mem_append.mp hx with hx | hx
 ·exact(List.pairwise_append.mp h).2.2 x hx a (List.mem_singleton.mpr rfl)
 ·rw[List.mem_singleton.mp hx];exact Int.le_refl _
structure Ends (l:List Int)(a b:Int):Prop where
 i0:dIx (.lst (l.map .int)) (.int 0)=.ok (.int a)
 i1:dIx (.lst (l.map .int)) (.int (-1))=.ok (.int b)
 ma:a∈l
 mb:b∈l
 lo:∀ x∈l,a≤x
 hi:∀ x∈l,x≤b
theorem ia {l:List Int}(hn:l≠[])(h:l.Pairwise (·≤·)):∃ a b,Ends l a b:=by
 obtain⟨a,r,e⟩:∃ a r,l=a::r:=by
  cases l with
  | nil=>exact absurd rfl hn
  | cons a r=>exact⟨a,r,rfl⟩
 obtain⟨r',b,e'⟩:∃ r' b,l=r'++[b]:=⟨l.dropLast,l.getLast hn,(List.dropLast_concat_getLast hn).symm⟩
 refine⟨a,b,?_,?_,by rw[e];exact .head _,by rw[e'];simp,tH e h,tJ e' h⟩
 ·rw[e]
  exact ixL (i:=0) rfl
 ·have lp:0 < l.length:=by rw[e];simp
  have ix:L2.atI (l.map D.int) (-1)=some (.int b):=by
   unfold L2.atI L2.ixN
   rw[List.length_map]
   rw[if_neg (by decide),if_pos (by omega)]
   show (l.map D.int)[((-1:Int)+(l.length:Int)).toNat]?=_
   rw[show ((-1:Int)+(l.length:Int)).toNat=l.length - 1 by omega,List.getElem?_map,e']
   simp
  unfold dIx
  simp only[ix]
theorem j7 {l m:List Int}{a b c d:Int}(h:Ends l a b)(k:Ends m c d)(e:∀ x,x∈l↔x∈m):a=c∧b=d:=by
 constructor
 ·have h1:=h.lo c ((e c).mpr k.ma)
  have h2:=k.lo a ((e a).mp h.ma)
  omega
 ·have h1:=h.hi d ((e d).mpr k.mb)
  have h2:=k.hi b ((e b).mp h.mb)
  omega
section
variable (g:Nat→Nat→Int)(s:Nat)(v:Int)
def ksL:List Nat:=(List.range (s*s)).filter fun k=>g (k%s) (k/s)==v
def colL:List Nat:=(List.range s).filter fun x=>decide (v∈(List.range s).map fun y=>g x y)
def rowL':List Nat:=(List.range s).filter fun y=>decide (v∈(List.range s).map fun x=>g x y)
end
def nI (l:List Nat):List Int:=l.map fun (i:Nat)=>(i:Int)
theorem nX (l:List Nat):(nI l).map D.int=l.map fun (i:Nat)=>D.int (i:Int):=by unfold nI;rw[List.map_map];rfl
section
variable {g:Nat→Nat→Int}{s:Nat}{v:Int}
theorem lq {k:Nat}:k∈ksL g s v↔k < s*s∧g (k%s) (k/s)=v:=by unfold ksL;rw[List.mem_filter,List.mem_range,beq_iff_eq]
theorem ks_x (hs:0 < s){x:Nat}:x∈(ksL g s v).map (· % s)↔x∈colL g s v:=by
 unfold colL
 rw[List.mem_map,List.mem_filter,List.mem_range,decide_eq_true_eq,List.mem_map]
 constructor
 ·rintro ⟨k,hk,rfl⟩
  obtain⟨h1,h2⟩:=lq.mp hk
  exact⟨Nat.mod_lt _ hs,k/s,List.mem_range.mpr (Nat.div_lt_of_lt_mul h1),h2⟩
 ·rintro ⟨hx,y,hy,e⟩
  have hy':=List.mem_range.mp hy
  have h1:(y*s+x)%s=x:=by rw[Nat.mul_comm,Nat.mul_add_mod,Nat.mod_eq_of_lt hx]
  have h2:(y*s+x)/s=y:=by rw[Nat.mul_comm,Nat.mul_add_div hs,Nat.div_eq_of_lt hx,Nat.add_zero]
  refine⟨y*s+x,lq.mpr ⟨?_,by rw[h1,h2];exact e⟩,h1⟩
  have:(y+1)*s≤s*s:=Nat.mul_le_mul_right s hy'
  rw[Nat.add_mul]at this
  omega
theorem ks_y (hs:0 < s){y:Nat}:y∈(ksL g s v).map (· / s)↔y∈rowL' g s v:=by
 unfold rowL'
 rw[List.mem_map,List.mem_filter,List.mem_range,decide_eq_true_eq,List.mem_map]
 constructor
 ·rintro ⟨k,hk,rfl⟩
  obtain⟨h1,h2⟩:=lq.mp hk
  exact⟨Nat.div_lt_of_lt_mul h1,k%s,List.mem_range.mpr (Nat.mod_lt _ hs),h2⟩
 ·rintro ⟨hy,x,hx,e⟩
  have hx':=List.mem_range.mp hx
  have h1:(y*s+x)%s=x:=by rw[Nat.mul_comm,Nat.mul_add_mod,Nat.mod_eq_of_lt hx']
  have h2:(y*s+x)/s=y:=by rw[Nat.mul_comm,Nat.mul_add_div hs,Nat.div_eq_of_lt hx',Nat.add_zero]
  refine⟨y*s+x,lq.mpr ⟨?_,by rw[h1,h2];exact e⟩,h2⟩
  have:(y+1)*s≤s*s:=Nat.mul_le_mul_right s hy
  rw[Nat.add_mul]at this
  omega
end
theorem cv {l:List Nat}{x:Int}:x∈nI l↔∃ n,n∈l∧x=(n:Int):=by
 unfold nI
 rw[List.mem_map]
 exact⟨fun ⟨n,h,e⟩=>⟨n,h,e.symm⟩,fun ⟨n,h,e⟩=>⟨n,h,e.symm⟩⟩
theorem oX {n:Nat}{p:Nat→Bool}:(nI ((List.range n).filter p)).Pairwise (·≤·):=by
 unfold nI
 rw[List.pairwise_map]
 exact(List.Pairwise.filter p List.pairwise_lt_range).imp fun h=>by omega
theorem tK (g:Nat→Nat→Int)(s y:Nat)(v:Int):dInD (.int v) (rowT .int g s y)=.ok (.bl (decide (v∈(List.range s).map fun x=>g x y))):=by
 have:=tu v ((List.range s).map fun x=>g x y)
 rw[List.map_map]at this
 exact this
section
variable {sz:Nat}{g:Nat→Nat→Int}{t:Q Int}
theorem Sh.rowswith (q:Sh sz g t){n:Nat}(hn:11≤n)(v:Int):pf n F.aw [picD sz t,.int v]=.ok (.lst ((nI (rowL' g (2^sz) v)).map .int)):=by
 obtain⟨n,rfl,hn⟩:=ex1 (show 10+1≤n by omega)
 have h8:=p8 q.p.h3
 have en:dEnum (rowsT .int g (2^sz) (2^sz))=.ok ((List.range (2^sz)).map fun y:Nat=>.tup [.int (y:Int),rowT .int g (2^sz) y]):=oV _ _ (by omega)
 have cf:cFil (fun p=>un2 p fun y row=>(asB (dInD (.int v) row))) (fun p=>un2 p fun y row=>.ok y) ((List.range (2^sz)).map fun y:Nat=>.tup [.int (y:Int),rowT .int g (2^sz) y])=.ok (.lst ((rowL' g (2^sz) v).map fun (i:Nat)=>D.int (i:Int))):=by
  refine fJ (fun y:Nat=>D.tup [.int (y:Int),rowT .int g (2^sz) y]) (fun (i:Nat)=>D.int (i:Int)) (fun y=>decide (v∈(List.range (2^sz)).map fun x=>g x y)) fun y _=>⟨?_,fun _=>rfl⟩
  show asB (dInD (.int v) (rowT .int g (2^sz) y))=_
  rw[tK,ba]
 rw[kR,cm,q.rows (by omega),R.bind_ok,en,R.bind_ok,cf,nX]
 rfl
theorem qK (g:Nat→Nat→Int)(s:Nat)(v:Int):rowL' (mSwap s g) s v=colL g s v:=rfl
def boxD (x0 x1 y0 y1:Int):D:=.tup [.int x0,.int y0,.int (x1 - x0+1),.int (y1 - y0+1)]
theorem Sh.boxof_none (q:Sh sz g t){n:Nat}(hn:14≤n){v:Int}(hv:W9 v)(h:rowL' g (2^sz) v=[]):pf n F.aE [picD sz t,.int v]=.ok .non:=by
 obtain⟨n,rfl,hn⟩:=ex1 (show 13+1≤n by omega)
 have e:=q.rowswith (n:=n) (by omega) v
 rw[h]at e
 have cw:=je (n:=n) (by omega) (d:=.int v) rfl
 rw[in9 hv,if_pos rfl]at cw
 rw[jU,dr,q.p.check (by omega),aC,cw,aC,e,aC]
 rfl
theorem Sh.boxof_some (q:Sh sz g t){n:Nat}(hn:14≤n){v x0 x1 y0 y1:Int}(hv:W9 v)(h:rowL' g (2^sz) v≠[])(ex:Ends (nI (colL g (2^sz) v)) x0 x1)(ey:Ends (nI (rowL' g (2^sz) v)) y0 y1):pf n F.aE [picD sz t,.int v]=.ok (boxD x0 x1 y0 y1):=by
 obtain⟨n,rfl,hn⟩:=ex1 (show 13+1≤n by omega)
 have e:=q.rowswith (n:=n) (by omega) v
 have e2:=(q.mv sZ).rowswith (n:=n) (by omega) v
 rw[qK]at e2
 have e3:=q.swapped (n:=n) (by omega)
 have cw:=je (n:=n) (by omega) (d:=.int v) rfl
 rw[in9 hv,if_pos rfl]at cw
 have ln:(dLen [.lst ((nI (rowL' g (2^sz) v)).map .int)]).bind (fun x=>dEq x (.int 0))=.ok (.bl false):=by
  rw[i5,R.bind_ok,d8,decide_eq_false]
  rw[List.length_map]
  unfold nI
  rw[List.length_map]
  have:=List.length_pos_iff.mpr h
  omega
 rw[jU,dr,q.p.check (by omega),aC,cw,aC,e,aC,ln,ba,aC,if_neg (by decide),db,e3,R.bind_ok,e2,aC,ex.i0,ey.i0,ex.i1,ey.i1]
 rfl
end
theorem cnt0 {f:Nat→Nat→Int}{w k:Nat}{v:Int}(h:∀ x y,x < w→y < k→f x y≠v):(vals f w k).countP (· == v)=0:=by
 rw[List.countP_eq_zero]
 intro a ha
 obtain⟨x,y,hx,hy,rfl⟩:=mC.mp ha
 simpa using h x y hx hy
theorem xw (f:Nat→Nat→Int){s a w k:Nat}{v:Int}(hs:a+w≤s)(h:∀ x y,x < s→y < k→f x y=v→a≤x∧x < a+w):(vals f s k).countP (· == v)=(vals (sh f a 0) w k).countP (· == v):=by
 obtain⟨r,rfl⟩:∃ r,s=a+(w+r):=⟨s - a - w,by omega⟩
 rw[(gW f a (w+r) k).countP_eq,List.countP_append,(gW (sh f a 0) w r k).countP_eq,List.countP_append,cnt0 (f:=f) fun x y hx hy e=>by have:=h x y (by omega) hy e;omega]
 rw[cnt0 (f:=sh (sh f a 0) w 0) fun x y hx hy e=>by
  have:=h (x+w+a) y (by omega) hy (by simpa [sh,Nat.add_assoc] using e)
  omega]
 omega
theorem xx (f:Nat→Nat→Int){w s a k:Nat}{v:Int}(hs:a+k≤s)(h:∀ x y,x < w→y < s→f x y=v→a≤y∧y < a+k):(vals f w s).countP (· == v)=(vals (sh f 0 a) w k).countP (· == v):=by
 obtain⟨r,rfl⟩:∃ r,s=a+(k+r):=⟨s - a - k,by omega⟩
 rw[j4 f w a (k+r),List.countP_append,j4 (sh f 0 a) w k r,List.countP_append,cnt0 (f:=f) fun x y hx hy e=>by have:=h x y hx (by omega) e;omega]
 rw[cnt0 (f:=sh (sh f 0 a) 0 k) fun x y hx hy e=>by
  have:=h x (y+k+a) hx (by omega) (by simpa [sh,Nat.add_assoc] using e)
  omega]
 omega
theorem vg (f:Nat→Nat→Int){s:Nat}{v:Int}(b:Bx)(hb:b.Ok s)(h:∀ x y,x < s→y < s→f x y=v→(b.l≤x∧x < b.l+b.w)∧b.t≤y∧y < b.t+b.h):(vals f s s).countP (· == v)=(bvals f b).countP (· == v):=by
 obtain⟨h1,h2,h3,h4⟩:b.l+b.w≤s∧b.t+b.h≤s∧1≤b.w∧1≤b.h:=by
  have:=hb.b
  simp only[boxB,spanB,Bool.and_eq_true,decide_eq_true_eq]at this
  omega
 rw[xw f h1 fun x y hx hy e=>(h x y hx hy e).1,xx (sh f b.l 0) h2 fun x y hx hy e=>(h (x+b.l) y (by omega) hy (by simpa [sh] using e)).2,xv]
 unfold bvals
 rw[Nat.add_zero,Nat.zero_add]
theorem nY (l:List Int){v:Int}(hv:W9 v):dIx (countsT l) (.int v)=.ok (.int ((l.countP (· == v):Nat):Int)):=by
 obtain⟨n,rfl⟩:∃ n:Nat,v=(n:Int):=⟨v.toNat,by have:=hv.1;omega⟩
 have hn:n < 10:=by have:=hv.2;omega
 unfold countsT
 exact ixT (by rw[List.getElem?_map,List.getElem?_range hn];rfl)
theorem vh {g:Nat→Nat→Int}{s:Nat}{v:Int}(h:(ksL g s v).length=s*s):ksL g s v=List.range (s*s):=by
 unfold ksL at h ⊢
 refine List.filter_eq_self.mpr fun a ha=>?_
 have:=List.length_filter_eq_length_iff.mp (by rw[h,List.length_range]) a ha
 exact this
theorem tM {g:Nat→Nat→Int}{s:Nat}{v:Int}:(ksL g s v).length≤s*s:=by
 unfold ksL
 refine Nat.le_trans (List.length_filter_le _ _) ?_
 rw[List.length_range]
 exact Nat.le_refl _
def selL (b:Bool)(s:Nat)(l:List Nat):List Nat:=l.map fun k=>if b then k%s else k/s
theorem mG {sz:Nat}(h3:sz≤3)(g:Nat→Nat→Int)(v:Int)(b:Bool):dSortJ [.lst ((nI (selL b (2^sz) (ksL g (2^sz) v))).map .int)]=.ok (.lst ((sortI (nI (selL b (2^sz) (ksL g (2^sz) v)))).map .int)):=by
 unfold dSortJ
 simp only[c7]
 rw[if_pos]
 have ln:(nI (selL b (2^sz) (ksL g (2^sz) v))).length=(ksL g (2^sz) v).length:=by unfold nI selL;rw[List.length_map,List.length_map]
 by_cases c:(ksL g (2^sz) v).length < 64
 ·exact .inl (by rw[ln];exact c)
 ·have l2:=tM (g:=g) (s:=2^sz) (v:=v)
  have e3:sz=3:=by rcases jc h3 with rfl | rfl | rfl | rfl<;>simp only[Nat.reducePow,Nat.reduceMul]at l2 c<;>omega
  subst e3
  have fu:=vh (g:=g) (s:=2^3) (v:=v) (by simp only[Nat.reducePow,Nat.reduceMul]at l2 c ⊢;omega)
  rw[fu]
  cases b
  ·exact .inr (.inr rfl)
  ·exact .inr (.inl rfl)
def spD (s k:Nat):D:=.tup [.int ((k%s:Nat):Int),.int ((k/s:Nat):Int)]
theorem tN {sz:Nat}(h3:sz≤3)(g:Nat→Nat→Int)(v:Int):cFil (fun xL=>(asB ((dIx (.lst ((vals g (2^sz) (2^sz)).map .int)) xL).bind fun x3=>dEq x3 (.int v)))) (fun xL=>(dMod xL (.int ((2^sz:Nat):Int))).bind fun x1=>(dDiv xL (.int ((2^sz:Nat):Int))).bind fun x2=>.ok (.tup [x1,x2])) ((List.range (2^sz*2^sz)).map fun i=>D.int ((i:Nat):Int))=.ok (.lst ((ksL g (2^sz) v).map (spD (2^sz)))):=by
 have h8:=p8 h3
 have h0:=pos2 sz
 refine fJ (fun i:Nat=>D.int (i:Int)) (spD (2^sz)) (fun k=>g (k%2^sz) (k/2^sz)==v) fun k hk=>⟨?_,fun _=>?_⟩
 ·have hk':=List.mem_range.mp hk
  rw[ixL (i:=k) (x:=.int (g (k%2^sz) (k/2^sz))) (by rw[tF h3,List.map_map,List.getElem?_map,List.getElem?_range hk'];rfl),R.bind_ok,d8,ba,Bool.beq_eq_decide_eq]
 ·rw[ja h0,R.bind_ok,fN h0 (by omega),R.bind_ok]
  rfl
theorem vi (s:Nat)(l:List Nat):cMap (fun p=>un2 p fun yn ye=>.ok yn) (l.map (spD s))=.ok (.lst ((nI (selL true s l)).map .int)):=by
 unfold selL
 rw[nX,List.map_map]
 exact cr _ _ fun k _=>rfl
theorem vj (s:Nat)(l:List Nat):cMap (fun p=>un2 p fun yn ye=>.ok ye) (l.map (spD s))=.ok (.lst ((nI (selL false s l)).map .int)):=by
 unfold selL
 rw[nX,List.map_map]
 exact cr _ _ fun k _=>rfl
theorem nZ (s:Nat)(l:List Nat):good 60 (.lst (l.map (spD s)))=true:=by
 show goods 59 _=true
 refine cB fun d hd=>?_
 obtain⟨k,_,rfl⟩:=List.mem_map.mp hd
 rfl
theorem tO (s:Nat)(l:List Nat):dNf (.lst (l.map (spD s))) (.lst [])=.ok (.bl (!l.isEmpty)):=by
 rw[my (nZ s l) rfl]
 cases l with
 | nil=>rfl
 | cons a l=>rfl
theorem tQ (x0 x1 y0 y1:Int):good 60 (boxD x0 x1 y0 y1)=true:=rfl
theorem wK {sz:Nat}{t:Q Int}(p:Pc sz t){v:Int}(hv:W9 v) :
  bM (pf 39) (picD sz t) (.int ((2^sz:Nat):Int)) (.lst ((vals (t.at sz) (2^sz) (2^sz)).map .int)) (.int v)=.nx ():=by
 have h3:=p.h3
 have h8:=p8 h3
 have h0:=pos2 sz
 have q:=p.sh
 have qT:Sh sz (t.at sz) (T (t.at sz) sz):=sh_T h3 q.wo
 have le:=q.lean (n:=39) (by decide)
 have mm:dMul (.int ((2^sz:Nat):Int)) (.int ((2^sz:Nat):Int))=.ok (.int ((2^sz*2^sz:Nat):Int)):=by
  rw[bz (.inl ⟨by omega,by omega⟩),Int.natCast_mul]
 have m64:2^sz*2^sz≤64:=Nat.mul_le_mul h8 h8
 have rg:=c6 (s:=2^sz*2^sz) (by omega)
 have sp:=tN h3 (t.at sz) v
 have nf:=tO (2^sz) (ksL (t.at sz) (2^sz) v)
 unfold bM
 rw[mm,R.bind_ok,rg,R.bind_ok,sp,aC,nf,ba,aC]
 by_cases ke:ksL (t.at sz) (2^sz) v=[]
 ·have rl:rowL' (t.at sz) (2^sz) v=[]:=by
   refine List.eq_nil_iff_forall_not_mem.mpr fun y hy=>?_
   have:=(ks_y h0).mpr hy
   rw[ke]at this
   cases this
  have b1:=q.boxof_none (n:=39) (by decide) hv rl
  have b2:=qT.boxof_none (n:=39) (by decide) hv rl
  rw[ke]
  have nn:dNf .non .non=.ok (.bl false):=rfl
  have ni:dIsNot .non .non=.ok (.bl false):=rfl
  simp only[List.isEmpty_nil,Bool.not_true,Bool.false_eq_true,if_false,db,b1,R.bind_ok,nn,ba,le,b2,eW,Bool.or_false,aC,ni]
  rfl
 ·have rn:rowL' (t.at sz) (2^sz) v≠[]:=fun z=>by
   obtain⟨k,hk⟩:=List.exists_mem_of_ne_nil _ ke
   have:=(ks_y (v:=v) h0).mp (List.mem_map.mpr ⟨k,hk,rfl⟩)
   rw[z]at this
   cases this
  have cn:colL (t.at sz) (2^sz) v≠[]:=fun z=>by
   obtain⟨k,hk⟩:=List.exists_mem_of_ne_nil _ ke
   have:=(ks_x (v:=v) h0).mp (List.mem_map.mpr ⟨k,hk,rfl⟩)
   rw[z]at this
   cases this
  have nn:∀ {l:List Nat},l≠[]→nI l≠[]:=fun h z=>h (List.map_eq_nil_iff.mp z)
  obtain⟨x0,x1,ex⟩:=ia (nn cn) oX
  obtain⟨y0,y1,ey⟩:=ia (nn rn) oX
  have km:∀ {α β:Type} {l:List α} {f:α→β},l≠[]→l.map f≠[]:=fun h z=>h (List.map_eq_nil_iff.mp z)
  have sn:∀ {l:List Int},l≠[]→sortI l≠[]:=fun h z=>h (List.Perm.eq_nil ((z ▸ (aF _)).symm))
  obtain⟨a0,a1,fx⟩:=ia (sn (nn (show selL true (2^sz) (ksL (t.at sz) (2^sz) v)≠[] from km ke))) (bW _)
  obtain⟨c0,c1,fy⟩:=ia (sn (nn (show selL false (2^sz) (ksL (t.at sz) (2^sz) v)≠[] from km ke))) (bW _)
  obtain⟨rfl,rfl⟩:=j7 fx ex fun x=>by
   rw[(aF _).mem_iff,cv,cv]
   exact⟨fun ⟨n,h,e⟩=>⟨n,(ks_x h0).mp h,e⟩,fun ⟨n,h,e⟩=>⟨n,(ks_x h0).mpr h,e⟩⟩
  obtain⟨rfl,rfl⟩:=j7 fy ey fun x=>by
   rw[(aF _).mem_iff,cv,cv]
   exact⟨fun ⟨n,h,e⟩=>⟨n,(ks_y h0).mp h,e⟩,fun ⟨n,h,e⟩=>⟨n,(ks_y h0).mpr h,e⟩⟩
  have b1:=q.boxof_some (n:=39) (by decide) hv rn ex ey
  have b2:=qT.boxof_some (n:=39) (by decide) hv rn ex ey
  have sqs:sq (.lst ((ksL (t.at sz) (2^sz) v).map (spD (2^sz))))=.ok ((ksL (t.at sz) (2^sz) v).map (spD (2^sz))):=iZ (by rw[List.length_map];have:=tM (g:=t.at sz) (s:=2^sz) (v:=v);omega)
  have sx:=vi (2^sz) (ksL (t.at sz) (2^sz) v)
  have sy:=vj (2^sz) (ksL (t.at sz) (2^sz) v)
  have jx:=mG h3 (t.at sz) v true
  have jy:=mG h3 (t.at sz) v false
  have nb:dNf (boxD a0 a1 c0 c1) (boxD a0 a1 c0 c1)=.ok (.bl false):=jf (tQ _ _ _ _)
  have ni:dIsNot (boxD a0 a1 c0 c1) .non=.ok (.bl true):=rfl
  obtain⟨X0,hX0,rfl⟩:=cv.mp ex.ma
  obtain⟨X1,hX1,rfl⟩:=cv.mp ex.mb
  obtain⟨Y0,hY0,rfl⟩:=cv.mp ey.ma
  obtain⟨Y1,hY1,rfl⟩:=cv.mp ey.mb
  have lx:=ex.lo _ ex.mb
  have ly:=ey.lo _ ey.mb
  have x1s:X1 < 2^sz:=List.mem_range.mp (List.mem_filter.mp hX1).1
  have y1s:Y1 < 2^sz:=List.mem_range.mp (List.mem_filter.mp hY1).1
  have hb:(Bx.mk X0 Y0 (X1 - X0+1) (Y1 - Y0+1)).Ok (2^sz):=⟨by show 1≤X1 - X0+1;omega,by show 1≤Y1 - Y0+1;omega,by show X0+(X1 - X0+1)≤2^sz;omega,by show Y0+(Y1 - Y0+1)≤2^sz;omega⟩
  have ed:boxD (X0:Int) (X1:Int) (Y0:Int) (Y1:Int)=(Bx.mk X0 Y0 (X1 - X0+1) (Y1 - Y0+1)).d:=by
   unfold boxD Bx.d
   dsimp only
   rw[show ((X1 - X0+1:Nat):Int)=(X1:Int) - (X0:Int)+1 by omega,show ((Y1 - Y0+1:Nat):Int)=(Y1:Int) - (Y0:Int)+1 by omega]
  have ci:=p.countin (n:=39) (by decide) hb hv
  have ct:=q.counts (n:=39) (by decide)
  have ca:=nY (vals (t.at sz) (2^sz) (2^sz)) hv
  rw[vg (t.at sz) (Bx.mk X0 Y0 (X1 - X0+1) (Y1 - Y0+1)) hb fun x y hx hy e=>by
   have hx':(x:Int)∈nI (colL (t.at sz) (2^sz) v):=cv.mpr ⟨x,List.mem_filter.mpr ⟨List.mem_range.mpr hx,decide_eq_true (List.mem_map.mpr ⟨y,List.mem_range.mpr hy,e⟩)⟩,rfl⟩
   have hy':(y:Int)∈nI (rowL' (t.at sz) (2^sz) v):=cv.mpr ⟨y,List.mem_filter.mpr ⟨List.mem_range.mpr hy,decide_eq_true (List.mem_map.mpr ⟨x,List.mem_range.mpr hx,e⟩)⟩,rfl⟩
   have h1:=ex.lo _ hx'
   have h2:=ex.hi _ hx'
   have h3:=ey.lo _ hy'
   have h4:=ey.hi _ hy'
   show (X0≤x∧x < X0+(X1 - X0+1))∧Y0≤y∧y < Y0+(Y1 - Y0+1)
   omega]at ca
  rw[← ed]at ci
  have ie:(ksL (t.at sz) (2^sz) v).isEmpty=false:=by cases hk:ksL (t.at sz) (2^sz) v;exact absurd hk ke;rfl
  simp only[ie,Bool.not_false,if_true,sqs,R.bind_ok,sx,jx,aC,sy,jy,fx.i0,fy.i0,fx.i1,fy.i1,dM,aT]
  rw[show D.tup [.int (X0:Int),.int (Y0:Int),.int ((X1:Int) - (X0:Int)+1),.int ((Y1:Int) - (Y0:Int)+1)]=boxD (X0:Int) (X1:Int) (Y0:Int) (Y1:Int) from rfl]
  simp only[db,b1,R.bind_ok,nb,ba,le,b2,eW,Bool.or_false,aC,ni,Bool.false_eq_true,if_false,ci,ct,ca,hZ,decide_true,Bool.not_true,lj,Bool.and_false]
def ruD (p:Int×Nat):D:=.tup [.int p.1,.int (p.2:Int)]
def stepR (acc:List (Int×Nat))(v:Int):List (Int×Nat):=match acc.getLast? with
 | some (w,n)=>if w=v then acc.dropLast++[(v,n+1)] else acc++[(v,1)]
 | none=>[(v,1)]
theorem c8 (r:List (Int×Nat))(w:Int)(n:Nat)(v:Int):stepR (r++[(w,n)]) v=if w=v then r++[(v,n+1)] else r++[(w,n)]++[(v,1)]:=by
 unfold stepR
 have e:(r++[(w,n)]).getLast?=some (w,n):=by simp
 rw[e]
 simp
theorem c9 (l:List (Int×Nat)):l=[]∨∃ r w n,l=r++[(w,n)]:=by
 by_cases h:l=[]
 ·exact .inl h
 ·exact .inr ⟨l.dropLast,(l.getLast h).1,(l.getLast h).2,(List.dropLast_concat_getLast h).symm⟩
theorem vk (xs:List D)(x:D):oIx (xs++[x]) (.int (-1))=.ok x:=by
 unfold oIx
 have:L2.atI (xs++[x]) (-1)=some x:=by
  unfold L2.atI L2.ixN
  rw[if_neg (by decide),if_pos (by simp;omega)]
  show (xs++[x])[((-1:Int)+((xs++[x]).length:Int)).toNat]?=_
  rw[show ((-1:Int)+((xs++[x]).length:Int)).toNat=xs.length by simp;omega]
  simp
 simp only[this]
theorem vm (xs:List D)(x y:D):oStN (xs++[x]) (.int (-1)) y=.ok (xs++[y]):=by
 unfold oStN
 have:L2.ixN (xs++[x]).length (-1)=some xs.length:=by
  unfold L2.ixN
  rw[if_neg (by decide),if_pos (by simp;omega)]
  congr 1
  simp
  omega
 simp only[this]
 congr 1
 simp
theorem tR (t:Nat→List D→R D){acc:List (Int×Nat)}(hl:acc.length≤1000)(v:Int):bJ t (acc.map ruD) (.int v)=.nx ((stepR acc v).map ruD):=by
 unfold bJ
 rcases c9 acc with rfl | ⟨r,w,n,rfl⟩
 ·rfl
 ·have e0:dGt (.int (((r++[(w,n)]).map ruD).length:Nat)) (.int 0)=.ok (.bl true):=by
   rw[oJ,decide_eq_true]
   simp
   try omega
  have e1:oIx ((r++[(w,n)]).map ruD) (.int (-1))=.ok (ruD (w,n)):=by rw[List.map_append];exact vk _ _
  have e2:dIx (ruD (w,n)) (.int 0)=.ok (.int w):=rfl
  have e3:dIx (ruD (w,n)) (.int 1)=.ok (.int (n:Int)):=rfl
  rw[e0,ba,e1,R.bind_ok,e2,R.bind_ok,d8,ba,lj,Bool.true_and,aC,c8]
  by_cases c:w=v
  ·rw[decide_eq_true c,if_pos rfl,if_pos c,R.bind_ok,e3,R.bind_ok,aT,R.bind_ok,R.bind_ok,List.map_append,show ([(w,n)]:List (Int×Nat)).map ruD=[ruD (w,n)] from rfl,vm,aC,List.map_append]
   rfl
  ·rw[decide_eq_false c,if_neg (by decide),if_neg c,vc (by rw[List.length_map];omega),aC,List.map_append (l₂:=[(v,1)])]
   rfl
theorem j8 (acc:List (Int×Nat))(v:Int):(stepR acc v).length≤acc.length+1∧1≤(stepR acc v).length:=by
 rcases c9 acc with rfl | ⟨r,w,n,rfl⟩
 ·exact⟨Nat.le_refl _,Nat.le_refl _⟩
 ·rw[c8]
  split<;>simp
theorem mH (t:Nat→List D→R D):∀ (l:List Int) (acc:List (Int×Nat)),acc.length+l.length≤1000→lFor (τ:=List D) (fun s x=>bJ t s x) (l.map .int) (acc.map ruD)=.nx ((l.foldl stepR acc).map ruD)
 | [],acc,_=>rfl
 | v::l,acc,h=>by
  rw[List.length_cons]at h
  have:=j8 acc v
  rw[List.map_cons,bR,tR t (by omega) v,db,mH t l (stepR acc v) (by omega),List.foldl_cons]
def expR (acc:List (Int×Nat)):List Int:=acc.flatMap fun p=>List.replicate p.2 p.1
theorem tU (acc:List (Int×Nat))(v:Int):expR (stepR acc v)=expR acc++[v]:=by
 rcases c9 acc with rfl | ⟨r,w,n,rfl⟩
 ·rfl
 ·rw[c8]
  unfold expR
  split
  ·rename_i e
   subst e
   rw[List.flatMap_append,List.flatMap_append]
   simp[List.replicate_succ']
  ·rw[List.flatMap_append]
   simp
theorem mJ:∀ (l:List Int) (acc:List (Int×Nat)),expR (l.foldl stepR acc)=expR acc++l
 | [],acc=>by simp
 | v::l,acc=>by rw[List.foldl_cons,mJ l,tU,List.append_assoc];rfl
def adjR:List (Int×Nat)→Prop
 | a::b::r=>a.1≠b.1∧adjR (b::r)
 | _=>True
theorem mK:∀ (r:List (Int×Nat)) (w:Int) (n m:Nat),adjR (r++[(w,n)])→adjR (r++[(w,m)])
 | [],w,n,m,_=>trivial
 | [a],w,n,m,h=>⟨h.1,trivial⟩
 | a::b::r,w,n,m,h=>⟨h.1,mK (b::r) w n m h.2⟩
theorem mL:∀ (r:List (Int×Nat)) (w:Int) (n:Nat) (x:Int×Nat),adjR (r++[(w,n)])→w≠x.1→adjR (r++[(w,n)]++[x])
 | [],w,n,x,_,h=>⟨h,trivial⟩
 | [a],w,n,x,h,h2=>⟨h.1,h2,trivial⟩
 | a::b::r,w,n,x,h,h2=>⟨h.1,mL (b::r) w n x h.2 h2⟩
theorem tV {acc:List (Int×Nat)}(v:Int)(h:adjR acc):adjR (stepR acc v):=by
 rcases c9 acc with rfl | ⟨r,w,n,rfl⟩
 ·trivial
 ·rw[c8]
  split
  ·rename_i e
   subst e
   exact mK r w n (n+1) h
  ·rename_i e
   exact mL r w n (v,1) h e
theorem mM:∀ (l:List Int) {acc:List (Int×Nat)},adjR acc→adjR (l.foldl stepR acc)
 | [],acc,h=>h
 | v::l,acc,h=>mM l (tV v h)
theorem oY:∀ {l:List (Int×Nat)},adjR l→∀ p∈l.zip l.tail,p.1.1≠p.2.1
 | [],_,p,hp=>by simp at hp
 | [a],_,p,hp=>by simp at hp
 | a::b::r,h,p,hp=>by
  rw[List.tail_cons,List.zip_cons_cons]at hp
  rcases List.mem_cons.mp hp with rfl | hp
  ·exact h.1
  ·exact oY (l:=b::r) h.2 p hp
theorem mO {α:Type}(f:α→D):∀ (l m:List α),zipD (l.map f) (m.map f)=(l.zip m).map fun p=>D.tup [f p.1,f p.2]
 | [],m=>by cases m<;>rfl
 | a::l,[]=>rfl
 | a::l,b::m=>by rw[List.map_cons,List.map_cons,zipD,mO f l m,List.zip_cons_cons,List.map_cons]
def rleL (g:Nat→Nat→Int)(s y:Nat):List (Int×Nat):=(rowI g s y).foldl stepR []
theorem fq:∀ (l:List Int) (acc:List (Int×Nat)),(l.foldl stepR acc).length≤acc.length+l.length∧(l≠[]→1≤(l.foldl stepR acc).length)∧(1≤acc.length→1≤(l.foldl stepR acc).length)
 | [],acc=>⟨by simp,fun h=>absurd rfl h,fun h=>h⟩
 | v::l,acc=>by
  have h1:=j8 acc v
  have h2:=fq l (stepR acc v)
  rw[List.foldl_cons,List.length_cons]
  exact⟨by omega,fun _=>h2.2.2 h1.2,fun _=>h2.2.2 h1.2⟩
theorem dU (g:Nat→Nat→Int)(s y:Nat):(rowI g s y).length=s:=by unfold rowI;rw[List.length_map,List.length_range]
theorem vn (g:Nat→Nat→Int){s:Nat}(y:Nat)(hs:0 < s):(rleL g s y).length≤s∧1≤(rleL g s y).length:=by
 have h:=fq (rowI g s y) []
 rw[dU,List.length_nil]at h
 refine⟨by unfold rleL;omega,h.2.1 fun z=>?_⟩
 have:=congrArg List.length z
 rw[dU]at this
 simp at this
 omega
section
variable {sz:Nat}{g:Nat→Nat→Int}{t:Q Int}
theorem Sh.runsin (q:Sh sz g t){n:Nat}(hn:11≤n){y:Nat}(hy:y < 2^sz):pf n F.aL [picD sz t,.int (y:Int)]=.ok (.lst ((rleL g (2^sz) y).map ruD)):=by
 obtain⟨n,rfl,hn⟩:=ex1 (show 10+1≤n by omega)
 have h8:=p8 q.p.h3
 have cs:=q.p.spot_any (n:=n) (by omega) (0:Int) (y:Int)
 rw[show inB (2^sz) (0:Int) (y:Int)=true from vb (x:=0) (pos2 sz) hy,if_pos rfl]at cs
 have sr:sq (rowT .int g (2^sz) y)=.ok ((rowI g (2^sz) y).map .int):=by
  rw[tm]
  exact eV (by rw[List.length_map,dU];omega)
 have lp:=mH (pf n) (rowI g (2^sz) y) [] (by rw[dU,List.length_nil];omega)
 rw[nF,d5,q.p.check (by omega),aC,cs,aC,q.rows (by omega),R.bind_ok,dP hy,R.bind_ok,sr,aC]
 rw[show ([]:List D)=([]:List (Int×Nat)).map ruD from rfl,lp,db]
 rfl
end
theorem tW {v:D}{w:Nat}(h:w < 1000000):dMul (.lst [v]) (.int (w:Int))=.ok (.lst (List.replicate w v)):=by
 have e:dMul (.lst [v]) (.int (w:Int))=dRepL (.lst [v]) (.int (w:Int)):=by unfold dMul isInt isTup;simp only[Bool.false_eq_true,if_false]
 rw[e]
 unfold dRepL
 simp only
 have hf:∀ w:Nat,(List.replicate w [v]).flatten=List.replicate w v:=fun w=>by
  induction w with
  | zero=>rfl
  | succ w ih=>rw[List.replicate_succ,List.flatten_cons,ih];rfl
 rw[if_pos ⟨by omega,by omega,by simp;omega⟩,Int.toNat_natCast,hf]
theorem j9 (t:Nat→List D→R D):∀ (l:List (Int×Nat)) (acc:List Int),acc.length+(expR l).length≤1000→lFor (τ:=List D) (fun s p=>lUn2 p fun x0 x1=>bj t s x0 x1) (l.map ruD) (acc.map .int)=.nx ((acc++expR l).map .int)
 | [],acc,_=>by rw[show expR []=[] from rfl,List.append_nil];rfl
 | a::l,acc,h=>by
  have e:expR (a::l)=List.replicate a.2 a.1++expR l:=rfl
  rw[e,List.length_append,List.length_replicate]at h
  have st:bj t (acc.map .int) (.int a.1) (.int (a.2:Int))=.nx ((acc++List.replicate a.2 a.1).map .int):=by
   rw[bj,tW (by omega),R.bind_ok,dQ (by rw[List.length_map,List.length_replicate];omega),aC,List.map_append,List.map_replicate]
  rw[List.map_cons,bR,show ruD a=D.tup [.int a.1,.int (a.2:Int)] from rfl,mF,st,db,j9 t l _ (by rw[List.length_append,List.length_replicate];omega),e,List.append_assoc]
theorem wL {sz:Nat}{g:Nat→Nat→Int}{t:Q Int}(q:Sh sz g t){y:Nat}(hy:y < 2^sz):bN (pf 39) (picD sz t) (rowsT .int g (2^sz) (2^sz)) (.int (y:Int))=.nx ():=by
 have h8:=p8 q.p.h3
 have h0:=pos2 sz
 have ru:=q.runsin (n:=39) (by decide) hy
 have ln:=vn g y h0
 have sqr:sq (.lst ((rleL g (2^sz) y).map ruD))=.ok ((rleL g (2^sz) y).map ruD):=iZ (by rw[List.length_map];omega)
 have ex:expR (rleL g (2^sz) y)=rowI g (2^sz) y:=by
  have:=mJ (rowI g (2^sz) y) []
  exact this
 have lp:=j9 (pf 39) (rleL g (2^sz) y) [] (by rw[ex,dU,List.length_nil];omega)
 rw[ex,List.nil_append]at lp
 have lp':lFor (τ:=List D) (fun s p=>lUn2 p fun x0 x1=>bj (pf 39) s x0 x1) ((rleL g (2^sz) y).map ruD) []=.nx ((rowI g (2^sz) y).map .int):=lp
 have gr:good 60 (rowT .int g (2^sz) y)=true:=gG En.int.gd g (2^sz) y 59
 have tl:dSw (.lst ((rleL g (2^sz) y).map ruD)) (some 1) none=.ok (.lst (((rleL g (2^sz) y).tail).map ruD)):=by
  show R.ok (D.lst (cutD _ (some ((1:Nat):Int)) none))=_
  rw[sX (by rw[List.length_map];omega),← List.map_drop,List.drop_one]
 have sqt:sq (.lst (((rleL g (2^sz) y).tail).map ruD))=.ok (((rleL g (2^sz) y).tail).map ruD):=iZ (by rw[List.length_map,List.length_tail];omega)
 have zp:dZip (.lst ((rleL g (2^sz) y).map ruD)) (.lst (((rleL g (2^sz) y).tail).map ruD))=.ok (((rleL g (2^sz) y).zip (rleL g (2^sz) y).tail).map fun p=>D.tup [ruD p.1,ruD p.2]):=by
  unfold dZip
  rw[sqr,R.bind_ok,sqt,R.bind_ok,mO]
 have ad:adjR (rleL g (2^sz) y):=mM _ trivial
 have cf:cFil (fun p=>un2 p fun yi xK=>(asB ((dIx yi (.int 0)).bind fun x4=>(dIx xK (.int 0)).bind fun x5=>dEq x4 x5))) (fun p=>un2 p fun yi xK=>.ok (.int 1)) (((rleL g (2^sz) y).zip (rleL g (2^sz) y).tail).map fun p=>D.tup [ruD p.1,ruD p.2])=.ok (.lst []):=by
  rw[fJ (l:=(rleL g (2^sz) y).zip (rleL g (2^sz) y).tail) (fun p=>D.tup [ruD p.1,ruD p.2]) (fun _=>D.int 1) (fun p=>decide (p.1.1=p.2.1)) fun p _=>⟨by
   show asB (((dIx (ruD p.1) (.int 0))).bind fun x4=>(dIx (ruD p.2) (.int 0)).bind fun x5=>dEq x4 x5)=_
   rw[show dIx (ruD p.1) (.int 0)=.ok (.int p.1.1) from rfl,show dIx (ruD p.2) (.int 0)=.ok (.int p.2.1) from rfl,R.bind_ok,R.bind_ok,d8,ba],fun _=>rfl⟩]
  rw[List.filter_eq_nil_iff.mpr fun p hp=>by simpa using oY ad p hp]
  rfl
 have nn:dNf (.lst []) (.lst [])=.ok (.bl false):=rfl
 unfold bN
 rw[ru,aC,sqr,aC,lp',db,i4,R.bind_ok,dP hy,R.bind_ok,← tm,jf gr,ba,tl,R.bind_ok,zp,R.bind_ok,cf,R.bind_ok,nn,ba,eW]
 rfl
theorem n3 (g:Nat→Nat→Int)(s a b:Nat):sameR g s a b=sameR g s b a:=by
 unfold sameR
 rw[decide_eq_decide]
 exact⟨fun h x hx=>(h x hx).symm,fun h x hx=>(h x hx).symm⟩
theorem tX {sz:Nat}(h3:sz≤3)(g:Nat→Nat→Int)(t:Nat→List D→R D):lFor (τ:=List D) (fun s x=>bO t (rowsT .int g (2^sz) (2^sz)) (.int ((2^sz:Nat):Int)) s x) ((List.range (2^sz)).map fun i=>D.int ((i:Nat):Int)) []=.nx ((likesL g (2^sz)).map cpD):=by
 have h8:=p8 h3
 have step:∀ y∈List.range (2^sz),∀ acc:List D,acc.length≤10000→bO t (rowsT .int g (2^sz) (2^sz)) (.int ((2^sz:Nat):Int)) acc (.int (y:Int))=.nx (acc++(likes g (2^sz) y).map cpD):=by
  intro y hy acc ha
  have hy':=List.mem_range.mp hy
  have i1:(y:Int)+1=((y+1:Nat):Int):=by omega
  have cf:cFil (fun xK=>(asB ((dIx (rowsT .int g (2^sz) (2^sz)) (.int (y:Int))).bind fun x1=>(dIx (rowsT .int g (2^sz) (2^sz)) xK).bind fun x2=>dEq x1 x2))) (fun xK=>.ok (.tup [.int (y:Int),xK])) ((List.range (2^sz - (y+1))).map fun i=>D.int (((y+1+i:Nat)):Int))=.ok (.lst ((likes g (2^sz) y).map cpD)):=by
   have:=fJ (l:=(List.range (2^sz - (y+1))).map fun i=>y+1+i) (c:=fun xK=>(asB ((dIx (rowsT .int g (2^sz) (2^sz)) (.int (y:Int))).bind fun x1=>(dIx (rowsT .int g (2^sz) (2^sz)) xK).bind fun x2=>dEq x1 x2))) (e:=fun xK=>.ok (.tup [.int (y:Int),xK])) (fun o:Nat=>D.int (o:Int)) (fun o=>cpD (y,o)) (sameR g (2^sz) y) fun o ho=>by
    obtain⟨i,hi,rfl⟩:=List.mem_map.mp ho
    have:=List.mem_range.mp hi
    rw[dP hy',R.bind_ok,dP (by omega),R.bind_ok,oW,n3]
    exact⟨rfl,fun _=>rfl⟩
   rw[List.map_map]at this
   unfold likes
   rw[List.map_map]
   exact this
  rw[bO,aT,R.bind_ok,i1,mD (by omega) (by omega),R.bind_ok,cf,R.bind_ok,dQ (by have:=eg g (2^sz) y;rw[List.length_map];omega),aC]
 rw[dR (fun y:Nat=>D.int (y:Int)) (fun y=>(likes g (2^sz) y).map cpD) 8 _ [] step (fun y _=>by have:=eg g (2^sz) y;rw[List.length_map];omega) (by rw[List.length_range,List.length_nil];omega)]
 unfold likesL
 rw[List.map_flatMap]
 rfl
theorem vo (l:List (Nat×Nat)):good 60 (.lst (l.map cpD))=true:=by
 show goods 59 _=true
 refine cB fun d hd=>?_
 obtain⟨k,_,rfl⟩:=List.mem_map.mp hd
 rfl
theorem ints60 (l:List Int):good 60 (.lst (l.map .int))=true:=d9 59 l
theorem jC (ns:List Int):pf 40 F.aA [.lst (ns.map .int)]=.ok (.bl true):=by
 obtain⟨sz,tr,_,p,hp⟩:=va ns 0 3 39 (by decide) (by decide)
 have h3:=p.h3
 have h8:=p8 h3
 have hp':pf 39 F.ax [scr ns,.int 0,.int 3]=.ok (picD sz tr):=hp
 have q:=p.sh
 have qT:Sh sz (tr.at sz) (T (tr.at sz) sz):=sh_T h3 q.wo
 have lr:=q.lrows (n:=39) (by decide)
 have ln:dLen [rowsT .int (tr.at sz) (2^sz) (2^sz)]=.ok (.int ((2^sz:Nat):Int)):=by unfold rowsT;rw[dL];simp
 have sqr:sq (rowsT .int (tr.at sz) (2^sz) (2^sz))=.ok ((List.range (2^sz)).map fun y=>rowT .int (tr.at sz) (2^sz) y):=q.sqrows
 have st:=tG h3 (tr.at sz) (pf 39)
 have w1:=q.worthsin (n:=39) (by decide)
 have w2:=j6 q.vals9
 have w3:=jf (ints60 (setL (vals (tr.at sz) (2^sz) (2^sz))))
 have le:=q.lean (n:=39) (by decide)
 have w4:=qT.worthsin (n:=39) (by decide)
 have r10:rng1 [.int 10]=.ok ((List.range 10).map fun i=>D.int ((i:Nat):Int)):=c6 (s:=10) (by decide)
 have lp1:lFor (τ:=Unit) (fun _ x=>bM (pf 39) (picD sz tr) (.int ((2^sz:Nat):Int)) (.lst ((vals (tr.at sz) (2^sz) (2^sz)).map .int)) x) ((List.range 10).map fun i=>D.int ((i:Nat):Int)) ()=.nx () :=
  jd _ fun a ha=>by
   obtain⟨i,hi,rfl⟩:=List.mem_map.mp ha
   have:=List.mem_range.mp hi
   exact wK p ⟨by omega,by omega⟩
 have r1:=c6 (s:=2^sz) (by omega)
 have lp2:lFor (τ:=Unit) (fun _ x=>bN (pf 39) (picD sz tr) (rowsT .int (tr.at sz) (2^sz) (2^sz)) x) ((List.range (2^sz)).map fun i=>D.int ((i:Nat):Int)) ()=.nx () :=
  jd _ fun a ha=>by
   obtain⟨y,hy,rfl⟩:=List.mem_map.mp ha
   exact wL q (List.mem_range.mp hy)
 have lp3:=tX h3 (tr.at sz) (pf 39)
 have k1:=q.likerows (n:=39) (by decide)
 have k2:=qT.likerows (n:=39) (by decide)
 have k3:=sY (vo (likesL (tr.at sz) (2^sz)))
 rw[show D.lst (ns.map .int)=scr ns from rfl,nG,d6]
 simp only[STP,if_true,if_false,ite_true,ite_false,reduceIte,reduceCtorEq,hp',lr,ln,sqr,st,w1,w2,w3,ba,le,w4,eW,Bool.or_false,Bool.false_eq_true,r10,lp1,r1,lp2,lp3,k1,k2,k3,oM,Bool.and_true]
end Lw
end
end
noncomputable section
set_option maxHeartbeats 4000000
namespace Lw
open PySem PySem.Spec PyProof.Rows L2 FF
def cname:Nat→Str
 | 0 => "FourError"
 | 1 => "NoPicture"
 | 2 => "NoSpot"
 | 3 => "BadBox"
 | 21 => "is_worth"
 | _ => "?"
def Cof (K:PySem.W.Frag)(i:Nat):Addr:=match PySem.W.nsIn K mainGlobals (cname i) with
 | some (some (.ref a))=>a
 | _=>0
theorem cof {K:PySem.W.Frag}{i:Nat}{x:Str}{a:Addr}(h:Ng K x (some (.ref a)))(hx:cname i=x:=by rfl):Cof K i=a:=by unfold Cof;rw[hx,h]
structure Fds (K:PySem.W.Frag)(mg:Str→Option Value):Prop where
 F20:Fd K mg "is_whole" ["thing"] eO
 F21:Fd K mg "is_worth" ["thing"] eQ
 F22:Fd K mg "is_size" ["thing"] gi
 F23:Fd K mg "is_tree" ["size","thing","is_end"] gj
 F24:Fd K mg "is_sized_tree" ["thing","is_end"] bC
 F25:Fd K mg "put_together" ["four"] b3
 F26:Fd K mg "lean_tree" ["tree"] dv
 F43:Fd K mg "worth_in" ["tree","side","x","y"] eR
 F27:Fd K mg "is_picture" ["thing"] cU
 F28:Fd K mg "check_picture" ["thing"] bD
 F65:Fd K mg "check_worth" ["thing"] cu
 F45:Fd K mg "side_of" ["picture"] gp
 F46:Fd K mg "is_along" ["side","thing"] eS
 F47:Fd K mg "check_spot" ["picture","x","y"] cW
 F49:Fd K mg "shown_row" ["picture","y"] dB
 F50:Fd K mg "shown_rows" ["picture"] cX
 F29:Fd K mg "lean" ["picture"] nL
 F66:Fd K mg "is_span" ["start","length","side"] gq
 F67:Fd K mg "is_box" ["picture","thing"] iO
 F68:Fd K mg "check_box" ["picture","thing"] dC
 F69:Fd K mg "moved_tree" ["tree","order"] cY
 F70:Fd K mg "moved" ["picture","order"] kX
 F71:Fd K mg "swapped" ["picture"] gu
 F72:Fd K mg "worths_of" ["rows"] dD
 F73:Fd K mg "boxed_worths" ["picture","box"] b4
 F74:Fd K mg "count_in" ["picture","box","worth"] eT
 F75:Fd K mg "counts" ["picture"] iP
 F76:Fd K mg "worths_in" ["picture"] dE
 F77:Fd K mg "rows_with" ["picture","worth"] dF
 F78:Fd K mg "box_of" ["picture","worth"] iQ
 F79:Fd K mg "runs_in" ["picture","y"] gz
 F80:Fd K mg "like_rows" ["picture"] dG
 F30:Fd K mg "_law_cell" ["_law_script","_law_k"] iR
 F31:Fd K mg "_law_pick" ["_law_script","_law_k","_law_many"] iT
 F32:Fd K mg "_law_tree" ["_law_script","_law_at","_law_size"] iU
 F33:Fd K mg "_law_picture" ["_law_script","_law_at","_law_most"] dH
 F54:Fd K mg "_law_rows_of" ["_law_size","_law_tree_here"] dJ
 F55:Fd K mg "_law_rows" ["_law_picture_here"] iV
 F81:Fd K mg "law" ["_law_script"] aN
theorem tab {P:Program}{w:World}{K:PySem.W.Frag}{mg:Str→Option Value}{base:Heap}{C:Nat→Addr}(T:Txt K mg C w.params)(S:Fds K mg):∀ n,Tab P w K mg base C n (pf n)
 | 0=>⟨g0 S.F20,g0 S.F21,g0 S.F22,g0 S.F23,g0 S.F24,g0 S.F25,g0 S.F26,g0 S.F43,g0 S.F27,g0 S.F28,g0 S.F65,g0 S.F45,g0 S.F46,g0 S.F47,g0 S.F49,g0 S.F50,g0 S.F29,g0 S.F66,g0 S.F67,g0 S.F68,g0 S.F69,g0 S.F70,g0 S.F71,g0 S.F72,g0 S.F73,g0 S.F74,g0 S.F75,g0 S.F76,g0 S.F77,g0 S.F78,g0 S.F79,g0 S.F80,g0 S.F30,g0 S.F31,g0 S.F32,g0 S.F33,g0 S.F54,g0 S.F55,g0 S.F81,
  fun i hi=>by
  simp only[fvL,List.mem_cons,List.not_mem_nil,or_false]at hi
  rcases hi with rfl
  ·exact xp S.F21 T.f_is_worth⟩
 | n+1=>by
  have G:=tab T S n (P:=P) (w:=w) (base:=base)
  exact⟨g1 S.F20 (mo T G),g1 S.F21 (gR T G),g1 S.F22 (nO T G),g1 S.F23 (nP T G),g1 S.F24 (gA T G),g1 S.F25 (g7 T G),g1 S.F26 (k4 T G),g1 S.F43 (mq T G),g1 S.F27 (jw T G),g1 S.F28 (gC T G),g1 S.F65 (iW T G),g1 S.F45 (nQ T G),g1 S.F46 (mr T G),g1 S.F47 (jz T G),g1 S.F49 (k6 T G),g1 S.F50 (jA T G),g1 S.F29 (uZ T G),g1 S.F66 (nR T G),g1 S.F67 (qw T G),g1 S.F68 (k7 T G),g1 S.F69 (jB T G),g1 S.F70 (sH T G),g1 S.F71 (nS T G),g1 S.F72 (k8 T G),g1 S.F73 (g8 T G),g1 S.F74 (mt T G),g1 S.F75 (qA T G),g1 S.F76 (k9 T G),g1 S.F77 (lb T G),g1 S.F78 (qB T G),g1 S.F79 (nT T G),g1 S.F80 (lc T G),g1 S.F30 (qC T G),g1 S.F31 (qD T G),g1 S.F32 (qE T G),g1 S.F33 (lg T G),g1 S.F54 (lh T G),g1 S.F55 (qF T G),g1 S.F81 (iX T G),
  fun i hi=>by
  simp only[fvL,List.mem_cons,List.not_mem_nil,or_false]at hi
  rcases hi with rfl
  ·exact xq S.F21 T.f_is_worth (gR T G) (fun ds h=>xo h)⟩
theorem wM {l:PySem.W.OpenLaw}{w:World}{K:PySem.W.Frag}{h:Heap}{mg:Str→Option Value}{fa f1 f38 C0 C1 C2 C3:Addr}(X:K.In h)(G:h.Ns mainGlobals mg)(hfa:mg "law"=some (.ref fa))(S:Fds K mg)
  {od38 an38:Option Addr} {sl38:Array (Option Value)} {oc38 kV38 dc38 pm38 cd38 ct38:Value} {tk_GREATEST_WORTH tk_LARGEST_SIZE:Tok} {ta_BY_SWAPPING ta_SIDES:Addr} {tn_BY_SWAPPING tn_SIDES:Nat} {ts_BY_SWAPPING ts_SIDES:Array (Option Value)} {tt_BY_SWAPPING_0 tt_BY_SWAPPING_1 tt_BY_SWAPPING_2 tt_BY_SWAPPING_3 tt_SIDES_0 tt_SIDES_1 tt_SIDES_2 tt_SIDES_3:Tok}
  (z0:Ng K "is_worth" (some (.ref f1)))
  (z1:Ng K "law" (some (.ref f38)))
  (z2:K.lookup f38=some ⟨oc38,od38,.func (PySem.W.fnOf "law" "law" (defArgs aN) (defBody aN) (defScope aN) .none kV38 dc38 pm38 an38 cd38 ct38),sl38⟩)
  (z3:PySem.W.codeIn K cd38 "law"=true)
  (z4:PySem.W.keepIn K (.ref f38)=true)
  (z5:Ng K "all" none)
  (z6:Ng K "bool" none)
  (z7:Ng K "enumerate" none)
  (z8:Ng K "int" none)
  (z9:Ng K "isinstance" none)
  (z10:Ng K "len" none)
  (z11:Ng K "list" none)
  (z12:Ng K "max" none)
  (z13:Ng K "range" none)
  (z14:Ng K "set" none)
  (z15:Ng K "sorted" none)
  (z16:Ng K "tuple" none)
  (z17:Ng K "zip" none)
  (z18:Ng K "GREATEST_WORTH" (some (.int 9 tk_GREATEST_WORTH)))
  (z19:Ng K "LARGEST_SIZE" (some (.int 3 tk_LARGEST_SIZE)))
  (z20:Ng K "BY_SWAPPING" (some (.ref ta_BY_SWAPPING)))
  (z21:K.lookup ta_BY_SWAPPING=some ⟨.type "tuple",none,.seq #[.int 0 tt_BY_SWAPPING_0,.int 2 tt_BY_SWAPPING_1,.int 1 tt_BY_SWAPPING_2,.int 3 tt_BY_SWAPPING_3] tn_BY_SWAPPING,ts_BY_SWAPPING⟩)
  (z22:Ng K "SIDES" (some (.ref ta_SIDES)))
  (z23:K.lookup ta_SIDES=some ⟨.type "tuple",none,.seq #[.int 1 tt_SIDES_0,.int 2 tt_SIDES_1,.int 4 tt_SIDES_2,.int 8 tt_SIDES_3] tn_SIDES,ts_SIDES⟩)
  (z24:Ng K "FourError" (some (.ref C0)))
  (z25:Ng K "NoPicture" (some (.ref C1)))
  (z26:Ng K "NoSpot" (some (.ref C2)))
  (z27:Ng K "BadBox" (some (.ref C3)))
  (z28:PySem.W.excIn K C1 bmVE "ValueError.__new__"=true)
  (z29:PySem.W.excIn K C2 bmVE "ValueError.__new__"=true)
  (z30:PySem.W.excIn K C3 bmVE "ValueError.__new__"=true)
  (z31:PySem.W.excIn K C0 bmVE "ValueError.__new__"=true)
  (z32:PySem.W.subIn K (.ref C1) (.ref C0)=some true)
  (z33:PySem.W.subIn K (.ref C2) (.ref C0)=some true)
  (z34:PySem.W.subIn K (.ref C3) (.ref C0)=some true) :
  ∃ fd:FuncData,(∀ (s:Shared) (v:Value),BindsTo s fd ⟨[v],[]⟩ [("_law_script",v)])∧∀ base:Heap,K.In base→base.Ns mainGlobals mg→FnOk l.prog w K mg base (CXE l.prog w) 40 fa fd ["_law_script"] (spF K (Cof K) 1 (pf 40 Lw.F.aA)):=by
 have e:=hfa.symm.trans (PySem.W.mg_of X G z1)
 cases e
 have q_FourError:Cof K 0=C0:=cof z24
 have q_NoPicture:Cof K 1=C1:=cof z25
 have q_NoSpot:Cof K 2=C2:=cof z26
 have q_BadBox:Cof K 3=C3:=cof z27
 have T:Txt K mg (Cof K) w.params:=⟨PySem.W.mg_none_of X G z5,
  PySem.W.mg_none_of X G z6,
  PySem.W.mg_none_of X G z7,
  PySem.W.mg_none_of X G z8,
  PySem.W.mg_none_of X G z9,
  PySem.W.mg_none_of X G z10,
  PySem.W.mg_none_of X G z11,
  PySem.W.mg_none_of X G z12,
  PySem.W.mg_none_of X G z13,
  PySem.W.mg_none_of X G z14,
  PySem.W.mg_none_of X G z15,
  PySem.W.mg_none_of X G z16,
  PySem.W.mg_none_of X G z17,
  ⟨_,PySem.W.mg_of X G z18⟩,
  ⟨_,PySem.W.mg_of X G z19⟩,
  ⟨_,PySem.W.mg_of X G z20,_,_,_,z21,rfl,rfl,rfl,by show 4≤sizeLine;decide,(.cons ⟨_,rfl⟩ (.cons ⟨_,rfl⟩ (.cons ⟨_,rfl⟩ (.cons ⟨_,rfl⟩ .nil))))⟩,
  ⟨_,PySem.W.mg_of X G z22,_,_,_,z23,rfl,rfl,rfl,by show 4≤sizeLine;decide,(.cons ⟨_,rfl⟩ (.cons ⟨_,rfl⟩ (.cons ⟨_,rfl⟩ (.cons ⟨_,rfl⟩ .nil))))⟩,
  (by rw[cof (i:=F.ac) z0];exact PySem.W.mg_of X G z0),
  (by rw[q_FourError];exact PySem.W.mg_of X G z24),
  (by rw[q_NoPicture];exact PySem.W.mg_of X G z25),
  (by rw[q_NoSpot];exact PySem.W.mg_of X G z26),
  (by rw[q_BadBox];exact PySem.W.mg_of X G z27),
  (by rw[q_NoPicture];exact z28),
  (by rw[q_NoSpot];exact z29),
  (by rw[q_BadBox];exact z30),
  (rQ (by rw[q_FourError];exact z31) (fun j hj=>by
   simp only[esL,List.mem_cons,List.not_mem_nil,or_false]at hj
   rcases hj with rfl | rfl | rfl
   ·rw[q_NoPicture,q_FourError];exact z32
   ·rw[q_NoSpot,q_FourError];exact z33
   ·rw[q_BadBox,q_FourError];exact z34))⟩
 have FL:=mV (st:=aN) z2 z3 z4
 exact⟨PySem.W.fnOf "law" "law" (defArgs aN) (defBody aN) (defScope aN) .none kV38 dc38 pm38 an38 cd38 ct38,fun s v=>.of_eq rfl,fun base _ _=>iX T (tab T S 39) FL⟩
theorem walk {l:PySem.W.OpenLaw}{q:Program}{loose:List Str}{XP:(Str→Option Value)→Heap→Prop}{YP:World→Heap→Prop}{d:DefRec}{K:Params→PySem.W.Frag}(hn:l.most=some 63)(hdf:d.params.defaults=[])
  (hY:∀ (w:World) (h:Heap),YP w h→(K w.params).In h)
  (F:∀ (w:World) (mg:Str→Option Value) (fa:Addr) (h:Heap),(K w.params).In h→h.Ns mainGlobals mg→mg d.name=some (.ref fa) →
   ∃ fd:FuncData,(∀ (s:Shared) (u:Value),BindsTo s fd ⟨[u],[]⟩ [("_law_script",u)])∧∀ base:Heap,(K w.params).In base→base.Ns mainGlobals mg→FnOk l.prog w (K w.params) mg base (CXE l.prog w) 40 fa fd ["_law_script"] (spF (K w.params) (Cof (K w.params)) 1 (pf 40 Lw.F.aA))) :
  PySem.W.WalkO q loose XP YP l.row.toRowW d [] (fun f vs=>PySem.call f vs) :=
 L2.ug (n:=63) (k:=40) (x := "_law_script") (CX:=fun w=>CXE l.prog w) (sp:=fun w=>spF (K w.params) (Cof (K w.params)) 1 (pf 40 Lw.F.aA)) hn (by decide) hdf ⟨rfl,by decide,by decide⟩ hY F
  (fun w H a ns hl _ hS=>⟨rfl,H,[.lst (ns.map .int)],Same.refl H,by rw[Reps];exact⟨_,_,rfl,by rw[Rep];exact⟨a,_,rfl,hS,oB ns⟩,by rw[Reps]⟩,by rw[jC ns];exact fun H' Z' _ v rv=>by rw[Rep]at rv;exact rv⟩)
  fun w H s e s' z=>by obtain⟨_,_,_,_,_,_,_,_,_,_,_,_,_,z⟩:=z;exact z
end Lw
open PySem PySem.W PyProof.Rows
def PySem.W.Fast.tw6831656275866046090:Nat:=0
def PySem.W.Fast.tw13710798992339414463:Nat:=0
def PySem.W.Fast.tw7041298307919396524:Nat:=0
def PySem.W.Fast.tw16260367624765755217:Nat:=0
def PySem.W.Fast.tw2410509235865062740:Nat:=0
def PySem.W.Fast.tw17380307549535144550:Nat:=0
def PySem.W.Fast.tw158794006324816017:Nat:=0
def PySem.W.Fast.tw13500611917864278614:Nat:=0
def PySem.W.Fast.tw15045667214491985872:Nat:=0
def PySem.W.Fast.tw3307142442563978350:Nat:=0
def PySem.W.Fast.tw1174486292659593156:Nat:=0
def PySem.W.Fast.tw1705136298940383029:Nat:=0
def PySem.W.Fast.tw16182151530761119914:Nat:=0
def PySem.W.Fast.tw4700240415410318387:Nat:=0
def PySem.W.Fast.tw865395367317124302:Nat:=0
def PySem.W.Fast.tw5031469331068966505:Nat:=0
def PySem.W.Fast.tw11200076452563896656:Nat:=0
def PySem.W.Fast.tw6092029683807152075:Nat:=0
def PySem.W.Fast.tw910792995117186580:Nat:=0
def PySem.W.Fast.tw1949570766235239473:Nat:=0
def PySem.W.Fast.tw7229607666574545194:Nat:=0
def PySem.W.Fast.tw3627591934614939568:Nat:=0
def PySem.W.Fast.tw4858430247632657165:Nat:=0
def PySem.W.Fast.tw303628699979570960:Nat:=0
def PySem.W.Fast.tw6993636111602275576:Nat:=0
def PySem.W.Fast.tw9339584958689072249:Nat:=0
def PySem.W.Fast.tw13172374841432946406:Nat:=0
def PySem.W.Fast.tw3421873926293628236:Nat:=0
def PySem.W.Fast.tw9259441195576910035:Nat:=0
def PySem.W.Fast.tw737075737959504928:Nat:=0
set_option maxRecDepth 100000 in
set_option maxHeartbeats 0 in
theorem PySem.Challenge.cw_fourfold_k04_whole_measures_holds : PySem.Challenge.rw_fourfold_k04_whole_measures.Holds := by
 w_on;o_law;k_head;(case hw=>w_witness2)
 k_fill
 refine Lw.walk (l:=PySem.Challenge.rw_fourfold_k04_whole_measures) rfl rfl (fun w h Y=>PySem.W.kIn_of Y) ?F
 case F =>
  intro w mg fa h KX G hmg
  refine' Lw.wM KX G hmg ?S ?z0 ?z1 ?z2 ?z3 ?z4 ?z5 ?z6 ?z7 ?z8 ?z9 ?z10 ?z11 ?z12 ?z13 ?z14 ?z15 ?z16 ?z17 ?z18 ?z19 ?z20 ?z21 ?z22 ?z23 ?z24 ?z25 ?z26 ?z27 ?z28 ?z29 ?z30 ?z31 ?z32 ?z33 ?z34
  case S =>
   constructor
   all_goals
    refine' FF.xr KX G (fun _ _ _ _ _ _ us hl=>by first | (obtain⟨_,rfl⟩:=FF.ln1 hl;rfl) | (obtain⟨_,_,rfl⟩:=FF.ln2 hl;rfl) | (obtain⟨_,_,_,rfl⟩:=FF.ln3 hl;rfl) | (obtain⟨_,_,_,_,rfl⟩:=FF.ln4 hl;rfl) | (obtain⟨_,_,_,_,_,rfl⟩:=FF.ln5 hl;rfl) | (cases List.length_eq_zero_iff.mp hl;rfl)) ?a ?l ?c ?k
    (case a=>k_is);(case l=>k_is);(case c=>k_is);(case k=>k_is)
  (case z0=>show _=_;k_is)
  (case z1=>show _=_;k_is)
  (case z2=>k_is)
  (case z3=>k_is)
  (case z4=>k_is)
  (case z5=>show _=_;k_is)
  (case z6=>show _=_;k_is)
  (case z7=>show _=_;k_is)
  (case z8=>show _=_;k_is)
  (case z9=>show _=_;k_is)
  (case z10=>show _=_;k_is)
  (case z11=>show _=_;k_is)
  (case z12=>show _=_;k_is)
  (case z13=>show _=_;k_is)
  (case z14=>show _=_;k_is)
  (case z15=>show _=_;k_is)
  (case z16=>show _=_;k_is)
  (case z17=>show _=_;k_is)
  (case z18=>show _=_;k_is)
  (case z19=>show _=_;k_is)
  (case z20=>show _=_;k_is)
  (case z21=>k_is)
  (case z22=>show _=_;k_is)
  (case z23=>k_is)
  (case z24=>show _=_;k_is)
  (case z25=>show _=_;k_is)
  (case z26=>show _=_;k_is)
  (case z27=>show _=_;k_is)
  (case z28=>k_exc)
  (case z29=>k_exc)
  (case z30=>k_exc)
  (case z31=>k_exc)
  (case z32=>k_is)
  (case z33=>k_is)
  (case z34=>k_is)
end
