import PyProof.Rows.All
import Wide.All
import OpenK.AllK
import Wide.FinOn
import PyProof.EqAt
import PyProof.EqKinds
import PyProof.TupleCall
import PyProof.ExcArgsOwn
import PyProof.ExcAttrAll.ValueError
import PyProof.IsiH_tuple
import PyProof.Rows.TopTwo
import PyProof.ExcBaseAll.ValueError
import PyProof.RulesAs
import PyProof.RulesDel
import PyProof.Rows.Catch
import PyProof.WalkInts
import PyProof.SumWalkG
import PyProof.Rows.TupAssign
import PyProof.NeKinds
import PyProof.FactsAll.tuple_1
import PyProof.FactsAll.tuple_2
import PyProof.FactsAll.tuple_3
import PyProof.ZipIter
import PyProof.Rows.ZipGen
import PyProof.Draws
import PyProof.EnumMake
import PyProof.LayNew
import OpenK.KTop
import PyProof.DictWalks
import PyProof.ListRange
import PyProof.Rows.SortWalk
import PyProof.Rows.Range3
import PyProof.MinMaxWalk
import Lean
import PySem.Challenge.RW_fourfold_k90_whole_seen_from_far
set_option Elab.async false
set_option linter.all false
set_option maxRecDepth 100000
noncomputable section
namespace L2
open PySem PySem.Spec PyProof.Rows
abbrev Key:=Sum Int Str
def keyIs:Key→Value→Bool
 | .inl k,v=>Value.isInt k v
 | .inr x,v=>Value.isStrOf x v
def keyH (w:World):Key→Int
 | .inl k=>hashInt k
 | .inr x=>hashStr w x
theorem aP:∀ {k:Key} {v:Value},keyIs k v=true→(∃ i t,k=Sum.inl i∧v=Value.int i t)∨(∃ x t,k=Sum.inr x∧v=Value.str x t)
 | .inl i,v,h=>by
  obtain⟨t,e⟩:=Value.isInt_shape (k:=i) (v:=v) h
  exact .inl ⟨i,t,rfl,e⟩
 | .inr x,v,h=>by
  obtain⟨t,e⟩:=Value.isStrOf_shape (x:=x) (v:=v) h
  exact .inr ⟨x,t,rfl,e⟩
theorem xF (a b:Int):decide ((Sum.inl a:Key)=Sum.inl b)=(a==b):=by
 by_cases e:a=b
 ·subst e;simp
 ·have h:¬ (Sum.inl a:Key)=Sum.inl b:=fun q=>e (Sum.inl.inj q)
  rw[decide_eq_false h]
  exact(beq_eq_false_iff_ne.mpr e).symm
theorem xG (a b:Str):decide ((Sum.inr a:Key)=Sum.inr b)=decide (a=b):=by
 by_cases e:a=b
 ·subst e;simp
 ·have h:¬ (Sum.inr a:Key)=Sum.inr b:=fun q=>e (Sum.inr.inj q)
  rw[decide_eq_false h,decide_eq_false e]
theorem xH (a:Int)(b:Str):decide ((Sum.inl a:Key)=Sum.inr b)=false:=decide_eq_false (fun q=>nomatch q)
theorem xI (a:Str)(b:Int):decide ((Sum.inr a:Key)=Sum.inl b)=false:=decide_eq_false (fun q=>nomatch q)
def mixKind (prog:Program)(w:World):PySem.KeyKind prog w Key where
 is:=keyIs
 hash:=keyH w
 inj:=fun v a b ha hb=>by
  rcases aP ha with ⟨i,t,rfl,rfl⟩ | ⟨x,t,rfl,rfl⟩
  ·rcases aP hb with ⟨j,u,rfl,e⟩ | ⟨y,u,rfl,e⟩
   ·injection e with e1 _;rw[e1]
   ·exact nomatch e
  ·rcases aP hb with ⟨j,u,rfl,e⟩ | ⟨y,u,rfl,e⟩
   ·exact nomatch e
   ·injection e with e1 _;rw[e1]
 byValue:=fun k v h=>by
  rcases aP h with ⟨i,t,rfl,rfl⟩ | ⟨x,t,rfl,rfl⟩<;>rfl
 pyHash:=fun hv h=>by
  rcases aP hv with ⟨i,t,rfl,rfl⟩ | ⟨x,t,rfl,rfl⟩
  ·exact wpAny_pyHash_int h
  ·exact wpAny_pyHash_str h
 eqBool:=fun hu hv h=>by
  rcases aP hu with ⟨i,t,rfl,rfl⟩ | ⟨x,t,rfl,rfl⟩
  ·rcases aP hv with ⟨j,u,rfl,rfl⟩ | ⟨y,u,rfl,rfl⟩
   ·rw[xF]at h;exact wpAny_eqBool_int h
   ·rw[xH]at h;exact SeqAt.EqAt.int_str i t y u _ _ _ _ h
  ·rcases aP hv with ⟨j,u,rfl,rfl⟩ | ⟨y,u,rfl,rfl⟩
   ·rw[xI]at h;exact SeqAt.EqAt.str_int x t j u _ _ _ _ h
   ·rw[xG]at h;exact wpAny_eqBool_str h
 «strs»:=fun k x t v h=>by
  rcases aP h with ⟨i,u,rfl,e⟩ | ⟨y,u,rfl,e⟩
  ·exact nomatch e
  ·injection e with e1 _
   subst e1
   cases v<;>rfl
end L2
namespace L2
open PySem PySem.Spec PyProof.Rows
inductive V where
 | non | bl (b:Bool) | int (i:Int) | str (x:Str) | byt (b:Array UInt8) | flt (b:UInt64) | ref (a:Addr) | ty (n:String)
 deriving DecidableEq
def RelV:V→Value→Prop
 | .non,u=>u=Value.none
 | .bl b,u=>u=Value.bool b
 | .int i,u=>∃ t,u=Value.int i t
 | .str x,u=>∃ t,u=Value.str x t
 | .byt b,u=>∃ t,u=Value.bytes b t
 | .flt b,u=>∃ t,u=Value.float b t
 | .ref a,u=>u=Value.ref a
 | .ty n,u=>u=Value.type n
abbrev Vals:List V→List Value→Prop:=Paired RelV
theorem Vals.length {xs:List V}{us:List Value}(r:Vals xs us):xs.length=us.length:=Paired.length r
theorem Vals.get:∀ {xs:List V} {us:List Value} {i:Nat} {x:V},Vals xs us→xs[i]?=some x→∃ u,us[i]?=some u∧RelV x u
 | _,_,_,_,.nil,e=>by simp at e
 | _,_,0,_,.cons r _,e=>by simp at e;subst e;exact⟨_,rfl,r⟩
 | _,_,i+1,x,.cons _ t,e=>by
  obtain⟨u,h1,h2⟩:=Vals.get (i:=i) (x:=x) t (by simpa using e)
  exact⟨u,by simpa using h1,h2⟩
theorem Vals.set {x:V}{u:Value}(r:RelV x u):∀ {xs:List V} {us:List Value} (i:Nat),Vals xs us→Vals (xs.set i x) (us.set i u)
 | _,_,_,.nil=>.nil
 | _,_,0,.cons _ t=>.cons r t
 | _,_,i+1,.cons q t=>.cons q (Vals.set r i t)
theorem Vals.append:∀ {xs ys:List V} {us ws:List Value},Vals xs us→Vals ys ws→Vals (xs++ys) (us++ws)
 | _,_,_,_,.nil,s=>s
 | _,_,_,_,.cons r t,s=>.cons r (Vals.append t s)
theorem Vals.take:∀ {xs:List V} {us:List Value} (n:Nat),Vals xs us→Vals (xs.take n) (us.take n)
 | _,_,0,_=>.nil
 | _,_,_+1,.nil=>.nil
 | _,_,n+1,.cons r t=>.cons r (Vals.take n t)
theorem Vals.drop:∀ {xs:List V} {us:List Value} (n:Nat),Vals xs us→Vals (xs.drop n) (us.drop n)
 | _,_,0,r=>r
 | _,_,_+1,.nil=>.nil
 | _,_,n+1,.cons _ t=>Vals.drop n t
theorem Vals.none_of:∀ {xs:List V} {us:List Value} {i:Nat},Vals xs us→xs[i]?=none→us[i]?=none:=fun {xs us i} r e=>by
 have h1:=r.length
 have h2:xs.length≤i:=List.getElem?_eq_none_iff.mp e
 exact List.getElem?_eq_none_iff.mpr (by omega)
def RelO:Option V→Option Value→Prop
 | some v,some u=>RelV v u
 | none,none=>True
 | _,_=>False
def KV {κ:Type}:List (κ×V)→List (κ×Value)→Prop:=Paired fun (p:κ×V) (q:κ×Value)=>p.1=q.1∧RelV p.2 q.2
def kV:Key→V
 | .inl i=>.int i
 | .inr x=>.str x
inductive HO where
 | lst (xs:List V)
 | tup (xs:List V)
 | dK (kvs:List (Key×V)) | dT (kvs:List (List Key×V))
 | set (S:Int→Bool) (n:Nat)
 | ins (C dx:Addr) (fs:List (Str×V))
 | own (x:Addr)
 | xd (fs:List (Str×V))
 | met (f x:Addr)
 | rng (lo hi:Int)
 | frz (o:Obj) (u:HO)
 | tbl (ps:Array Value)
 | ext (φ:Heap→Prop)
abbrev Hp:=Addr→Option HO
def upd (H:Hp)(a:Addr)(o:HO):Hp:=fun b=>if b=a then some o else H b
theorem ar {H:Hp}{a:Addr}{o:HO}:upd H a o a=some o:=by unfold upd;rw[if_pos rfl]
theorem ap {H:Hp}{a b:Addr}{o:HO}(h:b≠a):upd H a o b=H b:=by unfold upd;rw[if_neg h]
theorem bv {H:Hp}{a b:Addr}{o:HO}(h:H a=some o)(h':H b=none):a≠b:=by
 intro e;subst e;rw[h]at h';cases h'
def TupO (h:Heap)(a:Addr)(its:Array Value):Prop:=∃ o,h.get? a=some o∧o.cls=.type "tuple" ∧ o.dict=none∧∃ n,o.data=.seq its n
theorem TupO.is {h:Heap}{a:Addr}{its:Array Value}(p:TupO h a its):IsTup h a its:=let ⟨o,e,c,_,d⟩:=p;⟨o,e,c,d⟩
theorem TupO.lt {h:Heap}{a:Addr}{its:Array Value}(p:TupO h a its):a < h.objs.size:=p.is.lt
theorem TupO.new (h:Heap)(its:Array Value):TupO (h.push { cls:=.type "tuple",data:=.seq its }) h.objs.size its:=⟨_,Heap.get?_push_size _ rfl,rfl,rfl,_,rfl⟩
section
variable (P:Program)(w:World)
def ObjOk (H:Hp)(h:Heap)(a:Addr):HO→Prop
 | .lst xs=>xs.length≤sizeLine∧∃ (its:List Value) (n:Nat),Vals xs its∧h.get? a=some { cls:=.type "list",data:=.seq its.toArray n }
 | .tup xs=>xs.length≤sizeLine∧∃ its:List Value,Vals xs its∧TupO h a its.toArray
 | .dK kvs=>kvs.length≤sizeLine∧(a==sysModules)=false∧∃ vs,KV kvs vs∧h.DictOf (mixKind P w) a vs
 | .dT kvs=>kvs.length≤sizeLine∧(a==sysModules)=false∧∃ xs:List (List Key×Addr×Value),
   Paired (fun (p:List Key×V) (q:List Key×Addr×Value)=>p.1=q.1∧H q.2.1=some (.tup (p.1.map kV))∧RelV p.2 q.2.2) kvs xs ∧
   ∃ o es ep,h.get? a=some o∧o.ExactDict∧o.data=.dict es ep∧es.toList=xs.map (entryOfKey (tupleKind (mixKind P w)))∧(xs.map (·.1)).Nodup
 | .set S n=>h.SetOf (intKind P w) a S n
 | .ins C dx fs=>H dx=some (.own a)∧fs.length≤1000∧dx≠a∧h.get? a=some (PySem.W.instObj C dx) ∧
   ∃ mA,h.Ns1 dx mA∧(∀ f,RelO (fs.lookup f) (mA f))∧PySem.Within mA (fs.map (·.1))
 | .own _=>∃ o,h.get? a=some o
 | .xd fs=>∃ mA,h.Ns1 a mA∧∀ f,RelO (fs.lookup f) (mA f)
 | .rng lo hi=>∃ t u v,h.get? a=some { cls:=.type "range",data:=.fields #[.int lo t,.int hi u,.int 1 v] }
 | .frz o u=>h.get? a=some o∧ObjOk H h a u
 | .tbl ps=>h.get? a=some { cls:=.none,data:=.fields ps }
 | .met f x=>h.get? a=some (PySem.W.methodObj (.ref f) (.ref x))
 | .ext φ=>φ h∧(∃ o,h.get? a=some o)∧∀ h1 h2:Heap,φ h1→(∀ o,h1.get? a=some o→h2.get? a=some o)→φ h2
def HOk (H:Hp)(h:Heap):Prop:=∀ a o,H a=some o→ObjOk P w H h a o
end
section
variable {P:Program}{w:World}{H H':Hp}{h h':Heap}{a:Addr}{o:HO}
theorem ObjOk.lt (x:ObjOk P w H h a o):a < h.objs.size:=by
 cases o with
 | lst xs=>obtain⟨_,_,_,_,e⟩:=x;exact Heap.lt_size e
 | tup xs=>obtain⟨_,_,_,p⟩:=x;exact p.lt
 | dK kvs=>obtain⟨_,_,_,_,o,_,_,e,_⟩:=x;exact Heap.lt_size e
 | dT kvs=>obtain⟨_,_,_,_,o,_,_,e,_⟩:=x;exact Heap.lt_size e
 | set S n=>obtain⟨o,_,_,_,e,_⟩:=x;exact Heap.lt_size e
 | ins C dx fs=>obtain⟨_,_,_,e,_⟩:=x;exact Heap.lt_size e
 | own y=>obtain⟨_,e⟩:=x;exact Heap.lt_size e
 | xd fs=>obtain⟨_,⟨_,_,_,e,_⟩,_⟩:=x;exact Heap.lt_size e
 | rng lo hi=>obtain⟨_,_,_,e⟩:=x;exact Heap.lt_size e
 | frz ob u=>obtain⟨e,_⟩:=x;exact Heap.lt_size e
 | tbl ps=>exact Heap.lt_size (show h.get? a=some _ from x)
 | met f y=>exact Heap.lt_size (show h.get? a=some _ from x)
 | ext φ=>obtain⟨_,⟨_,e⟩,_⟩:=x;exact Heap.lt_size e
theorem Paired.mapP {α β:Type}{F G:α→β→Prop}:∀ {l₁:List α} {l₂:List β},Paired F l₁ l₂→(∀ a b,F a b→G a b)→Paired G l₁ l₂
 | _,_,.nil,_=>.nil
 | _,_,.cons r t,f=>.cons (f _ _ r) (Paired.mapP t f)
theorem ObjOk.stay (x:ObjOk P w H h a o)(k:∀ b u,(b=a∨H b=some (.own a))→h.get? b=some u→h'.get? b=some u)
  (ho:∀ b,H b=some (.own a)→H' b=some (.own a)) (ht:∀ b xs,H b=some (.tup xs)→H' b=some (.tup xs)):ObjOk P w H' h' a o:=by
 induction o with
 | lst xs=>obtain⟨z,its,n,r,e⟩:=x;exact⟨z,its,n,r,k _ _ (.inl rfl) e⟩
 | tup xs=>obtain⟨z,its,r,ob,e,c⟩:=x;exact⟨z,its,r,ob,k _ _ (.inl rfl) e,c⟩
 | dK kvs=>obtain⟨z,y,vs,r,ob,es,ep,e,c⟩:=x;exact⟨z,y,vs,r,ob,es,ep,k _ _ (.inl rfl) e,c⟩
 | dT kvs =>
  obtain⟨z,y,xs,r,ob,es,ep,e,c⟩:=x
  exact⟨z,y,xs,Paired.mapP r fun p q z=>⟨z.1,ht _ _ z.2.1,z.2.2⟩,ob,es,ep,k _ _ (.inl rfl) e,c⟩
 | set S n=>obtain⟨ob,es,ep,t,e,c⟩:=x;exact⟨ob,es,ep,t,k _ _ (.inl rfl) e,c⟩
 | ins C dx fs =>
  obtain⟨d,z,ne,e,mA,⟨od,es,ep,e2,c⟩,r⟩:=x
  exact⟨ho _ d,z,ne,k _ _ (.inl rfl) e,mA,⟨od,es,ep,k _ _ (.inr d) e2,c⟩,r⟩
 | own y=>obtain⟨ob,e⟩:=x;exact⟨ob,k _ _ (.inl rfl) e⟩
 | xd fs=>obtain⟨mA,⟨od,es,ep,e,c⟩,r⟩:=x;exact⟨mA,⟨od,es,ep,k _ _ (.inl rfl) e,c⟩,r⟩
 | rng lo hi=>obtain⟨t,u,v,e⟩:=x;exact⟨t,u,v,k _ _ (.inl rfl) e⟩
 | frz ob u ih=>obtain⟨e,q⟩:=x;exact⟨k _ _ (.inl rfl) e,ih q⟩
 | tbl ps =>
  have e:h.get? a=some { cls:=.none,data:=.fields ps }:=x
  show h'.get? a=some { cls:=.none,data:=.fields ps }
  exact k a _ (.inl rfl) e
 | met f y =>
  have e:h.get? a=some (PySem.W.methodObj (.ref f) (.ref y)):=x
  show h'.get? a=some (PySem.W.methodObj (.ref f) (.ref y))
  exact k a _ (.inl rfl) e
 | ext φ=>obtain⟨p,⟨o,e⟩,st⟩:=x;exact⟨st _ _ p fun o q=>k _ _ (.inl rfl) q,⟨o,k _ _ (.inl rfl) e⟩,st⟩
theorem HOk.lt (x:HOk P w H h)(e:H a=some o):a < h.objs.size:=(x a o e).lt
theorem HOk.fresh (x:HOk P w H h)(e:h.objs.size≤a):H a=none:=by
 cases q:H a with
 | none=>rfl
 | some u=>exact absurd (Nat.lt_of_lt_of_le (x.lt q) e) (Nat.lt_irrefl _)
theorem HOk.kept (x:HOk P w H h)(k:∀ b u,h.get? b=some u→h'.get? b=some u):HOk P w H h':=fun a o e =>
 (x a o e).stay (fun b u _ q=>k b u q) (fun _ q=>q) fun _ _ q=>q
theorem HOk.laid (x:HOk P w H h)(k:∀ b u,h.get? b=some u→h'.get? b=some u)(hp:h.objs.size≤a)(new:ObjOk P w (upd H a o) h' a o):HOk P w (upd H a o) h':=fun b u e=>by
 have hn:=x.fresh hp
 by_cases hb:b=a
 ·subst hb;rw[ar]at e;cases e;exact new
 ·rw[ap hb]at e
  exact(x b u e).stay (fun c v _ q=>k c v q) (fun c q=>by rw[ap (bv q hn)];exact q) fun c xs q=>by rw[ap (bv q hn)];exact q
end
def Rd (H:Hp)(a:Addr)(u:HO):Prop:=H a=some u∨∃ o,H a=some (.frz o u)
theorem Rd.ok {P:Program}{w:World}{H:Hp}{h:Heap}{a:Addr}{u:HO}(r:Rd H a u)(x:HOk P w H h):ObjOk P w H h a u:=by
 rcases r with r | ⟨o,r⟩
 ·exact x a u r
 ·obtain⟨_,q⟩:=x a _ r
  exact q
def Mut:Option HO→Prop
 | some (.lst _)=>True
 | some (.dK _)=>True
 | some (.dT _)=>True
 | some (.set _ _)=>True
 | some (.ins _ _ _)=>True
 | some (.ext _)=>True
 | _=>False
section
variable {P:Program}{w:World}{H:Hp}{h h':Heap}{x e:Addr}{o':HO}
theorem HOk.write (ok:HOk P w H h)(mu:Mut (H x))(he:e=x∨H e=some (.own x))(k:∀ b u,b≠e→h.get? b=some u→h'.get? b=some u)(heo:∃ u,h'.get? e=some u)
  (new:ObjOk P w (upd H x o') h' x o'):HOk P w (upd H x o') h':=fun b u q=>by
 have nown:∀ c y,H c=some (.own y)→c≠x:=fun c y r z=>by subst z;rw[r]at mu;exact mu
 have ntup:∀ c xs,H c=some (.tup xs)→c≠x:=fun c xs r z=>by subst z;rw[r]at mu;exact mu
 by_cases hb:b=x
 ·subst hb;rw[ar]at q;cases q;exact new
 ·rw[ap hb]at q
  by_cases hbe:b=e
  ·have q':H b=some (.own x):=by
    rcases he with z | z
    ·exact absurd (hbe.trans z) hb
    ·rw[hbe];exact z
   rw[q]at q';cases q'
   obtain⟨v,hv⟩:=heo
   exact⟨v,by rw[hbe];exact hv⟩
  ·refine(ok b u q).stay (fun c v hc r=>k c v ?_ r) (fun c r=>by rw[ap (nown c b r)];exact r) fun c xs r=>by rw[ap (ntup c xs r)];exact r
   rcases hc with rfl | hc
   ·exact hbe
   ·rintro rfl
    rcases he with z | z
    ·exact nown c b hc z
    ·rw[hc]at z;cases z;exact hb rfl
end
structure Un (fs ex:List Addr)(H H':Hp)(h h':Heap):Prop where
 keep:∀ b o,h.get? b=some o→H b=none→b∉fs→b∉ex→h'.get? b=some o
 slot:∀ b o,h.get? b=some o→H b=none→b∈fs→b∉ex→∃ sl,h'.get? b=some { o with slots:=sl }
 free:∀ b o,h.get? b=some o→H b=none→b∉ex→H' b=none
 there:∀ b o,h.get? b=some o→b∉ex→∃ o',h'.get? b=some o'
 tups:∀ b xs,H b=some (.tup xs)→H' b=some (.tup xs)
 frzs:∀ b o u,H b=some (.frz o u)→H' b=some (.frz o u)
 tbls:∀ b ps,H b=some (.tbl ps)→∃ more,H' b=some (.tbl (ps++more))
section
variable {fs fs' ex ex':List Addr}{H H1 H2:Hp}{h h1 h2 h':Heap}{a x e:Addr}{o:HO}
theorem Un.any (u:Un fs ex H H1 h h1){b:Addr}{ob:Obj}(q:h.get? b=some ob)(n:H b=none)(hx:b∉ex):∃ sl,h1.get? b=some { ob with slots:=sl }:=by
 by_cases hb:b∈fs
 ·exact u.slot b ob q n hb hx
 ·exact⟨ob.slots,u.keep b ob q n hb hx⟩
theorem Un.trans (a:Un fs ex H H1 h h1)(b:Un fs ex H1 H2 h1 h2):Un fs ex H H2 h h2 where
 keep:=fun c ob q n hc hx=>b.keep c ob (a.keep c ob q n hc hx) (a.free c ob q n hx) hc hx
 slot:=fun c ob q n hc hx=>by
  obtain⟨sl,e1⟩:=a.slot c ob q n hc hx
  obtain⟨sl',e2⟩:=b.slot c _ e1 (a.free c ob q n hx) hc hx
  exact⟨sl',e2⟩
 free:=fun c ob q n hx=>by
  obtain⟨o',e1⟩:=a.there c ob q hx
  exact b.free c o' e1 (a.free c ob q n hx) hx
 there:=fun c ob q hx=>by
  obtain⟨o',e1⟩:=a.there c ob q hx
  exact b.there c o' e1 hx
 tups:=fun c xs q=>b.tups c xs (a.tups c xs q)
 frzs:=fun c ob xs q=>b.frzs c ob xs (a.frzs c ob xs q)
 tbls:=fun c ps q=>by
  obtain⟨m1,e1⟩:=a.tbls c ps q
  obtain⟨m2,e2⟩:=b.tbls c _ e1
  exact⟨m1++m2,by rw[e2,Array.append_assoc]⟩
theorem Un.kept (k:∀ b u,h.get? b=some u→h'.get? b=some u):Un fs ex H H h h' :=
 ⟨fun b ob q _ _ _=>k b ob q,fun b ob q _ _ _=>⟨ob.slots,k b ob q⟩,fun _ _ _ n _=>n,fun b ob q _=>⟨ob,k b ob q⟩,fun _ _ q=>q,fun _ _ _ q=>q,fun _ ps q=>⟨#[],by rw[q];simp⟩⟩
theorem Un.refl:Un fs ex H H h h:=Un.kept fun _ _ q=>q
theorem Un.laid (k:∀ b u,h.get? b=some u→h'.get? b=some u)(hp:h.objs.size≤a)(hn:H a=none):Un fs ex H (upd H a o) h h' where
 keep:=fun b u q _ _ _=>k b u q
 slot:=fun b u q _ _ _=>⟨u.slots,k b u q⟩
 free:=fun b u q n _=>by rw[ap (Nat.ne_of_lt (Nat.lt_of_lt_of_le (Heap.lt_size q) hp))];exact n
 there:=fun b u q _=>⟨u,k b u q⟩
 tups:=fun b xs q=>by rw[ap (bv q hn)];exact q
 frzs:=fun b u xs q=>by rw[ap (bv q hn)];exact q
 tbls:=fun b ps q=>⟨#[],by rw[ap (bv q hn),q];simp⟩
theorem Un.write (mu:Mut (H x))(he:e=x∨H e=some (.own x))(k:∀ b u,b≠e→h.get? b=some u→h'.get? b=some u)(heo:∃ u,h'.get? e=some u):Un fs ex H (upd H x o) h h':=by
 have hx:∀ b,H b=none→b≠x:=fun b n z=>by subst z;rw[n]at mu;exact mu
 have hb:∀ b,H b=none→b≠e:=fun b n z=>by
  subst z
  rcases he with r | r
  ·exact hx b n r
  ·rw[n]at r;cases r
 have hm:∀ b u,H b=some u→¬ Mut (some u)→b≠x:=fun b u q nm z=>by subst z;rw[q]at mu;exact nm mu
 refine⟨fun b u q n _ _=>k b u (hb b n) q,fun b u q n _ _=>⟨u.slots,k b u (hb b n) q⟩,fun b u q n _=>by rw[ap (hx b n)];exact n,fun b u q _=>?_,
  fun b xs q=>by rw[ap (hm b _ q fun z=>z)];exact q,fun b u xs q=>by rw[ap (hm b _ q fun z=>z)];exact q,fun b ps q=>⟨#[],by rw[ap (hm b _ q fun z=>z),q];simp⟩⟩
 by_cases hbe:b=e
 ·subst hbe;exact heo
 ·exact⟨u,k b u hbe q⟩
end
def trk (h:Heap)(H:Hp):List Addr:=(List.range h.objs.size).filter fun a=>(H a).isSome
def hidT (h:Heap)(H:Hp):Heap:=PySem.W.hideAll h (trk h H)
theorem qN (h:Heap)(H:Hp):(hidT h H).objs.size=h.objs.size:=PySem.W.hideAll_size _ _
theorem tj {h:Heap}{H:Hp}{b:Addr}{o:Obj}(e:h.get? b=some o)(n:H b=none):(hidT h H).get? b=some o :=
 PySem.W.hideAll_get _ e fun hm=>by
  have q:(H b).isSome=true:=(List.mem_filter.mp hm).2
  rw[n]at q;simp at q
theorem vE {h:Heap}{H:Hp}{b:Addr}{o:Obj}(e:(hidT h H).get? b=some o):h.get? b=some o∧H b=none:=by
 have e':h.get? b=some o:=PySem.W.of_hideAll (trk h H) e
 refine⟨e',?_⟩
 cases q:H b with
 | none=>rfl
 | some x =>
  have hm:b∈trk h H:=List.mem_filter.mpr ⟨List.mem_range.mpr (Heap.lt_size e'),by simp[q]⟩
  have z:(hidT h H).get? b=none:=PySem.W.hideAll_none (trk h H) hm
  rw[z]at e;cases e
def allNews (g h:Heap)(L:Addr):List (Addr×Obj):=(List.range h.objs.size).filterMap fun a=>if a=L∨(g.get? a).isSome=true then none else (h.get? a).map fun o=>(a,o)
def rest (g h:Heap)(L d:Addr):List (Addr×Obj):=(allNews g h L).filter fun p=>decide (p.1≠d)
end L2
namespace L2
open PySem PySem.Spec PyProof.Rows
structure Mod (K:PySem.W.Frag)(mg:Str→Option Value)(base:Heap):Prop where
 kin:K.In base
 glob:base.Ns mainGlobals mg
 blt:∃ mb,base.Ns builtinsNs mb∧∀ x:Str,x ≠ "__name__" → mb x=bootBuiltins x
 nolimit:base.NoLimit
structure Cx where
 prog:Program
 w:World
 K:PySem.W.Frag
 mg:Str→Option Value
 base:Heap
 A:Around
 N:List Str
 s₀:Shared
 H₀:Hp
 env:Env
 outer:List Env
 stack:List Env
 ex:List Addr
 fn:Str→Bool
 calm:Bool
 pn:List (Addr×Obj)
 xe:Value→Shared→Prop
def frs (l:List Env):List Addr:=l.filterMap (·.frame)
abbrev Cx.fs (X:Cx):List Addr:=frs X.outer
def Vis (sc:Scope)(x:Str):Prop:=sc.names.lookup x=some .local∨sc.names.lookup x=some .cell∨sc.names.lookup x=some .free
def Loc (sc:Scope)(x:Str):Prop:=sc.names.lookup x=some .local∨sc.names.lookup x=some .cell
def Look (env:Env)(h:Heap)(m:Str→Option Value)(x:Str)(u:Value):Prop :=
 (env.kindOf x=some .local∧m x=some u)∨((env.kindOf x=some .cell∨env.kindOf x=some .free)∧∃ c,env.cells.lookup x=some c∧h.IsCell c (some u))
structure Cx.Ok (X:Cx):Prop where
 mod:Mod X.K X.mg X.base
 kind:X.env.scope.kind=.function
 glob:X.env.globals=mainGlobals
 blt:X.env.builtins=builtinsNs
 above:X.s₀.heap.objs.size≤X.env.locals
 inj:∀ x y c,X.env.cells.lookup x=some c→X.env.cells.lookup y=some c→x=y
 has:∀ x,(X.env.kindOf x=some .cell∨X.env.kindOf x=some .free)→∃ c,X.env.cells.lookup x=some c
 cab:∀ x c,X.fn x=true→X.env.cells.lookup x=some c→X.s₀.heap.objs.size≤c
 hd:X.calm=true→X.A.handled=none
 frames:X.A.frames=some X.stack
 stk:X.stack=X.outer∨(X.stack=X.env::X.outer∧X.env.frame=some X.env.locals)
 exf:∀ b∈X.ex,b≠X.env.locals∧∀ x c,X.env.cells.lookup x=some c→c≠b
 bs:∀ b o,X.base.get? b=some o→X.s₀.heap.get? b=some o∧X.H₀ b=none
 bsz:X.base.objs.size≤X.s₀.heap.objs.size
 noex:∀ b o,X.base.get? b=some o→b∉X.ex
 exfs:∀ b∈X.ex,b∉X.fs
 funs:X.s₀.heap.FunFrames X.base X.outer
 frf:∀ b∈X.fs,X.H₀ b=none
structure Inv (X:Cx)(pins:List (Addr×Obj))(σ:List (Option V))(H:Hp)(s:Shared):Prop where
 ok:X.Ok
 os:s.os=X.s₀.os
 bare:AllBare s.gens
 base:Un X.fs X.ex X.H₀ H X.s₀.heap s.heap
 loc:∃ m,s.heap.Ns X.env.locals m∧∀ (i:Nat) (x:Str) (v:V),X.N[i]?=some x→σ[i]?=some (some v)→Vis X.env.scope x→∃ u,RelV v u∧Look X.env s.heap m x u
 cell:∀ x c,X.env.cells.lookup x=some c→∃ v,s.heap.IsCell c v
 free:H X.env.locals=none
 freeC:∀ x c,X.env.cells.lookup x=some c→H c=none
 pin:∀ p∈X.pn++pins,s.heap.get? p.1=some p.2∧H p.1=none∧p.1≠X.env.locals∧p.1∉X.fs∧∀ v,p.2.data≠.cell v
 hok:HOk X.prog X.w H s.heap
 len:σ.length=X.N.length
section
variable {X:Cx}{pins:List (Addr×Obj)}{σ:List (Option V)}{H H':Hp}{s:Shared}{h':Heap}
theorem Cx.Ok.nofr (ok:X.Ok){b:Addr}{o:Obj}(e:X.base.get? b=some o):b∉X.fs:=fun hb=>by
 have:=(ok.funs.mem hb).1
 rw[e]at this;cases this
theorem Inv.bs (I:Inv X pins σ H s):∀ b o,X.base.get? b=some o→s.heap.get? b=some o∧H b=none:=fun b o e =>
 ⟨I.base.keep b o (I.ok.bs b o e).1 (I.ok.bs b o e).2 (I.ok.nofr e) (I.ok.noex b o e),I.base.free b o (I.ok.bs b o e).1 (I.ok.bs b o e).2 (I.ok.noex b o e)⟩
theorem Inv.bk (I:Inv X pins σ H s):∀ b o,X.base.get? b=some o→s.heap.get? b=some o:=fun b o e=>(I.bs b o e).1
theorem Inv.mod (I:Inv X pins σ H s):Mod X.K X.mg X.base:=I.ok.mod
theorem Inv.kIn (I:Inv X pins σ H s):X.K.In s.heap:=I.ok.mod.kin.keeps I.bk
theorem Inv.lt (I:Inv X pins σ H s):X.env.locals < s.heap.objs.size:=let ⟨_,hn,_⟩:=I.loc;hn.lt
theorem Inv.sz (I:Inv X pins σ H s):X.s₀.heap.objs.size≤s.heap.objs.size:=Nat.le_trans I.ok.above (Nat.le_of_lt I.lt)
theorem Inv.nofs (I:Inv X pins σ H s){a:Addr}(h:s.heap.objs.size≤a):a∉X.fs:=fun hb=>by
 obtain⟨_,o,ho,_⟩:=I.ok.funs.mem hb
 exact absurd (Nat.lt_of_lt_of_le (Heap.lt_size ho) (Nat.le_trans I.sz h)) (Nat.lt_irrefl _)
theorem Inv.cne (I:Inv X pins σ H s):∀ x c,X.env.cells.lookup x=some c→c≠X.env.locals:=fun x c e z=>by
 obtain⟨v,o,ho,hd⟩:=I.cell x c e
 obtain⟨m,⟨o',es,ep,ho',hd',_⟩,_⟩:=I.loc
 rw[z,ho']at ho;cases ho;rw[hd']at hd;cases hd
theorem Inv.funs (I:Inv X pins σ H s):s.heap.FunFrames X.base X.outer:=by
 have all:∀ (l:List Env),(∀ b∈frs l,b∈X.fs)→X.s₀.heap.FunFrames X.base l→s.heap.FunFrames X.base l:=by
  intro l
  induction l with
  | nil=>intro _ _;trivial
  | cons env r ih =>
   intro hs hl
   obtain⟨hk,⟨L,o,hf,hn,ho,hd⟩,hr⟩:=hl
   have hL:L∈X.fs:=hs L (by unfold frs;rw[List.filterMap_cons,hf];exact List.mem_cons_self)
   obtain⟨sl,e⟩:=I.base.slot L o ho (I.ok.frf L hL) hL fun z=>I.ok.exfs L z hL
   exact⟨hk,⟨L,_,hf,hn,e,hd⟩,ih (fun b hb=>hs b (by unfold frs;rw[List.filterMap_cons,hf];exact List.mem_cons_of_mem _ hb)) hr⟩
 exact all X.outer (fun _ hb=>hb) I.ok.funs
theorem Inv.stack (I:Inv X pins σ H s):s.heap.FunFrames X.base X.stack:=by
 rcases I.ok.stk with e | ⟨e,hf⟩
 ·rw[e];exact I.funs
 ·rw[e]
  obtain⟨m,hn,_⟩:=I.loc
  refine .cons (by rw[I.ok.kind];decide) hf hn ?_ I.funs
  exact Heap.get?_none_of_le (Nat.le_trans I.ok.bsz I.ok.above)
theorem Inv.stkSub (I:Inv X pins σ H s):∀ b∈frs X.stack,b∈X.env.locals::X.fs:=fun b hb=>by
 rcases I.ok.stk with e | ⟨e,hf⟩
 ·rw[e]at hb;exact List.mem_cons_of_mem _ hb
 ·rw[e]at hb
  unfold frs at hb
  rw[List.filterMap_cons,hf]at hb
  exact hb
theorem Inv.stkFree (I:Inv X pins σ H s):∀ b∈frs X.stack,H b=none:=fun b hb=>by
 rcases List.mem_cons.mp (I.stkSub b hb) with e | hb
 ·rw[e];exact I.free
 ·obtain⟨_,o,ho,_⟩:=I.ok.funs.mem hb
  exact I.base.free b o ho (I.ok.frf b hb) fun z=>I.ok.exfs b z hb
theorem Inv.step {g':Array GenState}{t':Nat}{d':Drawn}{ch:List Addr}(I:Inv X pins σ H s)
  (hch:∀ b∈ch,(b∈X.ex∨X.s₀.heap.objs.size≤b)∧b≠X.env.locals∧(∀ x c,X.env.cells.lookup x=some c→c≠b)∧∀ p∈X.pn++pins,p.1≠b)
  (keep:∀ b o,b≠X.env.locals→b∉X.fs→b∉ch→s.heap.get? b=some o→H b=none→h'.get? b=some o)
  (slot:∀ b o,b≠X.env.locals→b∈X.fs→b∉ch→s.heap.get? b=some o→H b=none→∃ sl,h'.get? b=some { o with slots:=sl }) (free:∀ b o,b∉ch→s.heap.get? b=some o→H b=none→H' b=none)
  (there:∀ b o,b∉ch→s.heap.get? b=some o→∃ o',h'.get? b=some o')
  (tups:∀ b xs,H b=some (.tup xs)→H' b=some (.tup xs)) (frzs:∀ b o u,H b=some (.frz o u)→H' b=some (.frz o u)) (tbls:∀ b ps,H b=some (.tbl ps)→∃ more,H' b=some (.tbl (ps++more)))
  (ns:∀ m,s.heap.Ns X.env.locals m→h'.Ns X.env.locals m) (hok:HOk X.prog X.w H' h') (hg:AllBare g') :
  Inv X pins σ H' { s with heap:=h',gens:=g',drawn:=d',toks:=t' }:=by
 have neL:∀ b o,X.s₀.heap.get? b=some o→b≠X.env.locals:=fun b o e=>Nat.ne_of_lt (Nat.lt_of_lt_of_le (Heap.lt_size e) I.ok.above)
 have neC:∀ b o,X.s₀.heap.get? b=some o→b∉X.ex→b∉ch:=fun b o e hx hb=>by
  rcases(hch b hb).1 with z | z
  ·exact hx z
  ·exact absurd (Nat.lt_of_lt_of_le (Heap.lt_size e) z) (Nat.lt_irrefl _)
 have cellK:∀ x c,X.env.cells.lookup x=some c→∀ v,s.heap.IsCell c v→h'.IsCell c v:=fun x c e v ⟨o,ho,hd⟩=>by
  have nch:c∉ch:=fun z=>(hch c z).2.2.1 x c e rfl
  by_cases hc:c∈X.fs
  ·obtain⟨sl,q⟩:=slot c o (I.cne x c e) hc nch ho (I.freeC x c e)
   exact⟨_,q,hd⟩
  ·exact⟨o,keep c o (I.cne x c e) hc nch ho (I.freeC x c e),hd⟩
 refine⟨I.ok,I.os,hg,⟨fun b o e n hb hx=>?_,fun b o e n hb hx=>?_,fun b o e n hx=>?_,fun b o e hx=>?_,fun b xs e=>tups b xs (I.base.tups b xs e),fun b o xs e=>frzs b o xs (I.base.frzs b o xs e),fun b ps e=>?_⟩,?_,fun x c e=>?_,?_,fun x c e=>?_,fun p hp=>?_,hok,I.len⟩
 ·exact keep b o (neL b o e) hb (neC b o e hx) (I.base.keep b o e n hb hx) (I.base.free b o e n hx)
 ·obtain⟨sl,e1⟩:=I.base.slot b o e n hb hx
  obtain⟨sl',e2⟩:=slot b _ (neL b o e) hb (neC b o e hx) e1 (I.base.free b o e n hx)
  exact⟨sl',e2⟩
 ·obtain⟨o',e1⟩:=I.base.there b o e hx
  exact free b o' (neC b o e hx) e1 (I.base.free b o e n hx)
 ·obtain⟨o',e1⟩:=I.base.there b o e hx
  exact there b o' (neC b o e hx) e1
 ·obtain⟨m1,e1⟩:=I.base.tbls b ps e
  obtain⟨m2,e2⟩:=tbls b _ e1
  exact⟨m1++m2,by rw[e2,Array.append_assoc]⟩
 ·obtain⟨m,hn,hl⟩:=I.loc
  refine⟨m,ns m hn,fun i x v e1 e2 e3=>?_⟩
  obtain⟨u,r,l⟩:=hl i x v e1 e2 e3
  refine⟨u,r,?_⟩
  rcases l with l | ⟨k,c,e,z⟩
  ·exact .inl l
  ·exact .inr ⟨k,c,e,cellK x c e _ z⟩
 ·obtain⟨v,z⟩:=I.cell x c e
  exact⟨v,cellK x c e v z⟩
 ·obtain⟨m,⟨o,_,_,ho,_⟩,_⟩:=I.loc
  exact free _ o (fun z=>(hch _ z).2.1 rfl) ho I.free
 ·obtain⟨v,o,ho,hd⟩:=I.cell x c e
  exact free c o (fun z=>(hch c z).2.2.1 x c e rfl) ho (I.freeC x c e)
 ·obtain⟨e,n,ne,nf,d⟩:=I.pin p hp
  have nch:p.1∉ch:=fun z=>(hch p.1 z).2.2.2 p hp rfl
  exact⟨keep p.1 p.2 ne nf nch e n,free p.1 p.2 nch e n,ne,nf,d⟩
theorem Inv.un {t':Nat}(I:Inv X pins σ H s)(u:Un X.fs [] H H' s.heap h')(hok:HOk X.prog X.w H' h'):Inv X pins σ H' { s with heap:=h',toks:=t' }:=by
 obtain⟨m,⟨o,es,ep,ho,r⟩,_⟩:=id I.loc
 obtain⟨sl,hL⟩:=u.any ho I.free (by simp)
 exact I.step (g':=s.gens) (d':=s.drawn) (ch:=[]) (fun _ z=>nomatch z) (fun b o _ hb _ e n=>u.keep b o e n hb (by simp)) (fun b o _ hb _ e n=>u.slot b o e n hb (by simp)) (fun b o _ e n=>u.free b o e n (by simp)) (fun b o _ e=>u.there b o e (by simp)) u.tups u.frzs u.tbls (fun m' hm=>by
  obtain⟨o',es',ep',ho',r'⟩:=hm
  rw[ho]at ho';cases ho'
  exact⟨_,es',ep',hL,r'⟩) hok I.bare
theorem Inv.call {g':Array GenState}{t':Nat}{d':Drawn}{ch:List Addr}(I:Inv X pins σ H s)(u:Un (frs X.stack) ch H H' s.heap h')(hok:HOk X.prog X.w H' h')(hg:AllBare g')
  (hch:∀ b∈ch,(b∈X.ex∨X.s₀.heap.objs.size≤b)∧b≠X.env.locals∧(∀ x c,X.env.cells.lookup x=some c→c≠b)∧∀ p∈X.pn++pins,p.1≠b) :
  Inv X pins σ H' { s with heap:=h',gens:=g',drawn:=d',toks:=t' }:=by
 obtain⟨m,⟨o,es,ep,ho,r⟩,_⟩:=id I.loc
 obtain⟨sl,hL⟩:=u.any ho I.free fun z=>(hch _ z).2.1 rfl
 exact I.step (ch:=ch) hch (fun b o hL hb hc e n=>u.keep b o e n (fun z=>(List.mem_cons.mp (I.stkSub b z)).elim hL hb) hc) (fun b o _ _ hc e n=>u.any e n hc) (fun b o hc e n=>u.free b o e n hc) (fun b o hc e=>u.there b o e hc) u.tups u.frzs u.tbls (fun m' hm=>by
  obtain⟨o',es',ep',ho',r'⟩:=hm
  rw[ho]at ho';cases ho'
  exact⟨_,es',ep',hL,r'⟩) hok hg
theorem Inv.turned {t':Nat}{it:Addr}(I:Inv X pins σ H s)(k:∀ b o,b≠it→s.heap.get? b=some o→h'.get? b=some o)(hn:H it=none)(hL:it≠X.env.locals)
  (h1:it∈X.ex∨X.s₀.heap.objs.size≤it) (h2:∀ x c,X.env.cells.lookup x=some c→c≠it) (h3:∀ p∈X.pn++pins,p.1≠it):Inv X pins σ H { s with heap:=h',toks:=t' }:=by
 have nit:∀ b u,H b=some u→b≠it:=fun b u e z=>by rw[z,hn]at e;cases e
 refine I.step (g':=s.gens) (d':=s.drawn) (ch:=[it]) (fun b hb=>?_) (fun b o _ _ hc e _=>k b o (fun z=>hc (by simp[z])) e) (fun b o _ _ hc e _=>⟨o.slots,k b o (fun z=>hc (by simp[z])) e⟩) (fun _ _ _ _ n=>n)
  (fun b o hc e=>⟨o,k b o (fun z=>hc (by simp[z])) e⟩) (fun _ _ e=>e) (fun _ _ _ e=>e) (fun b ps e=>⟨#[],by rw[e];simp⟩) (fun m hm=>?_) (fun b u e=>?_) I.bare
 ·have e:b=it:=by simpa using hb
  subst e
  exact⟨h1,hL,h2,h3⟩
 ·obtain⟨o,es,ep,ho,r⟩:=hm
  exact⟨o,es,ep,k _ o (Ne.symm hL) ho,r⟩
 ·refine(I.hok b u e).stay (fun c v hc q=>k c v ?_ q) (fun _ q=>q) fun _ _ q=>q
  rcases hc with z | z
  ·rw[z];exact nit b u e
  ·exact nit c _ z
theorem Inv.tok (I:Inv X pins σ H s)(t:Nat):Inv X pins σ H { s with toks:=t }:=I.un (h':=s.heap) (t':=t) Un.refl I.hok
theorem Inv.kept {t':Nat}(I:Inv X pins σ H s)(k:∀ b u,s.heap.get? b=some u→h'.get? b=some u):Inv X pins σ H { s with heap:=h',toks:=t' }:=I.un (Un.kept k) (I.hok.kept k)
theorem Inv.laid {a:Addr}{o:HO}{t':Nat}(I:Inv X pins σ H s)(k:∀ b u,s.heap.get? b=some u→h'.get? b=some u)(hp:s.heap.objs.size≤a)(new:ObjOk X.prog X.w (upd H a o) h' a o) :
  Inv X pins σ (upd H a o) { s with heap:=h',toks:=t' }:=I.un (Un.laid k hp (I.hok.fresh hp)) (I.hok.laid k hp new)
theorem Inv.write {x e:Addr}{o:HO}{t':Nat}(I:Inv X pins σ H s)(mu:Mut (H x))(he:e=x∨H e=some (.own x))(k:∀ b u,b≠e→s.heap.get? b=some u→h'.get? b=some u)(heo:∃ u,h'.get? e=some u)
  (new:ObjOk X.prog X.w (upd H x o) h' x o):Inv X pins σ (upd H x o) { s with heap:=h',toks:=t' }:=I.un (Un.write mu he k heo) (I.hok.write mu he k heo new)
theorem Inv.pins_of {pins':List (Addr×Obj)}(I:Inv X pins σ H s)(h:∀ p∈pins',s.heap.get? p.1=some p.2∧H p.1=none∧p.1≠X.env.locals∧p.1∉X.fs∧∀ v,p.2.data≠.cell v):Inv X pins' σ H s :=
 ⟨I.ok,I.os,I.bare,I.base,I.loc,I.cell,I.free,I.freeC,fun p hp=>(List.mem_append.mp hp).elim (fun z=>I.pin p (List.mem_append_left _ z)) (h p),I.hok,I.len⟩
theorem i6 {N:List Str}(hN:N.Nodup){i j:Nat}{x:Str}(a:N[i]?=some x)(b:N[j]?=some x):i=j:=by
 obtain⟨h1,e1⟩:=List.getElem?_eq_some_iff.mp a
 obtain⟨h2,e2⟩:=List.getElem?_eq_some_iff.mp b
 exact(List.getElem_inj hN).mp (e1.trans e2.symm)
theorem kM {M:Model}{A:Around}{E:Value→Shared→Prop}{i:Nat}{x:Str}{v:V}{u:Value}{Q:Unit→Shared→Prop}(I:Inv X pins σ H s)(hN:X.N.Nodup)(hi:X.N[i]?=some x)(hx:Loc X.env.scope x)(r:RelV v u)
  (h:∀ s',Inv X pins (σ.set i (some v)) H s'→(∃ a,Heap.SameBut a s.heap s'.heap∧(a=X.env.locals∨X.env.cells.lookup x=some a))→Q () s') (hf:X.fn x=true∨X.env.scope.names.lookup x=some .local:=by first | exact .inl rfl | exact .inr rfl | assumption):wpAny M A (storeName X.env x u) Q E s:=by
 obtain⟨m,hn,hl⟩:=id I.loc
 have hcls:(X.env.scope.kind==.class||(X.env.scope.kind==.module&&X.env.locals != X.env.globals))=false:=by rw[I.ok.kind];rfl
 have hiσ:i < σ.length:=by rw[I.len];exact(List.getElem?_eq_some_iff.mp hi).1
 have cne:=I.cne
 have tracked:∀ {a:Addr} {h':Heap},(∃ o,s.heap.get? a=some o∧H a=none)→Heap.SameBut a s.heap h'→HOk X.prog X.w H h':=fun {a h'} ha hs b ob e=>by
  obtain⟨_,_,hfree⟩:=ha
  refine(I.hok b ob e).stay (fun c w' hc q=>(hs.2 c ?_).trans q) (fun _ q=>q) fun _ _ q=>q
  rintro rfl
  rcases hc with rfl | hc
  ·rw[hfree]at e;cases e
  ·rw[hfree]at hc;cases hc
 rcases hx with hk | hk
 ·refine wpAny_storeName_local hk hn (fun h' hn' hs=>?_) hcls
  obtain⟨oL,_,_,hoL,_⟩:=id hn
  refine h _ ⟨I.ok,I.os,I.bare,⟨fun b o e n hb hx=>?_,fun b o e n hb hx=>?_,I.base.free,fun b o e hx=>?_,I.base.tups,I.base.frzs,I.base.tbls⟩,⟨_,hn',fun j y v' e1 e2 e3=>?_⟩,fun y c e=>?_,I.free,I.freeC,fun p hp=>?_,tracked ⟨oL,hoL,I.free⟩ hs,by simpa using I.len⟩ ⟨_,hs,.inl rfl⟩
  ·exact(hs.2 b (Nat.ne_of_lt (Nat.lt_of_lt_of_le (Heap.lt_size e) I.ok.above))).trans (I.base.keep b o e n hb hx)
  ·obtain⟨sl,e1⟩:=I.base.slot b o e n hb hx
   exact⟨sl,(hs.2 b (Nat.ne_of_lt (Nat.lt_of_lt_of_le (Heap.lt_size e) I.ok.above))).trans e1⟩
  ·obtain⟨o',e1⟩:=I.base.there b o e hx
   exact⟨o',(hs.2 b (Nat.ne_of_lt (Nat.lt_of_lt_of_le (Heap.lt_size e) I.ok.above))).trans e1⟩
  ·by_cases hj:j=i
   ·subst hj
    rw[hi]at e1;cases e1
    rw[List.getElem?_set_self hiσ]at e2
    cases e2
    exact⟨u,r,.inl ⟨hk,by simp⟩⟩
   ·rw[List.getElem?_set_ne (Ne.symm hj)]at e2
    obtain⟨u',r',q⟩:=hl j y v' e1 e2 e3
    refine⟨u',r',?_⟩
    rcases q with ⟨k,e⟩ | ⟨k,c,e,z⟩
    ·refine .inl ⟨k,?_⟩
     have:y≠x:=fun e=>hj (i6 hN e1 (e ▸ hi))
     simp[this,e]
    ·exact .inr ⟨k,c,e,z.sameBut hs (cne y c e)⟩
  ·obtain⟨w',z⟩:=I.cell y c e
   exact⟨w',z.sameBut hs (cne y c e)⟩
  ·obtain⟨e,n,ne,nf,d⟩:=I.pin p hp
   exact⟨(hs.2 p.1 ne).trans e,n,ne,nf,d⟩
 ·have hfn:X.fn x=true:=by
   rcases hf with z | z
   ·exact z
   ·rw[z]at hk;cases hk
  obtain⟨c,hc⟩:=I.ok.has x (.inl hk)
  obtain⟨w',z⟩:=I.cell x c hc
  refine wpAny_storeName_cell I.ok.kind hk hc z (fun h' hc' hs=>?_)
  obtain⟨oc,hoc,hocd⟩:=id z
  refine h { s with heap:=h' } ⟨I.ok,I.os,I.bare,⟨fun b o e n hb hx=>?_,fun b o e n hb hx=>?_,I.base.free,fun b o e hx=>?_,I.base.tups,I.base.frzs,I.base.tbls⟩,⟨m,hn.sameBut hs (Ne.symm (cne x c hc)),fun j y v' e1 e2 e3=>?_⟩,fun y c' e=>?_,I.free,I.freeC,fun p hp=>?_,tracked ⟨oc,hoc,I.freeC x c hc⟩ hs,by simpa using I.len⟩ ⟨c,hs,.inr hc⟩
  ·exact(hs.2 b (Nat.ne_of_lt (Nat.lt_of_lt_of_le (Heap.lt_size e) (I.ok.cab x c hfn hc)))).trans (I.base.keep b o e n hb hx)
  ·obtain⟨sl,e1⟩:=I.base.slot b o e n hb hx
   exact⟨sl,(hs.2 b (Nat.ne_of_lt (Nat.lt_of_lt_of_le (Heap.lt_size e) (I.ok.cab x c hfn hc)))).trans e1⟩
  ·obtain⟨o',e1⟩:=I.base.there b o e hx
   exact⟨o',(hs.2 b (Nat.ne_of_lt (Nat.lt_of_lt_of_le (Heap.lt_size e) (I.ok.cab x c hfn hc)))).trans e1⟩
  ·by_cases hj:j=i
   ·subst hj
    rw[hi]at e1;cases e1
    rw[List.getElem?_set_self hiσ]at e2
    cases e2
    exact⟨u,r,.inr ⟨.inl hk,c,hc,hc'⟩⟩
   ·rw[List.getElem?_set_ne (Ne.symm hj)]at e2
    obtain⟨u',r',q⟩:=hl j y v' e1 e2 e3
    refine⟨u',r',?_⟩
    rcases q with q | ⟨k,c',e,z'⟩
    ·exact .inl q
    ·refine .inr ⟨k,c',e,z'.sameBut hs ?_⟩
     rintro rfl
     exact hj (i6 hN e1 (I.ok.inj _ _ _ e hc ▸ hi))
  ·by_cases hcc:c'=c
   ·subst hcc;exact⟨_,hc'⟩
   ·obtain⟨w2,z2⟩:=I.cell y c' e
    exact⟨w2,z2.sameBut hs hcc⟩
  ·obtain⟨e,n,ne,nf,d⟩:=I.pin p hp
   refine⟨(hs.2 p.1 ?_).trans e,n,ne,nf,d⟩
   intro q
   rw[q,hoc]at e
   have q':oc=p.2:=Option.some.inj e
   exact d w' (by rw[← q'];exact hocd)
theorem fI {M:Model}{A:Around}{E:Value→Shared→Prop}{i:Nat}{x:Str}{v:V}{u:Value}{Q:Unit→Shared→Prop}(I:Inv X pins σ H s)(hN:X.N.Nodup)(hi:X.N[i]?=some x)(hx:Loc X.env.scope x)(r:RelV v u)
  (h:∀ s',Inv X pins (σ.set i (some v)) H s'→Q () s') (hf:X.fn x=true∨X.env.scope.names.lookup x=some .local:=by first | exact .inl rfl | exact .inr rfl | assumption):wpAny M A (storeName X.env x u) Q E s :=
 kM I hN hi hx r (fun s' I' _=>h s' I') hf
theorem Inv.call' {s':Shared}{ch:List Addr}(I:Inv X pins σ H s)(ho:s'.os=s.os)(u:Un (frs X.stack) ch H H' s.heap s'.heap)(hok:HOk X.prog X.w H' s'.heap)(hg:AllBare s'.gens)
  (hch:∀ b∈ch,(b∈X.ex∨X.s₀.heap.objs.size≤b)∧b≠X.env.locals∧(∀ x c,X.env.cells.lookup x=some c→c≠b)∧∀ p∈X.pn++pins,p.1≠b):Inv X pins σ H' s':=by
 obtain⟨h',g',d',t',o'⟩:=s'
 have e:o'=s.os:=ho
 subst e
 exact I.call (g':=g') (t':=t') (d':=d') u hok hg hch
end
abbrev XK:=Value→Option Addr→Hp→Prop
abbrev St:=List (Option V)
abbrev VK:=V→Hp→Prop
abbrev TE:=St→Hp→VK→Prop
abbrev TT:=St→Hp→(Bool→Hp→Prop)→Prop
abbrev TA:=St→Hp→(List V→Hp→Prop)→Prop
structure Ends where
 nx:St→Hp→Prop
 rt:VK
 bk:St→Hp→Prop:=fun _ _=>False
 ct:St→Hp→Prop:=fun _ _=>False
abbrev TS:=Ends→St→Hp→Prop
def EP (X:Cx)(pins:List (Addr×Obj))(σ:St)(Q:VK)(u:Value)(s':Shared):Prop:=∃ v H',Inv X pins σ H' s'∧RelV v u∧Q v H'
def TP (X:Cx)(pins:List (Addr×Obj))(σ:St)(Q:Bool→Hp→Prop)(b:Bool)(s':Shared):Prop:=∃ H',Inv X pins σ H' s'∧Q b H'
def AP (X:Cx)(pins:List (Addr×Obj))(σ:St)(Q:List V→Hp→Prop)(us:List Value)(s':Shared):Prop:=∃ vs H',Inv X pins σ H' s'∧Vals vs us∧Q vs H'
def SP (X:Cx)(pins:List (Addr×Obj))(D:Ends)(f:Flow)(s':Shared):Prop :=
 match f with
 | .next=>∃ σ' H',Inv X pins σ' H' s'∧D.nx σ' H'
 | .brk=>∃ σ' H',Inv X pins σ' H' s'∧D.bk σ' H'
 | .cont=>∃ σ' H',Inv X pins σ' H' s'∧D.ct σ' H'
 | .ret u=>∃ v σ' H',Inv X pins σ' H' s'∧RelV v u∧D.rt v H'
def PE (X:Cx)(e:Expr)(t:TE):Prop :=
 ∀ (pins:List (Addr×Obj)) (s:Shared) (σ:St) (H:Hp) (Q:VK),Inv X pins σ H s→t σ H Q→wpAny (model X.prog X.w) X.A (eval e X.env) (EP X pins σ Q) X.xe s
def PT (X:Cx)(e:Expr)(t:TT):Prop :=
 ∀ (pins:List (Addr×Obj)) (s:Shared) (σ:St) (H:Hp) (Q:Bool→Hp→Prop),Inv X pins σ H s→t σ H Q→wpAny (model X.prog X.w) X.A (isTrue e X.env (eval e X.env)) (TP X pins σ Q) X.xe s
def PW (X:Cx)(e:Expr)(t:TT):Prop :=
 ∀ (whole:Sem Value) (pins:List (Addr×Obj)) (s:Shared) (σ:St) (H:Hp) (Q:Bool→Hp→Prop),Inv X pins σ H s→t σ H Q→wpAny (model X.prog X.w) X.A (isTrue e X.env whole) (TP X pins σ Q) X.xe s
theorem PW.pt {X:Cx}{e:Expr}{t:TT}(h:PW X e t):PT X e t:=h _
def PA (X:Cx)(es:List Expr)(t:TA):Prop :=
 ∀ (pos:Pos) (pins:List (Addr×Obj)) (s:Shared) (σ:St) (H:Hp) (Q:List V→Hp→Prop),Inv X pins σ H s→t σ H Q→wpAny (model X.prog X.w) X.A (spliced (backTo pos (starEach es X.env))) (AP X pins σ Q) X.xe s
def PS (X:Cx)(st:Stmt)(t:TS):Prop :=
 ∀ (pins:List (Addr×Obj)) (s:Shared) (σ:St) (H:Hp) (D:Ends),Inv X pins σ H s→t D σ H→wpAny (model X.prog X.w) X.A (exec st X.env) (SP X pins D) X.xe s
def PSs (X:Cx)(st:List Stmt)(t:TS):Prop :=
 ∀ (pins:List (Addr×Obj)) (s:Shared) (σ:St) (H:Hp) (D:Ends),Inv X pins σ H s→t D σ H→wpAny (model X.prog X.w) X.A (execs st X.env) (SP X pins D) X.xe s
theorem thn {α:Type}{t:Sem α}{Q Q':α→Shared→Prop}{M:Model}{A:Around}{E:Value→Shared→Prop}{s:Shared}(h:wpAny M A t Q E s)(hQ:∀ a s,Q a s→Q' a s):wpAny M A t Q' E s:=wpAny_mono h hQ fun _ _ x=>x
end L2
namespace L2
open PySem PySem.Spec PyProof.Rows
section
variable {X:Cx}
theorem bin {a b:Expr}{ta tb:TE}(ha:PE X a ta)(hb:PE X b tb){pins:List (Addr×Obj)}{s:Shared}{σ:St}{H:Hp}{R:V→V→Hp→Prop}(I:Inv X pins σ H s)(h:ta σ H fun x H1=>tb σ H1 fun y H2=>R x y H2)
  {α:Type} {Q:α→Shared→Prop} {f:Value→Value→Sem α}
  (hf:∀ v u s2 x y H2,Inv X pins σ H2 s2→RelV x v→RelV y u→R x y H2→wpAny (model X.prog X.w) X.A (f v u) Q X.xe s2) :
  wpAny (model X.prog X.w) X.A (eval a X.env) (fun v s₁=>wpAny (model X.prog X.w) X.A (eval b X.env) (fun u s₂=>wpAny (model X.prog X.w) X.A (f v u) Q X.xe s₂) X.xe s₁) X.xe s:=by
 refine thn (ha pins s σ H _ I h) fun v s1 ⟨x,H1,I1,r1,q1⟩=>?_
 refine thn (hb pins s1 σ H1 _ I1 q1) fun u s2 ⟨y,H2,I2,r2,q2⟩=>?_
 exact hf v u s2 x y H2 I2 r1 r2 q2
def tVar (i:Nat):TE:=fun σ H Q=>∃ v,σ[i]?=some (some v)∧Q v H
def tC (v:V):TE:=fun _ H Q=>Q v H
theorem fg {i:Nat}{x:Str}{pos:Pos}(hN:X.N[i]?=some x)(hv:Vis X.env.scope x)(hd:(x==("__debug__":Str))=false:=by decide)(hcd:(x==("__classdict__":Str))=false:=by decide):PE X (.Name x pos) (tVar i):=by
 intro pins s σ H Q I h
 obtain⟨v,e,h⟩:=h
 obtain⟨m,hn,hl⟩:=I.loc
 obtain⟨u,r,l⟩:=hl i x v hN e hv
 have fin:EP X pins σ Q u s:=⟨v,H,I,r,h⟩
 rcases l with ⟨hk,hm⟩ | ⟨hk,c,hc,hcell⟩
 ·exact wpAny_Name (wpAny_loadName_local I.ok.kind hk hn hm fin) hd
 ·rcases hk with hk | hk
  ·exact wpAny_Name (wpAny_loadName_cell I.ok.kind hk hc hcell fin) hd
  ·exact wpAny_Name (wpAny_loadName_free I.ok.kind hk hc hcell fin hcd) hd
theorem xJ {i j pos}:PE X (.Constant (.int i) j pos) (tC (.int i)):=fun _ _ _ H _ I h=>wpAny_Constant_int ⟨.int i,H,I.tok _,⟨_,rfl⟩,h⟩
theorem yU {b j pos}:PE X (.Constant (.bool b) j pos) (tC (.bl b)):=fun _ _ _ H _ I h=>Constant_bool ⟨.bl b,H,I,rfl,h⟩
theorem xK {j pos}:PE X (.Constant .none j pos) (tC .non):=fun _ _ _ H _ I h=>Constant_none ⟨.non,H,I,rfl,h⟩
theorem xL {x j pos}:PE X (.Constant (.str x) j pos) (tC (.str x)):=fun _ _ _ H _ I h=>Calls.Constant_str ⟨.str x,H,I.tok _,⟨_,rfl⟩,h⟩
def Gl (X:Cx)(x:Str):Prop:=X.env.kindOf x=some .globalImplicit
theorem iQ {E:Value→Shared→Prop}{pins:List (Addr×Obj)}{s:Shared}{σ:St}{H:Hp}{x:Str}{u:Value}{pos:Pos}{Q:Value→Shared→Prop}(I:Inv X pins σ H s)(hg:Gl X x)(hm:X.mg x=some u)(h:Q u s)
  (hd:(x==("__debug__":Str))=false:=by decide):wpAny (model X.prog X.w) X.A (eval (.Name x pos) X.env) Q E s :=
 Calls.Name_function_global I.ok.kind hg (Calls.loadGlobal_global (by rw[I.ok.glob];exact I.mod.glob.keeps I.bk) hm h) hd
theorem fh {E:Value→Shared→Prop}{pins:List (Addr×Obj)}{s:Shared}{σ:St}{H:Hp}{x:Str}{u:Value}{pos:Pos}{Q:Value→Shared→Prop}(I:Inv X pins σ H s)(hg:Gl X x)(hm:X.mg x=none)(hv:bootBuiltins x=some u)(h:Q u s)
  (hn:x ≠ "__name__" := by decide) (hd:(x==("__debug__":Str))=false:=by decide):wpAny (model X.prog X.w) X.A (eval (.Name x pos) X.env) Q E s:=by
 obtain⟨mb,h1,h2⟩:=I.mod.blt
 exact Calls.Name_function_global I.ok.kind hg (Calls.loadGlobal_builtin (by rw[I.ok.glob];exact I.mod.glob.keeps I.bk) hm (by rw[I.ok.blt];exact h1.keeps I.bk) ((h2 x hn).trans hv) h) hd
theorem aX {x:Str}{v:V}{u:Value}{pos:Pos}(hg:Gl X x)(hm:X.mg x=some u)(r:RelV v u)(hd:(x==("__debug__":Str))=false:=by decide):PE X (.Name x pos) (tC v) :=
 fun _ _ _ H _ I h=>iQ I hg hm ⟨v,H,I,r,h⟩ hd
theorem aK {x:Str}{v:V}{u:Value}{pos:Pos}(hg:Gl X x)(hm:X.mg x=none)(hv:bootBuiltins x=some u)(r:RelV v u)(hn:x ≠ "__name__" := by decide)(hd:(x==("__debug__":Str))=false:=by decide):PE X (.Name x pos) (tC v) :=
 fun _ _ _ H _ I h=>fh I hg hm hv ⟨v,H,I,r,h⟩ hn hd
variable {a b:Expr}{ta tb:TE}{pos:Pos}
def PC (X:Cx)(op:CmpOp)(a b:Expr)(t:TE):Prop :=
 ∀ (pins:List (Addr×Obj)) (s:Shared) (σ:St) (H:Hp) (Q:VK),Inv X pins σ H s→t σ H Q →
  wpAny (model X.prog X.w) X.A (eval a X.env) (fun v s₁=>wpAny (model X.prog X.w) X.A (eval b X.env) (fun u s₂=>wpAny (model X.prog X.w) X.A (compareOp op v u) (EP X pins σ Q) X.xe s₂) X.xe s₁) X.xe s
theorem nobehind (b:Expr){op:CmpOp}(h:op≠.In)(h2:op≠.NotIn):behindInMarks op b=false:=by
 have e1:(op==CmpOp.In)=false:=by cases op<;>first | rfl | exact absurd rfl h
 have e2:(op==CmpOp.NotIn)=false:=by cases op<;>first | rfl | exact absurd rfl h2
 cases b<;>simp[behindInMarks,e1,e2]
def tB (t:TE):TT:=fun σ H Q=>t σ H fun x H1=>∃ c,x=.bl c∧Q c H1
theorem zr {op:CmpOp}{t:TE}(h:PC X op a b t)(h1:behindInMarks op b=false:=by first | exact nobehind _ (by decide) (by decide) | rfl):PT X (.Compare a [op] [b] pos) (tB t):=by
 intro pins s σ H Q I hw
 refine wpAny_isTrue_Compare1 (thn (h pins s σ H _ I hw) fun v s1 h1=>thn h1 fun u s2 h2=>thn h2 fun c s3 ⟨x,H1,I1,r1,q1⟩=>?_) h1
 obtain⟨d,rfl,q⟩:=q1
 cases r1
 exact wpAny_truthy_bool ⟨H1,I1,q⟩
theorem xM {e:Expr}{t:TE}(h:PE X e t)(he:∀ whole,isTrue e X.env whole=(do let v ← whole;standAt e.pos;holding [v] (truthy v)):=by intro _;rfl):PT X e (tB t):=by
 intro pins s σ H Q I hw
 refine isTrue_plain (thn (h pins s σ H _ I hw) fun v s1 ⟨x,H1,I1,r1,q1⟩=>?_) (he _)
 obtain⟨d,rfl,q⟩:=q1
 cases r1
 exact wpAny_truthy_bool ⟨H1,I1,q⟩
variable {tA tB':TT}{rest:List Expr}
def tAnd (t u:TT):TT:=fun σ H Q=>t σ H fun c H1=>if c=true then u σ H1 Q else Q false H1
def tOr (t u:TT):TT:=fun σ H Q=>t σ H fun c H1=>if c=true then Q true H1 else u σ H1 Q
def tNot (t:TT):TT:=fun σ H Q=>t σ H fun c H1=>Q (!c) H1
theorem vF (ha:PT X a tA):PW X (.BoolOp .And [a] pos) tA:=by
 intro wh pins s σ H Q I h
 refine isTrue_and (thn (ha pins s σ H Q I h) fun c s1 e=>?_)
 cases c with
 | true=>exact isTrue_and_nil e
 | false=>exact e
theorem xN (ha:PT X a tA):PW X (.BoolOp .Or [a] pos) tA:=by
 intro wh pins s σ H Q I h
 refine isTrue_or (thn (ha pins s σ H Q I h) fun c s1 e=>?_)
 cases c with
 | false=>exact isTrue_or_nil e
 | true=>exact e
theorem xO (ha:PT X a tA)(hb:PW X (.BoolOp .And (b::rest) pos) tB'):PW X (.BoolOp .And (a::b::rest) pos) (tAnd tA tB'):=by
 intro wh pins s σ H Q I h
 refine isTrue_and (thn (ha pins s σ H _ I h) fun c s1 ⟨H1,I1,q1⟩=>?_)
 cases c with
 | true=>exact hb wh pins s1 σ H1 Q I1 q1
 | false=>exact⟨H1,I1,q1⟩
theorem yV (ha:PT X a tA)(hb:PW X (.BoolOp .Or (b::rest) pos) tB'):PW X (.BoolOp .Or (a::b::rest) pos) (tOr tA tB'):=by
 intro wh pins s σ H Q I h
 refine isTrue_or (thn (ha pins s σ H _ I h) fun c s1 ⟨H1,I1,q1⟩=>?_)
 cases c with
 | true=>exact⟨H1,I1,q1⟩
 | false=>exact hb wh pins s1 σ H1 Q I1 q1
theorem xP (ha:PT X a tA):PT X (.UnaryOp .Not a pos) (tNot tA):=by
 intro pins s σ H Q I h
 exact isTrue_not (ha pins s σ H (fun c H1=>Q (!c) H1) I h)
def tAndV (ta tb:TE):TE:=fun σ H Q=>ta σ H fun x H1=>∃ c,x=.bl c∧if c=true then tb σ H1 Q else Q (.bl false) H1
def tOrV (ta tb:TE):TE:=fun σ H Q=>ta σ H fun x H1=>∃ c,x=.bl c∧if c=true then Q (.bl true) H1 else tb σ H1 Q
def tNotV (ta:TE):TE:=fun σ H Q=>ta σ H fun x H1=>∃ c,x=.bl c∧Q (.bl (!c)) H1
theorem xQ {op}{t:TE}(h:PE X a t):PE X (.BoolOp op [a] pos) t:=fun pins s σ H Q I hw=>BoolOp_one (h pins s σ H Q I hw)
theorem xR (ha:PE X a ta)(hb:PE X (.BoolOp .And (b::rest) pos) tb):PE X (.BoolOp .And (a::b::rest) pos) (tAndV ta tb):=by
 intro pins s σ H Q I h
 refine BoolOp_and (thn (ha pins s σ H _ I h) fun v s1 ⟨x,H1,I1,r1,q1⟩=>?_)
 obtain⟨c,rfl,q1⟩:=q1
 cases r1
 refine wpAny_truthy_bool ?_
 cases c with
 | true=>exact hb pins s1 σ H1 Q I1 q1
 | false=>exact⟨.bl false,H1,I1,rfl,q1⟩
theorem yW (ha:PE X a ta)(hb:PE X (.BoolOp .Or (b::rest) pos) tb):PE X (.BoolOp .Or (a::b::rest) pos) (tOrV ta tb):=by
 intro pins s σ H Q I h
 refine BoolOp_or (thn (ha pins s σ H _ I h) fun v s1 ⟨x,H1,I1,r1,q1⟩=>?_)
 obtain⟨c,rfl,q1⟩:=q1
 cases r1
 refine wpAny_truthy_bool ?_
 cases c with
 | false=>exact hb pins s1 σ H1 Q I1 q1
 | true=>exact⟨.bl true,H1,I1,rfl,q1⟩
theorem xS (ha:PE X a ta):PE X (.UnaryOp .Not a pos) (tNotV ta):=by
 intro pins s σ H Q I h
 refine UnaryOp_ (thn (ha pins s σ H _ I h) fun v s1 ⟨x,H1,I1,r1,q1⟩=>?_)
 obtain⟨c,rfl,q1⟩:=q1
 cases r1
 exact not_of (wpAny_truthy_bool ⟨.bl (!c),H1,I1,rfl,q1⟩)
def tIf (t:TT)(ta tb:TE):TE:=fun σ H Q=>t σ H fun c H1=>if c=true then ta σ H1 Q else tb σ H1 Q
theorem tm {c:Expr}(hc:PT X c tA)(ha:PE X a ta)(hb:PE X b tb):PE X (.IfExp c a b pos) (tIf tA ta tb):=by
 intro pins s σ H Q I h
 refine wpAny_IfExp (thn (hc pins s σ H _ I h) fun d s1 ⟨H1,I1,q1⟩=>?_)
 cases d with
 | true=>exact ha pins s1 σ H1 Q I1 q1
 | false=>exact hb pins s1 σ H1 Q I1 q1
end
end L2
namespace L2
open PySem PySem.Spec PyProof.Rows
def SqL (K:PySem.W.Frag)(H:Hp)(a:Addr)(xs:List V):Prop :=
 Rd H a (.lst xs) ∨
  ∃ (o:Obj) (its:Array Value) (n:Nat),K.lookup a=some o∧o.cls=.type "list" ∧ o.dict=none∧o.data=.seq its n∧its.size≤sizeLine∧Vals xs its.toList
def SqT (K:PySem.W.Frag)(H:Hp)(a:Addr)(xs:List V):Prop :=
 Rd H a (.tup xs) ∨
  ∃ (o:Obj) (its:Array Value) (n:Nat),K.lookup a=some o∧o.cls=.type "tuple" ∧ o.dict=none∧o.data=.seq its n∧its.size≤sizeLine∧Vals xs its.toList
def absV:Value→Option V
 | .none=>some .non
 | .bool b=>some (.bl b)
 | .int i _=>some (.int i)
 | .str x _=>some (.str x)
 | .bytes b _=>some (.byt b)
 | .float b _=>some (.flt b)
 | .ref a=>some (.ref a)
 | .type n=>some (.ty n)
 | _=>none
theorem RelV.abs {x:V}{u:Value}(r:RelV x u):absV u=some x:=by
 cases x with
 | non=>cases r;rfl
 | bl _=>cases r;rfl
 | int _=>obtain⟨t,rfl⟩:=r;rfl
 | str _=>obtain⟨t,rfl⟩:=r;rfl
 | byt _=>obtain⟨t,rfl⟩:=r;rfl
 | flt _=>obtain⟨t,rfl⟩:=r;rfl
 | ref _=>cases r;rfl
 | ty _=>cases r;rfl
theorem RelV.inj {x y:V}{u:Value}(r:RelV x u)(q:RelV y u):x=y:=Option.some.inj (r.abs.symm.trans q.abs)
theorem Vals.inj:∀ {xs ys:List V} {us:List Value},Vals xs us→Vals ys us→xs=ys
 | _,_,_,.nil,.nil=>rfl
 | _,_,_,.cons r t,.cons r' t'=>by rw[r.inj r',Vals.inj t t']
section
variable {X:Cx}{pins:List (Addr×Obj)}{σ:St}{H:Hp}{s:Shared}{a:Addr}{xs ys:List V}
theorem SqL.of {K:PySem.W.Frag}(h:H a=some (.lst xs)):SqL K H a xs:=.inl (.inl h)
theorem SqT.of {K:PySem.W.Frag}(h:H a=some (.tup xs)):SqT K H a xs:=.inl (.inl h)
theorem Inv.list (I:Inv X pins σ H s)(h:SqL X.K H a xs):∃ its:List Value,Vals xs its∧PlainL s.heap a its.toArray∧xs.length≤sizeLine:=by
 rcases h with h | ⟨o,its,n,hk,hc,hd,hs,hz,r⟩
 ·obtain⟨z,its,n,r,e⟩:=h.ok I.hok
  exact⟨its,r,⟨_,n,e,rfl,rfl,rfl⟩,z⟩
 ·refine⟨its.toList,r,⟨o,n,I.kIn a o hk,hc,hd,by simpa using hs⟩,?_⟩
  have e:=r.length
  simp only[Array.length_toList]at e
  omega
theorem Inv.tuple (I:Inv X pins σ H s)(h:SqT X.K H a xs):∃ its:List Value,Vals xs its∧IsTup s.heap a its.toArray∧xs.length≤sizeLine:=by
 rcases h with h | ⟨o,its,n,hk,hc,_,hs,hz,r⟩
 ·obtain⟨z,its,r,p⟩:=h.ok I.hok
  exact⟨its,r,p.is,z⟩
 ·refine⟨its.toList,r,⟨o,I.kIn a o hk,hc,n,by simpa using hs⟩,?_⟩
  have e:=r.length
  simp only[Array.length_toList]at e
  omega
theorem Inv.tupleO (I:Inv X pins σ H s)(h:SqT X.K H a xs):∃ o,s.heap.get? a=some o∧o.dict=none:=by
 rcases h with h | ⟨o,its,n,hk,hc,hd,hs,hz,r⟩
 ·obtain⟨z,its,r,o,e,_,d,_⟩:=h.ok I.hok
  exact⟨o,e,d⟩
 ·exact⟨o,I.kIn a o hk,hd⟩
theorem Inv.list_inj (I:Inv X pins σ H s)(h:SqL X.K H a xs)(h':SqL X.K H a ys):xs=ys:=by
 obtain⟨its,r,⟨o,n,e,_,_,d⟩,_⟩:=I.list h
 obtain⟨its',r',⟨o',n',e',_,_,d'⟩,_⟩:=I.list h'
 rw[e]at e';cases e'
 rw[d]at d'
 injection d' with d1 _
 have:its=its':=by simpa using congrArg Array.toList d1
 subst this
 exact r.inj r'
theorem Inv.tuple_inj (I:Inv X pins σ H s)(h:SqT X.K H a xs)(h':SqT X.K H a ys):xs=ys:=by
 obtain⟨its,r,⟨o,e,_,n,d⟩,_⟩:=I.tuple h
 obtain⟨its',r',⟨o',e',_,n',d'⟩,_⟩:=I.tuple h'
 rw[e]at e';cases e'
 rw[d]at d'
 injection d' with d1 _
 have:its=its':=by simpa using congrArg Array.toList d1
 subst this
 exact r.inj r'
end
section
variable {X:Cx}{pins:List (Addr×Obj)}{σ:St}{H:Hp}{s:Shared}{E:Value→Shared→Prop}
end
section
variable {X:Cx}{st:Stmt}{rest:List Stmt}{t u:TS}{e:Expr}{te:TE}{pos:Pos}
def tNext:TS:=fun D σ H=>D.nx σ H
def tSeq (t u:TS):TS:=fun D σ H=>t { D with nx:=u D } σ H
theorem vG:PSs X [] tNext:=fun _ _ σ H _ I h=>wpAny_execs_nil ⟨σ,H,I,h⟩
theorem cM (h1:PS X st t)(h2:PSs X rest u):PSs X (st::rest) (tSeq t u):=by
 intro pins s σ H D I h
 refine wpAny_execs_cons (thn (h1 pins s σ H { D with nx:=u D } I h) fun f s1 q=>?_)
 cases f with
 | next =>
  obtain⟨σ',H',I',q⟩:=q
  exact h2 pins s1 σ' H' D I' q
 | ret v=>exact q
 | brk=>exact q
 | cont=>exact q
theorem pR (h1:PS X st t):PSs X [st] t:=by
 intro pins s σ H D I h
 refine wpAny_execs_cons (thn (h1 pins s σ H D I h) fun f s1 q=>?_)
 cases f with
 | next=>exact wpAny_execs_nil q
 | ret v=>exact q
 | brk=>exact q
 | cont=>exact q
theorem Inv.quiet {pins:List (Addr×Obj)}{σ:St}{H:Hp}{s:Shared}(I:Inv X pins σ H s):interactive X.env=false:=by simp[interactive,I.ok.kind]
def tDrop (te:TE):TS:=fun D σ H=>te σ H fun _ H1=>D.nx σ H1
theorem lE (he:PE X e te)(hs:swapsWith e none pos.line X.env=pure false:=by rfl):PS X (.Expr e pos) (tDrop te):=by
 intro pins s σ H D I h
 exact wpAny_Expr_any (thn (he pins s σ H _ I h) fun v s1 ⟨x,H1,I1,r1,q1⟩=>⟨σ,H1,I1,q1⟩) I.quiet hs
def tRet (te:TE):TS:=fun D σ H=>te σ H D.rt
theorem xT (he:PE X e te):PS X (.Return (some e) pos) (tRet te):=by
 intro pins s σ H D I h
 exact wpAny_Return_some (thn (he pins s σ H _ I h) fun v s1 ⟨x,H1,I1,r1,q1⟩=>⟨x,σ,H1,I1,r1,q1⟩)
def tIfS (c:TT)(t u:TS):TS:=fun D σ H=>c σ H fun b H1=>if b=true then t D σ H1 else u D σ H1
theorem yX {c:Expr}{a b:List Stmt}{tc:TT}(hc:PT X c tc)(ha:PSs X a t)(hb:PSs X b u):PS X (.If c a b pos) (tIfS tc t u):=by
 intro pins s σ H D I h
 refine wpAny_If (thn (hc pins s σ H _ I h) fun d s1 ⟨H1,I1,q1⟩=>?_)
 cases d with
 | true=>exact ha pins s1 σ H1 D I1 q1
 | false=>exact hb pins s1 σ H1 D I1 q1
def tNever:TS:=fun _ _ _=>False
theorem kN {sts:List Stmt}:PSs X sts tNever:=fun _ _ _ _ _ _ h=>h.elim
end
abbrev TG:=V→St→Hp→(St→Hp→Prop)→Prop
abbrev TGs:=List V→St→Hp→(St→Hp→Prop)→Prop
def PG (X:Cx)(target:Expr)(t:TG):Prop :=
 ∀ (pins:List (Addr×Obj)) (s:Shared) (σ:St) (H:Hp) (v:V) (u:Value) (Q:St→Hp→Prop),Inv X pins σ H s→RelV v u→t v σ H Q →
  wpAny (model X.prog X.w) X.A (assign target X.env u) (fun _ s'=>∃ σ' H',Inv X pins σ' H' s'∧Q σ' H') X.xe s
def PGs (X:Cx)(ts:List Expr)(t:TGs):Prop :=
 ∀ (pins:List (Addr×Obj)) (s:Shared) (σ:St) (H:Hp) (vs:List V) (us:List Value) (Q:St→Hp→Prop),Inv X pins σ H s→Vals vs us→t vs σ H Q →
  wpAny (model X.prog X.w) X.A (assignInOrder ((assignEach ts X.env).map (·.2)) us) (fun _ s'=>∃ σ' H',Inv X pins σ' H' s'∧Q σ' H') X.xe s
abbrev TSet:=V→V→V→Hp→(Hp→Prop)→Prop
def PSet (X:Cx)(t:TSet):Prop :=
 ∀ (pins:List (Addr×Obj)) (s:Shared) (σ:St) (H:Hp) (o i v:V) (ov iv u:Value) (Q:Hp→Prop),Inv X pins σ H s→RelV o ov→RelV i iv→RelV v u→t o i v H Q →
  wpAny (model X.prog X.w) X.A (setItem ov iv u) (fun _ s'=>∃ H',Inv X pins σ H' s'∧Q H') X.xe s
section
variable {X:Cx}{pos:Pos}
def gName (i:Nat):TG:=fun v σ H Q=>Q (σ.set i (some v)) H
theorem iR {i:Nat}{x:Str}(hN:X.N.Nodup)(hi:X.N[i]?=some x)(hx:Loc X.env.scope x)(hf:X.fn x=true∨X.env.scope.names.lookup x=some .local:=by first | exact .inl rfl | exact .inr rfl | assumption):PG X (.Name x pos) (gName i):=by
 intro pins s σ H v u Q I r h
 exact wpAny_assign_Name (fI I hN hi hx r (fun s' I'=>⟨_,H,I',h⟩) hf)
def gNil:TGs:=fun vs σ H Q=>vs=[]∧Q σ H
def gCons (t:TG)(u:TGs):TGs:=fun vs σ H Q=>∃ v r,vs=v::r∧t v σ H fun σ' H'=>u r σ' H' Q
theorem vH:PGs X [] gNil:=by
 intro pins s σ H vs us Q I r h
 obtain⟨e,h⟩:=h
 subst e
 cases r
 exact assignInOrder_nil ⟨σ,H,I,h⟩
theorem mR {e:Expr}{es:List Expr}{t:TG}{u:TGs}(h1:PG X e t)(h2:PGs X es u)
  (hs:(assignEach (e::es) X.env).map (·.2)=assign e X.env::(assignEach es X.env).map (·.2):=by rfl):PGs X (e::es) (gCons t u):=by
 intro pins s σ H vs us Q I r h
 obtain⟨v,vr,e1,h⟩:=h
 subst e1
 cases r with
 | cons r rr =>
  rw[hs]
  refine assignInOrder_cons (thn (h1 pins s σ H _ _ _ I r h) fun _ s1 ⟨σ1,H1,I1,q1⟩=>?_)
  exact h2 pins s1 σ1 H1 _ _ Q I1 rr q1
def gTup (K:PySem.W.Frag)(n:Nat)(t:TGs):TG:=fun v σ H Q=>∃ a xs,v=.ref a∧SqT K H a xs∧xs.length=n∧t xs σ H Q
theorem xU {es:List Expr}{k:Nat}{t:TGs}{n:Nat}(hc:X.calm=true)(h:PGs X es t)
  (hn:(assignEach es X.env).length=n:=by rfl) (hst:(assignEach es X.env).findIdx? (·.1)=none:=by rfl):PG X (.Tuple es k pos) (gTup X.K n t):=by
 intro pins s σ H v u Q I r hw
 obtain⟨a,xs,e1,hq,hl,hw⟩:=hw
 subst e1
 cases r
 obtain⟨its,rv,ht,hz⟩:=I.tuple hq
 refine assign_Tuple_tuple (I.ok.hd hc) ht (by simp[hn,← hl,rv.length]) hst fun h' hx=>?_
 have I1:Inv X pins σ H { s with heap:=h' }:=I.kept (t':=s.toks) fun b o e=>hx b o (Nat.ne_of_lt (Heap.lt_size e)) e
 exact h pins _ σ H xs _ Q I1 (by simpa using rv) hw
def gSub (to ti:TE)(t:TSet):TG:=fun v σ H Q=>to σ H fun o H1=>ti σ H1 fun i H2=>t o i v H2 fun H3=>Q σ H3
theorem xV {o i:Expr}{to ti:TE}{t:TSet}(ho:PE X o to)(hi:PE X i ti)(hs:PSet X t)
  (ha:∀ v,assign (.Subscript o i pos) X.env v=(do
   let ov ← holding [v] (eval o X.env)
   let iv ← holding [v,ov] (eval i X.env)
   standAt pos
   holding [v,ov,iv] (setItem ov iv v)
   release [v,ov,iv] []):=by intro _;rfl):PG X (.Subscript o i pos) (gSub to ti t):=by
 intro pins s σ H v u Q I r h
 rw[ha]
 refine wpAny_bind (wpAny_holding (thn (ho pins s σ H _ I h) fun ov s1 ⟨x,H1,I1,r1,q1⟩=>?_))
 refine wpAny_bind (wpAny_holding (thn (hi pins s1 σ H1 _ I1 q1) fun iv s2 ⟨y,H2,I2,r2,q2⟩=>?_))
 refine wpAny_bind (wpAny_standAt (wpAny_bind (wpAny_holding (thn (hs pins s2 σ H2 x y v ov iv u _ I2 r1 r2 r q2) fun _ s3 ⟨H3,I3,q3⟩=>?_))))
 exact wpAny_release ⟨σ,H3,I3,q3⟩
def tAsg (te:TE)(g:TG):TS:=fun D σ H=>te σ H fun x H1=>g x σ H1 D.nx
theorem xW {tg e:Expr}{te:TE}{g:TG}(he:PE X e te)(hg:PG X tg g)(hs:swapsWithSole [tg] e pos.line X.env=pure false:=by rfl)(hw:swappedStores [tg] e X.env=pure none:=by rfl)
  (h1:(assignEach [tg] X.env).map (·.2)=[assign tg X.env]:=by rfl):PS X (.Assign [tg] e pos) (tAsg te g):=by
 intro pins s σ H D I h
 refine wpAny_Assign_stores (thn (he pins s σ H _ I h) fun v s1 ⟨x,H1,I1,r1,q1⟩=>?_) hs hw
 rw[h1]
 exact thn (hg pins s1 σ H1 x v _ I1 r1 q1) fun _ s2 q=>q
theorem oC {i:Nat}{x:Str}{e:Expr}{te:TE}{pos':Pos}(hN:X.N.Nodup)(hi:X.N[i]?=some x)(hx:Loc X.env.scope x)(he:PE X e te)(hs:swapsWith e (some (.Name x pos')) pos.line X.env=pure false:=by rfl)(hf:X.fn x=true∨X.env.scope.names.lookup x=some .local:=by first | exact .inl rfl | exact .inr rfl | assumption) :
  PS X (.Assign [.Name x pos'] e pos) (tAsg te (gName i)):=by
 intro pins s σ H D I h
 refine wpAny_Assign_Name (thn (he pins s σ H _ I h) fun v s1 ⟨y,H1,I1,r1,q1⟩=>?_) hs
 exact fI I1 hN hi hx r1 (fun s2 I2=>⟨_,H1,I2,q1⟩) hf
end
section
variable {X:Cx}{pos:Pos}
end
structure It where
 go:Nat→Hp→Prop
 yld:Nat→Hp→V→Hp→Prop
 stop:Nat→Hp→Prop
def FpOk (X:Cx)(pins:List (Addr×Obj))(H:Hp)(b:Addr):Prop :=
 H b=none∧b≠X.env.locals∧b∉X.fs∧(b∈X.ex∨X.s₀.heap.objs.size≤b)∧(∀ x c,X.env.cells.lookup x=some c→c≠b)∧∀ p∈X.pn++pins,p.1≠b
theorem Inv.fpOk {X:Cx}{pins:List (Addr×Obj)}{σ:St}{H H':Hp}{s:Shared}{b:Addr}(I:Inv X pins σ H s)(hb:s.heap.objs.size≤b)(hn:H' b=none):FpOk X pins H' b:=by
 refine⟨hn,Nat.ne_of_gt (Nat.lt_of_lt_of_le I.lt hb),I.nofs hb,.inr (Nat.le_trans I.sz hb),fun x c e z=>?_,fun p hp z=>?_⟩
 ·obtain⟨v,q⟩:=I.cell x c e
  exact absurd (Nat.lt_of_lt_of_le q.lt (by rw[z];exact hb)) (Nat.lt_irrefl _)
 ·exact absurd (Nat.lt_of_lt_of_le (Heap.lt_size (I.pin p hp).1) (by rw[z];exact hb)) (Nat.lt_irrefl _)
structure Turn (P:Program)(w:World)(K:PySem.W.Frag)(tg:Expr)(J:It)(fp:List Addr)(it:Addr)(tn:Nat→Heap→Prop):Prop where
 mem:it∈fp
 obj:∀ i h,tn i h→∀ b∈fp,∃ o,h.get? b=some o∧∀ v,o.data≠.cell v
 keep:∀ i h h',tn i h→(∀ b∈fp,∀ o,h.get? b=some o→h'.get? b=some o)→tn i h'
 item:∀ (X:Cx),X.prog=P→X.w=w→X.K=K→X.calm=true→∀ (i:Nat) (pins:List (Addr×Obj)) (s:Shared) (σ:St) (H:Hp) (E:Value→Shared→Prop),Inv X pins σ H s→(∀ b∈fp,FpOk X pins H b)→tn i s.heap→J.go i H →
  wpAny (model P w) X.A (pyNext (.ref it)) (fun r s1=>∃ u,r=some u ∧
   wpAny (model P w) X.A (letOwnedTupleGo tg (.ref it) u) (fun _ s2=>∃ x H',Inv X pins σ H' s2∧RelV x u∧J.yld i H x H'∧tn (i+1) s2.heap∧∀ b∈fp,H' b=none) E s1) E s
 done:∀ (X:Cx),X.prog=P→X.w=w→X.K=K→X.calm=true→∀ (i:Nat) (pins:List (Addr×Obj)) (s:Shared) (σ:St) (H:Hp) (E:Value→Shared→Prop),Inv X pins σ H s→(∀ b∈fp,FpOk X pins H b)→tn i s.heap→J.stop i H →
  wpAny (model P w) X.A (pyNext (.ref it)) (fun r s1=>r=none∧Inv X pins σ H s1) E s
 self:∀ (A:Around) (i:Nat) (s:Shared) (Q:Value→Shared→Prop) (E:Value→Shared→Prop),tn i s.heap→Q (.ref it) s→wpAny (model P w) A (pyIter (.ref it)) Q E s
abbrev TI:=St→Hp→(It→Hp→Prop)→Prop
def PIE (X:Cx)(pins:List (Addr×Obj))(σ:St)(tg:Expr)(R:It→Hp→Prop)(itv:Value)(s2:Shared):Prop :=
 ∃ (it:Addr) (fp:List Addr) (tn:Nat→Heap→Prop) (J:It) (H':Hp),itv=.ref it∧Inv X pins σ H' s2∧Turn X.prog X.w X.K tg J fp it tn∧tn 0 s2.heap∧(∀ b∈fp,FpOk X pins H' b)∧R J H'
def PI (X:Cx)(tg iter:Expr)(wi:TI):Prop :=
 ∀ (pins:List (Addr×Obj)) (s:Shared) (σ:St) (H:Hp) (R:It→Hp→Prop),Inv X pins σ H s→wi σ H R →
  wpAny (model X.prog X.w) X.A (eval iter X.env) (fun v s1=>wpAny (model X.prog X.w) X.A (pyIter v) (PIE X pins σ tg R) X.xe s1) X.xe s
theorem pS {M:Model}{A:Around}{E:Value→Shared→Prop}{s:Shared}{tg:Expr}{it:Addr}{u:Value}{o:Obj}{n:String}{vs:Array Value}{Q:Unit→Shared→Prop}(ho:s.heap.get? it=some o)(hc:o.cls=.type n)(hd:o.data=.fields vs)
  (hn:["enumerate","zip","dict_itemiterator","dict_reverseitemiterator","odict_iterator","itertools.zip_longest","itertools.pairwise"].contains n=false) (hQ:Q () s):wpAny M A (letOwnedTupleGo tg (.ref it) u) Q E s:=by
 unfold letOwnedTupleGo
 cases tg<;>first
  | exact wpAny_pure hQ
  | (cases u<;>first
    | exact wpAny_pure hQ
    | (refine wpAny_bind (wpAny_load ho ?_)
       rw[hc,hd]
       show wpAny M A (if (["enumerate","zip","dict_itemiterator","dict_reverseitemiterator","odict_iterator","itertools.zip_longest","itertools.pairwise"].contains n&&vs[0]?==some (rawInt _))=true then _ else _) Q E s
       rw[if_neg (by intro h;rw[hn,Bool.false_and]at h;cases h)]
       exact wpAny_pure hQ))
def Itl (K:PySem.W.Frag)(a:Addr):It :=
 ⟨fun i H=>∃ xs x,SqL K H a xs∧xs[i]?=some x,fun i H x H'=>H'=H∧∀ xs,SqL K H a xs→xs[i]?=some x,fun i H=>∃ xs,SqL K H a xs∧xs.length≤i⟩
def Itt (K:PySem.W.Frag)(a:Addr):It :=
 ⟨fun i H=>∃ xs x,SqT K H a xs∧xs[i]?=some x,fun i H x H'=>H'=H∧∀ xs,SqT K H a xs→xs[i]?=some x,fun i H=>∃ xs,SqT K H a xs∧xs.length≤i⟩
def Itr (lo:Int)(n:Nat):It:=⟨fun i _=>i < n,fun i H x H'=>H'=H∧x=.int (lo+i),fun i _=>n≤i⟩
theorem qO {P:Program}{w:World}{K:PySem.W.Frag}{tg:Expr}(a it:Addr):Turn P w K tg (Itl K a) [it] it (fun i h=>h.IsListIter it a i) where
 mem:=by simp
 obj:=fun i h st b hb=>by
  have e:b=it:=by simpa using hb
  subst e
  obtain⟨o,e,c,d⟩:=st
  exact⟨o,e,fun v z=>by rw[d]at z;cases z⟩
 keep:=fun i h h' st k=>st.at fun o e=>k it (by simp) o e
 item:=by
  intro X hP hw hK hc i pins s σ H E I hf st hg
  subst hP hw hK
  obtain⟨xs,x,hq,hx⟩:=hg
  obtain⟨its,rv,p,hz⟩:=I.list hq
  obtain⟨u,hu,ru⟩:=rv.get hx
  obtain⟨f0,f1,f2,f3,f4,f5⟩:=hf it (by simp)
  refine wpAny_pyNext_list_item st p.isList (x:=u) (by simpa using hu) fun h' st' sb=>?_
  have I1:Inv X pins σ H { s with heap:=h' }:=I.turned (t':=s.toks) (fun b o hb e=>(sb.2 b hb).trans e) f0 f1 f3 f4 f5
  obtain⟨o,e,c,d⟩:=id st'
  exact⟨u,rfl,pS (s:={ s with heap:=h' }) e c d (by decide) ⟨x,H,I1,ru,⟨rfl,fun ys hy=>by rw[I.list_inj hy hq];exact hx⟩,st',fun b hb=>(hf b hb).1⟩⟩
 done:=by
  intro X hP hw hK hc i pins s σ H E I hf st hg
  subst hP hw hK
  obtain⟨xs,hq,hx⟩:=hg
  obtain⟨its,rv,p,hz⟩:=I.list hq
  obtain⟨f0,f1,f2,f3,f4,f5⟩:=hf it (by simp)
  have hl:=rv.length
  exact wpAny_pyNext_list_end (I.ok.hd hc) st p.isList (by simp;omega) fun h' eb=>⟨rfl,I.turned (t':=s.toks) (fun b o hb e=>eb b o hb e) f0 f1 f3 f4 f5⟩
 self:=fun _ _ _ _ _ st h=>wpAny_pyIter_listiter st h
theorem oD {P:Program}{w:World}{K:PySem.W.Frag}{tg:Expr}(a it:Addr):Turn P w K tg (Itt K a) [it] it (fun i h=>h.IsTupleIter it a i) where
 mem:=by simp
 obj:=fun i h st b hb=>by
  have e:b=it:=by simpa using hb
  subst e
  obtain⟨o,e,c,d⟩:=st
  exact⟨o,e,fun v z=>by rw[d]at z;cases z⟩
 keep:=fun i h h' st k=>st.at fun o e=>k it (by simp) o e
 item:=by
  intro X hP hw hK hc i pins s σ H E I hf st hg
  subst hP hw hK
  obtain⟨xs,x,hq,hx⟩:=hg
  obtain⟨its,rv,p,hz⟩:=I.tuple hq
  obtain⟨u,hu,ru⟩:=rv.get hx
  obtain⟨f0,f1,f2,f3,f4,f5⟩:=hf it (by simp)
  refine wpAny_pyNext_tuple_item st (show s.heap.IsTuple a its.toArray from p) (x:=u) (by simpa using hu) fun h' st' sb=>?_
  have I1:Inv X pins σ H { s with heap:=h' }:=I.turned (t':=s.toks) (fun b o hb e=>(sb.2 b hb).trans e) f0 f1 f3 f4 f5
  obtain⟨o,e,c,d⟩:=id st'
  exact⟨u,rfl,pS (s:={ s with heap:=h' }) e c d (by decide) ⟨x,H,I1,ru,⟨rfl,fun ys hy=>by rw[I.tuple_inj hy hq];exact hx⟩,st',fun b hb=>(hf b hb).1⟩⟩
 done:=by
  intro X hP hw hK hc i pins s σ H E I hf st hg
  subst hP hw hK
  obtain⟨xs,hq,hx⟩:=hg
  obtain⟨its,rv,p,hz⟩:=I.tuple hq
  obtain⟨f0,f1,f2,f3,f4,f5⟩:=hf it (by simp)
  have hl:=rv.length
  exact wpAny_pyNext_tuple_end (I.ok.hd hc) st (show s.heap.IsTuple a its.toArray from p) (by simp;omega) fun h' eb=>⟨rfl,I.turned (t':=s.toks) (fun b o hb e=>eb b o hb e) f0 f1 f3 f4 f5⟩
 self:=fun _ _ _ _ _ st h=>wpAny_pyIter_tupleiter st h
theorem oE {P:Program}{w:World}{K:PySem.W.Frag}{tg:Expr}(it:Addr)(lo:Int)(n:Nat):Turn P w K tg (Itr lo n) [it] it (fun i h=>IsRangeIter h it (lo+(i:Nat)*1) ((n:Int) - (i:Nat)) 1) where
 mem:=by simp
 obj:=fun i h st b hb=>by
  have e:b=it:=by simpa using hb
  subst e
  exact⟨_,st,fun v z=>by
   have z':Data.fields _=Data.cell v:=z
   cases z'⟩
 keep:=fun i h h' st k=>k it (by simp) _ st
 item:=by
  intro X hP hw hK hc i pins s σ H E I hf st hg
  subst hP hw hK
  obtain⟨f0,f1,f2,f3,f4,f5⟩:=hf it (by simp)
  have W:=Walks.range (prog:=X.prog) (w:=X.w) (I.ok.hd hc) it lo 1 n
  refine W.item i s _ _ hg st fun v h' tk hv st' kk=>?_
  obtain⟨t,rfl⟩:=hv
  have I1:Inv X pins σ H { s with heap:=h',toks:=tk }:=I.turned (fun b o hb e=>kk b o (by simpa using hb) e) f0 f1 f3 f4 f5
  refine⟨_,rfl,pS (s:={ s with heap:=h',toks:=tk }) (n := "range_iterator") st' rfl rfl (by decide) ⟨.int (lo+i),H,I1,⟨t,?_⟩,⟨rfl,rfl⟩,st',fun b hb=>(hf b hb).1⟩⟩
  rw[Int.mul_one]
 done:=by
  intro X hP hw hK hc i pins s σ H E I hf st hg
  subst hP hw hK
  obtain⟨f0,f1,f2,f3,f4,f5⟩:=hf it (by simp)
  exact wpAny_pyNext_range_end (I.ok.hd hc) st (by have:n≤i:=hg;omega) fun h' eb=>⟨rfl,I.turned (t':=s.toks) (fun b o hb e=>eb b o hb e) f0 f1 f3 f4 f5⟩
 self:=fun _ _ _ _ _ st h=>wpAny_pyIter_rangeiter st h
end L2
namespace L2
open PySem PySem.Spec PyProof.Rows
section
variable {X:Cx}{tg:Expr}
theorem tq {pins:List (Addr×Obj)}{σ:St}{H:Hp}{s:Shared}{R:It→Hp→Prop}{E:Value→Shared→Prop}{lo hi:Int}{t u v:Tok}{tk:Nat}(I:Inv X pins σ H s)(h1 : -(2^62)≤lo)(h2:lo < 2^62)(h3 : -(2^62)≤hi)(h4:hi < 2^62)
  (q:R (Itr lo (hi - lo).toNat) H):wpAny (model X.prog X.w) X.A (pyIter (.ref s.heap.objs.size)) (PIE X pins σ tg R) E { s with heap:=s.heap.push { cls:=.type "range",data:=.fields #[.int lo t,.int hi u,.int 1 v] },toks:=tk }:=by
 refine wpAny_pyIter_range (IsRange.new ..) (small_one h1 h2 h3 h4) ?_
 have I1:Inv X pins σ H { s with heap:=s.heap.push { cls:=.type "range",data:=.fields #[.int lo t,.int hi u,.int 1 v] },toks:=tk }:=I.kept fun b o e=>Heap.get?_push_of_some _ e
 refine⟨(s.heap.push { cls:=.type "range",data:=.fields #[.int lo t,.int hi u,.int 1 v] }).objs.size,[(s.heap.push { cls:=.type "range",data:=.fields #[.int lo t,.int hi u,.int 1 v] }).objs.size],_,_,H,rfl,
  I1.kept (t':=tk) fun b o e=>Heap.get?_push_of_some _ e,oE _ lo (hi - lo).toNat,?_,fun b hb=>?_,q⟩
 ·have e1:lo+((0:Nat):Int)*1=lo:=by simp
  have e2:(((hi - lo).toNat:Nat):Int) - ((0:Nat):Int)=Builtin.Range.rangeSize lo hi 1:=by rw[rangeSize_one];split<;>omega
  show IsRangeIter _ _ (lo+((0:Nat):Int)*1) ((((hi - lo).toNat:Nat):Int) - ((0:Nat):Int)) 1
  rw[e1,e2]
  exact Heap.get?_push_size _ rfl
 ·have e:b=(s.heap.push { cls:=.type "range",data:=.fields #[.int lo t,.int hi u,.int 1 v] }).objs.size:=by simpa using hb
  subst e
  exact I1.fpOk (Nat.le_refl _) (I1.hok.fresh (Nat.le_refl _))
def iRng1 (ta:TA):TI:=fun σ H R=>ta σ H fun vs H1=>∃ j:Int,vs=[.int j]∧-(2^62)≤j∧j < 2^62∧R (Itr 0 j.toNat) H1
theorem qP {a:Expr}{ta:TA}{p pos:Pos}(hg:Gl X "range")(hm:X.mg "range"=none)(ha:PA X [a] ta)(hs:starEach [a] X.env=[(false,eval a X.env)]:=by rfl):PI X tg (.Call (.Name "range" p) [a] [] pos) (iRng1 ta):=by
 intro pins s σ H R I h
 refine Call_ (fh I hg hm boot_range (PyProof.Rows.callWith_type1 (thn (ha pos pins s σ H _ I h) fun us s1 ⟨vs,H1,I1,r1,q1⟩=>?_) hs rfl))
 obtain⟨j,e,q1,q2,q⟩:=q1
 subst e
 cases r1 with
 | cons r rr =>
  cases rr
  obtain⟨t,rfl⟩:=r
  exact call_range_1 (tq I1 (by omega) (by omega) q1 q2 (by simpa using q))
def tFor (wi:TI)(g:TG)(tb:TS):TS:=fun D σ H=>wi σ H fun J H1=>∃ W:Nat→Nat→St→Hp→Prop,(∃ m,W 0 m σ H1)∧∀ i m σ H,W i m σ H →
 (J.stop i H∧D.nx σ H)∨(J.go i H∧∃ N:St→Hp→Prop,(∀ σ' H',N σ' H'→∃ m',m' < m∧W (i+1) m' σ' H')∧∀ x H',J.yld i H x H'→g x σ H' fun σ2 H2=>tb { D with nx:=N,ct:=N,bk:=D.nx } σ2 H2)
def pinsAt (fp:List Addr)(h:Heap):List (Addr×Obj):=fp.filterMap fun b=>(h.get? b).map fun o=>(b,o)
theorem cZ {fp:List Addr}{h:Heap}{b:Addr}{o:Obj}(hb:b∈fp)(e:h.get? b=some o):(b,o)∈pinsAt fp h:=List.mem_filterMap.mpr ⟨b,hb,by rw[e];rfl⟩
theorem qQ {fp:List Addr}{h:Heap}{p:Addr×Obj}(hp:p∈pinsAt fp h):p.1∈fp∧h.get? p.1=some p.2:=by
 obtain⟨b,hb,e⟩:=List.mem_filterMap.mp hp
 cases q:h.get? b with
 | none=>rw[q]at e;cases e
 | some o =>
  rw[q]at e
  have e':(b,o)=p:=Option.some.inj e
  subst e'
  exact⟨hb,q⟩
theorem Inv.pinned {pins:List (Addr×Obj)}{σ:St}{H:Hp}{s:Shared}{fp:List Addr}(I:Inv X pins σ H s)(hf:∀ b∈fp,FpOk X pins H b)(ho:∀ b∈fp,∃ o,s.heap.get? b=some o∧∀ v,o.data≠.cell v):Inv X (pins++pinsAt fp s.heap) σ H s :=
 I.pins_of fun p hp=>(List.mem_append.mp hp).elim (fun z=>I.pin p (List.mem_append_right _ z)) fun z=>by
  obtain⟨hb,e⟩:=qQ z
  obtain⟨f0,f1,f2,_⟩:=hf p.1 hb
  obtain⟨o,e',d⟩:=ho p.1 hb
  rw[e]at e';cases e'
  exact⟨e,f0,f1,f2,d⟩
theorem Inv.unpinned {pins pl:List (Addr×Obj)}{σ:St}{H:Hp}{s:Shared}(I:Inv X (pins++pl) σ H s):Inv X pins σ H s:=I.pins_of fun p hp=>I.pin p (List.mem_append_right _ (List.mem_append_left _ hp))
theorem xX {iter:Expr}{body:List Stmt}{wi:TI}{g:TG}{tb:TS}{pos:Pos}(hp:PassesOwn (model X.prog X.w) X.A X.env X.xe)(hc:X.calm=true)(hi:PI X tg iter wi)(hg:PG X tg g)(hb:PSs X body tb)
  (hs:∀ x,foldedSetIterable iter X.env x=pure x:=by intro _;rfl):PS X (.For tg iter body [] pos) (tFor wi g tb):=by
 intro pins s σ H D I h
 refine wpAny_For (thn (hi pins s σ H _ I h) fun v s1 h1=>thn h1 fun itv s2 h2=>?_) hs
 obtain⟨it,fp,tn,J,H2,e,I2,T,st2,f2,W,⟨m0,w0⟩,turn⟩:=h2
 subst e
 have stat:∀ {H':Hp},(∀ b∈fp,H' b=none)→∀ b∈fp,FpOk X pins H' b:=fun hn b hb=>⟨hn b hb,(f2 b hb).2⟩
 refine codeAny_forLoop_any (fun n s'=>∃ i σ' H',Inv X pins σ' H' s'∧tn i s'.heap∧(∀ b∈fp,H' b=none)∧W i n σ' H') ?_ m0 ⟨0,σ,H2,I2,st2,fun b hb=>(f2 b hb).1,w0⟩
 rintro n s3 ⟨i,σ3,H3,I3,st3,fr3,w3⟩
 rcases turn i n σ3 H3 w3 with ⟨stop,qn⟩ | ⟨go,N,hN,step⟩
 ·refine wpAny_passesOwn hp (thn (T.done X rfl rfl rfl hc i pins s3 σ3 H3 X.xe I3 (stat fr3) st3 stop) fun r s4 ⟨hr,I4⟩=>?_)
  subst hr
  exact wpAny_execs_nil ⟨σ3,H3,I4,qn⟩
 ·refine wpAny_passesOwn hp (thn (T.item X rfl rfl rfl hc i pins s3 σ3 H3 X.xe I3 (stat fr3) st3 go) fun r s4 ⟨u,hr,h4⟩=>?_)
  subst hr
  refine wpAny_passesOwn hp (thn h4 fun _ s5 ⟨x,H5,I5,r5,y5,st5,fr5⟩=>?_)
  have I5':=I5.pinned (stat fr5) (T.obj _ _ st5)
  refine wpAny_passesOwn hp (thn (hg _ s5 σ3 H5 x u _ I5' r5 (step x H5 y5)) fun _ s6 ⟨σ6,H6,I6,q6⟩=>?_)
  refine wpAny_passesOwn hp (thn (hb _ s6 σ6 H6 _ I6 q6) fun f s7 q7=>?_)
  have again:∀ {σ7:St} {H7:Hp},Inv X (pins++pinsAt fp s5.heap) σ7 H7 s7→N σ7 H7→∃ m,m < n∧∃ i σ' H',Inv X pins σ' H' s7∧tn i s7.heap∧(∀ b∈fp,H' b=none)∧W i m σ' H':=fun {σ7 H7} I7 n7=>by
   obtain⟨m',hm,w7⟩:=hN σ7 H7 n7
   refine⟨m',hm,i+1,σ7,H7,I7.unpinned,T.keep _ _ _ st5 fun b hb o e=>(I7.pin (b,o) (List.mem_append_right _ (List.mem_append_right _ (cZ hb e)))).1,fun b hb=>?_,w7⟩
   obtain⟨o,e,d⟩:=T.obj _ _ st5 b hb
   exact(I7.pin (b,o) (List.mem_append_right _ (List.mem_append_right _ (cZ hb e)))).2.1
  cases f with
  | next=>obtain⟨σ7,H7,I7,n7⟩:=q7;exact again I7 n7
  | cont=>obtain⟨σ7,H7,I7,n7⟩:=q7;exact again I7 n7
  | brk=>obtain⟨σ7,H7,I7,q7⟩:=q7;exact⟨σ7,H7,I7.unpinned,q7⟩
  | ret v=>obtain⟨x7,σ7,H7,I7,r7,q7⟩:=q7;exact⟨x7,σ7,H7,I7.unpinned,r7,q7⟩
end
end L2
namespace L2
open PySem PySem.Spec PyProof.Rows
abbrev R2:=V→V→Hp→VK→Prop
def OpR (X:Cx)(f:Value→Value→Sem Value)(r:R2):Prop :=
 ∀ (pins:List (Addr×Obj)) (s:Shared) (σ:St) (H:Hp) (x y:V) (v u:Value) (Q:VK),Inv X pins σ H s→RelV x v→RelV y u→r x y H Q →
  wpAny (model X.prog X.w) X.A (f v u) (EP X pins σ Q) X.xe s
def UnR (X:Cx)(f:Value→Sem Value)(r:V→Hp→VK→Prop):Prop :=
 ∀ (pins:List (Addr×Obj)) (s:Shared) (σ:St) (H:Hp) (x:V) (v:Value) (Q:VK),Inv X pins σ H s→RelV x v→r x H Q →
  wpAny (model X.prog X.w) X.A (f v) (EP X pins σ Q) X.xe s
def CallR (X:Cx)(f:Value)(r:List V→Hp→VK→Prop):Prop :=
 ∀ (pins:List (Addr×Obj)) (s:Shared) (σ:St) (H:Hp) (xs:List V) (us:List Value) (Q:VK),Inv X pins σ H s→Vals xs us→r xs H Q →
  wpAny (model X.prog X.w) X.A (call f us) (EP X pins σ Q) X.xe s
def tOp (r:R2)(ta tb:TE):TE:=fun σ H Q=>ta σ H fun x H1=>tb σ H1 fun y H2=>r x y H2 Q
def tUn (r:V→Hp→VK→Prop)(ta:TE):TE:=fun σ H Q=>ta σ H fun x H1=>r x H1 Q
def rI (C:Int→Int→Prop)(g:Int→Int→V):R2:=fun x y H Q=>∃ i j,x=.int i∧y=.int j∧C i j∧Q (g i j) H
def rI0 (g:Int→Int→V):R2:=fun x y H Q=>∃ i j,x=.int i∧y=.int j∧Q (g i j) H
def rU (g:Int→V):V→Hp→VK→Prop:=fun x H Q=>∃ i,x=.int i∧Q (g i) H
section
variable {X:Cx}{a b c:Expr}{ta tb tc:TE}{pos:Pos}
theorem binT (ha:PE X a ta)(hb:PE X b tb){pins:List (Addr×Obj)}{s:Shared}{σ:St}{H:Hp}{R:V→V→Hp→Prop}(I:Inv X pins σ H s)
  (h:ta σ H fun x H1=>tb σ H1 fun y H2=>R x y H2) {Q:Value→Shared→Prop} {f:Value→Value→Sem Value}
  (hf:∀ v u s2 x y H2,Inv X pins σ H2 s2→RelV x v→RelV y u→R x y H2→wpAny (model X.prog X.w) X.A (f v u) Q X.xe s2) :
  wpAny (model X.prog X.w) X.A (eval a X.env) (fun v s₁=>wpAny (model X.prog X.w) X.A (eval b X.env) (fun u s₂=>wpAny (model X.prog X.w) X.A (f v u) Q X.xe s₂) X.xe s₁) X.xe s:=by
 refine thn (ha pins s σ H _ I h) fun v s1 ⟨x,H1,I1,r1,q1⟩=>?_
 refine thn (hb pins s1 σ H1 _ I1 q1) fun u s2 ⟨y,H2,I2,r2,q2⟩=>?_
 exact hf v u s2 x y H2 I2 r1 r2 q2
theorem yY {op:Operator}{r:R2}(ho:OpR X (binaryOp op) r)(ha:PE X a ta)(hb:PE X b tb):PE X (.BinOp a op b pos) (tOp r ta tb):=by
 intro pins s σ H Q I h
 exact wpAny_BinOp (binT ha hb I h fun v u s2 x y H2 I2 rx ry q=>ho pins s2 σ H2 x y v u Q I2 rx ry q)
theorem yZ {op:UnaryOp}{r:V→Hp→VK→Prop}(ho:UnR X (unaryOp op) r)(ha:PE X a ta):PE X (.UnaryOp op a pos) (tUn r ta):=by
 intro pins s σ H Q I h
 exact UnaryOp_ (thn (ha pins s σ H _ I h) fun v s1 ⟨x,H1,I1,r1,q1⟩=>ho pins s1 σ H1 x v Q I1 r1 q1)
theorem opI {f:Value→Value→Sem Value}{C:Int→Int→Prop}{g:Int→Int→Int}
  (rule:∀ (i j:Int) (t u:Tok) (s:Shared) (Q:Value→Shared→Prop) (E:Value→Shared→Prop),C i j→Q (.int (g i j) s.toks) { s with toks:=s.toks+1 }→wpAny (model X.prog X.w) X.A (f (.int i t) (.int j u)) Q E s) :
  OpR X f (rI C fun i j=>.int (g i j)):=by
 intro pins s σ H x y v u Q I rx ry h
 obtain⟨i,j,rfl,rfl,hc,q⟩:=h
 obtain⟨t,rfl⟩:=rx
 obtain⟨t',rfl⟩:=ry
 exact rule i j t t' s _ _ hc ⟨.int (g i j),H,I.tok _,⟨_,rfl⟩,q⟩
theorem opI0 {f:Value→Value→Sem Value}{g:Int→Int→Int}
  (rule:∀ (i j:Int) (t u:Tok) (s:Shared) (Q:Value→Shared→Prop) (E:Value→Shared→Prop),Q (.int (g i j) s.toks) { s with toks:=s.toks+1 }→wpAny (model X.prog X.w) X.A (f (.int i t) (.int j u)) Q E s) :
  OpR X f (rI0 fun i j=>.int (g i j)):=by
 intro pins s σ H x y v u Q I rx ry h
 obtain⟨i,j,rfl,rfl,q⟩:=h
 obtain⟨t,rfl⟩:=rx
 obtain⟨t',rfl⟩:=ry
 exact rule i j t t' s _ _ ⟨.int (g i j),H,I.tok _,⟨_,rfl⟩,q⟩
theorem opB0 {f:Value→Value→Sem Value}{g:Int→Int→Bool}
  (rule:∀ (i j:Int) (t u:Tok) (s:Shared) (Q:Value→Shared→Prop) (E:Value→Shared→Prop),Q (.bool (g i j)) s→wpAny (model X.prog X.w) X.A (f (.int i t) (.int j u)) Q E s) :
  OpR X f (rI0 fun i j=>.bl (g i j)):=by
 intro pins s σ H x y v u Q I rx ry h
 obtain⟨i,j,rfl,rfl,q⟩:=h
 obtain⟨t,rfl⟩:=rx
 obtain⟨t',rfl⟩:=ry
 exact rule i j t t' s _ _ ⟨.bl (g i j),H,I,rfl,q⟩
def CDiv (i j:Int):Prop:=0 < j∧j < 1073741824
def CMul (i j:Int):Prop:=(-(2^64) < i∧i < 2^64)∨(-(2^64) < j∧j < 2^64)
theorem CMul.ok {i j:Int}(h:CMul i j):IntMulOk i j:=by
 rcases h with ⟨h1,h2⟩ | ⟨h1,h2⟩
 ·exact .of_left (intBits_le_64 h1 h2)
 ·exact .of_right (intBits_le_64 h1 h2)
theorem xY:OpR X (binaryOp .Add) (rI0 fun i j=>.int (i+j)):=opI0 fun _ _ _ _ _ _ _ q=>add_int q
theorem xZ:OpR X (binaryOp .Sub) (rI0 fun i j=>.int (i - j)):=opI0 fun _ _ _ _ _ _ _ q=>sub_int q
theorem ya:OpR X (binaryOp .Mult) (rI CMul fun i j=>.int (i*j)):=opI fun _ _ _ _ _ _ _ hc q=>mul_int q hc.ok
theorem vI:OpR X (binaryOp .FloorDiv) (rI CDiv fun i j=>.int (i/j)):=opI fun i j _ _ _ _ _ hc q=>by
 have h1:(0:Int) < j:=hc.1
 have h2:j < 1073741824:=hc.2
 exact floordiv_int (by omega) (by rw[Int.fdiv_eq_ediv_of_nonneg i (by omega)];exact q) (.inl (PyProof.noPylong_small (by omega)))
theorem yb:OpR X (binaryOp .Mod) (rI (fun _ j=>0 < j) fun i j=>.int (i%j)):=opI fun i j _ _ _ _ _ hc q=>by
 have h1:(0:Int) < j:=hc
 exact mod_int' (by omega) (by rw[Int.fmod_eq_emod_of_nonneg i (by omega)];exact q)
theorem unI {f:Value→Sem Value}{g:Int→Int}
  (rule:∀ (i:Int) (t:Tok) (s:Shared) (Q:Value→Shared→Prop) (E:Value→Shared→Prop),Q (.int (g i) s.toks) { s with toks:=s.toks+1 }→wpAny (model X.prog X.w) X.A (f (.int i t)) Q E s) :
  UnR X f (rU fun i=>.int (g i)):=by
 intro pins s σ H x v Q I rx h
 obtain⟨i,rfl,q⟩:=h
 obtain⟨t,rfl⟩:=rx
 exact rule i t s _ _ ⟨.int (g i),H,I.tok _,⟨_,rfl⟩,q⟩
theorem yc:UnR X (unaryOp .USub) (rU fun i=>.int (-i)):=unI fun _ _ _ _ _ q=>neg_int q
end
section
variable {X:Cx}{a b c:Expr}{ta tb tc:TE}{pos:Pos}
theorem lF {pins:List (Addr×Obj)}{σ:St}{H:Hp}{s:Shared}{Q:VK}{k k':Bool}(I:Inv X pins σ H s)(q:Q (.bl k) H)(e:k=k'):EP X pins σ Q (.bool k') s:=by
 subst e
 exact⟨.bl k,H,I,rfl,q⟩
theorem xp:OpR X (compareOp .Lt) (rI0 fun i j=>.bl (decide (i < j))):=opB0 fun _ _ _ _ _ _ _ q=>lt_int q
theorem tt:OpR X (compareOp .LtE) (rI0 fun i j=>.bl (decide (i≤j))):=opB0 fun _ _ _ _ _ _ _ q=>le_int q
theorem y3:OpR X (compareOp .Gt) (rI0 fun i j=>.bl (decide (j < i))):=opB0 fun _ _ _ _ _ _ _ q=>gt_int q
theorem y4:OpR X (compareOp .GtE) (rI0 fun i j=>.bl (decide (j≤i))):=opB0 fun _ _ _ _ _ _ _ q=>ge_int q
theorem OpR.or {f:Value→Value→Sem Value}{r r':R2}(h:OpR X f r)(h':OpR X f r'):OpR X f (fun x y H Q=>r x y H Q∨r' x y H Q):=by
 intro pins s σ H x y v u Q I rx ry q
 rcases q with q | q
 ·exact h pins s σ H x y v u Q I rx ry q
 ·exact h' pins s σ H x y v u Q I rx ry q
theorem nomark (b:Expr){op:CmpOp}(h:op≠.In:=by decide)(h2:op≠.NotIn:=by decide):behindInMarks op b=false:=by
 have e1:(op==CmpOp.In)=false:=by cases op<;>first | rfl | exact absurd rfl h
 have e2:(op==CmpOp.NotIn)=false:=by cases op<;>first | rfl | exact absurd rfl h2
 cases b<;>simp[behindInMarks,e1,e2]
theorem vJ {op:CmpOp}{r:R2}(ho:OpR X (compareOp op) r)(ha:PE X a ta)(hb:PE X b tb)(hm:behindInMarks op b=false):PE X (.Compare a [op] [b] pos) (tOp r ta tb):=by
 intro pins s σ H Q I h
 exact wpAny_Compare1 (binT ha hb I h fun v u s2 x y H2 I2 rx ry q=>ho pins s2 σ H2 x y v u Q I2 rx ry q) hm
def tTest (t:TE):TT:=fun σ H Q=>t σ H fun x H'=>∃ k,x=.bl k∧Q k H'
theorem vK {op:CmpOp}{r:R2}(ho:OpR X (compareOp op) r)(ha:PE X a ta)(hb:PE X b tb)(hm:behindInMarks op b=false):PT X (.Compare a [op] [b] pos) (tTest (tOp r ta tb)):=by
 intro pins s σ H Q I h
 refine wpAny_isTrue_Compare1 (thn (ha pins s σ H _ I h) fun v s1 ⟨x,H1,I1,r1,q1⟩=>thn (hb pins s1 σ H1 _ I1 q1) fun u s2 ⟨y,H2,I2,r2,q2⟩ =>
  thn (ho pins s2 σ H2 x y v u _ I2 r1 r2 q2) fun c s3 ⟨z,H3,I3,r3,k,e,q3⟩=>?_) hm
 subst e
 cases r3
 exact wpAny_truthy_bool ⟨H3,I3,q3⟩
def tChain (r r':R2)(ta tb tc:TE):TE:=fun σ H Q=>ta σ H fun x H1=>tb σ H1 fun y H2=>r x y H2 fun z H3=>∃ k,z=.bl k ∧
 (if k=true then tc σ H3 fun w' H4=>r' y w' H4 Q else Q (.bl false) H3)
theorem tu {op op':CmpOp}{r r':R2}(ho:OpR X (compareOp op) r)(ho':OpR X (compareOp op') r')(ha:PE X a ta)(hb:PE X b tb)(hc:PE X c tc)
  (hm:lastMarks [op,op'] [b,c]=false:=by with_unfolding_all rfl):PE X (.Compare a [op,op'] [b,c] pos) (tChain r r' ta tb tc):=by
 intro pins s σ H Q I h
 refine Compare_chain (thn (ha pins s σ H _ I h) fun v s1 ⟨x,H1,I1,r1,q1⟩=>chain_link (thn (hb pins s1 σ H1 _ I1 q1) fun u s2 ⟨y,H2,I2,r2,q2⟩ =>
  thn (ho pins s2 σ H2 x y v u _ I2 r1 r2 q2) fun d s3 ⟨z,H3,I3,r3,k,e,q3⟩=>?_)) hm
 subst e
 cases r3
 refine wpAny_truthy_bool ?_
 cases k with
 | false=>exact ite_ff ⟨.bl false,H3,I3,rfl,q3⟩
 | true=>exact ite_tt (chain_last (thn (hc pins s3 σ H3 _ I3 q3) fun w' s4 ⟨z',H4,I4,r4,q4⟩=>ho' pins s4 σ H4 y z' u w' Q I4 r2 r4 q4))
theorem tz {op op':CmpOp}{r r':R2}(ho:OpR X (compareOp op) r)(ho':OpR X (compareOp op') r')(ha:PE X a ta)(hb:PE X b tb)(hc:PE X c tc)
  (hm:lastMarks [op,op'] [b,c]=false:=by with_unfolding_all rfl):PT X (.Compare a [op,op'] [b,c] pos) (tTest (tChain r r' ta tb tc)):=by
 intro pins s σ H Q I h
 refine isTrue_chain (thn (ha pins s σ H _ I h) fun v s1 ⟨x,H1,I1,r1,q1⟩=>test_link (thn (hb pins s1 σ H1 _ I1 q1) fun u s2 ⟨y,H2,I2,r2,q2⟩ =>
  thn (ho pins s2 σ H2 x y v u _ I2 r1 r2 q2) fun d s3 ⟨z,H3,I3,r3,k,e,q3⟩=>?_)) hm
 subst e
 cases r3
 refine wpAny_truthy_bool ?_
 cases k with
 | false =>
  obtain⟨k',e',q'⟩:=q3
  cases e'
  exact ite_ff ⟨H3,I3,q'⟩
 | true =>
  refine ite_tt (test_last (thn (hc pins s3 σ H3 _ I3 q3) fun w' s4 ⟨z',H4,I4,r4,q4⟩=>thn (ho' pins s4 σ H4 y z' u w' _ I4 r2 r4 q4) fun d' s5 ⟨z2,H5,I5,r5,k2,e2,q5⟩=>?_))
  subst e2
  cases r5
  exact wpAny_truthy_bool ⟨H5,I5,q5⟩
theorem line63:(sizeLine:Nat) < 2^63:=by rw[sizeLine_eq];decide
def PlainIxT (b:Expr):Prop:=∀ o i,subscripted b false o i=operate [o,i] (getItem o i)
theorem vals1 {x:V}{us:List Value}(r:Vals [x] us):∃ u,us=[u]∧RelV x u:=by
 cases r with
 | cons r1 r2=>cases r2;exact⟨_,rfl,r1⟩
theorem vals2 {x y:V}{us:List Value}(r:Vals [x,y] us):∃ u w',us=[u,w']∧RelV x u∧RelV y w':=by
 cases r with
 | cons r1 r2 =>
  cases r2 with
  | cons r3 r4=>cases r4;exact⟨_,_,rfl,r1,r3⟩
theorem qR (hc:X.calm=true):CallR X (.builtin "max") (fun xs H Q=>∃ i j,xs=[.int i,.int j]∧Q (.int (if j > i then j else i)) H):=by
 intro pins s σ H xs us Q I r h
 obtain⟨i,j,rfl,q⟩:=h
 obtain⟨u,w',rfl,⟨t,rfl⟩,⟨t',rfl⟩⟩:=vals2 r
 refine max_two_ints (I.ok.hd hc) fun h' tk k=>⟨_,H,I.kept k,?_,q⟩
 by_cases hj:j > i
 ·rw[if_pos hj,if_pos hj];exact⟨_,rfl⟩
 ·rw[if_neg hj,if_neg hj];exact⟨_,rfl⟩
end
end L2
namespace L2
open PySem PySem.Spec PyProof.Rows
structure ObjM (h:Heap)(x dx C:Addr)(mA:Str→Option Value):Prop where
 obj:h.get? x=some (PySem.W.instObj C dx)
 ns:h.Ns1 dx mA
 ne:dx≠x
theorem qS {h:Heap}{dx:Addr}{mA:Str→Option Value}(n:h.Ns1 dx mA):∃ od,h.get? dx=some od∧∀ name,PySem.W.lookIn name od=some (mA name):=by
 obtain⟨o,es,ep,ho,hd,hk,_,hm⟩:=n
 refine⟨o,ho,fun name=>?_⟩
 have e:=hm name
 unfold nsFind findBy at e
 rw[← Array.find?_toList]at e
 unfold PySem.W.lookIn
 rw[hd]
 dsimp only
 split
 ·rename_i y q
  rw[q]at e
  exact congrArg some e
 ·rename_i q
  rw[q]at e
  have a:es.toList.any (·.refKey)=false:=by
   rw[List.any_eq_false]
   intro y hy
   obtain⟨z,t,hkey⟩:=hk y (Array.mem_toList_iff.mp hy)
   simp[DictEntry.refKey,hkey]
  have a':¬ es.toList.any (·.refKey)=true:=by rw[a];exact Bool.false_ne_true
  rw[if_neg a']
  exact congrArg some e
theorem ObjM.look {h:Heap}{x dx C:Addr}{mA:Str→Option Value}(I:ObjM h x dx C mA):∃ od,PySem.W.InstAt h x (PySem.W.instObj C dx) C (some od)∧∀ name,PySem.W.lookIn name od=some (mA name) :=
 let ⟨od,ho,hl⟩:=qS I.ns
 ⟨od,⟨I.obj,rfl,rfl,ho⟩,hl⟩
section
variable {prog:Program}{w:World}{A:Around}{E:Value→Shared→Prop}{s:Shared}{K:PySem.W.Frag}{x dx C f:Addr}{mA:Str→Option Value}{name:Str}{v:Value}
theorem tF {pl:Sem Bool}{Q:Value×List Value→Shared→Prop}(X:K.In s.heap)(I:ObjM s.heap x dx C mA)(hg:PySem.W.plainGet K C name=true)
  (hf:PySem.W.findIn K (.ref C) name=some (some (.ref f))) (ht:PySem.W.isFn K (.ref f)=true) (hv:mA name=none) (h:Q (.ref f,[.ref x]) s) :
  wpAny (model prog w) A (getMethod (.ref x) name pl) Q E s:=by
 obtain⟨od,J,hl⟩:=I.look
 exact PySem.W.method_fn X J (PySem.W.plainGet_of hg).1 (PySem.W.plainGet_of hg).2 hf (beq_iff_eq.mp ht) (by show (PySem.W.lookIn name od).map (·.isSome)=some false;rw[hl,hv];rfl) h
theorem y6 {R:Result→Shared→Prop}{vs:List Value}{kw:List (Str×Value)}(X:K.In s.heap)(hm:PySem.W.makesIn K C=true)
  (hi:PySem.W.findIn K (.ref C) "__init__"=some (some (.ref f))) (hf:PySem.W.typeIn K (.ref f)=some (.type "function"))
  (h:codeAny (model prog w) (A.under (.builtin "type.__call__" ⟨.ref C::vs,kw⟩)) (.call (.ref f) ⟨.ref (s.heap.objs.size+1)::vs,kw⟩) (PySem.W.InitBack (s.heap.objs.size+1) R)
   { s with heap:=(s.heap.push PySem.W.emptyDict).push (PySem.W.instObj C s.heap.objs.size) }) :
  codeAny (model prog w) A (.call (.ref C) ⟨vs,kw⟩) R s:=by
 obtain⟨hh,g,d,t,os⟩:=s
 exact PySem.W.make_core (PySem.W.makes_of X hm) (PySem.W.looks_findIn X hi) (fun self=>PySem.W.bind_fn X self hf) (.inl rfl) h
end
def putF (f:Str)(v:V):List (Str×V)→List (Str×V)
 | []=>[(f,v)]
 | (g,x)::r=>if g=f then (g,v)::r else (g,x)::putF f v r
theorem RelO.none_of {o:Option Value}(r:RelO none o):o=none:=by
 cases o with
 | none=>rfl
 | some u=>exact(show False from r).elim
section
variable {P:Program}{w:World}{H H':Hp}{h h':Heap}{a C dx:Addr}{fs fs':List (Str×V)}
theorem vL (hok:HOk P w H h)(e:H a=some (.ins C dx fs)):∃ mA,ObjM h a dx C mA∧(∀ f,RelO (fs.lookup f) (mA f))∧PySem.Within mA (fs.map (·.1))∧fs.length≤1000∧H dx=some (.own a):=by
 obtain⟨d,z,ne,ob,mA,n,r,q⟩:=(show ObjOk P w H h a (.ins C dx fs) from hok a _ e)
 exact⟨mA,⟨ob,n,ne⟩,r,q,z,d⟩
end
structure Cls (K:PySem.W.Frag)(C:Addr):Prop where
 pg:PySem.W.plainGet K C Str.empty=true
 hd:PySem.W.hasDictIn K C=true
 po:PySem.W.plainOver K C=true
 sa:PySem.W.findIn K (.ref C) "__setattr__"=some (some (.builtin "object.__setattr__"))
theorem Cls.get {K:PySem.W.Frag}{C:Addr}(c:Cls K C)(f:Str):PySem.W.plainGet K C f=true:=c.pg
structure Meth (K:PySem.W.Frag)(C:Addr)(m:Str)(f:Addr):Prop where
 at_:PySem.W.findIn K (.ref C) m=some (some (.ref f))
 fn:PySem.W.isFn K (.ref f)=true
 kp:PySem.W.keepIn K (.ref f)=true
section
variable {X:Cx}{pins:List (Addr×Obj)}{σ:St}{H:Hp}{s:Shared}{a C dx:Addr}{fs:List (Str×V)}{f:Str}{v:V}{A:Around}{E:Value→Shared→Prop}
theorem oF {m:Str}{g:Addr}{pl:Sem Bool}{Q:Value×List Value→Shared→Prop}(I:Inv X pins σ H s)(e:H a=some (.ins C dx fs))(c:Cls X.K C)(k:Meth X.K C m g)(l:fs.lookup m=none)
  (h:Q (.ref g,[.ref a]) s):wpAny (model X.prog X.w) A (getMethod (.ref a) m pl) Q E s:=by
 obtain⟨mA,O,r,_,_,_⟩:=vL I.hok e
 have hn:mA m=none:=RelO.none_of (by rw[← l];exact r m)
 exact tF I.kIn O (c.get m) k.at_ k.fn hn h
end
section
variable {X:Cx}{o e value:Expr}{f:Str}{pos pos' tpos:Pos}{ta tv:TE}
theorem xq {pl:Sem Bool}{m:Str}{apos:Pos}{args:List Expr}{pins:List (Addr×Obj)}{s:Shared}{σ:St}{H:Hp}{Q:Value→Shared→Prop}{te:TE}(he:PE X e te)(I:Inv X pins σ H s)
  (h:te σ H fun x H1=>∃ a C dx fs g,x=.ref a∧H1 a=some (.ins C dx fs)∧Cls X.K C∧Meth X.K C m g∧fs.lookup m=none ∧
   ∀ s1,Inv X pins σ H1 s1→wpAny (model X.prog X.w) X.A (callWith pos (.ref g) [.ref a] (backTo pos (starEach args X.env)) (backToKw pos (keywordEach [] X.env))) Q X.xe s1)
  (ht:eval (.Call (.Attribute e m apos) args [] pos) X.env=(do
   let ov ← eval e X.env
   standAt apos.atName
   let (f,first) ← holding [ov] (getMethod ov m pl)
   callWith pos f first (backTo pos (starEach args X.env)) (backToKw pos (keywordEach [] X.env)))) :
  wpAny (model X.prog X.w) X.A (eval (.Call (.Attribute e m apos) args [] pos) X.env) Q X.xe s:=by
 refine PySem.W.methodCall_KW (pl:=pl) (thn (he pins s σ H _ I h) fun u s1 ⟨x,H1,I1,rx,a,C,dx,fs,g,ex,ea,c,k,l,q⟩=>?_) ht
 subst ex
 obtain rfl:u=Value.ref a:=rx
 exact oF I1 ea c k l (q s1 I1)
end
section
variable {X:Cx}{pins:List (Addr×Obj)}{σ:St}{H:Hp}{s:Shared}{A:Around}{E:Value→Shared→Prop}{Q:Value→Shared→Prop}{c:Value}{b:Bool}
inductive TyOf (K:PySem.W.Frag)(H:Hp):V→Value→Prop where
 | non:TyOf K H .non (.type "NoneType")
 | bl (x:Bool):TyOf K H (.bl x) (.type "bool")
 | int (i:Int):TyOf K H (.int i) (.type "int")
 | str (x:Str):TyOf K H (.str x) (.type "str")
 | flt (x:UInt64):TyOf K H (.flt x) (.type "float")
 | lst {a:Addr} {xs:List V} (e:H a=some (.lst xs)):TyOf K H (.ref a) (.type "list")
 | frz {a:Addr} {o:Obj} {xs:List V} (e:H a=some (.frz o (.lst xs))):TyOf K H (.ref a) (.type "list")
 | tup {a:Addr} {xs:List V} (e:H a=some (.tup xs)):TyOf K H (.ref a) (.type "tuple")
 | dK {a:Addr} {kvs:List (Key×V)} (e:H a=some (.dK kvs)):TyOf K H (.ref a) (.type "dict")
 | dT {a:Addr} {kvs:List (List Key×V)} (e:H a=some (.dT kvs)):TyOf K H (.ref a) (.type "dict")
 | ins {a C dx:Addr} {fs:List (Str×V)} (e:H a=some (.ins C dx fs)) (cl:Cls K C) (ha:PySem.W.findIn K (.ref C) "__class__"=some (some (.builtin "object.__class__")))
   (hn:PySem.W.specialIn K (.builtin "object.__class__") "__get__"=some (some (.builtin "getset_descriptor.__get__"))) (htk:PySem.W.takesIn K (.builtin "object.__class__")=some true)
   (hm:PySem.W.mroIn K C (.type "object")=some true):TyOf K H (.ref a) (.ref C)
end
end L2
namespace L2
open PySem PySem.Spec PyProof.Rows
structure Room (k:Nat)(A:Around):Prop where
 hd:A.handled=none
 dp:A.depth+3*k+5 < recursionLimit
 un:A.units+16*k+200 < cLine
theorem Room.deeper {k:Nat}{A:Around}(r:Room (k+1) A)(env:Env):Room k (A.deeper env) :=
 ⟨r.hd,by have:=r.dp;show A.depth+1+3*k+5 < _;omega,by have:=r.un;show A.units+3+16*k+200 < _;omega⟩
theorem Room.depth {k:Nat}{A:Around}(r:Room k A):A.depth < recursionLimit:=by have:=r.dp;omega
def tNil:TA:=fun _ H Q=>Q [] H
def tCons (ta:TE)(tr:TA):TA:=fun σ H Q=>ta σ H fun x H1=>tr σ H1 fun xs H2=>Q (x::xs) H2
section
variable {X:Cx}{e:Expr}{es:List Expr}{te:TE}{t:TA}{pos:Pos}
theorem lG:PA X [] tNil:=fun _ _ _ _ H Q I h=>Calls.spliced_nil ⟨[],H,I,.nil,h⟩
theorem fJ (ha:PE X e te)(hr:PA X es t)(hs:starEach (e::es) X.env=(false,eval e X.env)::starEach es X.env:=by rfl):PA X (e::es) (tCons te t):=by
 intro pos pins s σ H Q I h
 rw[hs]
 show wpAny _ _ (spliced ((false,eval e X.env)::backTo pos (starEach es X.env))) _ _ s
 refine Calls.spliced_cons (thn (ha pins s σ H _ I h) fun u s1 ⟨x,H1,I1,r1,q1⟩=>?_)
 exact thn (hr pos pins s1 σ H1 _ I1 q1) fun us s2 ⟨xs,H2,I2,r2,q2⟩=>⟨x::xs,H2,I2,.cons r1 r2,q2⟩
def tTup (t:TA):TE:=fun σ H Q=>t σ H fun xs H1=>xs.length≤sizeLine∧∀ p,H1 p=none→Q (.ref p) (upd H1 p (.tup xs))
def tLst (t:TA):TE:=fun σ H Q=>t σ H fun xs H1=>xs.length≤sizeLine∧∀ p,H1 p=none→Q (.ref p) (upd H1 p (.lst xs))
theorem ye {x1}(h:PA X es t):PE X (.Tuple es x1 pos) (tTup t):=by
 intro pins s σ H Q I hq
 refine wpAny_Tuple_spliced (thn (h pos pins s σ H _ I hq) fun us s1 ⟨xs,H1,I1,r,z,q⟩=>⟨by rw[← r.length];exact z,?_⟩)
 have hf:H1 s1.heap.objs.size=none:=I1.hok.fresh (Nat.le_refl _)
 refine⟨.ref s1.heap.objs.size,upd H1 s1.heap.objs.size (.tup xs),I1.laid (t':=s1.toks) (fun b u e=>Heap.get?_push_of_some _ e) (Nat.le_refl _) ?_,rfl,q _ hf⟩
 exact⟨z,us,r,TupO.new _ _⟩
theorem tG (h:PA X es t):PE X (.List es pos) (tLst t):=by
 intro pins s σ H Q I hq
 refine wpAny_List_spliced (thn (h pos pins s σ H _ I hq) fun us s1 ⟨xs,H1,I1,r,z,q⟩=>⟨by rw[← r.length];exact z,?_⟩)
 have hf:H1 s1.heap.objs.size=none:=I1.hok.fresh (Nat.le_refl _)
 refine⟨.ref s1.heap.objs.size,upd H1 s1.heap.objs.size (.lst xs),I1.laid (t':=s1.toks) (fun b u e=>Heap.get?_push_of_some _ e) (Nat.le_refl _) ?_,rfl,q _ hf⟩
 exact⟨z,us,0,r,Heap.get?_push_size _ rfl⟩
end
abbrev Sp:=List V→Hp→VK→XK→Prop
abbrev CXT:=List Env→Hp→Shared→XK→Value→Shared→Prop
structure Env0 (P:Program)(w:World)(K:PySem.W.Frag)(mg:Str→Option Value)(base:Heap)(A:Around)(outer:List Env)(s:Shared)(H:Hp):Prop where
 frames:A.frames=some outer
 mod:Mod K mg base
 bs:∀ b o,base.get? b=some o→s.heap.get? b=some o∧H b=none
 bsz:base.objs.size≤s.heap.objs.size
 funs:s.heap.FunFrames base outer
 frf:∀ b∈frs outer,H b=none
 hok:HOk P w H s.heap
 bare:AllBare s.gens
def CE (outer:List Env)(P:Program)(w:World)(H:Hp)(s:Shared)(Q:VK)(u:Value)(s':Shared):Prop :=
 ∃ v H',s'.os=s.os∧AllBare s'.gens∧Un (frs outer) [] H H' s.heap s'.heap∧HOk P w H' s'.heap∧RelV v u∧Q v H'
def CR (CX:CXT)(outer:List Env)(P:Program)(w:World)(H:Hp)(s:Shared)(Q:VK)(E:XK)(r:Result)(s':Shared):Prop :=
 match r with
 | .ok (.ret u)=>CE outer P w H s Q u s'
 | .ok _=>False
 | .error e=>CX outer H s E e s'
structure FnOk (P:Program)(w:World)(K:PySem.W.Frag)(mg:Str→Option Value)(base:Heap)(CX:CXT)(k:Nat)(f:Addr)(fd:FuncData)(ps:List Str)(sp:Sp):Prop where
 len:∀ vs H Q E,sp vs H Q E→vs.length=ps.length
 run:∀ (A:Around) (outer:List Env) (s:Shared) (H:Hp) (args:Args) (us:List Value) (vs:List V) (Q:VK) (E:XK),Room k A→Env0 P w K mg base A outer s H→BindsTo s fd args (ps.zip us)→Vals vs us→sp vs H Q E →
  codeAny (model P w) A (.call (.ref f) args) (CR CX outer P w H s Q E) s
section
variable {X:Cx}{pins:List (Addr×Obj)}{σ:St}{H:Hp}{s s':Shared}
theorem Inv.env0 (I:Inv X pins σ H s):Env0 X.prog X.w X.K X.mg X.base X.A X.stack s H :=
 ⟨I.ok.frames,I.ok.mod,I.bs,Nat.le_trans I.ok.bsz I.sz,I.stack,I.stkFree,I.hok,I.bare⟩
theorem Inv.after {Q:VK}{u:Value}(I:Inv X pins σ H s)(h:CE X.stack X.prog X.w H s Q u s'):EP X pins σ Q u s':=by
 obtain⟨v,H',os,bare,un,hok,r,q⟩:=h
 obtain⟨hh,g,d,t,os'⟩:=s'
 obtain rfl:os'=s.os:=os
 exact⟨v,H',I.call (h':=hh) (g':=g) (d':=d) (t':=t) (ch:=[]) un hok bare (fun b z=>absurd z (by simp)),r,q⟩
end
def tCall (sp:Sp)(dvs:List V)(E:XK)(t:TA):TE:=fun σ H Q=>t σ H fun vs H1=>sp (vs++dvs) H1 Q E
def Binds (K:PySem.W.Frag)(fd:FuncData)(ps:List Str)(ds:List Value):Prop :=
 ∀ (s:Shared) (us:List Value),K.In s.heap→(us++ds).length=ps.length→BindsTo s fd ⟨us,[]⟩ (ps.zip (us++ds))
theorem Binds.all {K:PySem.W.Frag}{fd:FuncData}{ps:List Str}(h:∀ us:List Value,us.length=ps.length→bindArgs fd ⟨us,[]⟩=pure (ps.zip us)):Binds K fd ps []:=fun s us _ hl=>by
 rw[List.append_nil]at hl ⊢
 exact .of_eq (h us hl)
def Passes (CX:CXT)(X:Cx)(E:XK):Prop:=∀ (pins:List (Addr×Obj)) (σ:St) (H:Hp) (s:Shared) (e:Value) (s':Shared),Inv X pins σ H s→CX X.stack H s E e s'→X.xe e s'
section
variable {X:Cx}{CX:CXT}{k:Nat}{f C:Addr}{fd:FuncData}{ps:List Str}{sp:Sp}{dvs:List V}{ds:List Value}{E:XK}{x m:Str}{p pos apos:Pos}{e o:Expr}{es:List Expr}{ta:TE}{t:TA}
theorem tH {pins:List (Addr×Obj)}{σ:St}{H:Hp}{s:Shared}{Q:VK}{us:List Value}{vs:List V}(F:FnOk X.prog X.w X.K X.mg X.base CX k f fd ps sp)(hr:Room k X.A)(hb:Binds X.K fd ps ds)(hd:Vals dvs ds)(hx:Passes CX X E)
  (I:Inv X pins σ H s) (r:Vals vs us) (h:sp (vs++dvs) H Q E):wpAny (model X.prog X.w) X.A (call (.ref f) us) (EP X pins σ Q) X.xe s:=by
 have r2:Vals (vs++dvs) (us++ds):=r.append hd
 have hl:(us++ds).length=ps.length:=by rw[← r2.length];exact F.len _ _ _ _ h
 refine wpAny_call (codeAny_mono (F.run X.A X.stack s H ⟨us,[]⟩ (us++ds) (vs++dvs) Q E hr I.env0 (hb s us I.kIn hl) r2 h) fun r s' hq=>?_)
 cases r with
 | error e=>exact hx pins σ H s e s' I hq
 | ok fl =>
  cases fl with
  | ret u=>exact I.after hq
  | next=>exact False.elim hq
  | brk=>exact False.elim hq
  | cont=>exact False.elim hq
theorem vM (F:FnOk X.prog X.w X.K X.mg X.base CX k f fd ps sp)(hr:Room k X.A)(hg:Gl X x)(hm:X.mg x=some (.ref f))(hk:PySem.W.keepIn X.K (.ref f)=true)(hb:Binds X.K fd ps ds)(hd:Vals dvs ds)(hx:Passes CX X E)
  (ha:PA X (e::es) t) (hdb:(x==("__debug__":Str))=false:=by decide) (he:starEach (e::es) X.env=(false,eval e X.env)::starEach es X.env:=by rfl) (hpl:(backTo pos (starEach es X.env)).any (·.1)=false:=by rfl) :
  PE X (.Call (.Name x p) (e::es) [] pos) (tCall sp dvs E t):=by
 intro pins s σ H Q I h
 refine wpAny_Call_Name_kw (iQ I hg hm ?_ hdb)
 refine PySem.W.callWith_K (h₀:=X.base) I.ok.mod.kin hk (thn (ha pos pins s σ H _ I h) fun us s1 ⟨vs,H1,I1,r,q⟩=>⟨I1.kIn,?_⟩) he hpl
 exact tH F hr hb hd hx I1 r q
end
section
variable {X:Cx}{CX:CXT}{k:Nat}{f C:Addr}{fd:FuncData}{ps ks:List Str}{sp:Sp}{E:XK}{x m:Str}{p pos apos kpos:Pos}{e o:Expr}{es:List Expr}{kws:List Keyword}{te ta:TE}{t tk:TA}{nm:Option Str}
variable {g:List Value→List Value→List Value}{gV:List V→List V→List V}
end
structure FnScope (N P:List Str)(sc:Scope):Prop where
 kind:sc.kind=.function
 co:sc.isCoroutine=false
 gen:sc.isGenerator=false
 nd:N.Nodup
 pre:N.take P.length=P
 par:∀ x∈P,sc.names.lookup x=some .local∨sc.names.lookup x=some .cell
 nofree:∀ y∈sc.names,y.2≠.free
theorem kO {kindOf:Str→Option NameKind}{x:Str}:∀ {binds:List (Str×Value)} {m:Str→Option Value},(∀ v,(x,v)∉binds)→bindL kindOf binds m x=m x
 | [],_,_=>rfl
 | (n,v)::r,m,h=>by
  unfold bindL
  rw[kO fun w hw=>h w (List.mem_cons_of_mem _ hw)]
  split
  ·have:x≠n:=by rintro rfl;exact h v List.mem_cons_self
   simp[this]
  ·rfl
theorem kP {kindOf:Str→Option NameKind}{x:Str}:∀ {binds:List (Str×Value)} {m:Str→Option Value},(∀ v,(x,v)∉binds)→bindC kindOf binds m x=m x
 | [],_,_=>rfl
 | (n,v)::r,m,h=>by
  unfold bindC
  rw[kP fun w hw=>h w (List.mem_cons_of_mem _ hw)]
  split
  ·rfl
  ·have:x≠n:=by rintro rfl;exact h v List.mem_cons_self
   simp[this]
theorem kQ {kindOf:Str→Option NameKind}{x:Str}{v:Value}:∀ {P:List Str} {vs:List Value} {i:Nat} {m:Str→Option Value},P.Nodup→P[i]?=some x→vs[i]?=some v→kindOf x=some .local →
  bindL kindOf (P.zip vs) m x=some v
 | [],_,_,_,_,h,_,_=>by simp at h
 | _::_,[],_,_,_,_,h,_=>by simp at h
 | p::P,w::vs,0,m,nd,h1,h2,hk=>by
  simp at h1 h2;subst h1;subst h2
  show bindL kindOf ((p,w)::P.zip vs) m p=_
  unfold bindL
  rw[kO fun v hv=>(List.nodup_cons.mp nd).1 (List.of_mem_zip hv).1,if_pos hk]
  simp
 | p::P,w::vs,i+1,m,nd,h1,h2,hk=>by
  show bindL kindOf ((p,w)::P.zip vs) m x=_
  unfold bindL
  exact kQ (i:=i) (List.nodup_cons.mp nd).2 (by simpa using h1) (by simpa using h2) hk
theorem kR {kindOf:Str→Option NameKind}{x:Str}{v:Value}:∀ {P:List Str} {vs:List Value} {i:Nat} {m:Str→Option Value},P.Nodup→P[i]?=some x→vs[i]?=some v→kindOf x≠some .local →
  bindC kindOf (P.zip vs) m x=some v
 | [],_,_,_,_,h,_,_=>by simp at h
 | _::_,[],_,_,_,_,h,_=>by simp at h
 | p::P,w::vs,0,m,nd,h1,h2,hk=>by
  simp at h1 h2;subst h1;subst h2
  show bindC kindOf ((p,w)::P.zip vs) m p=_
  unfold bindC
  rw[kP fun v hv=>(List.nodup_cons.mp nd).1 (List.of_mem_zip hv).1,if_neg hk]
  simp
 | p::P,w::vs,i+1,m,nd,h1,h2,hk=>by
  show bindC kindOf ((p,w)::P.zip vs) m x=_
  unfold bindC
  exact kR (i:=i) (List.nodup_cons.mp nd).2 (by simpa using h1) (by simpa using h2) hk
def start (N:List Str)(vs:List V):St:=vs.map some++List.replicate (N.length - vs.length) none
def cxOf (CX:CXT)(P:Program)(w:World)(K:PySem.W.Frag)(mg:Str→Option Value)(base:Heap)(N:List Str)(qual:Str)(scope:Scope)(f:Addr)(cd:Value)(A:Around)(outer:List Env)(s:Shared)(H:Hp)(E:XK):Cx where
 prog:=P
 w:=w
 K:=K
 mg:=mg
 base:=base
 A:=A.deeper (envOfC qual scope s.heap.objs.size f cd)
 N:=N
 s₀:=s
 H₀:=H
 env:=envOfC qual scope s.heap.objs.size f cd
 outer:=outer
 stack:=envOfC qual scope s.heap.objs.size f cd::outer
 ex:=[]
 calm:=true
 fn:=fun _=>true
 pn:=[]
 xe:=fun e s'=>wpAny (model P w) (A.deeper (envOfC qual scope s.heap.objs.size f cd)) (leaving (envOfC qual scope s.heap.objs.size f cd) e) (fun _ s''=>CX outer H s E e s'') (fun e' s''=>CX outer H s E e' s'') s'
theorem mS {sc:Scope}{n:Nat}{x:Str}(h:sc.names.lookup x=some .cell):∃ c,(cellsFrom n sc.names []).lookup x=some c:=by
 have q:=PySem.W.cellsFrom_some sc.names n [] (.inl h)
 exact Option.isSome_iff_exists.mp q
theorem qT {CX:CXT}{P:Program}{w:World}{K:PySem.W.Frag}{mg:Str→Option Value}{base:Heap}{N ps:List Str}{qual:Str}{scope:Scope}{f:Addr}{cd:Value}{A:Around}{outer:List Env}{s s1:Shared}{H:Hp}{E:XK}{us:List Value}{vs:List V}
  (S:FnScope N ps scope) (hd:A.handled=none) (e0:Env0 P w K mg base A outer s H) (hl:vs.length=ps.length) (r:Vals vs us)
  (x:InCallC s s.heap.objs.size (bindL (envOfC qual scope s.heap.objs.size f cd).kindOf (ps.zip us) fun _=>none) (cellsFrom (s.heap.objs.size+1) scope.names []) (bindC (envOfC qual scope s.heap.objs.size f cd).kindOf (ps.zip us) fun _=>none) s1) :
  Inv (cxOf CX P w K mg base N qual scope f cd A outer s H E) [] (start N vs) H s1:=by
 have hpl:ps.length≤N.length:=by have:=congrArg List.length S.pre;rw[List.length_take]at this;omega
 obtain⟨h1,tk,rfl,hk⟩:=x.done
 have noA:∀ b:Addr,b∉(cxOf CX P w K mg base N qual scope f cd A outer s H E).ex:=fun b z=>absurd (show b∈([]:List Addr) from z) (by simp)
 refine⟨⟨e0.mod,S.kind,rfl,rfl,Nat.le_refl _,fun y z c h1 h2=>?_,fun y hy=>?_,fun y c _ h=>?_,fun _=>hd,Around.frames_deeper e0.frames,.inr ⟨rfl,rfl⟩,fun b z=>absurd z (noA b),e0.bs,e0.bsz,fun b _ _=>noA b,fun b z=>absurd z (noA b),e0.funs,e0.frf⟩,
  rfl,e0.bare,Un.kept hk,⟨_,x.toInCall.ns,fun i y v h1 h2 h3=>?_⟩,fun y c h=>⟨_,x.cell y c h⟩,e0.hok.fresh (Nat.le_refl _),fun y c h=>?_,fun p hp=>absurd (show p∈([]:List (Addr×Obj)) from hp) (by simp),e0.hok.kept hk,?_⟩
 ·exact name_of_addr x.apart (PySem.mem_of_lookup h1) (PySem.mem_of_lookup h2)
 ·have hy:scope.names.lookup y=some .cell∨scope.names.lookup y=some .free:=hy
  rcases hy with hy | hy
  ·exact mS hy
  ·exact absurd rfl (S.nofree _ (PySem.mem_of_lookup hy))
 ·exact Nat.le_of_lt (x.above y c (PySem.mem_of_lookup h))
 ·have hi:i < vs.length:=by
   unfold start at h2
   by_cases hi:i < vs.length
   ·exact hi
   ·rw[List.getElem?_append_right (by simpa using hi)]at h2
    rw[List.getElem?_replicate]at h2
    split at h2<;>cases h2
  have ha:vs[i]?=some v:=by
   unfold start at h2
   rw[List.getElem?_append_left (by simpa using hi),List.getElem?_map]at h2
   cases e:vs[i]? with
   | none=>rw[e]at h2;cases h2
   | some a=>rw[e]at h2;cases h2;rfl
  obtain⟨u,hu,rv⟩:=r.get ha
  have hp:ps[i]?=some y:=by
   rw[← S.pre,List.getElem?_take_of_lt (by omega)];exact h1
  have ndP:ps.Nodup:=by rw[← S.pre];exact S.nd.sublist (List.take_sublist _ _)
  refine⟨u,rv,?_⟩
  rcases S.par y (List.mem_of_getElem? hp) with k | k
  ·exact .inl ⟨k,kQ ndP hp hu k⟩
  ·obtain⟨c,e⟩:=mS (n:=s.heap.objs.size+1) k
   refine .inr ⟨.inl k,c,e,?_⟩
   have q:=x.cell y c e
   rw[kR ndP hp hu (by show scope.names.lookup y≠_;rw[k];decide)]at q
   exact q
 ·exact e0.hok.fresh (Nat.le_of_lt (x.above y c (PySem.mem_of_lookup h)))
 ·unfold start
  show _=N.length
  rw[List.length_append,List.length_map,List.length_replicate]
  omega
theorem xr {CX:CXT}{P:Program}{w:World}{K:PySem.W.Frag}{mg:Str→Option Value}{base:Heap}{k:Nat}{f:Addr}{name qual:Str}{params:Arguments}{body:List Stmt}{scope:Scope}{dV kV doc pm cdv ct oc:Value}{an od:Option Addr}
  {osl:Array (Option Value)} {N ps:List Str} {sp:Sp} (lk:K.lookup f=some ⟨oc,od,.func (PySem.W.fnOf name qual params body scope dV kV doc pm an cdv ct),osl⟩) (hcd:PySem.W.codeIn K cdv qual=true) (S:FnScope N ps scope)
  (len:∀ vs H Q E,sp vs H Q E→vs.length=ps.length)
  (hbody:∀ (A:Around) (outer:List Env) (s:Shared) (H:Hp) (vs:List V) (Q:VK) (E:XK),Room k (A.deeper (envOfC qual scope s.heap.objs.size f cdv))→sp vs H Q E →
   ∃ t,PSs (cxOf CX P w K mg base N qual scope f cdv A outer s H E) body t∧t { nx:=fun _ H'=>Q .non H',rt:=Q } (start N vs) H) :
  FnOk P w K mg base CX (k+1) f (PySem.W.fnOf name qual params body scope dV kV doc pm an cdv ct) ps sp:=by
 refine⟨len,fun A outer s H args us vs Q E hr e0 hb r hsp=>?_⟩
 have hl:=len _ _ _ _ hsp
 have KX:K.In s.heap:=e0.mod.kin.keeps fun b o e=>(e0.bs b o e).1
 have lim:s.heap.NoLimit:=e0.mod.nolimit.keeps fun b o e=>(e0.bs b o e).1
 have hkind:∀ y∈ps.zip us,scope.names.lookup y.1=some .local∨(scope.names.lookup y.1=some .cell∧((cellsFrom (s.heap.objs.size+1) scope.names []).lookup y.1).isSome=true):=fun ⟨n,v⟩ hy=>by
  rcases S.par n (List.of_mem_zip hy).1 with q | q
  ·exact .inl q
  ·exact .inr ⟨q,PySem.W.cellsFrom_some _ _ _ (.inl q)⟩
 refine codeAny_call_function hr.depth (KX _ _ lk) rfl S.co S.gen rfl (PySem.W.codeRec_of KX hcd) (hb _ _ _ _ ?_)
 refine wpAny_newFunctionEnv_cells S.kind hkind fun env he s1 x=>?_
 subst he
 refine⟨lim.keeps x.toInCall.keep,codeAny_func ?_⟩
 obtain⟨t,ht,hq⟩:=hbody A outer s H vs Q E (hr.deeper _) hsp
 have I:Inv (cxOf CX P w K mg base N qual scope f cdv A outer s H E) [] (start N vs) H s1:=qT S hr.hd e0 hl r x
 refine wpAny_mono (ht [] s1 (start N vs) H _ I hq) (fun fl s' hs=>?_) fun e s' hs=>hs
 have fin:∀ {σ':St} {H':Hp} {v:V} {u:Value},Inv (cxOf CX P w K mg base N qual scope f cdv A outer s H E) [] σ' H' s'→RelV v u→Q v H'→CE outer P w H s Q u s' :=
  fun {σ' H' v u} J rv q=>⟨v,H',J.os,J.bare,J.base,J.hok,rv,q⟩
 cases fl with
 | ret u =>
  obtain⟨v,σ',H',J,rv,q⟩:=hs
  exact fin J rv q
 | next =>
  obtain⟨σ',H',J,q⟩:=hs
  exact fin (v:=V.non) (u:=Value.none) J rfl q
 | brk =>
  obtain⟨_,_,_,q⟩:=hs
  exact False.elim q
 | cont =>
  obtain⟨_,_,_,q⟩:=hs
  exact False.elim q
end L2
namespace L2
open PySem PySem.Spec PyProof.Rows
section
variable {X:Cx}{x:Str}{p pos:Pos}{e:Expr}{es:List Expr}{t:TA}{id T:String}{r:List V→Hp→VK→Prop}
def tCB (r:List V→Hp→VK→Prop)(t:TA):TE:=fun σ H Q=>t σ H fun vs H1=>r vs H1 Q
theorem dN (hc:CallR X (.builtin id) r)(hg:Gl X x)(hm:X.mg x=none)(hv:bootBuiltins x=some (.builtin id))(ha:PA X (e::es) t)(hn:x ≠ "__name__" := by decide)(hdb:(x==("__debug__":Str))=false:=by decide)
  (he:starEach (e::es) X.env=(false,eval e X.env)::starEach es X.env:=by rfl) (hpl:(backTo pos (starEach es X.env)).any (·.1)=false:=by rfl):PE X (.Call (.Name x p) (e::es) [] pos) (tCB r t):=by
 intro pins s σ H Q I h
 refine wpAny_Call_Name_kw (fh I hg hm hv ?_ hn hdb)
 exact PyProof.Rows.callWith_builtin1 (thn (ha pos pins s σ H _ I h) fun us s1 ⟨vs,H1,I1,r1,q1⟩=>hc pins s1 σ H1 vs us Q I1 r1 q1) he hpl
theorem gJ (hc:CallR X (.type T) r)(hg:Gl X x)(hm:X.mg x=none)(hv:bootBuiltins x=some (.type T))(ha:PA X (e::es) t)(hn:x ≠ "__name__" := by decide)(hdb:(x==("__debug__":Str))=false:=by decide)
  (he:starEach (e::es) X.env=(false,eval e X.env)::starEach es X.env:=by rfl) (hpl:(backTo pos (starEach es X.env)).any (·.1)=false:=by rfl):PE X (.Call (.Name x p) (e::es) [] pos) (tCB r t):=by
 intro pins s σ H Q I h
 refine wpAny_Call_Name_kw (fh I hg hm hv ?_ hn hdb)
 exact PyProof.Rows.callWith_type1 (thn (ha pos pins s σ H _ I h) fun us s1 ⟨vs,H1,I1,r1,q1⟩=>hc pins s1 σ H1 vs us Q I1 r1 q1) he hpl
end
end L2
namespace HT
open PySem PyProof.Rows
def lexLt:List Int→List Int→Bool
 | [],[]=>false
 | [],_::_=>true
 | _::_,[]=>false
 | x::xs,y::ys=>if x=y then lexLt xs ys else decide (x < y)
theorem oG (x y:Int)(xs ys:List Int):lexLt (x::xs) (y::ys)=if x=y then lexLt xs ys else decide (x < y):=rfl
theorem kg:lexLt [] []=false:=rfl
theorem i7 (y:Int)(ys:List Int):lexLt [] (y::ys)=true:=rfl
theorem i8 (x:Int)(xs:List Int):lexLt (x::xs) []=false:=rfl
theorem tJ (A:Around)(s:Shared)(a:Int)(t:Tok)(c:Int)(u:Tok):∃ e,SeqAt.EqAt A s (.int a t) (.int c u) e∧(e=true↔a=c) :=
 ⟨(a==c),SeqAt.EqAt.int_int a t c u,by simp⟩
theorem tK (A:Around)(s:Shared)(a:Int)(t:Tok)(c:Int)(u:Tok)(prog:Program)(w:World)(E:Value→Shared→Prop)(Q:Value→Shared→Prop)(h:Q (.bool (decide (a < c))) s) :
  wpAny (model prog w) A (richCompare .Lt (.int a t) (.int c u)) Q E s :=
 (PyProof.Rows.lt_int h:wpAny (model prog w) A (compareOp .Lt (.int a t) (.int c u)) Q E s)
section
open PySem.SeqAt
open PySem.AutoSeq1 (wpAny_loadPart')
open PySem.MeetsSeq PySem.MeetsSeq2 PySem.MeetsSeq3
theorem kh (l b:Addr)(items items2:Array Value)(n n2:Nat)(dd dd2:Option Addr)(sl sl2:Array (Option Value))(ns ms:List Int)(hi:IntsAre items.toList ns)(hj:IntsAre items2.toList ms) :
  Meets (Builtin.«tuple.__lt__» ⟨[.ref l,.ref b],[]⟩)
   (fun _ R s=>s.heap.get? l=some { cls:=.type "tuple",dict:=dd,data:=.seq items n,slots:=sl }∧s.heap.get? b=some { cls:=.type "tuple",dict:=dd2,data:=.seq items2 n2,slots:=sl2 } ∧
    R (.ok (.ret (.bool (lexLt ns ms)))) s) :=
 .of_wp fun prog w A R s h=>by
  obtain⟨hp,g,d,tk,os⟩:=s;obtain⟨hl,hb,h⟩:=h
  have f2:=AutoSeq1.sub_tuple_tuple
  have z1:items.size=ns.length:=by rw[← hi.length];simp
  have z2:items2.size=ms.length:=by rw[← hj.length];simp
  wp_walk using wpAny_loadPart' hl,wpAny_loadPart' hb,wpAny_forIn_list _ (fun rest b s'=>b.1=none∧s'=⟨hp,g,d,tk,os⟩∧∃ (vs ws:List Value) (ns' ms':List Int),rest=vs.zip ws ∧
   IntsAre vs ns'∧IntsAre ws ms'∧ns'.length+items2.size=ms'.length+items.size∧R (.ok (.ret (.bool (lexLt ns' ms')))) ⟨hp,g,d,tk,os⟩) _
  case turn =>
   rintro ⟨y,x⟩ rest b s' ⟨hb',rfl,vs,ws,ns',ms',hz,hvi,hwi,hlen,hR⟩
   cases hvi with
   | nil=>rw[List.zip_nil_left]at hz;cases hz
   | cons a t hvi' =>
    cases hwi with
    | nil=>rw[List.zip_nil_right]at hz;cases hz
    | cons c u hwi' =>
     rw[List.zip_cons_cons]at hz
     injection hz with hyx hrest
     injection hyx with hy hx
     subst hy hx
     rw[oG]at hR
     simp only[List.length_cons]at hlen
     obtain⟨e,he,hiff⟩:=tJ A.in1 ⟨hp,g,d,tk,os⟩ a t c u
     refine wpAny_bind (he prog w _ _ ?_)
     cases e with
     | true =>
      rw[if_pos (hiff.mp rfl)]at hR
      wp_walk
      exact⟨rfl,rfl,_,_,_,_,hrest,hvi',hwi',by omega,hR⟩
     | false =>
      rw[if_neg (fun q=>absurd (hiff.mpr q) Bool.false_ne_true)]at hR
      have hri:=tK A.in1 ⟨hp,g,d,tk,os⟩ a t c u prog w
      wp_walk using hri
      exact⟨_,rfl,by simpa using hR⟩
  case fin =>
   rintro ⟨b1,b2⟩ s' ⟨hb',rfl,vs,ws,ns',ms',hz,hvi,hwi,hlen,hR⟩
   simp only at hb'
   subst hb'
   have hv:lexLt ns' ms'=decide (items.size < items2.size):=by
    cases hvi with
    | nil =>
     cases hwi with
     | nil =>
      simp only[List.length_nil]at hlen
      rw[kg]
      exact(decide_eq_false (by omega)).symm
     | cons c u hw =>
      simp only[List.length_nil,List.length_cons]at hlen
      rw[i7]
      exact(decide_eq_true (by omega)).symm
    | cons a t hv =>
     cases hwi with
     | nil =>
      simp only[List.length_nil,List.length_cons]at hlen
      rw[i8]
      exact(decide_eq_false (by omega)).symm
     | cons c u hw =>
      rw[List.zip_cons_cons]at hz
      cases hz
   rw[hv]at hR
   wp_walk
   exact⟨_,rfl,by simpa [Builtin.Tuple.tupleCompareSizes] using hR⟩
  case h =>
   exact⟨rfl,rfl,items.toList,items2.toList,ns,ms,rfl,hi,hj,by omega,h⟩
end
section
variable {prog:Program}{w:World}{A:Around}{E:Value→Shared→Prop}{s:Shared}
theorem oH {l b:Addr}{items items2:Array Value}{ns ms:List Int}{Q:Value→Shared→Prop}(hl:IsTup s.heap l items)(hb:IsTup s.heap b items2)(hi:IntsAre items.toList ns)(hj:IntsAre items2.toList ms)
  (hu:A.units < cLine) (h:Q (.bool (lexLt ns ms)) s):wpAny (model prog w) A (compareOp .Lt (.ref l) (.ref b)) Q E s:=by
 obtain⟨⟨cls,dd,data,sl⟩,ho,hc,n,hd⟩:=id hl
 obtain⟨⟨cls2,dd2,data2,sl2⟩,ho2,hc2,n2,hd2⟩:=id hb
 simp only at hc hd hc2 hd2
 subst hc hd hc2 hd2
 exact richCompare_meets_room (op:=.Lt) ⟨_,ho,rfl⟩ ⟨_,ho2,rfl⟩ PySem.F.slot_tuple_lt PySem.F.entry_tuple_lt (PySem.F.args_tuple_lt_2 _ _) (kh l b items items2 n n2 dd dd2 sl sl2 ns ms hi hj)
  ⟨ho,ho2,show Value.bool (lexLt ns ms)≠Value.notImplemented∧Q (.bool (lexLt ns ms)) s from ⟨(fun x=>nomatch x),h⟩⟩ hu
theorem vN {t b:Addr}{vs ws:List Value}{Q:Value→Shared→Prop}(ht:IsTup s.heap t vs.toArray)(hb:IsTup s.heap b ws.toArray)(hv:vs≠[])
  (h1:ws=[]→Q (.ref t) s) (h2:ws≠[]→Q (.ref s.heap.objs.size) { s with heap:=s.heap.push { cls:=.type "tuple",data:=.seq (vs++ws).toArray } })
  (hsz:vs.length+ws.length≤sizeLine):wpAny (model prog w) A (binaryOp .Add (.ref t) (.ref b)) Q E s:=by
 obtain⟨⟨cls,dd,data,sl⟩,ho,hc,n,hd⟩:=id ht
 obtain⟨⟨cls2,dd2,data2,sl2⟩,ho2,hc2,n2,hd2⟩:=id hb
 simp only at hc hd hc2 hd2
 subst hc hd hc2 hd2
 have e:vs.toArray++ws.toArray=(vs++ws).toArray:=by simp
 by_cases hw:ws=[]
 ·exact concat_meets ⟨_,ho,rfl⟩ ⟨_,ho2,rfl⟩ noFill_tuple_add seq_tuple_add PySem.F.slot_tuple_add PySem.F.entry_tuple_add (PySem.F.args_tuple_add_2 _ _)
   (tuple_addW1 t b vs.toArray ws.toArray n n2 dd dd2 sl sl2 (by simpa using hv) (by simp[hw])) ⟨ho,ho2,h1 hw⟩
 ·refine concat_meets ⟨_,ho,rfl⟩ ⟨_,ho2,rfl⟩ noFill_tuple_add seq_tuple_add PySem.F.slot_tuple_add PySem.F.entry_tuple_add (PySem.F.args_tuple_add_2 _ _)
   (tuple_addW2 t b vs.toArray ws.toArray n n2 dd dd2 sl sl2 (by simpa using hv) (by simpa using hw) (by rw[List.size_toArray,List.size_toArray];exact hsz)) ⟨ho,ho2,?_⟩
  rw[e]
  exact h2 hw
def sIx (n d:Nat):Option Int→Nat
 | none=>d
 | some v=>if v < 0 then (v+(n:Int)).toNat else min v.toNat n
theorem mT (n d:Nat):sIx n d none=d:=rfl
theorem yf (n d:Nat)(hd:d≤n)(o:Option Int):sIx n d o≤n:=by
 cases o with
 | none=>exact hd
 | some v =>
  show (if v < 0 then (v+(n:Int)).toNat else min v.toNat n)≤n
  by_cases hv:v < 0
  ·rw[if_pos hv];omega
  ·rw[if_neg hv];exact Nat.min_le_right _ _
theorem pT (v:Int)(n d:Nat):(if v < 0 then max (v+(n:Int)) 0 else min v (n:Int))=((sIx n d (some v):Nat):Int):=by
 show (if v < 0 then max (v+(n:Int)) 0 else min v (n:Int))=(((if v < 0 then (v+(n:Int)).toNat else min v.toNat n):Nat):Int)
 by_cases hv:v < 0
 ·simp only[if_pos hv];omega
 ·simp only[if_neg hv];omega
theorem oJ (lo hi:Option Int)(n:Nat):Builtin.Slice.sliceAdjust lo hi 1 (n:Int)=(((sIx n 0 lo:Nat):Int),((sIx n n hi:Nat):Int)):=by
 have h1:¬ ((1:Int) < 0):=by omega
 unfold Builtin.Slice.sliceAdjust
 simp only[h1,if_false]
 refine Prod.ext ?_ ?_
 ·cases lo with
  | none=>rfl
  | some v=>exact pT v n 0
 ·cases hi with
  | none=>rfl
  | some v=>exact pT v n n
theorem oK (i j:Nat):Builtin.Slice.slicePlaces (i:Int) (j:Int) 1=j - i:=by
 unfold Builtin.Slice.slicePlaces
 have h1:(1:Int) > 0:=by omega
 simp only[h1,if_true,Int.ediv_one]
 split<;>omega
theorem i9 {v:Value}{o:Option Int}{Q:Option Int→Shared→Prop}(p:IsPart v o)(h:Q o s):wpAny (model prog w) A (Builtin.Slice.slicePartIndex v) Q E s:=by
 cases p with
 | none=>exact slicePart_none h
 | int i t=>exact slicePart_int h
theorem cN {sl:Addr}{vl vu:Value}{lo hi:Option Int}{n:Nat}{Q:Int×Int×Nat→Shared→Prop}(hs:s.heap.IsSliceOf sl vl vu .none)(pl:IsPart vl lo)(pu:IsPart vu hi)
  (h:Q (((sIx n 0 lo:Nat):Int),1,sIx n n hi - sIx n 0 lo) s):wpAny (model prog w) A (Builtin.Slice.sliceApplied (.ref sl) (pure (n:Int))) Q E s:=by
 obtain⟨os,hos,hcs,hds⟩:=id hs
 unfold Builtin.Slice.sliceApplied Builtin.Slice.sliceFields
 refine wpAny_bind (wpAny_bind (wpAny_field hos hds (x:=vl) rfl (wpAny_bind (wpAny_field hos hds (x:=vu) rfl (wpAny_bind (wpAny_field hos hds (x:=.none) rfl (wpAny_pure ?_)))))))
 refine wpAny_bind (slicePart_none ?_)
 show wpAny _ _ (if ((1:Int)==0)=true then _ else _) _ _ s
 rw[if_neg (by decide)]
 refine wpAny_bind (i9 pl (wpAny_bind (i9 pu (wpAny_bind (wpAny_pure ?_)))))
 show wpAny _ _ (match Builtin.Slice.sliceAdjust lo hi 1 (n:Int) with | (lo,hi)=>pure (lo,(1:Int),Builtin.Slice.slicePlaces lo hi 1)) _ _ s
 rw[oJ lo hi n]
 show wpAny _ _ (pure (((sIx n 0 lo:Nat):Int),(1:Int),Builtin.Slice.slicePlaces ((sIx n 0 lo:Nat):Int) ((sIx n n hi:Nat):Int) 1)) _ _ s
 rw[oK]
 exact wpAny_pure h
theorem tM (xs:Array Value)(i k:Nat):((List.range k).filterMap fun (m:Nat)=>xs[((i:Int)+(m:Int)*1).toNat]?).toArray=((xs.toList.drop i).take k).toArray:=by
 have e:(fun (m:Nat)=>xs[((i:Int)+(m:Int)*1).toNat]?)=fun m=>xs[i+m]?:=by
  funext m
  have:((i:Int)+(m:Int)*1).toNat=i+m:=by omega
  rw[this]
 rw[e]
 have:=pick_run xs i k
 rw[List.filterMap_map]at this
 have e2:((fun x=>xs[x]?)∘fun x=>i+x)=fun m=>xs[i+m]?:=rfl
 rw[e2]at this
 rw[this]
theorem fK {t sl:Addr}{items:Array Value}{vl vu:Value}{lo hi:Option Int}{Q:Value→Shared→Prop}(ht:IsTup s.heap t items)(hs:s.heap.IsSliceOf sl vl vu .none)(pl:IsPart vl lo)(pu:IsPart vu hi)
  (hw:¬ (sIx items.size 0 lo=0∧sIx items.size items.size hi=items.size))
  (h:Q (.ref s.heap.objs.size) { s with heap:=s.heap.push { cls:=.type "tuple",data:=.seq ((items.toList.drop (sIx items.size 0 lo)).take (sIx items.size items.size hi - sIx items.size 0 lo)).toArray } })
  (hsz:items.size≤sizeLine):wpAny (model prog w) A (getItem (.ref t) (.ref sl)) Q E s:=by
 have htake:sizeOk (.seq ((items.toList.drop (sIx items.size 0 lo)).take (sIx items.size items.size hi - sIx items.size 0 lo)).toArray):=by
  show ((items.toList.drop (sIx items.size 0 lo)).take (sIx items.size items.size hi - sIx items.size 0 lo)).toArray.size≤sizeLine
  rw[List.size_toArray,List.length_take,List.length_drop,Array.length_toList]
  omega
 have hj:sIx items.size items.size hi≤items.size:=yf _ _ (Nat.le_refl _) hi
 obtain⟨os,hos,hcs,hds⟩:=id hs
 have hTs:s.TypeIs (.ref sl) "slice" := ⟨os,hos,hcs⟩
 unfold getItem
 try with_reducible refine wpAny_holding ?_
 first | refine wpAny_bind (wpAny_pure ?_) | skip
 refine wpAny_bind (wpAny_sequenceKey ht.typeIs (by decide) ?_)
 refine wpAny_bind (wpAny_callSpecial?_slot (name:=Str.ofString "__getitem__") ht.typeIs PyProof.Rows.slot_tuple_getitem
  (wpAny_call_entry PyProof.Rows.slot_tuple_getitem ht.typeIs entry_tuple_getitem ?_ (args_tuple_getitem _ _)))
 show wpAny _ _ (Builtin.Tuple.tupleItemsOf (.ref t) >>= _) _ _ s
 refine wpAny_bind (tupleItemsOf_ ht ?_)
 refine wpAny_bind (wpAny_typeOf hTs ?_)
 rw[if_pos (by decide)]
 refine wpAny_bind (cN hs pl pu ?_)
 have hno:¬ ((((sIx items.size 0 lo:Nat):Int)==0&&(1:Int)==1&&(sIx items.size items.size hi - sIx items.size 0 lo)==items.size)=true):=by
  intro q
  rw[Bool.and_eq_true,Bool.and_eq_true]at q
  have q1:((sIx items.size 0 lo:Nat):Int)=0:=eq_of_beq q.1.1
  have q2:sIx items.size items.size hi - sIx items.size 0 lo=items.size:=eq_of_beq q.2
  exact hw ⟨by omega,by omega⟩
 show wpAny _ _ (if (((sIx items.size 0 lo:Nat):Int)==0&&(1:Int)==1&&(sIx items.size items.size hi - sIx items.size 0 lo)==items.size)=true then _ else _) _ _ s
 rw[if_neg hno,tM]
 first
  | exact wpAny_bind (m:=Builtin.Tuple.tupleExact _) (wpAny_newObj_type (wpAny_pure ⟨_,rfl,wpAny_pure h⟩) htake)
  | exact wpAny_bind (m:=Builtin.Tuple.tupleExact _) (wpAny_newObj_type (wpAny_bind (wpAny_pure (wpAny_pure ⟨_,rfl,wpAny_pure h⟩))) htake)
  | exact wpAny_bind (wpAny_bind (m:=Builtin.Tuple.tupleExact _) (wpAny_newObj_type (wpAny_pure (wpAny_pure ⟨_,rfl,wpAny_pure h⟩)) htake))
  | exact wpAny_bind (wpAny_bind (m:=Builtin.Tuple.tupleExact _) (wpAny_newObj_type (wpAny_pure ⟨_,rfl,wpAny_pure h⟩) htake))
end
end HT
namespace L2
open PySem PySem.Spec PyProof.Rows
abbrev TO:=St→Hp→(Option Int→Hp→Prop)→Prop
def PO (X:Cx)(e:Option Expr)(t:TO):Prop :=
 ∀ (pins:List (Addr×Obj)) (s:Shared) (σ:St) (H:Hp) (Q:Option Int→Hp→Prop),Inv X pins σ H s→t σ H Q →
  wpAny (model X.prog X.w) X.A (evalPart e X.env) (fun u s'=>∃ o H',Inv X pins σ H' s'∧IsPart u o∧Q o H') X.xe s
def tNoPart:TO:=fun _ H Q=>Q none H
def tPart (t:TE):TO:=fun σ H Q=>t σ H fun x H1=>∃ i,x=.int i∧Q (some i) H1
theorem oM {ns:List Int}:∀ {us:List Value},Vals (ns.map V.int) us→IntsAre us ns:=by
 induction ns with
 | nil=>intro us r;rw[List.map_nil]at r;cases r;exact .nil
 | cons n ns ih =>
  intro us r
  rw[List.map_cons]at r
  cases r with
  | cons r1 r2 =>
   obtain⟨t,e⟩:=r1
   subst e
   exact .cons n t (ih r2)
section
variable {X:Cx}{e:Expr}{te:TE}{lo hi:Option Expr}{tl th:TO}{pos p2:Pos}
theorem vO:PO X none tNoPart:=by
 intro pins s σ H Q I h
 rw[evalPart_none]
 exact wpAny_pure ⟨none,H,I,.none,h⟩
theorem vP (h:PE X e te):PO X (some e) (tPart te):=by
 intro pins s σ H Q I hw
 rw[evalPart_some]
 refine thn (h pins s σ H _ I hw) fun u s1 ⟨x,H1,I1,r1,q1⟩=>?_
 obtain⟨i,rfl,q⟩:=q1
 obtain⟨t,rfl⟩:=r1
 exact⟨some i,H1,I1,.int i t,q⟩
def SlR (X:Cx)(r:V→Option Int→Option Int→Hp→VK→Prop):Prop :=
 ∀ (pins:List (Addr×Obj)) (s:Shared) (σ:St) (H:Hp) (x:V) (v vl vu:Value) (lo hi:Option Int) (sl:Addr) (Q:VK),Inv X pins σ H s→RelV x v→s.heap.IsSliceOf sl vl vu .none→IsPart vl lo→IsPart vu hi→r x lo hi H Q →
  ∃ T id,typeLookup (.type T) "__getitem__"=pure (some (.builtin id))∧s.TypeIs v T∧wpAny (model X.prog X.w) X.A (getItem v (.ref sl)) (EP X pins σ Q) X.xe s
theorem SlR.or {r r':V→Option Int→Option Int→Hp→VK→Prop}(h:SlR X r)(h':SlR X r'):SlR X (fun x lo hi H Q=>r x lo hi H Q∨r' x lo hi H Q):=by
 intro pins s σ H x v vl vu lo hi sl Q I rx hs pl pu q
 rcases q with q | q
 ·exact h pins s σ H x v vl vu lo hi sl Q I rx hs pl pu q
 ·exact h' pins s σ H x v vl vu lo hi sl Q I rx hs pl pu q
def tSl (r:V→Option Int→Option Int→Hp→VK→Prop)(te:TE)(tl th:TO):TE:=fun σ H Q=>te σ H fun x H1=>tl σ H1 fun l H2=>th σ H2 fun u H3=>r x l u H3 Q
theorem tN {r:V→Option Int→Option Int→Hp→VK→Prop}(hr:SlR X r)(he:PE X e te)(hl:PO X lo tl)(hu:PO X hi th):PE X (.Subscript e (.Slice lo hi none p2) pos) (tSl r te tl th):=by
 intro pins s σ H Q I h
 refine Subscript_ (thn (he pins s σ H _ I h) fun v s1 ⟨x,H1,I1,r1,q1⟩=>?_)
 refine wpAny_Slice (thn (hl pins s1 σ H1 _ I1 q1) fun vl s2 ⟨l,H2,I2,pl,q2⟩=>thn (hu pins s2 σ H2 _ I2 q2) fun vu s3 ⟨u,H3,I3,pu,q3⟩=>?_)
 rw[evalPart_none]
 refine wpAny_pure ?_
 have I4:Inv X pins σ H3 { s3 with heap:=s3.heap.push { cls:=.type "slice",data:=.fields #[vl,vu,.none] } }:=I3.kept (t':=s3.toks) fun b ob q=>Heap.get?_push_of_some _ q
 obtain⟨T,id,hT,ht,hg⟩:=hr pins { s3 with heap:=s3.heap.push { cls:=.type "slice",data:=.fields #[vl,vu,.none] } } σ H3 x v vl vu l u s3.heap.objs.size Q I4 r1 (Heap.IsSliceOf.new ..) pl pu q3
 show wpAny (model X.prog X.w) X.A (subscriptTail e (.Slice lo hi none p2) v (.ref s3.heap.objs.size)) (EP X pins σ Q) X.xe { s3 with heap:=s3.heap.push { cls:=.type "slice",data:=.fields #[vl,vu,.none] } }
 exact tail_any (ops:=[.ref s3.heap.objs.size,v]) ht hT hg (by with_unfolding_all rfl)
def cutV (xs:List V)(lo hi:Option Int):List V:=(xs.drop (HT.sIx xs.length 0 lo)).take (HT.sIx xs.length xs.length hi - HT.sIx xs.length 0 lo)
theorem io (xs:List V)(lo hi:Option Int):(cutV xs lo hi).length≤xs.length:=by
 unfold cutV
 rw[List.length_take,List.length_drop]
 omega
def rSlT (K:PySem.W.Frag):V→Option Int→Option Int→Hp→VK→Prop:=fun x lo hi H Q=>∃ a xs,x=.ref a∧SqT K H a xs ∧
 ¬ (HT.sIx xs.length 0 lo=0∧HT.sIx xs.length xs.length hi=xs.length)∧∀ p,H p=none→Q (.ref p) (upd H p (.tup (cutV xs lo hi)))
theorem yg:SlR X (rSlT X.K):=by
 intro pins s σ H x v vl vu lo hi sl Q I rx hs pl pu h
 obtain⟨a,xs,rfl,hx,hw,q⟩:=h
 cases rx
 obtain⟨its,r,ht,hz⟩:=I.tuple hx
 have hlen:its.toArray.size=xs.length:=by rw[List.size_toArray];exact r.length.symm
 refine⟨"tuple",_,PyProof.Rows.slot_tuple_getitem.lookup,ht.typeIs,?_⟩
 refine HT.fK ht hs pl pu (by rw[hlen];exact hw) ?_ (by rw[hlen];exact hz)
 rw[hlen]
 refine⟨.ref s.heap.objs.size,_,I.laid (t':=s.toks) (o:=.tup (cutV xs lo hi)) (fun b ob q=>Heap.get?_push_of_some _ q) (Nat.le_refl _) ?_,rfl,q _ (I.hok.fresh (Nat.le_refl _))⟩
 exact⟨Nat.le_trans (io xs lo hi) hz,_,(r.drop (HT.sIx xs.length 0 lo)).take (HT.sIx xs.length xs.length hi - HT.sIx xs.length 0 lo),TupO.new _ _⟩
def rCatT (K:PySem.W.Frag):R2:=fun x y H Q=>∃ a b xs ys,x=.ref a∧y=.ref b∧SqT K H a xs∧SqT K H b ys∧xs≠[]∧xs.length+ys.length≤sizeLine ∧
 (ys=[]→Q (.ref a) H)∧(ys≠[]→∀ p,H p=none→Q (.ref p) (upd H p (.tup (xs++ys))))
theorem Vals.nil_iff {xs:List V}{us:List Value}(r:Vals xs us):us=[]↔xs=[]:=by
 cases r with
 | nil=>simp
 | cons _ _=>simp
theorem vQ:OpR X (binaryOp .Add) (rCatT X.K):=by
 intro pins s σ H x y v u Q I rx ry h
 obtain⟨a,b,xs,ys,rfl,rfl,ha,hb,hx,hz,q1,q2⟩:=h
 cases rx
 cases ry
 obtain⟨its,r1,p1,_⟩:=I.tuple ha
 obtain⟨its2,r2,p2,_⟩:=I.tuple hb
 refine HT.vN p1 p2 (fun z=>hx (r1.nil_iff.mp z)) (fun z=>⟨.ref a,H,I,rfl,q1 (r2.nil_iff.mp z)⟩) (fun z=>?_) (by rw[← r1.length,← r2.length];exact hz)
 refine⟨.ref s.heap.objs.size,_,I.laid (t':=s.toks) (o:=.tup (xs++ys)) (fun b ob q=>Heap.get?_push_of_some _ q) (Nat.le_refl _) ?_,rfl,q2 (fun w=>z (r2.nil_iff.mpr w)) _ (I.hok.fresh (Nat.le_refl _))⟩
 exact⟨by rw[List.length_append];exact hz,_,r1.append r2,TupO.new _ _⟩
end
end L2
namespace L2
open PySem PySem.Spec PyProof.Rows
def ixN (n:Nat)(i:Int):Option Nat:=if 0≤i then (if i < n then some i.toNat else none) else if -(n:Int)≤i then some (i+n).toNat else none
def atI {α:Type}(xs:List α)(i:Int):Option α:=(ixN xs.length i).bind fun j=>xs[j]?
theorem pU {n:Nat}{i:Int}{j:Nat}(h:ixN n i=some j):seqIndex? i n=some j∧j < n∧-(n:Int)≤i∧i < n:=by
 unfold ixN at h
 by_cases h0:0≤i
 ·rw[if_pos h0]at h
  by_cases h1:i < n
  ·rw[if_pos h1]at h
   have e:i.toNat=j:=Option.some.inj h
   exact⟨by rw[seqIndex_of h0 h1,e],by omega,by omega,h1⟩
  ·rw[if_neg h1]at h;cases h
 ·rw[if_neg h0]at h
  by_cases h1 : -(n:Int)≤i
  ·rw[if_pos h1]at h
   have e:(i+n).toNat=j:=Option.some.inj h
   exact⟨by rw[seqIndex_neg (by omega) h1,e],by omega,h1,by omega⟩
  ·rw[if_neg h1]at h;cases h
theorem lH {α:Type}{xs:List α}{i:Int}{v:α}(h:atI xs i=some v):∃ j,seqIndex? i xs.length=some j∧xs[j]?=some v∧j < xs.length∧-(xs.length:Int)≤i∧i < xs.length:=by
 unfold atI at h
 cases e:ixN xs.length i with
 | none=>rw[e]at h;cases h
 | some j =>
  rw[e]at h
  obtain⟨h1,h2,h3,h4⟩:=pU e
  exact⟨j,h1,h,h2,h3,h4⟩
theorem pV {α:Type}{xs:List α}{j:Nat}{v:α}(h:xs[j]?=some v):atI xs (j:Int)=some v:=by
 have hj:j < xs.length:=(List.getElem?_eq_some_iff.mp h).1
 have e:ixN xs.length (j:Int)=some j:=by
  unfold ixN
  rw[if_pos (by omega),if_pos (by omega)];simp
 unfold atI;rw[e];exact h
def PlainIx (b:Expr):Prop:=∀ o i,subscripted b false o i=operate [o,i] (getItem o i)
def IxR (X:Cx)(r:R2):Prop :=
 ∀ (value slice:Expr) (pins:List (Addr×Obj)) (s:Shared) (σ:St) (H:Hp) (x y:V) (v u:Value) (Q:VK),Inv X pins σ H s→RelV x v→RelV y u→r x y H Q →
  subscripted slice false v u=operate [v,u] (getItem v u)→wpAny (model X.prog X.w) X.A (subscriptTail value slice v u) (EP X pins σ Q) X.xe s
def MtR (X:Cx)(id:String)(r:V→List V→Hp→VK→Prop):Prop :=
 ∀ (pins:List (Addr×Obj)) (s:Shared) (σ:St) (H:Hp) (x:V) (xs:List V) (v:Value) (us:List Value) (Q:VK),Inv X pins σ H s→RelV x v→Vals xs us→r x xs H Q →
  wpAny (model X.prog X.w) X.A (call (.builtin id) (v::us)) (EP X pins σ Q) X.xe s
section
variable {X:Cx}{a b:Expr}{ta tb:TE}{pos:Pos}
theorem IxR.or {r r':R2}(h:IxR X r)(h':IxR X r'):IxR X (fun x y H Q=>r x y H Q∨r' x y H Q):=by
 intro value slice pins s σ H x y v u Q I rx ry q hs
 rcases q with q | q
 ·exact h value slice pins s σ H x y v u Q I rx ry q hs
 ·exact h' value slice pins s σ H x y v u Q I rx ry q hs
theorem tO {r:R2}(hr:IxR X r)(ha:PE X a ta)(hb:PE X b tb)(hs:PlainIx b):PE X (.Subscript a b pos) (tOp r ta tb):=by
 intro pins s σ H Q I h
 exact Subscript_ (binT ha hb I h fun v u s2 x y H2 I2 rx ry q=>hr a b pins s2 σ H2 x y v u Q I2 rx ry q (hs _ _))
def rIxL (K:PySem.W.Frag):R2:=fun x y H Q=>∃ p xs i v,x=.ref p∧y=.int i∧SqL K H p xs∧atI xs i=some v∧Q v H
def rIxT (K:PySem.W.Frag):R2:=fun x y H Q=>∃ p xs i v,x=.ref p∧y=.int i∧SqT K H p xs∧atI xs i=some v∧Q v H
def rIxS:R2:=fun x y H Q=>∃ z i c,x=.str z∧y=.int i∧z.length≤sizeLine∧atI z.cps.toList i=some c∧Q (.str ⟨#[c]⟩) H
theorem lI:IxR X (rIxL X.K):=by
 intro value slice pins s σ H x y v u Q I rx ry h hs
 obtain⟨p,xs,i,z,rfl,rfl,hq,he,q⟩:=h
 cases rx
 obtain⟨t,rfl⟩:=ry
 obtain⟨its,r,pl,hz⟩:=I.list hq
 obtain⟨j,h1,h2,h3,h4,h5⟩:=lH he
 obtain⟨w,ew,rw'⟩:=r.get h2
 have hl:=r.length
 have hn:=line63
 have fin:EP X pins σ Q w s:=⟨z,H,I,rw',q⟩
 by_cases h0:0≤i
 ·have hj:i.toNat=j:=by
   rw[seqIndex_of h0 h5]at h1
   exact Option.some.inj h1
  exact item_listR pl.isList h0 (by omega) (by rw[hj];simpa using ew) fin hs
 ·have hj:(i+(its.toArray.size:Int)).toNat=j:=by
   rw[seqIndex_neg (by omega) h4]at h1
   rw[List.size_toArray,← hl]
   exact Option.some.inj h1
  exact subscriptTail_builtinR (x:=w) pl.isList.typeIs slot_list_getitem.lookup
   (wpAny_getItem_list_neg (Q:=fun r s'=>r=w∧EP X pins σ Q r s') pl.isList (by omega) (by rw[List.size_toArray]<;>omega) (by omega) (by rw[hj];simpa using ew) ⟨rfl,fin⟩) hs
theorem yh:IxR X (rIxT X.K):=by
 intro value slice pins s σ H x y v u Q I rx ry h hs
 obtain⟨p,xs,i,z,rfl,rfl,hq,he,q⟩:=h
 cases rx
 obtain⟨t,rfl⟩:=ry
 obtain⟨its,r,pl,hz⟩:=I.tuple hq
 obtain⟨j,h1,h2,h3,h4,h5⟩:=lH he
 obtain⟨w,ew,rw'⟩:=r.get h2
 have hl:=r.length
 have hn:=line63
 have fin:EP X pins σ Q w s:=⟨z,H,I,rw',q⟩
 exact subscriptTail_builtinR (x:=w) pl.typeIs slot_tuple_getitem.lookup
  (getItem_tuple (j:=j) (Q:=fun r s'=>r=w∧EP X pins σ Q r s') pl (by omega) (by omega) (by rw[List.size_toArray,← hl];exact h1) (by simpa using ew) ⟨rfl,fin⟩) hs
theorem yi:IxR X rIxS:=by
 intro value slice pins s σ H x y v u Q I rx ry h hs
 obtain⟨z,i,c,rfl,rfl,hz,he,q⟩:=h
 obtain⟨t,rfl⟩:=rx
 obtain⟨t',rfl⟩:=ry
 obtain⟨j,h1,h2,h3,h4,h5⟩:=lH he
 have hl:z.cps.toList.length=z.length:=by simp[Str.length]
 rw[hl]at h1 h4 h5
 have hn:=line63
 exact tail_any (typeIs_str s z t) slot_str_getitem.lookup (getItem_str (c:=c) (by
  have e1:decide (i < -(2^63:Int))=false:=decide_eq_false (by omega)
  have e2:decide (i≥2^63)=false:=decide_eq_false (by omega)
  rw[e1,e2,Bool.or_false]) (by rw[h1];simpa using h2) ⟨.str ⟨#[c]⟩,H,I.tok _,⟨_,rfl⟩,q⟩) hs
def rIx (K:PySem.W.Frag):R2:=fun x y H Q=>rIxL K x y H Q∨rIxT K x y H Q∨rIxS x y H Q
theorem yj:IxR X (rIx X.K):=lI.or (yh.or yi)
theorem oN (its:List Value)(n j:Nat)(u:Value):Obj.mapSeq (·.setIfInBounds j u) { cls:=.type "list",data:=.seq its.toArray n }={ cls:=.type "list",data:=.seq (its.set j u).toArray n }:=by
 simp[Obj.mapSeq]
theorem Inv.lst {pins:List (Addr×Obj)}{σ:St}{H:Hp}{s:Shared}{p:Addr}{xs:List V}(I:Inv X pins σ H s)(h:H p=some (.lst xs)) :
  ∃ (its:List Value) (n:Nat),Vals xs its∧s.heap.get? p=some { cls:=.type "list",data:=.seq its.toArray n }∧xs.length≤sizeLine:=by
 obtain⟨z,its,n,r,e⟩:=I.hok p _ h
 exact⟨its,n,r,e,z⟩
theorem Inv.lstUpd {pins:List (Addr×Obj)}{σ:St}{H:Hp}{s:Shared}{p:Addr}{xs ys:List V}{its its':List Value}{n n':Nat}{f:Obj→Obj}(I:Inv X pins σ H s)(h:H p=some (.lst xs))
  (ho:s.heap.get? p=some { cls:=.type "list",data:=.seq its.toArray n }) (hf:f { cls:=.type "list",data:=.seq its.toArray n }={ cls:=.type "list",data:=.seq its'.toArray n' }) (r:Vals ys its') (hz:ys.length≤sizeLine) (t:Nat) :
  Inv X pins σ (upd H p (.lst ys)) { s with heap:=s.heap.update p f,toks:=t }:=by
 have e:(s.heap.update p f).get? p=some { cls:=.type "list",data:=.seq its'.toArray n' }:=by
  rw[Heap.get?_update_self f ho (by rw[hf]<;>rfl),hf]
 refine I.write (x:=p) (e:=p) (by rw[h];trivial) (.inl rfl) (fun b u hb q=>(Heap.get?_update_other _ _ (Ne.symm hb)).trans q) ⟨_,e⟩ ?_
 exact⟨hz,its',n',r,e⟩
def rSetL:V→V→V→Hp→(Hp→Prop)→Prop:=fun o i v H Q=>∃ p xs k j,o=.ref p∧i=.int k∧H p=some (.lst xs)∧ixN xs.length k=some j∧Q (upd H p (.lst (xs.set j v)))
theorem tQ:PSet X rSetL:=by
 intro pins s σ H o i v ov iv u Q I ro ri rv h
 obtain⟨p,xs,k,j,rfl,rfl,hp,hj,q⟩:=h
 cases ro
 obtain⟨t,rfl⟩:=ri
 obtain⟨its,n,r,ho,hz⟩:=I.lst hp
 obtain⟨h1,h2,h3,h4⟩:=pU hj
 have hl:=r.length
 have hn:=line63
 have I':Inv X pins σ (upd H p (.lst (xs.set j v))) { s with heap:=s.heap.update p (Obj.mapSeq (·.setIfInBounds j u)) } :=
  I.lstUpd hp ho (oN its n j u) (r.set rv j) (by rw[List.length_set];exact hz) s.toks
 by_cases h0:0≤k
 ·have hk:k.toNat=j:=by
   rw[seqIndex_of h0 h4]at h1
   exact Option.some.inj h1
  exact PySem.W.ki_setAt ho h0 (by omega) (by rw[List.size_toArray,← hl];exact h4) (by rw[hk];exact⟨_,I',q⟩)
 ·have hk:(k+(its.toArray.size:Int)).toNat=j:=by
   rw[seqIndex_neg (by omega) h3]at h1
   rw[List.size_toArray,← hl]
   exact Option.some.inj h1
  exact PySem.W.ki_setBack ho (by omega) (by rw[List.size_toArray,← hl];exact h3) (by omega) (by rw[hk];exact⟨_,I',q⟩)
theorem lJ (lo hi:Option Int)(n:Nat):(sliceBounds lo hi none n).1=((HT.sIx n 0 lo:Nat):Int)∧(sliceBounds lo hi none n).2.1=((HT.sIx n n hi:Nat):Int)∧(sliceBounds lo hi none n).2.2=1:=by
 refine⟨?_,?_,rfl⟩
 ·cases lo with
  | none=>simp[sliceBounds,HT.sIx]
  | some i =>
   simp only[sliceBounds,HT.sIx,Option.getD_none,show (1:Int) > 0 by decide,if_true]
   by_cases h:i < 0
   ·simp only[h,if_true]<;>omega
   ·simp only[h,if_false]<;>omega
 ·cases hi with
  | none=>simp[sliceBounds,HT.sIx]
  | some i =>
   simp only[sliceBounds,HT.sIx,Option.getD_none,show (1:Int) > 0 by decide,if_true]
   by_cases h:i < 0
   ·simp only[h,if_true]<;>omega
   ·simp only[h,if_false]<;>omega
theorem ki (its:List Value)(lo hi:Option Int):slicePick its.toArray lo hi none=((its.drop (HT.sIx its.length 0 lo)).take (HT.sIx its.length its.length hi - HT.sIx its.length 0 lo)).toArray:=by
 obtain⟨h1,h2,h3⟩:=lJ lo hi its.toArray.size
 unfold slicePick
 rw[h1,h2,h3]
 simp only[sliceRange_one,pick_run,List.size_toArray]<;>rfl
def rSlL (K:PySem.W.Frag):V→Option Int→Option Int→Hp→VK→Prop:=fun x lo hi H Q=>∃ a xs,x=.ref a∧SqL K H a xs∧∀ p,H p=none→Q (.ref p) (upd H p (.lst (cutV xs lo hi)))
theorem vR:SlR X (rSlL X.K):=by
 intro pins s σ H x v vl vu lo hi sl Q I rx hs pl pu h
 obtain⟨a,xs,rfl,hx,q⟩:=h
 cases rx
 obtain⟨its,r,ht,hz⟩:=I.list hx
 have hlen:=r.length
 refine⟨"list",_,slot_list_getitem.lookup,ht.isList.typeIs,?_⟩
 refine wpAny_getItem_list_slice ht.isList hs pl pu .none (by simp) ?_ (by rw[List.size_toArray]<;>omega)
 rw[ki,← hlen]
 refine⟨.ref s.heap.objs.size,_,I.laid (t':=s.toks) (o:=.lst (cutV xs lo hi)) (fun b ob q=>Heap.get?_push_of_some _ q) (Nat.le_refl _) ?_,rfl,q _ (I.hok.fresh (Nat.le_refl _))⟩
 exact⟨Nat.le_trans (io xs lo hi) hz,_,0,(r.drop (HT.sIx xs.length 0 lo)).take (HT.sIx xs.length xs.length hi - HT.sIx xs.length 0 lo),Heap.get?_push_size _ rfl⟩
def flatV:V→Bool
 | .non=>true
 | .bl _=>true
 | .int _=>true
 | .str _=>true
 | _=>false
def eqV:V→V→Bool
 | .non,.non=>true
 | .bl a,.bl b=>a==b
 | .bl a,.int b=>(if a then 1 else 0)==b
 | .int a,.bl b=>a==(if b then 1 else 0)
 | .int a,.int b=>a==b
 | .str a,.str b=>a==b
 | _,_=>false
theorem tR {A:Around}{s:Shared}{y x:V}{u v:Value}(ry:RelV y u)(rx:RelV x v)(fy:flatV y=true)(fx:flatV x=true):SeqAt.EqAt A s u v (eqV y x):=by
 cases y with
 | non =>
  cases ry
  cases x with
  | non=>cases rx;exact SeqAt.EqAt.same _
  | bl b=>cases rx;exact SeqAt.EqAt.none_bool b
  | int b=>obtain⟨t,rfl⟩:=rx;exact SeqAt.EqAt.none_int b t
  | str b=>obtain⟨t,rfl⟩:=rx;exact SeqAt.EqAt.none_str b t
  | _=>exact absurd (show false=true from fx) Bool.false_ne_true
 | bl a =>
  cases ry
  cases x with
  | non=>cases rx;exact SeqAt.EqAt.bool_none a
  | bl b=>cases rx;exact SeqAt.EqAt.bool_bool a b
  | int b=>obtain⟨t,rfl⟩:=rx;exact SeqAt.EqAt.bool_int a b t
  | str b=>obtain⟨t,rfl⟩:=rx;exact SeqAt.EqAt.bool_str a b t
  | _=>exact absurd (show false=true from fx) Bool.false_ne_true
 | int a =>
  obtain⟨t',rfl⟩:=ry
  cases x with
  | non=>cases rx;exact SeqAt.EqAt.int_none a t'
  | bl b=>cases rx;exact SeqAt.EqAt.int_bool a t' b
  | int b=>obtain⟨t,rfl⟩:=rx;exact SeqAt.EqAt.int_int a t' b t
  | str b=>obtain⟨t,rfl⟩:=rx;exact SeqAt.EqAt.int_str a t' b t
  | _=>exact absurd (show false=true from fx) Bool.false_ne_true
 | str a =>
  obtain⟨t',rfl⟩:=ry
  cases x with
  | non=>cases rx;exact SeqAt.EqAt.str_none a t'
  | bl b=>cases rx;exact SeqAt.EqAt.str_bool a t' b
  | int b=>obtain⟨t,rfl⟩:=rx;exact SeqAt.EqAt.str_int a t' b t
  | str b=>obtain⟨t,rfl⟩:=rx;exact SeqAt.EqAt.str_str a t' b t
  | _=>exact absurd (show false=true from fx) Bool.false_ne_true
 | _=>exact absurd (show false=true from fy) Bool.false_ne_true
theorem lK:CallR X (.builtin "len") (fun xs H Q=>∃ p ys,xs=[.ref p]∧(SqL X.K H p ys∨SqT X.K H p ys)∧Q (.int ys.length) H):=by
 intro pins s σ H xs us Q I r h
 obtain⟨p,ys,rfl,hq,q⟩:=h
 obtain⟨u,rfl,rx⟩:=vals1 r
 cases rx
 have hn:=line63
 rcases hq with hq | hq
 ·obtain⟨its,r',pl,hz⟩:=I.list hq
  have hlen:=r'.length
  exact Calls.call_len_list pl.isList (by simp only[List.size_toArray]<;>omega) ⟨.int ys.length,H,I.tok _,⟨s.toks+1,by rw[List.size_toArray,hlen]⟩,q⟩
 ·obtain⟨its,r',pl,hz⟩:=I.tuple hq
  have hlen:=r'.length
  exact len_tuple pl (by simp only[List.size_toArray]<;>omega) ⟨.int ys.length,H,I.tok _,⟨s.toks+1,by rw[List.size_toArray,hlen]⟩,q⟩
theorem lL:CallR X (.type "list") (fun xs H Q=>∃ p ys,xs=[.ref p]∧(SqL X.K H p ys∨SqT X.K H p ys)∧∀ l,H l=none→Q (.ref l) (upd H l (.lst ys))):=by
 intro pins s σ H xs us Q I r h
 obtain⟨p,ys,rfl,hq,q⟩:=h
 obtain⟨u,rfl,rx⟩:=vals1 r
 cases rx
 have fin:∀ (its:List Value),Vals ys its→ys.length≤sizeLine→∀ (h':Heap) (c':Nat),(∀ b o',s.heap.get? b=some o'→h'.get? b=some o') →
   h'.get? s.heap.objs.size=some { cls:=.type "list",dict:=none,data:=.seq its.toArray c',slots:=#[] }→EP X pins σ Q (.ref s.heap.objs.size) { s with heap:=h' }:=fun its r' hz h' c' kp e =>
  ⟨.ref s.heap.objs.size,_,I.laid (t':=s.toks) kp (Nat.le_refl _) (show ObjOk X.prog X.w _ h' _ (.lst ys) from ⟨hz,its,c',r',e⟩),rfl,q _ (I.hok.fresh (Nat.le_refl _))⟩
 rcases hq with hq | hq
 ·obtain⟨its,r',pl,hz⟩:=I.list hq
  have hlen:=r'.length
  obtain⟨o,ho,hc,n,hd⟩:=pl.isList
  exact call_list_seq p (.inl rfl) ho hc hd (fun h' c' kp e=>fin its r' hz h' c' kp e) (by simp only[List.size_toArray]<;>omega)
 ·obtain⟨its,r',pl,hz⟩:=I.tuple hq
  have hlen:=r'.length
  obtain⟨o,ho,hc,n,hd⟩:=pl
  exact call_list_seq p (.inr rfl) ho hc hd (fun h' c' kp e=>fin its r' hz h' c' kp e) (by simp only[List.size_toArray]<;>omega)
theorem kj:CallR X (.type "tuple") (fun xs H Q=>∃ p ys,xs=[.ref p]∧((SqL X.K H p ys∧∀ l,H l=none→Q (.ref l) (upd H l (.tup ys)))∨(SqT X.K H p ys∧Q (.ref p) H))):=by
 intro pins s σ H xs us Q I r h
 obtain⟨p,ys,rfl,h⟩:=h
 obtain⟨u,rfl,rx⟩:=vals1 r
 cases rx
 rcases h with ⟨hq,q⟩ | ⟨hq,q⟩
 ·obtain⟨its,r',pl,hz⟩:=I.list hq
  have hlen:=r'.length
  refine call_tuple_list pl.isList (fun h' kp=>?_) (by simp only[List.size_toArray]<;>omega)
  have I1:Inv X pins σ H { s with heap:=h' }:=I.kept (t':=s.toks) kp
  have I2:Inv X pins σ (upd H h'.objs.size (.tup ys)) { s with heap:=h'.push { cls:=.type "tuple",data:=.seq its.toArray } } :=
   I1.laid (t':=s.toks) (fun b o e=>Heap.get?_push_of_some _ e) (Nat.le_refl _) (show ObjOk X.prog X.w _ _ _ (.tup ys) from ⟨hz,its,r',TupO.new _ _⟩)
  exact⟨.ref h'.objs.size,_,I2,rfl,q _ (I1.hok.fresh (Nat.le_refl _))⟩
 ·obtain⟨its,r',pl,hz⟩:=I.tuple hq
  exact call_tuple_same pl ⟨.ref p,H,I,rfl,q⟩
def tyV (K:PySem.W.Frag)(T:String)(x:V)(H:Hp):Prop:=match x with
 | .str _=>T="str"
 | .int _=>T="int"
 | .ref p=>(T="list" ∧ ∃ xs,SqL K H p xs)∨(T="tuple" ∧ ∃ o,K.lookup p=some o∧o.cls=.type "tuple" ∧ o.dict=none) ∨
   (T="dict" ∧ ((∃ kvs,H p=some (.dK kvs))∨∃ kvs,H p=some (.dT kvs)))∨(T="set" ∧ ∃ S n,H p=some (.set S n))
 | _=>False
theorem tU {pins:List (Addr×Obj)}{σ:St}{H:Hp}{s:Shared}{T:String}{x:V}{v:Value}(I:Inv X pins σ H s)(r:RelV x v)(ty:tyV X.K T x H) :
  s.TypeIs v T∧∀ a,v=.ref a→∃ ob,s.heap.get? a=some ob∧ob.dict=none:=by
 cases x with
 | str z =>
  obtain⟨t,rfl⟩:=r
  cases (show T="str" from ty)
  exact⟨typeIs_str s z t,fun _ e=>nomatch e⟩
 | int i =>
  obtain⟨t,rfl⟩:=r
  cases (show T="int" from ty)
  exact⟨typeIs_int s i t,fun _ e=>nomatch e⟩
 | ref p =>
  cases r
  rcases ty with ⟨rfl,xs,hq⟩ | ⟨rfl,o,hk,hc,hd⟩ | ⟨rfl,hk⟩ | ⟨rfl,S,n,hk⟩
  ·obtain⟨its,_,pl,_⟩:=I.list hq
   refine⟨pl.isList.typeIs,fun a e=>?_⟩
   cases e
   obtain⟨o,n,e,c,hd,_⟩:=pl
   exact⟨o,e,hd⟩
  ·refine⟨⟨o,I.kIn p o hk,hc⟩,fun a e=>?_⟩
   cases e
   exact⟨o,I.kIn _ o hk,hd⟩
  ·have z:∃ o,s.heap.get? p=some o∧o.ExactDict:=by
    rcases hk with ⟨kvs,hk⟩ | ⟨kvs,hk⟩
    ·obtain⟨_,_,_,_,o,_,_,e,ex,_⟩:=I.hok p _ hk
     exact⟨o,e,ex⟩
    ·obtain⟨_,_,_,_,o,_,_,e,ex,_⟩:=I.hok p _ hk
     exact⟨o,e,ex⟩
   obtain⟨o,e,ex⟩:=z
   refine⟨⟨o,e,ex.1⟩,fun a e2=>?_⟩
   cases e2
   exact⟨o,e,ex.2.1⟩
  ·obtain⟨o,_,_,_,e,ex,_⟩:=I.hok p _ hk
   refine⟨⟨o,e,ex.1⟩,fun a e2=>?_⟩
   cases e2
   exact⟨o,e,ex.2.1⟩
 | _=>exact False.elim ty
def tBM (K:PySem.W.Frag)(T:String)(r:V→List V→Hp→VK→Prop)(to:TE)(t:TA):TE:=fun σ H Q=>to σ H fun x H1=>tyV K T x H1∧t σ H1 fun xs H2=>r x xs H2 Q
variable {o e:Expr}{es:List Expr}{to:TE}{t:TA}{name:Str}{apos cpos:Pos}{T id:String}{r:V→List V→Hp→VK→Prop}
theorem kS (pa:PlainAttrs T)(slot:Slot T name id)(hty:typeOf (.builtin id)=pure (.type "method_descriptor"))(hm:MtR X id r)(ho:PE X o to)(ha:PA X (e::es) t)
  (hbase:attributeBase o name X.env (eval o X.env)=eval o X.env:=by rfl)
  (hfew:((backTo cpos (starEach (e::es) X.env)).all (fun x=>!x.1)&&(backToKw cpos (keywordEach [] X.env)).all (fun x=>x.1.isSome)
   && decide ((e::es).length+([]:List Keyword).length+(if ([]:List Keyword).isEmpty then 0 else 1) < 30))=true:=by rfl)
  (hline:(apos.endLine==cpos.line)=true:=by rfl) (hs:starEach (e::es) X.env=(false,eval e X.env)::starEach es X.env:=by rfl) (hplain:(backTo cpos (starEach es X.env)).any (·.1)=false:=by rfl) :
  PE X (.Call (.Attribute o name apos) (e::es) [] cpos) (tBM X.K T r to t):=by
 intro pins s σ H Q I h
 refine wpAny_Call_method_late hbase hfew hline rfl (thn (ho pins s σ H _ I h) fun v s1 ⟨x,H1,I1,r1,ty,q1⟩=>?_)
 obtain⟨h1,h2⟩:=tU I1 r1 ty
 refine⟨T,id,pa,slot,hty,h1,h2,?_⟩
 have hA:=ha cpos pins s1 σ H1 _ I1 q1
 rw[hs]at hA ⊢
 refine Calls.callWith_builtin (by show (false||(backTo cpos (starEach es X.env)).any (·.1))=false;rw[hplain]<;>rfl) (Calls.evalArgs_plain ?_)
 exact thn hA fun us s2 ⟨vs,H2,I2,r2,q2⟩=>hm pins s2 σ H2 x vs v us Q I2 r1 r2 q2
end
end L2
namespace L2
open PySem PySem.Spec PyProof.Rows
def MtM (X:Cx)(id:String)(r:V→List V→Hp→VK→Prop):Prop :=
 ∀ (pins:List (Addr×Obj)) (s:Shared) (σ:St) (H:Hp) (x:V) (xs:List V) (v:Value) (us:List Value) (Q:VK),Inv X pins σ H s→RelV x v→Vals xs us→r x xs H Q →
  wpAny (model X.prog X.w) X.A (call (.builtin id) (v::us)) (EP X pins σ Q) X.xe s
theorem Vals.one:∀ {x:V} {us:List Value},Vals [x] us→∃ u,us=[u]∧RelV x u
 | _,_,.cons r .nil=>⟨_,rfl,r⟩
theorem Vals.rep {xs:List V}{us:List Value}(h:Vals xs us):∀ k:Nat,Vals (List.replicate k xs).flatten (List.replicate k us).flatten
 | 0=>.nil
 | k+1=>by
  rw[List.replicate_succ,List.replicate_succ,List.flatten_cons,List.flatten_cons]
  exact Vals.append h (Vals.rep h k)
theorem gK (its:List Value):∀ (k:Nat) (acc:List Value),
  List.foldl (fun x1 x2=>x1++x2) acc.toArray (List.replicate k its.toArray)=(acc++(List.replicate k its).flatten).toArray
 | 0,acc=>by simp
 | k+1,acc=>by
  have e:acc.toArray++its.toArray=(acc++its).toArray:=by simp
  have e2:(acc++its)++(List.replicate k its).flatten=acc++(List.replicate (k+1) its).flatten:=by
   rw[List.replicate_succ,List.flatten_cons,List.append_assoc]
  rw[← e2,← gK its k (acc++its),← e,List.replicate_succ,List.foldl_cons]
section
variable {X:Cx}{pins:List (Addr×Obj)}{σ:St}{H:Hp}{s:Shared}{l b:Addr}{xs ys zs:List V}
theorem Inv.lset {its its':List Value}{n:Nat}{f:Array Value→Array Value}{t':Nat}(I:Inv X pins σ H s)(hH:H l=some (.lst xs))
  (e:s.heap.get? l=some { cls:=.type "list",data:=.seq its.toArray n }) (hf:f its.toArray=its'.toArray) (hv:Vals ys its') (hz:ys.length≤sizeLine) :
  Inv X pins σ (upd H l (.lst ys)) { s with heap:=s.heap.update l (Obj.mapSeq f),toks:=t' }:=by
 have q:=PySem.IsL.update e f
 rw[hf]at q
 refine I.write (x:=l) (e:=l) (by rw[hH];exact trivial) (.inl rfl) (fun b' u hb hu=>(Heap.get?_update_other s.heap (Obj.mapSeq f) (Ne.symm hb)).trans hu) ⟨_,q⟩ ?_
 exact⟨hz,its',_,hv,q⟩
theorem Inv.lnew {its:List Value}{t':Nat}(I:Inv X pins σ H s)(hv:Vals ys its)(hz:ys.length≤sizeLine) :
  Inv X pins σ (upd H s.heap.objs.size (.lst ys)) { s with heap:=s.heap.push { cls:=.type "list",data:=.seq its.toArray },toks:=t' } :=
 I.laid (fun _ _ q=>Heap.get?_push_of_some _ q) (Nat.le_refl _) ⟨hz,its,0,hv,Heap.get?_push_size _ rfl⟩
theorem Inv.fresh (I:Inv X pins σ H s):H s.heap.objs.size=none:=I.hok.fresh (Nat.le_refl _)
theorem Inv.lstM (I:Inv X pins σ H s)(hH:H l=some (.lst xs)):xs.length≤sizeLine∧∃ (its:List Value) (n:Nat),Vals xs its∧xs.length=its.length∧s.heap.get? l=some { cls:=.type "list",data:=.seq its.toArray n }:=by
 obtain⟨z,its,n,r,e⟩:=I.hok l _ hH
 exact⟨z,its,n,r,r.length,e⟩
theorem notLongL {n:Nat}(h:n≤sizeLine):Builtin.List.listTooLong n=false:=by
 unfold Builtin.List.listTooLong
 exact decide_eq_false (by omega)
end
section
variable {X:Cx}
def rAppend:V→List V→Hp→VK→Prop:=fun x vs H Q=>∃ l xs y,x=.ref l∧vs=[y]∧H l=some (.lst xs)∧xs.length < sizeLine∧Q .non (upd H l (.lst (xs++[y])))
theorem kT:MtM X "list.append" rAppend:=by
 intro pins s σ H x vs v us Q I rx rv h
 obtain⟨l,xs,y,rfl,rfl,hH,hz,q⟩:=h
 cases rx
 obtain⟨u,rfl,ru⟩:=rv.one
 obtain⟨z,its,n,r,hl,e⟩:=I.lstM hH
 refine call_meets F.slot_list_append ⟨_,e,rfl⟩ F.entry_list_append (F.args_list_append_2 _ _) (PySem.list_append l its.toArray n u (by rw[List.size_toArray];omega)) ⟨e,?_⟩
 refine⟨.non,_,I.lset (its':=its++[u]) hH e (by simp) (r.append (.cons ru .nil)) ?_,rfl,q⟩
 rw[List.length_append,List.length_singleton]
 omega
theorem pW {α:Type}(xs:List α)(k:Nat):(List.replicate k xs).flatten.length=k*xs.length:=by
 induction k with
 | zero=>simp
 | succ k ih=>rw[List.replicate_succ,List.flatten_cons,List.length_append,ih,Nat.succ_mul,Nat.add_comm]
end
section
variable {prog:Program}{w:World}{A:Around}{E:Value→Shared→Prop}{s:Shared}
set_option maxRecDepth 100000 in
end
section
variable {X:Cx}
end
end L2
namespace Att
open PySem PySem.W PySem.Calls PyProof.Rows
theorem iG {P:Params}{h:Heap}:∀ (ns:List Int) (vs:List Value),WellAll P h vs (ns.map WData.int)→IntsAre vs ns:=by
 intro ns
 induction ns with
 | nil =>
  intro vs w
  rw[List.map_nil]at w
  cases w
  exact .nil
 | cons n ns ih =>
  intro vs w
  rw[List.map_cons]at w
  cases w with
  | cons a b =>
   cases a
   exact .cons _ _ (ih _ b)
theorem qU {l:OpenLaw}{n:Nat}(hn:l.most=some n){P:Params}{h:Heap}{args:List WData}{vals:List Value}
  (hpre:l.row.toRowW.claim.pre args=true) (hwl:WellAll P h vals args) :
  ∃ a vs ns,vals=[Value.ref a]∧args=[WData.list (ns.map WData.int)]∧h.get? a=some { cls:=.type "list",data:=.seq vs.toArray }∧IntsAre vs ns∧ns.length≤n:=by
 have hsh:WShape.hasAll [] args [.list .int]=true:=(pre_splitW hpre).1
 have hc:l.pre.holds [] { args:=args }=true:=(pre_splitW hpre).2
 obtain⟨d,r,rfl,h1,h2⟩:=hasAllW_cons hsh
 obtain rfl:=hasAllW_nil h2
 obtain⟨xs,rfl,h3⟩:=hasW_list h1
 obtain⟨ns,rfl⟩:=items_int h3
 have hlen:ns.length≤n:=by
  unfold OpenLaw.pre at hc
  have h4:(WTm.not (.lt (.lit (.int (n:Int))) (.len (.arg 0)))).holds [] { args:=[.list (ns.map .int)] }=true:=by
   have h4:=(holds_andW hc).1
   rw[hn]at h4
   exact h4
  have h5:=condW_of h4 (w_not (w_lt w_lit (w_len_list (w_arg rfl))))
  rw[List.length_map]at h5
  refine Nat.le_of_not_lt fun q=>?_
  have q':(n:Int) < ((ns.length:Nat):Int):=by omega
  first
   | (rw[decide_eq_true q']at h5;exact absurd h5 (by decide))
   | (simp at h5;omega)
 cases hwl with
 | cons w1 w2 =>
  cases w2
  cases w1 with
  | list ho hall=>exact⟨_,_,ns,rfl,rfl,ho,iG ns _ hall,hlen⟩
theorem qV (l:OpenLaw)(args:List WData):l.row.toRowW.claim.post args (.bool true) args=true :=
 postW_of (r:=l.row.toRowW) (X:=(true==true))
  (show WShape.has [] (.bool true) .bool=true by first | rfl | decide | simp[WShape.has,WShape.arms,WShape.armsAll])
  (show (WTm.eq .res (.lit (.bool true))).value [] { args:=args,res:=some (.bool true),after:=args }=some (.bool (true==true)) from w_eq_bool (w_res rfl) w_lit) rfl
theorem attach_call {l:OpenLaw}{n:Nat}{q:Program}{loose:List Str}{XP:(Str→Option Value)→Heap→Prop}{YP:World→Heap→Prop}{d:DefRec}
  (hn:l.most=some n) (hdf:d.params.defaults=[])
  (call:∀ (w:World) (s₀ s₁:Shared) (mg mb:Str→Option Value) (fa:Addr) (o:Obj) (pm cd doc:Value) (a:Addr) (vs:List Value) (ns:List Int),
   Ground q loose [] XP w s₀ mg mb s₁.heap→YP w s₁.heap →
   s₁.heap.get? fa=some o→o.data=.func (docDef d.name d.params d.body d.scope pm cd doc)→s₁.heap.CodeRec cd d.name→mg d.name=some (.ref fa) →
   s₁.heap.get? a=some { cls:=.type "list",data:=.seq vs.toArray }→IntsAre vs ns→ns.length≤n→s₁.gens = #[] →
   codeAny (model l.prog w) callerA (.call (.ref fa) ⟨[.ref a],[]⟩) (fun r s'=>r=.ok (.ret (.bool true))∧OldK s₁.heap s'.heap∧s'.os=s₁.os∧AllBare s'.gens) s₁) :
  WalkO q loose XP YP l.row.toRowW d [] (fun f vs=>PySem.call f vs):=by
 intro w s₀ s₁ mg mb G Y fa o pm cd doc dV kV ho hd hcd hD hmg hg args vals as hpre hlay hrd hwl hlo
 obtain rfl:dV=.none:=Dflts.none hD hdf
 obtain rfl:kV=.none:=Dflts.noKw hD
 obtain⟨a,vs,ns,rfl,rfl,hobj,hints,hlen⟩:=qU hn hpre hwl
 refine enter_call (codeAny_mono (call w s₀ s₁ mg mb fa o pm cd doc a vs ns G Y ho (fd_plain hd) hcd hmg hobj hints hlen hg) fun r s' hq=>?_)
 obtain⟨rfl,h2,h3,h4⟩:=hq
 exact⟨.inl ⟨.bool true,.bool true,[],rfl,fun _=>rfl,.bool true,qV l _,fun _=>⟨List.Pairwise.nil,fun _ hm=>(nomatch hm)⟩⟩,h2,h3,h4⟩
section
variable {prog:Program}{w:World}{A:Around}{E:Value→Shared→Prop}{s:Shared}{K:Frag}
theorem yT {x C:Addr}{ox:Obj}{es:List DictEntry}{n:Nat}{name:Str}{expr:Bool}{v:Value}{Q:Value→Shared→Prop}
  (X:K.In s.heap) (I:PySem.W.InstAt s.heap x ox C (some (dictOf es n))) (hg:plainGet K C name=true) (hh:hasDictIn K C=true) (ha:findIn K (.ref C) name=some none)
  (hl:getL name es=some (some v)) (hv:handedIn v=true) (h:Q v { s with toks:=s.toks+1 }):wpAny (model prog w) A (getAttr (.ref x) name expr) Q E s :=
 get_value X I (plainGet_of hg).1 (findObj_own hh ha rfl hl) hv h
end
end Att
namespace L2
open PySem PySem.Spec PyProof.Rows
theorem aU:∀ {vs:List Value} {ns:List Int},IntsAre vs ns→Vals (ns.map V.int) vs
 | _,_,.nil=>.nil
 | _,_,.cons n t h=>.cons ⟨t,rfl⟩ (aU h)
def Only (H:Hp):Prop:=∀ b,H b=none∨∃ o xs,H b=some (.frz o (.lst xs))
theorem tV {P:Program}{w:World}{K:PySem.W.Frag}{mg mb:Str→Option Value}{CX:CXT}{k:Nat}{fa a:Addr}{fd:FuncData}{x:Str}{sp:Sp}{s₁:Shared}{vs:List Value}{ns:List Int}
  (KX:K.In s₁.heap) (hns:s₁.heap.Ns mainGlobals mg) (hb:s₁.heap.Ns builtinsNs mb) (hbb:∀ x:Str,x ≠ "__name__" → mb x=bootBuiltins x) (hlim:s₁.heap.NoLimit) (hg:s₁.gens = #[])
  (ha:s₁.heap.get? a=some { cls:=.type "list",data:=.seq vs.toArray }) (hi:IntsAre vs ns) (hl:ns.length≤sizeLine) (hr:Room k callerA)
  (F:∀ base:Heap,K.In base→base.Ns mainGlobals mg→FnOk P w K mg base CX k fa fd [x] sp) (hbind:∀ (s:Shared) (u:Value),BindsTo s fd ⟨[u],[]⟩ [(x,u)])
  (hsp:∀ H:Hp,Only H→SqL K H a (ns.map V.int)→sp [.ref a] H (fun v _=>v=.bl true) fun _ _ _=>False)
  (hCX:∀ H e s',CX [] H s₁ (fun _ _ _=>False) e s'→False) :
  codeAny (model P w) callerA (.call (.ref fa) ⟨[.ref a],[]⟩) (fun r s'=>r=.ok (.ret (.bool true))∧OldK s₁.heap s'.heap∧s'.os=s₁.os∧AllBare s'.gens) s₁:=by
 have rv:=aU hi
 have lenV:=hi.length
 have core:∀ H:Hp,Only H→SqL K H a (ns.map V.int)→HOk P w H s₁.heap→(∀ b,H b≠none→b=a)→(H a≠none→K.lookup a=none) →
   codeAny (model P w) callerA (.call (.ref fa) ⟨[.ref a],[]⟩) (fun r s'=>r=.ok (.ret (.bool true))∧OldK s₁.heap s'.heap∧s'.os=s₁.os∧AllBare s'.gens) s₁:=by
  intro H hO hS hok hA hK
  have base_of:∀ {b:Addr} {o:Obj},s₁.heap.get? b=some o→H b=none→(hidT s₁.heap H).get? b=some o:=fun e n=>tj e n
  have noA:∀ {b:Addr} {o:Obj} {es:Array DictEntry} {ep:Nat},s₁.heap.get? b=some o→o.data=.dict es ep→H b=none:=fun {b o es ep} e d=>by
   cases q:H b with
   | none=>rfl
   | some u =>
    have e':b=a:=hA b (by rw[q];simp)
    subst e'
    rw[ha]at e;cases e
    have d':Data.seq vs.toArray _=Data.dict es ep:=d
    cases d'
  have nsK:∀ {b:Addr} {m:Str→Option Value},s₁.heap.Ns b m→(hidT s₁.heap H).Ns b m:=fun {b m} ⟨o,es,ep,e,d,r⟩=>⟨o,es,ep,base_of e (noA e d),d,r⟩
  have hKb:K.In (hidT s₁.heap H):=fun b o e=>base_of (KX b o e) (by
   cases q:H b with
   | none=>rfl
   | some u =>
    have e':b=a:=hA b (by rw[q];simp)
    subst e'
    rw[hK (by rw[q];simp)]at e;cases e)
  have hM:Mod K mg (hidT s₁.heap H):=⟨hKb,nsK hns,⟨mb,nsK hb,hbb⟩,let ⟨mc,h1,h2⟩:=hlim;⟨mc,nsK h1,h2⟩⟩
  have e0:Env0 P w K mg (hidT s₁.heap H) callerA [] s₁ H:=⟨rfl,hM,fun b o e=>vE e,Nat.le_of_eq (qN _ _),trivial,fun b hb=>absurd (show b∈([]:List Addr) from hb) (by simp),hok,.of_eq hg⟩
  refine codeAny_mono ((F _ hKb (nsK hns)).run callerA [] s₁ H ⟨[.ref a],[]⟩ [.ref a] [.ref a] _ _ hr e0 (hbind s₁ (.ref a)) (.cons rfl .nil) (hsp H hO hS)) fun r s' h=>?_
  cases r with
  | error e=>exact(hCX H e s' h).elim
  | ok fl =>
   cases fl with
   | next=>exact False.elim h
   | brk=>exact False.elim h
   | cont=>exact False.elim h
   | ret u =>
    obtain⟨v,H',os,bare,un,hok',r',q⟩:=h
    have q':v=.bl true:=q
    subst q'
    obtain rfl:u=Value.bool true:=r'
    refine⟨rfl,OldK.of_keep fun b o e=>?_,os,bare⟩
    cases q:H b with
    | none=>exact un.keep b o e q (by intro z;exact absurd (show b∈([]:List Addr) from z) (by simp)) (by simp)
    | some u =>
     rcases hO b with z | ⟨ob,xs,z⟩
     ·rw[q]at z;cases z
     ·have z2:=un.frzs b ob _ z
      obtain⟨e1,_⟩:=hok b _ z
      obtain⟨e2,_⟩:=hok' b _ z2
      rw[e]at e1;cases e1
      exact e2
 cases hk:K.lookup a with
 | some o =>
  have e:=KX a o hk
  rw[ha]at e
  cases e
  refine core (fun _=>none) (fun _=>.inl rfl) (.inr ⟨_,vs.toArray,_,hk,rfl,rfl,rfl,by rw[List.size_toArray,lenV];exact hl,by simpa using rv⟩) (fun b u z=>by have z':(none:Option HO)=some u:=z;cases z') (fun b z=>absurd rfl z) fun z=>absurd rfl z
 | none =>
  refine core (fun b=>if b=a then some (.frz { cls:=.type "list",data:=.seq vs.toArray } (.lst (ns.map V.int))) else none) (fun b=>?_) (.inl (.inr ⟨{ cls:=.type "list",data:=.seq vs.toArray },if_pos rfl⟩)) (fun b u z=>?_) (fun b z=>?_) fun _=>hk
  ·by_cases hb:b=a
   ·exact .inr ⟨_,_,if_pos hb⟩
   ·exact .inl (if_neg hb)
  ·by_cases hb:b=a
   ·have z':=(if_pos hb).symm.trans z
    cases z'
    subst hb
    exact⟨ha,by rw[List.length_map];exact hl,vs,_,rv,ha⟩
   ·have z':=(if_neg hb).symm.trans z
    cases z'
  ·by_cases hb:b=a
   ·exact hb
   ·exact absurd (if_neg hb) z
end L2
namespace L2
open PySem PySem.Spec PyProof.Rows
theorem vS {l:PySem.W.OpenLaw}{n k:Nat}{q:Program}{loose:List Str}{XP:(Str→Option Value)→Heap→Prop}{YP:World→Heap→Prop}{d:DefRec}{K:Params→PySem.W.Frag}{CX:World→CXT}{sp:World→Sp}{x:Str}
  (hn:l.most=some n) (hn2:n≤sizeLine) (hdf:d.params.defaults=[]) (hr:Room k callerA)
  (hY:∀ (w:World) (h:Heap),YP w h→(K w.params).In h)
  (F:∀ (w:World) (mg:Str→Option Value) (fa:Addr) (h:Heap),(K w.params).In h→h.Ns mainGlobals mg→mg d.name=some (.ref fa) →
   ∃ fd:FuncData,(∀ (s:Shared) (u:Value),BindsTo s fd ⟨[u],[]⟩ [(x,u)]) ∧
    ∀ base:Heap,(K w.params).In base→base.Ns mainGlobals mg→FnOk l.prog w (K w.params) mg base (CX w) k fa fd [x] (sp w))
  (hsp:∀ (w:World) (H:Hp) (a:Addr) (ns:List Int),ns.length≤n→Only H→SqL (K w.params) H a (ns.map V.int)→sp w [.ref a] H (fun v _=>v=.bl true) fun _ _ _=>False)
  (hCX:∀ (w:World) (H:Hp) (s:Shared) (e:Value) (s':Shared),CX w [] H s (fun _ _ _=>False) e s'→False) :
  PySem.W.WalkO q loose XP YP l.row.toRowW d [] (fun f vs=>PySem.call f vs):=by
 refine Att.attach_call hn hdf fun w s₀ s₁ mg mb fa o pm cd doc a vs ns G Y ho hd hcd hmg hobj hints hlen hg=>?_
 have KX:=hY w _ Y
 obtain⟨fd,hb,hF⟩:=F w mg fa _ KX G.T.g hmg
 exact tV KX G.T.g G.T.b G.T.builtins G.T.nolimit hg hobj hints (Nat.le_trans hlen hn2) hr hF hb (fun H hO hS=>hsp w H a ns hlen hO hS) fun H e s'=>hCX w H s₁ e s'
end L2
namespace L2
open PySem PySem.Spec PyProof.Rows
def defArgs (s:Stmt):Arguments:=match s with
 | .FunctionDef _ a _ _ _ _ _ _ _ _=>a
 | _=>{ posonlyargs:=[],args:=[],vararg:=none,kwonlyargs:=[],kw_defaults:=[],kwarg:=none,defaults:=[] }
def defBody (s:Stmt):List Stmt:=match s with
 | .FunctionDef _ _ b _ _ _ _ _ _ _=>b
 | _=>[]
def defScope (s:Stmt):Scope:=match s with
 | .FunctionDef _ _ _ _ _ _ sc _ _ _=>sc
 | _=>{ kind:=.function,names:=[],isGenerator:=false,isCoroutine:=false }
structure Fun (K:PySem.W.Frag)(x qual:Str)(st:Stmt)(f:Addr)(fd:FuncData):Prop where
 ex:∃ (oc:Value) (od:Option Addr) (kV doc pm:Value) (an:Option Addr) (cdv ct:Value) (osl:Array (Option Value)),
  fd=PySem.W.fnOf x qual (defArgs st) (defBody st) (defScope st) .none kV doc pm an cdv ct∧K.lookup f=some ⟨oc,od,.func fd,osl⟩∧PySem.W.codeIn K cdv qual=true
 kp:PySem.W.keepIn K (.ref f)=true
section
variable {P:Program}{w:World}{K:PySem.W.Frag}{mg:Str→Option Value}{base:Heap}
theorem Fun.binds {x qual:Str}{st:Stmt}{f:Addr}{fd:FuncData}{ps:List Str}(F:Fun K x qual st f fd)
  (h:∀ (kV doc pm:Value) (an:Option Addr) (cdv ct:Value) (us:List Value),us.length=ps.length→bindArgs (PySem.W.fnOf x qual (defArgs st) (defBody st) (defScope st) .none kV doc pm an cdv ct) ⟨us,[]⟩=pure (ps.zip us)):Binds K fd ps []:=by
 obtain⟨oc,od,kV,doc,pm,an,cdv,ct,osl,rfl,lk,hcd⟩:=F.ex
 exact .all (h kV doc pm an cdv ct)
theorem oO {x qual:Str}{st:Stmt}{f:Addr}{oc:Value}{od an:Option Addr}{osl:Array (Option Value)}{kV doc pm cdv ct:Value}(l:K.lookup f=some ⟨oc,od,.func (PySem.W.fnOf x qual (defArgs st) (defBody st) (defScope st) .none kV doc pm an cdv ct),osl⟩)
  (c:PySem.W.codeIn K cdv qual=true) (k:PySem.W.keepIn K (.ref f)=true):Fun K x qual st f (PySem.W.fnOf x qual (defArgs st) (defBody st) (defScope st) .none kV doc pm an cdv ct):=⟨⟨oc,od,kV,doc,pm,an,cdv,ct,osl,rfl,l,c⟩,k⟩
end
section
variable {X:Cx}
end
def Same (H H':Hp):Prop:=∀ b o,H b=some o→H' b=some o
theorem Same.refl (H:Hp):Same H H:=fun _ _ h=>h
theorem Same.trans {H H1 H2:Hp}(a:Same H H1)(b:Same H1 H2):Same H H2:=fun c o h=>b c o (a c o h)
theorem Same.free {H H':Hp}(e:Same H H'){l:Addr}(h:H' l=Option.none):H l=Option.none:=by
 cases q:H l with
 | none=>rfl
 | some o =>
  rw[e l o q]at h
  cases h
theorem Same.seq {K:PySem.W.Frag}{H H':Hp}{a:Addr}{xs:List V}(e:Same H H')(h:SqL K H a xs):SqL K H' a xs:=by
 rcases h with (h | ⟨o,h⟩) | h
 ·exact .inl (.inl (e _ _ h))
 ·exact .inl (.inr ⟨o,e _ _ h⟩)
 ·exact .inr h
end L2
end
noncomputable section
namespace FF
abbrev St:=L2.St
end FF
namespace FF
open PySem
open AutoSeq1 (wpAny_loadPart')
theorem gL:fillsNumberSlot (.type "tuple") "mul"=pure false :=
 fillsNumberSlot_seq (id := "tuple.__mul__") (r:=some (.builtin "tuple.__rmul__")) F.slot_tuple_mul.lookup (by decide +kernel) F.slot_tuple_rmul.lookup (by decide +kernel)
theorem lM:seqRepeat? (.type "tuple")=pure (some (.builtin "tuple.__mul__")):=by
 unfold seqRepeat?
 rw[seqSlot_of (T := "tuple") (name := "__mul__") (id := "tuple.__mul__") F.slot_tuple_mul.lookup (by decide +kernel),seqSlot_of (T := "tuple") (name := "__rmul__") (id := "tuple.__rmul__") F.slot_tuple_rmul.lookup (by decide +kernel)]
 rfl
theorem ja (a:Int)(t:Tok)(l:Addr)(items:Array Value)(n:Nat)(dd:Option Addr)(sl:Array (Option Value)) :
  Meets (Builtin.«int.__rmul__» ⟨[.int a t,.ref l],[]⟩) (fun _ R s=>s.heap.get? l=some { cls:=.type "tuple",dict:=dd,data:=.seq items n,slots:=sl }∧R (.ok (.ret Value.notImplemented)) s) :=
 .of_wp fun prog w A R s h=>by obtain⟨hp,g,d,tk,os⟩:=s;obtain⟨hl,h⟩:=h;wp_walk;exact⟨_,rfl,h⟩
theorem kl (l:Addr)(items:Array Value)(n:Nat)(k:Int)(t:Tok)(dd:Option Addr)(sl:Array (Option Value))(h0:2≤k)(h1:k < 1000000)(hsz:items.size*k.toNat≤sizeLine)(hne:items.isEmpty=false) :
  Meets (Builtin.«tuple.__mul__» ⟨[.ref l,.int k t],[]⟩) (fun _ R s=>s.heap.get? l=some { cls:=.type "tuple",dict:=dd,data:=.seq items n,slots:=sl } ∧
   R (.ok (.ret (.ref s.heap.objs.size))) { s with heap:=s.heap.push { cls:=.type "tuple",data:=.seq (List.foldl (fun x1 x2=>x1++x2) #[] (List.replicate k.toNat items)) } }) :=
 .of_wp fun prog w A R s h=>by
  obtain⟨hp,g,d,tk,os⟩:=s;obtain⟨hl,h⟩:=h
  have f1:=AutoSeq1.idx_int
  have f2:=AutoSeq1.sub_tuple_tuple
  have c0:¬ (decide (k < -2^63)||decide (k≥2^63))=true:=by
   simp only[Bool.or_eq_true,decide_eq_true_eq];omega
  have c1:¬ (items.isEmpty||k==1)=true:=by
   rw[hne,Bool.false_or,beq_iff_eq];omega
  have c2:¬ (decide (k≤0)||items.isEmpty)=true:=by
   rw[hne,Bool.or_false,decide_eq_true_eq];omega
  have hs:sizeLine=16777216:=sizeLine_eq
  have hk:(items.size:Int)*k=((items.size*k.toNat:Nat):Int):=by
   rw[Int.natCast_mul,Int.toNat_of_nonneg (by omega)]
  have c3:¬ ((items.size:Int)*k > (2^63 - 1)/8):=by
   rw[hk];omega
  have c4:¬ Builtin.Tuple.tupleTooMany ((items.size:Int)*k)=true:=by
   rw[hk]
   unfold Builtin.Tuple.tupleTooMany
   simp only[decide_eq_true_eq]
   omega
  have hlen:(List.foldl (fun x1 x2=>x1++x2) #[] (List.replicate k.toNat items)).size≤sizeLine:=by
   have:∀ (m:Nat) (acc:Array Value),(List.foldl (fun x1 x2=>x1++x2) acc (List.replicate m items)).size=acc.size+m*items.size:=by
    intro m
    induction m with
    | zero=>intro acc;simp
    | succ m ih=>intro acc;rw[List.replicate_succ,List.foldl_cons,ih,Array.size_append,Nat.succ_mul];omega
   rw[this,Nat.mul_comm];simpa using hsz
  unfold Builtin.«tuple.__mul__»
  wp_walk using wpAny_loadPart' hl
  rw[if_neg c0]
  wp_walk using wpAny_loadPart' hl
  rw[if_neg c1]
  try wp_walk using wpAny_loadPart' hl
  rw[if_neg c2]
  try wp_walk using wpAny_loadPart' hl
  rw[if_neg c3]
  try wp_walk using wpAny_loadPart' hl
  rw[if_neg c4]
  try wp_walk using wpAny_loadPart' hl
  rw[if_neg (Nat.not_lt.mpr hlen)]
  try wp_walk using wpAny_loadPart' hl
  exact⟨_,rfl,h⟩
theorem km (l:Addr)(items:Array Value)(n:Nat)(t:Tok)(dd:Option Addr)(sl:Array (Option Value)) :
  Meets (Builtin.«tuple.__mul__» ⟨[.ref l,.int 1 t],[]⟩) (fun _ R s=>s.heap.get? l=some { cls:=.type "tuple",dict:=dd,data:=.seq items n,slots:=sl }∧R (.ok (.ret (.ref l))) s) :=
 .of_wp fun prog w A R s h=>by
  obtain⟨hp,g,d,tk,os⟩:=s;obtain⟨hl,h⟩:=h
  have f1:=AutoSeq1.idx_int
  have f2:=AutoSeq1.sub_tuple_tuple
  have c1:(items.isEmpty||(1:Int)==1)=true:=by simp
  unfold Builtin.«tuple.__mul__»
  wp_walk using wpAny_loadPart' hl
  exact⟨_,rfl,h⟩
theorem kn (l:Addr)(n:Nat)(k:Int)(t:Tok)(dd:Option Addr)(sl:Array (Option Value))(h0:0≤k)(h1:k < 1000000) :
  Meets (Builtin.«tuple.__mul__» ⟨[.ref l,.int k t],[]⟩) (fun _ R s=>s.heap.get? l=some { cls:=.type "tuple",dict:=dd,data:=.seq #[] n,slots:=sl }∧R (.ok (.ret (.ref l))) s) :=
 .of_wp fun prog w A R s h=>by
  obtain⟨hp,g,d,tk,os⟩:=s;obtain⟨hl,h⟩:=h
  have f1:=AutoSeq1.idx_int
  have f2:=AutoSeq1.sub_tuple_tuple
  have c0:¬ (decide (k < -2^63)||decide (k≥2^63))=true:=by
   simp only[Bool.or_eq_true,decide_eq_true_eq];omega
  have c1:((#[]:Array Value).isEmpty||k==1)=true:=by simp
  unfold Builtin.«tuple.__mul__»
  wp_walk using wpAny_loadPart' hl
  rw[if_neg c0]
  wp_walk using wpAny_loadPart' hl
  exact⟨_,rfl,h⟩
theorem jb (l:Addr)(items:Array Value)(n:Nat)(t:Tok)(dd:Option Addr)(sl:Array (Option Value))(hne:items.isEmpty=false) :
  Meets (Builtin.«tuple.__mul__» ⟨[.ref l,.int 0 t],[]⟩) (fun _ R s=>s.heap.get? l=some { cls:=.type "tuple",dict:=dd,data:=.seq items n,slots:=sl } ∧
   R (.ok (.ret (.ref s.heap.objs.size))) { s with heap:=s.heap.push { cls:=.type "tuple",data:=.seq #[] } }) :=
 .of_wp fun prog w A R s h=>by
  obtain⟨hp,g,d,tk,os⟩:=s;obtain⟨hl,h⟩:=h
  have f1:=AutoSeq1.idx_int
  have f2:=AutoSeq1.sub_tuple_tuple
  have c1:¬ (items.isEmpty||(0:Int)==1)=true:=by rw[hne];decide
  have c2:(decide ((0:Int)≤0)||items.isEmpty)=true:=by simp
  unfold Builtin.«tuple.__mul__»
  wp_walk using wpAny_loadPart' hl
  exact⟨_,rfl,h⟩
end FF
namespace FF
open PySem
theorem c5 (env:Env):∀ (names:List (Str×NameKind)) (acc:List (Str×Addr)),(∀ y∈names,y.2=.free→∃ c,env.cells.lookup y.1=some c)→(∀ n c,acc.lookup n=some c→env.cells.lookup n=some c) →
  ∃ cl,(forIn names acc fun (x:Str×NameKind) (cs:List (Str×Addr))=>(do
    if x.2==.free then let a ← cellOf env x.1;pure (ForInStep.yield ((x.1,a)::cs)) else pure (ForInStep.yield cs):Sem (ForInStep (List (Str×Addr)))))=pure cl ∧
   (∀ n c,cl.lookup n=some c→env.cells.lookup n=some c)∧(∀ n c,acc.lookup n=some c→∃ c',cl.lookup n=some c')∧(∀ y∈names,y.2=.free→∃ c,cl.lookup y.1=some c)
 | [],acc,_,h=>⟨acc,rfl,h,fun n c e=>⟨c,e⟩,fun _ z=>nomatch z⟩
 | (n,k)::r,acc,hf,h=>by
  by_cases hk:k=.free
  ·subst hk
   obtain⟨c,hc⟩:=hf (n,.free) List.mem_cons_self rfl
   have h':∀ m d,List.lookup m ((n,c)::acc)=some d→env.cells.lookup m=some d:=fun m d e=>by
    by_cases q:(m==n)=true
    ·have q':m=n:=eq_of_beq q
     simp only[List.lookup,q]at e
     cases e
     rw[q'];exact hc
    ·have q':(m==n)=false:=by simpa using q
     simp only[List.lookup,q']at e
     exact h m d e
   obtain⟨cl,e1,e2,e3,e4⟩:=c5 env r ((n,c)::acc) (fun y hy=>hf y (List.mem_cons_of_mem _ hy)) h'
   have self:List.lookup n ((n,c)::acc)=some c:=by simp[List.lookup]
   refine⟨cl,?_,e2,fun m d e=>?_,fun y hy hy2=>?_⟩
   ·rw[List.forIn_cons]
    have:cellOf env n=pure c:=by unfold cellOf;rw[hc]
    simp only[beq_self_eq_true,if_true,this]
    exact e1
   ·by_cases q:(m==n)=true
    ·have q':m=n:=eq_of_beq q
     rw[q'];exact e3 n c self
    ·have q':(m==n)=false:=by simpa using q
     exact e3 m d (by simp only[List.lookup,q'];exact e)
   ·rcases List.mem_cons.mp hy with z | z
    ·subst z;exact e3 n c self
    ·exact e4 y z hy2
  ·have hb:(k==NameKind.free)=false:=by simpa using hk
   obtain⟨cl,e1,e2,e3,e4⟩:=c5 env r acc (fun y hy=>hf y (List.mem_cons_of_mem _ hy)) h
   refine⟨cl,?_,e2,e3,fun y hy hy2=>?_⟩
   ·rw[List.forIn_cons]
    simp only[hb,Bool.false_eq_true,if_false]
    exact e1
   ·rcases List.mem_cons.mp hy with z | z
    ·subst z;exact absurd hy2 hk
    ·exact e4 y z hy2
theorem jc (scope:Scope)(env:Env)(h:∀ y∈scope.names,y.2=.free→∃ c,env.cells.lookup y.1=some c) :
  ∃ cl,closureFor scope env=pure cl∧(∀ n c,cl.lookup n=some c→env.cells.lookup n=some c)∧(∀ y∈scope.names,y.2=.free→∃ c,cl.lookup y.1=some c):=by
 obtain⟨cl,e1,e2,_,e4⟩:=c5 env scope.names [] h (fun n c e=>by simp at e)
 refine⟨cl,?_,e2,e4⟩
 exact(congrArg (fun t:Sem (List (Str×Addr))=>t >>= fun s=>pure s) e1).trans rfl
end FF
namespace FF
open PySem
def tests (ifs:List Expr)(env:Env):Sem Bool:=match ifs with
 | []=>pure true
 | c::_=>isTrue c env (eval c env)
theorem qW {prog:Program}{w:World}{A:Around}{R:Result→Shared→Prop}{s:Shared}{elt target iter:Expr}{ifs:List Expr}{scope:Scope}{pos:Pos}{it acc:Value}{env:Env}(hifs:ifs.length≤1)(W:Nat→Shared→Prop)
  (turn:∀ n s,W n s→wpAny (model prog w) A (pyNext it) (fun r s1=>match r with
   | none=>R (.ok .next) s1
   | some v=>wpAny (model prog w) A (letOwnedTupleGo target it v) (fun _ s2=>wpAny (model prog w) A (assign target env v) (fun _ s3=>wpAny (model prog w) A (tests ifs env) (fun ok s4 =>
     if ok=true then wpAny (model prog w) A (eval elt env) (fun x s5=>wpAny (model prog w) A (call (.builtin "list.append") [acc,x]) (fun _ s6=>∃ m,m < n∧W m s6) (fun _ _=>False) s5) (fun _ _=>False) s4
     else ∃ m,m < n∧W m s4) (fun _ _=>False) s3) (fun _ _=>False) s2) (fun _ _=>False) s1) (fun _ _=>False) s)
  (n:Nat) (h:W n s):codeAny (model prog w) A (.compLoop (.ListComp elt [⟨target,iter,ifs,0⟩] scope pos) 0 it acc env) R s:=by
 have weak:∀ {α:Type} {t:Sem α} {Q Q':α→Shared→Prop} {E:Value→Shared→Prop} {s:Shared},wpAny (model prog w) A t Q (fun _ _=>False) s→(∀ a s,Q a s→Q' a s)→wpAny (model prog w) A t Q' E s :=
  fun h k=>wpAny_mono h k fun _ _ z=>z.elim
 refine codeAny_loop rfl W (fun n s hW=>?_) n h
 show wpAny _ A ((compTurn (.ListComp elt [⟨target,iter,ifs,0⟩] scope pos) 0 it acc env).onRaise (fun x=>do noteFrame x env;theTreesLotGoes x)) _ _ s
 refine wpAny_noted ?_
 rw[compTurn_list]
 refine wpAny_bind (wpAny_standAt (wpAny_bind (weak (turn n s hW) fun r s1 h1=>?_)))
 cases r with
 | none=>exact wpAny_pure h1
 | some v =>
  refine wpAny_bind (weak h1 fun _ s2 h2=>wpAny_bind (weak h2 fun _ s3 h3=>wpAny_bind ?_))
  have fin:∀ ok s4,(if ok=true then wpAny (model prog w) A (eval elt env) (fun x s5=>wpAny (model prog w) A (call (.builtin "list.append") [acc,x]) (fun _ s6=>∃ m,m < n∧W m s6) (fun _ _=>False) s5) (fun _ _=>False) s4
     else ∃ m,m < n∧W m s4)→wpAny (model prog w) A (if ok=true then ((do let _ ← call (.builtin "list.append") [acc,← eval elt env];pure ()) >>= fun _=>again (.compLoop (.ListComp elt [⟨target,iter,ifs,0⟩] scope pos) 0 it acc env)) else again (.compLoop (.ListComp elt [⟨target,iter,ifs,0⟩] scope pos) 0 it acc env))
      (fun fin s'=>match fin with | .done f=>R (.ok f) s' | .again c'=>c'=(.compLoop (.ListComp elt [⟨target,iter,ifs,0⟩] scope pos) 0 it acc env)∧∃ m,m < n∧W m s') (notedBy (model prog w) A env fun e s'=>R (.error e) s') s4:=by
   intro ok s4 h4
   cases ok with
   | true=>exact wpAny_bind (wpAny_bind (weak h4 fun x s5 h5=>wpAny_bind (weak h5 fun _ s6 h6=>wpAny_pure (wpAny_pure ⟨rfl,h6⟩))))
   | false=>exact wpAny_pure ⟨rfl,h4⟩
  match ifs,hifs,h3,fin with
  | [],_,h3,fin =>
   refine wpAny_tests_nil ?_
   exact wpAny_bind (m:=(pure true:Sem Bool)) (weak h3 fin)
  | [c],_,h3,fin =>
   refine wpAny_tests_one ?_
   exact weak h3 fin
end FF
namespace FF
open PySem PyProof.Rows
open AutoSeq1 (wpAny_loadPart')
theorem qX (l b:Addr)(items items2:Array Value)(n n2:Nat)(dd dd2:Option Addr)(sl sl2:Array (Option Value))(hsz:items.size+items2.size≤sizeLine) :
  Meets (Builtin.«list.__add__» ⟨[.ref l,.ref b],[]⟩) (fun _ R s=>s.heap.get? l=some { cls:=.type "list",dict:=dd,data:=.seq items n,slots:=sl }∧s.heap.get? b=some { cls:=.type "list",dict:=dd2,data:=.seq items2 n2,slots:=sl2 } ∧
   R (.ok (.ret (.ref s.heap.objs.size))) { s with heap:=s.heap.push { cls:=.type "list",data:=.seq (items++items2) } }) :=
 .of_wp fun prog w A R s h=>by
  obtain⟨hp,g,d,tk,os⟩:=s;obtain⟨hl,hb,h⟩:=h
  have f1:=AutoSeq1.idx_int;have f2:=AutoSeq1.sub_tuple_tuple;have f3:=AutoSeq1.sub_list_list;have f4:=AutoSeq1.sub_tuple_list;have f5:=AutoSeq1.sub_list_tuple
  have hl0:¬ Builtin.List.listTooLong (items.size+items2.size)=true:=by rw[L2.notLongL hsz];exact Bool.false_ne_true
  have hz:(items++items2).size≤sizeLine:=by rw[Array.size_append];exact hsz
  wp_walk using wpAny_loadPart' hl,wpAny_loadPart' hb
  all_goals first | exact⟨_,rfl,h⟩ | trace_state
theorem qY (l:Addr)(items:Array Value)(n:Nat)(k:Int)(t:Tok)(dd:Option Addr)(sl:Array (Option Value))(h0 : -(2^63)≤k)(h1:k < 2^63)(hsz:items.size*k.toNat≤sizeLine) :
  Meets (Builtin.«list.__mul__» ⟨[.ref l,.int k t],[]⟩) (fun _ R s=>s.heap.get? l=some { cls:=.type "list",dict:=dd,data:=.seq items n,slots:=sl } ∧
   R (.ok (.ret (.ref s.heap.objs.size))) { s with heap:=s.heap.push { cls:=.type "list",data:=.seq (List.foldl (fun x1 x2=>x1++x2) #[] (List.replicate (if items.isEmpty=true then 0 else k.toNat) items)) } }) :=
 .of_wp fun prog w A R s h=>by
  obtain⟨hp,g,d,tk,os⟩:=s;obtain⟨hl,h⟩:=h
  have f1:=AutoSeq1.idx_int;have f2:=AutoSeq1.sub_tuple_tuple;have f3:=AutoSeq1.sub_list_list
  have hs:=sizeLine_eq
  have c1:¬ items.size*k.toNat > (2^63 - 1)/8:=by omega
  have c2:¬ (!Builtin.List.listFitsIndex k)=true:=by rw[fitsIndex_both h0 h1];exact Bool.false_ne_true
  have c3:¬ Builtin.List.listTooLong (items.size*k.toNat)=true:=by rw[L2.notLongL hsz];exact Bool.false_ne_true
  have hz:=AutoListH.joined_fits c3
  wp_walk using wpAny_loadPart' hl
  rw[if_neg (Nat.not_lt.mpr hz)]
  wp_walk
  exact⟨_,rfl,h⟩
theorem ko (a:Int)(t:Tok)(l:Addr)(items:Array Value)(n:Nat)(dd:Option Addr)(sl:Array (Option Value)) :
  Meets (Builtin.«int.__rmul__» ⟨[.int a t,.ref l],[]⟩) (fun _ R s=>s.heap.get? l=some { cls:=.type "list",dict:=dd,data:=.seq items n,slots:=sl }∧R (.ok (.ret Value.notImplemented)) s) :=
 .of_wp fun prog w A R s h=>by obtain⟨hp,g,d,tk,os⟩:=s;obtain⟨hl,h⟩:=h;wp_walk;exact⟨_,rfl,h⟩
theorem qZ (l b:Addr)(items items2:Array Value)(n n2:Nat)(dd2:Option Addr)(sl2:Array (Option Value))(hsz:items.size+items2.size≤sizeLine) :
  Meets (Builtin.«list.extend» ⟨[.ref l,.ref b],[]⟩) (fun _ R s=>s.heap.get? l=some { cls:=.type "list",data:=.seq items n }∧s.heap.get? b=some { cls:=.type "list",dict:=dd2,data:=.seq items2 n2,slots:=sl2 } ∧
   R (.ok (.ret .none)) { s with heap:=s.heap.update l (Obj.mapSeq fun x=>x++items2) }) :=
 .of_wp fun prog w A R s h=>by
  obtain⟨hp,g,d,tk,os⟩:=s;obtain⟨hl,hb,h⟩:=h
  have f1:=AutoSeq1.idx_int;have f2:=AutoSeq1.sub_tuple_tuple;have f3:=AutoSeq1.sub_list_list;have f4:=AutoSeq1.sub_tuple_list;have f5:=AutoSeq1.sub_list_tuple
  have hc0:¬(!items.isEmpty&&Builtin.List.listTooLong (items.size+items2.size))=true:=by rw[L2.notLongL hsz,Bool.and_false];exact Bool.false_ne_true
  have hc1:items.size≤sizeLine:=by omega
  have hs2:items.size+items2.size≤sizeLine+1:=by omega
  have hz':(items++items2).size≤sizeLine+1:=by rw[Array.size_append];omega
  wp_walk using (wpAny_updateSeq hl rfl (hz:=hc1) (_hz':=hz')),wpAny_loadPart' hl,wpAny_loadPart' hb
  exact⟨_,rfl,h⟩
theorem q9 (l b:Addr)(items items2:Array Value)(n n2:Nat)(dd2:Option Addr)(sl2:Array (Option Value))(hsz:items.size+items2.size≤sizeLine) :
  Meets (Builtin.«list.extend» ⟨[.ref l,.ref b],[]⟩) (fun _ R s=>s.heap.get? l=some { cls:=.type "list",data:=.seq items n }∧s.heap.get? b=some { cls:=.type "tuple",dict:=dd2,data:=.seq items2 n2,slots:=sl2 } ∧
   R (.ok (.ret .none)) { s with heap:=s.heap.update l (Obj.mapSeq fun x=>x++items2) }) :=
 .of_wp fun prog w A R s h=>by
  obtain⟨hp,g,d,tk,os⟩:=s;obtain⟨hl,hb,h⟩:=h
  have f1:=AutoSeq1.idx_int;have f2:=AutoSeq1.sub_tuple_tuple;have f3:=AutoSeq1.sub_list_list;have f4:=AutoSeq1.sub_tuple_list;have f5:=AutoSeq1.sub_list_tuple
  have hc0:¬(!items.isEmpty&&Builtin.List.listTooLong (items.size+items2.size))=true:=by rw[L2.notLongL hsz,Bool.and_false];exact Bool.false_ne_true
  have hc1:items.size≤sizeLine:=by omega
  have hs2:items.size+items2.size≤sizeLine+1:=by omega
  have hz':(items++items2).size≤sizeLine+1:=by rw[Array.size_append];omega
  wp_walk using (wpAny_updateSeq hl rfl (hz:=hc1) (_hz':=hz')),wpAny_loadPart' hl,wpAny_loadPart' hb
  exact⟨_,rfl,h⟩
end FF
end
noncomputable section
namespace FF
open PySem PySem.Spec PyProof.Rows L2
inductive D where
 | non | bl (b:Bool) | int (i:Int) | str (x:Str) | tup (xs:List D) | lst (xs:List D) | exc (k:Nat) | fn (k:Nat)
inductive R (α:Type) where
 | ok (a:α) | err (k:Nat) | stuck
def R.bind {α β:Type}(r:R α)(f:α→R β):R β:=match r with
 | .ok a=>f a
 | .err k=>.err k
 | .stuck=>.stuck
@[simp] theorem R.bind_ok {α β:Type}(a:α)(f:α→R β):(R.ok a).bind f=f a:=rfl
@[simp] theorem R.bind_err {α β:Type}(k:Nat)(f:α→R β):(R.err k:R α).bind f=.err k:=rfl
@[simp] theorem R.bind_stuck {α β:Type}(f:α→R β):(R.stuck:R α).bind f=.stuck:=rfl
def excO (C:Nat→Addr)(k:Nat)(a:Addr):HO :=
 .ext fun h=>∃ o,h.get? a=some o∧o.cls=.ref (C k)∧∃ vs,o.data=.fields vs
mutual
def Rep (K:PySem.W.Frag)(C:Nat→Addr)(Z:Hp):D→V→Prop
 | .non,v=>v=.non
 | .bl b,v=>v=.bl b
 | .int i,v=>v=.int i
 | .str x,v=>v=.str x
 | .tup ds,v=>∃ a vs,v=.ref a∧SqT K Z a vs∧Reps K C Z ds vs
 | .lst ds,v=>∃ a vs,v=.ref a∧SqL K Z a vs∧Reps K C Z ds vs
 | .exc k,v=>∃ a,v=.ref a∧Z a=some (excO C k a)
 | .fn k,v=>v=.ref (C k)
def Reps (K:PySem.W.Frag)(C:Nat→Addr)(Z:Hp):List D→List V→Prop
 | [],vs=>vs=[]
 | d::ds,vs=>∃ v r,vs=v::r∧Rep K C Z d v∧Reps K C Z ds r
end
theorem _root_.L2.SqT.mono {K:PySem.W.Frag}{Z Z':Hp}{a:Addr}{xs:List V}(e:Same Z Z')(h:SqT K Z a xs):SqT K Z' a xs:=by
 rcases h with (h | ⟨o,h⟩) | h
 ·exact .inl (.inl (e _ _ h))
 ·exact .inl (.inr ⟨o,e _ _ h⟩)
 ·exact .inr h
section
variable {K:PySem.W.Frag}{C:Nat→Addr}{Z Z':Hp}
mutual
theorem Rep.mono (e:Same Z Z'):∀ (d:D) (v:V),Rep K C Z d v→Rep K C Z' d v
 | .non,v,h=>by rw[Rep]at h ⊢;exact h
 | .bl b,v,h=>by rw[Rep]at h ⊢;exact h
 | .int i,v,h=>by rw[Rep]at h ⊢;exact h
 | .str x,v,h=>by rw[Rep]at h ⊢;exact h
 | .fn k,v,h=>by rw[Rep]at h ⊢;exact h
 | .tup ds,v,h=>by
  rw[Rep]at h ⊢
  obtain⟨a,vs,h1,h2,h3⟩:=h
  exact⟨a,vs,h1,h2.mono e,Reps.mono e ds vs h3⟩
 | .lst ds,v,h=>by
  rw[Rep]at h ⊢
  obtain⟨a,vs,h1,h2,h3⟩:=h
  exact⟨a,vs,h1,e.seq h2,Reps.mono e ds vs h3⟩
 | .exc k,v,h=>by
  rw[Rep]at h ⊢
  obtain⟨a,h1,h2⟩:=h
  exact⟨a,h1,e _ _ h2⟩
theorem Reps.mono (e:Same Z Z'):∀ (ds:List D) (vs:List V),Reps K C Z ds vs→Reps K C Z' ds vs
 | [],vs,h=>by rw[Reps]at h ⊢;exact h
 | d::ds,vs,h=>by
  rw[Reps]at h ⊢
  obtain⟨v,r,h1,h2,h3⟩:=h
  exact⟨v,r,h1,Rep.mono e d v h2,Reps.mono e ds r h3⟩
end
theorem Reps.nil:Reps K C Z [] []:=by rw[Reps]
theorem Reps.cons {d:D}{v:V}{ds:List D}{vs:List V}(h:Rep K C Z d v)(t:Reps K C Z ds vs):Reps K C Z (d::ds) (v::vs):=by
 rw[Reps];exact⟨v,vs,rfl,h,t⟩
theorem Reps.uncons {d:D}{v:V}{ds:List D}{vs:List V}(h:Reps K C Z (d::ds) (v::vs)):Rep K C Z d v∧Reps K C Z ds vs:=by
 rw[Reps]at h
 obtain⟨v',r,e,h1,h2⟩:=h
 cases e
 exact⟨h1,h2⟩
theorem Reps.length:∀ {ds:List D} {vs:List V},Reps K C Z ds vs→ds.length=vs.length
 | [],vs,h=>by rw[Reps]at h;subst h;rfl
 | d::ds,vs,h=>by
  rw[Reps]at h
  obtain⟨v,r,e,_,h2⟩:=h
  subst e
  simp[Reps.length h2]
theorem Reps.get:∀ {ds:List D} {vs:List V} {i:Nat} {d:D},Reps K C Z ds vs→ds[i]?=some d→∃ v,vs[i]?=some v∧Rep K C Z d v
 | [],vs,i,d,h,e=>by simp at e
 | d'::ds,vs,i,d,h,e=>by
  rw[Reps]at h
  obtain⟨v,r,q,h1,h2⟩:=h
  subst q
  cases i with
  | zero=>simp at e;subst e;exact⟨v,rfl,h1⟩
  | succ i =>
   obtain⟨v',e1,h3⟩:=Reps.get (i:=i) h2 (by simpa using e)
   exact⟨v',by simpa using e1,h3⟩
theorem Reps.get':∀ {ds:List D} {vs:List V} {i:Nat} {v:V},Reps K C Z ds vs→vs[i]?=some v→∃ d,ds[i]?=some d∧Rep K C Z d v
 | [],vs,i,v,h,e=>by rw[Reps]at h;subst h;simp at e
 | d'::ds,vs,i,v,h,e=>by
  rw[Reps]at h
  obtain⟨v0,r,q,h1,h2⟩:=h
  subst q
  cases i with
  | zero=>simp at e;subst e;exact⟨d',rfl,h1⟩
  | succ i =>
   obtain⟨d,e1,h3⟩:=Reps.get' (i:=i) h2 (by simpa using e)
   exact⟨d,by simpa using e1,h3⟩
theorem Reps.append:∀ {ds es:List D} {vs us:List V},Reps K C Z ds vs→Reps K C Z es us→Reps K C Z (ds++es) (vs++us)
 | [],es,vs,us,h,h'=>by rw[Reps]at h;subst h;exact h'
 | d::ds,es,vs,us,h,h'=>by
  rw[Reps]at h
  obtain⟨v,r,q,h1,h2⟩:=h
  subst q
  exact Reps.cons h1 (Reps.append h2 h')
theorem Reps.take:∀ {ds:List D} {vs:List V} (n:Nat),Reps K C Z ds vs→Reps K C Z (ds.take n) (vs.take n)
 | [],vs,n,h=>by rw[Reps]at h;subst h;simpa using Reps.nil
 | d::ds,vs,n,h=>by
  rw[Reps]at h
  obtain⟨v,r,q,h1,h2⟩:=h
  subst q
  cases n with
  | zero=>exact Reps.nil
  | succ n=>exact Reps.cons h1 (Reps.take n h2)
theorem Reps.drop:∀ {ds:List D} {vs:List V} (n:Nat),Reps K C Z ds vs→Reps K C Z (ds.drop n) (vs.drop n)
 | [],vs,n,h=>by rw[Reps]at h;subst h;simpa using Reps.nil
 | d::ds,vs,n,h=>by
  rw[Reps]at h
  obtain⟨v,r,q,h1,h2⟩:=h
  subst q
  cases n with
  | zero=>exact Reps.cons h1 h2
  | succ n=>exact Reps.drop n h2
end
structure Ex (H Z H' Z':Hp):Prop where
 same:Same H H'
 z:Same Z Z'
 sub:Same Z' H'
 new:∀ b,Z' b≠none→Z b≠none∨H b=none
theorem Ex.refl {H Z:Hp}(s:Same Z H):Ex H Z H Z:=⟨Same.refl _,Same.refl _,s,fun _ h=>.inl h⟩
theorem Ex.trans {H Z H1 Z1 H2 Z2:Hp}(a:Ex H Z H1 Z1)(b:Ex H1 Z1 H2 Z2):Ex H Z H2 Z2 :=
 ⟨a.same.trans b.same,a.z.trans b.z,b.sub,fun c h=>(b.new c h).elim (fun h1=>a.new c h1) fun h1=>.inr (a.same.free h1)⟩
theorem aC {H:Hp}{p:Addr}{o:HO}(h:H p=none):Same H (upd H p o):=fun b u e=>by
 rw[ap (bv e h)];exact e
theorem Ex.alloc {H Z:Hp}{p:Addr}{o:HO}(s:Same Z H)(h:H p=none):Ex H Z (upd H p o) (upd Z p o):=by
 have hz:Z p=none:=s.free h
 refine⟨aC h,aC hz,fun b u e=>?_,fun b hb=>?_⟩
 ·by_cases q:b=p
  ·subst q;rw[ar]at e ⊢;exact e
  ·rw[ap q]at e ⊢;exact s b u e
 ·by_cases q:b=p
  ·subst q;exact .inr h
  ·rw[ap q]at hb;exact .inl hb
theorem Ex.hidden {H Z:Hp}{p:Addr}{o:HO}(s:Same Z H)(h:H p=none):Ex H Z (upd H p o) Z :=
 ⟨aC h,Same.refl _,s.trans (aC h),fun _ hb=>.inl hb⟩
inductive Sl where
 | val (d:D) | own (ds:List D) | mat (m:List (List D)) | dic (m:List (Key×D)) | dit (m:List (List Key×D))
abbrev SS:=List (Option Sl)
structure Fx where
 K:PySem.W.Frag
 C:Nat→Addr
 H0:Hp
 Z0:Hp
 E:XK
def Rows (F:Fx)(H Z:Hp):List (List D)→List Addr→Prop
 | [],[]=>True
 | ds::m,r::rs=>(∃ vs,H r=some (.lst vs)∧Reps F.K F.C Z ds vs)∧Rows F H Z m rs
 | _,_=>False
def Pairs {κ:Type}(F:Fx)(Z:Hp)(m:List (κ×D))(kvs:List (κ×V)):Prop:=kvs.map Prod.fst=m.map Prod.fst∧Reps F.K F.C Z (m.map Prod.snd) (kvs.map Prod.snd)
def Ow (F:Fx)(H Z:Hp):Sl→V→List Addr→Prop
 | .val d,v,A=>A=[]∧Rep F.K F.C Z d v
 | .own ds,v,A=>∃ a vs,v=.ref a∧A=[a]∧H a=some (.lst vs)∧Reps F.K F.C Z ds vs
 | .mat m,v,A=>∃ a rs,v=.ref a∧A=a::rs∧H a=some (.lst (rs.map V.ref))∧Rows F H Z m rs
 | .dic m,v,A=>∃ a kvs,v=.ref a∧A=[a]∧H a=some (.dK kvs)∧Pairs F Z m kvs
 | .dit m,v,A=>∃ a kvs,v=.ref a∧A=[a]∧H a=some (.dT kvs)∧Pairs F Z m kvs
structure Priv (F:Fx)(Z:Hp)(A:List Addr):Prop where
 nd:A.Nodup
 z:∀ a∈A,Z a=none
 h0:∀ a∈A,F.H0 a=none
structure StOk (F:Fx)(H Z:Hp)(S:SS)(σ:St):Prop where
 ex:Ex F.H0 F.Z0 H Z
 len:S.length=σ.length
 sl:∀ (i:Nat) (x:Sl),S[i]?=some (some x)→∃ v A,σ[i]?=some (some v)∧Ow F H Z x v A∧Priv F Z A
 dj:∀ (i j:Nat) (x y:Sl) (v w:V) (A B:List Addr),i≠j→S[i]?=some (some x)→S[j]?=some (some y)→σ[i]?=some (some v)→σ[j]?=some (some w)→Ow F H Z x v A→Ow F H Z y w B→∀ a∈A,a∉B
section
variable {F:Fx}{H Z H' Z':Hp}{S:SS}{σ:St}{x:Sl}{v:V}{A B:List Addr}
theorem Rows.mono (hz:Same Z Z'):∀ {m:List (List D)} {rs:List Addr},Rows F H Z m rs→(∀ a∈rs,∀ o,H a=some o→H' a=some o)→Rows F H' Z' m rs
 | [],[],_,_=>trivial
 | ds::m,r::rs,h,k=>by
  obtain⟨⟨vs,e,q⟩,h⟩:=h
  exact⟨⟨vs,k r (.head _) _ e,q.mono hz⟩,Rows.mono hz h fun a ha=>k a (.tail _ ha)⟩
 | [],_::_,h,_=>h.elim
 | _::_,[],h,_=>h.elim
theorem Rows.there:∀ {m:List (List D)} {rs:List Addr},Rows F H Z m rs→∀ a∈rs,∃ o,H a=some o
 | [],[],_,a,ha=>nomatch ha
 | ds::m,r::rs,h,a,ha=>by
  obtain⟨⟨vs,e,q⟩,h⟩:=h
  rcases List.mem_cons.mp ha with rfl | ha
  ·exact⟨_,e⟩
  ·exact Rows.there h a ha
 | [],_::_,h,_,_=>h.elim
 | _::_,[],h,_,_=>h.elim
theorem Rows.len:∀ {m:List (List D)} {rs:List Addr},Rows F H Z m rs→rs.length=m.length
 | [],[],_=>rfl
 | ds::m,r::rs,h=>by rw[List.length_cons,List.length_cons,Rows.len h.2]
 | [],_::_,h=>h.elim
 | _::_,[],h=>h.elim
theorem Rows.at:∀ {m:List (List D)} {rs:List Addr} {j:Nat} {ds:List D},Rows F H Z m rs→m[j]?=some ds→∃ r vs,rs[j]?=some r∧H r=some (.lst vs)∧Reps F.K F.C Z ds vs
 | ds::m,r::rs,0,_,h,e=>by
  obtain⟨⟨vs,q,k⟩,h⟩:=h
  cases e
  exact⟨r,vs,rfl,q,k⟩
 | ds::m,r::rs,j+1,_,h,e=>Rows.at (j:=j) h.2 e
 | [],_,_,_,_,e=>by simp at e
 | _::_,[],_,_,h,_=>h.elim
theorem mU:∀ {rs qs:List Addr},rs.map V.ref=qs.map V.ref→rs=qs
 | [],[],_=>rfl
 | r::rs,q::qs,h=>by
  rw[List.map_cons,List.map_cons]at h
  injection h with h1 h2
  injection h1 with h1
  rw[h1,mU h2]
 | [],_::_,h=>nomatch h
 | _::_,[],h=>nomatch h
theorem Ow.mono (hz:Same Z Z')(h:Ow F H Z x v A)(hs:∀ a∈A,∀ o,H a=some o→H' a=some o):Ow F H' Z' x v A:=by
 cases x with
 | val d=>exact⟨h.1,h.2.mono hz⟩
 | own ds =>
  obtain⟨a,vs,e1,e2,e3,r⟩:=h
  exact⟨a,vs,e1,e2,hs a (by rw[e2];exact .head _) _ e3,r.mono hz⟩
 | mat m =>
  obtain⟨a,rs,e1,e2,e3,r⟩:=h
  exact⟨a,rs,e1,e2,hs a (by rw[e2];exact .head _) _ e3,r.mono hz fun b hb=>hs b (by rw[e2];exact .tail _ hb)⟩
 | dic m =>
  obtain⟨a,vs,e1,e2,e3,r⟩:=h
  exact⟨a,vs,e1,e2,hs a (by rw[e2];exact .head _) _ e3,r.1,r.2.mono hz⟩
 | dit m =>
  obtain⟨a,vs,e1,e2,e3,r⟩:=h
  exact⟨a,vs,e1,e2,hs a (by rw[e2];exact .head _) _ e3,r.1,r.2.mono hz⟩
theorem Ow.det (h:Ow F H Z x v A)(h':Ow F H Z x v B):A=B:=by
 cases x with
 | val d=>rw[h.1,h'.1]
 | own ds =>
  obtain⟨a,vs,e1,e2,_⟩:=h
  obtain⟨b,us,f1,f2,_⟩:=h'
  rw[e1]at f1;cases f1
  rw[e2,f2]
 | mat m =>
  obtain⟨a,rs,e1,e2,e3,_⟩:=h
  obtain⟨b,qs,f1,f2,f3,_⟩:=h'
  rw[e1]at f1;cases f1
  rw[e3]at f3
  injection f3 with f3
  injection f3 with f3
  rw[e2,f2,mU f3]
 | dic m =>
  obtain⟨a,vs,e1,e2,_⟩:=h
  obtain⟨b,us,f1,f2,_⟩:=h'
  rw[e1]at f1;cases f1
  rw[e2,f2]
 | dit m =>
  obtain⟨a,vs,e1,e2,_⟩:=h
  obtain⟨b,us,f1,f2,_⟩:=h'
  rw[e1]at f1;cases f1
  rw[e2,f2]
theorem Ow.there (h:Ow F H Z x v A):∀ a∈A,∃ o,H a=some o:=fun a ha=>by
 cases x with
 | val d=>rw[h.1]at ha;cases ha
 | own ds =>
  obtain⟨b,vs,e1,e2,e3,r⟩:=h
  rw[e2]at ha
  cases List.mem_singleton.mp ha
  exact⟨_,e3⟩
 | mat m =>
  obtain⟨b,rs,e1,e2,e3,r⟩:=h
  rw[e2]at ha
  rcases List.mem_cons.mp ha with rfl | ha
  ·exact⟨_,e3⟩
  ·exact r.there a ha
 | dic m =>
  obtain⟨b,vs,e1,e2,e3,r⟩:=h
  rw[e2]at ha
  cases List.mem_singleton.mp ha
  exact⟨_,e3⟩
 | dit m =>
  obtain⟨b,vs,e1,e2,e3,r⟩:=h
  rw[e2]at ha
  cases List.mem_singleton.mp ha
  exact⟨_,e3⟩
theorem StOk.sub (h:StOk F H Z S σ):Same Z H:=h.ex.sub
theorem StOk.more (h:StOk F H Z S σ)(x:Ex H Z H' Z'):StOk F H' Z' S σ:=by
 have up:∀ {y:Sl} {v:V} {A:List Addr},Ow F H Z y v A→Ow F H' Z' y v A:=fun o=>o.mono x.z fun a _ o e=>x.same _ _ e
 refine⟨h.ex.trans x,h.len,fun i y e=>?_,fun i j y z v w A B hij e1 e2 e3 e4 o1 o2=>?_⟩
 ·obtain⟨v,A,e1,o,p⟩:=h.sl i y e
  refine⟨v,A,e1,up o,p.nd,fun a ha=>?_,p.h0⟩
  cases q:Z' a with
  | none=>rfl
  | some u =>
   obtain⟨w,hw⟩:=o.there a ha
   rcases x.new a (by rw[q];simp) with z | z
   ·exact absurd (p.z a ha) z
   ·rw[hw]at z;cases z
 ·obtain⟨v',A',f1,q1,_⟩:=h.sl i y e1
  obtain⟨w',B',f2,q2,_⟩:=h.sl j z e2
  rw[e3]at f1;cases f1
  rw[e4]at f2;cases f2
  rw[o1.det (up q1),o2.det (up q2)]
  exact h.dj i j y z v w A' B' hij e1 e2 e3 e4 q1 q2
theorem StOk.val (h:StOk F H Z S σ)(i:Nat)(d:D)(e:S[i]?=some (some (.val d))):∃ v,σ[i]?=some (some v)∧Rep F.K F.C Z d v:=by
 obtain⟨v,A,e1,o,_⟩:=h.sl i _ e
 exact⟨v,e1,o.2⟩
theorem StOk.own (h:StOk F H Z S σ)(i:Nat)(ds:List D)(e:S[i]?=some (some (.own ds))):∃ a vs,σ[i]?=some (some (.ref a))∧H a=some (.lst vs)∧Z a=none∧F.H0 a=none∧Reps F.K F.C Z ds vs:=by
 obtain⟨v,A,e1,⟨a,vs,rfl,rfl,q,r⟩,p⟩:=h.sl i _ e
 exact⟨a,vs,e1,q,p.z a (.head _),p.h0 a (.head _),r⟩
theorem StOk.mat (h:StOk F H Z S σ)(i:Nat)(m:List (List D))(e:S[i]?=some (some (.mat m))):∃ a rs,σ[i]?=some (some (.ref a))∧H a=some (.lst (rs.map V.ref))∧Rows F H Z m rs∧Priv F Z (a::rs):=by
 obtain⟨v,A,e1,⟨a,rs,rfl,rfl,q,r⟩,p⟩:=h.sl i _ e
 exact⟨a,rs,e1,q,r,p⟩
theorem StOk.put (h:StOk F H Z S σ){i:Nat}(o:Ow F H Z x v A)(p:Priv F Z A)(hn:∀ (j:Nat) (y:Sl) (w:V) (B:List Addr),j≠i→S[j]?=some (some y)→σ[j]?=some (some w)→Ow F H Z y w B→∀ a∈A,a∉B) :
  StOk F H Z (S.set i (some x)) (σ.set i (some v)):=by
 have self:∀ {y:Option Sl},(S.set i (some x))[i]?=some y→y=some x∧i < S.length:=fun {y} e=>by
  by_cases hl:i < S.length
  ·rw[List.getElem?_set_self hl]at e;cases e;exact⟨rfl,hl⟩
  ·rw[List.getElem?_eq_none (by simpa using hl)]at e;cases e
 refine⟨h.ex,by simp[h.len],fun j y e=>?_,fun j k y z w u A' B' hjk e1 e2 e3 e4 o1 o2=>?_⟩
 ·by_cases q:i=j
  ·subst q
   obtain⟨z,hl⟩:=self e
   cases z
   exact⟨v,A,by rw[List.getElem?_set_self (by rw[← h.len];exact hl)],o,p⟩
  ·rw[List.getElem?_set_ne q]at e ⊢
   exact h.sl j y e
 ·by_cases q:i=j
  ·have q2:i≠k:=fun z=>hjk (q ▸ z)
   subst q
   obtain⟨z,hl⟩:=self e1
   cases z
   rw[List.getElem?_set_self (by rw[← h.len];exact hl)]at e3
   cases e3
   rw[List.getElem?_set_ne q2]at e2 e4
   rw[o1.det o]
   exact hn k _ _ _ (Ne.symm q2) e2 e4 o2
  ·rw[List.getElem?_set_ne q]at e1 e3
   by_cases q2:i=k
   ·subst q2
    obtain⟨z,hl⟩:=self e2
    cases z
    rw[List.getElem?_set_self (by rw[← h.len];exact hl)]at e4
    cases e4
    rw[o2.det o]
    exact fun a ha hb=>hn j _ _ _ (Ne.symm q) e1 e3 o1 a hb ha
   ·rw[List.getElem?_set_ne q2]at e2 e4
    exact h.dj j k _ _ _ _ _ _ hjk e1 e2 e3 e4 o1 o2
theorem Priv.nil:Priv F Z []:=⟨List.Pairwise.nil,(fun _ h=>nomatch h),(fun _ h=>nomatch h)⟩
theorem StOk.setVal (h:StOk F H Z S σ){i:Nat}{d:D}{v:V}(r:Rep F.K F.C Z d v):StOk F H Z (S.set i (some (.val d))) (σ.set i (some v)) :=
 h.put (x:=.val d) (A:=[]) ⟨rfl,r⟩ Priv.nil fun _ _ _ _ _ _ _ _ _ ha=>nomatch ha
theorem StOk.putNew (h:StOk F H Z S σ){i:Nat}(e:Ex H Z H' Z')(o:Ow F H' Z' x v A)(p:Priv F Z' A)(hn:∀ a∈A,H a=none):StOk F H' Z' (S.set i (some x)) (σ.set i (some v)):=by
 refine(h.more e).put o p fun j y w B hj e1 e2 o2 a ha hb=>?_
 obtain⟨w',B',f1,q,_⟩:=h.sl j y e1
 rw[e2]at f1;cases f1
 rw[o2.det (q.mono e.z fun a _ o e'=>e.same _ _ e')]at hb
 obtain⟨u,hu⟩:=q.there a hb
 rw[hn a ha]at hu;cases hu
theorem StOk.newOwn (h:StOk F H Z S σ){i:Nat}{a:Addr}{ds:List D}{vs:List V}(hp:H a=none)(r:Reps F.K F.C Z ds vs):StOk F (upd H a (.lst vs)) Z (S.set i (some (.own ds))) (σ.set i (some (.ref a))) :=
 h.putNew (x:=.own ds) (A:=[a]) (Ex.hidden h.sub hp) ⟨a,vs,rfl,rfl,ar,r⟩ ⟨by simp,fun b hb=>by cases List.mem_singleton.mp hb;exact h.sub.free hp,fun b hb=>by cases List.mem_singleton.mp hb;exact h.ex.same.free hp⟩ fun b hb=>by cases List.mem_singleton.mp hb;exact hp
theorem StOk.rewr (h:StOk F H Z S σ){i:Nat}{x':Sl}(e:S[i]?=some (some x))(ev:σ[i]?=some (some v))(o:Ow F H Z x v A)(o':Ow F H' Z x' v A)(hH:∀ b,b∉A→H' b=H b):StOk F H' Z (S.set i (some x')) σ:=by
 have hl:i < S.length:=(List.getElem?_eq_some_iff.mp e).1
 obtain⟨v',A',f1,q1,p⟩:=h.sl i x e
 rw[ev]at f1;cases f1
 cases o.det q1
 have up:∀ {j:Nat} {y:Sl} {w:V} {B:List Addr},j≠i→S[j]?=some (some y)→σ[j]?=some (some w)→Ow F H Z y w B→Ow F H' Z y w B:=fun {j y w B} hj e1 e2 q=>q.mono (Same.refl _) fun b hb u eu=>by
  rw[hH b (h.dj j i y x w v B A hj e1 e e2 ev q o b hb)];exact eu
 refine⟨⟨fun b u q=>?_,h.ex.z,fun b u q=>?_,h.ex.new⟩,by simp[h.len],fun j y q=>?_,fun j k y z w u A' B' hjk e1 e2 e3 e4 o1 o2=>?_⟩
 ·rw[hH b fun z=>by rw[p.h0 b z]at q;cases q];exact h.ex.same b u q
 ·rw[hH b fun z=>by rw[p.z b z]at q;cases q];exact h.ex.sub b u q
 ·by_cases z:i=j
  ·subst z
   rw[List.getElem?_set_self hl]at q;cases q
   exact⟨v,A,ev,o',p⟩
  ·rw[List.getElem?_set_ne z]at q
   obtain⟨w,B,g1,g2,g3⟩:=h.sl j y q
   exact⟨w,B,g1,up (Ne.symm z) q g1 g2,g3⟩
 ·have one:∀ {j:Nat} {y:Sl} {w:V} {B:List Addr},(S.set i (some x'))[j]?=some (some y)→σ[j]?=some (some w)→Ow F H' Z y w B→∃ y0,S[j]?=some (some y0)∧Ow F H Z y0 w B:=fun {j y w B} g1 g2 g3=>by
   by_cases z:i=j
   ·subst z
    rw[List.getElem?_set_self hl]at g1;cases g1
    rw[ev]at g2;cases g2
    rw[g3.det o']
    exact⟨x,e,o⟩
   ·rw[List.getElem?_set_ne z]at g1
    obtain⟨w',B',k1,k2,_⟩:=h.sl j y g1
    rw[g2]at k1;cases k1
    rw[g3.det (up (Ne.symm z) g1 g2 k2)]
    exact⟨y,g1,k2⟩
  obtain⟨y0,a1,a2⟩:=one e1 e3 o1
  obtain⟨z0,b1,b2⟩:=one e2 e4 o2
  exact h.dj j k y0 z0 w u A' B' hjk a1 b1 e3 e4 a2 b2
theorem StOk.write (h:StOk F H Z S σ){i:Nat}{ds es:List D}{a:Addr}{us:List V}(e:S[i]?=some (some (.own ds)))(ha:σ[i]?=some (some (.ref a)))(r:Reps F.K F.C Z es us) :
  StOk F (upd H a (.lst us)) Z (S.set i (some (.own es))) σ:=by
 obtain⟨a',vs,e1,e2,e3,e4,r0⟩:=h.own i ds e
 rw[ha]at e1;cases e1
 exact h.rewr (x:=.own ds) (A:=[a]) e ha ⟨a,vs,rfl,rfl,e2,r0⟩ ⟨a,us,rfl,rfl,ar,r⟩ fun b hb=>ap fun z=>hb (by rw[z];exact .head _)
theorem StOk.frzAll (h:StOk F H Z S σ){i:Nat}{d:D}(e:S[i]?=some (some x))(ev:σ[i]?=some (some v))(o:Ow F H Z x v A)(hz:Same Z Z')(hsub:Same Z' H)(hnew:∀ b,Z' b≠none→Z b≠none∨b∈A)(r:Rep F.K F.C Z' d v):StOk F H Z' (S.set i (some (.val d))) σ:=by
 have hl:i < S.length:=(List.getElem?_eq_some_iff.mp e).1
 obtain⟨v',A',f1,q1,p⟩:=h.sl i x e
 rw[ev]at f1;cases f1
 cases o.det q1
 have up:∀ {y:Sl} {w:V} {B:List Addr},Ow F H Z y w B→Ow F H Z' y w B:=fun q=>q.mono hz fun _ _ _ e=>e
 refine⟨⟨h.ex.same,h.ex.z.trans hz,hsub,fun b q=>?_⟩,by simp[h.len],fun j y q=>?_,fun j k y z w u A' B' hjk e1 e2 e3 e4 o1 o2=>?_⟩
 ·rcases hnew b q with z | z
  ·exact h.ex.new b z
  ·exact .inr (p.h0 b z)
 ·by_cases z:i=j
  ·subst z
   rw[List.getElem?_set_self hl]at q;cases q
   exact⟨v,[],ev,⟨rfl,r⟩,Priv.nil⟩
  ·rw[List.getElem?_set_ne z]at q
   obtain⟨w,B,g1,g2,g3⟩:=h.sl j y q
   refine⟨w,B,g1,up g2,g3.nd,fun b hb=>?_,g3.h0⟩
   cases qz:Z' b with
   | none=>rfl
   | some u =>
    rcases hnew b (by rw[qz];simp) with y1 | y1
    ·exact absurd (g3.z b hb) y1
    ·exact absurd y1 (h.dj j i _ _ _ _ _ _ (Ne.symm z) q e g1 ev g2 o b hb)
 ·have one:∀ {j:Nat} {y:Sl} {w:V} {B:List Addr},(S.set i (some (.val d)))[j]?=some (some y)→σ[j]?=some (some w)→Ow F H Z' y w B→B=[]∨(j≠i∧S[j]?=some (some y)∧Ow F H Z y w B):=fun {j y w B} g1 g2 g3=>by
   by_cases z:i=j
   ·subst z
    rw[List.getElem?_set_self hl]at g1;cases g1
    exact .inl g3.1
   ·rw[List.getElem?_set_ne z]at g1
    obtain⟨w',B',k1,k2,_⟩:=h.sl j y g1
    rw[g2]at k1;cases k1
    rw[g3.det (up k2)]
    exact .inr ⟨Ne.symm z,g1,k2⟩
  rcases one e1 e3 o1 with z1 | ⟨_,z1,z2⟩
  ·rw[z1];exact fun a ha=>nomatch ha
  ·rcases one e2 e4 o2 with y1 | ⟨_,y1,y2⟩
   ·rw[y1];exact fun a _ ha=>nomatch ha
   ·exact h.dj j k _ _ _ _ _ _ hjk z1 y1 e3 e4 z2 y2
theorem StOk.freeze (h:StOk F H Z S σ){i:Nat}{ds:List D}(e:S[i]?=some (some (.own ds))):∃ Z',Same Z Z'∧StOk F H Z' (S.set i (some (.val (.lst ds)))) σ:=by
 obtain⟨a,vs,e1,e2,e3,e4,r⟩:=h.own i ds e
 have hz:Same Z (upd Z a (.lst vs)):=aC e3
 refine⟨upd Z a (.lst vs),hz,h.frzAll (x:=.own ds) (A:=[a]) e e1 ⟨a,vs,rfl,rfl,e2,r⟩ hz (fun b o q=>?_) (fun b q=>?_) (by rw[Rep];exact⟨a,vs,rfl,SqL.of ar,r.mono hz⟩)⟩
 ·by_cases y:b=a
  ·subst y;rw[ar]at q;cases q;exact e2
  ·rw[ap y]at q;exact h.ex.sub b o q
 ·by_cases y:b=a
  ·exact .inr (by rw[y];exact .head _)
  ·rw[ap y]at q;exact .inl q
theorem Rows.reps (hH:∀ b∈B,Z' b=H b)(hz:Same Z Z'):∀ {m:List (List D)} {rs:List Addr},(∀ r∈rs,r∈B)→Rows F H Z m rs→Reps F.K F.C Z' (m.map .lst) (rs.map V.ref)
 | [],[],_,_=>by rw[List.map_nil,List.map_nil,Reps]
 | ds::m,r::rs,k,h=>by
  obtain⟨⟨vs,e,q⟩,h⟩:=h
  rw[List.map_cons,List.map_cons,Reps]
  exact⟨_,_,rfl,by rw[Rep];exact⟨r,vs,rfl,SqL.of (by rw[hH r (k r (.head _))];exact e),q.mono hz⟩,Rows.reps hH hz (fun a ha=>k a (.tail _ ha)) h⟩
 | [],_::_,_,h=>h.elim
 | _::_,[],_,h=>h.elim
theorem StOk.freezeM (h:StOk F H Z S σ){i:Nat}{m:List (List D)}(e:S[i]?=some (some (.mat m))):∃ Z',Same Z Z'∧StOk F H Z' (S.set i (some (.val (.lst (m.map .lst))))) σ:=by
 obtain⟨a,rs,e1,e2,r,p⟩:=h.mat i m e
 have hin:∀ b∈a::rs,(if b∈a::rs then H b else Z b)=H b:=fun b hb=>if_pos hb
 have hz:Same Z (fun b=>if b∈a::rs then H b else Z b):=fun b o q=>by
  by_cases y:b∈a::rs
  ·rw[p.z b y]at q;cases q
  ·show (if b∈a::rs then H b else Z b)=_;rw[if_neg y];exact q
 refine⟨fun b=>if b∈a::rs then H b else Z b,hz,h.frzAll (x:=.mat m) (A:=a::rs) e e1 ⟨a,rs,rfl,rfl,e2,r⟩ hz (fun b o q=>?_) (fun b q=>?_) ?_⟩
 ·by_cases y:b∈a::rs
  ·have q':(if b∈a::rs then H b else Z b)=some o:=q;rw[if_pos y]at q';exact q'
  ·have q':(if b∈a::rs then H b else Z b)=some o:=q;rw[if_neg y]at q';exact h.ex.sub b o q'
 ·by_cases y:b∈a::rs
  ·exact .inr y
  ·have q':(if b∈a::rs then H b else Z b)≠none:=q;rw[if_neg y]at q';exact .inl q'
 ·rw[Rep]
  exact⟨a,rs.map V.ref,rfl,SqL.of (by show (if a∈a::rs then H a else Z a)=_;rw[if_pos (.head _)];exact e2),Rows.reps (B:=a::rs) hin hz (fun b hb=>.tail _ hb) r⟩
end
theorem tW {F G:Fx}{H Z:Hp}(hK:G.K=F.K:=by rfl)(hC:G.C=F.C:=by rfl):∀ {m:List (List D)} {rs:List Addr},Rows F H Z m rs→Rows G H Z m rs
 | [],[],_=>trivial
 | ds::m,r::rs,h=>by
  obtain⟨⟨vs,e,q⟩,h⟩:=h
  exact⟨⟨vs,e,by rw[hK,hC];exact q⟩,tW hK hC h⟩
 | [],_::_,h=>h.elim
 | _::_,[],h=>h.elim
theorem ow_K {F G:Fx}{H Z:Hp}{x:Sl}{v:V}{A:List Addr}(h:Ow F H Z x v A)(hK:G.K=F.K:=by rfl)(hC:G.C=F.C:=by rfl):Ow G H Z x v A:=by
 cases x with
 | val d=>exact⟨h.1,by rw[hK,hC];exact h.2⟩
 | own ds=>obtain⟨a,vs,e1,e2,e3,r⟩:=h;exact⟨a,vs,e1,e2,e3,by rw[hK,hC];exact r⟩
 | mat m=>obtain⟨a,rs,e1,e2,e3,r⟩:=h;exact⟨a,rs,e1,e2,e3,tW hK hC r⟩
 | dic m=>obtain⟨a,vs,e1,e2,e3,r⟩:=h;exact⟨a,vs,e1,e2,e3,r.1,by rw[hK,hC];exact r.2⟩
 | dit m=>obtain⟨a,vs,e1,e2,e3,r⟩:=h;exact⟨a,vs,e1,e2,e3,r.1,by rw[hK,hC];exact r.2⟩
end FF
end
noncomputable section
namespace FF
open PySem PySem.Spec PyProof.Rows L2
def WG {α:Type}(F:Fx)(H Z:Hp)(r:R α)(P:α→Hp→Hp→Prop):Prop:=match r with
 | .ok a=>∀ H' Z',Ex H Z H' Z'→P a H' Z'
 | .err k=>∀ H',Same H H'→F.E (.ref (F.C k)) none H'
 | .stuck=>False
section
variable {α:Type}{F:Fx}{H Z H1 Z1:Hp}{r:R α}{P P':α→Hp→Hp→Prop}
theorem WG.more (w:WG F H Z r P)(x:Ex H Z H1 Z1):WG F H1 Z1 r P:=by
 cases r with
 | ok a=>exact fun H' Z' y=>w H' Z' (x.trans y)
 | err k=>exact fun H' y=>w H' (x.same.trans y)
 | stuck=>exact w
theorem WG.now {a:α}(w:WG F H Z (.ok a) P)(s:Same Z H):P a H Z:=w H Z (Ex.refl s)
end
def tE (F:Fx)(g:SS→R D):TE:=fun σ H Q=>∃ Z S,StOk F H Z S σ∧WG F H Z (g S) fun d H' Z'=>∀ v,Rep F.K F.C Z' d v→Q v H'
def tT (F:Fx)(g:SS→R Bool):TT:=fun σ H Q=>∃ Z S,StOk F H Z S σ∧WG F H Z (g S) fun b H' _=>Q b H'
def tAl (F:Fx)(g:SS→R (List D)):TA:=fun σ H Q=>∃ Z S,StOk F H Z S σ∧WG F H Z (g S) fun ds H' Z'=>∀ vs,Reps F.K F.C Z' ds vs→Q vs H'
inductive O where
 | nx (S:SS) | rt (d:D) | er (k:Nat) | bk (S:SS) | ct (S:SS) | stuck
def WO (F:Fx)(Z:Hp)(o:O)(D:Ends):Prop:=match o with
 | .nx S=>∀ σ H Z',Same Z Z'→StOk F H Z' S σ→D.nx σ H
 | .rt d=>∀ v H Z',Ex F.H0 F.Z0 H Z'→Rep F.K F.C Z' d v→D.rt v H
 | .er k=>∀ H,Same F.H0 H→F.E (.ref (F.C k)) none H
 | .bk S=>∀ σ H Z',Same Z Z'→StOk F H Z' S σ→D.bk σ H
 | .ct S=>∀ σ H Z',Same Z Z'→StOk F H Z' S σ→D.ct σ H
 | .stuck=>False
theorem WO.more {F:Fx}{Z Z1:Hp}{o:O}{D:Ends}(w:WO F Z o D)(z:Same Z Z1):WO F Z1 o D:=by
 cases o with
 | nx S=>exact fun σ H Z' q=>w σ H Z' (z.trans q)
 | rt d=>exact w
 | er k=>exact w
 | bk S=>exact fun σ H Z' q=>w σ H Z' (z.trans q)
 | ct S=>exact fun σ H Z' q=>w σ H Z' (z.trans q)
 | stuck=>exact w
def tS (F:Fx)(g:SS→O):TS:=fun D σ H=>∃ Z S,StOk F H Z S σ∧WO F Z (g S) D
abbrev FE (X:Cx)(F:Fx)(e:Expr)(g:SS→R D):Prop:=PE X e (tE F g)
abbrev FT (X:Cx)(F:Fx)(e:Expr)(g:SS→R Bool):Prop:=PT X e (tT F g)
abbrev FW (X:Cx)(F:Fx)(e:Expr)(g:SS→R Bool):Prop:=PW X e (tT F g)
abbrev FA (X:Cx)(F:Fx)(es:List Expr)(g:SS→R (List D)):Prop:=PA X es (tAl F g)
abbrev FS (X:Cx)(F:Fx)(st:Stmt)(g:SS→O):Prop:=PS X st (tS F g)
abbrev FSs (X:Cx)(F:Fx)(sts:List Stmt)(g:SS→O):Prop:=PSs X sts (tS F g)
theorem _root_.L2.PE.weak {X:Cx}{e:Expr}{t t':TE}(h:PE X e t)(w:∀ σ H Q,t' σ H Q→t σ H Q):PE X e t':=fun pins s σ H Q I q=>h pins s σ H Q I (w σ H Q q)
theorem _root_.L2.PT.weak {X:Cx}{e:Expr}{t t':TT}(h:PT X e t)(w:∀ σ H Q,t' σ H Q→t σ H Q):PT X e t':=fun pins s σ H Q I q=>h pins s σ H Q I (w σ H Q q)
theorem _root_.L2.PW.weak {X:Cx}{e:Expr}{t t':TT}(h:PW X e t)(w:∀ σ H Q,t' σ H Q→t σ H Q):PW X e t':=fun wh pins s σ H Q I q=>h wh pins s σ H Q I (w σ H Q q)
theorem _root_.L2.PA.weak {X:Cx}{e:List Expr}{t t':TA}(h:PA X e t)(w:∀ σ H Q,t' σ H Q→t σ H Q):PA X e t':=fun p pins s σ H Q I q=>h p pins s σ H Q I (w σ H Q q)
theorem _root_.L2.PS.weak {X:Cx}{e:Stmt}{t t':TS}(h:PS X e t)(w:∀ D σ H,t' D σ H→t D σ H):PS X e t':=fun pins s σ H D I q=>h pins s σ H D I (w D σ H q)
theorem _root_.L2.PSs.weak {X:Cx}{e:List Stmt}{t t':TS}(h:PSs X e t)(w:∀ D σ H,t' D σ H→t D σ H):PSs X e t':=fun pins s σ H D I q=>h pins s σ H D I (w D σ H q)
section
variable {F:Fx}{σ:St}{H Z:Hp}{S:SS}
theorem aD {α:Type}{g:SS→R D}{k:D→R α}{P:α→Hp→Hp→Prop}{Q:VK}(ok:StOk F H Z S σ)(w:WG F H Z ((g S).bind k) P)
  (h:∀ d v H1 Z1,StOk F H1 Z1 S σ→Ex H Z H1 Z1→Rep F.K F.C Z1 d v→WG F H1 Z1 (k d) P→Q v H1):tE F g σ H Q:=by
 refine⟨Z,S,ok,?_⟩
 cases e:g S with
 | ok d =>
  rw[e]at w
  intro H1 Z1 x v r
  exact h d v H1 Z1 (ok.more x) x r (WG.more (r:=k d) w x)
 | err k=>rw[e]at w;exact w
 | stuck=>rw[e]at w;exact w
theorem fL {α:Type}{g:SS→R Bool}{k:Bool→R α}{P:α→Hp→Hp→Prop}{Q:Bool→Hp→Prop}(ok:StOk F H Z S σ)(w:WG F H Z ((g S).bind k) P)
  (h:∀ b H1 Z1,StOk F H1 Z1 S σ→Ex H Z H1 Z1→WG F H1 Z1 (k b) P→Q b H1):tT F g σ H Q:=by
 refine⟨Z,S,ok,?_⟩
 cases e:g S with
 | ok d =>
  rw[e]at w
  intro H1 Z1 x
  exact h d H1 Z1 (ok.more x) x (WG.more (r:=k d) w x)
 | err k=>rw[e]at w;exact w
 | stuck=>rw[e]at w;exact w
theorem aO {α:Type}{g:SS→R (List D)}{k:List D→R α}{P:α→Hp→Hp→Prop}{Q:List V→Hp→Prop}(ok:StOk F H Z S σ)(w:WG F H Z ((g S).bind k) P)
  (h:∀ ds vs H1 Z1,StOk F H1 Z1 S σ→Ex H Z H1 Z1→Reps F.K F.C Z1 ds vs→WG F H1 Z1 (k ds) P→Q vs H1):tAl F g σ H Q:=by
 refine⟨Z,S,ok,?_⟩
 cases e:g S with
 | ok d =>
  rw[e]at w
  intro H1 Z1 x v r
  exact h d v H1 Z1 (ok.more x) x r (WG.more (r:=k d) w x)
 | err k=>rw[e]at w;exact w
 | stuck=>rw[e]at w;exact w
end
def eVar (i:Nat):SS→R D:=fun S=>match S[i]? with
 | some (some (.val d))=>.ok d
 | _=>.stuck
def eC (d:D):SS→R D:=fun _=>.ok d
section
variable {X:Cx}{F:Fx}{e a b:Expr}{g ga gb:SS→R D}{pos:Pos}
theorem c6 {v:V}{d:D}(h:PE X e (tC v))(r:∀ Z,Rep F.K F.C Z d v):FE X F e (eC d):=h.weak fun σ H Q ⟨Z,S,ok,w⟩=>WG.now w ok.sub v (r Z)
theorem ae {i j pos}:FE X F (.Constant (.int i) j pos) (eC (.int i)):=c6 xJ fun _=>by rw[Rep]
theorem dH {b j pos}:FE X F (.Constant (.bool b) j pos) (eC (.bl b)):=c6 yU fun _=>by rw[Rep]
theorem jd {j pos}:FE X F (.Constant .none j pos) (eC .non):=c6 xK fun _=>by rw[Rep]
theorem az {x j pos}:FE X F (.Constant (.str x) j pos) (eC (.str x)):=c6 xL fun _=>by rw[Rep]
theorem ac (i:Nat){x:Str}{pos:Pos}(hN:X.N[i]?=some x:=by rfl)(hv:Vis X.env.scope x:=by first | exact Or.inl rfl | exact Or.inr (Or.inl rfl) | exact Or.inr (Or.inr rfl))(hd:(x==("__debug__":Str))=false:=by decide)
  (hcd:(x==("__classdict__":Str))=false:=by decide):FE X F (.Name x pos) (eVar i):=(fg hN hv hd hcd).weak fun σ H Q ⟨Z,S,ok,w⟩=>by
 unfold eVar at w
 split at w
 ·rename_i d e
  obtain⟨v,e1,r⟩:=ok.val i d e
  exact⟨v,e1,WG.now w ok.sub v r⟩
 ·exact w.elim
end
def OpD (F:Fx)(r:R2)(f:D→D→R D):Prop:=∀ (H Z:Hp) (x y:V) (dx dy:D) (Q:VK),Same Z H→Rep F.K F.C Z dx x→Rep F.K F.C Z dy y →
 WG F H Z (f dx dy) (fun d H' Z'=>∀ v,Rep F.K F.C Z' d v→Q v H')→r x y H Q
def eOp (f:D→D→R D)(ga gb:SS→R D):SS→R D:=fun S=>(ga S).bind fun x=>(gb S).bind fun y=>f x y
section
variable {X:Cx}{F:Fx}{e a b c:Expr}{ga gb gc:SS→R D}{pos:Pos}{r:R2}{f:D→D→R D}
theorem lN (hd:OpD F r f):∀ σ H Q,tE F (eOp f ga gb) σ H Q→tOp r (tE F ga) (tE F gb) σ H Q:=fun σ H Q ⟨Z,S,ok,w⟩ =>
 aD ok w fun dx x H1 Z1 ok1 x1 rx w1=>aD ok1 w1 fun dy y H2 Z2 ok2 x2 ry w2=>hd H2 Z2 x y dx dy Q ok2.sub (rx.mono x2.z) ry w2
theorem mV {op:Operator}(ho:OpR X (binaryOp op) r)(hd:OpD F r f)(ha:FE X F a ga)(hb:FE X F b gb):FE X F (.BinOp a op b pos) (eOp f ga gb):=(yY ho ha hb).weak (lN hd)
theorem yk {op:CmpOp}(ho:OpR X (compareOp op) r)(hd:OpD F r f)(ha:FE X F a ga)(hb:FE X F b gb)(hm:behindInMarks op b=false:=by first | exact nomark _ | rfl):FE X F (.Compare a [op] [b] pos) (eOp f ga gb) :=
 (vJ ho ha hb hm).weak (lN hd)
theorem y8 (ho:IxR X r)(hd:OpD F r f)(ha:FE X F a ga)(hb:FE X F b gb)(hs:PlainIx b:=by intro _ _;rfl):FE X F (.Subscript a b pos) (eOp f ga gb):=(tO ho ha hb hs).weak (lN hd)
def asB (r:R D):R Bool:=r.bind fun d=>match d with
 | .bl b=>.ok b
 | _=>.stuck
def gB (g:SS→R D):SS→R Bool:=fun S=>asB (g S)
theorem tX {t:TE}{g:SS→R D}(h:∀ σ H Q,tE F g σ H Q→t σ H Q):∀ σ H Q,tT F (gB g) σ H Q→tTest t σ H Q:=fun σ H Q ⟨Z,S,ok,w⟩=>by
 refine h σ H _ (aD ok w fun d v H1 Z1 ok1 x1 rv w1=>?_)
 cases d with
 | bl b=>rw[Rep]at rv;exact⟨b,rv,WG.now w1 ok1.sub⟩
 | _=>exact w1.elim
theorem aV {g:SS→R D}(h:FE X F e g)(he:∀ whole,isTrue e X.env whole=(do let v ← whole;standAt e.pos;holding [v] (truthy v)):=by intro _;rfl):FT X F e (gB g) :=
 (xM h he).weak (tX (t:=tE F g) fun _ _ _ q=>q)
theorem dO {op:CmpOp}(ho:OpR X (compareOp op) r)(hd:OpD F r f)(ha:FE X F a ga)(hb:FE X F b gb)(hm:behindInMarks op b=false:=by first | exact nomark _ | rfl):FT X F (.Compare a [op] [b] pos) (gB (eOp f ga gb)) :=
 (vK ho ha hb hm).weak (tX (lN hd))
end
def gAnd (a b:SS→R Bool):SS→R Bool:=fun S=>(a S).bind fun c=>if c=true then b S else .ok false
def gOr (a b:SS→R Bool):SS→R Bool:=fun S=>(a S).bind fun c=>if c=true then .ok true else b S
def gNot (a:SS→R Bool):SS→R Bool:=fun S=>(a S).bind fun c=>.ok (!c)
def eIf (c:SS→R Bool)(a b:SS→R D):SS→R D:=fun S=>(c S).bind fun t=>if t=true then a S else b S
section
variable {X:Cx}{F:Fx}{e a b c:Expr}{rest:List Expr}{ta tb tc:SS→R Bool}{ga gb:SS→R D}{pos:Pos}
theorem lO (h:FT X F a ta):FW X F (.BoolOp .And [a] pos) ta:=vF h
theorem c7 (h:FT X F a ta):FW X F (.BoolOp .Or [a] pos) ta:=xN h
theorem oP (ha:FT X F a ta)(hb:FW X F (.BoolOp .And (b::rest) pos) tb):FW X F (.BoolOp .And (a::b::rest) pos) (gAnd ta tb) :=
 (xO ha hb).weak fun σ H Q ⟨Z,S,ok,w⟩=>fL ok w fun d H1 Z1 ok1 x1 w1=>by
  cases d with
  | true=>exact⟨Z1,S,ok1,w1⟩
  | false=>exact WG.now w1 ok1.sub
theorem cO (ha:FT X F a ta)(hb:FW X F (.BoolOp .Or (b::rest) pos) tb):FW X F (.BoolOp .Or (a::b::rest) pos) (gOr ta tb) :=
 (yV ha hb).weak fun σ H Q ⟨Z,S,ok,w⟩=>fL ok w fun d H1 Z1 ok1 x1 w1=>by
  cases d with
  | true=>exact WG.now w1 ok1.sub
  | false=>exact⟨Z1,S,ok1,w1⟩
theorem ft_w (h:FW X F e ta):FT X F e ta:=h.pt
theorem bd (h:FT X F a ta):FT X F (.UnaryOp .Not a pos) (gNot ta) :=
 (xP h).weak fun σ H Q ⟨Z,S,ok,w⟩=>fL ok w fun d H1 Z1 ok1 x1 w1=>WG.now w1 ok1.sub
theorem gM {op}(h:FE X F a ga):FE X F (.BoolOp op [a] pos) ga:=xQ h
def eAnd (a b:SS→R D):SS→R D:=fun S=>(asB (a S)).bind fun c=>if c=true then b S else .ok (.bl false)
def eOr (a b:SS→R D):SS→R D:=fun S=>(asB (a S)).bind fun c=>if c=true then .ok (.bl true) else b S
def eNot (a:SS→R D):SS→R D:=fun S=>(asB (a S)).bind fun c=>.ok (.bl (!c))
theorem oQ {α:Type}{σ:St}{H Z:Hp}{S:SS}{g:SS→R D}{k:Bool→R α}{P:α→Hp→Hp→Prop}{Q:VK}(ok:StOk F H Z S σ)(w:WG F H Z ((asB (g S)).bind k) P)
  (h:∀ c H1 Z1,StOk F H1 Z1 S σ→Ex H Z H1 Z1→WG F H1 Z1 (k c) P→Q (.bl c) H1):tE F g σ H Q:=by
 have e:(asB (g S)).bind k=(g S).bind fun d=>(match d with | .bl b=>R.ok b | _=>R.stuck).bind k:=by
  unfold asB;cases g S<;>rfl
 rw[e]at w
 refine aD ok w fun d v H1 Z1 ok1 x1 rv w1=>?_
 cases d with
 | bl b=>rw[Rep]at rv;subst rv;exact h b H1 Z1 ok1 x1 w1
 | _=>exact w1.elim
theorem je (ha:FE X F a ga)(hb:FE X F (.BoolOp .And (b::rest) pos) gb):FE X F (.BoolOp .And (a::b::rest) pos) (eAnd ga gb) :=
 (xR ha hb).weak fun σ H Q ⟨Z,S,ok,w⟩=>oQ ok w fun c H1 Z1 ok1 x1 w1=>⟨c,rfl,by
  cases c with
  | true=>exact⟨Z1,S,ok1,w1⟩
  | false=>exact WG.now w1 ok1.sub _ (by rw[Rep])⟩
theorem y9 (ha:FE X F a ga)(hb:FE X F (.BoolOp .Or (b::rest) pos) gb):FE X F (.BoolOp .Or (a::b::rest) pos) (eOr ga gb) :=
 (yW ha hb).weak fun σ H Q ⟨Z,S,ok,w⟩=>oQ ok w fun c H1 Z1 ok1 x1 w1=>⟨c,rfl,by
  cases c with
  | true=>exact WG.now w1 ok1.sub _ (by rw[Rep])
  | false=>exact⟨Z1,S,ok1,w1⟩⟩
theorem yl (ha:FE X F a ga):FE X F (.UnaryOp .Not a pos) (eNot ga) :=
 (xS ha).weak fun σ H Q ⟨Z,S,ok,w⟩=>oQ ok w fun c H1 Z1 ok1 x1 w1=>⟨c,rfl,WG.now w1 ok1.sub _ (by rw[Rep])⟩
theorem xt (hc:FT X F c tc)(ha:FE X F a ga)(hb:FE X F b gb):FE X F (.IfExp c a b pos) (eIf tc ga gb) :=
 (tm hc ha hb).weak fun σ H Q ⟨Z,S,ok,w⟩=>fL ok w fun d H1 Z1 ok1 x1 w1=>by
  cases d with
  | true=>exact⟨Z1,S,ok1,w1⟩
  | false=>exact⟨Z1,S,ok1,w1⟩
end
def aNil:SS→R (List D):=fun _=>.ok []
def aCons (g:SS→R D)(gs:SS→R (List D)):SS→R (List D):=fun S=>(g S).bind fun d=>(gs S).bind fun ds=>.ok (d::ds)
def eTup (gs:SS→R (List D)):SS→R D:=fun S=>(gs S).bind fun ds=>if ds.length≤16777216 then .ok (.tup ds) else .stuck
def eLst (gs:SS→R (List D)):SS→R D:=fun S=>(gs S).bind fun ds=>if ds.length≤16777216 then .ok (.lst ds) else .stuck
section
variable {X:Cx}{F:Fx}{e:Expr}{es:List Expr}{g:SS→R D}{gs:SS→R (List D)}{pos:Pos}
theorem ym:FA X F [] aNil:=lG.weak fun σ H Q ⟨Z,S,ok,w⟩=>WG.now w ok.sub [] Reps.nil
theorem vT (ha:FE X F e g)(hr:FA X F es gs)(hs:starEach (e::es) X.env=(false,eval e X.env)::starEach es X.env:=by rfl):FA X F (e::es) (aCons g gs) :=
 (fJ ha hr hs).weak fun σ H Q ⟨Z,S,ok,w⟩=>aD ok w fun d v H1 Z1 ok1 x1 rv w1=>aO ok1 w1 fun ds vs H2 Z2 ok2 x2 rs w2=>WG.now w2 ok2.sub _ (Reps.cons (rv.mono x2.z) rs)
theorem yn {x1}(h:FA X F es gs):FE X F (.Tuple es x1 pos) (eTup gs) :=
 (ye h).weak fun σ H Q ⟨Z,S,ok,w⟩=>aO ok w fun ds vs H1 Z1 ok1 x1 rs w1=>by
  split at w1
  ·rename_i hl
   refine⟨by rw[← rs.length,sizeLine_eq];exact hl,fun p hp=>?_⟩
   have z:Same Z1 (upd Z1 p (.tup vs)):=aC (ok1.sub.free hp)
   exact w1 _ _ (Ex.alloc ok1.sub hp) _ (by rw[Rep];exact⟨p,vs,rfl,SqT.of ar,rs.mono z⟩)
  ·exact w1.elim
theorem yo (h:FA X F es gs):FE X F (.List es pos) (eLst gs) :=
 (tG h).weak fun σ H Q ⟨Z,S,ok,w⟩=>aO ok w fun ds vs H1 Z1 ok1 x1 rs w1=>by
  split at w1
  ·rename_i hl
   refine⟨by rw[← rs.length,sizeLine_eq];exact hl,fun p hp=>?_⟩
   have z:Same Z1 (upd Z1 p (.lst vs)):=aC (ok1.sub.free hp)
   exact w1 _ _ (Ex.alloc ok1.sub hp) _ (by rw[Rep];exact⟨p,vs,rfl,SqL.of ar,rs.mono z⟩)
  ·exact w1.elim
end
def rO (r:R O):O:=match r with
 | .ok o=>o
 | .err k=>.er k
 | .stuck=>.stuck
def sDrop (g:SS→R D):SS→O:=fun S=>rO ((g S).bind fun _=>.ok (.nx S))
def sRet (g:SS→R D):SS→O:=fun S=>rO ((g S).bind fun d=>.ok (.rt d))
def sSet (i:Nat)(g:SS→R D):SS→O:=fun S=>rO ((g S).bind fun d=>.ok (.nx (S.set i (some (.val d)))))
section
variable {X:Cx}{F:Fx}{st:Stmt}{rest:List Stmt}{e c:Expr}{g:SS→R D}{gt:SS→R Bool}{ga gb:SS→O}{pos:Pos}
theorem WO.wg {D:Ends}{r:R O}{H Z:Hp}{S:SS}{σ:St}(ok:StOk F H Z S σ)(w:WO F Z (rO r) D):WG F H Z r fun o _ Z'=>WO F Z' o D:=by
 cases r with
 | ok o=>exact fun _ _ x=>WO.more w x.z
 | err k=>exact fun H' s=>w H' (ok.ex.same.trans s)
 | stuck=>exact w
theorem iS (h:FE X F e g)(hs:swapsWith e none pos.line X.env=pure false:=by rfl):FS X F (.Expr e pos) (sDrop g) :=
 (lE h hs).weak fun D σ H ⟨Z,S,ok,w⟩=>aD ok (WO.wg ok w) fun d v H1 Z1 ok1 x1 rv w1=>WG.now w1 ok1.sub σ H1 Z1 (Same.refl _) ok1
theorem ag (h:FE X F e g):FS X F (.Return (some e) pos) (sRet g) :=
 (xT h).weak fun D σ H ⟨Z,S,ok,w⟩=>aD ok (WO.wg ok w) fun d v H1 Z1 ok1 x1 rv w1=>WG.now w1 ok1.sub v H1 Z1 ok1.ex rv
theorem aw (i:Nat){x:Str}{pos':Pos}(hN:X.N.Nodup)(h:FE X F e g)(hi:X.N[i]?=some x:=by rfl)(hx:Loc X.env.scope x:=by first | exact Or.inl rfl | exact Or.inr rfl)
  (hs:swapsWith e (some (.Name x pos')) pos.line X.env=pure false:=by rfl) (hf:X.fn x=true∨X.env.scope.names.lookup x=some .local:=by first | exact .inl rfl | exact .inr rfl):FS X F (.Assign [.Name x pos'] e pos) (sSet i g) :=
 (oC hN hi hx h hs hf).weak fun D σ H ⟨Z,S,ok,w⟩=>aD ok (WO.wg ok w) fun d v H1 Z1 ok1 x1 rv w1=>WG.now w1 ok1.sub _ _ _ (Same.refl _) (ok1.setVal rv)
end
end FF
end
noncomputable section
namespace FF
open PySem PySem.Spec PyProof.Rows L2
theorem OpD.or {F:Fx}{r r':R2}{f f':D→D→R D}(p:D→D→Bool)(h:OpD F r f)(h':OpD F r' f'):OpD F (fun x y H Q=>r x y H Q∨r' x y H Q) (fun x y=>if p x y=true then f x y else f' x y):=by
 intro H Z x y dx dy Q s rx ry w
 by_cases e:p dx dy=true
 ·dsimp only at w;rw[if_pos e]at w;exact .inl (h H Z x y dx dy Q s rx ry w)
 ·dsimp only at w;rw[if_neg e]at w;exact .inr (h' H Z x y dx dy Q s rx ry w)
def dI (c:Int→Int→Bool)(g:Int→Int→D):D→D→R D
 | .int i,.int j=>if c i j=true then .ok (g i j) else .stuck
 | _,_=>.stuck
def dI0 (g:Int→Int→D):D→D→R D
 | .int i,.int j=>.ok (g i j)
 | _,_=>.stuck
theorem tY {F:Fx}{C:Int→Int→Prop}{c:Int→Int→Bool}{g:Int→Int→V}{g':Int→Int→D}(hc:∀ i j,c i j=true→C i j)(hg:∀ i j Z,Rep F.K F.C Z (g' i j) (g i j)):OpD F (rI C g) (dI c g'):=by
 intro H Z x y dx dy Q s rx ry w
 cases dx with
 | int i =>
  cases dy with
  | int j =>
   rw[Rep]at rx
   rw[Rep]at ry
   subst rx;subst ry
   unfold dI at w
   dsimp only at w
   split at w
   ·rename_i q;exact⟨i,j,rfl,rfl,hc i j q,WG.now w s _ (hg i j Z)⟩
   ·exact w.elim
  | _=>exact w.elim
 | _=>exact w.elim
theorem c8 {F:Fx}{g:Int→Int→V}{g':Int→Int→D}(hg:∀ i j Z,Rep F.K F.C Z (g' i j) (g i j)):OpD F (rI0 g) (dI0 g'):=by
 intro H Z x y dx dy Q s rx ry w
 cases dx with
 | int i =>
  cases dy with
  | int j =>
   rw[Rep]at rx
   rw[Rep]at ry
   subst rx;subst ry
   exact⟨i,j,rfl,rfl,WG.now w s _ (hg i j Z)⟩
  | _=>exact w.elim
 | _=>exact w.elim
def cMul (i j:Int):Bool:=(decide (-(2^64) < i)&&decide (i < 2^64))||(decide (-(2^64) < j)&&decide (j < 2^64))
def cDiv (i j:Int):Bool:=decide (0 < j)&&decide (j < 1073741824)
theorem vU (i j:Int)(h:cMul i j=true):CMul i j:=by
 unfold cMul at h
 simp only[Bool.or_eq_true,Bool.and_eq_true,decide_eq_true_eq]at h
 exact h
theorem vV (i j:Int)(h:cDiv i j=true):CDiv i j:=by
 unfold cDiv at h
 simp only[Bool.and_eq_true,decide_eq_true_eq]at h
 exact h
def isInt:D→Bool
 | .int _=>true
 | _=>false
def isTup:D→Bool
 | .tup _=>true
 | _=>false
def isLst:D→Bool
 | .lst _=>true
 | _=>false
def dCatT:D→D→R D
 | .tup xs,.tup ys=>if xs.length+ys.length≤16777216 then .ok (.tup (xs++ys)) else .stuck
 | _,_=>.stuck
def dCatL:D→D→R D
 | .lst xs,.lst ys=>if xs.length+ys.length≤16777216 then .ok (.lst (xs++ys)) else .stuck
 | _,_=>.stuck
def dRepT:D→D→R D
 | .tup xs,.int k=>if 0≤k∧k < 1000000∧xs.length*k.toNat≤16777216 then .ok (.tup (List.replicate k.toNat xs).flatten) else .stuck
 | _,_=>.stuck
def dRepL:D→D→R D
 | .lst xs,.int k=>if 0≤k∧k < 1000000∧xs.length*k.toNat≤16777216 then .ok (.lst (List.replicate k.toNat xs).flatten) else .stuck
 | _,_=>.stuck
def dIx:D→D→R D
 | .tup xs,.int i=>match atI xs i with
  | some d=>.ok d
  | none=>.stuck
 | .lst xs,.int i=>match atI xs i with
  | some d=>.ok d
  | none=>.stuck
 | _,_=>.stuck
theorem Reps.at {K:PySem.W.Frag}{C:Nat→Addr}{Z:Hp}{ds:List D}{vs:List V}{i:Int}{d:D}(r:Reps K C Z ds vs)(h:atI ds i=some d):∃ v,atI vs i=some v∧Rep K C Z d v:=by
 unfold atI at h ⊢
 rw[← r.length]
 cases e:ixN ds.length i with
 | none=>rw[e]at h;cases h
 | some j =>
  rw[e]at h
  exact r.get (i:=j) h
theorem yp {F:Fx}:OpD F (rIx F.K) dIx:=by
 intro H Z x y dx dy Q s rx ry w
 cases dx with
 | tup ds =>
  cases dy with
  | int i =>
   rw[Rep]at rx
   rw[Rep]at ry
   obtain⟨a,vs,rfl,h1,h2⟩:=rx
   subst ry
   unfold dIx at w
   dsimp only at w
   split at w
   ·rename_i d e
    obtain⟨v,e1,r⟩:=h2.at e
    exact .inr (.inl ⟨a,vs,i,v,rfl,rfl,h1.mono s,e1,WG.now w s v r⟩)
   ·exact w.elim
  | _=>exact w.elim
 | lst ds =>
  cases dy with
  | int i =>
   rw[Rep]at rx
   rw[Rep]at ry
   obtain⟨a,vs,rfl,h1,h2⟩:=rx
   subst ry
   unfold dIx at w
   dsimp only at w
   split at w
   ·rename_i d e
    obtain⟨v,e1,r⟩:=h2.at e
    exact .inl ⟨a,vs,i,v,rfl,rfl,s.seq h1,e1,WG.now w s v r⟩
   ·exact w.elim
  | _=>exact w.elim
 | _=>exact w.elim
section
open AutoSeq1 (wpAny_loadPart')
theorem mW (l b:Addr)(items items2:Array Value)(n n2:Nat)(dd dd2:Option Addr)(sl sl2:Array (Option Value))(hc0:items.isEmpty=true) :
  Meets (Builtin.«tuple.__add__» ⟨[.ref l,.ref b],[]⟩) (fun _ R s=>s.heap.get? l=some { cls:=.type "tuple",dict:=dd,data:=.seq items n,slots:=sl }∧s.heap.get? b=some { cls:=.type "tuple",dict:=dd2,data:=.seq items2 n2,slots:=sl2 }∧R (.ok (.ret (.ref b))) s) :=
 .of_wp fun prog w A R s h=>by
  obtain⟨hp,g,d,tk,os⟩:=s;obtain⟨hl,hb,h⟩:=h
  have f2:=AutoSeq1.sub_tuple_tuple
  have f3:=AutoSeq1.sub_list_list
  wp_walk using wpAny_loadPart' hl,wpAny_loadPart' hb
  exact⟨_,rfl,h⟩
end
theorem fM {K:PySem.W.Frag}{C:Nat→Addr}{Z:Hp}{ds:List D}{vs:List V}(r:Reps K C Z ds vs):∀ k:Nat,Reps K C Z (List.replicate k ds).flatten (List.replicate k vs).flatten
 | 0=>Reps.nil
 | k+1=>by
  rw[List.replicate_succ,List.replicate_succ,List.flatten_cons,List.flatten_cons]
  exact r.append (fM r k)
def rCat2 (K:PySem.W.Frag):R2:=fun x y H Q=>∃ a b xs ys,x=.ref a∧y=.ref b∧SqT K H a xs∧SqT K H b ys∧xs.length+ys.length≤sizeLine∧(∀ p,H p=none→Q (.ref p) (upd H p (.tup (xs++ys))))∧(ys=[]→Q (.ref a) H)∧(xs=[]→Q (.ref b) H)
theorem vW {X:Cx}:OpR X (binaryOp .Add) (rCat2 X.K):=by
 intro pins s σ H x y v u Q I rx ry h
 obtain⟨a,b,xs,ys,rfl,rfl,ha,hb,hz,q1,q2,q3⟩:=h
 by_cases hx:xs=[]
 ·cases rx
  cases ry
  obtain⟨its,r1,p1,_⟩:=I.tuple ha
  obtain⟨its2,r2,p2,_⟩:=I.tuple hb
  obtain⟨⟨cls,dd,data,sl⟩,ho,hc,n,hd⟩:=id p1
  obtain⟨⟨cls2,dd2,data2,sl2⟩,ho2,hc2,n2,hd2⟩:=id p2
  simp only at hc hd hc2 hd2
  subst hc hd hc2 hd2
  have he:its=[]:=by
   have:=r1.length
   rw[hx]at this
   exact List.length_eq_zero_iff.mp this.symm
  exact concat_meets ⟨_,ho,rfl⟩ ⟨_,ho2,rfl⟩ noFill_tuple_add seq_tuple_add PySem.F.slot_tuple_add PySem.F.entry_tuple_add (PySem.F.args_tuple_add_2 _ _)
   (mW a b its.toArray its2.toArray n n2 dd dd2 sl sl2 (by simp[he])) ⟨ho,ho2,⟨.ref b,H,I,rfl,q3 hx⟩⟩
 ·exact vQ pins s σ H _ _ v u Q I rx ry ⟨a,b,xs,ys,rfl,rfl,ha,hb,hx,hz,q2,fun _=>q1⟩
theorem tZ {F:Fx}:OpD F (rCat2 F.K) dCatT:=by
 intro H Z x y dx dy Q s rx ry w
 cases dx with
 | tup ds =>
  cases dy with
  | tup es =>
   rw[Rep]at rx
   rw[Rep]at ry
   obtain⟨a,vs,rfl,h1,h2⟩:=rx
   obtain⟨b,us,rfl,k1,k2⟩:=ry
   unfold dCatT at w
   dsimp only at w
   split at w
   ·rename_i hl
    refine⟨a,b,vs,us,rfl,rfl,h1.mono s,k1.mono s,by rw[← h2.length,← k2.length,sizeLine_eq];exact hl,fun p hp=>?_,fun e=>?_,fun e=>?_⟩
    ·have z:Same Z (upd Z p (.tup (vs++us))):=aC (s.free hp)
     exact w _ _ (Ex.alloc s hp) _ (by rw[Rep];exact⟨p,_,rfl,SqT.of ar,(h2.append k2).mono z⟩)
    ·have:es=[]:=List.length_eq_zero_iff.mp (by rw[k2.length,e];rfl)
     subst this
     exact WG.now w s _ (by rw[List.append_nil,Rep];exact⟨a,vs,rfl,h1,h2⟩)
    ·have:ds=[]:=List.length_eq_zero_iff.mp (by rw[h2.length,e];rfl)
     subst this
     exact WG.now w s _ (by rw[List.nil_append,Rep];exact⟨b,us,rfl,k1,k2⟩)
   ·exact w.elim
  | _=>exact w.elim
 | _=>exact w.elim
def rRepT (K:PySem.W.Frag):R2:=fun x y H Q=>∃ a k xs,x=.ref a∧y=.int k∧SqT K H a xs∧0≤k∧k < 1000000∧xs.length*k.toNat≤sizeLine∧(∀ p,H p=none→Q (.ref p) (upd H p (.tup (List.replicate k.toNat xs).flatten)))∧((List.replicate k.toNat xs).flatten=xs→Q (.ref a) H)
theorem vX {X:Cx}:OpR X (binaryOp .Mult) (rRepT X.K):=by
 intro pins s σ H x y v u Q I rx ry h
 obtain⟨a,k,xs,rfl,rfl,ha,h0,h1,hz,q1,q2⟩:=h
 cases rx
 obtain⟨t,rfl⟩:=ry
 obtain⟨its,r,p1,_⟩:=I.tuple ha
 have hl:=r.length
 obtain⟨⟨cls,dd,data,sl⟩,ho,hc,n,hd⟩:=id p1
 simp only at hc hd
 subst hc hd
 refine wpAny_binaryOp_repeat_ref (T := "tuple") (U := "int") (by decide) ⟨_,ho,rfl⟩ (fun s'=>typeIs_int s' k t) gL PySem.F.fills_int_mul PySem.F.slot_int_rmul lM PySem.F.slot_int_index.lookup
  (call_meets PySem.F.slot_int_rmul (typeIs_int s k t) PySem.F.entry_int_rmul (PySem.F.args_int_rmul_2 _ _) (ja k t a its.toArray n dd sl) ⟨ho,rfl,⟨_,ho,rfl⟩,?_⟩)
 cases its with
 | nil =>
  have hx:xs=[]:=List.length_eq_zero_iff.mp hl
  have e:(List.replicate k.toNat xs).flatten=xs:=by rw[hx];simp
  exact call_meets PySem.F.slot_tuple_mul ⟨_,ho,rfl⟩ PySem.F.entry_tuple_mul (PySem.F.args_tuple_mul_2 _ _) (kn a n k t dd sl h0 h1) ⟨ho,⟨.ref a,H,I,rfl,q2 e⟩⟩
 | cons it its' =>
  have hne:(it::its').toArray.isEmpty=false:=by simp
  by_cases k1:k=1
  ·subst k1
   have e:(List.replicate (1:Int).toNat xs).flatten=xs:=by simp
   exact call_meets PySem.F.slot_tuple_mul ⟨_,ho,rfl⟩ PySem.F.entry_tuple_mul (PySem.F.args_tuple_mul_2 _ _) (km a _ n t dd sl) ⟨ho,⟨.ref a,H,I,rfl,q2 e⟩⟩
  ·by_cases k0:k=0
   ·subst k0
    refine call_meets PySem.F.slot_tuple_mul ⟨_,ho,rfl⟩ PySem.F.entry_tuple_mul (PySem.F.args_tuple_mul_2 _ _) (jb a _ n t dd sl hne) ⟨ho,?_⟩
    refine⟨.ref s.heap.objs.size,_,I.laid (t':=s.toks) (o:=.tup []) (fun b ob q=>Heap.get?_push_of_some _ q) (Nat.le_refl _) ?_,rfl,q1 _ (I.hok.fresh (Nat.le_refl _))⟩
    exact⟨Nat.zero_le _,[],.nil,TupO.new _ _⟩
   ·refine call_meets PySem.F.slot_tuple_mul ⟨_,ho,rfl⟩ PySem.F.entry_tuple_mul (PySem.F.args_tuple_mul_2 _ _) (kl a _ n k t dd sl (by omega) h1 (by rw[List.size_toArray,← hl];exact hz) hne) ⟨ho,?_⟩
    have ef:=gK (it::its') k.toNat []
    rw[List.nil_append]at ef
    have ef':List.foldl (fun x1 x2=>x1++x2) #[] (List.replicate k.toNat (it::its').toArray)=(List.replicate k.toNat (it::its')).flatten.toArray:=ef
    rw[ef']
    refine⟨.ref s.heap.objs.size,_,I.laid (t':=s.toks) (o:=.tup (List.replicate k.toNat xs).flatten) (fun b ob q=>Heap.get?_push_of_some _ q) (Nat.le_refl _) ?_,rfl,q1 _ (I.hok.fresh (Nat.le_refl _))⟩
    exact⟨by rw[pW,Nat.mul_comm];exact hz,_,r.rep k.toNat,TupO.new _ _⟩
theorem t3 {F:Fx}:OpD F (rRepT F.K) dRepT:=by
 intro H Z x y dx dy Q s rx ry w
 cases dx with
 | tup ds =>
  cases dy with
  | int k =>
   rw[Rep]at rx
   rw[Rep]at ry
   obtain⟨a,vs,rfl,h1,h2⟩:=rx
   subst ry
   unfold dRepT at w
   dsimp only at w
   split at w
   ·rename_i hk
    refine⟨a,k,vs,rfl,rfl,h1.mono s,hk.1,hk.2.1,by rw[← h2.length,sizeLine_eq];exact hk.2.2,fun p hp=>?_,fun e=>?_⟩
    ·have z:Same Z (upd Z p (.tup (List.replicate k.toNat vs).flatten)):=aC (s.free hp)
     exact w _ _ (Ex.alloc s hp) _ (by rw[Rep];exact⟨p,_,rfl,SqT.of ar,(fM h2 k.toNat).mono z⟩)
    ·refine WG.now w s _ ?_
     rw[Rep]
     exact⟨a,vs,rfl,h1,by have:=fM h2 k.toNat;rw[e]at this;exact this⟩
   ·exact w.elim
  | _=>exact w.elim
 | _=>exact w.elim
theorem t4 {F:Fx}:OpD F (fun x y H Q=>∃ a b xs ys,x=.ref a∧y=.ref b∧SqL F.K H a xs∧SqL F.K H b ys∧xs.length+ys.length≤sizeLine∧∀ p,H p=none→Q (.ref p) (upd H p (.lst (xs++ys)))) dCatL:=by
 intro H Z x y dx dy Q s rx ry w
 cases dx with
 | lst ds =>
  cases dy with
  | lst es =>
   rw[Rep]at rx
   rw[Rep]at ry
   obtain⟨a,vs,rfl,h1,h2⟩:=rx
   obtain⟨b,us,rfl,k1,k2⟩:=ry
   unfold dCatL at w
   dsimp only at w
   split at w
   ·rename_i hl
    refine⟨a,b,vs,us,rfl,rfl,s.seq h1,s.seq k1,by rw[← h2.length,← k2.length,sizeLine_eq];exact hl,fun p hp=>?_⟩
    have z:Same Z (upd Z p (.lst (vs++us))):=aC (s.free hp)
    exact w _ _ (Ex.alloc s hp) _ (by rw[Rep];exact⟨p,_,rfl,SqL.of ar,(h2.append k2).mono z⟩)
   ·exact w.elim
  | _=>exact w.elim
 | _=>exact w.elim
theorem t5 {X:Cx}:OpR X (binaryOp .Add) (fun x y H Q=>∃ a b xs ys,x=.ref a∧y=.ref b∧SqL X.K H a xs∧SqL X.K H b ys∧xs.length+ys.length≤sizeLine∧∀ p,H p=none→Q (.ref p) (upd H p (.lst (xs++ys)))):=by
 intro pins s σ H x y v u Q I rx ry h
 obtain⟨a,b,xs,ys,rfl,rfl,ha,hb,hz,q⟩:=h
 cases rx
 cases ry
 obtain⟨its,r,⟨o,n,e,c1,c2,c3⟩,_⟩:=I.list ha
 obtain⟨its2,r2,⟨o2,n2,e2,d1,d2,d3⟩,_⟩:=I.list hb
 have l1:=r.length
 have l2:=r2.length
 obtain⟨cls,dd,data,sl⟩:=o
 obtain⟨cls2,dd2,data2,sl2⟩:=o2
 simp only at c1 c3 d1 d3
 subst c1 c3 d1 d3
 refine concat_meets ⟨_,e,rfl⟩ ⟨_,e2,rfl⟩ noFill_list_add seq_list_add PySem.F.slot_list_add PySem.F.entry_list_add (PySem.F.args_list_add_2 _ _) (qX a b its.toArray its2.toArray n n2 dd dd2 sl sl2 (by rw[List.size_toArray,List.size_toArray];omega)) ⟨e,e2,?_⟩
 have ea:its.toArray++its2.toArray=(its++its2).toArray:=by simp
 rw[ea]
 exact⟨.ref _,_,I.lnew (t':=s.toks) (r.append r2) (by rw[List.length_append];omega),rfl,q _ I.fresh⟩
def rRepL (K:PySem.W.Frag):R2:=fun x y H Q=>∃ a k xs,x=.ref a∧y=.int k∧SqL K H a xs∧0≤k∧k < 1000000∧xs.length*k.toNat≤sizeLine∧∀ p,H p=none→Q (.ref p) (upd H p (.lst (List.replicate k.toNat xs).flatten))
theorem vY {X:Cx}:OpR X (binaryOp .Mult) (rRepL X.K):=by
 intro pins s σ H x y v u Q I rx ry h
 obtain⟨a,k,xs,rfl,rfl,ha,h0,h1,hz,q⟩:=h
 cases rx
 obtain⟨t,rfl⟩:=ry
 obtain⟨its,r,⟨o,n,e,c1,c2,c3⟩,_⟩:=I.list ha
 have hl:=r.length
 obtain⟨cls,dd,data,sl⟩:=o
 simp only at c1 c3
 subst c1 c3
 refine wpAny_binaryOp_repeat_ref (T := "list") (U := "int") (by decide) ⟨_,e,rfl⟩ (fun s'=>typeIs_int s' k t) noFill_list_mul PySem.F.fills_int_mul PySem.F.slot_int_rmul repeat_list PySem.F.slot_int_index.lookup
  (call_meets PySem.F.slot_int_rmul (typeIs_int s k t) PySem.F.entry_int_rmul (PySem.F.args_int_rmul_2 _ _) (ko k t a its.toArray n dd sl) ⟨e,rfl,⟨_,e,rfl⟩,
   call_meets PySem.F.slot_list_mul ⟨_,e,rfl⟩ PySem.F.entry_list_mul (PySem.F.args_list_mul_2 _ _) (qY a its.toArray n k t dd sl (by omega) (by omega) (by rw[List.size_toArray,← hl];exact hz)) ⟨e,?_⟩⟩)
 have hnew:List.foldl (fun x1 x2=>x1++x2) #[] (List.replicate (if its.toArray.isEmpty=true then 0 else k.toNat) its.toArray)=(List.replicate k.toNat its).flatten.toArray:=by
  have f0:∀ m:Nat,List.foldl (fun x1 x2=>x1++x2) #[] (List.replicate m its.toArray)=(List.replicate m its).flatten.toArray:=fun m=>by
   have:=gK its m []
   rwa [List.nil_append]at this
  rw[f0]
  cases its with
  | nil=>simp
  | cons a r'=>rw[if_neg (by simp)]
 rw[hnew]
 exact⟨.ref _,_,I.lnew (t':=s.toks) (r.rep k.toNat) (by rw[pW,Nat.mul_comm];exact hz),rfl,q _ I.fresh⟩
theorem t6 {F:Fx}:OpD F (rRepL F.K) dRepL:=by
 intro H Z x y dx dy Q s rx ry w
 cases dx with
 | lst ds =>
  cases dy with
  | int k =>
   rw[Rep]at rx
   rw[Rep]at ry
   obtain⟨a,vs,rfl,h1,h2⟩:=rx
   subst ry
   unfold dRepL at w
   dsimp only at w
   split at w
   ·rename_i hk
    refine⟨a,k,vs,rfl,rfl,s.seq h1,hk.1,hk.2.1,by rw[← h2.length,sizeLine_eq];exact hk.2.2,fun p hp=>?_⟩
    have z:Same Z (upd Z p (.lst (List.replicate k.toNat vs).flatten)):=aC (s.free hp)
    exact w _ _ (Ex.alloc s hp) _ (by rw[Rep];exact⟨p,_,rfl,SqL.of ar,(fM h2 k.toNat).mono z⟩)
   ·exact w.elim
  | _=>exact w.elim
 | _=>exact w.elim
mutual
def eqD:D→D→Bool
 | .non,.non=>true
 | .bl a,.bl b=>a==b
 | .bl a,.int b=>(if a then 1 else 0)==b
 | .int a,.bl b=>a==(if b then 1 else 0)
 | .int a,.int b=>a==b
 | .str a,.str b=>a==b
 | .tup xs,.tup ys=>eqDs xs ys
 | .lst xs,.lst ys=>eqDs xs ys
 | _,_=>false
def eqDs:List D→List D→Bool
 | [],[]=>true
 | x::xs,y::ys=>eqD x y&&eqDs xs ys
 | _,_=>false
end
mutual
def good:Nat→D→Bool
 | _,.exc _=>false
 | _,.fn _=>false
 | 0,.tup _=>false
 | 0,.lst _=>false
 | n+1,.tup xs=>goods n xs
 | n+1,.lst xs=>goods n xs
 | _,_=>true
def goods:Nat→List D→Bool
 | _,[]=>true
 | n,x::xs=>good n x&&goods n xs
end
end FF
end
noncomputable section
namespace FF
open PySem PySem.Spec PyProof.Rows L2
mutual
theorem dP:∀ (n:Nat) (d:D),good n d=true→eqD d d=true
 | n,.non,_=>by simp[eqD]
 | n,.bl b,_=>by simp[eqD]
 | n,.int i,_=>by simp[eqD]
 | n,.str x,_=>by simp[eqD]
 | 0,.tup xs,h=>by simp[good]at h
 | 0,.lst xs,h=>by simp[good]at h
 | n+1,.tup xs,h=>by rw[good]at h;rw[eqD];exact gN n xs h
 | n+1,.lst xs,h=>by rw[good]at h;rw[eqD];exact gN n xs h
 | n,.exc k,h=>by cases n<;>simp[good]at h
 | n,.fn k,h=>by cases n<;>simp[good]at h
theorem gN:∀ (n:Nat) (ds:List D),goods n ds=true→eqDs ds ds=true
 | n,[],_=>by simp[eqDs]
 | n,d::ds,h=>by
  rw[goods,Bool.and_eq_true]at h
  rw[eqDs,dP n d h.1,gN n ds h.2]
  rfl
end
theorem aM {n:Nat}:∀ {ds:List D} {i:Nat} {d:D},goods n ds=true→ds[i]?=some d→good n d=true
 | [],_,_,_,e=>by simp at e
 | x::xs,0,d,h,e=>by
  rw[goods,Bool.and_eq_true]at h
  simp at e;subst e;exact h.1
 | x::xs,i+1,d,h,e=>by
  rw[goods,Bool.and_eq_true]at h
  exact aM h.2 (by simpa using e)
theorem cm:∀ (ds es:List D),eqDs ds es=((List.range (min ds.length es.length)).all (fun j=>eqD (ds.getD j .non) (es.getD j .non))&&ds.length==es.length)
 | [],[]=>by simp[eqDs]
 | [],e::es=>by simp[eqDs]
 | d::ds,[]=>by simp[eqDs]
 | d::ds,e::es=>by
  rw[eqDs,cm ds es]
  have h1:min (d::ds).length (e::es).length=min ds.length es.length+1:=by simp only[List.length_cons];omega
  rw[h1,List.range_succ_eq_map,List.all_cons,List.all_map]
  have h2:((d::ds).length==(e::es).length)=(ds.length==es.length):=by simp
  rw[h2]
  simp only[List.getD_cons_zero,Bool.and_assoc]
  rfl
section
variable {X:Cx}{F:Fx}{pins:List (Addr×Obj)}{σ:St}{H Z:Hp}{s:Shared}
theorem kU {a:Addr}{xs ys:List V}(I:Inv X pins σ H s)(h:SqL X.K H a xs)(h':SqT X.K H a ys):False:=by
 obtain⟨its,r,p,_⟩:=I.list h
 obtain⟨its',r',p',_⟩:=I.tuple h'
 exact SeqAt.ne_of_list_tuple p.isList (show s.heap.IsTuple a its'.toArray from p') rfl
mutual
theorem iT {K:PySem.W.Frag}{C:Nat→Addr}(hK:X.K=K)(I:Inv X pins σ H s)(z:Same Z H):∀ (n:Nat) (d e:D) (v:V),good n d=true→good n e=true→Rep K C Z d v→Rep K C Z e v→d=e
 | n,.non,e,v,g1,g2,h,h'=>by rw[Rep]at h;subst h;cases e<;>rw[Rep]at h'<;>first | rfl | (obtain⟨_,_,q,_⟩:=h';cases q;done) | (obtain⟨_,q,_⟩:=h';cases q;done) | (cases h';done)
 | n,.bl b,e,v,g1,g2,h,h'=>by rw[Rep]at h;subst h;cases e<;>rw[Rep]at h'<;>first | (cases h';rfl) | (obtain⟨_,_,q,_⟩:=h';cases q;done) | (obtain⟨_,q,_⟩:=h';cases q;done) | (cases h';done)
 | n,.int b,e,v,g1,g2,h,h'=>by rw[Rep]at h;subst h;cases e<;>rw[Rep]at h'<;>first | (cases h';rfl) | (obtain⟨_,_,q,_⟩:=h';cases q;done) | (obtain⟨_,q,_⟩:=h';cases q;done) | (cases h';done)
 | n,.str b,e,v,g1,g2,h,h'=>by rw[Rep]at h;subst h;cases e<;>rw[Rep]at h'<;>first | (cases h';rfl) | (obtain⟨_,_,q,_⟩:=h';cases q;done) | (obtain⟨_,q,_⟩:=h';cases q;done) | (cases h';done)
 | 0,.tup xs,e,v,g1,g2,h,h'=>by simp[good]at g1
 | 0,.lst xs,e,v,g1,g2,h,h'=>by simp[good]at g1
 | n,.exc k,e,v,g1,g2,h,h'=>by cases n<;>simp[good]at g1
 | n,.fn k,e,v,g1,g2,h,h'=>by cases n<;>simp[good]at g1
 | n+1,.tup ds,e,v,g1,g2,h,h'=>by
  rw[Rep]at h
  obtain⟨a,vs,rfl,h1,h2⟩:=h
  cases e with
  | tup es =>
   rw[Rep]at h'
   obtain⟨b,us,q,k1,k2⟩:=h'
   cases q
   have e1:vs=us:=I.tuple_inj (by rw[hK];exact h1.mono z) (by rw[hK];exact k1.mono z)
   subst e1
   rw[good]at g1 g2
   rw[jf hK I z n ds es vs g1 g2 h2 k2]
  | lst es =>
   rw[Rep]at h'
   obtain⟨b,us,q,k1,k2⟩:=h'
   cases q
   exact(kU I (by rw[hK];exact z.seq k1) (by rw[hK];exact h1.mono z)).elim
  | exc k=>simp[good]at g2
  | fn k=>simp[good]at g2
  | _=>rw[Rep]at h';cases h'
 | n+1,.lst ds,e,v,g1,g2,h,h'=>by
  rw[Rep]at h
  obtain⟨a,vs,rfl,h1,h2⟩:=h
  cases e with
  | lst es =>
   rw[Rep]at h'
   obtain⟨b,us,q,k1,k2⟩:=h'
   cases q
   have e1:vs=us:=I.list_inj (by rw[hK];exact z.seq h1) (by rw[hK];exact z.seq k1)
   subst e1
   rw[good]at g1 g2
   rw[jf hK I z n ds es vs g1 g2 h2 k2]
  | tup es =>
   rw[Rep]at h'
   obtain⟨b,us,q,k1,k2⟩:=h'
   cases q
   exact(kU I (by rw[hK];exact z.seq h1) (by rw[hK];exact k1.mono z)).elim
  | exc k=>simp[good]at g2
  | fn k=>simp[good]at g2
  | _=>rw[Rep]at h';cases h'
theorem jf {K:PySem.W.Frag}{C:Nat→Addr}(hK:X.K=K)(I:Inv X pins σ H s)(z:Same Z H):∀ (n:Nat) (ds es:List D) (vs:List V),goods n ds=true→goods n es=true→Reps K C Z ds vs→Reps K C Z es vs→ds=es
 | n,[],es,vs,g1,g2,h,h'=>by
  rw[Reps]at h;subst h
  cases es with
  | nil=>rfl
  | cons e es=>rw[Reps]at h';obtain⟨_,_,q,_⟩:=h';cases q
 | n,d::ds,es,vs,g1,g2,h,h'=>by
  rw[Reps]at h
  obtain⟨v,r,rfl,h1,h2⟩:=h
  cases es with
  | nil=>rw[Reps]at h';cases h'
  | cons e es =>
   obtain⟨k1,k2⟩:=h'.uncons
   rw[goods,Bool.and_eq_true]at g1 g2
   rw[iT hK I z n d e v g1.1 g2.1 h1 k1,jf hK I z n ds es r g1.2 g2.2 h2 k2]
end
def flatD:D→Bool
 | .non=>true
 | .bl _=>true
 | .int _=>true
 | .str _=>true
 | _=>false
theorem fN {K:PySem.W.Frag}{C:Nat→Addr}{d:D}{v:V}(f:flatD d=true)(h:Rep K C Z d v):flatV v=true:=by
 cases d<;>first | (rw[Rep]at h;subst h;rfl) | simp[flatD]at f
theorem mX {K:PySem.W.Frag}{C:Nat→Addr}{d e:D}{v u:V}(f1:flatD d=true)(f2:flatD e=true)(h:Rep K C Z d v)(h':Rep K C Z e u):eqV v u=eqD d e:=by
 cases d<;>first | (simp[flatD]at f1;done) | (cases e<;>first | (simp[flatD]at f2;done) | (rw[Rep]at h;rw[Rep]at h';subst h;subst h';simp[eqV,eqD]))
set_option maxHeartbeats 4000000 in
theorem fi {K:PySem.W.Frag}{C:Nat→Addr}(hK:X.K=K)(I:Inv X pins σ H s)(z:Same Z H):∀ (n:Nat) (A:Around) (d e:D) (v u:V) (x y:Value),good n d=true→good n e=true→Rep K C Z d v→Rep K C Z e u→RelV v x→RelV u y→A.units+n < cLine→SeqAt.EqAt A s x y (eqD d e):=by
 intro n
 induction n with
 | zero =>
  intro A d e v u x y g1 g2 h h' rx ry hu
  have f1:flatD d=true:=by cases d<;>first | rfl | simp[good]at g1
  have f2:flatD e=true:=by cases e<;>first | rfl | simp[good]at g2
  rw[← mX f1 f2 h h']
  exact tR rx ry (fN f1 h) (fN f2 h')
 | succ n ih =>
  intro A d e v u x y g1 g2 h h' rx ry hu
  have hu0:A.units < cLine:=by omega
  have in1:A.in1.units+n < cLine:=by show A.units+1+n < cLine;omega
  by_cases f1:flatD d=true
  ·by_cases f2:flatD e=true
   ·rw[← mX f1 f2 h h']
    exact tR rx ry (fN f1 h) (fN f2 h')
   ·cases e with
    | tup es =>
     rw[Rep]at h'
     obtain⟨b,us,rfl,k1,k2⟩:=h'
     cases ry
     obtain⟨its,_,p,_⟩:=I.tuple (by rw[hK];exact k1.mono z:SqT X.K H b us)
     have p':s.heap.IsTuple b its.toArray:=p
     cases d<;>first | (simp[flatD]at f1;done) | (rw[Rep]at h;subst h;simp only[eqD];first | (cases rx;first | exact SeqAt.EqAt.none_tuple p' hu0 | exact SeqAt.EqAt.bool_tuple _ p' hu0) | (obtain⟨t,rfl⟩:=rx;first | exact SeqAt.EqAt.int_tuple _ _ p' hu0 | exact SeqAt.EqAt.str_tuple _ _ p' hu0))
    | lst es =>
     rw[Rep]at h'
     obtain⟨b,us,rfl,k1,k2⟩:=h'
     cases ry
     obtain⟨its,_,p,_⟩:=I.list (by rw[hK];exact z.seq k1:SqL X.K H b us)
     have p':=p.isList
     cases d<;>first | (simp[flatD]at f1;done) | (rw[Rep]at h;subst h;simp only[eqD];first | (cases rx;first | exact SeqAt.EqAt.none_list p' hu0 | exact SeqAt.EqAt.bool_list _ p' hu0) | (obtain⟨t,rfl⟩:=rx;first | exact SeqAt.EqAt.int_list _ _ p' hu0 | exact SeqAt.EqAt.str_list _ _ p' hu0))
    | exc k=>simp[good]at g2
    | fn k=>simp[good]at g2
    | _=>simp[flatD]at f2
  ·cases d with
   | tup ds =>
    have hh:=h
    rw[Rep]at h
    obtain⟨a,vs,rfl,h1,h2⟩:=h
    cases rx
    obtain⟨its,r,p,_⟩:=I.tuple (by rw[hK];exact h1.mono z:SqT X.K H a vs)
    have p':s.heap.IsTuple a its.toArray:=p
    cases e with
    | tup es =>
     have hh':=h'
     rw[Rep]at h'
     obtain⟨b,us,rfl,k1,k2⟩:=h'
     cases ry
     by_cases hab:a=b
     ·subst hab
      have:=iT hK I z (n+1) _ _ _ g1 g2 hh hh'
      rw[← this,dP (n+1) _ g1]
      exact SeqAt.EqAt.same _
     ·obtain⟨its2,r2,p2,_⟩:=I.tuple (by rw[hK];exact k1.mono z:SqT X.K H b us)
      have p2':s.heap.IsTuple b its2.toArray:=p2
      rw[good]at g1 g2
      have q:=SeqAt.RcAt.tuples (A:=A) (e:=fun j=>eqD (ds.getD j .non) (es.getD j .non)) p' p2' hu0 fun j j1 j2=>by
       have j1':j < its.length:=by simpa using j1
       have j2':j < its2.length:=by simpa using j2
       have l1:j < ds.length:=by rw[h2.length,r.length];exact j1'
       have l2:j < es.length:=by rw[k2.length,r2.length];exact j2'
       have e1:ds[j]?=some ds[j]:=by simp
       have e2:es[j]?=some es[j]:=by simp
       obtain⟨w1,f1,f2⟩:=h2.get e1
       obtain⟨w2,f3,f4⟩:=k2.get e2
       obtain⟨z1,m1,m2⟩:=r.get f1
       obtain⟨z2,m3,m4⟩:=r2.get f3
       have n1:its.toArray[j]=z1:=by simpa [j1'] using m1
       have n2:its2.toArray[j]=z2:=by simpa [j2'] using m3
       rw[n1,n2]
       have g3:ds.getD j .non=ds[j]:=by simp[l1]
       have g4:es.getD j .non=es[j]:=by simp[l2]
       rw[g3,g4]
       exact ih A.in1 _ _ w1 w2 z1 z2 (aM g1 e1) (aM g2 e2) f2 f4 m2 m4 in1
      rw[eqD,cm]
      have s1:its.toArray.size=ds.length:=by rw[List.size_toArray,h2.length,r.length]
      have s2:its2.toArray.size=es.length:=by rw[List.size_toArray,k2.length,r2.length]
      rw[s1,s2]at q
      exact SeqAt.EqAt.of_refs hab q
    | lst es =>
     rw[Rep]at h'
     obtain⟨b,us,rfl,k1,k2⟩:=h'
     cases ry
     obtain⟨its2,r2,p2,_⟩:=I.list (by rw[hK];exact z.seq k1:SqL X.K H b us)
     simp only[eqD]
     exact SeqAt.EqAt.tuple_list p' p2.isList hu0
    | exc k=>simp[good]at g2
    | fn k=>simp[good]at g2
    | _=>rw[Rep]at h';subst h';simp only[eqD];first | (cases ry;first | exact SeqAt.EqAt.tuple_none p' hu0 | exact SeqAt.EqAt.tuple_bool _ p' hu0) | (obtain⟨t,rfl⟩:=ry;first | exact SeqAt.EqAt.tuple_int _ _ p' hu0 | exact SeqAt.EqAt.tuple_str _ _ p' hu0)
   | lst ds =>
    have hh:=h
    rw[Rep]at h
    obtain⟨a,vs,rfl,h1,h2⟩:=h
    cases rx
    obtain⟨its,r,p,_⟩:=I.list (by rw[hK];exact z.seq h1:SqL X.K H a vs)
    have p':=p.isList
    cases e with
    | lst es =>
     have hh':=h'
     rw[Rep]at h'
     obtain⟨b,us,rfl,k1,k2⟩:=h'
     cases ry
     by_cases hab:a=b
     ·subst hab
      have:=iT hK I z (n+1) _ _ _ g1 g2 hh hh'
      rw[← this,dP (n+1) _ g1]
      exact SeqAt.EqAt.same _
     ·obtain⟨its2,r2,p2,_⟩:=I.list (by rw[hK];exact z.seq k1:SqL X.K H b us)
      have p2':=p2.isList
      rw[good]at g1 g2
      have s1:its.toArray.size=ds.length:=by rw[List.size_toArray,h2.length,r.length]
      have s2:its2.toArray.size=es.length:=by rw[List.size_toArray,k2.length,r2.length]
      rw[eqD,cm]
      by_cases hsz:ds.length=es.length
      ·have q:=SeqAt.RcAt.lists (A:=A) (e:=fun j=>eqD (ds.getD j .non) (es.getD j .non)) p' p2' (by rw[s1,s2];exact hsz) hu0 fun j j1 j2=>by
        have j1':j < its.length:=by simpa using j1
        have j2':j < its2.length:=by simpa using j2
        have l1:j < ds.length:=by rw[h2.length,r.length];exact j1'
        have l2:j < es.length:=by rw[k2.length,r2.length];exact j2'
        have e1:ds[j]?=some ds[j]:=by simp
        have e2:es[j]?=some es[j]:=by simp
        obtain⟨w1,f1,f2⟩:=h2.get e1
        obtain⟨w2,f3,f4⟩:=k2.get e2
        obtain⟨z1,m1,m2⟩:=r.get f1
        obtain⟨z2,m3,m4⟩:=r2.get f3
        have n1:its.toArray[j]=z1:=by simpa [j1'] using m1
        have n2:its2.toArray[j]=z2:=by simpa [j2'] using m3
        rw[n1,n2]
        have g3:ds.getD j .non=ds[j]:=by simp[l1]
        have g4:es.getD j .non=es[j]:=by simp[l2]
        rw[g3,g4]
        exact ih A.in1 _ _ w1 w2 z1 z2 (aM g1 e1) (aM g2 e2) f2 f4 m2 m4 in1
       rw[s1]at q
       rw[hsz,Nat.min_self,beq_self_eq_true,Bool.and_true,← hsz]
       exact SeqAt.EqAt.of_refs hab q
      ·have q:=SeqAt.RcAt.lists_lengths (A:=A) p' p2' (by rw[s1,s2];simpa using hsz) hu0
       rw[show (ds.length==es.length)=false by simpa using hsz,Bool.and_false]
       exact SeqAt.EqAt.of_refs hab q
    | tup es =>
     rw[Rep]at h'
     obtain⟨b,us,rfl,k1,k2⟩:=h'
     cases ry
     obtain⟨its2,r2,p2,_⟩:=I.tuple (by rw[hK];exact k1.mono z:SqT X.K H b us)
     simp only[eqD]
     exact SeqAt.EqAt.list_tuple p' (show s.heap.IsTuple b its2.toArray from p2) hu0
    | exc k=>simp[good]at g2
    | fn k=>simp[good]at g2
    | _=>rw[Rep]at h';subst h';simp only[eqD];first | (cases ry;first | exact SeqAt.EqAt.list_none p' hu0 | exact SeqAt.EqAt.list_bool _ p' hu0) | (obtain⟨t,rfl⟩:=ry;first | exact SeqAt.EqAt.list_int _ _ p' hu0 | exact SeqAt.EqAt.list_str _ _ p' hu0)
   | exc k=>simp[good]at g1
   | fn k=>simp[good]at g1
   | _=>simp[flatD]at f1
end
end FF
end
noncomputable section
namespace FF
open PySem PySem.Spec PyProof.Rows L2
theorem objThere {P:Program}{w:World}{H:Hp}{h:Heap}{a:Addr}{o:HO}(x:ObjOk P w H h a o):∃ ob,h.get? a=some ob:=by
 cases o with
 | lst xs=>obtain⟨_,_,_,_,e⟩:=x;exact⟨_,e⟩
 | tup xs=>obtain⟨_,_,_,o,e,_⟩:=x;exact⟨o,e⟩
 | dK kvs=>obtain⟨_,_,_,_,o,_,_,e,_⟩:=x;exact⟨o,e⟩
 | dT kvs=>obtain⟨_,_,_,_,o,_,_,e,_⟩:=x;exact⟨o,e⟩
 | set S n=>obtain⟨o,_,_,_,e,_⟩:=x;exact⟨o,e⟩
 | ins C dx fs=>obtain⟨_,_,_,e,_⟩:=x;exact⟨_,e⟩
 | own y=>exact x
 | xd fs=>obtain⟨_,⟨o,_,_,e,_⟩,_⟩:=x;exact⟨o,e⟩
 | rng lo hi=>obtain⟨_,_,_,e⟩:=x;exact⟨_,e⟩
 | frz ob u=>obtain⟨e,_⟩:=x;exact⟨_,e⟩
 | tbl ps=>exact⟨_,(show h.get? a=some _ from x)⟩
 | met f y=>exact⟨_,(show h.get? a=some _ from x)⟩
 | ext φ=>obtain⟨_,e,_⟩:=x;exact e
def Cov (B:Heap)(h h':Heap)(H':Hp)(l:List Env):Prop:=∀ b o,h'.get? b=some o→(H' b≠none∨∃ o',h.get? b=some o')→b∉frs l→B.get? b=some o
def CXE (P:Program)(w:World):CXT:=fun outer H s E e s' =>
 ∃ (ea C t:Addr) (H':Hp) (B:Heap),e=.ref ea∧s'.os=s.os∧AllBare s'.gens∧Un (frs outer) [] H H' s.heap s'.heap∧HOk P w H' s'.heap ∧
  Heap.FlyingW B outer ea (.ref C) (.ref t) s'.heap∧H' ea=none∧Cov B s.heap s'.heap H' outer∧E (.ref C) none H'
section
variable {X:Cx}{pins:List (Addr×Obj)}{σ:St}{H H':Hp}{s s':Shared}{B:Heap}
theorem vZ {h2:Heap}{sc:Shared}(J:Inv X pins σ H' s')(I:∃ σ0 H0 pl,Inv X pl σ0 H0 sc)(hp:∀ p∈X.pn++pins,∃ o,sc.heap.get? p.1=some o)(hl:∀ o,s'.heap.get? X.env.locals=some o→∃ o',sc.heap.get? X.env.locals=some o')
  (cov:Cov B sc.heap s'.heap H' X.stack) (hB:B.StaysIn h2) (up:s'.heap.UpToSlots h2):Inv X pins σ H' { s' with heap:=h2 }:=by
 obtain⟨σ0,H0,pl,I0⟩:=I
 have ins:∀ b o,X.s₀.heap.get? b=some o→b∉X.ex→∃ o',sc.heap.get? b=some o':=fun b o e hx=>I0.base.there b o e hx
 have nloc:∀ b o,X.s₀.heap.get? b=some o→b≠X.env.locals:=fun b o e=>Nat.ne_of_lt (Nat.lt_of_lt_of_le (Heap.lt_size e) J.ok.above)
 have nstk:∀ b,b≠X.env.locals→b∉X.fs→b∉frs X.stack:=fun b h1 h2 z=>(List.mem_cons.mp (J.stkSub b z)).elim h1 h2
 have trk:∀ b o,s'.heap.get? b=some o→H' b≠none→h2.get? b=some o:=fun b o e ht=>hB b o (cov b o e (.inl ht) fun z=>ht (J.stkFree b z))
 have nf:∀ b∈X.fs,∀ o,s'.heap.get? b=some o→∀ vs,o.data≠.fields vs:=fun b hb o e=>by
  obtain⟨_,o',e',d⟩:=J.funs.mem hb
  rw[e]at e';cases e';exact d
 refine⟨J.ok,J.os,J.bare,⟨fun b o e n hb hx=>?_,fun b o e n hb hx=>?_,J.base.free,fun b o e hx=>?_,J.base.tups,J.base.frzs,J.base.tbls⟩,?_,fun x c e=>?_,J.free,J.freeC,fun p hpp=>?_,fun b u e=>?_,J.len⟩
 ·have e1:=J.base.keep b o e n hb hx
  exact hB b o (cov b o e1 (.inr (ins b o e hx)) (nstk b (nloc b o e) hb))
 ·obtain⟨sl,e1⟩:=J.base.slot b o e n hb hx
  obtain⟨sl',e2⟩:=up b _ e1 (nf b hb _ e1)
  exact⟨sl',e2⟩
 ·obtain⟨o',e1⟩:=J.base.there b o e hx
  by_cases hb:b∈X.fs
  ·obtain⟨sl',e2⟩:=up b _ e1 (nf b hb _ e1)
   exact⟨_,e2⟩
  ·exact⟨o',hB b o' (cov b o' e1 (.inr (ins b o e hx)) (nstk b (nloc b o e) hb))⟩
 ·obtain⟨m,hn,hv⟩:=J.loc
  refine⟨m,up.ns hn,fun i x v h1 h2 h3=>?_⟩
  obtain⟨u,r,l⟩:=hv i x v h1 h2 h3
  refine⟨u,r,?_⟩
  rcases l with l | ⟨k,c,e,⟨o,ho,hd⟩⟩
  ·exact .inl l
  ·obtain⟨sl,e2⟩:=up c o ho fun vs q=>by rw[hd]at q;cases q
   exact .inr ⟨k,c,e,⟨_,e2,hd⟩⟩
 ·obtain⟨v,o,ho,hd⟩:=J.cell x c e
  obtain⟨sl,e2⟩:=up c o ho fun vs q=>by rw[hd]at q;cases q
  exact⟨v,_,e2,hd⟩
 ·obtain⟨e,n,ne,nf',d⟩:=J.pin p hpp
  exact⟨hB _ _ (cov p.1 p.2 e (.inr (hp p hpp)) (nstk _ ne nf')),n,ne,nf',d⟩
 ·refine(J.hok b u e).stay (fun c v hc q=>trk c v q ?_) (fun _ q=>q) fun _ _ q=>q
  rcases hc with z | z
  ·subst z;rw[e];simp
  ·rw[z];simp
end
section
variable {P:Program}{w:World}{K:PySem.W.Frag}{mg:Str→Option Value}{base:Heap}{N:List Str}{qual:Str}{scope:Scope}{f:Addr}{cd:Value}{A:Around}{outer:List Env}{s0:Shared}{H0:Hp}{E:XK}
abbrev bodyX (P:Program)(w:World)(K:PySem.W.Frag)(mg:Str→Option Value)(base:Heap)(N:List Str)(qual:Str)(scope:Scope)(f:Addr)(cd:Value)(A:Around)(outer:List Env)(s0:Shared)(H0:Hp)(E:XK):Cx :=
 cxOf (CXE P w) P w K mg base N qual scope f cd A outer s0 H0 E
theorem pX {pins:List (Addr×Obj)}{σ:St}{H':Hp}{s':Shared}{B h2:Heap}{ea C t:Addr}(J:Inv (bodyX P w K mg base N qual scope f cd A outer s0 H0 E) pins σ H' s')
  (cov:Cov B s0.heap s'.heap H' (envOfC qual scope s0.heap.objs.size f cd::outer)) (up:s'.heap.UpToSlots h2) (fl:Heap.FlyingW B outer ea (.ref C) (.ref t) h2) (hn:H' ea=none) (hE:E (.ref C) none H') :
  CXE P w outer H0 s0 E (.ref ea) { s' with heap:=h2 }:=by
 have hB:=fl.1
 have nloc:∀ b o,s0.heap.get? b=some o→b≠s0.heap.objs.size:=fun b o e=>Nat.ne_of_lt (Heap.lt_size e)
 have nstk:∀ b,b≠s0.heap.objs.size→b∉frs outer→b∉frs (envOfC qual scope s0.heap.objs.size f cd::outer):=fun b h1 h2 z=>(List.mem_cons.mp (J.stkSub b z)).elim h1 h2
 have trk:∀ b o,s'.heap.get? b=some o→H' b≠none→B.get? b=some o:=fun b o e ht=>cov b o e (.inl ht) fun z=>ht (J.stkFree b z)
 have noe:∀ b:Addr,b∉([]:List Addr):=fun _ z=>nomatch z
 have nf:∀ b∈frs outer,∀ o,s'.heap.get? b=some o→∀ vs,o.data≠.fields vs:=fun b hb o e=>by
  obtain⟨_,o',e',d⟩:=J.funs.mem hb
  rw[e]at e';cases e';exact d
 have thr:∀ b o,s0.heap.get? b=some o→∃ o',s'.heap.get? b=some o'∧(b∉frs outer→B.get? b=some o'):=fun b o e=>by
  obtain⟨o',e1⟩:=J.base.there b o e (noe b)
  exact⟨o',e1,fun hb=>cov b o' e1 (.inr ⟨o,e⟩) (nstk b (nloc b o e) hb)⟩
 refine⟨ea,C,t,H',B,rfl,J.os,J.bare,⟨fun b o e n hb hx=>?_,fun b o e n hb hx=>?_,J.base.free,fun b o e hx=>?_,J.base.tups,J.base.frzs,J.base.tbls⟩,fun b u e=>?_,fl,hn,fun b o e hc hb=>?_,hE⟩
 ·have e1:=J.base.keep b o e n hb hx
  exact hB b o (cov b o e1 (.inr ⟨o,e⟩) (nstk b (nloc b o e) hb))
 ·obtain⟨sl,e1⟩:=J.base.slot b o e n hb hx
  obtain⟨sl',e2⟩:=up b _ e1 (nf b hb _ e1)
  exact⟨sl',e2⟩
 ·obtain⟨o',e1,e2⟩:=thr b o e
  by_cases hb:b∈frs outer
  ·obtain⟨sl',e3⟩:=up b _ e1 (nf b hb _ e1)
   exact⟨_,e3⟩
  ·exact⟨o',hB b o' (e2 hb)⟩
 ·refine(J.hok b u e).stay (fun c v hc q=>hB c v (trk c v q ?_)) (fun _ q=>q) fun _ _ q=>q
  rcases hc with z | z
  ·subst z;rw[e];simp
  ·rw[z];simp
 ·have same:∀ o',s'.heap.get? b=some o'→B.get? b=some o'→B.get? b=some o:=fun o' _ q=>by
   have:=hB b o' q
   have e':h2.get? b=some o:=e
   rw[e']at this;cases this;exact q
  rcases hc with z | ⟨o',z⟩
  ·cases q:H' b with
   | none=>exact absurd q z
   | some u =>
    obtain⟨o',e1⟩:=objThere (J.hok b u q)
    exact same o' e1 (trk b o' e1 (by rw[q];simp))
  ·obtain⟨o'',e1,e2⟩:=thr b o' z
   exact same o'' e1 (e2 hb)
theorem kW:Passes (CXE P w) (bodyX P w K mg base N qual scope f cd A outer s0 H0 E) E:=by
 intro pins σ H s e s' I h
 obtain⟨ea,C,t,H',B,rfl,os,bare,un,hok,fl,hn,cov,hE⟩:=h
 have J:Inv (bodyX P w K mg base N qual scope f cd A outer s0 H0 E) pins σ H' s':=I.call' (ch:=[]) os un hok bare fun b z=>nomatch z
 refine wpAny_leaves_onW I.ok.frames rfl fl fun h2 fl2 up=>?_
 refine pX J (fun b o e hc hb=>cov b o e ?_ hb) up fl2 hn hE
 rcases hc with z | ⟨o',z⟩
 ·exact .inl z
 ·obtain⟨o'',z'⟩:=I.base.there b o' z (fun q=>nomatch q)
  exact .inr ⟨o'',z'⟩
theorem re {pins:List (Addr×Obj)}{σ:St}{H:Hp}{s:Shared}{h1:Heap}{ea C:Addr}{args:List Value}(I:Inv (bodyX P w K mg base N qual scope f cd A outer s0 H0 E) pins σ H s)(hx:Heap.MadeExcOf s.heap h1 ea (.ref C) args)(hE:E (.ref C) none H) :
  (bodyX P w K mg base N qual scope f cd A outer s0 H0 E).xe (.ref ea) { s with heap:=h1 }:=by
 have hin:∀ env∈(envOfC qual scope s0.heap.objs.size f cd::outer),∀ a,env.frame=some a→a∈frs (envOfC qual scope s0.heap.objs.size f cd::outer):=fun env he a ha=>List.mem_filterMap.mpr ⟨env,he,ha⟩
 refine wpAny_leaves_madeW (s:={ s with heap:=h1 }) (base:=PySem.W.hideAll s.heap (frs (envOfC qual scope s0.heap.objs.size f cd::outer))) I.ok.frames rfl (fun b o q=>PySem.W.of_hideAll _ q) (PySem.W.funFrames_hide I.stack hin) hx fun h2 t fl _ _ up=>?_
 have hn:H ea=none:=by
  cases q:H ea with
  | none=>rfl
  | some u =>
   obtain⟨o,e⟩:=objThere (I.hok ea u q)
   rw[hx.new]at e;cases e
 exact pX (s':=s) I (fun b o e _ hb=>PySem.W.hideAll_get _ e hb) ((Heap.UpToSlots.of_keeps hx.keeps).trans up) fl hn hE
end
end FF
end
noncomputable section
namespace FF
open PySem PySem.Spec PyProof.Rows L2
def relabN (names:List (Str×NameKind))(env:Env):List (Str×NameKind) :=
 names.map fun (n,k)=>if (k==.free&&env.scope.kind==.function&&env.kindOf n==some .cell) then (n,.cell) else (n,k)
theorem jg {env:Env}:∀ {names:List (Str×NameKind)} {x:Str},names.lookup x=some .free→(relabN names env).lookup x=some .cell∨(relabN names env).lookup x=some .free
 | [],_,h=>by simp at h
 | (n,k)::r,x,h=>by
  have ih:=@jg env r x
  show List.lookup x ((if (k==NameKind.free&&env.scope.kind==.function&&env.kindOf n==some .cell)=true then (n,NameKind.cell) else (n,k))::relabN r env)=_∨List.lookup x ((if (k==NameKind.free&&env.scope.kind==.function&&env.kindOf n==some .cell)=true then (n,NameKind.cell) else (n,k))::relabN r env)=_
  cases hx:x==n with
  | true =>
   simp only[List.lookup_cons,hx]at h
   cases h
   split
   ·exact .inl (by simp[List.lookup_cons,hx])
   ·exact .inr (by simp[List.lookup_cons,hx])
  | false =>
   simp only[List.lookup_cons,hx]at h
   split<;>(simp only[List.lookup_cons,hx];exact ih h)
theorem jh {env:Env}:∀ {names:List (Str×NameKind)} {x:Str},((relabN names env).lookup x=some .cell∨(relabN names env).lookup x=some .free)→∃ y∈names,y.1=x∧(y.2=.free∨y.2=.cell)
 | [],_,h=>by simp[relabN]at h
 | (n,k)::r,x,h=>by
  have ih:=@jh env r x
  change List.lookup x ((if (k==NameKind.free&&env.scope.kind==.function&&env.kindOf n==some .cell)=true then (n,NameKind.cell) else (n,k))::relabN r env)=_∨List.lookup x ((if (k==NameKind.free&&env.scope.kind==.function&&env.kindOf n==some .cell)=true then (n,NameKind.cell) else (n,k))::relabN r env)=_ at h
  cases hx:x==n with
  | true =>
   have e:x=n:=eq_of_beq hx
   refine⟨(n,k),List.mem_cons_self,e.symm,?_⟩
   by_cases hq:(k==NameKind.free&&env.scope.kind==.function&&env.kindOf n==some .cell)=true
   ·simp only[Bool.and_eq_true,beq_iff_eq]at hq
    exact .inl hq.1.1
   ·rw[if_neg hq]at h
    simp only[List.lookup_cons,hx]at h
    rcases h with h | h
    ·cases h;exact .inr rfl
    ·cases h;exact .inl rfl
  | false =>
   have h':(relabN r env).lookup x=some .cell∨(relabN r env).lookup x=some .free:=by
    by_cases hq:(k==NameKind.free&&env.scope.kind==.function&&env.kindOf n==some .cell)=true
    ·rw[if_pos hq]at h;simpa only[List.lookup_cons,hx] using h
    ·rw[if_neg hq]at h;simpa only[List.lookup_cons,hx] using h
   obtain⟨y,hy,e⟩:=ih h'
   exact⟨y,List.mem_cons_of_mem _ hy,e⟩
theorem bf:∀ (names:List (Str×NameKind)) (n:Nat) (acc:List (Str×Addr)),cellsFrom n names acc=cellsFrom n names []++acc
 | [],_,_=>rfl
 | (name,kind)::r,n,acc=>by
  unfold cellsFrom
  split
  ·rw[bf r (n+1) ((name,n)::acc),bf r (n+1) [(name,n)],List.append_assoc];rfl
  ·exact bf r n acc
theorem gO:∀ (names:List (Str×NameKind)) (n:Nat) {x:Str} {c:Addr},(x,c)∈cellsFrom n names []→(x,NameKind.cell)∈names
 | [],_,_,_,h=>nomatch h
 | (name,kind)::r,n,x,c,h=>by
  unfold cellsFrom at h
  split at h
  ·rename_i hk
   rw[bf]at h
   rcases List.mem_append.mp h with h | h
   ·exact List.mem_cons_of_mem _ (gO r _ h)
   ·rw[List.mem_singleton]at h
    cases h
    rw[eq_of_beq hk];exact List.mem_cons_self
  ·exact List.mem_cons_of_mem _ (gO r _ h)
theorem gP:∀ (names:List (Str×NameKind)) (n:Nat) {x:Str},(x,NameKind.cell)∈names→∃ c,(cellsFrom n names []).lookup x=some c
 | [],_,_,h=>nomatch h
 | (name,kind)::r,n,x,h=>by
  by_cases hr:(x,NameKind.cell)∈r
  ·unfold cellsFrom
   split
   ·obtain⟨c,hc⟩:=gP r (n+1) hr
    rw[bf,List.lookup_append,hc];exact⟨c,rfl⟩
   ·exact gP r n hr
  ·rcases List.mem_cons.mp h with e | e
   ·cases e
    unfold cellsFrom
    rw[if_pos (by rfl),bf,List.lookup_append]
    cases (cellsFrom (n+1) r []).lookup name with
    | some c=>exact⟨c,rfl⟩
    | none=>exact⟨n,by simp[List.lookup_cons]⟩
   ·exact absurd e hr
structure CellsB (scope:Scope)(cl cl2:List (Str×Addr))(C:Addr)(h:Heap):Prop where
 old:∀ n c,cl2.lookup n=some c→(cl.lookup n=some c∧(n,NameKind.cell)∉scope.names)∨(C < c∧h.IsCell c none∧(n,NameKind.cell)∈scope.names)
 keep:∀ n,(n,NameKind.cell)∉scope.names→cl2.lookup n=cl.lookup n
 mine:∀ n,(n,NameKind.cell)∈scope.names→∃ c,cl2.lookup n=some c
 inj:∀ x y c,C < c→cl2.lookup x=some c→cl2.lookup y=some c→(x,NameKind.cell)∈scope.names→(y,NameKind.cell)∈scope.names→x=y
section
variable {M:Model}{A:Around}{E:Value→Shared→Prop}{s:Shared}
theorem lP {scope:Scope}{globals:Addr}{cl:List (Str×Addr)}{qual:Str}{env:Env}{Q:Env→Shared→Prop}
  (hQ:∀ h' cl2,h'.Ns s.heap.objs.size (fun _=>none)→(∀ b o,s.heap.get? b=some o→h'.get? b=some o)→CellsB scope cl cl2 s.heap.objs.size h'→Q (newEnv scope s.heap.objs.size globals cl2 qual none .none (some env) builtinsNs) { s with heap:=h' }) :
  wpAny M A (newFunctionEnv scope globals cl [] qual none .none (some env)) Q E s:=by
 simp only[newFunctionEnv,Option.isSome_some,if_true]
 refine wpAny_bind (wpAny_alloc ?_)
 refine wpAny_bind (wpAny_layCells _ (fun name kind cells=>by cases hkc:kind==NameKind.cell<;>simp[hkc]) _ _ _ _ ?_)
 have ok:=cellsFrom_ok scope.names (s.heap.push { cls:=.type "dict",data:=.dict #[] }) (s.heap.objs.size+1) [] ⟨fun _ _ hm=>(nomatch hm),List.Pairwise.nil⟩ (by rw[Heap.size_push];exact Nat.le_refl _)
 rw[Heap.size_push]at ok
 rw[show ({ s with heap:=s.heap.push { cls:=.type "dict",data:=.dict #[] } }:Shared).heap.objs.size=s.heap.objs.size+1 from Heap.size_push ..]
 simp only[List.forIn_nil]
 refine wpAny_bind (wpAny_pure (wpAny_pure ?_))
 refine hQ _ _ ((Heap.Ns.new s.heap (.type "dict")).keeps (pushCells_keeps _ _)) (fun b o e=>pushCells_keeps _ _ b o (Heap.get?_push_of_some _ e)) ?_
 have look:∀ n,(cellsFrom (s.heap.objs.size+1) scope.names cl).lookup n=((cellsFrom (s.heap.objs.size+1) scope.names []).lookup n).or (cl.lookup n):=fun n=>by rw[bf,List.lookup_append]
 have no:∀ n,(n,NameKind.cell)∉scope.names→(cellsFrom (s.heap.objs.size+1) scope.names []).lookup n=none:=fun n hn=>by
  cases e:(cellsFrom (s.heap.objs.size+1) scope.names []).lookup n with
  | none=>rfl
  | some c=>exact absurd (gO _ _ (PySem.mem_of_lookup e)) hn
 have keep:∀ n,(n,NameKind.cell)∉scope.names→(cellsFrom (s.heap.objs.size+1) scope.names cl).lookup n=cl.lookup n:=fun n hn=>by rw[look,no n hn];rfl
 have new:∀ n,(n,NameKind.cell)∈scope.names→∃ c,(cellsFrom (s.heap.objs.size+1) scope.names []).lookup n=some c∧(cellsFrom (s.heap.objs.size+1) scope.names cl).lookup n=some c:=fun n hn=>by
  obtain⟨c,hc⟩:=gP scope.names (s.heap.objs.size+1) hn
  exact⟨c,hc,by rw[look,hc];rfl⟩
 refine⟨fun n c e=>?_,keep,fun n hn=>?_,fun x y c _ ex ey hx hy=>?_⟩
 ·by_cases hn:(n,NameKind.cell)∈scope.names
  ·obtain⟨c',h1,h2⟩:=new n hn
   rw[e]at h2;cases h2
   have:=ok.empty n c (PySem.mem_of_lookup h1)
   exact .inr ⟨this.2,this.1,hn⟩
  ·rw[keep n hn]at e
   exact .inl ⟨e,hn⟩
 ·obtain⟨c,_,h2⟩:=new n hn
  exact⟨c,h2⟩
 ·obtain⟨c1,h1,h2⟩:=new x hx
  obtain⟨c2,h3,h4⟩:=new y hy
  rw[ex]at h2;cases h2
  rw[ey]at h4;cases h4
  exact name_of_addr ok.apart (PySem.mem_of_lookup h1) (PySem.mem_of_lookup h3)
end
theorem dQ {names:List (Str×NameKind)}{x:Str}{k:NameKind}(h:names.lookup x=some k):(x,k)∈names:=PySem.mem_of_lookup h
def blk (X:Cx)(scope:Scope)(cl:List (Str×Addr))(C:Addr)(s:Shared)(H:Hp)(fp:List Addr)(N:List Str):Cx where
 prog:=X.prog
 w:=X.w
 K:=X.K
 mg:=X.mg
 base:=X.base
 A:=X.A
 N:=N
 s₀:=s
 H₀:=H
 env:=compEnvC scope cl C X.env
 outer:=X.stack
 stack:=X.stack
 ex:=fp
 fn:=fun x=>scope.names.lookup x==some .cell
 calm:=true
 pn:=[]
 xe:=fun _ _=>False
def startB (own:Nat)(cap:List Nat)(σ:St):St:=List.replicate own none++cap.map fun i=>(σ[i]?).getD none
structure BlkOk (XN:List Str)(osc scope:Scope)(N:List Str)(own:Nat)(cap:List Nat):Prop where
 kind:scope.kind=.function
 ncell:∀ y∈scope.names,y.2=.cell→scope.names.lookup y.1=some .cell
 nfree:∀ y∈scope.names,y.2=.free→scope.names.lookup y.1=some .free
 nloc:∀ y∈scope.names,y.2=.local→scope.names.lookup y.1=some .local
 free:∀ y∈scope.names,y.2=.free→osc.names.lookup y.1=some .cell∨osc.names.lookup y.1=some .free
 len:N.length=own+cap.length
 capN:∀ j i,cap[j]?=some i→∃ x,N[own+j]?=some x∧XN[i]?=some x∧scope.names.lookup x=some .free
section
variable {X:Cx}{pins:List (Addr×Obj)}{σ:St}{H:Hp}{s:Shared}{scope:Scope}{N:List Str}{own:Nat}{cap:List Nat}{cl:List (Str×Addr)}{fp:List Addr}
theorem v3 {cl2:List (Str×Addr)}(b:BlkOk X.N X.env.scope scope N own cap)(hc:X.calm=true)(I:Inv X pins σ H s)(hf:∀ b∈fp,FpOk X pins H b)(hfo:∀ b∈fp,b < s.heap.objs.size)(c1:∀ n c,cl.lookup n=some c→X.env.cells.lookup n=some c)
  (c2:∀ y∈scope.names,y.2=.free→∃ c,cl.lookup y.1=some c) {h':Heap} {t':Nat} {m:Str→Option Value} (hns:h'.Ns s.heap.objs.size m) (hk:∀ b o,s.heap.get? b=some o→h'.get? b=some o) (cb:CellsB scope cl cl2 s.heap.objs.size h') :
  Inv (blk X scope cl2 s.heap.objs.size s H fp N) [] (startB own cap σ) H { s with heap:=h',toks:=t' }:=by
 have hC:H s.heap.objs.size=none:=I.hok.fresh (Nat.le_refl _)
 have lt:∀ n c,cl.lookup n=some c→c < s.heap.objs.size:=fun n c e=>by obtain⟨v,hv⟩:=I.cell n c (c1 n c e);exact hv.lt
 have inj:∀ x y c,cl2.lookup x=some c→cl2.lookup y=some c→x=y:=fun x y c h1 h2=>by
  rcases cb.old x c h1 with ⟨a1,_⟩ | ⟨a1,_,a2⟩<;>rcases cb.old y c h2 with ⟨b1,_⟩ | ⟨b1,_,b2⟩
  ·exact I.ok.inj x y c (c1 x c a1) (c1 y c b1)
  ·exact absurd (lt x c a1) (Nat.lt_asymm b1)
  ·exact absurd (lt y c b1) (Nat.lt_asymm a1)
  ·exact cb.inj x y c a1 h1 h2 a2 b2
 refine⟨⟨I.ok.mod,b.kind,I.ok.glob,I.ok.blt,Nat.le_refl _,inj,fun x hx=>?_,fun x c hx e=>?_,fun _=>I.ok.hd hc,I.ok.frames,.inl rfl,fun b' hb=>?_,I.bs,Nat.le_trans I.ok.bsz I.sz,fun b' o e hb=>?_,fun b' hb hm=>?_,I.stack,I.stkFree⟩,rfl,I.bare,Un.kept hk,⟨m,hns,fun i x v h1 h2 h3=>?_⟩,fun x c e=>?_,hC,fun x c e=>?_,fun p hp=>(nomatch hp),I.hok.kept hk,?_⟩
 ·obtain⟨y,hy,e1,e2⟩:=jh (env:=X.env) hx
  rcases e2 with e2 | e2
  ·obtain⟨c,e⟩:=c2 y hy e2
   have hn:(y.1,NameKind.cell)∉scope.names:=fun z=>by
    have q1:=b.nfree y hy e2
    have q2:=b.ncell _ z rfl
    rw[q1]at q2;cases q2
   exact⟨c,by rw[← e1];show cl2.lookup y.1=some c;rw[cb.keep _ hn];exact e⟩
  ·obtain⟨c,e⟩:=cb.mine y.1 (by rw[← e2];exact hy)
   exact⟨c,by rw[← e1];exact e⟩
 ·rcases cb.old x c e with ⟨a1,a2⟩ | ⟨a1,_,_⟩
  ·have hx':(scope.names.lookup x==some NameKind.cell)=true:=hx
   exact absurd (dQ (eq_of_beq hx')) a2
  ·exact Nat.le_of_lt a1
 ·refine⟨Nat.ne_of_lt (hfo b' hb),fun x c e=>?_⟩
  rcases cb.old x c e with ⟨a1,_⟩ | ⟨a1,_,_⟩
  ·exact(hf b' hb).2.2.2.2.1 x c (c1 x c a1)
  ·exact fun z=>Nat.lt_asymm a1 (z ▸ hfo b' hb)
 ·rcases(hf b' hb).2.2.2.1 with z | z
  ·exact I.ok.noex b' o e z
  ·have:=Heap.lt_size (I.ok.bs b' o e).1
   exact absurd (Nat.lt_of_lt_of_le this z) (Nat.lt_irrefl _)
 ·rcases List.mem_cons.mp (I.stkSub b' hm) with z | z
  ·exact(hf b' hb).2.1 z
  ·exact(hf b' hb).2.2.1 z
 ·
  unfold startB at h2
  by_cases hi:i < own
  ·rw[List.getElem?_append_left (by simpa using hi),List.getElem?_replicate]at h2
   split at h2<;>cases h2
  ·rw[List.getElem?_append_right (by simpa using hi),List.length_replicate,List.getElem?_map]at h2
   cases e:cap[i - own]? with
   | none=>rw[e]at h2;cases h2
   | some k =>
    rw[e]at h2
    obtain⟨x',f1,f2,f3⟩:=b.capN _ _ e
    rw[show own+(i - own)=i by omega]at f1
    have h1':N[i]?=some x:=h1
    rw[h1']at f1;cases f1
    have h2':σ[k]?=some (some v):=by
     cases q:σ[k]? with
     | none=>simp only[Option.map_some,q,Option.getD_none,Option.some.injEq]at h2;cases h2
     | some o=>simp only[Option.map_some,q,Option.getD_some,Option.some.injEq]at h2;rw[h2]
    obtain⟨m0,_,hl⟩:=I.loc
    have kf:=b.free (x,.free) (dQ f3) rfl
    obtain⟨u,r,l⟩:=hl k x v f2 h2' (kf.elim (fun z=>.inr (.inl z)) fun z=>.inr (.inr z))
    refine⟨u,r,?_⟩
    rcases l with ⟨z,_⟩ | ⟨_,c,e1,e2⟩
    ·have z':X.env.scope.names.lookup x=some .local:=z
     rcases kf with y | y
     ·have y':X.env.scope.names.lookup x=some .cell:=y
      rw[z']at y';cases y'
     ·have y':X.env.scope.names.lookup x=some .free:=y
      rw[z']at y';cases y'
    ·obtain⟨c',g1⟩:=c2 (x,.free) (dQ f3) rfl
     have g2:=c1 x c' g1
     rw[e1]at g2;cases g2
     have hn:(x,NameKind.cell)∉scope.names:=fun z=>by
      have q2:=b.ncell _ z rfl
      have q2':scope.names.lookup x=some .cell:=q2
      rw[f3]at q2';cases q2'
     exact .inr ⟨jg (env:=X.env) f3,c,by show cl2.lookup x=some c;rw[cb.keep _ hn];exact g1,by obtain⟨o,ho,hd⟩:=e2;exact⟨o,hk _ _ ho,hd⟩⟩
 ·rcases cb.old x c e with ⟨a1,_⟩ | ⟨_,a2,_⟩
  ·obtain⟨v,o,ho,hd⟩:=I.cell x c (c1 x c a1)
   exact⟨v,o,hk _ _ ho,hd⟩
  ·exact⟨none,a2⟩
 ·rcases cb.old x c e with ⟨a1,_⟩ | ⟨a1,_,_⟩
  ·exact I.freeC x c (c1 x c a1)
  ·exact I.hok.fresh (Nat.le_of_lt a1)
 ·unfold startB
  show _=N.length
  rw[List.length_append,List.length_replicate,List.length_map,b.len]
theorem t7 {s3 s':Shared}{H3 H':Hp}{σ':St}{pl:List (Addr×Obj)}{D C:Addr}(I:Inv X pins σ H s)(hf:∀ b∈fp,FpOk X pins H b)(hD:D=s.heap.objs.size)(h3:s3={ s with heap:=s.heap.push { cls:=.type "list",data:=.seq #[] } })(hH:H3=upd H D (.lst []))(hC:C=s3.heap.objs.size)
  (J:Inv (blk X scope cl C s3 H3 fp N) pl σ' H' s'):Inv X pins σ H' s'∧FpOk X pins H' C∧∃ m,s'.heap.Ns C m:=by
 subst h3
 have hs:s.heap.objs.size≤C:=by rw[hC];show _≤(s.heap.push _).objs.size;rw[Heap.size_push];exact Nat.le_succ _
 have u1:Un (frs X.stack) fp H H3 s.heap (s.heap.push { cls:=.type "list",data:=.seq #[] }):=by
  rw[hH,hD]
  exact Un.laid (fun b u e=>Heap.get?_push_of_some _ e) (Nat.le_refl _) (I.hok.fresh (Nat.le_refl _))
 have u2:Un (frs X.stack) fp H3 H' (s.heap.push { cls:=.type "list",data:=.seq #[] }) s'.heap:=J.base
 have os:s'.os=s.os:=J.os
 refine⟨I.call' (ch:=fp) os (u1.trans u2) J.hok J.bare fun b hb=>?_,I.fpOk hs J.free,?_⟩
 ·obtain⟨_,f1,f2,f3,f4,f5⟩:=hf b hb
  exact⟨f3,f1,f4,f5⟩
 ·obtain⟨m,hn,_⟩:=J.loc
  exact⟨m,hn⟩
end
def tTests (ifs:List Expr)(t:TT):TT:=match ifs with
 | []=>fun _ H Q=>Q true H
 | _::_=>t
theorem oR {ifs:List Expr}{t:TT}{σ:St}{H:Hp}{Q:Bool→Hp→Prop}(e:ifs=[])(h:tTests ifs t σ H Q):Q true H:=by subst e;exact h
theorem oS {ifs:List Expr}{t:TT}{σ:St}{H:Hp}{Q:Bool→Hp→Prop}{c:Expr}(e:ifs=[c])(h:tTests ifs t σ H Q):t σ H Q:=by subst e;exact h
theorem rf {M:Model}{A:Around}{ifs:List Expr}{env:Env}{Q:Bool→Shared→Prop}{E:Value→Shared→Prop}{s:Shared}(hifs:ifs.length≤1)(h0:ifs=[]→Q true s)(h1:∀ c,ifs=[c]→wpAny M A (isTrue c env (eval c env)) Q E s):wpAny M A (tests ifs env) Q E s:=by
 match ifs,hifs,h0,h1 with
 | [],_,h0,_=>exact wpAny_pure (h0 rfl)
 | [c],_,_,h1=>exact h1 c rfl
def BlkW (sz:Nat)(J:It)(g:TG)(tc:TT)(te:TE)(D:Addr)(Fin:Hp→List V→Prop)(W:Nat→Nat→St→Hp→List V→Prop):Prop :=
 ∀ i m σ H ys,W i m σ H ys→H D=some (.lst ys)∧((J.stop i H∧Fin H ys)∨(J.go i H∧∀ x H',J.yld i H x H'→g x σ H' fun σ2 H2=>tc σ2 H2 fun ok H3 =>
  if ok=true then te σ2 H3 fun y H4=>H4 D=some (.lst ys)∧ys.length < sz∧∃ m',m' < m∧W (i+1) m' σ2 (upd H4 D (.lst (ys++[y]))) (ys++[y])
  else ∃ m',m' < m∧W (i+1) m' σ2 H3 ys))
section
variable {X:Cx}{elt tg iter:Expr}{ifs:List Expr}{scope:Scope}{N:List Str}{own:Nat}{cap:List Nat}{pos:Pos}{wi:TI}{g:TG}{tc:TT}{te:TE}
set_option maxHeartbeats 4000000 in
theorem mY {pins:List (Addr×Obj)}{σ:St}{H:Hp}{s:Shared}{it:Addr}{fp:List Addr}{tn:Nat→Heap→Prop}{J:It}{cl:List (Str×Addr)}{E:Value→Shared→Prop}{RR:Value→Addr→Result→Shared→Prop}{Fin:Addr→Hp→List V→Prop}
  (b:BlkOk X.N X.env.scope scope N own cap) (hc:X.calm=true) (hifs:ifs.length≤1)
  (hg:∀ cl C s H fp,PG (blk X scope cl C s H fp N) tg g) (ht:∀ c,ifs=[c]→∀ cl C s H fp,PT (blk X scope cl C s H fp N) c tc) (he:∀ cl C s H fp,PE (blk X scope cl C s H fp N) elt te)
  (hclos:closureFor scope X.env=pure cl) (c1:∀ n c,cl.lookup n=some c→X.env.cells.lookup n=some c) (c2:∀ y∈scope.names,y.2=.free→∃ c,cl.lookup y.1=some c)
  (I:Inv X pins σ H s) (T:Turn X.prog X.w X.K tg J fp it tn) (st:tn 0 s.heap) (hf:∀ b∈fp,FpOk X pins H b)
  (hW:∀ D,H D=none→∃ W,BlkW sizeLine J g (tTests ifs tc) te D (Fin D) W∧∃ m,W 0 m (startB own cap σ) (upd H D (.lst [])) [])
  (fin:∀ D C s' H' ys,Inv X pins σ H' s'→FpOk X pins H' C→(∃ m,s'.heap.Ns C m)→H' D=some (.lst ys)→Fin D H' ys→RR (.ref D) C (.ok .next) s') :
  wpAny (model X.prog X.w) X.A (newList []) (fun acc s3=>wpAny (model X.prog X.w) X.A (newFunctionEnv scope X.env.globals cl [] X.env.qual none .none (some X.env)) (fun cenv s4 =>
   codeAny (model X.prog X.w) X.A (.compStart (.ListComp elt [⟨tg,iter,ifs,0⟩] scope pos) 0 (.ref it) acc { cenv with scope:=relabel scope X.env }) (RR acc cenv.locals) s4) E s3) E s:=by
 have hfo:∀ b∈fp,b < s.heap.objs.size:=fun b hb=>by
  obtain⟨o,e,_⟩:=T.obj 0 _ st b hb
  exact Heap.lt_size e
 have hD:H s.heap.objs.size=none:=I.hok.fresh (Nat.le_refl _)
 obtain⟨W,hturn,m0,w0⟩:=hW _ hD
 refine wpAny_newObj_type (lP fun h1 cl2 hns kk cb=>?_)
 have I3:Inv X pins σ (upd H s.heap.objs.size (.lst [])) { s with heap:=s.heap.push { cls:=.type "list",data:=.seq #[] } }:=I.lnew (t':=s.toks) (its:=[]) .nil (Nat.zero_le _)
 have hfp3:∀ b∈fp,FpOk X pins (upd H s.heap.objs.size (.lst [])) b:=fun b hb=>⟨by rw[ap (Nat.ne_of_lt (hfo b hb))];exact(hf b hb).1,(hf b hb).2⟩
 have st1:tn 0 h1:=T.keep 0 _ _ st fun b hb o e=>kk b o (Heap.get?_push_of_some _ e)
 generalize hX:blk X scope cl2 (s.heap.push { cls:=.type "list",data:=.seq #[] }).objs.size { s with heap:=s.heap.push { cls:=.type "list",data:=.seq #[] } } (upd H s.heap.objs.size (.lst [])) fp N=X'
 have I4:Inv X' [] (startB own cap σ) (upd H s.heap.objs.size (.lst [])) { s with heap:=h1 }:=by
  rw[← hX]
  exact v3 b hc I3 hfp3 (fun b hb=>Nat.lt_of_lt_of_le (hfo b hb) (by show _≤(s.heap.push _).objs.size;rw[Heap.size_push];exact Nat.le_succ _)) c1 c2 hns kk cb
 have eP:X'.prog=X.prog:=by rw[← hX];rfl
 have ew:X'.w=X.w:=by rw[← hX];rfl
 have eK:X'.K=X.K:=by rw[← hX];rfl
 have eA:X'.A=X.A:=by rw[← hX];rfl
 have ec:X'.calm=true:=by rw[← hX];rfl
 have ee:X'.env=compEnvC scope cl2 (s.heap.push { cls:=.type "list",data:=.seq #[] }).objs.size X.env:=by rw[← hX];rfl
 have ex:X'.xe=fun _ _=>False:=by rw[← hX];rfl
 have epn:X'.pn=[]:=by rw[← hX];rfl
 have eex:X'.ex=fp:=by rw[← hX];rfl
 have pg:PG X' tg g:=by rw[← hX];exact hg _ _ _ _ _
 have pe:PE X' elt te:=by rw[← hX];exact he _ _ _ _ _
 have pt:∀ c,ifs=[c]→PT X' c tc:=fun c q=>by rw[← hX];exact ht c q _ _ _ _ _
 have fpB:∀ {H':Hp},(∀ b∈fp,H' b=none)→∀ {s'':Shared} {σ':St},Inv X' [] σ' H' s''→∀ b∈fp,FpOk X' [] H' b:=fun {H'} hn {s'' σ'} Iv b hb =>
  ⟨hn b hb,(Iv.ok.exf b (by rw[eex];exact hb)).1,Iv.ok.exfs b (by rw[eex];exact hb),.inl (by rw[eex];exact hb),(Iv.ok.exf b (by rw[eex];exact hb)).2,fun p hp=>by rw[epn]at hp;exact(nomatch hp)⟩
 have loop:codeAny (model X.prog X.w) X.A (.compLoop (.ListComp elt [⟨tg,iter,ifs,0⟩] scope pos) 0 (.ref it) (.ref s.heap.objs.size) (compEnvC scope cl2 (s.heap.push { cls:=.type "list",data:=.seq #[] }).objs.size X.env))
   (RR (.ref s.heap.objs.size) (s.heap.push { cls:=.type "list",data:=.seq #[] }).objs.size) { s with heap:=h1 }:=by
  refine qW hifs (fun n s'=>∃ i σ' H' ys,Inv X' [] σ' H' s'∧tn i s'.heap∧(∀ b∈fp,H' b=none)∧W i n σ' H' ys) (fun n s5 ⟨i,σ5,H5,ys,I5,st5,fr5,w5⟩=>?_) m0
   ⟨0,startB own cap σ,_,[],I4,st1,fun b hb=>(hfp3 b hb).1,w0⟩
  obtain⟨hDy,hgo⟩:=hturn i n σ5 H5 ys w5
  have hs5:=fpB fr5 I5
  rcases hgo with ⟨stop,hfin⟩ | ⟨go,step⟩
  ·have q:=T.done X' eP ew eK ec i [] s5 σ5 H5 (fun _ _=>False) I5 hs5 st5 stop
   rw[eA]at q
   refine wpAny_mono q (fun r s6 ⟨hr,I6⟩=>?_) fun _ _ z=>z
   subst hr
   rw[← hX]at I6
   obtain⟨J1,J2,J3⟩:=t7 I hf rfl rfl rfl rfl I6
   exact fin _ _ s6 H5 ys J1 J2 J3 hDy hfin
  ·have q:=T.item X' eP ew eK ec i [] s5 σ5 H5 (fun _ _=>False) I5 hs5 st5 go
   rw[eA]at q
   refine wpAny_mono q (fun r s6 ⟨u,hr,h6⟩=>?_) fun _ _ z=>z
   subst hr
   refine wpAny_mono h6 (fun _ s7 ⟨x,H7,I7,r7,y7,st7,fr7⟩=>?_) fun _ _ z=>z
   have I7':=I7.pinned (fpB fr7 I7) (T.obj _ _ st7)
   rw[List.nil_append]at I7'
   have qg:=pg _ s7 σ5 H7 x u _ I7' r7 (step x H7 y7)
   rw[eP,ew,eA,ee,ex]at qg
   refine wpAny_mono qg (fun _ s8 ⟨σ8,H8,I8,q8⟩=>?_) fun _ _ z=>z
   have again:∀ {s9:Shared} {H9:Hp} {zs:List V},Inv X' (pinsAt fp s7.heap) σ8 H9 s9→(∃ m',m' < n∧W (i+1) m' σ8 H9 zs) →
     ∃ m,m < n∧∃ i σ' H' ys,Inv X' [] σ' H' s9∧tn i s9.heap∧(∀ b∈fp,H' b=none)∧W i m σ' H' ys:=fun {s9 H9 zs} I9 ⟨m',hm,w9⟩=>by
    have I9':Inv X' ([]++pinsAt fp s7.heap) σ8 H9 s9:=by rw[List.nil_append];exact I9
    refine⟨m',hm,i+1,σ8,H9,zs,I9'.unpinned,T.keep _ _ _ st7 fun b hb o e=>(I9.pin (b,o) (List.mem_append_right _ (cZ hb e))).1,fun b hb=>?_,w9⟩
    obtain⟨o,e,d⟩:=T.obj _ _ st7 b hb
    exact(I9.pin (b,o) (List.mem_append_right _ (cZ hb e))).2.1
   have body:∀ (ok:Bool) (s9:Shared),(∃ H9,Inv X' (pinsAt fp s7.heap) σ8 H9 s9∧(if ok=true then te σ8 H9 fun y H4=>H4 s.heap.objs.size=some (.lst ys)∧ys.length < sizeLine∧∃ m',m' < n∧W (i+1) m' σ8 (upd H4 s.heap.objs.size (.lst (ys++[y]))) (ys++[y]) else ∃ m',m' < n∧W (i+1) m' σ8 H9 ys)) →
     if ok=true then wpAny (model X.prog X.w) X.A (eval elt (compEnvC scope cl2 (s.heap.push { cls:=.type "list",data:=.seq #[] }).objs.size X.env)) (fun x s5=>wpAny (model X.prog X.w) X.A (call (.builtin "list.append") [.ref s.heap.objs.size,x]) (fun _ s6=>∃ m,m < n∧∃ i σ' H' ys,Inv X' [] σ' H' s6∧tn i s6.heap∧(∀ b∈fp,H' b=none)∧W i m σ' H' ys) (fun _ _=>False) s5) (fun _ _=>False) s9
     else ∃ m,m < n∧∃ i σ' H' ys,Inv X' [] σ' H' s9∧tn i s9.heap∧(∀ b∈fp,H' b=none)∧W i m σ' H' ys:=by
    intro ok s9 ⟨H9,I9,h9⟩
    cases ok with
    | false=>exact again I9 h9
    | true =>
     have qe:=pe _ s9 σ8 H9 _ I9 h9
     rw[eP,ew,eA,ee,ex]at qe
     refine wpAny_mono qe (fun u s10 ⟨y,H10,I10,r10,hD10,hlt,m',hm,w10⟩=>?_) fun _ _ z=>z
     have qa:=kT (X:=X') (pinsAt fp s7.heap) s10 σ8 H10 (.ref s.heap.objs.size) [y] (.ref s.heap.objs.size) [u] (fun _ H11=>H11=upd H10 s.heap.objs.size (.lst (ys++[y]))) I10 rfl (.cons r10 .nil)
      ⟨s.heap.objs.size,ys,y,rfl,rfl,hD10,hlt,rfl⟩
     rw[eP,ew,eA,ex]at qa
     refine wpAny_mono qa (fun _ s11 ⟨_,H11,I11,_,e11⟩=>?_) fun _ _ z=>z
     subst e11
     exact again I11 ⟨m',hm,w10⟩
   refine rf hifs (fun q=>body true s8 ⟨H8,I8,oR q q8⟩) fun c q=>?_
   have qt:=pt c q _ s8 σ8 H8 _ I8 (oS q q8)
   rw[eP,ew,eA,ee,ex]at qt
   exact wpAny_mono qt (fun ok s9 ⟨H9,I9,h9⟩=>body ok s9 ⟨H9,I9,h9⟩) fun _ _ z=>z
 exact codeAny_compStart_list loop (T.self _ 0 _ _ _ st1 loop)
def tComp (own:Nat)(cap:List Nat)(wi:TI)(g:TG)(tc:TT)(te:TE):TE:=fun σ H Q=>wi σ H fun J H1=>∀ D,H1 D=none→∃ W,BlkW sizeLine J g tc te D (fun H' _=>Q (.ref D) H') W∧∃ m,W 0 m (startB own cap σ) (upd H1 D (.lst [])) []
theorem pY (b:BlkOk X.N X.env.scope scope N own cap)(hc:X.calm=true)(hifs:ifs.length≤1)(hi:PI X tg iter wi)
  (hg:∀ cl C s H fp,PG (blk X scope cl C s H fp N) tg g) (ht:∀ c,ifs=[c]→∀ cl C s H fp,PT (blk X scope cl C s H fp N) c tc) (he:∀ cl C s H fp,PE (blk X scope cl C s H fp N) elt te)
  (hs:∀ x,foldedSetIterable iter X.env x=pure x:=by intro _;rfl):PE X (.ListComp elt [⟨tg,iter,ifs,0⟩] scope pos) (tComp own cap wi g (tTests ifs tc) te):=by
 intro pins s σ H Q I h
 obtain⟨cl,hclos,c1,c2⟩:=jc scope X.env fun y hy hf=>I.ok.has y.1 (b.free y hy hf)
 rw[eval_ListComp]
 refine wpAny_comprehension_free (use:=none) rfl hs hclos b.kind b.nloc (thn (hi pins s σ H _ I h) fun v s1 h1=>thn h1 fun itv s2 h2=>?_)
 obtain⟨it,fp,tn,J,H2,e,I2,T,st2,f2,hW⟩:=h2
 subst e
 refine mY (RR:=fun acc C=>compPost (model X.prog X.w) X.A X.xe none (EP X pins σ Q) acc C) b hc hifs hg ht he hclos c1 c2 I2 T st2 f2 hW fun D C s' H' ys J1 J2 ⟨m,hm⟩ hD hQ=>?_
 refine⟨m,hm,fun h' hsb=>⟨.ref D,H',?_,rfl,hQ⟩⟩
 obtain⟨f0,f1,f2,f3,f4,f5⟩:=J2
 exact J1.turned (t':=s'.toks) (fun b o hb e=>(hsb.2 b hb).trans e) f0 f1 f3 f4 f5
def tCompSet (i own:Nat)(cap:List Nat)(wi:TI)(g:TG)(tc:TT)(te:TE):TS:=fun E σ H=>wi σ H fun J H1=>∀ D,H1 D=none→∃ W,BlkW sizeLine J g tc te D (fun H' _=>E.nx (σ.set i (some (.ref D))) H') W∧∃ m,W 0 m (startB own cap σ) (upd H1 D (.lst [])) []
theorem oT {i:Nat}{y:Str}{py spos:Pos}(b:BlkOk X.N X.env.scope scope N own cap)(hc:X.calm=true)(hifs:ifs.length≤1)(hi:PI X tg iter wi)
  (hg:∀ cl C s H fp,PG (blk X scope cl C s H fp N) tg g) (ht:∀ c,ifs=[c]→∀ cl C s H fp,PT (blk X scope cl C s H fp N) c tc) (he:∀ cl C s H fp,PE (blk X scope cl C s H fp N) elt te)
  (hN:X.N.Nodup) (hiy:X.N[i]?=some y) (hy:Loc X.env.scope y) (hfn:X.fn y=true∨X.env.scope.names.lookup y=some .local)
  (hsw:swapsWith (.ListComp elt [⟨tg,iter,ifs,0⟩] scope pos) (some (.Name y py)) spos.line X.env=pure true)
  (hs:∀ x,foldedSetIterable iter X.env x=pure x:=by intro _;rfl):PS X (.Assign [.Name y py] (.ListComp elt [⟨tg,iter,ifs,0⟩] scope pos) spos) (tCompSet i own cap wi g (tTests ifs tc) te):=by
 intro pins s σ H E I h
 obtain⟨cl,hclos,c1,c2⟩:=jc scope X.env fun y hy hf=>I.ok.has y.1 (b.free y hy hf)
 rw[exec_Assign_Name_used _ _ _ _ hsw]
 refine wpAny_bind (wpAny_standAt (wpAny_bind ?_))
 show wpAny _ X.A (do let _ ← comprehension (.ListComp elt [⟨tg,iter,ifs,0⟩] scope pos) scope X.env _ (newList []) false (eval iter X.env) (some (assign (.Name y py) X.env))) _ _ s
 refine wpAny_bind (wpAny_mono (wpAny_comprehension_free (use:=some (assign (.Name y py) X.env)) (Q:=fun _ s'=>SP X pins E .next s') rfl hs hclos b.kind b.nloc (thn (hi pins s σ H _ I h) fun v s1 h1=>thn h1 fun itv s2 h2=>?_)) (fun _ s' hq=>wpAny_pure (wpAny_pure hq)) fun _ _ e=>e)
 obtain⟨it,fp,tn,J,H2,e,I2,T,st2,f2,hW⟩:=h2
 subst e
 refine mY (RR:=fun acc C=>compPost (model X.prog X.w) X.A X.xe (some (assign (.Name y py) X.env)) (fun _ s'=>SP X pins E .next s') acc C) b hc hifs hg ht he hclos c1 c2 I2 T st2 f2 hW fun D C s' H' ys J1 J2 ⟨m,hm⟩ hD hQ=>?_
 obtain⟨f0,f1,f2,f3,f4,f5⟩:=J2
 refine wpAny_assign_Name (kM J1 hN hiy hy (v:=.ref D) rfl (fun s'' I'' ⟨a,hsb,ha⟩=>?_) hfn)
 have hne:C≠a:=by
  rcases ha with z | z
  ·rw[z];exact f1
  ·exact fun q=>f4 y a z q.symm
 refine⟨m,hm.sameBut hsb hne,fun h' hs'=>⟨_,H',I''.turned (t':=s''.toks) (fun b o hb e=>(hs'.2 b hb).trans e) f0 f1 f3 f4 f5,hQ⟩⟩
end
end FF
end
noncomputable section
namespace FF
open PySem PySem.Spec PyProof.Rows L2
def Walk (J:It)(vs:List V)(Ok:Hp→Prop):Prop:=∀ (i:Nat) (H:Hp),Ok H→(i < vs.length→J.go i H∧∀ x H',J.yld i H x H'→H'=H∧vs[i]?=some x)∧(vs.length≤i→J.stop i H)
def WalkG (F:Fx)(J:It)(ds:List D)(Z1:Hp):Prop:=∀ (i:Nat) (H Z:Hp),Same Z1 Z→Same Z H→(i < ds.length→J.go i H∧∀ x H',J.yld i H x H'→∃ Z' d,Ex H Z H' Z'∧ds[i]?=some d∧Rep F.K F.C Z' d x)∧(ds.length≤i→J.stop i H)
theorem fO {F:Fx}{J:It}{ds:List D}{vs:List V}{Z1:Hp}(rs:Reps F.K F.C Z1 ds vs)(w:Walk J vs (Same Z1)):WalkG F J ds Z1:=fun i H Z z1 z2=>by
 obtain⟨k1,k2⟩:=w i H (z1.trans z2)
 have hl:=rs.length
 refine⟨fun hi=>?_,fun hi=>k2 (by omega)⟩
 obtain⟨go,y⟩:=k1 (by omega)
 exact⟨go,fun x H' hy=>by
  obtain⟨e0,e2⟩:=y x H' hy
  subst e0
  obtain⟨d,e3,rd⟩:=rs.get' e2
  exact⟨Z,d,Ex.refl z2,e3,rd.mono z1⟩⟩
def tI (F:Fx)(g:SS→R (List D)):TI:=fun σ H Q=>∃ Z S,StOk F H Z S σ∧WG F H Z (g S) fun ds H' Z'=>∀ J,WalkG F J ds Z'→ds.length≤16777216→Q J H'
abbrev FI (X:Cx)(F:Fx)(tg e:Expr)(g:SS→R (List D)):Prop:=PI X tg e (tI F g)
def asSeq:D→R (List D)
 | .tup xs=>.ok xs
 | .lst xs=>.ok xs
 | _=>.stuck
def iSeq (g:SS→R D):SS→R (List D):=fun S=>(g S).bind fun d=>(asSeq d).bind fun ds=>if ds.length≤16777216 then .ok ds else .stuck
theorem _root_.L2.PI.weak {X:Cx}{tg e:Expr}{t t':TI}(h:PI X tg e t)(w:∀ σ H Q,t' σ H Q→t σ H Q):PI X tg e t':=fun pins s σ H Q I q=>h pins s σ H Q I (w σ H Q q)
theorem rh {K:PySem.W.Frag}{a:Addr}{vs:List V}{Z:Hp}(h:SqL K Z a vs):Walk (Itl K a) vs (Same Z):=fun i H hz =>
 ⟨fun hi=>⟨⟨vs,vs[i],hz.seq h,by simp[hi]⟩,fun x H' ⟨e,y⟩=>⟨e,y vs (hz.seq h)⟩⟩,fun hi=>⟨vs,hz.seq h,hi⟩⟩
theorem t8 {K:PySem.W.Frag}{a:Addr}{vs:List V}{Z:Hp}(h:SqT K Z a vs):Walk (Itt K a) vs (Same Z):=fun i H hz =>
 ⟨fun hi=>⟨⟨vs,vs[i],h.mono hz,by simp[hi]⟩,fun x H' ⟨e,y⟩=>⟨e,y vs (h.mono hz)⟩⟩,fun hi=>⟨vs,h.mono hz,hi⟩⟩
theorem oU {lo:Int}{n:Nat}{Z:Hp}:Walk (Itr lo n) ((List.range n).map fun i=>.int (lo+(i:Nat))) (Same Z):=fun i H hz=>by
 refine⟨fun hi=>?_,fun hi=>?_⟩
 ·have hi':i < n:=by simpa using hi
  exact⟨hi',fun x H' ⟨e,y⟩=>⟨e,by rw[y];simp[hi']⟩⟩
 ·show n≤i
  simpa using hi
theorem yq {X:Cx}{tg l:Expr}{tl:TE}(hl:PE X l tl):PI X tg l (fun σ H R=>tl σ H fun x H1=>∃ a,x=.ref a∧(((∃ xs,SqL X.K H1 a xs)∧R (Itl X.K a) H1)∨((∃ xs,SqT X.K H1 a xs)∧R (Itt X.K a) H1))):=by
 intro pins s σ H Q I h
 refine thn (hl pins s σ H _ I h) fun v s1 ⟨x,H1,I1,r1,a,e,q⟩=>?_
 subst e
 cases r1
 rcases q with ⟨⟨xs,hq⟩,q⟩ | ⟨⟨xs,hq⟩,q⟩
 ·obtain⟨its,rv,p,hz⟩:=I1.list hq
  refine wpAny_pyIter_list p.isList ⟨s1.heap.objs.size,[s1.heap.objs.size],_,_,H1,rfl,I1.kept (t':=s1.toks) fun b o e=>Heap.get?_push_of_some _ e,qO a _,⟨_,Heap.get?_push_size _ rfl,rfl,rfl⟩,fun b hb=>?_,q⟩
  obtain rfl:b=s1.heap.objs.size:=by simpa using hb
  exact I1.fpOk (Nat.le_refl _) (I1.hok.fresh (Nat.le_refl _))
 ·obtain⟨its,rv,p,hz⟩:=I1.tuple hq
  refine wpAny_pyIter_tuple (show s1.heap.IsTuple a its.toArray from p) ⟨s1.heap.objs.size,[s1.heap.objs.size],_,_,H1,rfl,I1.kept (t':=s1.toks) fun b o e=>Heap.get?_push_of_some _ e,oD a _,⟨_,Heap.get?_push_size _ rfl,rfl,rfl⟩,fun b hb=>?_,q⟩
  obtain rfl:b=s1.heap.objs.size:=by simpa using hb
  exact I1.fpOk (Nat.le_refl _) (I1.hok.fresh (Nat.le_refl _))
section
variable {X:Cx}{F:Fx}{tg e:Expr}{g:SS→R D}{gs:SS→R (List D)}
theorem aS (hK:X.K=F.K)(h:FE X F e g):FI X F tg e (iSeq g):=(yq h).weak fun σ H Q ⟨Z,S,ok,w⟩=>aD ok w fun d v H1 Z1 ok1 x1 rv w1=>by
 rw[hK]
 cases d with
 | tup ds =>
  rw[Rep]at rv
  obtain⟨a,vs,rfl,h1,h2⟩:=rv
  have w2:WG F H1 Z1 (if ds.length≤16777216 then R.ok ds else .stuck) _:=w1
  split at w2
  ·rename_i hl
   exact⟨a,rfl,.inr ⟨⟨vs,h1.mono ok1.sub⟩,WG.now w2 ok1.sub _ (fO h2 (t8 h1)) hl⟩⟩
  ·exact w2.elim
 | lst ds =>
  rw[Rep]at rv
  obtain⟨a,vs,rfl,h1,h2⟩:=rv
  have w2:WG F H1 Z1 (if ds.length≤16777216 then R.ok ds else .stuck) _:=w1
  split at w2
  ·rename_i hl
   exact⟨a,rfl,.inl ⟨⟨vs,ok1.sub.seq h1⟩,WG.now w2 ok1.sub _ (fO h2 (rh h1)) hl⟩⟩
  ·exact w2.elim
 | _=>exact w1.elim
def rngD (lo:Int)(n:Nat):List D:=(List.range n).map fun i=>.int (lo+(i:Nat))
def rng1:List D→R (List D)
 | [.int j]=>if -16777216≤j∧j≤16777216 then .ok (rngD 0 j.toNat) else .stuck
 | _=>.stuck
def iRange1 (gs:SS→R (List D)):SS→R (List D):=fun S=>(gs S).bind rng1
theorem mZ {K:PySem.W.Frag}{C:Nat→Addr}{Z:Hp}(lo:Int):∀ (l:List Nat),Reps K C Z (l.map fun i=>.int (lo+(i:Nat))) (l.map fun i=>.int (lo+(i:Nat)))
 | []=>Reps.nil
 | a::r=>Reps.cons (by rw[Rep]) (mZ lo r)
theorem pZ {K:PySem.W.Frag}{C:Nat→Addr}{Z:Hp}{j:Int}{vs:List V}(r:Reps K C Z [.int j] vs):vs=[.int j]:=by
 rw[Reps]at r
 obtain⟨v,r',rfl,h1,h2⟩:=r
 rw[Reps]at h2
 rw[Rep]at h1
 rw[h1,h2]
theorem m5 {K:PySem.W.Frag}{C:Nat→Addr}{Z:Hp}{i j:Int}{vs:List V}(r:Reps K C Z [.int i,.int j] vs):vs=[.int i,.int j]:=by
 rw[Reps]at r
 obtain⟨v,r',rfl,h1,h2⟩:=r
 rw[Rep]at h1
 rw[h1,pZ h2]
theorem v4 {ds:List D}{es:List D}(h:rng1 ds=.ok es):∃ j:Int,ds=[.int j]∧(-16777216≤j∧j≤16777216)∧es=rngD 0 j.toNat:=by
 unfold rng1 at h
 split at h
 ·rename_i j
  split at h
  ·rename_i q;cases h;exact⟨j,rfl,q,rfl⟩
  ·cases h
 ·cases h
theorem v5 {ds:List D}{k:Nat}(h:rng1 ds=.err k):False:=by
 unfold rng1 at h
 split at h
 ·split at h<;>cases h
 ·cases h
theorem bj {a:Expr}{p pos:Pos}(hg:Gl X "range")(hm:X.mg "range"=none)(ha:FA X F [a] gs)(hs:starEach [a] X.env=[(false,eval a X.env)]:=by rfl):FI X F tg (.Call (.Name "range" p) [a] [] pos) (iRange1 gs) :=
 (qP hg hm ha hs).weak fun σ H Q ⟨Z,S,ok,w⟩=>aO ok w fun ds vs H1 Z1 ok1 x1 rs w1=>by
  cases e:rng1 ds with
  | err k=>exact(v5 e).elim
  | stuck=>rw[e]at w1;exact w1.elim
  | ok es =>
   rw[e]at w1
   obtain⟨j,rfl,hj,rfl⟩:=v4 e
   exact⟨j,pZ rs,by omega,by omega,WG.now w1 ok1.sub _ (fO (mZ 0 _) oU) (by unfold rngD;rw[List.length_map,List.length_range];omega)⟩
end
def tGd (F:Fx)(g:D→SS→R SS):TG:=fun v σ H Q=>∃ Z S d,StOk F H Z S σ∧Rep F.K F.C Z d v∧WG F H Z (g d S) fun S' H' Z'=>∀ σ',StOk F H' Z' S' σ'→Q σ' H'
abbrev FG (X:Cx)(F:Fx)(tg:Expr)(g:D→SS→R SS):Prop:=PG X tg (tGd F g)
def gNm (i:Nat):D→SS→R SS:=fun d S=>.ok (S.set i (some (.val d)))
theorem _root_.L2.PG.weak {X:Cx}{tg:Expr}{t t':TG}(h:PG X tg t)(w:∀ v σ H Q,t' v σ H Q→t v σ H Q):PG X tg t':=fun pins s σ H v u Q I r q=>h pins s σ H v u Q I r (w v σ H Q q)
theorem av {X:Cx}{F:Fx}(i:Nat){x:Str}{pos:Pos}(hN:X.N.Nodup)(hi:X.N[i]?=some x:=by rfl)(hx:Loc X.env.scope x:=by first | exact Or.inl rfl | exact Or.inr rfl)(hf:X.fn x=true∨X.env.scope.names.lookup x=some .local:=by first | exact .inl rfl | exact .inr rfl) :
  FG X F (.Name x pos) (gNm i):=(iR hN hi hx hf).weak fun v σ H Q ⟨Z,S,d,ok,r,w⟩=>WG.now w ok.sub _ (ok.setVal r)
end FF
end
noncomputable section
namespace FF
open PySem PySem.Spec PyProof.Rows L2
def spF (K:PySem.W.Frag)(C:Nat→Addr)(n:Nat)(f:List D→R D):Sp:=fun vs H Q E =>
 vs.length=n∧∃ Z ds,Same Z H∧Reps K C Z ds vs∧WG ⟨K,C,H,Z,E⟩ H Z (f ds) fun d H' Z'=>∀ v,Rep K C Z' d v→Q v H'
def outD (o:O):R D:=match o with
 | .nx _=>.ok .non
 | .rt d=>.ok d
 | .er k=>.err k
 | _=>.stuck
def startS (n:Nat)(ds:List D):SS:=ds.map (fun d=>some (.val d))++List.replicate (n - ds.length) none
def fnD (n:Nat)(body:SS→O):List D→R D:=fun ds=>outD (body (startS n ds))
theorem m6 {F:Fx}{N:List Str}{ds:List D}{vs:List V}(z:Same F.Z0 F.H0)(r:Reps F.K F.C F.Z0 ds vs):StOk F F.H0 F.Z0 (startS N.length ds) (start N vs):=by
 have hl:=r.length
 have at_:∀ {i:Nat} {x:Option Sl},(startS N.length ds)[i]?=some x→(i < ds.length∧∃ d,ds[i]?=some d∧x=some (.val d))∨x=none:=fun {i x} e=>by
  unfold startS at e
  by_cases hi:i < ds.length
  ·rw[List.getElem?_append_left (by simpa using hi),List.getElem?_map]at e
   cases q:ds[i]? with
   | none=>rw[q]at e;cases e
   | some d=>rw[q]at e;cases e;exact .inl ⟨hi,d,rfl,rfl⟩
  ·rw[List.getElem?_append_right (by simpa using hi),List.getElem?_replicate]at e
   split at e
   ·cases e;exact .inr rfl
   ·cases e
 refine⟨Ex.refl z,?_,fun i d e=>?_,fun i j x y v w A B _ e1 _ _ _ o1 _=>?_⟩
 ·unfold startS L2.start
  simp[hl]
 ·rcases at_ e with ⟨hi,d',e1,e2⟩ | e2
  ·cases e2
   obtain⟨v,e3,rv⟩:=r.get e1
   refine⟨v,[],?_,⟨rfl,rv⟩,Priv.nil⟩
   unfold L2.start
   rw[List.getElem?_append_left (by simpa [← hl] using hi),List.getElem?_map,e3]
   rfl
  ·cases e2
 ·rcases at_ e1 with ⟨_,d',_,e2⟩ | e2
  ·cases e2;rw[o1.1];exact fun a ha=>nomatch ha
  ·cases e2
section
variable {P:Program}{w:World}{K:PySem.W.Frag}{mg:Str→Option Value}{base:Heap}
structure BX (X:Cx)(F:Fx)(k:Nat):Prop where
 room:Room k X.A
 K:X.K=F.K
 calm:X.calm=true
 pass:Passes (CXE X.prog X.w) X F.E
theorem zt {x qual:Str}{st:Stmt}{f:Addr}{fd:FuncData}{N ps:List Str}{k:Nat}{C:Nat→Addr}{body:SS→O}(F:Fun K x qual st f fd)(S:FnScope N ps (defScope st))
  (h:∀ (cdv:Value) (A:Around) (outer:List Env) (s:Shared) (H Z:Hp) (E:XK),BX (bodyX P w K mg base N qual (defScope st) f cdv A outer s H E) ⟨K,C,H,Z,E⟩ k →
   PassesOwn (model P w) (bodyX P w K mg base N qual (defScope st) f cdv A outer s H E).A (bodyX P w K mg base N qual (defScope st) f cdv A outer s H E).env (bodyX P w K mg base N qual (defScope st) f cdv A outer s H E).xe →
   FSs (bodyX P w K mg base N qual (defScope st) f cdv A outer s H E) ⟨K,C,H,Z,E⟩ (defBody st) body) :
  FnOk P w K mg base (CXE P w) (k+1) f fd ps (spF K C ps.length (fnD N.length body)):=by
 obtain⟨oc,od,kV,doc,pm,an,cdv,ct,osl,rfl,lk,hcd⟩:=F.ex
 refine xr lk hcd S (fun vs H Q E q=>q.1) fun A outer s H vs Q E hr hsp=>?_
 obtain⟨_,Z,ds,z,r,w⟩:=hsp
 refine⟨_,h cdv A outer s H Z E ⟨hr,rfl,rfl,kW⟩ PassesOwn.leaving,Z,startS N.length ds,m6 (F:=⟨K,C,H,Z,E⟩) (N:=N) z r,?_⟩
 unfold fnD at w
 cases e:body (startS N.length ds) with
 | nx S'=>rw[e]at w;exact fun σ' H' Z' _ ok=>w H' Z' ok.ex .non (by rw[Rep])
 | rt d=>rw[e]at w;exact fun v H' Z' x rv=>w H' Z' x v rv
 | er k=>rw[e]at w;exact w
 | bk S'=>rw[e]at w;exact w.elim
 | ct S'=>rw[e]at w;exact w.elim
 | stuck=>rw[e]at w;exact w
end
structure Fn1 (P:Program)(w:World)(K:PySem.W.Frag)(mg:Str→Option Value)(base:Heap)(C:Nat→Addr)(k:Nat)(x:Str)(ps:List Str)(f:List D→R D):Prop where
 ex:∃ a fd,FnOk P w K mg base (CXE P w) k a fd ps (spF K C ps.length f)∧mg x=some (.ref a)∧PySem.W.keepIn K (.ref a)=true∧Binds K fd ps []
def eCall (f:List D→R D)(gs:SS→R (List D)):SS→R D:=fun S=>(gs S).bind f
section
variable {X:Cx}{F:Fx}{x:Str}{p pos:Pos}{e:Expr}{es:List Expr}{gs:SS→R (List D)}{k:Nat}{ps:List Str}{f:List D→R D}
theorem t9 (n:Nat)(hn:∀ S ds,gs S=.ok ds→ds.length=n):∀ σ H Q,tE F (eCall f gs) σ H Q→tCall (spF F.K F.C n f) [] F.E (tAl F gs) σ H Q:=fun σ H Q ⟨Z,S,ok,w⟩=>by
 refine⟨Z,S,ok,?_⟩
 cases e:gs S with
 | err k=>unfold eCall at w;rw[e]at w;exact w
 | stuck=>unfold eCall at w;rw[e]at w;exact w
 | ok ds =>
  unfold eCall at w
  rw[e]at w
  intro H1 Z1 x1 vs rs
  have w1:=WG.more (r:=f ds) w x1
  refine⟨by rw[List.append_nil,← rs.length];exact hn S ds e,Z1,ds,x1.sub,by rw[List.append_nil];exact rs,?_⟩
  cases q:f ds with
  | ok d=>rw[q]at w1;exact w1
  | err k=>rw[q]at w1;exact w1
  | stuck=>rw[q]at w1;exact w1
theorem v6 (b:BX X F k)(h:Fn1 X.prog X.w F.K X.mg X.base F.C k x ps f)(hg:Gl X x)(ha:FA X F (e::es) gs)(hn:∀ S ds,gs S=.ok ds→ds.length=ps.length)(hdb:(x==("__debug__":Str))=false:=by decide)
  (he:starEach (e::es) X.env=(false,eval e X.env)::starEach es X.env:=by rfl) (hpl:(backTo pos (starEach es X.env)).any (·.1)=false:=by rfl):FE X F (.Call (.Name x p) (e::es) [] pos) (eCall f gs):=by
 obtain⟨a,fd,h1,h2,h3,h4⟩:=h.ex
 have hK:=b.K
 exact(vM (ds:=[]) (dvs:=[]) (E:=F.E) (by rw[hK];exact h1) b.room hg h2 (by rw[hK];exact h3) (by rw[hK];exact h4) .nil b.pass ha hdb he hpl).weak (t9 ps.length hn)
theorem rj {g:SS→R D}{gs:SS→R (List D)}{n:Nat}(h:∀ S ds,gs S=.ok ds→ds.length=n):∀ S ds,aCons g gs S=.ok ds→ds.length=n+1:=fun S ds e=>by
 unfold aCons at e
 cases q:g S with
 | err k=>rw[q]at e;cases e
 | stuck=>rw[q]at e;cases e
 | ok d =>
  rw[q]at e
  cases q2:gs S with
  | err k=>rw[R.bind_ok,q2]at e;cases e
  | stuck=>rw[R.bind_ok,q2]at e;cases e
  | ok r =>
   rw[R.bind_ok,q2]at e
   cases e
   simp[h S r q2]
end
def noErr {α:Type}(r:R α):R α:=match r with
 | .ok a=>.ok a
 | _=>.stuck
def blkS (own:Nat)(cap:List Nat)(S:SS):SS:=List.replicate own none++cap.map fun i=>match S[i]? with
 | some (some (.val d))=>some (.val d)
 | _=>none
def compGo (S:SS)(g:D→SS→R SS)(c:SS→R Bool)(e:SS→R D):List D→R (List D)
 | []=>.ok []
 | d::r=>(g d S).bind fun S1=>(c S1).bind fun t=>if t=true then (e S1).bind fun y=>(compGo S g c e r).bind fun ys=>.ok (y::ys) else compGo S g c e r
def eComp (own:Nat)(cap:List Nat)(it:SS→R (List D))(g:D→SS→R SS)(c:SS→R Bool)(e:SS→R D):SS→R D:=fun S=>(it S).bind fun ds=>(noErr (compGo (blkS own cap S) g c e ds)).bind fun ys=>.ok (.lst ys)
def tTrue:SS→R Bool:=fun _=>.ok true
abbrev noE (F:Fx):Fx:={ F with E:=fun _ _ _=>False }
def Own (own:Nat)(g:D→SS→R SS):Prop:=∀ d S S1,g d S=.ok S1→S1.length=S.length∧∀ i,own≤i→S1[i]?=S[i]?
theorem aA {X:Cx}{F:Fx}{k:Nat}(bx:BX X F k){scope:Scope}{cl:List (Str×Addr)}{C:Addr}{s:Shared}{H:Hp}{fp:List Addr}{N:List Str}:BX (blk X scope cl C s H fp N) (noE F) k :=
 ⟨bx.room,bx.K,rfl,fun pins σ H s e s' _ h=>by
  obtain⟨_,_,_,_,_,_,_,_,_,_,_,_,_,hE⟩:=h
  exact hE.elim⟩
theorem bc {own i:Nat}(h:i < own):Own own (gNm i):=fun d S S1 e=>by
 cases e
 exact⟨by simp,fun j hj=>List.getElem?_set_ne (by omega)⟩
theorem StOk.forget {F:Fx}{H Z:Hp}{S S0:SS}{σ:St}(h:StOk F H Z S σ)(hl:S0.length=S.length)(hs:∀ (i:Nat) (x:Sl),S0[i]?=some (some x)→S[i]?=some (some x)):StOk F H Z S0 σ :=
 ⟨h.ex,hl.trans h.len,fun i x e=>h.sl i x (hs i _ e),fun i j x y v w A B hij e1 e2=>h.dj i j x y v w A B hij (hs i _ e1) (hs j _ e2)⟩
theorem fP {own:Nat}{cap:List Nat}{S:SS}{i:Nat}{x:Sl}(e:(blkS own cap S)[i]?=some (some x)):own≤i∧∃ k d,cap[i - own]?=some k∧S[k]?=some (some (.val d))∧x=.val d:=by
 unfold blkS at e
 by_cases hi:i < own
 ·rw[List.getElem?_append_left (by simpa using hi),List.getElem?_replicate]at e
  split at e<;>cases e
 ·rw[List.getElem?_append_right (by simpa using hi),List.length_replicate,List.getElem?_map]at e
  cases q:cap[i - own]? with
  | none=>rw[q]at e;cases e
  | some k =>
   rw[q]at e
   simp only[Option.map_some,Option.some.injEq]at e
   split at e
   ·rename_i d q2
    cases e
    exact⟨by omega,k,d,rfl,q2,rfl⟩
   ·cases e
theorem rk {F:Fx}{H Z:Hp}{S:SS}{σ:St}{own:Nat}{cap:List Nat}{D:Addr}(ok:StOk F H Z S σ)(hD:H D=none):StOk (noE F) (upd H D (.lst [])) Z (blkS own cap S) (startB own cap σ):=by
 refine⟨ok.ex.trans (Ex.hidden ok.sub hD),by simp[blkS,startB],fun i x e=>?_,fun i j x y v w A B _ e1 _ _ _ o1 _=>?_⟩
 ·obtain⟨hi,k,d',q1,q2,q3⟩:=fP e
  cases q3
  obtain⟨v,e1,r⟩:=ok.val k d' q2
  refine⟨v,[],?_,⟨rfl,r⟩,Priv.nil⟩
  unfold startB
  rw[List.getElem?_append_right (by simpa using hi),List.length_replicate,List.getElem?_map,q1]
  simp[e1]
 ·obtain⟨_,_,_,_,_,q⟩:=fP e1
  cases q
  rw[o1.1];exact fun a ha=>nomatch ha
section
variable {X:Cx}{F:Fx}{tg iter elt:Expr}{ifs:List Expr}{scope:Scope}{N:List Str}{own:Nat}{cap:List Nat}{pos:Pos}{git:SS→R (List D)}{g:D→SS→R SS}{gc:SS→R Bool}{ge:SS→R D}
theorem oV {σ:St}{H Z:Hp}{S:SS}{ifs:List Expr}{P:D→Hp→Hp→Prop}{Q:Addr→Hp→Prop}(hgc:ifs=[]→gc=tTrue)(hgo:Own own g)(ok:StOk F H Z S σ)(w:WG F H Z (eComp own cap git g gc ge S) P)
  (hP:∀ D ys ds H1 Z1 H' Z',Ex H Z H1 Z1→H1 D=none→Ex H1 Z1 H' Z'→Z' D=none→(∀ H'' Z'',Ex H1 Z1 H'' Z''→P (.lst ds) H'' Z'')→H' D=some (.lst ys)→Reps F.K F.C Z' ds ys→Q D H') :
  tI F git σ H fun J H1=>∀ D,H1 D=none→∃ W,BlkW sizeLine J (tGd (noE F) g) (tTests ifs (tT (noE F) gc)) (tE (noE F) ge) D (fun H' _=>Q D H') W∧∃ m,W 0 m (startB own cap σ) (upd H1 D (.lst [])) []:=by
 refine⟨Z,S,ok,?_⟩
 unfold eComp at w
 cases e:git S with
 | err k=>rw[e]at w;exact w
 | stuck=>rw[e]at w;exact w
 | ok ds =>
  rw[e]at w
  intro H1 Z1 x1 J wk hlen D hD
  have w1:=WG.more (r:=(noErr (compGo (blkS own cap S) g gc ge ds)).bind fun ys=>R.ok (FF.D.lst ys)) w x1
  have ok1:=ok.more x1
  have hS:=sizeLine_eq
  refine⟨fun i m σ' H' ys=>m=ds.length - i∧i≤ds.length∧H' D=some (.lst ys)∧ys.length≤i∧∃ Z' acc,Ex H1 Z1 H' Z'∧Z' D=none∧Reps F.K F.C Z' acc ys∧StOk (noE F) H' Z' (blkS own cap S) σ' ∧
   WG F H1 Z1 ((noErr (compGo (blkS own cap S) g gc ge (ds.drop i))).bind fun zs=>R.ok (FF.D.lst (acc++zs))) P,?_,ds.length,rfl,Nat.zero_le _,ar,Nat.le_refl _,Z1,[],Ex.hidden ok1.sub hD,ok1.sub.free hD,Reps.nil,rk ok1 hD,w1⟩
  rintro i m σ2 H2 ys ⟨rfl,hle,hDy,hyl,Z2,acc,x2,hZD,ra,ok2,w2⟩
  refine⟨hDy,?_⟩
  obtain⟨k1,k2⟩:=wk i H2 Z2 x2.z x2.sub
  by_cases hlt:i < ds.length
  ·obtain⟨go,y⟩:=k1 hlt
   refine .inr ⟨go,fun x H' hy=>?_⟩
   obtain⟨Z2',d,x',e3,rd⟩:=y x H' hy
   have ok2:=ok2.more x'
   have hZD:Z2' D=none:=by
    cases r:Z2' D with
    | none=>rfl
    | some o =>
     rcases x'.new D (by rw[r];simp) with z | z
     ·exact absurd hZD z
     ·rw[hDy]at z;cases z
   have hDy:=x'.same _ _ hDy
   have x2:=x2.trans x'
   have ra:=ra.mono x'.z
   have hd:ds.drop i=d::ds.drop (i+1):=by
    obtain⟨hi,e4⟩:=List.getElem?_eq_some_iff.mp e3
    rw[List.drop_eq_getElem_cons hi,e4]
   rw[hd]at w2
   unfold compGo at w2
   refine⟨Z2',blkS own cap S,d,ok2,rd,?_⟩
   cases qg:g d (blkS own cap S) with
   | err k=>rw[qg]at w2;exact w2.elim
   | stuck=>rw[qg]at w2;exact w2.elim
   | ok S1 =>
    rw[qg,R.bind_ok]at w2
    intro H3 Z3 x3 σ3 ok3
    obtain⟨gl,gk⟩:=hgo _ _ _ qg
    have back:∀ {H Z:Hp},StOk (noE F) H Z S1 σ3→StOk (noE F) H Z (blkS own cap S) σ3:=fun h=>h.forget gl.symm fun j z q=>by
     rw[gk j (fP q).1];exact q
    have hD3:H3 D=some (.lst ys):=x3.same _ _ hDy
    have x13:=x2.trans x3
    have zD:∀ {H Z:Hp},Ex H1 Z1 H Z→Ex H' Z2' H Z→Z D=none:=fun {H Z} _ q=>by
     cases r:Z D with
     | none=>rfl
     | some o =>
      rcases q.new D (by rw[r];simp) with z | z
      ·exact absurd hZD z
      ·rw[hDy]at z;cases z
    have fin:∀ (t:Bool) (H4 Z4:Hp),Ex H' Z2' H4 Z4→StOk (noE F) H4 Z4 S1 σ3→gc S1=.ok t→if t=true then tE (noE F) ge σ3 H4 fun y H5=>H5 D=some (.lst ys)∧ys.length < sizeLine∧∃ m',m' < ds.length - i∧(m'=ds.length - (i+1)∧i+1≤ds.length∧(upd H5 D (.lst (ys++[y]))) D=some (.lst (ys++[y]))∧(ys++[y]).length≤i+1∧∃ Z' acc,Ex H1 Z1 (upd H5 D (.lst (ys++[y]))) Z'∧Z' D=none∧Reps F.K F.C Z' acc (ys++[y])∧StOk (noE F) (upd H5 D (.lst (ys++[y]))) Z' (blkS own cap S) σ3 ∧
      WG F H1 Z1 ((noErr (compGo (blkS own cap S) g gc ge (ds.drop (i+1)))).bind fun zs=>R.ok (FF.D.lst (acc++zs))) P)
      else ∃ m',m' < ds.length - i∧(m'=ds.length - (i+1)∧i+1≤ds.length∧H4 D=some (.lst ys)∧ys.length≤i+1∧∃ Z' acc,Ex H1 Z1 H4 Z'∧Z' D=none∧Reps F.K F.C Z' acc ys∧StOk (noE F) H4 Z' (blkS own cap S) σ3 ∧
      WG F H1 Z1 ((noErr (compGo (blkS own cap S) g gc ge (ds.drop (i+1)))).bind fun zs=>R.ok (FF.D.lst (acc++zs))) P):=by
     intro t H4 Z4 x4 ok4 qc
     rw[qc,R.bind_ok]at w2
     cases t with
     | false =>
      rw[if_neg Bool.false_ne_true]at w2 ⊢
      exact⟨ds.length - (i+1),by omega,rfl,hlt,x4.same _ _ hDy,by omega,Z4,acc,x2.trans x4,zD (x2.trans x4) x4,ra.mono x4.z,back ok4,w2⟩
     | true =>
      rw[if_pos rfl]at w2 ⊢
      refine⟨Z4,S1,ok4,?_⟩
      cases qe:ge S1 with
      | err k=>rw[qe]at w2;exact w2.elim
      | stuck=>rw[qe]at w2;exact w2.elim
      | ok yd =>
       rw[qe,R.bind_ok]at w2
       intro H5 Z5 x5 yv ry
       have hD5:H5 D=some (.lst ys):=x5.same _ _ (x4.same _ _ hDy)
       have x25:=x4.trans x5
       have z5:=zD (x2.trans x25) x25
       have ok5:=ok4.more x5
       have n0:F.H0 D=none:=ok1.ex.same.free hD
       have xu:Ex H1 Z1 (upd H5 D (.lst (ys++[yv]))) Z5:=by
        have q:=x2.trans x25
        refine⟨fun b o e=>?_,q.z,fun b o e=>?_,q.new⟩
        ·rw[ap (fun z=>by subst z;rw[hD]at e;cases e)];exact q.same b o e
        ·rw[ap (fun z=>by subst z;rw[z5]at e;cases e)];exact q.sub b o e
       refine⟨hD5,by omega,ds.length - (i+1),by omega,rfl,hlt,ar,by simp;omega,Z5,acc++[yd],xu,z5,(ra.mono x25.z).append (Reps.cons ry Reps.nil),?_,?_⟩
       ·have q:=back ok5
        refine⟨⟨fun b o e=>?_,q.ex.z,fun b o e=>?_,q.ex.new⟩,q.len,fun j x e=>?_,fun j k x y v w A B _ e1 _ _ _ o1 _=>?_⟩
        ·rw[ap (fun z=>by subst z;have e':F.H0 b=some o:=e;rw[n0]at e';cases e')];exact q.ex.same b o e
        ·rw[ap (fun z=>by subst z;rw[z5]at e;cases e)];exact q.ex.sub b o e
        ·obtain⟨_,_,_,_,_,z⟩:=fP e
         cases z
         obtain⟨v,e1,r⟩:=q.val j _ e
         exact⟨v,[],e1,⟨rfl,r⟩,Priv.nil⟩
        ·obtain⟨_,_,_,_,_,z⟩:=fP e1
         cases z
         rw[o1.1];exact fun a ha=>nomatch ha
       ·cases qr:compGo (blkS own cap S) g gc ge (ds.drop (i+1)) with
        | err k=>rw[qr]at w2;exact w2.elim
        | stuck=>rw[qr]at w2;exact w2.elim
        | ok zs=>rw[qr]at w2;simpa [noErr,List.append_assoc] using w2
    cases qc:gc S1 with
    | err k=>rw[qc]at w2;exact w2.elim
    | stuck=>rw[qc]at w2;exact w2.elim
    | ok t =>
     cases ifs with
     | nil =>
      have:=hgc rfl
      subst this
      cases qc
      exact fin true H3 Z3 x3 ok3 rfl
     | cons c r =>
      refine⟨Z3,S1,ok3,?_⟩
      rw[qc]
      intro H4 Z4 x4
      exact fin t H4 Z4 (x3.trans x4) (ok3.more x4) qc
  ·have ei:i=ds.length:=by omega
   refine .inl ⟨k2 (by omega),?_⟩
   rw[List.drop_eq_nil_of_le (by omega)]at w2
   have w3:WG F H1 Z1 (R.ok (FF.D.lst (acc++[]))) P:=w2
   rw[List.append_nil]at w3
   exact hP D ys acc H1 Z1 H2 Z2 x1 hD x2 hZD w3 hDy ra
theorem kX {σ:St}{H Z:Hp}{S:SS}{ifs:List Expr}{P:D→Hp→Hp→Prop}{Q:Addr→Hp→Prop}(hgc:ifs=[]→gc=tTrue)(hgo:Own own g)(ok:StOk F H Z S σ)(w:WG F H Z (eComp own cap git g gc ge S) P)(hP:∀ D ys ds H' Z',Ex H Z H' Z'→P (.lst ds) H' Z'→H' D=some (.lst ys)→Z' D=some (.lst ys)→Reps F.K F.C Z' ds ys→Q D H') :
  tI F git σ H fun J H1=>∀ D,H1 D=none→∃ W,BlkW sizeLine J (tGd (noE F) g) (tTests ifs (tT (noE F) gc)) (tE (noE F) ge) D (fun H' _=>Q D H') W∧∃ m,W 0 m (startB own cap σ) (upd H1 D (.lst [])) [] :=
 oV hgc hgo ok w fun D ys ds H1 Z1 H2 Z2 x1 hD x2 hZD w3 hDy ra=>by
  have hz:Same Z2 (upd Z2 D (.lst ys)):=aC hZD
  have xf:Ex H1 Z1 H2 (upd Z2 D (.lst ys)):=by
   refine⟨x2.same,x2.z.trans hz,fun b o e=>?_,fun b hb=>?_⟩
   ·by_cases q:b=D
    ·subst q;rw[ar]at e;cases e;exact hDy
    ·rw[ap q]at e;exact x2.sub b o e
   ·by_cases q:b=D
    ·subst q;exact .inr hD
    ·rw[ap q]at hb;exact x2.new b hb
  exact hP D ys ds H2 _ (x1.trans xf) (w3 H2 _ xf) hDy ar (ra.mono hz)
theorem aQ {k:Nat}(bx:BX X F k)(b:BlkOk X.N X.env.scope scope N own cap)(hi:FI X F tg iter git)(hgo:Own own g)
  (hg:∀ cl C s H fp,FG (blk X scope cl C s H fp N) (noE F) tg g) (he:∀ cl C s H fp,FE (blk X scope cl C s H fp N) (noE F) elt ge)
  (hs:∀ x,foldedSetIterable iter X.env x=pure x:=by intro _;rfl):FE X F (.ListComp elt [⟨tg,iter,[],0⟩] scope pos) (eComp own cap git g tTrue ge) :=
 (pY (ifs:=[]) (tc:=tT (noE F) tTrue) b bx.calm (by simp) hi hg (fun c q=>nomatch q) he hs).weak fun σ H Q ⟨Z,S,ok,w⟩ =>
  kX (fun _=>rfl) hgo ok w fun D ys ds H' Z' _ p h1 h2 r=>p _ (by rw[Rep];exact⟨D,ys,rfl,SqL.of h2,r⟩)
theorem kY {k:Nat}{c:Expr}(bx:BX X F k)(b:BlkOk X.N X.env.scope scope N own cap)(hi:FI X F tg iter git)(hgo:Own own g)
  (hg:∀ cl C s H fp,FG (blk X scope cl C s H fp N) (noE F) tg g) (ht:∀ cl C s H fp,FT (blk X scope cl C s H fp N) (noE F) c gc) (he:∀ cl C s H fp,FE (blk X scope cl C s H fp N) (noE F) elt ge)
  (hs:∀ x,foldedSetIterable iter X.env x=pure x:=by intro _;rfl):FE X F (.ListComp elt [⟨tg,iter,[c],0⟩] scope pos) (eComp own cap git g gc ge) :=
 (pY (ifs:=[c]) b bx.calm (by simp) hi hg (fun c' q=>by cases q;exact ht) he hs).weak fun σ H Q ⟨Z,S,ok,w⟩ =>
  kX (fun q=>nomatch q) hgo ok w fun D ys ds H' Z' _ p h1 h2 r=>p _ (by rw[Rep];exact⟨D,ys,rfl,SqL.of h2,r⟩)
end
end FF
end
noncomputable section
namespace FF
open PySem PySem.Spec PyProof.Rows L2
def dAdd (x y:D):R D:=if isInt x=true then dI0 (fun i j=>.int (i+j)) x y else if isTup x=true then dCatT x y else dCatL x y
def dSub:D→D→R D:=dI0 fun i j=>.int (i - j)
def dMul (x y:D):R D:=if isInt x=true then dI cMul (fun i j=>.int (i*j)) x y else if isTup x=true then dRepT x y else dRepL x y
def dDiv:D→D→R D:=dI cDiv fun i j=>.int (i/j)
def dMod:D→D→R D:=dI (fun _ j=>decide (0 < j)) fun i j=>.int (i%j)
def dLt:D→D→R D:=dI0 fun i j=>.bl (decide (i < j))
def dLe:D→D→R D:=dI0 fun i j=>.bl (decide (i≤j))
def dGt:D→D→R D:=dI0 fun i j=>.bl (decide (j < i))
def dGe:D→D→R D:=dI0 fun i j=>.bl (decide (j≤i))
theorem aE {K:PySem.W.Frag}{C:Nat→Addr}{Z:Hp}{i:Int}:Rep K C Z (.int i) (.int i):=by rw[Rep]
theorem aY {K:PySem.W.Frag}{C:Nat→Addr}{Z:Hp}{i:Bool}:Rep K C Z (.bl i) (.bl i):=by rw[Rep]
section
variable {X:Cx}{F:Fx}{a b c:Expr}{ga gb gc:SS→R D}{pos:Pos}
theorem c9 (ha:FE X F a ga)(hb:FE X F b gb):FE X F (.BinOp a .Sub b pos) (eOp dSub ga gb):=mV xZ (c8 fun _ _ _=>aE) ha hb
theorem fj (ha:FE X F a ga)(hb:FE X F b gb):FE X F (.BinOp a .FloorDiv b pos) (eOp dDiv ga gb):=mV vI (tY vV fun _ _ _=>aE) ha hb
theorem dR (ha:FE X F a ga)(hb:FE X F b gb):FE X F (.BinOp a .Mod b pos) (eOp dMod ga gb):=mV yb (tY (fun i j h=>of_decide_eq_true h) fun _ _ _=>aE) ha hb
theorem xv (ha:FE X F a ga)(hb:FE X F b gb):FT X F (.Compare a [.Lt] [b] pos) (gB (eOp dLt ga gb)):=dO xp (c8 fun _ _ _=>aY) ha hb
theorem xw (ha:FE X F a ga)(hb:FE X F b gb):FT X F (.Compare a [.Gt] [b] pos) (gB (eOp dGt ga gb)):=dO y3 (c8 fun _ _ _=>aY) ha hb
theorem xy (ha:FE X F a ga)(hb:FE X F b gb):FT X F (.Compare a [.GtE] [b] pos) (gB (eOp dGe ga gb)):=dO y4 (c8 fun _ _ _=>aY) ha hb
theorem ah (hK:X.K=F.K)(ha:FE X F a ga)(hb:FE X F b gb)(hs:PlainIx b:=by intro _ _;rfl):FE X F (.Subscript a b pos) (eOp dIx ga gb):=y8 yj (by rw[hK];exact yp) ha hb hs
theorem v7:OpR X (binaryOp .Add) (fun x y H Q=>rI0 (fun i j=>.int (i+j)) x y H Q∨(rCat2 X.K x y H Q∨∃ a b xs ys,x=.ref a∧y=.ref b∧SqL X.K H a xs∧SqL X.K H b ys∧xs.length+ys.length≤sizeLine∧∀ p,H p=none→Q (.ref p) (upd H p (.lst (xs++ys))))) :=
 xY.or (vW.or t5)
theorem aB (hK:X.K=F.K)(ha:FE X F a ga)(hb:FE X F b gb):FE X F (.BinOp a .Add b pos) (eOp dAdd ga gb) :=
 mV v7 (by rw[hK];exact OpD.or (fun x _=>isInt x) (c8 fun _ _ _=>aE) (OpD.or (fun x _=>isTup x) tZ t4)) ha hb
theorem cn (hK:X.K=F.K)(ha:FE X F a ga)(hb:FE X F b gb):FE X F (.BinOp a .Mult b pos) (eOp dMul ga gb) :=
 mV (ya.or (vX.or vY)) (by rw[hK];exact OpD.or (fun x _=>isInt x) (tY vU fun _ _ _=>aE) (OpD.or (fun x _=>isTup x) t3 t6)) ha hb
end
theorem yr {X:Cx}{pins:List (Addr×Obj)}{σ:St}{H Z:Hp}{s:Shared}{K:PySem.W.Frag}{C:Nat→Addr}(hK:X.K=K)(I:Inv X pins σ H s)(z:Same Z H)(n:Nat)(A:Around)(d e:D)(v u:V)(x y:Value)(g1:good n d=true)(g2:good n e=true)
  (h:Rep K C Z d v) (h':Rep K C Z e u) (rx:RelV v x) (ry:RelV u y) (hu:A.units+n < cLine):SeqAt.RcAt A s x y (eqD d e):=by
 have hu0:A.units < cLine:=by omega
 cases d with
 | exc k=>cases n<;>simp[good]at g1
 | fn k=>cases n<;>simp[good]at g1
 | tup ds =>
  cases n with
  | zero=>simp[good]at g1
  | succ n =>
   have in1:A.in1.units+n < cLine:=by show A.units+1+n < cLine;omega
   rw[Rep]at h
   obtain⟨a,vs,rfl,h1,h2⟩:=h
   cases rx
   obtain⟨its,r,p,_⟩:=I.tuple (by rw[hK];exact h1.mono z:SqT X.K H a vs)
   have p':s.heap.IsTuple a its.toArray:=p
   cases e with
   | tup es =>
    rw[Rep]at h'
    obtain⟨b,us,rfl,k1,k2⟩:=h'
    cases ry
    obtain⟨its2,r2,p2,_⟩:=I.tuple (by rw[hK];exact k1.mono z:SqT X.K H b us)
    have p2':s.heap.IsTuple b its2.toArray:=p2
    rw[good]at g1 g2
    have q:=SeqAt.RcAt.tuples (A:=A) (e:=fun j=>eqD (ds.getD j .non) (es.getD j .non)) p' p2' hu0 fun j j1 j2=>by
     have j1':j < its.length:=by simpa using j1
     have j2':j < its2.length:=by simpa using j2
     have l1:j < ds.length:=by rw[h2.length,r.length];exact j1'
     have l2:j < es.length:=by rw[k2.length,r2.length];exact j2'
     have e1:ds[j]?=some ds[j]:=by simp
     have e2:es[j]?=some es[j]:=by simp
     obtain⟨w1,f1,f2⟩:=h2.get e1
     obtain⟨w2,f3,f4⟩:=k2.get e2
     obtain⟨z1,m1,m2⟩:=r.get f1
     obtain⟨z2,m3,m4⟩:=r2.get f3
     have n1:its.toArray[j]=z1:=by simpa [j1'] using m1
     have n2:its2.toArray[j]=z2:=by simpa [j2'] using m3
     rw[n1,n2]
     have g3:ds.getD j .non=ds[j]:=by simp[l1]
     have g4:es.getD j .non=es[j]:=by simp[l2]
     rw[g3,g4]
     exact fi hK I z n A.in1 _ _ w1 w2 z1 z2 (aM g1 e1) (aM g2 e2) f2 f4 m2 m4 in1
    rw[eqD,cm]
    have s1:its.toArray.size=ds.length:=by rw[List.size_toArray,h2.length,r.length]
    have s2:its2.toArray.size=es.length:=by rw[List.size_toArray,k2.length,r2.length]
    rw[s1,s2]at q
    exact q
   | lst es =>
    rw[Rep]at h'
    obtain⟨b,us,rfl,k1,k2⟩:=h'
    cases ry
    obtain⟨its2,r2,p2,_⟩:=I.list (by rw[hK];exact z.seq k1:SqL X.K H b us)
    simp only[eqD]
    exact SeqAt.RcAt.tuple_list p' p2.isList hu0
   | exc k=>simp[good]at g2
   | fn k=>simp[good]at g2
   | non=>rw[Rep]at h';subst h';cases ry;simp only[eqD];exact SeqAt.RcAt.tuple_none p' hu0
   | bl b=>rw[Rep]at h';subst h';cases ry;simp only[eqD];exact SeqAt.RcAt.tuple_bool _ p' hu0
   | int b=>rw[Rep]at h';subst h';obtain⟨t,rfl⟩:=ry;simp only[eqD];exact SeqAt.RcAt.tuple_int _ _ p' hu0
   | str b=>rw[Rep]at h';subst h';obtain⟨t,rfl⟩:=ry;simp only[eqD];exact SeqAt.RcAt.tuple_str _ _ p' hu0
 | lst ds =>
  cases n with
  | zero=>simp[good]at g1
  | succ n =>
   have in1:A.in1.units+n < cLine:=by show A.units+1+n < cLine;omega
   rw[Rep]at h
   obtain⟨a,vs,rfl,h1,h2⟩:=h
   cases rx
   obtain⟨its,r,p,_⟩:=I.list (by rw[hK];exact z.seq h1:SqL X.K H a vs)
   have p':=p.isList
   cases e with
   | lst es =>
    rw[Rep]at h'
    obtain⟨b,us,rfl,k1,k2⟩:=h'
    cases ry
    obtain⟨its2,r2,p2,_⟩:=I.list (by rw[hK];exact z.seq k1:SqL X.K H b us)
    have p2':=p2.isList
    rw[good]at g1 g2
    have s1:its.toArray.size=ds.length:=by rw[List.size_toArray,h2.length,r.length]
    have s2:its2.toArray.size=es.length:=by rw[List.size_toArray,k2.length,r2.length]
    rw[eqD,cm]
    by_cases hsz:ds.length=es.length
    ·have q:=SeqAt.RcAt.lists (A:=A) (e:=fun j=>eqD (ds.getD j .non) (es.getD j .non)) p' p2' (by rw[s1,s2];exact hsz) hu0 fun j j1 j2=>by
      have j1':j < its.length:=by simpa using j1
      have j2':j < its2.length:=by simpa using j2
      have l1:j < ds.length:=by rw[h2.length,r.length];exact j1'
      have l2:j < es.length:=by rw[k2.length,r2.length];exact j2'
      have e1:ds[j]?=some ds[j]:=by simp
      have e2:es[j]?=some es[j]:=by simp
      obtain⟨w1,f1,f2⟩:=h2.get e1
      obtain⟨w2,f3,f4⟩:=k2.get e2
      obtain⟨z1,m1,m2⟩:=r.get f1
      obtain⟨z2,m3,m4⟩:=r2.get f3
      have n1:its.toArray[j]=z1:=by simpa [j1'] using m1
      have n2:its2.toArray[j]=z2:=by simpa [j2'] using m3
      rw[n1,n2]
      have g3:ds.getD j .non=ds[j]:=by simp[l1]
      have g4:es.getD j .non=es[j]:=by simp[l2]
      rw[g3,g4]
      exact fi hK I z n A.in1 _ _ w1 w2 z1 z2 (aM g1 e1) (aM g2 e2) f2 f4 m2 m4 in1
     rw[s1]at q
     rw[hsz,Nat.min_self,beq_self_eq_true,Bool.and_true,← hsz]
     exact q
    ·have q:=SeqAt.RcAt.lists_lengths (A:=A) p' p2' (by rw[s1,s2];simpa using hsz) hu0
     rw[show (ds.length==es.length)=false by simpa using hsz,Bool.and_false]
     exact q
   | tup es =>
    rw[Rep]at h'
    obtain⟨b,us,rfl,k1,k2⟩:=h'
    cases ry
    obtain⟨its2,r2,p2,_⟩:=I.tuple (by rw[hK];exact k1.mono z:SqT X.K H b us)
    simp only[eqD]
    exact SeqAt.RcAt.list_tuple p' (show s.heap.IsTuple b its2.toArray from p2) hu0
   | exc k=>simp[good]at g2
   | fn k=>simp[good]at g2
   | non=>rw[Rep]at h';subst h';cases ry;simp only[eqD];exact SeqAt.RcAt.list_none p' hu0
   | bl b=>rw[Rep]at h';subst h';cases ry;simp only[eqD];exact SeqAt.RcAt.list_bool _ p' hu0
   | int b=>rw[Rep]at h';subst h';obtain⟨t,rfl⟩:=ry;simp only[eqD];exact SeqAt.RcAt.list_int _ _ p' hu0
   | str b=>rw[Rep]at h';subst h';obtain⟨t,rfl⟩:=ry;simp only[eqD];exact SeqAt.RcAt.list_str _ _ p' hu0
 | non =>
  rw[Rep]at h;subst h;cases rx
  cases e with
  | tup es =>
   rw[Rep]at h'
   obtain⟨b,us,rfl,k1,k2⟩:=h'
   cases ry
   obtain⟨its2,r2,p2,_⟩:=I.tuple (by rw[hK];exact k1.mono z:SqT X.K H b us)
   simp only[eqD];exact SeqAt.RcAt.none_tuple (show s.heap.IsTuple b its2.toArray from p2) hu0
  | lst es =>
   rw[Rep]at h'
   obtain⟨b,us,rfl,k1,k2⟩:=h'
   cases ry
   obtain⟨its2,r2,p2,_⟩:=I.list (by rw[hK];exact z.seq k1:SqL X.K H b us)
   simp only[eqD];exact SeqAt.RcAt.none_list p2.isList hu0
  | exc k=>cases n<;>simp[good]at g2
  | fn k=>cases n<;>simp[good]at g2
  | non=>rw[Rep]at h';subst h';cases ry;simp only[eqD];exact SeqAt.RcAt.none_none
  | bl b=>rw[Rep]at h';subst h';cases ry;simp only[eqD];exact SeqAt.RcAt.none_bool _
  | int b=>rw[Rep]at h';subst h';obtain⟨t,rfl⟩:=ry;simp only[eqD];exact SeqAt.RcAt.none_int _ _
  | str b=>rw[Rep]at h';subst h';obtain⟨t,rfl⟩:=ry;simp only[eqD];exact SeqAt.RcAt.none_str _ _
 | bl a =>
  rw[Rep]at h;subst h;cases rx
  cases e with
  | tup es =>
   rw[Rep]at h'
   obtain⟨b,us,rfl,k1,k2⟩:=h'
   cases ry
   obtain⟨its2,r2,p2,_⟩:=I.tuple (by rw[hK];exact k1.mono z:SqT X.K H b us)
   simp only[eqD];exact SeqAt.RcAt.bool_tuple _ (show s.heap.IsTuple b its2.toArray from p2) hu0
  | lst es =>
   rw[Rep]at h'
   obtain⟨b,us,rfl,k1,k2⟩:=h'
   cases ry
   obtain⟨its2,r2,p2,_⟩:=I.list (by rw[hK];exact z.seq k1:SqL X.K H b us)
   simp only[eqD];exact SeqAt.RcAt.bool_list _ p2.isList hu0
  | exc k=>cases n<;>simp[good]at g2
  | fn k=>cases n<;>simp[good]at g2
  | non=>rw[Rep]at h';subst h';cases ry;simp only[eqD];exact SeqAt.RcAt.bool_none _
  | bl b=>rw[Rep]at h';subst h';cases ry;simp only[eqD];exact SeqAt.RcAt.bool_bool _ _
  | int b=>rw[Rep]at h';subst h';obtain⟨t,rfl⟩:=ry;simp only[eqD];exact SeqAt.RcAt.bool_int _ _ _
  | str b=>rw[Rep]at h';subst h';obtain⟨t,rfl⟩:=ry;simp only[eqD];exact SeqAt.RcAt.bool_str _ _ _
 | int a =>
  rw[Rep]at h;subst h;obtain⟨t0,rfl⟩:=rx
  cases e with
  | tup es =>
   rw[Rep]at h'
   obtain⟨b,us,rfl,k1,k2⟩:=h'
   cases ry
   obtain⟨its2,r2,p2,_⟩:=I.tuple (by rw[hK];exact k1.mono z:SqT X.K H b us)
   simp only[eqD];exact SeqAt.RcAt.int_tuple _ _ (show s.heap.IsTuple b its2.toArray from p2) hu0
  | lst es =>
   rw[Rep]at h'
   obtain⟨b,us,rfl,k1,k2⟩:=h'
   cases ry
   obtain⟨its2,r2,p2,_⟩:=I.list (by rw[hK];exact z.seq k1:SqL X.K H b us)
   simp only[eqD];exact SeqAt.RcAt.int_list _ _ p2.isList hu0
  | exc k=>cases n<;>simp[good]at g2
  | fn k=>cases n<;>simp[good]at g2
  | non=>rw[Rep]at h';subst h';cases ry;simp only[eqD];exact SeqAt.RcAt.int_none _ _
  | bl b=>rw[Rep]at h';subst h';cases ry;simp only[eqD];exact SeqAt.RcAt.int_bool _ _ _
  | int b=>rw[Rep]at h';subst h';obtain⟨t,rfl⟩:=ry;simp only[eqD];exact SeqAt.RcAt.int_int _ _ _ _
  | str b=>rw[Rep]at h';subst h';obtain⟨t,rfl⟩:=ry;simp only[eqD];exact SeqAt.RcAt.int_str _ _ _ _
 | str a =>
  rw[Rep]at h;subst h;obtain⟨t0,rfl⟩:=rx
  cases e with
  | tup es =>
   rw[Rep]at h'
   obtain⟨b,us,rfl,k1,k2⟩:=h'
   cases ry
   obtain⟨its2,r2,p2,_⟩:=I.tuple (by rw[hK];exact k1.mono z:SqT X.K H b us)
   simp only[eqD];exact SeqAt.RcAt.str_tuple _ _ (show s.heap.IsTuple b its2.toArray from p2) hu0
  | lst es =>
   rw[Rep]at h'
   obtain⟨b,us,rfl,k1,k2⟩:=h'
   cases ry
   obtain⟨its2,r2,p2,_⟩:=I.list (by rw[hK];exact z.seq k1:SqL X.K H b us)
   simp only[eqD];exact SeqAt.RcAt.str_list _ _ p2.isList hu0
  | exc k=>cases n<;>simp[good]at g2
  | fn k=>cases n<;>simp[good]at g2
  | non=>rw[Rep]at h';subst h';cases ry;simp only[eqD];exact SeqAt.RcAt.str_none _ _
  | bl b=>rw[Rep]at h';subst h';cases ry;simp only[eqD];exact SeqAt.RcAt.str_bool _ _ _
  | int b=>rw[Rep]at h';subst h';obtain⟨t,rfl⟩:=ry;simp only[eqD];exact SeqAt.RcAt.str_int _ _ _ _
  | str b=>rw[Rep]at h';subst h';obtain⟨t,rfl⟩:=ry;simp only[eqD];exact SeqAt.RcAt.str_str _ _ _ _
def dEq (x y:D):R D:=if good 60 x=true∧good 60 y=true then .ok (.bl (eqD x y)) else .stuck
def rEqD (K:PySem.W.Frag)(C:Nat→Addr):R2:=fun x y H Q=>∃ Z d e,Same Z H∧Rep K C Z d x∧Rep K C Z e y∧good 60 d=true∧good 60 e=true∧Q (.bl (eqD d e)) H
section
variable {X:Cx}{F:Fx}{a b c:Expr}{ga gb gc:SS→R D}{pos:Pos}{k:Nat}
theorem ua (hK:X.K=F.K)(hr:Room k X.A):OpR X (compareOp .Eq) (rEqD F.K F.C):=by
 intro pins s σ H x y v u Q I rx ry h
 obtain⟨Z,d,e,z,h1,h2,g1,g2,q⟩:=h
 have hu:X.A.units+60 < cLine:=by have:=hr.un;omega
 exact yr hK I z 60 X.A d e x y v u g1 g2 h1 h2 rx ry hu X.prog X.w X.xe _ ⟨.bl (eqD d e),H,I,rfl,q⟩
theorem ub:OpD F (rEqD F.K F.C) dEq:=by
 intro H Z x y dx dy Q s rx ry w
 unfold dEq at w
 split at w
 ·rename_i g
  exact⟨Z,dx,dy,s,rx,ry,g.1,g.2,WG.now w s _ aY⟩
 ·exact w.elim
theorem xz (bx:BX X F k)(ha:FE X F a ga)(hb:FE X F b gb):FE X F (.Compare a [.Eq] [b] pos) (eOp dEq ga gb):=yk (ua bx.K bx.room) ub ha hb
theorem dS (bx:BX X F k)(ha:FE X F a ga)(hb:FE X F b gb):FT X F (.Compare a [.Eq] [b] pos) (gB (eOp dEq ga gb)):=dO (ua bx.K bx.room) ub ha hb
end
end FF
end
noncomputable section
namespace FF
open PySem PySem.Spec PyProof.Rows L2
def eChain (f f':D→D→R D)(ga gb gc:SS→R D):SS→R D:=fun S=>(ga S).bind fun x=>(gb S).bind fun y=>(asB (f x y)).bind fun k=>if k=true then (gc S).bind fun w=>f' y w else .ok (.bl false)
section
variable {X:Cx}{F:Fx}{a b c:Expr}{ga gb gc:SS→R D}{pos:Pos}{r r':R2}{f f':D→D→R D}{op op':CmpOp}
theorem kZ (hd:OpD F r f)(hd':OpD F r' f'):∀ σ H Q,tE F (eChain f f' ga gb gc) σ H Q→tChain r r' (tE F ga) (tE F gb) (tE F gc) σ H Q:=fun σ H Q ⟨Z,S,ok,w⟩ =>
 aD ok w fun dx x H1 Z1 ok1 x1 rx w1=>aD ok1 w1 fun dy y H2 Z2 ok2 x2 ry w2=>hd H2 Z2 x y dx dy _ ok2.sub (rx.mono x2.z) ry (by
  cases e:f dx dy with
  | err k=>rw[e]at w2;exact w2
  | stuck=>rw[e]at w2;exact w2
  | ok d =>
   rw[e]at w2
   intro H3 Z3 x3 v rv
   cases d with
   | bl k =>
    rw[Rep]at rv
    subst rv
    have w3:WG F H3 Z3 (if k=true then (gc S).bind fun w=>f' dy w else .ok (.bl false)) _:=WG.more w2 x3
    refine⟨k,rfl,?_⟩
    have ok3:=ok2.more x3
    cases k with
    | false=>exact WG.now w3 ok3.sub _ aY
    | true=>exact aD ok3 w3 fun dw wv H4 Z4 ok4 x4 rw' w4=>hd' H4 Z4 y wv dy dw Q ok4.sub (ry.mono (x3.z.trans x4.z)) rw' w4
   | _=>exact w2.elim)
theorem uc (ho:OpR X (compareOp op) r)(ho':OpR X (compareOp op') r')(hd:OpD F r f)(hd':OpD F r' f')(ha:FE X F a ga)(hb:FE X F b gb)(hc:FE X F c gc)(hm:lastMarks [op,op'] [b,c]=false:=by with_unfolding_all rfl) :
  FE X F (.Compare a [op,op'] [b,c] pos) (eChain f f' ga gb gc):=(tu ho ho' ha hb hc hm).weak (kZ hd hd')
theorem ud (ho:OpR X (compareOp op) r)(ho':OpR X (compareOp op') r')(hd:OpD F r f)(hd':OpD F r' f')(ha:FE X F a ga)(hb:FE X F b gb)(hc:FE X F c gc)(hm:lastMarks [op,op'] [b,c]=false:=by with_unfolding_all rfl) :
  FT X F (.Compare a [op,op'] [b,c] pos) (gB (eChain f f' ga gb gc)):=(tz ho ho' ha hb hc hm).weak (tX (kZ hd hd'))
theorem iU (ha:FE X F a ga)(hb:FE X F b gb)(hc:FE X F c gc)(hm:lastMarks [.LtE,.LtE] [b,c]=false:=by with_unfolding_all rfl):FE X F (.Compare a [.LtE,.LtE] [b,c] pos) (eChain dLe dLe ga gb gc):=uc tt tt (c8 fun _ _ _=>aY) (c8 fun _ _ _=>aY) ha hb hc hm
theorem v8 (ha:FE X F a ga)(hb:FE X F b gb)(hc:FE X F c gc)(hm:lastMarks [.LtE,.Lt] [b,c]=false:=by with_unfolding_all rfl):FT X F (.Compare a [.LtE,.Lt] [b,c] pos) (gB (eChain dLe dLt ga gb gc)):=ud tt xp (c8 fun _ _ _=>aY) (c8 fun _ _ _=>aY) ha hb hc hm
end
def dIs:D→D→R D
 | x,.non=>.ok (.bl (match x with | .non=>true | _=>false))
 | x,.bl b=>.ok (.bl (match x with | .bl a=>a==b | _=>false))
 | _,_=>.stuck
def isV:V→V→Bool
 | .non,.non=>true
 | .bl a,.bl b=>a==b
 | _,_=>false
section
variable {X:Cx}{F:Fx}{a b:Expr}{ga gb:SS→R D}{pos:Pos}
theorem yt:OpR X (compareOp .Is) (fun x y H Q=>(y=.non∨∃ b,y=.bl b)∧Q (.bl (isV x y)) H):=by
 intro pins s σ H x y v u Q I rx ry h
 obtain⟨hy,q⟩:=h
 rcases hy with rfl | ⟨b,rfl⟩
 ·cases ry
  refine is_none_gen (lF I q ?_)
  cases x<;>first
   | (cases rx;rfl)
   | (obtain⟨t,rfl⟩:=rx;rfl)
 ·cases ry
  cases x<;>first
   | (obtain⟨t,rfl⟩:=rx;exact wpAny_pure (lF I q rfl))
   | (cases rx;exact wpAny_pure (lF I q rfl))
   | (cases rx;rename_i a;exact wpAny_pure (lF I q (by cases a<;>cases b<;>rfl)))
theorem v9 {K:PySem.W.Frag}{C:Nat→Addr}{Z:Hp}{d e:D}{x y:V}{r:D}(h:Rep K C Z d x)(h':Rep K C Z e y)(q:dIs d e=.ok r):(y=.non∨∃ b,y=.bl b)∧r=.bl (isV x y):=by
 cases e with
 | non =>
  rw[Rep]at h';subst h'
  cases q
  refine⟨.inl rfl,?_⟩
  cases d<;>rw[Rep]at h<;>first | (subst h;rfl) | (obtain⟨_,_,rfl,_⟩:=h;rfl) | (obtain⟨_,rfl,_⟩:=h;rfl)
 | bl b =>
  rw[Rep]at h';subst h'
  cases q
  refine⟨.inr ⟨b,rfl⟩,?_⟩
  cases d<;>rw[Rep]at h<;>first | (subst h;rfl) | (obtain⟨_,_,rfl,_⟩:=h;rfl) | (obtain⟨_,rfl,_⟩:=h;rfl)
 | _=>simp[dIs]at q
theorem yu {d e:D}{k:Nat}(q:dIs d e=.err k):False:=by cases e<;>simp[dIs]at q
theorem yw:OpD F (fun x y H Q=>(y=.non∨∃ b,y=.bl b)∧Q (.bl (isV x y)) H) dIs:=by
 intro H Z x y dx dy Q s rx ry w
 cases e:dIs dx dy with
 | err k=>exact(yu e).elim
 | stuck=>rw[e]at w;exact w.elim
 | ok r =>
  rw[e]at w
  obtain⟨h1,rfl⟩:=v9 rx ry e
  exact⟨h1,WG.now w s _ aY⟩
theorem xA (ha:FE X F a ga)(hb:FE X F b gb):FT X F (.Compare a [.Is] [b] pos) (gB (eOp dIs ga gb)):=dO yt yw ha hb
end
def cutD (xs:List D)(lo hi:Option Int):List D:=(xs.drop (HT.sIx xs.length 0 lo)).take (HT.sIx xs.length xs.length hi - HT.sIx xs.length 0 lo)
theorem Reps.cut {K:PySem.W.Frag}{C:Nat→Addr}{Z:Hp}{ds:List D}{vs:List V}(r:Reps K C Z ds vs)(lo hi:Option Int):Reps K C Z (cutD ds lo hi) (cutV vs lo hi):=by
 unfold cutD cutV
 rw[r.length]
 exact(r.drop _).take _
def dSl (d:D)(lo hi:Option Int):R D:=match d with
 | .lst xs=>.ok (.lst (cutD xs lo hi))
 | .tup xs=>if HT.sIx xs.length 0 lo=0∧HT.sIx xs.length xs.length hi=xs.length then .stuck else .ok (.tup (cutD xs lo hi))
 | _=>.stuck
def asI (d:D):R (Option Int):=match d with
 | .int i=>.ok (some i)
 | _=>.stuck
def pNo:SS→R (Option Int):=fun _=>.ok none
def pSo (g:SS→R D):SS→R (Option Int):=fun S=>(g S).bind asI
def tP (F:Fx)(g:SS→R (Option Int)):TO:=fun σ H Q=>∃ Z S,StOk F H Z S σ∧WG F H Z (g S) fun o H' _=>Q o H'
section
variable {X:Cx}{F:Fx}{e:Expr}{lo hi:Option Expr}{g:SS→R D}{l h:SS→R (Option Int)}{pos p2:Pos}
theorem ue:PO X none (tP F pNo):=fun pins s σ H Q I ⟨Z,S,ok,w⟩=>vO pins s σ H Q I (WG.now w ok.sub)
theorem dU (he:FE X F e g):PO X (some e) (tP F (pSo g)):=fun pins s σ H Q I ⟨Z,S,ok,w⟩=>vP he pins s σ H Q I (aD ok w fun d v H1 Z1 ok1 x1 rv w1=>by
 cases d with
 | int i=>rw[Rep]at rv;exact⟨i,rv,WG.now (a:=some i) w1 ok1.sub⟩
 | _=>exact w1.elim)
theorem p5 {α:Type}{σ:St}{H Z:Hp}{S:SS}{k:Option Int→R α}{P:α→Hp→Hp→Prop}{Q:Option Int→Hp→Prop}(ok:StOk F H Z S σ)(w:WG F H Z ((l S).bind k) P)
  (h:∀ o H1 Z1,StOk F H1 Z1 S σ→Ex H Z H1 Z1→WG F H1 Z1 (k o) P→Q o H1):tP F l σ H Q:=by
 refine⟨Z,S,ok,?_⟩
 cases e:l S with
 | ok d =>
  rw[e]at w
  intro H1 Z1 x
  exact h d H1 Z1 (ok.more x) x (WG.more (r:=k d) w x)
 | err k=>rw[e]at w;exact w
 | stuck=>rw[e]at w;exact w
end
def CallD (F:Fx)(r:List V→Hp→VK→Prop)(f:List D→R D):Prop:=∀ (H Z:Hp) (xs:List V) (ds:List D) (Q:VK),Same Z H→Reps F.K F.C Z ds xs→WG F H Z (f ds) (fun d H' Z'=>∀ v,Rep F.K F.C Z' d v→Q v H')→r xs H Q
section
variable {X:Cx}{F:Fx}{x:Str}{p pos:Pos}{e:Expr}{es:List Expr}{gs:SS→R (List D)}{id T:String}{r:List V→Hp→VK→Prop}{f:List D→R D}
theorem uf (hd:CallD F r f):∀ σ H Q,tE F (eCall f gs) σ H Q→tCB r (tAl F gs) σ H Q:=fun σ H Q ⟨Z,S,ok,w⟩=>aO ok w fun ds vs H1 Z1 ok1 x1 rs w1=>hd H1 Z1 vs ds Q ok1.sub rs w1
theorem dW (hc:CallR X (.builtin id) r)(hd:CallD F r f)(hg:Gl X x)(hm:X.mg x=none)(hv:bootBuiltins x=some (.builtin id))(ha:FA X F (e::es) gs)(hn:x ≠ "__name__" := by decide)(hdb:(x==("__debug__":Str))=false:=by decide)
  (he:starEach (e::es) X.env=(false,eval e X.env)::starEach es X.env:=by rfl) (hpl:(backTo pos (starEach es X.env)).any (·.1)=false:=by rfl):FE X F (.Call (.Name x p) (e::es) [] pos) (eCall f gs):=(dN hc hg hm hv ha hn hdb he hpl).weak (uf hd)
theorem rm (hc:CallR X (.type T) r)(hd:CallD F r f)(hg:Gl X x)(hm:X.mg x=none)(hv:bootBuiltins x=some (.type T))(ha:FA X F (e::es) gs)(hn:x ≠ "__name__" := by decide)(hdb:(x==("__debug__":Str))=false:=by decide)
  (he:starEach (e::es) X.env=(false,eval e X.env)::starEach es X.env:=by rfl) (hpl:(backTo pos (starEach es X.env)).any (·.1)=false:=by rfl):FE X F (.Call (.Name x p) (e::es) [] pos) (eCall f gs):=(gJ hc hg hm hv ha hn hdb he hpl).weak (uf hd)
end
theorem aZ {K:PySem.W.Frag}{C:Nat→Addr}{Z:Hp}{d:D}{vs:List V}(r:Reps K C Z [d] vs):∃ v,vs=[v]∧Rep K C Z d v:=by
 rw[Reps]at r
 obtain⟨v,r',rfl,h1,h2⟩:=r
 rw[Reps]at h2
 exact⟨v,by rw[h2],h1⟩
def dLen:List D→R D
 | [.lst xs]=>.ok (.int xs.length)
 | [.tup xs]=>.ok (.int xs.length)
 | _=>.stuck
theorem rn {F:Fx}:CallD F (fun xs H Q=>∃ p ys,xs=[.ref p]∧(SqL F.K H p ys∨SqT F.K H p ys)∧Q (.int ys.length) H) dLen:=by
 intro H Z xs ds Q s rs w
 unfold dLen at w
 split at w
 ·obtain⟨v,rfl,h⟩:=aZ rs
  rw[Rep]at h
  obtain⟨a,vs,rfl,h1,h2⟩:=h
  exact⟨a,vs,rfl,.inl (s.seq h1),by rw[← h2.length];exact WG.now w s _ aE⟩
 ·obtain⟨v,rfl,h⟩:=aZ rs
  rw[Rep]at h
  obtain⟨a,vs,rfl,h1,h2⟩:=h
  exact⟨a,vs,rfl,.inr (h1.mono s),by rw[← h2.length];exact WG.now w s _ aE⟩
 ·exact w.elim
def dMax2:List D→R D
 | [.int i,.int j]=>.ok (.int (if j > i then j else i))
 | _=>.stuck
theorem oW {F:Fx}:CallD F (fun xs H Q=>∃ i j,xs=[.int i,.int j]∧Q (.int (if j > i then j else i)) H) dMax2:=by
 intro H Z xs ds Q s rs w
 unfold dMax2 at w
 split at w
 ·exact⟨_,_,m5 rs,WG.now w s _ aE⟩
 ·exact w.elim
def dTuple:List D→R D
 | [.lst xs]=>.ok (.tup xs)
 | [.tup xs]=>.ok (.tup xs)
 | _=>.stuck
theorem m7 {F:Fx}:CallD F (fun xs H Q=>∃ p ys,xs=[.ref p]∧((SqL F.K H p ys∧∀ l,H l=none→Q (.ref l) (upd H l (.tup ys)))∨(SqT F.K H p ys∧Q (.ref p) H))) dTuple:=by
 intro H Z xs ds Q s rs w
 unfold dTuple at w
 split at w
 ·obtain⟨v,rfl,h⟩:=aZ rs
  rw[Rep]at h
  obtain⟨a,vs,rfl,h1,h2⟩:=h
  refine⟨a,vs,rfl,.inl ⟨s.seq h1,fun p hp=>?_⟩⟩
  have z:Same Z (upd Z p (.tup vs)):=aC (s.free hp)
  exact w _ _ (Ex.alloc s hp) _ (by rw[Rep];exact⟨p,_,rfl,SqT.of ar,h2.mono z⟩)
 ·obtain⟨v,rfl,h⟩:=aZ rs
  have hh:=h
  rw[Rep]at h
  obtain⟨a,vs,rfl,h1,h2⟩:=h
  exact⟨a,vs,rfl,.inr ⟨h1.mono s,WG.now w s _ hh⟩⟩
 ·exact w.elim
def boolsD:List D→Option (List Bool)
 | []=>some []
 | .bl b::r=>(boolsD r).map (b::·)
 | _::_=>none
theorem da {K:PySem.W.Frag}{C:Nat→Addr}{Z:Hp}:∀ {ds:List D} {vs:List V} {bs:List Bool},Reps K C Z ds vs→boolsD ds=some bs→vs=bs.map V.bl
 | [],vs,bs,r,e=>by rw[Reps]at r;cases e;exact r
 | d::ds,vs,bs,r,e=>by
  rw[Reps]at r
  obtain⟨v,r',rfl,h1,h2⟩:=r
  cases d with
  | bl b =>
   rw[boolsD]at e
   cases q:boolsD ds with
   | none=>rw[q]at e;cases e
   | some bs' =>
    rw[q]at e
    cases e
    rw[Rep]at h1
    rw[h1,da h2 q]
    rfl
  | _=>simp[boolsD]at e
def dAll:List D→R D
 | [.lst xs]=>match boolsD xs with
  | some bs=>.ok (.bl (bs.all id))
  | none=>.stuck
 | _=>.stuck
theorem db:∀ {bs:List Bool} {us:List Value},Vals (bs.map V.bl) us→us=bs.map Value.bool
 | [],us,h=>by rw[List.map_nil]at h;cases h;rfl
 | b::bs,us,h=>by
  rw[List.map_cons]at h
  cases h with
  | cons r t =>
   have r':_=Value.bool b:=r
   rw[r',db t]
   rfl
theorem ji {X:Cx}(hc:X.calm=true):CallR X (.builtin "all") (fun xs H Q=>∃ (p:Addr) (bs:List Bool),xs=[.ref p]∧SqL X.K H p (bs.map V.bl)∧Q (.bl (bs.all id)) H):=by
 intro pins s σ H xs us Q I r h
 obtain⟨p,bs,rfl,hq,q⟩:=h
 obtain⟨u,rfl,ru⟩:=vals1 r
 cases ru
 obtain⟨its,rv,pl,hz⟩:=I.list hq
 have e:=db rv
 subst e
 have hlt:p < s.heap.objs.size:=by obtain⟨o,_,ho,_⟩:=pl;exact Heap.lt_size ho
 refine call_all_walk (wpAny_pyIter_list pl.isList ⟨s.heap.objs.size,_,_,_,_,_,fun i=>bs.getD i false,rfl,Walks.list (show X.A.in1.handled=none from I.ok.hd hc) s.heap.objs.size p (Nat.ne_of_lt hlt) (bs.map Value.bool).toArray,⟨⟨_,Heap.get?_push_size _ rfl,rfl,rfl⟩,?_⟩,?_,fun h' tk hk=>?_⟩)
 ·obtain⟨o,ho,h2,n,h3⟩:=pl.isList
  exact⟨o,Heap.get?_push_of_some _ ho,h2,n,h3⟩
 ·intro i v s' Q' E' hp hq'
  have hp':bs[i]?.map Value.bool=some v:=by simpa using hp
  cases e:bs[i]? with
  | none=>rw[e]at hp';cases hp'
  | some b =>
   rw[e]at hp'
   cases hp'
   refine wpAny_truthy_bool ?_
   have:bs.getD i false=b:=by simp[List.getD,e]
   have hq2:Q' (bs.getD i false) s':=hq'
   rw[this]at hq2
   exact hq2
 ·have hall:(List.range (bs.map Value.bool).toArray.size).all (fun i=>bs.getD i false)=bs.all id:=by
   rw[List.size_toArray,List.length_map]
   rw[Bool.eq_iff_iff,List.all_eq_true,List.all_eq_true]
   constructor
   ·intro h b hb
    obtain⟨i,hi,rfl⟩:=List.mem_iff_getElem.mp hb
    have:=h i (List.mem_range.mpr hi)
    simpa [List.getD,hi] using this
   ·intro h i hi
    have hi':=List.mem_range.mp hi
    have:=h bs[i] (List.getElem_mem hi')
    simpa [List.getD,hi'] using this
  rw[hall]
  exact⟨.bl (bs.all id),H,I.kept fun b o e=>hk b o (by simp;exact Nat.ne_of_lt (Heap.lt_size e)) (Heap.get?_push_of_some _ e),rfl,q⟩
theorem rq {F:Fx}:CallD F (fun xs H Q=>∃ (p:Addr) (bs:List Bool),xs=[.ref p]∧SqL F.K H p (bs.map V.bl)∧Q (.bl (bs.all id)) H) dAll:=by
 intro H Z xs ds Q s rs w
 unfold dAll at w
 split at w
 ·split at w
  ·rename_i bs e
   obtain⟨v,rfl,h⟩:=aZ rs
   rw[Rep]at h
   obtain⟨a,vs,rfl,h1,h2⟩:=h
   have e2:=da h2 e
   subst e2
   exact⟨a,bs,rfl,s.seq h1,WG.now w s _ aY⟩
  ·exact w.elim
 ·exact w.elim
section
variable {X:Cx}{F:Fx}{p pos:Pos}{e:Expr}{es:List Expr}{gs:SS→R (List D)}{k:Nat}
theorem bE (bx:BX X F k)(hg:Gl X "len")(hm:X.mg "len"=none)(ha:FA X F [e] gs)(he:starEach [e] X.env=(false,eval e X.env)::starEach [] X.env:=by rfl)(hpl:(backTo pos (starEach [] X.env)).any (·.1)=false:=by rfl):FE X F (.Call (.Name "len" p) [e] [] pos) (eCall dLen gs) :=
 dW (by have:=lK (X:=X);rw[bx.K]at this;exact this) rn hg hm PySem.boot_len ha (he:=he) (hpl:=hpl)
theorem p6 {e2:Expr}(bx:BX X F k)(hg:Gl X "max")(hm:X.mg "max"=none)(ha:FA X F [e,e2] gs)(he:starEach [e,e2] X.env=(false,eval e X.env)::starEach [e2] X.env:=by rfl)(hpl:(backTo pos (starEach [e2] X.env)).any (·.1)=false:=by rfl) :
  FE X F (.Call (.Name "max" p) [e,e2] [] pos) (eCall dMax2 gs):=dW (qR bx.calm) oW hg hm (by decide +kernel) ha (he:=he) (hpl:=hpl)
theorem a7 (bx:BX X F k)(hg:Gl X "tuple")(hm:X.mg "tuple"=none)(ha:FA X F [e] gs)(he:starEach [e] X.env=(false,eval e X.env)::starEach [] X.env:=by rfl)(hpl:(backTo pos (starEach [] X.env)).any (·.1)=false:=by rfl):FE X F (.Call (.Name "tuple" p) [e] [] pos) (eCall dTuple gs) :=
 rm (by have:=kj (X:=X);rw[bx.K]at this;exact this) m7 hg hm (by decide +kernel) ha (he:=he) (hpl:=hpl)
theorem yx (bx:BX X F k)(hg:Gl X "all")(hm:X.mg "all"=none)(ha:FA X F [e] gs)(he:starEach [e] X.env=(false,eval e X.env)::starEach [] X.env:=by rfl)(hpl:(backTo pos (starEach [] X.env)).any (·.1)=false:=by rfl):FE X F (.Call (.Name "all" p) [e] [] pos) (eCall dAll gs) :=
 dW (id := "all") (by have:=ji (X:=X) bx.calm;rw[bx.K]at this;exact this) rq hg hm (by decide +kernel) ha (he:=he) (hpl:=hpl)
end
end FF
end
noncomputable section
namespace FF
open PySem PySem.Spec PySem.Calls PyProof.Rows PySem.W
def ExcAt (a C:Addr)(h:Heap):Prop:=∃ o,h.get? a=some o∧o.cls=.ref C∧∃ vs,o.data=.fields vs
structure ExcK (K:Frag)(C:Addr):Prop where
 ga:findIn K (.ref C) "__getattribute__"=some (some (.builtin "BaseException.__getattribute__"))
 gt:findIn K (.ref C) "__getattr__"=some none
 cl:findIn K (.ref C) "__class__"=some (some (.builtin "object.__class__"))
 be:subIn K (.ref C) (.type "BaseException")=some true
 ob:subIn K (.ref C) (.type "object")=some true
 ty:(clsIn K C).isSome=true
section
variable {prog:Program}{w:World}{A:Around}{E:Value→Shared→Prop}{h:Heap}{g:Array GenState}{d:Drawn}{t:Nat}{os:OsState}{a C:Addr}{K:Frag}{o:Obj}{vs:Array Value}
theorem oX {M:Model}(p:ExcAt a C h):Looks M h (typeOf (.ref a)) (.ref C):=by
 obtain⟨o,h1,h2,h3⟩:=p
 exact h2 ▸ (Looks.ld h1).andThen .now
theorem oY {M:Model}(X:K.In h)(k:ExcK K C):Looks M h (isType (.ref C)) true:=by
 have z:=k.ty
 unfold clsIn at z
 split at z
 ·rename_i c' d' cd' sl' ho
  intro A' Q' E' s' kk q
  unfold isType loadHead
  exact wpAny_bind (wpAny_loadPart (kk _ _ (X _ _ ho)) (wpAny_pure q))
 ·cases z
theorem kq {R:Result→Shared→Prop}(X:K.In h)(k:ExcK K C)(hx:h.get? a=some o)(hc:o.cls=.ref C)(hq:R (.ok (.ret (.ref C))) ⟨h,g,d,t,os⟩) :
  codeAny (model prog w) A (.call (.builtin "getset_descriptor.__get__") ⟨[.builtin "object.__class__",.ref a,.ref C],[]⟩) R ⟨h,g,d,t,os⟩:=by
 have hT5:(⟨h,g,d,t,os⟩:Shared).TypeIs (.builtin "object.__class__") "getset_descriptor" := F.typeOf_object_class
 have L8:Looks (model prog w) h (isSubtype (.ref C) (.type (".".intercalate ("object.__class__".cutAt '.').dropLast))) true:=by
  rw[F.owner_object_class];exact looks_subIn X k.ob
 refine codeAny_call_builtin F.slot_gs_get.plain F.entry_gs_get (F.slot_gs_get.check _ _ _ _ _ _ _ _ hT5 (F.args_gs_get _ _ _) ?_)
 repeat (any_goals (first | assumption | (with_reducible refine wpAny_loadPart_at hx ?_;rw[hc]) | (with_reducible refine L8.at ?_) | wp_step))
 refine⟨Code.quiet_builtin _ (by decide +kernel),codeAny_builtin F.entry_object_class ?_⟩
 repeat (any_goals (first | assumption | (with_reducible refine wpAny_loadPart_at hx ?_;rw[hc]) | wp_step))
theorem iH {tk:Tok}{Q:Fin→Shared→Prop}(X:K.In h)(k:ExcK K C)(hx:h.get? a=some o)(hc:o.cls=.ref C)(hq:Q (.done (.ret (.ref C))) ⟨h,g,d,t,os⟩) :
  wpAny (model prog w) A (Builtin.«object.__getattribute__» ⟨[.ref a,.str "__class__" tk],[]⟩) Q E ⟨h,g,d,t,os⟩:=by
 have hT5:(⟨h,g,d,t,os⟩:Shared).TypeIs (.builtin "object.__class__") "getset_descriptor" := F.typeOf_object_class
 have f5:=F.typeOf_object_class
 have f6:=F.slot_gs_get.lookup
 have f7:=F.slot_gs_set.lookup
 have L4:Looks (model prog w) h (typeLookup (.ref C) "__class__") _:=looks_findIn X k.cl
 repeat (any_goals (first | assumption | (with_reducible refine wpAny_loadPart_at hx ?_;rw[hc]) | (with_reducible refine L4.at ?_) | wp_step))
 refine kq X k hx hc ?_
 repeat (any_goals (first | assumption | wp_step))
theorem rz {M:Model}{nameV:Value}{Q:Unit→Shared→Prop}(X:K.In h)(k:ExcK K C)(hx:h.get? a=some o)(hc:o.cls=.ref C)(hq:Q () ⟨h,g,d,t,os⟩):wpAny M A (checkBuiltinCall "BaseException.__getattribute__" ⟨[.ref a,nameV],[]⟩) Q E ⟨h,g,d,t,os⟩:=by
 have hk:builtinKind "BaseException.__getattribute__"=some .slot:=by decide +kernel
 have hsplit:splitId "BaseException.__getattribute__"=some ("BaseException","__getattribute__"):=by decide +kernel
 have L8:Looks M h (isSubtype (.ref C) (.type "BaseException")) true:=looks_subIn X k.be
 have ha:=F.args_bexc_ga (.ref a) nameV
 simp only[checkBuiltinCall,hk,hsplit]
 refine wpAny_bind ?_
 ·unfold isInstance
  repeat (first | (with_reducible refine wpAny_loadPart_at hx ?_;rw[hc]) | (with_reducible refine L8.at ?_) | wp_step)
  exact hq
theorem jj {tk:Tok}{R:Result→Shared→Prop}(X:K.In h)(k:ExcK K C)(hx:h.get? a=some o)(hc:o.cls=.ref C)(hq:R (.ok (.ret (.ref C))) ⟨h,g,d,t,os⟩) :
  codeAny (model prog w) A (.call (.builtin "BaseException.__getattribute__") ⟨[.ref a,.str "__class__" tk],[]⟩) R ⟨h,g,d,t,os⟩ :=
 codeAny_call_builtin F.attr_ValueError.ga.plain F.entry_bexc_ga (rz X k hx hc (iH X k hx hc hq))
theorem lQ {tk:Tok}{Q:Value→Shared→Prop}(X:K.In h)(k:ExcK K C)(hx:h.get? a=some o)(hc:o.cls=.ref C)(hq:Q (.ref C) ⟨h,g,d,t,os⟩) :
  wpAny (model prog w) A (getAttrBy (.ref a) (.str "__class__" tk) false) Q E ⟨h,g,d,t,os⟩:=by
 have f3:=F.attr_ValueError.ga.bind (.ref a)
 have L1:Looks (model prog w) h (typeLookup (.ref C) "__getattribute__") _:=looks_findIn X k.ga
 have L2:Looks (model prog w) h (typeLookup (.ref C) "__getattr__") _:=looks_findIn X k.gt
 have hx2:(Value.builtin "BaseException.__getattribute__" == Value.builtin "object.__getattribute__")=false:=by decide +kernel
 have hx1:(onTheHeap (Value.ref C)&&Value.builtin "BaseException.__getattribute__" == Value.builtin "object.__getattribute__")=false:=by rw[hx2];rfl
 repeat (any_goals (first | assumption | (with_reducible refine wpAny_loadPart_at hx ?_;rw[hc]) | (with_reducible refine L1.at ?_) | (with_reducible refine L2.at ?_) | wp_step))
 refine jj X k hx hc ?_
 repeat (any_goals (first | assumption | wp_step))
theorem jk {Q:Option Value→Shared→Prop}(X:K.In h)(k:ExcK K C)(hx:h.get? a=some o)(hc:o.cls=.ref C)(hq:Q (some (.ref C)) ⟨h,g,d,t+1,os⟩) :
  wpAny (model prog w) A (getAttr? (.ref a) "__class__") Q E ⟨h,g,d,t,os⟩:=by
 unfold getAttr? getAttrBy?
 repeat (any_goals (first | assumption | with_reducible apply lQ X k hx hc | wp_step))
end
end FF
end
noncomputable section
namespace FF
open PySem PySem.Spec PyProof.Rows L2
theorem ug {K:PySem.W.Frag}{a C:Addr}(k:ExcK K C):PySem.W.KitX K (.ref a) (.ref C) (ExcAt a C) where
 ty:=fun _ _ _ p=>oX p
 it:=fun _ _ X _=>oY X k
 ne:=fun h tp dd its n sl X htp=>by
  refine Bool.eq_false_iff.mpr fun q=>?_
  have e:C=tp:=Value.ref.inj (beq_iff_eq.mp q)
  subst e
  have z:=k.ty
  unfold PySem.W.clsIn at z
  split at z
  ·rename_i c' d' cd' sl' ho
   have z:=(X _ _ ho).symm.trans htp
   cases z
  ·cases z
 ca:=fun {_ _ _ _ _ s} X p h=>by
  obtain⟨hh,g,d,t,os⟩:=s
  obtain⟨o,h1,h2,_⟩:=p
  exact jk X k h1 h2 h
def tyD (C:Nat→Addr):D→Value
 | .non=>.type "NoneType"
 | .bl _=>.type "bool"
 | .int _=>.type "int"
 | .str _=>.type "str"
 | .tup _=>.type "tuple"
 | .lst _=>.type "list"
 | .exc k=>.ref (C k)
 | .fn _=>.none
def cV:V→Value
 | .ty n=>.type n
 | .ref a=>.ref a
 | _=>.none
theorem m8 {X:Cx}{C:Nat→Addr}:CallR X (.builtin "isinstance") (fun xs H Q=>∃ (Z:Hp) (d:D) (x y:V) (b:Bool),xs=[x,y]∧Same Z H∧Rep X.K C Z d x∧((∃ n,y=.ty n)∨∃ a,y=.ref a) ∧
  PySem.W.kitOne X.K (tyD C d) (cV y)=some b∧(∀ j,d=.exc j→ExcK X.K (C j))∧(∀ j,d≠.fn j)∧Q (.bl b) H):=by
 intro pins s σ H xs us Q I r h
 obtain⟨Z,d,x,y,b,rfl,sm,rp,hy,e,he,hf,q⟩:=h
 obtain⟨u,c,rfl,ru,rc⟩:=vals2 r
 have hc:c=cV y:=by
  rcases hy with ⟨n,rfl⟩ | ⟨a,rfl⟩<;>exact rc
 subst hc
 have fin:∀ tk,EP X pins σ Q (.bool b) { s with toks:=tk }:=fun tk=>⟨.bl b,H,I.tok tk,rfl,q⟩
 cases d with
 | non=>rw[Rep]at rp;subst rp;cases (show u=Value.none from ru);exact PySem.W.kia_one PySem.W.kitx_none I.kIn True.intro e (fun z=>nomatch z) fin
 | bl k=>rw[Rep]at rp;subst rp;cases (show u=Value.bool k from ru);exact PySem.W.kia_one PySem.W.kitx_bool I.kIn True.intro e (fun z=>nomatch z) fin
 | int i=>rw[Rep]at rp;subst rp;obtain⟨t,rfl⟩:=(show ∃ t,u=Value.int i t from ru);exact PySem.W.kia_one PySem.W.kitx_int I.kIn True.intro e (fun z=>nomatch z) fin
 | str i=>rw[Rep]at rp;subst rp;obtain⟨t,rfl⟩:=(show ∃ t,u=Value.str i t from ru);exact PySem.W.kia_one PySem.W.kitx_str I.kIn True.intro e (fun z=>nomatch z) fin
 | tup ds =>
  rw[Rep]at rp
  obtain⟨a,vs,rfl,h1,h2⟩:=rp
  cases (show u=Value.ref a from ru)
  obtain⟨its,_,⟨o,p1,p2,_⟩,_⟩:=I.tuple (h1.mono sm)
  exact PySem.W.kia_one PySem.W.kitx_tuple I.kIn ⟨o,p1,p2⟩ e (fun z=>nomatch z) fin
 | lst ds =>
  rw[Rep]at rp
  obtain⟨a,vs,rfl,h1,h2⟩:=rp
  cases (show u=Value.ref a from ru)
  obtain⟨its,_,⟨o,n,p1,p2,_⟩,_⟩:=I.list (sm.seq h1)
  exact PySem.W.kia_one PySem.W.kitx_list I.kIn ⟨o,p1,p2⟩ e (fun z=>nomatch z) fin
 | fn k=>exact absurd rfl (hf k)
 | exc k =>
  rw[Rep]at rp
  obtain⟨a,rfl,h1⟩:=rp
  cases (show u=Value.ref a from ru)
  obtain⟨o,h2,h3,h5⟩:=(show ObjOk X.prog X.w H s.heap a (excO C k a) from I.hok a _ (sm a _ h1)).1
  exact PySem.W.kia_one (ug (he k rfl)) I.kIn ⟨o,h2,h3,h5⟩ e (fun z=>nomatch z) fin
def dIsA (q:D→Option Bool)(d:D):R D:=match q d with
 | some b=>.ok (.bl b)
 | none=>.stuck
def eIs (q:D→Option Bool)(g:SS→R D):SS→R D:=fun S=>(g S).bind (dIsA q)
structure IsA (K:PySem.W.Frag)(C:Nat→Addr)(y:V)(q:D→Option Bool):Prop where
 one:(∃ n,y=.ty n)∨∃ a,y=.ref a
 ans:∀ d b,q d=some b→PySem.W.kitOne K (tyD C d) (cV y)=some b
 exc:∀ j b,q (.exc j)=some b→ExcK K (C j)
 fn:∀ j,q (.fn j)=none
section
variable {X:Cx}{F:Fx}{p pos:Pos}{e ec:Expr}{g:SS→R D}{k:Nat}{y:V}{q:D→Option Bool}
theorem yy (bx:BX X F k)(hq:IsA F.K F.C y q):∀ σ H Q,tE F (eIs q g) σ H Q→tCB (fun xs H Q=>∃ (Z:Hp) (d:D) (x y:V) (b:Bool),xs=[x,y]∧Same Z H∧Rep X.K F.C Z d x∧((∃ n,y=.ty n)∨∃ a,y=.ref a) ∧
  PySem.W.kitOne X.K (tyD F.C d) (cV y)=some b∧(∀ j,d=.exc j→ExcK X.K (F.C j))∧(∀ j,d≠.fn j)∧Q (.bl b) H) (tCons (tE F g) (tCons (tC y) tNil)) σ H Q:=fun σ H Q ⟨Z,S,ok,w⟩ =>
 aD ok w fun d v H1 Z1 ok1 x1 rv w1=>by
  cases e:q d with
  | none=>unfold dIsA at w1;rw[e]at w1;exact w1.elim
  | some b =>
   unfold dIsA at w1
   rw[e]at w1
   refine⟨Z1,d,v,y,b,rfl,ok1.sub,by rw[bx.K];exact rv,hq.one,by rw[bx.K];exact hq.ans d b e,fun j ej=>?_,fun j ej=>(by rw[ej,hq.fn j]at e;cases e),WG.now (a:=D.bl b) w1 ok1.sub _ aY⟩
   subst ej
   rw[bx.K]
   exact hq.exc j b e
theorem ao (bx:BX X F k)(hg:Gl X "isinstance")(hm:X.mg "isinstance"=none)(hq:IsA F.K F.C y q)(ha:FE X F e g)(hc:PE X ec (tC y))(he:starEach [e,ec] X.env=(false,eval e X.env)::starEach [ec] X.env:=by rfl)
  (he2:starEach [ec] X.env=(false,eval ec X.env)::starEach [] X.env:=by rfl) (hpl:(backTo pos (starEach [ec] X.env)).any (·.1)=false:=by rfl) :
  FE X F (.Call (.Name "isinstance" p) [e,ec] [] pos) (eIs q g) :=
 (dN (id := "isinstance") m8 hg hm (by decide +kernel) (fJ ha (fJ hc lG he2) he) (he:=he) (hpl:=hpl)).weak (yy bx hq)
end
def qTup:D→Option Bool
 | .tup _=>some true
 | .exc _=>none
 | .fn _=>none
 | _=>some false
def qInt:D→Option Bool
 | .int _=>some true
 | .bl _=>some true
 | .exc _=>none
 | .fn _=>none
 | _=>some false
def qBool:D→Option Bool
 | .bl _=>some true
 | .exc _=>none
 | .fn _=>none
 | _=>some false
theorem br {K:PySem.W.Frag}{C:Nat→Addr}:IsA K C (.ty "tuple") qTup:=⟨.inl ⟨_,rfl⟩,fun d b e=>by cases d<;>cases e<;>with_unfolding_all rfl,fun j b e=>(nomatch e),fun _=>rfl⟩
theorem lR {K:PySem.W.Frag}{C:Nat→Addr}:IsA K C (.ty "int") qInt:=⟨.inl ⟨_,rfl⟩,fun d b e=>by cases d<;>cases e<;>with_unfolding_all rfl,fun j b e=>(nomatch e),fun _=>rfl⟩
theorem jl {K:PySem.W.Frag}{C:Nat→Addr}:IsA K C (.ty "bool") qBool:=⟨.inl ⟨_,rfl⟩,fun d b e=>by cases d<;>cases e<;>with_unfolding_all rfl,fun j b e=>(nomatch e),fun _=>rfl⟩
end FF
end
noncomputable section
namespace FF
open PySem PySem.Spec PyProof.Rows L2
def sOwn (i:Nat)(gs:SS→R (List D)):SS→O:=fun S=>rO ((gs S).bind fun ds=>if ds.length≤16777216 then .ok (.nx (S.set i (some (.own ds)))) else .stuck)
def sApp (i:Nat)(gs:SS→R (List D)):SS→O:=fun S=>match S[i]? with
 | some (some (.own ds))=>rO ((gs S).bind fun es=>match es with
  | [d]=>if ds.length < 16777216 then .ok (.nx (S.set i (some (.own (ds++[d]))))) else .stuck
  | _=>.stuck)
 | _=>.stuck
def sExt (i:Nat)(gs:SS→R (List D)):SS→O:=fun S=>match S[i]? with
 | some (some (.own ds))=>rO ((gs S).bind fun es=>match es with
  | [.lst xs]=>if ds.length+xs.length≤16777216 then .ok (.nx (S.set i (some (.own (ds++xs))))) else .stuck
  | [.tup xs]=>if ds.length+xs.length≤16777216 then .ok (.nx (S.set i (some (.own (ds++xs))))) else .stuck
  | _=>.stuck)
 | _=>.stuck
def rExt (K:PySem.W.Frag):V→List V→Hp→VK→Prop:=fun x vs H Q=>∃ l b xs zs,x=.ref l∧vs=[.ref b]∧H l=some (.lst xs)∧(SqL K H b zs∨SqT K H b zs)∧xs.length+zs.length≤sizeLine∧Q .non (upd H l (.lst (xs++zs)))
theorem yz {X:Cx}:MtR X "list.extend" (rExt X.K):=by
 intro pins s σ H x vs v us Q I rx rv h
 obtain⟨l,b,xs,zs,rfl,rfl,hH,hB,hz,q⟩:=h
 cases rx
 obtain⟨u,rfl,ru⟩:=rv.one
 cases ru
 obtain⟨z,its,n,r,hl,e⟩:=I.lstM hH
 rcases hB with hB | hB
 ·obtain⟨its2,r2,⟨⟨c2,d2,dt2,sl2⟩,n2,e2,p2,p3,p4⟩,z2⟩:=I.list hB
  simp only at p2 p3 p4
  subst p2 p3 p4
  have hl2:=r2.length
  have hsz:its.toArray.size+its2.toArray.size≤sizeLine:=by rw[List.size_toArray,List.size_toArray];omega
  refine call_meets F.slot_list_extend ⟨_,e,rfl⟩ F.entry_list_extend (F.args_list_extend_2 _ _) (qZ l b its.toArray its2.toArray n n2 _ _ hsz) ⟨e,e2,?_⟩
  refine⟨.non,_,I.lset (its':=its++its2) hH e (by simp) (r.append r2) ?_,rfl,q⟩
  rw[List.length_append]
  omega
 ·obtain⟨its2,r2,⟨⟨c2,d2,dt2,sl2⟩,e2,p2,n2,p3⟩,z2⟩:=I.tuple hB
  simp only at p2 p3
  subst p2 p3
  have hl2:=r2.length
  have hsz:its.toArray.size+its2.toArray.size≤sizeLine:=by rw[List.size_toArray,List.size_toArray];omega
  refine call_meets F.slot_list_extend ⟨_,e,rfl⟩ F.entry_list_extend (F.args_list_extend_2 _ _) (q9 l b its.toArray its2.toArray n n2 _ _ hsz) ⟨e,e2,?_⟩
  refine⟨.non,_,I.lset (its':=its++its2) hH e (by simp) (r.append r2) ?_,rfl,q⟩
  rw[List.length_append]
  omega
section
variable {X:Cx}{F:Fx}{e:Expr}{es:List Expr}{gs:SS→R (List D)}{pos p0 apos cpos lpos:Pos}{x:Str}
theorem dX (i:Nat){pos':Pos}(hN:X.N.Nodup)(h:FA X F es gs)(hi:X.N[i]?=some x:=by rfl)(hx:Loc X.env.scope x:=by first | exact Or.inl rfl | exact Or.inr rfl)
  (hs:swapsWith (.List es lpos) (some (.Name x pos')) pos.line X.env=pure false:=by rfl) (hf:X.fn x=true∨X.env.scope.names.lookup x=some .local:=by first | exact .inl rfl | exact .inr rfl):FS X F (.Assign [.Name x pos'] (.List es lpos) pos) (sOwn i gs) :=
 (oC hN hi hx (tG h) hs hf).weak fun D σ H ⟨Z,S,ok,w⟩=>aO ok (WO.wg ok w) fun ds vs H1 Z1 ok1 x1 rs w1=>by
  split at w1
  ·rename_i hl
   refine⟨by rw[← rs.length,sizeLine_eq];exact hl,fun p hp=>?_⟩
   have w2:=WG.now w1 ok1.sub
   exact w2 _ _ Z1 (Same.refl _) (ok1.newOwn hp rs)
  ·exact w1.elim
theorem k4 (i:Nat)(ha:FA X F [e] gs)(hi:X.N[i]?=some x:=by rfl)(hv:Vis X.env.scope x:=by first | exact Or.inl rfl | exact Or.inr (Or.inl rfl) | exact Or.inr (Or.inr rfl))(hd:(x==("__debug__":Str))=false:=by decide)
  (hcd:(x==("__classdict__":Str))=false:=by decide)
  (hbase:attributeBase (.Name x p0) "append" X.env (eval (.Name x p0) X.env)=eval (.Name x p0) X.env:=by rfl)
  (hfew:((backTo cpos (starEach [e] X.env)).all (fun x=>!x.1)&&(backToKw cpos (keywordEach [] X.env)).all (fun x=>x.1.isSome)
   && decide ([e].length+([]:List Keyword).length+(if ([]:List Keyword).isEmpty then 0 else 1) < 30))=true:=by rfl)
  (hline:(apos.endLine==cpos.line)=true:=by rfl) (hs:starEach [e] X.env=(false,eval e X.env)::starEach [] X.env:=by rfl) (hplain:(backTo cpos (starEach [] X.env)).any (·.1)=false:=by rfl)
  (hsw:swapsWith (.Call (.Attribute (.Name x p0) "append" apos) [e] [] cpos) none pos.line X.env=pure false:=by rfl) :
  FS X F (.Expr (.Call (.Attribute (.Name x p0) "append" apos) [e] [] cpos) pos) (sApp i gs) :=
 (lE (kS PySem.F.plainAttrs_list PySem.F.slot_list_append (by kernel_rfl) (kT (X:=X)) (fg hi hv hd hcd) ha hbase hfew hline hs hplain) hsw).weak fun D σ H ⟨Z,S,ok,w⟩=>by
  unfold sApp at w
  split at w
  ·rename_i ds e0
   obtain⟨a,vs,e1,e2,e3,e4,r⟩:=ok.own i ds e0
   refine⟨.ref a,e1,.inl ⟨rfl,vs,SqL.of e2⟩,aO ok (WO.wg ok w) fun es' us H1 Z1 ok1 x1 rs w1=>?_⟩
   split at w1
   ·rename_i d
    split at w1
    ·rename_i hl
     obtain⟨y,rfl,ry⟩:=aZ rs
     have w2:=WG.now w1 ok1.sub
     refine⟨a,vs,y,rfl,rfl,x1.same _ _ e2,by rw[← r.length,sizeLine_eq];exact hl,?_⟩
     exact w2 σ _ Z1 (Same.refl _) (ok1.write e0 e1 ((r.mono x1.z).append (Reps.cons ry Reps.nil)))
    ·exact w1.elim
   ·exact w1.elim
  ·exact w.elim
theorem bC (i:Nat)(bK:X.K=F.K)(ha:FA X F [e] gs)(hi:X.N[i]?=some x:=by rfl)(hv:Vis X.env.scope x:=by first | exact Or.inl rfl | exact Or.inr (Or.inl rfl) | exact Or.inr (Or.inr rfl))(hd:(x==("__debug__":Str))=false:=by decide)
  (hcd:(x==("__classdict__":Str))=false:=by decide)
  (hbase:attributeBase (.Name x p0) "extend" X.env (eval (.Name x p0) X.env)=eval (.Name x p0) X.env:=by rfl)
  (hfew:((backTo cpos (starEach [e] X.env)).all (fun x=>!x.1)&&(backToKw cpos (keywordEach [] X.env)).all (fun x=>x.1.isSome)
   && decide ([e].length+([]:List Keyword).length+(if ([]:List Keyword).isEmpty then 0 else 1) < 30))=true:=by rfl)
  (hline:(apos.endLine==cpos.line)=true:=by rfl) (hs:starEach [e] X.env=(false,eval e X.env)::starEach [] X.env:=by rfl) (hplain:(backTo cpos (starEach [] X.env)).any (·.1)=false:=by rfl)
  (hsw:swapsWith (.Call (.Attribute (.Name x p0) "extend" apos) [e] [] cpos) none pos.line X.env=pure false:=by rfl) :
  FS X F (.Expr (.Call (.Attribute (.Name x p0) "extend" apos) [e] [] cpos) pos) (sExt i gs) :=
 (lE (kS PySem.F.plainAttrs_list PySem.F.slot_list_extend (by kernel_rfl) (yz (X:=X)) (fg hi hv hd hcd) ha hbase hfew hline hs hplain) hsw).weak fun D σ H ⟨Z,S,ok,w⟩=>by
  unfold sExt at w
  split at w
  ·rename_i ds e0
   obtain⟨a,vs,e1,e2,e3,e4,r⟩:=ok.own i ds e0
   refine⟨.ref a,e1,.inl ⟨rfl,vs,SqL.of e2⟩,aO ok (WO.wg ok w) fun es' us H1 Z1 ok1 x1 rs w1=>?_⟩
   split at w1
   ·rename_i xs
    split at w1
    ·rename_i hl
     obtain⟨y,rfl,ry⟩:=aZ rs
     rw[Rep]at ry
     obtain⟨b,zs,rfl,h1,h2⟩:=ry
     have w2:=WG.now w1 ok1.sub
     refine⟨a,b,vs,zs,rfl,rfl,x1.same _ _ e2,.inl (by rw[bK];exact ok1.sub.seq h1),by rw[← r.length,← h2.length,sizeLine_eq];exact hl,?_⟩
     exact w2 σ _ Z1 (Same.refl _) (ok1.write e0 e1 ((r.mono x1.z).append h2))
    ·exact w1.elim
   ·rename_i xs
    split at w1
    ·rename_i hl
     obtain⟨y,rfl,ry⟩:=aZ rs
     rw[Rep]at ry
     obtain⟨b,zs,rfl,h1,h2⟩:=ry
     have w2:=WG.now w1 ok1.sub
     refine⟨a,b,vs,zs,rfl,rfl,x1.same _ _ e2,.inr (by rw[bK];exact h1.mono ok1.sub),by rw[← r.length,← h2.length,sizeLine_eq];exact hl,?_⟩
     exact w2 σ _ Z1 (Same.refl _) (ok1.write e0 e1 ((r.mono x1.z).append h2))
    ·exact w1.elim
   ·exact w1.elim
  ·exact w.elim
end
def dCount (xs es:List D):R D:=match es with
 | [.bl k]=>match boolsD xs with
  | some bs=>.ok (.int (bs.countP (· == k):Nat))
  | none=>.stuck
 | _=>.stuck
def dIndex (xs es:List D):R D:=match es with
 | [.bl k]=>match boolsD xs with
  | some bs=>if bs.idxOf k < bs.length then .ok (.int (bs.idxOf k:Nat)) else .stuck
  | none=>.stuck
 | _=>.stuck
def eMethL (f:List D→List D→R D)(g:SS→R D)(gs:SS→R (List D)):SS→R D:=fun S=>(g S).bind fun d=>match d with
 | .lst xs=>(gs S).bind fun es=>f xs es
 | _=>.stuck
def rCountB (K:PySem.W.Frag):V→List V→Hp→VK→Prop:=fun x vs H Q=>∃ (l:Addr) (bs:List Bool) (k:Bool),x=.ref l∧vs=[.bl k]∧SqL K H l (bs.map V.bl)∧Q (.int (bs.countP (· == k):Nat)) H
def rIndexB (K:PySem.W.Frag):V→List V→Hp→VK→Prop:=fun x vs H Q=>∃ (l:Addr) (bs:List Bool) (k:Bool),x=.ref l∧vs=[.bl k]∧SqL K H l (bs.map V.bl)∧bs.idxOf k < bs.length∧Q (.int (bs.idxOf k:Nat)) H
theorem jm {X:Cx}{pins:List (Addr×Obj)}{σ:St}{H:Hp}{s:Shared}(I:Inv X pins σ H s){A:Around}(hu:A.units < cLine)(b k:Bool):SeqAt.EqAt A s (.bool b) (.bool k) (b==k) :=
 fi (K:=X.K) (C:=fun _=>0) (Z:=fun _=>none) rfl I (fun _ _ e=>nomatch e) 0 A (.bl b) (.bl k) (.bl b) (.bl k) _ _ rfl rfl aY aY rfl rfl (by omega)
def isB (k:Bool):Value→Bool
 | .bool b=>b==k
 | _=>false
theorem uh {X:Cx}{k:Nat}(hr:Room k X.A):MtR X "list.count" (rCountB X.K):=by
 intro pins s σ H x vs v us Q I rx rv h
 obtain⟨l,bs,k,rfl,rfl,hH,q⟩:=h
 cases rx
 obtain⟨u,rfl,ru⟩:=rv.one
 cases ru
 obtain⟨its,r,⟨⟨c2,d2,dt2,sl2⟩,n2,e2,p2,p3,p4⟩,z2⟩:=I.list hH
 have e:=db r
 subst e
 simp only at p2 p3 p4
 subst p2 p3 p4
 refine call_meets F.slot_list_count ⟨_,e2,rfl⟩ F.entry_list_count (F.args_list_count_2 _ _) (SeqAt.list_countAt l _ n2 _ _ (.bool k) (isB k)) ⟨e2,fun y hy=>?_,?_⟩
 ·have hy':y∈bs.map Value.bool:=by simpa using hy
  obtain⟨b,_,rfl⟩:=List.mem_map.mp hy'
  exact jm I (by have:=hr.un;show X.A.units+1 < cLine;omega) b k
 ·have hc:((bs.map Value.bool).toArray.toList.countP (isB k))=bs.countP (· == k):=by
   show (bs.map Value.bool).countP (isB k)=_
   rw[List.countP_map]
   rfl
  rw[hc]
  exact⟨.int _,H,I.tok _,⟨_,rfl⟩,q⟩
theorem ui {X:Cx}{k:Nat}(hr:Room k X.A):MtR X "list.index" (rIndexB X.K):=by
 intro pins s σ H x vs v us Q I rx rv h
 obtain⟨l,bs,k,rfl,rfl,hH,hj,q⟩:=h
 cases rx
 obtain⟨u,rfl,ru⟩:=rv.one
 cases ru
 obtain⟨its,r,⟨⟨c2,d2,dt2,sl2⟩,n2,e2,p2,p3,p4⟩,z2⟩:=I.list hH
 have e:=db r
 subst e
 simp only at p2 p3 p4
 subst p2 p3 p4
 rw[List.length_map,sizeLine_eq]at z2
 have hsz:bs.idxOf k < (bs.map Value.bool).toArray.size:=by rw[List.size_toArray,List.length_map];exact hj
 have hat:∀ m (hm:m < (bs.map Value.bool).toArray.size) (hm':m < bs.length),isB k (bs.map Value.bool).toArray[m]=(bs[m]==k):=fun m hm hm'=>by simp[isB]
 refine call_meets F.slot_list_index ⟨_,e2,rfl⟩ F.entry_list_index (F.args_list_index_2 _ _) (SeqAt.list_indexAt l _ n2 _ _ (.bool k) (isB k) (bs.idxOf k) hsz (by omega) ?_ ?_) ⟨e2,fun y hy=>?_,⟨.int _,H,I.tok _,⟨_,rfl⟩,q⟩⟩
 ·rw[hat _ _ hj]
  exact List.findIdx_getElem (w:=hj)
 ·intro m hm hlt
  have hm':m < bs.length:=by omega
  rw[hat _ _ hm']
  exact Bool.eq_false_iff.mpr (by simpa using List.not_of_lt_findIdx hlt)
 ·have hy':y∈bs.map Value.bool:=by simpa using hy
  obtain⟨b,_,rfl⟩:=List.mem_map.mp hy'
  exact jm I (by have:=hr.un;show X.A.units+1 < cLine;omega) b k
section
variable {X:Cx}{F:Fx}{o e:Expr}{g:SS→R D}{gs:SS→R (List D)}{apos cpos:Pos}{k:Nat}
theorem uj {K:PySem.W.Frag}{C:Nat→Addr}{Z:Hp}{k:Bool}{vs:List V}(r:Reps K C Z [.bl k] vs):vs=[.bl k]:=by
 obtain⟨v,rfl,h⟩:=aZ r
 rw[Rep]at h
 rw[h]
def MethD (F:Fx)(r:V→List V→Hp→VK→Prop)(f:List D→List D→R D):Prop:=∀ (H Z:Hp) (a:Addr) (vs:List V) (xs:List D) (us:List V) (es:List D) (Q:VK),Same Z H→SqL F.K H a vs→Reps F.K F.C Z xs vs→Reps F.K F.C Z es us →
 WG F H Z (f xs es) (fun d H' Z'=>∀ v,Rep F.K F.C Z' d v→Q v H')→r (.ref a) us H Q
theorem m9:MethD F (rCountB F.K) dCount:=by
 intro H Z a vs xs us es Q s h1 h2 rs w
 unfold dCount at w
 split at w
 ·rename_i k
  split at w
  ·rename_i bs eb
   have e3:=da h2 eb
   subst e3
   exact⟨a,bs,k,rfl,uj rs,h1,WG.now w s _ aE⟩
  ·exact w.elim
 ·exact w.elim
theorem na:MethD F (rIndexB F.K) dIndex:=by
 intro H Z a vs xs us es Q s h1 h2 rs w
 unfold dIndex at w
 split at w
 ·rename_i k
  split at w
  ·rename_i bs eb
   have e3:=da h2 eb
   subst e3
   split at w
   ·rename_i hl
    exact⟨a,bs,k,rfl,uj rs,h1,hl,WG.now w s _ aE⟩
   ·exact w.elim
  ·exact w.elim
 ·exact w.elim
theorem eQ {r:V→List V→Hp→VK→Prop}{f:List D→List D→R D}(hd:MethD F r f):∀ σ H Q,tE F (eMethL f g gs) σ H Q→tBM F.K "list" r (tE F g) (tAl F gs) σ H Q:=fun σ H Q ⟨Z,S,ok,w⟩=>aD ok w fun d v H1 Z1 ok1 x1 rv w1=>by
 cases d with
 | lst xs =>
  rw[Rep]at rv
  obtain⟨a,vs,rfl,h1,h2⟩:=rv
  exact⟨.inl ⟨rfl,vs,ok1.sub.seq h1⟩,aO ok1 w1 fun es us H2 Z2 ok2 x2 rs w2=>hd H2 Z2 a vs xs us es Q ok2.sub (ok2.sub.seq (x2.z.seq h1)) (h2.mono x2.z) rs w2⟩
 | _=>exact w1.elim
theorem uk (bx:BX X F k)(ho:FE X F o g)(ha:FA X F [e] gs)
  (hbase:attributeBase o "count" X.env (eval o X.env)=eval o X.env:=by rfl)
  (hfew:((backTo cpos (starEach [e] X.env)).all (fun x=>!x.1)&&(backToKw cpos (keywordEach [] X.env)).all (fun x=>x.1.isSome)
   && decide ([e].length+([]:List Keyword).length+(if ([]:List Keyword).isEmpty then 0 else 1) < 30))=true:=by rfl)
  (hline:(apos.endLine==cpos.line)=true:=by rfl) (hs:starEach [e] X.env=(false,eval e X.env)::starEach [] X.env:=by rfl) (hplain:(backTo cpos (starEach [] X.env)).any (·.1)=false:=by rfl) :
  FE X F (.Call (.Attribute o "count" apos) [e] [] cpos) (eMethL dCount g gs) :=
 (kS PySem.F.plainAttrs_list PySem.F.slot_list_count (by kernel_rfl) (uh bx.room) ho ha hbase hfew hline hs hplain).weak (by rw[bx.K];exact eQ m9)
theorem rA (bx:BX X F k)(ho:FE X F o g)(ha:FA X F [e] gs)
  (hbase:attributeBase o "index" X.env (eval o X.env)=eval o X.env:=by rfl)
  (hfew:((backTo cpos (starEach [e] X.env)).all (fun x=>!x.1)&&(backToKw cpos (keywordEach [] X.env)).all (fun x=>x.1.isSome)
   && decide ([e].length+([]:List Keyword).length+(if ([]:List Keyword).isEmpty then 0 else 1) < 30))=true:=by rfl)
  (hline:(apos.endLine==cpos.line)=true:=by rfl) (hs:starEach [e] X.env=(false,eval e X.env)::starEach [] X.env:=by rfl) (hplain:(backTo cpos (starEach [] X.env)).any (·.1)=false:=by rfl) :
  FE X F (.Call (.Attribute o "index" apos) [e] [] cpos) (eMethL dIndex g gs) :=
 (kS PySem.F.plainAttrs_list PySem.F.slot_list_index (by kernel_rfl) (ui bx.room) ho ha hbase hfew hline hs hplain).weak (by rw[bx.K];exact eQ na)
end
end FF
end
noncomputable section
namespace FF
open PySem PySem.Spec PyProof.Rows L2
def MadeX (X:Cx)(F:Fx):Prop:=∀ (pins:List (Addr×Obj)) (σ:St) (H:Hp) (s:Shared) (h1:Heap) (ea C:Addr) (args:List Value),Inv X pins σ H s→Heap.MadeExcOf s.heap h1 ea (.ref C) args→F.E (.ref C) none H→X.xe (.ref ea) { s with heap:=h1 }
def bmVE:List Value:=[.type "ValueError",.type "Exception",.type "BaseException",.type "object"]
theorem p7 {K:PySem.W.Frag}{h:Heap}{C:Addr}{bmB:List Value}{newId:String}(X:K.In h)(q:PySem.W.excIn K C bmB newId=true) :
  ∃ (bm:List Value) (N:Addr) (nm qn:Str) (bs:List Value) (hdct:Bool) (sn:List Str) (sub:List Value) (ab:Bool) (col:Option Bool) (dd:Option Addr) (k0 k1 k2 k3 k5:Option Value) (mN:Str→Option Value),
   h.get? C=some (excClassObj nm qn C N bs bm hdct sn sub ab col dd k0 k1 k2 k3 k5 newId)∧h.Ns N mN∧mN "__init__"=none∧OwnTail h bmB bm:=by
 unfold PySem.W.excIn at q
 split at q
 ·rename_i dd cd sl ho
  split at q
  ·rename_i C' bm k0 k1 k2 k3 n k5 hm hs
   simp only[Bool.and_eq_true,beq_iff_eq,Bool.not_eq_true']at q
   obtain⟨⟨⟨⟨⟨rfl,rfl⟩,hdel⟩,ht⟩,hok⟩,hni⟩:=q
   obtain⟨nm,bs,mro,ns,qn,hd,sn,sub,ab,col,del⟩:=cd
   dsimp only at hm hdel hok hni
   subst hm hdel
   have hsl:sl = #[k0,k1,k2,k3,some (.builtin n),k5]:=by
    obtain⟨l⟩:=sl
    simp only at hs
    rw[hs]
   subst hsl
   exact⟨bm,ns,nm,qn,bs,hd,sn,sub,ab,col,dd,k0,k1,k2,k3,k5,_,X _ _ ho,.of_isNs (PySem.W.isNs_of_in X hok),PySem.W.nsMap_none_of_in X hok hni,PySem.W.tail_of_in X ht⟩
  ·cases q
 ·cases q
def sRaise (j:Nat)(gs:SS→R (List D)):SS→O:=fun S=>rO ((gs S).bind fun ds=>if ds.length≤1000 then .ok (.er j) else .stuck)
section
variable {X:Cx}{F:Fx}{e:Expr}{es:List Expr}{gs:SS→R (List D)}{pos np cpos:Pos}{x:Str}{k j:Nat}
theorem jn (j:Nat)(bx:BX X F k)(hmade:MadeX X F)(hg:Gl X x)(hm:X.mg x=some (.ref (F.C j)))(q:PySem.W.excIn F.K (F.C j) bmVE "ValueError.__new__"=true)(ha:FA X F (e::es) gs)(hd:(x==("__debug__":Str))=false:=by decide)
  (he:starEach (e::es) X.env=(false,eval e X.env)::starEach es X.env:=by rfl) (hpl:(backTo cpos (starEach es X.env)).any (·.1)=false:=by rfl) :
  FS X F (.Raise (some (.Call (.Name x np) (e::es) [] cpos)) none pos) (sRaise j gs):=by
 intro pins s σ H D I h
 obtain⟨Z,S,ok,w⟩:=h
 have q':=q
 rw[← bx.K]at q'
 obtain⟨bm,N,nm,qn,bs,hdct,sn,sub,ab,col,dd,k0,k1,k2,k3,k5,mN,hC0,hN0,hni0,T0⟩:=p7 (bmB:=bmVE) I.ok.mod.kin q'
 have hb:∀ {pl σ' H' s'},Inv X pl σ' H' s'→∀ b o,X.base.get? b=some o→s'.heap.get? b=some o:=fun I'=>I'.bk
 refine wpAny_Raise_call_subU (C:=F.C j) (nm:=nm) (q:=qn) (N:=N) (bs:=bs) (bm:=bm) (hdct:=hdct) (sn:=sn) (sub:=sub) (ab:=ab) (col:=col) (dd:=dd) (k0:=k0) (k1:=k1) (k2:=k2) (k3:=k3) (k5:=k5) PySem.F.excBase_ValueError (by decide) PySem.F.excBase_ValueError (T0.hasType PySem.F.excBase_ValueError.hasBase) (I.ok.hd bx.calm) (by rw[he];show (false||(backTo cpos (starEach es X.env)).any (·.1))=false;rw[hpl];rfl) hni0 (iQ I hg hm ⟨rfl,?_⟩ hd)
 have hA:=ha cpos pins s σ H (fun vs H1=>vs.length≤1000∧F.E (.ref (F.C j)) none H1) I (aO ok (WO.wg ok w) fun ds vs H1 Z1 ok1 x1 rs w1=>by
  split at w1
  ·rename_i hl
   exact⟨by rw[← rs.length];exact hl,WG.now w1 ok1.sub H1 ok1.ex.same⟩
  ·exact w1.elim)
 rw[he]at hA ⊢
 refine Calls.evalArgs_plain (thn hA fun us s2 ⟨vs,H2,I2,r2,q2⟩=>⟨rfl,?_,hb I2 _ _ hC0,hN0.keeps (hb I2),T0.keeps (hb I2),fun h' e hm'=>hmade pins σ H2 s2 h' e _ us I2 hm' q2.2⟩)
 rw[← r2.length,sizeLine_eq]
 omega
end
end FF
end
noncomputable section
namespace FF
open PySem PySem.Spec PyProof.Rows L2
section
variable {X:Cx}{pins:List (Addr×Obj)}{σ:St}{H:Hp}{s:Shared}
theorem jo (I:Inv X pins σ H s){A:Around}{calm:Bool}{pn pins':List (Addr×Obj)}{xe:Value→Shared→Prop}(hf:A.frames=X.A.frames)(hc:calm=true→A.handled=none)(hp:∀ p∈pn++pins',p∈X.pn++pins) :
  Inv { X with A:=A,calm:=calm,pn:=pn,xe:=xe } pins' σ H s :=
 ⟨⟨I.ok.mod,I.ok.kind,I.ok.glob,I.ok.blt,I.ok.above,I.ok.inj,I.ok.has,I.ok.cab,hc,hf.trans I.ok.frames,I.ok.stk,I.ok.exf,I.ok.bs,I.ok.bsz,I.ok.noex,I.ok.exfs,I.ok.funs,I.ok.frf⟩,I.os,I.bare,I.base,I.loc,I.cell,I.free,I.freeC,
  fun p hpp=>I.pin p (hp p hpp),I.hok,I.len⟩
theorem rB (I:Inv X pins σ H s){a:Addr}{o:HO}(hn:H a=none)(h0:X.s₀.heap.get? a=none)(hl:a≠X.env.locals)(hc:∀ x c,X.env.cells.lookup x=some c→c≠a)(hp:∀ p∈X.pn++pins,p.1≠a)
  (ho:ObjOk X.prog X.w (upd H a o) s.heap a o):Inv X pins σ (upd H a o) s:=by
 have nn:∀ {b:Addr} {u:HO},H b=some u→upd H a o b=some u:=fun {b u} e=>by rw[ap (bv e hn)];exact e
 refine⟨I.ok,I.os,I.bare,⟨I.base.keep,I.base.slot,fun b ob e n hx=>?_,I.base.there,fun b xs e=>nn (I.base.tups b xs e),fun b o' u e=>nn (I.base.frzs b o' u e),fun b ps e=>?_⟩,I.loc,I.cell,?_,fun x c e=>?_,fun p h=>?_,fun b u e=>?_,I.len⟩
 ·rw[ap (by rintro rfl;rw[h0]at e;cases e)]
  exact I.base.free b ob e n hx
 ·obtain⟨more,q⟩:=I.base.tbls b ps e
  exact⟨more,nn q⟩
 ·rw[ap (Ne.symm hl)];exact I.free
 ·rw[ap (hc x c e)];exact I.freeC x c e
 ·obtain⟨a1,a2,a3⟩:=I.pin p h
  exact⟨a1,by rw[ap (hp p h)];exact a2,a3⟩
 ·by_cases q:b=a
  ·subst q
   rw[ar]at e
   cases e
   exact ho
  ·rw[ap q]at e
   exact(I.hok b u e).stay (fun _ _ _ z=>z) (fun c z=>nn z) fun c xs z=>nn z
theorem rC {M:Model}{A:Around}{E:Value→Shared→Prop}{i:Nat}{n:Str}{v:V}{Q:Unit→Shared→Prop}(I:Inv X pins σ H s)(hN:X.N.Nodup)(hi:X.N[i]?=some n)(hk:X.env.kindOf n=some .local)(hs:X.env.scope.names.lookup n=some .local)(hv:σ[i]?=some (some v))
  (h:∀ s',Inv X pins (σ.set i none) H s'→Q () s'):wpAny M A (unbindName X.env n) Q E s:=by
 obtain⟨m,hn,hl⟩:=id I.loc
 have hcls:(X.env.scope.kind==.class||(X.env.scope.kind==.module&&X.env.locals != X.env.globals))=false:=by rw[I.ok.kind];rfl
 obtain⟨u,ru,lk⟩:=hl i n v hi hv (.inl hs)
 have hm:m n=some u:=by
  rcases lk with ⟨_,e⟩ | ⟨z,_⟩
  ·exact e
  ·rw[hk]at z;rcases z with z | z<;>cases z
 have cne:=I.cne
 have hiσ:i < σ.length:=(List.getElem?_eq_some_iff.mp hv).1
 refine wpAny_unbindName_local hk hn hm hcls fun h' u' hn' hs'=>?_
 obtain⟨oL,_,_,hoL,_⟩:=id hn
 have nl:∀ b o,X.s₀.heap.get? b=some o→b≠X.env.locals:=fun b o e=>Nat.ne_of_lt (Nat.lt_of_lt_of_le (Heap.lt_size e) I.ok.above)
 refine h _ ⟨I.ok,I.os,I.bare,⟨fun b o e nn hb hx=>(hs'.2 b (nl b o e)).trans (I.base.keep b o e nn hb hx),fun b o e nn hb hx=>?_,I.base.free,fun b o e hx=>?_,I.base.tups,I.base.frzs,I.base.tbls⟩,⟨_,hn',fun j y v' e1 e2 e3=>?_⟩,fun y c e=>?_,I.free,I.freeC,fun p hp=>?_,fun b ob e=>?_,by simpa using I.len⟩
 ·obtain⟨sl,e1⟩:=I.base.slot b o e nn hb hx
  exact⟨sl,(hs'.2 b (nl b o e)).trans e1⟩
 ·obtain⟨o',e1⟩:=I.base.there b o e hx
  exact⟨o',(hs'.2 b (nl b o e)).trans e1⟩
 ·have hj:j≠i:=fun q=>by
   subst q
   rw[List.getElem?_set_self hiσ]at e2
   cases e2
  rw[List.getElem?_set_ne (Ne.symm hj)]at e2
  obtain⟨u2,r2,q⟩:=hl j y v' e1 e2 e3
  refine⟨u2,r2,?_⟩
  rcases q with ⟨k,e⟩ | ⟨k,c,e,z⟩
  ·refine .inl ⟨k,?_⟩
   have:y≠n:=fun e=>hj (i6 hN e1 (e ▸ hi))
   simp[this,e]
  ·exact .inr ⟨k,c,e,z.sameBut hs' (cne y c e)⟩
 ·obtain⟨w',z⟩:=I.cell y c e
  exact⟨w',z.sameBut hs' (cne y c e)⟩
 ·obtain⟨e,nn,ne,nf,d⟩:=I.pin p hp
  exact⟨(hs'.2 p.1 ne).trans e,nn,ne,nf,d⟩
 ·refine(I.hok b ob e).stay (fun c w' hc q=>(hs'.2 c ?_).trans q) (fun _ q=>q) fun _ _ q=>q
  rintro rfl
  rcases hc with z | z
  ·subst z;rw[I.free]at e;cases e
  ·rw[I.free]at z;cases z
end
structure Takes (K:PySem.W.Frag)(C:Nat→Addr)(C0:Addr)(q:Nat→Bool):Prop where
 exc:PySem.W.excIn K C0 bmVE "ValueError.__new__"=true
 sub:∀ k,q k=true→PySem.W.subIn K (.ref (C k)) (.ref C0)=some true
theorem nb {K:PySem.W.Frag}{C:Nat→Addr}{C0:Addr}{q:Nat→Bool}(T:Takes K C C0 q){M:Model}{A:Around}{E:Value→Shared→Prop}{h:Heap}{g:Array GenState}{d:Drawn}{t:Nat}{os:OsState}{e:Addr}{oe:Obj}{k:Nat}{Q:Bool→Shared→Prop}
  (X:K.In h) (he:h.get? e=some oe) (hc:oe.cls=.ref (C k)) (hk:q k=true) (hq:Q true ⟨h,g,d,t,os⟩):wpAny M A (excMatches (.ref e) (.ref C0)) Q E ⟨h,g,d,t,os⟩:=by
 obtain⟨bm,N,nm,qn,bs,hdct,sn,sub,ab,col,dd,k0,k1,k2,k3,k5,mN,hC,hN,hni,TL⟩:=p7 X T.exc
 have hcB:(Value.ref C0::bm).contains (.type "BaseException")=true:=by rw[List.contains_cons,TL.hasType (show bmVE.contains (.type "BaseException")=true by decide),Bool.or_true]
 have L3:=PySem.W.looks_subIn (M:=M) X (T.sub k hk)
 have f:=tc_notTuple
 unfold excMatches
 repeat (first | (with_reducible refine wpAny_loadPart_at he ?_;rw[hc]) | with_reducible refine wpAny_loadPart_at hC ?_ | (with_reducible refine wpAny_isSubtype_exc hC ?_;rw[hcB]) | (with_reducible refine L3.at ?_) | wp_step)
 exact hq
def blankS (S:SS):SS:=List.replicate S.length none
abbrev tryX (X:Cx)(pn:List (Addr×Obj))(xe:Value→Shared→Prop):Cx:={ X with A:=X.A,calm:=X.calm,pn:=pn,xe:=xe }
def bothH (F:Fx)(Z:Hp):Hp:=fun b=>match F.H0 b with
 | some o=>some o
 | none=>Z b
section
variable {F:Fx}{H Z:Hp}{S:SS}{σ:St}
theorem both1:Same F.H0 (bothH F Z):=fun b o e=>by unfold bothH;rw[e]
theorem both2 (ok:StOk F H Z S σ):Same (bothH F Z) H:=fun b o e=>by
 unfold bothH at e
 split at e
 ·rename_i o' q
  cases e
  exact ok.ex.same b _ q
 ·exact ok.sub b o e
theorem both3 (ok:StOk F H Z S σ):Same Z (bothH F Z):=fun b o e=>by
 unfold bothH
 split
 ·rename_i o' q
  have h1:=ok.ex.same b _ q
  have h2:=ok.sub b _ e
  rw[h1]at h2
  exact h2
 ·exact e
theorem p9 (ok:StOk F H Z S σ){H' Z':Hp}(x:Ex (bothH F Z) Z H' Z'):Ex F.H0 F.Z0 H' Z':=by
 refine⟨both1.trans x.same,ok.ex.z.trans x.z,x.sub,fun b h=>?_⟩
 rcases x.new b h with z | z
 ·exact ok.ex.new b z
 ·exact .inr (both1.free z)
theorem wa (ok:StOk F H Z S σ){E:XK}{H' Z':Hp}{S':SS}{σ':St}(h:StOk ⟨F.K,F.C,bothH F Z,Z,E⟩ H' Z' S' σ'):StOk F H' Z' S' σ' :=
 ⟨p9 ok h.ex,h.len,fun i x e=>by
  obtain⟨v,A,e1,o,p⟩:=h.sl i x e
  exact⟨v,A,e1,ow_K o,p.nd,p.z,fun a ha=>both1.free (p.h0 a ha)⟩,fun i j x y v w A B hij e1 e2 e3 e4 o1 o2=>h.dj i j x y v w A B hij e1 e2 e3 e4 (ow_K o1) (ow_K o2)⟩
theorem wb (ok:StOk F H Z S σ){E:XK}:StOk ⟨F.K,F.C,bothH F Z,Z,E⟩ H Z S σ :=
 ⟨⟨both2 ok,Same.refl _,ok.sub,fun b h=>.inl h⟩,ok.len,fun i x e=>by
  obtain⟨v,A,e1,o,p⟩:=ok.sl i x e
  refine⟨v,A,e1,ow_K o,p.nd,p.z,fun a ha=>?_⟩
  show bothH F Z a=none
  unfold bothH
  rw[p.h0 a ha]
  exact p.z a ha,fun i j x y v w A B hij e1 e2 e3 e4 o1 o2=>ok.dj i j x y v w A B hij e1 e2 e3 e4 (ow_K o1) (ow_K o2)⟩
theorem rD (ok:StOk F H Z S σ){H':Hp}{j k:Nat}{ea:Addr}{σ':St}(hs:Same (bothH F Z) H')(hn:H' ea=none)(hl:S.length=σ'.length)(hv:j < σ'.length→σ'[j]?=some (some (.ref ea))) :
  ∃ Z',Same Z Z'∧StOk F (upd H' ea (excO F.C k ea)) Z' ((blankS S).set j (some (.val (.exc k)))) σ':=by
 have zn:Z ea=none:=(both3 ok).free (hs.free hn)
 have fn:F.H0 ea=none:=both1.free (hs.free hn)
 have one:∀ {i:Nat} {x:Sl},((blankS S).set j (some (.val (.exc k))))[i]?=some (some x)→i=j∧x=.val (.exc k)∧j < S.length:=fun {i x} e=>by
  have hlen:(blankS S).length=S.length:=by unfold blankS;simp
  by_cases q:j=i
  ·subst q
   by_cases hj:j < S.length
   ·rw[List.getElem?_set_self (by rw[hlen];exact hj)]at e
    cases e
    exact⟨rfl,rfl,hj⟩
   ·rw[List.getElem?_eq_none (by simpa [hlen] using hj)]at e;cases e
  ·rw[List.getElem?_set_ne q]at e
   unfold blankS at e
   rw[List.getElem?_replicate]at e
   split at e<;>cases e
 refine⟨upd Z ea (excO F.C k ea),aC zn,⟨⟨(both1.trans hs).trans (aC hn),ok.ex.z.trans (aC zn),fun b o e=>?_,fun b h=>?_⟩,by simp[blankS,hl],fun i x e=>?_,fun i1 i2 x y v w A B _ e1 _ _ _ o1 _=>?_⟩⟩
 ·by_cases q:b=ea
  ·subst q;rw[ar]at e ⊢;exact e
  ·rw[ap q]at e ⊢;exact hs b o (both3 ok b o e)
 ·by_cases q:b=ea
  ·subst q;exact .inr fn
  ·rw[ap q]at h;exact ok.ex.new b h
 ·obtain⟨rfl,e2,hj⟩:=one e
  cases e2
  exact⟨.ref ea,[],hv (by rw[← hl];exact hj),⟨rfl,by rw[Rep];exact⟨ea,rfl,ar⟩⟩,Priv.nil⟩
 ·obtain⟨_,e2,_⟩:=one e1
  cases e2
  rw[o1.1];exact fun a ha=>nomatch ha
end
section
variable {X:Cx}{F:Fx}{body:List Stmt}{g:SS→O}{c n y:Str}{np np2 kp apos hpos pos:Pos}{k:Nat}{q:Nat→Bool}{C0:Addr}
end
end FF
end
noncomputable section
namespace FF
open PySem PySem.Spec PyProof.Rows L2
def eNeg (g:SS→R D):SS→R D:=fun S=>(g S).bind fun d=>match d with
 | .int i=>.ok (.int (-i))
 | _=>.stuck
section
variable {X:Cx}{F:Fx}{a:Expr}{g:SS→R D}{pos:Pos}{x:Str}{i:Int}
theorem ul (h:FE X F a g):FE X F (.UnaryOp .USub a pos) (eNeg g):=(yZ yc h).weak fun σ H Q ⟨Z,S,ok,w⟩=>aD ok w fun d v H1 Z1 ok1 x1 rv w1=>by
 cases d with
 | int i=>rw[Rep]at rv;exact⟨i,rv,WG.now w1 ok1.sub _ aE⟩
 | _=>exact w1.elim
theorem eR (h:∃ t,X.mg x=some (.int i t))(hg:Gl X x)(hd:(x==("__debug__":Str))=false:=by decide):FE X F (.Name x pos) (eC (.int i)):=by
 obtain⟨t,e⟩:=h
 exact c6 (aX (v:=.int i) hg e ⟨t,rfl⟩ hd) fun _=>aE
end
end FF
end
noncomputable section
namespace FF
open PySem PySem.Spec PyProof.Rows L2
section
variable {X:Cx}{F:Fx}{e:Expr}{es:List Expr}{g:SS→R D}{gs:SS→R (List D)}
end
end FF
end
noncomputable section
namespace FF
open PySem L2
def tupI (l:List Int):D:=.tup (l.map .int)
def dSw (d:D)(lo hi:Option Int):R D:=match d with
 | .lst xs=>.ok (.lst (cutD xs lo hi))
 | .tup xs=>.ok (.tup (cutD xs lo hi))
 | _=>.stuck
def eSw (g:SS→R D)(l h:SS→R (Option Int)):SS→R D:=fun S=>(g S).bind fun d=>(l S).bind fun lo=>(h S).bind fun hi=>dSw d lo hi
def intsOf:List D→Option (List Int)
 | []=>some []
 | .int i::r=>(intsOf r).map (i::·)
 | _::_=>none
def sumI (is:List Int):Int:=is.foldl (· + ·) 0
def dSum:List D→R D
 | [.lst xs]=>match intsOf xs with
  | some is=>.ok (.int (sumI is))
  | none=>.stuck
 | [.tup xs]=>match intsOf xs with
  | some is=>.ok (.int (sumI is))
  | none=>.stuck
 | _=>.stuck
def minI (a:Int)(is:List Int):Int:=is.foldl (fun m x=>if x < m then x else m) a
def maxI (a:Int)(is:List Int):Int:=is.foldl (fun m x=>if m < x then x else m) a
def dMinL:List D→R D
 | [.lst xs]=>match intsOf xs with
  | some (a::is)=>.ok (.int (minI a is))
  | _=>.stuck
 | _=>.stuck
def dMaxL:List D→R D
 | [.lst xs]=>match intsOf xs with
  | some (a::is)=>.ok (.int (maxI a is))
  | _=>.stuck
 | _=>.stuck
def dCountI (xs es:List D):R D:=match es with
 | [.int k]=>match intsOf xs with
  | some is=>.ok (.int (is.countP (· == k):Nat))
  | none=>.stuck
 | _=>.stuck
def setAll:List Nat→List D→SS→SS
 | i::r,d::ds,S=>setAll r ds (S.set i (some (.val d)))
 | _,_,S=>S
def gTup (ix:List Nat):D→SS→R SS:=fun d S=>match d with
 | .tup ds=>if ds.length=ix.length then .ok (setAll ix ds S) else .stuck
 | _=>.stuck
end FF
end
noncomputable section
namespace FF
open PySem PySem.Spec PyProof.Rows L2
def TupK (K:PySem.W.Frag)(a:Addr)(l:List Int):Prop :=
 ∃ (o:Obj) (its:Array Value) (n:Nat),K.lookup a=some o∧o.cls=.type "tuple" ∧ o.dict=none∧o.data=.seq its n∧its.size≤sizeLine∧Vals (l.map V.int) its.toList
theorem k6 {K:PySem.W.Frag}{C:Nat→Addr}{Z:Hp}:∀ ns:List Int,Reps K C Z (ns.map .int) (ns.map V.int)
 | []=>by rw[List.map_nil,List.map_nil,Reps]
 | i::ns=>by rw[List.map_cons,List.map_cons,Reps];exact⟨_,_,rfl,aE,k6 ns⟩
theorem lT {X:Cx}{F:Fx}{x:Str}{pos:Pos}{l:List Int}(h:∃ a,X.mg x=some (.ref a)∧TupK F.K a l)(hg:Gl X x)(hd:(x==("__debug__":Str))=false:=by decide):FE X F (.Name x pos) (eC (tupI l)):=by
 obtain⟨a,e,o,its,n,h1,h2,h2d,h3,h4,h5⟩:=h
 exact c6 (aX (v:=.ref a) hg e rfl hd) fun Z=>by
  unfold tupI
  rw[Rep]
  exact⟨a,_,rfl,.inr ⟨o,its,n,h1,h2,h2d,h3,h4,h5⟩,k6 l⟩
theorem a6 {K:PySem.W.Frag}{C:Nat→Addr}{Z:Hp}:∀ {ds:List D} {vs:List V} {is:List Int},Reps K C Z ds vs→intsOf ds=some is→vs=is.map V.int
 | [],vs,is,r,e=>by rw[Reps]at r;cases e;exact r
 | d::ds,vs,is,r,e=>by
  rw[Reps]at r
  obtain⟨v,r',rfl,h1,h2⟩:=r
  cases d with
  | int i =>
   rw[intsOf]at e
   cases q:intsOf ds with
   | none=>rw[q]at e;cases e
   | some is' =>
    rw[q]at e
    cases e
    rw[Rep]at h1
    rw[h1,a6 h2 q]
    rfl
  | _=>simp[intsOf]at e
theorem aU:∀ {is:List Int} {us:List Value},Vals (is.map V.int) us→∃ ps:List (Int×Tok),us=ps.map (fun p=>Value.int p.1 p.2)∧ps.map (·.1)=is
 | [],us,h=>by rw[List.map_nil]at h;cases h;exact⟨[],rfl,rfl⟩
 | i::is,us,h=>by
  rw[List.map_cons]at h
  cases h with
  | cons r t =>
   obtain⟨tk,e⟩:=(show ∃ t,_=Value.int i t from r)
   obtain⟨ps,e2,e3⟩:=aU t
   exact⟨(i,tk)::ps,by rw[e,e2];rfl,by rw[← e3];rfl⟩
theorem jp (ps:List (Int×Tok))(i:Nat)(x:Int)(h:(ps.map (·.1))[i]?=some x):numAt ps.toArray i=x:=by
 rw[List.getElem?_map]at h
 unfold numAt
 rw[List.getElem?_toArray]
 rw[h]
 rfl
theorem nc (ps:List (Int×Tok)):(List.range ps.length).map (numAt ps.toArray)=ps.map (·.1):=by
 apply List.ext_getElem?
 intro i
 rw[List.getElem?_map]
 by_cases hi:i < ps.length
 ·have hr:(List.range ps.length)[i]?=some i:=by simp[hi]
  have hx:(ps.map (·.1))[i]?=some (ps[i].1):=by simp[hi]
  rw[hr,hx]
  exact congrArg some (jp ps i _ hx)
 ·have hr:(List.range ps.length)[i]?=none:=by simp;omega
  have hx:(ps.map (·.1))[i]?=none:=by simp;omega
  rw[hr,hx]
  rfl
theorem ng (val:Nat→Int):∀ k,val (argBest (fun i j=>decide (val i < val j)) k)=minI (val 0) ((List.range k).map fun i=>val (i+1))
 | 0=>rfl
 | k+1=>by
  have ih:=ng val k
  rw[List.range_succ,List.map_append,argBest]
  unfold minI
  rw[List.foldl_append]
  show _=(if val (k+1) < minI (val 0) ((List.range k).map fun i=>val (i+1)) then val (k+1) else minI (val 0) ((List.range k).map fun i=>val (i+1)))
  rw[← ih]
  by_cases h:val (k+1) < val (argBest (fun i j=>decide (val i < val j)) k)
  ·rw[if_pos h,if_pos (by simpa using h)]
  ·rw[if_neg h,if_neg (by simpa using h)]
theorem jq (val:Nat→Int):∀ k,val (argBest (fun i j=>decide (val i > val j)) k)=maxI (val 0) ((List.range k).map fun i=>val (i+1))
 | 0=>rfl
 | k+1=>by
  have ih:=jq val k
  rw[List.range_succ,List.map_append,argBest]
  unfold maxI
  rw[List.foldl_append]
  show _=(if maxI (val 0) ((List.range k).map fun i=>val (i+1)) < val (k+1) then val (k+1) else maxI (val 0) ((List.range k).map fun i=>val (i+1)))
  rw[← ih]
  by_cases h:val (argBest (fun i j=>decide (val i > val j)) k) < val (k+1)
  ·rw[if_pos h,if_pos (by simpa using h)]
  ·rw[if_neg h,if_neg (by simpa using h)]
theorem fk (ps:List (Int×Tok))(a:Int)(is:List Int)(e:ps.map (·.1)=a::is):numAt ps.toArray 0=a∧(List.range (ps.length - 1)).map (fun i=>numAt ps.toArray (i+1))=is:=by
 have hl:ps.length=is.length+1:=by have:=congrArg List.length e;simpa using this
 refine⟨jp ps 0 a (by rw[e];rfl),?_⟩
 have h:=nc ps
 rw[e,hl,List.range_succ_eq_map,List.map_cons,List.map_map]at h
 injection h with _ h
 rw[hl,Nat.add_sub_cancel]
 exact h
section
variable {X:Cx}
theorem kr (hc:X.calm=true):CallR X (.builtin "min") (fun xs H Q=>∃ (p:Addr) (a:Int) (is:List Int),xs=[.ref p]∧SqL X.K H p ((a::is).map V.int)∧Q (.int (minI a is)) H):=by
 intro pins s σ H xs us Q I r h
 obtain⟨p,a,is,rfl,hq,q⟩:=h
 obtain⟨u,rfl,ru⟩:=vals1 r
 cases ru
 obtain⟨its,rv,pl,hz⟩:=I.list hq
 obtain⟨ps,rfl,e⟩:=aU rv
 obtain⟨e0,e1⟩:=fk ps a is e
 have hl:ps.length=is.length+1:=by have:=congrArg List.length e;simpa using this
 have hil:s.heap.IsList p (intItems ps.toArray):=by
  have:=pl.isList
  unfold intItems
  simpa using this
 refine min_intList (I.ok.hd hc) hil (by simp[hl]) fun v h' tk hv hk=>?_
 obtain⟨t,rfl⟩:=intItems_at hv
 have em:numAt ps.toArray (argBest (fun i j=>decide (numAt ps.toArray i < numAt ps.toArray j)) (ps.toArray.size - 1))=minI a is:=by
  rw[ng (numAt ps.toArray),e0,List.size_toArray,e1]
 rw[em]
 exact⟨.int (minI a is),H,I.kept fun b o e=>hk b o e,⟨t,rfl⟩,q⟩
theorem kt (hc:X.calm=true):CallR X (.builtin "max") (fun xs H Q=>∃ (p:Addr) (a:Int) (is:List Int),xs=[.ref p]∧SqL X.K H p ((a::is).map V.int)∧Q (.int (maxI a is)) H):=by
 intro pins s σ H xs us Q I r h
 obtain⟨p,a,is,rfl,hq,q⟩:=h
 obtain⟨u,rfl,ru⟩:=vals1 r
 cases ru
 obtain⟨its,rv,pl,hz⟩:=I.list hq
 obtain⟨ps,rfl,e⟩:=aU rv
 obtain⟨e0,e1⟩:=fk ps a is e
 have hl:ps.length=is.length+1:=by have:=congrArg List.length e;simpa using this
 have hil:s.heap.IsList p (intItems ps.toArray):=by
  have:=pl.isList
  unfold intItems
  simpa using this
 refine max_intList (I.ok.hd hc) hil (by simp[hl]) fun v h' tk hv hk=>?_
 obtain⟨t,rfl⟩:=intItems_at hv
 have em:numAt ps.toArray (argBest (fun i j=>decide (numAt ps.toArray i > numAt ps.toArray j)) (ps.toArray.size - 1))=maxI a is:=by
  rw[jq (numAt ps.toArray),e0,List.size_toArray,e1]
 rw[em]
 exact⟨.int (maxI a is),H,I.kept fun b o e=>hk b o e,⟨t,rfl⟩,q⟩
theorem rE {s:Shared}{l:Addr}{h':Heap}(hk:∀ b o,b∉[s.heap.objs.size]→(s.heap.push { cls:=.type "tuple_iterator",data:=.fields #[.ref l,.int 0 0] }).get? b=some o→h'.get? b=some o) :
  ∀ b o,s.heap.get? b=some o→h'.get? b=some o:=fun b o e=>by
 refine hk b o (fun hm=>?_) (Heap.get?_push_of_some _ e)
 rcases List.mem_cons.mp hm with e1 | hm
 ·exact absurd (e1 ▸ Heap.lt_size e) (Nat.lt_irrefl _)
 ·cases hm
end
theorem oZ {F:Fx}:CallD F (fun xs H Q=>∃ (p:Addr) (a:Int) (is:List Int),xs=[.ref p]∧SqL F.K H p ((a::is).map V.int)∧Q (.int (minI a is)) H) dMinL:=by
 intro H Z xs ds Q s rs w
 unfold dMinL at w
 split at w
 ·split at w
  ·rename_i x is e
   obtain⟨v,rfl,h⟩:=aZ rs
   rw[Rep]at h
   obtain⟨a,vs,rfl,h1,h2⟩:=h
   have e2:=a6 h2 e
   subst e2
   exact⟨a,x,is,rfl,s.seq h1,WG.now w s _ aE⟩
  ·exact w.elim
 ·exact w.elim
theorem o0 {F:Fx}:CallD F (fun xs H Q=>∃ (p:Addr) (a:Int) (is:List Int),xs=[.ref p]∧SqL F.K H p ((a::is).map V.int)∧Q (.int (maxI a is)) H) dMaxL:=by
 intro H Z xs ds Q s rs w
 unfold dMaxL at w
 split at w
 ·split at w
  ·rename_i x is e
   obtain⟨v,rfl,h⟩:=aZ rs
   rw[Rep]at h
   obtain⟨a,vs,rfl,h1,h2⟩:=h
   have e2:=a6 h2 e
   subst e2
   exact⟨a,x,is,rfl,s.seq h1,WG.now w s _ aE⟩
  ·exact w.elim
 ·exact w.elim
section
variable {X:Cx}{F:Fx}{p pos:Pos}{e:Expr}{gs:SS→R (List D)}{k:Nat}
theorem wc (bx:BX X F k)(hg:Gl X "min")(hm:X.mg "min"=none)(ha:FA X F [e] gs)(he:starEach [e] X.env=(false,eval e X.env)::starEach [] X.env:=by rfl)(hpl:(backTo pos (starEach [] X.env)).any (·.1)=false:=by rfl):FE X F (.Call (.Name "min" p) [e] [] pos) (eCall dMinL gs) :=
 dW (id := "min") (by have:=kr (X:=X) bx.calm;rw[bx.K]at this;exact this) oZ hg hm (by decide +kernel) ha (he:=he) (hpl:=hpl)
theorem qd (bx:BX X F k)(hg:Gl X "max")(hm:X.mg "max"=none)(ha:FA X F [e] gs)(he:starEach [e] X.env=(false,eval e X.env)::starEach [] X.env:=by rfl)(hpl:(backTo pos (starEach [] X.env)).any (·.1)=false:=by rfl):FE X F (.Call (.Name "max" p) [e] [] pos) (eCall dMaxL gs) :=
 dW (id := "max") (by have:=kt (X:=X) bx.calm;rw[bx.K]at this;exact this) o0 hg hm (by decide +kernel) ha (he:=he) (hpl:=hpl)
end
def rCountI (K:PySem.W.Frag):V→List V→Hp→VK→Prop:=fun x vs H Q=>∃ (l:Addr) (is:List Int) (k:Int),x=.ref l∧vs=[.int k]∧SqL K H l (is.map V.int)∧Q (.int (is.countP (· == k):Nat)) H
theorem gQ {X:Cx}{pins:List (Addr×Obj)}{σ:St}{H:Hp}{s:Shared}(I:Inv X pins σ H s){A:Around}(hu:A.units < cLine)(b k:Int)(t t':Tok):SeqAt.EqAt A s (.int b t) (.int k t') (b==k) :=
 fi (K:=X.K) (C:=fun _=>0) (Z:=fun _=>none) rfl I (fun _ _ e=>nomatch e) 0 A (.int b) (.int k) (.int b) (.int k) _ _ rfl rfl aE aE ⟨t,rfl⟩ ⟨t',rfl⟩ (by omega)
def isI (k:Int):Value→Bool
 | .int b _=>b==k
 | _=>false
theorem rF {X:Cx}{k:Nat}(hr:Room k X.A):MtR X "list.count" (rCountI X.K):=by
 intro pins s σ H x vs v us Q I rx rv h
 obtain⟨l,is,k,rfl,rfl,hH,q⟩:=h
 cases rx
 obtain⟨u,rfl,ru⟩:=rv.one
 obtain⟨tk,rfl⟩:=(show ∃ t,u=Value.int k t from ru)
 obtain⟨its,r,⟨⟨c2,d2,dt2,sl2⟩,n2,e2,p2,p3,p4⟩,z2⟩:=I.list hH
 obtain⟨ps,rfl,e⟩:=aU r
 simp only at p2 p3 p4
 subst p2 p3 p4
 refine call_meets F.slot_list_count ⟨_,e2,rfl⟩ F.entry_list_count (F.args_list_count_2 _ _) (SeqAt.list_countAt l _ n2 _ _ (.int k tk) (isI k)) ⟨e2,fun y hy=>?_,?_⟩
 ·have hy':y∈ps.map fun p=>Value.int p.1 p.2:=by simpa using hy
  obtain⟨b,_,rfl⟩:=List.mem_map.mp hy'
  exact gQ I (by have:=hr.un;show X.A.units+1 < cLine;omega) b.1 k b.2 tk
 ·have hc:((ps.map fun p=>Value.int p.1 p.2).toArray.toList.countP (isI k))=is.countP (· == k):=by
   show (ps.map fun p=>Value.int p.1 p.2).countP (isI k)=_
   rw[List.countP_map,← e,List.countP_map]
   rfl
  rw[hc]
  exact⟨.int _,H,I.tok _,⟨_,rfl⟩,q⟩
section
variable {X:Cx}{F:Fx}{o e:Expr}{g:SS→R D}{gs:SS→R (List D)}{apos cpos:Pos}{k:Nat}
theorem lU {K:PySem.W.Frag}{C:Nat→Addr}{Z:Hp}{k:Int}{vs:List V}(r:Reps K C Z [.int k] vs):vs=[.int k]:=by
 obtain⟨v,rfl,h⟩:=aZ r
 rw[Rep]at h
 rw[h]
theorem lV:MethD F (rCountI F.K) dCountI:=by
 intro H Z a vs xs us es Q s h1 h2 rs w
 unfold dCountI at w
 split at w
 ·rename_i k
  split at w
  ·rename_i is eb
   have e3:=a6 h2 eb
   subst e3
   exact⟨a,is,k,rfl,lU rs,h1,WG.now w s _ aE⟩
  ·exact w.elim
 ·exact w.elim
theorem k7 (bx:BX X F k)(ho:FE X F o g)(ha:FA X F [e] gs)
  (hbase:attributeBase o "count" X.env (eval o X.env)=eval o X.env:=by rfl)
  (hfew:((backTo cpos (starEach [e] X.env)).all (fun x=>!x.1)&&(backToKw cpos (keywordEach [] X.env)).all (fun x=>x.1.isSome)
   && decide ([e].length+([]:List Keyword).length+(if ([]:List Keyword).isEmpty then 0 else 1) < 30))=true:=by rfl)
  (hline:(apos.endLine==cpos.line)=true:=by rfl) (hs:starEach [e] X.env=(false,eval e X.env)::starEach [] X.env:=by rfl) (hplain:(backTo cpos (starEach [] X.env)).any (·.1)=false:=by rfl) :
  FE X F (.Call (.Attribute o "count" apos) [e] [] cpos) (eMethL dCountI g gs) :=
 (kS PySem.F.plainAttrs_list PySem.F.slot_list_count (by kernel_rfl) (rF bx.room) ho ha hbase hfew hline hs hplain).weak (by rw[bx.K];exact eQ lV)
end
end FF
namespace HT
open PySem PyProof.Rows
theorem e9 {prog:Program}{w:World}{A:Around}{E:Value→Shared→Prop}{s:Shared}{t sl:Addr}{items:Array Value}{vl vu:Value}{lo hi:Option Int}{Q:Value→Shared→Prop}(ht:IsTup s.heap t items)(hs:s.heap.IsSliceOf sl vl vu .none)(pl:IsPart vl lo)(pu:IsPart vu hi)
  (hw:sIx items.size 0 lo=0∧sIx items.size items.size hi=items.size) (h:Q (.ref t) s):wpAny (model prog w) A (getItem (.ref t) (.ref sl)) Q E s:=by
 obtain⟨os,hos,hcs,hds⟩:=id hs
 have hTs:s.TypeIs (.ref sl) "slice" := ⟨os,hos,hcs⟩
 unfold getItem
 try with_reducible refine wpAny_holding ?_
 first | refine wpAny_bind (wpAny_pure ?_) | skip
 refine wpAny_bind (wpAny_sequenceKey ht.typeIs (by decide) ?_)
 refine wpAny_bind (wpAny_callSpecial?_slot (name:=Str.ofString "__getitem__") ht.typeIs PyProof.Rows.slot_tuple_getitem
  (wpAny_call_entry PyProof.Rows.slot_tuple_getitem ht.typeIs entry_tuple_getitem ?_ (args_tuple_getitem _ _)))
 show wpAny _ _ (Builtin.Tuple.tupleItemsOf (.ref t) >>= _) _ _ s
 refine wpAny_bind (tupleItemsOf_ ht ?_)
 refine wpAny_bind (wpAny_typeOf hTs ?_)
 rw[if_pos (by decide)]
 refine wpAny_bind (cN hs pl pu ?_)
 rw[hw.1,hw.2]
 show wpAny _ _ (if (((0:Nat):Int)==0&&(1:Int)==1&&(items.size - 0)==items.size)=true then _ else _) _ _ s
 rw[if_pos (by simp)]
 unfold Builtin.Tuple.tupleIsExact
 refine wpAny_bind (wpAny_bind (wpAny_typeOf ht.typeIs (wpAny_pure ?_)))
 rw[if_pos (by decide)]
 exact wpAny_bind (wpAny_rule (wpAny_pure ⟨_,rfl,wpAny_pure h⟩))
end HT
namespace FF
open PySem PySem.Spec PyProof.Rows L2
def rSlW (K:PySem.W.Frag):V→Option Int→Option Int→Hp→VK→Prop:=fun x lo hi H Q=>∃ a xs,x=.ref a∧SqT K H a xs∧(HT.sIx xs.length 0 lo=0∧HT.sIx xs.length xs.length hi=xs.length)∧Q (.ref a) H
theorem wd {X:Cx}:SlR X (rSlW X.K):=by
 intro pins s σ H x v vl vu lo hi sl Q I rx hs pl pu h
 obtain⟨a,xs,rfl,hx,hw,q⟩:=h
 cases rx
 obtain⟨its,r,ht,hz⟩:=I.tuple hx
 have hlen:its.toArray.size=xs.length:=by rw[List.size_toArray];exact r.length.symm
 refine⟨"tuple",_,PyProof.Rows.slot_tuple_getitem.lookup,ht.typeIs,?_⟩
 refine HT.e9 ht hs pl pu (by rw[hlen];exact hw) ?_
 exact⟨.ref a,H,I,rfl,q⟩
theorem rG {xs:List D}{lo hi:Option Int}(h:HT.sIx xs.length 0 lo=0∧HT.sIx xs.length xs.length hi=xs.length):cutD xs lo hi=xs:=by
 unfold cutD
 rw[h.1,h.2,List.drop_zero,Nat.sub_zero,List.take_length]
section
variable {X:Cx}{F:Fx}{e:Expr}{lo hi:Option Expr}{g:SS→R D}{l h:SS→R (Option Int)}{pos p2:Pos}
theorem fm (hK:X.K=F.K)(he:FE X F e g)(hl:PO X lo (tP F l))(hh:PO X hi (tP F h)):FE X F (.Subscript e (.Slice lo hi none p2) pos) (eSw g l h) :=
 (tN (vR.or (yg.or wd)) he hl hh).weak fun σ H Q ⟨Z,S,ok,w⟩=>aD ok w fun d v H1 Z1 ok1 x1 rv w1=>p5 ok1 w1 fun o H2 Z2 ok2 x2 w2=>p5 ok2 w2 fun o' H3 Z3 ok3 x3 w3=>by
  have rv3:=rv.mono (x2.z.trans x3.z)
  cases d with
  | lst ds =>
   rw[Rep]at rv3
   obtain⟨a,vs,rfl,h1,h2⟩:=rv3
   refine .inl ⟨a,vs,rfl,by rw[hK];exact ok3.sub.seq h1,fun p hp=>?_⟩
   have z:Same Z3 (upd Z3 p (.lst (cutV vs o o'))):=aC (ok3.sub.free hp)
   exact w3 _ _ (Ex.alloc ok3.sub hp) _ (by rw[Rep];exact⟨p,_,rfl,SqL.of ar,(h2.cut o o').mono z⟩)
  | tup ds =>
   have rv4:=rv3
   rw[Rep]at rv3
   obtain⟨a,vs,rfl,h1,h2⟩:=rv3
   have w4:WG F H3 Z3 (R.ok (FF.D.tup (cutD ds o o'))) _:=w3
   by_cases hw:HT.sIx ds.length 0 o=0∧HT.sIx ds.length ds.length o'=ds.length
   ·refine .inr (.inr ⟨a,vs,rfl,by rw[hK];exact h1.mono ok3.sub,by rw[← h2.length];exact hw,?_⟩)
    rw[rG hw]at w4
    exact WG.now w4 ok3.sub _ rv4
   ·refine .inr (.inl ⟨a,vs,rfl,by rw[hK];exact h1.mono ok3.sub,by rw[← h2.length];exact hw,fun p hp=>?_⟩)
    have z:Same Z3 (upd Z3 p (.tup (cutV vs o o'))):=aC (ok3.sub.free hp)
    exact w4 _ _ (Ex.alloc ok3.sub hp) _ (by rw[Rep];exact⟨p,_,rfl,SqT.of ar,(h2.cut o o').mono z⟩)
  | _=>exact w3.elim
end
theorem R.bind_assoc {α β γ:Type}(r:R α)(f:α→R β)(g:β→R γ):(r.bind f).bind g=r.bind fun x=>(f x).bind g:=by cases r<;>rfl
end FF
end
noncomputable section
namespace FF
open PySem L2
def sameK:D→D→Bool
 | .tup _,.tup _=>true
 | .int _,.int _=>true
 | _,_=>false
def dInI (x y:D):R D:=match x,y with
 | .int i,.tup ds=>match intsOf ds with
  | some is=>.ok (.bl (is.any (· == i)))
  | none=>.stuck
 | _,_=>.stuck
def dIndexI (xs es:List D):R D:=match es with
 | [.int k]=>match intsOf xs with
  | some is=>if is.idxOf k < is.length then .ok (.int (is.idxOf k:Nat)) else .stuck
  | none=>.stuck
 | _=>.stuck
def eOwnIx (i:Nat)(g:SS→R D):SS→R D:=fun S=>match S[i]? with
 | some (some (.own ds))=>(g S).bind fun k=>match k with
  | .int j=>match atI ds j with
   | some d=>.ok d
   | none=>.stuck
  | _=>.stuck
 | _=>.stuck
end FF
end
noncomputable section
namespace PySem.SeqAt
open AutoSeq1 (wpAny_loadPart')
open MeetsSeq MeetsSeq2 MeetsSeq3 SeqRoads2
theorem tuple_indexAt (l:Addr)(items:Array Value)(n:Nat)(dd:Option Addr)(sl:Array (Option Value))(x:Value)(e:Value→Bool)(j:Nat)(hj:j < items.size)
  (hit:e items[j]=true) (hno:∀ m (hm:m < items.size),m < j→e items[m]=false) :
  Meets (Builtin.«tuple.index» ⟨[.ref l,x],[]⟩)
   (fun A R s=>s.heap.get? l=some { cls:=.type "tuple",dict:=dd,data:=.seq items n,slots:=sl }∧(∀ y,y∈items→EqAt A.in1 s y x (e y))∧R (.ok (.ret (.int (j:Nat) s.toks))) { s with toks:=s.toks+1 }) :=
 .of_wp fun prog w A R s h=>by
  obtain⟨hp,g,d,tk,os⟩:=s;obtain⟨hl,he,h⟩:=h
  wp_walk using wpAny_loadPart' hl
  have key:∀ (k i:Nat) (Q:Option Fin×Unit→Shared→Prop) (E:Value→Shared→Prop),k=items.size - i→i≤j→Q (some (.done (.ret (.int (j:Nat) tk))),()) ⟨hp,g,d,tk+1,os⟩ →
    wpAny (model prog w) A.in1 (forIn (List.range' i k) (none,()) fun (i:Nat) (_:Option Fin×Unit)=>(match items[i]? with
     | some y=>do
      let b ← eqBool y x
      if b=true then do
       let r ← retInt (i:Int)
       pure (ForInStep.done (some r,()))
      else pure (ForInStep.yield (none,()))
     | _=>pure (ForInStep.yield (none,())):Sem (ForInStep (Option Fin×Unit)))) Q E ⟨hp,g,d,tk,os⟩:=fun k=>by
   induction k with
   | zero=>intro i Q E hk hi hq;omega
   | succ k ih =>
    intro i Q E hk hi hq
    have hlt:i < items.size:=by omega
    have hx:items[i]?=some items[i]:=by simp[hlt]
    rw[List.range'_succ,List.forIn_cons,hx]
    refine wpAny_bind (wpAny_bind (he items[i] (by simp) prog w _ _ ?_))
    cases hy:e items[i] with
    | true =>
     have hij:i=j:=by
      rcases Nat.lt_or_ge i j with h1 | h1
      ·rw[hno i hlt h1]at hy;cases hy
      ·omega
     subst hij
     rw[if_pos rfl]
     unfold retInt
     wp_walk
     exact hq
    | false =>
     rw[if_neg (by decide)]
     have hne:i≠j:=fun q=>by subst q;rw[hit]at hy;cases hy
     refine wpAny_pure ?_
     exact ih (i+1) Q E (by omega) (by omega) hq
  show wpAny (model prog w) A.in1 (forIn ([:min items.size items.size]:Std.Legacy.Range) (none,()) fun (i:Nat) (_:Option Fin×Unit)=>(match items[i]? with
     | some y=>do
      let b ← eqBool y x
      if b=true then do
       let r ← retInt (i:Int)
       pure (ForInStep.done (some r,()))
      else pure (ForInStep.yield (none,()))
     | _=>pure (ForInStep.yield (none,())):Sem (ForInStep (Option Fin×Unit)))) _ _ _
  rw[Std.Legacy.Range.forIn_eq_forIn_range']
  simp only[Std.Legacy.Range.size,Nat.sub_zero,Nat.add_sub_cancel,Nat.div_one,Nat.min_self]
  refine key _ 0 _ _ rfl (Nat.zero_le _) ?_
  wp_walk
  exact⟨_,rfl,h⟩
end PySem.SeqAt
namespace FF
open PySem PySem.Spec PyProof.Rows L2
section
variable {X:Cx}{F:Fx}{a b:Expr}{ga gb:SS→R D}{pos:Pos}{k:Nat}
end
section
variable {X:Cx}{F:Fx}{a b:Expr}{ga gb:SS→R D}{pos:Pos}{k:Nat}
end
def rIndexT (K:PySem.W.Frag):V→List V→Hp→VK→Prop:=fun x vs H Q=>∃ (l:Addr) (is:List Int) (k:Int),x=.ref l∧vs=[.int k]∧SqT K H l (is.map V.int)∧is.idxOf k < is.length∧Q (.int (is.idxOf k:Nat)) H
theorem rH {X:Cx}{k:Nat}(hr:Room k X.A):MtR X "tuple.index" (rIndexT X.K):=by
 intro pins s σ H x vs v us Q I rx rv h
 obtain⟨l,is,k,rfl,rfl,hH,hj,q⟩:=h
 cases rx
 obtain⟨u,rfl,ru⟩:=rv.one
 obtain⟨tk,rfl⟩:=(show ∃ t,u=Value.int k t from ru)
 obtain⟨its,r,ht,hz⟩:=I.tuple hH
 obtain⟨ps,rfl,e⟩:=aU r
 have hT:s.TypeIs (.ref l) "tuple" := ht.typeIs
 obtain⟨⟨c2,d2,dt2,sl2⟩,e2,p2,n2,p3⟩:=ht
 simp only at p2 p3
 subst p2 p3
 have hl:ps.length=is.length:=by have:=congrArg List.length e;simpa using this
 have hsz:is.idxOf k < (ps.map fun p=>Value.int p.1 p.2).toArray.size:=by rw[List.size_toArray,List.length_map,hl];exact hj
 have hat:∀ m (hm:m < (ps.map fun p=>Value.int p.1 p.2).toArray.size) (hm':m < is.length),isI k (ps.map fun p=>Value.int p.1 p.2).toArray[m]=(is[m]==k):=fun m hm hm'=>by
  subst e
  simp[isI]
 refine call_meets F.slot_tuple_index hT F.entry_tuple_index (F.args_tuple_index_2 _ _) (SeqAt.tuple_indexAt l _ n2 _ _ (.int k tk) (isI k) (is.idxOf k) hsz ?_ ?_) ⟨e2,fun y hy=>?_,⟨.int _,H,I.tok _,⟨_,rfl⟩,q⟩⟩
 ·rw[hat _ _ hj]
  exact List.findIdx_getElem (w:=hj)
 ·intro m hm hlt
  have hm':m < is.length:=by omega
  rw[hat _ _ hm']
  exact Bool.eq_false_iff.mpr (by simpa using List.not_of_lt_findIdx hlt)
 ·have hy':y∈ps.map fun p=>Value.int p.1 p.2:=by simpa using hy
  obtain⟨b,_,rfl⟩:=List.mem_map.mp hy'
  exact gQ I (by have:=hr.un;show X.A.units+1 < cLine;omega) b.1 k b.2 tk
section
variable {X:Cx}{F:Fx}{o e:Expr}{g:SS→R D}{gs:SS→R (List D)}{apos cpos:Pos}{k:Nat}
end
section
variable {X:Cx}{F:Fx}{pos p:Pos}{k:Nat}{gs:SS→R (List D)}{g ge:SS→R D}{e ei:Expr}{x:Str}
theorem um (i:Nat){p0:Pos}(hK:X.K=F.K)(he:FE X F e g)(hs:PlainIx e:=by intro _ _;rfl)(hi:X.N[i]?=some x:=by rfl)(hv:Vis X.env.scope x:=by first | exact Or.inl rfl | exact Or.inr (Or.inl rfl) | exact Or.inr (Or.inr rfl))(hd:(x==("__debug__":Str))=false:=by decide)
  (hcd:(x==("__classdict__":Str))=false:=by decide):FE X F (.Subscript (.Name x p0) e pos) (eOwnIx i g) :=
 (tO lI (fg hi hv hd hcd) he hs).weak fun σ H Q ⟨Z,S,ok,w⟩=>by
  unfold eOwnIx at w
  split at w
  ·rename_i ds e0
   obtain⟨a,vs,e1,e2,e3,e4,r⟩:=ok.own i ds e0
   refine⟨.ref a,e1,aD ok w fun d v H1 Z1 ok1 x1 rv w1=>?_⟩
   cases d with
   | int j =>
    rw[Rep]at rv
    have w2:WG F H1 Z1 (match atI ds j with | some d=>R.ok d | none=>R.stuck) _:=w1
    cases q:atI ds j with
    | none=>rw[q]at w2;exact w2.elim
    | some d =>
     rw[q]at w2
     obtain⟨v',f1,f2⟩:=(r.mono x1.z).at q
     exact⟨a,vs,j,v',rfl,rv,SqL.of (x1.same _ _ e2),f1,WG.now w2 ok1.sub _ f2⟩
   | _=>exact w1.elim
  ·exact w.elim
theorem Reps.setAt {K:PySem.W.Frag}{C:Nat→Addr}{Z:Hp}{d:D}{v:V}(q:Rep K C Z d v):∀ {ds:List D} {vs:List V} (j:Nat),Reps K C Z ds vs→Reps K C Z (ds.set j d) (vs.set j v)
 | [],vs,j,r=>by rw[Reps]at r;subst r;rw[List.set_nil,List.set_nil,Reps]
 | a::ds,vs,0,r=>by
  rw[Reps]at r
  obtain⟨w,r',rfl,h1,h2⟩:=r
  rw[List.set_cons_zero,List.set_cons_zero,Reps]
  exact⟨_,_,rfl,q,h2⟩
 | a::ds,vs,j+1,r=>by
  rw[Reps]at r
  obtain⟨w,r',rfl,h1,h2⟩:=r
  rw[List.set_cons_succ,List.set_cons_succ,Reps]
  exact⟨_,_,rfl,h1,Reps.setAt q j h2⟩
end
end FF
end
noncomputable section
namespace FF
open PySem PySem.Spec PyProof.Rows L2
def dNf (x y:D):R D:=if good 60 x=true∧good 60 y=true then .ok (.bl (!eqD x y)) else .stuck
theorem we {X:Cx}{pins:List (Addr×Obj)}{σ:St}{H Z:Hp}{s:Shared}{K:PySem.W.Frag}{C:Nat→Addr}(hK:X.K=K)(I:Inv X pins σ H s)(z:Same Z H)(n:Nat)(A:Around)(d e:D)(v u:V)(x y:Value)(g1:good n d=true)(g2:good n e=true)
  (h:Rep K C Z d v) (h':Rep K C Z e u) (rx:RelV v x) (ry:RelV u y) (hu:A.units+n < cLine):SeqAt.RcNeAt A s x y (!eqD d e):=by
 have hu0:A.units < cLine:=by omega
 cases d with
 | exc k=>cases n<;>simp[good]at g1
 | fn k=>cases n<;>simp[good]at g1
 | tup ds =>
  cases n with
  | zero=>simp[good]at g1
  | succ n =>
   have in1:A.in1.units+n < cLine:=by show A.units+1+n < cLine;omega
   rw[Rep]at h
   obtain⟨a,vs,rfl,h1,h2⟩:=h
   cases rx
   obtain⟨its,r,p,_⟩:=I.tuple (by rw[hK];exact h1.mono z:SqT X.K H a vs)
   have p':s.heap.IsTuple a its.toArray:=p
   cases e with
   | tup es =>
    rw[Rep]at h'
    obtain⟨b,us,rfl,k1,k2⟩:=h'
    cases ry
    obtain⟨its2,r2,p2,_⟩:=I.tuple (by rw[hK];exact k1.mono z:SqT X.K H b us)
    have p2':s.heap.IsTuple b its2.toArray:=p2
    rw[good]at g1 g2
    have q:=SeqAt.RcNeAt.tuples (A:=A) (e:=fun j=>eqD (ds.getD j .non) (es.getD j .non)) p' p2' hu0 fun j j1 j2=>by
     have j1':j < its.length:=by simpa using j1
     have j2':j < its2.length:=by simpa using j2
     have l1:j < ds.length:=by rw[h2.length,r.length];exact j1'
     have l2:j < es.length:=by rw[k2.length,r2.length];exact j2'
     have e1:ds[j]?=some ds[j]:=by simp
     have e2:es[j]?=some es[j]:=by simp
     obtain⟨w1,f1,f2⟩:=h2.get e1
     obtain⟨w2,f3,f4⟩:=k2.get e2
     obtain⟨z1,m1,m2⟩:=r.get f1
     obtain⟨z2,m3,m4⟩:=r2.get f3
     have n1:its.toArray[j]=z1:=by simpa [j1'] using m1
     have n2:its2.toArray[j]=z2:=by simpa [j2'] using m3
     rw[n1,n2]
     have g3:ds.getD j .non=ds[j]:=by simp[l1]
     have g4:es.getD j .non=es[j]:=by simp[l2]
     rw[g3,g4]
     exact fi hK I z n A.in1 _ _ w1 w2 z1 z2 (aM g1 e1) (aM g2 e2) f2 f4 m2 m4 in1
    rw[eqD,cm]
    have s1:its.toArray.size=ds.length:=by rw[List.size_toArray,h2.length,r.length]
    have s2:its2.toArray.size=es.length:=by rw[List.size_toArray,k2.length,r2.length]
    rw[s1,s2]at q
    exact q
   | lst es =>
    rw[Rep]at h'
    obtain⟨b,us,rfl,k1,k2⟩:=h'
    cases ry
    obtain⟨its2,r2,p2,_⟩:=I.list (by rw[hK];exact z.seq k1:SqL X.K H b us)
    simp only[eqD,Bool.not_false,Bool.not_true]
    exact SeqAt.RcNeAt.tuple_list p' p2.isList hu0
   | exc k=>simp[good]at g2
   | fn k=>simp[good]at g2
   | non=>rw[Rep]at h';subst h';cases ry;simp only[eqD,Bool.not_false,Bool.not_true];exact SeqAt.RcNeAt.tuple_none p' hu0
   | bl b=>rw[Rep]at h';subst h';cases ry;simp only[eqD,Bool.not_false,Bool.not_true];exact SeqAt.RcNeAt.tuple_bool _ p' hu0
   | int b=>rw[Rep]at h';subst h';obtain⟨t,rfl⟩:=ry;simp only[eqD,Bool.not_false,Bool.not_true];exact SeqAt.RcNeAt.tuple_int _ _ p' hu0
   | str b=>rw[Rep]at h';subst h';obtain⟨t,rfl⟩:=ry;simp only[eqD,Bool.not_false,Bool.not_true];exact SeqAt.RcNeAt.tuple_str _ _ p' hu0
 | lst ds =>
  cases n with
  | zero=>simp[good]at g1
  | succ n =>
   have in1:A.in1.units+n < cLine:=by show A.units+1+n < cLine;omega
   rw[Rep]at h
   obtain⟨a,vs,rfl,h1,h2⟩:=h
   cases rx
   obtain⟨its,r,p,_⟩:=I.list (by rw[hK];exact z.seq h1:SqL X.K H a vs)
   have p':=p.isList
   cases e with
   | lst es =>
    rw[Rep]at h'
    obtain⟨b,us,rfl,k1,k2⟩:=h'
    cases ry
    obtain⟨its2,r2,p2,_⟩:=I.list (by rw[hK];exact z.seq k1:SqL X.K H b us)
    have p2':=p2.isList
    rw[good]at g1 g2
    have s1:its.toArray.size=ds.length:=by rw[List.size_toArray,h2.length,r.length]
    have s2:its2.toArray.size=es.length:=by rw[List.size_toArray,k2.length,r2.length]
    rw[eqD,cm]
    by_cases hsz:ds.length=es.length
    ·have q:=SeqAt.RcNeAt.lists (A:=A) (e:=fun j=>eqD (ds.getD j .non) (es.getD j .non)) p' p2' (by rw[s1,s2];exact hsz) hu0 fun j j1 j2=>by
      have j1':j < its.length:=by simpa using j1
      have j2':j < its2.length:=by simpa using j2
      have l1:j < ds.length:=by rw[h2.length,r.length];exact j1'
      have l2:j < es.length:=by rw[k2.length,r2.length];exact j2'
      have e1:ds[j]?=some ds[j]:=by simp
      have e2:es[j]?=some es[j]:=by simp
      obtain⟨w1,f1,f2⟩:=h2.get e1
      obtain⟨w2,f3,f4⟩:=k2.get e2
      obtain⟨z1,m1,m2⟩:=r.get f1
      obtain⟨z2,m3,m4⟩:=r2.get f3
      have n1:its.toArray[j]=z1:=by simpa [j1'] using m1
      have n2:its2.toArray[j]=z2:=by simpa [j2'] using m3
      rw[n1,n2]
      have g3:ds.getD j .non=ds[j]:=by simp[l1]
      have g4:es.getD j .non=es[j]:=by simp[l2]
      rw[g3,g4]
      exact fi hK I z n A.in1 _ _ w1 w2 z1 z2 (aM g1 e1) (aM g2 e2) f2 f4 m2 m4 in1
     rw[s1]at q
     rw[hsz,Nat.min_self,beq_self_eq_true,Bool.and_true,← hsz]
     exact q
    ·have q:=SeqAt.RcNeAt.lists_lengths (A:=A) p' p2' (by rw[s1,s2];simpa using hsz) hu0
     rw[show (ds.length==es.length)=false by simpa using hsz,Bool.and_false]
     exact q
   | tup es =>
    rw[Rep]at h'
    obtain⟨b,us,rfl,k1,k2⟩:=h'
    cases ry
    obtain⟨its2,r2,p2,_⟩:=I.tuple (by rw[hK];exact k1.mono z:SqT X.K H b us)
    simp only[eqD,Bool.not_false,Bool.not_true]
    exact SeqAt.RcNeAt.list_tuple p' (show s.heap.IsTuple b its2.toArray from p2) hu0
   | exc k=>simp[good]at g2
   | fn k=>simp[good]at g2
   | non=>rw[Rep]at h';subst h';cases ry;simp only[eqD,Bool.not_false,Bool.not_true];exact SeqAt.RcNeAt.list_none p' hu0
   | bl b=>rw[Rep]at h';subst h';cases ry;simp only[eqD,Bool.not_false,Bool.not_true];exact SeqAt.RcNeAt.list_bool _ p' hu0
   | int b=>rw[Rep]at h';subst h';obtain⟨t,rfl⟩:=ry;simp only[eqD,Bool.not_false,Bool.not_true];exact SeqAt.RcNeAt.list_int _ _ p' hu0
   | str b=>rw[Rep]at h';subst h';obtain⟨t,rfl⟩:=ry;simp only[eqD,Bool.not_false,Bool.not_true];exact SeqAt.RcNeAt.list_str _ _ p' hu0
 | non =>
  rw[Rep]at h;subst h;cases rx
  cases e with
  | tup es =>
   rw[Rep]at h'
   obtain⟨b,us,rfl,k1,k2⟩:=h'
   cases ry
   obtain⟨its2,r2,p2,_⟩:=I.tuple (by rw[hK];exact k1.mono z:SqT X.K H b us)
   simp only[eqD,Bool.not_false,Bool.not_true];exact SeqAt.RcNeAt.none_tuple (show s.heap.IsTuple b its2.toArray from p2) hu0
  | lst es =>
   rw[Rep]at h'
   obtain⟨b,us,rfl,k1,k2⟩:=h'
   cases ry
   obtain⟨its2,r2,p2,_⟩:=I.list (by rw[hK];exact z.seq k1:SqL X.K H b us)
   simp only[eqD,Bool.not_false,Bool.not_true];exact SeqAt.RcNeAt.none_list p2.isList hu0
  | exc k=>cases n<;>simp[good]at g2
  | fn k=>cases n<;>simp[good]at g2
  | non=>rw[Rep]at h';subst h';cases ry;simp only[eqD,Bool.not_false,Bool.not_true];exact SeqAt.RcNeAt.none_none
  | bl b=>rw[Rep]at h';subst h';cases ry;simp only[eqD,Bool.not_false,Bool.not_true];exact SeqAt.RcNeAt.none_bool _
  | int b=>rw[Rep]at h';subst h';obtain⟨t,rfl⟩:=ry;simp only[eqD,Bool.not_false,Bool.not_true];exact SeqAt.RcNeAt.none_int _ _
  | str b=>rw[Rep]at h';subst h';obtain⟨t,rfl⟩:=ry;simp only[eqD,Bool.not_false,Bool.not_true];exact SeqAt.RcNeAt.none_str _ _
 | bl a =>
  rw[Rep]at h;subst h;cases rx
  cases e with
  | tup es =>
   rw[Rep]at h'
   obtain⟨b,us,rfl,k1,k2⟩:=h'
   cases ry
   obtain⟨its2,r2,p2,_⟩:=I.tuple (by rw[hK];exact k1.mono z:SqT X.K H b us)
   simp only[eqD,Bool.not_false,Bool.not_true];exact SeqAt.RcNeAt.bool_tuple _ (show s.heap.IsTuple b its2.toArray from p2) hu0
  | lst es =>
   rw[Rep]at h'
   obtain⟨b,us,rfl,k1,k2⟩:=h'
   cases ry
   obtain⟨its2,r2,p2,_⟩:=I.list (by rw[hK];exact z.seq k1:SqL X.K H b us)
   simp only[eqD,Bool.not_false,Bool.not_true];exact SeqAt.RcNeAt.bool_list _ p2.isList hu0
  | exc k=>cases n<;>simp[good]at g2
  | fn k=>cases n<;>simp[good]at g2
  | non=>rw[Rep]at h';subst h';cases ry;simp only[eqD,Bool.not_false,Bool.not_true];exact SeqAt.RcNeAt.bool_none _
  | bl b=>rw[Rep]at h';subst h';cases ry;simp only[eqD,Bool.not_false,Bool.not_true];exact SeqAt.RcNeAt.bool_bool _ _
  | int b=>rw[Rep]at h';subst h';obtain⟨t,rfl⟩:=ry;simp only[eqD,Bool.not_false,Bool.not_true];exact SeqAt.RcNeAt.bool_int _ _ _
  | str b=>rw[Rep]at h';subst h';obtain⟨t,rfl⟩:=ry;simp only[eqD,Bool.not_false,Bool.not_true];exact SeqAt.RcNeAt.bool_str _ _ _
 | int a =>
  rw[Rep]at h;subst h;obtain⟨t0,rfl⟩:=rx
  cases e with
  | tup es =>
   rw[Rep]at h'
   obtain⟨b,us,rfl,k1,k2⟩:=h'
   cases ry
   obtain⟨its2,r2,p2,_⟩:=I.tuple (by rw[hK];exact k1.mono z:SqT X.K H b us)
   simp only[eqD,Bool.not_false,Bool.not_true];exact SeqAt.RcNeAt.int_tuple _ _ (show s.heap.IsTuple b its2.toArray from p2) hu0
  | lst es =>
   rw[Rep]at h'
   obtain⟨b,us,rfl,k1,k2⟩:=h'
   cases ry
   obtain⟨its2,r2,p2,_⟩:=I.list (by rw[hK];exact z.seq k1:SqL X.K H b us)
   simp only[eqD,Bool.not_false,Bool.not_true];exact SeqAt.RcNeAt.int_list _ _ p2.isList hu0
  | exc k=>cases n<;>simp[good]at g2
  | fn k=>cases n<;>simp[good]at g2
  | non=>rw[Rep]at h';subst h';cases ry;simp only[eqD,Bool.not_false,Bool.not_true];exact SeqAt.RcNeAt.int_none _ _
  | bl b=>rw[Rep]at h';subst h';cases ry;simp only[eqD,Bool.not_false,Bool.not_true];exact SeqAt.RcNeAt.int_bool _ _ _
  | int b=>rw[Rep]at h';subst h';obtain⟨t,rfl⟩:=ry;simp only[eqD,Bool.not_false,Bool.not_true];exact SeqAt.RcNeAt.int_int _ _ _ _
  | str b=>rw[Rep]at h';subst h';obtain⟨t,rfl⟩:=ry;simp only[eqD,Bool.not_false,Bool.not_true];exact SeqAt.RcNeAt.int_str _ _ _ _
 | str a =>
  rw[Rep]at h;subst h;obtain⟨t0,rfl⟩:=rx
  cases e with
  | tup es =>
   rw[Rep]at h'
   obtain⟨b,us,rfl,k1,k2⟩:=h'
   cases ry
   obtain⟨its2,r2,p2,_⟩:=I.tuple (by rw[hK];exact k1.mono z:SqT X.K H b us)
   simp only[eqD,Bool.not_false,Bool.not_true];exact SeqAt.RcNeAt.str_tuple _ _ (show s.heap.IsTuple b its2.toArray from p2) hu0
  | lst es =>
   rw[Rep]at h'
   obtain⟨b,us,rfl,k1,k2⟩:=h'
   cases ry
   obtain⟨its2,r2,p2,_⟩:=I.list (by rw[hK];exact z.seq k1:SqL X.K H b us)
   simp only[eqD,Bool.not_false,Bool.not_true];exact SeqAt.RcNeAt.str_list _ _ p2.isList hu0
  | exc k=>cases n<;>simp[good]at g2
  | fn k=>cases n<;>simp[good]at g2
  | non=>rw[Rep]at h';subst h';cases ry;simp only[eqD,Bool.not_false,Bool.not_true];exact SeqAt.RcNeAt.str_none _ _
  | bl b=>rw[Rep]at h';subst h';cases ry;simp only[eqD,Bool.not_false,Bool.not_true];exact SeqAt.RcNeAt.str_bool _ _ _
  | int b=>rw[Rep]at h';subst h';obtain⟨t,rfl⟩:=ry;simp only[eqD,Bool.not_false,Bool.not_true];exact SeqAt.RcNeAt.str_int _ _ _ _
  | str b=>rw[Rep]at h';subst h';obtain⟨t,rfl⟩:=ry;simp only[eqD,Bool.not_false,Bool.not_true];exact SeqAt.RcNeAt.str_str _ _ _ _
def rNf (K:PySem.W.Frag)(C:Nat→Addr):R2:=fun x y H Q=>∃ Z d e,Same Z H∧Rep K C Z d x∧Rep K C Z e y∧good 60 d=true∧good 60 e=true∧Q (.bl (!eqD d e)) H
section
variable {X:Cx}{F:Fx}{a b:Expr}{ga gb:SS→R D}{pos:Pos}{k:Nat}
theorem za (hK:X.K=F.K)(hr:Room k X.A):OpR X (compareOp .NotEq) (rNf F.K F.C):=by
 intro pins s σ H x y v u Q I rx ry h
 obtain⟨Z,d,e,z,h1,h2,g1,g2,q⟩:=h
 have hu:X.A.units+60 < cLine:=by have:=hr.un;omega
 exact we hK I z 60 X.A d e x y v u g1 g2 h1 h2 rx ry hu X.prog X.w X.xe _ ⟨.bl (!eqD d e),H,I,rfl,q⟩
theorem yA:OpD F (rNf F.K F.C) dNf:=by
 intro H Z x y dx dy Q s rx ry w
 unfold dNf at w
 split at w
 ·rename_i g
  exact⟨Z,dx,dy,s,rx,ry,g.1,g.2,WG.now w s _ aY⟩
 ·exact w.elim
theorem dJ (bx:BX X F k)(ha:FE X F a ga)(hb:FE X F b gb):FT X F (.Compare a [.NotEq] [b] pos) (gB (eOp dNf ga gb)):=dO (za bx.K bx.room) yA ha hb
end
def qEx (es:List Nat)(i:Nat):D→Option Bool
 | .exc j=>if es.contains j=true then some (i==j||i==0) else none
 | _=>none
def qVx (es:List Nat):D→Option Bool
 | .exc j=>if es.contains j=true then some true else none
 | _=>none
def qTk (es:List Nat)(j:Nat):Bool:=es.contains j
theorem cJ {K:PySem.W.Frag}{C:Nat→Addr}{es:List Nat}{i:Nat}(h:∀ j∈es,PySem.W.kitOne K (.ref (C j)) (.ref (C i))=some (i==j||i==0))(hx:∀ j∈es,ExcK K (C j)):IsA K C (.ref (C i)) (qEx es i):=by
 refine⟨.inr ⟨_,rfl⟩,fun d b e=>?_,fun j b e=>?_,fun _=>rfl⟩
 ·cases d with
  | exc j =>
   have e':(if es.contains j=true then some (i==j||i==0) else none)=some b:=e
   by_cases hj:es.contains j=true
   ·rw[if_pos hj]at e'
    cases e'
    exact h j (by simpa using hj)
   ·rw[if_neg hj]at e';cases e'
  | _=>cases e
 ·have e':(if es.contains j=true then some (i==j||i==0) else none)=some b:=e
  by_cases hj:es.contains j=true
  ·exact hx j (by simpa using hj)
  ·rw[if_neg hj]at e';cases e'
theorem yB {K:PySem.W.Frag}{C:Nat→Addr}{es:List Nat}(h:∀ j∈es,PySem.W.kitOne K (.ref (C j)) (.type "ValueError")=some true)(hx:∀ j∈es,ExcK K (C j)):IsA K C (.ty "ValueError") (qVx es):=by
 refine⟨.inl ⟨_,rfl⟩,fun d b e=>?_,fun j b e=>?_,fun _=>rfl⟩
 ·cases d with
  | exc j =>
   have e':(if es.contains j=true then some true else none)=some b:=e
   by_cases hj:es.contains j=true
   ·rw[if_pos hj]at e'
    cases e'
    exact h j (by simpa using hj)
   ·rw[if_neg hj]at e';cases e'
  | _=>cases e
 ·have e':(if es.contains j=true then some true else none)=some b:=e
  by_cases hj:es.contains j=true
  ·exact hx j (by simpa using hj)
  ·rw[if_neg hj]at e';cases e'
theorem uo {K:PySem.W.Frag}{C:Nat→Addr}{es:List Nat}(h:PySem.W.excIn K (C 0) bmVE "ValueError.__new__"=true)(hs:∀ j∈es,PySem.W.subIn K (.ref (C j)) (.ref (C 0))=some true):Takes K C (C 0) (qTk es) :=
 ⟨h,fun k e=>hs k (by simpa [qTk] using e)⟩
def rIndexI (K:PySem.W.Frag):V→List V→Hp→VK→Prop:=fun x vs H Q=>∃ (l:Addr) (is:List Int) (k:Int),x=.ref l∧vs=[.int k]∧SqL K H l (is.map V.int)∧is.idxOf k < is.length∧Q (.int (is.idxOf k:Nat)) H
theorem k8 {X:Cx}{k:Nat}(hr:Room k X.A):MtR X "list.index" (rIndexI X.K):=by
 intro pins s σ H x vs v us Q I rx rv h
 obtain⟨l,is,k,rfl,rfl,hH,hj,q⟩:=h
 cases rx
 obtain⟨u,rfl,ru⟩:=rv.one
 obtain⟨tk,rfl⟩:=(show ∃ t,u=Value.int k t from ru)
 obtain⟨its,r,⟨⟨c2,d2,dt2,sl2⟩,n2,e2,p2,p3,p4⟩,z2⟩:=I.list hH
 obtain⟨ps,rfl,e⟩:=aU r
 simp only at p2 p3 p4
 subst p2 p3 p4
 have hl:ps.length=is.length:=by have:=congrArg List.length e;simpa using this
 rw[List.length_map,sizeLine_eq]at z2
 have hsz:is.idxOf k < (ps.map fun p=>Value.int p.1 p.2).toArray.size:=by rw[List.size_toArray,List.length_map,hl];exact hj
 have hat:∀ m (hm:m < (ps.map fun p=>Value.int p.1 p.2).toArray.size) (hm':m < is.length),isI k (ps.map fun p=>Value.int p.1 p.2).toArray[m]=(is[m]==k):=fun m hm hm'=>by
  subst e
  simp[isI]
 refine call_meets F.slot_list_index ⟨_,e2,rfl⟩ F.entry_list_index (F.args_list_index_2 _ _) (SeqAt.list_indexAt l _ n2 _ _ (.int k tk) (isI k) (is.idxOf k) hsz (by omega) ?_ ?_) ⟨e2,fun y hy=>?_,⟨.int _,H,I.tok _,⟨_,rfl⟩,q⟩⟩
 ·rw[hat _ _ hj]
  exact List.findIdx_getElem (w:=hj)
 ·intro m hm hlt
  have hm':m < is.length:=by omega
  rw[hat _ _ hm']
  exact Bool.eq_false_iff.mpr (by simpa using List.not_of_lt_findIdx hlt)
 ·have hy':y∈ps.map fun p=>Value.int p.1 p.2:=by simpa using hy
  obtain⟨b,_,rfl⟩:=List.mem_map.mp hy'
  exact gQ I (by have:=hr.un;show X.A.units+1 < cLine;omega) b.1 k b.2 tk
section
variable {X:Cx}{F:Fx}{o e:Expr}{g:SS→R D}{gs:SS→R (List D)}{apos cpos:Pos}{k:Nat}
theorem fQ:MethD F (rIndexI F.K) dIndexI:=by
 intro H Z a vs xs us es Q s h1 h2 rs w
 unfold dIndexI at w
 split at w
 ·rename_i k
  split at w
  ·rename_i is eb
   have e3:=a6 h2 eb
   subst e3
   split at w
   ·rename_i hl
    exact⟨a,is,k,rfl,lU rs,h1,hl,WG.now w s _ aE⟩
   ·exact w.elim
  ·exact w.elim
 ·exact w.elim
theorem rJ (bx:BX X F k)(ho:FE X F o g)(ha:FA X F [e] gs)
  (hbase:attributeBase o "index" X.env (eval o X.env)=eval o X.env:=by rfl)
  (hfew:((backTo cpos (starEach [e] X.env)).all (fun x=>!x.1)&&(backToKw cpos (keywordEach [] X.env)).all (fun x=>x.1.isSome)
   && decide ([e].length+([]:List Keyword).length+(if ([]:List Keyword).isEmpty then 0 else 1) < 30))=true:=by rfl)
  (hline:(apos.endLine==cpos.line)=true:=by rfl) (hs:starEach [e] X.env=(false,eval e X.env)::starEach [] X.env:=by rfl) (hplain:(backTo cpos (starEach [] X.env)).any (·.1)=false:=by rfl) :
  FE X F (.Call (.Attribute o "index" apos) [e] [] cpos) (eMethL dIndexI g gs) :=
 (kS PySem.F.plainAttrs_list PySem.F.slot_list_index (by kernel_rfl) (k8 bx.room) ho ha hbase hfew hline hs hplain).weak (by rw[bx.K];exact eQ fQ)
end
end FF
end
noncomputable section
namespace FF
open PySem L2
inductive L (σ:Type) where
 | nx (s:σ) | rt (d:D) | er (k:Nat) | stuck
def lB {α σ:Type}(r:R α)(k:α→L σ):L σ:=match r with
 | .ok a=>k a
 | .err e=>.er e
 | .stuck=>.stuck
def lS {τ σ:Type}(l:L τ)(k:τ→L σ):L σ:=match l with
 | .nx s=>k s
 | .rt d=>.rt d
 | .er e=>.er e
 | .stuck=>.stuck
def lFor {α τ:Type}(f:τ→α→L τ):List α→τ→L τ
 | [],s=>.nx s
 | d::r,s=>lS (f s d) fun s'=>lFor f r s'
def lTry {τ σ:Type}(q:Nat→Bool)(l:L τ)(k:τ→L σ)(h:Nat→L σ):L σ:=match l with
 | .nx s=>k s
 | .rt d=>.rt d
 | .er e=>if q e=true then h e else .stuck
 | .stuck=>.stuck
def outL {σ:Type}(l:L σ):R D:=match l with
 | .nx _=>.ok .non
 | .rt d=>.ok d
 | .er k=>.err k
 | .stuck=>.stuck
section
variable {α τ σ:Type}
@[simp] theorem aG (a:α)(k:α→L σ):lB (.ok a) k=k a:=rfl
@[simp] theorem uq (e:Nat)(k:α→L σ):lB (.err e) k=.er e:=rfl
@[simp] theorem zb (k:α→L σ):lB .stuck k=.stuck:=rfl
@[simp] theorem bP (s:τ)(k:τ→L σ):lS (.nx s) k=k s:=rfl
@[simp] theorem zc (d:D)(k:τ→L σ):lS (.rt d) k=.rt d:=rfl
@[simp] theorem zd (e:Nat)(k:τ→L σ):lS (.er e) k=.er e:=rfl
@[simp] theorem ze (k:τ→L σ):lS .stuck k=.stuck:=rfl
@[simp] theorem jr (f:τ→α→L τ)(s:τ):lFor f [] s=.nx s:=rfl
theorem a9 (f:τ→α→L τ)(d:α)(r:List α)(s:τ):lFor f (d::r) s=lS (f s d) fun s'=>lFor f r s':=rfl
@[simp] theorem zp (q:Nat→Bool)(s:τ)(k:τ→L σ)(h:Nat→L σ):lTry q (.nx s) k h=k s:=rfl
@[simp] theorem zq (q:Nat→Bool)(d:D)(k:τ→L σ)(h:Nat→L σ):lTry q (.rt d:L τ) k h=.rt d:=rfl
@[simp] theorem wf (q:Nat→Bool)(e:Nat)(k:τ→L σ)(h:Nat→L σ):lTry q (.er e:L τ) k h=if q e=true then h e else .stuck:=rfl
@[simp] theorem wj (s:σ):outL (.nx s)=.ok .non:=rfl
@[simp] theorem wl (d:D):outL (.rt d:L σ)=.ok d:=rfl
@[simp] theorem wm (k:Nat):outL (.er k:L σ)=.err k:=rfl
end
def rAnd (a b:R Bool):R Bool:=a.bind fun c=>if c=true then b else .ok false
def rOr (a b:R Bool):R Bool:=a.bind fun c=>if c=true then .ok true else b
def rNot (a:R Bool):R Bool:=a.bind fun c=>.ok (!c)
def vAnd (a b:R D):R D:=(asB a).bind fun c=>if c=true then b else .ok (.bl false)
def vOr (a b:R D):R D:=(asB a).bind fun c=>if c=true then .ok (.bl true) else b
def vNot (a:R D):R D:=(asB a).bind fun c=>.ok (.bl (!c))
def rIf (c:R Bool)(a b:R D):R D:=c.bind fun t=>if t=true then a else b
def rCh (f f':D→D→R D)(x y:D)(w:R D):R D:=(asB (f x y)).bind fun k=>if k=true then w.bind fun w=>f' y w else .ok (.bl false)
@[simp] theorem bg (b:Bool):asB (.ok (.bl b))=.ok b:=rfl
@[simp] theorem yC (b:R Bool):rAnd (.ok true) b=b:=rfl
@[simp] theorem yD (b:R Bool):rAnd (.ok false) b=.ok false:=rfl
@[simp] theorem zf (b:R Bool):rOr (.ok true) b=.ok true:=rfl
@[simp] theorem zg (b:R Bool):rOr (.ok false) b=b:=rfl
@[simp] theorem fR (b:Bool):rNot (.ok b)=.ok (!b):=rfl
@[simp] theorem yE (b:R D):vAnd (.ok (.bl true)) b=b:=rfl
@[simp] theorem yF (b:R D):vAnd (.ok (.bl false)) b=.ok (.bl false):=rfl
@[simp] theorem zh (b:R D):vOr (.ok (.bl true)) b=.ok (.bl true):=rfl
@[simp] theorem zi (b:R D):vOr (.ok (.bl false)) b=b:=rfl
@[simp] theorem wn (b:Bool):vNot (.ok (.bl b))=.ok (.bl (!b)):=rfl
@[simp] theorem xB (a b:R D):rIf (.ok true) a b=a:=rfl
@[simp] theorem xC (a b:R D):rIf (.ok false) a b=b:=rfl
def bA {α:Type}:List (R D)→(List D→R α)→R α
 | [],k=>k []
 | r::rs,k=>r.bind fun d=>bA rs fun ds=>k (d::ds)
def cGo (c:D→R Bool)(e:D→R D):List D→R (List D)
 | []=>.ok []
 | d::r=>match c d with
  | .ok true=>match e d with
   | .ok y=>match cGo c e r with
    | .ok ys=>.ok (y::ys)
    | _=>.stuck
   | _=>.stuck
  | .ok false=>cGo c e r
  | _=>.stuck
def cMap (e:D→R D)(xs:List D):R D:=(cGo (fun _=>.ok true) e xs).bind fun ys=>.ok (.lst ys)
def cFil (c:D→R Bool)(e:D→R D)(xs:List D):R D:=(cGo c e xs).bind fun ys=>.ok (.lst ys)
def un2 {α:Type}(d:D)(k:D→D→R α):R α:=match d with
 | .tup [a,b]=>k a b
 | _=>.stuck
def sq (d:D):R (List D):=(asSeq d).bind fun ds=>if ds.length≤16777216 then .ok ds else .stuck
def dInD (x y:D):R D:=match y with
 | .tup ds=>if good 60 x=true∧goods 60 ds=true then .ok (.bl (ds.any fun e=>eqD e x)) else .stuck
 | .lst ds=>if good 60 x=true∧goods 60 ds=true then .ok (.bl (ds.any fun e=>eqD e x)) else .stuck
 | _=>.stuck
def dNotInD (x y:D):R D:=(asB (dInD x y)).bind fun k=>.ok (.bl (!k))
def dList:List D→R D
 | [.lst xs]=>.ok (.lst xs)
 | [.tup xs]=>.ok (.lst xs)
 | _=>.stuck
def dLenSet:List D→R D
 | [.lst xs]=>match intsOf xs with
  | some is=>if is.length≤4000 then .ok (.int (is.eraseDups.length:Nat)) else .stuck
  | none=>.stuck
 | _=>.stuck
def enD:List D→Nat→List D
 | [],_=>[]
 | d::r,i=>.tup [.int (i:Int),d]::enD r (i+1)
def dEnum (d:D):R (List D):=(sq d).bind fun ds=>.ok (enD ds 0)
def dRev (d:D):R D:=match d with
 | .lst xs=>.ok (.lst xs.reverse)
 | .tup xs=>.ok (.tup xs.reverse)
 | _=>.stuck
def dMin2:List D→R D
 | [.int i,.int j]=>.ok (.int (if j < i then j else i))
 | _=>.stuck
def onF {α:Type}(fs:List Nat)(f:D)(k:Nat→R α):R α:=match f with
 | .fn i=>if fs.contains i=true then k i else .stuck
 | _=>.stuck
def onL {α:Type}(d:D)(k:List D→R α):R α:=match d with
 | .lst xs=>k xs
 | _=>.stuck
def dTab (l:List (Str×Nat))(x:D):R D:=match x with
 | .str s=>match l.lookup s with
  | some k=>.ok (.fn k)
  | none=>.stuck
 | _=>.stuck
def tabK (l:List (Str×Nat)):D:=.lst (l.map fun p=>.str p.1)
def dNeg (d:D):R D:=match d with
 | .int i=>.ok (.int (-i))
 | _=>.stuck
def oIx (ds:List D)(i:D):R D:=match i with
 | .int j=>match atI ds j with
  | some d=>.ok d
  | none=>.stuck
 | _=>.stuck
def oApp (ds:List D)(v:D):R (List D):=if ds.length < 16777216 then .ok (ds++[v]) else .stuck
def oExt (ds:List D)(v:D):R (List D):=match v with
 | .lst xs=>if ds.length+xs.length≤16777216 then .ok (ds++xs) else .stuck
 | .tup xs=>if ds.length+xs.length≤16777216 then .ok (ds++xs) else .stuck
 | _=>.stuck
def a0 (k:L Unit):List D→R D
 | []=>outL k
 | _=>.stuck
def a1 (k:D→L Unit):List D→R D
 | [a]=>outL (k a)
 | _=>.stuck
def a2 (k:D→D→L Unit):List D→R D
 | [a,b]=>outL (k a b)
 | _=>.stuck
def a3 (k:D→D→D→L Unit):List D→R D
 | [a,b,c]=>outL (k a b c)
 | _=>.stuck
def a4 (k:D→D→D→D→L Unit):List D→R D
 | [a,b,c,d]=>outL (k a b c d)
 | _=>.stuck
def a5 (k:D→D→D→D→D→L Unit):List D→R D
 | [a,b,c,d,e]=>outL (k a b c d e)
 | _=>.stuck
end FF
end
noncomputable section
namespace FF
open PySem PySem.Spec PyProof.Rows L2
section
variable {α τ σ W:Type}
def WL (F:Fx)(Z:Hp)(J:σ→SS→Prop)(l:L σ)(D:Ends):Prop:=match l with
 | .nx s=>∀ S ρ H Z',J s S→Same Z Z'→StOk F H Z' S ρ→D.nx ρ H
 | .rt d=>∀ v H Z',Ex F.H0 F.Z0 H Z'→Rep F.K F.C Z' d v→D.rt v H
 | .er k=>∀ H,Same F.H0 H→F.E (.ref (F.C k)) none H
 | .stuck=>False
theorem WL.more {F:Fx}{Z Z1:Hp}{J:σ→SS→Prop}{l:L σ}{D:Ends}(w:WL F Z J l D)(z:Same Z Z1):WL F Z1 J l D:=by
 cases l with
 | nx s=>exact fun S ρ H Z' j q=>w S ρ H Z' j (z.trans q)
 | rt d=>exact w
 | er k=>exact w
 | stuck=>exact w
def tL (F:Fx)(S:SS)(J:σ→SS→Prop)(l:L σ):TS:=fun D ρ H=>∃ Z,StOk F H Z S ρ∧WL F Z J l D
abbrev FL (X:Cx)(F:Fx)(S:SS)(sts:List Stmt)(J:σ→SS→Prop)(l:L σ):Prop:=PSs X sts (tL F S J l)
abbrev FL1 (X:Cx)(F:Fx)(S:SS)(st:Stmt)(J:σ→SS→Prop)(l:L σ):Prop:=PS X st (tL F S J l)
def JX (inj:τ→W→SS):τ→SS→Prop:=fun s S=>∃ w,S=inj s w
def JU:Unit→SS→Prop:=fun _ _=>True
abbrev vv (d:D):Option Sl:=some (.val d)
abbrev ow (ds:List D):Option Sl:=some (.own ds)
abbrev nn:Option Sl:=none
variable {X:Cx}{F:Fx}{S:SS}{st:Stmt}{rest:List Stmt}{J:σ→SS→Prop}{J1:τ→SS→Prop}
theorem o3 {sts:List Stmt}{t:α→TS}(h:∀ a,PSs X sts (t a)):PSs X sts (fun D ρ H=>∃ a,t a D ρ H):=fun pins s ρ H D I ⟨a,w⟩=>h a pins s ρ H D I w
theorem WL.wg {D:Ends}{r:R α}{k:α→L σ}{H Z:Hp}{ρ:St}(ok:StOk F H Z S ρ)(w:WL F Z J (lB r k) D):WG F H Z r fun a _ Z'=>WL F Z' J (k a) D:=by
 cases r with
 | ok o=>exact fun _ _ x=>WL.more (l:=k o) w x.z
 | err k=>exact fun H' s=>w H' (ok.ex.same.trans s)
 | stuck=>exact w
theorem aq {s:σ}(h:J s S):FL X F S [] J (.nx s):=vG.weak fun D ρ H ⟨Z,ok,w⟩=>w S ρ H Z h (Same.refl _) ok
theorem aj {g:SS→O}{r:R α}{S':α→SS}{k:α→L σ}(h:FS X F st g)(hg:g S=rO (r.bind fun a=>.ok (.nx (S' a))))(hk:∀ a,FL X F (S' a) rest J (k a)):FL X F S (st::rest) J (lB r k) :=
 (cM h (o3 hk)).weak fun D ρ H ⟨Z,ok,w⟩=>⟨Z,S,ok,by
  rw[hg]
  cases r with
  | ok a=>exact fun ρ' H' Z' z ok'=>⟨a,Z',ok',WL.more (l:=k a) w z⟩
  | err k=>exact w
  | stuck=>exact w⟩
theorem bq {g:SS→O}{S':SS}{l:L σ}(h:FS X F st g)(hg:g S=.nx S')(hk:FL X F S' rest J l):FL X F S (st::rest) J l :=
 (cM h hk).weak fun D ρ H ⟨Z,ok,w⟩=>⟨Z,S,ok,by rw[hg];exact fun ρ' H' Z' z ok'=>⟨Z',ok',WL.more w z⟩⟩
theorem ak {g:SS→R D}{r:R D}(h:FS X F st (sRet g))(hr:g S=r):FL X F S (st::rest) J (lB r .rt) :=
 (cM h kN).weak fun D ρ H ⟨Z,ok,w⟩=>⟨Z,S,ok,by
  unfold sRet
  rw[hr]
  cases r with
  | ok a=>exact w
  | err k=>exact w
  | stuck=>exact w⟩
theorem ay {g:SS→R D}{v:D}(h:FS X F st (sRet g))(hr:g S=.ok v):FL X F S (st::rest) J (.rt v):=ak (r:=.ok v) h hr
theorem ur {g:SS→O}{k:Nat}(h:FS X F st g)(hg:g S=.er k):FL X F S (st::rest) J (.er k) :=
 (cM h kN).weak fun D ρ H ⟨Z,ok,w⟩=>⟨Z,S,ok,by rw[hg];exact w⟩
theorem dY (i:Nat){ds:List D}{S':SS}{sts:List Stmt}{l:L σ}(hi:S[i]?=some (some (.own ds)))(hS:S.set i (some (.val (.lst ds)))=S')(h:FL X F S' sts J l):FL X F S sts J l :=
 h.weak fun D ρ H ⟨Z,ok,w⟩=>by
  obtain⟨Z',z,ok'⟩:=ok.freeze hi
  rw[hS]at ok'
  exact⟨Z',ok',WL.more w z⟩
theorem ax {c:Expr}{a b:List Stmt}{pos:Pos}{gt:SS→R Bool}{r:R Bool}{A B:L σ}(hc:FT X F c gt)(hr:gt S=r)(ha:FL X F S a J A)(hb:FL X F S b J B):FL1 X F S (.If c a b pos) J (lB r fun t=>if t=true then A else B) :=
 (yX hc ha hb).weak fun D ρ H ⟨Z,ok,w⟩=>fL (k:=fun t=>R.ok t) (P:=fun t _ Z'=>WL F Z' J (if t=true then A else B) D) ok (by
  rw[hr]
  have:=WL.wg ok w
  cases r<;>exact this) fun t H1 Z1 ok1 x1 w1=>by
  have w2:=WG.now w1 ok1.sub
  cases t with
  | true=>exact⟨Z1,ok1,w2⟩
  | false=>exact⟨Z1,ok1,w2⟩
theorem lW {l:L σ}(h:FL1 X F S st J l):FL X F S [st] J l:=pR h
theorem au {l:L τ}{k:τ→L σ}{inj:τ→W→SS}(h:FL1 X F S st (JX inj) l)(hk:∀ s w,FL X F (inj s w) rest J (k s)):FL X F S (st::rest) J (lS l k) :=
 (cM h (o3 (fun s=>o3 fun w=>hk s w))).weak fun D ρ H ⟨Z,ok,w⟩=>⟨Z,ok,by
  cases l with
  | nx s=>exact fun S' ρ' H' Z' ⟨x,e⟩ z ok'=>⟨s,x,Z',by rw[← e];exact ok',WL.more (l:=k s) w z⟩
  | rt d=>exact w
  | er k=>exact w
  | stuck=>exact w⟩
end
section
variable {σ τ W:Type}{X:Cx}{F:Fx}{S:SS}{tg iter:Expr}{body:List Stmt}{pos:Pos}{git:SS→R (List D)}{g:D→SS→R SS}{inj:τ→W→SS}{step:τ→D→L τ}
theorem ut {r:R (List D)}{s0:τ}(w0:W)(hp:PassesOwn (model X.prog X.w) X.A X.env X.xe)(hc:X.calm=true)(hi:FI X F tg iter git)(hr:git S=r)(hg:FG X F tg g)
  (hb:∀ s w x S1,g x (inj s w)=.ok S1→FL X F S1 body (JX inj) (step s x)) (hno:∀ s w x k,g x (inj s w)≠.err k) (hst:∀ s w x,g x (inj s w)=.stuck→step s x=.stuck)
  (hS:S=inj s0 w0) (hs:∀ x,foldedSetIterable iter X.env x=pure x:=by intro _;rfl):FL1 X F S (.For tg iter body [] pos) (JX inj) (lB r fun xs=>lFor step xs s0):=by
 have hbb:PSs X body (fun D ρ H=>∃ (q:τ×W×FF.D×SS) (_:g q.2.2.1 (inj q.1 q.2.1)=.ok q.2.2.2),tL F q.2.2.2 (JX inj) (step q.1 q.2.2.1) D ρ H):=fun pins s ρ H D I ⟨q,e,w⟩=>hb q.1 q.2.1 q.2.2.1 q.2.2.2 e pins s ρ H D I w
 refine(xX hp hc hi hg hbb hs).weak fun D ρ H ⟨Z,ok,w⟩=>?_
 refine⟨Z,S,ok,?_⟩
 have w00:=WL.wg ok w
 rw[hr]
 cases r with
 | err k=>exact w00
 | stuck=>exact w00
 | ok ds =>
  intro H1 Z1 x1
  have w1:WL F Z1 (JX inj) (lFor step ds s0) D:=w00 H1 Z1 x1
  intro J wk _
  refine⟨fun i m ρ H=>m=ds.length - i∧i≤ds.length∧∃ Z2 s w,StOk F H Z2 (inj s w) ρ∧Same Z1 Z2∧WL F Z2 (JX inj) (lFor step (ds.drop i) s) D,⟨ds.length,rfl,Nat.zero_le _,Z1,s0,w0,by rw[← hS];exact ok.more x1,Same.refl _,w1⟩,?_⟩
  rintro i m ρ2 H2 ⟨rfl,hle,Z2,s,w2,ok2,z2,wl2⟩
  obtain⟨k1,k2⟩:=wk i H2 Z2 z2 ok2.sub
  by_cases hlt:i < ds.length
  ·obtain⟨go,y⟩:=k1 hlt
   refine .inr ⟨go,fun ρ' H'=>∃ Z3 s3 w3,StOk F H' Z3 (inj s3 w3) ρ'∧Same Z1 Z3∧WL F Z3 (JX inj) (lFor step (ds.drop (i+1)) s3) D,fun ρ' H' ⟨Z3,s3,w3,q⟩=>⟨ds.length - (i+1),by omega,rfl,hlt,Z3,s3,w3,q⟩,fun x H' hy=>?_⟩
   obtain⟨Z2',d,x',e3,rd⟩:=y x H' hy
   have ok2:=ok2.more x'
   have hd:ds.drop i=d::ds.drop (i+1):=by
    obtain⟨hi,e4⟩:=List.getElem?_eq_some_iff.mp e3
    rw[List.drop_eq_getElem_cons hi,e4]
   rw[hd,a9]at wl2
   refine⟨Z2',inj s w2,d,ok2,rd,?_⟩
   cases q:g d (inj s w2) with
   | err k=>exact absurd q (hno s w2 d k)
   | stuck=>rw[hst s w2 d q]at wl2;exact wl2
   | ok S1 =>
    intro H4 Z4 x4 ρ4 ok4
    refine⟨⟨s,w2,d,S1⟩,q,Z4,ok4,?_⟩
    have z14:Same Z1 Z4:=(z2.trans x'.z).trans x4.z
    cases qb:step s d with
    | nx s5 =>
     rw[qb]at wl2
     exact fun S5 ρ5 H5 Z5 ⟨w5,e5⟩ z5 ok5=>⟨Z5,s5,w5,by rw[← e5];exact ok5,z14.trans z5,WL.more (l:=lFor step (ds.drop (i+1)) s5) wl2 ((x'.z.trans x4.z).trans z5)⟩
    | rt d=>rw[qb]at wl2;exact wl2
    | er k=>rw[qb]at wl2;exact wl2
    | stuck=>rw[qb]at wl2;exact wl2
  ·refine .inl ⟨k2 (by omega),?_⟩
   rw[List.drop_eq_nil_of_le (by omega)]at wl2
   exact wl2 (inj s w2) ρ2 H2 Z2 ⟨w2,rfl⟩ (Same.refl _) ok2
theorem bn (i:Nat){r:R (List D)}{s0:τ}{B:τ→W→D→SS}(w0:W)(hp:PassesOwn (model X.prog X.w) X.A X.env X.xe)(hc:X.calm=true)(hi:FI X F tg iter git)(hr:git S=r)(hg:FG X F tg (gNm i))
  (hS:S=inj s0 w0) (hB:∀ s w x,(inj s w).set i (some (.val x))=B s w x) (hb:∀ s w x,FL X F (B s w x) body (JX inj) (step s x))
  (hs:∀ x,foldedSetIterable iter X.env x=pure x:=by intro _;rfl):FL1 X F S (.For tg iter body [] pos) (JX inj) (lB r fun xs=>lFor step xs s0) :=
 ut w0 hp hc hi hr hg (fun s w x S1 e=>by cases e;rw[hB];exact hb s w x) (fun s w x k e=>nomatch e) (fun s w x e=>nomatch e) hS hs
end
section
variable {σ τ W:Type}{X:Cx}{F:Fx}{S:SS}{rest:List Stmt}{J:σ→SS→Prop}{k:Nat}
def tryL (q:Nat→Bool)(l:L τ):L (τ ⊕ Nat):=match l with
 | .nx s=>.nx (.inl s)
 | .rt d=>.rt d
 | .er e=>if q e=true then .nx (.inr e) else .stuck
 | .stuck=>.stuck
def tryJ (inj:τ→W→SS)(B:Nat→SS):τ ⊕ Nat→SS→Prop
 | .inl s,S=>∃ w,S=inj s w
 | .inr k,S=>S=B k
end
section
variable {σ τ W:Type}{S:SS}{X:Cx}{F:Fx}{body:List Stmt}{g:SS→O}{c n y:Str}{np np2 kp apos hpos pos:Pos}{k:Nat}{q:Nat→Bool}{C0:Addr}
theorem wp (i j:Nat){l:L τ}{inj:τ→W→SS}(bx:BX X F k)(hij:i≠j)(hst:X.stack=X.env::X.outer)(hfm:X.env.frame=some X.env.locals)(hex:X.ex=[])(hN:X.N.Nodup)(hg:Gl X c)(hm:X.mg c=some (.ref C0))(T:Takes F.K F.C C0 q)
  (hb:∀ pn xe H0 Z0 E,BX (tryX X pn xe) ⟨F.K,F.C,H0,Z0,E⟩ k→FL (tryX X pn xe) ⟨F.K,F.C,H0,Z0,E⟩ S body (JX inj) l)
  (hi:X.N[i]?=some n:=by rfl) (hj:X.N[j]?=some y:=by rfl) (hn:X.env.scope.names.lookup n=some .local:=by rfl) (hkn:X.env.kindOf n=some .local:=by rfl) (hy:X.env.scope.names.lookup y=some .local:=by rfl)
  (hs:swapsWith (.Name n np2) (some (.Name y kp)) apos.line X.env=pure false:=by rfl) (hdc:(c==("__debug__":Str))=false:=by decide) (hdn:(n==("__debug__":Str))=false:=by decide) (hcd:(n==("__classdict__":Str))=false:=by decide) :
  FL1 X F S (.Try body [.ExceptHandler (some (.Name c np)) (some n) [.Assign [.Name y kp] (.Name n np2) apos] hpos] [] [] pos) (tryJ inj fun e=>(blankS S).set j (some (.val (.exc e)))) (tryL q l):=by
 intro pins s σ H D I h
 obtain⟨Z,ok,w⟩:=h
 refine wpAny_Try_except ?_
 have hjl:j < X.N.length:=(List.getElem?_eq_some_iff.mp hj).1
 have hil:i < X.N.length:=(List.getElem?_eq_some_iff.mp hi).1
 let txe:Value→Shared→Prop:=fun e s₁=>wpAny (model X.prog X.w) X.A (noteFrame e X.env) (fun _ s₂=>wpAny (model X.prog X.w) X.A (setFlight e none) (fun _ s₃=>wpAny (model X.prog X.w) X.A (handleBy e X.env [.ExceptHandler (some (.Name c np)) (some n) [.Assign [.Name y kp] (.Name n np2) apos] hpos]) (SP X pins D) X.xe s₃) X.xe s₂) X.xe s₁
 let E':XK:=fun cls _ H'=>∃ k,cls=.ref (F.C k)∧q k=true∧Same (bothH F Z) H'∧WL F Z (tryJ inj fun e=>(blankS S).set j (some (.val (.exc e)))) (.nx (.inr k)) D
 have back:∀ {pl:List (Addr×Obj)} {σ':St} {H':Hp} {s':Shared},Inv (tryX X (X.pn++pins) txe) pl σ' H' s'→Inv X pins σ' H' s':=fun J=>jo (X:=tryX X (X.pn++pins) txe) J rfl I.ok.hd fun p hp=>List.mem_append_left _ hp
 have bx':BX (tryX X (X.pn++pins) txe) ⟨F.K,F.C,bothH F Z,Z,E'⟩ k:=by
  refine⟨bx.room,bx.K,bx.calm,?_⟩
  intro pl σ1 H1 s1 e s2 I1 hx
  obtain⟨ea,C,t,H2,B,rfl,os,bare,un,hok,fl,hn2,cov,hE⟩:=hx
  obtain⟨k',hC,hk,hsm,w1⟩:=hE
  have J:Inv (tryX X (X.pn++pins) txe) pl σ1 H2 s2:=I1.call' (ch:=[]) os un hok bare (fun b z=>nomatch z)
  obtain⟨oe0,ws0,ge0,_,gd0,_⟩:=fl.first
  obtain⟨mL1,nL1,_⟩:=I1.loc
  obtain⟨oL1,_,_,hoL1,_⟩:=id nL1
  have hnf:ea∉frs X.stack:=fun z=>by
   rcases List.mem_cons.mp (J.stkSub ea z) with z1 | z1
   ·obtain⟨mL,nL,_⟩:=J.loc
    obtain⟨oL,es,ep,hoL,hdL,_⟩:=nL
    have hoL':s2.heap.get? ea=some oL:=by rw[z1];exact hoL
    rw[ge0]at hoL'
    cases hoL'
    rw[hdL]at gd0
    cases gd0
   ·obtain⟨_,o',e',d⟩:=J.funs.mem z1
    rw[ge0]at e'
    cases e'
    exact d _ gd0
  have hnew:∀ o,s1.heap.get? ea≠some o:=fun o z=>by
   have:=cov ea oe0 ge0 (.inr ⟨o,z⟩) hnf
   rw[fl.2.1]at this
   cases this
  have h0:X.s₀.heap.get? ea=none:=by
   cases z:X.s₀.heap.get? ea with
   | none=>rfl
   | some o =>
    obtain⟨o',z'⟩:=I1.base.there ea o z (by show ea∉X.ex;rw[hex];exact fun q=>nomatch q)
    exact absurd z' (hnew o')
  have hnl:ea≠X.env.locals:=fun z=>hnew oL1 (by rw[z];exact hoL1)
  obtain⟨hp2,g2,d2,t2,os2⟩:=s2
  have fl':=fl
  rw[show (tryX X (X.pn++pins) txe).stack=X.env::X.outer from hst]at fl'
  show txe (.ref ea) _
  refine wpAny_looks_onW (I.ok.frames.trans (by rw[hst])) hfm fl' fun h4 held4 up4=>?_
  refine wpAny_landsW held4 fun h5 fl5 up5=>?_
  have fly:∀ {h6:Heap},B.StaysIn h6→hp2.UpToSlots h6→Inv (tryX X (X.pn++pins) txe) pl σ1 H2 ⟨h6,g2,d2,t2,os2⟩:=fun {h6} a b=>vZ J ⟨σ1,H1,pl,I1⟩ (fun p hp=>⟨_,(I1.pin p hp).1⟩) (fun o _=>⟨oL1,hoL1⟩) cov a b
  have J5:=fly fl5.1 (up4.trans up5)
  let Xm:Cx:={ tryX X (X.pn++pins) txe with A:=X.A.mark (some (.ref ea)),calm:=false,pn:=X.pn++pins,xe:=fun _ _=>False }
  have J5m:Inv Xm pl σ1 H2 ⟨h5,g2,d2,t2,os2⟩:=jo J5 rfl (fun z=>nomatch z) fun p hp=>hp
  refine wpAny_handleBy_cons (codeAny_handlers_test (iQ (X:=Xm) J5m hg hm ?_ hdc)) (by intro z;cases z)
  obtain⟨ob,hob,hobc⟩:=fl5.there
  refine nb T (by have:=J5.kIn;rw[← bx.K];exact this) hob (hobc.trans hC) hk ?_
  refine codeAny_handlers_suite_as ?_
  refine lands_againW fl5 fun h6 fl6 up6=>?_
  have J6:=fly fl6.1 ((up4.trans up5).trans up6)
  obtain⟨oe,ws,hoe,hoec,hoed,_⟩:=fl6.first
  have J7:=rB J6 (a:=ea) (o:=excO F.C k' ea) hn2 h0 hnl (fun x c' e z=>by
    obtain⟨v,o,ho,_⟩:=I1.cell x c' e
    exact hnew o (by rw[← z];exact ho)) (fun p hp z=>hnew p.2 (by rw[← z];exact(I1.pin p hp).1)) ⟨⟨oe,hoe,hoec.trans hC,ws,hoed⟩,⟨oe,hoe⟩,fun h1 h2 ⟨o,a1,a2,a3⟩ kk=>⟨o,kk o a1,a2,a3⟩⟩
  have J7m:Inv Xm pl σ1 (upd H2 ea (excO F.C k' ea)) ⟨h6,g2,d2,t2,os2⟩:=jo J7 rfl (fun z=>nomatch z) fun p hp=>hp
  have hl1:σ1.length=X.N.length:=I1.len
  refine fI (X:=Xm) (v:=.ref ea) J7m hN hi (.inl hn) rfl (fun s8 I8=>?_) (.inr hn)
  have st:=pR (oC (X:=Xm) (pos:=apos) (pos':=kp) hN hj (.inl hy) (fg (X:=Xm) (pos:=np2) hi (.inl hn) hdn hcd) hs (.inr hy))
  refine wpAny_mono (st pl s8 _ _ ⟨fun σ' H'=>σ'=(σ1.set i (some (.ref ea))).set j (some (.ref ea))∧H'=upd H2 ea (excO F.C k' ea),fun _ _=>False,fun _ _=>False,fun _ _=>False⟩ I8 ⟨.ref ea,by rw[List.getElem?_set_self (by rw[hl1];exact hil)],rfl,rfl⟩) (fun f s9 h9=>?_) fun _ _ z=>z.elim
  cases f with
  | next =>
   obtain⟨σ9,H9,I9,rfl,rfl⟩:=h9
   show wpAny (model X.prog X.w) X.A (do bindName X.env n .none;unbindBehindTheSuite X.env n hpos) _ X.xe s9
   refine wpAny_bind (wpAny_bindName (fI (X:=Xm) (v:=.non) I9 hN hi (.inl hn) rfl (fun s10 I10=>?_) (.inr hn)))
   unfold unbindBehindTheSuite
   refine wpAny_onRaise (rC (X:=Xm) (v:=.non) I10 hN hi hkn hn (by rw[List.getElem?_set_self (by simp[hl1];exact hil)]) fun s11 I11=>?_)
   have IX:Inv X pins _ _ s11:=jo (X:=Xm) I11 rfl I.ok.hd fun p hp=>List.mem_append_left _ hp
   obtain⟨Z',z,ok'⟩:=rD (k:=k') (j:=j) (ea:=ea) (σ':=(((σ1.set i (some (.ref ea))).set j (some (.ref ea))).set i (some .non)).set i none) ok hsm hn2 (by rw[ok.len,I.len];simp[hl1]) (fun _=>by
    rw[List.getElem?_set_ne hij,List.getElem?_set_ne hij,List.getElem?_set_self (by simp[hl1];exact hjl)])
   exact⟨_,_,IX,w1 _ _ _ Z' rfl z ok'⟩
  | _=>first | (obtain⟨_,_,_,z⟩:=h9;exact z.elim) | (obtain⟨_,_,_,_,_,z⟩:=h9;exact z.elim)
 have w':WL ⟨F.K,F.C,bothH F Z,Z,E'⟩ Z (JX inj) l D:=by
  cases l with
  | nx s'=>exact fun S' ρ' H' Z' jx z o=>w S' ρ' H' Z' jx z (wa ok o)
  | rt d=>exact fun v H' Z' x r=>w v H' Z' (p9 ok x) r
  | er k' =>
   intro H' sm
   unfold tryL at w
   by_cases hk:q k'=true
   ·simp only[hk,if_true]at w
    exact⟨k',rfl,hk,sm,w⟩
   ·simp only[hk]at w
    exact w.elim
  | stuck=>exact w
 have run:=hb (X.pn++pins) txe (bothH F Z) Z E' bx' [] s σ H D (jo I rfl I.ok.hd (by simp)) ⟨Z,wb ok,w'⟩
 refine wpAny_mono run (fun f s1 h1=>?_) fun _ _ x=>x
 cases f with
 | next =>
  obtain⟨σ',H',I',d'⟩:=h1
  exact wpAny_execs_nil ⟨σ',H',back I',d'⟩
 | brk =>
  obtain⟨σ',H',I',d'⟩:=h1
  exact⟨σ',H',back I',d'⟩
 | cont =>
  obtain⟨σ',H',I',d'⟩:=h1
  exact⟨σ',H',back I',d'⟩
 | ret u =>
  obtain⟨v,σ',H',I',r,d'⟩:=h1
  exact⟨v,σ',H',back I',r,d'⟩
end
section
variable {σ τ W:Type}{X:Cx}{F:Fx}{S:SS}{rest:List Stmt}{J:σ→SS→Prop}
theorem yG (i j:Nat){l:L τ}{inj:τ→W→SS}{q:Nat→Bool}{st:Stmt}{B:Nat→SS}{n1:τ→L σ}{n2:Nat→L σ}(h:FL1 X F S st (tryJ inj fun e=>(blankS S).set j (some (.val (.exc e)))) (tryL q l))
  (hB:∀ e,(blankS S).set j (some (.val (.exc e)))=B e) (h1:∀ s w,FL X F (inj s w) rest J (n1 s)) (h2:∀ e,FL X F (B e) rest J (n2 e)):FL X F S (st::rest) J (lTry q l n1 n2):=by
 have hr:PSs X rest (fun D ρ H=>(∃ s w,tL F (inj s w) J (n1 s) D ρ H)∨∃ e,tL F (B e) J (n2 e) D ρ H):=fun pins s ρ H D I z=>by
  rcases z with ⟨s',w',z⟩ | ⟨e,z⟩
  ·exact h1 s' w' pins s ρ H D I z
  ·exact h2 e pins s ρ H D I z
 refine(cM h hr).weak fun D ρ H ⟨Z,ok,w⟩=>⟨Z,ok,?_⟩
 cases l with
 | nx s=>exact fun S' ρ' H' Z' ⟨x,e⟩ z ok'=>.inl ⟨s,x,Z',by rw[← e];exact ok',WL.more (l:=n1 s) w z⟩
 | rt d=>exact w
 | er e =>
  have w':WL F Z J (if q e=true then n2 e else .stuck) D:=w
  by_cases hq:q e=true
  ·rw[if_pos hq]at w'
   show WL F Z _ (if q e=true then (L.nx (Sum.inr e):L (τ ⊕ Nat)) else L.stuck) _
   rw[if_pos hq]
   exact fun S' ρ' H' Z' hj z ok'=>.inr ⟨e,Z',by have hj':S'=(blankS S).set j (some (.val (.exc e))):=hj;rw[← hB e,← hj'];exact ok',WL.more w' z⟩
  ·rw[if_neg hq]at w';exact w'.elim
 | stuck=>exact w
end
end FF
end
noncomputable section
namespace FF
open PySem PySem.Spec PyProof.Rows L2
section
variable {X:Cx}{F:Fx}{e:Expr}{es:List Expr}{g g':SS→R D}{gs:List (SS→R D)}{k:Nat}{f:List D→R D}{pos:Pos}
theorem eS (h:FE X F e g)(hg:∀ S,g S=g' S):FE X F e g':=by
 have:g=g':=funext hg
 rw[← this];exact h
theorem lX {st:Stmt}{g g':SS→O}(h:FS X F st g)(hg:∀ S,g S=g' S):FS X F st g':=by
 have:g=g':=funext hg
 rw[← this];exact h
def aL:List (SS→R D)→SS→R (List D)
 | []=>aNil
 | g::gs=>aCons g (aL gs)
def eBA {α:Type}(f:List D→R α)(gs:List (SS→R D)):SS→R α:=fun S=>bA (gs.map fun g=>g S) f
theorem cg {α β:Type}{r:R α}{f f':α→R β}(h:∀ a,f a=f' a):r.bind f=r.bind f':=by cases r<;>first | exact h _ | rfl
theorem bF {α:Type}(S:SS):∀ (gs:List (SS→R D)) (f:List D→R α),(aL gs S).bind f=eBA f gs S
 | [],f=>rfl
 | g::gs,f=>by
  show ((g S).bind fun d=>(aL gs S).bind fun ds=>R.ok (d::ds)).bind f=(g S).bind fun d=>bA (gs.map fun g=>g S) fun ds=>f (d::ds)
  rw[R.bind_assoc]
  refine cg fun d=>?_
  rw[R.bind_assoc]
  exact bF S gs fun ds=>f (d::ds)
theorem gR {S:SS}:∀ {gs:List (SS→R D)} {ds:List D},aL gs S=.ok ds→ds.length=gs.length
 | [],ds,h=>by cases h;rfl
 | g::gs,ds,h=>rj (n:=gs.length) (fun S' ds' h'=>by
   by_cases q:S'=S
   ·subst q;exact gR h'
   ·exact gR (S:=S') h') S ds h
structure FAL (X:Cx)(F:Fx)(es:List Expr)(gs:List (SS→R D)):Prop where
 out:FA X F es (aL gs)
theorem ad:FAL X F [] []:=⟨ym⟩
theorem aa (ha:FE X F e g)(hr:FAL X F es gs)(hs:starEach (e::es) X.env=(false,eval e X.env)::starEach es X.env:=by rfl):FAL X F (e::es) (g::gs):=⟨vT ha hr.out hs⟩
theorem fe_N (h:FE X F e (eCall f (aL gs))):FE X F e (eBA f gs):=eS h fun S=>bF S gs f
theorem af {x:Str}{p:Pos}{ps:List Str}(b:BX X F k)(h:Fn1 X.prog X.w F.K X.mg X.base F.C k x ps f)(hg:Gl X x)(ha:FAL X F (e::es) gs)(hn:gs.length=ps.length:=by rfl)(hdb:(x==("__debug__":Str))=false:=by decide)
  (he:starEach (e::es) X.env=(false,eval e X.env)::starEach es X.env:=by rfl) (hpl:(backTo pos (starEach es X.env)).any (·.1)=false:=by rfl):FE X F (.Call (.Name x p) (e::es) [] pos) (eBA f gs) :=
 fe_N (v6 b h hg ha.out (fun S ds q=>(gR q).trans hn) hdb he hpl)
theorem aH {x1}(h:FAL X F es gs)(hl:gs.length≤16777216:=by exact Nat.le_of_ble_eq_true rfl):FE X F (.Tuple es x1 pos) (eBA (fun ds=>.ok (.tup ds)) gs) :=
 eS (yn h.out) fun S=>by
  rw[← bF]
  show (aL gs S).bind _=_
  cases q:aL gs S with
  | ok ds=>show (if ds.length≤16777216 then R.ok (FF.D.tup ds) else R.stuck)=_;rw[if_pos (by rw[gR q];exact hl)];rfl
  | err k=>rfl
  | stuck=>rfl
theorem aT (h:FAL X F es gs)(hl:gs.length≤16777216:=by exact Nat.le_of_ble_eq_true rfl):FE X F (.List es pos) (eBA (fun ds=>.ok (.lst ds)) gs) :=
 eS (yo h.out) fun S=>by
  rw[← bF]
  show (aL gs S).bind _=_
  cases q:aL gs S with
  | ok ds=>show (if ds.length≤16777216 then R.ok (FF.D.lst ds) else R.stuck)=_;rw[if_pos (by rw[gR q];exact hl)];rfl
  | err k=>rfl
  | stuck=>rfl
end
section
variable {X:Cx}{F:Fx}{k:Nat}{e f:Expr}{es:List Expr}{p pos:Pos}{x:Str}
theorem zj {i:Nat}(hm:X.mg x=some (.ref (F.C i)))(hg:Gl X x)(hd:(x==("__debug__":Str))=false:=by decide):FE X F (.Name x pos) (eC (.fn i)) :=
 c6 (aX (v:=.ref (F.C i)) hg hm rfl hd) fun _=>by rw[Rep]
theorem uu {CX:CXT}{E:XK}{tf:TE}{t:TA}(hf:PE X f tf)(hr:Room k X.A)(hx:Passes CX X E)(ha:PA X (e::es) t)
  (hev:eval (.Call f (e::es) [] pos) X.env=(do callWith pos (← eval f X.env) [] (backTo pos (starEach (e::es) X.env)) (backToKw pos (keywordEach [] X.env))):=by rfl)
  (he:starEach (e::es) X.env=(false,eval e X.env)::starEach es X.env:=by rfl) (hpl:(backTo pos (starEach es X.env)).any (·.1)=false:=by rfl) :
  PE X (.Call f (e::es) [] pos) (fun σ H Q=>tf σ H fun v H1=>∃ a fd ps sp,v=.ref a∧FnOk X.prog X.w X.K X.mg X.base CX k a fd ps sp∧PySem.W.keepIn X.K (.ref a)=true∧Binds X.K fd ps []∧t σ H1 fun vs H2=>sp (vs++[]) H2 Q E):=by
 intro pins s σ H Q I h
 rw[hev]
 refine wpAny_bind (thn (hf pins s σ H _ I h) fun u s1 ⟨v,H1,I1,r,a,fd,ps,sp,ev,FO,hk,hb,q⟩=>?_)
 subst ev
 cases r
 refine PySem.W.callWith_K (h₀:=X.base) I1.ok.mod.kin hk (thn (ha pos pins s1 σ H1 _ I1 q) fun us s2 ⟨vs,H2,I2,r2,q2⟩=>⟨I2.kIn,?_⟩) he hpl
 exact tH FO hr hb .nil hx I2 r2 q2
structure FnV (P:Program)(w:World)(K:PySem.W.Frag)(mg:Str→Option Value)(base:Heap)(C:Nat→Addr)(k:Nat)(i:Nat)(f:List D→R D):Prop where
 ex:∃ fd ps,FnOk P w K mg base (CXE P w) k (C i) fd ps (spF K C ps.length f)∧PySem.W.keepIn K (.ref (C i))=true∧Binds K fd ps []∧∀ ds,ds.length≠ps.length→f ds=.stuck
def eCV (fs:List Nat)(t:Nat→List D→R D)(gf:SS→R D)(gs:List (SS→R D)):SS→R D:=fun S=>(gf S).bind fun f=>onF fs f fun i=>bA (gs.map fun g=>g S) (t i)
theorem nh {fs:List Nat}{t:Nat→List D→R D}{gf:SS→R D}{gs:List (SS→R D)}(b:BX X F k)(hT:∀ i∈fs,FnV X.prog X.w F.K X.mg X.base F.C k i (t i))(hf:FE X F f gf)(ha:FAL X F (e::es) gs)
  (hev:eval (.Call f (e::es) [] pos) X.env=(do callWith pos (← eval f X.env) [] (backTo pos (starEach (e::es) X.env)) (backToKw pos (keywordEach [] X.env))):=by rfl)
  (he:starEach (e::es) X.env=(false,eval e X.env)::starEach es X.env:=by rfl) (hpl:(backTo pos (starEach es X.env)).any (·.1)=false:=by rfl) :
  FE X F (.Call f (e::es) [] pos) (eCV fs t gf gs) :=
 (uu hf b.room b.pass ha.out hev he hpl).weak fun σ H Q ⟨Z,S,ok,w⟩=>by
  refine aD ok w fun d v H1 Z1 ok1 x1 rv w1=>?_
  cases d with
  | fn i =>
   by_cases hi:fs.contains i=true
   ·rw[Rep]at rv
    obtain⟨fd,ps,h1,h2,h3,h4⟩:=(hT i (by simpa using hi)).ex
    refine⟨F.C i,fd,ps,_,rv,by rw[b.K];exact h1,by rw[b.K];exact h2,by rw[b.K];exact h3,?_⟩
    have e0:onF fs (.fn i) (fun i=>bA (gs.map fun g=>g S) (t i))=(aL gs S).bind (t i):=by
     rw[bF]
     show (if fs.contains i=true then _ else R.stuck)=_
     rw[if_pos hi];rfl
    rw[e0]at w1
    refine aO ok1 w1 fun ds vs H2 Z2 ok2 x2 rs w4=>?_
    by_cases hl:ds.length=ps.length
    ·refine⟨by rw[List.append_nil,← rs.length];exact hl,Z2,ds,ok2.sub,by rw[List.append_nil];exact rs,?_⟩
     cases q:t i ds with
     | ok d=>rw[q]at w4;exact w4
     | err k=>rw[q]at w4;exact w4
     | stuck=>rw[q]at w4;exact w4
    ·rw[h4 ds hl]at w4;exact w4.elim
   ·have e0:onF fs (.fn i) (fun i=>bA (gs.map fun g=>g S) (t i))=.stuck:=by
     show (if fs.contains i=true then _ else R.stuck)=_
     rw[if_neg hi]
    rw[e0]at w1
    exact w1.elim
  | _=>exact w1.elim
end
theorem ni {S:SS}{g:D→SS→R SS}{c:SS→R Bool}{e:SS→R D}:∀ ds,noErr (compGo S g c e ds)=cGo (fun d=>(g d S).bind c) (fun d=>(g d S).bind e) ds
 | []=>rfl
 | d::r=>by
  have ih:=ni (S:=S) (g:=g) (c:=c) (e:=e) r
  rw[cGo,compGo]
  cases q:g d S with
  | err k=>rfl
  | stuck=>rfl
  | ok S1 =>
   show noErr ((c S1).bind fun t=>if t=true then (e S1).bind fun y=>(compGo S g c e r).bind fun ys=>.ok (y::ys) else compGo S g c e r)=(match c S1 with
    | .ok true=>match e S1 with
     | .ok y=>match cGo _ _ r with
      | .ok ys=>.ok (y::ys)
      | _=>.stuck
     | _=>.stuck
    | .ok false=>cGo _ _ r
    | _=>.stuck)
   cases qc:c S1 with
   | err k=>rfl
   | stuck=>rfl
   | ok t =>
    cases t with
    | false=>exact ih
    | true =>
     show noErr ((e S1).bind fun y=>(compGo S g c e r).bind fun ys=>.ok (y::ys))=(match e S1 with
      | .ok y=>match cGo _ _ r with
       | .ok ys=>.ok (y::ys)
       | _=>.stuck
      | _=>.stuck)
     cases qe:e S1 with
     | err k=>rfl
     | stuck=>rfl
     | ok y =>
      rw[← ih]
      show noErr ((compGo S g c e r).bind fun ys=>.ok (y::ys))=(match noErr (compGo S g c e r) with
       | .ok ys=>.ok (y::ys)
       | _=>.stuck)
      cases compGo S g c e r<;>rfl
def eCC (own:Nat)(cap:List Nat)(it:SS→R (List D))(g:D→SS→R SS)(c:SS→R Bool)(e:SS→R D):SS→R D:=fun S=>(it S).bind fun ds=>(cGo (fun d=>(g d (blkS own cap S)).bind c) (fun d=>(g d (blkS own cap S)).bind e) ds).bind fun ys=>.ok (.lst ys)
theorem nj {own:Nat}{cap:List Nat}{it:SS→R (List D)}{g:D→SS→R SS}{c:SS→R Bool}{e:SS→R D}(S:SS):eComp own cap it g c e S=eCC own cap it g c e S:=by
 unfold eComp eCC
 exact cg fun ds=>by rw[ni]
def eC2 (own:Nat)(cap:List Nat)(it:SS→R (List D))(i j:Nat)(c:SS→R Bool)(e:SS→R D):SS→R D:=fun S=>(it S).bind fun ds =>
 (cGo (fun d=>un2 d fun x y=>c (((blkS own cap S).set i (some (.val x))).set j (some (.val y)))) (fun d=>un2 d fun x y=>e (((blkS own cap S).set i (some (.val x))).set j (some (.val y)))) ds).bind fun ys=>.ok (.lst ys)
theorem nk {α:Type}{i j:Nat}{S:SS}{f:SS→R α}(d:D):(gTup [i,j] d S).bind f=un2 d fun x y=>f ((S.set i (some (.val x))).set j (some (.val y))):=by
 cases d with
 | tup ds =>
  match ds with
  | []=>rfl
  | [_]=>rfl
  | [x,y]=>rfl
  | _::_::_::_=>unfold gTup un2;simp
 | _=>rfl
theorem wq {own:Nat}{cap:List Nat}{it:SS→R (List D)}{i j:Nat}{c:SS→R Bool}{e:SS→R D}(S:SS):eCC own cap it (gTup [i,j]) c e S=eC2 own cap it i j c e S:=by
 unfold eCC eC2
 exact cg fun ds=>by rw[show (fun d=>(gTup [i,j] d (blkS own cap S)).bind c)=_ from funext fun d=>nk d,show (fun d=>(gTup [i,j] d (blkS own cap S)).bind e)=_ from funext fun d=>nk d]
theorem fe_C {X:Cx}{F:Fx}{e:Expr}{own:Nat}{cap:List Nat}{it:SS→R (List D)}{g:D→SS→R SS}{c:SS→R Bool}{el:SS→R D}(h:FE X F e (eComp own cap it g c el)):FE X F e (eCC own cap it g c el):=eS h nj
theorem zk {X:Cx}{F:Fx}{e:Expr}{own:Nat}{cap:List Nat}{it:SS→R (List D)}{i j:Nat}{c:SS→R Bool}{el:SS→R D}(h:FE X F e (eComp own cap it (gTup [i,j]) c el)):FE X F e (eC2 own cap it i j c el):=eS h fun S=>(nj S).trans (wq S)
section
variable {X:Cx}{F:Fx}{st:Stmt}{i:Nat}{g:SS→R D}
def sAppC (i:Nat)(g:SS→R D):SS→O:=fun S=>match S[i]? with
 | some (some (.own ds))=>rO (((g S).bind fun v=>oApp ds v).bind fun ds'=>.ok (.nx (S.set i (some (.own ds')))))
 | _=>.stuck
theorem nq {α:Type}(r:R D)(f:List D→R α):((r.bind fun d=>(R.ok []:R (List D)).bind fun ds=>R.ok (d::ds)).bind f)=r.bind fun d=>f [d]:=by cases r<;>rfl
theorem fs_A (h:FS X F st (sApp i (aL [g]))):FS X F st (sAppC i g):=lX h fun S=>by
 unfold sApp sAppC
 cases q:S[i]? with
 | none=>rfl
 | some o =>
  cases o with
  | none=>rfl
  | some x =>
   cases x with
   | val d=>rfl
   | mat m=>rfl
   | dic m=>rfl
   | dit m=>rfl
   | own ds =>
    show rO (((g S).bind fun d=>(R.ok []:R (List D)).bind fun ds=>R.ok (d::ds)).bind _)=rO _
    rw[nq,R.bind_assoc]
    refine congrArg rO (cg fun v=>?_)
    unfold oApp
    show (if _ then _ else _)=_
    split<;>rfl
def sExtC (i:Nat)(g:SS→R D):SS→O:=fun S=>match S[i]? with
 | some (some (.own ds))=>rO (((g S).bind fun v=>oExt ds v).bind fun ds'=>.ok (.nx (S.set i (some (.own ds')))))
 | _=>.stuck
theorem fs_X (h:FS X F st (sExt i (aL [g]))):FS X F st (sExtC i g):=lX h fun S=>by
 unfold sExt sExtC
 cases q:S[i]? with
 | none=>rfl
 | some o =>
  cases o with
  | none=>rfl
  | some x =>
   cases x with
   | val d=>rfl
   | mat m=>rfl
   | dic m=>rfl
   | dit m=>rfl
   | own ds =>
    show rO (((g S).bind fun d=>(R.ok []:R (List D)).bind fun ds=>R.ok (d::ds)).bind _)=rO _
    rw[nq,R.bind_assoc]
    refine congrArg rO (cg fun v=>?_)
    unfold oExt
    cases v with
    | lst xs=>by_cases hl:ds.length+xs.length≤16777216<;>simp[hl]
    | tup xs=>by_cases hl:ds.length+xs.length≤16777216<;>simp[hl]
    | _=>rfl
def sOwnC (i:Nat)(gs:List (SS→R D)):SS→O:=fun S=>rO ((eBA .ok gs S).bind fun ds=>.ok (.nx (S.set i (some (.own ds)))))
theorem fs_O {gs:List (SS→R D)}(h:FS X F st (sOwn i (aL gs)))(hl:gs.length≤16777216:=by exact Nat.le_of_ble_eq_true rfl):FS X F st (sOwnC i gs):=lX h fun S=>by
 unfold sOwn sOwnC
 rw[← bF,R.bind_assoc]
 refine congrArg rO ?_
 cases q:aL gs S with
 | ok ds=>show (if ds.length≤16777216 then _ else _)=_;rw[if_pos (by rw[gR q];exact hl)];rfl
 | err k=>rfl
 | stuck=>rfl
end
section
variable {X:Cx}{F:Fx}{e tg:Expr}{g ga:SS→R D}{f:List D→List D→R D}{gs:List (SS→R D)}
def eML (f:List D→List D→R D)(g:SS→R D)(gs:List (SS→R D)):SS→R D:=fun S=>(g S).bind fun d=>onL d fun xs=>bA (gs.map fun g=>g S) (f xs)
theorem nr (h:FE X F e (eMethL f g (aL gs))):FE X F e (eML f g gs):=eS h fun S=>by
 unfold eMethL eML
 refine cg fun d=>?_
 cases d with
 | lst xs=>exact bF S gs (f xs)
 | _=>rfl
theorem qf {g g':SS→R (List D)}(h:FI X F tg e g)(hg:∀ S,g S=g' S):FI X F tg e g':=by
 have:g=g':=funext hg
 rw[← this];exact h
theorem fS (h:FI X F tg e (iRange1 (aL gs))):FI X F tg e (eBA rng1 gs):=qf h fun S=>bF S gs rng1
end
theorem qh {k:D→L Unit}{ds:List D}(h:ds.length≠1):a1 k ds=.stuck:=by
 match ds,h with
 | [],_=>rfl
 | [_],h=>exact absurd rfl h
 | _::_::_,_=>rfl
section
variable {σ:Type}{X:Cx}{F:Fx}{S:SS}{st:Stmt}{rest:List Stmt}{J:σ→SS→Prop}
end
section
variable {P:Program}{w:World}{K:PySem.W.Frag}{mg:Str→Option Value}{base:Heap}
theorem wr {x qual:Str}{st:Stmt}{f:Addr}{fd:FuncData}{N ps:List Str}{k:Nat}{C:Nat→Addr}{fn:List D→R D}(F:Fun K x qual st f fd)(S:FnScope N ps (defScope st))
  (h:∀ (cdv:Value) (A:Around) (outer:List Env) (s:Shared) (H Z:Hp) (E:XK),BX (bodyX P w K mg base N qual (defScope st) f cdv A outer s H E) ⟨K,C,H,Z,E⟩ k →
   PassesOwn (model P w) (bodyX P w K mg base N qual (defScope st) f cdv A outer s H E).A (bodyX P w K mg base N qual (defScope st) f cdv A outer s H E).env (bodyX P w K mg base N qual (defScope st) f cdv A outer s H E).xe →
   MadeX (bodyX P w K mg base N qual (defScope st) f cdv A outer s H E) ⟨K,C,H,Z,E⟩ →
   ∀ ds,ds.length=ps.length→∃ l:L Unit,fn ds=outL l∧FL (bodyX P w K mg base N qual (defScope st) f cdv A outer s H E) ⟨K,C,H,Z,E⟩ (startS N.length ds) (defBody st) JU l) :
  FnOk P w K mg base (CXE P w) (k+1) f fd ps (spF K C ps.length fn):=by
 obtain⟨oc,od,kV,doc,pm,an,cdv,ct,osl,rfl,lk,hcd⟩:=F.ex
 refine xr lk hcd S (fun vs H Q E q=>q.1) fun A outer s H vs Q E hr hsp=>?_
 obtain⟨hv,Z,ds,z,r,w⟩:=hsp
 obtain⟨l,e,hl⟩:=h cdv A outer s H Z E ⟨hr,rfl,rfl,kW⟩ PassesOwn.leaving (fun pins σ H1 s1 h1 ea C1 args I hx hE=>re I hx hE) ds (by rw[r.length];exact hv)
 refine⟨_,hl,Z,m6 (F:=⟨K,C,H,Z,E⟩) (N:=N) z r,?_⟩
 rw[e]at w
 cases l with
 | nx u=>exact fun S' ρ' H' Z' _ _ ok=>w H' Z' ok.ex .non (by rw[Rep])
 | rt d=>exact fun v H' Z' x rv=>w H' Z' x v rv
 | er k=>exact w
 | stuck=>exact w
end
theorem len1 {ds:List D}(h:ds.length=1):∃ a,ds=[a]:=by
 match ds,h with
 | [a],_=>exact⟨a,rfl⟩
theorem len2 {ds:List D}(h:ds.length=2):∃ a b,ds=[a,b]:=by
 match ds,h with
 | [a,b],_=>exact⟨a,b,rfl⟩
theorem len3 {ds:List D}(h:ds.length=3):∃ a b c,ds=[a,b,c]:=by
 match ds,h with
 | [a,b,c],_=>exact⟨a,b,c,rfl⟩
theorem len4 {ds:List D}(h:ds.length=4):∃ a b c d,ds=[a,b,c,d]:=by
 match ds,h with
 | [a,b,c,d],_=>exact⟨a,b,c,d,rfl⟩
theorem len5 {ds:List D}(h:ds.length=5):∃ a b c d e,ds=[a,b,c,d,e]:=by
 match ds,h with
 | [a,b,c,d,e],_=>exact⟨a,b,c,d,e,rfl⟩
end FF
end
noncomputable section
namespace FF
open PySem PySem.Spec PyProof.Rows L2
section
variable {X:Cx}{F:Fx}{st:Stmt}{i:Nat}{g ge:SS→R D}
end
theorem uv {v v':V}{u:Value}(h:RelV v u)(h':RelV v' u):v=v':=by
 cases v<;>cases v'<;>simp only[L2.RelV]at h h'<;>first
  | rfl
  | (subst h;cases h';rfl)
  | (subst h;cases h';done)
  | (obtain⟨t,rfl⟩:=h;obtain⟨t',e⟩:=h';cases e;rfl)
  | (obtain⟨t,rfl⟩:=h;obtain⟨t',e⟩:=h';cases e;done)
  | (obtain⟨t,rfl⟩:=h;cases h';done)
  | (subst h;obtain⟨t',e⟩:=h';cases e;done)
section
variable {X:Cx}{F:Fx}{pins:List (Addr×Obj)}{σ:St}{H Z:Hp}{s:Shared}
open Classical in
noncomputable def itemB (P:Value→Prop) (u:Value):Bool:=if P u then true else false
theorem fT {K:PySem.W.Frag}{C:Nat→Addr}{n:Nat}{dx:D}{vx:V}{x:Value}(hK:X.K=K)(I:Inv X pins σ H s)(z:Same Z H)(gx:good n dx=true)(rx:Rep K C Z dx vx)(hx:RelV vx x){A:Around}(hu:A.units+n < cLine)(ds:List D)(hg:goods n ds=true){vs:List V}{us:List Value}(rs:Reps K C Z ds vs)(hv:Vals vs us) :
  ∃ e:Value→Bool,(∀ u∈us,SeqAt.EqAt A s u x (e u))∧us.any e=ds.any fun d=>eqD d dx:=by
 refine⟨itemB fun u=>∃ d v,good n d=true∧Rep K C Z d v∧RelV v u∧eqD d dx=true,?_⟩
 have key:∀ (d:D) (v:V) (u:Value),good n d=true→Rep K C Z d v→RelV v u→itemB (fun u=>∃ d v,good n d=true∧Rep K C Z d v∧RelV v u∧eqD d dx=true) u=eqD d dx:=fun d v u gd rd hd=>by
  unfold itemB
  by_cases h:eqD d dx=true
  ·rw[if_pos ⟨d,v,gd,rd,hd,h⟩,h]
  ·rw[if_neg,(by simpa using h:eqD d dx=false)]
   rintro ⟨d',v',g',r',h1,h2⟩
   have e1:=uv h1 hd
   subst e1
   rw[iT hK I z n d' d v' g' gd r' rd]at h2
   exact h h2
 induction ds generalizing vs us with
 | nil =>
  rw[Reps]at rs
  subst rs
  cases hv
  exact⟨fun u hu=>(nomatch hu),rfl⟩
 | cons d ds ih =>
  rw[Reps]at rs
  obtain⟨v,r,rfl,r1,r2⟩:=rs
  rw[goods,Bool.and_eq_true]at hg
  cases hv with
  | cons hv1 hv2 =>
   obtain⟨i1,i2⟩:=ih hg.2 r2 hv2
   refine⟨fun u hu'=>?_,?_⟩
   ·rcases List.mem_cons.mp hu' with e | e
    ·subst e
     rw[key d v _ hg.1 r1 hv1]
     exact fi hK I z n A d dx v vx _ _ hg.1 gx r1 rx hv1 hx hu
    ·exact i1 u e
   ·rw[List.any_cons,List.any_cons,i2,key d v _ hg.1 r1 hv1]
end
def rInD (K:PySem.W.Frag)(C:Nat→Addr)(neg:Bool):R2:=fun x y H Q=>∃ (Z:Hp) (dx:D) (ds:List D) (p:Addr) (vs:List V),Same Z H∧Rep K C Z dx x∧good 60 dx=true∧y=.ref p∧(SqL K Z p vs∨SqT K Z p vs)∧Reps K C Z ds vs∧goods 60 ds=true∧Q (.bl (if neg then !(ds.any fun d=>eqD d dx) else ds.any fun d=>eqD d dx)) H
section
variable {X:Cx}{F:Fx}{a b:Expr}{ga gb:SS→R D}{pos:Pos}{k:Nat}
theorem yH (hK:X.K=F.K)(hr:Room k X.A):OpR X (compareOp .In) (rInD F.K F.C false):=by
 intro pins s σ H x y v u Q I rx ry h
 obtain⟨Z,dx,ds,p,vs,z,rd,gd,rfl,hq,rs,gs,q⟩:=h
 cases ry
 have hu:X.A.in1.units+60 < cLine:=by have:=hr.un;show X.A.units+1+60 < cLine;omega
 rcases hq with hq | hq
 ·obtain⟨its,r,pl,hz⟩:=I.list (by rw[hK];exact z.seq hq)
  obtain⟨e,e1,e2⟩:=fT hK I z gd rd rx hu ds gs rs r
  refine SeqAt.in_listAt e pl.isList (fun w hw=>e1 w (by simpa using hw)) ⟨.bl _,H,I,rfl,?_⟩
  rw[show its.toArray.any e=its.any e by simp,e2]
  exact q
 ·obtain⟨its,r,pl,hz⟩:=I.tuple (by rw[hK];exact hq.mono z)
  obtain⟨e,e1,e2⟩:=fT hK I z gd rd rx hu ds gs rs r
  refine SeqAt.in_tupleAt e pl (fun w hw=>e1 w (by simpa using hw)) ⟨.bl _,H,I,rfl,?_⟩
  rw[show its.toArray.any e=its.any e by simp,e2]
  exact q
theorem rK (hK:X.K=F.K)(hr:Room k X.A):OpR X (compareOp .NotIn) (rInD F.K F.C true):=by
 intro pins s σ H x y v u Q I rx ry h
 obtain⟨Z,dx,ds,p,vs,z,rd,gd,rfl,hq,rs,gs,q⟩:=h
 cases ry
 have hu:X.A.in1.units+60 < cLine:=by have:=hr.un;show X.A.units+1+60 < cLine;omega
 rcases hq with hq | hq
 ·obtain⟨its,r,pl,hz⟩:=I.list (by rw[hK];exact z.seq hq)
  obtain⟨e,e1,e2⟩:=fT hK I z gd rd rx hu ds gs rs r
  refine SeqAt.notIn_listAt e pl.isList (fun w hw=>e1 w (by simpa using hw)) ⟨.bl _,H,I,rfl,?_⟩
  rw[show its.toArray.any e=its.any e by simp,e2]
  exact q
 ·obtain⟨its,r,pl,hz⟩:=I.tuple (by rw[hK];exact hq.mono z)
  obtain⟨e,e1,e2⟩:=fT hK I z gd rd rx hu ds gs rs r
  refine SeqAt.notIn_tupleAt e pl (fun w hw=>e1 w (by simpa using hw)) ⟨.bl _,H,I,rfl,?_⟩
  rw[show its.toArray.any e=its.any e by simp,e2]
  exact q
theorem qi {dx dy:D}{r:R D}(h:dInD dx dy=r):(∃ ds,(dy=.tup ds∨dy=.lst ds)∧good 60 dx=true∧goods 60 ds=true∧r=.ok (.bl (ds.any fun d=>eqD d dx)))∨r=.stuck:=by
 subst h
 cases dy with
 | tup ds =>
  show _∨(if good 60 dx=true∧goods 60 ds=true then _ else _)=_
  by_cases q:good 60 dx=true∧goods 60 ds=true
  ·exact .inl ⟨ds,.inl rfl,q.1,q.2,if_pos q⟩
  ·exact .inr (if_neg q)
 | lst ds =>
  show _∨(if good 60 dx=true∧goods 60 ds=true then _ else _)=_
  by_cases q:good 60 dx=true∧goods 60 ds=true
  ·exact .inl ⟨ds,.inr rfl,q.1,q.2,if_pos q⟩
  ·exact .inr (if_neg q)
 | _=>exact .inr rfl
theorem wt:OpD F (rInD F.K F.C false) dInD:=by
 intro H Z x y dx dy Q s rx ry w
 rcases qi (dx:=dx) (dy:=dy) rfl with ⟨ds,hd,g1,g2,e⟩ | e
 ·rw[e]at w
  rcases hd with rfl | rfl
  ·rw[Rep]at ry
   obtain⟨p,vs,rfl,h1,h2⟩:=ry
   exact⟨Z,dx,ds,p,vs,s,rx,g1,rfl,.inr h1,h2,g2,WG.now w s _ aY⟩
  ·rw[Rep]at ry
   obtain⟨p,vs,rfl,h1,h2⟩:=ry
   exact⟨Z,dx,ds,p,vs,s,rx,g1,rfl,.inl h1,h2,g2,WG.now w s _ aY⟩
 ·rw[e]at w;exact w.elim
theorem o4:OpD F (rInD F.K F.C true) dNotInD:=by
 intro H Z x y dx dy Q s rx ry w
 unfold dNotInD at w
 rcases qi (dx:=dx) (dy:=dy) rfl with ⟨ds,hd,g1,g2,e⟩ | e
 ·rw[e]at w
  have w2:WG F H Z (R.ok (FF.D.bl (!(ds.any fun d=>eqD d dx)))) (fun d H' Z'=>∀ v,Rep F.K F.C Z' d v→Q v H'):=w
  rcases hd with rfl | rfl
  ·rw[Rep]at ry
   obtain⟨p,vs,rfl,h1,h2⟩:=ry
   exact⟨Z,dx,ds,p,vs,s,rx,g1,rfl,.inr h1,h2,g2,WG.now w2 s _ aY⟩
  ·rw[Rep]at ry
   obtain⟨p,vs,rfl,h1,h2⟩:=ry
   exact⟨Z,dx,ds,p,vs,s,rx,g1,rfl,.inl h1,h2,g2,WG.now w2 s _ aY⟩
 ·rw[e]at w;exact w.elim
theorem yI (bx:BX X F k)(ha:FE X F a ga)(hb:FE X F b gb)(hm:behindInMarks .In b=false:=by rfl):FT X F (.Compare a [.In] [b] pos) (gB (eOp dInD ga gb)):=dO (yH bx.K bx.room) wt ha hb (hm:=hm)
theorem rL (bx:BX X F k)(ha:FE X F a ga)(hb:FE X F b gb)(hm:behindInMarks .NotIn b=false:=by rfl):FT X F (.Compare a [.NotIn] [b] pos) (gB (eOp dNotInD ga gb)):=dO (rK bx.K bx.room) o4 ha hb (hm:=hm)
end
section
variable {X:Cx}{F:Fx}{p pos:Pos}{e e2:Expr}{gs:SS→R (List D)}{k:Nat}
end
section
variable {X:Cx}{F:Fx}{pos p1 p2:Pos}{x y:Str}{kk:Nat}
theorem wu (i j:Nat)(hc:X.calm=true)(hN:X.N.Nodup)(hij:i≠j:=by decide)(hi:X.N[i]?=some x:=by rfl)(hj:X.N[j]?=some y:=by rfl)(hx:Loc X.env.scope x:=by first | exact Or.inl rfl | exact Or.inr rfl)(hy:Loc X.env.scope y:=by first | exact Or.inl rfl | exact Or.inr rfl)
  (hfx:X.fn x=true∨X.env.scope.names.lookup x=some .local:=by first | exact .inl rfl | exact .inr rfl) (hfy:X.fn y=true∨X.env.scope.names.lookup y=some .local:=by first | exact .inl rfl | exact .inr rfl)
  (hK:X.K=F.K:=by first | rfl | assumption) (hn:(assignEach [.Name x p1,.Name y p2] X.env).length=2:=by rfl) (hst:(assignEach [.Name x p1,.Name y p2] X.env).findIdx? (·.1)=none:=by rfl):FG X F (.Tuple [.Name x p1,.Name y p2] kk pos) (gTup [i,j]) :=
 (xU hc (mR (iR (i:=i) hN hi hx hfx) (mR (iR (i:=j) hN hj hy hfy) vH)) hn hst).weak fun v σ H Q ⟨Z,S,d,ok,rd,w⟩=>by
  cases d with
  | tup ds =>
   match ds with
   | [a,b] =>
    rw[Rep]at rd
    obtain⟨c,vs,rfl,h1,h2⟩:=rd
    rw[Reps]at h2
    obtain⟨v1,r,rfl,q1,h2⟩:=h2
    rw[Reps]at h2
    obtain⟨v2,r,rfl,q2,h2⟩:=h2
    rw[Reps]at h2
    subst h2
    refine⟨c,[v1,v2],rfl,by rw[hK];exact h1.mono ok.sub,rfl,v1,[v2],rfl,v2,[],rfl,rfl,?_⟩
    exact WG.now w ok.sub _ ((ok.setVal (i:=i) q1).setVal (i:=j) q2)
   | []=>exact w.elim
   | [_]=>exact w.elim
   | a::b::c::r =>
    have e:gTup [i,j] (.tup (a::b::c::r)) S=.stuck:=by unfold gTup;simp
    rw[e]at w
    exact w.elim
  | _=>exact w.elim
theorem uw {own i j:Nat}(hi:i < own)(hj:j < own):Own own (gTup [i,j]):=fun d S S1 e=>by
 cases d with
 | tup ds =>
  match ds with
  | [a,b] =>
   have e':R.ok ((S.set i (some (.val a))).set j (some (.val b)))=R.ok S1:=e
   cases e'
   refine⟨by simp,fun n hn=>?_⟩
   rw[List.getElem?_set_ne (by omega),List.getElem?_set_ne (by omega)]
  | []=>cases e
  | [_]=>cases e
  | a::b::c::r =>
   have q:gTup [i,j] (.tup (a::b::c::r)) S=.stuck:=by unfold gTup;simp
   rw[q]at e
   cases e
 | _=>cases e
end
end FF
end
noncomputable section
namespace FF
open PySem PySem.Spec PyProof.Rows L2
theorem ip:∀ (l acc:List Int),l.foldl step_dedup acc=acc++(l.filter fun x=>!acc.any (· == x)).eraseDups
 | [],acc=>by simp
 | x::l,acc=>by
  rw[List.foldl_cons,ip l]
  unfold step_dedup
  by_cases h:acc.any (· == x)=true
  ·rw[if_pos h,List.filter_cons_of_neg (by rw[h];decide)]
  ·have h':acc.any (· == x)=false:=Bool.not_eq_true _ ▸ h
   have ef:(l.filter fun y=>!(acc++[x]).any (· == y))=(l.filter fun y=>!acc.any (· == y)).filter fun b=>!b==x:=by
    rw[List.filter_filter]
    refine List.filter_congr fun y _=>?_
    rw[List.any_append]
    have:([x].any fun z=>z==y)=(y==x):=by simp[Bool.beq_comm,BEq.comm]
    rw[this]
    cases acc.any (· == y)<;>cases (y==x)<;>rfl
   rw[if_neg h,List.filter_cons_of_pos (by rw[h'];rfl),List.eraseDups_cons,ef,List.append_assoc]
   rfl
theorem ku (is:List Int):(firstMet (fun i=>is.getD i 0) is.length).length=is.eraseDups.length:=by
 unfold firstMet
 rw[ip]
 have:(List.range is.length).map (fun i=>is.getD i 0)=is:=by
  apply List.ext_getElem?
  intro i
  rw[List.getElem?_map]
  by_cases h:i < is.length
  ·rw[List.getElem?_range h,List.getElem?_eq_getElem h];simp[List.getD,h]
  ·rw[List.getElem?_eq_none (by simpa using h),List.getElem?_eq_none (by simpa using h)];rfl
 rw[this]
 have:(is.filter fun x=>!([]:List Int).any (· == x))=is:=List.filter_eq_self.mpr fun _ _=>rfl
 rw[this,List.nil_append]
section
variable {X:Cx}{F:Fx}{p p2 pos pos2:Pos}{e:Expr}{gs:SS→R (List D)}{k:Nat}
theorem ux (hc:X.calm=true):CallR X (.type "set") (fun xs H Q=>∃ (p:Addr) (is:List Int),xs=[.ref p]∧SqL X.K H p (is.map V.int)∧is.length≤4000∧∀ a,H a=none→Q (.ref a) (upd H a (.set (fun k'=>(firstMet (fun i=>is.getD i 0) is.length).any (· == k')) is.eraseDups.length))):=by
 intro pins s σ H xs us Q I r h
 obtain⟨p,is,rfl,hq,hl,q⟩:=h
 obtain⟨u,rfl,ru⟩:=vals1 r
 cases ru
 obtain⟨its,rv,pl,hz⟩:=I.list hq
 obtain⟨ps,rfl,e⟩:=aU rv
 have hlen:ps.length=is.length:=by rw[← e,List.length_map]
 have hs:(ps.map fun p=>Value.int p.1 p.2).toArray.size=is.length:=by simp[hlen]
 refine call_set_list (ns:=is) (I.ok.hd hc) pl.isList ?_ (by rw[hs];show is.length+1 < 4096;omega) fun h' tk hS hk=>?_
 ·have:∀ (ps:List (Int×Tok)),IntsAre (ps.map fun p=>Value.int p.1 p.2) (ps.map (·.1)):=by
   intro ps
   induction ps with
   | nil=>exact .nil
   | cons a l ih=>exact .cons a.1 a.2 ih
  rw[← e]
  exact this ps
 ·rw[hs,ku]at hS
  exact⟨.ref s.heap.objs.size,_,I.laid (o:=.set (fun k'=>(firstMet (fun i=>is.getD i 0) is.length).any (· == k')) is.eraseDups.length) (t':=tk) (fun b u q=>hk b u (Heap.lt_size q) q) (Nat.le_refl _) hS,rfl,q _ I.fresh⟩
theorem nt:CallR X (.builtin "len") (fun xs H Q=>∃ (a:Addr) (S:Int→Bool) (n:Nat),xs=[.ref a]∧H a=some (.set S n)∧Q (.int n) H):=by
 intro pins s σ H xs us Q I r h
 obtain⟨a,S,n,rfl,hq,q⟩:=h
 obtain⟨u,rfl,ru⟩:=vals1 r
 cases ru
 obtain⟨o,es,ep,t,h1,h2,h3,h4,h5,h6,h7,h8⟩:=(show s.heap.SetOf (intKind X.prog X.w) a S n from I.hok a _ hq)
 subst h8
 have:es.size < 4096:=h6
 exact call_len_set h1 h2 h3 h7 (by omega) ⟨.int es.size,H,I.tok _,⟨_,rfl⟩,q⟩
theorem rM (bx:BX X F k)(hg:Gl X "len")(hm:X.mg "len"=none)(hg2:Gl X "set")(hm2:X.mg "set"=none)(ha:FA X F [e] gs)(he:starEach [e] X.env=(false,eval e X.env)::starEach [] X.env:=by rfl)(hpl:(backTo pos2 (starEach [] X.env)).any (·.1)=false:=by rfl)
  (he2:starEach [.Call (.Name "set" p2) [e] [] pos2] X.env=(false,eval (.Call (.Name "set" p2) [e] [] pos2) X.env)::starEach [] X.env:=by rfl) (hpl2:(backTo pos (starEach [] X.env)).any (·.1)=false:=by rfl) :
  FE X F (.Call (.Name "len" p) [.Call (.Name "set" p2) [e] [] pos2] [] pos) (eCall dLenSet gs) :=
 (dN nt hg hm PySem.boot_len (fJ (gJ (ux bx.calm) hg2 hm2 (by decide +kernel) ha (he:=he) (hpl:=hpl)) lG he2) (he:=he2) (hpl:=hpl2)).weak fun σ H Q ⟨Z,S,ok,w⟩=>by
  refine aO ok w fun ds vs H1 Z1 ok1 x1 rs w1=>?_
  unfold dLenSet at w1
  split at w1
  ·rename_i xs
   split at w1
   ·rename_i is e
    split at w1
    ·rename_i hl
     obtain⟨v,rfl,h⟩:=aZ rs
     rw[Rep]at h
     obtain⟨a,us,rfl,h1,h2⟩:=h
     have e2:=a6 h2 e
     subst e2
     refine⟨a,is,rfl,by rw[bx.K];exact ok1.sub.seq h1,hl,fun c hc=>⟨c,_,_,rfl,ar,?_⟩⟩
     exact w1 _ _ (Ex.hidden ok1.sub hc) _ aE
    ·exact w1.elim
   ·exact w1.elim
  ·exact w1.elim
end
end FF
end
noncomputable section
namespace FF
open PySem PySem.Spec PyProof.Rows L2
section
variable {X:Cx}{F:Fx}
variable {σ:Type}{S:SS}{rest:List Stmt}{J:σ→SS→Prop}{e:Expr}{ge:SS→R D}{r:R D}{n:Nat}
end
end FF
end
noncomputable section
namespace L2
open PySem PySem.Spec PyProof.Rows
section
variable {X:Cx}{pos:Pos}
end
end L2
namespace FF
open PySem PySem.Spec PyProof.Rows L2
section
variable {X:Cx}{F:Fx}{σ:Type}{S:SS}{st:Stmt}{rest:List Stmt}{J:σ→SS→Prop}
end
end FF
end
noncomputable section
namespace FF
open PySem PySem.Spec PyProof.Rows L2
section
variable {prog:Program}{w:World}{A:Around}{E:Value→Shared→Prop}{s:Shared}
theorem fU {it t:Addr}{i:Nat}{items:Array Value}{x:Value}{Q:Value→Shared→Prop}(hit:s.heap.IsTupleIter it t i)
  (hl:s.heap.IsTuple t items) (hx:items[i]?=some x)
  (hQ:∀ h',h'.IsTupleIter it t (i+1)→Heap.SameBut it s.heap h'→Q x { s with heap:=h' }) :
  wpAny (model prog w) A (Builtin.SmallTypes.nextOf (.ref it)) Q E s:=by
 obtain⟨o,ho,hc,hd⟩:=id hit
 obtain⟨ol,hol,_,nl,hdl⟩:=hl
 unfold Builtin.SmallTypes.nextOf
 refine wpAny_bind (wpAny_callSpecial?_slot (name:=Str.ofString "__next__") hit.typeIs F.slot_tuple_iterator_next
  (wpAny_call_entry F.slot_tuple_iterator_next hit.typeIs F.entry_tuple_iterator_next ?_ (F.args_tuple_iterator_next_1 _)))
 show wpAny _ _ (field (.ref it) 0 >>= _) _ _ s
 refine wpAny_bind (wpAny_field ho hd (x:=.ref t) rfl ?_)
 show wpAny _ _ (if (Value.ref t==Value.none)=true then _ else _) _ _ s
 rw[if_neg (show ¬ ((Value.ref t==Value.none)=true) from Bool.false_ne_true)]
 show wpAny _ _ (field (.ref it) 1 >>= _) _ _ s
 refine wpAny_bind (wpAny_field ho hd (x:=.int i 0) rfl ?_)
 show wpAny _ _ (seqItems? (.ref t) >>= _) _ _ s
 refine wpAny_bind (wpAny_seqItems hol hdl ?_)
 simp only[Int.toNat_natCast,hx]
 refine wpAny_bind (wpAny_setField ho hd (by simp) (wpAny_pure ⟨x,rfl,wpAny_pure (hQ _ ?_ (Heap.SameBut.update ..))⟩))
 exact⟨_,Heap.get?_update_self _ ho (Obj.isFreed_of_fields (Obj.data_mapFields hd _)),(Obj.cls_mapFields ..).trans hc,by
  rw[Obj.data_mapFields hd];simp[rawInt]⟩
theorem gT {it t:Addr}{i:Nat}{items:Array Value}{Q:Value→Shared→Prop}(hh:A.handled=none)
  (hit:s.heap.IsTupleIter it t i) (hl:s.heap.IsTuple t items) (hx:items[i]?=none)
  (hE:∀ h' e,Heap.ExtBut it s.heap h'→(∃ o,h'.get? e=some o∧o.cls=.type "StopIteration")→E (.ref e) { s with heap:=h' }) :
  wpAny (model prog w) A (Builtin.SmallTypes.nextOf (.ref it)) Q E s:=by
 obtain⟨o,ho,hc,hd⟩:=id hit
 obtain⟨ol,hol,_,nl,hdl⟩:=hl
 unfold Builtin.SmallTypes.nextOf
 refine wpAny_bind (wpAny_callSpecial?_slot (name:=Str.ofString "__next__") hit.typeIs F.slot_tuple_iterator_next
  (wpAny_call_entry F.slot_tuple_iterator_next hit.typeIs F.entry_tuple_iterator_next ?_ (F.args_tuple_iterator_next_1 _)))
 show wpAny _ _ (field (.ref it) 0 >>= _) _ _ s
 refine wpAny_bind (wpAny_field ho hd (x:=.ref t) rfl ?_)
 show wpAny _ _ (if (Value.ref t==Value.none)=true then _ else _) _ _ s
 rw[if_neg (show ¬ ((Value.ref t==Value.none)=true) from Bool.false_ne_true)]
 show wpAny _ _ (field (.ref it) 1 >>= _) _ _ s
 refine wpAny_bind (wpAny_field ho hd (x:=.int i 0) rfl ?_)
 show wpAny _ _ (seqItems? (.ref t) >>= _) _ _ s
 refine wpAny_bind (wpAny_seqItems hol hdl ?_)
 simp only[Int.toNat_natCast,hx]
 refine wpAny_bind (wpAny_rule (wpAny_bind (wpAny_setField ho hd (by simp) ?_)))
 show wpAny _ _ (newExc (.type "StopIteration") [] >>= _) _ _ _
 refine wpAny_bind ?_
 simp only[newExc,newTuple]
 refine wpAny_bind (wpAny_newObj_type ?_ (by size_fits))
 refine wpAny_bind (m:=firstArgMember _ _) (wpAny_of_eq (a:=Value.none) (by first | rfl | (simp only[firstArgMember];rfl)) ?_)
 refine wpAny_newObj_type ?_ (by size_fits)
 simp only[raiseNew]
 refine wpAny_bind (wpAny_handled ?_)
 first | rw[show A.in1.handled=none from hh] | rw[hh]
 refine wpAny_bind (wpAny_pure (wpAny_throw ?_))
 exact hE _ _ (((Heap.SameBut.update ..).extBut.push _).push _) ⟨_,Heap.get?_push_size _ rfl,rfl⟩
def SIt (h:Heap)(b:Bool)(it a:Addr)(k:Nat):Prop:=if b=true then h.IsTupleIter it a k else h.IsListIter it a k
def SOb (h:Heap)(b:Bool)(a:Addr)(xs:Array Value):Prop:=if b=true then h.IsTuple a xs else h.IsList a xs
theorem SIt.at {h h':Heap}{b:Bool}{it a:Addr}{k:Nat}(x:SIt h b it a k)(f:∀ o,h.get? it=some o→h'.get? it=some o):SIt h' b it a k:=by
 cases b<;>(obtain⟨o,ho,r⟩:=x;exact⟨o,f o ho,r⟩)
theorem SOb.at {h h':Heap}{b:Bool}{a:Addr}{xs:Array Value}(x:SOb h b a xs)(f:∀ o,h.get? a=some o→h'.get? a=some o):SOb h' b a xs:=by
 cases b<;>(obtain⟨o,ho,r⟩:=x;exact⟨o,f o ho,r⟩)
theorem SIt.lt {h:Heap}{b:Bool}{it a:Addr}{k:Nat}(x:SIt h b it a k):∃ o,h.get? it=some o∧∀ v,o.data≠.cell v:=by
 cases b<;>(obtain⟨o,ho,_,hd⟩:=x;exact⟨o,ho,fun v z=>by rw[hd]at z;cases z⟩)
theorem rN {b:Bool}{it a:Addr}{i:Nat}{items:Array Value}{x:Value}{Q:Value→Shared→Prop}(hit:SIt s.heap b it a i)(hl:SOb s.heap b a items)(hx:items[i]?=some x)
  (hQ:∀ h',SIt h' b it a (i+1)→Heap.SameBut it s.heap h'→Q x { s with heap:=h' }):wpAny (model prog w) A (Builtin.SmallTypes.nextOf (.ref it)) Q E s:=by
 cases b with
 | true=>exact fU hit hl hx hQ
 | false=>exact wpAny_nextOf_list_item hit hl hx hQ
theorem nu {b:Bool}{it a:Addr}{i:Nat}{items:Array Value}{Q:Value→Shared→Prop}(hh:A.handled=none)(hit:SIt s.heap b it a i)(hl:SOb s.heap b a items)(hx:items[i]?=none)
  (hE:∀ h' e,Heap.ExtBut it s.heap h'→(∃ o,h'.get? e=some o∧o.cls=.type "StopIteration")→E (.ref e) { s with heap:=h' }):wpAny (model prog w) A (Builtin.SmallTypes.nextOf (.ref it)) Q E s:=by
 cases b with
 | true=>exact gT hh hit hl hx hE
 | false=>exact wpAny_nextOf_list_end hh hit hl hx hE
end
end FF
end
noncomputable section
namespace FF
open PySem PySem.Spec PyProof.Rows L2
section
variable {X:Cx}{pins:List (Addr×Obj)}{σ:St}{H:Hp}{s:Shared}{h':Heap}
theorem nv {h:Heap}{b:Addr}{o x:Obj}(q:b≠h.objs.size)(e:(h.push x).get? b=some o):h.get? b=some o:=by
 rcases Heap.get?_push_cases e with ⟨z,_⟩ | z
 ·exact absurd z q
 ·exact z
theorem turnedL {t':Nat}{fp:List Addr}(I:Inv X pins σ H s)(hf:∀ b∈fp,FpOk X pins H b)(k:∀ b o,b∉fp→s.heap.get? b=some o→h'.get? b=some o):Inv X pins σ H { s with heap:=h',toks:=t' }:=by
 have nit:∀ b u,H b=some u→b∉fp:=fun b u e z=>by rw[(hf b z).1]at e;cases e
 refine I.step (g':=s.gens) (d':=s.drawn) (ch:=fp) (fun b hb=>?_) (fun b o _ _ hc e _=>k b o hc e) (fun b o _ _ hc e _=>⟨o.slots,k b o hc e⟩) (fun _ _ _ _ n=>n)
  (fun b o hc e=>⟨o,k b o hc e⟩) (fun _ _ e=>e) (fun _ _ _ e=>e) (fun b ps e=>⟨#[],by rw[e];simp⟩) (fun m hm=>?_) (fun b u e=>?_) I.bare
 ·obtain⟨_,f1,f2,f3,f4,f5⟩:=hf b hb
  exact⟨f3,f1,f4,f5⟩
 ·obtain⟨o,es,ep,ho,r⟩:=hm
  exact⟨o,es,ep,k _ o (fun z=>(hf _ z).2.1 rfl) ho,r⟩
 ·refine(I.hok b u e).stay (fun c v hc q=>k c v ?_ q) (fun _ q=>q) fun _ _ q=>q
  rcases hc with z | z
  ·rw[z];exact nit b u e
  ·exact nit c _ z
theorem turnedP {t':Nat}{fp:List Addr}{x y:V}{u v:Value}(I:Inv X pins σ H s)(hf:∀ b∈fp,FpOk X pins H b)(hlt:∀ b∈fp,b≠s.heap.objs.size)(rx:RelV x u)(ry:RelV y v)(hp:IsPair h' s.heap.objs.size u v)
  (k:∀ b o,b∉fp→s.heap.get? b=some o→h'.get? b=some o):Inv X pins σ (upd H s.heap.objs.size (.tup [x,y])) { s with heap:=h',toks:=t' }:=by
 have I1:Inv X pins σ (upd H s.heap.objs.size (.tup [x,y])) { s with heap:=s.heap.push { cls:=.type "tuple",data:=.seq #[u,v] },toks:=s.toks }:=by
  refine I.laid (t':=s.toks) (fun b u e=>Heap.get?_push_of_some _ e) (Nat.le_refl _) ?_
  exact⟨by show 2≤sizeLine;decide,[u,v],.cons rx (.cons ry .nil),TupO.new _ _⟩
 refine turnedL (s:={ s with heap:=s.heap.push { cls:=.type "tuple",data:=.seq #[u,v] },toks:=s.toks }) (fp:=fp) (t':=t') I1 (fun b hb=>?_) fun b o hb e=>?_
 ·obtain⟨f0,f1⟩:=hf b hb
  exact⟨by rw[ap (hlt b hb)];exact f0,f1⟩
 ·by_cases q:b=s.heap.objs.size
  ·subst q
   have e':some _=some o:=(Heap.get?_push_size s.heap (o:={ cls:=.type "tuple",data:=.seq #[u,v] }) rfl).symm.trans e
   cases e'
   exact hp
  ·have e':s.heap.get? b=some o:=by
    exact nv q e
   exact k b o hb e'
end
def SqB (K:PySem.W.Frag)(H:Hp)(b:Bool)(a:Addr)(xs:List V):Prop:=if b=true then SqT K H a xs else SqL K H a xs
theorem o5 {X:Cx}{pins:List (Addr×Obj)}{σ:St}{H:Hp}{s:Shared}{b:Bool}{a:Addr}{xs:List V}(I:Inv X pins σ H s)(h:SqB X.K H b a xs):∃ its:List Value,Vals xs its∧SOb s.heap b a its.toArray∧xs.length≤sizeLine:=by
 cases b with
 | true =>
  obtain⟨its,rv,p,hz⟩:=I.tuple h
  exact⟨its,rv,p,hz⟩
 | false =>
  obtain⟨its,rv,p,hz⟩:=I.list h
  exact⟨its,rv,p.isList,hz⟩
theorem yJ {X:Cx}{pins:List (Addr×Obj)}{σ:St}{H:Hp}{s:Shared}{b:Bool}{a:Addr}{xs ys:List V}(I:Inv X pins σ H s)(h:SqB X.K H b a xs)(h':SqB X.K H b a ys):xs=ys:=by
 cases b with
 | true=>exact I.tuple_inj h h'
 | false=>exact I.list_inj h h'
theorem SqB.mono {K:PySem.W.Frag}{Z H:Hp}{b:Bool}{a:Addr}{xs:List V}(h:SqB K Z b a xs)(z:Same Z H):SqB K H b a xs:=by
 cases b with
 | true=>exact(show SqT K Z a xs from h).mono z
 | false=>exact z.seq h
theorem uy {K:PySem.W.Frag}{C:Nat→Addr}{Z:Hp}{d:D}{ds:List D}{v:V}(e:asSeq d=.ok ds)(r:Rep K C Z d v):∃ b a vs,v=.ref a∧SqB K Z b a vs∧Reps K C Z ds vs:=by
 cases d with
 | tup xs =>
  cases e
  rw[Rep]at r
  obtain⟨a,vs,rfl,h1,h2⟩:=r
  exact⟨true,a,vs,rfl,h1,h2⟩
 | lst xs =>
  cases e
  rw[Rep]at r
  obtain⟨a,vs,rfl,h1,h2⟩:=r
  exact⟨false,a,vs,rfl,h1,h2⟩
 | _=>cases e
section
variable {X:Cx}{F:Fx}{a b:Expr}{ga gb:SS→R D}{k:Nat}
end
end FF
end
noncomputable section
namespace FF
open PySem PySem.Spec PyProof.Rows L2
section
variable {prog:Program}{w:World}{A:Around}{R:Result→Shared→Prop}{I S:Addr}{res:Value}{n:Nat}
end
theorem rP:bootBuiltins "list"=some (.type "list"):=by decide +kernel
section
variable {X:Cx}{pins:List (Addr×Obj)}{σ:St}{H1:Hp}{S z TI TO i1 i2 a1 a2:Addr}{b1 b2:Bool}{xs ys:List V}
end
theorem qj {K:PySem.W.Frag}{C:Nat→Addr}{Z:Hp}:∀ {ds:List D} {vs:List V},ds.length=vs.length→(∀ (j:Nat) (d:D) (v:V),ds[j]?=some d→vs[j]?=some v→Rep K C Z d v)→Reps K C Z ds vs
 | [],[],_,_=>Reps.nil
 | d::ds,v::vs,hl,h=>Reps.cons (h 0 d v rfl rfl) (qj (by simpa using hl) fun j d' v' e1 e2=>h (j+1) d' v' (by simpa using e1) (by simpa using e2))
 | [],_::_,hl,_=>by simp at hl
 | _::_,[],hl,_=>by simp at hl
section
variable {X:Cx}{F:Fx}{a b:Expr}{ga gb:SS→R D}{k:Nat}
end
end FF
end
noncomputable section
namespace FF
open PySem PySem.Spec PyProof.Rows L2
def TabE (C:Nat→Addr):List DictEntry→List (Str×Nat)→Prop
 | [],[]=>True
 | e::es,p::l=>(∃ t,e.key=.str p.1 t)∧e.val=.ref (C p.2)∧TabE C es l
 | _,_=>False
def TabK (K:PySem.W.Frag)(C:Nat→Addr)(P:Params)(a:Addr)(l:List (Str×Nat)):Prop :=
 ∃ es n,K.lookup a=some ⟨.type "dict",none,.dict es n,#[]⟩∧PySem.W.KeysLit P es.toList∧TabE C es.toList l∧(l.map (·.1)).Nodup∧l.length≤1000∧(a==sysModules)=false
theorem ny {C:Nat→Addr}{z:Str}{k:Nat}:∀ {es:List DictEntry} {l:List (Str×Nat)},TabE C es l→l.lookup z=some k→(es.find? fun e=>Value.isStrOf z e.key).map (·.val)=some (.ref (C k))
 | [],[],_,h=>by simp at h
 | e::es,p::l,⟨⟨t,e1⟩,e2,r⟩,h=>by
  rw[List.find?_cons,e1]
  by_cases q:z=p.1
  ·have h1:Value.isStrOf z (.str p.1 t)=true:=by rw[q];simp[Value.isStrOf]
   rw[h1]
   rw[List.lookup_cons]at h
   have h2:(z==p.1)=true:=by rw[q];simp
   rw[h2]at h
   cases h
   simp[e2]
  ·have h1:Value.isStrOf z (.str p.1 t)=false:=by
    simp only[Value.isStrOf]
    simpa using fun e=>q e.symm
   rw[h1]
   rw[List.lookup_cons]at h
   have h2:(z==p.1)=false:=by simpa using q
   rw[h2]at h
   exact ny r h
 | [],_::_,h,_=>h.elim
 | _::_,[],h,_=>h.elim
section
variable {X:Cx}{F:Fx}{e:Expr}{g:SS→R D}{k:Nat}{l:List (Str×Nat)}{x:Str}{p pos:Pos}
theorem yK {te:TE}{a:Addr}(hg:Gl X x)(hm:X.mg x=some (.ref a))(C:Nat→Addr)(hT:TabK X.K C X.w.params a l)(he:PE X e te)(hs:PlainIxT e)(hd:(x==("__debug__":Str))=false) :
  PE X (.Subscript (.Name x p) e pos) (tOp (fun u y H Q=>∃ z k,u=.ref a∧y=.str z∧l.lookup z=some k∧Q (.ref (C k)) H) (tC (.ref a)) te):=by
 obtain⟨es,n,h1,h2,h3,_⟩:=hT
 intro pins s σ H Q I h
 refine Subscript_ (binT (aX (v:=.ref a) (pos:=p) hg hm rfl hd) he I h fun v u s2 x' y H2 I2 rx ry q=>?_)
 obtain⟨z,k,rfl,rfl,hl,q⟩:=q
 cases rx
 obtain⟨t,rfl⟩:=ry
 have hM:=PySem.W.mapOf_K (prog:=X.prog) I2.kIn h1 h2
 have hfind:findBy Value.isStrOf es z=some (.ref (C k)):=by
  unfold findBy
  rw[← ny h3 hl,← Array.find?_toList]
 exact tail_any hM.typeIs slot_dict_getitem.lookup (wpAny_getItem_of (strKind_is X.prog X.w z t) hM hfind ⟨.ref (C k),H2,I2.tok _,rfl,q⟩) (hs _ _)
theorem yL (bx:BX X F k)(hT:∃ a,X.mg x=some (.ref a)∧TabK X.K F.C X.w.params a l)(hg:Gl X x)(he:FE X F e g)(hs:PlainIxT e:=by intro _ _;rfl)(hd:(x==("__debug__":Str))=false:=by decide):FE X F (.Subscript (.Name x p) e pos) (fun S=>(g S).bind fun y=>dTab l y):=by
 obtain⟨a,hm,hT⟩:=hT
 refine(yK hg hm F.C hT he hs hd).weak fun σ H Q ⟨Z,S,ok,w⟩=>?_
 show tE F g σ H _
 refine aD ok w fun d v H1 Z1 ok1 x1 rv w1=>?_
 cases d with
 | str z =>
  have w2:WG F H1 Z1 (match l.lookup z with | some k=>R.ok (D.fn k) | none=>R.stuck) _:=w1
  cases hl:l.lookup z with
  | none=>rw[hl]at w2;exact w2.elim
  | some kk =>
   rw[hl]at w2
   rw[Rep]at rv
   exact⟨z,kk,rfl,rv,hl,WG.now w2 ok1.sub _ (by rw[Rep])⟩
 | _=>exact w1.elim
end
theorem k9 {prog:Program}{w:World}{C:Nat→Addr}:∀ {es:List DictEntry} {l:List (Str×Nat)},TabE C es l→PySem.Pairs (PySem.strKind prog w) es (l.map fun p=>(p.1,Value.ref (C p.2)))
 | [],[],_=>.nil
 | e::es,p::l,⟨⟨t,e1⟩,e2,r⟩=>.cons (by rw[e1];exact strKind_is prog w p.1 t) e2 (k9 r)
 | [],_::_,h=>h.elim
 | _::_,[],h=>h.elim
section
variable {prog:Program}{w:World}{A:Around}{E:Value→Shared→Prop}{s:Shared}
theorem uz {R:Result→Shared→Prop}{d:Addr}{kvs:List (Str×Value)}{ep:Nat}(hh:A.handled=none)(hd:(d==sysModules)=false)(hm:s.heap.DictAt (PySem.strKind prog w) d kvs ep)(hlen:kvs.length≤1000)(S:Addr)(res:Value)(c₀:Nat)(hS:s.heap.get? S=some { cls:=.type "list",data:=.seq #[] c₀ })
  (hR:∀ h' tk acc' c',(∀ b o,b≠S→s.heap.get? b=some o→h'.get? b=some o)→h'.get? S=some { cls:=.type "list",dict:=none,data:=.seq acc' c',slots:=#[] } →
   ItemsOf (fun i v=>∃ k x,kvs[i]?=some (k,x)∧(PySem.strKind prog w).is k v=true) acc' kvs.length→R (.ok (.ret res)) { s with heap:=h',toks:=tk }) :
  wpAny (model prog w) A.in1 (Builtin.List.listExtendWith (.ref S) (.ref d) res)
   (fun fin s'=>match fin with | .done f=>R (.ok f) s' | .again c'=>c'.quiet=true∧codeAny (model prog w) A c' R s') (fun e s'=>R (.error e) s') s:=by
 have hT:s.TypeIs (.ref d) "dict" := hm.dictOf.typeIs
 have hSd:S≠d:=fun e=>by
  obtain⟨o,ho,hc⟩:=hT
  subst e
  rw[hS]at ho
  cases ho
  have hc':Value.type "list"=Value.type "dict" := hc
  revert hc';decide
 have hSlt:S < s.heap.objs.size:=Heap.lt_size hS
 have hSI:S≠s.heap.objs.size:=Nat.ne_of_lt hSlt
 have hdI:d≠s.heap.objs.size:=by obtain⟨o,ho,_⟩:=hT;exact Nat.ne_of_lt (Heap.lt_size ho)
 have hSf:S∉[s.heap.objs.size,d]:=fun hm=>by
  simp only[List.mem_cons,List.not_mem_nil,or_false]at hm
  rcases hm with h | h
  ·exact hSI h
  ·exact hSd h
 have W:=(Walks.dictKeys (prog:=prog) (w:=w) (A:=A.in1) (knd:=PySem.strKind prog w) hh s.heap.objs.size d hdI kvs ep).toS
 have key:∀ (h:Heap) (c₁ tk:Nat),h.IsKeyIter s.heap.objs.size d 0 kvs.length ep→h.DictAt (PySem.strKind prog w) d kvs ep→(∀ b o,b≠S→s.heap.get? b=some o→h.get? b=some o) →
   h.get? S=some { cls:=.type "list",data:=.seq #[] c₁ }→codeAny (model prog w) A (.builtin "list.extend.loop" ⟨[.ref S,.ref s.heap.objs.size,res],[]⟩) R { s with heap:=h,toks:=tk }:=by
  intro h c₁ tk hit hD hk hS₁
  refine codeAny_extend_loopS W (by rw[sizeLine_eq];omega) S hSf res kvs.length 0 _ #[] c₁ rfl (Nat.zero_le _) ⟨hit,hD⟩ hS₁ (ItemsOf.nil _) fun s' acc' c' hm hS' hacc=>?_
  rw[Moved.eq_with hm]
  refine hR s'.heap s'.toks acc' c' (fun b o hb e=>hm.heap b o (fun hmem=>?_) (hk b o hb e)) hS' hacc
  rcases List.mem_cons.mp hmem with e' | hmem
  ·exact hb e'
  ·exact absurd (Heap.lt_size e) (by rw[List.mem_singleton.mp hmem];exact Nat.lt_irrefl _)
 unfold Builtin.List.listExtendWith
 refine wpAny_bind (wpAny_typeOf (T := "dict") hT ?_)
 have h1:Builtin.List.listSameRef (.ref S) (.ref d)=false:=by simp[Builtin.List.listSameRef,hSd]
 have h2:(Value.type "dict" == Value.type "list")=false:=by decide
 have h3:(Value.type "dict" == Value.type "tuple")=false:=by decide
 simp only[h1,h2,h3,Bool.or_false,Bool.false_eq_true,if_false]
 refine wpAny_bind (wpAny_pyIter_dict hd hm ?_)
 have hT₁:Shared.TypeIs { s with heap:=s.heap.push { cls:=.type "dict_keyiterator",data:=.fields #[.ref d,.int 0 0,.int kvs.length 0,.int ep 0] } } (.ref d) "dict" := by obtain⟨o,ho,hc⟩:=hT;exact⟨o,Heap.get?_push_of_some _ ho,hc⟩
 refine wpAny_bind (wpAny_holding ?_)
 unfold Builtin.List.listLengthHint
 refine wpAny_bind (wpAny_specialOf hT₁ F.slot_dict_len.lookup ?_)
 generalize hid:("dict.__len__":String)=id0
 wp_delta
 rw[show splitId id0=some ("dict","__len__") from by subst hid;decide +kernel]
 subst hid
 refine wpAny_bind (wpAny_isInstance (T := "dict") (b:=true) hT₁ (by rw[isSubtype_type];kernel_rfl) ?_)
 refine wpAny_ite_split (fun hab=>absurd hab (by decide)) (fun _=>?_)
 refine wpAny_ite_split (fun _=>?_) (fun hab=>absurd (by decide +kernel) hab)
 refine wpAny_bind (wpAny_typeOf (T := "dict") hT₁ ?_)
 refine wpAny_pure ?_
 have hit₁:(s.heap.push { cls:=.type "dict_keyiterator",data:=.fields #[.ref d,.int 0 0,.int kvs.length 0,.int ep 0] }).IsKeyIter s.heap.objs.size d 0 kvs.length ep:=⟨_,Heap.get?_push_size _ rfl,rfl,rfl⟩
 have hD₁:(s.heap.push { cls:=.type "dict_keyiterator",data:=.fields #[.ref d,.int 0 0,.int kvs.length 0,.int ep 0] }).DictAt (PySem.strKind prog w) d kvs ep:=hm.at' fun o e=>Heap.get?_push_of_some _ e
 have hS₁:=Heap.get?_push_of_some { cls:=.type "dict_keyiterator",data:=.fields #[.ref d,.int 0 0,.int kvs.length 0,.int ep 0] } hS
 refine wpAny_ite_split (fun _=>?_) (fun _=>wpAny_pure ⟨plainId_quiet F.plain_extend_loop _,key _ c₀ _ hit₁ hD₁ (fun b o _ e=>Heap.get?_push_of_some _ e) hS₁⟩)
 refine wpAny_bind (wpAny_rule ?_)
 refine wpAny_bind ?_
 show wpAny _ _ (updateSeq S (·.push .none) >>= fun _=>updateSeq S (·.pop)) _ _ _
 refine wpAny_bind (wpAny_updateSeq hS₁ rfl ?_)
 have hS₂:=Heap.get?_update_self (Obj.mapSeq (·.push Value.none)) hS₁ rfl
 refine wpAny_updateSeq (hz:=by seq_fits) hS₂ rfl ?_
 have hS₃:=Heap.get?_update_self (Obj.mapSeq (·.pop)) hS₂ rfl
 refine wpAny_pure ⟨plainId_quiet F.plain_extend_loop _,key _ _ _ (hit₁.at fun o e=>?_) (hD₁.at' fun o e=>?_) (fun b o hb e=>?_) hS₃⟩
 ·exact(Heap.get?_update_other _ _ hSI).trans ((Heap.get?_update_other _ _ hSI).trans e)
 ·exact(Heap.get?_update_other _ _ hSd).trans ((Heap.get?_update_other _ _ hSd).trans e)
 ·exact(Heap.get?_update_other _ _ (Ne.symm hb)).trans ((Heap.get?_update_other _ _ (Ne.symm hb)).trans (Heap.get?_push_of_some _ e))
theorem rQ {R:Result→Shared→Prop}{d:Addr}{kvs:List (Str×Value)}{ep:Nat}(hh:A.handled=none)(hd:(d==sysModules)=false)(hm:s.heap.DictAt (PySem.strKind prog w) d kvs ep)(hlen:kvs.length≤1000)(S:Addr)(hS:s.heap.get? S=some { cls:=.type "list",data:=.seq #[] })
  (hR:∀ h' tk acc' c',(∀ b o,b≠S→s.heap.get? b=some o→h'.get? b=some o)→h'.get? S=some { cls:=.type "list",dict:=none,data:=.seq acc' c',slots:=#[] } →
   ItemsOf (fun i v=>∃ k x,kvs[i]?=some (k,x)∧(PySem.strKind prog w).is k v=true) acc' kvs.length→R (.ok (.ret .none)) { s with heap:=h',toks:=tk }) :
  wpAny (model prog w) A.in1 (Builtin.«list.__init__» ⟨[.ref S,.ref d],[]⟩)
   (fun fin s'=>match fin with | .done f=>R (.ok f) s' | .again c'=>c'.quiet=true∧codeAny (model prog w) A c' R s') (fun e s'=>R (.error e) s') s:=by
 have hSd:S≠d:=fun e=>by
  obtain⟨o,ho,hc⟩:=hm.dictOf.typeIs (s:=s)
  subst e
  rw[hS]at ho
  cases ho
  have hc':Value.type "list"=Value.type "dict" := hc
  revert hc';decide
 show wpAny _ _ (do let old ← Builtin.List.listItems (.ref S);Builtin.List.listUpdate (.ref S) (fun _=>#[]);letGo old.toList.reverse;Builtin.List.listExtendWith (.ref S) (.ref d) .none) _ _ s
 refine wpAny_bind ?_
 unfold Builtin.List.listItems
 refine wpAny_bind (wpAny_seqItems hS rfl (wpAny_pure ?_))
 show wpAny _ _ (updateSeq S (fun _=>#[]) >>= fun _=>letGo (#[]:Array Value).toList.reverse >>= fun _=>Builtin.List.listExtendWith (.ref S) (.ref d) .none) _ _ s
 refine wpAny_bind (wpAny_updateSeq hS rfl ?_)
 have hS₂:=Heap.get?_update_self (Obj.mapSeq (fun _=>(#[]:Array Value))) hS rfl
 have oth:∀ b o,b≠S→s.heap.get? b=some o→(s.heap.update S (Obj.mapSeq (fun _=>(#[]:Array Value)))).get? b=some o :=
  fun b o hb e=>(Heap.get?_update_other _ _ (Ne.symm hb)).trans e
 refine wpAny_bind (wpAny_letGo ?_)
 refine uz hh hd (hm.at' fun o e=>oth d o (Ne.symm hSd) e) hlen S .none _ hS₂ fun h' tk acc' c' hk hS' hacc=>?_
 exact hR h' tk acc' c' (fun b o hb e=>hk b o hb (oth b o hb e)) hS' hacc
theorem js {Q:Value→Shared→Prop}{d:Addr}{kvs:List (Str×Value)}{ep:Nat}(hh:A.handled=none)(hd:(d==sysModules)=false)(hm:s.heap.DictAt (PySem.strKind prog w) d kvs ep)(hlen:kvs.length≤1000)
  (hQ:∀ h' tk acc' c',(∀ b o,s.heap.get? b=some o→h'.get? b=some o)→h'.get? s.heap.objs.size=some { cls:=.type "list",dict:=none,data:=.seq acc' c',slots:=#[] } →
   ItemsOf (fun i v=>∃ k x,kvs[i]?=some (k,x)∧(PySem.strKind prog w).is k v=true) acc' kvs.length→Q (.ref s.heap.objs.size) { s with heap:=h',toks:=tk }) :
  wpAny (model prog w) A (call (.type "list") [.ref d]) Q E s:=by
 refine callType_codes (Q₁:=fun obj s₁=>obj=.ref s.heap.objs.size∧s₁={ s with heap:=s.heap.push { cls:=.type "list",data:=.seq #[] } }) F.called_list (F.typeCall_list_1 _) F.entry_list_init
  (code_list_new _ ⟨rfl,rfl⟩) fun obj s₁ h₁=>?_
 obtain⟨rfl,rfl⟩:=h₁
 have hS:(s.heap.push { cls:=.type "list",data:=.seq #[] }).get? s.heap.objs.size=some { cls:=.type "list",data:=.seq #[] }:=Heap.get?_push_size _ rfl
 refine⟨⟨_,hS,rfl⟩,F.args_list_init_2 _ _,rQ (A:=A.in1) hh hd (hm.at' fun o e=>Heap.get?_push_of_some _ e) hlen _ hS fun h' tk acc' c' hk hS' hacc=>?_⟩
 exact⟨rfl,hQ h' tk acc' c' (fun b o e=>hk b o (Nat.ne_of_lt (Heap.lt_size e)) (Heap.get?_push_of_some _ e)) hS' hacc⟩
end
section
variable {X:Cx}{F:Fx}{k:Nat}{l:List (Str×Nat)}{x:Str}{p p2 pos:Pos}
theorem o6 {a:Addr}(hc:X.calm=true)(hg:Gl X "list")(hm:X.mg "list"=none)(hgx:Gl X x)(hmx:X.mg x=some (.ref a))(C:Nat→Addr)(hT:TabK X.K C X.w.params a l)(hd:(x==("__debug__":Str))=false)
  (hs:starEach [.Name x p2] X.env=[(false,eval (.Name x p2) X.env)]) :
  PE X (.Call (.Name "list" p) [.Name x p2] [] pos) (fun σ H Q=>∀ q,H q=none→Q (.ref q) (upd H q (.lst (l.map fun p=>.str p.1)))):=by
 obtain⟨es,n,h1,h2,h3,h4,h5,h6⟩:=hT
 intro pins s σ H Q I h
 refine Call_ (fh I hg hm rP (PyProof.Rows.callWith_type1 ?_ (by rw[hs];rfl) (by rfl)))
 rw[hs]
 refine Calls.spliced_cons (thn (aX (v:=.ref a) (pos:=p2) hgx hmx rfl hd pins s σ H (fun v H'=>v=.ref a∧H'=H) I ⟨rfl,rfl⟩) fun v s1 ⟨y,H1,I1,r1,q1⟩=>Calls.spliced_nil ?_)
 obtain⟨rfl,rfl⟩:=q1
 cases r1
 have hD:s1.heap.DictAt (PySem.strKind X.prog X.w) a (l.map fun p=>(p.1,Value.ref (C p.2))) n:=by
  obtain⟨o,es',n',ho,hx,hdat,hk,_⟩:=PySem.W.mapOf_K (prog:=X.prog) (w:=X.w) I1.kIn h1 h2
  have e1:=(I1.kIn a _ h1).symm.trans ho
  cases e1
  cases hdat
  exact⟨_,es,ho,hx,rfl,hk,k9 h3,by rw[List.map_map];exact h4⟩
 refine js (I1.ok.hd hc) h6 hD (by simpa using h5) fun h' tk acc' c' hk hS hacc=>?_
 have hv:Vals (l.map fun p=>V.str p.1) acc'.toList:=by
  have:∀ (l:List (Str×Nat)) (vs:List Value),vs.length=l.length→(∀ (j:Nat) (p:Str×Nat) (v:Value),l[j]?=some p→vs[j]?=some v→∃ t,v=.str p.1 t)→Vals (l.map fun p=>V.str p.1) vs:=by
   intro l
   induction l with
   | nil=>intro vs hl _;cases vs with
    | nil=>exact .nil
    | cons _ _=>simp at hl
   | cons p l ih =>
    intro vs hl h
    cases vs with
    | nil=>simp at hl
    | cons v vs=>exact .cons (h 0 p v rfl rfl) (ih vs (by simpa using hl) fun j q u e1 e2=>h (j+1) q u (by simpa using e1) (by simpa using e2))
  refine this l acc'.toList (by have:=hacc.1;simpa using this) fun j p v e1 e2=>?_
  obtain⟨k,y,f1,f2⟩:=hacc.2 j v (by simpa using e2)
  have f1':(l[j]?).map (fun p=>(p.1,Value.ref (C p.2)))=some (k,y):=by simpa using f1
  rw[e1]at f1'
  cases f1'
  obtain⟨t,rfl⟩:=Value.isStrOf_shape f2
  exact⟨t,rfl⟩
 refine⟨.ref s1.heap.objs.size,upd H1 s1.heap.objs.size (.lst (l.map fun p=>.str p.1)),I1.laid (t':=tk) hk (Nat.le_refl _) ⟨by rw[sizeLine_eq,List.length_map];omega,acc'.toList,c',hv,by simpa using hS⟩,rfl,h _ (I1.hok.fresh (Nat.le_refl _))⟩
theorem o7 (bx:BX X F k)(hg:Gl X "list")(hm:X.mg "list"=none)(hT:∃ a,X.mg x=some (.ref a)∧TabK X.K F.C X.w.params a l)(hgx:Gl X x)(hd:(x==("__debug__":Str))=false:=by decide)
  (hs:starEach [.Name x p2] X.env=[(false,eval (.Name x p2) X.env)]:=by rfl):FE X F (.Call (.Name "list" p) [.Name x p2] [] pos) (fun _=>R.ok (tabK l)):=by
 obtain⟨a,hmx,hT⟩:=hT
 refine(o6 bx.calm hg hm hgx hmx F.C hT hd hs).weak fun σ H Q ⟨Z,S,ok,w⟩=>fun q hq=>?_
 have z:Same Z (upd Z q (.lst (l.map fun p=>V.str p.1))):=aC (ok.sub.free hq)
 refine w _ _ (Ex.alloc ok.sub hq) _ ?_
 unfold tabK
 rw[Rep]
 refine⟨q,_,rfl,SqL.of ar,?_⟩
 have:∀ l:List (Str×Nat),Reps F.K F.C (upd Z q (.lst ((l.map fun p=>V.str p.1)))) (l.map fun p=>D.str p.1) (l.map fun p=>V.str p.1)→True:=fun _ _=>trivial
 refine qj (by simp) fun j d v e1 e2=>?_
 simp only[List.getElem?_map]at e1 e2
 cases hl:l[j]? with
 | none=>rw[hl]at e1;cases e1
 | some pr =>
  rw[hl]at e1 e2
  cases e1
  cases e2
  rw[Rep]
end
end FF
end
noncomputable section
namespace FF
open PySem PySem.Spec PyProof.Rows L2
open AutoSeq1 (wpAny_loadPart')
theorem uA {prog:Program}{w:World}{A:Around}(hh:A.handled=none)(b:Bool)(it a:Addr)(hne:a≠it)(items:Array Value) :
  Draws prog w A it [it,a] items.size (fun i v=>items[i]?=some v) (fun i h=>SIt h b it a i∧SOb h b a items) where
 live:=fun _ _ st=>let ⟨o,ho,_⟩:=st.1.lt;⟨o,ho⟩
 frame:=fun _ _ _ st hk=>⟨st.1.at fun o e=>hk it (by simp) o e,st.2.at fun o e=>hk a (by simp) o e⟩
 item:=fun i s Q E hi st hQ=>by
  refine rN st.1 st.2 (x:=items[i]) (by simp[hi]) fun h' hit' hs'=>?_
  exact hQ _ h' s.toks (by simp[hi]) ⟨hit',st.2.at fun o e=>hs'.extBut _ _ hne e⟩ hs'
 done:=fun s Q E st hE=>nu hh st.1 st.2 (by simp) hE
theorem jt (l:Addr)(items:Array Value)(n:Nat)(dct:Option Addr)(sl:Array (Option Value)) :
  Meets (Builtin.«enumerate.__new__» ⟨[.type "enumerate",.ref l],[]⟩) (fun _ R s=>s.heap.get? l=some { cls:=.type "tuple",dict:=dct,data:=.seq items n,slots:=sl } ∧
   R (.ok (.ret (.ref (s.heap.push { cls:=.type "tuple_iterator",data:=.fields #[.ref l,.int 0 0] }).objs.size)))
    { s with heap:=(s.heap.push { cls:=.type "tuple_iterator",data:=.fields #[.ref l,.int 0 0] }).push { cls:=.type "enumerate",data:=.fields #[.none,.bool false,.ref s.heap.objs.size,rawInt 0,.none,.none] } }) :=
 .of_wp fun prog w A R s h=>by
  obtain⟨hp,g,d,tk,os⟩:=s;obtain⟨hl,h⟩:=h
  have hsub:=sub_enumerate
  have hL:Heap.IsTuple (Shared.heap ⟨hp,g,d,tk,os⟩) l items:=⟨_,hl,rfl,n,rfl⟩
  wp_walk using wpAny_loadPart' hl
  refine wpAny_stack_any fun st=>wpAny_pure ?_
  split
  ·rename_i c _ _ _ _ _
   cases (c==Value.type "enumerate")
   ·wp_walk using wpAny_loadPart' hl,wpAny_pyIter_tuple hL
    exact⟨_,rfl,h⟩
   ·wp_walk using wpAny_loadPart' hl,wpAny_pyIter_tuple hL
    exact⟨_,rfl,h⟩
  ·wp_walk using wpAny_loadPart' hl,wpAny_pyIter_tuple hL
   exact⟨_,rfl,h⟩
section
variable {prog:Program}{w:World}{A:Around}{E:Value→Shared→Prop}{s:Shared}
theorem kx {l:Addr}{items:Array Value}{Q:Value→Shared→Prop}(hL:s.heap.IsTuple l items)
  (h:∀ h',IsEnum h' (s.heap.objs.size+1) s.heap.objs.size 0 .none→h'.IsTupleIter s.heap.objs.size l 0→h'.objs.size=s.heap.objs.size+2 →
   (∀ b o,s.heap.get? b=some o→h'.get? b=some o)→Q (.ref (s.heap.objs.size+1)) { s with heap:=h' }) :
  wpAny (model prog w) A (call (.type "enumerate") [.ref l]) Q E s:=by
 obtain⟨⟨c,dct,dt,sl⟩,hl,hc,n,hd⟩:=hL
 replace hc:c=.type "tuple" := hc
 replace hd:dt=.seq items n:=hd
 subst hc hd
 refine callType_new F.called_enumerate (by decide) (F.typeCall_enumerate_1 _) (F.newCall_enumerate_1 _) (fun obj=>F.args_object_init_2 obj _) F.entry_enumerate_new
  (jt l items n dct sl) ⟨hl,?_⟩
 have hz:(s.heap.push { cls:=.type "tuple_iterator",data:=.fields #[.ref l,.int 0 0] }).objs.size=s.heap.objs.size+1:=Heap.size_push ..
 show _∧_
 rw[hz]
 have he:IsEnum ((s.heap.push { cls:=.type "tuple_iterator",data:=.fields #[.ref l,.int 0 0] }).push
   { cls:=.type "enumerate",data:=.fields #[.none,.bool false,.ref s.heap.objs.size,rawInt 0,.none,.none] }) (s.heap.objs.size+1) s.heap.objs.size 0 .none:=by
  have:=Heap.get?_push_size (s.heap.push { cls:=.type "tuple_iterator",data:=.fields #[.ref l,.int 0 0] })
   (o:={ cls:=.type "enumerate",data:=.fields #[.none,.bool false,.ref s.heap.objs.size,rawInt 0,.none,.none] }) rfl
  rw[hz]at this;exact this
 refine⟨⟨_,he,rfl⟩,h _ he ⟨_,Heap.get?_push_of_some _ (Heap.get?_push_size _ rfl),rfl,rfl⟩ (by rw[Heap.size_push,hz]) fun b o x=>Heap.get?_push_of_some _ (Heap.get?_push_of_some _ x)⟩
theorem rR {b:Bool}{l:Addr}{items:Array Value}{Q:Value→Shared→Prop}(hL:SOb s.heap b l items)
  (h:∀ h',IsEnum h' (s.heap.objs.size+1) s.heap.objs.size 0 .none→SIt h' b s.heap.objs.size l 0→(∀ b o,s.heap.get? b=some o→h'.get? b=some o)→Q (.ref (s.heap.objs.size+1)) { s with heap:=h' }) :
  wpAny (model prog w) A (call (.type "enumerate") [.ref l]) Q E s:=by
 cases b with
 | true=>exact kx hL fun h' a1 a2 _ a3=>h h' a1 a2 a3
 | false=>exact call_enumerate_list hL fun h' a1 a2 _ a3=>h h' a1 a2 a3
theorem la {e it:Addr}{i:Int}{old:Value}{Q:Value→Shared→Prop}(he:IsEnum s.heap e it i old)(h:Q (.ref e) s):wpAny (model prog w) A (pyIter (.ref e)) Q E s:=by
 have hT:s.TypeIs (.ref e) "enumerate" := ⟨_,he,rfl⟩
 refine wpAny_pyIter_slot hT F.slot_enumerate_iter (wpAny_call_entry F.slot_enumerate_iter hT F.entry_enumerate_iter ?_ (F.args_enumerate_iter_1 _))
 show wpAny _ _ (ret (.ref e)) _ _ s
 exact wpAny_pure ⟨_,rfl,"enumerate",_,hT,F.slot_enumerate_next.lookup,h⟩
end
section
variable {prog:Program}{w:World}{A:Around}{E:Value→Shared→Prop}{s:Shared}
theorem uB {e it a:Addr}{b:Bool}{i:Int}{k:Nat}{old:Value}{items:Array Value}{Q:Option Value→Shared→Prop}(hh:A.handled=none)(he:IsEnum s.heap e it i old)(hit:SIt s.heap b it a k)(hl:SOb s.heap b a items)(hx:items[k]?=none)
  (hQ:∀ h',Heap.ExtBut it s.heap h'→Q none { s with heap:=h' }):wpAny (model prog w) A (pyNext (.ref e)) Q E s:=by
 have hT:s.TypeIs (.ref e) "enumerate" := ⟨_,he,rfl⟩
 unfold pyNext
 refine wpAny_bind (wpAny_attempt (wpAny_callSpecial?_slot (name:=Str.ofString "__next__") hT F.slot_enumerate_next
  (wpAny_call_entry F.slot_enumerate_next hT F.entry_enumerate_next ?_ (F.args_enumerate_next_1 _))))
 show wpAny _ _ (field (.ref e) 2 >>= _) _ _ _
 refine wpAny_bind (wpAny_field he rfl (x:=.ref it) rfl ?_)
 refine wpAny_bind (nu (show A.in1.handled=none from hh) hit hl hx fun h' x he' hx'=>?_)
 obtain⟨o,ho,hc⟩:=hx'
 refine wpAny_bind (wpAny_isInstance (T := "StopIteration") (b:=true) ⟨o,ho,hc⟩ isSubtype_stop ?_)
 exact wpAny_pure (hQ _ he')
end
def Ite (K:PySem.W.Frag)(b:Bool)(a:Addr):It :=
 ⟨fun i H=>∃ xs x,SqB K H b a xs∧xs[i]?=some x,
  fun i H v H'=>∃ p x,H p=none∧v=.ref p∧(∀ xs,SqB K H b a xs→xs[i]?=some x)∧H'=upd H p (.tup [.int (i:Int),x]),
  fun i H=>∃ xs,SqB K H b a xs∧xs.length≤i⟩
theorem rS {P:Program}{w:World}{K:PySem.W.Frag}{elts:List Expr}{x1:Nat}{pos:Pos}{e it a:Addr}(b:Bool)(hei:e≠it)(hai:a≠it)(hea:e≠a) :
  Turn P w K (.Tuple elts x1 pos) (Ite K b a) [e,it] e (fun i h=>(∃ old,IsEnum h e it i old)∧SIt h b it a i) where
 mem:=by simp
 obj:=fun i h st c hb=>by
  obtain⟨⟨old,e1⟩,e2⟩:=st
  simp only[List.mem_cons,List.not_mem_nil,or_false]at hb
  rcases hb with rfl | rfl
  ·exact⟨_,e1,fun v z=>by have z':Data.fields _=Data.cell v:=z;cases z'⟩
  ·exact e2.lt
 keep:=fun i h h' st k=>by
  obtain⟨⟨old,e1⟩,e2⟩:=st
  exact⟨⟨old,k e (by simp) _ e1⟩,e2.at fun o q=>k it (by simp) o q⟩
 item:=by
  intro X hP hw hK hc i pins s σ H E I hf st hg
  subst hP hw hK
  obtain⟨xs,x,q1,hx⟩:=hg
  obtain⟨⟨old,e1⟩,e2⟩:=st
  obtain⟨is1,rv1,o1,_⟩:=o5 I q1
  obtain⟨u,hu,ru⟩:=rv1.get hx
  have hl:=rv1.length
  have hil:i < xs.length:=(List.getElem?_eq_some_iff.mp hx).1
  have lt:∀ c∈[e,it],c≠s.heap.objs.size:=fun c hb=>by
   simp only[List.mem_cons,List.not_mem_nil,or_false]at hb
   rcases hb with rfl | rfl
   ·exact Nat.ne_of_lt (Heap.lt_size e1)
   ·obtain⟨o,ho,_⟩:=e2.lt;exact Nat.ne_of_lt (Heap.lt_size ho)
  have D:=uA (prog:=X.prog) (w:=X.w) (A:=X.A.in1) (show X.A.in1.handled=none from I.ok.hd hc) b it a hai is1.toArray
  refine wpAny_pyNext_enum_itemD D e1 ⟨e2,o1⟩ (by simp;omega) hei (by simp[hei,hea]) fun v h' tk hP ho hs' hT hsz hk=>?_
  have ev:v=u:=by
   have h1:is1[i]?=some v:=by simpa using hP
   rw[hu]at h1;cases h1;rfl
  subst ev
  refine⟨_,rfl,wpAny_letOwnedTupleGo_enum (s:={ s with heap:=h',toks:=tk+1 }) ho fun h2 he2 sb2=>?_⟩
  have k2:∀ c o,c∉[e,it]→s.heap.get? c=some o→h2.get? c=some o:=fun c o hb q=>by
   simp only[List.mem_cons,List.not_mem_nil,or_false,not_or]at hb
   exact sb2.extBut _ _ hb.1 (hk c o hb.1 hb.2 q)
  have hp2:IsPair h2 s.heap.objs.size (.int i tk) v:=sb2.extBut _ _ (fun q=>lt e (by simp) q.symm) hT
  have I2:Inv X pins σ (upd H s.heap.objs.size (.tup [.int (i:Int),x])) { s with heap:=h2,toks:=tk+1 }:=turnedP I hf lt ⟨tk,rfl⟩ ru hp2 k2
  exact⟨.ref s.heap.objs.size,_,I2,rfl,⟨s.heap.objs.size,x,I.hok.fresh (Nat.le_refl _),rfl,fun xs' q=>by rw[yJ I q q1];exact hx,rfl⟩,⟨⟨_,by simpa using he2⟩,hs'.1.at fun o q=>sb2.extBut _ _ (Ne.symm hei) q⟩,fun c hb=>by rw[ap (lt c hb)];exact(hf c hb).1⟩
 done:=by
  intro X hP hw hK hc i pins s σ H E I hf st hg
  subst hP hw hK
  obtain⟨xs,q1,hx⟩:=hg
  obtain⟨⟨old,e1⟩,e2⟩:=st
  obtain⟨is1,rv1,o1,_⟩:=o5 I q1
  have hl:=rv1.length
  refine uB (I.ok.hd hc) e1 e2 o1 (by simp;omega) fun h' hk=>⟨rfl,turnedL (t':=s.toks) I hf fun c o hb q=>?_⟩
  simp only[List.mem_cons,List.not_mem_nil,or_false,not_or]at hb
  exact hk c o hb.2 q
 self:=fun _ _ _ _ _ st h=>by obtain⟨⟨old,e1⟩,_⟩:=st;exact la e1 h
theorem rT:bootBuiltins "enumerate"=some (.type "enumerate"):=by decide +kernel
theorem ww {X:Cx}{elts:List Expr}{x1:Nat}{ps p pos:Pos}{a:Expr}{ta:TA}(hg:Gl X "enumerate")(hm:X.mg "enumerate"=none)(ha:PA X [a] ta)(hs:starEach [a] X.env=[(false,eval a X.env)]:=by rfl) :
  PI X (.Tuple elts x1 ps) (.Call (.Name "enumerate" p) [a] [] pos) (fun σ H R=>ta σ H fun vs H1=>∃ b a1,vs=[.ref a1]∧(∃ xs,SqB X.K H1 b a1 xs)∧R (Ite X.K b a1) H1):=by
 intro pins s σ H R I h
 refine Call_ (fh I hg hm rT (PyProof.Rows.callWith_type1 (thn (ha pos pins s σ H _ I h) fun us s1 ⟨vs,H1,I1,r1,q1⟩=>?_) hs rfl))
 obtain⟨b,a1,e,⟨xs,hx⟩,q⟩:=q1
 subst e
 cases r1 with
 | cons r rr =>
  cases rr
  cases r
  obtain⟨is1,rv1,o1,_⟩:=o5 I1 hx
  have lt:a1 < s1.heap.objs.size:=by cases b<;>(obtain⟨_,e,_⟩:=o1;exact Heap.lt_size e)
  refine rR o1 fun h' he hi hk=>la (s:={ s1 with heap:=h' }) he ?_
  have I2:Inv X pins σ H1 { s1 with heap:=h',toks:=s1.toks }:=I1.kept hk
  refine⟨_,_,_,_,H1,rfl,I2,rS b (Nat.succ_ne_self _) (Nat.ne_of_lt lt) (Nat.ne_of_gt (Nat.lt_succ_of_lt lt)),⟨⟨_,he⟩,hi⟩,fun c hc=>?_,q⟩
  have hb:s1.heap.objs.size≤c:=by
   simp only[List.mem_cons,List.not_mem_nil,or_false]at hc
   rcases hc with rfl | rfl
   ·exact Nat.le_add_right _ _
   ·exact Nat.le_refl _
  exact I1.fpOk hb (I1.hok.fresh hb)
theorem qk:∀ {xs:List D} {k i:Nat} {x:D},xs[i]?=some x→(enD xs k)[i]?=some (.tup [.int ((k+i:Nat):Int),x])
 | a::xs,k,0,x,h=>by cases h;rfl
 | a::xs,k,i+1,x,h=>by
  have:=qk (xs:=xs) (k:=k+1) (i:=i) (by simpa using h)
  rw[show k+1+i=k+(i+1) by omega]at this
  simpa [enD] using this
 | [],_,_,_,h=>by simp at h
theorem lY:∀ (xs:List D) (k:Nat),(enD xs k).length=xs.length
 | [],_=>rfl
 | a::xs,k=>by show (enD xs (k+1)).length+1=_;rw[lY xs (k+1)];rfl
theorem rV {F:Fx}{b:Bool}{a:Addr}{xs:List D}{vs:List V}{Z:Hp}(h1:SqB F.K Z b a vs)(r1:Reps F.K F.C Z xs vs):WalkG F (Ite F.K b a) (enD xs 0) Z:=fun i H Z2 z1 z2=>by
 have l:=lY xs 0
 have e1:=r1.length
 refine⟨fun hi=>?_,fun hi=>⟨vs,h1.mono (z1.trans z2),by omega⟩⟩
 have hx:vs[i]?=some vs[i]:=List.getElem?_eq_getElem (by omega)
 refine⟨⟨vs,_,h1.mono (z1.trans z2),hx⟩,fun v H' ⟨p,x,hp,e,qx,eH⟩=>?_⟩
 subst e;subst eH
 obtain⟨dx,f1,g1⟩:=r1.get' (qx _ (h1.mono (z1.trans z2)))
 have z3:Same Z (upd Z2 p (.tup [.int (i:Int),x])):=z1.trans (aC (z2.free hp))
 have f2:=qk (k:=0) f1
 rw[Nat.zero_add]at f2
 refine⟨upd Z2 p (.tup [.int (i:Int),x]),.tup [.int (i:Int),dx],Ex.alloc z2 hp,f2,?_⟩
 rw[Rep]
 exact⟨p,[.int (i:Int),x],rfl,SqT.of ar,Reps.cons aE (Reps.cons (g1.mono z3) Reps.nil)⟩
section
variable {X:Cx}{F:Fx}{a:Expr}{ga:SS→R D}{k:Nat}
theorem wx {S:SS}{α:Type}(f:D→R α):((aL [ga]) S).bind (fun ds=>match ds with | [x]=>f x | _=>R.stuck)=(ga S).bind fun x=>f x:=by
 show (((ga S).bind fun d=>(R.ok []:R (List D)).bind fun ds=>R.ok (d::ds))).bind _=_
 cases ga S<;>rfl
theorem lZ {elts:List Expr}{x1:Nat}{ps p pos:Pos}(bx:BX X F k)(hg:Gl X "enumerate")(hm:X.mg "enumerate"=none)(ha:FE X F a ga)(hs:starEach [a] X.env=[(false,eval a X.env)]:=by rfl) :
  FI X F (.Tuple elts x1 ps) (.Call (.Name "enumerate" p) [a] [] pos) (fun S=>(ga S).bind fun x=>dEnum x) :=
 (ww hg hm (FAL.out (aa ha ad (hs:=by rw[hs];rfl))) hs).weak fun σ H Q ⟨Z,S,ok,w⟩=>by
  have w:WG F H Z ((ga S).bind fun x=>dEnum x) _:=w
  rw[← wx]at w
  refine aO ok w fun ds vs H1 Z1 ok1 x1 rs w1=>?_
  obtain⟨dx,rfl⟩:∃ dx,ds=[dx]:=by
   rcases ds with _ | ⟨dx,_ | ⟨dy,r⟩⟩
   ·exact False.elim w1
   ·exact⟨dx,rfl⟩
   ·exact False.elim w1
  focus
   have w2:WG F H1 Z1 (dEnum dx) _:=w1
   unfold dEnum sq at w2
   rw[Reps]at rs
   obtain⟨v1,r,rfl,q1,rs⟩:=rs
   rw[Reps]at rs
   subst rs
   cases e1:asSeq dx with
   | err k=>rw[e1]at w2;cases dx<;>cases e1
   | stuck=>rw[e1]at w2;exact w2.elim
   | ok xs =>
    rw[e1]at w2
    have w3:WG F H1 Z1 (R.bind (if xs.length≤16777216 then R.ok xs else R.stuck) fun xs=>R.ok (enD xs 0)) _:=w2
    split at w3
    ·rename_i hl1
     obtain⟨b1,a1,us1,rfl,s1,t1⟩:=uy e1 q1
     rw[bx.K]
     exact⟨b1,a1,rfl,⟨us1,s1.mono ok1.sub⟩,WG.now w3 ok1.sub _ (rV s1 t1) (by rw[lY];exact hl1)⟩
    ·exact w3.elim
end
end FF
end
noncomputable section
namespace FF
open PySem PySem.Spec PyProof.Rows L2
section
variable {X:Cx}{F:Fx}{a:Expr}{ga:SS→R D}{k:Nat}{p p2 pos pos2:Pos}
end
section
variable {prog:Program}{w:World}{A:Around}{E:Value→Shared→Prop}{s:Shared}
end
section
variable {X:Cx}{F:Fx}
variable {σ:Type}{S:SS}{rest:List Stmt}{J:σ→SS→Prop}{e:Expr}{ge:SS→R D}{r:R D}{n:Nat}
end
end FF
end
noncomputable section
namespace FF
open PySem PySem.Spec PyProof.Rows L2
section
variable {X:Cx}{F:Fx}
end
end FF
end
noncomputable section
namespace FF
open PySem PySem.Spec PyProof.Rows L2
def capB (XN:List Str)(scope:Scope)(N:List Str)(own:Nat):Nat→List Nat→Bool
 | _,[]=>true
 | j,i::r=>(match N[own+j]?,XN[i]? with
  | some x,some y=>x==y&&scope.names.lookup x==some .free
  | _,_=>false)&&capB XN scope N own (j+1) r
def blkB (XN:List Str)(osc scope:Scope)(N:List Str)(own:Nat)(cap:List Nat):Bool :=
 scope.kind==.function&&(scope.names.all fun y=>scope.names.lookup y.1==some y.2)&&(scope.names.all fun y=>!(y.2==.free)||(osc.names.lookup y.1==some .cell||osc.names.lookup y.1==some .free))&&N.length==own+cap.length&&capB XN scope N own 0 cap
theorem ql {XN:List Str}{scope:Scope}{N:List Str}{own:Nat}:∀ {cap:List Nat} {k:Nat},capB XN scope N own k cap=true→∀ j i,cap[j]?=some i→∃ x,N[own+(k+j)]?=some x∧XN[i]?=some x∧scope.names.lookup x=some .free
 | [],_,_,j,i,e=>by simp at e
 | c::r,k,h,j,i,e=>by
  unfold capB at h
  rw[Bool.and_eq_true]at h
  cases j with
  | zero =>
   simp only[List.getElem?_cons_zero,Option.some.injEq]at e
   subst e
   have h1:=h.1
   split at h1
   ·rename_i x y e1 e2
    rw[Bool.and_eq_true]at h1
    have:=eq_of_beq h1.1
    subst this
    exact⟨x,by rw[Nat.add_zero];exact e1,e2,eq_of_beq h1.2⟩
   ·cases h1
  | succ j =>
   obtain⟨x,a,b⟩:=ql h.2 j i (by simpa using e)
   exact⟨x,by rw[← a];congr 1;omega,b⟩
theorem BlkOk.of {XN:List Str}{osc scope:Scope}{N:List Str}{own:Nat}{cap:List Nat}(h:blkB XN osc scope N own cap=true):BlkOk XN osc scope N own cap:=by
 unfold blkB at h
 simp only[Bool.and_eq_true,List.all_eq_true]at h
 obtain⟨⟨⟨⟨h1,h2⟩,h3⟩,h4⟩,h5⟩:=h
 have look:∀ y∈scope.names,scope.names.lookup y.1=some y.2:=fun y hy=>eq_of_beq (h2 y hy)
 refine⟨eq_of_beq h1,fun y hy e=>by rw[look y hy,e],fun y hy e=>by rw[look y hy,e],fun y hy e=>by rw[look y hy,e],fun y hy e=>?_,eq_of_beq h4,fun j i e=>?_⟩
 ·have:=h3 y hy
  rw[e]at this
  simp only[beq_self_eq_true,Bool.not_true,Bool.false_or,Bool.or_eq_true]at this
  rcases this with z | z
  ·exact .inl (eq_of_beq z)
  ·exact .inr (eq_of_beq z)
 ·have:=ql h5 j i e
  rw[Nat.zero_add]at this
  exact this
end FF
end
noncomputable section
namespace FF
open PySem PySem.Spec PyProof.Rows L2
def onS {α:Type}(d:D)(k:List D→R α):R α:=match d with
 | .lst xs=>k xs
 | .tup xs=>k xs
 | _=>.stuck
def eMS (f:List D→List D→R D)(g:SS→R D)(gs:List (SS→R D)):SS→R D:=fun S=>(g S).bind fun d=>onS d fun xs=>bA (gs.map fun g=>g S) (f xs)
section
variable {X:Cx}{F:Fx}{o e:Expr}{g:SS→R D}{gs:List (SS→R D)}{apos cpos:Pos}{k:Nat}
theorem l0 {H Z:Hp}{a:Addr}{vs:List V}{xs:List D}{us:List V}{es:List D}{Q:VK}(s:Same Z H)(h1:SqT F.K H a vs)(h2:Reps F.K F.C Z xs vs)(rs:Reps F.K F.C Z es us)
  (w:WG F H Z (dIndexI xs es) (fun d H' Z'=>∀ v,Rep F.K F.C Z' d v→Q v H')):rIndexT F.K (.ref a) us H Q:=by
 unfold dIndexI at w
 split at w
 ·rename_i k
  split at w
  ·rename_i is eb
   have e3:=a6 h2 eb
   subst e3
   split at w
   ·rename_i hl
    exact⟨a,is,k,rfl,lU rs,h1,hl,WG.now w s _ aE⟩
   ·exact w.elim
  ·exact w.elim
 ·exact w.elim
theorem rW (bx:BX X F k)(ho:FE X F o g)(ha:FAL X F [e] gs)
  (hbase:attributeBase o "index" X.env (eval o X.env)=eval o X.env:=by rfl)
  (hfew:((backTo cpos (starEach [e] X.env)).all (fun x=>!x.1)&&(backToKw cpos (keywordEach [] X.env)).all (fun x=>x.1.isSome)
   && decide ([e].length+([]:List Keyword).length+(if ([]:List Keyword).isEmpty then 0 else 1) < 30))=true:=by rfl)
  (hline:(apos.endLine==cpos.line)=true:=by rfl) (hs:starEach [e] X.env=(false,eval e X.env)::starEach [] X.env:=by rfl) (hplain:(backTo cpos (starEach [] X.env)).any (·.1)=false:=by rfl) :
  FE X F (.Call (.Attribute o "index" apos) [e] [] cpos) (eMS dIndexI g gs):=by
 intro pins s σ H Q I h
 obtain⟨Z,S,ok,w⟩:=h
 refine wpAny_Call_method_late hbase hfew hline rfl ?_
 have w0:WG F H Z ((g S).bind fun d=>onS d fun xs=>bA (gs.map fun g=>g S) (dIndexI xs)) fun d H' Z'=>∀ v,Rep F.K F.C Z' d v→Q v H':=w
 have go:tE F g σ H fun v H1=>∃ Z1,StOk F H1 Z1 S σ∧∃ d,Rep F.K F.C Z1 d v∧WG F H1 Z1 (onS d fun xs=>bA (gs.map fun g=>g S) (dIndexI xs)) fun d H' Z'=>∀ v,Rep F.K F.C Z' d v→Q v H':=aD ok w0 fun d v H1 Z1 ok1 x1 rv w1=>⟨Z1,ok1,d,rv,w1⟩
 refine thn (ho pins s σ H _ I go) fun v s1 ⟨x,H1,I1,r1,Z1,ok1,d,rd,w1⟩=>?_
 have fin:∀ {T id:String} {r:V→List V→Hp→VK→Prop} (_:PlainAttrs T) (_:Slot T "index" id) (_:typeOf (.builtin id)=pure (.type "method_descriptor")) (_:s1.TypeIs v T) (_:∀ a,v=.ref a→∃ ob,s1.heap.get? a=some ob∧ob.dict=none) (_:MtR X id r)
   (_:tAl F (aL gs) σ H1 fun us H2=>r x us H2 Q),MethodOn X.prog X.w X.A "index" cpos v (backTo cpos (starEach [e] X.env)) (EP X pins σ Q) X.xe s1:=fun {T id r} pa slot hty h1 h2 hm q1=>⟨T,id,pa,slot,hty,h1,h2,by
  have hA:=ha.out cpos pins s1 σ H1 _ I1 q1
  rw[hs]at hA ⊢
  refine Calls.callWith_builtin (by show (false||(backTo cpos (starEach [] X.env)).any (·.1))=false;rw[hplain]<;>rfl) (Calls.evalArgs_plain ?_)
  exact thn hA fun us s2 ⟨vs,H2,I2,r2,q2⟩=>hm pins s2 σ H2 x vs v us Q I2 r1 r2 q2⟩
 cases d with
 | lst xs =>
  rw[Rep]at rd
  obtain⟨a,vs,rfl,h1,h2⟩:=rd
  have hq:SqL X.K H1 a vs:=by rw[bx.K];exact ok1.sub.seq h1
  obtain⟨t1,t2⟩:=tU I1 r1 (show tyV X.K "list" (.ref a) H1 from .inl ⟨rfl,vs,hq⟩)
  refine fin PySem.F.plainAttrs_list PySem.F.slot_list_index (by kernel_rfl) t1 t2 (k8 bx.room) ?_
  have w2:WG F H1 Z1 ((aL gs S).bind (dIndexI xs)) (fun d H' Z'=>∀ v,Rep F.K F.C Z' d v→Q v H'):=by rw[bF];exact w1
  refine aO ok1 w2 fun es us H2 Z2 ok2 x2 rs w3=>?_
  rw[bx.K]
  exact fQ H2 Z2 a vs xs us es Q ok2.sub (ok2.sub.seq (x2.z.seq h1)) (h2.mono x2.z) rs w3
 | tup xs =>
  rw[Rep]at rd
  obtain⟨a,vs,rfl,h1,h2⟩:=rd
  have hq:SqT X.K H1 a vs:=by rw[bx.K];exact h1.mono ok1.sub
  have ev:v=.ref a:=by cases r1;rfl
  obtain⟨its,_,p,_⟩:=I1.tuple hq
  refine fin PySem.F.plainAttrs_tuple PySem.F.slot_tuple_index PySem.F.type_tuple_index (by rw[ev];exact p.typeIs) (fun b e=>by rw[ev]at e;cases e;exact I1.tupleO hq) (rH bx.room) ?_
  have w2:WG F H1 Z1 ((aL gs S).bind (dIndexI xs)) (fun d H' Z'=>∀ v,Rep F.K F.C Z' d v→Q v H'):=by rw[bF];exact w1
  refine aO ok1 w2 fun es us H2 Z2 ok2 x2 rs w3=>?_
  rw[bx.K]
  exact l0 ok2.sub ((h1.mono x2.z).mono ok2.sub) (h2.mono x2.z) rs w3
 | _=>exact w1.elim
end
end FF
end
noncomputable section
namespace FF
open PySem PySem.Spec PyProof.Rows L2
def OkD (P:Program)(w:World)(K:PySem.W.Frag)(mg:Str→Option Value)(base:Heap)(C:Nat→Addr)(k:Nat)(x:Str)(st:Stmt)(ps:List Str)(fn:List D→R D):Prop :=
 ∀ {f:Addr} {fd:FuncData},Fun K x x st f fd→FnOk P w K mg base (CXE P w) (k+1) f fd ps (spF K C ps.length fn)
def OkB (P:Program)(w:World)(K:PySem.W.Frag)(mg:Str→Option Value)(base:Heap)(C:Nat→Addr)(k:Nat)(N:List Str)(x:Str)(st:Stmt)(ds:List D)(l:L Unit):Prop :=
 ∀ (f:Addr) (cdv:Value) (A:Around) (outer:List Env) (s:Shared) (H Z:Hp) (E:XK),BX (bodyX P w K mg base N x (defScope st) f cdv A outer s H E) ⟨K,C,H,Z,E⟩ k →
  PassesOwn (model P w) (bodyX P w K mg base N x (defScope st) f cdv A outer s H E).A (bodyX P w K mg base N x (defScope st) f cdv A outer s H E).env (bodyX P w K mg base N x (defScope st) f cdv A outer s H E).xe →
  MadeX (bodyX P w K mg base N x (defScope st) f cdv A outer s H E) ⟨K,C,H,Z,E⟩→FL (bodyX P w K mg base N x (defScope st) f cdv A outer s H E) ⟨K,C,H,Z,E⟩ (startS N.length ds) (defBody st) JU l
theorem mkSc {N ps:List Str}{sc:Scope}(a:sc.kind=.function:=by rfl)(b:sc.isCoroutine=false:=by rfl)(c:sc.isGenerator=false:=by rfl)(d:N.Nodup:=by decide +kernel)(e:N.take ps.length=ps:=by rfl)
  (f:∀ x∈ps,sc.names.lookup x=some .local∨sc.names.lookup x=some .cell:=by decide +kernel) (g:∀ y∈sc.names,y.2≠.free:=by decide +kernel):FnScope N ps sc:=⟨a,b,c,d,e,f,g⟩
section
variable {P:Program}{w:World}{K:PySem.W.Frag}{mg:Str→Option Value}{base:Heap}{C:Nat→Addr}{k:Nat}{N ps:List Str}{x:Str}{st:Stmt}
theorem okd {fn:List D→R D}(S:FnScope N ps (defScope st))(h:∀ ds,ds.length=ps.length→∃ l,fn ds=outL l∧OkB P w K mg base C k N x st ds l):OkD P w K mg base C k x st ps fn:=fun F =>
 wr F S fun cdv A outer s H Z E bx hp md ds hl=>by
  obtain⟨l,e,o⟩:=h ds hl
  exact⟨l,e,o _ cdv A outer s H Z E bx hp md⟩
theorem ok1 {p:Str}{c:D→L Unit}(S:FnScope N [p] (defScope st))(h:∀ a,OkB P w K mg base C k N x st [a] (c a)):OkD P w K mg base C k x st [p] (a1 c):=okd S fun ds hl=>by obtain⟨a,rfl⟩:=len1 hl;exact⟨c a,rfl,h a⟩
theorem ok2 {p q:Str}{c:D→D→L Unit}(S:FnScope N [p,q] (defScope st))(h:∀ a b,OkB P w K mg base C k N x st [a,b] (c a b)):OkD P w K mg base C k x st [p,q] (a2 c):=okd S fun ds hl=>by obtain⟨a,b,rfl⟩:=len2 hl;exact⟨c a b,rfl,h a b⟩
theorem ok3 {p q r:Str}{c:D→D→D→L Unit}(S:FnScope N [p,q,r] (defScope st))(h:∀ a b d,OkB P w K mg base C k N x st [a,b,d] (c a b d)):OkD P w K mg base C k x st [p,q,r] (a3 c):=okd S fun ds hl=>by obtain⟨a,b,d,rfl⟩:=len3 hl;exact⟨c a b d,rfl,h a b d⟩
theorem ok4 {p q r s:Str}{c:D→D→D→D→L Unit}(S:FnScope N [p,q,r,s] (defScope st))(h:∀ a b d e,OkB P w K mg base C k N x st [a,b,d,e] (c a b d e)):OkD P w K mg base C k x st [p,q,r,s] (a4 c):=okd S fun ds hl=>by obtain⟨a,b,d,e,rfl⟩:=len4 hl;exact⟨c a b d e,rfl,h a b d e⟩
theorem ok5 {p q r s t:Str}{c:D→D→D→D→D→L Unit}(S:FnScope N [p,q,r,s,t] (defScope st))(h:∀ a b d e f,OkB P w K mg base C k N x st [a,b,d,e,f] (c a b d e f)):OkD P w K mg base C k x st [p,q,r,s,t] (a5 c):=okd S fun ds hl=>by obtain⟨a,b,d,e,f,rfl⟩:=len5 hl;exact⟨c a b d e f,rfl,h a b d e f⟩
structure Fd (K:PySem.W.Frag)(mg:Str→Option Value)(x:Str)(ps:List Str)(st:Stmt):Prop where
 ex:∃ a fd,Fun K x x st a fd∧mg x=some (.ref a)∧Binds K fd ps []
theorem nz {f:Addr}{fd:FuncData}{n:Nat}:FnOk P w K mg base (CXE P w) k f fd ps (spF K C n fun _=>.stuck) :=
 ⟨fun vs H Q E h=>by obtain⟨_,_,_,_,_,z⟩:=h;exact z.elim,fun A outer s H args us vs Q E _ _ _ _ h=>by obtain⟨_,_,_,_,_,z⟩:=h;exact z.elim⟩
theorem qm {i:Nat}(F:Fd K mg x ps st)(hf:mg x=some (.ref (C i))):FnV P w K mg base C 0 i fun _=>.stuck:=by
 obtain⟨a,fd,F,h,b⟩:=F.ex
 rw[hf]at h
 cases h
 exact⟨fd,ps,nz,F.kp,b,fun _ _=>rfl⟩
theorem qo {i:Nat}{fn:List D→R D}(F:Fd K mg x ps st)(hf:mg x=some (.ref (C i)))(ok:OkD P w K mg base C k x st ps fn)(hl:∀ ds,ds.length≠ps.length→fn ds=.stuck):FnV P w K mg base C (k+1) i fn:=by
 obtain⟨a,fd,F,h,b⟩:=F.ex
 rw[hf]at h
 cases h
 exact⟨fd,ps,ok F,F.kp,b,hl⟩
theorem g0 (F:Fd K mg x ps st):Fn1 P w K mg base C 0 x ps (fun _=>.stuck):=by obtain⟨a,fd,F,h,b⟩:=F.ex;exact⟨a,fd,nz,h,F.kp,b⟩
theorem g1 {fn:List D→R D}(F:Fd K mg x ps st)(ok:OkD P w K mg base C k x st ps fn):Fn1 P w K mg base C (k+1) x ps fn:=by obtain⟨a,fd,F,h,b⟩:=F.ex;exact⟨a,fd,ok F,h,F.kp,b⟩
section
variable {h:Heap}{f:Addr}{oc:Value}{od an:Option Addr}{osl:Array (Option Value)}{kV doc pm cdv ct:Value}
theorem zm (X:K.In h)(G:h.Ns mainGlobals mg)(hb:∀ (kV doc pm:Value) (an:Option Addr) (cdv ct:Value) (us:List Value),us.length=ps.length→bindArgs (PySem.W.fnOf x x (defArgs st) (defBody st) (defScope st) .none kV doc pm an cdv ct) ⟨us,[]⟩=pure (ps.zip us))
  (a:PySem.W.nsIn K mainGlobals x=some (some (.ref f))) (l:K.lookup f=some ⟨oc,od,.func (PySem.W.fnOf x x (defArgs st) (defBody st) (defScope st) .none kV doc pm an cdv ct),osl⟩) (c:PySem.W.codeIn K cdv x=true) (k:PySem.W.keepIn K (.ref f)=true):Fd K mg x ps st :=
 ⟨f,_,oO l c k,PySem.W.mg_of X G a,(oO l c k).binds hb⟩
end
theorem ln1 {us:List Value}(h:us.length=1):∃ a,us=[a]:=match us,h with | [a],_=>⟨a,rfl⟩
theorem ln2 {us:List Value}(h:us.length=2):∃ a b,us=[a,b]:=match us,h with | [a,b],_=>⟨a,b,rfl⟩
theorem ln3 {us:List Value}(h:us.length=3):∃ a b c,us=[a,b,c]:=match us,h with | [a,b,c],_=>⟨a,b,c,rfl⟩
theorem ln4 {us:List Value}(h:us.length=4):∃ a b c d,us=[a,b,c,d]:=match us,h with | [a,b,c,d],_=>⟨a,b,c,d,rfl⟩
end
abbrev Ng (K:PySem.W.Frag)(x:Str)(v:Option Value):Prop:=PySem.W.nsIn K mainGlobals x=some v
theorem aF {K:PySem.W.Frag}{n c:Addr}{b:Bool}{cd:ClassData}(hd:PySem.W.clsIn K c=some cd)(hy:PySem.W.typeIn K (.ref c)=some (.type "type"))(hs:PySem.W.subIn K (.ref n) (.ref c)=some b)(hn:PySem.W.subIn K (.ref n) (.ref n)=some true):PySem.W.kitOne K (.ref n) (.ref c)=some b:=by
 unfold PySem.W.kitOne
 by_cases e:n=c
 ·subst e
  rw[hn]at hs
  rw[if_pos (by simp)]
  exact hs
 ·rw[if_neg (by simpa using e)]
  show (if ((PySem.W.clsIn K c).isSome&&PySem.W.typeIn K (.ref c)==some (.type "type"))=true then PySem.W.subIn K (.ref n) (.ref c) else none)=some b
  rw[hd,hy,if_pos (by simp)]
  exact hs
theorem o8 {K:PySem.W.Frag}{n:Addr}(hs:PySem.W.subIn K (.ref n) (.type "ValueError")=some true):PySem.W.kitOne K (.ref n) (.type "ValueError")=some true:=by
 unfold PySem.W.kitOne
 rw[if_neg (by simp)]
 show (if PySem.W.kitMeta "ValueError"=true then PySem.W.subIn K (.ref n) (.type "ValueError") else none)=some true
 rw[if_pos (by decide +kernel)]
 exact hs
theorem qp {K:PySem.W.Frag}{C:Nat→Addr}{Z:Hp}:∀ ns:List Int,Reps K C Z (ns.map .int) (ns.map V.int)
 | []=>by rw[List.map_nil,List.map_nil,Reps]
 | i::ns=>by rw[List.map_cons,List.map_cons,Reps];exact⟨_,_,rfl,aE,qp ns⟩
end FF
end
noncomputable section
namespace FF
open PySem PySem.Spec PyProof.Rows L2
abbrev mt (m:List (List D)):Option Sl:=some (.mat m)
section
variable {σ:Type}{X:Cx}{F:Fx}{S:SS}{J:σ→SS→Prop}
theorem wy (i:Nat){m:List (List D)}{S':SS}{sts:List Stmt}{l:L σ}(hi:S[i]?=some (some (.mat m)))(hS:S.set i (some (.val (.lst (m.map .lst))))=S')(h:FL X F S' sts J l):FL X F S sts J l :=
 h.weak fun D ρ H ⟨Z,ok,w⟩=>by
  obtain⟨Z',z,ok'⟩:=ok.freezeM hi
  rw[hS]at ok'
  exact⟨Z',ok',WL.more w z⟩
end
def mIx (m:List (List D))(y:D):R Nat:=match y with
 | .int i=>match ixN m.length i with
  | some a=>.ok a
  | none=>.stuck
 | _=>.stuck
def mStA (m:List (List D))(a:Nat)(x v:D):R (List (List D)):=match x with
 | .int j=>match m[a]? with
  | some row=>match ixN row.length j with
   | some b=>.ok (m.set a (row.set b v))
   | none=>.stuck
  | none=>.stuck
 | _=>.stuck
def sMatSt (i:Nat)(ge gy gx:SS→R D):SS→O:=fun S=>match S[i]? with
 | some (some (.mat m))=>rO (((ge S).bind fun v=>(gy S).bind fun y=>(mIx m y).bind fun a=>(gx S).bind fun x=>mStA m a x v).bind fun m'=>.ok (.nx (S.set i (some (.mat m')))))
 | _=>.stuck
theorem Rows.set {F:Fx}{H Z:Hp}{r:Addr}{us:List V}{ds:List D}(q:Reps F.K F.C Z ds us):∀ {m:List (List D)} {rs:List Addr} {j:Nat},rs.Nodup→Rows F H Z m rs→rs[j]?=some r→Rows F (upd H r (.lst us)) Z (m.set j ds) rs
 | d::m,b::rs,0,nd,h,e=>by
  cases e
  exact⟨⟨us,ar,q⟩,h.2.mono (Same.refl _) fun a ha o eo=>by
   have ne:a≠r:=fun z=>(List.nodup_cons.mp nd).1 (by rw[← z];exact ha)
   rw[ap ne];exact eo⟩
 | d::m,b::rs,j+1,nd,h,e=>by
  obtain⟨⟨vs,k1,k2⟩,h⟩:=h
  have hr:r∈rs:=List.mem_of_getElem? (by simpa using e)
  have ne:b≠r:=fun z=>(List.nodup_cons.mp nd).1 (by rw[z];exact hr)
  exact⟨⟨vs,by rw[ap ne];exact k1,k2⟩,Rows.set q (List.nodup_cons.mp nd).2 h (by simpa using e)⟩
 | [],[],_,_,_,e=>by simp at e
 | [],_::_,_,_,h,_=>h.elim
 | _::_,[],_,_,h,_=>h.elim
theorem yM {n a:Nat}{i:Int}(h:ixN n i=some a):a < n:=by
 unfold ixN at h
 split at h
 ·split at h
  ·cases h;omega
  ·cases h
 ·split at h
  ·cases h;omega
  ·cases h
section
variable {X:Cx}{F:Fx}{e ey ex:Expr}{ge gy gx:SS→R D}{x:Str}{pos:Pos}{k:Nat}
theorem uC (i:Nat){p0 p1 pos':Pos}(bx:BX X F k)(he:FE X F e ge)(hy:FE X F ey gy)(hx:FE X F ex gx)(hps:PlainIx ey:=by intro _ _;rfl)(hi:X.N[i]?=some x:=by rfl)(hv:Vis X.env.scope x:=by first | exact Or.inl rfl | exact Or.inr (Or.inl rfl) | exact Or.inr (Or.inr rfl))
  (hd:(x==("__debug__":Str))=false:=by decide) (hcd:(x==("__classdict__":Str))=false:=by decide)
  (hasg:∀ v,assign (.Subscript (.Subscript (.Name x p0) ey p1) ex pos') X.env v=(do
   let ov ← holding [v] (eval (.Subscript (.Name x p0) ey p1) X.env)
   let iv ← holding [v,ov] (eval ex X.env)
   standAt pos'
   holding [v,ov,iv] (setItem ov iv v)
   release [v,ov,iv] []):=by intro _;rfl)
  (hs:swapsWithSole [.Subscript (.Subscript (.Name x p0) ey p1) ex pos'] e pos.line X.env=pure false:=by rfl) (hw:swappedStores [.Subscript (.Subscript (.Name x p0) ey p1) ex pos'] e X.env=pure none:=by rfl)
  (h1:(assignEach [.Subscript (.Subscript (.Name x p0) ey p1) ex pos'] X.env).map (·.2)=[assign (.Subscript (.Subscript (.Name x p0) ey p1) ex pos') X.env]:=by rfl) :
  FS X F (.Assign [.Subscript (.Subscript (.Name x p0) ey p1) ex pos'] e pos) (sMatSt i ge gy gx) :=
 (xW he (xV (tO lI (fg hi hv hd hcd) hy hps) hx tQ hasg) hs hw h1).weak fun D σ H ⟨Z,S,ok,w⟩=>by
  unfold sMatSt at w
  split at w
  ·rename_i m e0
   have w':=WO.wg ok w
   rw[R.bind_assoc]at w'
   refine aD ok w' fun d v H1 Z1 ok1 x1 rv w1=>?_
   obtain⟨a,rs,f1,f2,f3,f4⟩:=ok1.mat i m e0
   refine⟨.ref a,f1,?_⟩
   rw[R.bind_assoc]at w1
   refine aD ok1 w1 fun dy vy H2 Z2 ok2 x2 ry w2=>?_
   cases dy with
   | int jy =>
    rw[Rep]at ry
    cases qy:ixN m.length jy with
    | none =>
     have w2':WG F H2 Z2 (R.bind (R.bind (match ixN m.length jy with | some a=>R.ok a | none=>R.stuck) fun a=>(gx S).bind fun x=>mStA m a x d) fun m'=>R.ok (O.nx (S.set i (some (Sl.mat m'))))) _:=w2
     rw[qy]at w2'
     exact w2'.elim
    | some a0 =>
     have w2':WG F H2 Z2 (R.bind (R.bind (match ixN m.length jy with | some a=>R.ok a | none=>R.stuck) fun a=>(gx S).bind fun x=>mStA m a x d) fun m'=>R.ok (O.nx (S.set i (some (Sl.mat m'))))) _:=w2
     rw[qy]at w2'
     have w3:WG F H2 Z2 (R.bind ((gx S).bind fun x=>mStA m a0 x d) fun m'=>R.ok (O.nx (S.set i (some (Sl.mat m'))))) _:=w2'
     rw[R.bind_assoc]at w3
     have hlt:=yM qy
     have hl:=f3.len
     obtain⟨r,er⟩:∃ r,rs[a0]?=some r:=⟨rs[a0],List.getElem?_eq_getElem (by omega)⟩
     have hat:atI (rs.map V.ref) jy=some (.ref r):=by
      unfold atI
      rw[List.length_map,hl,qy]
      show (rs.map V.ref)[a0]?=_
      rw[List.getElem?_map,er];rfl
     refine⟨a,rs.map V.ref,jy,.ref r,rfl,ry,SqL.of (x2.same _ _ f2),hat,?_⟩
     refine aD ok2 w3 fun dx vx H3 Z3 ok3 x3 rx w4=>?_
     cases dx with
     | int jx =>
      rw[Rep]at rx
      have h3a:H3 a=some (.lst (rs.map V.ref)):=x3.same _ _ (x2.same _ _ f2)
      have rows3:Rows F H3 Z3 m rs:=f3.mono (x2.z.trans x3.z) fun b _ o eo=>x3.same _ _ (x2.same _ _ eo)
      have erow:m[a0]?=some m[a0]:=List.getElem?_eq_getElem hlt
      obtain⟨r',vs,g1,g2,g3⟩:=rows3.at erow
      rw[er]at g1;cases g1
      have w5:WG F H3 Z3 (R.bind (match m[a0]? with | some row=>(match ixN row.length jx with | some b=>R.ok (m.set a0 (row.set b d)) | none=>R.stuck) | none=>R.stuck) fun m'=>R.ok (O.nx (S.set i (some (Sl.mat m'))))) _:=w4
      rw[erow]at w5
      cases qx:ixN (m[a0]).length jx with
      | none =>
       have w6:WG F H3 Z3 (R.bind (match ixN (m[a0]).length jx with | some b=>R.ok (m.set a0 ((m[a0]).set b d)) | none=>R.stuck) fun m'=>R.ok (O.nx (S.set i (some (Sl.mat m'))))) _:=w5
       rw[qx]at w6
       exact w6.elim
      | some b =>
       have w6:WG F H3 Z3 (R.bind (match ixN (m[a0]).length jx with | some b=>R.ok (m.set a0 ((m[a0]).set b d)) | none=>R.stuck) fun m'=>R.ok (O.nx (S.set i (some (Sl.mat m'))))) _:=w5
       rw[qx]at w6
       refine⟨r,vs,jx,b,rfl,rx,g2,by rw[← g3.length];exact qx,?_⟩
       have w7:=WG.now w6 ok3.sub
       have hr:r∈rs:=List.mem_of_getElem? er
       have nd:=List.nodup_cons.mp f4.nd
       have ne:a≠r:=fun z=>nd.1 (by rw[z];exact hr)
       refine w7 σ _ Z3 (Same.refl _) (ok3.rewr (x:=.mat m) (A:=a::rs) e0 f1 ⟨a,rs,rfl,rfl,h3a,rows3⟩ ⟨a,rs,rfl,rfl,by rw[ap ne];exact h3a,Rows.set (Reps.setAt (rv.mono (x2.z.trans x3.z)) b g3) nd.2 rows3 er⟩ fun c hc=>ap fun z=>hc (by rw[z];exact .tail _ hr))
     | _=>exact w4.elim
   | _=>exact w2.elim
  ·exact w.elim
end
def sqsL:List D→R (List (List D))
 | []=>.ok []
 | d::r=>(asSeq d).bind fun xs=>(sqsL r).bind fun m=>.ok (xs::m)
def sMatOf (i:Nat)(git:SS→R (List D)):SS→O:=fun S=>rO (((git S).bind sqsL).bind fun m=>.ok (.nx (S.set i (some (.mat m)))))
theorem nA:∀ {ds:List D} {m:List (List D)},sqsL ds=.ok m→m.length=ds.length∧∀ (j:Nat) d,ds[j]?=some d→∃ xs,m[j]?=some xs∧asSeq d=.ok xs
 | [],m,h=>by cases h;exact⟨rfl,fun j d e=>by simp at e⟩
 | d::ds,m,h=>by
  rw[sqsL]at h
  cases e1:asSeq d with
  | err k=>rw[e1]at h;cases h
  | stuck=>rw[e1]at h;cases h
  | ok xs =>
   rw[e1,R.bind_ok]at h
   cases e2:sqsL ds with
   | err k=>rw[e2]at h;cases h
   | stuck=>rw[e2]at h;cases h
   | ok m' =>
    rw[e2,R.bind_ok]at h
    cases h
    obtain⟨hl,hg⟩:=nA e2
    refine⟨by rw[List.length_cons,List.length_cons,hl],fun j c e=>?_⟩
    cases j with
    | zero=>cases e;exact⟨xs,rfl,e1⟩
    | succ j=>exact hg j c e
theorem wz {ds:List D}{k:Nat}:sqsL ds≠.err k:=by
 induction ds with
 | nil=>exact fun h=>nomatch h
 | cons d ds ih =>
  intro h
  rw[sqsL]at h
  cases d with
  | lst xs =>
   have h':((sqsL ds).bind fun m=>R.ok (xs::m))=.err k:=h
   cases e:sqsL ds with
   | ok m=>rw[e]at h';cases h'
   | err j=>exact ih (by rw[e]at h';cases h';exact e)
   | stuck=>rw[e]at h';cases h'
  | tup xs =>
   have h':((sqsL ds).bind fun m=>R.ok (xs::m))=.err k:=h
   cases e:sqsL ds with
   | ok m=>rw[e]at h';cases h'
   | err j=>exact ih (by rw[e]at h';cases h';exact e)
   | stuck=>rw[e]at h';cases h'
  | _=>cases h
theorem Rows.snoc {F:Fx}{H Z:Hp}{r:Addr}{ds:List D}{vs:List V}(h1:H r=some (.lst vs))(h2:Reps F.K F.C Z ds vs):∀ {m:List (List D)} {rs:List Addr},Rows F H Z m rs→Rows F H Z (m++[ds]) (rs++[r])
 | [],[],_=>⟨⟨vs,h1,h2⟩,trivial⟩
 | _::_,_::_,h=>⟨h.1,Rows.snoc h1 h2 h.2⟩
 | [],_::_,h=>h.elim
 | _::_,[],h=>h.elim
abbrev rLst (K:PySem.W.Frag):List V→Hp→VK→Prop:=fun xs H Q=>∃ p ys,xs=[.ref p]∧(SqL K H p ys∨SqT K H p ys)∧∀ l,H l=none→Q (.ref l) (upd H l (.lst ys))
section
variable {X:Cx}{F:Fx}{tg iter elt:Expr}{scope:Scope}{N:List Str}{own:Nat}{cap:List Nat}{pos:Pos}{git:SS→R (List D)}
theorem uD {i:Nat}{D:Ends}{σ:St}{H Z:Hp}{S:SS}{tc:TT}(hown:0 < own)(ok:StOk F H Z S σ)(w:WO F Z (sMatOf i git S) D) :
  tCompSet i own cap (tI F git) (gName 0) (tTests [] tc) (tCB (rLst F.K) (tCons (tVar 0) tNil)) D σ H:=by
 have w:=WO.wg ok w
 refine⟨Z,S,ok,?_⟩
 cases e:git S with
 | err k=>rw[e]at w;exact w
 | stuck=>rw[e]at w;exact w
 | ok ds =>
  rw[e]at w
  intro H1 Z1 x1 J wk hlen D' hD
  have w1:=WG.more (r:=(sqsL ds).bind fun m=>R.ok (O.nx (S.set i (some (.mat m))))) w x1
  have ok1:=ok.more x1
  cases em:sqsL ds with
  | err k=>exact(wz em).elim
  | stuck=>rw[em]at w1;exact w1.elim
  | ok m =>
   rw[em]at w1
   obtain⟨ml,mg⟩:=nA em
   have hS:=sizeLine_eq
   refine⟨fun j n σ' H' ys=>n=ds.length - j∧j≤ds.length∧0 < σ'.length∧H' D'=some (.lst ys)∧∃ Z' rs,Ex H1 Z1 H' Z'∧ys=rs.map V.ref∧Rows F H' Z' (m.take j) rs∧(D'::rs).Nodup∧∀ r∈D'::rs,Z' r=none∧H1 r=none,?_,
    ds.length,rfl,Nat.zero_le _,by unfold startB;simp;omega,ar,Z1,[],Ex.hidden ok1.sub hD,rfl,trivial,by simp,fun r hr=>by cases List.mem_singleton.mp hr;exact⟨ok1.sub.free hD,hD⟩⟩
   rintro j n σ2 H2 ys ⟨rfl,hle,hσ,hDy,Z2,rs,x2,rfl,rows,nd,fr⟩
   refine⟨hDy,?_⟩
   obtain⟨k1,k2⟩:=wk j H2 Z2 x2.z x2.sub
   have rl:rs.length=j:=by rw[rows.len,List.length_take];omega
   by_cases hlt:j < ds.length
   ·obtain⟨go,y⟩:=k1 hlt
    refine .inr ⟨go,fun x H' hy=>?_⟩
    obtain⟨Z3,d,x3,e3,rd⟩:=y x H' hy
    obtain⟨xs,em2,ea⟩:=mg j d e3
    show tCB (rLst F.K) (tCons (tVar 0) tNil) (σ2.set 0 (some x)) H' _
    refine⟨x,List.getElem?_set_self hσ,?_⟩
    obtain⟨b,p,vs,rfl,sb,rp⟩:=uy ea rd
    have h3D:H' D'=some (.lst (rs.map V.ref)):=x3.same _ _ hDy
    have there:∀ r∈D'::rs,∃ o,H2 r=some o:=fun r hr=>by
     rcases List.mem_cons.mp hr with rfl | hr
     ·exact⟨_,hDy⟩
     ·exact rows.there r hr
    have z3:∀ r∈D'::rs,Z3 r=none:=fun r hr=>by
     cases q:Z3 r with
     | none=>rfl
     | some o =>
      rcases x3.new r (by rw[q];simp) with z | z
      ·exact absurd (fr r hr).1 z
      ·obtain⟨u,hu⟩:=there r hr
       rw[hu]at z;cases z
    refine⟨p,vs,rfl,?_,fun l hl=>?_⟩
    ·cases b with
     | true=>exact .inr ((show SqT F.K Z3 p vs from sb).mono x3.sub)
     | false=>exact .inl (x3.sub.seq (show SqL F.K Z3 p vs from sb))
    ·have lD:l≠D':=fun z=>by rw[z,h3D]at hl;cases hl
     have lr:l∉rs:=fun z=>by
      obtain⟨u,hu⟩:=there l (.tail _ z)
      rw[x3.same _ _ hu]at hl;cases hl
     have l1:H1 l=none:=x2.same.free (x3.same.free hl)
     have zl:Z3 l=none:=x3.sub.free hl
     have xx:=x2.trans x3
     have ex':Ex H1 Z1 (upd (upd H' l (.lst vs)) D' (.lst (rs.map V.ref++[.ref l]))) Z3:=by
      refine⟨fun b o e=>?_,xx.z,fun b o e=>?_,xx.new⟩
      ·rw[ap (fun z=>by subst z;rw[hD]at e;cases e),ap (fun z=>by subst z;rw[l1]at e;cases e)];exact xx.same b o e
      ·rw[ap (fun z=>by subst z;rw[z3 _ (.head _)]at e;cases e),ap (fun z=>by subst z;rw[zl]at e;cases e)];exact xx.sub b o e
     refine⟨by rw[ap (Ne.symm lD)];exact h3D,by rw[List.length_map,rl];omega,ds.length - (j+1),by omega,rfl,hlt,by rw[List.length_set];exact hσ,ar,Z3,rs++[l],ex',by rw[List.map_append];rfl,?_,?_,?_⟩
     ·rw[List.take_succ,em2]
      refine Rows.snoc (vs:=vs) (by rw[ap lD,ar]) rp (rows.mono x3.z fun r hr o eo=>?_)
      have n1:r≠D':=fun z=>(List.nodup_cons.mp nd).1 (by rw[← z];exact hr)
      have n2:r≠l:=fun z=>lr (by rw[← z];exact hr)
      rw[ap n1,ap n2]
      exact x3.same _ _ eo
     ·rw[← List.cons_append,List.nodup_append]
      refine⟨nd,by simp,fun a ha b hb=>?_⟩
      cases List.mem_singleton.mp hb
      intro z
      subst z
      rcases List.mem_cons.mp ha with z | z
      ·exact lD z
      ·exact lr z
     ·intro r hr
      rw[← List.cons_append]at hr
      rcases List.mem_append.mp hr with hr | hr
      ·exact⟨z3 r hr,(fr r hr).2⟩
      ·cases List.mem_singleton.mp hr;exact⟨zl,l1⟩
   ·have ej:j=ds.length:=by omega
    refine .inl ⟨k2 (by omega),?_⟩
    have hm:m.take j=m:=List.take_of_length_le (by omega)
    rw[hm]at rows
    have w2:WO F Z2 (.nx (S.set i (some (.mat m)))) D:=w1 H2 Z2 x2
    exact w2 _ H2 Z2 (Same.refl _) (ok1.putNew (x:=.mat m) (A:=D'::rs) x2 ⟨D',rs,rfl,rfl,hDy,rows⟩ ⟨nd,fun a ha=>(fr a ha).1,fun a ha=>ok1.ex.same.free (fr a ha).2⟩ fun a ha=>(fr a ha).2)
theorem uE {k:Nat}(i:Nat){y r:Str}{py spos pl pr tp pc:Pos}(bx:BX X F k)(b:BlkOk X.N X.env.scope scope N own cap)(hi:FI X F (.Name r tp) iter git)(hown:0 < own)
  (hg:∀ cl C s H fp,PG (blk X scope cl C s H fp N) (.Name r tp) (gName 0)) (he:∀ cl C s H fp,PE (blk X scope cl C s H fp N) (.Call (.Name "list" pl) [.Name r pr] [] pc) (tCB (rLst F.K) (tCons (tVar 0) tNil))) (hN:X.N.Nodup)
  (hsw:swapsWith (.ListComp (.Call (.Name "list" pl) [.Name r pr] [] pc) [⟨.Name r tp,iter,[],0⟩] scope pos) (some (.Name y py)) spos.line X.env=pure true:=by rfl) (hiy:X.N[i]?=some y:=by rfl) (hy:Loc X.env.scope y:=by first | exact Or.inl rfl | exact Or.inr rfl)
  (hfn:X.fn y=true∨X.env.scope.names.lookup y=some .local:=by first | exact .inl rfl | exact .inr rfl) (hs:∀ x,foldedSetIterable iter X.env x=pure x:=by intro _;rfl) :
  FS X F (.Assign [.Name y py] (.ListComp (.Call (.Name "list" pl) [.Name r pr] [] pc) [⟨.Name r tp,iter,[],0⟩] scope pos) spos) (sMatOf i git) :=
 (oT (ifs:=[]) (tc:=tT (noE F) tTrue) b bx.calm (by simp) hi hg (fun c q=>nomatch q) he hN hiy hy hfn hsw hs).weak fun D σ H ⟨Z,S,ok,w⟩=>uD hown ok w
theorem wA {X:Cx}{F:Fx}{r:Str}{pl pr pc:Pos}(hK:X.K=F.K)(hg:Gl X "list")(hm:X.mg "list"=none)(hr:X.N[0]?=some r:=by rfl)(hv:Vis X.env.scope r:=by first | exact Or.inl rfl | exact Or.inr (Or.inl rfl) | exact Or.inr (Or.inr rfl))
  (hd:(r==("__debug__":Str))=false:=by decide) (hcd:(r==("__classdict__":Str))=false:=by decide) (he:starEach [.Name r pr] X.env=(false,eval (.Name r pr) X.env)::starEach [] X.env:=by rfl) (hpl:(backTo pc (starEach [] X.env)).any (·.1)=false:=by rfl) :
  PE X (.Call (.Name "list" pl) [.Name r pr] [] pc) (tCB (rLst F.K) (tCons (tVar 0) tNil)):=by
 have:=gJ (p:=pl) (pos:=pc) (lL (X:=X)) hg hm (by decide +kernel) (fJ (fg (pos:=pr) hr hv hd hcd) lG he) (he:=he) (hpl:=hpl)
 rw[hK]at this
 exact this
end
section
variable {X:Cx}{F:Fx}{tg iter elt:Expr}{ifs:List Expr}{scope:Scope}{N:List Str}{own:Nat}{cap:List Nat}{pos:Pos}{git:SS→R (List D)}{g:D→SS→R SS}{gc:SS→R Bool}{ge:SS→R D}
end
end FF
end
noncomputable section
namespace FF
open PySem PySem.Spec PyProof.Rows L2
section
variable {X:Cx}{F:Fx}{p pos p1 p2 p3:Pos}{e:Expr}{g:SS→R D}{k:Nat}
end
end FF
end
noncomputable section
namespace L2
open PySem PySem.Spec PyProof.Rows
section
variable {κ:Type}[DecidableEq κ]
def valV (kvs:List (κ×V))(k:κ):Option V:=(kvs.find? fun kv=>decide (kv.1=k)).map (·.2)
theorem uF {p:κ×V}{r:List (κ×V)}{k:κ}(e:p.1=k):valV (p::r) k=some p.2:=by simp[valV,List.find?_cons,e]
theorem uG {p:κ×V}{r:List (κ×V)}{k:κ}(e:¬ p.1=k):valV (p::r) k=valV r k:=by simp[valV,List.find?_cons,e]
theorem KV.any {kvs:List (κ×V)}{vs:List (κ×Value)}(r:KV kvs vs)(k:κ):(kvs.any fun kv=>decide (kv.1=k))=vs.any fun kv=>decide (kv.1=k):=by
 unfold KV at r
 induction r with
 | nil=>rfl
 | cons h t ih=>rw[List.any_cons,List.any_cons,ih,h.1]
theorem KV.length {kvs:List (κ×V)}{vs:List (κ×Value)}(r:KV kvs vs):kvs.length=vs.length:=Paired.length r
end
section
variable {P:Program}{w:World}{H:Hp}{h:Heap}{a:Addr}
end
section
variable {X:Cx}{pins:List (Addr×Obj)}{σ:St}{H:Hp}{s:Shared}{a:Addr}{y v:V}{u r:Value}{o:Option V}{A:Around}{E:Value→Shared→Prop}
end
section
variable {X:Cx}{pins:List (Addr×Obj)}{σ:St}{H:Hp}{s:Shared}{a:Addr}{kvs:List (Key×V)}{k:Key}{u:Value}{A:Around}{E:Value→Shared→Prop}
end
section
variable {X:Cx}{o i e value:Expr}{pos pos' tpos:Pos}{td ty tv:TE}
end
section
variable {X:Cx}{pos:Pos}
end
section
variable {X:Cx}{pins:List (Addr×Obj)}{σ:St}{H:Hp}{s:Shared}{a:Addr}{y d:V}{u r:Value}{o:Option V}{A:Around}{E:Value→Shared→Prop}
end
section
variable {X:Cx}{o e f:Expr}{apos cpos:Pos}{td ty tx:TE}
end
section
variable {X:Cx}{pins:List (Addr×Obj)}{σ:St}{H:Hp}{s:Shared}{a:Addr}{kvs:List (Key×V)}{A:Around}{E:Value→Shared→Prop}
end
section
variable {X:Cx}{pins:List (Addr×Obj)}{σ:St}{H:Hp}{s:Shared}{a:Addr}{y:V}{u:Value}{A:Around}{E:Value→Shared→Prop}
end
end L2
end
noncomputable section
namespace FF
open PySem PySem.Spec PyProof.Rows L2
def dicGet {κ:Type}[DecidableEq κ](m:List (κ×D))(k:κ):Option D:=(m.find? fun p=>decide (p.1=k)).map (·.2)
section
variable {κ:Type}{F:Fx}{Z:Hp}{m:List (κ×D)}{kvs:List (κ×V)}{k:κ}{d:D}{v:V}
theorem Pairs.inv (h:Pairs F Z ((k,d)::m) kvs):∃ v r,kvs=(k,v)::r∧Rep F.K F.C Z d v∧Pairs F Z m r:=by
 cases kvs with
 | nil=>have:=h.1;cases this
 | cons p r =>
  obtain⟨k',v⟩:=p
  obtain⟨h1,h2⟩:=h
  rw[List.map_cons,List.map_cons]at h1
  injection h1 with h1 h3
  rw[List.map_cons,List.map_cons,Reps]at h2
  obtain⟨v',r',e,q1,q2⟩:=h2
  injection e with e1 e2
  subst e1 e2
  cases (show k'=k from h1)
  exact⟨v,r,rfl,q1,h3,q2⟩
theorem Pairs.inv0 (h:Pairs F Z ([]:List (κ×D)) kvs):kvs=[]:=by
 cases kvs with
 | nil=>rfl
 | cons p r=>have:=h.1;cases this
theorem Pairs.length (h:Pairs F Z m kvs):kvs.length=m.length:=by have:=congrArg List.length h.1;simpa using this
variable [DecidableEq κ]
theorem Pairs.get:∀ {m:List (κ×D)} {kvs:List (κ×V)},Pairs F Z m kvs→dicGet m k=some d→∃ v,valV kvs k=some v∧Rep F.K F.C Z d v
 | [],kvs,h,e=>nomatch e
 | (k',d')::m,kvs,h,e=>by
  obtain⟨v,q,rfl,h1,h2⟩:=h.inv
  unfold dicGet at e
  rw[List.find?_cons]at e
  by_cases hk:k'=k
  ·rw[decide_eq_true (show (k',d').1=k from hk)]at e
   cases e
   exact⟨v,uF (p:=(k',v)) hk,h1⟩
  ·rw[decide_eq_false (show ¬ (k',d').1=k from hk)]at e
   obtain⟨u,e1,e2⟩:=h2.get e
   exact⟨u,by rw[uG (p:=(k',v)) hk];exact e1,e2⟩
theorem Pairs.any:∀ {m:List (κ×D)} {kvs:List (κ×V)},Pairs F Z m kvs→(kvs.any fun kv=>decide (kv.1=k))=(m.any fun p=>decide (p.1=k))
 | [],kvs,h=>by rw[h.inv0];rfl
 | (k',d')::m,kvs,h=>by
  obtain⟨v,q,rfl,h1,h2⟩:=h.inv
  rw[List.any_cons,List.any_cons,h2.any]
end
section
variable {F:Fx}{H Z:Hp}{S:SS}{σ:St}
end
section
variable {X:Cx}{F:Fx}{pos p:Pos}{k:Nat}{g ge:SS→R D}{e ei:Expr}{x:Str}
end
section
variable {X:Cx}{F:Fx}{pos p:Pos}{keys:List (Option Expr)}{values:List Expr}{ks:List Key}{gs:List (SS→R D)}{g:SS→R D}{e:Expr}{x:Str}
end
end FF
end
noncomputable section
namespace FF
open PySem PySem.Spec PyProof.Rows L2
section
variable {X:Cx}{F:Fx}{p pos:Pos}{e:Expr}{gs:SS→R (List D)}{k:Nat}
end
end FF
end
noncomputable section
namespace FF
open PySem PySem.Spec PyProof.Rows L2
section
variable {X:Cx}{F:Fx}{pos p:Pos}{k:Nat}{ga gb:SS→R D}{a b:Expr}{x:Str}
end
end FF
end
noncomputable section
namespace FF
open PySem PySem.Spec PyProof.Rows L2
section
variable {prog:Program}{w:World}{A:Around}{E:Value→Shared→Prop}{s:Shared}
end
section
variable {X:Cx}{F:Fx}{e st:Expr}{te:TE}{g:SS→R D}{pos p2:Pos}
end
end FF
end
noncomputable section
namespace HT
open PySem PyProof.Rows
section
open PySem.SeqAt
open PySem.AutoSeq1 (wpAny_loadPart')
open PySem.MeetsSeq PySem.MeetsSeq2 PySem.MeetsSeq3
end
section
variable {prog:Program}{w:World}{A:Around}{E:Value→Shared→Prop}{s:Shared}
end
end HT
end
noncomputable section
namespace FF
open PySem PySem.Spec PyProof.Rows L2
section
variable {X:Cx}{F:Fx}{a b:Expr}{ga gb:SS→R D}{pos:Pos}{k:Nat}
end
end FF
end
noncomputable section
namespace FF
open PySem PySem.Spec PyProof.Rows L2
section
variable {M:Model}{A:Around}{E:Value→Shared→Prop}{s:Shared}
end
section
variable {P:Program}{w:World}{K:PySem.W.Frag}{mg:Str→Option Value}{base:Heap}{N:List Str}{qual:Str}{scope:Scope}{f:Addr}{cd:Value}{A:Around}{outer:List Env}{s0:Shared}{H0:Hp}{E:XK}
end
section
variable {X:Cx}{E:XK}{scope:Scope}{cl:List (Str×Addr)}{C:Addr}{s:Shared}{H:Hp}{fp:List Addr}{N:List Str}{pins:List (Addr×Obj)}{σ:L2.St}{H1:Hp}{s1:Shared}
end
section
variable {X:Cx}{E:XK}{elt tg iter:Expr}{scope:Scope}{N:List Str}{own:Nat}{cap:List Nat}{pos:Pos}{wi:TI}{g:TG}{tc:TT}{te:TE}
set_option maxHeartbeats 4000000 in
end
section
variable {X:Cx}{F:Fx}{tg iter elt:Expr}{scope:Scope}{N:List Str}{own:Nat}{cap:List Nat}{pos:Pos}{git:SS→R (List D)}{g:D→SS→R SS}{ge:SS→R D}
end
end FF
end
noncomputable section
namespace FF
open PySem PySem.Spec PyProof.Rows L2
section
variable {X:Cx}{F:Fx}{p pos:Pos}{e:Expr}{kws:List Keyword}{gs:SS→R (List D)}{k:Nat}
end
end FF
end
noncomputable section
namespace FF
open PySem PySem.Spec PyProof.Rows L2
def Itr3 (lo c:Int)(n:Nat):It:=⟨fun i _=>i < n,fun i H x H'=>H'=H∧x=.int (lo+c*i),fun i _=>n≤i⟩
theorem nB {P:Program}{w:World}{K:PySem.W.Frag}{tg:Expr}(it:Addr)(lo c:Int)(n:Nat):Turn P w K tg (Itr3 lo c n) [it] it (fun i h=>IsRangeIter h it (lo+(i:Nat)*c) ((n:Int) - (i:Nat)) c) where
 mem:=by simp
 obj:=fun i h st b hb=>by
  cases List.mem_singleton.mp hb
  exact⟨_,st,fun v z=>by
   have z':Data.fields _=Data.cell v:=z
   cases z'⟩
 keep:=fun i h h' st k=>k it (by simp) _ st
 item:=by
  intro X hP hw hK hc i pins s σ H E I hf st hg
  subst hP hw hK
  obtain⟨f0,f1,f2,f3,f4,f5⟩:=hf it (by simp)
  have W:=Walks.range (prog:=X.prog) (w:=X.w) (I.ok.hd hc) it lo c n
  refine W.item i s _ _ hg st fun v h' tk hv st' kk=>?_
  obtain⟨t,rfl⟩:=hv
  have I1:Inv X pins σ H { s with heap:=h',toks:=tk }:=I.turned (fun b o hb e=>kk b o (by simpa using hb) e) f0 f1 f3 f4 f5
  refine⟨_,rfl,pS (s:={ s with heap:=h',toks:=tk }) (n := "range_iterator") st' rfl rfl (by decide) ⟨.int (lo+c*i),H,I1,⟨t,?_⟩,⟨rfl,rfl⟩,st',fun b hb=>(hf b hb).1⟩⟩
  rw[Int.mul_comm]
 done:=by
  intro X hP hw hK hc i pins s σ H E I hf st hg
  subst hP hw hK
  obtain⟨f0,f1,f2,f3,f4,f5⟩:=hf it (by simp)
  exact wpAny_pyNext_range_end (I.ok.hd hc) st (by have:n≤i:=hg;omega) fun h' eb=>⟨rfl,I.turned (t':=s.toks) (fun b o hb e=>eb b o hb e) f0 f1 f3 f4 f5⟩
 self:=fun _ _ _ _ _ st h=>wpAny_pyIter_rangeiter st h
theorem size3 {i j k:Int}(h0:0≤i)(h1:i≤j)(hk:0 < k):Builtin.Range.rangeSize i j k=(((j - i+k - 1)/k).toNat:Int):=by
 unfold Builtin.Range.rangeSize
 rw[if_pos hk]
 by_cases h:i < j
 ·rw[if_pos h,show j - i+k - 1=(j - i - 1)+1*k by omega,Int.add_mul_ediv_right _ _ (by omega)]
  have:0≤(j - i - 1)/k:=Int.ediv_nonneg (by omega) (by omega)
  omega
 ·rw[if_neg h,show j - i+k - 1=k - 1 by omega,Int.ediv_eq_zero_of_lt (by omega) (by omega)]
  rfl
theorem small3 {i j k:Int}(h0:0≤i)(h1:i≤j)(h2:j≤16777216)(hk:0 < k)(hk2:k≤16777216):Builtin.Range.small i j k=true:=by
 have e:=size3 h0 h1 hk
 have d:(j - i+k - 1)/k≤j - i+k - 1:=Int.ediv_le_self _ (by omega)
 have d0:0≤(j - i+k - 1)/k:=Int.ediv_nonneg (by omega) (by omega)
 unfold Builtin.Range.small
 rw[e]
 simp only[Builtin.Range.rangeFitsLong,Bool.and_eq_true,Bool.or_eq_true,decide_eq_true_eq,beq_iff_eq,if_pos hk]
 omega
section
variable {X:Cx}{F:Fx}{tg:Expr}{gs:SS→R (List D)}
theorem rX {pins:List (Addr×Obj)}{σ:L2.St}{H:Hp}{s:Shared}{R:It→Hp→Prop}{E:Value→Shared→Prop}{i j k:Int}{t u v:Tok}{tk:Nat}(I:Inv X pins σ H s)(h0:0≤i)(h1:i≤j)(h2:j≤16777216)(hk:0 < k)(hk2:k≤16777216)
  (q:R (Itr3 i k ((j - i+k - 1)/k).toNat) H):wpAny (model X.prog X.w) X.A (pyIter (.ref s.heap.objs.size)) (PIE X pins σ tg R) E { s with heap:=s.heap.push { cls:=.type "range",data:=.fields #[.int i t,.int j u,.int k v] },toks:=tk }:=by
 refine wpAny_pyIter_range (IsRange.new ..) (small3 h0 h1 h2 hk hk2) ?_
 have I1:Inv X pins σ H { s with heap:=s.heap.push { cls:=.type "range",data:=.fields #[.int i t,.int j u,.int k v] },toks:=tk }:=I.kept fun b o e=>Heap.get?_push_of_some _ e
 refine⟨(s.heap.push { cls:=.type "range",data:=.fields #[.int i t,.int j u,.int k v] }).objs.size,[(s.heap.push { cls:=.type "range",data:=.fields #[.int i t,.int j u,.int k v] }).objs.size],_,_,H,rfl,
  I1.kept (t':=tk) fun b o e=>Heap.get?_push_of_some _ e,nB _ i k _,?_,fun b hb=>?_,q⟩
 ·show IsRangeIter _ _ (i+((0:Nat):Int)*k) (((((j - i+k - 1)/k).toNat:Nat):Int) - ((0:Nat):Int)) k
  rw[show i+((0:Nat):Int)*k=i by simp,show ((((j - i+k - 1)/k).toNat:Nat):Int) - ((0:Nat):Int)=Builtin.Range.rangeSize i j k by rw[size3 h0 h1 hk];simp]
  exact Heap.get?_push_size _ rfl
 ·cases List.mem_singleton.mp hb
  exact I1.fpOk (Nat.le_refl _) (I1.hok.fresh (Nat.le_refl _))
def iRng3 (ta:TA):TI:=fun σ H R=>ta σ H fun vs H1=>∃ i j k:Int,vs=[.int i,.int j,.int k]∧(0≤i∧i≤j∧j≤16777216∧0 < k∧k≤16777216)∧R (Itr3 i k ((j - i+k - 1)/k).toNat) H1
theorem rY {a b c:Expr}{ta:TA}{p pos:Pos}(hg:Gl X "range")(hm:X.mg "range"=none)(ha:PA X [a,b,c] ta)(hs:starEach [a,b,c] X.env=[(false,eval a X.env),(false,eval b X.env),(false,eval c X.env)]:=by rfl)(hs2:starEach [b,c] X.env=[(false,eval b X.env),(false,eval c X.env)]:=by rfl) :
  PI X tg (.Call (.Name "range" p) [a,b,c] [] pos) (iRng3 ta):=by
 intro pins s σ H R I h
 refine Call_ (fh I hg hm boot_range (PyProof.Rows.callWith_type1 (thn (ha pos pins s σ H _ I h) fun us s1 ⟨vs,H1,I1,r1,q1⟩=>?_) (by rw[hs,hs2]) (by rw[hs2];rfl)))
 obtain⟨i,j,k,e,⟨q1,q2,q3,q4,q5⟩,q⟩:=q1
 subst e
 cases r1 with
 | cons r rr =>
  cases rr with
  | cons r' rr =>
   cases rr with
   | cons r'' rr =>
    cases rr
    obtain⟨t,rfl⟩:=r
    obtain⟨t',rfl⟩:=r'
    obtain⟨t'',rfl⟩:=r''
    exact PySem.call_range_3 (by omega) (rX I1 q1 q2 q3 q4 q5 q) (Or.inl (PyProof.noPylong_small (by omega)))
def rngS:List D→R (List D)
 | [.int i,.int j,.int k]=>if 0≤i∧i≤j∧j≤1000000∧0 < k∧k≤1000000 then .ok ((List.range ((j - i+k - 1)/k).toNat).map fun n:Nat=>.int (i+k*(n:Nat))) else .stuck
 | _=>.stuck
def iRange3 (gs:SS→R (List D)):SS→R (List D):=fun S=>(gs S).bind rngS
theorem lb {K:PySem.W.Frag}{C:Nat→Addr}{Z:Hp}(lo c:Int):∀ (l:List Nat),Reps K C Z (l.map fun i=>.int (lo+c*(i:Nat))) (l.map fun i=>.int (lo+c*(i:Nat)))
 | []=>Reps.nil
 | a::r=>Reps.cons (by rw[Rep]) (lb lo c r)
theorem nC {lo c:Int}{n:Nat}{Z:Hp}:Walk (Itr3 lo c n) ((List.range n).map fun i=>.int (lo+c*(i:Nat))) (Same Z):=fun i H hz=>by
 refine⟨fun hi=>?_,fun hi=>?_⟩
 ·have hi':i < n:=by simpa using hi
  exact⟨hi',fun x H' ⟨e,y⟩=>⟨e,by rw[y];simp[hi']⟩⟩
 ·show n≤i
  simpa using hi
theorem o9 {K:PySem.W.Frag}{C:Nat→Addr}{Z:Hp}{i j k:Int}{vs:List V}(r:Reps K C Z [.int i,.int j,.int k] vs):vs=[.int i,.int j,.int k]:=by
 rw[Reps]at r
 obtain⟨v,r',rfl,h1,h2⟩:=r
 rw[Rep]at h1
 rw[h1,m5 h2]
theorem lc {a b c:Expr}{p pos:Pos}(hg:Gl X "range")(hm:X.mg "range"=none)(ha:FA X F [a,b,c] gs)(hs:starEach [a,b,c] X.env=[(false,eval a X.env),(false,eval b X.env),(false,eval c X.env)]:=by rfl)(hs2:starEach [b,c] X.env=[(false,eval b X.env),(false,eval c X.env)]:=by rfl) :
  FI X F tg (.Call (.Name "range" p) [a,b,c] [] pos) (iRange3 gs) :=
 (rY hg hm ha hs hs2).weak fun σ H Q ⟨Z,S,ok,w⟩=>aO ok w fun ds vs H1 Z1 ok1 x1 rs w1=>by
  unfold rngS at w1
  split at w1
  ·rename_i i j k
   split at w1
   ·rename_i q
    have d:(j - i+k - 1)/k≤j - i+k - 1:=Int.ediv_le_self _ (by omega)
    exact⟨i,j,k,o9 rs,⟨q.1,q.2.1,by omega,by omega,by omega⟩,WG.now w1 ok1.sub _ (fO (lb i k _) nC) (by rw[List.length_map,List.length_range];omega)⟩
   ·exact w1.elim
  ·exact w1.elim
theorem xD {e:Expr}{gs:List (SS→R D)}(h:FI X F tg e (iRange3 (aL gs))):FI X F tg e (eBA rngS gs):=qf h fun S=>bF S gs rngS
end
end FF
end
noncomputable section
namespace FF
open PySem PySem.Spec PyProof.Rows L2
section
variable {prog:Program}{w:World}{A:Around}{E:Value→Shared→Prop}{R:Result→Shared→Prop}{h₀:Heap}{l I S:Addr}{its:List Value}{ks:Nat→List Int}{s0:Shared}
abbrev lexB (ks:Nat→List Int):Nat→Nat→Bool:=fun i j=>HT.lexLt (ks i) (ks j)
theorem rZ (hh:A.handled=none)(hu:A.units+1 < cLine)(hl:h₀.IsList l its.toArray)(hlI:l≠I)(hSI:S≠I)(hI:h₀.get? I=none)(hS:h₀.get? S=none)
  (ht:∀ i v,its[i]?=some v→∃ a arr,v=.ref a∧IsTup h₀ a arr∧IntsAre arr.toList (ks i))
  (hR:∀ v h' tk',its[argBest (lexB ks) (its.length - 1)]?=some v→(∀ b o,h₀.get? b=some o→h'.get? b=some o)→R (.ok (.ret v)) { s0 with heap:=h',toks:=tk' }) :
  ∀ (r j:Nat) (h:Heap) (tk:Nat) (vb:Value) (c:Nat),its.length - (j+1)=r→j+1≤its.length→(∀ b o,h₀.get? b=some o→h.get? b=some o)→h.get? S=some (seqObj "list" #[vb,vb] c)→h.IsListIter I l (j+1) →
   its[argBest (lexB ks) j]?=some vb→codeAny (model prog w) A (.builtin "min.loop" ⟨[.ref I,.none,.ref S],[]⟩) R { s0 with heap:=h,toks:=tk }:=by
 have nm:(toString "min" ++ toString ".loop":String)="min.loop" := by decide
 have W:=Walks.list (prog:=prog) (w:=w) (A:=A.in1) hh I l hlI its.toArray
 have hz:its.toArray.size=its.length:=List.size_toArray ..
 have up:∀ {h:Heap} {a:Addr} {arr:Array Value},(∀ b o,h₀.get? b=some o→h.get? b=some o)→IsTup h₀ a arr→IsTup h a arr:=fun k ⟨o,e,c,d⟩=>⟨o,k _ _ e,c,d⟩
 have nI:∀ b o,h₀.get? b=some o→b∉[I]:=fun b o e q=>by rw[List.mem_singleton.mp q,hI]at e;cases e
 have nS:∀ b o,h₀.get? b=some o→b≠S:=fun b o e q=>by rw[q,hS]at e;cases e
 intro r
 induction r with
 | zero =>
  intro j h tk vb c hr hj k hb hit hv
  have hjn:j=its.length - 1:=by omega
  refine codeAny_builtin PySem.F.entry_min_loop ?_
  rw[Around.under_plainId PySem.F.plain_min_loop _]
  show wpAny _ A.in1 (seqItems? (.ref S) >>= _) _ _ _
  refine wpAny_bind (wpAny_seqItems hb rfl ?_)
  show wpAny _ A.in1 (tryCatch (pyNext (.ref I)) _ >>= _) _ _ _
  refine wpAny_bind (wpAny_tryCatch (W.done _ _ _ ⟨by rw[hz,show its.length=j+1 by omega];exact hit,k _ _ hl.choose_spec.1 |> fun e=>⟨_,e,hl.choose_spec.2⟩⟩ fun h' tk' hk'=>?_))
  have hb':=hk' S _ (by simpa using hSI) hb
  show wpAny _ A.in1 (updateSeq S (fun _=>#[]) >>= _) _ _ _
  refine wpAny_bind ?_
  refine wpAny_updateSeq hb' rfl (wpAny_bind (wpAny_letGo (wpAny_pure ?_)))
  refine hR vb _ _ (by rw[← hjn];exact hv) fun b o e=>?_
  rw[(Heap.SameBut.update h' S _).2 b (nS b o e)]
  exact hk' b o (nI b o e) (k b o e)
 | succ r ih =>
  intro j h tk vb c hr hj k hb hit hv
  have hlt:j+1 < its.length:=by omega
  refine codeAny_builtin PySem.F.entry_min_loop ?_
  rw[Around.under_plainId PySem.F.plain_min_loop _]
  show wpAny _ A.in1 (seqItems? (.ref S) >>= _) _ _ _
  refine wpAny_bind (wpAny_seqItems hb rfl ?_)
  show wpAny _ A.in1 (tryCatch (pyNext (.ref I)) _ >>= _) _ _ _
  refine wpAny_bind (wpAny_tryCatch (W.item (j+1) _ _ _ (by rw[hz];exact hlt) ⟨hit,⟨_,k _ _ hl.choose_spec.1,hl.choose_spec.2⟩⟩ fun v h' tk' hP hst' hk'=>?_))
  have hv':its[j+1]?=some v:=by simpa using hP
  have hb':=hk' S _ (by simpa using hSI) hb
  have k':∀ b o,h₀.get? b=some o→h'.get? b=some o:=fun b o e=>hk' b o (nI b o e) (k b o e)
  obtain⟨a1,r1,rfl,t1,i1⟩:=ht _ _ hv'
  obtain⟨a2,r2,rfl,t2,i2⟩:=ht _ _ hv
  refine wpAny_bind (wpAny_pure ?_)
  show wpAny _ A.in1 (tryCatch (holding [.ref a1,.ref a1] (richCompare .Lt (.ref a1) (.ref a2) >>= _)) _ >>= _) _ _ _
  refine wpAny_bind (wpAny_tryCatch (wpAny_holding (wpAny_bind (HT.oH (up k' t1) (up k' t2) i1 i2 hu ?_))))
  refine wpAny_bind (wpAny_holding (wpAny_truthy_bool ?_))
  refine wpAny_bind (wpAny_letGo (wpAny_pure ?_))
  have ab:argBest (lexB ks) (j+1)=if lexB ks (j+1) (argBest (lexB ks) j)=true then j+1 else argBest (lexB ks) j:=rfl
  by_cases hc:HT.lexLt (ks (j+1)) (ks (argBest (lexB ks) j))=true
  ·simp only[hc,if_true]
   refine wpAny_bind ?_
   refine wpAny_updateSeq hb' rfl (wpAny_bind (wpAny_letGo ?_))
   rw[nm]
   have sb:=Heap.SameBut.update h' S (Obj.mapSeq fun _=>#[Value.ref a1,.ref a1])
   obtain⟨oI,e1,e2,e3⟩:=id hst'.1
   refine wpAny_pure ⟨plainId_quiet PySem.F.plain_min_loop _,ih (j+1) _ _ (.ref a1) _ (by omega) hlt (fun b o e=>?_) (get?_update_seq hb' fun _=>#[Value.ref a1,.ref a1]) ⟨oI,(sb.2 I (Ne.symm hSI)).trans e1,e2,e3⟩ ?_⟩
   ·rw[sb.2 b (nS b o e)];exact k' b o e
   ·rw[ab,if_pos hc];exact hv'
  ·have hc':HT.lexLt (ks (j+1)) (ks (argBest (lexB ks) j))=false:=Bool.not_eq_true _ ▸ hc
   simp only[hc',Bool.false_eq_true,if_false]
   refine wpAny_bind (wpAny_letGo ?_)
   rw[nm]
   refine wpAny_pure ⟨plainId_quiet PySem.F.plain_min_loop _,ih (j+1) _ _ (.ref a2) _ (by omega) hlt k' hb' hst'.1 ?_⟩
   rw[ab,if_neg hc];exact hv
theorem pb {s:Shared}{Q:Value→Shared→Prop}(hh:A.handled=none)(hu:A.units+1 < cLine)(hl:s.heap.IsList l its.toArray)(hne:0 < its.length)
  (ht:∀ i v,its[i]?=some v→∃ a arr,v=.ref a∧IsTup s.heap a arr∧IntsAre arr.toList (ks i))
  (hQ:∀ v h' tk',its[argBest (lexB ks) (its.length - 1)]?=some v→(∀ b o,s.heap.get? b=some o→h'.get? b=some o)→Q v { s with heap:=h',toks:=tk' }) :
  wpAny (model prog w) A (call (.builtin "min") [.ref l]) Q E s:=by
 have nm:(toString "min" ++ toString ".loop":String)="min.loop" := by decide
 obtain⟨ol,hol,_⟩:=id hl
 have hll:l < s.heap.objs.size:=Heap.lt_size hol
 refine call_function_tree PySem.F.kind_min PySem.F.plain_min PySem.F.entry_min (PySem.F.args_min1 _) ?_
 show wpAny _ A.in1 (Builtin.Builtins.bindParams "min" ["key","default"] 0 ⟨[],[]⟩ >>= _) _ _ s
 refine wpAny_bind (wpAny_of_eq (show Builtin.Builtins.bindParams "min" ["key","default"] 0 ⟨[],[]⟩=pure [none,none] from rfl) ?_)
 refine wpAny_bind (wpAny_pure ?_)
 refine wpAny_bind (wpAny_pyIter_list hl ?_)
 refine wpAny_bind (wpAny_newList ?_ (Nat.zero_le _))
 rw[nm]
 refine wpAny_pure ⟨plainId_quiet PySem.F.plain_min_loop _,?_⟩
 have hS:(s.heap.push { cls:=.type "list_iterator",data:=.fields #[.ref l,.int 0 0] }).objs.size=s.heap.objs.size+1:=size_push' ..
 have hlI:l≠s.heap.objs.size:=Nat.ne_of_lt hll
 have hSI:(s.heap.push { cls:=.type "list_iterator",data:=.fields #[.ref l,.int 0 0] }).objs.size≠s.heap.objs.size:=by rw[hS];exact Nat.succ_ne_self _
 have gI:((s.heap.push { cls:=.type "list_iterator",data:=.fields #[.ref l,.int 0 0] }).push (seqObj "list" #[] 0)).get? s.heap.objs.size=some { cls:=.type "list_iterator",data:=.fields #[.ref l,.int 0 0] }:=Heap.get?_push_of_some _ (Heap.get?_push_size _ rfl)
 have gS:((s.heap.push { cls:=.type "list_iterator",data:=.fields #[.ref l,.int 0 0] }).push (seqObj "list" #[] 0)).get? (s.heap.push { cls:=.type "list_iterator",data:=.fields #[.ref l,.int 0 0] }).objs.size=some (seqObj "list" #[] 0):=Heap.get?_push_size _ rfl
 have k0:∀ b o,s.heap.get? b=some o→((s.heap.push { cls:=.type "list_iterator",data:=.fields #[.ref l,.int 0 0] }).push (seqObj "list" #[] 0)).get? b=some o:=fun b o e=>Heap.get?_push_of_some _ (Heap.get?_push_of_some _ e)
 generalize (s.heap.push { cls:=.type "list_iterator",data:=.fields #[.ref l,.int 0 0] }).objs.size=S at *
 generalize (s.heap.push { cls:=.type "list_iterator",data:=.fields #[.ref l,.int 0 0] }).push (seqObj "list" #[] 0)=h1 at *
 have zI:s.heap.get? s.heap.objs.size=none:=Heap.get?_none_of_le (Nat.le_refl _)
 have zS:s.heap.get? S=none:=Heap.get?_none_of_le (by rw[hS];exact Nat.le_succ _)
 have W:=Walks.list (prog:=prog) (w:=w) (A:=A.in1) hh s.heap.objs.size l hlI its.toArray
 have hz:its.toArray.size=its.length:=List.size_toArray ..
 have nI:∀ b o,s.heap.get? b=some o→b∉[s.heap.objs.size]:=fun b o e q=>by rw[List.mem_singleton.mp q,zI]at e;cases e
 have nS:∀ b o,s.heap.get? b=some o→b≠S:=fun b o e q=>by rw[q,zS]at e;cases e
 refine codeAny_builtin PySem.F.entry_min_loop ?_
 rw[Around.under_plainId PySem.F.plain_min_loop _]
 show wpAny _ A.in1 (seqItems? (.ref S) >>= _) _ _ _
 refine wpAny_bind (wpAny_seqItems gS rfl ?_)
 show wpAny _ A.in1 (tryCatch (pyNext (.ref s.heap.objs.size)) _ >>= _) _ _ _
 refine wpAny_bind (wpAny_tryCatch (W.item 0 _ _ _ (by rw[hz];exact hne) ⟨⟨_,gI,rfl,rfl⟩,⟨_,k0 _ _ hl.choose_spec.1,hl.choose_spec.2⟩⟩ fun v h' tk' hP hst' hk'=>?_))
 have hv':its[0]?=some v:=by simpa using hP
 have gS':=hk' S _ (by simpa using hSI) gS
 refine wpAny_bind (wpAny_pure ?_)
 refine wpAny_bind ?_
 refine wpAny_updateSeq gS' rfl ?_
 rw[nm]
 have sb:=Heap.SameBut.update h' S (Obj.mapSeq fun _=>#[v,v])
 obtain⟨oI,e1,e2,e3⟩:=id hst'.1
 refine wpAny_pure ⟨plainId_quiet PySem.F.plain_min_loop _,rZ (h₀:=s.heap) (s0:=s) hh hu hl hlI hSI zI zS ht (fun v' h2 tk2 a b=>hQ v' h2 tk2 a b) _ 0 _ _ v _ rfl hne (fun b o e=>?_) (get?_update_seq gS' fun _=>#[v,v]) ⟨oI,(sb.2 _ (Ne.symm hSI)).trans e1,e2,e3⟩ hv'⟩
 rw[sb.2 b (nS b o e)]
 exact hk' b o (nI b o e) (k0 b o e)
end
def lexI:List Int→List Int→Bool
 | [],[]=>false
 | [],_::_=>true
 | _::_,[]=>false
 | a::r,b::t=>if a=b then lexI r t else decide (a < b)
theorem qq:∀ a b:List Int,lexI a b=HT.lexLt a b:=by
 intro a
 induction a with
 | nil=>intro b;cases b<;>simp[lexI,HT.lexLt]
 | cons x r ih=>intro b;cases b<;>simp[lexI,HT.lexLt,ih]
def tupI?:D→Option (List Int)
 | .tup ds=>intsOf ds
 | _=>none
def minT (b:D)(k:List Int):List D→R D
 | []=>.ok b
 | x::r=>match tupI? x with
  | some q=>if lexI q k=true then minT x q r else minT b k r
  | none=>.stuck
def dMinT:List D→R D
 | [.lst (x::r)]=>match tupI? x with
  | some k=>minT x k r
  | none=>.stuck
 | _=>.stuck
theorem gU {ds:List D}{ks:Nat→List Int}:∀ (m j:Nat) (d b:D),ds.length - (j+1)=m→j+1≤ds.length→ds[argBest (lexB ks) j]?=some b→(∀ i x,ds[i]?=some x→i≤j→tupI? x=some (ks i))→(∀ i x q,ds[i]?=some x→tupI? x=some q→ks i=q) →
  minT b (ks (argBest (lexB ks) j)) (ds.drop (j+1))=.ok d→ds[argBest (lexB ks) (ds.length - 1)]?=some d∧∀ i x,ds[i]?=some x→tupI? x=some (ks i)
 | 0,j,d,b,hm,hj,hb,hk,hq,h=>by
  rw[List.drop_eq_nil_of_le (by omega)]at h
  cases h
  rw[show ds.length - 1=j by omega]
  exact⟨hb,fun i x e=>hk i x e (by have:=(List.getElem?_eq_some_iff.mp e).1;omega)⟩
 | m+1,j,d,b,hm,hj,hb,hk,hq,h=>by
  have hlt:j+1 < ds.length:=by omega
  rw[List.drop_eq_getElem_cons hlt,minT]at h
  have e1:ds[j+1]?=some ds[j+1]:=List.getElem?_eq_getElem hlt
  have ab:argBest (lexB ks) (j+1)=if lexB ks (j+1) (argBest (lexB ks) j)=true then j+1 else argBest (lexB ks) j:=rfl
  cases q:tupI? ds[j+1] with
  | none=>rw[q]at h;cases h
  | some k =>
   rw[q]at h
   have ek:=hq _ _ _ e1 q
   have hk':∀ i x,ds[i]?=some x→i≤j+1→tupI? x=some (ks i):=fun i x e hi=>by
    by_cases z:i=j+1
    ·subst z;rw[e1]at e;cases e;rw[ek];exact q
    ·exact hk i x e (by omega)
   have h':(if lexI k (ks (argBest (lexB ks) j))=true then minT ds[j+1] k (ds.drop (j+1+1)) else minT b (ks (argBest (lexB ks) j)) (ds.drop (j+1+1)))=.ok d:=h
   by_cases c:HT.lexLt (ks (j+1)) (ks (argBest (lexB ks) j))=true
   ·rw[qq,← ek,if_pos c]at h'
    exact gU m (j+1) d _ (by omega) hlt (by rw[ab,if_pos c];exact e1) hk' hq (by rw[ab,if_pos c];exact h')
   ·rw[qq,← ek,if_neg c]at h'
    exact gU m (j+1) d _ (by omega) hlt (by rw[ab,if_neg c];exact hb) hk' hq (by rw[ab,if_neg c];exact h')
theorem l3:∀ (r:List D) (b:D) (k:List Int) (e:Nat),minT b k r=.err e→False
 | [],b,k,e,h=>nomatch h
 | x::r,b,k,e,h=>by
  rw[minT]at h
  split at h
  ·split at h
   ·exact l3 r _ _ e h
   ·exact l3 r _ _ e h
  ·cases h
section
variable {X:Cx}{F:Fx}{p pos:Pos}{e:Expr}{gs:SS→R (List D)}{k:Nat}
theorem r6 (hc:X.calm=true)(hu:X.A.units+1 < cLine):CallR X (.builtin "min") (fun xs H Q=>∃ (p:Addr) (vs:List V) (ks:Nat→List Int),xs=[.ref p]∧SqL X.K H p vs∧0 < vs.length ∧
  (∀ (i:Nat) v,vs[i]?=some v→∃ a,v=.ref a∧SqT X.K H a ((ks i).map V.int))∧∀ v,vs[argBest (lexB ks) (vs.length - 1)]?=some v→Q v H):=by
 intro pins s σ H xs us Q I r h
 obtain⟨p,vs,ks,rfl,hq,hne,ht,q⟩:=h
 obtain⟨u,rfl,ru⟩:=vals1 r
 cases ru
 obtain⟨its,rv,pl,hz⟩:=I.list hq
 have hl:=rv.length
 have back:∀ (i:Nat) u,its[i]?=some u→∃ v,vs[i]?=some v∧RelV v u:=fun i u e=>by
  cases e':vs[i]? with
  | none=>rw[Vals.none_of rv e']at e;cases e
  | some v =>
   obtain⟨u',e1,r1⟩:=rv.get e'
   rw[e]at e1;cases e1
   exact⟨v,rfl,r1⟩
 refine pb (ks:=ks) (I.ok.hd hc) hu pl.isList (by omega) (fun i u e=>?_) fun u h' tk' e kk=>?_
 ·obtain⟨v,e1,r1⟩:=back i u e
  obtain⟨a,rfl,hT⟩:=ht i v e1
  cases r1
  obtain⟨ts,r2,p2,_⟩:=I.tuple hT
  exact⟨a,ts.toArray,rfl,p2,by simpa using oM r2⟩
 ·obtain⟨v,e1,r1⟩:=back _ u e
  rw[← hl]at e1
  exact⟨v,H,I.kept fun b o e=>kk b o e,r1,q v e1⟩
theorem wB (bx:BX X F k)(hg:Gl X "min")(hm:X.mg "min"=none)(ha:FA X F [e] gs)(he:starEach [e] X.env=(false,eval e X.env)::starEach [] X.env:=by rfl)(hpl:(backTo pos (starEach [] X.env)).any (·.1)=false:=by rfl) :
  FE X F (.Call (.Name "min" p) [e] [] pos) (eCall dMinT gs) :=
 (dN (r6 bx.calm (by have:=bx.room.un;omega)) hg hm (by decide +kernel) ha (he:=he) (hpl:=hpl)).weak fun σ H Q ⟨Z,S,ok,w⟩=>by
  refine aO ok w fun ds vs H1 Z1 ok1 x1 rs w1=>?_
  unfold dMinT at w1
  split at w1
  ·rename_i x r
   split at w1
   ·rename_i k0 e0
    obtain⟨v,rfl,h⟩:=aZ rs
    rw[Rep]at h
    obtain⟨a,us,rfl,h1,h2⟩:=h
    cases em:minT x k0 r with
    | err z=>exact(l3 _ _ _ _ em).elim
    | stuck=>rw[em]at w1;exact w1.elim
    | ok d =>
     rw[em]at w1
     obtain⟨ks,hks⟩:∃ ks:Nat→List Int,ks=fun i=>(((x::r)[i]?).bind tupI?).getD []:=⟨_,rfl⟩
     have hq:∀ i y q,(x::r)[i]?=some y→tupI? y=some q→ks i=q:=fun i y q e1 e2=>by rw[hks];simp only[e1,Option.bind_some,e2,Option.getD_some]
     have k00:ks 0=k0:=hq 0 x k0 rfl e0
     have hlen:=h2.length
     obtain⟨b1,b2⟩:=gU (ds:=x::r) (ks:=ks) _ 0 d x rfl (by simp) rfl (fun i y e1 hi=>by
      have:i=0:=by omega
      subst this
      cases e1
      rw[k00];exact e0) hq (by rw[show ks (argBest (lexB ks) 0)=k0 from k00];exact em)
     refine⟨a,us,ks,rfl,by rw[bx.K];exact ok1.sub.seq h1,by rw[← hlen];simp,fun i u e1=>?_,fun u e1=>?_⟩
     ·obtain⟨dx,e2,r2⟩:=h2.get' e1
      have e3:=b2 i dx e2
      cases dx with
      | tup ts =>
       rw[Rep]at r2
       obtain⟨a2,us2,rfl,g1,g2⟩:=r2
       have:=a6 g2 e3
       subst this
       exact⟨a2,rfl,by rw[bx.K];exact g1.mono ok1.sub⟩
      | _=>cases e3
     ·rw[← hlen]at e1
      obtain⟨u',e2,r2⟩:=h2.get b1
      rw[e2]at e1;cases e1
      exact WG.now w1 ok1.sub _ r2
   ·exact w1.elim
  ·exact w1.elim
end
end FF
end
noncomputable section
namespace FF
open PySem PySem.Spec PyProof.Rows L2
def dMaxT:List D→R D
 | [.tup xs]=>match intsOf xs with
  | some (a::is)=>.ok (.int (maxI a is))
  | _=>.stuck
 | _=>.stuck
section
variable {X:Cx}{F:Fx}{p pos:Pos}{e:Expr}{gs:SS→R (List D)}{k:Nat}
theorem l4 (hc:X.calm=true):CallR X (.builtin "max") (fun xs H Q=>∃ (p:Addr) (a:Int) (is:List Int),xs=[.ref p]∧SqT X.K H p ((a::is).map V.int)∧Q (.int (maxI a is)) H):=by
 intro pins s σ H xs us Q I r h
 obtain⟨p,a,is,rfl,hq,q⟩:=h
 obtain⟨u,rfl,ru⟩:=vals1 r
 cases ru
 obtain⟨its,rv,pl,hz⟩:=I.tuple hq
 obtain⟨ps,rfl,e⟩:=aU rv
 obtain⟨e0,e1⟩:=fk ps a is e
 have hl:ps.length=is.length+1:=by have:=congrArg List.length e;simpa using this
 have hil:s.heap.IsTuple p (intItems ps.toArray):=by
  have pl':s.heap.IsTuple p (ps.map fun p=>Value.int p.1 p.2).toArray:=pl
  unfold intItems
  simpa using pl'
 have hlt:p < s.heap.objs.size:=by obtain⟨_,e,_⟩:=hil;exact Heap.lt_size e
 have hsz:(intItems ps.toArray).size=ps.toArray.size:=by simp[intItems]
 refine call_max_walk (wpAny_pyIter_tuple hil ?_)
 refine⟨_,_,_,_,_,_,_,rfl,Walks.tuple (A:=X.A.in1) (I.ok.hd hc) s.heap.objs.size p (Nat.ne_of_lt hlt) (intItems ps.toArray),⟨⟨_,Heap.get?_push_size _ rfl,rfl,rfl⟩,hil.push _⟩,fun b hb=>?_,by rw[hsz];simp[hl],CmpOf.ints_gt (numAt ps.toArray) (fun _ _=>intItems_at),fun v h' tk hP hk=>?_⟩
 ·show b < (s.heap.push _).objs.size
  rw[Heap.size_push]
  rcases List.mem_cons.mp hb with rfl | hb
  ·exact Nat.lt_succ_self _
  ·rcases List.mem_cons.mp hb with rfl | hb
   ·exact Nat.lt_succ_of_lt hlt
   ·cases hb
 ·obtain⟨t,rfl⟩:=intItems_at hP
  have em:numAt ps.toArray (argBest (fun i j=>decide (numAt ps.toArray i > numAt ps.toArray j)) (ps.toArray.size - 1))=maxI a is:=by
   rw[jq (numAt ps.toArray),e0,List.size_toArray,e1]
  rw[hsz,em]
  exact⟨.int (maxI a is),H,I.kept (rE hk),⟨t,rfl⟩,q⟩
theorem wC (bx:BX X F k)(hg:Gl X "max")(hm:X.mg "max"=none)(ha:FA X F [e] gs)(he:starEach [e] X.env=(false,eval e X.env)::starEach [] X.env:=by rfl)(hpl:(backTo pos (starEach [] X.env)).any (·.1)=false:=by rfl) :
  FE X F (.Call (.Name "max" p) [e] [] pos) (eCall dMaxT gs) :=
 (dN (l4 bx.calm) hg hm (by decide +kernel) ha (he:=he) (hpl:=hpl)).weak fun σ H Q ⟨Z,S,ok,w⟩=>by
  refine aO ok w fun ds vs H1 Z1 ok1 x1 rs w1=>?_
  unfold dMaxT at w1
  split at w1
  ·rename_i xs
   split at w1
   ·rename_i a is e
    obtain⟨v,rfl,h⟩:=aZ rs
    rw[Rep]at h
    obtain⟨b,us,rfl,h1,h2⟩:=h
    have e2:=a6 h2 e
    subst e2
    exact⟨b,a,is,rfl,by rw[bx.K];exact h1.mono ok1.sub,WG.now w1 ok1.sub _ aE⟩
   ·exact w1.elim
  ·exact w1.elim
end
end FF
end
noncomputable section
namespace Lw
open PySem FF
def esL:List Nat:=[1,2,5]
namespace F
abbrev az:Nat:=20
abbrev ao:Nat:=21
abbrev aL:Nat:=22
abbrev ay:Nat:=23
abbrev au:Nat:=24
abbrev ak:Nat:=25
abbrev ap:Nat:=26
abbrev aA:Nat:=43
abbrev aH:Nat:=93
abbrev aI:Nat:=27
abbrev ab:Nat:=28
abbrev aM:Nat:=45
abbrev aD:Nat:=49
abbrev av:Nat:=50
abbrev aJ:Nat:=29
abbrev ax:Nat:=154
abbrev a0:Nat:=96
abbrev al:Nat:=69
abbrev aN:Nat:=70
abbrev aW:Nat:=125
abbrev aP:Nat:=84
abbrev aK:Nat:=127
abbrev aR:Nat:=128
abbrev aE:Nat:=72
abbrev aQ:Nat:=75
abbrev aw:Nat:=292
abbrev ah:Nat:=293
abbrev af:Nat:=294
abbrev ac:Nat:=295
abbrev ai:Nat:=296
abbrev aj:Nat:=297
abbrev aX:Nat:=30
abbrev aa:Nat:=31
abbrev aq:Nat:=32
abbrev aF:Nat:=33
abbrev ar:Nat:=54
abbrev aS:Nat:=55
abbrev aO:Nat:=56
abbrev aY:Nat:=57
abbrev aB:Nat:=34
abbrev aV:Nat:=35
abbrev aT:Nat:=36
abbrev ae:Nat:=37
abbrev ag:Nat:=39
abbrev an:Nat:=38
abbrev aC:Nat:=40
abbrev ad:Nat:=298
abbrev aU:Nat:=299
abbrev aZ:Nat:=300
abbrev aG:Nat:=301
end F
def fvL:List Nat:=[21,293,294,295]
def b6:List (Str×Nat):=[("most",F.ah),("least",F.af),("greatest",F.ac)]
def fo (t:Nat→List D→R D)(thing:D):L Unit :=
 lB (vAnd (dIsA qInt thing) (vNot (dIsA qBool thing))) .rt
def dc (t:Nat→List D→R D)(thing:D):L Unit :=
 lB (vAnd (t F.az [thing]) (rCh dLe dLe (.int 0) thing (.ok (.int 9)))) .rt
def eT (t:Nat→List D→R D)(thing:D):L Unit :=
 lB (vAnd (t F.az [thing]) (rCh dLe dLe (.int 0) thing (.ok (.int 3)))) .rt
def cP (t:Nat→List D→R D)(size_:D)(thing:D)(is_end:D):L Unit :=
 lS (lB (σ:=Unit) (rNot (asB (dIsA qTup thing))) fun b=>if b=true then lB (onF fvL is_end fun i=>t i [thing]) .rt else .nx ()) fun _ =>
 lS (lB (σ:=Unit) (rOr (asB (dEq size_ (.int 0))) (asB ((dLen [thing]).bind fun x=>dNf x (.int 4)))) fun b1=>if b1=true then .rt (.bl false) else .nx ()) fun _ =>
 lB (((sq thing).bind fun xs=>cMap (fun part=>(dSub size_ (.int 1)).bind fun x1=>t F.ay [x1,part,is_end]) xs).bind fun x2=>dAll [x2]) .rt
def bt (t:Nat→List D→R D)(thing:D)(is_end:D):L Unit :=
 lS (lB (σ:=Unit) (rOr (rNot (asB (dIsA qTup thing))) (asB ((dLen [thing]).bind fun x=>dNf x (.int 2)))) fun b=>if b=true then .rt (.bl false) else .nx ()) fun _ =>
 lB (vAnd ((dIx thing (.int 0)).bind fun x3=>t F.aL [x3]) ((dIx thing (.int 0)).bind fun x1=>(dIx thing (.int 1)).bind fun x2=>t F.ay [x1,x2,is_end])) .rt
def bG (t:Nat→List D→R D)(four:D):L Unit :=
 lB (dIx four (.int 0)) fun first =>
 lS (lB (σ:=Unit) (rAnd (rNot (asB (dIsA qTup first))) (asB (dEq four (.tup [first,first,first,first])))) fun b=>if b=true then .rt first else .nx ()) fun _ =>
 .rt four
def bT (t:Nat→List D→R D)(tree_:D):L Unit :=
 lS (lB (σ:=Unit) (rNot (asB (dIsA qTup tree_))) fun b=>if b=true then .rt tree_ else .nx ()) fun _ =>
 lB ((((sq tree_).bind fun xs=>cMap (fun part=>t F.ap [part]) xs).bind fun x=>dTuple [x]).bind fun x1=>t F.ak [x1]) .rt
def cp (t:Nat→List D→R D)(tree_:D)(side:D)(x:D)(y:D):L Unit :=
 lS (lB (σ:=Unit) (rNot (asB (dIsA qTup tree_))) fun b=>if b=true then .rt tree_ else .nx ()) fun _ =>
 lB (dDiv side (.int 2)) fun half =>
 lB (((dDiv y half).bind fun x1=>dMul (.int 2) x1).bind fun x2=>(dDiv x half).bind fun x3=>dAdd x2 x3) fun number =>
 lB ((dIx tree_ number).bind fun x4=>(dMod x half).bind fun x5=>(dMod y half).bind fun x6=>t F.aA [x4,half,x5,x6]) .rt
def cq (t:Nat→List D→R D)(tree_:D):L Unit :=
 lS (lB (σ:=Unit) (rNot (asB (dIsA qTup tree_))) fun b=>if b=true then .rt (.int 0) else .nx ()) fun _ =>
 lB ((((sq tree_).bind fun xs=>cMap (fun part=>t F.aH [part]) xs).bind fun x=>dMaxL [x]).bind fun x1=>dAdd (.int 1) x1) .rt
def b7 (t:Nat→List D→R D)(thing:D):L Unit :=
 lB (t F.au [thing,(.fn F.ao)]) .rt
def bu (t:Nat→List D→R D)(thing:D):L Unit :=
 lB (rNot (asB (t F.aI [thing]))) fun b=>if b=true then .er 1 else .nx ()
def eU (t:Nat→List D→R D)(picture:D):L Unit :=
 lB ((dIx picture (.int 0)).bind fun x=>dIx (tupI [1,2,4,8]) x) .rt
def cB (t:Nat→List D→R D)(picture:D)(y:D):L Unit :=
 lB (t F.aM [picture]) fun side =>
 lB (((rng1 [side]).bind fun xs=>cMap (fun x=>(dIx picture (.int 1)).bind fun x1=>t F.aA [x1,side,x,y]) xs).bind fun x2=>dTuple [x2]) .rt
def b8 (t:Nat→List D→R D)(picture:D):L Unit :=
 lB (t F.ab [picture]) fun _ =>
 lB ((((t F.aM [picture]).bind fun x=>rng1 [x]).bind fun xs=>cMap (fun y=>t F.aD [picture,y]) xs).bind fun x1=>dTuple [x1]) .rt
def ju (t:Nat→List D→R D)(picture:D):L Unit :=
 lB (t F.ab [picture]) fun _ =>
 lB ((dIx picture (.int 0)).bind fun x=>((dIx picture (.int 1)).bind fun x1=>t F.ap [x1]).bind fun x2=>.ok (.tup [x,x2])) .rt
def bo (t:Nat→List D→R D)(thing:D)(words:D):L Unit :=
 lB (asB (dNotInD thing words)) fun b=>if b=true then .er 5 else .nx ()
def l5 (t:Nat→List D→R D)(picture:D):L Unit :=
 lB (((t F.aJ [picture]).bind fun x=>dIx x (.int 1)).bind fun x1=>t F.aH [x1]) .rt
def bH (t:Nat→List D→R D)(tree_:D)(order:D):L Unit :=
 lS (lB (σ:=Unit) (rNot (asB (dIsA qTup tree_))) fun b=>if b=true then .rt tree_ else .nx ()) fun _ =>
 lB (((sq order).bind fun xs=>cMap (fun number=>(dIx tree_ number).bind fun x=>t F.al [x,order]) xs).bind fun x1=>dTuple [x1]) .rt
def iV (t:Nat→List D→R D)(picture:D)(order:D):L Unit :=
 lB (t F.aJ [picture]) fun shown =>
 lB ((dIx shown (.int 0)).bind fun x=>((dIx shown (.int 1)).bind fun x1=>t F.al [x1,order]).bind fun x2=>.ok (.tup [x,x2])) .rt
def fV (t:Nat→List D→R D)(picture:D):L Unit :=
 lB (t F.aN [picture,(tupI [2,0,3,1])]) .rt
def de (t:Nat→List D→R D)(picture:D):L Unit :=
 lB (t F.aN [picture,(tupI [1,0,3,2])]) .rt
def cC (t:Nat→List D→R D)(thing:D):L Unit :=
 lB (rOr (rNot (asB (t F.az [thing]))) (rNot (asB (rCh dLe dLt (.int 0) thing (.ok (.int 8)))))) fun b=>if b=true then .er 2 else .nx ()
def cD (t:Nat→List D→R D)(told:D)(step:D):L (D) :=
 lB (t F.aW [told]) fun told1 =>
 .nx told1
def fW (t:Nat→List D→R D)(picture:D)(way:D):L Unit :=
 lB (t F.aJ [picture]) fun told =>
 lB (t F.aK [way]) fun _ =>
 lS (lB (σ:=D) (asB (dGe way (.int 4))) fun b=>if b=true then lB (t F.aP [told]) fun told1 =>
 .nx told1 else .nx told) fun told2 =>
 lS (lB ((dMod way (.int 4)).bind fun x=>rng1 [x]) fun xs=>lFor (τ:=D) (fun s x=>cD t s x) xs told2) fun told4 =>
 .rt told4
def cr (t:Nat→List D→R D)(worths:List D)(row:D):L (List D) :=
 lB (oExt worths row) fun worths1 =>
 .nx worths1
def cE (t:Nat→List D→R D)(rows:D):L Unit :=
 lS (lB (sq rows) fun xs=>lFor (τ:=List D) (fun s x=>cr t s x) xs []) fun worths1 =>
 .rt (.lst worths1)
def fX (t:Nat→List D→R D)(picture:D):L Unit :=
 lB ((t F.av [picture]).bind fun x=>t F.aE [x]) fun worths =>
 lB ((((dAdd (.int 9) (.int 1)).bind fun x1=>rng1 [x1]).bind fun xs=>cMap (fun worth=>onL worths fun ls=>dCountI ls [worth]) xs).bind fun x2=>dTuple [x2]) .rt
def b9 (t:Nat→List D→R D)(many:D):L Unit :=
 lB ((dEnum many).bind fun xs=>cFil (fun p=>un2 p fun worth times=>(asB (dGt times (.int 0)))) (fun p=>un2 p fun worth times=>.ok worth) xs) .rt
def df (t:Nat→List D→R D)(many:D):L Unit :=
 lB (onS many fun ls=>(dMaxT [many]).bind fun x=>dIndexI ls [x]) .rt
def cF (t:Nat→List D→R D)(many:D):L Unit :=
 lB ((t F.aw [many]).bind fun x=>dIx x (.int 0)) .rt
def bI (t:Nat→List D→R D)(many:D):L Unit :=
 lB ((t F.aw [many]).bind fun x=>dIx x (.int (-1))) .rt
def bh (t:Nat→List D→R D)(size_:D)(tree_:D)(far:D)(choose:D):L Unit :=
 lS (lB (σ:=Unit) (rNot (asB (dIsA qTup tree_))) fun b=>if b=true then .rt tree_ else .nx ()) fun _ =>
 lS (lB (σ:=Unit) (asB (dEq far (.int 0))) fun b1=>if b1=true then lB (onF fvL choose fun i=>(t F.aQ [(.tup [size_,tree_])]).bind fun x=>t i [x]) .rt else .nx ()) fun _ =>
 lB ((((sq tree_).bind fun xs=>cMap (fun part=>(dSub size_ (.int 1)).bind fun x1=>(dSub far (.int 1)).bind fun x2=>t F.ai [x1,part,x2,choose]) xs).bind fun x3=>dTuple [x3]).bind fun x4=>t F.ak [x4]) .rt
def bD (t:Nat→List D→R D)(picture:D)(far:D)(rule:D):L Unit :=
 lB (t F.ax [rule,(tabK b6)]) fun _ =>
 lB (t F.aJ [picture]) fun told =>
 lB ((dIx told (.int 0)).bind fun x=>((dIx told (.int 0)).bind fun x1=>(dIx told (.int 1)).bind fun x2=>(dTab b6 rule).bind fun x3=>t F.ai [x1,x2,far,x3]).bind fun x4=>.ok (.tup [x,x4])) .rt
def fY (t:Nat→List D→R D)(zw:D)(zM:D):L Unit :=
 lS (lB (σ:=Unit) (asB ((dLen [zw]).bind fun x=>dLt zM x)) fun b=>if b=true then lB (dIx zw zM) .rt else .nx ()) fun _ =>
 lS (lB (σ:=Unit) (asB (dEq zw (.lst []))) fun b1=>if b1=true then .rt (.int 0) else .nx ()) fun _ =>
 lB (((((dLen [zw]).bind fun x1=>dMod zM x1).bind fun x2=>dIx zw x2).bind fun x3=>dMul x3 (.int 31)).bind fun x4=>dAdd x4 zM) .rt
def fZ (t:Nat→List D→R D)(zw:D)(zM:D)(zz:D):L Unit :=
 lB ((((t F.aX [zw,zM]).bind fun x=>((dAdd zM (.int 1)).bind fun x1=>dMul (.int 6151) x1).bind fun x2=>dAdd x x2).bind fun x3=>dMul x3 (.int 40692)).bind fun x4=>dMod x4 (.int 2147483399)) fun Ae =>
 lB ((((dMul Ae Ae).bind fun x5=>(dDiv Ae (.int 31)).bind fun x6=>dAdd x5 x6).bind fun x7=>dMod x7 (.int 2147483629)).bind fun x8=>dMod x8 zz) .rt
def dZ (t:Nat→List D→R D)(zw:D)(zQ:D)(zB:D):L Unit :=
 lB (t F.aa [zw,zQ,(.int 6)]) fun zX =>
 lS (lB (σ:=Unit) (rOr (asB (dEq zB (.int 0))) (asB (dLt zX (.int 2)))) fun b=>if b=true then lB ((((dAdd zQ (.int 1)).bind fun x=>t F.aa [zw,x,(.int 10)]).bind fun x1=>.ok (.lst [(.int 0),(.int 1),(.int 1),(.int 2),(.int 9),x1])).bind fun x2=>((dAdd zQ (.int 2)).bind fun x3=>t F.aa [zw,x3,(.int 6)]).bind fun x4=>dIx x2 x4) .rt else .nx ()) fun _ =>
 lS (lB (σ:=Unit) (asB (dEq zX (.int 2))) fun b1=>if b1=true then lB ((((dAdd zQ (.int 3)).bind fun x5=>(dSub zB (.int 1)).bind fun x6=>t F.aq [zw,x5,x6]).bind fun x7=>.ok (.tup [x7])).bind fun x8=>dMul x8 (.int 4)) .rt else .nx ()) fun _ =>
 lB (((rng1 [(.int 4)]).bind fun xs=>cMap (fun zM=>(((dMul (.int 5) zQ).bind fun x9=>dAdd x9 (.int 7)).bind fun x10=>(dMul (.int 11) zM).bind fun x11=>dAdd x10 x11).bind fun x12=>(dSub zB (.int 1)).bind fun x13=>t F.aq [zw,x12,x13]) xs).bind fun x14=>dTuple [x14]) .rt
def cG (t:Nat→List D→R D)(zw:D)(zQ:D)(Aq:D):L Unit :=
 lB ((((t F.aa [zw,zQ,(.int 7)]).bind fun x=>dIx (.lst [(.int 0),(.int 0),(.int 0),(.int 1),(.int 1),(.int 2),(.int 3)]) x).bind fun x1=>dSub Aq x1).bind fun x2=>dMax2 [(.int 0),x2]) fun zB =>
 lB (((dAdd zQ (.int 1)).bind fun x3=>t F.aq [zw,x3,zB]).bind fun x4=>.ok (.tup [zB,x4])) .rt
def cu (t:Nat→List D→R D)(zN:D)(zH:List D)(Ar:D):L (List D) :=
 lB (((((dIx zN Ar).bind fun x=>dLen [x]).bind fun x1=>rng1 [x1]).bind fun xs=>cMap (fun zM=>((dIx zN Ar).bind fun x2=>dIx x2 zM).bind fun x3=>(((dAdd Ar (.int 1)).bind fun x4=>dIx zN x4).bind fun x5=>dIx x5 zM).bind fun x6=>dAdd x3 x6) xs).bind fun x7=>oExt zH x7) fun zP =>
 .nx zP
def bU (t:Nat→List D→R D)(zB:D)(zF:D):L Unit :=
 lS (lB (σ:=Unit) (asB (dEq zB (.int 0))) fun b=>if b=true then .rt (.lst [(.lst [zF])]) else .nx ()) fun _ =>
 lB (rIf (asB (dIsA qTup zF)) (.ok zF) (dMul (.tup [zF]) (.int 4))) fun zK =>
 lB ((sq zK).bind fun xs=>cMap (fun zT=>(dSub zB (.int 1)).bind fun x=>t F.ar [x,zT]) xs) fun zN =>
 lS (lB (sq (.tup [(.int 0),(.int 2)])) fun xs2=>lFor (τ:=List D) (fun s x=>cu t zN s x) xs2 []) fun zP =>
 .rt (.lst zP)
def f8 (t:Nat→List D→R D)(zv:D):L Unit :=
 lB (((((dIx zv (.int 0)).bind fun x=>(dIx zv (.int 1)).bind fun x1=>t F.ar [x,x1]).bind fun x2=>sq x2).bind fun xs=>cMap (fun zR=>dTuple [zR]) xs).bind fun x3=>dTuple [x3]) .rt
def cc (t:Nat→List D→R D)(Ah:List D)(zR:D):L (List D) :=
 lB (oExt Ah zR) fun zG =>
 .nx zG
def dg (t:Nat→List D→R D)(zu:D)(zO:D)(Aa:D)(zK:List D)(Ac:D):L (List D) :=
 lB ((((((asI Aa).bind fun i=>((dAdd Aa zO).bind asI).bind fun i1=>dSw zu i i1).bind fun x=>sq x).bind fun xs=>cMap (fun zR=>(asI Ac).bind fun i2=>((dAdd Ac zO).bind asI).bind fun i3=>dSw zR i2 i3) xs).bind fun x1=>t F.aO [x1]).bind fun x2=>oApp zK x2) fun At =>
 .nx At
def dh (t:Nat→List D→R D)(zu:D)(zO:D)(zK:List D)(Aa:D):L (List D) :=
 lS (lB (sq (.tup [(.int 0),zO])) fun xs1=>lFor (τ:=List D) (fun s x=>dg t zu zO Aa s x) xs1 zK) fun Af =>
 .nx Af
def cQ (t:Nat→List D→R D)(zu:D):L Unit :=
 lS (lB (sq zu) fun xs=>lFor (τ:=List D) (fun s x=>cc t s x) xs []) fun zG =>
 lS (lB (σ:=Unit) (asB ((dLenSet [(.lst zG)]).bind fun x1=>dEq x1 (.int 1))) fun b=>if b=true then lB (dIx (.lst zG) (.int 0)) .rt else .nx ()) fun _ =>
 lB ((dLen [zu]).bind fun x2=>dDiv x2 (.int 2)) fun zO =>
 lS (lB (sq (.tup [(.int 0),zO])) fun xs3=>lFor (τ:=List D) (fun s x=>dh t zu zO s x) xs3 []) fun Af =>
 lB (dTuple [(.lst Af)]) .rt
def l6 (t:Nat→List D→R D)(zu:D):L Unit :=
 lB ((onL (.lst [(.int 1),(.int 2),(.int 4),(.int 8)]) fun ls=>(dLen [zu]).bind fun x=>dIndexI ls [x]).bind fun x1=>(t F.aO [zu]).bind fun x2=>.ok (.tup [x1,x2])) .rt
def cK (t:Nat→List D→R D)(zx:D)(zH:List D)(zM:D):L (List D) :=
 lB (((((dIx zx zM).bind fun x=>t F.aB [x]).bind fun x1=>sq x1).bind fun xs=>cMap (fun zC=>dAdd (.tup [zM]) zC) xs).bind fun x2=>oExt zH x2) fun zP =>
 .nx zP
def cv (t:Nat→List D→R D)(zx:D):L Unit :=
 lS (lB (σ:=List D) (asB (dIsA qTup zx)) fun b=>if b=true then lS (lB ((dLen [zx]).bind fun x=>rng1 [x]) fun xs1=>lFor (τ:=List D) (fun s x=>cK t zx s x) xs1 [(.tup [])]) fun zP =>
 .nx zP else .nx [(.tup [])]) fun Ab =>
 .rt (.lst Ab)
def f9 (t:Nat→List D→R D)(zx:D)(zC:D)(An:D):L Unit :=
 lS (lB (σ:=Unit) (asB (dEq zC (.tup []))) fun b=>if b=true then .rt An else .nx ()) fun _ =>
 lB (dIx zC (.int 0)) fun zM =>
 lB ((((asI zM).bind fun i=>dSw zx none i).bind fun x=>(((dIx zx zM).bind fun x1=>(dSw zC (some 1) none).bind fun x2=>t F.aV [x1,x2,An]).bind fun x3=>.ok (.tup [x3])).bind fun x4=>dAdd x x4).bind fun x5=>(((dAdd zM (.int 1)).bind asI).bind fun i1=>dSw zx i1 none).bind fun x6=>dAdd x5 x6) .rt
def di (t:Nat→List D→R D)(zx:D)(zM:D):L (D) :=
 lB (dIx zx zM) fun Ai =>
 .nx Ai
def eV (t:Nat→List D→R D)(zx:D)(zC:D):L Unit :=
 lS (lB (sq zC) fun xs=>lFor (τ:=D) (fun s x=>di t s x) xs zx) fun Au =>
 .rt Au
def bp (t:Nat→List D→R D)(zw:D)(zQ:D)(zx:D):L Unit :=
 lB (t F.aB [zx]) fun zJ =>
 lB (((dLen [zJ]).bind fun x=>t F.aa [zw,zQ,x]).bind fun x1=>dIx zJ x1) fun zC =>
 lB (t F.aT [zx,zC]) fun Ag =>
 lB (((dMul (.tup [Ag]) (.int 4)).bind fun x2=>.ok (.lst [(.lst [(.int 1),(.int 2),(.int 3),(.int 4)]),x2])).bind fun x3=>oExt [(.int (-1)),(.int 0),(.int 3),(.int 4),(.int 9),(.int 10),(.bl true),.non,(.str "1"),(.tup []),(.tup [(.int 1),(.int 2),(.int 3)]),(.tup [(.int 1),(.int 1),(.int 1),(.int 1)]),(.tup [(.int 1),(.int 2),(.int 3),(.int 4),(.int 5)])] x3) fun zN =>
 lB ((((dAdd zQ (.int 1)).bind fun x4=>t F.aa [zw,x4,(.int 15)]).bind fun x5=>oIx zN x5).bind fun x6=>t F.aV [zx,zC,x6]) .rt
def bV (t:Nat→List D→R D)(zx:D)(zB:D):L Unit :=
 lS (lB (σ:=Unit) (rAnd (asB (dIsA qInt zx)) (rNot (asB (dIsA qBool zx)))) fun b=>if b=true then lB (rCh dLe dLe (.int 0) zx (.ok (.int 9))) .rt else .nx ()) fun _ =>
 lS (lB (σ:=Unit) (rOr (rNot (asB (dIsA qTup zx))) (rOr (asB ((dLen [zx]).bind fun x=>dNf x (.int 4))) (asB (dEq zB (.int 0))))) fun b1=>if b1=true then .rt (.bl false) else .nx ()) fun _ =>
 lB (((sq zx).bind fun xs=>cFil (fun zT=>(rNot (asB ((dSub zB (.int 1)).bind fun x1=>t F.ag [zT,x1])))) (fun zT=>.ok zT) xs).bind fun x2=>dEq x2 (.lst [])) .rt
def bJ (t:Nat→List D→R D)(zx:D):L Unit :=
 lS (lB (σ:=Unit) (rOr (rNot (asB (dIsA qTup zx))) (rOr (asB ((dLen [zx]).bind fun x2=>dNf x2 (.int 2))) (rOr (rNot (asB ((dIx zx (.int 0)).bind fun x1=>dIsA qInt x1))) (asB ((dIx zx (.int 0)).bind fun x=>dIsA qBool x))))) fun b=>if b=true then .rt (.bl false) else .nx ()) fun _ =>
 lB (vAnd ((dIx zx (.int 0)).bind fun x5=>rCh dLe dLe (.int 0) x5 (.ok (.int 3))) ((dIx zx (.int 1)).bind fun x3=>(dIx zx (.int 0)).bind fun x4=>t F.ag [x3,x4])) .rt
def d4 (t:Nat→List D→R D)(zL:D):L Unit :=
 lB ((dIsA (qEx esL 3) zL).bind fun x=>(dIsA (qEx esL 6) zL).bind fun x1=>(dIsA (qEx esL 7) zL).bind fun x2=>.ok [x,x1,x2]) fun Ao=>lB ((dIsA (qEx esL 8) zL).bind fun x3=>oApp Ao x3) fun Aj =>
 lB (((dIsA (qEx esL 1) zL).bind fun x4=>(dIsA (qEx esL 5) zL).bind fun x5=>(dIsA (qEx esL 2) zL).bind fun x6=>.ok (.lst [x4,x5,x6])).bind fun x7=>oExt Aj x7) fun Ak =>
 lB (((dIsA (qEx esL 10) zL).bind fun x8=>(dIsA (qEx esL 9) zL).bind fun x9=>(dIsA (qEx esL 4) zL).bind fun x10=>.ok (.lst [x8,x9,x10])).bind fun x11=>oExt Ak x11) fun zY =>
 lS (lB (σ:=Unit) (rOr (asB ((onL (.lst zY) fun ls=>dCount ls [(.bl true)]).bind fun x12=>dNf x12 (.int 1))) (rNot (asB (dIsA (qVx esL) zL)))) fun b=>if b=true then .rt (.str "wrong") else .nx ()) fun _ =>
 lB ((dAdd (.lst [(.str "bad box"),(.str "no blocks"),(.str "no change"),(.str "no number"),(.str "no picture"),(.str "no rule"),(.str "no spot"),(.str "no text")]) (.lst [(.str "nothing done"),(.str "unlike")])).bind fun x13=>(onL (.lst zY) fun ls1=>dIndex ls1 [(.bl true)]).bind fun x14=>dIx x13 x14) .rt
def d5 (t:Nat→List D→R D)(zv:D)(zz:D)(zy:D):L Unit :=
 lTry (τ:=D) (qTk esL) (lB (t F.aj [zv,zz,zy]) fun Al =>
 .nx Al) (fun Ad=>lS (lB (σ:=Unit) (asB (dIs .non .non)) fun b=>if b=true then .rt Ad else .nx ()) fun _ =>
 lB (t F.aC [.non]) .rt) (fun k=>lS (lB (σ:=Unit) (asB (dIs (.exc k) .non)) fun b1=>if b1=true then lB (R.stuck) .rt else .nx ()) fun _ =>
 lB (t F.aC [(.exc k)]) .rt)
def dk (t:Nat→List D→R D)(Ap:List D)(zR:D):L (List D) :=
 lB (oExt Ap zR) fun zU =>
 .nx zU
def eW (t:Nat→List D→R D)(zu:D)(zy:D):L Unit :=
 lS (lB (sq zu) fun xs=>lFor (τ:=List D) (fun s x=>dk t s x) xs []) fun zU =>
 lS (lB (σ:=Unit) (asB (dInD zy (.tup [(.str "least"),(.str "greatest")]))) fun b=>if b=true then lB (rIf (asB (dEq zy (.str "least"))) (dMinL [(.lst zU)]) (dMaxL [(.lst zU)])) .rt else .nx ()) fun _ =>
 lB ((((sq (.lst zU)).bind fun xs1=>cMap (fun zA=>((onL (.lst zU) fun ls=>dCountI ls [zA]).bind fun x1=>dSub (.int 0) x1).bind fun x2=>.ok (.tup [x2,zA])) xs1).bind fun x3=>dMinT [x3]).bind fun x4=>dIx x4 (.int 1)) .rt
def fq (t:Nat→List D→R D)(zE:D)(Aa:D)(Ac:D)(zA:D)(zH:List (List D))(Av:D):L (List (List D)) :=
 lB (((dDiv Av zE).bind fun x=>dAdd Aa x).bind fun x1=>(mIx zH x1).bind fun q=>((dMod Av zE).bind fun x2=>dAdd Ac x2).bind fun x3=>mStA zH q x3 zA) fun zP=>.nx zP
def ft (t:Nat→List D→R D)(zu:D)(zy:D)(zE:D)(Aa:D)(zH:List (List D))(Ac:D):L (List (List D)) :=
 lB (((((asI Aa).bind fun i=>((dAdd Aa zE).bind asI).bind fun i1=>dSw zu i i1).bind fun x=>sq x).bind fun xs=>cMap (fun zR=>(asI Ac).bind fun i2=>((dAdd Ac zE).bind asI).bind fun i3=>dSw zR i2 i3) xs).bind fun x1=>t F.aU [x1,zy]) fun zA =>
 lS (lB ((dMul zE zE).bind fun x2=>rng1 [x2]) fun xs1=>lFor (τ:=List (List D)) (fun s x=>fq t zE Aa Ac zA s x) xs1 zH) fun Ab =>
 .nx Ab
def fu (t:Nat→List D→R D)(zu:D)(zy:D)(zE:D)(zH:List (List D))(Aa:D):L (List (List D)) :=
 lS (lB ((dLen [zu]).bind fun x=>rngS [(.int 0),x,zE]) fun xs2=>lFor (τ:=List (List D)) (fun s x=>ft t zu zy zE Aa s x) xs2 zH) fun Aw =>
 .nx Aw
def iW (t:Nat→List D→R D)(zu:D)(zz:D)(zy:D):L Unit :=
 lB (((dLen [zu]).bind fun x=>(dIx (.lst [(.int 1),(.int 2),(.int 4),(.int 8),(.int 8)]) zz).bind fun x1=>dDiv x x1).bind fun x2=>dMax2 [(.int 1),x2]) fun zE =>
 lB ((sq zu).bind sqsL) fun zH=>lS (lB ((dLen [zu]).bind fun x3=>rngS [(.int 0),x3,zE]) fun xs3=>lFor (τ:=List (List D)) (fun s x=>fu t zu zy zE s x) xs3 zH) fun As =>
 lB ((((sq (.lst (As.map .lst))).bind fun xs4=>cMap (fun Ax=>dTuple [Ax]) xs4).bind fun x15=>dTuple [x15]).bind fun x16=>t F.aY [x16]) .rt
def ce (t:Nat→List D→R D)(zw:D)(zv:D)(zu:D)(zM:D):L (Unit) :=
 lB ((dAdd (.int 5000) zM).bind fun x=>t F.aa [zw,x,(.int 5)]) fun zz =>
 lB (((dAdd (.int 5010) zM).bind fun x1=>t F.aa [zw,x1,(.int 3)]).bind fun x2=>dIx (.lst [(.str "most"),(.str "least"),(.str "greatest")]) x2) fun zy =>
 lB (t F.ad [zv,zz,zy]) fun zW =>
 lS (lB (σ:=Unit) (rOr (asB ((t F.aZ [zu,zz,zy]).bind fun x5=>dNf zW x5)) (rOr (asB ((t F.a0 [zW]).bind fun x4=>dGt x4 zz)) (asB ((t F.ad [zW,zz,zy]).bind fun x3=>dNf x3 zW)))) fun b=>if b=true then .rt (.bl false) else .nx ()) fun _ =>
 lB ((dAdd (.int 5020) zM).bind fun x6=>t F.aa [zw,x6,(.int 8)]) fun zX =>
 lS (lB (σ:=Unit) (asB (((t F.aR [zv,zX]).bind fun x7=>t F.ad [x7,zz,zy]).bind fun x8=>(t F.aR [zW,zX]).bind fun x9=>dNf x8 x9)) fun b1=>if b1=true then .rt (.bl false) else .nx ()) fun _ =>
 lB (rAnd (asB ((t F.a0 [zv]).bind fun x11=>dGe zz x11)) (asB ((t F.aY [zu]).bind fun x10=>dNf zW x10))) fun b2=>if b2=true then .rt (.bl false) else .nx ()
def eX (t:Nat→List D→R D)(zw:D):L Unit :=
 lB (t F.aF [zw,(.int 0),(.int 3)]) fun zv =>
 lB (t F.aS [zv]) fun zu =>
 lS (lB (rng1 [(.int 3)]) fun xs=>lFor (τ:=Unit) (fun _ x=>ce t zw zv zu x) xs ()) fun _ =>
 lB (t F.aa [zw,(.int 5030),(.int 4)]) fun zZ =>
 lS (lB (σ:=Unit) (asB ((((dAdd zZ (.int 1)).bind fun x13=>t F.ad [zv,x13,(.str "least")]).bind fun x14=>t F.ad [x14,zZ,(.str "least")]).bind fun x15=>(t F.ad [zv,zZ,(.str "least")]).bind fun x16=>dNf x15 x16)) fun b3=>if b3=true then .rt (.bl false) else .nx ()) fun _ =>
 lB ((t F.aa [zw,(.int 5031),(.int 4)]).bind fun x17=>dIx (.lst [(.str ""),(.str "Most"),(.str "sum"),(.str "first")]) x17) fun zV =>
 lB (t F.ae [zw,(.int 5100),zv]) fun Am =>
 lS (lB (σ:=Unit) (rOr (asB ((t F.ad [zv,(.int 1),zV]).bind fun x19=>dNf x19 (.str "no rule"))) (asB ((t F.ad [Am,(.int 1),zV]).bind fun x18=>dNf x18 (.str "no rule")))) fun b4=>if b4=true then .rt (.bl false) else .nx ()) fun _ =>
 lB (vOr (t F.an [Am]) ((t F.ad [Am,(.int 1),(.str "most")]).bind fun x20=>dEq x20 (.str "no picture"))) .rt
def pf:Nat→Nat→List D→R D
 | 0,_=>fun _=>.stuck
 | n+1,i=>match i with
  | 20=>a1 (fo (pf n))
  | 21=>a1 (dc (pf n))
  | 22=>a1 (eT (pf n))
  | 23=>a3 (cP (pf n))
  | 24=>a2 (bt (pf n))
  | 25=>a1 (bG (pf n))
  | 26=>a1 (bT (pf n))
  | 43=>a4 (cp (pf n))
  | 93=>a1 (cq (pf n))
  | 27=>a1 (b7 (pf n))
  | 28=>a1 (bu (pf n))
  | 45=>a1 (eU (pf n))
  | 49=>a2 (cB (pf n))
  | 50=>a1 (b8 (pf n))
  | 29=>a1 (ju (pf n))
  | 154=>a2 (bo (pf n))
  | 96=>a1 (l5 (pf n))
  | 69=>a2 (bH (pf n))
  | 70=>a2 (iV (pf n))
  | 125=>a1 (fV (pf n))
  | 84=>a1 (de (pf n))
  | 127=>a1 (cC (pf n))
  | 128=>a2 (fW (pf n))
  | 72=>a1 (cE (pf n))
  | 75=>a1 (fX (pf n))
  | 292=>a1 (b9 (pf n))
  | 293=>a1 (df (pf n))
  | 294=>a1 (cF (pf n))
  | 295=>a1 (bI (pf n))
  | 296=>a4 (bh (pf n))
  | 297=>a3 (bD (pf n))
  | 30=>a2 (fY (pf n))
  | 31=>a3 (fZ (pf n))
  | 32=>a3 (dZ (pf n))
  | 33=>a3 (cG (pf n))
  | 54=>a2 (bU (pf n))
  | 55=>a1 (f8 (pf n))
  | 56=>a1 (cQ (pf n))
  | 57=>a1 (l6 (pf n))
  | 34=>a1 (cv (pf n))
  | 35=>a3 (f9 (pf n))
  | 36=>a2 (eV (pf n))
  | 37=>a3 (bp (pf n))
  | 39=>a2 (bV (pf n))
  | 38=>a1 (bJ (pf n))
  | 40=>a1 (d4 (pf n))
  | 298=>a3 (d5 (pf n))
  | 299=>a2 (eW (pf n))
  | 300=>a3 (iW (pf n))
  | 301=>a1 (eX (pf n))
  | _=>fun _=>.stuck
theorem nD (n:Nat)(a0:D):pf (n+1) F.az [a0]=outL (fo (pf n) a0):=rfl
theorem nE (n:Nat)(a0:D):pf (n+1) F.ao [a0]=outL (dc (pf n) a0):=rfl
theorem pd (n:Nat)(a0:D):pf (n+1) F.aL [a0]=outL (eT (pf n) a0):=rfl
theorem jv (n:Nat)(a0 a1 a2:D):pf (n+1) F.ay [a0,a1,a2]=outL (cP (pf n) a0 a1 a2):=rfl
theorem gW (n:Nat)(a0 a1:D):pf (n+1) F.au [a0,a1]=outL (bt (pf n) a0 a1):=rfl
theorem iI (n:Nat)(a0:D):pf (n+1) F.ak [a0]=outL (bG (pf n) a0):=rfl
theorem gg (n:Nat)(a0:D):pf (n+1) F.ap [a0]=outL (bT (pf n) a0):=rfl
theorem ir (n:Nat)(a0 a1 a2 a3:D):pf (n+1) F.aA [a0,a1,a2,a3]=outL (cp (pf n) a0 a1 a2 a3):=rfl
theorem iu (n:Nat)(a0:D):pf (n+1) F.aH [a0]=outL (cq (pf n) a0):=rfl
theorem ky (n:Nat)(a0:D):pf (n+1) F.aI [a0]=outL (b7 (pf n) a0):=rfl
theorem gX (n:Nat)(a0:D):pf (n+1) F.ab [a0]=outL (bu (pf n) a0):=rfl
theorem ph (n:Nat)(a0:D):pf (n+1) F.aM [a0]=outL (eU (pf n) a0):=rfl
theorem l7 (n:Nat)(a0 a1:D):pf (n+1) F.aD [a0,a1]=outL (cB (pf n) a0 a1):=rfl
theorem kz (n:Nat)(a0:D):pf (n+1) F.av [a0]=outL (b8 (pf n) a0):=rfl
theorem qu (n:Nat)(a0:D):pf (n+1) F.aJ [a0]=outL (ju (pf n) a0):=rfl
theorem cL (n:Nat)(a0 a1:D):pf (n+1) F.ax [a0,a1]=outL (bo (pf n) a0 a1):=rfl
theorem wD (n:Nat)(a0:D):pf (n+1) F.a0 [a0]=outL (l5 (pf n) a0):=rfl
theorem fc (n:Nat)(a0 a1:D):pf (n+1) F.al [a0,a1]=outL (bH (pf n) a0 a1):=rfl
theorem uH (n:Nat)(a0 a1:D):pf (n+1) F.aN [a0,a1]=outL (iV (pf n) a0 a1):=rfl
theorem r8 (n:Nat)(a0:D):pf (n+1) F.aW [a0]=outL (fV (pf n) a0):=rfl
theorem nF (n:Nat)(a0:D):pf (n+1) F.aP [a0]=outL (de (pf n) a0):=rfl
theorem l8 (n:Nat)(a0:D):pf (n+1) F.aK [a0]=outL (cC (pf n) a0):=rfl
theorem r9 (n:Nat)(a0 a1:D):pf (n+1) F.aR [a0,a1]=outL (fW (pf n) a0 a1):=rfl
theorem l9 (n:Nat)(a0:D):pf (n+1) F.aE [a0]=outL (cE (pf n) a0):=rfl
theorem sg (n:Nat)(a0:D):pf (n+1) F.aQ [a0]=outL (fX (pf n) a0):=rfl
theorem kA (n:Nat)(a0:D):pf (n+1) F.aw [a0]=outL (b9 (pf n) a0):=rfl
theorem nG (n:Nat)(a0:D):pf (n+1) F.ah [a0]=outL (df (pf n) a0):=rfl
theorem ma (n:Nat)(a0:D):pf (n+1) F.af [a0]=outL (cF (pf n) a0):=rfl
theorem iJ (n:Nat)(a0:D):pf (n+1) F.ac [a0]=outL (bI (pf n) a0):=rfl
theorem cf (n:Nat)(a0 a1 a2 a3:D):pf (n+1) F.ai [a0,a1,a2,a3]=outL (bh (pf n) a0 a1 a2 a3):=rfl
theorem dl (n:Nat)(a0 a1 a2:D):pf (n+1) F.aj [a0,a1,a2]=outL (bD (pf n) a0 a1 a2):=rfl
theorem si (n:Nat)(a0 a1:D):pf (n+1) F.aX [a0,a1]=outL (fY (pf n) a0 a1):=rfl
theorem sj (n:Nat)(a0 a1 a2:D):pf (n+1) F.aa [a0,a1,a2]=outL (fZ (pf n) a0 a1 a2):=rfl
theorem lg (n:Nat)(a0 a1 a2:D):pf (n+1) F.aq [a0,a1,a2]=outL (dZ (pf n) a0 a1 a2):=rfl
theorem me (n:Nat)(a0 a1 a2:D):pf (n+1) F.aF [a0,a1,a2]=outL (cG (pf n) a0 a1 a2):=rfl
theorem gh (n:Nat)(a0 a1:D):pf (n+1) F.ar [a0,a1]=outL (bU (pf n) a0 a1):=rfl
theorem sk (n:Nat)(a0:D):pf (n+1) F.aS [a0]=outL (f8 (pf n) a0):=rfl
theorem jw (n:Nat)(a0:D):pf (n+1) F.aO [a0]=outL (cQ (pf n) a0):=rfl
theorem wE (n:Nat)(a0:D):pf (n+1) F.aY [a0]=outL (l6 (pf n) a0):=rfl
theorem iw (n:Nat)(a0:D):pf (n+1) F.aB [a0]=outL (cv (pf n) a0):=rfl
theorem nH (n:Nat)(a0 a1 a2:D):pf (n+1) F.aV [a0,a1,a2]=outL (f9 (pf n) a0 a1 a2):=rfl
theorem pi (n:Nat)(a0 a1:D):pf (n+1) F.aT [a0,a1]=outL (eV (pf n) a0 a1):=rfl
theorem gi (n:Nat)(a0 a1 a2:D):pf (n+1) F.ae [a0,a1,a2]=outL (bp (pf n) a0 a1 a2):=rfl
theorem gj (n:Nat)(a0 a1:D):pf (n+1) F.ag [a0,a1]=outL (bV (pf n) a0 a1):=rfl
theorem iK (n:Nat)(a0:D):pf (n+1) F.an [a0]=outL (bJ (pf n) a0):=rfl
theorem lh (n:Nat)(a0:D):pf (n+1) F.aC [a0]=outL (d4 (pf n) a0):=rfl
theorem gY (n:Nat)(a0 a1 a2:D):pf (n+1) F.ad [a0,a1,a2]=outL (d5 (pf n) a0 a1 a2):=rfl
theorem pj (n:Nat)(a0 a1:D):pf (n+1) F.aU [a0,a1]=outL (eW (pf n) a0 a1):=rfl
theorem uI (n:Nat)(a0 a1 a2:D):pf (n+1) F.aZ [a0,a1,a2]=outL (iW (pf n) a0 a1 a2):=rfl
theorem pp (n:Nat)(a0:D):pf (n+1) F.aG [a0]=outL (eX (pf n) a0):=rfl
end Lw
end
noncomputable section
set_option maxHeartbeats 4000000
namespace Lw
open PySem PySem.Spec PyProof.Rows L2 FF
def top (i:Nat):Stmt:=PySem.Challenge.pw_fourfold_k90_whole_seen_from_far.main.body.getD i (.Pass ⟨0,0,0,0⟩)
abbrev fw:Stmt:=top 15
theorem nJ:FnScope ["thing"] ["thing"] (defScope fw):=mkSc
abbrev fz:Stmt:=top 16
theorem nK:FnScope ["thing"] ["thing"] (defScope fz):=mkSc
abbrev gZ:Stmt:=top 17
theorem pq:FnScope ["thing"] ["thing"] (defScope gZ):=mkSc
abbrev g5:Stmt:=top 18
theorem pv:FnScope ["size","thing","is_end"] ["size","thing","is_end"] (defScope g5):=mkSc
abbrev bZ:Stmt:=top 19
theorem g6:FnScope ["thing","is_end"] ["thing","is_end"] (defScope bZ):=mkSc
abbrev cw:Stmt:=top 20
theorem dL:FnScope ["four","first"] ["four"] (defScope cw):=mkSc
abbrev d6:Stmt:=top 21
theorem mf:FnScope ["tree"] ["tree"] (defScope d6):=mkSc
abbrev fA:Stmt:=top 22
theorem d7:FnScope ["tree","side","x","y","half","number"] ["tree","side","x","y"] (defScope fA):=mkSc
abbrev fB:Stmt:=top 23
theorem nM:FnScope ["tree"] ["tree"] (defScope fB):=mkSc
abbrev dn:Stmt:=top 26
theorem kB:FnScope ["thing"] ["thing"] (defScope dn):=mkSc
abbrev b5:Stmt:=top 27
theorem g7:FnScope ["thing"] ["thing"] (defScope b5):=mkSc
abbrev g8:Stmt:=top 28
theorem pw:FnScope ["picture"] ["picture"] (defScope g8):=mkSc
abbrev d8:Stmt:=top 29
theorem gm:FnScope ["picture","y","side"] ["picture","y"] (defScope d8):=mkSc
abbrev dr:Stmt:=top 30
theorem kC:FnScope ["picture"] ["picture"] (defScope dr):=mkSc
abbrev px:Stmt:=top 31
theorem wF:FnScope ["picture"] ["picture"] (defScope px):=mkSc
abbrev du:Stmt:=top 33
theorem kD:FnScope ["thing","words"] ["thing","words"] (defScope du):=mkSc
abbrev pz:Stmt:=top 35
theorem wG:FnScope ["picture"] ["picture"] (defScope pz):=mkSc
abbrev dv:Stmt:=top 41
theorem kE:FnScope ["tree","order"] ["tree","order"] (defScope dv):=mkSc
abbrev mh:Stmt:=top 42
theorem nN:FnScope ["picture","order","shown"] ["picture","order"] (defScope mh):=mkSc
abbrev jz:Stmt:=top 43
theorem so:FnScope ["picture"] ["picture"] (defScope jz):=mkSc
abbrev fC:Stmt:=top 44
theorem nO:FnScope ["picture"] ["picture"] (defScope fC):=mkSc
abbrev d9:Stmt:=top 45
theorem mi:FnScope ["thing"] ["thing"] (defScope d9):=mkSc
abbrev jA:Stmt:=top 46
theorem cR:FnScope ["picture","way","told","step"] ["picture","way"] (defScope jA):=mkSc
abbrev eg:Stmt:=top 48
theorem dz:FnScope ["rows","worths","row"] ["rows"] (defScope eg):=mkSc
abbrev jB:Stmt:=top 49
theorem li:FnScope ["picture","worths"] ["picture"] (defScope jB):=mkSc
abbrev dA:Stmt:=top 51
theorem kF:FnScope ["many"] ["many"] (defScope dA):=mkSc
abbrev fD:Stmt:=top 52
theorem nP:FnScope ["many"] ["many"] (defScope fD):=mkSc
abbrev eh:Stmt:=top 53
theorem mj:FnScope ["many"] ["many"] (defScope eh):=mkSc
abbrev cx:Stmt:=top 54
theorem iL:FnScope ["many"] ["many"] (defScope cx):=mkSc
abbrev en:Stmt:=top 56
theorem mk:FnScope ["size","tree","far","choose"] ["size","tree","far","choose"] (defScope en):=mkSc
abbrev et:Stmt:=top 57
theorem gn:FnScope ["picture","far","rule","told"] ["picture","far","rule"] (defScope et):=mkSc
abbrev jC:Stmt:=top 59
theorem sr:FnScope ["_law_script","_law_k"] ["_law_script","_law_k"] (defScope jC):=mkSc
abbrev jD:Stmt:=top 60
theorem lj:FnScope ["_law_script","_law_k","_law_many","_law_drawn"] ["_law_script","_law_k","_law_many"] (defScope jD):=mkSc
abbrev jE:Stmt:=top 61
theorem ll:FnScope ["_law_script","_law_at","_law_size","_law_way"] ["_law_script","_law_at","_law_size"] (defScope jE):=mkSc
abbrev ez:Stmt:=top 62
theorem gp:FnScope ["_law_script","_law_at","_law_most","_law_size"] ["_law_script","_law_at","_law_most"] (defScope ez):=mkSc
abbrev eB:Stmt:=top 63
theorem bL:FnScope ["_law_size","_law_tree_here","_law_parts","_law_some","_law_made","_law_upper"] ["_law_size","_law_tree_here"] (defScope eB):=mkSc
abbrev jF:Stmt:=top 64
theorem ss:FnScope ["_law_picture_here"] ["_law_picture_here"] (defScope jF):=mkSc
abbrev g9:Stmt:=top 65
theorem bz:FnScope ["_law_rows_here","_law_worths","_law_row","_law_half","_law_parts","_law_top","_law_left"] ["_law_rows_here"] (defScope g9):=mkSc
abbrev pA:Stmt:=top 66
theorem wH:FnScope ["_law_rows_here"] ["_law_rows_here"] (defScope pA):=mkSc
abbrev fE:Stmt:=top 67
theorem eD:FnScope ["_law_thing","_law_made","_law_k"] ["_law_thing"] (defScope fE):=mkSc
abbrev mm:Stmt:=top 68
theorem nQ:FnScope ["_law_thing","_law_place","_law_new","_law_k"] ["_law_thing","_law_place","_law_new"] (defScope mm):=mkSc
abbrev hG:Stmt:=top 69
theorem fF:FnScope ["_law_thing","_law_place","_law_k"] ["_law_thing","_law_place"] (defScope hG):=mkSc
abbrev bQ:Stmt:=top 70
theorem aR:FnScope ["_law_script","_law_at","_law_thing","_law_places_here","_law_place","_law_here","_law_some"] ["_law_script","_law_at","_law_thing"] (defScope bQ):=mkSc
abbrev cy:Stmt:=top 71
theorem iM:FnScope ["_law_thing"] ["_law_thing"] (defScope cy):=mkSc
abbrev eE:Stmt:=top 72
theorem mn:FnScope ["_law_thing","_law_size"] ["_law_thing","_law_size"] (defScope eE):=mkSc
abbrev jG:Stmt:=top 73
theorem hJ:FnScope ["_law_kept","_law_kinds","_law_words"] ["_law_kept"] (defScope jG):=mkSc
abbrev jH:Stmt:=top 74
theorem cS:FnScope ["_law_picture_here","_law_many","_law_rule","_law_kept","_law_answer","e"] ["_law_picture_here","_law_many","_law_rule"] (defScope jH):=mkSc
abbrev hU:Stmt:=top 75
theorem fG:FnScope ["_law_rows_here","_law_rule","_law_every","_law_row"] ["_law_rows_here","_law_rule"] (defScope hU):=mkSc
abbrev mo:Stmt:=top 76
theorem cz:FnScope ["_law_rows_here","_law_many","_law_rule","_law_side","_law_made","_law_top","_law_left","_law_worth_here","_law_number"] ["_law_rows_here","_law_many","_law_rule"] (defScope mo):=mkSc
abbrev ba:Stmt:=top 77
theorem aN:FnScope ["_law_script","_law_picture_here","_law_rows_here","_law_k","_law_many","_law_rule","_law_told","_law_way","_law_less","_law_word_here","_law_bad"] ["_law_script"] (defScope ba):=mkSc
structure Txt (K:PySem.W.Frag)(mg:Str→Option Value)(C:Nat→Addr)(wP:Params):Prop where
 b_ValueError:mg "ValueError"=none
 b_all:mg "all"=none
 b_bool:mg "bool"=none
 b_enumerate:mg "enumerate"=none
 b_int:mg "int"=none
 b_isinstance:mg "isinstance"=none
 b_len:mg "len"=none
 b_list:mg "list"=none
 b_max:mg "max"=none
 b_min:mg "min"=none
 b_range:mg "range"=none
 b_set:mg "set"=none
 b_tuple:mg "tuple"=none
 k_GREATEST_WORTH:∃ t,mg "GREATEST_WORTH"=some (.int 9 t)
 k_LARGEST_SIZE:∃ t,mg "LARGEST_SIZE"=some (.int 3 t)
 k_TURNS:∃ t,mg "TURNS"=some (.int 4 t)
 k_WAYS:∃ t,mg "WAYS"=some (.int 8 t)
 t_BY_MIRRORING:∃ a,mg "BY_MIRRORING"=some (.ref a)∧TupK K a [1,0,3,2]
 t_BY_TURNING:∃ a,mg "BY_TURNING"=some (.ref a)∧TupK K a [2,0,3,1]
 t_SIDES:∃ a,mg "SIDES"=some (.ref a)∧TupK K a [1,2,4,8]
 d_VIEWS:∃ a,mg "VIEWS"=some (.ref a)∧TabK K C wP a b6
 f_is_worth:mg "is_worth"=some (.ref (C F.ao))
 f_most_met:mg "most_met"=some (.ref (C F.ah))
 f_least_met:mg "least_met"=some (.ref (C F.af))
 f_greatest_met:mg "greatest_met"=some (.ref (C F.ac))
 c_FourError:mg "FourError"=some (.ref (C 0))
 c_NoPicture:mg "NoPicture"=some (.ref (C 1))
 c_NoSpot:mg "NoSpot"=some (.ref (C 2))
 c_BadBox:mg "BadBox"=some (.ref (C 3))
 c_Unlike:mg "Unlike"=some (.ref (C 4))
 c_NoRule:mg "NoRule"=some (.ref (C 5))
 c_NoBlocks:mg "NoBlocks"=some (.ref (C 6))
 c_NoChange:mg "NoChange"=some (.ref (C 7))
 c_NoNumber:mg "NoNumber"=some (.ref (C 8))
 c_NothingDone:mg "NothingDone"=some (.ref (C 9))
 c_NoText:mg "NoText"=some (.ref (C 10))
 x_NoPicture:PySem.W.excIn K (C 1) bmVE "ValueError.__new__"=true
 x_NoSpot:PySem.W.excIn K (C 2) bmVE "ValueError.__new__"=true
 x_NoRule:PySem.W.excIn K (C 5) bmVE "ValueError.__new__"=true
 i_BadBox:IsA K C (.ref (C 3)) (qEx esL 3)
 i_NoBlocks:IsA K C (.ref (C 6)) (qEx esL 6)
 i_NoChange:IsA K C (.ref (C 7)) (qEx esL 7)
 i_NoNumber:IsA K C (.ref (C 8)) (qEx esL 8)
 i_NoPicture:IsA K C (.ref (C 1)) (qEx esL 1)
 i_NoRule:IsA K C (.ref (C 5)) (qEx esL 5)
 i_NoSpot:IsA K C (.ref (C 2)) (qEx esL 2)
 i_NoText:IsA K C (.ref (C 10)) (qEx esL 10)
 i_NothingDone:IsA K C (.ref (C 9)) (qEx esL 9)
 i_Unlike:IsA K C (.ref (C 4)) (qEx esL 4)
 i_ValueError:IsA K C (.ty "ValueError") (qVx esL)
 takes:Takes K C (C 0) (qTk esL)
structure Tab (P:Program)(w:World)(K:PySem.W.Frag)(mg:Str→Option Value)(base:Heap)(C:Nat→Addr)(k:Nat)(t:Nat→List FF.D→FF.R FF.D):Prop where
 g20:Fn1 P w K mg base C k "is_whole" ["thing"] (t F.az)
 g21:Fn1 P w K mg base C k "is_worth" ["thing"] (t F.ao)
 g22:Fn1 P w K mg base C k "is_size" ["thing"] (t F.aL)
 g23:Fn1 P w K mg base C k "is_tree" ["size","thing","is_end"] (t F.ay)
 g24:Fn1 P w K mg base C k "is_sized_tree" ["thing","is_end"] (t F.au)
 g25:Fn1 P w K mg base C k "put_together" ["four"] (t F.ak)
 g26:Fn1 P w K mg base C k "lean_tree" ["tree"] (t F.ap)
 g43:Fn1 P w K mg base C k "worth_in" ["tree","side","x","y"] (t F.aA)
 g93:Fn1 P w K mg base C k "depth_in" ["tree"] (t F.aH)
 g27:Fn1 P w K mg base C k "is_picture" ["thing"] (t F.aI)
 g28:Fn1 P w K mg base C k "check_picture" ["thing"] (t F.ab)
 g45:Fn1 P w K mg base C k "side_of" ["picture"] (t F.aM)
 g49:Fn1 P w K mg base C k "shown_row" ["picture","y"] (t F.aD)
 g50:Fn1 P w K mg base C k "shown_rows" ["picture"] (t F.av)
 g29:Fn1 P w K mg base C k "lean" ["picture"] (t F.aJ)
 g154:Fn1 P w K mg base C k "check_word" ["thing","words"] (t F.ax)
 g96:Fn1 P w K mg base C k "deep" ["picture"] (t F.a0)
 g69:Fn1 P w K mg base C k "moved_tree" ["tree","order"] (t F.al)
 g70:Fn1 P w K mg base C k "moved" ["picture","order"] (t F.aN)
 g125:Fn1 P w K mg base C k "turned" ["picture"] (t F.aW)
 g84:Fn1 P w K mg base C k "mirrored" ["picture"] (t F.aP)
 g127:Fn1 P w K mg base C k "check_way" ["thing"] (t F.aK)
 g128:Fn1 P w K mg base C k "by_way" ["picture","way"] (t F.aR)
 g72:Fn1 P w K mg base C k "worths_of" ["rows"] (t F.aE)
 g75:Fn1 P w K mg base C k "counts" ["picture"] (t F.aQ)
 g292:Fn1 P w K mg base C k "worths_met" ["many"] (t F.aw)
 g293:Fn1 P w K mg base C k "most_met" ["many"] (t F.ah)
 g294:Fn1 P w K mg base C k "least_met" ["many"] (t F.af)
 g295:Fn1 P w K mg base C k "greatest_met" ["many"] (t F.ac)
 g296:Fn1 P w K mg base C k "seen_tree" ["size","tree","far","choose"] (t F.ai)
 g297:Fn1 P w K mg base C k "seen_from" ["picture","far","rule"] (t F.aj)
 g30:Fn1 P w K mg base C k "_law_cell" ["_law_script","_law_k"] (t F.aX)
 g31:Fn1 P w K mg base C k "_law_pick" ["_law_script","_law_k","_law_many"] (t F.aa)
 g32:Fn1 P w K mg base C k "_law_tree" ["_law_script","_law_at","_law_size"] (t F.aq)
 g33:Fn1 P w K mg base C k "_law_picture" ["_law_script","_law_at","_law_most"] (t F.aF)
 g54:Fn1 P w K mg base C k "_law_rows_of" ["_law_size","_law_tree_here"] (t F.ar)
 g55:Fn1 P w K mg base C k "_law_rows" ["_law_picture_here"] (t F.aS)
 g56:Fn1 P w K mg base C k "_law_least" ["_law_rows_here"] (t F.aO)
 g57:Fn1 P w K mg base C k "_law_of" ["_law_rows_here"] (t F.aY)
 g34:Fn1 P w K mg base C k "_law_places" ["_law_thing"] (t F.aB)
 g35:Fn1 P w K mg base C k "_law_put" ["_law_thing","_law_place","_law_new"] (t F.aV)
 g36:Fn1 P w K mg base C k "_law_there" ["_law_thing","_law_place"] (t F.aT)
 g37:Fn1 P w K mg base C k "_law_spoilt_thing" ["_law_script","_law_at","_law_thing"] (t F.ae)
 g38:Fn1 P w K mg base C k "_law_is_picture" ["_law_thing"] (t F.an)
 g39:Fn1 P w K mg base C k "_law_is_tree" ["_law_thing","_law_size"] (t F.ag)
 g40:Fn1 P w K mg base C k "_law_word" ["_law_kept"] (t F.aC)
 g298:Fn1 P w K mg base C k "_law_seen" ["_law_picture_here","_law_many","_law_rule"] (t F.ad)
 g299:Fn1 P w K mg base C k "_law_worth" ["_law_rows_here","_law_rule"] (t F.aU)
 g300:Fn1 P w K mg base C k "_law_far" ["_law_rows_here","_law_many","_law_rule"] (t F.aZ)
 g301:Fn1 P w K mg base C k "law" ["_law_script"] (t F.aG)
 v:∀ i∈fvL,FnV P w K mg base C k i (t i)
section
variable {P:Program}{w:World}{K:PySem.W.Frag}{mg:Str→Option Value}{base:Heap}{C:Nat→Addr}{k:Nat}{t:Nat→List FF.D→FF.R FF.D}(T:Txt K mg C w.params)(G:Tab P w K mg base C k t)
include T G
theorem nR:OkD P w K mg base C k "is_whole" fw ["thing"] (a1 (fo t)):=ok1 nJ fun thing _ _ _ _ _ _ _ _ bx _ _=>by
 show FL _ _ [vv thing] _ _ _
 refine ak (ag (je (ao bx rfl T.b_isinstance lR (ac 0) (aK rfl T.b_int (by decide +kernel) rfl)) (gM (yl (ao bx rfl T.b_isinstance jl (ac 0) (aK rfl T.b_bool (by decide +kernel) rfl)))))) ?_
 rfl
theorem iy:OkD P w K mg base C k "is_worth" fz ["thing"] (a1 (dc t)):=ok1 nK fun thing _ _ _ _ _ _ _ _ bx _ _=>by
 show FL _ _ [vv thing] _ _ _
 refine ak (ag (je (af bx G.g20 rfl (aa (ac 0) ad)) (gM (iU ae (ac 0) (eR T.k_GREATEST_WORTH rfl))))) ?_
 rfl
theorem pB:OkD P w K mg base C k "is_size" gZ ["thing"] (a1 (eT t)):=ok1 pq fun thing _ _ _ _ _ _ _ _ bx _ _=>by
 show FL _ _ [vv thing] _ _ _
 refine ak (ag (je (af bx G.g20 rfl (aa (ac 0) ad)) (gM (iU ae (ac 0) (eR T.k_LARGEST_SIZE rfl))))) ?_
 rfl
theorem pC:OkD P w K mg base C k "is_tree" g5 ["size","thing","is_end"] (a3 (cP t)):=ok3 pv fun size_ thing is_end _ _ _ _ _ _ _ _ bx _ _=>by
 show FL _ _ [vv size_,vv thing,vv is_end] _ _ _
 refine au (inj:=fun (_:Unit) (w:Unit)=>[vv size_,vv thing,vv is_end]) (ax (bd (aV (ao bx rfl T.b_isinstance br (ac 1) (aK rfl T.b_tuple (by decide +kernel) rfl)))) ?_ ?_ ?_) (fun _ w=>?_)
 rfl
 ·refine ak (ag (nh bx G.v (ac 2) (aa (ac 1) ad))) ?_
  rfl
 ·exact aq ⟨(),rfl⟩
 refine au (inj:=fun (_:Unit) (w1:Unit)=>[vv size_,vv thing,vv is_end]) (ax (ft_w (cO (dS bx (ac 0) ae) (c7 (dJ bx (fe_N (bE bx rfl T.b_len (FAL.out (aa (ac 1) ad)))) ae)))) ?_ ?_ ?_) (fun _ w1=>?_)
 rfl
 ·refine ay (ag dH) ?_
  rfl
 ·exact aq ⟨(),rfl⟩
 refine ak (ag (fe_N (yx bx rfl T.b_all (FAL.out (aa (fe_C (aQ (N:=["part","is_end","size"]) (own:=1) (cap:=[2,0]) bx (BlkOk.of (by kernel_rfl)) (aS bx.K (ac 1)) (bc (by decide)) (fun _ _ _ _ _=>av 0 (show List.Nodup (α:=Str) ["part","is_end","size"] by decide +kernel)) (fun _ _ _ _ _=>(af (aA bx) G.g23 rfl (aa (c9 (ac 2) ae) (aa (ac 0) (aa (ac 1) ad))))))) ad))))) ?_
 rfl
theorem hV:OkD P w K mg base C k "is_sized_tree" bZ ["thing","is_end"] (a2 (bt t)):=ok2 g6 fun thing is_end _ _ _ _ _ _ _ _ bx _ _=>by
 show FL _ _ [vv thing,vv is_end] _ _ _
 refine au (inj:=fun (_:Unit) (w:Unit)=>[vv thing,vv is_end]) (ax (ft_w (cO (bd (aV (ao bx rfl T.b_isinstance br (ac 0) (aK rfl T.b_tuple (by decide +kernel) rfl)))) (c7 (dJ bx (fe_N (bE bx rfl T.b_len (FAL.out (aa (ac 0) ad)))) ae)))) ?_ ?_ ?_) (fun _ w=>?_)
 rfl
 ·refine ay (ag dH) ?_
  rfl
 ·exact aq ⟨(),rfl⟩
 refine ak (ag (je (af bx G.g22 rfl (aa (ah bx.K (ac 0) ae) ad)) (gM (af bx G.g23 rfl (aa (ah bx.K (ac 0) ae) (aa (ah bx.K (ac 0) ae) (aa (ac 1) ad))))))) ?_
 rfl
theorem iO:OkD P w K mg base C k "put_together" cw ["four"] (a1 (bG t)):=ok1 dL fun four _ _ _ _ _ _ _ _ bx _ _=>by
 show FL _ _ [vv four,nn] _ _ _
 refine aj (S':=fun first=>[vv four,vv first]) (aw 1 dL.nd (ah bx.K (ac 0) ae)) ?_ (fun first=>?_)
 rfl
 refine au (inj:=fun (_:Unit) (w:Unit)=>[vv four,vv first]) (ax (ft_w (oP (bd (aV (ao bx rfl T.b_isinstance br (ac 1) (aK rfl T.b_tuple (by decide +kernel) rfl)))) (lO (dS bx (ac 0) (aH (aa (ac 1) (aa (ac 1) (aa (ac 1) (aa (ac 1) ad))))))))) ?_ ?_ ?_) (fun _ w=>?_)
 rfl
 ·refine ay (ag (ac 1)) ?_
  rfl
 ·exact aq ⟨(),rfl⟩
 refine ay (ag (ac 0)) ?_
 rfl
theorem mq:OkD P w K mg base C k "lean_tree" d6 ["tree"] (a1 (bT t)):=ok1 mf fun tree_ _ _ _ _ _ _ _ _ bx _ _=>by
 show FL _ _ [vv tree_] _ _ _
 refine au (inj:=fun (_:Unit) (w:Unit)=>[vv tree_]) (ax (bd (aV (ao bx rfl T.b_isinstance br (ac 0) (aK rfl T.b_tuple (by decide +kernel) rfl)))) ?_ ?_ ?_) (fun _ w=>?_)
 rfl
 ·refine ay (ag (ac 0)) ?_
  rfl
 ·exact aq ⟨(),rfl⟩
 refine ak (ag (af bx G.g25 rfl (aa (fe_N (a7 bx rfl T.b_tuple (FAL.out (aa (fe_C (aQ (N:=["part"]) (own:=1) (cap:=[]) bx (BlkOk.of (by kernel_rfl)) (aS bx.K (ac 0)) (bc (by decide)) (fun _ _ _ _ _=>av 0 (show List.Nodup (α:=Str) ["part"] by decide +kernel)) (fun _ _ _ _ _=>(af (aA bx) G.g26 rfl (aa (ac 0) ad))))) ad)))) ad))) ?_
 rfl
theorem nT:OkD P w K mg base C k "worth_in" fA ["tree","side","x","y"] (a4 (cp t)):=ok4 d7 fun tree_ side x y _ _ _ _ _ _ _ _ bx _ _=>by
 show FL _ _ [vv tree_,vv side,vv x,vv y,nn,nn] _ _ _
 refine au (inj:=fun (_:Unit) (w:Unit)=>[vv tree_,vv side,vv x,vv y,nn,nn]) (ax (bd (aV (ao bx rfl T.b_isinstance br (ac 0) (aK rfl T.b_tuple (by decide +kernel) rfl)))) ?_ ?_ ?_) (fun _ w=>?_)
 rfl
 ·refine ay (ag (ac 0)) ?_
  rfl
 ·exact aq ⟨(),rfl⟩
 refine aj (S':=fun half=>[vv tree_,vv side,vv x,vv y,vv half,nn]) (aw 4 d7.nd (fj (ac 1) ae)) ?_ (fun half=>?_)
 rfl
 refine aj (S':=fun number=>[vv tree_,vv side,vv x,vv y,vv half,vv number]) (aw 5 d7.nd (aB bx.K (cn bx.K ae (fj (ac 3) (ac 4))) (fj (ac 2) (ac 4)))) ?_ (fun number=>?_)
 rfl
 refine ak (ag (af bx G.g43 rfl (aa (ah bx.K (ac 0) (ac 5)) (aa (ac 4) (aa (dR (ac 2) (ac 4)) (aa (dR (ac 3) (ac 4)) ad)))))) ?_
 rfl
theorem nU:OkD P w K mg base C k "depth_in" fB ["tree"] (a1 (cq t)):=ok1 nM fun tree_ _ _ _ _ _ _ _ _ bx _ _=>by
 show FL _ _ [vv tree_] _ _ _
 refine au (inj:=fun (_:Unit) (w:Unit)=>[vv tree_]) (ax (bd (aV (ao bx rfl T.b_isinstance br (ac 0) (aK rfl T.b_tuple (by decide +kernel) rfl)))) ?_ ?_ ?_) (fun _ w=>?_)
 rfl
 ·refine ay (ag ae) ?_
  rfl
 ·exact aq ⟨(),rfl⟩
 refine ak (ag (aB bx.K ae (fe_N (qd bx rfl T.b_max (FAL.out (aa (fe_C (aQ (N:=["part"]) (own:=1) (cap:=[]) bx (BlkOk.of (by kernel_rfl)) (aS bx.K (ac 0)) (bc (by decide)) (fun _ _ _ _ _=>av 0 (show List.Nodup (α:=Str) ["part"] by decide +kernel)) (fun _ _ _ _ _=>(af (aA bx) G.g93 rfl (aa (ac 0) ad))))) ad)))))) ?_
 rfl
theorem kG:OkD P w K mg base C k "is_picture" dn ["thing"] (a1 (b7 t)):=ok1 kB fun thing _ _ _ _ _ _ _ _ bx _ _=>by
 show FL _ _ [vv thing] _ _ _
 refine ak (ag (af bx G.g24 rfl (aa (ac 0) (aa (zj T.f_is_worth rfl) ad)))) ?_
 rfl
theorem hZ:OkD P w K mg base C k "check_picture" b5 ["thing"] (a1 (bu t)):=ok1 g7 fun thing _ _ _ _ _ _ _ _ bx _ made=>by
 show FL _ _ [vv thing] _ _ _
 refine lW (ax (bd (aV (af bx G.g27 rfl (aa (ac 0) ad)))) ?_ ?_ ?_)
 rfl
 ·refine ur (jn 1 bx made rfl T.c_NoPicture T.x_NoPicture (FAL.out (aa az ad))) ?_
  rfl
 ·exact aq True.intro
theorem pE:OkD P w K mg base C k "side_of" g8 ["picture"] (a1 (eU t)):=ok1 pw fun picture _ _ _ _ _ _ _ _ bx _ _=>by
 show FL _ _ [vv picture] _ _ _
 refine ak (ag (ah bx.K (lT T.t_SIDES rfl) (ah bx.K (ac 0) ae))) ?_
 rfl
theorem mr:OkD P w K mg base C k "shown_row" d8 ["picture","y"] (a2 (cB t)):=ok2 gm fun picture y _ _ _ _ _ _ _ _ bx _ _=>by
 show FL _ _ [vv picture,vv y,nn] _ _ _
 refine aj (S':=fun side=>[vv picture,vv y,vv side]) (aw 2 gm.nd (af bx G.g45 rfl (aa (ac 0) ad))) ?_ (fun side=>?_)
 rfl
 refine ak (ag (fe_N (a7 bx rfl T.b_tuple (FAL.out (aa (fe_C (aQ (N:=["x","side","y","picture"]) (own:=1) (cap:=[2,1,0]) bx (BlkOk.of (by kernel_rfl)) (fS (bj rfl T.b_range (FAL.out (aa (ac 2) ad)))) (bc (by decide)) (fun _ _ _ _ _=>av 0 (show List.Nodup (α:=Str) ["x","side","y","picture"] by decide +kernel)) (fun _ _ _ _ _=>(af (aA bx) G.g43 rfl (aa (ah (aA bx).K (ac 3) ae) (aa (ac 1) (aa (ac 0) (aa (ac 2) ad)))))))) ad))))) ?_
 rfl
theorem kH:OkD P w K mg base C k "shown_rows" dr ["picture"] (a1 (b8 t)):=ok1 kC fun picture _ _ _ _ _ _ _ _ bx _ _=>by
 show FL _ _ [vv picture] _ _ _
 refine aj (S':=fun _=>[vv picture]) (iS (af bx G.g28 rfl (aa (ac 0) ad))) ?_ (fun _=>?_)
 rfl
 refine ak (ag (fe_N (a7 bx rfl T.b_tuple (FAL.out (aa (fe_C (aQ (N:=["y","picture"]) (own:=1) (cap:=[0]) bx (BlkOk.of (by kernel_rfl)) (fS (bj rfl T.b_range (FAL.out (aa (af bx G.g45 rfl (aa (ac 0) ad)) ad)))) (bc (by decide)) (fun _ _ _ _ _=>av 0 (show List.Nodup (α:=Str) ["y","picture"] by decide +kernel)) (fun _ _ _ _ _=>(af (aA bx) G.g49 rfl (aa (ac 1) (aa (ac 0) ad)))))) ad))))) ?_
 rfl
theorem wI:OkD P w K mg base C k "lean" px ["picture"] (a1 (ju t)):=ok1 wF fun picture _ _ _ _ _ _ _ _ bx _ _=>by
 show FL _ _ [vv picture] _ _ _
 refine aj (S':=fun _=>[vv picture]) (iS (af bx G.g28 rfl (aa (ac 0) ad))) ?_ (fun _=>?_)
 rfl
 refine ak (ag (aH (aa (ah bx.K (ac 0) ae) (aa (af bx G.g26 rfl (aa (ah bx.K (ac 0) ae) ad)) ad)))) ?_
 rfl
theorem kI:OkD P w K mg base C k "check_word" du ["thing","words"] (a2 (bo t)):=ok2 kD fun thing words _ _ _ _ _ _ _ _ bx _ made=>by
 show FL _ _ [vv thing,vv words] _ _ _
 refine lW (ax (rL bx (ac 0) (ac 1)) ?_ ?_ ?_)
 rfl
 ·refine ur (jn 5 bx made rfl T.c_NoRule T.x_NoRule (FAL.out (aa az ad))) ?_
  rfl
 ·exact aq True.intro
theorem wJ:OkD P w K mg base C k "deep" pz ["picture"] (a1 (l5 t)):=ok1 wG fun picture _ _ _ _ _ _ _ _ bx _ _=>by
 show FL _ _ [vv picture] _ _ _
 refine ak (ag (af bx G.g93 rfl (aa (ah bx.K (af bx G.g29 rfl (aa (ac 0) ad)) ae) ad))) ?_
 rfl
theorem kJ:OkD P w K mg base C k "moved_tree" dv ["tree","order"] (a2 (bH t)):=ok2 kE fun tree_ order _ _ _ _ _ _ _ _ bx _ _=>by
 show FL _ _ [vv tree_,vv order] _ _ _
 refine au (inj:=fun (_:Unit) (w:Unit)=>[vv tree_,vv order]) (ax (bd (aV (ao bx rfl T.b_isinstance br (ac 0) (aK rfl T.b_tuple (by decide +kernel) rfl)))) ?_ ?_ ?_) (fun _ w=>?_)
 rfl
 ·refine ay (ag (ac 0)) ?_
  rfl
 ·exact aq ⟨(),rfl⟩
 refine ak (ag (fe_N (a7 bx rfl T.b_tuple (FAL.out (aa (fe_C (aQ (N:=["number","order","tree"]) (own:=1) (cap:=[1,0]) bx (BlkOk.of (by kernel_rfl)) (aS bx.K (ac 1)) (bc (by decide)) (fun _ _ _ _ _=>av 0 (show List.Nodup (α:=Str) ["number","order","tree"] by decide +kernel)) (fun _ _ _ _ _=>(af (aA bx) G.g69 rfl (aa (ah (aA bx).K (ac 2) (ac 0)) (aa (ac 1) ad)))))) ad))))) ?_
 rfl
theorem uJ:OkD P w K mg base C k "moved" mh ["picture","order"] (a2 (iV t)):=ok2 nN fun picture order _ _ _ _ _ _ _ _ bx _ _=>by
 show FL _ _ [vv picture,vv order,nn] _ _ _
 refine aj (S':=fun shown=>[vv picture,vv order,vv shown]) (aw 2 nN.nd (af bx G.g29 rfl (aa (ac 0) ad))) ?_ (fun shown=>?_)
 rfl
 refine ak (ag (aH (aa (ah bx.K (ac 2) ae) (aa (af bx G.g69 rfl (aa (ah bx.K (ac 2) ae) (aa (ac 1) ad))) ad)))) ?_
 rfl
theorem su:OkD P w K mg base C k "turned" jz ["picture"] (a1 (fV t)):=ok1 so fun picture _ _ _ _ _ _ _ _ bx _ _=>by
 show FL _ _ [vv picture] _ _ _
 refine ak (ag (af bx G.g70 rfl (aa (ac 0) (aa (lT T.t_BY_TURNING rfl) ad)))) ?_
 rfl
theorem nV:OkD P w K mg base C k "mirrored" fC ["picture"] (a1 (de t)):=ok1 nO fun picture _ _ _ _ _ _ _ _ bx _ _=>by
 show FL _ _ [vv picture] _ _ _
 refine ak (ag (af bx G.g70 rfl (aa (ac 0) (aa (lT T.t_BY_MIRRORING rfl) ad)))) ?_
 rfl
theorem mw:OkD P w K mg base C k "check_way" d9 ["thing"] (a1 (cC t)):=ok1 mi fun thing _ _ _ _ _ _ _ _ bx _ made=>by
 show FL _ _ [vv thing] _ _ _
 refine lW (ax (ft_w (cO (bd (aV (af bx G.g20 rfl (aa (ac 0) ad)))) (c7 (bd (v8 ae (ac 0) (eR T.k_WAYS rfl)))))) ?_ ?_ ?_)
 rfl
 ·refine ur (jn 2 bx made rfl T.c_NoSpot T.x_NoSpot (FAL.out (aa az ad))) ?_
  rfl
 ·exact aq True.intro
theorem sv:OkD P w K mg base C k "by_way" jA ["picture","way"] (a2 (fW t)):=ok2 cR fun picture way _ _ _ _ _ _ _ _ bx hpo _=>by
 show FL _ _ [vv picture,vv way,nn,nn] _ _ _
 refine aj (S':=fun told=>[vv picture,vv way,vv told,nn]) (aw 2 cR.nd (af bx G.g29 rfl (aa (ac 0) ad))) ?_ (fun told=>?_)
 rfl
 refine aj (S':=fun _=>[vv picture,vv way,vv told,nn]) (iS (af bx G.g127 rfl (aa (ac 1) ad))) ?_ (fun _=>?_)
 rfl
 refine au (inj:=fun (told2:D) (w:Unit)=>[vv picture,vv way,vv told2,nn]) (ax (xy (ac 1) (eR T.k_TURNS rfl)) ?_ ?_ ?_) (fun told2 w=>?_)
 rfl
 ·refine aj (S':=fun told1=>[vv picture,vv way,vv told1,nn]) (aw 2 cR.nd (af bx G.g84 rfl (aa (ac 2) ad))) ?_ (fun told1=>?_)
  rfl
  exact aq ⟨(),rfl⟩
 ·exact aq ⟨(),rfl⟩
 refine au (inj:=fun (s:D) (w1:Option Sl)=>[vv picture,vv way,vv s,w1]) (bn 3 (B:=fun (s:D) (w1:Option Sl) x1=>[vv picture,vv way,vv s,vv x1]) nn hpo rfl (fS (bj rfl T.b_range (FAL.out (aa (dR (ac 1) (eR T.k_TURNS rfl)) ad)))) ?_ (av 3 cR.nd) rfl (fun _ _ _=>rfl) (fun s w1 x1=>?_)) (fun told4 w2=>?_)
 rfl
 ·refine aj (S':=fun told3=>[vv picture,vv way,vv told3,vv x1]) (aw 2 cR.nd (af bx G.g125 rfl (aa (ac 2) ad))) ?_ (fun told3=>?_)
  rfl
  exact aq ⟨vv x1,rfl⟩
 refine ay (ag (ac 2)) ?_
 rfl
theorem my:OkD P w K mg base C k "worths_of" eg ["rows"] (a1 (cE t)):=ok1 dz fun rows _ _ _ _ _ _ _ _ bx hpo _=>by
 show FL _ _ [vv rows,nn,nn] _ _ _
 refine bq (S':=[vv rows,ow [],nn]) (fs_O (dX 1 dz.nd (FAL.out ad))) ?_ ?_
 rfl
 refine au (inj:=fun (s:List D) (w:Option Sl)=>[vv rows,ow s,w]) (bn 2 (B:=fun (s:List D) (w:Option Sl) x=>[vv rows,ow s,vv x]) nn hpo rfl (aS bx.K (ac 0)) ?_ (av 2 dz.nd) rfl (fun _ _ _=>rfl) (fun s w x=>?_)) (fun worths1 w1=>?_)
 rfl
 ·refine aj (S':=fun worths=>[vv rows,ow worths,vv x]) (fs_X (bC 1 bx.K (FAL.out (aa (ac 2) ad)))) ?_ (fun worths=>?_)
  rfl
  exact aq ⟨vv x,rfl⟩
 refine dY 1 (S':=[vv rows,vv (.lst worths1),w1]) rfl rfl ?_
 refine ay (ag (ac 1)) ?_
 rfl
theorem sw:OkD P w K mg base C k "counts" jB ["picture"] (a1 (fX t)):=ok1 li fun picture _ _ _ _ _ _ _ _ bx _ _=>by
 show FL _ _ [vv picture,nn] _ _ _
 refine aj (S':=fun worths=>[vv picture,vv worths]) (aw 1 li.nd (af bx G.g72 rfl (aa (af bx G.g50 rfl (aa (ac 0) ad)) ad))) ?_ (fun worths=>?_)
 rfl
 refine ak (ag (fe_N (a7 bx rfl T.b_tuple (FAL.out (aa (fe_C (aQ (N:=["worth","worths"]) (own:=1) (cap:=[1]) bx (BlkOk.of (by kernel_rfl)) (fS (bj rfl T.b_range (FAL.out (aa (aB bx.K (eR T.k_GREATEST_WORTH rfl) ae) ad)))) (bc (by decide)) (fun _ _ _ _ _=>av 0 (show List.Nodup (α:=Str) ["worth","worths"] by decide +kernel)) (fun _ _ _ _ _=>(nr (k7 (aA bx) (ac 1) (FAL.out (aa (ac 0) ad))))))) ad))))) ?_
 rfl
theorem kK:OkD P w K mg base C k "worths_met" dA ["many"] (a1 (b9 t)):=ok1 kF fun many _ _ _ _ _ _ _ _ bx _ _=>by
 show FL _ _ [vv many] _ _ _
 refine ak (ag (zk (kY (N:=["worth","times"]) (own:=2) (cap:=[]) bx (BlkOk.of (by kernel_rfl)) (lZ bx rfl T.b_enumerate (ac 0)) (uw (by decide) (by decide)) (fun _ _ _ _ _=>wu 0 1 rfl (show List.Nodup (α:=Str) ["worth","times"] by decide +kernel)) (fun _ _ _ _ _=>(xw (ac 1) ae)) (fun _ _ _ _ _=>(ac 0))))) ?_
 rfl
theorem iz:OkD P w K mg base C k "most_met" fD ["many"] (a1 (df t)):=ok1 nP fun many _ _ _ _ _ _ _ _ bx _ _=>by
 show FL _ _ [vv many] _ _ _
 refine ak (ag (rW bx (ac 0) (aa (fe_N (wC bx rfl T.b_max (FAL.out (aa (ac 0) ad)))) ad))) ?_
 rfl
theorem gq:OkD P w K mg base C k "least_met" eh ["many"] (a1 (cF t)):=ok1 mj fun many _ _ _ _ _ _ _ _ bx _ _=>by
 show FL _ _ [vv many] _ _ _
 refine ak (ag (ah bx.K (af bx G.g292 rfl (aa (ac 0) ad)) ae)) ?_
 rfl
theorem dM:OkD P w K mg base C k "greatest_met" cx ["many"] (a1 (bI t)):=ok1 iL fun many _ _ _ _ _ _ _ _ bx _ _=>by
 show FL _ _ [vv many] _ _ _
 refine ak (ag (ah bx.K (af bx G.g292 rfl (aa (ac 0) ad)) (ul ae))) ?_
 rfl
theorem mz:OkD P w K mg base C k "seen_tree" en ["size","tree","far","choose"] (a4 (bh t)):=ok4 mk fun size_ tree_ far choose _ _ _ _ _ _ _ _ bx _ _=>by
 show FL _ _ [vv size_,vv tree_,vv far,vv choose] _ _ _
 refine au (inj:=fun (_:Unit) (w:Unit)=>[vv size_,vv tree_,vv far,vv choose]) (ax (bd (aV (ao bx rfl T.b_isinstance br (ac 1) (aK rfl T.b_tuple (by decide +kernel) rfl)))) ?_ ?_ ?_) (fun _ w=>?_)
 rfl
 ·refine ay (ag (ac 1)) ?_
  rfl
 ·exact aq ⟨(),rfl⟩
 refine au (inj:=fun (_:Unit) (w1:Unit)=>[vv size_,vv tree_,vv far,vv choose]) (ax (dS bx (ac 2) ae) ?_ ?_ ?_) (fun _ w1=>?_)
 rfl
 ·refine ak (ag (nh bx G.v (ac 3) (aa (af bx G.g75 rfl (aa (aH (aa (ac 0) (aa (ac 1) ad))) ad)) ad))) ?_
  rfl
 ·exact aq ⟨(),rfl⟩
 refine ak (ag (af bx G.g25 rfl (aa (fe_N (a7 bx rfl T.b_tuple (FAL.out (aa (fe_C (aQ (N:=["part","choose","size","far"]) (own:=1) (cap:=[3,0,2]) bx (BlkOk.of (by kernel_rfl)) (aS bx.K (ac 1)) (bc (by decide)) (fun _ _ _ _ _=>av 0 (show List.Nodup (α:=Str) ["part","choose","size","far"] by decide +kernel)) (fun _ _ _ _ _=>(af (aA bx) G.g296 rfl (aa (c9 (ac 2) ae) (aa (ac 0) (aa (c9 (ac 3) ae) (aa (ac 1) ad)))))))) ad)))) ad))) ?_
 rfl
theorem mB:OkD P w K mg base C k "seen_from" et ["picture","far","rule"] (a3 (bD t)):=ok3 gn fun picture far rule _ _ _ _ _ _ _ _ bx _ _=>by
 show FL _ _ [vv picture,vv far,vv rule,nn] _ _ _
 refine aj (S':=fun _=>[vv picture,vv far,vv rule,nn]) (iS (af bx G.g154 rfl (aa (ac 2) (aa (o7 bx rfl T.b_list T.d_VIEWS rfl) ad)))) ?_ (fun _=>?_)
 rfl
 refine aj (S':=fun told=>[vv picture,vv far,vv rule,vv told]) (aw 3 gn.nd (af bx G.g29 rfl (aa (ac 0) ad))) ?_ (fun told=>?_)
 rfl
 refine ak (ag (aH (aa (ah bx.K (ac 3) ae) (aa (af bx G.g296 rfl (aa (ah bx.K (ac 3) ae) (aa (ah bx.K (ac 3) ae) (aa (ac 1) (aa (yL bx T.d_VIEWS rfl (ac 2)) ad))))) ad)))) ?_
 rfl
theorem sx:OkD P w K mg base C k "_law_cell" jC ["_law_script","_law_k"] (a2 (fY t)):=ok2 sr fun zw zM _ _ _ _ _ _ _ _ bx _ _=>by
 show FL _ _ [vv zw,vv zM] _ _ _
 refine au (inj:=fun (_:Unit) (w:Unit)=>[vv zw,vv zM]) (ax (xv (ac 1) (fe_N (bE bx rfl T.b_len (FAL.out (aa (ac 0) ad))))) ?_ ?_ ?_) (fun _ w=>?_)
 rfl
 ·refine ak (ag (ah bx.K (ac 0) (ac 1))) ?_
  rfl
 ·exact aq ⟨(),rfl⟩
 refine au (inj:=fun (_:Unit) (w1:Unit)=>[vv zw,vv zM]) (ax (dS bx (ac 0) (aT ad)) ?_ ?_ ?_) (fun _ w1=>?_)
 rfl
 ·refine ay (ag ae) ?_
  rfl
 ·exact aq ⟨(),rfl⟩
 refine ak (ag (aB bx.K (cn bx.K (ah bx.K (ac 0) (dR (ac 1) (fe_N (bE bx rfl T.b_len (FAL.out (aa (ac 0) ad)))))) ae) (ac 1))) ?_
 rfl
theorem sy:OkD P w K mg base C k "_law_pick" jD ["_law_script","_law_k","_law_many"] (a3 (fZ t)):=ok3 lj fun zw zM zz _ _ _ _ _ _ _ _ bx _ _=>by
 show FL _ _ [vv zw,vv zM,vv zz,nn] _ _ _
 refine aj (S':=fun Ae=>[vv zw,vv zM,vv zz,vv Ae]) (aw 3 lj.nd (dR (cn bx.K (aB bx.K (af bx G.g30 rfl (aa (ac 0) (aa (ac 1) ad))) (cn bx.K ae (aB bx.K (ac 1) ae))) ae) ae)) ?_ (fun Ae=>?_)
 rfl
 refine ak (ag (dR (dR (aB bx.K (cn bx.K (ac 3) (ac 3)) (fj (ac 3) ae)) ae) (ac 2))) ?_
 rfl
theorem sA:OkD P w K mg base C k "_law_tree" jE ["_law_script","_law_at","_law_size"] (a3 (dZ t)):=ok3 ll fun zw zQ zB _ _ _ _ _ _ _ _ bx _ _=>by
 show FL _ _ [vv zw,vv zQ,vv zB,nn] _ _ _
 refine aj (S':=fun zX=>[vv zw,vv zQ,vv zB,vv zX]) (aw 3 ll.nd (af bx G.g31 rfl (aa (ac 0) (aa (ac 1) (aa ae ad))))) ?_ (fun zX=>?_)
 rfl
 refine au (inj:=fun (_:Unit) (w:Unit)=>[vv zw,vv zQ,vv zB,vv zX]) (ax (ft_w (cO (dS bx (ac 2) ae) (c7 (xv (ac 3) ae)))) ?_ ?_ ?_) (fun _ w=>?_)
 rfl
 ·refine ak (ag (ah bx.K (aT (aa ae (aa ae (aa ae (aa ae (aa ae (aa (af bx G.g31 rfl (aa (ac 0) (aa (aB bx.K (ac 1) ae) (aa ae ad)))) ad))))))) (af bx G.g31 rfl (aa (ac 0) (aa (aB bx.K (ac 1) ae) (aa ae ad)))))) ?_
  rfl
 ·exact aq ⟨(),rfl⟩
 refine au (inj:=fun (_:Unit) (w1:Unit)=>[vv zw,vv zQ,vv zB,vv zX]) (ax (dS bx (ac 3) ae) ?_ ?_ ?_) (fun _ w1=>?_)
 rfl
 ·refine ak (ag (cn bx.K (aH (aa (af bx G.g32 rfl (aa (ac 0) (aa (aB bx.K (ac 1) ae) (aa (c9 (ac 2) ae) ad)))) ad)) ae)) ?_
  rfl
 ·exact aq ⟨(),rfl⟩
 refine ak (ag (fe_N (a7 bx rfl T.b_tuple (FAL.out (aa (fe_C (aQ (N:=["_law_k","_law_script","_law_size","_law_at"]) (own:=1) (cap:=[0,2,1]) bx (BlkOk.of (by kernel_rfl)) (fS (bj rfl T.b_range (FAL.out (aa ae ad)))) (bc (by decide)) (fun _ _ _ _ _=>av 0 (show List.Nodup (α:=Str) ["_law_k","_law_script","_law_size","_law_at"] by decide +kernel)) (fun _ _ _ _ _=>(af (aA bx) G.g32 rfl (aa (ac 1) (aa (aB (aA bx).K (aB (aA bx).K (cn (aA bx).K ae (ac 3)) ae) (cn (aA bx).K ae (ac 0))) (aa (c9 (ac 2) ae) ad))))))) ad))))) ?_
 rfl
theorem mC:OkD P w K mg base C k "_law_picture" ez ["_law_script","_law_at","_law_most"] (a3 (cG t)):=ok3 gp fun zw zQ Aq _ _ _ _ _ _ _ _ bx _ _=>by
 show FL _ _ [vv zw,vv zQ,vv Aq,nn] _ _ _
 refine aj (S':=fun zB=>[vv zw,vv zQ,vv Aq,vv zB]) (aw 3 gp.nd (fe_N (p6 bx rfl T.b_max (FAL.out (aa ae (aa (c9 (ac 2) (ah bx.K (aT (aa ae (aa ae (aa ae (aa ae (aa ae (aa ae (aa ae ad)))))))) (af bx G.g31 rfl (aa (ac 0) (aa (ac 1) (aa ae ad)))))) ad)))))) ?_ (fun zB=>?_)
 rfl
 refine ak (ag (aH (aa (ac 3) (aa (af bx G.g32 rfl (aa (ac 0) (aa (aB bx.K (ac 1) ae) (aa (ac 3) ad)))) ad)))) ?_
 rfl
theorem mD:OkD P w K mg base C k "_law_rows_of" eB ["_law_size","_law_tree_here"] (a2 (bU t)):=ok2 bL fun zB zF _ _ _ _ _ _ _ _ bx hpo _=>by
 show FL _ _ [vv zB,vv zF,nn,nn,nn,nn] _ _ _
 refine au (inj:=fun (_:Unit) (w:Unit)=>[vv zB,vv zF,nn,nn,nn,nn]) (ax (dS bx (ac 0) ae) ?_ ?_ ?_) (fun _ w=>?_)
 rfl
 ·refine ay (ag (aT (aa (aT (aa (ac 1) ad)) ad))) ?_
  rfl
 ·exact aq ⟨(),rfl⟩
 refine aj (S':=fun zK=>[vv zB,vv zF,vv zK,nn,nn,nn]) (aw 2 bL.nd (xt (aV (ao bx rfl T.b_isinstance br (ac 1) (aK rfl T.b_tuple (by decide +kernel) rfl))) (ac 1) (cn bx.K (aH (aa (ac 1) ad)) ae))) ?_ (fun zK=>?_)
 rfl
 refine aj (S':=fun zN=>[vv zB,vv zF,vv zK,vv zN,nn,nn]) (aw 3 bL.nd (fe_C (aQ (N:=["_law_part","_law_size"]) (own:=1) (cap:=[0]) bx (BlkOk.of (by kernel_rfl)) (aS bx.K (ac 2)) (bc (by decide)) (fun _ _ _ _ _=>av 0 (show List.Nodup (α:=Str) ["_law_part","_law_size"] by decide +kernel)) (fun _ _ _ _ _=>(af (aA bx) G.g54 rfl (aa (c9 (ac 1) ae) (aa (ac 0) ad)))))) (hs:=by kernel_rfl)) ?_ (fun zN=>?_)
 rfl
 refine bq (S':=[vv zB,vv zF,vv zK,vv zN,ow [],nn]) (fs_O (dX 4 bL.nd (FAL.out ad))) ?_ ?_
 rfl
 refine au (inj:=fun (s:List D) (w1:Option Sl)=>[vv zB,vv zF,vv zK,vv zN,ow s,w1]) (bn 5 (B:=fun (s:List D) (w1:Option Sl) x1=>[vv zB,vv zF,vv zK,vv zN,ow s,vv x1]) nn hpo rfl (aS bx.K (aH (aa ae (aa ae ad)))) ?_ (av 5 bL.nd) rfl (fun _ _ _=>rfl) (fun s w1 x1=>?_)) (fun zP w2=>?_)
 rfl
 ·refine aj (S':=fun zH=>[vv zB,vv zF,vv zK,vv zN,ow zH,vv x1]) (fs_X (bC 4 bx.K (FAL.out (aa (fe_C (aQ (N:=["_law_k","_law_some","_law_upper"]) (own:=1) (cap:=[3,5]) bx (BlkOk.of (by kernel_rfl)) (fS (bj rfl T.b_range (FAL.out (aa (fe_N (bE bx rfl T.b_len (FAL.out (aa (ah bx.K (ac 3) (ac 5)) ad)))) ad)))) (bc (by decide)) (fun _ _ _ _ _=>av 0 (show List.Nodup (α:=Str) ["_law_k","_law_some","_law_upper"] by decide +kernel)) (fun _ _ _ _ _=>(aB (aA bx).K (ah (aA bx).K (ah (aA bx).K (ac 1) (ac 2)) (ac 0)) (ah (aA bx).K (ah (aA bx).K (ac 1) (aB (aA bx).K (ac 2) ae)) (ac 0)))))) ad)))) ?_ (fun zH=>?_)
  rfl
  exact aq ⟨vv x1,rfl⟩
 refine dY 4 (S':=[vv zB,vv zF,vv zK,vv zN,vv (.lst zP),w2]) rfl rfl ?_
 refine ay (ag (ac 4)) ?_
 rfl
theorem sB:OkD P w K mg base C k "_law_rows" jF ["_law_picture_here"] (a1 (f8 t)):=ok1 ss fun zv _ _ _ _ _ _ _ _ bx _ _=>by
 show FL _ _ [vv zv] _ _ _
 refine ak (ag (fe_N (a7 bx rfl T.b_tuple (FAL.out (aa (fe_C (aQ (N:=["_law_row"]) (own:=1) (cap:=[]) bx (BlkOk.of (by kernel_rfl)) (aS bx.K (af bx G.g54 rfl (aa (ah bx.K (ac 0) ae) (aa (ah bx.K (ac 0) ae) ad)))) (bc (by decide)) (fun _ _ _ _ _=>av 0 (show List.Nodup (α:=Str) ["_law_row"] by decide +kernel)) (fun _ _ _ _ _=>(fe_N (a7 (aA bx) rfl T.b_tuple (FAL.out (aa (ac 0) ad))))))) ad))))) ?_
 rfl
theorem pF:OkD P w K mg base C k "_law_least" g9 ["_law_rows_here"] (a1 (cQ t)):=ok1 bz fun zu _ _ _ _ _ _ _ _ bx hpo _=>by
 show FL _ _ [vv zu,nn,nn,nn,nn,nn,nn] _ _ _
 refine bq (S':=[vv zu,ow [],nn,nn,nn,nn,nn]) (fs_O (dX 1 bz.nd (FAL.out ad))) ?_ ?_
 rfl
 refine au (inj:=fun (s:List D) (w:Option Sl)=>[vv zu,ow s,w,nn,nn,nn,nn]) (bn 2 (B:=fun (s:List D) (w:Option Sl) x=>[vv zu,ow s,vv x,nn,nn,nn,nn]) nn hpo rfl (aS bx.K (ac 0)) ?_ (av 2 bz.nd) rfl (fun _ _ _=>rfl) (fun s w x=>?_)) (fun zG w1=>?_)
 rfl
 ·refine aj (S':=fun Ah=>[vv zu,ow Ah,vv x,nn,nn,nn,nn]) (fs_X (bC 1 bx.K (FAL.out (aa (ac 2) ad)))) ?_ (fun Ah=>?_)
  rfl
  exact aq ⟨vv x,rfl⟩
 refine dY 1 (S':=[vv zu,vv (.lst zG),w1,nn,nn,nn,nn]) rfl rfl ?_
 refine au (inj:=fun (_:Unit) (w2:Unit)=>[vv zu,vv (.lst zG),w1,nn,nn,nn,nn]) (ax (dS bx (fe_N (rM bx rfl T.b_len rfl T.b_set (FAL.out (aa (ac 1) ad)))) ae) ?_ ?_ ?_) (fun _ w2=>?_)
 rfl
 ·refine ak (ag (ah bx.K (ac 1) ae)) ?_
  rfl
 ·exact aq ⟨(),rfl⟩
 refine aj (S':=fun zO=>[vv zu,vv (.lst zG),w1,vv zO,nn,nn,nn]) (aw 3 bz.nd (fj (fe_N (bE bx rfl T.b_len (FAL.out (aa (ac 0) ad)))) ae)) ?_ (fun zO=>?_)
 rfl
 refine bq (S':=[vv zu,vv (.lst zG),w1,vv zO,ow [],nn,nn]) (fs_O (dX 4 bz.nd (FAL.out ad))) ?_ ?_
 rfl
 refine au (inj:=fun (s1:List D) (w3:Option Sl×Option Sl)=>[vv zu,vv (.lst zG),w1,vv zO,ow s1,w3.1,w3.2]) (bn 5 (B:=fun (s1:List D) (w3:Option Sl×Option Sl) x3=>[vv zu,vv (.lst zG),w1,vv zO,ow s1,vv x3,w3.2]) (nn,nn) hpo rfl (aS bx.K (aH (aa ae (aa (ac 3) ad)))) ?_ (av 5 bz.nd) rfl (fun _ _ _=>rfl) (fun s1 w3 x3=>?_)) (fun Af w6=>?_)
 rfl
 ·refine au (inj:=fun (s2:List D) (w4:Option Sl)=>[vv zu,vv (.lst zG),w1,vv zO,ow s2,vv x3,w4]) (bn 6 (B:=fun (s2:List D) (w4:Option Sl) x4=>[vv zu,vv (.lst zG),w1,vv zO,ow s2,vv x3,vv x4]) w3.2 hpo rfl (aS bx.K (aH (aa ae (aa (ac 3) ad)))) ?_ (av 6 bz.nd) rfl (fun _ _ _=>rfl) (fun s2 w4 x4=>?_)) (fun At w5=>?_)
  rfl
  ·refine aj (S':=fun zK=>[vv zu,vv (.lst zG),w1,vv zO,ow zK,vv x3,vv x4]) (fs_A (k4 4 (FAL.out (aa (af bx G.g56 rfl (aa (fe_C (aQ (N:=["_law_row","_law_left","_law_half"]) (own:=1) (cap:=[6,3]) bx (BlkOk.of (by kernel_rfl)) (aS bx.K (fm bx.K (ac 0) (dU (ac 5)) (dU (aB bx.K (ac 5) (ac 3))))) (bc (by decide)) (fun _ _ _ _ _=>av 0 (show List.Nodup (α:=Str) ["_law_row","_law_left","_law_half"] by decide +kernel)) (fun _ _ _ _ _=>(fm (aA bx).K (ac 0) (dU (ac 1)) (dU (aB (aA bx).K (ac 1) (ac 2))))))) ad)) ad)))) ?_ (fun zK=>?_)
   rfl
   exact aq ⟨vv x4,rfl⟩
  exact aq ⟨(vv x3,w5),rfl⟩
 refine dY 4 (S':=[vv zu,vv (.lst zG),w1,vv zO,vv (.lst Af),w6.1,w6.2]) rfl rfl ?_
 refine ak (ag (fe_N (a7 bx rfl T.b_tuple (FAL.out (aa (ac 4) ad))))) ?_
 rfl
theorem wK:OkD P w K mg base C k "_law_of" pA ["_law_rows_here"] (a1 (l6 t)):=ok1 wH fun zu _ _ _ _ _ _ _ _ bx _ _=>by
 show FL _ _ [vv zu] _ _ _
 refine ak (ag (aH (aa (nr (rJ bx (aT (aa ae (aa ae (aa ae (aa ae ad))))) (FAL.out (aa (fe_N (bE bx rfl T.b_len (FAL.out (aa (ac 0) ad)))) ad)))) (aa (af bx G.g56 rfl (aa (ac 0) ad)) ad)))) ?_
 rfl
theorem nW:OkD P w K mg base C k "_law_places" fE ["_law_thing"] (a1 (cv t)):=ok1 eD fun zx _ _ _ _ _ _ _ _ bx hpo _=>by
 show FL _ _ [vv zx,nn,nn] _ _ _
 refine bq (S':=[vv zx,ow ([(.tup [])]),nn]) (fs_O (dX 1 eD.nd (FAL.out (aa (aH ad) ad)))) ?_ ?_
 rfl
 refine au (inj:=fun (Ab:List D) (w2:Option Sl)=>[vv zx,ow Ab,w2]) (ax (aV (ao bx rfl T.b_isinstance br (ac 0) (aK rfl T.b_tuple (by decide +kernel) rfl))) ?_ ?_ ?_) (fun Ab w2=>?_)
 rfl
 ·refine au (inj:=fun (s:List D) (w:Option Sl)=>[vv zx,ow s,w]) (bn 2 (B:=fun (s:List D) (w:Option Sl) x1=>[vv zx,ow s,vv x1]) nn hpo rfl (fS (bj rfl T.b_range (FAL.out (aa (fe_N (bE bx rfl T.b_len (FAL.out (aa (ac 0) ad)))) ad)))) ?_ (av 2 eD.nd) rfl (fun _ _ _=>rfl) (fun s w x1=>?_)) (fun zP w1=>?_)
  rfl
  ·refine aj (S':=fun zH=>[vv zx,ow zH,vv x1]) (fs_X (bC 1 bx.K (FAL.out (aa (fe_C (aQ (N:=["_law_place","_law_k"]) (own:=1) (cap:=[2]) bx (BlkOk.of (by kernel_rfl)) (aS bx.K (af bx G.g34 rfl (aa (ah bx.K (ac 0) (ac 2)) ad))) (bc (by decide)) (fun _ _ _ _ _=>av 0 (show List.Nodup (α:=Str) ["_law_place","_law_k"] by decide +kernel)) (fun _ _ _ _ _=>(aB (aA bx).K (aH (aa (ac 1) ad)) (ac 0))))) ad)))) ?_ (fun zH=>?_)
   rfl
   exact aq ⟨vv x1,rfl⟩
  exact aq ⟨w1,rfl⟩
 ·exact aq ⟨nn,rfl⟩
 refine dY 1 (S':=[vv zx,vv (.lst Ab),w2]) rfl rfl ?_
 refine ay (ag (ac 1)) ?_
 rfl
theorem uK:OkD P w K mg base C k "_law_put" mm ["_law_thing","_law_place","_law_new"] (a3 (f9 t)):=ok3 nQ fun zx zC An _ _ _ _ _ _ _ _ bx _ _=>by
 show FL _ _ [vv zx,vv zC,vv An,nn] _ _ _
 refine au (inj:=fun (_:Unit) (w:Unit)=>[vv zx,vv zC,vv An,nn]) (ax (dS bx (ac 1) (aH ad)) ?_ ?_ ?_) (fun _ w=>?_)
 rfl
 ·refine ay (ag (ac 2)) ?_
  rfl
 ·exact aq ⟨(),rfl⟩
 refine aj (S':=fun zM=>[vv zx,vv zC,vv An,vv zM]) (aw 3 nQ.nd (ah bx.K (ac 1) ae)) ?_ (fun zM=>?_)
 rfl
 refine ak (ag (aB bx.K (aB bx.K (fm bx.K (ac 0) ue (dU (ac 3))) (aH (aa (af bx G.g35 rfl (aa (ah bx.K (ac 0) (ac 3)) (aa (fm bx.K (ac 1) (dU ae) ue) (aa (ac 2) ad)))) ad))) (fm bx.K (ac 0) (dU (aB bx.K (ac 3) ae)) ue))) ?_
 rfl
theorem pG:OkD P w K mg base C k "_law_there" hG ["_law_thing","_law_place"] (a2 (eV t)):=ok2 fF fun zx zC _ _ _ _ _ _ _ _ bx hpo _=>by
 show FL _ _ [vv zx,vv zC,nn] _ _ _
 refine au (inj:=fun (s:D) (w:Option Sl)=>[vv s,vv zC,w]) (bn 2 (B:=fun (s:D) (w:Option Sl) x=>[vv s,vv zC,vv x]) nn hpo rfl (aS bx.K (ac 1)) ?_ (av 2 fF.nd) rfl (fun _ _ _=>rfl) (fun s w x=>?_)) (fun Au w1=>?_)
 rfl
 ·refine aj (S':=fun Ai=>[vv Ai,vv zC,vv x]) (aw 0 fF.nd (ah bx.K (ac 0) (ac 2))) ?_ (fun Ai=>?_)
  rfl
  exact aq ⟨vv x,rfl⟩
 refine ay (ag (ac 0)) ?_
 rfl
theorem gr:OkD P w K mg base C k "_law_spoilt_thing" bQ ["_law_script","_law_at","_law_thing"] (a3 (bp t)):=ok3 aR fun zw zQ zx _ _ _ _ _ _ _ _ bx _ _=>by
 show FL _ _ [vv zw,vv zQ,vv zx,nn,nn,nn,nn] _ _ _
 refine aj (S':=fun zJ=>[vv zw,vv zQ,vv zx,vv zJ,nn,nn,nn]) (aw 3 aR.nd (af bx G.g34 rfl (aa (ac 2) ad))) ?_ (fun zJ=>?_)
 rfl
 refine aj (S':=fun zC=>[vv zw,vv zQ,vv zx,vv zJ,vv zC,nn,nn]) (aw 4 aR.nd (ah bx.K (ac 3) (af bx G.g31 rfl (aa (ac 0) (aa (ac 1) (aa (fe_N (bE bx rfl T.b_len (FAL.out (aa (ac 3) ad)))) ad)))))) ?_ (fun zC=>?_)
 rfl
 refine aj (S':=fun Ag=>[vv zw,vv zQ,vv zx,vv zJ,vv zC,vv Ag,nn]) (aw 5 aR.nd (af bx G.g36 rfl (aa (ac 2) (aa (ac 4) ad)))) ?_ (fun Ag=>?_)
 rfl
 refine bq (S':=[vv zw,vv zQ,vv zx,vv zJ,vv zC,vv Ag,ow ([(.int (-1)),(.int 0),(.int 3),(.int 4),(.int 9),(.int 10),(.bl true),.non,(.str "1"),(.tup []),(.tup [(.int 1),(.int 2),(.int 3)]),(.tup [(.int 1),(.int 1),(.int 1),(.int 1)]),(.tup [(.int 1),(.int 2),(.int 3),(.int 4),(.int 5)])])]) (fs_O (dX 6 aR.nd (FAL.out (aa (ul ae) (aa ae (aa ae (aa ae (aa ae (aa ae (aa dH (aa jd (aa az (aa (aH ad) (aa (aH (aa ae (aa ae (aa ae ad)))) (aa (aH (aa ae (aa ae (aa ae (aa ae ad))))) (aa (aH (aa ae (aa ae (aa ae (aa ae (aa ae ad)))))) ad)))))))))))))))) ?_ ?_
 rfl
 refine aj (S':=fun zN=>[vv zw,vv zQ,vv zx,vv zJ,vv zC,vv Ag,ow zN]) (fs_X (bC 6 bx.K (FAL.out (aa (aT (aa (aT (aa ae (aa ae (aa ae (aa ae ad))))) (aa (cn bx.K (aH (aa (ac 5) ad)) ae) ad))) ad)))) ?_ (fun zN=>?_)
 rfl
 refine ak (ag (af bx G.g35 rfl (aa (ac 2) (aa (ac 4) (aa (um 6 bx.K (af bx G.g31 rfl (aa (ac 0) (aa (aB bx.K (ac 1) ae) (aa ae ad))))) ad))))) ?_
 rfl
theorem iP:OkD P w K mg base C k "_law_is_picture" cy ["_law_thing"] (a1 (bJ t)):=ok1 iM fun zx _ _ _ _ _ _ _ _ bx _ _=>by
 show FL _ _ [vv zx] _ _ _
 refine au (inj:=fun (_:Unit) (w:Unit)=>[vv zx]) (ax (ft_w (cO (bd (aV (ao bx rfl T.b_isinstance br (ac 0) (aK rfl T.b_tuple (by decide +kernel) rfl)))) (cO (dJ bx (fe_N (bE bx rfl T.b_len (FAL.out (aa (ac 0) ad)))) ae) (cO (bd (aV (ao bx rfl T.b_isinstance lR (ah bx.K (ac 0) ae) (aK rfl T.b_int (by decide +kernel) rfl)))) (c7 (aV (ao bx rfl T.b_isinstance jl (ah bx.K (ac 0) ae) (aK rfl T.b_bool (by decide +kernel) rfl)))))))) ?_ ?_ ?_) (fun _ w=>?_)
 rfl
 ·refine ay (ag dH) ?_
  rfl
 ·exact aq ⟨(),rfl⟩
 refine ak (ag (je (iU ae (ah bx.K (ac 0) ae) ae) (gM (af bx G.g39 rfl (aa (ah bx.K (ac 0) ae) (aa (ah bx.K (ac 0) ae) ad)))))) ?_
 rfl
theorem mE:OkD P w K mg base C k "_law_is_tree" eE ["_law_thing","_law_size"] (a2 (bV t)):=ok2 mn fun zx zB _ _ _ _ _ _ _ _ bx _ _=>by
 show FL _ _ [vv zx,vv zB] _ _ _
 refine au (inj:=fun (_:Unit) (w:Unit)=>[vv zx,vv zB]) (ax (ft_w (oP (aV (ao bx rfl T.b_isinstance lR (ac 0) (aK rfl T.b_int (by decide +kernel) rfl))) (lO (bd (aV (ao bx rfl T.b_isinstance jl (ac 0) (aK rfl T.b_bool (by decide +kernel) rfl))))))) ?_ ?_ ?_) (fun _ w=>?_)
 rfl
 ·refine ak (ag (iU ae (ac 0) ae)) ?_
  rfl
 ·exact aq ⟨(),rfl⟩
 refine au (inj:=fun (_:Unit) (w1:Unit)=>[vv zx,vv zB]) (ax (ft_w (cO (bd (aV (ao bx rfl T.b_isinstance br (ac 0) (aK rfl T.b_tuple (by decide +kernel) rfl)))) (cO (dJ bx (fe_N (bE bx rfl T.b_len (FAL.out (aa (ac 0) ad)))) ae) (c7 (dS bx (ac 1) ae))))) ?_ ?_ ?_) (fun _ w1=>?_)
 rfl
 ·refine ay (ag dH) ?_
  rfl
 ·exact aq ⟨(),rfl⟩
 refine ak (ag (xz bx (fe_C (kY (N:=["_law_part","_law_size"]) (own:=1) (cap:=[1]) bx (BlkOk.of (by kernel_rfl)) (aS bx.K (ac 0)) (bc (by decide)) (fun _ _ _ _ _=>av 0 (show List.Nodup (α:=Str) ["_law_part","_law_size"] by decide +kernel)) (fun _ _ _ _ _=>(bd (aV (af (aA bx) G.g39 rfl (aa (ac 0) (aa (c9 (ac 1) ae) ad)))))) (fun _ _ _ _ _=>(ac 0)))) (aT ad))) ?_
 rfl
theorem sC:OkD P w K mg base C k "_law_word" jG ["_law_kept"] (a1 (d4 t)):=ok1 hJ fun zL _ _ _ _ _ _ _ _ bx _ _=>by
 show FL _ _ [vv zL,nn,nn] _ _ _
 refine aj (S':=fun Ao=>[vv zL,ow Ao,nn]) (fs_O (dX 1 hJ.nd (FAL.out (aa (ao bx rfl T.b_isinstance T.i_BadBox (ac 0) (aX rfl T.c_BadBox rfl)) (aa (ao bx rfl T.b_isinstance T.i_NoBlocks (ac 0) (aX rfl T.c_NoBlocks rfl)) (aa (ao bx rfl T.b_isinstance T.i_NoChange (ac 0) (aX rfl T.c_NoChange rfl)) ad)))))) ?_ (fun Ao=>?_)
 rfl
 refine aj (S':=fun Aj=>[vv zL,ow Aj,nn]) (fs_A (k4 1 (FAL.out (aa (ao bx rfl T.b_isinstance T.i_NoNumber (ac 0) (aX rfl T.c_NoNumber rfl)) ad)))) ?_ (fun Aj=>?_)
 rfl
 refine aj (S':=fun Ak=>[vv zL,ow Ak,nn]) (fs_X (bC 1 bx.K (FAL.out (aa (aT (aa (ao bx rfl T.b_isinstance T.i_NoPicture (ac 0) (aX rfl T.c_NoPicture rfl)) (aa (ao bx rfl T.b_isinstance T.i_NoRule (ac 0) (aX rfl T.c_NoRule rfl)) (aa (ao bx rfl T.b_isinstance T.i_NoSpot (ac 0) (aX rfl T.c_NoSpot rfl)) ad)))) ad)))) ?_ (fun Ak=>?_)
 rfl
 refine aj (S':=fun zY=>[vv zL,ow zY,nn]) (fs_X (bC 1 bx.K (FAL.out (aa (aT (aa (ao bx rfl T.b_isinstance T.i_NoText (ac 0) (aX rfl T.c_NoText rfl)) (aa (ao bx rfl T.b_isinstance T.i_NothingDone (ac 0) (aX rfl T.c_NothingDone rfl)) (aa (ao bx rfl T.b_isinstance T.i_Unlike (ac 0) (aX rfl T.c_Unlike rfl)) ad)))) ad)))) ?_ (fun zY=>?_)
 rfl
 refine dY 1 (S':=[vv zL,vv (.lst zY),nn]) rfl rfl ?_
 refine au (inj:=fun (_:Unit) (w:Unit)=>[vv zL,vv (.lst zY),nn]) (ax (ft_w (cO (dJ bx (nr (uk bx (ac 1) (FAL.out (aa dH ad)))) ae) (c7 (bd (aV (ao bx rfl T.b_isinstance T.i_ValueError (ac 0) (aK rfl T.b_ValueError (by decide +kernel) rfl))))))) ?_ ?_ ?_) (fun _ w=>?_)
 rfl
 ·refine ay (ag az) ?_
  rfl
 ·exact aq ⟨(),rfl⟩
 refine bq (S':=[vv zL,vv (.lst zY),vv (.lst [(.str "bad box"),(.str "no blocks"),(.str "no change"),(.str "no number"),(.str "no picture"),(.str "no rule"),(.str "no spot"),(.str "no text")])]) (aw 2 hJ.nd (aT (aa az (aa az (aa az (aa az (aa az (aa az (aa az (aa az ad)))))))))) ?_ ?_
 rfl
 refine ak (ag (ah bx.K (aB bx.K (ac 2) (aT (aa az (aa az ad)))) (nr (rA bx (ac 1) (FAL.out (aa dH ad)))))) ?_
 rfl
theorem sD:OkD P w K mg base C k "_law_seen" jH ["_law_picture_here","_law_many","_law_rule"] (a3 (d5 t)):=ok3 cS fun zv zz zy _ _ _ _ _ _ _ _ bx _ _=>by
 show FL _ _ [vv zv,vv zz,vv zy,nn,nn,nn] _ _ _
 refine bq (S':=[vv zv,vv zz,vv zy,vv .non,nn,nn]) (aw 3 cS.nd jd) ?_ ?_
 rfl
 refine bq (S':=[vv zv,vv zz,vv zy,vv .non,vv .non,nn]) (aw 4 cS.nd jd) ?_ ?_
 rfl
 refine yG 5 3 (B:=fun k=>[nn,nn,nn,vv (.exc k),nn,nn]) (wp 5 3 (inj:=fun (Ad:D) (w:Unit)=>[vv zv,vv zz,vv zy,vv .non,vv Ad,nn]) bx (by decide) rfl rfl rfl cS.nd rfl T.c_FourError T.takes (fun pn xe H0 Z0 E bx=>?_)) (fun _=>rfl) (fun Ad w=>?_) (fun k=>?_)
 ·refine aj (S':=fun Al=>[vv zv,vv zz,vv zy,vv .non,vv Al,nn]) (aw 4 cS.nd (af bx G.g297 rfl (aa (ac 0) (aa (ac 1) (aa (ac 2) ad))))) ?_ (fun Al=>?_)
  rfl
  exact aq ⟨(),rfl⟩
 ·refine au (inj:=fun (_:Unit) (w1:Unit)=>[vv zv,vv zz,vv zy,vv .non,vv Ad,nn]) (ax (xA (ac 3) jd) ?_ ?_ ?_) (fun _ w1=>?_)
  rfl
  ·refine ay (ag (ac 4)) ?_
   rfl
  ·exact aq ⟨(),rfl⟩
  refine ak (ag (af bx G.g40 rfl (aa (ac 3) ad))) ?_
  rfl
 ·refine au (inj:=fun (_:Unit) (w2:Unit)=>[nn,nn,nn,vv (.exc k),nn,nn]) (ax (xA (ac 3) jd) ?_ ?_ ?_) (fun _ w2=>?_)
  rfl
  ·refine ak (ag (ac 4)) ?_
   rfl
  ·exact aq ⟨(),rfl⟩
  refine ak (ag (af bx G.g40 rfl (aa (ac 3) ad))) ?_
  rfl
theorem pH:OkD P w K mg base C k "_law_worth" hU ["_law_rows_here","_law_rule"] (a2 (eW t)):=ok2 fG fun zu zy _ _ _ _ _ _ _ _ bx hpo _=>by
 show FL _ _ [vv zu,vv zy,nn,nn] _ _ _
 refine bq (S':=[vv zu,vv zy,ow [],nn]) (fs_O (dX 2 fG.nd (FAL.out ad))) ?_ ?_
 rfl
 refine au (inj:=fun (s:List D) (w:Option Sl)=>[vv zu,vv zy,ow s,w]) (bn 3 (B:=fun (s:List D) (w:Option Sl) x=>[vv zu,vv zy,ow s,vv x]) nn hpo rfl (aS bx.K (ac 0)) ?_ (av 3 fG.nd) rfl (fun _ _ _=>rfl) (fun s w x=>?_)) (fun zU w1=>?_)
 rfl
 ·refine aj (S':=fun Ap=>[vv zu,vv zy,ow Ap,vv x]) (fs_X (bC 2 bx.K (FAL.out (aa (ac 3) ad)))) ?_ (fun Ap=>?_)
  rfl
  exact aq ⟨vv x,rfl⟩
 refine au (inj:=fun (_:Unit) (w2:Unit)=>[vv zu,vv zy,ow zU,w1]) (ax (yI bx (ac 1) (aH (aa az (aa az ad)))) ?_ ?_ ?_) (fun _ w2=>?_)
 rfl
 ·refine dY 2 (S':=[vv zu,vv zy,vv (.lst zU),w1]) rfl rfl ?_
  refine ak (ag (xt (dS bx (ac 1) az) (fe_N (wc bx rfl T.b_min (FAL.out (aa (ac 2) ad)))) (fe_N (qd bx rfl T.b_max (FAL.out (aa (ac 2) ad)))))) ?_
  rfl
 ·exact aq ⟨(),rfl⟩
 refine dY 2 (S':=[vv zu,vv zy,vv (.lst zU),w1]) rfl rfl ?_
 refine ak (ag (ah bx.K (fe_N (wB bx rfl T.b_min (FAL.out (aa (fe_C (aQ (N:=["_law_worth_here","_law_every"]) (own:=1) (cap:=[2]) bx (BlkOk.of (by kernel_rfl)) (aS bx.K (ac 2)) (bc (by decide)) (fun _ _ _ _ _=>av 0 (show List.Nodup (α:=Str) ["_law_worth_here","_law_every"] by decide +kernel)) (fun _ _ _ _ _=>(aH (aa (c9 ae (nr (k7 (aA bx) (ac 1) (FAL.out (aa (ac 0) ad))))) (aa (ac 0) ad)))))) ad)))) ae)) ?_
 rfl
theorem uL:OkD P w K mg base C k "_law_far" mo ["_law_rows_here","_law_many","_law_rule"] (a3 (iW t)):=ok3 cz fun zu zz zy _ _ _ _ _ _ _ _ bx hpo _=>by
 show FL _ _ [vv zu,vv zz,vv zy,nn,nn,nn,nn,nn,nn] _ _ _
 refine aj (S':=fun zE=>[vv zu,vv zz,vv zy,vv zE,nn,nn,nn,nn,nn]) (aw 3 cz.nd (fe_N (p6 bx rfl T.b_max (FAL.out (aa ae (aa (fj (fe_N (bE bx rfl T.b_len (FAL.out (aa (ac 0) ad)))) (ah bx.K (aT (aa ae (aa ae (aa ae (aa ae (aa ae ad)))))) (ac 1))) ad)))))) ?_ (fun zE=>?_)
 rfl
 refine aj (S':=fun zH=>[vv zu,vv zz,vv zy,vv zE,mt zH,nn,nn,nn,nn]) (uE 4 (N:=["_law_row"]) (own:=1) (cap:=[]) bx (BlkOk.of (by kernel_rfl)) (aS bx.K (ac 0)) (by decide) (fun _ _ _ _ _=>iR (show List.Nodup (α:=Str) ["_law_row"] by decide +kernel) rfl (by first | exact Or.inl rfl | exact Or.inr rfl)) (fun _ _ _ _ _=>wA (aA bx).K rfl T.b_list) cz.nd (hsw:=by kernel_rfl)) ?_ (fun zH=>?_)
 rfl
 refine au (inj:=fun (s:List (List D)) (w:Option Sl×Option Sl×Option Sl×Option Sl)=>[vv zu,vv zz,vv zy,vv zE,mt s,w.1,w.2.1,w.2.2.1,w.2.2.2]) (bn 5 (B:=fun (s:List (List D)) (w:Option Sl×Option Sl×Option Sl×Option Sl) x4=>[vv zu,vv zz,vv zy,vv zE,mt s,vv x4,w.2.1,w.2.2.1,w.2.2.2]) (nn,nn,nn,nn) hpo rfl (xD (lc rfl T.b_range (FAL.out (aa ae (aa (fe_N (bE bx rfl T.b_len (FAL.out (aa (ac 0) ad)))) (aa (ac 3) ad)))))) ?_ (av 5 cz.nd) rfl (fun _ _ _=>rfl) (fun s w x4=>?_)) (fun As w5=>?_)
 rfl
 ·refine au (inj:=fun (s1:List (List D)) (w1:Option Sl×Option Sl×Option Sl)=>[vv zu,vv zz,vv zy,vv zE,mt s1,vv x4,w1.1,w1.2.1,w1.2.2]) (bn 6 (B:=fun (s1:List (List D)) (w1:Option Sl×Option Sl×Option Sl) x6=>[vv zu,vv zz,vv zy,vv zE,mt s1,vv x4,vv x6,w1.2.1,w1.2.2]) (w.2.1,w.2.2.1,w.2.2.2) hpo rfl (xD (lc rfl T.b_range (FAL.out (aa ae (aa (fe_N (bE bx rfl T.b_len (FAL.out (aa (ac 0) ad)))) (aa (ac 3) ad)))))) ?_ (av 6 cz.nd) rfl (fun _ _ _=>rfl) (fun s1 w1 x6=>?_)) (fun Aw w4=>?_)
  rfl
  ·refine aj (S':=fun zA=>[vv zu,vv zz,vv zy,vv zE,mt s1,vv x4,vv x6,vv zA,w1.2.2]) (aw 7 cz.nd (af bx G.g299 rfl (aa (fe_C (aQ (N:=["_law_row","_law_left","_law_side"]) (own:=1) (cap:=[6,3]) bx (BlkOk.of (by kernel_rfl)) (aS bx.K (fm bx.K (ac 0) (dU (ac 5)) (dU (aB bx.K (ac 5) (ac 3))))) (bc (by decide)) (fun _ _ _ _ _=>av 0 (show List.Nodup (α:=Str) ["_law_row","_law_left","_law_side"] by decide +kernel)) (fun _ _ _ _ _=>(fm (aA bx).K (ac 0) (dU (ac 1)) (dU (aB (aA bx).K (ac 1) (ac 2))))))) (aa (ac 2) ad)))) ?_ (fun zA=>?_)
   rfl
   refine au (inj:=fun (s2:List (List D)) (w2:Option Sl)=>[vv zu,vv zz,vv zy,vv zE,mt s2,vv x4,vv x6,vv zA,w2]) (bn 8 (B:=fun (s2:List (List D)) (w2:Option Sl) x10=>[vv zu,vv zz,vv zy,vv zE,mt s2,vv x4,vv x6,vv zA,vv x10]) w1.2.2 hpo rfl (fS (bj rfl T.b_range (FAL.out (aa (cn bx.K (ac 3) (ac 3)) ad)))) ?_ (av 8 cz.nd) rfl (fun _ _ _=>rfl) (fun s2 w2 x10=>?_)) (fun Ab w3=>?_)
   rfl
   ·refine aj (S':=fun zP=>[vv zu,vv zz,vv zy,vv zE,mt zP,vv x4,vv x6,vv zA,vv x10]) (uC 4 bx (ac 7) (aB bx.K (ac 5) (fj (ac 8) (ac 3))) (aB bx.K (ac 6) (dR (ac 8) (ac 3)))) ?_ (fun zP=>?_)
    rfl
    exact aq ⟨vv x10,rfl⟩
   exact aq ⟨(vv x6,vv zA,w3),rfl⟩
  exact aq ⟨(vv x4,w4.1,w4.2.1,w4.2.2),rfl⟩
 refine wy 4 (S':=[vv zu,vv zz,vv zy,vv zE,vv (.lst (As.map .lst)),w5.1,w5.2.1,w5.2.2.1,w5.2.2.2]) rfl rfl ?_
 refine ak (ag (af bx G.g57 rfl (aa (fe_N (a7 bx rfl T.b_tuple (FAL.out (aa (fe_C (aQ (N:=["_law_row"]) (own:=1) (cap:=[]) bx (BlkOk.of (by kernel_rfl)) (aS bx.K (ac 4)) (bc (by decide)) (fun _ _ _ _ _=>av 0 (show List.Nodup (α:=Str) ["_law_row"] by decide +kernel)) (fun _ _ _ _ _=>(fe_N (a7 (aA bx) rfl T.b_tuple (FAL.out (aa (ac 0) ad))))))) ad)))) ad))) ?_
 rfl
theorem jI:OkD P w K mg base C k "law" ba ["_law_script"] (a1 (eX t)):=ok1 aN fun zw _ _ _ _ _ _ _ _ bx hpo _=>by
 show FL _ _ [vv zw,nn,nn,nn,nn,nn,nn,nn,nn,nn,nn] _ _ _
 refine aj (S':=fun zv=>[vv zw,vv zv,nn,nn,nn,nn,nn,nn,nn,nn,nn]) (aw 1 aN.nd (af bx G.g33 rfl (aa (ac 0) (aa ae (aa ae ad))))) ?_ (fun zv=>?_)
 rfl
 refine aj (S':=fun zu=>[vv zw,vv zv,vv zu,nn,nn,nn,nn,nn,nn,nn,nn]) (aw 2 aN.nd (af bx G.g55 rfl (aa (ac 1) ad))) ?_ (fun zu=>?_)
 rfl
 refine au (inj:=fun (s:Unit) (w:Option Sl×Option Sl×Option Sl×Option Sl×Option Sl)=>[vv zw,vv zv,vv zu,w.1,w.2.1,w.2.2.1,w.2.2.2.1,w.2.2.2.2,nn,nn,nn]) (bn 3 (B:=fun (s:Unit) (w:Option Sl×Option Sl×Option Sl×Option Sl×Option Sl) x=>[vv zw,vv zv,vv zu,vv x,w.2.1,w.2.2.1,w.2.2.2.1,w.2.2.2.2,nn,nn,nn]) (nn,nn,nn,nn,nn) hpo rfl (fS (bj rfl T.b_range (FAL.out (aa ae ad)))) ?_ (av 3 aN.nd) rfl (fun _ _ _=>rfl) (fun s w x=>?_)) (fun _ w3=>?_)
 rfl
 ·refine aj (S':=fun zz=>[vv zw,vv zv,vv zu,vv x,vv zz,w.2.2.1,w.2.2.2.1,w.2.2.2.2,nn,nn,nn]) (aw 4 aN.nd (af bx G.g31 rfl (aa (ac 0) (aa (aB bx.K ae (ac 3)) (aa ae ad))))) ?_ (fun zz=>?_)
  rfl
  refine aj (S':=fun zy=>[vv zw,vv zv,vv zu,vv x,vv zz,vv zy,w.2.2.2.1,w.2.2.2.2,nn,nn,nn]) (aw 5 aN.nd (ah bx.K (aT (aa az (aa az (aa az ad)))) (af bx G.g31 rfl (aa (ac 0) (aa (aB bx.K ae (ac 3)) (aa ae ad)))))) ?_ (fun zy=>?_)
  rfl
  refine aj (S':=fun zW=>[vv zw,vv zv,vv zu,vv x,vv zz,vv zy,vv zW,w.2.2.2.2,nn,nn,nn]) (aw 6 aN.nd (af bx G.g298 rfl (aa (ac 1) (aa (ac 4) (aa (ac 5) ad))))) ?_ (fun zW=>?_)
  rfl
  refine au (inj:=fun (_:Unit) (w1:Unit)=>[vv zw,vv zv,vv zu,vv x,vv zz,vv zy,vv zW,w.2.2.2.2,nn,nn,nn]) (ax (ft_w (cO (dJ bx (ac 6) (af bx G.g300 rfl (aa (ac 2) (aa (ac 4) (aa (ac 5) ad))))) (cO (xw (af bx G.g96 rfl (aa (ac 6) ad)) (ac 4)) (c7 (dJ bx (af bx G.g298 rfl (aa (ac 6) (aa (ac 4) (aa (ac 5) ad)))) (ac 6)))))) ?_ ?_ ?_) (fun _ w1=>?_)
  rfl
  ·refine ay (ag dH) ?_
   rfl
  ·exact aq ⟨(),rfl⟩
  refine aj (S':=fun zX=>[vv zw,vv zv,vv zu,vv x,vv zz,vv zy,vv zW,vv zX,nn,nn,nn]) (aw 7 aN.nd (af bx G.g31 rfl (aa (ac 0) (aa (aB bx.K ae (ac 3)) (aa ae ad))))) ?_ (fun zX=>?_)
  rfl
  refine au (inj:=fun (_:Unit) (w2:Unit)=>[vv zw,vv zv,vv zu,vv x,vv zz,vv zy,vv zW,vv zX,nn,nn,nn]) (ax (dJ bx (af bx G.g298 rfl (aa (af bx G.g128 rfl (aa (ac 1) (aa (ac 7) ad))) (aa (ac 4) (aa (ac 5) ad)))) (af bx G.g128 rfl (aa (ac 6) (aa (ac 7) ad)))) ?_ ?_ ?_) (fun _ w2=>?_)
  rfl
  ·refine ay (ag dH) ?_
   rfl
  ·exact aq ⟨(),rfl⟩
  refine lW (ax (ft_w (oP (xy (ac 4) (af bx G.g96 rfl (aa (ac 1) ad))) (lO (dJ bx (ac 6) (af bx G.g57 rfl (aa (ac 2) ad)))))) ?_ ?_ ?_)
  rfl
  ·refine ay (ag dH) ?_
   rfl
  ·exact aq ⟨(vv x,vv zz,vv zy,vv zW,vv zX),rfl⟩
 refine aj (S':=fun zZ=>[vv zw,vv zv,vv zu,w3.1,w3.2.1,w3.2.2.1,w3.2.2.2.1,w3.2.2.2.2,vv zZ,nn,nn]) (aw 8 aN.nd (af bx G.g31 rfl (aa (ac 0) (aa ae (aa ae ad))))) ?_ (fun zZ=>?_)
 rfl
 refine au (inj:=fun (_:Unit) (w4:Unit)=>[vv zw,vv zv,vv zu,w3.1,w3.2.1,w3.2.2.1,w3.2.2.2.1,w3.2.2.2.2,vv zZ,nn,nn]) (ax (dJ bx (af bx G.g298 rfl (aa (af bx G.g298 rfl (aa (ac 1) (aa (aB bx.K (ac 8) ae) (aa az ad)))) (aa (ac 8) (aa az ad)))) (af bx G.g298 rfl (aa (ac 1) (aa (ac 8) (aa az ad))))) ?_ ?_ ?_) (fun _ w4=>?_)
 rfl
 ·refine ay (ag dH) ?_
  rfl
 ·exact aq ⟨(),rfl⟩
 refine aj (S':=fun zV=>[vv zw,vv zv,vv zu,w3.1,w3.2.1,w3.2.2.1,w3.2.2.2.1,w3.2.2.2.2,vv zZ,vv zV,nn]) (aw 9 aN.nd (ah bx.K (aT (aa az (aa az (aa az (aa az ad))))) (af bx G.g31 rfl (aa (ac 0) (aa ae (aa ae ad)))))) ?_ (fun zV=>?_)
 rfl
 refine aj (S':=fun Am=>[vv zw,vv zv,vv zu,w3.1,w3.2.1,w3.2.2.1,w3.2.2.2.1,w3.2.2.2.2,vv zZ,vv zV,vv Am]) (aw 10 aN.nd (af bx G.g37 rfl (aa (ac 0) (aa ae (aa (ac 1) ad))))) ?_ (fun Am=>?_)
 rfl
 refine au (inj:=fun (_:Unit) (w5:Unit)=>[vv zw,vv zv,vv zu,w3.1,w3.2.1,w3.2.2.1,w3.2.2.2.1,w3.2.2.2.2,vv zZ,vv zV,vv Am]) (ax (ft_w (cO (dJ bx (af bx G.g298 rfl (aa (ac 1) (aa ae (aa (ac 9) ad)))) az) (c7 (dJ bx (af bx G.g298 rfl (aa (ac 10) (aa ae (aa (ac 9) ad)))) az)))) ?_ ?_ ?_) (fun _ w5=>?_)
 rfl
 ·refine ay (ag dH) ?_
  rfl
 ·exact aq ⟨(),rfl⟩
 refine ak (ag (y9 (af bx G.g38 rfl (aa (ac 10) ad)) (gM (xz bx (af bx G.g298 rfl (aa (ac 10) (aa ae (aa az ad)))) az)))) ?_
 rfl
end
end Lw
end
noncomputable section
section
namespace Lw
open PySem FF
inductive Q (α:Type) where
 | lf (a:α) | nd (a b c d:Q α)
 deriving DecidableEq
section
variable {α β γ:Type}
def Q.dep:Q α→Nat
 | .lf _=>0
 | .nd a b c d=>1+max (max a.dep b.dep) (max c.dep d.dep)
def Q.at:Nat→Q α→Nat→Nat→α
 | _,.lf a,_,_=>a
 | 0,.nd a _ _ _,x,y=>Q.at 0 a x y
 | n+1,.nd a b c d,x,y=>if y < 2^n then (if x < 2^n then a.at n x y else b.at n (x - 2^n) y) else (if x < 2^n then c.at n x (y - 2^n) else d.at n (x - 2^n) (y - 2^n))
def Q.All (p:α→Prop):Q α→Prop
 | .lf a=>p a
 | .nd a b c d=>a.All p∧b.All p∧c.All p∧d.All p
def sh (f:Nat→Nat→α)(a b:Nat):Nat→Nat→α:=fun x y=>f (x+a) (y+b)
@[simp] theorem jJ (n:Nat)(a:α)(x y:Nat):Q.at n (.lf a) x y=a:=by cases n<;>rfl
variable [DecidableEq α][DecidableEq β][DecidableEq γ]
def put4 (a b c d:Q α):Q α:=match a with
 | .lf v=>if b=.lf v∧c=.lf v∧d=.lf v then .lf v else .nd a b c d
 | _=>.nd a b c d
def T (f:Nat→Nat→α):Nat→Q α
 | 0=>.lf (f 0 0)
 | n+1=>put4 (T f n) (T (sh f (2^n) 0) n) (T (sh f 0 (2^n)) n) (T (sh f (2^n) (2^n)) n)
def Q.lean:Q α→Q α
 | .lf a=>.lf a
 | .nd a b c d=>put4 a.lean b.lean c.lean d.lean
theorem bM (n:Nat):(2^(n+1):Nat)=2^n+2^n:=by rw[Nat.pow_succ];omega
theorem cT (v:α):put4 (.lf v) (.lf v) (.lf v) (.lf v)=.lf v:=by simp[put4]
theorem wL (n:Nat)(a b c d:Q α)(x y:Nat):(put4 a b c d).at (n+1) x y=(Q.nd a b c d).at (n+1) x y:=by
 unfold put4
 split
 ·split
  ·rename_i h
   obtain⟨rfl,rfl,rfl⟩:=h
   simp only[Q.at,jJ,ite_self]
  ·rfl
 ·rfl
theorem nX (n:Nat)(a b c d:Q α)(ha:a.dep≤n)(hb:b.dep≤n)(hc:c.dep≤n)(hd:d.dep≤n):(put4 a b c d).dep≤n+1:=by
 unfold put4
 split
 ·split
  ·exact Nat.zero_le _
  ·simp only[Q.dep] at *;omega
 ·simp only[Q.dep] at *;omega
theorem aI:∀ (n:Nat) (f g:Nat→Nat→α),(∀ x y,x < 2^n→y < 2^n→f x y=g x y)→T f n=T g n
 | 0,f,g,h=>by rw[T,T,h 0 0 (by decide) (by decide)]
 | n+1,f,g,h=>by
  rw[bM]at h
  rw[T,T,aI n f g fun x y hx hy=>h x y (by omega) (by omega),aI n (sh f (2^n) 0) (sh g (2^n) 0) fun x y hx hy=>h _ _ (by omega) (by omega),
   aI n (sh f 0 (2^n)) (sh g 0 (2^n)) fun x y hx hy=>h _ _ (by omega) (by omega),aI n (sh f (2^n) (2^n)) (sh g (2^n) (2^n)) fun x y hx hy=>h _ _ (by omega) (by omega)]
theorem iX (v:α):∀ n,T (fun _ _=>v) n=.lf v
 | 0=>rfl
 | n+1=>by
  rw[T]
  show put4 (T (fun _ _=>v) n) (T (fun _ _=>v) n) (T (fun _ _=>v) n) (T (fun _ _=>v) n)=_
  rw[iX v n,cT]
theorem gu:∀ (n:Nat) (f:Nat→Nat→α),(T f n).dep≤n
 | 0,f=>Nat.le_refl _
 | n+1,f=>nX n _ _ _ _ (gu n _) (gu n _) (gu n _) (gu n _)
theorem T_at:∀ (n:Nat) (f:Nat→Nat→α) (x y:Nat),x < 2^n→y < 2^n→(T f n).at n x y=f x y
 | 0,f,x,y,hx,hy=>by
  have:x=0:=by simp at hx;exact hx
  have:y=0:=by simp at hy;exact hy
  subst x;subst y
  rfl
 | n+1,f,x,y,hx,hy=>by
  rw[bM]at hx hy
  rw[T,wL,Q.at]
  by_cases h1:y < 2^n
  ·rw[if_pos h1]
   by_cases h2:x < 2^n
   ·rw[if_pos h2,T_at n f x y h2 h1]
   ·rw[if_neg h2,T_at n _ _ _ (by omega) h1]
    unfold sh
    rw[show x - 2^n+2^n=x by omega,Nat.add_zero]
  ·rw[if_neg h1]
   by_cases h2:x < 2^n
   ·rw[if_pos h2,T_at n _ _ _ h2 (by omega)]
    unfold sh
    rw[show y - 2^n+2^n=y by omega,Nat.add_zero]
   ·rw[if_neg h2,T_at n _ _ _ (by omega) (by omega)]
    unfold sh
    rw[show x - 2^n+2^n=x by omega,show y - 2^n+2^n=y by omega]
theorem nY {p:α→Prop}:∀ (n:Nat) (f:Nat→Nat→α),(∀ x y,x < 2^n→y < 2^n→p (f x y))→(T f n).All p
 | 0,f,h=>h 0 0 (by decide) (by decide)
 | n+1,f,h=>by
  rw[bM]at h
  have ha:=nY n f fun x y hx hy=>h x y (by omega) (by omega)
  have hb:=nY n (sh f (2^n) 0) fun x y hx hy=>h _ _ (by omega) (by omega)
  have hc:=nY n (sh f 0 (2^n)) fun x y hx hy=>h _ _ (by omega) (by omega)
  have hd:=nY n (sh f (2^n) (2^n)) fun x y hx hy=>h _ _ (by omega) (by omega)
  rw[T]
  unfold put4
  split
  ·rename_i v e
   split
   ·rw[e]at ha;exact ha
   ·exact⟨ha,hb,hc,hd⟩
  ·exact⟨ha,hb,hc,hd⟩
theorem ie {p:α→Prop}:∀ (n:Nat) (t:Q α) (x y:Nat),t.All p→p (t.at n x y)
 | n,.lf a,x,y,h=>by rw[jJ];exact h
 | 0,.nd a _ _ _,x,y,h=>ie 0 a x y h.1
 | n+1,.nd a b c d,x,y,h=>by
  rw[Q.at]
  split
  ·split
   ·exact ie n a _ _ h.1
   ·exact ie n b _ _ h.2.1
  ·split
   ·exact ie n c _ _ h.2.2.1
   ·exact ie n d _ _ h.2.2.2
theorem uM (n:Nat)(a b c d:Q α):T ((Q.nd a b c d).at (n+1)) (n+1)=put4 (T (a.at n) n) (T (b.at n) n) (T (c.at n) n) (T (d.at n) n):=by
 rw[T]
 congr 1
 ·exact aI n _ _ fun x y hx hy=>by rw[Q.at,if_pos hy,if_pos hx]
 ·exact aI n _ _ fun x y hx hy=>by
   unfold sh
   rw[Q.at,if_pos (by omega),if_neg (by omega)]
   simp
 ·exact aI n _ _ fun x y hx hy=>by
   unfold sh
   rw[Q.at,if_neg (by omega),if_pos (by omega)]
   simp
 ·exact aI n _ _ fun x y hx hy=>by
   unfold sh
   rw[Q.at,if_neg (by omega),if_neg (by omega)]
   simp
theorem ig:∀ (n:Nat) (t:Q α),t.dep≤n→t.lean=T (t.at n) n
 | n,.lf a,_=>by
  rw[Q.lean]
  exact(iX a n).symm.trans (aI _ _ _ fun x y _ _=>(jJ _ _ _ _).symm)
 | 0,.nd a b c d,h=>by simp[Q.dep]at h
 | n+1,.nd a b c d,h=>by
  have h':1+max (max a.dep b.dep) (max c.dep d.dep)≤n+1:=h
  rw[uM,Q.lean,ig n a (by omega),ig n b (by omega),ig n c (by omega),ig n d (by omega)]
theorem gw {n:Nat}{t:Q α}(h:t.dep≤n):t.lean.dep≤n:=by rw[ig n t h];exact gu n _
structure En (e:α→D):Prop where
 tup:∀ a,isTup (e a)=false
 gd:∀ n a,good n (e a)=true
 eq:∀ a b,eqD (e a) (e b)=decide (a=b)
 tD:∀ a xs,eqD (e a) (.tup xs)=false
 dT:∀ a xs,eqD (.tup xs) (e a)=false
end
section
variable {α:Type}[DecidableEq α]{e:α→D}
def Q.d (e:α→D):Q α→D
 | .lf a=>e a
 | .nd a b c d=>.tup [a.d e,b.d e,c.d e,d.d e]
theorem Q.gd (E:En e):∀ (n:Nat) (t:Q α),t.dep≤n→good n (t.d e)=true
 | n,.lf a,_=>E.gd n a
 | 0,.nd a b c d,h=>by simp[Q.dep]at h
 | n+1,.nd a b c d,h=>by
  have h':1+max (max a.dep b.dep) (max c.dep d.dep)≤n+1:=h
  rw[Q.d,good,goods,goods,goods,goods,goods,Q.gd E n a (by omega),Q.gd E n b (by omega),Q.gd E n c (by omega),Q.gd E n d (by omega)]
  rfl
theorem Q.eqd (E:En e):∀ (s t:Q α),eqD (s.d e) (t.d e)=decide (s=t)
 | .lf a,.lf b=>by rw[Q.d,Q.d,E.eq];simp
 | .lf a,.nd ..=>by rw[Q.d,Q.d,E.tD];simp
 | .nd ..,.lf b=>by rw[Q.d,Q.d,E.dT];simp
 | .nd a b c d,.nd a' b' c' d'=>by
  rw[Q.d,Q.d,eqD,eqDs,eqDs,eqDs,eqDs,eqDs,Q.eqd E a a',Q.eqd E b b',Q.eqd E c c',Q.eqd E d d']
  simp[Bool.eq_iff_iff]
end
theorem En.int:En FF.D.int:=⟨fun _=>rfl,fun n a=>by cases n<;>rfl,fun a b=>by simp[eqD,Bool.beq_eq_decide_eq],fun a xs=>by simp[eqD],fun a xs=>by simp[eqD]⟩
end Lw
end
section
namespace Lw
open PySem FF
theorem eF {xs:List D}(h:xs.length≤16777216):sq (.tup xs)=.ok xs:=by unfold sq asSeq;rw[R.bind_ok,if_pos h]
theorem jK {xs:List D}(h:xs.length≤16777216):sq (.lst xs)=.ok xs:=by unfold sq asSeq;rw[R.bind_ok,if_pos h]
theorem sq4 (a b c d:D):sq (.tup [a,b,c,d])=.ok [a,b,c,d]:=eF (by show 4≤16777216;decide)
theorem uN {e:D→R D}{f:D→D}:∀ {xs:List D},(∀ d∈xs,e d=.ok (f d))→cGo (fun _=>.ok true) e xs=.ok (xs.map f)
 | [],_=>rfl
 | x::xs,h=>by
  rw[cGo]
  simp only
  rw[h x (.head _),uN fun d hd=>h d (.tail _ hd)]
  rfl
theorem wM {e:D→R D}{xs:List D}(f:D→D)(h:∀ d∈xs,e d=.ok (f d)):cMap e xs=.ok (.lst (xs.map f)):=by
 unfold cMap;rw[uN h];rfl
theorem bS {α:Type}{e:D→R D}{l:List α}(c g:α→D)(h:∀ a∈l,e (c a)=.ok (g a)):cMap e (l.map c)=.ok (.lst (l.map g)):=by
 unfold cMap
 have:∀ {l:List α},(∀ a∈l,e (c a)=.ok (g a))→cGo (fun _=>.ok true) e (l.map c)=.ok (l.map g):=by
  intro l
  induction l with
  | nil=>intro _;rfl
  | cons a l ih =>
   intro h
   rw[List.map_cons,cGo]
   simp only
   rw[h a (.head _),ih fun b hb=>h b (.tail _ hb)]
   rfl
 rw[this h];rfl
theorem cMap4 {e:D→R D}{a b c d a' b' c' d':D}(ha:e a=.ok a')(hb:e b=.ok b')(hc:e c=.ok c')(hd:e d=.ok d'):cMap e [a,b,c,d]=.ok (.lst [a',b',c',d']):=by
 unfold cMap;simp only[cGo,ha,hb,hc,hd];rfl
theorem qv {α:Type}{c:D→R Bool}{e:D→R D}{l:List α}(k g:α→D)(p:α→Bool)(h:∀ a∈l,c (k a)=.ok (p a)∧(p a=true→e (k a)=.ok (g a))):cFil c e (l.map k)=.ok (.lst ((l.filter p).map g)):=by
 unfold cFil
 have:∀ {l:List α},(∀ a∈l,c (k a)=.ok (p a)∧(p a=true→e (k a)=.ok (g a)))→cGo c e (l.map k)=.ok ((l.filter p).map g):=by
  intro l
  induction l with
  | nil=>intro _;rfl
  | cons a l ih =>
   intro h
   have h1:=h a (.head _)
   have h2:=ih fun b hb=>h b (.tail _ hb)
   rw[List.map_cons,cGo,h1.1]
   cases q:p a with
   | false=>simp only;rw[h2,List.filter_cons_of_neg (by simp[q])]
   | true=>simp only;rw[h1.2 q,h2,List.filter_cons_of_pos q];rfl
 rw[this h];rfl
@[simp] theorem jL (xs:List D):dTuple [.lst xs]=.ok (.tup xs):=rfl
@[simp] theorem pI (xs:List D):dTuple [.tup xs]=.ok (.tup xs):=rfl
@[simp] theorem sE (xs:List D):dList [.tup xs]=.ok (.lst xs):=rfl
@[simp] theorem sF (xs:List D):dList [.lst xs]=.ok (.lst xs):=rfl
@[simp] theorem cU (xs:List D):dLen [.tup xs]=.ok (.int xs.length):=rfl
@[simp] theorem jM (xs:List D):dLen [.lst xs]=.ok (.int xs.length):=rfl
@[simp] theorem aJ (a b:Int):dAdd (.int a) (.int b)=.ok (.int (a+b)):=rfl
@[simp] theorem bW (a b:Int):dSub (.int a) (.int b)=.ok (.int (a - b)):=rfl
@[simp] theorem wN (a b:Int):dLt (.int a) (.int b)=.ok (.bl (decide (a < b))):=rfl
@[simp] theorem mF (a b:Int):dLe (.int a) (.int b)=.ok (.bl (decide (a≤b))):=rfl
@[simp] theorem mG (a b:Int):dGt (.int a) (.int b)=.ok (.bl (decide (b < a))):=rfl
@[simp] theorem qw (a b:Int):dGe (.int a) (.int b)=.ok (.bl (decide (b≤a))):=rfl
@[simp] theorem iY (a b:Int):dEq (.int a) (.int b)=.ok (.bl (decide (a=b))):=by
 show R.ok (D.bl (a==b))=_
 rw[Bool.beq_eq_decide_eq]
@[simp] theorem iZ (a b:Int):dNf (.int a) (.int b)=.ok (.bl (!decide (a=b))):=by
 show R.ok (D.bl (!(a==b)))=_
 rw[Bool.beq_eq_decide_eq]
theorem bX {a b:Int}(h:(-(2^64) < b∧b < 2^64)∨(-(2^64) < a∧a < 2^64)):dMul (.int a) (.int b)=.ok (.int (a*b)):=by
 have:cMul a b=true:=by unfold cMul;simp only[Bool.or_eq_true,Bool.and_eq_true,decide_eq_true_eq];rcases h with h | h;exact .inr h;exact .inl h
 show (if cMul a b=true then R.ok (D.int (a*b)) else R.stuck)=_
 rw[if_pos this]
theorem nZ {a b:Int}(h0:0 < b)(h1:b < 1073741824):dDiv (.int a) (.int b)=.ok (.int (a/b)):=by
 have:cDiv a b=true:=by unfold cDiv;simp only[Bool.and_eq_true,decide_eq_true_eq];exact⟨h0,h1⟩
 show (if cDiv a b=true then R.ok (D.int (a/b)) else R.stuck)=_
 rw[if_pos this]
theorem cW {a b:Int}(h0:0 < b):dMod (.int a) (.int b)=.ok (.int (a%b)):=by
 show (if decide (0 < b)=true then R.ok (D.int (a%b)) else R.stuck)=_
 rw[if_pos (by simpa using h0)]
theorem n3 {x y:D}(hx:good 60 x=true)(hy:good 60 y=true):dEq x y=.ok (.bl (eqD x y)):=by unfold dEq;rw[if_pos ⟨hx,hy⟩]
theorem n4 {x y:D}(hx:good 60 x=true)(hy:good 60 y=true):dNf x y=.ok (.bl (!eqD x y)):=by unfold dNf;rw[if_pos ⟨hx,hy⟩]
theorem pV {α:Type}{xs:List α}{i:Nat}{x:α}(h:xs[i]?=some x):L2.atI xs ((i:Nat):Int)=some x:=by
 have hi:i < xs.length:=(List.getElem?_eq_some_iff.mp h).1
 unfold L2.atI L2.ixN
 rw[if_pos (by omega),if_pos (by omega)]
 simpa using h
theorem ixL {xs:List D}{i:Nat}{x:D}(h:xs[i]?=some x):dIx (.lst xs) (.int ((i:Nat):Int))=.ok x:=by
 show (match L2.atI xs (i:Int) with | some d=>R.ok d | none=>R.stuck)=_
 rw[pV h]
@[simp] theorem ix20 (a b:D):dIx (.tup [a,b]) (.int 0)=.ok a:=rfl
@[simp] theorem ix21 (a b:D):dIx (.tup [a,b]) (.int 1)=.ok b:=rfl
@[simp] theorem ix40 (a b c d:D):dIx (.tup [a,b,c,d]) (.int 0)=.ok a:=rfl
@[simp] theorem ix41 (a b c d:D):dIx (.tup [a,b,c,d]) (.int 1)=.ok b:=rfl
@[simp] theorem ix42 (a b c d:D):dIx (.tup [a,b,c,d]) (.int 2)=.ok c:=rfl
@[simp] theorem ix43 (a b c d:D):dIx (.tup [a,b,c,d]) (.int 3)=.ok d:=rfl
@[simp] theorem ci (xs:List D):dIsA qTup (.tup xs)=.ok (.bl true):=rfl
@[simp] theorem sG (i:Int):dIsA qTup (.int i)=.ok (.bl false):=rfl
theorem jN {α:Type}(p:α→Bool):∀ l:List α,boolsD (l.map fun d=>D.bl (p d))=some (l.map p)
 | []=>rfl
 | a::r=>by simp only[List.map_cons,boolsD,jN p r,Option.map_some]
theorem uO {α:Type}(p:α→Bool)(l:List α):dAll [.lst (l.map fun d=>D.bl (p d))]=.ok (.bl (l.all p)):=by
 show (match boolsD (l.map fun d=>D.bl (p d)) with | some bs=>R.ok (D.bl (bs.all id)) | none=>R.stuck)=_
 rw[jN]
 simp[List.all_map,Function.comp_def]
theorem qA (f:Int→Int→Bool)(F' G':D→D→R D){x y w:Int}{g:Int→Int→Bool}(h1:F' (.int x) (.int y)=.ok (.bl (f x y)))(h2:G' (.int y) (.int w)=.ok (.bl (g y w))):rCh F' G' (.int x) (.int y) (.ok (.int w))=.ok (.bl (f x y&&g y w)):=by
 unfold rCh
 rw[h1]
 cases f x y with
 | true=>show G' (.int y) (.int w)=_;rw[h2];rfl
 | false=>rfl
@[simp] theorem uP (x y w:Int):rCh dLe dLe (.int x) (.int y) (.ok (.int w))=.ok (.bl (decide (x≤y)&&decide (y≤w))):=qA (fun a b=>decide (a≤b)) _ _ (g:=fun a b=>decide (a≤b)) rfl rfl
@[simp] theorem uQ (x y w:Int):rCh dLe dLt (.int x) (.int y) (.ok (.int w))=.ok (.bl (decide (x≤y)&&decide (y < w))):=qA (fun a b=>decide (a≤b)) _ _ (g:=fun a b=>decide (a < b)) rfl rfl
theorem wO (a b:Bool):vAnd (.ok (.bl a)) (.ok (.bl b))=.ok (.bl (a&&b)):=by cases a<;>rfl
theorem yN (a b:Bool):vOr (.ok (.bl a)) (.ok (.bl b))=.ok (.bl (a||b)):=by cases a<;>rfl
theorem wQ (a b:Bool):rAnd (.ok a) (.ok b)=.ok (a&&b):=by cases a<;>rfl
theorem ii (a b:Bool):rOr (.ok a) (.ok b)=.ok (a||b):=by cases a<;>rfl
def isW:D→Bool
 | .int _=>true
 | _=>false
def noX:D→Bool
 | .exc _=>false
 | .fn _=>false
 | _=>true
def inTo (hi:Int):D→Bool
 | .int i=>decide (0≤i)&&decide (i≤hi)
 | _=>false
theorem bN {n:Nat}{d:D}(h:good n d=true):noX d=true:=by
 cases d<;>first | rfl | (cases n<;>simp[good]at h)
theorem jO {n:Nat}(hn:1≤n){d:D}(h:noX d=true):pf n F.az [d]=.ok (.bl (isW d)):=by
 obtain⟨m,rfl⟩:∃ m,n=m+1:=⟨n - 1,by omega⟩
 rw[nD]
 cases d<;>first | rfl | (cases h)
theorem uR {n:Nat}(hn:2≤n){d:D}(h:noX d=true):pf n F.ao [d]=.ok (.bl (inTo 9 d)):=by
 obtain⟨m,rfl⟩:∃ m,n=m+1:=⟨n - 1,by omega⟩
 rw[nE,dc,jO (by omega) h]
 cases d<;>first | rfl | (cases h;done) | skip
 simp[isW,inTo]
theorem wR {n:Nat}(hn:2≤n){d:D}(h:noX d=true):pf n F.aL [d]=.ok (.bl (inTo 3 d)):=by
 obtain⟨m,rfl⟩:∃ m,n=m+1:=⟨n - 1,by omega⟩
 rw[pd,eT,jO (by omega) h]
 cases d<;>first | rfl | (cases h;done) | skip
 simp[isW,inTo]
def STP:=And.intro @aG (And.intro @uq (And.intro @bP (And.intro @zc (And.intro @zd (And.intro @wl (And.intro @wj (And.intro @wm (And.intro @R.bind_ok (And.intro @R.bind_err (And.intro @bg (And.intro @fR (And.intro @wQ (And.intro @ii (And.intro @yC (And.intro @yD (And.intro @zf (And.intro @zg (And.intro @yE (And.intro @yF (And.intro @zh (And.intro @zi (And.intro @wO (And.intro @yN (And.intro @wn (And.intro @xB (And.intro @xC (And.intro @Bool.not_true (And.intro @Bool.not_false (And.intro @Bool.false_or (And.intro @Bool.true_or (And.intro @Bool.or_false (And.intro @Bool.or_true (And.intro @Bool.true_and (And.intro @Bool.false_and (And.intro @Bool.and_true (And.intro @Bool.and_false (And.intro @Bool.false_eq_true (@Bool.true_eq_false))))))))))))))))))))))))))))))))))))))
def OPP:=And.intro @aJ (And.intro @bW (And.intro @wN (And.intro @mF (And.intro @mG (And.intro @qw (And.intro @iY (And.intro @iZ (And.intro @cU (And.intro @jM (And.intro @jL (And.intro @pI (And.intro @sE (And.intro @sF (And.intro @ix20 (And.intro @ix21 (And.intro @ix40 (And.intro @ix41 (And.intro @ix42 (And.intro @ix43 (And.intro @ci (And.intro @sG (And.intro @uP (@uQ)))))))))))))))))))))))
end Lw
end
section
namespace Lw
open PySem FF
def slim:Nat→D→Bool
 | n+1,.tup xs=>decide (xs.length≤1000)&&xs.all (slim n)
 | n+1,.lst xs=>decide (xs.length≤1000)&&xs.all (slim n)
 | _,_=>true
def treeOk (p:D→Bool):Nat→Int→D→Bool
 | n+1,s,.tup xs=>decide (s≠0)&&(decide (xs.length=4)&&xs.all (treeOk p n (s - 1)))
 | _,_,d=>p d
theorem cj {n:Nat}:∀ {xs:List D},goods n xs=true→∀ d∈xs,good n d=true
 | x::xs,h,d,hd=>by
  rw[goods,Bool.and_eq_true]at h
  cases hd with
  | head=>exact h.1
  | tail _ hd=>exact cj h.2 d hd
theorem bY {n:Nat}:∀ {xs:List D},(∀ d∈xs,good n d=true)→goods n xs=true
 | [],_=>rfl
 | x::xs,h=>by rw[goods,h x (.head _),bY fun d hd=>h d (.tail _ hd)];rfl
theorem ex1 {n k:Nat}(h:k+1≤n):∃ m,n=m+1∧k≤m:=⟨n - 1,by omega,by omega⟩
theorem bO {d:D}(h:isTup d=false)(h':noX d=true):dIsA qTup d=.ok (.bl false):=by cases d<;>first | rfl | (cases h;done) | (cases h';done)
theorem wS {i c:Nat}{p:D→Bool}(hi:fvL.contains i=true)(hp:∀ m d,c≤m→noX d=true→pf m i [d]=.ok (.bl (p d))):∀ (n m:Nat) (s:Int) (d:D),good n d=true→slim n d=true→n+c+1≤m→pf m F.ay [.int s,d,.fn i]=.ok (.bl (treeOk p n s d)):=by
 have flat:∀ (n m:Nat) (s:Int) (d:D),isTup d=false→noX d=true→c+1≤m→treeOk p n s d=p d→pf m F.ay [.int s,d,.fn i]=.ok (.bl (treeOk p n s d)):=fun n m s d ht hx hm e=>by
  obtain⟨m,rfl,hm⟩:=ex1 hm
  rw[jv,cP,bO ht hx,e]
  have:onF fvL (.fn i) (fun i=>pf m i [d])=.ok (.bl (p d)):=by
   show (if fvL.contains i=true then pf m i [d] else R.stuck)=_
   rw[if_pos hi,hp m d (by omega) hx]
  simp[this]
 intro n
 induction n with
 | zero =>
  intro m s d hg hs hm
  have ht:isTup d=false:=by cases d<;>first | rfl | (simp[good]at hg)
  exact flat 0 m s d ht (bN hg) (by omega) (by cases d<;>rfl)
 | succ n ih =>
  intro m s d hg hs hm
  by_cases ht:isTup d=true
  ·cases d with
   | tup xs =>
    rw[good]at hg
    rw[slim,Bool.and_eq_true,decide_eq_true_eq,List.all_eq_true]at hs
    obtain⟨m,rfl,hm⟩:=ex1 (show n+c+1+1≤m by omega)
    rw[jv,cP]
    have hc:cMap (fun part=>(dSub (.int s) (.int 1)).bind fun x1=>pf m F.ay [x1,part,.fn i]) xs=.ok (.lst (xs.map fun d=>.bl (treeOk p n (s - 1) d))) :=
     wM _ fun d hd=>by rw[bW,R.bind_ok];exact ih m (s - 1) d (cj hg d hd) (hs.2 d hd) (by omega)
    simp only[ci,bg,fR,Bool.not_true,aG,bP,iY,cU,R.bind_ok,iZ,ii,eF (show xs.length≤16777216 by omega),hc,uO,treeOk]
    by_cases h0:s=0
    ·simp[h0]
    ·by_cases h4:xs.length=4
     ·simp[h0,h4]
     ·have h4':¬ ((xs.length:Int)=4):=by omega
      simp[h0,h4,h4']
   | _=>cases ht
  ·have ht':isTup d=false:=by simpa using ht
   exact flat (n+1) m s d ht' (bN hg) (by omega) (by cases d<;>first | rfl | (cases ht';done))
def sizedOk (p:D→Bool)(n:Nat):D→Bool
 | .tup [s,t]=>inTo 3 s&&(match s with
  | .int i=>treeOk p n i t
  | _=>false)
 | _=>false
theorem uS {i c:Nat}{p:D→Bool}(hc:2≤c)(hi:fvL.contains i=true)(hp:∀ m d,c≤m→noX d=true→pf m i [d]=.ok (.bl (p d)))(n m:Nat)(d:D)(hg:good (n+1) d=true)(hs:slim (n+1) d=true)(hm:n+c+2≤m):pf m F.au [d,.fn i]=.ok (.bl (sizedOk p n d)):=by
 obtain⟨m,rfl,hm⟩:=ex1 (show n+c+1+1≤m by omega)
 rw[gW,bt]
 by_cases ht:isTup d=true
 ·cases d with
  | tup xs =>
   rw[good]at hg
   rw[slim,Bool.and_eq_true,decide_eq_true_eq,List.all_eq_true]at hs
   by_cases h2:xs.length=2
   ·match xs,h2 with
    | [a,b],_ =>
     have ga:=cj hg a (by simp)
     have gb:=cj hg b (by simp)
     have sb:=hs.2 b (by simp)
     have hz:pf m F.aL [a]=.ok (.bl (inTo 3 a)):=wR (by omega) (bN ga)
     simp only[ci,bg,fR,Bool.not_true,cU,R.bind_ok,iZ,ix20,ix21,ii,List.length_cons,List.length_nil,hz]
     cases a with
     | int v =>
      rw[wS hi hp n m v b gb sb (by omega)]
      by_cases hv:inTo 3 (.int v)=true
      ·simp[hv,sizedOk]
      ·have hv':inTo 3 (.int v)=false:=by simpa using hv
       simp[hv',sizedOk]
     | _=>simp[sizedOk,inTo]
   ·have h2':¬ ((xs.length:Int)=2):=by omega
    have e:sizedOk p n (.tup xs)=false:=by
     match xs,h2 with
     | [],_=>rfl
     | [_],_=>rfl
     | _::_::_::_,_=>rfl
    simp[h2',e]
  | _=>cases ht
 ·have ht':isTup d=false:=by simpa using ht
  rw[bO ht' (bN hg)]
  have e:sizedOk p n d=false:=by cases d<;>first | rfl | (cases ht';done)
  simp[e]
end Lw
end
section
namespace Lw
open PySem FF
def scr (ns:List Int):D:=.lst (ns.map .int)
def cell (ns:List Int)(k:Nat):Int:=if k < ns.length then ns.getD k 0 else if ns=[] then 0 else ns.getD (k%ns.length) 0*31+k
def pk (ns:List Int)(k:Nat)(m:Int):Int :=
 let d:=(cell ns k+6151*((k:Int)+1))*40692%2147483399
 (d*d+d/31)%2147483629%m
theorem eG {ns:List Int}{k:Nat}{m:Int}(h:0 < m):0≤pk ns k m:=Int.emod_nonneg _ (by omega)
theorem ff {ns:List Int}{k:Nat}{m:Int}(h:0 < m):pk ns k m < m:=Int.emod_lt_of_pos _ h
theorem lm (n:Nat):∀ ns:List Int,goods n (ns.map .int)=true
 | []=>rfl
 | i::r=>by rw[List.map_cons,goods,lm n r];cases n<;>rfl
theorem wT {n:Nat}(hn:1≤n)(ns:List Int)(k:Nat):pf n F.aX [scr ns,.int k]=.ok (.int (cell ns k)):=by
 obtain⟨n,rfl,hn⟩:=ex1 hn
 rw[si,fY]
 unfold scr cell
 by_cases h:k < ns.length
 ·have h':((k:Int) < (ns.length:Int)):=by omega
  have e0:=ixL (xs:=ns.map .int) (i:=k) (x:=.int (ns.getD k 0)) (by rw[List.getElem?_map,List.getElem?_eq_getElem h];simp[List.getD,h])
  simp only[STP,if_true,if_false,ite_true,ite_false,reduceIte,reduceCtorEq,OPP,List.length_map,decide_eq_true h',e0,if_pos h]
 ·have h':¬ ((k:Int) < (ns.length:Int)):=by omega
  cases ns with
  | nil =>
   have e1:dEq (.lst []) (.lst [])=.ok (.bl true):=rfl
   have h2:¬ ((k:Int) < ((0:Nat):Int)):=by omega
   simp only[STP,if_true,if_false,ite_true,ite_false,reduceIte,reduceCtorEq,OPP,List.map_nil,List.length_nil,decide_eq_false h2,e1,if_neg (Nat.not_lt_zero k)]
  | cons a r =>
   have hl:0 < (a::r).length:=by simp
   have hk:k%(a::r).length < (a::r).length:=Nat.mod_lt _ hl
   have e1:dEq (.lst ((a::r).map .int)) (.lst [])=.ok (.bl false):=by
    rw[n3 (by rw[good];exact lm _ _) rfl]
    simp[eqD,eqDs]
   have e2:dMod (.int (k:Int)) (.int ((a::r).length:Int))=.ok (.int ((k%(a::r).length:Nat):Int)):=by
    rw[cW (by omega)];rfl
   have e3:dIx (.lst ((a::r).map .int)) (.int ((k%(a::r).length:Nat):Int))=.ok (.int ((a::r).getD (k%(a::r).length) 0)) :=
    ixL (by rw[List.getElem?_map,List.getElem?_eq_getElem hk,List.getD,List.getElem?_eq_getElem hk];rfl)
   have e4:=bX (a:=(a::r).getD (k%(a::r).length) 0) (b:=31) (.inl (by decide))
   simp only[STP,if_true,if_false,ite_true,ite_false,reduceIte,reduceCtorEq,OPP,List.length_map,decide_eq_false h',e1,e2,e3,e4,if_neg h]
theorem eY {n:Nat}(hn:2≤n)(ns:List Int)(k:Nat){m:Int}(hm:0 < m):pf n F.aa [scr ns,.int k,.int m]=.ok (.int (pk ns k m)):=by
 obtain⟨n,rfl,hn⟩:=ex1 hn
 rw[sj,fZ,wT (by omega)]
 simp only[R.bind_ok,aJ]
 rw[bX (.inr (by decide))]
 simp only[R.bind_ok,aJ]
 rw[bX (.inl (by decide))]
 simp only[R.bind_ok]
 rw[cW (by decide)]
 simp only[aG]
 have h0:0≤(cell ns k+6151*((k:Int)+1))*40692%2147483399:=Int.emod_nonneg _ (by decide)
 have h1:(cell ns k+6151*((k:Int)+1))*40692%2147483399 < 2147483399:=Int.emod_lt_of_pos _ (by decide)
 rw[bX (.inl ⟨by omega,by omega⟩),nZ (by decide) (by decide)]
 simp only[R.bind_ok,aJ]
 rw[cW (by decide)]
 simp only[R.bind_ok]
 rw[cW hm]
 rfl
theorem dB {n:Nat}(hn:2≤n)(ns:List Int)(k:Nat){a m:Int}(ha:a=(k:Int))(hm:0 < m):pf n F.aa [scr ns,.int a,.int m]=.ok (.int (pk ns k m)):=by subst ha;exact eY hn ns k hm
def W9 (v:Int):Prop:=0≤v∧v≤9
def dleaf (ns:List Int)(k:Nat):Int:=[0,1,1,2,9,pk ns (k+1) 10].getD (pk ns (k+2) 6).toNat 0
def dt (ns:List Int):Nat→Nat→Q Int
 | 0,k=>.lf (dleaf ns k)
 | n+1,k=>if pk ns k 6 < 2 then .lf (dleaf ns k) else if pk ns k 6=2 then .nd (dt ns n (k+3)) (dt ns n (k+3)) (dt ns n (k+3)) (dt ns n (k+3)) else
  .nd (dt ns n (5*k+7)) (dt ns n (5*k+18)) (dt ns n (5*k+29)) (dt ns n (5*k+40))
theorem qB (ns:List Int)(k:Nat):W9 (dleaf ns k):=by
 unfold dleaf W9
 have h0:=eG (ns:=ns) (k:=k+2) (m:=6) (by decide)
 have h1:=ff (ns:=ns) (k:=k+2) (m:=6) (by decide)
 have g0:=eG (ns:=ns) (k:=k+1) (m:=10) (by decide)
 have g1:=ff (ns:=ns) (k:=k+1) (m:=10) (by decide)
 obtain⟨j,hj⟩:∃ j:Nat,pk ns (k+2) 6=(j:Int):=⟨(pk ns (k+2) 6).toNat,by omega⟩
 rw[hj]at h1 ⊢
 have:j < 6:=by omega
 rcases j with _ | _ | _ | _ | _ | _ | j<;>first | (simp;done) | (simp;omega) | omega
theorem uT (ns:List Int):∀ n k,(dt ns n k).dep≤n
 | 0,k=>Nat.le_refl _
 | n+1,k=>by
  rw[dt]
  have h1:=uT ns n
  split
  ·exact Nat.zero_le _
  ·split
   ·have:=h1 (k+3);simp only[Q.dep];omega
   ·have a:=h1 (5*k+7);have b:=h1 (5*k+18);have c:=h1 (5*k+29);have d:=h1 (5*k+40);simp only[Q.dep];omega
theorem uU (ns:List Int):∀ n k,(dt ns n k).All W9
 | 0,k=>qB ns k
 | n+1,k=>by
  rw[dt]
  have h1:=uU ns n
  split
  ·exact qB ns k
  ·split
   ·exact⟨h1 _,h1 _,h1 _,h1 _⟩
   ·exact⟨h1 _,h1 _,h1 _,h1 _⟩
theorem n5 {n:Nat}(hn:2≤n)(ns:List Int)(k:Nat):((((dAdd (.int (k:Int)) (.int 1)).bind fun x=>pf n F.aa [scr ns,x,(.int 10)]).bind fun x1=>.ok (.lst [(.int 0),(.int 1),(.int 1),(.int 2),(.int 9),x1])).bind fun x2=>((dAdd (.int (k:Int)) (.int 2)).bind fun x3=>pf n F.aa [scr ns,x3,(.int 6)]).bind fun x4=>dIx x2 x4)=.ok (.int (dleaf ns k)):=by
 simp only[aJ,R.bind_ok]
 rw[dB hn ns (k+1) (by omega) (by decide),dB hn ns (k+2) (by omega) (by decide)]
 simp only[R.bind_ok]
 have h0:=eG (ns:=ns) (k:=k+2) (m:=6) (by decide)
 have h1:=ff (ns:=ns) (k:=k+2) (m:=6) (by decide)
 unfold dleaf
 obtain⟨j,hj⟩:∃ j:Nat,pk ns (k+2) 6=(j:Int):=⟨(pk ns (k+2) 6).toNat,by omega⟩
 rw[hj]at h1 ⊢
 have:j < 6:=by omega
 rcases j with _ | _ | _ | _ | _ | _ | j<;>first | rfl | omega
theorem rep4 (x:D):dMul (.tup [x]) (.int 4)=.ok (.tup [x,x,x,x]):=rfl
theorem rng4:rng1 [.int 4]=.ok [.int 0,.int 1,.int 2,.int 3]:=rfl
theorem uV (ns:List Int):∀ (s k n:Nat),s+3≤n→pf n F.aq [scr ns,.int k,.int s]=.ok ((dt ns s k).d .int):=by
 intro s
 induction s with
 | zero =>
  intro k n hn
  obtain⟨n,rfl,hn⟩:=ex1 (show 2+1≤n by omega)
  rw[lg,dZ,eY (by omega) ns k (by decide)]
  simp only[aG]
  rw[n5 (by omega)]
  simp[dt,Q.d]
 | succ s ih =>
  intro k n hn
  obtain⟨n,rfl,hn⟩:=ex1 (show s+3+1≤n by omega)
  rw[lg,dZ,eY (by omega) ns k (by decide)]
  simp only[aG]
  rw[n5 (by omega)]
  have hs:¬ (((s+1:Nat):Int)=0):=by omega
  have hs1:((s+1:Nat):Int) - 1=(s:Int):=by omega
  have ih':∀ (a:Int) (j:Nat),a=(j:Int)→pf n F.aq [scr ns,.int a,.int (s:Int)]=.ok ((dt ns s j).d .int):=fun a j e=>by subst e;exact ih j n (by omega)
  rw[dt]
  by_cases h2:pk ns k 6 < 2
  ·simp only[STP,if_true,if_false,ite_true,ite_false,reduceIte,reduceCtorEq,OPP,decide_eq_false hs,decide_eq_true h2,if_pos h2,Q.d]
  ·by_cases h3:pk ns k 6=2
   ·have e:=ih' ((k:Int)+3) (k+3) (by omega)
    simp only[STP,if_true,if_false,ite_true,ite_false,reduceIte,reduceCtorEq,OPP,decide_eq_false hs,decide_eq_false h2,decide_eq_true h3,if_neg h2,if_pos h3,hs1,e,rep4,Q.d]
   ·have step:∀ (i:Nat) ,(((dMul (.int 5) (.int (k:Int))).bind fun x9=>dAdd x9 (.int 7)).bind fun x10=>(dMul (.int 11) (.int (i:Int))).bind fun x11=>dAdd x10 x11).bind (fun x12=>pf n F.aq [scr ns,x12,.int (s:Int)])=.ok ((dt ns s (5*k+7+11*i)).d .int):=fun i=>by
     rw[bX (.inr (by decide)),bX (.inr (by decide))]
     simp only[R.bind_ok,aJ]
     exact ih' _ _ (by omega)
    have e:cMap (fun zM=>(((dMul (.int 5) (.int (k:Int))).bind fun x9=>dAdd x9 (.int 7)).bind fun x10=>(dMul (.int 11) zM).bind fun x11=>dAdd x10 x11).bind fun x12=>pf n F.aq [scr ns,x12,.int (s:Int)]) [.int 0,.int 1,.int 2,.int 3]=.ok (.lst [(dt ns s (5*k+7)).d .int,(dt ns s (5*k+18)).d .int,(dt ns s (5*k+29)).d .int,(dt ns s (5*k+40)).d .int]):=cMap4 (step 0) (step 1) (step 2) (step 3)
    simp only[STP,if_true,if_false,ite_true,ite_false,reduceIte,reduceCtorEq,OPP,decide_eq_false hs,decide_eq_false h2,decide_eq_false h3,if_neg h2,if_neg h3,hs1,rng4]
    rw[e]
    rfl
structure Pc (sz:Nat)(t:Q Int):Prop where
 h3:sz≤3
 dep:t.dep≤sz
 all:t.All W9
def picD (sz:Nat)(t:Q Int):D:=.tup [.int (sz:Int),t.d .int]
theorem wU (ns:List Int)(k most n:Nat)(hm:most≤3)(hn:7≤n):∃ sz t,sz≤most∧Pc sz t∧pf n F.aF [scr ns,.int k,.int most]=.ok (picD sz t):=by
 obtain⟨n,rfl,hn⟩:=ex1 (show 6+1≤n by omega)
 have h0:=eG (ns:=ns) (k:=k) (m:=7) (by decide)
 have h1:=ff (ns:=ns) (k:=k) (m:=7) (by decide)
 obtain⟨j,hj⟩:∃ j:Nat,pk ns k 7=(j:Int):=⟨(pk ns k 7).toNat,by omega⟩
 rw[hj]at h1
 have hj7:j < 7:=by omega
 obtain⟨c,hc3,hc⟩:∃ c:Nat,c≤3∧dIx (.lst [(.int 0),(.int 0),(.int 0),(.int 1),(.int 1),(.int 2),(.int 3)]) (.int (j:Int))=.ok (.int (c:Int)):=by
  rcases j with _ | _ | _ | _ | _ | _ | _ | j
  ·exact⟨0,by omega,rfl⟩
  ·exact⟨0,by omega,rfl⟩
  ·exact⟨0,by omega,rfl⟩
  ·exact⟨1,by omega,rfl⟩
  ·exact⟨1,by omega,rfl⟩
  ·exact⟨2,by omega,rfl⟩
  ·exact⟨3,by omega,rfl⟩
  ·omega
 refine⟨most - c,dt ns (most - c) (k+1),by omega,⟨by omega,uT _ _ _,uU _ _ _⟩,?_⟩
 have hx:dMax2 [.int 0,.int ((most:Int) - (c:Int))]=.ok (.int ((most - c:Nat):Int)):=by
  show R.ok (D.int (if (most:Int) - c > 0 then (most:Int) - c else 0))=_
  congr 2
  split<;>omega
 rw[me,cG,eY (by omega) ns k (by decide),R.bind_ok,hj,hc]
 simp only[R.bind_ok,bW,hx,aG,aJ]
 have e:((k:Int)+1)=((k+1:Nat):Int):=by omega
 rw[e,uV ns (most - c) (k+1) n (by omega)]
 rfl
end Lw
end
section
namespace Lw
open PySem FF
section
variable {α:Type}[DecidableEq α]{e:α→D}
theorem dC:∀ {n m:Nat} {d:D},good n d=true→n≤m→good m d=true
 | n,m,.non,_,_=>by cases m<;>rfl
 | n,m,.bl _,_,_=>by cases m<;>rfl
 | n,m,.int _,_,_=>by cases m<;>rfl
 | n,m,.str _,_,_=>by cases m<;>rfl
 | n,m,.exc _,h,_=>by cases n<;>simp[good]at h
 | n,m,.fn _,h,_=>by cases n<;>simp[good]at h
 | 0,m,.tup _,h,_=>by simp[good]at h
 | 0,m,.lst _,h,_=>by simp[good]at h
 | n+1,0,.tup _,_,l=>by omega
 | n+1,0,.lst _,_,l=>by omega
 | n+1,m+1,.tup xs,h,l=>by
  rw[good]at h ⊢
  exact bY fun d hd=>dC (n:=n) (cj h d hd) (by omega)
 | n+1,m+1,.lst xs,h,l=>by
  rw[good]at h ⊢
  exact bY fun d hd=>dC (n:=n) (cj h d hd) (by omega)
theorem uW (E:En e){n:Nat}(hn:1≤n){a b c d:Q α}(ha:a.dep≤50)(hb:b.dep≤50)(hc:c.dep≤50)(hd:d.dep≤50):pf n F.ak [.tup [a.d e,b.d e,c.d e,d.d e]]=.ok ((put4 a b c d).d e):=by
 obtain⟨n,rfl,hn⟩:=ex1 hn
 rw[iI,bG]
 cases a with
 | nd a1 a2 a3 a4=>simp only[STP,if_true,if_false,ite_true,ite_false,reduceIte,reduceCtorEq,OPP,Q.d,put4]
 | lf v =>
  have e1:dIsA qTup (Q.d e (.lf v))=.ok (.bl false):=bO (E.tup v) (bN (E.gd 0 v))
  have gv:good 59 (e v)=true:=E.gd 59 v
  have e2:dEq (.tup [Q.d e (.lf v),b.d e,c.d e,d.d e]) (.tup [Q.d e (.lf v),Q.d e (.lf v),Q.d e (.lf v),Q.d e (.lf v)])=.ok (.bl (decide (b=.lf v)&&(decide (c=.lf v)&&decide (d=.lf v)))):=by
   rw[n3]
   ·rw[eqD,eqDs,eqDs,eqDs,eqDs,eqDs,Q.eqd E,Q.eqd E,Q.eqd E,Q.eqd E]
    simp
   ·rw[good,goods,goods,goods,goods,goods,dC (Q.gd E 50 b hb) (by decide),dC (Q.gd E 50 c hc) (by decide),dC (Q.gd E 50 d hd) (by decide),Q.d,gv]
    rfl
   ·rw[good,goods,goods,goods,goods,goods,Q.d,gv]
    rfl
  simp only[STP,if_true,if_false,ite_true,ite_false,reduceIte,reduceCtorEq,OPP,e1,e2]
  unfold put4
  by_cases hb':b=.lf v
  ·by_cases hc':c=.lf v
   ·by_cases hd':d=.lf v
    ·simp[hb',hc',hd']
    ·simp[hb',hc',hd',Q.d]
   ·simp[hb',hc',Q.d]
  ·simp[hb',Q.d]
theorem eL (E:En e):∀ (t:Q α) (n:Nat),t.dep≤40→t.dep+2≤n→pf n F.ap [t.d e]=.ok (t.lean.d e)
 | .lf a,n,_,hn=>by
  obtain⟨n,rfl,hn⟩:=ex1 (show 1+1≤n by omega)
  rw[gg,bT]
  have e1:dIsA qTup (Q.d e (.lf a))=.ok (.bl false):=bO (E.tup a) (bN (E.gd 0 a))
  simp only[STP,if_true,if_false,ite_true,ite_false,reduceIte,reduceCtorEq,e1,Q.lean]
 | .nd a b c d,n,hd,hn=>by
  have hd':1+max (max a.dep b.dep) (max c.dep d.dep)≤40:=hd
  have hn':1+max (max a.dep b.dep) (max c.dep d.dep)+2≤n:=hn
  obtain⟨n,rfl,hn⟩:=ex1 (show max (max a.dep b.dep) (max c.dep d.dep)+2+1≤n by omega)
  rw[gg,bT]
  have ka:=eL E a n (by omega) (by omega)
  have kb:=eL E b n (by omega) (by omega)
  have kc:=eL E c n (by omega) (by omega)
  have kd:=eL E d n (by omega) (by omega)
  have hm:cMap (fun part=>pf n F.ap [part]) [a.d e,b.d e,c.d e,d.d e]=.ok (.lst [a.lean.d e,b.lean.d e,c.lean.d e,d.lean.d e]):=cMap4 ka kb kc kd
  have hp:=uW E (n:=n) (by omega) (a:=a.lean) (b:=b.lean) (c:=c.lean) (d:=d.lean) (gw (n:=50) (by omega)) (gw (n:=50) (by omega)) (gw (n:=50) (by omega)) (gw (n:=50) (by omega))
  rw[Q.d]
  simp only[STP,if_true,if_false,ite_true,ite_false,reduceIte,reduceCtorEq,OPP,sq4,hm,hp,Q.lean]
theorem qC:∀ {n:Nat} {d:D},isTup d=false→isLst d=false→slim n d=true
 | 0,d,_,_=>by cases d<;>rfl
 | n+1,d,h,h'=>by cases d<;>first | rfl | (cases h;done) | (cases h';done)
theorem jP (hl:∀ a,isLst (e a)=false)(E:En e):∀ (n:Nat) (t:Q α),slim n (t.d e)=true
 | n,.lf a=>qC (E.tup a) (hl a)
 | 0,.nd ..=>rfl
 | n+1,.nd a b c d=>by
  rw[Q.d,Lw.slim]
  simp only[List.all_cons,List.all_nil,jP hl E n a,jP hl E n b,jP hl E n c,jP hl E n d,List.length_cons,List.length_nil]
  rfl
theorem jQ {p:D→Bool}(E:En e):∀ (m:Nat) (s:Nat) (t:Q α),t.dep≤m→t.dep≤s→t.All (fun a=>p (e a)=true)→treeOk p m s (t.d e)=true
 | m,s,.lf a,_,_,h=>by
  have:treeOk p m s (e a)=p (e a):=by
   have:=E.tup a
   cases m with
   | zero=>cases e a<;>rfl
   | succ m=>cases q:e a<;>first | rfl | (rw[q]at this;cases this)
  exact this.trans h
 | 0,s,.nd a b c d,h,_,_=>by simp[Q.dep]at h
 | m+1,0,.nd a b c d,_,h,_=>by simp[Q.dep]at h
 | m+1,s+1,.nd a b c d,h,h',hall=>by
  have h1:1+max (max a.dep b.dep) (max c.dep d.dep)≤m+1:=h
  have h2:1+max (max a.dep b.dep) (max c.dep d.dep)≤s+1:=h'
  rw[Q.d,Lw.treeOk,show ((s+1:Nat):Int) - 1=(s:Int) by omega]
  have h0:((s+1:Nat):Int)≠0:=by omega
  simp only[List.all_cons,List.all_nil,jQ E m s a (by omega) (by omega) hall.1,jQ E m s b (by omega) (by omega) hall.2.1,jQ E m s c (by omega) (by omega) hall.2.2.1,jQ E m s d (by omega) (by omega) hall.2.2.2,List.length_cons,List.length_nil,decide_eq_true h0]
  rfl
end
theorem gz {α:Type}{p q:α→Prop}(h:∀ a,p a→q a):∀ {t:Q α},t.All p→t.All q
 | .lf a,x=>h a x
 | .nd _ _ _ _,x=>⟨gz h x.1,gz h x.2.1,gz h x.2.2.1,gz h x.2.2.2⟩
theorem in9 {v:Int}(h:W9 v):inTo 9 (.int v)=true:=by simp[inTo,h.1,h.2]
theorem uX:fvL.contains F.ao=true:=by decide
theorem uY {n m:Nat}{d:D}(hg:good (m+1) d=true)(hs:slim (m+1) d=true)(hn:m+5≤n):pf n F.aI [d]=.ok (.bl (sizedOk (inTo 9) m d)):=by
 obtain⟨n,rfl,hn⟩:=ex1 (show m+4+1≤n by omega)
 rw[ky,b7,uS (c:=2) (p:=inTo 9) (by decide) uX (fun m d h1 h2=>uR h1 h2) m n d hg hs (by omega)]
 rfl
theorem lq {n m:Nat}{d:D}(hg:good (m+1) d=true)(hs:slim (m+1) d=true)(hn:m+6≤n):pf n F.ab [d]=if sizedOk (inTo 9) m d=true then .ok .non else .err 1:=by
 obtain⟨n,rfl,hn⟩:=ex1 (show m+5+1≤n by omega)
 rw[gX,bu,uY hg hs (by omega)]
 cases sizedOk (inTo 9) m d<;>rfl
section
variable {sz:Nat}{t:Q Int}
theorem Pc.good (p:Pc sz t):good 4 (picD sz t)=true:=by
 unfold picD
 rw[FF.good,goods,goods,goods,Q.gd En.int 3 t (Nat.le_trans p.dep p.h3)]
 rfl
theorem Pc.slim (p:Pc sz t):slim 4 (picD sz t)=true:=by
 unfold picD
 rw[Lw.slim]
 simp only[List.all_cons,List.all_nil,jP (fun _=>rfl) En.int,qC (d:=.int (sz:Int)) rfl rfl,List.length_cons,List.length_nil]
 rfl
theorem Pc.sized (p:Pc sz t):sizedOk (inTo 9) 3 (picD sz t)=true:=by
 have h3:=p.h3
 have h1:inTo 3 (.int (sz:Int))=true:=by simp[inTo];omega
 unfold picD sizedOk
 simp only[h1,jQ En.int 3 sz t (Nat.le_trans p.dep p.h3) p.dep (gz (fun a h=>in9 h) p.all)]
 rfl
theorem Pc.check (p:Pc sz t){n:Nat}(hn:9≤n):pf n F.ab [picD sz t]=.ok .non:=by rw[lq p.good p.slim hn,p.sized];rfl
theorem Pc.lean (p:Pc sz t){n:Nat}(hn:10≤n):pf n F.aJ [picD sz t]=.ok (picD sz (T (t.at sz) sz)):=by
 obtain⟨n,rfl,hn⟩:=ex1 (show 9+1≤n by omega)
 have h3:=p.h3
 have hd:=p.dep
 have e1:=p.check (n:=n) (by omega)
 have e2:=eL En.int t n (by omega) (by omega)
 rw[qu,ju,e1,← ig sz t p.dep]
 unfold picD
 simp only[STP,if_true,if_false,ite_true,ite_false,reduceIte,reduceCtorEq,OPP,e2]
theorem pc_T {f:Nat→Nat→Int}(h3:sz≤3)(h:∀ x y,x < 2^sz→y < 2^sz→W9 (f x y)):Pc sz (T f sz):=⟨h3,gu sz f,nY sz f h⟩
theorem Pc.at (p:Pc sz t)(x y:Nat):W9 (t.at sz x y):=ie sz t x y p.all
theorem Pc.side (p:Pc sz t){n:Nat}(hn:1≤n):pf n F.aM [picD sz t]=.ok (.int ((2^sz:Nat):Int)):=by
 obtain⟨n,rfl,hn⟩:=ex1 (show 0+1≤n by omega)
 have h3:=p.h3
 rw[ph,eU]
 unfold picD
 have:sz=0∨sz=1∨sz=2∨sz=3:=by omega
 rcases this with rfl | rfl | rfl | rfl<;>rfl
end
end Lw
end
section
namespace Lw
open PySem FF
section
variable {α:Type}[DecidableEq α]{e:α→D}
theorem p8 {s:Nat}(h:s≤3):2^s≤8:=by
 have:s=0∨s=1∨s=2∨s=3:=by omega
 rcases this with rfl | rfl | rfl | rfl<;>decide
theorem pos2 (s:Nat):0 < 2^s:=Nat.pow_pos (by decide)
theorem eM {a b:Nat}(h0:0 < b)(h1:b < 1073741824):dDiv (.int (a:Int)) (.int (b:Int))=.ok (.int ((a/b:Nat):Int)):=by
 rw[nZ (by omega) (by omega)];rfl
theorem jR {a b:Nat}(h0:0 < b):dMod (.int (a:Int)) (.int (b:Int))=.ok (.int ((a%b:Nat):Int)):=by
 rw[cW (by omega)];rfl
theorem jS (E:En e):∀ (s:Nat) (t:Q α) (n x y:Nat),s≤3→t.dep≤s→x < 2^s→y < 2^s→t.dep+1≤n→pf n F.aA [t.d e,.int ((2^s:Nat):Int),.int (x:Int),.int (y:Int)]=.ok (e (t.at s x y))
 | s,.lf a,n,x,y,_,_,_,_,hn=>by
  obtain⟨n,rfl,hn⟩:=ex1 (show 0+1≤n by omega)
  rw[ir,cp,jJ]
  have e1:dIsA qTup (Q.d e (.lf a))=.ok (.bl false):=bO (E.tup a) (bN (E.gd 0 a))
  simp only[STP,if_true,if_false,ite_true,ite_false,reduceIte,reduceCtorEq,e1]
  rfl
 | 0,.nd ..,_,_,_,_,h,_,_,_=>by simp[Q.dep]at h
 | s+1,.nd a b c d,n,x,y,h3,hd,hx,hy,hn=>by
  have hd':1+max (max a.dep b.dep) (max c.dep d.dep)≤s+1:=hd
  have hn':1+max (max a.dep b.dep) (max c.dep d.dep)+1≤n:=hn
  obtain⟨n,rfl,hn⟩:=ex1 (show 0+1≤n by omega)
  have hs:=p8 (show s≤3 by omega)
  have hp:=pos2 s
  rw[bM]at hx hy
  rw[ir,cp,Q.d]
  have e1:dDiv (.int ((2^(s+1):Nat):Int)) (.int 2)=.ok (.int ((2^s:Nat):Int)):=by
   have:=eM (a:=2^(s+1)) (b:=2) (by decide) (by decide)
   rw[show (2^(s+1)/2:Nat)=2^s by rw[bM];omega]at this
   exact this
  have e2:=eM (a:=y) (b:=2^s) hp (by omega)
  have e3:=eM (a:=x) (b:=2^s) hp (by omega)
  have e4:=jR (a:=x) (b:=2^s) hp
  have e5:=jR (a:=y) (b:=2^s) hp
  have e6:dMul (.int 2) (.int ((y/2^s:Nat):Int))=.ok (.int (2*((y/2^s:Nat):Int))):=bX (.inr (by decide))
  rw[Q.at]
  by_cases h1:y < 2^s
  ·have y0:y/2^s=0:=Nat.div_eq_of_lt h1
   have y1:y%2^s=y:=Nat.mod_eq_of_lt h1
   by_cases h2:x < 2^s
   ·have x0:x/2^s=0:=Nat.div_eq_of_lt h2
    have x1:x%2^s=x:=Nat.mod_eq_of_lt h2
    have k:=jS E s a n x y (by omega) (by omega) h2 h1 (by omega)
    simp only[STP,if_true,if_false,ite_true,ite_false,reduceIte,reduceCtorEq,OPP,e1,e2,e3,e4,e5,e6,if_pos h1,if_pos h2]
    rw[y0,x0,x1,y1]
    show outL (lB ((dIx (.tup [a.d e,b.d e,c.d e,d.d e]) (.int 0)).bind _) _)=_
    simp only[STP,if_true,if_false,ite_true,ite_false,reduceIte,reduceCtorEq,OPP,k]
   ·have x0:x/2^s=1:=by
     have:x=(x - 2^s)+2^s:=by omega
     rw[this,Nat.add_div_right _ hp,Nat.div_eq_of_lt (by omega)]
    have x1:x%2^s=x - 2^s:=by rw[Nat.mod_eq_sub_mod (by omega),Nat.mod_eq_of_lt (by omega)]
    have k:=jS E s b n (x - 2^s) y (by omega) (by omega) (by omega) h1 (by omega)
    simp only[STP,if_true,if_false,ite_true,ite_false,reduceIte,reduceCtorEq,OPP,e1,e2,e3,e4,e5,e6,if_pos h1,if_neg h2]
    rw[y0,x0,x1,y1]
    show outL (lB ((dIx (.tup [a.d e,b.d e,c.d e,d.d e]) (.int 1)).bind _) _)=_
    simp only[STP,if_true,if_false,ite_true,ite_false,reduceIte,reduceCtorEq,OPP,k]
  ·have y0:y/2^s=1:=by
    have:y=(y - 2^s)+2^s:=by omega
    rw[this,Nat.add_div_right _ hp,Nat.div_eq_of_lt (by omega)]
   have y1:y%2^s=y - 2^s:=by rw[Nat.mod_eq_sub_mod (by omega),Nat.mod_eq_of_lt (by omega)]
   by_cases h2:x < 2^s
   ·have x0:x/2^s=0:=Nat.div_eq_of_lt h2
    have x1:x%2^s=x:=Nat.mod_eq_of_lt h2
    have k:=jS E s c n x (y - 2^s) (by omega) (by omega) h2 (by omega) (by omega)
    simp only[STP,if_true,if_false,ite_true,ite_false,reduceIte,reduceCtorEq,OPP,e1,e2,e3,e4,e5,e6,if_neg h1,if_pos h2]
    rw[y0,x0,x1,y1]
    show outL (lB ((dIx (.tup [a.d e,b.d e,c.d e,d.d e]) (.int 2)).bind _) _)=_
    simp only[STP,if_true,if_false,ite_true,ite_false,reduceIte,reduceCtorEq,OPP,k]
   ·have x0:x/2^s=1:=by
     have:x=(x - 2^s)+2^s:=by omega
     rw[this,Nat.add_div_right _ hp,Nat.div_eq_of_lt (by omega)]
    have x1:x%2^s=x - 2^s:=by rw[Nat.mod_eq_sub_mod (by omega),Nat.mod_eq_of_lt (by omega)]
    have k:=jS E s d n (x - 2^s) (y - 2^s) (by omega) (by omega) (by omega) (by omega) (by omega)
    simp only[STP,if_true,if_false,ite_true,ite_false,reduceIte,reduceCtorEq,OPP,e1,e2,e3,e4,e5,e6,if_neg h1,if_neg h2]
    rw[y0,x0,x1,y1]
    show outL (lB ((dIx (.tup [a.d e,b.d e,c.d e,d.d e]) (.int 3)).bind _) _)=_
    simp only[STP,if_true,if_false,ite_true,ite_false,reduceIte,reduceCtorEq,OPP,k]
end
def rowT {α:Type}(e:α→D)(f:Nat→Nat→α)(w y:Nat):D:=.tup ((List.range w).map fun x=>e (f x y))
def rowsT {α:Type}(e:α→D)(f:Nat→Nat→α)(w h:Nat):D:=.tup ((List.range h).map fun y=>rowT e f w y)
theorem dD {s:Nat}(h:s≤16777216):rng1 [.int (s:Int)]=.ok ((List.range s).map fun i=>D.int ((i:Nat):Int)):=by
 show (if -16777216≤(s:Int)∧(s:Int)≤16777216 then R.ok (rngD 0 (s:Int).toNat) else R.stuck)=_
 rw[if_pos ⟨by omega,by omega⟩]
 unfold rngD
 simp
theorem pJ {α:Type}{e:α→D}{f g:Nat→Nat→α}{w y:Nat}(h:∀ x,x < w→f x y=g x y):rowT e f w y=rowT e g w y:=by
 unfold rowT
 congr 1
 exact List.map_congr_left fun x hx=>by rw[h x (List.mem_range.mp hx)]
theorem iA {α:Type}{e:α→D}{f g:Nat→Nat→α}{w k:Nat}(h:∀ x y,x < w→y < k→f x y=g x y):rowsT e f w k=rowsT e g w k:=by
 unfold rowsT
 congr 1
 exact List.map_congr_left fun y hy=>pJ fun x hx=>h x y hx (List.mem_range.mp hy)
section
variable {sz:Nat}{t:Q Int}
theorem Pc.row (p:Pc sz t){n:Nat}(hn:5≤n){y:Nat}(hy:y < 2^sz):pf n F.aD [picD sz t,.int (y:Int)]=.ok (rowT .int (t.at sz) (2^sz) y):=by
 obtain⟨n,rfl,hn⟩:=ex1 (show 4+1≤n by omega)
 have h3:=p.h3
 have hd:=p.dep
 have h8:=p8 h3
 have e1:=p.side (n:=n) (by omega)
 have hm:cMap (fun x=>(dIx (picD sz t) (.int 1)).bind fun x1=>pf n F.aA [x1,.int ((2^sz:Nat):Int),x,.int (y:Int)]) ((List.range (2^sz)).map fun i=>D.int ((i:Nat):Int))=.ok (.lst ((List.range (2^sz)).map fun x=>D.int (t.at sz x y))) :=
  bS _ _ fun x hx=>by
   unfold picD
   rw[ix21,R.bind_ok]
   exact jS En.int sz t n x y h3 hd (List.mem_range.mp hx) hy (by omega)
 rw[l7,cB]
 simp only[STP,if_true,if_false,ite_true,ite_false,reduceIte,reduceCtorEq,e1,dD (show 2^sz≤16777216 by omega),hm,OPP]
 rfl
theorem Pc.rows (p:Pc sz t){n:Nat}(hn:10≤n):pf n F.av [picD sz t]=.ok (rowsT .int (t.at sz) (2^sz) (2^sz)):=by
 obtain⟨n,rfl,hn⟩:=ex1 (show 9+1≤n by omega)
 have h8:=p8 p.h3
 have e1:=p.side (n:=n) (by omega)
 have e2:=p.check (n:=n) (by omega)
 have hm:cMap (fun y=>pf n F.aD [picD sz t,y]) ((List.range (2^sz)).map fun i=>D.int ((i:Nat):Int))=.ok (.lst ((List.range (2^sz)).map fun y=>rowT .int (t.at sz) (2^sz) y)) :=
  bS _ _ fun y hy=>p.row (by omega) (List.mem_range.mp hy)
 rw[kz,b8]
 simp only[STP,if_true,if_false,ite_true,ite_false,reduceIte,reduceCtorEq,e1,e2,dD (show 2^sz≤16777216 by omega),hm,OPP]
 rfl
end
end Lw
end
section
namespace Lw
open PySem FF
theorem wV (n:Nat):dDiv (.int ((2^(n+1):Nat):Int)) (.int 2)=.ok (.int ((2^n:Nat):Int)):=by
 have:=eM (a:=2^(n+1)) (b:=2) (by decide) (by decide)
 rw[show (2^(n+1)/2:Nat)=2^n by rw[bM];omega]at this
 exact this
theorem zo {α:Type}(f:Nat→Nat→α)(a b c d:Nat):sh (sh f a b) c d=sh f (a+c) (b+d):=by
 funext x y;unfold sh;rw[show x+c+a=x+(a+c) by omega,show y+d+b=y+(b+d) by omega]
theorem sh_0 {α:Type}(f:Nat→Nat→α):sh f 0 0=f:=rfl
theorem jT {sz:Nat}(h:sz≤3):sz=0∨sz=1∨sz=2∨sz=3:=by omega
theorem pK {sz:Nat}(h:sz≤3):dIndexI [(.int 1),(.int 2),(.int 4),(.int 8)] [.int ((2^sz:Nat):Int)]=.ok (.int (sz:Int)):=by
 rcases jT h with rfl | rfl | rfl | rfl<;>rfl
def Wo (f:Nat→Nat→Int)(sz:Nat):Prop:=∀ x y,x < 2^sz→y < 2^sz→W9 (f x y)
def rowL {α:Type}(e:α→D)(f:Nat→Nat→α)(w y:Nat):D:=.lst ((List.range w).map fun x=>e (f x y))
def rowsL {α:Type}(e:α→D)(f:Nat→Nat→α)(w h:Nat):D:=.lst ((List.range h).map fun y=>rowL e f w y)
theorem uZ {α:Type}{e:α→D}{f:Nat→Nat→α}{w k y:Nat}(h:y < k):dIx (rowsL e f w k) (.int (y:Int))=.ok (rowL e f w y):=ixL (by simp[h])
theorem catL {xs ys:List D}(h:xs.length+ys.length≤16777216):dAdd (.lst xs) (.lst ys)=.ok (.lst (xs++ys)):=by
 show (if xs.length+ys.length≤16777216 then R.ok (D.lst (xs++ys)) else R.stuck)=_
 rw[if_pos h]
theorem u0 {α:Type}{e:α→D}{fa fb F:Nat→Nat→α}{h y y':Nat}(ha:∀ x,x < h→F x y'=fa x y)(hb:∀ x,x < h→F (h+x) y'=fb x y):((List.range h).map fun x=>e (fa x y))++((List.range h).map fun x=>e (fb x y))=(List.range (h+h)).map fun x=>e (F x y'):=by
 rw[List.range_add,List.map_append,List.map_map]
 congr 1
 ·exact List.map_congr_left fun x hx=>by rw[ha x (List.mem_range.mp hx)]
 ·exact List.map_congr_left fun x hx=>by show _=e (F (h+x) y');rw[hb x (List.mem_range.mp hx)]
theorem u3 {xs ys:List D}(h:xs.length+ys.length≤16777216):oExt xs (.lst ys)=.ok (xs++ys):=by unfold oExt;simp[h]
theorem jU {xs ys:List D}(h:xs.length+ys.length≤16777216):oExt xs (.tup ys)=.ok (xs++ys):=by unfold oExt;simp[h]
theorem wW {xs:List D}{y:D}(h:xs.length < 16777216):oApp xs y=.ok (xs++[y]):=by unfold oApp;simp[h]
section
variable {α:Type}[DecidableEq α]{e:α→D}
theorem n6 {fa fb F:Nat→Nat→α}{h o:Nat}(hh:h≤1000){some_:List D}{u:Nat}(e1:some_[u]?=some (rowsL e fa h h))(e2:some_[u+1]?=some (rowsL e fb h h))(ha:∀ x y,x < h→y < h→F x (o+y)=fa x y)(hb:∀ x y,x < h→y < h→F (h+x) (o+y)=fb x y){t:Nat→List D→R D}{made:List D}(hm:made.length≤1000) :
  cu t (.lst some_) made (.int (u:Int))=.nx (made++(List.range h).map fun y=>rowL e F (h+h) (o+y)):=by
 have i1:=ixL e1
 have i2:dIx (.lst some_) (.int ((u:Int)+1))=.ok (rowsL e fb h h):=by have:=ixL e2;rw[show ((u+1:Nat):Int)=(u:Int)+1 by omega]at this;exact this
 have hl:dLen [rowsL e fa h h]=.ok (.int (h:Int)):=by unfold rowsL;rw[jM,List.length_map,List.length_range]
 have hc:cMap (fun zM=>((dIx (.lst some_) (.int (u:Int))).bind fun x2=>dIx x2 zM).bind fun x3=>(((dAdd (.int (u:Int)) (.int 1)).bind fun x4=>dIx (.lst some_) x4).bind fun x5=>dIx x5 zM).bind fun x6=>dAdd x3 x6) ((List.range h).map fun i=>D.int ((i:Nat):Int))=.ok (.lst ((List.range h).map fun y=>rowL e F (h+h) (o+y))) :=
  bS _ _ fun y hy=>by
   have hy:=List.mem_range.mp hy
   rw[i1]
   simp only[STP,if_true,if_false,ite_true,ite_false,reduceIte,reduceCtorEq,OPP,i2,uZ hy]
   unfold rowL
   rw[catL (by simp;omega),u0 (F:=F) (y':=o+y) (fun x hx=>ha x y hx hy) (fun x hx=>hb x y hx hy)]
 unfold cu
 rw[i1]
 simp only[STP,if_true,if_false,ite_true,ite_false,reduceIte,reduceCtorEq,hl,dD (show h≤16777216 by omega)]
 rw[i1]at hc
 simp only[STP,if_true,if_false,ite_true,ite_false,reduceIte,reduceCtorEq]at hc
 simp only[STP,if_true,if_false,ite_true,ite_false,reduceIte,reduceCtorEq,hc]
 rw[u3 (by simp;omega)]
 rfl
theorem cA (E:En e):∀ (s:Nat) (t:Q α) (n:Nat),s≤3→t.dep≤s→s+1≤n→pf n F.ar [.int (s:Int),t.d e]=.ok (rowsL e (t.at s) (2^s) (2^s))
 | 0,t,n,_,hd,hn=>by
  obtain⟨n,rfl,hn⟩:=ex1 (show 0+1≤n by omega)
  rw[gh,bU,show ((0:Nat):Int)=0 from rfl]
  simp only[STP,if_true,if_false,ite_true,ite_false,reduceIte,reduceCtorEq,OPP,decide_true]
  cases t with
  | lf a=>rfl
  | nd=>simp[Q.dep]at hd
 | s+1,t,n,h3,hd,hn=>by
  obtain⟨n,rfl,hn⟩:=ex1 (show s+1+1≤n by omega)
  have e0:¬ (((s+1:Nat):Int)=0):=by omega
  have e1:((s+1:Nat):Int) - 1=(s:Int):=by omega
  have h8:=p8 (show s≤3 by omega)
  obtain⟨a,b,c,d,hq,ha,hb,hc,hd4,hF⟩:∃ a b c d:Q α,(rIf (asB (dIsA qTup (t.d e))) (.ok (t.d e)) (dMul (.tup [t.d e]) (.int 4)))=.ok (.tup [a.d e,b.d e,c.d e,d.d e])∧a.dep≤s∧b.dep≤s∧c.dep≤s∧d.dep≤s∧∀ x y,t.at (s+1) x y=(Q.nd a b c d).at (s+1) x y:=by
   cases t with
   | lf v =>
    refine⟨.lf v,.lf v,.lf v,.lf v,?_,Nat.zero_le _,Nat.zero_le _,Nat.zero_le _,Nat.zero_le _,fun x y=>by simp[Q.at]⟩
    rw[bO (d:=Q.d e (.lf v)) (E.tup v) (bN (E.gd 0 v))]
    rfl
   | nd a b c d =>
    have hd':1+max (max a.dep b.dep) (max c.dep d.dep)≤s+1:=hd
    exact⟨a,b,c,d,rfl,by omega,by omega,by omega,by omega,fun _ _=>rfl⟩
  have ka:=cA E s a n (by omega) ha (by omega)
  have kb:=cA E s b n (by omega) hb (by omega)
  have kc:=cA E s c n (by omega) hc (by omega)
  have kd:=cA E s d n (by omega) hd4 (by omega)
  have hm:cMap (fun zT=>(dSub (.int ((s+1:Nat):Int)) (.int 1)).bind fun x=>pf n F.ar [x,zT]) [a.d e,b.d e,c.d e,d.d e]=.ok (.lst [rowsL e (a.at s) (2^s) (2^s),rowsL e (b.at s) (2^s) (2^s),rowsL e (c.at s) (2^s) (2^s),rowsL e (d.at s) (2^s) (2^s)]):=by
   rw[bW,e1];exact cMap4 ka kb kc kd
  have u1:=n6 (e:=e) (fa:=a.at s) (fb:=b.at s) (F:=t.at (s+1)) (h:=2^s) (o:=0) (by omega) (some_:=[rowsL e (a.at s) (2^s) (2^s),rowsL e (b.at s) (2^s) (2^s),rowsL e (c.at s) (2^s) (2^s),rowsL e (d.at s) (2^s) (2^s)]) (u:=0) rfl rfl
   (fun x y hx hy=>by rw[hF,Q.at,if_pos (by omega),if_pos hx,Nat.zero_add]) (fun x y hx hy=>by rw[hF,Q.at,if_pos (by omega),if_neg (by omega),Nat.zero_add,Nat.add_sub_cancel_left]) (t:=pf n) (made:=[]) (by simp)
  have u2:=n6 (e:=e) (fa:=c.at s) (fb:=d.at s) (F:=t.at (s+1)) (h:=2^s) (o:=2^s) (by omega) (some_:=[rowsL e (a.at s) (2^s) (2^s),rowsL e (b.at s) (2^s) (2^s),rowsL e (c.at s) (2^s) (2^s),rowsL e (d.at s) (2^s) (2^s)]) (u:=2) rfl rfl
   (fun x y hx hy=>by rw[hF,Q.at,if_neg (by omega),if_pos hx,Nat.add_sub_cancel_left]) (fun x y hx hy=>by rw[hF,Q.at,if_neg (by omega),if_neg (by omega),Nat.add_sub_cancel_left,Nat.add_sub_cancel_left]) (t:=pf n) (made:=(List.range (2^s)).map fun y=>rowL e (t.at (s+1)) (2^s+2^s) (0+y)) (by simp;omega)
  rw[gh,bU,hq]
  have hs2:sq (.tup [(.int 0),(.int 2)])=.ok [.int 0,.int 2]:=rfl
  rw[show ((0:Nat):Int)=0 from rfl]at u1
  rw[show ((2:Nat):Int)=2 from rfl]at u2
  simp only[STP,if_true,if_false,ite_true,ite_false,reduceIte,reduceCtorEq,OPP,decide_eq_false e0,sq4,e1,hs2,a9,jr]at hm ⊢
  simp only[STP,if_true,if_false,ite_true,ite_false,reduceIte,reduceCtorEq,hm,u1,List.nil_append]at u2 ⊢
  simp only[STP,if_true,if_false,ite_true,ite_false,reduceIte,reduceCtorEq,u2]
  unfold rowsL
  rw[bM,List.range_add,List.map_append,List.map_map]
  simp[Function.comp_def]
end
theorem Pc.lrows {sz:Nat}{t:Q Int}(p:Pc sz t){n:Nat}(hn:5≤n):pf n F.aS [picD sz t]=.ok (rowsT .int (t.at sz) (2^sz) (2^sz)):=by
 obtain⟨n,rfl,hn⟩:=ex1 (show 4+1≤n by omega)
 have h3:=p.h3
 have h8:=p8 h3
 have e1:=cA En.int sz t n h3 p.dep (by omega)
 have hsq:sq (rowsL .int (t.at sz) (2^sz) (2^sz))=.ok ((List.range (2^sz)).map fun y=>rowL .int (t.at sz) (2^sz) y):=jK (by simp;omega)
 have hm:cMap (fun zR=>dTuple [zR]) ((List.range (2^sz)).map fun y=>rowL .int (t.at sz) (2^sz) y)=.ok (.lst ((List.range (2^sz)).map fun y=>rowT .int (t.at sz) (2^sz) y)):=bS _ _ fun y _=>rfl
 rw[sk,f8]
 unfold picD
 simp only[STP,if_true,if_false,ite_true,ite_false,reduceIte,reduceCtorEq,OPP,e1,hsq,hm]
 rfl
end Lw
end
section
namespace Lw
open PySem FF
theorem gA {α:Type}(c:α→D){step:List D→D→L (List D)}(g:α→List D)(m:Nat):∀ (l:List α) (acc:List D),(∀ a∈l,∀ acc:List D,acc.length≤10000→step acc (c a)=.nx (acc++g a))→(∀ a∈l,(g a).length≤m)→acc.length+l.length*m≤10000→lFor step (l.map c) acc=.nx (acc++l.flatMap g)
 | [],acc,_,_,_=>by simp
 | a::l,acc,h,hm,hl=>by
  have hl':acc.length+(l.length+1)*m≤10000:=hl
  rw[Nat.add_mul]at hl'
  have ha:=hm a (.head _)
  rw[List.map_cons,a9,h a (.head _) acc (by omega),bP,gA c g m l (acc++g a) (fun b hb=>h b (.tail _ hb)) (fun b hb=>hm b (.tail _ hb)) (by rw[List.length_append];omega),List.flatMap_cons,List.append_assoc]
theorem bB:∀ is:List Int,intsOf (is.map .int)=some is
 | []=>rfl
 | i::r=>by rw[List.map_cons,intsOf,bB r];rfl
def vals (f:Nat→Nat→Int)(w k:Nat):List Int:=(List.range k).flatMap fun y=>(List.range w).map fun x=>f x y
theorem n8 (f:Nat→Nat→Int)(w k:Nat):(vals f w k).length=k*w:=by
 unfold vals
 rw[List.length_flatMap]
 have:∀ l:List Nat,(l.map fun y=>((List.range w).map fun x=>f x y).length).sum=l.length*w:=fun l=>by
  induction l with
  | nil=>simp
  | cons a l ih=>rw[List.map_cons,List.sum_cons,ih,List.length_map,List.length_range,List.length_cons,Nat.add_mul];omega
 rw[this,List.length_range]
theorem a8 {f:Nat→Nat→Int}{w k:Nat}{v:Int}:v∈vals f w k↔∃ x y,x < w∧y < k∧v=f x y:=by
 unfold vals
 simp only[List.mem_flatMap,List.mem_map,List.mem_range]
 constructor
 ·rintro ⟨y,hy,x,hx,rfl⟩;exact⟨x,y,hx,hy,rfl⟩
 ·rintro ⟨x,y,hx,hy,rfl⟩;exact⟨y,hy,x,hx,rfl⟩
theorem u4:∀ {l:List Int},l.eraseDups.length=1↔∃ a r,l=a::r∧∀ v∈l,v=a
 | []=>by simp
 | a::r=>by
  rw[List.eraseDups_cons]
  constructor
  ·intro h
   have h0:(r.filter fun b=>!b==a).eraseDups=[]:=List.length_eq_zero_iff.mp (by simpa using h)
   have h1:(r.filter fun b=>!b==a)=[]:=by
    cases q:(r.filter fun b=>!b==a) with
    | nil=>rfl
    | cons b s=>rw[q,List.eraseDups_cons]at h0;cases h0
   refine⟨a,r,rfl,fun v hv=>?_⟩
   cases hv with
   | head=>rfl
   | tail _ hv =>
    rw[List.filter_eq_nil_iff]at h1
    simpa using h1 v hv
  ·rintro ⟨a',r',e,h⟩
   cases e
   have:(r.filter fun b=>!b==a)=[]:=List.filter_eq_nil_iff.mpr fun v hv=>by simpa using h v (.tail _ hv)
   rw[this];rfl
theorem ij {f:Nat→Nat→Int}{w k:Nat}(hw:0 < w)(hk:0 < k):∃ r,vals f w k=f 0 0::r:=by
 obtain⟨w,rfl⟩:∃ m,w=m+1:=⟨w - 1,by omega⟩
 obtain⟨k,rfl⟩:∃ m,k=m+1:=⟨k - 1,by omega⟩
 unfold vals
 rw[List.range_succ_eq_map (n:=k),List.flatMap_cons,List.range_succ_eq_map (n:=w),List.map_cons]
 exact⟨_,rfl⟩
theorem u5 {f:Nat→Nat→Int}{w k:Nat}(hw:0 < w)(hk:0 < k):(vals f w k).eraseDups.length=1↔∀ x y,x < w→y < k→f x y=f 0 0:=by
 rw[u4]
 obtain⟨r,hr⟩:=ij (f:=f) hw hk
 constructor
 ·rintro ⟨a,r',e,h⟩ x y hx hy
  rw[hr]at e
  cases e
  exact h _ (a8.mpr ⟨x,y,hx,hy,rfl⟩)
 ·intro h
  refine⟨_,r,hr,fun v hv=>?_⟩
  obtain⟨x,y,hx,hy,rfl⟩:=a8.mp hv
  exact h x y hx hy
theorem T_nd {α:Type}[DecidableEq α]{n:Nat}{f:Nat→Nat→α}(h:¬ ∀ x y,x < 2^(n+1)→y < 2^(n+1)→f x y=f 0 0):T f (n+1)=.nd (T f n) (T (sh f (2^n) 0) n) (T (sh f 0 (2^n)) n) (T (sh f (2^n) (2^n)) n):=by
 by_cases q:∃ v,T f (n+1)=.lf v
 ·obtain⟨v,q⟩:=q
  exfalso
  apply h
  intro x y hx hy
  have:=T_at (n+1) f x y hx hy
  rw[q,jJ]at this
  have h0:=T_at (n+1) f 0 0 (pos2 _) (pos2 _)
  rw[q,jJ]at h0
  rw[← this,h0]
 ·rw[T]at q ⊢
  unfold put4 at q ⊢
  split
  ·rename_i v e
   split
   ·rename_i h';exfalso;apply q;rw[e];simp only;rw[if_pos h'];exact⟨v,rfl⟩
   ·rw[e]
  ·rfl
theorem i5 {n d k:Nat}(h:k≤n):HT.sIx n d (some ((k:Nat):Int))=k:=by
 unfold HT.sIx
 simp only
 rw[if_neg (by omega)]
 rw[Int.toNat_natCast]
 omega
theorem eZ {g:Nat→D}{w a h:Nat}(hw:a+h≤w):cutD ((List.range w).map g) (some ((a:Nat):Int)) (some ((a+h:Nat):Int))=(List.range h).map fun i=>g (a+i):=by
 unfold cutD
 rw[List.length_map,List.length_range,i5 (by omega),i5 (by omega),← List.map_drop,← List.map_take]
 have:((List.range w).drop a).take (a+h - a)=(List.range h).map (a + ·):=by
  rw[show a+h - a=h by omega]
  apply List.ext_getElem?
  intro i
  rw[List.getElem?_take]
  by_cases hi:i < h
  ·rw[if_pos hi,List.getElem?_drop,List.getElem?_range (by omega),List.getElem?_map,List.getElem?_range hi];rfl
  ·rw[if_neg hi,List.getElem?_eq_none (by simp;omega)]
 rw[this,List.map_map]
 rfl
def seqD (b:Bool)(xs:List D):D:=if b then .tup xs else .lst xs
theorem jV {b:Bool}{xs:List D}(h:xs.length≤16777216):sq (seqD b xs)=.ok xs:=by cases b;exact jK h;exact eF h
theorem wX {b:Bool}{xs:List D}{lo hi:Option Int}:dSw (seqD b xs) lo hi=.ok (seqD b (cutD xs lo hi)):=by cases b<;>rfl
theorem n9 {b:Bool}{xs:List D}:dLen [seqD b xs]=.ok (.int xs.length):=by cases b<;>rfl
def rowsS {α:Type}(b:Bool)(e:α→D)(f:Nat→Nat→α)(w h:Nat):D:=seqD b ((List.range h).map fun y=>rowT e f w y)
theorem sH:∀ (n:Nat) (b:Bool) (f:Nat→Nat→Int) (k:Nat),n≤3→n+1≤k→pf k F.aO [rowsS b .int f (2^n) (2^n)]=.ok ((T f n).d .int):=by
 have flat:∀ (b:Bool) (f:Nat→Nat→Int) (s:Nat) (t:Nat→List D→R D),s≤8→lFor (τ:=List D) (fun s x=>cc t s x) ((List.range s).map fun y=>rowT .int f s y) []=.nx ((vals f s s).map .int):=fun b f s t hs=>by
  have h8:s*s≤64:=Nat.mul_le_mul hs hs
  have:=gA (fun y=>rowT .int f s y) (step:=fun s x=>cc t s x) (fun y=>(List.range s).map fun x=>D.int (f x y)) s (List.range s) [] (fun y hy acc ha=>by
   unfold cc rowT
   rw[jU (by simp;omega)]
   rfl) (fun y hy=>by simp) (by simp;omega)
  rw[this]
  unfold vals
  simp[List.map_flatMap,Function.comp_def]
 intro n
 induction n with
 | zero =>
  intro b f k _ hk
  obtain⟨k,rfl,hk⟩:=ex1 (show 0+1≤k by omega)
  have hf:=flat b f 1 (pf k) (by decide)
  rw[jw,cQ]
  unfold rowsS
  rw[show (2^0:Nat)=1 from rfl,jV (by simp),aG,hf]
  rfl
 | succ n ih =>
  intro b f k h3 hk
  obtain⟨k,rfl,hk⟩:=ex1 (show n+1+1≤k by omega)
  have h8:=p8 h3
  have hp:=pos2 (n+1)
  have hq:=pos2 n
  have hd:=bM n
  have hf:=flat b f (2^(n+1)) (pf k) h8
  have hls:dLenSet [.lst ((vals f (2^(n+1)) (2^(n+1))).map .int)]=.ok (.int ((vals f (2^(n+1)) (2^(n+1))).eraseDups.length:Nat)):=by
   have hl:(vals f (2^(n+1)) (2^(n+1))).length≤4000:=by
    rw[n8];have:=Nat.mul_le_mul h8 h8;omega
   unfold dLenSet;simp only[bB];rw[if_pos hl]
  have hv:=u5 (f:=f) hp hp
  obtain⟨r,hr⟩:=ij (f:=f) hp hp
  have hsq:sq (rowsS b .int f (2^(n+1)) (2^(n+1)))=.ok ((List.range (2^(n+1))).map fun y=>rowT .int f (2^(n+1)) y):=jV (by simp;omega)
  have hln:dLen [rowsS b .int f (2^(n+1)) (2^(n+1))]=.ok (.int ((2^(n+1):Nat):Int)):=by unfold rowsS;rw[n9];simp
  rw[jw,cQ]
  by_cases hall:∀ x y,x < 2^(n+1)→y < 2^(n+1)→f x y=f 0 0
  ·have h1:((vals f (2^(n+1)) (2^(n+1))).eraseDups.length:Int)=1:=by have:=hv.mpr hall;omega
   have h2:dIx (.lst ((vals f (2^(n+1)) (2^(n+1))).map .int)) (.int 0)=.ok (.int (f 0 0)):=by
    have:=ixL (xs:=(vals f (2^(n+1)) (2^(n+1))).map .int) (i:=0) (x:=.int (f 0 0)) (by rw[hr];rfl)
    exact this
   have h3:T f (n+1)=.lf (f 0 0):=(aI _ _ _ hall).trans (iX _ _)
   simp only[STP,if_true,if_false,ite_true,ite_false,reduceIte,reduceCtorEq,OPP,hsq,hf,hls,decide_eq_true h1,h2,h3,Q.d]
  ·have h1:¬ ((vals f (2^(n+1)) (2^(n+1))).eraseDups.length:Int)=1:=fun q=>hall (hv.mp (by omega))
   have one:∀ (tp lf:Nat) (parts:List D),tp+2^n≤2^(n+1)→lf+2^n≤2^(n+1)→parts.length≤10→dg (pf k) (rowsS b .int f (2^(n+1)) (2^(n+1))) (.int ((2^n:Nat):Int)) (.int (tp:Int)) parts (.int (lf:Int))=.nx (parts++[(T (sh f lf tp) n).d .int]):=fun tp lf parts htp hlf hpa=>by
    have c1:(tp:Int)+((2^n:Nat):Int)=((tp+2^n:Nat):Int):=by omega
    have c2:(lf:Int)+((2^n:Nat):Int)=((lf+2^n:Nat):Int):=by omega
    have ai:∀ i:Int,asI (.int i)=.ok (some i):=fun _=>rfl
    have s1:dSw (rowsS b .int f (2^(n+1)) (2^(n+1))) (some (tp:Int)) (some ((tp+2^n:Nat):Int))=.ok (seqD b ((List.range (2^n)).map fun i=>rowT .int f (2^(n+1)) (tp+i))):=by
     unfold rowsS
     rw[wX,eZ htp]
    have s2:sq (seqD b ((List.range (2^n)).map fun i=>rowT .int f (2^(n+1)) (tp+i)))=.ok ((List.range (2^n)).map fun i=>rowT .int f (2^(n+1)) (tp+i)):=jV (by simp;omega)
    have s3:cMap (fun zR=>dSw zR (some (lf:Int)) (some ((lf+2^n:Nat):Int))) ((List.range (2^n)).map fun i=>rowT .int f (2^(n+1)) (tp+i))=.ok (rowsS false .int (sh f lf tp) (2^n) (2^n)):=by
     refine(bS _ (fun i=>rowT .int (sh f lf tp) (2^n) i) fun i hi=>?_).trans rfl
     unfold rowT
     show R.ok (D.tup (cutD _ _ _))=_
     rw[eZ (g:=fun x=>D.int (f x (tp+i))) hlf]
     unfold sh
     congr 2
     exact List.map_congr_left fun x _=>by rw[Nat.add_comm lf x,Nat.add_comm tp i]
    have s4:=ih false (sh f lf tp) k (by omega) (by omega)
    unfold dg
    simp only[STP,if_true,if_false,ite_true,ite_false,reduceIte,reduceCtorEq,OPP,ai,c1,c2,s1,s2,s3,s4]
    rw[wW (by omega)]
    rfl
   have pair:∀ (tp:Nat) (parts:List D),tp+2^n≤2^(n+1)→parts.length≤5→dh (pf k) (rowsS b .int f (2^(n+1)) (2^(n+1))) (.int ((2^n:Nat):Int)) parts (.int (tp:Int))=.nx (parts++[(T (sh f 0 tp) n).d .int,(T (sh f (2^n) tp) n).d .int]):=fun tp parts htp hpa=>by
    have h0:=one tp 0 parts htp (by omega) (by omega)
    have h1:=one tp (2^n) (parts++[(T (sh f 0 tp) n).d .int]) htp (by omega) (by simp;omega)
    have hs2:sq (.tup [(.int 0),(.int ((2^n:Nat):Int))])=.ok [.int 0,.int ((2^n:Nat):Int)]:=rfl
    rw[show ((0:Nat):Int)=0 from rfl]at h0
    unfold dh
    simp only[STP,if_true,if_false,ite_true,ite_false,reduceIte,reduceCtorEq,hs2,a9,jr,h0,h1,List.append_assoc,List.cons_append,List.nil_append]
   have p0:=pair 0 [] (by omega) (by simp)
   have p1:=pair (2^n) [(T (sh f 0 0) n).d .int,(T (sh f (2^n) 0) n).d .int] (by omega) (by simp)
   have hs2:sq (.tup [(.int 0),(.int ((2^n:Nat):Int))])=.ok [.int 0,.int ((2^n:Nat):Int)]:=rfl
   rw[show ((0:Nat):Int)=0 from rfl]at p0
   rw[T_nd hall]
   simp only[STP,if_true,if_false,ite_true,ite_false,reduceIte,reduceCtorEq,OPP,hsq,hf,hls,decide_eq_false h1,hln,wV,hs2,a9,jr,p0,List.nil_append,p1,List.cons_append,Q.d]
   rfl
theorem yO {n:Nat}(b:Bool)(f:Nat→Nat→Int){sz:Nat}(h3:sz≤3)(hn:5≤n):pf n F.aY [rowsS b .int f (2^sz) (2^sz)]=.ok (picD sz (T f sz)):=by
 obtain⟨n,rfl,hn⟩:=ex1 (show 4+1≤n by omega)
 have hln:dLen [rowsS b .int f (2^sz) (2^sz)]=.ok (.int ((2^sz:Nat):Int)):=by unfold rowsS;rw[n9];simp
 have e1:(onL (.lst [(.int 1),(.int 2),(.int 4),(.int 8)]) fun ls=>dIndexI ls [.int ((2^sz:Nat):Int)])=.ok (.int (sz:Int)):=pK h3
 have e2:=sH sz b f n h3 (by omega)
 rw[wE,l6]
 simp only[STP,if_true,if_false,ite_true,ite_false,reduceIte,reduceCtorEq,hln,e1,e2]
 rfl
theorem xE {n:Nat}(f:Nat→Nat→Int){sz:Nat}(h3:sz≤3)(hn:5≤n):pf n F.aY [rowsT .int f (2^sz) (2^sz)]=.ok (picD sz (T f sz)):=yO true f h3 hn
end Lw
end
section
namespace Lw
open PySem FF
theorem qD {α:Type}(xs:List D)(k:List D→R α):onL (.lst xs) k=k xs:=rfl
structure Bx where
 l:Nat
 t:Nat
 w:Nat
 h:Nat
section
variable {sz:Nat}{tr:Q Int}
end
theorem oa {n:Nat}(hn:1≤n)(f:Nat→Nat→Int)(w h:Nat)(hw:w≤8)(hh:h≤8)(b:Bool):pf n F.aE [rowsS b .int f w h]=.ok (.lst ((vals f w h).map .int)):=by
 obtain⟨n,rfl,hn⟩:=ex1 (show 0+1≤n by omega)
 have h8:h*w≤64:=Nat.mul_le_mul hh hw
 have:=gA (fun y=>rowT .int f w y) (step:=fun s x=>cr (pf n) s x) (fun y=>(List.range w).map fun x=>D.int (f x y)) w (List.range h) [] (fun y hy acc ha=>by
  unfold cr rowT
  rw[jU (by simp;omega)]
  rfl) (fun y hy=>by simp) (by simp;omega)
 have hsq:sq (rowsS b .int f w h)=.ok ((List.range h).map fun y=>rowT .int f w y):=jV (by simp;omega)
 rw[l9,cE]
 simp only[STP,if_true,if_false,ite_true,ite_false,reduceIte,reduceCtorEq,hsq,this]
 unfold vals
 simp[List.map_flatMap,Function.comp_def]
section
variable {sz:Nat}{tr:Q Int}
theorem sI (a:Int)(is:List Int):dMinL [.lst ((a::is).map .int)]=.ok (.int (minI a is)):=by unfold dMinL;simp only[bB]
theorem sJ (a:Int)(is:List Int):dMaxL [.lst ((a::is).map .int)]=.ok (.int (maxI a is)):=by unfold dMaxL;simp only[bB]
theorem iB (is:List Int)(k:Int):dCountI (is.map .int) [.int k]=.ok (.int (is.countP (· == k):Nat)):=by unfold dCountI;simp only[bB]
def minL (l:List Int):Int:=match l with
 | []=>0
 | a::is=>minI a is
def maxL (l:List Int):Int:=match l with
 | []=>0
 | a::is=>maxI a is
theorem u6 {l:List Int}(h:l≠[]):dMinL [.lst (l.map .int)]=.ok (.int (minL l)):=by
 cases l with
 | nil=>exact absurd rfl h
 | cons a is=>exact sI a is
theorem og {l:List Int}(h:l≠[]):dMaxL [.lst (l.map .int)]=.ok (.int (maxL l)):=by
 cases l with
 | nil=>exact absurd rfl h
 | cons a is=>exact sJ a is
end
theorem lu:∀ (l:List Int) (a:Int),minI a l∈a::l∧∀ x∈a::l,minI a l≤x
 | [],a=>⟨.head _,fun x hx=>by simp at hx;subst hx;exact Int.le_refl _⟩
 | b::l,a=>by
  have e:minI a (b::l)=minI (if b < a then b else a) l:=rfl
  obtain⟨h1,h2⟩:=lu l (if b < a then b else a)
  rw[e]
  refine⟨?_,fun x hx=>?_⟩
  ·rcases List.mem_cons.mp h1 with h | h
   ·rw[h];split
    ·exact .tail _ (.head _)
    ·exact .head _
   ·exact .tail _ (.tail _ h)
  ·have h3:=h2 _ (.head _)
   rcases List.mem_cons.mp hx with h | h
   ·subst h;exact Int.le_trans h3 (by split<;>omega)
   ·rcases List.mem_cons.mp h with h | h
    ·subst h;exact Int.le_trans h3 (by split<;>omega)
    ·exact h2 x (.tail _ h)
theorem lv:∀ (l:List Int) (a:Int),maxI a l∈a::l∧∀ x∈a::l,x≤maxI a l
 | [],a=>⟨.head _,fun x hx=>by simp at hx;subst hx;exact Int.le_refl _⟩
 | b::l,a=>by
  have e:maxI a (b::l)=maxI (if a < b then b else a) l:=rfl
  obtain⟨h1,h2⟩:=lv l (if a < b then b else a)
  rw[e]
  refine⟨?_,fun x hx=>?_⟩
  ·rcases List.mem_cons.mp h1 with h | h
   ·rw[h];split
    ·exact .tail _ (.head _)
    ·exact .head _
   ·exact .tail _ (.tail _ h)
  ·have h3:=h2 _ (.head _)
   rcases List.mem_cons.mp hx with h | h
   ·subst h;exact Int.le_trans (by split<;>omega) h3
   ·rcases List.mem_cons.mp h with h | h
    ·subst h;exact Int.le_trans (by split<;>omega) h3
    ·exact h2 x (.tail _ h)
theorem bR {l:List Int}(h:l≠[]):minL l∈l∧∀ x∈l,minL l≤x:=by
 cases l with
 | nil=>exact absurd rfl h
 | cons a is=>exact lu is a
theorem cX {l:List Int}(h:l≠[]):maxL l∈l∧∀ x∈l,x≤maxL l:=by
 cases l with
 | nil=>exact absurd rfl h
 | cons a is=>exact lv is a
theorem mH {l:List Int}{m:Int}(h1:m∈l)(h2:∀ x∈l,m≤x):minL l=m:=by
 obtain⟨a,b⟩:=bR (l:=l) (by rintro rfl;cases h1)
 have:=b m h1;have:=h2 _ a;omega
theorem mI {l:List Int}{m:Int}(h1:m∈l)(h2:∀ x∈l,x≤m):maxL l=m:=by
 obtain⟨a,b⟩:=cX (l:=l) (by rintro rfl;cases h1)
 have:=b m h1;have:=h2 _ a;omega
theorem gC {α β:Type}(a b:α→List β):∀ l:List α,(l.flatMap fun y=>a y++b y).Perm (l.flatMap a++l.flatMap b)
 | []=>.nil
 | y::l=>by
  rw[List.flatMap_cons,List.flatMap_cons,List.flatMap_cons]
  have ih:=gC a b l
  calc (a y++b y++l.flatMap fun y=>a y++b y).Perm (a y++b y++(l.flatMap a++l.flatMap b)):=List.Perm.append_left _ ih
   _ |>.Perm (a y++l.flatMap a++(b y++l.flatMap b)):=by
    rw[List.append_assoc,List.append_assoc]
    refine List.Perm.append_left _ ?_
    rw[← List.append_assoc,← List.append_assoc]
    exact List.Perm.append_right _ List.perm_append_comm
theorem oh (f:Nat→Nat→Int)(c d k:Nat):(vals f (c+d) k).Perm (vals f c k++vals (sh f c 0) d k):=by
 unfold vals
 have e:((List.range k).flatMap fun y=>(List.range (c+d)).map fun x=>f x y)=(List.range k).flatMap fun y=>((List.range c).map fun x=>f x y)++((List.range d).map fun x=>sh f c 0 x y):=by
  congr 1
  funext y
  rw[List.range_add,List.map_append,List.map_map]
  congr 1
  exact List.map_congr_left fun x _=>by unfold sh;simp[Nat.add_comm]
 rw[e]
 exact gC _ _ _
end Lw
end
section
namespace Lw
open PySem FF
theorem iC {α τ:Type}(f:τ→α→L τ):∀ (xs ys:List α) (s:τ),lFor f (xs++ys) s=lS (lFor f xs s) fun s'=>lFor f ys s'
 | [],ys,s=>rfl
 | x::xs,ys,s=>by
  rw[List.cons_append,a9,a9]
  cases f s x with
  | nx s'=>exact iC f xs ys s'
  | rt d=>rfl
  | er k=>rfl
  | stuck=>rfl
theorem cY {α τ:Type}{f:τ→α→L τ}(c:Nat→α)(inv:Nat→τ):∀ n,(∀ i,i < n→f (inv i) (c i)=.nx (inv (i+1)))→lFor f ((List.range n).map c) (inv 0)=.nx (inv n)
 | 0,_=>rfl
 | n+1,h=>by
  rw[List.range_succ,List.map_append,iC,cY c inv n fun i hi=>h i (by omega),bP,List.map_cons,List.map_nil,a9,h n (by omega)]
  rfl
theorem oi {α:Type}{f:Unit→α→L Unit}:∀ (l:List α),(∀ a∈l,f () a=.nx ())→lFor f l ()=.nx ()
 | [],_=>rfl
 | a::l,h=>by rw[a9,h a (.head _),bP];exact oi l fun b hb=>h b (.tail _ hb)
structure Sh (sz:Nat)(g:Nat→Nat→Int)(t:Q Int):Prop where
 p:Pc sz t
 w:∀ x y,x < 2^sz→y < 2^sz→t.at sz x y=g x y
theorem Sh.wo {sz:Nat}{g:Nat→Nat→Int}{t:Q Int}(h:Sh sz g t):Wo g sz:=fun x y hx hy=>by rw[← h.w x y hx hy];exact h.p.at x y
theorem sh_T {sz:Nat}{g:Nat→Nat→Int}(h3:sz≤3)(h:Wo g sz):Sh sz g (T g sz):=⟨pc_T h3 h,fun x y hx hy=>T_at sz g x y hx hy⟩
theorem Pc.sh {sz:Nat}{t:Q Int}(p:Pc sz t):Sh sz (t.at sz) t:=⟨p,fun _ _ _ _=>rfl⟩
section
variable {sz:Nat}{g:Nat→Nat→Int}{t:Q Int}
theorem Sh.lean (q:Sh sz g t){n:Nat}(hn:10≤n):pf n F.aJ [picD sz t]=.ok (picD sz (T g sz)):=by rw[q.p.lean hn,aI sz _ _ q.w]
theorem Sh.rows (q:Sh sz g t){n:Nat}(hn:10≤n):pf n F.av [picD sz t]=.ok (rowsT .int g (2^sz) (2^sz)):=by rw[q.p.rows hn,iA q.w]
theorem Sh.lrows (q:Sh sz g t){n:Nat}(hn:5≤n):pf n F.aS [picD sz t]=.ok (rowsT .int g (2^sz) (2^sz)):=by rw[q.p.lrows hn,iA q.w]
end
abbrev Bx.has (b:Bx)(x y:Nat):Prop:=(b.l≤x∧x < b.l+b.w)∧b.t≤y∧y < b.t+b.h
instance (b:Bx)(x y:Nat):Decidable (b.has x y):=inferInstanceAs (Decidable (_∧_))
def fillF (f:Nat→Nat→Int)(b:Bx)(v:Int):Nat→Nat→Int:=fun x y=>if b.has x y then v else f x y
theorem yP {xs:List D}{a:Nat}(h:a≤xs.length):cutD xs none (some ((a:Nat):Int))=xs.take a:=by
 unfold cutD
 rw[i5 h,HT.mT]
 simp
theorem oj {xs:List D}{a:Nat}(h:a≤xs.length):cutD xs (some ((a:Nat):Int)) none=xs.drop a:=by
 unfold cutD
 rw[i5 h,HT.mT,List.take_of_length_le (by simp)]
section
variable {sz:Nat}{g:Nat→Nat→Int}{t:Q Int}
end
theorem sK:∀ {n:Nat} {d:D},good n d=true→eqD d d=true:=fun {n d} h=>FF.dP n d h
theorem eN {x:D}(h:good 60 x=true):dNf x x=.ok (.bl false):=by rw[n4 h h,FF.dP 60 x h];rfl
theorem Pc.g60 {sz:Nat}{t:Q Int}(p:Pc sz t):FF.good 60 (picD sz t)=true:=dC p.good (by decide)
end Lw
end
section
namespace Lw
open PySem FF
def th (w:Nat):Nat→D→Bool
 | n+1,.tup xs=>decide (xs.length≤w)&&xs.all (th w n)
 | 0,.tup _=>false
 | _,.lst xs=>decide (xs.length≤w)&&xs.all flatD
 | _,.exc _=>false
 | _,.fn _=>false
 | _,_=>true
def kid (xs:List D)(i:Nat):D:=xs[i]?.getD .non
def places:Nat→D→List (List Nat)
 | n+1,.tup xs=>[]::(List.range xs.length).flatMap fun i=>(places n (kid xs i)).map (i::·)
 | _,_=>[[]]
def pD (p:List Nat):D:=.tup (p.map fun (i:Nat)=>.int (i:Int))
theorem pL {xs:List D}{i:Nat}(h:i < xs.length):xs[i]?=some (kid xs i):=by
 unfold kid;rw[List.getElem?_eq_getElem h];rfl
theorem cH {xs:List D}{i:Nat}(h:i < xs.length):kid xs i∈xs:=by
 have:=pL h
 exact List.mem_of_getElem? this
theorem mJ {xs:List D}{i:Nat}(h:i < xs.length):dIx (.tup xs) (.int (i:Int))=.ok (kid xs i):=by
 have e:L2.atI xs (i:Int)=some (kid xs i):=by
  unfold L2.atI L2.ixN
  rw[if_pos (by omega),if_pos (by omega)]
  show xs[(i:Int).toNat]?=_
  rw[Int.toNat_natCast]
  exact pL h
 show (match L2.atI xs (i:Int) with | some d=>R.ok d | none=>R.stuck)=_
 rw[e]
theorem bi {w n:Nat}{xs:List D}:th w (n+1) (.tup xs)=true↔xs.length≤w∧∀ x∈xs,th w n x=true:=by
 rw[th,Bool.and_eq_true,decide_eq_true_eq,List.all_eq_true]
theorem u7 {w n:Nat}{d:D}(h:th w n d=true):noX d=true:=by
 cases d<;>first | rfl | (cases n<;>simp[th]at h)
theorem lw {n:Nat}{d:D}(h:flatD d=true):good n d=true:=by
 cases d<;>first | (simp[flatD]at h;done) | (cases n<;>rfl)
theorem sL {n:Nat}{d:D}(h:flatD d=true):slim n d=true:=by
 cases d<;>first | (simp[flatD]at h;done) | (cases n<;>rfl)
theorem qE {w:Nat}:∀ {n:Nat} {d:D},th w n d=true→good (n+1) d=true:=by
 intro n
 induction n with
 | zero =>
  intro d h
  cases d with
  | lst xs =>
   simp only[th,Bool.and_eq_true,decide_eq_true_eq,List.all_eq_true]at h
   rw[good]
   exact bY fun x hx=>lw (h.2 x hx)
  | _=>first | rfl | (simp[th]at h)
 | succ n ih =>
  intro d h
  cases d with
  | tup xs =>
   rw[good]
   exact bY fun x hx=>ih ((bi.mp h).2 x hx)
  | lst xs =>
   simp only[th,Bool.and_eq_true,decide_eq_true_eq,List.all_eq_true]at h
   rw[good]
   exact bY fun x hx=>lw (h.2 x hx)
  | _=>first | rfl | (simp[th]at h)
theorem wY {w:Nat}(hw:w≤1000):∀ {n:Nat} {d:D} (m:Nat),th w n d=true→slim m d=true:=by
 have hl:∀ {n:Nat} {xs:List D} (m:Nat),th w n (.lst xs)=true→slim m (.lst xs)=true:=fun {n xs} m h=>by
  have h':xs.length≤w∧∀ x∈xs,flatD x=true:=by
   cases n<;>simpa only[th,Bool.and_eq_true,decide_eq_true_eq,List.all_eq_true] using h
  cases m with
  | zero=>rfl
  | succ m =>
   rw[slim,Bool.and_eq_true,decide_eq_true_eq,List.all_eq_true]
   exact⟨by omega,fun x hx=>sL (h'.2 x hx)⟩
 intro n
 induction n with
 | zero =>
  intro d m h
  cases d with
  | lst xs=>exact hl m h
  | _=>first | (cases m<;>rfl) | (simp[th]at h)
 | succ n ih =>
  intro d m h
  cases d with
  | lst xs=>exact hl m h
  | tup xs =>
   cases m with
   | zero=>rfl
   | succ m =>
    rw[slim,Bool.and_eq_true,decide_eq_true_eq,List.all_eq_true]
    exact⟨by have:=(bi.mp h).1;omega,fun x hx=>ih m ((bi.mp h).2 x hx)⟩
  | _=>first | (cases m<;>rfl) | (simp[th]at h)
theorem u8 {w v:Nat}(hv:w≤v):∀ {n m:Nat} {d:D},th w n d=true→n≤m→th v m d=true:=by
 have hl:∀ {n m:Nat} {xs:List D},th w n (.lst xs)=true→th v m (.lst xs)=true:=fun {n m xs} h=>by
  have h':xs.length≤w∧∀ x∈xs,flatD x=true:=by
   cases n<;>simpa only[th,Bool.and_eq_true,decide_eq_true_eq,List.all_eq_true] using h
  have:xs.length≤v∧∀ x∈xs,flatD x=true:=⟨by omega,h'.2⟩
  cases m<;>simpa only[th,Bool.and_eq_true,decide_eq_true_eq,List.all_eq_true] using this
 intro n
 induction n with
 | zero =>
  intro m d h _
  cases d with
  | lst xs=>exact hl h
  | _=>first | (cases m<;>rfl) | (simp[th]at h)
 | succ n ih =>
  intro m d h hm
  cases d with
  | lst xs=>exact hl h
  | tup xs =>
   obtain⟨m,rfl⟩:∃ k,m=k+1:=⟨m - 1,by omega⟩
   exact bi.mpr ⟨by have:=(bi.mp h).1;omega,fun x hx=>ih ((bi.mp h).2 x hx) (by omega)⟩
  | _=>first | (cases m<;>rfl) | (simp[th]at h)
theorem jW {α:Type}{g:Nat→List α}{b:Nat}:∀ k,(∀ i,i < k→(g i).length≤b)→((List.range k).flatMap g).length≤k*b
 | 0,_=>by simp
 | k+1,h=>by
  rw[List.range_succ,List.flatMap_append,List.length_append,Nat.succ_mul]
  have h1:=jW k fun i hi=>h i (by omega)
  have h2:=h k (by omega)
  have:([k].flatMap g).length=(g k).length:=by simp
  omega
theorem pM (n:Nat)(d:D):1≤(places n d).length:=by
 cases n with
 | zero=>cases d<;>exact Nat.le_refl 1
 | succ n=>cases d<;>first | (show 1≤_+1;omega) | exact Nat.le_refl 1
theorem jX {w:Nat}:∀ {n:Nat} {d:D},th w n d=true→(places n d).length≤(w+1)^n:=by
 intro n
 induction n with
 | zero=>intro d h;cases d<;>exact Nat.le_refl 1
 | succ n ih =>
  intro d h
  have h1:1≤(w+1)^(n+1):=Nat.pow_pos (by omega)
  cases d with
  | tup xs =>
   have ht:=bi.mp h
   have:=jW (g:=fun i=>(places n (kid xs i)).map (i::·)) (b:=(w+1)^n) xs.length fun i hi=>by
    rw[List.length_map];exact ih (ht.2 _ (cH hi))
   show ((List.range xs.length).flatMap fun i=>(places n (kid xs i)).map (i::·)).length+1≤_
   have h2:xs.length*(w+1)^n≤w*(w+1)^n:=Nat.mul_le_mul_right _ ht.1
   have h3:1≤(w+1)^n:=Nat.pow_pos (by omega)
   have h4:(w+1)^(n+1)=w*(w+1)^n+(w+1)^n:=by rw[Nat.pow_succ,Nat.mul_comm,Nat.succ_mul]
   omega
  | _=>exact h1
theorem u9 {w n:Nat}{d:D}(h:th w n d=true)(ht:isTup d=false):dIsA qTup d=.ok (.bl false):=bO ht (u7 h)
theorem om {n:Nat}{d:D}(ht:isTup d=false):places n d=[[]]:=by
 cases n<;>cases d<;>first | rfl | (cases ht;done)
theorem wZ (k:Nat)(p:List Nat)(h:p.length < 16777216):dAdd (.tup [.int (k:Int)]) (pD p)=.ok (pD (k::p)):=by
 show (if 1+(p.map fun (i:Nat)=>D.int (i:Int)).length≤16777216 then _ else _)=_
 rw[List.length_map,if_pos (by omega)]
 rfl
theorem cI {n:Nat}:∀ {d:D} {p:List Nat},p∈places n d→p.length≤n:=by
 induction n with
 | zero=>intro d p h;cases d<;>simp[places]at h<;>simp[h]
 | succ n ih =>
  intro d p h
  cases d with
  | tup xs =>
   rw[places,List.mem_cons,List.mem_flatMap]at h
   rcases h with rfl | ⟨i,_,h⟩
   ·simp
   ·obtain⟨q,hq,rfl⟩:=List.mem_map.mp h
    have:=ih hq
    simp only[List.length_cons]
    omega
  | _=>simp[places]at h;simp[h]
theorem sM {w:Nat}:∀ (n m:Nat) (d:D),th w n d=true→(w+1)^n≤16000000→n+1≤m→w≤1000→n≤1000→pf m F.aB [d]=.ok (.lst ((places n d).map pD)):=by
 have flat:∀ (n m:Nat) (d:D),th w n d=true→isTup d=false→1≤m→pf m F.aB [d]=.ok (.lst ((places n d).map pD)):=fun n m d h ht hm=>by
  obtain⟨m,rfl,_⟩:=ex1 hm
  rw[iw,cv,u9 h ht,om ht]
  simp only[STP,if_true,if_false,ite_true,ite_false,reduceIte,reduceCtorEq]
  rfl
 intro n
 induction n with
 | zero =>
  intro m d h _ hm _ _
  exact flat 0 m d h (by cases d<;>first | rfl | (simp[th]at h)) hm
 | succ n ih =>
  intro m d h hp hm hw hn
  by_cases ht:isTup d=true
  ·cases d with
   | tup xs =>
    have hh:=bi.mp h
    obtain⟨m,rfl,hm⟩:=ex1 hm
    have hpn:(w+1)^n≤16000000:=Nat.le_trans (Nat.pow_le_pow_right (by omega) (Nat.le_succ n)) hp
    have loop:lFor (τ:=List D) (fun s x=>cK (pf m) (.tup xs) s x) ((List.range xs.length).map fun i=>.int (0+((i:Nat):Int))) ((fun k=>([]::(List.range k).flatMap fun i=>(places n (kid xs i)).map (i::·)).map pD) 0)=.nx (([]::(List.range xs.length).flatMap fun i=>(places n (kid xs i)).map (i::·)).map pD):=by
     refine cY _ (fun k=>([]::(List.range k).flatMap fun i=>(places n (kid xs i)).map (i::·)).map pD) xs.length fun i hi=>?_
     have hk:=ih m (kid xs i) (hh.2 _ (cH hi)) hpn (by omega) hw (by omega)
     have hc:cMap (fun zC=>dAdd (.tup [.int (i:Int)]) zC) ((places n (kid xs i)).map pD)=.ok (.lst (((places n (kid xs i)).map (i::·)).map pD)):=by
      rw[bS (l:=places n (kid xs i)) pD (fun p:List Nat=>pD (i::p)) fun p hp=>wZ i p (by have:=cI hp;omega),List.map_map]
      rfl
     have hl:=jX (hh.2 _ (cH hi))
     have hl2:=jW (g:=fun i=>(places n (kid xs i)).map (i::·)) (b:=(w+1)^n) i fun j hj=>by
      rw[List.length_map];exact jX (hh.2 _ (cH (by omega)))
     have h2:i*(w+1)^n+(w+1)^n≤(w+1)^(n+1):=by
      rw[← Nat.succ_mul,Nat.pow_succ,Nat.mul_comm];exact Nat.mul_le_mul_left _ (by have:=hh.1;omega)
     unfold cK
     rw[show (0:Int)+(i:Int)=(i:Int) by omega,mJ hi]
     simp only[STP,if_true,if_false,ite_true,ite_false,reduceIte,reduceCtorEq,hk,jK (show ((places n (kid xs i)).map pD).length≤16777216 by rw[List.length_map];omega),hc]
     have ho:oExt (([]::(List.range i).flatMap fun i=>(places n (kid xs i)).map (i::·)).map pD) (.lst (((places n (kid xs i)).map (i::·)).map pD))=.ok (([]::(List.range (i+1)).flatMap fun i=>(places n (kid xs i)).map (i::·)).map pD):=by
      show (if _ then _ else _)=_
      rw[if_pos (by simp only[List.length_map,List.length_cons];omega),← List.map_append,List.cons_append,List.range_succ,List.flatMap_append]
      simp
     rw[ho]
     simp only[STP,if_true,if_false,ite_true,ite_false,reduceIte,reduceCtorEq]
    rw[iw,cv]
    have hr:rng1 [.int (xs.length:Int)]=.ok ((List.range xs.length).map fun i=>.int (0+((i:Nat):Int))):=by
     have:=hh.1
     show (if _ then _ else _)=_
     rw[if_pos (by omega)]
     rw[Int.toNat_natCast]
     rfl
    have e0:((fun k=>([]::(List.range k).flatMap fun i=>(places n (kid xs i)).map (i::·)).map pD) 0)=[.tup []]:=rfl
    rw[e0]at loop
    simp only[ci,STP,if_true,if_false,ite_true,ite_false,reduceIte,reduceCtorEq,cU,hr,loop]
    rfl
   | _=>cases ht
  ·exact flat (n+1) m d h (by simpa using ht) (by omega)
def there:D→List Nat→D
 | d,[]=>d
 | .tup xs,i::p=>there (kid xs i) p
 | d,_::_=>d
def putAt:D→List Nat→D→D
 | _,[],e=>e
 | .tup xs,i::p,e=>.tup (xs.set i (putAt (kid xs i) p e))
 | d,_::_,_=>d
theorem dE {n:Nat}{d:D}{i:Nat}{p:List Nat}(h:i::p∈places n d):∃ xs k,n=k+1∧d=.tup xs∧i < xs.length∧p∈places k (kid xs i):=by
 cases n with
 | zero=>cases d<;>simp[places]at h
 | succ n =>
  cases d with
  | tup xs =>
   rw[places,List.mem_cons,List.mem_flatMap]at h
   rcases h with h | ⟨j,hj,h⟩
   ·cases h
   ·obtain⟨q,hq,e⟩:=List.mem_map.mp h
    injection e with e1 e2
    subst e1;subst e2
    exact⟨xs,n,rfl,rfl,List.mem_range.mp hj,hq⟩
  | _=>simp[places]at h
theorem jY {t:Nat→List D→R D}:∀ {p:List Nat} {n:Nat} {d:D},p∈places n d→lFor (τ:=D) (fun s x=>di t s x) (p.map fun (i:Nat)=>.int (i:Int)) d=.nx (there d p)
 | [],n,d,_=>by cases d<;>rfl
 | i::p,n,d,h=>by
  obtain⟨xs,k,rfl,rfl,hi,hp⟩:=dE h
  rw[List.map_cons,a9]
  unfold di
  rw[mJ hi]
  simp only[STP,if_true,if_false,ite_true,ite_false,reduceIte,reduceCtorEq]
  exact jY (t:=t) hp
theorem on {w:Nat}:∀ {p:List Nat} {n:Nat} {d:D},p∈places n d→th w n d=true→th w (n - p.length) (there d p)=true
 | [],n,d,_,h=>by cases d<;>exact h
 | i::p,n,d,h,ht=>by
  obtain⟨xs,k,rfl,rfl,hi,hp⟩:=dE h
  have:=on hp ((bi.mp ht).2 _ (cH hi))
  show th w (k+1 - (p.length+1)) _=true
  rw[Nat.add_sub_add_right]
  exact this
theorem va {n m:Nat}{d:D}{p:List Nat}(h:p∈places n d)(hm:1≤m)(hn:n≤1000):pf m F.aT [d,pD p]=.ok (there d p):=by
 obtain⟨m,rfl,hm⟩:=ex1 hm
 rw[pi,eV]
 unfold pD
 have hl:=cI h
 rw[eF (by rw[List.length_map];omega)]
 simp only[STP,if_true,if_false,ite_true,ite_false,reduceIte,reduceCtorEq,jY h]
theorem oo {w:Nat}:∀ {p:List Nat} {n N k:Nat} {d e:D},p∈places n d→th w n d=true→th w k e=true→k+p.length≤N→n≤N→th w N (putAt d p e)=true
 | [],n,N,k,d,e,_,_,he,hk,_=>by cases d<;>exact u8 (Nat.le_refl w) he (by simpa using hk)
 | i::p,n,N,k,d,e,h,hd,he,hk,hn=>by
  obtain⟨xs,j,rfl,rfl,hi,hp⟩:=dE h
  obtain⟨N,rfl⟩:∃ M,N=M+1:=⟨N - 1,by omega⟩
  have ht:=bi.mp hd
  have hr:=oo (N:=N) hp (ht.2 _ (cH hi)) he (by simp only[List.length_cons]at hk;omega) (by omega)
  show th w (N+1) (.tup (xs.set i (putAt (kid xs i) p e)))=true
  refine bi.mpr ⟨by rw[List.length_set];exact ht.1,fun x hx=>?_⟩
  rcases List.mem_or_eq_of_mem_set hx with hx | rfl
  ·exact u8 (Nat.le_refl w) (ht.2 x hx) (by omega)
  ·exact hr
theorem xa {n:Nat}(hn:1≤n)(p:List Nat):good n (pD p)=true:=by
 obtain⟨n,rfl⟩:∃ k,n=k+1:=⟨n - 1,by omega⟩
 unfold pD
 rw[good]
 refine bY fun d hd=>?_
 obtain⟨i,_,rfl⟩:=List.mem_map.mp hd
 cases n<;>rfl
theorem oq (xs ys:List D)(h:xs.length+ys.length≤16777216):dAdd (.tup xs) (.tup ys)=.ok (.tup (xs++ys)):=by
 show (if xs.length+ys.length≤16777216 then _ else _)=_
 rw[if_pos h]
theorem vc {w:Nat}(hw:w≤1000):∀ {p:List Nat} {n m:Nat} {d:D} (e:D),p∈places n d→th w n d=true→p.length+1≤m→pf m F.aV [d,pD p,e]=.ok (putAt d p e)
 | [],n,m,d,e,_,_,hm=>by
  obtain⟨m,rfl,hm⟩:=ex1 (k:=0) (by simpa using hm)
  rw[nH,f9]
  have:dEq (pD []) (.tup [])=.ok (.bl true):=rfl
  simp only[STP,if_true,if_false,ite_true,ite_false,reduceIte,reduceCtorEq,this]
  cases d<;>rfl
 | i::p,n,m,d,e,h,hd,hm=>by
  obtain⟨xs,j,rfl,rfl,hi,hp⟩:=dE h
  have ht:=bi.mp hd
  obtain⟨m,rfl,hm⟩:=ex1 hm
  have ih:=vc hw (m:=m) e hp (ht.2 _ (cH hi)) (by simpa using hm)
  have h0:dEq (pD (i::p)) (.tup [])=.ok (.bl false):=by
   unfold dEq
   rw[if_pos ⟨xa (by decide) _,rfl⟩]
   rfl
  have h1:dIx (pD (i::p)) (.int 0)=.ok (.int (i:Int)):=mJ (xs:=(i::p).map fun (i:Nat)=>D.int (i:Int)) (i:=0) (by simp)
  have h2:dSw (pD (i::p)) (some 1) none=.ok (pD p):=by
   show R.ok (D.tup (cutD _ (some ((1:Nat):Int)) none))=_
   rw[oj (by simp)]
   rfl
  have h3:dSw (.tup xs) none (some (i:Int))=.ok (.tup (xs.take i)):=by
   show R.ok (D.tup (cutD _ none (some (i:Int))))=_
   rw[yP (by omega)]
  have h4:dSw (.tup xs) (some ((i:Int)+1)) none=.ok (.tup (xs.drop (i+1))):=by
   rw[show (i:Int)+1=((i+1:Nat):Int) by omega]
   show R.ok (D.tup (cutD _ (some ((i+1:Nat):Int)) none))=_
   rw[oj (by omega)]
  have h5:∀ v:Int,asI (.int v)=.ok (some v):=fun v=>rfl
  have h6:dAdd (.tup (xs.take i)) (.tup [putAt (kid xs i) p e])=.ok (.tup (xs.take i++[putAt (kid xs i) p e])):=oq _ _ (by simp only[List.length_take,List.length_cons,List.length_nil];omega)
  have h7:dAdd (.tup (xs.take i++[putAt (kid xs i) p e])) (.tup (xs.drop (i+1)))=.ok (.tup (xs.set i (putAt (kid xs i) p e))):=by
   rw[oq _ _ (by simp only[List.length_append,List.length_take,List.length_drop,List.length_cons,List.length_nil];omega),List.set_eq_take_append_cons_drop,if_pos hi,List.append_assoc]
   rfl
  rw[nH,f9]
  simp only[STP,if_true,if_false,ite_true,ite_false,reduceIte,reduceCtorEq,h0,h1,h5,h3,mJ hi,h2,ih,h6,aJ,h4,h7]
  rfl
theorem vd {ds:List D}{i:Int}(h0:0≤i)(h:i < ds.length):∃ e∈ds,L2.atI ds i=some e:=by
 refine⟨kid ds i.toNat,cH (by omega),?_⟩
 unfold L2.atI L2.ixN
 rw[if_pos h0,if_pos h]
 exact pL (by omega)
theorem xb {ds:List D}{i:Int}(h0:0≤i)(h:i < ds.length):∃ e∈ds,oIx ds (.int i)=.ok e:=by
 obtain⟨e,he,h⟩:=vd h0 h
 refine⟨e,he,?_⟩
 show (match L2.atI ds i with | some d=>R.ok d | none=>R.stuck)=_
 rw[h]
theorem xc {ds:List D}{i:Int}(h0:0≤i)(h:i < ds.length):∃ e∈ds,dIx (.lst ds) (.int i)=.ok e:=by
 obtain⟨e,he,h⟩:=vd h0 h
 refine⟨e,he,?_⟩
 show (match L2.atI ds i with | some d=>R.ok d | none=>R.stuck)=_
 rw[h]
def news (here:D):List D:=[(.int (-1)),(.int 0),(.int 3),(.int 4),(.int 9),(.int 10),(.bl true),.non,(.str "1"),(.tup []),(.tup [(.int 1),(.int 2),(.int 3)]),(.tup [(.int 1),(.int 1),(.int 1),(.int 1)]),(.tup [(.int 1),(.int 2),(.int 3),(.int 4),(.int 5)]),(.lst [(.int 1),(.int 2),(.int 3),(.int 4)]),.tup [here,here,here,here]]
theorem xg {w n:Nat}(hw:5≤w){here e:D}(h:th w n here=true)(he:e∈news here):th w (n+1) e=true:=by
 have cons:∀ {xs:List D},xs.length≤w→(∀ x∈xs,th w n x=true)→th w (n+1) (.tup xs)=true:=fun h1 h2=>bi.mpr ⟨h1,h2⟩
 have iN:∀ i:Int,th w n (.int i)=true:=fun i=>by cases n<;>rfl
 unfold news at he
 simp only[List.mem_cons,List.not_mem_nil,or_false]at he
 rcases he with rfl | rfl | rfl | rfl | rfl | rfl | rfl | rfl | rfl | rfl | rfl | rfl | rfl | rfl | rfl
 any_goals rfl
 ·exact cons (Nat.le_trans (by decide) hw) (by intro x hx;simp only[List.mem_cons,List.not_mem_nil,or_false]at hx;rcases hx with rfl | rfl | rfl<;>exact iN _)
 ·exact cons (Nat.le_trans (by decide) hw) (by intro x hx;simp only[List.mem_cons,List.not_mem_nil,or_false]at hx;rcases hx with rfl | rfl | rfl | rfl<;>exact iN _)
 ·exact cons hw (by intro x hx;simp only[List.mem_cons,List.not_mem_nil,or_false]at hx;rcases hx with rfl | rfl | rfl | rfl | rfl<;>exact iN _)
 ·rw[th,Bool.and_eq_true,decide_eq_true_eq];exact⟨Nat.le_trans (by decide) hw,rfl⟩
 ·exact cons (by show 4≤w;omega) (by intro x hx;simp only[List.mem_cons,List.not_mem_nil,or_false]at hx;rcases hx with rfl | rfl | rfl | rfl<;>exact h)
theorem sN {w n:Nat}(hw:w≤1000)(h5:5≤w)(hn:n≤100)(hp:(w+1)^n≤16000000){d:D}(h:th w n d=true){m:Nat}(hm:n+4≤m)(ns:List Int)(k:Nat):∃ p∈places n d,∃ e∈news (there d p),pf m F.ae [scr ns,.int (k:Int),d]=.ok (putAt d p e):=by
 obtain⟨m,rfl,hm⟩:=ex1 (show n+3+1≤m by omega)
 have e1:=sM n m d h hp (by omega) hw (by omega)
 have hl:=pM n d
 have hl':(0:Int) < (((places n d).map pD).length:Nat):=by rw[List.length_map];omega
 have p1:=dB (n:=m) (by omega) ns k (a:=(k:Int)) (m:=(((places n d).map pD).length:Nat)) rfl hl'
 have b0:=eG (ns:=ns) (k:=k) (m:=(((places n d).map pD).length:Nat)) hl'
 have b1:=ff (ns:=ns) (k:=k) (m:=(((places n d).map pD).length:Nat)) hl'
 obtain⟨q,hq,e2⟩:=xc b0 b1
 obtain⟨p,hp',rfl⟩:=List.mem_map.mp hq
 have e3:=va hp' (m:=m) (by omega) (by omega)
 have p2:=dB (n:=m) (by omega) ns (k+1) (a:=(k:Int)+1) (m:=15) (by omega) (by decide)
 have c0:=eG (ns:=ns) (k:=k+1) (m:=15) (by decide)
 have c1:=ff (ns:=ns) (k:=k+1) (m:=15) (by decide)
 obtain⟨e,he,e4⟩:=xb (ds:=news (there d p)) c0 (by show _ < ((15:Nat):Int);omega)
 have hd:=cI hp'
 have e5:=vc hw (m:=m) e hp' h (by omega)
 refine⟨p,hp',e,he,?_⟩
 have r4:dMul (.tup [there d p]) (.int 4)=.ok (.tup [there d p,there d p,there d p,there d p]):=rfl
 rw[gi,bp]
 simp only[STP,if_true,if_false,ite_true,ite_false,reduceIte,reduceCtorEq,e1,jM,p1,e2,e3,r4]
 have ho:oExt [(.int (-1)),(.int 0),(.int 3),(.int 4),(.int 9),(.int 10),(.bl true),.non,(.str "1"),(.tup []),(.tup [(.int 1),(.int 2),(.int 3)]),(.tup [(.int 1),(.int 1),(.int 1),(.int 1)]),(.tup [(.int 1),(.int 2),(.int 3),(.int 4),(.int 5)])] (.lst [.lst [.int 1,.int 2,.int 3,.int 4],.tup [there d p,there d p,there d p,there d p]])=.ok (news (there d p)):=rfl
 simp only[STP,if_true,if_false,ite_true,ite_false,reduceIte,reduceCtorEq,ho,aJ,p2,e4,e5]
theorem sO {w n:Nat}(hw:w≤1000)(h5:5≤w)(hn:n≤100)(hp:(w+1)^n≤16000000){d:D}(h:th w n d=true){m:Nat}(hm:n+4≤m)(ns:List Int)(k:Nat):∃ d',th w (n+1) d'=true∧pf m F.ae [scr ns,.int (k:Int),d]=.ok d':=by
 obtain⟨p,hp',e,he,q⟩:=sN hw h5 hn hp h hm ns k
 have hd:=cI hp'
 exact⟨_,oo hp' h (xg h5 (on hp' h) he) (by omega) (by omega),q⟩
end Lw
end
section
namespace Lw
open PySem FF
theorem sP {w:Nat}(hw:w≤1000):∀ (n m:Nat) (s:Int) (d:D),th w n d=true→n+1≤m→n≤50→pf m F.ag [d,.int s]=.ok (.bl (treeOk (inTo 9) n s d)):=by
 have flat:∀ (n m:Nat) (s:Int) (d:D),th w n d=true→isTup d=false→1≤m→pf m F.ag [d,.int s]=.ok (.bl (treeOk (inTo 9) n s d)):=fun n m s d h ht hm=>by
  obtain⟨m,rfl,hm⟩:=ex1 hm
  have e:treeOk (inTo 9) n s d=inTo 9 d:=by cases n<;>cases d<;>first | rfl | (cases ht;done)
  rw[gj,bV,e]
  cases d with
  | int i =>
   have:rAnd (asB (dIsA qInt (.int i))) (rNot (asB (dIsA qBool (.int i))))=.ok true:=rfl
   simp only[this,STP,if_true,if_false,ite_true,ite_false,reduceIte,reduceCtorEq]
   simp only[rCh,mF,bg,R.bind_ok,inTo]
   by_cases h0:(0:Int)≤i<;>simp[h0]
  | tup _=>cases ht
  | exc _=>cases n<;>simp[th]at h
  | fn _=>cases n<;>simp[th]at h
  | _=>rfl
 intro n
 induction n with
 | zero=>intro m s d h hm _;exact flat 0 m s d h (by cases d<;>first | rfl | (simp[th]at h)) hm
 | succ n ih =>
  intro m s d h hm hn
  by_cases ht:isTup d=true
  ·cases d with
   | tup xs =>
    have hh:=bi.mp h
    obtain⟨m,rfl,hm⟩:=ex1 hm
    have hc:cFil (fun zT=>(rNot (asB ((dSub (.int s) (.int 1)).bind fun x1=>pf m F.ag [zT,x1])))) (fun zT=>.ok zT) xs=.ok (.lst (xs.filter fun d=>!treeOk (inTo 9) n (s - 1) d)):=by
     have:=qv (c:=fun zT=>(rNot (asB ((dSub (.int s) (.int 1)).bind fun x1=>pf m F.ag [zT,x1])))) (e:=fun zT=>.ok zT) (l:=xs) (fun d=>d) (fun d=>d) (fun d=>!treeOk (inTo 9) n (s - 1) d) fun d hd=>⟨by
      rw[bW,R.bind_ok,ih m (s - 1) d (hh.2 d hd) (by omega) (by omega)]
      rfl,fun _=>rfl⟩
     rw[List.map_id',List.map_id']at this
     exact this
    have he:dEq (.lst (xs.filter fun d=>!treeOk (inTo 9) n (s - 1) d)) (.lst [])=.ok (.bl (xs.all (treeOk (inTo 9) n (s - 1)))):=by
     unfold dEq
     rw[if_pos ⟨by
      rw[good]
      exact bY fun d hd=>dC (qE (hh.2 d (List.mem_filter.mp hd).1)) (by omega),rfl⟩]
     cases hx:xs.filter fun d=>!treeOk (inTo 9) n (s - 1) d with
     | nil =>
      have:xs.all (treeOk (inTo 9) n (s - 1))=true:=by
       rw[List.all_eq_true]
       intro d hd
       have:=List.filter_eq_nil_iff.mp hx d hd
       simpa using this
      rw[this]
      rfl
     | cons a l =>
      have ha:a∈xs.filter fun d=>!treeOk (inTo 9) n (s - 1) d:=by rw[hx];simp
      have:=List.mem_filter.mp ha
      have:xs.all (treeOk (inTo 9) n (s - 1))=false:=by
       rw[List.all_eq_false]
       exact⟨a,this.1,by simpa using this.2⟩
      rw[this]
      rfl
    have hi:rAnd (asB (dIsA qInt (.tup xs))) (rNot (asB (dIsA qBool (.tup xs))))=.ok false:=rfl
    rw[gj,bV]
    simp only[hi,ci,STP,if_true,if_false,ite_true,ite_false,reduceIte,reduceCtorEq,cU,iZ,iY,eF (show xs.length≤16777216 by have:=hh.1;omega),hc,he,treeOk]
    by_cases h0:s=0
    ·by_cases h4:(xs.length:Int)=4<;>simp[h0,h4]
    ·by_cases h4:xs.length=4
     ·simp[h0,h4]
     ·have h4':¬ ((xs.length:Int)=4):=by omega
      simp[h0,h4,h4']
   | _=>cases ht
  ·exact flat (n+1) m s d h (by simpa using ht) (by omega)
theorem lx {w:Nat}(hw:w≤1000){n m:Nat}{d:D}(h:th w (n+1) d=true)(hm:n+2≤m)(hn:n≤50):pf m F.an [d]=.ok (.bl (sizedOk (inTo 9) n d)):=by
 obtain⟨m,rfl,hm⟩:=ex1 hm
 rw[iK,bJ]
 by_cases ht:isTup d=true
 ·cases d with
  | tup xs =>
   have hh:=bi.mp h
   by_cases h2:xs.length=2
   ·match xs,h2 with
    | [a,b],_ =>
     have ha:=hh.2 a (by simp)
     have hb:=hh.2 b (by simp)
     have l2:asB ((dLen [.tup [a,b]]).bind fun x2=>dNf x2 (.int 2))=.ok false:=rfl
     cases a with
     | int v =>
      have ht:=sP hw n m v b hb (by omega) hn
      have hi:(rNot (asB (dIsA qInt (.int v))))=.ok false:=rfl
      have hj:(asB (dIsA qBool (.int v)))=.ok false:=rfl
      simp only[ci,STP,if_true,if_false,ite_true,ite_false,reduceIte,reduceCtorEq,l2,ix20,ix21,hi,hj,ht,sizedOk,inTo,rCh,mF]
      by_cases c0:(0:Int)≤v
      ·by_cases c1:v≤3<;>simp[c0,c1]
      ·simp[c0]
     | exc _=>cases n<;>simp[th]at ha
     | fn _=>cases n<;>simp[th]at ha
     | _=>rfl
   ·have h2':¬ ((xs.length:Int)=2):=by omega
    have e:sizedOk (inTo 9) n (.tup xs)=false:=by
     match xs,h2 with
     | [],_=>rfl
     | [_],_=>rfl
     | _::_::_::_,_=>rfl
    simp[h2',e]
  | _=>cases ht
 ·have ht':isTup d=false:=by simpa using ht
  rw[bO ht' (u7 h)]
  have e:sizedOk (inTo 9) n d=false:=by cases d<;>first | rfl | (cases ht';done)
  simp[e]
theorem Pc.th (p:Pc sz t):th 5 4 (picD sz t)=true:=by
 have hq:∀ (n:Nat) (t:Q Int),t.dep≤n→Lw.th 5 n (t.d .int)=true:=by
  intro n
  induction n with
  | zero=>intro t h;cases t with
   | lf a=>rfl
   | nd a b c d=>rw[Q.dep]at h;omega
  | succ n ih =>
   intro t h
   cases t with
   | lf a=>rfl
   | nd a b c d =>
    rw[Q.dep]at h
    refine bi.mpr ⟨by show 4≤5;decide,fun x hx=>?_⟩
    simp only[List.mem_cons,List.not_mem_nil,or_false]at hx
    rcases hx with rfl | rfl | rfl | rfl
    ·exact ih a (by omega)
    ·exact ih b (by omega)
    ·exact ih c (by omega)
    ·exact ih d (by omega)
 refine bi.mpr ⟨by show 2≤5;decide,fun x hx=>?_⟩
 simp only[List.mem_cons,List.not_mem_nil,or_false]at hx
 rcases hx with rfl | rfl
 ·rfl
 ·exact hq 3 t (by have:=p.dep;have:=p.h3;omega)
theorem word1 {m:Nat}(hm:1≤m):pf m F.aC [.exc 1]=.ok (.str "no picture"):=by
 obtain⟨m,rfl,hm⟩:=ex1 hm
 rw[lh,d4]
 rfl
end Lw
end
section
namespace Lw
open PySem FF
section
variable {α:Type}[DecidableEq α]
def isLf:Q α→Bool
 | .lf _=>true
 | _=>false
theorem mK {e:α→D}(E:En e)(t:Q α):dIsA qTup (t.d e)=.ok (.bl (!isLf t)):=by
 cases t with
 | lf a=>exact bO (E.tup a) (bN (E.gd 0 a))
 | nd a b c d=>rfl
end
section
variable {sz:Nat}{r:PySem.Str}{i:Nat}{f:Int→Int→Int}
variable {g g':Nat→Nat→Int}{t t':Q Int}
end
end Lw
end
section
namespace Lw
open PySem FF
def sel {β:Type}(k:Nat)(a b c d:β):β:=match k with
 | 0=>a
 | 1=>b
 | 2=>c
 | _=>d
section
variable {α:Type}[DecidableEq α]
def Q.mv (p q r s:Nat):Q α→Q α
 | .lf v=>.lf v
 | .nd a b c d=>.nd (sel p (a.mv p q r s) (b.mv p q r s) (c.mv p q r s) (d.mv p q r s)) (sel q (a.mv p q r s) (b.mv p q r s) (c.mv p q r s) (d.mv p q r s)) (sel r (a.mv p q r s) (b.mv p q r s) (c.mv p q r s) (d.mv p q r s)) (sel s (a.mv p q r s) (b.mv p q r s) (c.mv p q r s) (d.mv p q r s))
theorem qF {p q r s:Nat}{t:Q α}{v:α}:t.mv p q r s=.lf v↔t=.lf v:=by cases t<;>simp[Q.mv]
theorem jZ (a b c d:Q α):(∃ v,a=.lf v∧b=.lf v∧c=.lf v∧d=.lf v)∨put4 a b c d=.nd a b c d:=by
 unfold put4
 split
 ·split
  ·rename_i h2;exact .inl ⟨_,rfl,h2⟩
  ·exact .inr rfl
 ·exact .inr rfl
structure Odr (p q r s:Nat)(m:Nat→(Nat→Nat→Int)→Nat→Nat→Int):Prop where
 lt:p < 4∧q < 4∧r < 4∧s < 4
 all:∀ k,k < 4→k=p∨k=q∨k=r∨k=s
 one:∀ g:Nat→Nat→Int,m 1 g 0 0=g 0 0
 loc:∀ (n:Nat) (g:Nat→Nat→Int) (x y:Nat),x < n→y < n→∃ x' y',x' < n∧y' < n∧∀ g':Nat→Nat→Int,m n g' x y=g' x' y'
 q0:∀ (h:Nat) (g:Nat→Nat→Int) (x y:Nat),x < h→y < h→m (h+h) g x y=m h (sel p g (sh g h 0) (sh g 0 h) (sh g h h)) x y
 q1:∀ (h:Nat) (g:Nat→Nat→Int) (x y:Nat),x < h→y < h→m (h+h) g (x+h) y=m h (sel q g (sh g h 0) (sh g 0 h) (sh g h h)) x y
 q2:∀ (h:Nat) (g:Nat→Nat→Int) (x y:Nat),x < h→y < h→m (h+h) g x (y+h)=m h (sel r g (sh g h 0) (sh g 0 h) (sh g h h)) x y
 q3:∀ (h:Nat) (g:Nat→Nat→Int) (x y:Nat),x < h→y < h→m (h+h) g (x+h) (y+h)=m h (sel s g (sh g h 0) (sh g 0 h) (sh g h h)) x y
theorem sel4 {k:Nat}(h:k < 4):k=0∨k=1∨k=2∨k=3:=by omega
theorem xh {p q r s:Nat}{m:Nat→(Nat→Nat→Int)→Nat→Nat→Int}(o:Odr p q r s m)(a b c d:Q Int):(put4 a b c d).mv p q r s=put4 (sel p (a.mv p q r s) (b.mv p q r s) (c.mv p q r s) (d.mv p q r s)) (sel q (a.mv p q r s) (b.mv p q r s) (c.mv p q r s) (d.mv p q r s)) (sel r (a.mv p q r s) (b.mv p q r s) (c.mv p q r s) (d.mv p q r s)) (sel s (a.mv p q r s) (b.mv p q r s) (c.mv p q r s) (d.mv p q r s)):=by
 rcases jZ a b c d with ⟨v,rfl,rfl,rfl,rfl⟩ | h
 ·have e:∀ k,sel k ((Q.lf v:Q Int).mv p q r s) ((Q.lf v).mv p q r s) ((Q.lf v).mv p q r s) ((Q.lf v).mv p q r s)=.lf v:=fun k=>by unfold sel;split<;>rfl
  rw[cT,e,e,e,e,cT];rfl
 ·rw[h]
  rcases jZ (sel p (a.mv p q r s) (b.mv p q r s) (c.mv p q r s) (d.mv p q r s)) (sel q (a.mv p q r s) (b.mv p q r s) (c.mv p q r s) (d.mv p q r s)) (sel r (a.mv p q r s) (b.mv p q r s) (c.mv p q r s) (d.mv p q r s)) (sel s (a.mv p q r s) (b.mv p q r s) (c.mv p q r s) (d.mv p q r s)) with ⟨v,h0,h1,h2,h3⟩ | h'
  ·have al:∀ k,k < 4→sel k (a.mv p q r s) (b.mv p q r s) (c.mv p q r s) (d.mv p q r s)=.lf v:=fun k hk=>by
    rcases o.all k hk with h | h | h | h
    ·rw[h];exact h0
    ·rw[h];exact h1
    ·rw[h];exact h2
    ·rw[h];exact h3
   have ea:=qF.1 (al 0 (by omega));have eb:=qF.1 (al 1 (by omega));have ec:=qF.1 (al 2 (by omega));have ed:=qF.1 (al 3 (by omega))
   rw[ea,eb,ec,ed,cT]at h
   cases h
  ·rw[h'];rfl
theorem mv_T {p q r s:Nat}{m:Nat→(Nat→Nat→Int)→Nat→Nat→Int}(o:Odr p q r s m):∀ (n:Nat) (g:Nat→Nat→Int),(T g n).mv p q r s=T (m (2^n) g) n
 | 0,g=>by show (Q.lf (g 0 0)).mv p q r s=Q.lf (m 1 g 0 0);rw[o.one];rfl
 | n+1,g=>by
  rw[T,xh o,T,bM]
  have e:∀ k,k < 4→sel k ((T g n).mv p q r s) ((T (sh g (2^n) 0) n).mv p q r s) ((T (sh g 0 (2^n)) n).mv p q r s) ((T (sh g (2^n) (2^n)) n).mv p q r s)=T (m (2^n) (sel k g (sh g (2^n) 0) (sh g 0 (2^n)) (sh g (2^n) (2^n)))) n:=fun k hk=>by
   rcases sel4 hk with rfl | rfl | rfl | rfl<;>exact mv_T o n _
  rw[e p o.lt.1,e q o.lt.2.1,e r o.lt.2.2.1,e s o.lt.2.2.2]
  congr 1
  ·exact aI n _ _ fun x y hx hy=>(o.q0 _ g x y hx hy).symm
  ·exact aI n _ _ fun x y hx hy=>(o.q1 _ g x y hx hy).symm
  ·exact aI n _ _ fun x y hx hy=>(o.q2 _ g x y hx hy).symm
  ·exact aI n _ _ fun x y hx hy=>(o.q3 _ g x y hx hy).symm
end
def mTurn (s:Nat)(g:Nat→Nat→Int):Nat→Nat→Int:=fun x y=>g y (s - 1 - x)
def mMirr (s:Nat)(g:Nat→Nat→Int):Nat→Nat→Int:=fun x y=>g (s - 1 - x) y
theorem ve:Odr 2 0 3 1 mTurn:=⟨by decide,by decide,fun g=>rfl,fun n g x y hx hy=>⟨y,n - 1 - x,hy,by omega,fun _=>rfl⟩,
 fun h g x y hx hy=>by simp only[mTurn,sel,sh];congr 1<;>omega,fun h g x y hx hy=>by simp only[mTurn,sel,sh];congr 1<;>omega,fun h g x y hx hy=>by simp only[mTurn,sel,sh];congr 1<;>omega,fun h g x y hx hy=>by simp only[mTurn,sel,sh];congr 1<;>omega⟩
theorem pN:Odr 1 0 3 2 mMirr:=⟨by decide,by decide,fun g=>rfl,fun n g x y hx hy=>⟨n - 1 - x,y,by omega,hy,fun _=>rfl⟩,
 fun h g x y hx hy=>by simp only[mMirr,sel,sh];congr 1<;>omega,fun h g x y hx hy=>by simp only[mMirr,sel,sh];congr 1<;>omega,fun h g x y hx hy=>by simp only[mMirr,sel,sh];congr 1<;>omega,fun h g x y hx hy=>by simp only[mMirr,sel,sh];congr 1<;>omega⟩
section
variable {p q r s:Nat}{m:Nat→(Nat→Nat→Int)→Nat→Nat→Int}
theorem vf (a b c d:Int):sq (tupI [a,b,c,d])=.ok [.int a,.int b,.int c,.int d]:=rfl
theorem yQ {k:Nat}(h:k < 4)(a b c d:D):dIx (.tup [a,b,c,d]) (.int (k:Int))=.ok (sel k a b c d):=by rcases sel4 h with rfl | rfl | rfl | rfl<;>rfl
theorem eO (o:Odr p q r s m):∀ (n:Nat) (t:Q Int),t.dep+1≤n→pf n F.al [t.d .int,tupI [(p:Int),(q:Int),(r:Int),(s:Int)]]=.ok ((t.mv p q r s).d .int)
 | 0,t,h=>by omega
 | n+1,.lf v,h=>by rw[fc,bH];simp only[Q.d,STP,if_true,if_false,ite_true,ite_false,reduceIte,reduceCtorEq,OPP];rfl
 | n+1,.nd a b c d,h=>by
  have hd:a.dep+1≤n∧b.dep+1≤n∧c.dep+1≤n∧d.dep+1≤n:=by simp only[Q.dep]at h;omega
  have ha:=eO o n a hd.1;have hb:=eO o n b hd.2.1;have hc:=eO o n c hd.2.2.1;have hdd:=eO o n d hd.2.2.2
  have step:∀ k:Nat,k < 4→((dIx (.tup [a.d .int,b.d .int,c.d .int,d.d .int]) (.int (k:Int))).bind fun x=>pf n F.al [x,tupI [(p:Int),(q:Int),(r:Int),(s:Int)]])=.ok ((sel k (a.mv p q r s) (b.mv p q r s) (c.mv p q r s) (d.mv p q r s)).d .int):=fun k hk=>by
   rw[yQ hk,R.bind_ok]
   rcases sel4 hk with rfl | rfl | rfl | rfl
   ·exact ha
   ·exact hb
   ·exact hc
   ·exact hdd
  rw[fc,bH]
  simp only[Q.d,STP,if_true,if_false,ite_true,ite_false,reduceIte,reduceCtorEq,OPP,vf]
  rw[cMap4 (step p o.lt.1) (step q o.lt.2.1) (step r o.lt.2.2.1) (step s o.lt.2.2.2)]
  rfl
variable {sz:Nat}{g:Nat→Nat→Int}{t:Q Int}
theorem Sh.moved (w:Sh sz g t)(o:Odr p q r s m){n:Nat}(hn:11≤n):pf n F.aN [picD sz t,tupI [(p:Int),(q:Int),(r:Int),(s:Int)]]=.ok (picD sz (T (m (2^sz) g) sz)):=by
 obtain⟨n,rfl⟩:∃ j,n=j+1:=⟨n - 1,by omega⟩
 have e1:=w.lean (n:=n) (by omega)
 have e2:=eO o n (T g sz) (by have:=gu sz g;have:=w.p.h3;omega)
 rw[mv_T o]at e2
 have e3:dIx (picD sz (T g sz)) (.int 0)=.ok (.int (sz:Int)):=rfl
 have e4:dIx (picD sz (T g sz)) (.int 1)=.ok ((T g sz).d .int):=rfl
 rw[uH,iV]
 simp only[STP,if_true,if_false,ite_true,ite_false,reduceIte,reduceCtorEq,e1,e2,e3,e4]
 rfl
theorem Sh.mv (w:Sh sz g t)(o:Odr p q r s m):Sh sz (m (2^sz) g) (T (m (2^sz) g) sz):=sh_T w.p.h3 fun x y hx hy=>by
 obtain⟨x',y',h1,h2,h3⟩:=o.loc (2^sz) g x y hx hy
 rw[h3];exact w.wo x' y' h1 h2
theorem Sh.turned (w:Sh sz g t){n:Nat}(hn:12≤n):pf n F.aW [picD sz t]=.ok (picD sz (T (mTurn (2^sz) g) sz)):=by
 obtain⟨n,rfl⟩:∃ j,n=j+1:=⟨n - 1,by omega⟩
 have h:pf n F.aN [picD sz t,tupI [2,0,3,1]]=_:=w.moved ve (n:=n) (by omega)
 rw[r8,fV];simp only[STP,if_true,if_false,ite_true,ite_false,reduceIte,reduceCtorEq,h]
theorem Sh.mirrored (w:Sh sz g t){n:Nat}(hn:12≤n):pf n F.aP [picD sz t]=.ok (picD sz (T (mMirr (2^sz) g) sz)):=by
 obtain⟨n,rfl⟩:∃ j,n=j+1:=⟨n - 1,by omega⟩
 have h:pf n F.aN [picD sz t,tupI [1,0,3,2]]=_:=w.moved pN (n:=n) (by omega)
 rw[nF,de];simp only[STP,if_true,if_false,ite_true,ite_false,reduceIte,reduceCtorEq,h]
def turns (s:Nat):Nat→(Nat→Nat→Int)→Nat→Nat→Int
 | 0,g=>g
 | k+1,g=>mTurn s (turns s k g)
def mWay (s w:Nat)(g:Nat→Nat→Int):Nat→Nat→Int:=turns s (w%4) (if 4≤w then mMirr s g else g)
theorem gD (w:Sh sz g t):∀ k,∃ t',Sh sz (turns (2^sz) k g) t'
 | 0=>⟨t,w⟩
 | k+1=>by obtain⟨t',h⟩:=gD w k;exact⟨_,h.mv ve⟩
theorem Sh.way_ex (w:Sh sz g t)(k:Nat):∃ t',Sh sz (mWay (2^sz) k g) t':=by
 unfold mWay
 split
 ·exact gD (w.mv pN) _
 ·exact gD w _
theorem Sh.way (w:Sh sz g t)(k:Nat):Sh sz (mWay (2^sz) k g) (T (mWay (2^sz) k g) sz):=by obtain⟨t',h⟩:=w.way_ex k;exact sh_T h.p.h3 h.wo
theorem j0 (w:Sh sz g t){n:Nat}(hn:12≤n):∀ k,lFor (τ:=D) (fun s x=>cD (pf n) s x) ((List.range k).map fun i:Nat=>D.int (i:Int)) (picD sz (T g sz))=.nx (picD sz (T (turns (2^sz) k g) sz)):=fun k =>
 cY (fun i:Nat=>D.int (i:Int)) (fun i=>picD sz (T (turns (2^sz) i g) sz)) k (fun i _=>by
  obtain⟨t',h⟩:=gD w i
  have:=(sh_T h.p.h3 h.wo).turned hn
  show cD (pf n) (picD sz (T (turns (2^sz) i g) sz)) (.int (i:Int))=_
  unfold cD;simp only[STP,if_true,if_false,ite_true,ite_false,reduceIte,reduceCtorEq,this];rfl)
theorem ot {n:Nat}(hn:2≤n){k:Nat}(hk:k < 8):pf n F.aK [.int (k:Int)]=.ok .non:=by
 obtain⟨n,rfl⟩:∃ j,n=j+1:=⟨n - 1,by omega⟩
 have h1:=jO (n:=n) (by omega) (d:=.int (k:Int)) rfl
 have e:(decide ((0:Int)≤(k:Int))&&decide ((k:Int) < 8))=true:=by simp;omega
 rw[l8,cC]
 simp only[STP,if_true,if_false,ite_true,ite_false,reduceIte,reduceCtorEq,OPP,h1,e]
 rfl
theorem Sh.byway (w:Sh sz g t){n:Nat}(hn:13≤n){k:Nat}(hk:k < 8):pf n F.aR [picD sz t,.int (k:Int)]=.ok (picD sz (T (mWay (2^sz) k g) sz)):=by
 obtain⟨n,rfl⟩:∃ j,n=j+1:=⟨n - 1,by omega⟩
 have e1:=w.lean (n:=n) (by omega)
 have e2:=ot (n:=n) (by omega) hk
 have s:=sh_T w.p.h3 w.wo
 have e3:=s.mirrored (n:=n) (by omega)
 have e4:(k:Int)%4=((k%4:Nat):Int):=by omega
 have e5:=dD (s:=k%4) (by omega)
 have e6:=j0 w (n:=n) (by omega) (k%4)
 have e7:=j0 (w.mv pN) (n:=n) (by omega) (k%4)
 rw[r9,fW]
 simp only[STP,if_true,if_false,ite_true,ite_false,reduceIte,reduceCtorEq,OPP,e1,e2,cW (show (0:Int) < 4 by decide),e4,e5]
 by_cases h:4≤k
 ·have d:decide ((4:Int)≤(k:Int))=true:=by simp;omega
  simp only[d,STP,if_true,if_false,ite_true,ite_false,reduceIte,reduceCtorEq,e3,e7,mWay,if_pos h]
 ·have d:decide ((4:Int)≤(k:Int))=false:=by simp;omega
  simp only[d,STP,if_true,if_false,ite_true,ite_false,reduceIte,reduceCtorEq,e6,mWay,if_neg h]
end
end Lw
end
section
namespace Lw
open PySem FF
section
variable {sz:Nat}{g g' g'':Nat→Nat→Int}{t t' t'':Q Int}
end
theorem sQ {w:Nat}(hw:w≤1000){n m:Nat}{d:D}(h:th w n d=true)(hm:n+6≤m)(c:sizedOk (inTo 9) n d=false):pf m F.ab [d]=.err 1:=by
 have e:=lq (n:=m) (m:=n) (qE h) (wY hw _ h) (by omega)
 rw[c]at e;exact e
end Lw
end
section
namespace Lw
open PySem FF
theorem xi {α:Type}(xs:List D)(k:List D→R α):onS (.tup xs) k=k xs:=rfl
def rowI (g:Nat→Nat→Int)(w y:Nat):List Int:=(List.range w).map fun x=>g x y
theorem ly (g:Nat→Nat→Int)(w k:Nat):vals g w k=((List.range k).map (rowI g w)).flatten:=by unfold vals rowI;rw[List.flatMap_def]
def countsT (l:List Int):D:=.tup ((List.range 10).map fun v:Nat=>D.int ((l.countP (· == (v:Int)):Nat):Int))
section
variable {sz:Nat}{g:Nat→Nat→Int}{t:Q Int}
theorem pO (l:List Int):cMap (fun w=>dCountI (l.map .int) [w]) ((List.range 10).map fun i:Nat=>D.int (i:Int))=.ok (.lst ((List.range 10).map fun v:Nat=>D.int ((l.countP (· == (v:Int)):Nat):Int))):=bS _ _ fun v _=>iB l v
theorem Sh.worths (q:Sh sz g t){n:Nat}(hn:1≤n):pf n F.aE [rowsT .int g (2^sz) (2^sz)]=.ok (.lst ((vals g (2^sz) (2^sz)).map .int)):=oa hn g _ _ (p8 q.p.h3) (p8 q.p.h3) true
theorem Sh.counts (q:Sh sz g t){n:Nat}(hn:11≤n):pf n F.aQ [picD sz t]=.ok (countsT (vals g (2^sz) (2^sz))):=by
 obtain⟨n,rfl,hn⟩:=ex1 (show 10+1≤n by omega)
 have r10:rng1 [.int (9+1)]=.ok ((List.range 10).map fun i:Nat=>D.int (i:Int)):=dD (s:=10) (by decide)
 rw[sg,fX,q.rows (by omega),R.bind_ok,q.worths (by omega)]
 simp only[STP,if_true,if_false,ite_true,ite_false,reduceIte,reduceCtorEq,OPP,r10,qD,pO]
 rfl
end
theorem mM {v:Int}{r:List Int}(h:v∈r):dIndexI (r.map .int) [.int v]=.ok (.int (r.idxOf v:Nat)):=by
 unfold dIndexI
 simp only[bB]
 rw[if_pos (List.idxOf_lt_length_iff.mpr h)]
section
variable {sz:Nat}{g:Nat→Nat→Int}{t:Q Int}
end
end Lw
end
section
namespace Lw
open PySem FF
structure Bk where
 l:Nat
 t:Nat
 w:Nat
 v:Int
 deriving DecidableEq
def bks:Nat→Q Int→Nat→Nat→List Bk
 | n,.lf v,l,t=>[⟨l,t,2^n,v⟩]
 | 0,.nd _ _ _ _,_,_=>[]
 | n+1,.nd a b c d,l,t=>bks n a l t++(bks n b (l+2^n) t++(bks n c l (t+2^n)++bks n d (l+2^n) (t+2^n)))
end Lw
end
section
namespace Lw
open PySem FF
section
variable {sz:Nat}{g:Nat→Nat→Int}{t:Q Int}
def bs (sz:Nat)(g:Nat→Nat→Int):List Bk:=bks sz (T g sz) 0 0
end
end Lw
end
section
namespace Lw
open PySem FF
section
variable {sz sz':Nat}{g g':Nat→Nat→Int}{t t':Q Int}
end
def rowsM (g:Nat→Nat→Int)(w k:Nat):List (List D):=(List.range k).map fun y=>(List.range w).map fun x=>D.int (g x y)
theorem lz (g:Nat→Nat→Int)(w:Nat):∀ (l:List Nat),sqsL (l.map fun y=>rowT .int g w y)=.ok (l.map fun y=>(List.range w).map fun x=>D.int (g x y))
 | []=>rfl
 | y::l=>by
  rw[List.map_cons,sqsL,lz g w l]
  rfl
theorem qG {n i:Nat}(h:i < n):L2.ixN n (i:Int)=some i:=by
 unfold L2.ixN
 rw[if_pos (by omega),if_pos (by omega)]
 simp
def putF (g:Nat→Nat→Int)(x y:Nat)(v:Int):Nat→Nat→Int:=fun a b=>if a=x∧b=y then v else g a b
theorem vg (g:Nat→Nat→Int){w k x y:Nat}{v:Int}(hx:x < w)(hy:y < k):(mIx (rowsM g w k) (.int (y:Int))).bind (fun q=>mStA (rowsM g w k) q (.int (x:Int)) (.int v))=.ok (rowsM (putF g x y v) w k):=by
 have l1:(rowsM g w k).length=k:=by unfold rowsM;simp
 have e1:mIx (rowsM g w k) (.int (y:Int))=.ok y:=by
  unfold mIx
  simp only[l1,qG hy]
 have e2:(rowsM g w k)[y]?=some ((List.range w).map fun x=>D.int (g x y)):=by unfold rowsM;simp[hy]
 rw[e1,R.bind_ok]
 unfold mStA
 simp only[e2,List.length_map,List.length_range,qG hx]
 congr 1
 unfold rowsM putF
 refine List.ext_getElem (by simp) fun b h1 h2=>?_
 rw[List.getElem_set]
 have hb:b < k:=by simpa using h2
 by_cases q:y=b
 ·subst q
  rw[if_pos rfl,List.getElem_map,List.getElem_range]
  refine List.ext_getElem (by simp) fun a g1 g2=>?_
  rw[List.getElem_set]
  by_cases q2:x=a
  ·subst q2;simp
  ·have q3:¬ (a=x∧y=y):=fun z=>q2 z.1.symm
   rw[if_neg q2,List.getElem_map,List.getElem_map,List.getElem_range,if_neg q3]
 ·rw[if_neg q,List.getElem_map,List.getElem_map,List.getElem_range]
  refine List.map_congr_left fun a _=>?_
  rw[if_neg (fun z=>q z.2.symm)]
theorem xj (g:Nat→Nat→Int){w k:Nat}(hk:k≤1000):(((sq (.lst ((rowsM g w k).map .lst))).bind fun xs=>cMap (fun zR=>dTuple [zR]) xs).bind fun x17=>dTuple [x17])=.ok (rowsT .int g w k):=by
 have e:(rowsM g w k).map D.lst=(List.range k).map fun y=>rowL .int g w y:=by unfold rowsM rowL;rw[List.map_map];rfl
 rw[e,jK (by simp;omega),R.bind_ok,bS (fun y=>rowL .int g w y) (fun y=>rowT .int g w y) (fun y _=>rfl)]
 rfl
end Lw
end
section
namespace Lw
open PySem FF
section
variable {s sz:Nat}{g:Nat→Nat→Int}{t:Q Int}
end
end Lw
end
section
namespace Lw
open PySem FF
section
variable {s sz:Nat}{g:Nat→Nat→Int}{t:Q Int}
end
end Lw
end
section
namespace Lw
open PySem FF
section
variable {s:Nat}
end
end Lw
end
section
namespace Lw
open PySem FF
theorem ik (g:Nat→Nat→Int)(w k:Nat):vals g w (k+1)=vals g w k++rowI g w k:=by
 unfold vals rowI
 rw[List.range_succ,List.flatMap_append]
 simp
theorem vh (g:Nat→Nat→Int)(w k:Nat):vals (sh (fun x y=>g y x) k 0) 1 w=rowI g w k:=by
 unfold vals rowI
 induction w with
 | zero=>rfl
 | succ w ih =>
  rw[List.range_succ (n:=w),List.flatMap_append,ih,List.map_append]
  simp[sh]
end Lw
namespace Lw
open PySem FF
theorem vi (g:Nat→Nat→Int)(s y:Nat):rowI (fun x y=>g (s - 1 - x) y) s y=(rowI g s y).reverse:=by
 unfold rowI
 apply List.ext_getElem
 ·simp
 ·intro i h1 h2
  simp at h1
  simp[h1]
theorem j3 (g:Nat→Nat→Int)(s:Nat):∀ k,(vals (fun x y=>g (s - 1 - x) y) s k).Perm (vals g s k)
 | 0=>by unfold vals;exact .refl _
 | k+1=>by
  rw[ik,ik,vi]
  exact(j3 g s k).append (List.reverse_perm _)
theorem j4 (g:Nat→Nat→Int)(w:Nat):∀ k,(vals (fun x y=>g y x) k w).Perm (vals g w k)
 | 0=>by
  have e:vals (fun x y=>g y x) 0 w=[]:=by unfold vals;induction w with | zero=>rfl | succ w ih=>rw[List.range_succ,List.flatMap_append,ih];rfl
  rw[e];unfold vals;exact .refl _
 | k+1=>by
  rw[ik]
  have p:=oh (fun x y=>g y x) k 1 w
  rw[vh]at p
  exact p.trans ((j4 g w k).append (.refl _))
theorem sR (g:Nat→Nat→Int)(s:Nat):(vals (mTurn s g) s s).Perm (vals g s s) :=
 (j3 (fun x y=>g y x) s s).trans (j4 g s s)
end Lw
namespace Lw
open PySem FF
theorem sS {f f':Nat→Nat→Int}{w y:Nat}(h:∀ x,x < w→f x y=f' x y):rowI f w y=rowI f' w y:=List.map_congr_left fun x hx=>h x (List.mem_range.mp hx)
theorem j5 {f f':Nat→Nat→Int}{w k:Nat}(h:∀ x y,x < w→y < k→f x y=f' x y):vals f w k=vals f' w k:=by
 rw[ly,ly]
 congr 1
 exact List.map_congr_left fun y hy=>sS fun x hx=>h x y hx (List.mem_range.mp hy)
end Lw
end
section
namespace Lw
open PySem FF
section
variable {sz:Nat}{g:Nat→Nat→Int}{t:Q Int}
end
theorem vj {d:D}{m:Nat}(h:pf m F.ab [d]=.err 1):pf (m+1) F.aJ [d]=.err 1:=by rw[qu,ju,h];rfl
def spT (s:Nat):Nat→Nat→Nat→Nat×Nat
 | 0,x,y=>(x,y)
 | k+1,x,y=>(s - 1 - (spT s k x y).2,(spT s k x y).1)
def sb (s w x y:Nat):Nat×Nat:=spT s (w%4) (if 4≤w then s - 1 - x else x) y
end Lw
end
section
namespace Lw
open PySem FF
section
variable {α β γ:Type}[DecidableEq α][DecidableEq β][DecidableEq γ]{ea:α→D}{eb:β→D}{ec:γ→D}
end
section
variable {α:Type}[DecidableEq α]{e:α→D}
end
section
variable {sz:Nat}{t:Q (Option Int)}
end
section
variable {sz:Nat}{g g':Nat→Nat→Int}{c c':Nat→Nat→Option Int}{t t':Q Int}{u u':Q (Option Int)}
end
end Lw
end
section
namespace Lw
open PySem FF
end Lw
end
section
namespace Lw
open PySem FF
theorem word5 {m:Nat}(hm:1≤m):pf m F.aC [.exc 5]=.ok (.str "no rule"):=by
 obtain⟨m,rfl,hm⟩:=ex1 hm
 rw[lh,d4]
 rfl
theorem vk (s:Str):dNf (.str s) (.str s)=.ok (.bl false):=by rw[n4 rfl rfl,sK (n:=1) rfl];rfl
def tw (t:Nat→List D→R D)(r:R D):L Unit:=lTry (τ:=D) (qTk esL) (lB r .nx) (fun x=>.rt x) (fun k=>lB (t F.aC [.exc k]) .rt)
theorem vm {t:Nat→List D→R D}{k:Nat}{d:D}(hk:qTk esL k=true)(h:t F.aC [.exc k]=.ok d):outL (tw t (.err k))=.ok d:=by
 unfold tw
 rw[uq,wf,if_pos hk,h];rfl
section
variable {sz sz':Nat}{g g':Nat→Nat→Int}{t t':Q Int}
end
end Lw
end
section
namespace Lw
open PySem FF
def bA (x b:Nat):Nat:=x/b*b
theorem ou (x b:Nat):bA x b≤x:=Nat.div_mul_le_self x b
theorem oy {x b:Nat}(hb:0 < b):x < bA x b+b:=by
 unfold bA
 have h1:=Nat.div_add_mod x b
 have h2:=Nat.mod_lt x hb
 rw[Nat.mul_comm]at h1
 omega
theorem qH {x b k:Nat}(h1:b*k≤x)(h2:x < b*k+b):bA x b=b*k:=by
 unfold bA
 have hb:0 < b:=by omega
 have:x/b=k:=by
  apply Nat.div_eq_of_lt_le
  ·rw[Nat.mul_comm];exact h1
  ·rw[Nat.succ_mul,Nat.mul_comm];exact h2
 rw[this,Nat.mul_comm]
theorem j6 {x b:Nat}:∃ k,bA x b=b*k:=⟨x/b,by unfold bA;rw[Nat.mul_comm]⟩
theorem bA_0 {x b:Nat}(h:x < b):bA x b=0:=by unfold bA;rw[Nat.div_eq_of_lt h,Nat.zero_mul]
theorem mO {x b k:Nat}(hb:0 < b):bA (x+b*k) b=bA x b+b*k:=by
 unfold bA
 rw[Nat.add_mul_div_left _ _ hb,Nat.add_mul,Nat.mul_comm k b]
theorem iD {x b k m:Nat}(hb:0 < b)(h:b*k≤x)(h2:x < b*k+b*m):b*k≤bA x b∧bA x b+b≤b*k+b*m:=by
 obtain⟨j,e⟩:=j6 (x:=x) (b:=b)
 have h3:=ou x b
 have h4:=oy (x:=x) hb
 rw[e]at h3 h4 ⊢
 have k1:k≤j:=by
  apply Nat.le_of_lt_succ
  apply Nat.lt_of_mul_lt_mul_left (a:=b)
  rw[Nat.mul_succ];omega
 have k2:j < k+m:=by
  apply Nat.lt_of_mul_lt_mul_left (a:=b)
  rw[Nat.mul_add];omega
 refine⟨Nat.mul_le_mul_left b k1,?_⟩
 have:=Nat.mul_le_mul_left b (show j+1≤k+m by omega)
 rw[Nat.mul_add,Nat.mul_add,Nat.mul_one]at this
 omega
def blkF (ch:List Int→Int)(b:Nat)(g:Nat→Nat→Int):Nat→Nat→Int:=fun x y=>ch (vals (sh g (bA x b) (bA y b)) b b)
structure Pick (ch:List Int→Int):Prop where
 mem:∀ l,l≠[]→ch l∈l
 perm:∀ l l',l.Perm l'→ch l=ch l'
theorem dF {g:Nat→Nat→Int}{b:Nat}(h:0 < b):vals g b b≠[]:=by
 obtain⟨r,e⟩:=ij (f:=g) h h
 rw[e];simp
theorem Pick.const {ch:List Int→Int}(p:Pick ch){g:Nat→Nat→Int}{b:Nat}(hb:0 < b){v:Int}(h:∀ x y,x < b→y < b→g x y=v):ch (vals g b b)=v:=by
 obtain⟨x,y,hx,hy,e⟩:=a8.mp (p.mem _ (dF (g:=g) hb))
 rw[e,h x y hx hy]
theorem Pick.wo {ch:List Int→Int}(p:Pick ch){g:Nat→Nat→Int}{sz b m:Nat}(hb:0 < b)(hs:2^sz=b*m)(h:Wo g sz):Wo (blkF ch b g) sz:=fun x y hx hy=>by
 obtain⟨x',y',h1,h2,e⟩:=a8.mp (p.mem _ (dF (g:=sh g (bA x b) (bA y b)) hb))
 have i1:=iD (k:=0) (m:=m) (x:=x) hb (by omega) (by rw[Nat.mul_zero];omega)
 have i2:=iD (k:=0) (m:=m) (x:=y) hb (by omega) (by rw[Nat.mul_zero];omega)
 show W9 (ch _)
 rw[e]
 exact h _ _ (by omega) (by omega)
theorem mP {ch:List Int→Int}{b i j:Nat}(hb:0 < b)(g:Nat→Nat→Int):sh (blkF ch b g) (b*i) (b*j)=blkF ch b (sh g (b*i) (b*j)):=by
 funext x y
 show ch _=ch _
 rw[mO hb,mO hb,zo]
 rw[Nat.add_comm (bA x b),Nat.add_comm (bA y b)]
theorem Pick.again {ch:List Int→Int}(p:Pick ch){b:Nat}(hb:0 < b)(g:Nat→Nat→Int)(x y:Nat):blkF ch b (blkF ch b g) x y=blkF ch b g x y:=by
 refine p.const hb fun x' y' h1 h2=>?_
 obtain⟨i,ei⟩:=j6 (x:=x) (b:=b)
 obtain⟨j,ej⟩:=j6 (x:=y) (b:=b)
 show ch (vals (sh g (bA (x'+bA x b) b) (bA (y'+bA y b) b)) b b)=ch (vals (sh g (bA x b) (bA y b)) b b)
 rw[ei,ej,mO hb,mO hb,bA_0 h1,bA_0 h2,Nat.zero_add,Nat.zero_add]
theorem Pick.one {ch:List Int→Int}(p:Pick ch)(g:Nat→Nat→Int)(x y:Nat):blkF ch 1 g x y=g x y:=by
 refine(p.const (by decide) fun x' y' h1 h2=>?_)
 have:x'=0:=by omega
 subst this
 have:y'=0:=by omega
 subst this
 show g (0+bA x 1) (0+bA y 1)=_
 unfold bA;simp
theorem Pick.mirr {ch:List Int→Int}(p:Pick ch){b m:Nat}(hb:0 < b)(g:Nat→Nat→Int){x y:Nat}(hx:x < b*m):blkF ch b (mMirr (b*m) g) x y=mMirr (b*m) (blkF ch b g) x y:=by
 obtain⟨i,ei⟩:=j6 (x:=x) (b:=b)
 have i1:=iD (k:=0) (m:=m) (x:=x) hb (by omega) (by rw[Nat.mul_zero];omega)
 have h1:=ou x b
 have h2:=oy (x:=x) hb
 rw[ei]at i1 h1 h2
 have him:i+1≤m:=Nat.le_of_mul_le_mul_left (show b*(i+1)≤b*m by rw[Nat.mul_add,Nat.mul_one];omega) hb
 have em:b*m=b*i+b+b*(m - 1 - i):=by
  rw[← Nat.mul_succ,← Nat.mul_add];congr 1;omega
 have e2:bA (b*m - 1 - x) b=b*(m - 1 - i):=qH (by omega) (by omega)
 show ch (vals (sh (mMirr (b*m) g) (bA x b) (bA y b)) b b)=ch (vals (sh g (bA (b*m - 1 - x) b) (bA y b)) b b)
 rw[e2,ei]
 refine(p.perm _ _ ((j3 (sh g (b*(m - 1 - i)) (bA y b)) b b).symm.trans ?_)).symm
 rw[j5 (f':=sh (mMirr (b*m) g) (b*i) (bA y b)) fun x' y' a c=>?_]
 show g (b - 1 - x'+b*(m - 1 - i)) (y'+bA y b)=g (b*m - 1 - (x'+b*i)) (y'+bA y b)
 congr 1
 omega
theorem Pick.turn {ch:List Int→Int}(p:Pick ch){b m:Nat}(hb:0 < b)(g:Nat→Nat→Int){x y:Nat}(hx:x < b*m):blkF ch b (mTurn (b*m) g) x y=mTurn (b*m) (blkF ch b g) x y:=by
 obtain⟨i,ei⟩:=j6 (x:=x) (b:=b)
 have i1:=iD (k:=0) (m:=m) (x:=x) hb (by omega) (by rw[Nat.mul_zero];omega)
 have h1:=ou x b
 have h2:=oy (x:=x) hb
 rw[ei]at i1 h1 h2
 have him:i+1≤m:=Nat.le_of_mul_le_mul_left (show b*(i+1)≤b*m by rw[Nat.mul_add,Nat.mul_one];omega) hb
 have em:b*m=b*i+b+b*(m - 1 - i):=by
  rw[← Nat.mul_succ,← Nat.mul_add];congr 1;omega
 have e2:bA (b*m - 1 - x) b=b*(m - 1 - i):=qH (by omega) (by omega)
 show ch (vals (sh (mTurn (b*m) g) (bA x b) (bA y b)) b b)=ch (vals (sh g (bA y b) (bA (b*m - 1 - x) b)) b b)
 rw[e2,ei]
 refine(p.perm _ _ ((sR (sh g (bA y b) (b*(m - 1 - i))) b).symm.trans ?_)).symm
 rw[j5 (f':=sh (mTurn (b*m) g) (b*i) (bA y b)) fun x' y' a c=>?_]
 show g (y'+bA y b) (b - 1 - x'+b*(m - 1 - i))=g (y'+bA y b) (b*m - 1 - (x'+b*i))
 congr 1
 omega
theorem Pick.turns {ch:List Int→Int}(p:Pick ch){b m:Nat}(hb:0 < b)(g:Nat→Nat→Int):∀ (k:Nat) {x y:Nat},x < b*m→y < b*m→blkF ch b (turns (b*m) k g) x y=turns (b*m) k (blkF ch b g) x y
 | 0,x,y,_,_=>rfl
 | k+1,x,y,hx,hy=>(p.turn hb _ hx).trans (p.turns hb g k hy (by omega))
theorem iE {s:Nat}{g g':Nat→Nat→Int}(h:∀ x y,x < s→y < s→g x y=g' x y):∀ (k:Nat) {x y:Nat},x < s→y < s→turns s k g x y=turns s k g' x y
 | 0,x,y,hx,hy=>h x y hx hy
 | k+1,x,y,hx,hy=>iE h k hy (by omega)
theorem Pick.way {ch:List Int→Int}(p:Pick ch){b m:Nat}(hb:0 < b)(g:Nat→Nat→Int)(k:Nat){x y:Nat}(hx:x < b*m)(hy:y < b*m):blkF ch b (mWay (b*m) k g) x y=mWay (b*m) k (blkF ch b g) x y:=by
 unfold mWay
 rw[p.turns hb _ _ hx hy]
 split
 ·exact iE (fun x y hx _=>p.mirr hb g hx) _ hx hy
 ·rfl
theorem dG {n k:Nat}:(2^n:Nat)=2^(n - k)*2^(min n k):=by
 rw[← Nat.pow_add];congr 1;omega
theorem mQ (f:Nat→Nat→Int)(n:Nat):T f (n+1)=put4 (T f n) (T (sh f (2^n) 0) n) (T (sh f 0 (2^n)) n) (T (sh f (2^n) (2^n)) n):=rfl
theorem j7 (ch:List Int→Int)(n k:Nat)(g:Nat→Nat→Int):T (blkF ch (2^(n+1 - (k+1))) g) (n+1)=put4 (T (blkF ch (2^(n - k)) g) n) (T (blkF ch (2^(n - k)) (sh g (2^n) 0)) n) (T (blkF ch (2^(n - k)) (sh g 0 (2^n))) n) (T (blkF ch (2^(n - k)) (sh g (2^n) (2^n))) n):=by
 have hb:=pos2 (n - k)
 have e:n+1 - (k+1)=n - k:=by omega
 have z:(0:Nat)=2^(n - k)*0:=by simp
 have s:(2^n:Nat)=2^(n - k)*2^(min n k):=dG
 rw[e,mQ]
 rw[s]
 congr 1
 ·rw[show sh (blkF ch (2^(n - k)) g) (2^(n - k)*2^(min n k)) 0=sh (blkF ch (2^(n - k)) g) (2^(n - k)*2^(min n k)) (2^(n - k)*0) by simp,mP hb];simp
 ·rw[show sh (blkF ch (2^(n - k)) g) 0 (2^(n - k)*2^(min n k))=sh (blkF ch (2^(n - k)) g) (2^(n - k)*0) (2^(n - k)*2^(min n k)) by simp,mP hb];simp
 ·rw[mP hb]
theorem gE {n:Nat}{g:Nat→Nat→Int}{v:Int}(h:∀ x y,x < 2^n→y < 2^n→g x y=v):T g n=.lf v:=by rw[aI n g (fun _ _=>v) h,iX]
theorem Pick.seen_const {ch:List Int→Int}(p:Pick ch){n k:Nat}{g:Nat→Nat→Int}{v:Int}(h:∀ x y,x < 2^n→y < 2^n→g x y=v):∀ x y,x < 2^n→y < 2^n→blkF ch (2^(n - k)) g x y=v:=fun x y hx hy=>by
 have hb:=pos2 (n - k)
 have s:(2^n:Nat)=2^(n - k)*2^(min n k):=dG
 have i1:=iD (k:=0) (m:=2^(min n k)) (x:=x) hb (by omega) (by rw[Nat.mul_zero];omega)
 have i2:=iD (k:=0) (m:=2^(min n k)) (x:=y) hb (by omega) (by rw[Nat.mul_zero];omega)
 exact p.const hb fun x' y' h1 h2=>h _ _ (by omega) (by omega)
theorem lA (ch:List Int→Int)(n:Nat)(g:Nat→Nat→Int):∀ x y,x < 2^n→y < 2^n→blkF ch (2^(n - 0)) g x y=ch (vals g (2^n) (2^n)):=fun x y hx hy=>by
 show ch (vals (sh g (bA x _) (bA y _)) _ _)=_
 rw[Nat.sub_zero,bA_0 hx,bA_0 hy,sh_0]
theorem Pick.dep {ch:List Int→Int}(p:Pick ch):∀ (n k:Nat) (g:Nat→Nat→Int),(T (blkF ch (2^(n - k)) g) n).dep≤k
 | n,0,g=>by rw[gE (lA ch n g)];exact Nat.le_refl _
 | 0,k+1,g=>Nat.zero_le _
 | n+1,k+1,g=>by
  rw[j7]
  exact nX k _ _ _ _ (p.dep n k _) (p.dep n k _) (p.dep n k _) (p.dep n k _)
theorem sT {a b c d:Q Int}{k:Nat}(h:(put4 a b c d).dep≤k+1)(hn:∀ v,put4 a b c d≠.lf v):a.dep≤k∧b.dep≤k∧c.dep≤k∧d.dep≤k:=by
 rcases jZ a b c d with ⟨v,rfl,rfl,rfl,rfl⟩ | e
 ·exact absurd (cT v) (hn v)
 ·rw[e]at h
  unfold Q.dep at h
  omega
theorem Pick.whole {ch:List Int→Int}(p:Pick ch):∀ (n k:Nat) (g:Nat→Nat→Int),(T g n).dep≤k→∀ x y,x < 2^n→y < 2^n→blkF ch (2^(n - k)) g x y=g x y
 | 0,k,g,_,x,y,hx,hy=>by rw[show (2^(0 - k):Nat)=1 by simp];exact p.one g x y
 | n+1,k,g,h,x,y,hx,hy=>by
  by_cases hc:∀ x y,x < 2^(n+1)→y < 2^(n+1)→g x y=g 0 0
  ·rw[p.seen_const hc x y hx hy,hc x y hx hy]
  ·have hnd:∀ v,T g (n+1)≠.lf v:=fun v e=>hc fun x y hx hy=>by
    have e1:=T_at (n+1) g x y hx hy
    have e2:=T_at (n+1) g 0 0 (pos2 _) (pos2 _)
    rw[e,jJ]at e1 e2
    rw[← e1,← e2]
   cases k with
   | zero =>
    rw[T_nd hc]at h
    unfold Q.dep at h
    omega
   | succ k =>
    obtain⟨h1,h2,h3,h4⟩:=sT (k:=k) (by rw[← mQ];exact h) (by rw[← mQ];exact hnd)
    have hb:=pos2 (n - k)
    have s:(2^n:Nat)=2^(n - k)*2^(min n k):=dG
    have e:n+1 - (k+1)=n - k:=by omega
    have d:=bM n
    rw[e]
    have key:∀ i j a c:Nat,(T (sh g (2^(n - k)*i) (2^(n - k)*j)) n).dep≤k→a < 2^n→c < 2^n→blkF ch (2^(n - k)) g (a+2^(n - k)*i) (c+2^(n - k)*j)=g (a+2^(n - k)*i) (c+2^(n - k)*j):=fun i j a c hd ha hc=>by
     have:=p.whole n k _ hd a c ha hc
     rw[← mP hb]at this
     exact this
    by_cases hx':x < 2^n<;>by_cases hy':y < 2^n
    ·have:=key 0 0 x y (by simpa [sh_0] using h1) hx' hy';simpa using this
    ·have:=key 0 (2^(min n k)) x (y - 2^n) (by rw[← s];simpa using h3) hx' (by omega)
     rw[← s,Nat.mul_zero,Nat.add_zero,Nat.sub_add_cancel (by omega)]at this;exact this
    ·have:=key (2^(min n k)) 0 (x - 2^n) y (by rw[← s];simpa using h2) (by omega) hy'
     rw[← s,Nat.mul_zero,Nat.add_zero,Nat.sub_add_cancel (by omega)]at this;exact this
    ·have:=key (2^(min n k)) (2^(min n k)) (x - 2^n) (y - 2^n) (by rw[← s];exact h4) (by omega) (by omega)
     rw[← s,Nat.sub_add_cancel (by omega),Nat.sub_add_cancel (by omega)]at this;exact this
end Lw
end
section
namespace Lw
open PySem FF
def cl (l:List Int):List Int:=(List.range 10).map fun v:Nat=>((l.countP (· == (v:Int)):Nat):Int)
theorem sU (l:List Int):countsT l=.tup ((cl l).map .int):=by unfold countsT cl;rw[List.map_map];rfl
theorem qI (l:List Int){v:Nat}(h:v < 10):(cl l)[v]?=some ((l.countP (· == (v:Int)):Nat):Int):=by unfold cl;simp[h]
theorem xk {l l':List Int}(h:l.Perm l'):cl l=cl l':=by
 unfold cl
 exact List.map_congr_left fun v _=>by rw[h.countP_eq]
theorem vn (l:List Int):cl l≠[]:=by unfold cl;simp[List.range_succ]
theorem e8 {l:List Int}{v:Int}:0 < l.countP (· == v)↔v∈l:=by
 rw[List.countP_pos_iff]
 constructor
 ·rintro ⟨a,h1,h2⟩;rw[← beq_iff_eq.mp h2];exact h1
 ·intro h;exact⟨v,h,by simp⟩
theorem oz {v:Int}:∀ {l:List Int},v∈l→l[l.idxOf v]?=some v∧∀ j,j < l.idxOf v→l[j]?≠some v
 | [],h=>nomatch h
 | a::r,h=>by
  rw[List.idxOf_cons]
  by_cases e:a=v
  ·rw[beq_iff_eq.mpr e,cond_true];exact⟨by rw[e];rfl,fun j hj=>absurd hj (Nat.not_lt_zero _)⟩
  ·rw[beq_eq_false_iff_ne.mpr e,cond_false]
   rcases List.mem_cons.mp h with z | z
   ·exact absurd z.symm e
   ·obtain⟨a1,a2⟩:=oz z
    refine⟨a1,fun j hj=>?_⟩
    cases j with
    | zero=>intro q;exact e (Option.some.inj q)
    | succ j=>exact a2 j (by omega)
def mIx (l:List Int):Nat:=(cl l).idxOf (maxL (cl l))
def mostL (l:List Int):Int:=if 0 < l.countP (· == ((mIx l:Nat):Int)) then ((mIx l:Nat):Int) else minL l
structure IsMost (l:List Int)(v:Nat):Prop where
 lt:v < 10
 ge:∀ u:Nat,u < 10→l.countP (· == (u:Int))≤l.countP (· == (v:Int))
 fst:∀ u:Nat,u < v→l.countP (· == (u:Int)) < l.countP (· == (v:Int))
theorem IsMost.uniq {l:List Int}{u v:Nat}(a:IsMost l u)(b:IsMost l v):u=v:=by
 rcases Nat.lt_trichotomy u v with h | h | h
 ·have:=b.fst u h;have:=a.ge v b.lt;omega
 ·exact h
 ·have:=a.fst v h;have:=b.ge u a.lt;omega
theorem oA (l:List Int):IsMost l (mIx l):=by
 unfold mIx
 obtain⟨m1,m2⟩:=cX (vn l)
 obtain⟨i1,i2⟩:=oz m1
 have ln:(cl l).length=10:=by unfold cl;simp
 have lt:(cl l).idxOf (maxL (cl l)) < 10:=by rw[← ln];exact(List.getElem?_eq_some_iff.mp i1).1
 rw[qI l lt]at i1
 have i1':=Option.some.inj i1
 refine⟨lt,fun u hu=>?_,fun u hu=>?_⟩
 ·have:=m2 _ (List.mem_of_getElem? (qI l hu));omega
 ·have hu10:u < 10:=by omega
  have a:=m2 _ (List.mem_of_getElem? (qI l hu10))
  have b:=i2 u hu
  rw[qI l hu10]at b
  have:((l.countP (· == (u:Int)):Nat):Int)≠maxL (cl l):=fun z=>b (by rw[z])
  omega
theorem lC {l l':List Int}(h:l.Perm l'):minL l=minL l':=by
 by_cases e:l=[]
 ·subst e;rw[List.nil_perm.mp h]
 ·have e':l'≠[]:=fun z=>e (by rw[z]at h;exact List.perm_nil.mp h)
  obtain⟨a,b⟩:=bR e'
  exact mH (h.symm.subset a) fun x hx=>b x (h.subset hx)
theorem sV {l l':List Int}(h:l.Perm l'):maxL l=maxL l':=by
 by_cases e:l=[]
 ·subst e;rw[List.nil_perm.mp h]
 ·have e':l'≠[]:=fun z=>e (by rw[z]at h;exact List.perm_nil.mp h)
  obtain⟨a,b⟩:=cX e'
  exact mI (h.symm.subset a) fun x hx=>b x (h.subset hx)
theorem fH:Pick minL:=⟨fun l h=>(bR h).1,fun _ _ h=>lC h⟩
theorem pP:Pick maxL:=⟨fun l h=>(cX h).1,fun _ _ h=>sV h⟩
theorem sW:Pick mostL:=⟨fun l h=>by
 unfold mostL
 split
 ·rename_i q;exact e8.mp q
 ·exact(bR h).1,fun l l' h=>by unfold mostL mIx;rw[xk h,h.countP_eq,lC h]⟩
theorem j8 {v:Int}(h:W9 v):∃ u:Nat,u < 10∧v=(u:Int):=⟨v.toNat,by have:=h.1;have:=h.2;omega,by have:=h.1;omega⟩
theorem qJ {l:List Int}(h:l≠[])(hw:∀ v∈l,W9 v):mostL l=((mIx l:Nat):Int):=by
 obtain⟨a,r,e⟩:=List.exists_cons_of_ne_nil h
 have ha:a∈l:=by rw[e];exact .head _
 obtain⟨u,hu,eu⟩:=j8 (hw a ha)
 have h1:=(oA l).ge u hu
 have h2:=e8.mpr ha
 rw[eu]at h2
 unfold mostL
 rw[if_pos (by omega)]
theorem vo {l:List Int}(h:l≠[]):dMaxT [.tup (l.map .int)]=.ok (.int (maxL l)):=by
 unfold dMaxT
 simp only[bB]
 cases l with
 | nil=>exact absurd rfl h
 | cons a r=>rfl
theorem xl {m:Nat}(hm:1≤m){l:List Int}(h:l≠[])(hw:∀ v∈l,W9 v):pf m F.ah [countsT l]=.ok (.int (mostL l)):=by
 obtain⟨m,rfl,hm⟩:=ex1 (show 0+1≤m by omega)
 rw[nG,df,sU,xi,vo (vn l),R.bind_ok,mM (cX (vn l)).1,qJ h hw]
 rfl
theorem qK (f:Nat→D):∀ (n k:Nat),enD ((List.range' k n).map f) k=(List.range' k n).map fun i=>.tup [.int (i:Int),f i]
 | 0,k=>rfl
 | n+1,k=>by rw[List.range'_succ,List.map_cons,List.map_cons,enD,qK f n (k+1)]
theorem xm (f:Nat→D)(n:Nat)(hn:n≤1000):dEnum (.tup ((List.range n).map f))=.ok ((List.range n).map fun i:Nat=>.tup [.int (i:Int),f i]):=by
 unfold dEnum
 rw[eF (by simp;omega),R.bind_ok,List.range_eq_range',qK f n 0]
def met (l:List Int):List Nat:=(List.range 10).filter fun v=>decide (0 < l.countP (· == (v:Int)))
theorem vp {m:Nat}(hm:1≤m)(l:List Int):pf m F.aw [countsT l]=.ok (.lst ((met l).map fun v:Nat=>D.int (v:Int))):=by
 obtain⟨m,rfl,hm⟩:=ex1 (show 0+1≤m by omega)
 have f:cFil (fun p=>un2 p fun worth times=>(asB (dGt times (.int 0)))) (fun p=>un2 p fun worth times=>.ok worth) ((List.range 10).map fun i:Nat=>.tup [.int (i:Int),.int ((l.countP (· == (i:Int)):Nat):Int)])=.ok (.lst ((met l).map fun v:Nat=>D.int (v:Int))):=qv _ _ _ fun v _=>by
  refine⟨?_,fun _=>rfl⟩
  show asB (dGt (.int _) (.int 0))=_
  rw[mG,bg]
  congr 1
  exact decide_eq_decide.mpr ⟨fun h=>by omega,fun h=>by omega⟩
 rw[kA,b9,show dEnum (countsT l)=_ from xm _ 10 (by decide),R.bind_ok,f]
 rfl
theorem gF {l:List Int}{v:Nat}:v∈met l↔v < 10∧(v:Int)∈l:=by
 unfold met
 rw[List.mem_filter,List.mem_range]
 simp only[decide_eq_true_eq,e8]
theorem j9 (l:List Int):(met l).Pairwise (· < ·):=by
 unfold met
 exact List.Pairwise.filter _ List.pairwise_lt_range
theorem vq {l:List Int}(h:l≠[])(hw:∀ v∈l,W9 v):met l≠[]:=by
 obtain⟨a,r,e⟩:=List.exists_cons_of_ne_nil h
 have ha:a∈l:=by rw[e];exact .head _
 obtain⟨u,hu,eu⟩:=j8 (hw a ha)
 intro z
 have:u∈met l:=gF.mpr ⟨hu,by rw[← eu];exact ha⟩
 rw[z]at this;cases this
theorem vt {m:Nat}(hm:2≤m){l:List Int}(h:l≠[])(hw:∀ v∈l,W9 v):pf m F.af [countsT l]=.ok (.int (minL l)):=by
 obtain⟨m,rfl,hm⟩:=ex1 (show 1+1≤m by omega)
 obtain⟨a,r,e⟩:=List.exists_cons_of_ne_nil (vq h hw)
 have hs:=j9 l
 rw[e]at hs
 have hs1:=(List.pairwise_cons.mp hs).1
 have:minL l=(a:Int):=mH (gF.mp (by rw[e];exact .head _)).2 fun x hx=>by
  obtain⟨u,hu,rfl⟩:=j8 (hw x hx)
  have hm:u∈met l:=gF.mpr ⟨hu,hx⟩
  rw[e]at hm
  rcases List.mem_cons.mp hm with rfl | hm
  ·exact Int.le_refl _
  ·have:=hs1 u hm;omega
 have i0:dIx (.lst ((a::r).map fun v:Nat=>D.int (v:Int))) (.int 0)=.ok (.int (a:Int)):=ixL (i:=0) rfl
 rw[ma,cF,vp (by omega),R.bind_ok,e,this,i0]
 rfl
theorem vw {xs:List D}{x:D}(hne:xs≠[])(h:xs[xs.length - 1]?=some x):dIx (.lst xs) (.int (-1))=.ok x:=by
 have hl:0 < xs.length:=List.length_pos_iff.mpr hne
 have e:L2.atI xs (-1)=some x:=by
  unfold L2.atI L2.ixN
  rw[if_neg (by decide),if_pos (by omega)]
  show xs[((-1:Int)+(xs.length:Int)).toNat]?=some x
  rw[show ((-1:Int)+(xs.length:Int)).toNat=xs.length - 1 by omega];exact h
 show (match L2.atI xs (-1) with | some d=>R.ok d | none=>R.stuck)=_
 rw[e]
theorem vz {m:Nat}(hm:2≤m){l:List Int}(h:l≠[])(hw:∀ v∈l,W9 v):pf m F.ac [countsT l]=.ok (.int (maxL l)):=by
 obtain⟨m,rfl,hm⟩:=ex1 (show 1+1≤m by omega)
 have hne:=vq h hw
 have el:=List.dropLast_concat_getLast hne
 have hs:=j9 l
 rw[← el]at hs
 have hs1:=(List.pairwise_append.mp hs).2.2
 have hlast:(met l).getLast hne∈met l:=List.getLast_mem hne
 have:maxL l=(((met l).getLast hne:Nat):Int):=mI (gF.mp hlast).2 fun x hx=>by
  obtain⟨u,hu,rfl⟩:=j8 (hw x hx)
  have hm:u∈met l:=gF.mpr ⟨hu,hx⟩
  rw[← el]at hm
  rcases List.mem_append.mp hm with z | z
  ·have:=hs1 u z _ (List.mem_singleton.mpr rfl);omega
  ·rw[List.mem_singleton.mp z];exact Int.le_refl _
 have ix:dIx (.lst ((met l).map fun v:Nat=>D.int (v:Int))) (.int (-1))=.ok (.int (((met l).getLast hne:Nat):Int)):=by
  have hl:0 < (met l).length:=List.length_pos_iff.mpr hne
  refine vw (by simpa using hne) ?_
  rw[List.length_map,List.getElem?_map,List.getElem?_eq_getElem (by omega),List.getLast_eq_getElem]
  rfl
 rw[iJ,bI,vp (by omega),R.bind_ok,ix,this]
 rfl
def Pw (l:List Int)(w:Int):D:=.tup [.int (0 - ((l.countP (· == w):Nat):Int)),.int w]
def Kw (l:List Int)(w:Int):List Int:=[0 - ((l.countP (· == w):Nat):Int),w]
theorem oB {l:List Int}{u w:Int}:lexI (Kw l u) (Kw l w)=true↔l.countP (· == w) < l.countP (· == u)∨(l.countP (· == u)=l.countP (· == w)∧u < w):=by
 unfold Kw
 simp only[lexI]
 by_cases h1:(0:Int) - ((l.countP (· == u):Nat):Int)=0 - ((l.countP (· == w):Nat):Int)
 ·rw[if_pos h1]
  by_cases h2:u=w
  ·rw[if_pos h2];simp;omega
  ·rw[if_neg h2,decide_eq_true_iff];omega
 ·rw[if_neg h1,decide_eq_true_iff];omega
theorem il (l:List Int):∀ (r:List Int) (w0:Int),∃ w∈w0::r,minT (Pw l w0) (Kw l w0) (r.map (Pw l))=.ok (Pw l w)∧∀ u∈w0::r,¬ lexI (Kw l u) (Kw l w)=true
 | [],w0=>⟨w0,.head _,rfl,fun u hu=>by rw[List.mem_singleton.mp hu,oB];omega⟩
 | x::r,w0=>by
  have ht:tupI? (Pw l x)=some (Kw l x):=rfl
  rw[List.map_cons,minT,ht]
  by_cases h:lexI (Kw l x) (Kw l w0)=true
  ·obtain⟨w,hw,e,q⟩:=il l r x
   refine⟨w,.tail _ hw,by show (if _ then _ else _)=_;rw[if_pos h];exact e,fun u hu=>?_⟩
   rcases List.mem_cons.mp hu with rfl | hu
   ·have:=q x (.head _)
    rw[oB]at h this ⊢
    omega
   ·exact q u hu
  ·obtain⟨w,hw,e,q⟩:=il l r w0
   refine⟨w,?_,by show (if _ then _ else _)=_;rw[if_neg h];exact e,fun u hu=>?_⟩
   ·rcases List.mem_cons.mp hw with rfl | hw
    ·exact .head _
    ·exact .tail _ (.tail _ hw)
   ·rcases List.mem_cons.mp hu with rfl | hu
    ·exact q u (.head _)
    ·rcases List.mem_cons.mp hu with rfl | hu
     ·have:=q w0 (.head _)
      rw[oB]at h this ⊢
      omega
     ·exact q u (.tail _ hu)
theorem vA {l:List Int}(h:l≠[])(hw:∀ v∈l,W9 v):dMinT [.lst (l.map (Pw l))]=.ok (Pw l (mostL l)):=by
 cases l with
 | nil=>exact absurd rfl h
 | cons a r =>
  obtain⟨w,hm,e,q⟩:=il (a::r) r a
  have e':dMinT [.lst ((a::r).map (Pw (a::r)))]=.ok (Pw (a::r) w):=e
  rw[e',qJ h hw]
  obtain⟨v,hv,rfl⟩:=j8 (hw w hm)
  have im:IsMost (a::r) v:=by
   have hp:=e8.mpr hm
   refine⟨hv,fun u hu=>?_,fun u hu=>?_⟩
   ·by_cases hu':(u:Int)∈a::r
    ·have:=q _ hu';rw[oB]at this;omega
    ·have:(a::r).countP (· == (u:Int))=0:=by
      have:=mt e8.mp hu';omega
     omega
   ·by_cases hu':(u:Int)∈a::r
    ·have:=q _ hu';rw[oB]at this;omega
    ·have:(a::r).countP (· == (u:Int))=0:=by
      have:=mt e8.mp hu';omega
     omega
  rw[im.uniq (oA (a::r))]
structure Ch (r:PySem.Str)(i:Nat)(ch:List Int→Int):Prop where
 pick:Pick ch
 tab:dTab b6 (.str r)=.ok (.fn i)
 fv:fvL.contains i=true
 chk:dNotInD (.str r) (tabK b6)=.ok (.bl false)
 run:∀ {m:Nat} {l:List Int},2≤m→l≠[]→(∀ v∈l,W9 v)→pf m i [countsT l]=.ok (.int (ch l))
 law:∀ {t:Nat→List D→R D} {l:List Int},l≠[]→l.length≤64→(∀ v∈l,W9 v)→(lS (lB (σ:=Unit) (asB (dInD (.str r) (.tup [(.str "least"),(.str "greatest")]))) fun b=>if b=true then lB (rIf (asB (dEq (.str r) (.str "least"))) (dMinL [(.lst (l.map .int))]) (dMaxL [(.lst (l.map .int))])) .rt else .nx ()) fun _ =>
  lB ((((sq (.lst (l.map .int))).bind fun xs1=>cMap (fun zA=>((onL (.lst (l.map .int)) fun ls=>dCountI ls [zA]).bind fun x1=>dSub (.int 0) x1).bind fun x2=>.ok (.tup [x2,zA])) xs1).bind fun x3=>dMinT [x3]).bind fun x4=>dIx x4 (.int 1)) .rt:L Unit)=.rt (.int (ch l))
theorem gG:Ch "least" F.af minL:=⟨fH,rfl,by decide,rfl,fun hm h hw=>vt hm h hw,fun {t l} h _ _=>by
 rw[show dInD (.str "least") (.tup [(.str "least"),(.str "greatest")])=.ok (.bl true) from rfl,show dEq (.str "least") (.str "least")=.ok (.bl true) from rfl,bg,aG,if_pos rfl,xB,u6 h]
 rfl⟩
theorem vB:Ch "greatest" F.ac maxL:=⟨pP,rfl,by decide,rfl,fun hm h hw=>vz hm h hw,fun {t l} h _ _=>by
 rw[show dInD (.str "greatest") (.tup [(.str "least"),(.str "greatest")])=.ok (.bl true) from rfl,show dEq (.str "greatest") (.str "least")=.ok (.bl false) from rfl,bg,aG,if_pos rfl,bg,xC,og h]
 rfl⟩
theorem qL:Ch "most" F.ah mostL:=⟨sW,rfl,by decide,rfl,fun hm h hw=>xl (by omega) h hw,fun {t l} h h64 hw=>by
 have c:cMap (fun zA=>((onL (.lst (l.map .int)) fun ls=>dCountI ls [zA]).bind fun x1=>dSub (.int 0) x1).bind fun x2=>.ok (.tup [x2,zA])) (l.map .int)=.ok (.lst (l.map (Pw l))):=bS _ _ fun w _=>by
  rw[qD,iB,R.bind_ok,bW,R.bind_ok]
  rfl
 rw[show dInD (.str "most") (.tup [(.str "least"),(.str "greatest")])=.ok (.bl false) from rfl,bg,aG,if_neg (by decide),bP,jK (by rw[List.length_map];omega),R.bind_ok,c,R.bind_ok,vA h hw,R.bind_ok]
 rfl⟩
theorem sX {r:PySem.Str}{i:Nat}{ch:List Int→Int}(c:Ch r i ch)(f:Nat→Nat→Int){b:Nat}(hb:0 < b)(h8:b≤8)(hw:∀ x y,x < b→y < b→W9 (f x y)){n:Nat}(hn:1≤n):pf n F.aU [rowsS false .int f b b,.str r]=.ok (.int (ch (vals f b b))):=by
 obtain⟨n,rfl,hn⟩:=ex1 (show 0+1≤n by omega)
 have hbb:b*b≤64:=Nat.mul_le_mul h8 h8
 have:=gA (fun y=>rowT .int f b y) (step:=fun s x=>dk (pf n) s x) (fun y=>(List.range b).map fun x=>D.int (f x y)) b (List.range b) [] (fun y hy acc ha=>by
  unfold dk rowT
  rw[jU (by simp;omega)]
  rfl) (fun y hy=>by simp) (by simp;omega)
 have hsq:sq (rowsS false .int f b b)=.ok ((List.range b).map fun y=>rowT .int f b y):=jV (by simp;omega)
 have ev:([]:List D)++(List.range b).flatMap (fun y=>(List.range b).map fun x=>D.int (f x y))=(vals f b b).map .int:=by unfold vals;simp[List.map_flatMap,Function.comp_def]
 rw[ev]at this
 rw[pj,eW,hsq,aG,this,bP,c.law (t:=pf n) (dF hb) (by rw[n8];exact hbb) fun v hv=>by obtain⟨x,y,hx,hy,rfl⟩:=a8.mp hv;exact hw x y hx hy]
 rfl
theorem aW {f g:Nat→Nat→Int}{w k:Nat}(h:∀ x y,x < w→y < k→f x y=g x y):rowsM f w k=rowsM g w k:=by
 unfold rowsM
 exact List.map_congr_left fun y hy=>List.map_congr_left fun x hx=>by rw[h x y (List.mem_range.mp hx) (List.mem_range.mp hy)]
theorem sY {b u r i:Nat}(hr:r < b)(e:u*b+r=i):i/b=u∧i%b=r:=by
 subst e
 constructor
 ·rw[Nat.mul_comm,Nat.mul_add_div (by omega),Nat.div_eq_of_lt hr,Nat.add_zero]
 ·rw[Nat.mul_comm,Nat.mul_add_mod,Nat.mod_eq_of_lt hr]
theorem vC {t:Nat→List D→R D}(h:Nat→Nat→Int){s b lf tp:Nat}(hb:0 < b)(hb8:b≤8)(hl:lf+b≤s)(ht:tp+b≤s)(v:Int) :
  lFor (τ:=List (List D)) (fun s' x=>fq t (.int (b:Int)) (.int (tp:Int)) (.int (lf:Int)) (.int v) s' x) ((List.range (b*b)).map fun i:Nat=>D.int (i:Int)) (rowsM h s s)=.nx (rowsM (fillF h ⟨lf,tp,b,b⟩ v) s s):=by
 have st0:rowsM h s s=rowsM (fun x y=>if (lf≤x∧x < lf+b)∧(tp≤y∧y < tp+b)∧(y - tp)*b+(x - lf) < 0 then v else h x y) s s:=aW fun x y _ _=>by rw[if_neg (by omega)]
 have stn:rowsM (fillF h ⟨lf,tp,b,b⟩ v) s s=rowsM (fun x y=>if (lf≤x∧x < lf+b)∧(tp≤y∧y < tp+b)∧(y - tp)*b+(x - lf) < b*b then v else h x y) s s:=aW fun x y _ _=>by
  unfold fillF
  have:(Bx.has ⟨lf,tp,b,b⟩ x y)↔((lf≤x∧x < lf+b)∧(tp≤y∧y < tp+b)∧(y - tp)*b+(x - lf) < b*b):=by
   constructor
   ·rintro ⟨h1,h2⟩
    have h1':lf≤x∧x < lf+b:=h1
    have h2':tp≤y∧y < tp+b:=h2
    refine⟨h1',h2',?_⟩
    have:=Nat.mul_le_mul_right b (show y - tp+1≤b by omega)
    rw[Nat.add_mul,Nat.one_mul]at this
    omega
   ·rintro ⟨h1,h2,_⟩;exact⟨h1,h2⟩
  by_cases q:Bx.has ⟨lf,tp,b,b⟩ x y
  ·rw[if_pos q,if_pos (this.mp q)]
  ·rw[if_neg q,if_neg (fun z=>q (this.mpr z))]
 rw[st0,stn]
 refine cY (fun i:Nat=>D.int (i:Int)) (fun n=>rowsM (fun x y=>if (lf≤x∧x < lf+b)∧(tp≤y∧y < tp+b)∧(y - tp)*b+(x - lf) < n then v else h x y) s s) (b*b) fun i hi=>?_
 have hd:i/b < b:=Nat.div_lt_of_lt_mul hi
 have hm:i%b < b:=Nat.mod_lt _ hb
 have e1:(tp:Int)+((i/b:Nat):Int)=((tp+i/b:Nat):Int):=by omega
 have e2:(lf:Int)+((i%b:Nat):Int)=((lf+i%b:Nat):Int):=by omega
 unfold fq
 rw[eM hb (by omega),R.bind_ok,aJ,R.bind_ok,e1,jR hb,R.bind_ok,aJ,e2]
 have:=vg (fun x y=>if (lf≤x∧x < lf+b)∧(tp≤y∧y < tp+b)∧(y - tp)*b+(x - lf) < i then v else h x y) (w:=s) (k:=s) (x:=lf+i%b) (y:=tp+i/b) (v:=v) (by omega) (by omega)
 simp only[R.bind_ok]
 rw[this,aG]
 congr 1
 refine aW fun x y _ _=>?_
 unfold putF
 have dm:=Nat.div_add_mod i b
 rw[Nat.mul_comm]at dm
 dsimp only
 have dmu:∀ u r,r < b→u*b+r=i→i/b=u∧i%b=r:=fun u r hr e=>sY hr e
 clear this e1 e2
 generalize i/b=u at *
 generalize i%b=r at *
 by_cases q:x=lf+r∧y=tp+u
 ·obtain⟨rfl,rfl⟩:=q
  rw[if_pos ⟨rfl,rfl⟩,if_pos ⟨by omega,by omega,by
   rw[show tp+u - tp=u by omega,show lf+r - lf=r by omega];omega⟩]
 ·rw[if_neg q]
  by_cases c1:(lf≤x∧x < lf+b)∧(tp≤y∧y < tp+b)∧(y - tp)*b+(x - lf) < i
  ·rw[if_pos c1,if_pos ⟨c1.1,c1.2.1,by omega⟩]
  ·rw[if_neg c1,if_neg]
   intro c2
   have e:(y - tp)*b+(x - lf)=i:=by
    have:=c2.2.2
    by_cases z:(y - tp)*b+(x - lf) < i
    ·exact absurd ⟨c2.1,c2.2.1,z⟩ c1
    ·omega
   obtain⟨a1,a2⟩:=dmu _ _ (by omega) e
   exact q ⟨by omega,by omega⟩
theorem vD (f:Nat→Nat→Int){s b tp lf:Nat}(hs:s≤8)(htp:tp+b≤s)(hlf:lf+b≤s):((((asI (.int (tp:Int))).bind fun i=>((dAdd (.int (tp:Int)) (.int (b:Int))).bind asI).bind fun i1=>dSw (rowsT .int f s s) i i1).bind fun x=>sq x).bind fun xs=>cMap (fun zR=>(asI (.int (lf:Int))).bind fun i2=>((dAdd (.int (lf:Int)) (.int (b:Int))).bind asI).bind fun i3=>dSw zR i2 i3) xs)=.ok (rowsS false .int (sh f lf tp) b b):=by
 have c1:(tp:Int)+(b:Int)=((tp+b:Nat):Int):=by omega
 have c2:(lf:Int)+(b:Int)=((lf+b:Nat):Int):=by omega
 have ai:∀ i:Int,asI (.int i)=.ok (some i):=fun _=>rfl
 have s1:dSw (rowsT .int f s s) (some (tp:Int)) (some ((tp+b:Nat):Int))=.ok (.tup ((List.range b).map fun i=>rowT .int f s (tp+i))):=by
  unfold rowsT
  show R.ok (D.tup (cutD _ _ _))=_
  rw[eZ htp]
 have s2:sq (.tup ((List.range b).map fun i=>rowT .int f s (tp+i)))=.ok ((List.range b).map fun i=>rowT .int f s (tp+i)):=eF (by simp;omega)
 have s3:cMap (fun zR=>dSw zR (some (lf:Int)) (some ((lf+b:Nat):Int))) ((List.range b).map fun i=>rowT .int f s (tp+i))=.ok (.lst ((List.range b).map fun i=>rowT .int (sh f lf tp) b i)):=by
  refine bS _ (fun i=>rowT .int (sh f lf tp) b i) fun i hi=>?_
  unfold rowT
  show R.ok (D.tup (cutD _ _ _))=_
  rw[eZ (g:=fun x=>D.int (f x (tp+i))) hlf]
  unfold sh
  congr 2
  exact List.map_congr_left fun x _=>by rw[Nat.add_comm lf x,Nat.add_comm tp i]
 simp only[STP,if_true,if_false,ite_true,ite_false,reduceIte,reduceCtorEq,OPP,ai,c1,c2,s1,s2,s3]
 rfl
theorem xn {b m:Nat}(hb:0 < b)(h:b*m≤1000)(hb2:b≤1000):rngS [.int 0,.int ((b*m:Nat):Int),.int (b:Int)]=.ok ((List.range m).map fun n:Nat=>D.int (0+(b:Int)*(n:Nat))):=by
 have e:((((b*m:Nat):Int) - 0+(b:Int) - 1)/(b:Int)).toNat=m:=by
  have:(((b*m:Nat):Int) - 0+(b:Int) - 1)/(b:Int)=(m:Int):=by
   rw[Int.natCast_mul,show (b:Int)*(m:Int) - 0+(b:Int) - 1=((b:Int) - 1)+(b:Int)*(m:Int) by omega,Int.add_mul_ediv_left _ _ (by omega),Int.ediv_eq_zero_of_lt (by omega) (by omega),Int.zero_add]
  rw[this];simp
 show (if (0:Int)≤0∧(0:Int)≤((b*m:Nat):Int)∧((b*m:Nat):Int)≤1000000∧(0:Int) < (b:Int)∧(b:Int)≤1000000 then R.ok ((List.range ((((b*m:Nat):Int) - 0+(b:Int) - 1)/(b:Int)).toNat).map fun n:Nat=>D.int (0+(b:Int)*(n:Nat))) else R.stuck)=_
 rw[if_pos ⟨by omega,by omega,by omega,by omega,by omega⟩,e]
section
variable {r:PySem.Str}{i:Nat}{ch:List Int→Int}{g:Nat→Nat→Int}{b m:Nat}
theorem sZ (c:Ch r i ch)(hb:0 < b)(hs:b*m≤8)(hw:∀ x y,x < b*m→y < b*m→W9 (g x y)){n:Nat}(hn:1≤n)(h:Nat→Nat→Int){k:Nat}(hk:k < m) :
  lFor (τ:=List (List D)) (fun s x=>ft (pf n) (rowsT .int g (b*m) (b*m)) (.str r) (.int (b:Int)) (.int (0+(b:Int)*(k:Nat))) s x) ((List.range m).map fun n:Nat=>D.int (0+(b:Int)*(n:Nat))) (rowsM h (b*m) (b*m)) =
   .nx (rowsM (fun x y=>if (b*k≤y∧y < b*k+b)∧x < b*m then blkF ch b g x y else h x y) (b*m) (b*m)):=by
 have hb8:b≤8:=Nat.le_trans (Nat.le_mul_of_pos_right b (by omega)) hs
 have s0:rowsM h (b*m) (b*m)=rowsM (fun x y=>if (b*k≤y∧y < b*k+b)∧x < b*0 then blkF ch b g x y else h x y) (b*m) (b*m):=aW fun x y _ _=>by rw[if_neg (by omega)]
 have ek:(0:Int)+(b:Int)*(k:Nat)=((b*k:Nat):Int):=by rw[Int.natCast_mul];omega
 rw[s0,ek]
 refine cY (fun n:Nat=>D.int (0+(b:Int)*(n:Nat))) (fun j=>rowsM (fun x y=>if (b*k≤y∧y < b*k+b)∧x < b*j then blkF ch b g x y else h x y) (b*m) (b*m)) m fun j hj=>?_
 have ej:(0:Int)+(b:Int)*(j:Nat)=((b*j:Nat):Int):=by rw[Int.natCast_mul];omega
 have k1:b*k+b≤b*m:=by rw[← Nat.mul_succ];exact Nat.mul_le_mul_left b hk
 have j1:b*j+b≤b*m:=by rw[← Nat.mul_succ];exact Nat.mul_le_mul_left b hj
 have rb:=dD (s:=b*b) (by have:=Nat.mul_le_mul hb8 hb8;omega)
 have bb:dMul (.int (b:Int)) (.int (b:Int))=.ok (.int ((b*b:Nat):Int)):=by rw[bX (.inr ⟨by omega,by omega⟩),Int.natCast_mul]
 unfold ft
 rw[ej,vD g hs k1 j1,R.bind_ok,sX c (sh g (b*j) (b*k)) hb hb8 (fun x y hx hy=>hw _ _ (by omega) (by omega)) hn,aG,bb,R.bind_ok,rb,aG,vC _ hb hb8 j1 k1,bP]
 refine congrArg L.nx ?_
 refine aW fun x y hx hy=>?_
 unfold fillF
 by_cases q:Bx.has ⟨b*j,b*k,b,b⟩ x y
 ·obtain⟨q1,q2⟩:=q
  have q1':b*j≤x∧x < b*j+b:=q1
  have q2':b*k≤y∧y < b*k+b:=q2
  rw[if_pos ⟨q1,q2⟩,if_pos ⟨q2',by rw[Nat.mul_succ];omega⟩]
  show ch _=ch (vals (sh g (bA x b) (bA y b)) b b)
  rw[qH q1'.1 q1'.2,qH q2'.1 q2'.2]
 ·rw[if_neg q]
  dsimp only
  by_cases c1:(b*k≤y∧y < b*k+b)∧x < b*j
  ·rw[if_pos c1,if_pos ⟨c1.1,by rw[Nat.mul_succ];omega⟩]
  ·rw[if_neg c1,if_neg]
   intro c2
   rw[Nat.mul_succ]at c2
   by_cases z:x < b*j
   ·exact c1 ⟨c2.1,z⟩
   ·exact q ⟨⟨by show b*j≤x;omega,by show x < b*j+b;omega⟩,c2.1⟩
theorem yR {sz k:Nat}(c:Ch r i ch)(h3:sz≤3)(hk:k≤4)(hw:Wo g sz){n:Nat}(hn:6≤n):pf n F.aZ [rowsT .int g (2^sz) (2^sz),.int (k:Int),.str r]=.ok (picD sz (T (blkF ch (2^(sz - k)) g) sz)):=by
 obtain⟨n,rfl,hn⟩:=ex1 (show 5+1≤n by omega)
 have h8:=p8 h3
 have hb:=pos2 (sz - k)
 have hs:(2^sz:Nat)=2^(sz - k)*2^(min sz k):=dG
 have ln:dLen [rowsT .int g (2^sz) (2^sz)]=.ok (.int ((2^sz:Nat):Int)):=by unfold rowsT;rw[cU];simp
 have sd:(((R.ok (D.int ((2^sz:Nat):Int))).bind fun x=>(dIx (.lst [(.int 1),(.int 2),(.int 4),(.int 8),(.int 8)]) (.int (k:Int))).bind fun x1=>dDiv x x1).bind fun x2=>dMax2 [(.int 1),x2])=.ok (.int ((2^(sz - k):Nat):Int)):=by
  rcases jT h3 with rfl | rfl | rfl | rfl<;>rcases(show k=0∨k=1∨k=2∨k=3∨k=4 by omega) with rfl | rfl | rfl | rfl | rfl<;>rfl
 have sqr:sq (rowsT .int g (2^sz) (2^sz))=.ok ((List.range (2^sz)).map fun y=>rowT .int g (2^sz) y):=eF (by simp;omega)
 have lo:=xE (n:=n) (blkF ch (2^(sz - k)) g) h3 (by omega)
 rw[uI,iW,ln,sd,aG,sqr,R.bind_ok,lz g (2^sz) (List.range (2^sz)),aG,R.bind_ok]
 rw[show ((List.range (2^sz)).map fun y=>(List.range (2^sz)).map fun x=>D.int (g x y))=rowsM g (2^sz) (2^sz) from rfl]
 generalize 2^(sz - k)=b at *
 generalize 2^(min sz k)=m at *
 have hw':∀ x y,x < b*m→y < b*m→W9 (g x y):=by rw[← hs];exact hw
 rw[hs]at h8 ln lo ⊢
 have hbm:b≤b*m∨m=0:=by
  by_cases z:m=0
  ·exact .inr z
  ·exact .inl (Nat.le_mul_of_pos_right b (by omega))
 have hm0:m≠0:=fun z=>by rw[z,Nat.mul_zero]at hs;have:=pos2 sz;omega
 have hb8:b≤8:=by rcases hbm with z | z;omega;exact absurd z hm0
 have rg:=xn (b:=b) (m:=m) hb (by omega) (by omega)
 have lp:lFor (τ:=List (List D)) (fun s x=>fu (pf n) (rowsT .int g (b*m) (b*m)) (.str r) (.int (b:Int)) s x) ((List.range m).map fun n:Nat=>D.int (0+(b:Int)*(n:Nat))) (rowsM g (b*m) (b*m))=.nx (rowsM (blkF ch b g) (b*m) (b*m)):=by
  have s0:rowsM g (b*m) (b*m)=rowsM (fun x y=>if y < b*0 then blkF ch b g x y else g x y) (b*m) (b*m):=aW fun x y _ _=>by rw[if_neg (by omega)]
  have s1:rowsM (blkF ch b g) (b*m) (b*m)=rowsM (fun x y=>if y < b*m then blkF ch b g x y else g x y) (b*m) (b*m):=aW fun x y _ hy=>by rw[if_pos hy]
  rw[s0,s1]
  refine cY (fun n:Nat=>D.int (0+(b:Int)*(n:Nat))) (fun k=>rowsM (fun x y=>if y < b*k then blkF ch b g x y else g x y) (b*m) (b*m)) m fun k hk=>?_
  unfold fu
  rw[ln,R.bind_ok,rg,aG,sZ c hb h8 hw' (by omega) _ hk,bP]
  refine congrArg L.nx ?_
  refine aW fun x y hx hy=>?_
  rw[Nat.mul_succ]
  by_cases z:y < b*k
  ·rw[if_neg (by omega),if_pos z,if_pos (by omega)]
  ·by_cases z2:y < b*k+b
   ·rw[if_pos ⟨⟨by omega,z2⟩,hx⟩,if_pos z2]
   ·rw[if_neg (by omega),if_neg z,if_neg z2]
 rw[rg,aG,lp,bP,xj _ (by omega),R.bind_ok,lo]
 rfl
theorem gH (c:Ch r i ch):∀ (n k:Nat) (g:Nat→Nat→Int) (m:Nat),n≤3→Wo g n→n+12≤m→pf m F.ai [.int (n:Int),(T g n).d .int,.int (k:Int),.fn i]=.ok ((T (blkF ch (2^(n - k)) g) n).d .int)
 | 0,k,g,m,h3,hw,hm=>by
  obtain⟨m,rfl,hm⟩:=ex1 (show 11+1≤m by omega)
  have e:T (blkF ch (2^(0 - k)) g) 0=.lf (g 0 0):=by
   show Q.lf _=_
   rw[show (2^(0 - k):Nat)=1 by simp,c.pick.one]
  rw[e,cf,bh,show dIsA qTup ((T g 0).d .int)=.ok (.bl false) from mK En.int _]
  rfl
 | n+1,k,g,m,h3,hw,hm=>by
  obtain⟨m,rfl,hm⟩:=ex1 (show n+12+1≤m by omega)
  by_cases hc:∀ x y,x < 2^(n+1)→y < 2^(n+1)→g x y=g 0 0
  ·rw[gE hc,gE (c.pick.seen_const (k:=k) hc),cf,bh,show dIsA qTup ((Q.lf (g 0 0)).d .int)=.ok (.bl false) from mK En.int _]
   rfl
  ·have sh1:Sh (n+1) g (T g (n+1)):=sh_T h3 hw
   have ct:=sh1.counts (n:=m) (by omega)
   have hT:dIsA qTup ((T g (n+1)).d .int)=.ok (.bl true):=by
    rw[T_nd hc];exact mK En.int _
   cases k with
   | zero =>
    have hv:∀ v∈vals g (2^(n+1)) (2^(n+1)),W9 v:=fun v hv=>by obtain⟨x,y,hx,hy,rfl⟩:=a8.mp hv;exact hw x y hx hy
    have fe:onF fvL (.fn i) (fun i=>(pf m F.aQ [.tup [.int ((n+1:Nat):Int),(T g (n+1)).d .int]]).bind fun x=>pf m i [x])=.ok (.int (ch (vals g (2^(n+1)) (2^(n+1))))):=by
     show (if fvL.contains i=true then _ else _)=_
     rw[if_pos c.fv,show D.tup [.int ((n+1:Nat):Int),(T g (n+1)).d .int]=picD (n+1) (T g (n+1)) from rfl,ct,R.bind_ok,c.run (by omega) (dF (pos2 _)) hv]
    rw[gE (lA ch (n+1) g),cf,bh,hT,show dEq (.int ((0:Nat):Int)) (.int 0)=.ok (.bl true) from rfl,fe]
    rfl
   | succ k =>
    have d:=bM n
    have w1:Wo g n:=fun x y hx hy=>hw x y (by omega) (by omega)
    have w2:Wo (sh g (2^n) 0) n:=fun x y hx hy=>hw _ _ (by omega) (by omega)
    have w3:Wo (sh g 0 (2^n)) n:=fun x y hx hy=>hw _ _ (by omega) (by omega)
    have w4:Wo (sh g (2^n) (2^n)) n:=fun x y hx hy=>hw _ _ (by omega) (by omega)
    have i1:=gH c n k g m (by omega) w1 (by omega)
    have i2:=gH c n k _ m (by omega) w2 (by omega)
    have i3:=gH c n k _ m (by omega) w3 (by omega)
    have i4:=gH c n k _ m (by omega) w4 (by omega)
    have e1:dSub (.int ((n+1:Nat):Int)) (.int 1)=.ok (.int (n:Int)):=by rw[bW];congr 2;omega
    have e2:dSub (.int ((k+1:Nat):Int)) (.int 1)=.ok (.int (k:Int)):=by rw[bW];congr 2;omega
    have e3:dEq (.int ((k+1:Nat):Int)) (.int 0)=.ok (.bl false):=by rw[iY,decide_eq_false (by omega)]
    have st:∀ {q:Q Int} {d':D},pf m F.ai [.int (n:Int),q.d .int,.int (k:Int),.fn i]=.ok d'→((dSub (.int ((n+1:Nat):Int)) (.int 1)).bind fun x1=>(dSub (.int ((k+1:Nat):Int)) (.int 1)).bind fun x2=>pf m F.ai [x1,q.d .int,x2,.fn i])=.ok d':=fun h=>by rw[e1,R.bind_ok,e2,R.bind_ok,h]
    have dd:∀ f:Nat→Nat→Int,(T f n).dep≤50:=fun f=>Nat.le_trans (gu n f) (by omega)
    have pt:=uW En.int (n:=m) (by omega) (dd (blkF ch (2^(n - k)) g)) (dd (blkF ch (2^(n - k)) (sh g (2^n) 0))) (dd (blkF ch (2^(n - k)) (sh g 0 (2^n)))) (dd (blkF ch (2^(n - k)) (sh g (2^n) (2^n))))
    rw[j7,cf,bh,hT,bg,fR,aG,if_neg (by decide),bP,e3,bg,aG,if_neg (by decide),bP,T_nd hc]
    rw[show (Q.nd (T g n) (T (sh g (2^n) 0) n) (T (sh g 0 (2^n)) n) (T (sh g (2^n) (2^n)) n)).d D.int=.tup [(T g n).d .int,(T (sh g (2^n) 0) n).d .int,(T (sh g 0 (2^n)) n).d .int,(T (sh g (2^n) (2^n)) n).d .int] from rfl,sq4,R.bind_ok,cMap4 (st i1) (st i2) (st i3) (st i4),R.bind_ok,jL,R.bind_ok,pt]
    rfl
theorem Sh.seen {sz:Nat}{t:Q Int}(c:Ch r i ch)(q:Sh sz g t)(k:Nat){n:Nat}(hn:17≤n):pf n F.ad [picD sz t,.int (k:Int),.str r]=.ok (picD sz (T (blkF ch (2^(sz - k)) g) sz)):=by
 obtain⟨n,rfl,hn⟩:=ex1 (show 16+1≤n by omega)
 obtain⟨n,rfl,hn⟩:=ex1 (show 15+1≤n by omega)
 have h3:=q.p.h3
 have ck:pf n F.ax [.str r,tabK b6]=.ok .non:=by
  obtain⟨n,rfl,hn⟩:=ex1 (show 14+1≤n by omega)
  rw[cL,bo,c.chk];rfl
 have sf:pf (n+1) F.aj [picD sz t,.int (k:Int),.str r]=.ok (picD sz (T (blkF ch (2^(sz - k)) g) sz)):=by
  rw[dl,bD,ck,aG,q.lean (by omega),aG,show dIx (picD sz (T g sz)) (.int 0)=.ok (.int (sz:Int)) from rfl,show dIx (picD sz (T g sz)) (.int 1)=.ok ((T g sz).d .int) from rfl,R.bind_ok,R.bind_ok,R.bind_ok,c.tab,R.bind_ok,gH c sz k g n h3 q.wo (by omega)]
  rfl
 rw[gY,d5,sf]
 rfl
end
theorem ke:∀ (t:Q Int) (m:Nat),t.dep+1≤m→pf m F.aH [t.d .int]=.ok (.int (t.dep:Int))
 | .lf v,m,hm=>by
  obtain⟨m,rfl,hm⟩:=ex1 (show 0+1≤m by omega)
  rw[iu,cq];rfl
 | .nd a b c d,m,hm=>by
  obtain⟨m,rfl,hm'⟩:=ex1 (show 0+1≤m by omega)
  have hd:(Q.nd a b c d).dep=1+max (max a.dep b.dep) (max c.dep d.dep):=rfl
  have ia:=ke a m (by omega);have ib:=ke b m (by omega);have ic:=ke c m (by omega);have id:=ke d m (by omega)
  have mx:dMaxL [.lst [.int (a.dep:Int),.int (b.dep:Int),.int (c.dep:Int),.int (d.dep:Int)]]=.ok (.int ((max (max a.dep b.dep) (max c.dep d.dep):Nat):Int)):=by
   have:=og (l:=[(a.dep:Int),(b.dep:Int),(c.dep:Int),(d.dep:Int)]) (by simp)
   rw[show ([(a.dep:Int),(b.dep:Int),(c.dep:Int),(d.dep:Int)]).map D.int=[.int (a.dep:Int),.int (b.dep:Int),.int (c.dep:Int),.int (d.dep:Int)] from rfl]at this
   rw[this]
   congr 2
   apply mI
   ·simp only[List.mem_cons,List.not_mem_nil,or_false];omega
   ·intro x hx;simp only[List.mem_cons,List.not_mem_nil,or_false]at hx;omega
  rw[iu,cq,show (Q.nd a b c d).d D.int=.tup [a.d .int,b.d .int,c.d .int,d.d .int] from rfl,show dIsA qTup (.tup [a.d .int,b.d .int,c.d .int,d.d .int])=.ok (.bl true) from rfl,bg,fR,aG,if_neg (by decide),bP,sq4,R.bind_ok,cMap4 ia ib ic id,R.bind_ok,mx,R.bind_ok,aJ,hd]
  show R.ok (D.int _)=R.ok (D.int _)
  congr 2
theorem Sh.deep {sz:Nat}{g:Nat→Nat→Int}{t:Q Int}(q:Sh sz g t){n:Nat}(hn:11≤n):pf n F.a0 [picD sz t]=.ok (.int ((T g sz).dep:Int)):=by
 obtain⟨n,rfl,hn⟩:=ex1 (show 10+1≤n by omega)
 rw[wD,l5,q.lean (by omega),R.bind_ok,show dIx (picD sz (T g sz)) (.int 1)=.ok ((T g sz).d .int) from rfl,R.bind_ok,ke _ n (by have:=gu sz g;have:=q.p.h3;omega)]
 rfl
theorem pQ (n l:Nat)(g:Nat→Nat→Int){x y:Nat}(hx:x < 2^n)(hy:y < 2^n):blkF minL (2^(n - l)) (blkF minL (2^(n - (l+1))) g) x y=blkF minL (2^(n - l)) g x y:=by
 have hB:=pos2 (n - l)
 have hb:=pos2 (n - (l+1))
 obtain⟨q,hq⟩:∃ q,(2^(n - l):Nat)=2^(n - (l+1))*q:=by
  by_cases h:l+1≤n
  ·exact⟨2,by rw[show n - l=(n - (l+1))+1 by omega,Nat.pow_succ]⟩
  ·exact⟨1,by rw[show n - l=n - (l+1) by omega,Nat.mul_one]⟩
 generalize 2^(n - l)=B at *
 generalize 2^(n - (l+1))=b at *
 obtain⟨i,ei⟩:=j6 (x:=x) (b:=B)
 obtain⟨j,ej⟩:=j6 (x:=y) (b:=B)
 show minL (vals (sh (blkF minL b g) (bA x B) (bA y B)) B B)=minL (vals (sh g (bA x B) (bA y B)) B B)
 rw[ei,ej]
 have eI:B*i=b*(q*i):=by rw[hq,Nat.mul_assoc]
 have eJ:B*j=b*(q*j):=by rw[hq,Nat.mul_assoc]
 obtain⟨m1,m2⟩:=bR (dF (g:=sh g (B*i) (B*j)) hB)
 have sub:∀ a c,a < B→c < B→b*(q*i)≤bA (a+B*i) b∧bA (a+B*i) b+b≤B*i+B∧b*(q*j)≤bA (c+B*j) b∧bA (c+B*j) b+b≤B*j+B:=fun a c ha hc=>by
  have h1:=iD (x:=a+B*i) (b:=b) (k:=q*i) (m:=q) hb (by omega) (by rw[← eI,← hq];omega)
  have h2:=iD (x:=c+B*j) (b:=b) (k:=q*j) (m:=q) hb (by omega) (by rw[← eJ,← hq];omega)
  rw[← eI,← hq]at h1
  rw[← eJ,← hq]at h2
  rw[← eI,← eJ]
  exact⟨h1.1,h1.2,h2.1,h2.2⟩
 have low:∀ a c,a < B→c < B→minL (vals (sh g (B*i) (B*j)) B B)≤sh (blkF minL b g) (B*i) (B*j) a c:=fun a c ha hc=>by
  obtain⟨s1,s2,s3,s4⟩:=sub a c ha hc
  obtain⟨x',y',h1,h2,e⟩:=a8.mp (bR (dF (g:=sh g (bA (a+B*i) b) (bA (c+B*j) b)) hb)).1
  show _≤minL (vals (sh g (bA (a+B*i) b) (bA (c+B*j) b)) b b)
  rw[e]
  refine m2 _ (a8.mpr ⟨x'+bA (a+B*i) b - B*i,y'+bA (c+B*j) b - B*j,by omega,by omega,?_⟩)
  show g _ _=g _ _
  congr 1<;>omega
 apply mH
 ·obtain⟨a,c,ha,hc,e⟩:=a8.mp m1
  refine a8.mpr ⟨a,c,ha,hc,Int.le_antisymm (low a c ha hc) ?_⟩
  rw[e]
  show minL (vals (sh g (bA (a+B*i) b) (bA (c+B*j) b)) b b)≤g (a+B*i) (c+B*j)
  have b1:=ou (a+B*i) b
  have b2:=oy (x:=a+B*i) hb
  have b3:=ou (c+B*j) b
  have b4:=oy (x:=c+B*j) hb
  refine(bR (dF (g:=sh g (bA (a+B*i) b) (bA (c+B*j) b)) hb)).2 _ (a8.mpr ⟨a+B*i - bA (a+B*i) b,c+B*j - bA (c+B*j) b,by omega,by omega,?_⟩)
  show g _ _=g _ _
  congr 1<;>omega
 ·intro v hv
  obtain⟨a,c,ha,hc,rfl⟩:=a8.mp hv
  exact low a c ha hc
theorem rule3 {j:Int}(h0:0≤j)(h1:j < 3):∃ r i ch,Ch r i ch∧dIx (.lst [(.str "most"),(.str "least"),(.str "greatest")]) (.int j)=.ok (.str r):=by
 rcases(show j=0∨j=1∨j=2 by omega) with rfl | rfl | rfl
 ·exact⟨_,_,_,qL,rfl⟩
 ·exact⟨_,_,_,gG,rfl⟩
 ·exact⟨_,_,_,vB,rfl⟩
theorem word4' {j:Int}(h0:0≤j)(h1:j < 4):∃ w,dIx (.lst [(.str ""),(.str "Most"),(.str "sum"),(.str "first")]) (.int j)=.ok (.str w)∧dNotInD (.str w) (tabK b6)=.ok (.bl true):=by
 rcases(show j=0∨j=1∨j=2∨j=3 by omega) with rfl | rfl | rfl | rfl
 ·exact⟨_,rfl,rfl⟩
 ·exact⟨_,rfl,rfl⟩
 ·exact⟨_,rfl,rfl⟩
 ·exact⟨_,rfl,rfl⟩
theorem qM (t:Nat→List D→R D)(a b c:D):d5 t a b c=tw t (t F.aj [a,b,c]):=rfl
theorem iF {a b:D}{w:PySem.Str}(h:dNotInD (.str w) (tabK b6)=.ok (.bl true)):pf 39 F.ad [a,b,.str w]=.ok (.str "no rule"):=by
 have e:pf 38 F.aj [a,b,.str w]=.err 5:=by
  rw[dl,bD,cL,bo,h];rfl
 rw[gY,qM,e,vm (by decide) (word5 (m:=38) (by decide))]
theorem xo {sz:Nat}{g:Nat→Nat→Int}{t:Q Int}(q:Sh sz g t)(ns:List Int)(k:Nat):ce (pf 39) (scr ns) (picD sz t) (rowsT .int g (2^sz) (2^sz)) (.int (k:Int))=.nx ():=by
 have h3:=q.p.h3
 have p1:=dB (n:=39) (by decide) ns (5000+k) (a:=5000+(k:Int)) (m:=5) (by omega) (by decide)
 have p2:=dB (n:=39) (by decide) ns (5010+k) (a:=5010+(k:Int)) (m:=3) (by omega) (by decide)
 have p3:=dB (n:=39) (by decide) ns (5020+k) (a:=5020+(k:Int)) (m:=8) (by omega) (by decide)
 have a0:=eG (ns:=ns) (k:=5000+k) (m:=5) (by decide)
 have a1:=ff (ns:=ns) (k:=5000+k) (m:=5) (by decide)
 have c0:=eG (ns:=ns) (k:=5020+k) (m:=8) (by decide)
 have c1:=ff (ns:=ns) (k:=5020+k) (m:=8) (by decide)
 obtain⟨r,i,ch,c,er⟩:=rule3 (eG (ns:=ns) (k:=5010+k) (m:=3) (by decide)) (ff (ns:=ns) (k:=5010+k) (m:=3) (by decide))
 obtain⟨f,hf⟩:∃ a:Nat,pk ns (5000+k) 5=(a:Int):=⟨(pk ns (5000+k) 5).toNat,by omega⟩
 obtain⟨w,hw⟩:∃ a:Nat,pk ns (5020+k) 8=(a:Int):=⟨(pk ns (5020+k) 8).toNat,by omega⟩
 rw[hf]at p1 a1
 rw[hw]at p3 c1
 have f4:f≤4:=by omega
 have w8:w < 8:=by omega
 have hb:=pos2 (sz - f)
 have hs:(2^sz:Nat)=2^(sz - f)*2^(min sz f):=dG
 have se:=q.seen c f (n:=39) (by decide)
 have fa:=yR c h3 f4 q.wo (n:=39) (by decide)
 have qs:Sh sz (blkF ch (2^(sz - f)) g) (T (blkF ch (2^(sz - f)) g) sz):=sh_T h3 (c.pick.wo hb hs q.wo)
 have dp:=qs.deep (n:=39) (by decide)
 have dle:=c.pick.dep sz f g
 have se2:=qs.seen c f (n:=39) (by decide)
 rw[aI sz _ _ fun x y _ _=>c.pick.again hb g x y]at se2
 have bw:=q.byway (n:=39) (by decide) w8
 have se3:=(q.way w).seen c f (n:=39) (by decide)
 have bw2:=qs.byway (n:=39) (by decide) w8
 rw[aI sz (blkF ch (2^(sz - f)) (mWay (2^sz) w g)) (mWay (2^sz) w (blkF ch (2^(sz - f)) g)) fun x y hx hy=>by
  rw[hs]at hx hy ⊢
  exact c.pick.way hb g w hx hy]at se3
 have dq:=q.deep (n:=39) (by decide)
 have lo:=xE (n:=39) g h3 (by decide)
 have g1:=qs.p.g60
 have g2:=(qs.way w).p.g60
 have gt:dGt (.int ((T (blkF ch (2^(sz - f)) g) sz).dep:Int)) (.int (f:Int))=.ok (.bl false):=by rw[mG,decide_eq_false (by omega)]
 have last:rAnd (asB ((R.ok (D.int ((T g sz).dep:Int))).bind fun x11=>dGe (.int (f:Int)) x11)) (asB ((R.ok (picD sz (T g sz))).bind fun x10=>dNf (picD sz (T (blkF ch (2^(sz - f)) g) sz)) x10))=.ok false:=by
  rw[R.bind_ok,R.bind_ok,qw,bg]
  by_cases h:(T g sz).dep≤f
  ·rw[decide_eq_true (by omega),aI sz _ _ (c.pick.whole sz f g h),eN (sh_T h3 q.wo).p.g60];rfl
  ·rw[decide_eq_false (by omega)];rfl
 unfold ce
 rw[aJ,R.bind_ok,p1,aG,aJ,R.bind_ok,p2,R.bind_ok,er,aG,se,aG,fa,R.bind_ok,eN g1,dp,R.bind_ok,gt,se2,R.bind_ok,eN g1,bg,ii,ii,Bool.or_self,Bool.or_self,aG,if_neg (by decide),bP,aJ,R.bind_ok,p3,aG,bw,R.bind_ok,se3,R.bind_ok,bw2,R.bind_ok,eN g2,bg,aG,if_neg (by decide),bP,dq,lo,last,aG]
 rfl
theorem kL (ns:List Int):pf 40 F.aG [.lst (ns.map .int)]=.ok (.bl true):=by
 obtain⟨sz,t,_,p,hp⟩:=wU ns 0 3 39 (by decide) (by decide)
 have hp':pf 39 F.aF [scr ns,.int 0,.int 3]=.ok (picD sz t):=hp
 have q:=p.sh
 have h3:=p.h3
 generalize t.at sz=g at *
 have lr:=q.lrows (n:=39) (by decide)
 have r3:rng1 [.int 3]=.ok ((List.range 3).map fun i=>D.int ((i:Nat):Int)):=dD (s:=3) (by decide)
 have lp:=oi (f:=fun _ x=>ce (pf 39) (scr ns) (picD sz t) (rowsT .int g (2^sz) (2^sz)) x) ((List.range 3).map fun i=>D.int ((i:Nat):Int)) (fun d hd=>by
  obtain⟨k,_,rfl⟩:=List.mem_map.1 hd
  exact xo q ns k)
 have p1:pf 39 F.aa [scr ns,.int 5030,.int 4]=.ok (.int (pk ns 5030 4)):=eY (n:=39) (by decide) ns 5030 (m:=4) (by decide)
 have a0:=eG (ns:=ns) (k:=5030) (m:=4) (by decide)
 obtain⟨l,hl⟩:∃ a:Nat,pk ns 5030 4=(a:Int):=⟨(pk ns 5030 4).toNat,by omega⟩
 rw[hl]at p1
 have l1:dAdd (.int (l:Int)) (.int 1)=.ok (.int ((l+1:Nat):Int)):=by rw[aJ];congr 2
 have qs:Sh sz (blkF minL (2^(sz - (l+1))) g) (T (blkF minL (2^(sz - (l+1))) g) sz):=sh_T h3 (fH.wo (pos2 _) dG q.wo)
 have s1:=q.seen gG (l+1) (n:=39) (by decide)
 have s2:=qs.seen gG l (n:=39) (by decide)
 rw[aI sz _ _ fun x y hx hy=>pQ sz l g hx hy]at s2
 have s3:=q.seen gG l (n:=39) (by decide)
 have g3:=(sh_T h3 (fH.wo (pos2 (sz - l)) (dG (k:=l)) q.wo)).p.g60
 have p2:pf 39 F.aa [scr ns,.int 5031,.int 4]=.ok (.int (pk ns 5031 4)):=eY (n:=39) (by decide) ns 5031 (m:=4) (by decide)
 obtain⟨w,ew,nw⟩:=word4' (eG (ns:=ns) (k:=5031) (m:=4) (by decide)) (ff (ns:=ns) (k:=5031) (m:=4) (by decide))
 obtain⟨bad,tb',eb⟩:=sO (w:=5) (n:=4) (by decide) (by decide) (by decide) (by decide) p.th (m:=39) (by decide) ns 5100
 have eb':pf 39 F.ae [scr ns,.int 5100,picD sz t]=.ok bad:=eb
 have iq:=lx (w:=5) (by decide) (n:=4) tb' (m:=39) (by decide) (by decide)
 have n1:=iF (a:=picD sz t) (b:=.int 1) nw
 have n2:=iF (a:=bad) (b:=.int 1) nw
 have BAD:vOr (pf 39 F.an [bad]) ((pf 39 F.ad [bad,(.int 1),(.str "most")]).bind fun x20=>dEq x20 (.str "no picture"))=.ok (.bl true):=by
  rw[iq]
  cases c4:sizedOk (inTo 9) 4 bad with
  | true=>rfl
  | false =>
   have h1:=lx (w:=5) (by decide) (n:=5) (u8 (Nat.le_refl 5) tb' (show 5≤6 by decide)) (m:=39) (by decide) (by decide)
   rw[iq,c4]at h1
   have cb:=sQ (n:=5) (m:=36) (by decide) tb' (by decide) (D.bl.inj (R.ok.inj h1)).symm
   have ck:pf 37 F.ax [.str "most",tabK b6]=.ok .non:=by rw[cL,bo,qL.chk];rfl
   have e:pf 38 F.aj [bad,.int 1,.str "most"]=.err 1:=by
    rw[dl,bD,ck,aG,vj cb];rfl
   have z:pf 39 F.ad [bad,.int 1,.str "most"]=.ok (.str "no picture"):=by
    rw[gY,qM,e,vm (by decide) (word1 (m:=38) (by decide))]
   rw[z];rfl
 rw[show D.lst (ns.map .int)=scr ns from rfl,pp,eX,hp',aG,lr,aG,r3,aG,lp,bP,p1,aG,l1,R.bind_ok,s1,R.bind_ok,s2,R.bind_ok,s3,R.bind_ok,eN g3,bg,aG,if_neg (by decide),bP,p2,R.bind_ok,ew,aG,eb',aG,n1,R.bind_ok,vk,n2,R.bind_ok,vk,bg,ii,Bool.or_self,aG,if_neg (by decide),bP,BAD]
 rfl
end Lw
end
end
noncomputable section
set_option maxHeartbeats 4000000
namespace Lw
open PySem PySem.Spec PyProof.Rows L2 FF
def cname:Nat→Str
 | 0 => "FourError"
 | 1 => "NoPicture"
 | 2 => "NoSpot"
 | 3 => "BadBox"
 | 4 => "Unlike"
 | 5 => "NoRule"
 | 6 => "NoBlocks"
 | 7 => "NoChange"
 | 8 => "NoNumber"
 | 9 => "NothingDone"
 | 10 => "NoText"
 | 21 => "is_worth"
 | 293 => "most_met"
 | 294 => "least_met"
 | 295 => "greatest_met"
 | _ => "?"
def Cof (K:PySem.W.Frag)(i:Nat):Addr:=match PySem.W.nsIn K mainGlobals (cname i) with
 | some (some (.ref a))=>a
 | _=>0
theorem cof {K:PySem.W.Frag}{i:Nat}{x:Str}{a:Addr}(h:Ng K x (some (.ref a)))(hx:cname i=x:=by rfl):Cof K i=a:=by unfold Cof;rw[hx,h]
structure Fds (K:PySem.W.Frag)(mg:Str→Option Value):Prop where
 F20:Fd K mg "is_whole" ["thing"] fw
 F21:Fd K mg "is_worth" ["thing"] fz
 F22:Fd K mg "is_size" ["thing"] gZ
 F23:Fd K mg "is_tree" ["size","thing","is_end"] g5
 F24:Fd K mg "is_sized_tree" ["thing","is_end"] bZ
 F25:Fd K mg "put_together" ["four"] cw
 F26:Fd K mg "lean_tree" ["tree"] d6
 F43:Fd K mg "worth_in" ["tree","side","x","y"] fA
 F93:Fd K mg "depth_in" ["tree"] fB
 F27:Fd K mg "is_picture" ["thing"] dn
 F28:Fd K mg "check_picture" ["thing"] b5
 F45:Fd K mg "side_of" ["picture"] g8
 F49:Fd K mg "shown_row" ["picture","y"] d8
 F50:Fd K mg "shown_rows" ["picture"] dr
 F29:Fd K mg "lean" ["picture"] px
 F154:Fd K mg "check_word" ["thing","words"] du
 F96:Fd K mg "deep" ["picture"] pz
 F69:Fd K mg "moved_tree" ["tree","order"] dv
 F70:Fd K mg "moved" ["picture","order"] mh
 F125:Fd K mg "turned" ["picture"] jz
 F84:Fd K mg "mirrored" ["picture"] fC
 F127:Fd K mg "check_way" ["thing"] d9
 F128:Fd K mg "by_way" ["picture","way"] jA
 F72:Fd K mg "worths_of" ["rows"] eg
 F75:Fd K mg "counts" ["picture"] jB
 F292:Fd K mg "worths_met" ["many"] dA
 F293:Fd K mg "most_met" ["many"] fD
 F294:Fd K mg "least_met" ["many"] eh
 F295:Fd K mg "greatest_met" ["many"] cx
 F296:Fd K mg "seen_tree" ["size","tree","far","choose"] en
 F297:Fd K mg "seen_from" ["picture","far","rule"] et
 F30:Fd K mg "_law_cell" ["_law_script","_law_k"] jC
 F31:Fd K mg "_law_pick" ["_law_script","_law_k","_law_many"] jD
 F32:Fd K mg "_law_tree" ["_law_script","_law_at","_law_size"] jE
 F33:Fd K mg "_law_picture" ["_law_script","_law_at","_law_most"] ez
 F54:Fd K mg "_law_rows_of" ["_law_size","_law_tree_here"] eB
 F55:Fd K mg "_law_rows" ["_law_picture_here"] jF
 F56:Fd K mg "_law_least" ["_law_rows_here"] g9
 F57:Fd K mg "_law_of" ["_law_rows_here"] pA
 F34:Fd K mg "_law_places" ["_law_thing"] fE
 F35:Fd K mg "_law_put" ["_law_thing","_law_place","_law_new"] mm
 F36:Fd K mg "_law_there" ["_law_thing","_law_place"] hG
 F37:Fd K mg "_law_spoilt_thing" ["_law_script","_law_at","_law_thing"] bQ
 F38:Fd K mg "_law_is_picture" ["_law_thing"] cy
 F39:Fd K mg "_law_is_tree" ["_law_thing","_law_size"] eE
 F40:Fd K mg "_law_word" ["_law_kept"] jG
 F298:Fd K mg "_law_seen" ["_law_picture_here","_law_many","_law_rule"] jH
 F299:Fd K mg "_law_worth" ["_law_rows_here","_law_rule"] hU
 F300:Fd K mg "_law_far" ["_law_rows_here","_law_many","_law_rule"] mo
 F301:Fd K mg "law" ["_law_script"] ba
theorem tab {P:Program}{w:World}{K:PySem.W.Frag}{mg:Str→Option Value}{base:Heap}{C:Nat→Addr}(T:Txt K mg C w.params)(S:Fds K mg):∀ n,Tab P w K mg base C n (pf n)
 | 0=>⟨g0 S.F20,g0 S.F21,g0 S.F22,g0 S.F23,g0 S.F24,g0 S.F25,g0 S.F26,g0 S.F43,g0 S.F93,g0 S.F27,g0 S.F28,g0 S.F45,g0 S.F49,g0 S.F50,g0 S.F29,g0 S.F154,g0 S.F96,g0 S.F69,g0 S.F70,g0 S.F125,g0 S.F84,g0 S.F127,g0 S.F128,g0 S.F72,g0 S.F75,g0 S.F292,g0 S.F293,g0 S.F294,g0 S.F295,g0 S.F296,g0 S.F297,g0 S.F30,g0 S.F31,g0 S.F32,g0 S.F33,g0 S.F54,g0 S.F55,g0 S.F56,g0 S.F57,g0 S.F34,g0 S.F35,g0 S.F36,g0 S.F37,g0 S.F38,g0 S.F39,g0 S.F40,g0 S.F298,g0 S.F299,g0 S.F300,g0 S.F301,
  fun i hi=>by
  simp only[fvL,List.mem_cons,List.not_mem_nil,or_false]at hi
  rcases hi with rfl | rfl | rfl | rfl
  ·exact qm S.F21 T.f_is_worth
  ·exact qm S.F293 T.f_most_met
  ·exact qm S.F294 T.f_least_met
  ·exact qm S.F295 T.f_greatest_met⟩
 | n+1=>by
  have G:=tab T S n (P:=P) (w:=w) (base:=base)
  exact⟨g1 S.F20 (nR T G),g1 S.F21 (iy T G),g1 S.F22 (pB T G),g1 S.F23 (pC T G),g1 S.F24 (hV T G),g1 S.F25 (iO T G),g1 S.F26 (mq T G),g1 S.F43 (nT T G),g1 S.F93 (nU T G),g1 S.F27 (kG T G),g1 S.F28 (hZ T G),g1 S.F45 (pE T G),g1 S.F49 (mr T G),g1 S.F50 (kH T G),g1 S.F29 (wI T G),g1 S.F154 (kI T G),g1 S.F96 (wJ T G),g1 S.F69 (kJ T G),g1 S.F70 (uJ T G),g1 S.F125 (su T G),g1 S.F84 (nV T G),g1 S.F127 (mw T G),g1 S.F128 (sv T G),g1 S.F72 (my T G),g1 S.F75 (sw T G),g1 S.F292 (kK T G),g1 S.F293 (iz T G),g1 S.F294 (gq T G),g1 S.F295 (dM T G),g1 S.F296 (mz T G),g1 S.F297 (mB T G),g1 S.F30 (sx T G),g1 S.F31 (sy T G),g1 S.F32 (sA T G),g1 S.F33 (mC T G),g1 S.F54 (mD T G),g1 S.F55 (sB T G),g1 S.F56 (pF T G),g1 S.F57 (wK T G),g1 S.F34 (nW T G),g1 S.F35 (uK T G),g1 S.F36 (pG T G),g1 S.F37 (gr T G),g1 S.F38 (iP T G),g1 S.F39 (mE T G),g1 S.F40 (sC T G),g1 S.F298 (sD T G),g1 S.F299 (pH T G),g1 S.F300 (uL T G),g1 S.F301 (jI T G),
  fun i hi=>by
  simp only[fvL,List.mem_cons,List.not_mem_nil,or_false]at hi
  rcases hi with rfl | rfl | rfl | rfl
  ·exact qo S.F21 T.f_is_worth (iy T G) (fun ds h=>qh h)
  ·exact qo S.F293 T.f_most_met (iz T G) (fun ds h=>qh h)
  ·exact qo S.F294 T.f_least_met (gq T G) (fun ds h=>qh h)
  ·exact qo S.F295 T.f_greatest_met (dM T G) (fun ds h=>qh h)⟩
theorem yS {l:PySem.W.OpenLaw}{w:World}{K:PySem.W.Frag}{h:Heap}{mg:Str→Option Value}{fa f1 f26 f27 f28 f49 C0 C1 C2 C3 C4 C5 C6 C7 C8 C9 C10:Addr}(X:K.In h)(G:h.Ns mainGlobals mg)(hfa:mg "law"=some (.ref fa))(S:Fds K mg)
  {od49 an49:Option Addr} {sl49:Array (Option Value)} {oc49 kV49 dc49 pm49 cd49 ct49:Value} {tk_GREATEST_WORTH tk_LARGEST_SIZE tk_TURNS tk_WAYS:Tok} {ta_BY_MIRRORING ta_BY_TURNING ta_SIDES:Addr} {tn_BY_MIRRORING tn_BY_TURNING tn_SIDES:Nat} {ts_BY_MIRRORING ts_BY_TURNING ts_SIDES:Array (Option Value)} {tt_BY_MIRRORING_0 tt_BY_MIRRORING_1 tt_BY_MIRRORING_2 tt_BY_MIRRORING_3 tt_BY_TURNING_0 tt_BY_TURNING_1 tt_BY_TURNING_2 tt_BY_TURNING_3 tt_SIDES_0 tt_SIDES_1 tt_SIDES_2 tt_SIDES_3:Tok} {td_VIEWS:Addr} {dn_VIEWS:Nat} {dt_VIEWS_0 dt_VIEWS_1 dt_VIEWS_2:Tok} {cl_NoPicture cl_NoSpot cl_BadBox cl_Unlike cl_NoRule cl_NoBlocks cl_NoChange cl_NoNumber cl_NothingDone cl_NoText:ClassData}
  (z0:Ng K "is_worth" (some (.ref f1)))
  (z1:Ng K "most_met" (some (.ref f26)))
  (z2:Ng K "least_met" (some (.ref f27)))
  (z3:Ng K "greatest_met" (some (.ref f28)))
  (z4:Ng K "law" (some (.ref f49)))
  (z5:K.lookup f49=some ⟨oc49,od49,.func (PySem.W.fnOf "law" "law" (defArgs ba) (defBody ba) (defScope ba) .none kV49 dc49 pm49 an49 cd49 ct49),sl49⟩)
  (z6:PySem.W.codeIn K cd49 "law"=true)
  (z7:PySem.W.keepIn K (.ref f49)=true)
  (z8:Ng K "ValueError" none)
  (z9:Ng K "all" none)
  (z10:Ng K "bool" none)
  (z11:Ng K "enumerate" none)
  (z12:Ng K "int" none)
  (z13:Ng K "isinstance" none)
  (z14:Ng K "len" none)
  (z15:Ng K "list" none)
  (z16:Ng K "max" none)
  (z17:Ng K "min" none)
  (z18:Ng K "range" none)
  (z19:Ng K "set" none)
  (z20:Ng K "tuple" none)
  (z21:Ng K "GREATEST_WORTH" (some (.int 9 tk_GREATEST_WORTH)))
  (z22:Ng K "LARGEST_SIZE" (some (.int 3 tk_LARGEST_SIZE)))
  (z23:Ng K "TURNS" (some (.int 4 tk_TURNS)))
  (z24:Ng K "WAYS" (some (.int 8 tk_WAYS)))
  (z25:Ng K "BY_MIRRORING" (some (.ref ta_BY_MIRRORING)))
  (z26:K.lookup ta_BY_MIRRORING=some ⟨.type "tuple",none,.seq #[.int 1 tt_BY_MIRRORING_0,.int 0 tt_BY_MIRRORING_1,.int 3 tt_BY_MIRRORING_2,.int 2 tt_BY_MIRRORING_3] tn_BY_MIRRORING,ts_BY_MIRRORING⟩)
  (z27:Ng K "BY_TURNING" (some (.ref ta_BY_TURNING)))
  (z28:K.lookup ta_BY_TURNING=some ⟨.type "tuple",none,.seq #[.int 2 tt_BY_TURNING_0,.int 0 tt_BY_TURNING_1,.int 3 tt_BY_TURNING_2,.int 1 tt_BY_TURNING_3] tn_BY_TURNING,ts_BY_TURNING⟩)
  (z29:Ng K "SIDES" (some (.ref ta_SIDES)))
  (z30:K.lookup ta_SIDES=some ⟨.type "tuple",none,.seq #[.int 1 tt_SIDES_0,.int 2 tt_SIDES_1,.int 4 tt_SIDES_2,.int 8 tt_SIDES_3] tn_SIDES,ts_SIDES⟩)
  (z31:Ng K "VIEWS" (some (.ref td_VIEWS)))
  (z32:K.lookup td_VIEWS=some ⟨.type "dict",none,.dict #[⟨PyData.keyHash w.params "most",.str "most" dt_VIEWS_0,.ref f26⟩,⟨PyData.keyHash w.params "least",.str "least" dt_VIEWS_1,.ref f27⟩,⟨PyData.keyHash w.params "greatest",.str "greatest" dt_VIEWS_2,.ref f28⟩] dn_VIEWS,#[]⟩)
  (z33:(td_VIEWS==sysModules)=false)
  (z34:Ng K "FourError" (some (.ref C0)))
  (z35:Ng K "NoPicture" (some (.ref C1)))
  (z36:Ng K "NoSpot" (some (.ref C2)))
  (z37:Ng K "BadBox" (some (.ref C3)))
  (z38:Ng K "Unlike" (some (.ref C4)))
  (z39:Ng K "NoRule" (some (.ref C5)))
  (z40:Ng K "NoBlocks" (some (.ref C6)))
  (z41:Ng K "NoChange" (some (.ref C7)))
  (z42:Ng K "NoNumber" (some (.ref C8)))
  (z43:Ng K "NothingDone" (some (.ref C9)))
  (z44:Ng K "NoText" (some (.ref C10)))
  (z45:PySem.W.excIn K C1 bmVE "ValueError.__new__"=true)
  (z46:PySem.W.excIn K C2 bmVE "ValueError.__new__"=true)
  (z47:PySem.W.excIn K C5 bmVE "ValueError.__new__"=true)
  (z48:PySem.W.excIn K C0 bmVE "ValueError.__new__"=true)
  (z49:PySem.W.clsIn K C1=some cl_NoPicture)
  (z50:PySem.W.typeIn K (.ref C1)=some (.type "type"))
  (z51:PySem.W.clsIn K C2=some cl_NoSpot)
  (z52:PySem.W.typeIn K (.ref C2)=some (.type "type"))
  (z53:PySem.W.clsIn K C3=some cl_BadBox)
  (z54:PySem.W.typeIn K (.ref C3)=some (.type "type"))
  (z55:PySem.W.clsIn K C4=some cl_Unlike)
  (z56:PySem.W.typeIn K (.ref C4)=some (.type "type"))
  (z57:PySem.W.clsIn K C5=some cl_NoRule)
  (z58:PySem.W.typeIn K (.ref C5)=some (.type "type"))
  (z59:PySem.W.clsIn K C6=some cl_NoBlocks)
  (z60:PySem.W.typeIn K (.ref C6)=some (.type "type"))
  (z61:PySem.W.clsIn K C7=some cl_NoChange)
  (z62:PySem.W.typeIn K (.ref C7)=some (.type "type"))
  (z63:PySem.W.clsIn K C8=some cl_NoNumber)
  (z64:PySem.W.typeIn K (.ref C8)=some (.type "type"))
  (z65:PySem.W.clsIn K C9=some cl_NothingDone)
  (z66:PySem.W.typeIn K (.ref C9)=some (.type "type"))
  (z67:PySem.W.clsIn K C10=some cl_NoText)
  (z68:PySem.W.typeIn K (.ref C10)=some (.type "type"))
  (z69:PySem.W.subIn K (.ref C1) (.ref C1)=some true)
  (z70:PySem.W.subIn K (.ref C1) (.ref C2)=some false)
  (z71:PySem.W.subIn K (.ref C1) (.ref C3)=some false)
  (z72:PySem.W.subIn K (.ref C1) (.ref C4)=some false)
  (z73:PySem.W.subIn K (.ref C1) (.ref C5)=some false)
  (z74:PySem.W.subIn K (.ref C1) (.ref C6)=some false)
  (z75:PySem.W.subIn K (.ref C1) (.ref C7)=some false)
  (z76:PySem.W.subIn K (.ref C1) (.ref C8)=some false)
  (z77:PySem.W.subIn K (.ref C1) (.ref C9)=some false)
  (z78:PySem.W.subIn K (.ref C1) (.ref C10)=some false)
  (z79:PySem.W.subIn K (.ref C1) (.ref C0)=some true)
  (z80:PySem.W.subIn K (.ref C1) (.type "ValueError")=some true)
  (z81:PySem.W.findIn K (.ref C1) "__getattribute__"=some (some (.builtin "BaseException.__getattribute__")))
  (z82:PySem.W.findIn K (.ref C1) "__getattr__"=some none)
  (z83:PySem.W.findIn K (.ref C1) "__class__"=some (some (.builtin "object.__class__")))
  (z84:PySem.W.subIn K (.ref C1) (.type "BaseException")=some true)
  (z85:PySem.W.subIn K (.ref C1) (.type "object")=some true)
  (z86:PySem.W.subIn K (.ref C2) (.ref C1)=some false)
  (z87:PySem.W.subIn K (.ref C2) (.ref C2)=some true)
  (z88:PySem.W.subIn K (.ref C2) (.ref C3)=some false)
  (z89:PySem.W.subIn K (.ref C2) (.ref C4)=some false)
  (z90:PySem.W.subIn K (.ref C2) (.ref C5)=some false)
  (z91:PySem.W.subIn K (.ref C2) (.ref C6)=some false)
  (z92:PySem.W.subIn K (.ref C2) (.ref C7)=some false)
  (z93:PySem.W.subIn K (.ref C2) (.ref C8)=some false)
  (z94:PySem.W.subIn K (.ref C2) (.ref C9)=some false)
  (z95:PySem.W.subIn K (.ref C2) (.ref C10)=some false)
  (z96:PySem.W.subIn K (.ref C2) (.ref C0)=some true)
  (z97:PySem.W.subIn K (.ref C2) (.type "ValueError")=some true)
  (z98:PySem.W.findIn K (.ref C2) "__getattribute__"=some (some (.builtin "BaseException.__getattribute__")))
  (z99:PySem.W.findIn K (.ref C2) "__getattr__"=some none)
  (z100:PySem.W.findIn K (.ref C2) "__class__"=some (some (.builtin "object.__class__")))
  (z101:PySem.W.subIn K (.ref C2) (.type "BaseException")=some true)
  (z102:PySem.W.subIn K (.ref C2) (.type "object")=some true)
  (z103:PySem.W.subIn K (.ref C5) (.ref C1)=some false)
  (z104:PySem.W.subIn K (.ref C5) (.ref C2)=some false)
  (z105:PySem.W.subIn K (.ref C5) (.ref C3)=some false)
  (z106:PySem.W.subIn K (.ref C5) (.ref C4)=some false)
  (z107:PySem.W.subIn K (.ref C5) (.ref C5)=some true)
  (z108:PySem.W.subIn K (.ref C5) (.ref C6)=some false)
  (z109:PySem.W.subIn K (.ref C5) (.ref C7)=some false)
  (z110:PySem.W.subIn K (.ref C5) (.ref C8)=some false)
  (z111:PySem.W.subIn K (.ref C5) (.ref C9)=some false)
  (z112:PySem.W.subIn K (.ref C5) (.ref C10)=some false)
  (z113:PySem.W.subIn K (.ref C5) (.ref C0)=some true)
  (z114:PySem.W.subIn K (.ref C5) (.type "ValueError")=some true)
  (z115:PySem.W.findIn K (.ref C5) "__getattribute__"=some (some (.builtin "BaseException.__getattribute__")))
  (z116:PySem.W.findIn K (.ref C5) "__getattr__"=some none)
  (z117:PySem.W.findIn K (.ref C5) "__class__"=some (some (.builtin "object.__class__")))
  (z118:PySem.W.subIn K (.ref C5) (.type "BaseException")=some true)
  (z119:PySem.W.subIn K (.ref C5) (.type "object")=some true) :
  ∃ fd:FuncData,(∀ (s:Shared) (v:Value),BindsTo s fd ⟨[v],[]⟩ [("_law_script",v)])∧∀ base:Heap,K.In base→base.Ns mainGlobals mg→FnOk l.prog w K mg base (CXE l.prog w) 40 fa fd ["_law_script"] (spF K (Cof K) 1 (pf 40 Lw.F.aG)):=by
 have e:=hfa.symm.trans (PySem.W.mg_of X G z4)
 cases e
 have q_FourError:Cof K 0=C0:=cof z34
 have q_NoPicture:Cof K 1=C1:=cof z35
 have q_NoSpot:Cof K 2=C2:=cof z36
 have q_BadBox:Cof K 3=C3:=cof z37
 have q_Unlike:Cof K 4=C4:=cof z38
 have q_NoRule:Cof K 5=C5:=cof z39
 have q_NoBlocks:Cof K 6=C6:=cof z40
 have q_NoChange:Cof K 7=C7:=cof z41
 have q_NoNumber:Cof K 8=C8:=cof z42
 have q_NothingDone:Cof K 9=C9:=cof z43
 have q_NoText:Cof K 10=C10:=cof z44
 have xk_NoPicture:ExcK K (Cof K 1):=by rw[q_NoPicture];exact⟨z81,z82,z83,z84,z85,by rw[z49];rfl⟩
 have xk_NoSpot:ExcK K (Cof K 2):=by rw[q_NoSpot];exact⟨z98,z99,z100,z101,z102,by rw[z51];rfl⟩
 have xk_NoRule:ExcK K (Cof K 5):=by rw[q_NoRule];exact⟨z115,z116,z117,z118,z119,by rw[z57];rfl⟩
 have T:Txt K mg (Cof K) w.params:=⟨PySem.W.mg_none_of X G z8,
  PySem.W.mg_none_of X G z9,
  PySem.W.mg_none_of X G z10,
  PySem.W.mg_none_of X G z11,
  PySem.W.mg_none_of X G z12,
  PySem.W.mg_none_of X G z13,
  PySem.W.mg_none_of X G z14,
  PySem.W.mg_none_of X G z15,
  PySem.W.mg_none_of X G z16,
  PySem.W.mg_none_of X G z17,
  PySem.W.mg_none_of X G z18,
  PySem.W.mg_none_of X G z19,
  PySem.W.mg_none_of X G z20,
  ⟨_,PySem.W.mg_of X G z21⟩,
  ⟨_,PySem.W.mg_of X G z22⟩,
  ⟨_,PySem.W.mg_of X G z23⟩,
  ⟨_,PySem.W.mg_of X G z24⟩,
  ⟨_,PySem.W.mg_of X G z25,_,_,_,z26,rfl,rfl,rfl,by show 4≤sizeLine;decide,(.cons ⟨_,rfl⟩ (.cons ⟨_,rfl⟩ (.cons ⟨_,rfl⟩ (.cons ⟨_,rfl⟩ .nil))))⟩,
  ⟨_,PySem.W.mg_of X G z27,_,_,_,z28,rfl,rfl,rfl,by show 4≤sizeLine;decide,(.cons ⟨_,rfl⟩ (.cons ⟨_,rfl⟩ (.cons ⟨_,rfl⟩ (.cons ⟨_,rfl⟩ .nil))))⟩,
  ⟨_,PySem.W.mg_of X G z29,_,_,_,z30,rfl,rfl,rfl,by show 4≤sizeLine;decide,(.cons ⟨_,rfl⟩ (.cons ⟨_,rfl⟩ (.cons ⟨_,rfl⟩ (.cons ⟨_,rfl⟩ .nil))))⟩,
  ⟨_,PySem.W.mg_of X G z31,_,_,z32,⟨⟨_,_,rfl,rfl⟩,⟨⟨_,_,rfl,rfl⟩,⟨⟨_,_,rfl,rfl⟩,trivial⟩⟩⟩,⟨⟨_,rfl⟩,congrArg Value.ref (cof (i:=F.ah) z1).symm,⟨⟨_,rfl⟩,congrArg Value.ref (cof (i:=F.af) z2).symm,⟨⟨_,rfl⟩,congrArg Value.ref (cof (i:=F.ac) z3).symm,trivial⟩⟩⟩,by decide +kernel,by decide,z33⟩,
  (by rw[cof (i:=F.ao) z0];exact PySem.W.mg_of X G z0),
  (by rw[cof (i:=F.ah) z1];exact PySem.W.mg_of X G z1),
  (by rw[cof (i:=F.af) z2];exact PySem.W.mg_of X G z2),
  (by rw[cof (i:=F.ac) z3];exact PySem.W.mg_of X G z3),
  (by rw[q_FourError];exact PySem.W.mg_of X G z34),
  (by rw[q_NoPicture];exact PySem.W.mg_of X G z35),
  (by rw[q_NoSpot];exact PySem.W.mg_of X G z36),
  (by rw[q_BadBox];exact PySem.W.mg_of X G z37),
  (by rw[q_Unlike];exact PySem.W.mg_of X G z38),
  (by rw[q_NoRule];exact PySem.W.mg_of X G z39),
  (by rw[q_NoBlocks];exact PySem.W.mg_of X G z40),
  (by rw[q_NoChange];exact PySem.W.mg_of X G z41),
  (by rw[q_NoNumber];exact PySem.W.mg_of X G z42),
  (by rw[q_NothingDone];exact PySem.W.mg_of X G z43),
  (by rw[q_NoText];exact PySem.W.mg_of X G z44),
  (by rw[q_NoPicture];exact z45),
  (by rw[q_NoSpot];exact z46),
  (by rw[q_NoRule];exact z47),
  (cJ (fun j hj=>by
   simp only[esL,List.mem_cons,List.not_mem_nil,or_false]at hj
   rcases hj with rfl | rfl | rfl
   ·rw[q_NoPicture,q_BadBox];exact aF z53 z54 z71 z69
   ·rw[q_NoSpot,q_BadBox];exact aF z53 z54 z88 z87
   ·rw[q_NoRule,q_BadBox];exact aF z53 z54 z105 z107) (fun j hj=>by
   simp only[esL,List.mem_cons,List.not_mem_nil,or_false]at hj
   rcases hj with rfl | rfl | rfl
   ·exact xk_NoPicture
   ·exact xk_NoSpot
   ·exact xk_NoRule)),
  (cJ (fun j hj=>by
   simp only[esL,List.mem_cons,List.not_mem_nil,or_false]at hj
   rcases hj with rfl | rfl | rfl
   ·rw[q_NoPicture,q_NoBlocks];exact aF z59 z60 z74 z69
   ·rw[q_NoSpot,q_NoBlocks];exact aF z59 z60 z91 z87
   ·rw[q_NoRule,q_NoBlocks];exact aF z59 z60 z108 z107) (fun j hj=>by
   simp only[esL,List.mem_cons,List.not_mem_nil,or_false]at hj
   rcases hj with rfl | rfl | rfl
   ·exact xk_NoPicture
   ·exact xk_NoSpot
   ·exact xk_NoRule)),
  (cJ (fun j hj=>by
   simp only[esL,List.mem_cons,List.not_mem_nil,or_false]at hj
   rcases hj with rfl | rfl | rfl
   ·rw[q_NoPicture,q_NoChange];exact aF z61 z62 z75 z69
   ·rw[q_NoSpot,q_NoChange];exact aF z61 z62 z92 z87
   ·rw[q_NoRule,q_NoChange];exact aF z61 z62 z109 z107) (fun j hj=>by
   simp only[esL,List.mem_cons,List.not_mem_nil,or_false]at hj
   rcases hj with rfl | rfl | rfl
   ·exact xk_NoPicture
   ·exact xk_NoSpot
   ·exact xk_NoRule)),
  (cJ (fun j hj=>by
   simp only[esL,List.mem_cons,List.not_mem_nil,or_false]at hj
   rcases hj with rfl | rfl | rfl
   ·rw[q_NoPicture,q_NoNumber];exact aF z63 z64 z76 z69
   ·rw[q_NoSpot,q_NoNumber];exact aF z63 z64 z93 z87
   ·rw[q_NoRule,q_NoNumber];exact aF z63 z64 z110 z107) (fun j hj=>by
   simp only[esL,List.mem_cons,List.not_mem_nil,or_false]at hj
   rcases hj with rfl | rfl | rfl
   ·exact xk_NoPicture
   ·exact xk_NoSpot
   ·exact xk_NoRule)),
  (cJ (fun j hj=>by
   simp only[esL,List.mem_cons,List.not_mem_nil,or_false]at hj
   rcases hj with rfl | rfl | rfl
   ·rw[q_NoPicture];exact aF z49 z50 z69 z69
   ·rw[q_NoSpot,q_NoPicture];exact aF z49 z50 z86 z87
   ·rw[q_NoRule,q_NoPicture];exact aF z49 z50 z103 z107) (fun j hj=>by
   simp only[esL,List.mem_cons,List.not_mem_nil,or_false]at hj
   rcases hj with rfl | rfl | rfl
   ·exact xk_NoPicture
   ·exact xk_NoSpot
   ·exact xk_NoRule)),
  (cJ (fun j hj=>by
   simp only[esL,List.mem_cons,List.not_mem_nil,or_false]at hj
   rcases hj with rfl | rfl | rfl
   ·rw[q_NoPicture,q_NoRule];exact aF z57 z58 z73 z69
   ·rw[q_NoSpot,q_NoRule];exact aF z57 z58 z90 z87
   ·rw[q_NoRule];exact aF z57 z58 z107 z107) (fun j hj=>by
   simp only[esL,List.mem_cons,List.not_mem_nil,or_false]at hj
   rcases hj with rfl | rfl | rfl
   ·exact xk_NoPicture
   ·exact xk_NoSpot
   ·exact xk_NoRule)),
  (cJ (fun j hj=>by
   simp only[esL,List.mem_cons,List.not_mem_nil,or_false]at hj
   rcases hj with rfl | rfl | rfl
   ·rw[q_NoPicture,q_NoSpot];exact aF z51 z52 z70 z69
   ·rw[q_NoSpot];exact aF z51 z52 z87 z87
   ·rw[q_NoRule,q_NoSpot];exact aF z51 z52 z104 z107) (fun j hj=>by
   simp only[esL,List.mem_cons,List.not_mem_nil,or_false]at hj
   rcases hj with rfl | rfl | rfl
   ·exact xk_NoPicture
   ·exact xk_NoSpot
   ·exact xk_NoRule)),
  (cJ (fun j hj=>by
   simp only[esL,List.mem_cons,List.not_mem_nil,or_false]at hj
   rcases hj with rfl | rfl | rfl
   ·rw[q_NoPicture,q_NoText];exact aF z67 z68 z78 z69
   ·rw[q_NoSpot,q_NoText];exact aF z67 z68 z95 z87
   ·rw[q_NoRule,q_NoText];exact aF z67 z68 z112 z107) (fun j hj=>by
   simp only[esL,List.mem_cons,List.not_mem_nil,or_false]at hj
   rcases hj with rfl | rfl | rfl
   ·exact xk_NoPicture
   ·exact xk_NoSpot
   ·exact xk_NoRule)),
  (cJ (fun j hj=>by
   simp only[esL,List.mem_cons,List.not_mem_nil,or_false]at hj
   rcases hj with rfl | rfl | rfl
   ·rw[q_NoPicture,q_NothingDone];exact aF z65 z66 z77 z69
   ·rw[q_NoSpot,q_NothingDone];exact aF z65 z66 z94 z87
   ·rw[q_NoRule,q_NothingDone];exact aF z65 z66 z111 z107) (fun j hj=>by
   simp only[esL,List.mem_cons,List.not_mem_nil,or_false]at hj
   rcases hj with rfl | rfl | rfl
   ·exact xk_NoPicture
   ·exact xk_NoSpot
   ·exact xk_NoRule)),
  (cJ (fun j hj=>by
   simp only[esL,List.mem_cons,List.not_mem_nil,or_false]at hj
   rcases hj with rfl | rfl | rfl
   ·rw[q_NoPicture,q_Unlike];exact aF z55 z56 z72 z69
   ·rw[q_NoSpot,q_Unlike];exact aF z55 z56 z89 z87
   ·rw[q_NoRule,q_Unlike];exact aF z55 z56 z106 z107) (fun j hj=>by
   simp only[esL,List.mem_cons,List.not_mem_nil,or_false]at hj
   rcases hj with rfl | rfl | rfl
   ·exact xk_NoPicture
   ·exact xk_NoSpot
   ·exact xk_NoRule)),
  (yB (fun j hj=>by
   simp only[esL,List.mem_cons,List.not_mem_nil,or_false]at hj
   rcases hj with rfl | rfl | rfl
   ·rw[q_NoPicture];exact o8 z80
   ·rw[q_NoSpot];exact o8 z97
   ·rw[q_NoRule];exact o8 z114) (fun j hj=>by
   simp only[esL,List.mem_cons,List.not_mem_nil,or_false]at hj
   rcases hj with rfl | rfl | rfl
   ·exact xk_NoPicture
   ·exact xk_NoSpot
   ·exact xk_NoRule)),
  (uo (by rw[q_FourError];exact z48) (fun j hj=>by
   simp only[esL,List.mem_cons,List.not_mem_nil,or_false]at hj
   rcases hj with rfl | rfl | rfl
   ·rw[q_NoPicture,q_FourError];exact z79
   ·rw[q_NoSpot,q_FourError];exact z96
   ·rw[q_NoRule,q_FourError];exact z113))⟩
 have FL:=oO (st:=ba) z5 z6 z7
 exact⟨PySem.W.fnOf "law" "law" (defArgs ba) (defBody ba) (defScope ba) .none kV49 dc49 pm49 an49 cd49 ct49,fun s v=>.of_eq rfl,fun base _ _=>jI T (tab T S 39) FL⟩
theorem walk {l:PySem.W.OpenLaw}{q:Program}{loose:List Str}{XP:(Str→Option Value)→Heap→Prop}{YP:World→Heap→Prop}{d:DefRec}{K:Params→PySem.W.Frag}(hn:l.most=some 63)(hdf:d.params.defaults=[])
  (hY:∀ (w:World) (h:Heap),YP w h→(K w.params).In h)
  (F:∀ (w:World) (mg:Str→Option Value) (fa:Addr) (h:Heap),(K w.params).In h→h.Ns mainGlobals mg→mg d.name=some (.ref fa) →
   ∃ fd:FuncData,(∀ (s:Shared) (u:Value),BindsTo s fd ⟨[u],[]⟩ [("_law_script",u)])∧∀ base:Heap,(K w.params).In base→base.Ns mainGlobals mg→FnOk l.prog w (K w.params) mg base (CXE l.prog w) 40 fa fd ["_law_script"] (spF (K w.params) (Cof (K w.params)) 1 (pf 40 Lw.F.aG))) :
  PySem.W.WalkO q loose XP YP l.row.toRowW d [] (fun f vs=>PySem.call f vs) :=
 L2.vS (n:=63) (k:=40) (x := "_law_script") (CX:=fun w=>CXE l.prog w) (sp:=fun w=>spF (K w.params) (Cof (K w.params)) 1 (pf 40 Lw.F.aG)) hn (by decide) hdf ⟨rfl,by decide,by decide⟩ hY F
  (fun w H a ns hl _ hS=>⟨rfl,H,[.lst (ns.map .int)],Same.refl H,by rw[Reps];exact⟨_,_,rfl,by rw[Rep];exact⟨a,_,rfl,hS,qp ns⟩,by rw[Reps]⟩,by rw[kL ns];exact fun H' Z' _ v rv=>by rw[Rep]at rv;exact rv⟩)
  fun w H s e s' z=>by obtain⟨_,_,_,_,_,_,_,_,_,_,_,_,_,z⟩:=z;exact z
end Lw
open PySem PySem.W PyProof.Rows
def PySem.W.Fast.tw5885376782133040831:Nat:=0
def PySem.W.Fast.tw9609076343710507824:Nat:=0
def PySem.W.Fast.tw3430955446191974865:Nat:=0
def PySem.W.Fast.tw12027630739020153480:Nat:=0
def PySem.W.Fast.tw14034573157314528650:Nat:=0
def PySem.W.Fast.tw10321136235137977615:Nat:=0
def PySem.W.Fast.tw14168784481234278515:Nat:=0
def PySem.W.Fast.tw14599162411746872600:Nat:=0
def PySem.W.Fast.tw16327618290870124097:Nat:=0
def PySem.W.Fast.tw3304315804158340409:Nat:=0
def PySem.W.Fast.tw5009933017062010811:Nat:=0
def PySem.W.Fast.tw10329974897520261811:Nat:=0
def PySem.W.Fast.tw12883012024100930379:Nat:=0
def PySem.W.Fast.tw3149353064336569289:Nat:=0
def PySem.W.Fast.tw12150789085480029073:Nat:=0
def PySem.W.Fast.tw18012363537373131724:Nat:=0
def PySem.W.Fast.tw10978539486132681193:Nat:=0
def PySem.W.Fast.tw15914653689585840717:Nat:=0
def PySem.W.Fast.tw9913193822219635010:Nat:=0
def PySem.W.Fast.tw9599100619901807139:Nat:=0
def PySem.W.Fast.tw16602867491391496288:Nat:=0
def PySem.W.Fast.tw17475426665764899898:Nat:=0
def PySem.W.Fast.tw14621464240753003331:Nat:=0
def PySem.W.Fast.tw14828926605855080933:Nat:=0
def PySem.W.Fast.tw13525712623126286369:Nat:=0
def PySem.W.Fast.tw9328187418587169750:Nat:=0
def PySem.W.Fast.tw2500446089164734610:Nat:=0
def PySem.W.Fast.tw18100796898960201084:Nat:=0
def PySem.W.Fast.tw4234661715922334176:Nat:=0
def PySem.W.Fast.tw3375639286790723330:Nat:=0
def PySem.W.Fast.tw11848426892501875892:Nat:=0
def PySem.W.Fast.tw8452636206254705916:Nat:=0
def PySem.W.Fast.tw11223616997502855051:Nat:=0
def PySem.W.Fast.tw9239194227702833595:Nat:=0
def PySem.W.Fast.tw14798647805581614240:Nat:=0
def PySem.W.Fast.tw2560350958469973657:Nat:=0
def PySem.W.Fast.tw12759270860348629794:Nat:=0
def PySem.W.Fast.tw11902116248855267115:Nat:=0
def PySem.W.Fast.tw662394043858781340:Nat:=0
def PySem.W.Fast.tw3930751969108681383:Nat:=0
def PySem.W.Fast.tw14070139364658971136:Nat:=0
def PySem.W.Fast.tw6313330478998397626:Nat:=0
def PySem.W.Fast.tw7971393794173484004:Nat:=0
def PySem.W.Fast.tw2185228999724149473:Nat:=0
def PySem.W.Fast.tw18343759187416216206:Nat:=0
def PySem.W.Fast.tw2336578936190088388:Nat:=0
def PySem.W.Fast.tw12773350516952013750:Nat:=0
def PySem.W.Fast.tw1563164178633513035:Nat:=0
def PySem.W.Fast.tw2263189074316987494:Nat:=0
set_option maxRecDepth 100000 in
set_option maxHeartbeats 0 in
theorem PySem.Challenge.cw_fourfold_k90_whole_seen_from_far_holds : PySem.Challenge.rw_fourfold_k90_whole_seen_from_far.Holds := by
 w_on;o_law;k_head;(case hw=>w_witness2)
 k_fill
 refine Lw.walk (l:=PySem.Challenge.rw_fourfold_k90_whole_seen_from_far) rfl rfl (fun w h Y=>PySem.W.kIn_of Y) ?F
 case F =>
  intro w mg fa h KX G hmg
  refine' Lw.yS KX G hmg ?S ?z0 ?z1 ?z2 ?z3 ?z4 ?z5 ?z6 ?z7 ?z8 ?z9 ?z10 ?z11 ?z12 ?z13 ?z14 ?z15 ?z16 ?z17 ?z18 ?z19 ?z20 ?z21 ?z22 ?z23 ?z24 ?z25 ?z26 ?z27 ?z28 ?z29 ?z30 ?z31 ?z32 ?z33 ?z34 ?z35 ?z36 ?z37 ?z38 ?z39 ?z40 ?z41 ?z42 ?z43 ?z44 ?z45 ?z46 ?z47 ?z48 ?z49 ?z50 ?z51 ?z52 ?z53 ?z54 ?z55 ?z56 ?z57 ?z58 ?z59 ?z60 ?z61 ?z62 ?z63 ?z64 ?z65 ?z66 ?z67 ?z68 ?z69 ?z70 ?z71 ?z72 ?z73 ?z74 ?z75 ?z76 ?z77 ?z78 ?z79 ?z80 ?z81 ?z82 ?z83 ?z84 ?z85 ?z86 ?z87 ?z88 ?z89 ?z90 ?z91 ?z92 ?z93 ?z94 ?z95 ?z96 ?z97 ?z98 ?z99 ?z100 ?z101 ?z102 ?z103 ?z104 ?z105 ?z106 ?z107 ?z108 ?z109 ?z110 ?z111 ?z112 ?z113 ?z114 ?z115 ?z116 ?z117 ?z118 ?z119
  case S =>
   constructor
   all_goals
    refine' FF.zm KX G (fun _ _ _ _ _ _ us hl=>by first | (obtain⟨_,rfl⟩:=FF.ln1 hl;rfl) | (obtain⟨_,_,rfl⟩:=FF.ln2 hl;rfl) | (obtain⟨_,_,_,rfl⟩:=FF.ln3 hl;rfl) | (obtain⟨_,_,_,_,rfl⟩:=FF.ln4 hl;rfl) | (obtain⟨_,_,_,_,_,rfl⟩:=FF.ln5 hl;rfl) | (cases List.length_eq_zero_iff.mp hl;rfl)) ?a ?l ?c ?k
    (case a=>k_is);(case l=>k_is);(case c=>k_is);(case k=>k_is)
  (case z0=>show _=_;k_is)
  (case z1=>show _=_;k_is)
  (case z2=>show _=_;k_is)
  (case z3=>show _=_;k_is)
  (case z4=>show _=_;k_is)
  (case z5=>k_is)
  (case z6=>k_is)
  (case z7=>k_is)
  (case z8=>show _=_;k_is)
  (case z9=>show _=_;k_is)
  (case z10=>show _=_;k_is)
  (case z11=>show _=_;k_is)
  (case z12=>show _=_;k_is)
  (case z13=>show _=_;k_is)
  (case z14=>show _=_;k_is)
  (case z15=>show _=_;k_is)
  (case z16=>show _=_;k_is)
  (case z17=>show _=_;k_is)
  (case z18=>show _=_;k_is)
  (case z19=>show _=_;k_is)
  (case z20=>show _=_;k_is)
  (case z21=>show _=_;k_is)
  (case z22=>show _=_;k_is)
  (case z23=>show _=_;k_is)
  (case z24=>show _=_;k_is)
  (case z25=>show _=_;k_is)
  (case z26=>k_is)
  (case z27=>show _=_;k_is)
  (case z28=>k_is)
  (case z29=>show _=_;k_is)
  (case z30=>k_is)
  (case z31=>show _=_;k_is)
  (case z32=>k_is)
  (case z33=>first | rfl | decide)
  (case z34=>show _=_;k_is)
  (case z35=>show _=_;k_is)
  (case z36=>show _=_;k_is)
  (case z37=>show _=_;k_is)
  (case z38=>show _=_;k_is)
  (case z39=>show _=_;k_is)
  (case z40=>show _=_;k_is)
  (case z41=>show _=_;k_is)
  (case z42=>show _=_;k_is)
  (case z43=>show _=_;k_is)
  (case z44=>show _=_;k_is)
  (case z45=>k_exc)
  (case z46=>k_exc)
  (case z47=>k_exc)
  (case z48=>k_exc)
  (case z49=>k_is)
  (case z50=>k_is)
  (case z51=>k_is)
  (case z52=>k_is)
  (case z53=>k_is)
  (case z54=>k_is)
  (case z55=>k_is)
  (case z56=>k_is)
  (case z57=>k_is)
  (case z58=>k_is)
  (case z59=>k_is)
  (case z60=>k_is)
  (case z61=>k_is)
  (case z62=>k_is)
  (case z63=>k_is)
  (case z64=>k_is)
  (case z65=>k_is)
  (case z66=>k_is)
  (case z67=>k_is)
  (case z68=>k_is)
  (case z69=>k_is)
  (case z70=>k_is)
  (case z71=>k_is)
  (case z72=>k_is)
  (case z73=>k_is)
  (case z74=>k_is)
  (case z75=>k_is)
  (case z76=>k_is)
  (case z77=>k_is)
  (case z78=>k_is)
  (case z79=>k_is)
  (case z80=>k_is)
  (case z81=>k_is)
  (case z82=>k_is)
  (case z83=>k_is)
  (case z84=>k_is)
  (case z85=>k_is)
  (case z86=>k_is)
  (case z87=>k_is)
  (case z88=>k_is)
  (case z89=>k_is)
  (case z90=>k_is)
  (case z91=>k_is)
  (case z92=>k_is)
  (case z93=>k_is)
  (case z94=>k_is)
  (case z95=>k_is)
  (case z96=>k_is)
  (case z97=>k_is)
  (case z98=>k_is)
  (case z99=>k_is)
  (case z100=>k_is)
  (case z101=>k_is)
  (case z102=>k_is)
  (case z103=>k_is)
  (case z104=>k_is)
  (case z105=>k_is)
  (case z106=>k_is)
  (case z107=>k_is)
  (case z108=>k_is)
  (case z109=>k_is)
  (case z110=>k_is)
  (case z111=>k_is)
  (case z112=>k_is)
  (case z113=>k_is)
  (case z114=>k_is)
  (case z115=>k_is)
  (case z116=>k_is)
  (case z117=>k_is)
  (case z118=>k_is)
  (case z119=>k_is)
end
