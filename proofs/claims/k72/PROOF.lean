import PyProof.Rows.All
import Wide.All
import OpenK.AllK
import Wide.FinOn
import PyProof.EqAt
import PyProof.EqKinds
import PyProof.TupleCall
import PyProof.ExcArgsOwn
import PyProof.ExcAttrAll.ValueError
import PyProof.IsiH_tuple
import PyProof.Rows.TopTwo
import PyProof.ExcBaseAll.ValueError
import PyProof.RulesAs
import PyProof.RulesDel
import PyProof.Rows.Catch
import PyProof.WalkInts
import PyProof.SumWalkG
import PyProof.Rows.TupAssign
import PyProof.NeKinds
import PyProof.FactsAll.tuple_1
import PyProof.FactsAll.tuple_2
import PyProof.FactsAll.tuple_3
import PyProof.ZipIter
import PyProof.Rows.ZipGen
import PyProof.Draws
import PyProof.EnumMake
import PyProof.LayNew
import OpenK.KTop
import PyProof.DictWalks
import PyProof.ListRange
import Lean
import PySem.Challenge.RW_fourfold_k72_whole_changes_apart
set_option Elab.async false
set_option linter.all false
set_option maxRecDepth 100000
noncomputable section
namespace L2
open PySem PySem.Spec PyProof.Rows
abbrev Key:=Sum Int Str
def keyIs:Key→Value→Bool
 | .inl k,v=>Value.isInt k v
 | .inr x,v=>Value.isStrOf x v
def keyH (w:World):Key→Int
 | .inl k=>hashInt k
 | .inr x=>hashStr w x
theorem bc:∀ {k:Key} {v:Value},keyIs k v=true→(∃ i t,k=Sum.inl i∧v=Value.int i t)∨(∃ x t,k=Sum.inr x∧v=Value.str x t)
 | .inl i,v,h=>by
  obtain⟨t,e⟩:=Value.isInt_shape (k:=i) (v:=v) h
  exact .inl ⟨i,t,rfl,e⟩
 | .inr x,v,h=>by
  obtain⟨t,e⟩:=Value.isStrOf_shape (x:=x) (v:=v) h
  exact .inr ⟨x,t,rfl,e⟩
theorem za (a b:Int):decide ((Sum.inl a:Key)=Sum.inl b)=(a==b):=by
 by_cases e:a=b
 ·subst e;simp
 ·have h:¬ (Sum.inl a:Key)=Sum.inl b:=fun q=>e (Sum.inl.inj q)
  rw[decide_eq_false h]
  exact(beq_eq_false_iff_ne.mpr e).symm
theorem zb (a b:Str):decide ((Sum.inr a:Key)=Sum.inr b)=decide (a=b):=by
 by_cases e:a=b
 ·subst e;simp
 ·have h:¬ (Sum.inr a:Key)=Sum.inr b:=fun q=>e (Sum.inr.inj q)
  rw[decide_eq_false h,decide_eq_false e]
theorem zc (a:Int)(b:Str):decide ((Sum.inl a:Key)=Sum.inr b)=false:=decide_eq_false (fun q=>nomatch q)
theorem zd (a:Str)(b:Int):decide ((Sum.inr a:Key)=Sum.inl b)=false:=decide_eq_false (fun q=>nomatch q)
def mixKind (prog:Program)(w:World):PySem.KeyKind prog w Key where
 is:=keyIs
 hash:=keyH w
 inj:=fun v a b ha hb=>by
  rcases bc ha with ⟨i,t,rfl,rfl⟩ | ⟨x,t,rfl,rfl⟩
  ·rcases bc hb with ⟨j,u,rfl,e⟩ | ⟨y,u,rfl,e⟩
   ·injection e with e1 _;rw[e1]
   ·exact nomatch e
  ·rcases bc hb with ⟨j,u,rfl,e⟩ | ⟨y,u,rfl,e⟩
   ·exact nomatch e
   ·injection e with e1 _;rw[e1]
 byValue:=fun k v h=>by
  rcases bc h with ⟨i,t,rfl,rfl⟩ | ⟨x,t,rfl,rfl⟩<;>rfl
 pyHash:=fun hv h=>by
  rcases bc hv with ⟨i,t,rfl,rfl⟩ | ⟨x,t,rfl,rfl⟩
  ·exact wpAny_pyHash_int h
  ·exact wpAny_pyHash_str h
 eqBool:=fun hu hv h=>by
  rcases bc hu with ⟨i,t,rfl,rfl⟩ | ⟨x,t,rfl,rfl⟩
  ·rcases bc hv with ⟨j,u,rfl,rfl⟩ | ⟨y,u,rfl,rfl⟩
   ·rw[za]at h;exact wpAny_eqBool_int h
   ·rw[zc]at h;exact SeqAt.EqAt.int_str i t y u _ _ _ _ h
  ·rcases bc hv with ⟨j,u,rfl,rfl⟩ | ⟨y,u,rfl,rfl⟩
   ·rw[zd]at h;exact SeqAt.EqAt.str_int x t j u _ _ _ _ h
   ·rw[zb]at h;exact wpAny_eqBool_str h
 «strs»:=fun k x t v h=>by
  rcases bc h with ⟨i,u,rfl,e⟩ | ⟨y,u,rfl,e⟩
  ·exact nomatch e
  ·injection e with e1 _
   subst e1
   cases v<;>rfl
end L2
namespace L2
open PySem PySem.Spec PyProof.Rows
inductive V where
 | non | bl (b:Bool) | int (i:Int) | str (x:Str) | byt (b:Array UInt8) | flt (b:UInt64) | ref (a:Addr) | ty (n:String)
 deriving DecidableEq
def RelV:V→Value→Prop
 | .non,u=>u=Value.none
 | .bl b,u=>u=Value.bool b
 | .int i,u=>∃ t,u=Value.int i t
 | .str x,u=>∃ t,u=Value.str x t
 | .byt b,u=>∃ t,u=Value.bytes b t
 | .flt b,u=>∃ t,u=Value.float b t
 | .ref a,u=>u=Value.ref a
 | .ty n,u=>u=Value.type n
abbrev Vals:List V→List Value→Prop:=Paired RelV
theorem Vals.length {xs:List V}{us:List Value}(r:Vals xs us):xs.length=us.length:=Paired.length r
theorem Vals.get:∀ {xs:List V} {us:List Value} {i:Nat} {x:V},Vals xs us→xs[i]?=some x→∃ u,us[i]?=some u∧RelV x u
 | _,_,_,_,.nil,e=>by simp at e
 | _,_,0,_,.cons r _,e=>by simp at e;subst e;exact⟨_,rfl,r⟩
 | _,_,i+1,x,.cons _ t,e=>by
  obtain⟨u,h1,h2⟩:=Vals.get (i:=i) (x:=x) t (by simpa using e)
  exact⟨u,by simpa using h1,h2⟩
theorem Vals.append:∀ {xs ys:List V} {us ws:List Value},Vals xs us→Vals ys ws→Vals (xs++ys) (us++ws)
 | _,_,_,_,.nil,s=>s
 | _,_,_,_,.cons r t,s=>.cons r (Vals.append t s)
theorem Vals.take:∀ {xs:List V} {us:List Value} (n:Nat),Vals xs us→Vals (xs.take n) (us.take n)
 | _,_,0,_=>.nil
 | _,_,_+1,.nil=>.nil
 | _,_,n+1,.cons r t=>.cons r (Vals.take n t)
theorem Vals.drop:∀ {xs:List V} {us:List Value} (n:Nat),Vals xs us→Vals (xs.drop n) (us.drop n)
 | _,_,0,r=>r
 | _,_,_+1,.nil=>.nil
 | _,_,n+1,.cons _ t=>Vals.drop n t
theorem Vals.none_of:∀ {xs:List V} {us:List Value} {i:Nat},Vals xs us→xs[i]?=none→us[i]?=none:=fun {xs us i} r e=>by
 have h1:=r.length
 have h2:xs.length≤i:=List.getElem?_eq_none_iff.mp e
 exact List.getElem?_eq_none_iff.mpr (by omega)
def RelO:Option V→Option Value→Prop
 | some v,some u=>RelV v u
 | none,none=>True
 | _,_=>False
def KV {κ:Type}:List (κ×V)→List (κ×Value)→Prop:=Paired fun (p:κ×V) (q:κ×Value)=>p.1=q.1∧RelV p.2 q.2
def kV:Key→V
 | .inl i=>.int i
 | .inr x=>.str x
inductive HO where
 | lst (xs:List V)
 | tup (xs:List V)
 | dK (kvs:List (Key×V)) | dT (kvs:List (List Key×V))
 | set (S:Int→Bool) (n:Nat)
 | ins (C dx:Addr) (fs:List (Str×V))
 | own (x:Addr)
 | xd (fs:List (Str×V))
 | met (f x:Addr)
 | rng (lo hi:Int)
 | frz (o:Obj) (u:HO)
 | tbl (ps:Array Value)
 | ext (φ:Heap→Prop)
abbrev Hp:=Addr→Option HO
def upd (H:Hp)(a:Addr)(o:HO):Hp:=fun b=>if b=a then some o else H b
theorem au {H:Hp}{a:Addr}{o:HO}:upd H a o a=some o:=by unfold upd;rw[if_pos rfl]
theorem av {H:Hp}{a b:Addr}{o:HO}(h:b≠a):upd H a o b=H b:=by unfold upd;rw[if_neg h]
theorem kK {H:Hp}{a:Addr}{o u:HO}:upd (upd H a o) a u=upd H a u:=by
 funext b;unfold upd;split<;>rfl
theorem b9 {H:Hp}{a b:Addr}{o:HO}(h:H a=some o)(h':H b=none):a≠b:=by
 intro e;subst e;rw[h]at h';cases h'
def TupO (h:Heap)(a:Addr)(its:Array Value):Prop:=∃ o,h.get? a=some o∧o.cls=.type "tuple" ∧ o.dict=none∧∃ n,o.data=.seq its n
theorem TupO.is {h:Heap}{a:Addr}{its:Array Value}(p:TupO h a its):IsTup h a its:=let ⟨o,e,c,_,d⟩:=p;⟨o,e,c,d⟩
theorem TupO.lt {h:Heap}{a:Addr}{its:Array Value}(p:TupO h a its):a < h.objs.size:=p.is.lt
theorem TupO.new (h:Heap)(its:Array Value):TupO (h.push { cls:=.type "tuple",data:=.seq its }) h.objs.size its:=⟨_,Heap.get?_push_size _ rfl,rfl,rfl,_,rfl⟩
section
variable (P:Program)(w:World)
def ObjOk (H:Hp)(h:Heap)(a:Addr):HO→Prop
 | .lst xs=>xs.length≤sizeLine∧∃ (its:List Value) (n:Nat),Vals xs its∧h.get? a=some { cls:=.type "list",data:=.seq its.toArray n }
 | .tup xs=>xs.length≤sizeLine∧∃ its:List Value,Vals xs its∧TupO h a its.toArray
 | .dK kvs=>kvs.length≤sizeLine∧(a==sysModules)=false∧∃ vs,KV kvs vs∧h.DictOf (mixKind P w) a vs
 | .dT kvs=>kvs.length≤sizeLine∧(a==sysModules)=false∧∃ xs:List (List Key×Addr×Value),
   Paired (fun (p:List Key×V) (q:List Key×Addr×Value)=>p.1=q.1∧H q.2.1=some (.tup (p.1.map kV))∧RelV p.2 q.2.2) kvs xs ∧
   ∃ o es ep,h.get? a=some o∧o.ExactDict∧o.data=.dict es ep∧es.toList=xs.map (entryOfKey (tupleKind (mixKind P w)))∧(xs.map (·.1)).Nodup
 | .set S n=>h.SetOf (intKind P w) a S n
 | .ins C dx fs=>H dx=some (.own a)∧fs.length≤1000∧dx≠a∧h.get? a=some (PySem.W.instObj C dx) ∧
   ∃ mA,h.Ns1 dx mA∧(∀ f,RelO (fs.lookup f) (mA f))∧PySem.Within mA (fs.map (·.1))
 | .own _=>∃ o,h.get? a=some o
 | .xd fs=>∃ mA,h.Ns1 a mA∧∀ f,RelO (fs.lookup f) (mA f)
 | .rng lo hi=>∃ t u v,h.get? a=some { cls:=.type "range",data:=.fields #[.int lo t,.int hi u,.int 1 v] }
 | .frz o u=>h.get? a=some o∧ObjOk H h a u
 | .tbl ps=>h.get? a=some { cls:=.none,data:=.fields ps }
 | .met f x=>h.get? a=some (PySem.W.methodObj (.ref f) (.ref x))
 | .ext φ=>φ h∧(∃ o,h.get? a=some o)∧∀ h1 h2:Heap,φ h1→(∀ o,h1.get? a=some o→h2.get? a=some o)→φ h2
def HOk (H:Hp)(h:Heap):Prop:=∀ a o,H a=some o→ObjOk P w H h a o
end
section
variable {P:Program}{w:World}{H H':Hp}{h h':Heap}{a:Addr}{o:HO}
theorem ObjOk.lt (x:ObjOk P w H h a o):a < h.objs.size:=by
 cases o with
 | lst xs=>obtain⟨_,_,_,_,e⟩:=x;exact Heap.lt_size e
 | tup xs=>obtain⟨_,_,_,p⟩:=x;exact p.lt
 | dK kvs=>obtain⟨_,_,_,_,o,_,_,e,_⟩:=x;exact Heap.lt_size e
 | dT kvs=>obtain⟨_,_,_,_,o,_,_,e,_⟩:=x;exact Heap.lt_size e
 | set S n=>obtain⟨o,_,_,_,e,_⟩:=x;exact Heap.lt_size e
 | ins C dx fs=>obtain⟨_,_,_,e,_⟩:=x;exact Heap.lt_size e
 | own y=>obtain⟨_,e⟩:=x;exact Heap.lt_size e
 | xd fs=>obtain⟨_,⟨_,_,_,e,_⟩,_⟩:=x;exact Heap.lt_size e
 | rng lo hi=>obtain⟨_,_,_,e⟩:=x;exact Heap.lt_size e
 | frz ob u=>obtain⟨e,_⟩:=x;exact Heap.lt_size e
 | tbl ps=>exact Heap.lt_size (show h.get? a=some _ from x)
 | met f y=>exact Heap.lt_size (show h.get? a=some _ from x)
 | ext φ=>obtain⟨_,⟨_,e⟩,_⟩:=x;exact Heap.lt_size e
theorem Paired.mapP {α β:Type}{F G:α→β→Prop}:∀ {l₁:List α} {l₂:List β},Paired F l₁ l₂→(∀ a b,F a b→G a b)→Paired G l₁ l₂
 | _,_,.nil,_=>.nil
 | _,_,.cons r t,f=>.cons (f _ _ r) (Paired.mapP t f)
theorem ObjOk.stay (x:ObjOk P w H h a o)(k:∀ b u,(b=a∨H b=some (.own a))→h.get? b=some u→h'.get? b=some u)
  (ho:∀ b,H b=some (.own a)→H' b=some (.own a)) (ht:∀ b xs,H b=some (.tup xs)→H' b=some (.tup xs)):ObjOk P w H' h' a o:=by
 induction o with
 | lst xs=>obtain⟨z,its,n,r,e⟩:=x;exact⟨z,its,n,r,k _ _ (.inl rfl) e⟩
 | tup xs=>obtain⟨z,its,r,ob,e,c⟩:=x;exact⟨z,its,r,ob,k _ _ (.inl rfl) e,c⟩
 | dK kvs=>obtain⟨z,y,vs,r,ob,es,ep,e,c⟩:=x;exact⟨z,y,vs,r,ob,es,ep,k _ _ (.inl rfl) e,c⟩
 | dT kvs =>
  obtain⟨z,y,xs,r,ob,es,ep,e,c⟩:=x
  exact⟨z,y,xs,Paired.mapP r fun p q z=>⟨z.1,ht _ _ z.2.1,z.2.2⟩,ob,es,ep,k _ _ (.inl rfl) e,c⟩
 | set S n=>obtain⟨ob,es,ep,t,e,c⟩:=x;exact⟨ob,es,ep,t,k _ _ (.inl rfl) e,c⟩
 | ins C dx fs =>
  obtain⟨d,z,ne,e,mA,⟨od,es,ep,e2,c⟩,r⟩:=x
  exact⟨ho _ d,z,ne,k _ _ (.inl rfl) e,mA,⟨od,es,ep,k _ _ (.inr d) e2,c⟩,r⟩
 | own y=>obtain⟨ob,e⟩:=x;exact⟨ob,k _ _ (.inl rfl) e⟩
 | xd fs=>obtain⟨mA,⟨od,es,ep,e,c⟩,r⟩:=x;exact⟨mA,⟨od,es,ep,k _ _ (.inl rfl) e,c⟩,r⟩
 | rng lo hi=>obtain⟨t,u,v,e⟩:=x;exact⟨t,u,v,k _ _ (.inl rfl) e⟩
 | frz ob u ih=>obtain⟨e,q⟩:=x;exact⟨k _ _ (.inl rfl) e,ih q⟩
 | tbl ps =>
  have e:h.get? a=some { cls:=.none,data:=.fields ps }:=x
  show h'.get? a=some { cls:=.none,data:=.fields ps }
  exact k a _ (.inl rfl) e
 | met f y =>
  have e:h.get? a=some (PySem.W.methodObj (.ref f) (.ref y)):=x
  show h'.get? a=some (PySem.W.methodObj (.ref f) (.ref y))
  exact k a _ (.inl rfl) e
 | ext φ=>obtain⟨p,⟨o,e⟩,st⟩:=x;exact⟨st _ _ p fun o q=>k _ _ (.inl rfl) q,⟨o,k _ _ (.inl rfl) e⟩,st⟩
theorem HOk.lt (x:HOk P w H h)(e:H a=some o):a < h.objs.size:=(x a o e).lt
theorem HOk.fresh (x:HOk P w H h)(e:h.objs.size≤a):H a=none:=by
 cases q:H a with
 | none=>rfl
 | some u=>exact absurd (Nat.lt_of_lt_of_le (x.lt q) e) (Nat.lt_irrefl _)
theorem HOk.kept (x:HOk P w H h)(k:∀ b u,h.get? b=some u→h'.get? b=some u):HOk P w H h':=fun a o e =>
 (x a o e).stay (fun b u _ q=>k b u q) (fun _ q=>q) fun _ _ q=>q
theorem HOk.laid (x:HOk P w H h)(k:∀ b u,h.get? b=some u→h'.get? b=some u)(hp:h.objs.size≤a)(new:ObjOk P w (upd H a o) h' a o):HOk P w (upd H a o) h':=fun b u e=>by
 have hn:=x.fresh hp
 by_cases hb:b=a
 ·subst hb;rw[au]at e;cases e;exact new
 ·rw[av hb]at e
  exact(x b u e).stay (fun c v _ q=>k c v q) (fun c q=>by rw[av (b9 q hn)];exact q) fun c xs q=>by rw[av (b9 q hn)];exact q
end
def Rd (H:Hp)(a:Addr)(u:HO):Prop:=H a=some u∨∃ o,H a=some (.frz o u)
theorem Rd.ok {P:Program}{w:World}{H:Hp}{h:Heap}{a:Addr}{u:HO}(r:Rd H a u)(x:HOk P w H h):ObjOk P w H h a u:=by
 rcases r with r | ⟨o,r⟩
 ·exact x a u r
 ·obtain⟨_,q⟩:=x a _ r
  exact q
def Mut:Option HO→Prop
 | some (.lst _)=>True
 | some (.dK _)=>True
 | some (.dT _)=>True
 | some (.set _ _)=>True
 | some (.ins _ _ _)=>True
 | some (.ext _)=>True
 | _=>False
section
variable {P:Program}{w:World}{H:Hp}{h h':Heap}{x e:Addr}{o':HO}
theorem HOk.write (ok:HOk P w H h)(mu:Mut (H x))(he:e=x∨H e=some (.own x))(k:∀ b u,b≠e→h.get? b=some u→h'.get? b=some u)(heo:∃ u,h'.get? e=some u)
  (new:ObjOk P w (upd H x o') h' x o'):HOk P w (upd H x o') h':=fun b u q=>by
 have nown:∀ c y,H c=some (.own y)→c≠x:=fun c y r z=>by subst z;rw[r]at mu;exact mu
 have ntup:∀ c xs,H c=some (.tup xs)→c≠x:=fun c xs r z=>by subst z;rw[r]at mu;exact mu
 by_cases hb:b=x
 ·subst hb;rw[au]at q;cases q;exact new
 ·rw[av hb]at q
  by_cases hbe:b=e
  ·have q':H b=some (.own x):=by
    rcases he with z | z
    ·exact absurd (hbe.trans z) hb
    ·rw[hbe];exact z
   rw[q]at q';cases q'
   obtain⟨v,hv⟩:=heo
   exact⟨v,by rw[hbe];exact hv⟩
  ·refine(ok b u q).stay (fun c v hc r=>k c v ?_ r) (fun c r=>by rw[av (nown c b r)];exact r) fun c xs r=>by rw[av (ntup c xs r)];exact r
   rcases hc with rfl | hc
   ·exact hbe
   ·rintro rfl
    rcases he with z | z
    ·exact nown c b hc z
    ·rw[hc]at z;cases z;exact hb rfl
end
structure Un (fs ex:List Addr)(H H':Hp)(h h':Heap):Prop where
 keep:∀ b o,h.get? b=some o→H b=none→b∉fs→b∉ex→h'.get? b=some o
 slot:∀ b o,h.get? b=some o→H b=none→b∈fs→b∉ex→∃ sl,h'.get? b=some { o with slots:=sl }
 free:∀ b o,h.get? b=some o→H b=none→b∉ex→H' b=none
 there:∀ b o,h.get? b=some o→b∉ex→∃ o',h'.get? b=some o'
 tups:∀ b xs,H b=some (.tup xs)→H' b=some (.tup xs)
 frzs:∀ b o u,H b=some (.frz o u)→H' b=some (.frz o u)
 tbls:∀ b ps,H b=some (.tbl ps)→∃ more,H' b=some (.tbl (ps++more))
section
variable {fs fs' ex ex':List Addr}{H H1 H2:Hp}{h h1 h2 h':Heap}{a x e:Addr}{o:HO}
theorem Un.any (u:Un fs ex H H1 h h1){b:Addr}{ob:Obj}(q:h.get? b=some ob)(n:H b=none)(hx:b∉ex):∃ sl,h1.get? b=some { ob with slots:=sl }:=by
 by_cases hb:b∈fs
 ·exact u.slot b ob q n hb hx
 ·exact⟨ob.slots,u.keep b ob q n hb hx⟩
theorem Un.trans (a:Un fs ex H H1 h h1)(b:Un fs ex H1 H2 h1 h2):Un fs ex H H2 h h2 where
 keep:=fun c ob q n hc hx=>b.keep c ob (a.keep c ob q n hc hx) (a.free c ob q n hx) hc hx
 slot:=fun c ob q n hc hx=>by
  obtain⟨sl,e1⟩:=a.slot c ob q n hc hx
  obtain⟨sl',e2⟩:=b.slot c _ e1 (a.free c ob q n hx) hc hx
  exact⟨sl',e2⟩
 free:=fun c ob q n hx=>by
  obtain⟨o',e1⟩:=a.there c ob q hx
  exact b.free c o' e1 (a.free c ob q n hx) hx
 there:=fun c ob q hx=>by
  obtain⟨o',e1⟩:=a.there c ob q hx
  exact b.there c o' e1 hx
 tups:=fun c xs q=>b.tups c xs (a.tups c xs q)
 frzs:=fun c ob xs q=>b.frzs c ob xs (a.frzs c ob xs q)
 tbls:=fun c ps q=>by
  obtain⟨m1,e1⟩:=a.tbls c ps q
  obtain⟨m2,e2⟩:=b.tbls c _ e1
  exact⟨m1++m2,by rw[e2,Array.append_assoc]⟩
theorem Un.kept (k:∀ b u,h.get? b=some u→h'.get? b=some u):Un fs ex H H h h' :=
 ⟨fun b ob q _ _ _=>k b ob q,fun b ob q _ _ _=>⟨ob.slots,k b ob q⟩,fun _ _ _ n _=>n,fun b ob q _=>⟨ob,k b ob q⟩,fun _ _ q=>q,fun _ _ _ q=>q,fun _ ps q=>⟨#[],by rw[q];simp⟩⟩
theorem Un.refl:Un fs ex H H h h:=Un.kept fun _ _ q=>q
theorem Un.laid (k:∀ b u,h.get? b=some u→h'.get? b=some u)(hp:h.objs.size≤a)(hn:H a=none):Un fs ex H (upd H a o) h h' where
 keep:=fun b u q _ _ _=>k b u q
 slot:=fun b u q _ _ _=>⟨u.slots,k b u q⟩
 free:=fun b u q n _=>by rw[av (Nat.ne_of_lt (Nat.lt_of_lt_of_le (Heap.lt_size q) hp))];exact n
 there:=fun b u q _=>⟨u,k b u q⟩
 tups:=fun b xs q=>by rw[av (b9 q hn)];exact q
 frzs:=fun b u xs q=>by rw[av (b9 q hn)];exact q
 tbls:=fun b ps q=>⟨#[],by rw[av (b9 q hn),q];simp⟩
theorem Un.write (mu:Mut (H x))(he:e=x∨H e=some (.own x))(k:∀ b u,b≠e→h.get? b=some u→h'.get? b=some u)(heo:∃ u,h'.get? e=some u):Un fs ex H (upd H x o) h h':=by
 have hx:∀ b,H b=none→b≠x:=fun b n z=>by subst z;rw[n]at mu;exact mu
 have hb:∀ b,H b=none→b≠e:=fun b n z=>by
  subst z
  rcases he with r | r
  ·exact hx b n r
  ·rw[n]at r;cases r
 have hm:∀ b u,H b=some u→¬ Mut (some u)→b≠x:=fun b u q nm z=>by subst z;rw[q]at mu;exact nm mu
 refine⟨fun b u q n _ _=>k b u (hb b n) q,fun b u q n _ _=>⟨u.slots,k b u (hb b n) q⟩,fun b u q n _=>by rw[av (hx b n)];exact n,fun b u q _=>?_,
  fun b xs q=>by rw[av (hm b _ q fun z=>z)];exact q,fun b u xs q=>by rw[av (hm b _ q fun z=>z)];exact q,fun b ps q=>⟨#[],by rw[av (hm b _ q fun z=>z),q];simp⟩⟩
 by_cases hbe:b=e
 ·subst hbe;exact heo
 ·exact⟨u,k b u hbe q⟩
end
def trk (h:Heap)(H:Hp):List Addr:=(List.range h.objs.size).filter fun a=>(H a).isSome
def hidT (h:Heap)(H:Hp):Heap:=PySem.W.hideAll h (trk h H)
theorem tQ (h:Heap)(H:Hp):(hidT h H).objs.size=h.objs.size:=PySem.W.hideAll_size _ _
theorem vy {h:Heap}{H:Hp}{b:Addr}{o:Obj}(e:h.get? b=some o)(n:H b=none):(hidT h H).get? b=some o :=
 PySem.W.hideAll_get _ e fun hm=>by
  have q:(H b).isSome=true:=(List.mem_filter.mp hm).2
  rw[n]at q;simp at q
theorem xt {h:Heap}{H:Hp}{b:Addr}{o:Obj}(e:(hidT h H).get? b=some o):h.get? b=some o∧H b=none:=by
 have e':h.get? b=some o:=PySem.W.of_hideAll (trk h H) e
 refine⟨e',?_⟩
 cases q:H b with
 | none=>rfl
 | some x =>
  have hm:b∈trk h H:=List.mem_filter.mpr ⟨List.mem_range.mpr (Heap.lt_size e'),by simp[q]⟩
  have z:(hidT h H).get? b=none:=PySem.W.hideAll_none (trk h H) hm
  rw[z]at e;cases e
def allNews (g h:Heap)(L:Addr):List (Addr×Obj):=(List.range h.objs.size).filterMap fun a=>if a=L∨(g.get? a).isSome=true then none else (h.get? a).map fun o=>(a,o)
def rest (g h:Heap)(L d:Addr):List (Addr×Obj):=(allNews g h L).filter fun p=>decide (p.1≠d)
end L2
namespace L2
open PySem PySem.Spec PyProof.Rows
structure Mod (K:PySem.W.Frag)(mg:Str→Option Value)(base:Heap):Prop where
 kin:K.In base
 glob:base.Ns mainGlobals mg
 blt:∃ mb,base.Ns builtinsNs mb∧∀ x:Str,x ≠ "__name__" → mb x=bootBuiltins x
 nolimit:base.NoLimit
structure Cx where
 prog:Program
 w:World
 K:PySem.W.Frag
 mg:Str→Option Value
 base:Heap
 A:Around
 N:List Str
 s₀:Shared
 H₀:Hp
 env:Env
 outer:List Env
 stack:List Env
 ex:List Addr
 fn:Str→Bool
 calm:Bool
 pn:List (Addr×Obj)
 xe:Value→Shared→Prop
def frs (l:List Env):List Addr:=l.filterMap (·.frame)
abbrev Cx.fs (X:Cx):List Addr:=frs X.outer
def Vis (sc:Scope)(x:Str):Prop:=sc.names.lookup x=some .local∨sc.names.lookup x=some .cell∨sc.names.lookup x=some .free
def Loc (sc:Scope)(x:Str):Prop:=sc.names.lookup x=some .local∨sc.names.lookup x=some .cell
def Look (env:Env)(h:Heap)(m:Str→Option Value)(x:Str)(u:Value):Prop :=
 (env.kindOf x=some .local∧m x=some u)∨((env.kindOf x=some .cell∨env.kindOf x=some .free)∧∃ c,env.cells.lookup x=some c∧h.IsCell c (some u))
structure Cx.Ok (X:Cx):Prop where
 mod:Mod X.K X.mg X.base
 kind:X.env.scope.kind=.function
 glob:X.env.globals=mainGlobals
 blt:X.env.builtins=builtinsNs
 above:X.s₀.heap.objs.size≤X.env.locals
 inj:∀ x y c,X.env.cells.lookup x=some c→X.env.cells.lookup y=some c→x=y
 has:∀ x,(X.env.kindOf x=some .cell∨X.env.kindOf x=some .free)→∃ c,X.env.cells.lookup x=some c
 cab:∀ x c,X.fn x=true→X.env.cells.lookup x=some c→X.s₀.heap.objs.size≤c
 hd:X.calm=true→X.A.handled=none
 frames:X.A.frames=some X.stack
 stk:X.stack=X.outer∨(X.stack=X.env::X.outer∧X.env.frame=some X.env.locals)
 exf:∀ b∈X.ex,b≠X.env.locals∧∀ x c,X.env.cells.lookup x=some c→c≠b
 bs:∀ b o,X.base.get? b=some o→X.s₀.heap.get? b=some o∧X.H₀ b=none
 bsz:X.base.objs.size≤X.s₀.heap.objs.size
 noex:∀ b o,X.base.get? b=some o→b∉X.ex
 exfs:∀ b∈X.ex,b∉X.fs
 funs:X.s₀.heap.FunFrames X.base X.outer
 frf:∀ b∈X.fs,X.H₀ b=none
structure Inv (X:Cx)(pins:List (Addr×Obj))(σ:List (Option V))(H:Hp)(s:Shared):Prop where
 ok:X.Ok
 os:s.os=X.s₀.os
 bare:AllBare s.gens
 base:Un X.fs X.ex X.H₀ H X.s₀.heap s.heap
 loc:∃ m,s.heap.Ns X.env.locals m∧∀ (i:Nat) (x:Str) (v:V),X.N[i]?=some x→σ[i]?=some (some v)→Vis X.env.scope x→∃ u,RelV v u∧Look X.env s.heap m x u
 cell:∀ x c,X.env.cells.lookup x=some c→∃ v,s.heap.IsCell c v
 free:H X.env.locals=none
 freeC:∀ x c,X.env.cells.lookup x=some c→H c=none
 pin:∀ p∈X.pn++pins,s.heap.get? p.1=some p.2∧H p.1=none∧p.1≠X.env.locals∧p.1∉X.fs∧∀ v,p.2.data≠.cell v
 hok:HOk X.prog X.w H s.heap
 len:σ.length=X.N.length
section
variable {X:Cx}{pins:List (Addr×Obj)}{σ:List (Option V)}{H H':Hp}{s:Shared}{h':Heap}
theorem Cx.Ok.nofr (ok:X.Ok){b:Addr}{o:Obj}(e:X.base.get? b=some o):b∉X.fs:=fun hb=>by
 have:=(ok.funs.mem hb).1
 rw[e]at this;cases this
theorem Inv.bs (I:Inv X pins σ H s):∀ b o,X.base.get? b=some o→s.heap.get? b=some o∧H b=none:=fun b o e =>
 ⟨I.base.keep b o (I.ok.bs b o e).1 (I.ok.bs b o e).2 (I.ok.nofr e) (I.ok.noex b o e),I.base.free b o (I.ok.bs b o e).1 (I.ok.bs b o e).2 (I.ok.noex b o e)⟩
theorem Inv.bk (I:Inv X pins σ H s):∀ b o,X.base.get? b=some o→s.heap.get? b=some o:=fun b o e=>(I.bs b o e).1
theorem Inv.mod (I:Inv X pins σ H s):Mod X.K X.mg X.base:=I.ok.mod
theorem Inv.kIn (I:Inv X pins σ H s):X.K.In s.heap:=I.ok.mod.kin.keeps I.bk
theorem Inv.lt (I:Inv X pins σ H s):X.env.locals < s.heap.objs.size:=let ⟨_,hn,_⟩:=I.loc;hn.lt
theorem Inv.sz (I:Inv X pins σ H s):X.s₀.heap.objs.size≤s.heap.objs.size:=Nat.le_trans I.ok.above (Nat.le_of_lt I.lt)
theorem Inv.nofs (I:Inv X pins σ H s){a:Addr}(h:s.heap.objs.size≤a):a∉X.fs:=fun hb=>by
 obtain⟨_,o,ho,_⟩:=I.ok.funs.mem hb
 exact absurd (Nat.lt_of_lt_of_le (Heap.lt_size ho) (Nat.le_trans I.sz h)) (Nat.lt_irrefl _)
theorem Inv.cne (I:Inv X pins σ H s):∀ x c,X.env.cells.lookup x=some c→c≠X.env.locals:=fun x c e z=>by
 obtain⟨v,o,ho,hd⟩:=I.cell x c e
 obtain⟨m,⟨o',es,ep,ho',hd',_⟩,_⟩:=I.loc
 rw[z,ho']at ho;cases ho;rw[hd']at hd;cases hd
theorem Inv.funs (I:Inv X pins σ H s):s.heap.FunFrames X.base X.outer:=by
 have all:∀ (l:List Env),(∀ b∈frs l,b∈X.fs)→X.s₀.heap.FunFrames X.base l→s.heap.FunFrames X.base l:=by
  intro l
  induction l with
  | nil=>intro _ _;trivial
  | cons env r ih =>
   intro hs hl
   obtain⟨hk,⟨L,o,hf,hn,ho,hd⟩,hr⟩:=hl
   have hL:L∈X.fs:=hs L (by unfold frs;rw[List.filterMap_cons,hf];exact List.mem_cons_self)
   obtain⟨sl,e⟩:=I.base.slot L o ho (I.ok.frf L hL) hL fun z=>I.ok.exfs L z hL
   exact⟨hk,⟨L,_,hf,hn,e,hd⟩,ih (fun b hb=>hs b (by unfold frs;rw[List.filterMap_cons,hf];exact List.mem_cons_of_mem _ hb)) hr⟩
 exact all X.outer (fun _ hb=>hb) I.ok.funs
theorem Inv.stack (I:Inv X pins σ H s):s.heap.FunFrames X.base X.stack:=by
 rcases I.ok.stk with e | ⟨e,hf⟩
 ·rw[e];exact I.funs
 ·rw[e]
  obtain⟨m,hn,_⟩:=I.loc
  refine .cons (by rw[I.ok.kind];decide) hf hn ?_ I.funs
  exact Heap.get?_none_of_le (Nat.le_trans I.ok.bsz I.ok.above)
theorem Inv.stkSub (I:Inv X pins σ H s):∀ b∈frs X.stack,b∈X.env.locals::X.fs:=fun b hb=>by
 rcases I.ok.stk with e | ⟨e,hf⟩
 ·rw[e]at hb;exact List.mem_cons_of_mem _ hb
 ·rw[e]at hb
  unfold frs at hb
  rw[List.filterMap_cons,hf]at hb
  exact hb
theorem Inv.stkFree (I:Inv X pins σ H s):∀ b∈frs X.stack,H b=none:=fun b hb=>by
 rcases List.mem_cons.mp (I.stkSub b hb) with e | hb
 ·rw[e];exact I.free
 ·obtain⟨_,o,ho,_⟩:=I.ok.funs.mem hb
  exact I.base.free b o ho (I.ok.frf b hb) fun z=>I.ok.exfs b z hb
theorem Inv.step {g':Array GenState}{t':Nat}{d':Drawn}{ch:List Addr}(I:Inv X pins σ H s)
  (hch:∀ b∈ch,(b∈X.ex∨X.s₀.heap.objs.size≤b)∧b≠X.env.locals∧(∀ x c,X.env.cells.lookup x=some c→c≠b)∧∀ p∈X.pn++pins,p.1≠b)
  (keep:∀ b o,b≠X.env.locals→b∉X.fs→b∉ch→s.heap.get? b=some o→H b=none→h'.get? b=some o)
  (slot:∀ b o,b≠X.env.locals→b∈X.fs→b∉ch→s.heap.get? b=some o→H b=none→∃ sl,h'.get? b=some { o with slots:=sl }) (free:∀ b o,b∉ch→s.heap.get? b=some o→H b=none→H' b=none)
  (there:∀ b o,b∉ch→s.heap.get? b=some o→∃ o',h'.get? b=some o')
  (tups:∀ b xs,H b=some (.tup xs)→H' b=some (.tup xs)) (frzs:∀ b o u,H b=some (.frz o u)→H' b=some (.frz o u)) (tbls:∀ b ps,H b=some (.tbl ps)→∃ more,H' b=some (.tbl (ps++more)))
  (ns:∀ m,s.heap.Ns X.env.locals m→h'.Ns X.env.locals m) (hok:HOk X.prog X.w H' h') (hg:AllBare g') :
  Inv X pins σ H' { s with heap:=h',gens:=g',drawn:=d',toks:=t' }:=by
 have neL:∀ b o,X.s₀.heap.get? b=some o→b≠X.env.locals:=fun b o e=>Nat.ne_of_lt (Nat.lt_of_lt_of_le (Heap.lt_size e) I.ok.above)
 have neC:∀ b o,X.s₀.heap.get? b=some o→b∉X.ex→b∉ch:=fun b o e hx hb=>by
  rcases(hch b hb).1 with z | z
  ·exact hx z
  ·exact absurd (Nat.lt_of_lt_of_le (Heap.lt_size e) z) (Nat.lt_irrefl _)
 have cellK:∀ x c,X.env.cells.lookup x=some c→∀ v,s.heap.IsCell c v→h'.IsCell c v:=fun x c e v ⟨o,ho,hd⟩=>by
  have nch:c∉ch:=fun z=>(hch c z).2.2.1 x c e rfl
  by_cases hc:c∈X.fs
  ·obtain⟨sl,q⟩:=slot c o (I.cne x c e) hc nch ho (I.freeC x c e)
   exact⟨_,q,hd⟩
  ·exact⟨o,keep c o (I.cne x c e) hc nch ho (I.freeC x c e),hd⟩
 refine⟨I.ok,I.os,hg,⟨fun b o e n hb hx=>?_,fun b o e n hb hx=>?_,fun b o e n hx=>?_,fun b o e hx=>?_,fun b xs e=>tups b xs (I.base.tups b xs e),fun b o xs e=>frzs b o xs (I.base.frzs b o xs e),fun b ps e=>?_⟩,?_,fun x c e=>?_,?_,fun x c e=>?_,fun p hp=>?_,hok,I.len⟩
 ·exact keep b o (neL b o e) hb (neC b o e hx) (I.base.keep b o e n hb hx) (I.base.free b o e n hx)
 ·obtain⟨sl,e1⟩:=I.base.slot b o e n hb hx
  obtain⟨sl',e2⟩:=slot b _ (neL b o e) hb (neC b o e hx) e1 (I.base.free b o e n hx)
  exact⟨sl',e2⟩
 ·obtain⟨o',e1⟩:=I.base.there b o e hx
  exact free b o' (neC b o e hx) e1 (I.base.free b o e n hx)
 ·obtain⟨o',e1⟩:=I.base.there b o e hx
  exact there b o' (neC b o e hx) e1
 ·obtain⟨m1,e1⟩:=I.base.tbls b ps e
  obtain⟨m2,e2⟩:=tbls b _ e1
  exact⟨m1++m2,by rw[e2,Array.append_assoc]⟩
 ·obtain⟨m,hn,hl⟩:=I.loc
  refine⟨m,ns m hn,fun i x v e1 e2 e3=>?_⟩
  obtain⟨u,r,l⟩:=hl i x v e1 e2 e3
  refine⟨u,r,?_⟩
  rcases l with l | ⟨k,c,e,z⟩
  ·exact .inl l
  ·exact .inr ⟨k,c,e,cellK x c e _ z⟩
 ·obtain⟨v,z⟩:=I.cell x c e
  exact⟨v,cellK x c e v z⟩
 ·obtain⟨m,⟨o,_,_,ho,_⟩,_⟩:=I.loc
  exact free _ o (fun z=>(hch _ z).2.1 rfl) ho I.free
 ·obtain⟨v,o,ho,hd⟩:=I.cell x c e
  exact free c o (fun z=>(hch c z).2.2.1 x c e rfl) ho (I.freeC x c e)
 ·obtain⟨e,n,ne,nf,d⟩:=I.pin p hp
  have nch:p.1∉ch:=fun z=>(hch p.1 z).2.2.2 p hp rfl
  exact⟨keep p.1 p.2 ne nf nch e n,free p.1 p.2 nch e n,ne,nf,d⟩
theorem Inv.un {t':Nat}(I:Inv X pins σ H s)(u:Un X.fs [] H H' s.heap h')(hok:HOk X.prog X.w H' h'):Inv X pins σ H' { s with heap:=h',toks:=t' }:=by
 obtain⟨m,⟨o,es,ep,ho,r⟩,_⟩:=id I.loc
 obtain⟨sl,hL⟩:=u.any ho I.free (by simp)
 exact I.step (g':=s.gens) (d':=s.drawn) (ch:=[]) (fun _ z=>nomatch z) (fun b o _ hb _ e n=>u.keep b o e n hb (by simp)) (fun b o _ hb _ e n=>u.slot b o e n hb (by simp)) (fun b o _ e n=>u.free b o e n (by simp)) (fun b o _ e=>u.there b o e (by simp)) u.tups u.frzs u.tbls (fun m' hm=>by
  obtain⟨o',es',ep',ho',r'⟩:=hm
  rw[ho]at ho';cases ho'
  exact⟨_,es',ep',hL,r'⟩) hok I.bare
theorem Inv.call {g':Array GenState}{t':Nat}{d':Drawn}{ch:List Addr}(I:Inv X pins σ H s)(u:Un (frs X.stack) ch H H' s.heap h')(hok:HOk X.prog X.w H' h')(hg:AllBare g')
  (hch:∀ b∈ch,(b∈X.ex∨X.s₀.heap.objs.size≤b)∧b≠X.env.locals∧(∀ x c,X.env.cells.lookup x=some c→c≠b)∧∀ p∈X.pn++pins,p.1≠b) :
  Inv X pins σ H' { s with heap:=h',gens:=g',drawn:=d',toks:=t' }:=by
 obtain⟨m,⟨o,es,ep,ho,r⟩,_⟩:=id I.loc
 obtain⟨sl,hL⟩:=u.any ho I.free fun z=>(hch _ z).2.1 rfl
 exact I.step (ch:=ch) hch (fun b o hL hb hc e n=>u.keep b o e n (fun z=>(List.mem_cons.mp (I.stkSub b z)).elim hL hb) hc) (fun b o _ _ hc e n=>u.any e n hc) (fun b o hc e n=>u.free b o e n hc) (fun b o hc e=>u.there b o e hc) u.tups u.frzs u.tbls (fun m' hm=>by
  obtain⟨o',es',ep',ho',r'⟩:=hm
  rw[ho]at ho';cases ho'
  exact⟨_,es',ep',hL,r'⟩) hok hg
theorem Inv.turned {t':Nat}{it:Addr}(I:Inv X pins σ H s)(k:∀ b o,b≠it→s.heap.get? b=some o→h'.get? b=some o)(hn:H it=none)(hL:it≠X.env.locals)
  (h1:it∈X.ex∨X.s₀.heap.objs.size≤it) (h2:∀ x c,X.env.cells.lookup x=some c→c≠it) (h3:∀ p∈X.pn++pins,p.1≠it):Inv X pins σ H { s with heap:=h',toks:=t' }:=by
 have nit:∀ b u,H b=some u→b≠it:=fun b u e z=>by rw[z,hn]at e;cases e
 refine I.step (g':=s.gens) (d':=s.drawn) (ch:=[it]) (fun b hb=>?_) (fun b o _ _ hc e _=>k b o (fun z=>hc (by simp[z])) e) (fun b o _ _ hc e _=>⟨o.slots,k b o (fun z=>hc (by simp[z])) e⟩) (fun _ _ _ _ n=>n)
  (fun b o hc e=>⟨o,k b o (fun z=>hc (by simp[z])) e⟩) (fun _ _ e=>e) (fun _ _ _ e=>e) (fun b ps e=>⟨#[],by rw[e];simp⟩) (fun m hm=>?_) (fun b u e=>?_) I.bare
 ·have e:b=it:=by simpa using hb
  subst e
  exact⟨h1,hL,h2,h3⟩
 ·obtain⟨o,es,ep,ho,r⟩:=hm
  exact⟨o,es,ep,k _ o (Ne.symm hL) ho,r⟩
 ·refine(I.hok b u e).stay (fun c v hc q=>k c v ?_ q) (fun _ q=>q) fun _ _ q=>q
  rcases hc with z | z
  ·rw[z];exact nit b u e
  ·exact nit c _ z
theorem Inv.tok (I:Inv X pins σ H s)(t:Nat):Inv X pins σ H { s with toks:=t }:=I.un (h':=s.heap) (t':=t) Un.refl I.hok
theorem Inv.kept {t':Nat}(I:Inv X pins σ H s)(k:∀ b u,s.heap.get? b=some u→h'.get? b=some u):Inv X pins σ H { s with heap:=h',toks:=t' }:=I.un (Un.kept k) (I.hok.kept k)
theorem Inv.laid {a:Addr}{o:HO}{t':Nat}(I:Inv X pins σ H s)(k:∀ b u,s.heap.get? b=some u→h'.get? b=some u)(hp:s.heap.objs.size≤a)(new:ObjOk X.prog X.w (upd H a o) h' a o) :
  Inv X pins σ (upd H a o) { s with heap:=h',toks:=t' }:=I.un (Un.laid k hp (I.hok.fresh hp)) (I.hok.laid k hp new)
theorem Inv.write {x e:Addr}{o:HO}{t':Nat}(I:Inv X pins σ H s)(mu:Mut (H x))(he:e=x∨H e=some (.own x))(k:∀ b u,b≠e→s.heap.get? b=some u→h'.get? b=some u)(heo:∃ u,h'.get? e=some u)
  (new:ObjOk X.prog X.w (upd H x o) h' x o):Inv X pins σ (upd H x o) { s with heap:=h',toks:=t' }:=I.un (Un.write mu he k heo) (I.hok.write mu he k heo new)
theorem Inv.pins_of {pins':List (Addr×Obj)}(I:Inv X pins σ H s)(h:∀ p∈pins',s.heap.get? p.1=some p.2∧H p.1=none∧p.1≠X.env.locals∧p.1∉X.fs∧∀ v,p.2.data≠.cell v):Inv X pins' σ H s :=
 ⟨I.ok,I.os,I.bare,I.base,I.loc,I.cell,I.free,I.freeC,fun p hp=>(List.mem_append.mp hp).elim (fun z=>I.pin p (List.mem_append_left _ z)) (h p),I.hok,I.len⟩
theorem kS {N:List Str}(hN:N.Nodup){i j:Nat}{x:Str}(a:N[i]?=some x)(b:N[j]?=some x):i=j:=by
 obtain⟨h1,e1⟩:=List.getElem?_eq_some_iff.mp a
 obtain⟨h2,e2⟩:=List.getElem?_eq_some_iff.mp b
 exact(List.getElem_inj hN).mp (e1.trans e2.symm)
theorem mY {M:Model}{A:Around}{E:Value→Shared→Prop}{i:Nat}{x:Str}{v:V}{u:Value}{Q:Unit→Shared→Prop}(I:Inv X pins σ H s)(hN:X.N.Nodup)(hi:X.N[i]?=some x)(hx:Loc X.env.scope x)(r:RelV v u)
  (h:∀ s',Inv X pins (σ.set i (some v)) H s'→(∃ a,Heap.SameBut a s.heap s'.heap∧(a=X.env.locals∨X.env.cells.lookup x=some a))→Q () s') (hf:X.fn x=true∨X.env.scope.names.lookup x=some .local:=by first | exact .inl rfl | exact .inr rfl | assumption):wpAny M A (storeName X.env x u) Q E s:=by
 obtain⟨m,hn,hl⟩:=id I.loc
 have hcls:(X.env.scope.kind==.class||(X.env.scope.kind==.module&&X.env.locals != X.env.globals))=false:=by rw[I.ok.kind];rfl
 have hiσ:i < σ.length:=by rw[I.len];exact(List.getElem?_eq_some_iff.mp hi).1
 have cne:=I.cne
 have tracked:∀ {a:Addr} {h':Heap},(∃ o,s.heap.get? a=some o∧H a=none)→Heap.SameBut a s.heap h'→HOk X.prog X.w H h':=fun {a h'} ha hs b ob e=>by
  obtain⟨_,_,hfree⟩:=ha
  refine(I.hok b ob e).stay (fun c w' hc q=>(hs.2 c ?_).trans q) (fun _ q=>q) fun _ _ q=>q
  rintro rfl
  rcases hc with rfl | hc
  ·rw[hfree]at e;cases e
  ·rw[hfree]at hc;cases hc
 rcases hx with hk | hk
 ·refine wpAny_storeName_local hk hn (fun h' hn' hs=>?_) hcls
  obtain⟨oL,_,_,hoL,_⟩:=id hn
  refine h _ ⟨I.ok,I.os,I.bare,⟨fun b o e n hb hx=>?_,fun b o e n hb hx=>?_,I.base.free,fun b o e hx=>?_,I.base.tups,I.base.frzs,I.base.tbls⟩,⟨_,hn',fun j y v' e1 e2 e3=>?_⟩,fun y c e=>?_,I.free,I.freeC,fun p hp=>?_,tracked ⟨oL,hoL,I.free⟩ hs,by simpa using I.len⟩ ⟨_,hs,.inl rfl⟩
  ·exact(hs.2 b (Nat.ne_of_lt (Nat.lt_of_lt_of_le (Heap.lt_size e) I.ok.above))).trans (I.base.keep b o e n hb hx)
  ·obtain⟨sl,e1⟩:=I.base.slot b o e n hb hx
   exact⟨sl,(hs.2 b (Nat.ne_of_lt (Nat.lt_of_lt_of_le (Heap.lt_size e) I.ok.above))).trans e1⟩
  ·obtain⟨o',e1⟩:=I.base.there b o e hx
   exact⟨o',(hs.2 b (Nat.ne_of_lt (Nat.lt_of_lt_of_le (Heap.lt_size e) I.ok.above))).trans e1⟩
  ·by_cases hj:j=i
   ·subst hj
    rw[hi]at e1;cases e1
    rw[List.getElem?_set_self hiσ]at e2
    cases e2
    exact⟨u,r,.inl ⟨hk,by simp⟩⟩
   ·rw[List.getElem?_set_ne (Ne.symm hj)]at e2
    obtain⟨u',r',q⟩:=hl j y v' e1 e2 e3
    refine⟨u',r',?_⟩
    rcases q with ⟨k,e⟩ | ⟨k,c,e,z⟩
    ·refine .inl ⟨k,?_⟩
     have:y≠x:=fun e=>hj (kS hN e1 (e ▸ hi))
     simp[this,e]
    ·exact .inr ⟨k,c,e,z.sameBut hs (cne y c e)⟩
  ·obtain⟨w',z⟩:=I.cell y c e
   exact⟨w',z.sameBut hs (cne y c e)⟩
  ·obtain⟨e,n,ne,nf,d⟩:=I.pin p hp
   exact⟨(hs.2 p.1 ne).trans e,n,ne,nf,d⟩
 ·have hfn:X.fn x=true:=by
   rcases hf with z | z
   ·exact z
   ·rw[z]at hk;cases hk
  obtain⟨c,hc⟩:=I.ok.has x (.inl hk)
  obtain⟨w',z⟩:=I.cell x c hc
  refine wpAny_storeName_cell I.ok.kind hk hc z (fun h' hc' hs=>?_)
  obtain⟨oc,hoc,hocd⟩:=id z
  refine h { s with heap:=h' } ⟨I.ok,I.os,I.bare,⟨fun b o e n hb hx=>?_,fun b o e n hb hx=>?_,I.base.free,fun b o e hx=>?_,I.base.tups,I.base.frzs,I.base.tbls⟩,⟨m,hn.sameBut hs (Ne.symm (cne x c hc)),fun j y v' e1 e2 e3=>?_⟩,fun y c' e=>?_,I.free,I.freeC,fun p hp=>?_,tracked ⟨oc,hoc,I.freeC x c hc⟩ hs,by simpa using I.len⟩ ⟨c,hs,.inr hc⟩
  ·exact(hs.2 b (Nat.ne_of_lt (Nat.lt_of_lt_of_le (Heap.lt_size e) (I.ok.cab x c hfn hc)))).trans (I.base.keep b o e n hb hx)
  ·obtain⟨sl,e1⟩:=I.base.slot b o e n hb hx
   exact⟨sl,(hs.2 b (Nat.ne_of_lt (Nat.lt_of_lt_of_le (Heap.lt_size e) (I.ok.cab x c hfn hc)))).trans e1⟩
  ·obtain⟨o',e1⟩:=I.base.there b o e hx
   exact⟨o',(hs.2 b (Nat.ne_of_lt (Nat.lt_of_lt_of_le (Heap.lt_size e) (I.ok.cab x c hfn hc)))).trans e1⟩
  ·by_cases hj:j=i
   ·subst hj
    rw[hi]at e1;cases e1
    rw[List.getElem?_set_self hiσ]at e2
    cases e2
    exact⟨u,r,.inr ⟨.inl hk,c,hc,hc'⟩⟩
   ·rw[List.getElem?_set_ne (Ne.symm hj)]at e2
    obtain⟨u',r',q⟩:=hl j y v' e1 e2 e3
    refine⟨u',r',?_⟩
    rcases q with q | ⟨k,c',e,z'⟩
    ·exact .inl q
    ·refine .inr ⟨k,c',e,z'.sameBut hs ?_⟩
     rintro rfl
     exact hj (kS hN e1 (I.ok.inj _ _ _ e hc ▸ hi))
  ·by_cases hcc:c'=c
   ·subst hcc;exact⟨_,hc'⟩
   ·obtain⟨w2,z2⟩:=I.cell y c' e
    exact⟨w2,z2.sameBut hs hcc⟩
  ·obtain⟨e,n,ne,nf,d⟩:=I.pin p hp
   refine⟨(hs.2 p.1 ?_).trans e,n,ne,nf,d⟩
   intro q
   rw[q,hoc]at e
   have q':oc=p.2:=Option.some.inj e
   exact d w' (by rw[← q'];exact hocd)
theorem iS {M:Model}{A:Around}{E:Value→Shared→Prop}{i:Nat}{x:Str}{v:V}{u:Value}{Q:Unit→Shared→Prop}(I:Inv X pins σ H s)(hN:X.N.Nodup)(hi:X.N[i]?=some x)(hx:Loc X.env.scope x)(r:RelV v u)
  (h:∀ s',Inv X pins (σ.set i (some v)) H s'→Q () s') (hf:X.fn x=true∨X.env.scope.names.lookup x=some .local:=by first | exact .inl rfl | exact .inr rfl | assumption):wpAny M A (storeName X.env x u) Q E s :=
 mY I hN hi hx r (fun s' I' _=>h s' I') hf
theorem Inv.call' {s':Shared}{ch:List Addr}(I:Inv X pins σ H s)(ho:s'.os=s.os)(u:Un (frs X.stack) ch H H' s.heap s'.heap)(hok:HOk X.prog X.w H' s'.heap)(hg:AllBare s'.gens)
  (hch:∀ b∈ch,(b∈X.ex∨X.s₀.heap.objs.size≤b)∧b≠X.env.locals∧(∀ x c,X.env.cells.lookup x=some c→c≠b)∧∀ p∈X.pn++pins,p.1≠b):Inv X pins σ H' s':=by
 obtain⟨h',g',d',t',o'⟩:=s'
 have e:o'=s.os:=ho
 subst e
 exact I.call (g':=g') (t':=t') (d':=d') u hok hg hch
end
abbrev XK:=Value→Option Addr→Hp→Prop
abbrev St:=List (Option V)
abbrev VK:=V→Hp→Prop
abbrev TE:=St→Hp→VK→Prop
abbrev TT:=St→Hp→(Bool→Hp→Prop)→Prop
abbrev TA:=St→Hp→(List V→Hp→Prop)→Prop
structure Ends where
 nx:St→Hp→Prop
 rt:VK
 bk:St→Hp→Prop:=fun _ _=>False
 ct:St→Hp→Prop:=fun _ _=>False
abbrev TS:=Ends→St→Hp→Prop
def EP (X:Cx)(pins:List (Addr×Obj))(σ:St)(Q:VK)(u:Value)(s':Shared):Prop:=∃ v H',Inv X pins σ H' s'∧RelV v u∧Q v H'
def TP (X:Cx)(pins:List (Addr×Obj))(σ:St)(Q:Bool→Hp→Prop)(b:Bool)(s':Shared):Prop:=∃ H',Inv X pins σ H' s'∧Q b H'
def AP (X:Cx)(pins:List (Addr×Obj))(σ:St)(Q:List V→Hp→Prop)(us:List Value)(s':Shared):Prop:=∃ vs H',Inv X pins σ H' s'∧Vals vs us∧Q vs H'
def SP (X:Cx)(pins:List (Addr×Obj))(D:Ends)(f:Flow)(s':Shared):Prop :=
 match f with
 | .next=>∃ σ' H',Inv X pins σ' H' s'∧D.nx σ' H'
 | .brk=>∃ σ' H',Inv X pins σ' H' s'∧D.bk σ' H'
 | .cont=>∃ σ' H',Inv X pins σ' H' s'∧D.ct σ' H'
 | .ret u=>∃ v σ' H',Inv X pins σ' H' s'∧RelV v u∧D.rt v H'
def PE (X:Cx)(e:Expr)(t:TE):Prop :=
 ∀ (pins:List (Addr×Obj)) (s:Shared) (σ:St) (H:Hp) (Q:VK),Inv X pins σ H s→t σ H Q→wpAny (model X.prog X.w) X.A (eval e X.env) (EP X pins σ Q) X.xe s
def PT (X:Cx)(e:Expr)(t:TT):Prop :=
 ∀ (pins:List (Addr×Obj)) (s:Shared) (σ:St) (H:Hp) (Q:Bool→Hp→Prop),Inv X pins σ H s→t σ H Q→wpAny (model X.prog X.w) X.A (isTrue e X.env (eval e X.env)) (TP X pins σ Q) X.xe s
def PW (X:Cx)(e:Expr)(t:TT):Prop :=
 ∀ (whole:Sem Value) (pins:List (Addr×Obj)) (s:Shared) (σ:St) (H:Hp) (Q:Bool→Hp→Prop),Inv X pins σ H s→t σ H Q→wpAny (model X.prog X.w) X.A (isTrue e X.env whole) (TP X pins σ Q) X.xe s
theorem PW.pt {X:Cx}{e:Expr}{t:TT}(h:PW X e t):PT X e t:=h _
def PA (X:Cx)(es:List Expr)(t:TA):Prop :=
 ∀ (pos:Pos) (pins:List (Addr×Obj)) (s:Shared) (σ:St) (H:Hp) (Q:List V→Hp→Prop),Inv X pins σ H s→t σ H Q→wpAny (model X.prog X.w) X.A (spliced (backTo pos (starEach es X.env))) (AP X pins σ Q) X.xe s
def PS (X:Cx)(st:Stmt)(t:TS):Prop :=
 ∀ (pins:List (Addr×Obj)) (s:Shared) (σ:St) (H:Hp) (D:Ends),Inv X pins σ H s→t D σ H→wpAny (model X.prog X.w) X.A (exec st X.env) (SP X pins D) X.xe s
def PSs (X:Cx)(st:List Stmt)(t:TS):Prop :=
 ∀ (pins:List (Addr×Obj)) (s:Shared) (σ:St) (H:Hp) (D:Ends),Inv X pins σ H s→t D σ H→wpAny (model X.prog X.w) X.A (execs st X.env) (SP X pins D) X.xe s
theorem thn {α:Type}{t:Sem α}{Q Q':α→Shared→Prop}{M:Model}{A:Around}{E:Value→Shared→Prop}{s:Shared}(h:wpAny M A t Q E s)(hQ:∀ a s,Q a s→Q' a s):wpAny M A t Q' E s:=wpAny_mono h hQ fun _ _ x=>x
end L2
namespace L2
open PySem PySem.Spec PyProof.Rows
section
variable {X:Cx}
theorem bin {a b:Expr}{ta tb:TE}(ha:PE X a ta)(hb:PE X b tb){pins:List (Addr×Obj)}{s:Shared}{σ:St}{H:Hp}{R:V→V→Hp→Prop}(I:Inv X pins σ H s)(h:ta σ H fun x H1=>tb σ H1 fun y H2=>R x y H2)
  {α:Type} {Q:α→Shared→Prop} {f:Value→Value→Sem α}
  (hf:∀ v u s2 x y H2,Inv X pins σ H2 s2→RelV x v→RelV y u→R x y H2→wpAny (model X.prog X.w) X.A (f v u) Q X.xe s2) :
  wpAny (model X.prog X.w) X.A (eval a X.env) (fun v s₁=>wpAny (model X.prog X.w) X.A (eval b X.env) (fun u s₂=>wpAny (model X.prog X.w) X.A (f v u) Q X.xe s₂) X.xe s₁) X.xe s:=by
 refine thn (ha pins s σ H _ I h) fun v s1 ⟨x,H1,I1,r1,q1⟩=>?_
 refine thn (hb pins s1 σ H1 _ I1 q1) fun u s2 ⟨y,H2,I2,r2,q2⟩=>?_
 exact hf v u s2 x y H2 I2 r1 r2 q2
def tVar (i:Nat):TE:=fun σ H Q=>∃ v,σ[i]?=some (some v)∧Q v H
def tC (v:V):TE:=fun _ H Q=>Q v H
theorem kT {i:Nat}{x:Str}{pos:Pos}(hN:X.N[i]?=some x)(hv:Vis X.env.scope x)(hd:(x==("__debug__":Str))=false:=by decide)(hcd:(x==("__classdict__":Str))=false:=by decide):PE X (.Name x pos) (tVar i):=by
 intro pins s σ H Q I h
 obtain⟨v,e,h⟩:=h
 obtain⟨m,hn,hl⟩:=I.loc
 obtain⟨u,r,l⟩:=hl i x v hN e hv
 have fin:EP X pins σ Q u s:=⟨v,H,I,r,h⟩
 rcases l with ⟨hk,hm⟩ | ⟨hk,c,hc,hcell⟩
 ·exact wpAny_Name (wpAny_loadName_local I.ok.kind hk hn hm fin) hd
 ·rcases hk with hk | hk
  ·exact wpAny_Name (wpAny_loadName_cell I.ok.kind hk hc hcell fin) hd
  ·exact wpAny_Name (wpAny_loadName_free I.ok.kind hk hc hcell fin hcd) hd
theorem ze {i j pos}:PE X (.Constant (.int i) j pos) (tC (.int i)):=fun _ _ _ H _ I h=>wpAny_Constant_int ⟨.int i,H,I.tok _,⟨_,rfl⟩,h⟩
theorem Av {b j pos}:PE X (.Constant (.bool b) j pos) (tC (.bl b)):=fun _ _ _ H _ I h=>Constant_bool ⟨.bl b,H,I,rfl,h⟩
theorem zf {j pos}:PE X (.Constant .none j pos) (tC .non):=fun _ _ _ H _ I h=>Constant_none ⟨.non,H,I,rfl,h⟩
theorem zg {x j pos}:PE X (.Constant (.str x) j pos) (tC (.str x)):=fun _ _ _ H _ I h=>Calls.Constant_str ⟨.str x,H,I.tok _,⟨_,rfl⟩,h⟩
def Gl (X:Cx)(x:Str):Prop:=X.env.kindOf x=some .globalImplicit
theorem kL {E:Value→Shared→Prop}{pins:List (Addr×Obj)}{s:Shared}{σ:St}{H:Hp}{x:Str}{u:Value}{pos:Pos}{Q:Value→Shared→Prop}(I:Inv X pins σ H s)(hg:Gl X x)(hm:X.mg x=some u)(h:Q u s)
  (hd:(x==("__debug__":Str))=false:=by decide):wpAny (model X.prog X.w) X.A (eval (.Name x pos) X.env) Q E s :=
 Calls.Name_function_global I.ok.kind hg (Calls.loadGlobal_global (by rw[I.ok.glob];exact I.mod.glob.keeps I.bk) hm h) hd
theorem ff {E:Value→Shared→Prop}{pins:List (Addr×Obj)}{s:Shared}{σ:St}{H:Hp}{x:Str}{u:Value}{pos:Pos}{Q:Value→Shared→Prop}(I:Inv X pins σ H s)(hg:Gl X x)(hm:X.mg x=none)(hv:bootBuiltins x=some u)(h:Q u s)
  (hn:x ≠ "__name__" := by decide) (hd:(x==("__debug__":Str))=false:=by decide):wpAny (model X.prog X.w) X.A (eval (.Name x pos) X.env) Q E s:=by
 obtain⟨mb,h1,h2⟩:=I.mod.blt
 exact Calls.Name_function_global I.ok.kind hg (Calls.loadGlobal_builtin (by rw[I.ok.glob];exact I.mod.glob.keeps I.bk) hm (by rw[I.ok.blt];exact h1.keeps I.bk) ((h2 x hn).trans hv) h) hd
theorem br {x:Str}{v:V}{u:Value}{pos:Pos}(hg:Gl X x)(hm:X.mg x=some u)(r:RelV v u)(hd:(x==("__debug__":Str))=false:=by decide):PE X (.Name x pos) (tC v) :=
 fun _ _ _ H _ I h=>kL I hg hm ⟨v,H,I,r,h⟩ hd
theorem aC {x:Str}{v:V}{u:Value}{pos:Pos}(hg:Gl X x)(hm:X.mg x=none)(hv:bootBuiltins x=some u)(r:RelV v u)(hn:x ≠ "__name__" := by decide)(hd:(x==("__debug__":Str))=false:=by decide):PE X (.Name x pos) (tC v) :=
 fun _ _ _ H _ I h=>ff I hg hm hv ⟨v,H,I,r,h⟩ hn hd
variable {a b:Expr}{ta tb:TE}{pos:Pos}
def PC (X:Cx)(op:CmpOp)(a b:Expr)(t:TE):Prop :=
 ∀ (pins:List (Addr×Obj)) (s:Shared) (σ:St) (H:Hp) (Q:VK),Inv X pins σ H s→t σ H Q →
  wpAny (model X.prog X.w) X.A (eval a X.env) (fun v s₁=>wpAny (model X.prog X.w) X.A (eval b X.env) (fun u s₂=>wpAny (model X.prog X.w) X.A (compareOp op v u) (EP X pins σ Q) X.xe s₂) X.xe s₁) X.xe s
theorem nobehind (b:Expr){op:CmpOp}(h:op≠.In)(h2:op≠.NotIn):behindInMarks op b=false:=by
 have e1:(op==CmpOp.In)=false:=by cases op<;>first | rfl | exact absurd rfl h
 have e2:(op==CmpOp.NotIn)=false:=by cases op<;>first | rfl | exact absurd rfl h2
 cases b<;>simp[behindInMarks,e1,e2]
def tB (t:TE):TT:=fun σ H Q=>t σ H fun x H1=>∃ c,x=.bl c∧Q c H1
theorem AY {op:CmpOp}{t:TE}(h:PC X op a b t)(h1:behindInMarks op b=false:=by first | exact nobehind _ (by decide) (by decide) | rfl):PT X (.Compare a [op] [b] pos) (tB t):=by
 intro pins s σ H Q I hw
 refine wpAny_isTrue_Compare1 (thn (h pins s σ H _ I hw) fun v s1 h1=>thn h1 fun u s2 h2=>thn h2 fun c s3 ⟨x,H1,I1,r1,q1⟩=>?_) h1
 obtain⟨d,rfl,q⟩:=q1
 cases r1
 exact wpAny_truthy_bool ⟨H1,I1,q⟩
theorem zh {e:Expr}{t:TE}(h:PE X e t)(he:∀ whole,isTrue e X.env whole=(do let v ← whole;standAt e.pos;holding [v] (truthy v)):=by intro _;rfl):PT X e (tB t):=by
 intro pins s σ H Q I hw
 refine isTrue_plain (thn (h pins s σ H _ I hw) fun v s1 ⟨x,H1,I1,r1,q1⟩=>?_) (he _)
 obtain⟨d,rfl,q⟩:=q1
 cases r1
 exact wpAny_truthy_bool ⟨H1,I1,q⟩
variable {tA tB':TT}{rest:List Expr}
def tAnd (t u:TT):TT:=fun σ H Q=>t σ H fun c H1=>if c=true then u σ H1 Q else Q false H1
def tOr (t u:TT):TT:=fun σ H Q=>t σ H fun c H1=>if c=true then Q true H1 else u σ H1 Q
def tNot (t:TT):TT:=fun σ H Q=>t σ H fun c H1=>Q (!c) H1
theorem xv (ha:PT X a tA):PW X (.BoolOp .And [a] pos) tA:=by
 intro wh pins s σ H Q I h
 refine isTrue_and (thn (ha pins s σ H Q I h) fun c s1 e=>?_)
 cases c with
 | true=>exact isTrue_and_nil e
 | false=>exact e
theorem zi (ha:PT X a tA):PW X (.BoolOp .Or [a] pos) tA:=by
 intro wh pins s σ H Q I h
 refine isTrue_or (thn (ha pins s σ H Q I h) fun c s1 e=>?_)
 cases c with
 | false=>exact isTrue_or_nil e
 | true=>exact e
theorem zj (ha:PT X a tA)(hb:PW X (.BoolOp .And (b::rest) pos) tB'):PW X (.BoolOp .And (a::b::rest) pos) (tAnd tA tB'):=by
 intro wh pins s σ H Q I h
 refine isTrue_and (thn (ha pins s σ H _ I h) fun c s1 ⟨H1,I1,q1⟩=>?_)
 cases c with
 | true=>exact hb wh pins s1 σ H1 Q I1 q1
 | false=>exact⟨H1,I1,q1⟩
theorem Aw (ha:PT X a tA)(hb:PW X (.BoolOp .Or (b::rest) pos) tB'):PW X (.BoolOp .Or (a::b::rest) pos) (tOr tA tB'):=by
 intro wh pins s σ H Q I h
 refine isTrue_or (thn (ha pins s σ H _ I h) fun c s1 ⟨H1,I1,q1⟩=>?_)
 cases c with
 | true=>exact⟨H1,I1,q1⟩
 | false=>exact hb wh pins s1 σ H1 Q I1 q1
theorem zk (ha:PT X a tA):PT X (.UnaryOp .Not a pos) (tNot tA):=by
 intro pins s σ H Q I h
 exact isTrue_not (ha pins s σ H (fun c H1=>Q (!c) H1) I h)
def tAndV (ta tb:TE):TE:=fun σ H Q=>ta σ H fun x H1=>∃ c,x=.bl c∧if c=true then tb σ H1 Q else Q (.bl false) H1
def tOrV (ta tb:TE):TE:=fun σ H Q=>ta σ H fun x H1=>∃ c,x=.bl c∧if c=true then Q (.bl true) H1 else tb σ H1 Q
def tNotV (ta:TE):TE:=fun σ H Q=>ta σ H fun x H1=>∃ c,x=.bl c∧Q (.bl (!c)) H1
theorem zl {op}{t:TE}(h:PE X a t):PE X (.BoolOp op [a] pos) t:=fun pins s σ H Q I hw=>BoolOp_one (h pins s σ H Q I hw)
theorem zm (ha:PE X a ta)(hb:PE X (.BoolOp .And (b::rest) pos) tb):PE X (.BoolOp .And (a::b::rest) pos) (tAndV ta tb):=by
 intro pins s σ H Q I h
 refine BoolOp_and (thn (ha pins s σ H _ I h) fun v s1 ⟨x,H1,I1,r1,q1⟩=>?_)
 obtain⟨c,rfl,q1⟩:=q1
 cases r1
 refine wpAny_truthy_bool ?_
 cases c with
 | true=>exact hb pins s1 σ H1 Q I1 q1
 | false=>exact⟨.bl false,H1,I1,rfl,q1⟩
theorem Ax (ha:PE X a ta)(hb:PE X (.BoolOp .Or (b::rest) pos) tb):PE X (.BoolOp .Or (a::b::rest) pos) (tOrV ta tb):=by
 intro pins s σ H Q I h
 refine BoolOp_or (thn (ha pins s σ H _ I h) fun v s1 ⟨x,H1,I1,r1,q1⟩=>?_)
 obtain⟨c,rfl,q1⟩:=q1
 cases r1
 refine wpAny_truthy_bool ?_
 cases c with
 | false=>exact hb pins s1 σ H1 Q I1 q1
 | true=>exact⟨.bl true,H1,I1,rfl,q1⟩
theorem zo (ha:PE X a ta):PE X (.UnaryOp .Not a pos) (tNotV ta):=by
 intro pins s σ H Q I h
 refine UnaryOp_ (thn (ha pins s σ H _ I h) fun v s1 ⟨x,H1,I1,r1,q1⟩=>?_)
 obtain⟨c,rfl,q1⟩:=q1
 cases r1
 exact not_of (wpAny_truthy_bool ⟨.bl (!c),H1,I1,rfl,q1⟩)
def tIf (t:TT)(ta tb:TE):TE:=fun σ H Q=>t σ H fun c H1=>if c=true then ta σ H1 Q else tb σ H1 Q
theorem vz {c:Expr}(hc:PT X c tA)(ha:PE X a ta)(hb:PE X b tb):PE X (.IfExp c a b pos) (tIf tA ta tb):=by
 intro pins s σ H Q I h
 refine wpAny_IfExp (thn (hc pins s σ H _ I h) fun d s1 ⟨H1,I1,q1⟩=>?_)
 cases d with
 | true=>exact ha pins s1 σ H1 Q I1 q1
 | false=>exact hb pins s1 σ H1 Q I1 q1
end
end L2
namespace L2
open PySem PySem.Spec PyProof.Rows
def SqL (K:PySem.W.Frag)(H:Hp)(a:Addr)(xs:List V):Prop :=
 Rd H a (.lst xs) ∨
  ∃ (o:Obj) (its:Array Value) (n:Nat),K.lookup a=some o∧o.cls=.type "list" ∧ o.dict=none∧o.data=.seq its n∧its.size≤sizeLine∧Vals xs its.toList
def SqT (K:PySem.W.Frag)(H:Hp)(a:Addr)(xs:List V):Prop :=
 Rd H a (.tup xs) ∨
  ∃ (o:Obj) (its:Array Value) (n:Nat),K.lookup a=some o∧o.cls=.type "tuple" ∧ o.dict=none∧o.data=.seq its n∧its.size≤sizeLine∧Vals xs its.toList
def absV:Value→Option V
 | .none=>some .non
 | .bool b=>some (.bl b)
 | .int i _=>some (.int i)
 | .str x _=>some (.str x)
 | .bytes b _=>some (.byt b)
 | .float b _=>some (.flt b)
 | .ref a=>some (.ref a)
 | .type n=>some (.ty n)
 | _=>none
theorem RelV.abs {x:V}{u:Value}(r:RelV x u):absV u=some x:=by
 cases x with
 | non=>cases r;rfl
 | bl _=>cases r;rfl
 | int _=>obtain⟨t,rfl⟩:=r;rfl
 | str _=>obtain⟨t,rfl⟩:=r;rfl
 | byt _=>obtain⟨t,rfl⟩:=r;rfl
 | flt _=>obtain⟨t,rfl⟩:=r;rfl
 | ref _=>cases r;rfl
 | ty _=>cases r;rfl
theorem RelV.inj {x y:V}{u:Value}(r:RelV x u)(q:RelV y u):x=y:=Option.some.inj (r.abs.symm.trans q.abs)
theorem Vals.inj:∀ {xs ys:List V} {us:List Value},Vals xs us→Vals ys us→xs=ys
 | _,_,_,.nil,.nil=>rfl
 | _,_,_,.cons r t,.cons r' t'=>by rw[r.inj r',Vals.inj t t']
section
variable {X:Cx}{pins:List (Addr×Obj)}{σ:St}{H:Hp}{s:Shared}{a:Addr}{xs ys:List V}
theorem SqL.of {K:PySem.W.Frag}(h:H a=some (.lst xs)):SqL K H a xs:=.inl (.inl h)
theorem SqT.of {K:PySem.W.Frag}(h:H a=some (.tup xs)):SqT K H a xs:=.inl (.inl h)
theorem Inv.list (I:Inv X pins σ H s)(h:SqL X.K H a xs):∃ its:List Value,Vals xs its∧PlainL s.heap a its.toArray∧xs.length≤sizeLine:=by
 rcases h with h | ⟨o,its,n,hk,hc,hd,hs,hz,r⟩
 ·obtain⟨z,its,n,r,e⟩:=h.ok I.hok
  exact⟨its,r,⟨_,n,e,rfl,rfl,rfl⟩,z⟩
 ·refine⟨its.toList,r,⟨o,n,I.kIn a o hk,hc,hd,by simpa using hs⟩,?_⟩
  have e:=r.length
  simp only[Array.length_toList]at e
  omega
theorem Inv.tuple (I:Inv X pins σ H s)(h:SqT X.K H a xs):∃ its:List Value,Vals xs its∧IsTup s.heap a its.toArray∧xs.length≤sizeLine:=by
 rcases h with h | ⟨o,its,n,hk,hc,_,hs,hz,r⟩
 ·obtain⟨z,its,r,p⟩:=h.ok I.hok
  exact⟨its,r,p.is,z⟩
 ·refine⟨its.toList,r,⟨o,I.kIn a o hk,hc,n,by simpa using hs⟩,?_⟩
  have e:=r.length
  simp only[Array.length_toList]at e
  omega
theorem Inv.list_inj (I:Inv X pins σ H s)(h:SqL X.K H a xs)(h':SqL X.K H a ys):xs=ys:=by
 obtain⟨its,r,⟨o,n,e,_,_,d⟩,_⟩:=I.list h
 obtain⟨its',r',⟨o',n',e',_,_,d'⟩,_⟩:=I.list h'
 rw[e]at e';cases e'
 rw[d]at d'
 injection d' with d1 _
 have:its=its':=by simpa using congrArg Array.toList d1
 subst this
 exact r.inj r'
theorem Inv.tuple_inj (I:Inv X pins σ H s)(h:SqT X.K H a xs)(h':SqT X.K H a ys):xs=ys:=by
 obtain⟨its,r,⟨o,e,_,n,d⟩,_⟩:=I.tuple h
 obtain⟨its',r',⟨o',e',_,n',d'⟩,_⟩:=I.tuple h'
 rw[e]at e';cases e'
 rw[d]at d'
 injection d' with d1 _
 have:its=its':=by simpa using congrArg Array.toList d1
 subst this
 exact r.inj r'
end
section
variable {X:Cx}{pins:List (Addr×Obj)}{σ:St}{H:Hp}{s:Shared}{E:Value→Shared→Prop}
end
section
variable {X:Cx}{st:Stmt}{rest:List Stmt}{t u:TS}{e:Expr}{te:TE}{pos:Pos}
def tNext:TS:=fun D σ H=>D.nx σ H
def tSeq (t u:TS):TS:=fun D σ H=>t { D with nx:=u D } σ H
theorem xw:PSs X [] tNext:=fun _ _ σ H _ I h=>wpAny_execs_nil ⟨σ,H,I,h⟩
theorem eI (h1:PS X st t)(h2:PSs X rest u):PSs X (st::rest) (tSeq t u):=by
 intro pins s σ H D I h
 refine wpAny_execs_cons (thn (h1 pins s σ H { D with nx:=u D } I h) fun f s1 q=>?_)
 cases f with
 | next =>
  obtain⟨σ',H',I',q⟩:=q
  exact h2 pins s1 σ' H' D I' q
 | ret v=>exact q
 | brk=>exact q
 | cont=>exact q
theorem sG (h1:PS X st t):PSs X [st] t:=by
 intro pins s σ H D I h
 refine wpAny_execs_cons (thn (h1 pins s σ H D I h) fun f s1 q=>?_)
 cases f with
 | next=>exact wpAny_execs_nil q
 | ret v=>exact q
 | brk=>exact q
 | cont=>exact q
theorem Inv.quiet {pins:List (Addr×Obj)}{σ:St}{H:Hp}{s:Shared}(I:Inv X pins σ H s):interactive X.env=false:=by simp[interactive,I.ok.kind]
def tDrop (te:TE):TS:=fun D σ H=>te σ H fun _ H1=>D.nx σ H1
theorem nZ (he:PE X e te)(hs:swapsWith e none pos.line X.env=pure false:=by rfl):PS X (.Expr e pos) (tDrop te):=by
 intro pins s σ H D I h
 exact wpAny_Expr_any (thn (he pins s σ H _ I h) fun v s1 ⟨x,H1,I1,r1,q1⟩=>⟨σ,H1,I1,q1⟩) I.quiet hs
def tRet (te:TE):TS:=fun D σ H=>te σ H D.rt
theorem zp (he:PE X e te):PS X (.Return (some e) pos) (tRet te):=by
 intro pins s σ H D I h
 exact wpAny_Return_some (thn (he pins s σ H _ I h) fun v s1 ⟨x,H1,I1,r1,q1⟩=>⟨x,σ,H1,I1,r1,q1⟩)
def tIfS (c:TT)(t u:TS):TS:=fun D σ H=>c σ H fun b H1=>if b=true then t D σ H1 else u D σ H1
theorem Ay {c:Expr}{a b:List Stmt}{tc:TT}(hc:PT X c tc)(ha:PSs X a t)(hb:PSs X b u):PS X (.If c a b pos) (tIfS tc t u):=by
 intro pins s σ H D I h
 refine wpAny_If (thn (hc pins s σ H _ I h) fun d s1 ⟨H1,I1,q1⟩=>?_)
 cases d with
 | true=>exact ha pins s1 σ H1 D I1 q1
 | false=>exact hb pins s1 σ H1 D I1 q1
def tNever:TS:=fun _ _ _=>False
theorem mZ {sts:List Stmt}:PSs X sts tNever:=fun _ _ _ _ _ _ h=>h.elim
end
abbrev TG:=V→St→Hp→(St→Hp→Prop)→Prop
abbrev TGs:=List V→St→Hp→(St→Hp→Prop)→Prop
def PG (X:Cx)(target:Expr)(t:TG):Prop :=
 ∀ (pins:List (Addr×Obj)) (s:Shared) (σ:St) (H:Hp) (v:V) (u:Value) (Q:St→Hp→Prop),Inv X pins σ H s→RelV v u→t v σ H Q →
  wpAny (model X.prog X.w) X.A (assign target X.env u) (fun _ s'=>∃ σ' H',Inv X pins σ' H' s'∧Q σ' H') X.xe s
def PGs (X:Cx)(ts:List Expr)(t:TGs):Prop :=
 ∀ (pins:List (Addr×Obj)) (s:Shared) (σ:St) (H:Hp) (vs:List V) (us:List Value) (Q:St→Hp→Prop),Inv X pins σ H s→Vals vs us→t vs σ H Q →
  wpAny (model X.prog X.w) X.A (assignInOrder ((assignEach ts X.env).map (·.2)) us) (fun _ s'=>∃ σ' H',Inv X pins σ' H' s'∧Q σ' H') X.xe s
section
variable {X:Cx}{pos:Pos}
def gName (i:Nat):TG:=fun v σ H Q=>Q (σ.set i (some v)) H
theorem fg {i:Nat}{x:Str}(hN:X.N.Nodup)(hi:X.N[i]?=some x)(hx:Loc X.env.scope x)(hf:X.fn x=true∨X.env.scope.names.lookup x=some .local:=by first | exact .inl rfl | exact .inr rfl | assumption):PG X (.Name x pos) (gName i):=by
 intro pins s σ H v u Q I r h
 exact wpAny_assign_Name (iS I hN hi hx r (fun s' I'=>⟨_,H,I',h⟩) hf)
def gNil:TGs:=fun vs σ H Q=>vs=[]∧Q σ H
def gCons (t:TG)(u:TGs):TGs:=fun vs σ H Q=>∃ v r,vs=v::r∧t v σ H fun σ' H'=>u r σ' H' Q
theorem n3:PGs X [] gNil:=by
 intro pins s σ H vs us Q I r h
 obtain⟨e,h⟩:=h
 subst e
 cases r
 exact assignInOrder_nil ⟨σ,H,I,h⟩
theorem eJ {e:Expr}{es:List Expr}{t:TG}{u:TGs}(h1:PG X e t)(h2:PGs X es u)
  (hs:(assignEach (e::es) X.env).map (·.2)=assign e X.env::(assignEach es X.env).map (·.2):=by rfl):PGs X (e::es) (gCons t u):=by
 intro pins s σ H vs us Q I r h
 obtain⟨v,vr,e1,h⟩:=h
 subst e1
 cases r with
 | cons r rr =>
  rw[hs]
  refine assignInOrder_cons (thn (h1 pins s σ H _ _ _ I r h) fun _ s1 ⟨σ1,H1,I1,q1⟩=>?_)
  exact h2 pins s1 σ1 H1 _ _ Q I1 rr q1
def gTup (K:PySem.W.Frag)(n:Nat)(t:TGs):TG:=fun v σ H Q=>∃ a xs,v=.ref a∧SqT K H a xs∧xs.length=n∧t xs σ H Q
theorem vA {es:List Expr}{k:Nat}{t:TGs}{n:Nat}(hc:X.calm=true)(h:PGs X es t)
  (hn:(assignEach es X.env).length=n:=by rfl) (hst:(assignEach es X.env).findIdx? (·.1)=none:=by rfl):PG X (.Tuple es k pos) (gTup X.K n t):=by
 intro pins s σ H v u Q I r hw
 obtain⟨a,xs,e1,hq,hl,hw⟩:=hw
 subst e1
 cases r
 obtain⟨its,rv,ht,hz⟩:=I.tuple hq
 refine assign_Tuple_tuple (I.ok.hd hc) ht (by simp[hn,← hl,rv.length]) hst fun h' hx=>?_
 have I1:Inv X pins σ H { s with heap:=h' }:=I.kept (t':=s.toks) fun b o e=>hx b o (Nat.ne_of_lt (Heap.lt_size e)) e
 exact h pins _ σ H xs _ Q I1 (by simpa using rv) hw
def tAsg (te:TE)(g:TG):TS:=fun D σ H=>te σ H fun x H1=>g x σ H1 D.nx
theorem zq {tg e:Expr}{te:TE}{g:TG}(he:PE X e te)(hg:PG X tg g)(hs:swapsWithSole [tg] e pos.line X.env=pure false:=by rfl)(hw:swappedStores [tg] e X.env=pure none:=by rfl)
  (h1:(assignEach [tg] X.env).map (·.2)=[assign tg X.env]:=by rfl):PS X (.Assign [tg] e pos) (tAsg te g):=by
 intro pins s σ H D I h
 refine wpAny_Assign_stores (thn (he pins s σ H _ I h) fun v s1 ⟨x,H1,I1,r1,q1⟩=>?_) hs hw
 rw[h1]
 exact thn (hg pins s1 σ H1 x v _ I1 r1 q1) fun _ s2 q=>q
theorem qZ {i:Nat}{x:Str}{e:Expr}{te:TE}{pos':Pos}(hN:X.N.Nodup)(hi:X.N[i]?=some x)(hx:Loc X.env.scope x)(he:PE X e te)(hs:swapsWith e (some (.Name x pos')) pos.line X.env=pure false:=by rfl)(hf:X.fn x=true∨X.env.scope.names.lookup x=some .local:=by first | exact .inl rfl | exact .inr rfl | assumption) :
  PS X (.Assign [.Name x pos'] e pos) (tAsg te (gName i)):=by
 intro pins s σ H D I h
 refine wpAny_Assign_Name (thn (he pins s σ H _ I h) fun v s1 ⟨y,H1,I1,r1,q1⟩=>?_) hs
 exact iS I1 hN hi hx r1 (fun s2 I2=>⟨_,H1,I2,q1⟩) hf
end
section
variable {X:Cx}{pos:Pos}
end
structure It where
 go:Nat→Hp→Prop
 yld:Nat→Hp→V→Hp→Prop
 stop:Nat→Hp→Prop
def FpOk (X:Cx)(pins:List (Addr×Obj))(H:Hp)(b:Addr):Prop :=
 H b=none∧b≠X.env.locals∧b∉X.fs∧(b∈X.ex∨X.s₀.heap.objs.size≤b)∧(∀ x c,X.env.cells.lookup x=some c→c≠b)∧∀ p∈X.pn++pins,p.1≠b
theorem Inv.fpOk {X:Cx}{pins:List (Addr×Obj)}{σ:St}{H H':Hp}{s:Shared}{b:Addr}(I:Inv X pins σ H s)(hb:s.heap.objs.size≤b)(hn:H' b=none):FpOk X pins H' b:=by
 refine⟨hn,Nat.ne_of_gt (Nat.lt_of_lt_of_le I.lt hb),I.nofs hb,.inr (Nat.le_trans I.sz hb),fun x c e z=>?_,fun p hp z=>?_⟩
 ·obtain⟨v,q⟩:=I.cell x c e
  exact absurd (Nat.lt_of_lt_of_le q.lt (by rw[z];exact hb)) (Nat.lt_irrefl _)
 ·exact absurd (Nat.lt_of_lt_of_le (Heap.lt_size (I.pin p hp).1) (by rw[z];exact hb)) (Nat.lt_irrefl _)
structure Turn (P:Program)(w:World)(K:PySem.W.Frag)(tg:Expr)(J:It)(fp:List Addr)(it:Addr)(tn:Nat→Heap→Prop):Prop where
 mem:it∈fp
 obj:∀ i h,tn i h→∀ b∈fp,∃ o,h.get? b=some o∧∀ v,o.data≠.cell v
 keep:∀ i h h',tn i h→(∀ b∈fp,∀ o,h.get? b=some o→h'.get? b=some o)→tn i h'
 item:∀ (X:Cx),X.prog=P→X.w=w→X.K=K→X.calm=true→∀ (i:Nat) (pins:List (Addr×Obj)) (s:Shared) (σ:St) (H:Hp) (E:Value→Shared→Prop),Inv X pins σ H s→(∀ b∈fp,FpOk X pins H b)→tn i s.heap→J.go i H →
  wpAny (model P w) X.A (pyNext (.ref it)) (fun r s1=>∃ u,r=some u ∧
   wpAny (model P w) X.A (letOwnedTupleGo tg (.ref it) u) (fun _ s2=>∃ x H',Inv X pins σ H' s2∧RelV x u∧J.yld i H x H'∧tn (i+1) s2.heap∧∀ b∈fp,H' b=none) E s1) E s
 done:∀ (X:Cx),X.prog=P→X.w=w→X.K=K→X.calm=true→∀ (i:Nat) (pins:List (Addr×Obj)) (s:Shared) (σ:St) (H:Hp) (E:Value→Shared→Prop),Inv X pins σ H s→(∀ b∈fp,FpOk X pins H b)→tn i s.heap→J.stop i H →
  wpAny (model P w) X.A (pyNext (.ref it)) (fun r s1=>r=none∧Inv X pins σ H s1) E s
 self:∀ (A:Around) (i:Nat) (s:Shared) (Q:Value→Shared→Prop) (E:Value→Shared→Prop),tn i s.heap→Q (.ref it) s→wpAny (model P w) A (pyIter (.ref it)) Q E s
abbrev TI:=St→Hp→(It→Hp→Prop)→Prop
def PIE (X:Cx)(pins:List (Addr×Obj))(σ:St)(tg:Expr)(R:It→Hp→Prop)(itv:Value)(s2:Shared):Prop :=
 ∃ (it:Addr) (fp:List Addr) (tn:Nat→Heap→Prop) (J:It) (H':Hp),itv=.ref it∧Inv X pins σ H' s2∧Turn X.prog X.w X.K tg J fp it tn∧tn 0 s2.heap∧(∀ b∈fp,FpOk X pins H' b)∧R J H'
def PI (X:Cx)(tg iter:Expr)(wi:TI):Prop :=
 ∀ (pins:List (Addr×Obj)) (s:Shared) (σ:St) (H:Hp) (R:It→Hp→Prop),Inv X pins σ H s→wi σ H R →
  wpAny (model X.prog X.w) X.A (eval iter X.env) (fun v s1=>wpAny (model X.prog X.w) X.A (pyIter v) (PIE X pins σ tg R) X.xe s1) X.xe s
theorem vB {M:Model}{A:Around}{E:Value→Shared→Prop}{s:Shared}{tg:Expr}{it:Addr}{u:Value}{o:Obj}{n:String}{vs:Array Value}{Q:Unit→Shared→Prop}(ho:s.heap.get? it=some o)(hc:o.cls=.type n)(hd:o.data=.fields vs)
  (hn:["enumerate","zip","dict_itemiterator","dict_reverseitemiterator","odict_iterator","itertools.zip_longest","itertools.pairwise"].contains n=false) (hQ:Q () s):wpAny M A (letOwnedTupleGo tg (.ref it) u) Q E s:=by
 unfold letOwnedTupleGo
 cases tg<;>first
  | exact wpAny_pure hQ
  | (cases u<;>first
    | exact wpAny_pure hQ
    | (refine wpAny_bind (wpAny_load ho ?_)
       rw[hc,hd]
       show wpAny M A (if (["enumerate","zip","dict_itemiterator","dict_reverseitemiterator","odict_iterator","itertools.zip_longest","itertools.pairwise"].contains n&&vs[0]?==some (rawInt _))=true then _ else _) Q E s
       rw[if_neg (by intro h;rw[hn,Bool.false_and]at h;cases h)]
       exact wpAny_pure hQ))
def Itl (K:PySem.W.Frag)(a:Addr):It :=
 ⟨fun i H=>∃ xs x,SqL K H a xs∧xs[i]?=some x,fun i H x H'=>H'=H∧∀ xs,SqL K H a xs→xs[i]?=some x,fun i H=>∃ xs,SqL K H a xs∧xs.length≤i⟩
def Itt (K:PySem.W.Frag)(a:Addr):It :=
 ⟨fun i H=>∃ xs x,SqT K H a xs∧xs[i]?=some x,fun i H x H'=>H'=H∧∀ xs,SqT K H a xs→xs[i]?=some x,fun i H=>∃ xs,SqT K H a xs∧xs.length≤i⟩
def Itr (lo:Int)(n:Nat):It:=⟨fun i _=>i < n,fun i H x H'=>H'=H∧x=.int (lo+i),fun i _=>n≤i⟩
theorem tR {P:Program}{w:World}{K:PySem.W.Frag}{tg:Expr}(a it:Addr):Turn P w K tg (Itl K a) [it] it (fun i h=>h.IsListIter it a i) where
 mem:=by simp
 obj:=fun i h st b hb=>by
  have e:b=it:=by simpa using hb
  subst e
  obtain⟨o,e,c,d⟩:=st
  exact⟨o,e,fun v z=>by rw[d]at z;cases z⟩
 keep:=fun i h h' st k=>st.at fun o e=>k it (by simp) o e
 item:=by
  intro X hP hw hK hc i pins s σ H E I hf st hg
  subst hP hw hK
  obtain⟨xs,x,hq,hx⟩:=hg
  obtain⟨its,rv,p,hz⟩:=I.list hq
  obtain⟨u,hu,ru⟩:=rv.get hx
  obtain⟨f0,f1,f2,f3,f4,f5⟩:=hf it (by simp)
  refine wpAny_pyNext_list_item st p.isList (x:=u) (by simpa using hu) fun h' st' sb=>?_
  have I1:Inv X pins σ H { s with heap:=h' }:=I.turned (t':=s.toks) (fun b o hb e=>(sb.2 b hb).trans e) f0 f1 f3 f4 f5
  obtain⟨o,e,c,d⟩:=id st'
  exact⟨u,rfl,vB (s:={ s with heap:=h' }) e c d (by decide) ⟨x,H,I1,ru,⟨rfl,fun ys hy=>by rw[I.list_inj hy hq];exact hx⟩,st',fun b hb=>(hf b hb).1⟩⟩
 done:=by
  intro X hP hw hK hc i pins s σ H E I hf st hg
  subst hP hw hK
  obtain⟨xs,hq,hx⟩:=hg
  obtain⟨its,rv,p,hz⟩:=I.list hq
  obtain⟨f0,f1,f2,f3,f4,f5⟩:=hf it (by simp)
  have hl:=rv.length
  exact wpAny_pyNext_list_end (I.ok.hd hc) st p.isList (by simp;omega) fun h' eb=>⟨rfl,I.turned (t':=s.toks) (fun b o hb e=>eb b o hb e) f0 f1 f3 f4 f5⟩
 self:=fun _ _ _ _ _ st h=>wpAny_pyIter_listiter st h
theorem q0 {P:Program}{w:World}{K:PySem.W.Frag}{tg:Expr}(a it:Addr):Turn P w K tg (Itt K a) [it] it (fun i h=>h.IsTupleIter it a i) where
 mem:=by simp
 obj:=fun i h st b hb=>by
  have e:b=it:=by simpa using hb
  subst e
  obtain⟨o,e,c,d⟩:=st
  exact⟨o,e,fun v z=>by rw[d]at z;cases z⟩
 keep:=fun i h h' st k=>st.at fun o e=>k it (by simp) o e
 item:=by
  intro X hP hw hK hc i pins s σ H E I hf st hg
  subst hP hw hK
  obtain⟨xs,x,hq,hx⟩:=hg
  obtain⟨its,rv,p,hz⟩:=I.tuple hq
  obtain⟨u,hu,ru⟩:=rv.get hx
  obtain⟨f0,f1,f2,f3,f4,f5⟩:=hf it (by simp)
  refine wpAny_pyNext_tuple_item st (show s.heap.IsTuple a its.toArray from p) (x:=u) (by simpa using hu) fun h' st' sb=>?_
  have I1:Inv X pins σ H { s with heap:=h' }:=I.turned (t':=s.toks) (fun b o hb e=>(sb.2 b hb).trans e) f0 f1 f3 f4 f5
  obtain⟨o,e,c,d⟩:=id st'
  exact⟨u,rfl,vB (s:={ s with heap:=h' }) e c d (by decide) ⟨x,H,I1,ru,⟨rfl,fun ys hy=>by rw[I.tuple_inj hy hq];exact hx⟩,st',fun b hb=>(hf b hb).1⟩⟩
 done:=by
  intro X hP hw hK hc i pins s σ H E I hf st hg
  subst hP hw hK
  obtain⟨xs,hq,hx⟩:=hg
  obtain⟨its,rv,p,hz⟩:=I.tuple hq
  obtain⟨f0,f1,f2,f3,f4,f5⟩:=hf it (by simp)
  have hl:=rv.length
  exact wpAny_pyNext_tuple_end (I.ok.hd hc) st (show s.heap.IsTuple a its.toArray from p) (by simp;omega) fun h' eb=>⟨rfl,I.turned (t':=s.toks) (fun b o hb e=>eb b o hb e) f0 f1 f3 f4 f5⟩
 self:=fun _ _ _ _ _ st h=>wpAny_pyIter_tupleiter st h
theorem q9 {P:Program}{w:World}{K:PySem.W.Frag}{tg:Expr}(it:Addr)(lo:Int)(n:Nat):Turn P w K tg (Itr lo n) [it] it (fun i h=>IsRangeIter h it (lo+(i:Nat)*1) ((n:Int) - (i:Nat)) 1) where
 mem:=by simp
 obj:=fun i h st b hb=>by
  have e:b=it:=by simpa using hb
  subst e
  exact⟨_,st,fun v z=>by
   have z':Data.fields _=Data.cell v:=z
   cases z'⟩
 keep:=fun i h h' st k=>k it (by simp) _ st
 item:=by
  intro X hP hw hK hc i pins s σ H E I hf st hg
  subst hP hw hK
  obtain⟨f0,f1,f2,f3,f4,f5⟩:=hf it (by simp)
  have W:=Walks.range (prog:=X.prog) (w:=X.w) (I.ok.hd hc) it lo 1 n
  refine W.item i s _ _ hg st fun v h' tk hv st' kk=>?_
  obtain⟨t,rfl⟩:=hv
  have I1:Inv X pins σ H { s with heap:=h',toks:=tk }:=I.turned (fun b o hb e=>kk b o (by simpa using hb) e) f0 f1 f3 f4 f5
  refine⟨_,rfl,vB (s:={ s with heap:=h',toks:=tk }) (n := "range_iterator") st' rfl rfl (by decide) ⟨.int (lo+i),H,I1,⟨t,?_⟩,⟨rfl,rfl⟩,st',fun b hb=>(hf b hb).1⟩⟩
  rw[Int.mul_one]
 done:=by
  intro X hP hw hK hc i pins s σ H E I hf st hg
  subst hP hw hK
  obtain⟨f0,f1,f2,f3,f4,f5⟩:=hf it (by simp)
  exact wpAny_pyNext_range_end (I.ok.hd hc) st (by have:n≤i:=hg;omega) fun h' eb=>⟨rfl,I.turned (t':=s.toks) (fun b o hb e=>eb b o hb e) f0 f1 f3 f4 f5⟩
 self:=fun _ _ _ _ _ st h=>wpAny_pyIter_rangeiter st h
end L2
namespace L2
open PySem PySem.Spec PyProof.Rows
section
variable {X:Cx}{tg:Expr}
theorem vC {pins:List (Addr×Obj)}{σ:St}{H:Hp}{s:Shared}{R:It→Hp→Prop}{E:Value→Shared→Prop}{lo hi:Int}{t u v:Tok}{tk:Nat}(I:Inv X pins σ H s)(h1 : -(2^62)≤lo)(h2:lo < 2^62)(h3 : -(2^62)≤hi)(h4:hi < 2^62)
  (q:R (Itr lo (hi - lo).toNat) H):wpAny (model X.prog X.w) X.A (pyIter (.ref s.heap.objs.size)) (PIE X pins σ tg R) E { s with heap:=s.heap.push { cls:=.type "range",data:=.fields #[.int lo t,.int hi u,.int 1 v] },toks:=tk }:=by
 refine wpAny_pyIter_range (IsRange.new ..) (small_one h1 h2 h3 h4) ?_
 have I1:Inv X pins σ H { s with heap:=s.heap.push { cls:=.type "range",data:=.fields #[.int lo t,.int hi u,.int 1 v] },toks:=tk }:=I.kept fun b o e=>Heap.get?_push_of_some _ e
 refine⟨(s.heap.push { cls:=.type "range",data:=.fields #[.int lo t,.int hi u,.int 1 v] }).objs.size,[(s.heap.push { cls:=.type "range",data:=.fields #[.int lo t,.int hi u,.int 1 v] }).objs.size],_,_,H,rfl,
  I1.kept (t':=tk) fun b o e=>Heap.get?_push_of_some _ e,q9 _ lo (hi - lo).toNat,?_,fun b hb=>?_,q⟩
 ·have e1:lo+((0:Nat):Int)*1=lo:=by simp
  have e2:(((hi - lo).toNat:Nat):Int) - ((0:Nat):Int)=Builtin.Range.rangeSize lo hi 1:=by rw[rangeSize_one];split<;>omega
  show IsRangeIter _ _ (lo+((0:Nat):Int)*1) ((((hi - lo).toNat:Nat):Int) - ((0:Nat):Int)) 1
  rw[e1,e2]
  exact Heap.get?_push_size _ rfl
 ·have e:b=(s.heap.push { cls:=.type "range",data:=.fields #[.int lo t,.int hi u,.int 1 v] }).objs.size:=by simpa using hb
  subst e
  exact I1.fpOk (Nat.le_refl _) (I1.hok.fresh (Nat.le_refl _))
def iRng1 (ta:TA):TI:=fun σ H R=>ta σ H fun vs H1=>∃ j:Int,vs=[.int j]∧-(2^62)≤j∧j < 2^62∧R (Itr 0 j.toNat) H1
theorem tU {a:Expr}{ta:TA}{p pos:Pos}(hg:Gl X "range")(hm:X.mg "range"=none)(ha:PA X [a] ta)(hs:starEach [a] X.env=[(false,eval a X.env)]:=by rfl):PI X tg (.Call (.Name "range" p) [a] [] pos) (iRng1 ta):=by
 intro pins s σ H R I h
 refine Call_ (ff I hg hm boot_range (PyProof.Rows.callWith_type1 (thn (ha pos pins s σ H _ I h) fun us s1 ⟨vs,H1,I1,r1,q1⟩=>?_) hs rfl))
 obtain⟨j,e,q1,q2,q⟩:=q1
 subst e
 cases r1 with
 | cons r rr =>
  cases rr
  obtain⟨t,rfl⟩:=r
  exact call_range_1 (vC I1 (by omega) (by omega) q1 q2 (by simpa using q))
def tFor (wi:TI)(g:TG)(tb:TS):TS:=fun D σ H=>wi σ H fun J H1=>∃ W:Nat→Nat→St→Hp→Prop,(∃ m,W 0 m σ H1)∧∀ i m σ H,W i m σ H →
 (J.stop i H∧D.nx σ H)∨(J.go i H∧∃ N:St→Hp→Prop,(∀ σ' H',N σ' H'→∃ m',m' < m∧W (i+1) m' σ' H')∧∀ x H',J.yld i H x H'→g x σ H' fun σ2 H2=>tb { D with nx:=N,ct:=N,bk:=D.nx } σ2 H2)
def pinsAt (fp:List Addr)(h:Heap):List (Addr×Obj):=fp.filterMap fun b=>(h.get? b).map fun o=>(b,o)
theorem fh {fp:List Addr}{h:Heap}{b:Addr}{o:Obj}(hb:b∈fp)(e:h.get? b=some o):(b,o)∈pinsAt fp h:=List.mem_filterMap.mpr ⟨b,hb,by rw[e];rfl⟩
theorem tV {fp:List Addr}{h:Heap}{p:Addr×Obj}(hp:p∈pinsAt fp h):p.1∈fp∧h.get? p.1=some p.2:=by
 obtain⟨b,hb,e⟩:=List.mem_filterMap.mp hp
 cases q:h.get? b with
 | none=>rw[q]at e;cases e
 | some o =>
  rw[q]at e
  have e':(b,o)=p:=Option.some.inj e
  subst e'
  exact⟨hb,q⟩
theorem Inv.pinned {pins:List (Addr×Obj)}{σ:St}{H:Hp}{s:Shared}{fp:List Addr}(I:Inv X pins σ H s)(hf:∀ b∈fp,FpOk X pins H b)(ho:∀ b∈fp,∃ o,s.heap.get? b=some o∧∀ v,o.data≠.cell v):Inv X (pins++pinsAt fp s.heap) σ H s :=
 I.pins_of fun p hp=>(List.mem_append.mp hp).elim (fun z=>I.pin p (List.mem_append_right _ z)) fun z=>by
  obtain⟨hb,e⟩:=tV z
  obtain⟨f0,f1,f2,_⟩:=hf p.1 hb
  obtain⟨o,e',d⟩:=ho p.1 hb
  rw[e]at e';cases e'
  exact⟨e,f0,f1,f2,d⟩
theorem Inv.unpinned {pins pl:List (Addr×Obj)}{σ:St}{H:Hp}{s:Shared}(I:Inv X (pins++pl) σ H s):Inv X pins σ H s:=I.pins_of fun p hp=>I.pin p (List.mem_append_right _ (List.mem_append_left _ hp))
theorem zr {iter:Expr}{body:List Stmt}{wi:TI}{g:TG}{tb:TS}{pos:Pos}(hp:PassesOwn (model X.prog X.w) X.A X.env X.xe)(hc:X.calm=true)(hi:PI X tg iter wi)(hg:PG X tg g)(hb:PSs X body tb)
  (hs:∀ x,foldedSetIterable iter X.env x=pure x:=by intro _;rfl):PS X (.For tg iter body [] pos) (tFor wi g tb):=by
 intro pins s σ H D I h
 refine wpAny_For (thn (hi pins s σ H _ I h) fun v s1 h1=>thn h1 fun itv s2 h2=>?_) hs
 obtain⟨it,fp,tn,J,H2,e,I2,T,st2,f2,W,⟨m0,w0⟩,turn⟩:=h2
 subst e
 have stat:∀ {H':Hp},(∀ b∈fp,H' b=none)→∀ b∈fp,FpOk X pins H' b:=fun hn b hb=>⟨hn b hb,(f2 b hb).2⟩
 refine codeAny_forLoop_any (fun n s'=>∃ i σ' H',Inv X pins σ' H' s'∧tn i s'.heap∧(∀ b∈fp,H' b=none)∧W i n σ' H') ?_ m0 ⟨0,σ,H2,I2,st2,fun b hb=>(f2 b hb).1,w0⟩
 rintro n s3 ⟨i,σ3,H3,I3,st3,fr3,w3⟩
 rcases turn i n σ3 H3 w3 with ⟨stop,qn⟩ | ⟨go,N,hN,step⟩
 ·refine wpAny_passesOwn hp (thn (T.done X rfl rfl rfl hc i pins s3 σ3 H3 X.xe I3 (stat fr3) st3 stop) fun r s4 ⟨hr,I4⟩=>?_)
  subst hr
  exact wpAny_execs_nil ⟨σ3,H3,I4,qn⟩
 ·refine wpAny_passesOwn hp (thn (T.item X rfl rfl rfl hc i pins s3 σ3 H3 X.xe I3 (stat fr3) st3 go) fun r s4 ⟨u,hr,h4⟩=>?_)
  subst hr
  refine wpAny_passesOwn hp (thn h4 fun _ s5 ⟨x,H5,I5,r5,y5,st5,fr5⟩=>?_)
  have I5':=I5.pinned (stat fr5) (T.obj _ _ st5)
  refine wpAny_passesOwn hp (thn (hg _ s5 σ3 H5 x u _ I5' r5 (step x H5 y5)) fun _ s6 ⟨σ6,H6,I6,q6⟩=>?_)
  refine wpAny_passesOwn hp (thn (hb _ s6 σ6 H6 _ I6 q6) fun f s7 q7=>?_)
  have again:∀ {σ7:St} {H7:Hp},Inv X (pins++pinsAt fp s5.heap) σ7 H7 s7→N σ7 H7→∃ m,m < n∧∃ i σ' H',Inv X pins σ' H' s7∧tn i s7.heap∧(∀ b∈fp,H' b=none)∧W i m σ' H':=fun {σ7 H7} I7 n7=>by
   obtain⟨m',hm,w7⟩:=hN σ7 H7 n7
   refine⟨m',hm,i+1,σ7,H7,I7.unpinned,T.keep _ _ _ st5 fun b hb o e=>(I7.pin (b,o) (List.mem_append_right _ (List.mem_append_right _ (fh hb e)))).1,fun b hb=>?_,w7⟩
   obtain⟨o,e,d⟩:=T.obj _ _ st5 b hb
   exact(I7.pin (b,o) (List.mem_append_right _ (List.mem_append_right _ (fh hb e)))).2.1
  cases f with
  | next=>obtain⟨σ7,H7,I7,n7⟩:=q7;exact again I7 n7
  | cont=>obtain⟨σ7,H7,I7,n7⟩:=q7;exact again I7 n7
  | brk=>obtain⟨σ7,H7,I7,q7⟩:=q7;exact⟨σ7,H7,I7.unpinned,q7⟩
  | ret v=>obtain⟨x7,σ7,H7,I7,r7,q7⟩:=q7;exact⟨x7,σ7,H7,I7.unpinned,r7,q7⟩
end
end L2
namespace L2
open PySem PySem.Spec PyProof.Rows
abbrev R2:=V→V→Hp→VK→Prop
def OpR (X:Cx)(f:Value→Value→Sem Value)(r:R2):Prop :=
 ∀ (pins:List (Addr×Obj)) (s:Shared) (σ:St) (H:Hp) (x y:V) (v u:Value) (Q:VK),Inv X pins σ H s→RelV x v→RelV y u→r x y H Q →
  wpAny (model X.prog X.w) X.A (f v u) (EP X pins σ Q) X.xe s
def UnR (X:Cx)(f:Value→Sem Value)(r:V→Hp→VK→Prop):Prop :=
 ∀ (pins:List (Addr×Obj)) (s:Shared) (σ:St) (H:Hp) (x:V) (v:Value) (Q:VK),Inv X pins σ H s→RelV x v→r x H Q →
  wpAny (model X.prog X.w) X.A (f v) (EP X pins σ Q) X.xe s
def CallR (X:Cx)(f:Value)(r:List V→Hp→VK→Prop):Prop :=
 ∀ (pins:List (Addr×Obj)) (s:Shared) (σ:St) (H:Hp) (xs:List V) (us:List Value) (Q:VK),Inv X pins σ H s→Vals xs us→r xs H Q →
  wpAny (model X.prog X.w) X.A (call f us) (EP X pins σ Q) X.xe s
def tOp (r:R2)(ta tb:TE):TE:=fun σ H Q=>ta σ H fun x H1=>tb σ H1 fun y H2=>r x y H2 Q
def tUn (r:V→Hp→VK→Prop)(ta:TE):TE:=fun σ H Q=>ta σ H fun x H1=>r x H1 Q
def rI (C:Int→Int→Prop)(g:Int→Int→V):R2:=fun x y H Q=>∃ i j,x=.int i∧y=.int j∧C i j∧Q (g i j) H
def rI0 (g:Int→Int→V):R2:=fun x y H Q=>∃ i j,x=.int i∧y=.int j∧Q (g i j) H
def rU (g:Int→V):V→Hp→VK→Prop:=fun x H Q=>∃ i,x=.int i∧Q (g i) H
section
variable {X:Cx}{a b c:Expr}{ta tb tc:TE}{pos:Pos}
theorem binT (ha:PE X a ta)(hb:PE X b tb){pins:List (Addr×Obj)}{s:Shared}{σ:St}{H:Hp}{R:V→V→Hp→Prop}(I:Inv X pins σ H s)
  (h:ta σ H fun x H1=>tb σ H1 fun y H2=>R x y H2) {Q:Value→Shared→Prop} {f:Value→Value→Sem Value}
  (hf:∀ v u s2 x y H2,Inv X pins σ H2 s2→RelV x v→RelV y u→R x y H2→wpAny (model X.prog X.w) X.A (f v u) Q X.xe s2) :
  wpAny (model X.prog X.w) X.A (eval a X.env) (fun v s₁=>wpAny (model X.prog X.w) X.A (eval b X.env) (fun u s₂=>wpAny (model X.prog X.w) X.A (f v u) Q X.xe s₂) X.xe s₁) X.xe s:=by
 refine thn (ha pins s σ H _ I h) fun v s1 ⟨x,H1,I1,r1,q1⟩=>?_
 refine thn (hb pins s1 σ H1 _ I1 q1) fun u s2 ⟨y,H2,I2,r2,q2⟩=>?_
 exact hf v u s2 x y H2 I2 r1 r2 q2
theorem Az {op:Operator}{r:R2}(ho:OpR X (binaryOp op) r)(ha:PE X a ta)(hb:PE X b tb):PE X (.BinOp a op b pos) (tOp r ta tb):=by
 intro pins s σ H Q I h
 exact wpAny_BinOp (binT ha hb I h fun v u s2 x y H2 I2 rx ry q=>ho pins s2 σ H2 x y v u Q I2 rx ry q)
theorem AA {op:UnaryOp}{r:V→Hp→VK→Prop}(ho:UnR X (unaryOp op) r)(ha:PE X a ta):PE X (.UnaryOp op a pos) (tUn r ta):=by
 intro pins s σ H Q I h
 exact UnaryOp_ (thn (ha pins s σ H _ I h) fun v s1 ⟨x,H1,I1,r1,q1⟩=>ho pins s1 σ H1 x v Q I1 r1 q1)
theorem opI {f:Value→Value→Sem Value}{C:Int→Int→Prop}{g:Int→Int→Int}
  (rule:∀ (i j:Int) (t u:Tok) (s:Shared) (Q:Value→Shared→Prop) (E:Value→Shared→Prop),C i j→Q (.int (g i j) s.toks) { s with toks:=s.toks+1 }→wpAny (model X.prog X.w) X.A (f (.int i t) (.int j u)) Q E s) :
  OpR X f (rI C fun i j=>.int (g i j)):=by
 intro pins s σ H x y v u Q I rx ry h
 obtain⟨i,j,rfl,rfl,hc,q⟩:=h
 obtain⟨t,rfl⟩:=rx
 obtain⟨t',rfl⟩:=ry
 exact rule i j t t' s _ _ hc ⟨.int (g i j),H,I.tok _,⟨_,rfl⟩,q⟩
theorem opI0 {f:Value→Value→Sem Value}{g:Int→Int→Int}
  (rule:∀ (i j:Int) (t u:Tok) (s:Shared) (Q:Value→Shared→Prop) (E:Value→Shared→Prop),Q (.int (g i j) s.toks) { s with toks:=s.toks+1 }→wpAny (model X.prog X.w) X.A (f (.int i t) (.int j u)) Q E s) :
  OpR X f (rI0 fun i j=>.int (g i j)):=by
 intro pins s σ H x y v u Q I rx ry h
 obtain⟨i,j,rfl,rfl,q⟩:=h
 obtain⟨t,rfl⟩:=rx
 obtain⟨t',rfl⟩:=ry
 exact rule i j t t' s _ _ ⟨.int (g i j),H,I.tok _,⟨_,rfl⟩,q⟩
theorem opB0 {f:Value→Value→Sem Value}{g:Int→Int→Bool}
  (rule:∀ (i j:Int) (t u:Tok) (s:Shared) (Q:Value→Shared→Prop) (E:Value→Shared→Prop),Q (.bool (g i j)) s→wpAny (model X.prog X.w) X.A (f (.int i t) (.int j u)) Q E s) :
  OpR X f (rI0 fun i j=>.bl (g i j)):=by
 intro pins s σ H x y v u Q I rx ry h
 obtain⟨i,j,rfl,rfl,q⟩:=h
 obtain⟨t,rfl⟩:=rx
 obtain⟨t',rfl⟩:=ry
 exact rule i j t t' s _ _ ⟨.bl (g i j),H,I,rfl,q⟩
def CDiv (i j:Int):Prop:=0 < j∧j < 1073741824
def CMul (i j:Int):Prop:=(-(2^64) < i∧i < 2^64)∨(-(2^64) < j∧j < 2^64)
theorem CMul.ok {i j:Int}(h:CMul i j):IntMulOk i j:=by
 rcases h with ⟨h1,h2⟩ | ⟨h1,h2⟩
 ·exact .of_left (intBits_le_64 h1 h2)
 ·exact .of_right (intBits_le_64 h1 h2)
theorem zt:OpR X (binaryOp .Add) (rI0 fun i j=>.int (i+j)):=opI0 fun _ _ _ _ _ _ _ q=>add_int q
theorem zu:OpR X (binaryOp .Sub) (rI0 fun i j=>.int (i - j)):=opI0 fun _ _ _ _ _ _ _ q=>sub_int q
theorem zv:OpR X (binaryOp .Mult) (rI CMul fun i j=>.int (i*j)):=opI fun _ _ _ _ _ _ _ hc q=>mul_int q hc.ok
theorem xx:OpR X (binaryOp .FloorDiv) (rI CDiv fun i j=>.int (i/j)):=opI fun i j _ _ _ _ _ hc q=>by
 have h1:(0:Int) < j:=hc.1
 have h2:j < 1073741824:=hc.2
 exact floordiv_int (by omega) (by rw[Int.fdiv_eq_ediv_of_nonneg i (by omega)];exact q) (.inl (PyProof.noPylong_small (by omega)))
theorem zw:OpR X (binaryOp .Mod) (rI (fun _ j=>0 < j) fun i j=>.int (i%j)):=opI fun i j _ _ _ _ _ hc q=>by
 have h1:(0:Int) < j:=hc
 exact mod_int' (by omega) (by rw[Int.fmod_eq_emod_of_nonneg i (by omega)];exact q)
theorem unI {f:Value→Sem Value}{g:Int→Int}
  (rule:∀ (i:Int) (t:Tok) (s:Shared) (Q:Value→Shared→Prop) (E:Value→Shared→Prop),Q (.int (g i) s.toks) { s with toks:=s.toks+1 }→wpAny (model X.prog X.w) X.A (f (.int i t)) Q E s) :
  UnR X f (rU fun i=>.int (g i)):=by
 intro pins s σ H x v Q I rx h
 obtain⟨i,rfl,q⟩:=h
 obtain⟨t,rfl⟩:=rx
 exact rule i t s _ _ ⟨.int (g i),H,I.tok _,⟨_,rfl⟩,q⟩
theorem zx:UnR X (unaryOp .USub) (rU fun i=>.int (-i)):=unI fun _ _ _ _ _ q=>neg_int q
end
section
variable {X:Cx}{a b c:Expr}{ta tb tc:TE}{pos:Pos}
theorem gg {pins:List (Addr×Obj)}{σ:St}{H:Hp}{s:Shared}{Q:VK}{k k':Bool}(I:Inv X pins σ H s)(q:Q (.bl k) H)(e:k=k'):EP X pins σ Q (.bool k') s:=by
 subst e
 exact⟨.bl k,H,I,rfl,q⟩
theorem AB:OpR X (compareOp .Lt) (rI0 fun i j=>.bl (decide (i < j))):=opB0 fun _ _ _ _ _ _ _ q=>lt_int q
theorem sH:OpR X (compareOp .LtE) (rI0 fun i j=>.bl (decide (i≤j))):=opB0 fun _ _ _ _ _ _ _ q=>le_int q
theorem OpR.or {f:Value→Value→Sem Value}{r r':R2}(h:OpR X f r)(h':OpR X f r'):OpR X f (fun x y H Q=>r x y H Q∨r' x y H Q):=by
 intro pins s σ H x y v u Q I rx ry q
 rcases q with q | q
 ·exact h pins s σ H x y v u Q I rx ry q
 ·exact h' pins s σ H x y v u Q I rx ry q
theorem nomark (b:Expr){op:CmpOp}(h:op≠.In:=by decide)(h2:op≠.NotIn:=by decide):behindInMarks op b=false:=by
 have e1:(op==CmpOp.In)=false:=by cases op<;>first | rfl | exact absurd rfl h
 have e2:(op==CmpOp.NotIn)=false:=by cases op<;>first | rfl | exact absurd rfl h2
 cases b<;>simp[behindInMarks,e1,e2]
theorem xy {op:CmpOp}{r:R2}(ho:OpR X (compareOp op) r)(ha:PE X a ta)(hb:PE X b tb)(hm:behindInMarks op b=false):PE X (.Compare a [op] [b] pos) (tOp r ta tb):=by
 intro pins s σ H Q I h
 exact wpAny_Compare1 (binT ha hb I h fun v u s2 x y H2 I2 rx ry q=>ho pins s2 σ H2 x y v u Q I2 rx ry q) hm
def tTest (t:TE):TT:=fun σ H Q=>t σ H fun x H'=>∃ k,x=.bl k∧Q k H'
theorem xz {op:CmpOp}{r:R2}(ho:OpR X (compareOp op) r)(ha:PE X a ta)(hb:PE X b tb)(hm:behindInMarks op b=false):PT X (.Compare a [op] [b] pos) (tTest (tOp r ta tb)):=by
 intro pins s σ H Q I h
 refine wpAny_isTrue_Compare1 (thn (ha pins s σ H _ I h) fun v s1 ⟨x,H1,I1,r1,q1⟩=>thn (hb pins s1 σ H1 _ I1 q1) fun u s2 ⟨y,H2,I2,r2,q2⟩ =>
  thn (ho pins s2 σ H2 x y v u _ I2 r1 r2 q2) fun c s3 ⟨z,H3,I3,r3,k,e,q3⟩=>?_) hm
 subst e
 cases r3
 exact wpAny_truthy_bool ⟨H3,I3,q3⟩
def tChain (r r':R2)(ta tb tc:TE):TE:=fun σ H Q=>ta σ H fun x H1=>tb σ H1 fun y H2=>r x y H2 fun z H3=>∃ k,z=.bl k ∧
 (if k=true then tc σ H3 fun w' H4=>r' y w' H4 Q else Q (.bl false) H3)
theorem vD {op op':CmpOp}{r r':R2}(ho:OpR X (compareOp op) r)(ho':OpR X (compareOp op') r')(ha:PE X a ta)(hb:PE X b tb)(hc:PE X c tc)
  (hm:lastMarks [op,op'] [b,c]=false:=by with_unfolding_all rfl):PE X (.Compare a [op,op'] [b,c] pos) (tChain r r' ta tb tc):=by
 intro pins s σ H Q I h
 refine Compare_chain (thn (ha pins s σ H _ I h) fun v s1 ⟨x,H1,I1,r1,q1⟩=>chain_link (thn (hb pins s1 σ H1 _ I1 q1) fun u s2 ⟨y,H2,I2,r2,q2⟩ =>
  thn (ho pins s2 σ H2 x y v u _ I2 r1 r2 q2) fun d s3 ⟨z,H3,I3,r3,k,e,q3⟩=>?_)) hm
 subst e
 cases r3
 refine wpAny_truthy_bool ?_
 cases k with
 | false=>exact ite_ff ⟨.bl false,H3,I3,rfl,q3⟩
 | true=>exact ite_tt (chain_last (thn (hc pins s3 σ H3 _ I3 q3) fun w' s4 ⟨z',H4,I4,r4,q4⟩=>ho' pins s4 σ H4 y z' u w' Q I4 r2 r4 q4))
theorem vE {op op':CmpOp}{r r':R2}(ho:OpR X (compareOp op) r)(ho':OpR X (compareOp op') r')(ha:PE X a ta)(hb:PE X b tb)(hc:PE X c tc)
  (hm:lastMarks [op,op'] [b,c]=false:=by with_unfolding_all rfl):PT X (.Compare a [op,op'] [b,c] pos) (tTest (tChain r r' ta tb tc)):=by
 intro pins s σ H Q I h
 refine isTrue_chain (thn (ha pins s σ H _ I h) fun v s1 ⟨x,H1,I1,r1,q1⟩=>test_link (thn (hb pins s1 σ H1 _ I1 q1) fun u s2 ⟨y,H2,I2,r2,q2⟩ =>
  thn (ho pins s2 σ H2 x y v u _ I2 r1 r2 q2) fun d s3 ⟨z,H3,I3,r3,k,e,q3⟩=>?_)) hm
 subst e
 cases r3
 refine wpAny_truthy_bool ?_
 cases k with
 | false =>
  obtain⟨k',e',q'⟩:=q3
  cases e'
  exact ite_ff ⟨H3,I3,q'⟩
 | true =>
  refine ite_tt (test_last (thn (hc pins s3 σ H3 _ I3 q3) fun w' s4 ⟨z',H4,I4,r4,q4⟩=>thn (ho' pins s4 σ H4 y z' u w' _ I4 r2 r4 q4) fun d' s5 ⟨z2,H5,I5,r5,k2,e2,q5⟩=>?_))
  subst e2
  cases r5
  exact wpAny_truthy_bool ⟨H5,I5,q5⟩
theorem line63:(sizeLine:Nat) < 2^63:=by rw[sizeLine_eq];decide
def PlainIxT (b:Expr):Prop:=∀ o i,subscripted b false o i=operate [o,i] (getItem o i)
theorem vals1 {x:V}{us:List Value}(r:Vals [x] us):∃ u,us=[u]∧RelV x u:=by
 cases r with
 | cons r1 r2=>cases r2;exact⟨_,rfl,r1⟩
theorem vals2 {x y:V}{us:List Value}(r:Vals [x,y] us):∃ u w',us=[u,w']∧RelV x u∧RelV y w':=by
 cases r with
 | cons r1 r2 =>
  cases r2 with
  | cons r3 r4=>cases r4;exact⟨_,_,rfl,r1,r3⟩
theorem vF:CallR X (.builtin "abs") (fun xs H Q=>∃ i,xs=[.int i]∧Q (.int (if i < 0 then -i else i)) H):=by
 intro pins s σ H xs us Q I r h
 obtain⟨i,rfl,q⟩:=h
 obtain⟨u,rfl,t,rfl⟩:=vals1 r
 exact call_abs_int fun u tk=>⟨.int (if i < 0 then -i else i),H,I.tok _,⟨_,rfl⟩,q⟩
theorem tW (hc:X.calm=true):CallR X (.builtin "max") (fun xs H Q=>∃ i j,xs=[.int i,.int j]∧Q (.int (if j > i then j else i)) H):=by
 intro pins s σ H xs us Q I r h
 obtain⟨i,j,rfl,q⟩:=h
 obtain⟨u,w',rfl,⟨t,rfl⟩,⟨t',rfl⟩⟩:=vals2 r
 refine max_two_ints (I.ok.hd hc) fun h' tk k=>⟨_,H,I.kept k,?_,q⟩
 by_cases hj:j > i
 ·rw[if_pos hj,if_pos hj];exact⟨_,rfl⟩
 ·rw[if_neg hj,if_neg hj];exact⟨_,rfl⟩
theorem tX (hc:X.calm=true):CallR X (.builtin "min") (fun xs H Q=>∃ i j,xs=[.int i,.int j]∧Q (.int (if j < i then j else i)) H):=by
 intro pins s σ H xs us Q I r h
 obtain⟨i,j,rfl,q⟩:=h
 obtain⟨u,w',rfl,⟨t,rfl⟩,⟨t',rfl⟩⟩:=vals2 r
 refine min_two_ints (I.ok.hd hc) fun h' tk k=>⟨_,H,I.kept k,?_,q⟩
 by_cases hj:j < i
 ·rw[if_pos hj,if_pos hj];exact⟨_,rfl⟩
 ·rw[if_neg hj,if_neg hj];exact⟨_,rfl⟩
end
end L2
namespace L2
open PySem PySem.Spec PyProof.Rows
structure ObjM (h:Heap)(x dx C:Addr)(mA:Str→Option Value):Prop where
 obj:h.get? x=some (PySem.W.instObj C dx)
 ns:h.Ns1 dx mA
 ne:dx≠x
theorem tY {h:Heap}{dx:Addr}{mA:Str→Option Value}(n:h.Ns1 dx mA):∃ od,h.get? dx=some od∧∀ name,PySem.W.lookIn name od=some (mA name):=by
 obtain⟨o,es,ep,ho,hd,hk,_,hm⟩:=n
 refine⟨o,ho,fun name=>?_⟩
 have e:=hm name
 unfold nsFind findBy at e
 rw[← Array.find?_toList]at e
 unfold PySem.W.lookIn
 rw[hd]
 dsimp only
 split
 ·rename_i y q
  rw[q]at e
  exact congrArg some e
 ·rename_i q
  rw[q]at e
  have a:es.toList.any (·.refKey)=false:=by
   rw[List.any_eq_false]
   intro y hy
   obtain⟨z,t,hkey⟩:=hk y (Array.mem_toList_iff.mp hy)
   simp[DictEntry.refKey,hkey]
  have a':¬ es.toList.any (·.refKey)=true:=by rw[a];exact Bool.false_ne_true
  rw[if_neg a']
  exact congrArg some e
theorem ObjM.look {h:Heap}{x dx C:Addr}{mA:Str→Option Value}(I:ObjM h x dx C mA):∃ od,PySem.W.InstAt h x (PySem.W.instObj C dx) C (some od)∧∀ name,PySem.W.lookIn name od=some (mA name) :=
 let ⟨od,ho,hl⟩:=tY I.ns
 ⟨od,⟨I.obj,rfl,rfl,ho⟩,hl⟩
section
variable {prog:Program}{w:World}{A:Around}{E:Value→Shared→Prop}{s:Shared}{K:PySem.W.Frag}{x dx C f:Addr}{mA:Str→Option Value}{name:Str}{v:Value}
theorem vG {pl:Sem Bool}{Q:Value×List Value→Shared→Prop}(X:K.In s.heap)(I:ObjM s.heap x dx C mA)(hg:PySem.W.plainGet K C name=true)
  (hf:PySem.W.findIn K (.ref C) name=some (some (.ref f))) (ht:PySem.W.isFn K (.ref f)=true) (hv:mA name=none) (h:Q (.ref f,[.ref x]) s) :
  wpAny (model prog w) A (getMethod (.ref x) name pl) Q E s:=by
 obtain⟨od,J,hl⟩:=I.look
 exact PySem.W.method_fn X J (PySem.W.plainGet_of hg).1 (PySem.W.plainGet_of hg).2 hf (beq_iff_eq.mp ht) (by show (PySem.W.lookIn name od).map (·.isSome)=some false;rw[hl,hv];rfl) h
theorem AC {R:Result→Shared→Prop}{vs:List Value}{kw:List (Str×Value)}(X:K.In s.heap)(hm:PySem.W.makesIn K C=true)
  (hi:PySem.W.findIn K (.ref C) "__init__"=some (some (.ref f))) (hf:PySem.W.typeIn K (.ref f)=some (.type "function"))
  (h:codeAny (model prog w) (A.under (.builtin "type.__call__" ⟨.ref C::vs,kw⟩)) (.call (.ref f) ⟨.ref (s.heap.objs.size+1)::vs,kw⟩) (PySem.W.InitBack (s.heap.objs.size+1) R)
   { s with heap:=(s.heap.push PySem.W.emptyDict).push (PySem.W.instObj C s.heap.objs.size) }) :
  codeAny (model prog w) A (.call (.ref C) ⟨vs,kw⟩) R s:=by
 obtain⟨hh,g,d,t,os⟩:=s
 exact PySem.W.make_core (PySem.W.makes_of X hm) (PySem.W.looks_findIn X hi) (fun self=>PySem.W.bind_fn X self hf) (.inl rfl) h
end
theorem RelO.none_of {o:Option Value}(r:RelO none o):o=none:=by
 cases o with
 | none=>rfl
 | some u=>exact(show False from r).elim
section
variable {P:Program}{w:World}{H H':Hp}{h h':Heap}{a C dx:Addr}{fs fs':List (Str×V)}
theorem xA (hok:HOk P w H h)(e:H a=some (.ins C dx fs)):∃ mA,ObjM h a dx C mA∧(∀ f,RelO (fs.lookup f) (mA f))∧PySem.Within mA (fs.map (·.1))∧fs.length≤1000∧H dx=some (.own a):=by
 obtain⟨d,z,ne,ob,mA,n,r,q⟩:=(show ObjOk P w H h a (.ins C dx fs) from hok a _ e)
 exact⟨mA,⟨ob,n,ne⟩,r,q,z,d⟩
end
structure Cls (K:PySem.W.Frag)(C:Addr):Prop where
 pg:PySem.W.plainGet K C Str.empty=true
 hd:PySem.W.hasDictIn K C=true
 po:PySem.W.plainOver K C=true
 sa:PySem.W.findIn K (.ref C) "__setattr__"=some (some (.builtin "object.__setattr__"))
theorem Cls.get {K:PySem.W.Frag}{C:Addr}(c:Cls K C)(f:Str):PySem.W.plainGet K C f=true:=c.pg
structure Meth (K:PySem.W.Frag)(C:Addr)(m:Str)(f:Addr):Prop where
 at_:PySem.W.findIn K (.ref C) m=some (some (.ref f))
 fn:PySem.W.isFn K (.ref f)=true
 kp:PySem.W.keepIn K (.ref f)=true
section
variable {X:Cx}{pins:List (Addr×Obj)}{σ:St}{H:Hp}{s:Shared}{a C dx:Addr}{fs:List (Str×V)}{f:Str}{v:V}{A:Around}{E:Value→Shared→Prop}
theorem re {m:Str}{g:Addr}{pl:Sem Bool}{Q:Value×List Value→Shared→Prop}(I:Inv X pins σ H s)(e:H a=some (.ins C dx fs))(c:Cls X.K C)(k:Meth X.K C m g)(l:fs.lookup m=none)
  (h:Q (.ref g,[.ref a]) s):wpAny (model X.prog X.w) A (getMethod (.ref a) m pl) Q E s:=by
 obtain⟨mA,O,r,_,_,_⟩:=xA I.hok e
 have hn:mA m=none:=RelO.none_of (by rw[← l];exact r m)
 exact vG I.kIn O (c.get m) k.at_ k.fn hn h
end
section
variable {X:Cx}{o e value:Expr}{f:Str}{pos pos' tpos:Pos}{ta tv:TE}
theorem yY {pl:Sem Bool}{m:Str}{apos:Pos}{args:List Expr}{pins:List (Addr×Obj)}{s:Shared}{σ:St}{H:Hp}{Q:Value→Shared→Prop}{te:TE}(he:PE X e te)(I:Inv X pins σ H s)
  (h:te σ H fun x H1=>∃ a C dx fs g,x=.ref a∧H1 a=some (.ins C dx fs)∧Cls X.K C∧Meth X.K C m g∧fs.lookup m=none ∧
   ∀ s1,Inv X pins σ H1 s1→wpAny (model X.prog X.w) X.A (callWith pos (.ref g) [.ref a] (backTo pos (starEach args X.env)) (backToKw pos (keywordEach [] X.env))) Q X.xe s1)
  (ht:eval (.Call (.Attribute e m apos) args [] pos) X.env=(do
   let ov ← eval e X.env
   standAt apos.atName
   let (f,first) ← holding [ov] (getMethod ov m pl)
   callWith pos f first (backTo pos (starEach args X.env)) (backToKw pos (keywordEach [] X.env)))) :
  wpAny (model X.prog X.w) X.A (eval (.Call (.Attribute e m apos) args [] pos) X.env) Q X.xe s:=by
 refine PySem.W.methodCall_KW (pl:=pl) (thn (he pins s σ H _ I h) fun u s1 ⟨x,H1,I1,rx,a,C,dx,fs,g,ex,ea,c,k,l,q⟩=>?_) ht
 subst ex
 obtain rfl:u=Value.ref a:=rx
 exact re I1 ea c k l (q s1 I1)
end
section
variable {X:Cx}{pins:List (Addr×Obj)}{σ:St}{H:Hp}{s:Shared}{A:Around}{E:Value→Shared→Prop}{Q:Value→Shared→Prop}{c:Value}{b:Bool}
inductive TyOf (K:PySem.W.Frag)(H:Hp):V→Value→Prop where
 | non:TyOf K H .non (.type "NoneType")
 | bl (x:Bool):TyOf K H (.bl x) (.type "bool")
 | int (i:Int):TyOf K H (.int i) (.type "int")
 | str (x:Str):TyOf K H (.str x) (.type "str")
 | flt (x:UInt64):TyOf K H (.flt x) (.type "float")
 | lst {a:Addr} {xs:List V} (e:H a=some (.lst xs)):TyOf K H (.ref a) (.type "list")
 | frz {a:Addr} {o:Obj} {xs:List V} (e:H a=some (.frz o (.lst xs))):TyOf K H (.ref a) (.type "list")
 | tup {a:Addr} {xs:List V} (e:H a=some (.tup xs)):TyOf K H (.ref a) (.type "tuple")
 | dK {a:Addr} {kvs:List (Key×V)} (e:H a=some (.dK kvs)):TyOf K H (.ref a) (.type "dict")
 | dT {a:Addr} {kvs:List (List Key×V)} (e:H a=some (.dT kvs)):TyOf K H (.ref a) (.type "dict")
 | ins {a C dx:Addr} {fs:List (Str×V)} (e:H a=some (.ins C dx fs)) (cl:Cls K C) (ha:PySem.W.findIn K (.ref C) "__class__"=some (some (.builtin "object.__class__")))
   (hn:PySem.W.specialIn K (.builtin "object.__class__") "__get__"=some (some (.builtin "getset_descriptor.__get__"))) (htk:PySem.W.takesIn K (.builtin "object.__class__")=some true)
   (hm:PySem.W.mroIn K C (.type "object")=some true):TyOf K H (.ref a) (.ref C)
end
end L2
namespace L2
open PySem PySem.Spec PyProof.Rows
structure Room (k:Nat)(A:Around):Prop where
 hd:A.handled=none
 dp:A.depth+3*k+5 < recursionLimit
 un:A.units+16*k+200 < cLine
theorem Room.deeper {k:Nat}{A:Around}(r:Room (k+1) A)(env:Env):Room k (A.deeper env) :=
 ⟨r.hd,by have:=r.dp;show A.depth+1+3*k+5 < _;omega,by have:=r.un;show A.units+3+16*k+200 < _;omega⟩
theorem Room.depth {k:Nat}{A:Around}(r:Room k A):A.depth < recursionLimit:=by have:=r.dp;omega
def tNil:TA:=fun _ H Q=>Q [] H
def tCons (ta:TE)(tr:TA):TA:=fun σ H Q=>ta σ H fun x H1=>tr σ H1 fun xs H2=>Q (x::xs) H2
section
variable {X:Cx}{e:Expr}{es:List Expr}{te:TE}{t:TA}{pos:Pos}
theorem rg:PA X [] tNil:=fun _ _ _ _ H Q I h=>Calls.spliced_nil ⟨[],H,I,.nil,h⟩
theorem kM (ha:PE X e te)(hr:PA X es t)(hs:starEach (e::es) X.env=(false,eval e X.env)::starEach es X.env:=by rfl):PA X (e::es) (tCons te t):=by
 intro pos pins s σ H Q I h
 rw[hs]
 show wpAny _ _ (spliced ((false,eval e X.env)::backTo pos (starEach es X.env))) _ _ s
 refine Calls.spliced_cons (thn (ha pins s σ H _ I h) fun u s1 ⟨x,H1,I1,r1,q1⟩=>?_)
 exact thn (hr pos pins s1 σ H1 _ I1 q1) fun us s2 ⟨xs,H2,I2,r2,q2⟩=>⟨x::xs,H2,I2,.cons r1 r2,q2⟩
def tTup (t:TA):TE:=fun σ H Q=>t σ H fun xs H1=>xs.length≤sizeLine∧∀ p,H1 p=none→Q (.ref p) (upd H1 p (.tup xs))
def tLst (t:TA):TE:=fun σ H Q=>t σ H fun xs H1=>xs.length≤sizeLine∧∀ p,H1 p=none→Q (.ref p) (upd H1 p (.lst xs))
theorem zy {x1}(h:PA X es t):PE X (.Tuple es x1 pos) (tTup t):=by
 intro pins s σ H Q I hq
 refine wpAny_Tuple_spliced (thn (h pos pins s σ H _ I hq) fun us s1 ⟨xs,H1,I1,r,z,q⟩=>⟨by rw[← r.length];exact z,?_⟩)
 have hf:H1 s1.heap.objs.size=none:=I1.hok.fresh (Nat.le_refl _)
 refine⟨.ref s1.heap.objs.size,upd H1 s1.heap.objs.size (.tup xs),I1.laid (t':=s1.toks) (fun b u e=>Heap.get?_push_of_some _ e) (Nat.le_refl _) ?_,rfl,q _ hf⟩
 exact⟨z,us,r,TupO.new _ _⟩
theorem vH (h:PA X es t):PE X (.List es pos) (tLst t):=by
 intro pins s σ H Q I hq
 refine wpAny_List_spliced (thn (h pos pins s σ H _ I hq) fun us s1 ⟨xs,H1,I1,r,z,q⟩=>⟨by rw[← r.length];exact z,?_⟩)
 have hf:H1 s1.heap.objs.size=none:=I1.hok.fresh (Nat.le_refl _)
 refine⟨.ref s1.heap.objs.size,upd H1 s1.heap.objs.size (.lst xs),I1.laid (t':=s1.toks) (fun b u e=>Heap.get?_push_of_some _ e) (Nat.le_refl _) ?_,rfl,q _ hf⟩
 exact⟨z,us,0,r,Heap.get?_push_size _ rfl⟩
end
abbrev Sp:=List V→Hp→VK→XK→Prop
abbrev CXT:=List Env→Hp→Shared→XK→Value→Shared→Prop
structure Env0 (P:Program)(w:World)(K:PySem.W.Frag)(mg:Str→Option Value)(base:Heap)(A:Around)(outer:List Env)(s:Shared)(H:Hp):Prop where
 frames:A.frames=some outer
 mod:Mod K mg base
 bs:∀ b o,base.get? b=some o→s.heap.get? b=some o∧H b=none
 bsz:base.objs.size≤s.heap.objs.size
 funs:s.heap.FunFrames base outer
 frf:∀ b∈frs outer,H b=none
 hok:HOk P w H s.heap
 bare:AllBare s.gens
def CE (outer:List Env)(P:Program)(w:World)(H:Hp)(s:Shared)(Q:VK)(u:Value)(s':Shared):Prop :=
 ∃ v H',s'.os=s.os∧AllBare s'.gens∧Un (frs outer) [] H H' s.heap s'.heap∧HOk P w H' s'.heap∧RelV v u∧Q v H'
def CR (CX:CXT)(outer:List Env)(P:Program)(w:World)(H:Hp)(s:Shared)(Q:VK)(E:XK)(r:Result)(s':Shared):Prop :=
 match r with
 | .ok (.ret u)=>CE outer P w H s Q u s'
 | .ok _=>False
 | .error e=>CX outer H s E e s'
structure FnOk (P:Program)(w:World)(K:PySem.W.Frag)(mg:Str→Option Value)(base:Heap)(CX:CXT)(k:Nat)(f:Addr)(fd:FuncData)(ps:List Str)(sp:Sp):Prop where
 len:∀ vs H Q E,sp vs H Q E→vs.length=ps.length
 run:∀ (A:Around) (outer:List Env) (s:Shared) (H:Hp) (args:Args) (us:List Value) (vs:List V) (Q:VK) (E:XK),Room k A→Env0 P w K mg base A outer s H→BindsTo s fd args (ps.zip us)→Vals vs us→sp vs H Q E →
  codeAny (model P w) A (.call (.ref f) args) (CR CX outer P w H s Q E) s
section
variable {X:Cx}{pins:List (Addr×Obj)}{σ:St}{H:Hp}{s s':Shared}
theorem Inv.env0 (I:Inv X pins σ H s):Env0 X.prog X.w X.K X.mg X.base X.A X.stack s H :=
 ⟨I.ok.frames,I.ok.mod,I.bs,Nat.le_trans I.ok.bsz I.sz,I.stack,I.stkFree,I.hok,I.bare⟩
theorem Inv.after {Q:VK}{u:Value}(I:Inv X pins σ H s)(h:CE X.stack X.prog X.w H s Q u s'):EP X pins σ Q u s':=by
 obtain⟨v,H',os,bare,un,hok,r,q⟩:=h
 obtain⟨hh,g,d,t,os'⟩:=s'
 obtain rfl:os'=s.os:=os
 exact⟨v,H',I.call (h':=hh) (g':=g) (d':=d) (t':=t) (ch:=[]) un hok bare (fun b z=>absurd z (by simp)),r,q⟩
end
def tCall (sp:Sp)(dvs:List V)(E:XK)(t:TA):TE:=fun σ H Q=>t σ H fun vs H1=>sp (vs++dvs) H1 Q E
def Binds (K:PySem.W.Frag)(fd:FuncData)(ps:List Str)(ds:List Value):Prop :=
 ∀ (s:Shared) (us:List Value),K.In s.heap→(us++ds).length=ps.length→BindsTo s fd ⟨us,[]⟩ (ps.zip (us++ds))
theorem Binds.all {K:PySem.W.Frag}{fd:FuncData}{ps:List Str}(h:∀ us:List Value,us.length=ps.length→bindArgs fd ⟨us,[]⟩=pure (ps.zip us)):Binds K fd ps []:=fun s us _ hl=>by
 rw[List.append_nil]at hl ⊢
 exact .of_eq (h us hl)
def Passes (CX:CXT)(X:Cx)(E:XK):Prop:=∀ (pins:List (Addr×Obj)) (σ:St) (H:Hp) (s:Shared) (e:Value) (s':Shared),Inv X pins σ H s→CX X.stack H s E e s'→X.xe e s'
section
variable {X:Cx}{CX:CXT}{k:Nat}{f C:Addr}{fd:FuncData}{ps:List Str}{sp:Sp}{dvs:List V}{ds:List Value}{E:XK}{x m:Str}{p pos apos:Pos}{e o:Expr}{es:List Expr}{ta:TE}{t:TA}
theorem vI {pins:List (Addr×Obj)}{σ:St}{H:Hp}{s:Shared}{Q:VK}{us:List Value}{vs:List V}(F:FnOk X.prog X.w X.K X.mg X.base CX k f fd ps sp)(hr:Room k X.A)(hb:Binds X.K fd ps ds)(hd:Vals dvs ds)(hx:Passes CX X E)
  (I:Inv X pins σ H s) (r:Vals vs us) (h:sp (vs++dvs) H Q E):wpAny (model X.prog X.w) X.A (call (.ref f) us) (EP X pins σ Q) X.xe s:=by
 have r2:Vals (vs++dvs) (us++ds):=r.append hd
 have hl:(us++ds).length=ps.length:=by rw[← r2.length];exact F.len _ _ _ _ h
 refine wpAny_call (codeAny_mono (F.run X.A X.stack s H ⟨us,[]⟩ (us++ds) (vs++dvs) Q E hr I.env0 (hb s us I.kIn hl) r2 h) fun r s' hq=>?_)
 cases r with
 | error e=>exact hx pins σ H s e s' I hq
 | ok fl =>
  cases fl with
  | ret u=>exact I.after hq
  | next=>exact False.elim hq
  | brk=>exact False.elim hq
  | cont=>exact False.elim hq
theorem xB (F:FnOk X.prog X.w X.K X.mg X.base CX k f fd ps sp)(hr:Room k X.A)(hg:Gl X x)(hm:X.mg x=some (.ref f))(hk:PySem.W.keepIn X.K (.ref f)=true)(hb:Binds X.K fd ps ds)(hd:Vals dvs ds)(hx:Passes CX X E)
  (ha:PA X (e::es) t) (hdb:(x==("__debug__":Str))=false:=by decide) (he:starEach (e::es) X.env=(false,eval e X.env)::starEach es X.env:=by rfl) (hpl:(backTo pos (starEach es X.env)).any (·.1)=false:=by rfl) :
  PE X (.Call (.Name x p) (e::es) [] pos) (tCall sp dvs E t):=by
 intro pins s σ H Q I h
 refine wpAny_Call_Name_kw (kL I hg hm ?_ hdb)
 refine PySem.W.callWith_K (h₀:=X.base) I.ok.mod.kin hk (thn (ha pos pins s σ H _ I h) fun us s1 ⟨vs,H1,I1,r,q⟩=>⟨I1.kIn,?_⟩) he hpl
 exact vI F hr hb hd hx I1 r q
end
section
variable {X:Cx}{CX:CXT}{k:Nat}{f C:Addr}{fd:FuncData}{ps ks:List Str}{sp:Sp}{E:XK}{x m:Str}{p pos apos kpos:Pos}{e o:Expr}{es:List Expr}{kws:List Keyword}{te ta:TE}{t tk:TA}{nm:Option Str}
variable {g:List Value→List Value→List Value}{gV:List V→List V→List V}
end
structure FnScope (N P:List Str)(sc:Scope):Prop where
 kind:sc.kind=.function
 co:sc.isCoroutine=false
 gen:sc.isGenerator=false
 nd:N.Nodup
 pre:N.take P.length=P
 par:∀ x∈P,sc.names.lookup x=some .local∨sc.names.lookup x=some .cell
 nofree:∀ y∈sc.names,y.2≠.free
theorem m6 {kindOf:Str→Option NameKind}{x:Str}:∀ {binds:List (Str×Value)} {m:Str→Option Value},(∀ v,(x,v)∉binds)→bindL kindOf binds m x=m x
 | [],_,_=>rfl
 | (n,v)::r,m,h=>by
  unfold bindL
  rw[m6 fun w hw=>h w (List.mem_cons_of_mem _ hw)]
  split
  ·have:x≠n:=by rintro rfl;exact h v List.mem_cons_self
   simp[this]
  ·rfl
theorem m7 {kindOf:Str→Option NameKind}{x:Str}:∀ {binds:List (Str×Value)} {m:Str→Option Value},(∀ v,(x,v)∉binds)→bindC kindOf binds m x=m x
 | [],_,_=>rfl
 | (n,v)::r,m,h=>by
  unfold bindC
  rw[m7 fun w hw=>h w (List.mem_cons_of_mem _ hw)]
  split
  ·rfl
  ·have:x≠n:=by rintro rfl;exact h v List.mem_cons_self
   simp[this]
theorem m8 {kindOf:Str→Option NameKind}{x:Str}{v:Value}:∀ {P:List Str} {vs:List Value} {i:Nat} {m:Str→Option Value},P.Nodup→P[i]?=some x→vs[i]?=some v→kindOf x=some .local →
  bindL kindOf (P.zip vs) m x=some v
 | [],_,_,_,_,h,_,_=>by simp at h
 | _::_,[],_,_,_,_,h,_=>by simp at h
 | p::P,w::vs,0,m,nd,h1,h2,hk=>by
  simp at h1 h2;subst h1;subst h2
  show bindL kindOf ((p,w)::P.zip vs) m p=_
  unfold bindL
  rw[m6 fun v hv=>(List.nodup_cons.mp nd).1 (List.of_mem_zip hv).1,if_pos hk]
  simp
 | p::P,w::vs,i+1,m,nd,h1,h2,hk=>by
  show bindL kindOf ((p,w)::P.zip vs) m x=_
  unfold bindL
  exact m8 (i:=i) (List.nodup_cons.mp nd).2 (by simpa using h1) (by simpa using h2) hk
theorem m9 {kindOf:Str→Option NameKind}{x:Str}{v:Value}:∀ {P:List Str} {vs:List Value} {i:Nat} {m:Str→Option Value},P.Nodup→P[i]?=some x→vs[i]?=some v→kindOf x≠some .local →
  bindC kindOf (P.zip vs) m x=some v
 | [],_,_,_,_,h,_,_=>by simp at h
 | _::_,[],_,_,_,_,h,_=>by simp at h
 | p::P,w::vs,0,m,nd,h1,h2,hk=>by
  simp at h1 h2;subst h1;subst h2
  show bindC kindOf ((p,w)::P.zip vs) m p=_
  unfold bindC
  rw[m7 fun v hv=>(List.nodup_cons.mp nd).1 (List.of_mem_zip hv).1,if_neg hk]
  simp
 | p::P,w::vs,i+1,m,nd,h1,h2,hk=>by
  show bindC kindOf ((p,w)::P.zip vs) m x=_
  unfold bindC
  exact m9 (i:=i) (List.nodup_cons.mp nd).2 (by simpa using h1) (by simpa using h2) hk
def start (N:List Str)(vs:List V):St:=vs.map some++List.replicate (N.length - vs.length) none
def cxOf (CX:CXT)(P:Program)(w:World)(K:PySem.W.Frag)(mg:Str→Option Value)(base:Heap)(N:List Str)(qual:Str)(scope:Scope)(f:Addr)(cd:Value)(A:Around)(outer:List Env)(s:Shared)(H:Hp)(E:XK):Cx where
 prog:=P
 w:=w
 K:=K
 mg:=mg
 base:=base
 A:=A.deeper (envOfC qual scope s.heap.objs.size f cd)
 N:=N
 s₀:=s
 H₀:=H
 env:=envOfC qual scope s.heap.objs.size f cd
 outer:=outer
 stack:=envOfC qual scope s.heap.objs.size f cd::outer
 ex:=[]
 calm:=true
 fn:=fun _=>true
 pn:=[]
 xe:=fun e s'=>wpAny (model P w) (A.deeper (envOfC qual scope s.heap.objs.size f cd)) (leaving (envOfC qual scope s.heap.objs.size f cd) e) (fun _ s''=>CX outer H s E e s'') (fun e' s''=>CX outer H s E e' s'') s'
theorem o8 {sc:Scope}{n:Nat}{x:Str}(h:sc.names.lookup x=some .cell):∃ c,(cellsFrom n sc.names []).lookup x=some c:=by
 have q:=PySem.W.cellsFrom_some sc.names n [] (.inl h)
 exact Option.isSome_iff_exists.mp q
theorem tZ {CX:CXT}{P:Program}{w:World}{K:PySem.W.Frag}{mg:Str→Option Value}{base:Heap}{N ps:List Str}{qual:Str}{scope:Scope}{f:Addr}{cd:Value}{A:Around}{outer:List Env}{s s1:Shared}{H:Hp}{E:XK}{us:List Value}{vs:List V}
  (S:FnScope N ps scope) (hd:A.handled=none) (e0:Env0 P w K mg base A outer s H) (hl:vs.length=ps.length) (r:Vals vs us)
  (x:InCallC s s.heap.objs.size (bindL (envOfC qual scope s.heap.objs.size f cd).kindOf (ps.zip us) fun _=>none) (cellsFrom (s.heap.objs.size+1) scope.names []) (bindC (envOfC qual scope s.heap.objs.size f cd).kindOf (ps.zip us) fun _=>none) s1) :
  Inv (cxOf CX P w K mg base N qual scope f cd A outer s H E) [] (start N vs) H s1:=by
 have hpl:ps.length≤N.length:=by have:=congrArg List.length S.pre;rw[List.length_take]at this;omega
 obtain⟨h1,tk,rfl,hk⟩:=x.done
 have noA:∀ b:Addr,b∉(cxOf CX P w K mg base N qual scope f cd A outer s H E).ex:=fun b z=>absurd (show b∈([]:List Addr) from z) (by simp)
 refine⟨⟨e0.mod,S.kind,rfl,rfl,Nat.le_refl _,fun y z c h1 h2=>?_,fun y hy=>?_,fun y c _ h=>?_,fun _=>hd,Around.frames_deeper e0.frames,.inr ⟨rfl,rfl⟩,fun b z=>absurd z (noA b),e0.bs,e0.bsz,fun b _ _=>noA b,fun b z=>absurd z (noA b),e0.funs,e0.frf⟩,
  rfl,e0.bare,Un.kept hk,⟨_,x.toInCall.ns,fun i y v h1 h2 h3=>?_⟩,fun y c h=>⟨_,x.cell y c h⟩,e0.hok.fresh (Nat.le_refl _),fun y c h=>?_,fun p hp=>absurd (show p∈([]:List (Addr×Obj)) from hp) (by simp),e0.hok.kept hk,?_⟩
 ·exact name_of_addr x.apart (PySem.mem_of_lookup h1) (PySem.mem_of_lookup h2)
 ·have hy:scope.names.lookup y=some .cell∨scope.names.lookup y=some .free:=hy
  rcases hy with hy | hy
  ·exact o8 hy
  ·exact absurd rfl (S.nofree _ (PySem.mem_of_lookup hy))
 ·exact Nat.le_of_lt (x.above y c (PySem.mem_of_lookup h))
 ·have hi:i < vs.length:=by
   unfold start at h2
   by_cases hi:i < vs.length
   ·exact hi
   ·rw[List.getElem?_append_right (by simpa using hi)]at h2
    rw[List.getElem?_replicate]at h2
    split at h2<;>cases h2
  have ha:vs[i]?=some v:=by
   unfold start at h2
   rw[List.getElem?_append_left (by simpa using hi),List.getElem?_map]at h2
   cases e:vs[i]? with
   | none=>rw[e]at h2;cases h2
   | some a=>rw[e]at h2;cases h2;rfl
  obtain⟨u,hu,rv⟩:=r.get ha
  have hp:ps[i]?=some y:=by
   rw[← S.pre,List.getElem?_take_of_lt (by omega)];exact h1
  have ndP:ps.Nodup:=by rw[← S.pre];exact S.nd.sublist (List.take_sublist _ _)
  refine⟨u,rv,?_⟩
  rcases S.par y (List.mem_of_getElem? hp) with k | k
  ·exact .inl ⟨k,m8 ndP hp hu k⟩
  ·obtain⟨c,e⟩:=o8 (n:=s.heap.objs.size+1) k
   refine .inr ⟨.inl k,c,e,?_⟩
   have q:=x.cell y c e
   rw[m9 ndP hp hu (by show scope.names.lookup y≠_;rw[k];decide)]at q
   exact q
 ·exact e0.hok.fresh (Nat.le_of_lt (x.above y c (PySem.mem_of_lookup h)))
 ·unfold start
  show _=N.length
  rw[List.length_append,List.length_map,List.length_replicate]
  omega
theorem yZ {CX:CXT}{P:Program}{w:World}{K:PySem.W.Frag}{mg:Str→Option Value}{base:Heap}{k:Nat}{f:Addr}{name qual:Str}{params:Arguments}{body:List Stmt}{scope:Scope}{dV kV doc pm cdv ct oc:Value}{an od:Option Addr}
  {osl:Array (Option Value)} {N ps:List Str} {sp:Sp} (lk:K.lookup f=some ⟨oc,od,.func (PySem.W.fnOf name qual params body scope dV kV doc pm an cdv ct),osl⟩) (hcd:PySem.W.codeIn K cdv qual=true) (S:FnScope N ps scope)
  (len:∀ vs H Q E,sp vs H Q E→vs.length=ps.length)
  (hbody:∀ (A:Around) (outer:List Env) (s:Shared) (H:Hp) (vs:List V) (Q:VK) (E:XK),Room k (A.deeper (envOfC qual scope s.heap.objs.size f cdv))→sp vs H Q E →
   ∃ t,PSs (cxOf CX P w K mg base N qual scope f cdv A outer s H E) body t∧t { nx:=fun _ H'=>Q .non H',rt:=Q } (start N vs) H) :
  FnOk P w K mg base CX (k+1) f (PySem.W.fnOf name qual params body scope dV kV doc pm an cdv ct) ps sp:=by
 refine⟨len,fun A outer s H args us vs Q E hr e0 hb r hsp=>?_⟩
 have hl:=len _ _ _ _ hsp
 have KX:K.In s.heap:=e0.mod.kin.keeps fun b o e=>(e0.bs b o e).1
 have lim:s.heap.NoLimit:=e0.mod.nolimit.keeps fun b o e=>(e0.bs b o e).1
 have hkind:∀ y∈ps.zip us,scope.names.lookup y.1=some .local∨(scope.names.lookup y.1=some .cell∧((cellsFrom (s.heap.objs.size+1) scope.names []).lookup y.1).isSome=true):=fun ⟨n,v⟩ hy=>by
  rcases S.par n (List.of_mem_zip hy).1 with q | q
  ·exact .inl q
  ·exact .inr ⟨q,PySem.W.cellsFrom_some _ _ _ (.inl q)⟩
 refine codeAny_call_function hr.depth (KX _ _ lk) rfl S.co S.gen rfl (PySem.W.codeRec_of KX hcd) (hb _ _ _ _ ?_)
 refine wpAny_newFunctionEnv_cells S.kind hkind fun env he s1 x=>?_
 subst he
 refine⟨lim.keeps x.toInCall.keep,codeAny_func ?_⟩
 obtain⟨t,ht,hq⟩:=hbody A outer s H vs Q E (hr.deeper _) hsp
 have I:Inv (cxOf CX P w K mg base N qual scope f cdv A outer s H E) [] (start N vs) H s1:=tZ S hr.hd e0 hl r x
 refine wpAny_mono (ht [] s1 (start N vs) H _ I hq) (fun fl s' hs=>?_) fun e s' hs=>hs
 have fin:∀ {σ':St} {H':Hp} {v:V} {u:Value},Inv (cxOf CX P w K mg base N qual scope f cdv A outer s H E) [] σ' H' s'→RelV v u→Q v H'→CE outer P w H s Q u s' :=
  fun {σ' H' v u} J rv q=>⟨v,H',J.os,J.bare,J.base,J.hok,rv,q⟩
 cases fl with
 | ret u =>
  obtain⟨v,σ',H',J,rv,q⟩:=hs
  exact fin J rv q
 | next =>
  obtain⟨σ',H',J,q⟩:=hs
  exact fin (v:=V.non) (u:=Value.none) J rfl q
 | brk =>
  obtain⟨_,_,_,q⟩:=hs
  exact False.elim q
 | cont =>
  obtain⟨_,_,_,q⟩:=hs
  exact False.elim q
end L2
namespace L2
open PySem PySem.Spec PyProof.Rows
section
variable {X:Cx}{x:Str}{p pos:Pos}{e:Expr}{es:List Expr}{t:TA}{id T:String}{r:List V→Hp→VK→Prop}
def tCB (r:List V→Hp→VK→Prop)(t:TA):TE:=fun σ H Q=>t σ H fun vs H1=>r vs H1 Q
theorem kU (hc:CallR X (.builtin id) r)(hg:Gl X x)(hm:X.mg x=none)(hv:bootBuiltins x=some (.builtin id))(ha:PA X (e::es) t)(hn:x ≠ "__name__" := by decide)(hdb:(x==("__debug__":Str))=false:=by decide)
  (he:starEach (e::es) X.env=(false,eval e X.env)::starEach es X.env:=by rfl) (hpl:(backTo pos (starEach es X.env)).any (·.1)=false:=by rfl):PE X (.Call (.Name x p) (e::es) [] pos) (tCB r t):=by
 intro pins s σ H Q I h
 refine wpAny_Call_Name_kw (ff I hg hm hv ?_ hn hdb)
 exact PyProof.Rows.callWith_builtin1 (thn (ha pos pins s σ H _ I h) fun us s1 ⟨vs,H1,I1,r1,q1⟩=>hc pins s1 σ H1 vs us Q I1 r1 q1) he hpl
theorem na (hc:CallR X (.type T) r)(hg:Gl X x)(hm:X.mg x=none)(hv:bootBuiltins x=some (.type T))(ha:PA X (e::es) t)(hn:x ≠ "__name__" := by decide)(hdb:(x==("__debug__":Str))=false:=by decide)
  (he:starEach (e::es) X.env=(false,eval e X.env)::starEach es X.env:=by rfl) (hpl:(backTo pos (starEach es X.env)).any (·.1)=false:=by rfl):PE X (.Call (.Name x p) (e::es) [] pos) (tCB r t):=by
 intro pins s σ H Q I h
 refine wpAny_Call_Name_kw (ff I hg hm hv ?_ hn hdb)
 exact PyProof.Rows.callWith_type1 (thn (ha pos pins s σ H _ I h) fun us s1 ⟨vs,H1,I1,r1,q1⟩=>hc pins s1 σ H1 vs us Q I1 r1 q1) he hpl
end
end L2
namespace HT
open PySem PyProof.Rows
section
open PySem.SeqAt
open PySem.AutoSeq1 (wpAny_loadPart')
open PySem.MeetsSeq PySem.MeetsSeq2 PySem.MeetsSeq3
end
section
variable {prog:Program}{w:World}{A:Around}{E:Value→Shared→Prop}{s:Shared}
theorem xC {t b:Addr}{vs ws:List Value}{Q:Value→Shared→Prop}(ht:IsTup s.heap t vs.toArray)(hb:IsTup s.heap b ws.toArray)(hv:vs≠[])
  (h1:ws=[]→Q (.ref t) s) (h2:ws≠[]→Q (.ref s.heap.objs.size) { s with heap:=s.heap.push { cls:=.type "tuple",data:=.seq (vs++ws).toArray } })
  (hsz:vs.length+ws.length≤sizeLine):wpAny (model prog w) A (binaryOp .Add (.ref t) (.ref b)) Q E s:=by
 obtain⟨⟨cls,dd,data,sl⟩,ho,hc,n,hd⟩:=id ht
 obtain⟨⟨cls2,dd2,data2,sl2⟩,ho2,hc2,n2,hd2⟩:=id hb
 simp only at hc hd hc2 hd2
 subst hc hd hc2 hd2
 have e:vs.toArray++ws.toArray=(vs++ws).toArray:=by simp
 by_cases hw:ws=[]
 ·exact concat_meets ⟨_,ho,rfl⟩ ⟨_,ho2,rfl⟩ noFill_tuple_add seq_tuple_add PySem.F.slot_tuple_add PySem.F.entry_tuple_add (PySem.F.args_tuple_add_2 _ _)
   (tuple_addW1 t b vs.toArray ws.toArray n n2 dd dd2 sl sl2 (by simpa using hv) (by simp[hw])) ⟨ho,ho2,h1 hw⟩
 ·refine concat_meets ⟨_,ho,rfl⟩ ⟨_,ho2,rfl⟩ noFill_tuple_add seq_tuple_add PySem.F.slot_tuple_add PySem.F.entry_tuple_add (PySem.F.args_tuple_add_2 _ _)
   (tuple_addW2 t b vs.toArray ws.toArray n n2 dd dd2 sl sl2 (by simpa using hv) (by simpa using hw) (by rw[List.size_toArray,List.size_toArray];exact hsz)) ⟨ho,ho2,?_⟩
  rw[e]
  exact h2 hw
def sIx (n d:Nat):Option Int→Nat
 | none=>d
 | some v=>if v < 0 then (v+(n:Int)).toNat else min v.toNat n
theorem o9 (n d:Nat):sIx n d none=d:=rfl
theorem zA (n d:Nat)(hd:d≤n)(o:Option Int):sIx n d o≤n:=by
 cases o with
 | none=>exact hd
 | some v =>
  show (if v < 0 then (v+(n:Int)).toNat else min v.toNat n)≤n
  by_cases hv:v < 0
  ·rw[if_pos hv];omega
  ·rw[if_neg hv];exact Nat.min_le_right _ _
theorem sI (v:Int)(n d:Nat):(if v < 0 then max (v+(n:Int)) 0 else min v (n:Int))=((sIx n d (some v):Nat):Int):=by
 show (if v < 0 then max (v+(n:Int)) 0 else min v (n:Int))=(((if v < 0 then (v+(n:Int)).toNat else min v.toNat n):Nat):Int)
 by_cases hv:v < 0
 ·simp only[if_pos hv];omega
 ·simp only[if_neg hv];omega
theorem rh (lo hi:Option Int)(n:Nat):Builtin.Slice.sliceAdjust lo hi 1 (n:Int)=(((sIx n 0 lo:Nat):Int),((sIx n n hi:Nat):Int)):=by
 have h1:¬ ((1:Int) < 0):=by omega
 unfold Builtin.Slice.sliceAdjust
 simp only[h1,if_false]
 refine Prod.ext ?_ ?_
 ·cases lo with
  | none=>rfl
  | some v=>exact sI v n 0
 ·cases hi with
  | none=>rfl
  | some v=>exact sI v n n
theorem ri (i j:Nat):Builtin.Slice.slicePlaces (i:Int) (j:Int) 1=j - i:=by
 unfold Builtin.Slice.slicePlaces
 have h1:(1:Int) > 0:=by omega
 simp only[h1,if_true,Int.ediv_one]
 split<;>omega
theorem kW {v:Value}{o:Option Int}{Q:Option Int→Shared→Prop}(p:IsPart v o)(h:Q o s):wpAny (model prog w) A (Builtin.Slice.slicePartIndex v) Q E s:=by
 cases p with
 | none=>exact slicePart_none h
 | int i t=>exact slicePart_int h
theorem eL {sl:Addr}{vl vu:Value}{lo hi:Option Int}{n:Nat}{Q:Int×Int×Nat→Shared→Prop}(hs:s.heap.IsSliceOf sl vl vu .none)(pl:IsPart vl lo)(pu:IsPart vu hi)
  (h:Q (((sIx n 0 lo:Nat):Int),1,sIx n n hi - sIx n 0 lo) s):wpAny (model prog w) A (Builtin.Slice.sliceApplied (.ref sl) (pure (n:Int))) Q E s:=by
 obtain⟨os,hos,hcs,hds⟩:=id hs
 unfold Builtin.Slice.sliceApplied Builtin.Slice.sliceFields
 refine wpAny_bind (wpAny_bind (wpAny_field hos hds (x:=vl) rfl (wpAny_bind (wpAny_field hos hds (x:=vu) rfl (wpAny_bind (wpAny_field hos hds (x:=.none) rfl (wpAny_pure ?_)))))))
 refine wpAny_bind (slicePart_none ?_)
 show wpAny _ _ (if ((1:Int)==0)=true then _ else _) _ _ s
 rw[if_neg (by decide)]
 refine wpAny_bind (kW pl (wpAny_bind (kW pu (wpAny_bind (wpAny_pure ?_)))))
 show wpAny _ _ (match Builtin.Slice.sliceAdjust lo hi 1 (n:Int) with | (lo,hi)=>pure (lo,(1:Int),Builtin.Slice.slicePlaces lo hi 1)) _ _ s
 rw[rh lo hi n]
 show wpAny _ _ (pure (((sIx n 0 lo:Nat):Int),(1:Int),Builtin.Slice.slicePlaces ((sIx n 0 lo:Nat):Int) ((sIx n n hi:Nat):Int) 1)) _ _ s
 rw[ri]
 exact wpAny_pure h
theorem vJ (xs:Array Value)(i k:Nat):((List.range k).filterMap fun (m:Nat)=>xs[((i:Int)+(m:Int)*1).toNat]?).toArray=((xs.toList.drop i).take k).toArray:=by
 have e:(fun (m:Nat)=>xs[((i:Int)+(m:Int)*1).toNat]?)=fun m=>xs[i+m]?:=by
  funext m
  have:((i:Int)+(m:Int)*1).toNat=i+m:=by omega
  rw[this]
 rw[e]
 have:=pick_run xs i k
 rw[List.filterMap_map]at this
 have e2:((fun x=>xs[x]?)∘fun x=>i+x)=fun m=>xs[i+m]?:=rfl
 rw[e2]at this
 rw[this]
theorem iT {t sl:Addr}{items:Array Value}{vl vu:Value}{lo hi:Option Int}{Q:Value→Shared→Prop}(ht:IsTup s.heap t items)(hs:s.heap.IsSliceOf sl vl vu .none)(pl:IsPart vl lo)(pu:IsPart vu hi)
  (hw:¬ (sIx items.size 0 lo=0∧sIx items.size items.size hi=items.size))
  (h:Q (.ref s.heap.objs.size) { s with heap:=s.heap.push { cls:=.type "tuple",data:=.seq ((items.toList.drop (sIx items.size 0 lo)).take (sIx items.size items.size hi - sIx items.size 0 lo)).toArray } })
  (hsz:items.size≤sizeLine):wpAny (model prog w) A (getItem (.ref t) (.ref sl)) Q E s:=by
 have htake:sizeOk (.seq ((items.toList.drop (sIx items.size 0 lo)).take (sIx items.size items.size hi - sIx items.size 0 lo)).toArray):=by
  show ((items.toList.drop (sIx items.size 0 lo)).take (sIx items.size items.size hi - sIx items.size 0 lo)).toArray.size≤sizeLine
  rw[List.size_toArray,List.length_take,List.length_drop,Array.length_toList]
  omega
 have hj:sIx items.size items.size hi≤items.size:=zA _ _ (Nat.le_refl _) hi
 obtain⟨os,hos,hcs,hds⟩:=id hs
 have hTs:s.TypeIs (.ref sl) "slice" := ⟨os,hos,hcs⟩
 unfold getItem
 try with_reducible refine wpAny_holding ?_
 first | refine wpAny_bind (wpAny_pure ?_) | skip
 refine wpAny_bind (wpAny_sequenceKey ht.typeIs (by decide) ?_)
 refine wpAny_bind (wpAny_callSpecial?_slot (name:=Str.ofString "__getitem__") ht.typeIs PyProof.Rows.slot_tuple_getitem
  (wpAny_call_entry PyProof.Rows.slot_tuple_getitem ht.typeIs entry_tuple_getitem ?_ (args_tuple_getitem _ _)))
 show wpAny _ _ (Builtin.Tuple.tupleItemsOf (.ref t) >>= _) _ _ s
 refine wpAny_bind (tupleItemsOf_ ht ?_)
 refine wpAny_bind (wpAny_typeOf hTs ?_)
 rw[if_pos (by decide)]
 refine wpAny_bind (eL hs pl pu ?_)
 have hno:¬ ((((sIx items.size 0 lo:Nat):Int)==0&&(1:Int)==1&&(sIx items.size items.size hi - sIx items.size 0 lo)==items.size)=true):=by
  intro q
  rw[Bool.and_eq_true,Bool.and_eq_true]at q
  have q1:((sIx items.size 0 lo:Nat):Int)=0:=eq_of_beq q.1.1
  have q2:sIx items.size items.size hi - sIx items.size 0 lo=items.size:=eq_of_beq q.2
  exact hw ⟨by omega,by omega⟩
 show wpAny _ _ (if (((sIx items.size 0 lo:Nat):Int)==0&&(1:Int)==1&&(sIx items.size items.size hi - sIx items.size 0 lo)==items.size)=true then _ else _) _ _ s
 rw[if_neg hno,vJ]
 first
  | exact wpAny_bind (m:=Builtin.Tuple.tupleExact _) (wpAny_newObj_type (wpAny_pure ⟨_,rfl,wpAny_pure h⟩) htake)
  | exact wpAny_bind (m:=Builtin.Tuple.tupleExact _) (wpAny_newObj_type (wpAny_bind (wpAny_pure (wpAny_pure ⟨_,rfl,wpAny_pure h⟩))) htake)
  | exact wpAny_bind (wpAny_bind (m:=Builtin.Tuple.tupleExact _) (wpAny_newObj_type (wpAny_pure (wpAny_pure ⟨_,rfl,wpAny_pure h⟩)) htake))
  | exact wpAny_bind (wpAny_bind (m:=Builtin.Tuple.tupleExact _) (wpAny_newObj_type (wpAny_pure ⟨_,rfl,wpAny_pure h⟩) htake))
end
end HT
namespace L2
open PySem PySem.Spec PyProof.Rows
abbrev TO:=St→Hp→(Option Int→Hp→Prop)→Prop
def PO (X:Cx)(e:Option Expr)(t:TO):Prop :=
 ∀ (pins:List (Addr×Obj)) (s:Shared) (σ:St) (H:Hp) (Q:Option Int→Hp→Prop),Inv X pins σ H s→t σ H Q →
  wpAny (model X.prog X.w) X.A (evalPart e X.env) (fun u s'=>∃ o H',Inv X pins σ H' s'∧IsPart u o∧Q o H') X.xe s
def tNoPart:TO:=fun _ H Q=>Q none H
def tPart (t:TE):TO:=fun σ H Q=>t σ H fun x H1=>∃ i,x=.int i∧Q (some i) H1
section
variable {X:Cx}{e:Expr}{te:TE}{lo hi:Option Expr}{tl th:TO}{pos p2:Pos}
theorem xD:PO X none tNoPart:=by
 intro pins s σ H Q I h
 rw[evalPart_none]
 exact wpAny_pure ⟨none,H,I,.none,h⟩
theorem xE (h:PE X e te):PO X (some e) (tPart te):=by
 intro pins s σ H Q I hw
 rw[evalPart_some]
 refine thn (h pins s σ H _ I hw) fun u s1 ⟨x,H1,I1,r1,q1⟩=>?_
 obtain⟨i,rfl,q⟩:=q1
 obtain⟨t,rfl⟩:=r1
 exact⟨some i,H1,I1,.int i t,q⟩
def SlR (X:Cx)(r:V→Option Int→Option Int→Hp→VK→Prop):Prop :=
 ∀ (pins:List (Addr×Obj)) (s:Shared) (σ:St) (H:Hp) (x:V) (v vl vu:Value) (lo hi:Option Int) (sl:Addr) (Q:VK),Inv X pins σ H s→RelV x v→s.heap.IsSliceOf sl vl vu .none→IsPart vl lo→IsPart vu hi→r x lo hi H Q →
  ∃ T id,typeLookup (.type T) "__getitem__"=pure (some (.builtin id))∧s.TypeIs v T∧wpAny (model X.prog X.w) X.A (getItem v (.ref sl)) (EP X pins σ Q) X.xe s
theorem SlR.or {r r':V→Option Int→Option Int→Hp→VK→Prop}(h:SlR X r)(h':SlR X r'):SlR X (fun x lo hi H Q=>r x lo hi H Q∨r' x lo hi H Q):=by
 intro pins s σ H x v vl vu lo hi sl Q I rx hs pl pu q
 rcases q with q | q
 ·exact h pins s σ H x v vl vu lo hi sl Q I rx hs pl pu q
 ·exact h' pins s σ H x v vl vu lo hi sl Q I rx hs pl pu q
def tSl (r:V→Option Int→Option Int→Hp→VK→Prop)(te:TE)(tl th:TO):TE:=fun σ H Q=>te σ H fun x H1=>tl σ H1 fun l H2=>th σ H2 fun u H3=>r x l u H3 Q
theorem vK {r:V→Option Int→Option Int→Hp→VK→Prop}(hr:SlR X r)(he:PE X e te)(hl:PO X lo tl)(hu:PO X hi th):PE X (.Subscript e (.Slice lo hi none p2) pos) (tSl r te tl th):=by
 intro pins s σ H Q I h
 refine Subscript_ (thn (he pins s σ H _ I h) fun v s1 ⟨x,H1,I1,r1,q1⟩=>?_)
 refine wpAny_Slice (thn (hl pins s1 σ H1 _ I1 q1) fun vl s2 ⟨l,H2,I2,pl,q2⟩=>thn (hu pins s2 σ H2 _ I2 q2) fun vu s3 ⟨u,H3,I3,pu,q3⟩=>?_)
 rw[evalPart_none]
 refine wpAny_pure ?_
 have I4:Inv X pins σ H3 { s3 with heap:=s3.heap.push { cls:=.type "slice",data:=.fields #[vl,vu,.none] } }:=I3.kept (t':=s3.toks) fun b ob q=>Heap.get?_push_of_some _ q
 obtain⟨T,id,hT,ht,hg⟩:=hr pins { s3 with heap:=s3.heap.push { cls:=.type "slice",data:=.fields #[vl,vu,.none] } } σ H3 x v vl vu l u s3.heap.objs.size Q I4 r1 (Heap.IsSliceOf.new ..) pl pu q3
 show wpAny (model X.prog X.w) X.A (subscriptTail e (.Slice lo hi none p2) v (.ref s3.heap.objs.size)) (EP X pins σ Q) X.xe { s3 with heap:=s3.heap.push { cls:=.type "slice",data:=.fields #[vl,vu,.none] } }
 exact tail_any (ops:=[.ref s3.heap.objs.size,v]) ht hT hg (by with_unfolding_all rfl)
def cutV (xs:List V)(lo hi:Option Int):List V:=(xs.drop (HT.sIx xs.length 0 lo)).take (HT.sIx xs.length xs.length hi - HT.sIx xs.length 0 lo)
theorem kj (xs:List V)(lo hi:Option Int):(cutV xs lo hi).length≤xs.length:=by
 unfold cutV
 rw[List.length_take,List.length_drop]
 omega
def rSlT (K:PySem.W.Frag):V→Option Int→Option Int→Hp→VK→Prop:=fun x lo hi H Q=>∃ a xs,x=.ref a∧SqT K H a xs ∧
 ¬ (HT.sIx xs.length 0 lo=0∧HT.sIx xs.length xs.length hi=xs.length)∧∀ p,H p=none→Q (.ref p) (upd H p (.tup (cutV xs lo hi)))
theorem zB:SlR X (rSlT X.K):=by
 intro pins s σ H x v vl vu lo hi sl Q I rx hs pl pu h
 obtain⟨a,xs,rfl,hx,hw,q⟩:=h
 cases rx
 obtain⟨its,r,ht,hz⟩:=I.tuple hx
 have hlen:its.toArray.size=xs.length:=by rw[List.size_toArray];exact r.length.symm
 refine⟨"tuple",_,PyProof.Rows.slot_tuple_getitem.lookup,ht.typeIs,?_⟩
 refine HT.iT ht hs pl pu (by rw[hlen];exact hw) ?_ (by rw[hlen];exact hz)
 rw[hlen]
 refine⟨.ref s.heap.objs.size,_,I.laid (t':=s.toks) (o:=.tup (cutV xs lo hi)) (fun b ob q=>Heap.get?_push_of_some _ q) (Nat.le_refl _) ?_,rfl,q _ (I.hok.fresh (Nat.le_refl _))⟩
 exact⟨Nat.le_trans (kj xs lo hi) hz,_,(r.drop (HT.sIx xs.length 0 lo)).take (HT.sIx xs.length xs.length hi - HT.sIx xs.length 0 lo),TupO.new _ _⟩
def rCatT (K:PySem.W.Frag):R2:=fun x y H Q=>∃ a b xs ys,x=.ref a∧y=.ref b∧SqT K H a xs∧SqT K H b ys∧xs≠[]∧xs.length+ys.length≤sizeLine ∧
 (ys=[]→Q (.ref a) H)∧(ys≠[]→∀ p,H p=none→Q (.ref p) (upd H p (.tup (xs++ys))))
theorem Vals.nil_iff {xs:List V}{us:List Value}(r:Vals xs us):us=[]↔xs=[]:=by
 cases r with
 | nil=>simp
 | cons _ _=>simp
theorem xF:OpR X (binaryOp .Add) (rCatT X.K):=by
 intro pins s σ H x y v u Q I rx ry h
 obtain⟨a,b,xs,ys,rfl,rfl,ha,hb,hx,hz,q1,q2⟩:=h
 cases rx
 cases ry
 obtain⟨its,r1,p1,_⟩:=I.tuple ha
 obtain⟨its2,r2,p2,_⟩:=I.tuple hb
 refine HT.xC p1 p2 (fun z=>hx (r1.nil_iff.mp z)) (fun z=>⟨.ref a,H,I,rfl,q1 (r2.nil_iff.mp z)⟩) (fun z=>?_) (by rw[← r1.length,← r2.length];exact hz)
 refine⟨.ref s.heap.objs.size,_,I.laid (t':=s.toks) (o:=.tup (xs++ys)) (fun b ob q=>Heap.get?_push_of_some _ q) (Nat.le_refl _) ?_,rfl,q2 (fun w=>z (r2.nil_iff.mpr w)) _ (I.hok.fresh (Nat.le_refl _))⟩
 exact⟨by rw[List.length_append];exact hz,_,r1.append r2,TupO.new _ _⟩
end
end L2
namespace L2
open PySem PySem.Spec PyProof.Rows
def ixN (n:Nat)(i:Int):Option Nat:=if 0≤i then (if i < n then some i.toNat else none) else if -(n:Int)≤i then some (i+n).toNat else none
def atI {α:Type}(xs:List α)(i:Int):Option α:=(ixN xs.length i).bind fun j=>xs[j]?
theorem xG {n:Nat}{i:Int}{j:Nat}(h:ixN n i=some j):seqIndex? i n=some j∧j < n∧-(n:Int)≤i∧i < n:=by
 unfold ixN at h
 by_cases h0:0≤i
 ·rw[if_pos h0]at h
  by_cases h1:i < n
  ·rw[if_pos h1]at h
   have e:i.toNat=j:=Option.some.inj h
   exact⟨by rw[seqIndex_of h0 h1,e],by omega,by omega,h1⟩
  ·rw[if_neg h1]at h;cases h
 ·rw[if_neg h0]at h
  by_cases h1 : -(n:Int)≤i
  ·rw[if_pos h1]at h
   have e:(i+n).toNat=j:=Option.some.inj h
   exact⟨by rw[seqIndex_neg (by omega) h1,e],by omega,h1,by omega⟩
  ·rw[if_neg h1]at h;cases h
theorem n6 {α:Type}{xs:List α}{i:Int}{v:α}(h:atI xs i=some v):∃ j,seqIndex? i xs.length=some j∧xs[j]?=some v∧j < xs.length∧-(xs.length:Int)≤i∧i < xs.length:=by
 unfold atI at h
 cases e:ixN xs.length i with
 | none=>rw[e]at h;cases h
 | some j =>
  rw[e]at h
  obtain⟨h1,h2,h3,h4⟩:=xG e
  exact⟨j,h1,h,h2,h3,h4⟩
theorem n8 {α:Type}{xs:List α}{j:Nat}{v:α}(h:xs[j]?=some v):atI xs (j:Int)=some v:=by
 have hj:j < xs.length:=(List.getElem?_eq_some_iff.mp h).1
 have e:ixN xs.length (j:Int)=some j:=by
  unfold ixN
  rw[if_pos (by omega),if_pos (by omega)];simp
 unfold atI;rw[e];exact h
def PlainIx (b:Expr):Prop:=∀ o i,subscripted b false o i=operate [o,i] (getItem o i)
def IxR (X:Cx)(r:R2):Prop :=
 ∀ (value slice:Expr) (pins:List (Addr×Obj)) (s:Shared) (σ:St) (H:Hp) (x y:V) (v u:Value) (Q:VK),Inv X pins σ H s→RelV x v→RelV y u→r x y H Q →
  subscripted slice false v u=operate [v,u] (getItem v u)→wpAny (model X.prog X.w) X.A (subscriptTail value slice v u) (EP X pins σ Q) X.xe s
def MtR (X:Cx)(id:String)(r:V→List V→Hp→VK→Prop):Prop :=
 ∀ (pins:List (Addr×Obj)) (s:Shared) (σ:St) (H:Hp) (x:V) (xs:List V) (v:Value) (us:List Value) (Q:VK),Inv X pins σ H s→RelV x v→Vals xs us→r x xs H Q →
  wpAny (model X.prog X.w) X.A (call (.builtin id) (v::us)) (EP X pins σ Q) X.xe s
section
variable {X:Cx}{a b:Expr}{ta tb:TE}{pos:Pos}
theorem IxR.or {r r':R2}(h:IxR X r)(h':IxR X r'):IxR X (fun x y H Q=>r x y H Q∨r' x y H Q):=by
 intro value slice pins s σ H x y v u Q I rx ry q hs
 rcases q with q | q
 ·exact h value slice pins s σ H x y v u Q I rx ry q hs
 ·exact h' value slice pins s σ H x y v u Q I rx ry q hs
theorem y2 {r:R2}(hr:IxR X r)(ha:PE X a ta)(hb:PE X b tb)(hs:PlainIx b):PE X (.Subscript a b pos) (tOp r ta tb):=by
 intro pins s σ H Q I h
 exact Subscript_ (binT ha hb I h fun v u s2 x y H2 I2 rx ry q=>hr a b pins s2 σ H2 x y v u Q I2 rx ry q (hs _ _))
def rIxL (K:PySem.W.Frag):R2:=fun x y H Q=>∃ p xs i v,x=.ref p∧y=.int i∧SqL K H p xs∧atI xs i=some v∧Q v H
def rIxT (K:PySem.W.Frag):R2:=fun x y H Q=>∃ p xs i v,x=.ref p∧y=.int i∧SqT K H p xs∧atI xs i=some v∧Q v H
def rIxS:R2:=fun x y H Q=>∃ z i c,x=.str z∧y=.int i∧z.length≤sizeLine∧atI z.cps.toList i=some c∧Q (.str ⟨#[c]⟩) H
theorem sJ:IxR X (rIxL X.K):=by
 intro value slice pins s σ H x y v u Q I rx ry h hs
 obtain⟨p,xs,i,z,rfl,rfl,hq,he,q⟩:=h
 cases rx
 obtain⟨t,rfl⟩:=ry
 obtain⟨its,r,pl,hz⟩:=I.list hq
 obtain⟨j,h1,h2,h3,h4,h5⟩:=n6 he
 obtain⟨w,ew,rw'⟩:=r.get h2
 have hl:=r.length
 have hn:=line63
 have fin:EP X pins σ Q w s:=⟨z,H,I,rw',q⟩
 by_cases h0:0≤i
 ·have hj:i.toNat=j:=by
   rw[seqIndex_of h0 h5]at h1
   exact Option.some.inj h1
  exact item_listR pl.isList h0 (by omega) (by rw[hj];simpa using ew) fin hs
 ·have hj:(i+(its.toArray.size:Int)).toNat=j:=by
   rw[seqIndex_neg (by omega) h4]at h1
   rw[List.size_toArray,← hl]
   exact Option.some.inj h1
  exact subscriptTail_builtinR (x:=w) pl.isList.typeIs slot_list_getitem.lookup
   (wpAny_getItem_list_neg (Q:=fun r s'=>r=w∧EP X pins σ Q r s') pl.isList (by omega) (by rw[List.size_toArray]<;>omega) (by omega) (by rw[hj];simpa using ew) ⟨rfl,fin⟩) hs
theorem zC:IxR X (rIxT X.K):=by
 intro value slice pins s σ H x y v u Q I rx ry h hs
 obtain⟨p,xs,i,z,rfl,rfl,hq,he,q⟩:=h
 cases rx
 obtain⟨t,rfl⟩:=ry
 obtain⟨its,r,pl,hz⟩:=I.tuple hq
 obtain⟨j,h1,h2,h3,h4,h5⟩:=n6 he
 obtain⟨w,ew,rw'⟩:=r.get h2
 have hl:=r.length
 have hn:=line63
 have fin:EP X pins σ Q w s:=⟨z,H,I,rw',q⟩
 exact subscriptTail_builtinR (x:=w) pl.typeIs slot_tuple_getitem.lookup
  (getItem_tuple (j:=j) (Q:=fun r s'=>r=w∧EP X pins σ Q r s') pl (by omega) (by omega) (by rw[List.size_toArray,← hl];exact h1) (by simpa using ew) ⟨rfl,fin⟩) hs
theorem zE:IxR X rIxS:=by
 intro value slice pins s σ H x y v u Q I rx ry h hs
 obtain⟨z,i,c,rfl,rfl,hz,he,q⟩:=h
 obtain⟨t,rfl⟩:=rx
 obtain⟨t',rfl⟩:=ry
 obtain⟨j,h1,h2,h3,h4,h5⟩:=n6 he
 have hl:z.cps.toList.length=z.length:=by simp[Str.length]
 rw[hl]at h1 h4 h5
 have hn:=line63
 exact tail_any (typeIs_str s z t) slot_str_getitem.lookup (getItem_str (c:=c) (by
  have e1:decide (i < -(2^63:Int))=false:=decide_eq_false (by omega)
  have e2:decide (i≥2^63)=false:=decide_eq_false (by omega)
  rw[e1,e2,Bool.or_false]) (by rw[h1];simpa using h2) ⟨.str ⟨#[c]⟩,H,I.tok _,⟨_,rfl⟩,q⟩) hs
def rIx (K:PySem.W.Frag):R2:=fun x y H Q=>rIxL K x y H Q∨rIxT K x y H Q∨rIxS x y H Q
theorem zF:IxR X (rIx X.K):=sJ.or (zC.or zE)
theorem Inv.lst {pins:List (Addr×Obj)}{σ:St}{H:Hp}{s:Shared}{p:Addr}{xs:List V}(I:Inv X pins σ H s)(h:H p=some (.lst xs)) :
  ∃ (its:List Value) (n:Nat),Vals xs its∧s.heap.get? p=some { cls:=.type "list",data:=.seq its.toArray n }∧xs.length≤sizeLine:=by
 obtain⟨z,its,n,r,e⟩:=I.hok p _ h
 exact⟨its,n,r,e,z⟩
theorem n9 (lo hi:Option Int)(n:Nat):(sliceBounds lo hi none n).1=((HT.sIx n 0 lo:Nat):Int)∧(sliceBounds lo hi none n).2.1=((HT.sIx n n hi:Nat):Int)∧(sliceBounds lo hi none n).2.2=1:=by
 refine⟨?_,?_,rfl⟩
 ·cases lo with
  | none=>simp[sliceBounds,HT.sIx]
  | some i =>
   simp only[sliceBounds,HT.sIx,Option.getD_none,show (1:Int) > 0 by decide,if_true]
   by_cases h:i < 0
   ·simp only[h,if_true]<;>omega
   ·simp only[h,if_false]<;>omega
 ·cases hi with
  | none=>simp[sliceBounds,HT.sIx]
  | some i =>
   simp only[sliceBounds,HT.sIx,Option.getD_none,show (1:Int) > 0 by decide,if_true]
   by_cases h:i < 0
   ·simp only[h,if_true]<;>omega
   ·simp only[h,if_false]<;>omega
theorem mq (its:List Value)(lo hi:Option Int):slicePick its.toArray lo hi none=((its.drop (HT.sIx its.length 0 lo)).take (HT.sIx its.length its.length hi - HT.sIx its.length 0 lo)).toArray:=by
 obtain⟨h1,h2,h3⟩:=n9 lo hi its.toArray.size
 unfold slicePick
 rw[h1,h2,h3]
 simp only[sliceRange_one,pick_run,List.size_toArray]<;>rfl
def rSlL (K:PySem.W.Frag):V→Option Int→Option Int→Hp→VK→Prop:=fun x lo hi H Q=>∃ a xs,x=.ref a∧SqL K H a xs∧∀ p,H p=none→Q (.ref p) (upd H p (.lst (cutV xs lo hi)))
theorem xH:SlR X (rSlL X.K):=by
 intro pins s σ H x v vl vu lo hi sl Q I rx hs pl pu h
 obtain⟨a,xs,rfl,hx,q⟩:=h
 cases rx
 obtain⟨its,r,ht,hz⟩:=I.list hx
 have hlen:=r.length
 refine⟨"list",_,slot_list_getitem.lookup,ht.isList.typeIs,?_⟩
 refine wpAny_getItem_list_slice ht.isList hs pl pu .none (by simp) ?_ (by rw[List.size_toArray]<;>omega)
 rw[mq,← hlen]
 refine⟨.ref s.heap.objs.size,_,I.laid (t':=s.toks) (o:=.lst (cutV xs lo hi)) (fun b ob q=>Heap.get?_push_of_some _ q) (Nat.le_refl _) ?_,rfl,q _ (I.hok.fresh (Nat.le_refl _))⟩
 exact⟨Nat.le_trans (kj xs lo hi) hz,_,0,(r.drop (HT.sIx xs.length 0 lo)).take (HT.sIx xs.length xs.length hi - HT.sIx xs.length 0 lo),Heap.get?_push_size _ rfl⟩
def flatV:V→Bool
 | .non=>true
 | .bl _=>true
 | .int _=>true
 | .str _=>true
 | _=>false
def eqV:V→V→Bool
 | .non,.non=>true
 | .bl a,.bl b=>a==b
 | .bl a,.int b=>(if a then 1 else 0)==b
 | .int a,.bl b=>a==(if b then 1 else 0)
 | .int a,.int b=>a==b
 | .str a,.str b=>a==b
 | _,_=>false
theorem vL {A:Around}{s:Shared}{y x:V}{u v:Value}(ry:RelV y u)(rx:RelV x v)(fy:flatV y=true)(fx:flatV x=true):SeqAt.EqAt A s u v (eqV y x):=by
 cases y with
 | non =>
  cases ry
  cases x with
  | non=>cases rx;exact SeqAt.EqAt.same _
  | bl b=>cases rx;exact SeqAt.EqAt.none_bool b
  | int b=>obtain⟨t,rfl⟩:=rx;exact SeqAt.EqAt.none_int b t
  | str b=>obtain⟨t,rfl⟩:=rx;exact SeqAt.EqAt.none_str b t
  | _=>exact absurd (show false=true from fx) Bool.false_ne_true
 | bl a =>
  cases ry
  cases x with
  | non=>cases rx;exact SeqAt.EqAt.bool_none a
  | bl b=>cases rx;exact SeqAt.EqAt.bool_bool a b
  | int b=>obtain⟨t,rfl⟩:=rx;exact SeqAt.EqAt.bool_int a b t
  | str b=>obtain⟨t,rfl⟩:=rx;exact SeqAt.EqAt.bool_str a b t
  | _=>exact absurd (show false=true from fx) Bool.false_ne_true
 | int a =>
  obtain⟨t',rfl⟩:=ry
  cases x with
  | non=>cases rx;exact SeqAt.EqAt.int_none a t'
  | bl b=>cases rx;exact SeqAt.EqAt.int_bool a t' b
  | int b=>obtain⟨t,rfl⟩:=rx;exact SeqAt.EqAt.int_int a t' b t
  | str b=>obtain⟨t,rfl⟩:=rx;exact SeqAt.EqAt.int_str a t' b t
  | _=>exact absurd (show false=true from fx) Bool.false_ne_true
 | str a =>
  obtain⟨t',rfl⟩:=ry
  cases x with
  | non=>cases rx;exact SeqAt.EqAt.str_none a t'
  | bl b=>cases rx;exact SeqAt.EqAt.str_bool a t' b
  | int b=>obtain⟨t,rfl⟩:=rx;exact SeqAt.EqAt.str_int a t' b t
  | str b=>obtain⟨t,rfl⟩:=rx;exact SeqAt.EqAt.str_str a t' b t
  | _=>exact absurd (show false=true from fx) Bool.false_ne_true
 | _=>exact absurd (show false=true from fy) Bool.false_ne_true
theorem oa:CallR X (.builtin "len") (fun xs H Q=>∃ p ys,xs=[.ref p]∧(SqL X.K H p ys∨SqT X.K H p ys)∧Q (.int ys.length) H):=by
 intro pins s σ H xs us Q I r h
 obtain⟨p,ys,rfl,hq,q⟩:=h
 obtain⟨u,rfl,rx⟩:=vals1 r
 cases rx
 have hn:=line63
 rcases hq with hq | hq
 ·obtain⟨its,r',pl,hz⟩:=I.list hq
  have hlen:=r'.length
  exact Calls.call_len_list pl.isList (by simp only[List.size_toArray]<;>omega) ⟨.int ys.length,H,I.tok _,⟨s.toks+1,by rw[List.size_toArray,hlen]⟩,q⟩
 ·obtain⟨its,r',pl,hz⟩:=I.tuple hq
  have hlen:=r'.length
  exact len_tuple pl (by simp only[List.size_toArray]<;>omega) ⟨.int ys.length,H,I.tok _,⟨s.toks+1,by rw[List.size_toArray,hlen]⟩,q⟩
theorem mr:CallR X (.type "tuple") (fun xs H Q=>∃ p ys,xs=[.ref p]∧((SqL X.K H p ys∧∀ l,H l=none→Q (.ref l) (upd H l (.tup ys)))∨(SqT X.K H p ys∧Q (.ref p) H))):=by
 intro pins s σ H xs us Q I r h
 obtain⟨p,ys,rfl,h⟩:=h
 obtain⟨u,rfl,rx⟩:=vals1 r
 cases rx
 rcases h with ⟨hq,q⟩ | ⟨hq,q⟩
 ·obtain⟨its,r',pl,hz⟩:=I.list hq
  have hlen:=r'.length
  refine call_tuple_list pl.isList (fun h' kp=>?_) (by simp only[List.size_toArray]<;>omega)
  have I1:Inv X pins σ H { s with heap:=h' }:=I.kept (t':=s.toks) kp
  have I2:Inv X pins σ (upd H h'.objs.size (.tup ys)) { s with heap:=h'.push { cls:=.type "tuple",data:=.seq its.toArray } } :=
   I1.laid (t':=s.toks) (fun b o e=>Heap.get?_push_of_some _ e) (Nat.le_refl _) (show ObjOk X.prog X.w _ _ _ (.tup ys) from ⟨hz,its,r',TupO.new _ _⟩)
  exact⟨.ref h'.objs.size,_,I2,rfl,q _ (I1.hok.fresh (Nat.le_refl _))⟩
 ·obtain⟨its,r',pl,hz⟩:=I.tuple hq
  exact call_tuple_same pl ⟨.ref p,H,I,rfl,q⟩
def tyV (K:PySem.W.Frag)(T:String)(x:V)(H:Hp):Prop:=match x with
 | .str _=>T="str"
 | .int _=>T="int"
 | .ref p=>(T="list" ∧ ∃ xs,SqL K H p xs)∨(T="tuple" ∧ ∃ o,K.lookup p=some o∧o.cls=.type "tuple" ∧ o.dict=none) ∨
   (T="dict" ∧ ((∃ kvs,H p=some (.dK kvs))∨∃ kvs,H p=some (.dT kvs)))∨(T="set" ∧ ∃ S n,H p=some (.set S n))
 | _=>False
theorem zG {pins:List (Addr×Obj)}{σ:St}{H:Hp}{s:Shared}{T:String}{x:V}{v:Value}(I:Inv X pins σ H s)(r:RelV x v)(ty:tyV X.K T x H) :
  s.TypeIs v T∧∀ a,v=.ref a→∃ ob,s.heap.get? a=some ob∧ob.dict=none:=by
 cases x with
 | str z =>
  obtain⟨t,rfl⟩:=r
  cases (show T="str" from ty)
  exact⟨typeIs_str s z t,fun _ e=>nomatch e⟩
 | int i =>
  obtain⟨t,rfl⟩:=r
  cases (show T="int" from ty)
  exact⟨typeIs_int s i t,fun _ e=>nomatch e⟩
 | ref p =>
  cases r
  rcases ty with ⟨rfl,xs,hq⟩ | ⟨rfl,o,hk,hc,hd⟩ | ⟨rfl,hk⟩ | ⟨rfl,S,n,hk⟩
  ·obtain⟨its,_,pl,_⟩:=I.list hq
   refine⟨pl.isList.typeIs,fun a e=>?_⟩
   cases e
   obtain⟨o,n,e,c,hd,_⟩:=pl
   exact⟨o,e,hd⟩
  ·refine⟨⟨o,I.kIn p o hk,hc⟩,fun a e=>?_⟩
   cases e
   exact⟨o,I.kIn _ o hk,hd⟩
  ·have z:∃ o,s.heap.get? p=some o∧o.ExactDict:=by
    rcases hk with ⟨kvs,hk⟩ | ⟨kvs,hk⟩
    ·obtain⟨_,_,_,_,o,_,_,e,ex,_⟩:=I.hok p _ hk
     exact⟨o,e,ex⟩
    ·obtain⟨_,_,_,_,o,_,_,e,ex,_⟩:=I.hok p _ hk
     exact⟨o,e,ex⟩
   obtain⟨o,e,ex⟩:=z
   refine⟨⟨o,e,ex.1⟩,fun a e2=>?_⟩
   cases e2
   exact⟨o,e,ex.2.1⟩
  ·obtain⟨o,_,_,_,e,ex,_⟩:=I.hok p _ hk
   refine⟨⟨o,e,ex.1⟩,fun a e2=>?_⟩
   cases e2
   exact⟨o,e,ex.2.1⟩
 | _=>exact False.elim ty
def tBM (K:PySem.W.Frag)(T:String)(r:V→List V→Hp→VK→Prop)(to:TE)(t:TA):TE:=fun σ H Q=>to σ H fun x H1=>tyV K T x H1∧t σ H1 fun xs H2=>r x xs H2 Q
variable {o e:Expr}{es:List Expr}{to:TE}{t:TA}{name:Str}{apos cpos:Pos}{T id:String}{r:V→List V→Hp→VK→Prop}
theorem nc (pa:PlainAttrs T)(slot:Slot T name id)(hty:typeOf (.builtin id)=pure (.type "method_descriptor"))(hm:MtR X id r)(ho:PE X o to)(ha:PA X (e::es) t)
  (hbase:attributeBase o name X.env (eval o X.env)=eval o X.env:=by rfl)
  (hfew:((backTo cpos (starEach (e::es) X.env)).all (fun x=>!x.1)&&(backToKw cpos (keywordEach [] X.env)).all (fun x=>x.1.isSome)
   && decide ((e::es).length+([]:List Keyword).length+(if ([]:List Keyword).isEmpty then 0 else 1) < 30))=true:=by rfl)
  (hline:(apos.endLine==cpos.line)=true:=by rfl) (hs:starEach (e::es) X.env=(false,eval e X.env)::starEach es X.env:=by rfl) (hplain:(backTo cpos (starEach es X.env)).any (·.1)=false:=by rfl) :
  PE X (.Call (.Attribute o name apos) (e::es) [] cpos) (tBM X.K T r to t):=by
 intro pins s σ H Q I h
 refine wpAny_Call_method_late hbase hfew hline rfl (thn (ho pins s σ H _ I h) fun v s1 ⟨x,H1,I1,r1,ty,q1⟩=>?_)
 obtain⟨h1,h2⟩:=zG I1 r1 ty
 refine⟨T,id,pa,slot,hty,h1,h2,?_⟩
 have hA:=ha cpos pins s1 σ H1 _ I1 q1
 rw[hs]at hA ⊢
 refine Calls.callWith_builtin (by show (false||(backTo cpos (starEach es X.env)).any (·.1))=false;rw[hplain]<;>rfl) (Calls.evalArgs_plain ?_)
 exact thn hA fun us s2 ⟨vs,H2,I2,r2,q2⟩=>hm pins s2 σ H2 x vs v us Q I2 r1 r2 q2
end
end L2
namespace L2
open PySem PySem.Spec PyProof.Rows
def MtM (X:Cx)(id:String)(r:V→List V→Hp→VK→Prop):Prop :=
 ∀ (pins:List (Addr×Obj)) (s:Shared) (σ:St) (H:Hp) (x:V) (xs:List V) (v:Value) (us:List Value) (Q:VK),Inv X pins σ H s→RelV x v→Vals xs us→r x xs H Q →
  wpAny (model X.prog X.w) X.A (call (.builtin id) (v::us)) (EP X pins σ Q) X.xe s
theorem Vals.one:∀ {x:V} {us:List Value},Vals [x] us→∃ u,us=[u]∧RelV x u
 | _,_,.cons r .nil=>⟨_,rfl,r⟩
theorem Vals.rep {xs:List V}{us:List Value}(h:Vals xs us):∀ k:Nat,Vals (List.replicate k xs).flatten (List.replicate k us).flatten
 | 0=>.nil
 | k+1=>by
  rw[List.replicate_succ,List.replicate_succ,List.flatten_cons,List.flatten_cons]
  exact Vals.append h (Vals.rep h k)
theorem jD (its:List Value):∀ (k:Nat) (acc:List Value),
  List.foldl (fun x1 x2=>x1++x2) acc.toArray (List.replicate k its.toArray)=(acc++(List.replicate k its).flatten).toArray
 | 0,acc=>by simp
 | k+1,acc=>by
  have e:acc.toArray++its.toArray=(acc++its).toArray:=by simp
  have e2:(acc++its)++(List.replicate k its).flatten=acc++(List.replicate (k+1) its).flatten:=by
   rw[List.replicate_succ,List.flatten_cons,List.append_assoc]
  rw[← e2,← jD its k (acc++its),← e,List.replicate_succ,List.foldl_cons]
section
variable {X:Cx}{pins:List (Addr×Obj)}{σ:St}{H:Hp}{s:Shared}{l b:Addr}{xs ys zs:List V}
theorem Inv.lset {its its':List Value}{n:Nat}{f:Array Value→Array Value}{t':Nat}(I:Inv X pins σ H s)(hH:H l=some (.lst xs))
  (e:s.heap.get? l=some { cls:=.type "list",data:=.seq its.toArray n }) (hf:f its.toArray=its'.toArray) (hv:Vals ys its') (hz:ys.length≤sizeLine) :
  Inv X pins σ (upd H l (.lst ys)) { s with heap:=s.heap.update l (Obj.mapSeq f),toks:=t' }:=by
 have q:=PySem.IsL.update e f
 rw[hf]at q
 refine I.write (x:=l) (e:=l) (by rw[hH];exact trivial) (.inl rfl) (fun b' u hb hu=>(Heap.get?_update_other s.heap (Obj.mapSeq f) (Ne.symm hb)).trans hu) ⟨_,q⟩ ?_
 exact⟨hz,its',_,hv,q⟩
theorem Inv.lnew {its:List Value}{t':Nat}(I:Inv X pins σ H s)(hv:Vals ys its)(hz:ys.length≤sizeLine) :
  Inv X pins σ (upd H s.heap.objs.size (.lst ys)) { s with heap:=s.heap.push { cls:=.type "list",data:=.seq its.toArray },toks:=t' } :=
 I.laid (fun _ _ q=>Heap.get?_push_of_some _ q) (Nat.le_refl _) ⟨hz,its,0,hv,Heap.get?_push_size _ rfl⟩
theorem Inv.fresh (I:Inv X pins σ H s):H s.heap.objs.size=none:=I.hok.fresh (Nat.le_refl _)
theorem Inv.lstM (I:Inv X pins σ H s)(hH:H l=some (.lst xs)):xs.length≤sizeLine∧∃ (its:List Value) (n:Nat),Vals xs its∧xs.length=its.length∧s.heap.get? l=some { cls:=.type "list",data:=.seq its.toArray n }:=by
 obtain⟨z,its,n,r,e⟩:=I.hok l _ hH
 exact⟨z,its,n,r,r.length,e⟩
theorem notLongL {n:Nat}(h:n≤sizeLine):Builtin.List.listTooLong n=false:=by
 unfold Builtin.List.listTooLong
 exact decide_eq_false (by omega)
end
section
variable {X:Cx}
def rAppend:V→List V→Hp→VK→Prop:=fun x vs H Q=>∃ l xs y,x=.ref l∧vs=[y]∧H l=some (.lst xs)∧xs.length < sizeLine∧Q .non (upd H l (.lst (xs++[y])))
theorem ng:MtM X "list.append" rAppend:=by
 intro pins s σ H x vs v us Q I rx rv h
 obtain⟨l,xs,y,rfl,rfl,hH,hz,q⟩:=h
 cases rx
 obtain⟨u,rfl,ru⟩:=rv.one
 obtain⟨z,its,n,r,hl,e⟩:=I.lstM hH
 refine call_meets F.slot_list_append ⟨_,e,rfl⟩ F.entry_list_append (F.args_list_append_2 _ _) (PySem.list_append l its.toArray n u (by rw[List.size_toArray];omega)) ⟨e,?_⟩
 refine⟨.non,_,I.lset (its':=its++[u]) hH e (by simp) (r.append (.cons ru .nil)) ?_,rfl,q⟩
 rw[List.length_append,List.length_singleton]
 omega
theorem sK {α:Type}(xs:List α)(k:Nat):(List.replicate k xs).flatten.length=k*xs.length:=by
 induction k with
 | zero=>simp
 | succ k ih=>rw[List.replicate_succ,List.flatten_cons,List.length_append,ih,Nat.succ_mul,Nat.add_comm]
end
section
variable {prog:Program}{w:World}{A:Around}{E:Value→Shared→Prop}{s:Shared}
set_option maxRecDepth 100000 in
end
section
variable {X:Cx}
end
end L2
namespace Att
open PySem PySem.W PySem.Calls PyProof.Rows
theorem kz {P:Params}{h:Heap}:∀ (ns:List Int) (vs:List Value),WellAll P h vs (ns.map WData.int)→IntsAre vs ns:=by
 intro ns
 induction ns with
 | nil =>
  intro vs w
  rw[List.map_nil]at w
  cases w
  exact .nil
 | cons n ns ih =>
  intro vs w
  rw[List.map_cons]at w
  cases w with
  | cons a b =>
   cases a
   exact .cons _ _ (ih _ b)
theorem t4 {l:OpenLaw}{n:Nat}(hn:l.most=some n){P:Params}{h:Heap}{args:List WData}{vals:List Value}
  (hpre:l.row.toRowW.claim.pre args=true) (hwl:WellAll P h vals args) :
  ∃ a vs ns,vals=[Value.ref a]∧args=[WData.list (ns.map WData.int)]∧h.get? a=some { cls:=.type "list",data:=.seq vs.toArray }∧IntsAre vs ns∧ns.length≤n:=by
 have hsh:WShape.hasAll [] args [.list .int]=true:=(pre_splitW hpre).1
 have hc:l.pre.holds [] { args:=args }=true:=(pre_splitW hpre).2
 obtain⟨d,r,rfl,h1,h2⟩:=hasAllW_cons hsh
 obtain rfl:=hasAllW_nil h2
 obtain⟨xs,rfl,h3⟩:=hasW_list h1
 obtain⟨ns,rfl⟩:=items_int h3
 have hlen:ns.length≤n:=by
  unfold OpenLaw.pre at hc
  have h4:(WTm.not (.lt (.lit (.int (n:Int))) (.len (.arg 0)))).holds [] { args:=[.list (ns.map .int)] }=true:=by
   have h4:=(holds_andW hc).1
   rw[hn]at h4
   exact h4
  have h5:=condW_of h4 (w_not (w_lt w_lit (w_len_list (w_arg rfl))))
  rw[List.length_map]at h5
  refine Nat.le_of_not_lt fun q=>?_
  have q':(n:Int) < ((ns.length:Nat):Int):=by omega
  first
   | (rw[decide_eq_true q']at h5;exact absurd h5 (by decide))
   | (simp at h5;omega)
 cases hwl with
 | cons w1 w2 =>
  cases w2
  cases w1 with
  | list ho hall=>exact⟨_,_,ns,rfl,rfl,ho,kz ns _ hall,hlen⟩
theorem t5 (l:OpenLaw)(args:List WData):l.row.toRowW.claim.post args (.bool true) args=true :=
 postW_of (r:=l.row.toRowW) (X:=(true==true))
  (show WShape.has [] (.bool true) .bool=true by first | rfl | decide | simp[WShape.has,WShape.arms,WShape.armsAll])
  (show (WTm.eq .res (.lit (.bool true))).value [] { args:=args,res:=some (.bool true),after:=args }=some (.bool (true==true)) from w_eq_bool (w_res rfl) w_lit) rfl
theorem attach_call {l:OpenLaw}{n:Nat}{q:Program}{loose:List Str}{XP:(Str→Option Value)→Heap→Prop}{YP:World→Heap→Prop}{d:DefRec}
  (hn:l.most=some n) (hdf:d.params.defaults=[])
  (call:∀ (w:World) (s₀ s₁:Shared) (mg mb:Str→Option Value) (fa:Addr) (o:Obj) (pm cd doc:Value) (a:Addr) (vs:List Value) (ns:List Int),
   Ground q loose [] XP w s₀ mg mb s₁.heap→YP w s₁.heap →
   s₁.heap.get? fa=some o→o.data=.func (docDef d.name d.params d.body d.scope pm cd doc)→s₁.heap.CodeRec cd d.name→mg d.name=some (.ref fa) →
   s₁.heap.get? a=some { cls:=.type "list",data:=.seq vs.toArray }→IntsAre vs ns→ns.length≤n→s₁.gens = #[] →
   codeAny (model l.prog w) callerA (.call (.ref fa) ⟨[.ref a],[]⟩) (fun r s'=>r=.ok (.ret (.bool true))∧OldK s₁.heap s'.heap∧s'.os=s₁.os∧AllBare s'.gens) s₁) :
  WalkO q loose XP YP l.row.toRowW d [] (fun f vs=>PySem.call f vs):=by
 intro w s₀ s₁ mg mb G Y fa o pm cd doc dV kV ho hd hcd hD hmg hg args vals as hpre hlay hrd hwl hlo
 obtain rfl:dV=.none:=Dflts.none hD hdf
 obtain rfl:kV=.none:=Dflts.noKw hD
 obtain⟨a,vs,ns,rfl,rfl,hobj,hints,hlen⟩:=t4 hn hpre hwl
 refine enter_call (codeAny_mono (call w s₀ s₁ mg mb fa o pm cd doc a vs ns G Y ho (fd_plain hd) hcd hmg hobj hints hlen hg) fun r s' hq=>?_)
 obtain⟨rfl,h2,h3,h4⟩:=hq
 exact⟨.inl ⟨.bool true,.bool true,[],rfl,fun _=>rfl,.bool true,t5 l _,fun _=>⟨List.Pairwise.nil,fun _ hm=>(nomatch hm)⟩⟩,h2,h3,h4⟩
section
variable {prog:Program}{w:World}{A:Around}{E:Value→Shared→Prop}{s:Shared}{K:Frag}
theorem Au {x C:Addr}{ox:Obj}{es:List DictEntry}{n:Nat}{name:Str}{expr:Bool}{v:Value}{Q:Value→Shared→Prop}
  (X:K.In s.heap) (I:PySem.W.InstAt s.heap x ox C (some (dictOf es n))) (hg:plainGet K C name=true) (hh:hasDictIn K C=true) (ha:findIn K (.ref C) name=some none)
  (hl:getL name es=some (some v)) (hv:handedIn v=true) (h:Q v { s with toks:=s.toks+1 }):wpAny (model prog w) A (getAttr (.ref x) name expr) Q E s :=
 get_value X I (plainGet_of hg).1 (findObj_own hh ha rfl hl) hv h
end
end Att
namespace L2
open PySem PySem.Spec PyProof.Rows
theorem bI:∀ {vs:List Value} {ns:List Int},IntsAre vs ns→Vals (ns.map V.int) vs
 | _,_,.nil=>.nil
 | _,_,.cons n t h=>.cons ⟨t,rfl⟩ (bI h)
def Only (H:Hp):Prop:=∀ b,H b=none∨∃ o xs,H b=some (.frz o (.lst xs))
theorem vM {P:Program}{w:World}{K:PySem.W.Frag}{mg mb:Str→Option Value}{CX:CXT}{k:Nat}{fa a:Addr}{fd:FuncData}{x:Str}{sp:Sp}{s₁:Shared}{vs:List Value}{ns:List Int}
  (KX:K.In s₁.heap) (hns:s₁.heap.Ns mainGlobals mg) (hb:s₁.heap.Ns builtinsNs mb) (hbb:∀ x:Str,x ≠ "__name__" → mb x=bootBuiltins x) (hlim:s₁.heap.NoLimit) (hg:s₁.gens = #[])
  (ha:s₁.heap.get? a=some { cls:=.type "list",data:=.seq vs.toArray }) (hi:IntsAre vs ns) (hl:ns.length≤sizeLine) (hr:Room k callerA)
  (F:∀ base:Heap,K.In base→base.Ns mainGlobals mg→FnOk P w K mg base CX k fa fd [x] sp) (hbind:∀ (s:Shared) (u:Value),BindsTo s fd ⟨[u],[]⟩ [(x,u)])
  (hsp:∀ H:Hp,Only H→SqL K H a (ns.map V.int)→sp [.ref a] H (fun v _=>v=.bl true) fun _ _ _=>False)
  (hCX:∀ H e s',CX [] H s₁ (fun _ _ _=>False) e s'→False) :
  codeAny (model P w) callerA (.call (.ref fa) ⟨[.ref a],[]⟩) (fun r s'=>r=.ok (.ret (.bool true))∧OldK s₁.heap s'.heap∧s'.os=s₁.os∧AllBare s'.gens) s₁:=by
 have rv:=bI hi
 have lenV:=hi.length
 have core:∀ H:Hp,Only H→SqL K H a (ns.map V.int)→HOk P w H s₁.heap→(∀ b,H b≠none→b=a)→(H a≠none→K.lookup a=none) →
   codeAny (model P w) callerA (.call (.ref fa) ⟨[.ref a],[]⟩) (fun r s'=>r=.ok (.ret (.bool true))∧OldK s₁.heap s'.heap∧s'.os=s₁.os∧AllBare s'.gens) s₁:=by
  intro H hO hS hok hA hK
  have base_of:∀ {b:Addr} {o:Obj},s₁.heap.get? b=some o→H b=none→(hidT s₁.heap H).get? b=some o:=fun e n=>vy e n
  have noA:∀ {b:Addr} {o:Obj} {es:Array DictEntry} {ep:Nat},s₁.heap.get? b=some o→o.data=.dict es ep→H b=none:=fun {b o es ep} e d=>by
   cases q:H b with
   | none=>rfl
   | some u =>
    have e':b=a:=hA b (by rw[q];simp)
    subst e'
    rw[ha]at e;cases e
    have d':Data.seq vs.toArray _=Data.dict es ep:=d
    cases d'
  have nsK:∀ {b:Addr} {m:Str→Option Value},s₁.heap.Ns b m→(hidT s₁.heap H).Ns b m:=fun {b m} ⟨o,es,ep,e,d,r⟩=>⟨o,es,ep,base_of e (noA e d),d,r⟩
  have hKb:K.In (hidT s₁.heap H):=fun b o e=>base_of (KX b o e) (by
   cases q:H b with
   | none=>rfl
   | some u =>
    have e':b=a:=hA b (by rw[q];simp)
    subst e'
    rw[hK (by rw[q];simp)]at e;cases e)
  have hM:Mod K mg (hidT s₁.heap H):=⟨hKb,nsK hns,⟨mb,nsK hb,hbb⟩,let ⟨mc,h1,h2⟩:=hlim;⟨mc,nsK h1,h2⟩⟩
  have e0:Env0 P w K mg (hidT s₁.heap H) callerA [] s₁ H:=⟨rfl,hM,fun b o e=>xt e,Nat.le_of_eq (tQ _ _),trivial,fun b hb=>absurd (show b∈([]:List Addr) from hb) (by simp),hok,.of_eq hg⟩
  refine codeAny_mono ((F _ hKb (nsK hns)).run callerA [] s₁ H ⟨[.ref a],[]⟩ [.ref a] [.ref a] _ _ hr e0 (hbind s₁ (.ref a)) (.cons rfl .nil) (hsp H hO hS)) fun r s' h=>?_
  cases r with
  | error e=>exact(hCX H e s' h).elim
  | ok fl =>
   cases fl with
   | next=>exact False.elim h
   | brk=>exact False.elim h
   | cont=>exact False.elim h
   | ret u =>
    obtain⟨v,H',os,bare,un,hok',r',q⟩:=h
    have q':v=.bl true:=q
    subst q'
    obtain rfl:u=Value.bool true:=r'
    refine⟨rfl,OldK.of_keep fun b o e=>?_,os,bare⟩
    cases q:H b with
    | none=>exact un.keep b o e q (by intro z;exact absurd (show b∈([]:List Addr) from z) (by simp)) (by simp)
    | some u =>
     rcases hO b with z | ⟨ob,xs,z⟩
     ·rw[q]at z;cases z
     ·have z2:=un.frzs b ob _ z
      obtain⟨e1,_⟩:=hok b _ z
      obtain⟨e2,_⟩:=hok' b _ z2
      rw[e]at e1;cases e1
      exact e2
 cases hk:K.lookup a with
 | some o =>
  have e:=KX a o hk
  rw[ha]at e
  cases e
  refine core (fun _=>none) (fun _=>.inl rfl) (.inr ⟨_,vs.toArray,_,hk,rfl,rfl,rfl,by rw[List.size_toArray,lenV];exact hl,by simpa using rv⟩) (fun b u z=>by have z':(none:Option HO)=some u:=z;cases z') (fun b z=>absurd rfl z) fun z=>absurd rfl z
 | none =>
  refine core (fun b=>if b=a then some (.frz { cls:=.type "list",data:=.seq vs.toArray } (.lst (ns.map V.int))) else none) (fun b=>?_) (.inl (.inr ⟨{ cls:=.type "list",data:=.seq vs.toArray },if_pos rfl⟩)) (fun b u z=>?_) (fun b z=>?_) fun _=>hk
  ·by_cases hb:b=a
   ·exact .inr ⟨_,_,if_pos hb⟩
   ·exact .inl (if_neg hb)
  ·by_cases hb:b=a
   ·have z':=(if_pos hb).symm.trans z
    cases z'
    subst hb
    exact⟨ha,by rw[List.length_map];exact hl,vs,_,rv,ha⟩
   ·have z':=(if_neg hb).symm.trans z
    cases z'
  ·by_cases hb:b=a
   ·exact hb
   ·exact absurd (if_neg hb) z
end L2
namespace L2
open PySem PySem.Spec PyProof.Rows
theorem xI {l:PySem.W.OpenLaw}{n k:Nat}{q:Program}{loose:List Str}{XP:(Str→Option Value)→Heap→Prop}{YP:World→Heap→Prop}{d:DefRec}{K:Params→PySem.W.Frag}{CX:World→CXT}{sp:World→Sp}{x:Str}
  (hn:l.most=some n) (hn2:n≤sizeLine) (hdf:d.params.defaults=[]) (hr:Room k callerA)
  (hY:∀ (w:World) (h:Heap),YP w h→(K w.params).In h)
  (F:∀ (w:World) (mg:Str→Option Value) (fa:Addr) (h:Heap),(K w.params).In h→h.Ns mainGlobals mg→mg d.name=some (.ref fa) →
   ∃ fd:FuncData,(∀ (s:Shared) (u:Value),BindsTo s fd ⟨[u],[]⟩ [(x,u)]) ∧
    ∀ base:Heap,(K w.params).In base→base.Ns mainGlobals mg→FnOk l.prog w (K w.params) mg base (CX w) k fa fd [x] (sp w))
  (hsp:∀ (w:World) (H:Hp) (a:Addr) (ns:List Int),ns.length≤n→Only H→SqL (K w.params) H a (ns.map V.int)→sp w [.ref a] H (fun v _=>v=.bl true) fun _ _ _=>False)
  (hCX:∀ (w:World) (H:Hp) (s:Shared) (e:Value) (s':Shared),CX w [] H s (fun _ _ _=>False) e s'→False) :
  PySem.W.WalkO q loose XP YP l.row.toRowW d [] (fun f vs=>PySem.call f vs):=by
 refine Att.attach_call hn hdf fun w s₀ s₁ mg mb fa o pm cd doc a vs ns G Y ho hd hcd hmg hobj hints hlen hg=>?_
 have KX:=hY w _ Y
 obtain⟨fd,hb,hF⟩:=F w mg fa _ KX G.T.g hmg
 exact vM KX G.T.g G.T.b G.T.builtins G.T.nolimit hg hobj hints (Nat.le_trans hlen hn2) hr hF hb (fun H hO hS=>hsp w H a ns hlen hO hS) fun H e s'=>hCX w H s₁ e s'
end L2
namespace L2
open PySem PySem.Spec PyProof.Rows
def defArgs (s:Stmt):Arguments:=match s with
 | .FunctionDef _ a _ _ _ _ _ _ _ _=>a
 | _=>{ posonlyargs:=[],args:=[],vararg:=none,kwonlyargs:=[],kw_defaults:=[],kwarg:=none,defaults:=[] }
def defBody (s:Stmt):List Stmt:=match s with
 | .FunctionDef _ _ b _ _ _ _ _ _ _=>b
 | _=>[]
def defScope (s:Stmt):Scope:=match s with
 | .FunctionDef _ _ _ _ _ _ sc _ _ _=>sc
 | _=>{ kind:=.function,names:=[],isGenerator:=false,isCoroutine:=false }
structure Fun (K:PySem.W.Frag)(x qual:Str)(st:Stmt)(f:Addr)(fd:FuncData):Prop where
 ex:∃ (oc:Value) (od:Option Addr) (kV doc pm:Value) (an:Option Addr) (cdv ct:Value) (osl:Array (Option Value)),
  fd=PySem.W.fnOf x qual (defArgs st) (defBody st) (defScope st) .none kV doc pm an cdv ct∧K.lookup f=some ⟨oc,od,.func fd,osl⟩∧PySem.W.codeIn K cdv qual=true
 kp:PySem.W.keepIn K (.ref f)=true
section
variable {P:Program}{w:World}{K:PySem.W.Frag}{mg:Str→Option Value}{base:Heap}
theorem Fun.binds {x qual:Str}{st:Stmt}{f:Addr}{fd:FuncData}{ps:List Str}(F:Fun K x qual st f fd)
  (h:∀ (kV doc pm:Value) (an:Option Addr) (cdv ct:Value) (us:List Value),us.length=ps.length→bindArgs (PySem.W.fnOf x qual (defArgs st) (defBody st) (defScope st) .none kV doc pm an cdv ct) ⟨us,[]⟩=pure (ps.zip us)):Binds K fd ps []:=by
 obtain⟨oc,od,kV,doc,pm,an,cdv,ct,osl,rfl,lk,hcd⟩:=F.ex
 exact .all (h kV doc pm an cdv ct)
theorem rj {x qual:Str}{st:Stmt}{f:Addr}{oc:Value}{od an:Option Addr}{osl:Array (Option Value)}{kV doc pm cdv ct:Value}(l:K.lookup f=some ⟨oc,od,.func (PySem.W.fnOf x qual (defArgs st) (defBody st) (defScope st) .none kV doc pm an cdv ct),osl⟩)
  (c:PySem.W.codeIn K cdv qual=true) (k:PySem.W.keepIn K (.ref f)=true):Fun K x qual st f (PySem.W.fnOf x qual (defArgs st) (defBody st) (defScope st) .none kV doc pm an cdv ct):=⟨⟨oc,od,kV,doc,pm,an,cdv,ct,osl,rfl,l,c⟩,k⟩
end
section
variable {X:Cx}
end
def Same (H H':Hp):Prop:=∀ b o,H b=some o→H' b=some o
theorem Same.refl (H:Hp):Same H H:=fun _ _ h=>h
theorem Same.trans {H H1 H2:Hp}(a:Same H H1)(b:Same H1 H2):Same H H2:=fun c o h=>b c o (a c o h)
theorem Same.free {H H':Hp}(e:Same H H'){l:Addr}(h:H' l=Option.none):H l=Option.none:=by
 cases q:H l with
 | none=>rfl
 | some o =>
  rw[e l o q]at h
  cases h
theorem Same.seq {K:PySem.W.Frag}{H H':Hp}{a:Addr}{xs:List V}(e:Same H H')(h:SqL K H a xs):SqL K H' a xs:=by
 rcases h with (h | ⟨o,h⟩) | h
 ·exact .inl (.inl (e _ _ h))
 ·exact .inl (.inr ⟨o,e _ _ h⟩)
 ·exact .inr h
end L2
end
noncomputable section
namespace FF
abbrev St:=L2.St
end FF
namespace FF
open PySem
open AutoSeq1 (wpAny_loadPart')
theorem jE:fillsNumberSlot (.type "tuple") "mul"=pure false :=
 fillsNumberSlot_seq (id := "tuple.__mul__") (r:=some (.builtin "tuple.__rmul__")) F.slot_tuple_mul.lookup (by decide +kernel) F.slot_tuple_rmul.lookup (by decide +kernel)
theorem og:seqRepeat? (.type "tuple")=pure (some (.builtin "tuple.__mul__")):=by
 unfold seqRepeat?
 rw[seqSlot_of (T := "tuple") (name := "__mul__") (id := "tuple.__mul__") F.slot_tuple_mul.lookup (by decide +kernel),seqSlot_of (T := "tuple") (name := "__rmul__") (id := "tuple.__rmul__") F.slot_tuple_rmul.lookup (by decide +kernel)]
 rfl
theorem kX (a:Int)(t:Tok)(l:Addr)(items:Array Value)(n:Nat)(dd:Option Addr)(sl:Array (Option Value)) :
  Meets (Builtin.«int.__rmul__» ⟨[.int a t,.ref l],[]⟩) (fun _ R s=>s.heap.get? l=some { cls:=.type "tuple",dict:=dd,data:=.seq items n,slots:=sl }∧R (.ok (.ret Value.notImplemented)) s) :=
 .of_wp fun prog w A R s h=>by obtain⟨hp,g,d,tk,os⟩:=s;obtain⟨hl,h⟩:=h;wp_walk;exact⟨_,rfl,h⟩
theorem ms (l:Addr)(items:Array Value)(n:Nat)(k:Int)(t:Tok)(dd:Option Addr)(sl:Array (Option Value))(h0:2≤k)(h1:k < 1000000)(hsz:items.size*k.toNat≤sizeLine)(hne:items.isEmpty=false) :
  Meets (Builtin.«tuple.__mul__» ⟨[.ref l,.int k t],[]⟩) (fun _ R s=>s.heap.get? l=some { cls:=.type "tuple",dict:=dd,data:=.seq items n,slots:=sl } ∧
   R (.ok (.ret (.ref s.heap.objs.size))) { s with heap:=s.heap.push { cls:=.type "tuple",data:=.seq (List.foldl (fun x1 x2=>x1++x2) #[] (List.replicate k.toNat items)) } }) :=
 .of_wp fun prog w A R s h=>by
  obtain⟨hp,g,d,tk,os⟩:=s;obtain⟨hl,h⟩:=h
  have f1:=AutoSeq1.idx_int
  have f2:=AutoSeq1.sub_tuple_tuple
  have c0:¬ (decide (k < -2^63)||decide (k≥2^63))=true:=by
   simp only[Bool.or_eq_true,decide_eq_true_eq];omega
  have c1:¬ (items.isEmpty||k==1)=true:=by
   rw[hne,Bool.false_or,beq_iff_eq];omega
  have c2:¬ (decide (k≤0)||items.isEmpty)=true:=by
   rw[hne,Bool.or_false,decide_eq_true_eq];omega
  have hs:sizeLine=16777216:=sizeLine_eq
  have hk:(items.size:Int)*k=((items.size*k.toNat:Nat):Int):=by
   rw[Int.natCast_mul,Int.toNat_of_nonneg (by omega)]
  have c3:¬ ((items.size:Int)*k > (2^63 - 1)/8):=by
   rw[hk];omega
  have c4:¬ Builtin.Tuple.tupleTooMany ((items.size:Int)*k)=true:=by
   rw[hk]
   unfold Builtin.Tuple.tupleTooMany
   simp only[decide_eq_true_eq]
   omega
  have hlen:(List.foldl (fun x1 x2=>x1++x2) #[] (List.replicate k.toNat items)).size≤sizeLine:=by
   have:∀ (m:Nat) (acc:Array Value),(List.foldl (fun x1 x2=>x1++x2) acc (List.replicate m items)).size=acc.size+m*items.size:=by
    intro m
    induction m with
    | zero=>intro acc;simp
    | succ m ih=>intro acc;rw[List.replicate_succ,List.foldl_cons,ih,Array.size_append,Nat.succ_mul];omega
   rw[this,Nat.mul_comm];simpa using hsz
  unfold Builtin.«tuple.__mul__»
  wp_walk using wpAny_loadPart' hl
  rw[if_neg c0]
  wp_walk using wpAny_loadPart' hl
  rw[if_neg c1]
  try wp_walk using wpAny_loadPart' hl
  rw[if_neg c2]
  try wp_walk using wpAny_loadPart' hl
  rw[if_neg c3]
  try wp_walk using wpAny_loadPart' hl
  rw[if_neg c4]
  try wp_walk using wpAny_loadPart' hl
  rw[if_neg (Nat.not_lt.mpr hlen)]
  try wp_walk using wpAny_loadPart' hl
  exact⟨_,rfl,h⟩
theorem mt (l:Addr)(items:Array Value)(n:Nat)(t:Tok)(dd:Option Addr)(sl:Array (Option Value)) :
  Meets (Builtin.«tuple.__mul__» ⟨[.ref l,.int 1 t],[]⟩) (fun _ R s=>s.heap.get? l=some { cls:=.type "tuple",dict:=dd,data:=.seq items n,slots:=sl }∧R (.ok (.ret (.ref l))) s) :=
 .of_wp fun prog w A R s h=>by
  obtain⟨hp,g,d,tk,os⟩:=s;obtain⟨hl,h⟩:=h
  have f1:=AutoSeq1.idx_int
  have f2:=AutoSeq1.sub_tuple_tuple
  have c1:(items.isEmpty||(1:Int)==1)=true:=by simp
  unfold Builtin.«tuple.__mul__»
  wp_walk using wpAny_loadPart' hl
  exact⟨_,rfl,h⟩
theorem mw (l:Addr)(n:Nat)(k:Int)(t:Tok)(dd:Option Addr)(sl:Array (Option Value))(h0:0≤k)(h1:k < 1000000) :
  Meets (Builtin.«tuple.__mul__» ⟨[.ref l,.int k t],[]⟩) (fun _ R s=>s.heap.get? l=some { cls:=.type "tuple",dict:=dd,data:=.seq #[] n,slots:=sl }∧R (.ok (.ret (.ref l))) s) :=
 .of_wp fun prog w A R s h=>by
  obtain⟨hp,g,d,tk,os⟩:=s;obtain⟨hl,h⟩:=h
  have f1:=AutoSeq1.idx_int
  have f2:=AutoSeq1.sub_tuple_tuple
  have c0:¬ (decide (k < -2^63)||decide (k≥2^63))=true:=by
   simp only[Bool.or_eq_true,decide_eq_true_eq];omega
  have c1:((#[]:Array Value).isEmpty||k==1)=true:=by simp
  unfold Builtin.«tuple.__mul__»
  wp_walk using wpAny_loadPart' hl
  rw[if_neg c0]
  wp_walk using wpAny_loadPart' hl
  exact⟨_,rfl,h⟩
theorem kY (l:Addr)(items:Array Value)(n:Nat)(t:Tok)(dd:Option Addr)(sl:Array (Option Value))(hne:items.isEmpty=false) :
  Meets (Builtin.«tuple.__mul__» ⟨[.ref l,.int 0 t],[]⟩) (fun _ R s=>s.heap.get? l=some { cls:=.type "tuple",dict:=dd,data:=.seq items n,slots:=sl } ∧
   R (.ok (.ret (.ref s.heap.objs.size))) { s with heap:=s.heap.push { cls:=.type "tuple",data:=.seq #[] } }) :=
 .of_wp fun prog w A R s h=>by
  obtain⟨hp,g,d,tk,os⟩:=s;obtain⟨hl,h⟩:=h
  have f1:=AutoSeq1.idx_int
  have f2:=AutoSeq1.sub_tuple_tuple
  have c1:¬ (items.isEmpty||(0:Int)==1)=true:=by rw[hne];decide
  have c2:(decide ((0:Int)≤0)||items.isEmpty)=true:=by simp
  unfold Builtin.«tuple.__mul__»
  wp_walk using wpAny_loadPart' hl
  exact⟨_,rfl,h⟩
end FF
namespace FF
open PySem
theorem fi (env:Env):∀ (names:List (Str×NameKind)) (acc:List (Str×Addr)),(∀ y∈names,y.2=.free→∃ c,env.cells.lookup y.1=some c)→(∀ n c,acc.lookup n=some c→env.cells.lookup n=some c) →
  ∃ cl,(forIn names acc fun (x:Str×NameKind) (cs:List (Str×Addr))=>(do
    if x.2==.free then let a ← cellOf env x.1;pure (ForInStep.yield ((x.1,a)::cs)) else pure (ForInStep.yield cs):Sem (ForInStep (List (Str×Addr)))))=pure cl ∧
   (∀ n c,cl.lookup n=some c→env.cells.lookup n=some c)∧(∀ n c,acc.lookup n=some c→∃ c',cl.lookup n=some c')∧(∀ y∈names,y.2=.free→∃ c,cl.lookup y.1=some c)
 | [],acc,_,h=>⟨acc,rfl,h,fun n c e=>⟨c,e⟩,fun _ z=>nomatch z⟩
 | (n,k)::r,acc,hf,h=>by
  by_cases hk:k=.free
  ·subst hk
   obtain⟨c,hc⟩:=hf (n,.free) List.mem_cons_self rfl
   have h':∀ m d,List.lookup m ((n,c)::acc)=some d→env.cells.lookup m=some d:=fun m d e=>by
    by_cases q:(m==n)=true
    ·have q':m=n:=eq_of_beq q
     simp only[List.lookup,q]at e
     cases e
     rw[q'];exact hc
    ·have q':(m==n)=false:=by simpa using q
     simp only[List.lookup,q']at e
     exact h m d e
   obtain⟨cl,e1,e2,e3,e4⟩:=fi env r ((n,c)::acc) (fun y hy=>hf y (List.mem_cons_of_mem _ hy)) h'
   have self:List.lookup n ((n,c)::acc)=some c:=by simp[List.lookup]
   refine⟨cl,?_,e2,fun m d e=>?_,fun y hy hy2=>?_⟩
   ·rw[List.forIn_cons]
    have:cellOf env n=pure c:=by unfold cellOf;rw[hc]
    simp only[beq_self_eq_true,if_true,this]
    exact e1
   ·by_cases q:(m==n)=true
    ·have q':m=n:=eq_of_beq q
     rw[q'];exact e3 n c self
    ·have q':(m==n)=false:=by simpa using q
     exact e3 m d (by simp only[List.lookup,q'];exact e)
   ·rcases List.mem_cons.mp hy with z | z
    ·subst z;exact e3 n c self
    ·exact e4 y z hy2
  ·have hb:(k==NameKind.free)=false:=by simpa using hk
   obtain⟨cl,e1,e2,e3,e4⟩:=fi env r acc (fun y hy=>hf y (List.mem_cons_of_mem _ hy)) h
   refine⟨cl,?_,e2,e3,fun y hy hy2=>?_⟩
   ·rw[List.forIn_cons]
    simp only[hb,Bool.false_eq_true,if_false]
    exact e1
   ·rcases List.mem_cons.mp hy with z | z
    ·subst z;exact absurd hy2 hk
    ·exact e4 y z hy2
theorem kZ (scope:Scope)(env:Env)(h:∀ y∈scope.names,y.2=.free→∃ c,env.cells.lookup y.1=some c) :
  ∃ cl,closureFor scope env=pure cl∧(∀ n c,cl.lookup n=some c→env.cells.lookup n=some c)∧(∀ y∈scope.names,y.2=.free→∃ c,cl.lookup y.1=some c):=by
 obtain⟨cl,e1,e2,_,e4⟩:=fi env scope.names [] h (fun n c e=>by simp at e)
 refine⟨cl,?_,e2,e4⟩
 exact(congrArg (fun t:Sem (List (Str×Addr))=>t >>= fun s=>pure s) e1).trans rfl
end FF
namespace FF
open PySem
def tests (ifs:List Expr)(env:Env):Sem Bool:=match ifs with
 | []=>pure true
 | c::_=>isTrue c env (eval c env)
theorem t6 {prog:Program}{w:World}{A:Around}{R:Result→Shared→Prop}{s:Shared}{elt target iter:Expr}{ifs:List Expr}{scope:Scope}{pos:Pos}{it acc:Value}{env:Env}(hifs:ifs.length≤1)(W:Nat→Shared→Prop)
  (turn:∀ n s,W n s→wpAny (model prog w) A (pyNext it) (fun r s1=>match r with
   | none=>R (.ok .next) s1
   | some v=>wpAny (model prog w) A (letOwnedTupleGo target it v) (fun _ s2=>wpAny (model prog w) A (assign target env v) (fun _ s3=>wpAny (model prog w) A (tests ifs env) (fun ok s4 =>
     if ok=true then wpAny (model prog w) A (eval elt env) (fun x s5=>wpAny (model prog w) A (call (.builtin "list.append") [acc,x]) (fun _ s6=>∃ m,m < n∧W m s6) (fun _ _=>False) s5) (fun _ _=>False) s4
     else ∃ m,m < n∧W m s4) (fun _ _=>False) s3) (fun _ _=>False) s2) (fun _ _=>False) s1) (fun _ _=>False) s)
  (n:Nat) (h:W n s):codeAny (model prog w) A (.compLoop (.ListComp elt [⟨target,iter,ifs,0⟩] scope pos) 0 it acc env) R s:=by
 have weak:∀ {α:Type} {t:Sem α} {Q Q':α→Shared→Prop} {E:Value→Shared→Prop} {s:Shared},wpAny (model prog w) A t Q (fun _ _=>False) s→(∀ a s,Q a s→Q' a s)→wpAny (model prog w) A t Q' E s :=
  fun h k=>wpAny_mono h k fun _ _ z=>z.elim
 refine codeAny_loop rfl W (fun n s hW=>?_) n h
 show wpAny _ A ((compTurn (.ListComp elt [⟨target,iter,ifs,0⟩] scope pos) 0 it acc env).onRaise (fun x=>do noteFrame x env;theTreesLotGoes x)) _ _ s
 refine wpAny_noted ?_
 rw[compTurn_list]
 refine wpAny_bind (wpAny_standAt (wpAny_bind (weak (turn n s hW) fun r s1 h1=>?_)))
 cases r with
 | none=>exact wpAny_pure h1
 | some v =>
  refine wpAny_bind (weak h1 fun _ s2 h2=>wpAny_bind (weak h2 fun _ s3 h3=>wpAny_bind ?_))
  have fin:∀ ok s4,(if ok=true then wpAny (model prog w) A (eval elt env) (fun x s5=>wpAny (model prog w) A (call (.builtin "list.append") [acc,x]) (fun _ s6=>∃ m,m < n∧W m s6) (fun _ _=>False) s5) (fun _ _=>False) s4
     else ∃ m,m < n∧W m s4)→wpAny (model prog w) A (if ok=true then ((do let _ ← call (.builtin "list.append") [acc,← eval elt env];pure ()) >>= fun _=>again (.compLoop (.ListComp elt [⟨target,iter,ifs,0⟩] scope pos) 0 it acc env)) else again (.compLoop (.ListComp elt [⟨target,iter,ifs,0⟩] scope pos) 0 it acc env))
      (fun fin s'=>match fin with | .done f=>R (.ok f) s' | .again c'=>c'=(.compLoop (.ListComp elt [⟨target,iter,ifs,0⟩] scope pos) 0 it acc env)∧∃ m,m < n∧W m s') (notedBy (model prog w) A env fun e s'=>R (.error e) s') s4:=by
   intro ok s4 h4
   cases ok with
   | true=>exact wpAny_bind (wpAny_bind (weak h4 fun x s5 h5=>wpAny_bind (weak h5 fun _ s6 h6=>wpAny_pure (wpAny_pure ⟨rfl,h6⟩))))
   | false=>exact wpAny_pure ⟨rfl,h4⟩
  match ifs,hifs,h3,fin with
  | [],_,h3,fin =>
   refine wpAny_tests_nil ?_
   exact wpAny_bind (m:=(pure true:Sem Bool)) (weak h3 fin)
  | [c],_,h3,fin =>
   refine wpAny_tests_one ?_
   exact weak h3 fin
end FF
namespace FF
open PySem PyProof.Rows
open AutoSeq1 (wpAny_loadPart')
theorem t7 (l b:Addr)(items items2:Array Value)(n n2:Nat)(dd dd2:Option Addr)(sl sl2:Array (Option Value))(hsz:items.size+items2.size≤sizeLine) :
  Meets (Builtin.«list.__add__» ⟨[.ref l,.ref b],[]⟩) (fun _ R s=>s.heap.get? l=some { cls:=.type "list",dict:=dd,data:=.seq items n,slots:=sl }∧s.heap.get? b=some { cls:=.type "list",dict:=dd2,data:=.seq items2 n2,slots:=sl2 } ∧
   R (.ok (.ret (.ref s.heap.objs.size))) { s with heap:=s.heap.push { cls:=.type "list",data:=.seq (items++items2) } }) :=
 .of_wp fun prog w A R s h=>by
  obtain⟨hp,g,d,tk,os⟩:=s;obtain⟨hl,hb,h⟩:=h
  have f1:=AutoSeq1.idx_int;have f2:=AutoSeq1.sub_tuple_tuple;have f3:=AutoSeq1.sub_list_list;have f4:=AutoSeq1.sub_tuple_list;have f5:=AutoSeq1.sub_list_tuple
  have hl0:¬ Builtin.List.listTooLong (items.size+items2.size)=true:=by rw[L2.notLongL hsz];exact Bool.false_ne_true
  have hz:(items++items2).size≤sizeLine:=by rw[Array.size_append];exact hsz
  wp_walk using wpAny_loadPart' hl,wpAny_loadPart' hb
  all_goals first | exact⟨_,rfl,h⟩ | trace_state
theorem t8 (l:Addr)(items:Array Value)(n:Nat)(k:Int)(t:Tok)(dd:Option Addr)(sl:Array (Option Value))(h0 : -(2^63)≤k)(h1:k < 2^63)(hsz:items.size*k.toNat≤sizeLine) :
  Meets (Builtin.«list.__mul__» ⟨[.ref l,.int k t],[]⟩) (fun _ R s=>s.heap.get? l=some { cls:=.type "list",dict:=dd,data:=.seq items n,slots:=sl } ∧
   R (.ok (.ret (.ref s.heap.objs.size))) { s with heap:=s.heap.push { cls:=.type "list",data:=.seq (List.foldl (fun x1 x2=>x1++x2) #[] (List.replicate (if items.isEmpty=true then 0 else k.toNat) items)) } }) :=
 .of_wp fun prog w A R s h=>by
  obtain⟨hp,g,d,tk,os⟩:=s;obtain⟨hl,h⟩:=h
  have f1:=AutoSeq1.idx_int;have f2:=AutoSeq1.sub_tuple_tuple;have f3:=AutoSeq1.sub_list_list
  have hs:=sizeLine_eq
  have c1:¬ items.size*k.toNat > (2^63 - 1)/8:=by omega
  have c2:¬ (!Builtin.List.listFitsIndex k)=true:=by rw[fitsIndex_both h0 h1];exact Bool.false_ne_true
  have c3:¬ Builtin.List.listTooLong (items.size*k.toNat)=true:=by rw[L2.notLongL hsz];exact Bool.false_ne_true
  have hz:=AutoListH.joined_fits c3
  wp_walk using wpAny_loadPart' hl
  rw[if_neg (Nat.not_lt.mpr hz)]
  wp_walk
  exact⟨_,rfl,h⟩
theorem mx (a:Int)(t:Tok)(l:Addr)(items:Array Value)(n:Nat)(dd:Option Addr)(sl:Array (Option Value)) :
  Meets (Builtin.«int.__rmul__» ⟨[.int a t,.ref l],[]⟩) (fun _ R s=>s.heap.get? l=some { cls:=.type "list",dict:=dd,data:=.seq items n,slots:=sl }∧R (.ok (.ret Value.notImplemented)) s) :=
 .of_wp fun prog w A R s h=>by obtain⟨hp,g,d,tk,os⟩:=s;obtain⟨hl,h⟩:=h;wp_walk;exact⟨_,rfl,h⟩
theorem t9 (l b:Addr)(items items2:Array Value)(n n2:Nat)(dd2:Option Addr)(sl2:Array (Option Value))(hsz:items.size+items2.size≤sizeLine) :
  Meets (Builtin.«list.extend» ⟨[.ref l,.ref b],[]⟩) (fun _ R s=>s.heap.get? l=some { cls:=.type "list",data:=.seq items n }∧s.heap.get? b=some { cls:=.type "list",dict:=dd2,data:=.seq items2 n2,slots:=sl2 } ∧
   R (.ok (.ret .none)) { s with heap:=s.heap.update l (Obj.mapSeq fun x=>x++items2) }) :=
 .of_wp fun prog w A R s h=>by
  obtain⟨hp,g,d,tk,os⟩:=s;obtain⟨hl,hb,h⟩:=h
  have f1:=AutoSeq1.idx_int;have f2:=AutoSeq1.sub_tuple_tuple;have f3:=AutoSeq1.sub_list_list;have f4:=AutoSeq1.sub_tuple_list;have f5:=AutoSeq1.sub_list_tuple
  have hc0:¬(!items.isEmpty&&Builtin.List.listTooLong (items.size+items2.size))=true:=by rw[L2.notLongL hsz,Bool.and_false];exact Bool.false_ne_true
  have hc1:items.size≤sizeLine:=by omega
  have hs2:items.size+items2.size≤sizeLine+1:=by omega
  have hz':(items++items2).size≤sizeLine+1:=by rw[Array.size_append];omega
  wp_walk using (wpAny_updateSeq hl rfl (hz:=hc1) (_hz':=hz')),wpAny_loadPart' hl,wpAny_loadPart' hb
  exact⟨_,rfl,h⟩
theorem ub (l b:Addr)(items items2:Array Value)(n n2:Nat)(dd2:Option Addr)(sl2:Array (Option Value))(hsz:items.size+items2.size≤sizeLine) :
  Meets (Builtin.«list.extend» ⟨[.ref l,.ref b],[]⟩) (fun _ R s=>s.heap.get? l=some { cls:=.type "list",data:=.seq items n }∧s.heap.get? b=some { cls:=.type "tuple",dict:=dd2,data:=.seq items2 n2,slots:=sl2 } ∧
   R (.ok (.ret .none)) { s with heap:=s.heap.update l (Obj.mapSeq fun x=>x++items2) }) :=
 .of_wp fun prog w A R s h=>by
  obtain⟨hp,g,d,tk,os⟩:=s;obtain⟨hl,hb,h⟩:=h
  have f1:=AutoSeq1.idx_int;have f2:=AutoSeq1.sub_tuple_tuple;have f3:=AutoSeq1.sub_list_list;have f4:=AutoSeq1.sub_tuple_list;have f5:=AutoSeq1.sub_list_tuple
  have hc0:¬(!items.isEmpty&&Builtin.List.listTooLong (items.size+items2.size))=true:=by rw[L2.notLongL hsz,Bool.and_false];exact Bool.false_ne_true
  have hc1:items.size≤sizeLine:=by omega
  have hs2:items.size+items2.size≤sizeLine+1:=by omega
  have hz':(items++items2).size≤sizeLine+1:=by rw[Array.size_append];omega
  wp_walk using (wpAny_updateSeq hl rfl (hz:=hc1) (_hz':=hz')),wpAny_loadPart' hl,wpAny_loadPart' hb
  exact⟨_,rfl,h⟩
end FF
end
noncomputable section
namespace FF
open PySem PySem.Spec PyProof.Rows L2
inductive D where
 | non | bl (b:Bool) | int (i:Int) | str (x:Str) | tup (xs:List D) | lst (xs:List D) | exc (k:Nat) | fn (k:Nat)
inductive R (α:Type) where
 | ok (a:α) | err (k:Nat) | stuck
def R.bind {α β:Type}(r:R α)(f:α→R β):R β:=match r with
 | .ok a=>f a
 | .err k=>.err k
 | .stuck=>.stuck
@[simp] theorem R.bind_ok {α β:Type}(a:α)(f:α→R β):(R.ok a).bind f=f a:=rfl
@[simp] theorem R.bind_err {α β:Type}(k:Nat)(f:α→R β):(R.err k:R α).bind f=.err k:=rfl
@[simp] theorem R.bind_stuck {α β:Type}(f:α→R β):(R.stuck:R α).bind f=.stuck:=rfl
def excO (C:Nat→Addr)(k:Nat)(a:Addr):HO :=
 .ext fun h=>∃ o,h.get? a=some o∧o.cls=.ref (C k)∧∃ vs,o.data=.fields vs
mutual
def Rep (K:PySem.W.Frag)(C:Nat→Addr)(Z:Hp):D→V→Prop
 | .non,v=>v=.non
 | .bl b,v=>v=.bl b
 | .int i,v=>v=.int i
 | .str x,v=>v=.str x
 | .tup ds,v=>∃ a vs,v=.ref a∧SqT K Z a vs∧Reps K C Z ds vs
 | .lst ds,v=>∃ a vs,v=.ref a∧SqL K Z a vs∧Reps K C Z ds vs
 | .exc k,v=>∃ a,v=.ref a∧Z a=some (excO C k a)
 | .fn k,v=>v=.ref (C k)
def Reps (K:PySem.W.Frag)(C:Nat→Addr)(Z:Hp):List D→List V→Prop
 | [],vs=>vs=[]
 | d::ds,vs=>∃ v r,vs=v::r∧Rep K C Z d v∧Reps K C Z ds r
end
theorem _root_.L2.SqT.mono {K:PySem.W.Frag}{Z Z':Hp}{a:Addr}{xs:List V}(e:Same Z Z')(h:SqT K Z a xs):SqT K Z' a xs:=by
 rcases h with (h | ⟨o,h⟩) | h
 ·exact .inl (.inl (e _ _ h))
 ·exact .inl (.inr ⟨o,e _ _ h⟩)
 ·exact .inr h
section
variable {K:PySem.W.Frag}{C:Nat→Addr}{Z Z':Hp}
mutual
theorem Rep.mono (e:Same Z Z'):∀ (d:D) (v:V),Rep K C Z d v→Rep K C Z' d v
 | .non,v,h=>by rw[Rep]at h ⊢;exact h
 | .bl b,v,h=>by rw[Rep]at h ⊢;exact h
 | .int i,v,h=>by rw[Rep]at h ⊢;exact h
 | .str x,v,h=>by rw[Rep]at h ⊢;exact h
 | .fn k,v,h=>by rw[Rep]at h ⊢;exact h
 | .tup ds,v,h=>by
  rw[Rep]at h ⊢
  obtain⟨a,vs,h1,h2,h3⟩:=h
  exact⟨a,vs,h1,h2.mono e,Reps.mono e ds vs h3⟩
 | .lst ds,v,h=>by
  rw[Rep]at h ⊢
  obtain⟨a,vs,h1,h2,h3⟩:=h
  exact⟨a,vs,h1,e.seq h2,Reps.mono e ds vs h3⟩
 | .exc k,v,h=>by
  rw[Rep]at h ⊢
  obtain⟨a,h1,h2⟩:=h
  exact⟨a,h1,e _ _ h2⟩
theorem Reps.mono (e:Same Z Z'):∀ (ds:List D) (vs:List V),Reps K C Z ds vs→Reps K C Z' ds vs
 | [],vs,h=>by rw[Reps]at h ⊢;exact h
 | d::ds,vs,h=>by
  rw[Reps]at h ⊢
  obtain⟨v,r,h1,h2,h3⟩:=h
  exact⟨v,r,h1,Rep.mono e d v h2,Reps.mono e ds r h3⟩
end
theorem Reps.nil:Reps K C Z [] []:=by rw[Reps]
theorem Reps.cons {d:D}{v:V}{ds:List D}{vs:List V}(h:Rep K C Z d v)(t:Reps K C Z ds vs):Reps K C Z (d::ds) (v::vs):=by
 rw[Reps];exact⟨v,vs,rfl,h,t⟩
theorem Reps.uncons {d:D}{v:V}{ds:List D}{vs:List V}(h:Reps K C Z (d::ds) (v::vs)):Rep K C Z d v∧Reps K C Z ds vs:=by
 rw[Reps]at h
 obtain⟨v',r,e,h1,h2⟩:=h
 cases e
 exact⟨h1,h2⟩
theorem Reps.length:∀ {ds:List D} {vs:List V},Reps K C Z ds vs→ds.length=vs.length
 | [],vs,h=>by rw[Reps]at h;subst h;rfl
 | d::ds,vs,h=>by
  rw[Reps]at h
  obtain⟨v,r,e,_,h2⟩:=h
  subst e
  simp[Reps.length h2]
theorem Reps.get:∀ {ds:List D} {vs:List V} {i:Nat} {d:D},Reps K C Z ds vs→ds[i]?=some d→∃ v,vs[i]?=some v∧Rep K C Z d v
 | [],vs,i,d,h,e=>by simp at e
 | d'::ds,vs,i,d,h,e=>by
  rw[Reps]at h
  obtain⟨v,r,q,h1,h2⟩:=h
  subst q
  cases i with
  | zero=>simp at e;subst e;exact⟨v,rfl,h1⟩
  | succ i =>
   obtain⟨v',e1,h3⟩:=Reps.get (i:=i) h2 (by simpa using e)
   exact⟨v',by simpa using e1,h3⟩
theorem Reps.get':∀ {ds:List D} {vs:List V} {i:Nat} {v:V},Reps K C Z ds vs→vs[i]?=some v→∃ d,ds[i]?=some d∧Rep K C Z d v
 | [],vs,i,v,h,e=>by rw[Reps]at h;subst h;simp at e
 | d'::ds,vs,i,v,h,e=>by
  rw[Reps]at h
  obtain⟨v0,r,q,h1,h2⟩:=h
  subst q
  cases i with
  | zero=>simp at e;subst e;exact⟨d',rfl,h1⟩
  | succ i =>
   obtain⟨d,e1,h3⟩:=Reps.get' (i:=i) h2 (by simpa using e)
   exact⟨d,by simpa using e1,h3⟩
theorem Reps.append:∀ {ds es:List D} {vs us:List V},Reps K C Z ds vs→Reps K C Z es us→Reps K C Z (ds++es) (vs++us)
 | [],es,vs,us,h,h'=>by rw[Reps]at h;subst h;exact h'
 | d::ds,es,vs,us,h,h'=>by
  rw[Reps]at h
  obtain⟨v,r,q,h1,h2⟩:=h
  subst q
  exact Reps.cons h1 (Reps.append h2 h')
theorem Reps.take:∀ {ds:List D} {vs:List V} (n:Nat),Reps K C Z ds vs→Reps K C Z (ds.take n) (vs.take n)
 | [],vs,n,h=>by rw[Reps]at h;subst h;simpa using Reps.nil
 | d::ds,vs,n,h=>by
  rw[Reps]at h
  obtain⟨v,r,q,h1,h2⟩:=h
  subst q
  cases n with
  | zero=>exact Reps.nil
  | succ n=>exact Reps.cons h1 (Reps.take n h2)
theorem Reps.drop:∀ {ds:List D} {vs:List V} (n:Nat),Reps K C Z ds vs→Reps K C Z (ds.drop n) (vs.drop n)
 | [],vs,n,h=>by rw[Reps]at h;subst h;simpa using Reps.nil
 | d::ds,vs,n,h=>by
  rw[Reps]at h
  obtain⟨v,r,q,h1,h2⟩:=h
  subst q
  cases n with
  | zero=>exact Reps.cons h1 h2
  | succ n=>exact Reps.drop n h2
end
structure Ex (H Z H' Z':Hp):Prop where
 same:Same H H'
 z:Same Z Z'
 sub:Same Z' H'
 new:∀ b,Z' b≠none→Z b≠none∨H b=none
theorem Ex.refl {H Z:Hp}(s:Same Z H):Ex H Z H Z:=⟨Same.refl _,Same.refl _,s,fun _ h=>.inl h⟩
theorem Ex.trans {H Z H1 Z1 H2 Z2:Hp}(a:Ex H Z H1 Z1)(b:Ex H1 Z1 H2 Z2):Ex H Z H2 Z2 :=
 ⟨a.same.trans b.same,a.z.trans b.z,b.sub,fun c h=>(b.new c h).elim (fun h1=>a.new c h1) fun h1=>.inr (a.same.free h1)⟩
theorem aF {H:Hp}{p:Addr}{o:HO}(h:H p=none):Same H (upd H p o):=fun b u e=>by
 rw[av (b9 e h)];exact e
theorem Ex.alloc {H Z:Hp}{p:Addr}{o:HO}(s:Same Z H)(h:H p=none):Ex H Z (upd H p o) (upd Z p o):=by
 have hz:Z p=none:=s.free h
 refine⟨aF h,aF hz,fun b u e=>?_,fun b hb=>?_⟩
 ·by_cases q:b=p
  ·subst q;rw[au]at e ⊢;exact e
  ·rw[av q]at e ⊢;exact s b u e
 ·by_cases q:b=p
  ·subst q;exact .inr h
  ·rw[av q]at hb;exact .inl hb
theorem Ex.hidden {H Z:Hp}{p:Addr}{o:HO}(s:Same Z H)(h:H p=none):Ex H Z (upd H p o) Z :=
 ⟨aF h,Same.refl _,s.trans (aF h),fun _ hb=>.inl hb⟩
inductive Sl where
 | val (d:D) | own (ds:List D)
abbrev SS:=List (Option Sl)
structure Fx where
 K:PySem.W.Frag
 C:Nat→Addr
 H0:Hp
 Z0:Hp
 E:XK
structure StOk (F:Fx)(H Z:Hp)(S:SS)(σ:St):Prop where
 ex:Ex F.H0 F.Z0 H Z
 len:S.length=σ.length
 val:∀ (i:Nat) (d:D),S[i]?=some (some (.val d))→∃ v,σ[i]?=some (some v)∧Rep F.K F.C Z d v
 own:∀ (i:Nat) (ds:List D),S[i]?=some (some (.own ds))→∃ a vs,σ[i]?=some (some (.ref a))∧H a=some (.lst vs)∧Z a=none∧F.H0 a=none∧Reps F.K F.C Z ds vs
 dis:∀ (i j:Nat) (ds es:List D) (a:Addr),S[i]?=some (some (.own ds))→S[j]?=some (some (.own es))→σ[i]?=some (some (.ref a))→σ[j]?=some (some (.ref a))→i=j
section
variable {F:Fx}{H Z H' Z':Hp}{S:SS}{σ:St}
theorem StOk.more (h:StOk F H Z S σ)(x:Ex H Z H' Z'):StOk F H' Z' S σ:=by
 refine⟨h.ex.trans x,h.len,fun i d e=>?_,fun i ds e=>?_,h.dis⟩
 ·obtain⟨v,e1,r⟩:=h.val i d e
  exact⟨v,e1,r.mono x.z⟩
 ·obtain⟨a,vs,e1,e2,e3,e4,r⟩:=h.own i ds e
  refine⟨a,vs,e1,x.same _ _ e2,?_,e4,r.mono x.z⟩
  cases q:Z' a with
  | none=>rfl
  | some o =>
   rcases x.new a (by rw[q];simp) with z | z
   ·exact absurd e3 z
   ·rw[e2]at z;cases z
theorem StOk.sub (h:StOk F H Z S σ):Same Z H:=h.ex.sub
theorem StOk.setVal (h:StOk F H Z S σ){i:Nat}{d:D}{v:V}(r:Rep F.K F.C Z d v):StOk F H Z (S.set i (some (.val d))) (σ.set i (some v)):=by
 refine⟨h.ex,by simp[h.len],fun j d' e=>?_,fun j ds e=>?_,fun j k ds es a e1 e2 e3 e4=>?_⟩
 ·by_cases q:i=j
  ·subst q
   by_cases hl:i < S.length
   ·rw[List.getElem?_set_self hl]at e
    cases e
    exact⟨v,by rw[List.getElem?_set_self (by rw[← h.len];exact hl)],r⟩
   ·rw[List.getElem?_eq_none (by simpa using hl)]at e;cases e
  ·rw[List.getElem?_set_ne q]at e ⊢
   exact h.val j d' e
 ·by_cases q:i=j
  ·subst q
   by_cases hl:i < S.length
   ·rw[List.getElem?_set_self hl]at e;cases e
   ·rw[List.getElem?_eq_none (by simpa using hl)]at e;cases e
  ·rw[List.getElem?_set_ne q]at e ⊢
   exact h.own j ds e
 ·have nj:i≠j:=fun q=>by
   subst q
   by_cases hl:i < S.length
   ·rw[List.getElem?_set_self hl]at e1;cases e1
   ·rw[List.getElem?_eq_none (by simpa using hl)]at e1;cases e1
  have nk:i≠k:=fun q=>by
   subst q
   by_cases hl:i < S.length
   ·rw[List.getElem?_set_self hl]at e2;cases e2
   ·rw[List.getElem?_eq_none (by simpa using hl)]at e2;cases e2
  rw[List.getElem?_set_ne nj]at e1 e3
  rw[List.getElem?_set_ne nk]at e2 e4
  exact h.dis j k ds es a e1 e2 e3 e4
theorem StOk.setOwn (h:StOk F H Z S σ){i:Nat}{ds:List D}{a:Addr}{vs:List V}(hn:∀ j,j≠i→σ[j]?≠some (some (.ref a))∨∀ es,S[j]?≠some (some (.own es)))(h1:H a=some (.lst vs))(h2:Z a=none)(h3:F.H0 a=none)(r:Reps F.K F.C Z ds vs) :
  StOk F H Z (S.set i (some (.own ds))) (σ.set i (some (.ref a))):=by
 have self:∀ {x:Option Sl},(S.set i (some (.own ds)))[i]?=some x→x=some (.own ds)∧i < S.length:=fun {x} e=>by
  by_cases hl:i < S.length
  ·rw[List.getElem?_set_self hl]at e;cases e;exact⟨rfl,hl⟩
  ·rw[List.getElem?_eq_none (by simpa using hl)]at e;cases e
 refine⟨h.ex,by simp[h.len],fun j d' e=>?_,fun j es e=>?_,fun j k es fs b e1 e2 e3 e4=>?_⟩
 ·by_cases q:i=j
  ·subst q;have:=(self e).1;cases this
  ·rw[List.getElem?_set_ne q]at e ⊢
   exact h.val j d' e
 ·by_cases q:i=j
  ·subst q
   obtain⟨z,hl⟩:=self e
   cases z
   exact⟨a,vs,by rw[List.getElem?_set_self (by rw[← h.len];exact hl)],h1,h2,h3,r⟩
  ·rw[List.getElem?_set_ne q]at e ⊢
   exact h.own j es e
 ·by_cases q:i=j
  ·by_cases q2:i=k
   ·rw[← q,← q2]
   ·subst q
    obtain⟨z,hl⟩:=self e1
    rw[List.getElem?_set_self (by rw[← h.len];exact hl)]at e3
    cases e3
    rw[List.getElem?_set_ne q2]at e2 e4
    rcases hn k (Ne.symm q2) with z | z
    ·exact absurd e4 z
    ·exact absurd e2 (z fs)
  ·by_cases q2:i=k
   ·subst q2
    obtain⟨z,hl⟩:=self e2
    rw[List.getElem?_set_self (by rw[← h.len];exact hl)]at e4
    cases e4
    rw[List.getElem?_set_ne q]at e1 e3
    rcases hn j (Ne.symm q) with z | z
    ·exact absurd e3 z
    ·exact absurd e1 (z es)
   ·rw[List.getElem?_set_ne q]at e1 e3
    rw[List.getElem?_set_ne q2]at e2 e4
    exact h.dis j k es fs b e1 e2 e3 e4
theorem StOk.write (h:StOk F H Z S σ){i:Nat}{ds es:List D}{a:Addr}{us:List V}(e:S[i]?=some (some (.own ds)))(ha:σ[i]?=some (some (.ref a)))(r:Reps F.K F.C Z es us) :
  StOk F (upd H a (.lst us)) Z (S.set i (some (.own es))) σ:=by
 obtain⟨a',vs,e1,e2,e3,e4,r0⟩:=h.own i ds e
 rw[ha]at e1;cases e1
 have hl:i < S.length:=(List.getElem?_eq_some_iff.mp e).1
 have nz:∀ b o,Z b=some o→b≠a:=fun b o q z=>by subst z;rw[e3]at q;cases q
 have n0:∀ b o,F.H0 b=some o→b≠a:=fun b o q z=>by subst z;rw[e4]at q;cases q
 refine⟨⟨fun b o q=>?_,h.ex.z,fun b o q=>?_,h.ex.new⟩,by simp[h.len],fun j d' q=>?_,fun j fs q=>?_,fun j k fs gs b q1 q2 q3 q4=>?_⟩
 ·rw[av (n0 b o q)];exact h.ex.same b o q
 ·rw[av (nz b o q)];exact h.ex.sub b o q
 ·by_cases z:i=j
  ·subst z;rw[List.getElem?_set_self hl]at q;cases q
  ·rw[List.getElem?_set_ne z]at q;exact h.val j d' q
 ·by_cases z:i=j
  ·subst z
   rw[List.getElem?_set_self hl]at q;cases q
   exact⟨a,us,ha,au,e3,e4,r⟩
  ·rw[List.getElem?_set_ne z]at q
   obtain⟨b,ws,f1,f2,f3,f4,f5⟩:=h.own j fs q
   have:b≠a:=fun y=>z (h.dis i j ds fs a e q ha (by rw[f1,y]))
   exact⟨b,ws,f1,by rw[av this];exact f2,f3,f4,f5⟩
 ·have back:∀ {j:Nat} {fs:List D},(S.set i (some (.own es)))[j]?=some (some (.own fs))→∃ gs,S[j]?=some (some (.own gs)):=fun {j fs} q=>by
   by_cases z:i=j
   ·subst z;exact⟨ds,e⟩
   ·rw[List.getElem?_set_ne z]at q;exact⟨fs,q⟩
  obtain⟨f1,q1'⟩:=back q1
  obtain⟨f2,q2'⟩:=back q2
  exact h.dis j k f1 f2 b q1' q2' q3 q4
theorem StOk.freeze (h:StOk F H Z S σ){i:Nat}{ds:List D}(e:S[i]?=some (some (.own ds))):∃ Z',Same Z Z'∧StOk F H Z' (S.set i (some (.val (.lst ds)))) σ:=by
 obtain⟨a,vs,e1,e2,e3,e4,r⟩:=h.own i ds e
 have hl:i < S.length:=(List.getElem?_eq_some_iff.mp e).1
 have hz:Same Z (upd Z a (.lst vs)):=aF e3
 have hsub:Same (upd Z a (.lst vs)) H:=fun b o q=>by
  by_cases y:b=a
  ·subst y;rw[au]at q;cases q;exact e2
  ·rw[av y]at q;exact h.ex.sub b o q
 refine⟨upd Z a (.lst vs),hz,⟨⟨h.ex.same,h.ex.z.trans hz,hsub,fun b q=>?_⟩,by simp[h.len],fun j d q=>?_,fun j fs q=>?_,fun j k fs gs b q1 q2 q3 q4=>?_⟩⟩
 ·by_cases y:b=a
  ·subst y;exact .inr e4
  ·rw[av y]at q;exact h.ex.new b q
 ·by_cases z:i=j
  ·subst z
   rw[List.getElem?_set_self hl]at q;cases q
   exact⟨.ref a,e1,by rw[Rep];exact⟨a,vs,rfl,SqL.of au,r.mono hz⟩⟩
  ·rw[List.getElem?_set_ne z]at q
   obtain⟨v,f1,f2⟩:=h.val j d q
   exact⟨v,f1,f2.mono hz⟩
 ·by_cases z:i=j
  ·subst z;rw[List.getElem?_set_self hl]at q;cases q
  ·rw[List.getElem?_set_ne z]at q
   obtain⟨b,ws,f1,f2,f3,f4,f5⟩:=h.own j fs q
   have:b≠a:=fun y=>z (h.dis i j ds fs a e q e1 (by rw[f1,y]))
   exact⟨b,ws,f1,f2,by rw[av this];exact f3,f4,f5.mono hz⟩
 ·have back:∀ {j:Nat} {fs:List D},(S.set i (some (.val (.lst ds))))[j]?=some (some (.own fs))→S[j]?=some (some (.own fs)):=fun {j fs} q=>by
   by_cases z:i=j
   ·subst z;rw[List.getElem?_set_self hl]at q;cases q
   ·rw[List.getElem?_set_ne z]at q;exact q
  exact h.dis j k fs gs b (back q1) (back q2) q3 q4
end
end FF
end
noncomputable section
namespace FF
open PySem PySem.Spec PyProof.Rows L2
def WG {α:Type}(F:Fx)(H Z:Hp)(r:R α)(P:α→Hp→Hp→Prop):Prop:=match r with
 | .ok a=>∀ H' Z',Ex H Z H' Z'→P a H' Z'
 | .err k=>∀ H',Same H H'→F.E (.ref (F.C k)) none H'
 | .stuck=>False
section
variable {α:Type}{F:Fx}{H Z H1 Z1:Hp}{r:R α}{P P':α→Hp→Hp→Prop}
theorem WG.more (w:WG F H Z r P)(x:Ex H Z H1 Z1):WG F H1 Z1 r P:=by
 cases r with
 | ok a=>exact fun H' Z' y=>w H' Z' (x.trans y)
 | err k=>exact fun H' y=>w H' (x.same.trans y)
 | stuck=>exact w
theorem WG.now {a:α}(w:WG F H Z (.ok a) P)(s:Same Z H):P a H Z:=w H Z (Ex.refl s)
end
def tE (F:Fx)(g:SS→R D):TE:=fun σ H Q=>∃ Z S,StOk F H Z S σ∧WG F H Z (g S) fun d H' Z'=>∀ v,Rep F.K F.C Z' d v→Q v H'
def tT (F:Fx)(g:SS→R Bool):TT:=fun σ H Q=>∃ Z S,StOk F H Z S σ∧WG F H Z (g S) fun b H' _=>Q b H'
def tAl (F:Fx)(g:SS→R (List D)):TA:=fun σ H Q=>∃ Z S,StOk F H Z S σ∧WG F H Z (g S) fun ds H' Z'=>∀ vs,Reps F.K F.C Z' ds vs→Q vs H'
inductive O where
 | nx (S:SS) | rt (d:D) | er (k:Nat) | bk (S:SS) | ct (S:SS) | stuck
def WO (F:Fx)(Z:Hp)(o:O)(D:Ends):Prop:=match o with
 | .nx S=>∀ σ H Z',Same Z Z'→StOk F H Z' S σ→D.nx σ H
 | .rt d=>∀ v H Z',Ex F.H0 F.Z0 H Z'→Rep F.K F.C Z' d v→D.rt v H
 | .er k=>∀ H,Same F.H0 H→F.E (.ref (F.C k)) none H
 | .bk S=>∀ σ H Z',Same Z Z'→StOk F H Z' S σ→D.bk σ H
 | .ct S=>∀ σ H Z',Same Z Z'→StOk F H Z' S σ→D.ct σ H
 | .stuck=>False
theorem WO.more {F:Fx}{Z Z1:Hp}{o:O}{D:Ends}(w:WO F Z o D)(z:Same Z Z1):WO F Z1 o D:=by
 cases o with
 | nx S=>exact fun σ H Z' q=>w σ H Z' (z.trans q)
 | rt d=>exact w
 | er k=>exact w
 | bk S=>exact fun σ H Z' q=>w σ H Z' (z.trans q)
 | ct S=>exact fun σ H Z' q=>w σ H Z' (z.trans q)
 | stuck=>exact w
def tS (F:Fx)(g:SS→O):TS:=fun D σ H=>∃ Z S,StOk F H Z S σ∧WO F Z (g S) D
abbrev FE (X:Cx)(F:Fx)(e:Expr)(g:SS→R D):Prop:=PE X e (tE F g)
abbrev FT (X:Cx)(F:Fx)(e:Expr)(g:SS→R Bool):Prop:=PT X e (tT F g)
abbrev FW (X:Cx)(F:Fx)(e:Expr)(g:SS→R Bool):Prop:=PW X e (tT F g)
abbrev FA (X:Cx)(F:Fx)(es:List Expr)(g:SS→R (List D)):Prop:=PA X es (tAl F g)
abbrev FS (X:Cx)(F:Fx)(st:Stmt)(g:SS→O):Prop:=PS X st (tS F g)
abbrev FSs (X:Cx)(F:Fx)(sts:List Stmt)(g:SS→O):Prop:=PSs X sts (tS F g)
theorem _root_.L2.PE.weak {X:Cx}{e:Expr}{t t':TE}(h:PE X e t)(w:∀ σ H Q,t' σ H Q→t σ H Q):PE X e t':=fun pins s σ H Q I q=>h pins s σ H Q I (w σ H Q q)
theorem _root_.L2.PT.weak {X:Cx}{e:Expr}{t t':TT}(h:PT X e t)(w:∀ σ H Q,t' σ H Q→t σ H Q):PT X e t':=fun pins s σ H Q I q=>h pins s σ H Q I (w σ H Q q)
theorem _root_.L2.PW.weak {X:Cx}{e:Expr}{t t':TT}(h:PW X e t)(w:∀ σ H Q,t' σ H Q→t σ H Q):PW X e t':=fun wh pins s σ H Q I q=>h wh pins s σ H Q I (w σ H Q q)
theorem _root_.L2.PA.weak {X:Cx}{e:List Expr}{t t':TA}(h:PA X e t)(w:∀ σ H Q,t' σ H Q→t σ H Q):PA X e t':=fun p pins s σ H Q I q=>h p pins s σ H Q I (w σ H Q q)
theorem _root_.L2.PS.weak {X:Cx}{e:Stmt}{t t':TS}(h:PS X e t)(w:∀ D σ H,t' D σ H→t D σ H):PS X e t':=fun pins s σ H D I q=>h pins s σ H D I (w D σ H q)
theorem _root_.L2.PSs.weak {X:Cx}{e:List Stmt}{t t':TS}(h:PSs X e t)(w:∀ D σ H,t' D σ H→t D σ H):PSs X e t':=fun pins s σ H D I q=>h pins s σ H D I (w D σ H q)
section
variable {F:Fx}{σ:St}{H Z:Hp}{S:SS}
theorem aR {α:Type}{g:SS→R D}{k:D→R α}{P:α→Hp→Hp→Prop}{Q:VK}(ok:StOk F H Z S σ)(w:WG F H Z ((g S).bind k) P)
  (h:∀ d v H1 Z1,StOk F H1 Z1 S σ→Ex H Z H1 Z1→Rep F.K F.C Z1 d v→WG F H1 Z1 (k d) P→Q v H1):tE F g σ H Q:=by
 refine⟨Z,S,ok,?_⟩
 cases e:g S with
 | ok d =>
  rw[e]at w
  intro H1 Z1 x v r
  exact h d v H1 Z1 (ok.more x) x r (WG.more (r:=k d) w x)
 | err k=>rw[e]at w;exact w
 | stuck=>rw[e]at w;exact w
theorem iU {α:Type}{g:SS→R Bool}{k:Bool→R α}{P:α→Hp→Hp→Prop}{Q:Bool→Hp→Prop}(ok:StOk F H Z S σ)(w:WG F H Z ((g S).bind k) P)
  (h:∀ b H1 Z1,StOk F H1 Z1 S σ→Ex H Z H1 Z1→WG F H1 Z1 (k b) P→Q b H1):tT F g σ H Q:=by
 refine⟨Z,S,ok,?_⟩
 cases e:g S with
 | ok d =>
  rw[e]at w
  intro H1 Z1 x
  exact h d H1 Z1 (ok.more x) x (WG.more (r:=k d) w x)
 | err k=>rw[e]at w;exact w
 | stuck=>rw[e]at w;exact w
theorem bu {α:Type}{g:SS→R (List D)}{k:List D→R α}{P:α→Hp→Hp→Prop}{Q:List V→Hp→Prop}(ok:StOk F H Z S σ)(w:WG F H Z ((g S).bind k) P)
  (h:∀ ds vs H1 Z1,StOk F H1 Z1 S σ→Ex H Z H1 Z1→Reps F.K F.C Z1 ds vs→WG F H1 Z1 (k ds) P→Q vs H1):tAl F g σ H Q:=by
 refine⟨Z,S,ok,?_⟩
 cases e:g S with
 | ok d =>
  rw[e]at w
  intro H1 Z1 x v r
  exact h d v H1 Z1 (ok.more x) x r (WG.more (r:=k d) w x)
 | err k=>rw[e]at w;exact w
 | stuck=>rw[e]at w;exact w
end
def eVar (i:Nat):SS→R D:=fun S=>match S[i]? with
 | some (some (.val d))=>.ok d
 | _=>.stuck
def eC (d:D):SS→R D:=fun _=>.ok d
section
variable {X:Cx}{F:Fx}{e a b:Expr}{g ga gb:SS→R D}{pos:Pos}
theorem fj {v:V}{d:D}(h:PE X e (tC v))(r:∀ Z,Rep F.K F.C Z d v):FE X F e (eC d):=h.weak fun σ H Q ⟨Z,S,ok,w⟩=>WG.now w ok.sub v (r Z)
theorem ae {i j pos}:FE X F (.Constant (.int i) j pos) (eC (.int i)):=fj ze fun _=>by rw[Rep]
theorem cg {b j pos}:FE X F (.Constant (.bool b) j pos) (eC (.bl b)):=fj Av fun _=>by rw[Rep]
theorem bo {j pos}:FE X F (.Constant .none j pos) (eC .non):=fj zf fun _=>by rw[Rep]
theorem bh {x j pos}:FE X F (.Constant (.str x) j pos) (eC (.str x)):=fj zg fun _=>by rw[Rep]
theorem ac (i:Nat){x:Str}{pos:Pos}(hN:X.N[i]?=some x:=by rfl)(hv:Vis X.env.scope x:=by first | exact Or.inl rfl | exact Or.inr (Or.inl rfl) | exact Or.inr (Or.inr rfl))(hd:(x==("__debug__":Str))=false:=by decide)
  (hcd:(x==("__classdict__":Str))=false:=by decide):FE X F (.Name x pos) (eVar i):=(kT hN hv hd hcd).weak fun σ H Q ⟨Z,S,ok,w⟩=>by
 unfold eVar at w
 split at w
 ·rename_i d e
  obtain⟨v,e1,r⟩:=ok.val i d e
  exact⟨v,e1,WG.now w ok.sub v r⟩
 ·exact w.elim
end
def OpD (F:Fx)(r:R2)(f:D→D→R D):Prop:=∀ (H Z:Hp) (x y:V) (dx dy:D) (Q:VK),Same Z H→Rep F.K F.C Z dx x→Rep F.K F.C Z dy y →
 WG F H Z (f dx dy) (fun d H' Z'=>∀ v,Rep F.K F.C Z' d v→Q v H')→r x y H Q
def eOp (f:D→D→R D)(ga gb:SS→R D):SS→R D:=fun S=>(ga S).bind fun x=>(gb S).bind fun y=>f x y
section
variable {X:Cx}{F:Fx}{e a b c:Expr}{ga gb gc:SS→R D}{pos:Pos}{r:R2}{f:D→D→R D}
theorem oh (hd:OpD F r f):∀ σ H Q,tE F (eOp f ga gb) σ H Q→tOp r (tE F ga) (tE F gb) σ H Q:=fun σ H Q ⟨Z,S,ok,w⟩ =>
 aR ok w fun dx x H1 Z1 ok1 x1 rx w1=>aR ok1 w1 fun dy y H2 Z2 ok2 x2 ry w2=>hd H2 Z2 x y dx dy Q ok2.sub (rx.mono x2.z) ry w2
theorem pc {op:Operator}(ho:OpR X (binaryOp op) r)(hd:OpD F r f)(ha:FE X F a ga)(hb:FE X F b gb):FE X F (.BinOp a op b pos) (eOp f ga gb):=(Az ho ha hb).weak (oh hd)
theorem vN {op:CmpOp}(ho:OpR X (compareOp op) r)(hd:OpD F r f)(ha:FE X F a ga)(hb:FE X F b gb)(hm:behindInMarks op b=false:=by first | exact nomark _ | rfl):FE X F (.Compare a [op] [b] pos) (eOp f ga gb) :=
 (xy ho ha hb hm).weak (oh hd)
theorem AD (ho:IxR X r)(hd:OpD F r f)(ha:FE X F a ga)(hb:FE X F b gb)(hs:PlainIx b:=by intro _ _;rfl):FE X F (.Subscript a b pos) (eOp f ga gb):=(y2 ho ha hb hs).weak (oh hd)
def asB (r:R D):R Bool:=r.bind fun d=>match d with
 | .bl b=>.ok b
 | _=>.stuck
def gB (g:SS→R D):SS→R Bool:=fun S=>asB (g S)
theorem vO {t:TE}{g:SS→R D}(h:∀ σ H Q,tE F g σ H Q→t σ H Q):∀ σ H Q,tT F (gB g) σ H Q→tTest t σ H Q:=fun σ H Q ⟨Z,S,ok,w⟩=>by
 refine h σ H _ (aR ok w fun d v H1 Z1 ok1 x1 rv w1=>?_)
 cases d with
 | bl b=>rw[Rep]at rv;exact⟨b,rv,WG.now w1 ok1.sub⟩
 | _=>exact w1.elim
theorem aG {g:SS→R D}(h:FE X F e g)(he:∀ whole,isTrue e X.env whole=(do let v ← whole;standAt e.pos;holding [v] (truthy v)):=by intro _;rfl):FT X F e (gB g) :=
 (zh h he).weak (vO (t:=tE F g) fun _ _ _ q=>q)
theorem iD {op:CmpOp}(ho:OpR X (compareOp op) r)(hd:OpD F r f)(ha:FE X F a ga)(hb:FE X F b gb)(hm:behindInMarks op b=false:=by first | exact nomark _ | rfl):FT X F (.Compare a [op] [b] pos) (gB (eOp f ga gb)) :=
 (xz ho ha hb hm).weak (vO (oh hd))
end
def gAnd (a b:SS→R Bool):SS→R Bool:=fun S=>(a S).bind fun c=>if c=true then b S else .ok false
def gOr (a b:SS→R Bool):SS→R Bool:=fun S=>(a S).bind fun c=>if c=true then .ok true else b S
def gNot (a:SS→R Bool):SS→R Bool:=fun S=>(a S).bind fun c=>.ok (!c)
def eIf (c:SS→R Bool)(a b:SS→R D):SS→R D:=fun S=>(c S).bind fun t=>if t=true then a S else b S
section
variable {X:Cx}{F:Fx}{e a b c:Expr}{rest:List Expr}{ta tb tc:SS→R Bool}{ga gb:SS→R D}{pos:Pos}
theorem fk (h:FT X F a ta):FW X F (.BoolOp .And [a] pos) ta:=xv h
theorem bT (h:FT X F a ta):FW X F (.BoolOp .Or [a] pos) ta:=zi h
theorem gh (ha:FT X F a ta)(hb:FW X F (.BoolOp .And (b::rest) pos) tb):FW X F (.BoolOp .And (a::b::rest) pos) (gAnd ta tb) :=
 (zj ha hb).weak fun σ H Q ⟨Z,S,ok,w⟩=>iU ok w fun d H1 Z1 ok1 x1 w1=>by
  cases d with
  | true=>exact⟨Z1,S,ok1,w1⟩
  | false=>exact WG.now w1 ok1.sub
theorem bS (ha:FT X F a ta)(hb:FW X F (.BoolOp .Or (b::rest) pos) tb):FW X F (.BoolOp .Or (a::b::rest) pos) (gOr ta tb) :=
 (Aw ha hb).weak fun σ H Q ⟨Z,S,ok,w⟩=>iU ok w fun d H1 Z1 ok1 x1 w1=>by
  cases d with
  | true=>exact WG.now w1 ok1.sub
  | false=>exact⟨Z1,S,ok1,w1⟩
theorem ft_w (h:FW X F e ta):FT X F e ta:=h.pt
theorem aU (h:FT X F a ta):FT X F (.UnaryOp .Not a pos) (gNot ta) :=
 (zk h).weak fun σ H Q ⟨Z,S,ok,w⟩=>iU ok w fun d H1 Z1 ok1 x1 w1=>WG.now w1 ok1.sub
theorem gi {op}(h:FE X F a ga):FE X F (.BoolOp op [a] pos) ga:=zl h
def eAnd (a b:SS→R D):SS→R D:=fun S=>(asB (a S)).bind fun c=>if c=true then b S else .ok (.bl false)
def eOr (a b:SS→R D):SS→R D:=fun S=>(asB (a S)).bind fun c=>if c=true then .ok (.bl true) else b S
def eNot (a:SS→R D):SS→R D:=fun S=>(asB (a S)).bind fun c=>.ok (.bl (!c))
theorem rk {α:Type}{σ:St}{H Z:Hp}{S:SS}{g:SS→R D}{k:Bool→R α}{P:α→Hp→Hp→Prop}{Q:VK}(ok:StOk F H Z S σ)(w:WG F H Z ((asB (g S)).bind k) P)
  (h:∀ c H1 Z1,StOk F H1 Z1 S σ→Ex H Z H1 Z1→WG F H1 Z1 (k c) P→Q (.bl c) H1):tE F g σ H Q:=by
 have e:(asB (g S)).bind k=(g S).bind fun d=>(match d with | .bl b=>R.ok b | _=>R.stuck).bind k:=by
  unfold asB;cases g S<;>rfl
 rw[e]at w
 refine aR ok w fun d v H1 Z1 ok1 x1 rv w1=>?_
 cases d with
 | bl b=>rw[Rep]at rv;subst rv;exact h b H1 Z1 ok1 x1 w1
 | _=>exact w1.elim
theorem jF (ha:FE X F a ga)(hb:FE X F (.BoolOp .And (b::rest) pos) gb):FE X F (.BoolOp .And (a::b::rest) pos) (eAnd ga gb) :=
 (zm ha hb).weak fun σ H Q ⟨Z,S,ok,w⟩=>rk ok w fun c H1 Z1 ok1 x1 w1=>⟨c,rfl,by
  cases c with
  | true=>exact⟨Z1,S,ok1,w1⟩
  | false=>exact WG.now w1 ok1.sub _ (by rw[Rep])⟩
theorem y3 (ha:FE X F a ga)(hb:FE X F (.BoolOp .Or (b::rest) pos) gb):FE X F (.BoolOp .Or (a::b::rest) pos) (eOr ga gb) :=
 (Ax ha hb).weak fun σ H Q ⟨Z,S,ok,w⟩=>rk ok w fun c H1 Z1 ok1 x1 w1=>⟨c,rfl,by
  cases c with
  | true=>exact WG.now w1 ok1.sub _ (by rw[Rep])
  | false=>exact⟨Z1,S,ok1,w1⟩⟩
theorem zH (ha:FE X F a ga):FE X F (.UnaryOp .Not a pos) (eNot ga) :=
 (zo ha).weak fun σ H Q ⟨Z,S,ok,w⟩=>rk ok w fun c H1 Z1 ok1 x1 w1=>⟨c,rfl,WG.now w1 ok1.sub _ (by rw[Rep])⟩
theorem kl (hc:FT X F c tc)(ha:FE X F a ga)(hb:FE X F b gb):FE X F (.IfExp c a b pos) (eIf tc ga gb) :=
 (vz hc ha hb).weak fun σ H Q ⟨Z,S,ok,w⟩=>iU ok w fun d H1 Z1 ok1 x1 w1=>by
  cases d with
  | true=>exact⟨Z1,S,ok1,w1⟩
  | false=>exact⟨Z1,S,ok1,w1⟩
end
def aNil:SS→R (List D):=fun _=>.ok []
def aCons (g:SS→R D)(gs:SS→R (List D)):SS→R (List D):=fun S=>(g S).bind fun d=>(gs S).bind fun ds=>.ok (d::ds)
def eTup (gs:SS→R (List D)):SS→R D:=fun S=>(gs S).bind fun ds=>if ds.length≤16777216 then .ok (.tup ds) else .stuck
def eLst (gs:SS→R (List D)):SS→R D:=fun S=>(gs S).bind fun ds=>if ds.length≤16777216 then .ok (.lst ds) else .stuck
section
variable {X:Cx}{F:Fx}{e:Expr}{es:List Expr}{g:SS→R D}{gs:SS→R (List D)}{pos:Pos}
theorem zI:FA X F [] aNil:=rg.weak fun σ H Q ⟨Z,S,ok,w⟩=>WG.now w ok.sub [] Reps.nil
theorem xJ (ha:FE X F e g)(hr:FA X F es gs)(hs:starEach (e::es) X.env=(false,eval e X.env)::starEach es X.env:=by rfl):FA X F (e::es) (aCons g gs) :=
 (kM ha hr hs).weak fun σ H Q ⟨Z,S,ok,w⟩=>aR ok w fun d v H1 Z1 ok1 x1 rv w1=>bu ok1 w1 fun ds vs H2 Z2 ok2 x2 rs w2=>WG.now w2 ok2.sub _ (Reps.cons (rv.mono x2.z) rs)
theorem vP {x1}(h:FA X F es gs):FE X F (.Tuple es x1 pos) (eTup gs) :=
 (zy h).weak fun σ H Q ⟨Z,S,ok,w⟩=>bu ok w fun ds vs H1 Z1 ok1 x1 rs w1=>by
  split at w1
  ·rename_i hl
   refine⟨by rw[← rs.length,sizeLine_eq];exact hl,fun p hp=>?_⟩
   have z:Same Z1 (upd Z1 p (.tup vs)):=aF (ok1.sub.free hp)
   exact w1 _ _ (Ex.alloc ok1.sub hp) _ (by rw[Rep];exact⟨p,vs,rfl,SqT.of au,rs.mono z⟩)
  ·exact w1.elim
theorem zJ (h:FA X F es gs):FE X F (.List es pos) (eLst gs) :=
 (vH h).weak fun σ H Q ⟨Z,S,ok,w⟩=>bu ok w fun ds vs H1 Z1 ok1 x1 rs w1=>by
  split at w1
  ·rename_i hl
   refine⟨by rw[← rs.length,sizeLine_eq];exact hl,fun p hp=>?_⟩
   have z:Same Z1 (upd Z1 p (.lst vs)):=aF (ok1.sub.free hp)
   exact w1 _ _ (Ex.alloc ok1.sub hp) _ (by rw[Rep];exact⟨p,vs,rfl,SqL.of au,rs.mono z⟩)
  ·exact w1.elim
end
def rO (r:R O):O:=match r with
 | .ok o=>o
 | .err k=>.er k
 | .stuck=>.stuck
def sDrop (g:SS→R D):SS→O:=fun S=>rO ((g S).bind fun _=>.ok (.nx S))
def sRet (g:SS→R D):SS→O:=fun S=>rO ((g S).bind fun d=>.ok (.rt d))
def sSet (i:Nat)(g:SS→R D):SS→O:=fun S=>rO ((g S).bind fun d=>.ok (.nx (S.set i (some (.val d)))))
section
variable {X:Cx}{F:Fx}{st:Stmt}{rest:List Stmt}{e c:Expr}{g:SS→R D}{gt:SS→R Bool}{ga gb:SS→O}{pos:Pos}
theorem WO.wg {D:Ends}{r:R O}{H Z:Hp}{S:SS}{σ:St}(ok:StOk F H Z S σ)(w:WO F Z (rO r) D):WG F H Z r fun o _ Z'=>WO F Z' o D:=by
 cases r with
 | ok o=>exact fun _ _ x=>WO.more w x.z
 | err k=>exact fun H' s=>w H' (ok.ex.same.trans s)
 | stuck=>exact w
theorem bJ (h:FE X F e g)(hs:swapsWith e none pos.line X.env=pure false:=by rfl):FS X F (.Expr e pos) (sDrop g) :=
 (nZ h hs).weak fun D σ H ⟨Z,S,ok,w⟩=>aR ok (WO.wg ok w) fun d v H1 Z1 ok1 x1 rv w1=>WG.now w1 ok1.sub σ H1 Z1 (Same.refl _) ok1
theorem ah (h:FE X F e g):FS X F (.Return (some e) pos) (sRet g) :=
 (zp h).weak fun D σ H ⟨Z,S,ok,w⟩=>aR ok (WO.wg ok w) fun d v H1 Z1 ok1 x1 rv w1=>WG.now w1 ok1.sub v H1 Z1 ok1.ex rv
theorem aD (i:Nat){x:Str}{pos':Pos}(hN:X.N.Nodup)(h:FE X F e g)(hi:X.N[i]?=some x:=by rfl)(hx:Loc X.env.scope x:=by first | exact Or.inl rfl | exact Or.inr rfl)
  (hs:swapsWith e (some (.Name x pos')) pos.line X.env=pure false:=by rfl) (hf:X.fn x=true∨X.env.scope.names.lookup x=some .local:=by first | exact .inl rfl | exact .inr rfl):FS X F (.Assign [.Name x pos'] e pos) (sSet i g) :=
 (qZ hN hi hx h hs hf).weak fun D σ H ⟨Z,S,ok,w⟩=>aR ok (WO.wg ok w) fun d v H1 Z1 ok1 x1 rv w1=>WG.now w1 ok1.sub _ _ _ (Same.refl _) (ok1.setVal rv)
end
end FF
end
noncomputable section
namespace FF
open PySem PySem.Spec PyProof.Rows L2
theorem OpD.or {F:Fx}{r r':R2}{f f':D→D→R D}(p:D→D→Bool)(h:OpD F r f)(h':OpD F r' f'):OpD F (fun x y H Q=>r x y H Q∨r' x y H Q) (fun x y=>if p x y=true then f x y else f' x y):=by
 intro H Z x y dx dy Q s rx ry w
 by_cases e:p dx dy=true
 ·dsimp only at w;rw[if_pos e]at w;exact .inl (h H Z x y dx dy Q s rx ry w)
 ·dsimp only at w;rw[if_neg e]at w;exact .inr (h' H Z x y dx dy Q s rx ry w)
def dI (c:Int→Int→Bool)(g:Int→Int→D):D→D→R D
 | .int i,.int j=>if c i j=true then .ok (g i j) else .stuck
 | _,_=>.stuck
def dI0 (g:Int→Int→D):D→D→R D
 | .int i,.int j=>.ok (g i j)
 | _,_=>.stuck
theorem vQ {F:Fx}{C:Int→Int→Prop}{c:Int→Int→Bool}{g:Int→Int→V}{g':Int→Int→D}(hc:∀ i j,c i j=true→C i j)(hg:∀ i j Z,Rep F.K F.C Z (g' i j) (g i j)):OpD F (rI C g) (dI c g'):=by
 intro H Z x y dx dy Q s rx ry w
 cases dx with
 | int i =>
  cases dy with
  | int j =>
   rw[Rep]at rx
   rw[Rep]at ry
   subst rx;subst ry
   unfold dI at w
   dsimp only at w
   split at w
   ·rename_i q;exact⟨i,j,rfl,rfl,hc i j q,WG.now w s _ (hg i j Z)⟩
   ·exact w.elim
  | _=>exact w.elim
 | _=>exact w.elim
theorem iE {F:Fx}{g:Int→Int→V}{g':Int→Int→D}(hg:∀ i j Z,Rep F.K F.C Z (g' i j) (g i j)):OpD F (rI0 g) (dI0 g'):=by
 intro H Z x y dx dy Q s rx ry w
 cases dx with
 | int i =>
  cases dy with
  | int j =>
   rw[Rep]at rx
   rw[Rep]at ry
   subst rx;subst ry
   exact⟨i,j,rfl,rfl,WG.now w s _ (hg i j Z)⟩
  | _=>exact w.elim
 | _=>exact w.elim
def cMul (i j:Int):Bool:=(decide (-(2^64) < i)&&decide (i < 2^64))||(decide (-(2^64) < j)&&decide (j < 2^64))
def cDiv (i j:Int):Bool:=decide (0 < j)&&decide (j < 1073741824)
theorem xK (i j:Int)(h:cMul i j=true):CMul i j:=by
 unfold cMul at h
 simp only[Bool.or_eq_true,Bool.and_eq_true,decide_eq_true_eq]at h
 exact h
theorem xL (i j:Int)(h:cDiv i j=true):CDiv i j:=by
 unfold cDiv at h
 simp only[Bool.and_eq_true,decide_eq_true_eq]at h
 exact h
def isInt:D→Bool
 | .int _=>true
 | _=>false
def isTup:D→Bool
 | .tup _=>true
 | _=>false
def isLst:D→Bool
 | .lst _=>true
 | _=>false
def dCatT:D→D→R D
 | .tup xs,.tup ys=>if xs.length+ys.length≤16777216 then .ok (.tup (xs++ys)) else .stuck
 | _,_=>.stuck
def dCatL:D→D→R D
 | .lst xs,.lst ys=>if xs.length+ys.length≤16777216 then .ok (.lst (xs++ys)) else .stuck
 | _,_=>.stuck
def dRepT:D→D→R D
 | .tup xs,.int k=>if 0≤k∧k < 1000000∧xs.length*k.toNat≤16777216 then .ok (.tup (List.replicate k.toNat xs).flatten) else .stuck
 | _,_=>.stuck
def dRepL:D→D→R D
 | .lst xs,.int k=>if 0≤k∧k < 1000000∧xs.length*k.toNat≤16777216 then .ok (.lst (List.replicate k.toNat xs).flatten) else .stuck
 | _,_=>.stuck
def dIx:D→D→R D
 | .tup xs,.int i=>match atI xs i with
  | some d=>.ok d
  | none=>.stuck
 | .lst xs,.int i=>match atI xs i with
  | some d=>.ok d
  | none=>.stuck
 | _,_=>.stuck
theorem Reps.at {K:PySem.W.Frag}{C:Nat→Addr}{Z:Hp}{ds:List D}{vs:List V}{i:Int}{d:D}(r:Reps K C Z ds vs)(h:atI ds i=some d):∃ v,atI vs i=some v∧Rep K C Z d v:=by
 unfold atI at h ⊢
 rw[← r.length]
 cases e:ixN ds.length i with
 | none=>rw[e]at h;cases h
 | some j =>
  rw[e]at h
  exact r.get (i:=j) h
theorem zK {F:Fx}:OpD F (rIx F.K) dIx:=by
 intro H Z x y dx dy Q s rx ry w
 cases dx with
 | tup ds =>
  cases dy with
  | int i =>
   rw[Rep]at rx
   rw[Rep]at ry
   obtain⟨a,vs,rfl,h1,h2⟩:=rx
   subst ry
   unfold dIx at w
   dsimp only at w
   split at w
   ·rename_i d e
    obtain⟨v,e1,r⟩:=h2.at e
    exact .inr (.inl ⟨a,vs,i,v,rfl,rfl,h1.mono s,e1,WG.now w s v r⟩)
   ·exact w.elim
  | _=>exact w.elim
 | lst ds =>
  cases dy with
  | int i =>
   rw[Rep]at rx
   rw[Rep]at ry
   obtain⟨a,vs,rfl,h1,h2⟩:=rx
   subst ry
   unfold dIx at w
   dsimp only at w
   split at w
   ·rename_i d e
    obtain⟨v,e1,r⟩:=h2.at e
    exact .inl ⟨a,vs,i,v,rfl,rfl,s.seq h1,e1,WG.now w s v r⟩
   ·exact w.elim
  | _=>exact w.elim
 | _=>exact w.elim
section
open AutoSeq1 (wpAny_loadPart')
theorem pd (l b:Addr)(items items2:Array Value)(n n2:Nat)(dd dd2:Option Addr)(sl sl2:Array (Option Value))(hc0:items.isEmpty=true) :
  Meets (Builtin.«tuple.__add__» ⟨[.ref l,.ref b],[]⟩) (fun _ R s=>s.heap.get? l=some { cls:=.type "tuple",dict:=dd,data:=.seq items n,slots:=sl }∧s.heap.get? b=some { cls:=.type "tuple",dict:=dd2,data:=.seq items2 n2,slots:=sl2 }∧R (.ok (.ret (.ref b))) s) :=
 .of_wp fun prog w A R s h=>by
  obtain⟨hp,g,d,tk,os⟩:=s;obtain⟨hl,hb,h⟩:=h
  have f2:=AutoSeq1.sub_tuple_tuple
  have f3:=AutoSeq1.sub_list_list
  wp_walk using wpAny_loadPart' hl,wpAny_loadPart' hb
  exact⟨_,rfl,h⟩
end
theorem iV {K:PySem.W.Frag}{C:Nat→Addr}{Z:Hp}{ds:List D}{vs:List V}(r:Reps K C Z ds vs):∀ k:Nat,Reps K C Z (List.replicate k ds).flatten (List.replicate k vs).flatten
 | 0=>Reps.nil
 | k+1=>by
  rw[List.replicate_succ,List.replicate_succ,List.flatten_cons,List.flatten_cons]
  exact r.append (iV r k)
def rCat2 (K:PySem.W.Frag):R2:=fun x y H Q=>∃ a b xs ys,x=.ref a∧y=.ref b∧SqT K H a xs∧SqT K H b ys∧xs.length+ys.length≤sizeLine∧(∀ p,H p=none→Q (.ref p) (upd H p (.tup (xs++ys))))∧(ys=[]→Q (.ref a) H)∧(xs=[]→Q (.ref b) H)
theorem xM {X:Cx}:OpR X (binaryOp .Add) (rCat2 X.K):=by
 intro pins s σ H x y v u Q I rx ry h
 obtain⟨a,b,xs,ys,rfl,rfl,ha,hb,hz,q1,q2,q3⟩:=h
 by_cases hx:xs=[]
 ·cases rx
  cases ry
  obtain⟨its,r1,p1,_⟩:=I.tuple ha
  obtain⟨its2,r2,p2,_⟩:=I.tuple hb
  obtain⟨⟨cls,dd,data,sl⟩,ho,hc,n,hd⟩:=id p1
  obtain⟨⟨cls2,dd2,data2,sl2⟩,ho2,hc2,n2,hd2⟩:=id p2
  simp only at hc hd hc2 hd2
  subst hc hd hc2 hd2
  have he:its=[]:=by
   have:=r1.length
   rw[hx]at this
   exact List.length_eq_zero_iff.mp this.symm
  exact concat_meets ⟨_,ho,rfl⟩ ⟨_,ho2,rfl⟩ noFill_tuple_add seq_tuple_add PySem.F.slot_tuple_add PySem.F.entry_tuple_add (PySem.F.args_tuple_add_2 _ _)
   (pd a b its.toArray its2.toArray n n2 dd dd2 sl sl2 (by simp[he])) ⟨ho,ho2,⟨.ref b,H,I,rfl,q3 hx⟩⟩
 ·exact xF pins s σ H _ _ v u Q I rx ry ⟨a,b,xs,ys,rfl,rfl,ha,hb,hx,hz,q2,fun _=>q1⟩
theorem vR {F:Fx}:OpD F (rCat2 F.K) dCatT:=by
 intro H Z x y dx dy Q s rx ry w
 cases dx with
 | tup ds =>
  cases dy with
  | tup es =>
   rw[Rep]at rx
   rw[Rep]at ry
   obtain⟨a,vs,rfl,h1,h2⟩:=rx
   obtain⟨b,us,rfl,k1,k2⟩:=ry
   unfold dCatT at w
   dsimp only at w
   split at w
   ·rename_i hl
    refine⟨a,b,vs,us,rfl,rfl,h1.mono s,k1.mono s,by rw[← h2.length,← k2.length,sizeLine_eq];exact hl,fun p hp=>?_,fun e=>?_,fun e=>?_⟩
    ·have z:Same Z (upd Z p (.tup (vs++us))):=aF (s.free hp)
     exact w _ _ (Ex.alloc s hp) _ (by rw[Rep];exact⟨p,_,rfl,SqT.of au,(h2.append k2).mono z⟩)
    ·have:es=[]:=List.length_eq_zero_iff.mp (by rw[k2.length,e];rfl)
     subst this
     exact WG.now w s _ (by rw[List.append_nil,Rep];exact⟨a,vs,rfl,h1,h2⟩)
    ·have:ds=[]:=List.length_eq_zero_iff.mp (by rw[h2.length,e];rfl)
     subst this
     exact WG.now w s _ (by rw[List.nil_append,Rep];exact⟨b,us,rfl,k1,k2⟩)
   ·exact w.elim
  | _=>exact w.elim
 | _=>exact w.elim
def rRepT (K:PySem.W.Frag):R2:=fun x y H Q=>∃ a k xs,x=.ref a∧y=.int k∧SqT K H a xs∧0≤k∧k < 1000000∧xs.length*k.toNat≤sizeLine∧(∀ p,H p=none→Q (.ref p) (upd H p (.tup (List.replicate k.toNat xs).flatten)))∧((List.replicate k.toNat xs).flatten=xs→Q (.ref a) H)
theorem xN {X:Cx}:OpR X (binaryOp .Mult) (rRepT X.K):=by
 intro pins s σ H x y v u Q I rx ry h
 obtain⟨a,k,xs,rfl,rfl,ha,h0,h1,hz,q1,q2⟩:=h
 cases rx
 obtain⟨t,rfl⟩:=ry
 obtain⟨its,r,p1,_⟩:=I.tuple ha
 have hl:=r.length
 obtain⟨⟨cls,dd,data,sl⟩,ho,hc,n,hd⟩:=id p1
 simp only at hc hd
 subst hc hd
 refine wpAny_binaryOp_repeat_ref (T := "tuple") (U := "int") (by decide) ⟨_,ho,rfl⟩ (fun s'=>typeIs_int s' k t) jE PySem.F.fills_int_mul PySem.F.slot_int_rmul og PySem.F.slot_int_index.lookup
  (call_meets PySem.F.slot_int_rmul (typeIs_int s k t) PySem.F.entry_int_rmul (PySem.F.args_int_rmul_2 _ _) (kX k t a its.toArray n dd sl) ⟨ho,rfl,⟨_,ho,rfl⟩,?_⟩)
 cases its with
 | nil =>
  have hx:xs=[]:=List.length_eq_zero_iff.mp hl
  have e:(List.replicate k.toNat xs).flatten=xs:=by rw[hx];simp
  exact call_meets PySem.F.slot_tuple_mul ⟨_,ho,rfl⟩ PySem.F.entry_tuple_mul (PySem.F.args_tuple_mul_2 _ _) (mw a n k t dd sl h0 h1) ⟨ho,⟨.ref a,H,I,rfl,q2 e⟩⟩
 | cons it its' =>
  have hne:(it::its').toArray.isEmpty=false:=by simp
  by_cases k1:k=1
  ·subst k1
   have e:(List.replicate (1:Int).toNat xs).flatten=xs:=by simp
   exact call_meets PySem.F.slot_tuple_mul ⟨_,ho,rfl⟩ PySem.F.entry_tuple_mul (PySem.F.args_tuple_mul_2 _ _) (mt a _ n t dd sl) ⟨ho,⟨.ref a,H,I,rfl,q2 e⟩⟩
  ·by_cases k0:k=0
   ·subst k0
    refine call_meets PySem.F.slot_tuple_mul ⟨_,ho,rfl⟩ PySem.F.entry_tuple_mul (PySem.F.args_tuple_mul_2 _ _) (kY a _ n t dd sl hne) ⟨ho,?_⟩
    refine⟨.ref s.heap.objs.size,_,I.laid (t':=s.toks) (o:=.tup []) (fun b ob q=>Heap.get?_push_of_some _ q) (Nat.le_refl _) ?_,rfl,q1 _ (I.hok.fresh (Nat.le_refl _))⟩
    exact⟨Nat.zero_le _,[],.nil,TupO.new _ _⟩
   ·refine call_meets PySem.F.slot_tuple_mul ⟨_,ho,rfl⟩ PySem.F.entry_tuple_mul (PySem.F.args_tuple_mul_2 _ _) (ms a _ n k t dd sl (by omega) h1 (by rw[List.size_toArray,← hl];exact hz) hne) ⟨ho,?_⟩
    have ef:=jD (it::its') k.toNat []
    rw[List.nil_append]at ef
    have ef':List.foldl (fun x1 x2=>x1++x2) #[] (List.replicate k.toNat (it::its').toArray)=(List.replicate k.toNat (it::its')).flatten.toArray:=ef
    rw[ef']
    refine⟨.ref s.heap.objs.size,_,I.laid (t':=s.toks) (o:=.tup (List.replicate k.toNat xs).flatten) (fun b ob q=>Heap.get?_push_of_some _ q) (Nat.le_refl _) ?_,rfl,q1 _ (I.hok.fresh (Nat.le_refl _))⟩
    exact⟨by rw[sK,Nat.mul_comm];exact hz,_,r.rep k.toNat,TupO.new _ _⟩
theorem vS {F:Fx}:OpD F (rRepT F.K) dRepT:=by
 intro H Z x y dx dy Q s rx ry w
 cases dx with
 | tup ds =>
  cases dy with
  | int k =>
   rw[Rep]at rx
   rw[Rep]at ry
   obtain⟨a,vs,rfl,h1,h2⟩:=rx
   subst ry
   unfold dRepT at w
   dsimp only at w
   split at w
   ·rename_i hk
    refine⟨a,k,vs,rfl,rfl,h1.mono s,hk.1,hk.2.1,by rw[← h2.length,sizeLine_eq];exact hk.2.2,fun p hp=>?_,fun e=>?_⟩
    ·have z:Same Z (upd Z p (.tup (List.replicate k.toNat vs).flatten)):=aF (s.free hp)
     exact w _ _ (Ex.alloc s hp) _ (by rw[Rep];exact⟨p,_,rfl,SqT.of au,(iV h2 k.toNat).mono z⟩)
    ·refine WG.now w s _ ?_
     rw[Rep]
     exact⟨a,vs,rfl,h1,by have:=iV h2 k.toNat;rw[e]at this;exact this⟩
   ·exact w.elim
  | _=>exact w.elim
 | _=>exact w.elim
theorem vT {F:Fx}:OpD F (fun x y H Q=>∃ a b xs ys,x=.ref a∧y=.ref b∧SqL F.K H a xs∧SqL F.K H b ys∧xs.length+ys.length≤sizeLine∧∀ p,H p=none→Q (.ref p) (upd H p (.lst (xs++ys)))) dCatL:=by
 intro H Z x y dx dy Q s rx ry w
 cases dx with
 | lst ds =>
  cases dy with
  | lst es =>
   rw[Rep]at rx
   rw[Rep]at ry
   obtain⟨a,vs,rfl,h1,h2⟩:=rx
   obtain⟨b,us,rfl,k1,k2⟩:=ry
   unfold dCatL at w
   dsimp only at w
   split at w
   ·rename_i hl
    refine⟨a,b,vs,us,rfl,rfl,s.seq h1,s.seq k1,by rw[← h2.length,← k2.length,sizeLine_eq];exact hl,fun p hp=>?_⟩
    have z:Same Z (upd Z p (.lst (vs++us))):=aF (s.free hp)
    exact w _ _ (Ex.alloc s hp) _ (by rw[Rep];exact⟨p,_,rfl,SqL.of au,(h2.append k2).mono z⟩)
   ·exact w.elim
  | _=>exact w.elim
 | _=>exact w.elim
theorem vU {X:Cx}:OpR X (binaryOp .Add) (fun x y H Q=>∃ a b xs ys,x=.ref a∧y=.ref b∧SqL X.K H a xs∧SqL X.K H b ys∧xs.length+ys.length≤sizeLine∧∀ p,H p=none→Q (.ref p) (upd H p (.lst (xs++ys)))):=by
 intro pins s σ H x y v u Q I rx ry h
 obtain⟨a,b,xs,ys,rfl,rfl,ha,hb,hz,q⟩:=h
 cases rx
 cases ry
 obtain⟨its,r,⟨o,n,e,c1,c2,c3⟩,_⟩:=I.list ha
 obtain⟨its2,r2,⟨o2,n2,e2,d1,d2,d3⟩,_⟩:=I.list hb
 have l1:=r.length
 have l2:=r2.length
 obtain⟨cls,dd,data,sl⟩:=o
 obtain⟨cls2,dd2,data2,sl2⟩:=o2
 simp only at c1 c3 d1 d3
 subst c1 c3 d1 d3
 refine concat_meets ⟨_,e,rfl⟩ ⟨_,e2,rfl⟩ noFill_list_add seq_list_add PySem.F.slot_list_add PySem.F.entry_list_add (PySem.F.args_list_add_2 _ _) (t7 a b its.toArray its2.toArray n n2 dd dd2 sl sl2 (by rw[List.size_toArray,List.size_toArray];omega)) ⟨e,e2,?_⟩
 have ea:its.toArray++its2.toArray=(its++its2).toArray:=by simp
 rw[ea]
 exact⟨.ref _,_,I.lnew (t':=s.toks) (r.append r2) (by rw[List.length_append];omega),rfl,q _ I.fresh⟩
def rRepL (K:PySem.W.Frag):R2:=fun x y H Q=>∃ a k xs,x=.ref a∧y=.int k∧SqL K H a xs∧0≤k∧k < 1000000∧xs.length*k.toNat≤sizeLine∧∀ p,H p=none→Q (.ref p) (upd H p (.lst (List.replicate k.toNat xs).flatten))
theorem xO {X:Cx}:OpR X (binaryOp .Mult) (rRepL X.K):=by
 intro pins s σ H x y v u Q I rx ry h
 obtain⟨a,k,xs,rfl,rfl,ha,h0,h1,hz,q⟩:=h
 cases rx
 obtain⟨t,rfl⟩:=ry
 obtain⟨its,r,⟨o,n,e,c1,c2,c3⟩,_⟩:=I.list ha
 have hl:=r.length
 obtain⟨cls,dd,data,sl⟩:=o
 simp only at c1 c3
 subst c1 c3
 refine wpAny_binaryOp_repeat_ref (T := "list") (U := "int") (by decide) ⟨_,e,rfl⟩ (fun s'=>typeIs_int s' k t) noFill_list_mul PySem.F.fills_int_mul PySem.F.slot_int_rmul repeat_list PySem.F.slot_int_index.lookup
  (call_meets PySem.F.slot_int_rmul (typeIs_int s k t) PySem.F.entry_int_rmul (PySem.F.args_int_rmul_2 _ _) (mx k t a its.toArray n dd sl) ⟨e,rfl,⟨_,e,rfl⟩,
   call_meets PySem.F.slot_list_mul ⟨_,e,rfl⟩ PySem.F.entry_list_mul (PySem.F.args_list_mul_2 _ _) (t8 a its.toArray n k t dd sl (by omega) (by omega) (by rw[List.size_toArray,← hl];exact hz)) ⟨e,?_⟩⟩)
 have hnew:List.foldl (fun x1 x2=>x1++x2) #[] (List.replicate (if its.toArray.isEmpty=true then 0 else k.toNat) its.toArray)=(List.replicate k.toNat its).flatten.toArray:=by
  have f0:∀ m:Nat,List.foldl (fun x1 x2=>x1++x2) #[] (List.replicate m its.toArray)=(List.replicate m its).flatten.toArray:=fun m=>by
   have:=jD its m []
   rwa [List.nil_append]at this
  rw[f0]
  cases its with
  | nil=>simp
  | cons a r'=>rw[if_neg (by simp)]
 rw[hnew]
 exact⟨.ref _,_,I.lnew (t':=s.toks) (r.rep k.toNat) (by rw[sK,Nat.mul_comm];exact hz),rfl,q _ I.fresh⟩
theorem vV {F:Fx}:OpD F (rRepL F.K) dRepL:=by
 intro H Z x y dx dy Q s rx ry w
 cases dx with
 | lst ds =>
  cases dy with
  | int k =>
   rw[Rep]at rx
   rw[Rep]at ry
   obtain⟨a,vs,rfl,h1,h2⟩:=rx
   subst ry
   unfold dRepL at w
   dsimp only at w
   split at w
   ·rename_i hk
    refine⟨a,k,vs,rfl,rfl,s.seq h1,hk.1,hk.2.1,by rw[← h2.length,sizeLine_eq];exact hk.2.2,fun p hp=>?_⟩
    have z:Same Z (upd Z p (.lst (List.replicate k.toNat vs).flatten)):=aF (s.free hp)
    exact w _ _ (Ex.alloc s hp) _ (by rw[Rep];exact⟨p,_,rfl,SqL.of au,(iV h2 k.toNat).mono z⟩)
   ·exact w.elim
  | _=>exact w.elim
 | _=>exact w.elim
mutual
def eqD:D→D→Bool
 | .non,.non=>true
 | .bl a,.bl b=>a==b
 | .bl a,.int b=>(if a then 1 else 0)==b
 | .int a,.bl b=>a==(if b then 1 else 0)
 | .int a,.int b=>a==b
 | .str a,.str b=>a==b
 | .tup xs,.tup ys=>eqDs xs ys
 | .lst xs,.lst ys=>eqDs xs ys
 | _,_=>false
def eqDs:List D→List D→Bool
 | [],[]=>true
 | x::xs,y::ys=>eqD x y&&eqDs xs ys
 | _,_=>false
end
mutual
def good:Nat→D→Bool
 | _,.exc _=>false
 | _,.fn _=>false
 | 0,.tup _=>false
 | 0,.lst _=>false
 | n+1,.tup xs=>goods n xs
 | n+1,.lst xs=>goods n xs
 | _,_=>true
def goods:Nat→List D→Bool
 | _,[]=>true
 | n,x::xs=>good n x&&goods n xs
end
end FF
end
noncomputable section
namespace FF
open PySem PySem.Spec PyProof.Rows L2
mutual
theorem iW:∀ (n:Nat) (d:D),good n d=true→eqD d d=true
 | n,.non,_=>by simp[eqD]
 | n,.bl b,_=>by simp[eqD]
 | n,.int i,_=>by simp[eqD]
 | n,.str x,_=>by simp[eqD]
 | 0,.tup xs,h=>by simp[good]at h
 | 0,.lst xs,h=>by simp[good]at h
 | n+1,.tup xs,h=>by rw[good]at h;rw[eqD];exact jG n xs h
 | n+1,.lst xs,h=>by rw[good]at h;rw[eqD];exact jG n xs h
 | n,.exc k,h=>by cases n<;>simp[good]at h
 | n,.fn k,h=>by cases n<;>simp[good]at h
theorem jG:∀ (n:Nat) (ds:List D),goods n ds=true→eqDs ds ds=true
 | n,[],_=>by simp[eqDs]
 | n,d::ds,h=>by
  rw[goods,Bool.and_eq_true]at h
  rw[eqDs,iW n d h.1,jG n ds h.2]
  rfl
end
theorem aV {n:Nat}:∀ {ds:List D} {i:Nat} {d:D},goods n ds=true→ds[i]?=some d→good n d=true
 | [],_,_,_,e=>by simp at e
 | x::xs,0,d,h,e=>by
  rw[goods,Bool.and_eq_true]at h
  simp at e;subst e;exact h.1
 | x::xs,i+1,d,h,e=>by
  rw[goods,Bool.and_eq_true]at h
  exact aV h.2 (by simpa using e)
theorem dv:∀ (ds es:List D),eqDs ds es=((List.range (min ds.length es.length)).all (fun j=>eqD (ds.getD j .non) (es.getD j .non))&&ds.length==es.length)
 | [],[]=>by simp[eqDs]
 | [],e::es=>by simp[eqDs]
 | d::ds,[]=>by simp[eqDs]
 | d::ds,e::es=>by
  rw[eqDs,dv ds es]
  have h1:min (d::ds).length (e::es).length=min ds.length es.length+1:=by simp only[List.length_cons];omega
  rw[h1,List.range_succ_eq_map,List.all_cons,List.all_map]
  have h2:((d::ds).length==(e::es).length)=(ds.length==es.length):=by simp
  rw[h2]
  simp only[List.getD_cons_zero,Bool.and_assoc]
  rfl
section
variable {X:Cx}{F:Fx}{pins:List (Addr×Obj)}{σ:St}{H Z:Hp}{s:Shared}
theorem nh {a:Addr}{xs ys:List V}(I:Inv X pins σ H s)(h:SqL X.K H a xs)(h':SqT X.K H a ys):False:=by
 obtain⟨its,r,p,_⟩:=I.list h
 obtain⟨its',r',p',_⟩:=I.tuple h'
 exact SeqAt.ne_of_list_tuple p.isList (show s.heap.IsTuple a its'.toArray from p') rfl
mutual
theorem kN {K:PySem.W.Frag}{C:Nat→Addr}(hK:X.K=K)(I:Inv X pins σ H s)(z:Same Z H):∀ (n:Nat) (d e:D) (v:V),good n d=true→good n e=true→Rep K C Z d v→Rep K C Z e v→d=e
 | n,.non,e,v,g1,g2,h,h'=>by rw[Rep]at h;subst h;cases e<;>rw[Rep]at h'<;>first | rfl | (obtain⟨_,_,q,_⟩:=h';cases q;done) | (obtain⟨_,q,_⟩:=h';cases q;done) | (cases h';done)
 | n,.bl b,e,v,g1,g2,h,h'=>by rw[Rep]at h;subst h;cases e<;>rw[Rep]at h'<;>first | (cases h';rfl) | (obtain⟨_,_,q,_⟩:=h';cases q;done) | (obtain⟨_,q,_⟩:=h';cases q;done) | (cases h';done)
 | n,.int b,e,v,g1,g2,h,h'=>by rw[Rep]at h;subst h;cases e<;>rw[Rep]at h'<;>first | (cases h';rfl) | (obtain⟨_,_,q,_⟩:=h';cases q;done) | (obtain⟨_,q,_⟩:=h';cases q;done) | (cases h';done)
 | n,.str b,e,v,g1,g2,h,h'=>by rw[Rep]at h;subst h;cases e<;>rw[Rep]at h'<;>first | (cases h';rfl) | (obtain⟨_,_,q,_⟩:=h';cases q;done) | (obtain⟨_,q,_⟩:=h';cases q;done) | (cases h';done)
 | 0,.tup xs,e,v,g1,g2,h,h'=>by simp[good]at g1
 | 0,.lst xs,e,v,g1,g2,h,h'=>by simp[good]at g1
 | n,.exc k,e,v,g1,g2,h,h'=>by cases n<;>simp[good]at g1
 | n,.fn k,e,v,g1,g2,h,h'=>by cases n<;>simp[good]at g1
 | n+1,.tup ds,e,v,g1,g2,h,h'=>by
  rw[Rep]at h
  obtain⟨a,vs,rfl,h1,h2⟩:=h
  cases e with
  | tup es =>
   rw[Rep]at h'
   obtain⟨b,us,q,k1,k2⟩:=h'
   cases q
   have e1:vs=us:=I.tuple_inj (by rw[hK];exact h1.mono z) (by rw[hK];exact k1.mono z)
   subst e1
   rw[good]at g1 g2
   rw[k6 hK I z n ds es vs g1 g2 h2 k2]
  | lst es =>
   rw[Rep]at h'
   obtain⟨b,us,q,k1,k2⟩:=h'
   cases q
   exact(nh I (by rw[hK];exact z.seq k1) (by rw[hK];exact h1.mono z)).elim
  | exc k=>simp[good]at g2
  | fn k=>simp[good]at g2
  | _=>rw[Rep]at h';cases h'
 | n+1,.lst ds,e,v,g1,g2,h,h'=>by
  rw[Rep]at h
  obtain⟨a,vs,rfl,h1,h2⟩:=h
  cases e with
  | lst es =>
   rw[Rep]at h'
   obtain⟨b,us,q,k1,k2⟩:=h'
   cases q
   have e1:vs=us:=I.list_inj (by rw[hK];exact z.seq h1) (by rw[hK];exact z.seq k1)
   subst e1
   rw[good]at g1 g2
   rw[k6 hK I z n ds es vs g1 g2 h2 k2]
  | tup es =>
   rw[Rep]at h'
   obtain⟨b,us,q,k1,k2⟩:=h'
   cases q
   exact(nh I (by rw[hK];exact z.seq h1) (by rw[hK];exact k1.mono z)).elim
  | exc k=>simp[good]at g2
  | fn k=>simp[good]at g2
  | _=>rw[Rep]at h';cases h'
theorem k6 {K:PySem.W.Frag}{C:Nat→Addr}(hK:X.K=K)(I:Inv X pins σ H s)(z:Same Z H):∀ (n:Nat) (ds es:List D) (vs:List V),goods n ds=true→goods n es=true→Reps K C Z ds vs→Reps K C Z es vs→ds=es
 | n,[],es,vs,g1,g2,h,h'=>by
  rw[Reps]at h;subst h
  cases es with
  | nil=>rfl
  | cons e es=>rw[Reps]at h';obtain⟨_,_,q,_⟩:=h';cases q
 | n,d::ds,es,vs,g1,g2,h,h'=>by
  rw[Reps]at h
  obtain⟨v,r,rfl,h1,h2⟩:=h
  cases es with
  | nil=>rw[Reps]at h';cases h'
  | cons e es =>
   obtain⟨k1,k2⟩:=h'.uncons
   rw[goods,Bool.and_eq_true]at g1 g2
   rw[kN hK I z n d e v g1.1 g2.1 h1 k1,k6 hK I z n ds es r g1.2 g2.2 h2 k2]
end
def flatD:D→Bool
 | .non=>true
 | .bl _=>true
 | .int _=>true
 | .str _=>true
 | _=>false
theorem iX {K:PySem.W.Frag}{C:Nat→Addr}{d:D}{v:V}(f:flatD d=true)(h:Rep K C Z d v):flatV v=true:=by
 cases d<;>first | (rw[Rep]at h;subst h;rfl) | simp[flatD]at f
theorem ph {K:PySem.W.Frag}{C:Nat→Addr}{d e:D}{v u:V}(f1:flatD d=true)(f2:flatD e=true)(h:Rep K C Z d v)(h':Rep K C Z e u):eqV v u=eqD d e:=by
 cases d<;>first | (simp[flatD]at f1;done) | (cases e<;>first | (simp[flatD]at f2;done) | (rw[Rep]at h;rw[Rep]at h';subst h;subst h';simp[eqV,eqD]))
set_option maxHeartbeats 4000000 in
theorem iF {K:PySem.W.Frag}{C:Nat→Addr}(hK:X.K=K)(I:Inv X pins σ H s)(z:Same Z H):∀ (n:Nat) (A:Around) (d e:D) (v u:V) (x y:Value),good n d=true→good n e=true→Rep K C Z d v→Rep K C Z e u→RelV v x→RelV u y→A.units+n < cLine→SeqAt.EqAt A s x y (eqD d e):=by
 intro n
 induction n with
 | zero =>
  intro A d e v u x y g1 g2 h h' rx ry hu
  have f1:flatD d=true:=by cases d<;>first | rfl | simp[good]at g1
  have f2:flatD e=true:=by cases e<;>first | rfl | simp[good]at g2
  rw[← ph f1 f2 h h']
  exact vL rx ry (iX f1 h) (iX f2 h')
 | succ n ih =>
  intro A d e v u x y g1 g2 h h' rx ry hu
  have hu0:A.units < cLine:=by omega
  have in1:A.in1.units+n < cLine:=by show A.units+1+n < cLine;omega
  by_cases f1:flatD d=true
  ·by_cases f2:flatD e=true
   ·rw[← ph f1 f2 h h']
    exact vL rx ry (iX f1 h) (iX f2 h')
   ·cases e with
    | tup es =>
     rw[Rep]at h'
     obtain⟨b,us,rfl,k1,k2⟩:=h'
     cases ry
     obtain⟨its,_,p,_⟩:=I.tuple (by rw[hK];exact k1.mono z:SqT X.K H b us)
     have p':s.heap.IsTuple b its.toArray:=p
     cases d<;>first | (simp[flatD]at f1;done) | (rw[Rep]at h;subst h;simp only[eqD];first | (cases rx;first | exact SeqAt.EqAt.none_tuple p' hu0 | exact SeqAt.EqAt.bool_tuple _ p' hu0) | (obtain⟨t,rfl⟩:=rx;first | exact SeqAt.EqAt.int_tuple _ _ p' hu0 | exact SeqAt.EqAt.str_tuple _ _ p' hu0))
    | lst es =>
     rw[Rep]at h'
     obtain⟨b,us,rfl,k1,k2⟩:=h'
     cases ry
     obtain⟨its,_,p,_⟩:=I.list (by rw[hK];exact z.seq k1:SqL X.K H b us)
     have p':=p.isList
     cases d<;>first | (simp[flatD]at f1;done) | (rw[Rep]at h;subst h;simp only[eqD];first | (cases rx;first | exact SeqAt.EqAt.none_list p' hu0 | exact SeqAt.EqAt.bool_list _ p' hu0) | (obtain⟨t,rfl⟩:=rx;first | exact SeqAt.EqAt.int_list _ _ p' hu0 | exact SeqAt.EqAt.str_list _ _ p' hu0))
    | exc k=>simp[good]at g2
    | fn k=>simp[good]at g2
    | _=>simp[flatD]at f2
  ·cases d with
   | tup ds =>
    have hh:=h
    rw[Rep]at h
    obtain⟨a,vs,rfl,h1,h2⟩:=h
    cases rx
    obtain⟨its,r,p,_⟩:=I.tuple (by rw[hK];exact h1.mono z:SqT X.K H a vs)
    have p':s.heap.IsTuple a its.toArray:=p
    cases e with
    | tup es =>
     have hh':=h'
     rw[Rep]at h'
     obtain⟨b,us,rfl,k1,k2⟩:=h'
     cases ry
     by_cases hab:a=b
     ·subst hab
      have:=kN hK I z (n+1) _ _ _ g1 g2 hh hh'
      rw[← this,iW (n+1) _ g1]
      exact SeqAt.EqAt.same _
     ·obtain⟨its2,r2,p2,_⟩:=I.tuple (by rw[hK];exact k1.mono z:SqT X.K H b us)
      have p2':s.heap.IsTuple b its2.toArray:=p2
      rw[good]at g1 g2
      have q:=SeqAt.RcAt.tuples (A:=A) (e:=fun j=>eqD (ds.getD j .non) (es.getD j .non)) p' p2' hu0 fun j j1 j2=>by
       have j1':j < its.length:=by simpa using j1
       have j2':j < its2.length:=by simpa using j2
       have l1:j < ds.length:=by rw[h2.length,r.length];exact j1'
       have l2:j < es.length:=by rw[k2.length,r2.length];exact j2'
       have e1:ds[j]?=some ds[j]:=by simp
       have e2:es[j]?=some es[j]:=by simp
       obtain⟨w1,f1,f2⟩:=h2.get e1
       obtain⟨w2,f3,f4⟩:=k2.get e2
       obtain⟨z1,m1,m2⟩:=r.get f1
       obtain⟨z2,m3,m4⟩:=r2.get f3
       have n1:its.toArray[j]=z1:=by simpa [j1'] using m1
       have n2:its2.toArray[j]=z2:=by simpa [j2'] using m3
       rw[n1,n2]
       have g3:ds.getD j .non=ds[j]:=by simp[l1]
       have g4:es.getD j .non=es[j]:=by simp[l2]
       rw[g3,g4]
       exact ih A.in1 _ _ w1 w2 z1 z2 (aV g1 e1) (aV g2 e2) f2 f4 m2 m4 in1
      rw[eqD,dv]
      have s1:its.toArray.size=ds.length:=by rw[List.size_toArray,h2.length,r.length]
      have s2:its2.toArray.size=es.length:=by rw[List.size_toArray,k2.length,r2.length]
      rw[s1,s2]at q
      exact SeqAt.EqAt.of_refs hab q
    | lst es =>
     rw[Rep]at h'
     obtain⟨b,us,rfl,k1,k2⟩:=h'
     cases ry
     obtain⟨its2,r2,p2,_⟩:=I.list (by rw[hK];exact z.seq k1:SqL X.K H b us)
     simp only[eqD]
     exact SeqAt.EqAt.tuple_list p' p2.isList hu0
    | exc k=>simp[good]at g2
    | fn k=>simp[good]at g2
    | _=>rw[Rep]at h';subst h';simp only[eqD];first | (cases ry;first | exact SeqAt.EqAt.tuple_none p' hu0 | exact SeqAt.EqAt.tuple_bool _ p' hu0) | (obtain⟨t,rfl⟩:=ry;first | exact SeqAt.EqAt.tuple_int _ _ p' hu0 | exact SeqAt.EqAt.tuple_str _ _ p' hu0)
   | lst ds =>
    have hh:=h
    rw[Rep]at h
    obtain⟨a,vs,rfl,h1,h2⟩:=h
    cases rx
    obtain⟨its,r,p,_⟩:=I.list (by rw[hK];exact z.seq h1:SqL X.K H a vs)
    have p':=p.isList
    cases e with
    | lst es =>
     have hh':=h'
     rw[Rep]at h'
     obtain⟨b,us,rfl,k1,k2⟩:=h'
     cases ry
     by_cases hab:a=b
     ·subst hab
      have:=kN hK I z (n+1) _ _ _ g1 g2 hh hh'
      rw[← this,iW (n+1) _ g1]
      exact SeqAt.EqAt.same _
     ·obtain⟨its2,r2,p2,_⟩:=I.list (by rw[hK];exact z.seq k1:SqL X.K H b us)
      have p2':=p2.isList
      rw[good]at g1 g2
      have s1:its.toArray.size=ds.length:=by rw[List.size_toArray,h2.length,r.length]
      have s2:its2.toArray.size=es.length:=by rw[List.size_toArray,k2.length,r2.length]
      rw[eqD,dv]
      by_cases hsz:ds.length=es.length
      ·have q:=SeqAt.RcAt.lists (A:=A) (e:=fun j=>eqD (ds.getD j .non) (es.getD j .non)) p' p2' (by rw[s1,s2];exact hsz) hu0 fun j j1 j2=>by
        have j1':j < its.length:=by simpa using j1
        have j2':j < its2.length:=by simpa using j2
        have l1:j < ds.length:=by rw[h2.length,r.length];exact j1'
        have l2:j < es.length:=by rw[k2.length,r2.length];exact j2'
        have e1:ds[j]?=some ds[j]:=by simp
        have e2:es[j]?=some es[j]:=by simp
        obtain⟨w1,f1,f2⟩:=h2.get e1
        obtain⟨w2,f3,f4⟩:=k2.get e2
        obtain⟨z1,m1,m2⟩:=r.get f1
        obtain⟨z2,m3,m4⟩:=r2.get f3
        have n1:its.toArray[j]=z1:=by simpa [j1'] using m1
        have n2:its2.toArray[j]=z2:=by simpa [j2'] using m3
        rw[n1,n2]
        have g3:ds.getD j .non=ds[j]:=by simp[l1]
        have g4:es.getD j .non=es[j]:=by simp[l2]
        rw[g3,g4]
        exact ih A.in1 _ _ w1 w2 z1 z2 (aV g1 e1) (aV g2 e2) f2 f4 m2 m4 in1
       rw[s1]at q
       rw[hsz,Nat.min_self,beq_self_eq_true,Bool.and_true,← hsz]
       exact SeqAt.EqAt.of_refs hab q
      ·have q:=SeqAt.RcAt.lists_lengths (A:=A) p' p2' (by rw[s1,s2];simpa using hsz) hu0
       rw[show (ds.length==es.length)=false by simpa using hsz,Bool.and_false]
       exact SeqAt.EqAt.of_refs hab q
    | tup es =>
     rw[Rep]at h'
     obtain⟨b,us,rfl,k1,k2⟩:=h'
     cases ry
     obtain⟨its2,r2,p2,_⟩:=I.tuple (by rw[hK];exact k1.mono z:SqT X.K H b us)
     simp only[eqD]
     exact SeqAt.EqAt.list_tuple p' (show s.heap.IsTuple b its2.toArray from p2) hu0
    | exc k=>simp[good]at g2
    | fn k=>simp[good]at g2
    | _=>rw[Rep]at h';subst h';simp only[eqD];first | (cases ry;first | exact SeqAt.EqAt.list_none p' hu0 | exact SeqAt.EqAt.list_bool _ p' hu0) | (obtain⟨t,rfl⟩:=ry;first | exact SeqAt.EqAt.list_int _ _ p' hu0 | exact SeqAt.EqAt.list_str _ _ p' hu0)
   | exc k=>simp[good]at g1
   | fn k=>simp[good]at g1
   | _=>simp[flatD]at f1
end
end FF
end
noncomputable section
namespace FF
open PySem PySem.Spec PyProof.Rows L2
theorem objThere {P:Program}{w:World}{H:Hp}{h:Heap}{a:Addr}{o:HO}(x:ObjOk P w H h a o):∃ ob,h.get? a=some ob:=by
 cases o with
 | lst xs=>obtain⟨_,_,_,_,e⟩:=x;exact⟨_,e⟩
 | tup xs=>obtain⟨_,_,_,o,e,_⟩:=x;exact⟨o,e⟩
 | dK kvs=>obtain⟨_,_,_,_,o,_,_,e,_⟩:=x;exact⟨o,e⟩
 | dT kvs=>obtain⟨_,_,_,_,o,_,_,e,_⟩:=x;exact⟨o,e⟩
 | set S n=>obtain⟨o,_,_,_,e,_⟩:=x;exact⟨o,e⟩
 | ins C dx fs=>obtain⟨_,_,_,e,_⟩:=x;exact⟨_,e⟩
 | own y=>exact x
 | xd fs=>obtain⟨_,⟨o,_,_,e,_⟩,_⟩:=x;exact⟨o,e⟩
 | rng lo hi=>obtain⟨_,_,_,e⟩:=x;exact⟨_,e⟩
 | frz ob u=>obtain⟨e,_⟩:=x;exact⟨_,e⟩
 | tbl ps=>exact⟨_,(show h.get? a=some _ from x)⟩
 | met f y=>exact⟨_,(show h.get? a=some _ from x)⟩
 | ext φ=>obtain⟨_,e,_⟩:=x;exact e
def Cov (B:Heap)(h h':Heap)(H':Hp)(l:List Env):Prop:=∀ b o,h'.get? b=some o→(H' b≠none∨∃ o',h.get? b=some o')→b∉frs l→B.get? b=some o
def CXE (P:Program)(w:World):CXT:=fun outer H s E e s' =>
 ∃ (ea C t:Addr) (H':Hp) (B:Heap),e=.ref ea∧s'.os=s.os∧AllBare s'.gens∧Un (frs outer) [] H H' s.heap s'.heap∧HOk P w H' s'.heap ∧
  Heap.FlyingW B outer ea (.ref C) (.ref t) s'.heap∧H' ea=none∧Cov B s.heap s'.heap H' outer∧E (.ref C) none H'
section
variable {X:Cx}{pins:List (Addr×Obj)}{σ:St}{H H':Hp}{s s':Shared}{B:Heap}
theorem xP {h2:Heap}{sc:Shared}(J:Inv X pins σ H' s')(I:∃ σ0 H0 pl,Inv X pl σ0 H0 sc)(hp:∀ p∈X.pn++pins,∃ o,sc.heap.get? p.1=some o)(hl:∀ o,s'.heap.get? X.env.locals=some o→∃ o',sc.heap.get? X.env.locals=some o')
  (cov:Cov B sc.heap s'.heap H' X.stack) (hB:B.StaysIn h2) (up:s'.heap.UpToSlots h2):Inv X pins σ H' { s' with heap:=h2 }:=by
 obtain⟨σ0,H0,pl,I0⟩:=I
 have ins:∀ b o,X.s₀.heap.get? b=some o→b∉X.ex→∃ o',sc.heap.get? b=some o':=fun b o e hx=>I0.base.there b o e hx
 have nloc:∀ b o,X.s₀.heap.get? b=some o→b≠X.env.locals:=fun b o e=>Nat.ne_of_lt (Nat.lt_of_lt_of_le (Heap.lt_size e) J.ok.above)
 have nstk:∀ b,b≠X.env.locals→b∉X.fs→b∉frs X.stack:=fun b h1 h2 z=>(List.mem_cons.mp (J.stkSub b z)).elim h1 h2
 have trk:∀ b o,s'.heap.get? b=some o→H' b≠none→h2.get? b=some o:=fun b o e ht=>hB b o (cov b o e (.inl ht) fun z=>ht (J.stkFree b z))
 have nf:∀ b∈X.fs,∀ o,s'.heap.get? b=some o→∀ vs,o.data≠.fields vs:=fun b hb o e=>by
  obtain⟨_,o',e',d⟩:=J.funs.mem hb
  rw[e]at e';cases e';exact d
 refine⟨J.ok,J.os,J.bare,⟨fun b o e n hb hx=>?_,fun b o e n hb hx=>?_,J.base.free,fun b o e hx=>?_,J.base.tups,J.base.frzs,J.base.tbls⟩,?_,fun x c e=>?_,J.free,J.freeC,fun p hpp=>?_,fun b u e=>?_,J.len⟩
 ·have e1:=J.base.keep b o e n hb hx
  exact hB b o (cov b o e1 (.inr (ins b o e hx)) (nstk b (nloc b o e) hb))
 ·obtain⟨sl,e1⟩:=J.base.slot b o e n hb hx
  obtain⟨sl',e2⟩:=up b _ e1 (nf b hb _ e1)
  exact⟨sl',e2⟩
 ·obtain⟨o',e1⟩:=J.base.there b o e hx
  by_cases hb:b∈X.fs
  ·obtain⟨sl',e2⟩:=up b _ e1 (nf b hb _ e1)
   exact⟨_,e2⟩
  ·exact⟨o',hB b o' (cov b o' e1 (.inr (ins b o e hx)) (nstk b (nloc b o e) hb))⟩
 ·obtain⟨m,hn,hv⟩:=J.loc
  refine⟨m,up.ns hn,fun i x v h1 h2 h3=>?_⟩
  obtain⟨u,r,l⟩:=hv i x v h1 h2 h3
  refine⟨u,r,?_⟩
  rcases l with l | ⟨k,c,e,⟨o,ho,hd⟩⟩
  ·exact .inl l
  ·obtain⟨sl,e2⟩:=up c o ho fun vs q=>by rw[hd]at q;cases q
   exact .inr ⟨k,c,e,⟨_,e2,hd⟩⟩
 ·obtain⟨v,o,ho,hd⟩:=J.cell x c e
  obtain⟨sl,e2⟩:=up c o ho fun vs q=>by rw[hd]at q;cases q
  exact⟨v,_,e2,hd⟩
 ·obtain⟨e,n,ne,nf',d⟩:=J.pin p hpp
  exact⟨hB _ _ (cov p.1 p.2 e (.inr (hp p hpp)) (nstk _ ne nf')),n,ne,nf',d⟩
 ·refine(J.hok b u e).stay (fun c v hc q=>trk c v q ?_) (fun _ q=>q) fun _ _ q=>q
  rcases hc with z | z
  ·subst z;rw[e];simp
  ·rw[z];simp
end
section
variable {P:Program}{w:World}{K:PySem.W.Frag}{mg:Str→Option Value}{base:Heap}{N:List Str}{qual:Str}{scope:Scope}{f:Addr}{cd:Value}{A:Around}{outer:List Env}{s0:Shared}{H0:Hp}{E:XK}
abbrev bodyX (P:Program)(w:World)(K:PySem.W.Frag)(mg:Str→Option Value)(base:Heap)(N:List Str)(qual:Str)(scope:Scope)(f:Addr)(cd:Value)(A:Around)(outer:List Env)(s0:Shared)(H0:Hp)(E:XK):Cx :=
 cxOf (CXE P w) P w K mg base N qual scope f cd A outer s0 H0 E
theorem sL {pins:List (Addr×Obj)}{σ:St}{H':Hp}{s':Shared}{B h2:Heap}{ea C t:Addr}(J:Inv (bodyX P w K mg base N qual scope f cd A outer s0 H0 E) pins σ H' s')
  (cov:Cov B s0.heap s'.heap H' (envOfC qual scope s0.heap.objs.size f cd::outer)) (up:s'.heap.UpToSlots h2) (fl:Heap.FlyingW B outer ea (.ref C) (.ref t) h2) (hn:H' ea=none) (hE:E (.ref C) none H') :
  CXE P w outer H0 s0 E (.ref ea) { s' with heap:=h2 }:=by
 have hB:=fl.1
 have nloc:∀ b o,s0.heap.get? b=some o→b≠s0.heap.objs.size:=fun b o e=>Nat.ne_of_lt (Heap.lt_size e)
 have nstk:∀ b,b≠s0.heap.objs.size→b∉frs outer→b∉frs (envOfC qual scope s0.heap.objs.size f cd::outer):=fun b h1 h2 z=>(List.mem_cons.mp (J.stkSub b z)).elim h1 h2
 have trk:∀ b o,s'.heap.get? b=some o→H' b≠none→B.get? b=some o:=fun b o e ht=>cov b o e (.inl ht) fun z=>ht (J.stkFree b z)
 have noe:∀ b:Addr,b∉([]:List Addr):=fun _ z=>nomatch z
 have nf:∀ b∈frs outer,∀ o,s'.heap.get? b=some o→∀ vs,o.data≠.fields vs:=fun b hb o e=>by
  obtain⟨_,o',e',d⟩:=J.funs.mem hb
  rw[e]at e';cases e';exact d
 have thr:∀ b o,s0.heap.get? b=some o→∃ o',s'.heap.get? b=some o'∧(b∉frs outer→B.get? b=some o'):=fun b o e=>by
  obtain⟨o',e1⟩:=J.base.there b o e (noe b)
  exact⟨o',e1,fun hb=>cov b o' e1 (.inr ⟨o,e⟩) (nstk b (nloc b o e) hb)⟩
 refine⟨ea,C,t,H',B,rfl,J.os,J.bare,⟨fun b o e n hb hx=>?_,fun b o e n hb hx=>?_,J.base.free,fun b o e hx=>?_,J.base.tups,J.base.frzs,J.base.tbls⟩,fun b u e=>?_,fl,hn,fun b o e hc hb=>?_,hE⟩
 ·have e1:=J.base.keep b o e n hb hx
  exact hB b o (cov b o e1 (.inr ⟨o,e⟩) (nstk b (nloc b o e) hb))
 ·obtain⟨sl,e1⟩:=J.base.slot b o e n hb hx
  obtain⟨sl',e2⟩:=up b _ e1 (nf b hb _ e1)
  exact⟨sl',e2⟩
 ·obtain⟨o',e1,e2⟩:=thr b o e
  by_cases hb:b∈frs outer
  ·obtain⟨sl',e3⟩:=up b _ e1 (nf b hb _ e1)
   exact⟨_,e3⟩
  ·exact⟨o',hB b o' (e2 hb)⟩
 ·refine(J.hok b u e).stay (fun c v hc q=>hB c v (trk c v q ?_)) (fun _ q=>q) fun _ _ q=>q
  rcases hc with z | z
  ·subst z;rw[e];simp
  ·rw[z];simp
 ·have same:∀ o',s'.heap.get? b=some o'→B.get? b=some o'→B.get? b=some o:=fun o' _ q=>by
   have:=hB b o' q
   have e':h2.get? b=some o:=e
   rw[e']at this;cases this;exact q
  rcases hc with z | ⟨o',z⟩
  ·cases q:H' b with
   | none=>exact absurd q z
   | some u =>
    obtain⟨o',e1⟩:=objThere (J.hok b u q)
    exact same o' e1 (trk b o' e1 (by rw[q];simp))
  ·obtain⟨o'',e1,e2⟩:=thr b o' z
   exact same o'' e1 (e2 hb)
theorem ni:Passes (CXE P w) (bodyX P w K mg base N qual scope f cd A outer s0 H0 E) E:=by
 intro pins σ H s e s' I h
 obtain⟨ea,C,t,H',B,rfl,os,bare,un,hok,fl,hn,cov,hE⟩:=h
 have J:Inv (bodyX P w K mg base N qual scope f cd A outer s0 H0 E) pins σ H' s':=I.call' (ch:=[]) os un hok bare fun b z=>nomatch z
 refine wpAny_leaves_onW I.ok.frames rfl fl fun h2 fl2 up=>?_
 refine sL J (fun b o e hc hb=>cov b o e ?_ hb) up fl2 hn hE
 rcases hc with z | ⟨o',z⟩
 ·exact .inl z
 ·obtain⟨o'',z'⟩:=I.base.there b o' z (fun q=>nomatch q)
  exact .inr ⟨o'',z'⟩
theorem uc {pins:List (Addr×Obj)}{σ:St}{H:Hp}{s:Shared}{h1:Heap}{ea C:Addr}{args:List Value}(I:Inv (bodyX P w K mg base N qual scope f cd A outer s0 H0 E) pins σ H s)(hx:Heap.MadeExcOf s.heap h1 ea (.ref C) args)(hE:E (.ref C) none H) :
  (bodyX P w K mg base N qual scope f cd A outer s0 H0 E).xe (.ref ea) { s with heap:=h1 }:=by
 have hin:∀ env∈(envOfC qual scope s0.heap.objs.size f cd::outer),∀ a,env.frame=some a→a∈frs (envOfC qual scope s0.heap.objs.size f cd::outer):=fun env he a ha=>List.mem_filterMap.mpr ⟨env,he,ha⟩
 refine wpAny_leaves_madeW (s:={ s with heap:=h1 }) (base:=PySem.W.hideAll s.heap (frs (envOfC qual scope s0.heap.objs.size f cd::outer))) I.ok.frames rfl (fun b o q=>PySem.W.of_hideAll _ q) (PySem.W.funFrames_hide I.stack hin) hx fun h2 t fl _ _ up=>?_
 have hn:H ea=none:=by
  cases q:H ea with
  | none=>rfl
  | some u =>
   obtain⟨o,e⟩:=objThere (I.hok ea u q)
   rw[hx.new]at e;cases e
 exact sL (s':=s) I (fun b o e _ hb=>PySem.W.hideAll_get _ e hb) ((Heap.UpToSlots.of_keeps hx.keeps).trans up) fl hn hE
end
end FF
end
noncomputable section
namespace FF
open PySem PySem.Spec PyProof.Rows L2
def relabN (names:List (Str×NameKind))(env:Env):List (Str×NameKind) :=
 names.map fun (n,k)=>if (k==.free&&env.scope.kind==.function&&env.kindOf n==some .cell) then (n,.cell) else (n,k)
theorem k7 {env:Env}:∀ {names:List (Str×NameKind)} {x:Str},names.lookup x=some .free→(relabN names env).lookup x=some .cell∨(relabN names env).lookup x=some .free
 | [],_,h=>by simp at h
 | (n,k)::r,x,h=>by
  have ih:=@k7 env r x
  show List.lookup x ((if (k==NameKind.free&&env.scope.kind==.function&&env.kindOf n==some .cell)=true then (n,NameKind.cell) else (n,k))::relabN r env)=_∨List.lookup x ((if (k==NameKind.free&&env.scope.kind==.function&&env.kindOf n==some .cell)=true then (n,NameKind.cell) else (n,k))::relabN r env)=_
  cases hx:x==n with
  | true =>
   simp only[List.lookup_cons,hx]at h
   cases h
   split
   ·exact .inl (by simp[List.lookup_cons,hx])
   ·exact .inr (by simp[List.lookup_cons,hx])
  | false =>
   simp only[List.lookup_cons,hx]at h
   split<;>(simp only[List.lookup_cons,hx];exact ih h)
theorem k8 {env:Env}:∀ {names:List (Str×NameKind)} {x:Str},((relabN names env).lookup x=some .cell∨(relabN names env).lookup x=some .free)→∃ y∈names,y.1=x∧(y.2=.free∨y.2=.cell)
 | [],_,h=>by simp[relabN]at h
 | (n,k)::r,x,h=>by
  have ih:=@k8 env r x
  change List.lookup x ((if (k==NameKind.free&&env.scope.kind==.function&&env.kindOf n==some .cell)=true then (n,NameKind.cell) else (n,k))::relabN r env)=_∨List.lookup x ((if (k==NameKind.free&&env.scope.kind==.function&&env.kindOf n==some .cell)=true then (n,NameKind.cell) else (n,k))::relabN r env)=_ at h
  cases hx:x==n with
  | true =>
   have e:x=n:=eq_of_beq hx
   refine⟨(n,k),List.mem_cons_self,e.symm,?_⟩
   by_cases hq:(k==NameKind.free&&env.scope.kind==.function&&env.kindOf n==some .cell)=true
   ·simp only[Bool.and_eq_true,beq_iff_eq]at hq
    exact .inl hq.1.1
   ·rw[if_neg hq]at h
    simp only[List.lookup_cons,hx]at h
    rcases h with h | h
    ·cases h;exact .inr rfl
    ·cases h;exact .inl rfl
  | false =>
   have h':(relabN r env).lookup x=some .cell∨(relabN r env).lookup x=some .free:=by
    by_cases hq:(k==NameKind.free&&env.scope.kind==.function&&env.kindOf n==some .cell)=true
    ·rw[if_pos hq]at h;simpa only[List.lookup_cons,hx] using h
    ·rw[if_neg hq]at h;simpa only[List.lookup_cons,hx] using h
   obtain⟨y,hy,e⟩:=ih h'
   exact⟨y,List.mem_cons_of_mem _ hy,e⟩
theorem bH:∀ (names:List (Str×NameKind)) (n:Nat) (acc:List (Str×Addr)),cellsFrom n names acc=cellsFrom n names []++acc
 | [],_,_=>rfl
 | (name,kind)::r,n,acc=>by
  unfold cellsFrom
  split
  ·rw[bH r (n+1) ((name,n)::acc),bH r (n+1) [(name,n)],List.append_assoc];rfl
  ·exact bH r n acc
theorem jH:∀ (names:List (Str×NameKind)) (n:Nat) {x:Str} {c:Addr},(x,c)∈cellsFrom n names []→(x,NameKind.cell)∈names
 | [],_,_,_,h=>nomatch h
 | (name,kind)::r,n,x,c,h=>by
  unfold cellsFrom at h
  split at h
  ·rename_i hk
   rw[bH]at h
   rcases List.mem_append.mp h with h | h
   ·exact List.mem_cons_of_mem _ (jH r _ h)
   ·rw[List.mem_singleton]at h
    cases h
    rw[eq_of_beq hk];exact List.mem_cons_self
  ·exact List.mem_cons_of_mem _ (jH r _ h)
theorem jI:∀ (names:List (Str×NameKind)) (n:Nat) {x:Str},(x,NameKind.cell)∈names→∃ c,(cellsFrom n names []).lookup x=some c
 | [],_,_,h=>nomatch h
 | (name,kind)::r,n,x,h=>by
  by_cases hr:(x,NameKind.cell)∈r
  ·unfold cellsFrom
   split
   ·obtain⟨c,hc⟩:=jI r (n+1) hr
    rw[bH,List.lookup_append,hc];exact⟨c,rfl⟩
   ·exact jI r n hr
  ·rcases List.mem_cons.mp h with e | e
   ·cases e
    unfold cellsFrom
    rw[if_pos (by rfl),bH,List.lookup_append]
    cases (cellsFrom (n+1) r []).lookup name with
    | some c=>exact⟨c,rfl⟩
    | none=>exact⟨n,by simp[List.lookup_cons]⟩
   ·exact absurd e hr
structure CellsB (scope:Scope)(cl cl2:List (Str×Addr))(C:Addr)(h:Heap):Prop where
 old:∀ n c,cl2.lookup n=some c→(cl.lookup n=some c∧(n,NameKind.cell)∉scope.names)∨(C < c∧h.IsCell c none∧(n,NameKind.cell)∈scope.names)
 keep:∀ n,(n,NameKind.cell)∉scope.names→cl2.lookup n=cl.lookup n
 mine:∀ n,(n,NameKind.cell)∈scope.names→∃ c,cl2.lookup n=some c
 inj:∀ x y c,C < c→cl2.lookup x=some c→cl2.lookup y=some c→(x,NameKind.cell)∈scope.names→(y,NameKind.cell)∈scope.names→x=y
section
variable {M:Model}{A:Around}{E:Value→Shared→Prop}{s:Shared}
theorem oi {scope:Scope}{globals:Addr}{cl:List (Str×Addr)}{qual:Str}{env:Env}{Q:Env→Shared→Prop}
  (hQ:∀ h' cl2,h'.Ns s.heap.objs.size (fun _=>none)→(∀ b o,s.heap.get? b=some o→h'.get? b=some o)→CellsB scope cl cl2 s.heap.objs.size h'→Q (newEnv scope s.heap.objs.size globals cl2 qual none .none (some env) builtinsNs) { s with heap:=h' }) :
  wpAny M A (newFunctionEnv scope globals cl [] qual none .none (some env)) Q E s:=by
 simp only[newFunctionEnv,Option.isSome_some,if_true]
 refine wpAny_bind (wpAny_alloc ?_)
 refine wpAny_bind (wpAny_layCells _ (fun name kind cells=>by cases hkc:kind==NameKind.cell<;>simp[hkc]) _ _ _ _ ?_)
 have ok:=cellsFrom_ok scope.names (s.heap.push { cls:=.type "dict",data:=.dict #[] }) (s.heap.objs.size+1) [] ⟨fun _ _ hm=>(nomatch hm),List.Pairwise.nil⟩ (by rw[Heap.size_push];exact Nat.le_refl _)
 rw[Heap.size_push]at ok
 rw[show ({ s with heap:=s.heap.push { cls:=.type "dict",data:=.dict #[] } }:Shared).heap.objs.size=s.heap.objs.size+1 from Heap.size_push ..]
 simp only[List.forIn_nil]
 refine wpAny_bind (wpAny_pure (wpAny_pure ?_))
 refine hQ _ _ ((Heap.Ns.new s.heap (.type "dict")).keeps (pushCells_keeps _ _)) (fun b o e=>pushCells_keeps _ _ b o (Heap.get?_push_of_some _ e)) ?_
 have look:∀ n,(cellsFrom (s.heap.objs.size+1) scope.names cl).lookup n=((cellsFrom (s.heap.objs.size+1) scope.names []).lookup n).or (cl.lookup n):=fun n=>by rw[bH,List.lookup_append]
 have no:∀ n,(n,NameKind.cell)∉scope.names→(cellsFrom (s.heap.objs.size+1) scope.names []).lookup n=none:=fun n hn=>by
  cases e:(cellsFrom (s.heap.objs.size+1) scope.names []).lookup n with
  | none=>rfl
  | some c=>exact absurd (jH _ _ (PySem.mem_of_lookup e)) hn
 have keep:∀ n,(n,NameKind.cell)∉scope.names→(cellsFrom (s.heap.objs.size+1) scope.names cl).lookup n=cl.lookup n:=fun n hn=>by rw[look,no n hn];rfl
 have new:∀ n,(n,NameKind.cell)∈scope.names→∃ c,(cellsFrom (s.heap.objs.size+1) scope.names []).lookup n=some c∧(cellsFrom (s.heap.objs.size+1) scope.names cl).lookup n=some c:=fun n hn=>by
  obtain⟨c,hc⟩:=jI scope.names (s.heap.objs.size+1) hn
  exact⟨c,hc,by rw[look,hc];rfl⟩
 refine⟨fun n c e=>?_,keep,fun n hn=>?_,fun x y c _ ex ey hx hy=>?_⟩
 ·by_cases hn:(n,NameKind.cell)∈scope.names
  ·obtain⟨c',h1,h2⟩:=new n hn
   rw[e]at h2;cases h2
   have:=ok.empty n c (PySem.mem_of_lookup h1)
   exact .inr ⟨this.2,this.1,hn⟩
  ·rw[keep n hn]at e
   exact .inl ⟨e,hn⟩
 ·obtain⟨c,_,h2⟩:=new n hn
  exact⟨c,h2⟩
 ·obtain⟨c1,h1,h2⟩:=new x hx
  obtain⟨c2,h3,h4⟩:=new y hy
  rw[ex]at h2;cases h2
  rw[ey]at h4;cases h4
  exact name_of_addr ok.apart (PySem.mem_of_lookup h1) (PySem.mem_of_lookup h3)
end
theorem gj {names:List (Str×NameKind)}{x:Str}{k:NameKind}(h:names.lookup x=some k):(x,k)∈names:=PySem.mem_of_lookup h
def blk (X:Cx)(scope:Scope)(cl:List (Str×Addr))(C:Addr)(s:Shared)(H:Hp)(fp:List Addr)(N:List Str):Cx where
 prog:=X.prog
 w:=X.w
 K:=X.K
 mg:=X.mg
 base:=X.base
 A:=X.A
 N:=N
 s₀:=s
 H₀:=H
 env:=compEnvC scope cl C X.env
 outer:=X.stack
 stack:=X.stack
 ex:=fp
 fn:=fun x=>scope.names.lookup x==some .cell
 calm:=true
 pn:=[]
 xe:=fun _ _=>False
def startB (own:Nat)(cap:List Nat)(σ:St):St:=List.replicate own none++cap.map fun i=>(σ[i]?).getD none
structure BlkOk (XN:List Str)(osc scope:Scope)(N:List Str)(own:Nat)(cap:List Nat):Prop where
 kind:scope.kind=.function
 ncell:∀ y∈scope.names,y.2=.cell→scope.names.lookup y.1=some .cell
 nfree:∀ y∈scope.names,y.2=.free→scope.names.lookup y.1=some .free
 nloc:∀ y∈scope.names,y.2=.local→scope.names.lookup y.1=some .local
 free:∀ y∈scope.names,y.2=.free→osc.names.lookup y.1=some .cell∨osc.names.lookup y.1=some .free
 len:N.length=own+cap.length
 capN:∀ j i,cap[j]?=some i→∃ x,N[own+j]?=some x∧XN[i]?=some x∧scope.names.lookup x=some .free
section
variable {X:Cx}{pins:List (Addr×Obj)}{σ:St}{H:Hp}{s:Shared}{scope:Scope}{N:List Str}{own:Nat}{cap:List Nat}{cl:List (Str×Addr)}{fp:List Addr}
theorem xQ {cl2:List (Str×Addr)}(b:BlkOk X.N X.env.scope scope N own cap)(hc:X.calm=true)(I:Inv X pins σ H s)(hf:∀ b∈fp,FpOk X pins H b)(hfo:∀ b∈fp,b < s.heap.objs.size)(c1:∀ n c,cl.lookup n=some c→X.env.cells.lookup n=some c)
  (c2:∀ y∈scope.names,y.2=.free→∃ c,cl.lookup y.1=some c) {h':Heap} {t':Nat} {m:Str→Option Value} (hns:h'.Ns s.heap.objs.size m) (hk:∀ b o,s.heap.get? b=some o→h'.get? b=some o) (cb:CellsB scope cl cl2 s.heap.objs.size h') :
  Inv (blk X scope cl2 s.heap.objs.size s H fp N) [] (startB own cap σ) H { s with heap:=h',toks:=t' }:=by
 have hC:H s.heap.objs.size=none:=I.hok.fresh (Nat.le_refl _)
 have lt:∀ n c,cl.lookup n=some c→c < s.heap.objs.size:=fun n c e=>by obtain⟨v,hv⟩:=I.cell n c (c1 n c e);exact hv.lt
 have inj:∀ x y c,cl2.lookup x=some c→cl2.lookup y=some c→x=y:=fun x y c h1 h2=>by
  rcases cb.old x c h1 with ⟨a1,_⟩ | ⟨a1,_,a2⟩<;>rcases cb.old y c h2 with ⟨b1,_⟩ | ⟨b1,_,b2⟩
  ·exact I.ok.inj x y c (c1 x c a1) (c1 y c b1)
  ·exact absurd (lt x c a1) (Nat.lt_asymm b1)
  ·exact absurd (lt y c b1) (Nat.lt_asymm a1)
  ·exact cb.inj x y c a1 h1 h2 a2 b2
 refine⟨⟨I.ok.mod,b.kind,I.ok.glob,I.ok.blt,Nat.le_refl _,inj,fun x hx=>?_,fun x c hx e=>?_,fun _=>I.ok.hd hc,I.ok.frames,.inl rfl,fun b' hb=>?_,I.bs,Nat.le_trans I.ok.bsz I.sz,fun b' o e hb=>?_,fun b' hb hm=>?_,I.stack,I.stkFree⟩,rfl,I.bare,Un.kept hk,⟨m,hns,fun i x v h1 h2 h3=>?_⟩,fun x c e=>?_,hC,fun x c e=>?_,fun p hp=>(nomatch hp),I.hok.kept hk,?_⟩
 ·obtain⟨y,hy,e1,e2⟩:=k8 (env:=X.env) hx
  rcases e2 with e2 | e2
  ·obtain⟨c,e⟩:=c2 y hy e2
   have hn:(y.1,NameKind.cell)∉scope.names:=fun z=>by
    have q1:=b.nfree y hy e2
    have q2:=b.ncell _ z rfl
    rw[q1]at q2;cases q2
   exact⟨c,by rw[← e1];show cl2.lookup y.1=some c;rw[cb.keep _ hn];exact e⟩
  ·obtain⟨c,e⟩:=cb.mine y.1 (by rw[← e2];exact hy)
   exact⟨c,by rw[← e1];exact e⟩
 ·rcases cb.old x c e with ⟨a1,a2⟩ | ⟨a1,_,_⟩
  ·have hx':(scope.names.lookup x==some NameKind.cell)=true:=hx
   exact absurd (gj (eq_of_beq hx')) a2
  ·exact Nat.le_of_lt a1
 ·refine⟨Nat.ne_of_lt (hfo b' hb),fun x c e=>?_⟩
  rcases cb.old x c e with ⟨a1,_⟩ | ⟨a1,_,_⟩
  ·exact(hf b' hb).2.2.2.2.1 x c (c1 x c a1)
  ·exact fun z=>Nat.lt_asymm a1 (z ▸ hfo b' hb)
 ·rcases(hf b' hb).2.2.2.1 with z | z
  ·exact I.ok.noex b' o e z
  ·have:=Heap.lt_size (I.ok.bs b' o e).1
   exact absurd (Nat.lt_of_lt_of_le this z) (Nat.lt_irrefl _)
 ·rcases List.mem_cons.mp (I.stkSub b' hm) with z | z
  ·exact(hf b' hb).2.1 z
  ·exact(hf b' hb).2.2.1 z
 ·
  unfold startB at h2
  by_cases hi:i < own
  ·rw[List.getElem?_append_left (by simpa using hi),List.getElem?_replicate]at h2
   split at h2<;>cases h2
  ·rw[List.getElem?_append_right (by simpa using hi),List.length_replicate,List.getElem?_map]at h2
   cases e:cap[i - own]? with
   | none=>rw[e]at h2;cases h2
   | some k =>
    rw[e]at h2
    obtain⟨x',f1,f2,f3⟩:=b.capN _ _ e
    rw[show own+(i - own)=i by omega]at f1
    have h1':N[i]?=some x:=h1
    rw[h1']at f1;cases f1
    have h2':σ[k]?=some (some v):=by
     cases q:σ[k]? with
     | none=>simp only[Option.map_some,q,Option.getD_none,Option.some.injEq]at h2;cases h2
     | some o=>simp only[Option.map_some,q,Option.getD_some,Option.some.injEq]at h2;rw[h2]
    obtain⟨m0,_,hl⟩:=I.loc
    have kf:=b.free (x,.free) (gj f3) rfl
    obtain⟨u,r,l⟩:=hl k x v f2 h2' (kf.elim (fun z=>.inr (.inl z)) fun z=>.inr (.inr z))
    refine⟨u,r,?_⟩
    rcases l with ⟨z,_⟩ | ⟨_,c,e1,e2⟩
    ·have z':X.env.scope.names.lookup x=some .local:=z
     rcases kf with y | y
     ·have y':X.env.scope.names.lookup x=some .cell:=y
      rw[z']at y';cases y'
     ·have y':X.env.scope.names.lookup x=some .free:=y
      rw[z']at y';cases y'
    ·obtain⟨c',g1⟩:=c2 (x,.free) (gj f3) rfl
     have g2:=c1 x c' g1
     rw[e1]at g2;cases g2
     have hn:(x,NameKind.cell)∉scope.names:=fun z=>by
      have q2:=b.ncell _ z rfl
      have q2':scope.names.lookup x=some .cell:=q2
      rw[f3]at q2';cases q2'
     exact .inr ⟨k7 (env:=X.env) f3,c,by show cl2.lookup x=some c;rw[cb.keep _ hn];exact g1,by obtain⟨o,ho,hd⟩:=e2;exact⟨o,hk _ _ ho,hd⟩⟩
 ·rcases cb.old x c e with ⟨a1,_⟩ | ⟨_,a2,_⟩
  ·obtain⟨v,o,ho,hd⟩:=I.cell x c (c1 x c a1)
   exact⟨v,o,hk _ _ ho,hd⟩
  ·exact⟨none,a2⟩
 ·rcases cb.old x c e with ⟨a1,_⟩ | ⟨a1,_,_⟩
  ·exact I.freeC x c (c1 x c a1)
  ·exact I.hok.fresh (Nat.le_of_lt a1)
 ·unfold startB
  show _=N.length
  rw[List.length_append,List.length_replicate,List.length_map,b.len]
theorem vW {s3 s':Shared}{H3 H':Hp}{σ':St}{pl:List (Addr×Obj)}{D C:Addr}(I:Inv X pins σ H s)(hf:∀ b∈fp,FpOk X pins H b)(hD:D=s.heap.objs.size)(h3:s3={ s with heap:=s.heap.push { cls:=.type "list",data:=.seq #[] } })(hH:H3=upd H D (.lst []))(hC:C=s3.heap.objs.size)
  (J:Inv (blk X scope cl C s3 H3 fp N) pl σ' H' s'):Inv X pins σ H' s'∧FpOk X pins H' C∧∃ m,s'.heap.Ns C m:=by
 subst h3
 have hs:s.heap.objs.size≤C:=by rw[hC];show _≤(s.heap.push _).objs.size;rw[Heap.size_push];exact Nat.le_succ _
 have u1:Un (frs X.stack) fp H H3 s.heap (s.heap.push { cls:=.type "list",data:=.seq #[] }):=by
  rw[hH,hD]
  exact Un.laid (fun b u e=>Heap.get?_push_of_some _ e) (Nat.le_refl _) (I.hok.fresh (Nat.le_refl _))
 have u2:Un (frs X.stack) fp H3 H' (s.heap.push { cls:=.type "list",data:=.seq #[] }) s'.heap:=J.base
 have os:s'.os=s.os:=J.os
 refine⟨I.call' (ch:=fp) os (u1.trans u2) J.hok J.bare fun b hb=>?_,I.fpOk hs J.free,?_⟩
 ·obtain⟨_,f1,f2,f3,f4,f5⟩:=hf b hb
  exact⟨f3,f1,f4,f5⟩
 ·obtain⟨m,hn,_⟩:=J.loc
  exact⟨m,hn⟩
end
def tTests (ifs:List Expr)(t:TT):TT:=match ifs with
 | []=>fun _ H Q=>Q true H
 | _::_=>t
theorem rl {ifs:List Expr}{t:TT}{σ:St}{H:Hp}{Q:Bool→Hp→Prop}(e:ifs=[])(h:tTests ifs t σ H Q):Q true H:=by subst e;exact h
theorem rm {ifs:List Expr}{t:TT}{σ:St}{H:Hp}{Q:Bool→Hp→Prop}{c:Expr}(e:ifs=[c])(h:tTests ifs t σ H Q):t σ H Q:=by subst e;exact h
theorem ue {M:Model}{A:Around}{ifs:List Expr}{env:Env}{Q:Bool→Shared→Prop}{E:Value→Shared→Prop}{s:Shared}(hifs:ifs.length≤1)(h0:ifs=[]→Q true s)(h1:∀ c,ifs=[c]→wpAny M A (isTrue c env (eval c env)) Q E s):wpAny M A (tests ifs env) Q E s:=by
 match ifs,hifs,h0,h1 with
 | [],_,h0,_=>exact wpAny_pure (h0 rfl)
 | [c],_,_,h1=>exact h1 c rfl
def BlkW (sz:Nat)(J:It)(g:TG)(tc:TT)(te:TE)(D:Addr)(Fin:Hp→List V→Prop)(W:Nat→Nat→St→Hp→List V→Prop):Prop :=
 ∀ i m σ H ys,W i m σ H ys→H D=some (.lst ys)∧((J.stop i H∧Fin H ys)∨(J.go i H∧∀ x H',J.yld i H x H'→g x σ H' fun σ2 H2=>tc σ2 H2 fun ok H3 =>
  if ok=true then te σ2 H3 fun y H4=>H4 D=some (.lst ys)∧ys.length < sz∧∃ m',m' < m∧W (i+1) m' σ2 (upd H4 D (.lst (ys++[y]))) (ys++[y])
  else ∃ m',m' < m∧W (i+1) m' σ2 H3 ys))
section
variable {X:Cx}{elt tg iter:Expr}{ifs:List Expr}{scope:Scope}{N:List Str}{own:Nat}{cap:List Nat}{pos:Pos}{wi:TI}{g:TG}{tc:TT}{te:TE}
set_option maxHeartbeats 4000000 in
theorem pi {pins:List (Addr×Obj)}{σ:St}{H:Hp}{s:Shared}{it:Addr}{fp:List Addr}{tn:Nat→Heap→Prop}{J:It}{cl:List (Str×Addr)}{E:Value→Shared→Prop}{RR:Value→Addr→Result→Shared→Prop}{Fin:Addr→Hp→List V→Prop}
  (b:BlkOk X.N X.env.scope scope N own cap) (hc:X.calm=true) (hifs:ifs.length≤1)
  (hg:∀ cl C s H fp,PG (blk X scope cl C s H fp N) tg g) (ht:∀ c,ifs=[c]→∀ cl C s H fp,PT (blk X scope cl C s H fp N) c tc) (he:∀ cl C s H fp,PE (blk X scope cl C s H fp N) elt te)
  (hclos:closureFor scope X.env=pure cl) (c1:∀ n c,cl.lookup n=some c→X.env.cells.lookup n=some c) (c2:∀ y∈scope.names,y.2=.free→∃ c,cl.lookup y.1=some c)
  (I:Inv X pins σ H s) (T:Turn X.prog X.w X.K tg J fp it tn) (st:tn 0 s.heap) (hf:∀ b∈fp,FpOk X pins H b)
  (hW:∀ D,H D=none→∃ W,BlkW sizeLine J g (tTests ifs tc) te D (Fin D) W∧∃ m,W 0 m (startB own cap σ) (upd H D (.lst [])) [])
  (fin:∀ D C s' H' ys,Inv X pins σ H' s'→FpOk X pins H' C→(∃ m,s'.heap.Ns C m)→H' D=some (.lst ys)→Fin D H' ys→RR (.ref D) C (.ok .next) s') :
  wpAny (model X.prog X.w) X.A (newList []) (fun acc s3=>wpAny (model X.prog X.w) X.A (newFunctionEnv scope X.env.globals cl [] X.env.qual none .none (some X.env)) (fun cenv s4 =>
   codeAny (model X.prog X.w) X.A (.compStart (.ListComp elt [⟨tg,iter,ifs,0⟩] scope pos) 0 (.ref it) acc { cenv with scope:=relabel scope X.env }) (RR acc cenv.locals) s4) E s3) E s:=by
 have hfo:∀ b∈fp,b < s.heap.objs.size:=fun b hb=>by
  obtain⟨o,e,_⟩:=T.obj 0 _ st b hb
  exact Heap.lt_size e
 have hD:H s.heap.objs.size=none:=I.hok.fresh (Nat.le_refl _)
 obtain⟨W,hturn,m0,w0⟩:=hW _ hD
 refine wpAny_newObj_type (oi fun h1 cl2 hns kk cb=>?_)
 have I3:Inv X pins σ (upd H s.heap.objs.size (.lst [])) { s with heap:=s.heap.push { cls:=.type "list",data:=.seq #[] } }:=I.lnew (t':=s.toks) (its:=[]) .nil (Nat.zero_le _)
 have hfp3:∀ b∈fp,FpOk X pins (upd H s.heap.objs.size (.lst [])) b:=fun b hb=>⟨by rw[av (Nat.ne_of_lt (hfo b hb))];exact(hf b hb).1,(hf b hb).2⟩
 have st1:tn 0 h1:=T.keep 0 _ _ st fun b hb o e=>kk b o (Heap.get?_push_of_some _ e)
 generalize hX:blk X scope cl2 (s.heap.push { cls:=.type "list",data:=.seq #[] }).objs.size { s with heap:=s.heap.push { cls:=.type "list",data:=.seq #[] } } (upd H s.heap.objs.size (.lst [])) fp N=X'
 have I4:Inv X' [] (startB own cap σ) (upd H s.heap.objs.size (.lst [])) { s with heap:=h1 }:=by
  rw[← hX]
  exact xQ b hc I3 hfp3 (fun b hb=>Nat.lt_of_lt_of_le (hfo b hb) (by show _≤(s.heap.push _).objs.size;rw[Heap.size_push];exact Nat.le_succ _)) c1 c2 hns kk cb
 have eP:X'.prog=X.prog:=by rw[← hX];rfl
 have ew:X'.w=X.w:=by rw[← hX];rfl
 have eK:X'.K=X.K:=by rw[← hX];rfl
 have eA:X'.A=X.A:=by rw[← hX];rfl
 have ec:X'.calm=true:=by rw[← hX];rfl
 have ee:X'.env=compEnvC scope cl2 (s.heap.push { cls:=.type "list",data:=.seq #[] }).objs.size X.env:=by rw[← hX];rfl
 have ex:X'.xe=fun _ _=>False:=by rw[← hX];rfl
 have epn:X'.pn=[]:=by rw[← hX];rfl
 have eex:X'.ex=fp:=by rw[← hX];rfl
 have pg:PG X' tg g:=by rw[← hX];exact hg _ _ _ _ _
 have pe:PE X' elt te:=by rw[← hX];exact he _ _ _ _ _
 have pt:∀ c,ifs=[c]→PT X' c tc:=fun c q=>by rw[← hX];exact ht c q _ _ _ _ _
 have fpB:∀ {H':Hp},(∀ b∈fp,H' b=none)→∀ {s'':Shared} {σ':St},Inv X' [] σ' H' s''→∀ b∈fp,FpOk X' [] H' b:=fun {H'} hn {s'' σ'} Iv b hb =>
  ⟨hn b hb,(Iv.ok.exf b (by rw[eex];exact hb)).1,Iv.ok.exfs b (by rw[eex];exact hb),.inl (by rw[eex];exact hb),(Iv.ok.exf b (by rw[eex];exact hb)).2,fun p hp=>by rw[epn]at hp;exact(nomatch hp)⟩
 have loop:codeAny (model X.prog X.w) X.A (.compLoop (.ListComp elt [⟨tg,iter,ifs,0⟩] scope pos) 0 (.ref it) (.ref s.heap.objs.size) (compEnvC scope cl2 (s.heap.push { cls:=.type "list",data:=.seq #[] }).objs.size X.env))
   (RR (.ref s.heap.objs.size) (s.heap.push { cls:=.type "list",data:=.seq #[] }).objs.size) { s with heap:=h1 }:=by
  refine t6 hifs (fun n s'=>∃ i σ' H' ys,Inv X' [] σ' H' s'∧tn i s'.heap∧(∀ b∈fp,H' b=none)∧W i n σ' H' ys) (fun n s5 ⟨i,σ5,H5,ys,I5,st5,fr5,w5⟩=>?_) m0
   ⟨0,startB own cap σ,_,[],I4,st1,fun b hb=>(hfp3 b hb).1,w0⟩
  obtain⟨hDy,hgo⟩:=hturn i n σ5 H5 ys w5
  have hs5:=fpB fr5 I5
  rcases hgo with ⟨stop,hfin⟩ | ⟨go,step⟩
  ·have q:=T.done X' eP ew eK ec i [] s5 σ5 H5 (fun _ _=>False) I5 hs5 st5 stop
   rw[eA]at q
   refine wpAny_mono q (fun r s6 ⟨hr,I6⟩=>?_) fun _ _ z=>z
   subst hr
   rw[← hX]at I6
   obtain⟨J1,J2,J3⟩:=vW I hf rfl rfl rfl rfl I6
   exact fin _ _ s6 H5 ys J1 J2 J3 hDy hfin
  ·have q:=T.item X' eP ew eK ec i [] s5 σ5 H5 (fun _ _=>False) I5 hs5 st5 go
   rw[eA]at q
   refine wpAny_mono q (fun r s6 ⟨u,hr,h6⟩=>?_) fun _ _ z=>z
   subst hr
   refine wpAny_mono h6 (fun _ s7 ⟨x,H7,I7,r7,y7,st7,fr7⟩=>?_) fun _ _ z=>z
   have I7':=I7.pinned (fpB fr7 I7) (T.obj _ _ st7)
   rw[List.nil_append]at I7'
   have qg:=pg _ s7 σ5 H7 x u _ I7' r7 (step x H7 y7)
   rw[eP,ew,eA,ee,ex]at qg
   refine wpAny_mono qg (fun _ s8 ⟨σ8,H8,I8,q8⟩=>?_) fun _ _ z=>z
   have again:∀ {s9:Shared} {H9:Hp} {zs:List V},Inv X' (pinsAt fp s7.heap) σ8 H9 s9→(∃ m',m' < n∧W (i+1) m' σ8 H9 zs) →
     ∃ m,m < n∧∃ i σ' H' ys,Inv X' [] σ' H' s9∧tn i s9.heap∧(∀ b∈fp,H' b=none)∧W i m σ' H' ys:=fun {s9 H9 zs} I9 ⟨m',hm,w9⟩=>by
    have I9':Inv X' ([]++pinsAt fp s7.heap) σ8 H9 s9:=by rw[List.nil_append];exact I9
    refine⟨m',hm,i+1,σ8,H9,zs,I9'.unpinned,T.keep _ _ _ st7 fun b hb o e=>(I9.pin (b,o) (List.mem_append_right _ (fh hb e))).1,fun b hb=>?_,w9⟩
    obtain⟨o,e,d⟩:=T.obj _ _ st7 b hb
    exact(I9.pin (b,o) (List.mem_append_right _ (fh hb e))).2.1
   have body:∀ (ok:Bool) (s9:Shared),(∃ H9,Inv X' (pinsAt fp s7.heap) σ8 H9 s9∧(if ok=true then te σ8 H9 fun y H4=>H4 s.heap.objs.size=some (.lst ys)∧ys.length < sizeLine∧∃ m',m' < n∧W (i+1) m' σ8 (upd H4 s.heap.objs.size (.lst (ys++[y]))) (ys++[y]) else ∃ m',m' < n∧W (i+1) m' σ8 H9 ys)) →
     if ok=true then wpAny (model X.prog X.w) X.A (eval elt (compEnvC scope cl2 (s.heap.push { cls:=.type "list",data:=.seq #[] }).objs.size X.env)) (fun x s5=>wpAny (model X.prog X.w) X.A (call (.builtin "list.append") [.ref s.heap.objs.size,x]) (fun _ s6=>∃ m,m < n∧∃ i σ' H' ys,Inv X' [] σ' H' s6∧tn i s6.heap∧(∀ b∈fp,H' b=none)∧W i m σ' H' ys) (fun _ _=>False) s5) (fun _ _=>False) s9
     else ∃ m,m < n∧∃ i σ' H' ys,Inv X' [] σ' H' s9∧tn i s9.heap∧(∀ b∈fp,H' b=none)∧W i m σ' H' ys:=by
    intro ok s9 ⟨H9,I9,h9⟩
    cases ok with
    | false=>exact again I9 h9
    | true =>
     have qe:=pe _ s9 σ8 H9 _ I9 h9
     rw[eP,ew,eA,ee,ex]at qe
     refine wpAny_mono qe (fun u s10 ⟨y,H10,I10,r10,hD10,hlt,m',hm,w10⟩=>?_) fun _ _ z=>z
     have qa:=ng (X:=X') (pinsAt fp s7.heap) s10 σ8 H10 (.ref s.heap.objs.size) [y] (.ref s.heap.objs.size) [u] (fun _ H11=>H11=upd H10 s.heap.objs.size (.lst (ys++[y]))) I10 rfl (.cons r10 .nil)
      ⟨s.heap.objs.size,ys,y,rfl,rfl,hD10,hlt,rfl⟩
     rw[eP,ew,eA,ex]at qa
     refine wpAny_mono qa (fun _ s11 ⟨_,H11,I11,_,e11⟩=>?_) fun _ _ z=>z
     subst e11
     exact again I11 ⟨m',hm,w10⟩
   refine ue hifs (fun q=>body true s8 ⟨H8,I8,rl q q8⟩) fun c q=>?_
   have qt:=pt c q _ s8 σ8 H8 _ I8 (rm q q8)
   rw[eP,ew,eA,ee,ex]at qt
   exact wpAny_mono qt (fun ok s9 ⟨H9,I9,h9⟩=>body ok s9 ⟨H9,I9,h9⟩) fun _ _ z=>z
 exact codeAny_compStart_list loop (T.self _ 0 _ _ _ st1 loop)
def tComp (own:Nat)(cap:List Nat)(wi:TI)(g:TG)(tc:TT)(te:TE):TE:=fun σ H Q=>wi σ H fun J H1=>∀ D,H1 D=none→∃ W,BlkW sizeLine J g tc te D (fun H' _=>Q (.ref D) H') W∧∃ m,W 0 m (startB own cap σ) (upd H1 D (.lst [])) []
theorem sM (b:BlkOk X.N X.env.scope scope N own cap)(hc:X.calm=true)(hifs:ifs.length≤1)(hi:PI X tg iter wi)
  (hg:∀ cl C s H fp,PG (blk X scope cl C s H fp N) tg g) (ht:∀ c,ifs=[c]→∀ cl C s H fp,PT (blk X scope cl C s H fp N) c tc) (he:∀ cl C s H fp,PE (blk X scope cl C s H fp N) elt te)
  (hs:∀ x,foldedSetIterable iter X.env x=pure x:=by intro _;rfl):PE X (.ListComp elt [⟨tg,iter,ifs,0⟩] scope pos) (tComp own cap wi g (tTests ifs tc) te):=by
 intro pins s σ H Q I h
 obtain⟨cl,hclos,c1,c2⟩:=kZ scope X.env fun y hy hf=>I.ok.has y.1 (b.free y hy hf)
 rw[eval_ListComp]
 refine wpAny_comprehension_free (use:=none) rfl hs hclos b.kind b.nloc (thn (hi pins s σ H _ I h) fun v s1 h1=>thn h1 fun itv s2 h2=>?_)
 obtain⟨it,fp,tn,J,H2,e,I2,T,st2,f2,hW⟩:=h2
 subst e
 refine pi (RR:=fun acc C=>compPost (model X.prog X.w) X.A X.xe none (EP X pins σ Q) acc C) b hc hifs hg ht he hclos c1 c2 I2 T st2 f2 hW fun D C s' H' ys J1 J2 ⟨m,hm⟩ hD hQ=>?_
 refine⟨m,hm,fun h' hsb=>⟨.ref D,H',?_,rfl,hQ⟩⟩
 obtain⟨f0,f1,f2,f3,f4,f5⟩:=J2
 exact J1.turned (t':=s'.toks) (fun b o hb e=>(hsb.2 b hb).trans e) f0 f1 f3 f4 f5
def tCompSet (i own:Nat)(cap:List Nat)(wi:TI)(g:TG)(tc:TT)(te:TE):TS:=fun E σ H=>wi σ H fun J H1=>∀ D,H1 D=none→∃ W,BlkW sizeLine J g tc te D (fun H' _=>E.nx (σ.set i (some (.ref D))) H') W∧∃ m,W 0 m (startB own cap σ) (upd H1 D (.lst [])) []
theorem rn {i:Nat}{y:Str}{py spos:Pos}(b:BlkOk X.N X.env.scope scope N own cap)(hc:X.calm=true)(hifs:ifs.length≤1)(hi:PI X tg iter wi)
  (hg:∀ cl C s H fp,PG (blk X scope cl C s H fp N) tg g) (ht:∀ c,ifs=[c]→∀ cl C s H fp,PT (blk X scope cl C s H fp N) c tc) (he:∀ cl C s H fp,PE (blk X scope cl C s H fp N) elt te)
  (hN:X.N.Nodup) (hiy:X.N[i]?=some y) (hy:Loc X.env.scope y) (hfn:X.fn y=true∨X.env.scope.names.lookup y=some .local)
  (hsw:swapsWith (.ListComp elt [⟨tg,iter,ifs,0⟩] scope pos) (some (.Name y py)) spos.line X.env=pure true)
  (hs:∀ x,foldedSetIterable iter X.env x=pure x:=by intro _;rfl):PS X (.Assign [.Name y py] (.ListComp elt [⟨tg,iter,ifs,0⟩] scope pos) spos) (tCompSet i own cap wi g (tTests ifs tc) te):=by
 intro pins s σ H E I h
 obtain⟨cl,hclos,c1,c2⟩:=kZ scope X.env fun y hy hf=>I.ok.has y.1 (b.free y hy hf)
 rw[exec_Assign_Name_used _ _ _ _ hsw]
 refine wpAny_bind (wpAny_standAt (wpAny_bind ?_))
 show wpAny _ X.A (do let _ ← comprehension (.ListComp elt [⟨tg,iter,ifs,0⟩] scope pos) scope X.env _ (newList []) false (eval iter X.env) (some (assign (.Name y py) X.env))) _ _ s
 refine wpAny_bind (wpAny_mono (wpAny_comprehension_free (use:=some (assign (.Name y py) X.env)) (Q:=fun _ s'=>SP X pins E .next s') rfl hs hclos b.kind b.nloc (thn (hi pins s σ H _ I h) fun v s1 h1=>thn h1 fun itv s2 h2=>?_)) (fun _ s' hq=>wpAny_pure (wpAny_pure hq)) fun _ _ e=>e)
 obtain⟨it,fp,tn,J,H2,e,I2,T,st2,f2,hW⟩:=h2
 subst e
 refine pi (RR:=fun acc C=>compPost (model X.prog X.w) X.A X.xe (some (assign (.Name y py) X.env)) (fun _ s'=>SP X pins E .next s') acc C) b hc hifs hg ht he hclos c1 c2 I2 T st2 f2 hW fun D C s' H' ys J1 J2 ⟨m,hm⟩ hD hQ=>?_
 obtain⟨f0,f1,f2,f3,f4,f5⟩:=J2
 refine wpAny_assign_Name (mY J1 hN hiy hy (v:=.ref D) rfl (fun s'' I'' ⟨a,hsb,ha⟩=>?_) hfn)
 have hne:C≠a:=by
  rcases ha with z | z
  ·rw[z];exact f1
  ·exact fun q=>f4 y a z q.symm
 refine⟨m,hm.sameBut hsb hne,fun h' hs'=>⟨_,H',I''.turned (t':=s''.toks) (fun b o hb e=>(hs'.2 b hb).trans e) f0 f1 f3 f4 f5,hQ⟩⟩
end
end FF
end
noncomputable section
namespace FF
open PySem PySem.Spec PyProof.Rows L2
def Walk (J:It)(vs:List V)(Ok:Hp→Prop):Prop:=∀ (i:Nat) (H:Hp),Ok H→(i < vs.length→J.go i H∧∀ x H',J.yld i H x H'→H'=H∧vs[i]?=some x)∧(vs.length≤i→J.stop i H)
def WalkG (F:Fx)(J:It)(ds:List D)(Z1:Hp):Prop:=∀ (i:Nat) (H Z:Hp),Same Z1 Z→Same Z H→(i < ds.length→J.go i H∧∀ x H',J.yld i H x H'→∃ Z' d,Ex H Z H' Z'∧ds[i]?=some d∧Rep F.K F.C Z' d x)∧(ds.length≤i→J.stop i H)
theorem k9 {F:Fx}{J:It}{ds:List D}{vs:List V}{Z1:Hp}(rs:Reps F.K F.C Z1 ds vs)(w:Walk J vs (Same Z1)):WalkG F J ds Z1:=fun i H Z z1 z2=>by
 obtain⟨k1,k2⟩:=w i H (z1.trans z2)
 have hl:=rs.length
 refine⟨fun hi=>?_,fun hi=>k2 (by omega)⟩
 obtain⟨go,y⟩:=k1 (by omega)
 exact⟨go,fun x H' hy=>by
  obtain⟨e0,e2⟩:=y x H' hy
  subst e0
  obtain⟨d,e3,rd⟩:=rs.get' e2
  exact⟨Z,d,Ex.refl z2,e3,rd.mono z1⟩⟩
def tI (F:Fx)(g:SS→R (List D)):TI:=fun σ H Q=>∃ Z S,StOk F H Z S σ∧WG F H Z (g S) fun ds H' Z'=>∀ J,WalkG F J ds Z'→ds.length≤16777216→Q J H'
abbrev FI (X:Cx)(F:Fx)(tg e:Expr)(g:SS→R (List D)):Prop:=PI X tg e (tI F g)
def asSeq:D→R (List D)
 | .tup xs=>.ok xs
 | .lst xs=>.ok xs
 | _=>.stuck
def iSeq (g:SS→R D):SS→R (List D):=fun S=>(g S).bind fun d=>(asSeq d).bind fun ds=>if ds.length≤16777216 then .ok ds else .stuck
theorem _root_.L2.PI.weak {X:Cx}{tg e:Expr}{t t':TI}(h:PI X tg e t)(w:∀ σ H Q,t' σ H Q→t σ H Q):PI X tg e t':=fun pins s σ H Q I q=>h pins s σ H Q I (w σ H Q q)
theorem uf {K:PySem.W.Frag}{a:Addr}{vs:List V}{Z:Hp}(h:SqL K Z a vs):Walk (Itl K a) vs (Same Z):=fun i H hz =>
 ⟨fun hi=>⟨⟨vs,vs[i],hz.seq h,by simp[hi]⟩,fun x H' ⟨e,y⟩=>⟨e,y vs (hz.seq h)⟩⟩,fun hi=>⟨vs,hz.seq h,hi⟩⟩
theorem vX {K:PySem.W.Frag}{a:Addr}{vs:List V}{Z:Hp}(h:SqT K Z a vs):Walk (Itt K a) vs (Same Z):=fun i H hz =>
 ⟨fun hi=>⟨⟨vs,vs[i],h.mono hz,by simp[hi]⟩,fun x H' ⟨e,y⟩=>⟨e,y vs (h.mono hz)⟩⟩,fun hi=>⟨vs,h.mono hz,hi⟩⟩
theorem ro {lo:Int}{n:Nat}{Z:Hp}:Walk (Itr lo n) ((List.range n).map fun i=>.int (lo+(i:Nat))) (Same Z):=fun i H hz=>by
 refine⟨fun hi=>?_,fun hi=>?_⟩
 ·have hi':i < n:=by simpa using hi
  exact⟨hi',fun x H' ⟨e,y⟩=>⟨e,by rw[y];simp[hi']⟩⟩
 ·show n≤i
  simpa using hi
theorem zL {X:Cx}{tg l:Expr}{tl:TE}(hl:PE X l tl):PI X tg l (fun σ H R=>tl σ H fun x H1=>∃ a,x=.ref a∧(((∃ xs,SqL X.K H1 a xs)∧R (Itl X.K a) H1)∨((∃ xs,SqT X.K H1 a xs)∧R (Itt X.K a) H1))):=by
 intro pins s σ H Q I h
 refine thn (hl pins s σ H _ I h) fun v s1 ⟨x,H1,I1,r1,a,e,q⟩=>?_
 subst e
 cases r1
 rcases q with ⟨⟨xs,hq⟩,q⟩ | ⟨⟨xs,hq⟩,q⟩
 ·obtain⟨its,rv,p,hz⟩:=I1.list hq
  refine wpAny_pyIter_list p.isList ⟨s1.heap.objs.size,[s1.heap.objs.size],_,_,H1,rfl,I1.kept (t':=s1.toks) fun b o e=>Heap.get?_push_of_some _ e,tR a _,⟨_,Heap.get?_push_size _ rfl,rfl,rfl⟩,fun b hb=>?_,q⟩
  obtain rfl:b=s1.heap.objs.size:=by simpa using hb
  exact I1.fpOk (Nat.le_refl _) (I1.hok.fresh (Nat.le_refl _))
 ·obtain⟨its,rv,p,hz⟩:=I1.tuple hq
  refine wpAny_pyIter_tuple (show s1.heap.IsTuple a its.toArray from p) ⟨s1.heap.objs.size,[s1.heap.objs.size],_,_,H1,rfl,I1.kept (t':=s1.toks) fun b o e=>Heap.get?_push_of_some _ e,q0 a _,⟨_,Heap.get?_push_size _ rfl,rfl,rfl⟩,fun b hb=>?_,q⟩
  obtain rfl:b=s1.heap.objs.size:=by simpa using hb
  exact I1.fpOk (Nat.le_refl _) (I1.hok.fresh (Nat.le_refl _))
section
variable {X:Cx}{F:Fx}{tg e:Expr}{g:SS→R D}{gs:SS→R (List D)}
theorem aJ (hK:X.K=F.K)(h:FE X F e g):FI X F tg e (iSeq g):=(zL h).weak fun σ H Q ⟨Z,S,ok,w⟩=>aR ok w fun d v H1 Z1 ok1 x1 rv w1=>by
 rw[hK]
 cases d with
 | tup ds =>
  rw[Rep]at rv
  obtain⟨a,vs,rfl,h1,h2⟩:=rv
  have w2:WG F H1 Z1 (if ds.length≤16777216 then R.ok ds else .stuck) _:=w1
  split at w2
  ·rename_i hl
   exact⟨a,rfl,.inr ⟨⟨vs,h1.mono ok1.sub⟩,WG.now w2 ok1.sub _ (k9 h2 (vX h1)) hl⟩⟩
  ·exact w2.elim
 | lst ds =>
  rw[Rep]at rv
  obtain⟨a,vs,rfl,h1,h2⟩:=rv
  have w2:WG F H1 Z1 (if ds.length≤16777216 then R.ok ds else .stuck) _:=w1
  split at w2
  ·rename_i hl
   exact⟨a,rfl,.inl ⟨⟨vs,ok1.sub.seq h1⟩,WG.now w2 ok1.sub _ (k9 h2 (uf h1)) hl⟩⟩
  ·exact w2.elim
 | _=>exact w1.elim
def rngD (lo:Int)(n:Nat):List D:=(List.range n).map fun i=>.int (lo+(i:Nat))
def rng1:List D→R (List D)
 | [.int j]=>if -16777216≤j∧j≤16777216 then .ok (rngD 0 j.toNat) else .stuck
 | _=>.stuck
def iRange1 (gs:SS→R (List D)):SS→R (List D):=fun S=>(gs S).bind rng1
theorem pj {K:PySem.W.Frag}{C:Nat→Addr}{Z:Hp}(lo:Int):∀ (l:List Nat),Reps K C Z (l.map fun i=>.int (lo+(i:Nat))) (l.map fun i=>.int (lo+(i:Nat)))
 | []=>Reps.nil
 | a::r=>Reps.cons (by rw[Rep]) (pj lo r)
theorem oj {K:PySem.W.Frag}{C:Nat→Addr}{Z:Hp}{j:Int}{vs:List V}(r:Reps K C Z [.int j] vs):vs=[.int j]:=by
 rw[Reps]at r
 obtain⟨v,r',rfl,h1,h2⟩:=r
 rw[Reps]at h2
 rw[Rep]at h1
 rw[h1,h2]
theorem pq {K:PySem.W.Frag}{C:Nat→Addr}{Z:Hp}{i j:Int}{vs:List V}(r:Reps K C Z [.int i,.int j] vs):vs=[.int i,.int j]:=by
 rw[Reps]at r
 obtain⟨v,r',rfl,h1,h2⟩:=r
 rw[Rep]at h1
 rw[h1,oj h2]
theorem xR {ds:List D}{es:List D}(h:rng1 ds=.ok es):∃ j:Int,ds=[.int j]∧(-16777216≤j∧j≤16777216)∧es=rngD 0 j.toNat:=by
 unfold rng1 at h
 split at h
 ·rename_i j
  split at h
  ·rename_i q;cases h;exact⟨j,rfl,q,rfl⟩
  ·cases h
 ·cases h
theorem xS {ds:List D}{k:Nat}(h:rng1 ds=.err k):False:=by
 unfold rng1 at h
 split at h
 ·split at h<;>cases h
 ·cases h
theorem aW {a:Expr}{p pos:Pos}(hg:Gl X "range")(hm:X.mg "range"=none)(ha:FA X F [a] gs)(hs:starEach [a] X.env=[(false,eval a X.env)]:=by rfl):FI X F tg (.Call (.Name "range" p) [a] [] pos) (iRange1 gs) :=
 (tU hg hm ha hs).weak fun σ H Q ⟨Z,S,ok,w⟩=>bu ok w fun ds vs H1 Z1 ok1 x1 rs w1=>by
  cases e:rng1 ds with
  | err k=>exact(xS e).elim
  | stuck=>rw[e]at w1;exact w1.elim
  | ok es =>
   rw[e]at w1
   obtain⟨j,rfl,hj,rfl⟩:=xR e
   exact⟨j,oj rs,by omega,by omega,WG.now w1 ok1.sub _ (k9 (pj 0 _) ro) (by unfold rngD;rw[List.length_map,List.length_range];omega)⟩
end
def tGd (F:Fx)(g:D→SS→R SS):TG:=fun v σ H Q=>∃ Z S d,StOk F H Z S σ∧Rep F.K F.C Z d v∧WG F H Z (g d S) fun S' H' Z'=>∀ σ',StOk F H' Z' S' σ'→Q σ' H'
abbrev FG (X:Cx)(F:Fx)(tg:Expr)(g:D→SS→R SS):Prop:=PG X tg (tGd F g)
def gNm (i:Nat):D→SS→R SS:=fun d S=>.ok (S.set i (some (.val d)))
theorem _root_.L2.PG.weak {X:Cx}{tg:Expr}{t t':TG}(h:PG X tg t)(w:∀ v σ H Q,t' v σ H Q→t v σ H Q):PG X tg t':=fun pins s σ H v u Q I r q=>h pins s σ H v u Q I r (w v σ H Q q)
theorem ax {X:Cx}{F:Fx}(i:Nat){x:Str}{pos:Pos}(hN:X.N.Nodup)(hi:X.N[i]?=some x:=by rfl)(hx:Loc X.env.scope x:=by first | exact Or.inl rfl | exact Or.inr rfl)(hf:X.fn x=true∨X.env.scope.names.lookup x=some .local:=by first | exact .inl rfl | exact .inr rfl) :
  FG X F (.Name x pos) (gNm i):=(fg hN hi hx hf).weak fun v σ H Q ⟨Z,S,d,ok,r,w⟩=>WG.now w ok.sub _ (ok.setVal r)
end FF
end
noncomputable section
namespace FF
open PySem PySem.Spec PyProof.Rows L2
def spF (K:PySem.W.Frag)(C:Nat→Addr)(n:Nat)(f:List D→R D):Sp:=fun vs H Q E =>
 vs.length=n∧∃ Z ds,Same Z H∧Reps K C Z ds vs∧WG ⟨K,C,H,Z,E⟩ H Z (f ds) fun d H' Z'=>∀ v,Rep K C Z' d v→Q v H'
def outD (o:O):R D:=match o with
 | .nx _=>.ok .non
 | .rt d=>.ok d
 | .er k=>.err k
 | _=>.stuck
def startS (n:Nat)(ds:List D):SS:=ds.map (fun d=>some (.val d))++List.replicate (n - ds.length) none
def fnD (n:Nat)(body:SS→O):List D→R D:=fun ds=>outD (body (startS n ds))
theorem pv {F:Fx}{N:List Str}{ds:List D}{vs:List V}(z:Same F.Z0 F.H0)(r:Reps F.K F.C F.Z0 ds vs):StOk F F.H0 F.Z0 (startS N.length ds) (start N vs):=by
 have hl:=r.length
 have at_:∀ {i:Nat} {x:Option Sl},(startS N.length ds)[i]?=some x→(i < ds.length∧∃ d,ds[i]?=some d∧x=some (.val d))∨x=none:=fun {i x} e=>by
  unfold startS at e
  by_cases hi:i < ds.length
  ·rw[List.getElem?_append_left (by simpa using hi),List.getElem?_map]at e
   cases q:ds[i]? with
   | none=>rw[q]at e;cases e
   | some d=>rw[q]at e;cases e;exact .inl ⟨hi,d,rfl,rfl⟩
  ·rw[List.getElem?_append_right (by simpa using hi),List.getElem?_replicate]at e
   split at e
   ·cases e;exact .inr rfl
   ·cases e
 refine⟨Ex.refl z,?_,fun i d e=>?_,fun i es e=>?_,fun i j es fs a e1=>?_⟩
 ·unfold startS L2.start
  simp[hl]
 ·rcases at_ e with ⟨hi,d',e1,e2⟩ | e2
  ·cases e2
   obtain⟨v,e3,rv⟩:=r.get e1
   refine⟨v,?_,rv⟩
   unfold L2.start
   rw[List.getElem?_append_left (by simpa [← hl] using hi),List.getElem?_map,e3]
   rfl
  ·cases e2
 ·rcases at_ e with ⟨_,d',_,e2⟩ | e2<;>cases e2
 ·rcases at_ e1 with ⟨_,d',_,e2⟩ | e2<;>cases e2
section
variable {P:Program}{w:World}{K:PySem.W.Frag}{mg:Str→Option Value}{base:Heap}
structure BX (X:Cx)(F:Fx)(k:Nat):Prop where
 room:Room k X.A
 K:X.K=F.K
 calm:X.calm=true
 pass:Passes (CXE X.prog X.w) X F.E
theorem AZ {x qual:Str}{st:Stmt}{f:Addr}{fd:FuncData}{N ps:List Str}{k:Nat}{C:Nat→Addr}{body:SS→O}(F:Fun K x qual st f fd)(S:FnScope N ps (defScope st))
  (h:∀ (cdv:Value) (A:Around) (outer:List Env) (s:Shared) (H Z:Hp) (E:XK),BX (bodyX P w K mg base N qual (defScope st) f cdv A outer s H E) ⟨K,C,H,Z,E⟩ k →
   PassesOwn (model P w) (bodyX P w K mg base N qual (defScope st) f cdv A outer s H E).A (bodyX P w K mg base N qual (defScope st) f cdv A outer s H E).env (bodyX P w K mg base N qual (defScope st) f cdv A outer s H E).xe →
   FSs (bodyX P w K mg base N qual (defScope st) f cdv A outer s H E) ⟨K,C,H,Z,E⟩ (defBody st) body) :
  FnOk P w K mg base (CXE P w) (k+1) f fd ps (spF K C ps.length (fnD N.length body)):=by
 obtain⟨oc,od,kV,doc,pm,an,cdv,ct,osl,rfl,lk,hcd⟩:=F.ex
 refine yZ lk hcd S (fun vs H Q E q=>q.1) fun A outer s H vs Q E hr hsp=>?_
 obtain⟨_,Z,ds,z,r,w⟩:=hsp
 refine⟨_,h cdv A outer s H Z E ⟨hr,rfl,rfl,ni⟩ PassesOwn.leaving,Z,startS N.length ds,pv (F:=⟨K,C,H,Z,E⟩) (N:=N) z r,?_⟩
 unfold fnD at w
 cases e:body (startS N.length ds) with
 | nx S'=>rw[e]at w;exact fun σ' H' Z' _ ok=>w H' Z' ok.ex .non (by rw[Rep])
 | rt d=>rw[e]at w;exact fun v H' Z' x rv=>w H' Z' x v rv
 | er k=>rw[e]at w;exact w
 | bk S'=>rw[e]at w;exact w.elim
 | ct S'=>rw[e]at w;exact w.elim
 | stuck=>rw[e]at w;exact w
end
structure Fn1 (P:Program)(w:World)(K:PySem.W.Frag)(mg:Str→Option Value)(base:Heap)(C:Nat→Addr)(k:Nat)(x:Str)(ps:List Str)(f:List D→R D):Prop where
 ex:∃ a fd,FnOk P w K mg base (CXE P w) k a fd ps (spF K C ps.length f)∧mg x=some (.ref a)∧PySem.W.keepIn K (.ref a)=true∧Binds K fd ps []
def eCall (f:List D→R D)(gs:SS→R (List D)):SS→R D:=fun S=>(gs S).bind f
section
variable {X:Cx}{F:Fx}{x:Str}{p pos:Pos}{e:Expr}{es:List Expr}{gs:SS→R (List D)}{k:Nat}{ps:List Str}{f:List D→R D}
theorem vY (n:Nat)(hn:∀ S ds,gs S=.ok ds→ds.length=n):∀ σ H Q,tE F (eCall f gs) σ H Q→tCall (spF F.K F.C n f) [] F.E (tAl F gs) σ H Q:=fun σ H Q ⟨Z,S,ok,w⟩=>by
 refine⟨Z,S,ok,?_⟩
 cases e:gs S with
 | err k=>unfold eCall at w;rw[e]at w;exact w
 | stuck=>unfold eCall at w;rw[e]at w;exact w
 | ok ds =>
  unfold eCall at w
  rw[e]at w
  intro H1 Z1 x1 vs rs
  have w1:=WG.more (r:=f ds) w x1
  refine⟨by rw[List.append_nil,← rs.length];exact hn S ds e,Z1,ds,x1.sub,by rw[List.append_nil];exact rs,?_⟩
  cases q:f ds with
  | ok d=>rw[q]at w1;exact w1
  | err k=>rw[q]at w1;exact w1
  | stuck=>rw[q]at w1;exact w1
theorem xT (b:BX X F k)(h:Fn1 X.prog X.w F.K X.mg X.base F.C k x ps f)(hg:Gl X x)(ha:FA X F (e::es) gs)(hn:∀ S ds,gs S=.ok ds→ds.length=ps.length)(hdb:(x==("__debug__":Str))=false:=by decide)
  (he:starEach (e::es) X.env=(false,eval e X.env)::starEach es X.env:=by rfl) (hpl:(backTo pos (starEach es X.env)).any (·.1)=false:=by rfl):FE X F (.Call (.Name x p) (e::es) [] pos) (eCall f gs):=by
 obtain⟨a,fd,h1,h2,h3,h4⟩:=h.ex
 have hK:=b.K
 exact(xB (ds:=[]) (dvs:=[]) (E:=F.E) (by rw[hK];exact h1) b.room hg h2 (by rw[hK];exact h3) (by rw[hK];exact h4) .nil b.pass ha hdb he hpl).weak (vY ps.length hn)
theorem ug {g:SS→R D}{gs:SS→R (List D)}{n:Nat}(h:∀ S ds,gs S=.ok ds→ds.length=n):∀ S ds,aCons g gs S=.ok ds→ds.length=n+1:=fun S ds e=>by
 unfold aCons at e
 cases q:g S with
 | err k=>rw[q]at e;cases e
 | stuck=>rw[q]at e;cases e
 | ok d =>
  rw[q]at e
  cases q2:gs S with
  | err k=>rw[R.bind_ok,q2]at e;cases e
  | stuck=>rw[R.bind_ok,q2]at e;cases e
  | ok r =>
   rw[R.bind_ok,q2]at e
   cases e
   simp[h S r q2]
end
def noErr {α:Type}(r:R α):R α:=match r with
 | .ok a=>.ok a
 | _=>.stuck
def blkS (own:Nat)(cap:List Nat)(S:SS):SS:=List.replicate own none++cap.map fun i=>match S[i]? with
 | some (some (.val d))=>some (.val d)
 | _=>none
def compGo (S:SS)(g:D→SS→R SS)(c:SS→R Bool)(e:SS→R D):List D→R (List D)
 | []=>.ok []
 | d::r=>(g d S).bind fun S1=>(c S1).bind fun t=>if t=true then (e S1).bind fun y=>(compGo S g c e r).bind fun ys=>.ok (y::ys) else compGo S g c e r
def eComp (own:Nat)(cap:List Nat)(it:SS→R (List D))(g:D→SS→R SS)(c:SS→R Bool)(e:SS→R D):SS→R D:=fun S=>(it S).bind fun ds=>(noErr (compGo (blkS own cap S) g c e ds)).bind fun ys=>.ok (.lst ys)
def tTrue:SS→R Bool:=fun _=>.ok true
abbrev noE (F:Fx):Fx:={ F with E:=fun _ _ _=>False }
def Own (own:Nat)(g:D→SS→R SS):Prop:=∀ d S S1,g d S=.ok S1→S1.length=S.length∧∀ i,own≤i→S1[i]?=S[i]?
theorem ao {X:Cx}{F:Fx}{k:Nat}(bx:BX X F k){scope:Scope}{cl:List (Str×Addr)}{C:Addr}{s:Shared}{H:Hp}{fp:List Addr}{N:List Str}:BX (blk X scope cl C s H fp N) (noE F) k :=
 ⟨bx.room,bx.K,rfl,fun pins σ H s e s' _ h=>by
  obtain⟨_,_,_,_,_,_,_,_,_,_,_,_,_,hE⟩:=h
  exact hE.elim⟩
theorem aK {own i:Nat}(h:i < own):Own own (gNm i):=fun d S S1 e=>by
 cases e
 exact⟨by simp,fun j hj=>List.getElem?_set_ne (by omega)⟩
theorem StOk.forget {F:Fx}{H Z:Hp}{S S0:SS}{σ:St}(h:StOk F H Z S σ)(hl:S0.length=S.length)(hs:∀ (i:Nat) (x:Sl),S0[i]?=some (some x)→S[i]?=some (some x)):StOk F H Z S0 σ :=
 ⟨h.ex,hl.trans h.len,fun i d e=>h.val i d (hs i _ e),fun i ds e=>h.own i ds (hs i _ e),fun i j ds es a e1 e2=>h.dis i j ds es a (hs i _ e1) (hs j _ e2)⟩
theorem iY {own:Nat}{cap:List Nat}{S:SS}{i:Nat}{x:Sl}(e:(blkS own cap S)[i]?=some (some x)):own≤i∧∃ k d,cap[i - own]?=some k∧S[k]?=some (some (.val d))∧x=.val d:=by
 unfold blkS at e
 by_cases hi:i < own
 ·rw[List.getElem?_append_left (by simpa using hi),List.getElem?_replicate]at e
  split at e<;>cases e
 ·rw[List.getElem?_append_right (by simpa using hi),List.length_replicate,List.getElem?_map]at e
  cases q:cap[i - own]? with
  | none=>rw[q]at e;cases e
  | some k =>
   rw[q]at e
   simp only[Option.map_some,Option.some.injEq]at e
   split at e
   ·rename_i d q2
    cases e
    exact⟨by omega,k,d,rfl,q2,rfl⟩
   ·cases e
theorem uh {F:Fx}{H Z:Hp}{S:SS}{σ:St}{own:Nat}{cap:List Nat}{D:Addr}(ok:StOk F H Z S σ)(hD:H D=none):StOk (noE F) (upd H D (.lst [])) Z (blkS own cap S) (startB own cap σ):=by
 refine⟨ok.ex.trans (Ex.hidden ok.sub hD),by simp[blkS,startB],fun i d e=>?_,fun i es e=>?_,fun i j es fs a e=>?_⟩
 ·obtain⟨hi,k,d',q1,q2,q3⟩:=iY e
  cases q3
  obtain⟨v,e1,r⟩:=ok.val k d q2
  refine⟨v,?_,r⟩
  unfold startB
  rw[List.getElem?_append_right (by simpa using hi),List.length_replicate,List.getElem?_map,q1]
  simp[e1]
 ·obtain⟨_,_,_,_,_,q⟩:=iY e;cases q
 ·obtain⟨_,_,_,_,_,q⟩:=iY e;cases q
section
variable {X:Cx}{F:Fx}{tg iter elt:Expr}{ifs:List Expr}{scope:Scope}{N:List Str}{own:Nat}{cap:List Nat}{pos:Pos}{git:SS→R (List D)}{g:D→SS→R SS}{gc:SS→R Bool}{ge:SS→R D}
theorem jJ {σ:St}{H Z:Hp}{S:SS}{ifs:List Expr}{P:D→Hp→Hp→Prop}{Q:Addr→Hp→Prop}(hgc:ifs=[]→gc=tTrue)(hgo:Own own g)(ok:StOk F H Z S σ)(w:WG F H Z (eComp own cap git g gc ge S) P)(hP:∀ D ys ds H' Z',Ex H Z H' Z'→P (.lst ds) H' Z'→H' D=some (.lst ys)→Z' D=some (.lst ys)→Reps F.K F.C Z' ds ys→Q D H') :
  tI F git σ H fun J H1=>∀ D,H1 D=none→∃ W,BlkW sizeLine J (tGd (noE F) g) (tTests ifs (tT (noE F) gc)) (tE (noE F) ge) D (fun H' _=>Q D H') W∧∃ m,W 0 m (startB own cap σ) (upd H1 D (.lst [])) []:=by
 refine⟨Z,S,ok,?_⟩
 unfold eComp at w
 cases e:git S with
 | err k=>rw[e]at w;exact w
 | stuck=>rw[e]at w;exact w
 | ok ds =>
  rw[e]at w
  intro H1 Z1 x1 J wk hlen D hD
  have w1:=WG.more (r:=(noErr (compGo (blkS own cap S) g gc ge ds)).bind fun ys=>R.ok (FF.D.lst ys)) w x1
  have ok1:=ok.more x1
  have hS:=sizeLine_eq
  refine⟨fun i m σ' H' ys=>m=ds.length - i∧i≤ds.length∧H' D=some (.lst ys)∧ys.length≤i∧∃ Z' acc,Ex H1 Z1 H' Z'∧Z' D=none∧Reps F.K F.C Z' acc ys∧StOk (noE F) H' Z' (blkS own cap S) σ' ∧
   WG F H1 Z1 ((noErr (compGo (blkS own cap S) g gc ge (ds.drop i))).bind fun zs=>R.ok (FF.D.lst (acc++zs))) P,?_,ds.length,rfl,Nat.zero_le _,au,Nat.le_refl _,Z1,[],Ex.hidden ok1.sub hD,ok1.sub.free hD,Reps.nil,uh ok1 hD,w1⟩
  rintro i m σ2 H2 ys ⟨rfl,hle,hDy,hyl,Z2,acc,x2,hZD,ra,ok2,w2⟩
  refine⟨hDy,?_⟩
  obtain⟨k1,k2⟩:=wk i H2 Z2 x2.z x2.sub
  by_cases hlt:i < ds.length
  ·obtain⟨go,y⟩:=k1 hlt
   refine .inr ⟨go,fun x H' hy=>?_⟩
   obtain⟨Z2',d,x',e3,rd⟩:=y x H' hy
   have ok2:=ok2.more x'
   have hZD:Z2' D=none:=by
    cases r:Z2' D with
    | none=>rfl
    | some o =>
     rcases x'.new D (by rw[r];simp) with z | z
     ·exact absurd hZD z
     ·rw[hDy]at z;cases z
   have hDy:=x'.same _ _ hDy
   have x2:=x2.trans x'
   have ra:=ra.mono x'.z
   have hd:ds.drop i=d::ds.drop (i+1):=by
    obtain⟨hi,e4⟩:=List.getElem?_eq_some_iff.mp e3
    rw[List.drop_eq_getElem_cons hi,e4]
   rw[hd]at w2
   unfold compGo at w2
   refine⟨Z2',blkS own cap S,d,ok2,rd,?_⟩
   cases qg:g d (blkS own cap S) with
   | err k=>rw[qg]at w2;exact w2.elim
   | stuck=>rw[qg]at w2;exact w2.elim
   | ok S1 =>
    rw[qg,R.bind_ok]at w2
    intro H3 Z3 x3 σ3 ok3
    obtain⟨gl,gk⟩:=hgo _ _ _ qg
    have back:∀ {H Z:Hp},StOk (noE F) H Z S1 σ3→StOk (noE F) H Z (blkS own cap S) σ3:=fun h=>h.forget gl.symm fun j z q=>by
     rw[gk j (iY q).1];exact q
    have hD3:H3 D=some (.lst ys):=x3.same _ _ hDy
    have x13:=x2.trans x3
    have zD:∀ {H Z:Hp},Ex H1 Z1 H Z→Ex H' Z2' H Z→Z D=none:=fun {H Z} _ q=>by
     cases r:Z D with
     | none=>rfl
     | some o =>
      rcases q.new D (by rw[r];simp) with z | z
      ·exact absurd hZD z
      ·rw[hDy]at z;cases z
    have fin:∀ (t:Bool) (H4 Z4:Hp),Ex H' Z2' H4 Z4→StOk (noE F) H4 Z4 S1 σ3→gc S1=.ok t→if t=true then tE (noE F) ge σ3 H4 fun y H5=>H5 D=some (.lst ys)∧ys.length < sizeLine∧∃ m',m' < ds.length - i∧(m'=ds.length - (i+1)∧i+1≤ds.length∧(upd H5 D (.lst (ys++[y]))) D=some (.lst (ys++[y]))∧(ys++[y]).length≤i+1∧∃ Z' acc,Ex H1 Z1 (upd H5 D (.lst (ys++[y]))) Z'∧Z' D=none∧Reps F.K F.C Z' acc (ys++[y])∧StOk (noE F) (upd H5 D (.lst (ys++[y]))) Z' (blkS own cap S) σ3 ∧
      WG F H1 Z1 ((noErr (compGo (blkS own cap S) g gc ge (ds.drop (i+1)))).bind fun zs=>R.ok (FF.D.lst (acc++zs))) P)
      else ∃ m',m' < ds.length - i∧(m'=ds.length - (i+1)∧i+1≤ds.length∧H4 D=some (.lst ys)∧ys.length≤i+1∧∃ Z' acc,Ex H1 Z1 H4 Z'∧Z' D=none∧Reps F.K F.C Z' acc ys∧StOk (noE F) H4 Z' (blkS own cap S) σ3 ∧
      WG F H1 Z1 ((noErr (compGo (blkS own cap S) g gc ge (ds.drop (i+1)))).bind fun zs=>R.ok (FF.D.lst (acc++zs))) P):=by
     intro t H4 Z4 x4 ok4 qc
     rw[qc,R.bind_ok]at w2
     cases t with
     | false =>
      rw[if_neg Bool.false_ne_true]at w2 ⊢
      exact⟨ds.length - (i+1),by omega,rfl,hlt,x4.same _ _ hDy,by omega,Z4,acc,x2.trans x4,zD (x2.trans x4) x4,ra.mono x4.z,back ok4,w2⟩
     | true =>
      rw[if_pos rfl]at w2 ⊢
      refine⟨Z4,S1,ok4,?_⟩
      cases qe:ge S1 with
      | err k=>rw[qe]at w2;exact w2.elim
      | stuck=>rw[qe]at w2;exact w2.elim
      | ok yd =>
       rw[qe,R.bind_ok]at w2
       intro H5 Z5 x5 yv ry
       have hD5:H5 D=some (.lst ys):=x5.same _ _ (x4.same _ _ hDy)
       have x25:=x4.trans x5
       have z5:=zD (x2.trans x25) x25
       have ok5:=ok4.more x5
       have n0:F.H0 D=none:=ok1.ex.same.free hD
       have xu:Ex H1 Z1 (upd H5 D (.lst (ys++[yv]))) Z5:=by
        have q:=x2.trans x25
        refine⟨fun b o e=>?_,q.z,fun b o e=>?_,q.new⟩
        ·rw[av (fun z=>by subst z;rw[hD]at e;cases e)];exact q.same b o e
        ·rw[av (fun z=>by subst z;rw[z5]at e;cases e)];exact q.sub b o e
       refine⟨hD5,by omega,ds.length - (i+1),by omega,rfl,hlt,au,by simp;omega,Z5,acc++[yd],xu,z5,(ra.mono x25.z).append (Reps.cons ry Reps.nil),?_,?_⟩
       ·have q:=back ok5
        refine⟨⟨fun b o e=>?_,q.ex.z,fun b o e=>?_,q.ex.new⟩,q.len,q.val,fun j es e=>?_,q.dis⟩
        ·rw[av (fun z=>by subst z;have e':F.H0 b=some o:=e;rw[n0]at e';cases e')];exact q.ex.same b o e
        ·rw[av (fun z=>by subst z;rw[z5]at e;cases e)];exact q.ex.sub b o e
        ·obtain⟨_,_,_,_,_,z⟩:=iY e;cases z
       ·cases qr:compGo (blkS own cap S) g gc ge (ds.drop (i+1)) with
        | err k=>rw[qr]at w2;exact w2.elim
        | stuck=>rw[qr]at w2;exact w2.elim
        | ok zs=>rw[qr]at w2;simpa [noErr,List.append_assoc] using w2
    cases qc:gc S1 with
    | err k=>rw[qc]at w2;exact w2.elim
    | stuck=>rw[qc]at w2;exact w2.elim
    | ok t =>
     cases ifs with
     | nil =>
      have:=hgc rfl
      subst this
      cases qc
      exact fin true H3 Z3 x3 ok3 rfl
     | cons c r =>
      refine⟨Z3,S1,ok3,?_⟩
      rw[qc]
      intro H4 Z4 x4
      exact fin t H4 Z4 (x3.trans x4) (ok3.more x4) qc
  ·have ei:i=ds.length:=by omega
   refine .inl ⟨k2 (by omega),?_⟩
   rw[List.drop_eq_nil_of_le (by omega)]at w2
   have w3:WG F H1 Z1 (R.ok (FF.D.lst (acc++[]))) P:=w2
   rw[List.append_nil]at w3
   have hz:Same Z2 (upd Z2 D (.lst ys)):=aF hZD
   have xf:Ex H1 Z1 H2 (upd Z2 D (.lst ys)):=by
    refine⟨x2.same,x2.z.trans hz,fun b o e=>?_,fun b hb=>?_⟩
    ·by_cases q:b=D
     ·subst q;rw[au]at e;cases e;exact hDy
     ·rw[av q]at e;exact x2.sub b o e
    ·by_cases q:b=D
     ·subst q;exact .inr hD
     ·rw[av q]at hb;exact x2.new b hb
   exact hP D ys acc H2 _ (x1.trans xf) (w3 H2 _ xf) hDy au (ra.mono hz)
theorem aM {k:Nat}(bx:BX X F k)(b:BlkOk X.N X.env.scope scope N own cap)(hi:FI X F tg iter git)(hgo:Own own g)
  (hg:∀ cl C s H fp,FG (blk X scope cl C s H fp N) (noE F) tg g) (he:∀ cl C s H fp,FE (blk X scope cl C s H fp N) (noE F) elt ge)
  (hs:∀ x,foldedSetIterable iter X.env x=pure x:=by intro _;rfl):FE X F (.ListComp elt [⟨tg,iter,[],0⟩] scope pos) (eComp own cap git g tTrue ge) :=
 (sM (ifs:=[]) (tc:=tT (noE F) tTrue) b bx.calm (by simp) hi hg (fun c q=>nomatch q) he hs).weak fun σ H Q ⟨Z,S,ok,w⟩ =>
  jJ (fun _=>rfl) hgo ok w fun D ys ds H' Z' _ p h1 h2 r=>p _ (by rw[Rep];exact⟨D,ys,rfl,SqL.of h2,r⟩)
theorem cD {k:Nat}{c:Expr}(bx:BX X F k)(b:BlkOk X.N X.env.scope scope N own cap)(hi:FI X F tg iter git)(hgo:Own own g)
  (hg:∀ cl C s H fp,FG (blk X scope cl C s H fp N) (noE F) tg g) (ht:∀ cl C s H fp,FT (blk X scope cl C s H fp N) (noE F) c gc) (he:∀ cl C s H fp,FE (blk X scope cl C s H fp N) (noE F) elt ge)
  (hs:∀ x,foldedSetIterable iter X.env x=pure x:=by intro _;rfl):FE X F (.ListComp elt [⟨tg,iter,[c],0⟩] scope pos) (eComp own cap git g gc ge) :=
 (sM (ifs:=[c]) b bx.calm (by simp) hi hg (fun c' q=>by cases q;exact ht) he hs).weak fun σ H Q ⟨Z,S,ok,w⟩ =>
  jJ (fun q=>nomatch q) hgo ok w fun D ys ds H' Z' _ p h1 h2 r=>p _ (by rw[Rep];exact⟨D,ys,rfl,SqL.of h2,r⟩)
theorem WG.unbind {α β:Type}{F:Fx}{H Z:Hp}{r:R α}{f:α→β}{P:β→Hp→Hp→Prop}(w:WG F H Z (r.bind fun d=>.ok (f d)) P):WG F H Z r fun d H' Z'=>P (f d) H' Z':=by
 cases r with
 | ok d=>exact w
 | err k=>exact w
 | stuck=>exact w
theorem vZ {i:Nat}{D:Ends}{σ:St}{H Z:Hp}{S:SS}(hgc:ifs=[]→gc=tTrue)(hgo:Own own g)(ok:StOk F H Z S σ)(w:WO F Z (sSet i (eComp own cap git g gc ge) S) D) :
  tCompSet i own cap (tI F git) (tGd (noE F) g) (tTests ifs (tT (noE F) gc)) (tE (noE F) ge) D σ H :=
 jJ (P:=fun d _ Z'=>WO F Z' (.nx (S.set i (some (.val d)))) D) (Q:=fun a H'=>D.nx (σ.set i (some (.ref a))) H') hgc hgo ok (WG.unbind (WO.wg ok w)) fun a ys ds H' Z' x p h1 h2 r =>
  p _ H' Z' (Same.refl _) ((ok.more x).setVal (by rw[Rep];exact⟨a,ys,rfl,SqL.of h2,r⟩))
theorem rq {k:Nat}(i:Nat){y:Str}{py spos:Pos}(bx:BX X F k)(b:BlkOk X.N X.env.scope scope N own cap)(hi:FI X F tg iter git)(hgo:Own own g)
  (hg:∀ cl C s H fp,FG (blk X scope cl C s H fp N) (noE F) tg g) (he:∀ cl C s H fp,FE (blk X scope cl C s H fp N) (noE F) elt ge) (hN:X.N.Nodup)
  (hsw:swapsWith (.ListComp elt [⟨tg,iter,[],0⟩] scope pos) (some (.Name y py)) spos.line X.env=pure true:=by rfl) (hiy:X.N[i]?=some y:=by rfl) (hy:Loc X.env.scope y:=by first | exact Or.inl rfl | exact Or.inr rfl)
  (hfn:X.fn y=true∨X.env.scope.names.lookup y=some .local:=by first | exact .inl rfl | exact .inr rfl) (hs:∀ x,foldedSetIterable iter X.env x=pure x:=by intro _;rfl) :
  FS X F (.Assign [.Name y py] (.ListComp elt [⟨tg,iter,[],0⟩] scope pos) spos) (sSet i (eComp own cap git g tTrue ge)) :=
 (rn (ifs:=[]) (tc:=tT (noE F) tTrue) b bx.calm (by simp) hi hg (fun c q=>nomatch q) he hN hiy hy hfn hsw hs).weak fun D σ H ⟨Z,S,ok,w⟩=>vZ (fun _=>rfl) hgo ok w
end
end FF
end
noncomputable section
namespace FF
open PySem PySem.Spec PyProof.Rows L2
def dAdd (x y:D):R D:=if isInt x=true then dI0 (fun i j=>.int (i+j)) x y else if isTup x=true then dCatT x y else dCatL x y
def dSub:D→D→R D:=dI0 fun i j=>.int (i - j)
def dMul (x y:D):R D:=if isInt x=true then dI cMul (fun i j=>.int (i*j)) x y else if isTup x=true then dRepT x y else dRepL x y
def dDiv:D→D→R D:=dI cDiv fun i j=>.int (i/j)
def dMod:D→D→R D:=dI (fun _ j=>decide (0 < j)) fun i j=>.int (i%j)
def dLt:D→D→R D:=dI0 fun i j=>.bl (decide (i < j))
def dLe:D→D→R D:=dI0 fun i j=>.bl (decide (i≤j))
def dGt:D→D→R D:=dI0 fun i j=>.bl (decide (j < i))
def dGe:D→D→R D:=dI0 fun i j=>.bl (decide (j≤i))
theorem aI {K:PySem.W.Frag}{C:Nat→Addr}{Z:Hp}{i:Int}:Rep K C Z (.int i) (.int i):=by rw[Rep]
theorem bE {K:PySem.W.Frag}{C:Nat→Addr}{Z:Hp}{i:Bool}:Rep K C Z (.bl i) (.bl i):=by rw[Rep]
section
variable {X:Cx}{F:Fx}{a b c:Expr}{ga gb gc:SS→R D}{pos:Pos}
theorem fm (ha:FE X F a ga)(hb:FE X F b gb):FE X F (.BinOp a .Sub b pos) (eOp dSub ga gb):=pc zu (iE fun _ _ _=>aI) ha hb
theorem cY (ha:FE X F a ga)(hb:FE X F b gb):FE X F (.BinOp a .FloorDiv b pos) (eOp dDiv ga gb):=pc xx (vQ xL fun _ _ _=>aI) ha hb
theorem dA (ha:FE X F a ga)(hb:FE X F b gb):FE X F (.BinOp a .Mod b pos) (eOp dMod ga gb):=pc zw (vQ (fun i j h=>of_decide_eq_true h) fun _ _ _=>aI) ha hb
theorem nq (ha:FE X F a ga)(hb:FE X F b gb):FT X F (.Compare a [.Lt] [b] pos) (gB (eOp dLt ga gb)):=iD AB (iE fun _ _ _=>bE) ha hb
theorem ag (hK:X.K=F.K)(ha:FE X F a ga)(hb:FE X F b gb)(hs:PlainIx b:=by intro _ _;rfl):FE X F (.Subscript a b pos) (eOp dIx ga gb):=AD zF (by rw[hK];exact zK) ha hb hs
theorem xU:OpR X (binaryOp .Add) (fun x y H Q=>rI0 (fun i j=>.int (i+j)) x y H Q∨(rCat2 X.K x y H Q∨∃ a b xs ys,x=.ref a∧y=.ref b∧SqL X.K H a xs∧SqL X.K H b ys∧xs.length+ys.length≤sizeLine∧∀ p,H p=none→Q (.ref p) (upd H p (.lst (xs++ys))))) :=
 zt.or (xM.or vU)
theorem aB (hK:X.K=F.K)(ha:FE X F a ga)(hb:FE X F b gb):FE X F (.BinOp a .Add b pos) (eOp dAdd ga gb) :=
 pc xU (by rw[hK];exact OpD.or (fun x _=>isInt x) (iE fun _ _ _=>aI) (OpD.or (fun x _=>isTup x) vR vT)) ha hb
theorem aY (hK:X.K=F.K)(ha:FE X F a ga)(hb:FE X F b gb):FE X F (.BinOp a .Mult b pos) (eOp dMul ga gb) :=
 pc (zv.or (xN.or xO)) (by rw[hK];exact OpD.or (fun x _=>isInt x) (vQ xK fun _ _ _=>aI) (OpD.or (fun x _=>isTup x) vS vV)) ha hb
end
theorem zM {X:Cx}{pins:List (Addr×Obj)}{σ:St}{H Z:Hp}{s:Shared}{K:PySem.W.Frag}{C:Nat→Addr}(hK:X.K=K)(I:Inv X pins σ H s)(z:Same Z H)(n:Nat)(A:Around)(d e:D)(v u:V)(x y:Value)(g1:good n d=true)(g2:good n e=true)
  (h:Rep K C Z d v) (h':Rep K C Z e u) (rx:RelV v x) (ry:RelV u y) (hu:A.units+n < cLine):SeqAt.RcAt A s x y (eqD d e):=by
 have hu0:A.units < cLine:=by omega
 cases d with
 | exc k=>cases n<;>simp[good]at g1
 | fn k=>cases n<;>simp[good]at g1
 | tup ds =>
  cases n with
  | zero=>simp[good]at g1
  | succ n =>
   have in1:A.in1.units+n < cLine:=by show A.units+1+n < cLine;omega
   rw[Rep]at h
   obtain⟨a,vs,rfl,h1,h2⟩:=h
   cases rx
   obtain⟨its,r,p,_⟩:=I.tuple (by rw[hK];exact h1.mono z:SqT X.K H a vs)
   have p':s.heap.IsTuple a its.toArray:=p
   cases e with
   | tup es =>
    rw[Rep]at h'
    obtain⟨b,us,rfl,k1,k2⟩:=h'
    cases ry
    obtain⟨its2,r2,p2,_⟩:=I.tuple (by rw[hK];exact k1.mono z:SqT X.K H b us)
    have p2':s.heap.IsTuple b its2.toArray:=p2
    rw[good]at g1 g2
    have q:=SeqAt.RcAt.tuples (A:=A) (e:=fun j=>eqD (ds.getD j .non) (es.getD j .non)) p' p2' hu0 fun j j1 j2=>by
     have j1':j < its.length:=by simpa using j1
     have j2':j < its2.length:=by simpa using j2
     have l1:j < ds.length:=by rw[h2.length,r.length];exact j1'
     have l2:j < es.length:=by rw[k2.length,r2.length];exact j2'
     have e1:ds[j]?=some ds[j]:=by simp
     have e2:es[j]?=some es[j]:=by simp
     obtain⟨w1,f1,f2⟩:=h2.get e1
     obtain⟨w2,f3,f4⟩:=k2.get e2
     obtain⟨z1,m1,m2⟩:=r.get f1
     obtain⟨z2,m3,m4⟩:=r2.get f3
     have n1:its.toArray[j]=z1:=by simpa [j1'] using m1
     have n2:its2.toArray[j]=z2:=by simpa [j2'] using m3
     rw[n1,n2]
     have g3:ds.getD j .non=ds[j]:=by simp[l1]
     have g4:es.getD j .non=es[j]:=by simp[l2]
     rw[g3,g4]
     exact iF hK I z n A.in1 _ _ w1 w2 z1 z2 (aV g1 e1) (aV g2 e2) f2 f4 m2 m4 in1
    rw[eqD,dv]
    have s1:its.toArray.size=ds.length:=by rw[List.size_toArray,h2.length,r.length]
    have s2:its2.toArray.size=es.length:=by rw[List.size_toArray,k2.length,r2.length]
    rw[s1,s2]at q
    exact q
   | lst es =>
    rw[Rep]at h'
    obtain⟨b,us,rfl,k1,k2⟩:=h'
    cases ry
    obtain⟨its2,r2,p2,_⟩:=I.list (by rw[hK];exact z.seq k1:SqL X.K H b us)
    simp only[eqD]
    exact SeqAt.RcAt.tuple_list p' p2.isList hu0
   | exc k=>simp[good]at g2
   | fn k=>simp[good]at g2
   | non=>rw[Rep]at h';subst h';cases ry;simp only[eqD];exact SeqAt.RcAt.tuple_none p' hu0
   | bl b=>rw[Rep]at h';subst h';cases ry;simp only[eqD];exact SeqAt.RcAt.tuple_bool _ p' hu0
   | int b=>rw[Rep]at h';subst h';obtain⟨t,rfl⟩:=ry;simp only[eqD];exact SeqAt.RcAt.tuple_int _ _ p' hu0
   | str b=>rw[Rep]at h';subst h';obtain⟨t,rfl⟩:=ry;simp only[eqD];exact SeqAt.RcAt.tuple_str _ _ p' hu0
 | lst ds =>
  cases n with
  | zero=>simp[good]at g1
  | succ n =>
   have in1:A.in1.units+n < cLine:=by show A.units+1+n < cLine;omega
   rw[Rep]at h
   obtain⟨a,vs,rfl,h1,h2⟩:=h
   cases rx
   obtain⟨its,r,p,_⟩:=I.list (by rw[hK];exact z.seq h1:SqL X.K H a vs)
   have p':=p.isList
   cases e with
   | lst es =>
    rw[Rep]at h'
    obtain⟨b,us,rfl,k1,k2⟩:=h'
    cases ry
    obtain⟨its2,r2,p2,_⟩:=I.list (by rw[hK];exact z.seq k1:SqL X.K H b us)
    have p2':=p2.isList
    rw[good]at g1 g2
    have s1:its.toArray.size=ds.length:=by rw[List.size_toArray,h2.length,r.length]
    have s2:its2.toArray.size=es.length:=by rw[List.size_toArray,k2.length,r2.length]
    rw[eqD,dv]
    by_cases hsz:ds.length=es.length
    ·have q:=SeqAt.RcAt.lists (A:=A) (e:=fun j=>eqD (ds.getD j .non) (es.getD j .non)) p' p2' (by rw[s1,s2];exact hsz) hu0 fun j j1 j2=>by
      have j1':j < its.length:=by simpa using j1
      have j2':j < its2.length:=by simpa using j2
      have l1:j < ds.length:=by rw[h2.length,r.length];exact j1'
      have l2:j < es.length:=by rw[k2.length,r2.length];exact j2'
      have e1:ds[j]?=some ds[j]:=by simp
      have e2:es[j]?=some es[j]:=by simp
      obtain⟨w1,f1,f2⟩:=h2.get e1
      obtain⟨w2,f3,f4⟩:=k2.get e2
      obtain⟨z1,m1,m2⟩:=r.get f1
      obtain⟨z2,m3,m4⟩:=r2.get f3
      have n1:its.toArray[j]=z1:=by simpa [j1'] using m1
      have n2:its2.toArray[j]=z2:=by simpa [j2'] using m3
      rw[n1,n2]
      have g3:ds.getD j .non=ds[j]:=by simp[l1]
      have g4:es.getD j .non=es[j]:=by simp[l2]
      rw[g3,g4]
      exact iF hK I z n A.in1 _ _ w1 w2 z1 z2 (aV g1 e1) (aV g2 e2) f2 f4 m2 m4 in1
     rw[s1]at q
     rw[hsz,Nat.min_self,beq_self_eq_true,Bool.and_true,← hsz]
     exact q
    ·have q:=SeqAt.RcAt.lists_lengths (A:=A) p' p2' (by rw[s1,s2];simpa using hsz) hu0
     rw[show (ds.length==es.length)=false by simpa using hsz,Bool.and_false]
     exact q
   | tup es =>
    rw[Rep]at h'
    obtain⟨b,us,rfl,k1,k2⟩:=h'
    cases ry
    obtain⟨its2,r2,p2,_⟩:=I.tuple (by rw[hK];exact k1.mono z:SqT X.K H b us)
    simp only[eqD]
    exact SeqAt.RcAt.list_tuple p' (show s.heap.IsTuple b its2.toArray from p2) hu0
   | exc k=>simp[good]at g2
   | fn k=>simp[good]at g2
   | non=>rw[Rep]at h';subst h';cases ry;simp only[eqD];exact SeqAt.RcAt.list_none p' hu0
   | bl b=>rw[Rep]at h';subst h';cases ry;simp only[eqD];exact SeqAt.RcAt.list_bool _ p' hu0
   | int b=>rw[Rep]at h';subst h';obtain⟨t,rfl⟩:=ry;simp only[eqD];exact SeqAt.RcAt.list_int _ _ p' hu0
   | str b=>rw[Rep]at h';subst h';obtain⟨t,rfl⟩:=ry;simp only[eqD];exact SeqAt.RcAt.list_str _ _ p' hu0
 | non =>
  rw[Rep]at h;subst h;cases rx
  cases e with
  | tup es =>
   rw[Rep]at h'
   obtain⟨b,us,rfl,k1,k2⟩:=h'
   cases ry
   obtain⟨its2,r2,p2,_⟩:=I.tuple (by rw[hK];exact k1.mono z:SqT X.K H b us)
   simp only[eqD];exact SeqAt.RcAt.none_tuple (show s.heap.IsTuple b its2.toArray from p2) hu0
  | lst es =>
   rw[Rep]at h'
   obtain⟨b,us,rfl,k1,k2⟩:=h'
   cases ry
   obtain⟨its2,r2,p2,_⟩:=I.list (by rw[hK];exact z.seq k1:SqL X.K H b us)
   simp only[eqD];exact SeqAt.RcAt.none_list p2.isList hu0
  | exc k=>cases n<;>simp[good]at g2
  | fn k=>cases n<;>simp[good]at g2
  | non=>rw[Rep]at h';subst h';cases ry;simp only[eqD];exact SeqAt.RcAt.none_none
  | bl b=>rw[Rep]at h';subst h';cases ry;simp only[eqD];exact SeqAt.RcAt.none_bool _
  | int b=>rw[Rep]at h';subst h';obtain⟨t,rfl⟩:=ry;simp only[eqD];exact SeqAt.RcAt.none_int _ _
  | str b=>rw[Rep]at h';subst h';obtain⟨t,rfl⟩:=ry;simp only[eqD];exact SeqAt.RcAt.none_str _ _
 | bl a =>
  rw[Rep]at h;subst h;cases rx
  cases e with
  | tup es =>
   rw[Rep]at h'
   obtain⟨b,us,rfl,k1,k2⟩:=h'
   cases ry
   obtain⟨its2,r2,p2,_⟩:=I.tuple (by rw[hK];exact k1.mono z:SqT X.K H b us)
   simp only[eqD];exact SeqAt.RcAt.bool_tuple _ (show s.heap.IsTuple b its2.toArray from p2) hu0
  | lst es =>
   rw[Rep]at h'
   obtain⟨b,us,rfl,k1,k2⟩:=h'
   cases ry
   obtain⟨its2,r2,p2,_⟩:=I.list (by rw[hK];exact z.seq k1:SqL X.K H b us)
   simp only[eqD];exact SeqAt.RcAt.bool_list _ p2.isList hu0
  | exc k=>cases n<;>simp[good]at g2
  | fn k=>cases n<;>simp[good]at g2
  | non=>rw[Rep]at h';subst h';cases ry;simp only[eqD];exact SeqAt.RcAt.bool_none _
  | bl b=>rw[Rep]at h';subst h';cases ry;simp only[eqD];exact SeqAt.RcAt.bool_bool _ _
  | int b=>rw[Rep]at h';subst h';obtain⟨t,rfl⟩:=ry;simp only[eqD];exact SeqAt.RcAt.bool_int _ _ _
  | str b=>rw[Rep]at h';subst h';obtain⟨t,rfl⟩:=ry;simp only[eqD];exact SeqAt.RcAt.bool_str _ _ _
 | int a =>
  rw[Rep]at h;subst h;obtain⟨t0,rfl⟩:=rx
  cases e with
  | tup es =>
   rw[Rep]at h'
   obtain⟨b,us,rfl,k1,k2⟩:=h'
   cases ry
   obtain⟨its2,r2,p2,_⟩:=I.tuple (by rw[hK];exact k1.mono z:SqT X.K H b us)
   simp only[eqD];exact SeqAt.RcAt.int_tuple _ _ (show s.heap.IsTuple b its2.toArray from p2) hu0
  | lst es =>
   rw[Rep]at h'
   obtain⟨b,us,rfl,k1,k2⟩:=h'
   cases ry
   obtain⟨its2,r2,p2,_⟩:=I.list (by rw[hK];exact z.seq k1:SqL X.K H b us)
   simp only[eqD];exact SeqAt.RcAt.int_list _ _ p2.isList hu0
  | exc k=>cases n<;>simp[good]at g2
  | fn k=>cases n<;>simp[good]at g2
  | non=>rw[Rep]at h';subst h';cases ry;simp only[eqD];exact SeqAt.RcAt.int_none _ _
  | bl b=>rw[Rep]at h';subst h';cases ry;simp only[eqD];exact SeqAt.RcAt.int_bool _ _ _
  | int b=>rw[Rep]at h';subst h';obtain⟨t,rfl⟩:=ry;simp only[eqD];exact SeqAt.RcAt.int_int _ _ _ _
  | str b=>rw[Rep]at h';subst h';obtain⟨t,rfl⟩:=ry;simp only[eqD];exact SeqAt.RcAt.int_str _ _ _ _
 | str a =>
  rw[Rep]at h;subst h;obtain⟨t0,rfl⟩:=rx
  cases e with
  | tup es =>
   rw[Rep]at h'
   obtain⟨b,us,rfl,k1,k2⟩:=h'
   cases ry
   obtain⟨its2,r2,p2,_⟩:=I.tuple (by rw[hK];exact k1.mono z:SqT X.K H b us)
   simp only[eqD];exact SeqAt.RcAt.str_tuple _ _ (show s.heap.IsTuple b its2.toArray from p2) hu0
  | lst es =>
   rw[Rep]at h'
   obtain⟨b,us,rfl,k1,k2⟩:=h'
   cases ry
   obtain⟨its2,r2,p2,_⟩:=I.list (by rw[hK];exact z.seq k1:SqL X.K H b us)
   simp only[eqD];exact SeqAt.RcAt.str_list _ _ p2.isList hu0
  | exc k=>cases n<;>simp[good]at g2
  | fn k=>cases n<;>simp[good]at g2
  | non=>rw[Rep]at h';subst h';cases ry;simp only[eqD];exact SeqAt.RcAt.str_none _ _
  | bl b=>rw[Rep]at h';subst h';cases ry;simp only[eqD];exact SeqAt.RcAt.str_bool _ _ _
  | int b=>rw[Rep]at h';subst h';obtain⟨t,rfl⟩:=ry;simp only[eqD];exact SeqAt.RcAt.str_int _ _ _ _
  | str b=>rw[Rep]at h';subst h';obtain⟨t,rfl⟩:=ry;simp only[eqD];exact SeqAt.RcAt.str_str _ _ _ _
def dEq (x y:D):R D:=if good 60 x=true∧good 60 y=true then .ok (.bl (eqD x y)) else .stuck
def rEqD (K:PySem.W.Frag)(C:Nat→Addr):R2:=fun x y H Q=>∃ Z d e,Same Z H∧Rep K C Z d x∧Rep K C Z e y∧good 60 d=true∧good 60 e=true∧Q (.bl (eqD d e)) H
section
variable {X:Cx}{F:Fx}{a b c:Expr}{ga gb gc:SS→R D}{pos:Pos}{k:Nat}
theorem v3 (hK:X.K=F.K)(hr:Room k X.A):OpR X (compareOp .Eq) (rEqD F.K F.C):=by
 intro pins s σ H x y v u Q I rx ry h
 obtain⟨Z,d,e,z,h1,h2,g1,g2,q⟩:=h
 have hu:X.A.units+60 < cLine:=by have:=hr.un;omega
 exact zM hK I z 60 X.A d e x y v u g1 g2 h1 h2 rx ry hu X.prog X.w X.xe _ ⟨.bl (eqD d e),H,I,rfl,q⟩
theorem v4:OpD F (rEqD F.K F.C) dEq:=by
 intro H Z x y dx dy Q s rx ry w
 unfold dEq at w
 split at w
 ·rename_i g
  exact⟨Z,dx,dy,s,rx,ry,g.1,g.2,WG.now w s _ bE⟩
 ·exact w.elim
theorem px (bx:BX X F k)(ha:FE X F a ga)(hb:FE X F b gb):FE X F (.Compare a [.Eq] [b] pos) (eOp dEq ga gb):=vN (v3 bx.K bx.room) v4 ha hb
theorem ci (bx:BX X F k)(ha:FE X F a ga)(hb:FE X F b gb):FT X F (.Compare a [.Eq] [b] pos) (gB (eOp dEq ga gb)):=iD (v3 bx.K bx.room) v4 ha hb
end
end FF
end
noncomputable section
namespace FF
open PySem PySem.Spec PyProof.Rows L2
def eChain (f f':D→D→R D)(ga gb gc:SS→R D):SS→R D:=fun S=>(ga S).bind fun x=>(gb S).bind fun y=>(asB (f x y)).bind fun k=>if k=true then (gc S).bind fun w=>f' y w else .ok (.bl false)
section
variable {X:Cx}{F:Fx}{a b c:Expr}{ga gb gc:SS→R D}{pos:Pos}{r r':R2}{f f':D→D→R D}{op op':CmpOp}
theorem nr (hd:OpD F r f)(hd':OpD F r' f'):∀ σ H Q,tE F (eChain f f' ga gb gc) σ H Q→tChain r r' (tE F ga) (tE F gb) (tE F gc) σ H Q:=fun σ H Q ⟨Z,S,ok,w⟩ =>
 aR ok w fun dx x H1 Z1 ok1 x1 rx w1=>aR ok1 w1 fun dy y H2 Z2 ok2 x2 ry w2=>hd H2 Z2 x y dx dy _ ok2.sub (rx.mono x2.z) ry (by
  cases e:f dx dy with
  | err k=>rw[e]at w2;exact w2
  | stuck=>rw[e]at w2;exact w2
  | ok d =>
   rw[e]at w2
   intro H3 Z3 x3 v rv
   cases d with
   | bl k =>
    rw[Rep]at rv
    subst rv
    have w3:WG F H3 Z3 (if k=true then (gc S).bind fun w=>f' dy w else .ok (.bl false)) _:=WG.more w2 x3
    refine⟨k,rfl,?_⟩
    have ok3:=ok2.more x3
    cases k with
    | false=>exact WG.now w3 ok3.sub _ bE
    | true=>exact aR ok3 w3 fun dw wv H4 Z4 ok4 x4 rw' w4=>hd' H4 Z4 y wv dy dw Q ok4.sub (ry.mono (x3.z.trans x4.z)) rw' w4
   | _=>exact w2.elim)
theorem v5 (ho:OpR X (compareOp op) r)(ho':OpR X (compareOp op') r')(hd:OpD F r f)(hd':OpD F r' f')(ha:FE X F a ga)(hb:FE X F b gb)(hc:FE X F c gc)(hm:lastMarks [op,op'] [b,c]=false:=by with_unfolding_all rfl) :
  FE X F (.Compare a [op,op'] [b,c] pos) (eChain f f' ga gb gc):=(vD ho ho' ha hb hc hm).weak (nr hd hd')
theorem v6 (ho:OpR X (compareOp op) r)(ho':OpR X (compareOp op') r')(hd:OpD F r f)(hd':OpD F r' f')(ha:FE X F a ga)(hb:FE X F b gb)(hc:FE X F c gc)(hm:lastMarks [op,op'] [b,c]=false:=by with_unfolding_all rfl) :
  FT X F (.Compare a [op,op'] [b,c] pos) (gB (eChain f f' ga gb gc)):=(vE ho ho' ha hb hc hm).weak (vO (nr hd hd'))
theorem iZ (ha:FE X F a ga)(hb:FE X F b gb)(hc:FE X F c gc)(hm:lastMarks [.LtE,.LtE] [b,c]=false:=by with_unfolding_all rfl):FE X F (.Compare a [.LtE,.LtE] [b,c] pos) (eChain dLe dLe ga gb gc):=v5 sH sH (iE fun _ _ _=>bE) (iE fun _ _ _=>bE) ha hb hc hm
theorem xV (ha:FE X F a ga)(hb:FE X F b gb)(hc:FE X F c gc)(hm:lastMarks [.LtE,.LtE] [b,c]=false:=by with_unfolding_all rfl):FT X F (.Compare a [.LtE,.LtE] [b,c] pos) (gB (eChain dLe dLe ga gb gc)):=v6 sH sH (iE fun _ _ _=>bE) (iE fun _ _ _=>bE) ha hb hc hm
end
def dIs:D→D→R D
 | x,.non=>.ok (.bl (match x with | .non=>true | _=>false))
 | x,.bl b=>.ok (.bl (match x with | .bl a=>a==b | _=>false))
 | _,_=>.stuck
def dIsNot (x y:D):R D:=(asB (dIs x y)).bind fun k=>.ok (.bl (!k))
def isV:V→V→Bool
 | .non,.non=>true
 | .bl a,.bl b=>a==b
 | _,_=>false
section
variable {X:Cx}{F:Fx}{a b:Expr}{ga gb:SS→R D}{pos:Pos}
theorem v7:OpR X (compareOp .Is) (fun x y H Q=>(y=.non∨∃ b,y=.bl b)∧Q (.bl (isV x y)) H):=by
 intro pins s σ H x y v u Q I rx ry h
 obtain⟨hy,q⟩:=h
 rcases hy with rfl | ⟨b,rfl⟩
 ·cases ry
  refine is_none_gen (gg I q ?_)
  cases x<;>first
   | (cases rx;rfl)
   | (obtain⟨t,rfl⟩:=rx;rfl)
 ·cases ry
  cases x<;>first
   | (obtain⟨t,rfl⟩:=rx;exact wpAny_pure (gg I q rfl))
   | (cases rx;exact wpAny_pure (gg I q rfl))
   | (cases rx;rename_i a;exact wpAny_pure (gg I q (by cases a<;>cases b<;>rfl)))
theorem ui:OpR X (compareOp .IsNot) (fun x y H Q=>(y=.non∨∃ b,y=.bl b)∧Q (.bl (!isV x y)) H):=by
 intro pins s σ H x y v u Q I rx ry h
 obtain⟨hy,q⟩:=h
 rcases hy with rfl | ⟨b,rfl⟩
 ·cases ry
  refine isnot_none_gen (gg I q ?_)
  cases x<;>first
   | (cases rx;rfl)
   | (obtain⟨t,rfl⟩:=rx;rfl)
 ·cases ry
  cases x<;>first
   | (obtain⟨t,rfl⟩:=rx;exact wpAny_pure (gg I q rfl))
   | (cases rx;exact wpAny_pure (gg I q rfl))
   | (cases rx;rename_i a;exact wpAny_pure (gg I q (by cases a<;>cases b<;>rfl)))
theorem sN {K:PySem.W.Frag}{C:Nat→Addr}{Z:Hp}{d e:D}{x y:V}{r:D}(h:Rep K C Z d x)(h':Rep K C Z e y)(q:dIs d e=.ok r):(y=.non∨∃ b,y=.bl b)∧r=.bl (isV x y):=by
 cases e with
 | non =>
  rw[Rep]at h';subst h'
  cases q
  refine⟨.inl rfl,?_⟩
  cases d<;>rw[Rep]at h<;>first | (subst h;rfl) | (obtain⟨_,_,rfl,_⟩:=h;rfl) | (obtain⟨_,rfl,_⟩:=h;rfl)
 | bl b =>
  rw[Rep]at h';subst h'
  cases q
  refine⟨.inr ⟨b,rfl⟩,?_⟩
  cases d<;>rw[Rep]at h<;>first | (subst h;rfl) | (obtain⟨_,_,rfl,_⟩:=h;rfl) | (obtain⟨_,rfl,_⟩:=h;rfl)
 | _=>simp[dIs]at q
theorem v8 {d e:D}{k:Nat}(q:dIs d e=.err k):False:=by cases e<;>simp[dIs]at q
theorem v9:OpD F (fun x y H Q=>(y=.non∨∃ b,y=.bl b)∧Q (.bl (isV x y)) H) dIs:=by
 intro H Z x y dx dy Q s rx ry w
 cases e:dIs dx dy with
 | err k=>exact(v8 e).elim
 | stuck=>rw[e]at w;exact w.elim
 | ok r =>
  rw[e]at w
  obtain⟨h1,rfl⟩:=sN rx ry e
  exact⟨h1,WG.now w s _ bE⟩
theorem uj:OpD F (fun x y H Q=>(y=.non∨∃ b,y=.bl b)∧Q (.bl (!isV x y)) H) dIsNot:=by
 intro H Z x y dx dy Q s rx ry w
 unfold dIsNot at w
 cases e:dIs dx dy with
 | err k=>exact(v8 e).elim
 | stuck=>rw[e]at w;exact w.elim
 | ok r =>
  rw[e]at w
  obtain⟨h1,rfl⟩:=sN rx ry e
  exact⟨h1,WG.now (a:=D.bl (!isV x y)) w s _ bE⟩
theorem AE (ha:FE X F a ga)(hb:FE X F b gb):FE X F (.Compare a [.Is] [b] pos) (eOp dIs ga gb):=vN v7 v9 ha hb
theorem la (ha:FE X F a ga)(hb:FE X F b gb):FT X F (.Compare a [.Is] [b] pos) (gB (eOp dIs ga gb)):=iD v7 v9 ha hb
theorem i5 (ha:FE X F a ga)(hb:FE X F b gb):FT X F (.Compare a [.IsNot] [b] pos) (gB (eOp dIsNot ga gb)):=iD ui uj ha hb
end
def cutD (xs:List D)(lo hi:Option Int):List D:=(xs.drop (HT.sIx xs.length 0 lo)).take (HT.sIx xs.length xs.length hi - HT.sIx xs.length 0 lo)
theorem Reps.cut {K:PySem.W.Frag}{C:Nat→Addr}{Z:Hp}{ds:List D}{vs:List V}(r:Reps K C Z ds vs)(lo hi:Option Int):Reps K C Z (cutD ds lo hi) (cutV vs lo hi):=by
 unfold cutD cutV
 rw[r.length]
 exact(r.drop _).take _
def dSl (d:D)(lo hi:Option Int):R D:=match d with
 | .lst xs=>.ok (.lst (cutD xs lo hi))
 | .tup xs=>if HT.sIx xs.length 0 lo=0∧HT.sIx xs.length xs.length hi=xs.length then .stuck else .ok (.tup (cutD xs lo hi))
 | _=>.stuck
def asI (d:D):R (Option Int):=match d with
 | .int i=>.ok (some i)
 | _=>.stuck
def pNo:SS→R (Option Int):=fun _=>.ok none
def pSo (g:SS→R D):SS→R (Option Int):=fun S=>(g S).bind asI
def tP (F:Fx)(g:SS→R (Option Int)):TO:=fun σ H Q=>∃ Z S,StOk F H Z S σ∧WG F H Z (g S) fun o H' _=>Q o H'
section
variable {X:Cx}{F:Fx}{e:Expr}{lo hi:Option Expr}{g:SS→R D}{l h:SS→R (Option Int)}{pos p2:Pos}
theorem wa:PO X none (tP F pNo):=fun pins s σ H Q I ⟨Z,S,ok,w⟩=>xD pins s σ H Q I (WG.now w ok.sub)
theorem gm (he:FE X F e g):PO X (some e) (tP F (pSo g)):=fun pins s σ H Q I ⟨Z,S,ok,w⟩=>xE he pins s σ H Q I (aR ok w fun d v H1 Z1 ok1 x1 rv w1=>by
 cases d with
 | int i=>rw[Rep]at rv;exact⟨i,rv,WG.now (a:=some i) w1 ok1.sub⟩
 | _=>exact w1.elim)
theorem sO {α:Type}{σ:St}{H Z:Hp}{S:SS}{k:Option Int→R α}{P:α→Hp→Hp→Prop}{Q:Option Int→Hp→Prop}(ok:StOk F H Z S σ)(w:WG F H Z ((l S).bind k) P)
  (h:∀ o H1 Z1,StOk F H1 Z1 S σ→Ex H Z H1 Z1→WG F H1 Z1 (k o) P→Q o H1):tP F l σ H Q:=by
 refine⟨Z,S,ok,?_⟩
 cases e:l S with
 | ok d =>
  rw[e]at w
  intro H1 Z1 x
  exact h d H1 Z1 (ok.more x) x (WG.more (r:=k d) w x)
 | err k=>rw[e]at w;exact w
 | stuck=>rw[e]at w;exact w
end
def CallD (F:Fx)(r:List V→Hp→VK→Prop)(f:List D→R D):Prop:=∀ (H Z:Hp) (xs:List V) (ds:List D) (Q:VK),Same Z H→Reps F.K F.C Z ds xs→WG F H Z (f ds) (fun d H' Z'=>∀ v,Rep F.K F.C Z' d v→Q v H')→r xs H Q
section
variable {X:Cx}{F:Fx}{x:Str}{p pos:Pos}{e:Expr}{es:List Expr}{gs:SS→R (List D)}{id T:String}{r:List V→Hp→VK→Prop}{f:List D→R D}
theorem wb (hd:CallD F r f):∀ σ H Q,tE F (eCall f gs) σ H Q→tCB r (tAl F gs) σ H Q:=fun σ H Q ⟨Z,S,ok,w⟩=>bu ok w fun ds vs H1 Z1 ok1 x1 rs w1=>hd H1 Z1 vs ds Q ok1.sub rs w1
theorem eM (hc:CallR X (.builtin id) r)(hd:CallD F r f)(hg:Gl X x)(hm:X.mg x=none)(hv:bootBuiltins x=some (.builtin id))(ha:FA X F (e::es) gs)(hn:x ≠ "__name__" := by decide)(hdb:(x==("__debug__":Str))=false:=by decide)
  (he:starEach (e::es) X.env=(false,eval e X.env)::starEach es X.env:=by rfl) (hpl:(backTo pos (starEach es X.env)).any (·.1)=false:=by rfl):FE X F (.Call (.Name x p) (e::es) [] pos) (eCall f gs):=(kU hc hg hm hv ha hn hdb he hpl).weak (wb hd)
theorem uk (hc:CallR X (.type T) r)(hd:CallD F r f)(hg:Gl X x)(hm:X.mg x=none)(hv:bootBuiltins x=some (.type T))(ha:FA X F (e::es) gs)(hn:x ≠ "__name__" := by decide)(hdb:(x==("__debug__":Str))=false:=by decide)
  (he:starEach (e::es) X.env=(false,eval e X.env)::starEach es X.env:=by rfl) (hpl:(backTo pos (starEach es X.env)).any (·.1)=false:=by rfl):FE X F (.Call (.Name x p) (e::es) [] pos) (eCall f gs):=(na hc hg hm hv ha hn hdb he hpl).weak (wb hd)
end
theorem bL {K:PySem.W.Frag}{C:Nat→Addr}{Z:Hp}{d:D}{vs:List V}(r:Reps K C Z [d] vs):∃ v,vs=[v]∧Rep K C Z d v:=by
 rw[Reps]at r
 obtain⟨v,r',rfl,h1,h2⟩:=r
 rw[Reps]at h2
 exact⟨v,by rw[h2],h1⟩
def dLen:List D→R D
 | [.lst xs]=>.ok (.int xs.length)
 | [.tup xs]=>.ok (.int xs.length)
 | _=>.stuck
theorem um {F:Fx}:CallD F (fun xs H Q=>∃ p ys,xs=[.ref p]∧(SqL F.K H p ys∨SqT F.K H p ys)∧Q (.int ys.length) H) dLen:=by
 intro H Z xs ds Q s rs w
 unfold dLen at w
 split at w
 ·obtain⟨v,rfl,h⟩:=bL rs
  rw[Rep]at h
  obtain⟨a,vs,rfl,h1,h2⟩:=h
  exact⟨a,vs,rfl,.inl (s.seq h1),by rw[← h2.length];exact WG.now w s _ aI⟩
 ·obtain⟨v,rfl,h⟩:=bL rs
  rw[Rep]at h
  obtain⟨a,vs,rfl,h1,h2⟩:=h
  exact⟨a,vs,rfl,.inr (h1.mono s),by rw[← h2.length];exact WG.now w s _ aI⟩
 ·exact w.elim
def dMax2:List D→R D
 | [.int i,.int j]=>.ok (.int (if j > i then j else i))
 | _=>.stuck
theorem rz {F:Fx}:CallD F (fun xs H Q=>∃ i j,xs=[.int i,.int j]∧Q (.int (if j > i then j else i)) H) dMax2:=by
 intro H Z xs ds Q s rs w
 unfold dMax2 at w
 split at w
 ·exact⟨_,_,pq rs,WG.now w s _ aI⟩
 ·exact w.elim
def dTuple:List D→R D
 | [.lst xs]=>.ok (.tup xs)
 | [.tup xs]=>.ok (.tup xs)
 | _=>.stuck
theorem pz {F:Fx}:CallD F (fun xs H Q=>∃ p ys,xs=[.ref p]∧((SqL F.K H p ys∧∀ l,H l=none→Q (.ref l) (upd H l (.tup ys)))∨(SqT F.K H p ys∧Q (.ref p) H))) dTuple:=by
 intro H Z xs ds Q s rs w
 unfold dTuple at w
 split at w
 ·obtain⟨v,rfl,h⟩:=bL rs
  rw[Rep]at h
  obtain⟨a,vs,rfl,h1,h2⟩:=h
  refine⟨a,vs,rfl,.inl ⟨s.seq h1,fun p hp=>?_⟩⟩
  have z:Same Z (upd Z p (.tup vs)):=aF (s.free hp)
  exact w _ _ (Ex.alloc s hp) _ (by rw[Rep];exact⟨p,_,rfl,SqT.of au,h2.mono z⟩)
 ·obtain⟨v,rfl,h⟩:=bL rs
  have hh:=h
  rw[Rep]at h
  obtain⟨a,vs,rfl,h1,h2⟩:=h
  exact⟨a,vs,rfl,.inr ⟨h1.mono s,WG.now w s _ hh⟩⟩
 ·exact w.elim
def boolsD:List D→Option (List Bool)
 | []=>some []
 | .bl b::r=>(boolsD r).map (b::·)
 | _::_=>none
theorem fo {K:PySem.W.Frag}{C:Nat→Addr}{Z:Hp}:∀ {ds:List D} {vs:List V} {bs:List Bool},Reps K C Z ds vs→boolsD ds=some bs→vs=bs.map V.bl
 | [],vs,bs,r,e=>by rw[Reps]at r;cases e;exact r
 | d::ds,vs,bs,r,e=>by
  rw[Reps]at r
  obtain⟨v,r',rfl,h1,h2⟩:=r
  cases d with
  | bl b =>
   rw[boolsD]at e
   cases q:boolsD ds with
   | none=>rw[q]at e;cases e
   | some bs' =>
    rw[q]at e
    cases e
    rw[Rep]at h1
    rw[h1,fo h2 q]
    rfl
  | _=>simp[boolsD]at e
def dAll:List D→R D
 | [.lst xs]=>match boolsD xs with
  | some bs=>.ok (.bl (bs.all id))
  | none=>.stuck
 | _=>.stuck
theorem fq:∀ {bs:List Bool} {us:List Value},Vals (bs.map V.bl) us→us=bs.map Value.bool
 | [],us,h=>by rw[List.map_nil]at h;cases h;rfl
 | b::bs,us,h=>by
  rw[List.map_cons]at h
  cases h with
  | cons r t =>
   have r':_=Value.bool b:=r
   rw[r',fq t]
   rfl
theorem lb {X:Cx}(hc:X.calm=true):CallR X (.builtin "all") (fun xs H Q=>∃ (p:Addr) (bs:List Bool),xs=[.ref p]∧SqL X.K H p (bs.map V.bl)∧Q (.bl (bs.all id)) H):=by
 intro pins s σ H xs us Q I r h
 obtain⟨p,bs,rfl,hq,q⟩:=h
 obtain⟨u,rfl,ru⟩:=vals1 r
 cases ru
 obtain⟨its,rv,pl,hz⟩:=I.list hq
 have e:=fq rv
 subst e
 have hlt:p < s.heap.objs.size:=by obtain⟨o,_,ho,_⟩:=pl;exact Heap.lt_size ho
 refine call_all_walk (wpAny_pyIter_list pl.isList ⟨s.heap.objs.size,_,_,_,_,_,fun i=>bs.getD i false,rfl,Walks.list (show X.A.in1.handled=none from I.ok.hd hc) s.heap.objs.size p (Nat.ne_of_lt hlt) (bs.map Value.bool).toArray,⟨⟨_,Heap.get?_push_size _ rfl,rfl,rfl⟩,?_⟩,?_,fun h' tk hk=>?_⟩)
 ·obtain⟨o,ho,h2,n,h3⟩:=pl.isList
  exact⟨o,Heap.get?_push_of_some _ ho,h2,n,h3⟩
 ·intro i v s' Q' E' hp hq'
  have hp':bs[i]?.map Value.bool=some v:=by simpa using hp
  cases e:bs[i]? with
  | none=>rw[e]at hp';cases hp'
  | some b =>
   rw[e]at hp'
   cases hp'
   refine wpAny_truthy_bool ?_
   have:bs.getD i false=b:=by simp[List.getD,e]
   have hq2:Q' (bs.getD i false) s':=hq'
   rw[this]at hq2
   exact hq2
 ·have hall:(List.range (bs.map Value.bool).toArray.size).all (fun i=>bs.getD i false)=bs.all id:=by
   rw[List.size_toArray,List.length_map]
   rw[Bool.eq_iff_iff,List.all_eq_true,List.all_eq_true]
   constructor
   ·intro h b hb
    obtain⟨i,hi,rfl⟩:=List.mem_iff_getElem.mp hb
    have:=h i (List.mem_range.mpr hi)
    simpa [List.getD,hi] using this
   ·intro h i hi
    have hi':=List.mem_range.mp hi
    have:=h bs[i] (List.getElem_mem hi')
    simpa [List.getD,hi'] using this
  rw[hall]
  exact⟨.bl (bs.all id),H,I.kept fun b o e=>hk b o (by simp;exact Nat.ne_of_lt (Heap.lt_size e)) (Heap.get?_push_of_some _ e),rfl,q⟩
theorem uo {F:Fx}:CallD F (fun xs H Q=>∃ (p:Addr) (bs:List Bool),xs=[.ref p]∧SqL F.K H p (bs.map V.bl)∧Q (.bl (bs.all id)) H) dAll:=by
 intro H Z xs ds Q s rs w
 unfold dAll at w
 split at w
 ·split at w
  ·rename_i bs e
   obtain⟨v,rfl,h⟩:=bL rs
   rw[Rep]at h
   obtain⟨a,vs,rfl,h1,h2⟩:=h
   have e2:=fo h2 e
   subst e2
   exact⟨a,bs,rfl,s.seq h1,WG.now w s _ bE⟩
  ·exact w.elim
 ·exact w.elim
section
variable {X:Cx}{F:Fx}{p pos:Pos}{e:Expr}{es:List Expr}{gs:SS→R (List D)}{k:Nat}
theorem bi (bx:BX X F k)(hg:Gl X "len")(hm:X.mg "len"=none)(ha:FA X F [e] gs)(he:starEach [e] X.env=(false,eval e X.env)::starEach [] X.env:=by rfl)(hpl:(backTo pos (starEach [] X.env)).any (·.1)=false:=by rfl):FE X F (.Call (.Name "len" p) [e] [] pos) (eCall dLen gs) :=
 eM (by have:=oa (X:=X);rw[bx.K]at this;exact this) um hg hm PySem.boot_len ha (he:=he) (hpl:=hpl)
theorem xW {e2:Expr}(bx:BX X F k)(hg:Gl X "max")(hm:X.mg "max"=none)(ha:FA X F [e,e2] gs)(he:starEach [e,e2] X.env=(false,eval e X.env)::starEach [e2] X.env:=by rfl)(hpl:(backTo pos (starEach [e2] X.env)).any (·.1)=false:=by rfl) :
  FE X F (.Call (.Name "max" p) [e,e2] [] pos) (eCall dMax2 gs):=eM (tW bx.calm) rz hg hm (by decide +kernel) ha (he:=he) (hpl:=hpl)
theorem bd (bx:BX X F k)(hg:Gl X "tuple")(hm:X.mg "tuple"=none)(ha:FA X F [e] gs)(he:starEach [e] X.env=(false,eval e X.env)::starEach [] X.env:=by rfl)(hpl:(backTo pos (starEach [] X.env)).any (·.1)=false:=by rfl):FE X F (.Call (.Name "tuple" p) [e] [] pos) (eCall dTuple gs) :=
 uk (by have:=mr (X:=X);rw[bx.K]at this;exact this) pz hg hm (by decide +kernel) ha (he:=he) (hpl:=hpl)
theorem zN (bx:BX X F k)(hg:Gl X "all")(hm:X.mg "all"=none)(ha:FA X F [e] gs)(he:starEach [e] X.env=(false,eval e X.env)::starEach [] X.env:=by rfl)(hpl:(backTo pos (starEach [] X.env)).any (·.1)=false:=by rfl):FE X F (.Call (.Name "all" p) [e] [] pos) (eCall dAll gs) :=
 eM (id := "all") (by have:=lb (X:=X) bx.calm;rw[bx.K]at this;exact this) uo hg hm (by decide +kernel) ha (he:=he) (hpl:=hpl)
end
end FF
end
noncomputable section
namespace FF
open PySem PySem.Spec PySem.Calls PyProof.Rows PySem.W
def ExcAt (a C:Addr)(h:Heap):Prop:=∃ o,h.get? a=some o∧o.cls=.ref C∧∃ vs,o.data=.fields vs
structure ExcK (K:Frag)(C:Addr):Prop where
 ga:findIn K (.ref C) "__getattribute__"=some (some (.builtin "BaseException.__getattribute__"))
 gt:findIn K (.ref C) "__getattr__"=some none
 cl:findIn K (.ref C) "__class__"=some (some (.builtin "object.__class__"))
 be:subIn K (.ref C) (.type "BaseException")=some true
 ob:subIn K (.ref C) (.type "object")=some true
 ty:(clsIn K C).isSome=true
section
variable {prog:Program}{w:World}{A:Around}{E:Value→Shared→Prop}{h:Heap}{g:Array GenState}{d:Drawn}{t:Nat}{os:OsState}{a C:Addr}{K:Frag}{o:Obj}{vs:Array Value}
theorem rA {M:Model}(p:ExcAt a C h):Looks M h (typeOf (.ref a)) (.ref C):=by
 obtain⟨o,h1,h2,h3⟩:=p
 exact h2 ▸ (Looks.ld h1).andThen .now
theorem rB {M:Model}(X:K.In h)(k:ExcK K C):Looks M h (isType (.ref C)) true:=by
 have z:=k.ty
 unfold clsIn at z
 split at z
 ·rename_i c' d' cd' sl' ho
  intro A' Q' E' s' kk q
  unfold isType loadHead
  exact wpAny_bind (wpAny_loadPart (kk _ _ (X _ _ ho)) (wpAny_pure q))
 ·cases z
theorem my {R:Result→Shared→Prop}(X:K.In h)(k:ExcK K C)(hx:h.get? a=some o)(hc:o.cls=.ref C)(hq:R (.ok (.ret (.ref C))) ⟨h,g,d,t,os⟩) :
  codeAny (model prog w) A (.call (.builtin "getset_descriptor.__get__") ⟨[.builtin "object.__class__",.ref a,.ref C],[]⟩) R ⟨h,g,d,t,os⟩:=by
 have hT5:(⟨h,g,d,t,os⟩:Shared).TypeIs (.builtin "object.__class__") "getset_descriptor" := F.typeOf_object_class
 have L8:Looks (model prog w) h (isSubtype (.ref C) (.type (".".intercalate ("object.__class__".cutAt '.').dropLast))) true:=by
  rw[F.owner_object_class];exact looks_subIn X k.ob
 refine codeAny_call_builtin F.slot_gs_get.plain F.entry_gs_get (F.slot_gs_get.check _ _ _ _ _ _ _ _ hT5 (F.args_gs_get _ _ _) ?_)
 repeat (any_goals (first | assumption | (with_reducible refine wpAny_loadPart_at hx ?_;rw[hc]) | (with_reducible refine L8.at ?_) | wp_step))
 refine⟨Code.quiet_builtin _ (by decide +kernel),codeAny_builtin F.entry_object_class ?_⟩
 repeat (any_goals (first | assumption | (with_reducible refine wpAny_loadPart_at hx ?_;rw[hc]) | wp_step))
theorem kA {tk:Tok}{Q:Fin→Shared→Prop}(X:K.In h)(k:ExcK K C)(hx:h.get? a=some o)(hc:o.cls=.ref C)(hq:Q (.done (.ret (.ref C))) ⟨h,g,d,t,os⟩) :
  wpAny (model prog w) A (Builtin.«object.__getattribute__» ⟨[.ref a,.str "__class__" tk],[]⟩) Q E ⟨h,g,d,t,os⟩:=by
 have hT5:(⟨h,g,d,t,os⟩:Shared).TypeIs (.builtin "object.__class__") "getset_descriptor" := F.typeOf_object_class
 have f5:=F.typeOf_object_class
 have f6:=F.slot_gs_get.lookup
 have f7:=F.slot_gs_set.lookup
 have L4:Looks (model prog w) h (typeLookup (.ref C) "__class__") _:=looks_findIn X k.cl
 repeat (any_goals (first | assumption | (with_reducible refine wpAny_loadPart_at hx ?_;rw[hc]) | (with_reducible refine L4.at ?_) | wp_step))
 refine my X k hx hc ?_
 repeat (any_goals (first | assumption | wp_step))
theorem uq {M:Model}{nameV:Value}{Q:Unit→Shared→Prop}(X:K.In h)(k:ExcK K C)(hx:h.get? a=some o)(hc:o.cls=.ref C)(hq:Q () ⟨h,g,d,t,os⟩):wpAny M A (checkBuiltinCall "BaseException.__getattribute__" ⟨[.ref a,nameV],[]⟩) Q E ⟨h,g,d,t,os⟩:=by
 have hk:builtinKind "BaseException.__getattribute__"=some .slot:=by decide +kernel
 have hsplit:splitId "BaseException.__getattribute__"=some ("BaseException","__getattribute__"):=by decide +kernel
 have L8:Looks M h (isSubtype (.ref C) (.type "BaseException")) true:=looks_subIn X k.be
 have ha:=F.args_bexc_ga (.ref a) nameV
 simp only[checkBuiltinCall,hk,hsplit]
 refine wpAny_bind ?_
 ·unfold isInstance
  repeat (first | (with_reducible refine wpAny_loadPart_at hx ?_;rw[hc]) | (with_reducible refine L8.at ?_) | wp_step)
  exact hq
theorem lc {tk:Tok}{R:Result→Shared→Prop}(X:K.In h)(k:ExcK K C)(hx:h.get? a=some o)(hc:o.cls=.ref C)(hq:R (.ok (.ret (.ref C))) ⟨h,g,d,t,os⟩) :
  codeAny (model prog w) A (.call (.builtin "BaseException.__getattribute__") ⟨[.ref a,.str "__class__" tk],[]⟩) R ⟨h,g,d,t,os⟩ :=
 codeAny_call_builtin F.attr_ValueError.ga.plain F.entry_bexc_ga (uq X k hx hc (kA X k hx hc hq))
theorem om {tk:Tok}{Q:Value→Shared→Prop}(X:K.In h)(k:ExcK K C)(hx:h.get? a=some o)(hc:o.cls=.ref C)(hq:Q (.ref C) ⟨h,g,d,t,os⟩) :
  wpAny (model prog w) A (getAttrBy (.ref a) (.str "__class__" tk) false) Q E ⟨h,g,d,t,os⟩:=by
 have f3:=F.attr_ValueError.ga.bind (.ref a)
 have L1:Looks (model prog w) h (typeLookup (.ref C) "__getattribute__") _:=looks_findIn X k.ga
 have L2:Looks (model prog w) h (typeLookup (.ref C) "__getattr__") _:=looks_findIn X k.gt
 have hx2:(Value.builtin "BaseException.__getattribute__" == Value.builtin "object.__getattribute__")=false:=by decide +kernel
 have hx1:(onTheHeap (Value.ref C)&&Value.builtin "BaseException.__getattribute__" == Value.builtin "object.__getattribute__")=false:=by rw[hx2];rfl
 repeat (any_goals (first | assumption | (with_reducible refine wpAny_loadPart_at hx ?_;rw[hc]) | (with_reducible refine L1.at ?_) | (with_reducible refine L2.at ?_) | wp_step))
 refine lc X k hx hc ?_
 repeat (any_goals (first | assumption | wp_step))
theorem lg {Q:Option Value→Shared→Prop}(X:K.In h)(k:ExcK K C)(hx:h.get? a=some o)(hc:o.cls=.ref C)(hq:Q (some (.ref C)) ⟨h,g,d,t+1,os⟩) :
  wpAny (model prog w) A (getAttr? (.ref a) "__class__") Q E ⟨h,g,d,t,os⟩:=by
 unfold getAttr? getAttrBy?
 repeat (any_goals (first | assumption | with_reducible apply om X k hx hc | wp_step))
end
end FF
end
noncomputable section
namespace FF
open PySem PySem.Spec PyProof.Rows L2
theorem wc {K:PySem.W.Frag}{a C:Addr}(k:ExcK K C):PySem.W.KitX K (.ref a) (.ref C) (ExcAt a C) where
 ty:=fun _ _ _ p=>rA p
 it:=fun _ _ X _=>rB X k
 ne:=fun h tp dd its n sl X htp=>by
  refine Bool.eq_false_iff.mpr fun q=>?_
  have e:C=tp:=Value.ref.inj (beq_iff_eq.mp q)
  subst e
  have z:=k.ty
  unfold PySem.W.clsIn at z
  split at z
  ·rename_i c' d' cd' sl' ho
   have z:=(X _ _ ho).symm.trans htp
   cases z
  ·cases z
 ca:=fun {_ _ _ _ _ s} X p h=>by
  obtain⟨hh,g,d,t,os⟩:=s
  obtain⟨o,h1,h2,_⟩:=p
  exact lg X k h1 h2 h
def tyD (C:Nat→Addr):D→Value
 | .non=>.type "NoneType"
 | .bl _=>.type "bool"
 | .int _=>.type "int"
 | .str _=>.type "str"
 | .tup _=>.type "tuple"
 | .lst _=>.type "list"
 | .exc k=>.ref (C k)
 | .fn _=>.none
def cV:V→Value
 | .ty n=>.type n
 | .ref a=>.ref a
 | _=>.none
theorem pA {X:Cx}{C:Nat→Addr}:CallR X (.builtin "isinstance") (fun xs H Q=>∃ (Z:Hp) (d:D) (x y:V) (b:Bool),xs=[x,y]∧Same Z H∧Rep X.K C Z d x∧((∃ n,y=.ty n)∨∃ a,y=.ref a) ∧
  PySem.W.kitOne X.K (tyD C d) (cV y)=some b∧(∀ j,d=.exc j→ExcK X.K (C j))∧(∀ j,d≠.fn j)∧Q (.bl b) H):=by
 intro pins s σ H xs us Q I r h
 obtain⟨Z,d,x,y,b,rfl,sm,rp,hy,e,he,hf,q⟩:=h
 obtain⟨u,c,rfl,ru,rc⟩:=vals2 r
 have hc:c=cV y:=by
  rcases hy with ⟨n,rfl⟩ | ⟨a,rfl⟩<;>exact rc
 subst hc
 have fin:∀ tk,EP X pins σ Q (.bool b) { s with toks:=tk }:=fun tk=>⟨.bl b,H,I.tok tk,rfl,q⟩
 cases d with
 | non=>rw[Rep]at rp;subst rp;cases (show u=Value.none from ru);exact PySem.W.kia_one PySem.W.kitx_none I.kIn True.intro e (fun z=>nomatch z) fin
 | bl k=>rw[Rep]at rp;subst rp;cases (show u=Value.bool k from ru);exact PySem.W.kia_one PySem.W.kitx_bool I.kIn True.intro e (fun z=>nomatch z) fin
 | int i=>rw[Rep]at rp;subst rp;obtain⟨t,rfl⟩:=(show ∃ t,u=Value.int i t from ru);exact PySem.W.kia_one PySem.W.kitx_int I.kIn True.intro e (fun z=>nomatch z) fin
 | str i=>rw[Rep]at rp;subst rp;obtain⟨t,rfl⟩:=(show ∃ t,u=Value.str i t from ru);exact PySem.W.kia_one PySem.W.kitx_str I.kIn True.intro e (fun z=>nomatch z) fin
 | tup ds =>
  rw[Rep]at rp
  obtain⟨a,vs,rfl,h1,h2⟩:=rp
  cases (show u=Value.ref a from ru)
  obtain⟨its,_,⟨o,p1,p2,_⟩,_⟩:=I.tuple (h1.mono sm)
  exact PySem.W.kia_one PySem.W.kitx_tuple I.kIn ⟨o,p1,p2⟩ e (fun z=>nomatch z) fin
 | lst ds =>
  rw[Rep]at rp
  obtain⟨a,vs,rfl,h1,h2⟩:=rp
  cases (show u=Value.ref a from ru)
  obtain⟨its,_,⟨o,n,p1,p2,_⟩,_⟩:=I.list (sm.seq h1)
  exact PySem.W.kia_one PySem.W.kitx_list I.kIn ⟨o,p1,p2⟩ e (fun z=>nomatch z) fin
 | fn k=>exact absurd rfl (hf k)
 | exc k =>
  rw[Rep]at rp
  obtain⟨a,rfl,h1⟩:=rp
  cases (show u=Value.ref a from ru)
  obtain⟨o,h2,h3,h5⟩:=(show ObjOk X.prog X.w H s.heap a (excO C k a) from I.hok a _ (sm a _ h1)).1
  exact PySem.W.kia_one (wc (he k rfl)) I.kIn ⟨o,h2,h3,h5⟩ e (fun z=>nomatch z) fin
def dIsA (q:D→Option Bool)(d:D):R D:=match q d with
 | some b=>.ok (.bl b)
 | none=>.stuck
def eIs (q:D→Option Bool)(g:SS→R D):SS→R D:=fun S=>(g S).bind (dIsA q)
structure IsA (K:PySem.W.Frag)(C:Nat→Addr)(y:V)(q:D→Option Bool):Prop where
 one:(∃ n,y=.ty n)∨∃ a,y=.ref a
 ans:∀ d b,q d=some b→PySem.W.kitOne K (tyD C d) (cV y)=some b
 exc:∀ j b,q (.exc j)=some b→ExcK K (C j)
 fn:∀ j,q (.fn j)=none
section
variable {X:Cx}{F:Fx}{p pos:Pos}{e ec:Expr}{g:SS→R D}{k:Nat}{y:V}{q:D→Option Bool}
theorem zO (bx:BX X F k)(hq:IsA F.K F.C y q):∀ σ H Q,tE F (eIs q g) σ H Q→tCB (fun xs H Q=>∃ (Z:Hp) (d:D) (x y:V) (b:Bool),xs=[x,y]∧Same Z H∧Rep X.K F.C Z d x∧((∃ n,y=.ty n)∨∃ a,y=.ref a) ∧
  PySem.W.kitOne X.K (tyD F.C d) (cV y)=some b∧(∀ j,d=.exc j→ExcK X.K (F.C j))∧(∀ j,d≠.fn j)∧Q (.bl b) H) (tCons (tE F g) (tCons (tC y) tNil)) σ H Q:=fun σ H Q ⟨Z,S,ok,w⟩ =>
 aR ok w fun d v H1 Z1 ok1 x1 rv w1=>by
  cases e:q d with
  | none=>unfold dIsA at w1;rw[e]at w1;exact w1.elim
  | some b =>
   unfold dIsA at w1
   rw[e]at w1
   refine⟨Z1,d,v,y,b,rfl,ok1.sub,by rw[bx.K];exact rv,hq.one,by rw[bx.K];exact hq.ans d b e,fun j ej=>?_,fun j ej=>(by rw[ej,hq.fn j]at e;cases e),WG.now (a:=D.bl b) w1 ok1.sub _ bE⟩
   subst ej
   rw[bx.K]
   exact hq.exc j b e
theorem al (bx:BX X F k)(hg:Gl X "isinstance")(hm:X.mg "isinstance"=none)(hq:IsA F.K F.C y q)(ha:FE X F e g)(hc:PE X ec (tC y))(he:starEach [e,ec] X.env=(false,eval e X.env)::starEach [ec] X.env:=by rfl)
  (he2:starEach [ec] X.env=(false,eval ec X.env)::starEach [] X.env:=by rfl) (hpl:(backTo pos (starEach [ec] X.env)).any (·.1)=false:=by rfl) :
  FE X F (.Call (.Name "isinstance" p) [e,ec] [] pos) (eIs q g) :=
 (kU (id := "isinstance") pA hg hm (by decide +kernel) (kM ha (kM hc rg he2) he) (he:=he) (hpl:=hpl)).weak (zO bx hq)
end
def qTup:D→Option Bool
 | .tup _=>some true
 | .exc _=>none
 | .fn _=>none
 | _=>some false
def qInt:D→Option Bool
 | .int _=>some true
 | .bl _=>some true
 | .exc _=>none
 | .fn _=>none
 | _=>some false
def qBool:D→Option Bool
 | .bl _=>some true
 | .exc _=>none
 | .fn _=>none
 | _=>some false
theorem ba {K:PySem.W.Frag}{C:Nat→Addr}:IsA K C (.ty "tuple") qTup:=⟨.inl ⟨_,rfl⟩,fun d b e=>by cases d<;>cases e<;>with_unfolding_all rfl,fun j b e=>(nomatch e),fun _=>rfl⟩
theorem i6 {K:PySem.W.Frag}{C:Nat→Addr}:IsA K C (.ty "int") qInt:=⟨.inl ⟨_,rfl⟩,fun d b e=>by cases d<;>cases e<;>with_unfolding_all rfl,fun j b e=>(nomatch e),fun _=>rfl⟩
theorem gn {K:PySem.W.Frag}{C:Nat→Addr}:IsA K C (.ty "bool") qBool:=⟨.inl ⟨_,rfl⟩,fun d b e=>by cases d<;>cases e<;>with_unfolding_all rfl,fun j b e=>(nomatch e),fun _=>rfl⟩
end FF
end
noncomputable section
namespace FF
open PySem PySem.Spec PyProof.Rows L2
def sOwn (i:Nat)(gs:SS→R (List D)):SS→O:=fun S=>rO ((gs S).bind fun ds=>if ds.length≤16777216 then .ok (.nx (S.set i (some (.own ds)))) else .stuck)
def sApp (i:Nat)(gs:SS→R (List D)):SS→O:=fun S=>match S[i]? with
 | some (some (.own ds))=>rO ((gs S).bind fun es=>match es with
  | [d]=>if ds.length < 16777216 then .ok (.nx (S.set i (some (.own (ds++[d]))))) else .stuck
  | _=>.stuck)
 | _=>.stuck
def sExt (i:Nat)(gs:SS→R (List D)):SS→O:=fun S=>match S[i]? with
 | some (some (.own ds))=>rO ((gs S).bind fun es=>match es with
  | [.lst xs]=>if ds.length+xs.length≤16777216 then .ok (.nx (S.set i (some (.own (ds++xs))))) else .stuck
  | [.tup xs]=>if ds.length+xs.length≤16777216 then .ok (.nx (S.set i (some (.own (ds++xs))))) else .stuck
  | _=>.stuck)
 | _=>.stuck
def rExt (K:PySem.W.Frag):V→List V→Hp→VK→Prop:=fun x vs H Q=>∃ l b xs zs,x=.ref l∧vs=[.ref b]∧H l=some (.lst xs)∧(SqL K H b zs∨SqT K H b zs)∧xs.length+zs.length≤sizeLine∧Q .non (upd H l (.lst (xs++zs)))
theorem zP {X:Cx}:MtR X "list.extend" (rExt X.K):=by
 intro pins s σ H x vs v us Q I rx rv h
 obtain⟨l,b,xs,zs,rfl,rfl,hH,hB,hz,q⟩:=h
 cases rx
 obtain⟨u,rfl,ru⟩:=rv.one
 cases ru
 obtain⟨z,its,n,r,hl,e⟩:=I.lstM hH
 rcases hB with hB | hB
 ·obtain⟨its2,r2,⟨⟨c2,d2,dt2,sl2⟩,n2,e2,p2,p3,p4⟩,z2⟩:=I.list hB
  simp only at p2 p3 p4
  subst p2 p3 p4
  have hl2:=r2.length
  have hsz:its.toArray.size+its2.toArray.size≤sizeLine:=by rw[List.size_toArray,List.size_toArray];omega
  refine call_meets F.slot_list_extend ⟨_,e,rfl⟩ F.entry_list_extend (F.args_list_extend_2 _ _) (t9 l b its.toArray its2.toArray n n2 _ _ hsz) ⟨e,e2,?_⟩
  refine⟨.non,_,I.lset (its':=its++its2) hH e (by simp) (r.append r2) ?_,rfl,q⟩
  rw[List.length_append]
  omega
 ·obtain⟨its2,r2,⟨⟨c2,d2,dt2,sl2⟩,e2,p2,n2,p3⟩,z2⟩:=I.tuple hB
  simp only at p2 p3
  subst p2 p3
  have hl2:=r2.length
  have hsz:its.toArray.size+its2.toArray.size≤sizeLine:=by rw[List.size_toArray,List.size_toArray];omega
  refine call_meets F.slot_list_extend ⟨_,e,rfl⟩ F.entry_list_extend (F.args_list_extend_2 _ _) (ub l b its.toArray its2.toArray n n2 _ _ hsz) ⟨e,e2,?_⟩
  refine⟨.non,_,I.lset (its':=its++its2) hH e (by simp) (r.append r2) ?_,rfl,q⟩
  rw[List.length_append]
  omega
section
variable {X:Cx}{F:Fx}{e:Expr}{es:List Expr}{gs:SS→R (List D)}{pos p0 apos cpos lpos:Pos}{x:Str}
theorem ck (i:Nat){pos':Pos}(hN:X.N.Nodup)(h:FA X F es gs)(hi:X.N[i]?=some x:=by rfl)(hx:Loc X.env.scope x:=by first | exact Or.inl rfl | exact Or.inr rfl)
  (hs:swapsWith (.List es lpos) (some (.Name x pos')) pos.line X.env=pure false:=by rfl) (hf:X.fn x=true∨X.env.scope.names.lookup x=some .local:=by first | exact .inl rfl | exact .inr rfl):FS X F (.Assign [.Name x pos'] (.List es lpos) pos) (sOwn i gs) :=
 (qZ hN hi hx (vH h) hs hf).weak fun D σ H ⟨Z,S,ok,w⟩=>bu ok (WO.wg ok w) fun ds vs H1 Z1 ok1 x1 rs w1=>by
  split at w1
  ·rename_i hl
   refine⟨by rw[← rs.length,sizeLine_eq];exact hl,fun p hp=>?_⟩
   have x2:Ex H1 Z1 (upd H1 p (.lst vs)) Z1:=Ex.hidden ok1.sub hp
   have w2:=WG.now w1 ok1.sub
   refine w2 _ _ Z1 (Same.refl _) ((ok1.more x2).setOwn (fun j _=>?_) au (ok1.sub.free hp) (ok1.ex.same.free hp) rs)
   by_cases q:∃ es,S[j]?=some (some (.own es))
   ·obtain⟨es,q⟩:=q
    obtain⟨a,ws,f1,f2,_⟩:=ok1.own j es q
    refine .inl fun z=>?_
    rw[f1]at z
    cases z
    rw[hp]at f2
    cases f2
   ·exact .inr fun es z=>q ⟨es,z⟩
  ·exact w1.elim
theorem hG (i:Nat)(ha:FA X F [e] gs)(hi:X.N[i]?=some x:=by rfl)(hv:Vis X.env.scope x:=by first | exact Or.inl rfl | exact Or.inr (Or.inl rfl) | exact Or.inr (Or.inr rfl))(hd:(x==("__debug__":Str))=false:=by decide)
  (hcd:(x==("__classdict__":Str))=false:=by decide)
  (hbase:attributeBase (.Name x p0) "append" X.env (eval (.Name x p0) X.env)=eval (.Name x p0) X.env:=by rfl)
  (hfew:((backTo cpos (starEach [e] X.env)).all (fun x=>!x.1)&&(backToKw cpos (keywordEach [] X.env)).all (fun x=>x.1.isSome)
   && decide ([e].length+([]:List Keyword).length+(if ([]:List Keyword).isEmpty then 0 else 1) < 30))=true:=by rfl)
  (hline:(apos.endLine==cpos.line)=true:=by rfl) (hs:starEach [e] X.env=(false,eval e X.env)::starEach [] X.env:=by rfl) (hplain:(backTo cpos (starEach [] X.env)).any (·.1)=false:=by rfl)
  (hsw:swapsWith (.Call (.Attribute (.Name x p0) "append" apos) [e] [] cpos) none pos.line X.env=pure false:=by rfl) :
  FS X F (.Expr (.Call (.Attribute (.Name x p0) "append" apos) [e] [] cpos) pos) (sApp i gs) :=
 (nZ (nc PySem.F.plainAttrs_list PySem.F.slot_list_append (by kernel_rfl) (ng (X:=X)) (kT hi hv hd hcd) ha hbase hfew hline hs hplain) hsw).weak fun D σ H ⟨Z,S,ok,w⟩=>by
  unfold sApp at w
  split at w
  ·rename_i ds e0
   obtain⟨a,vs,e1,e2,e3,e4,r⟩:=ok.own i ds e0
   refine⟨.ref a,e1,.inl ⟨rfl,vs,SqL.of e2⟩,bu ok (WO.wg ok w) fun es' us H1 Z1 ok1 x1 rs w1=>?_⟩
   split at w1
   ·rename_i d
    split at w1
    ·rename_i hl
     obtain⟨y,rfl,ry⟩:=bL rs
     have w2:=WG.now w1 ok1.sub
     refine⟨a,vs,y,rfl,rfl,x1.same _ _ e2,by rw[← r.length,sizeLine_eq];exact hl,?_⟩
     exact w2 σ _ Z1 (Same.refl _) (ok1.write e0 e1 ((r.mono x1.z).append (Reps.cons ry Reps.nil)))
    ·exact w1.elim
   ·exact w1.elim
  ·exact w.elim
theorem bb (i:Nat)(bK:X.K=F.K)(ha:FA X F [e] gs)(hi:X.N[i]?=some x:=by rfl)(hv:Vis X.env.scope x:=by first | exact Or.inl rfl | exact Or.inr (Or.inl rfl) | exact Or.inr (Or.inr rfl))(hd:(x==("__debug__":Str))=false:=by decide)
  (hcd:(x==("__classdict__":Str))=false:=by decide)
  (hbase:attributeBase (.Name x p0) "extend" X.env (eval (.Name x p0) X.env)=eval (.Name x p0) X.env:=by rfl)
  (hfew:((backTo cpos (starEach [e] X.env)).all (fun x=>!x.1)&&(backToKw cpos (keywordEach [] X.env)).all (fun x=>x.1.isSome)
   && decide ([e].length+([]:List Keyword).length+(if ([]:List Keyword).isEmpty then 0 else 1) < 30))=true:=by rfl)
  (hline:(apos.endLine==cpos.line)=true:=by rfl) (hs:starEach [e] X.env=(false,eval e X.env)::starEach [] X.env:=by rfl) (hplain:(backTo cpos (starEach [] X.env)).any (·.1)=false:=by rfl)
  (hsw:swapsWith (.Call (.Attribute (.Name x p0) "extend" apos) [e] [] cpos) none pos.line X.env=pure false:=by rfl) :
  FS X F (.Expr (.Call (.Attribute (.Name x p0) "extend" apos) [e] [] cpos) pos) (sExt i gs) :=
 (nZ (nc PySem.F.plainAttrs_list PySem.F.slot_list_extend (by kernel_rfl) (zP (X:=X)) (kT hi hv hd hcd) ha hbase hfew hline hs hplain) hsw).weak fun D σ H ⟨Z,S,ok,w⟩=>by
  unfold sExt at w
  split at w
  ·rename_i ds e0
   obtain⟨a,vs,e1,e2,e3,e4,r⟩:=ok.own i ds e0
   refine⟨.ref a,e1,.inl ⟨rfl,vs,SqL.of e2⟩,bu ok (WO.wg ok w) fun es' us H1 Z1 ok1 x1 rs w1=>?_⟩
   split at w1
   ·rename_i xs
    split at w1
    ·rename_i hl
     obtain⟨y,rfl,ry⟩:=bL rs
     rw[Rep]at ry
     obtain⟨b,zs,rfl,h1,h2⟩:=ry
     have w2:=WG.now w1 ok1.sub
     refine⟨a,b,vs,zs,rfl,rfl,x1.same _ _ e2,.inl (by rw[bK];exact ok1.sub.seq h1),by rw[← r.length,← h2.length,sizeLine_eq];exact hl,?_⟩
     exact w2 σ _ Z1 (Same.refl _) (ok1.write e0 e1 ((r.mono x1.z).append h2))
    ·exact w1.elim
   ·rename_i xs
    split at w1
    ·rename_i hl
     obtain⟨y,rfl,ry⟩:=bL rs
     rw[Rep]at ry
     obtain⟨b,zs,rfl,h1,h2⟩:=ry
     have w2:=WG.now w1 ok1.sub
     refine⟨a,b,vs,zs,rfl,rfl,x1.same _ _ e2,.inr (by rw[bK];exact h1.mono ok1.sub),by rw[← r.length,← h2.length,sizeLine_eq];exact hl,?_⟩
     exact w2 σ _ Z1 (Same.refl _) (ok1.write e0 e1 ((r.mono x1.z).append h2))
    ·exact w1.elim
   ·exact w1.elim
  ·exact w.elim
end
def dCount (xs es:List D):R D:=match es with
 | [.bl k]=>match boolsD xs with
  | some bs=>.ok (.int (bs.countP (· == k):Nat))
  | none=>.stuck
 | _=>.stuck
def dIndex (xs es:List D):R D:=match es with
 | [.bl k]=>match boolsD xs with
  | some bs=>if bs.idxOf k < bs.length then .ok (.int (bs.idxOf k:Nat)) else .stuck
  | none=>.stuck
 | _=>.stuck
def eMethL (f:List D→List D→R D)(g:SS→R D)(gs:SS→R (List D)):SS→R D:=fun S=>(g S).bind fun d=>match d with
 | .lst xs=>(gs S).bind fun es=>f xs es
 | _=>.stuck
def rCountB (K:PySem.W.Frag):V→List V→Hp→VK→Prop:=fun x vs H Q=>∃ (l:Addr) (bs:List Bool) (k:Bool),x=.ref l∧vs=[.bl k]∧SqL K H l (bs.map V.bl)∧Q (.int (bs.countP (· == k):Nat)) H
def rIndexB (K:PySem.W.Frag):V→List V→Hp→VK→Prop:=fun x vs H Q=>∃ (l:Addr) (bs:List Bool) (k:Bool),x=.ref l∧vs=[.bl k]∧SqL K H l (bs.map V.bl)∧bs.idxOf k < bs.length∧Q (.int (bs.idxOf k:Nat)) H
theorem lh {X:Cx}{pins:List (Addr×Obj)}{σ:St}{H:Hp}{s:Shared}(I:Inv X pins σ H s){A:Around}(hu:A.units < cLine)(b k:Bool):SeqAt.EqAt A s (.bool b) (.bool k) (b==k) :=
 iF (K:=X.K) (C:=fun _=>0) (Z:=fun _=>none) rfl I (fun _ _ e=>nomatch e) 0 A (.bl b) (.bl k) (.bl b) (.bl k) _ _ rfl rfl bE bE rfl rfl (by omega)
def isB (k:Bool):Value→Bool
 | .bool b=>b==k
 | _=>false
theorem wd {X:Cx}{k:Nat}(hr:Room k X.A):MtR X "list.count" (rCountB X.K):=by
 intro pins s σ H x vs v us Q I rx rv h
 obtain⟨l,bs,k,rfl,rfl,hH,q⟩:=h
 cases rx
 obtain⟨u,rfl,ru⟩:=rv.one
 cases ru
 obtain⟨its,r,⟨⟨c2,d2,dt2,sl2⟩,n2,e2,p2,p3,p4⟩,z2⟩:=I.list hH
 have e:=fq r
 subst e
 simp only at p2 p3 p4
 subst p2 p3 p4
 refine call_meets F.slot_list_count ⟨_,e2,rfl⟩ F.entry_list_count (F.args_list_count_2 _ _) (SeqAt.list_countAt l _ n2 _ _ (.bool k) (isB k)) ⟨e2,fun y hy=>?_,?_⟩
 ·have hy':y∈bs.map Value.bool:=by simpa using hy
  obtain⟨b,_,rfl⟩:=List.mem_map.mp hy'
  exact lh I (by have:=hr.un;show X.A.units+1 < cLine;omega) b k
 ·have hc:((bs.map Value.bool).toArray.toList.countP (isB k))=bs.countP (· == k):=by
   show (bs.map Value.bool).countP (isB k)=_
   rw[List.countP_map]
   rfl
  rw[hc]
  exact⟨.int _,H,I.tok _,⟨_,rfl⟩,q⟩
theorem we {X:Cx}{k:Nat}(hr:Room k X.A):MtR X "list.index" (rIndexB X.K):=by
 intro pins s σ H x vs v us Q I rx rv h
 obtain⟨l,bs,k,rfl,rfl,hH,hj,q⟩:=h
 cases rx
 obtain⟨u,rfl,ru⟩:=rv.one
 cases ru
 obtain⟨its,r,⟨⟨c2,d2,dt2,sl2⟩,n2,e2,p2,p3,p4⟩,z2⟩:=I.list hH
 have e:=fq r
 subst e
 simp only at p2 p3 p4
 subst p2 p3 p4
 rw[List.length_map,sizeLine_eq]at z2
 have hsz:bs.idxOf k < (bs.map Value.bool).toArray.size:=by rw[List.size_toArray,List.length_map];exact hj
 have hat:∀ m (hm:m < (bs.map Value.bool).toArray.size) (hm':m < bs.length),isB k (bs.map Value.bool).toArray[m]=(bs[m]==k):=fun m hm hm'=>by simp[isB]
 refine call_meets F.slot_list_index ⟨_,e2,rfl⟩ F.entry_list_index (F.args_list_index_2 _ _) (SeqAt.list_indexAt l _ n2 _ _ (.bool k) (isB k) (bs.idxOf k) hsz (by omega) ?_ ?_) ⟨e2,fun y hy=>?_,⟨.int _,H,I.tok _,⟨_,rfl⟩,q⟩⟩
 ·rw[hat _ _ hj]
  exact List.findIdx_getElem (w:=hj)
 ·intro m hm hlt
  have hm':m < bs.length:=by omega
  rw[hat _ _ hm']
  exact Bool.eq_false_iff.mpr (by simpa using List.not_of_lt_findIdx hlt)
 ·have hy':y∈bs.map Value.bool:=by simpa using hy
  obtain⟨b,_,rfl⟩:=List.mem_map.mp hy'
  exact lh I (by have:=hr.un;show X.A.units+1 < cLine;omega) b k
section
variable {X:Cx}{F:Fx}{o e:Expr}{g:SS→R D}{gs:SS→R (List D)}{apos cpos:Pos}{k:Nat}
theorem wf {K:PySem.W.Frag}{C:Nat→Addr}{Z:Hp}{k:Bool}{vs:List V}(r:Reps K C Z [.bl k] vs):vs=[.bl k]:=by
 obtain⟨v,rfl,h⟩:=bL r
 rw[Rep]at h
 rw[h]
def MethD (F:Fx)(r:V→List V→Hp→VK→Prop)(f:List D→List D→R D):Prop:=∀ (H Z:Hp) (a:Addr) (vs:List V) (xs:List D) (us:List V) (es:List D) (Q:VK),Same Z H→SqL F.K H a vs→Reps F.K F.C Z xs vs→Reps F.K F.C Z es us →
 WG F H Z (f xs es) (fun d H' Z'=>∀ v,Rep F.K F.C Z' d v→Q v H')→r (.ref a) us H Q
theorem pB:MethD F (rCountB F.K) dCount:=by
 intro H Z a vs xs us es Q s h1 h2 rs w
 unfold dCount at w
 split at w
 ·rename_i k
  split at w
  ·rename_i bs eb
   have e3:=fo h2 eb
   subst e3
   exact⟨a,bs,k,rfl,wf rs,h1,WG.now w s _ aI⟩
  ·exact w.elim
 ·exact w.elim
theorem pC:MethD F (rIndexB F.K) dIndex:=by
 intro H Z a vs xs us es Q s h1 h2 rs w
 unfold dIndex at w
 split at w
 ·rename_i k
  split at w
  ·rename_i bs eb
   have e3:=fo h2 eb
   subst e3
   split at w
   ·rename_i hl
    exact⟨a,bs,k,rfl,wf rs,h1,hl,WG.now w s _ aI⟩
   ·exact w.elim
  ·exact w.elim
 ·exact w.elim
theorem hI {r:V→List V→Hp→VK→Prop}{f:List D→List D→R D}(hd:MethD F r f):∀ σ H Q,tE F (eMethL f g gs) σ H Q→tBM F.K "list" r (tE F g) (tAl F gs) σ H Q:=fun σ H Q ⟨Z,S,ok,w⟩=>aR ok w fun d v H1 Z1 ok1 x1 rv w1=>by
 cases d with
 | lst xs =>
  rw[Rep]at rv
  obtain⟨a,vs,rfl,h1,h2⟩:=rv
  exact⟨.inl ⟨rfl,vs,ok1.sub.seq h1⟩,bu ok1 w1 fun es us H2 Z2 ok2 x2 rs w2=>hd H2 Z2 a vs xs us es Q ok2.sub (ok2.sub.seq (x2.z.seq h1)) (h2.mono x2.z) rs w2⟩
 | _=>exact w1.elim
theorem wj (bx:BX X F k)(ho:FE X F o g)(ha:FA X F [e] gs)
  (hbase:attributeBase o "count" X.env (eval o X.env)=eval o X.env:=by rfl)
  (hfew:((backTo cpos (starEach [e] X.env)).all (fun x=>!x.1)&&(backToKw cpos (keywordEach [] X.env)).all (fun x=>x.1.isSome)
   && decide ([e].length+([]:List Keyword).length+(if ([]:List Keyword).isEmpty then 0 else 1) < 30))=true:=by rfl)
  (hline:(apos.endLine==cpos.line)=true:=by rfl) (hs:starEach [e] X.env=(false,eval e X.env)::starEach [] X.env:=by rfl) (hplain:(backTo cpos (starEach [] X.env)).any (·.1)=false:=by rfl) :
  FE X F (.Call (.Attribute o "count" apos) [e] [] cpos) (eMethL dCount g gs) :=
 (nc PySem.F.plainAttrs_list PySem.F.slot_list_count (by kernel_rfl) (wd bx.room) ho ha hbase hfew hline hs hplain).weak (by rw[bx.K];exact hI pB)
theorem ur (bx:BX X F k)(ho:FE X F o g)(ha:FA X F [e] gs)
  (hbase:attributeBase o "index" X.env (eval o X.env)=eval o X.env:=by rfl)
  (hfew:((backTo cpos (starEach [e] X.env)).all (fun x=>!x.1)&&(backToKw cpos (keywordEach [] X.env)).all (fun x=>x.1.isSome)
   && decide ([e].length+([]:List Keyword).length+(if ([]:List Keyword).isEmpty then 0 else 1) < 30))=true:=by rfl)
  (hline:(apos.endLine==cpos.line)=true:=by rfl) (hs:starEach [e] X.env=(false,eval e X.env)::starEach [] X.env:=by rfl) (hplain:(backTo cpos (starEach [] X.env)).any (·.1)=false:=by rfl) :
  FE X F (.Call (.Attribute o "index" apos) [e] [] cpos) (eMethL dIndex g gs) :=
 (nc PySem.F.plainAttrs_list PySem.F.slot_list_index (by kernel_rfl) (we bx.room) ho ha hbase hfew hline hs hplain).weak (by rw[bx.K];exact hI pC)
end
end FF
end
noncomputable section
namespace FF
open PySem PySem.Spec PyProof.Rows L2
def MadeX (X:Cx)(F:Fx):Prop:=∀ (pins:List (Addr×Obj)) (σ:St) (H:Hp) (s:Shared) (h1:Heap) (ea C:Addr) (args:List Value),Inv X pins σ H s→Heap.MadeExcOf s.heap h1 ea (.ref C) args→F.E (.ref C) none H→X.xe (.ref ea) { s with heap:=h1 }
def bmVE:List Value:=[.type "ValueError",.type "Exception",.type "BaseException",.type "object"]
theorem sP {K:PySem.W.Frag}{h:Heap}{C:Addr}{bmB:List Value}{newId:String}(X:K.In h)(q:PySem.W.excIn K C bmB newId=true) :
  ∃ (bm:List Value) (N:Addr) (nm qn:Str) (bs:List Value) (hdct:Bool) (sn:List Str) (sub:List Value) (ab:Bool) (col:Option Bool) (dd:Option Addr) (k0 k1 k2 k3 k5:Option Value) (mN:Str→Option Value),
   h.get? C=some (excClassObj nm qn C N bs bm hdct sn sub ab col dd k0 k1 k2 k3 k5 newId)∧h.Ns N mN∧mN "__init__"=none∧OwnTail h bmB bm:=by
 unfold PySem.W.excIn at q
 split at q
 ·rename_i dd cd sl ho
  split at q
  ·rename_i C' bm k0 k1 k2 k3 n k5 hm hs
   simp only[Bool.and_eq_true,beq_iff_eq,Bool.not_eq_true']at q
   obtain⟨⟨⟨⟨⟨rfl,rfl⟩,hdel⟩,ht⟩,hok⟩,hni⟩:=q
   obtain⟨nm,bs,mro,ns,qn,hd,sn,sub,ab,col,del⟩:=cd
   dsimp only at hm hdel hok hni
   subst hm hdel
   have hsl:sl = #[k0,k1,k2,k3,some (.builtin n),k5]:=by
    obtain⟨l⟩:=sl
    simp only at hs
    rw[hs]
   subst hsl
   exact⟨bm,ns,nm,qn,bs,hd,sn,sub,ab,col,dd,k0,k1,k2,k3,k5,_,X _ _ ho,.of_isNs (PySem.W.isNs_of_in X hok),PySem.W.nsMap_none_of_in X hok hni,PySem.W.tail_of_in X ht⟩
  ·cases q
 ·cases q
def sRaise (j:Nat)(gs:SS→R (List D)):SS→O:=fun S=>rO ((gs S).bind fun ds=>if ds.length≤1000 then .ok (.er j) else .stuck)
section
variable {X:Cx}{F:Fx}{e:Expr}{es:List Expr}{gs:SS→R (List D)}{pos np cpos:Pos}{x:Str}{k j:Nat}
theorem i7 (j:Nat)(bx:BX X F k)(hmade:MadeX X F)(hg:Gl X x)(hm:X.mg x=some (.ref (F.C j)))(q:PySem.W.excIn F.K (F.C j) bmVE "ValueError.__new__"=true)(ha:FA X F (e::es) gs)(hd:(x==("__debug__":Str))=false:=by decide)
  (he:starEach (e::es) X.env=(false,eval e X.env)::starEach es X.env:=by rfl) (hpl:(backTo cpos (starEach es X.env)).any (·.1)=false:=by rfl) :
  FS X F (.Raise (some (.Call (.Name x np) (e::es) [] cpos)) none pos) (sRaise j gs):=by
 intro pins s σ H D I h
 obtain⟨Z,S,ok,w⟩:=h
 have q':=q
 rw[← bx.K]at q'
 obtain⟨bm,N,nm,qn,bs,hdct,sn,sub,ab,col,dd,k0,k1,k2,k3,k5,mN,hC0,hN0,hni0,T0⟩:=sP (bmB:=bmVE) I.ok.mod.kin q'
 have hb:∀ {pl σ' H' s'},Inv X pl σ' H' s'→∀ b o,X.base.get? b=some o→s'.heap.get? b=some o:=fun I'=>I'.bk
 refine wpAny_Raise_call_subU (C:=F.C j) (nm:=nm) (q:=qn) (N:=N) (bs:=bs) (bm:=bm) (hdct:=hdct) (sn:=sn) (sub:=sub) (ab:=ab) (col:=col) (dd:=dd) (k0:=k0) (k1:=k1) (k2:=k2) (k3:=k3) (k5:=k5) PySem.F.excBase_ValueError (by decide) PySem.F.excBase_ValueError (T0.hasType PySem.F.excBase_ValueError.hasBase) (I.ok.hd bx.calm) (by rw[he];show (false||(backTo cpos (starEach es X.env)).any (·.1))=false;rw[hpl];rfl) hni0 (kL I hg hm ⟨rfl,?_⟩ hd)
 have hA:=ha cpos pins s σ H (fun vs H1=>vs.length≤1000∧F.E (.ref (F.C j)) none H1) I (bu ok (WO.wg ok w) fun ds vs H1 Z1 ok1 x1 rs w1=>by
  split at w1
  ·rename_i hl
   exact⟨by rw[← rs.length];exact hl,WG.now w1 ok1.sub H1 ok1.ex.same⟩
  ·exact w1.elim)
 rw[he]at hA ⊢
 refine Calls.evalArgs_plain (thn hA fun us s2 ⟨vs,H2,I2,r2,q2⟩=>⟨rfl,?_,hb I2 _ _ hC0,hN0.keeps (hb I2),T0.keeps (hb I2),fun h' e hm'=>hmade pins σ H2 s2 h' e _ us I2 hm' q2.2⟩)
 rw[← r2.length,sizeLine_eq]
 omega
end
end FF
end
noncomputable section
namespace FF
open PySem PySem.Spec PyProof.Rows L2
section
variable {X:Cx}{pins:List (Addr×Obj)}{σ:St}{H:Hp}{s:Shared}
theorem li (I:Inv X pins σ H s){A:Around}{calm:Bool}{pn pins':List (Addr×Obj)}{xe:Value→Shared→Prop}(hf:A.frames=X.A.frames)(hc:calm=true→A.handled=none)(hp:∀ p∈pn++pins',p∈X.pn++pins) :
  Inv { X with A:=A,calm:=calm,pn:=pn,xe:=xe } pins' σ H s :=
 ⟨⟨I.ok.mod,I.ok.kind,I.ok.glob,I.ok.blt,I.ok.above,I.ok.inj,I.ok.has,I.ok.cab,hc,hf.trans I.ok.frames,I.ok.stk,I.ok.exf,I.ok.bs,I.ok.bsz,I.ok.noex,I.ok.exfs,I.ok.funs,I.ok.frf⟩,I.os,I.bare,I.base,I.loc,I.cell,I.free,I.freeC,
  fun p hpp=>I.pin p (hp p hpp),I.hok,I.len⟩
theorem ut (I:Inv X pins σ H s){a:Addr}{o:HO}(hn:H a=none)(h0:X.s₀.heap.get? a=none)(hl:a≠X.env.locals)(hc:∀ x c,X.env.cells.lookup x=some c→c≠a)(hp:∀ p∈X.pn++pins,p.1≠a)
  (ho:ObjOk X.prog X.w (upd H a o) s.heap a o):Inv X pins σ (upd H a o) s:=by
 have nn:∀ {b:Addr} {u:HO},H b=some u→upd H a o b=some u:=fun {b u} e=>by rw[av (b9 e hn)];exact e
 refine⟨I.ok,I.os,I.bare,⟨I.base.keep,I.base.slot,fun b ob e n hx=>?_,I.base.there,fun b xs e=>nn (I.base.tups b xs e),fun b o' u e=>nn (I.base.frzs b o' u e),fun b ps e=>?_⟩,I.loc,I.cell,?_,fun x c e=>?_,fun p h=>?_,fun b u e=>?_,I.len⟩
 ·rw[av (by rintro rfl;rw[h0]at e;cases e)]
  exact I.base.free b ob e n hx
 ·obtain⟨more,q⟩:=I.base.tbls b ps e
  exact⟨more,nn q⟩
 ·rw[av (Ne.symm hl)];exact I.free
 ·rw[av (hc x c e)];exact I.freeC x c e
 ·obtain⟨a1,a2,a3⟩:=I.pin p h
  exact⟨a1,by rw[av (hp p h)];exact a2,a3⟩
 ·by_cases q:b=a
  ·subst q
   rw[au]at e
   cases e
   exact ho
  ·rw[av q]at e
   exact(I.hok b u e).stay (fun _ _ _ z=>z) (fun c z=>nn z) fun c xs z=>nn z
theorem uu {M:Model}{A:Around}{E:Value→Shared→Prop}{i:Nat}{n:Str}{v:V}{Q:Unit→Shared→Prop}(I:Inv X pins σ H s)(hN:X.N.Nodup)(hi:X.N[i]?=some n)(hk:X.env.kindOf n=some .local)(hs:X.env.scope.names.lookup n=some .local)(hv:σ[i]?=some (some v))
  (h:∀ s',Inv X pins (σ.set i none) H s'→Q () s'):wpAny M A (unbindName X.env n) Q E s:=by
 obtain⟨m,hn,hl⟩:=id I.loc
 have hcls:(X.env.scope.kind==.class||(X.env.scope.kind==.module&&X.env.locals != X.env.globals))=false:=by rw[I.ok.kind];rfl
 obtain⟨u,ru,lk⟩:=hl i n v hi hv (.inl hs)
 have hm:m n=some u:=by
  rcases lk with ⟨_,e⟩ | ⟨z,_⟩
  ·exact e
  ·rw[hk]at z;rcases z with z | z<;>cases z
 have cne:=I.cne
 have hiσ:i < σ.length:=(List.getElem?_eq_some_iff.mp hv).1
 refine wpAny_unbindName_local hk hn hm hcls fun h' u' hn' hs'=>?_
 obtain⟨oL,_,_,hoL,_⟩:=id hn
 have nl:∀ b o,X.s₀.heap.get? b=some o→b≠X.env.locals:=fun b o e=>Nat.ne_of_lt (Nat.lt_of_lt_of_le (Heap.lt_size e) I.ok.above)
 refine h _ ⟨I.ok,I.os,I.bare,⟨fun b o e nn hb hx=>(hs'.2 b (nl b o e)).trans (I.base.keep b o e nn hb hx),fun b o e nn hb hx=>?_,I.base.free,fun b o e hx=>?_,I.base.tups,I.base.frzs,I.base.tbls⟩,⟨_,hn',fun j y v' e1 e2 e3=>?_⟩,fun y c e=>?_,I.free,I.freeC,fun p hp=>?_,fun b ob e=>?_,by simpa using I.len⟩
 ·obtain⟨sl,e1⟩:=I.base.slot b o e nn hb hx
  exact⟨sl,(hs'.2 b (nl b o e)).trans e1⟩
 ·obtain⟨o',e1⟩:=I.base.there b o e hx
  exact⟨o',(hs'.2 b (nl b o e)).trans e1⟩
 ·have hj:j≠i:=fun q=>by
   subst q
   rw[List.getElem?_set_self hiσ]at e2
   cases e2
  rw[List.getElem?_set_ne (Ne.symm hj)]at e2
  obtain⟨u2,r2,q⟩:=hl j y v' e1 e2 e3
  refine⟨u2,r2,?_⟩
  rcases q with ⟨k,e⟩ | ⟨k,c,e,z⟩
  ·refine .inl ⟨k,?_⟩
   have:y≠n:=fun e=>hj (kS hN e1 (e ▸ hi))
   simp[this,e]
  ·exact .inr ⟨k,c,e,z.sameBut hs' (cne y c e)⟩
 ·obtain⟨w',z⟩:=I.cell y c e
  exact⟨w',z.sameBut hs' (cne y c e)⟩
 ·obtain⟨e,nn,ne,nf,d⟩:=I.pin p hp
  exact⟨(hs'.2 p.1 ne).trans e,nn,ne,nf,d⟩
 ·refine(I.hok b ob e).stay (fun c w' hc q=>(hs'.2 c ?_).trans q) (fun _ q=>q) fun _ _ q=>q
  rintro rfl
  rcases hc with z | z
  ·subst z;rw[I.free]at e;cases e
  ·rw[I.free]at z;cases z
end
structure Takes (K:PySem.W.Frag)(C:Nat→Addr)(C0:Addr)(q:Nat→Bool):Prop where
 exc:PySem.W.excIn K C0 bmVE "ValueError.__new__"=true
 sub:∀ k,q k=true→PySem.W.subIn K (.ref (C k)) (.ref C0)=some true
theorem pE {K:PySem.W.Frag}{C:Nat→Addr}{C0:Addr}{q:Nat→Bool}(T:Takes K C C0 q){M:Model}{A:Around}{E:Value→Shared→Prop}{h:Heap}{g:Array GenState}{d:Drawn}{t:Nat}{os:OsState}{e:Addr}{oe:Obj}{k:Nat}{Q:Bool→Shared→Prop}
  (X:K.In h) (he:h.get? e=some oe) (hc:oe.cls=.ref (C k)) (hk:q k=true) (hq:Q true ⟨h,g,d,t,os⟩):wpAny M A (excMatches (.ref e) (.ref C0)) Q E ⟨h,g,d,t,os⟩:=by
 obtain⟨bm,N,nm,qn,bs,hdct,sn,sub,ab,col,dd,k0,k1,k2,k3,k5,mN,hC,hN,hni,TL⟩:=sP X T.exc
 have hcB:(Value.ref C0::bm).contains (.type "BaseException")=true:=by rw[List.contains_cons,TL.hasType (show bmVE.contains (.type "BaseException")=true by decide),Bool.or_true]
 have L3:=PySem.W.looks_subIn (M:=M) X (T.sub k hk)
 have f:=tc_notTuple
 unfold excMatches
 repeat (first | (with_reducible refine wpAny_loadPart_at he ?_;rw[hc]) | with_reducible refine wpAny_loadPart_at hC ?_ | (with_reducible refine wpAny_isSubtype_exc hC ?_;rw[hcB]) | (with_reducible refine L3.at ?_) | wp_step)
 exact hq
def blankS (S:SS):SS:=List.replicate S.length none
abbrev tryX (X:Cx)(pn:List (Addr×Obj))(xe:Value→Shared→Prop):Cx:={ X with A:=X.A,calm:=X.calm,pn:=pn,xe:=xe }
def bothH (F:Fx)(Z:Hp):Hp:=fun b=>match F.H0 b with
 | some o=>some o
 | none=>Z b
section
variable {F:Fx}{H Z:Hp}{S:SS}{σ:St}
theorem both1:Same F.H0 (bothH F Z):=fun b o e=>by unfold bothH;rw[e]
theorem both2 (ok:StOk F H Z S σ):Same (bothH F Z) H:=fun b o e=>by
 unfold bothH at e
 split at e
 ·rename_i o' q
  cases e
  exact ok.ex.same b _ q
 ·exact ok.sub b o e
theorem both3 (ok:StOk F H Z S σ):Same Z (bothH F Z):=fun b o e=>by
 unfold bothH
 split
 ·rename_i o' q
  have h1:=ok.ex.same b _ q
  have h2:=ok.sub b _ e
  rw[h1]at h2
  exact h2
 ·exact e
theorem sQ (ok:StOk F H Z S σ){H' Z':Hp}(x:Ex (bothH F Z) Z H' Z'):Ex F.H0 F.Z0 H' Z':=by
 refine⟨both1.trans x.same,ok.ex.z.trans x.z,x.sub,fun b h=>?_⟩
 rcases x.new b h with z | z
 ·exact ok.ex.new b z
 ·exact .inr (both1.free z)
theorem xX (ok:StOk F H Z S σ){E:XK}{H' Z':Hp}{S':SS}{σ':St}(h:StOk ⟨F.K,F.C,bothH F Z,Z,E⟩ H' Z' S' σ'):StOk F H' Z' S' σ' :=
 ⟨sQ ok h.ex,h.len,h.val,fun i ds e=>by
  obtain⟨a,vs,e1,e2,e3,e4,r⟩:=h.own i ds e
  exact⟨a,vs,e1,e2,e3,both1.free e4,r⟩,h.dis⟩
theorem xY (ok:StOk F H Z S σ){E:XK}:StOk ⟨F.K,F.C,bothH F Z,Z,E⟩ H Z S σ :=
 ⟨⟨both2 ok,Same.refl _,ok.sub,fun b h=>.inl h⟩,ok.len,ok.val,fun i ds e=>by
  obtain⟨a,vs,e1,e2,e3,e4,r⟩:=ok.own i ds e
  refine⟨a,vs,e1,e2,e3,?_,r⟩
  show bothH F Z a=none
  unfold bothH
  rw[e4]
  exact e3,ok.dis⟩
theorem uv (ok:StOk F H Z S σ){H':Hp}{j k:Nat}{ea:Addr}{σ':St}(hs:Same (bothH F Z) H')(hn:H' ea=none)(hl:S.length=σ'.length)(hv:j < σ'.length→σ'[j]?=some (some (.ref ea))) :
  ∃ Z',Same Z Z'∧StOk F (upd H' ea (excO F.C k ea)) Z' ((blankS S).set j (some (.val (.exc k)))) σ':=by
 have zn:Z ea=none:=(both3 ok).free (hs.free hn)
 have fn:F.H0 ea=none:=both1.free (hs.free hn)
 have one:∀ {i:Nat} {x:Sl},((blankS S).set j (some (.val (.exc k))))[i]?=some (some x)→i=j∧x=.val (.exc k)∧j < S.length:=fun {i x} e=>by
  have hlen:(blankS S).length=S.length:=by unfold blankS;simp
  by_cases q:j=i
  ·subst q
   by_cases hj:j < S.length
   ·rw[List.getElem?_set_self (by rw[hlen];exact hj)]at e
    cases e
    exact⟨rfl,rfl,hj⟩
   ·rw[List.getElem?_eq_none (by simpa [hlen] using hj)]at e;cases e
  ·rw[List.getElem?_set_ne q]at e
   unfold blankS at e
   rw[List.getElem?_replicate]at e
   split at e<;>cases e
 refine⟨upd Z ea (excO F.C k ea),aF zn,⟨⟨(both1.trans hs).trans (aF hn),ok.ex.z.trans (aF zn),fun b o e=>?_,fun b h=>?_⟩,by simp[blankS,hl],fun i d e=>?_,fun i ds e=>?_,fun i1 i2 ds es a e1=>?_⟩⟩
 ·by_cases q:b=ea
  ·subst q;rw[au]at e ⊢;exact e
  ·rw[av q]at e ⊢;exact hs b o (both3 ok b o e)
 ·by_cases q:b=ea
  ·subst q;exact .inr fn
  ·rw[av q]at h;exact ok.ex.new b h
 ·obtain⟨rfl,e2,hj⟩:=one e
  cases e2
  exact⟨.ref ea,hv (by rw[← hl];exact hj),by rw[Rep];exact⟨ea,rfl,au⟩⟩
 ·obtain⟨_,e2,_⟩:=one e
  cases e2
 ·obtain⟨_,e2,_⟩:=one e1
  cases e2
end
section
variable {X:Cx}{F:Fx}{body:List Stmt}{g:SS→O}{c n y:Str}{np np2 kp apos hpos pos:Pos}{k:Nat}{q:Nat→Bool}{C0:Addr}
end
end FF
end
noncomputable section
namespace FF
open PySem PySem.Spec PyProof.Rows L2
def eNeg (g:SS→R D):SS→R D:=fun S=>(g S).bind fun d=>match d with
 | .int i=>.ok (.int (-i))
 | _=>.stuck
section
variable {X:Cx}{F:Fx}{a:Expr}{g:SS→R D}{pos:Pos}{x:Str}{i:Int}
theorem zQ (h:FE X F a g):FE X F (.UnaryOp .USub a pos) (eNeg g):=(AA zx h).weak fun σ H Q ⟨Z,S,ok,w⟩=>aR ok w fun d v H1 Z1 ok1 x1 rv w1=>by
 cases d with
 | int i=>rw[Rep]at rv;exact⟨i,rv,WG.now w1 ok1.sub _ aI⟩
 | _=>exact w1.elim
theorem on (h:∃ t,X.mg x=some (.int i t))(hg:Gl X x)(hd:(x==("__debug__":Str))=false:=by decide):FE X F (.Name x pos) (eC (.int i)):=by
 obtain⟨t,e⟩:=h
 exact fj (br (v:=.int i) hg e ⟨t,rfl⟩ hd) fun _=>aI
end
end FF
end
noncomputable section
namespace FF
open PySem PySem.Spec PyProof.Rows L2
section
variable {X:Cx}{F:Fx}{e:Expr}{es:List Expr}{g:SS→R D}{gs:SS→R (List D)}
end
end FF
end
noncomputable section
namespace FF
open PySem L2
def tupI (l:List Int):D:=.tup (l.map .int)
def dSw (d:D)(lo hi:Option Int):R D:=match d with
 | .lst xs=>.ok (.lst (cutD xs lo hi))
 | .tup xs=>.ok (.tup (cutD xs lo hi))
 | _=>.stuck
def eSw (g:SS→R D)(l h:SS→R (Option Int)):SS→R D:=fun S=>(g S).bind fun d=>(l S).bind fun lo=>(h S).bind fun hi=>dSw d lo hi
def intsOf:List D→Option (List Int)
 | []=>some []
 | .int i::r=>(intsOf r).map (i::·)
 | _::_=>none
def sumI (is:List Int):Int:=is.foldl (· + ·) 0
def dSum:List D→R D
 | [.lst xs]=>match intsOf xs with
  | some is=>.ok (.int (sumI is))
  | none=>.stuck
 | [.tup xs]=>match intsOf xs with
  | some is=>.ok (.int (sumI is))
  | none=>.stuck
 | _=>.stuck
def minI (a:Int)(is:List Int):Int:=is.foldl (fun m x=>if x < m then x else m) a
def dCountI (xs es:List D):R D:=match es with
 | [.int k]=>match intsOf xs with
  | some is=>.ok (.int (is.countP (· == k):Nat))
  | none=>.stuck
 | _=>.stuck
def setAll:List Nat→List D→SS→SS
 | i::r,d::ds,S=>setAll r ds (S.set i (some (.val d)))
 | _,_,S=>S
def gTup (ix:List Nat):D→SS→R SS:=fun d S=>match d with
 | .tup ds=>if ds.length=ix.length then .ok (setAll ix ds S) else .stuck
 | _=>.stuck
def sAsg (g:D→SS→R SS)(e:SS→R D):SS→O:=fun S=>rO ((e S).bind fun d=>(g d S).bind fun S1=>.ok (.nx S1))
end FF
end
noncomputable section
namespace FF
open PySem PySem.Spec PyProof.Rows L2
def TupK (K:PySem.W.Frag)(a:Addr)(l:List Int):Prop :=
 ∃ (o:Obj) (its:Array Value) (n:Nat),K.lookup a=some o∧o.cls=.type "tuple" ∧ o.dict=none∧o.data=.seq its n∧its.size≤sizeLine∧Vals (l.map V.int) its.toList
theorem nt {K:PySem.W.Frag}{C:Nat→Addr}{Z:Hp}:∀ ns:List Int,Reps K C Z (ns.map .int) (ns.map V.int)
 | []=>by rw[List.map_nil,List.map_nil,Reps]
 | i::ns=>by rw[List.map_cons,List.map_cons,Reps];exact⟨_,_,rfl,aI,nt ns⟩
theorem xZ {X:Cx}{F:Fx}{x:Str}{pos:Pos}{l:List Int}(h:∃ a,X.mg x=some (.ref a)∧TupK F.K a l)(hg:Gl X x)(hd:(x==("__debug__":Str))=false:=by decide):FE X F (.Name x pos) (eC (tupI l)):=by
 obtain⟨a,e,o,its,n,h1,h2,h2d,h3,h4,h5⟩:=h
 exact fj (br (v:=.ref a) hg e rfl hd) fun Z=>by
  unfold tupI
  rw[Rep]
  exact⟨a,_,rfl,.inr ⟨o,its,n,h1,h2,h2d,h3,h4,h5⟩,nt l⟩
theorem cE {K:PySem.W.Frag}{C:Nat→Addr}{Z:Hp}:∀ {ds:List D} {vs:List V} {is:List Int},Reps K C Z ds vs→intsOf ds=some is→vs=is.map V.int
 | [],vs,is,r,e=>by rw[Reps]at r;cases e;exact r
 | d::ds,vs,is,r,e=>by
  rw[Reps]at r
  obtain⟨v,r',rfl,h1,h2⟩:=r
  cases d with
  | int i =>
   rw[intsOf]at e
   cases q:intsOf ds with
   | none=>rw[q]at e;cases e
   | some is' =>
    rw[q]at e
    cases e
    rw[Rep]at h1
    rw[h1,cE h2 q]
    rfl
  | _=>simp[intsOf]at e
theorem bI:∀ {is:List Int} {us:List Value},Vals (is.map V.int) us→∃ ps:List (Int×Tok),us=ps.map (fun p=>Value.int p.1 p.2)∧ps.map (·.1)=is
 | [],us,h=>by rw[List.map_nil]at h;cases h;exact⟨[],rfl,rfl⟩
 | i::is,us,h=>by
  rw[List.map_cons]at h
  cases h with
  | cons r t =>
   obtain⟨tk,e⟩:=(show ∃ t,_=Value.int i t from r)
   obtain⟨ps,e2,e3⟩:=bI t
   exact⟨(i,tk)::ps,by rw[e,e2];rfl,by rw[← e3];rfl⟩
theorem rC (ps:List (Int×Tok))(i:Nat)(x:Int)(h:(ps.map (·.1))[i]?=some x):numAt ps.toArray i=x:=by
 rw[List.getElem?_map]at h
 unfold numAt
 rw[List.getElem?_toArray]
 rw[h]
 rfl
theorem km (ps:List (Int×Tok)):(List.range ps.length).map (numAt ps.toArray)=ps.map (·.1):=by
 apply List.ext_getElem?
 intro i
 rw[List.getElem?_map]
 by_cases hi:i < ps.length
 ·have hr:(List.range ps.length)[i]?=some i:=by simp[hi]
  have hx:(ps.map (·.1))[i]?=some (ps[i].1):=by simp[hi]
  rw[hr,hx]
  exact congrArg some (rC ps i _ hx)
 ·have hr:(List.range ps.length)[i]?=none:=by simp;omega
  have hx:(ps.map (·.1))[i]?=none:=by simp;omega
  rw[hr,hx]
  rfl
theorem wl (val:Nat→Int):∀ k,val (argBest (fun i j=>decide (val i < val j)) k)=minI (val 0) ((List.range k).map fun i=>val (i+1))
 | 0=>rfl
 | k+1=>by
  have ih:=wl val k
  rw[List.range_succ,List.map_append,argBest]
  unfold minI
  rw[List.foldl_append]
  show _=(if val (k+1) < minI (val 0) ((List.range k).map fun i=>val (i+1)) then val (k+1) else minI (val 0) ((List.range k).map fun i=>val (i+1)))
  rw[← ih]
  by_cases h:val (k+1) < val (argBest (fun i j=>decide (val i < val j)) k)
  ·rw[if_pos h,if_pos (by simpa using h)]
  ·rw[if_neg h,if_neg (by simpa using h)]
theorem jK (val:Nat→Int):∀ n,preSum val n=sumI ((List.range n).map val)
 | 0=>rfl
 | n+1=>by
  rw[preSum,jK val n,List.range_succ,List.map_append]
  unfold sumI
  rw[List.foldl_append]
  rfl
section
variable {X:Cx}
theorem uw {s:Shared}{l:Addr}{h':Heap}(hk:∀ b o,b∉[s.heap.objs.size]→(s.heap.push { cls:=.type "tuple_iterator",data:=.fields #[.ref l,.int 0 0] }).get? b=some o→h'.get? b=some o) :
  ∀ b o,s.heap.get? b=some o→h'.get? b=some o:=fun b o e=>by
 refine hk b o (fun hm=>?_) (Heap.get?_push_of_some _ e)
 rcases List.mem_cons.mp hm with e1 | hm
 ·exact absurd (e1 ▸ Heap.lt_size e) (Nat.lt_irrefl _)
 ·cases hm
theorem mz (hc:X.calm=true):CallR X (.builtin "sum") (fun xs H Q=>∃ (p:Addr) (is:List Int),xs=[.ref p]∧(SqL X.K H p (is.map V.int)∨SqT X.K H p (is.map V.int))∧Q (.int (sumI is)) H):=by
 intro pins s σ H xs us Q I r h
 obtain⟨p,is,rfl,hq,q⟩:=h
 obtain⟨u,rfl,ru⟩:=vals1 r
 cases ru
 rcases hq with hq | hq
 ·obtain⟨its,rv,pl,hz⟩:=I.list hq
  obtain⟨ps,rfl,e⟩:=bI rv
  have hil:s.heap.IsList p (intItems ps.toArray):=by
   have:=pl.isList
   unfold intItems
   simpa using this
  have es:preSum (numAt ps.toArray) ps.toArray.size=sumI is:=by
   rw[jK,List.size_toArray,km,e]
  refine call_sum_walkG (iter_intList hil fun s₂ e2 st hfp hlI=>?_)
  subst e2
  refine⟨_,_,_,_,_,_,numAt ps.toArray,rfl,Walks.list (A:=X.A.in1) (I.ok.hd hc) _ p hlI (intItems ps.toArray),st,hfp,(fun _ _=>intItems_at),fun h' tk t' hk=>?_⟩
  have hsz:(intItems ps.toArray).size=ps.toArray.size:=by simp[intItems]
  rw[hsz,es]
  exact⟨.int (sumI is),H,I.kept (old_kept hk),⟨t',rfl⟩,q⟩
 ·obtain⟨its,rv,pl,hz⟩:=I.tuple hq
  obtain⟨ps,rfl,e⟩:=bI rv
  have hil:s.heap.IsTuple p (intItems ps.toArray):=by
   have pl':s.heap.IsTuple p (ps.map fun p=>Value.int p.1 p.2).toArray:=pl
   unfold intItems
   simpa using pl'
  have es:preSum (numAt ps.toArray) ps.toArray.size=sumI is:=by
   rw[jK,List.size_toArray,km,e]
  have hlt:p < s.heap.objs.size:=by obtain⟨_,e,_⟩:=hil;exact Heap.lt_size e
  refine call_sum_walkG (wpAny_pyIter_tuple hil ?_)
  refine⟨_,_,_,_,_,_,numAt ps.toArray,rfl,Walks.tuple (A:=X.A.in1) (I.ok.hd hc) s.heap.objs.size p (Nat.ne_of_lt hlt) (intItems ps.toArray),⟨⟨_,Heap.get?_push_size _ rfl,rfl,rfl⟩,hil.push _⟩,fun b hb=>?_,(fun _ _=>intItems_at),fun h' tk t' hk=>?_⟩
  ·show b < (s.heap.push _).objs.size
   rw[Heap.size_push]
   rcases List.mem_cons.mp hb with rfl | hb
   ·exact Nat.lt_succ_self _
   ·rcases List.mem_cons.mp hb with rfl | hb
    ·exact Nat.lt_succ_of_lt hlt
    ·cases hb
  ·have hsz:(intItems ps.toArray).size=ps.toArray.size:=by simp[intItems]
   rw[hsz,es]
   exact⟨.int (sumI is),H,I.kept (uw hk),⟨t',rfl⟩,q⟩
end
theorem ux {F:Fx}:CallD F (fun xs H Q=>∃ (p:Addr) (is:List Int),xs=[.ref p]∧(SqL F.K H p (is.map V.int)∨SqT F.K H p (is.map V.int))∧Q (.int (sumI is)) H) dSum:=by
 intro H Z xs ds Q s rs w
 unfold dSum at w
 split at w
 ·split at w
  ·rename_i is e
   obtain⟨v,rfl,h⟩:=bL rs
   rw[Rep]at h
   obtain⟨a,vs,rfl,h1,h2⟩:=h
   have e2:=cE h2 e
   subst e2
   exact⟨a,is,rfl,.inl (s.seq h1),WG.now w s _ aI⟩
  ·exact w.elim
 ·split at w
  ·rename_i is e
   obtain⟨v,rfl,h⟩:=bL rs
   rw[Rep]at h
   obtain⟨a,vs,rfl,h1,h2⟩:=h
   have e2:=cE h2 e
   subst e2
   exact⟨a,is,rfl,.inr (h1.mono s),WG.now w s _ aI⟩
  ·exact w.elim
 ·exact w.elim
section
variable {X:Cx}{F:Fx}{p pos:Pos}{e:Expr}{gs:SS→R (List D)}{k:Nat}
theorem zR (bx:BX X F k)(hg:Gl X "sum")(hm:X.mg "sum"=none)(ha:FA X F [e] gs)(he:starEach [e] X.env=(false,eval e X.env)::starEach [] X.env:=by rfl)(hpl:(backTo pos (starEach [] X.env)).any (·.1)=false:=by rfl):FE X F (.Call (.Name "sum" p) [e] [] pos) (eCall dSum gs) :=
 eM (id := "sum") (by have:=mz (X:=X) bx.calm;rw[bx.K]at this;exact this) ux hg hm (by decide +kernel) ha (he:=he) (hpl:=hpl)
end
def rCountI (K:PySem.W.Frag):V→List V→Hp→VK→Prop:=fun x vs H Q=>∃ (l:Addr) (is:List Int) (k:Int),x=.ref l∧vs=[.int k]∧SqL K H l (is.map V.int)∧Q (.int (is.countP (· == k):Nat)) H
theorem nv {X:Cx}{pins:List (Addr×Obj)}{σ:St}{H:Hp}{s:Shared}(I:Inv X pins σ H s){A:Around}(hu:A.units < cLine)(b k:Int)(t t':Tok):SeqAt.EqAt A s (.int b t) (.int k t') (b==k) :=
 iF (K:=X.K) (C:=fun _=>0) (Z:=fun _=>none) rfl I (fun _ _ e=>nomatch e) 0 A (.int b) (.int k) (.int b) (.int k) _ _ rfl rfl aI aI ⟨t,rfl⟩ ⟨t',rfl⟩ (by omega)
def isI (k:Int):Value→Bool
 | .int b _=>b==k
 | _=>false
theorem uy {X:Cx}{k:Nat}(hr:Room k X.A):MtR X "list.count" (rCountI X.K):=by
 intro pins s σ H x vs v us Q I rx rv h
 obtain⟨l,is,k,rfl,rfl,hH,q⟩:=h
 cases rx
 obtain⟨u,rfl,ru⟩:=rv.one
 obtain⟨tk,rfl⟩:=(show ∃ t,u=Value.int k t from ru)
 obtain⟨its,r,⟨⟨c2,d2,dt2,sl2⟩,n2,e2,p2,p3,p4⟩,z2⟩:=I.list hH
 obtain⟨ps,rfl,e⟩:=bI r
 simp only at p2 p3 p4
 subst p2 p3 p4
 refine call_meets F.slot_list_count ⟨_,e2,rfl⟩ F.entry_list_count (F.args_list_count_2 _ _) (SeqAt.list_countAt l _ n2 _ _ (.int k tk) (isI k)) ⟨e2,fun y hy=>?_,?_⟩
 ·have hy':y∈ps.map fun p=>Value.int p.1 p.2:=by simpa using hy
  obtain⟨b,_,rfl⟩:=List.mem_map.mp hy'
  exact nv I (by have:=hr.un;show X.A.units+1 < cLine;omega) b.1 k b.2 tk
 ·have hc:((ps.map fun p=>Value.int p.1 p.2).toArray.toList.countP (isI k))=is.countP (· == k):=by
   show (ps.map fun p=>Value.int p.1 p.2).countP (isI k)=_
   rw[List.countP_map,← e,List.countP_map]
   rfl
  rw[hc]
  exact⟨.int _,H,I.tok _,⟨_,rfl⟩,q⟩
section
variable {X:Cx}{F:Fx}{o e:Expr}{g:SS→R D}{gs:SS→R (List D)}{apos cpos:Pos}{k:Nat}
theorem sR {K:PySem.W.Frag}{C:Nat→Addr}{Z:Hp}{k:Int}{vs:List V}(r:Reps K C Z [.int k] vs):vs=[.int k]:=by
 obtain⟨v,rfl,h⟩:=bL r
 rw[Rep]at h
 rw[h]
theorem oo:MethD F (rCountI F.K) dCountI:=by
 intro H Z a vs xs us es Q s h1 h2 rs w
 unfold dCountI at w
 split at w
 ·rename_i k
  split at w
  ·rename_i is eb
   have e3:=cE h2 eb
   subst e3
   exact⟨a,is,k,rfl,sR rs,h1,WG.now w s _ aI⟩
  ·exact w.elim
 ·exact w.elim
theorem uz (bx:BX X F k)(ho:FE X F o g)(ha:FA X F [e] gs)
  (hbase:attributeBase o "count" X.env (eval o X.env)=eval o X.env:=by rfl)
  (hfew:((backTo cpos (starEach [e] X.env)).all (fun x=>!x.1)&&(backToKw cpos (keywordEach [] X.env)).all (fun x=>x.1.isSome)
   && decide ([e].length+([]:List Keyword).length+(if ([]:List Keyword).isEmpty then 0 else 1) < 30))=true:=by rfl)
  (hline:(apos.endLine==cpos.line)=true:=by rfl) (hs:starEach [e] X.env=(false,eval e X.env)::starEach [] X.env:=by rfl) (hplain:(backTo cpos (starEach [] X.env)).any (·.1)=false:=by rfl) :
  FE X F (.Call (.Attribute o "count" apos) [e] [] cpos) (eMethL dCountI g gs) :=
 (nc PySem.F.plainAttrs_list PySem.F.slot_list_count (by kernel_rfl) (uy bx.room) ho ha hbase hfew hline hs hplain).weak (by rw[bx.K];exact hI oo)
end
end FF
namespace HT
open PySem PyProof.Rows
theorem ik {prog:Program}{w:World}{A:Around}{E:Value→Shared→Prop}{s:Shared}{t sl:Addr}{items:Array Value}{vl vu:Value}{lo hi:Option Int}{Q:Value→Shared→Prop}(ht:IsTup s.heap t items)(hs:s.heap.IsSliceOf sl vl vu .none)(pl:IsPart vl lo)(pu:IsPart vu hi)
  (hw:sIx items.size 0 lo=0∧sIx items.size items.size hi=items.size) (h:Q (.ref t) s):wpAny (model prog w) A (getItem (.ref t) (.ref sl)) Q E s:=by
 obtain⟨os,hos,hcs,hds⟩:=id hs
 have hTs:s.TypeIs (.ref sl) "slice" := ⟨os,hos,hcs⟩
 unfold getItem
 try with_reducible refine wpAny_holding ?_
 first | refine wpAny_bind (wpAny_pure ?_) | skip
 refine wpAny_bind (wpAny_sequenceKey ht.typeIs (by decide) ?_)
 refine wpAny_bind (wpAny_callSpecial?_slot (name:=Str.ofString "__getitem__") ht.typeIs PyProof.Rows.slot_tuple_getitem
  (wpAny_call_entry PyProof.Rows.slot_tuple_getitem ht.typeIs entry_tuple_getitem ?_ (args_tuple_getitem _ _)))
 show wpAny _ _ (Builtin.Tuple.tupleItemsOf (.ref t) >>= _) _ _ s
 refine wpAny_bind (tupleItemsOf_ ht ?_)
 refine wpAny_bind (wpAny_typeOf hTs ?_)
 rw[if_pos (by decide)]
 refine wpAny_bind (eL hs pl pu ?_)
 rw[hw.1,hw.2]
 show wpAny _ _ (if (((0:Nat):Int)==0&&(1:Int)==1&&(items.size - 0)==items.size)=true then _ else _) _ _ s
 rw[if_pos (by simp)]
 unfold Builtin.Tuple.tupleIsExact
 refine wpAny_bind (wpAny_bind (wpAny_typeOf ht.typeIs (wpAny_pure ?_)))
 rw[if_pos (by decide)]
 exact wpAny_bind (wpAny_rule (wpAny_pure ⟨_,rfl,wpAny_pure h⟩))
end HT
namespace FF
open PySem PySem.Spec PyProof.Rows L2
def rSlW (K:PySem.W.Frag):V→Option Int→Option Int→Hp→VK→Prop:=fun x lo hi H Q=>∃ a xs,x=.ref a∧SqT K H a xs∧(HT.sIx xs.length 0 lo=0∧HT.sIx xs.length xs.length hi=xs.length)∧Q (.ref a) H
theorem ya {X:Cx}:SlR X (rSlW X.K):=by
 intro pins s σ H x v vl vu lo hi sl Q I rx hs pl pu h
 obtain⟨a,xs,rfl,hx,hw,q⟩:=h
 cases rx
 obtain⟨its,r,ht,hz⟩:=I.tuple hx
 have hlen:its.toArray.size=xs.length:=by rw[List.size_toArray];exact r.length.symm
 refine⟨"tuple",_,PyProof.Rows.slot_tuple_getitem.lookup,ht.typeIs,?_⟩
 refine HT.ik ht hs pl pu (by rw[hlen];exact hw) ?_
 exact⟨.ref a,H,I,rfl,q⟩
theorem uA {xs:List D}{lo hi:Option Int}(h:HT.sIx xs.length 0 lo=0∧HT.sIx xs.length xs.length hi=xs.length):cutD xs lo hi=xs:=by
 unfold cutD
 rw[h.1,h.2,List.drop_zero,Nat.sub_zero,List.take_length]
section
variable {X:Cx}{F:Fx}{e:Expr}{lo hi:Option Expr}{g:SS→R D}{l h:SS→R (Option Int)}{pos p2:Pos}
theorem iG (hK:X.K=F.K)(he:FE X F e g)(hl:PO X lo (tP F l))(hh:PO X hi (tP F h)):FE X F (.Subscript e (.Slice lo hi none p2) pos) (eSw g l h) :=
 (vK (xH.or (zB.or ya)) he hl hh).weak fun σ H Q ⟨Z,S,ok,w⟩=>aR ok w fun d v H1 Z1 ok1 x1 rv w1=>sO ok1 w1 fun o H2 Z2 ok2 x2 w2=>sO ok2 w2 fun o' H3 Z3 ok3 x3 w3=>by
  have rv3:=rv.mono (x2.z.trans x3.z)
  cases d with
  | lst ds =>
   rw[Rep]at rv3
   obtain⟨a,vs,rfl,h1,h2⟩:=rv3
   refine .inl ⟨a,vs,rfl,by rw[hK];exact ok3.sub.seq h1,fun p hp=>?_⟩
   have z:Same Z3 (upd Z3 p (.lst (cutV vs o o'))):=aF (ok3.sub.free hp)
   exact w3 _ _ (Ex.alloc ok3.sub hp) _ (by rw[Rep];exact⟨p,_,rfl,SqL.of au,(h2.cut o o').mono z⟩)
  | tup ds =>
   have rv4:=rv3
   rw[Rep]at rv3
   obtain⟨a,vs,rfl,h1,h2⟩:=rv3
   have w4:WG F H3 Z3 (R.ok (FF.D.tup (cutD ds o o'))) _:=w3
   by_cases hw:HT.sIx ds.length 0 o=0∧HT.sIx ds.length ds.length o'=ds.length
   ·refine .inr (.inr ⟨a,vs,rfl,by rw[hK];exact h1.mono ok3.sub,by rw[← h2.length];exact hw,?_⟩)
    rw[uA hw]at w4
    exact WG.now w4 ok3.sub _ rv4
   ·refine .inr (.inl ⟨a,vs,rfl,by rw[hK];exact h1.mono ok3.sub,by rw[← h2.length];exact hw,fun p hp=>?_⟩)
    have z:Same Z3 (upd Z3 p (.tup (cutV vs o o'))):=aF (ok3.sub.free hp)
    exact w4 _ _ (Ex.alloc ok3.sub hp) _ (by rw[Rep];exact⟨p,_,rfl,SqT.of au,(h2.cut o o').mono z⟩)
  | _=>exact w3.elim
end
theorem R.bind_assoc {α β γ:Type}(r:R α)(f:α→R β)(g:β→R γ):(r.bind f).bind g=r.bind fun x=>(f x).bind g:=by cases r<;>rfl
end FF
end
noncomputable section
namespace FF
open PySem L2
def sameK:D→D→Bool
 | .tup _,.tup _=>true
 | .int _,.int _=>true
 | _,_=>false
def dInI (x y:D):R D:=match x,y with
 | .int i,.tup ds=>match intsOf ds with
  | some is=>.ok (.bl (is.any (· == i)))
  | none=>.stuck
 | _,_=>.stuck
def dIndexI (xs es:List D):R D:=match es with
 | [.int k]=>match intsOf xs with
  | some is=>if is.idxOf k < is.length then .ok (.int (is.idxOf k:Nat)) else .stuck
  | none=>.stuck
 | _=>.stuck
def eOwnIx (i:Nat)(g:SS→R D):SS→R D:=fun S=>match S[i]? with
 | some (some (.own ds))=>(g S).bind fun k=>match k with
  | .int j=>match atI ds j with
   | some d=>.ok d
   | none=>.stuck
  | _=>.stuck
 | _=>.stuck
end FF
end
noncomputable section
namespace PySem.SeqAt
open AutoSeq1 (wpAny_loadPart')
open MeetsSeq MeetsSeq2 MeetsSeq3 SeqRoads2
end PySem.SeqAt
namespace FF
open PySem PySem.Spec PyProof.Rows L2
section
variable {X:Cx}{F:Fx}{a b:Expr}{ga gb:SS→R D}{pos:Pos}{k:Nat}
end
section
variable {X:Cx}{F:Fx}{a b:Expr}{ga gb:SS→R D}{pos:Pos}{k:Nat}
end
section
variable {X:Cx}{F:Fx}{o e:Expr}{g:SS→R D}{gs:SS→R (List D)}{apos cpos:Pos}{k:Nat}
end
section
variable {X:Cx}{F:Fx}{pos p:Pos}{k:Nat}{gs:SS→R (List D)}{g ge:SS→R D}{e ei:Expr}{x:Str}
theorem wm (i:Nat){p0:Pos}(hK:X.K=F.K)(he:FE X F e g)(hs:PlainIx e:=by intro _ _;rfl)(hi:X.N[i]?=some x:=by rfl)(hv:Vis X.env.scope x:=by first | exact Or.inl rfl | exact Or.inr (Or.inl rfl) | exact Or.inr (Or.inr rfl))(hd:(x==("__debug__":Str))=false:=by decide)
  (hcd:(x==("__classdict__":Str))=false:=by decide):FE X F (.Subscript (.Name x p0) e pos) (eOwnIx i g) :=
 (y2 sJ (kT hi hv hd hcd) he hs).weak fun σ H Q ⟨Z,S,ok,w⟩=>by
  unfold eOwnIx at w
  split at w
  ·rename_i ds e0
   obtain⟨a,vs,e1,e2,e3,e4,r⟩:=ok.own i ds e0
   refine⟨.ref a,e1,aR ok w fun d v H1 Z1 ok1 x1 rv w1=>?_⟩
   cases d with
   | int j =>
    rw[Rep]at rv
    have w2:WG F H1 Z1 (match atI ds j with | some d=>R.ok d | none=>R.stuck) _:=w1
    cases q:atI ds j with
    | none=>rw[q]at w2;exact w2.elim
    | some d =>
     rw[q]at w2
     obtain⟨v',f1,f2⟩:=(r.mono x1.z).at q
     exact⟨a,vs,j,v',rfl,rv,SqL.of (x1.same _ _ e2),f1,WG.now w2 ok1.sub _ f2⟩
   | _=>exact w1.elim
  ·exact w.elim
end
end FF
end
noncomputable section
namespace FF
open PySem PySem.Spec PyProof.Rows L2
def dNf (x y:D):R D:=if good 60 x=true∧good 60 y=true then .ok (.bl (!eqD x y)) else .stuck
theorem yb {X:Cx}{pins:List (Addr×Obj)}{σ:St}{H Z:Hp}{s:Shared}{K:PySem.W.Frag}{C:Nat→Addr}(hK:X.K=K)(I:Inv X pins σ H s)(z:Same Z H)(n:Nat)(A:Around)(d e:D)(v u:V)(x y:Value)(g1:good n d=true)(g2:good n e=true)
  (h:Rep K C Z d v) (h':Rep K C Z e u) (rx:RelV v x) (ry:RelV u y) (hu:A.units+n < cLine):SeqAt.RcNeAt A s x y (!eqD d e):=by
 have hu0:A.units < cLine:=by omega
 cases d with
 | exc k=>cases n<;>simp[good]at g1
 | fn k=>cases n<;>simp[good]at g1
 | tup ds =>
  cases n with
  | zero=>simp[good]at g1
  | succ n =>
   have in1:A.in1.units+n < cLine:=by show A.units+1+n < cLine;omega
   rw[Rep]at h
   obtain⟨a,vs,rfl,h1,h2⟩:=h
   cases rx
   obtain⟨its,r,p,_⟩:=I.tuple (by rw[hK];exact h1.mono z:SqT X.K H a vs)
   have p':s.heap.IsTuple a its.toArray:=p
   cases e with
   | tup es =>
    rw[Rep]at h'
    obtain⟨b,us,rfl,k1,k2⟩:=h'
    cases ry
    obtain⟨its2,r2,p2,_⟩:=I.tuple (by rw[hK];exact k1.mono z:SqT X.K H b us)
    have p2':s.heap.IsTuple b its2.toArray:=p2
    rw[good]at g1 g2
    have q:=SeqAt.RcNeAt.tuples (A:=A) (e:=fun j=>eqD (ds.getD j .non) (es.getD j .non)) p' p2' hu0 fun j j1 j2=>by
     have j1':j < its.length:=by simpa using j1
     have j2':j < its2.length:=by simpa using j2
     have l1:j < ds.length:=by rw[h2.length,r.length];exact j1'
     have l2:j < es.length:=by rw[k2.length,r2.length];exact j2'
     have e1:ds[j]?=some ds[j]:=by simp
     have e2:es[j]?=some es[j]:=by simp
     obtain⟨w1,f1,f2⟩:=h2.get e1
     obtain⟨w2,f3,f4⟩:=k2.get e2
     obtain⟨z1,m1,m2⟩:=r.get f1
     obtain⟨z2,m3,m4⟩:=r2.get f3
     have n1:its.toArray[j]=z1:=by simpa [j1'] using m1
     have n2:its2.toArray[j]=z2:=by simpa [j2'] using m3
     rw[n1,n2]
     have g3:ds.getD j .non=ds[j]:=by simp[l1]
     have g4:es.getD j .non=es[j]:=by simp[l2]
     rw[g3,g4]
     exact iF hK I z n A.in1 _ _ w1 w2 z1 z2 (aV g1 e1) (aV g2 e2) f2 f4 m2 m4 in1
    rw[eqD,dv]
    have s1:its.toArray.size=ds.length:=by rw[List.size_toArray,h2.length,r.length]
    have s2:its2.toArray.size=es.length:=by rw[List.size_toArray,k2.length,r2.length]
    rw[s1,s2]at q
    exact q
   | lst es =>
    rw[Rep]at h'
    obtain⟨b,us,rfl,k1,k2⟩:=h'
    cases ry
    obtain⟨its2,r2,p2,_⟩:=I.list (by rw[hK];exact z.seq k1:SqL X.K H b us)
    simp only[eqD,Bool.not_false,Bool.not_true]
    exact SeqAt.RcNeAt.tuple_list p' p2.isList hu0
   | exc k=>simp[good]at g2
   | fn k=>simp[good]at g2
   | non=>rw[Rep]at h';subst h';cases ry;simp only[eqD,Bool.not_false,Bool.not_true];exact SeqAt.RcNeAt.tuple_none p' hu0
   | bl b=>rw[Rep]at h';subst h';cases ry;simp only[eqD,Bool.not_false,Bool.not_true];exact SeqAt.RcNeAt.tuple_bool _ p' hu0
   | int b=>rw[Rep]at h';subst h';obtain⟨t,rfl⟩:=ry;simp only[eqD,Bool.not_false,Bool.not_true];exact SeqAt.RcNeAt.tuple_int _ _ p' hu0
   | str b=>rw[Rep]at h';subst h';obtain⟨t,rfl⟩:=ry;simp only[eqD,Bool.not_false,Bool.not_true];exact SeqAt.RcNeAt.tuple_str _ _ p' hu0
 | lst ds =>
  cases n with
  | zero=>simp[good]at g1
  | succ n =>
   have in1:A.in1.units+n < cLine:=by show A.units+1+n < cLine;omega
   rw[Rep]at h
   obtain⟨a,vs,rfl,h1,h2⟩:=h
   cases rx
   obtain⟨its,r,p,_⟩:=I.list (by rw[hK];exact z.seq h1:SqL X.K H a vs)
   have p':=p.isList
   cases e with
   | lst es =>
    rw[Rep]at h'
    obtain⟨b,us,rfl,k1,k2⟩:=h'
    cases ry
    obtain⟨its2,r2,p2,_⟩:=I.list (by rw[hK];exact z.seq k1:SqL X.K H b us)
    have p2':=p2.isList
    rw[good]at g1 g2
    have s1:its.toArray.size=ds.length:=by rw[List.size_toArray,h2.length,r.length]
    have s2:its2.toArray.size=es.length:=by rw[List.size_toArray,k2.length,r2.length]
    rw[eqD,dv]
    by_cases hsz:ds.length=es.length
    ·have q:=SeqAt.RcNeAt.lists (A:=A) (e:=fun j=>eqD (ds.getD j .non) (es.getD j .non)) p' p2' (by rw[s1,s2];exact hsz) hu0 fun j j1 j2=>by
      have j1':j < its.length:=by simpa using j1
      have j2':j < its2.length:=by simpa using j2
      have l1:j < ds.length:=by rw[h2.length,r.length];exact j1'
      have l2:j < es.length:=by rw[k2.length,r2.length];exact j2'
      have e1:ds[j]?=some ds[j]:=by simp
      have e2:es[j]?=some es[j]:=by simp
      obtain⟨w1,f1,f2⟩:=h2.get e1
      obtain⟨w2,f3,f4⟩:=k2.get e2
      obtain⟨z1,m1,m2⟩:=r.get f1
      obtain⟨z2,m3,m4⟩:=r2.get f3
      have n1:its.toArray[j]=z1:=by simpa [j1'] using m1
      have n2:its2.toArray[j]=z2:=by simpa [j2'] using m3
      rw[n1,n2]
      have g3:ds.getD j .non=ds[j]:=by simp[l1]
      have g4:es.getD j .non=es[j]:=by simp[l2]
      rw[g3,g4]
      exact iF hK I z n A.in1 _ _ w1 w2 z1 z2 (aV g1 e1) (aV g2 e2) f2 f4 m2 m4 in1
     rw[s1]at q
     rw[hsz,Nat.min_self,beq_self_eq_true,Bool.and_true,← hsz]
     exact q
    ·have q:=SeqAt.RcNeAt.lists_lengths (A:=A) p' p2' (by rw[s1,s2];simpa using hsz) hu0
     rw[show (ds.length==es.length)=false by simpa using hsz,Bool.and_false]
     exact q
   | tup es =>
    rw[Rep]at h'
    obtain⟨b,us,rfl,k1,k2⟩:=h'
    cases ry
    obtain⟨its2,r2,p2,_⟩:=I.tuple (by rw[hK];exact k1.mono z:SqT X.K H b us)
    simp only[eqD,Bool.not_false,Bool.not_true]
    exact SeqAt.RcNeAt.list_tuple p' (show s.heap.IsTuple b its2.toArray from p2) hu0
   | exc k=>simp[good]at g2
   | fn k=>simp[good]at g2
   | non=>rw[Rep]at h';subst h';cases ry;simp only[eqD,Bool.not_false,Bool.not_true];exact SeqAt.RcNeAt.list_none p' hu0
   | bl b=>rw[Rep]at h';subst h';cases ry;simp only[eqD,Bool.not_false,Bool.not_true];exact SeqAt.RcNeAt.list_bool _ p' hu0
   | int b=>rw[Rep]at h';subst h';obtain⟨t,rfl⟩:=ry;simp only[eqD,Bool.not_false,Bool.not_true];exact SeqAt.RcNeAt.list_int _ _ p' hu0
   | str b=>rw[Rep]at h';subst h';obtain⟨t,rfl⟩:=ry;simp only[eqD,Bool.not_false,Bool.not_true];exact SeqAt.RcNeAt.list_str _ _ p' hu0
 | non =>
  rw[Rep]at h;subst h;cases rx
  cases e with
  | tup es =>
   rw[Rep]at h'
   obtain⟨b,us,rfl,k1,k2⟩:=h'
   cases ry
   obtain⟨its2,r2,p2,_⟩:=I.tuple (by rw[hK];exact k1.mono z:SqT X.K H b us)
   simp only[eqD,Bool.not_false,Bool.not_true];exact SeqAt.RcNeAt.none_tuple (show s.heap.IsTuple b its2.toArray from p2) hu0
  | lst es =>
   rw[Rep]at h'
   obtain⟨b,us,rfl,k1,k2⟩:=h'
   cases ry
   obtain⟨its2,r2,p2,_⟩:=I.list (by rw[hK];exact z.seq k1:SqL X.K H b us)
   simp only[eqD,Bool.not_false,Bool.not_true];exact SeqAt.RcNeAt.none_list p2.isList hu0
  | exc k=>cases n<;>simp[good]at g2
  | fn k=>cases n<;>simp[good]at g2
  | non=>rw[Rep]at h';subst h';cases ry;simp only[eqD,Bool.not_false,Bool.not_true];exact SeqAt.RcNeAt.none_none
  | bl b=>rw[Rep]at h';subst h';cases ry;simp only[eqD,Bool.not_false,Bool.not_true];exact SeqAt.RcNeAt.none_bool _
  | int b=>rw[Rep]at h';subst h';obtain⟨t,rfl⟩:=ry;simp only[eqD,Bool.not_false,Bool.not_true];exact SeqAt.RcNeAt.none_int _ _
  | str b=>rw[Rep]at h';subst h';obtain⟨t,rfl⟩:=ry;simp only[eqD,Bool.not_false,Bool.not_true];exact SeqAt.RcNeAt.none_str _ _
 | bl a =>
  rw[Rep]at h;subst h;cases rx
  cases e with
  | tup es =>
   rw[Rep]at h'
   obtain⟨b,us,rfl,k1,k2⟩:=h'
   cases ry
   obtain⟨its2,r2,p2,_⟩:=I.tuple (by rw[hK];exact k1.mono z:SqT X.K H b us)
   simp only[eqD,Bool.not_false,Bool.not_true];exact SeqAt.RcNeAt.bool_tuple _ (show s.heap.IsTuple b its2.toArray from p2) hu0
  | lst es =>
   rw[Rep]at h'
   obtain⟨b,us,rfl,k1,k2⟩:=h'
   cases ry
   obtain⟨its2,r2,p2,_⟩:=I.list (by rw[hK];exact z.seq k1:SqL X.K H b us)
   simp only[eqD,Bool.not_false,Bool.not_true];exact SeqAt.RcNeAt.bool_list _ p2.isList hu0
  | exc k=>cases n<;>simp[good]at g2
  | fn k=>cases n<;>simp[good]at g2
  | non=>rw[Rep]at h';subst h';cases ry;simp only[eqD,Bool.not_false,Bool.not_true];exact SeqAt.RcNeAt.bool_none _
  | bl b=>rw[Rep]at h';subst h';cases ry;simp only[eqD,Bool.not_false,Bool.not_true];exact SeqAt.RcNeAt.bool_bool _ _
  | int b=>rw[Rep]at h';subst h';obtain⟨t,rfl⟩:=ry;simp only[eqD,Bool.not_false,Bool.not_true];exact SeqAt.RcNeAt.bool_int _ _ _
  | str b=>rw[Rep]at h';subst h';obtain⟨t,rfl⟩:=ry;simp only[eqD,Bool.not_false,Bool.not_true];exact SeqAt.RcNeAt.bool_str _ _ _
 | int a =>
  rw[Rep]at h;subst h;obtain⟨t0,rfl⟩:=rx
  cases e with
  | tup es =>
   rw[Rep]at h'
   obtain⟨b,us,rfl,k1,k2⟩:=h'
   cases ry
   obtain⟨its2,r2,p2,_⟩:=I.tuple (by rw[hK];exact k1.mono z:SqT X.K H b us)
   simp only[eqD,Bool.not_false,Bool.not_true];exact SeqAt.RcNeAt.int_tuple _ _ (show s.heap.IsTuple b its2.toArray from p2) hu0
  | lst es =>
   rw[Rep]at h'
   obtain⟨b,us,rfl,k1,k2⟩:=h'
   cases ry
   obtain⟨its2,r2,p2,_⟩:=I.list (by rw[hK];exact z.seq k1:SqL X.K H b us)
   simp only[eqD,Bool.not_false,Bool.not_true];exact SeqAt.RcNeAt.int_list _ _ p2.isList hu0
  | exc k=>cases n<;>simp[good]at g2
  | fn k=>cases n<;>simp[good]at g2
  | non=>rw[Rep]at h';subst h';cases ry;simp only[eqD,Bool.not_false,Bool.not_true];exact SeqAt.RcNeAt.int_none _ _
  | bl b=>rw[Rep]at h';subst h';cases ry;simp only[eqD,Bool.not_false,Bool.not_true];exact SeqAt.RcNeAt.int_bool _ _ _
  | int b=>rw[Rep]at h';subst h';obtain⟨t,rfl⟩:=ry;simp only[eqD,Bool.not_false,Bool.not_true];exact SeqAt.RcNeAt.int_int _ _ _ _
  | str b=>rw[Rep]at h';subst h';obtain⟨t,rfl⟩:=ry;simp only[eqD,Bool.not_false,Bool.not_true];exact SeqAt.RcNeAt.int_str _ _ _ _
 | str a =>
  rw[Rep]at h;subst h;obtain⟨t0,rfl⟩:=rx
  cases e with
  | tup es =>
   rw[Rep]at h'
   obtain⟨b,us,rfl,k1,k2⟩:=h'
   cases ry
   obtain⟨its2,r2,p2,_⟩:=I.tuple (by rw[hK];exact k1.mono z:SqT X.K H b us)
   simp only[eqD,Bool.not_false,Bool.not_true];exact SeqAt.RcNeAt.str_tuple _ _ (show s.heap.IsTuple b its2.toArray from p2) hu0
  | lst es =>
   rw[Rep]at h'
   obtain⟨b,us,rfl,k1,k2⟩:=h'
   cases ry
   obtain⟨its2,r2,p2,_⟩:=I.list (by rw[hK];exact z.seq k1:SqL X.K H b us)
   simp only[eqD,Bool.not_false,Bool.not_true];exact SeqAt.RcNeAt.str_list _ _ p2.isList hu0
  | exc k=>cases n<;>simp[good]at g2
  | fn k=>cases n<;>simp[good]at g2
  | non=>rw[Rep]at h';subst h';cases ry;simp only[eqD,Bool.not_false,Bool.not_true];exact SeqAt.RcNeAt.str_none _ _
  | bl b=>rw[Rep]at h';subst h';cases ry;simp only[eqD,Bool.not_false,Bool.not_true];exact SeqAt.RcNeAt.str_bool _ _ _
  | int b=>rw[Rep]at h';subst h';obtain⟨t,rfl⟩:=ry;simp only[eqD,Bool.not_false,Bool.not_true];exact SeqAt.RcNeAt.str_int _ _ _ _
  | str b=>rw[Rep]at h';subst h';obtain⟨t,rfl⟩:=ry;simp only[eqD,Bool.not_false,Bool.not_true];exact SeqAt.RcNeAt.str_str _ _ _ _
def rNf (K:PySem.W.Frag)(C:Nat→Addr):R2:=fun x y H Q=>∃ Z d e,Same Z H∧Rep K C Z d x∧Rep K C Z e y∧good 60 d=true∧good 60 e=true∧Q (.bl (!eqD d e)) H
section
variable {X:Cx}{F:Fx}{a b:Expr}{ga gb:SS→R D}{pos:Pos}{k:Nat}
theorem AF (hK:X.K=F.K)(hr:Room k X.A):OpR X (compareOp .NotEq) (rNf F.K F.C):=by
 intro pins s σ H x y v u Q I rx ry h
 obtain⟨Z,d,e,z,h1,h2,g1,g2,q⟩:=h
 have hu:X.A.units+60 < cLine:=by have:=hr.un;omega
 exact yb hK I z 60 X.A d e x y v u g1 g2 h1 h2 rx ry hu X.prog X.w X.xe _ ⟨.bl (!eqD d e),H,I,rfl,q⟩
theorem zS:OpD F (rNf F.K F.C) dNf:=by
 intro H Z x y dx dy Q s rx ry w
 unfold dNf at w
 split at w
 ·rename_i g
  exact⟨Z,dx,dy,s,rx,ry,g.1,g.2,WG.now w s _ bE⟩
 ·exact w.elim
theorem bU (bx:BX X F k)(ha:FE X F a ga)(hb:FE X F b gb):FT X F (.Compare a [.NotEq] [b] pos) (gB (eOp dNf ga gb)):=iD (AF bx.K bx.room) zS ha hb
end
def qEx (es:List Nat)(i:Nat):D→Option Bool
 | .exc j=>if es.contains j=true then some (i==j||i==0) else none
 | _=>none
def qVx (es:List Nat):D→Option Bool
 | .exc j=>if es.contains j=true then some true else none
 | _=>none
def qTk (es:List Nat)(j:Nat):Bool:=es.contains j
theorem d9 {K:PySem.W.Frag}{C:Nat→Addr}{es:List Nat}{i:Nat}(h:∀ j∈es,PySem.W.kitOne K (.ref (C j)) (.ref (C i))=some (i==j||i==0))(hx:∀ j∈es,ExcK K (C j)):IsA K C (.ref (C i)) (qEx es i):=by
 refine⟨.inr ⟨_,rfl⟩,fun d b e=>?_,fun j b e=>?_,fun _=>rfl⟩
 ·cases d with
  | exc j =>
   have e':(if es.contains j=true then some (i==j||i==0) else none)=some b:=e
   by_cases hj:es.contains j=true
   ·rw[if_pos hj]at e'
    cases e'
    exact h j (by simpa using hj)
   ·rw[if_neg hj]at e';cases e'
  | _=>cases e
 ·have e':(if es.contains j=true then some (i==j||i==0) else none)=some b:=e
  by_cases hj:es.contains j=true
  ·exact hx j (by simpa using hj)
  ·rw[if_neg hj]at e';cases e'
theorem zT {K:PySem.W.Frag}{C:Nat→Addr}{es:List Nat}(h:∀ j∈es,PySem.W.kitOne K (.ref (C j)) (.type "ValueError")=some true)(hx:∀ j∈es,ExcK K (C j)):IsA K C (.ty "ValueError") (qVx es):=by
 refine⟨.inl ⟨_,rfl⟩,fun d b e=>?_,fun j b e=>?_,fun _=>rfl⟩
 ·cases d with
  | exc j =>
   have e':(if es.contains j=true then some true else none)=some b:=e
   by_cases hj:es.contains j=true
   ·rw[if_pos hj]at e'
    cases e'
    exact h j (by simpa using hj)
   ·rw[if_neg hj]at e';cases e'
  | _=>cases e
 ·have e':(if es.contains j=true then some true else none)=some b:=e
  by_cases hj:es.contains j=true
  ·exact hx j (by simpa using hj)
  ·rw[if_neg hj]at e';cases e'
theorem wn {K:PySem.W.Frag}{C:Nat→Addr}{es:List Nat}(h:PySem.W.excIn K (C 0) bmVE "ValueError.__new__"=true)(hs:∀ j∈es,PySem.W.subIn K (.ref (C j)) (.ref (C 0))=some true):Takes K C (C 0) (qTk es) :=
 ⟨h,fun k e=>hs k (by simpa [qTk] using e)⟩
def rIndexI (K:PySem.W.Frag):V→List V→Hp→VK→Prop:=fun x vs H Q=>∃ (l:Addr) (is:List Int) (k:Int),x=.ref l∧vs=[.int k]∧SqL K H l (is.map V.int)∧is.idxOf k < is.length∧Q (.int (is.idxOf k:Nat)) H
theorem uB {X:Cx}{k:Nat}(hr:Room k X.A):MtR X "list.index" (rIndexI X.K):=by
 intro pins s σ H x vs v us Q I rx rv h
 obtain⟨l,is,k,rfl,rfl,hH,hj,q⟩:=h
 cases rx
 obtain⟨u,rfl,ru⟩:=rv.one
 obtain⟨tk,rfl⟩:=(show ∃ t,u=Value.int k t from ru)
 obtain⟨its,r,⟨⟨c2,d2,dt2,sl2⟩,n2,e2,p2,p3,p4⟩,z2⟩:=I.list hH
 obtain⟨ps,rfl,e⟩:=bI r
 simp only at p2 p3 p4
 subst p2 p3 p4
 have hl:ps.length=is.length:=by have:=congrArg List.length e;simpa using this
 rw[List.length_map,sizeLine_eq]at z2
 have hsz:is.idxOf k < (ps.map fun p=>Value.int p.1 p.2).toArray.size:=by rw[List.size_toArray,List.length_map,hl];exact hj
 have hat:∀ m (hm:m < (ps.map fun p=>Value.int p.1 p.2).toArray.size) (hm':m < is.length),isI k (ps.map fun p=>Value.int p.1 p.2).toArray[m]=(is[m]==k):=fun m hm hm'=>by
  subst e
  simp[isI]
 refine call_meets F.slot_list_index ⟨_,e2,rfl⟩ F.entry_list_index (F.args_list_index_2 _ _) (SeqAt.list_indexAt l _ n2 _ _ (.int k tk) (isI k) (is.idxOf k) hsz (by omega) ?_ ?_) ⟨e2,fun y hy=>?_,⟨.int _,H,I.tok _,⟨_,rfl⟩,q⟩⟩
 ·rw[hat _ _ hj]
  exact List.findIdx_getElem (w:=hj)
 ·intro m hm hlt
  have hm':m < is.length:=by omega
  rw[hat _ _ hm']
  exact Bool.eq_false_iff.mpr (by simpa using List.not_of_lt_findIdx hlt)
 ·have hy':y∈ps.map fun p=>Value.int p.1 p.2:=by simpa using hy
  obtain⟨b,_,rfl⟩:=List.mem_map.mp hy'
  exact nv I (by have:=hr.un;show X.A.units+1 < cLine;omega) b.1 k b.2 tk
section
variable {X:Cx}{F:Fx}{o e:Expr}{g:SS→R D}{gs:SS→R (List D)}{apos cpos:Pos}{k:Nat}
theorem oq:MethD F (rIndexI F.K) dIndexI:=by
 intro H Z a vs xs us es Q s h1 h2 rs w
 unfold dIndexI at w
 split at w
 ·rename_i k
  split at w
  ·rename_i is eb
   have e3:=cE h2 eb
   subst e3
   split at w
   ·rename_i hl
    exact⟨a,is,k,rfl,sR rs,h1,hl,WG.now w s _ aI⟩
   ·exact w.elim
  ·exact w.elim
 ·exact w.elim
theorem uC (bx:BX X F k)(ho:FE X F o g)(ha:FA X F [e] gs)
  (hbase:attributeBase o "index" X.env (eval o X.env)=eval o X.env:=by rfl)
  (hfew:((backTo cpos (starEach [e] X.env)).all (fun x=>!x.1)&&(backToKw cpos (keywordEach [] X.env)).all (fun x=>x.1.isSome)
   && decide ([e].length+([]:List Keyword).length+(if ([]:List Keyword).isEmpty then 0 else 1) < 30))=true:=by rfl)
  (hline:(apos.endLine==cpos.line)=true:=by rfl) (hs:starEach [e] X.env=(false,eval e X.env)::starEach [] X.env:=by rfl) (hplain:(backTo cpos (starEach [] X.env)).any (·.1)=false:=by rfl) :
  FE X F (.Call (.Attribute o "index" apos) [e] [] cpos) (eMethL dIndexI g gs) :=
 (nc PySem.F.plainAttrs_list PySem.F.slot_list_index (by kernel_rfl) (uB bx.room) ho ha hbase hfew hline hs hplain).weak (by rw[bx.K];exact hI oq)
end
end FF
end
noncomputable section
namespace FF
open PySem L2
inductive L (σ:Type) where
 | nx (s:σ) | rt (d:D) | er (k:Nat) | stuck
def lB {α σ:Type}(r:R α)(k:α→L σ):L σ:=match r with
 | .ok a=>k a
 | .err e=>.er e
 | .stuck=>.stuck
def lS {τ σ:Type}(l:L τ)(k:τ→L σ):L σ:=match l with
 | .nx s=>k s
 | .rt d=>.rt d
 | .er e=>.er e
 | .stuck=>.stuck
def lFor {α τ:Type}(f:τ→α→L τ):List α→τ→L τ
 | [],s=>.nx s
 | d::r,s=>lS (f s d) fun s'=>lFor f r s'
def lTry {τ σ:Type}(q:Nat→Bool)(l:L τ)(k:τ→L σ)(h:Nat→L σ):L σ:=match l with
 | .nx s=>k s
 | .rt d=>.rt d
 | .er e=>if q e=true then h e else .stuck
 | .stuck=>.stuck
def outL {σ:Type}(l:L σ):R D:=match l with
 | .nx _=>.ok .non
 | .rt d=>.ok d
 | .er k=>.err k
 | .stuck=>.stuck
section
variable {α τ σ:Type}
@[simp] theorem bF (a:α)(k:α→L σ):lB (.ok a) k=k a:=rfl
@[simp] theorem zU (e:Nat)(k:α→L σ):lB (.err e) k=.er e:=rfl
@[simp] theorem AG (k:α→L σ):lB .stuck k=.stuck:=rfl
@[simp] theorem nw (s:τ)(k:τ→L σ):lS (.nx s) k=k s:=rfl
@[simp] theorem AH (d:D)(k:τ→L σ):lS (.rt d) k=.rt d:=rfl
@[simp] theorem AI (e:Nat)(k:τ→L σ):lS (.er e) k=.er e:=rfl
@[simp] theorem AJ (k:τ→L σ):lS .stuck k=.stuck:=rfl
@[simp] theorem eN (f:τ→α→L τ)(s:τ):lFor f [] s=.nx s:=rfl
theorem aX (f:τ→α→L τ)(d:α)(r:List α)(s:τ):lFor f (d::r) s=lS (f s d) fun s'=>lFor f r s':=rfl
@[simp] theorem AV (q:Nat→Bool)(s:τ)(k:τ→L σ)(h:Nat→L σ):lTry q (.nx s) k h=k s:=rfl
@[simp] theorem AW (q:Nat→Bool)(d:D)(k:τ→L σ)(h:Nat→L σ):lTry q (.rt d:L τ) k h=.rt d:=rfl
@[simp] theorem AX (q:Nat→Bool)(e:Nat)(k:τ→L σ)(h:Nat→L σ):lTry q (.er e:L τ) k h=if q e=true then h e else .stuck:=rfl
@[simp] theorem yc (s:σ):outL (.nx s)=.ok .non:=rfl
@[simp] theorem ye (d:D):outL (.rt d:L σ)=.ok d:=rfl
@[simp] theorem yf (k:Nat):outL (.er k:L σ)=.err k:=rfl
end
def rAnd (a b:R Bool):R Bool:=a.bind fun c=>if c=true then b else .ok false
def rOr (a b:R Bool):R Bool:=a.bind fun c=>if c=true then .ok true else b
def rNot (a:R Bool):R Bool:=a.bind fun c=>.ok (!c)
def vAnd (a b:R D):R D:=(asB a).bind fun c=>if c=true then b else .ok (.bl false)
def vOr (a b:R D):R D:=(asB a).bind fun c=>if c=true then .ok (.bl true) else b
def vNot (a:R D):R D:=(asB a).bind fun c=>.ok (.bl (!c))
def rIf (c:R Bool)(a b:R D):R D:=c.bind fun t=>if t=true then a else b
def rCh (f f':D→D→R D)(x y:D)(w:R D):R D:=(asB (f x y)).bind fun k=>if k=true then w.bind fun w=>f' y w else .ok (.bl false)
@[simp] theorem ft (b:Bool):asB (.ok (.bl b))=.ok b:=rfl
@[simp] theorem zV (b:R Bool):rAnd (.ok true) b=b:=rfl
@[simp] theorem zW (b:R Bool):rAnd (.ok false) b=.ok false:=rfl
@[simp] theorem AK (b:R Bool):rOr (.ok true) b=.ok true:=rfl
@[simp] theorem AL (b:R Bool):rOr (.ok false) b=b:=rfl
@[simp] theorem ot (b:Bool):rNot (.ok b)=.ok (!b):=rfl
@[simp] theorem zX (b:R D):vAnd (.ok (.bl true)) b=b:=rfl
@[simp] theorem zY (b:R D):vAnd (.ok (.bl false)) b=.ok (.bl false):=rfl
@[simp] theorem AM (b:R D):vOr (.ok (.bl true)) b=.ok (.bl true):=rfl
@[simp] theorem AN (b:R D):vOr (.ok (.bl false)) b=b:=rfl
@[simp] theorem yg (b:Bool):vNot (.ok (.bl b))=.ok (.bl (!b)):=rfl
@[simp] theorem wq (a b:R D):rIf (.ok true) a b=a:=rfl
@[simp] theorem wr (a b:R D):rIf (.ok false) a b=b:=rfl
def bA {α:Type}:List (R D)→(List D→R α)→R α
 | [],k=>k []
 | r::rs,k=>r.bind fun d=>bA rs fun ds=>k (d::ds)
def cGo (c:D→R Bool)(e:D→R D):List D→R (List D)
 | []=>.ok []
 | d::r=>match c d with
  | .ok true=>match e d with
   | .ok y=>match cGo c e r with
    | .ok ys=>.ok (y::ys)
    | _=>.stuck
   | _=>.stuck
  | .ok false=>cGo c e r
  | _=>.stuck
def cMap (e:D→R D)(xs:List D):R D:=(cGo (fun _=>.ok true) e xs).bind fun ys=>.ok (.lst ys)
def cFil (c:D→R Bool)(e:D→R D)(xs:List D):R D:=(cGo c e xs).bind fun ys=>.ok (.lst ys)
def un2 {α:Type}(d:D)(k:D→D→R α):R α:=match d with
 | .tup [a,b]=>k a b
 | _=>.stuck
def lUn2 {σ:Type}(d:D)(k:D→D→L σ):L σ:=match d with
 | .tup [a,b]=>k a b
 | _=>.stuck
def sq (d:D):R (List D):=(asSeq d).bind fun ds=>if ds.length≤16777216 then .ok ds else .stuck
def dInD (x y:D):R D:=match y with
 | .tup ds=>if good 60 x=true∧goods 60 ds=true then .ok (.bl (ds.any fun e=>eqD e x)) else .stuck
 | .lst ds=>if good 60 x=true∧goods 60 ds=true then .ok (.bl (ds.any fun e=>eqD e x)) else .stuck
 | _=>.stuck
def dNotInD (x y:D):R D:=(asB (dInD x y)).bind fun k=>.ok (.bl (!k))
def dList:List D→R D
 | [.lst xs]=>.ok (.lst xs)
 | [.tup xs]=>.ok (.lst xs)
 | _=>.stuck
def dLenSet:List D→R D
 | [.lst xs]=>match intsOf xs with
  | some is=>if is.length≤4000 then .ok (.int (is.eraseDups.length:Nat)) else .stuck
  | none=>.stuck
 | _=>.stuck
def enD:List D→Nat→List D
 | [],_=>[]
 | d::r,i=>.tup [.int (i:Int),d]::enD r (i+1)
def dEnum (d:D):R (List D):=(sq d).bind fun ds=>.ok (enD ds 0)
def zipD:List D→List D→List D
 | a::r,b::s=>.tup [a,b]::zipD r s
 | _,_=>[]
def dZip (a b:D):R (List D):=(sq a).bind fun xs=>(sq b).bind fun ys=>.ok (zipD xs ys)
def dRev (d:D):R D:=match d with
 | .lst xs=>.ok (.lst xs.reverse)
 | .tup xs=>.ok (.tup xs.reverse)
 | _=>.stuck
def dMin2:List D→R D
 | [.int i,.int j]=>.ok (.int (if j < i then j else i))
 | _=>.stuck
def dAbs:List D→R D
 | [.int i]=>.ok (.int (i.natAbs:Int))
 | _=>.stuck
def onF {α:Type}(fs:List Nat)(f:D)(k:Nat→R α):R α:=match f with
 | .fn i=>if fs.contains i=true then k i else .stuck
 | _=>.stuck
def onL {α:Type}(d:D)(k:List D→R α):R α:=match d with
 | .lst xs=>k xs
 | _=>.stuck
def dTab (l:List (Str×Nat))(x:D):R D:=match x with
 | .str s=>match l.lookup s with
  | some k=>.ok (.fn k)
  | none=>.stuck
 | _=>.stuck
def tabK (l:List (Str×Nat)):D:=.lst (l.map fun p=>.str p.1)
def dNeg (d:D):R D:=match d with
 | .int i=>.ok (.int (-i))
 | _=>.stuck
def oIx (ds:List D)(i:D):R D:=match i with
 | .int j=>match atI ds j with
  | some d=>.ok d
  | none=>.stuck
 | _=>.stuck
def oApp (ds:List D)(v:D):R (List D):=if ds.length < 16777216 then .ok (ds++[v]) else .stuck
def oExt (ds:List D)(v:D):R (List D):=match v with
 | .lst xs=>if ds.length+xs.length≤16777216 then .ok (ds++xs) else .stuck
 | .tup xs=>if ds.length+xs.length≤16777216 then .ok (ds++xs) else .stuck
 | _=>.stuck
def lUnL2 {σ:Type}(d:D)(k:D→D→L σ):L σ:=match d with
 | .lst [a,b]=>k a b
 | _=>.stuck
def a0 (k:L Unit):List D→R D
 | []=>outL k
 | _=>.stuck
def a1 (k:D→L Unit):List D→R D
 | [a]=>outL (k a)
 | _=>.stuck
def a2 (k:D→D→L Unit):List D→R D
 | [a,b]=>outL (k a b)
 | _=>.stuck
def a3 (k:D→D→D→L Unit):List D→R D
 | [a,b,c]=>outL (k a b c)
 | _=>.stuck
def a4 (k:D→D→D→D→L Unit):List D→R D
 | [a,b,c,d]=>outL (k a b c d)
 | _=>.stuck
def a5 (k:D→D→D→D→D→L Unit):List D→R D
 | [a,b,c,d,e]=>outL (k a b c d e)
 | _=>.stuck
def a6 (k:D→D→D→D→D→D→L Unit):List D→R D
 | [a,b,c,d,e,f]=>outL (k a b c d e f)
 | _=>.stuck
end FF
end
noncomputable section
namespace FF
open PySem PySem.Spec PyProof.Rows L2
section
variable {α τ σ W:Type}
def WL (F:Fx)(Z:Hp)(J:σ→SS→Prop)(l:L σ)(D:Ends):Prop:=match l with
 | .nx s=>∀ S ρ H Z',J s S→Same Z Z'→StOk F H Z' S ρ→D.nx ρ H
 | .rt d=>∀ v H Z',Ex F.H0 F.Z0 H Z'→Rep F.K F.C Z' d v→D.rt v H
 | .er k=>∀ H,Same F.H0 H→F.E (.ref (F.C k)) none H
 | .stuck=>False
theorem WL.more {F:Fx}{Z Z1:Hp}{J:σ→SS→Prop}{l:L σ}{D:Ends}(w:WL F Z J l D)(z:Same Z Z1):WL F Z1 J l D:=by
 cases l with
 | nx s=>exact fun S ρ H Z' j q=>w S ρ H Z' j (z.trans q)
 | rt d=>exact w
 | er k=>exact w
 | stuck=>exact w
def tL (F:Fx)(S:SS)(J:σ→SS→Prop)(l:L σ):TS:=fun D ρ H=>∃ Z,StOk F H Z S ρ∧WL F Z J l D
abbrev FL (X:Cx)(F:Fx)(S:SS)(sts:List Stmt)(J:σ→SS→Prop)(l:L σ):Prop:=PSs X sts (tL F S J l)
abbrev FL1 (X:Cx)(F:Fx)(S:SS)(st:Stmt)(J:σ→SS→Prop)(l:L σ):Prop:=PS X st (tL F S J l)
def JX (inj:τ→W→SS):τ→SS→Prop:=fun s S=>∃ w,S=inj s w
def JU:Unit→SS→Prop:=fun _ _=>True
abbrev vv (d:D):Option Sl:=some (.val d)
abbrev ow (ds:List D):Option Sl:=some (.own ds)
abbrev nn:Option Sl:=none
variable {X:Cx}{F:Fx}{S:SS}{st:Stmt}{rest:List Stmt}{J:σ→SS→Prop}{J1:τ→SS→Prop}
theorem rD {sts:List Stmt}{t:α→TS}(h:∀ a,PSs X sts (t a)):PSs X sts (fun D ρ H=>∃ a,t a D ρ H):=fun pins s ρ H D I ⟨a,w⟩=>h a pins s ρ H D I w
theorem WL.wg {D:Ends}{r:R α}{k:α→L σ}{H Z:Hp}{ρ:St}(ok:StOk F H Z S ρ)(w:WL F Z J (lB r k) D):WG F H Z r fun a _ Z'=>WL F Z' J (k a) D:=by
 cases r with
 | ok o=>exact fun _ _ x=>WL.more (l:=k o) w x.z
 | err k=>exact fun H' s=>w H' (ok.ex.same.trans s)
 | stuck=>exact w
theorem ak {s:σ}(h:J s S):FL X F S [] J (.nx s):=xw.weak fun D ρ H ⟨Z,ok,w⟩=>w S ρ H Z h (Same.refl _) ok
theorem aj {g:SS→O}{r:R α}{S':α→SS}{k:α→L σ}(h:FS X F st g)(hg:g S=rO (r.bind fun a=>.ok (.nx (S' a))))(hk:∀ a,FL X F (S' a) rest J (k a)):FL X F S (st::rest) J (lB r k) :=
 (eI h (rD hk)).weak fun D ρ H ⟨Z,ok,w⟩=>⟨Z,S,ok,by
  rw[hg]
  cases r with
  | ok a=>exact fun ρ' H' Z' z ok'=>⟨a,Z',ok',WL.more (l:=k a) w z⟩
  | err k=>exact w
  | stuck=>exact w⟩
theorem aO {g:SS→O}{S':SS}{l:L σ}(h:FS X F st g)(hg:g S=.nx S')(hk:FL X F S' rest J l):FL X F S (st::rest) J l :=
 (eI h hk).weak fun D ρ H ⟨Z,ok,w⟩=>⟨Z,S,ok,by rw[hg];exact fun ρ' H' Z' z ok'=>⟨Z',ok',WL.more w z⟩⟩
theorem aq {g:SS→R D}{r:R D}(h:FS X F st (sRet g))(hr:g S=r):FL X F S (st::rest) J (lB r .rt) :=
 (eI h mZ).weak fun D ρ H ⟨Z,ok,w⟩=>⟨Z,S,ok,by
  unfold sRet
  rw[hr]
  cases r with
  | ok a=>exact w
  | err k=>exact w
  | stuck=>exact w⟩
theorem aw {g:SS→R D}{v:D}(h:FS X F st (sRet g))(hr:g S=.ok v):FL X F S (st::rest) J (.rt v):=aq (r:=.ok v) h hr
theorem sS {g:SS→O}{k:Nat}(h:FS X F st g)(hg:g S=.er k):FL X F S (st::rest) J (.er k) :=
 (eI h mZ).weak fun D ρ H ⟨Z,ok,w⟩=>⟨Z,S,ok,by rw[hg];exact w⟩
theorem cF (i:Nat){ds:List D}{S':SS}{sts:List Stmt}{l:L σ}(hi:S[i]?=some (some (.own ds)))(hS:S.set i (some (.val (.lst ds)))=S')(h:FL X F S' sts J l):FL X F S sts J l :=
 h.weak fun D ρ H ⟨Z,ok,w⟩=>by
  obtain⟨Z',z,ok'⟩:=ok.freeze hi
  rw[hS]at ok'
  exact⟨Z',ok',WL.more w z⟩
theorem ay {c:Expr}{a b:List Stmt}{pos:Pos}{gt:SS→R Bool}{r:R Bool}{A B:L σ}(hc:FT X F c gt)(hr:gt S=r)(ha:FL X F S a J A)(hb:FL X F S b J B):FL1 X F S (.If c a b pos) J (lB r fun t=>if t=true then A else B) :=
 (Ay hc ha hb).weak fun D ρ H ⟨Z,ok,w⟩=>iU (k:=fun t=>R.ok t) (P:=fun t _ Z'=>WL F Z' J (if t=true then A else B) D) ok (by
  rw[hr]
  have:=WL.wg ok w
  cases r<;>exact this) fun t H1 Z1 ok1 x1 w1=>by
  have w2:=WG.now w1 ok1.sub
  cases t with
  | true=>exact⟨Z1,ok1,w2⟩
  | false=>exact⟨Z1,ok1,w2⟩
theorem lj {l:L σ}(h:FL1 X F S st J l):FL X F S [st] J l:=sG h
theorem ar {l:L τ}{k:τ→L σ}{inj:τ→W→SS}(h:FL1 X F S st (JX inj) l)(hk:∀ s w,FL X F (inj s w) rest J (k s)):FL X F S (st::rest) J (lS l k) :=
 (eI h (rD (fun s=>rD fun w=>hk s w))).weak fun D ρ H ⟨Z,ok,w⟩=>⟨Z,ok,by
  cases l with
  | nx s=>exact fun S' ρ' H' Z' ⟨x,e⟩ z ok'=>⟨s,x,Z',by rw[← e];exact ok',WL.more (l:=k s) w z⟩
  | rt d=>exact w
  | er k=>exact w
  | stuck=>exact w⟩
end
section
variable {σ τ W:Type}{X:Cx}{F:Fx}{S:SS}{tg iter:Expr}{body:List Stmt}{pos:Pos}{git:SS→R (List D)}{g:D→SS→R SS}{inj:τ→W→SS}{step:τ→D→L τ}
theorem pF {r:R (List D)}{s0:τ}(w0:W)(hp:PassesOwn (model X.prog X.w) X.A X.env X.xe)(hc:X.calm=true)(hi:FI X F tg iter git)(hr:git S=r)(hg:FG X F tg g)
  (hb:∀ s w x S1,g x (inj s w)=.ok S1→FL X F S1 body (JX inj) (step s x)) (hno:∀ s w x k,g x (inj s w)≠.err k) (hst:∀ s w x,g x (inj s w)=.stuck→step s x=.stuck)
  (hS:S=inj s0 w0) (hs:∀ x,foldedSetIterable iter X.env x=pure x:=by intro _;rfl):FL1 X F S (.For tg iter body [] pos) (JX inj) (lB r fun xs=>lFor step xs s0):=by
 have hbb:PSs X body (fun D ρ H=>∃ (q:τ×W×FF.D×SS) (_:g q.2.2.1 (inj q.1 q.2.1)=.ok q.2.2.2),tL F q.2.2.2 (JX inj) (step q.1 q.2.2.1) D ρ H):=fun pins s ρ H D I ⟨q,e,w⟩=>hb q.1 q.2.1 q.2.2.1 q.2.2.2 e pins s ρ H D I w
 refine(zr hp hc hi hg hbb hs).weak fun D ρ H ⟨Z,ok,w⟩=>?_
 refine⟨Z,S,ok,?_⟩
 have w00:=WL.wg ok w
 rw[hr]
 cases r with
 | err k=>exact w00
 | stuck=>exact w00
 | ok ds =>
  intro H1 Z1 x1
  have w1:WL F Z1 (JX inj) (lFor step ds s0) D:=w00 H1 Z1 x1
  intro J wk _
  refine⟨fun i m ρ H=>m=ds.length - i∧i≤ds.length∧∃ Z2 s w,StOk F H Z2 (inj s w) ρ∧Same Z1 Z2∧WL F Z2 (JX inj) (lFor step (ds.drop i) s) D,⟨ds.length,rfl,Nat.zero_le _,Z1,s0,w0,by rw[← hS];exact ok.more x1,Same.refl _,w1⟩,?_⟩
  rintro i m ρ2 H2 ⟨rfl,hle,Z2,s,w2,ok2,z2,wl2⟩
  obtain⟨k1,k2⟩:=wk i H2 Z2 z2 ok2.sub
  by_cases hlt:i < ds.length
  ·obtain⟨go,y⟩:=k1 hlt
   refine .inr ⟨go,fun ρ' H'=>∃ Z3 s3 w3,StOk F H' Z3 (inj s3 w3) ρ'∧Same Z1 Z3∧WL F Z3 (JX inj) (lFor step (ds.drop (i+1)) s3) D,fun ρ' H' ⟨Z3,s3,w3,q⟩=>⟨ds.length - (i+1),by omega,rfl,hlt,Z3,s3,w3,q⟩,fun x H' hy=>?_⟩
   obtain⟨Z2',d,x',e3,rd⟩:=y x H' hy
   have ok2:=ok2.more x'
   have hd:ds.drop i=d::ds.drop (i+1):=by
    obtain⟨hi,e4⟩:=List.getElem?_eq_some_iff.mp e3
    rw[List.drop_eq_getElem_cons hi,e4]
   rw[hd,aX]at wl2
   refine⟨Z2',inj s w2,d,ok2,rd,?_⟩
   cases q:g d (inj s w2) with
   | err k=>exact absurd q (hno s w2 d k)
   | stuck=>rw[hst s w2 d q]at wl2;exact wl2
   | ok S1 =>
    intro H4 Z4 x4 ρ4 ok4
    refine⟨⟨s,w2,d,S1⟩,q,Z4,ok4,?_⟩
    have z14:Same Z1 Z4:=(z2.trans x'.z).trans x4.z
    cases qb:step s d with
    | nx s5 =>
     rw[qb]at wl2
     exact fun S5 ρ5 H5 Z5 ⟨w5,e5⟩ z5 ok5=>⟨Z5,s5,w5,by rw[← e5];exact ok5,z14.trans z5,WL.more (l:=lFor step (ds.drop (i+1)) s5) wl2 ((x'.z.trans x4.z).trans z5)⟩
    | rt d=>rw[qb]at wl2;exact wl2
    | er k=>rw[qb]at wl2;exact wl2
    | stuck=>rw[qb]at wl2;exact wl2
  ·refine .inl ⟨k2 (by omega),?_⟩
   rw[List.drop_eq_nil_of_le (by omega)]at wl2
   exact wl2 (inj s w2) ρ2 H2 Z2 ⟨w2,rfl⟩ (Same.refl _) ok2
theorem bM (i:Nat){r:R (List D)}{s0:τ}{B:τ→W→D→SS}(w0:W)(hp:PassesOwn (model X.prog X.w) X.A X.env X.xe)(hc:X.calm=true)(hi:FI X F tg iter git)(hr:git S=r)(hg:FG X F tg (gNm i))
  (hS:S=inj s0 w0) (hB:∀ s w x,(inj s w).set i (some (.val x))=B s w x) (hb:∀ s w x,FL X F (B s w x) body (JX inj) (step s x))
  (hs:∀ x,foldedSetIterable iter X.env x=pure x:=by intro _;rfl):FL1 X F S (.For tg iter body [] pos) (JX inj) (lB r fun xs=>lFor step xs s0) :=
 pF w0 hp hc hi hr hg (fun s w x S1 e=>by cases e;rw[hB];exact hb s w x) (fun s w x k e=>nomatch e) (fun s w x e=>nomatch e) hS hs
theorem gp (i j:Nat){r:R (List D)}{s0:τ}{B:τ→W→D→D→SS}{step:τ→D→D→L τ}(w0:W)(hp:PassesOwn (model X.prog X.w) X.A X.env X.xe)(hc:X.calm=true)(hi:FI X F tg iter git)(hr:git S=r)(hg:FG X F tg (gTup [i,j]))
  (hS:S=inj s0 w0) (hB:∀ s w x y,((inj s w).set i (some (.val x))).set j (some (.val y))=B s w x y) (hb:∀ s w x y,FL X F (B s w x y) body (JX inj) (step s x y))
  (hs:∀ x,foldedSetIterable iter X.env x=pure x:=by intro _;rfl):FL1 X F S (.For tg iter body [] pos) (JX inj) (lB r fun xs=>lFor (fun s p=>lUn2 p fun x y=>step s x y) xs s0):=by
 have two:∀ (p:D) (S0:SS),(∃ x y,p=.tup [x,y]∧gTup [i,j] p S0=.ok ((S0.set i (some (.val x))).set j (some (.val y))))∨(gTup [i,j] p S0=.stuck∧∀ (k:D→D→L τ),lUn2 p k=.stuck):=fun p S0=>by
  cases p with
  | tup ds =>
   match ds with
   | []=>exact .inr ⟨rfl,fun _=>rfl⟩
   | [_]=>exact .inr ⟨rfl,fun _=>rfl⟩
   | [x,y]=>exact .inl ⟨x,y,rfl,rfl⟩
   | _::_::_::_=>exact .inr ⟨by unfold gTup;simp,fun _=>rfl⟩
  | _=>exact .inr ⟨rfl,fun _=>rfl⟩
 refine pF w0 hp hc hi hr hg (fun s w p S1 e=>?_) (fun s w p k e=>?_) (fun s w p e=>?_) hS hs
 ·rcases two p (inj s w) with ⟨x,y,rfl,q⟩ | ⟨q,_⟩
  ·rw[q]at e
   cases e
   rw[hB]
   exact hb s w x y
  ·rw[q]at e;cases e
 ·rcases two p (inj s w) with ⟨x,y,rfl,q⟩ | ⟨q,_⟩<;>rw[q]at e<;>cases e
 ·rcases two p (inj s w) with ⟨x,y,rfl,q⟩ | ⟨_,q⟩
  ·rw[q]at e;cases e
  ·exact q _
end
section
variable {σ τ W:Type}{X:Cx}{F:Fx}{S:SS}{rest:List Stmt}{J:σ→SS→Prop}{k:Nat}
def tryL (q:Nat→Bool)(l:L τ):L (τ ⊕ Nat):=match l with
 | .nx s=>.nx (.inl s)
 | .rt d=>.rt d
 | .er e=>if q e=true then .nx (.inr e) else .stuck
 | .stuck=>.stuck
def tryJ (inj:τ→W→SS)(B:Nat→SS):τ ⊕ Nat→SS→Prop
 | .inl s,S=>∃ w,S=inj s w
 | .inr k,S=>S=B k
end
section
variable {σ τ W:Type}{S:SS}{X:Cx}{F:Fx}{body:List Stmt}{g:SS→O}{c n y:Str}{np np2 kp apos hpos pos:Pos}{k:Nat}{q:Nat→Bool}{C0:Addr}
theorem yh (i j:Nat){l:L τ}{inj:τ→W→SS}(bx:BX X F k)(hij:i≠j)(hst:X.stack=X.env::X.outer)(hfm:X.env.frame=some X.env.locals)(hex:X.ex=[])(hN:X.N.Nodup)(hg:Gl X c)(hm:X.mg c=some (.ref C0))(T:Takes F.K F.C C0 q)
  (hb:∀ pn xe H0 Z0 E,BX (tryX X pn xe) ⟨F.K,F.C,H0,Z0,E⟩ k→FL (tryX X pn xe) ⟨F.K,F.C,H0,Z0,E⟩ S body (JX inj) l)
  (hi:X.N[i]?=some n:=by rfl) (hj:X.N[j]?=some y:=by rfl) (hn:X.env.scope.names.lookup n=some .local:=by rfl) (hkn:X.env.kindOf n=some .local:=by rfl) (hy:X.env.scope.names.lookup y=some .local:=by rfl)
  (hs:swapsWith (.Name n np2) (some (.Name y kp)) apos.line X.env=pure false:=by rfl) (hdc:(c==("__debug__":Str))=false:=by decide) (hdn:(n==("__debug__":Str))=false:=by decide) (hcd:(n==("__classdict__":Str))=false:=by decide) :
  FL1 X F S (.Try body [.ExceptHandler (some (.Name c np)) (some n) [.Assign [.Name y kp] (.Name n np2) apos] hpos] [] [] pos) (tryJ inj fun e=>(blankS S).set j (some (.val (.exc e)))) (tryL q l):=by
 intro pins s σ H D I h
 obtain⟨Z,ok,w⟩:=h
 refine wpAny_Try_except ?_
 have hjl:j < X.N.length:=(List.getElem?_eq_some_iff.mp hj).1
 have hil:i < X.N.length:=(List.getElem?_eq_some_iff.mp hi).1
 let txe:Value→Shared→Prop:=fun e s₁=>wpAny (model X.prog X.w) X.A (noteFrame e X.env) (fun _ s₂=>wpAny (model X.prog X.w) X.A (setFlight e none) (fun _ s₃=>wpAny (model X.prog X.w) X.A (handleBy e X.env [.ExceptHandler (some (.Name c np)) (some n) [.Assign [.Name y kp] (.Name n np2) apos] hpos]) (SP X pins D) X.xe s₃) X.xe s₂) X.xe s₁
 let E':XK:=fun cls _ H'=>∃ k,cls=.ref (F.C k)∧q k=true∧Same (bothH F Z) H'∧WL F Z (tryJ inj fun e=>(blankS S).set j (some (.val (.exc e)))) (.nx (.inr k)) D
 have back:∀ {pl:List (Addr×Obj)} {σ':St} {H':Hp} {s':Shared},Inv (tryX X (X.pn++pins) txe) pl σ' H' s'→Inv X pins σ' H' s':=fun J=>li (X:=tryX X (X.pn++pins) txe) J rfl I.ok.hd fun p hp=>List.mem_append_left _ hp
 have bx':BX (tryX X (X.pn++pins) txe) ⟨F.K,F.C,bothH F Z,Z,E'⟩ k:=by
  refine⟨bx.room,bx.K,bx.calm,?_⟩
  intro pl σ1 H1 s1 e s2 I1 hx
  obtain⟨ea,C,t,H2,B,rfl,os,bare,un,hok,fl,hn2,cov,hE⟩:=hx
  obtain⟨k',hC,hk,hsm,w1⟩:=hE
  have J:Inv (tryX X (X.pn++pins) txe) pl σ1 H2 s2:=I1.call' (ch:=[]) os un hok bare (fun b z=>nomatch z)
  obtain⟨oe0,ws0,ge0,_,gd0,_⟩:=fl.first
  obtain⟨mL1,nL1,_⟩:=I1.loc
  obtain⟨oL1,_,_,hoL1,_⟩:=id nL1
  have hnf:ea∉frs X.stack:=fun z=>by
   rcases List.mem_cons.mp (J.stkSub ea z) with z1 | z1
   ·obtain⟨mL,nL,_⟩:=J.loc
    obtain⟨oL,es,ep,hoL,hdL,_⟩:=nL
    have hoL':s2.heap.get? ea=some oL:=by rw[z1];exact hoL
    rw[ge0]at hoL'
    cases hoL'
    rw[hdL]at gd0
    cases gd0
   ·obtain⟨_,o',e',d⟩:=J.funs.mem z1
    rw[ge0]at e'
    cases e'
    exact d _ gd0
  have hnew:∀ o,s1.heap.get? ea≠some o:=fun o z=>by
   have:=cov ea oe0 ge0 (.inr ⟨o,z⟩) hnf
   rw[fl.2.1]at this
   cases this
  have h0:X.s₀.heap.get? ea=none:=by
   cases z:X.s₀.heap.get? ea with
   | none=>rfl
   | some o =>
    obtain⟨o',z'⟩:=I1.base.there ea o z (by show ea∉X.ex;rw[hex];exact fun q=>nomatch q)
    exact absurd z' (hnew o')
  have hnl:ea≠X.env.locals:=fun z=>hnew oL1 (by rw[z];exact hoL1)
  obtain⟨hp2,g2,d2,t2,os2⟩:=s2
  have fl':=fl
  rw[show (tryX X (X.pn++pins) txe).stack=X.env::X.outer from hst]at fl'
  show txe (.ref ea) _
  refine wpAny_looks_onW (I.ok.frames.trans (by rw[hst])) hfm fl' fun h4 held4 up4=>?_
  refine wpAny_landsW held4 fun h5 fl5 up5=>?_
  have fly:∀ {h6:Heap},B.StaysIn h6→hp2.UpToSlots h6→Inv (tryX X (X.pn++pins) txe) pl σ1 H2 ⟨h6,g2,d2,t2,os2⟩:=fun {h6} a b=>xP J ⟨σ1,H1,pl,I1⟩ (fun p hp=>⟨_,(I1.pin p hp).1⟩) (fun o _=>⟨oL1,hoL1⟩) cov a b
  have J5:=fly fl5.1 (up4.trans up5)
  let Xm:Cx:={ tryX X (X.pn++pins) txe with A:=X.A.mark (some (.ref ea)),calm:=false,pn:=X.pn++pins,xe:=fun _ _=>False }
  have J5m:Inv Xm pl σ1 H2 ⟨h5,g2,d2,t2,os2⟩:=li J5 rfl (fun z=>nomatch z) fun p hp=>hp
  refine wpAny_handleBy_cons (codeAny_handlers_test (kL (X:=Xm) J5m hg hm ?_ hdc)) (by intro z;cases z)
  obtain⟨ob,hob,hobc⟩:=fl5.there
  refine pE T (by have:=J5.kIn;rw[← bx.K];exact this) hob (hobc.trans hC) hk ?_
  refine codeAny_handlers_suite_as ?_
  refine lands_againW fl5 fun h6 fl6 up6=>?_
  have J6:=fly fl6.1 ((up4.trans up5).trans up6)
  obtain⟨oe,ws,hoe,hoec,hoed,_⟩:=fl6.first
  have J7:=ut J6 (a:=ea) (o:=excO F.C k' ea) hn2 h0 hnl (fun x c' e z=>by
    obtain⟨v,o,ho,_⟩:=I1.cell x c' e
    exact hnew o (by rw[← z];exact ho)) (fun p hp z=>hnew p.2 (by rw[← z];exact(I1.pin p hp).1)) ⟨⟨oe,hoe,hoec.trans hC,ws,hoed⟩,⟨oe,hoe⟩,fun h1 h2 ⟨o,a1,a2,a3⟩ kk=>⟨o,kk o a1,a2,a3⟩⟩
  have J7m:Inv Xm pl σ1 (upd H2 ea (excO F.C k' ea)) ⟨h6,g2,d2,t2,os2⟩:=li J7 rfl (fun z=>nomatch z) fun p hp=>hp
  have hl1:σ1.length=X.N.length:=I1.len
  refine iS (X:=Xm) (v:=.ref ea) J7m hN hi (.inl hn) rfl (fun s8 I8=>?_) (.inr hn)
  have st:=sG (qZ (X:=Xm) (pos:=apos) (pos':=kp) hN hj (.inl hy) (kT (X:=Xm) (pos:=np2) hi (.inl hn) hdn hcd) hs (.inr hy))
  refine wpAny_mono (st pl s8 _ _ ⟨fun σ' H'=>σ'=(σ1.set i (some (.ref ea))).set j (some (.ref ea))∧H'=upd H2 ea (excO F.C k' ea),fun _ _=>False,fun _ _=>False,fun _ _=>False⟩ I8 ⟨.ref ea,by rw[List.getElem?_set_self (by rw[hl1];exact hil)],rfl,rfl⟩) (fun f s9 h9=>?_) fun _ _ z=>z.elim
  cases f with
  | next =>
   obtain⟨σ9,H9,I9,rfl,rfl⟩:=h9
   show wpAny (model X.prog X.w) X.A (do bindName X.env n .none;unbindBehindTheSuite X.env n hpos) _ X.xe s9
   refine wpAny_bind (wpAny_bindName (iS (X:=Xm) (v:=.non) I9 hN hi (.inl hn) rfl (fun s10 I10=>?_) (.inr hn)))
   unfold unbindBehindTheSuite
   refine wpAny_onRaise (uu (X:=Xm) (v:=.non) I10 hN hi hkn hn (by rw[List.getElem?_set_self (by simp[hl1];exact hil)]) fun s11 I11=>?_)
   have IX:Inv X pins _ _ s11:=li (X:=Xm) I11 rfl I.ok.hd fun p hp=>List.mem_append_left _ hp
   obtain⟨Z',z,ok'⟩:=uv (k:=k') (j:=j) (ea:=ea) (σ':=(((σ1.set i (some (.ref ea))).set j (some (.ref ea))).set i (some .non)).set i none) ok hsm hn2 (by rw[ok.len,I.len];simp[hl1]) (fun _=>by
    rw[List.getElem?_set_ne hij,List.getElem?_set_ne hij,List.getElem?_set_self (by simp[hl1];exact hjl)])
   exact⟨_,_,IX,w1 _ _ _ Z' rfl z ok'⟩
  | _=>first | (obtain⟨_,_,_,z⟩:=h9;exact z.elim) | (obtain⟨_,_,_,_,_,z⟩:=h9;exact z.elim)
 have w':WL ⟨F.K,F.C,bothH F Z,Z,E'⟩ Z (JX inj) l D:=by
  cases l with
  | nx s'=>exact fun S' ρ' H' Z' jx z o=>w S' ρ' H' Z' jx z (xX ok o)
  | rt d=>exact fun v H' Z' x r=>w v H' Z' (sQ ok x) r
  | er k' =>
   intro H' sm
   unfold tryL at w
   by_cases hk:q k'=true
   ·simp only[hk,if_true]at w
    exact⟨k',rfl,hk,sm,w⟩
   ·simp only[hk]at w
    exact w.elim
  | stuck=>exact w
 have run:=hb (X.pn++pins) txe (bothH F Z) Z E' bx' [] s σ H D (li I rfl I.ok.hd (by simp)) ⟨Z,xY ok,w'⟩
 refine wpAny_mono run (fun f s1 h1=>?_) fun _ _ x=>x
 cases f with
 | next =>
  obtain⟨σ',H',I',d'⟩:=h1
  exact wpAny_execs_nil ⟨σ',H',back I',d'⟩
 | brk =>
  obtain⟨σ',H',I',d'⟩:=h1
  exact⟨σ',H',back I',d'⟩
 | cont =>
  obtain⟨σ',H',I',d'⟩:=h1
  exact⟨σ',H',back I',d'⟩
 | ret u =>
  obtain⟨v,σ',H',I',r,d'⟩:=h1
  exact⟨v,σ',H',back I',r,d'⟩
end
section
variable {σ τ W:Type}{X:Cx}{F:Fx}{S:SS}{rest:List Stmt}{J:σ→SS→Prop}
theorem zZ (i j:Nat){l:L τ}{inj:τ→W→SS}{q:Nat→Bool}{st:Stmt}{B:Nat→SS}{n1:τ→L σ}{n2:Nat→L σ}(h:FL1 X F S st (tryJ inj fun e=>(blankS S).set j (some (.val (.exc e)))) (tryL q l))
  (hB:∀ e,(blankS S).set j (some (.val (.exc e)))=B e) (h1:∀ s w,FL X F (inj s w) rest J (n1 s)) (h2:∀ e,FL X F (B e) rest J (n2 e)):FL X F S (st::rest) J (lTry q l n1 n2):=by
 have hr:PSs X rest (fun D ρ H=>(∃ s w,tL F (inj s w) J (n1 s) D ρ H)∨∃ e,tL F (B e) J (n2 e) D ρ H):=fun pins s ρ H D I z=>by
  rcases z with ⟨s',w',z⟩ | ⟨e,z⟩
  ·exact h1 s' w' pins s ρ H D I z
  ·exact h2 e pins s ρ H D I z
 refine(eI h hr).weak fun D ρ H ⟨Z,ok,w⟩=>⟨Z,ok,?_⟩
 cases l with
 | nx s=>exact fun S' ρ' H' Z' ⟨x,e⟩ z ok'=>.inl ⟨s,x,Z',by rw[← e];exact ok',WL.more (l:=n1 s) w z⟩
 | rt d=>exact w
 | er e =>
  have w':WL F Z J (if q e=true then n2 e else .stuck) D:=w
  by_cases hq:q e=true
  ·rw[if_pos hq]at w'
   show WL F Z _ (if q e=true then (L.nx (Sum.inr e):L (τ ⊕ Nat)) else L.stuck) _
   rw[if_pos hq]
   exact fun S' ρ' H' Z' hj z ok'=>.inr ⟨e,Z',by have hj':S'=(blankS S).set j (some (.val (.exc e))):=hj;rw[← hB e,← hj'];exact ok',WL.more w' z⟩
  ·rw[if_neg hq]at w';exact w'.elim
 | stuck=>exact w
end
end FF
end
noncomputable section
namespace FF
open PySem PySem.Spec PyProof.Rows L2
section
variable {X:Cx}{F:Fx}{e:Expr}{es:List Expr}{g g':SS→R D}{gs:List (SS→R D)}{k:Nat}{f:List D→R D}{pos:Pos}
theorem fu (h:FE X F e g)(hg:∀ S,g S=g' S):FE X F e g':=by
 have:g=g':=funext hg
 rw[← this];exact h
theorem kO {st:Stmt}{g g':SS→O}(h:FS X F st g)(hg:∀ S,g S=g' S):FS X F st g':=by
 have:g=g':=funext hg
 rw[← this];exact h
def aL:List (SS→R D)→SS→R (List D)
 | []=>aNil
 | g::gs=>aCons g (aL gs)
def eBA {α:Type}(f:List D→R α)(gs:List (SS→R D)):SS→R α:=fun S=>bA (gs.map fun g=>g S) f
theorem dq {α β:Type}{r:R α}{f f':α→R β}(h:∀ a,f a=f' a):r.bind f=r.bind f':=by cases r<;>first | exact h _ | rfl
theorem dQ {α:Type}(S:SS):∀ (gs:List (SS→R D)) (f:List D→R α),(aL gs S).bind f=eBA f gs S
 | [],f=>rfl
 | g::gs,f=>by
  show ((g S).bind fun d=>(aL gs S).bind fun ds=>R.ok (d::ds)).bind f=(g S).bind fun d=>bA (gs.map fun g=>g S) fun ds=>f (d::ds)
  rw[R.bind_assoc]
  refine dq fun d=>?_
  rw[R.bind_assoc]
  exact dQ S gs fun ds=>f (d::ds)
theorem jL {S:SS}:∀ {gs:List (SS→R D)} {ds:List D},aL gs S=.ok ds→ds.length=gs.length
 | [],ds,h=>by cases h;rfl
 | g::gs,ds,h=>ug (n:=gs.length) (fun S' ds' h'=>by
   by_cases q:S'=S
   ·subst q;exact jL h'
   ·exact jL (S:=S') h') S ds h
structure FAL (X:Cx)(F:Fx)(es:List Expr)(gs:List (SS→R D)):Prop where
 out:FA X F es (aL gs)
theorem ad:FAL X F [] []:=⟨zI⟩
theorem aa (ha:FE X F e g)(hr:FAL X F es gs)(hs:starEach (e::es) X.env=(false,eval e X.env)::starEach es X.env:=by rfl):FAL X F (e::es) (g::gs):=⟨xJ ha hr.out hs⟩
theorem fe_N (h:FE X F e (eCall f (aL gs))):FE X F e (eBA f gs):=fu h fun S=>dQ S gs f
theorem af {x:Str}{p:Pos}{ps:List Str}(b:BX X F k)(h:Fn1 X.prog X.w F.K X.mg X.base F.C k x ps f)(hg:Gl X x)(ha:FAL X F (e::es) gs)(hn:gs.length=ps.length:=by rfl)(hdb:(x==("__debug__":Str))=false:=by decide)
  (he:starEach (e::es) X.env=(false,eval e X.env)::starEach es X.env:=by rfl) (hpl:(backTo pos (starEach es X.env)).any (·.1)=false:=by rfl):FE X F (.Call (.Name x p) (e::es) [] pos) (eBA f gs) :=
 fe_N (xT b h hg ha.out (fun S ds q=>(jL q).trans hn) hdb he hpl)
theorem az {x1}(h:FAL X F es gs)(hl:gs.length≤16777216:=by exact Nat.le_of_ble_eq_true rfl):FE X F (.Tuple es x1 pos) (eBA (fun ds=>.ok (.tup ds)) gs) :=
 fu (vP h.out) fun S=>by
  rw[← dQ]
  show (aL gs S).bind _=_
  cases q:aL gs S with
  | ok ds=>show (if ds.length≤16777216 then R.ok (FF.D.tup ds) else R.stuck)=_;rw[if_pos (by rw[jL q];exact hl)];rfl
  | err k=>rfl
  | stuck=>rfl
theorem aE (h:FAL X F es gs)(hl:gs.length≤16777216:=by exact Nat.le_of_ble_eq_true rfl):FE X F (.List es pos) (eBA (fun ds=>.ok (.lst ds)) gs) :=
 fu (zJ h.out) fun S=>by
  rw[← dQ]
  show (aL gs S).bind _=_
  cases q:aL gs S with
  | ok ds=>show (if ds.length≤16777216 then R.ok (FF.D.lst ds) else R.stuck)=_;rw[if_pos (by rw[jL q];exact hl)];rfl
  | err k=>rfl
  | stuck=>rfl
end
section
variable {X:Cx}{F:Fx}{k:Nat}{e f:Expr}{es:List Expr}{p pos:Pos}{x:Str}
theorem sT {i:Nat}(hm:X.mg x=some (.ref (F.C i)))(hg:Gl X x)(hd:(x==("__debug__":Str))=false:=by decide):FE X F (.Name x pos) (eC (.fn i)) :=
 fj (br (v:=.ref (F.C i)) hg hm rfl hd) fun _=>by rw[Rep]
theorem ww {CX:CXT}{E:XK}{tf:TE}{t:TA}(hf:PE X f tf)(hr:Room k X.A)(hx:Passes CX X E)(ha:PA X (e::es) t)
  (hev:eval (.Call f (e::es) [] pos) X.env=(do callWith pos (← eval f X.env) [] (backTo pos (starEach (e::es) X.env)) (backToKw pos (keywordEach [] X.env))):=by rfl)
  (he:starEach (e::es) X.env=(false,eval e X.env)::starEach es X.env:=by rfl) (hpl:(backTo pos (starEach es X.env)).any (·.1)=false:=by rfl) :
  PE X (.Call f (e::es) [] pos) (fun σ H Q=>tf σ H fun v H1=>∃ a fd ps sp,v=.ref a∧FnOk X.prog X.w X.K X.mg X.base CX k a fd ps sp∧PySem.W.keepIn X.K (.ref a)=true∧Binds X.K fd ps []∧t σ H1 fun vs H2=>sp (vs++[]) H2 Q E):=by
 intro pins s σ H Q I h
 rw[hev]
 refine wpAny_bind (thn (hf pins s σ H _ I h) fun u s1 ⟨v,H1,I1,r,a,fd,ps,sp,ev,FO,hk,hb,q⟩=>?_)
 subst ev
 cases r
 refine PySem.W.callWith_K (h₀:=X.base) I1.ok.mod.kin hk (thn (ha pos pins s1 σ H1 _ I1 q) fun us s2 ⟨vs,H2,I2,r2,q2⟩=>⟨I2.kIn,?_⟩) he hpl
 exact vI FO hr hb .nil hx I2 r2 q2
structure FnV (P:Program)(w:World)(K:PySem.W.Frag)(mg:Str→Option Value)(base:Heap)(C:Nat→Addr)(k:Nat)(i:Nat)(f:List D→R D):Prop where
 ex:∃ fd ps,FnOk P w K mg base (CXE P w) k (C i) fd ps (spF K C ps.length f)∧PySem.W.keepIn K (.ref (C i))=true∧Binds K fd ps []∧∀ ds,ds.length≠ps.length→f ds=.stuck
def eCV (fs:List Nat)(t:Nat→List D→R D)(gf:SS→R D)(gs:List (SS→R D)):SS→R D:=fun S=>(gf S).bind fun f=>onF fs f fun i=>bA (gs.map fun g=>g S) (t i)
theorem pG {fs:List Nat}{t:Nat→List D→R D}{gf:SS→R D}{gs:List (SS→R D)}(b:BX X F k)(hT:∀ i∈fs,FnV X.prog X.w F.K X.mg X.base F.C k i (t i))(hf:FE X F f gf)(ha:FAL X F (e::es) gs)
  (hev:eval (.Call f (e::es) [] pos) X.env=(do callWith pos (← eval f X.env) [] (backTo pos (starEach (e::es) X.env)) (backToKw pos (keywordEach [] X.env))):=by rfl)
  (he:starEach (e::es) X.env=(false,eval e X.env)::starEach es X.env:=by rfl) (hpl:(backTo pos (starEach es X.env)).any (·.1)=false:=by rfl) :
  FE X F (.Call f (e::es) [] pos) (eCV fs t gf gs) :=
 (ww hf b.room b.pass ha.out hev he hpl).weak fun σ H Q ⟨Z,S,ok,w⟩=>by
  refine aR ok w fun d v H1 Z1 ok1 x1 rv w1=>?_
  cases d with
  | fn i =>
   by_cases hi:fs.contains i=true
   ·rw[Rep]at rv
    obtain⟨fd,ps,h1,h2,h3,h4⟩:=(hT i (by simpa using hi)).ex
    refine⟨F.C i,fd,ps,_,rv,by rw[b.K];exact h1,by rw[b.K];exact h2,by rw[b.K];exact h3,?_⟩
    have e0:onF fs (.fn i) (fun i=>bA (gs.map fun g=>g S) (t i))=(aL gs S).bind (t i):=by
     rw[dQ]
     show (if fs.contains i=true then _ else R.stuck)=_
     rw[if_pos hi];rfl
    rw[e0]at w1
    refine bu ok1 w1 fun ds vs H2 Z2 ok2 x2 rs w4=>?_
    by_cases hl:ds.length=ps.length
    ·refine⟨by rw[List.append_nil,← rs.length];exact hl,Z2,ds,ok2.sub,by rw[List.append_nil];exact rs,?_⟩
     cases q:t i ds with
     | ok d=>rw[q]at w4;exact w4
     | err k=>rw[q]at w4;exact w4
     | stuck=>rw[q]at w4;exact w4
    ·rw[h4 ds hl]at w4;exact w4.elim
   ·have e0:onF fs (.fn i) (fun i=>bA (gs.map fun g=>g S) (t i))=.stuck:=by
     show (if fs.contains i=true then _ else R.stuck)=_
     rw[if_neg hi]
    rw[e0]at w1
    exact w1.elim
  | _=>exact w1.elim
end
theorem pH {S:SS}{g:D→SS→R SS}{c:SS→R Bool}{e:SS→R D}:∀ ds,noErr (compGo S g c e ds)=cGo (fun d=>(g d S).bind c) (fun d=>(g d S).bind e) ds
 | []=>rfl
 | d::r=>by
  have ih:=pH (S:=S) (g:=g) (c:=c) (e:=e) r
  rw[cGo,compGo]
  cases q:g d S with
  | err k=>rfl
  | stuck=>rfl
  | ok S1 =>
   show noErr ((c S1).bind fun t=>if t=true then (e S1).bind fun y=>(compGo S g c e r).bind fun ys=>.ok (y::ys) else compGo S g c e r)=(match c S1 with
    | .ok true=>match e S1 with
     | .ok y=>match cGo _ _ r with
      | .ok ys=>.ok (y::ys)
      | _=>.stuck
     | _=>.stuck
    | .ok false=>cGo _ _ r
    | _=>.stuck)
   cases qc:c S1 with
   | err k=>rfl
   | stuck=>rfl
   | ok t =>
    cases t with
    | false=>exact ih
    | true =>
     show noErr ((e S1).bind fun y=>(compGo S g c e r).bind fun ys=>.ok (y::ys))=(match e S1 with
      | .ok y=>match cGo _ _ r with
       | .ok ys=>.ok (y::ys)
       | _=>.stuck
      | _=>.stuck)
     cases qe:e S1 with
     | err k=>rfl
     | stuck=>rfl
     | ok y =>
      rw[← ih]
      show noErr ((compGo S g c e r).bind fun ys=>.ok (y::ys))=(match noErr (compGo S g c e r) with
       | .ok ys=>.ok (y::ys)
       | _=>.stuck)
      cases compGo S g c e r<;>rfl
def eCC (own:Nat)(cap:List Nat)(it:SS→R (List D))(g:D→SS→R SS)(c:SS→R Bool)(e:SS→R D):SS→R D:=fun S=>(it S).bind fun ds=>(cGo (fun d=>(g d (blkS own cap S)).bind c) (fun d=>(g d (blkS own cap S)).bind e) ds).bind fun ys=>.ok (.lst ys)
theorem ll {own:Nat}{cap:List Nat}{it:SS→R (List D)}{g:D→SS→R SS}{c:SS→R Bool}{e:SS→R D}(S:SS):eComp own cap it g c e S=eCC own cap it g c e S:=by
 unfold eComp eCC
 exact dq fun ds=>by rw[pH]
def eC2 (own:Nat)(cap:List Nat)(it:SS→R (List D))(i j:Nat)(c:SS→R Bool)(e:SS→R D):SS→R D:=fun S=>(it S).bind fun ds =>
 (cGo (fun d=>un2 d fun x y=>c (((blkS own cap S).set i (some (.val x))).set j (some (.val y)))) (fun d=>un2 d fun x y=>e (((blkS own cap S).set i (some (.val x))).set j (some (.val y)))) ds).bind fun ys=>.ok (.lst ys)
theorem pI {α:Type}{i j:Nat}{S:SS}{f:SS→R α}(d:D):(gTup [i,j] d S).bind f=un2 d fun x y=>f ((S.set i (some (.val x))).set j (some (.val y))):=by
 cases d with
 | tup ds =>
  match ds with
  | []=>rfl
  | [_]=>rfl
  | [x,y]=>rfl
  | _::_::_::_=>unfold gTup un2;simp
 | _=>rfl
theorem yi {own:Nat}{cap:List Nat}{it:SS→R (List D)}{i j:Nat}{c:SS→R Bool}{e:SS→R D}(S:SS):eCC own cap it (gTup [i,j]) c e S=eC2 own cap it i j c e S:=by
 unfold eCC eC2
 exact dq fun ds=>by rw[show (fun d=>(gTup [i,j] d (blkS own cap S)).bind c)=_ from funext fun d=>pI d,show (fun d=>(gTup [i,j] d (blkS own cap S)).bind e)=_ from funext fun d=>pI d]
theorem fe_C {X:Cx}{F:Fx}{e:Expr}{own:Nat}{cap:List Nat}{it:SS→R (List D)}{g:D→SS→R SS}{c:SS→R Bool}{el:SS→R D}(h:FE X F e (eComp own cap it g c el)):FE X F e (eCC own cap it g c el):=fu h ll
theorem AO {X:Cx}{F:Fx}{e:Expr}{own:Nat}{cap:List Nat}{it:SS→R (List D)}{i j:Nat}{c:SS→R Bool}{el:SS→R D}(h:FE X F e (eComp own cap it (gTup [i,j]) c el)):FE X F e (eC2 own cap it i j c el):=fu h fun S=>(ll S).trans (yi S)
theorem fs_C {X:Cx}{F:Fx}{st:Stmt}{n own:Nat}{cap:List Nat}{it:SS→R (List D)}{g:D→SS→R SS}{c:SS→R Bool}{el:SS→R D}(h:FS X F st (sSet n (eComp own cap it g c el))):FS X F st (sSet n (eCC own cap it g c el)):=kO h fun S=>by unfold sSet;rw[ll]
section
variable {X:Cx}{F:Fx}{st:Stmt}{i:Nat}{g:SS→R D}
def sAppC (i:Nat)(g:SS→R D):SS→O:=fun S=>match S[i]? with
 | some (some (.own ds))=>rO (((g S).bind fun v=>oApp ds v).bind fun ds'=>.ok (.nx (S.set i (some (.own ds')))))
 | _=>.stuck
theorem pJ {α:Type}(r:R D)(f:List D→R α):((r.bind fun d=>(R.ok []:R (List D)).bind fun ds=>R.ok (d::ds)).bind f)=r.bind fun d=>f [d]:=by cases r<;>rfl
theorem fs_A (h:FS X F st (sApp i (aL [g]))):FS X F st (sAppC i g):=kO h fun S=>by
 unfold sApp sAppC
 cases q:S[i]? with
 | none=>rfl
 | some o =>
  cases o with
  | none=>rfl
  | some x =>
   cases x with
   | val d=>rfl
   | own ds =>
    show rO (((g S).bind fun d=>(R.ok []:R (List D)).bind fun ds=>R.ok (d::ds)).bind _)=rO _
    rw[pJ,R.bind_assoc]
    refine congrArg rO (dq fun v=>?_)
    unfold oApp
    show (if _ then _ else _)=_
    split<;>rfl
def sExtC (i:Nat)(g:SS→R D):SS→O:=fun S=>match S[i]? with
 | some (some (.own ds))=>rO (((g S).bind fun v=>oExt ds v).bind fun ds'=>.ok (.nx (S.set i (some (.own ds')))))
 | _=>.stuck
theorem fs_X (h:FS X F st (sExt i (aL [g]))):FS X F st (sExtC i g):=kO h fun S=>by
 unfold sExt sExtC
 cases q:S[i]? with
 | none=>rfl
 | some o =>
  cases o with
  | none=>rfl
  | some x =>
   cases x with
   | val d=>rfl
   | own ds =>
    show rO (((g S).bind fun d=>(R.ok []:R (List D)).bind fun ds=>R.ok (d::ds)).bind _)=rO _
    rw[pJ,R.bind_assoc]
    refine congrArg rO (dq fun v=>?_)
    unfold oExt
    cases v with
    | lst xs=>by_cases hl:ds.length+xs.length≤16777216<;>simp[hl]
    | tup xs=>by_cases hl:ds.length+xs.length≤16777216<;>simp[hl]
    | _=>rfl
def sOwnC (i:Nat)(gs:List (SS→R D)):SS→O:=fun S=>rO ((eBA .ok gs S).bind fun ds=>.ok (.nx (S.set i (some (.own ds)))))
theorem fs_O {gs:List (SS→R D)}(h:FS X F st (sOwn i (aL gs)))(hl:gs.length≤16777216:=by exact Nat.le_of_ble_eq_true rfl):FS X F st (sOwnC i gs):=kO h fun S=>by
 unfold sOwn sOwnC
 rw[← dQ,R.bind_assoc]
 refine congrArg rO ?_
 cases q:aL gs S with
 | ok ds=>show (if ds.length≤16777216 then _ else _)=_;rw[if_pos (by rw[jL q];exact hl)];rfl
 | err k=>rfl
 | stuck=>rfl
end
section
variable {X:Cx}{F:Fx}{e tg:Expr}{g ga:SS→R D}{f:List D→List D→R D}{gs:List (SS→R D)}
def eML (f:List D→List D→R D)(g:SS→R D)(gs:List (SS→R D)):SS→R D:=fun S=>(g S).bind fun d=>onL d fun xs=>bA (gs.map fun g=>g S) (f xs)
theorem sU (h:FE X F e (eMethL f g (aL gs))):FE X F e (eML f g gs):=fu h fun S=>by
 unfold eMethL eML
 refine dq fun d=>?_
 cases d with
 | lst xs=>exact dQ S gs (f xs)
 | _=>rfl
theorem yj {g g':SS→R (List D)}(h:FI X F tg e g)(hg:∀ S,g S=g' S):FI X F tg e g':=by
 have:g=g':=funext hg
 rw[← this];exact h
theorem eO (h:FI X F tg e (iRange1 (aL gs))):FI X F tg e (eBA rng1 gs):=yj h fun S=>dQ S gs rng1
end
theorem y4 {k:D→L Unit}{ds:List D}(h:ds.length≠1):a1 k ds=.stuck:=by
 match ds,h with
 | [],_=>rfl
 | [_],h=>exact absurd rfl h
 | _::_::_,_=>rfl
theorem io {k:D→D→L Unit}{ds:List D}(h:ds.length≠2):a2 k ds=.stuck:=by
 match ds,h with
 | [],_=>rfl
 | [_],_=>rfl
 | [_,_],h=>exact absurd rfl h
 | _::_::_::_,_=>rfl
section
variable {σ:Type}{X:Cx}{F:Fx}{S:SS}{st:Stmt}{rest:List Stmt}{J:σ→SS→Prop}
theorem yk (i j:Nat){ga gb:SS→R D}{ra rb:R D}{S':D→D→SS}{k:D→D→L σ}(h:FS X F st (sAsg (gTup [i,j]) (eTup (aL [ga,gb]))))(ha:ga S=ra)(hb:gb S=rb)(hS:∀ x y,(S.set i (some (.val x))).set j (some (.val y))=S' x y)
  (hk:∀ x y,FL X F (S' x y) rest J (k x y)):FL X F S (st::rest) J (lB ra fun x=>lB rb fun y=>k x y):=by
 have e:sAsg (gTup [i,j]) (eTup (aL [ga,gb])) S=rO ((ra.bind fun x=>rb.bind fun y=>R.ok (x,y)).bind fun p=>.ok (.nx (S' p.1 p.2))):=by
  unfold sAsg eTup
  show rO (((((ga S).bind fun d=>((gb S).bind fun d=>(R.ok []:R (List D)).bind fun ds=>R.ok (d::ds)).bind fun ds=>R.ok (d::ds)).bind fun ds=>if ds.length≤16777216 then R.ok (FF.D.tup ds) else .stuck)).bind fun d=>(gTup [i,j] d S).bind fun S1=>R.ok (O.nx S1))=_
  rw[ha,hb]
  cases ra with
  | err k=>rfl
  | stuck=>rfl
  | ok x =>
   cases rb with
   | err k=>rfl
   | stuck=>rfl
   | ok y=>show O.nx ((S.set i (some (.val x))).set j (some (.val y)))=O.nx (S' x y);rw[hS]
 have:=aj (rest:=rest) (J:=J) (S:=S) (r:=ra.bind fun x=>rb.bind fun y=>R.ok (x,y)) (S':=fun p=>S' p.1 p.2) (k:=fun p=>k p.1 p.2) h e fun p=>hk p.1 p.2
 have q:lB (ra.bind fun x=>rb.bind fun y=>R.ok (x,y)) (fun p=>k p.1 p.2)=lB ra fun x=>lB rb fun y=>k x y:=by
  cases ra with
  | ok x=>cases rb<;>rfl
  | err k=>rfl
  | stuck=>rfl
 rw[q]at this
 exact this
end
section
variable {P:Program}{w:World}{K:PySem.W.Frag}{mg:Str→Option Value}{base:Heap}
theorem yl {x qual:Str}{st:Stmt}{f:Addr}{fd:FuncData}{N ps:List Str}{k:Nat}{C:Nat→Addr}{fn:List D→R D}(F:Fun K x qual st f fd)(S:FnScope N ps (defScope st))
  (h:∀ (cdv:Value) (A:Around) (outer:List Env) (s:Shared) (H Z:Hp) (E:XK),BX (bodyX P w K mg base N qual (defScope st) f cdv A outer s H E) ⟨K,C,H,Z,E⟩ k →
   PassesOwn (model P w) (bodyX P w K mg base N qual (defScope st) f cdv A outer s H E).A (bodyX P w K mg base N qual (defScope st) f cdv A outer s H E).env (bodyX P w K mg base N qual (defScope st) f cdv A outer s H E).xe →
   MadeX (bodyX P w K mg base N qual (defScope st) f cdv A outer s H E) ⟨K,C,H,Z,E⟩ →
   ∀ ds,ds.length=ps.length→∃ l:L Unit,fn ds=outL l∧FL (bodyX P w K mg base N qual (defScope st) f cdv A outer s H E) ⟨K,C,H,Z,E⟩ (startS N.length ds) (defBody st) JU l) :
  FnOk P w K mg base (CXE P w) (k+1) f fd ps (spF K C ps.length fn):=by
 obtain⟨oc,od,kV,doc,pm,an,cdv,ct,osl,rfl,lk,hcd⟩:=F.ex
 refine yZ lk hcd S (fun vs H Q E q=>q.1) fun A outer s H vs Q E hr hsp=>?_
 obtain⟨hv,Z,ds,z,r,w⟩:=hsp
 obtain⟨l,e,hl⟩:=h cdv A outer s H Z E ⟨hr,rfl,rfl,ni⟩ PassesOwn.leaving (fun pins σ H1 s1 h1 ea C1 args I hx hE=>uc I hx hE) ds (by rw[r.length];exact hv)
 refine⟨_,hl,Z,pv (F:=⟨K,C,H,Z,E⟩) (N:=N) z r,?_⟩
 rw[e]at w
 cases l with
 | nx u=>exact fun S' ρ' H' Z' _ _ ok=>w H' Z' ok.ex .non (by rw[Rep])
 | rt d=>exact fun v H' Z' x rv=>w H' Z' x v rv
 | er k=>exact w
 | stuck=>exact w
end
theorem len1 {ds:List D}(h:ds.length=1):∃ a,ds=[a]:=by
 match ds,h with
 | [a],_=>exact⟨a,rfl⟩
theorem len2 {ds:List D}(h:ds.length=2):∃ a b,ds=[a,b]:=by
 match ds,h with
 | [a,b],_=>exact⟨a,b,rfl⟩
theorem len3 {ds:List D}(h:ds.length=3):∃ a b c,ds=[a,b,c]:=by
 match ds,h with
 | [a,b,c],_=>exact⟨a,b,c,rfl⟩
theorem len4 {ds:List D}(h:ds.length=4):∃ a b c d,ds=[a,b,c,d]:=by
 match ds,h with
 | [a,b,c,d],_=>exact⟨a,b,c,d,rfl⟩
theorem len5 {ds:List D}(h:ds.length=5):∃ a b c d e,ds=[a,b,c,d,e]:=by
 match ds,h with
 | [a,b,c,d,e],_=>exact⟨a,b,c,d,e,rfl⟩
end FF
end
noncomputable section
namespace FF
open PySem PySem.Spec PyProof.Rows L2
section
variable {X:Cx}{F:Fx}{st:Stmt}{i:Nat}{g ge:SS→R D}
end
theorem wx {v v':V}{u:Value}(h:RelV v u)(h':RelV v' u):v=v':=by
 cases v<;>cases v'<;>simp only[L2.RelV]at h h'<;>first
  | rfl
  | (subst h;cases h';rfl)
  | (subst h;cases h';done)
  | (obtain⟨t,rfl⟩:=h;obtain⟨t',e⟩:=h';cases e;rfl)
  | (obtain⟨t,rfl⟩:=h;obtain⟨t',e⟩:=h';cases e;done)
  | (obtain⟨t,rfl⟩:=h;cases h';done)
  | (subst h;obtain⟨t',e⟩:=h';cases e;done)
section
variable {X:Cx}{F:Fx}{pins:List (Addr×Obj)}{σ:St}{H Z:Hp}{s:Shared}
open Classical in
noncomputable def itemB (P:Value→Prop) (u:Value):Bool:=if P u then true else false
theorem i8 {K:PySem.W.Frag}{C:Nat→Addr}{n:Nat}{dx:D}{vx:V}{x:Value}(hK:X.K=K)(I:Inv X pins σ H s)(z:Same Z H)(gx:good n dx=true)(rx:Rep K C Z dx vx)(hx:RelV vx x){A:Around}(hu:A.units+n < cLine)(ds:List D)(hg:goods n ds=true){vs:List V}{us:List Value}(rs:Reps K C Z ds vs)(hv:Vals vs us) :
  ∃ e:Value→Bool,(∀ u∈us,SeqAt.EqAt A s u x (e u))∧us.any e=ds.any fun d=>eqD d dx:=by
 refine⟨itemB fun u=>∃ d v,good n d=true∧Rep K C Z d v∧RelV v u∧eqD d dx=true,?_⟩
 have key:∀ (d:D) (v:V) (u:Value),good n d=true→Rep K C Z d v→RelV v u→itemB (fun u=>∃ d v,good n d=true∧Rep K C Z d v∧RelV v u∧eqD d dx=true) u=eqD d dx:=fun d v u gd rd hd=>by
  unfold itemB
  by_cases h:eqD d dx=true
  ·rw[if_pos ⟨d,v,gd,rd,hd,h⟩,h]
  ·rw[if_neg,(by simpa using h:eqD d dx=false)]
   rintro ⟨d',v',g',r',h1,h2⟩
   have e1:=wx h1 hd
   subst e1
   rw[kN hK I z n d' d v' g' gd r' rd]at h2
   exact h h2
 induction ds generalizing vs us with
 | nil =>
  rw[Reps]at rs
  subst rs
  cases hv
  exact⟨fun u hu=>(nomatch hu),rfl⟩
 | cons d ds ih =>
  rw[Reps]at rs
  obtain⟨v,r,rfl,r1,r2⟩:=rs
  rw[goods,Bool.and_eq_true]at hg
  cases hv with
  | cons hv1 hv2 =>
   obtain⟨i1,i2⟩:=ih hg.2 r2 hv2
   refine⟨fun u hu'=>?_,?_⟩
   ·rcases List.mem_cons.mp hu' with e | e
    ·subst e
     rw[key d v _ hg.1 r1 hv1]
     exact iF hK I z n A d dx v vx _ _ hg.1 gx r1 rx hv1 hx hu
    ·exact i1 u e
   ·rw[List.any_cons,List.any_cons,i2,key d v _ hg.1 r1 hv1]
end
def rInD (K:PySem.W.Frag)(C:Nat→Addr)(neg:Bool):R2:=fun x y H Q=>∃ (Z:Hp) (dx:D) (ds:List D) (p:Addr) (vs:List V),Same Z H∧Rep K C Z dx x∧good 60 dx=true∧y=.ref p∧(SqL K Z p vs∨SqT K Z p vs)∧Reps K C Z ds vs∧goods 60 ds=true∧Q (.bl (if neg then !(ds.any fun d=>eqD d dx) else ds.any fun d=>eqD d dx)) H
section
variable {X:Cx}{F:Fx}{a b:Expr}{ga gb:SS→R D}{pos:Pos}{k:Nat}
theorem Aa (hK:X.K=F.K)(hr:Room k X.A):OpR X (compareOp .In) (rInD F.K F.C false):=by
 intro pins s σ H x y v u Q I rx ry h
 obtain⟨Z,dx,ds,p,vs,z,rd,gd,rfl,hq,rs,gs,q⟩:=h
 cases ry
 have hu:X.A.in1.units+60 < cLine:=by have:=hr.un;show X.A.units+1+60 < cLine;omega
 rcases hq with hq | hq
 ·obtain⟨its,r,pl,hz⟩:=I.list (by rw[hK];exact z.seq hq)
  obtain⟨e,e1,e2⟩:=i8 hK I z gd rd rx hu ds gs rs r
  refine SeqAt.in_listAt e pl.isList (fun w hw=>e1 w (by simpa using hw)) ⟨.bl _,H,I,rfl,?_⟩
  rw[show its.toArray.any e=its.any e by simp,e2]
  exact q
 ·obtain⟨its,r,pl,hz⟩:=I.tuple (by rw[hK];exact hq.mono z)
  obtain⟨e,e1,e2⟩:=i8 hK I z gd rd rx hu ds gs rs r
  refine SeqAt.in_tupleAt e pl (fun w hw=>e1 w (by simpa using hw)) ⟨.bl _,H,I,rfl,?_⟩
  rw[show its.toArray.any e=its.any e by simp,e2]
  exact q
theorem uD (hK:X.K=F.K)(hr:Room k X.A):OpR X (compareOp .NotIn) (rInD F.K F.C true):=by
 intro pins s σ H x y v u Q I rx ry h
 obtain⟨Z,dx,ds,p,vs,z,rd,gd,rfl,hq,rs,gs,q⟩:=h
 cases ry
 have hu:X.A.in1.units+60 < cLine:=by have:=hr.un;show X.A.units+1+60 < cLine;omega
 rcases hq with hq | hq
 ·obtain⟨its,r,pl,hz⟩:=I.list (by rw[hK];exact z.seq hq)
  obtain⟨e,e1,e2⟩:=i8 hK I z gd rd rx hu ds gs rs r
  refine SeqAt.notIn_listAt e pl.isList (fun w hw=>e1 w (by simpa using hw)) ⟨.bl _,H,I,rfl,?_⟩
  rw[show its.toArray.any e=its.any e by simp,e2]
  exact q
 ·obtain⟨its,r,pl,hz⟩:=I.tuple (by rw[hK];exact hq.mono z)
  obtain⟨e,e1,e2⟩:=i8 hK I z gd rd rx hu ds gs rs r
  refine SeqAt.notIn_tupleAt e pl (fun w hw=>e1 w (by simpa using hw)) ⟨.bl _,H,I,rfl,?_⟩
  rw[show its.toArray.any e=its.any e by simp,e2]
  exact q
theorem sV {dx dy:D}{r:R D}(h:dInD dx dy=r):(∃ ds,(dy=.tup ds∨dy=.lst ds)∧good 60 dx=true∧goods 60 ds=true∧r=.ok (.bl (ds.any fun d=>eqD d dx)))∨r=.stuck:=by
 subst h
 cases dy with
 | tup ds =>
  show _∨(if good 60 dx=true∧goods 60 ds=true then _ else _)=_
  by_cases q:good 60 dx=true∧goods 60 ds=true
  ·exact .inl ⟨ds,.inl rfl,q.1,q.2,if_pos q⟩
  ·exact .inr (if_neg q)
 | lst ds =>
  show _∨(if good 60 dx=true∧goods 60 ds=true then _ else _)=_
  by_cases q:good 60 dx=true∧goods 60 ds=true
  ·exact .inl ⟨ds,.inr rfl,q.1,q.2,if_pos q⟩
  ·exact .inr (if_neg q)
 | _=>exact .inr rfl
theorem ym:OpD F (rInD F.K F.C false) dInD:=by
 intro H Z x y dx dy Q s rx ry w
 rcases sV (dx:=dx) (dy:=dy) rfl with ⟨ds,hd,g1,g2,e⟩ | e
 ·rw[e]at w
  rcases hd with rfl | rfl
  ·rw[Rep]at ry
   obtain⟨p,vs,rfl,h1,h2⟩:=ry
   exact⟨Z,dx,ds,p,vs,s,rx,g1,rfl,.inr h1,h2,g2,WG.now w s _ bE⟩
  ·rw[Rep]at ry
   obtain⟨p,vs,rfl,h1,h2⟩:=ry
   exact⟨Z,dx,ds,p,vs,s,rx,g1,rfl,.inl h1,h2,g2,WG.now w s _ bE⟩
 ·rw[e]at w;exact w.elim
theorem rE:OpD F (rInD F.K F.C true) dNotInD:=by
 intro H Z x y dx dy Q s rx ry w
 unfold dNotInD at w
 rcases sV (dx:=dx) (dy:=dy) rfl with ⟨ds,hd,g1,g2,e⟩ | e
 ·rw[e]at w
  have w2:WG F H Z (R.ok (FF.D.bl (!(ds.any fun d=>eqD d dx)))) (fun d H' Z'=>∀ v,Rep F.K F.C Z' d v→Q v H'):=w
  rcases hd with rfl | rfl
  ·rw[Rep]at ry
   obtain⟨p,vs,rfl,h1,h2⟩:=ry
   exact⟨Z,dx,ds,p,vs,s,rx,g1,rfl,.inr h1,h2,g2,WG.now w2 s _ bE⟩
  ·rw[Rep]at ry
   obtain⟨p,vs,rfl,h1,h2⟩:=ry
   exact⟨Z,dx,ds,p,vs,s,rx,g1,rfl,.inl h1,h2,g2,WG.now w2 s _ bE⟩
 ·rw[e]at w;exact w.elim
theorem Ab (bx:BX X F k)(ha:FE X F a ga)(hb:FE X F b gb)(hm:behindInMarks .In b=false:=by rfl):FT X F (.Compare a [.In] [b] pos) (gB (eOp dInD ga gb)):=iD (Aa bx.K bx.room) ym ha hb (hm:=hm)
theorem uE (bx:BX X F k)(ha:FE X F a ga)(hb:FE X F b gb)(hm:behindInMarks .NotIn b=false:=by rfl):FT X F (.Compare a [.NotIn] [b] pos) (gB (eOp dNotInD ga gb)):=iD (uD bx.K bx.room) rE ha hb (hm:=hm)
end
section
variable {X:Cx}{F:Fx}{p pos:Pos}{e e2:Expr}{gs:SS→R (List D)}{k:Nat}
theorem rF:CallD F (fun xs H Q=>∃ i j,xs=[.int i,.int j]∧Q (.int (if j < i then j else i)) H) dMin2:=by
 intro H Z xs ds Q s rs w
 unfold dMin2 at w
 split at w
 ·exact⟨_,_,pq rs,WG.now w s _ aI⟩
 ·exact w.elim
theorem yn (bx:BX X F k)(hg:Gl X "min")(hm:X.mg "min"=none)(ha:FA X F [e,e2] gs)(he:starEach [e,e2] X.env=(false,eval e X.env)::starEach [e2] X.env:=by rfl)(hpl:(backTo pos (starEach [e2] X.env)).any (·.1)=false:=by rfl) :
  FE X F (.Call (.Name "min" p) [e,e2] [] pos) (eCall dMin2 gs):=eM (tX bx.calm) rF hg hm (by decide +kernel) ha (he:=he) (hpl:=hpl)
theorem uF:CallD F (fun xs H Q=>∃ i,xs=[.int i]∧Q (.int (if i < 0 then -i else i)) H) dAbs:=by
 intro H Z xs ds Q s rs w
 unfold dAbs at w
 split at w
 ·rename_i i
  have e:(i.natAbs:Int)=if i < 0 then -i else i:=by split<;>omega
  rw[e]at w
  exact⟨_,oj rs,WG.now w s _ aI⟩
 ·exact w.elim
theorem Ac (bx:BX X F k)(hg:Gl X "abs")(hm:X.mg "abs"=none)(ha:FA X F [e] gs)(he:starEach [e] X.env=(false,eval e X.env)::starEach [] X.env:=by rfl)(hpl:(backTo pos (starEach [] X.env)).any (·.1)=false:=by rfl) :
  FE X F (.Call (.Name "abs" p) [e] [] pos) (eCall dAbs gs):=eM vF uF hg hm (by decide +kernel) ha (he:=he) (hpl:=hpl)
end
section
variable {X:Cx}{F:Fx}{pos p1 p2:Pos}{x y:Str}{kk:Nat}
theorem hJ (i j:Nat)(hc:X.calm=true)(hN:X.N.Nodup)(hij:i≠j:=by decide)(hi:X.N[i]?=some x:=by rfl)(hj:X.N[j]?=some y:=by rfl)(hx:Loc X.env.scope x:=by first | exact Or.inl rfl | exact Or.inr rfl)(hy:Loc X.env.scope y:=by first | exact Or.inl rfl | exact Or.inr rfl)
  (hfx:X.fn x=true∨X.env.scope.names.lookup x=some .local:=by first | exact .inl rfl | exact .inr rfl) (hfy:X.fn y=true∨X.env.scope.names.lookup y=some .local:=by first | exact .inl rfl | exact .inr rfl)
  (hK:X.K=F.K:=by first | rfl | assumption) (hn:(assignEach [.Name x p1,.Name y p2] X.env).length=2:=by rfl) (hst:(assignEach [.Name x p1,.Name y p2] X.env).findIdx? (·.1)=none:=by rfl):FG X F (.Tuple [.Name x p1,.Name y p2] kk pos) (gTup [i,j]) :=
 (vA hc (eJ (fg (i:=i) hN hi hx hfx) (eJ (fg (i:=j) hN hj hy hfy) n3)) hn hst).weak fun v σ H Q ⟨Z,S,d,ok,rd,w⟩=>by
  cases d with
  | tup ds =>
   match ds with
   | [a,b] =>
    rw[Rep]at rd
    obtain⟨c,vs,rfl,h1,h2⟩:=rd
    rw[Reps]at h2
    obtain⟨v1,r,rfl,q1,h2⟩:=h2
    rw[Reps]at h2
    obtain⟨v2,r,rfl,q2,h2⟩:=h2
    rw[Reps]at h2
    subst h2
    refine⟨c,[v1,v2],rfl,by rw[hK];exact h1.mono ok.sub,rfl,v1,[v2],rfl,v2,[],rfl,rfl,?_⟩
    exact WG.now w ok.sub _ ((ok.setVal (i:=i) q1).setVal (i:=j) q2)
   | []=>exact w.elim
   | [_]=>exact w.elim
   | a::b::c::r =>
    have e:gTup [i,j] (.tup (a::b::c::r)) S=.stuck:=by unfold gTup;simp
    rw[e]at w
    exact w.elim
  | _=>exact w.elim
theorem wy {own i j:Nat}(hi:i < own)(hj:j < own):Own own (gTup [i,j]):=fun d S S1 e=>by
 cases d with
 | tup ds =>
  match ds with
  | [a,b] =>
   have e':R.ok ((S.set i (some (.val a))).set j (some (.val b)))=R.ok S1:=e
   cases e'
   refine⟨by simp,fun n hn=>?_⟩
   rw[List.getElem?_set_ne (by omega),List.getElem?_set_ne (by omega)]
  | []=>cases e
  | [_]=>cases e
  | a::b::c::r =>
   have q:gTup [i,j] (.tup (a::b::c::r)) S=.stuck:=by unfold gTup;simp
   rw[q]at e
   cases e
 | _=>cases e
end
end FF
end
noncomputable section
namespace FF
open PySem PySem.Spec PyProof.Rows L2
theorem kn:∀ (l acc:List Int),l.foldl step_dedup acc=acc++(l.filter fun x=>!acc.any (· == x)).eraseDups
 | [],acc=>by simp
 | x::l,acc=>by
  rw[List.foldl_cons,kn l]
  unfold step_dedup
  by_cases h:acc.any (· == x)=true
  ·rw[if_pos h,List.filter_cons_of_neg (by rw[h];decide)]
  ·have h':acc.any (· == x)=false:=Bool.not_eq_true _ ▸ h
   have ef:(l.filter fun y=>!(acc++[x]).any (· == y))=(l.filter fun y=>!acc.any (· == y)).filter fun b=>!b==x:=by
    rw[List.filter_filter]
    refine List.filter_congr fun y _=>?_
    rw[List.any_append]
    have:([x].any fun z=>z==y)=(y==x):=by simp[Bool.beq_comm,BEq.comm]
    rw[this]
    cases acc.any (· == y)<;>cases (y==x)<;>rfl
   rw[if_neg h,List.filter_cons_of_pos (by rw[h'];rfl),List.eraseDups_cons,ef,List.append_assoc]
   rfl
theorem mB (is:List Int):(firstMet (fun i=>is.getD i 0) is.length).length=is.eraseDups.length:=by
 unfold firstMet
 rw[kn]
 have:(List.range is.length).map (fun i=>is.getD i 0)=is:=by
  apply List.ext_getElem?
  intro i
  rw[List.getElem?_map]
  by_cases h:i < is.length
  ·rw[List.getElem?_range h,List.getElem?_eq_getElem h];simp[List.getD,h]
  ·rw[List.getElem?_eq_none (by simpa using h),List.getElem?_eq_none (by simpa using h)];rfl
 rw[this]
 have:(is.filter fun x=>!([]:List Int).any (· == x))=is:=List.filter_eq_self.mpr fun _ _=>rfl
 rw[this,List.nil_append]
section
variable {X:Cx}{F:Fx}{p p2 pos pos2:Pos}{e:Expr}{gs:SS→R (List D)}{k:Nat}
theorem wz (hc:X.calm=true):CallR X (.type "set") (fun xs H Q=>∃ (p:Addr) (is:List Int),xs=[.ref p]∧SqL X.K H p (is.map V.int)∧is.length≤4000∧∀ a,H a=none→Q (.ref a) (upd H a (.set (fun k'=>(firstMet (fun i=>is.getD i 0) is.length).any (· == k')) is.eraseDups.length))):=by
 intro pins s σ H xs us Q I r h
 obtain⟨p,is,rfl,hq,hl,q⟩:=h
 obtain⟨u,rfl,ru⟩:=vals1 r
 cases ru
 obtain⟨its,rv,pl,hz⟩:=I.list hq
 obtain⟨ps,rfl,e⟩:=bI rv
 have hlen:ps.length=is.length:=by rw[← e,List.length_map]
 have hs:(ps.map fun p=>Value.int p.1 p.2).toArray.size=is.length:=by simp[hlen]
 refine call_set_list (ns:=is) (I.ok.hd hc) pl.isList ?_ (by rw[hs];show is.length+1 < 4096;omega) fun h' tk hS hk=>?_
 ·have:∀ (ps:List (Int×Tok)),IntsAre (ps.map fun p=>Value.int p.1 p.2) (ps.map (·.1)):=by
   intro ps
   induction ps with
   | nil=>exact .nil
   | cons a l ih=>exact .cons a.1 a.2 ih
  rw[← e]
  exact this ps
 ·rw[hs,mB]at hS
  exact⟨.ref s.heap.objs.size,_,I.laid (o:=.set (fun k'=>(firstMet (fun i=>is.getD i 0) is.length).any (· == k')) is.eraseDups.length) (t':=tk) (fun b u q=>hk b u (Heap.lt_size q) q) (Nat.le_refl _) hS,rfl,q _ I.fresh⟩
theorem pK:CallR X (.builtin "len") (fun xs H Q=>∃ (a:Addr) (S:Int→Bool) (n:Nat),xs=[.ref a]∧H a=some (.set S n)∧Q (.int n) H):=by
 intro pins s σ H xs us Q I r h
 obtain⟨a,S,n,rfl,hq,q⟩:=h
 obtain⟨u,rfl,ru⟩:=vals1 r
 cases ru
 obtain⟨o,es,ep,t,h1,h2,h3,h4,h5,h6,h7,h8⟩:=(show s.heap.SetOf (intKind X.prog X.w) a S n from I.hok a _ hq)
 subst h8
 have:es.size < 4096:=h6
 exact call_len_set h1 h2 h3 h7 (by omega) ⟨.int es.size,H,I.tok _,⟨_,rfl⟩,q⟩
theorem uG (bx:BX X F k)(hg:Gl X "len")(hm:X.mg "len"=none)(hg2:Gl X "set")(hm2:X.mg "set"=none)(ha:FA X F [e] gs)(he:starEach [e] X.env=(false,eval e X.env)::starEach [] X.env:=by rfl)(hpl:(backTo pos2 (starEach [] X.env)).any (·.1)=false:=by rfl)
  (he2:starEach [.Call (.Name "set" p2) [e] [] pos2] X.env=(false,eval (.Call (.Name "set" p2) [e] [] pos2) X.env)::starEach [] X.env:=by rfl) (hpl2:(backTo pos (starEach [] X.env)).any (·.1)=false:=by rfl) :
  FE X F (.Call (.Name "len" p) [.Call (.Name "set" p2) [e] [] pos2] [] pos) (eCall dLenSet gs) :=
 (kU pK hg hm PySem.boot_len (kM (na (wz bx.calm) hg2 hm2 (by decide +kernel) ha (he:=he) (hpl:=hpl)) rg he2) (he:=he2) (hpl:=hpl2)).weak fun σ H Q ⟨Z,S,ok,w⟩=>by
  refine bu ok w fun ds vs H1 Z1 ok1 x1 rs w1=>?_
  unfold dLenSet at w1
  split at w1
  ·rename_i xs
   split at w1
   ·rename_i is e
    split at w1
    ·rename_i hl
     obtain⟨v,rfl,h⟩:=bL rs
     rw[Rep]at h
     obtain⟨a,us,rfl,h1,h2⟩:=h
     have e2:=cE h2 e
     subst e2
     refine⟨a,is,rfl,by rw[bx.K];exact ok1.sub.seq h1,hl,fun c hc=>⟨c,_,_,rfl,au,?_⟩⟩
     exact w1 _ _ (Ex.hidden ok1.sub hc) _ aI
    ·exact w1.elim
   ·exact w1.elim
  ·exact w1.elim
end
end FF
end
noncomputable section
namespace FF
open PySem PySem.Spec PyProof.Rows L2
section
variable {X:Cx}{F:Fx}
def gNames:List Nat→TGs
 | []=>gNil
 | i::r=>gCons (gName i) (gNames r)
theorem jM {H Z:Hp}{Q:St→Hp→Prop}:∀ (ix:List Nat) (ds:List D) (vs:List V) (S:SS) (σ:St),ds.length=ix.length→Reps F.K F.C Z ds vs→StOk F H Z S σ→(∀ σ',StOk F H Z (setAll ix ds S) σ'→Q σ' H)→gNames ix vs σ H Q
 | [],[],vs,S,σ,_,rs,ok,h=>by
  rw[Reps]at rs
  subst rs
  exact⟨rfl,h σ ok⟩
 | i::ix,d::ds,vs,S,σ,hl,rs,ok,h=>by
  rw[Reps]at rs
  obtain⟨v,r,rfl,q,rs⟩:=rs
  exact⟨v,r,rfl,jM ix ds r _ _ (by simpa using hl) rs (ok.setVal (i:=i) q) h⟩
 | [],_::_,_,_,_,hl,_,_,_=>by simp at hl
 | _::_,[],_,_,_,hl,_,_,_=>by simp at hl
theorem wA {es:List Expr}{kk:Nat}{pos:Pos}(ix:List Nat)(hc:X.calm=true)(h:PGs X es (gNames ix))(hn:(assignEach es X.env).length=ix.length)(hst:(assignEach es X.env).findIdx? (·.1)=none)(hK:X.K=F.K):FG X F (.Tuple es kk pos) (gTup ix) :=
 (vA hc h hn hst).weak fun v σ H Q ⟨Z,S,d,ok,rd,w⟩=>by
  cases d with
  | tup ds =>
   by_cases hl:ds.length=ix.length
   ·have w':WG F H Z (R.ok (setAll ix ds S)) fun S' H' Z'=>∀ σ',StOk F H' Z' S' σ'→Q σ' H':=by
     have e:gTup ix (.tup ds) S=R.ok (setAll ix ds S):=by unfold gTup;simp[hl]
     rw[e]at w;exact w
    have rd':=rd
    rw[Rep]at rd'
    obtain⟨c,vs,rfl,h1,h2⟩:=rd'
    refine⟨c,vs,rfl,by rw[hK];exact h1.mono ok.sub,by rw[← h2.length,hl],?_⟩
    exact jM ix ds vs S σ hl h2 ok (WG.now w' ok.sub)
   ·have e:gTup ix (.tup ds) S=R.stuck:=by unfold gTup;simp[hl]
    rw[e]at w
    exact w.elim
  | _=>exact w.elim
theorem sW {tg e:Expr}{pos:Pos}{ge:SS→R D}{g:D→SS→R SS}(he:FE X F e ge)(hg:FG X F tg g)(hs:swapsWithSole [tg] e pos.line X.env=pure false)(hw:swappedStores [tg] e X.env=pure none)(h1:(assignEach [tg] X.env).map (·.2)=[assign tg X.env]):FS X F (.Assign [tg] e pos) (sAsg g ge) :=
 (zq he hg hs hw h1).weak fun D σ H ⟨Z,S,ok,w⟩=>aR ok (WO.wg ok w) fun d v H1 Z1 ok1 x1 rv w1=>by
  refine⟨Z1,S,d,ok1,rv,?_⟩
  cases q:g d S with
  | ok S1 =>
   rw[q]at w1
   intro H' Z' x' σ' ok'
   exact(w1 H' Z' x') _ _ _ (Same.refl _) ok'
  | err k=>rw[q]at w1;exact w1
  | stuck=>rw[q]at w1;exact w1
variable {σ:Type}{S:SS}{rest:List Stmt}{J:σ→SS→Prop}{e:Expr}{ge:SS→R D}{r:R D}{n:Nat}
end
end FF
end
noncomputable section
namespace L2
open PySem PySem.Spec PyProof.Rows
section
variable {X:Cx}{pos:Pos}
end
end L2
namespace FF
open PySem PySem.Spec PyProof.Rows L2
section
variable {X:Cx}{F:Fx}{σ:Type}{S:SS}{st:Stmt}{rest:List Stmt}{J:σ→SS→Prop}
end
end FF
end
noncomputable section
namespace FF
open PySem PySem.Spec PyProof.Rows L2
section
variable {prog:Program}{w:World}{A:Around}{E:Value→Shared→Prop}{s:Shared}
theorem i9 {it t:Addr}{i:Nat}{items:Array Value}{x:Value}{Q:Value→Shared→Prop}(hit:s.heap.IsTupleIter it t i)
  (hl:s.heap.IsTuple t items) (hx:items[i]?=some x)
  (hQ:∀ h',h'.IsTupleIter it t (i+1)→Heap.SameBut it s.heap h'→Q x { s with heap:=h' }) :
  wpAny (model prog w) A (Builtin.SmallTypes.nextOf (.ref it)) Q E s:=by
 obtain⟨o,ho,hc,hd⟩:=id hit
 obtain⟨ol,hol,_,nl,hdl⟩:=hl
 unfold Builtin.SmallTypes.nextOf
 refine wpAny_bind (wpAny_callSpecial?_slot (name:=Str.ofString "__next__") hit.typeIs F.slot_tuple_iterator_next
  (wpAny_call_entry F.slot_tuple_iterator_next hit.typeIs F.entry_tuple_iterator_next ?_ (F.args_tuple_iterator_next_1 _)))
 show wpAny _ _ (field (.ref it) 0 >>= _) _ _ s
 refine wpAny_bind (wpAny_field ho hd (x:=.ref t) rfl ?_)
 show wpAny _ _ (if (Value.ref t==Value.none)=true then _ else _) _ _ s
 rw[if_neg (show ¬ ((Value.ref t==Value.none)=true) from Bool.false_ne_true)]
 show wpAny _ _ (field (.ref it) 1 >>= _) _ _ s
 refine wpAny_bind (wpAny_field ho hd (x:=.int i 0) rfl ?_)
 show wpAny _ _ (seqItems? (.ref t) >>= _) _ _ s
 refine wpAny_bind (wpAny_seqItems hol hdl ?_)
 simp only[Int.toNat_natCast,hx]
 refine wpAny_bind (wpAny_setField ho hd (by simp) (wpAny_pure ⟨x,rfl,wpAny_pure (hQ _ ?_ (Heap.SameBut.update ..))⟩))
 exact⟨_,Heap.get?_update_self _ ho (Obj.isFreed_of_fields (Obj.data_mapFields hd _)),(Obj.cls_mapFields ..).trans hc,by
  rw[Obj.data_mapFields hd];simp[rawInt]⟩
theorem jN {it t:Addr}{i:Nat}{items:Array Value}{Q:Value→Shared→Prop}(hh:A.handled=none)
  (hit:s.heap.IsTupleIter it t i) (hl:s.heap.IsTuple t items) (hx:items[i]?=none)
  (hE:∀ h' e,Heap.ExtBut it s.heap h'→(∃ o,h'.get? e=some o∧o.cls=.type "StopIteration")→E (.ref e) { s with heap:=h' }) :
  wpAny (model prog w) A (Builtin.SmallTypes.nextOf (.ref it)) Q E s:=by
 obtain⟨o,ho,hc,hd⟩:=id hit
 obtain⟨ol,hol,_,nl,hdl⟩:=hl
 unfold Builtin.SmallTypes.nextOf
 refine wpAny_bind (wpAny_callSpecial?_slot (name:=Str.ofString "__next__") hit.typeIs F.slot_tuple_iterator_next
  (wpAny_call_entry F.slot_tuple_iterator_next hit.typeIs F.entry_tuple_iterator_next ?_ (F.args_tuple_iterator_next_1 _)))
 show wpAny _ _ (field (.ref it) 0 >>= _) _ _ s
 refine wpAny_bind (wpAny_field ho hd (x:=.ref t) rfl ?_)
 show wpAny _ _ (if (Value.ref t==Value.none)=true then _ else _) _ _ s
 rw[if_neg (show ¬ ((Value.ref t==Value.none)=true) from Bool.false_ne_true)]
 show wpAny _ _ (field (.ref it) 1 >>= _) _ _ s
 refine wpAny_bind (wpAny_field ho hd (x:=.int i 0) rfl ?_)
 show wpAny _ _ (seqItems? (.ref t) >>= _) _ _ s
 refine wpAny_bind (wpAny_seqItems hol hdl ?_)
 simp only[Int.toNat_natCast,hx]
 refine wpAny_bind (wpAny_rule (wpAny_bind (wpAny_setField ho hd (by simp) ?_)))
 show wpAny _ _ (newExc (.type "StopIteration") [] >>= _) _ _ _
 refine wpAny_bind ?_
 simp only[newExc,newTuple]
 refine wpAny_bind (wpAny_newObj_type ?_ (by size_fits))
 refine wpAny_bind (m:=firstArgMember _ _) (wpAny_of_eq (a:=Value.none) (by first | rfl | (simp only[firstArgMember];rfl)) ?_)
 refine wpAny_newObj_type ?_ (by size_fits)
 simp only[raiseNew]
 refine wpAny_bind (wpAny_handled ?_)
 first | rw[show A.in1.handled=none from hh] | rw[hh]
 refine wpAny_bind (wpAny_pure (wpAny_throw ?_))
 exact hE _ _ (((Heap.SameBut.update ..).extBut.push _).push _) ⟨_,Heap.get?_push_size _ rfl,rfl⟩
def SIt (h:Heap)(b:Bool)(it a:Addr)(k:Nat):Prop:=if b=true then h.IsTupleIter it a k else h.IsListIter it a k
def SOb (h:Heap)(b:Bool)(a:Addr)(xs:Array Value):Prop:=if b=true then h.IsTuple a xs else h.IsList a xs
theorem SIt.at {h h':Heap}{b:Bool}{it a:Addr}{k:Nat}(x:SIt h b it a k)(f:∀ o,h.get? it=some o→h'.get? it=some o):SIt h' b it a k:=by
 cases b<;>(obtain⟨o,ho,r⟩:=x;exact⟨o,f o ho,r⟩)
theorem SOb.at {h h':Heap}{b:Bool}{a:Addr}{xs:Array Value}(x:SOb h b a xs)(f:∀ o,h.get? a=some o→h'.get? a=some o):SOb h' b a xs:=by
 cases b<;>(obtain⟨o,ho,r⟩:=x;exact⟨o,f o ho,r⟩)
theorem SIt.lt {h:Heap}{b:Bool}{it a:Addr}{k:Nat}(x:SIt h b it a k):∃ o,h.get? it=some o∧∀ v,o.data≠.cell v:=by
 cases b<;>(obtain⟨o,ho,_,hd⟩:=x;exact⟨o,ho,fun v z=>by rw[hd]at z;cases z⟩)
theorem cG {b:Bool}{it a:Addr}{i:Nat}{items:Array Value}{x:Value}{Q:Value→Shared→Prop}(hit:SIt s.heap b it a i)(hl:SOb s.heap b a items)(hx:items[i]?=some x)
  (hQ:∀ h',SIt h' b it a (i+1)→Heap.SameBut it s.heap h'→Q x { s with heap:=h' }):wpAny (model prog w) A (Builtin.SmallTypes.nextOf (.ref it)) Q E s:=by
 cases b with
 | true=>exact i9 hit hl hx hQ
 | false=>exact wpAny_nextOf_list_item hit hl hx hQ
theorem eQ {b:Bool}{it a:Addr}{i:Nat}{items:Array Value}{Q:Value→Shared→Prop}(hh:A.handled=none)(hit:SIt s.heap b it a i)(hl:SOb s.heap b a items)(hx:items[i]?=none)
  (hE:∀ h' e,Heap.ExtBut it s.heap h'→(∃ o,h'.get? e=some o∧o.cls=.type "StopIteration")→E (.ref e) { s with heap:=h' }):wpAny (model prog w) A (Builtin.SmallTypes.nextOf (.ref it)) Q E s:=by
 cases b with
 | true=>exact jN hh hit hl hx hE
 | false=>exact wpAny_nextOf_list_end hh hit hl hx hE
def itOb (b:Bool)(a:Addr):Obj:={ cls:=.type (if b=true then "tuple_iterator" else "list_iterator"),data:=.fields #[.ref a,.int 0 0] }
theorem sX {b:Bool}{a:Addr}{items:Array Value}{Q:Value→Shared→Prop}(hl:SOb s.heap b a items)(hQ:Q (.ref s.heap.objs.size) { s with heap:=s.heap.push (itOb b a) }):wpAny (model prog w) A (pyIter (.ref a)) Q E s:=by
 cases b with
 | true=>exact wpAny_pyIter_tuple hl hQ
 | false=>exact wpAny_pyIter_list hl hQ
def IsZ (h:Heap)(z TI TO:Addr)(f0 f1:Value):Prop:=h.get? z=some { cls:=.type "zip",dict:=none,data:=.fields #[f0,f1,.bool false,.ref TI,.ref TO],slots:=#[] }
theorem wB {a:Addr}{o:Obj}{Q:Option Obj→Shared→Prop}(ho:s.heap.get? a=some o)(h:Q (some o) s):wpAny (model prog w) A (loadIfAlive a) Q E s:=fun Γ p hΓ=>by
 show Sem.wp _ Γ (.loadIfAlive a .pure) _ _ p s
 rw[Sem.wp_loadIfAlive,ho]
 exact h
theorem lm {z TI TO T:Addr}{oT:Obj}{u:Bool}{Q:Bool→Shared→Prop}(hz:IsZ s.heap z TI TO (rawInt T) (.bool u))(hoT:s.heap.get? T=some oT)
  (hQ:∀ h₁,IsZ h₁ z TI TO (rawInt T) (.bool true)→Heap.SameBut z s.heap h₁→Q false { s with heap:=h₁ }):wpAny (model prog w) A (Builtin.SmallTypes.ownedTupleIsFree (.ref z)) Q E s:=by
 unfold Builtin.SmallTypes.ownedTupleIsFree
 refine wpAny_bind (wpAny_field hz rfl (x:=rawInt T) rfl ?_)
 show wpAny _ _ (loadIfAlive (T:Int).toNat >>= _) _ _ _
 rw[Int.toNat_natCast]
 refine wpAny_bind (wB hoT ?_)
 show wpAny _ _ (field (.ref z) 1 >>= _) _ _ _
 refine wpAny_bind (wpAny_field hz rfl (x:=.bool u) rfl ?_)
 cases u with
 | true=>exact wpAny_pure (hQ s.heap hz (Heap.SameBut.refl ..))
 | false=>exact wpAny_bind (wpAny_setField_rec hz (by simp) fun h₁ hz₁ hs₁=>wpAny_pure (hQ h₁ hz₁ hs₁))
theorem wC {z TI TO i1 i2 l1 l2:Addr}{b1 b2:Bool}{k1 k2:Nat}{xs ys:Array Value}{f0 x y a b:Value}{u:Bool}{Q:Value→Shared→Prop}(D:ZipApart z TI TO i1 i2 l1 l2)
  (hz:IsZ s.heap z TI TO f0 (.bool u)) (hf:f0=.none∨∃ (T:Addr) (o:Obj),f0=rawInt T∧T≠z∧T≠i1∧T≠i2∧s.heap.get? T=some o) (hTI:IsPair s.heap TI (.ref i1) (.ref i2)) (hTO:IsPair s.heap TO a b)
  (h1:SIt s.heap b1 i1 l1 k1) (h2:SIt s.heap b2 i2 l2 k2) (hl1:SOb s.heap b1 l1 xs) (hl2:SOb s.heap b2 l2 ys) (hx:xs[k1]?=some x) (hy:ys[k2]?=some y)
  (hQ:∀ h' g0 g1,IsZ h' z TI TO g0 (.bool g1)→(g0=rawInt s.heap.objs.size∨g0=f0∧f0≠.none)→(f0=.none→g0=rawInt s.heap.objs.size)→(∃ a b,IsPair h' TO a b)→SIt h' b1 i1 l1 (k1+1)→SIt h' b2 i2 l2 (k2+1)→IsPair h' s.heap.objs.size x y→h'.objs.size=s.heap.objs.size+1 →
   (∀ c o,c≠z→c≠TO→c≠i1→c≠i2→s.heap.get? c=some o→h'.get? c=some o)→Q (.ref s.heap.objs.size) { s with heap:=h' }) :
  wpAny (model prog w) A (Builtin.«zip.__next__» ⟨[.ref z],[]⟩) (fun fin s'=>∃ v,fin=.done (.ret v)∧Q v s') E s:=by
 show wpAny _ _ (field (.ref z) 2 >>= _) _ _ _
 refine wpAny_bind (wpAny_field hz rfl (x:=.bool false) rfl ?_)
 show wpAny _ _ (field (.ref z) 3 >>= _) _ _ _
 refine wpAny_bind (wpAny_field hz rfl (x:=.ref TI) rfl ?_)
 refine wpAny_bind (wpAny_seqItems hTI rfl ?_)
 show wpAny _ _ (Builtin.SmallTypes.ownedTupleIsFree (.ref z) >>= _) _ _ _
 refine wpAny_bind ?_
 rcases hf with rfl | ⟨T,oT,rfl,hTz,hT1,hT2,hoT⟩
 ·unfold Builtin.SmallTypes.ownedTupleIsFree
  refine wpAny_bind (wpAny_field hz rfl (x:=.none) rfl ?_)
  refine wpAny_pure ?_
  simp only[if_true]
  refine wpAny_bind (wpAny_rule ?_)
  refine wpAny_bind (wpAny_field hz rfl (x:=.ref TO) rfl ?_)
  refine wpAny_bind (wpAny_setField_rec hz (by simp) fun h₁ hz₁ hs₁=>?_)
  replace hz₁:IsZ h₁ z TI TO .ellipsis (.bool u):=hz₁
  refine wpAny_bind ?_
  simp only[List.zipIdx_cons,List.zipIdx_nil,List.forIn_cons,List.forIn_nil]
  refine wpAny_bind (wpAny_bind (wpAny_onRaise ?_))
  show wpAny _ _ (Builtin.SmallTypes.nextOf (.ref i1) >>= _) _ _ _
  refine wpAny_bind (cG (h1.at fun o e=>hs₁.extBut _ _ D.i1z e) (hl1.at fun o e=>hs₁.extBut _ _ D.l1z e) hx fun h₂ h1₂ hs₂=>wpAny_pure ?_)
  have hTO₂:IsPair h₂ TO a b:=hs₂.extBut _ _ D.TOi1 (hs₁.extBut _ _ D.TOz hTO)
  refine wpAny_bind (wpAny_seqItems hTO₂ rfl ?_)
  refine wpAny_bind (wpAny_updateSeq_pair hTO₂ fun h₃ hTO₃ hs₃=>?_)
  replace hTO₃:IsPair h₃ TO x b:=hTO₃
  refine wpAny_bind (wpAny_letGo (wpAny_pure ?_))
  refine wpAny_bind (wpAny_bind (wpAny_onRaise ?_))
  show wpAny _ _ (Builtin.SmallTypes.nextOf (.ref i2) >>= _) _ _ _
  refine wpAny_bind (cG (((h2.at fun o e=>hs₁.extBut _ _ D.i2z e).at fun o e=>hs₂.extBut _ _ D.i12.symm e).at fun o e=>hs₃.extBut _ _ D.TOi2.symm e)
   (((hl2.at fun o e=>hs₁.extBut _ _ D.l2z e).at fun o e=>hs₂.extBut _ _ D.l2i1 e).at fun o e=>hs₃.extBut _ _ D.l2TO e) hy fun h₄ h2₄ hs₄=>wpAny_pure ?_)
  have hTO₄:IsPair h₄ TO x b:=hs₄.extBut _ _ D.TOi2 hTO₃
  refine wpAny_bind (wpAny_seqItems hTO₄ rfl ?_)
  refine wpAny_bind (wpAny_updateSeq_pair hTO₄ fun h₅ hTO₅ hs₅=>?_)
  replace hTO₅:IsPair h₅ TO x y:=hTO₅
  refine wpAny_bind (wpAny_letGo (wpAny_pure (wpAny_pure ?_)))
  refine wpAny_bind (wpAny_seqItems hTO₅ rfl ?_)
  refine wpAny_bind (wpAny_newTuple ?_)
  have hsz:h₅.objs.size=s.heap.objs.size:=by rw[hs₅.1,hs₄.1,hs₃.1,hs₂.1,hs₁.1]
  have hz₅:IsZ h₅ z TI TO .ellipsis (.bool u):=hs₅.extBut _ _ D.TOz.symm (hs₄.extBut _ _ D.i2z.symm (hs₃.extBut _ _ D.TOz.symm (hs₂.extBut _ _ D.i1z.symm hz₁)))
  have hk₅:∀ c o,c≠z→c≠TO→c≠i1→c≠i2→s.heap.get? c=some o→h₅.get? c=some o:=fun c o c1 c2 c3 c4 e =>
   hs₅.extBut _ _ c2 (hs₄.extBut _ _ c4 (hs₃.extBut _ _ c2 (hs₂.extBut _ _ c3 (hs₁.extBut _ _ c1 e))))
  have h1₅:SIt h₅ b1 i1 l1 (k1+1):=((h1₂.at fun o e=>hs₃.extBut _ _ D.TOi1.symm e).at fun o e=>hs₄.extBut _ _ D.i12 e).at fun o e=>hs₅.extBut _ _ D.TOi1.symm e
  have h2₅:SIt h₅ b2 i2 l2 (k2+1):=h2₄.at fun o e=>hs₅.extBut _ _ D.TOi2.symm e
  have hzlt:z < h₅.objs.size:=Heap.lt_size hz₅
  show wpAny _ _ (Builtin.SmallTypes.ownedTupleHandOut (.ref z) (.ref h₅.objs.size) >>= _) _ _ _
  refine wpAny_bind ?_
  unfold Builtin.SmallTypes.ownedTupleHandOut
  have hz₆:IsZ (h₅.push { cls:=.type "tuple",data:=.seq #[x,y] }) z TI TO .ellipsis (.bool u):=Heap.get?_push_of_some _ hz₅
  refine wpAny_bind (wpAny_setField_rec hz₆ (by simp) fun h₇ hz₇ hs₇=>?_)
  replace hz₇:IsZ h₇ z TI TO (rawInt h₅.objs.size) (.bool u):=hz₇
  refine wpAny_setField_rec hz₇ (by simp) fun h₈ hz₈ hs₈=>?_
  replace hz₈:IsZ h₈ z TI TO (rawInt h₅.objs.size) (.bool false):=hz₈
  have up:∀ c o,c≠z→h₅.get? c=some o→h₈.get? c=some o:=fun c o c1 e=>hs₈.extBut _ _ c1 (hs₇.extBut _ _ c1 (Heap.get?_push_of_some _ e))
  have hT₈:IsPair h₈ h₅.objs.size x y:=hs₈.extBut _ _ (Nat.ne_of_gt hzlt) (hs₇.extBut _ _ (Nat.ne_of_gt hzlt) (Heap.get?_push_size _ rfl))
  have hz8:h₈.objs.size=h₅.objs.size+1:=by rw[hs₈.1,hs₇.1,Heap.size_push]
  rw[hsz]at hz₈ hT₈ hz8
  refine wpAny_pure ⟨_,rfl,?_⟩
  show Q (.ref h₅.objs.size) _
  rw[hsz]
  exact hQ h₈ _ _ hz₈ (.inl rfl) (fun _=>rfl) ⟨_,_,up _ _ D.TOz hTO₅⟩ (h1₅.at fun o e=>up _ o D.i1z e) (h2₅.at fun o e=>up _ o D.i2z e) hT₈ hz8 fun c o c1 c2 c3 c4 e=>up c o c1 (hk₅ c o c1 c2 c3 c4 e)
 ·refine lm hz hoT fun h₁ hz₁ hs₁=>?_
  simp only[Bool.false_eq_true,if_false]
  refine wpAny_bind ?_
  simp only[List.forIn_toArray,List.forIn_cons,List.forIn_nil]
  refine wpAny_bind (wpAny_bind (wpAny_holding ?_))
  show wpAny _ _ (Builtin.SmallTypes.nextOf (.ref i1) >>= _) _ _ _
  refine wpAny_bind (cG (h1.at fun o e=>hs₁.extBut _ _ D.i1z e) (hl1.at fun o e=>hs₁.extBut _ _ D.l1z e) hx fun h₂ h1₂ hs₂=>wpAny_pure ?_)
  refine wpAny_pure ?_
  refine wpAny_bind (wpAny_bind (wpAny_holding ?_))
  show wpAny _ _ (Builtin.SmallTypes.nextOf (.ref i2) >>= _) _ _ _
  refine wpAny_bind (cG ((h2.at fun o e=>hs₁.extBut _ _ D.i2z e).at fun o e=>hs₂.extBut _ _ D.i12.symm e)
   ((hl2.at fun o e=>hs₁.extBut _ _ D.l2z e).at fun o e=>hs₂.extBut _ _ D.l2i1 e) hy fun h₃ h2₃ hs₃=>wpAny_pure ?_)
  refine wpAny_pure (wpAny_pure ?_)
  refine wpAny_bind (wpAny_newTuple (hsz:=by show 2≤sizeLine;decide) (wpAny_pure ⟨_,rfl,?_⟩))
  have hsz:h₃.objs.size=s.heap.objs.size:=by rw[hs₃.1,hs₂.1,hs₁.1]
  have hk:∀ c o,c≠z→c≠i1→c≠i2→s.heap.get? c=some o→(h₃.push { cls:=.type "tuple",data:=.seq #[x,y] }).get? c=some o:=fun c o c1 c3 c4 e =>
   Heap.get?_push_of_some _ (hs₃.extBut _ _ c4 (hs₂.extBut _ _ c3 (hs₁.extBut _ _ c1 e)))
  have hz₃:IsZ (h₃.push { cls:=.type "tuple",data:=.seq #[x,y] }) z TI TO (rawInt T) (.bool true):=Heap.get?_push_of_some _ (hs₃.extBut _ _ D.i2z.symm (hs₂.extBut _ _ D.i1z.symm hz₁))
  have hT:IsPair (h₃.push { cls:=.type "tuple",data:=.seq #[x,y] }) s.heap.objs.size x y:=by rw[← hsz];exact Heap.get?_push_size _ rfl
  show Q (.ref h₃.objs.size) _
  rw[hsz]
  exact hQ _ _ _ hz₃ (.inr ⟨rfl,by intro q;cases q⟩) (fun q=>by cases q) ⟨_,_,hk _ _ D.TOz D.TOi1 D.TOi2 hTO⟩ ((h1₂.at fun o e=>hs₃.extBut _ _ D.i12 e).at fun o e=>Heap.get?_push_of_some _ e) (h2₃.at fun o e=>Heap.get?_push_of_some _ e) hT
   (by rw[Heap.size_push,hsz]) fun c o c1 _ c3 c4 e=>hk c o c1 c3 c4 e
theorem yo {z TI TO i1 i2 l1 l2:Addr}{b1 b2:Bool}{k1 k2:Nat}{xs ys:Array Value}{f0 a b:Value}{u:Bool}{Q:Fin→Shared→Prop}(hh:A.handled=none)(D:ZipApart z TI TO i1 i2 l1 l2)
  (hz:IsZ s.heap z TI TO f0 (.bool u)) (hf:f0=.none∨∃ (T:Addr) (o:Obj),f0=rawInt T∧T≠z∧T≠i1∧T≠i2∧s.heap.get? T=some o) (hTI:IsPair s.heap TI (.ref i1) (.ref i2)) (hTO:IsPair s.heap TO a b)
  (h1:SIt s.heap b1 i1 l1 k1) (h2:SIt s.heap b2 i2 l2 k2) (hl1:SOb s.heap b1 l1 xs) (hl2:SOb s.heap b2 l2 ys) (hend:xs[k1]?=none∨ys[k2]?=none)
  (hE:∀ h' e,(∀ c o,c≠z→c≠TO→c≠i1→c≠i2→s.heap.get? c=some o→h'.get? c=some o)→(∃ o,h'.get? e=some o∧o.cls=.type "StopIteration")→E (.ref e) { s with heap:=h' }) :
  wpAny (model prog w) A (Builtin.«zip.__next__» ⟨[.ref z],[]⟩) Q E s:=by
 show wpAny _ _ (field (.ref z) 2 >>= _) _ _ _
 refine wpAny_bind (wpAny_field hz rfl (x:=.bool false) rfl ?_)
 show wpAny _ _ (field (.ref z) 3 >>= _) _ _ _
 refine wpAny_bind (wpAny_field hz rfl (x:=.ref TI) rfl ?_)
 refine wpAny_bind (wpAny_seqItems hTI rfl ?_)
 show wpAny _ _ (Builtin.SmallTypes.ownedTupleIsFree (.ref z) >>= _) _ _ _
 refine wpAny_bind ?_
 rcases hf with rfl | ⟨T,oT,rfl,hTz,hT1,hT2,hoT⟩
 ·unfold Builtin.SmallTypes.ownedTupleIsFree
  refine wpAny_bind (wpAny_field hz rfl (x:=.none) rfl ?_)
  refine wpAny_pure ?_
  simp only[if_true]
  refine wpAny_bind (wpAny_rule ?_)
  refine wpAny_bind (wpAny_field hz rfl (x:=.ref TO) rfl ?_)
  refine wpAny_bind (wpAny_setField_rec hz (by simp) fun h₁ hz₁ hs₁=>?_)
  replace hz₁:IsZ h₁ z TI TO .ellipsis (.bool u):=hz₁
  refine wpAny_bind ?_
  simp only[List.zipIdx_cons,List.zipIdx_nil,List.forIn_cons,List.forIn_nil]
  refine wpAny_bind (wpAny_bind (wpAny_onRaise ?_))
  show wpAny _ _ (Builtin.SmallTypes.nextOf (.ref i1) >>= _) _ _ _
  cases hx:xs[k1]? with
  | none =>
   refine wpAny_bind (eQ hh (h1.at fun o e=>hs₁.extBut _ _ D.i1z e) (hl1.at fun o e=>hs₁.extBut _ _ D.l1z e) hx fun h₂ e hs₂ he=>?_)
   obtain⟨oe,hoe,hce⟩:=he
   have hz₂:IsZ h₂ z TI TO .ellipsis (.bool u):=hs₂ _ _ D.i1z.symm hz₁
   have hez:e≠z:=fun x=>by subst x;rw[hz₂]at hoe;cases hoe;simp at hce
   refine wpAny_setField_rec hz₂ (by simp) fun h₃ _ hs₃=>hE h₃ e (fun c o c1 _ c3 _ x=>hs₃.extBut _ _ c1 (hs₂ _ _ c3 (hs₁.extBut _ _ c1 x))) ⟨oe,hs₃.extBut _ _ hez hoe,hce⟩
  | some x =>
   have hy:ys[k2]?=none:=by rcases hend with h | h;rw[hx]at h;cases h;exact h
   refine wpAny_bind (cG (h1.at fun o e=>hs₁.extBut _ _ D.i1z e) (hl1.at fun o e=>hs₁.extBut _ _ D.l1z e) hx fun h₂ h1₂ hs₂=>wpAny_pure ?_)
   have hTO₂:IsPair h₂ TO a b:=hs₂.extBut _ _ D.TOi1 (hs₁.extBut _ _ D.TOz hTO)
   refine wpAny_bind (wpAny_seqItems hTO₂ rfl ?_)
   refine wpAny_bind (wpAny_updateSeq_pair hTO₂ fun h₃ hTO₃ hs₃=>?_)
   refine wpAny_bind (wpAny_letGo (wpAny_pure ?_))
   refine wpAny_bind (wpAny_bind (wpAny_onRaise ?_))
   show wpAny _ _ (Builtin.SmallTypes.nextOf (.ref i2) >>= _) _ _ _
   refine wpAny_bind (eQ hh (((h2.at fun o e=>hs₁.extBut _ _ D.i2z e).at fun o e=>hs₂.extBut _ _ D.i12.symm e).at fun o e=>hs₃.extBut _ _ D.TOi2.symm e)
    (((hl2.at fun o e=>hs₁.extBut _ _ D.l2z e).at fun o e=>hs₂.extBut _ _ D.l2i1 e).at fun o e=>hs₃.extBut _ _ D.l2TO e) hy fun h₄ e hs₄ he=>?_)
   obtain⟨oe,hoe,hce⟩:=he
   have hz₄:IsZ h₄ z TI TO .ellipsis (.bool u):=hs₄ _ _ D.i2z.symm (hs₃.extBut _ _ D.TOz.symm (hs₂.extBut _ _ D.i1z.symm hz₁))
   have hez:e≠z:=fun x=>by subst x;rw[hz₄]at hoe;cases hoe;simp at hce
   refine wpAny_setField_rec hz₄ (by simp) fun h₅ _ hs₅=>hE h₅ e (fun c o c1 c2 c3 c4 x=>hs₅.extBut _ _ c1 (hs₄ _ _ c4 (hs₃.extBut _ _ c2 (hs₂.extBut _ _ c3 (hs₁.extBut _ _ c1 x))))) ⟨oe,hs₅.extBut _ _ hez hoe,hce⟩
 ·refine lm hz hoT fun h₁ hz₁ hs₁=>?_
  simp only[Bool.false_eq_true,if_false]
  refine wpAny_bind ?_
  simp only[List.forIn_toArray,List.forIn_cons,List.forIn_nil]
  refine wpAny_bind (wpAny_bind (wpAny_holding ?_))
  show wpAny _ _ (Builtin.SmallTypes.nextOf (.ref i1) >>= _) _ _ _
  cases hx:xs[k1]? with
  | none =>
   refine wpAny_bind (eQ hh (h1.at fun o e=>hs₁.extBut _ _ D.i1z e) (hl1.at fun o e=>hs₁.extBut _ _ D.l1z e) hx fun h₂ e hs₂ he=>?_)
   exact hE h₂ e (fun c o c1 _ c3 _ x=>hs₂ _ _ c3 (hs₁.extBut _ _ c1 x)) he
  | some x =>
   have hy:ys[k2]?=none:=by rcases hend with h | h;rw[hx]at h;cases h;exact h
   refine wpAny_bind (cG (h1.at fun o e=>hs₁.extBut _ _ D.i1z e) (hl1.at fun o e=>hs₁.extBut _ _ D.l1z e) hx fun h₂ h1₂ hs₂=>wpAny_pure ?_)
   refine wpAny_pure ?_
   refine wpAny_bind (wpAny_bind (wpAny_holding ?_))
   show wpAny _ _ (Builtin.SmallTypes.nextOf (.ref i2) >>= _) _ _ _
   refine wpAny_bind (eQ hh ((h2.at fun o e=>hs₁.extBut _ _ D.i2z e).at fun o e=>hs₂.extBut _ _ D.i12.symm e)
    ((hl2.at fun o e=>hs₁.extBut _ _ D.l2z e).at fun o e=>hs₂.extBut _ _ D.l2i1 e) hy fun h₄ e hs₄ he=>?_)
   exact hE h₄ e (fun c o c1 _ c3 c4 x=>hs₄ _ _ c4 (hs₂.extBut _ _ c3 (hs₁.extBut _ _ c1 x))) he
structure Zs (h:Heap)(z TI TO i1 i2 l1 l2:Addr)(b1 b2:Bool)(k:Nat)(f0:Value):Prop where
 z:∃ u,IsZ h z TI TO f0 (.bool u)
 ti:IsPair h TI (.ref i1) (.ref i2)
 to:∃ a b,IsPair h TO a b
 h1:SIt h b1 i1 l1 k
 h2:SIt h b2 i2 l2 k
theorem Zs.at {h h':Heap}{z TI TO i1 i2 l1 l2:Addr}{b1 b2:Bool}{k:Nat}{f0:Value}(x:Zs h z TI TO i1 i2 l1 l2 b1 b2 k f0)(f:∀ b∈[z,TI,TO,i1,i2],∀ o,h.get? b=some o→h'.get? b=some o):Zs h' z TI TO i1 i2 l1 l2 b1 b2 k f0:=by
 obtain⟨⟨u,e1⟩,e2,⟨a,b,e3⟩,e4,e5⟩:=x
 exact⟨⟨u,f z (by simp) _ e1⟩,f TI (by simp) _ e2,⟨a,b,f TO (by simp) _ e3⟩,e4.at fun o e=>f i1 (by simp) o e,e5.at fun o e=>f i2 (by simp) o e⟩
theorem pL {z TI TO i1 i2 l1 l2:Addr}{b1 b2:Bool}{k:Nat}{xs ys:Array Value}{f0 x y:Value}{Q:Option Value→Shared→Prop}(D:ZipApart z TI TO i1 i2 l1 l2)
  (hz:Zs s.heap z TI TO i1 i2 l1 l2 b1 b2 k f0) (hf:f0=.none∨∃ (T:Addr) (o:Obj),f0=rawInt T∧T≠z∧T≠i1∧T≠i2∧s.heap.get? T=some o)
  (hl1:SOb s.heap b1 l1 xs) (hl2:SOb s.heap b2 l2 ys) (hx:xs[k]?=some x) (hy:ys[k]?=some y)
  (hQ:∀ h' g0,Zs h' z TI TO i1 i2 l1 l2 b1 b2 (k+1) g0→(g0=rawInt s.heap.objs.size∨g0=f0∧f0≠.none)→(f0=.none→g0=rawInt s.heap.objs.size)→IsPair h' s.heap.objs.size x y→h'.objs.size=s.heap.objs.size+1 →
   (∀ c o,c≠z→c≠TO→c≠i1→c≠i2→s.heap.get? c=some o→h'.get? c=some o)→Q (some (.ref s.heap.objs.size)) { s with heap:=h' }) :
  wpAny (model prog w) A (pyNext (.ref z)) Q E s:=by
 obtain⟨⟨u,e1⟩,e2,⟨a,b,e3⟩,e4,e5⟩:=hz
 have hT:s.TypeIs (.ref z) "zip" := ⟨_,e1,rfl⟩
 unfold pyNext
 exact wpAny_bind (wpAny_attempt (wpAny_callSpecial?_slot (name:=Str.ofString "__next__") hT F.slot_zip_next
  (wpAny_call_entry F.slot_zip_next hT F.entry_zip_next
   (wC D e1 hf e2 e3 e4 e5 hl1 hl2 hx hy fun h' g0 g1 a1 a2 a2' a3 a4 a5 a6 a7 a8=>wpAny_pure (hQ h' g0 ⟨⟨g1,a1⟩,a8 _ _ D.TIz D.TITO D.TIi1 D.TIi2 e2,a3,a4,a5⟩ a2 a2' a6 a7 a8)) (F.args_zip_next_1 _))))
theorem pM {z TI TO i1 i2 l1 l2:Addr}{b1 b2:Bool}{k:Nat}{xs ys:Array Value}{f0:Value}{Q:Option Value→Shared→Prop}(hh:A.handled=none)(D:ZipApart z TI TO i1 i2 l1 l2)
  (hz:Zs s.heap z TI TO i1 i2 l1 l2 b1 b2 k f0) (hf:f0=.none∨∃ (T:Addr) (o:Obj),f0=rawInt T∧T≠z∧T≠i1∧T≠i2∧s.heap.get? T=some o)
  (hl1:SOb s.heap b1 l1 xs) (hl2:SOb s.heap b2 l2 ys) (hend:xs[k]?=none∨ys[k]?=none)
  (hQ:∀ h',(∀ c o,c≠z→c≠TO→c≠i1→c≠i2→s.heap.get? c=some o→h'.get? c=some o)→Q none { s with heap:=h' }):wpAny (model prog w) A (pyNext (.ref z)) Q E s:=by
 obtain⟨⟨u,e1⟩,e2,⟨a,b,e3⟩,e4,e5⟩:=hz
 have hT:s.TypeIs (.ref z) "zip" := ⟨_,e1,rfl⟩
 unfold pyNext
 refine wpAny_bind (wpAny_attempt (wpAny_callSpecial?_slot (name:=Str.ofString "__next__") hT F.slot_zip_next
  (wpAny_call_entry F.slot_zip_next hT F.entry_zip_next (yo hh D e1 hf e2 e3 e4 e5 hl1 hl2 hend fun h' e hk he=>?_) (F.args_zip_next_1 _))))
 obtain⟨o,ho,hc⟩:=he
 refine wpAny_bind (wpAny_isInstance (T := "StopIteration") (b:=true) ⟨o,ho,hc⟩ isSubtype_stop ?_)
 exact wpAny_pure (hQ _ hk)
theorem Ad {elts:List Expr}{x1}{pos:Pos}{z TI TO i1 i2 l1 l2 T:Addr}{b1 b2:Bool}{k:Nat}{Q:Unit→Shared→Prop}(hz:Zs s.heap z TI TO i1 i2 l1 l2 b1 b2 k (rawInt T))(D:ZipApart z TI TO i1 i2 l1 l2)
  (hQ:∀ h',Zs h' z TI TO i1 i2 l1 l2 b1 b2 k .none→Heap.SameBut z s.heap h'→Q () { s with heap:=h' }) :
  wpAny (model prog w) A (letOwnedTupleGo (.Tuple elts x1 pos) (.ref z) (.ref T)) Q E s:=by
 obtain⟨⟨u,e1⟩,e2,⟨a,b,e3⟩,e4,e5⟩:=hz
 unfold letOwnedTupleGo
 refine wpAny_bind (wpAny_load e1 ?_)
 show wpAny _ _ (if (["enumerate","zip","dict_itemiterator","dict_reverseitemiterator","odict_iterator","itertools.zip_longest","itertools.pairwise"].contains "zip" &&
   (#[rawInt T,.bool u,.bool false,.ref TI,.ref TO]:Array Value)[0]?==some (rawInt T))=true then _ else _) Q E s
 rw[if_pos (by simp)]
 refine wpAny_bind (wpAny_rule ?_)
 show wpAny _ _ (setField (.ref z) 0 .none) Q E s
 exact wpAny_setField_rec e1 (by simp) fun h' hz' hs'=>hQ h' ⟨⟨u,hz'⟩,hs'.extBut _ _ D.TIz e2,⟨a,b,hs'.extBut _ _ D.TOz e3⟩,e4.at fun o e=>hs'.extBut _ _ D.i1z e,e5.at fun o e=>hs'.extBut _ _ D.i2z e⟩ hs'
theorem ln {z TI TO i1 i2 l1 l2:Addr}{b1 b2:Bool}{k:Nat}{f0:Value}{Q:Value→Shared→Prop}(hz:Zs s.heap z TI TO i1 i2 l1 l2 b1 b2 k f0)(h:Q (.ref z) s):wpAny (model prog w) A (pyIter (.ref z)) Q E s:=by
 obtain⟨⟨u,e1⟩,_⟩:=hz
 have hT:s.TypeIs (.ref z) "zip" := ⟨_,e1,rfl⟩
 refine wpAny_pyIter_slot hT F.slot_zip_iter (wpAny_call_entry F.slot_zip_iter hT F.entry_zip_iter ?_ (F.args_zip_iter_1 _))
 show wpAny _ _ (ret (.ref z)) _ _ s
 exact wpAny_pure ⟨_,rfl,"zip",_,hT,F.slot_zip_next.lookup,h⟩
abbrev zH1 (h:Heap)(b1:Bool)(l1:Addr):Heap:=h.push (itOb b1 l1)
abbrev zH2 (h:Heap)(b1 b2:Bool)(l1 l2:Addr):Heap:=(zH1 h b1 l1).push (itOb b2 l2)
abbrev zH3 (h:Heap)(b1 b2:Bool)(l1 l2:Addr):Heap:=(zH2 h b1 b2 l1 l2).push { cls:=.type "tuple",data:=.seq #[.ref h.objs.size,.ref (zH1 h b1 l1).objs.size] }
abbrev zH4 (h:Heap)(b1 b2:Bool)(l1 l2:Addr):Heap:=(zH3 h b1 b2 l1 l2).push { cls:=.type "tuple",data:=.seq #[.none,.none] }
abbrev zH5 (h:Heap)(b1 b2:Bool)(l1 l2:Addr):Heap:=(zH4 h b1 b2 l1 l2).push { cls:=.type "zip",data:=.fields #[.none,.bool false,.bool false,.ref (zH2 h b1 b2 l1 l2).objs.size,.ref (zH3 h b1 b2 l1 l2).objs.size] }
theorem uH (b1 b2:Bool)(l1 l2:Addr)(xs ys:Array Value) :
  Meets (Builtin.«zip.__new__» ⟨[.type "zip",.ref l1,.ref l2],[]⟩) (fun _ R s=>SOb s.heap b1 l1 xs∧SOb s.heap b2 l2 ys ∧
   R (.ok (.ret (.ref (zH4 s.heap b1 b2 l1 l2).objs.size))) { s with heap:=zH5 s.heap b1 b2 l1 l2 }) :=
 .of_wp fun prog w A R s h=>by
  obtain⟨hp,g,d,tk,os⟩:=s;obtain⟨hl1,hl2,h⟩:=h
  have hsub:=sub_zip
  have hL1:SOb (Shared.heap ⟨hp,g,d,tk,os⟩) b1 l1 xs:=hl1
  have hL2:SOb (Shared.heap ⟨hp.push (itOb b1 l1),g,d,tk,os⟩) b2 l2 ys:=hl2.at fun o e=>Heap.get?_push_of_some _ e
  wp_walk using sX hL1,sX hL2
  exact⟨_,rfl,h⟩
theorem pN {b1 b2:Bool}{l1 l2:Addr}{xs ys:Array Value}{Q:Value→Shared→Prop}(hl1:SOb s.heap b1 l1 xs)(hl2:SOb s.heap b2 l2 ys)
  (h:∀ h',Zs h' (s.heap.objs.size+4) (s.heap.objs.size+2) (s.heap.objs.size+3) s.heap.objs.size (s.heap.objs.size+1) l1 l2 b1 b2 0 .none→(∀ c o,s.heap.get? c=some o→h'.get? c=some o)→Q (.ref (s.heap.objs.size+4)) { s with heap:=h' }) :
  wpAny (model prog w) A (call (.type "zip") [.ref l1,.ref l2]) Q E s:=by
 refine callType_new F.called_zip (by decide) (F.typeCall_zip_2 _ _) (F.newCall_zip_2 _ _) (fun obj=>F.args_object_init_3 obj _ _) F.entry_zip_new
  (uH b1 b2 l1 l2 xs ys) ⟨hl1,hl2,?_⟩
 have z1:(zH1 s.heap b1 l1).objs.size=s.heap.objs.size+1:=Heap.size_push ..
 have z2:(zH2 s.heap b1 b2 l1 l2).objs.size=s.heap.objs.size+2:=by rw[Heap.size_push,z1]
 have z3:(zH3 s.heap b1 b2 l1 l2).objs.size=s.heap.objs.size+3:=by rw[Heap.size_push,z2]
 have z4:(zH4 s.heap b1 b2 l1 l2).objs.size=s.heap.objs.size+4:=by rw[Heap.size_push,z3]
 have g5:(zH5 s.heap b1 b2 l1 l2).get? (zH4 s.heap b1 b2 l1 l2).objs.size=some _:=Heap.get?_push_size _ rfl
 have g4:(zH5 s.heap b1 b2 l1 l2).get? (zH3 s.heap b1 b2 l1 l2).objs.size=some _:=Heap.get?_push_of_some _ (Heap.get?_push_size _ rfl)
 have g3:(zH5 s.heap b1 b2 l1 l2).get? (zH2 s.heap b1 b2 l1 l2).objs.size=some _:=Heap.get?_push_of_some _ (Heap.get?_push_of_some _ (Heap.get?_push_size _ rfl))
 have g2:(zH5 s.heap b1 b2 l1 l2).get? (zH1 s.heap b1 l1).objs.size=some (itOb b2 l2):=Heap.get?_push_of_some _ (Heap.get?_push_of_some _ (Heap.get?_push_of_some _ (Heap.get?_push_size _ rfl)))
 have g1:(zH5 s.heap b1 b2 l1 l2).get? s.heap.objs.size=some (itOb b1 l1):=Heap.get?_push_of_some _ (Heap.get?_push_of_some _ (Heap.get?_push_of_some _ (Heap.get?_push_of_some _ (Heap.get?_push_size _ rfl))))
 have mk:∀ {h:Heap} {b:Bool} {it a:Addr},h.get? it=some (itOb b a)→SIt h b it a 0:=fun {h b it a} e=>by cases b<;>exact⟨_,e,rfl,rfl⟩
 show _∧_
 rw[z2,z3,z4]at g5
 rw[z1,z2]at g3
 rw[z3]at g4
 rw[z1]at g2
 rw[z4]
 exact⟨⟨_,g5,rfl⟩,h _ ⟨⟨false,g5⟩,g3,⟨_,_,g4⟩,mk g1,mk g2⟩ fun c o x =>
  Heap.get?_push_of_some _ (Heap.get?_push_of_some _ (Heap.get?_push_of_some _ (Heap.get?_push_of_some _ (Heap.get?_push_of_some _ x))))⟩
end
end FF
end
noncomputable section
namespace FF
open PySem PySem.Spec PyProof.Rows L2
section
variable {X:Cx}{pins:List (Addr×Obj)}{σ:St}{H:Hp}{s:Shared}{h':Heap}
theorem pO {h:Heap}{b:Addr}{o x:Obj}(q:b≠h.objs.size)(e:(h.push x).get? b=some o):h.get? b=some o:=by
 rcases Heap.get?_push_cases e with ⟨z,_⟩ | z
 ·exact absurd z q
 ·exact z
theorem turnedL {t':Nat}{fp:List Addr}(I:Inv X pins σ H s)(hf:∀ b∈fp,FpOk X pins H b)(k:∀ b o,b∉fp→s.heap.get? b=some o→h'.get? b=some o):Inv X pins σ H { s with heap:=h',toks:=t' }:=by
 have nit:∀ b u,H b=some u→b∉fp:=fun b u e z=>by rw[(hf b z).1]at e;cases e
 refine I.step (g':=s.gens) (d':=s.drawn) (ch:=fp) (fun b hb=>?_) (fun b o _ _ hc e _=>k b o hc e) (fun b o _ _ hc e _=>⟨o.slots,k b o hc e⟩) (fun _ _ _ _ n=>n)
  (fun b o hc e=>⟨o,k b o hc e⟩) (fun _ _ e=>e) (fun _ _ _ e=>e) (fun b ps e=>⟨#[],by rw[e];simp⟩) (fun m hm=>?_) (fun b u e=>?_) I.bare
 ·obtain⟨_,f1,f2,f3,f4,f5⟩:=hf b hb
  exact⟨f3,f1,f4,f5⟩
 ·obtain⟨o,es,ep,ho,r⟩:=hm
  exact⟨o,es,ep,k _ o (fun z=>(hf _ z).2.1 rfl) ho,r⟩
 ·refine(I.hok b u e).stay (fun c v hc q=>k c v ?_ q) (fun _ q=>q) fun _ _ q=>q
  rcases hc with z | z
  ·rw[z];exact nit b u e
  ·exact nit c _ z
theorem turnedP {t':Nat}{fp:List Addr}{x y:V}{u v:Value}(I:Inv X pins σ H s)(hf:∀ b∈fp,FpOk X pins H b)(hlt:∀ b∈fp,b≠s.heap.objs.size)(rx:RelV x u)(ry:RelV y v)(hp:IsPair h' s.heap.objs.size u v)
  (k:∀ b o,b∉fp→s.heap.get? b=some o→h'.get? b=some o):Inv X pins σ (upd H s.heap.objs.size (.tup [x,y])) { s with heap:=h',toks:=t' }:=by
 have I1:Inv X pins σ (upd H s.heap.objs.size (.tup [x,y])) { s with heap:=s.heap.push { cls:=.type "tuple",data:=.seq #[u,v] },toks:=s.toks }:=by
  refine I.laid (t':=s.toks) (fun b u e=>Heap.get?_push_of_some _ e) (Nat.le_refl _) ?_
  exact⟨by show 2≤sizeLine;decide,[u,v],.cons rx (.cons ry .nil),TupO.new _ _⟩
 refine turnedL (s:={ s with heap:=s.heap.push { cls:=.type "tuple",data:=.seq #[u,v] },toks:=s.toks }) (fp:=fp) (t':=t') I1 (fun b hb=>?_) fun b o hb e=>?_
 ·obtain⟨f0,f1⟩:=hf b hb
  exact⟨by rw[av (hlt b hb)];exact f0,f1⟩
 ·by_cases q:b=s.heap.objs.size
  ·subst q
   have e':some _=some o:=(Heap.get?_push_size s.heap (o:={ cls:=.type "tuple",data:=.seq #[u,v] }) rfl).symm.trans e
   cases e'
   exact hp
  ·have e':s.heap.get? b=some o:=by
    exact pO q e
   exact k b o hb e'
end
def SqB (K:PySem.W.Frag)(H:Hp)(b:Bool)(a:Addr)(xs:List V):Prop:=if b=true then SqT K H a xs else SqL K H a xs
theorem cc {X:Cx}{pins:List (Addr×Obj)}{σ:St}{H:Hp}{s:Shared}{b:Bool}{a:Addr}{xs:List V}(I:Inv X pins σ H s)(h:SqB X.K H b a xs):∃ its:List Value,Vals xs its∧SOb s.heap b a its.toArray∧xs.length≤sizeLine:=by
 cases b with
 | true =>
  obtain⟨its,rv,p,hz⟩:=I.tuple h
  exact⟨its,rv,p,hz⟩
 | false =>
  obtain⟨its,rv,p,hz⟩:=I.list h
  exact⟨its,rv,p.isList,hz⟩
theorem rG {X:Cx}{pins:List (Addr×Obj)}{σ:St}{H:Hp}{s:Shared}{b:Bool}{a:Addr}{xs ys:List V}(I:Inv X pins σ H s)(h:SqB X.K H b a xs)(h':SqB X.K H b a ys):xs=ys:=by
 cases b with
 | true=>exact I.tuple_inj h h'
 | false=>exact I.list_inj h h'
theorem SqB.mono {K:PySem.W.Frag}{Z H:Hp}{b:Bool}{a:Addr}{xs:List V}(h:SqB K Z b a xs)(z:Same Z H):SqB K H b a xs:=by
 cases b with
 | true=>exact(show SqT K Z a xs from h).mono z
 | false=>exact z.seq h
theorem lp {K:PySem.W.Frag}{C:Nat→Addr}{Z:Hp}{d:D}{ds:List D}{v:V}(e:asSeq d=.ok ds)(r:Rep K C Z d v):∃ b a vs,v=.ref a∧SqB K Z b a vs∧Reps K C Z ds vs:=by
 cases d with
 | tup xs =>
  cases e
  rw[Rep]at r
  obtain⟨a,vs,rfl,h1,h2⟩:=r
  exact⟨true,a,vs,rfl,h1,h2⟩
 | lst xs =>
  cases e
  rw[Rep]at r
  obtain⟨a,vs,rfl,h1,h2⟩:=r
  exact⟨false,a,vs,rfl,h1,h2⟩
 | _=>cases e
def Itz (K:PySem.W.Frag)(b1 b2:Bool)(a1 a2:Addr):It :=
 ⟨fun i H=>∃ xs ys x y,SqB K H b1 a1 xs∧SqB K H b2 a2 ys∧xs[i]?=some x∧ys[i]?=some y,
  fun i H v H'=>∃ p x y,H p=none∧v=.ref p∧(∀ xs,SqB K H b1 a1 xs→xs[i]?=some x)∧(∀ ys,SqB K H b2 a2 ys→ys[i]?=some y)∧H'=upd H p (.tup [x,y]),
  fun i H=>∃ xs ys,SqB K H b1 a1 xs∧SqB K H b2 a2 ys∧(xs.length≤i∨ys.length≤i)⟩
theorem wD {P:Program}{w:World}{K:PySem.W.Frag}{elts:List Expr}{x1:Nat}{pos:Pos}{z TI TO i1 i2 a1 a2:Addr}(b1 b2:Bool)(D:ZipApart z TI TO i1 i2 a1 a2) :
  Turn P w K (.Tuple elts x1 pos) (Itz K b1 b2 a1 a2) [z,TI,TO,i1,i2] z (fun i h=>Zs h z TI TO i1 i2 a1 a2 b1 b2 i .none) where
 mem:=by simp
 obj:=fun i h st b hb=>by
  obtain⟨⟨u,e1⟩,e2,⟨p,q,e3⟩,e4,e5⟩:=st
  simp only[List.mem_cons,List.not_mem_nil,or_false]at hb
  rcases hb with rfl | rfl | rfl | rfl | rfl
  ·exact⟨_,e1,fun v z=>by have z':Data.fields _=Data.cell v:=z;cases z'⟩
  ·exact⟨_,e2,fun v z=>by have z':Data.seq _ _=Data.cell v:=z;cases z'⟩
  ·exact⟨_,e3,fun v z=>by have z':Data.seq _ _=Data.cell v:=z;cases z'⟩
  ·exact e4.lt
  ·exact e5.lt
 keep:=fun i h h' st k=>st.at k
 item:=by
  intro X hP hw hK hc i pins s σ H E I hf st hg
  subst hP hw hK
  obtain⟨xs,ys,x,y,q1,q2,hx,hy⟩:=hg
  obtain⟨is1,rv1,o1,_⟩:=cc I q1
  obtain⟨is2,rv2,o2,_⟩:=cc I q2
  obtain⟨u,hu,ru⟩:=rv1.get hx
  obtain⟨v,hv,rv⟩:=rv2.get hy
  have lt:∀ b∈[z,TI,TO,i1,i2],b≠s.heap.objs.size:=fun b hb=>by
   obtain⟨⟨u,e1⟩,e2,⟨p,q,e3⟩,e4,e5⟩:=st
   simp only[List.mem_cons,List.not_mem_nil,or_false]at hb
   rcases hb with rfl | rfl | rfl | rfl | rfl
   ·exact Nat.ne_of_lt (Heap.lt_size e1)
   ·exact Nat.ne_of_lt (Heap.lt_size e2)
   ·exact Nat.ne_of_lt (Heap.lt_size e3)
   ·obtain⟨o,ho,_⟩:=e4.lt;exact Nat.ne_of_lt (Heap.lt_size ho)
   ·obtain⟨o,ho,_⟩:=e5.lt;exact Nat.ne_of_lt (Heap.lt_size ho)
  refine pL D st (.inl rfl) o1 o2 (x:=u) (y:=v) (by simpa using hu) (by simpa using hv) fun h' g0 a1 _ a2 a3 a4 a5=>?_
  rw[a2 rfl]at a1
  refine⟨_,rfl,Ad (s:={ s with heap:=h' }) a1 D fun h2 b1 b2=>?_⟩
  have k2:∀ b o,b∉[z,TI,TO,i1,i2]→s.heap.get? b=some o→h2.get? b=some o:=fun b o hb e=>by
   simp only[List.mem_cons,List.not_mem_nil,or_false,not_or]at hb
   exact b2.extBut _ _ hb.1 (a5 b o hb.1 hb.2.2.1 hb.2.2.2.1 hb.2.2.2.2 e)
  have hp2:IsPair h2 s.heap.objs.size u v:=b2.extBut _ _ (fun q=>lt z (by simp) q.symm) a3
  have I2:Inv X pins σ (upd H s.heap.objs.size (.tup [x,y])) { s with heap:=h2,toks:=s.toks }:=turnedP I hf lt ru rv hp2 k2
  exact⟨.ref s.heap.objs.size,_,I2,rfl,⟨s.heap.objs.size,x,y,I.hok.fresh (Nat.le_refl _),rfl,fun xs' q=>by rw[rG I q q1];exact hx,fun ys' q=>by rw[rG I q q2];exact hy,rfl⟩,b1,fun b hb=>by rw[av (lt b hb)];exact(hf b hb).1⟩
 done:=by
  intro X hP hw hK hc i pins s σ H E I hf st hg
  subst hP hw hK
  obtain⟨xs,ys,q1,q2,hx⟩:=hg
  obtain⟨is1,rv1,o1,_⟩:=cc I q1
  obtain⟨is2,rv2,o2,_⟩:=cc I q2
  have l1:=rv1.length
  have l2:=rv2.length
  refine pM (I.ok.hd hc) D st (.inl rfl) o1 o2 (by rcases hx with h | h;exact .inl (by simp;omega);exact .inr (by simp;omega)) fun h' hk=>⟨rfl,turnedL (t':=s.toks) I hf fun b o hb e=>?_⟩
  simp only[List.mem_cons,List.not_mem_nil,or_false,not_or]at hb
  exact hk b o hb.1 hb.2.2.1 hb.2.2.2.1 hb.2.2.2.2 e
 self:=fun _ _ _ _ _ st h=>ln st h
theorem pP:bootBuiltins "zip"=some (.type "zip"):=by decide +kernel
theorem Ae {X:Cx}{elts:List Expr}{x1:Nat}{ps p pos:Pos}{a b:Expr}{ta:TA}(hg:Gl X "zip")(hm:X.mg "zip"=none)(ha:PA X [a,b] ta)(hs:starEach [a,b] X.env=[(false,eval a X.env),(false,eval b X.env)]:=by rfl)(hs2:starEach [b] X.env=[(false,eval b X.env)]:=by rfl) :
  PI X (.Tuple elts x1 ps) (.Call (.Name "zip" p) [a,b] [] pos) (fun σ H R=>ta σ H fun vs H1=>∃ b1 b2 a1 a2,vs=[.ref a1,.ref a2]∧(∃ xs,SqB X.K H1 b1 a1 xs)∧(∃ ys,SqB X.K H1 b2 a2 ys)∧R (Itz X.K b1 b2 a1 a2) H1):=by
 intro pins s σ H R I h
 refine Call_ (ff I hg hm pP (PyProof.Rows.callWith_type1 (thn (ha pos pins s σ H _ I h) fun us s1 ⟨vs,H1,I1,r1,q1⟩=>?_) (by rw[hs,hs2]) (by rw[hs2];rfl)))
 obtain⟨b1,b2,a1,a2,e,⟨xs,hx⟩,⟨ys,hy⟩,q⟩:=q1
 subst e
 cases r1 with
 | cons r rr =>
  cases rr with
  | cons r' rr =>
   cases rr
   cases r
   cases r'
   obtain⟨is1,rv1,o1,_⟩:=cc I1 hx
   obtain⟨is2,rv2,o2,_⟩:=cc I1 hy
   have lt:∀ {b:Bool} {a:Addr} {is:Array Value},SOb s1.heap b a is→a < s1.heap.objs.size:=fun {b a is} o=>by cases b<;>(obtain⟨_,e,_⟩:=o;exact Heap.lt_size e)
   have D:=zipApart_new (lt o1) (lt o2)
   refine pN o1 o2 fun h' zs hk=>ln (s:={ s1 with heap:=h' }) zs ?_
   have I2:Inv X pins σ H1 { s1 with heap:=h',toks:=s1.toks }:=I1.kept hk
   refine⟨_,_,_,_,H1,rfl,I2,wD b1 b2 D,zs,fun c hc=>?_,q⟩
   have hb:s1.heap.objs.size≤c:=by
    simp only[List.mem_cons,List.not_mem_nil,or_false]at hc
    rcases hc with rfl | rfl | rfl | rfl | rfl
    ·exact Nat.le_add_right _ _
    ·exact Nat.le_add_right _ _
    ·exact Nat.le_add_right _ _
    ·exact Nat.le_refl _
    ·exact Nat.le_add_right _ _
   exact I1.fpOk hb (I1.hok.fresh hb)
theorem pQ:∀ {xs ys:List D} {i:Nat} {x y:D},xs[i]?=some x→ys[i]?=some y→(zipD xs ys)[i]?=some (.tup [x,y])
 | a::xs,b::ys,0,x,y,h1,h2=>by cases h1;cases h2;rfl
 | a::xs,b::ys,i+1,x,y,h1,h2=>pQ (xs:=xs) (ys:=ys) (i:=i) (by simpa using h1) (by simpa using h2)
 | [],_,_,_,_,h1,_=>by simp at h1
 | _::_,[],_,_,_,_,h2=>by simp at h2
theorem ja:∀ (xs ys:List D),(zipD xs ys).length=min xs.length ys.length
 | a::xs,b::ys=>by show (zipD xs ys).length+1=_;rw[ja xs ys,List.length_cons,List.length_cons];omega
 | [],ys=>by cases ys<;>simp[zipD]
 | _::_,[]=>by simp[zipD]
theorem wE {F:Fx}{b1 b2:Bool}{a1 a2:Addr}{xs ys:List D}{vs us:List V}{Z:Hp}(h1:SqB F.K Z b1 a1 vs)(h2:SqB F.K Z b2 a2 us)(r1:Reps F.K F.C Z xs vs)(r2:Reps F.K F.C Z ys us):WalkG F (Itz F.K b1 b2 a1 a2) (zipD xs ys) Z:=fun i H Z2 z1 z2=>by
 have l:=ja xs ys
 have e1:=r1.length
 have e2:=r2.length
 refine⟨fun hi=>?_,fun hi=>⟨vs,us,h1.mono (z1.trans z2),h2.mono (z1.trans z2),by omega⟩⟩
 have hx:vs[i]?=some vs[i]:=List.getElem?_eq_getElem (by omega)
 have hy:us[i]?=some us[i]:=List.getElem?_eq_getElem (by omega)
 refine⟨⟨vs,us,_,_,h1.mono (z1.trans z2),h2.mono (z1.trans z2),hx,hy⟩,fun v H' ⟨p,x,y,hp,e,qx,qy,eH⟩=>?_⟩
 subst e;subst eH
 obtain⟨dx,f1,g1⟩:=r1.get' (qx _ (h1.mono (z1.trans z2)))
 obtain⟨dy,f2,g2⟩:=r2.get' (qy _ (h2.mono (z1.trans z2)))
 have z3:Same Z (upd Z2 p (.tup [x,y])):=z1.trans (aF (z2.free hp))
 refine⟨upd Z2 p (.tup [x,y]),.tup [dx,dy],Ex.alloc z2 hp,pQ f1 f2,?_⟩
 rw[Rep]
 exact⟨p,[x,y],rfl,SqT.of au,Reps.cons (g1.mono z3) (Reps.cons (g2.mono z3) Reps.nil)⟩
section
variable {X:Cx}{F:Fx}{a b:Expr}{ga gb:SS→R D}{k:Nat}
theorem pR {S:SS}{α:Type}(f:D→D→R α):((aL [ga,gb]) S).bind (fun ds=>match ds with | [x,y]=>f x y | _=>R.stuck)=(ga S).bind fun x=>(gb S).bind fun y=>f x y:=by
 show (((ga S).bind fun d=>((gb S).bind fun d=>(R.ok []:R (List D)).bind fun ds=>R.ok (d::ds)).bind fun ds=>R.ok (d::ds))).bind _=_
 cases ga S with
 | ok x=>cases gb S<;>rfl
 | err k=>rfl
 | stuck=>rfl
theorem rH {elts:List Expr}{x1:Nat}{ps p pos:Pos}(bx:BX X F k)(hg:Gl X "zip")(hm:X.mg "zip"=none)(ha:FE X F a ga)(hb:FE X F b gb)(hs:starEach [a,b] X.env=[(false,eval a X.env),(false,eval b X.env)]:=by rfl)(hs2:starEach [b] X.env=[(false,eval b X.env)]:=by rfl) :
  FI X F (.Tuple elts x1 ps) (.Call (.Name "zip" p) [a,b] [] pos) (fun S=>(ga S).bind fun x=>(gb S).bind fun y=>dZip x y) :=
 (Ae hg hm (FAL.out (aa ha (aa hb ad (hs:=by rw[hs2];rfl)) (hs:=by rw[hs,hs2]))) hs hs2).weak fun σ H Q ⟨Z,S,ok,w⟩=>by
  have w:WG F H Z ((ga S).bind fun x=>(gb S).bind fun y=>dZip x y) _:=w
  rw[← pR]at w
  refine bu ok w fun ds vs H1 Z1 ok1 x1 rs w1=>?_
  obtain⟨dx,dy,rfl⟩:∃ dx dy,ds=[dx,dy]:=by
   rcases ds with _ | ⟨dx,_ | ⟨dy,_ | ⟨dz,r⟩⟩⟩
   ·exact False.elim w1
   ·exact False.elim w1
   ·exact⟨dx,dy,rfl⟩
   ·exact False.elim w1
  focus
   have w2:WG F H1 Z1 (dZip dx dy) _:=w1
   unfold dZip sq at w2
   rw[Reps]at rs
   obtain⟨v1,r,rfl,q1,rs⟩:=rs
   rw[Reps]at rs
   obtain⟨v2,r,rfl,q2,rs⟩:=rs
   rw[Reps]at rs
   subst rs
   cases e1:asSeq dx with
   | err k=>rw[e1]at w2;cases dx<;>cases e1
   | stuck=>rw[e1]at w2;exact w2.elim
   | ok xs =>
    rw[e1]at w2
    have w3:WG F H1 Z1 (R.bind (if xs.length≤16777216 then R.ok xs else R.stuck) fun xs=>((asSeq dy).bind fun ds=>if ds.length≤16777216 then R.ok ds else R.stuck).bind fun ys=>R.ok (zipD xs ys)) _:=w2
    split at w3
    ·rename_i hl1
     cases e2:asSeq dy with
     | err k=>rw[e2]at w3;cases dy<;>cases e2
     | stuck=>rw[e2]at w3;exact w3.elim
     | ok ys =>
      rw[e2]at w3
      have w4:WG F H1 Z1 (R.bind (if ys.length≤16777216 then R.ok ys else R.stuck) fun ys=>R.ok (zipD xs ys)) _:=w3
      split at w4
      ·obtain⟨b1,a1,us1,rfl,s1,t1⟩:=lp e1 q1
       obtain⟨b2,a2,us2,rfl,s2,t2⟩:=lp e2 q2
       rw[bx.K]
       exact⟨b1,b2,a1,a2,rfl,⟨us1,s1.mono ok1.sub⟩,⟨us2,s2.mono ok1.sub⟩,WG.now w4 ok1.sub _ (wE s1 s2 t1 t2) (by rw[ja];omega)⟩
      ·exact w4.elim
    ·exact w3.elim
end
end FF
end
noncomputable section
namespace FF
open PySem PySem.Spec PyProof.Rows L2
section
variable {prog:Program}{w:World}{A:Around}{R:Result→Shared→Prop}{I S:Addr}{res:Value}{n:Nat}
theorem wF (J:Nat→Shared→Prop)(hn:n≤sizeLine)
  (item:∀ i s,i < n→J i s→wpAny (model prog w) A.in1 (pyNext (.ref I)) (fun r s'=>∃ v acc c,r=some v∧s'.heap.get? S=some { cls:=.type "list",dict:=none,data:=.seq acc c,slots:=#[] }∧acc.size=i∧J (i+1) { s' with heap:=s'.heap.update S (Obj.mapSeq (·.push v)) }) (fun e s'=>R (.error e) s') s)
  (done:∀ s,J n s→wpAny (model prog w) A.in1 (pyNext (.ref I)) (fun r s'=>r=none∧R (.ok (.ret res)) s') (fun e s'=>R (.error e) s') s) :
  ∀ (k i:Nat) (s:Shared),n - i=k→i≤n→J i s→codeAny (model prog w) A (.builtin "list.extend.loop" ⟨[.ref S,.ref I,res],[]⟩) R s:=by
 intro k
 induction k with
 | zero =>
  intro i s hk hi hj
  have hin:i=n:=by omega
  subst hin
  refine codeAny_builtin F.entry_extend_loop ?_
  rw[Around.under_plainId F.plain_extend_loop _]
  show wpAny _ A.in1 (pyNext (.ref I) >>= _) _ _ s
  refine wpAny_bind (wpAny_mono (done s hj) (fun r s' h=>?_) fun _ _ e=>e)
  obtain⟨rfl,h⟩:=h
  exact wpAny_pure h
 | succ k ih =>
  intro i s hk hi hj
  have hlt:i < n:=by omega
  refine codeAny_builtin F.entry_extend_loop ?_
  rw[Around.under_plainId F.plain_extend_loop _]
  show wpAny _ A.in1 (pyNext (.ref I) >>= _) _ _ s
  refine wpAny_bind (wpAny_mono (item i s hlt hj) (fun r s' h=>?_) fun _ _ e=>e)
  obtain⟨v,acc,c,rfl,hS,hacc,hj'⟩:=h
  show wpAny _ A.in1 (updateSeq S (·.push v) >>= _) _ _ _
  refine wpAny_bind ?_
  exact wpAny_updateSeq hS rfl (wpAny_pure ⟨plainId_quiet F.plain_extend_loop _,ih (i+1) _ (by omega) hlt hj'⟩)
   (by rw[hacc];omega) (by show (acc.push v).size≤sizeLine+1;rw[Array.size_push,hacc];omega)
theorem rJ:typeLookup (.type "zip") "__len__"=pure none:=by rw[typeLookup_type,builtinLookup_eq_fast];kernel_rfl
theorem pS:typeLookup (.type "zip") "__length_hint__"=pure none:=by rw[typeLookup_type,builtinLookup_eq_fast];kernel_rfl
theorem yp {s:Shared}{z TI TO i1 i2 l1 l2:Addr}{b1 b2:Bool}{k:Nat}{f0:Value}{c₀:Nat}(hz:Zs s.heap z TI TO i1 i2 l1 l2 b1 b2 k f0)(hS:s.heap.get? S=some { cls:=.type "list",data:=.seq #[] c₀ })
  (go:∀ f:Obj→Obj,codeAny (model prog w) A (.builtin "list.extend.loop" ⟨[.ref S,.ref z,res],[]⟩) R { s with heap:=(s.heap.update S (Obj.mapSeq (·.push Value.none))).update S (Obj.mapSeq (·.pop)) }) :
  wpAny (model prog w) A.in1 (Builtin.List.listExtendWith (.ref S) (.ref z) res)
   (fun fin s'=>match fin with | .done f=>R (.ok f) s' | .again c'=>c'.quiet=true∧codeAny (model prog w) A c' R s') (fun e s'=>R (.error e) s') s:=by
 obtain⟨⟨u,e1⟩,_⟩:=id hz
 have hT:s.TypeIs (.ref z) "zip" := ⟨_,e1,rfl⟩
 have hSI:S≠z:=fun e=>by subst e;have q:some (Value.type "list")=some (Value.type "zip"):=congrArg (fun o=>o.map Obj.cls) (hS.symm.trans e1);revert q;decide
 unfold Builtin.List.listExtendWith
 refine wpAny_bind (wpAny_typeOf hT ?_)
 have h1:Builtin.List.listSameRef (.ref S) (.ref z)=false:=by simp[Builtin.List.listSameRef,hSI]
 have h2:(Value.type "zip" == Value.type "list")=false:=by decide
 have h3:(Value.type "zip" == Value.type "tuple")=false:=by decide
 simp only[h1,h2,h3,Bool.or_false,Bool.false_eq_true,if_false]
 refine wpAny_bind (ln hz ?_)
 refine wpAny_bind (wpAny_holding ?_)
 unfold Builtin.List.listLengthHint
 refine wpAny_bind (wpAny_specialOf hT rJ ?_)
 show wpAny _ A.in1 (specialOf (Value.ref z) (Str.ofString "__length_hint__") >>= _) _ _ _
 refine wpAny_bind (wpAny_specialOf hT pS ?_)
 refine wpAny_pure ?_
 show wpAny _ A.in1 (rule "list.extend.makes-room" >>= fun _=>Builtin.List.listTouch (.ref S) >>= fun _ =>
  again (.builtin "list.extend.loop" ⟨[.ref S,.ref z,res],[]⟩)) _ _ _
 refine wpAny_bind (wpAny_rule ?_)
 refine wpAny_bind ?_
 show wpAny _ A.in1 (updateSeq S (·.push .none) >>= fun _=>updateSeq S (·.pop)) _ _ _
 refine wpAny_bind (wpAny_updateSeq hS rfl ?_)
 have hS₂:=Heap.get?_update_self (Obj.mapSeq (·.push Value.none)) hS rfl
 refine wpAny_updateSeq (hz:=by seq_fits) hS₂ rfl ?_
 exact wpAny_pure ⟨plainId_quiet F.plain_extend_loop _,go id⟩
theorem wG {s:Shared}{z TI TO i1 i2 l1 l2:Addr}{b1 b2:Bool}{k:Nat}{f0:Value}(hz:Zs s.heap z TI TO i1 i2 l1 l2 b1 b2 k f0)(hf:S∉[z,TI,TO,i1,i2])(hS:s.heap.get? S=some { cls:=.type "list",data:=.seq #[] })
  (go:codeAny (model prog w) A (.builtin "list.extend.loop" ⟨[.ref S,.ref z,.none],[]⟩) R { s with heap:=((s.heap.update S (Obj.mapSeq (fun _=>#[]))).update S (Obj.mapSeq (·.push Value.none))).update S (Obj.mapSeq (·.pop)) }) :
  wpAny (model prog w) A.in1 (Builtin.«list.__init__» ⟨[.ref S,.ref z],[]⟩)
   (fun fin s'=>match fin with | .done f=>R (.ok f) s' | .again c'=>c'.quiet=true∧codeAny (model prog w) A c' R s') (fun e s'=>R (.error e) s') s:=by
 show wpAny _ A.in1 (do let old ← Builtin.List.listItems (.ref S);Builtin.List.listUpdate (.ref S) (fun _=>#[]);letGo old.toList.reverse;Builtin.List.listExtendWith (.ref S) (.ref z) .none) _ _ s
 refine wpAny_bind ?_
 unfold Builtin.List.listItems
 refine wpAny_bind (wpAny_seqItems hS rfl (wpAny_pure ?_))
 show wpAny _ A.in1 (updateSeq S (fun _=>#[]) >>= fun _=>letGo (#[]:Array Value).toList.reverse >>= fun _=>Builtin.List.listExtendWith (.ref S) (.ref z) .none) _ _ s
 refine wpAny_bind (wpAny_updateSeq hS rfl ?_)
 have hS₂:=Heap.get?_update_self (Obj.mapSeq (fun _=>(#[]:Array Value))) hS rfl
 refine wpAny_bind (wpAny_letGo ?_)
 exact yp (hz.at fun b hb o e=>(Heap.get?_update_other _ _ (fun q:S=b=>hf (q ▸ hb))).trans e) hS₂ fun _=>go
theorem wH {s:Shared}{E:Value→Shared→Prop}{Q:Value→Shared→Prop}{z TI TO i1 i2 l1 l2:Addr}{b1 b2:Bool}{k:Nat}{f0:Value}(hz:Zs s.heap z TI TO i1 i2 l1 l2 b1 b2 k f0)
  (go:∀ R:Result→Shared→Prop,(∀ s',Q (.ref s.heap.objs.size) s'→R (.ok (.ret .none)) s')→(∀ e s',E e s'→R (.error e) s')→codeAny (model prog w) A.in1 (.builtin "list.extend.loop" ⟨[.ref s.heap.objs.size,.ref z,.none],[]⟩) R
   { s with heap:=(((s.heap.push { cls:=.type "list",data:=.seq #[] }).update s.heap.objs.size (Obj.mapSeq (fun _=>#[]))).update s.heap.objs.size (Obj.mapSeq (·.push Value.none))).update s.heap.objs.size (Obj.mapSeq (·.pop)) }) :
  wpAny (model prog w) A (call (.type "list") [.ref z]) Q E s:=by
 refine callType_codes (Q₁:=fun obj s₁=>obj=.ref s.heap.objs.size∧s₁={ s with heap:=s.heap.push { cls:=.type "list",data:=.seq #[] } }) F.called_list (F.typeCall_list_1 _) F.entry_list_init
  (code_list_new _ ⟨rfl,rfl⟩) fun obj s₁ h₁=>?_
 obtain⟨rfl,rfl⟩:=h₁
 have hS:(s.heap.push { cls:=.type "list",data:=.seq #[] }).get? s.heap.objs.size=some { cls:=.type "list",data:=.seq #[] }:=Heap.get?_push_size _ rfl
 have hf:s.heap.objs.size∉[z,TI,TO,i1,i2]:=fun hb=>by
  obtain⟨⟨u,e1⟩,e2,⟨p,q,e3⟩,e4,e5⟩:=hz
  simp only[List.mem_cons,List.not_mem_nil,or_false]at hb
  rcases hb with hb | hb | hb | hb | hb
  ·exact Nat.lt_irrefl _ (hb ▸ Heap.lt_size e1)
  ·exact Nat.lt_irrefl _ (hb ▸ Heap.lt_size e2)
  ·exact Nat.lt_irrefl _ (hb ▸ Heap.lt_size e3)
  ·obtain⟨o,ho,_⟩:=e4.lt;exact Nat.lt_irrefl _ (hb ▸ Heap.lt_size ho)
  ·obtain⟨o,ho,_⟩:=e5.lt;exact Nat.lt_irrefl _ (hb ▸ Heap.lt_size ho)
 refine⟨⟨_,hS,rfl⟩,F.args_list_init_2 _ _,wG (hz.at fun b hb o e=>Heap.get?_push_of_some _ e) hf hS (go _ (fun s' h=>⟨rfl,h⟩) fun e s' h=>h)⟩
end
theorem kK {H:Hp}{p:Addr}{a b:HO}:upd (upd H p a) p b=upd H p b:=by
 funext c
 by_cases h:c=p
 ·subst h;rw[au,au]
 ·rw[av h,av h,av h]
theorem ny:bootBuiltins "list"=some (.type "list"):=by decide +kernel
structure LzJ (X:Cx)(pins:List (Addr×Obj))(σ:St)(H1:Hp)(S z TI TO i1 i2 a1 a2:Addr)(b1 b2:Bool)(xs ys:List V)(i:Nat)(s:Shared):Prop where
 ex:∃ H vs f0,Inv X pins σ H s∧H S=some (.lst vs)∧vs.length=i∧Zs s.heap z TI TO i1 i2 a1 a2 b1 b2 i f0∧(f0=.none∨∃ (T:Addr) (t:List V),f0=rawInt T∧H T=some (.tup t))∧(∀ b∈[z,TI,TO,i1,i2],FpOk X pins H b)∧Same H1 H ∧
  ∀ (j:Nat) (x y v:V),xs[j]?=some x→ys[j]?=some y→vs[j]?=some v→∃ p,v=V.ref p∧H1 p=none∧H p=some (.tup [x,y])
section
variable {X:Cx}{pins:List (Addr×Obj)}{σ:St}{H1:Hp}{S z TI TO i1 i2 a1 a2:Addr}{b1 b2:Bool}{xs ys:List V}
theorem pT {H:Hp}{s:Shared}{f0:Value}(I:Inv X pins σ H s)(hf:∀ b∈[z,TI,TO,i1,i2],FpOk X pins H b)(h:f0=.none∨∃ (T:Addr) (t:List V),f0=rawInt T∧H T=some (.tup t)) :
  f0=.none∨∃ (T:Addr) (o:Obj),f0=rawInt T∧T≠z∧T≠i1∧T≠i2∧s.heap.get? T=some o:=by
 rcases h with h | ⟨T,t,e,hT⟩
 ·exact .inl h
 ·have ne:∀ b∈[z,TI,TO,i1,i2],T≠b:=fun b hb q=>by subst q;rw[(hf T hb).1]at hT;cases hT
  obtain⟨_,_,_,o,ho,_⟩:=I.hok T _ hT
  exact .inr ⟨T,o,e,ne z (by simp),ne i1 (by simp),ne i2 (by simp),ho⟩
theorem yq {A:Around}{E:Value→Shared→Prop}{s:Shared}{i:Nat}(D:ZipApart z TI TO i1 i2 a1 a2)(h1:SqB X.K H1 b1 a1 xs)(h2:SqB X.K H1 b2 a2 ys)(hS1:H1 S=none)(hi:i < min xs.length ys.length)(hz:min xs.length ys.length≤sizeLine)(J:LzJ X pins σ H1 S z TI TO i1 i2 a1 a2 b1 b2 xs ys i s) :
  wpAny (model X.prog X.w) A (pyNext (.ref z)) (fun r s'=>∃ v acc c,r=some v∧s'.heap.get? S=some { cls:=.type "list",dict:=none,data:=.seq acc c,slots:=#[] }∧acc.size=i∧LzJ X pins σ H1 S z TI TO i1 i2 a1 a2 b1 b2 xs ys (i+1) { s' with heap:=s'.heap.update S (Obj.mapSeq (·.push v)) }) E s:=by
 obtain⟨H,vs,f0,I,hS,hl,zs,hf0,hf,sm,pr⟩:=J.ex
 have q1:=h1.mono sm
 have q2:=h2.mono sm
 obtain⟨is1,rv1,o1,_⟩:=cc I q1
 obtain⟨is2,rv2,o2,_⟩:=cc I q2
 have hx:xs[i]?=some xs[i]:=List.getElem?_eq_getElem (by omega)
 have hy:ys[i]?=some ys[i]:=List.getElem?_eq_getElem (by omega)
 obtain⟨u,hu,ru⟩:=rv1.get hx
 obtain⟨v,hv,rv⟩:=rv2.get hy
 obtain⟨its,n,r,eS,_⟩:=I.lst hS
 have lt:∀ b∈[z,TI,TO,i1,i2],b≠s.heap.objs.size:=fun b hb=>by
  obtain⟨⟨u,e1⟩,e2,⟨p,q,e3⟩,e4,e5⟩:=zs
  simp only[List.mem_cons,List.not_mem_nil,or_false]at hb
  rcases hb with rfl | rfl | rfl | rfl | rfl
  ·exact Nat.ne_of_lt (Heap.lt_size e1)
  ·exact Nat.ne_of_lt (Heap.lt_size e2)
  ·exact Nat.ne_of_lt (Heap.lt_size e3)
  ·obtain⟨o,ho,_⟩:=e4.lt;exact Nat.ne_of_lt (Heap.lt_size ho)
  ·obtain⟨o,ho,_⟩:=e5.lt;exact Nat.ne_of_lt (Heap.lt_size ho)
 have neS:∀ b∈[z,TI,TO,i1,i2],S≠b:=fun b hb q=>by subst q;rw[(hf S hb).1]at hS;cases hS
 have nS:S≠s.heap.objs.size:=Nat.ne_of_lt (Heap.lt_size eS)
 refine pL D zs (pT I hf hf0) o1 o2 (x:=u) (y:=v) (by simpa using hu) (by simpa using hv) fun h' g0 c1 c2 _ c3 c4 c5=>?_
 have k2:∀ b o,b∉[z,TI,TO,i1,i2]→s.heap.get? b=some o→h'.get? b=some o:=fun b o hb e=>by
  simp only[List.mem_cons,List.not_mem_nil,or_false,not_or]at hb
  exact c5 b o hb.1 hb.2.2.1 hb.2.2.2.1 hb.2.2.2.2 e
 have I2:Inv X pins σ (upd H s.heap.objs.size (.tup [xs[i],ys[i]])) { s with heap:=h',toks:=s.toks }:=turnedP I hf lt ru rv c3 k2
 have eS':h'.get? S=some { cls:=.type "list",data:=.seq its.toArray n }:=k2 _ _ (fun hb=>neS S hb rfl) eS
 have hl':=r.length
 refine⟨_,its.toArray,n,rfl,eS',by simp;omega,?_⟩
 have I3:=Inv.lset (t':=s.toks) (ys:=vs++[.ref s.heap.objs.size]) (its':=its++[.ref s.heap.objs.size]) (f:=(·.push (.ref s.heap.objs.size))) I2 (l:=S) (xs:=vs) (by rw[av nS];exact hS) eS' (by simp) (show Vals (vs++[V.ref s.heap.objs.size]) (its++[Value.ref s.heap.objs.size]) from r.append (.cons (show RelV (V.ref s.heap.objs.size) (Value.ref s.heap.objs.size) from rfl) .nil)) (by simp only[List.length_append,List.length_cons,List.length_nil];omega)
 have fr:H s.heap.objs.size=none:=I.hok.fresh (Nat.le_refl _)
 refine⟨_,vs++[.ref s.heap.objs.size],g0,I3,au,by simp[hl],c1.at fun b hb o e=>(Heap.get?_update_other _ _ (neS b hb)).trans e,?_,fun b hb=>?_,fun b o e=>?_,fun j x y w ex ey ew=>?_⟩
 ·rcases c2 with e | ⟨e,ne⟩
  ·exact .inr ⟨s.heap.objs.size,[xs[i],ys[i]],e,by rw[av (Ne.symm nS),au]⟩
  ·rcases hf0 with z0 | ⟨T,t,e2,hT⟩
   ·exact absurd z0 ne
   ·refine .inr ⟨T,t,e.trans e2,?_⟩
    rw[av (fun q=>by subst q;rw[hS]at hT;cases hT),av (fun q=>by subst q;rw[fr]at hT;cases hT)]
    exact hT
 ·obtain⟨f0,f1⟩:=hf b hb
  exact⟨by rw[av (Ne.symm (neS b hb)),av (lt b hb)];exact f0,f1⟩
 ·rw[av (fun q=>by subst q;rw[hS1]at e;cases e),av (fun q=>by subst q;have:=sm _ _ e;rw[fr]at this;cases this)]
  exact sm b o e
 ·by_cases hj:j < vs.length
  ·rw[List.getElem?_append_left hj]at ew
   obtain⟨p,e1,e2,e3⟩:=pr j x y w ex ey ew
   refine⟨p,e1,e2,?_⟩
   rw[av (fun q=>by subst q;rw[hS]at e3;cases e3),av (fun q=>by subst q;rw[fr]at e3;cases e3)]
   exact e3
  ·rw[List.getElem?_append_right (by omega)]at ew
   have hj':j=i:=by
    have:=(List.getElem?_eq_some_iff.mp ew).1
    simp only[List.length_cons,List.length_nil]at this
    omega
   subst hj'
   rw[hl,Nat.sub_self]at ew
   cases ew
   rw[hx]at ex
   rw[hy]at ey
   cases ex
   cases ey
   refine⟨s.heap.objs.size,rfl,?_,by rw[av (Ne.symm nS),au]⟩
   cases q:H1 s.heap.objs.size with
   | none=>rfl
   | some o=>have:=sm _ _ q;rw[fr]at this;cases this
theorem pU {a b:Expr}{ta:TA}{p p2 pos pos2:Pos}(hc:X.calm=true)(hg:Gl X "list")(hm:X.mg "list"=none)(hg2:Gl X "zip")(hm2:X.mg "zip"=none)(ha:PA X [a,b] ta)
  (hs:starEach [a,b] X.env=[(false,eval a X.env),(false,eval b X.env)]) (hs2:starEach [b] X.env=[(false,eval b X.env)]) (hs3:starEach [.Call (.Name "zip" p2) [a,b] [] pos2] X.env=[(false,eval (.Call (.Name "zip" p2) [a,b] [] pos2) X.env)]) :
  PE X (.Call (.Name "list" p) [.Call (.Name "zip" p2) [a,b] [] pos2] [] pos) (fun σ H Q=>ta σ H fun ws H1=>∃ b1 b2 a1 a2 xs ys,ws=[.ref a1,.ref a2]∧SqB X.K H1 b1 a1 xs∧SqB X.K H1 b2 a2 ys ∧
   ∀ l vs H2,Same H1 H2→H1 l=none→H2 l=some (.lst vs)→vs.length=min xs.length ys.length→(∀ (j:Nat) (x y v:V),xs[j]?=some x→ys[j]?=some y→vs[j]?=some v→∃ p,v=V.ref p∧H1 p=none∧H2 p=some (.tup [x,y]))→Q (.ref l) H2):=by
 intro pins s σ H Q I h
 refine Call_ (ff I hg hm ny (PyProof.Rows.callWith_type1 ?_ (by rw[hs3];rfl) (by rfl)))
 rw[hs3]
 refine Calls.spliced_cons ?_
 refine Call_ (ff I hg2 hm2 pP (PyProof.Rows.callWith_type1 (thn (ha pos2 pins s σ H _ I h) fun us s1 ⟨vs,H1,I1,r1,q1⟩=>?_) (by rw[hs,hs2]) (by rw[hs2];rfl)))
 obtain⟨b1,b2,a1,a2,xs,ys,e,hx,hy,q⟩:=q1
 subst e
 cases r1 with
 | cons r rr =>
  cases rr with
  | cons r' rr =>
   cases rr
   cases r
   cases r'
   obtain⟨is1,rv1,o1,z1⟩:=cc I1 hx
   obtain⟨is2,rv2,o2,z2⟩:=cc I1 hy
   have lt:∀ {b:Bool} {a:Addr} {is:Array Value},SOb s1.heap b a is→a < s1.heap.objs.size:=fun {b a is} o=>by cases b<;>(obtain⟨_,e,_⟩:=o;exact Heap.lt_size e)
   have D:=zipApart_new (lt o1) (lt o2)
   refine pN o1 o2 fun h' zs hk=>Calls.spliced_nil ?_
   have I2:Inv X pins σ H1 { s1 with heap:=h',toks:=s1.toks }:=I1.kept hk
   have hf2:∀ b∈[s1.heap.objs.size+4,s1.heap.objs.size+2,s1.heap.objs.size+3,s1.heap.objs.size,s1.heap.objs.size+1],FpOk X pins H1 b:=fun c hc=>by
    have hb:s1.heap.objs.size≤c:=by
     simp only[List.mem_cons,List.not_mem_nil,or_false]at hc
     rcases hc with rfl | rfl | rfl | rfl | rfl
     ·exact Nat.le_add_right _ _
     ·exact Nat.le_add_right _ _
     ·exact Nat.le_add_right _ _
     ·exact Nat.le_refl _
     ·exact Nat.le_add_right _ _
    exact I1.fpOk hb (I1.hok.fresh hb)
   have fr:H1 h'.objs.size=none:=I2.hok.fresh (Nat.le_refl _)
   refine wH (s:={ s1 with heap:=h' }) zs fun R hR hE=>?_
   have I3:=Inv.lnew (t':=s1.toks) (ys:=[]) (its:=[]) I2 .nil (Nat.zero_le _)
   have e3:(h'.push { cls:=.type "list",data:=.seq #[] }).get? h'.objs.size=some { cls:=.type "list",data:=.seq ([]:List Value).toArray 0 }:=Heap.get?_push_size _ rfl
   have I4:=Inv.lset (t':=s1.toks) (ys:=[]) (its':=[]) (f:=fun _=>#[]) I3 (l:=h'.objs.size) au e3 rfl .nil (Nat.zero_le _)
   obtain⟨its4,n4,r4,e4,_⟩:=I4.lst au
   cases r4
   have I5:=Inv.lset (t':=s1.toks) (ys:=[.non]) (its':=[.none]) (f:=(·.push Value.none)) I4 (l:=h'.objs.size) au e4 rfl (.cons (show RelV .non Value.none from rfl) .nil) (by show 1≤sizeLine;decide)
   obtain⟨its5,n5,r5,e5,_⟩:=I5.lst au
   cases r5 with
   | cons p5 q5 =>
    cases q5
    have I6:=Inv.lset (t':=s1.toks) (ys:=[]) (its':=[]) (f:=(·.pop)) I5 (l:=h'.objs.size) au e5 rfl .nil (Nat.zero_le _)
    rw[kK,kK,kK]at I6
    have ltz:∀ b∈[s1.heap.objs.size+4,s1.heap.objs.size+2,s1.heap.objs.size+3,s1.heap.objs.size,s1.heap.objs.size+1],h'.objs.size≠b:=fun b hb=>by
     obtain⟨⟨u,e1⟩,e2,⟨p,q,e3⟩,e4,e5⟩:=zs
     simp only[List.mem_cons,List.not_mem_nil,or_false]at hb
     rcases hb with rfl | rfl | rfl | rfl | rfl
     ·exact Nat.ne_of_gt (Heap.lt_size e1)
     ·exact Nat.ne_of_gt (Heap.lt_size e2)
     ·exact Nat.ne_of_gt (Heap.lt_size e3)
     ·obtain⟨o,ho,_⟩:=e4.lt;exact Nat.ne_of_gt (Heap.lt_size ho)
     ·obtain⟨o,ho,_⟩:=e5.lt;exact Nat.ne_of_gt (Heap.lt_size ho)
    refine wF (n:=min xs.length ys.length) (LzJ X pins σ H1 h'.objs.size _ _ _ _ _ a1 a2 b1 b2 xs ys) (by omega) (fun i s' hi J=>yq D hx hy fr hi (by omega) J) (fun s' J=>?_) _ 0 _ rfl (Nat.zero_le _) ?_
    ·obtain⟨H,vs,f0,J1,hS,hl,zs',hf0,hf,sm,pr⟩:=J.ex
     obtain⟨js1,rw1,p1,_⟩:=cc J1 (hx.mono sm)
     obtain⟨js2,rw2,p2,_⟩:=cc J1 (hy.mono sm)
     have l1:=rw1.length
     have l2:=rw2.length
     refine pM (show X.A.in1.in1.handled=none from I.ok.hd hc) D zs' (pT J1 hf hf0) p1 p2 (by
      rcases Nat.le_total xs.length ys.length with h | h
      ·exact .inl (by simp;omega)
      ·exact .inr (by simp;omega)) fun h2 hk2=>⟨rfl,hR _ ⟨.ref h'.objs.size,H,turnedL (t':=s'.toks) J1 hf fun b o hb e=>?_,rfl,q _ vs H sm fr hS hl pr⟩⟩
     simp only[List.mem_cons,List.not_mem_nil,or_false,not_or]at hb
     exact hk2 b o hb.1 hb.2.2.1 hb.2.2.2.1 hb.2.2.2.2 e
    ·refine⟨_,[],.none,I6,au,rfl,zs.at fun b hb o e=>?_,.inl rfl,fun b hb=>?_,aF fr,fun j x y v _ _ ev=>by simp at ev⟩
     ·exact(Heap.get?_update_other _ _ (ltz b hb)).trans ((Heap.get?_update_other _ _ (ltz b hb)).trans ((Heap.get?_update_other _ _ (ltz b hb)).trans (Heap.get?_push_of_some _ e)))
     ·obtain⟨f0,f1⟩:=hf2 b hb
      exact⟨by rw[av (Ne.symm (ltz b hb))];exact f0,f1⟩
end
theorem wI {H1 Z H2:Hp}(z:Same Z H1)(s:Same H1 H2):Ex H1 Z H2 (fun b=>if H1 b=none then H2 b else Z b):=by
 refine⟨s,fun b o e=>?_,fun b o e=>?_,fun b hb=>?_⟩
 ·show (if H1 b=none then H2 b else Z b)=some o
  rw[if_neg (by rw[z b o e];simp)];exact e
 ·have e':(if H1 b=none then H2 b else Z b)=some o:=e
  split at e'
  ·exact e'
  ·exact s b o (z b o e')
 ·by_cases q:H1 b=none
  ·exact .inr q
  ·have hb':(if H1 b=none then H2 b else Z b)≠none:=hb
   rw[if_neg q]at hb'
   exact .inl hb'
theorem ou {K:PySem.W.Frag}{C:Nat→Addr}{Z:Hp}:∀ {ds:List D} {vs:List V},ds.length=vs.length→(∀ (j:Nat) (d:D) (v:V),ds[j]?=some d→vs[j]?=some v→Rep K C Z d v)→Reps K C Z ds vs
 | [],[],_,_=>Reps.nil
 | d::ds,v::vs,hl,h=>Reps.cons (h 0 d v rfl rfl) (ou (by simpa using hl) fun j d' v' e1 e2=>h (j+1) d' v' (by simpa using e1) (by simpa using e2))
 | [],_::_,hl,_=>by simp at hl
 | _::_,[],hl,_=>by simp at hl
theorem pV:∀ {xs ys:List D} {i:Nat} {d:D},(zipD xs ys)[i]?=some d→∃ x y,xs[i]?=some x∧ys[i]?=some y∧d=.tup [x,y]
 | a::xs,b::ys,0,d,h=>by cases h;exact⟨a,b,rfl,rfl,rfl⟩
 | a::xs,b::ys,i+1,d,h=>by
  obtain⟨x,y,h1,h2,h3⟩:=pV (xs:=xs) (ys:=ys) (i:=i) (by simpa [zipD] using h)
  exact⟨x,y,by simpa using h1,by simpa using h2,h3⟩
 | [],ys,i,d,h=>by cases ys<;>simp[zipD]at h
 | _::_,[],i,d,h=>by simp[zipD]at h
section
variable {X:Cx}{F:Fx}{a b:Expr}{ga gb:SS→R D}{k:Nat}
theorem pW {p p2 pos pos2:Pos}(bx:BX X F k)(hg:Gl X "list")(hm:X.mg "list"=none)(hg2:Gl X "zip")(hm2:X.mg "zip"=none)(ha:FAL X F [a,b] [ga,gb])
  (hs:starEach [a,b] X.env=[(false,eval a X.env),(false,eval b X.env)]:=by rfl) (hs2:starEach [b] X.env=[(false,eval b X.env)]:=by rfl) (hs3:starEach [.Call (.Name "zip" p2) [a,b] [] pos2] X.env=[(false,eval (.Call (.Name "zip" p2) [a,b] [] pos2) X.env)]:=by rfl) :
  FE X F (.Call (.Name "list" p) [.Call (.Name "zip" p2) [a,b] [] pos2] [] pos) (fun S=>((ga S).bind fun x=>(gb S).bind fun y=>dZip x y).bind fun zs=>R.ok (FF.D.lst zs)) :=
 (pU bx.calm hg hm hg2 hm2 (FAL.out ha) hs hs2 hs3).weak fun σ H Q ⟨Z,S,ok,w⟩=>by
  have w:WG F H Z (((ga S).bind fun x=>(gb S).bind fun y=>dZip x y).bind fun zs=>R.ok (FF.D.lst zs)) _:=w
  rw[← pR,R.bind_assoc]at w
  refine bu ok w fun ds vs H1 Z1 ok1 x1 rs w1=>?_
  obtain⟨dx,dy,rfl⟩:∃ dx dy,ds=[dx,dy]:=by
   rcases ds with _ | ⟨dx,_ | ⟨dy,_ | ⟨dz,r⟩⟩⟩
   ·exact False.elim w1
   ·exact False.elim w1
   ·exact⟨dx,dy,rfl⟩
   ·exact False.elim w1
  focus
   have w2:WG F H1 Z1 ((dZip dx dy).bind fun zs=>R.ok (FF.D.lst zs)) _:=w1
   unfold dZip sq at w2
   rw[Reps]at rs
   obtain⟨v1,r,rfl,q1,rs⟩:=rs
   rw[Reps]at rs
   obtain⟨v2,r,rfl,q2,rs⟩:=rs
   rw[Reps]at rs
   subst rs
   cases e1:asSeq dx with
   | err k=>rw[e1]at w2;cases dx<;>cases e1
   | stuck=>rw[e1]at w2;exact w2.elim
   | ok xs =>
    rw[e1]at w2
    have w3:WG F H1 Z1 ((R.bind (if xs.length≤16777216 then R.ok xs else R.stuck) fun xs=>((asSeq dy).bind fun ds=>if ds.length≤16777216 then R.ok ds else R.stuck).bind fun ys=>R.ok (zipD xs ys)).bind fun zs=>R.ok (FF.D.lst zs)) _:=w2
    split at w3
    ·rename_i hl1
     cases e2:asSeq dy with
     | err k=>rw[e2]at w3;cases dy<;>cases e2
     | stuck=>rw[e2]at w3;exact w3.elim
     | ok ys =>
      rw[e2]at w3
      have w4:WG F H1 Z1 ((R.bind (if ys.length≤16777216 then R.ok ys else R.stuck) fun ys=>R.ok (zipD xs ys)).bind fun zs=>R.ok (FF.D.lst zs)) _:=w3
      split at w4
      ·obtain⟨b1,a1,us1,rfl,s1,t1⟩:=lp e1 q1
       obtain⟨b2,a2,us2,rfl,s2,t2⟩:=lp e2 q2
       rw[bx.K]
       have l1:=t1.length
       have l2:=t2.length
       refine⟨b1,b2,a1,a2,us1,us2,rfl,s1.mono ok1.sub,s2.mono ok1.sub,fun l vs H2 sm hl e hv pr=>?_⟩
       have w5:WG F H1 Z1 (R.ok (FF.D.lst (zipD xs ys))) _:=w4
       have zz:Same Z1 (fun b=>if H1 b=none then H2 b else Z1 b):=(wI ok1.sub sm).z
       refine w5 H2 _ (wI ok1.sub sm) _ ?_
       rw[Rep]
       refine⟨l,vs,rfl,SqL.of (by show (if H1 l=none then H2 l else Z1 l)=_;rw[if_pos hl];exact e),ou (by rw[ja,hv];omega) fun j d v ed ev=>?_⟩
       obtain⟨x,y,f1,f2,rfl⟩:=pV ed
       obtain⟨u1,g1,k1⟩:=t1.get f1
       obtain⟨u2,g2,k2⟩:=t2.get f2
       obtain⟨p,rfl,hp1,hp2⟩:=pr j u1 u2 v g1 g2 ev
       rw[Rep]
       exact⟨p,[u1,u2],rfl,SqT.of (by show (if H1 p=none then H2 p else Z1 p)=_;rw[if_pos hp1];exact hp2),Reps.cons (k1.mono zz) (Reps.cons (k2.mono zz) Reps.nil)⟩
      ·exact w4.elim
    ·exact w3.elim
end
end FF
end
noncomputable section
namespace FF
open PySem PySem.Spec PyProof.Rows L2
def TabE (C:Nat→Addr):List DictEntry→List (Str×Nat)→Prop
 | [],[]=>True
 | e::es,p::l=>(∃ t,e.key=.str p.1 t)∧e.val=.ref (C p.2)∧TabE C es l
 | _,_=>False
def TabK (K:PySem.W.Frag)(C:Nat→Addr)(P:Params)(a:Addr)(l:List (Str×Nat)):Prop :=
 ∃ es n,K.lookup a=some ⟨.type "dict",none,.dict es n,#[]⟩∧PySem.W.KeysLit P es.toList∧TabE C es.toList l∧(l.map (·.1)).Nodup∧l.length≤1000∧(a==sysModules)=false
theorem pX {C:Nat→Addr}{z:Str}{k:Nat}:∀ {es:List DictEntry} {l:List (Str×Nat)},TabE C es l→l.lookup z=some k→(es.find? fun e=>Value.isStrOf z e.key).map (·.val)=some (.ref (C k))
 | [],[],_,h=>by simp at h
 | e::es,p::l,⟨⟨t,e1⟩,e2,r⟩,h=>by
  rw[List.find?_cons,e1]
  by_cases q:z=p.1
  ·have h1:Value.isStrOf z (.str p.1 t)=true:=by rw[q];simp[Value.isStrOf]
   rw[h1]
   rw[List.lookup_cons]at h
   have h2:(z==p.1)=true:=by rw[q];simp
   rw[h2]at h
   cases h
   simp[e2]
  ·have h1:Value.isStrOf z (.str p.1 t)=false:=by
    simp only[Value.isStrOf]
    simpa using fun e=>q e.symm
   rw[h1]
   rw[List.lookup_cons]at h
   have h2:(z==p.1)=false:=by simpa using q
   rw[h2]at h
   exact pX r h
 | [],_::_,h,_=>h.elim
 | _::_,[],h,_=>h.elim
section
variable {X:Cx}{F:Fx}{e:Expr}{g:SS→R D}{k:Nat}{l:List (Str×Nat)}{x:Str}{p pos:Pos}
theorem Af {te:TE}{a:Addr}(hg:Gl X x)(hm:X.mg x=some (.ref a))(C:Nat→Addr)(hT:TabK X.K C X.w.params a l)(he:PE X e te)(hs:PlainIxT e)(hd:(x==("__debug__":Str))=false) :
  PE X (.Subscript (.Name x p) e pos) (tOp (fun u y H Q=>∃ z k,u=.ref a∧y=.str z∧l.lookup z=some k∧Q (.ref (C k)) H) (tC (.ref a)) te):=by
 obtain⟨es,n,h1,h2,h3,_⟩:=hT
 intro pins s σ H Q I h
 refine Subscript_ (binT (br (v:=.ref a) (pos:=p) hg hm rfl hd) he I h fun v u s2 x' y H2 I2 rx ry q=>?_)
 obtain⟨z,k,rfl,rfl,hl,q⟩:=q
 cases rx
 obtain⟨t,rfl⟩:=ry
 have hM:=PySem.W.mapOf_K (prog:=X.prog) I2.kIn h1 h2
 have hfind:findBy Value.isStrOf es z=some (.ref (C k)):=by
  unfold findBy
  rw[← pX h3 hl,← Array.find?_toList]
 exact tail_any hM.typeIs slot_dict_getitem.lookup (wpAny_getItem_of (strKind_is X.prog X.w z t) hM hfind ⟨.ref (C k),H2,I2.tok _,rfl,q⟩) (hs _ _)
theorem Ag (bx:BX X F k)(hT:∃ a,X.mg x=some (.ref a)∧TabK X.K F.C X.w.params a l)(hg:Gl X x)(he:FE X F e g)(hs:PlainIxT e:=by intro _ _;rfl)(hd:(x==("__debug__":Str))=false:=by decide):FE X F (.Subscript (.Name x p) e pos) (fun S=>(g S).bind fun y=>dTab l y):=by
 obtain⟨a,hm,hT⟩:=hT
 refine(Af hg hm F.C hT he hs hd).weak fun σ H Q ⟨Z,S,ok,w⟩=>?_
 show tE F g σ H _
 refine aR ok w fun d v H1 Z1 ok1 x1 rv w1=>?_
 cases d with
 | str z =>
  have w2:WG F H1 Z1 (match l.lookup z with | some k=>R.ok (D.fn k) | none=>R.stuck) _:=w1
  cases hl:l.lookup z with
  | none=>rw[hl]at w2;exact w2.elim
  | some kk =>
   rw[hl]at w2
   rw[Rep]at rv
   exact⟨z,kk,rfl,rv,hl,WG.now w2 ok1.sub _ (by rw[Rep])⟩
 | _=>exact w1.elim
end
theorem nA {prog:Program}{w:World}{C:Nat→Addr}:∀ {es:List DictEntry} {l:List (Str×Nat)},TabE C es l→Pairs (PySem.strKind prog w) es (l.map fun p=>(p.1,Value.ref (C p.2)))
 | [],[],_=>.nil
 | e::es,p::l,⟨⟨t,e1⟩,e2,r⟩=>.cons (by rw[e1];exact strKind_is prog w p.1 t) e2 (nA r)
 | [],_::_,h=>h.elim
 | _::_,[],h=>h.elim
section
variable {prog:Program}{w:World}{A:Around}{E:Value→Shared→Prop}{s:Shared}
theorem wJ {R:Result→Shared→Prop}{d:Addr}{kvs:List (Str×Value)}{ep:Nat}(hh:A.handled=none)(hd:(d==sysModules)=false)(hm:s.heap.DictAt (PySem.strKind prog w) d kvs ep)(hlen:kvs.length≤1000)(S:Addr)(res:Value)(c₀:Nat)(hS:s.heap.get? S=some { cls:=.type "list",data:=.seq #[] c₀ })
  (hR:∀ h' tk acc' c',(∀ b o,b≠S→s.heap.get? b=some o→h'.get? b=some o)→h'.get? S=some { cls:=.type "list",dict:=none,data:=.seq acc' c',slots:=#[] } →
   ItemsOf (fun i v=>∃ k x,kvs[i]?=some (k,x)∧(PySem.strKind prog w).is k v=true) acc' kvs.length→R (.ok (.ret res)) { s with heap:=h',toks:=tk }) :
  wpAny (model prog w) A.in1 (Builtin.List.listExtendWith (.ref S) (.ref d) res)
   (fun fin s'=>match fin with | .done f=>R (.ok f) s' | .again c'=>c'.quiet=true∧codeAny (model prog w) A c' R s') (fun e s'=>R (.error e) s') s:=by
 have hT:s.TypeIs (.ref d) "dict" := hm.dictOf.typeIs
 have hSd:S≠d:=fun e=>by
  obtain⟨o,ho,hc⟩:=hT
  subst e
  rw[hS]at ho
  cases ho
  have hc':Value.type "list"=Value.type "dict" := hc
  revert hc';decide
 have hSlt:S < s.heap.objs.size:=Heap.lt_size hS
 have hSI:S≠s.heap.objs.size:=Nat.ne_of_lt hSlt
 have hdI:d≠s.heap.objs.size:=by obtain⟨o,ho,_⟩:=hT;exact Nat.ne_of_lt (Heap.lt_size ho)
 have hSf:S∉[s.heap.objs.size,d]:=fun hm=>by
  simp only[List.mem_cons,List.not_mem_nil,or_false]at hm
  rcases hm with h | h
  ·exact hSI h
  ·exact hSd h
 have W:=(Walks.dictKeys (prog:=prog) (w:=w) (A:=A.in1) (knd:=PySem.strKind prog w) hh s.heap.objs.size d hdI kvs ep).toS
 have key:∀ (h:Heap) (c₁ tk:Nat),h.IsKeyIter s.heap.objs.size d 0 kvs.length ep→h.DictAt (PySem.strKind prog w) d kvs ep→(∀ b o,b≠S→s.heap.get? b=some o→h.get? b=some o) →
   h.get? S=some { cls:=.type "list",data:=.seq #[] c₁ }→codeAny (model prog w) A (.builtin "list.extend.loop" ⟨[.ref S,.ref s.heap.objs.size,res],[]⟩) R { s with heap:=h,toks:=tk }:=by
  intro h c₁ tk hit hD hk hS₁
  refine codeAny_extend_loopS W (by rw[sizeLine_eq];omega) S hSf res kvs.length 0 _ #[] c₁ rfl (Nat.zero_le _) ⟨hit,hD⟩ hS₁ (ItemsOf.nil _) fun s' acc' c' hm hS' hacc=>?_
  rw[Moved.eq_with hm]
  refine hR s'.heap s'.toks acc' c' (fun b o hb e=>hm.heap b o (fun hmem=>?_) (hk b o hb e)) hS' hacc
  rcases List.mem_cons.mp hmem with e' | hmem
  ·exact hb e'
  ·exact absurd (Heap.lt_size e) (by rw[List.mem_singleton.mp hmem];exact Nat.lt_irrefl _)
 unfold Builtin.List.listExtendWith
 refine wpAny_bind (wpAny_typeOf (T := "dict") hT ?_)
 have h1:Builtin.List.listSameRef (.ref S) (.ref d)=false:=by simp[Builtin.List.listSameRef,hSd]
 have h2:(Value.type "dict" == Value.type "list")=false:=by decide
 have h3:(Value.type "dict" == Value.type "tuple")=false:=by decide
 simp only[h1,h2,h3,Bool.or_false,Bool.false_eq_true,if_false]
 refine wpAny_bind (wpAny_pyIter_dict hd hm ?_)
 have hT₁:Shared.TypeIs { s with heap:=s.heap.push { cls:=.type "dict_keyiterator",data:=.fields #[.ref d,.int 0 0,.int kvs.length 0,.int ep 0] } } (.ref d) "dict" := by obtain⟨o,ho,hc⟩:=hT;exact⟨o,Heap.get?_push_of_some _ ho,hc⟩
 refine wpAny_bind (wpAny_holding ?_)
 unfold Builtin.List.listLengthHint
 refine wpAny_bind (wpAny_specialOf hT₁ F.slot_dict_len.lookup ?_)
 generalize hid:("dict.__len__":String)=id0
 wp_delta
 rw[show splitId id0=some ("dict","__len__") from by subst hid;decide +kernel]
 subst hid
 refine wpAny_bind (wpAny_isInstance (T := "dict") (b:=true) hT₁ (by rw[isSubtype_type];kernel_rfl) ?_)
 refine wpAny_ite_split (fun hab=>absurd hab (by decide)) (fun _=>?_)
 refine wpAny_ite_split (fun _=>?_) (fun hab=>absurd (by decide +kernel) hab)
 refine wpAny_bind (wpAny_typeOf (T := "dict") hT₁ ?_)
 refine wpAny_pure ?_
 have hit₁:(s.heap.push { cls:=.type "dict_keyiterator",data:=.fields #[.ref d,.int 0 0,.int kvs.length 0,.int ep 0] }).IsKeyIter s.heap.objs.size d 0 kvs.length ep:=⟨_,Heap.get?_push_size _ rfl,rfl,rfl⟩
 have hD₁:(s.heap.push { cls:=.type "dict_keyiterator",data:=.fields #[.ref d,.int 0 0,.int kvs.length 0,.int ep 0] }).DictAt (PySem.strKind prog w) d kvs ep:=hm.at' fun o e=>Heap.get?_push_of_some _ e
 have hS₁:=Heap.get?_push_of_some { cls:=.type "dict_keyiterator",data:=.fields #[.ref d,.int 0 0,.int kvs.length 0,.int ep 0] } hS
 refine wpAny_ite_split (fun _=>?_) (fun _=>wpAny_pure ⟨plainId_quiet F.plain_extend_loop _,key _ c₀ _ hit₁ hD₁ (fun b o _ e=>Heap.get?_push_of_some _ e) hS₁⟩)
 refine wpAny_bind (wpAny_rule ?_)
 refine wpAny_bind ?_
 show wpAny _ _ (updateSeq S (·.push .none) >>= fun _=>updateSeq S (·.pop)) _ _ _
 refine wpAny_bind (wpAny_updateSeq hS₁ rfl ?_)
 have hS₂:=Heap.get?_update_self (Obj.mapSeq (·.push Value.none)) hS₁ rfl
 refine wpAny_updateSeq (hz:=by seq_fits) hS₂ rfl ?_
 have hS₃:=Heap.get?_update_self (Obj.mapSeq (·.pop)) hS₂ rfl
 refine wpAny_pure ⟨plainId_quiet F.plain_extend_loop _,key _ _ _ (hit₁.at fun o e=>?_) (hD₁.at' fun o e=>?_) (fun b o hb e=>?_) hS₃⟩
 ·exact(Heap.get?_update_other _ _ hSI).trans ((Heap.get?_update_other _ _ hSI).trans e)
 ·exact(Heap.get?_update_other _ _ hSd).trans ((Heap.get?_update_other _ _ hSd).trans e)
 ·exact(Heap.get?_update_other _ _ (Ne.symm hb)).trans ((Heap.get?_update_other _ _ (Ne.symm hb)).trans (Heap.get?_push_of_some _ e))
theorem uI {R:Result→Shared→Prop}{d:Addr}{kvs:List (Str×Value)}{ep:Nat}(hh:A.handled=none)(hd:(d==sysModules)=false)(hm:s.heap.DictAt (PySem.strKind prog w) d kvs ep)(hlen:kvs.length≤1000)(S:Addr)(hS:s.heap.get? S=some { cls:=.type "list",data:=.seq #[] })
  (hR:∀ h' tk acc' c',(∀ b o,b≠S→s.heap.get? b=some o→h'.get? b=some o)→h'.get? S=some { cls:=.type "list",dict:=none,data:=.seq acc' c',slots:=#[] } →
   ItemsOf (fun i v=>∃ k x,kvs[i]?=some (k,x)∧(PySem.strKind prog w).is k v=true) acc' kvs.length→R (.ok (.ret .none)) { s with heap:=h',toks:=tk }) :
  wpAny (model prog w) A.in1 (Builtin.«list.__init__» ⟨[.ref S,.ref d],[]⟩)
   (fun fin s'=>match fin with | .done f=>R (.ok f) s' | .again c'=>c'.quiet=true∧codeAny (model prog w) A c' R s') (fun e s'=>R (.error e) s') s:=by
 have hSd:S≠d:=fun e=>by
  obtain⟨o,ho,hc⟩:=hm.dictOf.typeIs (s:=s)
  subst e
  rw[hS]at ho
  cases ho
  have hc':Value.type "list"=Value.type "dict" := hc
  revert hc';decide
 show wpAny _ _ (do let old ← Builtin.List.listItems (.ref S);Builtin.List.listUpdate (.ref S) (fun _=>#[]);letGo old.toList.reverse;Builtin.List.listExtendWith (.ref S) (.ref d) .none) _ _ s
 refine wpAny_bind ?_
 unfold Builtin.List.listItems
 refine wpAny_bind (wpAny_seqItems hS rfl (wpAny_pure ?_))
 show wpAny _ _ (updateSeq S (fun _=>#[]) >>= fun _=>letGo (#[]:Array Value).toList.reverse >>= fun _=>Builtin.List.listExtendWith (.ref S) (.ref d) .none) _ _ s
 refine wpAny_bind (wpAny_updateSeq hS rfl ?_)
 have hS₂:=Heap.get?_update_self (Obj.mapSeq (fun _=>(#[]:Array Value))) hS rfl
 have oth:∀ b o,b≠S→s.heap.get? b=some o→(s.heap.update S (Obj.mapSeq (fun _=>(#[]:Array Value)))).get? b=some o :=
  fun b o hb e=>(Heap.get?_update_other _ _ (Ne.symm hb)).trans e
 refine wpAny_bind (wpAny_letGo ?_)
 refine wJ hh hd (hm.at' fun o e=>oth d o (Ne.symm hSd) e) hlen S .none _ hS₂ fun h' tk acc' c' hk hS' hacc=>?_
 exact hR h' tk acc' c' (fun b o hb e=>hk b o hb (oth b o hb e)) hS' hacc
theorem lq {Q:Value→Shared→Prop}{d:Addr}{kvs:List (Str×Value)}{ep:Nat}(hh:A.handled=none)(hd:(d==sysModules)=false)(hm:s.heap.DictAt (PySem.strKind prog w) d kvs ep)(hlen:kvs.length≤1000)
  (hQ:∀ h' tk acc' c',(∀ b o,s.heap.get? b=some o→h'.get? b=some o)→h'.get? s.heap.objs.size=some { cls:=.type "list",dict:=none,data:=.seq acc' c',slots:=#[] } →
   ItemsOf (fun i v=>∃ k x,kvs[i]?=some (k,x)∧(PySem.strKind prog w).is k v=true) acc' kvs.length→Q (.ref s.heap.objs.size) { s with heap:=h',toks:=tk }) :
  wpAny (model prog w) A (call (.type "list") [.ref d]) Q E s:=by
 refine callType_codes (Q₁:=fun obj s₁=>obj=.ref s.heap.objs.size∧s₁={ s with heap:=s.heap.push { cls:=.type "list",data:=.seq #[] } }) F.called_list (F.typeCall_list_1 _) F.entry_list_init
  (code_list_new _ ⟨rfl,rfl⟩) fun obj s₁ h₁=>?_
 obtain⟨rfl,rfl⟩:=h₁
 have hS:(s.heap.push { cls:=.type "list",data:=.seq #[] }).get? s.heap.objs.size=some { cls:=.type "list",data:=.seq #[] }:=Heap.get?_push_size _ rfl
 refine⟨⟨_,hS,rfl⟩,F.args_list_init_2 _ _,uI (A:=A.in1) hh hd (hm.at' fun o e=>Heap.get?_push_of_some _ e) hlen _ hS fun h' tk acc' c' hk hS' hacc=>?_⟩
 exact⟨rfl,hQ h' tk acc' c' (fun b o e=>hk b o (Nat.ne_of_lt (Heap.lt_size e)) (Heap.get?_push_of_some _ e)) hS' hacc⟩
end
section
variable {X:Cx}{F:Fx}{k:Nat}{l:List (Str×Nat)}{x:Str}{p p2 pos:Pos}
theorem rK {a:Addr}(hc:X.calm=true)(hg:Gl X "list")(hm:X.mg "list"=none)(hgx:Gl X x)(hmx:X.mg x=some (.ref a))(C:Nat→Addr)(hT:TabK X.K C X.w.params a l)(hd:(x==("__debug__":Str))=false)
  (hs:starEach [.Name x p2] X.env=[(false,eval (.Name x p2) X.env)]) :
  PE X (.Call (.Name "list" p) [.Name x p2] [] pos) (fun σ H Q=>∀ q,H q=none→Q (.ref q) (upd H q (.lst (l.map fun p=>.str p.1)))):=by
 obtain⟨es,n,h1,h2,h3,h4,h5,h6⟩:=hT
 intro pins s σ H Q I h
 refine Call_ (ff I hg hm ny (PyProof.Rows.callWith_type1 ?_ (by rw[hs];rfl) (by rfl)))
 rw[hs]
 refine Calls.spliced_cons (thn (br (v:=.ref a) (pos:=p2) hgx hmx rfl hd pins s σ H (fun v H'=>v=.ref a∧H'=H) I ⟨rfl,rfl⟩) fun v s1 ⟨y,H1,I1,r1,q1⟩=>Calls.spliced_nil ?_)
 obtain⟨rfl,rfl⟩:=q1
 cases r1
 have hD:s1.heap.DictAt (PySem.strKind X.prog X.w) a (l.map fun p=>(p.1,Value.ref (C p.2))) n:=by
  obtain⟨o,es',n',ho,hx,hdat,hk,_⟩:=PySem.W.mapOf_K (prog:=X.prog) (w:=X.w) I1.kIn h1 h2
  have e1:=(I1.kIn a _ h1).symm.trans ho
  cases e1
  cases hdat
  exact⟨_,es,ho,hx,rfl,hk,nA h3,by rw[List.map_map];exact h4⟩
 refine lq (I1.ok.hd hc) h6 hD (by simpa using h5) fun h' tk acc' c' hk hS hacc=>?_
 have hv:Vals (l.map fun p=>V.str p.1) acc'.toList:=by
  have:∀ (l:List (Str×Nat)) (vs:List Value),vs.length=l.length→(∀ (j:Nat) (p:Str×Nat) (v:Value),l[j]?=some p→vs[j]?=some v→∃ t,v=.str p.1 t)→Vals (l.map fun p=>V.str p.1) vs:=by
   intro l
   induction l with
   | nil=>intro vs hl _;cases vs with
    | nil=>exact .nil
    | cons _ _=>simp at hl
   | cons p l ih =>
    intro vs hl h
    cases vs with
    | nil=>simp at hl
    | cons v vs=>exact .cons (h 0 p v rfl rfl) (ih vs (by simpa using hl) fun j q u e1 e2=>h (j+1) q u (by simpa using e1) (by simpa using e2))
  refine this l acc'.toList (by have:=hacc.1;simpa using this) fun j p v e1 e2=>?_
  obtain⟨k,y,f1,f2⟩:=hacc.2 j v (by simpa using e2)
  have f1':(l[j]?).map (fun p=>(p.1,Value.ref (C p.2)))=some (k,y):=by simpa using f1
  rw[e1]at f1'
  cases f1'
  obtain⟨t,rfl⟩:=Value.isStrOf_shape f2
  exact⟨t,rfl⟩
 refine⟨.ref s1.heap.objs.size,upd H1 s1.heap.objs.size (.lst (l.map fun p=>.str p.1)),I1.laid (t':=tk) hk (Nat.le_refl _) ⟨by rw[sizeLine_eq,List.length_map];omega,acc'.toList,c',hv,by simpa using hS⟩,rfl,h _ (I1.hok.fresh (Nat.le_refl _))⟩
theorem rL (bx:BX X F k)(hg:Gl X "list")(hm:X.mg "list"=none)(hT:∃ a,X.mg x=some (.ref a)∧TabK X.K F.C X.w.params a l)(hgx:Gl X x)(hd:(x==("__debug__":Str))=false:=by decide)
  (hs:starEach [.Name x p2] X.env=[(false,eval (.Name x p2) X.env)]:=by rfl):FE X F (.Call (.Name "list" p) [.Name x p2] [] pos) (fun _=>R.ok (tabK l)):=by
 obtain⟨a,hmx,hT⟩:=hT
 refine(rK bx.calm hg hm hgx hmx F.C hT hd hs).weak fun σ H Q ⟨Z,S,ok,w⟩=>fun q hq=>?_
 have z:Same Z (upd Z q (.lst (l.map fun p=>V.str p.1))):=aF (ok.sub.free hq)
 refine w _ _ (Ex.alloc ok.sub hq) _ ?_
 unfold tabK
 rw[Rep]
 refine⟨q,_,rfl,SqL.of au,?_⟩
 have:∀ l:List (Str×Nat),Reps F.K F.C (upd Z q (.lst ((l.map fun p=>V.str p.1)))) (l.map fun p=>D.str p.1) (l.map fun p=>V.str p.1)→True:=fun _ _=>trivial
 refine ou (by simp) fun j d v e1 e2=>?_
 simp only[List.getElem?_map]at e1 e2
 cases hl:l[j]? with
 | none=>rw[hl]at e1;cases e1
 | some pr =>
  rw[hl]at e1 e2
  cases e1
  cases e2
  rw[Rep]
end
end FF
end
noncomputable section
namespace FF
open PySem PySem.Spec PyProof.Rows L2
open AutoSeq1 (wpAny_loadPart')
theorem wK {prog:Program}{w:World}{A:Around}(hh:A.handled=none)(b:Bool)(it a:Addr)(hne:a≠it)(items:Array Value) :
  Draws prog w A it [it,a] items.size (fun i v=>items[i]?=some v) (fun i h=>SIt h b it a i∧SOb h b a items) where
 live:=fun _ _ st=>let ⟨o,ho,_⟩:=st.1.lt;⟨o,ho⟩
 frame:=fun _ _ _ st hk=>⟨st.1.at fun o e=>hk it (by simp) o e,st.2.at fun o e=>hk a (by simp) o e⟩
 item:=fun i s Q E hi st hQ=>by
  refine cG st.1 st.2 (x:=items[i]) (by simp[hi]) fun h' hit' hs'=>?_
  exact hQ _ h' s.toks (by simp[hi]) ⟨hit',st.2.at fun o e=>hs'.extBut _ _ hne e⟩ hs'
 done:=fun s Q E st hE=>eQ hh st.1 st.2 (by simp) hE
theorem lu (l:Addr)(items:Array Value)(n:Nat)(dct:Option Addr)(sl:Array (Option Value)) :
  Meets (Builtin.«enumerate.__new__» ⟨[.type "enumerate",.ref l],[]⟩) (fun _ R s=>s.heap.get? l=some { cls:=.type "tuple",dict:=dct,data:=.seq items n,slots:=sl } ∧
   R (.ok (.ret (.ref (s.heap.push { cls:=.type "tuple_iterator",data:=.fields #[.ref l,.int 0 0] }).objs.size)))
    { s with heap:=(s.heap.push { cls:=.type "tuple_iterator",data:=.fields #[.ref l,.int 0 0] }).push { cls:=.type "enumerate",data:=.fields #[.none,.bool false,.ref s.heap.objs.size,rawInt 0,.none,.none] } }) :=
 .of_wp fun prog w A R s h=>by
  obtain⟨hp,g,d,tk,os⟩:=s;obtain⟨hl,h⟩:=h
  have hsub:=sub_enumerate
  have hL:Heap.IsTuple (Shared.heap ⟨hp,g,d,tk,os⟩) l items:=⟨_,hl,rfl,n,rfl⟩
  wp_walk using wpAny_loadPart' hl
  refine wpAny_stack_any fun st=>wpAny_pure ?_
  split
  ·rename_i c _ _ _ _ _
   cases (c==Value.type "enumerate")
   ·wp_walk using wpAny_loadPart' hl,wpAny_pyIter_tuple hL
    exact⟨_,rfl,h⟩
   ·wp_walk using wpAny_loadPart' hl,wpAny_pyIter_tuple hL
    exact⟨_,rfl,h⟩
  ·wp_walk using wpAny_loadPart' hl,wpAny_pyIter_tuple hL
   exact⟨_,rfl,h⟩
section
variable {prog:Program}{w:World}{A:Around}{E:Value→Shared→Prop}{s:Shared}
theorem mC {l:Addr}{items:Array Value}{Q:Value→Shared→Prop}(hL:s.heap.IsTuple l items)
  (h:∀ h',IsEnum h' (s.heap.objs.size+1) s.heap.objs.size 0 .none→h'.IsTupleIter s.heap.objs.size l 0→h'.objs.size=s.heap.objs.size+2 →
   (∀ b o,s.heap.get? b=some o→h'.get? b=some o)→Q (.ref (s.heap.objs.size+1)) { s with heap:=h' }) :
  wpAny (model prog w) A (call (.type "enumerate") [.ref l]) Q E s:=by
 obtain⟨⟨c,dct,dt,sl⟩,hl,hc,n,hd⟩:=hL
 replace hc:c=.type "tuple" := hc
 replace hd:dt=.seq items n:=hd
 subst hc hd
 refine callType_new F.called_enumerate (by decide) (F.typeCall_enumerate_1 _) (F.newCall_enumerate_1 _) (fun obj=>F.args_object_init_2 obj _) F.entry_enumerate_new
  (lu l items n dct sl) ⟨hl,?_⟩
 have hz:(s.heap.push { cls:=.type "tuple_iterator",data:=.fields #[.ref l,.int 0 0] }).objs.size=s.heap.objs.size+1:=Heap.size_push ..
 show _∧_
 rw[hz]
 have he:IsEnum ((s.heap.push { cls:=.type "tuple_iterator",data:=.fields #[.ref l,.int 0 0] }).push
   { cls:=.type "enumerate",data:=.fields #[.none,.bool false,.ref s.heap.objs.size,rawInt 0,.none,.none] }) (s.heap.objs.size+1) s.heap.objs.size 0 .none:=by
  have:=Heap.get?_push_size (s.heap.push { cls:=.type "tuple_iterator",data:=.fields #[.ref l,.int 0 0] })
   (o:={ cls:=.type "enumerate",data:=.fields #[.none,.bool false,.ref s.heap.objs.size,rawInt 0,.none,.none] }) rfl
  rw[hz]at this;exact this
 refine⟨⟨_,he,rfl⟩,h _ he ⟨_,Heap.get?_push_of_some _ (Heap.get?_push_size _ rfl),rfl,rfl⟩ (by rw[Heap.size_push,hz]) fun b o x=>Heap.get?_push_of_some _ (Heap.get?_push_of_some _ x)⟩
theorem uJ {b:Bool}{l:Addr}{items:Array Value}{Q:Value→Shared→Prop}(hL:SOb s.heap b l items)
  (h:∀ h',IsEnum h' (s.heap.objs.size+1) s.heap.objs.size 0 .none→SIt h' b s.heap.objs.size l 0→(∀ b o,s.heap.get? b=some o→h'.get? b=some o)→Q (.ref (s.heap.objs.size+1)) { s with heap:=h' }) :
  wpAny (model prog w) A (call (.type "enumerate") [.ref l]) Q E s:=by
 cases b with
 | true=>exact mC hL fun h' a1 a2 _ a3=>h h' a1 a2 a3
 | false=>exact call_enumerate_list hL fun h' a1 a2 _ a3=>h h' a1 a2 a3
theorem nB {e it:Addr}{i:Int}{old:Value}{Q:Value→Shared→Prop}(he:IsEnum s.heap e it i old)(h:Q (.ref e) s):wpAny (model prog w) A (pyIter (.ref e)) Q E s:=by
 have hT:s.TypeIs (.ref e) "enumerate" := ⟨_,he,rfl⟩
 refine wpAny_pyIter_slot hT F.slot_enumerate_iter (wpAny_call_entry F.slot_enumerate_iter hT F.entry_enumerate_iter ?_ (F.args_enumerate_iter_1 _))
 show wpAny _ _ (ret (.ref e)) _ _ s
 exact wpAny_pure ⟨_,rfl,"enumerate",_,hT,F.slot_enumerate_next.lookup,h⟩
end
section
variable {prog:Program}{w:World}{A:Around}{E:Value→Shared→Prop}{s:Shared}
theorem wL {e it a:Addr}{b:Bool}{i:Int}{k:Nat}{old:Value}{items:Array Value}{Q:Option Value→Shared→Prop}(hh:A.handled=none)(he:IsEnum s.heap e it i old)(hit:SIt s.heap b it a k)(hl:SOb s.heap b a items)(hx:items[k]?=none)
  (hQ:∀ h',Heap.ExtBut it s.heap h'→Q none { s with heap:=h' }):wpAny (model prog w) A (pyNext (.ref e)) Q E s:=by
 have hT:s.TypeIs (.ref e) "enumerate" := ⟨_,he,rfl⟩
 unfold pyNext
 refine wpAny_bind (wpAny_attempt (wpAny_callSpecial?_slot (name:=Str.ofString "__next__") hT F.slot_enumerate_next
  (wpAny_call_entry F.slot_enumerate_next hT F.entry_enumerate_next ?_ (F.args_enumerate_next_1 _))))
 show wpAny _ _ (field (.ref e) 2 >>= _) _ _ _
 refine wpAny_bind (wpAny_field he rfl (x:=.ref it) rfl ?_)
 refine wpAny_bind (eQ (show A.in1.handled=none from hh) hit hl hx fun h' x he' hx'=>?_)
 obtain⟨o,ho,hc⟩:=hx'
 refine wpAny_bind (wpAny_isInstance (T := "StopIteration") (b:=true) ⟨o,ho,hc⟩ isSubtype_stop ?_)
 exact wpAny_pure (hQ _ he')
end
def Ite (K:PySem.W.Frag)(b:Bool)(a:Addr):It :=
 ⟨fun i H=>∃ xs x,SqB K H b a xs∧xs[i]?=some x,
  fun i H v H'=>∃ p x,H p=none∧v=.ref p∧(∀ xs,SqB K H b a xs→xs[i]?=some x)∧H'=upd H p (.tup [.int (i:Int),x]),
  fun i H=>∃ xs,SqB K H b a xs∧xs.length≤i⟩
theorem uK {P:Program}{w:World}{K:PySem.W.Frag}{elts:List Expr}{x1:Nat}{pos:Pos}{e it a:Addr}(b:Bool)(hei:e≠it)(hai:a≠it)(hea:e≠a) :
  Turn P w K (.Tuple elts x1 pos) (Ite K b a) [e,it] e (fun i h=>(∃ old,IsEnum h e it i old)∧SIt h b it a i) where
 mem:=by simp
 obj:=fun i h st c hb=>by
  obtain⟨⟨old,e1⟩,e2⟩:=st
  simp only[List.mem_cons,List.not_mem_nil,or_false]at hb
  rcases hb with rfl | rfl
  ·exact⟨_,e1,fun v z=>by have z':Data.fields _=Data.cell v:=z;cases z'⟩
  ·exact e2.lt
 keep:=fun i h h' st k=>by
  obtain⟨⟨old,e1⟩,e2⟩:=st
  exact⟨⟨old,k e (by simp) _ e1⟩,e2.at fun o q=>k it (by simp) o q⟩
 item:=by
  intro X hP hw hK hc i pins s σ H E I hf st hg
  subst hP hw hK
  obtain⟨xs,x,q1,hx⟩:=hg
  obtain⟨⟨old,e1⟩,e2⟩:=st
  obtain⟨is1,rv1,o1,_⟩:=cc I q1
  obtain⟨u,hu,ru⟩:=rv1.get hx
  have hl:=rv1.length
  have hil:i < xs.length:=(List.getElem?_eq_some_iff.mp hx).1
  have lt:∀ c∈[e,it],c≠s.heap.objs.size:=fun c hb=>by
   simp only[List.mem_cons,List.not_mem_nil,or_false]at hb
   rcases hb with rfl | rfl
   ·exact Nat.ne_of_lt (Heap.lt_size e1)
   ·obtain⟨o,ho,_⟩:=e2.lt;exact Nat.ne_of_lt (Heap.lt_size ho)
  have D:=wK (prog:=X.prog) (w:=X.w) (A:=X.A.in1) (show X.A.in1.handled=none from I.ok.hd hc) b it a hai is1.toArray
  refine wpAny_pyNext_enum_itemD D e1 ⟨e2,o1⟩ (by simp;omega) hei (by simp[hei,hea]) fun v h' tk hP ho hs' hT hsz hk=>?_
  have ev:v=u:=by
   have h1:is1[i]?=some v:=by simpa using hP
   rw[hu]at h1;cases h1;rfl
  subst ev
  refine⟨_,rfl,wpAny_letOwnedTupleGo_enum (s:={ s with heap:=h',toks:=tk+1 }) ho fun h2 he2 sb2=>?_⟩
  have k2:∀ c o,c∉[e,it]→s.heap.get? c=some o→h2.get? c=some o:=fun c o hb q=>by
   simp only[List.mem_cons,List.not_mem_nil,or_false,not_or]at hb
   exact sb2.extBut _ _ hb.1 (hk c o hb.1 hb.2 q)
  have hp2:IsPair h2 s.heap.objs.size (.int i tk) v:=sb2.extBut _ _ (fun q=>lt e (by simp) q.symm) hT
  have I2:Inv X pins σ (upd H s.heap.objs.size (.tup [.int (i:Int),x])) { s with heap:=h2,toks:=tk+1 }:=turnedP I hf lt ⟨tk,rfl⟩ ru hp2 k2
  exact⟨.ref s.heap.objs.size,_,I2,rfl,⟨s.heap.objs.size,x,I.hok.fresh (Nat.le_refl _),rfl,fun xs' q=>by rw[rG I q q1];exact hx,rfl⟩,⟨⟨_,by simpa using he2⟩,hs'.1.at fun o q=>sb2.extBut _ _ (Ne.symm hei) q⟩,fun c hb=>by rw[av (lt c hb)];exact(hf c hb).1⟩
 done:=by
  intro X hP hw hK hc i pins s σ H E I hf st hg
  subst hP hw hK
  obtain⟨xs,q1,hx⟩:=hg
  obtain⟨⟨old,e1⟩,e2⟩:=st
  obtain⟨is1,rv1,o1,_⟩:=cc I q1
  have hl:=rv1.length
  refine wL (I.ok.hd hc) e1 e2 o1 (by simp;omega) fun h' hk=>⟨rfl,turnedL (t':=s.toks) I hf fun c o hb q=>?_⟩
  simp only[List.mem_cons,List.not_mem_nil,or_false,not_or]at hb
  exact hk c o hb.2 q
 self:=fun _ _ _ _ _ st h=>by obtain⟨⟨old,e1⟩,_⟩:=st;exact nB e1 h
theorem uL:bootBuiltins "enumerate"=some (.type "enumerate"):=by decide +kernel
theorem yr {X:Cx}{elts:List Expr}{x1:Nat}{ps p pos:Pos}{a:Expr}{ta:TA}(hg:Gl X "enumerate")(hm:X.mg "enumerate"=none)(ha:PA X [a] ta)(hs:starEach [a] X.env=[(false,eval a X.env)]:=by rfl) :
  PI X (.Tuple elts x1 ps) (.Call (.Name "enumerate" p) [a] [] pos) (fun σ H R=>ta σ H fun vs H1=>∃ b a1,vs=[.ref a1]∧(∃ xs,SqB X.K H1 b a1 xs)∧R (Ite X.K b a1) H1):=by
 intro pins s σ H R I h
 refine Call_ (ff I hg hm uL (PyProof.Rows.callWith_type1 (thn (ha pos pins s σ H _ I h) fun us s1 ⟨vs,H1,I1,r1,q1⟩=>?_) hs rfl))
 obtain⟨b,a1,e,⟨xs,hx⟩,q⟩:=q1
 subst e
 cases r1 with
 | cons r rr =>
  cases rr
  cases r
  obtain⟨is1,rv1,o1,_⟩:=cc I1 hx
  have lt:a1 < s1.heap.objs.size:=by cases b<;>(obtain⟨_,e,_⟩:=o1;exact Heap.lt_size e)
  refine uJ o1 fun h' he hi hk=>nB (s:={ s1 with heap:=h' }) he ?_
  have I2:Inv X pins σ H1 { s1 with heap:=h',toks:=s1.toks }:=I1.kept hk
  refine⟨_,_,_,_,H1,rfl,I2,uK b (Nat.succ_ne_self _) (Nat.ne_of_lt lt) (Nat.ne_of_gt (Nat.lt_succ_of_lt lt)),⟨⟨_,he⟩,hi⟩,fun c hc=>?_,q⟩
  have hb:s1.heap.objs.size≤c:=by
   simp only[List.mem_cons,List.not_mem_nil,or_false]at hc
   rcases hc with rfl | rfl
   ·exact Nat.le_add_right _ _
   ·exact Nat.le_refl _
  exact I1.fpOk hb (I1.hok.fresh hb)
theorem sY:∀ {xs:List D} {k i:Nat} {x:D},xs[i]?=some x→(enD xs k)[i]?=some (.tup [.int ((k+i:Nat):Int),x])
 | a::xs,k,0,x,h=>by cases h;rfl
 | a::xs,k,i+1,x,h=>by
  have:=sY (xs:=xs) (k:=k+1) (i:=i) (by simpa using h)
  rw[show k+1+i=k+(i+1) by omega]at this
  simpa [enD] using this
 | [],_,_,_,h=>by simp at h
theorem oy:∀ (xs:List D) (k:Nat),(enD xs k).length=xs.length
 | [],_=>rfl
 | a::xs,k=>by show (enD xs (k+1)).length+1=_;rw[oy xs (k+1)];rfl
theorem uM {F:Fx}{b:Bool}{a:Addr}{xs:List D}{vs:List V}{Z:Hp}(h1:SqB F.K Z b a vs)(r1:Reps F.K F.C Z xs vs):WalkG F (Ite F.K b a) (enD xs 0) Z:=fun i H Z2 z1 z2=>by
 have l:=oy xs 0
 have e1:=r1.length
 refine⟨fun hi=>?_,fun hi=>⟨vs,h1.mono (z1.trans z2),by omega⟩⟩
 have hx:vs[i]?=some vs[i]:=List.getElem?_eq_getElem (by omega)
 refine⟨⟨vs,_,h1.mono (z1.trans z2),hx⟩,fun v H' ⟨p,x,hp,e,qx,eH⟩=>?_⟩
 subst e;subst eH
 obtain⟨dx,f1,g1⟩:=r1.get' (qx _ (h1.mono (z1.trans z2)))
 have z3:Same Z (upd Z2 p (.tup [.int (i:Int),x])):=z1.trans (aF (z2.free hp))
 have f2:=sY (k:=0) f1
 rw[Nat.zero_add]at f2
 refine⟨upd Z2 p (.tup [.int (i:Int),x]),.tup [.int (i:Int),dx],Ex.alloc z2 hp,f2,?_⟩
 rw[Rep]
 exact⟨p,[.int (i:Int),x],rfl,SqT.of au,Reps.cons aI (Reps.cons (g1.mono z3) Reps.nil)⟩
section
variable {X:Cx}{F:Fx}{a:Expr}{ga:SS→R D}{k:Nat}
theorem yt {S:SS}{α:Type}(f:D→R α):((aL [ga]) S).bind (fun ds=>match ds with | [x]=>f x | _=>R.stuck)=(ga S).bind fun x=>f x:=by
 show (((ga S).bind fun d=>(R.ok []:R (List D)).bind fun ds=>R.ok (d::ds))).bind _=_
 cases ga S<;>rfl
theorem fw {elts:List Expr}{x1:Nat}{ps p pos:Pos}(bx:BX X F k)(hg:Gl X "enumerate")(hm:X.mg "enumerate"=none)(ha:FE X F a ga)(hs:starEach [a] X.env=[(false,eval a X.env)]:=by rfl) :
  FI X F (.Tuple elts x1 ps) (.Call (.Name "enumerate" p) [a] [] pos) (fun S=>(ga S).bind fun x=>dEnum x) :=
 (yr hg hm (FAL.out (aa ha ad (hs:=by rw[hs];rfl))) hs).weak fun σ H Q ⟨Z,S,ok,w⟩=>by
  have w:WG F H Z ((ga S).bind fun x=>dEnum x) _:=w
  rw[← yt]at w
  refine bu ok w fun ds vs H1 Z1 ok1 x1 rs w1=>?_
  obtain⟨dx,rfl⟩:∃ dx,ds=[dx]:=by
   rcases ds with _ | ⟨dx,_ | ⟨dy,r⟩⟩
   ·exact False.elim w1
   ·exact⟨dx,rfl⟩
   ·exact False.elim w1
  focus
   have w2:WG F H1 Z1 (dEnum dx) _:=w1
   unfold dEnum sq at w2
   rw[Reps]at rs
   obtain⟨v1,r,rfl,q1,rs⟩:=rs
   rw[Reps]at rs
   subst rs
   cases e1:asSeq dx with
   | err k=>rw[e1]at w2;cases dx<;>cases e1
   | stuck=>rw[e1]at w2;exact w2.elim
   | ok xs =>
    rw[e1]at w2
    have w3:WG F H1 Z1 (R.bind (if xs.length≤16777216 then R.ok xs else R.stuck) fun xs=>R.ok (enD xs 0)) _:=w2
    split at w3
    ·rename_i hl1
     obtain⟨b1,a1,us1,rfl,s1,t1⟩:=lp e1 q1
     rw[bx.K]
     exact⟨b1,a1,rfl,⟨us1,s1.mono ok1.sub⟩,WG.now w3 ok1.sub _ (uM s1 t1) (by rw[oy];exact hl1)⟩
    ·exact w3.elim
end
end FF
end
noncomputable section
namespace FF
open PySem PySem.Spec PyProof.Rows L2
section
variable {X:Cx}{F:Fx}{a:Expr}{ga:SS→R D}{k:Nat}{p p2 pos pos2:Pos}
end
section
variable {prog:Program}{w:World}{A:Around}{E:Value→Shared→Prop}{s:Shared}
theorem nC {it t:Addr}{items:Array Value}(hne:t≠it):∀ (n i:Nat) (s:Shared) (Q:List Value→Shared→Prop),s.heap.IsListIter it t i→s.heap.IsList t items→i+n≤items.size →
  (∀ h',h'.IsListIter it t (i+n)→Heap.SameBut it s.heap h'→Q ((items.toList.drop i).take n) { s with heap:=h' })→wpAny (model prog w) A (draw (.ref it) n) Q E s
 | 0,i,s,Q,hit,_,_,hQ=>by
  show wpAny _ _ (pure []) Q E s
  exact wpAny_pure (by simpa using hQ s.heap hit (Heap.SameBut.refl ..))
 | n+1,i,s,Q,hit,ht,hle,hQ=>by
  have hlt:i < items.size:=by omega
  show wpAny _ _ (pyNext (.ref it) >>= _) Q E s
  refine wpAny_bind (wpAny_pyNext_list_item hit ht (x:=items[i]) (by simp[hlt]) fun h₁ hit₁ hs₁=>?_)
  refine wpAny_bind (wpAny_holding (nC hne n (i+1) _ _ hit₁ (ht.extBut hs₁.extBut hne) (by omega) fun h₂ hit₂ hs₂=>wpAny_pure ?_))
  have hd:items.toList.drop i=items[i]::items.toList.drop (i+1):=by simp[List.drop_eq_getElem_cons,hlt]
  have:=hQ h₂ (by rw[show i+(n+1)=i+1+n by omega];exact hit₂) (hs₁.trans hs₂)
  rw[hd,List.take_succ_cons]at this
  exact this
theorem jO {t:Addr}{items:Array Value}{Q:List Value→Shared→Prop}(hh:A.handled=none)(ht:s.heap.IsList t items)
  (hQ:∀ h',Heap.ExtBut s.heap.objs.size s.heap h'→Q items.toList { s with heap:=h' }):wpAny (model prog w) A (unpackItems (.ref t) items.size none) Q E s:=by
 have hlt:t≠s.heap.objs.size:=by obtain⟨o,ho,_⟩:=ht;exact Nat.ne_of_lt (Heap.lt_size ho)
 unfold unpackItems
 refine wpAny_bind ?_
 ·unfold notIterableAtAll
  refine wpAny_bind (wpAny_specialOf ht.typeIs F.slot_list_iter.lookup ?_)
  refine wpAny_pure ?_
  simp only[Bool.false_eq_true,if_false]
  refine wpAny_bind (wpAny_holding (wpAny_pyIter_list ht ?_))
  refine wpAny_bind (wpAny_holding (nC hlt items.size 0 _ _ ⟨_,Heap.get?_push_size _ rfl,rfl,rfl⟩ (ht.push _) (by omega) fun h₁ hit₁ hs₁=>?_))
  have hall:List.take items.size (List.drop 0 items.toList)=items.toList:=by
   rw[List.drop_zero];exact List.take_of_length_le (by simp)
  rw[hall]
  rw[if_neg (by simp)]
  have ht₁:h₁.IsList t items:=(ht.push _).extBut hs₁.extBut hlt
  refine wpAny_bind (wpAny_holding (wpAny_pyNext_list_end hh hit₁ ht₁ (by simp) fun h₂ he₂=>?_))
  simp only[Option.isSome_none,Bool.false_eq_true,if_false]
  refine wpAny_pure (hQ h₂ fun b o hb e=>he₂ b o hb (hs₁.extBut b o hb (Heap.get?_push_of_some _ e)))
theorem jb {env:Env}{elts:List Expr}{x1}{pos:Pos}{t:Addr}{items:Array Value}{Q:Unit→Shared→Prop}(hh:A.handled=none)(ht:s.heap.IsList t items)
  (hn:(assignEach elts env).length=items.size) (hstar:(assignEach elts env).findIdx? (·.1)=none)
  (h:∀ h',Heap.ExtBut s.heap.objs.size s.heap h'→wpAny (model prog w) A (assignInOrder ((assignEach elts env).map (·.2)) items.toList) Q E { s with heap:=h' }) :
  wpAny (model prog w) A (assign (.Tuple elts x1 pos) env (.ref t)) Q E s:=by
 rw[assign_Tuple]
 refine wpAny_bind (wpAny_standAt ?_)
 unfold unpack
 rw[hn,hstar]
 exact wpAny_bind (wpAny_holding (jO hh ht h))
end
section
variable {X:Cx}{F:Fx}
def gLst (ix:List Nat):D→SS→R SS:=fun d S=>match d with
 | .lst ds=>if ds.length=ix.length then .ok (setAll ix ds S) else .stuck
 | _=>.stuck
def gLs (K:PySem.W.Frag)(n:Nat)(t:TGs):TG:=fun v σ H Q=>∃ a xs,v=.ref a∧SqL K H a xs∧xs.length=n∧t xs σ H Q
theorem Ah {es:List Expr}{k:Nat}{t:TGs}{n:Nat}{pos:Pos}(hc:X.calm=true)(h:PGs X es t)
  (hn:(assignEach es X.env).length=n) (hst:(assignEach es X.env).findIdx? (·.1)=none):PG X (.Tuple es k pos) (gLs X.K n t):=by
 intro pins s σ H v u Q I r hw
 obtain⟨a,xs,e1,hq,hl,hw⟩:=hw
 subst e1
 cases r
 obtain⟨its,rv,ht,hz⟩:=I.list hq
 refine jb (I.ok.hd hc) ht.isList (by simp[hn,← hl,rv.length]) hst fun h' hx=>?_
 have I1:Inv X pins σ H { s with heap:=h' }:=I.kept (t':=s.toks) fun b o e=>hx b o (Nat.ne_of_lt (Heap.lt_size e)) e
 exact h pins _ σ H xs _ Q I1 (by simpa using rv) hw
theorem uN {es:List Expr}{kk:Nat}{pos:Pos}(ix:List Nat)(hc:X.calm=true)(h:PGs X es (gNames ix))(hn:(assignEach es X.env).length=ix.length)(hst:(assignEach es X.env).findIdx? (·.1)=none)(hK:X.K=F.K):FG X F (.Tuple es kk pos) (gLst ix) :=
 (Ah hc h hn hst).weak fun v σ H Q ⟨Z,S,d,ok,rd,w⟩=>by
  cases d with
  | lst ds =>
   by_cases hl:ds.length=ix.length
   ·have w':WG F H Z (R.ok (setAll ix ds S)) fun S' H' Z'=>∀ σ',StOk F H' Z' S' σ'→Q σ' H':=by
     have e:gLst ix (.lst ds) S=R.ok (setAll ix ds S):=by unfold gLst;simp[hl]
     rw[e]at w;exact w
    have rd':=rd
    rw[Rep]at rd'
    obtain⟨c,vs,rfl,h1,h2⟩:=rd'
    refine⟨c,vs,rfl,by rw[hK];exact ok.sub.seq h1,by rw[← h2.length,hl],?_⟩
    exact jM ix ds vs S σ hl h2 ok (WG.now w' ok.sub)
   ·have e:gLst ix (.lst ds) S=R.stuck:=by unfold gLst;simp[hl]
    rw[e]at w
    exact w.elim
  | _=>exact w.elim
variable {σ:Type}{S:SS}{rest:List Stmt}{J:σ→SS→Prop}{e:Expr}{ge:SS→R D}{r:R D}{n:Nat}
theorem yu {tg:Expr}{pos:Pos}{ix:List Nat}{U:D→L σ}(h:FS X F (.Assign [tg] e pos) (sAsg (gLst ix) ge))(hr:ge S=r)
  (hU:∀ d,(∃ ds,d=.lst ds∧ds.length=ix.length∧FL X F (setAll ix ds S) rest J (U d))∨(gLst ix d S=.stuck∧U d=.stuck)):FL X F S (.Assign [tg] e pos::rest) J (lB r U):=by
 cases r with
 | ok d =>
  rcases hU d with ⟨ds,rfl,hl,hk⟩ | ⟨e1,e2⟩
  ·have e3:gLst ix (.lst ds) S=.ok (setAll ix ds S):=by unfold gLst;simp[hl]
   have:sAsg (gLst ix) ge S=.nx (setAll ix ds S):=by
    unfold sAsg;rw[hr];show rO ((gLst ix (.lst ds) S).bind _)=_;rw[e3];rfl
   exact aO h this hk
  ·show FL X F S _ J (U d)
   rw[e2]
   intro pins s σ' H D I ⟨Z,ok,w⟩
   exact w.elim
 | err k=>exact aj (k:=fun (p:D×SS)=>L.stuck) (S':=fun p=>p.2) (r:=R.err k) h (by unfold sAsg;rw[hr];rfl) (fun a=>by intro pins s σ' H D I ⟨Z,ok,w⟩;exact w.elim)
 | stuck=>intro pins s σ' H D I ⟨Z,ok,w⟩;exact w.elim
theorem sZ (i j:Nat){x y:Str}{p1 p2 tp pos:Pos}{kk:Nat}{S':D→D→SS}{k:D→D→L σ}(bx:BX X F n)(hN:X.N.Nodup)(he:FE X F e ge)(hr:ge S=r)(hS:∀ a b,(S.set i (some (.val a))).set j (some (.val b))=S' a b)(hk:∀ a b,FL X F (S' a b) rest J (k a b))
  (hi:X.N[i]?=some x:=by rfl) (hj:X.N[j]?=some y:=by rfl) (hx:Loc X.env.scope x:=by first | exact Or.inl rfl | exact Or.inr rfl) (hy:Loc X.env.scope y:=by first | exact Or.inl rfl | exact Or.inr rfl)
  (hfx:X.fn x=true∨X.env.scope.names.lookup x=some .local:=by first | exact .inl rfl | exact .inr rfl) (hfy:X.fn y=true∨X.env.scope.names.lookup y=some .local:=by first | exact .inl rfl | exact .inr rfl)
  (hn:(assignEach [.Name x p1,.Name y p2] X.env).length=2:=by rfl) (hst:(assignEach [.Name x p1,.Name y p2] X.env).findIdx? (·.1)=none:=by rfl)
  (hs:swapsWithSole [.Tuple [.Name x p1,.Name y p2] kk tp] e pos.line X.env=pure false:=by rfl) (hw:swappedStores [.Tuple [.Name x p1,.Name y p2] kk tp] e X.env=pure none:=by rfl)
  (h1:(assignEach [.Tuple [.Name x p1,.Name y p2] kk tp] X.env).map (·.2)=[assign (.Tuple [.Name x p1,.Name y p2] kk tp) X.env]:=by rfl):FL X F S (.Assign [.Tuple [.Name x p1,.Name y p2] kk tp] e pos::rest) J (lB r fun d=>lUnL2 d fun a b=>k a b):=by
 refine yu (ix:=[i,j]) (sW he (uN [i,j] bx.calm (eJ (fg hN hi hx hfx) (eJ (fg hN hj hy hfy) n3)) hn hst bx.K) hs hw h1) hr fun d=>?_
 cases d with
 | lst ds =>
  match ds with
  | [a,b]=>exact .inl ⟨_,rfl,rfl,by have:=hk a b;rw[← hS]at this;exact this⟩
  | []=>exact .inr ⟨rfl,rfl⟩
  | [_]=>exact .inr ⟨rfl,rfl⟩
  | _::_::_::_=>exact .inr ⟨by unfold gLst;simp,rfl⟩
 | _=>exact .inr ⟨rfl,rfl⟩
end
end FF
end
noncomputable section
namespace FF
open PySem PySem.Spec PyProof.Rows L2
section
variable {X:Cx}{F:Fx}
theorem wM (i j:Nat){x y:Str}{p1 p2 tp pos pt2:Pos}{k k2:_}{n:Nat}{a b:Expr}{gs:SS→R (List D)}(bx:BX X F n)(hN:X.N.Nodup)(ha:FA X F [a,b] gs)(hi:X.N[i]?=some x:=by rfl)(hj:X.N[j]?=some y:=by rfl)
  (hx:Loc X.env.scope x:=by first | exact Or.inl rfl | exact Or.inr rfl) (hy:Loc X.env.scope y:=by first | exact Or.inl rfl | exact Or.inr rfl)
  (hfx:X.fn x=true∨X.env.scope.names.lookup x=some .local:=by first | exact .inl rfl | exact .inr rfl) (hfy:X.fn y=true∨X.env.scope.names.lookup y=some .local:=by first | exact .inl rfl | exact .inr rfl)
  (hn:(assignEach [.Name x p1,.Name y p2] X.env).length=2:=by rfl) (hst:(assignEach [.Name x p1,.Name y p2] X.env).findIdx? (·.1)=none:=by rfl)
  (hs:swapsWithSole [.Tuple [.Name x p1,.Name y p2] k tp] (.Tuple [a,b] k2 pt2) pos.line X.env=pure false:=by rfl) (hw:swappedStores [.Tuple [.Name x p1,.Name y p2] k tp] (.Tuple [a,b] k2 pt2) X.env=pure none:=by rfl)
  (h1:(assignEach [.Tuple [.Name x p1,.Name y p2] k tp] X.env).map (·.2)=[assign (.Tuple [.Name x p1,.Name y p2] k tp) X.env]:=by rfl) :
  FS X F (.Assign [.Tuple [.Name x p1,.Name y p2] k tp] (.Tuple [a,b] k2 pt2) pos) (sAsg (gTup [i,j]) (eTup gs)) :=
 sW (vP ha) (wA [i,j] bx.calm (eJ (fg hN hi hx hfx) (eJ (fg hN hj hy hfy) n3)) hn hst bx.K) hs hw h1
end
def eM2 (own:Nat)(cap:List Nat)(it:SS→R (List D))(i j:Nat)(e:SS→R D):SS→R D:=fun S=>(it S).bind fun ds =>
 cMap (fun d=>un2 d fun x y=>e (((blkS own cap S).set i (some (.val x))).set j (some (.val y)))) ds
theorem tj (f:D→D→R D):∀ ds:List D,cGo (fun d=>un2 d fun _ _=>.ok true) (fun d=>un2 d f) ds=cGo (fun _=>.ok true) (fun d=>un2 d f) ds
 | []=>rfl
 | d::ds=>by
  have ih:=tj f ds
  cases d with
  | tup xs =>
   match xs with
   | [a,b] =>
    have e1:un2 (.tup [a,b]) (fun _ _=>(R.ok true:R Bool))=.ok true:=rfl
    rw[cGo,cGo,e1,ih]
   | []=>rfl
   | [_]=>rfl
   | _::_::_::_=>rfl
  | _=>rfl
theorem Ai {own:Nat}{cap:List Nat}{it:SS→R (List D)}{i j:Nat}{e:SS→R D}(S:SS):eC2 own cap it i j tTrue e S=eM2 own cap it i j e S:=by
 unfold eC2 eM2
 cases it S with
 | ok ds=>exact congrArg (fun r:R (List D)=>r.bind fun ys=>R.ok (FF.D.lst ys)) (tj _ ds)
 | err k=>rfl
 | stuck=>rfl
theorem AQ {X:Cx}{F:Fx}{e:Expr}{own:Nat}{cap:List Nat}{it:SS→R (List D)}{i j:Nat}{el:SS→R D}(h:FE X F e (eComp own cap it (gTup [i,j]) tTrue el)):FE X F e (eM2 own cap it i j el):=fu (AO h) fun S=>Ai S
end FF
end
noncomputable section
namespace FF
open PySem PySem.Spec PyProof.Rows L2
def capB (XN:List Str)(scope:Scope)(N:List Str)(own:Nat):Nat→List Nat→Bool
 | _,[]=>true
 | j,i::r=>(match N[own+j]?,XN[i]? with
  | some x,some y=>x==y&&scope.names.lookup x==some .free
  | _,_=>false)&&capB XN scope N own (j+1) r
def blkB (XN:List Str)(osc scope:Scope)(N:List Str)(own:Nat)(cap:List Nat):Bool :=
 scope.kind==.function&&(scope.names.all fun y=>scope.names.lookup y.1==some y.2)&&(scope.names.all fun y=>!(y.2==.free)||(osc.names.lookup y.1==some .cell||osc.names.lookup y.1==some .free))&&N.length==own+cap.length&&capB XN scope N own 0 cap
theorem tm {XN:List Str}{scope:Scope}{N:List Str}{own:Nat}:∀ {cap:List Nat} {k:Nat},capB XN scope N own k cap=true→∀ j i,cap[j]?=some i→∃ x,N[own+(k+j)]?=some x∧XN[i]?=some x∧scope.names.lookup x=some .free
 | [],_,_,j,i,e=>by simp at e
 | c::r,k,h,j,i,e=>by
  unfold capB at h
  rw[Bool.and_eq_true]at h
  cases j with
  | zero =>
   simp only[List.getElem?_cons_zero,Option.some.injEq]at e
   subst e
   have h1:=h.1
   split at h1
   ·rename_i x y e1 e2
    rw[Bool.and_eq_true]at h1
    have:=eq_of_beq h1.1
    subst this
    exact⟨x,by rw[Nat.add_zero];exact e1,e2,eq_of_beq h1.2⟩
   ·cases h1
  | succ j =>
   obtain⟨x,a,b⟩:=tm h.2 j i (by simpa using e)
   exact⟨x,by rw[← a];congr 1;omega,b⟩
theorem BlkOk.of {XN:List Str}{osc scope:Scope}{N:List Str}{own:Nat}{cap:List Nat}(h:blkB XN osc scope N own cap=true):BlkOk XN osc scope N own cap:=by
 unfold blkB at h
 simp only[Bool.and_eq_true,List.all_eq_true]at h
 obtain⟨⟨⟨⟨h1,h2⟩,h3⟩,h4⟩,h5⟩:=h
 have look:∀ y∈scope.names,scope.names.lookup y.1=some y.2:=fun y hy=>eq_of_beq (h2 y hy)
 refine⟨eq_of_beq h1,fun y hy e=>by rw[look y hy,e],fun y hy e=>by rw[look y hy,e],fun y hy e=>by rw[look y hy,e],fun y hy e=>?_,eq_of_beq h4,fun j i e=>?_⟩
 ·have:=h3 y hy
  rw[e]at this
  simp only[beq_self_eq_true,Bool.not_true,Bool.false_or,Bool.or_eq_true]at this
  rcases this with z | z
  ·exact .inl (eq_of_beq z)
  ·exact .inr (eq_of_beq z)
 ·have:=tm h5 j i e
  rw[Nat.zero_add]at this
  exact this
end FF
end
noncomputable section
namespace FF
open PySem PySem.Spec PyProof.Rows L2
section
variable {X:Cx}{F:Fx}{o e:Expr}{g:SS→R D}{gs:List (SS→R D)}{apos cpos:Pos}{k:Nat}
end
end FF
end
noncomputable section
namespace FF
open PySem PySem.Spec PyProof.Rows L2
def OkD (P:Program)(w:World)(K:PySem.W.Frag)(mg:Str→Option Value)(base:Heap)(C:Nat→Addr)(k:Nat)(x:Str)(st:Stmt)(ps:List Str)(fn:List D→R D):Prop :=
 ∀ {f:Addr} {fd:FuncData},Fun K x x st f fd→FnOk P w K mg base (CXE P w) (k+1) f fd ps (spF K C ps.length fn)
def OkB (P:Program)(w:World)(K:PySem.W.Frag)(mg:Str→Option Value)(base:Heap)(C:Nat→Addr)(k:Nat)(N:List Str)(x:Str)(st:Stmt)(ds:List D)(l:L Unit):Prop :=
 ∀ (f:Addr) (cdv:Value) (A:Around) (outer:List Env) (s:Shared) (H Z:Hp) (E:XK),BX (bodyX P w K mg base N x (defScope st) f cdv A outer s H E) ⟨K,C,H,Z,E⟩ k →
  PassesOwn (model P w) (bodyX P w K mg base N x (defScope st) f cdv A outer s H E).A (bodyX P w K mg base N x (defScope st) f cdv A outer s H E).env (bodyX P w K mg base N x (defScope st) f cdv A outer s H E).xe →
  MadeX (bodyX P w K mg base N x (defScope st) f cdv A outer s H E) ⟨K,C,H,Z,E⟩→FL (bodyX P w K mg base N x (defScope st) f cdv A outer s H E) ⟨K,C,H,Z,E⟩ (startS N.length ds) (defBody st) JU l
theorem mkSc {N ps:List Str}{sc:Scope}(a:sc.kind=.function:=by rfl)(b:sc.isCoroutine=false:=by rfl)(c:sc.isGenerator=false:=by rfl)(d:N.Nodup:=by decide +kernel)(e:N.take ps.length=ps:=by rfl)
  (f:∀ x∈ps,sc.names.lookup x=some .local∨sc.names.lookup x=some .cell:=by decide +kernel) (g:∀ y∈sc.names,y.2≠.free:=by decide +kernel):FnScope N ps sc:=⟨a,b,c,d,e,f,g⟩
section
variable {P:Program}{w:World}{K:PySem.W.Frag}{mg:Str→Option Value}{base:Heap}{C:Nat→Addr}{k:Nat}{N ps:List Str}{x:Str}{st:Stmt}
theorem okd {fn:List D→R D}(S:FnScope N ps (defScope st))(h:∀ ds,ds.length=ps.length→∃ l,fn ds=outL l∧OkB P w K mg base C k N x st ds l):OkD P w K mg base C k x st ps fn:=fun F =>
 yl F S fun cdv A outer s H Z E bx hp md ds hl=>by
  obtain⟨l,e,o⟩:=h ds hl
  exact⟨l,e,o _ cdv A outer s H Z E bx hp md⟩
theorem ok1 {p:Str}{c:D→L Unit}(S:FnScope N [p] (defScope st))(h:∀ a,OkB P w K mg base C k N x st [a] (c a)):OkD P w K mg base C k x st [p] (a1 c):=okd S fun ds hl=>by obtain⟨a,rfl⟩:=len1 hl;exact⟨c a,rfl,h a⟩
theorem ok2 {p q:Str}{c:D→D→L Unit}(S:FnScope N [p,q] (defScope st))(h:∀ a b,OkB P w K mg base C k N x st [a,b] (c a b)):OkD P w K mg base C k x st [p,q] (a2 c):=okd S fun ds hl=>by obtain⟨a,b,rfl⟩:=len2 hl;exact⟨c a b,rfl,h a b⟩
theorem ok3 {p q r:Str}{c:D→D→D→L Unit}(S:FnScope N [p,q,r] (defScope st))(h:∀ a b d,OkB P w K mg base C k N x st [a,b,d] (c a b d)):OkD P w K mg base C k x st [p,q,r] (a3 c):=okd S fun ds hl=>by obtain⟨a,b,d,rfl⟩:=len3 hl;exact⟨c a b d,rfl,h a b d⟩
theorem ok4 {p q r s:Str}{c:D→D→D→D→L Unit}(S:FnScope N [p,q,r,s] (defScope st))(h:∀ a b d e,OkB P w K mg base C k N x st [a,b,d,e] (c a b d e)):OkD P w K mg base C k x st [p,q,r,s] (a4 c):=okd S fun ds hl=>by obtain⟨a,b,d,e,rfl⟩:=len4 hl;exact⟨c a b d e,rfl,h a b d e⟩
theorem ok5 {p q r s t:Str}{c:D→D→D→D→D→L Unit}(S:FnScope N [p,q,r,s,t] (defScope st))(h:∀ a b d e f,OkB P w K mg base C k N x st [a,b,d,e,f] (c a b d e f)):OkD P w K mg base C k x st [p,q,r,s,t] (a5 c):=okd S fun ds hl=>by obtain⟨a,b,d,e,f,rfl⟩:=len5 hl;exact⟨c a b d e f,rfl,h a b d e f⟩
structure Fd (K:PySem.W.Frag)(mg:Str→Option Value)(x:Str)(ps:List Str)(st:Stmt):Prop where
 ex:∃ a fd,Fun K x x st a fd∧mg x=some (.ref a)∧Binds K fd ps []
theorem pY {f:Addr}{fd:FuncData}{n:Nat}:FnOk P w K mg base (CXE P w) k f fd ps (spF K C n fun _=>.stuck) :=
 ⟨fun vs H Q E h=>by obtain⟨_,_,_,_,_,z⟩:=h;exact z.elim,fun A outer s H args us vs Q E _ _ _ _ h=>by obtain⟨_,_,_,_,_,z⟩:=h;exact z.elim⟩
theorem fY {i:Nat}(F:Fd K mg x ps st)(hf:mg x=some (.ref (C i))):FnV P w K mg base C 0 i fun _=>.stuck:=by
 obtain⟨a,fd,F,h,b⟩:=F.ex
 rw[hf]at h
 cases h
 exact⟨fd,ps,pY,F.kp,b,fun _ _=>rfl⟩
theorem fZ {i:Nat}{fn:List D→R D}(F:Fd K mg x ps st)(hf:mg x=some (.ref (C i)))(ok:OkD P w K mg base C k x st ps fn)(hl:∀ ds,ds.length≠ps.length→fn ds=.stuck):FnV P w K mg base C (k+1) i fn:=by
 obtain⟨a,fd,F,h,b⟩:=F.ex
 rw[hf]at h
 cases h
 exact⟨fd,ps,ok F,F.kp,b,hl⟩
theorem g0 (F:Fd K mg x ps st):Fn1 P w K mg base C 0 x ps (fun _=>.stuck):=by obtain⟨a,fd,F,h,b⟩:=F.ex;exact⟨a,fd,pY,h,F.kp,b⟩
theorem g1 {fn:List D→R D}(F:Fd K mg x ps st)(ok:OkD P w K mg base C k x st ps fn):Fn1 P w K mg base C (k+1) x ps fn:=by obtain⟨a,fd,F,h,b⟩:=F.ex;exact⟨a,fd,ok F,h,F.kp,b⟩
section
variable {h:Heap}{f:Addr}{oc:Value}{od an:Option Addr}{osl:Array (Option Value)}{kV doc pm cdv ct:Value}
theorem AR (X:K.In h)(G:h.Ns mainGlobals mg)(hb:∀ (kV doc pm:Value) (an:Option Addr) (cdv ct:Value) (us:List Value),us.length=ps.length→bindArgs (PySem.W.fnOf x x (defArgs st) (defBody st) (defScope st) .none kV doc pm an cdv ct) ⟨us,[]⟩=pure (ps.zip us))
  (a:PySem.W.nsIn K mainGlobals x=some (some (.ref f))) (l:K.lookup f=some ⟨oc,od,.func (PySem.W.fnOf x x (defArgs st) (defBody st) (defScope st) .none kV doc pm an cdv ct),osl⟩) (c:PySem.W.codeIn K cdv x=true) (k:PySem.W.keepIn K (.ref f)=true):Fd K mg x ps st :=
 ⟨f,_,rj l c k,PySem.W.mg_of X G a,(rj l c k).binds hb⟩
end
theorem ln1 {us:List Value}(h:us.length=1):∃ a,us=[a]:=match us,h with | [a],_=>⟨a,rfl⟩
theorem ln2 {us:List Value}(h:us.length=2):∃ a b,us=[a,b]:=match us,h with | [a,b],_=>⟨a,b,rfl⟩
theorem ln3 {us:List Value}(h:us.length=3):∃ a b c,us=[a,b,c]:=match us,h with | [a,b,c],_=>⟨a,b,c,rfl⟩
theorem ln4 {us:List Value}(h:us.length=4):∃ a b c d,us=[a,b,c,d]:=match us,h with | [a,b,c,d],_=>⟨a,b,c,d,rfl⟩
end
abbrev Ng (K:PySem.W.Frag)(x:Str)(v:Option Value):Prop:=PySem.W.nsIn K mainGlobals x=some v
theorem aA {K:PySem.W.Frag}{n c:Addr}{b:Bool}{cd:ClassData}(hd:PySem.W.clsIn K c=some cd)(hy:PySem.W.typeIn K (.ref c)=some (.type "type"))(hs:PySem.W.subIn K (.ref n) (.ref c)=some b)(hn:PySem.W.subIn K (.ref n) (.ref n)=some true):PySem.W.kitOne K (.ref n) (.ref c)=some b:=by
 unfold PySem.W.kitOne
 by_cases e:n=c
 ·subst e
  rw[hn]at hs
  rw[if_pos (by simp)]
  exact hs
 ·rw[if_neg (by simpa using e)]
  show (if ((PySem.W.clsIn K c).isSome&&PySem.W.typeIn K (.ref c)==some (.type "type"))=true then PySem.W.subIn K (.ref n) (.ref c) else none)=some b
  rw[hd,hy,if_pos (by simp)]
  exact hs
theorem oz {K:PySem.W.Frag}{n:Addr}(hs:PySem.W.subIn K (.ref n) (.type "ValueError")=some true):PySem.W.kitOne K (.ref n) (.type "ValueError")=some true:=by
 unfold PySem.W.kitOne
 rw[if_neg (by simp)]
 show (if PySem.W.kitMeta "ValueError"=true then PySem.W.subIn K (.ref n) (.type "ValueError") else none)=some true
 rw[if_pos (by decide +kernel)]
 exact hs
theorem tq {K:PySem.W.Frag}{C:Nat→Addr}{Z:Hp}:∀ ns:List Int,Reps K C Z (ns.map .int) (ns.map V.int)
 | []=>by rw[List.map_nil,List.map_nil,Reps]
 | i::ns=>by rw[List.map_cons,List.map_cons,Reps];exact⟨_,_,rfl,aI,tq ns⟩
end FF
end
noncomputable section
namespace Lw
open PySem FF
def esL:List Nat:=[1,4,5,7]
namespace F
abbrev a4:Nat:=20
abbrev aA:Nat:=21
abbrev ba:Nat:=22
abbrev aR:Nat:=23
abbrev az:Nat:=24
abbrev aE:Nat:=25
abbrev au:Nat:=26
abbrev ax:Nat:=105
abbrev aT:Nat:=43
abbrev a5:Nat:=27
abbrev af:Nat:=28
abbrev aS:Nat:=45
abbrev aZ:Nat:=49
abbrev aQ:Nat:=50
abbrev aK:Nat:=188
abbrev aF:Nat:=146
abbrev aO:Nat:=147
abbrev aG:Nat:=148
abbrev aw:Nat:=149
abbrev aY:Nat:=150
abbrev aH:Nat:=151
abbrev aP:Nat:=152
abbrev aq:Nat:=153
abbrev bc:Nat:=154
abbrev a6:Nat:=155
abbrev ak:Nat:=158
abbrev ad:Nat:=159
abbrev ac:Nat:=160
abbrev bd:Nat:=161
abbrev a0:Nat:=72
abbrev bi:Nat:=75
abbrev ar:Nat:=230
abbrev a8:Nat:=231
abbrev ae:Nat:=232
abbrev ai:Nat:=246
abbrev aI:Nat:=233
abbrev aB:Nat:=234
abbrev ap:Nat:=236
abbrev bg:Nat:=237
abbrev a2:Nat:=247
abbrev ay:Nat:=251
abbrev aD:Nat:=252
abbrev ao:Nat:=253
abbrev aC:Nat:=254
abbrev al:Nat:=255
abbrev bj:Nat:=30
abbrev ah:Nat:=31
abbrev an:Nat:=32
abbrev aL:Nat:=54
abbrev aX:Nat:=55
abbrev bb:Nat:=56
abbrev bf:Nat:=57
abbrev aU:Nat:=34
abbrev bh:Nat:=35
abbrev be:Nat:=36
abbrev aj:Nat:=37
abbrev av:Nat:=39
abbrev aW:Nat:=38
abbrev ag:Nat:=239
abbrev a1:Nat:=238
abbrev ab:Nat:=240
abbrev a7:Nat:=241
abbrev aJ:Nat:=242
abbrev aV:Nat:=40
abbrev aa:Nat:=256
abbrev aM:Nat:=257
abbrev aN:Nat:=258
abbrev a9:Nat:=259
abbrev a3:Nat:=260
end F
def fvL:List Nat:=[21,146,147,148,149,150,151,152,153,230,234,251]
def fz:List (Str×Nat):=[("first",F.aF),("last",F.aO),("least",F.aG),("greatest",F.aw),("sum",F.aY),("times",F.aH),("less",F.aP),("same",F.aq)]
def iH (t:Nat→List D→R D)(thing:D):L Unit :=
 lB (vAnd (dIsA qInt thing) (vNot (dIsA qBool thing))) .rt
def fA (t:Nat→List D→R D)(thing:D):L Unit :=
 lB (vAnd (t F.a4 [thing]) (rCh dLe dLe (.int 0) thing (.ok (.int 9)))) .rt
def hV (t:Nat→List D→R D)(thing:D):L Unit :=
 lB (vAnd (t F.a4 [thing]) (rCh dLe dLe (.int 0) thing (.ok (.int 3)))) .rt
def eR (t:Nat→List D→R D)(size_:D)(thing:D)(is_end:D):L Unit :=
 lS (lB (σ:=Unit) (rNot (asB (dIsA qTup thing))) fun b=>if b=true then lB (onF fvL is_end fun i=>t i [thing]) .rt else .nx ()) fun _ =>
 lS (lB (σ:=Unit) (rOr (asB (dEq size_ (.int 0))) (asB ((dLen [thing]).bind fun x=>dNf x (.int 4)))) fun b1=>if b1=true then .rt (.bl false) else .nx ()) fun _ =>
 lB (((sq thing).bind fun xs=>cMap (fun part=>(dSub size_ (.int 1)).bind fun x1=>t F.aR [x1,part,is_end]) xs).bind fun x2=>dAll [x2]) .rt
def b7 (t:Nat→List D→R D)(thing:D)(is_end:D):L Unit :=
 lS (lB (σ:=Unit) (rOr (rNot (asB (dIsA qTup thing))) (asB ((dLen [thing]).bind fun x=>dNf x (.int 2)))) fun b=>if b=true then .rt (.bl false) else .nx ()) fun _ =>
 lB (vAnd ((dIx thing (.int 0)).bind fun x3=>t F.ba [x3]) ((dIx thing (.int 0)).bind fun x1=>(dIx thing (.int 1)).bind fun x2=>t F.aR [x1,x2,is_end])) .rt
def cm (t:Nat→List D→R D)(four:D):L Unit :=
 lB (dIx four (.int 0)) fun first =>
 lS (lB (σ:=Unit) (rAnd (rNot (asB (dIsA qTup first))) (asB (dEq four (.tup [first,first,first,first])))) fun b=>if b=true then .rt first else .nx ()) fun _ =>
 .rt four
def cP (t:Nat→List D→R D)(tree_:D):L Unit :=
 lS (lB (σ:=Unit) (rNot (asB (dIsA qTup tree_))) fun b=>if b=true then .rt tree_ else .nx ()) fun _ =>
 lB ((((sq tree_).bind fun xs=>cMap (fun part=>t F.au [part]) xs).bind fun x=>dTuple [x]).bind fun x1=>t F.aE [x1]) .rt
def cM (t:Nat→List D→R D)(tree_:D):L Unit :=
 lS (lB (σ:=Unit) (asB (dIsA qTup tree_)) fun b=>if b=true then .rt tree_ else .nx ()) fun _ =>
 .rt (.tup [tree_,tree_,tree_,tree_])
def dB (t:Nat→List D→R D)(tree_:D)(side:D)(x:D)(y:D):L Unit :=
 lS (lB (σ:=Unit) (rNot (asB (dIsA qTup tree_))) fun b=>if b=true then .rt tree_ else .nx ()) fun _ =>
 lB (dDiv side (.int 2)) fun half =>
 lB (((dDiv y half).bind fun x1=>dMul (.int 2) x1).bind fun x2=>(dDiv x half).bind fun x3=>dAdd x2 x3) fun number =>
 lB ((dIx tree_ number).bind fun x4=>(dMod x half).bind fun x5=>(dMod y half).bind fun x6=>t F.aT [x4,half,x5,x6]) .rt
def db (t:Nat→List D→R D)(thing:D):L Unit :=
 lB (t F.az [thing,(.fn F.aA)]) .rt
def b8 (t:Nat→List D→R D)(thing:D):L Unit :=
 lB (rNot (asB (t F.a5 [thing]))) fun b=>if b=true then .er 1 else .nx ()
def eT (t:Nat→List D→R D)(picture:D):L Unit :=
 lB ((dIx picture (.int 0)).bind fun x=>dIx (tupI [1,2,4,8]) x) .rt
def dR (t:Nat→List D→R D)(picture:D)(y:D):L Unit :=
 lB (t F.aS [picture]) fun side =>
 lB (((rng1 [side]).bind fun xs=>cMap (fun x=>(dIx picture (.int 1)).bind fun x1=>t F.aT [x1,side,x,y]) xs).bind fun x2=>dTuple [x2]) .rt
def dc (t:Nat→List D→R D)(picture:D):L Unit :=
 lB (t F.af [picture]) fun _ =>
 lB ((((t F.aS [picture]).bind fun x=>rng1 [x]).bind fun xs=>cMap (fun y=>t F.aZ [picture,y]) xs).bind fun x1=>dTuple [x1]) .rt
def gq (t:Nat→List D→R D)(left:D)(top:D)(half:D)(told:List D)(number:D)(part:D):L (List D) :=
 lB (((((dMod number (.int 2)).bind fun x=>dMul x half).bind fun x1=>dAdd left x1).bind fun x2=>(((dDiv number (.int 2)).bind fun x3=>dMul x3 half).bind fun x4=>dAdd top x4).bind fun x5=>t F.aK [part,x2,x5,half]).bind fun x6=>oExt told x6) fun told1 =>
 .nx told1
def cQ (t:Nat→List D→R D)(tree_:D)(left:D)(top:D)(side:D):L Unit :=
 lS (lB (σ:=Unit) (rNot (asB (dIsA qTup tree_))) fun b=>if b=true then .rt (.lst [(.tup [left,top,side,tree_])]) else .nx ()) fun _ =>
 lB (dDiv side (.int 2)) fun half =>
 lS (lB (dEnum tree_) fun xs=>lFor (τ:=List D) (fun s p=>lUn2 p fun x0 x1=>gq t left top half s x0 x1) xs []) fun told1 =>
 .rt (.lst told1)
def ir (t:Nat→List D→R D)(one:D)(other:D):L Unit :=
 .rt one
def jc (t:Nat→List D→R D)(one:D)(other:D):L Unit :=
 .rt other
def iu (t:Nat→List D→R D)(one:D)(other:D):L Unit :=
 lB (dMin2 [one,other]) .rt
def eU (t:Nat→List D→R D)(one:D)(other:D):L Unit :=
 lB (dMax2 [one,other]) .rt
def ko (t:Nat→List D→R D)(one:D)(other:D):L Unit :=
 lB ((dAdd one other).bind fun x=>dMod x (.int 10)) .rt
def iv (t:Nat→List D→R D)(one:D)(other:D):L Unit :=
 lB ((dMul one other).bind fun x=>dMod x (.int 10)) .rt
def jd (t:Nat→List D→R D)(one:D)(other:D):L Unit :=
 lB ((dSub one other).bind fun x=>dAbs [x]) .rt
def de (t:Nat→List D→R D)(one:D)(other:D):L Unit :=
 lB (rIf (asB (dEq one other)) (.ok (.int 1)) (.ok (.int 0))) .rt
def df (t:Nat→List D→R D)(thing:D)(words:D):L Unit :=
 lB (asB (dNotInD thing words)) fun b=>if b=true then .er 5 else .nx ()
def dg (t:Nat→List D→R D)(thing:D):L Unit :=
 lB (t F.bc [thing,(tabK fz)]) fun _ =>
 .nx ()
def bN (t:Nat→List D→R D)(things:D)(thing:D):L (Unit) :=
 lB (asB ((dIx thing (.int 0)).bind fun x=>((dIx things (.int 0)).bind fun x1=>dIx x1 (.int 0)).bind fun x2=>dNf x x2)) fun b=>if b=true then .er 4 else .nx ()
def bV (t:Nat→List D→R D)(things:D):L Unit :=
 lS (lB (sq things) fun xs=>lFor (τ:=Unit) (fun _ x=>bN t things x) xs ()) fun _ =>
 .nx ()
def aN (t:Nat→List D→R D)(picture:D):L (Unit) :=
 lB (t F.af [picture]) fun _ =>
 .nx ()
def aP (t:Nat→List D→R D)(pictures:D):L Unit :=
 lS (lB (sq pictures) fun xs=>lFor (τ:=Unit) (fun _ x=>aN t x) xs ()) fun _ =>
 lB (t F.ak [pictures]) fun _ =>
 .nx ()
def bj (t:Nat→List D→R D)(make:D)(one:D)(other:D):L Unit :=
 lS (lB (σ:=Unit) (rAnd (rNot (asB (dIsA qTup one))) (rNot (asB (dIsA qTup other)))) fun b=>if b=true then lB (onF fvL make fun i=>t i [one,other]) .rt else .nx ()) fun _ =>
 lB (((t F.ax [one]).bind fun x=>(t F.ax [other]).bind fun x1=>dZip x x1).bind fun zs=>.ok (.lst zs)) fun couples =>
 lB ((((sq couples).bind fun xs=>cMap (fun couple=>(dIx couple (.int 0)).bind fun x2=>(dIx couple (.int 1)).bind fun x3=>t F.ac [make,x2,x3]) xs).bind fun x4=>dTuple [x4]).bind fun x5=>t F.aE [x5]) .rt
def gr (t:Nat→List D→R D)(rule:D)(one:D)(other:D):L Unit :=
 lB (t F.a6 [rule]) fun _ =>
 lB (t F.ad [(.lst [one,other])]) fun _ =>
 lB ((dIx one (.int 0)).bind fun x=>((dTab fz rule).bind fun x1=>(dIx one (.int 1)).bind fun x2=>(dIx other (.int 1)).bind fun x3=>t F.ac [x1,x2,x3]).bind fun x4=>.ok (.tup [x,x4])) .rt
def dC (t:Nat→List D→R D)(worths:List D)(row:D):L (List D) :=
 lB (oExt worths row) fun worths1 =>
 .nx worths1
def dS (t:Nat→List D→R D)(rows:D):L Unit :=
 lS (lB (sq rows) fun xs=>lFor (τ:=List D) (fun s x=>dC t s x) xs []) fun worths1 =>
 .rt (.lst worths1)
def je (t:Nat→List D→R D)(picture:D):L Unit :=
 lB ((t F.aQ [picture]).bind fun x=>t F.a0 [x]) fun worths =>
 lB ((((dAdd (.int 9) (.int 1)).bind fun x1=>rng1 [x1]).bind fun xs=>cMap (fun worth=>onL worths fun ls=>dCountI ls [worth]) xs).bind fun x2=>dTuple [x2]) .rt
def dh (t:Nat→List D→R D)(thing:D):L Unit :=
 lB (vOr (dIs thing .non) (t F.aA [thing])) .rt
def dU (t:Nat→List D→R D)(thing:D):L Unit :=
 lB (t F.az [thing,(.fn F.ar)]) .rt
def cn (t:Nat→List D→R D)(thing:D):L Unit :=
 lB (rNot (asB (t F.a8 [thing]))) fun b=>if b=true then .er 7 else .nx ()
def aT (t:Nat→List D→R D)(one:D)(other:D):L Unit :=
 lB (t F.ae [one]) fun _ =>
 lB (t F.ae [other]) fun _ =>
 lB (t F.ak [(.lst [one,other])]) fun _ =>
 .nx ()
def bW (t:Nat→List D→R D)(change:D):L Unit :=
 lB (t F.ae [change]) fun _ =>
 lB ((dIx change (.int 0)).bind fun x=>((dIx change (.int 1)).bind fun x1=>t F.au [x1]).bind fun x2=>.ok (.tup [x,x2])) .rt
def fB (t:Nat→List D→R D)(one:D)(other:D):L Unit :=
 lB (rIf (asB (dIs other .non)) (.ok one) (.ok other)) .rt
def aS (t:Nat→List D→R D)(one:D)(other:D):L Unit :=
 lS (lB (σ:=Unit) (asB (dEq one other)) fun b=>if b=true then .rt .non else .nx ()) fun _ =>
 lS (lB (σ:=Unit) (rNot (asB (dIsA qTup other))) fun b1=>if b1=true then .rt other else .nx ()) fun _ =>
 lB (t F.ax [one]) fun parts_ =>
 lB (((rng1 [(.int 4)]).bind fun xs=>cMap (fun number=>(dIx parts_ number).bind fun x=>(dIx other number).bind fun x1=>t F.ap [x,x1]) xs).bind fun x2=>dTuple [x2]) .rt
def hZ (t:Nat→List D→R D)(one:D)(other:D):L Unit :=
 lB (t F.ad [(.lst [one,other])]) fun _ =>
 lB ((dIx one (.int 0)).bind fun x=>(((dIx one (.int 1)).bind fun x1=>t F.au [x1]).bind fun x2=>((dIx other (.int 1)).bind fun x3=>t F.au [x3]).bind fun x4=>t F.ap [x2,x4]).bind fun x5=>.ok (.tup [x,x5])) .rt
def jf (t:Nat→List D→R D)(one:D)(other:D):L Unit :=
 lB (t F.ai [one,other]) fun _ =>
 lB ((dIx one (.int 0)).bind fun x=>((dIx one (.int 1)).bind fun x1=>(dIx other (.int 1)).bind fun x2=>t F.ac [(.fn F.aB),x1,x2]).bind fun x3=>.ok (.tup [x,x3])) .rt
def cN (t:Nat→List D→R D)(one:D)(other:D):L Unit :=
 lB (rIf (rOr (asB (dIs one .non)) (asB (dIs other .non))) (.ok (.int 0)) (.ok (.int 1))) .rt
def cR (t:Nat→List D→R D)(one:D)(other:D):L Unit :=
 lB (t F.ai [one,other]) fun _ =>
 lB (((dIx one (.int 1)).bind fun x=>(dIx other (.int 1)).bind fun x1=>t F.ac [(.fn F.ay),x,x1]).bind fun x2=>dEq x2 (.int 0)) .rt
def bX (t:Nat→List D→R D)(change:D):L Unit :=
 lB (((t F.aI [change]).bind fun x=>dIx x (.int 1)).bind fun x1=>(t F.aS [change]).bind fun x2=>t F.aK [x1,(.int 0),(.int 0),x2]) fun squares =>
 lB ((sq squares).bind fun xs=>cFil (fun square=>(asB ((dIx square (.int 3)).bind fun x3=>dIsNot x3 .non))) (fun square=>.ok square) xs) .rt
def dD (t:Nat→List D→R D)(change:D):L Unit :=
 lB ((((t F.ao [change]).bind fun x=>sq x).bind fun xs=>cMap (fun square=>(dIx square (.int 2)).bind fun x1=>(dIx square (.int 2)).bind fun x2=>dMul x1 x2) xs).bind fun x3=>dSum [x3]) .rt
def bw (t:Nat→List D→R D)(one:D)(other:D):L Unit :=
 lB (((t F.bd [(.str "same"),one,other]).bind fun x=>t F.bi [x]).bind fun x1=>dIx x1 (.int 0)) .rt
def jg (t:Nat→List D→R D)(A1:D)(Bb:D):L Unit :=
 lS (lB (σ:=Unit) (asB ((dLen [A1]).bind fun x=>dLt Bb x)) fun b=>if b=true then lB (dIx A1 Bb) .rt else .nx ()) fun _ =>
 lS (lB (σ:=Unit) (asB (dEq A1 (.lst []))) fun b1=>if b1=true then .rt (.int 0) else .nx ()) fun _ =>
 lB (((((dLen [A1]).bind fun x1=>dMod Bb x1).bind fun x2=>dIx A1 x2).bind fun x3=>dMul x3 (.int 31)).bind fun x4=>dAdd x4 Bb) .rt
def jh (t:Nat→List D→R D)(A1:D)(Bb:D)(BY:D):L Unit :=
 lB ((((t F.bj [A1,Bb]).bind fun x=>((dAdd Bb (.int 1)).bind fun x1=>dMul (.int 6151) x1).bind fun x2=>dAdd x x2).bind fun x3=>dMul x3 (.int 40692)).bind fun x4=>dMod x4 (.int 2147483399)) fun BH =>
 lB ((((dMul BH BH).bind fun x5=>(dDiv BH (.int 31)).bind fun x6=>dAdd x5 x6).bind fun x7=>dMod x7 (.int 2147483629)).bind fun x8=>dMod x8 BY) .rt
def gu (t:Nat→List D→R D)(A1:D)(Bn:D)(A2:D):L Unit :=
 lB (t F.ah [A1,Bn,(.int 6)]) fun Bv =>
 lS (lB (σ:=Unit) (rOr (asB (dEq A2 (.int 0))) (asB (dLt Bv (.int 2)))) fun b=>if b=true then lB ((((dAdd Bn (.int 1)).bind fun x=>t F.ah [A1,x,(.int 10)]).bind fun x1=>.ok (.lst [(.int 0),(.int 1),(.int 1),(.int 2),(.int 9),x1])).bind fun x2=>((dAdd Bn (.int 2)).bind fun x3=>t F.ah [A1,x3,(.int 6)]).bind fun x4=>dIx x2 x4) .rt else .nx ()) fun _ =>
 lS (lB (σ:=Unit) (asB (dEq Bv (.int 2))) fun b1=>if b1=true then lB ((((dAdd Bn (.int 3)).bind fun x5=>(dSub A2 (.int 1)).bind fun x6=>t F.an [A1,x5,x6]).bind fun x7=>.ok (.tup [x7])).bind fun x8=>dMul x8 (.int 4)) .rt else .nx ()) fun _ =>
 lB (((rng1 [(.int 4)]).bind fun xs=>cMap (fun Bb=>(((dMul (.int 5) Bn).bind fun x9=>dAdd x9 (.int 7)).bind fun x10=>(dMul (.int 11) Bb).bind fun x11=>dAdd x10 x11).bind fun x12=>(dSub A2 (.int 1)).bind fun x13=>t F.an [A1,x12,x13]) xs).bind fun x14=>dTuple [x14]) .rt
def dE (t:Nat→List D→R D)(A9:D)(Bi:List D)(BE:D):L (List D) :=
 lB (((((dIx A9 BE).bind fun x=>dLen [x]).bind fun x1=>rng1 [x1]).bind fun xs=>cMap (fun Bb=>((dIx A9 BE).bind fun x2=>dIx x2 Bb).bind fun x3=>(((dAdd BE (.int 1)).bind fun x4=>dIx A9 x4).bind fun x5=>dIx x5 Bb).bind fun x6=>dAdd x3 x6) xs).bind fun x7=>oExt Bi x7) fun Be =>
 .nx Be
def cS (t:Nat→List D→R D)(A2:D)(A4:D):L Unit :=
 lS (lB (σ:=Unit) (asB (dEq A2 (.int 0))) fun b=>if b=true then .rt (.lst [(.lst [A4])]) else .nx ()) fun _ =>
 lB (rIf (asB (dIsA qTup A4)) (.ok A4) (dMul (.tup [A4]) (.int 4))) fun A8 =>
 lB ((sq A8).bind fun xs=>cMap (fun Bc=>(dSub A2 (.int 1)).bind fun x=>t F.aL [x,Bc]) xs) fun A9 =>
 lS (lB (sq (.tup [(.int 0),(.int 2)])) fun xs2=>lFor (τ:=List D) (fun s x=>dE t A9 s x) xs2 []) fun Be =>
 .rt (.lst Be)
def ji (t:Nat→List D→R D)(Bz:D):L Unit :=
 lB (((((dIx Bz (.int 0)).bind fun x=>(dIx Bz (.int 1)).bind fun x1=>t F.aL [x,x1]).bind fun x2=>sq x2).bind fun xs=>cMap (fun Bo=>dTuple [Bo]) xs).bind fun x3=>dTuple [x3]) .rt
def di (t:Nat→List D→R D)(BN:List D)(Bo:D):L (List D) :=
 lB (oExt BN Bo) fun Bj =>
 .nx Bj
def fC (t:Nat→List D→R D)(A0:D)(Ba:D)(Bp:D)(A8:List D)(Bq:D):L (List D) :=
 lB ((((((asI Bp).bind fun i=>((dAdd Bp Ba).bind asI).bind fun i1=>dSw A0 i i1).bind fun x=>sq x).bind fun xs=>cMap (fun Bo=>(asI Bq).bind fun i2=>((dAdd Bq Ba).bind asI).bind fun i3=>dSw Bo i2 i3) xs).bind fun x1=>t F.bb [x1]).bind fun x2=>oApp A8 x2) fun BI =>
 .nx BI
def fD (t:Nat→List D→R D)(A0:D)(Ba:D)(A8:List D)(Bp:D):L (List D) :=
 lS (lB (sq (.tup [(.int 0),Ba])) fun xs1=>lFor (τ:=List D) (fun s x=>fC t A0 Ba Bp s x) xs1 A8) fun Bt =>
 .nx Bt
def eV (t:Nat→List D→R D)(A0:D):L Unit :=
 lS (lB (sq A0) fun xs=>lFor (τ:=List D) (fun s x=>di t s x) xs []) fun Bj =>
 lS (lB (σ:=Unit) (asB ((dLenSet [(.lst Bj)]).bind fun x1=>dEq x1 (.int 1))) fun b=>if b=true then lB (dIx (.lst Bj) (.int 0)) .rt else .nx ()) fun _ =>
 lB ((dLen [A0]).bind fun x2=>dDiv x2 (.int 2)) fun Ba =>
 lS (lB (sq (.tup [(.int 0),Ba])) fun xs3=>lFor (τ:=List D) (fun s x=>fD t A0 Ba s x) xs3 []) fun Bt =>
 lB (dTuple [(.lst Bt)]) .rt
def oA (t:Nat→List D→R D)(A0:D):L Unit :=
 lB ((onL (.lst [(.int 1),(.int 2),(.int 4),(.int 8)]) fun ls=>(dLen [A0]).bind fun x=>dIndexI ls [x]).bind fun x1=>(t F.bb [A0]).bind fun x2=>.ok (.tup [x1,x2])) .rt
def eg (t:Nat→List D→R D)(A3:D)(Bi:List D)(Bb:D):L (List D) :=
 lB (((((dIx A3 Bb).bind fun x=>t F.aU [x]).bind fun x1=>sq x1).bind fun xs=>cMap (fun Bf=>dAdd (.tup [Bb]) Bf) xs).bind fun x2=>oExt Bi x2) fun Be =>
 .nx Be
def dF (t:Nat→List D→R D)(A3:D):L Unit :=
 lS (lB (σ:=List D) (asB (dIsA qTup A3)) fun b=>if b=true then lS (lB ((dLen [A3]).bind fun x=>rng1 [x]) fun xs1=>lFor (τ:=List D) (fun s x=>eg t A3 s x) xs1 [(.tup [])]) fun Be =>
 .nx Be else .nx [(.tup [])]) fun BL =>
 .rt (.lst BL)
def jj (t:Nat→List D→R D)(A3:D)(Bf:D)(BC:D):L Unit :=
 lS (lB (σ:=Unit) (asB (dEq Bf (.tup []))) fun b=>if b=true then .rt BC else .nx ()) fun _ =>
 lB (dIx Bf (.int 0)) fun Bb =>
 lB ((((asI Bb).bind fun i=>dSw A3 none i).bind fun x=>(((dIx A3 Bb).bind fun x1=>(dSw Bf (some 1) none).bind fun x2=>t F.bh [x1,x2,BC]).bind fun x3=>.ok (.tup [x3])).bind fun x4=>dAdd x x4).bind fun x5=>(((dAdd Bb (.int 1)).bind asI).bind fun i1=>dSw A3 i1 none).bind fun x6=>dAdd x5 x6) .rt
def fE (t:Nat→List D→R D)(A3:D)(Bb:D):L (D) :=
 lB (dIx A3 Bb) fun BO =>
 .nx BO
def ia (t:Nat→List D→R D)(A3:D)(Bf:D):L Unit :=
 lS (lB (sq Bf) fun xs=>lFor (τ:=D) (fun s x=>fE t s x) xs A3) fun BZ =>
 .rt BZ
def bO (t:Nat→List D→R D)(A1:D)(Bn:D)(A3:D):L Unit :=
 lB (t F.aU [A3]) fun Bl =>
 lB (((dLen [Bl]).bind fun x=>t F.ah [A1,Bn,x]).bind fun x1=>dIx Bl x1) fun Bf =>
 lB (t F.be [A3,Bf]) fun BM =>
 lB (((dMul (.tup [BM]) (.int 4)).bind fun x2=>.ok (.lst [(.lst [(.int 1),(.int 2),(.int 3),(.int 4)]),x2])).bind fun x3=>oExt [(.int (-1)),(.int 0),(.int 3),(.int 4),(.int 9),(.int 10),(.bl true),.non,(.str "1"),(.tup []),(.tup [(.int 1),(.int 2),(.int 3)]),(.tup [(.int 1),(.int 1),(.int 1),(.int 1)]),(.tup [(.int 1),(.int 2),(.int 3),(.int 4),(.int 5)])] x3) fun A9 =>
 lB ((((dAdd Bn (.int 1)).bind fun x4=>t F.ah [A1,x4,(.int 15)]).bind fun x5=>oIx A9 x5).bind fun x6=>t F.bh [A3,Bf,x6]) .rt
def cT (t:Nat→List D→R D)(A3:D)(A2:D):L Unit :=
 lS (lB (σ:=Unit) (rAnd (asB (dIsA qInt A3)) (rNot (asB (dIsA qBool A3)))) fun b=>if b=true then lB (rCh dLe dLe (.int 0) A3 (.ok (.int 9))) .rt else .nx ()) fun _ =>
 lS (lB (σ:=Unit) (rOr (rNot (asB (dIsA qTup A3))) (rOr (asB ((dLen [A3]).bind fun x=>dNf x (.int 4))) (asB (dEq A2 (.int 0))))) fun b1=>if b1=true then .rt (.bl false) else .nx ()) fun _ =>
 lB (((sq A3).bind fun xs=>cFil (fun Bc=>(rNot (asB ((dSub A2 (.int 1)).bind fun x1=>t F.av [Bc,x1])))) (fun Bc=>.ok Bc) xs).bind fun x2=>dEq x2 (.lst [])) .rt
def cp (t:Nat→List D→R D)(A3:D):L Unit :=
 lS (lB (σ:=Unit) (rOr (rNot (asB (dIsA qTup A3))) (rOr (asB ((dLen [A3]).bind fun x2=>dNf x2 (.int 2))) (rOr (rNot (asB ((dIx A3 (.int 0)).bind fun x1=>dIsA qInt x1))) (asB ((dIx A3 (.int 0)).bind fun x=>dIsA qBool x))))) fun b=>if b=true then .rt (.bl false) else .nx ()) fun _ =>
 lB (vAnd ((dIx A3 (.int 0)).bind fun x5=>rCh dLe dLe (.int 0) x5 (.ok (.int 3))) ((dIx A3 (.int 1)).bind fun x3=>(dIx A3 (.int 0)).bind fun x4=>t F.av [x3,x4])) .rt
def aZ (t:Nat→List D→R D)(A3:D)(A2:D):L Unit :=
 lS (lB (σ:=Unit) (rOr (asB (dIs A3 .non)) (rAnd (asB (dIsA qInt A3)) (rAnd (rNot (asB (dIsA qBool A3))) (asB (rCh dLe dLe (.int 0) A3 (.ok (.int 9))))))) fun b=>if b=true then .rt (.bl true) else .nx ()) fun _ =>
 lS (lB (σ:=Unit) (rOr (rNot (asB (dIsA qTup A3))) (rOr (asB ((dLen [A3]).bind fun x=>dNf x (.int 4))) (asB (dEq A2 (.int 0))))) fun b1=>if b1=true then .rt (.bl false) else .nx ()) fun _ =>
 lB (((sq A3).bind fun xs=>cFil (fun Bc=>(rNot (asB ((dSub A2 (.int 1)).bind fun x1=>t F.ag [Bc,x1])))) (fun Bc=>.ok Bc) xs).bind fun x2=>dEq x2 (.lst [])) .rt
def cO (t:Nat→List D→R D)(A3:D):L Unit :=
 lS (lB (σ:=Unit) (rOr (rNot (asB (dIsA qTup A3))) (rOr (asB ((dLen [A3]).bind fun x2=>dNf x2 (.int 2))) (rOr (rNot (asB ((dIx A3 (.int 0)).bind fun x1=>dIsA qInt x1))) (asB ((dIx A3 (.int 0)).bind fun x=>dIsA qBool x))))) fun b=>if b=true then .rt (.bl false) else .nx ()) fun _ =>
 lB (vAnd ((dIx A3 (.int 0)).bind fun x5=>rCh dLe dLe (.int 0) x5 (.ok (.int 3))) ((dIx A3 (.int 1)).bind fun x3=>(dIx A3 (.int 0)).bind fun x4=>t F.ag [x3,x4])) .rt
def bz (t:Nat→List D→R D)(A1:D)(Bn:D)(A2:D):L Unit :=
 lB (t F.ah [A1,Bn,(.int 6)]) fun Bv =>
 lS (lB (σ:=Unit) (rOr (asB (dLt Bv (.int 2))) (rAnd (asB (dEq A2 (.int 0))) (asB (dLt Bv (.int 4))))) fun b=>if b=true then .rt .non else .nx ()) fun _ =>
 lS (lB (σ:=Unit) (rOr (asB (dEq A2 (.int 0))) (asB (dEq Bv (.int 2)))) fun b1=>if b1=true then lB ((((dAdd Bn (.int 1)).bind fun x=>t F.ah [A1,x,(.int 10)]).bind fun x1=>.ok (.lst [(.int 0),(.int 1),(.int 2),x1])).bind fun x2=>((dAdd Bn (.int 2)).bind fun x3=>t F.ah [A1,x3,(.int 4)]).bind fun x4=>dIx x2 x4) .rt else .nx ()) fun _ =>
 lB (((rng1 [(.int 4)]).bind fun xs=>cMap (fun Bb=>(((dMul (.int 5) Bn).bind fun x5=>dAdd x5 (.int 13)).bind fun x6=>(dMul (.int 11) Bb).bind fun x7=>dAdd x6 x7).bind fun x8=>(dSub A2 (.int 1)).bind fun x9=>t F.ab [A1,x8,x9]) xs).bind fun x10=>dTuple [x10]) .rt
def iI (t:Nat→List D→R D)(A9:D)(Bi:List D)(BE:D):L (List D) :=
 lB (((((dIx A9 BE).bind fun x=>dLen [x]).bind fun x1=>rng1 [x1]).bind fun xs=>cMap (fun Bb=>((dIx A9 BE).bind fun x2=>dIx x2 Bb).bind fun x3=>(((dAdd BE (.int 1)).bind fun x4=>dIx A9 x4).bind fun x5=>dIx x5 Bb).bind fun x6=>dAdd x3 x6) xs).bind fun x7=>oExt Bi x7) fun Be =>
 .nx Be
def jk (t:Nat→List D→R D)(A2:D)(A4:D):L Unit :=
 lS (lB (σ:=Unit) (asB (dEq A2 (.int 0))) fun b=>if b=true then .rt (.lst [(.lst [A4])]) else .nx ()) fun _ =>
 lB (rIf (asB (dIsA qTup A4)) (.ok A4) (dMul (.tup [A4]) (.int 4))) fun A8 =>
 lB ((sq A8).bind fun xs=>cMap (fun Bc=>(dSub A2 (.int 1)).bind fun x=>t F.a7 [x,Bc]) xs) fun A9 =>
 lS (lB (sq (.tup [(.int 0),(.int 2)])) fun xs2=>lFor (τ:=List D) (fun s x=>iI t A9 s x) xs2 []) fun Be =>
 .rt (.lst Be)
def bP (t:Nat→List D→R D)(BU:List D)(Bo:D):L (List D) :=
 lB (oExt BU Bo) fun Bk =>
 .nx Bk
def cH (t:Nat→List D→R D)(A0:D)(Ba:D)(Bp:D)(A8:List D)(Bq:D):L (List D) :=
 lB ((((((asI Bp).bind fun i=>((dAdd Bp Ba).bind asI).bind fun i1=>dSw A0 i i1).bind fun x=>sq x).bind fun xs=>cMap (fun Bo=>(asI Bq).bind fun i2=>((dAdd Bq Ba).bind asI).bind fun i3=>dSw Bo i2 i3) xs).bind fun x1=>t F.aJ [x1]).bind fun x2=>oApp A8 x2) fun BI =>
 .nx BI
def cI (t:Nat→List D→R D)(A0:D)(Ba:D)(A8:List D)(Bp:D):L (List D) :=
 lS (lB (sq (.tup [(.int 0),Ba])) fun xs1=>lFor (τ:=List D) (fun s x=>cH t A0 Ba Bp s x) xs1 A8) fun Bt =>
 .nx Bt
def bY (t:Nat→List D→R D)(A0:D):L Unit :=
 lS (lB (sq A0) fun xs=>lFor (τ:=List D) (fun s x=>bP t s x) xs []) fun Bk =>
 lS (lB (σ:=Unit) (asB (((sq (.lst Bk)).bind fun xs1=>cFil (fun A5=>(asB ((dIx (.lst Bk) (.int 0)).bind fun x1=>dNf A5 x1))) (fun A5=>.ok A5) xs1).bind fun x2=>dEq x2 (.lst []))) fun b=>if b=true then lB (dIx (.lst Bk) (.int 0)) .rt else .nx ()) fun _ =>
 lB ((dLen [A0]).bind fun x3=>dDiv x3 (.int 2)) fun Ba =>
 lS (lB (sq (.tup [(.int 0),Ba])) fun xs4=>lFor (τ:=List D) (fun s x=>cI t A0 Ba s x) xs4 []) fun Bt =>
 lB (dTuple [(.lst Bt)]) .rt
def eW (t:Nat→List D→R D)(Bm:D):L Unit :=
 lB ((dIsA (qEx esL 3) Bm).bind fun x=>(dIsA (qEx esL 6) Bm).bind fun x1=>(dIsA (qEx esL 7) Bm).bind fun x2=>.ok [x,x1,x2]) fun BV=>lB ((dIsA (qEx esL 8) Bm).bind fun x3=>oApp BV x3) fun BP =>
 lB (((dIsA (qEx esL 1) Bm).bind fun x4=>(dIsA (qEx esL 5) Bm).bind fun x5=>(dIsA (qEx esL 2) Bm).bind fun x6=>.ok (.lst [x4,x5,x6])).bind fun x7=>oExt BP x7) fun BQ =>
 lB (((dIsA (qEx esL 10) Bm).bind fun x8=>(dIsA (qEx esL 9) Bm).bind fun x9=>(dIsA (qEx esL 4) Bm).bind fun x10=>.ok (.lst [x8,x9,x10])).bind fun x11=>oExt BQ x11) fun Bx =>
 lS (lB (σ:=Unit) (rOr (asB ((onL (.lst Bx) fun ls=>dCount ls [(.bl true)]).bind fun x12=>dNf x12 (.int 1))) (rNot (asB (dIsA (qVx esL) Bm)))) fun b=>if b=true then .rt (.str "wrong") else .nx ()) fun _ =>
 lB ((dAdd (.lst [(.str "bad box"),(.str "no blocks"),(.str "no change"),(.str "no number"),(.str "no picture"),(.str "no rule"),(.str "no spot"),(.str "no text")]) (.lst [(.str "nothing done"),(.str "unlike")])).bind fun x13=>(onL (.lst Bx) fun ls1=>dIndex ls1 [(.bl true)]).bind fun x14=>dIx x13 x14) .rt
def cU (t:Nat→List D→R D)(Br:D)(A5:D)(A7:D):L Unit :=
 lTry (τ:=D) (qTk esL) (lB (asB (dLt Br (.int 2))) fun b=>if b=true then lB (rIf (asB (dEq Br (.int 0))) (t F.aD [A5,A7]) (t F.al [A5,A7])) fun BR =>
 .nx BR else lB (rIf (asB (dEq Br (.int 2))) (t F.ao [A5]) (t F.aC [A5])) fun BK =>
 .nx BK) (fun BG=>lS (lB (σ:=Unit) (asB (dIs .non .non)) fun b1=>if b1=true then .rt BG else .nx ()) fun _ =>
 lB (t F.aV [.non]) .rt) (fun k=>lS (lB (σ:=Unit) (asB (dIs (.exc k) .non)) fun b2=>if b2=true then lB (R.stuck) .rt else .nx ()) fun _ =>
 lB (t F.aV [(.exc k)]) .rt)
def gw (t:Nat→List D→R D)(Bq:D)(Bp:D)(Bu:D)(Bi:List D)(Bb:D)(Bc:D):L (List D) :=
 lB (((((dMod Bb (.int 2)).bind fun x=>(dDiv Bu (.int 2)).bind fun x1=>dMul x x1).bind fun x2=>dAdd Bq x2).bind fun x3=>(((dDiv Bb (.int 2)).bind fun x4=>(dDiv Bu (.int 2)).bind fun x5=>dMul x4 x5).bind fun x6=>dAdd Bp x6).bind fun x7=>(dDiv Bu (.int 2)).bind fun x8=>t F.aM [Bc,x3,x7,x8]).bind fun x9=>oExt Bi x9) fun Be =>
 .nx Be
def cW (t:Nat→List D→R D)(A4:D)(Bq:D)(Bp:D)(Bu:D):L Unit :=
 lS (lB (σ:=Unit) (asB (dIs A4 .non)) fun b=>if b=true then .rt (.lst []) else .nx ()) fun _ =>
 lS (lB (σ:=Unit) (rNot (asB (dIsA qTup A4))) fun b1=>if b1=true then .rt (.lst [(.tup [Bq,Bp,Bu,A4])]) else .nx ()) fun _ =>
 lS (lB (dEnum A4) fun xs=>lFor (τ:=List D) (fun s p=>lUn2 p fun x0 x1=>gw t Bq Bp Bu s x0 x1) xs []) fun Be =>
 .rt (.lst Be)
def cq (t:Nat→List D→R D)(Bi:List D)(B4:D)(Bo:D):L (List D) :=
 lB ((((dLen [Bo]).bind fun x=>rng1 [x]).bind fun xs=>cFil (fun B0=>(asB ((dIx Bo B0).bind fun x1=>dIsNot x1 .non))) (fun B0=>.ok (.tup [B0,B4])) xs).bind fun x2=>oExt Bi x2) fun Be =>
 .nx Be
def dW (t:Nat→List D→R D)(A0:D):L Unit :=
 lS (lB (dEnum A0) fun xs1=>lFor (τ:=List D) (fun s p=>lUn2 p fun x0 x1=>cq t s x0 x1) xs1 []) fun Be =>
 .rt (.lst Be)
def dX (t:Nat→List D→R D)(A1:D)(A5:D)(Bd:D):L Unit :=
 lB (dIx A5 (.int 0)) fun A2 =>
 lB (((dAdd A2 (.int 1)).bind fun x=>dMod x (.int 4)).bind fun x1=>.ok (.tup [x1,(.int 3)])) fun BD =>
 lS (lB (σ:=Unit) (rOr (asB ((t F.aa [(.int 0),A5,BD]).bind fun x3=>dNf x3 (.str "unlike"))) (asB ((t F.aa [(.int 1),Bd,BD]).bind fun x2=>dNf x2 (.str "unlike")))) fun b=>if b=true then .rt (.bl false) else .nx ()) fun _ =>
 lS (lB (σ:=Unit) (asB ((t F.aa [(.int 0),(.tup [(.int 0),.non]),(.tup [(.int 0),(.int 5)])]).bind fun x4=>dIsNot x4 (.bl true))) fun b1=>if b1=true then .rt (.bl false) else .nx ()) fun _ =>
 lB (t F.aj [A1,(.int 25000),A5]) fun BW =>
 lB (t F.aj [A1,(.int 25100),Bd]) fun BS =>
 lS (lB (σ:=Unit) (rAnd (rNot (asB (t F.a1 [BW]))) (asB (((sq (.tup [(.int 0),(.int 2),(.int 3)])).bind fun xs=>cMap (fun Br=>t F.aa [Br,BW,BD]) xs).bind fun x5=>(dMul (.lst [(.str "no change")]) (.int 3)).bind fun x6=>dNf x5 x6))) fun b2=>if b2=true then .rt (.bl false) else .nx ()) fun _ =>
 lB (vOr (t F.aW [BS]) (((t F.aa [(.int 1),BS,BD]).bind fun x7=>(t F.aa [(.int 1),BD,BS]).bind fun x8=>.ok (.lst [x7,x8])).bind fun x9=>(dMul (.lst [(.str "no picture")]) (.int 2)).bind fun x10=>dEq x9 x10)) .rt
def cr (t:Nat→List D→R D)(A9:List D)(Bo:D)(B1:D):L (List D) :=
 lB ((((dZip Bo B1).bind fun xs=>cMap (fun p=>un2 p fun B3 BC=>rIf (asB (dIsNot BC .non)) (.ok BC) (.ok B3)) xs).bind fun x=>dTuple [x]).bind fun x1=>oApp A9 x1) fun BA =>
 .nx BA
def dj (t:Nat→List D→R D)(BT:D)(Bo:D)(B1:D):L (D) :=
 lB (((((dLen [Bo]).bind fun x=>rng1 [x]).bind fun xs=>cFil (fun Bb=>(asB ((dIx Bo Bb).bind fun x1=>(dIx B1 Bb).bind fun x2=>dNf x1 x2))) (fun Bb=>.ok Bb) xs).bind fun x3=>dLen [x3]).bind fun x4=>dAdd BT x4) fun Bw =>
 .nx Bw
def ib (t:Nat→List D→R D)(A1:D):L Unit :=
 lB ((t F.ah [A1,(.int 0),(.int 3)]).bind fun x=>dAdd (.int 1) x) fun A2 =>
 lB ((rng1 [(.int 2)]).bind fun xs=>cMap (fun Bb=>(((dMul (.int 4000) Bb).bind fun x1=>dAdd (.int 5000) x1).bind fun x2=>t F.ab [A1,x2,A2]).bind fun x3=>.ok (.tup [A2,x3])) xs) fun d1=>lUnL2 d1 fun A5 A7 =>
 lB ((sq (.tup [A5,A7])).bind fun xs1=>cMap (fun BJ=>(dIx BJ (.int 1)).bind fun x4=>t F.a7 [A2,x4]) xs1) fun Bg =>
 lB ((sq Bg).bind fun xs2=>cMap (fun A0=>t F.aN [A0]) xs2) fun A6 =>
 lS (lB (σ:=Unit) (asB ((t F.aa [(.int 2),A5,.non]).bind fun x5=>(((dIx Bg (.int 0)).bind fun x6=>t F.aJ [x6]).bind fun x7=>((dIx Bg (.int 0)).bind fun x8=>dLen [x8]).bind fun x9=>t F.aM [x7,(.int 0),(.int 0),x9]).bind fun x10=>dNf x5 x10)) fun b=>if b=true then .rt (.bl false) else .nx ()) fun _ =>
 lS (lB (σ:=Unit) (rOr (asB ((t F.aa [(.int 3),A5,.non]).bind fun x14=>((dIx A6 (.int 0)).bind fun x15=>dLen [x15]).bind fun x16=>dNf x14 x16)) (asB ((t F.aa [(.int 3),A7,.non]).bind fun x11=>((dIx A6 (.int 1)).bind fun x12=>dLen [x12]).bind fun x13=>dNf x11 x13))) fun b1=>if b1=true then .rt (.bl false) else .nx ()) fun _ =>
 lB ((((dIx A6 (.int 0)).bind fun x17=>sq x17).bind fun xs3=>cFil (fun By=>(asB ((dIx A6 (.int 1)).bind fun x18=>dInD By x18))) (fun By=>.ok By) xs3).bind fun x19=>dEq x19 (.lst [])) fun Bh =>
 lS (lB (σ:=Unit) (rOr (asB ((t F.aa [(.int 0),A5,A7]).bind fun x21=>dNf x21 Bh)) (asB ((t F.aa [(.int 0),A7,A5]).bind fun x20=>dNf x20 Bh))) fun b2=>if b2=true then .rt (.bl false) else .nx ()) fun _ =>
 lS (lB (σ:=Unit) (rAnd (asB (.ok Bh)) (asB ((t F.a2 [A5,A7]).bind fun x22=>(t F.a2 [A7,A5]).bind fun x23=>dNf x22 x23))) fun b3=>if b3=true then .rt (.bl false) else .nx ()) fun _ =>
 lB ((rng1 [(.int 2)]).bind fun xs4=>cMap (fun B2=>(((dMul (.int 4000) B2).bind fun x24=>dAdd (.int 13000) x24).bind fun x25=>t F.an [A1,x25,A2]).bind fun x26=>.ok (.tup [A2,x26])) xs4) fun d=>lUnL2 d fun Bd BB =>
 lS (lB (σ:=D) (asB ((t F.ah [A1,(.int 1),(.int 2)]).bind fun x27=>dEq x27 (.int 0))) fun b4=>if b4=true then lS (lB ((t F.aX [Bd]).bind fun x28=>(dIx Bg (.int 0)).bind fun x29=>dZip x28 x29) fun xs6=>lFor (τ:=List D) (fun s p=>lUn2 p fun x0 x1=>cr t s x0 x1) xs6 []) fun BA =>
 lB ((dTuple [(.lst BA)]).bind fun x34=>t F.bf [x34]) fun BF =>
 .nx BF else .nx BB) fun Bs =>
 lS (lB ((t F.aX [Bd]).bind fun x35=>(t F.aX [Bs]).bind fun x36=>dZip x35 x36) fun xs8=>lFor (τ:=D) (fun s p=>lUn2 p fun x0 x1=>dj t s x0 x1) xs8 (.int 0)) fun Bw =>
 lS (lB (σ:=Unit) (rOr (asB ((t F.aa [(.int 1),Bd,Bs]).bind fun x45=>dNf x45 Bw)) (asB ((t F.aa [(.int 1),Bs,Bd]).bind fun x44=>dNf x44 Bw))) fun b5=>if b5=true then .rt (.bl false) else .nx ()) fun _ =>
 lS (lB (σ:=Unit) (asB (((t F.bg [Bd,Bs]).bind fun x46=>t F.aC [x46]).bind fun x47=>dLt x47 Bw)) fun b6=>if b6=true then .rt (.bl false) else .nx ()) fun _ =>
 lB (t F.a9 [A1,A5,Bd]) .rt
def pf:Nat→Nat→List D→R D
 | 0,_=>fun _=>.stuck
 | n+1,i=>match i with
  | 20=>a1 (iH (pf n))
  | 21=>a1 (fA (pf n))
  | 22=>a1 (hV (pf n))
  | 23=>a3 (eR (pf n))
  | 24=>a2 (b7 (pf n))
  | 25=>a1 (cm (pf n))
  | 26=>a1 (cP (pf n))
  | 105=>a1 (cM (pf n))
  | 43=>a4 (dB (pf n))
  | 27=>a1 (db (pf n))
  | 28=>a1 (b8 (pf n))
  | 45=>a1 (eT (pf n))
  | 49=>a2 (dR (pf n))
  | 50=>a1 (dc (pf n))
  | 188=>a4 (cQ (pf n))
  | 146=>a2 (ir (pf n))
  | 147=>a2 (jc (pf n))
  | 148=>a2 (iu (pf n))
  | 149=>a2 (eU (pf n))
  | 150=>a2 (ko (pf n))
  | 151=>a2 (iv (pf n))
  | 152=>a2 (jd (pf n))
  | 153=>a2 (de (pf n))
  | 154=>a2 (df (pf n))
  | 155=>a1 (dg (pf n))
  | 158=>a1 (bV (pf n))
  | 159=>a1 (aP (pf n))
  | 160=>a3 (bj (pf n))
  | 161=>a3 (gr (pf n))
  | 72=>a1 (dS (pf n))
  | 75=>a1 (je (pf n))
  | 230=>a1 (dh (pf n))
  | 231=>a1 (dU (pf n))
  | 232=>a1 (cn (pf n))
  | 246=>a2 (aT (pf n))
  | 233=>a1 (bW (pf n))
  | 234=>a2 (fB (pf n))
  | 236=>a2 (aS (pf n))
  | 237=>a2 (hZ (pf n))
  | 247=>a2 (jf (pf n))
  | 251=>a2 (cN (pf n))
  | 252=>a2 (cR (pf n))
  | 253=>a1 (bX (pf n))
  | 254=>a1 (dD (pf n))
  | 255=>a2 (bw (pf n))
  | 30=>a2 (jg (pf n))
  | 31=>a3 (jh (pf n))
  | 32=>a3 (gu (pf n))
  | 54=>a2 (cS (pf n))
  | 55=>a1 (ji (pf n))
  | 56=>a1 (eV (pf n))
  | 57=>a1 (oA (pf n))
  | 34=>a1 (dF (pf n))
  | 35=>a3 (jj (pf n))
  | 36=>a2 (ia (pf n))
  | 37=>a3 (bO (pf n))
  | 39=>a2 (cT (pf n))
  | 38=>a1 (cp (pf n))
  | 239=>a2 (aZ (pf n))
  | 238=>a1 (cO (pf n))
  | 240=>a3 (bz (pf n))
  | 241=>a2 (jk (pf n))
  | 242=>a1 (bY (pf n))
  | 40=>a1 (eW (pf n))
  | 256=>a3 (cU (pf n))
  | 257=>a4 (cW (pf n))
  | 258=>a1 (dW (pf n))
  | 259=>a3 (dX (pf n))
  | 260=>a1 (ib (pf n))
  | _=>fun _=>.stuck
theorem pZ (n:Nat)(a0:D):pf (n+1) F.a4 [a0]=outL (iH (pf n) a0):=rfl
theorem p6 (n:Nat)(a0:D):pf (n+1) F.aA [a0]=outL (fA (pf n) a0):=rfl
theorem rM (n:Nat)(a0:D):pf (n+1) F.ba [a0]=outL (hV (pf n) a0):=rfl
theorem lv (n:Nat)(a0 a1 a2:D):pf (n+1) F.aR [a0,a1,a2]=outL (eR (pf n) a0 a1 a2):=rfl
theorem jP (n:Nat)(a0 a1:D):pf (n+1) F.az [a0,a1]=outL (b7 (pf n) a0 a1):=rfl
theorem kB (n:Nat)(a0:D):pf (n+1) F.aE [a0]=outL (cm (pf n) a0):=rfl
theorem jl (n:Nat)(a0:D):pf (n+1) F.au [a0]=outL (cP (pf n) a0):=rfl
theorem lw (n:Nat)(a0:D):pf (n+1) F.ax [a0]=outL (cM (pf n) a0):=rfl
theorem kq (n:Nat)(a0 a1 a2 a3:D):pf (n+1) F.aT [a0,a1,a2,a3]=outL (dB (pf n) a0 a1 a2 a3):=rfl
theorem mD (n:Nat)(a0:D):pf (n+1) F.a5 [a0]=outL (db (pf n) a0):=rfl
theorem jQ (n:Nat)(a0:D):pf (n+1) F.af [a0]=outL (b8 (pf n) a0):=rfl
theorem lx (n:Nat)(a0:D):pf (n+1) F.aS [a0]=outL (eT (pf n) a0):=rfl
theorem oB (n:Nat)(a0 a1:D):pf (n+1) F.aZ [a0,a1]=outL (dR (pf n) a0 a1):=rfl
theorem mE (n:Nat)(a0:D):pf (n+1) F.aQ [a0]=outL (dc (pf n) a0):=rfl
theorem jm (n:Nat)(a0 a1 a2 a3:D):pf (n+1) F.aK [a0,a1,a2,a3]=outL (cQ (pf n) a0 a1 a2 a3):=rfl
theorem mF (n:Nat)(a0 a1:D):pf (n+1) F.aq [a0,a1]=outL (de (pf n) a0 a1):=rfl
theorem mG (n:Nat)(a0 a1:D):pf (n+1) F.bc [a0,a1]=outL (df (pf n) a0 a1):=rfl
theorem mH (n:Nat)(a0:D):pf (n+1) F.a6 [a0]=outL (dg (pf n) a0):=rfl
theorem gy (n:Nat)(a0:D):pf (n+1) F.ak [a0]=outL (bV (pf n) a0):=rfl
theorem bG (n:Nat)(a0:D):pf (n+1) F.ad [a0]=outL (aP (pf n) a0):=rfl
theorem cu (n:Nat)(a0 a1 a2:D):pf (n+1) F.ac [a0,a1,a2]=outL (bj (pf n) a0 a1 a2):=rfl
theorem nD (n:Nat)(a0 a1 a2:D):pf (n+1) F.bd [a0,a1,a2]=outL (gr (pf n) a0 a1 a2):=rfl
theorem oC (n:Nat)(a0:D):pf (n+1) F.a0 [a0]=outL (dS (pf n) a0):=rfl
theorem uO (n:Nat)(a0:D):pf (n+1) F.bi [a0]=outL (je (pf n) a0):=rfl
theorem mI (n:Nat)(a0:D):pf (n+1) F.ar [a0]=outL (dh (pf n) a0):=rfl
theorem oE (n:Nat)(a0:D):pf (n+1) F.a8 [a0]=outL (dU (pf n) a0):=rfl
theorem kC (n:Nat)(a0:D):pf (n+1) F.ae [a0]=outL (cn (pf n) a0):=rfl
theorem bQ (n:Nat)(a0 a1:D):pf (n+1) F.ai [a0,a1]=outL (aT (pf n) a0 a1):=rfl
theorem gz (n:Nat)(a0:D):pf (n+1) F.aI [a0]=outL (bW (pf n) a0):=rfl
theorem p7 (n:Nat)(a0 a1:D):pf (n+1) F.aB [a0,a1]=outL (fB (pf n) a0 a1):=rfl
theorem bB (n:Nat)(a0 a1:D):pf (n+1) F.ap [a0,a1]=outL (aS (pf n) a0 a1):=rfl
theorem rN (n:Nat)(a0 a1:D):pf (n+1) F.bg [a0,a1]=outL (hZ (pf n) a0 a1):=rfl
theorem uP (n:Nat)(a0 a1:D):pf (n+1) F.a2 [a0,a1]=outL (jf (pf n) a0 a1):=rfl
theorem ly (n:Nat)(a0 a1:D):pf (n+1) F.ay [a0,a1]=outL (cN (pf n) a0 a1):=rfl
theorem jn (n:Nat)(a0 a1:D):pf (n+1) F.aD [a0,a1]=outL (cR (pf n) a0 a1):=rfl
theorem gA (n:Nat)(a0:D):pf (n+1) F.ao [a0]=outL (bX (pf n) a0):=rfl
theorem kr (n:Nat)(a0:D):pf (n+1) F.aC [a0]=outL (dD (pf n) a0):=rfl
theorem eX (n:Nat)(a0 a1:D):pf (n+1) F.al [a0,a1]=outL (bw (pf n) a0 a1):=rfl
theorem uQ (n:Nat)(a0 a1:D):pf (n+1) F.bj [a0,a1]=outL (jg (pf n) a0 a1):=rfl
theorem uR (n:Nat)(a0 a1 a2:D):pf (n+1) F.ah [a0,a1,a2]=outL (jh (pf n) a0 a1 a2):=rfl
theorem nE (n:Nat)(a0 a1 a2:D):pf (n+1) F.an [a0,a1,a2]=outL (gu (pf n) a0 a1 a2):=rfl
theorem jo (n:Nat)(a0 a1:D):pf (n+1) F.aL [a0,a1]=outL (cS (pf n) a0 a1):=rfl
theorem uS (n:Nat)(a0:D):pf (n+1) F.aX [a0]=outL (ji (pf n) a0):=rfl
theorem lz (n:Nat)(a0:D):pf (n+1) F.bb [a0]=outL (eV (pf n) a0):=rfl
theorem yw (n:Nat)(a0:D):pf (n+1) F.bf [a0]=outL (oA (pf n) a0):=rfl
theorem kt (n:Nat)(a0:D):pf (n+1) F.aU [a0]=outL (dF (pf n) a0):=rfl
theorem p9 (n:Nat)(a0 a1 a2:D):pf (n+1) F.bh [a0,a1,a2]=outL (jj (pf n) a0 a1 a2):=rfl
theorem rP (n:Nat)(a0 a1:D):pf (n+1) F.be [a0,a1]=outL (ia (pf n) a0 a1):=rfl
theorem jp (n:Nat)(a0 a1 a2:D):pf (n+1) F.aj [a0,a1,a2]=outL (bO (pf n) a0 a1 a2):=rfl
theorem jq (n:Nat)(a0 a1:D):pf (n+1) F.av [a0,a1]=outL (cT (pf n) a0 a1):=rfl
theorem kD (n:Nat)(a0:D):pf (n+1) F.aW [a0]=outL (cp (pf n) a0):=rfl
theorem da (n:Nat)(a0 a1:D):pf (n+1) F.ag [a0,a1]=outL (aZ (pf n) a0 a1):=rfl
theorem lE (n:Nat)(a0:D):pf (n+1) F.a1 [a0]=outL (cO (pf n) a0):=rfl
theorem eY (n:Nat)(a0 a1 a2:D):pf (n+1) F.ab [a0,a1,a2]=outL (bz (pf n) a0 a1 a2):=rfl
theorem qd (n:Nat)(a0 a1:D):pf (n+1) F.a7 [a0,a1]=outL (jk (pf n) a0 a1):=rfl
theorem gC (n:Nat)(a0:D):pf (n+1) F.aJ [a0]=outL (bY (pf n) a0):=rfl
theorem jR (n:Nat)(a0:D):pf (n+1) F.aV [a0]=outL (eW (pf n) a0):=rfl
theorem eZ (n:Nat)(a0 a1 a2:D):pf (n+1) F.aa [a0,a1,a2]=outL (cU (pf n) a0 a1 a2):=rfl
theorem jr (n:Nat)(a0 a1 a2 a3:D):pf (n+1) F.aM [a0,a1,a2,a3]=outL (cW (pf n) a0 a1 a2 a3):=rfl
theorem oF (n:Nat)(a0:D):pf (n+1) F.aN [a0]=outL (dW (pf n) a0):=rfl
theorem oG (n:Nat)(a0 a1 a2:D):pf (n+1) F.a9 [a0,a1,a2]=outL (dX (pf n) a0 a1 a2):=rfl
theorem rQ (n:Nat)(a0:D):pf (n+1) F.a3 [a0]=outL (ib (pf n) a0):=rfl
end Lw
end
noncomputable section
set_option maxHeartbeats 4000000
namespace Lw
open PySem PySem.Spec PyProof.Rows L2 FF
def top (i:Nat):Stmt:=PySem.Challenge.pw_fourfold_k72_whole_changes_apart.main.body.getD i (.Pass ⟨0,0,0,0⟩)
abbrev iJ:Stmt:=top 15
theorem qf:FnScope ["thing"] ["thing"] (defScope iJ):=mkSc
abbrev iK:Stmt:=top 16
theorem qh:FnScope ["thing"] ["thing"] (defScope iK):=mkSc
abbrev jS:Stmt:=top 17
theorem rR:FnScope ["thing"] ["thing"] (defScope jS):=mkSc
abbrev jT:Stmt:=top 18
theorem rS:FnScope ["size","thing","is_end"] ["size","thing","is_end"] (defScope jT):=mkSc
abbrev cZ:Stmt:=top 19
theorem jU:FnScope ["thing","is_end"] ["thing","is_end"] (defScope cZ):=mkSc
abbrev dG:Stmt:=top 20
theorem f8:FnScope ["four","first"] ["four"] (defScope dG):=mkSc
abbrev gD:Stmt:=top 21
theorem oH:FnScope ["tree"] ["tree"] (defScope gD):=mkSc
abbrev eh:Stmt:=top 22
theorem lF:FnScope ["tree"] ["tree"] (defScope eh):=mkSc
abbrev iL:Stmt:=top 23
theorem gE:FnScope ["tree","side","x","y","half","number"] ["tree","side","x","y"] (defScope iL):=mkSc
abbrev fF:Stmt:=top 26
theorem mJ:FnScope ["thing"] ["thing"] (defScope fF):=mkSc
abbrev c6:Stmt:=top 27
theorem jV:FnScope ["thing"] ["thing"] (defScope c6):=mkSc
abbrev jW:Stmt:=top 28
theorem rT:FnScope ["picture"] ["picture"] (defScope jW):=mkSc
abbrev gF:Stmt:=top 29
theorem js:FnScope ["picture","y","side"] ["picture","y"] (defScope gF):=mkSc
abbrev fG:Stmt:=top 30
theorem mK:FnScope ["picture"] ["picture"] (defScope fG):=mkSc
abbrev gG:Stmt:=top 32
theorem dk:FnScope ["tree","left","top","side","half","told","number","part"] ["tree","left","top","side"] (defScope gG):=mkSc
abbrev ek:Stmt:=top 34
theorem lG:FnScope ["one","other"] ["one","other"] (defScope ek):=mkSc
abbrev fH:Stmt:=top 35
theorem mM:FnScope ["one","other"] ["one","other"] (defScope fH):=mkSc
abbrev em:Stmt:=top 36
theorem lH:FnScope ["one","other"] ["one","other"] (defScope em):=mkSc
abbrev cJ:Stmt:=top 37
theorem jt:FnScope ["one","other"] ["one","other"] (defScope cJ):=mkSc
abbrev gH:Stmt:=top 38
theorem oI:FnScope ["one","other"] ["one","other"] (defScope gH):=mkSc
abbrev en:Stmt:=top 39
theorem lI:FnScope ["one","other"] ["one","other"] (defScope en):=mkSc
abbrev fI:Stmt:=top 40
theorem mO:FnScope ["one","other"] ["one","other"] (defScope fI):=mkSc
abbrev fJ:Stmt:=top 41
theorem mP:FnScope ["one","other"] ["one","other"] (defScope fJ):=mkSc
abbrev fK:Stmt:=top 43
theorem mQ:FnScope ["thing","words"] ["thing","words"] (defScope fK):=mkSc
abbrev fL:Stmt:=top 44
theorem mR:FnScope ["thing"] ["thing"] (defScope fL):=mkSc
abbrev et:Stmt:=top 45
theorem gI:FnScope ["things","thing"] ["things"] (defScope et):=mkSc
abbrev cK:Stmt:=top 46
theorem dY:FnScope ["pictures","picture"] ["pictures"] (defScope cK):=mkSc
abbrev eu:Stmt:=top 47
theorem gJ:FnScope ["make","one","other","couples"] ["make","one","other"] (defScope eu):=mkSc
abbrev lJ:Stmt:=top 48
theorem uT:FnScope ["rule","one","other"] ["rule","one","other"] (defScope lJ):=mkSc
abbrev gK:Stmt:=top 50
theorem fM:FnScope ["rows","worths","row"] ["rows"] (defScope gK):=mkSc
abbrev lK:Stmt:=top 51
theorem nF:FnScope ["picture","worths"] ["picture"] (defScope lK):=mkSc
abbrev fN:Stmt:=top 53
theorem mS:FnScope ["thing"] ["thing"] (defScope fN):=mkSc
abbrev gL:Stmt:=top 54
theorem oJ:FnScope ["thing"] ["thing"] (defScope gL):=mkSc
abbrev dH:Stmt:=top 55
theorem kE:FnScope ["thing"] ["thing"] (defScope dH):=mkSc
abbrev c7:Stmt:=top 56
theorem jX:FnScope ["one","other"] ["one","other"] (defScope c7):=mkSc
abbrev ez:Stmt:=top 57
theorem lL:FnScope ["change"] ["change"] (defScope ez):=mkSc
abbrev iM:Stmt:=top 58
theorem qi:FnScope ["one","other"] ["one","other"] (defScope iM):=mkSc
abbrev dJ:Stmt:=top 59
theorem f9:FnScope ["one","other","parts"] ["one","other"] (defScope dJ):=mkSc
abbrev jY:Stmt:=top 60
theorem rV:FnScope ["one","other"] ["one","other"] (defScope jY):=mkSc
abbrev lM:Stmt:=top 61
theorem uU:FnScope ["one","other"] ["one","other"] (defScope lM):=mkSc
abbrev eB:Stmt:=top 62
theorem lN:FnScope ["one","other"] ["one","other"] (defScope eB):=mkSc
abbrev gM:Stmt:=top 63
theorem oK:FnScope ["one","other"] ["one","other"] (defScope gM):=mkSc
abbrev eD:Stmt:=top 64
theorem gN:FnScope ["change","squares"] ["change"] (defScope eD):=mkSc
abbrev iO:Stmt:=top 65
theorem qj:FnScope ["change"] ["change"] (defScope iO):=mkSc
abbrev c8:Stmt:=top 66
theorem jZ:FnScope ["one","other"] ["one","other"] (defScope c8):=mkSc
abbrev lO:Stmt:=top 68
theorem uV:FnScope ["_law_script","_law_k"] ["_law_script","_law_k"] (defScope lO):=mkSc
abbrev lP:Stmt:=top 69
theorem nG:FnScope ["_law_script","_law_k","_law_many","_law_drawn"] ["_law_script","_law_k","_law_many"] (defScope lP):=mkSc
abbrev lQ:Stmt:=top 70
theorem nH:FnScope ["_law_script","_law_at","_law_size","_law_way"] ["_law_script","_law_at","_law_size"] (defScope lQ):=mkSc
abbrev gO:Stmt:=top 72
theorem cw:FnScope ["_law_size","_law_tree_here","_law_parts","_law_some","_law_made","_law_upper"] ["_law_size","_law_tree_here"] (defScope gO):=mkSc
abbrev lR:Stmt:=top 73
theorem uW:FnScope ["_law_picture_here"] ["_law_picture_here"] (defScope lR):=mkSc
abbrev j0:Stmt:=top 74
theorem ce:FnScope ["_law_rows_here","_law_worths","_law_row","_law_half","_law_parts","_law_top","_law_left"] ["_law_rows_here"] (defScope j0):=mkSc
abbrev rW:Stmt:=top 75
theorem yx:FnScope ["_law_rows_here"] ["_law_rows_here"] (defScope rW):=mkSc
abbrev iP:Stmt:=top 76
theorem gP:FnScope ["_law_thing","_law_made","_law_k"] ["_law_thing"] (defScope iP):=mkSc
abbrev oM:Stmt:=top 77
theorem ql:FnScope ["_law_thing","_law_place","_law_new","_law_k"] ["_law_thing","_law_place","_law_new"] (defScope oM):=mkSc
abbrev j3:Stmt:=top 78
theorem iQ:FnScope ["_law_thing","_law_place","_law_k"] ["_law_thing","_law_place"] (defScope j3):=mkSc
abbrev cL:Stmt:=top 79
theorem bf:FnScope ["_law_script","_law_at","_law_thing","_law_places_here","_law_place","_law_here","_law_some"] ["_law_script","_law_at","_law_thing"] (defScope cL):=mkSc
abbrev dL:Stmt:=top 80
theorem kF:FnScope ["_law_thing"] ["_law_thing"] (defScope dL):=mkSc
abbrev gQ:Stmt:=top 81
theorem oN:FnScope ["_law_thing","_law_size"] ["_law_thing","_law_size"] (defScope gQ):=mkSc
abbrev eE:Stmt:=top 82
theorem lT:FnScope ["_law_thing"] ["_law_thing"] (defScope eE):=mkSc
abbrev cf:Stmt:=top 83
theorem il:FnScope ["_law_thing","_law_size"] ["_law_thing","_law_size"] (defScope cf):=mkSc
abbrev c9:Stmt:=top 84
theorem e7:FnScope ["_law_script","_law_at","_law_size","_law_way"] ["_law_script","_law_at","_law_size"] (defScope c9):=mkSc
abbrev oO:Stmt:=top 85
theorem gR:FnScope ["_law_size","_law_tree_here","_law_parts","_law_some","_law_made","_law_upper"] ["_law_size","_law_tree_here"] (defScope oO):=mkSc
abbrev eF:Stmt:=top 86
theorem a9:FnScope ["_law_rows_here","_law_every","_law_row","_law_half","_law_parts","_law_top","_law_left"] ["_law_rows_here"] (defScope eF):=mkSc
abbrev lU:Stmt:=top 87
theorem j4:FnScope ["_law_kept","_law_kinds","_law_words"] ["_law_kept"] (defScope lU):=mkSc
abbrev lV:Stmt:=top 88
theorem dr:FnScope ["_law_what","_law_one","_law_other","_law_kept","_law_answer","e"] ["_law_what","_law_one","_law_other"] (defScope lV):=mkSc
abbrev gS:Stmt:=top 89
theorem fO:FnScope ["_law_tree_here","_law_left","_law_top","_law_side","_law_made","_law_k","_law_part"] ["_law_tree_here","_law_left","_law_top","_law_side"] (defScope gS):=mkSc
abbrev gT:Stmt:=top 90
theorem fP:FnScope ["_law_rows_here","_law_made","_law_y","_law_row"] ["_law_rows_here"] (defScope gT):=mkSc
abbrev gU:Stmt:=top 91
theorem dl:FnScope ["_law_script","_law_one","_law_mine","_law_size","_law_off","_law_bad","_law_odd"] ["_law_script","_law_one","_law_mine"] (defScope gU):=mkSc
abbrev bD:Stmt:=top 92
theorem aQ:FnScope ["_law_script","_law_size","_law_one","_law_other","_law_sets","_law_spots_here","_law_apart","_law_mine","_law_yours","_law_some","_law_row","_law_more","_law_unlike"] ["_law_script"] (defScope bD):=mkSc
structure Txt (K:PySem.W.Frag)(mg:Str→Option Value)(C:Nat→Addr)(wP:Params):Prop where
 b_ValueError:mg "ValueError"=none
 b_abs:mg "abs"=none
 b_all:mg "all"=none
 b_bool:mg "bool"=none
 b_enumerate:mg "enumerate"=none
 b_int:mg "int"=none
 b_isinstance:mg "isinstance"=none
 b_len:mg "len"=none
 b_list:mg "list"=none
 b_max:mg "max"=none
 b_min:mg "min"=none
 b_range:mg "range"=none
 b_set:mg "set"=none
 b_sum:mg "sum"=none
 b_tuple:mg "tuple"=none
 b_zip:mg "zip"=none
 k_GREATEST_WORTH:∃ t,mg "GREATEST_WORTH"=some (.int 9 t)
 k_LARGEST_SIZE:∃ t,mg "LARGEST_SIZE"=some (.int 3 t)
 t_SIDES:∃ a,mg "SIDES"=some (.ref a)∧TupK K a [1,2,4,8]
 d_RULES:∃ a,mg "RULES"=some (.ref a)∧TabK K C wP a fz
 f_is_worth:mg "is_worth"=some (.ref (C F.aA))
 f_first_worth:mg "first_worth"=some (.ref (C F.aF))
 f_last_worth:mg "last_worth"=some (.ref (C F.aO))
 f_least_worth:mg "least_worth"=some (.ref (C F.aG))
 f_greatest_worth:mg "greatest_worth"=some (.ref (C F.aw))
 f_sum_worth:mg "sum_worth"=some (.ref (C F.aY))
 f_times_worth:mg "times_worth"=some (.ref (C F.aH))
 f_less_worth:mg "less_worth"=some (.ref (C F.aP))
 f_same_worth:mg "same_worth"=some (.ref (C F.aq))
 f_is_setting:mg "is_setting"=some (.ref (C F.ar))
 f_set_over:mg "set_over"=some (.ref (C F.aB))
 f_set_by_both:mg "set_by_both"=some (.ref (C F.ay))
 c_FourError:mg "FourError"=some (.ref (C 0))
 c_NoPicture:mg "NoPicture"=some (.ref (C 1))
 c_NoSpot:mg "NoSpot"=some (.ref (C 2))
 c_BadBox:mg "BadBox"=some (.ref (C 3))
 c_Unlike:mg "Unlike"=some (.ref (C 4))
 c_NoRule:mg "NoRule"=some (.ref (C 5))
 c_NoBlocks:mg "NoBlocks"=some (.ref (C 6))
 c_NoChange:mg "NoChange"=some (.ref (C 7))
 c_NoNumber:mg "NoNumber"=some (.ref (C 8))
 c_NothingDone:mg "NothingDone"=some (.ref (C 9))
 c_NoText:mg "NoText"=some (.ref (C 10))
 x_NoPicture:PySem.W.excIn K (C 1) bmVE "ValueError.__new__"=true
 x_Unlike:PySem.W.excIn K (C 4) bmVE "ValueError.__new__"=true
 x_NoRule:PySem.W.excIn K (C 5) bmVE "ValueError.__new__"=true
 x_NoChange:PySem.W.excIn K (C 7) bmVE "ValueError.__new__"=true
 i_BadBox:IsA K C (.ref (C 3)) (qEx esL 3)
 i_NoBlocks:IsA K C (.ref (C 6)) (qEx esL 6)
 i_NoChange:IsA K C (.ref (C 7)) (qEx esL 7)
 i_NoNumber:IsA K C (.ref (C 8)) (qEx esL 8)
 i_NoPicture:IsA K C (.ref (C 1)) (qEx esL 1)
 i_NoRule:IsA K C (.ref (C 5)) (qEx esL 5)
 i_NoSpot:IsA K C (.ref (C 2)) (qEx esL 2)
 i_NoText:IsA K C (.ref (C 10)) (qEx esL 10)
 i_NothingDone:IsA K C (.ref (C 9)) (qEx esL 9)
 i_Unlike:IsA K C (.ref (C 4)) (qEx esL 4)
 i_ValueError:IsA K C (.ty "ValueError") (qVx esL)
 takes:Takes K C (C 0) (qTk esL)
structure Tab (P:Program)(w:World)(K:PySem.W.Frag)(mg:Str→Option Value)(base:Heap)(C:Nat→Addr)(k:Nat)(t:Nat→List FF.D→FF.R FF.D):Prop where
 g20:Fn1 P w K mg base C k "is_whole" ["thing"] (t F.a4)
 g21:Fn1 P w K mg base C k "is_worth" ["thing"] (t F.aA)
 g22:Fn1 P w K mg base C k "is_size" ["thing"] (t F.ba)
 g23:Fn1 P w K mg base C k "is_tree" ["size","thing","is_end"] (t F.aR)
 g24:Fn1 P w K mg base C k "is_sized_tree" ["thing","is_end"] (t F.az)
 g25:Fn1 P w K mg base C k "put_together" ["four"] (t F.aE)
 g26:Fn1 P w K mg base C k "lean_tree" ["tree"] (t F.au)
 g105:Fn1 P w K mg base C k "quarters_in" ["tree"] (t F.ax)
 g43:Fn1 P w K mg base C k "worth_in" ["tree","side","x","y"] (t F.aT)
 g27:Fn1 P w K mg base C k "is_picture" ["thing"] (t F.a5)
 g28:Fn1 P w K mg base C k "check_picture" ["thing"] (t F.af)
 g45:Fn1 P w K mg base C k "side_of" ["picture"] (t F.aS)
 g49:Fn1 P w K mg base C k "shown_row" ["picture","y"] (t F.aZ)
 g50:Fn1 P w K mg base C k "shown_rows" ["picture"] (t F.aQ)
 g188:Fn1 P w K mg base C k "blocks_in" ["tree","left","top","side"] (t F.aK)
 g146:Fn1 P w K mg base C k "first_worth" ["one","other"] (t F.aF)
 g147:Fn1 P w K mg base C k "last_worth" ["one","other"] (t F.aO)
 g148:Fn1 P w K mg base C k "least_worth" ["one","other"] (t F.aG)
 g149:Fn1 P w K mg base C k "greatest_worth" ["one","other"] (t F.aw)
 g150:Fn1 P w K mg base C k "sum_worth" ["one","other"] (t F.aY)
 g151:Fn1 P w K mg base C k "times_worth" ["one","other"] (t F.aH)
 g152:Fn1 P w K mg base C k "less_worth" ["one","other"] (t F.aP)
 g153:Fn1 P w K mg base C k "same_worth" ["one","other"] (t F.aq)
 g154:Fn1 P w K mg base C k "check_word" ["thing","words"] (t F.bc)
 g155:Fn1 P w K mg base C k "check_rule" ["thing"] (t F.a6)
 g158:Fn1 P w K mg base C k "check_sizes" ["things"] (t F.ak)
 g159:Fn1 P w K mg base C k "check_pictures" ["pictures"] (t F.ad)
 g160:Fn1 P w K mg base C k "joined_tree" ["make","one","other"] (t F.ac)
 g161:Fn1 P w K mg base C k "joined" ["rule","one","other"] (t F.bd)
 g72:Fn1 P w K mg base C k "worths_of" ["rows"] (t F.a0)
 g75:Fn1 P w K mg base C k "counts" ["picture"] (t F.bi)
 g230:Fn1 P w K mg base C k "is_setting" ["thing"] (t F.ar)
 g231:Fn1 P w K mg base C k "is_change" ["thing"] (t F.a8)
 g232:Fn1 P w K mg base C k "check_change" ["thing"] (t F.ae)
 g246:Fn1 P w K mg base C k "check_changes" ["one","other"] (t F.ai)
 g233:Fn1 P w K mg base C k "lean_change" ["change"] (t F.aI)
 g234:Fn1 P w K mg base C k "set_over" ["one","other"] (t F.aB)
 g236:Fn1 P w K mg base C k "tree_between" ["one","other"] (t F.ap)
 g237:Fn1 P w K mg base C k "between" ["one","other"] (t F.bg)
 g247:Fn1 P w K mg base C k "behind" ["one","other"] (t F.a2)
 g251:Fn1 P w K mg base C k "set_by_both" ["one","other"] (t F.ay)
 g252:Fn1 P w K mg base C k "are_apart" ["one","other"] (t F.aD)
 g253:Fn1 P w K mg base C k "squares_set" ["change"] (t F.ao)
 g254:Fn1 P w K mg base C k "many_set" ["change"] (t F.aC)
 g255:Fn1 P w K mg base C k "worths_unlike" ["one","other"] (t F.al)
 g30:Fn1 P w K mg base C k "_law_cell" ["_law_script","_law_k"] (t F.bj)
 g31:Fn1 P w K mg base C k "_law_pick" ["_law_script","_law_k","_law_many"] (t F.ah)
 g32:Fn1 P w K mg base C k "_law_tree" ["_law_script","_law_at","_law_size"] (t F.an)
 g54:Fn1 P w K mg base C k "_law_rows_of" ["_law_size","_law_tree_here"] (t F.aL)
 g55:Fn1 P w K mg base C k "_law_rows" ["_law_picture_here"] (t F.aX)
 g56:Fn1 P w K mg base C k "_law_least" ["_law_rows_here"] (t F.bb)
 g57:Fn1 P w K mg base C k "_law_of" ["_law_rows_here"] (t F.bf)
 g34:Fn1 P w K mg base C k "_law_places" ["_law_thing"] (t F.aU)
 g35:Fn1 P w K mg base C k "_law_put" ["_law_thing","_law_place","_law_new"] (t F.bh)
 g36:Fn1 P w K mg base C k "_law_there" ["_law_thing","_law_place"] (t F.be)
 g37:Fn1 P w K mg base C k "_law_spoilt_thing" ["_law_script","_law_at","_law_thing"] (t F.aj)
 g38:Fn1 P w K mg base C k "_law_is_picture" ["_law_thing"] (t F.aW)
 g39:Fn1 P w K mg base C k "_law_is_tree" ["_law_thing","_law_size"] (t F.av)
 g238:Fn1 P w K mg base C k "_law_is_change" ["_law_thing"] (t F.a1)
 g239:Fn1 P w K mg base C k "_law_is_change_tree" ["_law_thing","_law_size"] (t F.ag)
 g240:Fn1 P w K mg base C k "_law_change_tree" ["_law_script","_law_at","_law_size"] (t F.ab)
 g241:Fn1 P w K mg base C k "_law_set" ["_law_size","_law_tree_here"] (t F.a7)
 g242:Fn1 P w K mg base C k "_law_least_set" ["_law_rows_here"] (t F.aJ)
 g40:Fn1 P w K mg base C k "_law_word" ["_law_kept"] (t F.aV)
 g256:Fn1 P w K mg base C k "_law_do" ["_law_what","_law_one","_law_other"] (t F.aa)
 g257:Fn1 P w K mg base C k "_law_squares" ["_law_tree_here","_law_left","_law_top","_law_side"] (t F.aM)
 g258:Fn1 P w K mg base C k "_law_spots" ["_law_rows_here"] (t F.aN)
 g259:Fn1 P w K mg base C k "_law_refuses" ["_law_script","_law_one","_law_mine"] (t F.a9)
 g260:Fn1 P w K mg base C k "law" ["_law_script"] (t F.a3)
 v:∀ i∈fvL,FnV P w K mg base C k i (t i)
section
variable {P:Program}{w:World}{K:PySem.W.Frag}{mg:Str→Option Value}{base:Heap}{C:Nat→Addr}{k:Nat}{t:Nat→List FF.D→FF.R FF.D}(T:Txt K mg C w.params)(G:Tab P w K mg base C k t)
include T G
theorem qm:OkD P w K mg base C k "is_whole" iJ ["thing"] (a1 (iH t)):=ok1 qf fun thing _ _ _ _ _ _ _ _ bx _ _=>by
 show FL _ _ [vv thing] _ _ _
 refine aq (ah (jF (al bx rfl T.b_isinstance i6 (ac 0) (aC rfl T.b_int (by decide +kernel) rfl)) (gi (zH (al bx rfl T.b_isinstance gn (ac 0) (aC rfl T.b_bool (by decide +kernel) rfl)))))) ?_
 rfl
theorem ku:OkD P w K mg base C k "is_worth" iK ["thing"] (a1 (fA t)):=ok1 qh fun thing _ _ _ _ _ _ _ _ bx _ _=>by
 show FL _ _ [vv thing] _ _ _
 refine aq (ah (jF (af bx G.g20 rfl (aa (ac 0) ad)) (gi (iZ ae (ac 0) (on T.k_GREATEST_WORTH rfl))))) ?_
 rfl
theorem rX:OkD P w K mg base C k "is_size" jS ["thing"] (a1 (hV t)):=ok1 rR fun thing _ _ _ _ _ _ _ _ bx _ _=>by
 show FL _ _ [vv thing] _ _ _
 refine aq (ah (jF (af bx G.g20 rfl (aa (ac 0) ad)) (gi (iZ ae (ac 0) (on T.k_LARGEST_SIZE rfl))))) ?_
 rfl
theorem rY:OkD P w K mg base C k "is_tree" jT ["size","thing","is_end"] (a3 (eR t)):=ok3 rS fun size_ thing is_end _ _ _ _ _ _ _ _ bx _ _=>by
 show FL _ _ [vv size_,vv thing,vv is_end] _ _ _
 refine ar (inj:=fun (_:Unit) (w:Unit)=>[vv size_,vv thing,vv is_end]) (ay (aU (aG (al bx rfl T.b_isinstance ba (ac 1) (aC rfl T.b_tuple (by decide +kernel) rfl)))) ?_ ?_ ?_) (fun _ w=>?_)
 rfl
 ·refine aq (ah (pG bx G.v (ac 2) (aa (ac 1) ad))) ?_
  rfl
 ·exact ak ⟨(),rfl⟩
 refine ar (inj:=fun (_:Unit) (w1:Unit)=>[vv size_,vv thing,vv is_end]) (ay (ft_w (bS (ci bx (ac 0) ae) (bT (bU bx (fe_N (bi bx rfl T.b_len (FAL.out (aa (ac 1) ad)))) ae)))) ?_ ?_ ?_) (fun _ w1=>?_)
 rfl
 ·refine aw (ah cg) ?_
  rfl
 ·exact ak ⟨(),rfl⟩
 refine aq (ah (fe_N (zN bx rfl T.b_all (FAL.out (aa (fe_C (aM (N:=["part","is_end","size"]) (own:=1) (cap:=[2,0]) bx (BlkOk.of (by kernel_rfl)) (aJ bx.K (ac 1)) (aK (by decide)) (fun _ _ _ _ _=>ax 0 (show List.Nodup (α:=Str) ["part","is_end","size"] by decide +kernel)) (fun _ _ _ _ _=>(af (ao bx) G.g23 rfl (aa (fm (ac 2) ae) (aa (ac 0) (aa (ac 1) ad))))))) ad))))) ?_
 rfl
theorem j5:OkD P w K mg base C k "is_sized_tree" cZ ["thing","is_end"] (a2 (b7 t)):=ok2 jU fun thing is_end _ _ _ _ _ _ _ _ bx _ _=>by
 show FL _ _ [vv thing,vv is_end] _ _ _
 refine ar (inj:=fun (_:Unit) (w:Unit)=>[vv thing,vv is_end]) (ay (ft_w (bS (aU (aG (al bx rfl T.b_isinstance ba (ac 0) (aC rfl T.b_tuple (by decide +kernel) rfl)))) (bT (bU bx (fe_N (bi bx rfl T.b_len (FAL.out (aa (ac 0) ad)))) ae)))) ?_ ?_ ?_) (fun _ w=>?_)
 rfl
 ·refine aw (ah cg) ?_
  rfl
 ·exact ak ⟨(),rfl⟩
 refine aq (ah (jF (af bx G.g22 rfl (aa (ag bx.K (ac 0) ae) ad)) (gi (af bx G.g23 rfl (aa (ag bx.K (ac 0) ae) (aa (ag bx.K (ac 0) ae) (aa (ac 1) ad))))))) ?_
 rfl
theorem kG:OkD P w K mg base C k "put_together" dG ["four"] (a1 (cm t)):=ok1 f8 fun four _ _ _ _ _ _ _ _ bx _ _=>by
 show FL _ _ [vv four,nn] _ _ _
 refine aj (S':=fun first=>[vv four,vv first]) (aD 1 f8.nd (ag bx.K (ac 0) ae)) ?_ (fun first=>?_)
 rfl
 refine ar (inj:=fun (_:Unit) (w:Unit)=>[vv four,vv first]) (ay (ft_w (gh (aU (aG (al bx rfl T.b_isinstance ba (ac 1) (aC rfl T.b_tuple (by decide +kernel) rfl)))) (fk (ci bx (ac 0) (az (aa (ac 1) (aa (ac 1) (aa (ac 1) (aa (ac 1) ad))))))))) ?_ ?_ ?_) (fun _ w=>?_)
 rfl
 ·refine aw (ah (ac 1)) ?_
  rfl
 ·exact ak ⟨(),rfl⟩
 refine aw (ah (ac 0)) ?_
 rfl
theorem oP:OkD P w K mg base C k "lean_tree" gD ["tree"] (a1 (cP t)):=ok1 oH fun tree_ _ _ _ _ _ _ _ _ bx _ _=>by
 show FL _ _ [vv tree_] _ _ _
 refine ar (inj:=fun (_:Unit) (w:Unit)=>[vv tree_]) (ay (aU (aG (al bx rfl T.b_isinstance ba (ac 0) (aC rfl T.b_tuple (by decide +kernel) rfl)))) ?_ ?_ ?_) (fun _ w=>?_)
 rfl
 ·refine aw (ah (ac 0)) ?_
  rfl
 ·exact ak ⟨(),rfl⟩
 refine aq (ah (af bx G.g25 rfl (aa (fe_N (bd bx rfl T.b_tuple (FAL.out (aa (fe_C (aM (N:=["part"]) (own:=1) (cap:=[]) bx (BlkOk.of (by kernel_rfl)) (aJ bx.K (ac 0)) (aK (by decide)) (fun _ _ _ _ _=>ax 0 (show List.Nodup (α:=Str) ["part"] by decide +kernel)) (fun _ _ _ _ _=>(af (ao bx) G.g26 rfl (aa (ac 0) ad))))) ad)))) ad))) ?_
 rfl
theorem lW:OkD P w K mg base C k "quarters_in" eh ["tree"] (a1 (cM t)):=ok1 lF fun tree_ _ _ _ _ _ _ _ _ bx _ _=>by
 show FL _ _ [vv tree_] _ _ _
 refine ar (inj:=fun (_:Unit) (w:Unit)=>[vv tree_]) (ay (aG (al bx rfl T.b_isinstance ba (ac 0) (aC rfl T.b_tuple (by decide +kernel) rfl))) ?_ ?_ ?_) (fun _ w=>?_)
 rfl
 ·refine aw (ah (ac 0)) ?_
  rfl
 ·exact ak ⟨(),rfl⟩
 refine aw (ah (az (aa (ac 0) (aa (ac 0) (aa (ac 0) (aa (ac 0) ad)))))) ?_
 rfl
theorem qo:OkD P w K mg base C k "worth_in" iL ["tree","side","x","y"] (a4 (dB t)):=ok4 gE fun tree_ side x y _ _ _ _ _ _ _ _ bx _ _=>by
 show FL _ _ [vv tree_,vv side,vv x,vv y,nn,nn] _ _ _
 refine ar (inj:=fun (_:Unit) (w:Unit)=>[vv tree_,vv side,vv x,vv y,nn,nn]) (ay (aU (aG (al bx rfl T.b_isinstance ba (ac 0) (aC rfl T.b_tuple (by decide +kernel) rfl)))) ?_ ?_ ?_) (fun _ w=>?_)
 rfl
 ·refine aw (ah (ac 0)) ?_
  rfl
 ·exact ak ⟨(),rfl⟩
 refine aj (S':=fun half=>[vv tree_,vv side,vv x,vv y,vv half,nn]) (aD 4 gE.nd (cY (ac 1) ae)) ?_ (fun half=>?_)
 rfl
 refine aj (S':=fun number=>[vv tree_,vv side,vv x,vv y,vv half,vv number]) (aD 5 gE.nd (aB bx.K (aY bx.K ae (cY (ac 3) (ac 4))) (cY (ac 2) (ac 4)))) ?_ (fun number=>?_)
 rfl
 refine aq (ah (af bx G.g43 rfl (aa (ag bx.K (ac 0) (ac 5)) (aa (ac 4) (aa (dA (ac 2) (ac 4)) (aa (dA (ac 3) (ac 4)) ad)))))) ?_
 rfl
theorem mT:OkD P w K mg base C k "is_picture" fF ["thing"] (a1 (db t)):=ok1 mJ fun thing _ _ _ _ _ _ _ _ bx _ _=>by
 show FL _ _ [vv thing] _ _ _
 refine aq (ah (af bx G.g24 rfl (aa (ac 0) (aa (sT T.f_is_worth rfl) ad)))) ?_
 rfl
theorem j6:OkD P w K mg base C k "check_picture" c6 ["thing"] (a1 (b8 t)):=ok1 jV fun thing _ _ _ _ _ _ _ _ bx _ made=>by
 show FL _ _ [vv thing] _ _ _
 refine lj (ay (aU (aG (af bx G.g27 rfl (aa (ac 0) ad)))) ?_ ?_ ?_)
 rfl
 ·refine sS (i7 1 bx made rfl T.c_NoPicture T.x_NoPicture (FAL.out (aa bh ad))) ?_
  rfl
 ·exact ak True.intro
theorem rZ:OkD P w K mg base C k "side_of" jW ["picture"] (a1 (eT t)):=ok1 rT fun picture _ _ _ _ _ _ _ _ bx _ _=>by
 show FL _ _ [vv picture] _ _ _
 refine aq (ah (ag bx.K (xZ T.t_SIDES rfl) (ag bx.K (ac 0) ae))) ?_
 rfl
theorem oQ:OkD P w K mg base C k "shown_row" gF ["picture","y"] (a2 (dR t)):=ok2 js fun picture y _ _ _ _ _ _ _ _ bx _ _=>by
 show FL _ _ [vv picture,vv y,nn] _ _ _
 refine aj (S':=fun side=>[vv picture,vv y,vv side]) (aD 2 js.nd (af bx G.g45 rfl (aa (ac 0) ad))) ?_ (fun side=>?_)
 rfl
 refine aq (ah (fe_N (bd bx rfl T.b_tuple (FAL.out (aa (fe_C (aM (N:=["x","side","y","picture"]) (own:=1) (cap:=[2,1,0]) bx (BlkOk.of (by kernel_rfl)) (eO (aW rfl T.b_range (FAL.out (aa (ac 2) ad)))) (aK (by decide)) (fun _ _ _ _ _=>ax 0 (show List.Nodup (α:=Str) ["x","side","y","picture"] by decide +kernel)) (fun _ _ _ _ _=>(af (ao bx) G.g43 rfl (aa (ag (ao bx).K (ac 3) ae) (aa (ac 1) (aa (ac 0) (aa (ac 2) ad)))))))) ad))))) ?_
 rfl
theorem mU:OkD P w K mg base C k "shown_rows" fG ["picture"] (a1 (dc t)):=ok1 mK fun picture _ _ _ _ _ _ _ _ bx _ _=>by
 show FL _ _ [vv picture] _ _ _
 refine aj (S':=fun _=>[vv picture]) (bJ (af bx G.g28 rfl (aa (ac 0) ad))) ?_ (fun _=>?_)
 rfl
 refine aq (ah (fe_N (bd bx rfl T.b_tuple (FAL.out (aa (fe_C (aM (N:=["y","picture"]) (own:=1) (cap:=[0]) bx (BlkOk.of (by kernel_rfl)) (eO (aW rfl T.b_range (FAL.out (aa (af bx G.g45 rfl (aa (ac 0) ad)) ad)))) (aK (by decide)) (fun _ _ _ _ _=>ax 0 (show List.Nodup (α:=Str) ["y","picture"] by decide +kernel)) (fun _ _ _ _ _=>(af (ao bx) G.g49 rfl (aa (ac 1) (aa (ac 0) ad)))))) ad))))) ?_
 rfl
theorem oR:OkD P w K mg base C k "blocks_in" gG ["tree","left","top","side"] (a4 (cQ t)):=ok4 dk fun tree_ left top side _ _ _ _ _ _ _ _ bx hpo _=>by
 show FL _ _ [vv tree_,vv left,vv top,vv side,nn,nn,nn,nn] _ _ _
 refine ar (inj:=fun (_:Unit) (w:Unit)=>[vv tree_,vv left,vv top,vv side,nn,nn,nn,nn]) (ay (aU (aG (al bx rfl T.b_isinstance ba (ac 0) (aC rfl T.b_tuple (by decide +kernel) rfl)))) ?_ ?_ ?_) (fun _ w=>?_)
 rfl
 ·refine aw (ah (aE (aa (az (aa (ac 1) (aa (ac 2) (aa (ac 3) (aa (ac 0) ad))))) ad))) ?_
  rfl
 ·exact ak ⟨(),rfl⟩
 refine aj (S':=fun half=>[vv tree_,vv left,vv top,vv side,vv half,nn,nn,nn]) (aD 4 dk.nd (cY (ac 3) ae)) ?_ (fun half=>?_)
 rfl
 refine aO (S':=[vv tree_,vv left,vv top,vv side,vv half,ow [],nn,nn]) (fs_O (ck 5 dk.nd (FAL.out ad))) ?_ ?_
 rfl
 refine ar (inj:=fun (s:List D) (w1:Option Sl×Option Sl)=>[vv tree_,vv left,vv top,vv side,vv half,ow s,w1.1,w1.2]) (gp 6 7 (B:=fun (s:List D) (w1:Option Sl×Option Sl) x x1=>[vv tree_,vv left,vv top,vv side,vv half,ow s,vv x,vv x1]) (nn,nn) hpo rfl (fw bx rfl T.b_enumerate (ac 0)) ?_ (hJ 6 7 rfl dk.nd) rfl (fun _ _ _ _=>rfl) (fun s w1 x x1=>?_)) (fun told1 w2=>?_)
 rfl
 ·refine aj (S':=fun told=>[vv tree_,vv left,vv top,vv side,vv half,ow told,vv x,vv x1]) (fs_X (bb 5 bx.K (FAL.out (aa (af bx G.g188 rfl (aa (ac 7) (aa (aB bx.K (ac 1) (aY bx.K (dA (ac 6) ae) (ac 4))) (aa (aB bx.K (ac 2) (aY bx.K (cY (ac 6) ae) (ac 4))) (aa (ac 4) ad))))) ad)))) ?_ (fun told=>?_)
  rfl
  exact ak ⟨(vv x,vv x1),rfl⟩
 refine cF 5 (S':=[vv tree_,vv left,vv top,vv side,vv half,vv (.lst told1),w2.1,w2.2]) rfl rfl ?_
 refine aw (ah (ac 5)) ?_
 rfl
theorem gW:OkD P w K mg base C k "first_worth" ek ["one","other"] (a2 (ir t)):=ok2 lG fun one other _ _ _ _ _ _ _ _ _ _ _=>by
 show FL _ _ [vv one,vv other] _ _ _
 refine aw (ah (ac 0)) ?_
 rfl
theorem iw:OkD P w K mg base C k "last_worth" fH ["one","other"] (a2 (jc t)):=ok2 mM fun one other _ _ _ _ _ _ _ _ _ _ _=>by
 show FL _ _ [vv one,vv other] _ _ _
 refine aw (ah (ac 1)) ?_
 rfl
theorem gX:OkD P w K mg base C k "least_worth" em ["one","other"] (a2 (iu t)):=ok2 lH fun one other _ _ _ _ _ _ _ _ bx _ _=>by
 show FL _ _ [vv one,vv other] _ _ _
 refine aq (ah (fe_N (yn bx rfl T.b_min (FAL.out (aa (ac 0) (aa (ac 1) ad)))))) ?_
 rfl
theorem dZ:OkD P w K mg base C k "greatest_worth" cJ ["one","other"] (a2 (eU t)):=ok2 jt fun one other _ _ _ _ _ _ _ _ bx _ _=>by
 show FL _ _ [vv one,vv other] _ _ _
 refine aq (ah (fe_N (xW bx rfl T.b_max (FAL.out (aa (ac 0) (aa (ac 1) ad)))))) ?_
 rfl
theorem ju:OkD P w K mg base C k "sum_worth" gH ["one","other"] (a2 (ko t)):=ok2 oI fun one other _ _ _ _ _ _ _ _ bx _ _=>by
 show FL _ _ [vv one,vv other] _ _ _
 refine aq (ah (dA (aB bx.K (ac 0) (ac 1)) ae)) ?_
 rfl
theorem gY:OkD P w K mg base C k "times_worth" en ["one","other"] (a2 (iv t)):=ok2 lI fun one other _ _ _ _ _ _ _ _ bx _ _=>by
 show FL _ _ [vv one,vv other] _ _ _
 refine aq (ah (dA (aY bx.K (ac 0) (ac 1)) ae)) ?_
 rfl
theorem iy:OkD P w K mg base C k "less_worth" fI ["one","other"] (a2 (jd t)):=ok2 mO fun one other _ _ _ _ _ _ _ _ bx _ _=>by
 show FL _ _ [vv one,vv other] _ _ _
 refine aq (ah (fe_N (Ac bx rfl T.b_abs (FAL.out (aa (fm (ac 0) (ac 1)) ad))))) ?_
 rfl
theorem iz:OkD P w K mg base C k "same_worth" fJ ["one","other"] (a2 (de t)):=ok2 mP fun one other _ _ _ _ _ _ _ _ bx _ _=>by
 show FL _ _ [vv one,vv other] _ _ _
 refine aq (ah (kl (ci bx (ac 0) (ac 1)) ae ae)) ?_
 rfl
theorem mV:OkD P w K mg base C k "check_word" fK ["thing","words"] (a2 (df t)):=ok2 mQ fun thing words _ _ _ _ _ _ _ _ bx _ made=>by
 show FL _ _ [vv thing,vv words] _ _ _
 refine lj (ay (uE bx (ac 0) (ac 1)) ?_ ?_ ?_)
 rfl
 ·refine sS (i7 5 bx made rfl T.c_NoRule T.x_NoRule (FAL.out (aa bh ad))) ?_
  rfl
 ·exact ak True.intro
theorem mW:OkD P w K mg base C k "check_rule" fL ["thing"] (a1 (dg t)):=ok1 mR fun thing _ _ _ _ _ _ _ _ bx _ _=>by
 show FL _ _ [vv thing] _ _ _
 refine aj (S':=fun _=>[vv thing]) (bJ (af bx G.g154 rfl (aa (ac 0) (aa (rL bx rfl T.b_list T.d_RULES rfl) ad)))) ?_ (fun _=>?_)
 rfl
 exact ak True.intro
theorem lX:OkD P w K mg base C k "check_sizes" et ["things"] (a1 (bV t)):=ok1 gI fun things _ _ _ _ _ _ _ _ bx hpo made=>by
 show FL _ _ [vv things,nn] _ _ _
 refine ar (inj:=fun (s:Unit) (w:Option Sl)=>[vv things,w]) (bM 1 (B:=fun (s:Unit) (w:Option Sl) x=>[vv things,vv x]) nn hpo rfl (aJ bx.K (ac 0)) ?_ (ax 1 gI.nd) rfl (fun _ _ _=>rfl) (fun s w x=>?_)) (fun _ w1=>?_)
 rfl
 ·refine lj (ay (bU bx (ag bx.K (ac 1) ae) (ag bx.K (ag bx.K (ac 0) ae) ae)) ?_ ?_ ?_)
  rfl
  ·refine sS (i7 4 bx made rfl T.c_Unlike T.x_Unlike (FAL.out (aa bh ad))) ?_
   rfl
  ·exact ak ⟨vv x,rfl⟩
 exact ak True.intro
theorem jv:OkD P w K mg base C k "check_pictures" cK ["pictures"] (a1 (aP t)):=ok1 dY fun pictures _ _ _ _ _ _ _ _ bx hpo _=>by
 show FL _ _ [vv pictures,nn] _ _ _
 refine ar (inj:=fun (s:Unit) (w:Option Sl)=>[vv pictures,w]) (bM 1 (B:=fun (s:Unit) (w:Option Sl) x=>[vv pictures,vv x]) nn hpo rfl (aJ bx.K (ac 0)) ?_ (ax 1 dY.nd) rfl (fun _ _ _=>rfl) (fun s w x=>?_)) (fun _ w1=>?_)
 rfl
 ·refine aj (S':=fun _=>[vv pictures,vv x]) (bJ (af bx G.g28 rfl (aa (ac 1) ad))) ?_ (fun _=>?_)
  rfl
  exact ak ⟨vv x,rfl⟩
 refine aj (S':=fun _=>[vv pictures,w1]) (bJ (af bx G.g158 rfl (aa (ac 0) ad))) ?_ (fun _=>?_)
 rfl
 exact ak True.intro
theorem lY:OkD P w K mg base C k "joined_tree" eu ["make","one","other"] (a3 (bj t)):=ok3 gJ fun make one other _ _ _ _ _ _ _ _ bx _ _=>by
 show FL _ _ [vv make,vv one,vv other,nn] _ _ _
 refine ar (inj:=fun (_:Unit) (w:Unit)=>[vv make,vv one,vv other,nn]) (ay (ft_w (gh (aU (aG (al bx rfl T.b_isinstance ba (ac 1) (aC rfl T.b_tuple (by decide +kernel) rfl)))) (fk (aU (aG (al bx rfl T.b_isinstance ba (ac 2) (aC rfl T.b_tuple (by decide +kernel) rfl))))))) ?_ ?_ ?_) (fun _ w=>?_)
 rfl
 ·refine aq (ah (pG bx G.v (ac 0) (aa (ac 1) (aa (ac 2) ad)))) ?_
  rfl
 ·exact ak ⟨(),rfl⟩
 refine aj (S':=fun couples=>[vv make,vv one,vv other,vv couples]) (aD 3 gJ.nd (pW bx rfl T.b_list rfl T.b_zip (aa (af bx G.g105 rfl (aa (ac 1) ad)) (aa (af bx G.g105 rfl (aa (ac 2) ad)) ad)))) ?_ (fun couples=>?_)
 rfl
 refine aq (ah (af bx G.g25 rfl (aa (fe_N (bd bx rfl T.b_tuple (FAL.out (aa (fe_C (aM (N:=["couple","make"]) (own:=1) (cap:=[0]) bx (BlkOk.of (by kernel_rfl)) (aJ bx.K (ac 3)) (aK (by decide)) (fun _ _ _ _ _=>ax 0 (show List.Nodup (α:=Str) ["couple","make"] by decide +kernel)) (fun _ _ _ _ _=>(af (ao bx) G.g160 rfl (aa (ac 1) (aa (ag (ao bx).K (ac 0) ae) (aa (ag (ao bx).K (ac 0) ae) ad))))))) ad)))) ad))) ?_
 rfl
theorem uX:OkD P w K mg base C k "joined" lJ ["rule","one","other"] (a3 (gr t)):=ok3 uT fun rule one other _ _ _ _ _ _ _ _ bx _ _=>by
 show FL _ _ [vv rule,vv one,vv other] _ _ _
 refine aj (S':=fun _=>[vv rule,vv one,vv other]) (bJ (af bx G.g155 rfl (aa (ac 0) ad))) ?_ (fun _=>?_)
 rfl
 refine aj (S':=fun _=>[vv rule,vv one,vv other]) (bJ (af bx G.g159 rfl (aa (aE (aa (ac 1) (aa (ac 2) ad))) ad))) ?_ (fun _=>?_)
 rfl
 refine aq (ah (az (aa (ag bx.K (ac 1) ae) (aa (af bx G.g160 rfl (aa (Ag bx T.d_RULES rfl (ac 0)) (aa (ag bx.K (ac 1) ae) (aa (ag bx.K (ac 2) ae) ad)))) ad)))) ?_
 rfl
theorem oS:OkD P w K mg base C k "worths_of" gK ["rows"] (a1 (dS t)):=ok1 fM fun rows _ _ _ _ _ _ _ _ bx hpo _=>by
 show FL _ _ [vv rows,nn,nn] _ _ _
 refine aO (S':=[vv rows,ow [],nn]) (fs_O (ck 1 fM.nd (FAL.out ad))) ?_ ?_
 rfl
 refine ar (inj:=fun (s:List D) (w:Option Sl)=>[vv rows,ow s,w]) (bM 2 (B:=fun (s:List D) (w:Option Sl) x=>[vv rows,ow s,vv x]) nn hpo rfl (aJ bx.K (ac 0)) ?_ (ax 2 fM.nd) rfl (fun _ _ _=>rfl) (fun s w x=>?_)) (fun worths1 w1=>?_)
 rfl
 ·refine aj (S':=fun worths=>[vv rows,ow worths,vv x]) (fs_X (bb 1 bx.K (FAL.out (aa (ac 2) ad)))) ?_ (fun worths=>?_)
  rfl
  exact ak ⟨vv x,rfl⟩
 refine cF 1 (S':=[vv rows,vv (.lst worths1),w1]) rfl rfl ?_
 refine aw (ah (ac 1)) ?_
 rfl
theorem uY:OkD P w K mg base C k "counts" lK ["picture"] (a1 (je t)):=ok1 nF fun picture _ _ _ _ _ _ _ _ bx _ _=>by
 show FL _ _ [vv picture,nn] _ _ _
 refine aj (S':=fun worths=>[vv picture,vv worths]) (aD 1 nF.nd (af bx G.g72 rfl (aa (af bx G.g50 rfl (aa (ac 0) ad)) ad))) ?_ (fun worths=>?_)
 rfl
 refine aq (ah (fe_N (bd bx rfl T.b_tuple (FAL.out (aa (fe_C (aM (N:=["worth","worths"]) (own:=1) (cap:=[1]) bx (BlkOk.of (by kernel_rfl)) (eO (aW rfl T.b_range (FAL.out (aa (aB bx.K (on T.k_GREATEST_WORTH rfl) ae) ad)))) (aK (by decide)) (fun _ _ _ _ _=>ax 0 (show List.Nodup (α:=Str) ["worth","worths"] by decide +kernel)) (fun _ _ _ _ _=>(sU (uz (ao bx) (ac 1) (FAL.out (aa (ac 0) ad))))))) ad))))) ?_
 rfl
theorem iA:OkD P w K mg base C k "is_setting" fN ["thing"] (a1 (dh t)):=ok1 mS fun thing _ _ _ _ _ _ _ _ bx _ _=>by
 show FL _ _ [vv thing] _ _ _
 refine aq (ah (y3 (AE (ac 0) bo) (gi (af bx G.g21 rfl (aa (ac 0) ad))))) ?_
 rfl
theorem oU:OkD P w K mg base C k "is_change" gL ["thing"] (a1 (dU t)):=ok1 oJ fun thing _ _ _ _ _ _ _ _ bx _ _=>by
 show FL _ _ [vv thing] _ _ _
 refine aq (ah (af bx G.g24 rfl (aa (ac 0) (aa (sT T.f_is_setting rfl) ad)))) ?_
 rfl
theorem kH:OkD P w K mg base C k "check_change" dH ["thing"] (a1 (cn t)):=ok1 kE fun thing _ _ _ _ _ _ _ _ bx _ made=>by
 show FL _ _ [vv thing] _ _ _
 refine lj (ay (aU (aG (af bx G.g231 rfl (aa (ac 0) ad)))) ?_ ?_ ?_)
 rfl
 ·refine sS (i7 7 bx made rfl T.c_NoChange T.x_NoChange (FAL.out (aa bh ad))) ?_
  rfl
 ·exact ak True.intro
theorem j7:OkD P w K mg base C k "check_changes" c7 ["one","other"] (a2 (aT t)):=ok2 jX fun one other _ _ _ _ _ _ _ _ bx _ _=>by
 show FL _ _ [vv one,vv other] _ _ _
 refine aj (S':=fun _=>[vv one,vv other]) (bJ (af bx G.g232 rfl (aa (ac 0) ad))) ?_ (fun _=>?_)
 rfl
 refine aj (S':=fun _=>[vv one,vv other]) (bJ (af bx G.g232 rfl (aa (ac 1) ad))) ?_ (fun _=>?_)
 rfl
 refine aj (S':=fun _=>[vv one,vv other]) (bJ (af bx G.g158 rfl (aa (aE (aa (ac 0) (aa (ac 1) ad))) ad))) ?_ (fun _=>?_)
 rfl
 exact ak True.intro
theorem lZ:OkD P w K mg base C k "lean_change" ez ["change"] (a1 (bW t)):=ok1 lL fun change _ _ _ _ _ _ _ _ bx _ _=>by
 show FL _ _ [vv change] _ _ _
 refine aj (S':=fun _=>[vv change]) (bJ (af bx G.g232 rfl (aa (ac 0) ad))) ?_ (fun _=>?_)
 rfl
 refine aq (ah (az (aa (ag bx.K (ac 0) ae) (aa (af bx G.g26 rfl (aa (ag bx.K (ac 0) ae) ad)) ad)))) ?_
 rfl
theorem kv:OkD P w K mg base C k "set_over" iM ["one","other"] (a2 (fB t)):=ok2 qi fun one other _ _ _ _ _ _ _ _ _ _ _=>by
 show FL _ _ [vv one,vv other] _ _ _
 refine aq (ah (kl (la (ac 1) bo) (ac 0) (ac 1))) ?_
 rfl
theorem kI:OkD P w K mg base C k "tree_between" dJ ["one","other"] (a2 (aS t)):=ok2 f9 fun one other _ _ _ _ _ _ _ _ bx _ _=>by
 show FL _ _ [vv one,vv other,nn] _ _ _
 refine ar (inj:=fun (_:Unit) (w:Unit)=>[vv one,vv other,nn]) (ay (ci bx (ac 0) (ac 1)) ?_ ?_ ?_) (fun _ w=>?_)
 rfl
 ·refine aw (ah bo) ?_
  rfl
 ·exact ak ⟨(),rfl⟩
 refine ar (inj:=fun (_:Unit) (w1:Unit)=>[vv one,vv other,nn]) (ay (aU (aG (al bx rfl T.b_isinstance ba (ac 1) (aC rfl T.b_tuple (by decide +kernel) rfl)))) ?_ ?_ ?_) (fun _ w1=>?_)
 rfl
 ·refine aw (ah (ac 1)) ?_
  rfl
 ·exact ak ⟨(),rfl⟩
 refine aj (S':=fun parts_=>[vv one,vv other,vv parts_]) (aD 2 f9.nd (af bx G.g105 rfl (aa (ac 0) ad))) ?_ (fun parts_=>?_)
 rfl
 refine aq (ah (fe_N (bd bx rfl T.b_tuple (FAL.out (aa (fe_C (aM (N:=["number","parts","other"]) (own:=1) (cap:=[2,1]) bx (BlkOk.of (by kernel_rfl)) (eO (aW rfl T.b_range (FAL.out (aa ae ad)))) (aK (by decide)) (fun _ _ _ _ _=>ax 0 (show List.Nodup (α:=Str) ["number","parts","other"] by decide +kernel)) (fun _ _ _ _ _=>(af (ao bx) G.g236 rfl (aa (ag (ao bx).K (ac 1) (ac 0)) (aa (ag (ao bx).K (ac 2) (ac 0)) ad)))))) ad))))) ?_
 rfl
theorem r6:OkD P w K mg base C k "between" jY ["one","other"] (a2 (hZ t)):=ok2 rV fun one other _ _ _ _ _ _ _ _ bx _ _=>by
 show FL _ _ [vv one,vv other] _ _ _
 refine aj (S':=fun _=>[vv one,vv other]) (bJ (af bx G.g159 rfl (aa (aE (aa (ac 0) (aa (ac 1) ad))) ad))) ?_ (fun _=>?_)
 rfl
 refine aq (ah (az (aa (ag bx.K (ac 0) ae) (aa (af bx G.g236 rfl (aa (af bx G.g26 rfl (aa (ag bx.K (ac 0) ae) ad)) (aa (af bx G.g26 rfl (aa (ag bx.K (ac 1) ae) ad)) ad))) ad)))) ?_
 rfl
theorem uZ:OkD P w K mg base C k "behind" lM ["one","other"] (a2 (jf t)):=ok2 uU fun one other _ _ _ _ _ _ _ _ bx _ _=>by
 show FL _ _ [vv one,vv other] _ _ _
 refine aj (S':=fun _=>[vv one,vv other]) (bJ (af bx G.g246 rfl (aa (ac 0) (aa (ac 1) ad)))) ?_ (fun _=>?_)
 rfl
 refine aq (ah (az (aa (ag bx.K (ac 0) ae) (aa (af bx G.g160 rfl (aa (sT T.f_set_over rfl) (aa (ag bx.K (ac 0) ae) (aa (ag bx.K (ac 1) ae) ad)))) ad)))) ?_
 rfl
theorem gZ:OkD P w K mg base C k "set_by_both" eB ["one","other"] (a2 (cN t)):=ok2 lN fun one other _ _ _ _ _ _ _ _ _ _ _=>by
 show FL _ _ [vv one,vv other] _ _ _
 refine aq (ah (kl (ft_w (bS (la (ac 0) bo) (bT (la (ac 1) bo)))) ae ae)) ?_
 rfl
theorem oV:OkD P w K mg base C k "are_apart" gM ["one","other"] (a2 (cR t)):=ok2 oK fun one other _ _ _ _ _ _ _ _ bx _ _=>by
 show FL _ _ [vv one,vv other] _ _ _
 refine aj (S':=fun _=>[vv one,vv other]) (bJ (af bx G.g246 rfl (aa (ac 0) (aa (ac 1) ad)))) ?_ (fun _=>?_)
 rfl
 refine aq (ah (px bx (af bx G.g160 rfl (aa (sT T.f_set_by_both rfl) (aa (ag bx.K (ac 0) ae) (aa (ag bx.K (ac 1) ae) ad)))) ae)) ?_
 rfl
theorem l4:OkD P w K mg base C k "squares_set" eD ["change"] (a1 (bX t)):=ok1 gN fun change _ _ _ _ _ _ _ _ bx _ _=>by
 show FL _ _ [vv change,nn] _ _ _
 refine aj (S':=fun squares=>[vv change,vv squares]) (aD 1 gN.nd (af bx G.g188 rfl (aa (ag bx.K (af bx G.g233 rfl (aa (ac 0) ad)) ae) (aa ae (aa ae (aa (af bx G.g45 rfl (aa (ac 0) ad)) ad)))))) ?_ (fun squares=>?_)
 rfl
 refine aq (ah (fe_C (cD (N:=["square"]) (own:=1) (cap:=[]) bx (BlkOk.of (by kernel_rfl)) (aJ bx.K (ac 1)) (aK (by decide)) (fun _ _ _ _ _=>ax 0 (show List.Nodup (α:=Str) ["square"] by decide +kernel)) (fun _ _ _ _ _=>(i5 (ag (ao bx).K (ac 0) ae) bo)) (fun _ _ _ _ _=>(ac 0))))) ?_
 rfl
theorem qp:OkD P w K mg base C k "many_set" iO ["change"] (a1 (dD t)):=ok1 qj fun change _ _ _ _ _ _ _ _ bx _ _=>by
 show FL _ _ [vv change] _ _ _
 refine aq (ah (fe_N (zR bx rfl T.b_sum (FAL.out (aa (fe_C (aM (N:=["square"]) (own:=1) (cap:=[]) bx (BlkOk.of (by kernel_rfl)) (aJ bx.K (af bx G.g253 rfl (aa (ac 0) ad))) (aK (by decide)) (fun _ _ _ _ _=>ax 0 (show List.Nodup (α:=Str) ["square"] by decide +kernel)) (fun _ _ _ _ _=>(aY (ao bx).K (ag (ao bx).K (ac 0) ae) (ag (ao bx).K (ac 0) ae))))) ad))))) ?_
 rfl
theorem j8:OkD P w K mg base C k "worths_unlike" c8 ["one","other"] (a2 (bw t)):=ok2 jZ fun one other _ _ _ _ _ _ _ _ bx _ _=>by
 show FL _ _ [vv one,vv other] _ _ _
 refine aq (ah (ag bx.K (af bx G.g75 rfl (aa (af bx G.g161 rfl (aa bh (aa (ac 0) (aa (ac 1) ad)))) ad)) ae)) ?_
 rfl
theorem u0:OkD P w K mg base C k "_law_cell" lO ["_law_script","_law_k"] (a2 (jg t)):=ok2 uV fun A1 Bb _ _ _ _ _ _ _ _ bx _ _=>by
 show FL _ _ [vv A1,vv Bb] _ _ _
 refine ar (inj:=fun (_:Unit) (w:Unit)=>[vv A1,vv Bb]) (ay (nq (ac 1) (fe_N (bi bx rfl T.b_len (FAL.out (aa (ac 0) ad))))) ?_ ?_ ?_) (fun _ w=>?_)
 rfl
 ·refine aq (ah (ag bx.K (ac 0) (ac 1))) ?_
  rfl
 ·exact ak ⟨(),rfl⟩
 refine ar (inj:=fun (_:Unit) (w1:Unit)=>[vv A1,vv Bb]) (ay (ci bx (ac 0) (aE ad)) ?_ ?_ ?_) (fun _ w1=>?_)
 rfl
 ·refine aw (ah ae) ?_
  rfl
 ·exact ak ⟨(),rfl⟩
 refine aq (ah (aB bx.K (aY bx.K (ag bx.K (ac 0) (dA (ac 1) (fe_N (bi bx rfl T.b_len (FAL.out (aa (ac 0) ad)))))) ae) (ac 1))) ?_
 rfl
theorem u5:OkD P w K mg base C k "_law_pick" lP ["_law_script","_law_k","_law_many"] (a3 (jh t)):=ok3 nG fun A1 Bb BY _ _ _ _ _ _ _ _ bx _ _=>by
 show FL _ _ [vv A1,vv Bb,vv BY,nn] _ _ _
 refine aj (S':=fun BH=>[vv A1,vv Bb,vv BY,vv BH]) (aD 3 nG.nd (dA (aY bx.K (aB bx.K (af bx G.g30 rfl (aa (ac 0) (aa (ac 1) ad))) (aY bx.K ae (aB bx.K (ac 1) ae))) ae) ae)) ?_ (fun BH=>?_)
 rfl
 refine aq (ah (dA (dA (aB bx.K (aY bx.K (ac 3) (ac 3)) (cY (ac 3) ae)) ae) (ac 2))) ?_
 rfl
theorem u6:OkD P w K mg base C k "_law_tree" lQ ["_law_script","_law_at","_law_size"] (a3 (gu t)):=ok3 nH fun A1 Bn A2 _ _ _ _ _ _ _ _ bx _ _=>by
 show FL _ _ [vv A1,vv Bn,vv A2,nn] _ _ _
 refine aj (S':=fun Bv=>[vv A1,vv Bn,vv A2,vv Bv]) (aD 3 nH.nd (af bx G.g31 rfl (aa (ac 0) (aa (ac 1) (aa ae ad))))) ?_ (fun Bv=>?_)
 rfl
 refine ar (inj:=fun (_:Unit) (w:Unit)=>[vv A1,vv Bn,vv A2,vv Bv]) (ay (ft_w (bS (ci bx (ac 2) ae) (bT (nq (ac 3) ae)))) ?_ ?_ ?_) (fun _ w=>?_)
 rfl
 ·refine aq (ah (ag bx.K (aE (aa ae (aa ae (aa ae (aa ae (aa ae (aa (af bx G.g31 rfl (aa (ac 0) (aa (aB bx.K (ac 1) ae) (aa ae ad)))) ad))))))) (af bx G.g31 rfl (aa (ac 0) (aa (aB bx.K (ac 1) ae) (aa ae ad)))))) ?_
  rfl
 ·exact ak ⟨(),rfl⟩
 refine ar (inj:=fun (_:Unit) (w1:Unit)=>[vv A1,vv Bn,vv A2,vv Bv]) (ay (ci bx (ac 3) ae) ?_ ?_ ?_) (fun _ w1=>?_)
 rfl
 ·refine aq (ah (aY bx.K (az (aa (af bx G.g32 rfl (aa (ac 0) (aa (aB bx.K (ac 1) ae) (aa (fm (ac 2) ae) ad)))) ad)) ae)) ?_
  rfl
 ·exact ak ⟨(),rfl⟩
 refine aq (ah (fe_N (bd bx rfl T.b_tuple (FAL.out (aa (fe_C (aM (N:=["_law_k","_law_script","_law_size","_law_at"]) (own:=1) (cap:=[0,2,1]) bx (BlkOk.of (by kernel_rfl)) (eO (aW rfl T.b_range (FAL.out (aa ae ad)))) (aK (by decide)) (fun _ _ _ _ _=>ax 0 (show List.Nodup (α:=Str) ["_law_k","_law_script","_law_size","_law_at"] by decide +kernel)) (fun _ _ _ _ _=>(af (ao bx) G.g32 rfl (aa (ac 1) (aa (aB (ao bx).K (aB (ao bx).K (aY (ao bx).K ae (ac 3)) ae) (aY (ao bx).K ae (ac 0))) (aa (fm (ac 2) ae) ad))))))) ad))))) ?_
 rfl
theorem oW:OkD P w K mg base C k "_law_rows_of" gO ["_law_size","_law_tree_here"] (a2 (cS t)):=ok2 cw fun A2 A4 _ _ _ _ _ _ _ _ bx hpo _=>by
 show FL _ _ [vv A2,vv A4,nn,nn,nn,nn] _ _ _
 refine ar (inj:=fun (_:Unit) (w:Unit)=>[vv A2,vv A4,nn,nn,nn,nn]) (ay (ci bx (ac 0) ae) ?_ ?_ ?_) (fun _ w=>?_)
 rfl
 ·refine aw (ah (aE (aa (aE (aa (ac 1) ad)) ad))) ?_
  rfl
 ·exact ak ⟨(),rfl⟩
 refine aj (S':=fun A8=>[vv A2,vv A4,vv A8,nn,nn,nn]) (aD 2 cw.nd (kl (aG (al bx rfl T.b_isinstance ba (ac 1) (aC rfl T.b_tuple (by decide +kernel) rfl))) (ac 1) (aY bx.K (az (aa (ac 1) ad)) ae))) ?_ (fun A8=>?_)
 rfl
 refine aj (S':=fun A9=>[vv A2,vv A4,vv A8,vv A9,nn,nn]) (aD 3 cw.nd (fe_C (aM (N:=["_law_part","_law_size"]) (own:=1) (cap:=[0]) bx (BlkOk.of (by kernel_rfl)) (aJ bx.K (ac 2)) (aK (by decide)) (fun _ _ _ _ _=>ax 0 (show List.Nodup (α:=Str) ["_law_part","_law_size"] by decide +kernel)) (fun _ _ _ _ _=>(af (ao bx) G.g54 rfl (aa (fm (ac 1) ae) (aa (ac 0) ad)))))) (hs:=by kernel_rfl)) ?_ (fun A9=>?_)
 rfl
 refine aO (S':=[vv A2,vv A4,vv A8,vv A9,ow [],nn]) (fs_O (ck 4 cw.nd (FAL.out ad))) ?_ ?_
 rfl
 refine ar (inj:=fun (s:List D) (w1:Option Sl)=>[vv A2,vv A4,vv A8,vv A9,ow s,w1]) (bM 5 (B:=fun (s:List D) (w1:Option Sl) x1=>[vv A2,vv A4,vv A8,vv A9,ow s,vv x1]) nn hpo rfl (aJ bx.K (az (aa ae (aa ae ad)))) ?_ (ax 5 cw.nd) rfl (fun _ _ _=>rfl) (fun s w1 x1=>?_)) (fun Be w2=>?_)
 rfl
 ·refine aj (S':=fun Bi=>[vv A2,vv A4,vv A8,vv A9,ow Bi,vv x1]) (fs_X (bb 4 bx.K (FAL.out (aa (fe_C (aM (N:=["_law_k","_law_some","_law_upper"]) (own:=1) (cap:=[3,5]) bx (BlkOk.of (by kernel_rfl)) (eO (aW rfl T.b_range (FAL.out (aa (fe_N (bi bx rfl T.b_len (FAL.out (aa (ag bx.K (ac 3) (ac 5)) ad)))) ad)))) (aK (by decide)) (fun _ _ _ _ _=>ax 0 (show List.Nodup (α:=Str) ["_law_k","_law_some","_law_upper"] by decide +kernel)) (fun _ _ _ _ _=>(aB (ao bx).K (ag (ao bx).K (ag (ao bx).K (ac 1) (ac 2)) (ac 0)) (ag (ao bx).K (ag (ao bx).K (ac 1) (aB (ao bx).K (ac 2) ae)) (ac 0)))))) ad)))) ?_ (fun Bi=>?_)
  rfl
  exact ak ⟨vv x1,rfl⟩
 refine cF 4 (S':=[vv A2,vv A4,vv A8,vv A9,vv (.lst Be),w2]) rfl rfl ?_
 refine aw (ah (ac 4)) ?_
 rfl
theorem u7:OkD P w K mg base C k "_law_rows" lR ["_law_picture_here"] (a1 (ji t)):=ok1 uW fun Bz _ _ _ _ _ _ _ _ bx _ _=>by
 show FL _ _ [vv Bz] _ _ _
 refine aq (ah (fe_N (bd bx rfl T.b_tuple (FAL.out (aa (fe_C (aM (N:=["_law_row"]) (own:=1) (cap:=[]) bx (BlkOk.of (by kernel_rfl)) (aJ bx.K (af bx G.g54 rfl (aa (ag bx.K (ac 0) ae) (aa (ag bx.K (ac 0) ae) ad)))) (aK (by decide)) (fun _ _ _ _ _=>ax 0 (show List.Nodup (α:=Str) ["_law_row"] by decide +kernel)) (fun _ _ _ _ _=>(fe_N (bd (ao bx) rfl T.b_tuple (FAL.out (aa (ac 0) ad))))))) ad))))) ?_
 rfl
theorem r8:OkD P w K mg base C k "_law_least" j0 ["_law_rows_here"] (a1 (eV t)):=ok1 ce fun A0 _ _ _ _ _ _ _ _ bx hpo _=>by
 show FL _ _ [vv A0,nn,nn,nn,nn,nn,nn] _ _ _
 refine aO (S':=[vv A0,ow [],nn,nn,nn,nn,nn]) (fs_O (ck 1 ce.nd (FAL.out ad))) ?_ ?_
 rfl
 refine ar (inj:=fun (s:List D) (w:Option Sl)=>[vv A0,ow s,w,nn,nn,nn,nn]) (bM 2 (B:=fun (s:List D) (w:Option Sl) x=>[vv A0,ow s,vv x,nn,nn,nn,nn]) nn hpo rfl (aJ bx.K (ac 0)) ?_ (ax 2 ce.nd) rfl (fun _ _ _=>rfl) (fun s w x=>?_)) (fun Bj w1=>?_)
 rfl
 ·refine aj (S':=fun BN=>[vv A0,ow BN,vv x,nn,nn,nn,nn]) (fs_X (bb 1 bx.K (FAL.out (aa (ac 2) ad)))) ?_ (fun BN=>?_)
  rfl
  exact ak ⟨vv x,rfl⟩
 refine cF 1 (S':=[vv A0,vv (.lst Bj),w1,nn,nn,nn,nn]) rfl rfl ?_
 refine ar (inj:=fun (_:Unit) (w2:Unit)=>[vv A0,vv (.lst Bj),w1,nn,nn,nn,nn]) (ay (ci bx (fe_N (uG bx rfl T.b_len rfl T.b_set (FAL.out (aa (ac 1) ad)))) ae) ?_ ?_ ?_) (fun _ w2=>?_)
 rfl
 ·refine aq (ah (ag bx.K (ac 1) ae)) ?_
  rfl
 ·exact ak ⟨(),rfl⟩
 refine aj (S':=fun Ba=>[vv A0,vv (.lst Bj),w1,vv Ba,nn,nn,nn]) (aD 3 ce.nd (cY (fe_N (bi bx rfl T.b_len (FAL.out (aa (ac 0) ad)))) ae)) ?_ (fun Ba=>?_)
 rfl
 refine aO (S':=[vv A0,vv (.lst Bj),w1,vv Ba,ow [],nn,nn]) (fs_O (ck 4 ce.nd (FAL.out ad))) ?_ ?_
 rfl
 refine ar (inj:=fun (s1:List D) (w3:Option Sl×Option Sl)=>[vv A0,vv (.lst Bj),w1,vv Ba,ow s1,w3.1,w3.2]) (bM 5 (B:=fun (s1:List D) (w3:Option Sl×Option Sl) x3=>[vv A0,vv (.lst Bj),w1,vv Ba,ow s1,vv x3,w3.2]) (nn,nn) hpo rfl (aJ bx.K (az (aa ae (aa (ac 3) ad)))) ?_ (ax 5 ce.nd) rfl (fun _ _ _=>rfl) (fun s1 w3 x3=>?_)) (fun Bt w6=>?_)
 rfl
 ·refine ar (inj:=fun (s2:List D) (w4:Option Sl)=>[vv A0,vv (.lst Bj),w1,vv Ba,ow s2,vv x3,w4]) (bM 6 (B:=fun (s2:List D) (w4:Option Sl) x4=>[vv A0,vv (.lst Bj),w1,vv Ba,ow s2,vv x3,vv x4]) w3.2 hpo rfl (aJ bx.K (az (aa ae (aa (ac 3) ad)))) ?_ (ax 6 ce.nd) rfl (fun _ _ _=>rfl) (fun s2 w4 x4=>?_)) (fun BI w5=>?_)
  rfl
  ·refine aj (S':=fun A8=>[vv A0,vv (.lst Bj),w1,vv Ba,ow A8,vv x3,vv x4]) (fs_A (hG 4 (FAL.out (aa (af bx G.g56 rfl (aa (fe_C (aM (N:=["_law_row","_law_left","_law_half"]) (own:=1) (cap:=[6,3]) bx (BlkOk.of (by kernel_rfl)) (aJ bx.K (iG bx.K (ac 0) (gm (ac 5)) (gm (aB bx.K (ac 5) (ac 3))))) (aK (by decide)) (fun _ _ _ _ _=>ax 0 (show List.Nodup (α:=Str) ["_law_row","_law_left","_law_half"] by decide +kernel)) (fun _ _ _ _ _=>(iG (ao bx).K (ac 0) (gm (ac 1)) (gm (aB (ao bx).K (ac 1) (ac 2))))))) ad)) ad)))) ?_ (fun A8=>?_)
   rfl
   exact ak ⟨vv x4,rfl⟩
  exact ak ⟨(vv x3,w5),rfl⟩
 refine cF 4 (S':=[vv A0,vv (.lst Bj),w1,vv Ba,vv (.lst Bt),w6.1,w6.2]) rfl rfl ?_
 refine aq (ah (fe_N (bd bx rfl T.b_tuple (FAL.out (aa (ac 4) ad))))) ?_
 rfl
theorem yy:OkD P w K mg base C k "_law_of" rW ["_law_rows_here"] (a1 (oA t)):=ok1 yx fun A0 _ _ _ _ _ _ _ _ bx _ _=>by
 show FL _ _ [vv A0] _ _ _
 refine aq (ah (az (aa (sU (uC bx (aE (aa ae (aa ae (aa ae (aa ae ad))))) (FAL.out (aa (fe_N (bi bx rfl T.b_len (FAL.out (aa (ac 0) ad)))) ad)))) (aa (af bx G.g56 rfl (aa (ac 0) ad)) ad)))) ?_
 rfl
theorem qq:OkD P w K mg base C k "_law_places" iP ["_law_thing"] (a1 (dF t)):=ok1 gP fun A3 _ _ _ _ _ _ _ _ bx hpo _=>by
 show FL _ _ [vv A3,nn,nn] _ _ _
 refine aO (S':=[vv A3,ow ([(.tup [])]),nn]) (fs_O (ck 1 gP.nd (FAL.out (aa (az ad) ad)))) ?_ ?_
 rfl
 refine ar (inj:=fun (BL:List D) (w2:Option Sl)=>[vv A3,ow BL,w2]) (ay (aG (al bx rfl T.b_isinstance ba (ac 0) (aC rfl T.b_tuple (by decide +kernel) rfl))) ?_ ?_ ?_) (fun BL w2=>?_)
 rfl
 ·refine ar (inj:=fun (s:List D) (w:Option Sl)=>[vv A3,ow s,w]) (bM 2 (B:=fun (s:List D) (w:Option Sl) x1=>[vv A3,ow s,vv x1]) nn hpo rfl (eO (aW rfl T.b_range (FAL.out (aa (fe_N (bi bx rfl T.b_len (FAL.out (aa (ac 0) ad)))) ad)))) ?_ (ax 2 gP.nd) rfl (fun _ _ _=>rfl) (fun s w x1=>?_)) (fun Be w1=>?_)
  rfl
  ·refine aj (S':=fun Bi=>[vv A3,ow Bi,vv x1]) (fs_X (bb 1 bx.K (FAL.out (aa (fe_C (aM (N:=["_law_place","_law_k"]) (own:=1) (cap:=[2]) bx (BlkOk.of (by kernel_rfl)) (aJ bx.K (af bx G.g34 rfl (aa (ag bx.K (ac 0) (ac 2)) ad))) (aK (by decide)) (fun _ _ _ _ _=>ax 0 (show List.Nodup (α:=Str) ["_law_place","_law_k"] by decide +kernel)) (fun _ _ _ _ _=>(aB (ao bx).K (az (aa (ac 1) ad)) (ac 0))))) ad)))) ?_ (fun Bi=>?_)
   rfl
   exact ak ⟨vv x1,rfl⟩
  exact ak ⟨w1,rfl⟩
 ·exact ak ⟨nn,rfl⟩
 refine cF 1 (S':=[vv A3,vv (.lst BL),w2]) rfl rfl ?_
 refine aw (ah (ac 1)) ?_
 rfl
theorem wN:OkD P w K mg base C k "_law_put" oM ["_law_thing","_law_place","_law_new"] (a3 (jj t)):=ok3 ql fun A3 Bf BC _ _ _ _ _ _ _ _ bx _ _=>by
 show FL _ _ [vv A3,vv Bf,vv BC,nn] _ _ _
 refine ar (inj:=fun (_:Unit) (w:Unit)=>[vv A3,vv Bf,vv BC,nn]) (ay (ci bx (ac 1) (az ad)) ?_ ?_ ?_) (fun _ w=>?_)
 rfl
 ·refine aw (ah (ac 2)) ?_
  rfl
 ·exact ak ⟨(),rfl⟩
 refine aj (S':=fun Bb=>[vv A3,vv Bf,vv BC,vv Bb]) (aD 3 ql.nd (ag bx.K (ac 1) ae)) ?_ (fun Bb=>?_)
 rfl
 refine aq (ah (aB bx.K (aB bx.K (iG bx.K (ac 0) wa (gm (ac 3))) (az (aa (af bx G.g35 rfl (aa (ag bx.K (ac 0) (ac 3)) (aa (iG bx.K (ac 1) (gm ae) wa) (aa (ac 2) ad)))) ad))) (iG bx.K (ac 0) (gm (aB bx.K (ac 3) ae)) wa))) ?_
 rfl
theorem r9:OkD P w K mg base C k "_law_there" j3 ["_law_thing","_law_place"] (a2 (ia t)):=ok2 iQ fun A3 Bf _ _ _ _ _ _ _ _ bx hpo _=>by
 show FL _ _ [vv A3,vv Bf,nn] _ _ _
 refine ar (inj:=fun (s:D) (w:Option Sl)=>[vv s,vv Bf,w]) (bM 2 (B:=fun (s:D) (w:Option Sl) x=>[vv s,vv Bf,vv x]) nn hpo rfl (aJ bx.K (ac 1)) ?_ (ax 2 iQ.nd) rfl (fun _ _ _=>rfl) (fun s w x=>?_)) (fun BZ w1=>?_)
 rfl
 ·refine aj (S':=fun BO=>[vv BO,vv Bf,vv x]) (aD 0 iQ.nd (ag bx.K (ac 0) (ac 2))) ?_ (fun BO=>?_)
  rfl
  exact ak ⟨vv x,rfl⟩
 refine aw (ah (ac 0)) ?_
 rfl
theorem jw:OkD P w K mg base C k "_law_spoilt_thing" cL ["_law_script","_law_at","_law_thing"] (a3 (bO t)):=ok3 bf fun A1 Bn A3 _ _ _ _ _ _ _ _ bx _ _=>by
 show FL _ _ [vv A1,vv Bn,vv A3,nn,nn,nn,nn] _ _ _
 refine aj (S':=fun Bl=>[vv A1,vv Bn,vv A3,vv Bl,nn,nn,nn]) (aD 3 bf.nd (af bx G.g34 rfl (aa (ac 2) ad))) ?_ (fun Bl=>?_)
 rfl
 refine aj (S':=fun Bf=>[vv A1,vv Bn,vv A3,vv Bl,vv Bf,nn,nn]) (aD 4 bf.nd (ag bx.K (ac 3) (af bx G.g31 rfl (aa (ac 0) (aa (ac 1) (aa (fe_N (bi bx rfl T.b_len (FAL.out (aa (ac 3) ad)))) ad)))))) ?_ (fun Bf=>?_)
 rfl
 refine aj (S':=fun BM=>[vv A1,vv Bn,vv A3,vv Bl,vv Bf,vv BM,nn]) (aD 5 bf.nd (af bx G.g36 rfl (aa (ac 2) (aa (ac 4) ad)))) ?_ (fun BM=>?_)
 rfl
 refine aO (S':=[vv A1,vv Bn,vv A3,vv Bl,vv Bf,vv BM,ow ([(.int (-1)),(.int 0),(.int 3),(.int 4),(.int 9),(.int 10),(.bl true),.non,(.str "1"),(.tup []),(.tup [(.int 1),(.int 2),(.int 3)]),(.tup [(.int 1),(.int 1),(.int 1),(.int 1)]),(.tup [(.int 1),(.int 2),(.int 3),(.int 4),(.int 5)])])]) (fs_O (ck 6 bf.nd (FAL.out (aa (zQ ae) (aa ae (aa ae (aa ae (aa ae (aa ae (aa cg (aa bo (aa bh (aa (az ad) (aa (az (aa ae (aa ae (aa ae ad)))) (aa (az (aa ae (aa ae (aa ae (aa ae ad))))) (aa (az (aa ae (aa ae (aa ae (aa ae (aa ae ad)))))) ad)))))))))))))))) ?_ ?_
 rfl
 refine aj (S':=fun A9=>[vv A1,vv Bn,vv A3,vv Bl,vv Bf,vv BM,ow A9]) (fs_X (bb 6 bx.K (FAL.out (aa (aE (aa (aE (aa ae (aa ae (aa ae (aa ae ad))))) (aa (aY bx.K (az (aa (ac 5) ad)) ae) ad))) ad)))) ?_ (fun A9=>?_)
 rfl
 refine aq (ah (af bx G.g35 rfl (aa (ac 2) (aa (ac 4) (aa (wm 6 bx.K (af bx G.g31 rfl (aa (ac 0) (aa (aB bx.K (ac 1) ae) (aa ae ad))))) ad))))) ?_
 rfl
theorem kJ:OkD P w K mg base C k "_law_is_picture" dL ["_law_thing"] (a1 (cp t)):=ok1 kF fun A3 _ _ _ _ _ _ _ _ bx _ _=>by
 show FL _ _ [vv A3] _ _ _
 refine ar (inj:=fun (_:Unit) (w:Unit)=>[vv A3]) (ay (ft_w (bS (aU (aG (al bx rfl T.b_isinstance ba (ac 0) (aC rfl T.b_tuple (by decide +kernel) rfl)))) (bS (bU bx (fe_N (bi bx rfl T.b_len (FAL.out (aa (ac 0) ad)))) ae) (bS (aU (aG (al bx rfl T.b_isinstance i6 (ag bx.K (ac 0) ae) (aC rfl T.b_int (by decide +kernel) rfl)))) (bT (aG (al bx rfl T.b_isinstance gn (ag bx.K (ac 0) ae) (aC rfl T.b_bool (by decide +kernel) rfl)))))))) ?_ ?_ ?_) (fun _ w=>?_)
 rfl
 ·refine aw (ah cg) ?_
  rfl
 ·exact ak ⟨(),rfl⟩
 refine aq (ah (jF (iZ ae (ag bx.K (ac 0) ae) ae) (gi (af bx G.g39 rfl (aa (ag bx.K (ac 0) ae) (aa (ag bx.K (ac 0) ae) ad)))))) ?_
 rfl
theorem oX:OkD P w K mg base C k "_law_is_tree" gQ ["_law_thing","_law_size"] (a2 (cT t)):=ok2 oN fun A3 A2 _ _ _ _ _ _ _ _ bx _ _=>by
 show FL _ _ [vv A3,vv A2] _ _ _
 refine ar (inj:=fun (_:Unit) (w:Unit)=>[vv A3,vv A2]) (ay (ft_w (gh (aG (al bx rfl T.b_isinstance i6 (ac 0) (aC rfl T.b_int (by decide +kernel) rfl))) (fk (aU (aG (al bx rfl T.b_isinstance gn (ac 0) (aC rfl T.b_bool (by decide +kernel) rfl))))))) ?_ ?_ ?_) (fun _ w=>?_)
 rfl
 ·refine aq (ah (iZ ae (ac 0) ae)) ?_
  rfl
 ·exact ak ⟨(),rfl⟩
 refine ar (inj:=fun (_:Unit) (w1:Unit)=>[vv A3,vv A2]) (ay (ft_w (bS (aU (aG (al bx rfl T.b_isinstance ba (ac 0) (aC rfl T.b_tuple (by decide +kernel) rfl)))) (bS (bU bx (fe_N (bi bx rfl T.b_len (FAL.out (aa (ac 0) ad)))) ae) (bT (ci bx (ac 1) ae))))) ?_ ?_ ?_) (fun _ w1=>?_)
 rfl
 ·refine aw (ah cg) ?_
  rfl
 ·exact ak ⟨(),rfl⟩
 refine aq (ah (px bx (fe_C (cD (N:=["_law_part","_law_size"]) (own:=1) (cap:=[1]) bx (BlkOk.of (by kernel_rfl)) (aJ bx.K (ac 0)) (aK (by decide)) (fun _ _ _ _ _=>ax 0 (show List.Nodup (α:=Str) ["_law_part","_law_size"] by decide +kernel)) (fun _ _ _ _ _=>(aU (aG (af (ao bx) G.g39 rfl (aa (ac 0) (aa (fm (ac 1) ae) ad)))))) (fun _ _ _ _ _=>(ac 0)))) (aE ad))) ?_
 rfl
theorem l5:OkD P w K mg base C k "_law_is_change" eE ["_law_thing"] (a1 (cO t)):=ok1 lT fun A3 _ _ _ _ _ _ _ _ bx _ _=>by
 show FL _ _ [vv A3] _ _ _
 refine ar (inj:=fun (_:Unit) (w:Unit)=>[vv A3]) (ay (ft_w (bS (aU (aG (al bx rfl T.b_isinstance ba (ac 0) (aC rfl T.b_tuple (by decide +kernel) rfl)))) (bS (bU bx (fe_N (bi bx rfl T.b_len (FAL.out (aa (ac 0) ad)))) ae) (bS (aU (aG (al bx rfl T.b_isinstance i6 (ag bx.K (ac 0) ae) (aC rfl T.b_int (by decide +kernel) rfl)))) (bT (aG (al bx rfl T.b_isinstance gn (ag bx.K (ac 0) ae) (aC rfl T.b_bool (by decide +kernel) rfl)))))))) ?_ ?_ ?_) (fun _ w=>?_)
 rfl
 ·refine aw (ah cg) ?_
  rfl
 ·exact ak ⟨(),rfl⟩
 refine aq (ah (jF (iZ ae (ag bx.K (ac 0) ae) ae) (gi (af bx G.g239 rfl (aa (ag bx.K (ac 0) ae) (aa (ag bx.K (ac 0) ae) ad)))))) ?_
 rfl
theorem im:OkD P w K mg base C k "_law_is_change_tree" cf ["_law_thing","_law_size"] (a2 (aZ t)):=ok2 il fun A3 A2 _ _ _ _ _ _ _ _ bx _ _=>by
 show FL _ _ [vv A3,vv A2] _ _ _
 refine ar (inj:=fun (_:Unit) (w:Unit)=>[vv A3,vv A2]) (ay (ft_w (bS (la (ac 0) bo) (bT (ft_w (gh (aG (al bx rfl T.b_isinstance i6 (ac 0) (aC rfl T.b_int (by decide +kernel) rfl))) (gh (aU (aG (al bx rfl T.b_isinstance gn (ac 0) (aC rfl T.b_bool (by decide +kernel) rfl)))) (fk (xV ae (ac 0) ae)))))))) ?_ ?_ ?_) (fun _ w=>?_)
 rfl
 ·refine aw (ah cg) ?_
  rfl
 ·exact ak ⟨(),rfl⟩
 refine ar (inj:=fun (_:Unit) (w1:Unit)=>[vv A3,vv A2]) (ay (ft_w (bS (aU (aG (al bx rfl T.b_isinstance ba (ac 0) (aC rfl T.b_tuple (by decide +kernel) rfl)))) (bS (bU bx (fe_N (bi bx rfl T.b_len (FAL.out (aa (ac 0) ad)))) ae) (bT (ci bx (ac 1) ae))))) ?_ ?_ ?_) (fun _ w1=>?_)
 rfl
 ·refine aw (ah cg) ?_
  rfl
 ·exact ak ⟨(),rfl⟩
 refine aq (ah (px bx (fe_C (cD (N:=["_law_part","_law_size"]) (own:=1) (cap:=[1]) bx (BlkOk.of (by kernel_rfl)) (aJ bx.K (ac 0)) (aK (by decide)) (fun _ _ _ _ _=>ax 0 (show List.Nodup (α:=Str) ["_law_part","_law_size"] by decide +kernel)) (fun _ _ _ _ _=>(aU (aG (af (ao bx) G.g239 rfl (aa (ac 0) (aa (fm (ac 1) ae) ad)))))) (fun _ _ _ _ _=>(ac 0)))) (aE ad))) ?_
 rfl
theorem j9:OkD P w K mg base C k "_law_change_tree" c9 ["_law_script","_law_at","_law_size"] (a3 (bz t)):=ok3 e7 fun A1 Bn A2 _ _ _ _ _ _ _ _ bx _ _=>by
 show FL _ _ [vv A1,vv Bn,vv A2,nn] _ _ _
 refine aj (S':=fun Bv=>[vv A1,vv Bn,vv A2,vv Bv]) (aD 3 e7.nd (af bx G.g31 rfl (aa (ac 0) (aa (ac 1) (aa ae ad))))) ?_ (fun Bv=>?_)
 rfl
 refine ar (inj:=fun (_:Unit) (w:Unit)=>[vv A1,vv Bn,vv A2,vv Bv]) (ay (ft_w (bS (nq (ac 3) ae) (bT (ft_w (gh (ci bx (ac 2) ae) (fk (nq (ac 3) ae))))))) ?_ ?_ ?_) (fun _ w=>?_)
 rfl
 ·refine aw (ah bo) ?_
  rfl
 ·exact ak ⟨(),rfl⟩
 refine ar (inj:=fun (_:Unit) (w1:Unit)=>[vv A1,vv Bn,vv A2,vv Bv]) (ay (ft_w (bS (ci bx (ac 2) ae) (bT (ci bx (ac 3) ae)))) ?_ ?_ ?_) (fun _ w1=>?_)
 rfl
 ·refine aq (ah (ag bx.K (aE (aa ae (aa ae (aa ae (aa (af bx G.g31 rfl (aa (ac 0) (aa (aB bx.K (ac 1) ae) (aa ae ad)))) ad))))) (af bx G.g31 rfl (aa (ac 0) (aa (aB bx.K (ac 1) ae) (aa ae ad)))))) ?_
  rfl
 ·exact ak ⟨(),rfl⟩
 refine aq (ah (fe_N (bd bx rfl T.b_tuple (FAL.out (aa (fe_C (aM (N:=["_law_k","_law_script","_law_size","_law_at"]) (own:=1) (cap:=[0,2,1]) bx (BlkOk.of (by kernel_rfl)) (eO (aW rfl T.b_range (FAL.out (aa ae ad)))) (aK (by decide)) (fun _ _ _ _ _=>ax 0 (show List.Nodup (α:=Str) ["_law_k","_law_script","_law_size","_law_at"] by decide +kernel)) (fun _ _ _ _ _=>(af (ao bx) G.g240 rfl (aa (ac 1) (aa (aB (ao bx).K (aB (ao bx).K (aY (ao bx).K ae (ac 3)) ae) (aY (ao bx).K ae (ac 0))) (aa (fm (ac 2) ae) ad))))))) ad))))) ?_
 rfl
theorem wO:OkD P w K mg base C k "_law_set" oO ["_law_size","_law_tree_here"] (a2 (jk t)):=ok2 gR fun A2 A4 _ _ _ _ _ _ _ _ bx hpo _=>by
 show FL _ _ [vv A2,vv A4,nn,nn,nn,nn] _ _ _
 refine ar (inj:=fun (_:Unit) (w:Unit)=>[vv A2,vv A4,nn,nn,nn,nn]) (ay (ci bx (ac 0) ae) ?_ ?_ ?_) (fun _ w=>?_)
 rfl
 ·refine aw (ah (aE (aa (aE (aa (ac 1) ad)) ad))) ?_
  rfl
 ·exact ak ⟨(),rfl⟩
 refine aj (S':=fun A8=>[vv A2,vv A4,vv A8,nn,nn,nn]) (aD 2 gR.nd (kl (aG (al bx rfl T.b_isinstance ba (ac 1) (aC rfl T.b_tuple (by decide +kernel) rfl))) (ac 1) (aY bx.K (az (aa (ac 1) ad)) ae))) ?_ (fun A8=>?_)
 rfl
 refine aj (S':=fun A9=>[vv A2,vv A4,vv A8,vv A9,nn,nn]) (aD 3 gR.nd (fe_C (aM (N:=["_law_part","_law_size"]) (own:=1) (cap:=[0]) bx (BlkOk.of (by kernel_rfl)) (aJ bx.K (ac 2)) (aK (by decide)) (fun _ _ _ _ _=>ax 0 (show List.Nodup (α:=Str) ["_law_part","_law_size"] by decide +kernel)) (fun _ _ _ _ _=>(af (ao bx) G.g241 rfl (aa (fm (ac 1) ae) (aa (ac 0) ad)))))) (hs:=by kernel_rfl)) ?_ (fun A9=>?_)
 rfl
 refine aO (S':=[vv A2,vv A4,vv A8,vv A9,ow [],nn]) (fs_O (ck 4 gR.nd (FAL.out ad))) ?_ ?_
 rfl
 refine ar (inj:=fun (s:List D) (w1:Option Sl)=>[vv A2,vv A4,vv A8,vv A9,ow s,w1]) (bM 5 (B:=fun (s:List D) (w1:Option Sl) x1=>[vv A2,vv A4,vv A8,vv A9,ow s,vv x1]) nn hpo rfl (aJ bx.K (az (aa ae (aa ae ad)))) ?_ (ax 5 gR.nd) rfl (fun _ _ _=>rfl) (fun s w1 x1=>?_)) (fun Be w2=>?_)
 rfl
 ·refine aj (S':=fun Bi=>[vv A2,vv A4,vv A8,vv A9,ow Bi,vv x1]) (fs_X (bb 4 bx.K (FAL.out (aa (fe_C (aM (N:=["_law_k","_law_some","_law_upper"]) (own:=1) (cap:=[3,5]) bx (BlkOk.of (by kernel_rfl)) (eO (aW rfl T.b_range (FAL.out (aa (fe_N (bi bx rfl T.b_len (FAL.out (aa (ag bx.K (ac 3) (ac 5)) ad)))) ad)))) (aK (by decide)) (fun _ _ _ _ _=>ax 0 (show List.Nodup (α:=Str) ["_law_k","_law_some","_law_upper"] by decide +kernel)) (fun _ _ _ _ _=>(aB (ao bx).K (ag (ao bx).K (ag (ao bx).K (ac 1) (ac 2)) (ac 0)) (ag (ao bx).K (ag (ao bx).K (ac 1) (aB (ao bx).K (ac 2) ae)) (ac 0)))))) ad)))) ?_ (fun Bi=>?_)
  rfl
  exact ak ⟨vv x1,rfl⟩
 refine cF 4 (S':=[vv A2,vv A4,vv A8,vv A9,vv (.lst Be),w2]) rfl rfl ?_
 refine aw (ah (ac 4)) ?_
 rfl
theorem l6:OkD P w K mg base C k "_law_least_set" eF ["_law_rows_here"] (a1 (bY t)):=ok1 a9 fun A0 _ _ _ _ _ _ _ _ bx hpo _=>by
 show FL _ _ [vv A0,nn,nn,nn,nn,nn,nn] _ _ _
 refine aO (S':=[vv A0,ow [],nn,nn,nn,nn,nn]) (fs_O (ck 1 a9.nd (FAL.out ad))) ?_ ?_
 rfl
 refine ar (inj:=fun (s:List D) (w:Option Sl)=>[vv A0,ow s,w,nn,nn,nn,nn]) (bM 2 (B:=fun (s:List D) (w:Option Sl) x=>[vv A0,ow s,vv x,nn,nn,nn,nn]) nn hpo rfl (aJ bx.K (ac 0)) ?_ (ax 2 a9.nd) rfl (fun _ _ _=>rfl) (fun s w x=>?_)) (fun Bk w1=>?_)
 rfl
 ·refine aj (S':=fun BU=>[vv A0,ow BU,vv x,nn,nn,nn,nn]) (fs_X (bb 1 bx.K (FAL.out (aa (ac 2) ad)))) ?_ (fun BU=>?_)
  rfl
  exact ak ⟨vv x,rfl⟩
 refine cF 1 (S':=[vv A0,vv (.lst Bk),w1,nn,nn,nn,nn]) rfl rfl ?_
 refine ar (inj:=fun (_:Unit) (w2:Unit)=>[vv A0,vv (.lst Bk),w1,nn,nn,nn,nn]) (ay (ci bx (fe_C (cD (N:=["_law_one","_law_every"]) (own:=1) (cap:=[1]) bx (BlkOk.of (by kernel_rfl)) (aJ bx.K (ac 1)) (aK (by decide)) (fun _ _ _ _ _=>ax 0 (show List.Nodup (α:=Str) ["_law_one","_law_every"] by decide +kernel)) (fun _ _ _ _ _=>(bU (ao bx) (ac 0) (ag (ao bx).K (ac 1) ae))) (fun _ _ _ _ _=>(ac 0)))) (aE ad)) ?_ ?_ ?_) (fun _ w2=>?_)
 rfl
 ·refine aq (ah (ag bx.K (ac 1) ae)) ?_
  rfl
 ·exact ak ⟨(),rfl⟩
 refine aj (S':=fun Ba=>[vv A0,vv (.lst Bk),w1,vv Ba,nn,nn,nn]) (aD 3 a9.nd (cY (fe_N (bi bx rfl T.b_len (FAL.out (aa (ac 0) ad)))) ae)) ?_ (fun Ba=>?_)
 rfl
 refine aO (S':=[vv A0,vv (.lst Bk),w1,vv Ba,ow [],nn,nn]) (fs_O (ck 4 a9.nd (FAL.out ad))) ?_ ?_
 rfl
 refine ar (inj:=fun (s1:List D) (w3:Option Sl×Option Sl)=>[vv A0,vv (.lst Bk),w1,vv Ba,ow s1,w3.1,w3.2]) (bM 5 (B:=fun (s1:List D) (w3:Option Sl×Option Sl) x4=>[vv A0,vv (.lst Bk),w1,vv Ba,ow s1,vv x4,w3.2]) (nn,nn) hpo rfl (aJ bx.K (az (aa ae (aa (ac 3) ad)))) ?_ (ax 5 a9.nd) rfl (fun _ _ _=>rfl) (fun s1 w3 x4=>?_)) (fun Bt w6=>?_)
 rfl
 ·refine ar (inj:=fun (s2:List D) (w4:Option Sl)=>[vv A0,vv (.lst Bk),w1,vv Ba,ow s2,vv x4,w4]) (bM 6 (B:=fun (s2:List D) (w4:Option Sl) x5=>[vv A0,vv (.lst Bk),w1,vv Ba,ow s2,vv x4,vv x5]) w3.2 hpo rfl (aJ bx.K (az (aa ae (aa (ac 3) ad)))) ?_ (ax 6 a9.nd) rfl (fun _ _ _=>rfl) (fun s2 w4 x5=>?_)) (fun BI w5=>?_)
  rfl
  ·refine aj (S':=fun A8=>[vv A0,vv (.lst Bk),w1,vv Ba,ow A8,vv x4,vv x5]) (fs_A (hG 4 (FAL.out (aa (af bx G.g242 rfl (aa (fe_C (aM (N:=["_law_row","_law_left","_law_half"]) (own:=1) (cap:=[6,3]) bx (BlkOk.of (by kernel_rfl)) (aJ bx.K (iG bx.K (ac 0) (gm (ac 5)) (gm (aB bx.K (ac 5) (ac 3))))) (aK (by decide)) (fun _ _ _ _ _=>ax 0 (show List.Nodup (α:=Str) ["_law_row","_law_left","_law_half"] by decide +kernel)) (fun _ _ _ _ _=>(iG (ao bx).K (ac 0) (gm (ac 1)) (gm (aB (ao bx).K (ac 1) (ac 2))))))) ad)) ad)))) ?_ (fun A8=>?_)
   rfl
   exact ak ⟨vv x5,rfl⟩
  exact ak ⟨(vv x4,w5),rfl⟩
 refine cF 4 (S':=[vv A0,vv (.lst Bk),w1,vv Ba,vv (.lst Bt),w6.1,w6.2]) rfl rfl ?_
 refine aq (ah (fe_N (bd bx rfl T.b_tuple (FAL.out (aa (ac 4) ad))))) ?_
 rfl
theorem u8:OkD P w K mg base C k "_law_word" lU ["_law_kept"] (a1 (eW t)):=ok1 j4 fun Bm _ _ _ _ _ _ _ _ bx _ _=>by
 show FL _ _ [vv Bm,nn,nn] _ _ _
 refine aj (S':=fun BV=>[vv Bm,ow BV,nn]) (fs_O (ck 1 j4.nd (FAL.out (aa (al bx rfl T.b_isinstance T.i_BadBox (ac 0) (br rfl T.c_BadBox rfl)) (aa (al bx rfl T.b_isinstance T.i_NoBlocks (ac 0) (br rfl T.c_NoBlocks rfl)) (aa (al bx rfl T.b_isinstance T.i_NoChange (ac 0) (br rfl T.c_NoChange rfl)) ad)))))) ?_ (fun BV=>?_)
 rfl
 refine aj (S':=fun BP=>[vv Bm,ow BP,nn]) (fs_A (hG 1 (FAL.out (aa (al bx rfl T.b_isinstance T.i_NoNumber (ac 0) (br rfl T.c_NoNumber rfl)) ad)))) ?_ (fun BP=>?_)
 rfl
 refine aj (S':=fun BQ=>[vv Bm,ow BQ,nn]) (fs_X (bb 1 bx.K (FAL.out (aa (aE (aa (al bx rfl T.b_isinstance T.i_NoPicture (ac 0) (br rfl T.c_NoPicture rfl)) (aa (al bx rfl T.b_isinstance T.i_NoRule (ac 0) (br rfl T.c_NoRule rfl)) (aa (al bx rfl T.b_isinstance T.i_NoSpot (ac 0) (br rfl T.c_NoSpot rfl)) ad)))) ad)))) ?_ (fun BQ=>?_)
 rfl
 refine aj (S':=fun Bx=>[vv Bm,ow Bx,nn]) (fs_X (bb 1 bx.K (FAL.out (aa (aE (aa (al bx rfl T.b_isinstance T.i_NoText (ac 0) (br rfl T.c_NoText rfl)) (aa (al bx rfl T.b_isinstance T.i_NothingDone (ac 0) (br rfl T.c_NothingDone rfl)) (aa (al bx rfl T.b_isinstance T.i_Unlike (ac 0) (br rfl T.c_Unlike rfl)) ad)))) ad)))) ?_ (fun Bx=>?_)
 rfl
 refine cF 1 (S':=[vv Bm,vv (.lst Bx),nn]) rfl rfl ?_
 refine ar (inj:=fun (_:Unit) (w:Unit)=>[vv Bm,vv (.lst Bx),nn]) (ay (ft_w (bS (bU bx (sU (wj bx (ac 1) (FAL.out (aa cg ad)))) ae) (bT (aU (aG (al bx rfl T.b_isinstance T.i_ValueError (ac 0) (aC rfl T.b_ValueError (by decide +kernel) rfl))))))) ?_ ?_ ?_) (fun _ w=>?_)
 rfl
 ·refine aw (ah bh) ?_
  rfl
 ·exact ak ⟨(),rfl⟩
 refine aO (S':=[vv Bm,vv (.lst Bx),vv (.lst [(.str "bad box"),(.str "no blocks"),(.str "no change"),(.str "no number"),(.str "no picture"),(.str "no rule"),(.str "no spot"),(.str "no text")])]) (aD 2 j4.nd (aE (aa bh (aa bh (aa bh (aa bh (aa bh (aa bh (aa bh (aa bh ad)))))))))) ?_ ?_
 rfl
 refine aq (ah (ag bx.K (aB bx.K (ac 2) (aE (aa bh (aa bh ad)))) (sU (ur bx (ac 1) (FAL.out (aa cg ad)))))) ?_
 rfl
theorem u9:OkD P w K mg base C k "_law_do" lV ["_law_what","_law_one","_law_other"] (a3 (cU t)):=ok3 dr fun Br A5 A7 _ _ _ _ _ _ _ _ bx _ _=>by
 show FL _ _ [vv Br,vv A5,vv A7,nn,nn,nn] _ _ _
 refine aO (S':=[vv Br,vv A5,vv A7,vv .non,nn,nn]) (aD 3 dr.nd bo) ?_ ?_
 rfl
 refine aO (S':=[vv Br,vv A5,vv A7,vv .non,vv .non,nn]) (aD 4 dr.nd bo) ?_ ?_
 rfl
 refine zZ 5 3 (B:=fun k=>[nn,nn,nn,vv (.exc k),nn,nn]) (yh 5 3 (inj:=fun (BG:D) (w:Unit)=>[vv Br,vv A5,vv A7,vv .non,vv BG,nn]) bx (by decide) rfl rfl rfl dr.nd rfl T.c_FourError T.takes (fun pn xe H0 Z0 E bx=>?_)) (fun _=>rfl) (fun BG w=>?_) (fun k=>?_)
 ·refine lj (ay (nq (ac 0) ae) ?_ ?_ ?_)
  rfl
  ·refine aj (S':=fun BR=>[vv Br,vv A5,vv A7,vv .non,vv BR,nn]) (aD 4 dr.nd (kl (ci bx (ac 0) ae) (af bx G.g252 rfl (aa (ac 1) (aa (ac 2) ad))) (af bx G.g255 rfl (aa (ac 1) (aa (ac 2) ad))))) ?_ (fun BR=>?_)
   rfl
   exact ak ⟨(),rfl⟩
  ·refine aj (S':=fun BK=>[vv Br,vv A5,vv A7,vv .non,vv BK,nn]) (aD 4 dr.nd (kl (ci bx (ac 0) ae) (af bx G.g253 rfl (aa (ac 1) ad)) (af bx G.g254 rfl (aa (ac 1) ad)))) ?_ (fun BK=>?_)
   rfl
   exact ak ⟨(),rfl⟩
 ·refine ar (inj:=fun (_:Unit) (w1:Unit)=>[vv Br,vv A5,vv A7,vv .non,vv BG,nn]) (ay (la (ac 3) bo) ?_ ?_ ?_) (fun _ w1=>?_)
  rfl
  ·refine aw (ah (ac 4)) ?_
   rfl
  ·exact ak ⟨(),rfl⟩
  refine aq (ah (af bx G.g40 rfl (aa (ac 3) ad))) ?_
  rfl
 ·refine ar (inj:=fun (_:Unit) (w2:Unit)=>[nn,nn,nn,vv (.exc k),nn,nn]) (ay (la (ac 3) bo) ?_ ?_ ?_) (fun _ w2=>?_)
  rfl
  ·refine aq (ah (ac 4)) ?_
   rfl
  ·exact ak ⟨(),rfl⟩
  refine aq (ah (af bx G.g40 rfl (aa (ac 3) ad))) ?_
  rfl
theorem oY:OkD P w K mg base C k "_law_squares" gS ["_law_tree_here","_law_left","_law_top","_law_side"] (a4 (cW t)):=ok4 fO fun A4 Bq Bp Bu _ _ _ _ _ _ _ _ bx hpo _=>by
 show FL _ _ [vv A4,vv Bq,vv Bp,vv Bu,nn,nn,nn] _ _ _
 refine ar (inj:=fun (_:Unit) (w:Unit)=>[vv A4,vv Bq,vv Bp,vv Bu,nn,nn,nn]) (ay (la (ac 0) bo) ?_ ?_ ?_) (fun _ w=>?_)
 rfl
 ·refine aw (ah (aE ad)) ?_
  rfl
 ·exact ak ⟨(),rfl⟩
 refine ar (inj:=fun (_:Unit) (w1:Unit)=>[vv A4,vv Bq,vv Bp,vv Bu,nn,nn,nn]) (ay (aU (aG (al bx rfl T.b_isinstance ba (ac 0) (aC rfl T.b_tuple (by decide +kernel) rfl)))) ?_ ?_ ?_) (fun _ w1=>?_)
 rfl
 ·refine aw (ah (aE (aa (az (aa (ac 1) (aa (ac 2) (aa (ac 3) (aa (ac 0) ad))))) ad))) ?_
  rfl
 ·exact ak ⟨(),rfl⟩
 refine aO (S':=[vv A4,vv Bq,vv Bp,vv Bu,ow [],nn,nn]) (fs_O (ck 4 fO.nd (FAL.out ad))) ?_ ?_
 rfl
 refine ar (inj:=fun (s:List D) (w2:Option Sl×Option Sl)=>[vv A4,vv Bq,vv Bp,vv Bu,ow s,w2.1,w2.2]) (gp 5 6 (B:=fun (s:List D) (w2:Option Sl×Option Sl) x x1=>[vv A4,vv Bq,vv Bp,vv Bu,ow s,vv x,vv x1]) (nn,nn) hpo rfl (fw bx rfl T.b_enumerate (ac 0)) ?_ (hJ 5 6 rfl fO.nd) rfl (fun _ _ _ _=>rfl) (fun s w2 x x1=>?_)) (fun Be w3=>?_)
 rfl
 ·refine aj (S':=fun Bi=>[vv A4,vv Bq,vv Bp,vv Bu,ow Bi,vv x,vv x1]) (fs_X (bb 4 bx.K (FAL.out (aa (af bx G.g257 rfl (aa (ac 6) (aa (aB bx.K (ac 1) (aY bx.K (dA (ac 5) ae) (cY (ac 3) ae))) (aa (aB bx.K (ac 2) (aY bx.K (cY (ac 5) ae) (cY (ac 3) ae))) (aa (cY (ac 3) ae) ad))))) ad)))) ?_ (fun Bi=>?_)
  rfl
  exact ak ⟨(vv x,vv x1),rfl⟩
 refine cF 4 (S':=[vv A4,vv Bq,vv Bp,vv Bu,vv (.lst Be),w3.1,w3.2]) rfl rfl ?_
 refine aw (ah (ac 4)) ?_
 rfl
theorem oZ:OkD P w K mg base C k "_law_spots" gT ["_law_rows_here"] (a1 (dW t)):=ok1 fP fun A0 _ _ _ _ _ _ _ _ bx hpo _=>by
 show FL _ _ [vv A0,nn,nn,nn] _ _ _
 refine aO (S':=[vv A0,ow [],nn,nn]) (fs_O (ck 1 fP.nd (FAL.out ad))) ?_ ?_
 rfl
 refine ar (inj:=fun (s:List D) (w:Option Sl×Option Sl)=>[vv A0,ow s,w.1,w.2]) (gp 2 3 (B:=fun (s:List D) (w:Option Sl×Option Sl) x x1=>[vv A0,ow s,vv x,vv x1]) (nn,nn) hpo rfl (fw bx rfl T.b_enumerate (ac 0)) ?_ (hJ 2 3 rfl fP.nd) rfl (fun _ _ _ _=>rfl) (fun s w x x1=>?_)) (fun Be w1=>?_)
 rfl
 ·refine aj (S':=fun Bi=>[vv A0,ow Bi,vv x,vv x1]) (fs_X (bb 1 bx.K (FAL.out (aa (fe_C (cD (N:=["_law_x","_law_y","_law_row"]) (own:=1) (cap:=[2,3]) bx (BlkOk.of (by kernel_rfl)) (eO (aW rfl T.b_range (FAL.out (aa (fe_N (bi bx rfl T.b_len (FAL.out (aa (ac 3) ad)))) ad)))) (aK (by decide)) (fun _ _ _ _ _=>ax 0 (show List.Nodup (α:=Str) ["_law_x","_law_y","_law_row"] by decide +kernel)) (fun _ _ _ _ _=>(i5 (ag (ao bx).K (ac 2) (ac 0)) bo)) (fun _ _ _ _ _=>(az (aa (ac 0) (aa (ac 1) ad)))))) ad)))) ?_ (fun Bi=>?_)
  rfl
  exact ak ⟨(vv x,vv x1),rfl⟩
 refine cF 1 (S':=[vv A0,vv (.lst Be),w1.1,w1.2]) rfl rfl ?_
 refine aw (ah (ac 1)) ?_
 rfl
theorem o0:OkD P w K mg base C k "_law_refuses" gU ["_law_script","_law_one","_law_mine"] (a3 (dX t)):=ok3 dl fun A1 A5 Bd _ _ _ _ _ _ _ _ bx _ _=>by
 show FL _ _ [vv A1,vv A5,vv Bd,nn,nn,nn,nn] _ _ _
 refine aj (S':=fun A2=>[vv A1,vv A5,vv Bd,vv A2,nn,nn,nn]) (aD 3 dl.nd (ag bx.K (ac 1) ae)) ?_ (fun A2=>?_)
 rfl
 refine aj (S':=fun BD=>[vv A1,vv A5,vv Bd,vv A2,vv BD,nn,nn]) (aD 4 dl.nd (az (aa (dA (aB bx.K (ac 3) ae) ae) (aa ae ad)))) ?_ (fun BD=>?_)
 rfl
 refine ar (inj:=fun (_:Unit) (w:Unit)=>[vv A1,vv A5,vv Bd,vv A2,vv BD,nn,nn]) (ay (ft_w (bS (bU bx (af bx G.g256 rfl (aa ae (aa (ac 1) (aa (ac 4) ad)))) bh) (bT (bU bx (af bx G.g256 rfl (aa ae (aa (ac 2) (aa (ac 4) ad)))) bh)))) ?_ ?_ ?_) (fun _ w=>?_)
 rfl
 ·refine aw (ah cg) ?_
  rfl
 ·exact ak ⟨(),rfl⟩
 refine ar (inj:=fun (_:Unit) (w1:Unit)=>[vv A1,vv A5,vv Bd,vv A2,vv BD,nn,nn]) (ay (i5 (af bx G.g256 rfl (aa ae (aa (az (aa ae (aa bo ad))) (aa (az (aa ae (aa ae ad))) ad)))) cg) ?_ ?_ ?_) (fun _ w1=>?_)
 rfl
 ·refine aw (ah cg) ?_
  rfl
 ·exact ak ⟨(),rfl⟩
 refine yk 5 6 (S':=fun BW BS=>[vv A1,vv A5,vv Bd,vv A2,vv BD,vv BW,vv BS]) (wM 5 6 bx dl.nd (FAL.out (aa (af bx G.g37 rfl (aa (ac 0) (aa ae (aa (ac 1) ad)))) (aa (af bx G.g37 rfl (aa (ac 0) (aa ae (aa (ac 2) ad)))) ad)))) ?_ ?_ (fun _ _=>rfl) (fun BW BS=>?_)
 rfl
 rfl
 refine ar (inj:=fun (_:Unit) (w2:Unit)=>[vv A1,vv A5,vv Bd,vv A2,vv BD,vv BW,vv BS]) (ay (ft_w (gh (aU (aG (af bx G.g238 rfl (aa (ac 5) ad)))) (fk (bU bx (fe_C (aM (N:=["_law_what","_law_bad","_law_off"]) (own:=1) (cap:=[5,4]) bx (BlkOk.of (by kernel_rfl)) (aJ bx.K (az (aa ae (aa ae (aa ae ad))))) (aK (by decide)) (fun _ _ _ _ _=>ax 0 (show List.Nodup (α:=Str) ["_law_what","_law_bad","_law_off"] by decide +kernel)) (fun _ _ _ _ _=>(af (ao bx) G.g256 rfl (aa (ac 0) (aa (ac 1) (aa (ac 2) ad))))))) (aY bx.K (aE (aa bh ad)) ae))))) ?_ ?_ ?_) (fun _ w2=>?_)
 rfl
 ·refine aw (ah cg) ?_
  rfl
 ·exact ak ⟨(),rfl⟩
 refine aq (ah (y3 (af bx G.g38 rfl (aa (ac 6) ad)) (gi (px bx (aE (aa (af bx G.g256 rfl (aa ae (aa (ac 6) (aa (ac 4) ad)))) (aa (af bx G.g256 rfl (aa ae (aa (ac 4) (aa (ac 6) ad)))) ad))) (aY bx.K (aE (aa bh ad)) ae))))) ?_
 rfl
theorem l7:OkD P w K mg base C k "law" bD ["_law_script"] (a1 (ib t)):=ok1 aQ fun A1 _ _ _ _ _ _ _ _ bx hpo _=>by
 show FL _ _ [vv A1,nn,nn,nn,nn,nn,nn,nn,nn,nn,nn,nn,nn] _ _ _
 refine aj (S':=fun A2=>[vv A1,vv A2,nn,nn,nn,nn,nn,nn,nn,nn,nn,nn,nn]) (aD 1 aQ.nd (aB bx.K ae (af bx G.g31 rfl (aa (ac 0) (aa ae (aa ae ad)))))) ?_ (fun A2=>?_)
 rfl
 refine sZ 2 3 (S':=fun A5 A7=>[vv A1,vv A2,vv A5,vv A7,nn,nn,nn,nn,nn,nn,nn,nn,nn]) bx aQ.nd (fe_C (aM (N:=["_law_k","_law_size","_law_script"]) (own:=1) (cap:=[1,0]) bx (BlkOk.of (by kernel_rfl)) (eO (aW rfl T.b_range (FAL.out (aa ae ad)))) (aK (by decide)) (fun _ _ _ _ _=>ax 0 (show List.Nodup (α:=Str) ["_law_k","_law_size","_law_script"] by decide +kernel)) (fun _ _ _ _ _=>(az (aa (ac 1) (aa (af (ao bx) G.g240 rfl (aa (ac 2) (aa (aB (ao bx).K ae (aY (ao bx).K ae (ac 0))) (aa (ac 1) ad)))) ad)))))) ?_ (fun _ _=>rfl) (fun A5 A7=>?_)
 rfl
 refine aj (S':=fun Bg=>[vv A1,vv A2,vv A5,vv A7,vv Bg,nn,nn,nn,nn,nn,nn,nn,nn]) (fs_C (rq 4 (N:=["_law_change","_law_size"]) (own:=1) (cap:=[1]) bx (BlkOk.of (by kernel_rfl)) (aJ bx.K (az (aa (ac 2) (aa (ac 3) ad)))) (aK (by decide)) (fun _ _ _ _ _=>ax 0 (show List.Nodup (α:=Str) ["_law_change","_law_size"] by decide +kernel)) (fun _ _ _ _ _=>(af (ao bx) G.g241 rfl (aa (ac 1) (aa (ag (ao bx).K (ac 0) ae) ad)))) aQ.nd (hsw:=by kernel_rfl))) ?_ (fun Bg=>?_)
 rfl
 refine aj (S':=fun A6=>[vv A1,vv A2,vv A5,vv A7,vv Bg,vv A6,nn,nn,nn,nn,nn,nn,nn]) (aD 5 aQ.nd (fe_C (aM (N:=["_law_rows_here"]) (own:=1) (cap:=[]) bx (BlkOk.of (by kernel_rfl)) (aJ bx.K (ac 4)) (aK (by decide)) (fun _ _ _ _ _=>ax 0 (show List.Nodup (α:=Str) ["_law_rows_here"] by decide +kernel)) (fun _ _ _ _ _=>(af (ao bx) G.g258 rfl (aa (ac 0) ad))))) (hs:=by kernel_rfl)) ?_ (fun A6=>?_)
 rfl
 refine ar (inj:=fun (_:Unit) (w:Unit)=>[vv A1,vv A2,vv A5,vv A7,vv Bg,vv A6,nn,nn,nn,nn,nn,nn,nn]) (ay (bU bx (af bx G.g256 rfl (aa ae (aa (ac 2) (aa bo ad)))) (af bx G.g257 rfl (aa (af bx G.g242 rfl (aa (ag bx.K (ac 4) ae) ad)) (aa ae (aa ae (aa (fe_N (bi bx rfl T.b_len (FAL.out (aa (ag bx.K (ac 4) ae) ad)))) ad)))))) ?_ ?_ ?_) (fun _ w=>?_)
 rfl
 ·refine aw (ah cg) ?_
  rfl
 ·exact ak ⟨(),rfl⟩
 refine ar (inj:=fun (_:Unit) (w1:Unit)=>[vv A1,vv A2,vv A5,vv A7,vv Bg,vv A6,nn,nn,nn,nn,nn,nn,nn]) (ay (ft_w (bS (bU bx (af bx G.g256 rfl (aa ae (aa (ac 2) (aa bo ad)))) (fe_N (bi bx rfl T.b_len (FAL.out (aa (ag bx.K (ac 5) ae) ad))))) (bT (bU bx (af bx G.g256 rfl (aa ae (aa (ac 3) (aa bo ad)))) (fe_N (bi bx rfl T.b_len (FAL.out (aa (ag bx.K (ac 5) ae) ad)))))))) ?_ ?_ ?_) (fun _ w1=>?_)
 rfl
 ·refine aw (ah cg) ?_
  rfl
 ·exact ak ⟨(),rfl⟩
 refine aj (S':=fun Bh=>[vv A1,vv A2,vv A5,vv A7,vv Bg,vv A6,vv Bh,nn,nn,nn,nn,nn,nn]) (aD 6 aQ.nd (px bx (fe_C (cD (N:=["_law_spot","_law_spots_here"]) (own:=1) (cap:=[5]) bx (BlkOk.of (by kernel_rfl)) (aJ bx.K (ag bx.K (ac 5) ae)) (aK (by decide)) (fun _ _ _ _ _=>ax 0 (show List.Nodup (α:=Str) ["_law_spot","_law_spots_here"] by decide +kernel)) (fun _ _ _ _ _=>(Ab (ao bx) (ac 0) (ag (ao bx).K (ac 1) ae))) (fun _ _ _ _ _=>(ac 0)))) (aE ad))) ?_ (fun Bh=>?_)
 rfl
 refine ar (inj:=fun (_:Unit) (w2:Unit)=>[vv A1,vv A2,vv A5,vv A7,vv Bg,vv A6,vv Bh,nn,nn,nn,nn,nn,nn]) (ay (ft_w (bS (bU bx (af bx G.g256 rfl (aa ae (aa (ac 2) (aa (ac 3) ad)))) (ac 6)) (bT (bU bx (af bx G.g256 rfl (aa ae (aa (ac 3) (aa (ac 2) ad)))) (ac 6))))) ?_ ?_ ?_) (fun _ w2=>?_)
 rfl
 ·refine aw (ah cg) ?_
  rfl
 ·exact ak ⟨(),rfl⟩
 refine ar (inj:=fun (_:Unit) (w3:Unit)=>[vv A1,vv A2,vv A5,vv A7,vv Bg,vv A6,vv Bh,nn,nn,nn,nn,nn,nn]) (ay (ft_w (gh (aG (ac 6)) (fk (bU bx (af bx G.g247 rfl (aa (ac 2) (aa (ac 3) ad))) (af bx G.g247 rfl (aa (ac 3) (aa (ac 2) ad))))))) ?_ ?_ ?_) (fun _ w3=>?_)
 rfl
 ·refine aw (ah cg) ?_
  rfl
 ·exact ak ⟨(),rfl⟩
 refine sZ 7 8 (S':=fun Bd BB=>[vv A1,vv A2,vv A5,vv A7,vv Bg,vv A6,vv Bh,vv Bd,vv BB,nn,nn,nn,nn]) bx aQ.nd (fe_C (aM (N:=["_law_k","_law_size","_law_script"]) (own:=1) (cap:=[1,0]) bx (BlkOk.of (by kernel_rfl)) (eO (aW rfl T.b_range (FAL.out (aa ae ad)))) (aK (by decide)) (fun _ _ _ _ _=>ax 0 (show List.Nodup (α:=Str) ["_law_k","_law_size","_law_script"] by decide +kernel)) (fun _ _ _ _ _=>(az (aa (ac 1) (aa (af (ao bx) G.g32 rfl (aa (ac 2) (aa (aB (ao bx).K ae (aY (ao bx).K ae (ac 0))) (aa (ac 1) ad)))) ad)))))) ?_ (fun _ _=>rfl) (fun Bd BB=>?_)
 rfl
 refine ar (inj:=fun (Bs:D) (w6:Option Sl×Option Sl×Option Sl)=>[vv A1,vv A2,vv A5,vv A7,vv Bg,vv A6,vv Bh,vv Bd,vv Bs,w6.1,w6.2.1,w6.2.2,nn]) (ay (ci bx (af bx G.g31 rfl (aa (ac 0) (aa ae (aa ae ad)))) ae) ?_ ?_ ?_) (fun Bs w6=>?_)
 rfl
 ·refine aO (S':=[vv A1,vv A2,vv A5,vv A7,vv Bg,vv A6,vv Bh,vv Bd,vv BB,ow [],nn,nn,nn]) (fs_O (ck 9 aQ.nd (FAL.out ad))) ?_ ?_
  rfl
  refine ar (inj:=fun (s:List D) (w4:Option Sl×Option Sl)=>[vv A1,vv A2,vv A5,vv A7,vv Bg,vv A6,vv Bh,vv Bd,vv BB,ow s,w4.1,w4.2,nn]) (gp 10 11 (B:=fun (s:List D) (w4:Option Sl×Option Sl) x30 x31=>[vv A1,vv A2,vv A5,vv A7,vv Bg,vv A6,vv Bh,vv Bd,vv BB,ow s,vv x30,vv x31,nn]) (nn,nn) hpo rfl (rH bx rfl T.b_zip (af bx G.g55 rfl (aa (ac 7) ad)) (ag bx.K (ac 4) ae)) ?_ (hJ 10 11 rfl aQ.nd) rfl (fun _ _ _ _=>rfl) (fun s w4 x30 x31=>?_)) (fun BA w5=>?_)
  rfl
  ·refine aj (S':=fun A9=>[vv A1,vv A2,vv A5,vv A7,vv Bg,vv A6,vv Bh,vv Bd,vv BB,ow A9,vv x30,vv x31,nn]) (fs_A (hG 9 (FAL.out (aa (fe_N (bd bx rfl T.b_tuple (FAL.out (aa (AQ (aM (N:=["_law_old","_law_new"]) (own:=2) (cap:=[]) bx (BlkOk.of (by kernel_rfl)) (rH bx rfl T.b_zip (ac 10) (ac 11)) (wy (by decide) (by decide)) (fun _ _ _ _ _=>hJ 0 1 rfl (show List.Nodup (α:=Str) ["_law_old","_law_new"] by decide +kernel)) (fun _ _ _ _ _=>(kl (i5 (ac 1) bo) (ac 1) (ac 0))))) ad)))) ad)))) ?_ (fun A9=>?_)
   rfl
   exact ak ⟨(vv x30,vv x31),rfl⟩
  refine cF 9 (S':=[vv A1,vv A2,vv A5,vv A7,vv Bg,vv A6,vv Bh,vv Bd,vv BB,vv (.lst BA),w5.1,w5.2,nn]) rfl rfl ?_
  refine aj (S':=fun BF=>[vv A1,vv A2,vv A5,vv A7,vv Bg,vv A6,vv Bh,vv Bd,vv BF,vv (.lst BA),w5.1,w5.2,nn]) (aD 8 aQ.nd (af bx G.g57 rfl (aa (fe_N (bd bx rfl T.b_tuple (FAL.out (aa (ac 9) ad)))) ad))) ?_ (fun BF=>?_)
  rfl
  exact ak ⟨(vv (.lst BA),w5.1,w5.2),rfl⟩
 ·exact ak ⟨(nn,nn,nn),rfl⟩
 refine aO (S':=[vv A1,vv A2,vv A5,vv A7,vv Bg,vv A6,vv Bh,vv Bd,vv Bs,w6.1,w6.2.1,w6.2.2,vv (.int 0)]) (aD 12 aQ.nd ae) ?_ ?_
 rfl
 refine ar (inj:=fun (s1:D) (w7:Option Sl×Option Sl)=>[vv A1,vv A2,vv A5,vv A7,vv Bg,vv A6,vv Bh,vv Bd,vv Bs,w6.1,w7.1,w7.2,vv s1]) (gp 10 11 (B:=fun (s1:D) (w7:Option Sl×Option Sl) x37 x38=>[vv A1,vv A2,vv A5,vv A7,vv Bg,vv A6,vv Bh,vv Bd,vv Bs,w6.1,vv x37,vv x38,vv s1]) (w6.2.1,w6.2.2) hpo rfl (rH bx rfl T.b_zip (af bx G.g55 rfl (aa (ac 7) ad)) (af bx G.g55 rfl (aa (ac 8) ad))) ?_ (hJ 10 11 rfl aQ.nd) rfl (fun _ _ _ _=>rfl) (fun s1 w7 x37 x38=>?_)) (fun Bw w8=>?_)
 rfl
 ·refine aj (S':=fun BT=>[vv A1,vv A2,vv A5,vv A7,vv Bg,vv A6,vv Bh,vv Bd,vv Bs,w6.1,vv x37,vv x38,vv BT]) (aD 12 aQ.nd (aB bx.K (ac 12) (fe_N (bi bx rfl T.b_len (FAL.out (aa (fe_C (cD (N:=["_law_k","_law_row","_law_more"]) (own:=1) (cap:=[10,11]) bx (BlkOk.of (by kernel_rfl)) (eO (aW rfl T.b_range (FAL.out (aa (fe_N (bi bx rfl T.b_len (FAL.out (aa (ac 10) ad)))) ad)))) (aK (by decide)) (fun _ _ _ _ _=>ax 0 (show List.Nodup (α:=Str) ["_law_k","_law_row","_law_more"] by decide +kernel)) (fun _ _ _ _ _=>(bU (ao bx) (ag (ao bx).K (ac 1) (ac 0)) (ag (ao bx).K (ac 2) (ac 0)))) (fun _ _ _ _ _=>(ac 0)))) ad)))))) ?_ (fun BT=>?_)
  rfl
  exact ak ⟨(vv x37,vv x38),rfl⟩
 refine ar (inj:=fun (_:Unit) (w9:Unit)=>[vv A1,vv A2,vv A5,vv A7,vv Bg,vv A6,vv Bh,vv Bd,vv Bs,w6.1,w8.1,w8.2,vv Bw]) (ay (ft_w (bS (bU bx (af bx G.g256 rfl (aa ae (aa (ac 7) (aa (ac 8) ad)))) (ac 12)) (bT (bU bx (af bx G.g256 rfl (aa ae (aa (ac 8) (aa (ac 7) ad)))) (ac 12))))) ?_ ?_ ?_) (fun _ w9=>?_)
 rfl
 ·refine aw (ah cg) ?_
  rfl
 ·exact ak ⟨(),rfl⟩
 refine ar (inj:=fun (_:Unit) (w10:Unit)=>[vv A1,vv A2,vv A5,vv A7,vv Bg,vv A6,vv Bh,vv Bd,vv Bs,w6.1,w8.1,w8.2,vv Bw]) (ay (nq (af bx G.g254 rfl (aa (af bx G.g237 rfl (aa (ac 7) (aa (ac 8) ad))) ad)) (ac 12)) ?_ ?_ ?_) (fun _ w10=>?_)
 rfl
 ·refine aw (ah cg) ?_
  rfl
 ·exact ak ⟨(),rfl⟩
 refine aq (ah (af bx G.g259 rfl (aa (ac 0) (aa (ac 2) (aa (ac 7) ad))))) ?_
 rfl
end
end Lw
end
noncomputable section
section
namespace Lw
open PySem FF
inductive Q (α:Type) where
 | lf (a:α) | nd (a b c d:Q α)
 deriving DecidableEq
section
variable {α β γ:Type}
def Q.dep:Q α→Nat
 | .lf _=>0
 | .nd a b c d=>1+max (max a.dep b.dep) (max c.dep d.dep)
def Q.at:Nat→Q α→Nat→Nat→α
 | _,.lf a,_,_=>a
 | 0,.nd a _ _ _,x,y=>Q.at 0 a x y
 | n+1,.nd a b c d,x,y=>if y < 2^n then (if x < 2^n then a.at n x y else b.at n (x - 2^n) y) else (if x < 2^n then c.at n x (y - 2^n) else d.at n (x - 2^n) (y - 2^n))
def Q.All (p:α→Prop):Q α→Prop
 | .lf a=>p a
 | .nd a b c d=>a.All p∧b.All p∧c.All p∧d.All p
def sh (f:Nat→Nat→α)(a b:Nat):Nat→Nat→α:=fun x y=>f (x+a) (y+b)
@[simp] theorem dM (n:Nat)(a:α)(x y:Nat):Q.at n (.lf a) x y=a:=by cases n<;>rfl
variable [DecidableEq α][DecidableEq β][DecidableEq γ]
def put4 (a b c d:Q α):Q α:=match a with
 | .lf v=>if b=.lf v∧c=.lf v∧d=.lf v then .lf v else .nd a b c d
 | _=>.nd a b c d
def T (f:Nat→Nat→α):Nat→Q α
 | 0=>.lf (f 0 0)
 | n+1=>put4 (T f n) (T (sh f (2^n) 0) n) (T (sh f 0 (2^n)) n) (T (sh f (2^n) (2^n)) n)
def Q.lean:Q α→Q α
 | .lf a=>.lf a
 | .nd a b c d=>put4 a.lean b.lean c.lean d.lean
theorem bv (n:Nat):(2^(n+1):Nat)=2^n+2^n:=by rw[Nat.pow_succ];omega
theorem nI (v:α):put4 (.lf v) (.lf v) (.lf v) (.lf v)=.lf v:=by simp[put4]
theorem yz (n:Nat)(a b c d:Q α)(x y:Nat):(put4 a b c d).at (n+1) x y=(Q.nd a b c d).at (n+1) x y:=by
 unfold put4
 split
 ·split
  ·rename_i h
   obtain⟨rfl,rfl,rfl⟩:=h
   simp only[Q.at,dM,ite_self]
  ·rfl
 ·rfl
theorem wQ (n:Nat)(a b c d:Q α)(ha:a.dep≤n)(hb:b.dep≤n)(hc:c.dep≤n)(hd:d.dep≤n):(put4 a b c d).dep≤n+1:=by
 unfold put4
 split
 ·split
  ·exact Nat.zero_le _
  ·simp only[Q.dep] at *;omega
 ·simp only[Q.dep] at *;omega
theorem aH:∀ (n:Nat) (f g:Nat→Nat→α),(∀ x y,x < 2^n→y < 2^n→f x y=g x y)→T f n=T g n
 | 0,f,g,h=>by rw[T,T,h 0 0 (by decide) (by decide)]
 | n+1,f,g,h=>by
  rw[bv]at h
  rw[T,T,aH n f g fun x y hx hy=>h x y (by omega) (by omega),aH n (sh f (2^n) 0) (sh g (2^n) 0) fun x y hx hy=>h _ _ (by omega) (by omega),
   aH n (sh f 0 (2^n)) (sh g 0 (2^n)) fun x y hx hy=>h _ _ (by omega) (by omega),aH n (sh f (2^n) (2^n)) (sh g (2^n) (2^n)) fun x y hx hy=>h _ _ (by omega) (by omega)]
theorem fQ (v:α):∀ n,T (fun _ _=>v) n=.lf v
 | 0=>rfl
 | n+1=>by
  rw[T]
  show put4 (T (fun _ _=>v) n) (T (fun _ _=>v) n) (T (fun _ _=>v) n) (T (fun _ _=>v) n)=_
  rw[fQ v n,nI]
theorem bZ:∀ (n:Nat) (f:Nat→Nat→α),(T f n).dep≤n
 | 0,f=>Nat.le_refl _
 | n+1,f=>wQ n _ _ _ _ (bZ n _) (bZ n _) (bZ n _) (bZ n _)
theorem T_at:∀ (n:Nat) (f:Nat→Nat→α) (x y:Nat),x < 2^n→y < 2^n→(T f n).at n x y=f x y
 | 0,f,x,y,hx,hy=>by
  have:x=0:=by simp at hx;exact hx
  have:y=0:=by simp at hy;exact hy
  subst x;subst y
  rfl
 | n+1,f,x,y,hx,hy=>by
  rw[bv]at hx hy
  rw[T,yz,Q.at]
  by_cases h1:y < 2^n
  ·rw[if_pos h1]
   by_cases h2:x < 2^n
   ·rw[if_pos h2,T_at n f x y h2 h1]
   ·rw[if_neg h2,T_at n _ _ _ (by omega) h1]
    unfold sh
    rw[show x - 2^n+2^n=x by omega,Nat.add_zero]
  ·rw[if_neg h1]
   by_cases h2:x < 2^n
   ·rw[if_pos h2,T_at n _ _ _ h2 (by omega)]
    unfold sh
    rw[show y - 2^n+2^n=y by omega,Nat.add_zero]
   ·rw[if_neg h2,T_at n _ _ _ (by omega) (by omega)]
    unfold sh
    rw[show x - 2^n+2^n=x by omega,show y - 2^n+2^n=y by omega]
theorem y6 {n:Nat}{f g:Nat→Nat→α}(h:T f n=T g n):∀ x y,x < 2^n→y < 2^n→f x y=g x y:=fun x y hx hy=>by
 rw[← T_at n f x y hx hy,h,T_at n g x y hx hy]
theorem wR {n:Nat}{f g:Nat→Nat→α}:T f n=T g n↔∀ x y,x < 2^n→y < 2^n→f x y=g x y:=⟨y6,aH n f g⟩
theorem nJ {p:α→Prop}:∀ (n:Nat) (f:Nat→Nat→α),(∀ x y,x < 2^n→y < 2^n→p (f x y))→(T f n).All p
 | 0,f,h=>h 0 0 (by decide) (by decide)
 | n+1,f,h=>by
  rw[bv]at h
  have ha:=nJ n f fun x y hx hy=>h x y (by omega) (by omega)
  have hb:=nJ n (sh f (2^n) 0) fun x y hx hy=>h _ _ (by omega) (by omega)
  have hc:=nJ n (sh f 0 (2^n)) fun x y hx hy=>h _ _ (by omega) (by omega)
  have hd:=nJ n (sh f (2^n) (2^n)) fun x y hx hy=>h _ _ (by omega) (by omega)
  rw[T]
  unfold put4
  split
  ·rename_i v e
   split
   ·rw[e]at ha;exact ha
   ·exact⟨ha,hb,hc,hd⟩
  ·exact⟨ha,hb,hc,hd⟩
theorem iR {p:α→Prop}:∀ (n:Nat) (t:Q α) (x y:Nat),t.All p→p (t.at n x y)
 | n,.lf a,x,y,h=>by rw[dM];exact h
 | 0,.nd a _ _ _,x,y,h=>iR 0 a x y h.1
 | n+1,.nd a b c d,x,y,h=>by
  rw[Q.at]
  split
  ·split
   ·exact iR n a _ _ h.1
   ·exact iR n b _ _ h.2.1
  ·split
   ·exact iR n c _ _ h.2.2.1
   ·exact iR n d _ _ h.2.2.2
theorem wS (n:Nat)(a b c d:Q α):T ((Q.nd a b c d).at (n+1)) (n+1)=put4 (T (a.at n) n) (T (b.at n) n) (T (c.at n) n) (T (d.at n) n):=by
 rw[T]
 congr 1
 ·exact aH n _ _ fun x y hx hy=>by rw[Q.at,if_pos hy,if_pos hx]
 ·exact aH n _ _ fun x y hx hy=>by
   unfold sh
   rw[Q.at,if_pos (by omega),if_neg (by omega)]
   simp
 ·exact aH n _ _ fun x y hx hy=>by
   unfold sh
   rw[Q.at,if_neg (by omega),if_pos (by omega)]
   simp
 ·exact aH n _ _ fun x y hx hy=>by
   unfold sh
   rw[Q.at,if_neg (by omega),if_neg (by omega)]
   simp
def Q.qs:Q α→Q α×Q α×Q α×Q α
 | .lf a=>(.lf a,.lf a,.lf a,.lf a)
 | .nd a b c d=>(a,b,c,d)
theorem g6:∀ (n:Nat) (t:Q α),t.dep≤n→t.lean=T (t.at n) n
 | n,.lf a,_=>by
  rw[Q.lean]
  exact(fQ a n).symm.trans (aH _ _ _ fun x y _ _=>(dM _ _ _ _).symm)
 | 0,.nd a b c d,h=>by simp[Q.dep]at h
 | n+1,.nd a b c d,h=>by
  have h':1+max (max a.dep b.dep) (max c.dep d.dep)≤n+1:=h
  rw[wS,Q.lean,g6 n a (by omega),g6 n b (by omega),g6 n c (by omega),g6 n d (by omega)]
theorem jy {n:Nat}{t:Q α}(h:t.dep≤n):t.lean.dep≤n:=by rw[g6 n t h];exact bZ n _
structure En (e:α→D):Prop where
 tup:∀ a,isTup (e a)=false
 gd:∀ n a,good n (e a)=true
 eq:∀ a b,eqD (e a) (e b)=decide (a=b)
 tD:∀ a xs,eqD (e a) (.tup xs)=false
 dT:∀ a xs,eqD (.tup xs) (e a)=false
end
section
variable {α:Type}[DecidableEq α]{e:α→D}
def Q.d (e:α→D):Q α→D
 | .lf a=>e a
 | .nd a b c d=>.tup [a.d e,b.d e,c.d e,d.d e]
theorem Q.gd (E:En e):∀ (n:Nat) (t:Q α),t.dep≤n→good n (t.d e)=true
 | n,.lf a,_=>E.gd n a
 | 0,.nd a b c d,h=>by simp[Q.dep]at h
 | n+1,.nd a b c d,h=>by
  have h':1+max (max a.dep b.dep) (max c.dep d.dep)≤n+1:=h
  rw[Q.d,good,goods,goods,goods,goods,goods,Q.gd E n a (by omega),Q.gd E n b (by omega),Q.gd E n c (by omega),Q.gd E n d (by omega)]
  rfl
theorem Q.eqd (E:En e):∀ (s t:Q α),eqD (s.d e) (t.d e)=decide (s=t)
 | .lf a,.lf b=>by rw[Q.d,Q.d,E.eq];simp
 | .lf a,.nd ..=>by rw[Q.d,Q.d,E.tD];simp
 | .nd ..,.lf b=>by rw[Q.d,Q.d,E.dT];simp
 | .nd a b c d,.nd a' b' c' d'=>by
  rw[Q.d,Q.d,eqD,eqDs,eqDs,eqDs,eqDs,eqDs,Q.eqd E a a',Q.eqd E b b',Q.eqd E c c',Q.eqd E d d']
  simp[Bool.eq_iff_iff]
end
theorem En.int:En FF.D.int:=⟨fun _=>rfl,fun n a=>by cases n<;>rfl,fun a b=>by simp[eqD,Bool.beq_eq_decide_eq],fun a xs=>by simp[eqD],fun a xs=>by simp[eqD]⟩
def oD:Option Int→D
 | none=>.non
 | some v=>.int v
theorem En.opt:En oD:=⟨fun a=>by cases a<;>rfl,fun n a=>by cases a<;>cases n<;>rfl,fun a b=>by cases a<;>cases b<;>simp[oD,eqD,Bool.beq_eq_decide_eq],fun a xs=>by cases a<;>simp[oD,eqD],fun a xs=>by cases a<;>simp[oD,eqD]⟩
end Lw
end
section
namespace Lw
open PySem FF
theorem eG {xs:List D}(h:xs.length≤16777216):sq (.tup xs)=.ok xs:=by unfold sq asSeq;rw[R.bind_ok,if_pos h]
theorem cx {xs:List D}(h:xs.length≤16777216):sq (.lst xs)=.ok xs:=by unfold sq asSeq;rw[R.bind_ok,if_pos h]
theorem sq4 (a b c d:D):sq (.tup [a,b,c,d])=.ok [a,b,c,d]:=eG (by show 4≤16777216;decide)
theorem wT {e:D→R D}{f:D→D}:∀ {xs:List D},(∀ d∈xs,e d=.ok (f d))→cGo (fun _=>.ok true) e xs=.ok (xs.map f)
 | [],_=>rfl
 | x::xs,h=>by
  rw[cGo]
  simp only
  rw[h x (.head _),wT fun d hd=>h d (.tail _ hd)]
  rfl
theorem yA {e:D→R D}{xs:List D}(f:D→D)(h:∀ d∈xs,e d=.ok (f d)):cMap e xs=.ok (.lst (xs.map f)):=by
 unfold cMap;rw[wT h];rfl
theorem cy {α:Type}{e:D→R D}{l:List α}(c g:α→D)(h:∀ a∈l,e (c a)=.ok (g a)):cMap e (l.map c)=.ok (.lst (l.map g)):=by
 unfold cMap
 have:∀ {l:List α},(∀ a∈l,e (c a)=.ok (g a))→cGo (fun _=>.ok true) e (l.map c)=.ok (l.map g):=by
  intro l
  induction l with
  | nil=>intro _;rfl
  | cons a l ih =>
   intro h
   rw[List.map_cons,cGo]
   simp only
   rw[h a (.head _),ih fun b hb=>h b (.tail _ hb)]
   rfl
 rw[this h];rfl
theorem cMap4 {e:D→R D}{a b c d a' b' c' d':D}(ha:e a=.ok a')(hb:e b=.ok b')(hc:e c=.ok c')(hd:e d=.ok d'):cMap e [a,b,c,d]=.ok (.lst [a',b',c',d']):=by
 unfold cMap;simp only[cGo,ha,hb,hc,hd];rfl
theorem fR {α:Type}{c:D→R Bool}{e:D→R D}{l:List α}(k g:α→D)(p:α→Bool)(h:∀ a∈l,c (k a)=.ok (p a)∧(p a=true→e (k a)=.ok (g a))):cFil c e (l.map k)=.ok (.lst ((l.filter p).map g)):=by
 unfold cFil
 have:∀ {l:List α},(∀ a∈l,c (k a)=.ok (p a)∧(p a=true→e (k a)=.ok (g a)))→cGo c e (l.map k)=.ok ((l.filter p).map g):=by
  intro l
  induction l with
  | nil=>intro _;rfl
  | cons a l ih =>
   intro h
   have h1:=h a (.head _)
   have h2:=ih fun b hb=>h b (.tail _ hb)
   rw[List.map_cons,cGo,h1.1]
   cases q:p a with
   | false=>simp only;rw[h2,List.filter_cons_of_neg (by simp[q])]
   | true=>simp only;rw[h1.2 q,h2,List.filter_cons_of_pos q];rfl
 rw[this h];rfl
@[simp] theorem fS (xs:List D):dTuple [.lst xs]=.ok (.tup xs):=rfl
@[simp] theorem sd (xs:List D):dTuple [.tup xs]=.ok (.tup xs):=rfl
@[simp] theorem va (xs:List D):dList [.tup xs]=.ok (.lst xs):=rfl
@[simp] theorem vb (xs:List D):dList [.lst xs]=.ok (.lst xs):=rfl
@[simp] theorem e8 (xs:List D):dLen [.tup xs]=.ok (.int xs.length):=rfl
@[simp] theorem g7 (xs:List D):dLen [.lst xs]=.ok (.int xs.length):=rfl
@[simp] theorem cz (a b:Int):dAdd (.int a) (.int b)=.ok (.int (a+b)):=rfl
@[simp] theorem e9 (a b:Int):dSub (.int a) (.int b)=.ok (.int (a - b)):=rfl
@[simp] theorem tt (a b:Int):dLt (.int a) (.int b)=.ok (.bl (decide (a < b))):=rfl
@[simp] theorem kP (a b:Int):dLe (.int a) (.int b)=.ok (.bl (decide (a≤b))):=rfl
@[simp] theorem yB (a b:Int):dGt (.int a) (.int b)=.ok (.bl (decide (b < a))):=rfl
@[simp] theorem yC (a b:Int):dGe (.int a) (.int b)=.ok (.bl (decide (b≤a))):=rfl
@[simp] theorem d5 (a b:Int):dEq (.int a) (.int b)=.ok (.bl (decide (a=b))):=by
 show R.ok (D.bl (a==b))=_
 rw[Bool.beq_eq_decide_eq]
@[simp] theorem dm (a b:Int):dNf (.int a) (.int b)=.ok (.bl (!decide (a=b))):=by
 show R.ok (D.bl (!(a==b)))=_
 rw[Bool.beq_eq_decide_eq]
theorem bp {a b:Int}(h:(-(2^64) < b∧b < 2^64)∨(-(2^64) < a∧a < 2^64)):dMul (.int a) (.int b)=.ok (.int (a*b)):=by
 have:cMul a b=true:=by unfold cMul;simp only[Bool.or_eq_true,Bool.and_eq_true,decide_eq_true_eq];rcases h with h | h;exact .inr h;exact .inl h
 show (if cMul a b=true then R.ok (D.int (a*b)) else R.stuck)=_
 rw[if_pos this]
theorem jz {a b:Int}(h0:0 < b)(h1:b < 1073741824):dDiv (.int a) (.int b)=.ok (.int (a/b)):=by
 have:cDiv a b=true:=by unfold cDiv;simp only[Bool.and_eq_true,decide_eq_true_eq];exact⟨h0,h1⟩
 show (if cDiv a b=true then R.ok (D.int (a/b)) else R.stuck)=_
 rw[if_pos this]
theorem cX {a b:Int}(h0:0 < b):dMod (.int a) (.int b)=.ok (.int (a%b)):=by
 show (if decide (0 < b)=true then R.ok (D.int (a%b)) else R.stuck)=_
 rw[if_pos (by simpa using h0)]
theorem fc {x y:D}(hx:good 60 x=true)(hy:good 60 y=true):dEq x y=.ok (.bl (eqD x y)):=by unfold dEq;rw[if_pos ⟨hx,hy⟩]
theorem qu {x y:D}(hx:good 60 x=true)(hy:good 60 y=true):dNf x y=.ok (.bl (!eqD x y)):=by unfold dNf;rw[if_pos ⟨hx,hy⟩]
theorem n8 {α:Type}{xs:List α}{i:Nat}{x:α}(h:xs[i]?=some x):L2.atI xs ((i:Nat):Int)=some x:=by
 have hi:i < xs.length:=(List.getElem?_eq_some_iff.mp h).1
 unfold L2.atI L2.ixN
 rw[if_pos (by omega),if_pos (by omega)]
 simpa using h
theorem ixT {xs:List D}{i:Nat}{x:D}(h:xs[i]?=some x):dIx (.tup xs) (.int ((i:Nat):Int))=.ok x:=by
 show (match L2.atI xs (i:Int) with | some d=>R.ok d | none=>R.stuck)=_
 rw[n8 h]
theorem ixL {xs:List D}{i:Nat}{x:D}(h:xs[i]?=some x):dIx (.lst xs) (.int ((i:Nat):Int))=.ok x:=by
 show (match L2.atI xs (i:Int) with | some d=>R.ok d | none=>R.stuck)=_
 rw[n8 h]
@[simp] theorem ix20 (a b:D):dIx (.tup [a,b]) (.int 0)=.ok a:=rfl
@[simp] theorem ix21 (a b:D):dIx (.tup [a,b]) (.int 1)=.ok b:=rfl
@[simp] theorem ix40 (a b c d:D):dIx (.tup [a,b,c,d]) (.int 0)=.ok a:=rfl
@[simp] theorem ix41 (a b c d:D):dIx (.tup [a,b,c,d]) (.int 1)=.ok b:=rfl
@[simp] theorem ix42 (a b c d:D):dIx (.tup [a,b,c,d]) (.int 2)=.ok c:=rfl
@[simp] theorem ix43 (a b c d:D):dIx (.tup [a,b,c,d]) (.int 3)=.ok d:=rfl
@[simp] theorem cj (xs:List D):dIsA qTup (.tup xs)=.ok (.bl true):=rfl
@[simp] theorem vc (i:Int):dIsA qTup (.int i)=.ok (.bl false):=rfl
theorem l8 {α:Type}(p:α→Bool):∀ l:List α,boolsD (l.map fun d=>D.bl (p d))=some (l.map p)
 | []=>rfl
 | a::r=>by simp only[List.map_cons,boolsD,l8 p r,Option.map_some]
theorem wU {α:Type}(p:α→Bool)(l:List α):dAll [.lst (l.map fun d=>D.bl (p d))]=.ok (.bl (l.all p)):=by
 show (match boolsD (l.map fun d=>D.bl (p d)) with | some bs=>R.ok (D.bl (bs.all id)) | none=>R.stuck)=_
 rw[l8]
 simp[List.all_map,Function.comp_def]
theorem tu (f:Int→Int→Bool)(F' G':D→D→R D){x y w:Int}{g:Int→Int→Bool}(h1:F' (.int x) (.int y)=.ok (.bl (f x y)))(h2:G' (.int y) (.int w)=.ok (.bl (g y w))):rCh F' G' (.int x) (.int y) (.ok (.int w))=.ok (.bl (f x y&&g y w)):=by
 unfold rCh
 rw[h1]
 cases f x y with
 | true=>show G' (.int y) (.int w)=_;rw[h2];rfl
 | false=>rfl
@[simp] theorem qv (x y w:Int):rCh dLe dLe (.int x) (.int y) (.ok (.int w))=.ok (.bl (decide (x≤y)&&decide (y≤w))):=tu (fun a b=>decide (a≤b)) _ _ (g:=fun a b=>decide (a≤b)) rfl rfl
@[simp] theorem wV (x y w:Int):rCh dLe dLt (.int x) (.int y) (.ok (.int w))=.ok (.bl (decide (x≤y)&&decide (y < w))):=tu (fun a b=>decide (a≤b)) _ _ (g:=fun a b=>decide (a < b)) rfl rfl
theorem yD (a b:Bool):vAnd (.ok (.bl a)) (.ok (.bl b))=.ok (.bl (a&&b)):=by cases a<;>rfl
theorem Aj (a b:Bool):vOr (.ok (.bl a)) (.ok (.bl b))=.ok (.bl (a||b)):=by cases a<;>rfl
theorem yE (a b:Bool):rAnd (.ok a) (.ok b)=.ok (a&&b):=by cases a<;>rfl
theorem se (a b:Bool):rOr (.ok a) (.ok b)=.ok (a||b):=by cases a<;>rfl
def isW:D→Bool
 | .int _=>true
 | _=>false
def noX:D→Bool
 | .exc _=>false
 | .fn _=>false
 | _=>true
def inTo (hi:Int):D→Bool
 | .int i=>decide (0≤i)&&decide (i≤hi)
 | _=>false
theorem bq {n:Nat}{d:D}(h:good n d=true):noX d=true:=by
 cases d<;>first | rfl | (cases n<;>simp[good]at h)
theorem qw {n:Nat}(hn:1≤n){d:D}(h:noX d=true):pf n F.a4 [d]=.ok (.bl (isW d)):=by
 obtain⟨m,rfl⟩:∃ m,n=m+1:=⟨n - 1,by omega⟩
 rw[pZ]
 cases d<;>first | rfl | (cases h)
theorem qz {n:Nat}(hn:2≤n){d:D}(h:noX d=true):pf n F.aA [d]=.ok (.bl (inTo 9 d)):=by
 obtain⟨m,rfl⟩:∃ m,n=m+1:=⟨n - 1,by omega⟩
 rw[p6,fA,qw (by omega) h]
 cases d<;>first | rfl | (cases h;done) | skip
 simp[isW,inTo]
theorem yF {n:Nat}(hn:2≤n){d:D}(h:noX d=true):pf n F.ba [d]=.ok (.bl (inTo 3 d)):=by
 obtain⟨m,rfl⟩:∃ m,n=m+1:=⟨n - 1,by omega⟩
 rw[rM,hV,qw (by omega) h]
 cases d<;>first | rfl | (cases h;done) | skip
 simp[isW,inTo]
def STP:=And.intro @bF (And.intro @zU (And.intro @nw (And.intro @AH (And.intro @AI (And.intro @ye (And.intro @yc (And.intro @yf (And.intro @R.bind_ok (And.intro @R.bind_err (And.intro @ft (And.intro @ot (And.intro @yE (And.intro @se (And.intro @zV (And.intro @zW (And.intro @AK (And.intro @AL (And.intro @zX (And.intro @zY (And.intro @AM (And.intro @AN (And.intro @yD (And.intro @Aj (And.intro @yg (And.intro @wq (And.intro @wr (And.intro @Bool.not_true (And.intro @Bool.not_false (And.intro @Bool.false_or (And.intro @Bool.true_or (And.intro @Bool.or_false (And.intro @Bool.or_true (And.intro @Bool.true_and (And.intro @Bool.false_and (And.intro @Bool.and_true (And.intro @Bool.and_false (And.intro @Bool.false_eq_true (@Bool.true_eq_false))))))))))))))))))))))))))))))))))))))
def OPP:=And.intro @cz (And.intro @e9 (And.intro @tt (And.intro @kP (And.intro @yB (And.intro @yC (And.intro @d5 (And.intro @dm (And.intro @e8 (And.intro @g7 (And.intro @fS (And.intro @sd (And.intro @va (And.intro @vb (And.intro @ix20 (And.intro @ix21 (And.intro @ix40 (And.intro @ix41 (And.intro @ix42 (And.intro @ix43 (And.intro @cj (And.intro @vc (And.intro @qv (@wV)))))))))))))))))))))))
end Lw
end
section
namespace Lw
open PySem FF
def slim:Nat→D→Bool
 | n+1,.tup xs=>decide (xs.length≤1000)&&xs.all (slim n)
 | n+1,.lst xs=>decide (xs.length≤1000)&&xs.all (slim n)
 | _,_=>true
def treeOk (p:D→Bool):Nat→Int→D→Bool
 | n+1,s,.tup xs=>decide (s≠0)&&(decide (xs.length=4)&&xs.all (treeOk p n (s - 1)))
 | _,_,d=>p d
theorem du {n:Nat}:∀ {xs:List D},goods n xs=true→∀ d∈xs,good n d=true
 | x::xs,h,d,hd=>by
  rw[goods,Bool.and_eq_true]at h
  cases hd with
  | head=>exact h.1
  | tail _ hd=>exact du h.2 d hd
theorem cA {n:Nat}:∀ {xs:List D},(∀ d∈xs,good n d=true)→goods n xs=true
 | [],_=>rfl
 | x::xs,h=>by rw[goods,h x (.head _),cA fun d hd=>h d (.tail _ hd)];rfl
theorem ex1 {n k:Nat}(h:k+1≤n):∃ m,n=m+1∧k≤m:=⟨n - 1,by omega,by omega⟩
theorem bg {d:D}(h:isTup d=false)(h':noX d=true):dIsA qTup d=.ok (.bl false):=by cases d<;>first | rfl | (cases h;done) | (cases h';done)
theorem yG {i c:Nat}{p:D→Bool}(hi:fvL.contains i=true)(hp:∀ m d,c≤m→noX d=true→pf m i [d]=.ok (.bl (p d))):∀ (n m:Nat) (s:Int) (d:D),good n d=true→slim n d=true→n+c+1≤m→pf m F.aR [.int s,d,.fn i]=.ok (.bl (treeOk p n s d)):=by
 have flat:∀ (n m:Nat) (s:Int) (d:D),isTup d=false→noX d=true→c+1≤m→treeOk p n s d=p d→pf m F.aR [.int s,d,.fn i]=.ok (.bl (treeOk p n s d)):=fun n m s d ht hx hm e=>by
  obtain⟨m,rfl,hm⟩:=ex1 hm
  rw[lv,eR,bg ht hx,e]
  have:onF fvL (.fn i) (fun i=>pf m i [d])=.ok (.bl (p d)):=by
   show (if fvL.contains i=true then pf m i [d] else R.stuck)=_
   rw[if_pos hi,hp m d (by omega) hx]
  simp[this]
 intro n
 induction n with
 | zero =>
  intro m s d hg hs hm
  have ht:isTup d=false:=by cases d<;>first | rfl | (simp[good]at hg)
  exact flat 0 m s d ht (bq hg) (by omega) (by cases d<;>rfl)
 | succ n ih =>
  intro m s d hg hs hm
  by_cases ht:isTup d=true
  ·cases d with
   | tup xs =>
    rw[good]at hg
    rw[slim,Bool.and_eq_true,decide_eq_true_eq,List.all_eq_true]at hs
    obtain⟨m,rfl,hm⟩:=ex1 (show n+c+1+1≤m by omega)
    rw[lv,eR]
    have hc:cMap (fun part=>(dSub (.int s) (.int 1)).bind fun x1=>pf m F.aR [x1,part,.fn i]) xs=.ok (.lst (xs.map fun d=>.bl (treeOk p n (s - 1) d))) :=
     yA _ fun d hd=>by rw[e9,R.bind_ok];exact ih m (s - 1) d (du hg d hd) (hs.2 d hd) (by omega)
    simp only[cj,ft,ot,Bool.not_true,bF,nw,d5,e8,R.bind_ok,dm,se,eG (show xs.length≤16777216 by omega),hc,wU,treeOk]
    by_cases h0:s=0
    ·simp[h0]
    ·by_cases h4:xs.length=4
     ·simp[h0,h4]
     ·have h4':¬ ((xs.length:Int)=4):=by omega
      simp[h0,h4,h4']
   | _=>cases ht
  ·have ht':isTup d=false:=by simpa using ht
   exact flat (n+1) m s d ht' (bq hg) (by omega) (by cases d<;>first | rfl | (cases ht';done))
def sizedOk (p:D→Bool)(n:Nat):D→Bool
 | .tup [s,t]=>inTo 3 s&&(match s with
  | .int i=>treeOk p n i t
  | _=>false)
 | _=>false
theorem qA {i c:Nat}{p:D→Bool}(hc:2≤c)(hi:fvL.contains i=true)(hp:∀ m d,c≤m→noX d=true→pf m i [d]=.ok (.bl (p d)))(n m:Nat)(d:D)(hg:good (n+1) d=true)(hs:slim (n+1) d=true)(hm:n+c+2≤m):pf m F.az [d,.fn i]=.ok (.bl (sizedOk p n d)):=by
 obtain⟨m,rfl,hm⟩:=ex1 (show n+c+1+1≤m by omega)
 rw[jP,b7]
 by_cases ht:isTup d=true
 ·cases d with
  | tup xs =>
   rw[good]at hg
   rw[slim,Bool.and_eq_true,decide_eq_true_eq,List.all_eq_true]at hs
   by_cases h2:xs.length=2
   ·match xs,h2 with
    | [a,b],_ =>
     have ga:=du hg a (by simp)
     have gb:=du hg b (by simp)
     have sb:=hs.2 b (by simp)
     have hz:pf m F.ba [a]=.ok (.bl (inTo 3 a)):=yF (by omega) (bq ga)
     simp only[cj,ft,ot,Bool.not_true,e8,R.bind_ok,dm,ix20,ix21,se,List.length_cons,List.length_nil,hz]
     cases a with
     | int v =>
      rw[yG hi hp n m v b gb sb (by omega)]
      by_cases hv:inTo 3 (.int v)=true
      ·simp[hv,sizedOk]
      ·have hv':inTo 3 (.int v)=false:=by simpa using hv
       simp[hv',sizedOk]
     | _=>simp[sizedOk,inTo]
   ·have h2':¬ ((xs.length:Int)=2):=by omega
    have e:sizedOk p n (.tup xs)=false:=by
     match xs,h2 with
     | [],_=>rfl
     | [_],_=>rfl
     | _::_::_::_,_=>rfl
    simp[h2',e]
  | _=>cases ht
 ·have ht':isTup d=false:=by simpa using ht
  rw[bg ht' (bq hg)]
  have e:sizedOk p n d=false:=by cases d<;>first | rfl | (cases ht';done)
  simp[e]
end Lw
end
section
namespace Lw
open PySem FF
def scr (ns:List Int):D:=.lst (ns.map .int)
def cell (ns:List Int)(k:Nat):Int:=if k < ns.length then ns.getD k 0 else if ns=[] then 0 else ns.getD (k%ns.length) 0*31+k
def pk (ns:List Int)(k:Nat)(m:Int):Int :=
 let d:=(cell ns k+6151*((k:Int)+1))*40692%2147483399
 (d*d+d/31)%2147483629%m
theorem iB {ns:List Int}{k:Nat}{m:Int}(h:0 < m):0≤pk ns k m:=Int.emod_nonneg _ (by omega)
theorem iC {ns:List Int}{k:Nat}{m:Int}(h:0 < m):pk ns k m < m:=Int.emod_lt_of_pos _ h
theorem nK (n:Nat):∀ ns:List Int,goods n (ns.map .int)=true
 | []=>rfl
 | i::r=>by rw[List.map_cons,goods,nK n r];cases n<;>rfl
theorem yH {n:Nat}(hn:1≤n)(ns:List Int)(k:Nat):pf n F.bj [scr ns,.int k]=.ok (.int (cell ns k)):=by
 obtain⟨n,rfl,hn⟩:=ex1 hn
 rw[uQ,jg]
 unfold scr cell
 by_cases h:k < ns.length
 ·have h':((k:Int) < (ns.length:Int)):=by omega
  have e0:=ixL (xs:=ns.map .int) (i:=k) (x:=.int (ns.getD k 0)) (by rw[List.getElem?_map,List.getElem?_eq_getElem h];simp[List.getD,h])
  simp only[STP,if_true,if_false,ite_true,ite_false,reduceIte,reduceCtorEq,OPP,List.length_map,decide_eq_true h',e0,if_pos h]
 ·have h':¬ ((k:Int) < (ns.length:Int)):=by omega
  cases ns with
  | nil =>
   have e1:dEq (.lst []) (.lst [])=.ok (.bl true):=rfl
   have h2:¬ ((k:Int) < ((0:Nat):Int)):=by omega
   simp only[STP,if_true,if_false,ite_true,ite_false,reduceIte,reduceCtorEq,OPP,List.map_nil,List.length_nil,decide_eq_false h2,e1,if_neg (Nat.not_lt_zero k)]
  | cons a r =>
   have hl:0 < (a::r).length:=by simp
   have hk:k%(a::r).length < (a::r).length:=Nat.mod_lt _ hl
   have e1:dEq (.lst ((a::r).map .int)) (.lst [])=.ok (.bl false):=by
    rw[fc (by rw[good];exact nK _ _) rfl]
    simp[eqD,eqDs]
   have e2:dMod (.int (k:Int)) (.int ((a::r).length:Int))=.ok (.int ((k%(a::r).length:Nat):Int)):=by
    rw[cX (by omega)];rfl
   have e3:dIx (.lst ((a::r).map .int)) (.int ((k%(a::r).length:Nat):Int))=.ok (.int ((a::r).getD (k%(a::r).length) 0)) :=
    ixL (by rw[List.getElem?_map,List.getElem?_eq_getElem hk,List.getD,List.getElem?_eq_getElem hk];rfl)
   have e4:=bp (a:=(a::r).getD (k%(a::r).length) 0) (b:=31) (.inl (by decide))
   simp only[STP,if_true,if_false,ite_true,ite_false,reduceIte,reduceCtorEq,OPP,List.length_map,decide_eq_false h',e1,e2,e3,e4,if_neg h]
theorem fT {n:Nat}(hn:2≤n)(ns:List Int)(k:Nat){m:Int}(hm:0 < m):pf n F.ah [scr ns,.int k,.int m]=.ok (.int (pk ns k m)):=by
 obtain⟨n,rfl,hn⟩:=ex1 hn
 rw[uR,jh,yH (by omega)]
 simp only[R.bind_ok,cz]
 rw[bp (.inr (by decide))]
 simp only[R.bind_ok,cz]
 rw[bp (.inl (by decide))]
 simp only[R.bind_ok]
 rw[cX (by decide)]
 simp only[bF]
 have h0:0≤(cell ns k+6151*((k:Int)+1))*40692%2147483399:=Int.emod_nonneg _ (by decide)
 have h1:(cell ns k+6151*((k:Int)+1))*40692%2147483399 < 2147483399:=Int.emod_lt_of_pos _ (by decide)
 rw[bp (.inl ⟨by omega,by omega⟩),jz (by decide) (by decide)]
 simp only[R.bind_ok,cz]
 rw[cX (by decide)]
 simp only[R.bind_ok]
 rw[cX hm]
 rfl
theorem d6 {n:Nat}(hn:2≤n)(ns:List Int)(k:Nat){a m:Int}(ha:a=(k:Int))(hm:0 < m):pf n F.ah [scr ns,.int a,.int m]=.ok (.int (pk ns k m)):=by subst ha;exact fT hn ns k hm
def W9 (v:Int):Prop:=0≤v∧v≤9
def dleaf (ns:List Int)(k:Nat):Int:=[0,1,1,2,9,pk ns (k+1) 10].getD (pk ns (k+2) 6).toNat 0
def dt (ns:List Int):Nat→Nat→Q Int
 | 0,k=>.lf (dleaf ns k)
 | n+1,k=>if pk ns k 6 < 2 then .lf (dleaf ns k) else if pk ns k 6=2 then .nd (dt ns n (k+3)) (dt ns n (k+3)) (dt ns n (k+3)) (dt ns n (k+3)) else
  .nd (dt ns n (5*k+7)) (dt ns n (5*k+18)) (dt ns n (5*k+29)) (dt ns n (5*k+40))
theorem tw (ns:List Int)(k:Nat):W9 (dleaf ns k):=by
 unfold dleaf W9
 have h0:=iB (ns:=ns) (k:=k+2) (m:=6) (by decide)
 have h1:=iC (ns:=ns) (k:=k+2) (m:=6) (by decide)
 have g0:=iB (ns:=ns) (k:=k+1) (m:=10) (by decide)
 have g1:=iC (ns:=ns) (k:=k+1) (m:=10) (by decide)
 obtain⟨j,hj⟩:∃ j:Nat,pk ns (k+2) 6=(j:Int):=⟨(pk ns (k+2) 6).toNat,by omega⟩
 rw[hj]at h1 ⊢
 have:j < 6:=by omega
 rcases j with _ | _ | _ | _ | _ | _ | j<;>first | (simp;done) | (simp;omega) | omega
theorem sf (ns:List Int):∀ n k,(dt ns n k).dep≤n
 | 0,k=>Nat.le_refl _
 | n+1,k=>by
  rw[dt]
  have h1:=sf ns n
  split
  ·exact Nat.zero_le _
  ·split
   ·have:=h1 (k+3);simp only[Q.dep];omega
   ·have a:=h1 (5*k+7);have b:=h1 (5*k+18);have c:=h1 (5*k+29);have d:=h1 (5*k+40);simp only[Q.dep];omega
theorem sg (ns:List Int):∀ n k,(dt ns n k).All W9
 | 0,k=>tw ns k
 | n+1,k=>by
  rw[dt]
  have h1:=sg ns n
  split
  ·exact tw ns k
  ·split
   ·exact⟨h1 _,h1 _,h1 _,h1 _⟩
   ·exact⟨h1 _,h1 _,h1 _,h1 _⟩
theorem qB {n:Nat}(hn:2≤n)(ns:List Int)(k:Nat):((((dAdd (.int (k:Int)) (.int 1)).bind fun x=>pf n F.ah [scr ns,x,(.int 10)]).bind fun x1=>.ok (.lst [(.int 0),(.int 1),(.int 1),(.int 2),(.int 9),x1])).bind fun x2=>((dAdd (.int (k:Int)) (.int 2)).bind fun x3=>pf n F.ah [scr ns,x3,(.int 6)]).bind fun x4=>dIx x2 x4)=.ok (.int (dleaf ns k)):=by
 simp only[cz,R.bind_ok]
 rw[d6 hn ns (k+1) (by omega) (by decide),d6 hn ns (k+2) (by omega) (by decide)]
 simp only[R.bind_ok]
 have h0:=iB (ns:=ns) (k:=k+2) (m:=6) (by decide)
 have h1:=iC (ns:=ns) (k:=k+2) (m:=6) (by decide)
 unfold dleaf
 obtain⟨j,hj⟩:∃ j:Nat,pk ns (k+2) 6=(j:Int):=⟨(pk ns (k+2) 6).toNat,by omega⟩
 rw[hj]at h1 ⊢
 have:j < 6:=by omega
 rcases j with _ | _ | _ | _ | _ | _ | j<;>first | rfl | omega
theorem rep4 (x:D):dMul (.tup [x]) (.int 4)=.ok (.tup [x,x,x,x]):=rfl
theorem rng4:rng1 [.int 4]=.ok [.int 0,.int 1,.int 2,.int 3]:=rfl
theorem qC (ns:List Int):∀ (s k n:Nat),s+3≤n→pf n F.an [scr ns,.int k,.int s]=.ok ((dt ns s k).d .int):=by
 intro s
 induction s with
 | zero =>
  intro k n hn
  obtain⟨n,rfl,hn⟩:=ex1 (show 2+1≤n by omega)
  rw[nE,gu,fT (by omega) ns k (by decide)]
  simp only[bF]
  rw[qB (by omega)]
  simp[dt,Q.d]
 | succ s ih =>
  intro k n hn
  obtain⟨n,rfl,hn⟩:=ex1 (show s+3+1≤n by omega)
  rw[nE,gu,fT (by omega) ns k (by decide)]
  simp only[bF]
  rw[qB (by omega)]
  have hs:¬ (((s+1:Nat):Int)=0):=by omega
  have hs1:((s+1:Nat):Int) - 1=(s:Int):=by omega
  have ih':∀ (a:Int) (j:Nat),a=(j:Int)→pf n F.an [scr ns,.int a,.int (s:Int)]=.ok ((dt ns s j).d .int):=fun a j e=>by subst e;exact ih j n (by omega)
  rw[dt]
  by_cases h2:pk ns k 6 < 2
  ·simp only[STP,if_true,if_false,ite_true,ite_false,reduceIte,reduceCtorEq,OPP,decide_eq_false hs,decide_eq_true h2,if_pos h2,Q.d]
  ·by_cases h3:pk ns k 6=2
   ·have e:=ih' ((k:Int)+3) (k+3) (by omega)
    simp only[STP,if_true,if_false,ite_true,ite_false,reduceIte,reduceCtorEq,OPP,decide_eq_false hs,decide_eq_false h2,decide_eq_true h3,if_neg h2,if_pos h3,hs1,e,rep4,Q.d]
   ·have step:∀ (i:Nat) ,(((dMul (.int 5) (.int (k:Int))).bind fun x9=>dAdd x9 (.int 7)).bind fun x10=>(dMul (.int 11) (.int (i:Int))).bind fun x11=>dAdd x10 x11).bind (fun x12=>pf n F.an [scr ns,x12,.int (s:Int)])=.ok ((dt ns s (5*k+7+11*i)).d .int):=fun i=>by
     rw[bp (.inr (by decide)),bp (.inr (by decide))]
     simp only[R.bind_ok,cz]
     exact ih' _ _ (by omega)
    have e:cMap (fun Bb=>(((dMul (.int 5) (.int (k:Int))).bind fun x9=>dAdd x9 (.int 7)).bind fun x10=>(dMul (.int 11) Bb).bind fun x11=>dAdd x10 x11).bind fun x12=>pf n F.an [scr ns,x12,.int (s:Int)]) [.int 0,.int 1,.int 2,.int 3]=.ok (.lst [(dt ns s (5*k+7)).d .int,(dt ns s (5*k+18)).d .int,(dt ns s (5*k+29)).d .int,(dt ns s (5*k+40)).d .int]):=cMap4 (step 0) (step 1) (step 2) (step 3)
    simp only[STP,if_true,if_false,ite_true,ite_false,reduceIte,reduceCtorEq,OPP,decide_eq_false hs,decide_eq_false h2,decide_eq_false h3,if_neg h2,if_neg h3,hs1,rng4]
    rw[e]
    rfl
structure Pc (sz:Nat)(t:Q Int):Prop where
 h3:sz≤3
 dep:t.dep≤sz
 all:t.All W9
def picD (sz:Nat)(t:Q Int):D:=.tup [.int (sz:Int),t.d .int]
end Lw
end
section
namespace Lw
open PySem FF
section
variable {α:Type}[DecidableEq α]{e:α→D}
theorem cB:∀ {n m:Nat} {d:D},good n d=true→n≤m→good m d=true
 | n,m,.non,_,_=>by cases m<;>rfl
 | n,m,.bl _,_,_=>by cases m<;>rfl
 | n,m,.int _,_,_=>by cases m<;>rfl
 | n,m,.str _,_,_=>by cases m<;>rfl
 | n,m,.exc _,h,_=>by cases n<;>simp[good]at h
 | n,m,.fn _,h,_=>by cases n<;>simp[good]at h
 | 0,m,.tup _,h,_=>by simp[good]at h
 | 0,m,.lst _,h,_=>by simp[good]at h
 | n+1,0,.tup _,_,l=>by omega
 | n+1,0,.lst _,_,l=>by omega
 | n+1,m+1,.tup xs,h,l=>by
  rw[good]at h ⊢
  exact cA fun d hd=>cB (n:=n) (du h d hd) (by omega)
 | n+1,m+1,.lst xs,h,l=>by
  rw[good]at h ⊢
  exact cA fun d hd=>cB (n:=n) (du h d hd) (by omega)
theorem Q.g60 (E:En e){t:Q α}(h:t.dep≤50):good 50 (t.d e)=true:=Q.gd E 50 t h
theorem si (E:En e){n:Nat}(hn:1≤n){a b c d:Q α}(ha:a.dep≤50)(hb:b.dep≤50)(hc:c.dep≤50)(hd:d.dep≤50):pf n F.aE [.tup [a.d e,b.d e,c.d e,d.d e]]=.ok ((put4 a b c d).d e):=by
 obtain⟨n,rfl,hn⟩:=ex1 hn
 rw[kB,cm]
 cases a with
 | nd a1 a2 a3 a4=>simp only[STP,if_true,if_false,ite_true,ite_false,reduceIte,reduceCtorEq,OPP,Q.d,put4]
 | lf v =>
  have e1:dIsA qTup (Q.d e (.lf v))=.ok (.bl false):=bg (E.tup v) (bq (E.gd 0 v))
  have gv:good 59 (e v)=true:=E.gd 59 v
  have e2:dEq (.tup [Q.d e (.lf v),b.d e,c.d e,d.d e]) (.tup [Q.d e (.lf v),Q.d e (.lf v),Q.d e (.lf v),Q.d e (.lf v)])=.ok (.bl (decide (b=.lf v)&&(decide (c=.lf v)&&decide (d=.lf v)))):=by
   rw[fc]
   ·rw[eqD,eqDs,eqDs,eqDs,eqDs,eqDs,Q.eqd E,Q.eqd E,Q.eqd E,Q.eqd E]
    simp
   ·rw[good,goods,goods,goods,goods,goods,cB (Q.gd E 50 b hb) (by decide),cB (Q.gd E 50 c hc) (by decide),cB (Q.gd E 50 d hd) (by decide),Q.d,gv]
    rfl
   ·rw[good,goods,goods,goods,goods,goods,Q.d,gv]
    rfl
  simp only[STP,if_true,if_false,ite_true,ite_false,reduceIte,reduceCtorEq,OPP,e1,e2]
  unfold put4
  by_cases hb':b=.lf v
  ·by_cases hc':c=.lf v
   ·by_cases hd':d=.lf v
    ·simp[hb',hc',hd']
    ·simp[hb',hc',hd',Q.d]
   ·simp[hb',hc',Q.d]
  ·simp[hb',Q.d]
theorem dN (E:En e):∀ (t:Q α) (n:Nat),t.dep≤40→t.dep+2≤n→pf n F.au [t.d e]=.ok (t.lean.d e)
 | .lf a,n,_,hn=>by
  obtain⟨n,rfl,hn⟩:=ex1 (show 1+1≤n by omega)
  rw[jl,cP]
  have e1:dIsA qTup (Q.d e (.lf a))=.ok (.bl false):=bg (E.tup a) (bq (E.gd 0 a))
  simp only[STP,if_true,if_false,ite_true,ite_false,reduceIte,reduceCtorEq,e1,Q.lean]
 | .nd a b c d,n,hd,hn=>by
  have hd':1+max (max a.dep b.dep) (max c.dep d.dep)≤40:=hd
  have hn':1+max (max a.dep b.dep) (max c.dep d.dep)+2≤n:=hn
  obtain⟨n,rfl,hn⟩:=ex1 (show max (max a.dep b.dep) (max c.dep d.dep)+2+1≤n by omega)
  rw[jl,cP]
  have ka:=dN E a n (by omega) (by omega)
  have kb:=dN E b n (by omega) (by omega)
  have kc:=dN E c n (by omega) (by omega)
  have kd:=dN E d n (by omega) (by omega)
  have hm:cMap (fun part=>pf n F.au [part]) [a.d e,b.d e,c.d e,d.d e]=.ok (.lst [a.lean.d e,b.lean.d e,c.lean.d e,d.lean.d e]):=cMap4 ka kb kc kd
  have hp:=si E (n:=n) (by omega) (a:=a.lean) (b:=b.lean) (c:=c.lean) (d:=d.lean) (jy (n:=50) (by omega)) (jy (n:=50) (by omega)) (jy (n:=50) (by omega)) (jy (n:=50) (by omega))
  rw[Q.d]
  simp only[STP,if_true,if_false,ite_true,ite_false,reduceIte,reduceCtorEq,OPP,sq4,hm,hp,Q.lean]
theorem tx:∀ {n:Nat} {d:D},isTup d=false→isLst d=false→slim n d=true
 | 0,d,_,_=>by cases d<;>rfl
 | n+1,d,h,h'=>by cases d<;>first | rfl | (cases h;done) | (cases h';done)
theorem ke (hl:∀ a,isLst (e a)=false)(E:En e):∀ (n:Nat) (t:Q α),slim n (t.d e)=true
 | n,.lf a=>tx (E.tup a) (hl a)
 | 0,.nd ..=>rfl
 | n+1,.nd a b c d=>by
  rw[Q.d,Lw.slim]
  simp only[List.all_cons,List.all_nil,ke hl E n a,ke hl E n b,ke hl E n c,ke hl E n d,List.length_cons,List.length_nil]
  rfl
theorem kg {p:D→Bool}(E:En e):∀ (m:Nat) (s:Nat) (t:Q α),t.dep≤m→t.dep≤s→t.All (fun a=>p (e a)=true)→treeOk p m s (t.d e)=true
 | m,s,.lf a,_,_,h=>by
  have:treeOk p m s (e a)=p (e a):=by
   have:=E.tup a
   cases m with
   | zero=>cases e a<;>rfl
   | succ m=>cases q:e a<;>first | rfl | (rw[q]at this;cases this)
  exact this.trans h
 | 0,s,.nd a b c d,h,_,_=>by simp[Q.dep]at h
 | m+1,0,.nd a b c d,_,h,_=>by simp[Q.dep]at h
 | m+1,s+1,.nd a b c d,h,h',hall=>by
  have h1:1+max (max a.dep b.dep) (max c.dep d.dep)≤m+1:=h
  have h2:1+max (max a.dep b.dep) (max c.dep d.dep)≤s+1:=h'
  rw[Q.d,Lw.treeOk,show ((s+1:Nat):Int) - 1=(s:Int) by omega]
  have h0:((s+1:Nat):Int)≠0:=by omega
  simp only[List.all_cons,List.all_nil,kg E m s a (by omega) (by omega) hall.1,kg E m s b (by omega) (by omega) hall.2.1,kg E m s c (by omega) (by omega) hall.2.2.1,kg E m s d (by omega) (by omega) hall.2.2.2,List.length_cons,List.length_nil,decide_eq_true h0]
  rfl
end
theorem ic {α:Type}{p q:α→Prop}(h:∀ a,p a→q a):∀ {t:Q α},t.All p→t.All q
 | .lf a,x=>h a x
 | .nd _ _ _ _,x=>⟨ic h x.1,ic h x.2.1,ic h x.2.2.1,ic h x.2.2.2⟩
theorem in9 {v:Int}(h:W9 v):inTo 9 (.int v)=true:=by simp[inTo,h.1,h.2]
theorem wW:fvL.contains F.aA=true:=by decide
theorem wX {n m:Nat}{d:D}(hg:good (m+1) d=true)(hs:slim (m+1) d=true)(hn:m+5≤n):pf n F.a5 [d]=.ok (.bl (sizedOk (inTo 9) m d)):=by
 obtain⟨n,rfl,hn⟩:=ex1 (show m+4+1≤n by omega)
 rw[mD,db,qA (c:=2) (p:=inTo 9) (by decide) wW (fun m d h1 h2=>qz h1 h2) m n d hg hs (by omega)]
 rfl
theorem nM {n m:Nat}{d:D}(hg:good (m+1) d=true)(hs:slim (m+1) d=true)(hn:m+6≤n):pf n F.af [d]=if sizedOk (inTo 9) m d=true then .ok .non else .err 1:=by
 obtain⟨n,rfl,hn⟩:=ex1 (show m+5+1≤n by omega)
 rw[jQ,b8,wX hg hs (by omega)]
 cases sizedOk (inTo 9) m d<;>rfl
section
variable {sz:Nat}{t:Q Int}
theorem Pc.good (p:Pc sz t):good 4 (picD sz t)=true:=by
 unfold picD
 rw[FF.good,goods,goods,goods,Q.gd En.int 3 t (Nat.le_trans p.dep p.h3)]
 rfl
theorem Pc.slim (p:Pc sz t):slim 4 (picD sz t)=true:=by
 unfold picD
 rw[Lw.slim]
 simp only[List.all_cons,List.all_nil,ke (fun _=>rfl) En.int,tx (d:=.int (sz:Int)) rfl rfl,List.length_cons,List.length_nil]
 rfl
theorem Pc.sized (p:Pc sz t):sizedOk (inTo 9) 3 (picD sz t)=true:=by
 have h3:=p.h3
 have h1:inTo 3 (.int (sz:Int))=true:=by simp[inTo];omega
 unfold picD sizedOk
 simp only[h1,kg En.int 3 sz t (Nat.le_trans p.dep p.h3) p.dep (ic (fun a h=>in9 h) p.all)]
 rfl
theorem Pc.check (p:Pc sz t){n:Nat}(hn:9≤n):pf n F.af [picD sz t]=.ok .non:=by rw[nM p.good p.slim hn,p.sized];rfl
theorem pc_T {f:Nat→Nat→Int}(h3:sz≤3)(h:∀ x y,x < 2^sz→y < 2^sz→W9 (f x y)):Pc sz (T f sz):=⟨h3,bZ sz f,nJ sz f h⟩
theorem Pc.at (p:Pc sz t)(x y:Nat):W9 (t.at sz x y):=iR sz t x y p.all
theorem Pc.side (p:Pc sz t){n:Nat}(hn:1≤n):pf n F.aS [picD sz t]=.ok (.int ((2^sz:Nat):Int)):=by
 obtain⟨n,rfl,hn⟩:=ex1 (show 0+1≤n by omega)
 have h3:=p.h3
 rw[lx,eT]
 unfold picD
 have:sz=0∨sz=1∨sz=2∨sz=3:=by omega
 rcases this with rfl | rfl | rfl | rfl<;>rfl
end
end Lw
end
section
namespace Lw
open PySem FF
section
variable {α:Type}[DecidableEq α]{e:α→D}
theorem p8 {s:Nat}(h:s≤3):2^s≤8:=by
 have:s=0∨s=1∨s=2∨s=3:=by omega
 rcases this with rfl | rfl | rfl | rfl<;>decide
theorem pos2 (s:Nat):0 < 2^s:=Nat.pow_pos (by decide)
theorem jA {a b:Nat}(h0:0 < b)(h1:b < 1073741824):dDiv (.int (a:Int)) (.int (b:Int))=.ok (.int ((a/b:Nat):Int)):=by
 rw[jz (by omega) (by omega)];rfl
theorem qD {a b:Nat}(h0:0 < b):dMod (.int (a:Int)) (.int (b:Int))=.ok (.int ((a%b:Nat):Int)):=by
 rw[cX (by omega)];rfl
theorem l9 (E:En e):∀ (s:Nat) (t:Q α) (n x y:Nat),s≤3→t.dep≤s→x < 2^s→y < 2^s→t.dep+1≤n→pf n F.aT [t.d e,.int ((2^s:Nat):Int),.int (x:Int),.int (y:Int)]=.ok (e (t.at s x y))
 | s,.lf a,n,x,y,_,_,_,_,hn=>by
  obtain⟨n,rfl,hn⟩:=ex1 (show 0+1≤n by omega)
  rw[kq,dB,dM]
  have e1:dIsA qTup (Q.d e (.lf a))=.ok (.bl false):=bg (E.tup a) (bq (E.gd 0 a))
  simp only[STP,if_true,if_false,ite_true,ite_false,reduceIte,reduceCtorEq,e1]
  rfl
 | 0,.nd ..,_,_,_,_,h,_,_,_=>by simp[Q.dep]at h
 | s+1,.nd a b c d,n,x,y,h3,hd,hx,hy,hn=>by
  have hd':1+max (max a.dep b.dep) (max c.dep d.dep)≤s+1:=hd
  have hn':1+max (max a.dep b.dep) (max c.dep d.dep)+1≤n:=hn
  obtain⟨n,rfl,hn⟩:=ex1 (show 0+1≤n by omega)
  have hs:=p8 (show s≤3 by omega)
  have hp:=pos2 s
  rw[bv]at hx hy
  rw[kq,dB,Q.d]
  have e1:dDiv (.int ((2^(s+1):Nat):Int)) (.int 2)=.ok (.int ((2^s:Nat):Int)):=by
   have:=jA (a:=2^(s+1)) (b:=2) (by decide) (by decide)
   rw[show (2^(s+1)/2:Nat)=2^s by rw[bv];omega]at this
   exact this
  have e2:=jA (a:=y) (b:=2^s) hp (by omega)
  have e3:=jA (a:=x) (b:=2^s) hp (by omega)
  have e4:=qD (a:=x) (b:=2^s) hp
  have e5:=qD (a:=y) (b:=2^s) hp
  have e6:dMul (.int 2) (.int ((y/2^s:Nat):Int))=.ok (.int (2*((y/2^s:Nat):Int))):=bp (.inr (by decide))
  rw[Q.at]
  by_cases h1:y < 2^s
  ·have y0:y/2^s=0:=Nat.div_eq_of_lt h1
   have y1:y%2^s=y:=Nat.mod_eq_of_lt h1
   by_cases h2:x < 2^s
   ·have x0:x/2^s=0:=Nat.div_eq_of_lt h2
    have x1:x%2^s=x:=Nat.mod_eq_of_lt h2
    have k:=l9 E s a n x y (by omega) (by omega) h2 h1 (by omega)
    simp only[STP,if_true,if_false,ite_true,ite_false,reduceIte,reduceCtorEq,OPP,e1,e2,e3,e4,e5,e6,if_pos h1,if_pos h2]
    rw[y0,x0,x1,y1]
    show outL (lB ((dIx (.tup [a.d e,b.d e,c.d e,d.d e]) (.int 0)).bind _) _)=_
    simp only[STP,if_true,if_false,ite_true,ite_false,reduceIte,reduceCtorEq,OPP,k]
   ·have x0:x/2^s=1:=by
     have:x=(x - 2^s)+2^s:=by omega
     rw[this,Nat.add_div_right _ hp,Nat.div_eq_of_lt (by omega)]
    have x1:x%2^s=x - 2^s:=by rw[Nat.mod_eq_sub_mod (by omega),Nat.mod_eq_of_lt (by omega)]
    have k:=l9 E s b n (x - 2^s) y (by omega) (by omega) (by omega) h1 (by omega)
    simp only[STP,if_true,if_false,ite_true,ite_false,reduceIte,reduceCtorEq,OPP,e1,e2,e3,e4,e5,e6,if_pos h1,if_neg h2]
    rw[y0,x0,x1,y1]
    show outL (lB ((dIx (.tup [a.d e,b.d e,c.d e,d.d e]) (.int 1)).bind _) _)=_
    simp only[STP,if_true,if_false,ite_true,ite_false,reduceIte,reduceCtorEq,OPP,k]
  ·have y0:y/2^s=1:=by
    have:y=(y - 2^s)+2^s:=by omega
    rw[this,Nat.add_div_right _ hp,Nat.div_eq_of_lt (by omega)]
   have y1:y%2^s=y - 2^s:=by rw[Nat.mod_eq_sub_mod (by omega),Nat.mod_eq_of_lt (by omega)]
   by_cases h2:x < 2^s
   ·have x0:x/2^s=0:=Nat.div_eq_of_lt h2
    have x1:x%2^s=x:=Nat.mod_eq_of_lt h2
    have k:=l9 E s c n x (y - 2^s) (by omega) (by omega) h2 (by omega) (by omega)
    simp only[STP,if_true,if_false,ite_true,ite_false,reduceIte,reduceCtorEq,OPP,e1,e2,e3,e4,e5,e6,if_neg h1,if_pos h2]
    rw[y0,x0,x1,y1]
    show outL (lB ((dIx (.tup [a.d e,b.d e,c.d e,d.d e]) (.int 2)).bind _) _)=_
    simp only[STP,if_true,if_false,ite_true,ite_false,reduceIte,reduceCtorEq,OPP,k]
   ·have x0:x/2^s=1:=by
     have:x=(x - 2^s)+2^s:=by omega
     rw[this,Nat.add_div_right _ hp,Nat.div_eq_of_lt (by omega)]
    have x1:x%2^s=x - 2^s:=by rw[Nat.mod_eq_sub_mod (by omega),Nat.mod_eq_of_lt (by omega)]
    have k:=l9 E s d n (x - 2^s) (y - 2^s) (by omega) (by omega) (by omega) (by omega) (by omega)
    simp only[STP,if_true,if_false,ite_true,ite_false,reduceIte,reduceCtorEq,OPP,e1,e2,e3,e4,e5,e6,if_neg h1,if_neg h2]
    rw[y0,x0,x1,y1]
    show outL (lB ((dIx (.tup [a.d e,b.d e,c.d e,d.d e]) (.int 3)).bind _) _)=_
    simp only[STP,if_true,if_false,ite_true,ite_false,reduceIte,reduceCtorEq,OPP,k]
end
def rowT {α:Type}(e:α→D)(f:Nat→Nat→α)(w y:Nat):D:=.tup ((List.range w).map fun x=>e (f x y))
def rowsT {α:Type}(e:α→D)(f:Nat→Nat→α)(w h:Nat):D:=.tup ((List.range h).map fun y=>rowT e f w y)
theorem fU {s:Nat}(h:s≤16777216):rng1 [.int (s:Int)]=.ok ((List.range s).map fun i=>D.int ((i:Nat):Int)):=by
 show (if -16777216≤(s:Int)∧(s:Int)≤16777216 then R.ok (rngD 0 (s:Int).toNat) else R.stuck)=_
 rw[if_pos ⟨by omega,by omega⟩]
 unfold rngD
 simp
theorem sj {α:Type}{e:α→D}{f g:Nat→Nat→α}{w y:Nat}(h:∀ x,x < w→f x y=g x y):rowT e f w y=rowT e g w y:=by
 unfold rowT
 congr 1
 exact List.map_congr_left fun x hx=>by rw[h x (List.mem_range.mp hx)]
theorem kx {α:Type}{e:α→D}{f g:Nat→Nat→α}{w k:Nat}(h:∀ x y,x < w→y < k→f x y=g x y):rowsT e f w k=rowsT e g w k:=by
 unfold rowsT
 congr 1
 exact List.map_congr_left fun y hy=>sj fun x hx=>h x y hx (List.mem_range.mp hy)
theorem tz {α:Type}{e:α→D}{f:Nat→Nat→α}{w x y:Nat}(h:x < w):dIx (rowT e f w y) (.int (x:Int))=.ok (e (f x y)):=ixT (by simp[h])
section
variable {sz:Nat}{t:Q Int}
theorem Pc.row (p:Pc sz t){n:Nat}(hn:5≤n){y:Nat}(hy:y < 2^sz):pf n F.aZ [picD sz t,.int (y:Int)]=.ok (rowT .int (t.at sz) (2^sz) y):=by
 obtain⟨n,rfl,hn⟩:=ex1 (show 4+1≤n by omega)
 have h3:=p.h3
 have hd:=p.dep
 have h8:=p8 h3
 have e1:=p.side (n:=n) (by omega)
 have hm:cMap (fun x=>(dIx (picD sz t) (.int 1)).bind fun x1=>pf n F.aT [x1,.int ((2^sz:Nat):Int),x,.int (y:Int)]) ((List.range (2^sz)).map fun i=>D.int ((i:Nat):Int))=.ok (.lst ((List.range (2^sz)).map fun x=>D.int (t.at sz x y))) :=
  cy _ _ fun x hx=>by
   unfold picD
   rw[ix21,R.bind_ok]
   exact l9 En.int sz t n x y h3 hd (List.mem_range.mp hx) hy (by omega)
 rw[oB,dR]
 simp only[STP,if_true,if_false,ite_true,ite_false,reduceIte,reduceCtorEq,e1,fU (show 2^sz≤16777216 by omega),hm,OPP]
 rfl
theorem Pc.rows (p:Pc sz t){n:Nat}(hn:10≤n):pf n F.aQ [picD sz t]=.ok (rowsT .int (t.at sz) (2^sz) (2^sz)):=by
 obtain⟨n,rfl,hn⟩:=ex1 (show 9+1≤n by omega)
 have h8:=p8 p.h3
 have e1:=p.side (n:=n) (by omega)
 have e2:=p.check (n:=n) (by omega)
 have hm:cMap (fun y=>pf n F.aZ [picD sz t,y]) ((List.range (2^sz)).map fun i=>D.int ((i:Nat):Int))=.ok (.lst ((List.range (2^sz)).map fun y=>rowT .int (t.at sz) (2^sz) y)) :=
  cy _ _ fun y hy=>p.row (by omega) (List.mem_range.mp hy)
 rw[mE,dc]
 simp only[STP,if_true,if_false,ite_true,ite_false,reduceIte,reduceCtorEq,e1,e2,fU (show 2^sz≤16777216 by omega),hm,OPP]
 rfl
end
end Lw
end
section
namespace Lw
open PySem FF
theorem tF (n:Nat):dDiv (.int ((2^(n+1):Nat):Int)) (.int 2)=.ok (.int ((2^n:Nat):Int)):=by
 have:=jA (a:=2^(n+1)) (b:=2) (by decide) (by decide)
 rw[show (2^(n+1)/2:Nat)=2^n by rw[bv];omega]at this
 exact this
theorem fV {sz:Nat}(h:sz≤3):sz=0∨sz=1∨sz=2∨sz=3:=by omega
theorem sk {sz:Nat}(h:sz≤3):dIndexI [(.int 1),(.int 2),(.int 4),(.int 8)] [.int ((2^sz:Nat):Int)]=.ok (.int (sz:Int)):=by
 rcases fV h with rfl | rfl | rfl | rfl<;>rfl
def Wo (f:Nat→Nat→Int)(sz:Nat):Prop:=∀ x y,x < 2^sz→y < 2^sz→W9 (f x y)
def rowL {α:Type}(e:α→D)(f:Nat→Nat→α)(w y:Nat):D:=.lst ((List.range w).map fun x=>e (f x y))
def rowsL {α:Type}(e:α→D)(f:Nat→Nat→α)(w h:Nat):D:=.lst ((List.range h).map fun y=>rowL e f w y)
theorem yI {α:Type}{e:α→D}{f:Nat→Nat→α}{w x y:Nat}(h:x < w):dIx (rowL e f w y) (.int (x:Int))=.ok (e (f x y)):=ixL (by simp[h])
theorem qE {α:Type}{e:α→D}{f:Nat→Nat→α}{w k y:Nat}(h:y < k):dIx (rowsL e f w k) (.int (y:Int))=.ok (rowL e f w y):=ixL (by simp[h])
theorem catL {xs ys:List D}(h:xs.length+ys.length≤16777216):dAdd (.lst xs) (.lst ys)=.ok (.lst (xs++ys)):=by
 show (if xs.length+ys.length≤16777216 then R.ok (D.lst (xs++ys)) else R.stuck)=_
 rw[if_pos h]
theorem qF {α:Type}{e:α→D}{fa fb F:Nat→Nat→α}{h y y':Nat}(ha:∀ x,x < h→F x y'=fa x y)(hb:∀ x,x < h→F (h+x) y'=fb x y):((List.range h).map fun x=>e (fa x y))++((List.range h).map fun x=>e (fb x y))=(List.range (h+h)).map fun x=>e (F x y'):=by
 rw[List.range_add,List.map_append,List.map_map]
 congr 1
 ·exact List.map_congr_left fun x hx=>by rw[ha x (List.mem_range.mp hx)]
 ·exact List.map_congr_left fun x hx=>by show _=e (F (h+x) y');rw[hb x (List.mem_range.mp hx)]
theorem bC {xs ys:List D}(h:xs.length+ys.length≤16777216):oExt xs (.lst ys)=.ok (xs++ys):=by unfold oExt;simp[h]
theorem qG {xs ys:List D}(h:xs.length+ys.length≤16777216):oExt xs (.tup ys)=.ok (xs++ys):=by unfold oExt;simp[h]
theorem o3 {xs:List D}{y:D}(h:xs.length < 16777216):oApp xs y=.ok (xs++[y]):=by unfold oApp;simp[h]
section
variable {α:Type}[DecidableEq α]{e:α→D}
theorem qH {fa fb F:Nat→Nat→α}{h o:Nat}(hh:h≤1000){some_:List D}{u:Nat}(e1:some_[u]?=some (rowsL e fa h h))(e2:some_[u+1]?=some (rowsL e fb h h))(ha:∀ x y,x < h→y < h→F x (o+y)=fa x y)(hb:∀ x y,x < h→y < h→F (h+x) (o+y)=fb x y){t:Nat→List D→R D}{made:List D}(hm:made.length≤1000) :
  dE t (.lst some_) made (.int (u:Int))=.nx (made++(List.range h).map fun y=>rowL e F (h+h) (o+y)):=by
 have i1:=ixL e1
 have i2:dIx (.lst some_) (.int ((u:Int)+1))=.ok (rowsL e fb h h):=by have:=ixL e2;rw[show ((u+1:Nat):Int)=(u:Int)+1 by omega]at this;exact this
 have hl:dLen [rowsL e fa h h]=.ok (.int (h:Int)):=by unfold rowsL;rw[g7,List.length_map,List.length_range]
 have hc:cMap (fun Bb=>((dIx (.lst some_) (.int (u:Int))).bind fun x2=>dIx x2 Bb).bind fun x3=>(((dAdd (.int (u:Int)) (.int 1)).bind fun x4=>dIx (.lst some_) x4).bind fun x5=>dIx x5 Bb).bind fun x6=>dAdd x3 x6) ((List.range h).map fun i=>D.int ((i:Nat):Int))=.ok (.lst ((List.range h).map fun y=>rowL e F (h+h) (o+y))) :=
  cy _ _ fun y hy=>by
   have hy:=List.mem_range.mp hy
   rw[i1]
   simp only[STP,if_true,if_false,ite_true,ite_false,reduceIte,reduceCtorEq,OPP,i2,qE hy]
   unfold rowL
   rw[catL (by simp;omega),qF (F:=F) (y':=o+y) (fun x hx=>ha x y hx hy) (fun x hx=>hb x y hx hy)]
 unfold dE
 rw[i1]
 simp only[STP,if_true,if_false,ite_true,ite_false,reduceIte,reduceCtorEq,hl,fU (show h≤16777216 by omega)]
 rw[i1]at hc
 simp only[STP,if_true,if_false,ite_true,ite_false,reduceIte,reduceCtorEq]at hc
 simp only[STP,if_true,if_false,ite_true,ite_false,reduceIte,reduceCtorEq,hc]
 rw[bC (by simp;omega)]
 rfl
theorem dO (E:En e):∀ (s:Nat) (t:Q α) (n:Nat),s≤3→t.dep≤s→s+1≤n→pf n F.aL [.int (s:Int),t.d e]=.ok (rowsL e (t.at s) (2^s) (2^s))
 | 0,t,n,_,hd,hn=>by
  obtain⟨n,rfl,hn⟩:=ex1 (show 0+1≤n by omega)
  rw[jo,cS,show ((0:Nat):Int)=0 from rfl]
  simp only[STP,if_true,if_false,ite_true,ite_false,reduceIte,reduceCtorEq,OPP,decide_true]
  cases t with
  | lf a=>rfl
  | nd=>simp[Q.dep]at hd
 | s+1,t,n,h3,hd,hn=>by
  obtain⟨n,rfl,hn⟩:=ex1 (show s+1+1≤n by omega)
  have e0:¬ (((s+1:Nat):Int)=0):=by omega
  have e1:((s+1:Nat):Int) - 1=(s:Int):=by omega
  have h8:=p8 (show s≤3 by omega)
  obtain⟨a,b,c,d,hq,ha,hb,hc,hd4,hF⟩:∃ a b c d:Q α,(rIf (asB (dIsA qTup (t.d e))) (.ok (t.d e)) (dMul (.tup [t.d e]) (.int 4)))=.ok (.tup [a.d e,b.d e,c.d e,d.d e])∧a.dep≤s∧b.dep≤s∧c.dep≤s∧d.dep≤s∧∀ x y,t.at (s+1) x y=(Q.nd a b c d).at (s+1) x y:=by
   cases t with
   | lf v =>
    refine⟨.lf v,.lf v,.lf v,.lf v,?_,Nat.zero_le _,Nat.zero_le _,Nat.zero_le _,Nat.zero_le _,fun x y=>by simp[Q.at]⟩
    rw[bg (d:=Q.d e (.lf v)) (E.tup v) (bq (E.gd 0 v))]
    rfl
   | nd a b c d =>
    have hd':1+max (max a.dep b.dep) (max c.dep d.dep)≤s+1:=hd
    exact⟨a,b,c,d,rfl,by omega,by omega,by omega,by omega,fun _ _=>rfl⟩
  have ka:=dO E s a n (by omega) ha (by omega)
  have kb:=dO E s b n (by omega) hb (by omega)
  have kc:=dO E s c n (by omega) hc (by omega)
  have kd:=dO E s d n (by omega) hd4 (by omega)
  have hm:cMap (fun Bc=>(dSub (.int ((s+1:Nat):Int)) (.int 1)).bind fun x=>pf n F.aL [x,Bc]) [a.d e,b.d e,c.d e,d.d e]=.ok (.lst [rowsL e (a.at s) (2^s) (2^s),rowsL e (b.at s) (2^s) (2^s),rowsL e (c.at s) (2^s) (2^s),rowsL e (d.at s) (2^s) (2^s)]):=by
   rw[e9,e1];exact cMap4 ka kb kc kd
  have u1:=qH (e:=e) (fa:=a.at s) (fb:=b.at s) (F:=t.at (s+1)) (h:=2^s) (o:=0) (by omega) (some_:=[rowsL e (a.at s) (2^s) (2^s),rowsL e (b.at s) (2^s) (2^s),rowsL e (c.at s) (2^s) (2^s),rowsL e (d.at s) (2^s) (2^s)]) (u:=0) rfl rfl
   (fun x y hx hy=>by rw[hF,Q.at,if_pos (by omega),if_pos hx,Nat.zero_add]) (fun x y hx hy=>by rw[hF,Q.at,if_pos (by omega),if_neg (by omega),Nat.zero_add,Nat.add_sub_cancel_left]) (t:=pf n) (made:=[]) (by simp)
  have u2:=qH (e:=e) (fa:=c.at s) (fb:=d.at s) (F:=t.at (s+1)) (h:=2^s) (o:=2^s) (by omega) (some_:=[rowsL e (a.at s) (2^s) (2^s),rowsL e (b.at s) (2^s) (2^s),rowsL e (c.at s) (2^s) (2^s),rowsL e (d.at s) (2^s) (2^s)]) (u:=2) rfl rfl
   (fun x y hx hy=>by rw[hF,Q.at,if_neg (by omega),if_pos hx,Nat.add_sub_cancel_left]) (fun x y hx hy=>by rw[hF,Q.at,if_neg (by omega),if_neg (by omega),Nat.add_sub_cancel_left,Nat.add_sub_cancel_left]) (t:=pf n) (made:=(List.range (2^s)).map fun y=>rowL e (t.at (s+1)) (2^s+2^s) (0+y)) (by simp;omega)
  rw[jo,cS,hq]
  have hs2:sq (.tup [(.int 0),(.int 2)])=.ok [.int 0,.int 2]:=rfl
  rw[show ((0:Nat):Int)=0 from rfl]at u1
  rw[show ((2:Nat):Int)=2 from rfl]at u2
  simp only[STP,if_true,if_false,ite_true,ite_false,reduceIte,reduceCtorEq,OPP,decide_eq_false e0,sq4,e1,hs2,aX,eN]at hm ⊢
  simp only[STP,if_true,if_false,ite_true,ite_false,reduceIte,reduceCtorEq,hm,u1,List.nil_append]at u2 ⊢
  simp only[STP,if_true,if_false,ite_true,ite_false,reduceIte,reduceCtorEq,u2]
  unfold rowsL
  rw[bv,List.range_add,List.map_append,List.map_map]
  simp[Function.comp_def]
end
theorem Pc.lrows {sz:Nat}{t:Q Int}(p:Pc sz t){n:Nat}(hn:5≤n):pf n F.aX [picD sz t]=.ok (rowsT .int (t.at sz) (2^sz) (2^sz)):=by
 obtain⟨n,rfl,hn⟩:=ex1 (show 4+1≤n by omega)
 have h3:=p.h3
 have h8:=p8 h3
 have e1:=dO En.int sz t n h3 p.dep (by omega)
 have hsq:sq (rowsL .int (t.at sz) (2^sz) (2^sz))=.ok ((List.range (2^sz)).map fun y=>rowL .int (t.at sz) (2^sz) y):=cx (by simp;omega)
 have hm:cMap (fun Bo=>dTuple [Bo]) ((List.range (2^sz)).map fun y=>rowL .int (t.at sz) (2^sz) y)=.ok (.lst ((List.range (2^sz)).map fun y=>rowT .int (t.at sz) (2^sz) y)):=cy _ _ fun y _=>rfl
 rw[uS,ji]
 unfold picD
 simp only[STP,if_true,if_false,ite_true,ite_false,reduceIte,reduceCtorEq,OPP,e1,hsq,hm]
 rfl
end Lw
end
section
namespace Lw
open PySem FF
theorem fe {α:Type}(c:α→D){step:List D→D→L (List D)}(g:α→List D)(m:Nat):∀ (l:List α) (acc:List D),(∀ a∈l,∀ acc:List D,acc.length≤10000→step acc (c a)=.nx (acc++g a))→(∀ a∈l,(g a).length≤m)→acc.length+l.length*m≤10000→lFor step (l.map c) acc=.nx (acc++l.flatMap g)
 | [],acc,_,_,_=>by simp
 | a::l,acc,h,hm,hl=>by
  have hl':acc.length+(l.length+1)*m≤10000:=hl
  rw[Nat.add_mul]at hl'
  have ha:=hm a (.head _)
  rw[List.map_cons,aX,h a (.head _) acc (by omega),nw,fe c g m l (acc++g a) (fun b hb=>h b (.tail _ hb)) (fun b hb=>hm b (.tail _ hb)) (by rw[List.length_append];omega),List.flatMap_cons,List.append_assoc]
theorem fW:∀ is:List Int,intsOf (is.map .int)=some is
 | []=>rfl
 | i::r=>by rw[List.map_cons,intsOf,fW r];rfl
def vals (f:Nat→Nat→Int)(w k:Nat):List Int:=(List.range k).flatMap fun y=>(List.range w).map fun x=>f x y
theorem wY (f:Nat→Nat→Int)(w k:Nat):(vals f w k).length=k*w:=by
 unfold vals
 rw[List.length_flatMap]
 have:∀ l:List Nat,(l.map fun y=>((List.range w).map fun x=>f x y).length).sum=l.length*w:=fun l=>by
  induction l with
  | nil=>simp
  | cons a l ih=>rw[List.map_cons,List.sum_cons,ih,List.length_map,List.length_range,List.length_cons,Nat.add_mul];omega
 rw[this,List.length_range]
theorem qI {f:Nat→Nat→Int}{w k:Nat}{v:Int}:v∈vals f w k↔∃ x y,x < w∧y < k∧v=f x y:=by
 unfold vals
 simp only[List.mem_flatMap,List.mem_map,List.mem_range]
 constructor
 ·rintro ⟨y,hy,x,hx,rfl⟩;exact⟨x,y,hx,hy,rfl⟩
 ·rintro ⟨x,y,hx,hy,rfl⟩;exact⟨y,hy,x,hx,rfl⟩
theorem wZ:∀ {l:List Int},l.eraseDups.length=1↔∃ a r,l=a::r∧∀ v∈l,v=a
 | []=>by simp
 | a::r=>by
  rw[List.eraseDups_cons]
  constructor
  ·intro h
   have h0:(r.filter fun b=>!b==a).eraseDups=[]:=List.length_eq_zero_iff.mp (by simpa using h)
   have h1:(r.filter fun b=>!b==a)=[]:=by
    cases q:(r.filter fun b=>!b==a) with
    | nil=>rfl
    | cons b s=>rw[q,List.eraseDups_cons]at h0;cases h0
   refine⟨a,r,rfl,fun v hv=>?_⟩
   cases hv with
   | head=>rfl
   | tail _ hv =>
    rw[List.filter_eq_nil_iff]at h1
    simpa using h1 v hv
  ·rintro ⟨a',r',e,h⟩
   cases e
   have:(r.filter fun b=>!b==a)=[]:=List.filter_eq_nil_iff.mpr fun v hv=>by simpa using h v (.tail _ hv)
   rw[this];rfl
theorem nN {f:Nat→Nat→Int}{w k:Nat}(hw:0 < w)(hk:0 < k):∃ r,vals f w k=f 0 0::r:=by
 obtain⟨w,rfl⟩:∃ m,w=m+1:=⟨w - 1,by omega⟩
 obtain⟨k,rfl⟩:∃ m,k=m+1:=⟨k - 1,by omega⟩
 unfold vals
 rw[List.range_succ_eq_map (n:=k),List.flatMap_cons,List.range_succ_eq_map (n:=w),List.map_cons]
 exact⟨_,rfl⟩
theorem xa {f:Nat→Nat→Int}{w k:Nat}(hw:0 < w)(hk:0 < k):(vals f w k).eraseDups.length=1↔∀ x y,x < w→y < k→f x y=f 0 0:=by
 rw[wZ]
 obtain⟨r,hr⟩:=nN (f:=f) hw hk
 constructor
 ·rintro ⟨a,r',e,h⟩ x y hx hy
  rw[hr]at e
  cases e
  exact h _ (qI.mpr ⟨x,y,hx,hy,rfl⟩)
 ·intro h
  refine⟨_,r,hr,fun v hv=>?_⟩
  obtain⟨x,y,hx,hy,rfl⟩:=qI.mp hv
  exact h x y hx hy
theorem T_nd {α:Type}[DecidableEq α]{n:Nat}{f:Nat→Nat→α}(h:¬ ∀ x y,x < 2^(n+1)→y < 2^(n+1)→f x y=f 0 0):T f (n+1)=.nd (T f n) (T (sh f (2^n) 0) n) (T (sh f 0 (2^n)) n) (T (sh f (2^n) (2^n)) n):=by
 by_cases q:∃ v,T f (n+1)=.lf v
 ·obtain⟨v,q⟩:=q
  exfalso
  apply h
  intro x y hx hy
  have:=T_at (n+1) f x y hx hy
  rw[q,dM]at this
  have h0:=T_at (n+1) f 0 0 (pos2 _) (pos2 _)
  rw[q,dM]at h0
  rw[← this,h0]
 ·rw[T]at q ⊢
  unfold put4 at q ⊢
  split
  ·rename_i v e
   split
   ·rename_i h';exfalso;apply q;rw[e];simp only;rw[if_pos h'];exact⟨v,rfl⟩
   ·rw[e]
  ·rfl
theorem kQ {n d k:Nat}(h:k≤n):HT.sIx n d (some ((k:Nat):Int))=k:=by
 unfold HT.sIx
 simp only
 rw[if_neg (by omega)]
 rw[Int.toNat_natCast]
 omega
theorem ie {g:Nat→D}{w a h:Nat}(hw:a+h≤w):cutD ((List.range w).map g) (some ((a:Nat):Int)) (some ((a+h:Nat):Int))=(List.range h).map fun i=>g (a+i):=by
 unfold cutD
 rw[List.length_map,List.length_range,kQ (by omega),kQ (by omega),← List.map_drop,← List.map_take]
 have:((List.range w).drop a).take (a+h - a)=(List.range h).map (a + ·):=by
  rw[show a+h - a=h by omega]
  apply List.ext_getElem?
  intro i
  rw[List.getElem?_take]
  by_cases hi:i < h
  ·rw[if_pos hi,List.getElem?_drop,List.getElem?_range (by omega),List.getElem?_map,List.getElem?_range hi];rfl
  ·rw[if_neg hi,List.getElem?_eq_none (by simp;omega)]
 rw[this,List.map_map]
 rfl
def seqD (b:Bool)(xs:List D):D:=if b then .tup xs else .lst xs
theorem o4 {b:Bool}{xs:List D}(h:xs.length≤16777216):sq (seqD b xs)=.ok xs:=by cases b;exact cx h;exact eG h
theorem yJ {b:Bool}{xs:List D}{lo hi:Option Int}:dSw (seqD b xs) lo hi=.ok (seqD b (cutD xs lo hi)):=by cases b<;>rfl
theorem qJ {b:Bool}{xs:List D}:dLen [seqD b xs]=.ok (.int xs.length):=by cases b<;>rfl
def rowsS {α:Type}(b:Bool)(e:α→D)(f:Nat→Nat→α)(w h:Nat):D:=seqD b ((List.range h).map fun y=>rowT e f w y)
theorem vd:∀ (n:Nat) (b:Bool) (f:Nat→Nat→Int) (k:Nat),n≤3→n+1≤k→pf k F.bb [rowsS b .int f (2^n) (2^n)]=.ok ((T f n).d .int):=by
 have flat:∀ (b:Bool) (f:Nat→Nat→Int) (s:Nat) (t:Nat→List D→R D),s≤8→lFor (τ:=List D) (fun s x=>di t s x) ((List.range s).map fun y=>rowT .int f s y) []=.nx ((vals f s s).map .int):=fun b f s t hs=>by
  have h8:s*s≤64:=Nat.mul_le_mul hs hs
  have:=fe (fun y=>rowT .int f s y) (step:=fun s x=>di t s x) (fun y=>(List.range s).map fun x=>D.int (f x y)) s (List.range s) [] (fun y hy acc ha=>by
   unfold di rowT
   rw[qG (by simp;omega)]
   rfl) (fun y hy=>by simp) (by simp;omega)
  rw[this]
  unfold vals
  simp[List.map_flatMap,Function.comp_def]
 intro n
 induction n with
 | zero =>
  intro b f k _ hk
  obtain⟨k,rfl,hk⟩:=ex1 (show 0+1≤k by omega)
  have hf:=flat b f 1 (pf k) (by decide)
  rw[lz,eV]
  unfold rowsS
  rw[show (2^0:Nat)=1 from rfl,o4 (by simp),bF,hf]
  rfl
 | succ n ih =>
  intro b f k h3 hk
  obtain⟨k,rfl,hk⟩:=ex1 (show n+1+1≤k by omega)
  have h8:=p8 h3
  have hp:=pos2 (n+1)
  have hq:=pos2 n
  have hd:=bv n
  have hf:=flat b f (2^(n+1)) (pf k) h8
  have hls:dLenSet [.lst ((vals f (2^(n+1)) (2^(n+1))).map .int)]=.ok (.int ((vals f (2^(n+1)) (2^(n+1))).eraseDups.length:Nat)):=by
   have hl:(vals f (2^(n+1)) (2^(n+1))).length≤4000:=by
    rw[wY];have:=Nat.mul_le_mul h8 h8;omega
   unfold dLenSet;simp only[fW];rw[if_pos hl]
  have hv:=xa (f:=f) hp hp
  obtain⟨r,hr⟩:=nN (f:=f) hp hp
  have hsq:sq (rowsS b .int f (2^(n+1)) (2^(n+1)))=.ok ((List.range (2^(n+1))).map fun y=>rowT .int f (2^(n+1)) y):=o4 (by simp;omega)
  have hln:dLen [rowsS b .int f (2^(n+1)) (2^(n+1))]=.ok (.int ((2^(n+1):Nat):Int)):=by unfold rowsS;rw[qJ];simp
  rw[lz,eV]
  by_cases hall:∀ x y,x < 2^(n+1)→y < 2^(n+1)→f x y=f 0 0
  ·have h1:((vals f (2^(n+1)) (2^(n+1))).eraseDups.length:Int)=1:=by have:=hv.mpr hall;omega
   have h2:dIx (.lst ((vals f (2^(n+1)) (2^(n+1))).map .int)) (.int 0)=.ok (.int (f 0 0)):=by
    have:=ixL (xs:=(vals f (2^(n+1)) (2^(n+1))).map .int) (i:=0) (x:=.int (f 0 0)) (by rw[hr];rfl)
    exact this
   have h3:T f (n+1)=.lf (f 0 0):=(aH _ _ _ hall).trans (fQ _ _)
   simp only[STP,if_true,if_false,ite_true,ite_false,reduceIte,reduceCtorEq,OPP,hsq,hf,hls,decide_eq_true h1,h2,h3,Q.d]
  ·have h1:¬ ((vals f (2^(n+1)) (2^(n+1))).eraseDups.length:Int)=1:=fun q=>hall (hv.mp (by omega))
   have one:∀ (tp lf:Nat) (parts:List D),tp+2^n≤2^(n+1)→lf+2^n≤2^(n+1)→parts.length≤10→fC (pf k) (rowsS b .int f (2^(n+1)) (2^(n+1))) (.int ((2^n:Nat):Int)) (.int (tp:Int)) parts (.int (lf:Int))=.nx (parts++[(T (sh f lf tp) n).d .int]):=fun tp lf parts htp hlf hpa=>by
    have c1:(tp:Int)+((2^n:Nat):Int)=((tp+2^n:Nat):Int):=by omega
    have c2:(lf:Int)+((2^n:Nat):Int)=((lf+2^n:Nat):Int):=by omega
    have ai:∀ i:Int,asI (.int i)=.ok (some i):=fun _=>rfl
    have s1:dSw (rowsS b .int f (2^(n+1)) (2^(n+1))) (some (tp:Int)) (some ((tp+2^n:Nat):Int))=.ok (seqD b ((List.range (2^n)).map fun i=>rowT .int f (2^(n+1)) (tp+i))):=by
     unfold rowsS
     rw[yJ,ie htp]
    have s2:sq (seqD b ((List.range (2^n)).map fun i=>rowT .int f (2^(n+1)) (tp+i)))=.ok ((List.range (2^n)).map fun i=>rowT .int f (2^(n+1)) (tp+i)):=o4 (by simp;omega)
    have s3:cMap (fun Bo=>dSw Bo (some (lf:Int)) (some ((lf+2^n:Nat):Int))) ((List.range (2^n)).map fun i=>rowT .int f (2^(n+1)) (tp+i))=.ok (rowsS false .int (sh f lf tp) (2^n) (2^n)):=by
     refine(cy _ (fun i=>rowT .int (sh f lf tp) (2^n) i) fun i hi=>?_).trans rfl
     unfold rowT
     show R.ok (D.tup (cutD _ _ _))=_
     rw[ie (g:=fun x=>D.int (f x (tp+i))) hlf]
     unfold sh
     congr 2
     exact List.map_congr_left fun x _=>by rw[Nat.add_comm lf x,Nat.add_comm tp i]
    have s4:=ih false (sh f lf tp) k (by omega) (by omega)
    unfold fC
    simp only[STP,if_true,if_false,ite_true,ite_false,reduceIte,reduceCtorEq,OPP,ai,c1,c2,s1,s2,s3,s4]
    rw[o3 (by omega)]
    rfl
   have pair:∀ (tp:Nat) (parts:List D),tp+2^n≤2^(n+1)→parts.length≤5→fD (pf k) (rowsS b .int f (2^(n+1)) (2^(n+1))) (.int ((2^n:Nat):Int)) parts (.int (tp:Int))=.nx (parts++[(T (sh f 0 tp) n).d .int,(T (sh f (2^n) tp) n).d .int]):=fun tp parts htp hpa=>by
    have h0:=one tp 0 parts htp (by omega) (by omega)
    have h1:=one tp (2^n) (parts++[(T (sh f 0 tp) n).d .int]) htp (by omega) (by simp;omega)
    have hs2:sq (.tup [(.int 0),(.int ((2^n:Nat):Int))])=.ok [.int 0,.int ((2^n:Nat):Int)]:=rfl
    rw[show ((0:Nat):Int)=0 from rfl]at h0
    unfold fD
    simp only[STP,if_true,if_false,ite_true,ite_false,reduceIte,reduceCtorEq,hs2,aX,eN,h0,h1,List.append_assoc,List.cons_append,List.nil_append]
   have p0:=pair 0 [] (by omega) (by simp)
   have p1:=pair (2^n) [(T (sh f 0 0) n).d .int,(T (sh f (2^n) 0) n).d .int] (by omega) (by simp)
   have hs2:sq (.tup [(.int 0),(.int ((2^n:Nat):Int))])=.ok [.int 0,.int ((2^n:Nat):Int)]:=rfl
   rw[show ((0:Nat):Int)=0 from rfl]at p0
   rw[T_nd hall]
   simp only[STP,if_true,if_false,ite_true,ite_false,reduceIte,reduceCtorEq,OPP,hsq,hf,hls,decide_eq_false h1,hln,tF,hs2,aX,eN,p0,List.nil_append,p1,List.cons_append,Q.d]
   rfl
theorem Ak {n:Nat}(b:Bool)(f:Nat→Nat→Int){sz:Nat}(h3:sz≤3)(hn:5≤n):pf n F.bf [rowsS b .int f (2^sz) (2^sz)]=.ok (picD sz (T f sz)):=by
 obtain⟨n,rfl,hn⟩:=ex1 (show 4+1≤n by omega)
 have hln:dLen [rowsS b .int f (2^sz) (2^sz)]=.ok (.int ((2^sz:Nat):Int)):=by unfold rowsS;rw[qJ];simp
 have e1:(onL (.lst [(.int 1),(.int 2),(.int 4),(.int 8)]) fun ls=>dIndexI ls [.int ((2^sz:Nat):Int)])=.ok (.int (sz:Int)):=sk h3
 have e2:=vd sz b f n h3 (by omega)
 rw[yw,oA]
 simp only[STP,if_true,if_false,ite_true,ite_false,reduceIte,reduceCtorEq,hln,e1,e2]
 rfl
theorem AS {n:Nat}(f:Nat→Nat→Int){sz:Nat}(h3:sz≤3)(hn:5≤n):pf n F.bf [rowsT .int f (2^sz) (2^sz)]=.ok (picD sz (T f sz)):=Ak true f h3 hn
end Lw
end
section
namespace Lw
open PySem FF
theorem yK {α:Type}(xs:List D)(k:List D→R α):onL (.lst xs) k=k xs:=rfl
section
variable {sz:Nat}{tr:Q Int}
end
theorem qK {n:Nat}(hn:1≤n)(f:Nat→Nat→Int)(w h:Nat)(hw:w≤8)(hh:h≤8)(b:Bool):pf n F.a0 [rowsS b .int f w h]=.ok (.lst ((vals f w h).map .int)):=by
 obtain⟨n,rfl,hn⟩:=ex1 (show 0+1≤n by omega)
 have h8:h*w≤64:=Nat.mul_le_mul hh hw
 have:=fe (fun y=>rowT .int f w y) (step:=fun s x=>dC (pf n) s x) (fun y=>(List.range w).map fun x=>D.int (f x y)) w (List.range h) [] (fun y hy acc ha=>by
  unfold dC rowT
  rw[qG (by simp;omega)]
  rfl) (fun y hy=>by simp) (by simp;omega)
 have hsq:sq (rowsS b .int f w h)=.ok ((List.range h).map fun y=>rowT .int f w y):=o4 (by simp;omega)
 rw[oC,dS]
 simp only[STP,if_true,if_false,ite_true,ite_false,reduceIte,reduceCtorEq,hsq,this]
 unfold vals
 simp[List.map_flatMap,Function.comp_def]
section
variable {sz:Nat}{tr:Q Int}
theorem ve (is:List Int):dSum [.lst (is.map .int)]=.ok (.int (sumI is)):=by unfold dSum;simp only[fW]
theorem qL (is:List Int)(k:Int):dCountI (is.map .int) [.int k]=.ok (.int (is.countP (· == k):Nat)):=by unfold dCountI;simp only[fW]
end
theorem vf (a:Int)(l:List Int):sumI (a::l)=a+sumI l:=by
 have:∀ (l:List Int) (c:Int),l.foldl (· + ·) c=c+l.foldl (· + ·) 0:=by
  intro l
  induction l with
  | nil=>intro c;simp
  | cons x l ih=>intro c;rw[List.foldl_cons,ih,List.foldl_cons,ih (0+x)];omega
 unfold sumI
 rw[List.foldl_cons,this];omega
end Lw
end
section
namespace Lw
open PySem FF
theorem ky {α τ:Type}(f:τ→α→L τ):∀ (xs ys:List α) (s:τ),lFor f (xs++ys) s=lS (lFor f xs s) fun s'=>lFor f ys s'
 | [],ys,s=>rfl
 | x::xs,ys,s=>by
  rw[List.cons_append,aX,aX]
  cases f s x with
  | nx s'=>exact ky f xs ys s'
  | rt d=>rfl
  | er k=>rfl
  | stuck=>rfl
theorem ma {α τ:Type}{f:τ→α→L τ}(c:Nat→α)(inv:Nat→τ):∀ n,(∀ i,i < n→f (inv i) (c i)=.nx (inv (i+1)))→lFor f ((List.range n).map c) (inv 0)=.nx (inv n)
 | 0,_=>rfl
 | n+1,h=>by
  rw[List.range_succ,List.map_append,ky,ma c inv n fun i hi=>h i (by omega),nw,List.map_cons,List.map_nil,aX,h n (by omega)]
  rfl
theorem me {α:Type}{f:Unit→α→L Unit}:∀ (l:List α),(∀ a∈l,f () a=.nx ())→lFor f l ()=.nx ()
 | [],_=>rfl
 | a::l,h=>by rw[aX,h a (.head _),nw];exact me l fun b hb=>h b (.tail _ hb)
structure Sh (sz:Nat)(g:Nat→Nat→Int)(t:Q Int):Prop where
 p:Pc sz t
 w:∀ x y,x < 2^sz→y < 2^sz→t.at sz x y=g x y
theorem Sh.wo {sz:Nat}{g:Nat→Nat→Int}{t:Q Int}(h:Sh sz g t):Wo g sz:=fun x y hx hy=>by rw[← h.w x y hx hy];exact h.p.at x y
theorem sh_T {sz:Nat}{g:Nat→Nat→Int}(h3:sz≤3)(h:Wo g sz):Sh sz g (T g sz):=⟨pc_T h3 h,fun x y hx hy=>T_at sz g x y hx hy⟩
theorem Pc.sh {sz:Nat}{t:Q Int}(p:Pc sz t):Sh sz (t.at sz) t:=⟨p,fun _ _ _ _=>rfl⟩
section
variable {sz:Nat}{g:Nat→Nat→Int}{t:Q Int}
theorem Sh.rows (q:Sh sz g t){n:Nat}(hn:10≤n):pf n F.aQ [picD sz t]=.ok (rowsT .int g (2^sz) (2^sz)):=by rw[q.p.rows hn,kx q.w]
theorem Sh.lrows (q:Sh sz g t){n:Nat}(hn:5≤n):pf n F.aX [picD sz t]=.ok (rowsT .int g (2^sz) (2^sz)):=by rw[q.p.lrows hn,kx q.w]
end
theorem Al {xs:List D}{a:Nat}(h:a≤xs.length):cutD xs none (some ((a:Nat):Int))=xs.take a:=by
 unfold cutD
 rw[kQ h,HT.o9]
 simp
theorem qM {xs:List D}{a:Nat}(h:a≤xs.length):cutD xs (some ((a:Nat):Int)) none=xs.drop a:=by
 unfold cutD
 rw[kQ h,HT.o9,List.take_of_length_le (by simp)]
section
variable {sz:Nat}{g:Nat→Nat→Int}{t:Q Int}
end
theorem qN {x:D}(h:good 60 x=true):dNf x x=.ok (.bl false):=by rw[qu h h,FF.iW 60 x h];rfl
end Lw
end
section
namespace Lw
open PySem FF
def th (w:Nat):Nat→D→Bool
 | n+1,.tup xs=>decide (xs.length≤w)&&xs.all (th w n)
 | 0,.tup _=>false
 | _,.lst xs=>decide (xs.length≤w)&&xs.all flatD
 | _,.exc _=>false
 | _,.fn _=>false
 | _,_=>true
def kid (xs:List D)(i:Nat):D:=xs[i]?.getD .non
def places:Nat→D→List (List Nat)
 | n+1,.tup xs=>[]::(List.range xs.length).flatMap fun i=>(places n (kid xs i)).map (i::·)
 | _,_=>[[]]
def pD (p:List Nat):D:=.tup (p.map fun (i:Nat)=>.int (i:Int))
theorem sr {xs:List D}{i:Nat}(h:i < xs.length):xs[i]?=some (kid xs i):=by
 unfold kid;rw[List.getElem?_eq_getElem h];rfl
theorem d7 {xs:List D}{i:Nat}(h:i < xs.length):kid xs i∈xs:=by
 have:=sr h
 exact List.mem_of_getElem? this
theorem o5 {xs:List D}{i:Nat}(h:i < xs.length):dIx (.tup xs) (.int (i:Int))=.ok (kid xs i):=by
 have e:L2.atI xs (i:Int)=some (kid xs i):=by
  unfold L2.atI L2.ixN
  rw[if_pos (by omega),if_pos (by omega)]
  show xs[(i:Int).toNat]?=_
  rw[Int.toNat_natCast]
  exact sr h
 show (match L2.atI xs (i:Int) with | some d=>R.ok d | none=>R.stuck)=_
 rw[e]
theorem bn {w n:Nat}{xs:List D}:th w (n+1) (.tup xs)=true↔xs.length≤w∧∀ x∈xs,th w n x=true:=by
 rw[th,Bool.and_eq_true,decide_eq_true_eq,List.all_eq_true]
theorem ss {w n:Nat}{d:D}(h:th w n d=true):noX d=true:=by
 cases d<;>first | rfl | (cases n<;>simp[th]at h)
theorem nO {n:Nat}{d:D}(h:flatD d=true):good n d=true:=by
 cases d<;>first | (simp[flatD]at h;done) | (cases n<;>rfl)
theorem vg {n:Nat}{d:D}(h:flatD d=true):slim n d=true:=by
 cases d<;>first | (simp[flatD]at h;done) | (cases n<;>rfl)
theorem kR {w:Nat}:∀ {n:Nat} {d:D},th w n d=true→good (n+1) d=true:=by
 intro n
 induction n with
 | zero =>
  intro d h
  cases d with
  | lst xs =>
   simp only[th,Bool.and_eq_true,decide_eq_true_eq,List.all_eq_true]at h
   rw[good]
   exact cA fun x hx=>nO (h.2 x hx)
  | _=>first | rfl | (simp[th]at h)
 | succ n ih =>
  intro d h
  cases d with
  | tup xs =>
   rw[good]
   exact cA fun x hx=>ih ((bn.mp h).2 x hx)
  | lst xs =>
   simp only[th,Bool.and_eq_true,decide_eq_true_eq,List.all_eq_true]at h
   rw[good]
   exact cA fun x hx=>nO (h.2 x hx)
  | _=>first | rfl | (simp[th]at h)
theorem tG {w:Nat}(hw:w≤1000):∀ {n:Nat} {d:D} (m:Nat),th w n d=true→slim m d=true:=by
 have hl:∀ {n:Nat} {xs:List D} (m:Nat),th w n (.lst xs)=true→slim m (.lst xs)=true:=fun {n xs} m h=>by
  have h':xs.length≤w∧∀ x∈xs,flatD x=true:=by
   cases n<;>simpa only[th,Bool.and_eq_true,decide_eq_true_eq,List.all_eq_true] using h
  cases m with
  | zero=>rfl
  | succ m =>
   rw[slim,Bool.and_eq_true,decide_eq_true_eq,List.all_eq_true]
   exact⟨by omega,fun x hx=>vg (h'.2 x hx)⟩
 intro n
 induction n with
 | zero =>
  intro d m h
  cases d with
  | lst xs=>exact hl m h
  | _=>first | (cases m<;>rfl) | (simp[th]at h)
 | succ n ih =>
  intro d m h
  cases d with
  | lst xs=>exact hl m h
  | tup xs =>
   cases m with
   | zero=>rfl
   | succ m =>
    rw[slim,Bool.and_eq_true,decide_eq_true_eq,List.all_eq_true]
    exact⟨by have:=(bn.mp h).1;omega,fun x hx=>ih m ((bn.mp h).2 x hx)⟩
  | _=>first | (cases m<;>rfl) | (simp[th]at h)
theorem tH {w v:Nat}(hv:w≤v):∀ {n m:Nat} {d:D},th w n d=true→n≤m→th v m d=true:=by
 have hl:∀ {n m:Nat} {xs:List D},th w n (.lst xs)=true→th v m (.lst xs)=true:=fun {n m xs} h=>by
  have h':xs.length≤w∧∀ x∈xs,flatD x=true:=by
   cases n<;>simpa only[th,Bool.and_eq_true,decide_eq_true_eq,List.all_eq_true] using h
  have:xs.length≤v∧∀ x∈xs,flatD x=true:=⟨by omega,h'.2⟩
  cases m<;>simpa only[th,Bool.and_eq_true,decide_eq_true_eq,List.all_eq_true] using this
 intro n
 induction n with
 | zero =>
  intro m d h _
  cases d with
  | lst xs=>exact hl h
  | _=>first | (cases m<;>rfl) | (simp[th]at h)
 | succ n ih =>
  intro m d h hm
  cases d with
  | lst xs=>exact hl h
  | tup xs =>
   obtain⟨m,rfl⟩:∃ k,m=k+1:=⟨m - 1,by omega⟩
   exact bn.mpr ⟨by have:=(bn.mp h).1;omega,fun x hx=>ih ((bn.mp h).2 x hx) (by omega)⟩
  | _=>first | (cases m<;>rfl) | (simp[th]at h)
theorem mf {α:Type}{g:Nat→List α}{b:Nat}:∀ k,(∀ i,i < k→(g i).length≤b)→((List.range k).flatMap g).length≤k*b
 | 0,_=>by simp
 | k+1,h=>by
  rw[List.range_succ,List.flatMap_append,List.length_append,Nat.succ_mul]
  have h1:=mf k fun i hi=>h i (by omega)
  have h2:=h k (by omega)
  have:([k].flatMap g).length=(g k).length:=by simp
  omega
theorem su (n:Nat)(d:D):1≤(places n d).length:=by
 cases n with
 | zero=>cases d<;>exact Nat.le_refl 1
 | succ n=>cases d<;>first | (show 1≤_+1;omega) | exact Nat.le_refl 1
theorem mh {w:Nat}:∀ {n:Nat} {d:D},th w n d=true→(places n d).length≤(w+1)^n:=by
 intro n
 induction n with
 | zero=>intro d h;cases d<;>exact Nat.le_refl 1
 | succ n ih =>
  intro d h
  have h1:1≤(w+1)^(n+1):=Nat.pow_pos (by omega)
  cases d with
  | tup xs =>
   have ht:=bn.mp h
   have:=mf (g:=fun i=>(places n (kid xs i)).map (i::·)) (b:=(w+1)^n) xs.length fun i hi=>by
    rw[List.length_map];exact ih (ht.2 _ (d7 hi))
   show ((List.range xs.length).flatMap fun i=>(places n (kid xs i)).map (i::·)).length+1≤_
   have h2:xs.length*(w+1)^n≤w*(w+1)^n:=Nat.mul_le_mul_right _ ht.1
   have h3:1≤(w+1)^n:=Nat.pow_pos (by omega)
   have h4:(w+1)^(n+1)=w*(w+1)^n+(w+1)^n:=by rw[Nat.pow_succ,Nat.mul_comm,Nat.succ_mul]
   omega
  | _=>exact h1
theorem xb {w n:Nat}{d:D}(h:th w n d=true)(ht:isTup d=false):dIsA qTup d=.ok (.bl false):=bg ht (ss h)
theorem qO {n:Nat}{d:D}(ht:isTup d=false):places n d=[[]]:=by
 cases n<;>cases d<;>first | rfl | (cases ht;done)
theorem yL (k:Nat)(p:List Nat)(h:p.length < 16777216):dAdd (.tup [.int (k:Int)]) (pD p)=.ok (pD (k::p)):=by
 show (if 1+(p.map fun (i:Nat)=>D.int (i:Int)).length≤16777216 then _ else _)=_
 rw[List.length_map,if_pos (by omega)]
 rfl
theorem d8 {n:Nat}:∀ {d:D} {p:List Nat},p∈places n d→p.length≤n:=by
 induction n with
 | zero=>intro d p h;cases d<;>simp[places]at h<;>simp[h]
 | succ n ih =>
  intro d p h
  cases d with
  | tup xs =>
   rw[places,List.mem_cons,List.mem_flatMap]at h
   rcases h with rfl | ⟨i,_,h⟩
   ·simp
   ·obtain⟨q,hq,rfl⟩:=List.mem_map.mp h
    have:=ih hq
    simp only[List.length_cons]
    omega
  | _=>simp[places]at h;simp[h]
theorem vh {w:Nat}:∀ (n m:Nat) (d:D),th w n d=true→(w+1)^n≤16000000→n+1≤m→w≤1000→n≤1000→pf m F.aU [d]=.ok (.lst ((places n d).map pD)):=by
 have flat:∀ (n m:Nat) (d:D),th w n d=true→isTup d=false→1≤m→pf m F.aU [d]=.ok (.lst ((places n d).map pD)):=fun n m d h ht hm=>by
  obtain⟨m,rfl,_⟩:=ex1 hm
  rw[kt,dF,xb h ht,qO ht]
  simp only[STP,if_true,if_false,ite_true,ite_false,reduceIte,reduceCtorEq]
  rfl
 intro n
 induction n with
 | zero =>
  intro m d h _ hm _ _
  exact flat 0 m d h (by cases d<;>first | rfl | (simp[th]at h)) hm
 | succ n ih =>
  intro m d h hp hm hw hn
  by_cases ht:isTup d=true
  ·cases d with
   | tup xs =>
    have hh:=bn.mp h
    obtain⟨m,rfl,hm⟩:=ex1 hm
    have hpn:(w+1)^n≤16000000:=Nat.le_trans (Nat.pow_le_pow_right (by omega) (Nat.le_succ n)) hp
    have loop:lFor (τ:=List D) (fun s x=>eg (pf m) (.tup xs) s x) ((List.range xs.length).map fun i=>.int (0+((i:Nat):Int))) ((fun k=>([]::(List.range k).flatMap fun i=>(places n (kid xs i)).map (i::·)).map pD) 0)=.nx (([]::(List.range xs.length).flatMap fun i=>(places n (kid xs i)).map (i::·)).map pD):=by
     refine ma _ (fun k=>([]::(List.range k).flatMap fun i=>(places n (kid xs i)).map (i::·)).map pD) xs.length fun i hi=>?_
     have hk:=ih m (kid xs i) (hh.2 _ (d7 hi)) hpn (by omega) hw (by omega)
     have hc:cMap (fun Bf=>dAdd (.tup [.int (i:Int)]) Bf) ((places n (kid xs i)).map pD)=.ok (.lst (((places n (kid xs i)).map (i::·)).map pD)):=by
      rw[cy (l:=places n (kid xs i)) pD (fun p:List Nat=>pD (i::p)) fun p hp=>yL i p (by have:=d8 hp;omega),List.map_map]
      rfl
     have hl:=mh (hh.2 _ (d7 hi))
     have hl2:=mf (g:=fun i=>(places n (kid xs i)).map (i::·)) (b:=(w+1)^n) i fun j hj=>by
      rw[List.length_map];exact mh (hh.2 _ (d7 (by omega)))
     have h2:i*(w+1)^n+(w+1)^n≤(w+1)^(n+1):=by
      rw[← Nat.succ_mul,Nat.pow_succ,Nat.mul_comm];exact Nat.mul_le_mul_left _ (by have:=hh.1;omega)
     unfold eg
     rw[show (0:Int)+(i:Int)=(i:Int) by omega,o5 hi]
     simp only[STP,if_true,if_false,ite_true,ite_false,reduceIte,reduceCtorEq,hk,cx (show ((places n (kid xs i)).map pD).length≤16777216 by rw[List.length_map];omega),hc]
     have ho:oExt (([]::(List.range i).flatMap fun i=>(places n (kid xs i)).map (i::·)).map pD) (.lst (((places n (kid xs i)).map (i::·)).map pD))=.ok (([]::(List.range (i+1)).flatMap fun i=>(places n (kid xs i)).map (i::·)).map pD):=by
      show (if _ then _ else _)=_
      rw[if_pos (by simp only[List.length_map,List.length_cons];omega),← List.map_append,List.cons_append,List.range_succ,List.flatMap_append]
      simp
     rw[ho]
     simp only[STP,if_true,if_false,ite_true,ite_false,reduceIte,reduceCtorEq]
    rw[kt,dF]
    have hr:rng1 [.int (xs.length:Int)]=.ok ((List.range xs.length).map fun i=>.int (0+((i:Nat):Int))):=by
     have:=hh.1
     show (if _ then _ else _)=_
     rw[if_pos (by omega)]
     rw[Int.toNat_natCast]
     rfl
    have e0:((fun k=>([]::(List.range k).flatMap fun i=>(places n (kid xs i)).map (i::·)).map pD) 0)=[.tup []]:=rfl
    rw[e0]at loop
    simp only[cj,STP,if_true,if_false,ite_true,ite_false,reduceIte,reduceCtorEq,e8,hr,loop]
    rfl
   | _=>cases ht
  ·exact flat (n+1) m d h (by simpa using ht) (by omega)
def there:D→List Nat→D
 | d,[]=>d
 | .tup xs,i::p=>there (kid xs i) p
 | d,_::_=>d
def putAt:D→List Nat→D→D
 | _,[],e=>e
 | .tup xs,i::p,e=>.tup (xs.set i (putAt (kid xs i) p e))
 | d,_::_,_=>d
theorem fX {n:Nat}{d:D}{i:Nat}{p:List Nat}(h:i::p∈places n d):∃ xs k,n=k+1∧d=.tup xs∧i < xs.length∧p∈places k (kid xs i):=by
 cases n with
 | zero=>cases d<;>simp[places]at h
 | succ n =>
  cases d with
  | tup xs =>
   rw[places,List.mem_cons,List.mem_flatMap]at h
   rcases h with h | ⟨j,hj,h⟩
   ·cases h
   ·obtain⟨q,hq,e⟩:=List.mem_map.mp h
    injection e with e1 e2
    subst e1;subst e2
    exact⟨xs,n,rfl,rfl,List.mem_range.mp hj,hq⟩
  | _=>simp[places]at h
theorem mi {t:Nat→List D→R D}:∀ {p:List Nat} {n:Nat} {d:D},p∈places n d→lFor (τ:=D) (fun s x=>fE t s x) (p.map fun (i:Nat)=>.int (i:Int)) d=.nx (there d p)
 | [],n,d,_=>by cases d<;>rfl
 | i::p,n,d,h=>by
  obtain⟨xs,k,rfl,rfl,hi,hp⟩:=fX h
  rw[List.map_cons,aX]
  unfold fE
  rw[o5 hi]
  simp only[STP,if_true,if_false,ite_true,ite_false,reduceIte,reduceCtorEq]
  exact mi (t:=t) hp
theorem qP {w:Nat}:∀ {p:List Nat} {n:Nat} {d:D},p∈places n d→th w n d=true→th w (n - p.length) (there d p)=true
 | [],n,d,_,h=>by cases d<;>exact h
 | i::p,n,d,h,ht=>by
  obtain⟨xs,k,rfl,rfl,hi,hp⟩:=fX h
  have:=qP hp ((bn.mp ht).2 _ (d7 hi))
  show th w (k+1 - (p.length+1)) _=true
  rw[Nat.add_sub_add_right]
  exact this
theorem xc {n m:Nat}{d:D}{p:List Nat}(h:p∈places n d)(hm:1≤m)(hn:n≤1000):pf m F.be [d,pD p]=.ok (there d p):=by
 obtain⟨m,rfl,hm⟩:=ex1 hm
 rw[rP,ia]
 unfold pD
 have hl:=d8 h
 rw[eG (by rw[List.length_map];omega)]
 simp only[STP,if_true,if_false,ite_true,ite_false,reduceIte,reduceCtorEq,mi h]
theorem qQ {w:Nat}:∀ {p:List Nat} {n N k:Nat} {d e:D},p∈places n d→th w n d=true→th w k e=true→k+p.length≤N→n≤N→th w N (putAt d p e)=true
 | [],n,N,k,d,e,_,_,he,hk,_=>by cases d<;>exact tH (Nat.le_refl w) he (by simpa using hk)
 | i::p,n,N,k,d,e,h,hd,he,hk,hn=>by
  obtain⟨xs,j,rfl,rfl,hi,hp⟩:=fX h
  obtain⟨N,rfl⟩:∃ M,N=M+1:=⟨N - 1,by omega⟩
  have ht:=bn.mp hd
  have hr:=qQ (N:=N) hp (ht.2 _ (d7 hi)) he (by simp only[List.length_cons]at hk;omega) (by omega)
  show th w (N+1) (.tup (xs.set i (putAt (kid xs i) p e)))=true
  refine bn.mpr ⟨by rw[List.length_set];exact ht.1,fun x hx=>?_⟩
  rcases List.mem_or_eq_of_mem_set hx with hx | rfl
  ·exact tH (Nat.le_refl w) (ht.2 x hx) (by omega)
  ·exact hr
theorem yM {n:Nat}(hn:1≤n)(p:List Nat):good n (pD p)=true:=by
 obtain⟨n,rfl⟩:∃ k,n=k+1:=⟨n - 1,by omega⟩
 unfold pD
 rw[good]
 refine cA fun d hd=>?_
 obtain⟨i,_,rfl⟩:=List.mem_map.mp hd
 cases n<;>rfl
theorem qR (xs ys:List D)(h:xs.length+ys.length≤16777216):dAdd (.tup xs) (.tup ys)=.ok (.tup (xs++ys)):=by
 show (if xs.length+ys.length≤16777216 then _ else _)=_
 rw[if_pos h]
theorem xg {w:Nat}(hw:w≤1000):∀ {p:List Nat} {n m:Nat} {d:D} (e:D),p∈places n d→th w n d=true→p.length+1≤m→pf m F.bh [d,pD p,e]=.ok (putAt d p e)
 | [],n,m,d,e,_,_,hm=>by
  obtain⟨m,rfl,hm⟩:=ex1 (k:=0) (by simpa using hm)
  rw[p9,jj]
  have:dEq (pD []) (.tup [])=.ok (.bl true):=rfl
  simp only[STP,if_true,if_false,ite_true,ite_false,reduceIte,reduceCtorEq,this]
  cases d<;>rfl
 | i::p,n,m,d,e,h,hd,hm=>by
  obtain⟨xs,j,rfl,rfl,hi,hp⟩:=fX h
  have ht:=bn.mp hd
  obtain⟨m,rfl,hm⟩:=ex1 hm
  have ih:=xg hw (m:=m) e hp (ht.2 _ (d7 hi)) (by simpa using hm)
  have h0:dEq (pD (i::p)) (.tup [])=.ok (.bl false):=by
   unfold dEq
   rw[if_pos ⟨yM (by decide) _,rfl⟩]
   rfl
  have h1:dIx (pD (i::p)) (.int 0)=.ok (.int (i:Int)):=o5 (xs:=(i::p).map fun (i:Nat)=>D.int (i:Int)) (i:=0) (by simp)
  have h2:dSw (pD (i::p)) (some 1) none=.ok (pD p):=by
   show R.ok (D.tup (cutD _ (some ((1:Nat):Int)) none))=_
   rw[qM (by simp)]
   rfl
  have h3:dSw (.tup xs) none (some (i:Int))=.ok (.tup (xs.take i)):=by
   show R.ok (D.tup (cutD _ none (some (i:Int))))=_
   rw[Al (by omega)]
  have h4:dSw (.tup xs) (some ((i:Int)+1)) none=.ok (.tup (xs.drop (i+1))):=by
   rw[show (i:Int)+1=((i+1:Nat):Int) by omega]
   show R.ok (D.tup (cutD _ (some ((i+1:Nat):Int)) none))=_
   rw[qM (by omega)]
  have h5:∀ v:Int,asI (.int v)=.ok (some v):=fun v=>rfl
  have h6:dAdd (.tup (xs.take i)) (.tup [putAt (kid xs i) p e])=.ok (.tup (xs.take i++[putAt (kid xs i) p e])):=qR _ _ (by simp only[List.length_take,List.length_cons,List.length_nil];omega)
  have h7:dAdd (.tup (xs.take i++[putAt (kid xs i) p e])) (.tup (xs.drop (i+1)))=.ok (.tup (xs.set i (putAt (kid xs i) p e))):=by
   rw[qR _ _ (by simp only[List.length_append,List.length_take,List.length_drop,List.length_cons,List.length_nil];omega),List.set_eq_take_append_cons_drop,if_pos hi,List.append_assoc]
   rfl
  rw[p9,jj]
  simp only[STP,if_true,if_false,ite_true,ite_false,reduceIte,reduceCtorEq,h0,h1,h5,h3,o5 hi,h2,ih,h6,cz,h4,h7]
  rfl
theorem xh {ds:List D}{i:Int}(h0:0≤i)(h:i < ds.length):∃ e∈ds,L2.atI ds i=some e:=by
 refine⟨kid ds i.toNat,d7 (by omega),?_⟩
 unfold L2.atI L2.ixN
 rw[if_pos h0,if_pos h]
 exact sr (by omega)
theorem yN {ds:List D}{i:Int}(h0:0≤i)(h:i < ds.length):∃ e∈ds,oIx ds (.int i)=.ok e:=by
 obtain⟨e,he,h⟩:=xh h0 h
 refine⟨e,he,?_⟩
 show (match L2.atI ds i with | some d=>R.ok d | none=>R.stuck)=_
 rw[h]
theorem yO {ds:List D}{i:Int}(h0:0≤i)(h:i < ds.length):∃ e∈ds,dIx (.lst ds) (.int i)=.ok e:=by
 obtain⟨e,he,h⟩:=xh h0 h
 refine⟨e,he,?_⟩
 show (match L2.atI ds i with | some d=>R.ok d | none=>R.stuck)=_
 rw[h]
def news (here:D):List D:=[(.int (-1)),(.int 0),(.int 3),(.int 4),(.int 9),(.int 10),(.bl true),.non,(.str "1"),(.tup []),(.tup [(.int 1),(.int 2),(.int 3)]),(.tup [(.int 1),(.int 1),(.int 1),(.int 1)]),(.tup [(.int 1),(.int 2),(.int 3),(.int 4),(.int 5)]),(.lst [(.int 1),(.int 2),(.int 3),(.int 4)]),.tup [here,here,here,here]]
theorem yP {w n:Nat}(hw:5≤w){here e:D}(h:th w n here=true)(he:e∈news here):th w (n+1) e=true:=by
 have cons:∀ {xs:List D},xs.length≤w→(∀ x∈xs,th w n x=true)→th w (n+1) (.tup xs)=true:=fun h1 h2=>bn.mpr ⟨h1,h2⟩
 have iN:∀ i:Int,th w n (.int i)=true:=fun i=>by cases n<;>rfl
 unfold news at he
 simp only[List.mem_cons,List.not_mem_nil,or_false]at he
 rcases he with rfl | rfl | rfl | rfl | rfl | rfl | rfl | rfl | rfl | rfl | rfl | rfl | rfl | rfl | rfl
 any_goals rfl
 ·exact cons (Nat.le_trans (by decide) hw) (by intro x hx;simp only[List.mem_cons,List.not_mem_nil,or_false]at hx;rcases hx with rfl | rfl | rfl<;>exact iN _)
 ·exact cons (Nat.le_trans (by decide) hw) (by intro x hx;simp only[List.mem_cons,List.not_mem_nil,or_false]at hx;rcases hx with rfl | rfl | rfl | rfl<;>exact iN _)
 ·exact cons hw (by intro x hx;simp only[List.mem_cons,List.not_mem_nil,or_false]at hx;rcases hx with rfl | rfl | rfl | rfl | rfl<;>exact iN _)
 ·rw[th,Bool.and_eq_true,decide_eq_true_eq];exact⟨Nat.le_trans (by decide) hw,rfl⟩
 ·exact cons (by show 4≤w;omega) (by intro x hx;simp only[List.mem_cons,List.not_mem_nil,or_false]at hx;rcases hx with rfl | rfl | rfl | rfl<;>exact h)
theorem vi {w n:Nat}(hw:w≤1000)(h5:5≤w)(hn:n≤100)(hp:(w+1)^n≤16000000){d:D}(h:th w n d=true){m:Nat}(hm:n+4≤m)(ns:List Int)(k:Nat):∃ p∈places n d,∃ e∈news (there d p),pf m F.aj [scr ns,.int (k:Int),d]=.ok (putAt d p e):=by
 obtain⟨m,rfl,hm⟩:=ex1 (show n+3+1≤m by omega)
 have e1:=vh n m d h hp (by omega) hw (by omega)
 have hl:=su n d
 have hl':(0:Int) < (((places n d).map pD).length:Nat):=by rw[List.length_map];omega
 have p1:=d6 (n:=m) (by omega) ns k (a:=(k:Int)) (m:=(((places n d).map pD).length:Nat)) rfl hl'
 have b0:=iB (ns:=ns) (k:=k) (m:=(((places n d).map pD).length:Nat)) hl'
 have b1:=iC (ns:=ns) (k:=k) (m:=(((places n d).map pD).length:Nat)) hl'
 obtain⟨q,hq,e2⟩:=yO b0 b1
 obtain⟨p,hp',rfl⟩:=List.mem_map.mp hq
 have e3:=xc hp' (m:=m) (by omega) (by omega)
 have p2:=d6 (n:=m) (by omega) ns (k+1) (a:=(k:Int)+1) (m:=15) (by omega) (by decide)
 have c0:=iB (ns:=ns) (k:=k+1) (m:=15) (by decide)
 have c1:=iC (ns:=ns) (k:=k+1) (m:=15) (by decide)
 obtain⟨e,he,e4⟩:=yN (ds:=news (there d p)) c0 (by show _ < ((15:Nat):Int);omega)
 have hd:=d8 hp'
 have e5:=xg hw (m:=m) e hp' h (by omega)
 refine⟨p,hp',e,he,?_⟩
 have r4:dMul (.tup [there d p]) (.int 4)=.ok (.tup [there d p,there d p,there d p,there d p]):=rfl
 rw[jp,bO]
 simp only[STP,if_true,if_false,ite_true,ite_false,reduceIte,reduceCtorEq,e1,g7,p1,e2,e3,r4]
 have ho:oExt [(.int (-1)),(.int 0),(.int 3),(.int 4),(.int 9),(.int 10),(.bl true),.non,(.str "1"),(.tup []),(.tup [(.int 1),(.int 2),(.int 3)]),(.tup [(.int 1),(.int 1),(.int 1),(.int 1)]),(.tup [(.int 1),(.int 2),(.int 3),(.int 4),(.int 5)])] (.lst [.lst [.int 1,.int 2,.int 3,.int 4],.tup [there d p,there d p,there d p,there d p]])=.ok (news (there d p)):=rfl
 simp only[STP,if_true,if_false,ite_true,ite_false,reduceIte,reduceCtorEq,ho,cz,p2,e4,e5]
theorem nP {w n:Nat}(hw:w≤1000)(h5:5≤w)(hn:n≤100)(hp:(w+1)^n≤16000000){d:D}(h:th w n d=true){m:Nat}(hm:n+4≤m)(ns:List Int)(k:Nat):∃ d',th w (n+1) d'=true∧pf m F.aj [scr ns,.int (k:Int),d]=.ok d':=by
 obtain⟨p,hp',e,he,q⟩:=vi hw h5 hn hp h hm ns k
 have hd:=d8 hp'
 exact⟨_,qQ hp' h (yP h5 (qP hp' h) he) (by omega) (by omega),q⟩
end Lw
end
section
namespace Lw
open PySem FF
theorem vj {w:Nat}(hw:w≤1000):∀ (n m:Nat) (s:Int) (d:D),th w n d=true→n+1≤m→n≤50→pf m F.av [d,.int s]=.ok (.bl (treeOk (inTo 9) n s d)):=by
 have flat:∀ (n m:Nat) (s:Int) (d:D),th w n d=true→isTup d=false→1≤m→pf m F.av [d,.int s]=.ok (.bl (treeOk (inTo 9) n s d)):=fun n m s d h ht hm=>by
  obtain⟨m,rfl,hm⟩:=ex1 hm
  have e:treeOk (inTo 9) n s d=inTo 9 d:=by cases n<;>cases d<;>first | rfl | (cases ht;done)
  rw[jq,cT,e]
  cases d with
  | int i =>
   have:rAnd (asB (dIsA qInt (.int i))) (rNot (asB (dIsA qBool (.int i))))=.ok true:=rfl
   simp only[this,STP,if_true,if_false,ite_true,ite_false,reduceIte,reduceCtorEq]
   simp only[rCh,kP,ft,R.bind_ok,inTo]
   by_cases h0:(0:Int)≤i<;>simp[h0]
  | tup _=>cases ht
  | exc _=>cases n<;>simp[th]at h
  | fn _=>cases n<;>simp[th]at h
  | _=>rfl
 intro n
 induction n with
 | zero=>intro m s d h hm _;exact flat 0 m s d h (by cases d<;>first | rfl | (simp[th]at h)) hm
 | succ n ih =>
  intro m s d h hm hn
  by_cases ht:isTup d=true
  ·cases d with
   | tup xs =>
    have hh:=bn.mp h
    obtain⟨m,rfl,hm⟩:=ex1 hm
    have hc:cFil (fun Bc=>(rNot (asB ((dSub (.int s) (.int 1)).bind fun x1=>pf m F.av [Bc,x1])))) (fun Bc=>.ok Bc) xs=.ok (.lst (xs.filter fun d=>!treeOk (inTo 9) n (s - 1) d)):=by
     have:=fR (c:=fun Bc=>(rNot (asB ((dSub (.int s) (.int 1)).bind fun x1=>pf m F.av [Bc,x1])))) (e:=fun Bc=>.ok Bc) (l:=xs) (fun d=>d) (fun d=>d) (fun d=>!treeOk (inTo 9) n (s - 1) d) fun d hd=>⟨by
      rw[e9,R.bind_ok,ih m (s - 1) d (hh.2 d hd) (by omega) (by omega)]
      rfl,fun _=>rfl⟩
     rw[List.map_id',List.map_id']at this
     exact this
    have he:dEq (.lst (xs.filter fun d=>!treeOk (inTo 9) n (s - 1) d)) (.lst [])=.ok (.bl (xs.all (treeOk (inTo 9) n (s - 1)))):=by
     unfold dEq
     rw[if_pos ⟨by
      rw[good]
      exact cA fun d hd=>cB (kR (hh.2 d (List.mem_filter.mp hd).1)) (by omega),rfl⟩]
     cases hx:xs.filter fun d=>!treeOk (inTo 9) n (s - 1) d with
     | nil =>
      have:xs.all (treeOk (inTo 9) n (s - 1))=true:=by
       rw[List.all_eq_true]
       intro d hd
       have:=List.filter_eq_nil_iff.mp hx d hd
       simpa using this
      rw[this]
      rfl
     | cons a l =>
      have ha:a∈xs.filter fun d=>!treeOk (inTo 9) n (s - 1) d:=by rw[hx];simp
      have:=List.mem_filter.mp ha
      have:xs.all (treeOk (inTo 9) n (s - 1))=false:=by
       rw[List.all_eq_false]
       exact⟨a,this.1,by simpa using this.2⟩
      rw[this]
      rfl
    have hi:rAnd (asB (dIsA qInt (.tup xs))) (rNot (asB (dIsA qBool (.tup xs))))=.ok false:=rfl
    rw[jq,cT]
    simp only[hi,cj,STP,if_true,if_false,ite_true,ite_false,reduceIte,reduceCtorEq,e8,dm,d5,eG (show xs.length≤16777216 by have:=hh.1;omega),hc,he,treeOk]
    by_cases h0:s=0
    ·by_cases h4:(xs.length:Int)=4<;>simp[h0,h4]
    ·by_cases h4:xs.length=4
     ·simp[h0,h4]
     ·have h4':¬ ((xs.length:Int)=4):=by omega
      simp[h0,h4,h4']
   | _=>cases ht
  ·exact flat (n+1) m s d h (by simpa using ht) (by omega)
theorem nQ {w:Nat}(hw:w≤1000){n m:Nat}{d:D}(h:th w (n+1) d=true)(hm:n+2≤m)(hn:n≤50):pf m F.aW [d]=.ok (.bl (sizedOk (inTo 9) n d)):=by
 obtain⟨m,rfl,hm⟩:=ex1 hm
 rw[kD,cp]
 by_cases ht:isTup d=true
 ·cases d with
  | tup xs =>
   have hh:=bn.mp h
   by_cases h2:xs.length=2
   ·match xs,h2 with
    | [a,b],_ =>
     have ha:=hh.2 a (by simp)
     have hb:=hh.2 b (by simp)
     have l2:asB ((dLen [.tup [a,b]]).bind fun x2=>dNf x2 (.int 2))=.ok false:=rfl
     cases a with
     | int v =>
      have ht:=vj hw n m v b hb (by omega) hn
      have hi:(rNot (asB (dIsA qInt (.int v))))=.ok false:=rfl
      have hj:(asB (dIsA qBool (.int v)))=.ok false:=rfl
      simp only[cj,STP,if_true,if_false,ite_true,ite_false,reduceIte,reduceCtorEq,l2,ix20,ix21,hi,hj,ht,sizedOk,inTo,rCh,kP]
      by_cases c0:(0:Int)≤v
      ·by_cases c1:v≤3<;>simp[c0,c1]
      ·simp[c0]
     | exc _=>cases n<;>simp[th]at ha
     | fn _=>cases n<;>simp[th]at ha
     | _=>rfl
   ·have h2':¬ ((xs.length:Int)=2):=by omega
    have e:sizedOk (inTo 9) n (.tup xs)=false:=by
     match xs,h2 with
     | [],_=>rfl
     | [_],_=>rfl
     | _::_::_::_,_=>rfl
    simp[h2',e]
  | _=>cases ht
 ·have ht':isTup d=false:=by simpa using ht
  rw[bg ht' (ss h)]
  have e:sizedOk (inTo 9) n d=false:=by cases d<;>first | rfl | (cases ht';done)
  simp[e]
theorem Pc.th (p:Pc sz t):th 5 4 (picD sz t)=true:=by
 have hq:∀ (n:Nat) (t:Q Int),t.dep≤n→Lw.th 5 n (t.d .int)=true:=by
  intro n
  induction n with
  | zero=>intro t h;cases t with
   | lf a=>rfl
   | nd a b c d=>rw[Q.dep]at h;omega
  | succ n ih =>
   intro t h
   cases t with
   | lf a=>rfl
   | nd a b c d =>
    rw[Q.dep]at h
    refine bn.mpr ⟨by show 4≤5;decide,fun x hx=>?_⟩
    simp only[List.mem_cons,List.not_mem_nil,or_false]at hx
    rcases hx with rfl | rfl | rfl | rfl
    ·exact ih a (by omega)
    ·exact ih b (by omega)
    ·exact ih c (by omega)
    ·exact ih d (by omega)
 refine bn.mpr ⟨by show 2≤5;decide,fun x hx=>?_⟩
 simp only[List.mem_cons,List.not_mem_nil,or_false]at hx
 rcases hx with rfl | rfl
 ·rfl
 ·exact hq 3 t (by have:=p.dep;have:=p.h3;omega)
theorem word1 {m:Nat}(hm:1≤m):pf m F.aV [.exc 1]=.ok (.str "no picture"):=by
 obtain⟨m,rfl,hm⟩:=ex1 hm
 rw[jR,eW]
 rfl
end Lw
end
section
namespace Lw
open PySem FF
section
variable {α:Type}[DecidableEq α]
theorem jB (n:Nat)(t:Q α){x y:Nat}(hx:x < 2^n)(hy:y < 2^n):t.at (n+1) x y=t.qs.1.at n x y∧t.at (n+1) (x+2^n) y=t.qs.2.1.at n x y∧t.at (n+1) x (y+2^n)=t.qs.2.2.1.at n x y∧t.at (n+1) (x+2^n) (y+2^n)=t.qs.2.2.2.at n x y:=by
 cases t with
 | lf a=>simp[Q.qs]
 | nd a b c d =>
  have e1:¬ (x+2^n < 2^n):=by omega
  have e2:¬ (y+2^n < 2^n):=by omega
  simp only[Q.at,Q.qs,if_pos hx,if_pos hy,if_neg e1,if_neg e2,Nat.add_sub_cancel]
  exact⟨trivial,trivial,trivial,trivial⟩
theorem y8 {β γ:Type}[DecidableEq β][DecidableEq γ](f:α→β→γ)(n:Nat)(t:Q α)(u:Q β):T (fun x y=>f (t.at (n+1) x y) (u.at (n+1) x y)) (n+1) =
  put4 (T (fun x y=>f (t.qs.1.at n x y) (u.qs.1.at n x y)) n) (T (fun x y=>f (t.qs.2.1.at n x y) (u.qs.2.1.at n x y)) n) (T (fun x y=>f (t.qs.2.2.1.at n x y) (u.qs.2.2.1.at n x y)) n) (T (fun x y=>f (t.qs.2.2.2.at n x y) (u.qs.2.2.2.at n x y)) n):=by
 rw[T]
 congr 1
 ·exact aH n _ _ fun x y hx hy=>by rw[(jB n t hx hy).1,(jB n u hx hy).1]
 ·exact aH n _ _ fun x y hx hy=>by show f (t.at (n+1) (x+2^n) y) (u.at (n+1) (x+2^n) y)=_;rw[(jB n t hx hy).2.1,(jB n u hx hy).2.1]
 ·exact aH n _ _ fun x y hx hy=>by show f (t.at (n+1) x (y+2^n)) (u.at (n+1) x (y+2^n))=_;rw[(jB n t hx hy).2.2.1,(jB n u hx hy).2.2.1]
 ·exact aH n _ _ fun x y hx hy=>by show f (t.at (n+1) (x+2^n) (y+2^n)) (u.at (n+1) (x+2^n) (y+2^n))=_;rw[(jB n t hx hy).2.2.2,(jB n u hx hy).2.2.2]
theorem o6 {n:Nat}{t:Q α}(h:t.dep≤n+1):t.qs.1.dep≤n∧t.qs.2.1.dep≤n∧t.qs.2.2.1.dep≤n∧t.qs.2.2.2.dep≤n:=by
 cases t with
 | lf a=>exact⟨Nat.zero_le _,Nat.zero_le _,Nat.zero_le _,Nat.zero_le _⟩
 | nd a b c d =>
  rw[Q.dep]at h
  simp only[Q.qs]
  omega
theorem o7 {p:α→Prop}{t:Q α}(h:t.All p):t.qs.1.All p∧t.qs.2.1.All p∧t.qs.2.2.1.All p∧t.qs.2.2.2.All p:=by
 cases t with
 | lf a=>exact⟨h,h,h,h⟩
 | nd a b c d=>exact h
def isLf:Q α→Bool
 | .lf _=>true
 | _=>false
theorem jC {e:α→D}(E:En e)(t:Q α):dIsA qTup (t.d e)=.ok (.bl (!isLf t)):=by
 cases t with
 | lf a=>exact bg (E.tup a) (bq (E.gd 0 a))
 | nd a b c d=>rfl
theorem g8 {e:α→D}(E:En e)(t:Q α){n:Nat}(hn:1≤n):pf n F.ax [t.d e]=.ok (.tup [t.qs.1.d e,t.qs.2.1.d e,t.qs.2.2.1.d e,t.qs.2.2.2.d e]):=by
 obtain⟨n,rfl,hn⟩:=ex1 hn
 rw[lw,cM,jC E]
 cases t with
 | lf a=>rfl
 | nd a b c d=>rfl
end
structure Rul (i:Nat)(f:Int→Int→Int):Prop where
 fv:fvL.contains i=true
 w:∀ a b,W9 a→W9 b→W9 (f a b)
 ok:∀ m a b,1≤m→W9 a→W9 b→pf m i [.int a,.int b]=.ok (.int (f a b))
theorem tJ (a b c d:D):sq (.lst [a,b,c,d])=.ok [a,b,c,d]:=rfl
theorem AT {i:Nat}{f:Int→Int→Int}(r:Rul i f):∀ (n m:Nat) (t u:Q Int),t.dep≤n→u.dep≤n→n≤40→t.All W9→u.All W9→n+3≤m→pf m F.ac [.fn i,t.d .int,u.d .int]=.ok ((T (fun x y=>f (t.at n x y) (u.at n x y)) n).d .int):=by
 have both:∀ (n m:Nat) (a b:Int),W9 a→W9 b→2≤m→pf m F.ac [.fn i,.int a,.int b]=.ok ((T (fun x y=>f ((Q.lf a).at n x y) ((Q.lf b).at n x y)) n).d .int):=fun n m a b ha hb hm=>by
  obtain⟨m,rfl,hm⟩:=ex1 (show 1+1≤m by omega)
  have e:T (fun x y=>f ((Q.lf a).at n x y) ((Q.lf b).at n x y)) n=.lf (f a b):=by
   rw[← fQ (f a b) n]
   exact aH n _ _ fun x y _ _=>by rw[dM,dM]
  have o:onF fvL (.fn i) (fun i=>pf m i [.int a,.int b])=.ok (.int (f a b)):=by
   show (if fvL.contains i=true then pf m i [.int a,.int b] else R.stuck)=_
   rw[if_pos r.fv,r.ok m a b (by omega) ha hb]
  have h1:dIsA qTup (.int a)=.ok (.bl false):=rfl
  have h2:dIsA qTup (.int b)=.ok (.bl false):=rfl
  rw[cu,bj,e]
  simp only[STP,if_true,if_false,ite_true,ite_false,reduceIte,reduceCtorEq,h1,h2,o]
  rfl
 intro n
 induction n with
 | zero =>
  intro m t u ht hu _ wt wu hm
  cases t with
  | nd a b c d=>rw[Q.dep]at ht;omega
  | lf a =>
   cases u with
   | nd a b c d=>rw[Q.dep]at hu;omega
   | lf b=>exact both 0 m a b wt wu (by omega)
 | succ n ih =>
  intro m t u ht hu h40 wt wu hm
  by_cases hb:isLf t=true∧isLf u=true
  ·cases t with
   | nd a b c d=>cases hb.1
   | lf a =>
    cases u with
    | nd a b c d=>cases hb.2
    | lf b=>exact both (n+1) m a b wt wu (by omega)
  ·obtain⟨m,rfl,hm⟩:=ex1 (show n+3+1≤m by omega)
   have td:=o6 ht
   have ud:=o6 hu
   have ta:=o7 wt
   have ua:=o7 wu
   have k1:=ih m t.qs.1 u.qs.1 td.1 ud.1 (by omega) ta.1 ua.1 (by omega)
   have k2:=ih m t.qs.2.1 u.qs.2.1 td.2.1 ud.2.1 (by omega) ta.2.1 ua.2.1 (by omega)
   have k3:=ih m t.qs.2.2.1 u.qs.2.2.1 td.2.2.1 ud.2.2.1 (by omega) ta.2.2.1 ua.2.2.1 (by omega)
   have k4:=ih m t.qs.2.2.2 u.qs.2.2.2 td.2.2.2 ud.2.2.2 (by omega) ta.2.2.2 ua.2.2.2 (by omega)
   have b1:rAnd (rNot (asB (dIsA qTup (t.d .int)))) (rNot (asB (dIsA qTup (u.d .int))))=.ok false:=by
    rw[jC En.int,jC En.int]
    cases h1:isLf t with
    | false=>rfl
    | true =>
     cases h2:isLf u with
     | false=>rfl
     | true=>exact(hb ⟨h1,h2⟩).elim
   have q1:=g8 En.int t (n:=m) (by omega)
   have q2:=g8 En.int u (n:=m) (by omega)
   have z4:∀ a b c d a' b' c' d':D,dZip (.tup [a,b,c,d]) (.tup [a',b',c',d'])=.ok [.tup [a,a'],.tup [b,b'],.tup [c,c'],.tup [d,d']]:=fun _ _ _ _ _ _ _ _=>rfl
   have step:∀ a b:D,((dIx (.tup [a,b]) (.int 0)).bind fun x2=>(dIx (.tup [a,b]) (.int 1)).bind fun x3=>pf m F.ac [.fn i,x2,x3])=pf m F.ac [.fn i,a,b]:=fun a b=>by rw[ix20,ix21];rfl
   have hm4:=cMap4 (e:=fun couple=>(dIx couple (.int 0)).bind fun x2=>(dIx couple (.int 1)).bind fun x3=>pf m F.ac [.fn i,x2,x3]) ((step _ _).trans k1) ((step _ _).trans k2) ((step _ _).trans k3) ((step _ _).trans k4)
   have hp:=si En.int (n:=m) (by omega) (a:=T (fun x y=>f (t.qs.1.at n x y) (u.qs.1.at n x y)) n) (b:=T (fun x y=>f (t.qs.2.1.at n x y) (u.qs.2.1.at n x y)) n) (c:=T (fun x y=>f (t.qs.2.2.1.at n x y) (u.qs.2.2.1.at n x y)) n) (d:=T (fun x y=>f (t.qs.2.2.2.at n x y) (u.qs.2.2.2.at n x y)) n)
    (Nat.le_trans (bZ _ _) (by omega)) (Nat.le_trans (bZ _ _) (by omega)) (Nat.le_trans (bZ _ _) (by omega)) (Nat.le_trans (bZ _ _) (by omega))
   rw[cu,bj,y8]
   simp only[STP,if_true,if_false,ite_true,ite_false,reduceIte,reduceCtorEq,b1,q1,q2,z4,tJ,hm4,OPP,hp]
def fSame (a b:Int):Int:=if a=b then 1 else 0
theorem Am:Rul F.aq fSame:=⟨by decide,fun a b ha hb=>by unfold fSame W9;split<;>omega,fun m a b hm _ _=>by
 obtain⟨m,rfl,_⟩:=ex1 (k:=0) hm
 rw[mF,de,d5]
 unfold fSame
 by_cases h:a=b
 ·rw[if_pos h,decide_eq_true h];rfl
 ·rw[if_neg h,decide_eq_false h];rfl⟩
structure Wrd (r:PySem.Str)(i:Nat)(f:Int→Int→Int):Prop where
 look:fz.lookup r=some i
 word:dNotInD (.str r) (tabK fz)=.ok (.bl false)
 rul:Rul i f
theorem sv:Wrd "same" F.aq fSame:=⟨rfl,rfl,Am⟩
section
variable {sz:Nat}{r:PySem.Str}{i:Nat}{f:Int→Int→Int}
theorem Wrd.check (w:Wrd r i f){n:Nat}(hn:2≤n):pf n F.a6 [.str r]=.ok .non:=by
 obtain⟨n,rfl,hn⟩:=ex1 (show 1+1≤n by omega)
 obtain⟨n,rfl,hn⟩:=ex1 (show 0+1≤n by omega)
 rw[mH,dg,mG,df,w.word]
 rfl
theorem nR {l:List (Q Int)}(hl:l.length≤1000)(h:∀ t∈l,Pc sz t){n:Nat}(hn:10≤n):pf n F.ad [.lst (l.map (picD sz))]=.ok .non:=by
 obtain⟨n,rfl,hn⟩:=ex1 (show 9+1≤n by omega)
 have hs:sq (.lst (l.map (picD sz)))=.ok (l.map (picD sz)):=cx (by rw[List.length_map];omega)
 have l1:lFor (τ:=Unit) (fun _ x=>aN (pf n) x) (l.map (picD sz)) ()=.nx ():=by
  refine me _ fun a ha=>?_
  obtain⟨t,ht,rfl⟩:=List.mem_map.mp ha
  unfold aN
  rw[(h t ht).check (by omega)]
  rfl
 have l2:pf n F.ak [.lst (l.map (picD sz))]=.ok .non:=by
  obtain⟨n,rfl,hn⟩:=ex1 (show 8+1≤n by omega)
  rw[gy,bV,hs]
  have l3:lFor (τ:=Unit) (fun _ x=>bN (pf n) (.lst (l.map (picD sz))) x) (l.map (picD sz)) ()=.nx ():=by
   refine me _ fun a ha=>?_
   obtain⟨t,ht,rfl⟩:=List.mem_map.mp ha
   have h0:∃ u:Q Int,dIx (.lst (l.map (picD sz))) (.int 0)=.ok (picD sz u):=by
    cases l with
    | nil=>cases ht
    | cons u l=>exact⟨u,by
      show (match L2.atI (picD sz u::l.map (picD sz)) 0 with | some d=>R.ok d | none=>R.stuck)=_
      have:L2.atI (picD sz u::l.map (picD sz)) 0=some (picD sz u):=by
       unfold L2.atI L2.ixN
       rw[if_pos (by omega),if_pos (by simp only[List.length_cons];omega)]
       rfl
      rw[this]⟩
   obtain⟨u,h0⟩:=h0
   unfold bN
   rw[h0]
   unfold picD
   simp only[ix20,STP,if_true,if_false,ite_true,ite_false,reduceIte,reduceCtorEq,dm]
   simp
  simp only[STP,if_true,if_false,ite_true,ite_false,reduceIte,reduceCtorEq,l3]
 rw[bG,aP]
 simp only[STP,if_true,if_false,ite_true,ite_false,reduceIte,reduceCtorEq,hs,l1,l2]
variable {g g':Nat→Nat→Int}{t t':Q Int}
theorem Wrd.joined (w:Wrd r i f)(q:Sh sz g t)(q':Sh sz g' t'){n:Nat}(hn:11≤n):pf n F.bd [.str r,picD sz t,picD sz t']=.ok (picD sz (T (fun x y=>f (g x y) (g' x y)) sz)):=by
 obtain⟨n,rfl,hn⟩:=ex1 (show 10+1≤n by omega)
 have h3:=q.p.h3
 have e1:=w.check (n:=n) (by omega)
 have e2:pf n F.ad [.lst [picD sz t,picD sz t']]=.ok .non:=nR (l:=[t,t']) (by simp) (fun u hu=>by
  simp only[List.mem_cons,List.not_mem_nil,or_false]at hu
  rcases hu with rfl | rfl
  ·exact q.p
  ·exact q'.p) (by omega)
 have e3:=AT w.rul sz n t t' q.p.dep q'.p.dep (by omega) q.p.all q'.p.all (by omega)
 have e4:dTab fz (.str r)=.ok (.fn i):=by show (match fz.lookup r with | some k=>R.ok (D.fn k) | none=>R.stuck)=_;rw[w.look]
 have e5:T (fun x y=>f (t.at sz x y) (t'.at sz x y)) sz=T (fun x y=>f (g x y) (g' x y)) sz:=aH sz _ _ fun x y hx hy=>by rw[q.w x y hx hy,q'.w x y hx hy]
 rw[nD,gr,e1,bF,e2,bF]
 unfold picD
 simp only[STP,if_true,if_false,ite_true,ite_false,reduceIte,reduceCtorEq,ix20,ix21,e4,e3,e5]
theorem Wrd.sh (w:Wrd r i f)(q:Sh sz g t)(q':Sh sz g' t'):Sh sz (fun x y=>f (g x y) (g' x y)) (T (fun x y=>f (g x y) (g' x y)) sz):=sh_T q.p.h3 fun x y hx hy=>w.rul.w _ _ (q.wo x y hx hy) (q'.wo x y hx hy)
end
end Lw
end
section
namespace Lw
open PySem FF
section
variable {α:Type}[DecidableEq α]
theorem xi (a b c d:Q α):(∃ v,a=.lf v∧b=.lf v∧c=.lf v∧d=.lf v)∨put4 a b c d=.nd a b c d:=by
 unfold put4
 split
 ·split
  ·rename_i h2;exact .inl ⟨_,rfl,h2⟩
  ·exact .inr rfl
 ·exact .inr rfl
end
section
variable {p q r s:Nat}{m:Nat→(Nat→Nat→Int)→Nat→Nat→Int}
variable {sz:Nat}{g:Nat→Nat→Int}{t:Q Int}
end
end Lw
end
section
namespace Lw
open PySem FF
section
variable {sz:Nat}{g g' g'':Nat→Nat→Int}{t t' t'':Q Int}
end
theorem word4 {m:Nat}(hm:1≤m):pf m F.aV [.exc 4]=.ok (.str "unlike"):=by
 obtain⟨m,rfl,hm⟩:=ex1 hm
 rw[jR,eW]
 rfl
theorem vk {w:Nat}(hw:w≤1000){n m:Nat}{d:D}(h:th w n d=true)(hm:n+6≤m)(c:sizedOk (inTo 9) n d=false):pf m F.af [d]=.err 1:=by
 have e:=nM (n:=m) (m:=n) (kR h) (tG hw _ h) (by omega)
 rw[c]at e;exact e
end Lw
end
section
namespace Lw
open PySem FF
section
variable {α β γ:Type}[DecidableEq α][DecidableEq β][DecidableEq γ]{ea:α→D}{eb:β→D}{ec:γ→D}
theorem xj (Ea:En ea)(Eb:En eb)(Ec:En ec){pa:α→Prop}{pb:β→Prop}{i:Nat}{f:α→β→γ}(fv:fvL.contains i=true)(ok:∀ m a b,1≤m→pa a→pb b→pf m i [ea a,eb b]=.ok (ec (f a b))):∀ (n m:Nat) (t:Q α) (u:Q β),t.dep≤n→u.dep≤n→n≤40→t.All pa→u.All pb→n+3≤m→pf m F.ac [.fn i,t.d ea,u.d eb]=.ok ((T (fun x y=>f (t.at n x y) (u.at n x y)) n).d ec):=by
 have both:∀ (n m:Nat) (a:α) (b:β),pa a→pb b→2≤m→pf m F.ac [.fn i,ea a,eb b]=.ok ((T (fun x y=>f ((Q.lf a).at n x y) ((Q.lf b).at n x y)) n).d ec):=fun n m a b ha hb hm=>by
  obtain⟨m,rfl,hm⟩:=ex1 (show 1+1≤m by omega)
  have e:T (fun x y=>f ((Q.lf a).at n x y) ((Q.lf b).at n x y)) n=.lf (f a b):=by
   rw[← fQ (f a b) n]
   exact aH n _ _ fun x y _ _=>by rw[dM,dM]
  have o:onF fvL (.fn i) (fun i=>pf m i [ea a,eb b])=.ok (ec (f a b)):=by
   show (if fvL.contains i=true then pf m i [ea a,eb b] else R.stuck)=_
   rw[if_pos fv,ok m a b (by omega) ha hb]
  have h1:dIsA qTup (ea a)=.ok (.bl false):=bg (Ea.tup a) (bq (Ea.gd 0 a))
  have h2:dIsA qTup (eb b)=.ok (.bl false):=bg (Eb.tup b) (bq (Eb.gd 0 b))
  rw[cu,bj,e]
  simp only[STP,if_true,if_false,ite_true,ite_false,reduceIte,reduceCtorEq,h1,h2,o]
  rfl
 intro n
 induction n with
 | zero =>
  intro m t u ht hu _ wt wu hm
  cases t with
  | nd a b c d=>rw[Q.dep]at ht;omega
  | lf a =>
   cases u with
   | nd a b c d=>rw[Q.dep]at hu;omega
   | lf b=>exact both 0 m a b wt wu (by omega)
 | succ n ih =>
  intro m t u ht hu h40 wt wu hm
  by_cases hb:isLf t=true∧isLf u=true
  ·cases t with
   | nd a b c d=>cases hb.1
   | lf a =>
    cases u with
    | nd a b c d=>cases hb.2
    | lf b=>exact both (n+1) m a b wt wu (by omega)
  ·obtain⟨m,rfl,hm⟩:=ex1 (show n+3+1≤m by omega)
   have td:=o6 ht
   have ud:=o6 hu
   have ta:=o7 wt
   have ua:=o7 wu
   have k1:=ih m t.qs.1 u.qs.1 td.1 ud.1 (by omega) ta.1 ua.1 (by omega)
   have k2:=ih m t.qs.2.1 u.qs.2.1 td.2.1 ud.2.1 (by omega) ta.2.1 ua.2.1 (by omega)
   have k3:=ih m t.qs.2.2.1 u.qs.2.2.1 td.2.2.1 ud.2.2.1 (by omega) ta.2.2.1 ua.2.2.1 (by omega)
   have k4:=ih m t.qs.2.2.2 u.qs.2.2.2 td.2.2.2 ud.2.2.2 (by omega) ta.2.2.2 ua.2.2.2 (by omega)
   have b1:rAnd (rNot (asB (dIsA qTup (t.d ea)))) (rNot (asB (dIsA qTup (u.d eb))))=.ok false:=by
    rw[jC Ea,jC Eb]
    cases h1:isLf t with
    | false=>rfl
    | true =>
     cases h2:isLf u with
     | false=>rfl
     | true=>exact(hb ⟨h1,h2⟩).elim
   have q1:=g8 Ea t (n:=m) (by omega)
   have q2:=g8 Eb u (n:=m) (by omega)
   have z4:∀ a b c d a' b' c' d':D,dZip (.tup [a,b,c,d]) (.tup [a',b',c',d'])=.ok [.tup [a,a'],.tup [b,b'],.tup [c,c'],.tup [d,d']]:=fun _ _ _ _ _ _ _ _=>rfl
   have step:∀ a b:D,((dIx (.tup [a,b]) (.int 0)).bind fun x2=>(dIx (.tup [a,b]) (.int 1)).bind fun x3=>pf m F.ac [.fn i,x2,x3])=pf m F.ac [.fn i,a,b]:=fun a b=>by rw[ix20,ix21];rfl
   have hm4:=cMap4 (e:=fun couple=>(dIx couple (.int 0)).bind fun x2=>(dIx couple (.int 1)).bind fun x3=>pf m F.ac [.fn i,x2,x3]) ((step _ _).trans k1) ((step _ _).trans k2) ((step _ _).trans k3) ((step _ _).trans k4)
   have hp:=si Ec (n:=m) (by omega) (a:=T (fun x y=>f (t.qs.1.at n x y) (u.qs.1.at n x y)) n) (b:=T (fun x y=>f (t.qs.2.1.at n x y) (u.qs.2.1.at n x y)) n) (c:=T (fun x y=>f (t.qs.2.2.1.at n x y) (u.qs.2.2.1.at n x y)) n) (d:=T (fun x y=>f (t.qs.2.2.2.at n x y) (u.qs.2.2.2.at n x y)) n)
    (Nat.le_trans (bZ _ _) (by omega)) (Nat.le_trans (bZ _ _) (by omega)) (Nat.le_trans (bZ _ _) (by omega)) (Nat.le_trans (bZ _ _) (by omega))
   rw[cu,bj,y8]
   simp only[STP,if_true,if_false,ite_true,ite_false,reduceIte,reduceCtorEq,b1,q1,q2,z4,tJ,hm4,OPP,hp]
end
section
variable {α:Type}[DecidableEq α]{e:α→D}
theorem nT {fa fb F:Nat→Nat→α}{h o:Nat}(hh:h≤1000){some_:List D}{u:Nat}(e1:some_[u]?=some (rowsL e fa h h))(e2:some_[u+1]?=some (rowsL e fb h h))(ha:∀ x y,x < h→y < h→F x (o+y)=fa x y)(hb:∀ x y,x < h→y < h→F (h+x) (o+y)=fb x y){t:Nat→List D→R D}{made:List D}(hm:made.length≤1000) :
  iI t (.lst some_) made (.int (u:Int))=.nx (made++(List.range h).map fun y=>rowL e F (h+h) (o+y)):=by
 have i1:=ixL e1
 have i2:dIx (.lst some_) (.int ((u:Int)+1))=.ok (rowsL e fb h h):=by have:=ixL e2;rw[show ((u+1:Nat):Int)=(u:Int)+1 by omega]at this;exact this
 have hl:dLen [rowsL e fa h h]=.ok (.int (h:Int)):=by unfold rowsL;rw[g7,List.length_map,List.length_range]
 have hc:cMap (fun Bb=>((dIx (.lst some_) (.int (u:Int))).bind fun x2=>dIx x2 Bb).bind fun x3=>(((dAdd (.int (u:Int)) (.int 1)).bind fun x4=>dIx (.lst some_) x4).bind fun x5=>dIx x5 Bb).bind fun x6=>dAdd x3 x6) ((List.range h).map fun i=>D.int ((i:Nat):Int))=.ok (.lst ((List.range h).map fun y=>rowL e F (h+h) (o+y))) :=
  cy _ _ fun y hy=>by
   have hy:=List.mem_range.mp hy
   rw[i1]
   simp only[STP,if_true,if_false,ite_true,ite_false,reduceIte,reduceCtorEq,OPP,i2,qE hy]
   unfold rowL
   rw[catL (by simp;omega),qF (F:=F) (y':=o+y) (fun x hx=>ha x y hx hy) (fun x hx=>hb x y hx hy)]
 unfold iI
 rw[i1]
 simp only[STP,if_true,if_false,ite_true,ite_false,reduceIte,reduceCtorEq,hl,fU (show h≤16777216 by omega)]
 rw[i1]at hc
 simp only[STP,if_true,if_false,ite_true,ite_false,reduceIte,reduceCtorEq]at hc
 simp only[STP,if_true,if_false,ite_true,ite_false,reduceIte,reduceCtorEq,hc]
 rw[bC (by simp;omega)]
 rfl
theorem ig (E:En e):∀ (s:Nat) (t:Q α) (n:Nat),s≤3→t.dep≤s→s+1≤n→pf n F.a7 [.int (s:Int),t.d e]=.ok (rowsL e (t.at s) (2^s) (2^s))
 | 0,t,n,_,hd,hn=>by
  obtain⟨n,rfl,hn⟩:=ex1 (show 0+1≤n by omega)
  rw[qd,jk,show ((0:Nat):Int)=0 from rfl]
  simp only[STP,if_true,if_false,ite_true,ite_false,reduceIte,reduceCtorEq,OPP,decide_true]
  cases t with
  | lf a=>rfl
  | nd=>simp[Q.dep]at hd
 | s+1,t,n,h3,hd,hn=>by
  obtain⟨n,rfl,hn⟩:=ex1 (show s+1+1≤n by omega)
  have e0:¬ (((s+1:Nat):Int)=0):=by omega
  have e1:((s+1:Nat):Int) - 1=(s:Int):=by omega
  have h8:=p8 (show s≤3 by omega)
  obtain⟨a,b,c,d,hq,ha,hb,hc,hd4,hF⟩:∃ a b c d:Q α,(rIf (asB (dIsA qTup (t.d e))) (.ok (t.d e)) (dMul (.tup [t.d e]) (.int 4)))=.ok (.tup [a.d e,b.d e,c.d e,d.d e])∧a.dep≤s∧b.dep≤s∧c.dep≤s∧d.dep≤s∧∀ x y,t.at (s+1) x y=(Q.nd a b c d).at (s+1) x y:=by
   cases t with
   | lf v =>
    refine⟨.lf v,.lf v,.lf v,.lf v,?_,Nat.zero_le _,Nat.zero_le _,Nat.zero_le _,Nat.zero_le _,fun x y=>by simp[Q.at]⟩
    rw[bg (d:=Q.d e (.lf v)) (E.tup v) (bq (E.gd 0 v))]
    rfl
   | nd a b c d =>
    have hd':1+max (max a.dep b.dep) (max c.dep d.dep)≤s+1:=hd
    exact⟨a,b,c,d,rfl,by omega,by omega,by omega,by omega,fun _ _=>rfl⟩
  have ka:=ig E s a n (by omega) ha (by omega)
  have kb:=ig E s b n (by omega) hb (by omega)
  have kc:=ig E s c n (by omega) hc (by omega)
  have kd:=ig E s d n (by omega) hd4 (by omega)
  have hm:cMap (fun Bc=>(dSub (.int ((s+1:Nat):Int)) (.int 1)).bind fun x=>pf n F.a7 [x,Bc]) [a.d e,b.d e,c.d e,d.d e]=.ok (.lst [rowsL e (a.at s) (2^s) (2^s),rowsL e (b.at s) (2^s) (2^s),rowsL e (c.at s) (2^s) (2^s),rowsL e (d.at s) (2^s) (2^s)]):=by
   rw[e9,e1];exact cMap4 ka kb kc kd
  have u1:=nT (e:=e) (fa:=a.at s) (fb:=b.at s) (F:=t.at (s+1)) (h:=2^s) (o:=0) (by omega) (some_:=[rowsL e (a.at s) (2^s) (2^s),rowsL e (b.at s) (2^s) (2^s),rowsL e (c.at s) (2^s) (2^s),rowsL e (d.at s) (2^s) (2^s)]) (u:=0) rfl rfl
   (fun x y hx hy=>by rw[hF,Q.at,if_pos (by omega),if_pos hx,Nat.zero_add]) (fun x y hx hy=>by rw[hF,Q.at,if_pos (by omega),if_neg (by omega),Nat.zero_add,Nat.add_sub_cancel_left]) (t:=pf n) (made:=[]) (by simp)
  have u2:=nT (e:=e) (fa:=c.at s) (fb:=d.at s) (F:=t.at (s+1)) (h:=2^s) (o:=2^s) (by omega) (some_:=[rowsL e (a.at s) (2^s) (2^s),rowsL e (b.at s) (2^s) (2^s),rowsL e (c.at s) (2^s) (2^s),rowsL e (d.at s) (2^s) (2^s)]) (u:=2) rfl rfl
   (fun x y hx hy=>by rw[hF,Q.at,if_neg (by omega),if_pos hx,Nat.add_sub_cancel_left]) (fun x y hx hy=>by rw[hF,Q.at,if_neg (by omega),if_neg (by omega),Nat.add_sub_cancel_left,Nat.add_sub_cancel_left]) (t:=pf n) (made:=(List.range (2^s)).map fun y=>rowL e (t.at (s+1)) (2^s+2^s) (0+y)) (by simp;omega)
  rw[qd,jk,hq]
  have hs2:sq (.tup [(.int 0),(.int 2)])=.ok [.int 0,.int 2]:=rfl
  rw[show ((0:Nat):Int)=0 from rfl]at u1
  rw[show ((2:Nat):Int)=2 from rfl]at u2
  simp only[STP,if_true,if_false,ite_true,ite_false,reduceIte,reduceCtorEq,OPP,decide_eq_false e0,sq4,e1,hs2,aX,eN]at hm ⊢
  simp only[STP,if_true,if_false,ite_true,ite_false,reduceIte,reduceCtorEq,hm,u1,List.nil_append]at u2 ⊢
  simp only[STP,if_true,if_false,ite_true,ite_false,reduceIte,reduceCtorEq,u2]
  unfold rowsL
  rw[bv,List.range_add,List.map_append,List.map_map]
  simp[Function.comp_def]
end
def inSet:D→Bool
 | .non=>true
 | d=>inTo 9 d
theorem sw {n:Nat}(hn:3≤n){d:D}(h:noX d=true):pf n F.ar [d]=.ok (.bl (inSet d)):=by
 obtain⟨n,rfl,hn⟩:=ex1 (show 2+1≤n by omega)
 have e:=qz (n:=n) (by omega) h
 rw[mI,dh]
 cases d<;>first | (cases h;done) | (simp only[dIs,e,STP,if_true,if_false,ite_true,ite_false,reduceIte,reduceCtorEq,inSet])
theorem sx:fvL.contains F.ar=true:=by decide
theorem xk {n m:Nat}{d:D}(hg:good (m+1) d=true)(hs:slim (m+1) d=true)(hn:m+6≤n):pf n F.a8 [d]=.ok (.bl (sizedOk inSet m d)):=by
 obtain⟨n,rfl,hn⟩:=ex1 (show m+5+1≤n by omega)
 have e:=qA (i:=F.ar) (c:=3) (p:=inSet) (by decide) sx (fun m d hm hx=>sw hm hx) m n d hg hs (by omega)
 rw[oE,dU]
 simp only[STP,if_true,if_false,ite_true,ite_false,reduceIte,reduceCtorEq,e]
theorem mj {n m:Nat}{d:D}(hg:good (m+1) d=true)(hs:slim (m+1) d=true)(hn:m+7≤n):pf n F.ae [d]=if sizedOk inSet m d=true then .ok .non else .err 7:=by
 obtain⟨n,rfl,hn⟩:=ex1 (show m+6+1≤n by omega)
 have e:=xk (n:=n) hg hs (by omega)
 rw[kC,cn]
 simp only[STP,if_true,if_false,ite_true,ite_false,reduceIte,reduceCtorEq,e]
 cases sizedOk inSet m d<;>rfl
def S9 (o:Option Int):Prop:=∀ v,o=some v→W9 v
theorem yQ {o:Option Int}(h:S9 o):inSet (oD o)=true:=by
 cases o with
 | none=>rfl
 | some v=>exact in9 (h v rfl)
def chD (sz:Nat)(t:Q (Option Int)):D:=.tup [.int (sz:Int),t.d oD]
structure Cg (sz:Nat)(t:Q (Option Int)):Prop where
 h3:sz≤3
 dep:t.dep≤sz
 all:t.All S9
section
variable {sz:Nat}{t:Q (Option Int)}
theorem Cg.good (p:Cg sz t):good 4 (chD sz t)=true:=by
 have:=Q.gd En.opt 3 t (by have:=p.dep;have:=p.h3;omega)
 unfold chD;rw[FF.good,goods,goods,this];rfl
theorem Cg.slim (p:Cg sz t):slim 4 (chD sz t)=true:=by
 have:=ke (e:=oD) (fun a=>by cases a<;>rfl) En.opt 3 t
 unfold chD;rw[Lw.slim];simp[this,Lw.slim]
theorem Cg.sized (p:Cg sz t):sizedOk inSet 3 (chD sz t)=true:=by
 have h3:=p.h3
 have:=kg (p:=inSet) En.opt 3 sz t (by have:=p.dep;omega) p.dep (ic (fun a h=>yQ h) p.all)
 unfold chD sizedOk
 simp only[inTo,this,Bool.and_true]
 simp;omega
theorem Cg.check (p:Cg sz t){n:Nat}(hn:10≤n):pf n F.ae [chD sz t]=.ok .non:=by rw[mj p.good p.slim hn,p.sized];rfl
theorem Cg.g60 (p:Cg sz t):FF.good 60 (chD sz t)=true:=cB p.good (by decide)
end
structure Sc (sz:Nat)(c:Nat→Nat→Option Int)(t:Q (Option Int)):Prop where
 p:Cg sz t
 w:∀ x y,x < 2^sz→y < 2^sz→t.at sz x y=c x y
def Ws (c:Nat→Nat→Option Int)(sz:Nat):Prop:=∀ x y,x < 2^sz→y < 2^sz→S9 (c x y)
theorem Sc.wo {sz:Nat}{c:Nat→Nat→Option Int}{t:Q (Option Int)}(h:Sc sz c t):Ws c sz:=fun x y hx hy=>by rw[← h.w x y hx hy];exact iR sz t x y h.p.all
theorem sc_T {sz:Nat}{c:Nat→Nat→Option Int}(h3:sz≤3)(h:Ws c sz):Sc sz c (T c sz):=⟨⟨h3,bZ sz c,nJ sz c h⟩,fun x y hx hy=>T_at sz c x y hx hy⟩
theorem Cg.sc {sz:Nat}{t:Q (Option Int)}(p:Cg sz t):Sc sz (t.at sz) t:=⟨p,fun _ _ _ _=>rfl⟩
def ov (a:Int)(o:Option Int):Int:=o.getD a
def ovo (a b:Option Int):Option Int:=match b with
 | none=>a
 | some v=>some v
theorem yR {α:Type}{e:α→D}{m:Nat}(hm:1≤m)(a:D)(b:Option Int):pf m F.aB [a,oD b]=.ok (match b with | none=>a | some v=>.int v):=by
 obtain⟨m,rfl,hm⟩:=ex1 (show 0+1≤m by omega)
 rw[p7,fB]
 cases b<;>rfl
theorem yS:fvL.contains F.aB=true:=by decide
theorem yT (n m:Nat)(t:Q (Option Int))(u:Q (Option Int))(ht:t.dep≤n)(hu:u.dep≤n)(h40:n≤40)(hm:n+3≤m)(wt:t.All S9)(wu:u.All S9):pf m F.ac [.fn F.aB,t.d oD,u.d oD]=.ok ((T (fun x y=>ovo (t.at n x y) (u.at n x y)) n).d oD) :=
 xj En.opt En.opt En.opt (pa:=S9) (pb:=S9) (f:=ovo) yS (fun m a b hm _ _=>by rw[yR (e:=D.int) hm];cases b<;>rfl) n m t u ht hu h40 wt wu hm
theorem sizes2 {s1 s2:Nat}{a b:D}{m:Nat}(hm:1≤m):pf m F.ak [.lst [.tup [.int (s1:Int),a],.tup [.int (s2:Int),b]]]=if s1=s2 then .ok .non else .err 4:=by
 obtain⟨m,rfl,hm⟩:=ex1 (show 0+1≤m by omega)
 have hs:sq (.lst [.tup [.int (s1:Int),a],.tup [.int (s2:Int),b]])=.ok [.tup [.int (s1:Int),a],.tup [.int (s2:Int),b]]:=rfl
 have e0:dIx (.lst [.tup [.int (s1:Int),a],.tup [.int (s2:Int),b]]) (.int 0)=.ok (.tup [.int (s1:Int),a]):=rfl
 rw[gy,bV,hs]
 simp only[STP,if_true,if_false,ite_true,ite_false,reduceIte,reduceCtorEq,OPP,lFor,bN,e0,decide_true]
 by_cases h:s1=s2
 ·rw[decide_eq_true (show (s2:Int)=s1 by omega),if_pos h];simp only[STP,if_true,if_false,ite_true,ite_false,reduceIte,reduceCtorEq]
 ·rw[decide_eq_false (show ¬ (s2:Int)=s1 by omega),if_neg h];simp only[STP,if_true,if_false,ite_true,ite_false,reduceIte,reduceCtorEq]
section
variable {sz:Nat}{g g':Nat→Nat→Int}{c c':Nat→Nat→Option Int}{t t':Q Int}{u u':Q (Option Int)}
theorem Sc.lean (q:Sc sz c u){n:Nat}(hn:11≤n):pf n F.aI [chD sz u]=.ok (chD sz (T c sz)):=by
 obtain⟨n,rfl,hn⟩:=ex1 (show 10+1≤n by omega)
 have h3:=q.p.h3;have hd:=q.p.dep
 have e1:=q.p.check (n:=n) (by omega)
 have e2:=dN En.opt u n (by omega) (by omega)
 rw[g6 sz u hd,aH sz _ _ q.w]at e2
 rw[gz,bW,e1,bF]
 unfold chD
 simp only[STP,if_true,if_false,ite_true,ite_false,reduceIte,reduceCtorEq,OPP,e2]
theorem Sc.over (q:Sc sz c u)(s:Sh sz g t):Sh sz (fun x y=>ov (g x y) (c x y)) (T (fun x y=>ov (g x y) (c x y)) sz):=sh_T s.p.h3 fun x y hx hy=>by
 show W9 (ov (g x y) (c x y))
 have h:=q.wo x y hx hy
 cases e:c x y with
 | none=>exact s.wo x y hx hy
 | some v=>exact h v e
theorem Sc.behind (q:Sc sz c u)(s:Sc sz c' u'){n:Nat}(hn:12≤n):pf n F.a2 [chD sz u,chD sz u']=.ok (chD sz (T (fun x y=>ovo (c x y) (c' x y)) sz)):=by
 obtain⟨n,rfl,hn⟩:=ex1 (show 11+1≤n by omega)
 obtain⟨m,rfl,hm⟩:=ex1 (show 10+1≤n by omega)
 have h3:=q.p.h3;have hd:=q.p.dep
 have e1:=q.p.check (n:=m) (by omega)
 have e2:=s.p.check (n:=m) (by omega)
 have e3:pf m F.ak [.lst [chD sz u,chD sz u']]=.ok .non:=(sizes2 (by omega)).trans (if_pos rfl)
 have e5:pf (m+1) F.ai [chD sz u,chD sz u']=.ok .non:=by
  rw[bQ,aT,e1,e2,bF,bF,e3];rfl
 have e4:=yT sz (m+1) u u' hd s.p.dep (by omega) (by omega) q.p.all s.p.all
 rw[aH sz _ (fun x y=>ovo (c x y) (c' x y)) (fun x y hx hy=>by rw[q.w x y hx hy,s.w x y hx hy])]at e4
 rw[uP,jf,e5,bF]
 unfold chD
 simp only[STP,if_true,if_false,ite_true,ite_false,reduceIte,reduceCtorEq,OPP,e4]
theorem Sc.ovo (q:Sc sz c u)(s:Sc sz c' u'):Sc sz (fun x y=>ovo (c x y) (c' x y)) (T (fun x y=>ovo (c x y) (c' x y)) sz):=sc_T q.p.h3 fun x y hx hy=>by
 show S9 (Lw.ovo (c x y) (c' x y))
 cases e:c' x y with
 | none=>exact q.wo x y hx hy
 | some v=>intro k hk;have hk':v=k:=Option.some.inj hk;subst hk';exact s.wo x y hx hy v e
theorem T_qs (n:Nat)(g:Nat→Nat→Int):(T g (n+1)).qs=(T g n,T (sh g (2^n) 0) n,T (sh g 0 (2^n)) n,T (sh g (2^n) (2^n)) n):=by
 rw[T]
 rcases xi (T g n) (T (sh g (2^n) 0) n) (T (sh g 0 (2^n)) n) (T (sh g (2^n) (2^n)) n) with ⟨v,h1,h2,h3,h4⟩ | h
 ·rw[h1,h2,h3,h4,nI];rfl
 ·rw[h];rfl
theorem An:∀ (n:Nat) (g g':Nat→Nat→Int) (m:Nat),n≤40→n+2≤m→(∀ x y,x < 2^n→y < 2^n→W9 (g' x y)) →
  ∃ u:Q (Option Int),u.dep≤n∧u.All S9∧(∀ x y,x < 2^n→y < 2^n→ov (g x y) (u.at n x y)=g' x y)∧(T g n=T g' n→u=.lf none)∧pf m F.ap [(T g n).d .int,(T g' n).d .int]=.ok (u.d oD):=by
 intro n
 induction n with
 | zero =>
  intro g g' m h40 hm hw
  obtain⟨m,rfl,hm⟩:=ex1 (show 0+1≤m by omega)
  by_cases h:g 0 0=g' 0 0
  ·refine⟨.lf none,Nat.le_refl _,(fun v hv=>by cases hv),fun x y hx hy=>?_,fun _=>rfl,?_⟩
   ·have:x=0∧y=0:=by constructor<;>(simp at hx hy;omega)
    rw[this.1,this.2];exact h
   ·rw[bB,aS]
    show outL (lS (lB (asB (dEq (.int (g 0 0)) (.int (g' 0 0)))) _) _)=_
    rw[d5,decide_eq_true h];simp only[STP,if_true,if_false,ite_true,ite_false,reduceIte,reduceCtorEq];rfl
  ·refine⟨.lf (some (g' 0 0)),Nat.le_refl _,(fun v hv=>by cases hv;exact hw 0 0 (by decide) (by decide)),fun x y hx hy=>?_,fun e=>?_,?_⟩
   ·have:x=0∧y=0:=by constructor<;>(simp at hx hy;omega)
    rw[this.1,this.2];rfl
   ·simp only[T,Q.lf.injEq]at e;exact(h e).elim
   ·rw[bB,aS]
    show outL (lS (lB (asB (dEq (.int (g 0 0)) (.int (g' 0 0)))) _) _)=_
    rw[d5,decide_eq_false h]
    have t1:dIsA qTup ((T g' 0).d .int)=.ok (.bl false):=rfl
    simp only[STP,if_true,if_false,ite_true,ite_false,reduceIte,reduceCtorEq,t1];rfl
 | succ n ih =>
  intro g g' m h40 hm hw
  obtain⟨m,rfl,hm⟩:=ex1 (show n+2+1≤m by omega)
  have hd1:(T g (n+1)).dep≤50:=Nat.le_trans (bZ _ _) (by omega)
  have hd2:(T g' (n+1)).dep≤50:=Nat.le_trans (bZ _ _) (by omega)
  have he:dEq ((T g (n+1)).d .int) ((T g' (n+1)).d .int)=.ok (.bl (decide (T g (n+1)=T g' (n+1)))):=by
   rw[fc (cB (Q.g60 En.int hd1) (by decide)) (cB (Q.g60 En.int hd2) (by decide)),Q.eqd En.int]
  by_cases h:T g (n+1)=T g' (n+1)
  ·refine⟨.lf none,Nat.zero_le _,(fun v hv=>by cases hv),fun x y hx hy=>by rw[dM];exact y6 h x y hx hy,fun _=>rfl,?_⟩
   rw[bB,aS,he,decide_eq_true h]
   simp only[STP,if_true,if_false,ite_true,ite_false,reduceIte,reduceCtorEq];rfl
  ·cases hq:T g' (n+1) with
   | lf v =>
    have hv:∀ x y,x < 2^(n+1)→y < 2^(n+1)→g' x y=v:=fun x y hx hy=>by rw[← T_at (n+1) g' x y hx hy,hq,dM]
    refine⟨.lf (some v),Nat.zero_le _,(fun w e=>by cases e;rw[← hv 0 0 (Nat.two_pow_pos _) (Nat.two_pow_pos _)];exact hw 0 0 (Nat.two_pow_pos _) (Nat.two_pow_pos _)),fun x y hx hy=>by rw[dM,hv x y hx hy];rfl,fun e=>(h (e.trans hq.symm)).elim,?_⟩
    rw[hq]at he h
    rw[bB,aS,he,decide_eq_false h]
    have t1:dIsA qTup (Q.d .int (.lf v))=.ok (.bl false):=rfl
    simp only[STP,if_true,if_false,ite_true,ite_false,reduceIte,reduceCtorEq,t1];rfl
   | nd a b c d =>
    have q1:=T_qs n g
    have q2:=T_qs n g'
    rw[hq]at q2
    simp only[Q.qs,Prod.mk.injEq]at q2
    obtain⟨ea,eb,ec,ed⟩:=q2
    have pw:2^(n+1)=2^n+2^n:=bv n
    obtain⟨u1,d1,a1,f1,_,k1⟩:=ih g g' m (by omega) (by omega) (fun x y hx hy=>hw x y (by omega) (by omega))
    obtain⟨u2,d2,a2,f2,_,k2⟩:=ih (sh g (2^n) 0) (sh g' (2^n) 0) m (by omega) (by omega) (fun x y hx hy=>hw _ _ (by omega) (by omega))
    obtain⟨u3,d3,a3,f3,_,k3⟩:=ih (sh g 0 (2^n)) (sh g' 0 (2^n)) m (by omega) (by omega) (fun x y hx hy=>hw _ _ (by omega) (by omega))
    obtain⟨u4,d4,a4,f4,_,k4⟩:=ih (sh g (2^n) (2^n)) (sh g' (2^n) (2^n)) m (by omega) (by omega) (fun x y hx hy=>hw _ _ (by omega) (by omega))
    rw[← ea]at k1;rw[← eb]at k2;rw[← ec]at k3;rw[← ed]at k4
    refine⟨.nd u1 u2 u3 u4,by simp only[Q.dep];omega,⟨a1,a2,a3,a4⟩,fun x y hx hy=>?_,fun e=>(h (e.trans hq.symm)).elim,?_⟩
    ·rw[pw]at hx hy
     simp only[Q.at]
     by_cases hy':y < 2^n<;>by_cases hx':x < 2^n
     ·rw[if_pos hy',if_pos hx'];exact f1 x y hx' hy'
     ·rw[if_pos hy',if_neg hx']
      have:=f2 (x - 2^n) y (by omega) hy'
      simp only[sh,Nat.add_zero,show x - 2^n+2^n=x by omega]at this;exact this
     ·rw[if_neg hy',if_pos hx']
      have:=f3 x (y - 2^n) hx' (by omega)
      simp only[sh,Nat.add_zero,show y - 2^n+2^n=y by omega]at this;exact this
     ·rw[if_neg hy',if_neg hx']
      have:=f4 (x - 2^n) (y - 2^n) (by omega) (by omega)
      simp only[sh,show x - 2^n+2^n=x by omega,show y - 2^n+2^n=y by omega]at this;exact this
    ·rw[hq]at he h
     have qk:=g8 En.int (T g (n+1)) (n:=m) (by omega)
     rw[q1]at qk
     simp only at qk
     have M:cMap (fun number=>(dIx (.tup [(T g n).d .int,(T (sh g (2^n) 0) n).d .int,(T (sh g 0 (2^n)) n).d .int,(T (sh g (2^n) (2^n)) n).d .int]) number).bind fun x=>(dIx (.tup [a.d .int,b.d .int,c.d .int,d.d .int]) number).bind fun x1=>pf m F.ap [x,x1]) [.int 0,.int 1,.int 2,.int 3]=.ok (.lst [u1.d oD,u2.d oD,u3.d oD,u4.d oD]):=cMap4 (e:=fun number=>(dIx (.tup [(T g n).d .int,(T (sh g (2^n) 0) n).d .int,(T (sh g 0 (2^n)) n).d .int,(T (sh g (2^n) (2^n)) n).d .int]) number).bind fun x=>(dIx (.tup [a.d .int,b.d .int,c.d .int,d.d .int]) number).bind fun x1=>pf m F.ap [x,x1]) k1 k2 k3 k4
     rw[bB,aS,he,decide_eq_false h]
     simp only[Q.d,STP,if_true,if_false,ite_true,ite_false,reduceIte,reduceCtorEq,OPP,qk,rng4,M]
theorem Sh.between (s:Sh sz g t)(s':Sh sz g' t'){n:Nat}(hn:11≤n):∃ u:Q (Option Int),Sc sz (u.at sz) u∧(∀ x y,x < 2^sz→y < 2^sz→ov (g x y) (u.at sz x y)=g' x y)∧(T g sz=T g' sz→u=.lf none)∧pf n F.bg [picD sz t,picD sz t']=.ok (chD sz u):=by
 obtain⟨n,rfl,hn⟩:=ex1 (show 10+1≤n by omega)
 have h3:=s.p.h3
 obtain⟨u,hd,ha,hf,hN,hk⟩:=An sz g g' n (by omega) (by omega) s'.wo
 refine⟨u,(⟨h3,hd,ha⟩:Cg sz u).sc,hf,hN,?_⟩
 have e2:pf n F.ad [.lst [picD sz t,picD sz t']]=.ok .non:=nR (l:=[t,t']) (by simp) (fun u hu=>by
  simp only[List.mem_cons,List.not_mem_nil,or_false]at hu
  rcases hu with rfl | rfl
  ·exact s.p
  ·exact s'.p) (by omega)
 have l1:=dN En.int t n (by have:=s.p.dep;omega) (by have:=s.p.dep;omega)
 rw[g6 sz t s.p.dep,aH sz _ _ s.w]at l1
 have l2:=dN En.int t' n (by have:=s'.p.dep;omega) (by have:=s'.p.dep;omega)
 rw[g6 sz t' s'.p.dep,aH sz _ _ s'.w]at l2
 rw[rN,hZ,e2,bF]
 unfold picD chD
 simp only[STP,if_true,if_false,ite_true,ite_false,reduceIte,reduceCtorEq,OPP,l1,l2,hk]
end
end Lw
end
section
namespace Lw
open PySem FF
def valsO (f:Nat→Nat→Option Int)(w k:Nat):List (Option Int):=(List.range k).flatMap fun y=>(List.range w).map fun x=>f x y
theorem vm (f:Nat→Nat→Option Int)(w k:Nat):(valsO f w k).length=k*w:=by
 unfold valsO
 rw[List.length_flatMap]
 simp[List.map_const',List.sum_replicate_nat]
theorem kh {f:Nat→Nat→Option Int}{w k:Nat}{v:Option Int}:v∈valsO f w k↔∃ x y,x < w∧y < k∧v=f x y:=by
 unfold valsO
 simp only[List.mem_flatMap,List.mem_range,List.mem_map]
 constructor
 ·rintro ⟨y,hy,x,hx,rfl⟩;exact⟨x,y,hx,hy,rfl⟩
 ·rintro ⟨x,y,hx,hy,rfl⟩;exact⟨y,hy,x,hx,rfl⟩
theorem sy {f:Nat→Nat→Option Int}{w k:Nat}(hw:0 < w)(hk:0 < k):∃ r,valsO f w k=f 0 0::r:=by
 obtain⟨w,rfl⟩:∃ j,w=j+1:=⟨w - 1,by omega⟩
 obtain⟨k,rfl⟩:∃ j,k=j+1:=⟨k - 1,by omega⟩
 unfold valsO
 rw[show List.range (k+1)=0::(List.range k).map Nat.succ from List.range_succ_eq_map,List.flatMap_cons,show List.range (w+1)=0::(List.range w).map Nat.succ from List.range_succ_eq_map]
 exact⟨_,rfl⟩
theorem qS (n:Nat):∀ l:List (Option Int),goods n (l.map oD)=true
 | []=>rfl
 | b::l=>by rw[List.map_cons,goods,qS n l,En.opt.gd];rfl
theorem sA:∀ (n:Nat) (f:Nat→Nat→Option Int) (k:Nat),n≤3→n+1≤k→pf k F.aJ [rowsL oD f (2^n) (2^n)]=.ok ((T f n).d oD):=by
 have flat:∀ (f:Nat→Nat→Option Int) (s:Nat) (t:Nat→List D→R D),s≤8→lFor (τ:=List D) (fun s x=>bP t s x) ((List.range s).map fun y=>rowL oD f s y) []=.nx ((valsO f s s).map oD):=fun f s t hs=>by
  have h8:s*s≤64:=Nat.mul_le_mul hs hs
  have:=fe (fun y=>rowL oD f s y) (step:=fun s x=>bP t s x) (fun y=>(List.range s).map fun x=>oD (f x y)) s (List.range s) [] (fun y hy acc ha=>by
   unfold bP rowL
   rw[bC (by simp;omega)]
   rfl) (fun y hy=>by simp) (by simp;omega)
  rw[this]
  unfold valsO
  simp[List.map_flatMap,Function.comp_def]
 have test:∀ (f:Nat→Nat→Option Int) (s:Nat),0 < s→s≤8→((sq (.lst ((valsO f s s).map oD))).bind fun xs1=>cFil (fun A5=>(asB ((dIx (.lst ((valsO f s s).map oD)) (.int 0)).bind fun x1=>dNf A5 x1))) (fun A5=>.ok A5) xs1).bind (fun x2=>dEq x2 (.lst []))=.ok (.bl (decide (∀ v∈valsO f s s,v=f 0 0)))∧dIx (.lst ((valsO f s s).map oD)) (.int 0)=.ok (oD (f 0 0)):=fun f s h0 h8=>by
  have h64:s*s≤64:=Nat.mul_le_mul h8 h8
  have hl:=vm f s s
  obtain⟨r,hr⟩:=sy (f:=f) h0 h0
  have e0:dIx (.lst ((valsO f s s).map oD)) (.int 0)=.ok (oD (f 0 0)):=ixL (i:=0) (by rw[hr];rfl)
  refine⟨?_,e0⟩
  have e1:=cx (xs:=(valsO f s s).map oD) (by simp;omega)
  have e2:cFil (fun A5=>(asB ((dIx (.lst ((valsO f s s).map oD)) (.int 0)).bind fun x1=>dNf A5 x1))) (fun A5=>.ok A5) ((valsO f s s).map oD)=.ok (.lst (((valsO f s s).filter fun v=>!decide (v=f 0 0)).map oD)):=fR oD oD (fun v=>!decide (v=f 0 0)) fun v _=>⟨by
   rw[e0,R.bind_ok,qu (En.opt.gd _ _) (En.opt.gd _ _),En.opt.eq];rfl,fun _=>rfl⟩
  rw[e1,R.bind_ok,e2,R.bind_ok,fc (by rw[good];exact qS _ _) rfl]
  congr 2
  cases hx:(valsO f s s).filter fun v=>!decide (v=f 0 0) with
  | nil =>
   have:∀ v∈valsO f s s,v=f 0 0:=fun v hv=>by
    have:=List.filter_eq_nil_iff.1 hx v hv
    simpa using this
   rw[decide_eq_true this];rfl
  | cons a l =>
   have ha:a∈(valsO f s s).filter fun v=>!decide (v=f 0 0):=by rw[hx];simp
   have ha:=List.mem_filter.1 ha
   have:¬ ∀ v∈valsO f s s,v=f 0 0:=fun h=>by have:=h a ha.1;simp[this]at ha
   rw[decide_eq_false this];rfl
 intro n
 induction n with
 | zero =>
  intro f k _ hk
  obtain⟨k,rfl,hk⟩:=ex1 (show 0+1≤k by omega)
  have hf:=flat f 1 (pf k) (by decide)
  obtain⟨t1,t2⟩:=test f 1 (by decide) (by decide)
  have ha:∀ v∈valsO f 1 1,v=f 0 0:=fun v hv=>by
   obtain⟨x,y,hx,hy,rfl⟩:=kh.1 hv
   rw[show x=0 by omega,show y=0 by omega]
  rw[decide_eq_true ha]at t1
  simp only[t2,R.bind_ok]at t1
  rw[gC,bY]
  unfold rowsL
  rw[show (2^0:Nat)=1 from rfl,cx (by simp),bF,hf]
  simp only[STP,if_true,if_false,ite_true,ite_false,reduceIte,reduceCtorEq,t1,t2]
  rfl
 | succ n ih =>
  intro f k h3 hk
  obtain⟨k,rfl,hk⟩:=ex1 (show n+1+1≤k by omega)
  have h8:=p8 h3
  have hp:=pos2 (n+1)
  have hq:=pos2 n
  have hd:=bv n
  have hf:=flat f (2^(n+1)) (pf k) h8
  obtain⟨t1,t2⟩:=test f (2^(n+1)) hp h8
  have hsq:sq (rowsL oD f (2^(n+1)) (2^(n+1)))=.ok ((List.range (2^(n+1))).map fun y=>rowL oD f (2^(n+1)) y):=cx (by simp;omega)
  have hln:dLen [rowsL oD f (2^(n+1)) (2^(n+1))]=.ok (.int ((2^(n+1):Nat):Int)):=by unfold rowsL;simp
  rw[gC,bY]
  by_cases hall:∀ x y,x < 2^(n+1)→y < 2^(n+1)→f x y=f 0 0
  ·have h3:T f (n+1)=.lf (f 0 0):=(aH _ _ _ hall).trans (fQ _ _)
   have ha:∀ v∈valsO f (2^(n+1)) (2^(n+1)),v=f 0 0:=fun v hv=>by
    obtain⟨x,y,hx,hy,rfl⟩:=kh.1 hv
    exact hall x y hx hy
   rw[decide_eq_true ha]at t1
   simp only[t2,R.bind_ok]at t1
   simp only[STP,if_true,if_false,ite_true,ite_false,reduceIte,reduceCtorEq,hsq,hf,t1,t2,h3,Q.d]
  ·have ha:¬ ∀ v∈valsO f (2^(n+1)) (2^(n+1)),v=f 0 0:=fun h=>hall fun x y hx hy=>h _ (kh.2 ⟨x,y,hx,hy,rfl⟩)
   rw[decide_eq_false ha]at t1
   simp only[t2,R.bind_ok]at t1
   have one:∀ (tp lf:Nat) (parts:List D),tp+2^n≤2^(n+1)→lf+2^n≤2^(n+1)→parts.length≤10→cH (pf k) (rowsL oD f (2^(n+1)) (2^(n+1))) (.int ((2^n:Nat):Int)) (.int (tp:Int)) parts (.int (lf:Int))=.nx (parts++[(T (sh f lf tp) n).d oD]):=fun tp lf parts htp hlf hpa=>by
    have c1:(tp:Int)+((2^n:Nat):Int)=((tp+2^n:Nat):Int):=by omega
    have c2:(lf:Int)+((2^n:Nat):Int)=((lf+2^n:Nat):Int):=by omega
    have ai:∀ i:Int,asI (.int i)=.ok (some i):=fun _=>rfl
    have s1:dSw (rowsL oD f (2^(n+1)) (2^(n+1))) (some (tp:Int)) (some ((tp+2^n:Nat):Int))=.ok (.lst ((List.range (2^n)).map fun i=>rowL oD f (2^(n+1)) (tp+i))):=by
     unfold rowsL
     show R.ok (D.lst (cutD _ _ _))=_
     rw[ie htp]
    have s2:sq (.lst ((List.range (2^n)).map fun i=>rowL oD f (2^(n+1)) (tp+i)))=.ok ((List.range (2^n)).map fun i=>rowL oD f (2^(n+1)) (tp+i)):=cx (by simp;omega)
    have s3:cMap (fun Bo=>dSw Bo (some (lf:Int)) (some ((lf+2^n:Nat):Int))) ((List.range (2^n)).map fun i=>rowL oD f (2^(n+1)) (tp+i))=.ok (rowsL oD (sh f lf tp) (2^n) (2^n)):=by
     refine(cy _ (fun i=>rowL oD (sh f lf tp) (2^n) i) fun i hi=>?_).trans rfl
     unfold rowL
     show R.ok (D.lst (cutD _ _ _))=_
     rw[ie (g:=fun x=>oD (f x (tp+i))) hlf]
     unfold sh
     congr 2
     exact List.map_congr_left fun x _=>by rw[Nat.add_comm lf x,Nat.add_comm tp i]
    have s4:=ih (sh f lf tp) k (by omega) (by omega)
    unfold cH
    simp only[STP,if_true,if_false,ite_true,ite_false,reduceIte,reduceCtorEq,OPP,ai,c1,c2,s1,s2,s3,s4]
    rw[o3 (by omega)]
    rfl
   have pair:∀ (tp:Nat) (parts:List D),tp+2^n≤2^(n+1)→parts.length≤5→cI (pf k) (rowsL oD f (2^(n+1)) (2^(n+1))) (.int ((2^n:Nat):Int)) parts (.int (tp:Int))=.nx (parts++[(T (sh f 0 tp) n).d oD,(T (sh f (2^n) tp) n).d oD]):=fun tp parts htp hpa=>by
    have h0:=one tp 0 parts htp (by omega) (by omega)
    have h1:=one tp (2^n) (parts++[(T (sh f 0 tp) n).d oD]) htp (by omega) (by simp;omega)
    have hs2:sq (.tup [(.int 0),(.int ((2^n:Nat):Int))])=.ok [.int 0,.int ((2^n:Nat):Int)]:=rfl
    rw[show ((0:Nat):Int)=0 from rfl]at h0
    unfold cI
    simp only[STP,if_true,if_false,ite_true,ite_false,reduceIte,reduceCtorEq,hs2,aX,eN,h0,h1,List.append_assoc,List.cons_append,List.nil_append]
   have p0:=pair 0 [] (by omega) (by simp)
   have p1:=pair (2^n) [(T (sh f 0 0) n).d oD,(T (sh f (2^n) 0) n).d oD] (by omega) (by simp)
   have hs2:sq (.tup [(.int 0),(.int ((2^n:Nat):Int))])=.ok [.int 0,.int ((2^n:Nat):Int)]:=rfl
   rw[show ((0:Nat):Int)=0 from rfl]at p0
   rw[T_nd hall]
   simp only[STP,if_true,if_false,ite_true,ite_false,reduceIte,reduceCtorEq,hsq,hf,t1,t2,hln,tF,hs2,aX,eN,p0,List.nil_append,p1,List.cons_append,Q.d,fS]
   rfl
theorem sB {w:Nat}(hw:w≤1000):∀ (n m:Nat) (s:Int) (d:D),th w n d=true→n+1≤m→n≤50→pf m F.ag [d,.int s]=.ok (.bl (treeOk inSet n s d)):=by
 have flat:∀ (n m:Nat) (s:Int) (d:D),th w n d=true→isTup d=false→1≤m→pf m F.ag [d,.int s]=.ok (.bl (treeOk inSet n s d)):=fun n m s d h ht hm=>by
  obtain⟨m,rfl,hm⟩:=ex1 hm
  have e:treeOk inSet n s d=inSet d:=by cases n<;>cases d<;>first | rfl | (cases ht;done)
  rw[da,aZ,e]
  cases d with
  | int i =>
   have i1:dIs (.int i) .non=.ok (.bl false):=rfl
   have i2:asB (dIsA qInt (.int i))=.ok true:=rfl
   have i3:asB (dIsA qBool (.int i))=.ok false:=rfl
   have i4:dIsA qTup (.int i)=.ok (.bl false):=rfl
   simp only[STP,if_true,if_false,ite_true,ite_false,reduceIte,reduceCtorEq,i1,i2,i3,i4,qv,inSet,inTo]
   by_cases h0:(0:Int)≤i<;>by_cases h9:i≤9<;>simp[h0,h9]
  | tup _=>cases ht
  | exc _=>cases n<;>simp[th]at h
  | fn _=>cases n<;>simp[th]at h
  | _=>rfl
 intro n
 induction n with
 | zero=>intro m s d h hm _;exact flat 0 m s d h (by cases d<;>first | rfl | (simp[th]at h)) hm
 | succ n ih =>
  intro m s d h hm hn
  by_cases ht:isTup d=true
  ·cases d with
   | tup xs =>
    have hh:=bn.mp h
    obtain⟨m,rfl,hm⟩:=ex1 hm
    have hc:cFil (fun Bc=>(rNot (asB ((dSub (.int s) (.int 1)).bind fun x1=>pf m F.ag [Bc,x1])))) (fun Bc=>.ok Bc) xs=.ok (.lst (xs.filter fun d=>!treeOk inSet n (s - 1) d)):=by
     have:=fR (c:=fun Bc=>(rNot (asB ((dSub (.int s) (.int 1)).bind fun x1=>pf m F.ag [Bc,x1])))) (e:=fun Bc=>.ok Bc) (l:=xs) (fun d=>d) (fun d=>d) (fun d=>!treeOk inSet n (s - 1) d) fun d hd=>⟨by
      rw[e9,R.bind_ok,ih m (s - 1) d (hh.2 d hd) (by omega) (by omega)]
      rfl,fun _=>rfl⟩
     rw[List.map_id',List.map_id']at this
     exact this
    have he:dEq (.lst (xs.filter fun d=>!treeOk inSet n (s - 1) d)) (.lst [])=.ok (.bl (xs.all (treeOk inSet n (s - 1)))):=by
     unfold dEq
     rw[if_pos ⟨by
      rw[good]
      exact cA fun d hd=>cB (kR (hh.2 d (List.mem_filter.mp hd).1)) (by omega),rfl⟩]
     cases hx:xs.filter fun d=>!treeOk inSet n (s - 1) d with
     | nil =>
      have:xs.all (treeOk inSet n (s - 1))=true:=by
       rw[List.all_eq_true]
       intro d hd
       have:=List.filter_eq_nil_iff.mp hx d hd
       simpa using this
      rw[this]
      rfl
     | cons a l =>
      have ha:a∈xs.filter fun d=>!treeOk inSet n (s - 1) d:=by rw[hx];simp
      have:=List.mem_filter.mp ha
      have:xs.all (treeOk inSet n (s - 1))=false:=by
       rw[List.all_eq_false]
       exact⟨a,this.1,by simpa using this.2⟩
      rw[this]
      rfl
    have h0:dIs (.tup xs) .non=.ok (.bl false):=rfl
    have hi:asB (dIsA qInt (.tup xs))=.ok false:=rfl
    rw[da,aZ]
    simp only[h0,hi,cj,STP,if_true,if_false,ite_true,ite_false,reduceIte,reduceCtorEq,e8,dm,d5,eG (show xs.length≤16777216 by have:=hh.1;omega),hc,he,treeOk]
    by_cases h0:s=0
    ·by_cases h4:(xs.length:Int)=4<;>simp[h0,h4]
    ·by_cases h4:xs.length=4
     ·simp[h0,h4]
     ·have h4':¬ ((xs.length:Int)=4):=by omega
      simp[h0,h4,h4']
   | _=>cases ht
  ·exact flat (n+1) m s d h (by simpa using ht) (by omega)
theorem nU {w:Nat}(hw:w≤1000){n m:Nat}{d:D}(h:th w (n+1) d=true)(hm:n+2≤m)(hn:n≤50):pf m F.a1 [d]=.ok (.bl (sizedOk inSet n d)):=by
 obtain⟨m,rfl,hm⟩:=ex1 hm
 rw[lE,cO]
 by_cases ht:isTup d=true
 ·cases d with
  | tup xs =>
   have hh:=bn.mp h
   by_cases h2:xs.length=2
   ·match xs,h2 with
    | [a,b],_ =>
     have ha:=hh.2 a (by simp)
     have hb:=hh.2 b (by simp)
     have l2:asB ((dLen [.tup [a,b]]).bind fun x2=>dNf x2 (.int 2))=.ok false:=rfl
     cases a with
     | int v =>
      have ht:=sB hw n m v b hb (by omega) hn
      have hi:(rNot (asB (dIsA qInt (.int v))))=.ok false:=rfl
      have hj:(asB (dIsA qBool (.int v)))=.ok false:=rfl
      simp only[cj,STP,if_true,if_false,ite_true,ite_false,reduceIte,reduceCtorEq,l2,ix20,ix21,hi,hj,ht,sizedOk,inTo,rCh,kP]
      by_cases c0:(0:Int)≤v
      ·by_cases c1:v≤3<;>simp[c0,c1]
      ·simp[c0]
     | exc _=>cases n<;>simp[th]at ha
     | fn _=>cases n<;>simp[th]at ha
     | _=>rfl
   ·have h2':¬ ((xs.length:Int)=2):=by omega
    have e:sizedOk inSet n (.tup xs)=false:=by
     match xs,h2 with
     | [],_=>rfl
     | [_],_=>rfl
     | _::_::_::_,_=>rfl
    simp[h2',e]
  | _=>cases ht
 ·have ht':isTup d=false:=by simpa using ht
  rw[bg ht' (ss h)]
  have e:sizedOk inSet n d=false:=by cases d<;>first | rfl | (cases ht';done)
  simp[e]
theorem Cg.th {sz:Nat}{t:Q (Option Int)}(p:Cg sz t):th 5 4 (chD sz t)=true:=by
 have hq:∀ (n:Nat) (t:Q (Option Int)),t.dep≤n→Lw.th 5 n (t.d oD)=true:=by
  intro n
  induction n with
  | zero=>intro t h;cases t with
   | lf a=>cases a<;>rfl
   | nd a b c d=>rw[Q.dep]at h;omega
  | succ n ih=>intro t h;cases t with
   | lf a=>cases a<;>rfl
   | nd a b c d =>
    rw[Q.dep]at h
    refine bn.mpr ⟨by show 4≤5;decide,fun x hx=>?_⟩
    simp only[List.mem_cons,List.not_mem_nil,or_false]at hx
    rcases hx with rfl | rfl | rfl | rfl
    ·exact ih a (by omega)
    ·exact ih b (by omega)
    ·exact ih c (by omega)
    ·exact ih d (by omega)
 refine bn.mpr ⟨by show 2≤5;decide,fun x hx=>?_⟩
 simp only[List.mem_cons,List.not_mem_nil,or_false]at hx
 rcases hx with rfl | rfl
 ·rfl
 ·exact hq 3 t (by have:=p.dep;have:=p.h3;omega)
theorem word7 {m:Nat}(hm:1≤m):pf m F.aV [.exc 7]=.ok (.str "no change"):=by
 obtain⟨m,rfl,hm⟩:=ex1 hm
 rw[jR,eW]
 rfl
theorem sC {w:Nat}(hw:w≤1000){n m:Nat}{d:D}(h:th w n d=true)(hm:n+7≤m)(c:sizedOk inSet n d=false):pf m F.ae [d]=.err 7:=by
 have e:=mj (n:=m) (m:=n) (kR h) (tG hw _ h) (by omega)
 rw[c]at e;exact e
theorem qT (ns:List Int):∀ (s k n:Nat),s+3≤n→∃ t:Q (Option Int),t.dep≤s∧t.All S9∧pf n F.ab [scr ns,.int (k:Int),.int (s:Int)]=.ok (t.d oD):=by
 intro s
 induction s with
 | zero =>
  intro k n hn
  obtain⟨n,rfl,hn⟩:=ex1 (show 2+1≤n by omega)
  have p1:=fT (n:=n) (by omega) ns k (m:=6) (by decide)
  have p2:=d6 (n:=n) (by omega) ns (k+1) (a:=(k:Int)+1) (m:=10) (by omega) (by decide)
  have p3:=d6 (n:=n) (by omega) ns (k+2) (a:=(k:Int)+2) (m:=4) (by omega) (by decide)
  obtain⟨v,hv,ev⟩:∃ v,W9 v∧dIx (.lst [.int 0,.int 1,.int 2,.int (pk ns (k+1) 10)]) (.int (pk ns (k+2) 4))=.ok (.int v):=by
   have a:=iB (ns:=ns) (k:=k+2) (m:=4) (by decide);have b:=iC (ns:=ns) (k:=k+2) (m:=4) (by decide)
   have c:=iB (ns:=ns) (k:=k+1) (m:=10) (by decide);have d:=iC (ns:=ns) (k:=k+1) (m:=10) (by decide)
   generalize pk ns (k+2) 4=q at *
   have:q=0∨q=1∨q=2∨q=3:=by omega
   rcases this with rfl | rfl | rfl | rfl
   ·exact⟨0,⟨by decide,by decide⟩,rfl⟩
   ·exact⟨1,⟨by decide,by decide⟩,rfl⟩
   ·exact⟨2,⟨by decide,by decide⟩,rfl⟩
   ·exact⟨_,⟨c,by omega⟩,rfl⟩
  generalize pk ns k 6=w at *
  rw[eY,bz]
  simp only[STP,if_true,if_false,ite_true,ite_false,reduceIte,reduceCtorEq,OPP,p1,p2,p3,ev,show ((0:Nat):Int)=0 from rfl,decide_true]
  by_cases h2:w < 2
  ·exact⟨.lf none,Nat.le_refl _,(fun v hv=>by cases hv),by simp only[decide_eq_true h2,STP,if_true,if_false,ite_true,ite_false,reduceIte,reduceCtorEq];rfl⟩
  ·by_cases h4:w < 4
   ·exact⟨.lf none,Nat.le_refl _,(fun v hv=>by cases hv),by simp only[decide_eq_false h2,decide_eq_true h4,STP,if_true,if_false,ite_true,ite_false,reduceIte,reduceCtorEq];rfl⟩
   ·exact⟨.lf (some v),Nat.le_refl _,(fun u hu=>by cases hu;exact hv),by simp only[decide_eq_false h2,decide_eq_false h4,STP,if_true,if_false,ite_true,ite_false,reduceIte,reduceCtorEq];rfl⟩
 | succ s ih =>
  intro k n hn
  obtain⟨n,rfl,hn⟩:=ex1 (show s+3+1≤n by omega)
  have p1:=fT (n:=n) (by omega) ns k (m:=6) (by decide)
  have p2:=d6 (n:=n) (by omega) ns (k+1) (a:=(k:Int)+1) (m:=10) (by omega) (by decide)
  have p3:=d6 (n:=n) (by omega) ns (k+2) (a:=(k:Int)+2) (m:=4) (by omega) (by decide)
  obtain⟨v,hv,ev⟩:∃ v,W9 v∧dIx (.lst [.int 0,.int 1,.int 2,.int (pk ns (k+1) 10)]) (.int (pk ns (k+2) 4))=.ok (.int v):=by
   have a:=iB (ns:=ns) (k:=k+2) (m:=4) (by decide);have b:=iC (ns:=ns) (k:=k+2) (m:=4) (by decide)
   have c:=iB (ns:=ns) (k:=k+1) (m:=10) (by decide);have d:=iC (ns:=ns) (k:=k+1) (m:=10) (by decide)
   generalize pk ns (k+2) 4=q at *
   have:q=0∨q=1∨q=2∨q=3:=by omega
   rcases this with rfl | rfl | rfl | rfl
   ·exact⟨0,⟨by decide,by decide⟩,rfl⟩
   ·exact⟨1,⟨by decide,by decide⟩,rfl⟩
   ·exact⟨2,⟨by decide,by decide⟩,rfl⟩
   ·exact⟨_,⟨c,by omega⟩,rfl⟩
  obtain⟨t0,d0,a0,k0⟩:=ih (5*k+13+11*0) n (by omega)
  obtain⟨t1,d1,a1,k1⟩:=ih (5*k+13+11*1) n (by omega)
  obtain⟨t2,d2,a2,k2⟩:=ih (5*k+13+11*2) n (by omega)
  obtain⟨t3,d3,a3,k3⟩:=ih (5*k+13+11*3) n (by omega)
  have e0:¬ (((s+1:Nat):Int)=0):=by omega
  have e1:((s+1:Nat):Int) - 1=(s:Int):=by omega
  have m5:dMul (.int 5) (.int (k:Int))=.ok (.int (5*(k:Int))):=bp (.inr (by decide))
  have st:∀ (i:Nat) (t:Q (Option Int)),pf n F.ab [scr ns,.int ((5*k+13+11*i:Nat):Int),.int (s:Int)]=.ok (t.d oD)→((((dMul (.int 5) (.int (k:Int))).bind fun x5=>dAdd x5 (.int 13)).bind fun x6=>(dMul (.int 11) (.int (i:Int))).bind fun x7=>dAdd x6 x7).bind fun x8=>(dSub (.int ((s+1:Nat):Int)) (.int 1)).bind fun x9=>pf n F.ab [scr ns,x8,x9])=.ok (t.d oD):=fun i t h=>by
   have m11:dMul (.int 11) (.int (i:Int))=.ok (.int (11*(i:Int))):=bp (.inr (by decide))
   simp only[m5,m11,STP,if_true,if_false,ite_true,ite_false,reduceIte,reduceCtorEq,OPP,e1]
   rw[show (5*(k:Int)+13+11*(i:Int))=((5*k+13+11*i:Nat):Int) by omega];exact h
  have M:cMap (fun Bb=>(((dMul (.int 5) (.int (k:Int))).bind fun x5=>dAdd x5 (.int 13)).bind fun x6=>(dMul (.int 11) Bb).bind fun x7=>dAdd x6 x7).bind fun x8=>(dSub (.int ((s+1:Nat):Int)) (.int 1)).bind fun x9=>pf n F.ab [scr ns,x8,x9]) [.int 0,.int 1,.int 2,.int 3]=.ok (.lst [t0.d oD,t1.d oD,t2.d oD,t3.d oD]):=cMap4 (e:=fun Bb=>(((dMul (.int 5) (.int (k:Int))).bind fun x5=>dAdd x5 (.int 13)).bind fun x6=>(dMul (.int 11) Bb).bind fun x7=>dAdd x6 x7).bind fun x8=>(dSub (.int ((s+1:Nat):Int)) (.int 1)).bind fun x9=>pf n F.ab [scr ns,x8,x9]) (st 0 t0 k0) (st 1 t1 k1) (st 2 t2 k2) (st 3 t3 k3)
  generalize pk ns k 6=w at *
  rw[eY,bz,rng4,R.bind_ok,M]
  simp only[STP,if_true,if_false,ite_true,ite_false,reduceIte,reduceCtorEq,OPP,p1,p2,p3,ev,decide_eq_false e0]
  by_cases h2:w < 2
  ·exact⟨.lf none,Nat.zero_le _,(fun v hv=>by cases hv),by simp only[decide_eq_true h2,STP,if_true,if_false,ite_true,ite_false,reduceIte,reduceCtorEq];rfl⟩
  ·by_cases h4:w=2
   ·exact⟨.lf (some v),Nat.zero_le _,(fun u hu=>by cases hu;exact hv),by simp only[decide_eq_false h2,decide_eq_true h4,STP,if_true,if_false,ite_true,ite_false,reduceIte,reduceCtorEq];rfl⟩
   ·exact⟨.nd t0 t1 t2 t3,by simp only[Q.dep];omega,⟨a0,a1,a2,a3⟩,by simp only[decide_eq_false h2,decide_eq_false h4,STP,if_true,if_false,ite_true,ite_false,reduceIte,reduceCtorEq];rfl⟩
end Lw
end
section
namespace Lw
open PySem FF
def cntN (p:Nat→Nat→Bool)(w k:Nat):Nat:=((List.range k).map fun y=>((List.range w).filter fun x=>p x y).length).sum
theorem bR {p q:Nat→Nat→Bool}{w k:Nat}(h:∀ x y,x < w→y < k→p x y=q x y):cntN p w k=cntN q w k:=by
 unfold cntN
 congr 1
 refine List.map_congr_left fun y hy=>?_
 congr 1
 exact List.filter_congr fun x hx=>h x y (List.mem_range.1 hx) (List.mem_range.1 hy)
theorem Ao {l:List Nat}{f g:Nat→Nat}(h:∀ y∈l,f y≤g y):(l.map f).sum≤(l.map g).sum:=by
 induction l with
 | nil=>exact Nat.le_refl _
 | cons a l ih =>
  simp only[List.map_cons,List.sum_cons]
  have:=h a (.head _);have:=ih fun y hy=>h y (.tail _ hy)
  omega
theorem vn {l:List Nat}{p q:Nat→Bool}(h:∀ x∈l,p x=true→q x=true):(l.filter p).length≤(l.filter q).length:=by
 induction l with
 | nil=>exact Nat.le_refl _
 | cons a l ih =>
  have ih:=ih fun x hx=>h x (.tail _ hx)
  have ha:=h a (.head _)
  simp only[List.filter_cons]
  cases hp:p a with
  | false=>cases q a<;>simp<;>omega
  | true=>rw[ha hp];simp;omega
theorem qU {p q:Nat→Nat→Bool}{w k:Nat}(h:∀ x y,x < w→y < k→p x y=true→q x y=true):cntN p w k≤cntN q w k:=by
 unfold cntN
 exact Ao fun y hy=>vn fun x hx=>h x y (List.mem_range.1 hx) (List.mem_range.1 hy)
theorem xl (p:Nat→Nat→Bool)(w a b:Nat):cntN p w (a+b)=cntN p w a+cntN (sh p 0 a) w b:=by
 unfold cntN
 rw[List.range_add,List.map_append,List.sum_append,List.map_map]
 congr 3
 funext y
 simp only[Function.comp,sh,Nat.add_zero,Nat.add_comm a y]
theorem ml (p:Nat→Nat→Bool)(a b k:Nat):cntN p (a+b) k=cntN p a k+cntN (sh p a 0) b k:=by
 unfold cntN
 induction List.range k with
 | nil=>rfl
 | cons y l ih =>
  simp only[List.map_cons,List.sum_cons,ih]
  have:((List.range (a+b)).filter fun x=>p x y).length=((List.range a).filter fun x=>p x y).length+((List.range b).filter fun x=>sh p a 0 x y).length:=by
   rw[List.range_add,List.filter_append,List.length_append,List.filter_map,List.length_map]
   congr 2
   exact List.filter_congr fun x _=>by simp only[Function.comp,sh,Nat.add_zero,Nat.add_comm a x]
  omega
theorem xm (p:Nat→Nat→Bool)(h:Nat):cntN p (h+h) (h+h)=cntN p h h+cntN (sh p h 0) h h+(cntN (sh p 0 h) h h+cntN (sh p h h) h h):=by
 rw[xl,ml,ml]
 have:sh (sh p 0 h) h 0=sh p h h:=by funext x y;simp[sh]
 rw[this]
theorem tK (w k:Nat):cntN (fun _ _=>true) w k=k*w:=by
 have:(List.range w).filter (fun _=>true)=List.range w:=List.filter_eq_self.2 fun _ _=>rfl
 unfold cntN;simp[List.map_const',List.sum_replicate_nat,this]
theorem xn (w k:Nat):cntN (fun _ _=>false) w k=0:=by
 have:(List.range w).filter (fun _=>false)=[]:=List.filter_eq_nil_iff.2 fun _ _=>by simp
 unfold cntN;simp[List.map_const',List.sum_replicate_nat,this]
theorem Ap (p:Nat→Nat→Bool)(w k:Nat):cntN p w k≤k*w:=by rw[← tK w k];exact qU fun _ _ _ _ _=>rfl
structure BkO where
 l:Nat
 t:Nat
 w:Nat
 v:Option Int
def BkO.d (b:BkO):D:=.tup [.int (b.l:Int),.int (b.t:Int),.int (b.w:Int),oD b.v]
def bko:Nat→Q (Option Int)→Nat→Nat→List BkO
 | n,.lf v,l,t=>[⟨l,t,2^n,v⟩]
 | 0,.nd _ _ _ _,_,_=>[]
 | n+1,.nd a b c d,l,t=>bko n a l t++(bko n b (l+2^n) t++(bko n c l (t+2^n)++bko n d (l+2^n) (t+2^n)))
theorem mm (n:Nat)(v:Option Int)(l t:Nat):bko n (.lf v) l t=[⟨l,t,2^n,v⟩]:=by cases n<;>rfl
theorem cC:∀ (n:Nat) (q:Q (Option Int)) (l t:Nat),(bko n q l t).length≤4^n
 | n,.lf v,l,t=>by rw[mm];exact Nat.one_le_pow _ _ (by decide)
 | 0,.nd _ _ _ _,_,_=>by simp[bko]
 | n+1,.nd a b c d,l,t=>by
  have h1:=cC n a l t;have h2:=cC n b (l+2^n) t;have h3:=cC n c l (t+2^n);have h4:=cC n d (l+2^n) (t+2^n)
  simp only[bko,List.length_append];rw[Nat.pow_succ];omega
theorem nV {σ:Type}(a b:D)(k:D→D→L σ):lUn2 (.tup [a,b]) k=k a b:=rfl
theorem enum4' (a b c d:D):dEnum (.tup [a,b,c,d])=.ok [.tup [.int 0,a],.tup [.int 1,b],.tup [.int 2,c],.tup [.int 3,d]]:=by
 unfold dEnum;rw[sq4];rfl
theorem xo (v:Option Int):dIsA qTup (oD v)=.ok (.bl false):=bg (En.opt.tup v) (bq (En.opt.gd 0 v))
theorem dP:∀ (n:Nat) (q:Q (Option Int)) (l t:Nat) (k:Nat),n≤3→q.dep≤n→n+1≤k→pf k F.aK [q.d oD,.int (l:Int),.int (t:Int),.int ((2^n:Nat):Int)]=.ok (.lst ((bko n q l t).map BkO.d))
 | n,.lf v,l,t,k+1,_,_,_=>by
  rw[jm,cQ,show Q.d oD (.lf v)=oD v from rfl,mm];simp only[STP,if_true,if_false,ite_true,ite_false,reduceIte,reduceCtorEq,xo];rfl
 | n,.lf v,l,t,0,_,_,h=>by omega
 | 0,.nd _ _ _ _,_,_,_,_,h,_=>by simp[Q.dep]at h
 | n+1,.nd a b c d,l,t,k,h3,hd,hk=>by
  obtain⟨k,rfl⟩:∃ j,k=j+1:=⟨k - 1,by omega⟩
  have hd':a.dep≤n∧b.dep≤n∧c.dep≤n∧d.dep≤n:=by simp only[Q.dep]at hd;omega
  have e2:((2^(n+1):Nat):Int)/2=((2^n:Nat):Int):=by rw[bv];omega
  have hlt:((2^n:Nat):Int) < 2^64:=by
   have:n=0∨n=1∨n=2:=by omega
   rcases this with h | h | h<;>subst h<;>decide
  have A:=dP n a l t k (by omega) hd'.1 (by omega)
  have B:=dP n b (l+2^n) t k (by omega) hd'.2.1 (by omega)
  have C:=dP n c l (t+2^n) k (by omega) hd'.2.2.1 (by omega)
  have E:=dP n d (l+2^n) (t+2^n) k (by omega) hd'.2.2.2 (by omega)
  have lA:=cC n a l t;have lB':=cC n b (l+2^n) t;have lC:=cC n c l (t+2^n);have lD:=cC n d (l+2^n) (t+2^n)
  have l64:4^n≤16:=by
   have:n=0∨n=1∨n=2:=by omega
   rcases this with h | h | h<;>subst h<;>decide
  have hp:0≤((2^n:Nat):Int):=Int.natCast_nonneg _
  have m0:dMul (.int 0) (.int ((2^n:Nat):Int))=.ok (.int 0):=by rw[bp (.inr (by omega))];simp
  have m1:dMul (.int 1) (.int ((2^n:Nat):Int))=.ok (.int ((2^n:Nat):Int)):=by rw[bp (.inr (by omega))];simp
  rw[Int.natCast_add]at B C E
  rw[Int.natCast_add]at E
  rw[jm,cQ,show Q.d oD (.nd a b c d)=.tup [a.d oD,b.d oD,c.d oD,d.d oD] from rfl]
  simp only[STP,if_true,if_false,ite_true,ite_false,reduceIte,reduceCtorEq,OPP,jz (show (0:Int) < 2 by decide) (by decide),e2,enum4',lFor,nV,gq,cX (show (0:Int) < 2 by decide),show (0:Int)%2=0 from rfl,show (1:Int)%2=1 from rfl,show (2:Int)%2=0 from rfl,show (3:Int)%2=1 from rfl,show (0:Int)/2=0 from rfl,show (1:Int)/2=0 from rfl,show (2:Int)/2=1 from rfl,show (3:Int)/2=1 from rfl,m0,m1,Int.add_zero,A,B,C,E]
  rw[bC (by simp;omega)]
  simp only[STP,if_true,if_false,ite_true,ite_false,reduceIte,reduceCtorEq]
  rw[bC (by simp;omega)]
  simp only[STP,if_true,if_false,ite_true,ite_false,reduceIte,reduceCtorEq]
  rw[bC (by simp;omega)]
  simp only[STP,if_true,if_false,ite_true,ite_false,reduceIte,reduceCtorEq]
  rw[bC (by simp;omega)]
  simp only[STP,if_true,if_false,ite_true,ite_false,reduceIte,reduceCtorEq]
  rw[bko]
  simp only[List.map_append,List.nil_append,List.append_assoc]
def isSet (b:BkO):Bool:=b.v.isSome
theorem mn:∀ (n:Nat) (q:Q (Option Int)) (l t:Nat) (k:Nat),n≤3→q.dep≤n→n+1≤k→pf k F.aM [q.d oD,.int (l:Int),.int (t:Int),.int ((2^n:Nat):Int)]=.ok (.lst (((bko n q l t).filter isSet).map BkO.d))
 | n,.lf v,l,t,k+1,_,_,_=>by
  rw[jr,cW,show Q.d oD (.lf v)=oD v from rfl,mm]
  cases v with
  | none=>rfl
  | some v=>rfl
 | n,.lf v,l,t,0,_,_,h=>by omega
 | 0,.nd _ _ _ _,_,_,_,_,h,_=>by simp[Q.dep]at h
 | n+1,.nd a b c d,l,t,k,h3,hd,hk=>by
  obtain⟨k,rfl⟩:∃ j,k=j+1:=⟨k - 1,by omega⟩
  have hd':a.dep≤n∧b.dep≤n∧c.dep≤n∧d.dep≤n:=by simp only[Q.dep]at hd;omega
  have e2:((2^(n+1):Nat):Int)/2=((2^n:Nat):Int):=by rw[bv];omega
  have hlt:((2^n:Nat):Int) < 2^64:=by
   have:n=0∨n=1∨n=2:=by omega
   rcases this with h | h | h<;>subst h<;>decide
  have A:=mn n a l t k (by omega) hd'.1 (by omega)
  have B:=mn n b (l+2^n) t k (by omega) hd'.2.1 (by omega)
  have C:=mn n c l (t+2^n) k (by omega) hd'.2.2.1 (by omega)
  have E:=mn n d (l+2^n) (t+2^n) k (by omega) hd'.2.2.2 (by omega)
  have l64:4^n≤16:=by
   have:n=0∨n=1∨n=2:=by omega
   rcases this with h | h | h<;>subst h<;>decide
  have le:∀ q l t,((bko n q l t).filter isSet).length≤16:=fun q l t=>by have:=List.length_filter_le isSet (bko n q l t);have:=cC n q l t;omega
  have lA:=le a l t;have lB':=le b (l+2^n) t;have lC:=le c l (t+2^n);have lD:=le d (l+2^n) (t+2^n)
  have hp:0≤((2^n:Nat):Int):=Int.natCast_nonneg _
  have m0:dMul (.int 0) (.int ((2^n:Nat):Int))=.ok (.int 0):=by rw[bp (.inr (by omega))];simp
  have m1:dMul (.int 1) (.int ((2^n:Nat):Int))=.ok (.int ((2^n:Nat):Int)):=by rw[bp (.inr (by omega))];simp
  have i0:dIs (.tup [a.d oD,b.d oD,c.d oD,d.d oD]) .non=.ok (.bl false):=rfl
  rw[Int.natCast_add]at B C E
  rw[Int.natCast_add]at E
  rw[jr,cW,show Q.d oD (.nd a b c d)=.tup [a.d oD,b.d oD,c.d oD,d.d oD] from rfl]
  simp only[STP,if_true,if_false,ite_true,ite_false,reduceIte,reduceCtorEq,OPP,i0,jz (show (0:Int) < 2 by decide) (by decide),e2,enum4',lFor,nV,gw,cX (show (0:Int) < 2 by decide),show (0:Int)%2=0 from rfl,show (1:Int)%2=1 from rfl,show (2:Int)%2=0 from rfl,show (3:Int)%2=1 from rfl,show (0:Int)/2=0 from rfl,show (1:Int)/2=0 from rfl,show (2:Int)/2=1 from rfl,show (3:Int)/2=1 from rfl,m0,m1,Int.add_zero,A,B,C,E]
  rw[bC (by simp only[List.length_map,List.length_nil];omega)]
  simp only[STP,if_true,if_false,ite_true,ite_false,reduceIte,reduceCtorEq]
  rw[bC (by simp only[List.length_map,List.length_nil,List.length_append];omega)]
  simp only[STP,if_true,if_false,ite_true,ite_false,reduceIte,reduceCtorEq]
  rw[bC (by simp only[List.length_map,List.length_nil,List.length_append];omega)]
  simp only[STP,if_true,if_false,ite_true,ite_false,reduceIte,reduceCtorEq]
  rw[bC (by simp only[List.length_map,List.length_nil,List.length_append];omega)]
  simp only[STP,if_true,if_false,ite_true,ite_false,reduceIte,reduceCtorEq]
  rw[bko]
  simp only[List.filter_append,List.map_append,List.nil_append,List.append_assoc]
def sumSq (l:List BkO):Nat:=(l.map fun b=>b.w*b.w).sum
theorem g9:∀ (n:Nat) (q:Q (Option Int)) (l t:Nat),q.dep≤n→sumSq ((bko n q l t).filter isSet)=cntN (fun x y=>(q.at n x y).isSome) (2^n) (2^n)
 | n,.lf v,l,t,_=>by
  rw[mm]
  cases v with
  | none =>
   rw[bR (q:=fun _ _=>false) (fun x y _ _=>by rw[dM];rfl),xn];rfl
  | some v =>
   rw[bR (q:=fun _ _=>true) (fun x y _ _=>by rw[dM];rfl),tK];exact Nat.add_zero _
 | 0,.nd _ _ _ _,_,_,h=>by simp[Q.dep]at h
 | n+1,.nd a b c d,l,t,hd=>by
  have hd':a.dep≤n∧b.dep≤n∧c.dep≤n∧d.dep≤n:=by simp only[Q.dep]at hd;omega
  have A:=g9 n a l t hd'.1;have B:=g9 n b (l+2^n) t hd'.2.1;have C:=g9 n c l (t+2^n) hd'.2.2.1;have E:=g9 n d (l+2^n) (t+2^n) hd'.2.2.2
  have ap:∀ u v:List BkO,sumSq (u++v)=sumSq u+sumSq v:=fun u v=>by simp[sumSq]
  rw[bko,List.filter_append,List.filter_append,List.filter_append,ap,ap,ap,A,B,C,E,bv,xm]
  have q:=fun x y (hx:x < 2^n) (hy:y < 2^n)=>jB n (Q.nd a b c d) hx hy
  rw[bR (p:=fun x y=>((Q.nd a b c d).at (n+1) x y).isSome) (q:=fun x y=>(a.at n x y).isSome) (fun x y hx hy=>by rw[(q x y hx hy).1];rfl),
   bR (p:=sh (fun x y=>((Q.nd a b c d).at (n+1) x y).isSome) (2^n) 0) (q:=fun x y=>(b.at n x y).isSome) (fun x y hx hy=>by show ((Q.nd a b c d).at (n+1) (x+2^n) y).isSome=_;rw[(q x y hx hy).2.1];rfl),
   bR (p:=sh (fun x y=>((Q.nd a b c d).at (n+1) x y).isSome) 0 (2^n)) (q:=fun x y=>(c.at n x y).isSome) (fun x y hx hy=>by show ((Q.nd a b c d).at (n+1) x (y+2^n)).isSome=_;rw[(q x y hx hy).2.2.1];rfl),
   bR (p:=sh (fun x y=>((Q.nd a b c d).at (n+1) x y).isSome) (2^n) (2^n)) (q:=fun x y=>(d.at n x y).isSome) (fun x y hx hy=>by show ((Q.nd a b c d).at (n+1) (x+2^n) (y+2^n)).isSome=_;rw[(q x y hx hy).2.2.2];rfl)]
  omega
theorem yU {sz:Nat}(h3:sz≤3)(u:Q (Option Int)){n:Nat}(hn:1≤n):pf n F.aS [chD sz u]=.ok (.int ((2^sz:Nat):Int)):=by
 obtain⟨n,rfl,hn⟩:=ex1 (show 0+1≤n by omega)
 rw[lx,eT]
 unfold chD
 rcases fV h3 with rfl | rfl | rfl | rfl<;>rfl
section
variable {sz:Nat}{g g':Nat→Nat→Int}{c c':Nat→Nat→Option Int}{t t':Q Int}{u u':Q (Option Int)}
def sqs (sz:Nat)(c:Nat→Nat→Option Int):List BkO:=(bko sz (T c sz) 0 0).filter isSet
theorem yV (h3:sz≤3)(c:Nat→Nat→Option Int):(sqs sz c).length≤64:=by
 have h1:=cC sz (T c sz) 0 0
 have h2:=List.length_filter_le isSet (bko sz (T c sz) 0 0)
 have:4^sz≤64:=by rcases fV h3 with rfl | rfl | rfl | rfl<;>decide
 unfold sqs;omega
theorem Sc.squares (q:Sc sz c u){n:Nat}(hn:12≤n):pf n F.ao [chD sz u]=.ok (.lst ((sqs sz c).map BkO.d)):=by
 obtain⟨n,rfl,hn⟩:=ex1 (show 11+1≤n by omega)
 have h3:=q.p.h3
 have e1:=q.lean (n:=n) (by omega)
 have e2:dIx (chD sz (T c sz)) (.int 1)=.ok ((T c sz).d oD):=rfl
 have e3:=yU h3 u (n:=n) (by omega)
 have e4:pf n F.aK [(T c sz).d oD,.int 0,.int 0,.int ((2^sz:Nat):Int)]=_:=dP sz (T c sz) 0 0 n h3 (bZ _ _) (by omega)
 have e5:=cx (xs:=(bko sz (T c sz) 0 0).map BkO.d) (by
  have:=cC sz (T c sz) 0 0
  have:4^sz≤64:=by rcases fV h3 with rfl | rfl | rfl | rfl<;>decide
  simp;omega)
 have e6:cFil (fun square=>(asB ((dIx square (.int 3)).bind fun x3=>dIsNot x3 .non))) (fun square=>.ok square) ((bko sz (T c sz) 0 0).map BkO.d)=.ok (.lst (((bko sz (T c sz) 0 0).filter isSet).map BkO.d)):=fR BkO.d BkO.d isSet fun b _=>⟨by
  show asB (dIsNot (oD b.v) .non)=.ok b.v.isSome
  cases b.v<;>rfl,fun _=>rfl⟩
 rw[gA,bX]
 simp only[STP,if_true,if_false,ite_true,ite_false,reduceIte,reduceCtorEq,e1,e2,e3,e4,e5,e6]
 rfl
theorem tM:∀ l:List BkO,sumI (l.map fun b=>((b.w:Int)*(b.w:Int)))=((sumSq l:Nat):Int)
 | []=>rfl
 | b::l=>by
  rw[List.map_cons,vf,tM l]
  show _=(((b.w*b.w)+sumSq l:Nat):Int)
  rw[Int.natCast_add,Int.natCast_mul]
theorem y9:∀ (n:Nat) (q:Q (Option Int)) (l t:Nat) {b:BkO},b∈bko n q l t→b.w≤2^n
 | n,.lf v,l,t,b,h=>by rw[mm,List.mem_singleton]at h;subst h;exact Nat.le_refl _
 | 0,.nd _ _ _ _,_,_,b,h=>by cases h
 | n+1,.nd a b c d,l,t,k,h=>by
  simp only[bko,List.mem_append]at h
  rw[bv]
  rcases h with h | h | h | h<;>(have:=y9 n _ _ _ h;omega)
theorem vo (a:Nat)(h:a≤8):dMul (.int (a:Int)) (.int (a:Int))=.ok (.int ((a:Int)*(a:Int))):=by
 have:a=0∨a=1∨a=2∨a=3∨a=4∨a=5∨a=6∨a=7∨a=8:=by omega
 rcases this with rfl | rfl | rfl | rfl | rfl | rfl | rfl | rfl | rfl<;>rfl
theorem AU (b:BkO):dIx b.d (.int 2)=.ok (.int (b.w:Int)):=rfl
theorem Aq (l:List BkO)(h:∀ b∈l,b.w≤8):cMap (fun square=>(dIx square (.int 2)).bind fun x1=>(dIx square (.int 2)).bind fun x2=>dMul x1 x2) (l.map BkO.d)=.ok (.lst ((l.map fun b=>((b.w:Int)*(b.w:Int))).map .int)):=by
 have e:=cy (e:=fun square=>(dIx square (.int 2)).bind fun x1=>(dIx square (.int 2)).bind fun x2=>dMul x1 x2) (l:=l) BkO.d (fun b=>D.int ((b.w:Int)*(b.w:Int))) fun b hb=>by
  rw[AU,R.bind_ok,R.bind_ok];exact vo b.w (h b hb)
 have m:(l.map fun b=>((b.w:Int)*(b.w:Int))).map D.int=l.map fun b=>D.int ((b.w:Int)*(b.w:Int)):=by rw[List.map_map];rfl
 rw[m];exact e
theorem Sc.many (q:Sc sz c u){n:Nat}(hn:13≤n):pf n F.aC [chD sz u]=.ok (.int ((cntN (fun x y=>(c x y).isSome) (2^sz) (2^sz):Nat):Int)):=by
 obtain⟨n,rfl,hn⟩:=ex1 (show 12+1≤n by omega)
 have h3:=q.p.h3
 have h8:=p8 h3
 have e1:=q.squares (n:=n) (by omega)
 have e2:=cx (xs:=(sqs sz c).map BkO.d) (by have:=yV h3 c;simp;omega)
 have e3:=Aq (sqs sz c) fun b hb=>Nat.le_trans (y9 _ _ _ _ (List.mem_filter.1 hb).1) h8
 have e5:sumSq (sqs sz c)=cntN (fun x y=>(c x y).isSome) (2^sz) (2^sz):=(g9 sz (T c sz) 0 0 (bZ _ _)).trans (bR fun x y hx hy=>by rw[T_at sz c x y hx hy])
 have e4:=ve ((sqs sz c).map fun b=>((b.w:Int)*(b.w:Int)))
 rw[tM,e5]at e4
 rw[kr,dD]
 simp only[STP,if_true,if_false,ite_true,ite_false,reduceIte,reduceCtorEq,e1,e2,e3,e4]
def both (a b:Option Int):Int:=if a=none∨b=none then 0 else 1
theorem yW:fvL.contains F.ay=true:=by decide
def apartB (sz:Nat)(c c':Nat→Nat→Option Int):Bool:=decide (T (fun x y=>both (c x y) (c' x y)) sz=.lf 0)
theorem ii {sz:Nat}{c c':Nat→Nat→Option Int}:apartB sz c c'=true↔∀ x y,x < 2^sz→y < 2^sz→c x y=none∨c' x y=none:=by
 unfold apartB
 rw[decide_eq_true_iff,← fQ (0:Int) sz,wR]
 constructor
 ·intro h x y hx hy
  have:=h x y hx hy
  unfold both at this
  by_cases q:c x y=none∨c' x y=none
  ·exact q
  ·rw[if_neg q]at this;cases this
 ·intro h x y hx hy
  unfold both
  rw[if_pos (h x y hx hy)]
theorem Sc.apart (q:Sc sz c u)(s:Sc sz c' u'){n:Nat}(hn:12≤n):pf n F.aD [chD sz u,chD sz u']=.ok (.bl (apartB sz c c')):=by
 obtain⟨n,rfl,hn⟩:=ex1 (show 11+1≤n by omega)
 obtain⟨m,rfl,hm⟩:=ex1 (show 10+1≤n by omega)
 have h3:=q.p.h3;have hd:=q.p.dep
 have e1:=q.p.check (n:=m) (by omega)
 have e2:=s.p.check (n:=m) (by omega)
 have e3:pf m F.ak [.lst [chD sz u,chD sz u']]=.ok .non:=(sizes2 (by omega)).trans (if_pos rfl)
 have e5:pf (m+1) F.ai [chD sz u,chD sz u']=.ok .non:=by
  rw[bQ,aT,e1,e2,bF,bF,e3];rfl
 have e4:=xj En.opt En.opt En.int (pa:=S9) (pb:=S9) (f:=both) yW (fun m a b hm _ _=>by
  obtain⟨m,rfl,hm⟩:=ex1 (show 0+1≤m by omega)
  rw[ly,cN]
  cases a<;>cases b<;>rfl) sz (m+1) u u' hd s.p.dep (by omega) q.p.all s.p.all (by omega)
 rw[aH sz _ (fun x y=>both (c x y) (c' x y)) (fun x y hx hy=>by rw[q.w x y hx hy,s.w x y hx hy])]at e4
 have e6:dEq ((T (fun x y=>both (c x y) (c' x y)) sz).d .int) (.int 0)=.ok (.bl (apartB sz c c')):=by
  rw[fc (cB (Q.g60 En.int (Nat.le_trans (bZ _ _) (by omega))) (by decide)) rfl,show D.int 0=Q.d D.int (.lf 0) from rfl,Q.eqd En.int];rfl
 rw[jn,cR,e5,bF]
 unfold chD
 simp only[STP,if_true,if_false,ite_true,ite_false,reduceIte,reduceCtorEq,OPP,e4,e6]
theorem qV (f:Nat→Nat→Int)(v:Int)(w k:Nat):(vals f w k).countP (· == v)=cntN (fun x y=>f x y==v) w k:=by
 unfold vals cntN
 induction List.range k with
 | nil=>rfl
 | cons y l ih =>
  rw[List.flatMap_cons,List.countP_append,ih,List.map_cons,List.sum_cons,List.countP_map,List.countP_eq_length_filter]
  rfl
theorem Sh.counts (s:Sh sz g t){n:Nat}(hn:11≤n):∃ xs:List D,xs[0]?=some (.int ((cntN (fun x y=>g x y==0) (2^sz) (2^sz):Nat):Int))∧pf n F.bi [picD sz t]=.ok (.tup xs):=by
 obtain⟨n,rfl,hn⟩:=ex1 (show 10+1≤n by omega)
 have h8:=p8 s.p.h3
 have e1:=s.rows (n:=n) (by omega)
 have e2:pf n F.a0 [rowsT .int g (2^sz) (2^sz)]=_:=qK (n:=n) (by omega) g (2^sz) (2^sz) h8 h8 true
 have e3:rng1 [.int ((9:Int)+1)]=.ok ((List.range 10).map fun i:Nat=>D.int (i:Int)):=fU (s:=10) (by decide)
 have e4:cMap (fun worth=>onL (.lst ((vals g (2^sz) (2^sz)).map .int)) fun ls=>dCountI ls [worth]) ((List.range 10).map fun i:Nat=>D.int (i:Int))=.ok (.lst ((List.range 10).map fun i:Nat=>D.int (((vals g (2^sz) (2^sz)).countP (· == (i:Int)):Nat):Int))):=cy _ _ fun i _=>by
  rw[yK,qL]
 refine⟨(List.range 10).map fun i:Nat=>D.int (((vals g (2^sz) (2^sz)).countP (· == (i:Int)):Nat):Int),?_,?_⟩
 ·rw[List.getElem?_map,List.getElem?_range (by decide)]
  show some (D.int (((vals g (2^sz) (2^sz)).countP (· == ((0:Nat):Int)):Nat):Int))=_
  rw[qV];rfl
 ·rw[uO,je]
  simp only[STP,if_true,if_false,ite_true,ite_false,reduceIte,reduceCtorEq,OPP,e1,e2,e3,e4]
theorem Sh.unlike (s:Sh sz g t)(s':Sh sz g' t'){n:Nat}(hn:13≤n):pf n F.al [picD sz t,picD sz t']=.ok (.int ((cntN (fun x y=>!decide (g x y=g' x y)) (2^sz) (2^sz):Nat):Int)):=by
 obtain⟨n,rfl,hn⟩:=ex1 (show 12+1≤n by omega)
 have e1:=sv.joined s s' (n:=n) (by omega)
 obtain⟨xs,h0,e2⟩:=(sv.sh s s').counts (n:=n) (by omega)
 have e3:dIx (.tup xs) (.int 0)=_:=ixT (i:=0) h0
 rw[bR (q:=fun x y=>!decide (g x y=g' x y)) (fun x y _ _=>by unfold fSame;by_cases h:g x y=g' x y<;>simp[h])]at e3
 rw[eX,bw]
 simp only[STP,if_true,if_false,ite_true,ite_false,reduceIte,reduceCtorEq,e1,e2,e3]
end
end Lw
end
section
namespace Lw
open PySem FF
theorem qW {α:Type}(a b:α→D):∀ l:List α,zipD (l.map a) (l.map b)=l.map fun i=>.tup [a i,b i]
 | []=>rfl
 | x::l=>by rw[List.map_cons,List.map_cons,zipD,qW a b l];rfl
theorem tN:∀ (xs ys:List D) (k:Nat),enD (xs++ys) k=enD xs k++enD ys (k+xs.length)
 | [],ys,k=>by simp[enD]
 | x::xs,ys,k=>by
  rw[List.cons_append,enD,enD,tN xs ys (k+1),List.cons_append,List.length_cons,show k+1+xs.length=k+(xs.length+1) by omega]
theorem tO (f:Nat→D):∀ n,enD ((List.range n).map f) 0=(List.range n).map fun i=>.tup [.int (i:Int),f i]
 | 0=>rfl
 | n+1=>by
  rw[List.range_succ,List.map_append,tN,tO f n,List.map_append,List.length_map,List.length_range,Nat.zero_add];rfl
theorem cMap2' {e:D→R D}{a b a' b':D}(h:e a=.ok a')(h2:e b=.ok b'):cMap e [a,b]=.ok (.lst [a',b']):=by unfold cMap;simp only[cGo,h,h2];rfl
theorem cMap3 {e:D→R D}{a b c a' b' c':D}(h:e a=.ok a')(h2:e b=.ok b')(h3:e c=.ok c'):cMap e [a,b,c]=.ok (.lst [a',b',c']):=by unfold cMap;simp only[cGo,h,h2,h3];rfl
def spotsL (c:Nat→Nat→Option Int)(s:Nat):List (Nat×Nat):=(List.range s).flatMap fun y=>((List.range s).filter fun x=>(c x y).isSome).map fun x=>(x,y)
def spN (p:Nat×Nat):D:=.tup [.int (p.1:Int),.int (p.2:Int)]
theorem nW (c:Nat→Nat→Option Int)(s:Nat):(spotsL c s).length=cntN (fun x y=>(c x y).isSome) s s:=by
 unfold spotsL cntN
 rw[List.length_flatMap]
 simp only[List.length_map]
theorem ij {c:Nat→Nat→Option Int}{s:Nat}{p:Nat×Nat}:p∈spotsL c s↔p.1 < s∧p.2 < s∧(c p.1 p.2).isSome=true:=by
 unfold spotsL
 simp only[List.mem_flatMap,List.mem_range,List.mem_map,List.mem_filter]
 constructor
 ·rintro ⟨y,hy,x,⟨hx,h⟩,rfl⟩;exact⟨hx,hy,h⟩
 ·rintro ⟨hx,hy,h⟩;exact⟨p.2,hy,p.1,⟨hx,h⟩,rfl⟩
theorem nX (c:Nat→Nat→Option Int){s:Nat}(hs:s≤8){n:Nat}(hn:1≤n):pf n F.aN [rowsL oD c s s]=.ok (.lst ((spotsL c s).map spN)):=by
 obtain⟨n,rfl,hn⟩:=ex1 (show 0+1≤n by omega)
 have e1:dEnum (rowsL oD c s s)=.ok ((List.range s).map fun i:Nat=>.tup [.int (i:Int),rowL oD c s i]):=by
  unfold dEnum rowsL
  rw[cx (by simp;omega),R.bind_ok,tO]
 have h64:s*s≤64:=Nat.mul_le_mul hs hs
 have lo:=fe (step:=fun s p=>lUn2 p fun x0 x1=>cq (pf n) s x0 x1) (fun i:Nat=>D.tup [.int (i:Int),rowL oD c s i]) (fun y=>(((List.range s).filter fun x=>(c x y).isSome).map fun x=>(x,y)).map spN) s (List.range s) [] (fun y hy acc ha=>by
  show cq (pf n) acc (.int (y:Int)) (rowL oD c s y)=_
  have l1:dLen [rowL oD c s y]=.ok (.int (s:Int)):=by unfold rowL;simp
  have l2:=fU (s:=s) (by omega)
  have l3:cFil (fun B0=>(asB ((dIx (rowL oD c s y) B0).bind fun x1=>dIsNot x1 .non))) (fun B0=>.ok (.tup [B0,.int (y:Int)])) ((List.range s).map fun i:Nat=>D.int (i:Int))=.ok (.lst (((List.range s).filter fun x=>(c x y).isSome).map fun x:Nat=>D.tup [.int (x:Int),.int (y:Int)])):=fR _ _ (fun x=>(c x y).isSome) fun x hx=>⟨by
   rw[yI (List.mem_range.1 hx),R.bind_ok]
   cases c x y<;>rfl,fun _=>rfl⟩
  have le:((List.range s).filter fun x=>(c x y).isSome).length≤s:=by
   have:=List.length_filter_le (fun x=>(c x y).isSome) (List.range s);simpa using this
  unfold cq
  simp only[STP,if_true,if_false,ite_true,ite_false,reduceIte,reduceCtorEq,l1,l2,l3]
  rw[bC (by simp;omega)]
  simp only[STP,if_true,if_false,ite_true,ite_false,reduceIte,reduceCtorEq,List.map_map]
  rfl) (fun y _=>by
   have:=List.length_filter_le (fun x=>(c x y).isSome) (List.range s)
   simpa using this) (by simp;omega)
 rw[oF,dW]
 simp only[STP,if_true,if_false,ite_true,ite_false,reduceIte,reduceCtorEq,e1,lo,List.nil_append]
 unfold spotsL
 rw[List.map_flatMap]
theorem qX (n:Nat)(p:Nat×Nat):good (n+1) (spN p)=true:=by unfold spN;rw[good];rfl
theorem Ar (p q:Nat×Nat):eqD (spN p) (spN q)=decide (p=q):=by
 obtain⟨a,b⟩:=p;obtain⟨c,d⟩:=q
 simp only[spN,eqD,eqDs,Bool.and_true,Prod.mk.injEq]
 rw[Bool.eq_iff_iff]
 simp
 omega
theorem ki (n:Nat):∀ l:List (Nat×Nat),goods (n+1) (l.map spN)=true
 | []=>rfl
 | b::l=>by rw[List.map_cons,goods,ki n l,qX];rfl
theorem As (p:Nat×Nat)(l:List (Nat×Nat)):dInD (spN p) (.lst (l.map spN))=.ok (.bl (decide (p∈l))):=by
 unfold dInD
 simp only
 rw[if_pos ⟨qX 59 p,ki 59 l⟩,List.any_map]
 congr 2
 rw[Bool.eq_iff_iff];simp only[List.any_eq_true,Function.comp,Ar,decide_eq_true_iff]
 constructor
 ·rintro ⟨x,h,rfl⟩;exact h
 ·intro h;exact⟨p,h,rfl⟩
theorem vp {sz:Nat}(h3:sz≤3)(c c':Nat→Nat→Option Int):((sq (.lst ((spotsL c (2^sz)).map spN))).bind fun xs3=>cFil (fun By=>(asB (dInD By (.lst ((spotsL c' (2^sz)).map spN))))) (fun By=>.ok By) xs3).bind (fun x19=>dEq x19 (.lst []))=.ok (.bl (apartB sz c c')):=by
 have h8:=p8 h3
 have h64:2^sz*2^sz≤64:=Nat.mul_le_mul h8 h8
 have hl:(spotsL c (2^sz)).length≤64:=by rw[nW];exact Nat.le_trans (Ap _ _ _) h64
 have e1:=cx (xs:=(spotsL c (2^sz)).map spN) (by simp;omega)
 have e2:cFil (fun By=>(asB (dInD By (.lst ((spotsL c' (2^sz)).map spN))))) (fun By=>.ok By) ((spotsL c (2^sz)).map spN)=.ok (.lst (((spotsL c (2^sz)).filter fun p=>decide (p∈spotsL c' (2^sz))).map spN)):=fR spN spN (fun p=>decide (p∈spotsL c' (2^sz))) fun p _=>⟨by rw[As];rfl,fun _=>rfl⟩
 rw[e1,R.bind_ok,e2,R.bind_ok,fc (by rw[good];exact ki 58 _) rfl]
 congr 2
 rw[Bool.eq_iff_iff,ii]
 cases hx:(spotsL c (2^sz)).filter fun p=>decide (p∈spotsL c' (2^sz)) with
 | nil =>
  refine⟨fun _ x y hx' hy'=>?_,fun _=>rfl⟩
  rw[List.filter_eq_nil_iff]at hx
  by_cases h1:(c x y).isSome=true
  ·have:=hx (x,y) (ij.2 ⟨hx',hy',h1⟩)
   right
   cases q:c' x y with
   | none=>rfl
   | some v=>exact absurd ((ij (c:=c') (p:=(x,y))).2 ⟨hx',hy',by show (c' x y).isSome=true;rw[q];rfl⟩) (by simpa using this)
  ·left
   cases q:c x y with
   | none=>rfl
   | some v=>rw[q]at h1;exact absurd rfl h1
 | cons p l =>
  constructor
  ·intro h;simp[eqD,eqDs]at h
  ·intro h
   have hp:p∈(spotsL c (2^sz)).filter fun p=>decide (p∈spotsL c' (2^sz)):=by rw[hx];exact .head _
   have hp:=List.mem_filter.1 hp
   have a:=ij.1 hp.1
   have b:=ij.1 (of_decide_eq_true hp.2)
   rcases h p.1 p.2 a.1 a.2.1 with q | q
   ·rw[q]at a;cases a.2.2
   ·rw[q]at b;cases b.2.2
theorem do_0 {a b d:D}{m:Nat}(h:pf m F.aD [a,b]=.ok d):pf (m+1) F.aa [.int 0,a,b]=.ok d:=by
 rw[eZ,cU,h];rfl
theorem do_1 {a b d:D}{m:Nat}(h:pf m F.al [a,b]=.ok d):pf (m+1) F.aa [.int 1,a,b]=.ok d:=by
 rw[eZ,cU,h];rfl
theorem do_2 {a b d:D}{m:Nat}(h:pf m F.ao [a]=.ok d):pf (m+1) F.aa [.int 2,a,b]=.ok d:=by
 rw[eZ,cU,h];rfl
theorem do_3 {a b d:D}{m:Nat}(h:pf m F.aC [a]=.ok d):pf (m+1) F.aa [.int 3,a,b]=.ok d:=by
 rw[eZ,cU,h];rfl
theorem do_e {a b:D}{w:Int}{k m:Nat}{s:Str}(h:(w=0∧pf m F.aD [a,b]=.err k)∨(w=1∧pf m F.al [a,b]=.err k)∨(w=2∧pf m F.ao [a]=.err k)∨(w=3∧pf m F.aC [a]=.err k))(hq:qTk esL k=true)(hw:pf m F.aV [.exc k]=.ok (.str s)):pf (m+1) F.aa [.int w,a,b]=.ok (.str s):=by
 have hn:dIs (.exc k) .non=.ok (.bl false):=rfl
 rw[eZ,cU]
 have d0:dEq (.int 0) (.int 0)=.ok (.bl true):=rfl
 have d1:dEq (.int 1) (.int 0)=.ok (.bl false):=rfl
 have d2:dEq (.int 2) (.int 2)=.ok (.bl true):=rfl
 have d3:dEq (.int 3) (.int 2)=.ok (.bl false):=rfl
 have l0:dLt (.int 0) (.int 2)=.ok (.bl true):=rfl
 have l1:dLt (.int 1) (.int 2)=.ok (.bl true):=rfl
 have l2:dLt (.int 2) (.int 2)=.ok (.bl false):=rfl
 have l3:dLt (.int 3) (.int 2)=.ok (.bl false):=rfl
 rcases h with ⟨rfl,h⟩ | ⟨rfl,h⟩ | ⟨rfl,h⟩ | ⟨rfl,h⟩
 ·simp only[l0,d0,ft,wq,h]
  simp only[lB,lTry,hq,if_true]
  simp only[hn,hw,STP,if_true,if_false,ite_true,ite_false,reduceIte,reduceCtorEq]
 ·simp only[l1,d1,ft,wr,h]
  simp only[lB,lTry,hq,if_true]
  simp only[hn,hw,STP,if_true,if_false,ite_true,ite_false,reduceIte,reduceCtorEq]
 ·simp only[l2,d2,ft,wq,h]
  simp only[lB,lTry,hq,if_true,Bool.false_eq_true,if_false]
  simp only[hn,hw,STP,if_true,if_false,ite_true,ite_false,reduceIte,reduceCtorEq]
 ·simp only[l3,d3,ft,wr,h]
  simp only[lB,lTry,hq,if_true,Bool.false_eq_true,if_false]
  simp only[hn,hw,STP,if_true,if_false,ite_true,ite_false,reduceIte,reduceCtorEq]
theorem qY {a b:D}{m k:Nat}(h:pf m F.ai [a,b]=.err k):pf (m+1) F.aD [a,b]=.err k:=by
 rw[jn,cR,h];rfl
theorem sD {a b:D}{m k:Nat}(h:pf m F.ad [.lst [a,b]]=.err k)(hm:2≤m):pf (m+2) F.al [a,b]=.err k:=by
 have hr:=sv.check (n:=m) hm
 have hj:pf (m+1) F.bd [.str "same",a,b]=.err k:=by
  rw[nD,gr,hr,bF,h];rfl
 rw[eX,bw,hj];rfl
theorem xp {a:D}{m k:Nat}(h:pf m F.ae [a]=.err k):pf (m+2) F.ao [a]=.err k:=by
 have hj:pf (m+1) F.aI [a]=.err k:=by rw[gz,bW,h];rfl
 rw[gA,bX,hj];rfl
theorem yX {a:D}{m k:Nat}(h:pf m F.ae [a]=.err k):pf (m+3) F.aC [a]=.err k:=by
 rw[kr,dD,xp h];rfl
theorem unlikec {s1 s2:Nat}{a b:Q (Option Int)}(pa:Cg s1 a)(pb:Cg s2 b)(h:s1≠s2){m:Nat}(hm:11≤m):pf m F.ai [chD s1 a,chD s2 b]=.err 4:=by
 obtain⟨m,rfl,hm⟩:=ex1 (show 10+1≤m by omega)
 have e1:=pa.check (n:=m) (by omega)
 have e2:=pb.check (n:=m) (by omega)
 have e3:pf m F.ak [.lst [chD s1 a,chD s2 b]]=.err 4:=(sizes2 (by omega)).trans (if_neg h)
 rw[bQ,aT,e1,bF,e2,bF,e3];rfl
theorem badc1 {a b:D}{m:Nat}(h:pf m F.ae [a]=.err 7):pf (m+1) F.ai [a,b]=.err 7:=by
 rw[bQ,aT,h];rfl
theorem vq {a b:D}{m:Nat}(h:pf m F.af [a]=.err 1):pf (m+1) F.ad [.lst [a,b]]=.err 1:=by
 have hs:sq (.lst [a,b])=.ok [a,b]:=rfl
 rw[bG,aP]
 simp only[STP,if_true,if_false,ite_true,ite_false,reduceIte,reduceCtorEq,hs,lFor,aN,h]
theorem vt {a b:D}{m:Nat}(h1:pf m F.af [a]=.ok .non)(h:pf m F.af [b]=.err 1):pf (m+1) F.ad [.lst [a,b]]=.err 1:=by
 have hs:sq (.lst [a,b])=.ok [a,b]:=rfl
 rw[bG,aP]
 simp only[STP,if_true,if_false,ite_true,ite_false,reduceIte,reduceCtorEq,hs,lFor,aN,h1,h]
theorem unlike2 {s1 s2:Nat}{a b:Q Int}(pa:Pc s1 a)(pb:Pc s2 b)(h:s1≠s2){m:Nat}(hm:10≤m):pf m F.ad [.lst [picD s1 a,picD s2 b]]=.err 4:=by
 obtain⟨m,rfl,hm⟩:=ex1 (show 9+1≤m by omega)
 have hs:sq (.lst [picD s1 a,picD s2 b])=.ok [picD s1 a,picD s2 b]:=rfl
 have h1:=pa.check (n:=m) (by omega);have h2:=pb.check (n:=m) (by omega)
 have l2:pf m F.ak [.lst [picD s1 a,picD s2 b]]=.err 4:=(sizes2 (by omega)).trans (if_neg h)
 rw[bG,aP]
 simp only[STP,if_true,if_false,ite_true,ite_false,reduceIte,reduceCtorEq,hs,lFor,aN,h1,h2,l2]
theorem sE {sz:Nat}{u:Q (Option Int)}{t:Q Int}(c1:Cg sz u)(p:Pc sz t)(ns:List Int){n:Nat}(hn:30≤n):pf n F.a9 [scr ns,chD sz u,picD sz t]=.ok (.bl true):=by
 obtain⟨n,rfl⟩:∃ j,n=j+20:=⟨n - 20,by omega⟩
 have hj:10≤n:=by omega
 have h3:=p.h3
 have e0:dIx (chD sz u) (.int 0)=.ok (.int (sz:Int)):=rfl
 have m4:dMod (.int ((sz:Int)+1)) (.int 4)=.ok (.int (((sz+1)%4:Nat):Int)):=by rw[cX (by decide)];congr 2
 have ne:sz≠(sz+1)%4:=by omega
 have po:Cg ((sz+1)%4) (.lf (some 3)):=⟨by omega,Nat.zero_le _,fun v hv=>by cases hv;exact⟨by decide,by decide⟩⟩
 have pp:Pc ((sz+1)%4) (.lf 3):=⟨by omega,Nat.zero_le _,⟨by decide,by decide⟩⟩
 have do1:D.tup [.int (((sz+1)%4:Nat):Int),.int 3]=chD ((sz+1)%4) (.lf (some 3)):=rfl
 have do2:chD ((sz+1)%4) (.lf (some 3))=picD ((sz+1)%4) (.lf 3):=rfl
 have r1:pf (n+19) F.aa [.int 0,chD sz u,chD ((sz+1)%4) (.lf (some 3))]=_:=do_e (.inl ⟨rfl,qY (unlikec c1 po ne (m:=n+17) (by omega))⟩) (by decide) (word4 (m:=n+18) (by omega))
 have r2:pf (n+19) F.aa [.int 1,picD sz t,chD ((sz+1)%4) (.lf (some 3))]=_:=do_e (.inr (.inl ⟨rfl,sD (unlike2 p pp ne (m:=n+16) (by omega)) (by omega)⟩)) (by decide) (word4 (m:=n+18) (by omega))
 have nu:dNf (.str "unlike") (.str "unlike")=.ok (.bl false):=rfl
 have r3:pf (n+19) F.aa [.int 0,.tup [.int 0,.non],.tup [.int 0,.int 5]]=.ok (.bl true):=by
  have a:Cg 0 (.lf none):=⟨by decide,Nat.zero_le _,fun v hv=>by cases hv⟩
  have b:Cg 0 (.lf (some 5)):=⟨by decide,Nat.zero_le _,fun v hv=>by cases hv;exact⟨by decide,by decide⟩⟩
  have:=a.sc.apart b.sc (n:=n+18) (by omega)
  exact do_0 (this.trans (by congr 2))
 obtain⟨bad,tb,eb⟩:=nP (w:=5) (n:=4) (by decide) (by decide) (by decide) (by decide) c1.th (m:=n+19) (by omega) ns 25000
 have eb':pf (n+19) F.aj [scr ns,.int 25000,chD sz u]=.ok bad:=eb
 obtain⟨odd,to,eo⟩:=nP (w:=5) (n:=4) (by decide) (by decide) (by decide) (by decide) p.th (m:=n+19) (by omega) ns 25100
 have eo':pf (n+19) F.aj [scr ns,.int 25100,picD sz t]=.ok odd:=eo
 have ip:=nU (w:=5) (by decide) (n:=4) tb (m:=n+19) (by omega) (by decide)
 have iq:=nQ (w:=5) (by decide) (n:=4) to (m:=n+19) (by omega) (by decide)
 rw[oG,dX]
 simp only[STP,if_true,if_false,ite_true,ite_false,reduceIte,reduceCtorEq,OPP,e0,m4,do1,r1,r2,nu,r3,eb',eo',ip,iq]
 have dn:dIsNot (.bl true) (.bl true)=.ok (.bl false):=rfl
 simp only[STP,if_true,if_false,ite_true,ite_false,reduceIte,reduceCtorEq,dn]
 have s3:sq (.tup [(.int 0),(.int 2),(.int 3)])=.ok [.int 0,.int 2,.int 3]:=rfl
 have A:rAnd (.ok (!sizedOk inSet 4 bad)) (asB (((sq (.tup [(.int 0),(.int 2),(.int 3)])).bind fun xs=>cMap (fun Br=>pf (n+19) F.aa [Br,bad,chD ((sz+1)%4) (.lf (some 3))]) xs).bind fun x5=>(dMul (.lst [(.str "no change")]) (.int 3)).bind fun x6=>dNf x5 x6))=.ok false:=by
  obtain⟨c,ec⟩:∃ c,sizedOk inSet 4 bad=c:=⟨_,rfl⟩
  rw[ec]
  cases c with
  | true=>rfl
  | false =>
   have ec5:sizedOk inSet 5 bad=false:=by
    have h1:=nU (w:=5) (by decide) (n:=5) (tH (Nat.le_refl 5) tb (show 5≤6 by decide)) (m:=n+19) (by omega) (by decide)
    rw[ip,ec]at h1;exact(D.bl.inj (R.ok.inj h1)).symm
   have cb:∀ m,12≤m→pf m F.ae [bad]=.err 7:=fun m hm=>sC (w:=5) (by decide) tb (m:=m) (by omega) ec5
   have d0:pf (n+19) F.aa [.int 0,bad,chD ((sz+1)%4) (.lf (some 3))]=_:=do_e (.inl ⟨rfl,qY (badc1 (cb (n+16) (by omega)))⟩) (by decide) (word7 (m:=n+18) (by omega))
   have d2:pf (n+19) F.aa [.int 2,bad,chD ((sz+1)%4) (.lf (some 3))]=_:=do_e (.inr (.inr (.inl ⟨rfl,xp (cb (n+16) (by omega))⟩))) (by decide) (word7 (m:=n+18) (by omega))
   have d3:pf (n+19) F.aa [.int 3,bad,chD ((sz+1)%4) (.lf (some 3))]=_:=do_e (.inr (.inr (.inr ⟨rfl,yX (cb (n+15) (by omega))⟩))) (by decide) (word7 (m:=n+18) (by omega))
   have M:cMap (fun Br=>pf (n+19) F.aa [Br,bad,chD ((sz+1)%4) (.lf (some 3))]) [.int 0,.int 2,.int 3]=_:=cMap3 (e:=fun Br=>pf (n+19) F.aa [Br,bad,chD ((sz+1)%4) (.lf (some 3))]) d0 d2 d3
   rw[s3,R.bind_ok,M]
   rfl
 rw[A]
 simp only[STP,if_true,if_false,ite_true,ite_false,reduceIte,reduceCtorEq]
 obtain⟨c,ec⟩:∃ c,sizedOk (inTo 9) 4 odd=c:=⟨_,rfl⟩
 rw[ec]
 cases c with
 | true=>rfl
 | false =>
  have ec5:sizedOk (inTo 9) 5 odd=false:=by
   have h1:=nQ (w:=5) (by decide) (n:=5) (tH (Nat.le_refl 5) to (show 5≤6 by decide)) (m:=n+19) (by omega) (by decide)
   rw[iq,ec]at h1;exact(D.bl.inj (R.ok.inj h1)).symm
  have cb:=vk (w:=5) (by decide) to (m:=n+15) (by omega) ec5
  have b1:pf (n+19) F.aa [.int 1,odd,chD ((sz+1)%4) (.lf (some 3))]=_:=do_e (.inr (.inl ⟨rfl,sD (vq cb) (by omega)⟩)) (by decide) (word1 (m:=n+18) (by omega))
  have b2:pf (n+19) F.aa [.int 1,chD ((sz+1)%4) (.lf (some 3)),odd]=_:=do_e (.inr (.inl ⟨rfl,sD (vt (pp.check (n:=n+15) (by omega)) cb) (by omega)⟩)) (by decide) (word1 (m:=n+18) (by omega))
  simp only[STP,if_true,if_false,ite_true,ite_false,reduceIte,reduceCtorEq,b1,b2]
  rfl
theorem xq (p:Nat→Nat→Bool)(w k:Nat):cntN p w (k+1)=cntN p w k+((List.range w).filter fun x=>p x k).length:=by
 unfold cntN;rw[List.range_succ,List.map_append,List.sum_append];simp
theorem mo {α:Type}(a b:α→D)(l:List α)(h:l.length≤1000)(A B:D)(hA:sq A=.ok (l.map a))(hB:sq B=.ok (l.map b)):dZip A B=.ok (l.map fun i=>.tup [a i,b i]):=by
 unfold dZip
 rw[hA,R.bind_ok,hB,R.bind_ok,qW]
section
variable {sz:Nat}{g g':Nat→Nat→Int}{c:Nat→Nat→Option Int}
theorem xr (h3:sz≤3){n:Nat}:(lB (dZip (rowsT .int g (2^sz) (2^sz)) (rowsT .int g' (2^sz) (2^sz))) fun xs8=>lFor (τ:=D) (fun s p=>lUn2 p fun x0 x1=>dj (pf n) s x0 x1) xs8 (.int 0))=.nx (.int ((cntN (fun x y=>!decide (g x y=g' x y)) (2^sz) (2^sz):Nat):Int)):=by
 have h8:=p8 h3
 rw[mo (fun y=>rowT .int g (2^sz) y) (fun y=>rowT .int g' (2^sz) y) (List.range (2^sz)) (by simp;omega) (rowsT .int g (2^sz) (2^sz)) (rowsT .int g' (2^sz) (2^sz)) (eG (by simp;omega)) (eG (by simp;omega)),bF]
 refine ma (fun y=>D.tup [rowT .int g (2^sz) y,rowT .int g' (2^sz) y]) (fun i=>D.int ((cntN (fun x y=>!decide (g x y=g' x y)) (2^sz) i:Nat):Int)) (2^sz) fun y hy=>?_
 show dj (pf n) (.int ((cntN (fun x y=>!decide (g x y=g' x y)) (2^sz) y:Nat):Int)) (rowT .int g (2^sz) y) (rowT .int g' (2^sz) y)=_
 have l1:dLen [rowT .int g (2^sz) y]=.ok (.int ((2^sz:Nat):Int)):=by unfold rowT;simp
 have l2:=fU (s:=2^sz) (by omega)
 have l3:cFil (fun Bb=>(asB ((dIx (rowT .int g (2^sz) y) Bb).bind fun x1=>(dIx (rowT .int g' (2^sz) y) Bb).bind fun x2=>dNf x1 x2))) (fun Bb=>.ok Bb) ((List.range (2^sz)).map fun i:Nat=>D.int (i:Int))=.ok (.lst (((List.range (2^sz)).filter fun x=>!decide (g x y=g' x y)).map fun i:Nat=>D.int (i:Int))):=fR _ _ (fun x=>!decide (g x y=g' x y)) fun x hx=>⟨by
  rw[tz (List.mem_range.1 hx),R.bind_ok,tz (List.mem_range.1 hx),R.bind_ok,dm];rfl,fun _=>rfl⟩
 unfold dj
 simp only[STP,if_true,if_false,ite_true,ite_false,reduceIte,reduceCtorEq,OPP,l1,l2,l3,List.length_map]
 rw[xq,Int.natCast_add]
theorem vw (h3:sz≤3){n:Nat}:(lB (dZip (rowsT .int g (2^sz) (2^sz)) (rowsL oD c (2^sz) (2^sz))) fun xs6=>lFor (τ:=List D) (fun s p=>lUn2 p fun x0 x1=>cr (pf n) s x0 x1) xs6 [])=.nx ((List.range (2^sz)).map fun y=>rowT .int (fun x y=>ov (g x y) (c x y)) (2^sz) y):=by
 have h8:=p8 h3
 rw[mo (fun y=>rowT .int g (2^sz) y) (fun y=>rowL oD c (2^sz) y) (List.range (2^sz)) (by simp;omega) (rowsT .int g (2^sz) (2^sz)) (rowsL oD c (2^sz) (2^sz)) (eG (by simp;omega)) (cx (by simp;omega)),bF]
 rw[fe (fun y=>D.tup [rowT .int g (2^sz) y,rowL oD c (2^sz) y]) (fun y=>[rowT .int (fun x y=>ov (g x y) (c x y)) (2^sz) y]) 1 (List.range (2^sz)) [] (fun y hy acc ha=>by
  have z:dZip (rowT .int g (2^sz) y) (rowL oD c (2^sz) y)=.ok ((List.range (2^sz)).map fun x=>D.tup [.int (g x y),oD (c x y)]):=mo _ _ _ (by simp;omega) _ _ (eG (by simp;omega)) (cx (by simp;omega))
  have M:cMap (fun p=>un2 p fun B3 BC=>rIf (asB (dIsNot BC .non)) (.ok BC) (.ok B3)) ((List.range (2^sz)).map fun x=>D.tup [.int (g x y),oD (c x y)])=.ok (.lst ((List.range (2^sz)).map fun x=>D.int (ov (g x y) (c x y)))):=cy _ _ fun x _=>by
   show rIf (asB (dIsNot (oD (c x y)) .non)) (.ok (oD (c x y))) (.ok (.int (g x y)))=_
   cases c x y<;>rfl
  show cr (pf n) acc (rowT .int g (2^sz) y) (rowL oD c (2^sz) y)=_
  unfold cr
  simp only[STP,if_true,if_false,ite_true,ite_false,reduceIte,reduceCtorEq,z,M,fS]
  rw[o3 (by omega)]
  rfl) (fun _ _=>by simp) (by simp;omega)]
 rw[List.nil_append]
 congr 1
 induction List.range (2^sz) with
 | nil=>rfl
 | cons b l ih=>rw[List.flatMap_cons,ih];rfl
end
theorem sF {sz:Nat}{c c':Nat→Nat→Option Int}:apartB sz c' c=apartB sz c c':=by
 rw[Bool.eq_iff_iff,ii,ii]
 exact⟨fun h x y hx hy=>(h x y hx hy).symm,fun h x y hx hy=>(h x y hx hy).symm⟩
theorem nY (n:Nat):∀ l:List BkO,goods (n+1) (l.map BkO.d)=true
 | []=>rfl
 | b::l=>by
  have:FF.good (n+1) b.d=true:=by unfold BkO.d;rw[FF.good];simp only[goods,En.opt.gd];rfl
  rw[List.map_cons,goods,nY n l,this];rfl
theorem mX (ns:List Int):pf 40 F.a3 [.lst (ns.map .int)]=.ok (.bl true):=by
 obtain⟨sz,h3,hsz⟩:∃ sz:Nat,sz≤3∧((pf 39 F.ah [scr ns,.int 0,.int 3]).bind fun x=>dAdd (.int 1) x)=.ok (.int (sz:Int)):=by
  have a:=iB (ns:=ns) (k:=0) (m:=3) (by decide);have b:=iC (ns:=ns) (k:=0) (m:=3) (by decide)
  have p:pf 39 F.ah [scr ns,.int 0,.int 3]=.ok (.int (pk ns 0 3)):=fT (by decide) ns 0 (by decide)
  refine⟨(1+pk ns 0 3).toNat,by omega,?_⟩
  rw[p,R.bind_ok,cz];congr 2;omega
 have h8:=p8 h3
 obtain⟨u1,a1,b1,k1⟩:=qT ns sz (5000+4000*0) 39 (by omega)
 obtain⟨u2,a2,b2,k2⟩:=qT ns sz (5000+4000*1) 39 (by omega)
 have c1:=(⟨h3,a1,b1⟩:Cg sz u1).sc;have c2:=(⟨h3,a2,b2⟩:Cg sz u2).sc
 have r2:rng1 [.int 2]=.ok [.int 0,.int 1]:=rfl
 have M:cMap (fun Bb=>(((dMul (.int 4000) Bb).bind fun x1=>dAdd (.int 5000) x1).bind fun x2=>pf 39 F.ab [scr ns,x2,.int (sz:Int)]).bind fun x3=>.ok (.tup [.int (sz:Int),x3])) [.int 0,.int 1]=.ok (.lst [chD sz u1,chD sz u2]):=by
  refine cMap2' (e:=fun Bb=>(((dMul (.int 4000) Bb).bind fun x1=>dAdd (.int 5000) x1).bind fun x2=>pf 39 F.ab [scr ns,x2,.int (sz:Int)]).bind fun x3=>.ok (.tup [.int (sz:Int),x3])) ?_ ?_
  ·show (pf 39 F.ab [scr ns,.int 5000,.int (sz:Int)]).bind _=_
   rw[show pf 39 F.ab [scr ns,.int 5000,.int (sz:Int)]=_ from k1];rfl
  ·show (pf 39 F.ab [scr ns,.int 9000,.int (sz:Int)]).bind _=_
   rw[show pf 39 F.ab [scr ns,.int 9000,.int (sz:Int)]=_ from k2];rfl
 have un:∀ (a b:D) (k:D→D→L Unit),lUnL2 (.lst [a,b]) k=k a b:=fun _ _ _=>rfl
 have s2:sq (.tup [chD sz u1,chD sz u2])=.ok [chD sz u1,chD sz u2]:=rfl
 have l1:=ig En.opt sz u1 39 h3 a1 (by omega)
 have l2:=ig En.opt sz u2 39 h3 a2 (by omega)
 have M2:cMap (fun BJ=>(dIx BJ (.int 1)).bind fun x4=>pf 39 F.a7 [.int (sz:Int),x4]) [chD sz u1,chD sz u2]=.ok (.lst [rowsL oD (u1.at sz) (2^sz) (2^sz),rowsL oD (u2.at sz) (2^sz) (2^sz)]):=cMap2' (e:=fun BJ=>(dIx BJ (.int 1)).bind fun x4=>pf 39 F.a7 [.int (sz:Int),x4]) l1 l2
 have s3:sq (.lst [rowsL oD (u1.at sz) (2^sz) (2^sz),rowsL oD (u2.at sz) (2^sz) (2^sz)])=.ok [rowsL oD (u1.at sz) (2^sz) (2^sz),rowsL oD (u2.at sz) (2^sz) (2^sz)]:=rfl
 have M3:cMap (fun A0=>pf 39 F.aN [A0]) [rowsL oD (u1.at sz) (2^sz) (2^sz),rowsL oD (u2.at sz) (2^sz) (2^sz)]=.ok (.lst [.lst ((spotsL (u1.at sz) (2^sz)).map spN),.lst ((spotsL (u2.at sz) (2^sz)).map spN)]):=cMap2' (e:=fun A0=>pf 39 F.aN [A0]) (nX _ h8 (by decide)) (nX _ h8 (by decide))
 have i0:∀ a b:D,dIx (.lst [a,b]) (.int 0)=.ok a:=fun _ _=>rfl
 have i1:∀ a b:D,dIx (.lst [a,b]) (.int 1)=.ok b:=fun _ _=>rfl
 have q1:pf 39 F.aa [.int 2,chD sz u1,.non]=_:=do_2 (c1.squares (n:=38) (by decide))
 have q2:=sA sz (u1.at sz) 39 h3 (by omega)
 have q3:dLen [rowsL oD (u1.at sz) (2^sz) (2^sz)]=.ok (.int ((2^sz:Nat):Int)):=by unfold rowsL;simp
 have q4:pf 39 F.aM [(T (u1.at sz) sz).d oD,.int 0,.int 0,.int ((2^sz:Nat):Int)]=.ok (.lst ((sqs sz (u1.at sz)).map BkO.d)):=mn sz (T (u1.at sz) sz) 0 0 39 h3 (bZ _ _) (by omega)
 have n1:=qN (x:=.lst ((sqs sz (u1.at sz)).map BkO.d)) (by rw[FF.good];exact nY 58 _)
 have m1:pf 39 F.aa [.int 3,chD sz u1,.non]=_:=do_3 (c1.many (n:=38) (by decide))
 have m2:pf 39 F.aa [.int 3,chD sz u2,.non]=_:=do_3 (c2.many (n:=38) (by decide))
 have ap:=vp h3 (u1.at sz) (u2.at sz)
 have d1:pf 39 F.aa [.int 0,chD sz u1,chD sz u2]=_:=do_0 (c1.apart c2 (n:=38) (by decide))
 have d2:pf 39 F.aa [.int 0,chD sz u2,chD sz u1]=_:=do_0 (c2.apart c1 (n:=38) (by decide))
 rw[sF]at d2
 have nb:∀ b:Bool,dNf (.bl b) (.bl b)=.ok (.bl false):=fun b=>by cases b<;>rfl
 have be1:=c1.behind c2 (n:=39) (by decide)
 have be2:=c2.behind c1 (n:=39) (by decide)
 have A:rAnd (.ok (apartB sz (u1.at sz) (u2.at sz))) (asB ((pf 39 F.a2 [chD sz u1,chD sz u2]).bind fun x22=>(pf 39 F.a2 [chD sz u2,chD sz u1]).bind fun x23=>dNf x22 x23))=.ok false:=by
  cases e:apartB sz (u1.at sz) (u2.at sz) with
  | false=>rfl
  | true =>
   have h:=ii.1 e
   rw[aH sz (fun x y=>ovo (u2.at sz x y) (u1.at sz x y)) (fun x y=>ovo (u1.at sz x y) (u2.at sz x y)) (fun x y hx hy=>by
    rcases h x y hx hy with q | q
    ·rw[q];cases u2.at sz x y<;>rfl
    ·rw[q];cases u1.at sz x y<;>rfl)]at be2
   rw[be1,be2,R.bind_ok,R.bind_ok,qN (c1.ovo c2).p.g60]
   rfl
 have p2:Pc sz (dt ns sz 13000):=⟨h3,sf ns _ _,sg ns _ _⟩
 have p3:Pc sz (dt ns sz 17000):=⟨h3,sf ns _ _,sg ns _ _⟩
 have t2:pf 39 F.an [scr ns,.int 13000,.int (sz:Int)]=.ok ((dt ns sz 13000).d .int):=qC ns sz 13000 39 (by omega)
 have t3:pf 39 F.an [scr ns,.int 17000,.int (sz:Int)]=.ok ((dt ns sz 17000).d .int):=qC ns sz 17000 39 (by omega)
 have M4:cMap (fun B2=>(((dMul (.int 4000) B2).bind fun x24=>dAdd (.int 13000) x24).bind fun x25=>pf 39 F.an [scr ns,x25,.int (sz:Int)]).bind fun x26=>.ok (.tup [.int (sz:Int),x26])) [.int 0,.int 1]=.ok (.lst [picD sz (dt ns sz 13000),picD sz (dt ns sz 17000)]):=by
  refine cMap2' (e:=fun B2=>(((dMul (.int 4000) B2).bind fun x24=>dAdd (.int 13000) x24).bind fun x25=>pf 39 F.an [scr ns,x25,.int (sz:Int)]).bind fun x26=>.ok (.tup [.int (sz:Int),x26])) ?_ ?_
  ·show (pf 39 F.an [scr ns,.int 13000,.int (sz:Int)]).bind _=_
   rw[t2];rfl
  ·show (pf 39 F.an [scr ns,.int 17000,.int (sz:Int)]).bind _=_
   rw[t3];rfl
 clear t2 t3
 have s1:=p2.sh;have s4:=p3.sh
 generalize dt ns sz 13000=w1 at *
 generalize dt ns sz 17000=w2 at *
 generalize w1.at sz=g1 at *
 generalize w2.at sz=g2 at *
 have lr:=s1.lrows (n:=39) (by decide)
 have so:=vw h3 (g:=g1) (c:=u1.at sz) (n:=39)
 have of1:pf 39 F.bf [.tup ((List.range (2^sz)).map fun y=>rowT .int (fun x y=>ov (g1 x y) (u1.at sz x y)) (2^sz) y)]=.ok (picD sz (T (fun x y=>ov (g1 x y) (u1.at sz x y)) sz)):=AS _ h3 (by decide)
 have pk1:pf 39 F.ah [scr ns,.int 1,.int 2]=.ok (.int (pk ns 1 2)):=fT (by decide) ns 1 (by decide)
 obtain⟨g3,w3,s3',ey⟩:∃ g3 w3,Sh sz g3 w3∧(lB (σ:=D) (asB ((pf 39 F.ah [scr ns,(.int 1),(.int 2)]).bind fun x27=>dEq x27 (.int 0))) fun b4=>if b4=true then lS (lB ((pf 39 F.aX [picD sz w1]).bind fun x28=>(dIx (.lst [rowsL oD (u1.at sz) (2^sz) (2^sz),rowsL oD (u2.at sz) (2^sz) (2^sz)]) (.int 0)).bind fun x29=>dZip x28 x29) fun xs6=>lFor (τ:=List D) (fun s p=>lUn2 p fun x0 x1=>cr (pf 39) s x0 x1) xs6 []) fun BA =>
   lB ((dTuple [(.lst BA)]).bind fun x34=>pf 39 F.bf [x34]) fun BF=>.nx BF else .nx (picD sz w2))=.nx (picD sz w3):=by
  rw[pk1,R.bind_ok,d5,ft,bF]
  by_cases h:pk ns 1 2=0
  ·refine⟨_,_,c1.over s1,?_⟩
   simp only[decide_eq_true h,if_true,lr,i0,R.bind_ok,so,nw,fS,of1,bF]
  ·exact⟨g2,w2,s4,by rw[decide_eq_false h];rfl⟩
 have lr3:=s3'.lrows (n:=39) (by decide)
 have ul:=xr h3 (g:=g1) (g':=g3) (n:=39)
 have v1:pf 39 F.aa [.int 1,picD sz w1,picD sz w3]=_:=do_1 (s1.unlike s3' (n:=38) (by decide))
 have v2:pf 39 F.aa [.int 1,picD sz w3,picD sz w1]=_:=do_1 (s3'.unlike s1 (n:=38) (by decide))
 rw[bR (p:=fun x y=>!decide (g3 x y=g1 x y)) (q:=fun x y=>!decide (g1 x y=g3 x y)) (fun x y _ _=>by congr 1;exact decide_eq_decide.2 ⟨Eq.symm,Eq.symm⟩)]at v2
 obtain⟨v,cv,fv,_,bt⟩:=s1.between s3' (n:=39) (by decide)
 have mv:=cv.many (n:=39) (by decide)
 have le:cntN (fun x y=>!decide (g1 x y=g3 x y)) (2^sz) (2^sz)≤cntN (fun x y=>(v.at sz x y).isSome) (2^sz) (2^sz):=qU fun x y hx hy h=>by
  have:=fv x y hx hy
  cases e:v.at sz x y with
  | some w=>rfl
  | none =>
   rw[e]at this
   have this:g1 x y=g3 x y:=this
   exact absurd this (by simpa using h)
 have nl:¬ ((cntN (fun x y=>(v.at sz x y).isSome) (2^sz) (2^sz):Nat):Int) < ((cntN (fun x y=>!decide (g1 x y=g3 x y)) (2^sz) (2^sz):Nat):Int):=by omega
 have rf:=sE c1.p p2 ns (n:=39) (by decide)
 rw[show D.lst (ns.map .int)=scr ns from rfl,rQ,ib]
 simp only[STP,if_true,if_false,ite_true,ite_false,reduceIte,reduceCtorEq,i0]at ey
 simp only[STP,if_true,if_false,ite_true,ite_false,reduceIte,reduceCtorEq,hsz,r2,M,un,s2,M2,s3,M3,i0,i1,q1,q2,q3,q4,n1,m1,m2,g7,List.length_map,nW,dm,decide_true,ap,d1,d2,nb,A,M4]
 rw[ey]
 simp only[STP,if_true,if_false,ite_true,ite_false,reduceIte,reduceCtorEq,lr,lr3,ul,v1,v2,bt,mv,dm,decide_true,tt,decide_eq_false nl,rf]
end Lw
end
end
noncomputable section
set_option maxHeartbeats 4000000
namespace Lw
open PySem PySem.Spec PyProof.Rows L2 FF
def cname:Nat→Str
 | 0 => "FourError"
 | 1 => "NoPicture"
 | 2 => "NoSpot"
 | 3 => "BadBox"
 | 4 => "Unlike"
 | 5 => "NoRule"
 | 6 => "NoBlocks"
 | 7 => "NoChange"
 | 8 => "NoNumber"
 | 9 => "NothingDone"
 | 10 => "NoText"
 | 21 => "is_worth"
 | 146 => "first_worth"
 | 147 => "last_worth"
 | 148 => "least_worth"
 | 149 => "greatest_worth"
 | 150 => "sum_worth"
 | 151 => "times_worth"
 | 152 => "less_worth"
 | 153 => "same_worth"
 | 230 => "is_setting"
 | 234 => "set_over"
 | 251 => "set_by_both"
 | _ => "?"
def Cof (K:PySem.W.Frag)(i:Nat):Addr:=match PySem.W.nsIn K mainGlobals (cname i) with
 | some (some (.ref a))=>a
 | _=>0
theorem cof {K:PySem.W.Frag}{i:Nat}{x:Str}{a:Addr}(h:Ng K x (some (.ref a)))(hx:cname i=x:=by rfl):Cof K i=a:=by unfold Cof;rw[hx,h]
structure Fds (K:PySem.W.Frag)(mg:Str→Option Value):Prop where
 F20:Fd K mg "is_whole" ["thing"] iJ
 F21:Fd K mg "is_worth" ["thing"] iK
 F22:Fd K mg "is_size" ["thing"] jS
 F23:Fd K mg "is_tree" ["size","thing","is_end"] jT
 F24:Fd K mg "is_sized_tree" ["thing","is_end"] cZ
 F25:Fd K mg "put_together" ["four"] dG
 F26:Fd K mg "lean_tree" ["tree"] gD
 F105:Fd K mg "quarters_in" ["tree"] eh
 F43:Fd K mg "worth_in" ["tree","side","x","y"] iL
 F27:Fd K mg "is_picture" ["thing"] fF
 F28:Fd K mg "check_picture" ["thing"] c6
 F45:Fd K mg "side_of" ["picture"] jW
 F49:Fd K mg "shown_row" ["picture","y"] gF
 F50:Fd K mg "shown_rows" ["picture"] fG
 F188:Fd K mg "blocks_in" ["tree","left","top","side"] gG
 F146:Fd K mg "first_worth" ["one","other"] ek
 F147:Fd K mg "last_worth" ["one","other"] fH
 F148:Fd K mg "least_worth" ["one","other"] em
 F149:Fd K mg "greatest_worth" ["one","other"] cJ
 F150:Fd K mg "sum_worth" ["one","other"] gH
 F151:Fd K mg "times_worth" ["one","other"] en
 F152:Fd K mg "less_worth" ["one","other"] fI
 F153:Fd K mg "same_worth" ["one","other"] fJ
 F154:Fd K mg "check_word" ["thing","words"] fK
 F155:Fd K mg "check_rule" ["thing"] fL
 F158:Fd K mg "check_sizes" ["things"] et
 F159:Fd K mg "check_pictures" ["pictures"] cK
 F160:Fd K mg "joined_tree" ["make","one","other"] eu
 F161:Fd K mg "joined" ["rule","one","other"] lJ
 F72:Fd K mg "worths_of" ["rows"] gK
 F75:Fd K mg "counts" ["picture"] lK
 F230:Fd K mg "is_setting" ["thing"] fN
 F231:Fd K mg "is_change" ["thing"] gL
 F232:Fd K mg "check_change" ["thing"] dH
 F246:Fd K mg "check_changes" ["one","other"] c7
 F233:Fd K mg "lean_change" ["change"] ez
 F234:Fd K mg "set_over" ["one","other"] iM
 F236:Fd K mg "tree_between" ["one","other"] dJ
 F237:Fd K mg "between" ["one","other"] jY
 F247:Fd K mg "behind" ["one","other"] lM
 F251:Fd K mg "set_by_both" ["one","other"] eB
 F252:Fd K mg "are_apart" ["one","other"] gM
 F253:Fd K mg "squares_set" ["change"] eD
 F254:Fd K mg "many_set" ["change"] iO
 F255:Fd K mg "worths_unlike" ["one","other"] c8
 F30:Fd K mg "_law_cell" ["_law_script","_law_k"] lO
 F31:Fd K mg "_law_pick" ["_law_script","_law_k","_law_many"] lP
 F32:Fd K mg "_law_tree" ["_law_script","_law_at","_law_size"] lQ
 F54:Fd K mg "_law_rows_of" ["_law_size","_law_tree_here"] gO
 F55:Fd K mg "_law_rows" ["_law_picture_here"] lR
 F56:Fd K mg "_law_least" ["_law_rows_here"] j0
 F57:Fd K mg "_law_of" ["_law_rows_here"] rW
 F34:Fd K mg "_law_places" ["_law_thing"] iP
 F35:Fd K mg "_law_put" ["_law_thing","_law_place","_law_new"] oM
 F36:Fd K mg "_law_there" ["_law_thing","_law_place"] j3
 F37:Fd K mg "_law_spoilt_thing" ["_law_script","_law_at","_law_thing"] cL
 F38:Fd K mg "_law_is_picture" ["_law_thing"] dL
 F39:Fd K mg "_law_is_tree" ["_law_thing","_law_size"] gQ
 F238:Fd K mg "_law_is_change" ["_law_thing"] eE
 F239:Fd K mg "_law_is_change_tree" ["_law_thing","_law_size"] cf
 F240:Fd K mg "_law_change_tree" ["_law_script","_law_at","_law_size"] c9
 F241:Fd K mg "_law_set" ["_law_size","_law_tree_here"] oO
 F242:Fd K mg "_law_least_set" ["_law_rows_here"] eF
 F40:Fd K mg "_law_word" ["_law_kept"] lU
 F256:Fd K mg "_law_do" ["_law_what","_law_one","_law_other"] lV
 F257:Fd K mg "_law_squares" ["_law_tree_here","_law_left","_law_top","_law_side"] gS
 F258:Fd K mg "_law_spots" ["_law_rows_here"] gT
 F259:Fd K mg "_law_refuses" ["_law_script","_law_one","_law_mine"] gU
 F260:Fd K mg "law" ["_law_script"] bD
theorem tab {P:Program}{w:World}{K:PySem.W.Frag}{mg:Str→Option Value}{base:Heap}{C:Nat→Addr}(T:Txt K mg C w.params)(S:Fds K mg):∀ n,Tab P w K mg base C n (pf n)
 | 0=>⟨g0 S.F20,g0 S.F21,g0 S.F22,g0 S.F23,g0 S.F24,g0 S.F25,g0 S.F26,g0 S.F105,g0 S.F43,g0 S.F27,g0 S.F28,g0 S.F45,g0 S.F49,g0 S.F50,g0 S.F188,g0 S.F146,g0 S.F147,g0 S.F148,g0 S.F149,g0 S.F150,g0 S.F151,g0 S.F152,g0 S.F153,g0 S.F154,g0 S.F155,g0 S.F158,g0 S.F159,g0 S.F160,g0 S.F161,g0 S.F72,g0 S.F75,g0 S.F230,g0 S.F231,g0 S.F232,g0 S.F246,g0 S.F233,g0 S.F234,g0 S.F236,g0 S.F237,g0 S.F247,g0 S.F251,g0 S.F252,g0 S.F253,g0 S.F254,g0 S.F255,g0 S.F30,g0 S.F31,g0 S.F32,g0 S.F54,g0 S.F55,g0 S.F56,g0 S.F57,g0 S.F34,g0 S.F35,g0 S.F36,g0 S.F37,g0 S.F38,g0 S.F39,g0 S.F238,g0 S.F239,g0 S.F240,g0 S.F241,g0 S.F242,g0 S.F40,g0 S.F256,g0 S.F257,g0 S.F258,g0 S.F259,g0 S.F260,
  fun i hi=>by
  simp only[fvL,List.mem_cons,List.not_mem_nil,or_false]at hi
  rcases hi with rfl | rfl | rfl | rfl | rfl | rfl | rfl | rfl | rfl | rfl | rfl | rfl
  ·exact fY S.F21 T.f_is_worth
  ·exact fY S.F146 T.f_first_worth
  ·exact fY S.F147 T.f_last_worth
  ·exact fY S.F148 T.f_least_worth
  ·exact fY S.F149 T.f_greatest_worth
  ·exact fY S.F150 T.f_sum_worth
  ·exact fY S.F151 T.f_times_worth
  ·exact fY S.F152 T.f_less_worth
  ·exact fY S.F153 T.f_same_worth
  ·exact fY S.F230 T.f_is_setting
  ·exact fY S.F234 T.f_set_over
  ·exact fY S.F251 T.f_set_by_both⟩
 | n+1=>by
  have G:=tab T S n (P:=P) (w:=w) (base:=base)
  exact⟨g1 S.F20 (qm T G),g1 S.F21 (ku T G),g1 S.F22 (rX T G),g1 S.F23 (rY T G),g1 S.F24 (j5 T G),g1 S.F25 (kG T G),g1 S.F26 (oP T G),g1 S.F105 (lW T G),g1 S.F43 (qo T G),g1 S.F27 (mT T G),g1 S.F28 (j6 T G),g1 S.F45 (rZ T G),g1 S.F49 (oQ T G),g1 S.F50 (mU T G),g1 S.F188 (oR T G),g1 S.F146 (gW T G),g1 S.F147 (iw T G),g1 S.F148 (gX T G),g1 S.F149 (dZ T G),g1 S.F150 (ju T G),g1 S.F151 (gY T G),g1 S.F152 (iy T G),g1 S.F153 (iz T G),g1 S.F154 (mV T G),g1 S.F155 (mW T G),g1 S.F158 (lX T G),g1 S.F159 (jv T G),g1 S.F160 (lY T G),g1 S.F161 (uX T G),g1 S.F72 (oS T G),g1 S.F75 (uY T G),g1 S.F230 (iA T G),g1 S.F231 (oU T G),g1 S.F232 (kH T G),g1 S.F246 (j7 T G),g1 S.F233 (lZ T G),g1 S.F234 (kv T G),g1 S.F236 (kI T G),g1 S.F237 (r6 T G),g1 S.F247 (uZ T G),g1 S.F251 (gZ T G),g1 S.F252 (oV T G),g1 S.F253 (l4 T G),g1 S.F254 (qp T G),g1 S.F255 (j8 T G),g1 S.F30 (u0 T G),g1 S.F31 (u5 T G),g1 S.F32 (u6 T G),g1 S.F54 (oW T G),g1 S.F55 (u7 T G),g1 S.F56 (r8 T G),g1 S.F57 (yy T G),g1 S.F34 (qq T G),g1 S.F35 (wN T G),g1 S.F36 (r9 T G),g1 S.F37 (jw T G),g1 S.F38 (kJ T G),g1 S.F39 (oX T G),g1 S.F238 (l5 T G),g1 S.F239 (im T G),g1 S.F240 (j9 T G),g1 S.F241 (wO T G),g1 S.F242 (l6 T G),g1 S.F40 (u8 T G),g1 S.F256 (u9 T G),g1 S.F257 (oY T G),g1 S.F258 (oZ T G),g1 S.F259 (o0 T G),g1 S.F260 (l7 T G),
  fun i hi=>by
  simp only[fvL,List.mem_cons,List.not_mem_nil,or_false]at hi
  rcases hi with rfl | rfl | rfl | rfl | rfl | rfl | rfl | rfl | rfl | rfl | rfl | rfl
  ·exact fZ S.F21 T.f_is_worth (ku T G) (fun ds h=>y4 h)
  ·exact fZ S.F146 T.f_first_worth (gW T G) (fun ds h=>io h)
  ·exact fZ S.F147 T.f_last_worth (iw T G) (fun ds h=>io h)
  ·exact fZ S.F148 T.f_least_worth (gX T G) (fun ds h=>io h)
  ·exact fZ S.F149 T.f_greatest_worth (dZ T G) (fun ds h=>io h)
  ·exact fZ S.F150 T.f_sum_worth (ju T G) (fun ds h=>io h)
  ·exact fZ S.F151 T.f_times_worth (gY T G) (fun ds h=>io h)
  ·exact fZ S.F152 T.f_less_worth (iy T G) (fun ds h=>io h)
  ·exact fZ S.F153 T.f_same_worth (iz T G) (fun ds h=>io h)
  ·exact fZ S.F230 T.f_is_setting (iA T G) (fun ds h=>y4 h)
  ·exact fZ S.F234 T.f_set_over (kv T G) (fun ds h=>io h)
  ·exact fZ S.F251 T.f_set_by_both (gZ T G) (fun ds h=>io h)⟩
theorem At {l:PySem.W.OpenLaw}{w:World}{K:PySem.W.Frag}{h:Heap}{mg:Str→Option Value}{fa f1 f15 f16 f17 f18 f19 f20 f21 f22 f31 f36 f40 f68 C0 C1 C2 C3 C4 C5 C6 C7 C8 C9 C10:Addr}(X:K.In h)(G:h.Ns mainGlobals mg)(hfa:mg "law"=some (.ref fa))(S:Fds K mg)
  {od68 an68:Option Addr} {sl68:Array (Option Value)} {oc68 kV68 dc68 pm68 cd68 ct68:Value} {tk_GREATEST_WORTH tk_LARGEST_SIZE:Tok} {ta_SIDES:Addr} {tn_SIDES:Nat} {ts_SIDES:Array (Option Value)} {tt_SIDES_0 tt_SIDES_1 tt_SIDES_2 tt_SIDES_3:Tok} {td_RULES:Addr} {dn_RULES:Nat} {dt_RULES_0 dt_RULES_1 dt_RULES_2 dt_RULES_3 dt_RULES_4 dt_RULES_5 dt_RULES_6 dt_RULES_7:Tok} {cl_NoPicture cl_NoSpot cl_BadBox cl_Unlike cl_NoRule cl_NoBlocks cl_NoChange cl_NoNumber cl_NothingDone cl_NoText:ClassData}
  (z0:Ng K "is_worth" (some (.ref f1)))
  (z1:Ng K "first_worth" (some (.ref f15)))
  (z2:Ng K "last_worth" (some (.ref f16)))
  (z3:Ng K "least_worth" (some (.ref f17)))
  (z4:Ng K "greatest_worth" (some (.ref f18)))
  (z5:Ng K "sum_worth" (some (.ref f19)))
  (z6:Ng K "times_worth" (some (.ref f20)))
  (z7:Ng K "less_worth" (some (.ref f21)))
  (z8:Ng K "same_worth" (some (.ref f22)))
  (z9:Ng K "is_setting" (some (.ref f31)))
  (z10:Ng K "set_over" (some (.ref f36)))
  (z11:Ng K "set_by_both" (some (.ref f40)))
  (z12:Ng K "law" (some (.ref f68)))
  (z13:K.lookup f68=some ⟨oc68,od68,.func (PySem.W.fnOf "law" "law" (defArgs bD) (defBody bD) (defScope bD) .none kV68 dc68 pm68 an68 cd68 ct68),sl68⟩)
  (z14:PySem.W.codeIn K cd68 "law"=true)
  (z15:PySem.W.keepIn K (.ref f68)=true)
  (z16:Ng K "ValueError" none)
  (z17:Ng K "abs" none)
  (z18:Ng K "all" none)
  (z19:Ng K "bool" none)
  (z20:Ng K "enumerate" none)
  (z21:Ng K "int" none)
  (z22:Ng K "isinstance" none)
  (z23:Ng K "len" none)
  (z24:Ng K "list" none)
  (z25:Ng K "max" none)
  (z26:Ng K "min" none)
  (z27:Ng K "range" none)
  (z28:Ng K "set" none)
  (z29:Ng K "sum" none)
  (z30:Ng K "tuple" none)
  (z31:Ng K "zip" none)
  (z32:Ng K "GREATEST_WORTH" (some (.int 9 tk_GREATEST_WORTH)))
  (z33:Ng K "LARGEST_SIZE" (some (.int 3 tk_LARGEST_SIZE)))
  (z34:Ng K "SIDES" (some (.ref ta_SIDES)))
  (z35:K.lookup ta_SIDES=some ⟨.type "tuple",none,.seq #[.int 1 tt_SIDES_0,.int 2 tt_SIDES_1,.int 4 tt_SIDES_2,.int 8 tt_SIDES_3] tn_SIDES,ts_SIDES⟩)
  (z36:Ng K "RULES" (some (.ref td_RULES)))
  (z37:K.lookup td_RULES=some ⟨.type "dict",none,.dict #[⟨PyData.keyHash w.params "first",.str "first" dt_RULES_0,.ref f15⟩,⟨PyData.keyHash w.params "last",.str "last" dt_RULES_1,.ref f16⟩,⟨PyData.keyHash w.params "least",.str "least" dt_RULES_2,.ref f17⟩,⟨PyData.keyHash w.params "greatest",.str "greatest" dt_RULES_3,.ref f18⟩,⟨PyData.keyHash w.params "sum",.str "sum" dt_RULES_4,.ref f19⟩,⟨PyData.keyHash w.params "times",.str "times" dt_RULES_5,.ref f20⟩,⟨PyData.keyHash w.params "less",.str "less" dt_RULES_6,.ref f21⟩,⟨PyData.keyHash w.params "same",.str "same" dt_RULES_7,.ref f22⟩] dn_RULES,#[]⟩)
  (z38:(td_RULES==sysModules)=false)
  (z39:Ng K "FourError" (some (.ref C0)))
  (z40:Ng K "NoPicture" (some (.ref C1)))
  (z41:Ng K "NoSpot" (some (.ref C2)))
  (z42:Ng K "BadBox" (some (.ref C3)))
  (z43:Ng K "Unlike" (some (.ref C4)))
  (z44:Ng K "NoRule" (some (.ref C5)))
  (z45:Ng K "NoBlocks" (some (.ref C6)))
  (z46:Ng K "NoChange" (some (.ref C7)))
  (z47:Ng K "NoNumber" (some (.ref C8)))
  (z48:Ng K "NothingDone" (some (.ref C9)))
  (z49:Ng K "NoText" (some (.ref C10)))
  (z50:PySem.W.excIn K C1 bmVE "ValueError.__new__"=true)
  (z51:PySem.W.excIn K C4 bmVE "ValueError.__new__"=true)
  (z52:PySem.W.excIn K C5 bmVE "ValueError.__new__"=true)
  (z53:PySem.W.excIn K C7 bmVE "ValueError.__new__"=true)
  (z54:PySem.W.excIn K C0 bmVE "ValueError.__new__"=true)
  (z55:PySem.W.clsIn K C1=some cl_NoPicture)
  (z56:PySem.W.typeIn K (.ref C1)=some (.type "type"))
  (z57:PySem.W.clsIn K C2=some cl_NoSpot)
  (z58:PySem.W.typeIn K (.ref C2)=some (.type "type"))
  (z59:PySem.W.clsIn K C3=some cl_BadBox)
  (z60:PySem.W.typeIn K (.ref C3)=some (.type "type"))
  (z61:PySem.W.clsIn K C4=some cl_Unlike)
  (z62:PySem.W.typeIn K (.ref C4)=some (.type "type"))
  (z63:PySem.W.clsIn K C5=some cl_NoRule)
  (z64:PySem.W.typeIn K (.ref C5)=some (.type "type"))
  (z65:PySem.W.clsIn K C6=some cl_NoBlocks)
  (z66:PySem.W.typeIn K (.ref C6)=some (.type "type"))
  (z67:PySem.W.clsIn K C7=some cl_NoChange)
  (z68:PySem.W.typeIn K (.ref C7)=some (.type "type"))
  (z69:PySem.W.clsIn K C8=some cl_NoNumber)
  (z70:PySem.W.typeIn K (.ref C8)=some (.type "type"))
  (z71:PySem.W.clsIn K C9=some cl_NothingDone)
  (z72:PySem.W.typeIn K (.ref C9)=some (.type "type"))
  (z73:PySem.W.clsIn K C10=some cl_NoText)
  (z74:PySem.W.typeIn K (.ref C10)=some (.type "type"))
  (z75:PySem.W.subIn K (.ref C1) (.ref C1)=some true)
  (z76:PySem.W.subIn K (.ref C1) (.ref C2)=some false)
  (z77:PySem.W.subIn K (.ref C1) (.ref C3)=some false)
  (z78:PySem.W.subIn K (.ref C1) (.ref C4)=some false)
  (z79:PySem.W.subIn K (.ref C1) (.ref C5)=some false)
  (z80:PySem.W.subIn K (.ref C1) (.ref C6)=some false)
  (z81:PySem.W.subIn K (.ref C1) (.ref C7)=some false)
  (z82:PySem.W.subIn K (.ref C1) (.ref C8)=some false)
  (z83:PySem.W.subIn K (.ref C1) (.ref C9)=some false)
  (z84:PySem.W.subIn K (.ref C1) (.ref C10)=some false)
  (z85:PySem.W.subIn K (.ref C1) (.ref C0)=some true)
  (z86:PySem.W.subIn K (.ref C1) (.type "ValueError")=some true)
  (z87:PySem.W.findIn K (.ref C1) "__getattribute__"=some (some (.builtin "BaseException.__getattribute__")))
  (z88:PySem.W.findIn K (.ref C1) "__getattr__"=some none)
  (z89:PySem.W.findIn K (.ref C1) "__class__"=some (some (.builtin "object.__class__")))
  (z90:PySem.W.subIn K (.ref C1) (.type "BaseException")=some true)
  (z91:PySem.W.subIn K (.ref C1) (.type "object")=some true)
  (z92:PySem.W.subIn K (.ref C4) (.ref C1)=some false)
  (z93:PySem.W.subIn K (.ref C4) (.ref C2)=some false)
  (z94:PySem.W.subIn K (.ref C4) (.ref C3)=some false)
  (z95:PySem.W.subIn K (.ref C4) (.ref C4)=some true)
  (z96:PySem.W.subIn K (.ref C4) (.ref C5)=some false)
  (z97:PySem.W.subIn K (.ref C4) (.ref C6)=some false)
  (z98:PySem.W.subIn K (.ref C4) (.ref C7)=some false)
  (z99:PySem.W.subIn K (.ref C4) (.ref C8)=some false)
  (z100:PySem.W.subIn K (.ref C4) (.ref C9)=some false)
  (z101:PySem.W.subIn K (.ref C4) (.ref C10)=some false)
  (z102:PySem.W.subIn K (.ref C4) (.ref C0)=some true)
  (z103:PySem.W.subIn K (.ref C4) (.type "ValueError")=some true)
  (z104:PySem.W.findIn K (.ref C4) "__getattribute__"=some (some (.builtin "BaseException.__getattribute__")))
  (z105:PySem.W.findIn K (.ref C4) "__getattr__"=some none)
  (z106:PySem.W.findIn K (.ref C4) "__class__"=some (some (.builtin "object.__class__")))
  (z107:PySem.W.subIn K (.ref C4) (.type "BaseException")=some true)
  (z108:PySem.W.subIn K (.ref C4) (.type "object")=some true)
  (z109:PySem.W.subIn K (.ref C5) (.ref C1)=some false)
  (z110:PySem.W.subIn K (.ref C5) (.ref C2)=some false)
  (z111:PySem.W.subIn K (.ref C5) (.ref C3)=some false)
  (z112:PySem.W.subIn K (.ref C5) (.ref C4)=some false)
  (z113:PySem.W.subIn K (.ref C5) (.ref C5)=some true)
  (z114:PySem.W.subIn K (.ref C5) (.ref C6)=some false)
  (z115:PySem.W.subIn K (.ref C5) (.ref C7)=some false)
  (z116:PySem.W.subIn K (.ref C5) (.ref C8)=some false)
  (z117:PySem.W.subIn K (.ref C5) (.ref C9)=some false)
  (z118:PySem.W.subIn K (.ref C5) (.ref C10)=some false)
  (z119:PySem.W.subIn K (.ref C5) (.ref C0)=some true)
  (z120:PySem.W.subIn K (.ref C5) (.type "ValueError")=some true)
  (z121:PySem.W.findIn K (.ref C5) "__getattribute__"=some (some (.builtin "BaseException.__getattribute__")))
  (z122:PySem.W.findIn K (.ref C5) "__getattr__"=some none)
  (z123:PySem.W.findIn K (.ref C5) "__class__"=some (some (.builtin "object.__class__")))
  (z124:PySem.W.subIn K (.ref C5) (.type "BaseException")=some true)
  (z125:PySem.W.subIn K (.ref C5) (.type "object")=some true)
  (z126:PySem.W.subIn K (.ref C7) (.ref C1)=some false)
  (z127:PySem.W.subIn K (.ref C7) (.ref C2)=some false)
  (z128:PySem.W.subIn K (.ref C7) (.ref C3)=some false)
  (z129:PySem.W.subIn K (.ref C7) (.ref C4)=some false)
  (z130:PySem.W.subIn K (.ref C7) (.ref C5)=some false)
  (z131:PySem.W.subIn K (.ref C7) (.ref C6)=some false)
  (z132:PySem.W.subIn K (.ref C7) (.ref C7)=some true)
  (z133:PySem.W.subIn K (.ref C7) (.ref C8)=some false)
  (z134:PySem.W.subIn K (.ref C7) (.ref C9)=some false)
  (z135:PySem.W.subIn K (.ref C7) (.ref C10)=some false)
  (z136:PySem.W.subIn K (.ref C7) (.ref C0)=some true)
  (z137:PySem.W.subIn K (.ref C7) (.type "ValueError")=some true)
  (z138:PySem.W.findIn K (.ref C7) "__getattribute__"=some (some (.builtin "BaseException.__getattribute__")))
  (z139:PySem.W.findIn K (.ref C7) "__getattr__"=some none)
  (z140:PySem.W.findIn K (.ref C7) "__class__"=some (some (.builtin "object.__class__")))
  (z141:PySem.W.subIn K (.ref C7) (.type "BaseException")=some true)
  (z142:PySem.W.subIn K (.ref C7) (.type "object")=some true) :
  ∃ fd:FuncData,(∀ (s:Shared) (v:Value),BindsTo s fd ⟨[v],[]⟩ [("_law_script",v)])∧∀ base:Heap,K.In base→base.Ns mainGlobals mg→FnOk l.prog w K mg base (CXE l.prog w) 40 fa fd ["_law_script"] (spF K (Cof K) 1 (pf 40 Lw.F.a3)):=by
 have e:=hfa.symm.trans (PySem.W.mg_of X G z12)
 cases e
 have q_FourError:Cof K 0=C0:=cof z39
 have q_NoPicture:Cof K 1=C1:=cof z40
 have q_NoSpot:Cof K 2=C2:=cof z41
 have q_BadBox:Cof K 3=C3:=cof z42
 have q_Unlike:Cof K 4=C4:=cof z43
 have q_NoRule:Cof K 5=C5:=cof z44
 have q_NoBlocks:Cof K 6=C6:=cof z45
 have q_NoChange:Cof K 7=C7:=cof z46
 have q_NoNumber:Cof K 8=C8:=cof z47
 have q_NothingDone:Cof K 9=C9:=cof z48
 have q_NoText:Cof K 10=C10:=cof z49
 have xk_NoPicture:ExcK K (Cof K 1):=by rw[q_NoPicture];exact⟨z87,z88,z89,z90,z91,by rw[z55];rfl⟩
 have xk_Unlike:ExcK K (Cof K 4):=by rw[q_Unlike];exact⟨z104,z105,z106,z107,z108,by rw[z61];rfl⟩
 have xk_NoRule:ExcK K (Cof K 5):=by rw[q_NoRule];exact⟨z121,z122,z123,z124,z125,by rw[z63];rfl⟩
 have xk_NoChange:ExcK K (Cof K 7):=by rw[q_NoChange];exact⟨z138,z139,z140,z141,z142,by rw[z67];rfl⟩
 have T:Txt K mg (Cof K) w.params:=⟨PySem.W.mg_none_of X G z16,
  PySem.W.mg_none_of X G z17,
  PySem.W.mg_none_of X G z18,
  PySem.W.mg_none_of X G z19,
  PySem.W.mg_none_of X G z20,
  PySem.W.mg_none_of X G z21,
  PySem.W.mg_none_of X G z22,
  PySem.W.mg_none_of X G z23,
  PySem.W.mg_none_of X G z24,
  PySem.W.mg_none_of X G z25,
  PySem.W.mg_none_of X G z26,
  PySem.W.mg_none_of X G z27,
  PySem.W.mg_none_of X G z28,
  PySem.W.mg_none_of X G z29,
  PySem.W.mg_none_of X G z30,
  PySem.W.mg_none_of X G z31,
  ⟨_,PySem.W.mg_of X G z32⟩,
  ⟨_,PySem.W.mg_of X G z33⟩,
  ⟨_,PySem.W.mg_of X G z34,_,_,_,z35,rfl,rfl,rfl,by show 4≤sizeLine;decide,(.cons ⟨_,rfl⟩ (.cons ⟨_,rfl⟩ (.cons ⟨_,rfl⟩ (.cons ⟨_,rfl⟩ .nil))))⟩,
  ⟨_,PySem.W.mg_of X G z36,_,_,z37,⟨⟨_,_,rfl,rfl⟩,⟨⟨_,_,rfl,rfl⟩,⟨⟨_,_,rfl,rfl⟩,⟨⟨_,_,rfl,rfl⟩,⟨⟨_,_,rfl,rfl⟩,⟨⟨_,_,rfl,rfl⟩,⟨⟨_,_,rfl,rfl⟩,⟨⟨_,_,rfl,rfl⟩,trivial⟩⟩⟩⟩⟩⟩⟩⟩,⟨⟨_,rfl⟩,congrArg Value.ref (cof (i:=F.aF) z1).symm,⟨⟨_,rfl⟩,congrArg Value.ref (cof (i:=F.aO) z2).symm,⟨⟨_,rfl⟩,congrArg Value.ref (cof (i:=F.aG) z3).symm,⟨⟨_,rfl⟩,congrArg Value.ref (cof (i:=F.aw) z4).symm,⟨⟨_,rfl⟩,congrArg Value.ref (cof (i:=F.aY) z5).symm,⟨⟨_,rfl⟩,congrArg Value.ref (cof (i:=F.aH) z6).symm,⟨⟨_,rfl⟩,congrArg Value.ref (cof (i:=F.aP) z7).symm,⟨⟨_,rfl⟩,congrArg Value.ref (cof (i:=F.aq) z8).symm,trivial⟩⟩⟩⟩⟩⟩⟩⟩,by decide +kernel,by decide,z38⟩,
  (by rw[cof (i:=F.aA) z0];exact PySem.W.mg_of X G z0),
  (by rw[cof (i:=F.aF) z1];exact PySem.W.mg_of X G z1),
  (by rw[cof (i:=F.aO) z2];exact PySem.W.mg_of X G z2),
  (by rw[cof (i:=F.aG) z3];exact PySem.W.mg_of X G z3),
  (by rw[cof (i:=F.aw) z4];exact PySem.W.mg_of X G z4),
  (by rw[cof (i:=F.aY) z5];exact PySem.W.mg_of X G z5),
  (by rw[cof (i:=F.aH) z6];exact PySem.W.mg_of X G z6),
  (by rw[cof (i:=F.aP) z7];exact PySem.W.mg_of X G z7),
  (by rw[cof (i:=F.aq) z8];exact PySem.W.mg_of X G z8),
  (by rw[cof (i:=F.ar) z9];exact PySem.W.mg_of X G z9),
  (by rw[cof (i:=F.aB) z10];exact PySem.W.mg_of X G z10),
  (by rw[cof (i:=F.ay) z11];exact PySem.W.mg_of X G z11),
  (by rw[q_FourError];exact PySem.W.mg_of X G z39),
  (by rw[q_NoPicture];exact PySem.W.mg_of X G z40),
  (by rw[q_NoSpot];exact PySem.W.mg_of X G z41),
  (by rw[q_BadBox];exact PySem.W.mg_of X G z42),
  (by rw[q_Unlike];exact PySem.W.mg_of X G z43),
  (by rw[q_NoRule];exact PySem.W.mg_of X G z44),
  (by rw[q_NoBlocks];exact PySem.W.mg_of X G z45),
  (by rw[q_NoChange];exact PySem.W.mg_of X G z46),
  (by rw[q_NoNumber];exact PySem.W.mg_of X G z47),
  (by rw[q_NothingDone];exact PySem.W.mg_of X G z48),
  (by rw[q_NoText];exact PySem.W.mg_of X G z49),
  (by rw[q_NoPicture];exact z50),
  (by rw[q_Unlike];exact z51),
  (by rw[q_NoRule];exact z52),
  (by rw[q_NoChange];exact z53),
  (d9 (fun j hj=>by
   simp only[esL,List.mem_cons,List.not_mem_nil,or_false]at hj
   rcases hj with rfl | rfl | rfl | rfl
   ·rw[q_NoPicture,q_BadBox];exact aA z59 z60 z77 z75
   ·rw[q_Unlike,q_BadBox];exact aA z59 z60 z94 z95
   ·rw[q_NoRule,q_BadBox];exact aA z59 z60 z111 z113
   ·rw[q_NoChange,q_BadBox];exact aA z59 z60 z128 z132) (fun j hj=>by
   simp only[esL,List.mem_cons,List.not_mem_nil,or_false]at hj
   rcases hj with rfl | rfl | rfl | rfl
   ·exact xk_NoPicture
   ·exact xk_Unlike
   ·exact xk_NoRule
   ·exact xk_NoChange)),
  (d9 (fun j hj=>by
   simp only[esL,List.mem_cons,List.not_mem_nil,or_false]at hj
   rcases hj with rfl | rfl | rfl | rfl
   ·rw[q_NoPicture,q_NoBlocks];exact aA z65 z66 z80 z75
   ·rw[q_Unlike,q_NoBlocks];exact aA z65 z66 z97 z95
   ·rw[q_NoRule,q_NoBlocks];exact aA z65 z66 z114 z113
   ·rw[q_NoChange,q_NoBlocks];exact aA z65 z66 z131 z132) (fun j hj=>by
   simp only[esL,List.mem_cons,List.not_mem_nil,or_false]at hj
   rcases hj with rfl | rfl | rfl | rfl
   ·exact xk_NoPicture
   ·exact xk_Unlike
   ·exact xk_NoRule
   ·exact xk_NoChange)),
  (d9 (fun j hj=>by
   simp only[esL,List.mem_cons,List.not_mem_nil,or_false]at hj
   rcases hj with rfl | rfl | rfl | rfl
   ·rw[q_NoPicture,q_NoChange];exact aA z67 z68 z81 z75
   ·rw[q_Unlike,q_NoChange];exact aA z67 z68 z98 z95
   ·rw[q_NoRule,q_NoChange];exact aA z67 z68 z115 z113
   ·rw[q_NoChange];exact aA z67 z68 z132 z132) (fun j hj=>by
   simp only[esL,List.mem_cons,List.not_mem_nil,or_false]at hj
   rcases hj with rfl | rfl | rfl | rfl
   ·exact xk_NoPicture
   ·exact xk_Unlike
   ·exact xk_NoRule
   ·exact xk_NoChange)),
  (d9 (fun j hj=>by
   simp only[esL,List.mem_cons,List.not_mem_nil,or_false]at hj
   rcases hj with rfl | rfl | rfl | rfl
   ·rw[q_NoPicture,q_NoNumber];exact aA z69 z70 z82 z75
   ·rw[q_Unlike,q_NoNumber];exact aA z69 z70 z99 z95
   ·rw[q_NoRule,q_NoNumber];exact aA z69 z70 z116 z113
   ·rw[q_NoChange,q_NoNumber];exact aA z69 z70 z133 z132) (fun j hj=>by
   simp only[esL,List.mem_cons,List.not_mem_nil,or_false]at hj
   rcases hj with rfl | rfl | rfl | rfl
   ·exact xk_NoPicture
   ·exact xk_Unlike
   ·exact xk_NoRule
   ·exact xk_NoChange)),
  (d9 (fun j hj=>by
   simp only[esL,List.mem_cons,List.not_mem_nil,or_false]at hj
   rcases hj with rfl | rfl | rfl | rfl
   ·rw[q_NoPicture];exact aA z55 z56 z75 z75
   ·rw[q_Unlike,q_NoPicture];exact aA z55 z56 z92 z95
   ·rw[q_NoRule,q_NoPicture];exact aA z55 z56 z109 z113
   ·rw[q_NoChange,q_NoPicture];exact aA z55 z56 z126 z132) (fun j hj=>by
   simp only[esL,List.mem_cons,List.not_mem_nil,or_false]at hj
   rcases hj with rfl | rfl | rfl | rfl
   ·exact xk_NoPicture
   ·exact xk_Unlike
   ·exact xk_NoRule
   ·exact xk_NoChange)),
  (d9 (fun j hj=>by
   simp only[esL,List.mem_cons,List.not_mem_nil,or_false]at hj
   rcases hj with rfl | rfl | rfl | rfl
   ·rw[q_NoPicture,q_NoRule];exact aA z63 z64 z79 z75
   ·rw[q_Unlike,q_NoRule];exact aA z63 z64 z96 z95
   ·rw[q_NoRule];exact aA z63 z64 z113 z113
   ·rw[q_NoChange,q_NoRule];exact aA z63 z64 z130 z132) (fun j hj=>by
   simp only[esL,List.mem_cons,List.not_mem_nil,or_false]at hj
   rcases hj with rfl | rfl | rfl | rfl
   ·exact xk_NoPicture
   ·exact xk_Unlike
   ·exact xk_NoRule
   ·exact xk_NoChange)),
  (d9 (fun j hj=>by
   simp only[esL,List.mem_cons,List.not_mem_nil,or_false]at hj
   rcases hj with rfl | rfl | rfl | rfl
   ·rw[q_NoPicture,q_NoSpot];exact aA z57 z58 z76 z75
   ·rw[q_Unlike,q_NoSpot];exact aA z57 z58 z93 z95
   ·rw[q_NoRule,q_NoSpot];exact aA z57 z58 z110 z113
   ·rw[q_NoChange,q_NoSpot];exact aA z57 z58 z127 z132) (fun j hj=>by
   simp only[esL,List.mem_cons,List.not_mem_nil,or_false]at hj
   rcases hj with rfl | rfl | rfl | rfl
   ·exact xk_NoPicture
   ·exact xk_Unlike
   ·exact xk_NoRule
   ·exact xk_NoChange)),
  (d9 (fun j hj=>by
   simp only[esL,List.mem_cons,List.not_mem_nil,or_false]at hj
   rcases hj with rfl | rfl | rfl | rfl
   ·rw[q_NoPicture,q_NoText];exact aA z73 z74 z84 z75
   ·rw[q_Unlike,q_NoText];exact aA z73 z74 z101 z95
   ·rw[q_NoRule,q_NoText];exact aA z73 z74 z118 z113
   ·rw[q_NoChange,q_NoText];exact aA z73 z74 z135 z132) (fun j hj=>by
   simp only[esL,List.mem_cons,List.not_mem_nil,or_false]at hj
   rcases hj with rfl | rfl | rfl | rfl
   ·exact xk_NoPicture
   ·exact xk_Unlike
   ·exact xk_NoRule
   ·exact xk_NoChange)),
  (d9 (fun j hj=>by
   simp only[esL,List.mem_cons,List.not_mem_nil,or_false]at hj
   rcases hj with rfl | rfl | rfl | rfl
   ·rw[q_NoPicture,q_NothingDone];exact aA z71 z72 z83 z75
   ·rw[q_Unlike,q_NothingDone];exact aA z71 z72 z100 z95
   ·rw[q_NoRule,q_NothingDone];exact aA z71 z72 z117 z113
   ·rw[q_NoChange,q_NothingDone];exact aA z71 z72 z134 z132) (fun j hj=>by
   simp only[esL,List.mem_cons,List.not_mem_nil,or_false]at hj
   rcases hj with rfl | rfl | rfl | rfl
   ·exact xk_NoPicture
   ·exact xk_Unlike
   ·exact xk_NoRule
   ·exact xk_NoChange)),
  (d9 (fun j hj=>by
   simp only[esL,List.mem_cons,List.not_mem_nil,or_false]at hj
   rcases hj with rfl | rfl | rfl | rfl
   ·rw[q_NoPicture,q_Unlike];exact aA z61 z62 z78 z75
   ·rw[q_Unlike];exact aA z61 z62 z95 z95
   ·rw[q_NoRule,q_Unlike];exact aA z61 z62 z112 z113
   ·rw[q_NoChange,q_Unlike];exact aA z61 z62 z129 z132) (fun j hj=>by
   simp only[esL,List.mem_cons,List.not_mem_nil,or_false]at hj
   rcases hj with rfl | rfl | rfl | rfl
   ·exact xk_NoPicture
   ·exact xk_Unlike
   ·exact xk_NoRule
   ·exact xk_NoChange)),
  (zT (fun j hj=>by
   simp only[esL,List.mem_cons,List.not_mem_nil,or_false]at hj
   rcases hj with rfl | rfl | rfl | rfl
   ·rw[q_NoPicture];exact oz z86
   ·rw[q_Unlike];exact oz z103
   ·rw[q_NoRule];exact oz z120
   ·rw[q_NoChange];exact oz z137) (fun j hj=>by
   simp only[esL,List.mem_cons,List.not_mem_nil,or_false]at hj
   rcases hj with rfl | rfl | rfl | rfl
   ·exact xk_NoPicture
   ·exact xk_Unlike
   ·exact xk_NoRule
   ·exact xk_NoChange)),
  (wn (by rw[q_FourError];exact z54) (fun j hj=>by
   simp only[esL,List.mem_cons,List.not_mem_nil,or_false]at hj
   rcases hj with rfl | rfl | rfl | rfl
   ·rw[q_NoPicture,q_FourError];exact z85
   ·rw[q_Unlike,q_FourError];exact z102
   ·rw[q_NoRule,q_FourError];exact z119
   ·rw[q_NoChange,q_FourError];exact z136))⟩
 have FL:=rj (st:=bD) z13 z14 z15
 exact⟨PySem.W.fnOf "law" "law" (defArgs bD) (defBody bD) (defScope bD) .none kV68 dc68 pm68 an68 cd68 ct68,fun s v=>.of_eq rfl,fun base _ _=>l7 T (tab T S 39) FL⟩
theorem walk {l:PySem.W.OpenLaw}{q:Program}{loose:List Str}{XP:(Str→Option Value)→Heap→Prop}{YP:World→Heap→Prop}{d:DefRec}{K:Params→PySem.W.Frag}(hn:l.most=some 63)(hdf:d.params.defaults=[])
  (hY:∀ (w:World) (h:Heap),YP w h→(K w.params).In h)
  (F:∀ (w:World) (mg:Str→Option Value) (fa:Addr) (h:Heap),(K w.params).In h→h.Ns mainGlobals mg→mg d.name=some (.ref fa) →
   ∃ fd:FuncData,(∀ (s:Shared) (u:Value),BindsTo s fd ⟨[u],[]⟩ [("_law_script",u)])∧∀ base:Heap,(K w.params).In base→base.Ns mainGlobals mg→FnOk l.prog w (K w.params) mg base (CXE l.prog w) 40 fa fd ["_law_script"] (spF (K w.params) (Cof (K w.params)) 1 (pf 40 Lw.F.a3))) :
  PySem.W.WalkO q loose XP YP l.row.toRowW d [] (fun f vs=>PySem.call f vs) :=
 L2.xI (n:=63) (k:=40) (x := "_law_script") (CX:=fun w=>CXE l.prog w) (sp:=fun w=>spF (K w.params) (Cof (K w.params)) 1 (pf 40 Lw.F.a3)) hn (by decide) hdf ⟨rfl,by decide,by decide⟩ hY F
  (fun w H a ns hl _ hS=>⟨rfl,H,[.lst (ns.map .int)],Same.refl H,by rw[Reps];exact⟨_,_,rfl,by rw[Rep];exact⟨a,_,rfl,hS,tq ns⟩,by rw[Reps]⟩,by rw[mX ns];exact fun H' Z' _ v rv=>by rw[Rep]at rv;exact rv⟩)
  fun w H s e s' z=>by obtain⟨_,_,_,_,_,_,_,_,_,_,_,_,_,z⟩:=z;exact z
end Lw
open PySem PySem.W PyProof.Rows
def PySem.W.Fast.tw10451431772499950161:Nat:=0
def PySem.W.Fast.tw8538502960628051008:Nat:=0
def PySem.W.Fast.tw4435242004763991251:Nat:=0
def PySem.W.Fast.tw12710831808655572652:Nat:=0
def PySem.W.Fast.tw1569949447127468960:Nat:=0
def PySem.W.Fast.tw1314510481655333438:Nat:=0
def PySem.W.Fast.tw6884376346601187561:Nat:=0
def PySem.W.Fast.tw13061777701699513194:Nat:=0
def PySem.W.Fast.tw6940463591971471729:Nat:=0
def PySem.W.Fast.tw1221002327450025983:Nat:=0
def PySem.W.Fast.tw7088718860400374849:Nat:=0
def PySem.W.Fast.tw11564385670354263456:Nat:=0
def PySem.W.Fast.tw13294011224908463105:Nat:=0
def PySem.W.Fast.tw15964193552567600556:Nat:=0
def PySem.W.Fast.tw10976371252925715388:Nat:=0
def PySem.W.Fast.tw10571174711018845211:Nat:=0
def PySem.W.Fast.tw2223250087351402938:Nat:=0
def PySem.W.Fast.tw5084169622334978996:Nat:=0
def PySem.W.Fast.tw12742239239635208751:Nat:=0
def PySem.W.Fast.tw17987816511194946866:Nat:=0
def PySem.W.Fast.tw11579743923619586935:Nat:=0
def PySem.W.Fast.tw10092868451294277050:Nat:=0
def PySem.W.Fast.tw16151411277368829758:Nat:=0
def PySem.W.Fast.tw6331248750864432123:Nat:=0
def PySem.W.Fast.tw15909106111059201483:Nat:=0
def PySem.W.Fast.tw3887397452391760568:Nat:=0
def PySem.W.Fast.tw8769932428558681555:Nat:=0
def PySem.W.Fast.tw2942212662360609607:Nat:=0
def PySem.W.Fast.tw1444622202422186447:Nat:=0
def PySem.W.Fast.tw12471523335443988340:Nat:=0
def PySem.W.Fast.tw17055383938151461315:Nat:=0
def PySem.W.Fast.tw14534894909631824224:Nat:=0
def PySem.W.Fast.tw8258754870789089908:Nat:=0
def PySem.W.Fast.tw8446349684258815283:Nat:=0
def PySem.W.Fast.tw5673337128210115136:Nat:=0
def PySem.W.Fast.tw14151423542817781707:Nat:=0
def PySem.W.Fast.tw4472030373180024221:Nat:=0
def PySem.W.Fast.tw5513704750279518285:Nat:=0
def PySem.W.Fast.tw8583393500939728187:Nat:=0
def PySem.W.Fast.tw7908382476227291669:Nat:=0
def PySem.W.Fast.tw1872340162605176094:Nat:=0
def PySem.W.Fast.tw4073283519775654762:Nat:=0
def PySem.W.Fast.tw17218801587270272169:Nat:=0
def PySem.W.Fast.tw9910734827517569133:Nat:=0
def PySem.W.Fast.tw15651757520851084975:Nat:=0
def PySem.W.Fast.tw13838282833000042408:Nat:=0
def PySem.W.Fast.tw9348995233569668756:Nat:=0
def PySem.W.Fast.tw9041653984834102594:Nat:=0
def PySem.W.Fast.tw8135079576140922264:Nat:=0
def PySem.W.Fast.tw15841886485469882065:Nat:=0
def PySem.W.Fast.tw11236966123007802586:Nat:=0
def PySem.W.Fast.tw13932689877460836278:Nat:=0
def PySem.W.Fast.tw321432666232740367:Nat:=0
def PySem.W.Fast.tw15333627934407062250:Nat:=0
def PySem.W.Fast.tw216408118557154897:Nat:=0
def PySem.W.Fast.tw10648203590936974009:Nat:=0
def PySem.W.Fast.tw8355625206523564086:Nat:=0
def PySem.W.Fast.tw9429396803800688119:Nat:=0
def PySem.W.Fast.tw14662429529714532718:Nat:=0
def PySem.W.Fast.tw13102510823466119466:Nat:=0
def PySem.W.Fast.tw18250128645381904069:Nat:=0
def PySem.W.Fast.tw17969269619834737480:Nat:=0
def PySem.W.Fast.tw17901653365612935556:Nat:=0
def PySem.W.Fast.tw10464194027476171253:Nat:=0
set_option maxRecDepth 100000 in
set_option maxHeartbeats 0 in
theorem PySem.Challenge.cw_fourfold_k72_whole_changes_apart_holds : PySem.Challenge.rw_fourfold_k72_whole_changes_apart.Holds := by
 w_on;o_law;k_head;(case hw=>w_witness2)
 k_fill
 refine Lw.walk (l:=PySem.Challenge.rw_fourfold_k72_whole_changes_apart) rfl rfl (fun w h Y=>PySem.W.kIn_of Y) ?F
 case F =>
  intro w mg fa h KX G hmg
  refine' Lw.At KX G hmg ?S ?z0 ?z1 ?z2 ?z3 ?z4 ?z5 ?z6 ?z7 ?z8 ?z9 ?z10 ?z11 ?z12 ?z13 ?z14 ?z15 ?z16 ?z17 ?z18 ?z19 ?z20 ?z21 ?z22 ?z23 ?z24 ?z25 ?z26 ?z27 ?z28 ?z29 ?z30 ?z31 ?z32 ?z33 ?z34 ?z35 ?z36 ?z37 ?z38 ?z39 ?z40 ?z41 ?z42 ?z43 ?z44 ?z45 ?z46 ?z47 ?z48 ?z49 ?z50 ?z51 ?z52 ?z53 ?z54 ?z55 ?z56 ?z57 ?z58 ?z59 ?z60 ?z61 ?z62 ?z63 ?z64 ?z65 ?z66 ?z67 ?z68 ?z69 ?z70 ?z71 ?z72 ?z73 ?z74 ?z75 ?z76 ?z77 ?z78 ?z79 ?z80 ?z81 ?z82 ?z83 ?z84 ?z85 ?z86 ?z87 ?z88 ?z89 ?z90 ?z91 ?z92 ?z93 ?z94 ?z95 ?z96 ?z97 ?z98 ?z99 ?z100 ?z101 ?z102 ?z103 ?z104 ?z105 ?z106 ?z107 ?z108 ?z109 ?z110 ?z111 ?z112 ?z113 ?z114 ?z115 ?z116 ?z117 ?z118 ?z119 ?z120 ?z121 ?z122 ?z123 ?z124 ?z125 ?z126 ?z127 ?z128 ?z129 ?z130 ?z131 ?z132 ?z133 ?z134 ?z135 ?z136 ?z137 ?z138 ?z139 ?z140 ?z141 ?z142
  case S =>
   constructor
   all_goals
    refine' FF.AR KX G (fun _ _ _ _ _ _ us hl=>by first | (obtain⟨_,rfl⟩:=FF.ln1 hl;rfl) | (obtain⟨_,_,rfl⟩:=FF.ln2 hl;rfl) | (obtain⟨_,_,_,rfl⟩:=FF.ln3 hl;rfl) | (obtain⟨_,_,_,_,rfl⟩:=FF.ln4 hl;rfl) | (obtain⟨_,_,_,_,_,rfl⟩:=FF.ln5 hl;rfl) | (cases List.length_eq_zero_iff.mp hl;rfl)) ?a ?l ?c ?k
    (case a=>k_is);(case l=>k_is);(case c=>k_is);(case k=>k_is)
  (case z0=>show _=_;k_is)
  (case z1=>show _=_;k_is)
  (case z2=>show _=_;k_is)
  (case z3=>show _=_;k_is)
  (case z4=>show _=_;k_is)
  (case z5=>show _=_;k_is)
  (case z6=>show _=_;k_is)
  (case z7=>show _=_;k_is)
  (case z8=>show _=_;k_is)
  (case z9=>show _=_;k_is)
  (case z10=>show _=_;k_is)
  (case z11=>show _=_;k_is)
  (case z12=>show _=_;k_is)
  (case z13=>k_is)
  (case z14=>k_is)
  (case z15=>k_is)
  (case z16=>show _=_;k_is)
  (case z17=>show _=_;k_is)
  (case z18=>show _=_;k_is)
  (case z19=>show _=_;k_is)
  (case z20=>show _=_;k_is)
  (case z21=>show _=_;k_is)
  (case z22=>show _=_;k_is)
  (case z23=>show _=_;k_is)
  (case z24=>show _=_;k_is)
  (case z25=>show _=_;k_is)
  (case z26=>show _=_;k_is)
  (case z27=>show _=_;k_is)
  (case z28=>show _=_;k_is)
  (case z29=>show _=_;k_is)
  (case z30=>show _=_;k_is)
  (case z31=>show _=_;k_is)
  (case z32=>show _=_;k_is)
  (case z33=>show _=_;k_is)
  (case z34=>show _=_;k_is)
  (case z35=>k_is)
  (case z36=>show _=_;k_is)
  (case z37=>k_is)
  (case z38=>first | rfl | decide)
  (case z39=>show _=_;k_is)
  (case z40=>show _=_;k_is)
  (case z41=>show _=_;k_is)
  (case z42=>show _=_;k_is)
  (case z43=>show _=_;k_is)
  (case z44=>show _=_;k_is)
  (case z45=>show _=_;k_is)
  (case z46=>show _=_;k_is)
  (case z47=>show _=_;k_is)
  (case z48=>show _=_;k_is)
  (case z49=>show _=_;k_is)
  (case z50=>k_exc)
  (case z51=>k_exc)
  (case z52=>k_exc)
  (case z53=>k_exc)
  (case z54=>k_exc)
  (case z55=>k_is)
  (case z56=>k_is)
  (case z57=>k_is)
  (case z58=>k_is)
  (case z59=>k_is)
  (case z60=>k_is)
  (case z61=>k_is)
  (case z62=>k_is)
  (case z63=>k_is)
  (case z64=>k_is)
  (case z65=>k_is)
  (case z66=>k_is)
  (case z67=>k_is)
  (case z68=>k_is)
  (case z69=>k_is)
  (case z70=>k_is)
  (case z71=>k_is)
  (case z72=>k_is)
  (case z73=>k_is)
  (case z74=>k_is)
  (case z75=>k_is)
  (case z76=>k_is)
  (case z77=>k_is)
  (case z78=>k_is)
  (case z79=>k_is)
  (case z80=>k_is)
  (case z81=>k_is)
  (case z82=>k_is)
  (case z83=>k_is)
  (case z84=>k_is)
  (case z85=>k_is)
  (case z86=>k_is)
  (case z87=>k_is)
  (case z88=>k_is)
  (case z89=>k_is)
  (case z90=>k_is)
  (case z91=>k_is)
  (case z92=>k_is)
  (case z93=>k_is)
  (case z94=>k_is)
  (case z95=>k_is)
  (case z96=>k_is)
  (case z97=>k_is)
  (case z98=>k_is)
  (case z99=>k_is)
  (case z100=>k_is)
  (case z101=>k_is)
  (case z102=>k_is)
  (case z103=>k_is)
  (case z104=>k_is)
  (case z105=>k_is)
  (case z106=>k_is)
  (case z107=>k_is)
  (case z108=>k_is)
  (case z109=>k_is)
  (case z110=>k_is)
  (case z111=>k_is)
  (case z112=>k_is)
  (case z113=>k_is)
  (case z114=>k_is)
  (case z115=>k_is)
  (case z116=>k_is)
  (case z117=>k_is)
  (case z118=>k_is)
  (case z119=>k_is)
  (case z120=>k_is)
  (case z121=>k_is)
  (case z122=>k_is)
  (case z123=>k_is)
  (case z124=>k_is)
  (case z125=>k_is)
  (case z126=>k_is)
  (case z127=>k_is)
  (case z128=>k_is)
  (case z129=>k_is)
  (case z130=>k_is)
  (case z131=>k_is)
  (case z132=>k_is)
  (case z133=>k_is)
  (case z134=>k_is)
  (case z135=>k_is)
  (case z136=>k_is)
  (case z137=>k_is)
  (case z138=>k_is)
  (case z139=>k_is)
  (case z140=>k_is)
  (case z141=>k_is)
  (case z142=>k_is)
end
