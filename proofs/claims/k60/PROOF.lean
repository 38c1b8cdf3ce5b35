import PyProof.Rows.All
import Wide.All
import OpenK.AllK
import Wide.FinOn
import PyProof.EqAt
import PyProof.EqKinds
import PyProof.TupleCall
import PyProof.TupleKey
import PyProof.ExcArgsOwn
import PyProof.ExcAttrAll.ValueError
import PyProof.IsiH_tuple
import PyProof.Rows.TopTwo
import PyProof.ExcBaseAll.ValueError
import PyProof.RulesAs
import PyProof.RulesDel
import PyProof.Rows.Catch
import PyProof.WalkInts
import PyProof.SumWalkG
import PyProof.Rows.TupAssign
import PyProof.NeKinds
import PyProof.FactsAll.tuple_1
import PyProof.FactsAll.tuple_2
import PyProof.FactsAll.tuple_3
import PyProof.ZipIter
import PyProof.Rows.ZipGen
import PyProof.Draws
import PyProof.EnumMake
import PyProof.LayNew
import OpenK.KTop
import PyProof.DictWalks
import PyProof.ListRange
import PyProof.Rows.SortWalk
import PyProof.Rows.Range3
import PyProof.MinMaxWalk
import PyProof.SetKind
import PyProof.Rows.SetFrom
import PyProof.CollectWalk
import PyProof.FactsAll.set_1
import PyProof.FactsAll.set_2
import PyProof.StrCalls
import PyProof.StrBlock
import PyProof.StrBlockH
import PyProof.FactsAll.list_3
import KE.KMinKey
import PyProof.DictRoadsH
import Lean
import PySem.Challenge.RW_fourfold_k60_whole_blocks
set_option Elab.async false
set_option linter.all false
set_option maxRecDepth 100000
noncomputable section
namespace L2
open PySem PySem.Spec PyProof.Rows
abbrev Key:=Sum Int Str
def keyIs:Key→Value→Bool
 | .inl k,v=>Value.isInt k v
 | .inr x,v=>Value.isStrOf x v
def keyH (w:World):Key→Int
 | .inl k=>hashInt k
 | .inr x=>hashStr w x
theorem aY:∀ {k:Key} {v:Value},keyIs k v=true→(∃ i t,k=Sum.inl i∧v=Value.int i t)∨(∃ x t,k=Sum.inr x∧v=Value.str x t)
 | .inl i,v,h=>by
  obtain⟨t,e⟩:=Value.isInt_shape (k:=i) (v:=v) h
  exact .inl ⟨i,t,rfl,e⟩
 | .inr x,v,h=>by
  obtain⟨t,e⟩:=Value.isStrOf_shape (x:=x) (v:=v) h
  exact .inr ⟨x,t,rfl,e⟩
theorem qk (i:Int)(t:Tok):keyIs (.inl i) (.int i t)=true:=by simp[keyIs,Value.isInt]
theorem ql (x:Str)(t:Tok):keyIs (.inr x) (.str x t)=true:=by simp[keyIs,Value.isStrOf]
theorem wF (a b:Int):decide ((Sum.inl a:Key)=Sum.inl b)=(a==b):=by
 by_cases e:a=b
 ·subst e;simp
 ·have h:¬ (Sum.inl a:Key)=Sum.inl b:=fun q=>e (Sum.inl.inj q)
  rw[decide_eq_false h]
  exact(beq_eq_false_iff_ne.mpr e).symm
theorem wG (a b:Str):decide ((Sum.inr a:Key)=Sum.inr b)=decide (a=b):=by
 by_cases e:a=b
 ·subst e;simp
 ·have h:¬ (Sum.inr a:Key)=Sum.inr b:=fun q=>e (Sum.inr.inj q)
  rw[decide_eq_false h,decide_eq_false e]
theorem wH (a:Int)(b:Str):decide ((Sum.inl a:Key)=Sum.inr b)=false:=decide_eq_false (fun q=>nomatch q)
theorem wI (a:Str)(b:Int):decide ((Sum.inr a:Key)=Sum.inl b)=false:=decide_eq_false (fun q=>nomatch q)
def mixKind (prog:Program)(w:World):PySem.KeyKind prog w Key where
 is:=keyIs
 hash:=keyH w
 inj:=fun v a b ha hb=>by
  rcases aY ha with ⟨i,t,rfl,rfl⟩ | ⟨x,t,rfl,rfl⟩
  ·rcases aY hb with ⟨j,u,rfl,e⟩ | ⟨y,u,rfl,e⟩
   ·injection e with e1 _;rw[e1]
   ·exact nomatch e
  ·rcases aY hb with ⟨j,u,rfl,e⟩ | ⟨y,u,rfl,e⟩
   ·exact nomatch e
   ·injection e with e1 _;rw[e1]
 byValue:=fun k v h=>by
  rcases aY h with ⟨i,t,rfl,rfl⟩ | ⟨x,t,rfl,rfl⟩<;>rfl
 pyHash:=fun hv h=>by
  rcases aY hv with ⟨i,t,rfl,rfl⟩ | ⟨x,t,rfl,rfl⟩
  ·exact wpAny_pyHash_int h
  ·exact wpAny_pyHash_str h
 eqBool:=fun hu hv h=>by
  rcases aY hu with ⟨i,t,rfl,rfl⟩ | ⟨x,t,rfl,rfl⟩
  ·rcases aY hv with ⟨j,u,rfl,rfl⟩ | ⟨y,u,rfl,rfl⟩
   ·rw[wF]at h;exact wpAny_eqBool_int h
   ·rw[wH]at h;exact SeqAt.EqAt.int_str i t y u _ _ _ _ h
  ·rcases aY hv with ⟨j,u,rfl,rfl⟩ | ⟨y,u,rfl,rfl⟩
   ·rw[wI]at h;exact SeqAt.EqAt.str_int x t j u _ _ _ _ h
   ·rw[wG]at h;exact wpAny_eqBool_str h
 «strs»:=fun k x t v h=>by
  rcases aY h with ⟨i,u,rfl,e⟩ | ⟨y,u,rfl,e⟩
  ·exact nomatch e
  ·injection e with e1 _
   subst e1
   cases v<;>rfl
theorem l5 (prog:Program)(w:World)(i:Int)(t:Tok):(mixKind prog w).is (.inl i) (.int i t)=true:=qk i t
theorem l6 (prog:Program)(w:World)(x:Str)(t:Tok):(mixKind prog w).is (.inr x) (.str x t)=true:=ql x t
end L2
namespace L2
open PySem PySem.Spec PyProof.Rows
inductive V where
 | non | bl (b:Bool) | int (i:Int) | str (x:Str) | byt (b:Array UInt8) | flt (b:UInt64) | ref (a:Addr) | ty (n:String)
 deriving DecidableEq
def RelV:V→Value→Prop
 | .non,u=>u=Value.none
 | .bl b,u=>u=Value.bool b
 | .int i,u=>∃ t,u=Value.int i t
 | .str x,u=>∃ t,u=Value.str x t
 | .byt b,u=>∃ t,u=Value.bytes b t
 | .flt b,u=>∃ t,u=Value.float b t
 | .ref a,u=>u=Value.ref a
 | .ty n,u=>u=Value.type n
abbrev Vals:List V→List Value→Prop:=Paired RelV
theorem Vals.length {xs:List V}{us:List Value}(r:Vals xs us):xs.length=us.length:=Paired.length r
theorem Vals.get:∀ {xs:List V} {us:List Value} {i:Nat} {x:V},Vals xs us→xs[i]?=some x→∃ u,us[i]?=some u∧RelV x u
 | _,_,_,_,.nil,e=>by simp at e
 | _,_,0,_,.cons r _,e=>by simp at e;subst e;exact⟨_,rfl,r⟩
 | _,_,i+1,x,.cons _ t,e=>by
  obtain⟨u,h1,h2⟩:=Vals.get (i:=i) (x:=x) t (by simpa using e)
  exact⟨u,by simpa using h1,h2⟩
theorem Vals.append:∀ {xs ys:List V} {us ws:List Value},Vals xs us→Vals ys ws→Vals (xs++ys) (us++ws)
 | _,_,_,_,.nil,s=>s
 | _,_,_,_,.cons r t,s=>.cons r (Vals.append t s)
theorem Vals.take:∀ {xs:List V} {us:List Value} (n:Nat),Vals xs us→Vals (xs.take n) (us.take n)
 | _,_,0,_=>.nil
 | _,_,_+1,.nil=>.nil
 | _,_,n+1,.cons r t=>.cons r (Vals.take n t)
theorem Vals.drop:∀ {xs:List V} {us:List Value} (n:Nat),Vals xs us→Vals (xs.drop n) (us.drop n)
 | _,_,0,r=>r
 | _,_,_+1,.nil=>.nil
 | _,_,n+1,.cons _ t=>Vals.drop n t
theorem Vals.none_of:∀ {xs:List V} {us:List Value} {i:Nat},Vals xs us→xs[i]?=none→us[i]?=none:=fun {xs us i} r e=>by
 have h1:=r.length
 have h2:xs.length≤i:=List.getElem?_eq_none_iff.mp e
 exact List.getElem?_eq_none_iff.mpr (by omega)
def RelO:Option V→Option Value→Prop
 | some v,some u=>RelV v u
 | none,none=>True
 | _,_=>False
def KV {κ:Type}:List (κ×V)→List (κ×Value)→Prop:=Paired fun (p:κ×V) (q:κ×Value)=>p.1=q.1∧RelV p.2 q.2
def kV:Key→V
 | .inl i=>.int i
 | .inr x=>.str x
inductive HO where
 | lst (xs:List V)
 | tup (xs:List V)
 | dK (kvs:List (Key×V)) | dT (kvs:List (List Key×V))
 | set (S:Int→Bool) (n:Nat)
 | ins (C dx:Addr) (fs:List (Str×V))
 | own (x:Addr)
 | xd (fs:List (Str×V))
 | met (f x:Addr)
 | rng (lo hi:Int)
 | frz (o:Obj) (u:HO)
 | tbl (ps:Array Value)
 | ext (φ:Heap→Prop)
abbrev Hp:=Addr→Option HO
def upd (H:Hp)(a:Addr)(o:HO):Hp:=fun b=>if b=a then some o else H b
theorem av {H:Hp}{a:Addr}{o:HO}:upd H a o a=some o:=by unfold upd;rw[if_pos rfl]
theorem aA {H:Hp}{a b:Addr}{o:HO}(h:b≠a):upd H a o b=H b:=by unfold upd;rw[if_neg h]
theorem bQ {H:Hp}{a b:Addr}{o:HO}(h:H a=some o)(h':H b=none):a≠b:=by
 intro e;subst e;rw[h]at h';cases h'
def TupO (h:Heap)(a:Addr)(its:Array Value):Prop:=∃ o,h.get? a=some o∧o.cls=.type "tuple" ∧ o.dict=none∧∃ n,o.data=.seq its n
theorem TupO.is {h:Heap}{a:Addr}{its:Array Value}(p:TupO h a its):IsTup h a its:=let ⟨o,e,c,_,d⟩:=p;⟨o,e,c,d⟩
theorem TupO.lt {h:Heap}{a:Addr}{its:Array Value}(p:TupO h a its):a < h.objs.size:=p.is.lt
theorem TupO.new (h:Heap)(its:Array Value):TupO (h.push { cls:=.type "tuple",data:=.seq its }) h.objs.size its:=⟨_,Heap.get?_push_size _ rfl,rfl,rfl,_,rfl⟩
section
variable (P:Program)(w:World)
def ObjOk (H:Hp)(h:Heap)(a:Addr):HO→Prop
 | .lst xs=>xs.length≤sizeLine∧∃ (its:List Value) (n:Nat),Vals xs its∧h.get? a=some { cls:=.type "list",data:=.seq its.toArray n }
 | .tup xs=>xs.length≤sizeLine∧∃ its:List Value,Vals xs its∧TupO h a its.toArray
 | .dK kvs=>kvs.length≤sizeLine∧(a==sysModules)=false∧∃ vs,KV kvs vs∧h.DictOf (mixKind P w) a vs
 | .dT kvs=>kvs.length≤sizeLine∧(a==sysModules)=false∧∃ xs:List (List Key×Addr×Value),
   Paired (fun (p:List Key×V) (q:List Key×Addr×Value)=>p.1=q.1∧H q.2.1=some (.tup (p.1.map kV))∧RelV p.2 q.2.2) kvs xs ∧
   ∃ o es ep,h.get? a=some o∧o.ExactDict∧o.data=.dict es ep∧es.toList=xs.map (entryOfKey (tupleKind (mixKind P w)))∧(xs.map (·.1)).Nodup
 | .set S n=>h.SetOf (intKind P w) a S n
 | .ins C dx fs=>H dx=some (.own a)∧fs.length≤1000∧dx≠a∧h.get? a=some (PySem.W.instObj C dx) ∧
   ∃ mA,h.Ns1 dx mA∧(∀ f,RelO (fs.lookup f) (mA f))∧PySem.Within mA (fs.map (·.1))
 | .own _=>∃ o,h.get? a=some o
 | .xd fs=>∃ mA,h.Ns1 a mA∧∀ f,RelO (fs.lookup f) (mA f)
 | .rng lo hi=>∃ t u v,h.get? a=some { cls:=.type "range",data:=.fields #[.int lo t,.int hi u,.int 1 v] }
 | .frz o u=>h.get? a=some o∧ObjOk H h a u
 | .tbl ps=>h.get? a=some { cls:=.none,data:=.fields ps }
 | .met f x=>h.get? a=some (PySem.W.methodObj (.ref f) (.ref x))
 | .ext φ=>φ h∧(∃ o,h.get? a=some o)∧∀ h1 h2:Heap,φ h1→(∀ o,h1.get? a=some o→h2.get? a=some o)→φ h2
def HOk (H:Hp)(h:Heap):Prop:=∀ a o,H a=some o→ObjOk P w H h a o
end
section
variable {P:Program}{w:World}{H H':Hp}{h h':Heap}{a:Addr}{o:HO}
theorem ObjOk.lt (x:ObjOk P w H h a o):a < h.objs.size:=by
 cases o with
 | lst xs=>obtain⟨_,_,_,_,e⟩:=x;exact Heap.lt_size e
 | tup xs=>obtain⟨_,_,_,p⟩:=x;exact p.lt
 | dK kvs=>obtain⟨_,_,_,_,o,_,_,e,_⟩:=x;exact Heap.lt_size e
 | dT kvs=>obtain⟨_,_,_,_,o,_,_,e,_⟩:=x;exact Heap.lt_size e
 | set S n=>obtain⟨o,_,_,_,e,_⟩:=x;exact Heap.lt_size e
 | ins C dx fs=>obtain⟨_,_,_,e,_⟩:=x;exact Heap.lt_size e
 | own y=>obtain⟨_,e⟩:=x;exact Heap.lt_size e
 | xd fs=>obtain⟨_,⟨_,_,_,e,_⟩,_⟩:=x;exact Heap.lt_size e
 | rng lo hi=>obtain⟨_,_,_,e⟩:=x;exact Heap.lt_size e
 | frz ob u=>obtain⟨e,_⟩:=x;exact Heap.lt_size e
 | tbl ps=>exact Heap.lt_size (show h.get? a=some _ from x)
 | met f y=>exact Heap.lt_size (show h.get? a=some _ from x)
 | ext φ=>obtain⟨_,⟨_,e⟩,_⟩:=x;exact Heap.lt_size e
theorem Paired.mapP {α β:Type}{F G:α→β→Prop}:∀ {l₁:List α} {l₂:List β},Paired F l₁ l₂→(∀ a b,F a b→G a b)→Paired G l₁ l₂
 | _,_,.nil,_=>.nil
 | _,_,.cons r t,f=>.cons (f _ _ r) (Paired.mapP t f)
theorem ObjOk.stay (x:ObjOk P w H h a o)(k:∀ b u,(b=a∨H b=some (.own a))→h.get? b=some u→h'.get? b=some u)
  (ho:∀ b,H b=some (.own a)→H' b=some (.own a)) (ht:∀ b xs,H b=some (.tup xs)→H' b=some (.tup xs)):ObjOk P w H' h' a o:=by
 induction o with
 | lst xs=>obtain⟨z,its,n,r,e⟩:=x;exact⟨z,its,n,r,k _ _ (.inl rfl) e⟩
 | tup xs=>obtain⟨z,its,r,ob,e,c⟩:=x;exact⟨z,its,r,ob,k _ _ (.inl rfl) e,c⟩
 | dK kvs=>obtain⟨z,y,vs,r,ob,es,ep,e,c⟩:=x;exact⟨z,y,vs,r,ob,es,ep,k _ _ (.inl rfl) e,c⟩
 | dT kvs =>
  obtain⟨z,y,xs,r,ob,es,ep,e,c⟩:=x
  exact⟨z,y,xs,Paired.mapP r fun p q z=>⟨z.1,ht _ _ z.2.1,z.2.2⟩,ob,es,ep,k _ _ (.inl rfl) e,c⟩
 | set S n=>obtain⟨ob,es,ep,t,e,c⟩:=x;exact⟨ob,es,ep,t,k _ _ (.inl rfl) e,c⟩
 | ins C dx fs =>
  obtain⟨d,z,ne,e,mA,⟨od,es,ep,e2,c⟩,r⟩:=x
  exact⟨ho _ d,z,ne,k _ _ (.inl rfl) e,mA,⟨od,es,ep,k _ _ (.inr d) e2,c⟩,r⟩
 | own y=>obtain⟨ob,e⟩:=x;exact⟨ob,k _ _ (.inl rfl) e⟩
 | xd fs=>obtain⟨mA,⟨od,es,ep,e,c⟩,r⟩:=x;exact⟨mA,⟨od,es,ep,k _ _ (.inl rfl) e,c⟩,r⟩
 | rng lo hi=>obtain⟨t,u,v,e⟩:=x;exact⟨t,u,v,k _ _ (.inl rfl) e⟩
 | frz ob u ih=>obtain⟨e,q⟩:=x;exact⟨k _ _ (.inl rfl) e,ih q⟩
 | tbl ps =>
  have e:h.get? a=some { cls:=.none,data:=.fields ps }:=x
  show h'.get? a=some { cls:=.none,data:=.fields ps }
  exact k a _ (.inl rfl) e
 | met f y =>
  have e:h.get? a=some (PySem.W.methodObj (.ref f) (.ref y)):=x
  show h'.get? a=some (PySem.W.methodObj (.ref f) (.ref y))
  exact k a _ (.inl rfl) e
 | ext φ=>obtain⟨p,⟨o,e⟩,st⟩:=x;exact⟨st _ _ p fun o q=>k _ _ (.inl rfl) q,⟨o,k _ _ (.inl rfl) e⟩,st⟩
theorem HOk.lt (x:HOk P w H h)(e:H a=some o):a < h.objs.size:=(x a o e).lt
theorem HOk.fresh (x:HOk P w H h)(e:h.objs.size≤a):H a=none:=by
 cases q:H a with
 | none=>rfl
 | some u=>exact absurd (Nat.lt_of_lt_of_le (x.lt q) e) (Nat.lt_irrefl _)
theorem HOk.kept (x:HOk P w H h)(k:∀ b u,h.get? b=some u→h'.get? b=some u):HOk P w H h':=fun a o e =>
 (x a o e).stay (fun b u _ q=>k b u q) (fun _ q=>q) fun _ _ q=>q
theorem HOk.laid (x:HOk P w H h)(k:∀ b u,h.get? b=some u→h'.get? b=some u)(hp:h.objs.size≤a)(new:ObjOk P w (upd H a o) h' a o):HOk P w (upd H a o) h':=fun b u e=>by
 have hn:=x.fresh hp
 by_cases hb:b=a
 ·subst hb;rw[av]at e;cases e;exact new
 ·rw[aA hb]at e
  exact(x b u e).stay (fun c v _ q=>k c v q) (fun c q=>by rw[aA (bQ q hn)];exact q) fun c xs q=>by rw[aA (bQ q hn)];exact q
end
def Rd (H:Hp)(a:Addr)(u:HO):Prop:=H a=some u∨∃ o,H a=some (.frz o u)
theorem Rd.ok {P:Program}{w:World}{H:Hp}{h:Heap}{a:Addr}{u:HO}(r:Rd H a u)(x:HOk P w H h):ObjOk P w H h a u:=by
 rcases r with r | ⟨o,r⟩
 ·exact x a u r
 ·obtain⟨_,q⟩:=x a _ r
  exact q
def Mut:Option HO→Prop
 | some (.lst _)=>True
 | some (.dK _)=>True
 | some (.dT _)=>True
 | some (.set _ _)=>True
 | some (.ins _ _ _)=>True
 | some (.ext _)=>True
 | _=>False
section
variable {P:Program}{w:World}{H:Hp}{h h':Heap}{x e:Addr}{o':HO}
theorem HOk.write (ok:HOk P w H h)(mu:Mut (H x))(he:e=x∨H e=some (.own x))(k:∀ b u,b≠e→h.get? b=some u→h'.get? b=some u)(heo:∃ u,h'.get? e=some u)
  (new:ObjOk P w (upd H x o') h' x o'):HOk P w (upd H x o') h':=fun b u q=>by
 have nown:∀ c y,H c=some (.own y)→c≠x:=fun c y r z=>by subst z;rw[r]at mu;exact mu
 have ntup:∀ c xs,H c=some (.tup xs)→c≠x:=fun c xs r z=>by subst z;rw[r]at mu;exact mu
 by_cases hb:b=x
 ·subst hb;rw[av]at q;cases q;exact new
 ·rw[aA hb]at q
  by_cases hbe:b=e
  ·have q':H b=some (.own x):=by
    rcases he with z | z
    ·exact absurd (hbe.trans z) hb
    ·rw[hbe];exact z
   rw[q]at q';cases q'
   obtain⟨v,hv⟩:=heo
   exact⟨v,by rw[hbe];exact hv⟩
  ·refine(ok b u q).stay (fun c v hc r=>k c v ?_ r) (fun c r=>by rw[aA (nown c b r)];exact r) fun c xs r=>by rw[aA (ntup c xs r)];exact r
   rcases hc with rfl | hc
   ·exact hbe
   ·rintro rfl
    rcases he with z | z
    ·exact nown c b hc z
    ·rw[hc]at z;cases z;exact hb rfl
end
structure Un (fs ex:List Addr)(H H':Hp)(h h':Heap):Prop where
 keep:∀ b o,h.get? b=some o→H b=none→b∉fs→b∉ex→h'.get? b=some o
 slot:∀ b o,h.get? b=some o→H b=none→b∈fs→b∉ex→∃ sl,h'.get? b=some { o with slots:=sl }
 free:∀ b o,h.get? b=some o→H b=none→b∉ex→H' b=none
 there:∀ b o,h.get? b=some o→b∉ex→∃ o',h'.get? b=some o'
 tups:∀ b xs,H b=some (.tup xs)→H' b=some (.tup xs)
 frzs:∀ b o u,H b=some (.frz o u)→H' b=some (.frz o u)
 tbls:∀ b ps,H b=some (.tbl ps)→∃ more,H' b=some (.tbl (ps++more))
section
variable {fs fs' ex ex':List Addr}{H H1 H2:Hp}{h h1 h2 h':Heap}{a x e:Addr}{o:HO}
theorem Un.any (u:Un fs ex H H1 h h1){b:Addr}{ob:Obj}(q:h.get? b=some ob)(n:H b=none)(hx:b∉ex):∃ sl,h1.get? b=some { ob with slots:=sl }:=by
 by_cases hb:b∈fs
 ·exact u.slot b ob q n hb hx
 ·exact⟨ob.slots,u.keep b ob q n hb hx⟩
theorem Un.trans (a:Un fs ex H H1 h h1)(b:Un fs ex H1 H2 h1 h2):Un fs ex H H2 h h2 where
 keep:=fun c ob q n hc hx=>b.keep c ob (a.keep c ob q n hc hx) (a.free c ob q n hx) hc hx
 slot:=fun c ob q n hc hx=>by
  obtain⟨sl,e1⟩:=a.slot c ob q n hc hx
  obtain⟨sl',e2⟩:=b.slot c _ e1 (a.free c ob q n hx) hc hx
  exact⟨sl',e2⟩
 free:=fun c ob q n hx=>by
  obtain⟨o',e1⟩:=a.there c ob q hx
  exact b.free c o' e1 (a.free c ob q n hx) hx
 there:=fun c ob q hx=>by
  obtain⟨o',e1⟩:=a.there c ob q hx
  exact b.there c o' e1 hx
 tups:=fun c xs q=>b.tups c xs (a.tups c xs q)
 frzs:=fun c ob xs q=>b.frzs c ob xs (a.frzs c ob xs q)
 tbls:=fun c ps q=>by
  obtain⟨m1,e1⟩:=a.tbls c ps q
  obtain⟨m2,e2⟩:=b.tbls c _ e1
  exact⟨m1++m2,by rw[e2,Array.append_assoc]⟩
theorem Un.kept (k:∀ b u,h.get? b=some u→h'.get? b=some u):Un fs ex H H h h' :=
 ⟨fun b ob q _ _ _=>k b ob q,fun b ob q _ _ _=>⟨ob.slots,k b ob q⟩,fun _ _ _ n _=>n,fun b ob q _=>⟨ob,k b ob q⟩,fun _ _ q=>q,fun _ _ _ q=>q,fun _ ps q=>⟨#[],by rw[q];simp⟩⟩
theorem Un.refl:Un fs ex H H h h:=Un.kept fun _ _ q=>q
theorem Un.laid (k:∀ b u,h.get? b=some u→h'.get? b=some u)(hp:h.objs.size≤a)(hn:H a=none):Un fs ex H (upd H a o) h h' where
 keep:=fun b u q _ _ _=>k b u q
 slot:=fun b u q _ _ _=>⟨u.slots,k b u q⟩
 free:=fun b u q n _=>by rw[aA (Nat.ne_of_lt (Nat.lt_of_lt_of_le (Heap.lt_size q) hp))];exact n
 there:=fun b u q _=>⟨u,k b u q⟩
 tups:=fun b xs q=>by rw[aA (bQ q hn)];exact q
 frzs:=fun b u xs q=>by rw[aA (bQ q hn)];exact q
 tbls:=fun b ps q=>⟨#[],by rw[aA (bQ q hn),q];simp⟩
theorem Un.write (mu:Mut (H x))(he:e=x∨H e=some (.own x))(k:∀ b u,b≠e→h.get? b=some u→h'.get? b=some u)(heo:∃ u,h'.get? e=some u):Un fs ex H (upd H x o) h h':=by
 have hx:∀ b,H b=none→b≠x:=fun b n z=>by subst z;rw[n]at mu;exact mu
 have hb:∀ b,H b=none→b≠e:=fun b n z=>by
  subst z
  rcases he with r | r
  ·exact hx b n r
  ·rw[n]at r;cases r
 have hm:∀ b u,H b=some u→¬ Mut (some u)→b≠x:=fun b u q nm z=>by subst z;rw[q]at mu;exact nm mu
 refine⟨fun b u q n _ _=>k b u (hb b n) q,fun b u q n _ _=>⟨u.slots,k b u (hb b n) q⟩,fun b u q n _=>by rw[aA (hx b n)];exact n,fun b u q _=>?_,
  fun b xs q=>by rw[aA (hm b _ q fun z=>z)];exact q,fun b u xs q=>by rw[aA (hm b _ q fun z=>z)];exact q,fun b ps q=>⟨#[],by rw[aA (hm b _ q fun z=>z),q];simp⟩⟩
 by_cases hbe:b=e
 ·subst hbe;exact heo
 ·exact⟨u,k b u hbe q⟩
end
def trk (h:Heap)(H:Hp):List Addr:=(List.range h.objs.size).filter fun a=>(H a).isSome
def hidT (h:Heap)(H:Hp):Heap:=PySem.W.hideAll h (trk h H)
theorem qm (h:Heap)(H:Hp):(hidT h H).objs.size=h.objs.size:=PySem.W.hideAll_size _ _
theorem sx {h:Heap}{H:Hp}{b:Addr}{o:Obj}(e:h.get? b=some o)(n:H b=none):(hidT h H).get? b=some o :=
 PySem.W.hideAll_get _ e fun hm=>by
  have q:(H b).isSome=true:=(List.mem_filter.mp hm).2
  rw[n]at q;simp at q
theorem uX {h:Heap}{H:Hp}{b:Addr}{o:Obj}(e:(hidT h H).get? b=some o):h.get? b=some o∧H b=none:=by
 have e':h.get? b=some o:=PySem.W.of_hideAll (trk h H) e
 refine⟨e',?_⟩
 cases q:H b with
 | none=>rfl
 | some x =>
  have hm:b∈trk h H:=List.mem_filter.mpr ⟨List.mem_range.mpr (Heap.lt_size e'),by simp[q]⟩
  have z:(hidT h H).get? b=none:=PySem.W.hideAll_none (trk h H) hm
  rw[z]at e;cases e
def allNews (g h:Heap)(L:Addr):List (Addr×Obj):=(List.range h.objs.size).filterMap fun a=>if a=L∨(g.get? a).isSome=true then none else (h.get? a).map fun o=>(a,o)
def rest (g h:Heap)(L d:Addr):List (Addr×Obj):=(allNews g h L).filter fun p=>decide (p.1≠d)
end L2
namespace L2
open PySem PySem.Spec PyProof.Rows
structure Mod (K:PySem.W.Frag)(mg:Str→Option Value)(base:Heap):Prop where
 kin:K.In base
 glob:base.Ns mainGlobals mg
 blt:∃ mb,base.Ns builtinsNs mb∧∀ x:Str,x ≠ "__name__" → mb x=bootBuiltins x
 nolimit:base.NoLimit
structure Cx where
 prog:Program
 w:World
 K:PySem.W.Frag
 mg:Str→Option Value
 base:Heap
 A:Around
 N:List Str
 s₀:Shared
 H₀:Hp
 env:Env
 outer:List Env
 stack:List Env
 ex:List Addr
 fn:Str→Bool
 calm:Bool
 pn:List (Addr×Obj)
 xe:Value→Shared→Prop
def frs (l:List Env):List Addr:=l.filterMap (·.frame)
abbrev Cx.fs (X:Cx):List Addr:=frs X.outer
def Vis (sc:Scope)(x:Str):Prop:=sc.names.lookup x=some .local∨sc.names.lookup x=some .cell∨sc.names.lookup x=some .free
def Loc (sc:Scope)(x:Str):Prop:=sc.names.lookup x=some .local∨sc.names.lookup x=some .cell
def Look (env:Env)(h:Heap)(m:Str→Option Value)(x:Str)(u:Value):Prop :=
 (env.kindOf x=some .local∧m x=some u)∨((env.kindOf x=some .cell∨env.kindOf x=some .free)∧∃ c,env.cells.lookup x=some c∧h.IsCell c (some u))
structure Cx.Ok (X:Cx):Prop where
 mod:Mod X.K X.mg X.base
 kind:X.env.scope.kind=.function
 glob:X.env.globals=mainGlobals
 blt:X.env.builtins=builtinsNs
 above:X.s₀.heap.objs.size≤X.env.locals
 inj:∀ x y c,X.env.cells.lookup x=some c→X.env.cells.lookup y=some c→x=y
 has:∀ x,(X.env.kindOf x=some .cell∨X.env.kindOf x=some .free)→∃ c,X.env.cells.lookup x=some c
 cab:∀ x c,X.fn x=true→X.env.cells.lookup x=some c→X.s₀.heap.objs.size≤c
 hd:X.calm=true→X.A.handled=none
 frames:X.A.frames=some X.stack
 stk:X.stack=X.outer∨(X.stack=X.env::X.outer∧X.env.frame=some X.env.locals)
 exf:∀ b∈X.ex,b≠X.env.locals∧∀ x c,X.env.cells.lookup x=some c→c≠b
 bs:∀ b o,X.base.get? b=some o→X.s₀.heap.get? b=some o∧X.H₀ b=none
 bsz:X.base.objs.size≤X.s₀.heap.objs.size
 noex:∀ b o,X.base.get? b=some o→b∉X.ex
 exfs:∀ b∈X.ex,b∉X.fs
 funs:X.s₀.heap.FunFrames X.base X.outer
 frf:∀ b∈X.fs,X.H₀ b=none
structure Inv (X:Cx)(pins:List (Addr×Obj))(σ:List (Option V))(H:Hp)(s:Shared):Prop where
 ok:X.Ok
 os:s.os=X.s₀.os
 bare:AllBare s.gens
 base:Un X.fs X.ex X.H₀ H X.s₀.heap s.heap
 loc:∃ m,s.heap.Ns X.env.locals m∧∀ (i:Nat) (x:Str) (v:V),X.N[i]?=some x→σ[i]?=some (some v)→Vis X.env.scope x→∃ u,RelV v u∧Look X.env s.heap m x u
 cell:∀ x c,X.env.cells.lookup x=some c→∃ v,s.heap.IsCell c v
 free:H X.env.locals=none
 freeC:∀ x c,X.env.cells.lookup x=some c→H c=none
 pin:∀ p∈X.pn++pins,s.heap.get? p.1=some p.2∧H p.1=none∧p.1≠X.env.locals∧p.1∉X.fs∧∀ v,p.2.data≠.cell v
 hok:HOk X.prog X.w H s.heap
 len:σ.length=X.N.length
section
variable {X:Cx}{pins:List (Addr×Obj)}{σ:List (Option V)}{H H':Hp}{s:Shared}{h':Heap}
theorem Cx.Ok.nofr (ok:X.Ok){b:Addr}{o:Obj}(e:X.base.get? b=some o):b∉X.fs:=fun hb=>by
 have:=(ok.funs.mem hb).1
 rw[e]at this;cases this
theorem Inv.bs (I:Inv X pins σ H s):∀ b o,X.base.get? b=some o→s.heap.get? b=some o∧H b=none:=fun b o e =>
 ⟨I.base.keep b o (I.ok.bs b o e).1 (I.ok.bs b o e).2 (I.ok.nofr e) (I.ok.noex b o e),I.base.free b o (I.ok.bs b o e).1 (I.ok.bs b o e).2 (I.ok.noex b o e)⟩
theorem Inv.bk (I:Inv X pins σ H s):∀ b o,X.base.get? b=some o→s.heap.get? b=some o:=fun b o e=>(I.bs b o e).1
theorem Inv.mod (I:Inv X pins σ H s):Mod X.K X.mg X.base:=I.ok.mod
theorem Inv.kIn (I:Inv X pins σ H s):X.K.In s.heap:=I.ok.mod.kin.keeps I.bk
theorem Inv.lt (I:Inv X pins σ H s):X.env.locals < s.heap.objs.size:=let ⟨_,hn,_⟩:=I.loc;hn.lt
theorem Inv.sz (I:Inv X pins σ H s):X.s₀.heap.objs.size≤s.heap.objs.size:=Nat.le_trans I.ok.above (Nat.le_of_lt I.lt)
theorem Inv.nofs (I:Inv X pins σ H s){a:Addr}(h:s.heap.objs.size≤a):a∉X.fs:=fun hb=>by
 obtain⟨_,o,ho,_⟩:=I.ok.funs.mem hb
 exact absurd (Nat.lt_of_lt_of_le (Heap.lt_size ho) (Nat.le_trans I.sz h)) (Nat.lt_irrefl _)
theorem Inv.cne (I:Inv X pins σ H s):∀ x c,X.env.cells.lookup x=some c→c≠X.env.locals:=fun x c e z=>by
 obtain⟨v,o,ho,hd⟩:=I.cell x c e
 obtain⟨m,⟨o',es,ep,ho',hd',_⟩,_⟩:=I.loc
 rw[z,ho']at ho;cases ho;rw[hd']at hd;cases hd
theorem Inv.funs (I:Inv X pins σ H s):s.heap.FunFrames X.base X.outer:=by
 have all:∀ (l:List Env),(∀ b∈frs l,b∈X.fs)→X.s₀.heap.FunFrames X.base l→s.heap.FunFrames X.base l:=by
  intro l
  induction l with
  | nil=>intro _ _;trivial
  | cons env r ih =>
   intro hs hl
   obtain⟨hk,⟨L,o,hf,hn,ho,hd⟩,hr⟩:=hl
   have hL:L∈X.fs:=hs L (by unfold frs;rw[List.filterMap_cons,hf];exact List.mem_cons_self)
   obtain⟨sl,e⟩:=I.base.slot L o ho (I.ok.frf L hL) hL fun z=>I.ok.exfs L z hL
   exact⟨hk,⟨L,_,hf,hn,e,hd⟩,ih (fun b hb=>hs b (by unfold frs;rw[List.filterMap_cons,hf];exact List.mem_cons_of_mem _ hb)) hr⟩
 exact all X.outer (fun _ hb=>hb) I.ok.funs
theorem Inv.stack (I:Inv X pins σ H s):s.heap.FunFrames X.base X.stack:=by
 rcases I.ok.stk with e | ⟨e,hf⟩
 ·rw[e];exact I.funs
 ·rw[e]
  obtain⟨m,hn,_⟩:=I.loc
  refine .cons (by rw[I.ok.kind];decide) hf hn ?_ I.funs
  exact Heap.get?_none_of_le (Nat.le_trans I.ok.bsz I.ok.above)
theorem Inv.stkSub (I:Inv X pins σ H s):∀ b∈frs X.stack,b∈X.env.locals::X.fs:=fun b hb=>by
 rcases I.ok.stk with e | ⟨e,hf⟩
 ·rw[e]at hb;exact List.mem_cons_of_mem _ hb
 ·rw[e]at hb
  unfold frs at hb
  rw[List.filterMap_cons,hf]at hb
  exact hb
theorem Inv.stkFree (I:Inv X pins σ H s):∀ b∈frs X.stack,H b=none:=fun b hb=>by
 rcases List.mem_cons.mp (I.stkSub b hb) with e | hb
 ·rw[e];exact I.free
 ·obtain⟨_,o,ho,_⟩:=I.ok.funs.mem hb
  exact I.base.free b o ho (I.ok.frf b hb) fun z=>I.ok.exfs b z hb
theorem Inv.step {g':Array GenState}{t':Nat}{d':Drawn}{ch:List Addr}(I:Inv X pins σ H s)
  (hch:∀ b∈ch,(b∈X.ex∨X.s₀.heap.objs.size≤b)∧b≠X.env.locals∧(∀ x c,X.env.cells.lookup x=some c→c≠b)∧∀ p∈X.pn++pins,p.1≠b)
  (keep:∀ b o,b≠X.env.locals→b∉X.fs→b∉ch→s.heap.get? b=some o→H b=none→h'.get? b=some o)
  (slot:∀ b o,b≠X.env.locals→b∈X.fs→b∉ch→s.heap.get? b=some o→H b=none→∃ sl,h'.get? b=some { o with slots:=sl }) (free:∀ b o,b∉ch→s.heap.get? b=some o→H b=none→H' b=none)
  (there:∀ b o,b∉ch→s.heap.get? b=some o→∃ o',h'.get? b=some o')
  (tups:∀ b xs,H b=some (.tup xs)→H' b=some (.tup xs)) (frzs:∀ b o u,H b=some (.frz o u)→H' b=some (.frz o u)) (tbls:∀ b ps,H b=some (.tbl ps)→∃ more,H' b=some (.tbl (ps++more)))
  (ns:∀ m,s.heap.Ns X.env.locals m→h'.Ns X.env.locals m) (hok:HOk X.prog X.w H' h') (hg:AllBare g') :
  Inv X pins σ H' { s with heap:=h',gens:=g',drawn:=d',toks:=t' }:=by
 have neL:∀ b o,X.s₀.heap.get? b=some o→b≠X.env.locals:=fun b o e=>Nat.ne_of_lt (Nat.lt_of_lt_of_le (Heap.lt_size e) I.ok.above)
 have neC:∀ b o,X.s₀.heap.get? b=some o→b∉X.ex→b∉ch:=fun b o e hx hb=>by
  rcases(hch b hb).1 with z | z
  ·exact hx z
  ·exact absurd (Nat.lt_of_lt_of_le (Heap.lt_size e) z) (Nat.lt_irrefl _)
 have cellK:∀ x c,X.env.cells.lookup x=some c→∀ v,s.heap.IsCell c v→h'.IsCell c v:=fun x c e v ⟨o,ho,hd⟩=>by
  have nch:c∉ch:=fun z=>(hch c z).2.2.1 x c e rfl
  by_cases hc:c∈X.fs
  ·obtain⟨sl,q⟩:=slot c o (I.cne x c e) hc nch ho (I.freeC x c e)
   exact⟨_,q,hd⟩
  ·exact⟨o,keep c o (I.cne x c e) hc nch ho (I.freeC x c e),hd⟩
 refine⟨I.ok,I.os,hg,⟨fun b o e n hb hx=>?_,fun b o e n hb hx=>?_,fun b o e n hx=>?_,fun b o e hx=>?_,fun b xs e=>tups b xs (I.base.tups b xs e),fun b o xs e=>frzs b o xs (I.base.frzs b o xs e),fun b ps e=>?_⟩,?_,fun x c e=>?_,?_,fun x c e=>?_,fun p hp=>?_,hok,I.len⟩
 ·exact keep b o (neL b o e) hb (neC b o e hx) (I.base.keep b o e n hb hx) (I.base.free b o e n hx)
 ·obtain⟨sl,e1⟩:=I.base.slot b o e n hb hx
  obtain⟨sl',e2⟩:=slot b _ (neL b o e) hb (neC b o e hx) e1 (I.base.free b o e n hx)
  exact⟨sl',e2⟩
 ·obtain⟨o',e1⟩:=I.base.there b o e hx
  exact free b o' (neC b o e hx) e1 (I.base.free b o e n hx)
 ·obtain⟨o',e1⟩:=I.base.there b o e hx
  exact there b o' (neC b o e hx) e1
 ·obtain⟨m1,e1⟩:=I.base.tbls b ps e
  obtain⟨m2,e2⟩:=tbls b _ e1
  exact⟨m1++m2,by rw[e2,Array.append_assoc]⟩
 ·obtain⟨m,hn,hl⟩:=I.loc
  refine⟨m,ns m hn,fun i x v e1 e2 e3=>?_⟩
  obtain⟨u,r,l⟩:=hl i x v e1 e2 e3
  refine⟨u,r,?_⟩
  rcases l with l | ⟨k,c,e,z⟩
  ·exact .inl l
  ·exact .inr ⟨k,c,e,cellK x c e _ z⟩
 ·obtain⟨v,z⟩:=I.cell x c e
  exact⟨v,cellK x c e v z⟩
 ·obtain⟨m,⟨o,_,_,ho,_⟩,_⟩:=I.loc
  exact free _ o (fun z=>(hch _ z).2.1 rfl) ho I.free
 ·obtain⟨v,o,ho,hd⟩:=I.cell x c e
  exact free c o (fun z=>(hch c z).2.2.1 x c e rfl) ho (I.freeC x c e)
 ·obtain⟨e,n,ne,nf,d⟩:=I.pin p hp
  have nch:p.1∉ch:=fun z=>(hch p.1 z).2.2.2 p hp rfl
  exact⟨keep p.1 p.2 ne nf nch e n,free p.1 p.2 nch e n,ne,nf,d⟩
theorem Inv.un {t':Nat}(I:Inv X pins σ H s)(u:Un X.fs [] H H' s.heap h')(hok:HOk X.prog X.w H' h'):Inv X pins σ H' { s with heap:=h',toks:=t' }:=by
 obtain⟨m,⟨o,es,ep,ho,r⟩,_⟩:=id I.loc
 obtain⟨sl,hL⟩:=u.any ho I.free (by simp)
 exact I.step (g':=s.gens) (d':=s.drawn) (ch:=[]) (fun _ z=>nomatch z) (fun b o _ hb _ e n=>u.keep b o e n hb (by simp)) (fun b o _ hb _ e n=>u.slot b o e n hb (by simp)) (fun b o _ e n=>u.free b o e n (by simp)) (fun b o _ e=>u.there b o e (by simp)) u.tups u.frzs u.tbls (fun m' hm=>by
  obtain⟨o',es',ep',ho',r'⟩:=hm
  rw[ho]at ho';cases ho'
  exact⟨_,es',ep',hL,r'⟩) hok I.bare
theorem Inv.call {g':Array GenState}{t':Nat}{d':Drawn}{ch:List Addr}(I:Inv X pins σ H s)(u:Un (frs X.stack) ch H H' s.heap h')(hok:HOk X.prog X.w H' h')(hg:AllBare g')
  (hch:∀ b∈ch,(b∈X.ex∨X.s₀.heap.objs.size≤b)∧b≠X.env.locals∧(∀ x c,X.env.cells.lookup x=some c→c≠b)∧∀ p∈X.pn++pins,p.1≠b) :
  Inv X pins σ H' { s with heap:=h',gens:=g',drawn:=d',toks:=t' }:=by
 obtain⟨m,⟨o,es,ep,ho,r⟩,_⟩:=id I.loc
 obtain⟨sl,hL⟩:=u.any ho I.free fun z=>(hch _ z).2.1 rfl
 exact I.step (ch:=ch) hch (fun b o hL hb hc e n=>u.keep b o e n (fun z=>(List.mem_cons.mp (I.stkSub b z)).elim hL hb) hc) (fun b o _ _ hc e n=>u.any e n hc) (fun b o hc e n=>u.free b o e n hc) (fun b o hc e=>u.there b o e hc) u.tups u.frzs u.tbls (fun m' hm=>by
  obtain⟨o',es',ep',ho',r'⟩:=hm
  rw[ho]at ho';cases ho'
  exact⟨_,es',ep',hL,r'⟩) hok hg
theorem Inv.turned {t':Nat}{it:Addr}(I:Inv X pins σ H s)(k:∀ b o,b≠it→s.heap.get? b=some o→h'.get? b=some o)(hn:H it=none)(hL:it≠X.env.locals)
  (h1:it∈X.ex∨X.s₀.heap.objs.size≤it) (h2:∀ x c,X.env.cells.lookup x=some c→c≠it) (h3:∀ p∈X.pn++pins,p.1≠it):Inv X pins σ H { s with heap:=h',toks:=t' }:=by
 have nit:∀ b u,H b=some u→b≠it:=fun b u e z=>by rw[z,hn]at e;cases e
 refine I.step (g':=s.gens) (d':=s.drawn) (ch:=[it]) (fun b hb=>?_) (fun b o _ _ hc e _=>k b o (fun z=>hc (by simp[z])) e) (fun b o _ _ hc e _=>⟨o.slots,k b o (fun z=>hc (by simp[z])) e⟩) (fun _ _ _ _ n=>n)
  (fun b o hc e=>⟨o,k b o (fun z=>hc (by simp[z])) e⟩) (fun _ _ e=>e) (fun _ _ _ e=>e) (fun b ps e=>⟨#[],by rw[e];simp⟩) (fun m hm=>?_) (fun b u e=>?_) I.bare
 ·have e:b=it:=by simpa using hb
  subst e
  exact⟨h1,hL,h2,h3⟩
 ·obtain⟨o,es,ep,ho,r⟩:=hm
  exact⟨o,es,ep,k _ o (Ne.symm hL) ho,r⟩
 ·refine(I.hok b u e).stay (fun c v hc q=>k c v ?_ q) (fun _ q=>q) fun _ _ q=>q
  rcases hc with z | z
  ·rw[z];exact nit b u e
  ·exact nit c _ z
theorem Inv.tok (I:Inv X pins σ H s)(t:Nat):Inv X pins σ H { s with toks:=t }:=I.un (h':=s.heap) (t':=t) Un.refl I.hok
theorem Inv.kept {t':Nat}(I:Inv X pins σ H s)(k:∀ b u,s.heap.get? b=some u→h'.get? b=some u):Inv X pins σ H { s with heap:=h',toks:=t' }:=I.un (Un.kept k) (I.hok.kept k)
theorem Inv.laid {a:Addr}{o:HO}{t':Nat}(I:Inv X pins σ H s)(k:∀ b u,s.heap.get? b=some u→h'.get? b=some u)(hp:s.heap.objs.size≤a)(new:ObjOk X.prog X.w (upd H a o) h' a o) :
  Inv X pins σ (upd H a o) { s with heap:=h',toks:=t' }:=I.un (Un.laid k hp (I.hok.fresh hp)) (I.hok.laid k hp new)
theorem Inv.write {x e:Addr}{o:HO}{t':Nat}(I:Inv X pins σ H s)(mu:Mut (H x))(he:e=x∨H e=some (.own x))(k:∀ b u,b≠e→s.heap.get? b=some u→h'.get? b=some u)(heo:∃ u,h'.get? e=some u)
  (new:ObjOk X.prog X.w (upd H x o) h' x o):Inv X pins σ (upd H x o) { s with heap:=h',toks:=t' }:=I.un (Un.write mu he k heo) (I.hok.write mu he k heo new)
theorem Inv.pins_of {pins':List (Addr×Obj)}(I:Inv X pins σ H s)(h:∀ p∈pins',s.heap.get? p.1=some p.2∧H p.1=none∧p.1≠X.env.locals∧p.1∉X.fs∧∀ v,p.2.data≠.cell v):Inv X pins' σ H s :=
 ⟨I.ok,I.os,I.bare,I.base,I.loc,I.cell,I.free,I.freeC,fun p hp=>(List.mem_append.mp hp).elim (fun z=>I.pin p (List.mem_append_left _ z)) (h p),I.hok,I.len⟩
theorem ja {N:List Str}(hN:N.Nodup){i j:Nat}{x:Str}(a:N[i]?=some x)(b:N[j]?=some x):i=j:=by
 obtain⟨h1,e1⟩:=List.getElem?_eq_some_iff.mp a
 obtain⟨h2,e2⟩:=List.getElem?_eq_some_iff.mp b
 exact(List.getElem_inj hN).mp (e1.trans e2.symm)
theorem ku {M:Model}{A:Around}{E:Value→Shared→Prop}{i:Nat}{x:Str}{v:V}{u:Value}{Q:Unit→Shared→Prop}(I:Inv X pins σ H s)(hN:X.N.Nodup)(hi:X.N[i]?=some x)(hx:Loc X.env.scope x)(r:RelV v u)
  (h:∀ s',Inv X pins (σ.set i (some v)) H s'→(∃ a,Heap.SameBut a s.heap s'.heap∧(a=X.env.locals∨X.env.cells.lookup x=some a))→Q () s') (hf:X.fn x=true∨X.env.scope.names.lookup x=some .local:=by first | exact .inl rfl | exact .inr rfl | assumption):wpAny M A (storeName X.env x u) Q E s:=by
 obtain⟨m,hn,hl⟩:=id I.loc
 have hcls:(X.env.scope.kind==.class||(X.env.scope.kind==.module&&X.env.locals != X.env.globals))=false:=by rw[I.ok.kind];rfl
 have hiσ:i < σ.length:=by rw[I.len];exact(List.getElem?_eq_some_iff.mp hi).1
 have cne:=I.cne
 have tracked:∀ {a:Addr} {h':Heap},(∃ o,s.heap.get? a=some o∧H a=none)→Heap.SameBut a s.heap h'→HOk X.prog X.w H h':=fun {a h'} ha hs b ob e=>by
  obtain⟨_,_,hfree⟩:=ha
  refine(I.hok b ob e).stay (fun c w' hc q=>(hs.2 c ?_).trans q) (fun _ q=>q) fun _ _ q=>q
  rintro rfl
  rcases hc with rfl | hc
  ·rw[hfree]at e;cases e
  ·rw[hfree]at hc;cases hc
 rcases hx with hk | hk
 ·refine wpAny_storeName_local hk hn (fun h' hn' hs=>?_) hcls
  obtain⟨oL,_,_,hoL,_⟩:=id hn
  refine h _ ⟨I.ok,I.os,I.bare,⟨fun b o e n hb hx=>?_,fun b o e n hb hx=>?_,I.base.free,fun b o e hx=>?_,I.base.tups,I.base.frzs,I.base.tbls⟩,⟨_,hn',fun j y v' e1 e2 e3=>?_⟩,fun y c e=>?_,I.free,I.freeC,fun p hp=>?_,tracked ⟨oL,hoL,I.free⟩ hs,by simpa using I.len⟩ ⟨_,hs,.inl rfl⟩
  ·exact(hs.2 b (Nat.ne_of_lt (Nat.lt_of_lt_of_le (Heap.lt_size e) I.ok.above))).trans (I.base.keep b o e n hb hx)
  ·obtain⟨sl,e1⟩:=I.base.slot b o e n hb hx
   exact⟨sl,(hs.2 b (Nat.ne_of_lt (Nat.lt_of_lt_of_le (Heap.lt_size e) I.ok.above))).trans e1⟩
  ·obtain⟨o',e1⟩:=I.base.there b o e hx
   exact⟨o',(hs.2 b (Nat.ne_of_lt (Nat.lt_of_lt_of_le (Heap.lt_size e) I.ok.above))).trans e1⟩
  ·by_cases hj:j=i
   ·subst hj
    rw[hi]at e1;cases e1
    rw[List.getElem?_set_self hiσ]at e2
    cases e2
    exact⟨u,r,.inl ⟨hk,by simp⟩⟩
   ·rw[List.getElem?_set_ne (Ne.symm hj)]at e2
    obtain⟨u',r',q⟩:=hl j y v' e1 e2 e3
    refine⟨u',r',?_⟩
    rcases q with ⟨k,e⟩ | ⟨k,c,e,z⟩
    ·refine .inl ⟨k,?_⟩
     have:y≠x:=fun e=>hj (ja hN e1 (e ▸ hi))
     simp[this,e]
    ·exact .inr ⟨k,c,e,z.sameBut hs (cne y c e)⟩
  ·obtain⟨w',z⟩:=I.cell y c e
   exact⟨w',z.sameBut hs (cne y c e)⟩
  ·obtain⟨e,n,ne,nf,d⟩:=I.pin p hp
   exact⟨(hs.2 p.1 ne).trans e,n,ne,nf,d⟩
 ·have hfn:X.fn x=true:=by
   rcases hf with z | z
   ·exact z
   ·rw[z]at hk;cases hk
  obtain⟨c,hc⟩:=I.ok.has x (.inl hk)
  obtain⟨w',z⟩:=I.cell x c hc
  refine wpAny_storeName_cell I.ok.kind hk hc z (fun h' hc' hs=>?_)
  obtain⟨oc,hoc,hocd⟩:=id z
  refine h { s with heap:=h' } ⟨I.ok,I.os,I.bare,⟨fun b o e n hb hx=>?_,fun b o e n hb hx=>?_,I.base.free,fun b o e hx=>?_,I.base.tups,I.base.frzs,I.base.tbls⟩,⟨m,hn.sameBut hs (Ne.symm (cne x c hc)),fun j y v' e1 e2 e3=>?_⟩,fun y c' e=>?_,I.free,I.freeC,fun p hp=>?_,tracked ⟨oc,hoc,I.freeC x c hc⟩ hs,by simpa using I.len⟩ ⟨c,hs,.inr hc⟩
  ·exact(hs.2 b (Nat.ne_of_lt (Nat.lt_of_lt_of_le (Heap.lt_size e) (I.ok.cab x c hfn hc)))).trans (I.base.keep b o e n hb hx)
  ·obtain⟨sl,e1⟩:=I.base.slot b o e n hb hx
   exact⟨sl,(hs.2 b (Nat.ne_of_lt (Nat.lt_of_lt_of_le (Heap.lt_size e) (I.ok.cab x c hfn hc)))).trans e1⟩
  ·obtain⟨o',e1⟩:=I.base.there b o e hx
   exact⟨o',(hs.2 b (Nat.ne_of_lt (Nat.lt_of_lt_of_le (Heap.lt_size e) (I.ok.cab x c hfn hc)))).trans e1⟩
  ·by_cases hj:j=i
   ·subst hj
    rw[hi]at e1;cases e1
    rw[List.getElem?_set_self hiσ]at e2
    cases e2
    exact⟨u,r,.inr ⟨.inl hk,c,hc,hc'⟩⟩
   ·rw[List.getElem?_set_ne (Ne.symm hj)]at e2
    obtain⟨u',r',q⟩:=hl j y v' e1 e2 e3
    refine⟨u',r',?_⟩
    rcases q with q | ⟨k,c',e,z'⟩
    ·exact .inl q
    ·refine .inr ⟨k,c',e,z'.sameBut hs ?_⟩
     rintro rfl
     exact hj (ja hN e1 (I.ok.inj _ _ _ e hc ▸ hi))
  ·by_cases hcc:c'=c
   ·subst hcc;exact⟨_,hc'⟩
   ·obtain⟨w2,z2⟩:=I.cell y c' e
    exact⟨w2,z2.sameBut hs hcc⟩
  ·obtain⟨e,n,ne,nf,d⟩:=I.pin p hp
   refine⟨(hs.2 p.1 ?_).trans e,n,ne,nf,d⟩
   intro q
   rw[q,hoc]at e
   have q':oc=p.2:=Option.some.inj e
   exact d w' (by rw[← q'];exact hocd)
theorem fN {M:Model}{A:Around}{E:Value→Shared→Prop}{i:Nat}{x:Str}{v:V}{u:Value}{Q:Unit→Shared→Prop}(I:Inv X pins σ H s)(hN:X.N.Nodup)(hi:X.N[i]?=some x)(hx:Loc X.env.scope x)(r:RelV v u)
  (h:∀ s',Inv X pins (σ.set i (some v)) H s'→Q () s') (hf:X.fn x=true∨X.env.scope.names.lookup x=some .local:=by first | exact .inl rfl | exact .inr rfl | assumption):wpAny M A (storeName X.env x u) Q E s :=
 ku I hN hi hx r (fun s' I' _=>h s' I') hf
theorem Inv.call' {s':Shared}{ch:List Addr}(I:Inv X pins σ H s)(ho:s'.os=s.os)(u:Un (frs X.stack) ch H H' s.heap s'.heap)(hok:HOk X.prog X.w H' s'.heap)(hg:AllBare s'.gens)
  (hch:∀ b∈ch,(b∈X.ex∨X.s₀.heap.objs.size≤b)∧b≠X.env.locals∧(∀ x c,X.env.cells.lookup x=some c→c≠b)∧∀ p∈X.pn++pins,p.1≠b):Inv X pins σ H' s':=by
 obtain⟨h',g',d',t',o'⟩:=s'
 have e:o'=s.os:=ho
 subst e
 exact I.call (g':=g') (t':=t') (d':=d') u hok hg hch
end
abbrev XK:=Value→Option Addr→Hp→Prop
abbrev St:=List (Option V)
abbrev VK:=V→Hp→Prop
abbrev TE:=St→Hp→VK→Prop
abbrev TT:=St→Hp→(Bool→Hp→Prop)→Prop
abbrev TA:=St→Hp→(List V→Hp→Prop)→Prop
structure Ends where
 nx:St→Hp→Prop
 rt:VK
 bk:St→Hp→Prop:=fun _ _=>False
 ct:St→Hp→Prop:=fun _ _=>False
abbrev TS:=Ends→St→Hp→Prop
def EP (X:Cx)(pins:List (Addr×Obj))(σ:St)(Q:VK)(u:Value)(s':Shared):Prop:=∃ v H',Inv X pins σ H' s'∧RelV v u∧Q v H'
def TP (X:Cx)(pins:List (Addr×Obj))(σ:St)(Q:Bool→Hp→Prop)(b:Bool)(s':Shared):Prop:=∃ H',Inv X pins σ H' s'∧Q b H'
def AP (X:Cx)(pins:List (Addr×Obj))(σ:St)(Q:List V→Hp→Prop)(us:List Value)(s':Shared):Prop:=∃ vs H',Inv X pins σ H' s'∧Vals vs us∧Q vs H'
def SP (X:Cx)(pins:List (Addr×Obj))(D:Ends)(f:Flow)(s':Shared):Prop :=
 match f with
 | .next=>∃ σ' H',Inv X pins σ' H' s'∧D.nx σ' H'
 | .brk=>∃ σ' H',Inv X pins σ' H' s'∧D.bk σ' H'
 | .cont=>∃ σ' H',Inv X pins σ' H' s'∧D.ct σ' H'
 | .ret u=>∃ v σ' H',Inv X pins σ' H' s'∧RelV v u∧D.rt v H'
def PE (X:Cx)(e:Expr)(t:TE):Prop :=
 ∀ (pins:List (Addr×Obj)) (s:Shared) (σ:St) (H:Hp) (Q:VK),Inv X pins σ H s→t σ H Q→wpAny (model X.prog X.w) X.A (eval e X.env) (EP X pins σ Q) X.xe s
def PT (X:Cx)(e:Expr)(t:TT):Prop :=
 ∀ (pins:List (Addr×Obj)) (s:Shared) (σ:St) (H:Hp) (Q:Bool→Hp→Prop),Inv X pins σ H s→t σ H Q→wpAny (model X.prog X.w) X.A (isTrue e X.env (eval e X.env)) (TP X pins σ Q) X.xe s
def PW (X:Cx)(e:Expr)(t:TT):Prop :=
 ∀ (whole:Sem Value) (pins:List (Addr×Obj)) (s:Shared) (σ:St) (H:Hp) (Q:Bool→Hp→Prop),Inv X pins σ H s→t σ H Q→wpAny (model X.prog X.w) X.A (isTrue e X.env whole) (TP X pins σ Q) X.xe s
theorem PW.pt {X:Cx}{e:Expr}{t:TT}(h:PW X e t):PT X e t:=h _
def PA (X:Cx)(es:List Expr)(t:TA):Prop :=
 ∀ (pos:Pos) (pins:List (Addr×Obj)) (s:Shared) (σ:St) (H:Hp) (Q:List V→Hp→Prop),Inv X pins σ H s→t σ H Q→wpAny (model X.prog X.w) X.A (spliced (backTo pos (starEach es X.env))) (AP X pins σ Q) X.xe s
def PS (X:Cx)(st:Stmt)(t:TS):Prop :=
 ∀ (pins:List (Addr×Obj)) (s:Shared) (σ:St) (H:Hp) (D:Ends),Inv X pins σ H s→t D σ H→wpAny (model X.prog X.w) X.A (exec st X.env) (SP X pins D) X.xe s
def PSs (X:Cx)(st:List Stmt)(t:TS):Prop :=
 ∀ (pins:List (Addr×Obj)) (s:Shared) (σ:St) (H:Hp) (D:Ends),Inv X pins σ H s→t D σ H→wpAny (model X.prog X.w) X.A (execs st X.env) (SP X pins D) X.xe s
theorem thn {α:Type}{t:Sem α}{Q Q':α→Shared→Prop}{M:Model}{A:Around}{E:Value→Shared→Prop}{s:Shared}(h:wpAny M A t Q E s)(hQ:∀ a s,Q a s→Q' a s):wpAny M A t Q' E s:=wpAny_mono h hQ fun _ _ x=>x
end L2
namespace L2
open PySem PySem.Spec PyProof.Rows
section
variable {X:Cx}
theorem bin {a b:Expr}{ta tb:TE}(ha:PE X a ta)(hb:PE X b tb){pins:List (Addr×Obj)}{s:Shared}{σ:St}{H:Hp}{R:V→V→Hp→Prop}(I:Inv X pins σ H s)(h:ta σ H fun x H1=>tb σ H1 fun y H2=>R x y H2)
  {α:Type} {Q:α→Shared→Prop} {f:Value→Value→Sem α}
  (hf:∀ v u s2 x y H2,Inv X pins σ H2 s2→RelV x v→RelV y u→R x y H2→wpAny (model X.prog X.w) X.A (f v u) Q X.xe s2) :
  wpAny (model X.prog X.w) X.A (eval a X.env) (fun v s₁=>wpAny (model X.prog X.w) X.A (eval b X.env) (fun u s₂=>wpAny (model X.prog X.w) X.A (f v u) Q X.xe s₂) X.xe s₁) X.xe s:=by
 refine thn (ha pins s σ H _ I h) fun v s1 ⟨x,H1,I1,r1,q1⟩=>?_
 refine thn (hb pins s1 σ H1 _ I1 q1) fun u s2 ⟨y,H2,I2,r2,q2⟩=>?_
 exact hf v u s2 x y H2 I2 r1 r2 q2
def tVar (i:Nat):TE:=fun σ H Q=>∃ v,σ[i]?=some (some v)∧Q v H
def tC (v:V):TE:=fun _ H Q=>Q v H
theorem cO {i:Nat}{x:Str}{pos:Pos}(hN:X.N[i]?=some x)(hv:Vis X.env.scope x)(hd:(x==("__debug__":Str))=false:=by decide)(hcd:(x==("__classdict__":Str))=false:=by decide):PE X (.Name x pos) (tVar i):=by
 intro pins s σ H Q I h
 obtain⟨v,e,h⟩:=h
 obtain⟨m,hn,hl⟩:=I.loc
 obtain⟨u,r,l⟩:=hl i x v hN e hv
 have fin:EP X pins σ Q u s:=⟨v,H,I,r,h⟩
 rcases l with ⟨hk,hm⟩ | ⟨hk,c,hc,hcell⟩
 ·exact wpAny_Name (wpAny_loadName_local I.ok.kind hk hn hm fin) hd
 ·rcases hk with hk | hk
  ·exact wpAny_Name (wpAny_loadName_cell I.ok.kind hk hc hcell fin) hd
  ·exact wpAny_Name (wpAny_loadName_free I.ok.kind hk hc hcell fin hcd) hd
theorem wJ {i j pos}:PE X (.Constant (.int i) j pos) (tC (.int i)):=fun _ _ _ H _ I h=>wpAny_Constant_int ⟨.int i,H,I.tok _,⟨_,rfl⟩,h⟩
theorem xU {b j pos}:PE X (.Constant (.bool b) j pos) (tC (.bl b)):=fun _ _ _ H _ I h=>Constant_bool ⟨.bl b,H,I,rfl,h⟩
theorem wK {j pos}:PE X (.Constant .none j pos) (tC .non):=fun _ _ _ H _ I h=>Constant_none ⟨.non,H,I,rfl,h⟩
theorem wL {x j pos}:PE X (.Constant (.str x) j pos) (tC (.str x)):=fun _ _ _ H _ I h=>Calls.Constant_str ⟨.str x,H,I.tok _,⟨_,rfl⟩,h⟩
def Gl (X:Cx)(x:Str):Prop:=X.env.kindOf x=some .globalImplicit
theorem iU {E:Value→Shared→Prop}{pins:List (Addr×Obj)}{s:Shared}{σ:St}{H:Hp}{x:Str}{u:Value}{pos:Pos}{Q:Value→Shared→Prop}(I:Inv X pins σ H s)(hg:Gl X x)(hm:X.mg x=some u)(h:Q u s)
  (hd:(x==("__debug__":Str))=false:=by decide):wpAny (model X.prog X.w) X.A (eval (.Name x pos) X.env) Q E s :=
 Calls.Name_function_global I.ok.kind hg (Calls.loadGlobal_global (by rw[I.ok.glob];exact I.mod.glob.keeps I.bk) hm h) hd
theorem gU {E:Value→Shared→Prop}{pins:List (Addr×Obj)}{s:Shared}{σ:St}{H:Hp}{x:Str}{u:Value}{pos:Pos}{Q:Value→Shared→Prop}(I:Inv X pins σ H s)(hg:Gl X x)(hm:X.mg x=none)(hv:bootBuiltins x=some u)(h:Q u s)
  (hn:x ≠ "__name__" := by decide) (hd:(x==("__debug__":Str))=false:=by decide):wpAny (model X.prog X.w) X.A (eval (.Name x pos) X.env) Q E s:=by
 obtain⟨mb,h1,h2⟩:=I.mod.blt
 exact Calls.Name_function_global I.ok.kind hg (Calls.loadGlobal_builtin (by rw[I.ok.glob];exact I.mod.glob.keeps I.bk) hm (by rw[I.ok.blt];exact h1.keeps I.bk) ((h2 x hn).trans hv) h) hd
theorem bo {x:Str}{v:V}{u:Value}{pos:Pos}(hg:Gl X x)(hm:X.mg x=some u)(r:RelV v u)(hd:(x==("__debug__":Str))=false:=by decide):PE X (.Name x pos) (tC v) :=
 fun _ _ _ H _ I h=>iU I hg hm ⟨v,H,I,r,h⟩ hd
theorem aM {x:Str}{v:V}{u:Value}{pos:Pos}(hg:Gl X x)(hm:X.mg x=none)(hv:bootBuiltins x=some u)(r:RelV v u)(hn:x ≠ "__name__" := by decide)(hd:(x==("__debug__":Str))=false:=by decide):PE X (.Name x pos) (tC v) :=
 fun _ _ _ H _ I h=>gU I hg hm hv ⟨v,H,I,r,h⟩ hn hd
variable {a b:Expr}{ta tb:TE}{pos:Pos}
def PC (X:Cx)(op:CmpOp)(a b:Expr)(t:TE):Prop :=
 ∀ (pins:List (Addr×Obj)) (s:Shared) (σ:St) (H:Hp) (Q:VK),Inv X pins σ H s→t σ H Q →
  wpAny (model X.prog X.w) X.A (eval a X.env) (fun v s₁=>wpAny (model X.prog X.w) X.A (eval b X.env) (fun u s₂=>wpAny (model X.prog X.w) X.A (compareOp op v u) (EP X pins σ Q) X.xe s₂) X.xe s₁) X.xe s
theorem nobehind (b:Expr){op:CmpOp}(h:op≠.In)(h2:op≠.NotIn):behindInMarks op b=false:=by
 have e1:(op==CmpOp.In)=false:=by cases op<;>first | rfl | exact absurd rfl h
 have e2:(op==CmpOp.NotIn)=false:=by cases op<;>first | rfl | exact absurd rfl h2
 cases b<;>simp[behindInMarks,e1,e2]
def tB (t:TE):TT:=fun σ H Q=>t σ H fun x H1=>∃ c,x=.bl c∧Q c H1
theorem yF {op:CmpOp}{t:TE}(h:PC X op a b t)(h1:behindInMarks op b=false:=by first | exact nobehind _ (by decide) (by decide) | rfl):PT X (.Compare a [op] [b] pos) (tB t):=by
 intro pins s σ H Q I hw
 refine wpAny_isTrue_Compare1 (thn (h pins s σ H _ I hw) fun v s1 h1=>thn h1 fun u s2 h2=>thn h2 fun c s3 ⟨x,H1,I1,r1,q1⟩=>?_) h1
 obtain⟨d,rfl,q⟩:=q1
 cases r1
 exact wpAny_truthy_bool ⟨H1,I1,q⟩
theorem wM {e:Expr}{t:TE}(h:PE X e t)(he:∀ whole,isTrue e X.env whole=(do let v ← whole;standAt e.pos;holding [v] (truthy v)):=by intro _;rfl):PT X e (tB t):=by
 intro pins s σ H Q I hw
 refine isTrue_plain (thn (h pins s σ H _ I hw) fun v s1 ⟨x,H1,I1,r1,q1⟩=>?_) (he _)
 obtain⟨d,rfl,q⟩:=q1
 cases r1
 exact wpAny_truthy_bool ⟨H1,I1,q⟩
variable {tA tB':TT}{rest:List Expr}
def tAnd (t u:TT):TT:=fun σ H Q=>t σ H fun c H1=>if c=true then u σ H1 Q else Q false H1
def tOr (t u:TT):TT:=fun σ H Q=>t σ H fun c H1=>if c=true then Q true H1 else u σ H1 Q
def tNot (t:TT):TT:=fun σ H Q=>t σ H fun c H1=>Q (!c) H1
theorem uY (ha:PT X a tA):PW X (.BoolOp .And [a] pos) tA:=by
 intro wh pins s σ H Q I h
 refine isTrue_and (thn (ha pins s σ H Q I h) fun c s1 e=>?_)
 cases c with
 | true=>exact isTrue_and_nil e
 | false=>exact e
theorem wN (ha:PT X a tA):PW X (.BoolOp .Or [a] pos) tA:=by
 intro wh pins s σ H Q I h
 refine isTrue_or (thn (ha pins s σ H Q I h) fun c s1 e=>?_)
 cases c with
 | false=>exact isTrue_or_nil e
 | true=>exact e
theorem wO (ha:PT X a tA)(hb:PW X (.BoolOp .And (b::rest) pos) tB'):PW X (.BoolOp .And (a::b::rest) pos) (tAnd tA tB'):=by
 intro wh pins s σ H Q I h
 refine isTrue_and (thn (ha pins s σ H _ I h) fun c s1 ⟨H1,I1,q1⟩=>?_)
 cases c with
 | true=>exact hb wh pins s1 σ H1 Q I1 q1
 | false=>exact⟨H1,I1,q1⟩
theorem xV (ha:PT X a tA)(hb:PW X (.BoolOp .Or (b::rest) pos) tB'):PW X (.BoolOp .Or (a::b::rest) pos) (tOr tA tB'):=by
 intro wh pins s σ H Q I h
 refine isTrue_or (thn (ha pins s σ H _ I h) fun c s1 ⟨H1,I1,q1⟩=>?_)
 cases c with
 | true=>exact⟨H1,I1,q1⟩
 | false=>exact hb wh pins s1 σ H1 Q I1 q1
theorem wQ (ha:PT X a tA):PT X (.UnaryOp .Not a pos) (tNot tA):=by
 intro pins s σ H Q I h
 exact isTrue_not (ha pins s σ H (fun c H1=>Q (!c) H1) I h)
def tAndV (ta tb:TE):TE:=fun σ H Q=>ta σ H fun x H1=>∃ c,x=.bl c∧if c=true then tb σ H1 Q else Q (.bl false) H1
def tOrV (ta tb:TE):TE:=fun σ H Q=>ta σ H fun x H1=>∃ c,x=.bl c∧if c=true then Q (.bl true) H1 else tb σ H1 Q
def tNotV (ta:TE):TE:=fun σ H Q=>ta σ H fun x H1=>∃ c,x=.bl c∧Q (.bl (!c)) H1
theorem wR {op}{t:TE}(h:PE X a t):PE X (.BoolOp op [a] pos) t:=fun pins s σ H Q I hw=>BoolOp_one (h pins s σ H Q I hw)
theorem wS (ha:PE X a ta)(hb:PE X (.BoolOp .And (b::rest) pos) tb):PE X (.BoolOp .And (a::b::rest) pos) (tAndV ta tb):=by
 intro pins s σ H Q I h
 refine BoolOp_and (thn (ha pins s σ H _ I h) fun v s1 ⟨x,H1,I1,r1,q1⟩=>?_)
 obtain⟨c,rfl,q1⟩:=q1
 cases r1
 refine wpAny_truthy_bool ?_
 cases c with
 | true=>exact hb pins s1 σ H1 Q I1 q1
 | false=>exact⟨.bl false,H1,I1,rfl,q1⟩
theorem xW (ha:PE X a ta)(hb:PE X (.BoolOp .Or (b::rest) pos) tb):PE X (.BoolOp .Or (a::b::rest) pos) (tOrV ta tb):=by
 intro pins s σ H Q I h
 refine BoolOp_or (thn (ha pins s σ H _ I h) fun v s1 ⟨x,H1,I1,r1,q1⟩=>?_)
 obtain⟨c,rfl,q1⟩:=q1
 cases r1
 refine wpAny_truthy_bool ?_
 cases c with
 | false=>exact hb pins s1 σ H1 Q I1 q1
 | true=>exact⟨.bl true,H1,I1,rfl,q1⟩
theorem wT (ha:PE X a ta):PE X (.UnaryOp .Not a pos) (tNotV ta):=by
 intro pins s σ H Q I h
 refine UnaryOp_ (thn (ha pins s σ H _ I h) fun v s1 ⟨x,H1,I1,r1,q1⟩=>?_)
 obtain⟨c,rfl,q1⟩:=q1
 cases r1
 exact not_of (wpAny_truthy_bool ⟨.bl (!c),H1,I1,rfl,q1⟩)
def tIf (t:TT)(ta tb:TE):TE:=fun σ H Q=>t σ H fun c H1=>if c=true then ta σ H1 Q else tb σ H1 Q
theorem sy {c:Expr}(hc:PT X c tA)(ha:PE X a ta)(hb:PE X b tb):PE X (.IfExp c a b pos) (tIf tA ta tb):=by
 intro pins s σ H Q I h
 refine wpAny_IfExp (thn (hc pins s σ H _ I h) fun d s1 ⟨H1,I1,q1⟩=>?_)
 cases d with
 | true=>exact ha pins s1 σ H1 Q I1 q1
 | false=>exact hb pins s1 σ H1 Q I1 q1
end
end L2
namespace L2
open PySem PySem.Spec PyProof.Rows
def SqL (K:PySem.W.Frag)(H:Hp)(a:Addr)(xs:List V):Prop :=
 Rd H a (.lst xs) ∨
  ∃ (o:Obj) (its:Array Value) (n:Nat),K.lookup a=some o∧o.cls=.type "list" ∧ o.dict=none∧o.data=.seq its n∧its.size≤sizeLine∧Vals xs its.toList
def SqT (K:PySem.W.Frag)(H:Hp)(a:Addr)(xs:List V):Prop :=
 Rd H a (.tup xs) ∨
  ∃ (o:Obj) (its:Array Value) (n:Nat),K.lookup a=some o∧o.cls=.type "tuple" ∧ o.dict=none∧o.data=.seq its n∧its.size≤sizeLine∧Vals xs its.toList
def absV:Value→Option V
 | .none=>some .non
 | .bool b=>some (.bl b)
 | .int i _=>some (.int i)
 | .str x _=>some (.str x)
 | .bytes b _=>some (.byt b)
 | .float b _=>some (.flt b)
 | .ref a=>some (.ref a)
 | .type n=>some (.ty n)
 | _=>none
theorem RelV.abs {x:V}{u:Value}(r:RelV x u):absV u=some x:=by
 cases x with
 | non=>cases r;rfl
 | bl _=>cases r;rfl
 | int _=>obtain⟨t,rfl⟩:=r;rfl
 | str _=>obtain⟨t,rfl⟩:=r;rfl
 | byt _=>obtain⟨t,rfl⟩:=r;rfl
 | flt _=>obtain⟨t,rfl⟩:=r;rfl
 | ref _=>cases r;rfl
 | ty _=>cases r;rfl
theorem RelV.inj {x y:V}{u:Value}(r:RelV x u)(q:RelV y u):x=y:=Option.some.inj (r.abs.symm.trans q.abs)
theorem Vals.inj:∀ {xs ys:List V} {us:List Value},Vals xs us→Vals ys us→xs=ys
 | _,_,_,.nil,.nil=>rfl
 | _,_,_,.cons r t,.cons r' t'=>by rw[r.inj r',Vals.inj t t']
section
variable {X:Cx}{pins:List (Addr×Obj)}{σ:St}{H:Hp}{s:Shared}{a:Addr}{xs ys:List V}
theorem SqL.of {K:PySem.W.Frag}(h:H a=some (.lst xs)):SqL K H a xs:=.inl (.inl h)
theorem SqT.of {K:PySem.W.Frag}(h:H a=some (.tup xs)):SqT K H a xs:=.inl (.inl h)
theorem Inv.list (I:Inv X pins σ H s)(h:SqL X.K H a xs):∃ its:List Value,Vals xs its∧PlainL s.heap a its.toArray∧xs.length≤sizeLine:=by
 rcases h with h | ⟨o,its,n,hk,hc,hd,hs,hz,r⟩
 ·obtain⟨z,its,n,r,e⟩:=h.ok I.hok
  exact⟨its,r,⟨_,n,e,rfl,rfl,rfl⟩,z⟩
 ·refine⟨its.toList,r,⟨o,n,I.kIn a o hk,hc,hd,by simpa using hs⟩,?_⟩
  have e:=r.length
  simp only[Array.length_toList]at e
  omega
theorem Inv.tuple (I:Inv X pins σ H s)(h:SqT X.K H a xs):∃ its:List Value,Vals xs its∧IsTup s.heap a its.toArray∧xs.length≤sizeLine:=by
 rcases h with h | ⟨o,its,n,hk,hc,_,hs,hz,r⟩
 ·obtain⟨z,its,r,p⟩:=h.ok I.hok
  exact⟨its,r,p.is,z⟩
 ·refine⟨its.toList,r,⟨o,I.kIn a o hk,hc,n,by simpa using hs⟩,?_⟩
  have e:=r.length
  simp only[Array.length_toList]at e
  omega
theorem Inv.list_inj (I:Inv X pins σ H s)(h:SqL X.K H a xs)(h':SqL X.K H a ys):xs=ys:=by
 obtain⟨its,r,⟨o,n,e,_,_,d⟩,_⟩:=I.list h
 obtain⟨its',r',⟨o',n',e',_,_,d'⟩,_⟩:=I.list h'
 rw[e]at e';cases e'
 rw[d]at d'
 injection d' with d1 _
 have:its=its':=by simpa using congrArg Array.toList d1
 subst this
 exact r.inj r'
theorem Inv.tuple_inj (I:Inv X pins σ H s)(h:SqT X.K H a xs)(h':SqT X.K H a ys):xs=ys:=by
 obtain⟨its,r,⟨o,e,_,n,d⟩,_⟩:=I.tuple h
 obtain⟨its',r',⟨o',e',_,n',d'⟩,_⟩:=I.tuple h'
 rw[e]at e';cases e'
 rw[d]at d'
 injection d' with d1 _
 have:its=its':=by simpa using congrArg Array.toList d1
 subst this
 exact r.inj r'
end
section
variable {X:Cx}{pins:List (Addr×Obj)}{σ:St}{H:Hp}{s:Shared}{E:Value→Shared→Prop}
end
section
variable {X:Cx}{st:Stmt}{rest:List Stmt}{t u:TS}{e:Expr}{te:TE}{pos:Pos}
def tNext:TS:=fun D σ H=>D.nx σ H
def tSeq (t u:TS):TS:=fun D σ H=>t { D with nx:=u D } σ H
theorem uZ:PSs X [] tNext:=fun _ _ σ H _ I h=>wpAny_execs_nil ⟨σ,H,I,h⟩
theorem dv (h1:PS X st t)(h2:PSs X rest u):PSs X (st::rest) (tSeq t u):=by
 intro pins s σ H D I h
 refine wpAny_execs_cons (thn (h1 pins s σ H { D with nx:=u D } I h) fun f s1 q=>?_)
 cases f with
 | next =>
  obtain⟨σ',H',I',q⟩:=q
  exact h2 pins s1 σ' H' D I' q
 | ret v=>exact q
 | brk=>exact q
 | cont=>exact q
theorem pc (h1:PS X st t):PSs X [st] t:=by
 intro pins s σ H D I h
 refine wpAny_execs_cons (thn (h1 pins s σ H D I h) fun f s1 q=>?_)
 cases f with
 | next=>exact wpAny_execs_nil q
 | ret v=>exact q
 | brk=>exact q
 | cont=>exact q
theorem Inv.quiet {pins:List (Addr×Obj)}{σ:St}{H:Hp}{s:Shared}(I:Inv X pins σ H s):interactive X.env=false:=by simp[interactive,I.ok.kind]
def tDrop (te:TE):TS:=fun D σ H=>te σ H fun _ H1=>D.nx σ H1
theorem iV (he:PE X e te)(hs:swapsWith e none pos.line X.env=pure false:=by rfl):PS X (.Expr e pos) (tDrop te):=by
 intro pins s σ H D I h
 exact wpAny_Expr_any (thn (he pins s σ H _ I h) fun v s1 ⟨x,H1,I1,r1,q1⟩=>⟨σ,H1,I1,q1⟩) I.quiet hs
def tRet (te:TE):TS:=fun D σ H=>te σ H D.rt
theorem wU (he:PE X e te):PS X (.Return (some e) pos) (tRet te):=by
 intro pins s σ H D I h
 exact wpAny_Return_some (thn (he pins s σ H _ I h) fun v s1 ⟨x,H1,I1,r1,q1⟩=>⟨x,σ,H1,I1,r1,q1⟩)
def tIfS (c:TT)(t u:TS):TS:=fun D σ H=>c σ H fun b H1=>if b=true then t D σ H1 else u D σ H1
theorem xX {c:Expr}{a b:List Stmt}{tc:TT}(hc:PT X c tc)(ha:PSs X a t)(hb:PSs X b u):PS X (.If c a b pos) (tIfS tc t u):=by
 intro pins s σ H D I h
 refine wpAny_If (thn (hc pins s σ H _ I h) fun d s1 ⟨H1,I1,q1⟩=>?_)
 cases d with
 | true=>exact ha pins s1 σ H1 D I1 q1
 | false=>exact hb pins s1 σ H1 D I1 q1
def tNever:TS:=fun _ _ _=>False
theorem kx {sts:List Stmt}:PSs X sts tNever:=fun _ _ _ _ _ _ h=>h.elim
end
abbrev TG:=V→St→Hp→(St→Hp→Prop)→Prop
abbrev TGs:=List V→St→Hp→(St→Hp→Prop)→Prop
def PG (X:Cx)(target:Expr)(t:TG):Prop :=
 ∀ (pins:List (Addr×Obj)) (s:Shared) (σ:St) (H:Hp) (v:V) (u:Value) (Q:St→Hp→Prop),Inv X pins σ H s→RelV v u→t v σ H Q →
  wpAny (model X.prog X.w) X.A (assign target X.env u) (fun _ s'=>∃ σ' H',Inv X pins σ' H' s'∧Q σ' H') X.xe s
def PGs (X:Cx)(ts:List Expr)(t:TGs):Prop :=
 ∀ (pins:List (Addr×Obj)) (s:Shared) (σ:St) (H:Hp) (vs:List V) (us:List Value) (Q:St→Hp→Prop),Inv X pins σ H s→Vals vs us→t vs σ H Q →
  wpAny (model X.prog X.w) X.A (assignInOrder ((assignEach ts X.env).map (·.2)) us) (fun _ s'=>∃ σ' H',Inv X pins σ' H' s'∧Q σ' H') X.xe s
section
variable {X:Cx}{pos:Pos}
def gName (i:Nat):TG:=fun v σ H Q=>Q (σ.set i (some v)) H
theorem cD {i:Nat}{x:Str}(hN:X.N.Nodup)(hi:X.N[i]?=some x)(hx:Loc X.env.scope x)(hf:X.fn x=true∨X.env.scope.names.lookup x=some .local:=by first | exact .inl rfl | exact .inr rfl | assumption):PG X (.Name x pos) (gName i):=by
 intro pins s σ H v u Q I r h
 exact wpAny_assign_Name (fN I hN hi hx r (fun s' I'=>⟨_,H,I',h⟩) hf)
def gNil:TGs:=fun vs σ H Q=>vs=[]∧Q σ H
def gCons (t:TG)(u:TGs):TGs:=fun vs σ H Q=>∃ v r,vs=v::r∧t v σ H fun σ' H'=>u r σ' H' Q
theorem lg:PGs X [] gNil:=by
 intro pins s σ H vs us Q I r h
 obtain⟨e,h⟩:=h
 subst e
 cases r
 exact assignInOrder_nil ⟨σ,H,I,h⟩
theorem cp {e:Expr}{es:List Expr}{t:TG}{u:TGs}(h1:PG X e t)(h2:PGs X es u)
  (hs:(assignEach (e::es) X.env).map (·.2)=assign e X.env::(assignEach es X.env).map (·.2):=by rfl):PGs X (e::es) (gCons t u):=by
 intro pins s σ H vs us Q I r h
 obtain⟨v,vr,e1,h⟩:=h
 subst e1
 cases r with
 | cons r rr =>
  rw[hs]
  refine assignInOrder_cons (thn (h1 pins s σ H _ _ _ I r h) fun _ s1 ⟨σ1,H1,I1,q1⟩=>?_)
  exact h2 pins s1 σ1 H1 _ _ Q I1 rr q1
def gTup (K:PySem.W.Frag)(n:Nat)(t:TGs):TG:=fun v σ H Q=>∃ a xs,v=.ref a∧SqT K H a xs∧xs.length=n∧t xs σ H Q
theorem sA {es:List Expr}{k:Nat}{t:TGs}{n:Nat}(hc:X.calm=true)(h:PGs X es t)
  (hn:(assignEach es X.env).length=n:=by rfl) (hst:(assignEach es X.env).findIdx? (·.1)=none:=by rfl):PG X (.Tuple es k pos) (gTup X.K n t):=by
 intro pins s σ H v u Q I r hw
 obtain⟨a,xs,e1,hq,hl,hw⟩:=hw
 subst e1
 cases r
 obtain⟨its,rv,ht,hz⟩:=I.tuple hq
 refine assign_Tuple_tuple (I.ok.hd hc) ht (by simp[hn,← hl,rv.length]) hst fun h' hx=>?_
 have I1:Inv X pins σ H { s with heap:=h' }:=I.kept (t':=s.toks) fun b o e=>hx b o (Nat.ne_of_lt (Heap.lt_size e)) e
 exact h pins _ σ H xs _ Q I1 (by simpa using rv) hw
def tAsg (te:TE)(g:TG):TS:=fun D σ H=>te σ H fun x H1=>g x σ H1 D.nx
theorem wV {tg e:Expr}{te:TE}{g:TG}(he:PE X e te)(hg:PG X tg g)(hs:swapsWithSole [tg] e pos.line X.env=pure false:=by rfl)(hw:swappedStores [tg] e X.env=pure none:=by rfl)
  (h1:(assignEach [tg] X.env).map (·.2)=[assign tg X.env]:=by rfl):PS X (.Assign [tg] e pos) (tAsg te g):=by
 intro pins s σ H D I h
 refine wpAny_Assign_stores (thn (he pins s σ H _ I h) fun v s1 ⟨x,H1,I1,r1,q1⟩=>?_) hs hw
 rw[h1]
 exact thn (hg pins s1 σ H1 x v _ I1 r1 q1) fun _ s2 q=>q
theorem lh {i:Nat}{x:Str}{e:Expr}{te:TE}{pos':Pos}(hN:X.N.Nodup)(hi:X.N[i]?=some x)(hx:Loc X.env.scope x)(he:PE X e te)(hs:swapsWith e (some (.Name x pos')) pos.line X.env=pure false:=by rfl)(hf:X.fn x=true∨X.env.scope.names.lookup x=some .local:=by first | exact .inl rfl | exact .inr rfl | assumption) :
  PS X (.Assign [.Name x pos'] e pos) (tAsg te (gName i)):=by
 intro pins s σ H D I h
 refine wpAny_Assign_Name (thn (he pins s σ H _ I h) fun v s1 ⟨y,H1,I1,r1,q1⟩=>?_) hs
 exact fN I1 hN hi hx r1 (fun s2 I2=>⟨_,H1,I2,q1⟩) hf
end
section
variable {X:Cx}{pos:Pos}
end
structure It where
 go:Nat→Hp→Prop
 yld:Nat→Hp→V→Hp→Prop
 stop:Nat→Hp→Prop
def FpOk (X:Cx)(pins:List (Addr×Obj))(H:Hp)(b:Addr):Prop :=
 H b=none∧b≠X.env.locals∧b∉X.fs∧(b∈X.ex∨X.s₀.heap.objs.size≤b)∧(∀ x c,X.env.cells.lookup x=some c→c≠b)∧∀ p∈X.pn++pins,p.1≠b
theorem Inv.fpOk {X:Cx}{pins:List (Addr×Obj)}{σ:St}{H H':Hp}{s:Shared}{b:Addr}(I:Inv X pins σ H s)(hb:s.heap.objs.size≤b)(hn:H' b=none):FpOk X pins H' b:=by
 refine⟨hn,Nat.ne_of_gt (Nat.lt_of_lt_of_le I.lt hb),I.nofs hb,.inr (Nat.le_trans I.sz hb),fun x c e z=>?_,fun p hp z=>?_⟩
 ·obtain⟨v,q⟩:=I.cell x c e
  exact absurd (Nat.lt_of_lt_of_le q.lt (by rw[z];exact hb)) (Nat.lt_irrefl _)
 ·exact absurd (Nat.lt_of_lt_of_le (Heap.lt_size (I.pin p hp).1) (by rw[z];exact hb)) (Nat.lt_irrefl _)
structure Turn (P:Program)(w:World)(K:PySem.W.Frag)(tg:Expr)(J:It)(fp:List Addr)(it:Addr)(tn:Nat→Heap→Prop):Prop where
 mem:it∈fp
 obj:∀ i h,tn i h→∀ b∈fp,∃ o,h.get? b=some o∧∀ v,o.data≠.cell v
 keep:∀ i h h',tn i h→(∀ b∈fp,∀ o,h.get? b=some o→h'.get? b=some o)→tn i h'
 item:∀ (X:Cx),X.prog=P→X.w=w→X.K=K→X.calm=true→∀ (i:Nat) (pins:List (Addr×Obj)) (s:Shared) (σ:St) (H:Hp) (E:Value→Shared→Prop),Inv X pins σ H s→(∀ b∈fp,FpOk X pins H b)→tn i s.heap→J.go i H →
  wpAny (model P w) X.A (pyNext (.ref it)) (fun r s1=>∃ u,r=some u ∧
   wpAny (model P w) X.A (letOwnedTupleGo tg (.ref it) u) (fun _ s2=>∃ x H',Inv X pins σ H' s2∧RelV x u∧J.yld i H x H'∧tn (i+1) s2.heap∧∀ b∈fp,H' b=none) E s1) E s
 done:∀ (X:Cx),X.prog=P→X.w=w→X.K=K→X.calm=true→∀ (i:Nat) (pins:List (Addr×Obj)) (s:Shared) (σ:St) (H:Hp) (E:Value→Shared→Prop),Inv X pins σ H s→(∀ b∈fp,FpOk X pins H b)→tn i s.heap→J.stop i H →
  wpAny (model P w) X.A (pyNext (.ref it)) (fun r s1=>r=none∧Inv X pins σ H s1) E s
 self:∀ (A:Around) (i:Nat) (s:Shared) (Q:Value→Shared→Prop) (E:Value→Shared→Prop),tn i s.heap→Q (.ref it) s→wpAny (model P w) A (pyIter (.ref it)) Q E s
abbrev TI:=St→Hp→(It→Hp→Prop)→Prop
def PIE (X:Cx)(pins:List (Addr×Obj))(σ:St)(tg:Expr)(R:It→Hp→Prop)(itv:Value)(s2:Shared):Prop :=
 ∃ (it:Addr) (fp:List Addr) (tn:Nat→Heap→Prop) (J:It) (H':Hp),itv=.ref it∧Inv X pins σ H' s2∧Turn X.prog X.w X.K tg J fp it tn∧tn 0 s2.heap∧(∀ b∈fp,FpOk X pins H' b)∧R J H'
def PI (X:Cx)(tg iter:Expr)(wi:TI):Prop :=
 ∀ (pins:List (Addr×Obj)) (s:Shared) (σ:St) (H:Hp) (R:It→Hp→Prop),Inv X pins σ H s→wi σ H R →
  wpAny (model X.prog X.w) X.A (eval iter X.env) (fun v s1=>wpAny (model X.prog X.w) X.A (pyIter v) (PIE X pins σ tg R) X.xe s1) X.xe s
theorem sB {M:Model}{A:Around}{E:Value→Shared→Prop}{s:Shared}{tg:Expr}{it:Addr}{u:Value}{o:Obj}{n:String}{vs:Array Value}{Q:Unit→Shared→Prop}(ho:s.heap.get? it=some o)(hc:o.cls=.type n)(hd:o.data=.fields vs)
  (hn:["enumerate","zip","dict_itemiterator","dict_reverseitemiterator","odict_iterator","itertools.zip_longest","itertools.pairwise"].contains n=false) (hQ:Q () s):wpAny M A (letOwnedTupleGo tg (.ref it) u) Q E s:=by
 unfold letOwnedTupleGo
 cases tg<;>first
  | exact wpAny_pure hQ
  | (cases u<;>first
    | exact wpAny_pure hQ
    | (refine wpAny_bind (wpAny_load ho ?_)
       rw[hc,hd]
       show wpAny M A (if (["enumerate","zip","dict_itemiterator","dict_reverseitemiterator","odict_iterator","itertools.zip_longest","itertools.pairwise"].contains n&&vs[0]?==some (rawInt _))=true then _ else _) Q E s
       rw[if_neg (by intro h;rw[hn,Bool.false_and]at h;cases h)]
       exact wpAny_pure hQ))
def Itl (K:PySem.W.Frag)(a:Addr):It :=
 ⟨fun i H=>∃ xs x,SqL K H a xs∧xs[i]?=some x,fun i H x H'=>H'=H∧∀ xs,SqL K H a xs→xs[i]?=some x,fun i H=>∃ xs,SqL K H a xs∧xs.length≤i⟩
def Itt (K:PySem.W.Frag)(a:Addr):It :=
 ⟨fun i H=>∃ xs x,SqT K H a xs∧xs[i]?=some x,fun i H x H'=>H'=H∧∀ xs,SqT K H a xs→xs[i]?=some x,fun i H=>∃ xs,SqT K H a xs∧xs.length≤i⟩
def Itr (lo:Int)(n:Nat):It:=⟨fun i _=>i < n,fun i H x H'=>H'=H∧x=.int (lo+i),fun i _=>n≤i⟩
theorem qo {P:Program}{w:World}{K:PySem.W.Frag}{tg:Expr}(a it:Addr):Turn P w K tg (Itl K a) [it] it (fun i h=>h.IsListIter it a i) where
 mem:=by simp
 obj:=fun i h st b hb=>by
  have e:b=it:=by simpa using hb
  subst e
  obtain⟨o,e,c,d⟩:=st
  exact⟨o,e,fun v z=>by rw[d]at z;cases z⟩
 keep:=fun i h h' st k=>st.at fun o e=>k it (by simp) o e
 item:=by
  intro X hP hw hK hc i pins s σ H E I hf st hg
  subst hP hw hK
  obtain⟨xs,x,hq,hx⟩:=hg
  obtain⟨its,rv,p,hz⟩:=I.list hq
  obtain⟨u,hu,ru⟩:=rv.get hx
  obtain⟨f0,f1,f2,f3,f4,f5⟩:=hf it (by simp)
  refine wpAny_pyNext_list_item st p.isList (x:=u) (by simpa using hu) fun h' st' sb=>?_
  have I1:Inv X pins σ H { s with heap:=h' }:=I.turned (t':=s.toks) (fun b o hb e=>(sb.2 b hb).trans e) f0 f1 f3 f4 f5
  obtain⟨o,e,c,d⟩:=id st'
  exact⟨u,rfl,sB (s:={ s with heap:=h' }) e c d (by decide) ⟨x,H,I1,ru,⟨rfl,fun ys hy=>by rw[I.list_inj hy hq];exact hx⟩,st',fun b hb=>(hf b hb).1⟩⟩
 done:=by
  intro X hP hw hK hc i pins s σ H E I hf st hg
  subst hP hw hK
  obtain⟨xs,hq,hx⟩:=hg
  obtain⟨its,rv,p,hz⟩:=I.list hq
  obtain⟨f0,f1,f2,f3,f4,f5⟩:=hf it (by simp)
  have hl:=rv.length
  exact wpAny_pyNext_list_end (I.ok.hd hc) st p.isList (by simp;omega) fun h' eb=>⟨rfl,I.turned (t':=s.toks) (fun b o hb e=>eb b o hb e) f0 f1 f3 f4 f5⟩
 self:=fun _ _ _ _ _ st h=>wpAny_pyIter_listiter st h
theorem n5 {P:Program}{w:World}{K:PySem.W.Frag}{tg:Expr}(a it:Addr):Turn P w K tg (Itt K a) [it] it (fun i h=>h.IsTupleIter it a i) where
 mem:=by simp
 obj:=fun i h st b hb=>by
  have e:b=it:=by simpa using hb
  subst e
  obtain⟨o,e,c,d⟩:=st
  exact⟨o,e,fun v z=>by rw[d]at z;cases z⟩
 keep:=fun i h h' st k=>st.at fun o e=>k it (by simp) o e
 item:=by
  intro X hP hw hK hc i pins s σ H E I hf st hg
  subst hP hw hK
  obtain⟨xs,x,hq,hx⟩:=hg
  obtain⟨its,rv,p,hz⟩:=I.tuple hq
  obtain⟨u,hu,ru⟩:=rv.get hx
  obtain⟨f0,f1,f2,f3,f4,f5⟩:=hf it (by simp)
  refine wpAny_pyNext_tuple_item st (show s.heap.IsTuple a its.toArray from p) (x:=u) (by simpa using hu) fun h' st' sb=>?_
  have I1:Inv X pins σ H { s with heap:=h' }:=I.turned (t':=s.toks) (fun b o hb e=>(sb.2 b hb).trans e) f0 f1 f3 f4 f5
  obtain⟨o,e,c,d⟩:=id st'
  exact⟨u,rfl,sB (s:={ s with heap:=h' }) e c d (by decide) ⟨x,H,I1,ru,⟨rfl,fun ys hy=>by rw[I.tuple_inj hy hq];exact hx⟩,st',fun b hb=>(hf b hb).1⟩⟩
 done:=by
  intro X hP hw hK hc i pins s σ H E I hf st hg
  subst hP hw hK
  obtain⟨xs,hq,hx⟩:=hg
  obtain⟨its,rv,p,hz⟩:=I.tuple hq
  obtain⟨f0,f1,f2,f3,f4,f5⟩:=hf it (by simp)
  have hl:=rv.length
  exact wpAny_pyNext_tuple_end (I.ok.hd hc) st (show s.heap.IsTuple a its.toArray from p) (by simp;omega) fun h' eb=>⟨rfl,I.turned (t':=s.toks) (fun b o hb e=>eb b o hb e) f0 f1 f3 f4 f5⟩
 self:=fun _ _ _ _ _ st h=>wpAny_pyIter_tupleiter st h
theorem n6 {P:Program}{w:World}{K:PySem.W.Frag}{tg:Expr}(it:Addr)(lo:Int)(n:Nat):Turn P w K tg (Itr lo n) [it] it (fun i h=>IsRangeIter h it (lo+(i:Nat)*1) ((n:Int) - (i:Nat)) 1) where
 mem:=by simp
 obj:=fun i h st b hb=>by
  have e:b=it:=by simpa using hb
  subst e
  exact⟨_,st,fun v z=>by
   have z':Data.fields _=Data.cell v:=z
   cases z'⟩
 keep:=fun i h h' st k=>k it (by simp) _ st
 item:=by
  intro X hP hw hK hc i pins s σ H E I hf st hg
  subst hP hw hK
  obtain⟨f0,f1,f2,f3,f4,f5⟩:=hf it (by simp)
  have W:=Walks.range (prog:=X.prog) (w:=X.w) (I.ok.hd hc) it lo 1 n
  refine W.item i s _ _ hg st fun v h' tk hv st' kk=>?_
  obtain⟨t,rfl⟩:=hv
  have I1:Inv X pins σ H { s with heap:=h',toks:=tk }:=I.turned (fun b o hb e=>kk b o (by simpa using hb) e) f0 f1 f3 f4 f5
  refine⟨_,rfl,sB (s:={ s with heap:=h',toks:=tk }) (n := "range_iterator") st' rfl rfl (by decide) ⟨.int (lo+i),H,I1,⟨t,?_⟩,⟨rfl,rfl⟩,st',fun b hb=>(hf b hb).1⟩⟩
  rw[Int.mul_one]
 done:=by
  intro X hP hw hK hc i pins s σ H E I hf st hg
  subst hP hw hK
  obtain⟨f0,f1,f2,f3,f4,f5⟩:=hf it (by simp)
  exact wpAny_pyNext_range_end (I.ok.hd hc) st (by have:n≤i:=hg;omega) fun h' eb=>⟨rfl,I.turned (t':=s.toks) (fun b o hb e=>eb b o hb e) f0 f1 f3 f4 f5⟩
 self:=fun _ _ _ _ _ st h=>wpAny_pyIter_rangeiter st h
end L2
namespace L2
open PySem PySem.Spec PyProof.Rows
section
variable {X:Cx}{tg:Expr}
theorem l7 {pins:List (Addr×Obj)}{σ:St}{H:Hp}{s:Shared}{R:It→Hp→Prop}{E:Value→Shared→Prop}{lo hi:Int}{t u v:Tok}{tk:Nat}(I:Inv X pins σ H s)(h1 : -(2^62)≤lo)(h2:lo < 2^62)(h3 : -(2^62)≤hi)(h4:hi < 2^62)
  (q:R (Itr lo (hi - lo).toNat) H):wpAny (model X.prog X.w) X.A (pyIter (.ref s.heap.objs.size)) (PIE X pins σ tg R) E { s with heap:=s.heap.push { cls:=.type "range",data:=.fields #[.int lo t,.int hi u,.int 1 v] },toks:=tk }:=by
 refine wpAny_pyIter_range (IsRange.new ..) (small_one h1 h2 h3 h4) ?_
 have I1:Inv X pins σ H { s with heap:=s.heap.push { cls:=.type "range",data:=.fields #[.int lo t,.int hi u,.int 1 v] },toks:=tk }:=I.kept fun b o e=>Heap.get?_push_of_some _ e
 refine⟨(s.heap.push { cls:=.type "range",data:=.fields #[.int lo t,.int hi u,.int 1 v] }).objs.size,[(s.heap.push { cls:=.type "range",data:=.fields #[.int lo t,.int hi u,.int 1 v] }).objs.size],_,_,H,rfl,
  I1.kept (t':=tk) fun b o e=>Heap.get?_push_of_some _ e,n6 _ lo (hi - lo).toNat,?_,fun b hb=>?_,q⟩
 ·have e1:lo+((0:Nat):Int)*1=lo:=by simp
  have e2:(((hi - lo).toNat:Nat):Int) - ((0:Nat):Int)=Builtin.Range.rangeSize lo hi 1:=by rw[rangeSize_one];split<;>omega
  show IsRangeIter _ _ (lo+((0:Nat):Int)*1) ((((hi - lo).toNat:Nat):Int) - ((0:Nat):Int)) 1
  rw[e1,e2]
  exact Heap.get?_push_size _ rfl
 ·have e:b=(s.heap.push { cls:=.type "range",data:=.fields #[.int lo t,.int hi u,.int 1 v] }).objs.size:=by simpa using hb
  subst e
  exact I1.fpOk (Nat.le_refl _) (I1.hok.fresh (Nat.le_refl _))
def iRng1 (ta:TA):TI:=fun σ H R=>ta σ H fun vs H1=>∃ j:Int,vs=[.int j]∧-(2^62)≤j∧j < 2^62∧R (Itr 0 j.toNat) H1
def iRng2 (ta:TA):TI:=fun σ H R=>ta σ H fun vs H1=>∃ i j:Int,vs=[.int i,.int j]∧(-(2^62)≤i∧i < 2^62∧-(2^62)≤j∧j < 2^62)∧R (Itr i (j - i).toNat) H1
theorem qp {a:Expr}{ta:TA}{p pos:Pos}(hg:Gl X "range")(hm:X.mg "range"=none)(ha:PA X [a] ta)(hs:starEach [a] X.env=[(false,eval a X.env)]:=by rfl):PI X tg (.Call (.Name "range" p) [a] [] pos) (iRng1 ta):=by
 intro pins s σ H R I h
 refine Call_ (gU I hg hm boot_range (PyProof.Rows.callWith_type1 (thn (ha pos pins s σ H _ I h) fun us s1 ⟨vs,H1,I1,r1,q1⟩=>?_) hs rfl))
 obtain⟨j,e,q1,q2,q⟩:=q1
 subst e
 cases r1 with
 | cons r rr =>
  cases rr
  obtain⟨t,rfl⟩:=r
  exact call_range_1 (l7 I1 (by omega) (by omega) q1 q2 (by simpa using q))
theorem qq {a b:Expr}{ta:TA}{p pos:Pos}(hg:Gl X "range")(hm:X.mg "range"=none)(ha:PA X [a,b] ta)(hs:starEach [a,b] X.env=[(false,eval a X.env),(false,eval b X.env)]:=by rfl)(hs2:starEach [b] X.env=[(false,eval b X.env)]:=by rfl) :
  PI X tg (.Call (.Name "range" p) [a,b] [] pos) (iRng2 ta):=by
 intro pins s σ H R I h
 refine Call_ (gU I hg hm boot_range (PyProof.Rows.callWith_type1 (thn (ha pos pins s σ H _ I h) fun us s1 ⟨vs,H1,I1,r1,q1⟩=>?_) (by rw[hs,hs2]) (by rw[hs2];rfl)))
 obtain⟨i,j,e,⟨q1,q2,q3,q4⟩,q⟩:=q1
 subst e
 cases r1 with
 | cons r rr =>
  cases rr with
  | cons r' rr =>
   cases rr
   obtain⟨t,rfl⟩:=r
   obtain⟨t',rfl⟩:=r'
   exact call_range_2 (l7 I1 q1 q2 q3 q4 q)
def tFor (wi:TI)(g:TG)(tb:TS):TS:=fun D σ H=>wi σ H fun J H1=>∃ W:Nat→Nat→St→Hp→Prop,(∃ m,W 0 m σ H1)∧∀ i m σ H,W i m σ H →
 (J.stop i H∧D.nx σ H)∨(J.go i H∧∃ N:St→Hp→Prop,(∀ σ' H',N σ' H'→∃ m',m' < m∧W (i+1) m' σ' H')∧∀ x H',J.yld i H x H'→g x σ H' fun σ2 H2=>tb { D with nx:=N,ct:=N,bk:=D.nx } σ2 H2)
def pinsAt (fp:List Addr)(h:Heap):List (Addr×Obj):=fp.filterMap fun b=>(h.get? b).map fun o=>(b,o)
theorem dN {fp:List Addr}{h:Heap}{b:Addr}{o:Obj}(hb:b∈fp)(e:h.get? b=some o):(b,o)∈pinsAt fp h:=List.mem_filterMap.mpr ⟨b,hb,by rw[e];rfl⟩
theorem qu {fp:List Addr}{h:Heap}{p:Addr×Obj}(hp:p∈pinsAt fp h):p.1∈fp∧h.get? p.1=some p.2:=by
 obtain⟨b,hb,e⟩:=List.mem_filterMap.mp hp
 cases q:h.get? b with
 | none=>rw[q]at e;cases e
 | some o =>
  rw[q]at e
  have e':(b,o)=p:=Option.some.inj e
  subst e'
  exact⟨hb,q⟩
theorem Inv.pinned {pins:List (Addr×Obj)}{σ:St}{H:Hp}{s:Shared}{fp:List Addr}(I:Inv X pins σ H s)(hf:∀ b∈fp,FpOk X pins H b)(ho:∀ b∈fp,∃ o,s.heap.get? b=some o∧∀ v,o.data≠.cell v):Inv X (pins++pinsAt fp s.heap) σ H s :=
 I.pins_of fun p hp=>(List.mem_append.mp hp).elim (fun z=>I.pin p (List.mem_append_right _ z)) fun z=>by
  obtain⟨hb,e⟩:=qu z
  obtain⟨f0,f1,f2,_⟩:=hf p.1 hb
  obtain⟨o,e',d⟩:=ho p.1 hb
  rw[e]at e';cases e'
  exact⟨e,f0,f1,f2,d⟩
theorem Inv.unpinned {pins pl:List (Addr×Obj)}{σ:St}{H:Hp}{s:Shared}(I:Inv X (pins++pl) σ H s):Inv X pins σ H s:=I.pins_of fun p hp=>I.pin p (List.mem_append_right _ (List.mem_append_left _ hp))
theorem wW {iter:Expr}{body:List Stmt}{wi:TI}{g:TG}{tb:TS}{pos:Pos}(hp:PassesOwn (model X.prog X.w) X.A X.env X.xe)(hc:X.calm=true)(hi:PI X tg iter wi)(hg:PG X tg g)(hb:PSs X body tb)
  (hs:∀ x,foldedSetIterable iter X.env x=pure x:=by intro _;rfl):PS X (.For tg iter body [] pos) (tFor wi g tb):=by
 intro pins s σ H D I h
 refine wpAny_For (thn (hi pins s σ H _ I h) fun v s1 h1=>thn h1 fun itv s2 h2=>?_) hs
 obtain⟨it,fp,tn,J,H2,e,I2,T,st2,f2,W,⟨m0,w0⟩,turn⟩:=h2
 subst e
 have stat:∀ {H':Hp},(∀ b∈fp,H' b=none)→∀ b∈fp,FpOk X pins H' b:=fun hn b hb=>⟨hn b hb,(f2 b hb).2⟩
 refine codeAny_forLoop_any (fun n s'=>∃ i σ' H',Inv X pins σ' H' s'∧tn i s'.heap∧(∀ b∈fp,H' b=none)∧W i n σ' H') ?_ m0 ⟨0,σ,H2,I2,st2,fun b hb=>(f2 b hb).1,w0⟩
 rintro n s3 ⟨i,σ3,H3,I3,st3,fr3,w3⟩
 rcases turn i n σ3 H3 w3 with ⟨stop,qn⟩ | ⟨go,N,hN,step⟩
 ·refine wpAny_passesOwn hp (thn (T.done X rfl rfl rfl hc i pins s3 σ3 H3 X.xe I3 (stat fr3) st3 stop) fun r s4 ⟨hr,I4⟩=>?_)
  subst hr
  exact wpAny_execs_nil ⟨σ3,H3,I4,qn⟩
 ·refine wpAny_passesOwn hp (thn (T.item X rfl rfl rfl hc i pins s3 σ3 H3 X.xe I3 (stat fr3) st3 go) fun r s4 ⟨u,hr,h4⟩=>?_)
  subst hr
  refine wpAny_passesOwn hp (thn h4 fun _ s5 ⟨x,H5,I5,r5,y5,st5,fr5⟩=>?_)
  have I5':=I5.pinned (stat fr5) (T.obj _ _ st5)
  refine wpAny_passesOwn hp (thn (hg _ s5 σ3 H5 x u _ I5' r5 (step x H5 y5)) fun _ s6 ⟨σ6,H6,I6,q6⟩=>?_)
  refine wpAny_passesOwn hp (thn (hb _ s6 σ6 H6 _ I6 q6) fun f s7 q7=>?_)
  have again:∀ {σ7:St} {H7:Hp},Inv X (pins++pinsAt fp s5.heap) σ7 H7 s7→N σ7 H7→∃ m,m < n∧∃ i σ' H',Inv X pins σ' H' s7∧tn i s7.heap∧(∀ b∈fp,H' b=none)∧W i m σ' H':=fun {σ7 H7} I7 n7=>by
   obtain⟨m',hm,w7⟩:=hN σ7 H7 n7
   refine⟨m',hm,i+1,σ7,H7,I7.unpinned,T.keep _ _ _ st5 fun b hb o e=>(I7.pin (b,o) (List.mem_append_right _ (List.mem_append_right _ (dN hb e)))).1,fun b hb=>?_,w7⟩
   obtain⟨o,e,d⟩:=T.obj _ _ st5 b hb
   exact(I7.pin (b,o) (List.mem_append_right _ (List.mem_append_right _ (dN hb e)))).2.1
  cases f with
  | next=>obtain⟨σ7,H7,I7,n7⟩:=q7;exact again I7 n7
  | cont=>obtain⟨σ7,H7,I7,n7⟩:=q7;exact again I7 n7
  | brk=>obtain⟨σ7,H7,I7,q7⟩:=q7;exact⟨σ7,H7,I7.unpinned,q7⟩
  | ret v=>obtain⟨x7,σ7,H7,I7,r7,q7⟩:=q7;exact⟨x7,σ7,H7,I7.unpinned,r7,q7⟩
end
end L2
namespace L2
open PySem PySem.Spec PyProof.Rows
abbrev R2:=V→V→Hp→VK→Prop
def OpR (X:Cx)(f:Value→Value→Sem Value)(r:R2):Prop :=
 ∀ (pins:List (Addr×Obj)) (s:Shared) (σ:St) (H:Hp) (x y:V) (v u:Value) (Q:VK),Inv X pins σ H s→RelV x v→RelV y u→r x y H Q →
  wpAny (model X.prog X.w) X.A (f v u) (EP X pins σ Q) X.xe s
def UnR (X:Cx)(f:Value→Sem Value)(r:V→Hp→VK→Prop):Prop :=
 ∀ (pins:List (Addr×Obj)) (s:Shared) (σ:St) (H:Hp) (x:V) (v:Value) (Q:VK),Inv X pins σ H s→RelV x v→r x H Q →
  wpAny (model X.prog X.w) X.A (f v) (EP X pins σ Q) X.xe s
def CallR (X:Cx)(f:Value)(r:List V→Hp→VK→Prop):Prop :=
 ∀ (pins:List (Addr×Obj)) (s:Shared) (σ:St) (H:Hp) (xs:List V) (us:List Value) (Q:VK),Inv X pins σ H s→Vals xs us→r xs H Q →
  wpAny (model X.prog X.w) X.A (call f us) (EP X pins σ Q) X.xe s
def tOp (r:R2)(ta tb:TE):TE:=fun σ H Q=>ta σ H fun x H1=>tb σ H1 fun y H2=>r x y H2 Q
def tUn (r:V→Hp→VK→Prop)(ta:TE):TE:=fun σ H Q=>ta σ H fun x H1=>r x H1 Q
def rI (C:Int→Int→Prop)(g:Int→Int→V):R2:=fun x y H Q=>∃ i j,x=.int i∧y=.int j∧C i j∧Q (g i j) H
def rI0 (g:Int→Int→V):R2:=fun x y H Q=>∃ i j,x=.int i∧y=.int j∧Q (g i j) H
def rU (g:Int→V):V→Hp→VK→Prop:=fun x H Q=>∃ i,x=.int i∧Q (g i) H
section
variable {X:Cx}{a b c:Expr}{ta tb tc:TE}{pos:Pos}
theorem binT (ha:PE X a ta)(hb:PE X b tb){pins:List (Addr×Obj)}{s:Shared}{σ:St}{H:Hp}{R:V→V→Hp→Prop}(I:Inv X pins σ H s)
  (h:ta σ H fun x H1=>tb σ H1 fun y H2=>R x y H2) {Q:Value→Shared→Prop} {f:Value→Value→Sem Value}
  (hf:∀ v u s2 x y H2,Inv X pins σ H2 s2→RelV x v→RelV y u→R x y H2→wpAny (model X.prog X.w) X.A (f v u) Q X.xe s2) :
  wpAny (model X.prog X.w) X.A (eval a X.env) (fun v s₁=>wpAny (model X.prog X.w) X.A (eval b X.env) (fun u s₂=>wpAny (model X.prog X.w) X.A (f v u) Q X.xe s₂) X.xe s₁) X.xe s:=by
 refine thn (ha pins s σ H _ I h) fun v s1 ⟨x,H1,I1,r1,q1⟩=>?_
 refine thn (hb pins s1 σ H1 _ I1 q1) fun u s2 ⟨y,H2,I2,r2,q2⟩=>?_
 exact hf v u s2 x y H2 I2 r1 r2 q2
theorem xY {op:Operator}{r:R2}(ho:OpR X (binaryOp op) r)(ha:PE X a ta)(hb:PE X b tb):PE X (.BinOp a op b pos) (tOp r ta tb):=by
 intro pins s σ H Q I h
 exact wpAny_BinOp (binT ha hb I h fun v u s2 x y H2 I2 rx ry q=>ho pins s2 σ H2 x y v u Q I2 rx ry q)
theorem xZ {op:UnaryOp}{r:V→Hp→VK→Prop}(ho:UnR X (unaryOp op) r)(ha:PE X a ta):PE X (.UnaryOp op a pos) (tUn r ta):=by
 intro pins s σ H Q I h
 exact UnaryOp_ (thn (ha pins s σ H _ I h) fun v s1 ⟨x,H1,I1,r1,q1⟩=>ho pins s1 σ H1 x v Q I1 r1 q1)
theorem opI {f:Value→Value→Sem Value}{C:Int→Int→Prop}{g:Int→Int→Int}
  (rule:∀ (i j:Int) (t u:Tok) (s:Shared) (Q:Value→Shared→Prop) (E:Value→Shared→Prop),C i j→Q (.int (g i j) s.toks) { s with toks:=s.toks+1 }→wpAny (model X.prog X.w) X.A (f (.int i t) (.int j u)) Q E s) :
  OpR X f (rI C fun i j=>.int (g i j)):=by
 intro pins s σ H x y v u Q I rx ry h
 obtain⟨i,j,rfl,rfl,hc,q⟩:=h
 obtain⟨t,rfl⟩:=rx
 obtain⟨t',rfl⟩:=ry
 exact rule i j t t' s _ _ hc ⟨.int (g i j),H,I.tok _,⟨_,rfl⟩,q⟩
theorem opI0 {f:Value→Value→Sem Value}{g:Int→Int→Int}
  (rule:∀ (i j:Int) (t u:Tok) (s:Shared) (Q:Value→Shared→Prop) (E:Value→Shared→Prop),Q (.int (g i j) s.toks) { s with toks:=s.toks+1 }→wpAny (model X.prog X.w) X.A (f (.int i t) (.int j u)) Q E s) :
  OpR X f (rI0 fun i j=>.int (g i j)):=by
 intro pins s σ H x y v u Q I rx ry h
 obtain⟨i,j,rfl,rfl,q⟩:=h
 obtain⟨t,rfl⟩:=rx
 obtain⟨t',rfl⟩:=ry
 exact rule i j t t' s _ _ ⟨.int (g i j),H,I.tok _,⟨_,rfl⟩,q⟩
theorem opB0 {f:Value→Value→Sem Value}{g:Int→Int→Bool}
  (rule:∀ (i j:Int) (t u:Tok) (s:Shared) (Q:Value→Shared→Prop) (E:Value→Shared→Prop),Q (.bool (g i j)) s→wpAny (model X.prog X.w) X.A (f (.int i t) (.int j u)) Q E s) :
  OpR X f (rI0 fun i j=>.bl (g i j)):=by
 intro pins s σ H x y v u Q I rx ry h
 obtain⟨i,j,rfl,rfl,q⟩:=h
 obtain⟨t,rfl⟩:=rx
 obtain⟨t',rfl⟩:=ry
 exact rule i j t t' s _ _ ⟨.bl (g i j),H,I,rfl,q⟩
def CDiv (i j:Int):Prop:=0 < j∧j < 1073741824
def CMul (i j:Int):Prop:=(-(2^64) < i∧i < 2^64)∨(-(2^64) < j∧j < 2^64)
theorem CMul.ok {i j:Int}(h:CMul i j):IntMulOk i j:=by
 rcases h with ⟨h1,h2⟩ | ⟨h1,h2⟩
 ·exact .of_left (intBits_le_64 h1 h2)
 ·exact .of_right (intBits_le_64 h1 h2)
theorem wX:OpR X (binaryOp .Add) (rI0 fun i j=>.int (i+j)):=opI0 fun _ _ _ _ _ _ _ q=>add_int q
theorem wY:OpR X (binaryOp .Sub) (rI0 fun i j=>.int (i - j)):=opI0 fun _ _ _ _ _ _ _ q=>sub_int q
theorem wZ:OpR X (binaryOp .Mult) (rI CMul fun i j=>.int (i*j)):=opI fun _ _ _ _ _ _ _ hc q=>mul_int q hc.ok
theorem u0:OpR X (binaryOp .FloorDiv) (rI CDiv fun i j=>.int (i/j)):=opI fun i j _ _ _ _ _ hc q=>by
 have h1:(0:Int) < j:=hc.1
 have h2:j < 1073741824:=hc.2
 exact floordiv_int (by omega) (by rw[Int.fdiv_eq_ediv_of_nonneg i (by omega)];exact q) (.inl (PyProof.noPylong_small (by omega)))
theorem xa:OpR X (binaryOp .Mod) (rI (fun _ j=>0 < j) fun i j=>.int (i%j)):=opI fun i j _ _ _ _ _ hc q=>by
 have h1:(0:Int) < j:=hc
 exact mod_int' (by omega) (by rw[Int.fmod_eq_emod_of_nonneg i (by omega)];exact q)
theorem unI {f:Value→Sem Value}{g:Int→Int}
  (rule:∀ (i:Int) (t:Tok) (s:Shared) (Q:Value→Shared→Prop) (E:Value→Shared→Prop),Q (.int (g i) s.toks) { s with toks:=s.toks+1 }→wpAny (model X.prog X.w) X.A (f (.int i t)) Q E s) :
  UnR X f (rU fun i=>.int (g i)):=by
 intro pins s σ H x v Q I rx h
 obtain⟨i,rfl,q⟩:=h
 obtain⟨t,rfl⟩:=rx
 exact rule i t s _ _ ⟨.int (g i),H,I.tok _,⟨_,rfl⟩,q⟩
theorem xb:UnR X (unaryOp .USub) (rU fun i=>.int (-i)):=unI fun _ _ _ _ _ q=>neg_int q
end
section
variable {X:Cx}{a b c:Expr}{ta tb tc:TE}{pos:Pos}
theorem li {pins:List (Addr×Obj)}{σ:St}{H:Hp}{s:Shared}{Q:VK}{k k':Bool}(I:Inv X pins σ H s)(q:Q (.bl k) H)(e:k=k'):EP X pins σ Q (.bool k') s:=by
 subst e
 exact⟨.bl k,H,I,rfl,q⟩
theorem sC:OpR X (compareOp .Lt) (rI0 fun i j=>.bl (decide (i < j))):=opB0 fun _ _ _ _ _ _ _ q=>lt_int q
theorem ky:OpR X (compareOp .LtE) (rI0 fun i j=>.bl (decide (i≤j))):=opB0 fun _ _ _ _ _ _ _ q=>le_int q
theorem ya:OpR X (compareOp .Gt) (rI0 fun i j=>.bl (decide (j < i))):=opB0 fun _ _ _ _ _ _ _ q=>gt_int q
theorem yb:OpR X (compareOp .GtE) (rI0 fun i j=>.bl (decide (j≤i))):=opB0 fun _ _ _ _ _ _ _ q=>ge_int q
theorem OpR.or {f:Value→Value→Sem Value}{r r':R2}(h:OpR X f r)(h':OpR X f r'):OpR X f (fun x y H Q=>r x y H Q∨r' x y H Q):=by
 intro pins s σ H x y v u Q I rx ry q
 rcases q with q | q
 ·exact h pins s σ H x y v u Q I rx ry q
 ·exact h' pins s σ H x y v u Q I rx ry q
theorem nomark (b:Expr){op:CmpOp}(h:op≠.In:=by decide)(h2:op≠.NotIn:=by decide):behindInMarks op b=false:=by
 have e1:(op==CmpOp.In)=false:=by cases op<;>first | rfl | exact absurd rfl h
 have e2:(op==CmpOp.NotIn)=false:=by cases op<;>first | rfl | exact absurd rfl h2
 cases b<;>simp[behindInMarks,e1,e2]
theorem pd {op:CmpOp}{r:R2}(ho:OpR X (compareOp op) r)(ha:PE X a ta)(hb:PE X b tb)(hm:behindInMarks op b=false):PE X (.Compare a [op] [b] pos) (tOp r ta tb):=by
 intro pins s σ H Q I h
 exact wpAny_Compare1 (binT ha hb I h fun v u s2 x y H2 I2 rx ry q=>ho pins s2 σ H2 x y v u Q I2 rx ry q) hm
def tTest (t:TE):TT:=fun σ H Q=>t σ H fun x H'=>∃ k,x=.bl k∧Q k H'
theorem ph {op:CmpOp}{r:R2}(ho:OpR X (compareOp op) r)(ha:PE X a ta)(hb:PE X b tb)(hm:behindInMarks op b=false):PT X (.Compare a [op] [b] pos) (tTest (tOp r ta tb)):=by
 intro pins s σ H Q I h
 refine wpAny_isTrue_Compare1 (thn (ha pins s σ H _ I h) fun v s1 ⟨x,H1,I1,r1,q1⟩=>thn (hb pins s1 σ H1 _ I1 q1) fun u s2 ⟨y,H2,I2,r2,q2⟩ =>
  thn (ho pins s2 σ H2 x y v u _ I2 r1 r2 q2) fun c s3 ⟨z,H3,I3,r3,k,e,q3⟩=>?_) hm
 subst e
 cases r3
 exact wpAny_truthy_bool ⟨H3,I3,q3⟩
def tChain (r r':R2)(ta tb tc:TE):TE:=fun σ H Q=>ta σ H fun x H1=>tb σ H1 fun y H2=>r x y H2 fun z H3=>∃ k,z=.bl k ∧
 (if k=true then tc σ H3 fun w' H4=>r' y w' H4 Q else Q (.bl false) H3)
theorem sE {op op':CmpOp}{r r':R2}(ho:OpR X (compareOp op) r)(ho':OpR X (compareOp op') r')(ha:PE X a ta)(hb:PE X b tb)(hc:PE X c tc)
  (hm:lastMarks [op,op'] [b,c]=false:=by with_unfolding_all rfl):PE X (.Compare a [op,op'] [b,c] pos) (tChain r r' ta tb tc):=by
 intro pins s σ H Q I h
 refine Compare_chain (thn (ha pins s σ H _ I h) fun v s1 ⟨x,H1,I1,r1,q1⟩=>chain_link (thn (hb pins s1 σ H1 _ I1 q1) fun u s2 ⟨y,H2,I2,r2,q2⟩ =>
  thn (ho pins s2 σ H2 x y v u _ I2 r1 r2 q2) fun d s3 ⟨z,H3,I3,r3,k,e,q3⟩=>?_)) hm
 subst e
 cases r3
 refine wpAny_truthy_bool ?_
 cases k with
 | false=>exact ite_ff ⟨.bl false,H3,I3,rfl,q3⟩
 | true=>exact ite_tt (chain_last (thn (hc pins s3 σ H3 _ I3 q3) fun w' s4 ⟨z',H4,I4,r4,q4⟩=>ho' pins s4 σ H4 y z' u w' Q I4 r2 r4 q4))
theorem sF {op op':CmpOp}{r r':R2}(ho:OpR X (compareOp op) r)(ho':OpR X (compareOp op') r')(ha:PE X a ta)(hb:PE X b tb)(hc:PE X c tc)
  (hm:lastMarks [op,op'] [b,c]=false:=by with_unfolding_all rfl):PT X (.Compare a [op,op'] [b,c] pos) (tTest (tChain r r' ta tb tc)):=by
 intro pins s σ H Q I h
 refine isTrue_chain (thn (ha pins s σ H _ I h) fun v s1 ⟨x,H1,I1,r1,q1⟩=>test_link (thn (hb pins s1 σ H1 _ I1 q1) fun u s2 ⟨y,H2,I2,r2,q2⟩ =>
  thn (ho pins s2 σ H2 x y v u _ I2 r1 r2 q2) fun d s3 ⟨z,H3,I3,r3,k,e,q3⟩=>?_)) hm
 subst e
 cases r3
 refine wpAny_truthy_bool ?_
 cases k with
 | false =>
  obtain⟨k',e',q'⟩:=q3
  cases e'
  exact ite_ff ⟨H3,I3,q'⟩
 | true =>
  refine ite_tt (test_last (thn (hc pins s3 σ H3 _ I3 q3) fun w' s4 ⟨z',H4,I4,r4,q4⟩=>thn (ho' pins s4 σ H4 y z' u w' _ I4 r2 r4 q4) fun d' s5 ⟨z2,H5,I5,r5,k2,e2,q5⟩=>?_))
  subst e2
  cases r5
  exact wpAny_truthy_bool ⟨H5,I5,q5⟩
theorem line63:(sizeLine:Nat) < 2^63:=by rw[sizeLine_eq];decide
theorem vals1 {x:V}{us:List Value}(r:Vals [x] us):∃ u,us=[u]∧RelV x u:=by
 cases r with
 | cons r1 r2=>cases r2;exact⟨_,rfl,r1⟩
theorem vals2 {x y:V}{us:List Value}(r:Vals [x,y] us):∃ u w',us=[u,w']∧RelV x u∧RelV y w':=by
 cases r with
 | cons r1 r2 =>
  cases r2 with
  | cons r3 r4=>cases r4;exact⟨_,_,rfl,r1,r3⟩
theorem qv (hc:X.calm=true):CallR X (.builtin "max") (fun xs H Q=>∃ i j,xs=[.int i,.int j]∧Q (.int (if j > i then j else i)) H):=by
 intro pins s σ H xs us Q I r h
 obtain⟨i,j,rfl,q⟩:=h
 obtain⟨u,w',rfl,⟨t,rfl⟩,⟨t',rfl⟩⟩:=vals2 r
 refine max_two_ints (I.ok.hd hc) fun h' tk k=>⟨_,H,I.kept k,?_,q⟩
 by_cases hj:j > i
 ·rw[if_pos hj,if_pos hj];exact⟨_,rfl⟩
 ·rw[if_neg hj,if_neg hj];exact⟨_,rfl⟩
end
end L2
namespace L2
open PySem PySem.Spec PyProof.Rows
structure ObjM (h:Heap)(x dx C:Addr)(mA:Str→Option Value):Prop where
 obj:h.get? x=some (PySem.W.instObj C dx)
 ns:h.Ns1 dx mA
 ne:dx≠x
theorem qw {h:Heap}{dx:Addr}{mA:Str→Option Value}(n:h.Ns1 dx mA):∃ od,h.get? dx=some od∧∀ name,PySem.W.lookIn name od=some (mA name):=by
 obtain⟨o,es,ep,ho,hd,hk,_,hm⟩:=n
 refine⟨o,ho,fun name=>?_⟩
 have e:=hm name
 unfold nsFind findBy at e
 rw[← Array.find?_toList]at e
 unfold PySem.W.lookIn
 rw[hd]
 dsimp only
 split
 ·rename_i y q
  rw[q]at e
  exact congrArg some e
 ·rename_i q
  rw[q]at e
  have a:es.toList.any (·.refKey)=false:=by
   rw[List.any_eq_false]
   intro y hy
   obtain⟨z,t,hkey⟩:=hk y (Array.mem_toList_iff.mp hy)
   simp[DictEntry.refKey,hkey]
  have a':¬ es.toList.any (·.refKey)=true:=by rw[a];exact Bool.false_ne_true
  rw[if_neg a']
  exact congrArg some e
theorem ObjM.look {h:Heap}{x dx C:Addr}{mA:Str→Option Value}(I:ObjM h x dx C mA):∃ od,PySem.W.InstAt h x (PySem.W.instObj C dx) C (some od)∧∀ name,PySem.W.lookIn name od=some (mA name) :=
 let ⟨od,ho,hl⟩:=qw I.ns
 ⟨od,⟨I.obj,rfl,rfl,ho⟩,hl⟩
section
variable {prog:Program}{w:World}{A:Around}{E:Value→Shared→Prop}{s:Shared}{K:PySem.W.Frag}{x dx C f:Addr}{mA:Str→Option Value}{name:Str}{v:Value}
theorem sG {pl:Sem Bool}{Q:Value×List Value→Shared→Prop}(X:K.In s.heap)(I:ObjM s.heap x dx C mA)(hg:PySem.W.plainGet K C name=true)
  (hf:PySem.W.findIn K (.ref C) name=some (some (.ref f))) (ht:PySem.W.isFn K (.ref f)=true) (hv:mA name=none) (h:Q (.ref f,[.ref x]) s) :
  wpAny (model prog w) A (getMethod (.ref x) name pl) Q E s:=by
 obtain⟨od,J,hl⟩:=I.look
 exact PySem.W.method_fn X J (PySem.W.plainGet_of hg).1 (PySem.W.plainGet_of hg).2 hf (beq_iff_eq.mp ht) (by show (PySem.W.lookIn name od).map (·.isSome)=some false;rw[hl,hv];rfl) h
theorem yc {R:Result→Shared→Prop}{vs:List Value}{kw:List (Str×Value)}(X:K.In s.heap)(hm:PySem.W.makesIn K C=true)
  (hi:PySem.W.findIn K (.ref C) "__init__"=some (some (.ref f))) (hf:PySem.W.typeIn K (.ref f)=some (.type "function"))
  (h:codeAny (model prog w) (A.under (.builtin "type.__call__" ⟨.ref C::vs,kw⟩)) (.call (.ref f) ⟨.ref (s.heap.objs.size+1)::vs,kw⟩) (PySem.W.InitBack (s.heap.objs.size+1) R)
   { s with heap:=(s.heap.push PySem.W.emptyDict).push (PySem.W.instObj C s.heap.objs.size) }) :
  codeAny (model prog w) A (.call (.ref C) ⟨vs,kw⟩) R s:=by
 obtain⟨hh,g,d,t,os⟩:=s
 exact PySem.W.make_core (PySem.W.makes_of X hm) (PySem.W.looks_findIn X hi) (fun self=>PySem.W.bind_fn X self hf) (.inl rfl) h
end
theorem RelO.some_of {v:V}{o:Option Value}(r:RelO (some v) o):∃ u,o=some u∧RelV v u:=by
 cases o with
 | none=>exact(show False from r).elim
 | some u=>exact⟨u,rfl,r⟩
theorem RelO.none_of {o:Option Value}(r:RelO none o):o=none:=by
 cases o with
 | none=>rfl
 | some u=>exact(show False from r).elim
section
variable {P:Program}{w:World}{H H':Hp}{h h':Heap}{a C dx:Addr}{fs fs':List (Str×V)}
theorem u3 (hok:HOk P w H h)(e:H a=some (.ins C dx fs)):∃ mA,ObjM h a dx C mA∧(∀ f,RelO (fs.lookup f) (mA f))∧PySem.Within mA (fs.map (·.1))∧fs.length≤1000∧H dx=some (.own a):=by
 obtain⟨d,z,ne,ob,mA,n,r,q⟩:=(show ObjOk P w H h a (.ins C dx fs) from hok a _ e)
 exact⟨mA,⟨ob,n,ne⟩,r,q,z,d⟩
end
structure Cls (K:PySem.W.Frag)(C:Addr):Prop where
 pg:PySem.W.plainGet K C Str.empty=true
 hd:PySem.W.hasDictIn K C=true
 po:PySem.W.plainOver K C=true
 sa:PySem.W.findIn K (.ref C) "__setattr__"=some (some (.builtin "object.__setattr__"))
theorem Cls.get {K:PySem.W.Frag}{C:Addr}(c:Cls K C)(f:Str):PySem.W.plainGet K C f=true:=c.pg
structure Meth (K:PySem.W.Frag)(C:Addr)(m:Str)(f:Addr):Prop where
 at_:PySem.W.findIn K (.ref C) m=some (some (.ref f))
 fn:PySem.W.isFn K (.ref f)=true
 kp:PySem.W.keepIn K (.ref f)=true
section
variable {X:Cx}{pins:List (Addr×Obj)}{σ:St}{H:Hp}{s:Shared}{a C dx:Addr}{fs:List (Str×V)}{f:Str}{v:V}{A:Around}{E:Value→Shared→Prop}
theorem n8 {m:Str}{g:Addr}{pl:Sem Bool}{Q:Value×List Value→Shared→Prop}(I:Inv X pins σ H s)(e:H a=some (.ins C dx fs))(c:Cls X.K C)(k:Meth X.K C m g)(l:fs.lookup m=none)
  (h:Q (.ref g,[.ref a]) s):wpAny (model X.prog X.w) A (getMethod (.ref a) m pl) Q E s:=by
 obtain⟨mA,O,r,_,_,_⟩:=u3 I.hok e
 have hn:mA m=none:=RelO.none_of (by rw[← l];exact r m)
 exact sG I.kIn O (c.get m) k.at_ k.fn hn h
end
section
variable {X:Cx}{o e value:Expr}{f:Str}{pos pos' tpos:Pos}{ta tv:TE}
theorem wu {pl:Sem Bool}{m:Str}{apos:Pos}{args:List Expr}{pins:List (Addr×Obj)}{s:Shared}{σ:St}{H:Hp}{Q:Value→Shared→Prop}{te:TE}(he:PE X e te)(I:Inv X pins σ H s)
  (h:te σ H fun x H1=>∃ a C dx fs g,x=.ref a∧H1 a=some (.ins C dx fs)∧Cls X.K C∧Meth X.K C m g∧fs.lookup m=none ∧
   ∀ s1,Inv X pins σ H1 s1→wpAny (model X.prog X.w) X.A (callWith pos (.ref g) [.ref a] (backTo pos (starEach args X.env)) (backToKw pos (keywordEach [] X.env))) Q X.xe s1)
  (ht:eval (.Call (.Attribute e m apos) args [] pos) X.env=(do
   let ov ← eval e X.env
   standAt apos.atName
   let (f,first) ← holding [ov] (getMethod ov m pl)
   callWith pos f first (backTo pos (starEach args X.env)) (backToKw pos (keywordEach [] X.env)))) :
  wpAny (model X.prog X.w) X.A (eval (.Call (.Attribute e m apos) args [] pos) X.env) Q X.xe s:=by
 refine PySem.W.methodCall_KW (pl:=pl) (thn (he pins s σ H _ I h) fun u s1 ⟨x,H1,I1,rx,a,C,dx,fs,g,ex,ea,c,k,l,q⟩=>?_) ht
 subst ex
 obtain rfl:u=Value.ref a:=rx
 exact n8 I1 ea c k l (q s1 I1)
end
section
variable {X:Cx}{pins:List (Addr×Obj)}{σ:St}{H:Hp}{s:Shared}{A:Around}{E:Value→Shared→Prop}{Q:Value→Shared→Prop}{c:Value}{b:Bool}
inductive TyOf (K:PySem.W.Frag)(H:Hp):V→Value→Prop where
 | non:TyOf K H .non (.type "NoneType")
 | bl (x:Bool):TyOf K H (.bl x) (.type "bool")
 | int (i:Int):TyOf K H (.int i) (.type "int")
 | str (x:Str):TyOf K H (.str x) (.type "str")
 | flt (x:UInt64):TyOf K H (.flt x) (.type "float")
 | lst {a:Addr} {xs:List V} (e:H a=some (.lst xs)):TyOf K H (.ref a) (.type "list")
 | frz {a:Addr} {o:Obj} {xs:List V} (e:H a=some (.frz o (.lst xs))):TyOf K H (.ref a) (.type "list")
 | tup {a:Addr} {xs:List V} (e:H a=some (.tup xs)):TyOf K H (.ref a) (.type "tuple")
 | dK {a:Addr} {kvs:List (Key×V)} (e:H a=some (.dK kvs)):TyOf K H (.ref a) (.type "dict")
 | dT {a:Addr} {kvs:List (List Key×V)} (e:H a=some (.dT kvs)):TyOf K H (.ref a) (.type "dict")
 | ins {a C dx:Addr} {fs:List (Str×V)} (e:H a=some (.ins C dx fs)) (cl:Cls K C) (ha:PySem.W.findIn K (.ref C) "__class__"=some (some (.builtin "object.__class__")))
   (hn:PySem.W.specialIn K (.builtin "object.__class__") "__get__"=some (some (.builtin "getset_descriptor.__get__"))) (htk:PySem.W.takesIn K (.builtin "object.__class__")=some true)
   (hm:PySem.W.mroIn K C (.type "object")=some true):TyOf K H (.ref a) (.ref C)
end
end L2
namespace L2
open PySem PySem.Spec PyProof.Rows
structure Room (k:Nat)(A:Around):Prop where
 hd:A.handled=none
 dp:A.depth+3*k+5 < recursionLimit
 un:A.units+16*k+200 < cLine
structure RoomW (k:Nat)(A:Around):Prop where
 hd:A.handled=none
 dp:A.depth+3*k+3 < recursionLimit
 un:A.units+16*k+190 < cLine
theorem Room.w {k:Nat}{A:Around}(r:Room k A):RoomW k A:=⟨r.hd,by have:=r.dp;omega,by have:=r.un;omega⟩
theorem RoomW.deeper {k:Nat}{A:Around}(r:RoomW (k+1) A)(env:Env):Room k (A.deeper env) :=
 ⟨r.hd,by have:=r.dp;show A.depth+1+3*k+5 < _;omega,by have:=r.un;show A.units+3+16*k+200 < _;omega⟩
theorem RoomW.depth {k:Nat}{A:Around}(r:RoomW k A):A.depth < recursionLimit:=by have:=r.dp;omega
def tNil:TA:=fun _ H Q=>Q [] H
def tCons (ta:TE)(tr:TA):TA:=fun σ H Q=>ta σ H fun x H1=>tr σ H1 fun xs H2=>Q (x::xs) H2
section
variable {X:Cx}{e:Expr}{es:List Expr}{te:TE}{t:TA}{pos:Pos}
theorem jb:PA X [] tNil:=fun _ _ _ _ H Q I h=>Calls.spliced_nil ⟨[],H,I,.nil,h⟩
theorem fe (ha:PE X e te)(hr:PA X es t)(hs:starEach (e::es) X.env=(false,eval e X.env)::starEach es X.env:=by rfl):PA X (e::es) (tCons te t):=by
 intro pos pins s σ H Q I h
 rw[hs]
 show wpAny _ _ (spliced ((false,eval e X.env)::backTo pos (starEach es X.env))) _ _ s
 refine Calls.spliced_cons (thn (ha pins s σ H _ I h) fun u s1 ⟨x,H1,I1,r1,q1⟩=>?_)
 exact thn (hr pos pins s1 σ H1 _ I1 q1) fun us s2 ⟨xs,H2,I2,r2,q2⟩=>⟨x::xs,H2,I2,.cons r1 r2,q2⟩
def tTup (t:TA):TE:=fun σ H Q=>t σ H fun xs H1=>xs.length≤sizeLine∧∀ p,H1 p=none→Q (.ref p) (upd H1 p (.tup xs))
def tLst (t:TA):TE:=fun σ H Q=>t σ H fun xs H1=>xs.length≤sizeLine∧∀ p,H1 p=none→Q (.ref p) (upd H1 p (.lst xs))
theorem xc {x1}(h:PA X es t):PE X (.Tuple es x1 pos) (tTup t):=by
 intro pins s σ H Q I hq
 refine wpAny_Tuple_spliced (thn (h pos pins s σ H _ I hq) fun us s1 ⟨xs,H1,I1,r,z,q⟩=>⟨by rw[← r.length];exact z,?_⟩)
 have hf:H1 s1.heap.objs.size=none:=I1.hok.fresh (Nat.le_refl _)
 refine⟨.ref s1.heap.objs.size,upd H1 s1.heap.objs.size (.tup xs),I1.laid (t':=s1.toks) (fun b u e=>Heap.get?_push_of_some _ e) (Nat.le_refl _) ?_,rfl,q _ hf⟩
 exact⟨z,us,r,TupO.new _ _⟩
theorem sH (h:PA X es t):PE X (.List es pos) (tLst t):=by
 intro pins s σ H Q I hq
 refine wpAny_List_spliced (thn (h pos pins s σ H _ I hq) fun us s1 ⟨xs,H1,I1,r,z,q⟩=>⟨by rw[← r.length];exact z,?_⟩)
 have hf:H1 s1.heap.objs.size=none:=I1.hok.fresh (Nat.le_refl _)
 refine⟨.ref s1.heap.objs.size,upd H1 s1.heap.objs.size (.lst xs),I1.laid (t':=s1.toks) (fun b u e=>Heap.get?_push_of_some _ e) (Nat.le_refl _) ?_,rfl,q _ hf⟩
 exact⟨z,us,0,r,Heap.get?_push_size _ rfl⟩
end
abbrev Sp:=List V→Hp→VK→XK→Prop
abbrev CXT:=List Env→Hp→Shared→XK→Value→Shared→Prop
structure Env0 (P:Program)(w:World)(K:PySem.W.Frag)(mg:Str→Option Value)(base:Heap)(A:Around)(outer:List Env)(s:Shared)(H:Hp):Prop where
 frames:A.frames=some outer
 mod:Mod K mg base
 bs:∀ b o,base.get? b=some o→s.heap.get? b=some o∧H b=none
 bsz:base.objs.size≤s.heap.objs.size
 funs:s.heap.FunFrames base outer
 frf:∀ b∈frs outer,H b=none
 hok:HOk P w H s.heap
 bare:AllBare s.gens
def CE (outer:List Env)(P:Program)(w:World)(H:Hp)(s:Shared)(Q:VK)(u:Value)(s':Shared):Prop :=
 ∃ v H',s'.os=s.os∧AllBare s'.gens∧Un (frs outer) [] H H' s.heap s'.heap∧HOk P w H' s'.heap∧RelV v u∧Q v H'
def CR (CX:CXT)(outer:List Env)(P:Program)(w:World)(H:Hp)(s:Shared)(Q:VK)(E:XK)(r:Result)(s':Shared):Prop :=
 match r with
 | .ok (.ret u)=>CE outer P w H s Q u s'
 | .ok _=>False
 | .error e=>CX outer H s E e s'
structure FnOk (P:Program)(w:World)(K:PySem.W.Frag)(mg:Str→Option Value)(base:Heap)(CX:CXT)(k:Nat)(f:Addr)(fd:FuncData)(ps:List Str)(sp:Sp):Prop where
 len:∀ vs H Q E,sp vs H Q E→vs.length=ps.length
 run:∀ (A:Around) (outer:List Env) (s:Shared) (H:Hp) (args:Args) (us:List Value) (vs:List V) (Q:VK) (E:XK),RoomW k A→Env0 P w K mg base A outer s H→BindsTo s fd args (ps.zip us)→Vals vs us→sp vs H Q E →
  codeAny (model P w) A (.call (.ref f) args) (CR CX outer P w H s Q E) s
section
variable {X:Cx}{pins:List (Addr×Obj)}{σ:St}{H:Hp}{s s':Shared}
theorem Inv.env0 (I:Inv X pins σ H s):Env0 X.prog X.w X.K X.mg X.base X.A X.stack s H :=
 ⟨I.ok.frames,I.ok.mod,I.bs,Nat.le_trans I.ok.bsz I.sz,I.stack,I.stkFree,I.hok,I.bare⟩
theorem Inv.after {Q:VK}{u:Value}(I:Inv X pins σ H s)(h:CE X.stack X.prog X.w H s Q u s'):EP X pins σ Q u s':=by
 obtain⟨v,H',os,bare,un,hok,r,q⟩:=h
 obtain⟨hh,g,d,t,os'⟩:=s'
 obtain rfl:os'=s.os:=os
 exact⟨v,H',I.call (h':=hh) (g':=g) (d':=d) (t':=t) (ch:=[]) un hok bare (fun b z=>absurd z (by simp)),r,q⟩
end
def tCall (sp:Sp)(dvs:List V)(E:XK)(t:TA):TE:=fun σ H Q=>t σ H fun vs H1=>sp (vs++dvs) H1 Q E
def Binds (K:PySem.W.Frag)(fd:FuncData)(ps:List Str)(ds:List Value):Prop :=
 ∀ (s:Shared) (us:List Value),K.In s.heap→(us++ds).length=ps.length→BindsTo s fd ⟨us,[]⟩ (ps.zip (us++ds))
theorem Binds.all {K:PySem.W.Frag}{fd:FuncData}{ps:List Str}(h:∀ us:List Value,us.length=ps.length→bindArgs fd ⟨us,[]⟩=pure (ps.zip us)):Binds K fd ps []:=fun s us _ hl=>by
 rw[List.append_nil]at hl ⊢
 exact .of_eq (h us hl)
def Passes (CX:CXT)(X:Cx)(E:XK):Prop:=∀ (pins:List (Addr×Obj)) (σ:St) (H:Hp) (s:Shared) (e:Value) (s':Shared),Inv X pins σ H s→CX X.stack H s E e s'→X.xe e s'
section
variable {X:Cx}{CX:CXT}{k:Nat}{f C:Addr}{fd:FuncData}{ps:List Str}{sp:Sp}{dvs:List V}{ds:List Value}{E:XK}{x m:Str}{p pos apos:Pos}{e o:Expr}{es:List Expr}{ta:TE}{t:TA}
theorem sI {pins:List (Addr×Obj)}{σ:St}{H:Hp}{s:Shared}{Q:VK}{us:List Value}{vs:List V}(F:FnOk X.prog X.w X.K X.mg X.base CX k f fd ps sp)(hr:Room k X.A)(hb:Binds X.K fd ps ds)(hd:Vals dvs ds)(hx:Passes CX X E)
  (I:Inv X pins σ H s) (r:Vals vs us) (h:sp (vs++dvs) H Q E):wpAny (model X.prog X.w) X.A (call (.ref f) us) (EP X pins σ Q) X.xe s:=by
 have r2:Vals (vs++dvs) (us++ds):=r.append hd
 have hl:(us++ds).length=ps.length:=by rw[← r2.length];exact F.len _ _ _ _ h
 refine wpAny_call (codeAny_mono (F.run X.A X.stack s H ⟨us,[]⟩ (us++ds) (vs++dvs) Q E hr.w I.env0 (hb s us I.kIn hl) r2 h) fun r s' hq=>?_)
 cases r with
 | error e=>exact hx pins σ H s e s' I hq
 | ok fl =>
  cases fl with
  | ret u=>exact I.after hq
  | next=>exact False.elim hq
  | brk=>exact False.elim hq
  | cont=>exact False.elim hq
theorem u4 (F:FnOk X.prog X.w X.K X.mg X.base CX k f fd ps sp)(hr:Room k X.A)(hg:Gl X x)(hm:X.mg x=some (.ref f))(hk:PySem.W.keepIn X.K (.ref f)=true)(hb:Binds X.K fd ps ds)(hd:Vals dvs ds)(hx:Passes CX X E)
  (ha:PA X (e::es) t) (hdb:(x==("__debug__":Str))=false:=by decide) (he:starEach (e::es) X.env=(false,eval e X.env)::starEach es X.env:=by rfl) (hpl:(backTo pos (starEach es X.env)).any (·.1)=false:=by rfl) :
  PE X (.Call (.Name x p) (e::es) [] pos) (tCall sp dvs E t):=by
 intro pins s σ H Q I h
 refine wpAny_Call_Name_kw (iU I hg hm ?_ hdb)
 refine PySem.W.callWith_K (h₀:=X.base) I.ok.mod.kin hk (thn (ha pos pins s σ H _ I h) fun us s1 ⟨vs,H1,I1,r,q⟩=>⟨I1.kIn,?_⟩) he hpl
 exact sI F hr hb hd hx I1 r q
end
section
variable {X:Cx}{CX:CXT}{k:Nat}{f C:Addr}{fd:FuncData}{ps ks:List Str}{sp:Sp}{E:XK}{x m:Str}{p pos apos kpos:Pos}{e o:Expr}{es:List Expr}{kws:List Keyword}{te ta:TE}{t tk:TA}{nm:Option Str}
variable {g:List Value→List Value→List Value}{gV:List V→List V→List V}
end
structure FnScope (N P:List Str)(sc:Scope):Prop where
 kind:sc.kind=.function
 co:sc.isCoroutine=false
 gen:sc.isGenerator=false
 nd:N.Nodup
 pre:N.take P.length=P
 par:∀ x∈P,sc.names.lookup x=some .local∨sc.names.lookup x=some .cell
 nofree:∀ y∈sc.names,y.2≠.free
theorem kz {kindOf:Str→Option NameKind}{x:Str}:∀ {binds:List (Str×Value)} {m:Str→Option Value},(∀ v,(x,v)∉binds)→bindL kindOf binds m x=m x
 | [],_,_=>rfl
 | (n,v)::r,m,h=>by
  unfold bindL
  rw[kz fun w hw=>h w (List.mem_cons_of_mem _ hw)]
  split
  ·have:x≠n:=by rintro rfl;exact h v List.mem_cons_self
   simp[this]
  ·rfl
theorem kA {kindOf:Str→Option NameKind}{x:Str}:∀ {binds:List (Str×Value)} {m:Str→Option Value},(∀ v,(x,v)∉binds)→bindC kindOf binds m x=m x
 | [],_,_=>rfl
 | (n,v)::r,m,h=>by
  unfold bindC
  rw[kA fun w hw=>h w (List.mem_cons_of_mem _ hw)]
  split
  ·rfl
  ·have:x≠n:=by rintro rfl;exact h v List.mem_cons_self
   simp[this]
theorem kB {kindOf:Str→Option NameKind}{x:Str}{v:Value}:∀ {P:List Str} {vs:List Value} {i:Nat} {m:Str→Option Value},P.Nodup→P[i]?=some x→vs[i]?=some v→kindOf x=some .local →
  bindL kindOf (P.zip vs) m x=some v
 | [],_,_,_,_,h,_,_=>by simp at h
 | _::_,[],_,_,_,_,h,_=>by simp at h
 | p::P,w::vs,0,m,nd,h1,h2,hk=>by
  simp at h1 h2;subst h1;subst h2
  show bindL kindOf ((p,w)::P.zip vs) m p=_
  unfold bindL
  rw[kz fun v hv=>(List.nodup_cons.mp nd).1 (List.of_mem_zip hv).1,if_pos hk]
  simp
 | p::P,w::vs,i+1,m,nd,h1,h2,hk=>by
  show bindL kindOf ((p,w)::P.zip vs) m x=_
  unfold bindL
  exact kB (i:=i) (List.nodup_cons.mp nd).2 (by simpa using h1) (by simpa using h2) hk
theorem kC {kindOf:Str→Option NameKind}{x:Str}{v:Value}:∀ {P:List Str} {vs:List Value} {i:Nat} {m:Str→Option Value},P.Nodup→P[i]?=some x→vs[i]?=some v→kindOf x≠some .local →
  bindC kindOf (P.zip vs) m x=some v
 | [],_,_,_,_,h,_,_=>by simp at h
 | _::_,[],_,_,_,_,h,_=>by simp at h
 | p::P,w::vs,0,m,nd,h1,h2,hk=>by
  simp at h1 h2;subst h1;subst h2
  show bindC kindOf ((p,w)::P.zip vs) m p=_
  unfold bindC
  rw[kA fun v hv=>(List.nodup_cons.mp nd).1 (List.of_mem_zip hv).1,if_neg hk]
  simp
 | p::P,w::vs,i+1,m,nd,h1,h2,hk=>by
  show bindC kindOf ((p,w)::P.zip vs) m x=_
  unfold bindC
  exact kC (i:=i) (List.nodup_cons.mp nd).2 (by simpa using h1) (by simpa using h2) hk
def start (N:List Str)(vs:List V):St:=vs.map some++List.replicate (N.length - vs.length) none
def cxOf (CX:CXT)(P:Program)(w:World)(K:PySem.W.Frag)(mg:Str→Option Value)(base:Heap)(N:List Str)(qual:Str)(scope:Scope)(f:Addr)(cd:Value)(A:Around)(outer:List Env)(s:Shared)(H:Hp)(E:XK):Cx where
 prog:=P
 w:=w
 K:=K
 mg:=mg
 base:=base
 A:=A.deeper (envOfC qual scope s.heap.objs.size f cd)
 N:=N
 s₀:=s
 H₀:=H
 env:=envOfC qual scope s.heap.objs.size f cd
 outer:=outer
 stack:=envOfC qual scope s.heap.objs.size f cd::outer
 ex:=[]
 calm:=true
 fn:=fun _=>true
 pn:=[]
 xe:=fun e s'=>wpAny (model P w) (A.deeper (envOfC qual scope s.heap.objs.size f cd)) (leaving (envOfC qual scope s.heap.objs.size f cd) e) (fun _ s''=>CX outer H s E e s'') (fun e' s''=>CX outer H s E e' s'') s'
theorem l8 {sc:Scope}{n:Nat}{x:Str}(h:sc.names.lookup x=some .cell):∃ c,(cellsFrom n sc.names []).lookup x=some c:=by
 have q:=PySem.W.cellsFrom_some sc.names n [] (.inl h)
 exact Option.isSome_iff_exists.mp q
theorem qy {CX:CXT}{P:Program}{w:World}{K:PySem.W.Frag}{mg:Str→Option Value}{base:Heap}{N ps:List Str}{qual:Str}{scope:Scope}{f:Addr}{cd:Value}{A:Around}{outer:List Env}{s s1:Shared}{H:Hp}{E:XK}{us:List Value}{vs:List V}
  (S:FnScope N ps scope) (hd:A.handled=none) (e0:Env0 P w K mg base A outer s H) (hl:vs.length=ps.length) (r:Vals vs us)
  (x:InCallC s s.heap.objs.size (bindL (envOfC qual scope s.heap.objs.size f cd).kindOf (ps.zip us) fun _=>none) (cellsFrom (s.heap.objs.size+1) scope.names []) (bindC (envOfC qual scope s.heap.objs.size f cd).kindOf (ps.zip us) fun _=>none) s1) :
  Inv (cxOf CX P w K mg base N qual scope f cd A outer s H E) [] (start N vs) H s1:=by
 have hpl:ps.length≤N.length:=by have:=congrArg List.length S.pre;rw[List.length_take]at this;omega
 obtain⟨h1,tk,rfl,hk⟩:=x.done
 have noA:∀ b:Addr,b∉(cxOf CX P w K mg base N qual scope f cd A outer s H E).ex:=fun b z=>absurd (show b∈([]:List Addr) from z) (by simp)
 refine⟨⟨e0.mod,S.kind,rfl,rfl,Nat.le_refl _,fun y z c h1 h2=>?_,fun y hy=>?_,fun y c _ h=>?_,fun _=>hd,Around.frames_deeper e0.frames,.inr ⟨rfl,rfl⟩,fun b z=>absurd z (noA b),e0.bs,e0.bsz,fun b _ _=>noA b,fun b z=>absurd z (noA b),e0.funs,e0.frf⟩,
  rfl,e0.bare,Un.kept hk,⟨_,x.toInCall.ns,fun i y v h1 h2 h3=>?_⟩,fun y c h=>⟨_,x.cell y c h⟩,e0.hok.fresh (Nat.le_refl _),fun y c h=>?_,fun p hp=>absurd (show p∈([]:List (Addr×Obj)) from hp) (by simp),e0.hok.kept hk,?_⟩
 ·exact name_of_addr x.apart (PySem.mem_of_lookup h1) (PySem.mem_of_lookup h2)
 ·have hy:scope.names.lookup y=some .cell∨scope.names.lookup y=some .free:=hy
  rcases hy with hy | hy
  ·exact l8 hy
  ·exact absurd rfl (S.nofree _ (PySem.mem_of_lookup hy))
 ·exact Nat.le_of_lt (x.above y c (PySem.mem_of_lookup h))
 ·have hi:i < vs.length:=by
   unfold start at h2
   by_cases hi:i < vs.length
   ·exact hi
   ·rw[List.getElem?_append_right (by simpa using hi)]at h2
    rw[List.getElem?_replicate]at h2
    split at h2<;>cases h2
  have ha:vs[i]?=some v:=by
   unfold start at h2
   rw[List.getElem?_append_left (by simpa using hi),List.getElem?_map]at h2
   cases e:vs[i]? with
   | none=>rw[e]at h2;cases h2
   | some a=>rw[e]at h2;cases h2;rfl
  obtain⟨u,hu,rv⟩:=r.get ha
  have hp:ps[i]?=some y:=by
   rw[← S.pre,List.getElem?_take_of_lt (by omega)];exact h1
  have ndP:ps.Nodup:=by rw[← S.pre];exact S.nd.sublist (List.take_sublist _ _)
  refine⟨u,rv,?_⟩
  rcases S.par y (List.mem_of_getElem? hp) with k | k
  ·exact .inl ⟨k,kB ndP hp hu k⟩
  ·obtain⟨c,e⟩:=l8 (n:=s.heap.objs.size+1) k
   refine .inr ⟨.inl k,c,e,?_⟩
   have q:=x.cell y c e
   rw[kC ndP hp hu (by show scope.names.lookup y≠_;rw[k];decide)]at q
   exact q
 ·exact e0.hok.fresh (Nat.le_of_lt (x.above y c (PySem.mem_of_lookup h)))
 ·unfold start
  show _=N.length
  rw[List.length_append,List.length_map,List.length_replicate]
  omega
theorem wx {CX:CXT}{P:Program}{w:World}{K:PySem.W.Frag}{mg:Str→Option Value}{base:Heap}{k:Nat}{f:Addr}{name qual:Str}{params:Arguments}{body:List Stmt}{scope:Scope}{dV kV doc pm cdv ct oc:Value}{an od:Option Addr}
  {osl:Array (Option Value)} {N ps:List Str} {sp:Sp} (lk:K.lookup f=some ⟨oc,od,.func (PySem.W.fnOf name qual params body scope dV kV doc pm an cdv ct),osl⟩) (hcd:PySem.W.codeIn K cdv qual=true) (S:FnScope N ps scope)
  (len:∀ vs H Q E,sp vs H Q E→vs.length=ps.length)
  (hbody:∀ (A:Around) (outer:List Env) (s:Shared) (H:Hp) (vs:List V) (Q:VK) (E:XK),Room k (A.deeper (envOfC qual scope s.heap.objs.size f cdv))→sp vs H Q E →
   ∃ t,PSs (cxOf CX P w K mg base N qual scope f cdv A outer s H E) body t∧t { nx:=fun _ H'=>Q .non H',rt:=Q } (start N vs) H) :
  FnOk P w K mg base CX (k+1) f (PySem.W.fnOf name qual params body scope dV kV doc pm an cdv ct) ps sp:=by
 refine⟨len,fun A outer s H args us vs Q E hr e0 hb r hsp=>?_⟩
 have hl:=len _ _ _ _ hsp
 have KX:K.In s.heap:=e0.mod.kin.keeps fun b o e=>(e0.bs b o e).1
 have lim:s.heap.NoLimit:=e0.mod.nolimit.keeps fun b o e=>(e0.bs b o e).1
 have hkind:∀ y∈ps.zip us,scope.names.lookup y.1=some .local∨(scope.names.lookup y.1=some .cell∧((cellsFrom (s.heap.objs.size+1) scope.names []).lookup y.1).isSome=true):=fun ⟨n,v⟩ hy=>by
  rcases S.par n (List.of_mem_zip hy).1 with q | q
  ·exact .inl q
  ·exact .inr ⟨q,PySem.W.cellsFrom_some _ _ _ (.inl q)⟩
 refine codeAny_call_function hr.depth (KX _ _ lk) rfl S.co S.gen rfl (PySem.W.codeRec_of KX hcd) (hb _ _ _ _ ?_)
 refine wpAny_newFunctionEnv_cells S.kind hkind fun env he s1 x=>?_
 subst he
 refine⟨lim.keeps x.toInCall.keep,codeAny_func ?_⟩
 obtain⟨t,ht,hq⟩:=hbody A outer s H vs Q E (hr.deeper _) hsp
 have I:Inv (cxOf CX P w K mg base N qual scope f cdv A outer s H E) [] (start N vs) H s1:=qy S hr.hd e0 hl r x
 refine wpAny_mono (ht [] s1 (start N vs) H _ I hq) (fun fl s' hs=>?_) fun e s' hs=>hs
 have fin:∀ {σ':St} {H':Hp} {v:V} {u:Value},Inv (cxOf CX P w K mg base N qual scope f cdv A outer s H E) [] σ' H' s'→RelV v u→Q v H'→CE outer P w H s Q u s' :=
  fun {σ' H' v u} J rv q=>⟨v,H',J.os,J.bare,J.base,J.hok,rv,q⟩
 cases fl with
 | ret u =>
  obtain⟨v,σ',H',J,rv,q⟩:=hs
  exact fin J rv q
 | next =>
  obtain⟨σ',H',J,q⟩:=hs
  exact fin (v:=V.non) (u:=Value.none) J rfl q
 | brk =>
  obtain⟨_,_,_,q⟩:=hs
  exact False.elim q
 | cont =>
  obtain⟨_,_,_,q⟩:=hs
  exact False.elim q
end L2
namespace L2
open PySem PySem.Spec PyProof.Rows
section
variable {X:Cx}{x:Str}{p pos:Pos}{e:Expr}{es:List Expr}{t:TA}{id T:String}{r:List V→Hp→VK→Prop}
def tCB (r:List V→Hp→VK→Prop)(t:TA):TE:=fun σ H Q=>t σ H fun vs H1=>r vs H1 Q
theorem dz (hc:CallR X (.builtin id) r)(hg:Gl X x)(hm:X.mg x=none)(hv:bootBuiltins x=some (.builtin id))(ha:PA X (e::es) t)(hn:x ≠ "__name__" := by decide)(hdb:(x==("__debug__":Str))=false:=by decide)
  (he:starEach (e::es) X.env=(false,eval e X.env)::starEach es X.env:=by rfl) (hpl:(backTo pos (starEach es X.env)).any (·.1)=false:=by rfl):PE X (.Call (.Name x p) (e::es) [] pos) (tCB r t):=by
 intro pins s σ H Q I h
 refine wpAny_Call_Name_kw (gU I hg hm hv ?_ hn hdb)
 exact PyProof.Rows.callWith_builtin1 (thn (ha pos pins s σ H _ I h) fun us s1 ⟨vs,H1,I1,r1,q1⟩=>hc pins s1 σ H1 vs us Q I1 r1 q1) he hpl
theorem kD (hc:CallR X (.type T) r)(hg:Gl X x)(hm:X.mg x=none)(hv:bootBuiltins x=some (.type T))(ha:PA X (e::es) t)(hn:x ≠ "__name__" := by decide)(hdb:(x==("__debug__":Str))=false:=by decide)
  (he:starEach (e::es) X.env=(false,eval e X.env)::starEach es X.env:=by rfl) (hpl:(backTo pos (starEach es X.env)).any (·.1)=false:=by rfl):PE X (.Call (.Name x p) (e::es) [] pos) (tCB r t):=by
 intro pins s σ H Q I h
 refine wpAny_Call_Name_kw (gU I hg hm hv ?_ hn hdb)
 exact PyProof.Rows.callWith_type1 (thn (ha pos pins s σ H _ I h) fun us s1 ⟨vs,H1,I1,r1,q1⟩=>hc pins s1 σ H1 vs us Q I1 r1 q1) he hpl
end
end L2
namespace HT
open PySem PyProof.Rows
section
open PySem.SeqAt
open PySem.AutoSeq1 (wpAny_loadPart')
open PySem.MeetsSeq PySem.MeetsSeq2 PySem.MeetsSeq3
end
section
variable {prog:Program}{w:World}{A:Around}{E:Value→Shared→Prop}{s:Shared}
theorem u5 {t b:Addr}{vs ws:List Value}{Q:Value→Shared→Prop}(ht:IsTup s.heap t vs.toArray)(hb:IsTup s.heap b ws.toArray)(hv:vs≠[])
  (h1:ws=[]→Q (.ref t) s) (h2:ws≠[]→Q (.ref s.heap.objs.size) { s with heap:=s.heap.push { cls:=.type "tuple",data:=.seq (vs++ws).toArray } })
  (hsz:vs.length+ws.length≤sizeLine):wpAny (model prog w) A (binaryOp .Add (.ref t) (.ref b)) Q E s:=by
 obtain⟨⟨cls,dd,data,sl⟩,ho,hc,n,hd⟩:=id ht
 obtain⟨⟨cls2,dd2,data2,sl2⟩,ho2,hc2,n2,hd2⟩:=id hb
 simp only at hc hd hc2 hd2
 subst hc hd hc2 hd2
 have e:vs.toArray++ws.toArray=(vs++ws).toArray:=by simp
 by_cases hw:ws=[]
 ·exact concat_meets ⟨_,ho,rfl⟩ ⟨_,ho2,rfl⟩ noFill_tuple_add seq_tuple_add PySem.F.slot_tuple_add PySem.F.entry_tuple_add (PySem.F.args_tuple_add_2 _ _)
   (tuple_addW1 t b vs.toArray ws.toArray n n2 dd dd2 sl sl2 (by simpa using hv) (by simp[hw])) ⟨ho,ho2,h1 hw⟩
 ·refine concat_meets ⟨_,ho,rfl⟩ ⟨_,ho2,rfl⟩ noFill_tuple_add seq_tuple_add PySem.F.slot_tuple_add PySem.F.entry_tuple_add (PySem.F.args_tuple_add_2 _ _)
   (tuple_addW2 t b vs.toArray ws.toArray n n2 dd dd2 sl sl2 (by simpa using hv) (by simpa using hw) (by rw[List.size_toArray,List.size_toArray];exact hsz)) ⟨ho,ho2,?_⟩
  rw[e]
  exact h2 hw
def sIx (n d:Nat):Option Int→Nat
 | none=>d
 | some v=>if v < 0 then (v+(n:Int)).toNat else min v.toNat n
theorem l9 (n d:Nat):sIx n d none=d:=rfl
theorem xg (n d:Nat)(hd:d≤n)(o:Option Int):sIx n d o≤n:=by
 cases o with
 | none=>exact hd
 | some v =>
  show (if v < 0 then (v+(n:Int)).toNat else min v.toNat n)≤n
  by_cases hv:v < 0
  ·rw[if_pos hv];omega
  ·rw[if_neg hv];exact Nat.min_le_right _ _
theorem pi (v:Int)(n d:Nat):(if v < 0 then max (v+(n:Int)) 0 else min v (n:Int))=((sIx n d (some v):Nat):Int):=by
 show (if v < 0 then max (v+(n:Int)) 0 else min v (n:Int))=(((if v < 0 then (v+(n:Int)).toNat else min v.toNat n):Nat):Int)
 by_cases hv:v < 0
 ·simp only[if_pos hv];omega
 ·simp only[if_neg hv];omega
theorem n9 (lo hi:Option Int)(n:Nat):Builtin.Slice.sliceAdjust lo hi 1 (n:Int)=(((sIx n 0 lo:Nat):Int),((sIx n n hi:Nat):Int)):=by
 have h1:¬ ((1:Int) < 0):=by omega
 unfold Builtin.Slice.sliceAdjust
 simp only[h1,if_false]
 refine Prod.ext ?_ ?_
 ·cases lo with
  | none=>rfl
  | some v=>exact pi v n 0
 ·cases hi with
  | none=>rfl
  | some v=>exact pi v n n
theorem oa (i j:Nat):Builtin.Slice.slicePlaces (i:Int) (j:Int) 1=j - i:=by
 unfold Builtin.Slice.slicePlaces
 have h1:(1:Int) > 0:=by omega
 simp only[h1,if_true,Int.ediv_one]
 split<;>omega
theorem jc {v:Value}{o:Option Int}{Q:Option Int→Shared→Prop}(p:IsPart v o)(h:Q o s):wpAny (model prog w) A (Builtin.Slice.slicePartIndex v) Q E s:=by
 cases p with
 | none=>exact slicePart_none h
 | int i t=>exact slicePart_int h
theorem dA {sl:Addr}{vl vu:Value}{lo hi:Option Int}{n:Nat}{Q:Int×Int×Nat→Shared→Prop}(hs:s.heap.IsSliceOf sl vl vu .none)(pl:IsPart vl lo)(pu:IsPart vu hi)
  (h:Q (((sIx n 0 lo:Nat):Int),1,sIx n n hi - sIx n 0 lo) s):wpAny (model prog w) A (Builtin.Slice.sliceApplied (.ref sl) (pure (n:Int))) Q E s:=by
 obtain⟨os,hos,hcs,hds⟩:=id hs
 unfold Builtin.Slice.sliceApplied Builtin.Slice.sliceFields
 refine wpAny_bind (wpAny_bind (wpAny_field hos hds (x:=vl) rfl (wpAny_bind (wpAny_field hos hds (x:=vu) rfl (wpAny_bind (wpAny_field hos hds (x:=.none) rfl (wpAny_pure ?_)))))))
 refine wpAny_bind (slicePart_none ?_)
 show wpAny _ _ (if ((1:Int)==0)=true then _ else _) _ _ s
 rw[if_neg (by decide)]
 refine wpAny_bind (jc pl (wpAny_bind (jc pu (wpAny_bind (wpAny_pure ?_)))))
 show wpAny _ _ (match Builtin.Slice.sliceAdjust lo hi 1 (n:Int) with | (lo,hi)=>pure (lo,(1:Int),Builtin.Slice.slicePlaces lo hi 1)) _ _ s
 rw[n9 lo hi n]
 show wpAny _ _ (pure (((sIx n 0 lo:Nat):Int),(1:Int),Builtin.Slice.slicePlaces ((sIx n 0 lo:Nat):Int) ((sIx n n hi:Nat):Int) 1)) _ _ s
 rw[oa]
 exact wpAny_pure h
theorem sJ (xs:Array Value)(i k:Nat):((List.range k).filterMap fun (m:Nat)=>xs[((i:Int)+(m:Int)*1).toNat]?).toArray=((xs.toList.drop i).take k).toArray:=by
 have e:(fun (m:Nat)=>xs[((i:Int)+(m:Int)*1).toNat]?)=fun m=>xs[i+m]?:=by
  funext m
  have:((i:Int)+(m:Int)*1).toNat=i+m:=by omega
  rw[this]
 rw[e]
 have:=pick_run xs i k
 rw[List.filterMap_map]at this
 have e2:((fun x=>xs[x]?)∘fun x=>i+x)=fun m=>xs[i+m]?:=rfl
 rw[e2]at this
 rw[this]
theorem fO {t sl:Addr}{items:Array Value}{vl vu:Value}{lo hi:Option Int}{Q:Value→Shared→Prop}(ht:IsTup s.heap t items)(hs:s.heap.IsSliceOf sl vl vu .none)(pl:IsPart vl lo)(pu:IsPart vu hi)
  (hw:¬ (sIx items.size 0 lo=0∧sIx items.size items.size hi=items.size))
  (h:Q (.ref s.heap.objs.size) { s with heap:=s.heap.push { cls:=.type "tuple",data:=.seq ((items.toList.drop (sIx items.size 0 lo)).take (sIx items.size items.size hi - sIx items.size 0 lo)).toArray } })
  (hsz:items.size≤sizeLine):wpAny (model prog w) A (getItem (.ref t) (.ref sl)) Q E s:=by
 have htake:sizeOk (.seq ((items.toList.drop (sIx items.size 0 lo)).take (sIx items.size items.size hi - sIx items.size 0 lo)).toArray):=by
  show ((items.toList.drop (sIx items.size 0 lo)).take (sIx items.size items.size hi - sIx items.size 0 lo)).toArray.size≤sizeLine
  rw[List.size_toArray,List.length_take,List.length_drop,Array.length_toList]
  omega
 have hj:sIx items.size items.size hi≤items.size:=xg _ _ (Nat.le_refl _) hi
 obtain⟨os,hos,hcs,hds⟩:=id hs
 have hTs:s.TypeIs (.ref sl) "slice" := ⟨os,hos,hcs⟩
 unfold getItem
 try with_reducible refine wpAny_holding ?_
 first | refine wpAny_bind (wpAny_pure ?_) | skip
 refine wpAny_bind (wpAny_sequenceKey ht.typeIs (by decide) ?_)
 refine wpAny_bind (wpAny_callSpecial?_slot (name:=Str.ofString "__getitem__") ht.typeIs PyProof.Rows.slot_tuple_getitem
  (wpAny_call_entry PyProof.Rows.slot_tuple_getitem ht.typeIs entry_tuple_getitem ?_ (args_tuple_getitem _ _)))
 show wpAny _ _ (Builtin.Tuple.tupleItemsOf (.ref t) >>= _) _ _ s
 refine wpAny_bind (tupleItemsOf_ ht ?_)
 refine wpAny_bind (wpAny_typeOf hTs ?_)
 rw[if_pos (by decide)]
 refine wpAny_bind (dA hs pl pu ?_)
 have hno:¬ ((((sIx items.size 0 lo:Nat):Int)==0&&(1:Int)==1&&(sIx items.size items.size hi - sIx items.size 0 lo)==items.size)=true):=by
  intro q
  rw[Bool.and_eq_true,Bool.and_eq_true]at q
  have q1:((sIx items.size 0 lo:Nat):Int)=0:=eq_of_beq q.1.1
  have q2:sIx items.size items.size hi - sIx items.size 0 lo=items.size:=eq_of_beq q.2
  exact hw ⟨by omega,by omega⟩
 show wpAny _ _ (if (((sIx items.size 0 lo:Nat):Int)==0&&(1:Int)==1&&(sIx items.size items.size hi - sIx items.size 0 lo)==items.size)=true then _ else _) _ _ s
 rw[if_neg hno,sJ]
 first
  | exact wpAny_bind (m:=Builtin.Tuple.tupleExact _) (wpAny_newObj_type (wpAny_pure ⟨_,rfl,wpAny_pure h⟩) htake)
  | exact wpAny_bind (m:=Builtin.Tuple.tupleExact _) (wpAny_newObj_type (wpAny_bind (wpAny_pure (wpAny_pure ⟨_,rfl,wpAny_pure h⟩))) htake)
  | exact wpAny_bind (wpAny_bind (m:=Builtin.Tuple.tupleExact _) (wpAny_newObj_type (wpAny_pure (wpAny_pure ⟨_,rfl,wpAny_pure h⟩)) htake))
  | exact wpAny_bind (wpAny_bind (m:=Builtin.Tuple.tupleExact _) (wpAny_newObj_type (wpAny_pure ⟨_,rfl,wpAny_pure h⟩) htake))
end
end HT
namespace L2
open PySem PySem.Spec PyProof.Rows
abbrev TO:=St→Hp→(Option Int→Hp→Prop)→Prop
def PO (X:Cx)(e:Option Expr)(t:TO):Prop :=
 ∀ (pins:List (Addr×Obj)) (s:Shared) (σ:St) (H:Hp) (Q:Option Int→Hp→Prop),Inv X pins σ H s→t σ H Q →
  wpAny (model X.prog X.w) X.A (evalPart e X.env) (fun u s'=>∃ o H',Inv X pins σ H' s'∧IsPart u o∧Q o H') X.xe s
def tNoPart:TO:=fun _ H Q=>Q none H
def tPart (t:TE):TO:=fun σ H Q=>t σ H fun x H1=>∃ i,x=.int i∧Q (some i) H1
section
variable {X:Cx}{e:Expr}{te:TE}{lo hi:Option Expr}{tl th:TO}{pos p2:Pos}
theorem u6:PO X none tNoPart:=by
 intro pins s σ H Q I h
 rw[evalPart_none]
 exact wpAny_pure ⟨none,H,I,.none,h⟩
theorem u7 (h:PE X e te):PO X (some e) (tPart te):=by
 intro pins s σ H Q I hw
 rw[evalPart_some]
 refine thn (h pins s σ H _ I hw) fun u s1 ⟨x,H1,I1,r1,q1⟩=>?_
 obtain⟨i,rfl,q⟩:=q1
 obtain⟨t,rfl⟩:=r1
 exact⟨some i,H1,I1,.int i t,q⟩
def SlR (X:Cx)(r:V→Option Int→Option Int→Hp→VK→Prop):Prop :=
 ∀ (pins:List (Addr×Obj)) (s:Shared) (σ:St) (H:Hp) (x:V) (v vl vu:Value) (lo hi:Option Int) (sl:Addr) (Q:VK),Inv X pins σ H s→RelV x v→s.heap.IsSliceOf sl vl vu .none→IsPart vl lo→IsPart vu hi→r x lo hi H Q →
  ∃ T id,typeLookup (.type T) "__getitem__"=pure (some (.builtin id))∧s.TypeIs v T∧wpAny (model X.prog X.w) X.A (getItem v (.ref sl)) (EP X pins σ Q) X.xe s
theorem SlR.or {r r':V→Option Int→Option Int→Hp→VK→Prop}(h:SlR X r)(h':SlR X r'):SlR X (fun x lo hi H Q=>r x lo hi H Q∨r' x lo hi H Q):=by
 intro pins s σ H x v vl vu lo hi sl Q I rx hs pl pu q
 rcases q with q | q
 ·exact h pins s σ H x v vl vu lo hi sl Q I rx hs pl pu q
 ·exact h' pins s σ H x v vl vu lo hi sl Q I rx hs pl pu q
def tSl (r:V→Option Int→Option Int→Hp→VK→Prop)(te:TE)(tl th:TO):TE:=fun σ H Q=>te σ H fun x H1=>tl σ H1 fun l H2=>th σ H2 fun u H3=>r x l u H3 Q
theorem sK {r:V→Option Int→Option Int→Hp→VK→Prop}(hr:SlR X r)(he:PE X e te)(hl:PO X lo tl)(hu:PO X hi th):PE X (.Subscript e (.Slice lo hi none p2) pos) (tSl r te tl th):=by
 intro pins s σ H Q I h
 refine Subscript_ (thn (he pins s σ H _ I h) fun v s1 ⟨x,H1,I1,r1,q1⟩=>?_)
 refine wpAny_Slice (thn (hl pins s1 σ H1 _ I1 q1) fun vl s2 ⟨l,H2,I2,pl,q2⟩=>thn (hu pins s2 σ H2 _ I2 q2) fun vu s3 ⟨u,H3,I3,pu,q3⟩=>?_)
 rw[evalPart_none]
 refine wpAny_pure ?_
 have I4:Inv X pins σ H3 { s3 with heap:=s3.heap.push { cls:=.type "slice",data:=.fields #[vl,vu,.none] } }:=I3.kept (t':=s3.toks) fun b ob q=>Heap.get?_push_of_some _ q
 obtain⟨T,id,hT,ht,hg⟩:=hr pins { s3 with heap:=s3.heap.push { cls:=.type "slice",data:=.fields #[vl,vu,.none] } } σ H3 x v vl vu l u s3.heap.objs.size Q I4 r1 (Heap.IsSliceOf.new ..) pl pu q3
 show wpAny (model X.prog X.w) X.A (subscriptTail e (.Slice lo hi none p2) v (.ref s3.heap.objs.size)) (EP X pins σ Q) X.xe { s3 with heap:=s3.heap.push { cls:=.type "slice",data:=.fields #[vl,vu,.none] } }
 exact tail_any (ops:=[.ref s3.heap.objs.size,v]) ht hT hg (by with_unfolding_all rfl)
def cutV (xs:List V)(lo hi:Option Int):List V:=(xs.drop (HT.sIx xs.length 0 lo)).take (HT.sIx xs.length xs.length hi - HT.sIx xs.length 0 lo)
theorem iz (xs:List V)(lo hi:Option Int):(cutV xs lo hi).length≤xs.length:=by
 unfold cutV
 rw[List.length_take,List.length_drop]
 omega
def rSlT (K:PySem.W.Frag):V→Option Int→Option Int→Hp→VK→Prop:=fun x lo hi H Q=>∃ a xs,x=.ref a∧SqT K H a xs ∧
 ¬ (HT.sIx xs.length 0 lo=0∧HT.sIx xs.length xs.length hi=xs.length)∧∀ p,H p=none→Q (.ref p) (upd H p (.tup (cutV xs lo hi)))
theorem xh:SlR X (rSlT X.K):=by
 intro pins s σ H x v vl vu lo hi sl Q I rx hs pl pu h
 obtain⟨a,xs,rfl,hx,hw,q⟩:=h
 cases rx
 obtain⟨its,r,ht,hz⟩:=I.tuple hx
 have hlen:its.toArray.size=xs.length:=by rw[List.size_toArray];exact r.length.symm
 refine⟨"tuple",_,PyProof.Rows.slot_tuple_getitem.lookup,ht.typeIs,?_⟩
 refine HT.fO ht hs pl pu (by rw[hlen];exact hw) ?_ (by rw[hlen];exact hz)
 rw[hlen]
 refine⟨.ref s.heap.objs.size,_,I.laid (t':=s.toks) (o:=.tup (cutV xs lo hi)) (fun b ob q=>Heap.get?_push_of_some _ q) (Nat.le_refl _) ?_,rfl,q _ (I.hok.fresh (Nat.le_refl _))⟩
 exact⟨Nat.le_trans (iz xs lo hi) hz,_,(r.drop (HT.sIx xs.length 0 lo)).take (HT.sIx xs.length xs.length hi - HT.sIx xs.length 0 lo),TupO.new _ _⟩
def rCatT (K:PySem.W.Frag):R2:=fun x y H Q=>∃ a b xs ys,x=.ref a∧y=.ref b∧SqT K H a xs∧SqT K H b ys∧xs≠[]∧xs.length+ys.length≤sizeLine ∧
 (ys=[]→Q (.ref a) H)∧(ys≠[]→∀ p,H p=none→Q (.ref p) (upd H p (.tup (xs++ys))))
theorem Vals.nil_iff {xs:List V}{us:List Value}(r:Vals xs us):us=[]↔xs=[]:=by
 cases r with
 | nil=>simp
 | cons _ _=>simp
theorem u8:OpR X (binaryOp .Add) (rCatT X.K):=by
 intro pins s σ H x y v u Q I rx ry h
 obtain⟨a,b,xs,ys,rfl,rfl,ha,hb,hx,hz,q1,q2⟩:=h
 cases rx
 cases ry
 obtain⟨its,r1,p1,_⟩:=I.tuple ha
 obtain⟨its2,r2,p2,_⟩:=I.tuple hb
 refine HT.u5 p1 p2 (fun z=>hx (r1.nil_iff.mp z)) (fun z=>⟨.ref a,H,I,rfl,q1 (r2.nil_iff.mp z)⟩) (fun z=>?_) (by rw[← r1.length,← r2.length];exact hz)
 refine⟨.ref s.heap.objs.size,_,I.laid (t':=s.toks) (o:=.tup (xs++ys)) (fun b ob q=>Heap.get?_push_of_some _ q) (Nat.le_refl _) ?_,rfl,q2 (fun w=>z (r2.nil_iff.mpr w)) _ (I.hok.fresh (Nat.le_refl _))⟩
 exact⟨by rw[List.length_append];exact hz,_,r1.append r2,TupO.new _ _⟩
end
end L2
namespace L2
open PySem PySem.Spec PyProof.Rows
def ixN (n:Nat)(i:Int):Option Nat:=if 0≤i then (if i < n then some i.toNat else none) else if -(n:Int)≤i then some (i+n).toNat else none
def atI {α:Type}(xs:List α)(i:Int):Option α:=(ixN xs.length i).bind fun j=>xs[j]?
theorem u9 {n:Nat}{i:Int}{j:Nat}(h:ixN n i=some j):seqIndex? i n=some j∧j < n∧-(n:Int)≤i∧i < n:=by
 unfold ixN at h
 by_cases h0:0≤i
 ·rw[if_pos h0]at h
  by_cases h1:i < n
  ·rw[if_pos h1]at h
   have e:i.toNat=j:=Option.some.inj h
   exact⟨by rw[seqIndex_of h0 h1,e],by omega,by omega,h1⟩
  ·rw[if_neg h1]at h;cases h
 ·rw[if_neg h0]at h
  by_cases h1 : -(n:Int)≤i
  ·rw[if_pos h1]at h
   have e:(i+n).toNat=j:=Option.some.inj h
   exact⟨by rw[seqIndex_neg (by omega) h1,e],by omega,h1,by omega⟩
  ·rw[if_neg h1]at h;cases h
theorem lj {α:Type}{xs:List α}{i:Int}{v:α}(h:atI xs i=some v):∃ j,seqIndex? i xs.length=some j∧xs[j]?=some v∧j < xs.length∧-(xs.length:Int)≤i∧i < xs.length:=by
 unfold atI at h
 cases e:ixN xs.length i with
 | none=>rw[e]at h;cases h
 | some j =>
  rw[e]at h
  obtain⟨h1,h2,h3,h4⟩:=u9 e
  exact⟨j,h1,h,h2,h3,h4⟩
theorem ll {α:Type}{xs:List α}{j:Nat}{v:α}(h:xs[j]?=some v):atI xs (j:Int)=some v:=by
 have hj:j < xs.length:=(List.getElem?_eq_some_iff.mp h).1
 have e:ixN xs.length (j:Int)=some j:=by
  unfold ixN
  rw[if_pos (by omega),if_pos (by omega)];simp
 unfold atI;rw[e];exact h
def PlainIx (b:Expr):Prop:=∀ o i,subscripted b false o i=operate [o,i] (getItem o i)
def IxR (X:Cx)(r:R2):Prop :=
 ∀ (value slice:Expr) (pins:List (Addr×Obj)) (s:Shared) (σ:St) (H:Hp) (x y:V) (v u:Value) (Q:VK),Inv X pins σ H s→RelV x v→RelV y u→r x y H Q →
  subscripted slice false v u=operate [v,u] (getItem v u)→wpAny (model X.prog X.w) X.A (subscriptTail value slice v u) (EP X pins σ Q) X.xe s
def MtR (X:Cx)(id:String)(r:V→List V→Hp→VK→Prop):Prop :=
 ∀ (pins:List (Addr×Obj)) (s:Shared) (σ:St) (H:Hp) (x:V) (xs:List V) (v:Value) (us:List Value) (Q:VK),Inv X pins σ H s→RelV x v→Vals xs us→r x xs H Q →
  wpAny (model X.prog X.w) X.A (call (.builtin id) (v::us)) (EP X pins σ Q) X.xe s
section
variable {X:Cx}{a b:Expr}{ta tb:TE}{pos:Pos}
theorem IxR.or {r r':R2}(h:IxR X r)(h':IxR X r'):IxR X (fun x y H Q=>r x y H Q∨r' x y H Q):=by
 intro value slice pins s σ H x y v u Q I rx ry q hs
 rcases q with q | q
 ·exact h value slice pins s σ H x y v u Q I rx ry q hs
 ·exact h' value slice pins s σ H x y v u Q I rx ry q hs
theorem wy {r:R2}(hr:IxR X r)(ha:PE X a ta)(hb:PE X b tb)(hs:PlainIx b):PE X (.Subscript a b pos) (tOp r ta tb):=by
 intro pins s σ H Q I h
 exact Subscript_ (binT ha hb I h fun v u s2 x y H2 I2 rx ry q=>hr a b pins s2 σ H2 x y v u Q I2 rx ry q (hs _ _))
def rIxL (K:PySem.W.Frag):R2:=fun x y H Q=>∃ p xs i v,x=.ref p∧y=.int i∧SqL K H p xs∧atI xs i=some v∧Q v H
def rIxT (K:PySem.W.Frag):R2:=fun x y H Q=>∃ p xs i v,x=.ref p∧y=.int i∧SqT K H p xs∧atI xs i=some v∧Q v H
def rIxS:R2:=fun x y H Q=>∃ z i c,x=.str z∧y=.int i∧z.length≤sizeLine∧atI z.cps.toList i=some c∧Q (.str ⟨#[c]⟩) H
theorem pj:IxR X (rIxL X.K):=by
 intro value slice pins s σ H x y v u Q I rx ry h hs
 obtain⟨p,xs,i,z,rfl,rfl,hq,he,q⟩:=h
 cases rx
 obtain⟨t,rfl⟩:=ry
 obtain⟨its,r,pl,hz⟩:=I.list hq
 obtain⟨j,h1,h2,h3,h4,h5⟩:=lj he
 obtain⟨w,ew,rw'⟩:=r.get h2
 have hl:=r.length
 have hn:=line63
 have fin:EP X pins σ Q w s:=⟨z,H,I,rw',q⟩
 by_cases h0:0≤i
 ·have hj:i.toNat=j:=by
   rw[seqIndex_of h0 h5]at h1
   exact Option.some.inj h1
  exact item_listR pl.isList h0 (by omega) (by rw[hj];simpa using ew) fin hs
 ·have hj:(i+(its.toArray.size:Int)).toNat=j:=by
   rw[seqIndex_neg (by omega) h4]at h1
   rw[List.size_toArray,← hl]
   exact Option.some.inj h1
  exact subscriptTail_builtinR (x:=w) pl.isList.typeIs slot_list_getitem.lookup
   (wpAny_getItem_list_neg (Q:=fun r s'=>r=w∧EP X pins σ Q r s') pl.isList (by omega) (by rw[List.size_toArray]<;>omega) (by omega) (by rw[hj];simpa using ew) ⟨rfl,fin⟩) hs
theorem xi:IxR X (rIxT X.K):=by
 intro value slice pins s σ H x y v u Q I rx ry h hs
 obtain⟨p,xs,i,z,rfl,rfl,hq,he,q⟩:=h
 cases rx
 obtain⟨t,rfl⟩:=ry
 obtain⟨its,r,pl,hz⟩:=I.tuple hq
 obtain⟨j,h1,h2,h3,h4,h5⟩:=lj he
 obtain⟨w,ew,rw'⟩:=r.get h2
 have hl:=r.length
 have hn:=line63
 have fin:EP X pins σ Q w s:=⟨z,H,I,rw',q⟩
 exact subscriptTail_builtinR (x:=w) pl.typeIs slot_tuple_getitem.lookup
  (getItem_tuple (j:=j) (Q:=fun r s'=>r=w∧EP X pins σ Q r s') pl (by omega) (by omega) (by rw[List.size_toArray,← hl];exact h1) (by simpa using ew) ⟨rfl,fin⟩) hs
theorem xj:IxR X rIxS:=by
 intro value slice pins s σ H x y v u Q I rx ry h hs
 obtain⟨z,i,c,rfl,rfl,hz,he,q⟩:=h
 obtain⟨t,rfl⟩:=rx
 obtain⟨t',rfl⟩:=ry
 obtain⟨j,h1,h2,h3,h4,h5⟩:=lj he
 have hl:z.cps.toList.length=z.length:=by simp[Str.length]
 rw[hl]at h1 h4 h5
 have hn:=line63
 exact tail_any (typeIs_str s z t) slot_str_getitem.lookup (getItem_str (c:=c) (by
  have e1:decide (i < -(2^63:Int))=false:=decide_eq_false (by omega)
  have e2:decide (i≥2^63)=false:=decide_eq_false (by omega)
  rw[e1,e2,Bool.or_false]) (by rw[h1];simpa using h2) ⟨.str ⟨#[c]⟩,H,I.tok _,⟨_,rfl⟩,q⟩) hs
def rIx (K:PySem.W.Frag):R2:=fun x y H Q=>rIxL K x y H Q∨rIxT K x y H Q∨rIxS x y H Q
theorem xk:IxR X (rIx X.K):=pj.or (xi.or xj)
theorem lq (lo hi:Option Int)(n:Nat):(sliceBounds lo hi none n).1=((HT.sIx n 0 lo:Nat):Int)∧(sliceBounds lo hi none n).2.1=((HT.sIx n n hi:Nat):Int)∧(sliceBounds lo hi none n).2.2=1:=by
 refine⟨?_,?_,rfl⟩
 ·cases lo with
  | none=>simp[sliceBounds,HT.sIx]
  | some i =>
   simp only[sliceBounds,HT.sIx,Option.getD_none,show (1:Int) > 0 by decide,if_true]
   by_cases h:i < 0
   ·simp only[h,if_true]<;>omega
   ·simp only[h,if_false]<;>omega
 ·cases hi with
  | none=>simp[sliceBounds,HT.sIx]
  | some i =>
   simp only[sliceBounds,HT.sIx,Option.getD_none,show (1:Int) > 0 by decide,if_true]
   by_cases h:i < 0
   ·simp only[h,if_true]<;>omega
   ·simp only[h,if_false]<;>omega
theorem j7 (its:List Value)(lo hi:Option Int):slicePick its.toArray lo hi none=((its.drop (HT.sIx its.length 0 lo)).take (HT.sIx its.length its.length hi - HT.sIx its.length 0 lo)).toArray:=by
 obtain⟨h1,h2,h3⟩:=lq lo hi its.toArray.size
 unfold slicePick
 rw[h1,h2,h3]
 simp only[sliceRange_one,pick_run,List.size_toArray]<;>rfl
def rSlL (K:PySem.W.Frag):V→Option Int→Option Int→Hp→VK→Prop:=fun x lo hi H Q=>∃ a xs,x=.ref a∧SqL K H a xs∧∀ p,H p=none→Q (.ref p) (upd H p (.lst (cutV xs lo hi)))
theorem va:SlR X (rSlL X.K):=by
 intro pins s σ H x v vl vu lo hi sl Q I rx hs pl pu h
 obtain⟨a,xs,rfl,hx,q⟩:=h
 cases rx
 obtain⟨its,r,ht,hz⟩:=I.list hx
 have hlen:=r.length
 refine⟨"list",_,slot_list_getitem.lookup,ht.isList.typeIs,?_⟩
 refine wpAny_getItem_list_slice ht.isList hs pl pu .none (by simp) ?_ (by rw[List.size_toArray]<;>omega)
 rw[j7,← hlen]
 refine⟨.ref s.heap.objs.size,_,I.laid (t':=s.toks) (o:=.lst (cutV xs lo hi)) (fun b ob q=>Heap.get?_push_of_some _ q) (Nat.le_refl _) ?_,rfl,q _ (I.hok.fresh (Nat.le_refl _))⟩
 exact⟨Nat.le_trans (iz xs lo hi) hz,_,0,(r.drop (HT.sIx xs.length 0 lo)).take (HT.sIx xs.length xs.length hi - HT.sIx xs.length 0 lo),Heap.get?_push_size _ rfl⟩
def flatV:V→Bool
 | .non=>true
 | .bl _=>true
 | .int _=>true
 | .str _=>true
 | _=>false
def eqV:V→V→Bool
 | .non,.non=>true
 | .bl a,.bl b=>a==b
 | .bl a,.int b=>(if a then 1 else 0)==b
 | .int a,.bl b=>a==(if b then 1 else 0)
 | .int a,.int b=>a==b
 | .str a,.str b=>a==b
 | _,_=>false
theorem sL {A:Around}{s:Shared}{y x:V}{u v:Value}(ry:RelV y u)(rx:RelV x v)(fy:flatV y=true)(fx:flatV x=true):SeqAt.EqAt A s u v (eqV y x):=by
 cases y with
 | non =>
  cases ry
  cases x with
  | non=>cases rx;exact SeqAt.EqAt.same _
  | bl b=>cases rx;exact SeqAt.EqAt.none_bool b
  | int b=>obtain⟨t,rfl⟩:=rx;exact SeqAt.EqAt.none_int b t
  | str b=>obtain⟨t,rfl⟩:=rx;exact SeqAt.EqAt.none_str b t
  | _=>exact absurd (show false=true from fx) Bool.false_ne_true
 | bl a =>
  cases ry
  cases x with
  | non=>cases rx;exact SeqAt.EqAt.bool_none a
  | bl b=>cases rx;exact SeqAt.EqAt.bool_bool a b
  | int b=>obtain⟨t,rfl⟩:=rx;exact SeqAt.EqAt.bool_int a b t
  | str b=>obtain⟨t,rfl⟩:=rx;exact SeqAt.EqAt.bool_str a b t
  | _=>exact absurd (show false=true from fx) Bool.false_ne_true
 | int a =>
  obtain⟨t',rfl⟩:=ry
  cases x with
  | non=>cases rx;exact SeqAt.EqAt.int_none a t'
  | bl b=>cases rx;exact SeqAt.EqAt.int_bool a t' b
  | int b=>obtain⟨t,rfl⟩:=rx;exact SeqAt.EqAt.int_int a t' b t
  | str b=>obtain⟨t,rfl⟩:=rx;exact SeqAt.EqAt.int_str a t' b t
  | _=>exact absurd (show false=true from fx) Bool.false_ne_true
 | str a =>
  obtain⟨t',rfl⟩:=ry
  cases x with
  | non=>cases rx;exact SeqAt.EqAt.str_none a t'
  | bl b=>cases rx;exact SeqAt.EqAt.str_bool a t' b
  | int b=>obtain⟨t,rfl⟩:=rx;exact SeqAt.EqAt.str_int a t' b t
  | str b=>obtain⟨t,rfl⟩:=rx;exact SeqAt.EqAt.str_str a t' b t
  | _=>exact absurd (show false=true from fx) Bool.false_ne_true
 | _=>exact absurd (show false=true from fy) Bool.false_ne_true
theorem fP:CallR X (.builtin "len") (fun xs H Q=>∃ p ys,xs=[.ref p]∧(SqL X.K H p ys∨SqT X.K H p ys)∧Q (.int ys.length) H):=by
 intro pins s σ H xs us Q I r h
 obtain⟨p,ys,rfl,hq,q⟩:=h
 obtain⟨u,rfl,rx⟩:=vals1 r
 cases rx
 have hn:=line63
 rcases hq with hq | hq
 ·obtain⟨its,r',pl,hz⟩:=I.list hq
  have hlen:=r'.length
  exact Calls.call_len_list pl.isList (by simp only[List.size_toArray]<;>omega) ⟨.int ys.length,H,I.tok _,⟨s.toks+1,by rw[List.size_toArray,hlen]⟩,q⟩
 ·obtain⟨its,r',pl,hz⟩:=I.tuple hq
  have hlen:=r'.length
  exact len_tuple pl (by simp only[List.size_toArray]<;>omega) ⟨.int ys.length,H,I.tok _,⟨s.toks+1,by rw[List.size_toArray,hlen]⟩,q⟩
theorem j8:CallR X (.type "tuple") (fun xs H Q=>∃ p ys,xs=[.ref p]∧((SqL X.K H p ys∧∀ l,H l=none→Q (.ref l) (upd H l (.tup ys)))∨(SqT X.K H p ys∧Q (.ref p) H))):=by
 intro pins s σ H xs us Q I r h
 obtain⟨p,ys,rfl,h⟩:=h
 obtain⟨u,rfl,rx⟩:=vals1 r
 cases rx
 rcases h with ⟨hq,q⟩ | ⟨hq,q⟩
 ·obtain⟨its,r',pl,hz⟩:=I.list hq
  have hlen:=r'.length
  refine call_tuple_list pl.isList (fun h' kp=>?_) (by simp only[List.size_toArray]<;>omega)
  have I1:Inv X pins σ H { s with heap:=h' }:=I.kept (t':=s.toks) kp
  have I2:Inv X pins σ (upd H h'.objs.size (.tup ys)) { s with heap:=h'.push { cls:=.type "tuple",data:=.seq its.toArray } } :=
   I1.laid (t':=s.toks) (fun b o e=>Heap.get?_push_of_some _ e) (Nat.le_refl _) (show ObjOk X.prog X.w _ _ _ (.tup ys) from ⟨hz,its,r',TupO.new _ _⟩)
  exact⟨.ref h'.objs.size,_,I2,rfl,q _ (I1.hok.fresh (Nat.le_refl _))⟩
 ·obtain⟨its,r',pl,hz⟩:=I.tuple hq
  exact call_tuple_same pl ⟨.ref p,H,I,rfl,q⟩
def tyV (K:PySem.W.Frag)(T:String)(x:V)(H:Hp):Prop:=match x with
 | .str _=>T="str"
 | .int _=>T="int"
 | .ref p=>(T="list" ∧ ∃ xs,SqL K H p xs)∨(T="tuple" ∧ ∃ o,K.lookup p=some o∧o.cls=.type "tuple" ∧ o.dict=none) ∨
   (T="dict" ∧ ((∃ kvs,H p=some (.dK kvs))∨∃ kvs,H p=some (.dT kvs)))∨(T="set" ∧ ∃ S n,H p=some (.set S n))
 | _=>False
theorem xl {pins:List (Addr×Obj)}{σ:St}{H:Hp}{s:Shared}{T:String}{x:V}{v:Value}(I:Inv X pins σ H s)(r:RelV x v)(ty:tyV X.K T x H) :
  s.TypeIs v T∧∀ a,v=.ref a→∃ ob,s.heap.get? a=some ob∧ob.dict=none:=by
 cases x with
 | str z =>
  obtain⟨t,rfl⟩:=r
  cases (show T="str" from ty)
  exact⟨typeIs_str s z t,fun _ e=>nomatch e⟩
 | int i =>
  obtain⟨t,rfl⟩:=r
  cases (show T="int" from ty)
  exact⟨typeIs_int s i t,fun _ e=>nomatch e⟩
 | ref p =>
  cases r
  rcases ty with ⟨rfl,xs,hq⟩ | ⟨rfl,o,hk,hc,hd⟩ | ⟨rfl,hk⟩ | ⟨rfl,S,n,hk⟩
  ·obtain⟨its,_,pl,_⟩:=I.list hq
   refine⟨pl.isList.typeIs,fun a e=>?_⟩
   cases e
   obtain⟨o,n,e,c,hd,_⟩:=pl
   exact⟨o,e,hd⟩
  ·refine⟨⟨o,I.kIn p o hk,hc⟩,fun a e=>?_⟩
   cases e
   exact⟨o,I.kIn _ o hk,hd⟩
  ·have z:∃ o,s.heap.get? p=some o∧o.ExactDict:=by
    rcases hk with ⟨kvs,hk⟩ | ⟨kvs,hk⟩
    ·obtain⟨_,_,_,_,o,_,_,e,ex,_⟩:=I.hok p _ hk
     exact⟨o,e,ex⟩
    ·obtain⟨_,_,_,_,o,_,_,e,ex,_⟩:=I.hok p _ hk
     exact⟨o,e,ex⟩
   obtain⟨o,e,ex⟩:=z
   refine⟨⟨o,e,ex.1⟩,fun a e2=>?_⟩
   cases e2
   exact⟨o,e,ex.2.1⟩
  ·obtain⟨o,_,_,_,e,ex,_⟩:=I.hok p _ hk
   refine⟨⟨o,e,ex.1⟩,fun a e2=>?_⟩
   cases e2
   exact⟨o,e,ex.2.1⟩
 | _=>exact False.elim ty
def tBM (K:PySem.W.Frag)(T:String)(r:V→List V→Hp→VK→Prop)(to:TE)(t:TA):TE:=fun σ H Q=>to σ H fun x H1=>tyV K T x H1∧t σ H1 fun xs H2=>r x xs H2 Q
variable {o e:Expr}{es:List Expr}{to:TE}{t:TA}{name:Str}{apos cpos:Pos}{T id:String}{r:V→List V→Hp→VK→Prop}
theorem jd (pa:PlainAttrs T)(slot:Slot T name id)(hty:typeOf (.builtin id)=pure (.type "method_descriptor"))(hm:MtR X id r)(ho:PE X o to)(ha:PA X (e::es) t)
  (hbase:attributeBase o name X.env (eval o X.env)=eval o X.env:=by rfl)
  (hfew:((backTo cpos (starEach (e::es) X.env)).all (fun x=>!x.1)&&(backToKw cpos (keywordEach [] X.env)).all (fun x=>x.1.isSome)
   && decide ((e::es).length+([]:List Keyword).length+(if ([]:List Keyword).isEmpty then 0 else 1) < 30))=true:=by rfl)
  (hline:(apos.endLine==cpos.line)=true:=by rfl) (hs:starEach (e::es) X.env=(false,eval e X.env)::starEach es X.env:=by rfl) (hplain:(backTo cpos (starEach es X.env)).any (·.1)=false:=by rfl) :
  PE X (.Call (.Attribute o name apos) (e::es) [] cpos) (tBM X.K T r to t):=by
 intro pins s σ H Q I h
 refine wpAny_Call_method_late hbase hfew hline rfl (thn (ho pins s σ H _ I h) fun v s1 ⟨x,H1,I1,r1,ty,q1⟩=>?_)
 obtain⟨h1,h2⟩:=xl I1 r1 ty
 refine⟨T,id,pa,slot,hty,h1,h2,?_⟩
 have hA:=ha cpos pins s1 σ H1 _ I1 q1
 rw[hs]at hA ⊢
 refine Calls.callWith_builtin (by show (false||(backTo cpos (starEach es X.env)).any (·.1))=false;rw[hplain]<;>rfl) (Calls.evalArgs_plain ?_)
 exact thn hA fun us s2 ⟨vs,H2,I2,r2,q2⟩=>hm pins s2 σ H2 x vs v us Q I2 r1 r2 q2
end
end L2
namespace L2
open PySem PySem.Spec PyProof.Rows
def MtM (X:Cx)(id:String)(r:V→List V→Hp→VK→Prop):Prop :=
 ∀ (pins:List (Addr×Obj)) (s:Shared) (σ:St) (H:Hp) (x:V) (xs:List V) (v:Value) (us:List Value) (Q:VK),Inv X pins σ H s→RelV x v→Vals xs us→r x xs H Q →
  wpAny (model X.prog X.w) X.A (call (.builtin id) (v::us)) (EP X pins σ Q) X.xe s
theorem Vals.one:∀ {x:V} {us:List Value},Vals [x] us→∃ u,us=[u]∧RelV x u
 | _,_,.cons r .nil=>⟨_,rfl,r⟩
theorem Vals.rep {xs:List V}{us:List Value}(h:Vals xs us):∀ k:Nat,Vals (List.replicate k xs).flatten (List.replicate k us).flatten
 | 0=>.nil
 | k+1=>by
  rw[List.replicate_succ,List.replicate_succ,List.flatten_cons,List.flatten_cons]
  exact Vals.append h (Vals.rep h k)
theorem gW (its:List Value):∀ (k:Nat) (acc:List Value),
  List.foldl (fun x1 x2=>x1++x2) acc.toArray (List.replicate k its.toArray)=(acc++(List.replicate k its).flatten).toArray
 | 0,acc=>by simp
 | k+1,acc=>by
  have e:acc.toArray++its.toArray=(acc++its).toArray:=by simp
  have e2:(acc++its)++(List.replicate k its).flatten=acc++(List.replicate (k+1) its).flatten:=by
   rw[List.replicate_succ,List.flatten_cons,List.append_assoc]
  rw[← e2,← gW its k (acc++its),← e,List.replicate_succ,List.foldl_cons]
section
variable {X:Cx}{pins:List (Addr×Obj)}{σ:St}{H:Hp}{s:Shared}{l b:Addr}{xs ys zs:List V}
theorem Inv.lset {its its':List Value}{n:Nat}{f:Array Value→Array Value}{t':Nat}(I:Inv X pins σ H s)(hH:H l=some (.lst xs))
  (e:s.heap.get? l=some { cls:=.type "list",data:=.seq its.toArray n }) (hf:f its.toArray=its'.toArray) (hv:Vals ys its') (hz:ys.length≤sizeLine) :
  Inv X pins σ (upd H l (.lst ys)) { s with heap:=s.heap.update l (Obj.mapSeq f),toks:=t' }:=by
 have q:=PySem.IsL.update e f
 rw[hf]at q
 refine I.write (x:=l) (e:=l) (by rw[hH];exact trivial) (.inl rfl) (fun b' u hb hu=>(Heap.get?_update_other s.heap (Obj.mapSeq f) (Ne.symm hb)).trans hu) ⟨_,q⟩ ?_
 exact⟨hz,its',_,hv,q⟩
theorem Inv.lnew {its:List Value}{t':Nat}(I:Inv X pins σ H s)(hv:Vals ys its)(hz:ys.length≤sizeLine) :
  Inv X pins σ (upd H s.heap.objs.size (.lst ys)) { s with heap:=s.heap.push { cls:=.type "list",data:=.seq its.toArray },toks:=t' } :=
 I.laid (fun _ _ q=>Heap.get?_push_of_some _ q) (Nat.le_refl _) ⟨hz,its,0,hv,Heap.get?_push_size _ rfl⟩
theorem Inv.fresh (I:Inv X pins σ H s):H s.heap.objs.size=none:=I.hok.fresh (Nat.le_refl _)
theorem Inv.lstM (I:Inv X pins σ H s)(hH:H l=some (.lst xs)):xs.length≤sizeLine∧∃ (its:List Value) (n:Nat),Vals xs its∧xs.length=its.length∧s.heap.get? l=some { cls:=.type "list",data:=.seq its.toArray n }:=by
 obtain⟨z,its,n,r,e⟩:=I.hok l _ hH
 exact⟨z,its,n,r,r.length,e⟩
theorem notLongL {n:Nat}(h:n≤sizeLine):Builtin.List.listTooLong n=false:=by
 unfold Builtin.List.listTooLong
 exact decide_eq_false (by omega)
end
section
variable {X:Cx}
def rAppend:V→List V→Hp→VK→Prop:=fun x vs H Q=>∃ l xs y,x=.ref l∧vs=[y]∧H l=some (.lst xs)∧xs.length < sizeLine∧Q .non (upd H l (.lst (xs++[y])))
theorem kE:MtM X "list.append" rAppend:=by
 intro pins s σ H x vs v us Q I rx rv h
 obtain⟨l,xs,y,rfl,rfl,hH,hz,q⟩:=h
 cases rx
 obtain⟨u,rfl,ru⟩:=rv.one
 obtain⟨z,its,n,r,hl,e⟩:=I.lstM hH
 refine call_meets F.slot_list_append ⟨_,e,rfl⟩ F.entry_list_append (F.args_list_append_2 _ _) (PySem.list_append l its.toArray n u (by rw[List.size_toArray];omega)) ⟨e,?_⟩
 refine⟨.non,_,I.lset (its':=its++[u]) hH e (by simp) (r.append (.cons ru .nil)) ?_,rfl,q⟩
 rw[List.length_append,List.length_singleton]
 omega
theorem pp {α:Type}(xs:List α)(k:Nat):(List.replicate k xs).flatten.length=k*xs.length:=by
 induction k with
 | zero=>simp
 | succ k ih=>rw[List.replicate_succ,List.flatten_cons,List.length_append,ih,Nat.succ_mul,Nat.add_comm]
end
section
variable {prog:Program}{w:World}{A:Around}{E:Value→Shared→Prop}{s:Shared}
set_option maxRecDepth 100000 in
end
section
variable {X:Cx}
end
end L2
namespace Att
open PySem PySem.W PySem.Calls PyProof.Rows
theorem iK {P:Params}{h:Heap}:∀ (ns:List Int) (vs:List Value),WellAll P h vs (ns.map WData.int)→IntsAre vs ns:=by
 intro ns
 induction ns with
 | nil =>
  intro vs w
  rw[List.map_nil]at w
  cases w
  exact .nil
 | cons n ns ih =>
  intro vs w
  rw[List.map_cons]at w
  cases w with
  | cons a b =>
   cases a
   exact .cons _ _ (ih _ b)
theorem qA {l:OpenLaw}{n:Nat}(hn:l.most=some n){P:Params}{h:Heap}{args:List WData}{vals:List Value}
  (hpre:l.row.toRowW.claim.pre args=true) (hwl:WellAll P h vals args) :
  ∃ a vs ns,vals=[Value.ref a]∧args=[WData.list (ns.map WData.int)]∧h.get? a=some { cls:=.type "list",data:=.seq vs.toArray }∧IntsAre vs ns∧ns.length≤n:=by
 have hsh:WShape.hasAll [] args [.list .int]=true:=(pre_splitW hpre).1
 have hc:l.pre.holds [] { args:=args }=true:=(pre_splitW hpre).2
 obtain⟨d,r,rfl,h1,h2⟩:=hasAllW_cons hsh
 obtain rfl:=hasAllW_nil h2
 obtain⟨xs,rfl,h3⟩:=hasW_list h1
 obtain⟨ns,rfl⟩:=items_int h3
 have hlen:ns.length≤n:=by
  unfold OpenLaw.pre at hc
  have h4:(WTm.not (.lt (.lit (.int (n:Int))) (.len (.arg 0)))).holds [] { args:=[.list (ns.map .int)] }=true:=by
   have h4:=(holds_andW hc).1
   rw[hn]at h4
   exact h4
  have h5:=condW_of h4 (w_not (w_lt w_lit (w_len_list (w_arg rfl))))
  rw[List.length_map]at h5
  refine Nat.le_of_not_lt fun q=>?_
  have q':(n:Int) < ((ns.length:Nat):Int):=by omega
  first
   | (rw[decide_eq_true q']at h5;exact absurd h5 (by decide))
   | (simp at h5;omega)
 cases hwl with
 | cons w1 w2 =>
  cases w2
  cases w1 with
  | list ho hall=>exact⟨_,_,ns,rfl,rfl,ho,iK ns _ hall,hlen⟩
theorem qB (l:OpenLaw)(args:List WData):l.row.toRowW.claim.post args (.bool true) args=true :=
 postW_of (r:=l.row.toRowW) (X:=(true==true))
  (show WShape.has [] (.bool true) .bool=true by first | rfl | decide | simp[WShape.has,WShape.arms,WShape.armsAll])
  (show (WTm.eq .res (.lit (.bool true))).value [] { args:=args,res:=some (.bool true),after:=args }=some (.bool (true==true)) from w_eq_bool (w_res rfl) w_lit) rfl
theorem attach_call {l:OpenLaw}{n:Nat}{q:Program}{loose:List Str}{XP:(Str→Option Value)→Heap→Prop}{YP:World→Heap→Prop}{d:DefRec}
  (hn:l.most=some n) (hdf:d.params.defaults=[])
  (call:∀ (w:World) (s₀ s₁:Shared) (mg mb:Str→Option Value) (fa:Addr) (o:Obj) (pm cd doc:Value) (a:Addr) (vs:List Value) (ns:List Int),
   Ground q loose [] XP w s₀ mg mb s₁.heap→YP w s₁.heap →
   s₁.heap.get? fa=some o→o.data=.func (docDef d.name d.params d.body d.scope pm cd doc)→s₁.heap.CodeRec cd d.name→mg d.name=some (.ref fa) →
   s₁.heap.get? a=some { cls:=.type "list",data:=.seq vs.toArray }→IntsAre vs ns→ns.length≤n→s₁.gens = #[] →
   codeAny (model l.prog w) callerA (.call (.ref fa) ⟨[.ref a],[]⟩) (fun r s'=>r=.ok (.ret (.bool true))∧OldK s₁.heap s'.heap∧s'.os=s₁.os∧AllBare s'.gens) s₁) :
  WalkO q loose XP YP l.row.toRowW d [] (fun f vs=>PySem.call f vs):=by
 intro w s₀ s₁ mg mb G Y fa o pm cd doc dV kV ho hd hcd hD hmg hg args vals as hpre hlay hrd hwl hlo
 obtain rfl:dV=.none:=Dflts.none hD hdf
 obtain rfl:kV=.none:=Dflts.noKw hD
 obtain⟨a,vs,ns,rfl,rfl,hobj,hints,hlen⟩:=qA hn hpre hwl
 refine enter_call (codeAny_mono (call w s₀ s₁ mg mb fa o pm cd doc a vs ns G Y ho (fd_plain hd) hcd hmg hobj hints hlen hg) fun r s' hq=>?_)
 obtain⟨rfl,h2,h3,h4⟩:=hq
 exact⟨.inl ⟨.bool true,.bool true,[],rfl,fun _=>rfl,.bool true,qB l _,fun _=>⟨List.Pairwise.nil,fun _ hm=>(nomatch hm)⟩⟩,h2,h3,h4⟩
section
variable {prog:Program}{w:World}{A:Around}{E:Value→Shared→Prop}{s:Shared}{K:Frag}
theorem xT {x C:Addr}{ox:Obj}{es:List DictEntry}{n:Nat}{name:Str}{expr:Bool}{v:Value}{Q:Value→Shared→Prop}
  (X:K.In s.heap) (I:PySem.W.InstAt s.heap x ox C (some (dictOf es n))) (hg:plainGet K C name=true) (hh:hasDictIn K C=true) (ha:findIn K (.ref C) name=some none)
  (hl:getL name es=some (some v)) (hv:handedIn v=true) (h:Q v { s with toks:=s.toks+1 }):wpAny (model prog w) A (getAttr (.ref x) name expr) Q E s :=
 get_value X I (plainGet_of hg).1 (findObj_own hh ha rfl hl) hv h
end
end Att
namespace L2
open PySem PySem.Spec PyProof.Rows
theorem b6:∀ {vs:List Value} {ns:List Int},IntsAre vs ns→Vals (ns.map V.int) vs
 | _,_,.nil=>.nil
 | _,_,.cons n t h=>.cons ⟨t,rfl⟩ (b6 h)
def Only (H:Hp):Prop:=∀ b,H b=none∨∃ o xs,H b=some (.frz o (.lst xs))
theorem sM {P:Program}{w:World}{K:PySem.W.Frag}{mg mb:Str→Option Value}{CX:CXT}{k:Nat}{fa a:Addr}{fd:FuncData}{x:Str}{sp:Sp}{s₁:Shared}{vs:List Value}{ns:List Int}
  (KX:K.In s₁.heap) (hns:s₁.heap.Ns mainGlobals mg) (hb:s₁.heap.Ns builtinsNs mb) (hbb:∀ x:Str,x ≠ "__name__" → mb x=bootBuiltins x) (hlim:s₁.heap.NoLimit) (hg:s₁.gens = #[])
  (ha:s₁.heap.get? a=some { cls:=.type "list",data:=.seq vs.toArray }) (hi:IntsAre vs ns) (hl:ns.length≤sizeLine) (hr:Room k callerA)
  (F:∀ base:Heap,K.In base→base.Ns mainGlobals mg→FnOk P w K mg base CX k fa fd [x] sp) (hbind:∀ (s:Shared) (u:Value),BindsTo s fd ⟨[u],[]⟩ [(x,u)])
  (hsp:∀ H:Hp,Only H→SqL K H a (ns.map V.int)→sp [.ref a] H (fun v _=>v=.bl true) fun _ _ _=>False)
  (hCX:∀ H e s',CX [] H s₁ (fun _ _ _=>False) e s'→False) :
  codeAny (model P w) callerA (.call (.ref fa) ⟨[.ref a],[]⟩) (fun r s'=>r=.ok (.ret (.bool true))∧OldK s₁.heap s'.heap∧s'.os=s₁.os∧AllBare s'.gens) s₁:=by
 have rv:=b6 hi
 have lenV:=hi.length
 have core:∀ H:Hp,Only H→SqL K H a (ns.map V.int)→HOk P w H s₁.heap→(∀ b,H b≠none→b=a)→(H a≠none→K.lookup a=none) →
   codeAny (model P w) callerA (.call (.ref fa) ⟨[.ref a],[]⟩) (fun r s'=>r=.ok (.ret (.bool true))∧OldK s₁.heap s'.heap∧s'.os=s₁.os∧AllBare s'.gens) s₁:=by
  intro H hO hS hok hA hK
  have base_of:∀ {b:Addr} {o:Obj},s₁.heap.get? b=some o→H b=none→(hidT s₁.heap H).get? b=some o:=fun e n=>sx e n
  have noA:∀ {b:Addr} {o:Obj} {es:Array DictEntry} {ep:Nat},s₁.heap.get? b=some o→o.data=.dict es ep→H b=none:=fun {b o es ep} e d=>by
   cases q:H b with
   | none=>rfl
   | some u =>
    have e':b=a:=hA b (by rw[q];simp)
    subst e'
    rw[ha]at e;cases e
    have d':Data.seq vs.toArray _=Data.dict es ep:=d
    cases d'
  have nsK:∀ {b:Addr} {m:Str→Option Value},s₁.heap.Ns b m→(hidT s₁.heap H).Ns b m:=fun {b m} ⟨o,es,ep,e,d,r⟩=>⟨o,es,ep,base_of e (noA e d),d,r⟩
  have hKb:K.In (hidT s₁.heap H):=fun b o e=>base_of (KX b o e) (by
   cases q:H b with
   | none=>rfl
   | some u =>
    have e':b=a:=hA b (by rw[q];simp)
    subst e'
    rw[hK (by rw[q];simp)]at e;cases e)
  have hM:Mod K mg (hidT s₁.heap H):=⟨hKb,nsK hns,⟨mb,nsK hb,hbb⟩,let ⟨mc,h1,h2⟩:=hlim;⟨mc,nsK h1,h2⟩⟩
  have e0:Env0 P w K mg (hidT s₁.heap H) callerA [] s₁ H:=⟨rfl,hM,fun b o e=>uX e,Nat.le_of_eq (qm _ _),trivial,fun b hb=>absurd (show b∈([]:List Addr) from hb) (by simp),hok,.of_eq hg⟩
  refine codeAny_mono ((F _ hKb (nsK hns)).run callerA [] s₁ H ⟨[.ref a],[]⟩ [.ref a] [.ref a] _ _ hr.w e0 (hbind s₁ (.ref a)) (.cons rfl .nil) (hsp H hO hS)) fun r s' h=>?_
  cases r with
  | error e=>exact(hCX H e s' h).elim
  | ok fl =>
   cases fl with
   | next=>exact False.elim h
   | brk=>exact False.elim h
   | cont=>exact False.elim h
   | ret u =>
    obtain⟨v,H',os,bare,un,hok',r',q⟩:=h
    have q':v=.bl true:=q
    subst q'
    obtain rfl:u=Value.bool true:=r'
    refine⟨rfl,OldK.of_keep fun b o e=>?_,os,bare⟩
    cases q:H b with
    | none=>exact un.keep b o e q (by intro z;exact absurd (show b∈([]:List Addr) from z) (by simp)) (by simp)
    | some u =>
     rcases hO b with z | ⟨ob,xs,z⟩
     ·rw[q]at z;cases z
     ·have z2:=un.frzs b ob _ z
      obtain⟨e1,_⟩:=hok b _ z
      obtain⟨e2,_⟩:=hok' b _ z2
      rw[e]at e1;cases e1
      exact e2
 cases hk:K.lookup a with
 | some o =>
  have e:=KX a o hk
  rw[ha]at e
  cases e
  refine core (fun _=>none) (fun _=>.inl rfl) (.inr ⟨_,vs.toArray,_,hk,rfl,rfl,rfl,by rw[List.size_toArray,lenV];exact hl,by simpa using rv⟩) (fun b u z=>by have z':(none:Option HO)=some u:=z;cases z') (fun b z=>absurd rfl z) fun z=>absurd rfl z
 | none =>
  refine core (fun b=>if b=a then some (.frz { cls:=.type "list",data:=.seq vs.toArray } (.lst (ns.map V.int))) else none) (fun b=>?_) (.inl (.inr ⟨{ cls:=.type "list",data:=.seq vs.toArray },if_pos rfl⟩)) (fun b u z=>?_) (fun b z=>?_) fun _=>hk
  ·by_cases hb:b=a
   ·exact .inr ⟨_,_,if_pos hb⟩
   ·exact .inl (if_neg hb)
  ·by_cases hb:b=a
   ·have z':=(if_pos hb).symm.trans z
    cases z'
    subst hb
    exact⟨ha,by rw[List.length_map];exact hl,vs,_,rv,ha⟩
   ·have z':=(if_neg hb).symm.trans z
    cases z'
  ·by_cases hb:b=a
   ·exact hb
   ·exact absurd (if_neg hb) z
end L2
namespace L2
open PySem PySem.Spec PyProof.Rows
theorem vb {l:PySem.W.OpenLaw}{n k:Nat}{q:Program}{loose:List Str}{XP:(Str→Option Value)→Heap→Prop}{YP:World→Heap→Prop}{d:DefRec}{K:Params→PySem.W.Frag}{CX:World→CXT}{sp:World→Sp}{x:Str}
  (hn:l.most=some n) (hn2:n≤sizeLine) (hdf:d.params.defaults=[]) (hr:Room k callerA)
  (hY:∀ (w:World) (h:Heap),YP w h→(K w.params).In h)
  (F:∀ (w:World) (mg:Str→Option Value) (fa:Addr) (h:Heap),(K w.params).In h→h.Ns mainGlobals mg→mg d.name=some (.ref fa) →
   ∃ fd:FuncData,(∀ (s:Shared) (u:Value),BindsTo s fd ⟨[u],[]⟩ [(x,u)]) ∧
    ∀ base:Heap,(K w.params).In base→base.Ns mainGlobals mg→FnOk l.prog w (K w.params) mg base (CX w) k fa fd [x] (sp w))
  (hsp:∀ (w:World) (H:Hp) (a:Addr) (ns:List Int),ns.length≤n→Only H→SqL (K w.params) H a (ns.map V.int)→sp w [.ref a] H (fun v _=>v=.bl true) fun _ _ _=>False)
  (hCX:∀ (w:World) (H:Hp) (s:Shared) (e:Value) (s':Shared),CX w [] H s (fun _ _ _=>False) e s'→False) :
  PySem.W.WalkO q loose XP YP l.row.toRowW d [] (fun f vs=>PySem.call f vs):=by
 refine Att.attach_call hn hdf fun w s₀ s₁ mg mb fa o pm cd doc a vs ns G Y ho hd hcd hmg hobj hints hlen hg=>?_
 have KX:=hY w _ Y
 obtain⟨fd,hb,hF⟩:=F w mg fa _ KX G.T.g hmg
 exact sM KX G.T.g G.T.b G.T.builtins G.T.nolimit hg hobj hints (Nat.le_trans hlen hn2) hr hF hb (fun H hO hS=>hsp w H a ns hlen hO hS) fun H e s'=>hCX w H s₁ e s'
end L2
namespace L2
open PySem PySem.Spec PyProof.Rows
def defArgs (s:Stmt):Arguments:=match s with
 | .FunctionDef _ a _ _ _ _ _ _ _ _=>a
 | _=>{ posonlyargs:=[],args:=[],vararg:=none,kwonlyargs:=[],kw_defaults:=[],kwarg:=none,defaults:=[] }
def defBody (s:Stmt):List Stmt:=match s with
 | .FunctionDef _ _ b _ _ _ _ _ _ _=>b
 | _=>[]
def defScope (s:Stmt):Scope:=match s with
 | .FunctionDef _ _ _ _ _ _ sc _ _ _=>sc
 | _=>{ kind:=.function,names:=[],isGenerator:=false,isCoroutine:=false }
structure Fun (K:PySem.W.Frag)(x qual:Str)(st:Stmt)(f:Addr)(fd:FuncData):Prop where
 ex:∃ (oc:Value) (od:Option Addr) (kV doc pm:Value) (an:Option Addr) (cdv ct:Value) (osl:Array (Option Value)),
  fd=PySem.W.fnOf x qual (defArgs st) (defBody st) (defScope st) .none kV doc pm an cdv ct∧K.lookup f=some ⟨oc,od,.func fd,osl⟩∧PySem.W.codeIn K cdv qual=true
 kp:PySem.W.keepIn K (.ref f)=true
section
variable {P:Program}{w:World}{K:PySem.W.Frag}{mg:Str→Option Value}{base:Heap}
theorem Fun.binds {x qual:Str}{st:Stmt}{f:Addr}{fd:FuncData}{ps:List Str}(F:Fun K x qual st f fd)
  (h:∀ (kV doc pm:Value) (an:Option Addr) (cdv ct:Value) (us:List Value),us.length=ps.length→bindArgs (PySem.W.fnOf x qual (defArgs st) (defBody st) (defScope st) .none kV doc pm an cdv ct) ⟨us,[]⟩=pure (ps.zip us)):Binds K fd ps []:=by
 obtain⟨oc,od,kV,doc,pm,an,cdv,ct,osl,rfl,lk,hcd⟩:=F.ex
 exact .all (h kV doc pm an cdv ct)
theorem og {x qual:Str}{st:Stmt}{f:Addr}{oc:Value}{od an:Option Addr}{osl:Array (Option Value)}{kV doc pm cdv ct:Value}(l:K.lookup f=some ⟨oc,od,.func (PySem.W.fnOf x qual (defArgs st) (defBody st) (defScope st) .none kV doc pm an cdv ct),osl⟩)
  (c:PySem.W.codeIn K cdv qual=true) (k:PySem.W.keepIn K (.ref f)=true):Fun K x qual st f (PySem.W.fnOf x qual (defArgs st) (defBody st) (defScope st) .none kV doc pm an cdv ct):=⟨⟨oc,od,kV,doc,pm,an,cdv,ct,osl,rfl,l,c⟩,k⟩
end
section
variable {X:Cx}
end
def Same (H H':Hp):Prop:=∀ b o,H b=some o→H' b=some o
theorem Same.refl (H:Hp):Same H H:=fun _ _ h=>h
theorem Same.trans {H H1 H2:Hp}(a:Same H H1)(b:Same H1 H2):Same H H2:=fun c o h=>b c o (a c o h)
theorem Same.free {H H':Hp}(e:Same H H'){l:Addr}(h:H' l=Option.none):H l=Option.none:=by
 cases q:H l with
 | none=>rfl
 | some o =>
  rw[e l o q]at h
  cases h
theorem Same.seq {K:PySem.W.Frag}{H H':Hp}{a:Addr}{xs:List V}(e:Same H H')(h:SqL K H a xs):SqL K H' a xs:=by
 rcases h with (h | ⟨o,h⟩) | h
 ·exact .inl (.inl (e _ _ h))
 ·exact .inl (.inr ⟨o,e _ _ h⟩)
 ·exact .inr h
end L2
end
noncomputable section
namespace FF
abbrev St:=L2.St
end FF
namespace FF
open PySem
open AutoSeq1 (wpAny_loadPart')
theorem gX:fillsNumberSlot (.type "tuple") "mul"=pure false :=
 fillsNumberSlot_seq (id := "tuple.__mul__") (r:=some (.builtin "tuple.__rmul__")) F.slot_tuple_mul.lookup (by decide +kernel) F.slot_tuple_rmul.lookup (by decide +kernel)
theorem lu:seqRepeat? (.type "tuple")=pure (some (.builtin "tuple.__mul__")):=by
 unfold seqRepeat?
 rw[seqSlot_of (T := "tuple") (name := "__mul__") (id := "tuple.__mul__") F.slot_tuple_mul.lookup (by decide +kernel),seqSlot_of (T := "tuple") (name := "__rmul__") (id := "tuple.__rmul__") F.slot_tuple_rmul.lookup (by decide +kernel)]
 rfl
theorem je (a:Int)(t:Tok)(l:Addr)(items:Array Value)(n:Nat)(dd:Option Addr)(sl:Array (Option Value)) :
  Meets (Builtin.«int.__rmul__» ⟨[.int a t,.ref l],[]⟩) (fun _ R s=>s.heap.get? l=some { cls:=.type "tuple",dict:=dd,data:=.seq items n,slots:=sl }∧R (.ok (.ret Value.notImplemented)) s) :=
 .of_wp fun prog w A R s h=>by obtain⟨hp,g,d,tk,os⟩:=s;obtain⟨hl,h⟩:=h;wp_walk;exact⟨_,rfl,h⟩
theorem j9 (l:Addr)(items:Array Value)(n:Nat)(k:Int)(t:Tok)(dd:Option Addr)(sl:Array (Option Value))(h0:2≤k)(h1:k < 1000000)(hsz:items.size*k.toNat≤sizeLine)(hne:items.isEmpty=false) :
  Meets (Builtin.«tuple.__mul__» ⟨[.ref l,.int k t],[]⟩) (fun _ R s=>s.heap.get? l=some { cls:=.type "tuple",dict:=dd,data:=.seq items n,slots:=sl } ∧
   R (.ok (.ret (.ref s.heap.objs.size))) { s with heap:=s.heap.push { cls:=.type "tuple",data:=.seq (List.foldl (fun x1 x2=>x1++x2) #[] (List.replicate k.toNat items)) } }) :=
 .of_wp fun prog w A R s h=>by
  obtain⟨hp,g,d,tk,os⟩:=s;obtain⟨hl,h⟩:=h
  have f1:=AutoSeq1.idx_int
  have f2:=AutoSeq1.sub_tuple_tuple
  have c0:¬ (decide (k < -2^63)||decide (k≥2^63))=true:=by
   simp only[Bool.or_eq_true,decide_eq_true_eq];omega
  have c1:¬ (items.isEmpty||k==1)=true:=by
   rw[hne,Bool.false_or,beq_iff_eq];omega
  have c2:¬ (decide (k≤0)||items.isEmpty)=true:=by
   rw[hne,Bool.or_false,decide_eq_true_eq];omega
  have hs:sizeLine=16777216:=sizeLine_eq
  have hk:(items.size:Int)*k=((items.size*k.toNat:Nat):Int):=by
   rw[Int.natCast_mul,Int.toNat_of_nonneg (by omega)]
  have c3:¬ ((items.size:Int)*k > (2^63 - 1)/8):=by
   rw[hk];omega
  have c4:¬ Builtin.Tuple.tupleTooMany ((items.size:Int)*k)=true:=by
   rw[hk]
   unfold Builtin.Tuple.tupleTooMany
   simp only[decide_eq_true_eq]
   omega
  have hlen:(List.foldl (fun x1 x2=>x1++x2) #[] (List.replicate k.toNat items)).size≤sizeLine:=by
   have:∀ (m:Nat) (acc:Array Value),(List.foldl (fun x1 x2=>x1++x2) acc (List.replicate m items)).size=acc.size+m*items.size:=by
    intro m
    induction m with
    | zero=>intro acc;simp
    | succ m ih=>intro acc;rw[List.replicate_succ,List.foldl_cons,ih,Array.size_append,Nat.succ_mul];omega
   rw[this,Nat.mul_comm];simpa using hsz
  unfold Builtin.«tuple.__mul__»
  wp_walk using wpAny_loadPart' hl
  rw[if_neg c0]
  wp_walk using wpAny_loadPart' hl
  rw[if_neg c1]
  try wp_walk using wpAny_loadPart' hl
  rw[if_neg c2]
  try wp_walk using wpAny_loadPart' hl
  rw[if_neg c3]
  try wp_walk using wpAny_loadPart' hl
  rw[if_neg c4]
  try wp_walk using wpAny_loadPart' hl
  rw[if_neg (Nat.not_lt.mpr hlen)]
  try wp_walk using wpAny_loadPart' hl
  exact⟨_,rfl,h⟩
theorem ke (l:Addr)(items:Array Value)(n:Nat)(t:Tok)(dd:Option Addr)(sl:Array (Option Value)) :
  Meets (Builtin.«tuple.__mul__» ⟨[.ref l,.int 1 t],[]⟩) (fun _ R s=>s.heap.get? l=some { cls:=.type "tuple",dict:=dd,data:=.seq items n,slots:=sl }∧R (.ok (.ret (.ref l))) s) :=
 .of_wp fun prog w A R s h=>by
  obtain⟨hp,g,d,tk,os⟩:=s;obtain⟨hl,h⟩:=h
  have f1:=AutoSeq1.idx_int
  have f2:=AutoSeq1.sub_tuple_tuple
  have c1:(items.isEmpty||(1:Int)==1)=true:=by simp
  unfold Builtin.«tuple.__mul__»
  wp_walk using wpAny_loadPart' hl
  exact⟨_,rfl,h⟩
theorem kg (l:Addr)(n:Nat)(k:Int)(t:Tok)(dd:Option Addr)(sl:Array (Option Value))(h0:0≤k)(h1:k < 1000000) :
  Meets (Builtin.«tuple.__mul__» ⟨[.ref l,.int k t],[]⟩) (fun _ R s=>s.heap.get? l=some { cls:=.type "tuple",dict:=dd,data:=.seq #[] n,slots:=sl }∧R (.ok (.ret (.ref l))) s) :=
 .of_wp fun prog w A R s h=>by
  obtain⟨hp,g,d,tk,os⟩:=s;obtain⟨hl,h⟩:=h
  have f1:=AutoSeq1.idx_int
  have f2:=AutoSeq1.sub_tuple_tuple
  have c0:¬ (decide (k < -2^63)||decide (k≥2^63))=true:=by
   simp only[Bool.or_eq_true,decide_eq_true_eq];omega
  have c1:((#[]:Array Value).isEmpty||k==1)=true:=by simp
  unfold Builtin.«tuple.__mul__»
  wp_walk using wpAny_loadPart' hl
  rw[if_neg c0]
  wp_walk using wpAny_loadPart' hl
  exact⟨_,rfl,h⟩
theorem jf (l:Addr)(items:Array Value)(n:Nat)(t:Tok)(dd:Option Addr)(sl:Array (Option Value))(hne:items.isEmpty=false) :
  Meets (Builtin.«tuple.__mul__» ⟨[.ref l,.int 0 t],[]⟩) (fun _ R s=>s.heap.get? l=some { cls:=.type "tuple",dict:=dd,data:=.seq items n,slots:=sl } ∧
   R (.ok (.ret (.ref s.heap.objs.size))) { s with heap:=s.heap.push { cls:=.type "tuple",data:=.seq #[] } }) :=
 .of_wp fun prog w A R s h=>by
  obtain⟨hp,g,d,tk,os⟩:=s;obtain⟨hl,h⟩:=h
  have f1:=AutoSeq1.idx_int
  have f2:=AutoSeq1.sub_tuple_tuple
  have c1:¬ (items.isEmpty||(0:Int)==1)=true:=by rw[hne];decide
  have c2:(decide ((0:Int)≤0)||items.isEmpty)=true:=by simp
  unfold Builtin.«tuple.__mul__»
  wp_walk using wpAny_loadPart' hl
  exact⟨_,rfl,h⟩
end FF
namespace FF
open PySem
theorem dO (env:Env):∀ (names:List (Str×NameKind)) (acc:List (Str×Addr)),(∀ y∈names,y.2=.free→∃ c,env.cells.lookup y.1=some c)→(∀ n c,acc.lookup n=some c→env.cells.lookup n=some c) →
  ∃ cl,(forIn names acc fun (x:Str×NameKind) (cs:List (Str×Addr))=>(do
    if x.2==.free then let a ← cellOf env x.1;pure (ForInStep.yield ((x.1,a)::cs)) else pure (ForInStep.yield cs):Sem (ForInStep (List (Str×Addr)))))=pure cl ∧
   (∀ n c,cl.lookup n=some c→env.cells.lookup n=some c)∧(∀ n c,acc.lookup n=some c→∃ c',cl.lookup n=some c')∧(∀ y∈names,y.2=.free→∃ c,cl.lookup y.1=some c)
 | [],acc,_,h=>⟨acc,rfl,h,fun n c e=>⟨c,e⟩,fun _ z=>nomatch z⟩
 | (n,k)::r,acc,hf,h=>by
  by_cases hk:k=.free
  ·subst hk
   obtain⟨c,hc⟩:=hf (n,.free) List.mem_cons_self rfl
   have h':∀ m d,List.lookup m ((n,c)::acc)=some d→env.cells.lookup m=some d:=fun m d e=>by
    by_cases q:(m==n)=true
    ·have q':m=n:=eq_of_beq q
     simp only[List.lookup,q]at e
     cases e
     rw[q'];exact hc
    ·have q':(m==n)=false:=by simpa using q
     simp only[List.lookup,q']at e
     exact h m d e
   obtain⟨cl,e1,e2,e3,e4⟩:=dO env r ((n,c)::acc) (fun y hy=>hf y (List.mem_cons_of_mem _ hy)) h'
   have self:List.lookup n ((n,c)::acc)=some c:=by simp[List.lookup]
   refine⟨cl,?_,e2,fun m d e=>?_,fun y hy hy2=>?_⟩
   ·rw[List.forIn_cons]
    have:cellOf env n=pure c:=by unfold cellOf;rw[hc]
    simp only[beq_self_eq_true,if_true,this]
    exact e1
   ·by_cases q:(m==n)=true
    ·have q':m=n:=eq_of_beq q
     rw[q'];exact e3 n c self
    ·have q':(m==n)=false:=by simpa using q
     exact e3 m d (by simp only[List.lookup,q'];exact e)
   ·rcases List.mem_cons.mp hy with z | z
    ·subst z;exact e3 n c self
    ·exact e4 y z hy2
  ·have hb:(k==NameKind.free)=false:=by simpa using hk
   obtain⟨cl,e1,e2,e3,e4⟩:=dO env r acc (fun y hy=>hf y (List.mem_cons_of_mem _ hy)) h
   refine⟨cl,?_,e2,e3,fun y hy hy2=>?_⟩
   ·rw[List.forIn_cons]
    simp only[hb,Bool.false_eq_true,if_false]
    exact e1
   ·rcases List.mem_cons.mp hy with z | z
    ·subst z;exact absurd hy2 hk
    ·exact e4 y z hy2
theorem jg (scope:Scope)(env:Env)(h:∀ y∈scope.names,y.2=.free→∃ c,env.cells.lookup y.1=some c) :
  ∃ cl,closureFor scope env=pure cl∧(∀ n c,cl.lookup n=some c→env.cells.lookup n=some c)∧(∀ y∈scope.names,y.2=.free→∃ c,cl.lookup y.1=some c):=by
 obtain⟨cl,e1,e2,_,e4⟩:=dO env scope.names [] h (fun n c e=>by simp at e)
 refine⟨cl,?_,e2,e4⟩
 exact(congrArg (fun t:Sem (List (Str×Addr))=>t >>= fun s=>pure s) e1).trans rfl
end FF
namespace FF
open PySem
def tests (ifs:List Expr)(env:Env):Sem Bool:=match ifs with
 | []=>pure true
 | c::_=>isTrue c env (eval c env)
theorem qC {prog:Program}{w:World}{A:Around}{R:Result→Shared→Prop}{s:Shared}{elt target iter:Expr}{ifs:List Expr}{scope:Scope}{pos:Pos}{it acc:Value}{env:Env}(hifs:ifs.length≤1)(W:Nat→Shared→Prop)
  (turn:∀ n s,W n s→wpAny (model prog w) A (pyNext it) (fun r s1=>match r with
   | none=>R (.ok .next) s1
   | some v=>wpAny (model prog w) A (letOwnedTupleGo target it v) (fun _ s2=>wpAny (model prog w) A (assign target env v) (fun _ s3=>wpAny (model prog w) A (tests ifs env) (fun ok s4 =>
     if ok=true then wpAny (model prog w) A (eval elt env) (fun x s5=>wpAny (model prog w) A (call (.builtin "list.append") [acc,x]) (fun _ s6=>∃ m,m < n∧W m s6) (fun _ _=>False) s5) (fun _ _=>False) s4
     else ∃ m,m < n∧W m s4) (fun _ _=>False) s3) (fun _ _=>False) s2) (fun _ _=>False) s1) (fun _ _=>False) s)
  (n:Nat) (h:W n s):codeAny (model prog w) A (.compLoop (.ListComp elt [⟨target,iter,ifs,0⟩] scope pos) 0 it acc env) R s:=by
 have weak:∀ {α:Type} {t:Sem α} {Q Q':α→Shared→Prop} {E:Value→Shared→Prop} {s:Shared},wpAny (model prog w) A t Q (fun _ _=>False) s→(∀ a s,Q a s→Q' a s)→wpAny (model prog w) A t Q' E s :=
  fun h k=>wpAny_mono h k fun _ _ z=>z.elim
 refine codeAny_loop rfl W (fun n s hW=>?_) n h
 show wpAny _ A ((compTurn (.ListComp elt [⟨target,iter,ifs,0⟩] scope pos) 0 it acc env).onRaise (fun x=>do noteFrame x env;theTreesLotGoes x)) _ _ s
 refine wpAny_noted ?_
 rw[compTurn_list]
 refine wpAny_bind (wpAny_standAt (wpAny_bind (weak (turn n s hW) fun r s1 h1=>?_)))
 cases r with
 | none=>exact wpAny_pure h1
 | some v =>
  refine wpAny_bind (weak h1 fun _ s2 h2=>wpAny_bind (weak h2 fun _ s3 h3=>wpAny_bind ?_))
  have fin:∀ ok s4,(if ok=true then wpAny (model prog w) A (eval elt env) (fun x s5=>wpAny (model prog w) A (call (.builtin "list.append") [acc,x]) (fun _ s6=>∃ m,m < n∧W m s6) (fun _ _=>False) s5) (fun _ _=>False) s4
     else ∃ m,m < n∧W m s4)→wpAny (model prog w) A (if ok=true then ((do let _ ← call (.builtin "list.append") [acc,← eval elt env];pure ()) >>= fun _=>again (.compLoop (.ListComp elt [⟨target,iter,ifs,0⟩] scope pos) 0 it acc env)) else again (.compLoop (.ListComp elt [⟨target,iter,ifs,0⟩] scope pos) 0 it acc env))
      (fun fin s'=>match fin with | .done f=>R (.ok f) s' | .again c'=>c'=(.compLoop (.ListComp elt [⟨target,iter,ifs,0⟩] scope pos) 0 it acc env)∧∃ m,m < n∧W m s') (notedBy (model prog w) A env fun e s'=>R (.error e) s') s4:=by
   intro ok s4 h4
   cases ok with
   | true=>exact wpAny_bind (wpAny_bind (weak h4 fun x s5 h5=>wpAny_bind (weak h5 fun _ s6 h6=>wpAny_pure (wpAny_pure ⟨rfl,h6⟩))))
   | false=>exact wpAny_pure ⟨rfl,h4⟩
  match ifs,hifs,h3,fin with
  | [],_,h3,fin =>
   refine wpAny_tests_nil ?_
   exact wpAny_bind (m:=(pure true:Sem Bool)) (weak h3 fin)
  | [c],_,h3,fin =>
   refine wpAny_tests_one ?_
   exact weak h3 fin
end FF
namespace FF
open PySem PyProof.Rows
open AutoSeq1 (wpAny_loadPart')
theorem qD (l b:Addr)(items items2:Array Value)(n n2:Nat)(dd dd2:Option Addr)(sl sl2:Array (Option Value))(hsz:items.size+items2.size≤sizeLine) :
  Meets (Builtin.«list.__add__» ⟨[.ref l,.ref b],[]⟩) (fun _ R s=>s.heap.get? l=some { cls:=.type "list",dict:=dd,data:=.seq items n,slots:=sl }∧s.heap.get? b=some { cls:=.type "list",dict:=dd2,data:=.seq items2 n2,slots:=sl2 } ∧
   R (.ok (.ret (.ref s.heap.objs.size))) { s with heap:=s.heap.push { cls:=.type "list",data:=.seq (items++items2) } }) :=
 .of_wp fun prog w A R s h=>by
  obtain⟨hp,g,d,tk,os⟩:=s;obtain⟨hl,hb,h⟩:=h
  have f1:=AutoSeq1.idx_int;have f2:=AutoSeq1.sub_tuple_tuple;have f3:=AutoSeq1.sub_list_list;have f4:=AutoSeq1.sub_tuple_list;have f5:=AutoSeq1.sub_list_tuple
  have hl0:¬ Builtin.List.listTooLong (items.size+items2.size)=true:=by rw[L2.notLongL hsz];exact Bool.false_ne_true
  have hz:(items++items2).size≤sizeLine:=by rw[Array.size_append];exact hsz
  wp_walk using wpAny_loadPart' hl,wpAny_loadPart' hb
  all_goals first | exact⟨_,rfl,h⟩ | trace_state
theorem qE (l:Addr)(items:Array Value)(n:Nat)(k:Int)(t:Tok)(dd:Option Addr)(sl:Array (Option Value))(h0 : -(2^63)≤k)(h1:k < 2^63)(hsz:items.size*k.toNat≤sizeLine) :
  Meets (Builtin.«list.__mul__» ⟨[.ref l,.int k t],[]⟩) (fun _ R s=>s.heap.get? l=some { cls:=.type "list",dict:=dd,data:=.seq items n,slots:=sl } ∧
   R (.ok (.ret (.ref s.heap.objs.size))) { s with heap:=s.heap.push { cls:=.type "list",data:=.seq (List.foldl (fun x1 x2=>x1++x2) #[] (List.replicate (if items.isEmpty=true then 0 else k.toNat) items)) } }) :=
 .of_wp fun prog w A R s h=>by
  obtain⟨hp,g,d,tk,os⟩:=s;obtain⟨hl,h⟩:=h
  have f1:=AutoSeq1.idx_int;have f2:=AutoSeq1.sub_tuple_tuple;have f3:=AutoSeq1.sub_list_list
  have hs:=sizeLine_eq
  have c1:¬ items.size*k.toNat > (2^63 - 1)/8:=by omega
  have c2:¬ (!Builtin.List.listFitsIndex k)=true:=by rw[fitsIndex_both h0 h1];exact Bool.false_ne_true
  have c3:¬ Builtin.List.listTooLong (items.size*k.toNat)=true:=by rw[L2.notLongL hsz];exact Bool.false_ne_true
  have hz:=AutoListH.joined_fits c3
  wp_walk using wpAny_loadPart' hl
  rw[if_neg (Nat.not_lt.mpr hz)]
  wp_walk
  exact⟨_,rfl,h⟩
theorem kh (a:Int)(t:Tok)(l:Addr)(items:Array Value)(n:Nat)(dd:Option Addr)(sl:Array (Option Value)) :
  Meets (Builtin.«int.__rmul__» ⟨[.int a t,.ref l],[]⟩) (fun _ R s=>s.heap.get? l=some { cls:=.type "list",dict:=dd,data:=.seq items n,slots:=sl }∧R (.ok (.ret Value.notImplemented)) s) :=
 .of_wp fun prog w A R s h=>by obtain⟨hp,g,d,tk,os⟩:=s;obtain⟨hl,h⟩:=h;wp_walk;exact⟨_,rfl,h⟩
theorem qF (l b:Addr)(items items2:Array Value)(n n2:Nat)(dd2:Option Addr)(sl2:Array (Option Value))(hsz:items.size+items2.size≤sizeLine) :
  Meets (Builtin.«list.extend» ⟨[.ref l,.ref b],[]⟩) (fun _ R s=>s.heap.get? l=some { cls:=.type "list",data:=.seq items n }∧s.heap.get? b=some { cls:=.type "list",dict:=dd2,data:=.seq items2 n2,slots:=sl2 } ∧
   R (.ok (.ret .none)) { s with heap:=s.heap.update l (Obj.mapSeq fun x=>x++items2) }) :=
 .of_wp fun prog w A R s h=>by
  obtain⟨hp,g,d,tk,os⟩:=s;obtain⟨hl,hb,h⟩:=h
  have f1:=AutoSeq1.idx_int;have f2:=AutoSeq1.sub_tuple_tuple;have f3:=AutoSeq1.sub_list_list;have f4:=AutoSeq1.sub_tuple_list;have f5:=AutoSeq1.sub_list_tuple
  have hc0:¬(!items.isEmpty&&Builtin.List.listTooLong (items.size+items2.size))=true:=by rw[L2.notLongL hsz,Bool.and_false];exact Bool.false_ne_true
  have hc1:items.size≤sizeLine:=by omega
  have hs2:items.size+items2.size≤sizeLine+1:=by omega
  have hz':(items++items2).size≤sizeLine+1:=by rw[Array.size_append];omega
  wp_walk using (wpAny_updateSeq hl rfl (hz:=hc1) (_hz':=hz')),wpAny_loadPart' hl,wpAny_loadPart' hb
  exact⟨_,rfl,h⟩
theorem qG (l b:Addr)(items items2:Array Value)(n n2:Nat)(dd2:Option Addr)(sl2:Array (Option Value))(hsz:items.size+items2.size≤sizeLine) :
  Meets (Builtin.«list.extend» ⟨[.ref l,.ref b],[]⟩) (fun _ R s=>s.heap.get? l=some { cls:=.type "list",data:=.seq items n }∧s.heap.get? b=some { cls:=.type "tuple",dict:=dd2,data:=.seq items2 n2,slots:=sl2 } ∧
   R (.ok (.ret .none)) { s with heap:=s.heap.update l (Obj.mapSeq fun x=>x++items2) }) :=
 .of_wp fun prog w A R s h=>by
  obtain⟨hp,g,d,tk,os⟩:=s;obtain⟨hl,hb,h⟩:=h
  have f1:=AutoSeq1.idx_int;have f2:=AutoSeq1.sub_tuple_tuple;have f3:=AutoSeq1.sub_list_list;have f4:=AutoSeq1.sub_tuple_list;have f5:=AutoSeq1.sub_list_tuple
  have hc0:¬(!items.isEmpty&&Builtin.List.listTooLong (items.size+items2.size))=true:=by rw[L2.notLongL hsz,Bool.and_false];exact Bool.false_ne_true
  have hc1:items.size≤sizeLine:=by omega
  have hs2:items.size+items2.size≤sizeLine+1:=by omega
  have hz':(items++items2).size≤sizeLine+1:=by rw[Array.size_append];omega
  wp_walk using (wpAny_updateSeq hl rfl (hz:=hc1) (_hz':=hz')),wpAny_loadPart' hl,wpAny_loadPart' hb
  exact⟨_,rfl,h⟩
end FF
end
noncomputable section
namespace FF
open PySem PySem.Spec PyProof.Rows L2
inductive D where
 | non | bl (b:Bool) | int (i:Int) | str (x:Str) | tup (xs:List D) | lst (xs:List D) | exc (k:Nat) | fn (k:Nat) | tab (ks:List (List Int)) (xs:List D) | dic (ks:List Key) (xs:List D)
inductive R (α:Type) where
 | ok (a:α) | err (k:Nat) | stuck
def R.bind {α β:Type}(r:R α)(f:α→R β):R β:=match r with
 | .ok a=>f a
 | .err k=>.err k
 | .stuck=>.stuck
@[simp] theorem R.bind_ok {α β:Type}(a:α)(f:α→R β):(R.ok a).bind f=f a:=rfl
@[simp] theorem R.bind_err {α β:Type}(k:Nat)(f:α→R β):(R.err k:R α).bind f=.err k:=rfl
@[simp] theorem R.bind_stuck {α β:Type}(f:α→R β):(R.stuck:R α).bind f=.stuck:=rfl
def excO (C:Nat→Addr)(k:Nat)(a:Addr):HO :=
 .ext fun h=>∃ o,h.get? a=some o∧o.cls=.ref (C k)∧∃ vs,o.data=.fields vs
abbrev TKV:=List Int×Addr×V
abbrev TKU:=List Int×Addr×Value
def hashT (ks:List Int):Int:=reduceHash (Builtin.Tuple.tupleHashOf (ks.map hashInt))
def tabR (p:TKV)(q:TKU):Prop:=p.1=q.1∧p.2.1=q.2.1∧RelV p.2.2 q.2.2
def tabφ (a:Addr)(kvs:List TKV)(h:Heap):Prop:=∃ xs:List TKU,Paired tabR kvs xs∧xs.length≤sizeLine∧(a==sysModules)=false∧∃ o es ep,h.get? a=some o∧o.ExactDict∧o.data=.dict es ep ∧
 es.toList=xs.map (fun x=>(⟨hashT x.1,.ref x.2.1,x.2.2⟩:DictEntry))∧(xs.map (·.1)).Nodup
def tabO (a:Addr)(kvs:List TKV):HO:=.ext (tabφ a kvs)
mutual
def Rep (K:PySem.W.Frag)(C:Nat→Addr)(Z:Hp):D→V→Prop
 | .non,v=>v=.non
 | .bl b,v=>v=.bl b
 | .int i,v=>v=.int i
 | .str x,v=>v=.str x
 | .tup ds,v=>∃ a vs,v=.ref a∧SqT K Z a vs∧Reps K C Z ds vs
 | .lst ds,v=>∃ a vs,v=.ref a∧SqL K Z a vs∧Reps K C Z ds vs
 | .exc k,v=>∃ a,v=.ref a∧Z a=some (excO C k a)
 | .fn k,v=>v=.ref (C k)
 | .tab ks ds,v=>∃ a kvs,v=.ref a∧Z a=some (tabO a kvs)∧kvs.map (·.1)=ks∧(∀ x∈kvs,SqT K Z x.2.1 (x.1.map V.int))∧Reps K C Z ds (kvs.map (·.2.2))
 | .dic ks ds,v=>∃ a kvs,v=.ref a∧Z a=some (.dK kvs)∧kvs.map (·.1)=ks∧Reps K C Z ds (kvs.map (·.2))
def Reps (K:PySem.W.Frag)(C:Nat→Addr)(Z:Hp):List D→List V→Prop
 | [],vs=>vs=[]
 | d::ds,vs=>∃ v r,vs=v::r∧Rep K C Z d v∧Reps K C Z ds r
end
theorem _root_.L2.SqT.mono {K:PySem.W.Frag}{Z Z':Hp}{a:Addr}{xs:List V}(e:Same Z Z')(h:SqT K Z a xs):SqT K Z' a xs:=by
 rcases h with (h | ⟨o,h⟩) | h
 ·exact .inl (.inl (e _ _ h))
 ·exact .inl (.inr ⟨o,e _ _ h⟩)
 ·exact .inr h
section
variable {K:PySem.W.Frag}{C:Nat→Addr}{Z Z':Hp}
mutual
theorem Rep.mono (e:Same Z Z'):∀ (d:D) (v:V),Rep K C Z d v→Rep K C Z' d v
 | .non,v,h=>by rw[Rep]at h ⊢;exact h
 | .bl b,v,h=>by rw[Rep]at h ⊢;exact h
 | .int i,v,h=>by rw[Rep]at h ⊢;exact h
 | .str x,v,h=>by rw[Rep]at h ⊢;exact h
 | .fn k,v,h=>by rw[Rep]at h ⊢;exact h
 | .tup ds,v,h=>by
  rw[Rep]at h ⊢
  obtain⟨a,vs,h1,h2,h3⟩:=h
  exact⟨a,vs,h1,h2.mono e,Reps.mono e ds vs h3⟩
 | .lst ds,v,h=>by
  rw[Rep]at h ⊢
  obtain⟨a,vs,h1,h2,h3⟩:=h
  exact⟨a,vs,h1,e.seq h2,Reps.mono e ds vs h3⟩
 | .exc k,v,h=>by
  rw[Rep]at h ⊢
  obtain⟨a,h1,h2⟩:=h
  exact⟨a,h1,e _ _ h2⟩
 | .tab ks ds,v,h=>by
  rw[Rep]at h ⊢
  obtain⟨a,kvs,h1,h2,h3,h5,h4⟩:=h
  exact⟨a,kvs,h1,e _ _ h2,h3,fun x hx=>(h5 x hx).mono e,Reps.mono e ds _ h4⟩
 | .dic ks ds,v,h=>by
  rw[Rep]at h ⊢
  obtain⟨a,kvs,h1,h2,h3,h4⟩:=h
  exact⟨a,kvs,h1,e _ _ h2,h3,Reps.mono e ds _ h4⟩
theorem Reps.mono (e:Same Z Z'):∀ (ds:List D) (vs:List V),Reps K C Z ds vs→Reps K C Z' ds vs
 | [],vs,h=>by rw[Reps]at h ⊢;exact h
 | d::ds,vs,h=>by
  rw[Reps]at h ⊢
  obtain⟨v,r,h1,h2,h3⟩:=h
  exact⟨v,r,h1,Rep.mono e d v h2,Reps.mono e ds r h3⟩
end
theorem Reps.nil:Reps K C Z [] []:=by rw[Reps]
theorem Reps.cons {d:D}{v:V}{ds:List D}{vs:List V}(h:Rep K C Z d v)(t:Reps K C Z ds vs):Reps K C Z (d::ds) (v::vs):=by
 rw[Reps];exact⟨v,vs,rfl,h,t⟩
theorem Reps.uncons {d:D}{v:V}{ds:List D}{vs:List V}(h:Reps K C Z (d::ds) (v::vs)):Rep K C Z d v∧Reps K C Z ds vs:=by
 rw[Reps]at h
 obtain⟨v',r,e,h1,h2⟩:=h
 cases e
 exact⟨h1,h2⟩
theorem Reps.length:∀ {ds:List D} {vs:List V},Reps K C Z ds vs→ds.length=vs.length
 | [],vs,h=>by rw[Reps]at h;subst h;rfl
 | d::ds,vs,h=>by
  rw[Reps]at h
  obtain⟨v,r,e,_,h2⟩:=h
  subst e
  simp[Reps.length h2]
theorem Reps.get:∀ {ds:List D} {vs:List V} {i:Nat} {d:D},Reps K C Z ds vs→ds[i]?=some d→∃ v,vs[i]?=some v∧Rep K C Z d v
 | [],vs,i,d,h,e=>by simp at e
 | d'::ds,vs,i,d,h,e=>by
  rw[Reps]at h
  obtain⟨v,r,q,h1,h2⟩:=h
  subst q
  cases i with
  | zero=>simp at e;subst e;exact⟨v,rfl,h1⟩
  | succ i =>
   obtain⟨v',e1,h3⟩:=Reps.get (i:=i) h2 (by simpa using e)
   exact⟨v',by simpa using e1,h3⟩
theorem Reps.get':∀ {ds:List D} {vs:List V} {i:Nat} {v:V},Reps K C Z ds vs→vs[i]?=some v→∃ d,ds[i]?=some d∧Rep K C Z d v
 | [],vs,i,v,h,e=>by rw[Reps]at h;subst h;simp at e
 | d'::ds,vs,i,v,h,e=>by
  rw[Reps]at h
  obtain⟨v0,r,q,h1,h2⟩:=h
  subst q
  cases i with
  | zero=>simp at e;subst e;exact⟨d',rfl,h1⟩
  | succ i =>
   obtain⟨d,e1,h3⟩:=Reps.get' (i:=i) h2 (by simpa using e)
   exact⟨d,by simpa using e1,h3⟩
theorem Reps.append:∀ {ds es:List D} {vs us:List V},Reps K C Z ds vs→Reps K C Z es us→Reps K C Z (ds++es) (vs++us)
 | [],es,vs,us,h,h'=>by rw[Reps]at h;subst h;exact h'
 | d::ds,es,vs,us,h,h'=>by
  rw[Reps]at h
  obtain⟨v,r,q,h1,h2⟩:=h
  subst q
  exact Reps.cons h1 (Reps.append h2 h')
theorem Reps.take:∀ {ds:List D} {vs:List V} (n:Nat),Reps K C Z ds vs→Reps K C Z (ds.take n) (vs.take n)
 | [],vs,n,h=>by rw[Reps]at h;subst h;simpa using Reps.nil
 | d::ds,vs,n,h=>by
  rw[Reps]at h
  obtain⟨v,r,q,h1,h2⟩:=h
  subst q
  cases n with
  | zero=>exact Reps.nil
  | succ n=>exact Reps.cons h1 (Reps.take n h2)
theorem Reps.drop:∀ {ds:List D} {vs:List V} (n:Nat),Reps K C Z ds vs→Reps K C Z (ds.drop n) (vs.drop n)
 | [],vs,n,h=>by rw[Reps]at h;subst h;simpa using Reps.nil
 | d::ds,vs,n,h=>by
  rw[Reps]at h
  obtain⟨v,r,q,h1,h2⟩:=h
  subst q
  cases n with
  | zero=>exact Reps.cons h1 h2
  | succ n=>exact Reps.drop n h2
end
structure Ex (H Z H' Z':Hp):Prop where
 same:Same H H'
 z:Same Z Z'
 sub:Same Z' H'
 new:∀ b,Z' b≠none→Z b≠none∨H b=none
theorem Ex.refl {H Z:Hp}(s:Same Z H):Ex H Z H Z:=⟨Same.refl _,Same.refl _,s,fun _ h=>.inl h⟩
theorem Ex.trans {H Z H1 Z1 H2 Z2:Hp}(a:Ex H Z H1 Z1)(b:Ex H1 Z1 H2 Z2):Ex H Z H2 Z2 :=
 ⟨a.same.trans b.same,a.z.trans b.z,b.sub,fun c h=>(b.new c h).elim (fun h1=>a.new c h1) fun h1=>.inr (a.same.free h1)⟩
theorem aJ {H:Hp}{p:Addr}{o:HO}(h:H p=none):Same H (upd H p o):=fun b u e=>by
 rw[aA (bQ e h)];exact e
theorem Ex.alloc {H Z:Hp}{p:Addr}{o:HO}(s:Same Z H)(h:H p=none):Ex H Z (upd H p o) (upd Z p o):=by
 have hz:Z p=none:=s.free h
 refine⟨aJ h,aJ hz,fun b u e=>?_,fun b hb=>?_⟩
 ·by_cases q:b=p
  ·subst q;rw[av]at e ⊢;exact e
  ·rw[aA q]at e ⊢;exact s b u e
 ·by_cases q:b=p
  ·subst q;exact .inr h
  ·rw[aA q]at hb;exact .inl hb
theorem Ex.hidden {H Z:Hp}{p:Addr}{o:HO}(s:Same Z H)(h:H p=none):Ex H Z (upd H p o) Z :=
 ⟨aJ h,Same.refl _,s.trans (aJ h),fun _ hb=>.inl hb⟩
inductive Sl where
 | val (d:D) | own (ds:List D) | mat (m:List (List D)) | dic (m:List (Key×D)) | dit (m:List (List Int×D))
abbrev SS:=List (Option Sl)
structure Fx where
 K:PySem.W.Frag
 C:Nat→Addr
 H0:Hp
 Z0:Hp
 E:XK
def Rows (F:Fx)(H Z:Hp):List (List D)→List Addr→Prop
 | [],[]=>True
 | ds::m,r::rs=>(∃ vs,H r=some (.lst vs)∧Reps F.K F.C Z ds vs)∧Rows F H Z m rs
 | _,_=>False
def Pairs {κ:Type}(F:Fx)(Z:Hp)(m:List (κ×D))(kvs:List (κ×V)):Prop:=kvs.map Prod.fst=m.map Prod.fst∧Reps F.K F.C Z (m.map Prod.snd) (kvs.map Prod.snd)
def Ow (F:Fx)(H Z:Hp):Sl→V→List Addr→Prop
 | .val d,v,A=>A=[]∧Rep F.K F.C Z d v
 | .own ds,v,A=>∃ a vs,v=.ref a∧A=[a]∧H a=some (.lst vs)∧Reps F.K F.C Z ds vs
 | .mat m,v,A=>∃ a rs,v=.ref a∧A=a::rs∧H a=some (.lst (rs.map V.ref))∧Rows F H Z m rs
 | .dic m,v,A=>∃ a kvs,v=.ref a∧A=[a]∧H a=some (.dK kvs)∧Pairs F Z m kvs
 | .dit m,v,A=>∃ a kvs,v=.ref a∧A=[a]∧H a=some (tabO a kvs)∧kvs.map (·.1)=m.map (·.1)∧(∀ x∈kvs,SqT F.K Z x.2.1 (x.1.map V.int))∧Reps F.K F.C Z (m.map (·.2)) (kvs.map (·.2.2))
structure Priv (F:Fx)(Z:Hp)(A:List Addr):Prop where
 nd:A.Nodup
 z:∀ a∈A,Z a=none
 h0:∀ a∈A,F.H0 a=none
structure StOk (F:Fx)(H Z:Hp)(S:SS)(σ:St):Prop where
 ex:Ex F.H0 F.Z0 H Z
 len:S.length=σ.length
 sl:∀ (i:Nat) (x:Sl),S[i]?=some (some x)→∃ v A,σ[i]?=some (some v)∧Ow F H Z x v A∧Priv F Z A
 dj:∀ (i j:Nat) (x y:Sl) (v w:V) (A B:List Addr),i≠j→S[i]?=some (some x)→S[j]?=some (some y)→σ[i]?=some (some v)→σ[j]?=some (some w)→Ow F H Z x v A→Ow F H Z y w B→∀ a∈A,a∉B
section
variable {F:Fx}{H Z H' Z':Hp}{S:SS}{σ:St}{x:Sl}{v:V}{A B:List Addr}
theorem Rows.mono (hz:Same Z Z'):∀ {m:List (List D)} {rs:List Addr},Rows F H Z m rs→(∀ a∈rs,∀ o,H a=some o→H' a=some o)→Rows F H' Z' m rs
 | [],[],_,_=>trivial
 | ds::m,r::rs,h,k=>by
  obtain⟨⟨vs,e,q⟩,h⟩:=h
  exact⟨⟨vs,k r (.head _) _ e,q.mono hz⟩,Rows.mono hz h fun a ha=>k a (.tail _ ha)⟩
 | [],_::_,h,_=>h.elim
 | _::_,[],h,_=>h.elim
theorem Rows.there:∀ {m:List (List D)} {rs:List Addr},Rows F H Z m rs→∀ a∈rs,∃ o,H a=some o
 | [],[],_,a,ha=>nomatch ha
 | ds::m,r::rs,h,a,ha=>by
  obtain⟨⟨vs,e,q⟩,h⟩:=h
  rcases List.mem_cons.mp ha with rfl | ha
  ·exact⟨_,e⟩
  ·exact Rows.there h a ha
 | [],_::_,h,_,_=>h.elim
 | _::_,[],h,_,_=>h.elim
theorem Rows.len:∀ {m:List (List D)} {rs:List Addr},Rows F H Z m rs→rs.length=m.length
 | [],[],_=>rfl
 | ds::m,r::rs,h=>by rw[List.length_cons,List.length_cons,Rows.len h.2]
 | [],_::_,h=>h.elim
 | _::_,[],h=>h.elim
theorem ma:∀ {rs qs:List Addr},rs.map V.ref=qs.map V.ref→rs=qs
 | [],[],_=>rfl
 | r::rs,q::qs,h=>by
  rw[List.map_cons,List.map_cons]at h
  injection h with h1 h2
  injection h1 with h1
  rw[h1,ma h2]
 | [],_::_,h=>nomatch h
 | _::_,[],h=>nomatch h
theorem Ow.mono (hz:Same Z Z')(h:Ow F H Z x v A)(hs:∀ a∈A,∀ o,H a=some o→H' a=some o):Ow F H' Z' x v A:=by
 cases x with
 | val d=>exact⟨h.1,h.2.mono hz⟩
 | own ds =>
  obtain⟨a,vs,e1,e2,e3,r⟩:=h
  exact⟨a,vs,e1,e2,hs a (by rw[e2];exact .head _) _ e3,r.mono hz⟩
 | mat m =>
  obtain⟨a,rs,e1,e2,e3,r⟩:=h
  exact⟨a,rs,e1,e2,hs a (by rw[e2];exact .head _) _ e3,r.mono hz fun b hb=>hs b (by rw[e2];exact .tail _ hb)⟩
 | dic m =>
  obtain⟨a,vs,e1,e2,e3,r⟩:=h
  exact⟨a,vs,e1,e2,hs a (by rw[e2];exact .head _) _ e3,r.1,r.2.mono hz⟩
 | dit m =>
  obtain⟨a,vs,e1,e2,e3,r⟩:=h
  exact⟨a,vs,e1,e2,hs a (by rw[e2];exact .head _) _ e3,r.1,fun x hx=>(r.2.1 x hx).mono hz,r.2.2.mono hz⟩
theorem Ow.det (h:Ow F H Z x v A)(h':Ow F H Z x v B):A=B:=by
 cases x with
 | val d=>rw[h.1,h'.1]
 | own ds =>
  obtain⟨a,vs,e1,e2,_⟩:=h
  obtain⟨b,us,f1,f2,_⟩:=h'
  rw[e1]at f1;cases f1
  rw[e2,f2]
 | mat m =>
  obtain⟨a,rs,e1,e2,e3,_⟩:=h
  obtain⟨b,qs,f1,f2,f3,_⟩:=h'
  rw[e1]at f1;cases f1
  rw[e3]at f3
  injection f3 with f3
  injection f3 with f3
  rw[e2,f2,ma f3]
 | dic m =>
  obtain⟨a,vs,e1,e2,_⟩:=h
  obtain⟨b,us,f1,f2,_⟩:=h'
  rw[e1]at f1;cases f1
  rw[e2,f2]
 | dit m =>
  obtain⟨a,vs,e1,e2,_⟩:=h
  obtain⟨b,us,f1,f2,_⟩:=h'
  rw[e1]at f1;cases f1
  rw[e2,f2]
theorem Ow.there (h:Ow F H Z x v A):∀ a∈A,∃ o,H a=some o:=fun a ha=>by
 cases x with
 | val d=>rw[h.1]at ha;cases ha
 | own ds =>
  obtain⟨b,vs,e1,e2,e3,r⟩:=h
  rw[e2]at ha
  cases List.mem_singleton.mp ha
  exact⟨_,e3⟩
 | mat m =>
  obtain⟨b,rs,e1,e2,e3,r⟩:=h
  rw[e2]at ha
  rcases List.mem_cons.mp ha with rfl | ha
  ·exact⟨_,e3⟩
  ·exact r.there a ha
 | dic m =>
  obtain⟨b,vs,e1,e2,e3,r⟩:=h
  rw[e2]at ha
  cases List.mem_singleton.mp ha
  exact⟨_,e3⟩
 | dit m =>
  obtain⟨b,vs,e1,e2,e3,r⟩:=h
  rw[e2]at ha
  cases List.mem_singleton.mp ha
  exact⟨_,e3⟩
theorem StOk.sub (h:StOk F H Z S σ):Same Z H:=h.ex.sub
theorem StOk.more (h:StOk F H Z S σ)(x:Ex H Z H' Z'):StOk F H' Z' S σ:=by
 have up:∀ {y:Sl} {v:V} {A:List Addr},Ow F H Z y v A→Ow F H' Z' y v A:=fun o=>o.mono x.z fun a _ o e=>x.same _ _ e
 refine⟨h.ex.trans x,h.len,fun i y e=>?_,fun i j y z v w A B hij e1 e2 e3 e4 o1 o2=>?_⟩
 ·obtain⟨v,A,e1,o,p⟩:=h.sl i y e
  refine⟨v,A,e1,up o,p.nd,fun a ha=>?_,p.h0⟩
  cases q:Z' a with
  | none=>rfl
  | some u =>
   obtain⟨w,hw⟩:=o.there a ha
   rcases x.new a (by rw[q];simp) with z | z
   ·exact absurd (p.z a ha) z
   ·rw[hw]at z;cases z
 ·obtain⟨v',A',f1,q1,_⟩:=h.sl i y e1
  obtain⟨w',B',f2,q2,_⟩:=h.sl j z e2
  rw[e3]at f1;cases f1
  rw[e4]at f2;cases f2
  rw[o1.det (up q1),o2.det (up q2)]
  exact h.dj i j y z v w A' B' hij e1 e2 e3 e4 q1 q2
theorem StOk.val (h:StOk F H Z S σ)(i:Nat)(d:D)(e:S[i]?=some (some (.val d))):∃ v,σ[i]?=some (some v)∧Rep F.K F.C Z d v:=by
 obtain⟨v,A,e1,o,_⟩:=h.sl i _ e
 exact⟨v,e1,o.2⟩
theorem StOk.own (h:StOk F H Z S σ)(i:Nat)(ds:List D)(e:S[i]?=some (some (.own ds))):∃ a vs,σ[i]?=some (some (.ref a))∧H a=some (.lst vs)∧Z a=none∧F.H0 a=none∧Reps F.K F.C Z ds vs:=by
 obtain⟨v,A,e1,⟨a,vs,rfl,rfl,q,r⟩,p⟩:=h.sl i _ e
 exact⟨a,vs,e1,q,p.z a (.head _),p.h0 a (.head _),r⟩
theorem StOk.put (h:StOk F H Z S σ){i:Nat}(o:Ow F H Z x v A)(p:Priv F Z A)(hn:∀ (j:Nat) (y:Sl) (w:V) (B:List Addr),j≠i→S[j]?=some (some y)→σ[j]?=some (some w)→Ow F H Z y w B→∀ a∈A,a∉B) :
  StOk F H Z (S.set i (some x)) (σ.set i (some v)):=by
 have self:∀ {y:Option Sl},(S.set i (some x))[i]?=some y→y=some x∧i < S.length:=fun {y} e=>by
  by_cases hl:i < S.length
  ·rw[List.getElem?_set_self hl]at e;cases e;exact⟨rfl,hl⟩
  ·rw[List.getElem?_eq_none (by simpa using hl)]at e;cases e
 refine⟨h.ex,by simp[h.len],fun j y e=>?_,fun j k y z w u A' B' hjk e1 e2 e3 e4 o1 o2=>?_⟩
 ·by_cases q:i=j
  ·subst q
   obtain⟨z,hl⟩:=self e
   cases z
   exact⟨v,A,by rw[List.getElem?_set_self (by rw[← h.len];exact hl)],o,p⟩
  ·rw[List.getElem?_set_ne q]at e ⊢
   exact h.sl j y e
 ·by_cases q:i=j
  ·have q2:i≠k:=fun z=>hjk (q ▸ z)
   subst q
   obtain⟨z,hl⟩:=self e1
   cases z
   rw[List.getElem?_set_self (by rw[← h.len];exact hl)]at e3
   cases e3
   rw[List.getElem?_set_ne q2]at e2 e4
   rw[o1.det o]
   exact hn k _ _ _ (Ne.symm q2) e2 e4 o2
  ·rw[List.getElem?_set_ne q]at e1 e3
   by_cases q2:i=k
   ·subst q2
    obtain⟨z,hl⟩:=self e2
    cases z
    rw[List.getElem?_set_self (by rw[← h.len];exact hl)]at e4
    cases e4
    rw[o2.det o]
    exact fun a ha hb=>hn j _ _ _ (Ne.symm q) e1 e3 o1 a hb ha
   ·rw[List.getElem?_set_ne q2]at e2 e4
    exact h.dj j k _ _ _ _ _ _ hjk e1 e2 e3 e4 o1 o2
theorem Priv.nil:Priv F Z []:=⟨List.Pairwise.nil,(fun _ h=>nomatch h),(fun _ h=>nomatch h)⟩
theorem StOk.setVal (h:StOk F H Z S σ){i:Nat}{d:D}{v:V}(r:Rep F.K F.C Z d v):StOk F H Z (S.set i (some (.val d))) (σ.set i (some v)) :=
 h.put (x:=.val d) (A:=[]) ⟨rfl,r⟩ Priv.nil fun _ _ _ _ _ _ _ _ _ ha=>nomatch ha
theorem StOk.putNew (h:StOk F H Z S σ){i:Nat}(e:Ex H Z H' Z')(o:Ow F H' Z' x v A)(p:Priv F Z' A)(hn:∀ a∈A,H a=none):StOk F H' Z' (S.set i (some x)) (σ.set i (some v)):=by
 refine(h.more e).put o p fun j y w B hj e1 e2 o2 a ha hb=>?_
 obtain⟨w',B',f1,q,_⟩:=h.sl j y e1
 rw[e2]at f1;cases f1
 rw[o2.det (q.mono e.z fun a _ o e'=>e.same _ _ e')]at hb
 obtain⟨u,hu⟩:=q.there a hb
 rw[hn a ha]at hu;cases hu
theorem StOk.newOwn (h:StOk F H Z S σ){i:Nat}{a:Addr}{ds:List D}{vs:List V}(hp:H a=none)(r:Reps F.K F.C Z ds vs):StOk F (upd H a (.lst vs)) Z (S.set i (some (.own ds))) (σ.set i (some (.ref a))) :=
 h.putNew (x:=.own ds) (A:=[a]) (Ex.hidden h.sub hp) ⟨a,vs,rfl,rfl,av,r⟩ ⟨by simp,fun b hb=>by cases List.mem_singleton.mp hb;exact h.sub.free hp,fun b hb=>by cases List.mem_singleton.mp hb;exact h.ex.same.free hp⟩ fun b hb=>by cases List.mem_singleton.mp hb;exact hp
theorem StOk.rewr (h:StOk F H Z S σ){i:Nat}{x':Sl}(e:S[i]?=some (some x))(ev:σ[i]?=some (some v))(o:Ow F H Z x v A)(o':Ow F H' Z x' v A)(hH:∀ b,b∉A→H' b=H b):StOk F H' Z (S.set i (some x')) σ:=by
 have hl:i < S.length:=(List.getElem?_eq_some_iff.mp e).1
 obtain⟨v',A',f1,q1,p⟩:=h.sl i x e
 rw[ev]at f1;cases f1
 cases o.det q1
 have up:∀ {j:Nat} {y:Sl} {w:V} {B:List Addr},j≠i→S[j]?=some (some y)→σ[j]?=some (some w)→Ow F H Z y w B→Ow F H' Z y w B:=fun {j y w B} hj e1 e2 q=>q.mono (Same.refl _) fun b hb u eu=>by
  rw[hH b (h.dj j i y x w v B A hj e1 e e2 ev q o b hb)];exact eu
 refine⟨⟨fun b u q=>?_,h.ex.z,fun b u q=>?_,h.ex.new⟩,by simp[h.len],fun j y q=>?_,fun j k y z w u A' B' hjk e1 e2 e3 e4 o1 o2=>?_⟩
 ·rw[hH b fun z=>by rw[p.h0 b z]at q;cases q];exact h.ex.same b u q
 ·rw[hH b fun z=>by rw[p.z b z]at q;cases q];exact h.ex.sub b u q
 ·by_cases z:i=j
  ·subst z
   rw[List.getElem?_set_self hl]at q;cases q
   exact⟨v,A,ev,o',p⟩
  ·rw[List.getElem?_set_ne z]at q
   obtain⟨w,B,g1,g2,g3⟩:=h.sl j y q
   exact⟨w,B,g1,up (Ne.symm z) q g1 g2,g3⟩
 ·have one:∀ {j:Nat} {y:Sl} {w:V} {B:List Addr},(S.set i (some x'))[j]?=some (some y)→σ[j]?=some (some w)→Ow F H' Z y w B→∃ y0,S[j]?=some (some y0)∧Ow F H Z y0 w B:=fun {j y w B} g1 g2 g3=>by
   by_cases z:i=j
   ·subst z
    rw[List.getElem?_set_self hl]at g1;cases g1
    rw[ev]at g2;cases g2
    rw[g3.det o']
    exact⟨x,e,o⟩
   ·rw[List.getElem?_set_ne z]at g1
    obtain⟨w',B',k1,k2,_⟩:=h.sl j y g1
    rw[g2]at k1;cases k1
    rw[g3.det (up (Ne.symm z) g1 g2 k2)]
    exact⟨y,g1,k2⟩
  obtain⟨y0,a1,a2⟩:=one e1 e3 o1
  obtain⟨z0,b1,b2⟩:=one e2 e4 o2
  exact h.dj j k y0 z0 w u A' B' hjk a1 b1 e3 e4 a2 b2
theorem StOk.write (h:StOk F H Z S σ){i:Nat}{ds es:List D}{a:Addr}{us:List V}(e:S[i]?=some (some (.own ds)))(ha:σ[i]?=some (some (.ref a)))(r:Reps F.K F.C Z es us) :
  StOk F (upd H a (.lst us)) Z (S.set i (some (.own es))) σ:=by
 obtain⟨a',vs,e1,e2,e3,e4,r0⟩:=h.own i ds e
 rw[ha]at e1;cases e1
 exact h.rewr (x:=.own ds) (A:=[a]) e ha ⟨a,vs,rfl,rfl,e2,r0⟩ ⟨a,us,rfl,rfl,av,r⟩ fun b hb=>aA fun z=>hb (by rw[z];exact .head _)
theorem StOk.frzAll (h:StOk F H Z S σ){i:Nat}{d:D}(e:S[i]?=some (some x))(ev:σ[i]?=some (some v))(o:Ow F H Z x v A)(hz:Same Z Z')(hsub:Same Z' H)(hnew:∀ b,Z' b≠none→Z b≠none∨b∈A)(r:Rep F.K F.C Z' d v):StOk F H Z' (S.set i (some (.val d))) σ:=by
 have hl:i < S.length:=(List.getElem?_eq_some_iff.mp e).1
 obtain⟨v',A',f1,q1,p⟩:=h.sl i x e
 rw[ev]at f1;cases f1
 cases o.det q1
 have up:∀ {y:Sl} {w:V} {B:List Addr},Ow F H Z y w B→Ow F H Z' y w B:=fun q=>q.mono hz fun _ _ _ e=>e
 refine⟨⟨h.ex.same,h.ex.z.trans hz,hsub,fun b q=>?_⟩,by simp[h.len],fun j y q=>?_,fun j k y z w u A' B' hjk e1 e2 e3 e4 o1 o2=>?_⟩
 ·rcases hnew b q with z | z
  ·exact h.ex.new b z
  ·exact .inr (p.h0 b z)
 ·by_cases z:i=j
  ·subst z
   rw[List.getElem?_set_self hl]at q;cases q
   exact⟨v,[],ev,⟨rfl,r⟩,Priv.nil⟩
  ·rw[List.getElem?_set_ne z]at q
   obtain⟨w,B,g1,g2,g3⟩:=h.sl j y q
   refine⟨w,B,g1,up g2,g3.nd,fun b hb=>?_,g3.h0⟩
   cases qz:Z' b with
   | none=>rfl
   | some u =>
    rcases hnew b (by rw[qz];simp) with y1 | y1
    ·exact absurd (g3.z b hb) y1
    ·exact absurd y1 (h.dj j i _ _ _ _ _ _ (Ne.symm z) q e g1 ev g2 o b hb)
 ·have one:∀ {j:Nat} {y:Sl} {w:V} {B:List Addr},(S.set i (some (.val d)))[j]?=some (some y)→σ[j]?=some (some w)→Ow F H Z' y w B→B=[]∨(j≠i∧S[j]?=some (some y)∧Ow F H Z y w B):=fun {j y w B} g1 g2 g3=>by
   by_cases z:i=j
   ·subst z
    rw[List.getElem?_set_self hl]at g1;cases g1
    exact .inl g3.1
   ·rw[List.getElem?_set_ne z]at g1
    obtain⟨w',B',k1,k2,_⟩:=h.sl j y g1
    rw[g2]at k1;cases k1
    rw[g3.det (up k2)]
    exact .inr ⟨Ne.symm z,g1,k2⟩
  rcases one e1 e3 o1 with z1 | ⟨_,z1,z2⟩
  ·rw[z1];exact fun a ha=>nomatch ha
  ·rcases one e2 e4 o2 with y1 | ⟨_,y1,y2⟩
   ·rw[y1];exact fun a _ ha=>nomatch ha
   ·exact h.dj j k _ _ _ _ _ _ hjk z1 y1 e3 e4 z2 y2
theorem StOk.freeze (h:StOk F H Z S σ){i:Nat}{ds:List D}(e:S[i]?=some (some (.own ds))):∃ Z',Same Z Z'∧StOk F H Z' (S.set i (some (.val (.lst ds)))) σ:=by
 obtain⟨a,vs,e1,e2,e3,e4,r⟩:=h.own i ds e
 have hz:Same Z (upd Z a (.lst vs)):=aJ e3
 refine⟨upd Z a (.lst vs),hz,h.frzAll (x:=.own ds) (A:=[a]) e e1 ⟨a,vs,rfl,rfl,e2,r⟩ hz (fun b o q=>?_) (fun b q=>?_) (by rw[Rep];exact⟨a,vs,rfl,SqL.of av,r.mono hz⟩)⟩
 ·by_cases y:b=a
  ·subst y;rw[av]at q;cases q;exact e2
  ·rw[aA y]at q;exact h.ex.sub b o q
 ·by_cases y:b=a
  ·exact .inr (by rw[y];exact .head _)
  ·rw[aA y]at q;exact .inl q
end
theorem sN {F G:Fx}{H Z:Hp}(hK:G.K=F.K:=by rfl)(hC:G.C=F.C:=by rfl):∀ {m:List (List D)} {rs:List Addr},Rows F H Z m rs→Rows G H Z m rs
 | [],[],_=>trivial
 | ds::m,r::rs,h=>by
  obtain⟨⟨vs,e,q⟩,h⟩:=h
  exact⟨⟨vs,e,by rw[hK,hC];exact q⟩,sN hK hC h⟩
 | [],_::_,h=>h.elim
 | _::_,[],h=>h.elim
theorem ow_K {F G:Fx}{H Z:Hp}{x:Sl}{v:V}{A:List Addr}(h:Ow F H Z x v A)(hK:G.K=F.K:=by rfl)(hC:G.C=F.C:=by rfl):Ow G H Z x v A:=by
 cases x with
 | val d=>exact⟨h.1,by rw[hK,hC];exact h.2⟩
 | own ds=>obtain⟨a,vs,e1,e2,e3,r⟩:=h;exact⟨a,vs,e1,e2,e3,by rw[hK,hC];exact r⟩
 | mat m=>obtain⟨a,rs,e1,e2,e3,r⟩:=h;exact⟨a,rs,e1,e2,e3,sN hK hC r⟩
 | dic m=>obtain⟨a,vs,e1,e2,e3,r⟩:=h;exact⟨a,vs,e1,e2,e3,r.1,by rw[hK,hC];exact r.2⟩
 | dit m=>obtain⟨a,vs,e1,e2,e3,r⟩:=h;exact⟨a,vs,e1,e2,e3,r.1,by rw[hK];exact r.2.1,by rw[hK,hC];exact r.2.2⟩
def WG {α:Type}(F:Fx)(H Z:Hp)(r:R α)(P:α→Hp→Hp→Prop):Prop:=match r with
 | .ok a=>∀ H' Z',Ex H Z H' Z'→P a H' Z'
 | .err k=>∀ H',Same H H'→F.E (.ref (F.C k)) none H'
 | .stuck=>False
section
variable {α:Type}{F:Fx}{H Z H1 Z1:Hp}{r:R α}{P P':α→Hp→Hp→Prop}
theorem WG.more (w:WG F H Z r P)(x:Ex H Z H1 Z1):WG F H1 Z1 r P:=by
 cases r with
 | ok a=>exact fun H' Z' y=>w H' Z' (x.trans y)
 | err k=>exact fun H' y=>w H' (x.same.trans y)
 | stuck=>exact w
theorem WG.now {a:α}(w:WG F H Z (.ok a) P)(s:Same Z H):P a H Z:=w H Z (Ex.refl s)
end
def tE (F:Fx)(g:SS→R D):TE:=fun σ H Q=>∃ Z S,StOk F H Z S σ∧WG F H Z (g S) fun d H' Z'=>∀ v,Rep F.K F.C Z' d v→Q v H'
def tT (F:Fx)(g:SS→R Bool):TT:=fun σ H Q=>∃ Z S,StOk F H Z S σ∧WG F H Z (g S) fun b H' _=>Q b H'
def tAl (F:Fx)(g:SS→R (List D)):TA:=fun σ H Q=>∃ Z S,StOk F H Z S σ∧WG F H Z (g S) fun ds H' Z'=>∀ vs,Reps F.K F.C Z' ds vs→Q vs H'
inductive O where
 | nx (S:SS) | rt (d:D) | er (k:Nat) | bk (S:SS) | ct (S:SS) | stuck
def WO (F:Fx)(Z:Hp)(o:O)(D:Ends):Prop:=match o with
 | .nx S=>∀ σ H Z',Same Z Z'→StOk F H Z' S σ→D.nx σ H
 | .rt d=>∀ v H Z',Ex F.H0 F.Z0 H Z'→Rep F.K F.C Z' d v→D.rt v H
 | .er k=>∀ H,Same F.H0 H→F.E (.ref (F.C k)) none H
 | .bk S=>∀ σ H Z',Same Z Z'→StOk F H Z' S σ→D.bk σ H
 | .ct S=>∀ σ H Z',Same Z Z'→StOk F H Z' S σ→D.ct σ H
 | .stuck=>False
theorem WO.more {F:Fx}{Z Z1:Hp}{o:O}{D:Ends}(w:WO F Z o D)(z:Same Z Z1):WO F Z1 o D:=by
 cases o with
 | nx S=>exact fun σ H Z' q=>w σ H Z' (z.trans q)
 | rt d=>exact w
 | er k=>exact w
 | bk S=>exact fun σ H Z' q=>w σ H Z' (z.trans q)
 | ct S=>exact fun σ H Z' q=>w σ H Z' (z.trans q)
 | stuck=>exact w
def tS (F:Fx)(g:SS→O):TS:=fun D σ H=>∃ Z S,StOk F H Z S σ∧WO F Z (g S) D
abbrev FE (X:Cx)(F:Fx)(e:Expr)(g:SS→R D):Prop:=PE X e (tE F g)
abbrev FT (X:Cx)(F:Fx)(e:Expr)(g:SS→R Bool):Prop:=PT X e (tT F g)
abbrev FW (X:Cx)(F:Fx)(e:Expr)(g:SS→R Bool):Prop:=PW X e (tT F g)
abbrev FA (X:Cx)(F:Fx)(es:List Expr)(g:SS→R (List D)):Prop:=PA X es (tAl F g)
abbrev FS (X:Cx)(F:Fx)(st:Stmt)(g:SS→O):Prop:=PS X st (tS F g)
abbrev FSs (X:Cx)(F:Fx)(sts:List Stmt)(g:SS→O):Prop:=PSs X sts (tS F g)
theorem _root_.L2.PE.weak {X:Cx}{e:Expr}{t t':TE}(h:PE X e t)(w:∀ σ H Q,t' σ H Q→t σ H Q):PE X e t':=fun pins s σ H Q I q=>h pins s σ H Q I (w σ H Q q)
theorem _root_.L2.PT.weak {X:Cx}{e:Expr}{t t':TT}(h:PT X e t)(w:∀ σ H Q,t' σ H Q→t σ H Q):PT X e t':=fun pins s σ H Q I q=>h pins s σ H Q I (w σ H Q q)
theorem _root_.L2.PW.weak {X:Cx}{e:Expr}{t t':TT}(h:PW X e t)(w:∀ σ H Q,t' σ H Q→t σ H Q):PW X e t':=fun wh pins s σ H Q I q=>h wh pins s σ H Q I (w σ H Q q)
theorem _root_.L2.PA.weak {X:Cx}{e:List Expr}{t t':TA}(h:PA X e t)(w:∀ σ H Q,t' σ H Q→t σ H Q):PA X e t':=fun p pins s σ H Q I q=>h p pins s σ H Q I (w σ H Q q)
theorem _root_.L2.PS.weak {X:Cx}{e:Stmt}{t t':TS}(h:PS X e t)(w:∀ D σ H,t' D σ H→t D σ H):PS X e t':=fun pins s σ H D I q=>h pins s σ H D I (w D σ H q)
theorem _root_.L2.PSs.weak {X:Cx}{e:List Stmt}{t t':TS}(h:PSs X e t)(w:∀ D σ H,t' D σ H→t D σ H):PSs X e t':=fun pins s σ H D I q=>h pins s σ H D I (w D σ H q)
section
variable {F:Fx}{σ:St}{H Z:Hp}{S:SS}
theorem aH {α:Type}{g:SS→R D}{k:D→R α}{P:α→Hp→Hp→Prop}{Q:VK}(ok:StOk F H Z S σ)(w:WG F H Z ((g S).bind k) P)
  (h:∀ d v H1 Z1,StOk F H1 Z1 S σ→Ex H Z H1 Z1→Rep F.K F.C Z1 d v→WG F H1 Z1 (k d) P→Q v H1):tE F g σ H Q:=by
 refine⟨Z,S,ok,?_⟩
 cases e:g S with
 | ok d =>
  rw[e]at w
  intro H1 Z1 x v r
  exact h d v H1 Z1 (ok.more x) x r (WG.more (r:=k d) w x)
 | err k=>rw[e]at w;exact w
 | stuck=>rw[e]at w;exact w
theorem fQ {α:Type}{g:SS→R Bool}{k:Bool→R α}{P:α→Hp→Hp→Prop}{Q:Bool→Hp→Prop}(ok:StOk F H Z S σ)(w:WG F H Z ((g S).bind k) P)
  (h:∀ b H1 Z1,StOk F H1 Z1 S σ→Ex H Z H1 Z1→WG F H1 Z1 (k b) P→Q b H1):tT F g σ H Q:=by
 refine⟨Z,S,ok,?_⟩
 cases e:g S with
 | ok d =>
  rw[e]at w
  intro H1 Z1 x
  exact h d H1 Z1 (ok.more x) x (WG.more (r:=k d) w x)
 | err k=>rw[e]at w;exact w
 | stuck=>rw[e]at w;exact w
theorem aZ {α:Type}{g:SS→R (List D)}{k:List D→R α}{P:α→Hp→Hp→Prop}{Q:List V→Hp→Prop}(ok:StOk F H Z S σ)(w:WG F H Z ((g S).bind k) P)
  (h:∀ ds vs H1 Z1,StOk F H1 Z1 S σ→Ex H Z H1 Z1→Reps F.K F.C Z1 ds vs→WG F H1 Z1 (k ds) P→Q vs H1):tAl F g σ H Q:=by
 refine⟨Z,S,ok,?_⟩
 cases e:g S with
 | ok d =>
  rw[e]at w
  intro H1 Z1 x v r
  exact h d v H1 Z1 (ok.more x) x r (WG.more (r:=k d) w x)
 | err k=>rw[e]at w;exact w
 | stuck=>rw[e]at w;exact w
end
def eVar (i:Nat):SS→R D:=fun S=>match S[i]? with
 | some (some (.val d))=>.ok d
 | _=>.stuck
def eC (d:D):SS→R D:=fun _=>.ok d
section
variable {X:Cx}{F:Fx}{e a b:Expr}{g ga gb:SS→R D}{pos:Pos}
theorem dP {v:V}{d:D}(h:PE X e (tC v))(r:∀ Z,Rep F.K F.C Z d v):FE X F e (eC d):=h.weak fun σ H Q ⟨Z,S,ok,w⟩=>WG.now w ok.sub v (r Z)
theorem ae {i j pos}:FE X F (.Constant (.int i) j pos) (eC (.int i)):=dP wJ fun _=>by rw[Rep]
theorem cP {b j pos}:FE X F (.Constant (.bool b) j pos) (eC (.bl b)):=dP xU fun _=>by rw[Rep]
theorem dQ {j pos}:FE X F (.Constant .none j pos) (eC .non):=dP wK fun _=>by rw[Rep]
theorem aP {x j pos}:FE X F (.Constant (.str x) j pos) (eC (.str x)):=dP wL fun _=>by rw[Rep]
theorem ac (i:Nat){x:Str}{pos:Pos}(hN:X.N[i]?=some x:=by rfl)(hv:Vis X.env.scope x:=by first | exact Or.inl rfl | exact Or.inr (Or.inl rfl) | exact Or.inr (Or.inr rfl))(hd:(x==("__debug__":Str))=false:=by decide)
  (hcd:(x==("__classdict__":Str))=false:=by decide):FE X F (.Name x pos) (eVar i):=(cO hN hv hd hcd).weak fun σ H Q ⟨Z,S,ok,w⟩=>by
 unfold eVar at w
 split at w
 ·rename_i d e
  obtain⟨v,e1,r⟩:=ok.val i d e
  exact⟨v,e1,WG.now w ok.sub v r⟩
 ·exact w.elim
end
def OpD (F:Fx)(r:R2)(f:D→D→R D):Prop:=∀ (H Z:Hp) (x y:V) (dx dy:D) (Q:VK),Same Z H→Rep F.K F.C Z dx x→Rep F.K F.C Z dy y →
 WG F H Z (f dx dy) (fun d H' Z'=>∀ v,Rep F.K F.C Z' d v→Q v H')→r x y H Q
def eOp (f:D→D→R D)(ga gb:SS→R D):SS→R D:=fun S=>(ga S).bind fun x=>(gb S).bind fun y=>f x y
section
variable {X:Cx}{F:Fx}{e a b c:Expr}{ga gb gc:SS→R D}{pos:Pos}{r:R2}{f:D→D→R D}
theorem lv (hd:OpD F r f):∀ σ H Q,tE F (eOp f ga gb) σ H Q→tOp r (tE F ga) (tE F gb) σ H Q:=fun σ H Q ⟨Z,S,ok,w⟩ =>
 aH ok w fun dx x H1 Z1 ok1 x1 rx w1=>aH ok1 w1 fun dy y H2 Z2 ok2 x2 ry w2=>hd H2 Z2 x y dx dy Q ok2.sub (rx.mono x2.z) ry w2
theorem me {op:Operator}(ho:OpR X (binaryOp op) r)(hd:OpD F r f)(ha:FE X F a ga)(hb:FE X F b gb):FE X F (.BinOp a op b pos) (eOp f ga gb):=(xY ho ha hb).weak (lv hd)
theorem oh {op:CmpOp}(ho:OpR X (compareOp op) r)(hd:OpD F r f)(ha:FE X F a ga)(hb:FE X F b gb)(hm:behindInMarks op b=false:=by first | exact nomark _ | rfl):FE X F (.Compare a [op] [b] pos) (eOp f ga gb) :=
 (pd ho ha hb hm).weak (lv hd)
theorem ye (ho:IxR X r)(hd:OpD F r f)(ha:FE X F a ga)(hb:FE X F b gb)(hs:PlainIx b:=by intro _ _;rfl):FE X F (.Subscript a b pos) (eOp f ga gb):=(wy ho ha hb hs).weak (lv hd)
def asB (r:R D):R Bool:=r.bind fun d=>match d with
 | .bl b=>.ok b
 | _=>.stuck
def gB (g:SS→R D):SS→R Bool:=fun S=>asB (g S)
theorem pq {t:TE}{g:SS→R D}(h:∀ σ H Q,tE F g σ H Q→t σ H Q):∀ σ H Q,tT F (gB g) σ H Q→tTest t σ H Q:=fun σ H Q ⟨Z,S,ok,w⟩=>by
 refine h σ H _ (aH ok w fun d v H1 Z1 ok1 x1 rv w1=>?_)
 cases d with
 | bl b=>rw[Rep]at rv;exact⟨b,rv,WG.now w1 ok1.sub⟩
 | _=>exact w1.elim
theorem aI {g:SS→R D}(h:FE X F e g)(he:∀ whole,isTrue e X.env whole=(do let v ← whole;standAt e.pos;holding [v] (truthy v)):=by intro _;rfl):FT X F e (gB g) :=
 (wM h he).weak (pq (t:=tE F g) fun _ _ _ q=>q)
theorem gY {op:CmpOp}(ho:OpR X (compareOp op) r)(hd:OpD F r f)(ha:FE X F a ga)(hb:FE X F b gb)(hm:behindInMarks op b=false:=by first | exact nomark _ | rfl):FT X F (.Compare a [op] [b] pos) (gB (eOp f ga gb)) :=
 (ph ho ha hb hm).weak (pq (lv hd))
end
def gAnd (a b:SS→R Bool):SS→R Bool:=fun S=>(a S).bind fun c=>if c=true then b S else .ok false
def gOr (a b:SS→R Bool):SS→R Bool:=fun S=>(a S).bind fun c=>if c=true then .ok true else b S
def gNot (a:SS→R Bool):SS→R Bool:=fun S=>(a S).bind fun c=>.ok (!c)
def eIf (c:SS→R Bool)(a b:SS→R D):SS→R D:=fun S=>(c S).bind fun t=>if t=true then a S else b S
section
variable {X:Cx}{F:Fx}{e a b c:Expr}{rest:List Expr}{ta tb tc:SS→R Bool}{ga gb:SS→R D}{pos:Pos}
theorem lw (h:FT X F a ta):FW X F (.BoolOp .And [a] pos) ta:=uY h
theorem bG (h:FT X F a ta):FW X F (.BoolOp .Or [a] pos) ta:=wN h
theorem oi (ha:FT X F a ta)(hb:FW X F (.BoolOp .And (b::rest) pos) tb):FW X F (.BoolOp .And (a::b::rest) pos) (gAnd ta tb) :=
 (wO ha hb).weak fun σ H Q ⟨Z,S,ok,w⟩=>fQ ok w fun d H1 Z1 ok1 x1 w1=>by
  cases d with
  | true=>exact⟨Z1,S,ok1,w1⟩
  | false=>exact WG.now w1 ok1.sub
theorem bv (ha:FT X F a ta)(hb:FW X F (.BoolOp .Or (b::rest) pos) tb):FW X F (.BoolOp .Or (a::b::rest) pos) (gOr ta tb) :=
 (xV ha hb).weak fun σ H Q ⟨Z,S,ok,w⟩=>fQ ok w fun d H1 Z1 ok1 x1 w1=>by
  cases d with
  | true=>exact WG.now w1 ok1.sub
  | false=>exact⟨Z1,S,ok1,w1⟩
theorem ft_w (h:FW X F e ta):FT X F e ta:=h.pt
theorem aQ (h:FT X F a ta):FT X F (.UnaryOp .Not a pos) (gNot ta) :=
 (wQ h).weak fun σ H Q ⟨Z,S,ok,w⟩=>fQ ok w fun d H1 Z1 ok1 x1 w1=>WG.now w1 ok1.sub
theorem di {op}(h:FE X F a ga):FE X F (.BoolOp op [a] pos) ga:=wR h
def eAnd (a b:SS→R D):SS→R D:=fun S=>(asB (a S)).bind fun c=>if c=true then b S else .ok (.bl false)
def eOr (a b:SS→R D):SS→R D:=fun S=>(asB (a S)).bind fun c=>if c=true then .ok (.bl true) else b S
def eNot (a:SS→R D):SS→R D:=fun S=>(asB (a S)).bind fun c=>.ok (.bl (!c))
theorem oj {α:Type}{σ:St}{H Z:Hp}{S:SS}{g:SS→R D}{k:Bool→R α}{P:α→Hp→Hp→Prop}{Q:VK}(ok:StOk F H Z S σ)(w:WG F H Z ((asB (g S)).bind k) P)
  (h:∀ c H1 Z1,StOk F H1 Z1 S σ→Ex H Z H1 Z1→WG F H1 Z1 (k c) P→Q (.bl c) H1):tE F g σ H Q:=by
 have e:(asB (g S)).bind k=(g S).bind fun d=>(match d with | .bl b=>R.ok b | _=>R.stuck).bind k:=by
  unfold asB;cases g S<;>rfl
 rw[e]at w
 refine aH ok w fun d v H1 Z1 ok1 x1 rv w1=>?_
 cases d with
 | bl b=>rw[Rep]at rv;subst rv;exact h b H1 Z1 ok1 x1 w1
 | _=>exact w1.elim
theorem cQ (ha:FE X F a ga)(hb:FE X F (.BoolOp .And (b::rest) pos) gb):FE X F (.BoolOp .And (a::b::rest) pos) (eAnd ga gb) :=
 (wS ha hb).weak fun σ H Q ⟨Z,S,ok,w⟩=>oj ok w fun c H1 Z1 ok1 x1 w1=>⟨c,rfl,by
  cases c with
  | true=>exact⟨Z1,S,ok1,w1⟩
  | false=>exact WG.now w1 ok1.sub _ (by rw[Rep])⟩
theorem yf (ha:FE X F a ga)(hb:FE X F (.BoolOp .Or (b::rest) pos) gb):FE X F (.BoolOp .Or (a::b::rest) pos) (eOr ga gb) :=
 (xW ha hb).weak fun σ H Q ⟨Z,S,ok,w⟩=>oj ok w fun c H1 Z1 ok1 x1 w1=>⟨c,rfl,by
  cases c with
  | true=>exact WG.now w1 ok1.sub _ (by rw[Rep])
  | false=>exact⟨Z1,S,ok1,w1⟩⟩
theorem xm (ha:FE X F a ga):FE X F (.UnaryOp .Not a pos) (eNot ga) :=
 (wT ha).weak fun σ H Q ⟨Z,S,ok,w⟩=>oj ok w fun c H1 Z1 ok1 x1 w1=>⟨c,rfl,WG.now w1 ok1.sub _ (by rw[Rep])⟩
theorem sO (hc:FT X F c tc)(ha:FE X F a ga)(hb:FE X F b gb):FE X F (.IfExp c a b pos) (eIf tc ga gb) :=
 (sy hc ha hb).weak fun σ H Q ⟨Z,S,ok,w⟩=>fQ ok w fun d H1 Z1 ok1 x1 w1=>by
  cases d with
  | true=>exact⟨Z1,S,ok1,w1⟩
  | false=>exact⟨Z1,S,ok1,w1⟩
end
def aNil:SS→R (List D):=fun _=>.ok []
def aCons (g:SS→R D)(gs:SS→R (List D)):SS→R (List D):=fun S=>(g S).bind fun d=>(gs S).bind fun ds=>.ok (d::ds)
def eTup (gs:SS→R (List D)):SS→R D:=fun S=>(gs S).bind fun ds=>if ds.length≤16777216 then .ok (.tup ds) else .stuck
def eLst (gs:SS→R (List D)):SS→R D:=fun S=>(gs S).bind fun ds=>if ds.length≤16777216 then .ok (.lst ds) else .stuck
section
variable {X:Cx}{F:Fx}{e:Expr}{es:List Expr}{g:SS→R D}{gs:SS→R (List D)}{pos:Pos}
theorem xn:FA X F [] aNil:=jb.weak fun σ H Q ⟨Z,S,ok,w⟩=>WG.now w ok.sub [] Reps.nil
theorem vc (ha:FE X F e g)(hr:FA X F es gs)(hs:starEach (e::es) X.env=(false,eval e X.env)::starEach es X.env:=by rfl):FA X F (e::es) (aCons g gs) :=
 (fe ha hr hs).weak fun σ H Q ⟨Z,S,ok,w⟩=>aH ok w fun d v H1 Z1 ok1 x1 rv w1=>aZ ok1 w1 fun ds vs H2 Z2 ok2 x2 rs w2=>WG.now w2 ok2.sub _ (Reps.cons (rv.mono x2.z) rs)
theorem sP {x1}(h:FA X F es gs):FE X F (.Tuple es x1 pos) (eTup gs) :=
 (xc h).weak fun σ H Q ⟨Z,S,ok,w⟩=>aZ ok w fun ds vs H1 Z1 ok1 x1 rs w1=>by
  split at w1
  ·rename_i hl
   refine⟨by rw[← rs.length,sizeLine_eq];exact hl,fun p hp=>?_⟩
   have z:Same Z1 (upd Z1 p (.tup vs)):=aJ (ok1.sub.free hp)
   exact w1 _ _ (Ex.alloc ok1.sub hp) _ (by rw[Rep];exact⟨p,vs,rfl,SqT.of av,rs.mono z⟩)
  ·exact w1.elim
theorem xo (h:FA X F es gs):FE X F (.List es pos) (eLst gs) :=
 (sH h).weak fun σ H Q ⟨Z,S,ok,w⟩=>aZ ok w fun ds vs H1 Z1 ok1 x1 rs w1=>by
  split at w1
  ·rename_i hl
   refine⟨by rw[← rs.length,sizeLine_eq];exact hl,fun p hp=>?_⟩
   have z:Same Z1 (upd Z1 p (.lst vs)):=aJ (ok1.sub.free hp)
   exact w1 _ _ (Ex.alloc ok1.sub hp) _ (by rw[Rep];exact⟨p,vs,rfl,SqL.of av,rs.mono z⟩)
  ·exact w1.elim
end
def rO (r:R O):O:=match r with
 | .ok o=>o
 | .err k=>.er k
 | .stuck=>.stuck
def sDrop (g:SS→R D):SS→O:=fun S=>rO ((g S).bind fun _=>.ok (.nx S))
def sRet (g:SS→R D):SS→O:=fun S=>rO ((g S).bind fun d=>.ok (.rt d))
def sSet (i:Nat)(g:SS→R D):SS→O:=fun S=>rO ((g S).bind fun d=>.ok (.nx (S.set i (some (.val d)))))
section
variable {X:Cx}{F:Fx}{st:Stmt}{rest:List Stmt}{e c:Expr}{g:SS→R D}{gt:SS→R Bool}{ga gb:SS→O}{pos:Pos}
theorem WO.wg {D:Ends}{r:R O}{H Z:Hp}{S:SS}{σ:St}(ok:StOk F H Z S σ)(w:WO F Z (rO r) D):WG F H Z r fun o _ Z'=>WO F Z' o D:=by
 cases r with
 | ok o=>exact fun _ _ x=>WO.more w x.z
 | err k=>exact fun H' s=>w H' (ok.ex.same.trans s)
 | stuck=>exact w
theorem iW (h:FE X F e g)(hs:swapsWith e none pos.line X.env=pure false:=by rfl):FS X F (.Expr e pos) (sDrop g) :=
 (iV h hs).weak fun D σ H ⟨Z,S,ok,w⟩=>aH ok (WO.wg ok w) fun d v H1 Z1 ok1 x1 rv w1=>WG.now w1 ok1.sub σ H1 Z1 (Same.refl _) ok1
theorem ah (h:FE X F e g):FS X F (.Return (some e) pos) (sRet g) :=
 (wU h).weak fun D σ H ⟨Z,S,ok,w⟩=>aH ok (WO.wg ok w) fun d v H1 Z1 ok1 x1 rv w1=>WG.now w1 ok1.sub v H1 Z1 ok1.ex rv
theorem aC (i:Nat){x:Str}{pos':Pos}(hN:X.N.Nodup)(h:FE X F e g)(hi:X.N[i]?=some x:=by rfl)(hx:Loc X.env.scope x:=by first | exact Or.inl rfl | exact Or.inr rfl)
  (hs:swapsWith e (some (.Name x pos')) pos.line X.env=pure false:=by rfl) (hf:X.fn x=true∨X.env.scope.names.lookup x=some .local:=by first | exact .inl rfl | exact .inr rfl):FS X F (.Assign [.Name x pos'] e pos) (sSet i g) :=
 (lh hN hi hx h hs hf).weak fun D σ H ⟨Z,S,ok,w⟩=>aH ok (WO.wg ok w) fun d v H1 Z1 ok1 x1 rv w1=>WG.now w1 ok1.sub _ _ _ (Same.refl _) (ok1.setVal rv)
end
theorem OpD.or {F:Fx}{r r':R2}{f f':D→D→R D}(p:D→D→Bool)(h:OpD F r f)(h':OpD F r' f'):OpD F (fun x y H Q=>r x y H Q∨r' x y H Q) (fun x y=>if p x y=true then f x y else f' x y):=by
 intro H Z x y dx dy Q s rx ry w
 by_cases e:p dx dy=true
 ·dsimp only at w;rw[if_pos e]at w;exact .inl (h H Z x y dx dy Q s rx ry w)
 ·dsimp only at w;rw[if_neg e]at w;exact .inr (h' H Z x y dx dy Q s rx ry w)
def dI (c:Int→Int→Bool)(g:Int→Int→D):D→D→R D
 | .int i,.int j=>if c i j=true then .ok (g i j) else .stuck
 | _,_=>.stuck
def dI0 (g:Int→Int→D):D→D→R D
 | .int i,.int j=>.ok (g i j)
 | _,_=>.stuck
theorem sQ {F:Fx}{C:Int→Int→Prop}{c:Int→Int→Bool}{g:Int→Int→V}{g':Int→Int→D}(hc:∀ i j,c i j=true→C i j)(hg:∀ i j Z,Rep F.K F.C Z (g' i j) (g i j)):OpD F (rI C g) (dI c g'):=by
 intro H Z x y dx dy Q s rx ry w
 cases dx with
 | int i =>
  cases dy with
  | int j =>
   rw[Rep]at rx
   rw[Rep]at ry
   subst rx;subst ry
   unfold dI at w
   dsimp only at w
   split at w
   ·rename_i q;exact⟨i,j,rfl,rfl,hc i j q,WG.now w s _ (hg i j Z)⟩
   ·exact w.elim
  | _=>exact w.elim
 | _=>exact w.elim
theorem b7 {F:Fx}{g:Int→Int→V}{g':Int→Int→D}(hg:∀ i j Z,Rep F.K F.C Z (g' i j) (g i j)):OpD F (rI0 g) (dI0 g'):=by
 intro H Z x y dx dy Q s rx ry w
 cases dx with
 | int i =>
  cases dy with
  | int j =>
   rw[Rep]at rx
   rw[Rep]at ry
   subst rx;subst ry
   exact⟨i,j,rfl,rfl,WG.now w s _ (hg i j Z)⟩
  | _=>exact w.elim
 | _=>exact w.elim
def cMul (i j:Int):Bool:=(decide (-(2^64) < i)&&decide (i < 2^64))||(decide (-(2^64) < j)&&decide (j < 2^64))
def cDiv (i j:Int):Bool:=decide (0 < j)&&decide (j < 1073741824)
theorem vd (i j:Int)(h:cMul i j=true):CMul i j:=by
 unfold cMul at h
 simp only[Bool.or_eq_true,Bool.and_eq_true,decide_eq_true_eq]at h
 exact h
theorem ve (i j:Int)(h:cDiv i j=true):CDiv i j:=by
 unfold cDiv at h
 simp only[Bool.and_eq_true,decide_eq_true_eq]at h
 exact h
def isInt:D→Bool
 | .int _=>true
 | _=>false
def isTup:D→Bool
 | .tup _=>true
 | _=>false
def isLst:D→Bool
 | .lst _=>true
 | _=>false
def dCatT:D→D→R D
 | .tup xs,.tup ys=>if xs.length+ys.length≤16777216 then .ok (.tup (xs++ys)) else .stuck
 | _,_=>.stuck
def dCatL:D→D→R D
 | .lst xs,.lst ys=>if xs.length+ys.length≤16777216 then .ok (.lst (xs++ys)) else .stuck
 | _,_=>.stuck
def dRepT:D→D→R D
 | .tup xs,.int k=>if 0≤k∧k < 1000000∧xs.length*k.toNat≤16777216 then .ok (.tup (List.replicate k.toNat xs).flatten) else .stuck
 | _,_=>.stuck
def dRepL:D→D→R D
 | .lst xs,.int k=>if 0≤k∧k < 1000000∧xs.length*k.toNat≤16777216 then .ok (.lst (List.replicate k.toNat xs).flatten) else .stuck
 | _,_=>.stuck
def dIx:D→D→R D
 | .tup xs,.int i=>match atI xs i with
  | some d=>.ok d
  | none=>.stuck
 | .lst xs,.int i=>match atI xs i with
  | some d=>.ok d
  | none=>.stuck
 | _,_=>.stuck
theorem Reps.at {K:PySem.W.Frag}{C:Nat→Addr}{Z:Hp}{ds:List D}{vs:List V}{i:Int}{d:D}(r:Reps K C Z ds vs)(h:atI ds i=some d):∃ v,atI vs i=some v∧Rep K C Z d v:=by
 unfold atI at h ⊢
 rw[← r.length]
 cases e:ixN ds.length i with
 | none=>rw[e]at h;cases h
 | some j =>
  rw[e]at h
  exact r.get (i:=j) h
theorem xp {F:Fx}:OpD F (rIx F.K) dIx:=by
 intro H Z x y dx dy Q s rx ry w
 cases dx with
 | tup ds =>
  cases dy with
  | int i =>
   rw[Rep]at rx
   rw[Rep]at ry
   obtain⟨a,vs,rfl,h1,h2⟩:=rx
   subst ry
   unfold dIx at w
   dsimp only at w
   split at w
   ·rename_i d e
    obtain⟨v,e1,r⟩:=h2.at e
    exact .inr (.inl ⟨a,vs,i,v,rfl,rfl,h1.mono s,e1,WG.now w s v r⟩)
   ·exact w.elim
  | _=>exact w.elim
 | lst ds =>
  cases dy with
  | int i =>
   rw[Rep]at rx
   rw[Rep]at ry
   obtain⟨a,vs,rfl,h1,h2⟩:=rx
   subst ry
   unfold dIx at w
   dsimp only at w
   split at w
   ·rename_i d e
    obtain⟨v,e1,r⟩:=h2.at e
    exact .inl ⟨a,vs,i,v,rfl,rfl,s.seq h1,e1,WG.now w s v r⟩
   ·exact w.elim
  | _=>exact w.elim
 | _=>exact w.elim
section
open AutoSeq1 (wpAny_loadPart')
theorem mf (l b:Addr)(items items2:Array Value)(n n2:Nat)(dd dd2:Option Addr)(sl sl2:Array (Option Value))(hc0:items.isEmpty=true) :
  Meets (Builtin.«tuple.__add__» ⟨[.ref l,.ref b],[]⟩) (fun _ R s=>s.heap.get? l=some { cls:=.type "tuple",dict:=dd,data:=.seq items n,slots:=sl }∧s.heap.get? b=some { cls:=.type "tuple",dict:=dd2,data:=.seq items2 n2,slots:=sl2 }∧R (.ok (.ret (.ref b))) s) :=
 .of_wp fun prog w A R s h=>by
  obtain⟨hp,g,d,tk,os⟩:=s;obtain⟨hl,hb,h⟩:=h
  have f2:=AutoSeq1.sub_tuple_tuple
  have f3:=AutoSeq1.sub_list_list
  wp_walk using wpAny_loadPart' hl,wpAny_loadPart' hb
  exact⟨_,rfl,h⟩
end
theorem fR {K:PySem.W.Frag}{C:Nat→Addr}{Z:Hp}{ds:List D}{vs:List V}(r:Reps K C Z ds vs):∀ k:Nat,Reps K C Z (List.replicate k ds).flatten (List.replicate k vs).flatten
 | 0=>Reps.nil
 | k+1=>by
  rw[List.replicate_succ,List.replicate_succ,List.flatten_cons,List.flatten_cons]
  exact r.append (fR r k)
def rCat2 (K:PySem.W.Frag):R2:=fun x y H Q=>∃ a b xs ys,x=.ref a∧y=.ref b∧SqT K H a xs∧SqT K H b ys∧xs.length+ys.length≤sizeLine∧(∀ p,H p=none→Q (.ref p) (upd H p (.tup (xs++ys))))∧(ys=[]→Q (.ref a) H)∧(xs=[]→Q (.ref b) H)
theorem vf {X:Cx}:OpR X (binaryOp .Add) (rCat2 X.K):=by
 intro pins s σ H x y v u Q I rx ry h
 obtain⟨a,b,xs,ys,rfl,rfl,ha,hb,hz,q1,q2,q3⟩:=h
 by_cases hx:xs=[]
 ·cases rx
  cases ry
  obtain⟨its,r1,p1,_⟩:=I.tuple ha
  obtain⟨its2,r2,p2,_⟩:=I.tuple hb
  obtain⟨⟨cls,dd,data,sl⟩,ho,hc,n,hd⟩:=id p1
  obtain⟨⟨cls2,dd2,data2,sl2⟩,ho2,hc2,n2,hd2⟩:=id p2
  simp only at hc hd hc2 hd2
  subst hc hd hc2 hd2
  have he:its=[]:=by
   have:=r1.length
   rw[hx]at this
   exact List.length_eq_zero_iff.mp this.symm
  exact concat_meets ⟨_,ho,rfl⟩ ⟨_,ho2,rfl⟩ noFill_tuple_add seq_tuple_add PySem.F.slot_tuple_add PySem.F.entry_tuple_add (PySem.F.args_tuple_add_2 _ _)
   (mf a b its.toArray its2.toArray n n2 dd dd2 sl sl2 (by simp[he])) ⟨ho,ho2,⟨.ref b,H,I,rfl,q3 hx⟩⟩
 ·exact u8 pins s σ H _ _ v u Q I rx ry ⟨a,b,xs,ys,rfl,rfl,ha,hb,hx,hz,q2,fun _=>q1⟩
theorem sR {F:Fx}:OpD F (rCat2 F.K) dCatT:=by
 intro H Z x y dx dy Q s rx ry w
 cases dx with
 | tup ds =>
  cases dy with
  | tup es =>
   rw[Rep]at rx
   rw[Rep]at ry
   obtain⟨a,vs,rfl,h1,h2⟩:=rx
   obtain⟨b,us,rfl,k1,k2⟩:=ry
   unfold dCatT at w
   dsimp only at w
   split at w
   ·rename_i hl
    refine⟨a,b,vs,us,rfl,rfl,h1.mono s,k1.mono s,by rw[← h2.length,← k2.length,sizeLine_eq];exact hl,fun p hp=>?_,fun e=>?_,fun e=>?_⟩
    ·have z:Same Z (upd Z p (.tup (vs++us))):=aJ (s.free hp)
     exact w _ _ (Ex.alloc s hp) _ (by rw[Rep];exact⟨p,_,rfl,SqT.of av,(h2.append k2).mono z⟩)
    ·have:es=[]:=List.length_eq_zero_iff.mp (by rw[k2.length,e];rfl)
     subst this
     exact WG.now w s _ (by rw[List.append_nil,Rep];exact⟨a,vs,rfl,h1,h2⟩)
    ·have:ds=[]:=List.length_eq_zero_iff.mp (by rw[h2.length,e];rfl)
     subst this
     exact WG.now w s _ (by rw[List.nil_append,Rep];exact⟨b,us,rfl,k1,k2⟩)
   ·exact w.elim
  | _=>exact w.elim
 | _=>exact w.elim
def rRepT (K:PySem.W.Frag):R2:=fun x y H Q=>∃ a k xs,x=.ref a∧y=.int k∧SqT K H a xs∧0≤k∧k < 1000000∧xs.length*k.toNat≤sizeLine∧(∀ p,H p=none→Q (.ref p) (upd H p (.tup (List.replicate k.toNat xs).flatten)))∧((List.replicate k.toNat xs).flatten=xs→Q (.ref a) H)
theorem vg {X:Cx}:OpR X (binaryOp .Mult) (rRepT X.K):=by
 intro pins s σ H x y v u Q I rx ry h
 obtain⟨a,k,xs,rfl,rfl,ha,h0,h1,hz,q1,q2⟩:=h
 cases rx
 obtain⟨t,rfl⟩:=ry
 obtain⟨its,r,p1,_⟩:=I.tuple ha
 have hl:=r.length
 obtain⟨⟨cls,dd,data,sl⟩,ho,hc,n,hd⟩:=id p1
 simp only at hc hd
 subst hc hd
 refine wpAny_binaryOp_repeat_ref (T := "tuple") (U := "int") (by decide) ⟨_,ho,rfl⟩ (fun s'=>typeIs_int s' k t) gX PySem.F.fills_int_mul PySem.F.slot_int_rmul lu PySem.F.slot_int_index.lookup
  (call_meets PySem.F.slot_int_rmul (typeIs_int s k t) PySem.F.entry_int_rmul (PySem.F.args_int_rmul_2 _ _) (je k t a its.toArray n dd sl) ⟨ho,rfl,⟨_,ho,rfl⟩,?_⟩)
 cases its with
 | nil =>
  have hx:xs=[]:=List.length_eq_zero_iff.mp hl
  have e:(List.replicate k.toNat xs).flatten=xs:=by rw[hx];simp
  exact call_meets PySem.F.slot_tuple_mul ⟨_,ho,rfl⟩ PySem.F.entry_tuple_mul (PySem.F.args_tuple_mul_2 _ _) (kg a n k t dd sl h0 h1) ⟨ho,⟨.ref a,H,I,rfl,q2 e⟩⟩
 | cons it its' =>
  have hne:(it::its').toArray.isEmpty=false:=by simp
  by_cases k1:k=1
  ·subst k1
   have e:(List.replicate (1:Int).toNat xs).flatten=xs:=by simp
   exact call_meets PySem.F.slot_tuple_mul ⟨_,ho,rfl⟩ PySem.F.entry_tuple_mul (PySem.F.args_tuple_mul_2 _ _) (ke a _ n t dd sl) ⟨ho,⟨.ref a,H,I,rfl,q2 e⟩⟩
  ·by_cases k0:k=0
   ·subst k0
    refine call_meets PySem.F.slot_tuple_mul ⟨_,ho,rfl⟩ PySem.F.entry_tuple_mul (PySem.F.args_tuple_mul_2 _ _) (jf a _ n t dd sl hne) ⟨ho,?_⟩
    refine⟨.ref s.heap.objs.size,_,I.laid (t':=s.toks) (o:=.tup []) (fun b ob q=>Heap.get?_push_of_some _ q) (Nat.le_refl _) ?_,rfl,q1 _ (I.hok.fresh (Nat.le_refl _))⟩
    exact⟨Nat.zero_le _,[],.nil,TupO.new _ _⟩
   ·refine call_meets PySem.F.slot_tuple_mul ⟨_,ho,rfl⟩ PySem.F.entry_tuple_mul (PySem.F.args_tuple_mul_2 _ _) (j9 a _ n k t dd sl (by omega) h1 (by rw[List.size_toArray,← hl];exact hz) hne) ⟨ho,?_⟩
    have ef:=gW (it::its') k.toNat []
    rw[List.nil_append]at ef
    have ef':List.foldl (fun x1 x2=>x1++x2) #[] (List.replicate k.toNat (it::its').toArray)=(List.replicate k.toNat (it::its')).flatten.toArray:=ef
    rw[ef']
    refine⟨.ref s.heap.objs.size,_,I.laid (t':=s.toks) (o:=.tup (List.replicate k.toNat xs).flatten) (fun b ob q=>Heap.get?_push_of_some _ q) (Nat.le_refl _) ?_,rfl,q1 _ (I.hok.fresh (Nat.le_refl _))⟩
    exact⟨by rw[pp,Nat.mul_comm];exact hz,_,r.rep k.toNat,TupO.new _ _⟩
theorem sS {F:Fx}:OpD F (rRepT F.K) dRepT:=by
 intro H Z x y dx dy Q s rx ry w
 cases dx with
 | tup ds =>
  cases dy with
  | int k =>
   rw[Rep]at rx
   rw[Rep]at ry
   obtain⟨a,vs,rfl,h1,h2⟩:=rx
   subst ry
   unfold dRepT at w
   dsimp only at w
   split at w
   ·rename_i hk
    refine⟨a,k,vs,rfl,rfl,h1.mono s,hk.1,hk.2.1,by rw[← h2.length,sizeLine_eq];exact hk.2.2,fun p hp=>?_,fun e=>?_⟩
    ·have z:Same Z (upd Z p (.tup (List.replicate k.toNat vs).flatten)):=aJ (s.free hp)
     exact w _ _ (Ex.alloc s hp) _ (by rw[Rep];exact⟨p,_,rfl,SqT.of av,(fR h2 k.toNat).mono z⟩)
    ·refine WG.now w s _ ?_
     rw[Rep]
     exact⟨a,vs,rfl,h1,by have:=fR h2 k.toNat;rw[e]at this;exact this⟩
   ·exact w.elim
  | _=>exact w.elim
 | _=>exact w.elim
theorem sT {F:Fx}:OpD F (fun x y H Q=>∃ a b xs ys,x=.ref a∧y=.ref b∧SqL F.K H a xs∧SqL F.K H b ys∧xs.length+ys.length≤sizeLine∧∀ p,H p=none→Q (.ref p) (upd H p (.lst (xs++ys)))) dCatL:=by
 intro H Z x y dx dy Q s rx ry w
 cases dx with
 | lst ds =>
  cases dy with
  | lst es =>
   rw[Rep]at rx
   rw[Rep]at ry
   obtain⟨a,vs,rfl,h1,h2⟩:=rx
   obtain⟨b,us,rfl,k1,k2⟩:=ry
   unfold dCatL at w
   dsimp only at w
   split at w
   ·rename_i hl
    refine⟨a,b,vs,us,rfl,rfl,s.seq h1,s.seq k1,by rw[← h2.length,← k2.length,sizeLine_eq];exact hl,fun p hp=>?_⟩
    have z:Same Z (upd Z p (.lst (vs++us))):=aJ (s.free hp)
    exact w _ _ (Ex.alloc s hp) _ (by rw[Rep];exact⟨p,_,rfl,SqL.of av,(h2.append k2).mono z⟩)
   ·exact w.elim
  | _=>exact w.elim
 | _=>exact w.elim
theorem sU {X:Cx}:OpR X (binaryOp .Add) (fun x y H Q=>∃ a b xs ys,x=.ref a∧y=.ref b∧SqL X.K H a xs∧SqL X.K H b ys∧xs.length+ys.length≤sizeLine∧∀ p,H p=none→Q (.ref p) (upd H p (.lst (xs++ys)))):=by
 intro pins s σ H x y v u Q I rx ry h
 obtain⟨a,b,xs,ys,rfl,rfl,ha,hb,hz,q⟩:=h
 cases rx
 cases ry
 obtain⟨its,r,⟨o,n,e,c1,c2,c3⟩,_⟩:=I.list ha
 obtain⟨its2,r2,⟨o2,n2,e2,d1,d2,d3⟩,_⟩:=I.list hb
 have l1:=r.length
 have l2:=r2.length
 obtain⟨cls,dd,data,sl⟩:=o
 obtain⟨cls2,dd2,data2,sl2⟩:=o2
 simp only at c1 c3 d1 d3
 subst c1 c3 d1 d3
 refine concat_meets ⟨_,e,rfl⟩ ⟨_,e2,rfl⟩ noFill_list_add seq_list_add PySem.F.slot_list_add PySem.F.entry_list_add (PySem.F.args_list_add_2 _ _) (qD a b its.toArray its2.toArray n n2 dd dd2 sl sl2 (by rw[List.size_toArray,List.size_toArray];omega)) ⟨e,e2,?_⟩
 have ea:its.toArray++its2.toArray=(its++its2).toArray:=by simp
 rw[ea]
 exact⟨.ref _,_,I.lnew (t':=s.toks) (r.append r2) (by rw[List.length_append];omega),rfl,q _ I.fresh⟩
def rRepL (K:PySem.W.Frag):R2:=fun x y H Q=>∃ a k xs,x=.ref a∧y=.int k∧SqL K H a xs∧0≤k∧k < 1000000∧xs.length*k.toNat≤sizeLine∧∀ p,H p=none→Q (.ref p) (upd H p (.lst (List.replicate k.toNat xs).flatten))
theorem vh {X:Cx}:OpR X (binaryOp .Mult) (rRepL X.K):=by
 intro pins s σ H x y v u Q I rx ry h
 obtain⟨a,k,xs,rfl,rfl,ha,h0,h1,hz,q⟩:=h
 cases rx
 obtain⟨t,rfl⟩:=ry
 obtain⟨its,r,⟨o,n,e,c1,c2,c3⟩,_⟩:=I.list ha
 have hl:=r.length
 obtain⟨cls,dd,data,sl⟩:=o
 simp only at c1 c3
 subst c1 c3
 refine wpAny_binaryOp_repeat_ref (T := "list") (U := "int") (by decide) ⟨_,e,rfl⟩ (fun s'=>typeIs_int s' k t) noFill_list_mul PySem.F.fills_int_mul PySem.F.slot_int_rmul repeat_list PySem.F.slot_int_index.lookup
  (call_meets PySem.F.slot_int_rmul (typeIs_int s k t) PySem.F.entry_int_rmul (PySem.F.args_int_rmul_2 _ _) (kh k t a its.toArray n dd sl) ⟨e,rfl,⟨_,e,rfl⟩,
   call_meets PySem.F.slot_list_mul ⟨_,e,rfl⟩ PySem.F.entry_list_mul (PySem.F.args_list_mul_2 _ _) (qE a its.toArray n k t dd sl (by omega) (by omega) (by rw[List.size_toArray,← hl];exact hz)) ⟨e,?_⟩⟩)
 have hnew:List.foldl (fun x1 x2=>x1++x2) #[] (List.replicate (if its.toArray.isEmpty=true then 0 else k.toNat) its.toArray)=(List.replicate k.toNat its).flatten.toArray:=by
  have f0:∀ m:Nat,List.foldl (fun x1 x2=>x1++x2) #[] (List.replicate m its.toArray)=(List.replicate m its).flatten.toArray:=fun m=>by
   have:=gW its m []
   rwa [List.nil_append]at this
  rw[f0]
  cases its with
  | nil=>simp
  | cons a r'=>rw[if_neg (by simp)]
 rw[hnew]
 exact⟨.ref _,_,I.lnew (t':=s.toks) (r.rep k.toNat) (by rw[pp,Nat.mul_comm];exact hz),rfl,q _ I.fresh⟩
theorem sV {F:Fx}:OpD F (rRepL F.K) dRepL:=by
 intro H Z x y dx dy Q s rx ry w
 cases dx with
 | lst ds =>
  cases dy with
  | int k =>
   rw[Rep]at rx
   rw[Rep]at ry
   obtain⟨a,vs,rfl,h1,h2⟩:=rx
   subst ry
   unfold dRepL at w
   dsimp only at w
   split at w
   ·rename_i hk
    refine⟨a,k,vs,rfl,rfl,s.seq h1,hk.1,hk.2.1,by rw[← h2.length,sizeLine_eq];exact hk.2.2,fun p hp=>?_⟩
    have z:Same Z (upd Z p (.lst (List.replicate k.toNat vs).flatten)):=aJ (s.free hp)
    exact w _ _ (Ex.alloc s hp) _ (by rw[Rep];exact⟨p,_,rfl,SqL.of av,(fR h2 k.toNat).mono z⟩)
   ·exact w.elim
  | _=>exact w.elim
 | _=>exact w.elim
mutual
def eqD:D→D→Bool
 | .non,.non=>true
 | .bl a,.bl b=>a==b
 | .bl a,.int b=>(if a then 1 else 0)==b
 | .int a,.bl b=>a==(if b then 1 else 0)
 | .int a,.int b=>a==b
 | .str a,.str b=>a==b
 | .tup xs,.tup ys=>eqDs xs ys
 | .lst xs,.lst ys=>eqDs xs ys
 | _,_=>false
def eqDs:List D→List D→Bool
 | [],[]=>true
 | x::xs,y::ys=>eqD x y&&eqDs xs ys
 | _,_=>false
end
mutual
def good:Nat→D→Bool
 | _,.exc _=>false
 | _,.fn _=>false
 | _,.tab _ _=>false
 | _,.dic _ _=>false
 | 0,.tup _=>false
 | 0,.lst _=>false
 | n+1,.tup xs=>goods n xs
 | n+1,.lst xs=>goods n xs
 | _,_=>true
def goods:Nat→List D→Bool
 | _,[]=>true
 | n,x::xs=>good n x&&goods n xs
end
mutual
theorem fS:∀ (n:Nat) (d:D),good n d=true→eqD d d=true
 | n,.non,_=>by simp[eqD]
 | n,.bl b,_=>by simp[eqD]
 | n,.int i,_=>by simp[eqD]
 | n,.str x,_=>by simp[eqD]
 | 0,.tup xs,h=>by simp[good]at h
 | 0,.lst xs,h=>by simp[good]at h
 | n+1,.tup xs,h=>by rw[good]at h;rw[eqD];exact gZ n xs h
 | n+1,.lst xs,h=>by rw[good]at h;rw[eqD];exact gZ n xs h
 | n,.exc k,h=>by cases n<;>simp[good]at h
 | n,.fn k,h=>by cases n<;>simp[good]at h
 | n,.tab ks xs,h=>by cases n<;>simp[good]at h
 | n,.dic ks xs,h=>by cases n<;>simp[good]at h
theorem gZ:∀ (n:Nat) (ds:List D),goods n ds=true→eqDs ds ds=true
 | n,[],_=>by simp[eqDs]
 | n,d::ds,h=>by
  rw[goods,Bool.and_eq_true]at h
  rw[eqDs,fS n d h.1,gZ n ds h.2]
  rfl
end
theorem aT {n:Nat}:∀ {ds:List D} {i:Nat} {d:D},goods n ds=true→ds[i]?=some d→good n d=true
 | [],_,_,_,e=>by simp at e
 | x::xs,0,d,h,e=>by
  rw[goods,Bool.and_eq_true]at h
  simp at e;subst e;exact h.1
 | x::xs,i+1,d,h,e=>by
  rw[goods,Bool.and_eq_true]at h
  exact aT h.2 (by simpa using e)
theorem cR:∀ (ds es:List D),eqDs ds es=((List.range (min ds.length es.length)).all (fun j=>eqD (ds.getD j .non) (es.getD j .non))&&ds.length==es.length)
 | [],[]=>by simp[eqDs]
 | [],e::es=>by simp[eqDs]
 | d::ds,[]=>by simp[eqDs]
 | d::ds,e::es=>by
  rw[eqDs,cR ds es]
  have h1:min (d::ds).length (e::es).length=min ds.length es.length+1:=by simp only[List.length_cons];omega
  rw[h1,List.range_succ_eq_map,List.all_cons,List.all_map]
  have h2:((d::ds).length==(e::es).length)=(ds.length==es.length):=by simp
  rw[h2]
  simp only[List.getD_cons_zero,Bool.and_assoc]
  rfl
section
variable {X:Cx}{F:Fx}{pins:List (Addr×Obj)}{σ:St}{H Z:Hp}{s:Shared}
theorem kF {a:Addr}{xs ys:List V}(I:Inv X pins σ H s)(h:SqL X.K H a xs)(h':SqT X.K H a ys):False:=by
 obtain⟨its,r,p,_⟩:=I.list h
 obtain⟨its',r',p',_⟩:=I.tuple h'
 exact SeqAt.ne_of_list_tuple p.isList (show s.heap.IsTuple a its'.toArray from p') rfl
mutual
theorem iX {K:PySem.W.Frag}{C:Nat→Addr}(hK:X.K=K)(I:Inv X pins σ H s)(z:Same Z H):∀ (n:Nat) (d e:D) (v:V),good n d=true→good n e=true→Rep K C Z d v→Rep K C Z e v→d=e
 | n,.non,e,v,g1,g2,h,h'=>by rw[Rep]at h;subst h;cases e<;>rw[Rep]at h'<;>first | rfl | (obtain⟨_,_,q,_⟩:=h';cases q;done) | (obtain⟨_,q,_⟩:=h';cases q;done) | (cases h';done)
 | n,.bl b,e,v,g1,g2,h,h'=>by rw[Rep]at h;subst h;cases e<;>rw[Rep]at h'<;>first | (cases h';rfl) | (obtain⟨_,_,q,_⟩:=h';cases q;done) | (obtain⟨_,q,_⟩:=h';cases q;done) | (cases h';done)
 | n,.int b,e,v,g1,g2,h,h'=>by rw[Rep]at h;subst h;cases e<;>rw[Rep]at h'<;>first | (cases h';rfl) | (obtain⟨_,_,q,_⟩:=h';cases q;done) | (obtain⟨_,q,_⟩:=h';cases q;done) | (cases h';done)
 | n,.str b,e,v,g1,g2,h,h'=>by rw[Rep]at h;subst h;cases e<;>rw[Rep]at h'<;>first | (cases h';rfl) | (obtain⟨_,_,q,_⟩:=h';cases q;done) | (obtain⟨_,q,_⟩:=h';cases q;done) | (cases h';done)
 | 0,.tup xs,e,v,g1,g2,h,h'=>by simp[good]at g1
 | 0,.lst xs,e,v,g1,g2,h,h'=>by simp[good]at g1
 | n,.exc k,e,v,g1,g2,h,h'=>by cases n<;>simp[good]at g1
 | n,.fn k,e,v,g1,g2,h,h'=>by cases n<;>simp[good]at g1
 | n,.tab ks xs,e,v,g1,g2,h,h'=>by cases n<;>simp[good]at g1
 | n,.dic ks xs,e,v,g1,g2,h,h'=>by cases n<;>simp[good]at g1
 | n+1,.tup ds,e,v,g1,g2,h,h'=>by
  rw[Rep]at h
  obtain⟨a,vs,rfl,h1,h2⟩:=h
  cases e with
  | tup es =>
   rw[Rep]at h'
   obtain⟨b,us,q,k1,k2⟩:=h'
   cases q
   have e1:vs=us:=I.tuple_inj (by rw[hK];exact h1.mono z) (by rw[hK];exact k1.mono z)
   subst e1
   rw[good]at g1 g2
   rw[jh hK I z n ds es vs g1 g2 h2 k2]
  | lst es =>
   rw[Rep]at h'
   obtain⟨b,us,q,k1,k2⟩:=h'
   cases q
   exact(kF I (by rw[hK];exact z.seq k1) (by rw[hK];exact h1.mono z)).elim
  | exc k=>simp[good]at g2
  | fn k=>simp[good]at g2
  | tab ks xs=>simp[good]at g2
  | dic ks xs=>simp[good]at g2
  | _=>rw[Rep]at h';cases h'
 | n+1,.lst ds,e,v,g1,g2,h,h'=>by
  rw[Rep]at h
  obtain⟨a,vs,rfl,h1,h2⟩:=h
  cases e with
  | lst es =>
   rw[Rep]at h'
   obtain⟨b,us,q,k1,k2⟩:=h'
   cases q
   have e1:vs=us:=I.list_inj (by rw[hK];exact z.seq h1) (by rw[hK];exact z.seq k1)
   subst e1
   rw[good]at g1 g2
   rw[jh hK I z n ds es vs g1 g2 h2 k2]
  | tup es =>
   rw[Rep]at h'
   obtain⟨b,us,q,k1,k2⟩:=h'
   cases q
   exact(kF I (by rw[hK];exact z.seq h1) (by rw[hK];exact k1.mono z)).elim
  | exc k=>simp[good]at g2
  | fn k=>simp[good]at g2
  | tab ks xs=>simp[good]at g2
  | dic ks xs=>simp[good]at g2
  | _=>rw[Rep]at h';cases h'
theorem jh {K:PySem.W.Frag}{C:Nat→Addr}(hK:X.K=K)(I:Inv X pins σ H s)(z:Same Z H):∀ (n:Nat) (ds es:List D) (vs:List V),goods n ds=true→goods n es=true→Reps K C Z ds vs→Reps K C Z es vs→ds=es
 | n,[],es,vs,g1,g2,h,h'=>by
  rw[Reps]at h;subst h
  cases es with
  | nil=>rfl
  | cons e es=>rw[Reps]at h';obtain⟨_,_,q,_⟩:=h';cases q
 | n,d::ds,es,vs,g1,g2,h,h'=>by
  rw[Reps]at h
  obtain⟨v,r,rfl,h1,h2⟩:=h
  cases es with
  | nil=>rw[Reps]at h';cases h'
  | cons e es =>
   obtain⟨k1,k2⟩:=h'.uncons
   rw[goods,Bool.and_eq_true]at g1 g2
   rw[iX hK I z n d e v g1.1 g2.1 h1 k1,jh hK I z n ds es r g1.2 g2.2 h2 k2]
end
def flatD:D→Bool
 | .non=>true
 | .bl _=>true
 | .int _=>true
 | .str _=>true
 | _=>false
theorem fT {K:PySem.W.Frag}{C:Nat→Addr}{d:D}{v:V}(f:flatD d=true)(h:Rep K C Z d v):flatV v=true:=by
 cases d<;>first | (rw[Rep]at h;subst h;rfl) | simp[flatD]at f
theorem mh {K:PySem.W.Frag}{C:Nat→Addr}{d e:D}{v u:V}(f1:flatD d=true)(f2:flatD e=true)(h:Rep K C Z d v)(h':Rep K C Z e u):eqV v u=eqD d e:=by
 cases d<;>first | (simp[flatD]at f1;done) | (cases e<;>first | (simp[flatD]at f2;done) | (rw[Rep]at h;rw[Rep]at h';subst h;subst h';simp[eqV,eqD]))
set_option maxHeartbeats 4000000 in
theorem fu {K:PySem.W.Frag}{C:Nat→Addr}(hK:X.K=K)(I:Inv X pins σ H s)(z:Same Z H):∀ (n:Nat) (A:Around) (d e:D) (v u:V) (x y:Value),good n d=true→good n e=true→Rep K C Z d v→Rep K C Z e u→RelV v x→RelV u y→A.units+n < cLine→SeqAt.EqAt A s x y (eqD d e):=by
 intro n
 induction n with
 | zero =>
  intro A d e v u x y g1 g2 h h' rx ry hu
  have f1:flatD d=true:=by cases d<;>first | rfl | simp[good]at g1
  have f2:flatD e=true:=by cases e<;>first | rfl | simp[good]at g2
  rw[← mh f1 f2 h h']
  exact sL rx ry (fT f1 h) (fT f2 h')
 | succ n ih =>
  intro A d e v u x y g1 g2 h h' rx ry hu
  have hu0:A.units < cLine:=by omega
  have in1:A.in1.units+n < cLine:=by show A.units+1+n < cLine;omega
  by_cases f1:flatD d=true
  ·by_cases f2:flatD e=true
   ·rw[← mh f1 f2 h h']
    exact sL rx ry (fT f1 h) (fT f2 h')
   ·cases e with
    | tup es =>
     rw[Rep]at h'
     obtain⟨b,us,rfl,k1,k2⟩:=h'
     cases ry
     obtain⟨its,_,p,_⟩:=I.tuple (by rw[hK];exact k1.mono z:SqT X.K H b us)
     have p':s.heap.IsTuple b its.toArray:=p
     cases d<;>first | (simp[flatD]at f1;done) | (rw[Rep]at h;subst h;simp only[eqD];first | (cases rx;first | exact SeqAt.EqAt.none_tuple p' hu0 | exact SeqAt.EqAt.bool_tuple _ p' hu0) | (obtain⟨t,rfl⟩:=rx;first | exact SeqAt.EqAt.int_tuple _ _ p' hu0 | exact SeqAt.EqAt.str_tuple _ _ p' hu0))
    | lst es =>
     rw[Rep]at h'
     obtain⟨b,us,rfl,k1,k2⟩:=h'
     cases ry
     obtain⟨its,_,p,_⟩:=I.list (by rw[hK];exact z.seq k1:SqL X.K H b us)
     have p':=p.isList
     cases d<;>first | (simp[flatD]at f1;done) | (rw[Rep]at h;subst h;simp only[eqD];first | (cases rx;first | exact SeqAt.EqAt.none_list p' hu0 | exact SeqAt.EqAt.bool_list _ p' hu0) | (obtain⟨t,rfl⟩:=rx;first | exact SeqAt.EqAt.int_list _ _ p' hu0 | exact SeqAt.EqAt.str_list _ _ p' hu0))
    | exc k=>simp[good]at g2
    | fn k=>simp[good]at g2
    | tab ks xs=>simp[good]at g2
    | dic ks xs=>simp[good]at g2
    | _=>simp[flatD]at f2
  ·cases d with
   | tup ds =>
    have hh:=h
    rw[Rep]at h
    obtain⟨a,vs,rfl,h1,h2⟩:=h
    cases rx
    obtain⟨its,r,p,_⟩:=I.tuple (by rw[hK];exact h1.mono z:SqT X.K H a vs)
    have p':s.heap.IsTuple a its.toArray:=p
    cases e with
    | tup es =>
     have hh':=h'
     rw[Rep]at h'
     obtain⟨b,us,rfl,k1,k2⟩:=h'
     cases ry
     by_cases hab:a=b
     ·subst hab
      have:=iX hK I z (n+1) _ _ _ g1 g2 hh hh'
      rw[← this,fS (n+1) _ g1]
      exact SeqAt.EqAt.same _
     ·obtain⟨its2,r2,p2,_⟩:=I.tuple (by rw[hK];exact k1.mono z:SqT X.K H b us)
      have p2':s.heap.IsTuple b its2.toArray:=p2
      rw[good]at g1 g2
      have q:=SeqAt.RcAt.tuples (A:=A) (e:=fun j=>eqD (ds.getD j .non) (es.getD j .non)) p' p2' hu0 fun j j1 j2=>by
       have j1':j < its.length:=by simpa using j1
       have j2':j < its2.length:=by simpa using j2
       have l1:j < ds.length:=by rw[h2.length,r.length];exact j1'
       have l2:j < es.length:=by rw[k2.length,r2.length];exact j2'
       have e1:ds[j]?=some ds[j]:=by simp
       have e2:es[j]?=some es[j]:=by simp
       obtain⟨w1,f1,f2⟩:=h2.get e1
       obtain⟨w2,f3,f4⟩:=k2.get e2
       obtain⟨z1,m1,m2⟩:=r.get f1
       obtain⟨z2,m3,m4⟩:=r2.get f3
       have n1:its.toArray[j]=z1:=by simpa [j1'] using m1
       have n2:its2.toArray[j]=z2:=by simpa [j2'] using m3
       rw[n1,n2]
       have g3:ds.getD j .non=ds[j]:=by simp[l1]
       have g4:es.getD j .non=es[j]:=by simp[l2]
       rw[g3,g4]
       exact ih A.in1 _ _ w1 w2 z1 z2 (aT g1 e1) (aT g2 e2) f2 f4 m2 m4 in1
      rw[eqD,cR]
      have s1:its.toArray.size=ds.length:=by rw[List.size_toArray,h2.length,r.length]
      have s2:its2.toArray.size=es.length:=by rw[List.size_toArray,k2.length,r2.length]
      rw[s1,s2]at q
      exact SeqAt.EqAt.of_refs hab q
    | lst es =>
     rw[Rep]at h'
     obtain⟨b,us,rfl,k1,k2⟩:=h'
     cases ry
     obtain⟨its2,r2,p2,_⟩:=I.list (by rw[hK];exact z.seq k1:SqL X.K H b us)
     simp only[eqD]
     exact SeqAt.EqAt.tuple_list p' p2.isList hu0
    | exc k=>simp[good]at g2
    | fn k=>simp[good]at g2
    | tab ks xs=>simp[good]at g2
    | dic ks xs=>simp[good]at g2
    | _=>rw[Rep]at h';subst h';simp only[eqD];first | (cases ry;first | exact SeqAt.EqAt.tuple_none p' hu0 | exact SeqAt.EqAt.tuple_bool _ p' hu0) | (obtain⟨t,rfl⟩:=ry;first | exact SeqAt.EqAt.tuple_int _ _ p' hu0 | exact SeqAt.EqAt.tuple_str _ _ p' hu0)
   | lst ds =>
    have hh:=h
    rw[Rep]at h
    obtain⟨a,vs,rfl,h1,h2⟩:=h
    cases rx
    obtain⟨its,r,p,_⟩:=I.list (by rw[hK];exact z.seq h1:SqL X.K H a vs)
    have p':=p.isList
    cases e with
    | lst es =>
     have hh':=h'
     rw[Rep]at h'
     obtain⟨b,us,rfl,k1,k2⟩:=h'
     cases ry
     by_cases hab:a=b
     ·subst hab
      have:=iX hK I z (n+1) _ _ _ g1 g2 hh hh'
      rw[← this,fS (n+1) _ g1]
      exact SeqAt.EqAt.same _
     ·obtain⟨its2,r2,p2,_⟩:=I.list (by rw[hK];exact z.seq k1:SqL X.K H b us)
      have p2':=p2.isList
      rw[good]at g1 g2
      have s1:its.toArray.size=ds.length:=by rw[List.size_toArray,h2.length,r.length]
      have s2:its2.toArray.size=es.length:=by rw[List.size_toArray,k2.length,r2.length]
      rw[eqD,cR]
      by_cases hsz:ds.length=es.length
      ·have q:=SeqAt.RcAt.lists (A:=A) (e:=fun j=>eqD (ds.getD j .non) (es.getD j .non)) p' p2' (by rw[s1,s2];exact hsz) hu0 fun j j1 j2=>by
        have j1':j < its.length:=by simpa using j1
        have j2':j < its2.length:=by simpa using j2
        have l1:j < ds.length:=by rw[h2.length,r.length];exact j1'
        have l2:j < es.length:=by rw[k2.length,r2.length];exact j2'
        have e1:ds[j]?=some ds[j]:=by simp
        have e2:es[j]?=some es[j]:=by simp
        obtain⟨w1,f1,f2⟩:=h2.get e1
        obtain⟨w2,f3,f4⟩:=k2.get e2
        obtain⟨z1,m1,m2⟩:=r.get f1
        obtain⟨z2,m3,m4⟩:=r2.get f3
        have n1:its.toArray[j]=z1:=by simpa [j1'] using m1
        have n2:its2.toArray[j]=z2:=by simpa [j2'] using m3
        rw[n1,n2]
        have g3:ds.getD j .non=ds[j]:=by simp[l1]
        have g4:es.getD j .non=es[j]:=by simp[l2]
        rw[g3,g4]
        exact ih A.in1 _ _ w1 w2 z1 z2 (aT g1 e1) (aT g2 e2) f2 f4 m2 m4 in1
       rw[s1]at q
       rw[hsz,Nat.min_self,beq_self_eq_true,Bool.and_true,← hsz]
       exact SeqAt.EqAt.of_refs hab q
      ·have q:=SeqAt.RcAt.lists_lengths (A:=A) p' p2' (by rw[s1,s2];simpa using hsz) hu0
       rw[show (ds.length==es.length)=false by simpa using hsz,Bool.and_false]
       exact SeqAt.EqAt.of_refs hab q
    | tup es =>
     rw[Rep]at h'
     obtain⟨b,us,rfl,k1,k2⟩:=h'
     cases ry
     obtain⟨its2,r2,p2,_⟩:=I.tuple (by rw[hK];exact k1.mono z:SqT X.K H b us)
     simp only[eqD]
     exact SeqAt.EqAt.list_tuple p' (show s.heap.IsTuple b its2.toArray from p2) hu0
    | exc k=>simp[good]at g2
    | fn k=>simp[good]at g2
    | tab ks xs=>simp[good]at g2
    | dic ks xs=>simp[good]at g2
    | _=>rw[Rep]at h';subst h';simp only[eqD];first | (cases ry;first | exact SeqAt.EqAt.list_none p' hu0 | exact SeqAt.EqAt.list_bool _ p' hu0) | (obtain⟨t,rfl⟩:=ry;first | exact SeqAt.EqAt.list_int _ _ p' hu0 | exact SeqAt.EqAt.list_str _ _ p' hu0)
   | exc k=>simp[good]at g1
   | fn k=>simp[good]at g1
   | tab ks xs=>simp[good]at g1
   | dic ks xs=>simp[good]at g1
   | _=>simp[flatD]at f1
end
theorem objThere {P:Program}{w:World}{H:Hp}{h:Heap}{a:Addr}{o:HO}(x:ObjOk P w H h a o):∃ ob,h.get? a=some ob:=by
 cases o with
 | lst xs=>obtain⟨_,_,_,_,e⟩:=x;exact⟨_,e⟩
 | tup xs=>obtain⟨_,_,_,o,e,_⟩:=x;exact⟨o,e⟩
 | dK kvs=>obtain⟨_,_,_,_,o,_,_,e,_⟩:=x;exact⟨o,e⟩
 | dT kvs=>obtain⟨_,_,_,_,o,_,_,e,_⟩:=x;exact⟨o,e⟩
 | set S n=>obtain⟨o,_,_,_,e,_⟩:=x;exact⟨o,e⟩
 | ins C dx fs=>obtain⟨_,_,_,e,_⟩:=x;exact⟨_,e⟩
 | own y=>exact x
 | xd fs=>obtain⟨_,⟨o,_,_,e,_⟩,_⟩:=x;exact⟨o,e⟩
 | rng lo hi=>obtain⟨_,_,_,e⟩:=x;exact⟨_,e⟩
 | frz ob u=>obtain⟨e,_⟩:=x;exact⟨_,e⟩
 | tbl ps=>exact⟨_,(show h.get? a=some _ from x)⟩
 | met f y=>exact⟨_,(show h.get? a=some _ from x)⟩
 | ext φ=>obtain⟨_,e,_⟩:=x;exact e
def Cov (B:Heap)(h h':Heap)(H':Hp)(l:List Env):Prop:=∀ b o,h'.get? b=some o→(H' b≠none∨∃ o',h.get? b=some o')→b∉frs l→B.get? b=some o
def CXE (P:Program)(w:World):CXT:=fun outer H s E e s' =>
 ∃ (ea C t:Addr) (H':Hp) (B:Heap),e=.ref ea∧s'.os=s.os∧AllBare s'.gens∧Un (frs outer) [] H H' s.heap s'.heap∧HOk P w H' s'.heap ∧
  Heap.FlyingW B outer ea (.ref C) (.ref t) s'.heap∧H' ea=none∧Cov B s.heap s'.heap H' outer∧E (.ref C) none H'
section
variable {X:Cx}{pins:List (Addr×Obj)}{σ:St}{H H':Hp}{s s':Shared}{B:Heap}
theorem vi {h2:Heap}{sc:Shared}(J:Inv X pins σ H' s')(I:∃ σ0 H0 pl,Inv X pl σ0 H0 sc)(hp:∀ p∈X.pn++pins,∃ o,sc.heap.get? p.1=some o)(hl:∀ o,s'.heap.get? X.env.locals=some o→∃ o',sc.heap.get? X.env.locals=some o')
  (cov:Cov B sc.heap s'.heap H' X.stack) (hB:B.StaysIn h2) (up:s'.heap.UpToSlots h2):Inv X pins σ H' { s' with heap:=h2 }:=by
 obtain⟨σ0,H0,pl,I0⟩:=I
 have ins:∀ b o,X.s₀.heap.get? b=some o→b∉X.ex→∃ o',sc.heap.get? b=some o':=fun b o e hx=>I0.base.there b o e hx
 have nloc:∀ b o,X.s₀.heap.get? b=some o→b≠X.env.locals:=fun b o e=>Nat.ne_of_lt (Nat.lt_of_lt_of_le (Heap.lt_size e) J.ok.above)
 have nstk:∀ b,b≠X.env.locals→b∉X.fs→b∉frs X.stack:=fun b h1 h2 z=>(List.mem_cons.mp (J.stkSub b z)).elim h1 h2
 have trk:∀ b o,s'.heap.get? b=some o→H' b≠none→h2.get? b=some o:=fun b o e ht=>hB b o (cov b o e (.inl ht) fun z=>ht (J.stkFree b z))
 have nf:∀ b∈X.fs,∀ o,s'.heap.get? b=some o→∀ vs,o.data≠.fields vs:=fun b hb o e=>by
  obtain⟨_,o',e',d⟩:=J.funs.mem hb
  rw[e]at e';cases e';exact d
 refine⟨J.ok,J.os,J.bare,⟨fun b o e n hb hx=>?_,fun b o e n hb hx=>?_,J.base.free,fun b o e hx=>?_,J.base.tups,J.base.frzs,J.base.tbls⟩,?_,fun x c e=>?_,J.free,J.freeC,fun p hpp=>?_,fun b u e=>?_,J.len⟩
 ·have e1:=J.base.keep b o e n hb hx
  exact hB b o (cov b o e1 (.inr (ins b o e hx)) (nstk b (nloc b o e) hb))
 ·obtain⟨sl,e1⟩:=J.base.slot b o e n hb hx
  obtain⟨sl',e2⟩:=up b _ e1 (nf b hb _ e1)
  exact⟨sl',e2⟩
 ·obtain⟨o',e1⟩:=J.base.there b o e hx
  by_cases hb:b∈X.fs
  ·obtain⟨sl',e2⟩:=up b _ e1 (nf b hb _ e1)
   exact⟨_,e2⟩
  ·exact⟨o',hB b o' (cov b o' e1 (.inr (ins b o e hx)) (nstk b (nloc b o e) hb))⟩
 ·obtain⟨m,hn,hv⟩:=J.loc
  refine⟨m,up.ns hn,fun i x v h1 h2 h3=>?_⟩
  obtain⟨u,r,l⟩:=hv i x v h1 h2 h3
  refine⟨u,r,?_⟩
  rcases l with l | ⟨k,c,e,⟨o,ho,hd⟩⟩
  ·exact .inl l
  ·obtain⟨sl,e2⟩:=up c o ho fun vs q=>by rw[hd]at q;cases q
   exact .inr ⟨k,c,e,⟨_,e2,hd⟩⟩
 ·obtain⟨v,o,ho,hd⟩:=J.cell x c e
  obtain⟨sl,e2⟩:=up c o ho fun vs q=>by rw[hd]at q;cases q
  exact⟨v,_,e2,hd⟩
 ·obtain⟨e,n,ne,nf',d⟩:=J.pin p hpp
  exact⟨hB _ _ (cov p.1 p.2 e (.inr (hp p hpp)) (nstk _ ne nf')),n,ne,nf',d⟩
 ·refine(J.hok b u e).stay (fun c v hc q=>trk c v q ?_) (fun _ q=>q) fun _ _ q=>q
  rcases hc with z | z
  ·subst z;rw[e];simp
  ·rw[z];simp
end
section
variable {P:Program}{w:World}{K:PySem.W.Frag}{mg:Str→Option Value}{base:Heap}{N:List Str}{qual:Str}{scope:Scope}{f:Addr}{cd:Value}{A:Around}{outer:List Env}{s0:Shared}{H0:Hp}{E:XK}
abbrev bodyX (P:Program)(w:World)(K:PySem.W.Frag)(mg:Str→Option Value)(base:Heap)(N:List Str)(qual:Str)(scope:Scope)(f:Addr)(cd:Value)(A:Around)(outer:List Env)(s0:Shared)(H0:Hp)(E:XK):Cx :=
 cxOf (CXE P w) P w K mg base N qual scope f cd A outer s0 H0 E
theorem pr {pins:List (Addr×Obj)}{σ:St}{H':Hp}{s':Shared}{B h2:Heap}{ea C t:Addr}(J:Inv (bodyX P w K mg base N qual scope f cd A outer s0 H0 E) pins σ H' s')
  (cov:Cov B s0.heap s'.heap H' (envOfC qual scope s0.heap.objs.size f cd::outer)) (up:s'.heap.UpToSlots h2) (fl:Heap.FlyingW B outer ea (.ref C) (.ref t) h2) (hn:H' ea=none) (hE:E (.ref C) none H') :
  CXE P w outer H0 s0 E (.ref ea) { s' with heap:=h2 }:=by
 have hB:=fl.1
 have nloc:∀ b o,s0.heap.get? b=some o→b≠s0.heap.objs.size:=fun b o e=>Nat.ne_of_lt (Heap.lt_size e)
 have nstk:∀ b,b≠s0.heap.objs.size→b∉frs outer→b∉frs (envOfC qual scope s0.heap.objs.size f cd::outer):=fun b h1 h2 z=>(List.mem_cons.mp (J.stkSub b z)).elim h1 h2
 have trk:∀ b o,s'.heap.get? b=some o→H' b≠none→B.get? b=some o:=fun b o e ht=>cov b o e (.inl ht) fun z=>ht (J.stkFree b z)
 have noe:∀ b:Addr,b∉([]:List Addr):=fun _ z=>nomatch z
 have nf:∀ b∈frs outer,∀ o,s'.heap.get? b=some o→∀ vs,o.data≠.fields vs:=fun b hb o e=>by
  obtain⟨_,o',e',d⟩:=J.funs.mem hb
  rw[e]at e';cases e';exact d
 have thr:∀ b o,s0.heap.get? b=some o→∃ o',s'.heap.get? b=some o'∧(b∉frs outer→B.get? b=some o'):=fun b o e=>by
  obtain⟨o',e1⟩:=J.base.there b o e (noe b)
  exact⟨o',e1,fun hb=>cov b o' e1 (.inr ⟨o,e⟩) (nstk b (nloc b o e) hb)⟩
 refine⟨ea,C,t,H',B,rfl,J.os,J.bare,⟨fun b o e n hb hx=>?_,fun b o e n hb hx=>?_,J.base.free,fun b o e hx=>?_,J.base.tups,J.base.frzs,J.base.tbls⟩,fun b u e=>?_,fl,hn,fun b o e hc hb=>?_,hE⟩
 ·have e1:=J.base.keep b o e n hb hx
  exact hB b o (cov b o e1 (.inr ⟨o,e⟩) (nstk b (nloc b o e) hb))
 ·obtain⟨sl,e1⟩:=J.base.slot b o e n hb hx
  obtain⟨sl',e2⟩:=up b _ e1 (nf b hb _ e1)
  exact⟨sl',e2⟩
 ·obtain⟨o',e1,e2⟩:=thr b o e
  by_cases hb:b∈frs outer
  ·obtain⟨sl',e3⟩:=up b _ e1 (nf b hb _ e1)
   exact⟨_,e3⟩
  ·exact⟨o',hB b o' (e2 hb)⟩
 ·refine(J.hok b u e).stay (fun c v hc q=>hB c v (trk c v q ?_)) (fun _ q=>q) fun _ _ q=>q
  rcases hc with z | z
  ·subst z;rw[e];simp
  ·rw[z];simp
 ·have same:∀ o',s'.heap.get? b=some o'→B.get? b=some o'→B.get? b=some o:=fun o' _ q=>by
   have:=hB b o' q
   have e':h2.get? b=some o:=e
   rw[e']at this;cases this;exact q
  rcases hc with z | ⟨o',z⟩
  ·cases q:H' b with
   | none=>exact absurd q z
   | some u =>
    obtain⟨o',e1⟩:=objThere (J.hok b u q)
    exact same o' e1 (trk b o' e1 (by rw[q];simp))
  ·obtain⟨o'',e1,e2⟩:=thr b o' z
   exact same o'' e1 (e2 hb)
theorem kG:Passes (CXE P w) (bodyX P w K mg base N qual scope f cd A outer s0 H0 E) E:=by
 intro pins σ H s e s' I h
 obtain⟨ea,C,t,H',B,rfl,os,bare,un,hok,fl,hn,cov,hE⟩:=h
 have J:Inv (bodyX P w K mg base N qual scope f cd A outer s0 H0 E) pins σ H' s':=I.call' (ch:=[]) os un hok bare fun b z=>nomatch z
 refine wpAny_leaves_onW I.ok.frames rfl fl fun h2 fl2 up=>?_
 refine pr J (fun b o e hc hb=>cov b o e ?_ hb) up fl2 hn hE
 rcases hc with z | ⟨o',z⟩
 ·exact .inl z
 ·obtain⟨o'',z'⟩:=I.base.there b o' z (fun q=>nomatch q)
  exact .inr ⟨o'',z'⟩
theorem qH {pins:List (Addr×Obj)}{σ:St}{H:Hp}{s:Shared}{h1:Heap}{ea C:Addr}{args:List Value}(I:Inv (bodyX P w K mg base N qual scope f cd A outer s0 H0 E) pins σ H s)(hx:Heap.MadeExcOf s.heap h1 ea (.ref C) args)(hE:E (.ref C) none H) :
  (bodyX P w K mg base N qual scope f cd A outer s0 H0 E).xe (.ref ea) { s with heap:=h1 }:=by
 have hin:∀ env∈(envOfC qual scope s0.heap.objs.size f cd::outer),∀ a,env.frame=some a→a∈frs (envOfC qual scope s0.heap.objs.size f cd::outer):=fun env he a ha=>List.mem_filterMap.mpr ⟨env,he,ha⟩
 refine wpAny_leaves_madeW (s:={ s with heap:=h1 }) (base:=PySem.W.hideAll s.heap (frs (envOfC qual scope s0.heap.objs.size f cd::outer))) I.ok.frames rfl (fun b o q=>PySem.W.of_hideAll _ q) (PySem.W.funFrames_hide I.stack hin) hx fun h2 t fl _ _ up=>?_
 have hn:H ea=none:=by
  cases q:H ea with
  | none=>rfl
  | some u =>
   obtain⟨o,e⟩:=objThere (I.hok ea u q)
   rw[hx.new]at e;cases e
 exact pr (s':=s) I (fun b o e _ hb=>PySem.W.hideAll_get _ e hb) ((Heap.UpToSlots.of_keeps hx.keeps).trans up) fl hn hE
end
def relabN (names:List (Str×NameKind))(env:Env):List (Str×NameKind) :=
 names.map fun (n,k)=>if (k==.free&&env.scope.kind==.function&&env.kindOf n==some .cell) then (n,.cell) else (n,k)
theorem ji {env:Env}:∀ {names:List (Str×NameKind)} {x:Str},names.lookup x=some .free→(relabN names env).lookup x=some .cell∨(relabN names env).lookup x=some .free
 | [],_,h=>by simp at h
 | (n,k)::r,x,h=>by
  have ih:=@ji env r x
  show List.lookup x ((if (k==NameKind.free&&env.scope.kind==.function&&env.kindOf n==some .cell)=true then (n,NameKind.cell) else (n,k))::relabN r env)=_∨List.lookup x ((if (k==NameKind.free&&env.scope.kind==.function&&env.kindOf n==some .cell)=true then (n,NameKind.cell) else (n,k))::relabN r env)=_
  cases hx:x==n with
  | true =>
   simp only[List.lookup_cons,hx]at h
   cases h
   split
   ·exact .inl (by simp[List.lookup_cons,hx])
   ·exact .inr (by simp[List.lookup_cons,hx])
  | false =>
   simp only[List.lookup_cons,hx]at h
   split<;>(simp only[List.lookup_cons,hx];exact ih h)
theorem jj {env:Env}:∀ {names:List (Str×NameKind)} {x:Str},((relabN names env).lookup x=some .cell∨(relabN names env).lookup x=some .free)→∃ y∈names,y.1=x∧(y.2=.free∨y.2=.cell)
 | [],_,h=>by simp[relabN]at h
 | (n,k)::r,x,h=>by
  have ih:=@jj env r x
  change List.lookup x ((if (k==NameKind.free&&env.scope.kind==.function&&env.kindOf n==some .cell)=true then (n,NameKind.cell) else (n,k))::relabN r env)=_∨List.lookup x ((if (k==NameKind.free&&env.scope.kind==.function&&env.kindOf n==some .cell)=true then (n,NameKind.cell) else (n,k))::relabN r env)=_ at h
  cases hx:x==n with
  | true =>
   have e:x=n:=eq_of_beq hx
   refine⟨(n,k),List.mem_cons_self,e.symm,?_⟩
   by_cases hq:(k==NameKind.free&&env.scope.kind==.function&&env.kindOf n==some .cell)=true
   ·simp only[Bool.and_eq_true,beq_iff_eq]at hq
    exact .inl hq.1.1
   ·rw[if_neg hq]at h
    simp only[List.lookup_cons,hx]at h
    rcases h with h | h
    ·cases h;exact .inr rfl
    ·cases h;exact .inl rfl
  | false =>
   have h':(relabN r env).lookup x=some .cell∨(relabN r env).lookup x=some .free:=by
    by_cases hq:(k==NameKind.free&&env.scope.kind==.function&&env.kindOf n==some .cell)=true
    ·rw[if_pos hq]at h;simpa only[List.lookup_cons,hx] using h
    ·rw[if_neg hq]at h;simpa only[List.lookup_cons,hx] using h
   obtain⟨y,hy,e⟩:=ih h'
   exact⟨y,List.mem_cons_of_mem _ hy,e⟩
theorem bw:∀ (names:List (Str×NameKind)) (n:Nat) (acc:List (Str×Addr)),cellsFrom n names acc=cellsFrom n names []++acc
 | [],_,_=>rfl
 | (name,kind)::r,n,acc=>by
  unfold cellsFrom
  split
  ·rw[bw r (n+1) ((name,n)::acc),bw r (n+1) [(name,n)],List.append_assoc];rfl
  ·exact bw r n acc
theorem g5:∀ (names:List (Str×NameKind)) (n:Nat) {x:Str} {c:Addr},(x,c)∈cellsFrom n names []→(x,NameKind.cell)∈names
 | [],_,_,_,h=>nomatch h
 | (name,kind)::r,n,x,c,h=>by
  unfold cellsFrom at h
  split at h
  ·rename_i hk
   rw[bw]at h
   rcases List.mem_append.mp h with h | h
   ·exact List.mem_cons_of_mem _ (g5 r _ h)
   ·rw[List.mem_singleton]at h
    cases h
    rw[eq_of_beq hk];exact List.mem_cons_self
  ·exact List.mem_cons_of_mem _ (g5 r _ h)
theorem g6:∀ (names:List (Str×NameKind)) (n:Nat) {x:Str},(x,NameKind.cell)∈names→∃ c,(cellsFrom n names []).lookup x=some c
 | [],_,_,h=>nomatch h
 | (name,kind)::r,n,x,h=>by
  by_cases hr:(x,NameKind.cell)∈r
  ·unfold cellsFrom
   split
   ·obtain⟨c,hc⟩:=g6 r (n+1) hr
    rw[bw,List.lookup_append,hc];exact⟨c,rfl⟩
   ·exact g6 r n hr
  ·rcases List.mem_cons.mp h with e | e
   ·cases e
    unfold cellsFrom
    rw[if_pos (by rfl),bw,List.lookup_append]
    cases (cellsFrom (n+1) r []).lookup name with
    | some c=>exact⟨c,rfl⟩
    | none=>exact⟨n,by simp[List.lookup_cons]⟩
   ·exact absurd e hr
structure CellsB (scope:Scope)(cl cl2:List (Str×Addr))(C:Addr)(h:Heap):Prop where
 old:∀ n c,cl2.lookup n=some c→(cl.lookup n=some c∧(n,NameKind.cell)∉scope.names)∨(C < c∧h.IsCell c none∧(n,NameKind.cell)∈scope.names)
 keep:∀ n,(n,NameKind.cell)∉scope.names→cl2.lookup n=cl.lookup n
 mine:∀ n,(n,NameKind.cell)∈scope.names→∃ c,cl2.lookup n=some c
 inj:∀ x y c,C < c→cl2.lookup x=some c→cl2.lookup y=some c→(x,NameKind.cell)∈scope.names→(y,NameKind.cell)∈scope.names→x=y
section
variable {M:Model}{A:Around}{E:Value→Shared→Prop}{s:Shared}
theorem lx {scope:Scope}{globals:Addr}{cl:List (Str×Addr)}{qual:Str}{env:Env}{Q:Env→Shared→Prop}
  (hQ:∀ h' cl2,h'.Ns s.heap.objs.size (fun _=>none)→(∀ b o,s.heap.get? b=some o→h'.get? b=some o)→CellsB scope cl cl2 s.heap.objs.size h'→Q (newEnv scope s.heap.objs.size globals cl2 qual none .none (some env) builtinsNs) { s with heap:=h' }) :
  wpAny M A (newFunctionEnv scope globals cl [] qual none .none (some env)) Q E s:=by
 simp only[newFunctionEnv,Option.isSome_some,if_true]
 refine wpAny_bind (wpAny_alloc ?_)
 refine wpAny_bind (wpAny_layCells _ (fun name kind cells=>by cases hkc:kind==NameKind.cell<;>simp[hkc]) _ _ _ _ ?_)
 have ok:=cellsFrom_ok scope.names (s.heap.push { cls:=.type "dict",data:=.dict #[] }) (s.heap.objs.size+1) [] ⟨fun _ _ hm=>(nomatch hm),List.Pairwise.nil⟩ (by rw[Heap.size_push];exact Nat.le_refl _)
 rw[Heap.size_push]at ok
 rw[show ({ s with heap:=s.heap.push { cls:=.type "dict",data:=.dict #[] } }:Shared).heap.objs.size=s.heap.objs.size+1 from Heap.size_push ..]
 simp only[List.forIn_nil]
 refine wpAny_bind (wpAny_pure (wpAny_pure ?_))
 refine hQ _ _ ((Heap.Ns.new s.heap (.type "dict")).keeps (pushCells_keeps _ _)) (fun b o e=>pushCells_keeps _ _ b o (Heap.get?_push_of_some _ e)) ?_
 have look:∀ n,(cellsFrom (s.heap.objs.size+1) scope.names cl).lookup n=((cellsFrom (s.heap.objs.size+1) scope.names []).lookup n).or (cl.lookup n):=fun n=>by rw[bw,List.lookup_append]
 have no:∀ n,(n,NameKind.cell)∉scope.names→(cellsFrom (s.heap.objs.size+1) scope.names []).lookup n=none:=fun n hn=>by
  cases e:(cellsFrom (s.heap.objs.size+1) scope.names []).lookup n with
  | none=>rfl
  | some c=>exact absurd (g5 _ _ (PySem.mem_of_lookup e)) hn
 have keep:∀ n,(n,NameKind.cell)∉scope.names→(cellsFrom (s.heap.objs.size+1) scope.names cl).lookup n=cl.lookup n:=fun n hn=>by rw[look,no n hn];rfl
 have new:∀ n,(n,NameKind.cell)∈scope.names→∃ c,(cellsFrom (s.heap.objs.size+1) scope.names []).lookup n=some c∧(cellsFrom (s.heap.objs.size+1) scope.names cl).lookup n=some c:=fun n hn=>by
  obtain⟨c,hc⟩:=g6 scope.names (s.heap.objs.size+1) hn
  exact⟨c,hc,by rw[look,hc];rfl⟩
 refine⟨fun n c e=>?_,keep,fun n hn=>?_,fun x y c _ ex ey hx hy=>?_⟩
 ·by_cases hn:(n,NameKind.cell)∈scope.names
  ·obtain⟨c',h1,h2⟩:=new n hn
   rw[e]at h2;cases h2
   have:=ok.empty n c (PySem.mem_of_lookup h1)
   exact .inr ⟨this.2,this.1,hn⟩
  ·rw[keep n hn]at e
   exact .inl ⟨e,hn⟩
 ·obtain⟨c,_,h2⟩:=new n hn
  exact⟨c,h2⟩
 ·obtain⟨c1,h1,h2⟩:=new x hx
  obtain⟨c2,h3,h4⟩:=new y hy
  rw[ex]at h2;cases h2
  rw[ey]at h4;cases h4
  exact name_of_addr ok.apart (PySem.mem_of_lookup h1) (PySem.mem_of_lookup h3)
end
theorem eN {names:List (Str×NameKind)}{x:Str}{k:NameKind}(h:names.lookup x=some k):(x,k)∈names:=PySem.mem_of_lookup h
def blk (X:Cx)(scope:Scope)(cl:List (Str×Addr))(C:Addr)(s:Shared)(H:Hp)(fp:List Addr)(N:List Str):Cx where
 prog:=X.prog
 w:=X.w
 K:=X.K
 mg:=X.mg
 base:=X.base
 A:=X.A
 N:=N
 s₀:=s
 H₀:=H
 env:=compEnvC scope cl C X.env
 outer:=X.stack
 stack:=X.stack
 ex:=fp
 fn:=fun x=>scope.names.lookup x==some .cell
 calm:=true
 pn:=[]
 xe:=fun _ _=>False
def startB (own:Nat)(cap:List Nat)(σ:St):St:=List.replicate own none++cap.map fun i=>(σ[i]?).getD none
structure BlkOk (XN:List Str)(osc scope:Scope)(N:List Str)(own:Nat)(cap:List Nat):Prop where
 kind:scope.kind=.function
 ncell:∀ y∈scope.names,y.2=.cell→scope.names.lookup y.1=some .cell
 nfree:∀ y∈scope.names,y.2=.free→scope.names.lookup y.1=some .free
 nloc:∀ y∈scope.names,y.2=.local→scope.names.lookup y.1=some .local
 free:∀ y∈scope.names,y.2=.free→osc.names.lookup y.1=some .cell∨osc.names.lookup y.1=some .free
 len:N.length=own+cap.length
 capN:∀ j i,cap[j]?=some i→∃ x,N[own+j]?=some x∧XN[i]?=some x∧scope.names.lookup x=some .free
section
variable {X:Cx}{pins:List (Addr×Obj)}{σ:St}{H:Hp}{s:Shared}{scope:Scope}{N:List Str}{own:Nat}{cap:List Nat}{cl:List (Str×Addr)}{fp:List Addr}
theorem vj {cl2:List (Str×Addr)}(b:BlkOk X.N X.env.scope scope N own cap)(hc:X.calm=true)(I:Inv X pins σ H s)(hf:∀ b∈fp,FpOk X pins H b)(hfo:∀ b∈fp,b < s.heap.objs.size)(c1:∀ n c,cl.lookup n=some c→X.env.cells.lookup n=some c)
  (c2:∀ y∈scope.names,y.2=.free→∃ c,cl.lookup y.1=some c) {h':Heap} {t':Nat} {m:Str→Option Value} (hns:h'.Ns s.heap.objs.size m) (hk:∀ b o,s.heap.get? b=some o→h'.get? b=some o) (cb:CellsB scope cl cl2 s.heap.objs.size h') :
  Inv (blk X scope cl2 s.heap.objs.size s H fp N) [] (startB own cap σ) H { s with heap:=h',toks:=t' }:=by
 have hC:H s.heap.objs.size=none:=I.hok.fresh (Nat.le_refl _)
 have lt:∀ n c,cl.lookup n=some c→c < s.heap.objs.size:=fun n c e=>by obtain⟨v,hv⟩:=I.cell n c (c1 n c e);exact hv.lt
 have inj:∀ x y c,cl2.lookup x=some c→cl2.lookup y=some c→x=y:=fun x y c h1 h2=>by
  rcases cb.old x c h1 with ⟨a1,_⟩ | ⟨a1,_,a2⟩<;>rcases cb.old y c h2 with ⟨b1,_⟩ | ⟨b1,_,b2⟩
  ·exact I.ok.inj x y c (c1 x c a1) (c1 y c b1)
  ·exact absurd (lt x c a1) (Nat.lt_asymm b1)
  ·exact absurd (lt y c b1) (Nat.lt_asymm a1)
  ·exact cb.inj x y c a1 h1 h2 a2 b2
 refine⟨⟨I.ok.mod,b.kind,I.ok.glob,I.ok.blt,Nat.le_refl _,inj,fun x hx=>?_,fun x c hx e=>?_,fun _=>I.ok.hd hc,I.ok.frames,.inl rfl,fun b' hb=>?_,I.bs,Nat.le_trans I.ok.bsz I.sz,fun b' o e hb=>?_,fun b' hb hm=>?_,I.stack,I.stkFree⟩,rfl,I.bare,Un.kept hk,⟨m,hns,fun i x v h1 h2 h3=>?_⟩,fun x c e=>?_,hC,fun x c e=>?_,fun p hp=>(nomatch hp),I.hok.kept hk,?_⟩
 ·obtain⟨y,hy,e1,e2⟩:=jj (env:=X.env) hx
  rcases e2 with e2 | e2
  ·obtain⟨c,e⟩:=c2 y hy e2
   have hn:(y.1,NameKind.cell)∉scope.names:=fun z=>by
    have q1:=b.nfree y hy e2
    have q2:=b.ncell _ z rfl
    rw[q1]at q2;cases q2
   exact⟨c,by rw[← e1];show cl2.lookup y.1=some c;rw[cb.keep _ hn];exact e⟩
  ·obtain⟨c,e⟩:=cb.mine y.1 (by rw[← e2];exact hy)
   exact⟨c,by rw[← e1];exact e⟩
 ·rcases cb.old x c e with ⟨a1,a2⟩ | ⟨a1,_,_⟩
  ·have hx':(scope.names.lookup x==some NameKind.cell)=true:=hx
   exact absurd (eN (eq_of_beq hx')) a2
  ·exact Nat.le_of_lt a1
 ·refine⟨Nat.ne_of_lt (hfo b' hb),fun x c e=>?_⟩
  rcases cb.old x c e with ⟨a1,_⟩ | ⟨a1,_,_⟩
  ·exact(hf b' hb).2.2.2.2.1 x c (c1 x c a1)
  ·exact fun z=>Nat.lt_asymm a1 (z ▸ hfo b' hb)
 ·rcases(hf b' hb).2.2.2.1 with z | z
  ·exact I.ok.noex b' o e z
  ·have:=Heap.lt_size (I.ok.bs b' o e).1
   exact absurd (Nat.lt_of_lt_of_le this z) (Nat.lt_irrefl _)
 ·rcases List.mem_cons.mp (I.stkSub b' hm) with z | z
  ·exact(hf b' hb).2.1 z
  ·exact(hf b' hb).2.2.1 z
 ·
  unfold startB at h2
  by_cases hi:i < own
  ·rw[List.getElem?_append_left (by simpa using hi),List.getElem?_replicate]at h2
   split at h2<;>cases h2
  ·rw[List.getElem?_append_right (by simpa using hi),List.length_replicate,List.getElem?_map]at h2
   cases e:cap[i - own]? with
   | none=>rw[e]at h2;cases h2
   | some k =>
    rw[e]at h2
    obtain⟨x',f1,f2,f3⟩:=b.capN _ _ e
    rw[show own+(i - own)=i by omega]at f1
    have h1':N[i]?=some x:=h1
    rw[h1']at f1;cases f1
    have h2':σ[k]?=some (some v):=by
     cases q:σ[k]? with
     | none=>simp only[Option.map_some,q,Option.getD_none,Option.some.injEq]at h2;cases h2
     | some o=>simp only[Option.map_some,q,Option.getD_some,Option.some.injEq]at h2;rw[h2]
    obtain⟨m0,_,hl⟩:=I.loc
    have kf:=b.free (x,.free) (eN f3) rfl
    obtain⟨u,r,l⟩:=hl k x v f2 h2' (kf.elim (fun z=>.inr (.inl z)) fun z=>.inr (.inr z))
    refine⟨u,r,?_⟩
    rcases l with ⟨z,_⟩ | ⟨_,c,e1,e2⟩
    ·have z':X.env.scope.names.lookup x=some .local:=z
     rcases kf with y | y
     ·have y':X.env.scope.names.lookup x=some .cell:=y
      rw[z']at y';cases y'
     ·have y':X.env.scope.names.lookup x=some .free:=y
      rw[z']at y';cases y'
    ·obtain⟨c',g1⟩:=c2 (x,.free) (eN f3) rfl
     have g2:=c1 x c' g1
     rw[e1]at g2;cases g2
     have hn:(x,NameKind.cell)∉scope.names:=fun z=>by
      have q2:=b.ncell _ z rfl
      have q2':scope.names.lookup x=some .cell:=q2
      rw[f3]at q2';cases q2'
     exact .inr ⟨ji (env:=X.env) f3,c,by show cl2.lookup x=some c;rw[cb.keep _ hn];exact g1,by obtain⟨o,ho,hd⟩:=e2;exact⟨o,hk _ _ ho,hd⟩⟩
 ·rcases cb.old x c e with ⟨a1,_⟩ | ⟨_,a2,_⟩
  ·obtain⟨v,o,ho,hd⟩:=I.cell x c (c1 x c a1)
   exact⟨v,o,hk _ _ ho,hd⟩
  ·exact⟨none,a2⟩
 ·rcases cb.old x c e with ⟨a1,_⟩ | ⟨a1,_,_⟩
  ·exact I.freeC x c (c1 x c a1)
  ·exact I.hok.fresh (Nat.le_of_lt a1)
 ·unfold startB
  show _=N.length
  rw[List.length_append,List.length_replicate,List.length_map,b.len]
theorem sW {s3 s':Shared}{H3 H':Hp}{σ':St}{pl:List (Addr×Obj)}{D C:Addr}(I:Inv X pins σ H s)(hf:∀ b∈fp,FpOk X pins H b)(hD:D=s.heap.objs.size)(h3:s3={ s with heap:=s.heap.push { cls:=.type "list",data:=.seq #[] } })(hH:H3=upd H D (.lst []))(hC:C=s3.heap.objs.size)
  (J:Inv (blk X scope cl C s3 H3 fp N) pl σ' H' s'):Inv X pins σ H' s'∧FpOk X pins H' C∧∃ m,s'.heap.Ns C m:=by
 subst h3
 have hs:s.heap.objs.size≤C:=by rw[hC];show _≤(s.heap.push _).objs.size;rw[Heap.size_push];exact Nat.le_succ _
 have u1:Un (frs X.stack) fp H H3 s.heap (s.heap.push { cls:=.type "list",data:=.seq #[] }):=by
  rw[hH,hD]
  exact Un.laid (fun b u e=>Heap.get?_push_of_some _ e) (Nat.le_refl _) (I.hok.fresh (Nat.le_refl _))
 have u2:Un (frs X.stack) fp H3 H' (s.heap.push { cls:=.type "list",data:=.seq #[] }) s'.heap:=J.base
 have os:s'.os=s.os:=J.os
 refine⟨I.call' (ch:=fp) os (u1.trans u2) J.hok J.bare fun b hb=>?_,I.fpOk hs J.free,?_⟩
 ·obtain⟨_,f1,f2,f3,f4,f5⟩:=hf b hb
  exact⟨f3,f1,f4,f5⟩
 ·obtain⟨m,hn,_⟩:=J.loc
  exact⟨m,hn⟩
end
def tTests (ifs:List Expr)(t:TT):TT:=match ifs with
 | []=>fun _ H Q=>Q true H
 | _::_=>t
theorem om {ifs:List Expr}{t:TT}{σ:St}{H:Hp}{Q:Bool→Hp→Prop}(e:ifs=[])(h:tTests ifs t σ H Q):Q true H:=by subst e;exact h
theorem on {ifs:List Expr}{t:TT}{σ:St}{H:Hp}{Q:Bool→Hp→Prop}{c:Expr}(e:ifs=[c])(h:tTests ifs t σ H Q):t σ H Q:=by subst e;exact h
theorem qI {M:Model}{A:Around}{ifs:List Expr}{env:Env}{Q:Bool→Shared→Prop}{E:Value→Shared→Prop}{s:Shared}(hifs:ifs.length≤1)(h0:ifs=[]→Q true s)(h1:∀ c,ifs=[c]→wpAny M A (isTrue c env (eval c env)) Q E s):wpAny M A (tests ifs env) Q E s:=by
 match ifs,hifs,h0,h1 with
 | [],_,h0,_=>exact wpAny_pure (h0 rfl)
 | [c],_,_,h1=>exact h1 c rfl
def BlkW (sz:Nat)(J:It)(g:TG)(tc:TT)(te:TE)(D:Addr)(Fin:Hp→List V→Prop)(W:Nat→Nat→St→Hp→List V→Prop):Prop :=
 ∀ i m σ H ys,W i m σ H ys→H D=some (.lst ys)∧((J.stop i H∧Fin H ys)∨(J.go i H∧∀ x H',J.yld i H x H'→g x σ H' fun σ2 H2=>tc σ2 H2 fun ok H3 =>
  if ok=true then te σ2 H3 fun y H4=>H4 D=some (.lst ys)∧ys.length < sz∧∃ m',m' < m∧W (i+1) m' σ2 (upd H4 D (.lst (ys++[y]))) (ys++[y])
  else ∃ m',m' < m∧W (i+1) m' σ2 H3 ys))
section
variable {X:Cx}{elt tg iter:Expr}{ifs:List Expr}{scope:Scope}{N:List Str}{own:Nat}{cap:List Nat}{pos:Pos}{wi:TI}{g:TG}{tc:TT}{te:TE}
set_option maxHeartbeats 4000000 in
theorem mi {pins:List (Addr×Obj)}{σ:St}{H:Hp}{s:Shared}{it:Addr}{fp:List Addr}{tn:Nat→Heap→Prop}{J:It}{cl:List (Str×Addr)}{E:Value→Shared→Prop}{RR:Value→Addr→Result→Shared→Prop}{Fin:Addr→Hp→List V→Prop}
  (b:BlkOk X.N X.env.scope scope N own cap) (hc:X.calm=true) (hifs:ifs.length≤1)
  (hg:∀ cl C s H fp,PG (blk X scope cl C s H fp N) tg g) (ht:∀ c,ifs=[c]→∀ cl C s H fp,PT (blk X scope cl C s H fp N) c tc) (he:∀ cl C s H fp,PE (blk X scope cl C s H fp N) elt te)
  (hclos:closureFor scope X.env=pure cl) (c1:∀ n c,cl.lookup n=some c→X.env.cells.lookup n=some c) (c2:∀ y∈scope.names,y.2=.free→∃ c,cl.lookup y.1=some c)
  (I:Inv X pins σ H s) (T:Turn X.prog X.w X.K tg J fp it tn) (st:tn 0 s.heap) (hf:∀ b∈fp,FpOk X pins H b)
  (hW:∀ D,H D=none→∃ W,BlkW sizeLine J g (tTests ifs tc) te D (Fin D) W∧∃ m,W 0 m (startB own cap σ) (upd H D (.lst [])) [])
  (fin:∀ D C s' H' ys,Inv X pins σ H' s'→FpOk X pins H' C→(∃ m,s'.heap.Ns C m)→H' D=some (.lst ys)→Fin D H' ys→RR (.ref D) C (.ok .next) s') :
  wpAny (model X.prog X.w) X.A (newList []) (fun acc s3=>wpAny (model X.prog X.w) X.A (newFunctionEnv scope X.env.globals cl [] X.env.qual none .none (some X.env)) (fun cenv s4 =>
   codeAny (model X.prog X.w) X.A (.compStart (.ListComp elt [⟨tg,iter,ifs,0⟩] scope pos) 0 (.ref it) acc { cenv with scope:=relabel scope X.env }) (RR acc cenv.locals) s4) E s3) E s:=by
 have hfo:∀ b∈fp,b < s.heap.objs.size:=fun b hb=>by
  obtain⟨o,e,_⟩:=T.obj 0 _ st b hb
  exact Heap.lt_size e
 have hD:H s.heap.objs.size=none:=I.hok.fresh (Nat.le_refl _)
 obtain⟨W,hturn,m0,w0⟩:=hW _ hD
 refine wpAny_newObj_type (lx fun h1 cl2 hns kk cb=>?_)
 have I3:Inv X pins σ (upd H s.heap.objs.size (.lst [])) { s with heap:=s.heap.push { cls:=.type "list",data:=.seq #[] } }:=I.lnew (t':=s.toks) (its:=[]) .nil (Nat.zero_le _)
 have hfp3:∀ b∈fp,FpOk X pins (upd H s.heap.objs.size (.lst [])) b:=fun b hb=>⟨by rw[aA (Nat.ne_of_lt (hfo b hb))];exact(hf b hb).1,(hf b hb).2⟩
 have st1:tn 0 h1:=T.keep 0 _ _ st fun b hb o e=>kk b o (Heap.get?_push_of_some _ e)
 generalize hX:blk X scope cl2 (s.heap.push { cls:=.type "list",data:=.seq #[] }).objs.size { s with heap:=s.heap.push { cls:=.type "list",data:=.seq #[] } } (upd H s.heap.objs.size (.lst [])) fp N=X'
 have I4:Inv X' [] (startB own cap σ) (upd H s.heap.objs.size (.lst [])) { s with heap:=h1 }:=by
  rw[← hX]
  exact vj b hc I3 hfp3 (fun b hb=>Nat.lt_of_lt_of_le (hfo b hb) (by show _≤(s.heap.push _).objs.size;rw[Heap.size_push];exact Nat.le_succ _)) c1 c2 hns kk cb
 have eP:X'.prog=X.prog:=by rw[← hX];rfl
 have ew:X'.w=X.w:=by rw[← hX];rfl
 have eK:X'.K=X.K:=by rw[← hX];rfl
 have eA:X'.A=X.A:=by rw[← hX];rfl
 have ec:X'.calm=true:=by rw[← hX];rfl
 have ee:X'.env=compEnvC scope cl2 (s.heap.push { cls:=.type "list",data:=.seq #[] }).objs.size X.env:=by rw[← hX];rfl
 have ex:X'.xe=fun _ _=>False:=by rw[← hX];rfl
 have epn:X'.pn=[]:=by rw[← hX];rfl
 have eex:X'.ex=fp:=by rw[← hX];rfl
 have pg:PG X' tg g:=by rw[← hX];exact hg _ _ _ _ _
 have pe:PE X' elt te:=by rw[← hX];exact he _ _ _ _ _
 have pt:∀ c,ifs=[c]→PT X' c tc:=fun c q=>by rw[← hX];exact ht c q _ _ _ _ _
 have fpB:∀ {H':Hp},(∀ b∈fp,H' b=none)→∀ {s'':Shared} {σ':St},Inv X' [] σ' H' s''→∀ b∈fp,FpOk X' [] H' b:=fun {H'} hn {s'' σ'} Iv b hb =>
  ⟨hn b hb,(Iv.ok.exf b (by rw[eex];exact hb)).1,Iv.ok.exfs b (by rw[eex];exact hb),.inl (by rw[eex];exact hb),(Iv.ok.exf b (by rw[eex];exact hb)).2,fun p hp=>by rw[epn]at hp;exact(nomatch hp)⟩
 have loop:codeAny (model X.prog X.w) X.A (.compLoop (.ListComp elt [⟨tg,iter,ifs,0⟩] scope pos) 0 (.ref it) (.ref s.heap.objs.size) (compEnvC scope cl2 (s.heap.push { cls:=.type "list",data:=.seq #[] }).objs.size X.env))
   (RR (.ref s.heap.objs.size) (s.heap.push { cls:=.type "list",data:=.seq #[] }).objs.size) { s with heap:=h1 }:=by
  refine qC hifs (fun n s'=>∃ i σ' H' ys,Inv X' [] σ' H' s'∧tn i s'.heap∧(∀ b∈fp,H' b=none)∧W i n σ' H' ys) (fun n s5 ⟨i,σ5,H5,ys,I5,st5,fr5,w5⟩=>?_) m0
   ⟨0,startB own cap σ,_,[],I4,st1,fun b hb=>(hfp3 b hb).1,w0⟩
  obtain⟨hDy,hgo⟩:=hturn i n σ5 H5 ys w5
  have hs5:=fpB fr5 I5
  rcases hgo with ⟨stop,hfin⟩ | ⟨go,step⟩
  ·have q:=T.done X' eP ew eK ec i [] s5 σ5 H5 (fun _ _=>False) I5 hs5 st5 stop
   rw[eA]at q
   refine wpAny_mono q (fun r s6 ⟨hr,I6⟩=>?_) fun _ _ z=>z
   subst hr
   rw[← hX]at I6
   obtain⟨J1,J2,J3⟩:=sW I hf rfl rfl rfl rfl I6
   exact fin _ _ s6 H5 ys J1 J2 J3 hDy hfin
  ·have q:=T.item X' eP ew eK ec i [] s5 σ5 H5 (fun _ _=>False) I5 hs5 st5 go
   rw[eA]at q
   refine wpAny_mono q (fun r s6 ⟨u,hr,h6⟩=>?_) fun _ _ z=>z
   subst hr
   refine wpAny_mono h6 (fun _ s7 ⟨x,H7,I7,r7,y7,st7,fr7⟩=>?_) fun _ _ z=>z
   have I7':=I7.pinned (fpB fr7 I7) (T.obj _ _ st7)
   rw[List.nil_append]at I7'
   have qg:=pg _ s7 σ5 H7 x u _ I7' r7 (step x H7 y7)
   rw[eP,ew,eA,ee,ex]at qg
   refine wpAny_mono qg (fun _ s8 ⟨σ8,H8,I8,q8⟩=>?_) fun _ _ z=>z
   have again:∀ {s9:Shared} {H9:Hp} {zs:List V},Inv X' (pinsAt fp s7.heap) σ8 H9 s9→(∃ m',m' < n∧W (i+1) m' σ8 H9 zs) →
     ∃ m,m < n∧∃ i σ' H' ys,Inv X' [] σ' H' s9∧tn i s9.heap∧(∀ b∈fp,H' b=none)∧W i m σ' H' ys:=fun {s9 H9 zs} I9 ⟨m',hm,w9⟩=>by
    have I9':Inv X' ([]++pinsAt fp s7.heap) σ8 H9 s9:=by rw[List.nil_append];exact I9
    refine⟨m',hm,i+1,σ8,H9,zs,I9'.unpinned,T.keep _ _ _ st7 fun b hb o e=>(I9.pin (b,o) (List.mem_append_right _ (dN hb e))).1,fun b hb=>?_,w9⟩
    obtain⟨o,e,d⟩:=T.obj _ _ st7 b hb
    exact(I9.pin (b,o) (List.mem_append_right _ (dN hb e))).2.1
   have body:∀ (ok:Bool) (s9:Shared),(∃ H9,Inv X' (pinsAt fp s7.heap) σ8 H9 s9∧(if ok=true then te σ8 H9 fun y H4=>H4 s.heap.objs.size=some (.lst ys)∧ys.length < sizeLine∧∃ m',m' < n∧W (i+1) m' σ8 (upd H4 s.heap.objs.size (.lst (ys++[y]))) (ys++[y]) else ∃ m',m' < n∧W (i+1) m' σ8 H9 ys)) →
     if ok=true then wpAny (model X.prog X.w) X.A (eval elt (compEnvC scope cl2 (s.heap.push { cls:=.type "list",data:=.seq #[] }).objs.size X.env)) (fun x s5=>wpAny (model X.prog X.w) X.A (call (.builtin "list.append") [.ref s.heap.objs.size,x]) (fun _ s6=>∃ m,m < n∧∃ i σ' H' ys,Inv X' [] σ' H' s6∧tn i s6.heap∧(∀ b∈fp,H' b=none)∧W i m σ' H' ys) (fun _ _=>False) s5) (fun _ _=>False) s9
     else ∃ m,m < n∧∃ i σ' H' ys,Inv X' [] σ' H' s9∧tn i s9.heap∧(∀ b∈fp,H' b=none)∧W i m σ' H' ys:=by
    intro ok s9 ⟨H9,I9,h9⟩
    cases ok with
    | false=>exact again I9 h9
    | true =>
     have qe:=pe _ s9 σ8 H9 _ I9 h9
     rw[eP,ew,eA,ee,ex]at qe
     refine wpAny_mono qe (fun u s10 ⟨y,H10,I10,r10,hD10,hlt,m',hm,w10⟩=>?_) fun _ _ z=>z
     have qa:=kE (X:=X') (pinsAt fp s7.heap) s10 σ8 H10 (.ref s.heap.objs.size) [y] (.ref s.heap.objs.size) [u] (fun _ H11=>H11=upd H10 s.heap.objs.size (.lst (ys++[y]))) I10 rfl (.cons r10 .nil)
      ⟨s.heap.objs.size,ys,y,rfl,rfl,hD10,hlt,rfl⟩
     rw[eP,ew,eA,ex]at qa
     refine wpAny_mono qa (fun _ s11 ⟨_,H11,I11,_,e11⟩=>?_) fun _ _ z=>z
     subst e11
     exact again I11 ⟨m',hm,w10⟩
   refine qI hifs (fun q=>body true s8 ⟨H8,I8,om q q8⟩) fun c q=>?_
   have qt:=pt c q _ s8 σ8 H8 _ I8 (on q q8)
   rw[eP,ew,eA,ee,ex]at qt
   exact wpAny_mono qt (fun ok s9 ⟨H9,I9,h9⟩=>body ok s9 ⟨H9,I9,h9⟩) fun _ _ z=>z
 exact codeAny_compStart_list loop (T.self _ 0 _ _ _ st1 loop)
def tComp (own:Nat)(cap:List Nat)(wi:TI)(g:TG)(tc:TT)(te:TE):TE:=fun σ H Q=>wi σ H fun J H1=>∀ D,H1 D=none→∃ W,BlkW sizeLine J g tc te D (fun H' _=>Q (.ref D) H') W∧∃ m,W 0 m (startB own cap σ) (upd H1 D (.lst [])) []
theorem pv (b:BlkOk X.N X.env.scope scope N own cap)(hc:X.calm=true)(hifs:ifs.length≤1)(hi:PI X tg iter wi)
  (hg:∀ cl C s H fp,PG (blk X scope cl C s H fp N) tg g) (ht:∀ c,ifs=[c]→∀ cl C s H fp,PT (blk X scope cl C s H fp N) c tc) (he:∀ cl C s H fp,PE (blk X scope cl C s H fp N) elt te)
  (hs:∀ x,foldedSetIterable iter X.env x=pure x:=by intro _;rfl):PE X (.ListComp elt [⟨tg,iter,ifs,0⟩] scope pos) (tComp own cap wi g (tTests ifs tc) te):=by
 intro pins s σ H Q I h
 obtain⟨cl,hclos,c1,c2⟩:=jg scope X.env fun y hy hf=>I.ok.has y.1 (b.free y hy hf)
 rw[eval_ListComp]
 refine wpAny_comprehension_free (use:=none) rfl hs hclos b.kind b.nloc (thn (hi pins s σ H _ I h) fun v s1 h1=>thn h1 fun itv s2 h2=>?_)
 obtain⟨it,fp,tn,J,H2,e,I2,T,st2,f2,hW⟩:=h2
 subst e
 refine mi (RR:=fun acc C=>compPost (model X.prog X.w) X.A X.xe none (EP X pins σ Q) acc C) b hc hifs hg ht he hclos c1 c2 I2 T st2 f2 hW fun D C s' H' ys J1 J2 ⟨m,hm⟩ hD hQ=>?_
 refine⟨m,hm,fun h' hsb=>⟨.ref D,H',?_,rfl,hQ⟩⟩
 obtain⟨f0,f1,f2,f3,f4,f5⟩:=J2
 exact J1.turned (t':=s'.toks) (fun b o hb e=>(hsb.2 b hb).trans e) f0 f1 f3 f4 f5
def tCompSet (i own:Nat)(cap:List Nat)(wi:TI)(g:TG)(tc:TT)(te:TE):TS:=fun E σ H=>wi σ H fun J H1=>∀ D,H1 D=none→∃ W,BlkW sizeLine J g tc te D (fun H' _=>E.nx (σ.set i (some (.ref D))) H') W∧∃ m,W 0 m (startB own cap σ) (upd H1 D (.lst [])) []
theorem oo {i:Nat}{y:Str}{py spos:Pos}(b:BlkOk X.N X.env.scope scope N own cap)(hc:X.calm=true)(hifs:ifs.length≤1)(hi:PI X tg iter wi)
  (hg:∀ cl C s H fp,PG (blk X scope cl C s H fp N) tg g) (ht:∀ c,ifs=[c]→∀ cl C s H fp,PT (blk X scope cl C s H fp N) c tc) (he:∀ cl C s H fp,PE (blk X scope cl C s H fp N) elt te)
  (hN:X.N.Nodup) (hiy:X.N[i]?=some y) (hy:Loc X.env.scope y) (hfn:X.fn y=true∨X.env.scope.names.lookup y=some .local)
  (hsw:swapsWith (.ListComp elt [⟨tg,iter,ifs,0⟩] scope pos) (some (.Name y py)) spos.line X.env=pure true)
  (hs:∀ x,foldedSetIterable iter X.env x=pure x:=by intro _;rfl):PS X (.Assign [.Name y py] (.ListComp elt [⟨tg,iter,ifs,0⟩] scope pos) spos) (tCompSet i own cap wi g (tTests ifs tc) te):=by
 intro pins s σ H E I h
 obtain⟨cl,hclos,c1,c2⟩:=jg scope X.env fun y hy hf=>I.ok.has y.1 (b.free y hy hf)
 rw[exec_Assign_Name_used _ _ _ _ hsw]
 refine wpAny_bind (wpAny_standAt (wpAny_bind ?_))
 show wpAny _ X.A (do let _ ← comprehension (.ListComp elt [⟨tg,iter,ifs,0⟩] scope pos) scope X.env _ (newList []) false (eval iter X.env) (some (assign (.Name y py) X.env))) _ _ s
 refine wpAny_bind (wpAny_mono (wpAny_comprehension_free (use:=some (assign (.Name y py) X.env)) (Q:=fun _ s'=>SP X pins E .next s') rfl hs hclos b.kind b.nloc (thn (hi pins s σ H _ I h) fun v s1 h1=>thn h1 fun itv s2 h2=>?_)) (fun _ s' hq=>wpAny_pure (wpAny_pure hq)) fun _ _ e=>e)
 obtain⟨it,fp,tn,J,H2,e,I2,T,st2,f2,hW⟩:=h2
 subst e
 refine mi (RR:=fun acc C=>compPost (model X.prog X.w) X.A X.xe (some (assign (.Name y py) X.env)) (fun _ s'=>SP X pins E .next s') acc C) b hc hifs hg ht he hclos c1 c2 I2 T st2 f2 hW fun D C s' H' ys J1 J2 ⟨m,hm⟩ hD hQ=>?_
 obtain⟨f0,f1,f2,f3,f4,f5⟩:=J2
 refine wpAny_assign_Name (ku J1 hN hiy hy (v:=.ref D) rfl (fun s'' I'' ⟨a,hsb,ha⟩=>?_) hfn)
 have hne:C≠a:=by
  rcases ha with z | z
  ·rw[z];exact f1
  ·exact fun q=>f4 y a z q.symm
 refine⟨m,hm.sameBut hsb hne,fun h' hs'=>⟨_,H',I''.turned (t':=s''.toks) (fun b o hb e=>(hs'.2 b hb).trans e) f0 f1 f3 f4 f5,hQ⟩⟩
end
def Walk (J:It)(vs:List V)(Ok:Hp→Prop):Prop:=∀ (i:Nat) (H:Hp),Ok H→(i < vs.length→J.go i H∧∀ x H',J.yld i H x H'→H'=H∧vs[i]?=some x)∧(vs.length≤i→J.stop i H)
def WalkG (F:Fx)(J:It)(ds:List D)(Z1:Hp):Prop:=∀ (i:Nat) (H Z:Hp),Same Z1 Z→Same Z H→(i < ds.length→J.go i H∧∀ x H',J.yld i H x H'→∃ Z' d,Ex H Z H' Z'∧ds[i]?=some d∧Rep F.K F.C Z' d x)∧(ds.length≤i→J.stop i H)
theorem fU {F:Fx}{J:It}{ds:List D}{vs:List V}{Z1:Hp}(rs:Reps F.K F.C Z1 ds vs)(w:Walk J vs (Same Z1)):WalkG F J ds Z1:=fun i H Z z1 z2=>by
 obtain⟨k1,k2⟩:=w i H (z1.trans z2)
 have hl:=rs.length
 refine⟨fun hi=>?_,fun hi=>k2 (by omega)⟩
 obtain⟨go,y⟩:=k1 (by omega)
 exact⟨go,fun x H' hy=>by
  obtain⟨e0,e2⟩:=y x H' hy
  subst e0
  obtain⟨d,e3,rd⟩:=rs.get' e2
  exact⟨Z,d,Ex.refl z2,e3,rd.mono z1⟩⟩
def tI (F:Fx)(g:SS→R (List D)):TI:=fun σ H Q=>∃ Z S,StOk F H Z S σ∧WG F H Z (g S) fun ds H' Z'=>∀ J,WalkG F J ds Z'→ds.length≤16777216→Q J H'
abbrev FI (X:Cx)(F:Fx)(tg e:Expr)(g:SS→R (List D)):Prop:=PI X tg e (tI F g)
def asSeq:D→R (List D)
 | .tup xs=>.ok xs
 | .lst xs=>.ok xs
 | _=>.stuck
def iSeq (g:SS→R D):SS→R (List D):=fun S=>(g S).bind fun d=>(asSeq d).bind fun ds=>if ds.length≤16777216 then .ok ds else .stuck
theorem _root_.L2.PI.weak {X:Cx}{tg e:Expr}{t t':TI}(h:PI X tg e t)(w:∀ σ H Q,t' σ H Q→t σ H Q):PI X tg e t':=fun pins s σ H Q I q=>h pins s σ H Q I (w σ H Q q)
theorem qJ {K:PySem.W.Frag}{a:Addr}{vs:List V}{Z:Hp}(h:SqL K Z a vs):Walk (Itl K a) vs (Same Z):=fun i H hz =>
 ⟨fun hi=>⟨⟨vs,vs[i],hz.seq h,by simp[hi]⟩,fun x H' ⟨e,y⟩=>⟨e,y vs (hz.seq h)⟩⟩,fun hi=>⟨vs,hz.seq h,hi⟩⟩
theorem sX {K:PySem.W.Frag}{a:Addr}{vs:List V}{Z:Hp}(h:SqT K Z a vs):Walk (Itt K a) vs (Same Z):=fun i H hz =>
 ⟨fun hi=>⟨⟨vs,vs[i],h.mono hz,by simp[hi]⟩,fun x H' ⟨e,y⟩=>⟨e,y vs (h.mono hz)⟩⟩,fun hi=>⟨vs,h.mono hz,hi⟩⟩
theorem jk {lo:Int}{n:Nat}{Z:Hp}:Walk (Itr lo n) ((List.range n).map fun i=>.int (lo+(i:Nat))) (Same Z):=fun i H hz=>by
 refine⟨fun hi=>?_,fun hi=>?_⟩
 ·have hi':i < n:=by simpa using hi
  exact⟨hi',fun x H' ⟨e,y⟩=>⟨e,by rw[y];simp[hi']⟩⟩
 ·show n≤i
  simpa using hi
theorem xq {X:Cx}{tg l:Expr}{tl:TE}(hl:PE X l tl):PI X tg l (fun σ H R=>tl σ H fun x H1=>∃ a,x=.ref a∧(((∃ xs,SqL X.K H1 a xs)∧R (Itl X.K a) H1)∨((∃ xs,SqT X.K H1 a xs)∧R (Itt X.K a) H1))):=by
 intro pins s σ H Q I h
 refine thn (hl pins s σ H _ I h) fun v s1 ⟨x,H1,I1,r1,a,e,q⟩=>?_
 subst e
 cases r1
 rcases q with ⟨⟨xs,hq⟩,q⟩ | ⟨⟨xs,hq⟩,q⟩
 ·obtain⟨its,rv,p,hz⟩:=I1.list hq
  refine wpAny_pyIter_list p.isList ⟨s1.heap.objs.size,[s1.heap.objs.size],_,_,H1,rfl,I1.kept (t':=s1.toks) fun b o e=>Heap.get?_push_of_some _ e,qo a _,⟨_,Heap.get?_push_size _ rfl,rfl,rfl⟩,fun b hb=>?_,q⟩
  obtain rfl:b=s1.heap.objs.size:=by simpa using hb
  exact I1.fpOk (Nat.le_refl _) (I1.hok.fresh (Nat.le_refl _))
 ·obtain⟨its,rv,p,hz⟩:=I1.tuple hq
  refine wpAny_pyIter_tuple (show s1.heap.IsTuple a its.toArray from p) ⟨s1.heap.objs.size,[s1.heap.objs.size],_,_,H1,rfl,I1.kept (t':=s1.toks) fun b o e=>Heap.get?_push_of_some _ e,n5 a _,⟨_,Heap.get?_push_size _ rfl,rfl,rfl⟩,fun b hb=>?_,q⟩
  obtain rfl:b=s1.heap.objs.size:=by simpa using hb
  exact I1.fpOk (Nat.le_refl _) (I1.hok.fresh (Nat.le_refl _))
section
variable {X:Cx}{F:Fx}{tg e:Expr}{g:SS→R D}{gs:SS→R (List D)}
theorem aU (hK:X.K=F.K)(h:FE X F e g):FI X F tg e (iSeq g):=(xq h).weak fun σ H Q ⟨Z,S,ok,w⟩=>aH ok w fun d v H1 Z1 ok1 x1 rv w1=>by
 rw[hK]
 cases d with
 | tup ds =>
  rw[Rep]at rv
  obtain⟨a,vs,rfl,h1,h2⟩:=rv
  have w2:WG F H1 Z1 (if ds.length≤16777216 then R.ok ds else .stuck) _:=w1
  split at w2
  ·rename_i hl
   exact⟨a,rfl,.inr ⟨⟨vs,h1.mono ok1.sub⟩,WG.now w2 ok1.sub _ (fU h2 (sX h1)) hl⟩⟩
  ·exact w2.elim
 | lst ds =>
  rw[Rep]at rv
  obtain⟨a,vs,rfl,h1,h2⟩:=rv
  have w2:WG F H1 Z1 (if ds.length≤16777216 then R.ok ds else .stuck) _:=w1
  split at w2
  ·rename_i hl
   exact⟨a,rfl,.inl ⟨⟨vs,ok1.sub.seq h1⟩,WG.now w2 ok1.sub _ (fU h2 (qJ h1)) hl⟩⟩
  ·exact w2.elim
 | _=>exact w1.elim
def rngD (lo:Int)(n:Nat):List D:=(List.range n).map fun i=>.int (lo+(i:Nat))
def rng1:List D→R (List D)
 | [.int j]=>if -16777216≤j∧j≤16777216 then .ok (rngD 0 j.toNat) else .stuck
 | _=>.stuck
def rng2:List D→R (List D)
 | [.int i,.int j]=>if (-16777216≤i∧i≤16777216)∧(-16777216≤j∧j≤16777216)∧j - i≤16777216 then .ok (rngD i (j - i).toNat) else .stuck
 | _=>.stuck
def iRange1 (gs:SS→R (List D)):SS→R (List D):=fun S=>(gs S).bind rng1
def iRange2 (gs:SS→R (List D)):SS→R (List D):=fun S=>(gs S).bind rng2
theorem jl {K:PySem.W.Frag}{C:Nat→Addr}{Z:Hp}(lo:Int):∀ (l:List Nat),Reps K C Z (l.map fun i=>.int (lo+(i:Nat))) (l.map fun i=>.int (lo+(i:Nat)))
 | []=>Reps.nil
 | a::r=>Reps.cons (by rw[Rep]) (jl lo r)
theorem pw {K:PySem.W.Frag}{C:Nat→Addr}{Z:Hp}{j:Int}{vs:List V}(r:Reps K C Z [.int j] vs):vs=[.int j]:=by
 rw[Reps]at r
 obtain⟨v,r',rfl,h1,h2⟩:=r
 rw[Reps]at h2
 rw[Rep]at h1
 rw[h1,h2]
theorem mj {K:PySem.W.Frag}{C:Nat→Addr}{Z:Hp}{i j:Int}{vs:List V}(r:Reps K C Z [.int i,.int j] vs):vs=[.int i,.int j]:=by
 rw[Reps]at r
 obtain⟨v,r',rfl,h1,h2⟩:=r
 rw[Rep]at h1
 rw[h1,pw h2]
theorem vk {ds:List D}{es:List D}(h:rng1 ds=.ok es):∃ j:Int,ds=[.int j]∧(-16777216≤j∧j≤16777216)∧es=rngD 0 j.toNat:=by
 unfold rng1 at h
 split at h
 ·rename_i j
  split at h
  ·rename_i q;cases h;exact⟨j,rfl,q,rfl⟩
  ·cases h
 ·cases h
theorem vm {ds:List D}{es:List D}(h:rng2 ds=.ok es):∃ i j:Int,ds=[.int i,.int j]∧((-16777216≤i∧i≤16777216)∧(-16777216≤j∧j≤16777216)∧j - i≤16777216)∧es=rngD i (j - i).toNat:=by
 unfold rng2 at h
 split at h
 ·rename_i i j
  split at h
  ·rename_i q;cases h;exact⟨i,j,rfl,q,rfl⟩
  ·cases h
 ·cases h
theorem vn {ds:List D}{k:Nat}(h:rng1 ds=.err k):False:=by
 unfold rng1 at h
 split at h
 ·split at h<;>cases h
 ·cases h
theorem vo {ds:List D}{k:Nat}(h:rng2 ds=.err k):False:=by
 unfold rng2 at h
 split at h
 ·split at h<;>cases h
 ·cases h
theorem bB {a:Expr}{p pos:Pos}(hg:Gl X "range")(hm:X.mg "range"=none)(ha:FA X F [a] gs)(hs:starEach [a] X.env=[(false,eval a X.env)]:=by rfl):FI X F tg (.Call (.Name "range" p) [a] [] pos) (iRange1 gs) :=
 (qp hg hm ha hs).weak fun σ H Q ⟨Z,S,ok,w⟩=>aZ ok w fun ds vs H1 Z1 ok1 x1 rs w1=>by
  cases e:rng1 ds with
  | err k=>exact(vn e).elim
  | stuck=>rw[e]at w1;exact w1.elim
  | ok es =>
   rw[e]at w1
   obtain⟨j,rfl,hj,rfl⟩:=vk e
   exact⟨j,pw rs,by omega,by omega,WG.now w1 ok1.sub _ (fU (jl 0 _) jk) (by unfold rngD;rw[List.length_map,List.length_range];omega)⟩
theorem kH {a b:Expr}{p pos:Pos}(hg:Gl X "range")(hm:X.mg "range"=none)(ha:FA X F [a,b] gs)(hs:starEach [a,b] X.env=[(false,eval a X.env),(false,eval b X.env)]:=by rfl)(hs2:starEach [b] X.env=[(false,eval b X.env)]:=by rfl) :
  FI X F tg (.Call (.Name "range" p) [a,b] [] pos) (iRange2 gs) :=
 (qq hg hm ha hs hs2).weak fun σ H Q ⟨Z,S,ok,w⟩=>aZ ok w fun ds vs H1 Z1 ok1 x1 rs w1=>by
  cases e:rng2 ds with
  | err k=>exact(vo e).elim
  | stuck=>rw[e]at w1;exact w1.elim
  | ok es =>
   rw[e]at w1
   obtain⟨i,j,rfl,hj,rfl⟩:=vm e
   exact⟨i,j,mj rs,⟨by omega,by omega,by omega,by omega⟩,WG.now w1 ok1.sub _ (fU (jl i _) jk) (by unfold rngD;rw[List.length_map,List.length_range];omega)⟩
end
def tGd (F:Fx)(g:D→SS→R SS):TG:=fun v σ H Q=>∃ Z S d,StOk F H Z S σ∧Rep F.K F.C Z d v∧WG F H Z (g d S) fun S' H' Z'=>∀ σ',StOk F H' Z' S' σ'→Q σ' H'
abbrev FG (X:Cx)(F:Fx)(tg:Expr)(g:D→SS→R SS):Prop:=PG X tg (tGd F g)
def gNm (i:Nat):D→SS→R SS:=fun d S=>.ok (S.set i (some (.val d)))
theorem _root_.L2.PG.weak {X:Cx}{tg:Expr}{t t':TG}(h:PG X tg t)(w:∀ v σ H Q,t' v σ H Q→t v σ H Q):PG X tg t':=fun pins s σ H v u Q I r q=>h pins s σ H v u Q I r (w v σ H Q q)
theorem ax {X:Cx}{F:Fx}(i:Nat){x:Str}{pos:Pos}(hN:X.N.Nodup)(hi:X.N[i]?=some x:=by rfl)(hx:Loc X.env.scope x:=by first | exact Or.inl rfl | exact Or.inr rfl)(hf:X.fn x=true∨X.env.scope.names.lookup x=some .local:=by first | exact .inl rfl | exact .inr rfl) :
  FG X F (.Name x pos) (gNm i):=(cD hN hi hx hf).weak fun v σ H Q ⟨Z,S,d,ok,r,w⟩=>WG.now w ok.sub _ (ok.setVal r)
def spF (K:PySem.W.Frag)(C:Nat→Addr)(n:Nat)(f:List D→R D):Sp:=fun vs H Q E =>
 vs.length=n∧∃ Z ds,Same Z H∧Reps K C Z ds vs∧WG ⟨K,C,H,Z,E⟩ H Z (f ds) fun d H' Z'=>∀ v,Rep K C Z' d v→Q v H'
def outD (o:O):R D:=match o with
 | .nx _=>.ok .non
 | .rt d=>.ok d
 | .er k=>.err k
 | _=>.stuck
def startS (n:Nat)(ds:List D):SS:=ds.map (fun d=>some (.val d))++List.replicate (n - ds.length) none
def fnD (n:Nat)(body:SS→O):List D→R D:=fun ds=>outD (body (startS n ds))
theorem mk {F:Fx}{N:List Str}{ds:List D}{vs:List V}(z:Same F.Z0 F.H0)(r:Reps F.K F.C F.Z0 ds vs):StOk F F.H0 F.Z0 (startS N.length ds) (start N vs):=by
 have hl:=r.length
 have at_:∀ {i:Nat} {x:Option Sl},(startS N.length ds)[i]?=some x→(i < ds.length∧∃ d,ds[i]?=some d∧x=some (.val d))∨x=none:=fun {i x} e=>by
  unfold startS at e
  by_cases hi:i < ds.length
  ·rw[List.getElem?_append_left (by simpa using hi),List.getElem?_map]at e
   cases q:ds[i]? with
   | none=>rw[q]at e;cases e
   | some d=>rw[q]at e;cases e;exact .inl ⟨hi,d,rfl,rfl⟩
  ·rw[List.getElem?_append_right (by simpa using hi),List.getElem?_replicate]at e
   split at e
   ·cases e;exact .inr rfl
   ·cases e
 refine⟨Ex.refl z,?_,fun i d e=>?_,fun i j x y v w A B _ e1 _ _ _ o1 _=>?_⟩
 ·unfold startS L2.start
  simp[hl]
 ·rcases at_ e with ⟨hi,d',e1,e2⟩ | e2
  ·cases e2
   obtain⟨v,e3,rv⟩:=r.get e1
   refine⟨v,[],?_,⟨rfl,rv⟩,Priv.nil⟩
   unfold L2.start
   rw[List.getElem?_append_left (by simpa [← hl] using hi),List.getElem?_map,e3]
   rfl
  ·cases e2
 ·rcases at_ e1 with ⟨_,d',_,e2⟩ | e2
  ·cases e2;rw[o1.1];exact fun a ha=>nomatch ha
  ·cases e2
section
variable {P:Program}{w:World}{K:PySem.W.Frag}{mg:Str→Option Value}{base:Heap}
structure BX (X:Cx)(F:Fx)(k:Nat):Prop where
 room:Room k X.A
 K:X.K=F.K
 calm:X.calm=true
 pass:Passes (CXE X.prog X.w) X F.E
theorem yG {x qual:Str}{st:Stmt}{f:Addr}{fd:FuncData}{N ps:List Str}{k:Nat}{C:Nat→Addr}{body:SS→O}(F:Fun K x qual st f fd)(S:FnScope N ps (defScope st))
  (h:∀ (cdv:Value) (A:Around) (outer:List Env) (s:Shared) (H Z:Hp) (E:XK),BX (bodyX P w K mg base N qual (defScope st) f cdv A outer s H E) ⟨K,C,H,Z,E⟩ k →
   PassesOwn (model P w) (bodyX P w K mg base N qual (defScope st) f cdv A outer s H E).A (bodyX P w K mg base N qual (defScope st) f cdv A outer s H E).env (bodyX P w K mg base N qual (defScope st) f cdv A outer s H E).xe →
   FSs (bodyX P w K mg base N qual (defScope st) f cdv A outer s H E) ⟨K,C,H,Z,E⟩ (defBody st) body) :
  FnOk P w K mg base (CXE P w) (k+1) f fd ps (spF K C ps.length (fnD N.length body)):=by
 obtain⟨oc,od,kV,doc,pm,an,cdv,ct,osl,rfl,lk,hcd⟩:=F.ex
 refine wx lk hcd S (fun vs H Q E q=>q.1) fun A outer s H vs Q E hr hsp=>?_
 obtain⟨_,Z,ds,z,r,w⟩:=hsp
 refine⟨_,h cdv A outer s H Z E ⟨hr,rfl,rfl,kG⟩ PassesOwn.leaving,Z,startS N.length ds,mk (F:=⟨K,C,H,Z,E⟩) (N:=N) z r,?_⟩
 unfold fnD at w
 cases e:body (startS N.length ds) with
 | nx S'=>rw[e]at w;exact fun σ' H' Z' _ ok=>w H' Z' ok.ex .non (by rw[Rep])
 | rt d=>rw[e]at w;exact fun v H' Z' x rv=>w H' Z' x v rv
 | er k=>rw[e]at w;exact w
 | bk S'=>rw[e]at w;exact w.elim
 | ct S'=>rw[e]at w;exact w.elim
 | stuck=>rw[e]at w;exact w
end
structure Fn1 (P:Program)(w:World)(K:PySem.W.Frag)(mg:Str→Option Value)(base:Heap)(C:Nat→Addr)(k:Nat)(x:Str)(ps:List Str)(f:List D→R D):Prop where
 ex:∃ a fd,FnOk P w K mg base (CXE P w) k a fd ps (spF K C ps.length f)∧mg x=some (.ref a)∧PySem.W.keepIn K (.ref a)=true∧Binds K fd ps []
def eCall (f:List D→R D)(gs:SS→R (List D)):SS→R D:=fun S=>(gs S).bind f
section
variable {X:Cx}{F:Fx}{x:Str}{p pos:Pos}{e:Expr}{es:List Expr}{gs:SS→R (List D)}{k:Nat}{ps:List Str}{f:List D→R D}
theorem sY (n:Nat)(hn:∀ S ds,gs S=.ok ds→ds.length=n):∀ σ H Q,tE F (eCall f gs) σ H Q→tCall (spF F.K F.C n f) [] F.E (tAl F gs) σ H Q:=fun σ H Q ⟨Z,S,ok,w⟩=>by
 refine⟨Z,S,ok,?_⟩
 cases e:gs S with
 | err k=>unfold eCall at w;rw[e]at w;exact w
 | stuck=>unfold eCall at w;rw[e]at w;exact w
 | ok ds =>
  unfold eCall at w
  rw[e]at w
  intro H1 Z1 x1 vs rs
  have w1:=WG.more (r:=f ds) w x1
  refine⟨by rw[List.append_nil,← rs.length];exact hn S ds e,Z1,ds,x1.sub,by rw[List.append_nil];exact rs,?_⟩
  cases q:f ds with
  | ok d=>rw[q]at w1;exact w1
  | err k=>rw[q]at w1;exact w1
  | stuck=>rw[q]at w1;exact w1
theorem vp (b:BX X F k)(h:Fn1 X.prog X.w F.K X.mg X.base F.C k x ps f)(hg:Gl X x)(ha:FA X F (e::es) gs)(hn:∀ S ds,gs S=.ok ds→ds.length=ps.length)(hdb:(x==("__debug__":Str))=false:=by decide)
  (he:starEach (e::es) X.env=(false,eval e X.env)::starEach es X.env:=by rfl) (hpl:(backTo pos (starEach es X.env)).any (·.1)=false:=by rfl):FE X F (.Call (.Name x p) (e::es) [] pos) (eCall f gs):=by
 obtain⟨a,fd,h1,h2,h3,h4⟩:=h.ex
 have hK:=b.K
 exact(u4 (ds:=[]) (dvs:=[]) (E:=F.E) (by rw[hK];exact h1) b.room hg h2 (by rw[hK];exact h3) (by rw[hK];exact h4) .nil b.pass ha hdb he hpl).weak (sY ps.length hn)
theorem qK {g:SS→R D}{gs:SS→R (List D)}{n:Nat}(h:∀ S ds,gs S=.ok ds→ds.length=n):∀ S ds,aCons g gs S=.ok ds→ds.length=n+1:=fun S ds e=>by
 unfold aCons at e
 cases q:g S with
 | err k=>rw[q]at e;cases e
 | stuck=>rw[q]at e;cases e
 | ok d =>
  rw[q]at e
  cases q2:gs S with
  | err k=>rw[R.bind_ok,q2]at e;cases e
  | stuck=>rw[R.bind_ok,q2]at e;cases e
  | ok r =>
   rw[R.bind_ok,q2]at e
   cases e
   simp[h S r q2]
end
def noErr {α:Type}(r:R α):R α:=match r with
 | .ok a=>.ok a
 | _=>.stuck
def blkS (own:Nat)(cap:List Nat)(S:SS):SS:=List.replicate own none++cap.map fun i=>match S[i]? with
 | some (some (.val d))=>some (.val d)
 | _=>none
def compGo (S:SS)(g:D→SS→R SS)(c:SS→R Bool)(e:SS→R D):List D→R (List D)
 | []=>.ok []
 | d::r=>(g d S).bind fun S1=>(c S1).bind fun t=>if t=true then (e S1).bind fun y=>(compGo S g c e r).bind fun ys=>.ok (y::ys) else compGo S g c e r
def eComp (own:Nat)(cap:List Nat)(it:SS→R (List D))(g:D→SS→R SS)(c:SS→R Bool)(e:SS→R D):SS→R D:=fun S=>(it S).bind fun ds=>(noErr (compGo (blkS own cap S) g c e ds)).bind fun ys=>.ok (.lst ys)
def tTrue:SS→R Bool:=fun _=>.ok true
abbrev noE (F:Fx):Fx:={ F with E:=fun _ _ _=>False }
def Own (own:Nat)(g:D→SS→R SS):Prop:=∀ d S S1,g d S=.ok S1→S1.length=S.length∧∀ i,own≤i→S1[i]?=S[i]?
theorem ay {X:Cx}{F:Fx}{k:Nat}(bx:BX X F k){scope:Scope}{cl:List (Str×Addr)}{C:Addr}{s:Shared}{H:Hp}{fp:List Addr}{N:List Str}:BX (blk X scope cl C s H fp N) (noE F) k :=
 ⟨bx.room,bx.K,rfl,fun pins σ H s e s' _ h=>by
  obtain⟨_,_,_,_,_,_,_,_,_,_,_,_,_,hE⟩:=h
  exact hE.elim⟩
theorem bb {own i:Nat}(h:i < own):Own own (gNm i):=fun d S S1 e=>by
 cases e
 exact⟨by simp,fun j hj=>List.getElem?_set_ne (by omega)⟩
theorem StOk.forget {F:Fx}{H Z:Hp}{S S0:SS}{σ:St}(h:StOk F H Z S σ)(hl:S0.length=S.length)(hs:∀ (i:Nat) (x:Sl),S0[i]?=some (some x)→S[i]?=some (some x)):StOk F H Z S0 σ :=
 ⟨h.ex,hl.trans h.len,fun i x e=>h.sl i x (hs i _ e),fun i j x y v w A B hij e1 e2=>h.dj i j x y v w A B hij (hs i _ e1) (hs j _ e2)⟩
theorem fV {own:Nat}{cap:List Nat}{S:SS}{i:Nat}{x:Sl}(e:(blkS own cap S)[i]?=some (some x)):own≤i∧∃ k d,cap[i - own]?=some k∧S[k]?=some (some (.val d))∧x=.val d:=by
 unfold blkS at e
 by_cases hi:i < own
 ·rw[List.getElem?_append_left (by simpa using hi),List.getElem?_replicate]at e
  split at e<;>cases e
 ·rw[List.getElem?_append_right (by simpa using hi),List.length_replicate,List.getElem?_map]at e
  cases q:cap[i - own]? with
  | none=>rw[q]at e;cases e
  | some k =>
   rw[q]at e
   simp only[Option.map_some,Option.some.injEq]at e
   split at e
   ·rename_i d q2
    cases e
    exact⟨by omega,k,d,rfl,q2,rfl⟩
   ·cases e
theorem qL {F:Fx}{H Z:Hp}{S:SS}{σ:St}{own:Nat}{cap:List Nat}{D:Addr}(ok:StOk F H Z S σ)(hD:H D=none):StOk (noE F) (upd H D (.lst [])) Z (blkS own cap S) (startB own cap σ):=by
 refine⟨ok.ex.trans (Ex.hidden ok.sub hD),by simp[blkS,startB],fun i x e=>?_,fun i j x y v w A B _ e1 _ _ _ o1 _=>?_⟩
 ·obtain⟨hi,k,d',q1,q2,q3⟩:=fV e
  cases q3
  obtain⟨v,e1,r⟩:=ok.val k d' q2
  refine⟨v,[],?_,⟨rfl,r⟩,Priv.nil⟩
  unfold startB
  rw[List.getElem?_append_right (by simpa using hi),List.length_replicate,List.getElem?_map,q1]
  simp[e1]
 ·obtain⟨_,_,_,_,_,q⟩:=fV e1
  cases q
  rw[o1.1];exact fun a ha=>nomatch ha
section
variable {X:Cx}{F:Fx}{tg iter elt:Expr}{ifs:List Expr}{scope:Scope}{N:List Str}{own:Nat}{cap:List Nat}{pos:Pos}{git:SS→R (List D)}{g:D→SS→R SS}{gc:SS→R Bool}{ge:SS→R D}
theorem oq {σ:St}{H Z:Hp}{S:SS}{ifs:List Expr}{P:D→Hp→Hp→Prop}{Q:Addr→Hp→Prop}(hgc:ifs=[]→gc=tTrue)(hgo:Own own g)(ok:StOk F H Z S σ)(w:WG F H Z (eComp own cap git g gc ge S) P)
  (hP:∀ D ys ds H1 Z1 H' Z',Ex H Z H1 Z1→H1 D=none→Ex H1 Z1 H' Z'→Z' D=none→(∀ H'' Z'',Ex H1 Z1 H'' Z''→P (.lst ds) H'' Z'')→H' D=some (.lst ys)→Reps F.K F.C Z' ds ys→Q D H') :
  tI F git σ H fun J H1=>∀ D,H1 D=none→∃ W,BlkW sizeLine J (tGd (noE F) g) (tTests ifs (tT (noE F) gc)) (tE (noE F) ge) D (fun H' _=>Q D H') W∧∃ m,W 0 m (startB own cap σ) (upd H1 D (.lst [])) []:=by
 refine⟨Z,S,ok,?_⟩
 unfold eComp at w
 cases e:git S with
 | err k=>rw[e]at w;exact w
 | stuck=>rw[e]at w;exact w
 | ok ds =>
  rw[e]at w
  intro H1 Z1 x1 J wk hlen D hD
  have w1:=WG.more (r:=(noErr (compGo (blkS own cap S) g gc ge ds)).bind fun ys=>R.ok (FF.D.lst ys)) w x1
  have ok1:=ok.more x1
  have hS:=sizeLine_eq
  refine⟨fun i m σ' H' ys=>m=ds.length - i∧i≤ds.length∧H' D=some (.lst ys)∧ys.length≤i∧∃ Z' acc,Ex H1 Z1 H' Z'∧Z' D=none∧Reps F.K F.C Z' acc ys∧StOk (noE F) H' Z' (blkS own cap S) σ' ∧
   WG F H1 Z1 ((noErr (compGo (blkS own cap S) g gc ge (ds.drop i))).bind fun zs=>R.ok (FF.D.lst (acc++zs))) P,?_,ds.length,rfl,Nat.zero_le _,av,Nat.le_refl _,Z1,[],Ex.hidden ok1.sub hD,ok1.sub.free hD,Reps.nil,qL ok1 hD,w1⟩
  rintro i m σ2 H2 ys ⟨rfl,hle,hDy,hyl,Z2,acc,x2,hZD,ra,ok2,w2⟩
  refine⟨hDy,?_⟩
  obtain⟨k1,k2⟩:=wk i H2 Z2 x2.z x2.sub
  by_cases hlt:i < ds.length
  ·obtain⟨go,y⟩:=k1 hlt
   refine .inr ⟨go,fun x H' hy=>?_⟩
   obtain⟨Z2',d,x',e3,rd⟩:=y x H' hy
   have ok2:=ok2.more x'
   have hZD:Z2' D=none:=by
    cases r:Z2' D with
    | none=>rfl
    | some o =>
     rcases x'.new D (by rw[r];simp) with z | z
     ·exact absurd hZD z
     ·rw[hDy]at z;cases z
   have hDy:=x'.same _ _ hDy
   have x2:=x2.trans x'
   have ra:=ra.mono x'.z
   have hd:ds.drop i=d::ds.drop (i+1):=by
    obtain⟨hi,e4⟩:=List.getElem?_eq_some_iff.mp e3
    rw[List.drop_eq_getElem_cons hi,e4]
   rw[hd]at w2
   unfold compGo at w2
   refine⟨Z2',blkS own cap S,d,ok2,rd,?_⟩
   cases qg:g d (blkS own cap S) with
   | err k=>rw[qg]at w2;exact w2.elim
   | stuck=>rw[qg]at w2;exact w2.elim
   | ok S1 =>
    rw[qg,R.bind_ok]at w2
    intro H3 Z3 x3 σ3 ok3
    obtain⟨gl,gk⟩:=hgo _ _ _ qg
    have back:∀ {H Z:Hp},StOk (noE F) H Z S1 σ3→StOk (noE F) H Z (blkS own cap S) σ3:=fun h=>h.forget gl.symm fun j z q=>by
     rw[gk j (fV q).1];exact q
    have hD3:H3 D=some (.lst ys):=x3.same _ _ hDy
    have x13:=x2.trans x3
    have zD:∀ {H Z:Hp},Ex H1 Z1 H Z→Ex H' Z2' H Z→Z D=none:=fun {H Z} _ q=>by
     cases r:Z D with
     | none=>rfl
     | some o =>
      rcases q.new D (by rw[r];simp) with z | z
      ·exact absurd hZD z
      ·rw[hDy]at z;cases z
    have fin:∀ (t:Bool) (H4 Z4:Hp),Ex H' Z2' H4 Z4→StOk (noE F) H4 Z4 S1 σ3→gc S1=.ok t→if t=true then tE (noE F) ge σ3 H4 fun y H5=>H5 D=some (.lst ys)∧ys.length < sizeLine∧∃ m',m' < ds.length - i∧(m'=ds.length - (i+1)∧i+1≤ds.length∧(upd H5 D (.lst (ys++[y]))) D=some (.lst (ys++[y]))∧(ys++[y]).length≤i+1∧∃ Z' acc,Ex H1 Z1 (upd H5 D (.lst (ys++[y]))) Z'∧Z' D=none∧Reps F.K F.C Z' acc (ys++[y])∧StOk (noE F) (upd H5 D (.lst (ys++[y]))) Z' (blkS own cap S) σ3 ∧
      WG F H1 Z1 ((noErr (compGo (blkS own cap S) g gc ge (ds.drop (i+1)))).bind fun zs=>R.ok (FF.D.lst (acc++zs))) P)
      else ∃ m',m' < ds.length - i∧(m'=ds.length - (i+1)∧i+1≤ds.length∧H4 D=some (.lst ys)∧ys.length≤i+1∧∃ Z' acc,Ex H1 Z1 H4 Z'∧Z' D=none∧Reps F.K F.C Z' acc ys∧StOk (noE F) H4 Z' (blkS own cap S) σ3 ∧
      WG F H1 Z1 ((noErr (compGo (blkS own cap S) g gc ge (ds.drop (i+1)))).bind fun zs=>R.ok (FF.D.lst (acc++zs))) P):=by
     intro t H4 Z4 x4 ok4 qc
     rw[qc,R.bind_ok]at w2
     cases t with
     | false =>
      rw[if_neg Bool.false_ne_true]at w2 ⊢
      exact⟨ds.length - (i+1),by omega,rfl,hlt,x4.same _ _ hDy,by omega,Z4,acc,x2.trans x4,zD (x2.trans x4) x4,ra.mono x4.z,back ok4,w2⟩
     | true =>
      rw[if_pos rfl]at w2 ⊢
      refine⟨Z4,S1,ok4,?_⟩
      cases qe:ge S1 with
      | err k=>rw[qe]at w2;exact w2.elim
      | stuck=>rw[qe]at w2;exact w2.elim
      | ok yd =>
       rw[qe,R.bind_ok]at w2
       intro H5 Z5 x5 yv ry
       have hD5:H5 D=some (.lst ys):=x5.same _ _ (x4.same _ _ hDy)
       have x25:=x4.trans x5
       have z5:=zD (x2.trans x25) x25
       have ok5:=ok4.more x5
       have n0:F.H0 D=none:=ok1.ex.same.free hD
       have xu:Ex H1 Z1 (upd H5 D (.lst (ys++[yv]))) Z5:=by
        have q:=x2.trans x25
        refine⟨fun b o e=>?_,q.z,fun b o e=>?_,q.new⟩
        ·rw[aA (fun z=>by subst z;rw[hD]at e;cases e)];exact q.same b o e
        ·rw[aA (fun z=>by subst z;rw[z5]at e;cases e)];exact q.sub b o e
       refine⟨hD5,by omega,ds.length - (i+1),by omega,rfl,hlt,av,by simp;omega,Z5,acc++[yd],xu,z5,(ra.mono x25.z).append (Reps.cons ry Reps.nil),?_,?_⟩
       ·have q:=back ok5
        refine⟨⟨fun b o e=>?_,q.ex.z,fun b o e=>?_,q.ex.new⟩,q.len,fun j x e=>?_,fun j k x y v w A B _ e1 _ _ _ o1 _=>?_⟩
        ·rw[aA (fun z=>by subst z;have e':F.H0 b=some o:=e;rw[n0]at e';cases e')];exact q.ex.same b o e
        ·rw[aA (fun z=>by subst z;rw[z5]at e;cases e)];exact q.ex.sub b o e
        ·obtain⟨_,_,_,_,_,z⟩:=fV e
         cases z
         obtain⟨v,e1,r⟩:=q.val j _ e
         exact⟨v,[],e1,⟨rfl,r⟩,Priv.nil⟩
        ·obtain⟨_,_,_,_,_,z⟩:=fV e1
         cases z
         rw[o1.1];exact fun a ha=>nomatch ha
       ·cases qr:compGo (blkS own cap S) g gc ge (ds.drop (i+1)) with
        | err k=>rw[qr]at w2;exact w2.elim
        | stuck=>rw[qr]at w2;exact w2.elim
        | ok zs=>rw[qr]at w2;simpa [noErr,List.append_assoc] using w2
    cases qc:gc S1 with
    | err k=>rw[qc]at w2;exact w2.elim
    | stuck=>rw[qc]at w2;exact w2.elim
    | ok t =>
     cases ifs with
     | nil =>
      have:=hgc rfl
      subst this
      cases qc
      exact fin true H3 Z3 x3 ok3 rfl
     | cons c r =>
      refine⟨Z3,S1,ok3,?_⟩
      rw[qc]
      intro H4 Z4 x4
      exact fin t H4 Z4 (x3.trans x4) (ok3.more x4) qc
  ·have ei:i=ds.length:=by omega
   refine .inl ⟨k2 (by omega),?_⟩
   rw[List.drop_eq_nil_of_le (by omega)]at w2
   have w3:WG F H1 Z1 (R.ok (FF.D.lst (acc++[]))) P:=w2
   rw[List.append_nil]at w3
   exact hP D ys acc H1 Z1 H2 Z2 x1 hD x2 hZD w3 hDy ra
theorem g7 {σ:St}{H Z:Hp}{S:SS}{ifs:List Expr}{P:D→Hp→Hp→Prop}{Q:Addr→Hp→Prop}(hgc:ifs=[]→gc=tTrue)(hgo:Own own g)(ok:StOk F H Z S σ)(w:WG F H Z (eComp own cap git g gc ge S) P)(hP:∀ D ys ds H' Z',Ex H Z H' Z'→P (.lst ds) H' Z'→H' D=some (.lst ys)→Z' D=some (.lst ys)→Reps F.K F.C Z' ds ys→Q D H') :
  tI F git σ H fun J H1=>∀ D,H1 D=none→∃ W,BlkW sizeLine J (tGd (noE F) g) (tTests ifs (tT (noE F) gc)) (tE (noE F) ge) D (fun H' _=>Q D H') W∧∃ m,W 0 m (startB own cap σ) (upd H1 D (.lst [])) [] :=
 oq hgc hgo ok w fun D ys ds H1 Z1 H2 Z2 x1 hD x2 hZD w3 hDy ra=>by
  have hz:Same Z2 (upd Z2 D (.lst ys)):=aJ hZD
  have xf:Ex H1 Z1 H2 (upd Z2 D (.lst ys)):=by
   refine⟨x2.same,x2.z.trans hz,fun b o e=>?_,fun b hb=>?_⟩
   ·by_cases q:b=D
    ·subst q;rw[av]at e;cases e;exact hDy
    ·rw[aA q]at e;exact x2.sub b o e
   ·by_cases q:b=D
    ·subst q;exact .inr hD
    ·rw[aA q]at hb;exact x2.new b hb
  exact hP D ys ds H2 _ (x1.trans xf) (w3 H2 _ xf) hDy av (ra.mono hz)
theorem a9 {k:Nat}(bx:BX X F k)(b:BlkOk X.N X.env.scope scope N own cap)(hi:FI X F tg iter git)(hgo:Own own g)
  (hg:∀ cl C s H fp,FG (blk X scope cl C s H fp N) (noE F) tg g) (he:∀ cl C s H fp,FE (blk X scope cl C s H fp N) (noE F) elt ge)
  (hs:∀ x,foldedSetIterable iter X.env x=pure x:=by intro _;rfl):FE X F (.ListComp elt [⟨tg,iter,[],0⟩] scope pos) (eComp own cap git g tTrue ge) :=
 (pv (ifs:=[]) (tc:=tT (noE F) tTrue) b bx.calm (by simp) hi hg (fun c q=>nomatch q) he hs).weak fun σ H Q ⟨Z,S,ok,w⟩ =>
  g7 (fun _=>rfl) hgo ok w fun D ys ds H' Z' _ p h1 h2 r=>p _ (by rw[Rep];exact⟨D,ys,rfl,SqL.of h2,r⟩)
theorem g8 {k:Nat}{c:Expr}(bx:BX X F k)(b:BlkOk X.N X.env.scope scope N own cap)(hi:FI X F tg iter git)(hgo:Own own g)
  (hg:∀ cl C s H fp,FG (blk X scope cl C s H fp N) (noE F) tg g) (ht:∀ cl C s H fp,FT (blk X scope cl C s H fp N) (noE F) c gc) (he:∀ cl C s H fp,FE (blk X scope cl C s H fp N) (noE F) elt ge)
  (hs:∀ x,foldedSetIterable iter X.env x=pure x:=by intro _;rfl):FE X F (.ListComp elt [⟨tg,iter,[c],0⟩] scope pos) (eComp own cap git g gc ge) :=
 (pv (ifs:=[c]) b bx.calm (by simp) hi hg (fun c' q=>by cases q;exact ht) he hs).weak fun σ H Q ⟨Z,S,ok,w⟩ =>
  g7 (fun q=>nomatch q) hgo ok w fun D ys ds H' Z' _ p h1 h2 r=>p _ (by rw[Rep];exact⟨D,ys,rfl,SqL.of h2,r⟩)
theorem WG.unbind {α β:Type}{F:Fx}{H Z:Hp}{r:R α}{f:α→β}{P:β→Hp→Hp→Prop}(w:WG F H Z (r.bind fun d=>.ok (f d)) P):WG F H Z r fun d H' Z'=>P (f d) H' Z':=by
 cases r with
 | ok d=>exact w
 | err k=>exact w
 | stuck=>exact w
theorem sZ {i:Nat}{D:Ends}{σ:St}{H Z:Hp}{S:SS}(hgc:ifs=[]→gc=tTrue)(hgo:Own own g)(ok:StOk F H Z S σ)(w:WO F Z (sSet i (eComp own cap git g gc ge) S) D) :
  tCompSet i own cap (tI F git) (tGd (noE F) g) (tTests ifs (tT (noE F) gc)) (tE (noE F) ge) D σ H :=
 g7 (P:=fun d _ Z'=>WO F Z' (.nx (S.set i (some (.val d)))) D) (Q:=fun a H'=>D.nx (σ.set i (some (.ref a))) H') hgc hgo ok (WG.unbind (WO.wg ok w)) fun a ys ds H' Z' x p h1 h2 r =>
  p _ H' Z' (Same.refl _) ((ok.more x).setVal (by rw[Rep];exact⟨a,ys,rfl,SqL.of h2,r⟩))
theorem ly {k:Nat}(i:Nat){y:Str}{py spos:Pos}{c:Expr}(bx:BX X F k)(b:BlkOk X.N X.env.scope scope N own cap)(hi:FI X F tg iter git)(hgo:Own own g)
  (hg:∀ cl C s H fp,FG (blk X scope cl C s H fp N) (noE F) tg g) (ht:∀ cl C s H fp,FT (blk X scope cl C s H fp N) (noE F) c gc) (he:∀ cl C s H fp,FE (blk X scope cl C s H fp N) (noE F) elt ge) (hN:X.N.Nodup)
  (hsw:swapsWith (.ListComp elt [⟨tg,iter,[c],0⟩] scope pos) (some (.Name y py)) spos.line X.env=pure true:=by rfl) (hiy:X.N[i]?=some y:=by rfl) (hy:Loc X.env.scope y:=by first | exact Or.inl rfl | exact Or.inr rfl)
  (hfn:X.fn y=true∨X.env.scope.names.lookup y=some .local:=by first | exact .inl rfl | exact .inr rfl) (hs:∀ x,foldedSetIterable iter X.env x=pure x:=by intro _;rfl) :
  FS X F (.Assign [.Name y py] (.ListComp elt [⟨tg,iter,[c],0⟩] scope pos) spos) (sSet i (eComp own cap git g gc ge)) :=
 (oo (ifs:=[c]) b bx.calm (by simp) hi hg (fun c' q=>by cases q;exact ht) he hN hiy hy hfn hsw hs).weak fun D σ H ⟨Z,S,ok,w⟩=>sZ (fun q=>nomatch q) hgo ok w
end
def dAdd (x y:D):R D:=if isInt x=true then dI0 (fun i j=>.int (i+j)) x y else if isTup x=true then dCatT x y else dCatL x y
def dSub:D→D→R D:=dI0 fun i j=>.int (i - j)
def dMul (x y:D):R D:=if isInt x=true then dI cMul (fun i j=>.int (i*j)) x y else if isTup x=true then dRepT x y else dRepL x y
def dDiv:D→D→R D:=dI cDiv fun i j=>.int (i/j)
def dMod:D→D→R D:=dI (fun _ j=>decide (0 < j)) fun i j=>.int (i%j)
def dLt:D→D→R D:=dI0 fun i j=>.bl (decide (i < j))
def dLe:D→D→R D:=dI0 fun i j=>.bl (decide (i≤j))
def dGt:D→D→R D:=dI0 fun i j=>.bl (decide (j < i))
def dGe:D→D→R D:=dI0 fun i j=>.bl (decide (j≤i))
theorem aO {K:PySem.W.Frag}{C:Nat→Addr}{Z:Hp}{i:Int}:Rep K C Z (.int i) (.int i):=by rw[Rep]
theorem aR {K:PySem.W.Frag}{C:Nat→Addr}{Z:Hp}{i:Bool}:Rep K C Z (.bl i) (.bl i):=by rw[Rep]
section
variable {X:Cx}{F:Fx}{a b c:Expr}{ga gb gc:SS→R D}{pos:Pos}
theorem eO (ha:FE X F a ga)(hb:FE X F b gb):FE X F (.BinOp a .Sub b pos) (eOp dSub ga gb):=me wY (b7 fun _ _ _=>aO) ha hb
theorem cS (ha:FE X F a ga)(hb:FE X F b gb):FE X F (.BinOp a .FloorDiv b pos) (eOp dDiv ga gb):=me u0 (sQ ve fun _ _ _=>aO) ha hb
theorem dl (ha:FE X F a ga)(hb:FE X F b gb):FE X F (.BinOp a .Mod b pos) (eOp dMod ga gb):=me xa (sQ (fun i j h=>of_decide_eq_true h) fun _ _ _=>aO) ha hb
theorem yg (ha:FE X F a ga)(hb:FE X F b gb):FE X F (.Compare a [.GtE] [b] pos) (eOp dGe ga gb):=oh yb (b7 fun _ _ _=>aR) ha hb
theorem px (ha:FE X F a ga)(hb:FE X F b gb):FT X F (.Compare a [.Lt] [b] pos) (gB (eOp dLt ga gb)):=gY sC (b7 fun _ _ _=>aR) ha hb
theorem pz (ha:FE X F a ga)(hb:FE X F b gb):FT X F (.Compare a [.Gt] [b] pos) (gB (eOp dGt ga gb)):=gY ya (b7 fun _ _ _=>aR) ha hb
theorem ag (hK:X.K=F.K)(ha:FE X F a ga)(hb:FE X F b gb)(hs:PlainIx b:=by intro _ _;rfl):FE X F (.Subscript a b pos) (eOp dIx ga gb):=ye xk (by rw[hK];exact xp) ha hb hs
theorem vq:OpR X (binaryOp .Add) (fun x y H Q=>rI0 (fun i j=>.int (i+j)) x y H Q∨(rCat2 X.K x y H Q∨∃ a b xs ys,x=.ref a∧y=.ref b∧SqL X.K H a xs∧SqL X.K H b ys∧xs.length+ys.length≤sizeLine∧∀ p,H p=none→Q (.ref p) (upd H p (.lst (xs++ys))))) :=
 wX.or (vf.or sU)
theorem aq (hK:X.K=F.K)(ha:FE X F a ga)(hb:FE X F b gb):FE X F (.BinOp a .Add b pos) (eOp dAdd ga gb) :=
 me vq (by rw[hK];exact OpD.or (fun x _=>isInt x) (b7 fun _ _ _=>aO) (OpD.or (fun x _=>isTup x) sR sT)) ha hb
theorem aW (hK:X.K=F.K)(ha:FE X F a ga)(hb:FE X F b gb):FE X F (.BinOp a .Mult b pos) (eOp dMul ga gb) :=
 me (wZ.or (vg.or vh)) (by rw[hK];exact OpD.or (fun x _=>isInt x) (sQ vd fun _ _ _=>aO) (OpD.or (fun x _=>isTup x) sS sV)) ha hb
end
theorem xr {X:Cx}{pins:List (Addr×Obj)}{σ:St}{H Z:Hp}{s:Shared}{K:PySem.W.Frag}{C:Nat→Addr}(hK:X.K=K)(I:Inv X pins σ H s)(z:Same Z H)(n:Nat)(A:Around)(d e:D)(v u:V)(x y:Value)(g1:good n d=true)(g2:good n e=true)
  (h:Rep K C Z d v) (h':Rep K C Z e u) (rx:RelV v x) (ry:RelV u y) (hu:A.units+n < cLine):SeqAt.RcAt A s x y (eqD d e):=by
 have hu0:A.units < cLine:=by omega
 cases d with
 | exc k=>cases n<;>simp[good]at g1
 | fn k=>cases n<;>simp[good]at g1
 | tab ks xs=>cases n<;>simp[good]at g1
 | dic ks xs=>cases n<;>simp[good]at g1
 | tup ds =>
  cases n with
  | zero=>simp[good]at g1
  | succ n =>
   have in1:A.in1.units+n < cLine:=by show A.units+1+n < cLine;omega
   rw[Rep]at h
   obtain⟨a,vs,rfl,h1,h2⟩:=h
   cases rx
   obtain⟨its,r,p,_⟩:=I.tuple (by rw[hK];exact h1.mono z:SqT X.K H a vs)
   have p':s.heap.IsTuple a its.toArray:=p
   cases e with
   | tup es =>
    rw[Rep]at h'
    obtain⟨b,us,rfl,k1,k2⟩:=h'
    cases ry
    obtain⟨its2,r2,p2,_⟩:=I.tuple (by rw[hK];exact k1.mono z:SqT X.K H b us)
    have p2':s.heap.IsTuple b its2.toArray:=p2
    rw[good]at g1 g2
    have q:=SeqAt.RcAt.tuples (A:=A) (e:=fun j=>eqD (ds.getD j .non) (es.getD j .non)) p' p2' hu0 fun j j1 j2=>by
     have j1':j < its.length:=by simpa using j1
     have j2':j < its2.length:=by simpa using j2
     have l1:j < ds.length:=by rw[h2.length,r.length];exact j1'
     have l2:j < es.length:=by rw[k2.length,r2.length];exact j2'
     have e1:ds[j]?=some ds[j]:=by simp
     have e2:es[j]?=some es[j]:=by simp
     obtain⟨w1,f1,f2⟩:=h2.get e1
     obtain⟨w2,f3,f4⟩:=k2.get e2
     obtain⟨z1,m1,m2⟩:=r.get f1
     obtain⟨z2,m3,m4⟩:=r2.get f3
     have n1:its.toArray[j]=z1:=by simpa [j1'] using m1
     have n2:its2.toArray[j]=z2:=by simpa [j2'] using m3
     rw[n1,n2]
     have g3:ds.getD j .non=ds[j]:=by simp[l1]
     have g4:es.getD j .non=es[j]:=by simp[l2]
     rw[g3,g4]
     exact fu hK I z n A.in1 _ _ w1 w2 z1 z2 (aT g1 e1) (aT g2 e2) f2 f4 m2 m4 in1
    rw[eqD,cR]
    have s1:its.toArray.size=ds.length:=by rw[List.size_toArray,h2.length,r.length]
    have s2:its2.toArray.size=es.length:=by rw[List.size_toArray,k2.length,r2.length]
    rw[s1,s2]at q
    exact q
   | lst es =>
    rw[Rep]at h'
    obtain⟨b,us,rfl,k1,k2⟩:=h'
    cases ry
    obtain⟨its2,r2,p2,_⟩:=I.list (by rw[hK];exact z.seq k1:SqL X.K H b us)
    simp only[eqD]
    exact SeqAt.RcAt.tuple_list p' p2.isList hu0
   | exc k=>simp[good]at g2
   | fn k=>simp[good]at g2
   | tab ks xs=>simp[good]at g2
   | dic ks xs=>simp[good]at g2
   | non=>rw[Rep]at h';subst h';cases ry;simp only[eqD];exact SeqAt.RcAt.tuple_none p' hu0
   | bl b=>rw[Rep]at h';subst h';cases ry;simp only[eqD];exact SeqAt.RcAt.tuple_bool _ p' hu0
   | int b=>rw[Rep]at h';subst h';obtain⟨t,rfl⟩:=ry;simp only[eqD];exact SeqAt.RcAt.tuple_int _ _ p' hu0
   | str b=>rw[Rep]at h';subst h';obtain⟨t,rfl⟩:=ry;simp only[eqD];exact SeqAt.RcAt.tuple_str _ _ p' hu0
 | lst ds =>
  cases n with
  | zero=>simp[good]at g1
  | succ n =>
   have in1:A.in1.units+n < cLine:=by show A.units+1+n < cLine;omega
   rw[Rep]at h
   obtain⟨a,vs,rfl,h1,h2⟩:=h
   cases rx
   obtain⟨its,r,p,_⟩:=I.list (by rw[hK];exact z.seq h1:SqL X.K H a vs)
   have p':=p.isList
   cases e with
   | lst es =>
    rw[Rep]at h'
    obtain⟨b,us,rfl,k1,k2⟩:=h'
    cases ry
    obtain⟨its2,r2,p2,_⟩:=I.list (by rw[hK];exact z.seq k1:SqL X.K H b us)
    have p2':=p2.isList
    rw[good]at g1 g2
    have s1:its.toArray.size=ds.length:=by rw[List.size_toArray,h2.length,r.length]
    have s2:its2.toArray.size=es.length:=by rw[List.size_toArray,k2.length,r2.length]
    rw[eqD,cR]
    by_cases hsz:ds.length=es.length
    ·have q:=SeqAt.RcAt.lists (A:=A) (e:=fun j=>eqD (ds.getD j .non) (es.getD j .non)) p' p2' (by rw[s1,s2];exact hsz) hu0 fun j j1 j2=>by
      have j1':j < its.length:=by simpa using j1
      have j2':j < its2.length:=by simpa using j2
      have l1:j < ds.length:=by rw[h2.length,r.length];exact j1'
      have l2:j < es.length:=by rw[k2.length,r2.length];exact j2'
      have e1:ds[j]?=some ds[j]:=by simp
      have e2:es[j]?=some es[j]:=by simp
      obtain⟨w1,f1,f2⟩:=h2.get e1
      obtain⟨w2,f3,f4⟩:=k2.get e2
      obtain⟨z1,m1,m2⟩:=r.get f1
      obtain⟨z2,m3,m4⟩:=r2.get f3
      have n1:its.toArray[j]=z1:=by simpa [j1'] using m1
      have n2:its2.toArray[j]=z2:=by simpa [j2'] using m3
      rw[n1,n2]
      have g3:ds.getD j .non=ds[j]:=by simp[l1]
      have g4:es.getD j .non=es[j]:=by simp[l2]
      rw[g3,g4]
      exact fu hK I z n A.in1 _ _ w1 w2 z1 z2 (aT g1 e1) (aT g2 e2) f2 f4 m2 m4 in1
     rw[s1]at q
     rw[hsz,Nat.min_self,beq_self_eq_true,Bool.and_true,← hsz]
     exact q
    ·have q:=SeqAt.RcAt.lists_lengths (A:=A) p' p2' (by rw[s1,s2];simpa using hsz) hu0
     rw[show (ds.length==es.length)=false by simpa using hsz,Bool.and_false]
     exact q
   | tup es =>
    rw[Rep]at h'
    obtain⟨b,us,rfl,k1,k2⟩:=h'
    cases ry
    obtain⟨its2,r2,p2,_⟩:=I.tuple (by rw[hK];exact k1.mono z:SqT X.K H b us)
    simp only[eqD]
    exact SeqAt.RcAt.list_tuple p' (show s.heap.IsTuple b its2.toArray from p2) hu0
   | exc k=>simp[good]at g2
   | fn k=>simp[good]at g2
   | tab ks xs=>simp[good]at g2
   | dic ks xs=>simp[good]at g2
   | non=>rw[Rep]at h';subst h';cases ry;simp only[eqD];exact SeqAt.RcAt.list_none p' hu0
   | bl b=>rw[Rep]at h';subst h';cases ry;simp only[eqD];exact SeqAt.RcAt.list_bool _ p' hu0
   | int b=>rw[Rep]at h';subst h';obtain⟨t,rfl⟩:=ry;simp only[eqD];exact SeqAt.RcAt.list_int _ _ p' hu0
   | str b=>rw[Rep]at h';subst h';obtain⟨t,rfl⟩:=ry;simp only[eqD];exact SeqAt.RcAt.list_str _ _ p' hu0
 | non =>
  rw[Rep]at h;subst h;cases rx
  cases e with
  | tup es =>
   rw[Rep]at h'
   obtain⟨b,us,rfl,k1,k2⟩:=h'
   cases ry
   obtain⟨its2,r2,p2,_⟩:=I.tuple (by rw[hK];exact k1.mono z:SqT X.K H b us)
   simp only[eqD];exact SeqAt.RcAt.none_tuple (show s.heap.IsTuple b its2.toArray from p2) hu0
  | lst es =>
   rw[Rep]at h'
   obtain⟨b,us,rfl,k1,k2⟩:=h'
   cases ry
   obtain⟨its2,r2,p2,_⟩:=I.list (by rw[hK];exact z.seq k1:SqL X.K H b us)
   simp only[eqD];exact SeqAt.RcAt.none_list p2.isList hu0
  | exc k=>cases n<;>simp[good]at g2
  | fn k=>cases n<;>simp[good]at g2
  | tab ks xs=>cases n<;>simp[good]at g2
  | dic ks xs=>cases n<;>simp[good]at g2
  | non=>rw[Rep]at h';subst h';cases ry;simp only[eqD];exact SeqAt.RcAt.none_none
  | bl b=>rw[Rep]at h';subst h';cases ry;simp only[eqD];exact SeqAt.RcAt.none_bool _
  | int b=>rw[Rep]at h';subst h';obtain⟨t,rfl⟩:=ry;simp only[eqD];exact SeqAt.RcAt.none_int _ _
  | str b=>rw[Rep]at h';subst h';obtain⟨t,rfl⟩:=ry;simp only[eqD];exact SeqAt.RcAt.none_str _ _
 | bl a =>
  rw[Rep]at h;subst h;cases rx
  cases e with
  | tup es =>
   rw[Rep]at h'
   obtain⟨b,us,rfl,k1,k2⟩:=h'
   cases ry
   obtain⟨its2,r2,p2,_⟩:=I.tuple (by rw[hK];exact k1.mono z:SqT X.K H b us)
   simp only[eqD];exact SeqAt.RcAt.bool_tuple _ (show s.heap.IsTuple b its2.toArray from p2) hu0
  | lst es =>
   rw[Rep]at h'
   obtain⟨b,us,rfl,k1,k2⟩:=h'
   cases ry
   obtain⟨its2,r2,p2,_⟩:=I.list (by rw[hK];exact z.seq k1:SqL X.K H b us)
   simp only[eqD];exact SeqAt.RcAt.bool_list _ p2.isList hu0
  | exc k=>cases n<;>simp[good]at g2
  | fn k=>cases n<;>simp[good]at g2
  | tab ks xs=>cases n<;>simp[good]at g2
  | dic ks xs=>cases n<;>simp[good]at g2
  | non=>rw[Rep]at h';subst h';cases ry;simp only[eqD];exact SeqAt.RcAt.bool_none _
  | bl b=>rw[Rep]at h';subst h';cases ry;simp only[eqD];exact SeqAt.RcAt.bool_bool _ _
  | int b=>rw[Rep]at h';subst h';obtain⟨t,rfl⟩:=ry;simp only[eqD];exact SeqAt.RcAt.bool_int _ _ _
  | str b=>rw[Rep]at h';subst h';obtain⟨t,rfl⟩:=ry;simp only[eqD];exact SeqAt.RcAt.bool_str _ _ _
 | int a =>
  rw[Rep]at h;subst h;obtain⟨t0,rfl⟩:=rx
  cases e with
  | tup es =>
   rw[Rep]at h'
   obtain⟨b,us,rfl,k1,k2⟩:=h'
   cases ry
   obtain⟨its2,r2,p2,_⟩:=I.tuple (by rw[hK];exact k1.mono z:SqT X.K H b us)
   simp only[eqD];exact SeqAt.RcAt.int_tuple _ _ (show s.heap.IsTuple b its2.toArray from p2) hu0
  | lst es =>
   rw[Rep]at h'
   obtain⟨b,us,rfl,k1,k2⟩:=h'
   cases ry
   obtain⟨its2,r2,p2,_⟩:=I.list (by rw[hK];exact z.seq k1:SqL X.K H b us)
   simp only[eqD];exact SeqAt.RcAt.int_list _ _ p2.isList hu0
  | exc k=>cases n<;>simp[good]at g2
  | fn k=>cases n<;>simp[good]at g2
  | tab ks xs=>cases n<;>simp[good]at g2
  | dic ks xs=>cases n<;>simp[good]at g2
  | non=>rw[Rep]at h';subst h';cases ry;simp only[eqD];exact SeqAt.RcAt.int_none _ _
  | bl b=>rw[Rep]at h';subst h';cases ry;simp only[eqD];exact SeqAt.RcAt.int_bool _ _ _
  | int b=>rw[Rep]at h';subst h';obtain⟨t,rfl⟩:=ry;simp only[eqD];exact SeqAt.RcAt.int_int _ _ _ _
  | str b=>rw[Rep]at h';subst h';obtain⟨t,rfl⟩:=ry;simp only[eqD];exact SeqAt.RcAt.int_str _ _ _ _
 | str a =>
  rw[Rep]at h;subst h;obtain⟨t0,rfl⟩:=rx
  cases e with
  | tup es =>
   rw[Rep]at h'
   obtain⟨b,us,rfl,k1,k2⟩:=h'
   cases ry
   obtain⟨its2,r2,p2,_⟩:=I.tuple (by rw[hK];exact k1.mono z:SqT X.K H b us)
   simp only[eqD];exact SeqAt.RcAt.str_tuple _ _ (show s.heap.IsTuple b its2.toArray from p2) hu0
  | lst es =>
   rw[Rep]at h'
   obtain⟨b,us,rfl,k1,k2⟩:=h'
   cases ry
   obtain⟨its2,r2,p2,_⟩:=I.list (by rw[hK];exact z.seq k1:SqL X.K H b us)
   simp only[eqD];exact SeqAt.RcAt.str_list _ _ p2.isList hu0
  | exc k=>cases n<;>simp[good]at g2
  | fn k=>cases n<;>simp[good]at g2
  | tab ks xs=>cases n<;>simp[good]at g2
  | dic ks xs=>cases n<;>simp[good]at g2
  | non=>rw[Rep]at h';subst h';cases ry;simp only[eqD];exact SeqAt.RcAt.str_none _ _
  | bl b=>rw[Rep]at h';subst h';cases ry;simp only[eqD];exact SeqAt.RcAt.str_bool _ _ _
  | int b=>rw[Rep]at h';subst h';obtain⟨t,rfl⟩:=ry;simp only[eqD];exact SeqAt.RcAt.str_int _ _ _ _
  | str b=>rw[Rep]at h';subst h';obtain⟨t,rfl⟩:=ry;simp only[eqD];exact SeqAt.RcAt.str_str _ _ _ _
def dEq (x y:D):R D:=if good 60 x=true∧good 60 y=true then .ok (.bl (eqD x y)) else .stuck
def rEqD (K:PySem.W.Frag)(C:Nat→Addr):R2:=fun x y H Q=>∃ Z d e,Same Z H∧Rep K C Z d x∧Rep K C Z e y∧good 60 d=true∧good 60 e=true∧Q (.bl (eqD d e)) H
section
variable {X:Cx}{F:Fx}{a b c:Expr}{ga gb gc:SS→R D}{pos:Pos}{k:Nat}
theorem ti (hK:X.K=F.K)(hr:Room k X.A):OpR X (compareOp .Eq) (rEqD F.K F.C):=by
 intro pins s σ H x y v u Q I rx ry h
 obtain⟨Z,d,e,z,h1,h2,g1,g2,q⟩:=h
 have hu:X.A.units+60 < cLine:=by have:=hr.un;omega
 exact xr hK I z 60 X.A d e x y v u g1 g2 h1 h2 rx ry hu X.prog X.w X.xe _ ⟨.bl (eqD d e),H,I,rfl,q⟩
theorem tj:OpD F (rEqD F.K F.C) dEq:=by
 intro H Z x y dx dy Q s rx ry w
 unfold dEq at w
 split at w
 ·rename_i g
  exact⟨Z,dx,dy,s,rx,ry,g.1,g.2,WG.now w s _ aR⟩
 ·exact w.elim
theorem tm (bx:BX X F k)(ha:FE X F a ga)(hb:FE X F b gb):FE X F (.Compare a [.Eq] [b] pos) (eOp dEq ga gb):=oh (ti bx.K bx.room) tj ha hb
theorem eL (bx:BX X F k)(ha:FE X F a ga)(hb:FE X F b gb):FT X F (.Compare a [.Eq] [b] pos) (gB (eOp dEq ga gb)):=gY (ti bx.K bx.room) tj ha hb
end
def eChain (f f':D→D→R D)(ga gb gc:SS→R D):SS→R D:=fun S=>(ga S).bind fun x=>(gb S).bind fun y=>(asB (f x y)).bind fun k=>if k=true then (gc S).bind fun w=>f' y w else .ok (.bl false)
section
variable {X:Cx}{F:Fx}{a b c:Expr}{ga gb gc:SS→R D}{pos:Pos}{r r':R2}{f f':D→D→R D}{op op':CmpOp}
theorem kI (hd:OpD F r f)(hd':OpD F r' f'):∀ σ H Q,tE F (eChain f f' ga gb gc) σ H Q→tChain r r' (tE F ga) (tE F gb) (tE F gc) σ H Q:=fun σ H Q ⟨Z,S,ok,w⟩ =>
 aH ok w fun dx x H1 Z1 ok1 x1 rx w1=>aH ok1 w1 fun dy y H2 Z2 ok2 x2 ry w2=>hd H2 Z2 x y dx dy _ ok2.sub (rx.mono x2.z) ry (by
  cases e:f dx dy with
  | err k=>rw[e]at w2;exact w2
  | stuck=>rw[e]at w2;exact w2
  | ok d =>
   rw[e]at w2
   intro H3 Z3 x3 v rv
   cases d with
   | bl k =>
    rw[Rep]at rv
    subst rv
    have w3:WG F H3 Z3 (if k=true then (gc S).bind fun w=>f' dy w else .ok (.bl false)) _:=WG.more w2 x3
    refine⟨k,rfl,?_⟩
    have ok3:=ok2.more x3
    cases k with
    | false=>exact WG.now w3 ok3.sub _ aR
    | true=>exact aH ok3 w3 fun dw wv H4 Z4 ok4 x4 rw' w4=>hd' H4 Z4 y wv dy dw Q ok4.sub (ry.mono (x3.z.trans x4.z)) rw' w4
   | _=>exact w2.elim)
theorem mm (ho:OpR X (compareOp op) r)(ho':OpR X (compareOp op') r')(hd:OpD F r f)(hd':OpD F r' f')(ha:FE X F a ga)(hb:FE X F b gb)(hc:FE X F c gc)(hm:lastMarks [op,op'] [b,c]=false:=by with_unfolding_all rfl) :
  FE X F (.Compare a [op,op'] [b,c] pos) (eChain f f' ga gb gc):=(sE ho ho' ha hb hc hm).weak (kI hd hd')
theorem mn (ho:OpR X (compareOp op) r)(ho':OpR X (compareOp op') r')(hd:OpD F r f)(hd':OpD F r' f')(ha:FE X F a ga)(hb:FE X F b gb)(hc:FE X F c gc)(hm:lastMarks [op,op'] [b,c]=false:=by with_unfolding_all rfl) :
  FT X F (.Compare a [op,op'] [b,c] pos) (gB (eChain f f' ga gb gc)):=(sF ho ho' ha hb hc hm).weak (pq (kI hd hd'))
theorem iY (ha:FE X F a ga)(hb:FE X F b gb)(hc:FE X F c gc)(hm:lastMarks [.LtE,.LtE] [b,c]=false:=by with_unfolding_all rfl):FE X F (.Compare a [.LtE,.LtE] [b,c] pos) (eChain dLe dLe ga gb gc):=mm ky ky (b7 fun _ _ _=>aR) (b7 fun _ _ _=>aR) ha hb hc hm
theorem vt (ha:FE X F a ga)(hb:FE X F b gb)(hc:FE X F c gc)(hm:lastMarks [.LtE,.LtE] [b,c]=false:=by with_unfolding_all rfl):FT X F (.Compare a [.LtE,.LtE] [b,c] pos) (gB (eChain dLe dLe ga gb gc)):=mn ky ky (b7 fun _ _ _=>aR) (b7 fun _ _ _=>aR) ha hb hc hm
theorem lz (ha:FE X F a ga)(hb:FE X F b gb)(hc:FE X F c gc)(hm:lastMarks [.LtE,.Lt] [b,c]=false:=by with_unfolding_all rfl):FE X F (.Compare a [.LtE,.Lt] [b,c] pos) (eChain dLe dLt ga gb gc):=mm ky sC (b7 fun _ _ _=>aR) (b7 fun _ _ _=>aR) ha hb hc hm
theorem pA (ha:FE X F a ga)(hb:FE X F b gb)(hc:FE X F c gc)(hm:lastMarks [.LtE,.Lt] [b,c]=false:=by with_unfolding_all rfl):FT X F (.Compare a [.LtE,.Lt] [b,c] pos) (gB (eChain dLe dLt ga gb gc)):=mn ky sC (b7 fun _ _ _=>aR) (b7 fun _ _ _=>aR) ha hb hc hm
end
def dIs:D→D→R D
 | x,.non=>.ok (.bl (match x with | .non=>true | _=>false))
 | x,.bl b=>.ok (.bl (match x with | .bl a=>a==b | _=>false))
 | _,_=>.stuck
def isV:V→V→Bool
 | .non,.non=>true
 | .bl a,.bl b=>a==b
 | _,_=>false
section
variable {X:Cx}{F:Fx}{a b:Expr}{ga gb:SS→R D}{pos:Pos}
theorem xt:OpR X (compareOp .Is) (fun x y H Q=>(y=.non∨∃ b,y=.bl b)∧Q (.bl (isV x y)) H):=by
 intro pins s σ H x y v u Q I rx ry h
 obtain⟨hy,q⟩:=h
 rcases hy with rfl | ⟨b,rfl⟩
 ·cases ry
  refine is_none_gen (li I q ?_)
  cases x<;>first
   | (cases rx;rfl)
   | (obtain⟨t,rfl⟩:=rx;rfl)
 ·cases ry
  cases x<;>first
   | (obtain⟨t,rfl⟩:=rx;exact wpAny_pure (li I q rfl))
   | (cases rx;exact wpAny_pure (li I q rfl))
   | (cases rx;rename_i a;exact wpAny_pure (li I q (by cases a<;>cases b<;>rfl)))
theorem vw {K:PySem.W.Frag}{C:Nat→Addr}{Z:Hp}{d e:D}{x y:V}{r:D}(h:Rep K C Z d x)(h':Rep K C Z e y)(q:dIs d e=.ok r):(y=.non∨∃ b,y=.bl b)∧r=.bl (isV x y):=by
 cases e with
 | non =>
  rw[Rep]at h';subst h'
  cases q
  refine⟨.inl rfl,?_⟩
  cases d<;>rw[Rep]at h<;>first | (subst h;rfl) | (obtain⟨_,_,rfl,_⟩:=h;rfl) | (obtain⟨_,rfl,_⟩:=h;rfl)
 | bl b =>
  rw[Rep]at h';subst h'
  cases q
  refine⟨.inr ⟨b,rfl⟩,?_⟩
  cases d<;>rw[Rep]at h<;>first | (subst h;rfl) | (obtain⟨_,_,rfl,_⟩:=h;rfl) | (obtain⟨_,rfl,_⟩:=h;rfl)
 | _=>simp[dIs]at q
theorem xv {d e:D}{k:Nat}(q:dIs d e=.err k):False:=by cases e<;>simp[dIs]at q
theorem xw:OpD F (fun x y H Q=>(y=.non∨∃ b,y=.bl b)∧Q (.bl (isV x y)) H) dIs:=by
 intro H Z x y dx dy Q s rx ry w
 cases e:dIs dx dy with
 | err k=>exact(xv e).elim
 | stuck=>rw[e]at w;exact w.elim
 | ok r =>
  rw[e]at w
  obtain⟨h1,rfl⟩:=vw rx ry e
  exact⟨h1,WG.now w s _ aR⟩
theorem wz (ha:FE X F a ga)(hb:FE X F b gb):FT X F (.Compare a [.Is] [b] pos) (gB (eOp dIs ga gb)):=gY xt xw ha hb
end
def cutD (xs:List D)(lo hi:Option Int):List D:=(xs.drop (HT.sIx xs.length 0 lo)).take (HT.sIx xs.length xs.length hi - HT.sIx xs.length 0 lo)
theorem Reps.cut {K:PySem.W.Frag}{C:Nat→Addr}{Z:Hp}{ds:List D}{vs:List V}(r:Reps K C Z ds vs)(lo hi:Option Int):Reps K C Z (cutD ds lo hi) (cutV vs lo hi):=by
 unfold cutD cutV
 rw[r.length]
 exact(r.drop _).take _
def dSl (d:D)(lo hi:Option Int):R D:=match d with
 | .lst xs=>.ok (.lst (cutD xs lo hi))
 | .tup xs=>if HT.sIx xs.length 0 lo=0∧HT.sIx xs.length xs.length hi=xs.length then .stuck else .ok (.tup (cutD xs lo hi))
 | _=>.stuck
def asI (d:D):R (Option Int):=match d with
 | .int i=>.ok (some i)
 | _=>.stuck
def pNo:SS→R (Option Int):=fun _=>.ok none
def pSo (g:SS→R D):SS→R (Option Int):=fun S=>(g S).bind asI
def tP (F:Fx)(g:SS→R (Option Int)):TO:=fun σ H Q=>∃ Z S,StOk F H Z S σ∧WG F H Z (g S) fun o H' _=>Q o H'
section
variable {X:Cx}{F:Fx}{e:Expr}{lo hi:Option Expr}{g:SS→R D}{l h:SS→R (Option Int)}{pos p2:Pos}
theorem mq:PO X none (tP F pNo):=fun pins s σ H Q I ⟨Z,S,ok,w⟩=>u6 pins s σ H Q I (WG.now w ok.sub)
theorem fW (he:FE X F e g):PO X (some e) (tP F (pSo g)):=fun pins s σ H Q I ⟨Z,S,ok,w⟩=>u7 he pins s σ H Q I (aH ok w fun d v H1 Z1 ok1 x1 rv w1=>by
 cases d with
 | int i=>rw[Rep]at rv;exact⟨i,rv,WG.now (a:=some i) w1 ok1.sub⟩
 | _=>exact w1.elim)
theorem pB {α:Type}{σ:St}{H Z:Hp}{S:SS}{k:Option Int→R α}{P:α→Hp→Hp→Prop}{Q:Option Int→Hp→Prop}(ok:StOk F H Z S σ)(w:WG F H Z ((l S).bind k) P)
  (h:∀ o H1 Z1,StOk F H1 Z1 S σ→Ex H Z H1 Z1→WG F H1 Z1 (k o) P→Q o H1):tP F l σ H Q:=by
 refine⟨Z,S,ok,?_⟩
 cases e:l S with
 | ok d =>
  rw[e]at w
  intro H1 Z1 x
  exact h d H1 Z1 (ok.more x) x (WG.more (r:=k d) w x)
 | err k=>rw[e]at w;exact w
 | stuck=>rw[e]at w;exact w
end
def CallD (F:Fx)(r:List V→Hp→VK→Prop)(f:List D→R D):Prop:=∀ (H Z:Hp) (xs:List V) (ds:List D) (Q:VK),Same Z H→Reps F.K F.C Z ds xs→WG F H Z (f ds) (fun d H' Z'=>∀ v,Rep F.K F.C Z' d v→Q v H')→r xs H Q
section
variable {X:Cx}{F:Fx}{x:Str}{p pos:Pos}{e:Expr}{es:List Expr}{gs:SS→R (List D)}{id T:String}{r:List V→Hp→VK→Prop}{f:List D→R D}
theorem tq (hd:CallD F r f):∀ σ H Q,tE F (eCall f gs) σ H Q→tCB r (tAl F gs) σ H Q:=fun σ H Q ⟨Z,S,ok,w⟩=>aZ ok w fun ds vs H1 Z1 ok1 x1 rs w1=>hd H1 Z1 vs ds Q ok1.sub rs w1
theorem jm (hc:CallR X (.builtin id) r)(hd:CallD F r f)(hg:Gl X x)(hm:X.mg x=none)(hv:bootBuiltins x=some (.builtin id))(ha:FA X F (e::es) gs)(hn:x ≠ "__name__" := by decide)(hdb:(x==("__debug__":Str))=false:=by decide)
  (he:starEach (e::es) X.env=(false,eval e X.env)::starEach es X.env:=by rfl) (hpl:(backTo pos (starEach es X.env)).any (·.1)=false:=by rfl):FE X F (.Call (.Name x p) (e::es) [] pos) (eCall f gs):=(dz hc hg hm hv ha hn hdb he hpl).weak (tq hd)
theorem qM (hc:CallR X (.type T) r)(hd:CallD F r f)(hg:Gl X x)(hm:X.mg x=none)(hv:bootBuiltins x=some (.type T))(ha:FA X F (e::es) gs)(hn:x ≠ "__name__" := by decide)(hdb:(x==("__debug__":Str))=false:=by decide)
  (he:starEach (e::es) X.env=(false,eval e X.env)::starEach es X.env:=by rfl) (hpl:(backTo pos (starEach es X.env)).any (·.1)=false:=by rfl):FE X F (.Call (.Name x p) (e::es) [] pos) (eCall f gs):=(kD hc hg hm hv ha hn hdb he hpl).weak (tq hd)
end
theorem bL {K:PySem.W.Frag}{C:Nat→Addr}{Z:Hp}{d:D}{vs:List V}(r:Reps K C Z [d] vs):∃ v,vs=[v]∧Rep K C Z d v:=by
 rw[Reps]at r
 obtain⟨v,r',rfl,h1,h2⟩:=r
 rw[Reps]at h2
 exact⟨v,by rw[h2],h1⟩
def dLen:List D→R D
 | [.lst xs]=>.ok (.int xs.length)
 | [.tup xs]=>.ok (.int xs.length)
 | _=>.stuck
theorem qN {F:Fx}:CallD F (fun xs H Q=>∃ p ys,xs=[.ref p]∧(SqL F.K H p ys∨SqT F.K H p ys)∧Q (.int ys.length) H) dLen:=by
 intro H Z xs ds Q s rs w
 unfold dLen at w
 split at w
 ·obtain⟨v,rfl,h⟩:=bL rs
  rw[Rep]at h
  obtain⟨a,vs,rfl,h1,h2⟩:=h
  exact⟨a,vs,rfl,.inl (s.seq h1),by rw[← h2.length];exact WG.now w s _ aO⟩
 ·obtain⟨v,rfl,h⟩:=bL rs
  rw[Rep]at h
  obtain⟨a,vs,rfl,h1,h2⟩:=h
  exact⟨a,vs,rfl,.inr (h1.mono s),by rw[← h2.length];exact WG.now w s _ aO⟩
 ·exact w.elim
def dMax2:List D→R D
 | [.int i,.int j]=>.ok (.int (if j > i then j else i))
 | _=>.stuck
theorem ot {F:Fx}:CallD F (fun xs H Q=>∃ i j,xs=[.int i,.int j]∧Q (.int (if j > i then j else i)) H) dMax2:=by
 intro H Z xs ds Q s rs w
 unfold dMax2 at w
 split at w
 ·exact⟨_,_,mj rs,WG.now w s _ aO⟩
 ·exact w.elim
def dTuple:List D→R D
 | [.lst xs]=>.ok (.tup xs)
 | [.tup xs]=>.ok (.tup xs)
 | _=>.stuck
theorem mr {F:Fx}:CallD F (fun xs H Q=>∃ p ys,xs=[.ref p]∧((SqL F.K H p ys∧∀ l,H l=none→Q (.ref l) (upd H l (.tup ys)))∨(SqT F.K H p ys∧Q (.ref p) H))) dTuple:=by
 intro H Z xs ds Q s rs w
 unfold dTuple at w
 split at w
 ·obtain⟨v,rfl,h⟩:=bL rs
  rw[Rep]at h
  obtain⟨a,vs,rfl,h1,h2⟩:=h
  refine⟨a,vs,rfl,.inl ⟨s.seq h1,fun p hp=>?_⟩⟩
  have z:Same Z (upd Z p (.tup vs)):=aJ (s.free hp)
  exact w _ _ (Ex.alloc s hp) _ (by rw[Rep];exact⟨p,_,rfl,SqT.of av,h2.mono z⟩)
 ·obtain⟨v,rfl,h⟩:=bL rs
  have hh:=h
  rw[Rep]at h
  obtain⟨a,vs,rfl,h1,h2⟩:=h
  exact⟨a,vs,rfl,.inr ⟨h1.mono s,WG.now w s _ hh⟩⟩
 ·exact w.elim
def boolsD:List D→Option (List Bool)
 | []=>some []
 | .bl b::r=>(boolsD r).map (b::·)
 | _::_=>none
theorem dR {K:PySem.W.Frag}{C:Nat→Addr}{Z:Hp}:∀ {ds:List D} {vs:List V} {bs:List Bool},Reps K C Z ds vs→boolsD ds=some bs→vs=bs.map V.bl
 | [],vs,bs,r,e=>by rw[Reps]at r;cases e;exact r
 | d::ds,vs,bs,r,e=>by
  rw[Reps]at r
  obtain⟨v,r',rfl,h1,h2⟩:=r
  cases d with
  | bl b =>
   rw[boolsD]at e
   cases q:boolsD ds with
   | none=>rw[q]at e;cases e
   | some bs' =>
    rw[q]at e
    cases e
    rw[Rep]at h1
    rw[h1,dR h2 q]
    rfl
  | _=>simp[boolsD]at e
def dAll:List D→R D
 | [.lst xs]=>match boolsD xs with
  | some bs=>.ok (.bl (bs.all id))
  | none=>.stuck
 | _=>.stuck
theorem dS:∀ {bs:List Bool} {us:List Value},Vals (bs.map V.bl) us→us=bs.map Value.bool
 | [],us,h=>by rw[List.map_nil]at h;cases h;rfl
 | b::bs,us,h=>by
  rw[List.map_cons]at h
  cases h with
  | cons r t =>
   have r':_=Value.bool b:=r
   rw[r',dS t]
   rfl
theorem jn {X:Cx}(hc:X.calm=true):CallR X (.builtin "all") (fun xs H Q=>∃ (p:Addr) (bs:List Bool),xs=[.ref p]∧SqL X.K H p (bs.map V.bl)∧Q (.bl (bs.all id)) H):=by
 intro pins s σ H xs us Q I r h
 obtain⟨p,bs,rfl,hq,q⟩:=h
 obtain⟨u,rfl,ru⟩:=vals1 r
 cases ru
 obtain⟨its,rv,pl,hz⟩:=I.list hq
 have e:=dS rv
 subst e
 have hlt:p < s.heap.objs.size:=by obtain⟨o,_,ho,_⟩:=pl;exact Heap.lt_size ho
 refine call_all_walk (wpAny_pyIter_list pl.isList ⟨s.heap.objs.size,_,_,_,_,_,fun i=>bs.getD i false,rfl,Walks.list (show X.A.in1.handled=none from I.ok.hd hc) s.heap.objs.size p (Nat.ne_of_lt hlt) (bs.map Value.bool).toArray,⟨⟨_,Heap.get?_push_size _ rfl,rfl,rfl⟩,?_⟩,?_,fun h' tk hk=>?_⟩)
 ·obtain⟨o,ho,h2,n,h3⟩:=pl.isList
  exact⟨o,Heap.get?_push_of_some _ ho,h2,n,h3⟩
 ·intro i v s' Q' E' hp hq'
  have hp':bs[i]?.map Value.bool=some v:=by simpa using hp
  cases e:bs[i]? with
  | none=>rw[e]at hp';cases hp'
  | some b =>
   rw[e]at hp'
   cases hp'
   refine wpAny_truthy_bool ?_
   have:bs.getD i false=b:=by simp[List.getD,e]
   have hq2:Q' (bs.getD i false) s':=hq'
   rw[this]at hq2
   exact hq2
 ·have hall:(List.range (bs.map Value.bool).toArray.size).all (fun i=>bs.getD i false)=bs.all id:=by
   rw[List.size_toArray,List.length_map]
   rw[Bool.eq_iff_iff,List.all_eq_true,List.all_eq_true]
   constructor
   ·intro h b hb
    obtain⟨i,hi,rfl⟩:=List.mem_iff_getElem.mp hb
    have:=h i (List.mem_range.mpr hi)
    simpa [List.getD,hi] using this
   ·intro h i hi
    have hi':=List.mem_range.mp hi
    have:=h bs[i] (List.getElem_mem hi')
    simpa [List.getD,hi'] using this
  rw[hall]
  exact⟨.bl (bs.all id),H,I.kept fun b o e=>hk b o (by simp;exact Nat.ne_of_lt (Heap.lt_size e)) (Heap.get?_push_of_some _ e),rfl,q⟩
theorem qO {F:Fx}:CallD F (fun xs H Q=>∃ (p:Addr) (bs:List Bool),xs=[.ref p]∧SqL F.K H p (bs.map V.bl)∧Q (.bl (bs.all id)) H) dAll:=by
 intro H Z xs ds Q s rs w
 unfold dAll at w
 split at w
 ·split at w
  ·rename_i bs e
   obtain⟨v,rfl,h⟩:=bL rs
   rw[Rep]at h
   obtain⟨a,vs,rfl,h1,h2⟩:=h
   have e2:=dR h2 e
   subst e2
   exact⟨a,bs,rfl,s.seq h1,WG.now w s _ aR⟩
  ·exact w.elim
 ·exact w.elim
section
variable {X:Cx}{F:Fx}{p pos:Pos}{e:Expr}{es:List Expr}{gs:SS→R (List D)}{k:Nat}
theorem bh (bx:BX X F k)(hg:Gl X "len")(hm:X.mg "len"=none)(ha:FA X F [e] gs)(he:starEach [e] X.env=(false,eval e X.env)::starEach [] X.env:=by rfl)(hpl:(backTo pos (starEach [] X.env)).any (·.1)=false:=by rfl):FE X F (.Call (.Name "len" p) [e] [] pos) (eCall dLen gs) :=
 jm (by have:=fP (X:=X);rw[bx.K]at this;exact this) qN hg hm PySem.boot_len ha (he:=he) (hpl:=hpl)
theorem pC {e2:Expr}(bx:BX X F k)(hg:Gl X "max")(hm:X.mg "max"=none)(ha:FA X F [e,e2] gs)(he:starEach [e,e2] X.env=(false,eval e X.env)::starEach [e2] X.env:=by rfl)(hpl:(backTo pos (starEach [e2] X.env)).any (·.1)=false:=by rfl) :
  FE X F (.Call (.Name "max" p) [e,e2] [] pos) (eCall dMax2 gs):=jm (qv bx.calm) ot hg hm (by decide +kernel) ha (he:=he) (hpl:=hpl)
theorem bU (bx:BX X F k)(hg:Gl X "tuple")(hm:X.mg "tuple"=none)(ha:FA X F [e] gs)(he:starEach [e] X.env=(false,eval e X.env)::starEach [] X.env:=by rfl)(hpl:(backTo pos (starEach [] X.env)).any (·.1)=false:=by rfl):FE X F (.Call (.Name "tuple" p) [e] [] pos) (eCall dTuple gs) :=
 qM (by have:=j8 (X:=X);rw[bx.K]at this;exact this) mr hg hm (by decide +kernel) ha (he:=he) (hpl:=hpl)
theorem lE (bx:BX X F k)(hg:Gl X "all")(hm:X.mg "all"=none)(ha:FA X F [e] gs)(he:starEach [e] X.env=(false,eval e X.env)::starEach [] X.env:=by rfl)(hpl:(backTo pos (starEach [] X.env)).any (·.1)=false:=by rfl):FE X F (.Call (.Name "all" p) [e] [] pos) (eCall dAll gs) :=
 jm (id := "all") (by have:=jn (X:=X) bx.calm;rw[bx.K]at this;exact this) qO hg hm (by decide +kernel) ha (he:=he) (hpl:=hpl)
end
end FF
end
noncomputable section
namespace FF
open PySem PySem.Spec PySem.Calls PyProof.Rows PySem.W
def ExcAt (a C:Addr)(h:Heap):Prop:=∃ o,h.get? a=some o∧o.cls=.ref C∧∃ vs,o.data=.fields vs
structure ExcK (K:Frag)(C:Addr):Prop where
 ga:findIn K (.ref C) "__getattribute__"=some (some (.builtin "BaseException.__getattribute__"))
 gt:findIn K (.ref C) "__getattr__"=some none
 cl:findIn K (.ref C) "__class__"=some (some (.builtin "object.__class__"))
 be:subIn K (.ref C) (.type "BaseException")=some true
 ob:subIn K (.ref C) (.type "object")=some true
 ty:(clsIn K C).isSome=true
section
variable {prog:Program}{w:World}{A:Around}{E:Value→Shared→Prop}{h:Heap}{g:Array GenState}{d:Drawn}{t:Nat}{os:OsState}{a C:Addr}{K:Frag}{o:Obj}{vs:Array Value}
theorem ou {M:Model}(p:ExcAt a C h):Looks M h (typeOf (.ref a)) (.ref C):=by
 obtain⟨o,h1,h2,h3⟩:=p
 exact h2 ▸ (Looks.ld h1).andThen .now
theorem oy {M:Model}(X:K.In h)(k:ExcK K C):Looks M h (isType (.ref C)) true:=by
 have z:=k.ty
 unfold clsIn at z
 split at z
 ·rename_i c' d' cd' sl' ho
  intro A' Q' E' s' kk q
  unfold isType loadHead
  exact wpAny_bind (wpAny_loadPart (kk _ _ (X _ _ ho)) (wpAny_pure q))
 ·cases z
theorem ki {R:Result→Shared→Prop}(X:K.In h)(k:ExcK K C)(hx:h.get? a=some o)(hc:o.cls=.ref C)(hq:R (.ok (.ret (.ref C))) ⟨h,g,d,t,os⟩) :
  codeAny (model prog w) A (.call (.builtin "getset_descriptor.__get__") ⟨[.builtin "object.__class__",.ref a,.ref C],[]⟩) R ⟨h,g,d,t,os⟩:=by
 have hT5:(⟨h,g,d,t,os⟩:Shared).TypeIs (.builtin "object.__class__") "getset_descriptor" := F.typeOf_object_class
 have L8:Looks (model prog w) h (isSubtype (.ref C) (.type (".".intercalate ("object.__class__".cutAt '.').dropLast))) true:=by
  rw[F.owner_object_class];exact looks_subIn X k.ob
 refine codeAny_call_builtin F.slot_gs_get.plain F.entry_gs_get (F.slot_gs_get.check _ _ _ _ _ _ _ _ hT5 (F.args_gs_get _ _ _) ?_)
 repeat (any_goals (first | assumption | (with_reducible refine wpAny_loadPart_at hx ?_;rw[hc]) | (with_reducible refine L8.at ?_) | wp_step))
 refine⟨Code.quiet_builtin _ (by decide +kernel),codeAny_builtin F.entry_object_class ?_⟩
 repeat (any_goals (first | assumption | (with_reducible refine wpAny_loadPart_at hx ?_;rw[hc]) | wp_step))
theorem iL {tk:Tok}{Q:Fin→Shared→Prop}(X:K.In h)(k:ExcK K C)(hx:h.get? a=some o)(hc:o.cls=.ref C)(hq:Q (.done (.ret (.ref C))) ⟨h,g,d,t,os⟩) :
  wpAny (model prog w) A (Builtin.«object.__getattribute__» ⟨[.ref a,.str "__class__" tk],[]⟩) Q E ⟨h,g,d,t,os⟩:=by
 have hT5:(⟨h,g,d,t,os⟩:Shared).TypeIs (.builtin "object.__class__") "getset_descriptor" := F.typeOf_object_class
 have f5:=F.typeOf_object_class
 have f6:=F.slot_gs_get.lookup
 have f7:=F.slot_gs_set.lookup
 have L4:Looks (model prog w) h (typeLookup (.ref C) "__class__") _:=looks_findIn X k.cl
 repeat (any_goals (first | assumption | (with_reducible refine wpAny_loadPart_at hx ?_;rw[hc]) | (with_reducible refine L4.at ?_) | wp_step))
 refine ki X k hx hc ?_
 repeat (any_goals (first | assumption | wp_step))
theorem qP {M:Model}{nameV:Value}{Q:Unit→Shared→Prop}(X:K.In h)(k:ExcK K C)(hx:h.get? a=some o)(hc:o.cls=.ref C)(hq:Q () ⟨h,g,d,t,os⟩):wpAny M A (checkBuiltinCall "BaseException.__getattribute__" ⟨[.ref a,nameV],[]⟩) Q E ⟨h,g,d,t,os⟩:=by
 have hk:builtinKind "BaseException.__getattribute__"=some .slot:=by decide +kernel
 have hsplit:splitId "BaseException.__getattribute__"=some ("BaseException","__getattribute__"):=by decide +kernel
 have L8:Looks M h (isSubtype (.ref C) (.type "BaseException")) true:=looks_subIn X k.be
 have ha:=F.args_bexc_ga (.ref a) nameV
 simp only[checkBuiltinCall,hk,hsplit]
 refine wpAny_bind ?_
 ·unfold isInstance
  repeat (first | (with_reducible refine wpAny_loadPart_at hx ?_;rw[hc]) | (with_reducible refine L8.at ?_) | wp_step)
  exact hq
theorem jo {tk:Tok}{R:Result→Shared→Prop}(X:K.In h)(k:ExcK K C)(hx:h.get? a=some o)(hc:o.cls=.ref C)(hq:R (.ok (.ret (.ref C))) ⟨h,g,d,t,os⟩) :
  codeAny (model prog w) A (.call (.builtin "BaseException.__getattribute__") ⟨[.ref a,.str "__class__" tk],[]⟩) R ⟨h,g,d,t,os⟩ :=
 codeAny_call_builtin F.attr_ValueError.ga.plain F.entry_bexc_ga (qP X k hx hc (iL X k hx hc hq))
theorem lF {tk:Tok}{Q:Value→Shared→Prop}(X:K.In h)(k:ExcK K C)(hx:h.get? a=some o)(hc:o.cls=.ref C)(hq:Q (.ref C) ⟨h,g,d,t,os⟩) :
  wpAny (model prog w) A (getAttrBy (.ref a) (.str "__class__" tk) false) Q E ⟨h,g,d,t,os⟩:=by
 have f3:=F.attr_ValueError.ga.bind (.ref a)
 have L1:Looks (model prog w) h (typeLookup (.ref C) "__getattribute__") _:=looks_findIn X k.ga
 have L2:Looks (model prog w) h (typeLookup (.ref C) "__getattr__") _:=looks_findIn X k.gt
 have hx2:(Value.builtin "BaseException.__getattribute__" == Value.builtin "object.__getattribute__")=false:=by decide +kernel
 have hx1:(onTheHeap (Value.ref C)&&Value.builtin "BaseException.__getattribute__" == Value.builtin "object.__getattribute__")=false:=by rw[hx2];rfl
 repeat (any_goals (first | assumption | (with_reducible refine wpAny_loadPart_at hx ?_;rw[hc]) | (with_reducible refine L1.at ?_) | (with_reducible refine L2.at ?_) | wp_step))
 refine jo X k hx hc ?_
 repeat (any_goals (first | assumption | wp_step))
theorem jp {Q:Option Value→Shared→Prop}(X:K.In h)(k:ExcK K C)(hx:h.get? a=some o)(hc:o.cls=.ref C)(hq:Q (some (.ref C)) ⟨h,g,d,t+1,os⟩) :
  wpAny (model prog w) A (getAttr? (.ref a) "__class__") Q E ⟨h,g,d,t,os⟩:=by
 unfold getAttr? getAttrBy?
 repeat (any_goals (first | assumption | with_reducible apply lF X k hx hc | wp_step))
end
end FF
end
noncomputable section
namespace FF
open PySem PySem.Spec PyProof.Rows L2
theorem tt {K:PySem.W.Frag}{a C:Addr}(k:ExcK K C):PySem.W.KitX K (.ref a) (.ref C) (ExcAt a C) where
 ty:=fun _ _ _ p=>ou p
 it:=fun _ _ X _=>oy X k
 ne:=fun h tp dd its n sl X htp=>by
  refine Bool.eq_false_iff.mpr fun q=>?_
  have e:C=tp:=Value.ref.inj (beq_iff_eq.mp q)
  subst e
  have z:=k.ty
  unfold PySem.W.clsIn at z
  split at z
  ·rename_i c' d' cd' sl' ho
   have z:=(X _ _ ho).symm.trans htp
   cases z
  ·cases z
 ca:=fun {_ _ _ _ _ s} X p h=>by
  obtain⟨hh,g,d,t,os⟩:=s
  obtain⟨o,h1,h2,_⟩:=p
  exact jp X k h1 h2 h
def tyD (C:Nat→Addr):D→Value
 | .non=>.type "NoneType"
 | .bl _=>.type "bool"
 | .int _=>.type "int"
 | .str _=>.type "str"
 | .tup _=>.type "tuple"
 | .lst _=>.type "list"
 | .exc k=>.ref (C k)
 | .fn _=>.none
 | .tab _ _=>.none
 | .dic _ _=>.none
def isDct:D→Bool
 | .tab _ _=>true
 | .dic _ _=>true
 | _=>false
def cV:V→Value
 | .ty n=>.type n
 | .ref a=>.ref a
 | _=>.none
theorem ms {X:Cx}{C:Nat→Addr}:CallR X (.builtin "isinstance") (fun xs H Q=>∃ (Z:Hp) (d:D) (x y:V) (b:Bool),xs=[x,y]∧Same Z H∧Rep X.K C Z d x∧((∃ n,y=.ty n)∨∃ a,y=.ref a) ∧
  PySem.W.kitOne X.K (tyD C d) (cV y)=some b∧(∀ j,d=.exc j→ExcK X.K (C j))∧(∀ j,d≠.fn j)∧isDct d=false∧Q (.bl b) H):=by
 intro pins s σ H xs us Q I r h
 obtain⟨Z,d,x,y,b,rfl,sm,rp,hy,e,he,hf,hdc,q⟩:=h
 obtain⟨u,c,rfl,ru,rc⟩:=vals2 r
 have hc:c=cV y:=by
  rcases hy with ⟨n,rfl⟩ | ⟨a,rfl⟩<;>exact rc
 subst hc
 have fin:∀ tk,EP X pins σ Q (.bool b) { s with toks:=tk }:=fun tk=>⟨.bl b,H,I.tok tk,rfl,q⟩
 cases d with
 | non=>rw[Rep]at rp;subst rp;cases (show u=Value.none from ru);exact PySem.W.kia_one PySem.W.kitx_none I.kIn True.intro e (fun z=>nomatch z) fin
 | bl k=>rw[Rep]at rp;subst rp;cases (show u=Value.bool k from ru);exact PySem.W.kia_one PySem.W.kitx_bool I.kIn True.intro e (fun z=>nomatch z) fin
 | int i=>rw[Rep]at rp;subst rp;obtain⟨t,rfl⟩:=(show ∃ t,u=Value.int i t from ru);exact PySem.W.kia_one PySem.W.kitx_int I.kIn True.intro e (fun z=>nomatch z) fin
 | str i=>rw[Rep]at rp;subst rp;obtain⟨t,rfl⟩:=(show ∃ t,u=Value.str i t from ru);exact PySem.W.kia_one PySem.W.kitx_str I.kIn True.intro e (fun z=>nomatch z) fin
 | tup ds =>
  rw[Rep]at rp
  obtain⟨a,vs,rfl,h1,h2⟩:=rp
  cases (show u=Value.ref a from ru)
  obtain⟨its,_,⟨o,p1,p2,_⟩,_⟩:=I.tuple (h1.mono sm)
  exact PySem.W.kia_one PySem.W.kitx_tuple I.kIn ⟨o,p1,p2⟩ e (fun z=>nomatch z) fin
 | lst ds =>
  rw[Rep]at rp
  obtain⟨a,vs,rfl,h1,h2⟩:=rp
  cases (show u=Value.ref a from ru)
  obtain⟨its,_,⟨o,n,p1,p2,_⟩,_⟩:=I.list (sm.seq h1)
  exact PySem.W.kia_one PySem.W.kitx_list I.kIn ⟨o,p1,p2⟩ e (fun z=>nomatch z) fin
 | fn k=>exact absurd rfl (hf k)
 | tab _ _=>cases hdc
 | dic _ _=>cases hdc
 | exc k =>
  rw[Rep]at rp
  obtain⟨a,rfl,h1⟩:=rp
  cases (show u=Value.ref a from ru)
  obtain⟨o,h2,h3,h5⟩:=(show ObjOk X.prog X.w H s.heap a (excO C k a) from I.hok a _ (sm a _ h1)).1
  exact PySem.W.kia_one (tt (he k rfl)) I.kIn ⟨o,h2,h3,h5⟩ e (fun z=>nomatch z) fin
def dIsA (q:D→Option Bool)(d:D):R D:=match q d with
 | some b=>.ok (.bl b)
 | none=>.stuck
def eIs (q:D→Option Bool)(g:SS→R D):SS→R D:=fun S=>(g S).bind (dIsA q)
structure IsA (K:PySem.W.Frag)(C:Nat→Addr)(y:V)(q:D→Option Bool):Prop where
 one:(∃ n,y=.ty n)∨∃ a,y=.ref a
 ans:∀ d b,q d=some b→PySem.W.kitOne K (tyD C d) (cV y)=some b
 exc:∀ j b,q (.exc j)=some b→ExcK K (C j)
 fn:∀ j,q (.fn j)=none
 dct:∀ d,isDct d=true→q d=none
section
variable {X:Cx}{F:Fx}{p pos:Pos}{e ec:Expr}{g:SS→R D}{k:Nat}{y:V}{q:D→Option Bool}
theorem xx (bx:BX X F k)(hq:IsA F.K F.C y q):∀ σ H Q,tE F (eIs q g) σ H Q→tCB (fun xs H Q=>∃ (Z:Hp) (d:D) (x y:V) (b:Bool),xs=[x,y]∧Same Z H∧Rep X.K F.C Z d x∧((∃ n,y=.ty n)∨∃ a,y=.ref a) ∧
  PySem.W.kitOne X.K (tyD F.C d) (cV y)=some b∧(∀ j,d=.exc j→ExcK X.K (F.C j))∧(∀ j,d≠.fn j)∧isDct d=false∧Q (.bl b) H) (tCons (tE F g) (tCons (tC y) tNil)) σ H Q:=fun σ H Q ⟨Z,S,ok,w⟩ =>
 aH ok w fun d v H1 Z1 ok1 x1 rv w1=>by
  cases e:q d with
  | none=>unfold dIsA at w1;rw[e]at w1;exact w1.elim
  | some b =>
   unfold dIsA at w1
   rw[e]at w1
   refine⟨Z1,d,v,y,b,rfl,ok1.sub,by rw[bx.K];exact rv,hq.one,by rw[bx.K];exact hq.ans d b e,fun j ej=>?_,fun j ej=>(by rw[ej,hq.fn j]at e;cases e),(by cases hd:isDct d with | false=>rfl | true=>rw[hq.dct d hd]at e;cases e),WG.now (a:=D.bl b) w1 ok1.sub _ aR⟩
   subst ej
   rw[bx.K]
   exact hq.exc j b e
theorem ao (bx:BX X F k)(hg:Gl X "isinstance")(hm:X.mg "isinstance"=none)(hq:IsA F.K F.C y q)(ha:FE X F e g)(hc:PE X ec (tC y))(he:starEach [e,ec] X.env=(false,eval e X.env)::starEach [ec] X.env:=by rfl)
  (he2:starEach [ec] X.env=(false,eval ec X.env)::starEach [] X.env:=by rfl) (hpl:(backTo pos (starEach [ec] X.env)).any (·.1)=false:=by rfl) :
  FE X F (.Call (.Name "isinstance" p) [e,ec] [] pos) (eIs q g) :=
 (dz (id := "isinstance") ms hg hm (by decide +kernel) (fe ha (fe hc jb he2) he) (he:=he) (hpl:=hpl)).weak (xx bx hq)
end
def qTup:D→Option Bool
 | .tup _=>some true
 | .exc _=>none
 | .fn _=>none
 | .tab _ _=>none
 | .dic _ _=>none
 | _=>some false
def qInt:D→Option Bool
 | .int _=>some true
 | .bl _=>some true
 | .exc _=>none
 | .fn _=>none
 | .tab _ _=>none
 | .dic _ _=>none
 | _=>some false
def qBool:D→Option Bool
 | .bl _=>some true
 | .exc _=>none
 | .fn _=>none
 | .tab _ _=>none
 | .dic _ _=>none
 | _=>some false
def qList:D→Option Bool
 | .lst _=>some true
 | .exc _=>none
 | .fn _=>none
 | .tab _ _=>none
 | .dic _ _=>none
 | _=>some false
theorem bp {K:PySem.W.Frag}{C:Nat→Addr}:IsA K C (.ty "tuple") qTup:=⟨.inl ⟨_,rfl⟩,fun d b e=>by cases d<;>cases e<;>with_unfolding_all rfl,fun j b e=>(nomatch e),fun _=>rfl,fun d h=>by cases d<;>first | rfl | cases h⟩
theorem iZ {K:PySem.W.Frag}{C:Nat→Addr}:IsA K C (.ty "int") qInt:=⟨.inl ⟨_,rfl⟩,fun d b e=>by cases d<;>cases e<;>with_unfolding_all rfl,fun j b e=>(nomatch e),fun _=>rfl,fun d h=>by cases d<;>first | rfl | cases h⟩
theorem fX {K:PySem.W.Frag}{C:Nat→Addr}:IsA K C (.ty "bool") qBool:=⟨.inl ⟨_,rfl⟩,fun d b e=>by cases d<;>cases e<;>with_unfolding_all rfl,fun j b e=>(nomatch e),fun _=>rfl,fun d h=>by cases d<;>first | rfl | cases h⟩
theorem tu {K:PySem.W.Frag}{C:Nat→Addr}:IsA K C (.ty "list") qList:=⟨.inl ⟨_,rfl⟩,fun d b e=>by cases d<;>cases e<;>with_unfolding_all rfl,fun j b e=>(nomatch e),fun _=>rfl,fun d h=>by cases d<;>first | rfl | cases h⟩
def sOwn (i:Nat)(gs:SS→R (List D)):SS→O:=fun S=>rO ((gs S).bind fun ds=>if ds.length≤16777216 then .ok (.nx (S.set i (some (.own ds)))) else .stuck)
def sApp (i:Nat)(gs:SS→R (List D)):SS→O:=fun S=>match S[i]? with
 | some (some (.own ds))=>rO ((gs S).bind fun es=>match es with
  | [d]=>if ds.length < 16777216 then .ok (.nx (S.set i (some (.own (ds++[d]))))) else .stuck
  | _=>.stuck)
 | _=>.stuck
def sExt (i:Nat)(gs:SS→R (List D)):SS→O:=fun S=>match S[i]? with
 | some (some (.own ds))=>rO ((gs S).bind fun es=>match es with
  | [.lst xs]=>if ds.length+xs.length≤16777216 then .ok (.nx (S.set i (some (.own (ds++xs))))) else .stuck
  | [.tup xs]=>if ds.length+xs.length≤16777216 then .ok (.nx (S.set i (some (.own (ds++xs))))) else .stuck
  | _=>.stuck)
 | _=>.stuck
def rExt (K:PySem.W.Frag):V→List V→Hp→VK→Prop:=fun x vs H Q=>∃ l b xs zs,x=.ref l∧vs=[.ref b]∧H l=some (.lst xs)∧(SqL K H b zs∨SqT K H b zs)∧xs.length+zs.length≤sizeLine∧Q .non (upd H l (.lst (xs++zs)))
theorem xy {X:Cx}:MtR X "list.extend" (rExt X.K):=by
 intro pins s σ H x vs v us Q I rx rv h
 obtain⟨l,b,xs,zs,rfl,rfl,hH,hB,hz,q⟩:=h
 cases rx
 obtain⟨u,rfl,ru⟩:=rv.one
 cases ru
 obtain⟨z,its,n,r,hl,e⟩:=I.lstM hH
 rcases hB with hB | hB
 ·obtain⟨its2,r2,⟨⟨c2,d2,dt2,sl2⟩,n2,e2,p2,p3,p4⟩,z2⟩:=I.list hB
  simp only at p2 p3 p4
  subst p2 p3 p4
  have hl2:=r2.length
  have hsz:its.toArray.size+its2.toArray.size≤sizeLine:=by rw[List.size_toArray,List.size_toArray];omega
  refine call_meets F.slot_list_extend ⟨_,e,rfl⟩ F.entry_list_extend (F.args_list_extend_2 _ _) (qF l b its.toArray its2.toArray n n2 _ _ hsz) ⟨e,e2,?_⟩
  refine⟨.non,_,I.lset (its':=its++its2) hH e (by simp) (r.append r2) ?_,rfl,q⟩
  rw[List.length_append]
  omega
 ·obtain⟨its2,r2,⟨⟨c2,d2,dt2,sl2⟩,e2,p2,n2,p3⟩,z2⟩:=I.tuple hB
  simp only at p2 p3
  subst p2 p3
  have hl2:=r2.length
  have hsz:its.toArray.size+its2.toArray.size≤sizeLine:=by rw[List.size_toArray,List.size_toArray];omega
  refine call_meets F.slot_list_extend ⟨_,e,rfl⟩ F.entry_list_extend (F.args_list_extend_2 _ _) (qG l b its.toArray its2.toArray n n2 _ _ hsz) ⟨e,e2,?_⟩
  refine⟨.non,_,I.lset (its':=its++its2) hH e (by simp) (r.append r2) ?_,rfl,q⟩
  rw[List.length_append]
  omega
section
variable {X:Cx}{F:Fx}{e:Expr}{es:List Expr}{gs:SS→R (List D)}{pos p0 apos cpos lpos:Pos}{x:Str}
theorem dm (i:Nat){pos':Pos}(hN:X.N.Nodup)(h:FA X F es gs)(hi:X.N[i]?=some x:=by rfl)(hx:Loc X.env.scope x:=by first | exact Or.inl rfl | exact Or.inr rfl)
  (hs:swapsWith (.List es lpos) (some (.Name x pos')) pos.line X.env=pure false:=by rfl) (hf:X.fn x=true∨X.env.scope.names.lookup x=some .local:=by first | exact .inl rfl | exact .inr rfl):FS X F (.Assign [.Name x pos'] (.List es lpos) pos) (sOwn i gs) :=
 (lh hN hi hx (sH h) hs hf).weak fun D σ H ⟨Z,S,ok,w⟩=>aZ ok (WO.wg ok w) fun ds vs H1 Z1 ok1 x1 rs w1=>by
  split at w1
  ·rename_i hl
   refine⟨by rw[← rs.length,sizeLine_eq];exact hl,fun p hp=>?_⟩
   have w2:=WG.now w1 ok1.sub
   exact w2 _ _ Z1 (Same.refl _) (ok1.newOwn hp rs)
  ·exact w1.elim
theorem kJ (i:Nat)(ha:FA X F [e] gs)(hi:X.N[i]?=some x:=by rfl)(hv:Vis X.env.scope x:=by first | exact Or.inl rfl | exact Or.inr (Or.inl rfl) | exact Or.inr (Or.inr rfl))(hd:(x==("__debug__":Str))=false:=by decide)
  (hcd:(x==("__classdict__":Str))=false:=by decide)
  (hbase:attributeBase (.Name x p0) "append" X.env (eval (.Name x p0) X.env)=eval (.Name x p0) X.env:=by rfl)
  (hfew:((backTo cpos (starEach [e] X.env)).all (fun x=>!x.1)&&(backToKw cpos (keywordEach [] X.env)).all (fun x=>x.1.isSome)
   && decide ([e].length+([]:List Keyword).length+(if ([]:List Keyword).isEmpty then 0 else 1) < 30))=true:=by rfl)
  (hline:(apos.endLine==cpos.line)=true:=by rfl) (hs:starEach [e] X.env=(false,eval e X.env)::starEach [] X.env:=by rfl) (hplain:(backTo cpos (starEach [] X.env)).any (·.1)=false:=by rfl)
  (hsw:swapsWith (.Call (.Attribute (.Name x p0) "append" apos) [e] [] cpos) none pos.line X.env=pure false:=by rfl) :
  FS X F (.Expr (.Call (.Attribute (.Name x p0) "append" apos) [e] [] cpos) pos) (sApp i gs) :=
 (iV (jd PySem.F.plainAttrs_list PySem.F.slot_list_append (by kernel_rfl) (kE (X:=X)) (cO hi hv hd hcd) ha hbase hfew hline hs hplain) hsw).weak fun D σ H ⟨Z,S,ok,w⟩=>by
  unfold sApp at w
  split at w
  ·rename_i ds e0
   obtain⟨a,vs,e1,e2,e3,e4,r⟩:=ok.own i ds e0
   refine⟨.ref a,e1,.inl ⟨rfl,vs,SqL.of e2⟩,aZ ok (WO.wg ok w) fun es' us H1 Z1 ok1 x1 rs w1=>?_⟩
   split at w1
   ·rename_i d
    split at w1
    ·rename_i hl
     obtain⟨y,rfl,ry⟩:=bL rs
     have w2:=WG.now w1 ok1.sub
     refine⟨a,vs,y,rfl,rfl,x1.same _ _ e2,by rw[← r.length,sizeLine_eq];exact hl,?_⟩
     exact w2 σ _ Z1 (Same.refl _) (ok1.write e0 e1 ((r.mono x1.z).append (Reps.cons ry Reps.nil)))
    ·exact w1.elim
   ·exact w1.elim
  ·exact w.elim
theorem bC (i:Nat)(bK:X.K=F.K)(ha:FA X F [e] gs)(hi:X.N[i]?=some x:=by rfl)(hv:Vis X.env.scope x:=by first | exact Or.inl rfl | exact Or.inr (Or.inl rfl) | exact Or.inr (Or.inr rfl))(hd:(x==("__debug__":Str))=false:=by decide)
  (hcd:(x==("__classdict__":Str))=false:=by decide)
  (hbase:attributeBase (.Name x p0) "extend" X.env (eval (.Name x p0) X.env)=eval (.Name x p0) X.env:=by rfl)
  (hfew:((backTo cpos (starEach [e] X.env)).all (fun x=>!x.1)&&(backToKw cpos (keywordEach [] X.env)).all (fun x=>x.1.isSome)
   && decide ([e].length+([]:List Keyword).length+(if ([]:List Keyword).isEmpty then 0 else 1) < 30))=true:=by rfl)
  (hline:(apos.endLine==cpos.line)=true:=by rfl) (hs:starEach [e] X.env=(false,eval e X.env)::starEach [] X.env:=by rfl) (hplain:(backTo cpos (starEach [] X.env)).any (·.1)=false:=by rfl)
  (hsw:swapsWith (.Call (.Attribute (.Name x p0) "extend" apos) [e] [] cpos) none pos.line X.env=pure false:=by rfl) :
  FS X F (.Expr (.Call (.Attribute (.Name x p0) "extend" apos) [e] [] cpos) pos) (sExt i gs) :=
 (iV (jd PySem.F.plainAttrs_list PySem.F.slot_list_extend (by kernel_rfl) (xy (X:=X)) (cO hi hv hd hcd) ha hbase hfew hline hs hplain) hsw).weak fun D σ H ⟨Z,S,ok,w⟩=>by
  unfold sExt at w
  split at w
  ·rename_i ds e0
   obtain⟨a,vs,e1,e2,e3,e4,r⟩:=ok.own i ds e0
   refine⟨.ref a,e1,.inl ⟨rfl,vs,SqL.of e2⟩,aZ ok (WO.wg ok w) fun es' us H1 Z1 ok1 x1 rs w1=>?_⟩
   split at w1
   ·rename_i xs
    split at w1
    ·rename_i hl
     obtain⟨y,rfl,ry⟩:=bL rs
     rw[Rep]at ry
     obtain⟨b,zs,rfl,h1,h2⟩:=ry
     have w2:=WG.now w1 ok1.sub
     refine⟨a,b,vs,zs,rfl,rfl,x1.same _ _ e2,.inl (by rw[bK];exact ok1.sub.seq h1),by rw[← r.length,← h2.length,sizeLine_eq];exact hl,?_⟩
     exact w2 σ _ Z1 (Same.refl _) (ok1.write e0 e1 ((r.mono x1.z).append h2))
    ·exact w1.elim
   ·rename_i xs
    split at w1
    ·rename_i hl
     obtain⟨y,rfl,ry⟩:=bL rs
     rw[Rep]at ry
     obtain⟨b,zs,rfl,h1,h2⟩:=ry
     have w2:=WG.now w1 ok1.sub
     refine⟨a,b,vs,zs,rfl,rfl,x1.same _ _ e2,.inr (by rw[bK];exact h1.mono ok1.sub),by rw[← r.length,← h2.length,sizeLine_eq];exact hl,?_⟩
     exact w2 σ _ Z1 (Same.refl _) (ok1.write e0 e1 ((r.mono x1.z).append h2))
    ·exact w1.elim
   ·exact w1.elim
  ·exact w.elim
end
def dCount (xs es:List D):R D:=match es with
 | [.bl k]=>match boolsD xs with
  | some bs=>.ok (.int (bs.countP (· == k):Nat))
  | none=>.stuck
 | _=>.stuck
def dIndex (xs es:List D):R D:=match es with
 | [.bl k]=>match boolsD xs with
  | some bs=>if bs.idxOf k < bs.length then .ok (.int (bs.idxOf k:Nat)) else .stuck
  | none=>.stuck
 | _=>.stuck
def eMethL (f:List D→List D→R D)(g:SS→R D)(gs:SS→R (List D)):SS→R D:=fun S=>(g S).bind fun d=>match d with
 | .lst xs=>(gs S).bind fun es=>f xs es
 | _=>.stuck
def rCountB (K:PySem.W.Frag):V→List V→Hp→VK→Prop:=fun x vs H Q=>∃ (l:Addr) (bs:List Bool) (k:Bool),x=.ref l∧vs=[.bl k]∧SqL K H l (bs.map V.bl)∧Q (.int (bs.countP (· == k):Nat)) H
def rIndexB (K:PySem.W.Frag):V→List V→Hp→VK→Prop:=fun x vs H Q=>∃ (l:Addr) (bs:List Bool) (k:Bool),x=.ref l∧vs=[.bl k]∧SqL K H l (bs.map V.bl)∧bs.idxOf k < bs.length∧Q (.int (bs.idxOf k:Nat)) H
theorem jq {X:Cx}{pins:List (Addr×Obj)}{σ:St}{H:Hp}{s:Shared}(I:Inv X pins σ H s){A:Around}(hu:A.units < cLine)(b k:Bool):SeqAt.EqAt A s (.bool b) (.bool k) (b==k) :=
 fu (K:=X.K) (C:=fun _=>0) (Z:=fun _=>none) rfl I (fun _ _ e=>nomatch e) 0 A (.bl b) (.bl k) (.bl b) (.bl k) _ _ rfl rfl aR aR rfl rfl (by omega)
def isB (k:Bool):Value→Bool
 | .bool b=>b==k
 | _=>false
theorem tz {X:Cx}{k:Nat}(hr:Room k X.A):MtR X "list.count" (rCountB X.K):=by
 intro pins s σ H x vs v us Q I rx rv h
 obtain⟨l,bs,k,rfl,rfl,hH,q⟩:=h
 cases rx
 obtain⟨u,rfl,ru⟩:=rv.one
 cases ru
 obtain⟨its,r,⟨⟨c2,d2,dt2,sl2⟩,n2,e2,p2,p3,p4⟩,z2⟩:=I.list hH
 have e:=dS r
 subst e
 simp only at p2 p3 p4
 subst p2 p3 p4
 refine call_meets F.slot_list_count ⟨_,e2,rfl⟩ F.entry_list_count (F.args_list_count_2 _ _) (SeqAt.list_countAt l _ n2 _ _ (.bool k) (isB k)) ⟨e2,fun y hy=>?_,?_⟩
 ·have hy':y∈bs.map Value.bool:=by simpa using hy
  obtain⟨b,_,rfl⟩:=List.mem_map.mp hy'
  exact jq I (by have:=hr.un;show X.A.units+1 < cLine;omega) b k
 ·have hc:((bs.map Value.bool).toArray.toList.countP (isB k))=bs.countP (· == k):=by
   show (bs.map Value.bool).countP (isB k)=_
   rw[List.countP_map]
   rfl
  rw[hc]
  exact⟨.int _,H,I.tok _,⟨_,rfl⟩,q⟩
theorem tF {X:Cx}{k:Nat}(hr:Room k X.A):MtR X "list.index" (rIndexB X.K):=by
 intro pins s σ H x vs v us Q I rx rv h
 obtain⟨l,bs,k,rfl,rfl,hH,hj,q⟩:=h
 cases rx
 obtain⟨u,rfl,ru⟩:=rv.one
 cases ru
 obtain⟨its,r,⟨⟨c2,d2,dt2,sl2⟩,n2,e2,p2,p3,p4⟩,z2⟩:=I.list hH
 have e:=dS r
 subst e
 simp only at p2 p3 p4
 subst p2 p3 p4
 rw[List.length_map,sizeLine_eq]at z2
 have hsz:bs.idxOf k < (bs.map Value.bool).toArray.size:=by rw[List.size_toArray,List.length_map];exact hj
 have hat:∀ m (hm:m < (bs.map Value.bool).toArray.size) (hm':m < bs.length),isB k (bs.map Value.bool).toArray[m]=(bs[m]==k):=fun m hm hm'=>by simp[isB]
 refine call_meets F.slot_list_index ⟨_,e2,rfl⟩ F.entry_list_index (F.args_list_index_2 _ _) (SeqAt.list_indexAt l _ n2 _ _ (.bool k) (isB k) (bs.idxOf k) hsz (by omega) ?_ ?_) ⟨e2,fun y hy=>?_,⟨.int _,H,I.tok _,⟨_,rfl⟩,q⟩⟩
 ·rw[hat _ _ hj]
  exact List.findIdx_getElem (w:=hj)
 ·intro m hm hlt
  have hm':m < bs.length:=by omega
  rw[hat _ _ hm']
  exact Bool.eq_false_iff.mpr (by simpa using List.not_of_lt_findIdx hlt)
 ·have hy':y∈bs.map Value.bool:=by simpa using hy
  obtain⟨b,_,rfl⟩:=List.mem_map.mp hy'
  exact jq I (by have:=hr.un;show X.A.units+1 < cLine;omega) b k
section
variable {X:Cx}{F:Fx}{o e:Expr}{g:SS→R D}{gs:SS→R (List D)}{apos cpos:Pos}{k:Nat}
theorem tG {K:PySem.W.Frag}{C:Nat→Addr}{Z:Hp}{k:Bool}{vs:List V}(r:Reps K C Z [.bl k] vs):vs=[.bl k]:=by
 obtain⟨v,rfl,h⟩:=bL r
 rw[Rep]at h
 rw[h]
def MethD (F:Fx)(r:V→List V→Hp→VK→Prop)(f:List D→List D→R D):Prop:=∀ (H Z:Hp) (a:Addr) (vs:List V) (xs:List D) (us:List V) (es:List D) (Q:VK),Same Z H→SqL F.K H a vs→Reps F.K F.C Z xs vs→Reps F.K F.C Z es us →
 WG F H Z (f xs es) (fun d H' Z'=>∀ v,Rep F.K F.C Z' d v→Q v H')→r (.ref a) us H Q
theorem mt:MethD F (rCountB F.K) dCount:=by
 intro H Z a vs xs us es Q s h1 h2 rs w
 unfold dCount at w
 split at w
 ·rename_i k
  split at w
  ·rename_i bs eb
   have e3:=dR h2 eb
   subst e3
   exact⟨a,bs,k,rfl,tG rs,h1,WG.now w s _ aO⟩
  ·exact w.elim
 ·exact w.elim
theorem mv:MethD F (rIndexB F.K) dIndex:=by
 intro H Z a vs xs us es Q s h1 h2 rs w
 unfold dIndex at w
 split at w
 ·rename_i k
  split at w
  ·rename_i bs eb
   have e3:=dR h2 eb
   subst e3
   split at w
   ·rename_i hl
    exact⟨a,bs,k,rfl,tG rs,h1,hl,WG.now w s _ aO⟩
   ·exact w.elim
  ·exact w.elim
 ·exact w.elim
theorem g9 {r:V→List V→Hp→VK→Prop}{f:List D→List D→R D}(hd:MethD F r f):∀ σ H Q,tE F (eMethL f g gs) σ H Q→tBM F.K "list" r (tE F g) (tAl F gs) σ H Q:=fun σ H Q ⟨Z,S,ok,w⟩=>aH ok w fun d v H1 Z1 ok1 x1 rv w1=>by
 cases d with
 | lst xs =>
  rw[Rep]at rv
  obtain⟨a,vs,rfl,h1,h2⟩:=rv
  exact⟨.inl ⟨rfl,vs,ok1.sub.seq h1⟩,aZ ok1 w1 fun es us H2 Z2 ok2 x2 rs w2=>hd H2 Z2 a vs xs us es Q ok2.sub (ok2.sub.seq (x2.z.seq h1)) (h2.mono x2.z) rs w2⟩
 | _=>exact w1.elim
theorem tH (bx:BX X F k)(ho:FE X F o g)(ha:FA X F [e] gs)
  (hbase:attributeBase o "count" X.env (eval o X.env)=eval o X.env:=by rfl)
  (hfew:((backTo cpos (starEach [e] X.env)).all (fun x=>!x.1)&&(backToKw cpos (keywordEach [] X.env)).all (fun x=>x.1.isSome)
   && decide ([e].length+([]:List Keyword).length+(if ([]:List Keyword).isEmpty then 0 else 1) < 30))=true:=by rfl)
  (hline:(apos.endLine==cpos.line)=true:=by rfl) (hs:starEach [e] X.env=(false,eval e X.env)::starEach [] X.env:=by rfl) (hplain:(backTo cpos (starEach [] X.env)).any (·.1)=false:=by rfl) :
  FE X F (.Call (.Attribute o "count" apos) [e] [] cpos) (eMethL dCount g gs) :=
 (jd PySem.F.plainAttrs_list PySem.F.slot_list_count (by kernel_rfl) (tz bx.room) ho ha hbase hfew hline hs hplain).weak (by rw[bx.K];exact g9 mt)
theorem qQ (bx:BX X F k)(ho:FE X F o g)(ha:FA X F [e] gs)
  (hbase:attributeBase o "index" X.env (eval o X.env)=eval o X.env:=by rfl)
  (hfew:((backTo cpos (starEach [e] X.env)).all (fun x=>!x.1)&&(backToKw cpos (keywordEach [] X.env)).all (fun x=>x.1.isSome)
   && decide ([e].length+([]:List Keyword).length+(if ([]:List Keyword).isEmpty then 0 else 1) < 30))=true:=by rfl)
  (hline:(apos.endLine==cpos.line)=true:=by rfl) (hs:starEach [e] X.env=(false,eval e X.env)::starEach [] X.env:=by rfl) (hplain:(backTo cpos (starEach [] X.env)).any (·.1)=false:=by rfl) :
  FE X F (.Call (.Attribute o "index" apos) [e] [] cpos) (eMethL dIndex g gs) :=
 (jd PySem.F.plainAttrs_list PySem.F.slot_list_index (by kernel_rfl) (tF bx.room) ho ha hbase hfew hline hs hplain).weak (by rw[bx.K];exact g9 mv)
end
def MadeX (X:Cx)(F:Fx):Prop:=∀ (pins:List (Addr×Obj)) (σ:St) (H:Hp) (s:Shared) (h1:Heap) (ea C:Addr) (args:List Value),Inv X pins σ H s→Heap.MadeExcOf s.heap h1 ea (.ref C) args→F.E (.ref C) none H→X.xe (.ref ea) { s with heap:=h1 }
def bmVE:List Value:=[.type "ValueError",.type "Exception",.type "BaseException",.type "object"]
theorem pE {K:PySem.W.Frag}{h:Heap}{C:Addr}{bmB:List Value}{newId:String}(X:K.In h)(q:PySem.W.excIn K C bmB newId=true) :
  ∃ (bm:List Value) (N:Addr) (nm qn:Str) (bs:List Value) (hdct:Bool) (sn:List Str) (sub:List Value) (ab:Bool) (col:Option Bool) (dd:Option Addr) (k0 k1 k2 k3 k5:Option Value) (mN:Str→Option Value),
   h.get? C=some (excClassObj nm qn C N bs bm hdct sn sub ab col dd k0 k1 k2 k3 k5 newId)∧h.Ns N mN∧mN "__init__"=none∧OwnTail h bmB bm:=by
 unfold PySem.W.excIn at q
 split at q
 ·rename_i dd cd sl ho
  split at q
  ·rename_i C' bm k0 k1 k2 k3 n k5 hm hs
   simp only[Bool.and_eq_true,beq_iff_eq,Bool.not_eq_true']at q
   obtain⟨⟨⟨⟨⟨rfl,rfl⟩,hdel⟩,ht⟩,hok⟩,hni⟩:=q
   obtain⟨nm,bs,mro,ns,qn,hd,sn,sub,ab,col,del⟩:=cd
   dsimp only at hm hdel hok hni
   subst hm hdel
   have hsl:sl = #[k0,k1,k2,k3,some (.builtin n),k5]:=by
    obtain⟨l⟩:=sl
    simp only at hs
    rw[hs]
   subst hsl
   exact⟨bm,ns,nm,qn,bs,hd,sn,sub,ab,col,dd,k0,k1,k2,k3,k5,_,X _ _ ho,.of_isNs (PySem.W.isNs_of_in X hok),PySem.W.nsMap_none_of_in X hok hni,PySem.W.tail_of_in X ht⟩
  ·cases q
 ·cases q
def sRaise (j:Nat)(gs:SS→R (List D)):SS→O:=fun S=>rO ((gs S).bind fun ds=>if ds.length≤1000 then .ok (.er j) else .stuck)
section
variable {X:Cx}{F:Fx}{e:Expr}{es:List Expr}{gs:SS→R (List D)}{pos np cpos:Pos}{x:Str}{k j:Nat}
theorem cq (j:Nat)(bx:BX X F k)(hmade:MadeX X F)(hg:Gl X x)(hm:X.mg x=some (.ref (F.C j)))(q:PySem.W.excIn F.K (F.C j) bmVE "ValueError.__new__"=true)(ha:FA X F (e::es) gs)(hd:(x==("__debug__":Str))=false:=by decide)
  (he:starEach (e::es) X.env=(false,eval e X.env)::starEach es X.env:=by rfl) (hpl:(backTo cpos (starEach es X.env)).any (·.1)=false:=by rfl) :
  FS X F (.Raise (some (.Call (.Name x np) (e::es) [] cpos)) none pos) (sRaise j gs):=by
 intro pins s σ H D I h
 obtain⟨Z,S,ok,w⟩:=h
 have q':=q
 rw[← bx.K]at q'
 obtain⟨bm,N,nm,qn,bs,hdct,sn,sub,ab,col,dd,k0,k1,k2,k3,k5,mN,hC0,hN0,hni0,T0⟩:=pE (bmB:=bmVE) I.ok.mod.kin q'
 have hb:∀ {pl σ' H' s'},Inv X pl σ' H' s'→∀ b o,X.base.get? b=some o→s'.heap.get? b=some o:=fun I'=>I'.bk
 refine wpAny_Raise_call_subU (C:=F.C j) (nm:=nm) (q:=qn) (N:=N) (bs:=bs) (bm:=bm) (hdct:=hdct) (sn:=sn) (sub:=sub) (ab:=ab) (col:=col) (dd:=dd) (k0:=k0) (k1:=k1) (k2:=k2) (k3:=k3) (k5:=k5) PySem.F.excBase_ValueError (by decide) PySem.F.excBase_ValueError (T0.hasType PySem.F.excBase_ValueError.hasBase) (I.ok.hd bx.calm) (by rw[he];show (false||(backTo cpos (starEach es X.env)).any (·.1))=false;rw[hpl];rfl) hni0 (iU I hg hm ⟨rfl,?_⟩ hd)
 have hA:=ha cpos pins s σ H (fun vs H1=>vs.length≤1000∧F.E (.ref (F.C j)) none H1) I (aZ ok (WO.wg ok w) fun ds vs H1 Z1 ok1 x1 rs w1=>by
  split at w1
  ·rename_i hl
   exact⟨by rw[← rs.length];exact hl,WG.now w1 ok1.sub H1 ok1.ex.same⟩
  ·exact w1.elim)
 rw[he]at hA ⊢
 refine Calls.evalArgs_plain (thn hA fun us s2 ⟨vs,H2,I2,r2,q2⟩=>⟨rfl,?_,hb I2 _ _ hC0,hN0.keeps (hb I2),T0.keeps (hb I2),fun h' e hm'=>hmade pins σ H2 s2 h' e _ us I2 hm' q2.2⟩)
 rw[← r2.length,sizeLine_eq]
 omega
end
section
variable {X:Cx}{pins:List (Addr×Obj)}{σ:St}{H:Hp}{s:Shared}
theorem jr (I:Inv X pins σ H s){A:Around}{calm:Bool}{pn pins':List (Addr×Obj)}{xe:Value→Shared→Prop}(hf:A.frames=X.A.frames)(hc:calm=true→A.handled=none)(hp:∀ p∈pn++pins',p∈X.pn++pins) :
  Inv { X with A:=A,calm:=calm,pn:=pn,xe:=xe } pins' σ H s :=
 ⟨⟨I.ok.mod,I.ok.kind,I.ok.glob,I.ok.blt,I.ok.above,I.ok.inj,I.ok.has,I.ok.cab,hc,hf.trans I.ok.frames,I.ok.stk,I.ok.exf,I.ok.bs,I.ok.bsz,I.ok.noex,I.ok.exfs,I.ok.funs,I.ok.frf⟩,I.os,I.bare,I.base,I.loc,I.cell,I.free,I.freeC,
  fun p hpp=>I.pin p (hp p hpp),I.hok,I.len⟩
theorem qR (I:Inv X pins σ H s){a:Addr}{o:HO}(hn:H a=none)(h0:X.s₀.heap.get? a=none)(hl:a≠X.env.locals)(hc:∀ x c,X.env.cells.lookup x=some c→c≠a)(hp:∀ p∈X.pn++pins,p.1≠a)
  (ho:ObjOk X.prog X.w (upd H a o) s.heap a o):Inv X pins σ (upd H a o) s:=by
 have nn:∀ {b:Addr} {u:HO},H b=some u→upd H a o b=some u:=fun {b u} e=>by rw[aA (bQ e hn)];exact e
 refine⟨I.ok,I.os,I.bare,⟨I.base.keep,I.base.slot,fun b ob e n hx=>?_,I.base.there,fun b xs e=>nn (I.base.tups b xs e),fun b o' u e=>nn (I.base.frzs b o' u e),fun b ps e=>?_⟩,I.loc,I.cell,?_,fun x c e=>?_,fun p h=>?_,fun b u e=>?_,I.len⟩
 ·rw[aA (by rintro rfl;rw[h0]at e;cases e)]
  exact I.base.free b ob e n hx
 ·obtain⟨more,q⟩:=I.base.tbls b ps e
  exact⟨more,nn q⟩
 ·rw[aA (Ne.symm hl)];exact I.free
 ·rw[aA (hc x c e)];exact I.freeC x c e
 ·obtain⟨a1,a2,a3⟩:=I.pin p h
  exact⟨a1,by rw[aA (hp p h)];exact a2,a3⟩
 ·by_cases q:b=a
  ·subst q
   rw[av]at e
   cases e
   exact ho
  ·rw[aA q]at e
   exact(I.hok b u e).stay (fun _ _ _ z=>z) (fun c z=>nn z) fun c xs z=>nn z
theorem qS {M:Model}{A:Around}{E:Value→Shared→Prop}{i:Nat}{n:Str}{v:V}{Q:Unit→Shared→Prop}(I:Inv X pins σ H s)(hN:X.N.Nodup)(hi:X.N[i]?=some n)(hk:X.env.kindOf n=some .local)(hs:X.env.scope.names.lookup n=some .local)(hv:σ[i]?=some (some v))
  (h:∀ s',Inv X pins (σ.set i none) H s'→Q () s'):wpAny M A (unbindName X.env n) Q E s:=by
 obtain⟨m,hn,hl⟩:=id I.loc
 have hcls:(X.env.scope.kind==.class||(X.env.scope.kind==.module&&X.env.locals != X.env.globals))=false:=by rw[I.ok.kind];rfl
 obtain⟨u,ru,lk⟩:=hl i n v hi hv (.inl hs)
 have hm:m n=some u:=by
  rcases lk with ⟨_,e⟩ | ⟨z,_⟩
  ·exact e
  ·rw[hk]at z;rcases z with z | z<;>cases z
 have cne:=I.cne
 have hiσ:i < σ.length:=(List.getElem?_eq_some_iff.mp hv).1
 refine wpAny_unbindName_local hk hn hm hcls fun h' u' hn' hs'=>?_
 obtain⟨oL,_,_,hoL,_⟩:=id hn
 have nl:∀ b o,X.s₀.heap.get? b=some o→b≠X.env.locals:=fun b o e=>Nat.ne_of_lt (Nat.lt_of_lt_of_le (Heap.lt_size e) I.ok.above)
 refine h _ ⟨I.ok,I.os,I.bare,⟨fun b o e nn hb hx=>(hs'.2 b (nl b o e)).trans (I.base.keep b o e nn hb hx),fun b o e nn hb hx=>?_,I.base.free,fun b o e hx=>?_,I.base.tups,I.base.frzs,I.base.tbls⟩,⟨_,hn',fun j y v' e1 e2 e3=>?_⟩,fun y c e=>?_,I.free,I.freeC,fun p hp=>?_,fun b ob e=>?_,by simpa using I.len⟩
 ·obtain⟨sl,e1⟩:=I.base.slot b o e nn hb hx
  exact⟨sl,(hs'.2 b (nl b o e)).trans e1⟩
 ·obtain⟨o',e1⟩:=I.base.there b o e hx
  exact⟨o',(hs'.2 b (nl b o e)).trans e1⟩
 ·have hj:j≠i:=fun q=>by
   subst q
   rw[List.getElem?_set_self hiσ]at e2
   cases e2
  rw[List.getElem?_set_ne (Ne.symm hj)]at e2
  obtain⟨u2,r2,q⟩:=hl j y v' e1 e2 e3
  refine⟨u2,r2,?_⟩
  rcases q with ⟨k,e⟩ | ⟨k,c,e,z⟩
  ·refine .inl ⟨k,?_⟩
   have:y≠n:=fun e=>hj (ja hN e1 (e ▸ hi))
   simp[this,e]
  ·exact .inr ⟨k,c,e,z.sameBut hs' (cne y c e)⟩
 ·obtain⟨w',z⟩:=I.cell y c e
  exact⟨w',z.sameBut hs' (cne y c e)⟩
 ·obtain⟨e,nn,ne,nf,d⟩:=I.pin p hp
  exact⟨(hs'.2 p.1 ne).trans e,nn,ne,nf,d⟩
 ·refine(I.hok b ob e).stay (fun c w' hc q=>(hs'.2 c ?_).trans q) (fun _ q=>q) fun _ _ q=>q
  rintro rfl
  rcases hc with z | z
  ·subst z;rw[I.free]at e;cases e
  ·rw[I.free]at z;cases z
end
structure Takes (K:PySem.W.Frag)(C:Nat→Addr)(C0:Addr)(q:Nat→Bool):Prop where
 exc:PySem.W.excIn K C0 bmVE "ValueError.__new__"=true
 sub:∀ k,q k=true→PySem.W.subIn K (.ref (C k)) (.ref C0)=some true
theorem mw {K:PySem.W.Frag}{C:Nat→Addr}{C0:Addr}{q:Nat→Bool}(T:Takes K C C0 q){M:Model}{A:Around}{E:Value→Shared→Prop}{h:Heap}{g:Array GenState}{d:Drawn}{t:Nat}{os:OsState}{e:Addr}{oe:Obj}{k:Nat}{Q:Bool→Shared→Prop}
  (X:K.In h) (he:h.get? e=some oe) (hc:oe.cls=.ref (C k)) (hk:q k=true) (hq:Q true ⟨h,g,d,t,os⟩):wpAny M A (excMatches (.ref e) (.ref C0)) Q E ⟨h,g,d,t,os⟩:=by
 obtain⟨bm,N,nm,qn,bs,hdct,sn,sub,ab,col,dd,k0,k1,k2,k3,k5,mN,hC,hN,hni,TL⟩:=pE X T.exc
 have hcB:(Value.ref C0::bm).contains (.type "BaseException")=true:=by rw[List.contains_cons,TL.hasType (show bmVE.contains (.type "BaseException")=true by decide),Bool.or_true]
 have L3:=PySem.W.looks_subIn (M:=M) X (T.sub k hk)
 have f:=tc_notTuple
 unfold excMatches
 repeat (first | (with_reducible refine wpAny_loadPart_at he ?_;rw[hc]) | with_reducible refine wpAny_loadPart_at hC ?_ | (with_reducible refine wpAny_isSubtype_exc hC ?_;rw[hcB]) | (with_reducible refine L3.at ?_) | wp_step)
 exact hq
def blankS (S:SS):SS:=List.replicate S.length none
abbrev tryX (X:Cx)(pn:List (Addr×Obj))(xe:Value→Shared→Prop):Cx:={ X with A:=X.A,calm:=X.calm,pn:=pn,xe:=xe }
def bothH (F:Fx)(Z:Hp):Hp:=fun b=>match F.H0 b with
 | some o=>some o
 | none=>Z b
section
variable {F:Fx}{H Z:Hp}{S:SS}{σ:St}
theorem both1:Same F.H0 (bothH F Z):=fun b o e=>by unfold bothH;rw[e]
theorem both2 (ok:StOk F H Z S σ):Same (bothH F Z) H:=fun b o e=>by
 unfold bothH at e
 split at e
 ·rename_i o' q
  cases e
  exact ok.ex.same b _ q
 ·exact ok.sub b o e
theorem both3 (ok:StOk F H Z S σ):Same Z (bothH F Z):=fun b o e=>by
 unfold bothH
 split
 ·rename_i o' q
  have h1:=ok.ex.same b _ q
  have h2:=ok.sub b _ e
  rw[h1]at h2
  exact h2
 ·exact e
theorem pF (ok:StOk F H Z S σ){H' Z':Hp}(x:Ex (bothH F Z) Z H' Z'):Ex F.H0 F.Z0 H' Z':=by
 refine⟨both1.trans x.same,ok.ex.z.trans x.z,x.sub,fun b h=>?_⟩
 rcases x.new b h with z | z
 ·exact ok.ex.new b z
 ·exact .inr (both1.free z)
theorem vy (ok:StOk F H Z S σ){E:XK}{H' Z':Hp}{S':SS}{σ':St}(h:StOk ⟨F.K,F.C,bothH F Z,Z,E⟩ H' Z' S' σ'):StOk F H' Z' S' σ' :=
 ⟨pF ok h.ex,h.len,fun i x e=>by
  obtain⟨v,A,e1,o,p⟩:=h.sl i x e
  exact⟨v,A,e1,ow_K o,p.nd,p.z,fun a ha=>both1.free (p.h0 a ha)⟩,fun i j x y v w A B hij e1 e2 e3 e4 o1 o2=>h.dj i j x y v w A B hij e1 e2 e3 e4 (ow_K o1) (ow_K o2)⟩
theorem vz (ok:StOk F H Z S σ){E:XK}:StOk ⟨F.K,F.C,bothH F Z,Z,E⟩ H Z S σ :=
 ⟨⟨both2 ok,Same.refl _,ok.sub,fun b h=>.inl h⟩,ok.len,fun i x e=>by
  obtain⟨v,A,e1,o,p⟩:=ok.sl i x e
  refine⟨v,A,e1,ow_K o,p.nd,p.z,fun a ha=>?_⟩
  show bothH F Z a=none
  unfold bothH
  rw[p.h0 a ha]
  exact p.z a ha,fun i j x y v w A B hij e1 e2 e3 e4 o1 o2=>ok.dj i j x y v w A B hij e1 e2 e3 e4 (ow_K o1) (ow_K o2)⟩
theorem qT (ok:StOk F H Z S σ){H':Hp}{j k:Nat}{ea:Addr}{σ':St}(hs:Same (bothH F Z) H')(hn:H' ea=none)(hl:S.length=σ'.length)(hv:j < σ'.length→σ'[j]?=some (some (.ref ea))) :
  ∃ Z',Same Z Z'∧StOk F (upd H' ea (excO F.C k ea)) Z' ((blankS S).set j (some (.val (.exc k)))) σ':=by
 have zn:Z ea=none:=(both3 ok).free (hs.free hn)
 have fn:F.H0 ea=none:=both1.free (hs.free hn)
 have one:∀ {i:Nat} {x:Sl},((blankS S).set j (some (.val (.exc k))))[i]?=some (some x)→i=j∧x=.val (.exc k)∧j < S.length:=fun {i x} e=>by
  have hlen:(blankS S).length=S.length:=by unfold blankS;simp
  by_cases q:j=i
  ·subst q
   by_cases hj:j < S.length
   ·rw[List.getElem?_set_self (by rw[hlen];exact hj)]at e
    cases e
    exact⟨rfl,rfl,hj⟩
   ·rw[List.getElem?_eq_none (by simpa [hlen] using hj)]at e;cases e
  ·rw[List.getElem?_set_ne q]at e
   unfold blankS at e
   rw[List.getElem?_replicate]at e
   split at e<;>cases e
 refine⟨upd Z ea (excO F.C k ea),aJ zn,⟨⟨(both1.trans hs).trans (aJ hn),ok.ex.z.trans (aJ zn),fun b o e=>?_,fun b h=>?_⟩,by simp[blankS,hl],fun i x e=>?_,fun i1 i2 x y v w A B _ e1 _ _ _ o1 _=>?_⟩⟩
 ·by_cases q:b=ea
  ·subst q;rw[av]at e ⊢;exact e
  ·rw[aA q]at e ⊢;exact hs b o (both3 ok b o e)
 ·by_cases q:b=ea
  ·subst q;exact .inr fn
  ·rw[aA q]at h;exact ok.ex.new b h
 ·obtain⟨rfl,e2,hj⟩:=one e
  cases e2
  exact⟨.ref ea,[],hv (by rw[← hl];exact hj),⟨rfl,by rw[Rep];exact⟨ea,rfl,av⟩⟩,Priv.nil⟩
 ·obtain⟨_,e2,_⟩:=one e1
  cases e2
  rw[o1.1];exact fun a ha=>nomatch ha
end
section
variable {X:Cx}{F:Fx}{body:List Stmt}{g:SS→O}{c n y:Str}{np np2 kp apos hpos pos:Pos}{k:Nat}{q:Nat→Bool}{C0:Addr}
end
def eNeg (g:SS→R D):SS→R D:=fun S=>(g S).bind fun d=>match d with
 | .int i=>.ok (.int (-i))
 | _=>.stuck
section
variable {X:Cx}{F:Fx}{a:Expr}{g:SS→R D}{pos:Pos}{x:Str}{i:Int}
theorem xz (h:FE X F a g):FE X F (.UnaryOp .USub a pos) (eNeg g):=(xZ xb h).weak fun σ H Q ⟨Z,S,ok,w⟩=>aH ok w fun d v H1 Z1 ok1 x1 rv w1=>by
 cases d with
 | int i=>rw[Rep]at rv;exact⟨i,rv,WG.now w1 ok1.sub _ aO⟩
 | _=>exact w1.elim
theorem pG (h:∃ t,X.mg x=some (.int i t))(hg:Gl X x)(hd:(x==("__debug__":Str))=false:=by decide):FE X F (.Name x pos) (eC (.int i)):=by
 obtain⟨t,e⟩:=h
 exact dP (bo (v:=.int i) hg e ⟨t,rfl⟩ hd) fun _=>aO
end
section
variable {X:Cx}{F:Fx}{e:Expr}{es:List Expr}{g:SS→R D}{gs:SS→R (List D)}
end
end FF
end
noncomputable section
namespace FF
open PySem L2
def tupI (l:List Int):D:=.tup (l.map .int)
def dSw (d:D)(lo hi:Option Int):R D:=match d with
 | .lst xs=>.ok (.lst (cutD xs lo hi))
 | .tup xs=>.ok (.tup (cutD xs lo hi))
 | _=>.stuck
def eSw (g:SS→R D)(l h:SS→R (Option Int)):SS→R D:=fun S=>(g S).bind fun d=>(l S).bind fun lo=>(h S).bind fun hi=>dSw d lo hi
def intsOf:List D→Option (List Int)
 | []=>some []
 | .int i::r=>(intsOf r).map (i::·)
 | _::_=>none
def sumI (is:List Int):Int:=is.foldl (· + ·) 0
def dSum:List D→R D
 | [.lst xs]=>match intsOf xs with
  | some is=>.ok (.int (sumI is))
  | none=>.stuck
 | [.tup xs]=>match intsOf xs with
  | some is=>.ok (.int (sumI is))
  | none=>.stuck
 | _=>.stuck
def setAll:List Nat→List D→SS→SS
 | i::r,d::ds,S=>setAll r ds (S.set i (some (.val d)))
 | _,_,S=>S
def gTup (ix:List Nat):D→SS→R SS:=fun d S=>match d with
 | .tup ds=>if ds.length=ix.length then .ok (setAll ix ds S) else .stuck
 | _=>.stuck
def sAsg (g:D→SS→R SS)(e:SS→R D):SS→O:=fun S=>rO ((e S).bind fun d=>(g d S).bind fun S1=>.ok (.nx S1))
end FF
end
noncomputable section
namespace FF
open PySem PySem.Spec PyProof.Rows L2
def TupK (K:PySem.W.Frag)(a:Addr)(l:List Int):Prop :=
 ∃ (o:Obj) (its:Array Value) (n:Nat),K.lookup a=some o∧o.cls=.type "tuple" ∧ o.dict=none∧o.data=.seq its n∧its.size≤sizeLine∧Vals (l.map V.int) its.toList
theorem kK {K:PySem.W.Frag}{C:Nat→Addr}{Z:Hp}:∀ ns:List Int,Reps K C Z (ns.map .int) (ns.map V.int)
 | []=>by rw[List.map_nil,List.map_nil,Reps]
 | i::ns=>by rw[List.map_cons,List.map_cons,Reps];exact⟨_,_,rfl,aO,kK ns⟩
theorem fY {X:Cx}{F:Fx}{x:Str}{pos:Pos}{l:List Int}(h:∃ a,X.mg x=some (.ref a)∧TupK F.K a l)(hg:Gl X x)(hd:(x==("__debug__":Str))=false:=by decide):FE X F (.Name x pos) (eC (tupI l)):=by
 obtain⟨a,e,o,its,n,h1,h2,h2d,h3,h4,h5⟩:=h
 exact dP (bo (v:=.ref a) hg e rfl hd) fun Z=>by
  unfold tupI
  rw[Rep]
  exact⟨a,_,rfl,.inr ⟨o,its,n,h1,h2,h2d,h3,h4,h5⟩,kK l⟩
theorem dU {K:PySem.W.Frag}{C:Nat→Addr}{Z:Hp}:∀ {ds:List D} {vs:List V} {is:List Int},Reps K C Z ds vs→intsOf ds=some is→vs=is.map V.int
 | [],vs,is,r,e=>by rw[Reps]at r;cases e;exact r
 | d::ds,vs,is,r,e=>by
  rw[Reps]at r
  obtain⟨v,r',rfl,h1,h2⟩:=r
  cases d with
  | int i =>
   rw[intsOf]at e
   cases q:intsOf ds with
   | none=>rw[q]at e;cases e
   | some is' =>
    rw[q]at e
    cases e
    rw[Rep]at h1
    rw[h1,dU h2 q]
    rfl
  | _=>simp[intsOf]at e
theorem b6:∀ {is:List Int} {us:List Value},Vals (is.map V.int) us→∃ ps:List (Int×Tok),us=ps.map (fun p=>Value.int p.1 p.2)∧ps.map (·.1)=is
 | [],us,h=>by rw[List.map_nil]at h;cases h;exact⟨[],rfl,rfl⟩
 | i::is,us,h=>by
  rw[List.map_cons]at h
  cases h with
  | cons r t =>
   obtain⟨tk,e⟩:=(show ∃ t,_=Value.int i t from r)
   obtain⟨ps,e2,e3⟩:=b6 t
   exact⟨(i,tk)::ps,by rw[e,e2];rfl,by rw[← e3];rfl⟩
section
variable {X:Cx}
end
section
variable {X:Cx}{F:Fx}{p pos:Pos}{e:Expr}{gs:SS→R (List D)}{k:Nat}
end
theorem kL {X:Cx}{pins:List (Addr×Obj)}{σ:St}{H:Hp}{s:Shared}(I:Inv X pins σ H s){A:Around}(hu:A.units < cLine)(b k:Int)(t t':Tok):SeqAt.EqAt A s (.int b t) (.int k t') (b==k) :=
 fu (K:=X.K) (C:=fun _=>0) (Z:=fun _=>none) rfl I (fun _ _ e=>nomatch e) 0 A (.int b) (.int k) (.int b) (.int k) _ _ rfl rfl aO aO ⟨t,rfl⟩ ⟨t',rfl⟩ (by omega)
def isI (k:Int):Value→Bool
 | .int b _=>b==k
 | _=>false
section
variable {X:Cx}{F:Fx}{o e:Expr}{g:SS→R D}{gs:SS→R (List D)}{apos cpos:Pos}{k:Nat}
theorem pH {K:PySem.W.Frag}{C:Nat→Addr}{Z:Hp}{k:Int}{vs:List V}(r:Reps K C Z [.int k] vs):vs=[.int k]:=by
 obtain⟨v,rfl,h⟩:=bL r
 rw[Rep]at h
 rw[h]
end
end FF
namespace HT
open PySem PyProof.Rows
theorem fq {prog:Program}{w:World}{A:Around}{E:Value→Shared→Prop}{s:Shared}{t sl:Addr}{items:Array Value}{vl vu:Value}{lo hi:Option Int}{Q:Value→Shared→Prop}(ht:IsTup s.heap t items)(hs:s.heap.IsSliceOf sl vl vu .none)(pl:IsPart vl lo)(pu:IsPart vu hi)
  (hw:sIx items.size 0 lo=0∧sIx items.size items.size hi=items.size) (h:Q (.ref t) s):wpAny (model prog w) A (getItem (.ref t) (.ref sl)) Q E s:=by
 obtain⟨os,hos,hcs,hds⟩:=id hs
 have hTs:s.TypeIs (.ref sl) "slice" := ⟨os,hos,hcs⟩
 unfold getItem
 try with_reducible refine wpAny_holding ?_
 first | refine wpAny_bind (wpAny_pure ?_) | skip
 refine wpAny_bind (wpAny_sequenceKey ht.typeIs (by decide) ?_)
 refine wpAny_bind (wpAny_callSpecial?_slot (name:=Str.ofString "__getitem__") ht.typeIs PyProof.Rows.slot_tuple_getitem
  (wpAny_call_entry PyProof.Rows.slot_tuple_getitem ht.typeIs entry_tuple_getitem ?_ (args_tuple_getitem _ _)))
 show wpAny _ _ (Builtin.Tuple.tupleItemsOf (.ref t) >>= _) _ _ s
 refine wpAny_bind (tupleItemsOf_ ht ?_)
 refine wpAny_bind (wpAny_typeOf hTs ?_)
 rw[if_pos (by decide)]
 refine wpAny_bind (dA hs pl pu ?_)
 rw[hw.1,hw.2]
 show wpAny _ _ (if (((0:Nat):Int)==0&&(1:Int)==1&&(items.size - 0)==items.size)=true then _ else _) _ _ s
 rw[if_pos (by simp)]
 unfold Builtin.Tuple.tupleIsExact
 refine wpAny_bind (wpAny_bind (wpAny_typeOf ht.typeIs (wpAny_pure ?_)))
 rw[if_pos (by decide)]
 exact wpAny_bind (wpAny_rule (wpAny_pure ⟨_,rfl,wpAny_pure h⟩))
end HT
namespace FF
open PySem PySem.Spec PyProof.Rows L2
def rSlW (K:PySem.W.Frag):V→Option Int→Option Int→Hp→VK→Prop:=fun x lo hi H Q=>∃ a xs,x=.ref a∧SqT K H a xs∧(HT.sIx xs.length 0 lo=0∧HT.sIx xs.length xs.length hi=xs.length)∧Q (.ref a) H
theorem vA {X:Cx}:SlR X (rSlW X.K):=by
 intro pins s σ H x v vl vu lo hi sl Q I rx hs pl pu h
 obtain⟨a,xs,rfl,hx,hw,q⟩:=h
 cases rx
 obtain⟨its,r,ht,hz⟩:=I.tuple hx
 have hlen:its.toArray.size=xs.length:=by rw[List.size_toArray];exact r.length.symm
 refine⟨"tuple",_,PyProof.Rows.slot_tuple_getitem.lookup,ht.typeIs,?_⟩
 refine HT.fq ht hs pl pu (by rw[hlen];exact hw) ?_
 exact⟨.ref a,H,I,rfl,q⟩
theorem qU {xs:List D}{lo hi:Option Int}(h:HT.sIx xs.length 0 lo=0∧HT.sIx xs.length xs.length hi=xs.length):cutD xs lo hi=xs:=by
 unfold cutD
 rw[h.1,h.2,List.drop_zero,Nat.sub_zero,List.take_length]
section
variable {X:Cx}{F:Fx}{e:Expr}{lo hi:Option Expr}{g:SS→R D}{l h:SS→R (Option Int)}{pos p2:Pos}
theorem fv (hK:X.K=F.K)(he:FE X F e g)(hl:PO X lo (tP F l))(hh:PO X hi (tP F h)):FE X F (.Subscript e (.Slice lo hi none p2) pos) (eSw g l h) :=
 (sK (va.or (xh.or vA)) he hl hh).weak fun σ H Q ⟨Z,S,ok,w⟩=>aH ok w fun d v H1 Z1 ok1 x1 rv w1=>pB ok1 w1 fun o H2 Z2 ok2 x2 w2=>pB ok2 w2 fun o' H3 Z3 ok3 x3 w3=>by
  have rv3:=rv.mono (x2.z.trans x3.z)
  cases d with
  | lst ds =>
   rw[Rep]at rv3
   obtain⟨a,vs,rfl,h1,h2⟩:=rv3
   refine .inl ⟨a,vs,rfl,by rw[hK];exact ok3.sub.seq h1,fun p hp=>?_⟩
   have z:Same Z3 (upd Z3 p (.lst (cutV vs o o'))):=aJ (ok3.sub.free hp)
   exact w3 _ _ (Ex.alloc ok3.sub hp) _ (by rw[Rep];exact⟨p,_,rfl,SqL.of av,(h2.cut o o').mono z⟩)
  | tup ds =>
   have rv4:=rv3
   rw[Rep]at rv3
   obtain⟨a,vs,rfl,h1,h2⟩:=rv3
   have w4:WG F H3 Z3 (R.ok (FF.D.tup (cutD ds o o'))) _:=w3
   by_cases hw:HT.sIx ds.length 0 o=0∧HT.sIx ds.length ds.length o'=ds.length
   ·refine .inr (.inr ⟨a,vs,rfl,by rw[hK];exact h1.mono ok3.sub,by rw[← h2.length];exact hw,?_⟩)
    rw[qU hw]at w4
    exact WG.now w4 ok3.sub _ rv4
   ·refine .inr (.inl ⟨a,vs,rfl,by rw[hK];exact h1.mono ok3.sub,by rw[← h2.length];exact hw,fun p hp=>?_⟩)
    have z:Same Z3 (upd Z3 p (.tup (cutV vs o o'))):=aJ (ok3.sub.free hp)
    exact w4 _ _ (Ex.alloc ok3.sub hp) _ (by rw[Rep];exact⟨p,_,rfl,SqT.of av,(h2.cut o o').mono z⟩)
  | _=>exact w3.elim
end
theorem R.bind_assoc {α β γ:Type}(r:R α)(f:α→R β)(g:β→R γ):(r.bind f).bind g=r.bind fun x=>(f x).bind g:=by cases r<;>rfl
end FF
end
noncomputable section
namespace FF
open PySem L2
def sameK:D→D→Bool
 | .tup _,.tup _=>true
 | .int _,.int _=>true
 | _,_=>false
def dInI (x y:D):R D:=match x,y with
 | .int i,.tup ds=>match intsOf ds with
  | some is=>.ok (.bl (is.any (· == i)))
  | none=>.stuck
 | _,_=>.stuck
def dIndexI (xs es:List D):R D:=match es with
 | [.int k]=>match intsOf xs with
  | some is=>if is.idxOf k < is.length then .ok (.int (is.idxOf k:Nat)) else .stuck
  | none=>.stuck
 | _=>.stuck
def eMethT (f:List D→List D→R D)(g:SS→R D)(gs:SS→R (List D)):SS→R D:=fun S=>(g S).bind fun d=>match d with
 | .tup xs=>(gs S).bind fun es=>f xs es
 | _=>.stuck
def eOwnIx (i:Nat)(g:SS→R D):SS→R D:=fun S=>match S[i]? with
 | some (some (.own ds))=>(g S).bind fun k=>match k with
  | .int j=>match atI ds j with
   | some d=>.ok d
   | none=>.stuck
  | _=>.stuck
 | _=>.stuck
end FF
end
noncomputable section
namespace PySem.SeqAt
open AutoSeq1 (wpAny_loadPart')
open MeetsSeq MeetsSeq2 MeetsSeq3 SeqRoads2
theorem tuple_indexAt (l:Addr)(items:Array Value)(n:Nat)(dd:Option Addr)(sl:Array (Option Value))(x:Value)(e:Value→Bool)(j:Nat)(hj:j < items.size)
  (hit:e items[j]=true) (hno:∀ m (hm:m < items.size),m < j→e items[m]=false) :
  Meets (Builtin.«tuple.index» ⟨[.ref l,x],[]⟩)
   (fun A R s=>s.heap.get? l=some { cls:=.type "tuple",dict:=dd,data:=.seq items n,slots:=sl }∧(∀ y,y∈items→EqAt A.in1 s y x (e y))∧R (.ok (.ret (.int (j:Nat) s.toks))) { s with toks:=s.toks+1 }) :=
 .of_wp fun prog w A R s h=>by
  obtain⟨hp,g,d,tk,os⟩:=s;obtain⟨hl,he,h⟩:=h
  wp_walk using wpAny_loadPart' hl
  have key:∀ (k i:Nat) (Q:Option Fin×Unit→Shared→Prop) (E:Value→Shared→Prop),k=items.size - i→i≤j→Q (some (.done (.ret (.int (j:Nat) tk))),()) ⟨hp,g,d,tk+1,os⟩ →
    wpAny (model prog w) A.in1 (forIn (List.range' i k) (none,()) fun (i:Nat) (_:Option Fin×Unit)=>(match items[i]? with
     | some y=>do
      let b ← eqBool y x
      if b=true then do
       let r ← retInt (i:Int)
       pure (ForInStep.done (some r,()))
      else pure (ForInStep.yield (none,()))
     | _=>pure (ForInStep.yield (none,())):Sem (ForInStep (Option Fin×Unit)))) Q E ⟨hp,g,d,tk,os⟩:=fun k=>by
   induction k with
   | zero=>intro i Q E hk hi hq;omega
   | succ k ih =>
    intro i Q E hk hi hq
    have hlt:i < items.size:=by omega
    have hx:items[i]?=some items[i]:=by simp[hlt]
    rw[List.range'_succ,List.forIn_cons,hx]
    refine wpAny_bind (wpAny_bind (he items[i] (by simp) prog w _ _ ?_))
    cases hy:e items[i] with
    | true =>
     have hij:i=j:=by
      rcases Nat.lt_or_ge i j with h1 | h1
      ·rw[hno i hlt h1]at hy;cases hy
      ·omega
     subst hij
     rw[if_pos rfl]
     unfold retInt
     wp_walk
     exact hq
    | false =>
     rw[if_neg (by decide)]
     have hne:i≠j:=fun q=>by subst q;rw[hit]at hy;cases hy
     refine wpAny_pure ?_
     exact ih (i+1) Q E (by omega) (by omega) hq
  show wpAny (model prog w) A.in1 (forIn ([:min items.size items.size]:Std.Legacy.Range) (none,()) fun (i:Nat) (_:Option Fin×Unit)=>(match items[i]? with
     | some y=>do
      let b ← eqBool y x
      if b=true then do
       let r ← retInt (i:Int)
       pure (ForInStep.done (some r,()))
      else pure (ForInStep.yield (none,()))
     | _=>pure (ForInStep.yield (none,())):Sem (ForInStep (Option Fin×Unit)))) _ _ _
  rw[Std.Legacy.Range.forIn_eq_forIn_range']
  simp only[Std.Legacy.Range.size,Nat.sub_zero,Nat.add_sub_cancel,Nat.div_one,Nat.min_self]
  refine key _ 0 _ _ rfl (Nat.zero_le _) ?_
  wp_walk
  exact⟨_,rfl,h⟩
end PySem.SeqAt
namespace FF
open PySem PySem.Spec PyProof.Rows L2
section
variable {X:Cx}{F:Fx}{a b:Expr}{ga gb:SS→R D}{pos:Pos}{k:Nat}
end
theorem iA:∀ l:List Int,intsOf (l.map FF.D.int)=some l
 | []=>rfl
 | i::l=>by rw[List.map_cons,intsOf,iA l];rfl
section
variable {X:Cx}{F:Fx}{a b:Expr}{ga gb:SS→R D}{pos:Pos}{k:Nat}
end
def rIndexT (K:PySem.W.Frag):V→List V→Hp→VK→Prop:=fun x vs H Q=>∃ (l:Addr) (is:List Int) (k:Int),x=.ref l∧vs=[.int k]∧SqT K H l (is.map V.int)∧is.idxOf k < is.length∧Q (.int (is.idxOf k:Nat)) H
theorem qV {X:Cx}{k:Nat}(hr:Room k X.A):MtR X "tuple.index" (rIndexT X.K):=by
 intro pins s σ H x vs v us Q I rx rv h
 obtain⟨l,is,k,rfl,rfl,hH,hj,q⟩:=h
 cases rx
 obtain⟨u,rfl,ru⟩:=rv.one
 obtain⟨tk,rfl⟩:=(show ∃ t,u=Value.int k t from ru)
 obtain⟨its,r,ht,hz⟩:=I.tuple hH
 obtain⟨ps,rfl,e⟩:=b6 r
 have hT:s.TypeIs (.ref l) "tuple" := ht.typeIs
 obtain⟨⟨c2,d2,dt2,sl2⟩,e2,p2,n2,p3⟩:=ht
 simp only at p2 p3
 subst p2 p3
 have hl:ps.length=is.length:=by have:=congrArg List.length e;simpa using this
 have hsz:is.idxOf k < (ps.map fun p=>Value.int p.1 p.2).toArray.size:=by rw[List.size_toArray,List.length_map,hl];exact hj
 have hat:∀ m (hm:m < (ps.map fun p=>Value.int p.1 p.2).toArray.size) (hm':m < is.length),isI k (ps.map fun p=>Value.int p.1 p.2).toArray[m]=(is[m]==k):=fun m hm hm'=>by
  subst e
  simp[isI]
 refine call_meets F.slot_tuple_index hT F.entry_tuple_index (F.args_tuple_index_2 _ _) (SeqAt.tuple_indexAt l _ n2 _ _ (.int k tk) (isI k) (is.idxOf k) hsz ?_ ?_) ⟨e2,fun y hy=>?_,⟨.int _,H,I.tok _,⟨_,rfl⟩,q⟩⟩
 ·rw[hat _ _ hj]
  exact List.findIdx_getElem (w:=hj)
 ·intro m hm hlt
  have hm':m < is.length:=by omega
  rw[hat _ _ hm']
  exact Bool.eq_false_iff.mpr (by simpa using List.not_of_lt_findIdx hlt)
 ·have hy':y∈ps.map fun p=>Value.int p.1 p.2:=by simpa using hy
  obtain⟨b,_,rfl⟩:=List.mem_map.mp hy'
  exact kL I (by have:=hr.un;show X.A.units+1 < cLine;omega) b.1 k b.2 tk
section
variable {X:Cx}{F:Fx}{o e:Expr}{g:SS→R D}{gs:SS→R (List D)}{apos cpos:Pos}{k:Nat}
theorem qW {l:List Int}{p:Pos}{x:Str}(bx:BX X F k)(h:∃ a,X.mg x=some (.ref a)∧TupK F.K a l)(hg:Gl X x)(ha:FA X F [e] gs)(hd:(x==("__debug__":Str))=false:=by decide)
  (hbase:attributeBase (.Name x p) "index" X.env (eval (.Name x p) X.env)=eval (.Name x p) X.env:=by rfl)
  (hfew:((backTo cpos (starEach [e] X.env)).all (fun x=>!x.1)&&(backToKw cpos (keywordEach [] X.env)).all (fun x=>x.1.isSome)
   && decide ([e].length+([]:List Keyword).length+(if ([]:List Keyword).isEmpty then 0 else 1) < 30))=true:=by rfl)
  (hline:(apos.endLine==cpos.line)=true:=by rfl) (hs:starEach [e] X.env=(false,eval e X.env)::starEach [] X.env:=by rfl) (hplain:(backTo cpos (starEach [] X.env)).any (·.1)=false:=by rfl) :
  FE X F (.Call (.Attribute (.Name x p) "index" apos) [e] [] cpos) (eMethT dIndexI (eC (tupI l)) gs):=by
 obtain⟨a,em,o,its,n,h1,h2,h2d,h3,h4,h5⟩:=h
 refine(jd PySem.F.plainAttrs_tuple PySem.F.slot_tuple_index PySem.F.type_tuple_index (qV bx.room) (bo (v:=.ref a) hg em rfl hd) ha hbase hfew hline hs hplain).weak fun σ H Q ⟨Z,S,ok,w⟩=>?_
 have w0:WG F H Z ((gs S).bind fun es=>dIndexI (l.map .int) es) fun d H' Z'=>∀ v,Rep F.K F.C Z' d v→Q v H':=w
 have sq:∀ H:Hp,SqT F.K H a (l.map V.int):=fun H=>.inr ⟨o,its,n,h1,h2,h2d,h3,h4,h5⟩
 refine⟨.inr (.inl ⟨rfl,o,by rw[bx.K];exact h1,h2,h2d⟩),aZ ok w0 fun es us H1 Z1 ok1 x1 rs w1=>?_⟩
 rw[bx.K]
 unfold dIndexI at w1
 split at w1
 ·rename_i kk
  split at w1
  ·rename_i is eb
   rw[iA l]at eb
   cases eb
   split at w1
   ·rename_i hl
    exact⟨a,l,kk,rfl,pH rs,sq H1,hl,WG.now w1 ok1.sub _ aO⟩
   ·exact w1.elim
  ·exact w1.elim
 ·exact w1.elim
end
section
variable {X:Cx}{F:Fx}{pos p:Pos}{k:Nat}{gs:SS→R (List D)}{g ge:SS→R D}{e ei:Expr}{x:Str}
theorem tJ (i:Nat){p0:Pos}(hK:X.K=F.K)(he:FE X F e g)(hs:PlainIx e:=by intro _ _;rfl)(hi:X.N[i]?=some x:=by rfl)(hv:Vis X.env.scope x:=by first | exact Or.inl rfl | exact Or.inr (Or.inl rfl) | exact Or.inr (Or.inr rfl))(hd:(x==("__debug__":Str))=false:=by decide)
  (hcd:(x==("__classdict__":Str))=false:=by decide):FE X F (.Subscript (.Name x p0) e pos) (eOwnIx i g) :=
 (wy pj (cO hi hv hd hcd) he hs).weak fun σ H Q ⟨Z,S,ok,w⟩=>by
  unfold eOwnIx at w
  split at w
  ·rename_i ds e0
   obtain⟨a,vs,e1,e2,e3,e4,r⟩:=ok.own i ds e0
   refine⟨.ref a,e1,aH ok w fun d v H1 Z1 ok1 x1 rv w1=>?_⟩
   cases d with
   | int j =>
    rw[Rep]at rv
    have w2:WG F H1 Z1 (match atI ds j with | some d=>R.ok d | none=>R.stuck) _:=w1
    cases q:atI ds j with
    | none=>rw[q]at w2;exact w2.elim
    | some d =>
     rw[q]at w2
     obtain⟨v',f1,f2⟩:=(r.mono x1.z).at q
     exact⟨a,vs,j,v',rfl,rv,SqL.of (x1.same _ _ e2),f1,WG.now w2 ok1.sub _ f2⟩
   | _=>exact w1.elim
  ·exact w.elim
end
def dNf (x y:D):R D:=if good 60 x=true∧good 60 y=true then .ok (.bl (!eqD x y)) else .stuck
theorem vB {X:Cx}{pins:List (Addr×Obj)}{σ:St}{H Z:Hp}{s:Shared}{K:PySem.W.Frag}{C:Nat→Addr}(hK:X.K=K)(I:Inv X pins σ H s)(z:Same Z H)(n:Nat)(A:Around)(d e:D)(v u:V)(x y:Value)(g1:good n d=true)(g2:good n e=true)
  (h:Rep K C Z d v) (h':Rep K C Z e u) (rx:RelV v x) (ry:RelV u y) (hu:A.units+n < cLine):SeqAt.RcNeAt A s x y (!eqD d e):=by
 have hu0:A.units < cLine:=by omega
 cases d with
 | exc k=>cases n<;>simp[good]at g1
 | fn k=>cases n<;>simp[good]at g1
 | tab ks xs=>cases n<;>simp[good]at g1
 | dic ks xs=>cases n<;>simp[good]at g1
 | tup ds =>
  cases n with
  | zero=>simp[good]at g1
  | succ n =>
   have in1:A.in1.units+n < cLine:=by show A.units+1+n < cLine;omega
   rw[Rep]at h
   obtain⟨a,vs,rfl,h1,h2⟩:=h
   cases rx
   obtain⟨its,r,p,_⟩:=I.tuple (by rw[hK];exact h1.mono z:SqT X.K H a vs)
   have p':s.heap.IsTuple a its.toArray:=p
   cases e with
   | tup es =>
    rw[Rep]at h'
    obtain⟨b,us,rfl,k1,k2⟩:=h'
    cases ry
    obtain⟨its2,r2,p2,_⟩:=I.tuple (by rw[hK];exact k1.mono z:SqT X.K H b us)
    have p2':s.heap.IsTuple b its2.toArray:=p2
    rw[good]at g1 g2
    have q:=SeqAt.RcNeAt.tuples (A:=A) (e:=fun j=>eqD (ds.getD j .non) (es.getD j .non)) p' p2' hu0 fun j j1 j2=>by
     have j1':j < its.length:=by simpa using j1
     have j2':j < its2.length:=by simpa using j2
     have l1:j < ds.length:=by rw[h2.length,r.length];exact j1'
     have l2:j < es.length:=by rw[k2.length,r2.length];exact j2'
     have e1:ds[j]?=some ds[j]:=by simp
     have e2:es[j]?=some es[j]:=by simp
     obtain⟨w1,f1,f2⟩:=h2.get e1
     obtain⟨w2,f3,f4⟩:=k2.get e2
     obtain⟨z1,m1,m2⟩:=r.get f1
     obtain⟨z2,m3,m4⟩:=r2.get f3
     have n1:its.toArray[j]=z1:=by simpa [j1'] using m1
     have n2:its2.toArray[j]=z2:=by simpa [j2'] using m3
     rw[n1,n2]
     have g3:ds.getD j .non=ds[j]:=by simp[l1]
     have g4:es.getD j .non=es[j]:=by simp[l2]
     rw[g3,g4]
     exact fu hK I z n A.in1 _ _ w1 w2 z1 z2 (aT g1 e1) (aT g2 e2) f2 f4 m2 m4 in1
    rw[eqD,cR]
    have s1:its.toArray.size=ds.length:=by rw[List.size_toArray,h2.length,r.length]
    have s2:its2.toArray.size=es.length:=by rw[List.size_toArray,k2.length,r2.length]
    rw[s1,s2]at q
    exact q
   | lst es =>
    rw[Rep]at h'
    obtain⟨b,us,rfl,k1,k2⟩:=h'
    cases ry
    obtain⟨its2,r2,p2,_⟩:=I.list (by rw[hK];exact z.seq k1:SqL X.K H b us)
    simp only[eqD,Bool.not_false,Bool.not_true]
    exact SeqAt.RcNeAt.tuple_list p' p2.isList hu0
   | exc k=>simp[good]at g2
   | fn k=>simp[good]at g2
   | tab ks xs=>simp[good]at g2
   | dic ks xs=>simp[good]at g2
   | non=>rw[Rep]at h';subst h';cases ry;simp only[eqD,Bool.not_false,Bool.not_true];exact SeqAt.RcNeAt.tuple_none p' hu0
   | bl b=>rw[Rep]at h';subst h';cases ry;simp only[eqD,Bool.not_false,Bool.not_true];exact SeqAt.RcNeAt.tuple_bool _ p' hu0
   | int b=>rw[Rep]at h';subst h';obtain⟨t,rfl⟩:=ry;simp only[eqD,Bool.not_false,Bool.not_true];exact SeqAt.RcNeAt.tuple_int _ _ p' hu0
   | str b=>rw[Rep]at h';subst h';obtain⟨t,rfl⟩:=ry;simp only[eqD,Bool.not_false,Bool.not_true];exact SeqAt.RcNeAt.tuple_str _ _ p' hu0
 | lst ds =>
  cases n with
  | zero=>simp[good]at g1
  | succ n =>
   have in1:A.in1.units+n < cLine:=by show A.units+1+n < cLine;omega
   rw[Rep]at h
   obtain⟨a,vs,rfl,h1,h2⟩:=h
   cases rx
   obtain⟨its,r,p,_⟩:=I.list (by rw[hK];exact z.seq h1:SqL X.K H a vs)
   have p':=p.isList
   cases e with
   | lst es =>
    rw[Rep]at h'
    obtain⟨b,us,rfl,k1,k2⟩:=h'
    cases ry
    obtain⟨its2,r2,p2,_⟩:=I.list (by rw[hK];exact z.seq k1:SqL X.K H b us)
    have p2':=p2.isList
    rw[good]at g1 g2
    have s1:its.toArray.size=ds.length:=by rw[List.size_toArray,h2.length,r.length]
    have s2:its2.toArray.size=es.length:=by rw[List.size_toArray,k2.length,r2.length]
    rw[eqD,cR]
    by_cases hsz:ds.length=es.length
    ·have q:=SeqAt.RcNeAt.lists (A:=A) (e:=fun j=>eqD (ds.getD j .non) (es.getD j .non)) p' p2' (by rw[s1,s2];exact hsz) hu0 fun j j1 j2=>by
      have j1':j < its.length:=by simpa using j1
      have j2':j < its2.length:=by simpa using j2
      have l1:j < ds.length:=by rw[h2.length,r.length];exact j1'
      have l2:j < es.length:=by rw[k2.length,r2.length];exact j2'
      have e1:ds[j]?=some ds[j]:=by simp
      have e2:es[j]?=some es[j]:=by simp
      obtain⟨w1,f1,f2⟩:=h2.get e1
      obtain⟨w2,f3,f4⟩:=k2.get e2
      obtain⟨z1,m1,m2⟩:=r.get f1
      obtain⟨z2,m3,m4⟩:=r2.get f3
      have n1:its.toArray[j]=z1:=by simpa [j1'] using m1
      have n2:its2.toArray[j]=z2:=by simpa [j2'] using m3
      rw[n1,n2]
      have g3:ds.getD j .non=ds[j]:=by simp[l1]
      have g4:es.getD j .non=es[j]:=by simp[l2]
      rw[g3,g4]
      exact fu hK I z n A.in1 _ _ w1 w2 z1 z2 (aT g1 e1) (aT g2 e2) f2 f4 m2 m4 in1
     rw[s1]at q
     rw[hsz,Nat.min_self,beq_self_eq_true,Bool.and_true,← hsz]
     exact q
    ·have q:=SeqAt.RcNeAt.lists_lengths (A:=A) p' p2' (by rw[s1,s2];simpa using hsz) hu0
     rw[show (ds.length==es.length)=false by simpa using hsz,Bool.and_false]
     exact q
   | tup es =>
    rw[Rep]at h'
    obtain⟨b,us,rfl,k1,k2⟩:=h'
    cases ry
    obtain⟨its2,r2,p2,_⟩:=I.tuple (by rw[hK];exact k1.mono z:SqT X.K H b us)
    simp only[eqD,Bool.not_false,Bool.not_true]
    exact SeqAt.RcNeAt.list_tuple p' (show s.heap.IsTuple b its2.toArray from p2) hu0
   | exc k=>simp[good]at g2
   | fn k=>simp[good]at g2
   | tab ks xs=>simp[good]at g2
   | dic ks xs=>simp[good]at g2
   | non=>rw[Rep]at h';subst h';cases ry;simp only[eqD,Bool.not_false,Bool.not_true];exact SeqAt.RcNeAt.list_none p' hu0
   | bl b=>rw[Rep]at h';subst h';cases ry;simp only[eqD,Bool.not_false,Bool.not_true];exact SeqAt.RcNeAt.list_bool _ p' hu0
   | int b=>rw[Rep]at h';subst h';obtain⟨t,rfl⟩:=ry;simp only[eqD,Bool.not_false,Bool.not_true];exact SeqAt.RcNeAt.list_int _ _ p' hu0
   | str b=>rw[Rep]at h';subst h';obtain⟨t,rfl⟩:=ry;simp only[eqD,Bool.not_false,Bool.not_true];exact SeqAt.RcNeAt.list_str _ _ p' hu0
 | non =>
  rw[Rep]at h;subst h;cases rx
  cases e with
  | tup es =>
   rw[Rep]at h'
   obtain⟨b,us,rfl,k1,k2⟩:=h'
   cases ry
   obtain⟨its2,r2,p2,_⟩:=I.tuple (by rw[hK];exact k1.mono z:SqT X.K H b us)
   simp only[eqD,Bool.not_false,Bool.not_true];exact SeqAt.RcNeAt.none_tuple (show s.heap.IsTuple b its2.toArray from p2) hu0
  | lst es =>
   rw[Rep]at h'
   obtain⟨b,us,rfl,k1,k2⟩:=h'
   cases ry
   obtain⟨its2,r2,p2,_⟩:=I.list (by rw[hK];exact z.seq k1:SqL X.K H b us)
   simp only[eqD,Bool.not_false,Bool.not_true];exact SeqAt.RcNeAt.none_list p2.isList hu0
  | exc k=>cases n<;>simp[good]at g2
  | fn k=>cases n<;>simp[good]at g2
  | tab ks xs=>cases n<;>simp[good]at g2
  | dic ks xs=>cases n<;>simp[good]at g2
  | non=>rw[Rep]at h';subst h';cases ry;simp only[eqD,Bool.not_false,Bool.not_true];exact SeqAt.RcNeAt.none_none
  | bl b=>rw[Rep]at h';subst h';cases ry;simp only[eqD,Bool.not_false,Bool.not_true];exact SeqAt.RcNeAt.none_bool _
  | int b=>rw[Rep]at h';subst h';obtain⟨t,rfl⟩:=ry;simp only[eqD,Bool.not_false,Bool.not_true];exact SeqAt.RcNeAt.none_int _ _
  | str b=>rw[Rep]at h';subst h';obtain⟨t,rfl⟩:=ry;simp only[eqD,Bool.not_false,Bool.not_true];exact SeqAt.RcNeAt.none_str _ _
 | bl a =>
  rw[Rep]at h;subst h;cases rx
  cases e with
  | tup es =>
   rw[Rep]at h'
   obtain⟨b,us,rfl,k1,k2⟩:=h'
   cases ry
   obtain⟨its2,r2,p2,_⟩:=I.tuple (by rw[hK];exact k1.mono z:SqT X.K H b us)
   simp only[eqD,Bool.not_false,Bool.not_true];exact SeqAt.RcNeAt.bool_tuple _ (show s.heap.IsTuple b its2.toArray from p2) hu0
  | lst es =>
   rw[Rep]at h'
   obtain⟨b,us,rfl,k1,k2⟩:=h'
   cases ry
   obtain⟨its2,r2,p2,_⟩:=I.list (by rw[hK];exact z.seq k1:SqL X.K H b us)
   simp only[eqD,Bool.not_false,Bool.not_true];exact SeqAt.RcNeAt.bool_list _ p2.isList hu0
  | exc k=>cases n<;>simp[good]at g2
  | fn k=>cases n<;>simp[good]at g2
  | tab ks xs=>cases n<;>simp[good]at g2
  | dic ks xs=>cases n<;>simp[good]at g2
  | non=>rw[Rep]at h';subst h';cases ry;simp only[eqD,Bool.not_false,Bool.not_true];exact SeqAt.RcNeAt.bool_none _
  | bl b=>rw[Rep]at h';subst h';cases ry;simp only[eqD,Bool.not_false,Bool.not_true];exact SeqAt.RcNeAt.bool_bool _ _
  | int b=>rw[Rep]at h';subst h';obtain⟨t,rfl⟩:=ry;simp only[eqD,Bool.not_false,Bool.not_true];exact SeqAt.RcNeAt.bool_int _ _ _
  | str b=>rw[Rep]at h';subst h';obtain⟨t,rfl⟩:=ry;simp only[eqD,Bool.not_false,Bool.not_true];exact SeqAt.RcNeAt.bool_str _ _ _
 | int a =>
  rw[Rep]at h;subst h;obtain⟨t0,rfl⟩:=rx
  cases e with
  | tup es =>
   rw[Rep]at h'
   obtain⟨b,us,rfl,k1,k2⟩:=h'
   cases ry
   obtain⟨its2,r2,p2,_⟩:=I.tuple (by rw[hK];exact k1.mono z:SqT X.K H b us)
   simp only[eqD,Bool.not_false,Bool.not_true];exact SeqAt.RcNeAt.int_tuple _ _ (show s.heap.IsTuple b its2.toArray from p2) hu0
  | lst es =>
   rw[Rep]at h'
   obtain⟨b,us,rfl,k1,k2⟩:=h'
   cases ry
   obtain⟨its2,r2,p2,_⟩:=I.list (by rw[hK];exact z.seq k1:SqL X.K H b us)
   simp only[eqD,Bool.not_false,Bool.not_true];exact SeqAt.RcNeAt.int_list _ _ p2.isList hu0
  | exc k=>cases n<;>simp[good]at g2
  | fn k=>cases n<;>simp[good]at g2
  | tab ks xs=>cases n<;>simp[good]at g2
  | dic ks xs=>cases n<;>simp[good]at g2
  | non=>rw[Rep]at h';subst h';cases ry;simp only[eqD,Bool.not_false,Bool.not_true];exact SeqAt.RcNeAt.int_none _ _
  | bl b=>rw[Rep]at h';subst h';cases ry;simp only[eqD,Bool.not_false,Bool.not_true];exact SeqAt.RcNeAt.int_bool _ _ _
  | int b=>rw[Rep]at h';subst h';obtain⟨t,rfl⟩:=ry;simp only[eqD,Bool.not_false,Bool.not_true];exact SeqAt.RcNeAt.int_int _ _ _ _
  | str b=>rw[Rep]at h';subst h';obtain⟨t,rfl⟩:=ry;simp only[eqD,Bool.not_false,Bool.not_true];exact SeqAt.RcNeAt.int_str _ _ _ _
 | str a =>
  rw[Rep]at h;subst h;obtain⟨t0,rfl⟩:=rx
  cases e with
  | tup es =>
   rw[Rep]at h'
   obtain⟨b,us,rfl,k1,k2⟩:=h'
   cases ry
   obtain⟨its2,r2,p2,_⟩:=I.tuple (by rw[hK];exact k1.mono z:SqT X.K H b us)
   simp only[eqD,Bool.not_false,Bool.not_true];exact SeqAt.RcNeAt.str_tuple _ _ (show s.heap.IsTuple b its2.toArray from p2) hu0
  | lst es =>
   rw[Rep]at h'
   obtain⟨b,us,rfl,k1,k2⟩:=h'
   cases ry
   obtain⟨its2,r2,p2,_⟩:=I.list (by rw[hK];exact z.seq k1:SqL X.K H b us)
   simp only[eqD,Bool.not_false,Bool.not_true];exact SeqAt.RcNeAt.str_list _ _ p2.isList hu0
  | exc k=>cases n<;>simp[good]at g2
  | fn k=>cases n<;>simp[good]at g2
  | tab ks xs=>cases n<;>simp[good]at g2
  | dic ks xs=>cases n<;>simp[good]at g2
  | non=>rw[Rep]at h';subst h';cases ry;simp only[eqD,Bool.not_false,Bool.not_true];exact SeqAt.RcNeAt.str_none _ _
  | bl b=>rw[Rep]at h';subst h';cases ry;simp only[eqD,Bool.not_false,Bool.not_true];exact SeqAt.RcNeAt.str_bool _ _ _
  | int b=>rw[Rep]at h';subst h';obtain⟨t,rfl⟩:=ry;simp only[eqD,Bool.not_false,Bool.not_true];exact SeqAt.RcNeAt.str_int _ _ _ _
  | str b=>rw[Rep]at h';subst h';obtain⟨t,rfl⟩:=ry;simp only[eqD,Bool.not_false,Bool.not_true];exact SeqAt.RcNeAt.str_str _ _ _ _
def rNf (K:PySem.W.Frag)(C:Nat→Addr):R2:=fun x y H Q=>∃ Z d e,Same Z H∧Rep K C Z d x∧Rep K C Z e y∧good 60 d=true∧good 60 e=true∧Q (.bl (!eqD d e)) H
section
variable {X:Cx}{F:Fx}{a b:Expr}{ga gb:SS→R D}{pos:Pos}{k:Nat}
theorem yh (hK:X.K=F.K)(hr:Room k X.A):OpR X (compareOp .NotEq) (rNf F.K F.C):=by
 intro pins s σ H x y v u Q I rx ry h
 obtain⟨Z,d,e,z,h1,h2,g1,g2,q⟩:=h
 have hu:X.A.units+60 < cLine:=by have:=hr.un;omega
 exact vB hK I z 60 X.A d e x y v u g1 g2 h1 h2 rx ry hu X.prog X.w X.xe _ ⟨.bl (!eqD d e),H,I,rfl,q⟩
theorem xA:OpD F (rNf F.K F.C) dNf:=by
 intro H Z x y dx dy Q s rx ry w
 unfold dNf at w
 split at w
 ·rename_i g
  exact⟨Z,dx,dy,s,rx,ry,g.1,g.2,WG.now w s _ aR⟩
 ·exact w.elim
theorem b4 (bx:BX X F k)(ha:FE X F a ga)(hb:FE X F b gb):FT X F (.Compare a [.NotEq] [b] pos) (gB (eOp dNf ga gb)):=gY (yh bx.K bx.room) xA ha hb
end
def qEx (es:List Nat)(i:Nat):D→Option Bool
 | .exc j=>if es.contains j=true then some (i==j||i==0) else none
 | _=>none
def qVx (es:List Nat):D→Option Bool
 | .exc j=>if es.contains j=true then some true else none
 | _=>none
def qTk (es:List Nat)(j:Nat):Bool:=es.contains j
theorem dn {K:PySem.W.Frag}{C:Nat→Addr}{es:List Nat}{i:Nat}(h:∀ j∈es,PySem.W.kitOne K (.ref (C j)) (.ref (C i))=some (i==j||i==0))(hx:∀ j∈es,ExcK K (C j)):IsA K C (.ref (C i)) (qEx es i):=by
 refine⟨.inr ⟨_,rfl⟩,fun d b e=>?_,fun j b e=>?_,fun _=>rfl,fun d h=>by cases d<;>first | rfl | cases h⟩
 ·cases d with
  | exc j =>
   have e':(if es.contains j=true then some (i==j||i==0) else none)=some b:=e
   by_cases hj:es.contains j=true
   ·rw[if_pos hj]at e'
    cases e'
    exact h j (by simpa using hj)
   ·rw[if_neg hj]at e';cases e'
  | _=>cases e
 ·have e':(if es.contains j=true then some (i==j||i==0) else none)=some b:=e
  by_cases hj:es.contains j=true
  ·exact hx j (by simpa using hj)
  ·rw[if_neg hj]at e';cases e'
theorem xB {K:PySem.W.Frag}{C:Nat→Addr}{es:List Nat}(h:∀ j∈es,PySem.W.kitOne K (.ref (C j)) (.type "ValueError")=some true)(hx:∀ j∈es,ExcK K (C j)):IsA K C (.ty "ValueError") (qVx es):=by
 refine⟨.inl ⟨_,rfl⟩,fun d b e=>?_,fun j b e=>?_,fun _=>rfl,fun d h=>by cases d<;>first | rfl | cases h⟩
 ·cases d with
  | exc j =>
   have e':(if es.contains j=true then some true else none)=some b:=e
   by_cases hj:es.contains j=true
   ·rw[if_pos hj]at e'
    cases e'
    exact h j (by simpa using hj)
   ·rw[if_neg hj]at e';cases e'
  | _=>cases e
 ·have e':(if es.contains j=true then some true else none)=some b:=e
  by_cases hj:es.contains j=true
  ·exact hx j (by simpa using hj)
  ·rw[if_neg hj]at e';cases e'
theorem tK {K:PySem.W.Frag}{C:Nat→Addr}{es:List Nat}(h:PySem.W.excIn K (C 0) bmVE "ValueError.__new__"=true)(hs:∀ j∈es,PySem.W.subIn K (.ref (C j)) (.ref (C 0))=some true):Takes K C (C 0) (qTk es) :=
 ⟨h,fun k e=>hs k (by simpa [qTk] using e)⟩
def rIndexI (K:PySem.W.Frag):V→List V→Hp→VK→Prop:=fun x vs H Q=>∃ (l:Addr) (is:List Int) (k:Int),x=.ref l∧vs=[.int k]∧SqL K H l (is.map V.int)∧is.idxOf k < is.length∧Q (.int (is.idxOf k:Nat)) H
theorem qX {X:Cx}{k:Nat}(hr:Room k X.A):MtR X "list.index" (rIndexI X.K):=by
 intro pins s σ H x vs v us Q I rx rv h
 obtain⟨l,is,k,rfl,rfl,hH,hj,q⟩:=h
 cases rx
 obtain⟨u,rfl,ru⟩:=rv.one
 obtain⟨tk,rfl⟩:=(show ∃ t,u=Value.int k t from ru)
 obtain⟨its,r,⟨⟨c2,d2,dt2,sl2⟩,n2,e2,p2,p3,p4⟩,z2⟩:=I.list hH
 obtain⟨ps,rfl,e⟩:=b6 r
 simp only at p2 p3 p4
 subst p2 p3 p4
 have hl:ps.length=is.length:=by have:=congrArg List.length e;simpa using this
 rw[List.length_map,sizeLine_eq]at z2
 have hsz:is.idxOf k < (ps.map fun p=>Value.int p.1 p.2).toArray.size:=by rw[List.size_toArray,List.length_map,hl];exact hj
 have hat:∀ m (hm:m < (ps.map fun p=>Value.int p.1 p.2).toArray.size) (hm':m < is.length),isI k (ps.map fun p=>Value.int p.1 p.2).toArray[m]=(is[m]==k):=fun m hm hm'=>by
  subst e
  simp[isI]
 refine call_meets F.slot_list_index ⟨_,e2,rfl⟩ F.entry_list_index (F.args_list_index_2 _ _) (SeqAt.list_indexAt l _ n2 _ _ (.int k tk) (isI k) (is.idxOf k) hsz (by omega) ?_ ?_) ⟨e2,fun y hy=>?_,⟨.int _,H,I.tok _,⟨_,rfl⟩,q⟩⟩
 ·rw[hat _ _ hj]
  exact List.findIdx_getElem (w:=hj)
 ·intro m hm hlt
  have hm':m < is.length:=by omega
  rw[hat _ _ hm']
  exact Bool.eq_false_iff.mpr (by simpa using List.not_of_lt_findIdx hlt)
 ·have hy':y∈ps.map fun p=>Value.int p.1 p.2:=by simpa using hy
  obtain⟨b,_,rfl⟩:=List.mem_map.mp hy'
  exact kL I (by have:=hr.un;show X.A.units+1 < cLine;omega) b.1 k b.2 tk
section
variable {X:Cx}{F:Fx}{o e:Expr}{g:SS→R D}{gs:SS→R (List D)}{apos cpos:Pos}{k:Nat}
theorem lG:MethD F (rIndexI F.K) dIndexI:=by
 intro H Z a vs xs us es Q s h1 h2 rs w
 unfold dIndexI at w
 split at w
 ·rename_i k
  split at w
  ·rename_i is eb
   have e3:=dU h2 eb
   subst e3
   split at w
   ·rename_i hl
    exact⟨a,is,k,rfl,pH rs,h1,hl,WG.now w s _ aO⟩
   ·exact w.elim
  ·exact w.elim
 ·exact w.elim
theorem qY (bx:BX X F k)(ho:FE X F o g)(ha:FA X F [e] gs)
  (hbase:attributeBase o "index" X.env (eval o X.env)=eval o X.env:=by rfl)
  (hfew:((backTo cpos (starEach [e] X.env)).all (fun x=>!x.1)&&(backToKw cpos (keywordEach [] X.env)).all (fun x=>x.1.isSome)
   && decide ([e].length+([]:List Keyword).length+(if ([]:List Keyword).isEmpty then 0 else 1) < 30))=true:=by rfl)
  (hline:(apos.endLine==cpos.line)=true:=by rfl) (hs:starEach [e] X.env=(false,eval e X.env)::starEach [] X.env:=by rfl) (hplain:(backTo cpos (starEach [] X.env)).any (·.1)=false:=by rfl) :
  FE X F (.Call (.Attribute o "index" apos) [e] [] cpos) (eMethL dIndexI g gs) :=
 (jd PySem.F.plainAttrs_list PySem.F.slot_list_index (by kernel_rfl) (qX bx.room) ho ha hbase hfew hline hs hplain).weak (by rw[bx.K];exact g9 lG)
end
end FF
end
noncomputable section
namespace FF
open PySem L2
inductive L (σ:Type) where
 | nx (s:σ) | rt (d:D) | er (k:Nat) | stuck
def lB {α σ:Type}(r:R α)(k:α→L σ):L σ:=match r with
 | .ok a=>k a
 | .err e=>.er e
 | .stuck=>.stuck
def lS {τ σ:Type}(l:L τ)(k:τ→L σ):L σ:=match l with
 | .nx s=>k s
 | .rt d=>.rt d
 | .er e=>.er e
 | .stuck=>.stuck
def lFor {α τ:Type}(f:τ→α→L τ):List α→τ→L τ
 | [],s=>.nx s
 | d::r,s=>lS (f s d) fun s'=>lFor f r s'
def lTry {τ σ:Type}(q:Nat→Bool)(l:L τ)(k:τ→L σ)(h:Nat→L σ):L σ:=match l with
 | .nx s=>k s
 | .rt d=>.rt d
 | .er e=>if q e=true then h e else .stuck
 | .stuck=>.stuck
def outL {σ:Type}(l:L σ):R D:=match l with
 | .nx _=>.ok .non
 | .rt d=>.ok d
 | .er k=>.err k
 | .stuck=>.stuck
section
variable {α τ σ:Type}
@[simp] theorem aB (a:α)(k:α→L σ):lB (.ok a) k=k a:=rfl
@[simp] theorem tM (e:Nat)(k:α→L σ):lB (.err e) k=.er e:=rfl
@[simp] theorem yi (k:α→L σ):lB .stuck k=.stuck:=rfl
@[simp] theorem aS (s:τ)(k:τ→L σ):lS (.nx s) k=k s:=rfl
@[simp] theorem yj (d:D)(k:τ→L σ):lS (.rt d) k=.rt d:=rfl
@[simp] theorem yk (e:Nat)(k:τ→L σ):lS (.er e) k=.er e:=rfl
@[simp] theorem yl (k:τ→L σ):lS .stuck k=.stuck:=rfl
@[simp] theorem jt (f:τ→α→L τ)(s:τ):lFor f [] s=.nx s:=rfl
theorem aK (f:τ→α→L τ)(d:α)(r:List α)(s:τ):lFor f (d::r) s=lS (f s d) fun s'=>lFor f r s':=rfl
@[simp] theorem yD (q:Nat→Bool)(s:τ)(k:τ→L σ)(h:Nat→L σ):lTry q (.nx s) k h=k s:=rfl
@[simp] theorem yE (q:Nat→Bool)(d:D)(k:τ→L σ)(h:Nat→L σ):lTry q (.rt d:L τ) k h=.rt d:=rfl
@[simp] theorem vC (q:Nat→Bool)(e:Nat)(k:τ→L σ)(h:Nat→L σ):lTry q (.er e:L τ) k h=if q e=true then h e else .stuck:=rfl
@[simp] theorem vD (s:σ):outL (.nx s)=.ok .non:=rfl
@[simp] theorem vE (d:D):outL (.rt d:L σ)=.ok d:=rfl
@[simp] theorem vF (k:Nat):outL (.er k:L σ)=.err k:=rfl
end
def rAnd (a b:R Bool):R Bool:=a.bind fun c=>if c=true then b else .ok false
def rOr (a b:R Bool):R Bool:=a.bind fun c=>if c=true then .ok true else b
def rNot (a:R Bool):R Bool:=a.bind fun c=>.ok (!c)
def vAnd (a b:R D):R D:=(asB a).bind fun c=>if c=true then b else .ok (.bl false)
def vOr (a b:R D):R D:=(asB a).bind fun c=>if c=true then .ok (.bl true) else b
def vNot (a:R D):R D:=(asB a).bind fun c=>.ok (.bl (!c))
def rIf (c:R Bool)(a b:R D):R D:=c.bind fun t=>if t=true then a else b
def rCh (f f':D→D→R D)(x y:D)(w:R D):R D:=(asB (f x y)).bind fun k=>if k=true then w.bind fun w=>f' y w else .ok (.bl false)
@[simp] theorem aD (b:Bool):asB (.ok (.bl b))=.ok b:=rfl
@[simp] theorem xC (b:R Bool):rAnd (.ok true) b=b:=rfl
@[simp] theorem xD (b:R Bool):rAnd (.ok false) b=.ok false:=rfl
@[simp] theorem ym (b:R Bool):rOr (.ok true) b=.ok true:=rfl
@[simp] theorem fZ (b:R Bool):rOr (.ok false) b=b:=rfl
@[simp] theorem bq (b:Bool):rNot (.ok b)=.ok (!b):=rfl
@[simp] theorem tN (b:R D):vAnd (.ok (.bl true)) b=b:=rfl
@[simp] theorem tO (b:R D):vAnd (.ok (.bl false)) b=.ok (.bl false):=rfl
@[simp] theorem yn (b:R D):vOr (.ok (.bl true)) b=.ok (.bl true):=rfl
@[simp] theorem yo (b:R D):vOr (.ok (.bl false)) b=b:=rfl
@[simp] theorem vG (b:Bool):vNot (.ok (.bl b))=.ok (.bl (!b)):=rfl
@[simp] theorem yp (a b:R D):rIf (.ok true) a b=a:=rfl
@[simp] theorem yq (a b:R D):rIf (.ok false) a b=b:=rfl
def bA {α:Type}:List (R D)→(List D→R α)→R α
 | [],k=>k []
 | r::rs,k=>r.bind fun d=>bA rs fun ds=>k (d::ds)
def cGo (c:D→R Bool)(e:D→R D):List D→R (List D)
 | []=>.ok []
 | d::r=>match c d with
  | .ok true=>match e d with
   | .ok y=>match cGo c e r with
    | .ok ys=>.ok (y::ys)
    | _=>.stuck
   | _=>.stuck
  | .ok false=>cGo c e r
  | _=>.stuck
def cMap (e:D→R D)(xs:List D):R D:=(cGo (fun _=>.ok true) e xs).bind fun ys=>.ok (.lst ys)
def cFil (c:D→R Bool)(e:D→R D)(xs:List D):R D:=(cGo c e xs).bind fun ys=>.ok (.lst ys)
def un2 {α:Type}(d:D)(k:D→D→R α):R α:=match d with
 | .tup [a,b]=>k a b
 | _=>.stuck
def lUn2 {σ:Type}(d:D)(k:D→D→L σ):L σ:=match d with
 | .tup [a,b]=>k a b
 | _=>.stuck
def lUn4 {σ:Type}(d:D)(k:D→D→D→D→L σ):L σ:=match d with
 | .tup [a,b,c,e]=>k a b c e
 | _=>.stuck
def sq (d:D):R (List D):=(asSeq d).bind fun ds=>if ds.length≤16777216 then .ok ds else .stuck
def dInD (x y:D):R D:=match y with
 | .tup ds=>if good 60 x=true∧goods 60 ds=true then .ok (.bl (ds.any fun e=>eqD e x)) else .stuck
 | .lst ds=>if good 60 x=true∧goods 60 ds=true then .ok (.bl (ds.any fun e=>eqD e x)) else .stuck
 | _=>.stuck
def dNotInD (x y:D):R D:=(asB (dInD x y)).bind fun k=>.ok (.bl (!k))
def dList:List D→R D
 | [.lst xs]=>.ok (.lst xs)
 | [.tup xs]=>.ok (.lst xs)
 | _=>.stuck
def dLenSet:List D→R D
 | [.lst xs]=>match intsOf xs with
  | some is=>if is.length≤4000 then .ok (.int (is.eraseDups.length:Nat)) else .stuck
  | none=>.stuck
 | _=>.stuck
def enD:List D→Nat→List D
 | [],_=>[]
 | d::r,i=>.tup [.int (i:Int),d]::enD r (i+1)
def dEnum (d:D):R (List D):=(sq d).bind fun ds=>.ok (enD ds 0)
def dRev (d:D):R D:=match d with
 | .lst xs=>.ok (.lst xs.reverse)
 | .tup xs=>.ok (.tup xs.reverse)
 | _=>.stuck
def dMin2:List D→R D
 | [.int i,.int j]=>.ok (.int (if j < i then j else i))
 | _=>.stuck
def onF {α:Type}(fs:List Nat)(f:D)(k:Nat→R α):R α:=match f with
 | .fn i=>if fs.contains i=true then k i else .stuck
 | _=>.stuck
def onL {α:Type}(d:D)(k:List D→R α):R α:=match d with
 | .lst xs=>k xs
 | _=>.stuck
def onT {α:Type}(d:D)(k:List D→R α):R α:=match d with
 | .tup xs=>k xs
 | _=>.stuck
def dNeg (d:D):R D:=match d with
 | .int i=>.ok (.int (-i))
 | _=>.stuck
def oIx (ds:List D)(i:D):R D:=match i with
 | .int j=>match atI ds j with
  | some d=>.ok d
  | none=>.stuck
 | _=>.stuck
def oApp (ds:List D)(v:D):R (List D):=if ds.length < 16777216 then .ok (ds++[v]) else .stuck
def oExt (ds:List D)(v:D):R (List D):=match v with
 | .lst xs=>if ds.length+xs.length≤16777216 then .ok (ds++xs) else .stuck
 | .tup xs=>if ds.length+xs.length≤16777216 then .ok (ds++xs) else .stuck
 | _=>.stuck
def a0 (k:L Unit):List D→R D
 | []=>outL k
 | _=>.stuck
def a1 (k:D→L Unit):List D→R D
 | [a]=>outL (k a)
 | _=>.stuck
def a2 (k:D→D→L Unit):List D→R D
 | [a,b]=>outL (k a b)
 | _=>.stuck
def a3 (k:D→D→D→L Unit):List D→R D
 | [a,b,c]=>outL (k a b c)
 | _=>.stuck
def a4 (k:D→D→D→D→L Unit):List D→R D
 | [a,b,c,d]=>outL (k a b c d)
 | _=>.stuck
def a5 (k:D→D→D→D→D→L Unit):List D→R D
 | [a,b,c,d,e]=>outL (k a b c d e)
 | _=>.stuck
def a6 (k:D→D→D→D→D→D→L Unit):List D→R D
 | [a,b,c,d,e,f]=>outL (k a b c d e f)
 | _=>.stuck
end FF
end
noncomputable section
namespace FF
open PySem PySem.Spec PyProof.Rows L2
section
variable {α τ σ W:Type}
def WL (F:Fx)(Z:Hp)(J:σ→SS→Prop)(l:L σ)(D:Ends):Prop:=match l with
 | .nx s=>∀ S ρ H Z',J s S→Same Z Z'→StOk F H Z' S ρ→D.nx ρ H
 | .rt d=>∀ v H Z',Ex F.H0 F.Z0 H Z'→Rep F.K F.C Z' d v→D.rt v H
 | .er k=>∀ H,Same F.H0 H→F.E (.ref (F.C k)) none H
 | .stuck=>False
theorem WL.more {F:Fx}{Z Z1:Hp}{J:σ→SS→Prop}{l:L σ}{D:Ends}(w:WL F Z J l D)(z:Same Z Z1):WL F Z1 J l D:=by
 cases l with
 | nx s=>exact fun S ρ H Z' j q=>w S ρ H Z' j (z.trans q)
 | rt d=>exact w
 | er k=>exact w
 | stuck=>exact w
def tL (F:Fx)(S:SS)(J:σ→SS→Prop)(l:L σ):TS:=fun D ρ H=>∃ Z,StOk F H Z S ρ∧WL F Z J l D
abbrev FL (X:Cx)(F:Fx)(S:SS)(sts:List Stmt)(J:σ→SS→Prop)(l:L σ):Prop:=PSs X sts (tL F S J l)
abbrev FL1 (X:Cx)(F:Fx)(S:SS)(st:Stmt)(J:σ→SS→Prop)(l:L σ):Prop:=PS X st (tL F S J l)
def JX (inj:τ→W→SS):τ→SS→Prop:=fun s S=>∃ w,S=inj s w
def JU:Unit→SS→Prop:=fun _ _=>True
abbrev vv (d:D):Option Sl:=some (.val d)
abbrev ow (ds:List D):Option Sl:=some (.own ds)
abbrev nn:Option Sl:=none
variable {X:Cx}{F:Fx}{S:SS}{st:Stmt}{rest:List Stmt}{J:σ→SS→Prop}{J1:τ→SS→Prop}
theorem oz {sts:List Stmt}{t:α→TS}(h:∀ a,PSs X sts (t a)):PSs X sts (fun D ρ H=>∃ a,t a D ρ H):=fun pins s ρ H D I ⟨a,w⟩=>h a pins s ρ H D I w
theorem WL.wg {D:Ends}{r:R α}{k:α→L σ}{H Z:Hp}{ρ:St}(ok:StOk F H Z S ρ)(w:WL F Z J (lB r k) D):WG F H Z r fun a _ Z'=>WL F Z' J (k a) D:=by
 cases r with
 | ok o=>exact fun _ _ x=>WL.more (l:=k o) w x.z
 | err k=>exact fun H' s=>w H' (ok.ex.same.trans s)
 | stuck=>exact w
theorem ak {s:σ}(h:J s S):FL X F S [] J (.nx s):=uZ.weak fun D ρ H ⟨Z,ok,w⟩=>w S ρ H Z h (Same.refl _) ok
theorem aj {g:SS→O}{r:R α}{S':α→SS}{k:α→L σ}(h:FS X F st g)(hg:g S=rO (r.bind fun a=>.ok (.nx (S' a))))(hk:∀ a,FL X F (S' a) rest J (k a)):FL X F S (st::rest) J (lB r k) :=
 (dv h (oz hk)).weak fun D ρ H ⟨Z,ok,w⟩=>⟨Z,S,ok,by
  rw[hg]
  cases r with
  | ok a=>exact fun ρ' H' Z' z ok'=>⟨a,Z',ok',WL.more (l:=k a) w z⟩
  | err k=>exact w
  | stuck=>exact w⟩
theorem aV {g:SS→O}{S':SS}{l:L σ}(h:FS X F st g)(hg:g S=.nx S')(hk:FL X F S' rest J l):FL X F S (st::rest) J l :=
 (dv h hk).weak fun D ρ H ⟨Z,ok,w⟩=>⟨Z,S,ok,by rw[hg];exact fun ρ' H' Z' z ok'=>⟨Z',ok',WL.more w z⟩⟩
theorem ar {g:SS→R D}{r:R D}(h:FS X F st (sRet g))(hr:g S=r):FL X F S (st::rest) J (lB r .rt) :=
 (dv h kx).weak fun D ρ H ⟨Z,ok,w⟩=>⟨Z,S,ok,by
  unfold sRet
  rw[hr]
  cases r with
  | ok a=>exact w
  | err k=>exact w
  | stuck=>exact w⟩
theorem aw {g:SS→R D}{v:D}(h:FS X F st (sRet g))(hr:g S=.ok v):FL X F S (st::rest) J (.rt v):=ar (r:=.ok v) h hr
theorem iB {g:SS→O}{k:Nat}(h:FS X F st g)(hg:g S=.er k):FL X F S (st::rest) J (.er k) :=
 (dv h kx).weak fun D ρ H ⟨Z,ok,w⟩=>⟨Z,S,ok,by rw[hg];exact w⟩
theorem dW (i:Nat){ds:List D}{S':SS}{sts:List Stmt}{l:L σ}(hi:S[i]?=some (some (.own ds)))(hS:S.set i (some (.val (.lst ds)))=S')(h:FL X F S' sts J l):FL X F S sts J l :=
 h.weak fun D ρ H ⟨Z,ok,w⟩=>by
  obtain⟨Z',z,ok'⟩:=ok.freeze hi
  rw[hS]at ok'
  exact⟨Z',ok',WL.more w z⟩
theorem au {c:Expr}{a b:List Stmt}{pos:Pos}{gt:SS→R Bool}{r:R Bool}{A B:L σ}(hc:FT X F c gt)(hr:gt S=r)(ha:FL X F S a J A)(hb:FL X F S b J B):FL1 X F S (.If c a b pos) J (lB r fun t=>if t=true then A else B) :=
 (xX hc ha hb).weak fun D ρ H ⟨Z,ok,w⟩=>fQ (k:=fun t=>R.ok t) (P:=fun t _ Z'=>WL F Z' J (if t=true then A else B) D) ok (by
  rw[hr]
  have:=WL.wg ok w
  cases r<;>exact this) fun t H1 Z1 ok1 x1 w1=>by
  have w2:=WG.now w1 ok1.sub
  cases t with
  | true=>exact⟨Z1,ok1,w2⟩
  | false=>exact⟨Z1,ok1,w2⟩
theorem ju {l:L σ}(h:FL1 X F S st J l):FL X F S [st] J l:=pc h
theorem ap {l:L τ}{k:τ→L σ}{inj:τ→W→SS}(h:FL1 X F S st (JX inj) l)(hk:∀ s w,FL X F (inj s w) rest J (k s)):FL X F S (st::rest) J (lS l k) :=
 (dv h (oz (fun s=>oz fun w=>hk s w))).weak fun D ρ H ⟨Z,ok,w⟩=>⟨Z,ok,by
  cases l with
  | nx s=>exact fun S' ρ' H' Z' ⟨x,e⟩ z ok'=>⟨s,x,Z',by rw[← e];exact ok',WL.more (l:=k s) w z⟩
  | rt d=>exact w
  | er k=>exact w
  | stuck=>exact w⟩
end
section
variable {σ τ W:Type}{X:Cx}{F:Fx}{S:SS}{tg iter:Expr}{body:List Stmt}{pos:Pos}{git:SS→R (List D)}{g:D→SS→R SS}{inj:τ→W→SS}{step:τ→D→L τ}
theorem mx {r:R (List D)}{s0:τ}(w0:W)(hp:PassesOwn (model X.prog X.w) X.A X.env X.xe)(hc:X.calm=true)(hi:FI X F tg iter git)(hr:git S=r)(hg:FG X F tg g)
  (hb:∀ s w x S1,g x (inj s w)=.ok S1→FL X F S1 body (JX inj) (step s x)) (hno:∀ s w x k,g x (inj s w)≠.err k) (hst:∀ s w x,g x (inj s w)=.stuck→step s x=.stuck)
  (hS:S=inj s0 w0) (hs:∀ x,foldedSetIterable iter X.env x=pure x:=by intro _;rfl):FL1 X F S (.For tg iter body [] pos) (JX inj) (lB r fun xs=>lFor step xs s0):=by
 have hbb:PSs X body (fun D ρ H=>∃ (q:τ×W×FF.D×SS) (_:g q.2.2.1 (inj q.1 q.2.1)=.ok q.2.2.2),tL F q.2.2.2 (JX inj) (step q.1 q.2.2.1) D ρ H):=fun pins s ρ H D I ⟨q,e,w⟩=>hb q.1 q.2.1 q.2.2.1 q.2.2.2 e pins s ρ H D I w
 refine(wW hp hc hi hg hbb hs).weak fun D ρ H ⟨Z,ok,w⟩=>?_
 refine⟨Z,S,ok,?_⟩
 have w00:=WL.wg ok w
 rw[hr]
 cases r with
 | err k=>exact w00
 | stuck=>exact w00
 | ok ds =>
  intro H1 Z1 x1
  have w1:WL F Z1 (JX inj) (lFor step ds s0) D:=w00 H1 Z1 x1
  intro J wk _
  refine⟨fun i m ρ H=>m=ds.length - i∧i≤ds.length∧∃ Z2 s w,StOk F H Z2 (inj s w) ρ∧Same Z1 Z2∧WL F Z2 (JX inj) (lFor step (ds.drop i) s) D,⟨ds.length,rfl,Nat.zero_le _,Z1,s0,w0,by rw[← hS];exact ok.more x1,Same.refl _,w1⟩,?_⟩
  rintro i m ρ2 H2 ⟨rfl,hle,Z2,s,w2,ok2,z2,wl2⟩
  obtain⟨k1,k2⟩:=wk i H2 Z2 z2 ok2.sub
  by_cases hlt:i < ds.length
  ·obtain⟨go,y⟩:=k1 hlt
   refine .inr ⟨go,fun ρ' H'=>∃ Z3 s3 w3,StOk F H' Z3 (inj s3 w3) ρ'∧Same Z1 Z3∧WL F Z3 (JX inj) (lFor step (ds.drop (i+1)) s3) D,fun ρ' H' ⟨Z3,s3,w3,q⟩=>⟨ds.length - (i+1),by omega,rfl,hlt,Z3,s3,w3,q⟩,fun x H' hy=>?_⟩
   obtain⟨Z2',d,x',e3,rd⟩:=y x H' hy
   have ok2:=ok2.more x'
   have hd:ds.drop i=d::ds.drop (i+1):=by
    obtain⟨hi,e4⟩:=List.getElem?_eq_some_iff.mp e3
    rw[List.drop_eq_getElem_cons hi,e4]
   rw[hd,aK]at wl2
   refine⟨Z2',inj s w2,d,ok2,rd,?_⟩
   cases q:g d (inj s w2) with
   | err k=>exact absurd q (hno s w2 d k)
   | stuck=>rw[hst s w2 d q]at wl2;exact wl2
   | ok S1 =>
    intro H4 Z4 x4 ρ4 ok4
    refine⟨⟨s,w2,d,S1⟩,q,Z4,ok4,?_⟩
    have z14:Same Z1 Z4:=(z2.trans x'.z).trans x4.z
    cases qb:step s d with
    | nx s5 =>
     rw[qb]at wl2
     exact fun S5 ρ5 H5 Z5 ⟨w5,e5⟩ z5 ok5=>⟨Z5,s5,w5,by rw[← e5];exact ok5,z14.trans z5,WL.more (l:=lFor step (ds.drop (i+1)) s5) wl2 ((x'.z.trans x4.z).trans z5)⟩
    | rt d=>rw[qb]at wl2;exact wl2
    | er k=>rw[qb]at wl2;exact wl2
    | stuck=>rw[qb]at wl2;exact wl2
  ·refine .inl ⟨k2 (by omega),?_⟩
   rw[List.drop_eq_nil_of_le (by omega)]at wl2
   exact wl2 (inj s w2) ρ2 H2 Z2 ⟨w2,rfl⟩ (Same.refl _) ok2
theorem bD (i:Nat){r:R (List D)}{s0:τ}{B:τ→W→D→SS}(w0:W)(hp:PassesOwn (model X.prog X.w) X.A X.env X.xe)(hc:X.calm=true)(hi:FI X F tg iter git)(hr:git S=r)(hg:FG X F tg (gNm i))
  (hS:S=inj s0 w0) (hB:∀ s w x,(inj s w).set i (some (.val x))=B s w x) (hb:∀ s w x,FL X F (B s w x) body (JX inj) (step s x))
  (hs:∀ x,foldedSetIterable iter X.env x=pure x:=by intro _;rfl):FL1 X F S (.For tg iter body [] pos) (JX inj) (lB r fun xs=>lFor step xs s0) :=
 mx w0 hp hc hi hr hg (fun s w x S1 e=>by cases e;rw[hB];exact hb s w x) (fun s w x k e=>nomatch e) (fun s w x e=>nomatch e) hS hs
theorem jv (i j:Nat){r:R (List D)}{s0:τ}{B:τ→W→D→D→SS}{step:τ→D→D→L τ}(w0:W)(hp:PassesOwn (model X.prog X.w) X.A X.env X.xe)(hc:X.calm=true)(hi:FI X F tg iter git)(hr:git S=r)(hg:FG X F tg (gTup [i,j]))
  (hS:S=inj s0 w0) (hB:∀ s w x y,((inj s w).set i (some (.val x))).set j (some (.val y))=B s w x y) (hb:∀ s w x y,FL X F (B s w x y) body (JX inj) (step s x y))
  (hs:∀ x,foldedSetIterable iter X.env x=pure x:=by intro _;rfl):FL1 X F S (.For tg iter body [] pos) (JX inj) (lB r fun xs=>lFor (fun s p=>lUn2 p fun x y=>step s x y) xs s0):=by
 have two:∀ (p:D) (S0:SS),(∃ x y,p=.tup [x,y]∧gTup [i,j] p S0=.ok ((S0.set i (some (.val x))).set j (some (.val y))))∨(gTup [i,j] p S0=.stuck∧∀ (k:D→D→L τ),lUn2 p k=.stuck):=fun p S0=>by
  cases p with
  | tup ds =>
   match ds with
   | []=>exact .inr ⟨rfl,fun _=>rfl⟩
   | [_]=>exact .inr ⟨rfl,fun _=>rfl⟩
   | [x,y]=>exact .inl ⟨x,y,rfl,rfl⟩
   | _::_::_::_=>exact .inr ⟨by unfold gTup;simp,fun _=>rfl⟩
  | _=>exact .inr ⟨rfl,fun _=>rfl⟩
 refine mx w0 hp hc hi hr hg (fun s w p S1 e=>?_) (fun s w p k e=>?_) (fun s w p e=>?_) hS hs
 ·rcases two p (inj s w) with ⟨x,y,rfl,q⟩ | ⟨q,_⟩
  ·rw[q]at e
   cases e
   rw[hB]
   exact hb s w x y
  ·rw[q]at e;cases e
 ·rcases two p (inj s w) with ⟨x,y,rfl,q⟩ | ⟨q,_⟩<;>rw[q]at e<;>cases e
 ·rcases two p (inj s w) with ⟨x,y,rfl,q⟩ | ⟨_,q⟩
  ·rw[q]at e;cases e
  ·exact q _
end
section
variable {σ τ W:Type}{X:Cx}{F:Fx}{S:SS}{rest:List Stmt}{J:σ→SS→Prop}{k:Nat}
def tryL (q:Nat→Bool)(l:L τ):L (τ ⊕ Nat):=match l with
 | .nx s=>.nx (.inl s)
 | .rt d=>.rt d
 | .er e=>if q e=true then .nx (.inr e) else .stuck
 | .stuck=>.stuck
def tryJ (inj:τ→W→SS)(B:Nat→SS):τ ⊕ Nat→SS→Prop
 | .inl s,S=>∃ w,S=inj s w
 | .inr k,S=>S=B k
end
section
variable {σ τ W:Type}{S:SS}{X:Cx}{F:Fx}{body:List Stmt}{g:SS→O}{c n y:Str}{np np2 kp apos hpos pos:Pos}{k:Nat}{q:Nat→Bool}{C0:Addr}
theorem vH (i j:Nat){l:L τ}{inj:τ→W→SS}(bx:BX X F k)(hij:i≠j)(hst:X.stack=X.env::X.outer)(hfm:X.env.frame=some X.env.locals)(hex:X.ex=[])(hN:X.N.Nodup)(hg:Gl X c)(hm:X.mg c=some (.ref C0))(T:Takes F.K F.C C0 q)
  (hb:∀ pn xe H0 Z0 E,BX (tryX X pn xe) ⟨F.K,F.C,H0,Z0,E⟩ k→FL (tryX X pn xe) ⟨F.K,F.C,H0,Z0,E⟩ S body (JX inj) l)
  (hi:X.N[i]?=some n:=by rfl) (hj:X.N[j]?=some y:=by rfl) (hn:X.env.scope.names.lookup n=some .local:=by rfl) (hkn:X.env.kindOf n=some .local:=by rfl) (hy:X.env.scope.names.lookup y=some .local:=by rfl)
  (hs:swapsWith (.Name n np2) (some (.Name y kp)) apos.line X.env=pure false:=by rfl) (hdc:(c==("__debug__":Str))=false:=by decide) (hdn:(n==("__debug__":Str))=false:=by decide) (hcd:(n==("__classdict__":Str))=false:=by decide) :
  FL1 X F S (.Try body [.ExceptHandler (some (.Name c np)) (some n) [.Assign [.Name y kp] (.Name n np2) apos] hpos] [] [] pos) (tryJ inj fun e=>(blankS S).set j (some (.val (.exc e)))) (tryL q l):=by
 intro pins s σ H D I h
 obtain⟨Z,ok,w⟩:=h
 refine wpAny_Try_except ?_
 have hjl:j < X.N.length:=(List.getElem?_eq_some_iff.mp hj).1
 have hil:i < X.N.length:=(List.getElem?_eq_some_iff.mp hi).1
 let txe:Value→Shared→Prop:=fun e s₁=>wpAny (model X.prog X.w) X.A (noteFrame e X.env) (fun _ s₂=>wpAny (model X.prog X.w) X.A (setFlight e none) (fun _ s₃=>wpAny (model X.prog X.w) X.A (handleBy e X.env [.ExceptHandler (some (.Name c np)) (some n) [.Assign [.Name y kp] (.Name n np2) apos] hpos]) (SP X pins D) X.xe s₃) X.xe s₂) X.xe s₁
 let E':XK:=fun cls _ H'=>∃ k,cls=.ref (F.C k)∧q k=true∧Same (bothH F Z) H'∧WL F Z (tryJ inj fun e=>(blankS S).set j (some (.val (.exc e)))) (.nx (.inr k)) D
 have back:∀ {pl:List (Addr×Obj)} {σ':St} {H':Hp} {s':Shared},Inv (tryX X (X.pn++pins) txe) pl σ' H' s'→Inv X pins σ' H' s':=fun J=>jr (X:=tryX X (X.pn++pins) txe) J rfl I.ok.hd fun p hp=>List.mem_append_left _ hp
 have bx':BX (tryX X (X.pn++pins) txe) ⟨F.K,F.C,bothH F Z,Z,E'⟩ k:=by
  refine⟨bx.room,bx.K,bx.calm,?_⟩
  intro pl σ1 H1 s1 e s2 I1 hx
  obtain⟨ea,C,t,H2,B,rfl,os,bare,un,hok,fl,hn2,cov,hE⟩:=hx
  obtain⟨k',hC,hk,hsm,w1⟩:=hE
  have J:Inv (tryX X (X.pn++pins) txe) pl σ1 H2 s2:=I1.call' (ch:=[]) os un hok bare (fun b z=>nomatch z)
  obtain⟨oe0,ws0,ge0,_,gd0,_⟩:=fl.first
  obtain⟨mL1,nL1,_⟩:=I1.loc
  obtain⟨oL1,_,_,hoL1,_⟩:=id nL1
  have hnf:ea∉frs X.stack:=fun z=>by
   rcases List.mem_cons.mp (J.stkSub ea z) with z1 | z1
   ·obtain⟨mL,nL,_⟩:=J.loc
    obtain⟨oL,es,ep,hoL,hdL,_⟩:=nL
    have hoL':s2.heap.get? ea=some oL:=by rw[z1];exact hoL
    rw[ge0]at hoL'
    cases hoL'
    rw[hdL]at gd0
    cases gd0
   ·obtain⟨_,o',e',d⟩:=J.funs.mem z1
    rw[ge0]at e'
    cases e'
    exact d _ gd0
  have hnew:∀ o,s1.heap.get? ea≠some o:=fun o z=>by
   have:=cov ea oe0 ge0 (.inr ⟨o,z⟩) hnf
   rw[fl.2.1]at this
   cases this
  have h0:X.s₀.heap.get? ea=none:=by
   cases z:X.s₀.heap.get? ea with
   | none=>rfl
   | some o =>
    obtain⟨o',z'⟩:=I1.base.there ea o z (by show ea∉X.ex;rw[hex];exact fun q=>nomatch q)
    exact absurd z' (hnew o')
  have hnl:ea≠X.env.locals:=fun z=>hnew oL1 (by rw[z];exact hoL1)
  obtain⟨hp2,g2,d2,t2,os2⟩:=s2
  have fl':=fl
  rw[show (tryX X (X.pn++pins) txe).stack=X.env::X.outer from hst]at fl'
  show txe (.ref ea) _
  refine wpAny_looks_onW (I.ok.frames.trans (by rw[hst])) hfm fl' fun h4 held4 up4=>?_
  refine wpAny_landsW held4 fun h5 fl5 up5=>?_
  have fly:∀ {h6:Heap},B.StaysIn h6→hp2.UpToSlots h6→Inv (tryX X (X.pn++pins) txe) pl σ1 H2 ⟨h6,g2,d2,t2,os2⟩:=fun {h6} a b=>vi J ⟨σ1,H1,pl,I1⟩ (fun p hp=>⟨_,(I1.pin p hp).1⟩) (fun o _=>⟨oL1,hoL1⟩) cov a b
  have J5:=fly fl5.1 (up4.trans up5)
  let Xm:Cx:={ tryX X (X.pn++pins) txe with A:=X.A.mark (some (.ref ea)),calm:=false,pn:=X.pn++pins,xe:=fun _ _=>False }
  have J5m:Inv Xm pl σ1 H2 ⟨h5,g2,d2,t2,os2⟩:=jr J5 rfl (fun z=>nomatch z) fun p hp=>hp
  refine wpAny_handleBy_cons (codeAny_handlers_test (iU (X:=Xm) J5m hg hm ?_ hdc)) (by intro z;cases z)
  obtain⟨ob,hob,hobc⟩:=fl5.there
  refine mw T (by have:=J5.kIn;rw[← bx.K];exact this) hob (hobc.trans hC) hk ?_
  refine codeAny_handlers_suite_as ?_
  refine lands_againW fl5 fun h6 fl6 up6=>?_
  have J6:=fly fl6.1 ((up4.trans up5).trans up6)
  obtain⟨oe,ws,hoe,hoec,hoed,_⟩:=fl6.first
  have J7:=qR J6 (a:=ea) (o:=excO F.C k' ea) hn2 h0 hnl (fun x c' e z=>by
    obtain⟨v,o,ho,_⟩:=I1.cell x c' e
    exact hnew o (by rw[← z];exact ho)) (fun p hp z=>hnew p.2 (by rw[← z];exact(I1.pin p hp).1)) ⟨⟨oe,hoe,hoec.trans hC,ws,hoed⟩,⟨oe,hoe⟩,fun h1 h2 ⟨o,a1,a2,a3⟩ kk=>⟨o,kk o a1,a2,a3⟩⟩
  have J7m:Inv Xm pl σ1 (upd H2 ea (excO F.C k' ea)) ⟨h6,g2,d2,t2,os2⟩:=jr J7 rfl (fun z=>nomatch z) fun p hp=>hp
  have hl1:σ1.length=X.N.length:=I1.len
  refine fN (X:=Xm) (v:=.ref ea) J7m hN hi (.inl hn) rfl (fun s8 I8=>?_) (.inr hn)
  have st:=pc (lh (X:=Xm) (pos:=apos) (pos':=kp) hN hj (.inl hy) (cO (X:=Xm) (pos:=np2) hi (.inl hn) hdn hcd) hs (.inr hy))
  refine wpAny_mono (st pl s8 _ _ ⟨fun σ' H'=>σ'=(σ1.set i (some (.ref ea))).set j (some (.ref ea))∧H'=upd H2 ea (excO F.C k' ea),fun _ _=>False,fun _ _=>False,fun _ _=>False⟩ I8 ⟨.ref ea,by rw[List.getElem?_set_self (by rw[hl1];exact hil)],rfl,rfl⟩) (fun f s9 h9=>?_) fun _ _ z=>z.elim
  cases f with
  | next =>
   obtain⟨σ9,H9,I9,rfl,rfl⟩:=h9
   show wpAny (model X.prog X.w) X.A (do bindName X.env n .none;unbindBehindTheSuite X.env n hpos) _ X.xe s9
   refine wpAny_bind (wpAny_bindName (fN (X:=Xm) (v:=.non) I9 hN hi (.inl hn) rfl (fun s10 I10=>?_) (.inr hn)))
   unfold unbindBehindTheSuite
   refine wpAny_onRaise (qS (X:=Xm) (v:=.non) I10 hN hi hkn hn (by rw[List.getElem?_set_self (by simp[hl1];exact hil)]) fun s11 I11=>?_)
   have IX:Inv X pins _ _ s11:=jr (X:=Xm) I11 rfl I.ok.hd fun p hp=>List.mem_append_left _ hp
   obtain⟨Z',z,ok'⟩:=qT (k:=k') (j:=j) (ea:=ea) (σ':=(((σ1.set i (some (.ref ea))).set j (some (.ref ea))).set i (some .non)).set i none) ok hsm hn2 (by rw[ok.len,I.len];simp[hl1]) (fun _=>by
    rw[List.getElem?_set_ne hij,List.getElem?_set_ne hij,List.getElem?_set_self (by simp[hl1];exact hjl)])
   exact⟨_,_,IX,w1 _ _ _ Z' rfl z ok'⟩
  | _=>first | (obtain⟨_,_,_,z⟩:=h9;exact z.elim) | (obtain⟨_,_,_,_,_,z⟩:=h9;exact z.elim)
 have w':WL ⟨F.K,F.C,bothH F Z,Z,E'⟩ Z (JX inj) l D:=by
  cases l with
  | nx s'=>exact fun S' ρ' H' Z' jx z o=>w S' ρ' H' Z' jx z (vy ok o)
  | rt d=>exact fun v H' Z' x r=>w v H' Z' (pF ok x) r
  | er k' =>
   intro H' sm
   unfold tryL at w
   by_cases hk:q k'=true
   ·simp only[hk,if_true]at w
    exact⟨k',rfl,hk,sm,w⟩
   ·simp only[hk]at w
    exact w.elim
  | stuck=>exact w
 have run:=hb (X.pn++pins) txe (bothH F Z) Z E' bx' [] s σ H D (jr I rfl I.ok.hd (by simp)) ⟨Z,vz ok,w'⟩
 refine wpAny_mono run (fun f s1 h1=>?_) fun _ _ x=>x
 cases f with
 | next =>
  obtain⟨σ',H',I',d'⟩:=h1
  exact wpAny_execs_nil ⟨σ',H',back I',d'⟩
 | brk =>
  obtain⟨σ',H',I',d'⟩:=h1
  exact⟨σ',H',back I',d'⟩
 | cont =>
  obtain⟨σ',H',I',d'⟩:=h1
  exact⟨σ',H',back I',d'⟩
 | ret u =>
  obtain⟨v,σ',H',I',r,d'⟩:=h1
  exact⟨v,σ',H',back I',r,d'⟩
end
section
variable {σ τ W:Type}{X:Cx}{F:Fx}{S:SS}{rest:List Stmt}{J:σ→SS→Prop}
theorem xE (i j:Nat){l:L τ}{inj:τ→W→SS}{q:Nat→Bool}{st:Stmt}{B:Nat→SS}{n1:τ→L σ}{n2:Nat→L σ}(h:FL1 X F S st (tryJ inj fun e=>(blankS S).set j (some (.val (.exc e)))) (tryL q l))
  (hB:∀ e,(blankS S).set j (some (.val (.exc e)))=B e) (h1:∀ s w,FL X F (inj s w) rest J (n1 s)) (h2:∀ e,FL X F (B e) rest J (n2 e)):FL X F S (st::rest) J (lTry q l n1 n2):=by
 have hr:PSs X rest (fun D ρ H=>(∃ s w,tL F (inj s w) J (n1 s) D ρ H)∨∃ e,tL F (B e) J (n2 e) D ρ H):=fun pins s ρ H D I z=>by
  rcases z with ⟨s',w',z⟩ | ⟨e,z⟩
  ·exact h1 s' w' pins s ρ H D I z
  ·exact h2 e pins s ρ H D I z
 refine(dv h hr).weak fun D ρ H ⟨Z,ok,w⟩=>⟨Z,ok,?_⟩
 cases l with
 | nx s=>exact fun S' ρ' H' Z' ⟨x,e⟩ z ok'=>.inl ⟨s,x,Z',by rw[← e];exact ok',WL.more (l:=n1 s) w z⟩
 | rt d=>exact w
 | er e =>
  have w':WL F Z J (if q e=true then n2 e else .stuck) D:=w
  by_cases hq:q e=true
  ·rw[if_pos hq]at w'
   show WL F Z _ (if q e=true then (L.nx (Sum.inr e):L (τ ⊕ Nat)) else L.stuck) _
   rw[if_pos hq]
   exact fun S' ρ' H' Z' hj z ok'=>.inr ⟨e,Z',by have hj':S'=(blankS S).set j (some (.val (.exc e))):=hj;rw[← hB e,← hj'];exact ok',WL.more w' z⟩
  ·rw[if_neg hq]at w';exact w'.elim
 | stuck=>exact w
end
section
variable {X:Cx}{F:Fx}{e:Expr}{es:List Expr}{g g':SS→R D}{gs:List (SS→R D)}{k:Nat}{f:List D→R D}{pos:Pos}
theorem fg (h:FE X F e g)(hg:∀ S,g S=g' S):FE X F e g':=by
 have:g=g':=funext hg
 rw[← this];exact h
theorem f8 {st:Stmt}{g g':SS→O}(h:FS X F st g)(hg:∀ S,g S=g' S):FS X F st g':=by
 have:g=g':=funext hg
 rw[← this];exact h
def aL:List (SS→R D)→SS→R (List D)
 | []=>aNil
 | g::gs=>aCons g (aL gs)
def eBA {α:Type}(f:List D→R α)(gs:List (SS→R D)):SS→R α:=fun S=>bA (gs.map fun g=>g S) f
theorem cL {α β:Type}{r:R α}{f f':α→R β}(h:∀ a,f a=f' a):r.bind f=r.bind f':=by cases r<;>first | exact h _ | rfl
theorem cg {α:Type}(S:SS):∀ (gs:List (SS→R D)) (f:List D→R α),(aL gs S).bind f=eBA f gs S
 | [],f=>rfl
 | g::gs,f=>by
  show ((g S).bind fun d=>(aL gs S).bind fun ds=>R.ok (d::ds)).bind f=(g S).bind fun d=>bA (gs.map fun g=>g S) fun ds=>f (d::ds)
  rw[R.bind_assoc]
  refine cL fun d=>?_
  rw[R.bind_assoc]
  exact cg S gs fun ds=>f (d::ds)
theorem hG {S:SS}:∀ {gs:List (SS→R D)} {ds:List D},aL gs S=.ok ds→ds.length=gs.length
 | [],ds,h=>by cases h;rfl
 | g::gs,ds,h=>qK (n:=gs.length) (fun S' ds' h'=>by
   by_cases q:S'=S
   ·subst q;exact hG h'
   ·exact hG (S:=S') h') S ds h
structure FAL (X:Cx)(F:Fx)(es:List Expr)(gs:List (SS→R D)):Prop where
 out:FA X F es (aL gs)
theorem ad:FAL X F [] []:=⟨xn⟩
theorem aa (ha:FE X F e g)(hr:FAL X F es gs)(hs:starEach (e::es) X.env=(false,eval e X.env)::starEach es X.env:=by rfl):FAL X F (e::es) (g::gs):=⟨vc ha hr.out hs⟩
theorem fe_N (h:FE X F e (eCall f (aL gs))):FE X F e (eBA f gs):=fg h fun S=>cg S gs f
theorem af {x:Str}{p:Pos}{ps:List Str}(b:BX X F k)(h:Fn1 X.prog X.w F.K X.mg X.base F.C k x ps f)(hg:Gl X x)(ha:FAL X F (e::es) gs)(hn:gs.length=ps.length:=by rfl)(hdb:(x==("__debug__":Str))=false:=by decide)
  (he:starEach (e::es) X.env=(false,eval e X.env)::starEach es X.env:=by rfl) (hpl:(backTo pos (starEach es X.env)).any (·.1)=false:=by rfl):FE X F (.Call (.Name x p) (e::es) [] pos) (eBA f gs) :=
 fe_N (vp b h hg ha.out (fun S ds q=>(hG q).trans hn) hdb he hpl)
theorem az {x1}(h:FAL X F es gs)(hl:gs.length≤16777216:=by exact Nat.le_of_ble_eq_true rfl):FE X F (.Tuple es x1 pos) (eBA (fun ds=>.ok (.tup ds)) gs) :=
 fg (sP h.out) fun S=>by
  rw[← cg]
  show (aL gs S).bind _=_
  cases q:aL gs S with
  | ok ds=>show (if ds.length≤16777216 then R.ok (FF.D.tup ds) else R.stuck)=_;rw[if_pos (by rw[hG q];exact hl)];rfl
  | err k=>rfl
  | stuck=>rfl
theorem aF (h:FAL X F es gs)(hl:gs.length≤16777216:=by exact Nat.le_of_ble_eq_true rfl):FE X F (.List es pos) (eBA (fun ds=>.ok (.lst ds)) gs) :=
 fg (xo h.out) fun S=>by
  rw[← cg]
  show (aL gs S).bind _=_
  cases q:aL gs S with
  | ok ds=>show (if ds.length≤16777216 then R.ok (FF.D.lst ds) else R.stuck)=_;rw[if_pos (by rw[hG q];exact hl)];rfl
  | err k=>rfl
  | stuck=>rfl
end
section
variable {X:Cx}{F:Fx}{k:Nat}{e f:Expr}{es:List Expr}{p pos:Pos}{x:Str}
theorem yr {i:Nat}(hm:X.mg x=some (.ref (F.C i)))(hg:Gl X x)(hd:(x==("__debug__":Str))=false:=by decide):FE X F (.Name x pos) (eC (.fn i)) :=
 dP (bo (v:=.ref (F.C i)) hg hm rfl hd) fun _=>by rw[Rep]
theorem tQ {CX:CXT}{E:XK}{tf:TE}{t:TA}(hf:PE X f tf)(hr:Room k X.A)(hx:Passes CX X E)(ha:PA X (e::es) t)
  (hev:eval (.Call f (e::es) [] pos) X.env=(do callWith pos (← eval f X.env) [] (backTo pos (starEach (e::es) X.env)) (backToKw pos (keywordEach [] X.env))):=by rfl)
  (he:starEach (e::es) X.env=(false,eval e X.env)::starEach es X.env:=by rfl) (hpl:(backTo pos (starEach es X.env)).any (·.1)=false:=by rfl) :
  PE X (.Call f (e::es) [] pos) (fun σ H Q=>tf σ H fun v H1=>∃ a fd ps sp,v=.ref a∧FnOk X.prog X.w X.K X.mg X.base CX k a fd ps sp∧PySem.W.keepIn X.K (.ref a)=true∧Binds X.K fd ps []∧t σ H1 fun vs H2=>sp (vs++[]) H2 Q E):=by
 intro pins s σ H Q I h
 rw[hev]
 refine wpAny_bind (thn (hf pins s σ H _ I h) fun u s1 ⟨v,H1,I1,r,a,fd,ps,sp,ev,FO,hk,hb,q⟩=>?_)
 subst ev
 cases r
 refine PySem.W.callWith_K (h₀:=X.base) I1.ok.mod.kin hk (thn (ha pos pins s1 σ H1 _ I1 q) fun us s2 ⟨vs,H2,I2,r2,q2⟩=>⟨I2.kIn,?_⟩) he hpl
 exact sI FO hr hb .nil hx I2 r2 q2
structure FnV (P:Program)(w:World)(K:PySem.W.Frag)(mg:Str→Option Value)(base:Heap)(C:Nat→Addr)(k:Nat)(i:Nat)(f:List D→R D):Prop where
 ex:∃ fd ps,FnOk P w K mg base (CXE P w) k (C i) fd ps (spF K C ps.length f)∧PySem.W.keepIn K (.ref (C i))=true∧Binds K fd ps []∧∀ ds,ds.length≠ps.length→f ds=.stuck
def eCV (fs:List Nat)(t:Nat→List D→R D)(gf:SS→R D)(gs:List (SS→R D)):SS→R D:=fun S=>(gf S).bind fun f=>onF fs f fun i=>bA (gs.map fun g=>g S) (t i)
theorem tR {fs:List Nat}{t:Nat→List D→R D}{gf:SS→R D}{gs:List (SS→R D)}(b:BX X F k)(hT:∀ i∈fs,FnV X.prog X.w F.K X.mg X.base F.C k i (t i))(hf:FE X F f gf)(ha:FAL X F (e::es) gs)
  (hev:eval (.Call f (e::es) [] pos) X.env=(do callWith pos (← eval f X.env) [] (backTo pos (starEach (e::es) X.env)) (backToKw pos (keywordEach [] X.env))):=by rfl)
  (he:starEach (e::es) X.env=(false,eval e X.env)::starEach es X.env:=by rfl) (hpl:(backTo pos (starEach es X.env)).any (·.1)=false:=by rfl) :
  FE X F (.Call f (e::es) [] pos) (eCV fs t gf gs) :=
 (tQ hf b.room b.pass ha.out hev he hpl).weak fun σ H Q ⟨Z,S,ok,w⟩=>by
  refine aH ok w fun d v H1 Z1 ok1 x1 rv w1=>?_
  cases d with
  | fn i =>
   by_cases hi:fs.contains i=true
   ·rw[Rep]at rv
    obtain⟨fd,ps,h1,h2,h3,h4⟩:=(hT i (by simpa using hi)).ex
    refine⟨F.C i,fd,ps,_,rv,by rw[b.K];exact h1,by rw[b.K];exact h2,by rw[b.K];exact h3,?_⟩
    have e0:onF fs (.fn i) (fun i=>bA (gs.map fun g=>g S) (t i))=(aL gs S).bind (t i):=by
     rw[cg]
     show (if fs.contains i=true then _ else R.stuck)=_
     rw[if_pos hi];rfl
    rw[e0]at w1
    refine aZ ok1 w1 fun ds vs H2 Z2 ok2 x2 rs w4=>?_
    by_cases hl:ds.length=ps.length
    ·refine⟨by rw[List.append_nil,← rs.length];exact hl,Z2,ds,ok2.sub,by rw[List.append_nil];exact rs,?_⟩
     cases q:t i ds with
     | ok d=>rw[q]at w4;exact w4
     | err k=>rw[q]at w4;exact w4
     | stuck=>rw[q]at w4;exact w4
    ·rw[h4 ds hl]at w4;exact w4.elim
   ·have e0:onF fs (.fn i) (fun i=>bA (gs.map fun g=>g S) (t i))=.stuck:=by
     show (if fs.contains i=true then _ else R.stuck)=_
     rw[if_neg hi]
    rw[e0]at w1
    exact w1.elim
  | _=>exact w1.elim
end
theorem my {S:SS}{g:D→SS→R SS}{c:SS→R Bool}{e:SS→R D}:∀ ds,noErr (compGo S g c e ds)=cGo (fun d=>(g d S).bind c) (fun d=>(g d S).bind e) ds
 | []=>rfl
 | d::r=>by
  have ih:=my (S:=S) (g:=g) (c:=c) (e:=e) r
  rw[cGo,compGo]
  cases q:g d S with
  | err k=>rfl
  | stuck=>rfl
  | ok S1 =>
   show noErr ((c S1).bind fun t=>if t=true then (e S1).bind fun y=>(compGo S g c e r).bind fun ys=>.ok (y::ys) else compGo S g c e r)=(match c S1 with
    | .ok true=>match e S1 with
     | .ok y=>match cGo _ _ r with
      | .ok ys=>.ok (y::ys)
      | _=>.stuck
     | _=>.stuck
    | .ok false=>cGo _ _ r
    | _=>.stuck)
   cases qc:c S1 with
   | err k=>rfl
   | stuck=>rfl
   | ok t =>
    cases t with
    | false=>exact ih
    | true =>
     show noErr ((e S1).bind fun y=>(compGo S g c e r).bind fun ys=>.ok (y::ys))=(match e S1 with
      | .ok y=>match cGo _ _ r with
       | .ok ys=>.ok (y::ys)
       | _=>.stuck
      | _=>.stuck)
     cases qe:e S1 with
     | err k=>rfl
     | stuck=>rfl
     | ok y =>
      rw[← ih]
      show noErr ((compGo S g c e r).bind fun ys=>.ok (y::ys))=(match noErr (compGo S g c e r) with
       | .ok ys=>.ok (y::ys)
       | _=>.stuck)
      cases compGo S g c e r<;>rfl
def eCC (own:Nat)(cap:List Nat)(it:SS→R (List D))(g:D→SS→R SS)(c:SS→R Bool)(e:SS→R D):SS→R D:=fun S=>(it S).bind fun ds=>(cGo (fun d=>(g d (blkS own cap S)).bind c) (fun d=>(g d (blkS own cap S)).bind e) ds).bind fun ys=>.ok (.lst ys)
theorem mz {own:Nat}{cap:List Nat}{it:SS→R (List D)}{g:D→SS→R SS}{c:SS→R Bool}{e:SS→R D}(S:SS):eComp own cap it g c e S=eCC own cap it g c e S:=by
 unfold eComp eCC
 exact cL fun ds=>by rw[my]
theorem fe_C {X:Cx}{F:Fx}{e:Expr}{own:Nat}{cap:List Nat}{it:SS→R (List D)}{g:D→SS→R SS}{c:SS→R Bool}{el:SS→R D}(h:FE X F e (eComp own cap it g c el)):FE X F e (eCC own cap it g c el):=fg h mz
theorem fs_C {X:Cx}{F:Fx}{st:Stmt}{n own:Nat}{cap:List Nat}{it:SS→R (List D)}{g:D→SS→R SS}{c:SS→R Bool}{el:SS→R D}(h:FS X F st (sSet n (eComp own cap it g c el))):FS X F st (sSet n (eCC own cap it g c el)):=f8 h fun S=>by unfold sSet;rw[mz]
section
variable {X:Cx}{F:Fx}{st:Stmt}{i:Nat}{g:SS→R D}
def sAppC (i:Nat)(g:SS→R D):SS→O:=fun S=>match S[i]? with
 | some (some (.own ds))=>rO (((g S).bind fun v=>oApp ds v).bind fun ds'=>.ok (.nx (S.set i (some (.own ds')))))
 | _=>.stuck
theorem mB {α:Type}(r:R D)(f:List D→R α):((r.bind fun d=>(R.ok []:R (List D)).bind fun ds=>R.ok (d::ds)).bind f)=r.bind fun d=>f [d]:=by cases r<;>rfl
theorem fs_A (h:FS X F st (sApp i (aL [g]))):FS X F st (sAppC i g):=f8 h fun S=>by
 unfold sApp sAppC
 cases q:S[i]? with
 | none=>rfl
 | some o =>
  cases o with
  | none=>rfl
  | some x =>
   cases x with
   | val d=>rfl
   | mat m=>rfl
   | dic m=>rfl
   | dit m=>rfl
   | own ds =>
    show rO (((g S).bind fun d=>(R.ok []:R (List D)).bind fun ds=>R.ok (d::ds)).bind _)=rO _
    rw[mB,R.bind_assoc]
    refine congrArg rO (cL fun v=>?_)
    unfold oApp
    show (if _ then _ else _)=_
    split<;>rfl
def sExtC (i:Nat)(g:SS→R D):SS→O:=fun S=>match S[i]? with
 | some (some (.own ds))=>rO (((g S).bind fun v=>oExt ds v).bind fun ds'=>.ok (.nx (S.set i (some (.own ds')))))
 | _=>.stuck
theorem fs_X (h:FS X F st (sExt i (aL [g]))):FS X F st (sExtC i g):=f8 h fun S=>by
 unfold sExt sExtC
 cases q:S[i]? with
 | none=>rfl
 | some o =>
  cases o with
  | none=>rfl
  | some x =>
   cases x with
   | val d=>rfl
   | mat m=>rfl
   | dic m=>rfl
   | dit m=>rfl
   | own ds =>
    show rO (((g S).bind fun d=>(R.ok []:R (List D)).bind fun ds=>R.ok (d::ds)).bind _)=rO _
    rw[mB,R.bind_assoc]
    refine congrArg rO (cL fun v=>?_)
    unfold oExt
    cases v with
    | lst xs=>by_cases hl:ds.length+xs.length≤16777216<;>simp[hl]
    | tup xs=>by_cases hl:ds.length+xs.length≤16777216<;>simp[hl]
    | _=>rfl
def sOwnC (i:Nat)(gs:List (SS→R D)):SS→O:=fun S=>rO ((eBA .ok gs S).bind fun ds=>.ok (.nx (S.set i (some (.own ds)))))
theorem fs_O {gs:List (SS→R D)}(h:FS X F st (sOwn i (aL gs)))(hl:gs.length≤16777216:=by exact Nat.le_of_ble_eq_true rfl):FS X F st (sOwnC i gs):=f8 h fun S=>by
 unfold sOwn sOwnC
 rw[← cg,R.bind_assoc]
 refine congrArg rO ?_
 cases q:aL gs S with
 | ok ds=>show (if ds.length≤16777216 then _ else _)=_;rw[if_pos (by rw[hG q];exact hl)];rfl
 | err k=>rfl
 | stuck=>rfl
end
section
variable {X:Cx}{F:Fx}{e tg:Expr}{g ga:SS→R D}{f:List D→List D→R D}{gs:List (SS→R D)}
def eML (f:List D→List D→R D)(g:SS→R D)(gs:List (SS→R D)):SS→R D:=fun S=>(g S).bind fun d=>onL d fun xs=>bA (gs.map fun g=>g S) (f xs)
theorem tU (h:FE X F e (eMethL f g (aL gs))):FE X F e (eML f g gs):=fg h fun S=>by
 unfold eMethL eML
 refine cL fun d=>?_
 cases d with
 | lst xs=>exact cg S gs (f xs)
 | _=>rfl
def eMT (f:List D→List D→R D)(g:SS→R D)(gs:List (SS→R D)):SS→R D:=fun S=>(g S).bind fun d=>onT d fun xs=>bA (gs.map fun g=>g S) (f xs)
theorem yt (h:FE X F e (eMethT f g (aL gs))):FE X F e (eMT f g gs):=fg h fun S=>by
 unfold eMethT eMT
 refine cL fun d=>?_
 cases d with
 | tup xs=>exact cg S gs (f xs)
 | _=>rfl
theorem pI {g g':SS→R (List D)}(h:FI X F tg e g)(hg:∀ S,g S=g' S):FI X F tg e g':=by
 have:g=g':=funext hg
 rw[← this];exact h
theorem f9 (h:FI X F tg e (iRange1 (aL gs))):FI X F tg e (eBA rng1 gs):=pI h fun S=>cg S gs rng1
theorem wA (h:FI X F tg e (iRange2 (aL gs))):FI X F tg e (eBA rng2 gs):=pI h fun S=>cg S gs rng2
end
theorem yu {k:D→L Unit}{ds:List D}(h:ds.length≠1):a1 k ds=.stuck:=by
 match ds,h with
 | [],_=>rfl
 | [_],h=>exact absurd rfl h
 | _::_::_,_=>rfl
section
variable {σ:Type}{X:Cx}{F:Fx}{S:SS}{st:Stmt}{rest:List Stmt}{J:σ→SS→Prop}
theorem vI (i j:Nat){ga gb:SS→R D}{ra rb:R D}{S':D→D→SS}{k:D→D→L σ}(h:FS X F st (sAsg (gTup [i,j]) (eTup (aL [ga,gb]))))(ha:ga S=ra)(hb:gb S=rb)(hS:∀ x y,(S.set i (some (.val x))).set j (some (.val y))=S' x y)
  (hk:∀ x y,FL X F (S' x y) rest J (k x y)):FL X F S (st::rest) J (lB ra fun x=>lB rb fun y=>k x y):=by
 have e:sAsg (gTup [i,j]) (eTup (aL [ga,gb])) S=rO ((ra.bind fun x=>rb.bind fun y=>R.ok (x,y)).bind fun p=>.ok (.nx (S' p.1 p.2))):=by
  unfold sAsg eTup
  show rO (((((ga S).bind fun d=>((gb S).bind fun d=>(R.ok []:R (List D)).bind fun ds=>R.ok (d::ds)).bind fun ds=>R.ok (d::ds)).bind fun ds=>if ds.length≤16777216 then R.ok (FF.D.tup ds) else .stuck)).bind fun d=>(gTup [i,j] d S).bind fun S1=>R.ok (O.nx S1))=_
  rw[ha,hb]
  cases ra with
  | err k=>rfl
  | stuck=>rfl
  | ok x =>
   cases rb with
   | err k=>rfl
   | stuck=>rfl
   | ok y=>show O.nx ((S.set i (some (.val x))).set j (some (.val y)))=O.nx (S' x y);rw[hS]
 have:=aj (rest:=rest) (J:=J) (S:=S) (r:=ra.bind fun x=>rb.bind fun y=>R.ok (x,y)) (S':=fun p=>S' p.1 p.2) (k:=fun p=>k p.1 p.2) h e fun p=>hk p.1 p.2
 have q:lB (ra.bind fun x=>rb.bind fun y=>R.ok (x,y)) (fun p=>k p.1 p.2)=lB ra fun x=>lB rb fun y=>k x y:=by
  cases ra with
  | ok x=>cases rb<;>rfl
  | err k=>rfl
  | stuck=>rfl
 rw[q]at this
 exact this
end
section
variable {P:Program}{w:World}{K:PySem.W.Frag}{mg:Str→Option Value}{base:Heap}
theorem vJ {x qual:Str}{st:Stmt}{f:Addr}{fd:FuncData}{N ps:List Str}{k:Nat}{C:Nat→Addr}{fn:List D→R D}(F:Fun K x qual st f fd)(S:FnScope N ps (defScope st))
  (h:∀ (cdv:Value) (A:Around) (outer:List Env) (s:Shared) (H Z:Hp) (E:XK),BX (bodyX P w K mg base N qual (defScope st) f cdv A outer s H E) ⟨K,C,H,Z,E⟩ k →
   PassesOwn (model P w) (bodyX P w K mg base N qual (defScope st) f cdv A outer s H E).A (bodyX P w K mg base N qual (defScope st) f cdv A outer s H E).env (bodyX P w K mg base N qual (defScope st) f cdv A outer s H E).xe →
   MadeX (bodyX P w K mg base N qual (defScope st) f cdv A outer s H E) ⟨K,C,H,Z,E⟩ →
   ∀ ds,ds.length=ps.length→∃ l:L Unit,fn ds=outL l∧FL (bodyX P w K mg base N qual (defScope st) f cdv A outer s H E) ⟨K,C,H,Z,E⟩ (startS N.length ds) (defBody st) JU l) :
  FnOk P w K mg base (CXE P w) (k+1) f fd ps (spF K C ps.length fn):=by
 obtain⟨oc,od,kV,doc,pm,an,cdv,ct,osl,rfl,lk,hcd⟩:=F.ex
 refine wx lk hcd S (fun vs H Q E q=>q.1) fun A outer s H vs Q E hr hsp=>?_
 obtain⟨hv,Z,ds,z,r,w⟩:=hsp
 obtain⟨l,e,hl⟩:=h cdv A outer s H Z E ⟨hr,rfl,rfl,kG⟩ PassesOwn.leaving (fun pins σ H1 s1 h1 ea C1 args I hx hE=>qH I hx hE) ds (by rw[r.length];exact hv)
 refine⟨_,hl,Z,mk (F:=⟨K,C,H,Z,E⟩) (N:=N) z r,?_⟩
 rw[e]at w
 cases l with
 | nx u=>exact fun S' ρ' H' Z' _ _ ok=>w H' Z' ok.ex .non (by rw[Rep])
 | rt d=>exact fun v H' Z' x rv=>w H' Z' x v rv
 | er k=>exact w
 | stuck=>exact w
end
theorem len1 {ds:List D}(h:ds.length=1):∃ a,ds=[a]:=by
 match ds,h with
 | [a],_=>exact⟨a,rfl⟩
theorem len2 {ds:List D}(h:ds.length=2):∃ a b,ds=[a,b]:=by
 match ds,h with
 | [a,b],_=>exact⟨a,b,rfl⟩
theorem len3 {ds:List D}(h:ds.length=3):∃ a b c,ds=[a,b,c]:=by
 match ds,h with
 | [a,b,c],_=>exact⟨a,b,c,rfl⟩
theorem len4 {ds:List D}(h:ds.length=4):∃ a b c d,ds=[a,b,c,d]:=by
 match ds,h with
 | [a,b,c,d],_=>exact⟨a,b,c,d,rfl⟩
theorem len5 {ds:List D}(h:ds.length=5):∃ a b c d e,ds=[a,b,c,d,e]:=by
 match ds,h with
 | [a,b,c,d,e],_=>exact⟨a,b,c,d,e,rfl⟩
section
variable {X:Cx}{F:Fx}{st:Stmt}{i:Nat}{g ge:SS→R D}
end
theorem tV {v v':V}{u:Value}(h:RelV v u)(h':RelV v' u):v=v':=by
 cases v<;>cases v'<;>simp only[L2.RelV]at h h'<;>first
  | rfl
  | (subst h;cases h';rfl)
  | (subst h;cases h';done)
  | (obtain⟨t,rfl⟩:=h;obtain⟨t',e⟩:=h';cases e;rfl)
  | (obtain⟨t,rfl⟩:=h;obtain⟨t',e⟩:=h';cases e;done)
  | (obtain⟨t,rfl⟩:=h;cases h';done)
  | (subst h;obtain⟨t',e⟩:=h';cases e;done)
section
variable {X:Cx}{F:Fx}{pins:List (Addr×Obj)}{σ:St}{H Z:Hp}{s:Shared}
open Classical in
noncomputable def itemB (P:Value→Prop) (u:Value):Bool:=if P u then true else false
theorem gg {K:PySem.W.Frag}{C:Nat→Addr}{n:Nat}{dx:D}{vx:V}{x:Value}(hK:X.K=K)(I:Inv X pins σ H s)(z:Same Z H)(gx:good n dx=true)(rx:Rep K C Z dx vx)(hx:RelV vx x){A:Around}(hu:A.units+n < cLine)(ds:List D)(hg:goods n ds=true){vs:List V}{us:List Value}(rs:Reps K C Z ds vs)(hv:Vals vs us) :
  ∃ e:Value→Bool,(∀ u∈us,SeqAt.EqAt A s u x (e u))∧us.any e=ds.any fun d=>eqD d dx:=by
 refine⟨itemB fun u=>∃ d v,good n d=true∧Rep K C Z d v∧RelV v u∧eqD d dx=true,?_⟩
 have key:∀ (d:D) (v:V) (u:Value),good n d=true→Rep K C Z d v→RelV v u→itemB (fun u=>∃ d v,good n d=true∧Rep K C Z d v∧RelV v u∧eqD d dx=true) u=eqD d dx:=fun d v u gd rd hd=>by
  unfold itemB
  by_cases h:eqD d dx=true
  ·rw[if_pos ⟨d,v,gd,rd,hd,h⟩,h]
  ·rw[if_neg,(by simpa using h:eqD d dx=false)]
   rintro ⟨d',v',g',r',h1,h2⟩
   have e1:=tV h1 hd
   subst e1
   rw[iX hK I z n d' d v' g' gd r' rd]at h2
   exact h h2
 induction ds generalizing vs us with
 | nil =>
  rw[Reps]at rs
  subst rs
  cases hv
  exact⟨fun u hu=>(nomatch hu),rfl⟩
 | cons d ds ih =>
  rw[Reps]at rs
  obtain⟨v,r,rfl,r1,r2⟩:=rs
  rw[goods,Bool.and_eq_true]at hg
  cases hv with
  | cons hv1 hv2 =>
   obtain⟨i1,i2⟩:=ih hg.2 r2 hv2
   refine⟨fun u hu'=>?_,?_⟩
   ·rcases List.mem_cons.mp hu' with e | e
    ·subst e
     rw[key d v _ hg.1 r1 hv1]
     exact fu hK I z n A d dx v vx _ _ hg.1 gx r1 rx hv1 hx hu
    ·exact i1 u e
   ·rw[List.any_cons,List.any_cons,i2,key d v _ hg.1 r1 hv1]
end
def rInD (K:PySem.W.Frag)(C:Nat→Addr)(neg:Bool):R2:=fun x y H Q=>∃ (Z:Hp) (dx:D) (ds:List D) (p:Addr) (vs:List V),Same Z H∧Rep K C Z dx x∧good 60 dx=true∧y=.ref p∧(SqL K Z p vs∨SqT K Z p vs)∧Reps K C Z ds vs∧goods 60 ds=true∧Q (.bl (if neg then !(ds.any fun d=>eqD d dx) else ds.any fun d=>eqD d dx)) H
section
variable {X:Cx}{F:Fx}{a b:Expr}{ga gb:SS→R D}{pos:Pos}{k:Nat}
theorem xF (hK:X.K=F.K)(hr:Room k X.A):OpR X (compareOp .In) (rInD F.K F.C false):=by
 intro pins s σ H x y v u Q I rx ry h
 obtain⟨Z,dx,ds,p,vs,z,rd,gd,rfl,hq,rs,gs,q⟩:=h
 cases ry
 have hu:X.A.in1.units+60 < cLine:=by have:=hr.un;show X.A.units+1+60 < cLine;omega
 rcases hq with hq | hq
 ·obtain⟨its,r,pl,hz⟩:=I.list (by rw[hK];exact z.seq hq)
  obtain⟨e,e1,e2⟩:=gg hK I z gd rd rx hu ds gs rs r
  refine SeqAt.in_listAt e pl.isList (fun w hw=>e1 w (by simpa using hw)) ⟨.bl _,H,I,rfl,?_⟩
  rw[show its.toArray.any e=its.any e by simp,e2]
  exact q
 ·obtain⟨its,r,pl,hz⟩:=I.tuple (by rw[hK];exact hq.mono z)
  obtain⟨e,e1,e2⟩:=gg hK I z gd rd rx hu ds gs rs r
  refine SeqAt.in_tupleAt e pl (fun w hw=>e1 w (by simpa using hw)) ⟨.bl _,H,I,rfl,?_⟩
  rw[show its.toArray.any e=its.any e by simp,e2]
  exact q
theorem qZ (hK:X.K=F.K)(hr:Room k X.A):OpR X (compareOp .NotIn) (rInD F.K F.C true):=by
 intro pins s σ H x y v u Q I rx ry h
 obtain⟨Z,dx,ds,p,vs,z,rd,gd,rfl,hq,rs,gs,q⟩:=h
 cases ry
 have hu:X.A.in1.units+60 < cLine:=by have:=hr.un;show X.A.units+1+60 < cLine;omega
 rcases hq with hq | hq
 ·obtain⟨its,r,pl,hz⟩:=I.list (by rw[hK];exact z.seq hq)
  obtain⟨e,e1,e2⟩:=gg hK I z gd rd rx hu ds gs rs r
  refine SeqAt.notIn_listAt e pl.isList (fun w hw=>e1 w (by simpa using hw)) ⟨.bl _,H,I,rfl,?_⟩
  rw[show its.toArray.any e=its.any e by simp,e2]
  exact q
 ·obtain⟨its,r,pl,hz⟩:=I.tuple (by rw[hK];exact hq.mono z)
  obtain⟨e,e1,e2⟩:=gg hK I z gd rd rx hu ds gs rs r
  refine SeqAt.notIn_tupleAt e pl (fun w hw=>e1 w (by simpa using hw)) ⟨.bl _,H,I,rfl,?_⟩
  rw[show its.toArray.any e=its.any e by simp,e2]
  exact q
theorem pJ {dx dy:D}{r:R D}(h:dInD dx dy=r):(∃ ds,(dy=.tup ds∨dy=.lst ds)∧good 60 dx=true∧goods 60 ds=true∧r=.ok (.bl (ds.any fun d=>eqD d dx)))∨r=.stuck:=by
 subst h
 cases dy with
 | tup ds =>
  show _∨(if good 60 dx=true∧goods 60 ds=true then _ else _)=_
  by_cases q:good 60 dx=true∧goods 60 ds=true
  ·exact .inl ⟨ds,.inl rfl,q.1,q.2,if_pos q⟩
  ·exact .inr (if_neg q)
 | lst ds =>
  show _∨(if good 60 dx=true∧goods 60 ds=true then _ else _)=_
  by_cases q:good 60 dx=true∧goods 60 ds=true
  ·exact .inl ⟨ds,.inr rfl,q.1,q.2,if_pos q⟩
  ·exact .inr (if_neg q)
 | _=>exact .inr rfl
theorem vK:OpD F (rInD F.K F.C false) dInD:=by
 intro H Z x y dx dy Q s rx ry w
 rcases pJ (dx:=dx) (dy:=dy) rfl with ⟨ds,hd,g1,g2,e⟩ | e
 ·rw[e]at w
  rcases hd with rfl | rfl
  ·rw[Rep]at ry
   obtain⟨p,vs,rfl,h1,h2⟩:=ry
   exact⟨Z,dx,ds,p,vs,s,rx,g1,rfl,.inr h1,h2,g2,WG.now w s _ aR⟩
  ·rw[Rep]at ry
   obtain⟨p,vs,rfl,h1,h2⟩:=ry
   exact⟨Z,dx,ds,p,vs,s,rx,g1,rfl,.inl h1,h2,g2,WG.now w s _ aR⟩
 ·rw[e]at w;exact w.elim
theorem oA:OpD F (rInD F.K F.C true) dNotInD:=by
 intro H Z x y dx dy Q s rx ry w
 unfold dNotInD at w
 rcases pJ (dx:=dx) (dy:=dy) rfl with ⟨ds,hd,g1,g2,e⟩ | e
 ·rw[e]at w
  have w2:WG F H Z (R.ok (FF.D.bl (!(ds.any fun d=>eqD d dx)))) (fun d H' Z'=>∀ v,Rep F.K F.C Z' d v→Q v H'):=w
  rcases hd with rfl | rfl
  ·rw[Rep]at ry
   obtain⟨p,vs,rfl,h1,h2⟩:=ry
   exact⟨Z,dx,ds,p,vs,s,rx,g1,rfl,.inr h1,h2,g2,WG.now w2 s _ aR⟩
  ·rw[Rep]at ry
   obtain⟨p,vs,rfl,h1,h2⟩:=ry
   exact⟨Z,dx,ds,p,vs,s,rx,g1,rfl,.inl h1,h2,g2,WG.now w2 s _ aR⟩
 ·rw[e]at w;exact w.elim
theorem xG (bx:BX X F k)(ha:FE X F a ga)(hb:FE X F b gb)(hm:behindInMarks .In b=false:=by rfl):FE X F (.Compare a [.In] [b] pos) (eOp dInD ga gb):=oh (xF bx.K bx.room) vK ha hb (hm:=hm)
theorem kM (bx:BX X F k)(ha:FE X F a ga)(hb:FE X F b gb)(hm:behindInMarks .NotIn b=false:=by rfl):FT X F (.Compare a [.NotIn] [b] pos) (gB (eOp dNotInD ga gb)):=gY (qZ bx.K bx.room) oA ha hb (hm:=hm)
end
section
variable {X:Cx}{F:Fx}{p pos:Pos}{e e2:Expr}{gs:SS→R (List D)}{k:Nat}
end
section
variable {X:Cx}{F:Fx}{pos p1 p2:Pos}{x y:Str}{kk:Nat}
theorem lH (i j:Nat)(hc:X.calm=true)(hN:X.N.Nodup)(hij:i≠j:=by decide)(hi:X.N[i]?=some x:=by rfl)(hj:X.N[j]?=some y:=by rfl)(hx:Loc X.env.scope x:=by first | exact Or.inl rfl | exact Or.inr rfl)(hy:Loc X.env.scope y:=by first | exact Or.inl rfl | exact Or.inr rfl)
  (hfx:X.fn x=true∨X.env.scope.names.lookup x=some .local:=by first | exact .inl rfl | exact .inr rfl) (hfy:X.fn y=true∨X.env.scope.names.lookup y=some .local:=by first | exact .inl rfl | exact .inr rfl)
  (hK:X.K=F.K:=by first | rfl | assumption) (hn:(assignEach [.Name x p1,.Name y p2] X.env).length=2:=by rfl) (hst:(assignEach [.Name x p1,.Name y p2] X.env).findIdx? (·.1)=none:=by rfl):FG X F (.Tuple [.Name x p1,.Name y p2] kk pos) (gTup [i,j]) :=
 (sA hc (cp (cD (i:=i) hN hi hx hfx) (cp (cD (i:=j) hN hj hy hfy) lg)) hn hst).weak fun v σ H Q ⟨Z,S,d,ok,rd,w⟩=>by
  cases d with
  | tup ds =>
   match ds with
   | [a,b] =>
    rw[Rep]at rd
    obtain⟨c,vs,rfl,h1,h2⟩:=rd
    rw[Reps]at h2
    obtain⟨v1,r,rfl,q1,h2⟩:=h2
    rw[Reps]at h2
    obtain⟨v2,r,rfl,q2,h2⟩:=h2
    rw[Reps]at h2
    subst h2
    refine⟨c,[v1,v2],rfl,by rw[hK];exact h1.mono ok.sub,rfl,v1,[v2],rfl,v2,[],rfl,rfl,?_⟩
    exact WG.now w ok.sub _ ((ok.setVal (i:=i) q1).setVal (i:=j) q2)
   | []=>exact w.elim
   | [_]=>exact w.elim
   | a::b::c::r =>
    have e:gTup [i,j] (.tup (a::b::c::r)) S=.stuck:=by unfold gTup;simp
    rw[e]at w
    exact w.elim
  | _=>exact w.elim
end
theorem iC:∀ (l acc:List Int),l.foldl step_dedup acc=acc++(l.filter fun x=>!acc.any (· == x)).eraseDups
 | [],acc=>by simp
 | x::l,acc=>by
  rw[List.foldl_cons,iC l]
  unfold step_dedup
  by_cases h:acc.any (· == x)=true
  ·rw[if_pos h,List.filter_cons_of_neg (by rw[h];decide)]
  ·have h':acc.any (· == x)=false:=Bool.not_eq_true _ ▸ h
   have ef:(l.filter fun y=>!(acc++[x]).any (· == y))=(l.filter fun y=>!acc.any (· == y)).filter fun b=>!b==x:=by
    rw[List.filter_filter]
    refine List.filter_congr fun y _=>?_
    rw[List.any_append]
    have:([x].any fun z=>z==y)=(y==x):=by simp[Bool.beq_comm,BEq.comm]
    rw[this]
    cases acc.any (· == y)<;>cases (y==x)<;>rfl
   rw[if_neg h,List.filter_cons_of_pos (by rw[h'];rfl),List.eraseDups_cons,ef,List.append_assoc]
   rfl
theorem kj (is:List Int):(firstMet (fun i=>is.getD i 0) is.length).length=is.eraseDups.length:=by
 unfold firstMet
 rw[iC]
 have:(List.range is.length).map (fun i=>is.getD i 0)=is:=by
  apply List.ext_getElem?
  intro i
  rw[List.getElem?_map]
  by_cases h:i < is.length
  ·rw[List.getElem?_range h,List.getElem?_eq_getElem h];simp[List.getD,h]
  ·rw[List.getElem?_eq_none (by simpa using h),List.getElem?_eq_none (by simpa using h)];rfl
 rw[this]
 have:(is.filter fun x=>!([]:List Int).any (· == x))=is:=List.filter_eq_self.mpr fun _ _=>rfl
 rw[this,List.nil_append]
section
variable {X:Cx}{F:Fx}{p p2 pos pos2:Pos}{e:Expr}{gs:SS→R (List D)}{k:Nat}
theorem tW (hc:X.calm=true):CallR X (.type "set") (fun xs H Q=>∃ (p:Addr) (is:List Int),xs=[.ref p]∧SqL X.K H p (is.map V.int)∧is.length≤4000∧∀ a,H a=none→Q (.ref a) (upd H a (.set (fun k'=>(firstMet (fun i=>is.getD i 0) is.length).any (· == k')) is.eraseDups.length))):=by
 intro pins s σ H xs us Q I r h
 obtain⟨p,is,rfl,hq,hl,q⟩:=h
 obtain⟨u,rfl,ru⟩:=vals1 r
 cases ru
 obtain⟨its,rv,pl,hz⟩:=I.list hq
 obtain⟨ps,rfl,e⟩:=b6 rv
 have hlen:ps.length=is.length:=by rw[← e,List.length_map]
 have hs:(ps.map fun p=>Value.int p.1 p.2).toArray.size=is.length:=by simp[hlen]
 refine call_set_list (ns:=is) (I.ok.hd hc) pl.isList ?_ (by rw[hs];show is.length+1 < 4096;omega) fun h' tk hS hk=>?_
 ·have:∀ (ps:List (Int×Tok)),IntsAre (ps.map fun p=>Value.int p.1 p.2) (ps.map (·.1)):=by
   intro ps
   induction ps with
   | nil=>exact .nil
   | cons a l ih=>exact .cons a.1 a.2 ih
  rw[← e]
  exact this ps
 ·rw[hs,kj]at hS
  exact⟨.ref s.heap.objs.size,_,I.laid (o:=.set (fun k'=>(firstMet (fun i=>is.getD i 0) is.length).any (· == k')) is.eraseDups.length) (t':=tk) (fun b u q=>hk b u (Heap.lt_size q) q) (Nat.le_refl _) hS,rfl,q _ I.fresh⟩
theorem mC:CallR X (.builtin "len") (fun xs H Q=>∃ (a:Addr) (S:Int→Bool) (n:Nat),xs=[.ref a]∧H a=some (.set S n)∧Q (.int n) H):=by
 intro pins s σ H xs us Q I r h
 obtain⟨a,S,n,rfl,hq,q⟩:=h
 obtain⟨u,rfl,ru⟩:=vals1 r
 cases ru
 obtain⟨o,es,ep,t,h1,h2,h3,h4,h5,h6,h7,h8⟩:=(show s.heap.SetOf (intKind X.prog X.w) a S n from I.hok a _ hq)
 subst h8
 have:es.size < 4096:=h6
 exact call_len_set h1 h2 h3 h7 (by omega) ⟨.int es.size,H,I.tok _,⟨_,rfl⟩,q⟩
theorem q0 (bx:BX X F k)(hg:Gl X "len")(hm:X.mg "len"=none)(hg2:Gl X "set")(hm2:X.mg "set"=none)(ha:FA X F [e] gs)(he:starEach [e] X.env=(false,eval e X.env)::starEach [] X.env:=by rfl)(hpl:(backTo pos2 (starEach [] X.env)).any (·.1)=false:=by rfl)
  (he2:starEach [.Call (.Name "set" p2) [e] [] pos2] X.env=(false,eval (.Call (.Name "set" p2) [e] [] pos2) X.env)::starEach [] X.env:=by rfl) (hpl2:(backTo pos (starEach [] X.env)).any (·.1)=false:=by rfl) :
  FE X F (.Call (.Name "len" p) [.Call (.Name "set" p2) [e] [] pos2] [] pos) (eCall dLenSet gs) :=
 (dz mC hg hm PySem.boot_len (fe (kD (tW bx.calm) hg2 hm2 (by decide +kernel) ha (he:=he) (hpl:=hpl)) jb he2) (he:=he2) (hpl:=hpl2)).weak fun σ H Q ⟨Z,S,ok,w⟩=>by
  refine aZ ok w fun ds vs H1 Z1 ok1 x1 rs w1=>?_
  unfold dLenSet at w1
  split at w1
  ·rename_i xs
   split at w1
   ·rename_i is e
    split at w1
    ·rename_i hl
     obtain⟨v,rfl,h⟩:=bL rs
     rw[Rep]at h
     obtain⟨a,us,rfl,h1,h2⟩:=h
     have e2:=dU h2 e
     subst e2
     refine⟨a,is,rfl,by rw[bx.K];exact ok1.sub.seq h1,hl,fun c hc=>⟨c,_,_,rfl,av,?_⟩⟩
     exact w1 _ _ (Ex.hidden ok1.sub hc) _ aO
    ·exact w1.elim
   ·exact w1.elim
  ·exact w1.elim
end
section
variable {X:Cx}{F:Fx}
def gNames:List Nat→TGs
 | []=>gNil
 | i::r=>gCons (gName i) (gNames r)
theorem kN {H Z:Hp}{Q:St→Hp→Prop}:∀ (ix:List Nat) (ds:List D) (vs:List V) (S:SS) (σ:St),ds.length=ix.length→Reps F.K F.C Z ds vs→StOk F H Z S σ→(∀ σ',StOk F H Z (setAll ix ds S) σ'→Q σ' H)→gNames ix vs σ H Q
 | [],[],vs,S,σ,_,rs,ok,h=>by
  rw[Reps]at rs
  subst rs
  exact⟨rfl,h σ ok⟩
 | i::ix,d::ds,vs,S,σ,hl,rs,ok,h=>by
  rw[Reps]at rs
  obtain⟨v,r,rfl,q,rs⟩:=rs
  exact⟨v,r,rfl,kN ix ds r _ _ (by simpa using hl) rs (ok.setVal (i:=i) q) h⟩
 | [],_::_,_,_,_,hl,_,_,_=>by simp at hl
 | _::_,[],_,_,_,hl,_,_,_=>by simp at hl
theorem mD {es:List Expr}{kk:Nat}{pos:Pos}(ix:List Nat)(hc:X.calm=true)(h:PGs X es (gNames ix))(hn:(assignEach es X.env).length=ix.length)(hst:(assignEach es X.env).findIdx? (·.1)=none)(hK:X.K=F.K):FG X F (.Tuple es kk pos) (gTup ix) :=
 (sA hc h hn hst).weak fun v σ H Q ⟨Z,S,d,ok,rd,w⟩=>by
  cases d with
  | tup ds =>
   by_cases hl:ds.length=ix.length
   ·have w':WG F H Z (R.ok (setAll ix ds S)) fun S' H' Z'=>∀ σ',StOk F H' Z' S' σ'→Q σ' H':=by
     have e:gTup ix (.tup ds) S=R.ok (setAll ix ds S):=by unfold gTup;simp[hl]
     rw[e]at w;exact w
    have rd':=rd
    rw[Rep]at rd'
    obtain⟨c,vs,rfl,h1,h2⟩:=rd'
    refine⟨c,vs,rfl,by rw[hK];exact h1.mono ok.sub,by rw[← h2.length,hl],?_⟩
    exact kN ix ds vs S σ hl h2 ok (WG.now w' ok.sub)
   ·have e:gTup ix (.tup ds) S=R.stuck:=by unfold gTup;simp[hl]
    rw[e]at w
    exact w.elim
  | _=>exact w.elim
theorem pK {tg e:Expr}{pos:Pos}{ge:SS→R D}{g:D→SS→R SS}(he:FE X F e ge)(hg:FG X F tg g)(hs:swapsWithSole [tg] e pos.line X.env=pure false)(hw:swappedStores [tg] e X.env=pure none)(h1:(assignEach [tg] X.env).map (·.2)=[assign tg X.env]):FS X F (.Assign [tg] e pos) (sAsg g ge) :=
 (wV he hg hs hw h1).weak fun D σ H ⟨Z,S,ok,w⟩=>aH ok (WO.wg ok w) fun d v H1 Z1 ok1 x1 rv w1=>by
  refine⟨Z1,S,d,ok1,rv,?_⟩
  cases q:g d S with
  | ok S1 =>
   rw[q]at w1
   intro H' Z' x' σ' ok'
   exact(w1 H' Z' x') _ _ _ (Same.refl _) ok'
  | err k=>rw[q]at w1;exact w1
  | stuck=>rw[q]at w1;exact w1
variable {σ:Type}{S:SS}{rest:List Stmt}{J:σ→SS→Prop}{e:Expr}{ge:SS→R D}{r:R D}{n:Nat}
theorem xH {tg:Expr}{pos:Pos}{ix:List Nat}{U:D→L σ}(h:FS X F (.Assign [tg] e pos) (sAsg (gTup ix) ge))(hr:ge S=r)
  (hU:∀ d,(∃ ds,d=.tup ds∧ds.length=ix.length∧FL X F (setAll ix ds S) rest J (U d))∨(gTup ix d S=.stuck∧U d=.stuck)):FL X F S (.Assign [tg] e pos::rest) J (lB r U):=by
 have hg:sAsg (gTup ix) ge S=rO ((r.bind fun d=>(gTup ix d S).bind fun S1=>R.ok (d,S1)).bind fun p=>.ok (.nx p.2)):=by
  unfold sAsg
  rw[hr]
  cases r with
  | ok d=>show rO ((gTup ix d S).bind _)=rO (((gTup ix d S).bind _).bind _);cases gTup ix d S<;>rfl
  | err k=>rfl
  | stuck=>rfl
 cases r with
 | ok d =>
  rcases hU d with ⟨ds,rfl,hl,hk⟩ | ⟨e1,e2⟩
  ·have e3:gTup ix (.tup ds) S=.ok (setAll ix ds S):=by unfold gTup;simp[hl]
   have:sAsg (gTup ix) ge S=.nx (setAll ix ds S):=by
    unfold sAsg;rw[hr];show rO ((gTup ix (.tup ds) S).bind _)=_;rw[e3];rfl
   exact aV h this hk
  ·show FL X F S _ J (U d)
   rw[e2]
   intro pins s σ' H D I ⟨Z,ok,w⟩
   exact w.elim
 | err k=>exact aj (k:=fun (p:D×SS)=>L.stuck) (S':=fun p=>p.2) (r:=R.err k) h (by unfold sAsg;rw[hr];rfl) (fun a=>by intro pins s σ' H D I ⟨Z,ok,w⟩;exact w.elim)
 | stuck=>intro pins s σ' H D I ⟨Z,ok,w⟩;exact w.elim
theorem tX (i j l m:Nat){x y z u:Str}{p1 p2 p3 p4 tp pos:Pos}{kk:Nat}{S':D→D→D→D→SS}{k:D→D→D→D→L σ}(bx:BX X F n)(hN:X.N.Nodup)(he:FE X F e ge)(hr:ge S=r)(hS:∀ a b c d,(((S.set i (some (.val a))).set j (some (.val b))).set l (some (.val c))).set m (some (.val d))=S' a b c d)(hk:∀ a b c d,FL X F (S' a b c d) rest J (k a b c d))
  (hi:X.N[i]?=some x:=by rfl) (hj:X.N[j]?=some y:=by rfl) (hl:X.N[l]?=some z:=by rfl) (hm:X.N[m]?=some u:=by rfl) (hx:Loc X.env.scope x:=by first | exact Or.inl rfl | exact Or.inr rfl) (hy:Loc X.env.scope y:=by first | exact Or.inl rfl | exact Or.inr rfl) (hz:Loc X.env.scope z:=by first | exact Or.inl rfl | exact Or.inr rfl) (hu:Loc X.env.scope u:=by first | exact Or.inl rfl | exact Or.inr rfl)
  (hfx:X.fn x=true∨X.env.scope.names.lookup x=some .local:=by first | exact .inl rfl | exact .inr rfl) (hfy:X.fn y=true∨X.env.scope.names.lookup y=some .local:=by first | exact .inl rfl | exact .inr rfl) (hfz:X.fn z=true∨X.env.scope.names.lookup z=some .local:=by first | exact .inl rfl | exact .inr rfl) (hfu:X.fn u=true∨X.env.scope.names.lookup u=some .local:=by first | exact .inl rfl | exact .inr rfl)
  (hn:(assignEach [.Name x p1,.Name y p2,.Name z p3,.Name u p4] X.env).length=4:=by rfl) (hst:(assignEach [.Name x p1,.Name y p2,.Name z p3,.Name u p4] X.env).findIdx? (·.1)=none:=by rfl)
  (hs:swapsWithSole [.Tuple [.Name x p1,.Name y p2,.Name z p3,.Name u p4] kk tp] e pos.line X.env=pure false:=by rfl) (hw:swappedStores [.Tuple [.Name x p1,.Name y p2,.Name z p3,.Name u p4] kk tp] e X.env=pure none:=by rfl)
  (h1:(assignEach [.Tuple [.Name x p1,.Name y p2,.Name z p3,.Name u p4] kk tp] X.env).map (·.2)=[assign (.Tuple [.Name x p1,.Name y p2,.Name z p3,.Name u p4] kk tp) X.env]:=by rfl):FL X F S (.Assign [.Tuple [.Name x p1,.Name y p2,.Name z p3,.Name u p4] kk tp] e pos::rest) J (lB r fun d=>lUn4 d fun a b c d=>k a b c d):=by
 refine xH (ix:=[i,j,l,m]) (pK he (mD [i,j,l,m] bx.calm (cp (cD hN hi hx hfx) (cp (cD hN hj hy hfy) (cp (cD hN hl hz hfz) (cp (cD hN hm hu hfu) lg)))) hn hst bx.K) hs hw h1) hr fun d=>?_
 cases d with
 | tup ds =>
  match ds with
  | [a,b,c,d]=>exact .inl ⟨_,rfl,rfl,by have:=hk a b c d;rw[← hS]at this;exact this⟩
  | []=>exact .inr ⟨rfl,rfl⟩
  | [_]=>exact .inr ⟨rfl,rfl⟩
  | [_,_]=>exact .inr ⟨rfl,rfl⟩
  | [_,_,_]=>exact .inr ⟨rfl,rfl⟩
  | _::_::_::_::_::_=>exact .inr ⟨by unfold gTup;simp,rfl⟩
 | _=>exact .inr ⟨rfl,rfl⟩
end
end FF
end
noncomputable section
namespace L2
open PySem PySem.Spec PyProof.Rows
section
variable {X:Cx}{pos:Pos}
end
end L2
namespace FF
open PySem PySem.Spec PyProof.Rows L2
section
variable {X:Cx}{F:Fx}{σ:Type}{S:SS}{st:Stmt}{rest:List Stmt}{J:σ→SS→Prop}
end
section
variable {prog:Program}{w:World}{A:Around}{E:Value→Shared→Prop}{s:Shared}
theorem gh {it t:Addr}{i:Nat}{items:Array Value}{x:Value}{Q:Value→Shared→Prop}(hit:s.heap.IsTupleIter it t i)
  (hl:s.heap.IsTuple t items) (hx:items[i]?=some x)
  (hQ:∀ h',h'.IsTupleIter it t (i+1)→Heap.SameBut it s.heap h'→Q x { s with heap:=h' }) :
  wpAny (model prog w) A (Builtin.SmallTypes.nextOf (.ref it)) Q E s:=by
 obtain⟨o,ho,hc,hd⟩:=id hit
 obtain⟨ol,hol,_,nl,hdl⟩:=hl
 unfold Builtin.SmallTypes.nextOf
 refine wpAny_bind (wpAny_callSpecial?_slot (name:=Str.ofString "__next__") hit.typeIs F.slot_tuple_iterator_next
  (wpAny_call_entry F.slot_tuple_iterator_next hit.typeIs F.entry_tuple_iterator_next ?_ (F.args_tuple_iterator_next_1 _)))
 show wpAny _ _ (field (.ref it) 0 >>= _) _ _ s
 refine wpAny_bind (wpAny_field ho hd (x:=.ref t) rfl ?_)
 show wpAny _ _ (if (Value.ref t==Value.none)=true then _ else _) _ _ s
 rw[if_neg (show ¬ ((Value.ref t==Value.none)=true) from Bool.false_ne_true)]
 show wpAny _ _ (field (.ref it) 1 >>= _) _ _ s
 refine wpAny_bind (wpAny_field ho hd (x:=.int i 0) rfl ?_)
 show wpAny _ _ (seqItems? (.ref t) >>= _) _ _ s
 refine wpAny_bind (wpAny_seqItems hol hdl ?_)
 simp only[Int.toNat_natCast,hx]
 refine wpAny_bind (wpAny_setField ho hd (by simp) (wpAny_pure ⟨x,rfl,wpAny_pure (hQ _ ?_ (Heap.SameBut.update ..))⟩))
 exact⟨_,Heap.get?_update_self _ ho (Obj.isFreed_of_fields (Obj.data_mapFields hd _)),(Obj.cls_mapFields ..).trans hc,by
  rw[Obj.data_mapFields hd];simp[rawInt]⟩
theorem hI {it t:Addr}{i:Nat}{items:Array Value}{Q:Value→Shared→Prop}(hh:A.handled=none)
  (hit:s.heap.IsTupleIter it t i) (hl:s.heap.IsTuple t items) (hx:items[i]?=none)
  (hE:∀ h' e,Heap.ExtBut it s.heap h'→(∃ o,h'.get? e=some o∧o.cls=.type "StopIteration")→E (.ref e) { s with heap:=h' }) :
  wpAny (model prog w) A (Builtin.SmallTypes.nextOf (.ref it)) Q E s:=by
 obtain⟨o,ho,hc,hd⟩:=id hit
 obtain⟨ol,hol,_,nl,hdl⟩:=hl
 unfold Builtin.SmallTypes.nextOf
 refine wpAny_bind (wpAny_callSpecial?_slot (name:=Str.ofString "__next__") hit.typeIs F.slot_tuple_iterator_next
  (wpAny_call_entry F.slot_tuple_iterator_next hit.typeIs F.entry_tuple_iterator_next ?_ (F.args_tuple_iterator_next_1 _)))
 show wpAny _ _ (field (.ref it) 0 >>= _) _ _ s
 refine wpAny_bind (wpAny_field ho hd (x:=.ref t) rfl ?_)
 show wpAny _ _ (if (Value.ref t==Value.none)=true then _ else _) _ _ s
 rw[if_neg (show ¬ ((Value.ref t==Value.none)=true) from Bool.false_ne_true)]
 show wpAny _ _ (field (.ref it) 1 >>= _) _ _ s
 refine wpAny_bind (wpAny_field ho hd (x:=.int i 0) rfl ?_)
 show wpAny _ _ (seqItems? (.ref t) >>= _) _ _ s
 refine wpAny_bind (wpAny_seqItems hol hdl ?_)
 simp only[Int.toNat_natCast,hx]
 refine wpAny_bind (wpAny_rule (wpAny_bind (wpAny_setField ho hd (by simp) ?_)))
 show wpAny _ _ (newExc (.type "StopIteration") [] >>= _) _ _ _
 refine wpAny_bind ?_
 simp only[newExc,newTuple]
 refine wpAny_bind (wpAny_newObj_type ?_ (by size_fits))
 refine wpAny_bind (m:=firstArgMember _ _) (wpAny_of_eq (a:=Value.none) (by first | rfl | (simp only[firstArgMember];rfl)) ?_)
 refine wpAny_newObj_type ?_ (by size_fits)
 simp only[raiseNew]
 refine wpAny_bind (wpAny_handled ?_)
 first | rw[show A.in1.handled=none from hh] | rw[hh]
 refine wpAny_bind (wpAny_pure (wpAny_throw ?_))
 exact hE _ _ (((Heap.SameBut.update ..).extBut.push _).push _) ⟨_,Heap.get?_push_size _ rfl,rfl⟩
def SIt (h:Heap)(b:Bool)(it a:Addr)(k:Nat):Prop:=if b=true then h.IsTupleIter it a k else h.IsListIter it a k
def SOb (h:Heap)(b:Bool)(a:Addr)(xs:Array Value):Prop:=if b=true then h.IsTuple a xs else h.IsList a xs
theorem SIt.at {h h':Heap}{b:Bool}{it a:Addr}{k:Nat}(x:SIt h b it a k)(f:∀ o,h.get? it=some o→h'.get? it=some o):SIt h' b it a k:=by
 cases b<;>(obtain⟨o,ho,r⟩:=x;exact⟨o,f o ho,r⟩)
theorem SOb.at {h h':Heap}{b:Bool}{a:Addr}{xs:Array Value}(x:SOb h b a xs)(f:∀ o,h.get? a=some o→h'.get? a=some o):SOb h' b a xs:=by
 cases b<;>(obtain⟨o,ho,r⟩:=x;exact⟨o,f o ho,r⟩)
theorem SIt.lt {h:Heap}{b:Bool}{it a:Addr}{k:Nat}(x:SIt h b it a k):∃ o,h.get? it=some o∧∀ v,o.data≠.cell v:=by
 cases b<;>(obtain⟨o,ho,_,hd⟩:=x;exact⟨o,ho,fun v z=>by rw[hd]at z;cases z⟩)
theorem q9 {b:Bool}{it a:Addr}{i:Nat}{items:Array Value}{x:Value}{Q:Value→Shared→Prop}(hit:SIt s.heap b it a i)(hl:SOb s.heap b a items)(hx:items[i]?=some x)
  (hQ:∀ h',SIt h' b it a (i+1)→Heap.SameBut it s.heap h'→Q x { s with heap:=h' }):wpAny (model prog w) A (Builtin.SmallTypes.nextOf (.ref it)) Q E s:=by
 cases b with
 | true=>exact gh hit hl hx hQ
 | false=>exact wpAny_nextOf_list_item hit hl hx hQ
theorem mE {b:Bool}{it a:Addr}{i:Nat}{items:Array Value}{Q:Value→Shared→Prop}(hh:A.handled=none)(hit:SIt s.heap b it a i)(hl:SOb s.heap b a items)(hx:items[i]?=none)
  (hE:∀ h' e,Heap.ExtBut it s.heap h'→(∃ o,h'.get? e=some o∧o.cls=.type "StopIteration")→E (.ref e) { s with heap:=h' }):wpAny (model prog w) A (Builtin.SmallTypes.nextOf (.ref it)) Q E s:=by
 cases b with
 | true=>exact hI hh hit hl hx hE
 | false=>exact wpAny_nextOf_list_end hh hit hl hx hE
end
section
variable {X:Cx}{pins:List (Addr×Obj)}{σ:St}{H:Hp}{s:Shared}{h':Heap}
theorem mF {h:Heap}{b:Addr}{o x:Obj}(q:b≠h.objs.size)(e:(h.push x).get? b=some o):h.get? b=some o:=by
 rcases Heap.get?_push_cases e with ⟨z,_⟩ | z
 ·exact absurd z q
 ·exact z
theorem turnedL {t':Nat}{fp:List Addr}(I:Inv X pins σ H s)(hf:∀ b∈fp,FpOk X pins H b)(k:∀ b o,b∉fp→s.heap.get? b=some o→h'.get? b=some o):Inv X pins σ H { s with heap:=h',toks:=t' }:=by
 have nit:∀ b u,H b=some u→b∉fp:=fun b u e z=>by rw[(hf b z).1]at e;cases e
 refine I.step (g':=s.gens) (d':=s.drawn) (ch:=fp) (fun b hb=>?_) (fun b o _ _ hc e _=>k b o hc e) (fun b o _ _ hc e _=>⟨o.slots,k b o hc e⟩) (fun _ _ _ _ n=>n)
  (fun b o hc e=>⟨o,k b o hc e⟩) (fun _ _ e=>e) (fun _ _ _ e=>e) (fun b ps e=>⟨#[],by rw[e];simp⟩) (fun m hm=>?_) (fun b u e=>?_) I.bare
 ·obtain⟨_,f1,f2,f3,f4,f5⟩:=hf b hb
  exact⟨f3,f1,f4,f5⟩
 ·obtain⟨o,es,ep,ho,r⟩:=hm
  exact⟨o,es,ep,k _ o (fun z=>(hf _ z).2.1 rfl) ho,r⟩
 ·refine(I.hok b u e).stay (fun c v hc q=>k c v ?_ q) (fun _ q=>q) fun _ _ q=>q
  rcases hc with z | z
  ·rw[z];exact nit b u e
  ·exact nit c _ z
theorem turnedP {t':Nat}{fp:List Addr}{x y:V}{u v:Value}(I:Inv X pins σ H s)(hf:∀ b∈fp,FpOk X pins H b)(hlt:∀ b∈fp,b≠s.heap.objs.size)(rx:RelV x u)(ry:RelV y v)(hp:IsPair h' s.heap.objs.size u v)
  (k:∀ b o,b∉fp→s.heap.get? b=some o→h'.get? b=some o):Inv X pins σ (upd H s.heap.objs.size (.tup [x,y])) { s with heap:=h',toks:=t' }:=by
 have I1:Inv X pins σ (upd H s.heap.objs.size (.tup [x,y])) { s with heap:=s.heap.push { cls:=.type "tuple",data:=.seq #[u,v] },toks:=s.toks }:=by
  refine I.laid (t':=s.toks) (fun b u e=>Heap.get?_push_of_some _ e) (Nat.le_refl _) ?_
  exact⟨by show 2≤sizeLine;decide,[u,v],.cons rx (.cons ry .nil),TupO.new _ _⟩
 refine turnedL (s:={ s with heap:=s.heap.push { cls:=.type "tuple",data:=.seq #[u,v] },toks:=s.toks }) (fp:=fp) (t':=t') I1 (fun b hb=>?_) fun b o hb e=>?_
 ·obtain⟨f0,f1⟩:=hf b hb
  exact⟨by rw[aA (hlt b hb)];exact f0,f1⟩
 ·by_cases q:b=s.heap.objs.size
  ·subst q
   have e':some _=some o:=(Heap.get?_push_size s.heap (o:={ cls:=.type "tuple",data:=.seq #[u,v] }) rfl).symm.trans e
   cases e'
   exact hp
  ·have e':s.heap.get? b=some o:=by
    exact mF q e
   exact k b o hb e'
end
def SqB (K:PySem.W.Frag)(H:Hp)(b:Bool)(a:Addr)(xs:List V):Prop:=if b=true then SqT K H a xs else SqL K H a xs
theorem oB {X:Cx}{pins:List (Addr×Obj)}{σ:St}{H:Hp}{s:Shared}{b:Bool}{a:Addr}{xs:List V}(I:Inv X pins σ H s)(h:SqB X.K H b a xs):∃ its:List Value,Vals xs its∧SOb s.heap b a its.toArray∧xs.length≤sizeLine:=by
 cases b with
 | true =>
  obtain⟨its,rv,p,hz⟩:=I.tuple h
  exact⟨its,rv,p,hz⟩
 | false =>
  obtain⟨its,rv,p,hz⟩:=I.list h
  exact⟨its,rv,p.isList,hz⟩
theorem xI {X:Cx}{pins:List (Addr×Obj)}{σ:St}{H:Hp}{s:Shared}{b:Bool}{a:Addr}{xs ys:List V}(I:Inv X pins σ H s)(h:SqB X.K H b a xs)(h':SqB X.K H b a ys):xs=ys:=by
 cases b with
 | true=>exact I.tuple_inj h h'
 | false=>exact I.list_inj h h'
theorem SqB.mono {K:PySem.W.Frag}{Z H:Hp}{b:Bool}{a:Addr}{xs:List V}(h:SqB K Z b a xs)(z:Same Z H):SqB K H b a xs:=by
 cases b with
 | true=>exact(show SqT K Z a xs from h).mono z
 | false=>exact z.seq h
theorem xJ {K:PySem.W.Frag}{C:Nat→Addr}{Z:Hp}{d:D}{ds:List D}{v:V}(e:asSeq d=.ok ds)(r:Rep K C Z d v):∃ b a vs,v=.ref a∧SqB K Z b a vs∧Reps K C Z ds vs:=by
 cases d with
 | tup xs =>
  cases e
  rw[Rep]at r
  obtain⟨a,vs,rfl,h1,h2⟩:=r
  exact⟨true,a,vs,rfl,h1,h2⟩
 | lst xs =>
  cases e
  rw[Rep]at r
  obtain⟨a,vs,rfl,h1,h2⟩:=r
  exact⟨false,a,vs,rfl,h1,h2⟩
 | _=>cases e
section
variable {X:Cx}{F:Fx}{a b:Expr}{ga gb:SS→R D}{k:Nat}
end
section
variable {prog:Program}{w:World}{A:Around}{R:Result→Shared→Prop}{I S:Addr}{res:Value}{n:Nat}
end
section
variable {X:Cx}{pins:List (Addr×Obj)}{σ:St}{H1:Hp}{S z TI TO i1 i2 a1 a2:Addr}{b1 b2:Bool}{xs ys:List V}
end
section
variable {X:Cx}{F:Fx}{a b:Expr}{ga gb:SS→R D}{k:Nat}
end
section
variable {X:Cx}{F:Fx}{e:Expr}{g:SS→R D}{k:Nat}{l:List (Str×Nat)}{x:Str}{p pos:Pos}
end
section
variable {prog:Program}{w:World}{A:Around}{E:Value→Shared→Prop}{s:Shared}
end
section
variable {X:Cx}{F:Fx}{k:Nat}{l:List (Str×Nat)}{x:Str}{p p2 pos:Pos}
end
open AutoSeq1 (wpAny_loadPart')
theorem tY {prog:Program}{w:World}{A:Around}(hh:A.handled=none)(b:Bool)(it a:Addr)(hne:a≠it)(items:Array Value) :
  Draws prog w A it [it,a] items.size (fun i v=>items[i]?=some v) (fun i h=>SIt h b it a i∧SOb h b a items) where
 live:=fun _ _ st=>let ⟨o,ho,_⟩:=st.1.lt;⟨o,ho⟩
 frame:=fun _ _ _ st hk=>⟨st.1.at fun o e=>hk it (by simp) o e,st.2.at fun o e=>hk a (by simp) o e⟩
 item:=fun i s Q E hi st hQ=>by
  refine q9 st.1 st.2 (x:=items[i]) (by simp[hi]) fun h' hit' hs'=>?_
  exact hQ _ h' s.toks (by simp[hi]) ⟨hit',st.2.at fun o e=>hs'.extBut _ _ hne e⟩ hs'
 done:=fun s Q E st hE=>mE hh st.1 st.2 (by simp) hE
theorem jw (l:Addr)(items:Array Value)(n:Nat)(dct:Option Addr)(sl:Array (Option Value)) :
  Meets (Builtin.«enumerate.__new__» ⟨[.type "enumerate",.ref l],[]⟩) (fun _ R s=>s.heap.get? l=some { cls:=.type "tuple",dict:=dct,data:=.seq items n,slots:=sl } ∧
   R (.ok (.ret (.ref (s.heap.push { cls:=.type "tuple_iterator",data:=.fields #[.ref l,.int 0 0] }).objs.size)))
    { s with heap:=(s.heap.push { cls:=.type "tuple_iterator",data:=.fields #[.ref l,.int 0 0] }).push { cls:=.type "enumerate",data:=.fields #[.none,.bool false,.ref s.heap.objs.size,rawInt 0,.none,.none] } }) :=
 .of_wp fun prog w A R s h=>by
  obtain⟨hp,g,d,tk,os⟩:=s;obtain⟨hl,h⟩:=h
  have hsub:=sub_enumerate
  have hL:Heap.IsTuple (Shared.heap ⟨hp,g,d,tk,os⟩) l items:=⟨_,hl,rfl,n,rfl⟩
  wp_walk using wpAny_loadPart' hl
  refine wpAny_stack_any fun st=>wpAny_pure ?_
  split
  ·rename_i c _ _ _ _ _
   cases (c==Value.type "enumerate")
   ·wp_walk using wpAny_loadPart' hl,wpAny_pyIter_tuple hL
    exact⟨_,rfl,h⟩
   ·wp_walk using wpAny_loadPart' hl,wpAny_pyIter_tuple hL
    exact⟨_,rfl,h⟩
  ·wp_walk using wpAny_loadPart' hl,wpAny_pyIter_tuple hL
   exact⟨_,rfl,h⟩
section
variable {prog:Program}{w:World}{A:Around}{E:Value→Shared→Prop}{s:Shared}
theorem kl {l:Addr}{items:Array Value}{Q:Value→Shared→Prop}(hL:s.heap.IsTuple l items)
  (h:∀ h',IsEnum h' (s.heap.objs.size+1) s.heap.objs.size 0 .none→h'.IsTupleIter s.heap.objs.size l 0→h'.objs.size=s.heap.objs.size+2 →
   (∀ b o,s.heap.get? b=some o→h'.get? b=some o)→Q (.ref (s.heap.objs.size+1)) { s with heap:=h' }) :
  wpAny (model prog w) A (call (.type "enumerate") [.ref l]) Q E s:=by
 obtain⟨⟨c,dct,dt,sl⟩,hl,hc,n,hd⟩:=hL
 replace hc:c=.type "tuple" := hc
 replace hd:dt=.seq items n:=hd
 subst hc hd
 refine callType_new F.called_enumerate (by decide) (F.typeCall_enumerate_1 _) (F.newCall_enumerate_1 _) (fun obj=>F.args_object_init_2 obj _) F.entry_enumerate_new
  (jw l items n dct sl) ⟨hl,?_⟩
 have hz:(s.heap.push { cls:=.type "tuple_iterator",data:=.fields #[.ref l,.int 0 0] }).objs.size=s.heap.objs.size+1:=Heap.size_push ..
 show _∧_
 rw[hz]
 have he:IsEnum ((s.heap.push { cls:=.type "tuple_iterator",data:=.fields #[.ref l,.int 0 0] }).push
   { cls:=.type "enumerate",data:=.fields #[.none,.bool false,.ref s.heap.objs.size,rawInt 0,.none,.none] }) (s.heap.objs.size+1) s.heap.objs.size 0 .none:=by
  have:=Heap.get?_push_size (s.heap.push { cls:=.type "tuple_iterator",data:=.fields #[.ref l,.int 0 0] })
   (o:={ cls:=.type "enumerate",data:=.fields #[.none,.bool false,.ref s.heap.objs.size,rawInt 0,.none,.none] }) rfl
  rw[hz]at this;exact this
 refine⟨⟨_,he,rfl⟩,h _ he ⟨_,Heap.get?_push_of_some _ (Heap.get?_push_size _ rfl),rfl,rfl⟩ (by rw[Heap.size_push,hz]) fun b o x=>Heap.get?_push_of_some _ (Heap.get?_push_of_some _ x)⟩
theorem re {b:Bool}{l:Addr}{items:Array Value}{Q:Value→Shared→Prop}(hL:SOb s.heap b l items)
  (h:∀ h',IsEnum h' (s.heap.objs.size+1) s.heap.objs.size 0 .none→SIt h' b s.heap.objs.size l 0→(∀ b o,s.heap.get? b=some o→h'.get? b=some o)→Q (.ref (s.heap.objs.size+1)) { s with heap:=h' }) :
  wpAny (model prog w) A (call (.type "enumerate") [.ref l]) Q E s:=by
 cases b with
 | true=>exact kl hL fun h' a1 a2 _ a3=>h h' a1 a2 a3
 | false=>exact call_enumerate_list hL fun h' a1 a2 _ a3=>h h' a1 a2 a3
theorem kO {e it:Addr}{i:Int}{old:Value}{Q:Value→Shared→Prop}(he:IsEnum s.heap e it i old)(h:Q (.ref e) s):wpAny (model prog w) A (pyIter (.ref e)) Q E s:=by
 have hT:s.TypeIs (.ref e) "enumerate" := ⟨_,he,rfl⟩
 refine wpAny_pyIter_slot hT F.slot_enumerate_iter (wpAny_call_entry F.slot_enumerate_iter hT F.entry_enumerate_iter ?_ (F.args_enumerate_iter_1 _))
 show wpAny _ _ (ret (.ref e)) _ _ s
 exact wpAny_pure ⟨_,rfl,"enumerate",_,hT,F.slot_enumerate_next.lookup,h⟩
end
section
variable {prog:Program}{w:World}{A:Around}{E:Value→Shared→Prop}{s:Shared}
theorem tZ {e it a:Addr}{b:Bool}{i:Int}{k:Nat}{old:Value}{items:Array Value}{Q:Option Value→Shared→Prop}(hh:A.handled=none)(he:IsEnum s.heap e it i old)(hit:SIt s.heap b it a k)(hl:SOb s.heap b a items)(hx:items[k]?=none)
  (hQ:∀ h',Heap.ExtBut it s.heap h'→Q none { s with heap:=h' }):wpAny (model prog w) A (pyNext (.ref e)) Q E s:=by
 have hT:s.TypeIs (.ref e) "enumerate" := ⟨_,he,rfl⟩
 unfold pyNext
 refine wpAny_bind (wpAny_attempt (wpAny_callSpecial?_slot (name:=Str.ofString "__next__") hT F.slot_enumerate_next
  (wpAny_call_entry F.slot_enumerate_next hT F.entry_enumerate_next ?_ (F.args_enumerate_next_1 _))))
 show wpAny _ _ (field (.ref e) 2 >>= _) _ _ _
 refine wpAny_bind (wpAny_field he rfl (x:=.ref it) rfl ?_)
 refine wpAny_bind (mE (show A.in1.handled=none from hh) hit hl hx fun h' x he' hx'=>?_)
 obtain⟨o,ho,hc⟩:=hx'
 refine wpAny_bind (wpAny_isInstance (T := "StopIteration") (b:=true) ⟨o,ho,hc⟩ isSubtype_stop ?_)
 exact wpAny_pure (hQ _ he')
end
def Ite (K:PySem.W.Frag)(b:Bool)(a:Addr):It :=
 ⟨fun i H=>∃ xs x,SqB K H b a xs∧xs[i]?=some x,
  fun i H v H'=>∃ p x,H p=none∧v=.ref p∧(∀ xs,SqB K H b a xs→xs[i]?=some x)∧H'=upd H p (.tup [.int (i:Int),x]),
  fun i H=>∃ xs,SqB K H b a xs∧xs.length≤i⟩
theorem rf {P:Program}{w:World}{K:PySem.W.Frag}{elts:List Expr}{x1:Nat}{pos:Pos}{e it a:Addr}(b:Bool)(hei:e≠it)(hai:a≠it)(hea:e≠a) :
  Turn P w K (.Tuple elts x1 pos) (Ite K b a) [e,it] e (fun i h=>(∃ old,IsEnum h e it i old)∧SIt h b it a i) where
 mem:=by simp
 obj:=fun i h st c hb=>by
  obtain⟨⟨old,e1⟩,e2⟩:=st
  simp only[List.mem_cons,List.not_mem_nil,or_false]at hb
  rcases hb with rfl | rfl
  ·exact⟨_,e1,fun v z=>by have z':Data.fields _=Data.cell v:=z;cases z'⟩
  ·exact e2.lt
 keep:=fun i h h' st k=>by
  obtain⟨⟨old,e1⟩,e2⟩:=st
  exact⟨⟨old,k e (by simp) _ e1⟩,e2.at fun o q=>k it (by simp) o q⟩
 item:=by
  intro X hP hw hK hc i pins s σ H E I hf st hg
  subst hP hw hK
  obtain⟨xs,x,q1,hx⟩:=hg
  obtain⟨⟨old,e1⟩,e2⟩:=st
  obtain⟨is1,rv1,o1,_⟩:=oB I q1
  obtain⟨u,hu,ru⟩:=rv1.get hx
  have hl:=rv1.length
  have hil:i < xs.length:=(List.getElem?_eq_some_iff.mp hx).1
  have lt:∀ c∈[e,it],c≠s.heap.objs.size:=fun c hb=>by
   simp only[List.mem_cons,List.not_mem_nil,or_false]at hb
   rcases hb with rfl | rfl
   ·exact Nat.ne_of_lt (Heap.lt_size e1)
   ·obtain⟨o,ho,_⟩:=e2.lt;exact Nat.ne_of_lt (Heap.lt_size ho)
  have D:=tY (prog:=X.prog) (w:=X.w) (A:=X.A.in1) (show X.A.in1.handled=none from I.ok.hd hc) b it a hai is1.toArray
  refine wpAny_pyNext_enum_itemD D e1 ⟨e2,o1⟩ (by simp;omega) hei (by simp[hei,hea]) fun v h' tk hP ho hs' hT hsz hk=>?_
  have ev:v=u:=by
   have h1:is1[i]?=some v:=by simpa using hP
   rw[hu]at h1;cases h1;rfl
  subst ev
  refine⟨_,rfl,wpAny_letOwnedTupleGo_enum (s:={ s with heap:=h',toks:=tk+1 }) ho fun h2 he2 sb2=>?_⟩
  have k2:∀ c o,c∉[e,it]→s.heap.get? c=some o→h2.get? c=some o:=fun c o hb q=>by
   simp only[List.mem_cons,List.not_mem_nil,or_false,not_or]at hb
   exact sb2.extBut _ _ hb.1 (hk c o hb.1 hb.2 q)
  have hp2:IsPair h2 s.heap.objs.size (.int i tk) v:=sb2.extBut _ _ (fun q=>lt e (by simp) q.symm) hT
  have I2:Inv X pins σ (upd H s.heap.objs.size (.tup [.int (i:Int),x])) { s with heap:=h2,toks:=tk+1 }:=turnedP I hf lt ⟨tk,rfl⟩ ru hp2 k2
  exact⟨.ref s.heap.objs.size,_,I2,rfl,⟨s.heap.objs.size,x,I.hok.fresh (Nat.le_refl _),rfl,fun xs' q=>by rw[xI I q q1];exact hx,rfl⟩,⟨⟨_,by simpa using he2⟩,hs'.1.at fun o q=>sb2.extBut _ _ (Ne.symm hei) q⟩,fun c hb=>by rw[aA (lt c hb)];exact(hf c hb).1⟩
 done:=by
  intro X hP hw hK hc i pins s σ H E I hf st hg
  subst hP hw hK
  obtain⟨xs,q1,hx⟩:=hg
  obtain⟨⟨old,e1⟩,e2⟩:=st
  obtain⟨is1,rv1,o1,_⟩:=oB I q1
  have hl:=rv1.length
  refine tZ (I.ok.hd hc) e1 e2 o1 (by simp;omega) fun h' hk=>⟨rfl,turnedL (t':=s.toks) I hf fun c o hb q=>?_⟩
  simp only[List.mem_cons,List.not_mem_nil,or_false,not_or]at hb
  exact hk c o hb.2 q
 self:=fun _ _ _ _ _ st h=>by obtain⟨⟨old,e1⟩,_⟩:=st;exact kO e1 h
theorem rg:bootBuiltins "enumerate"=some (.type "enumerate"):=by decide +kernel
theorem vL {X:Cx}{elts:List Expr}{x1:Nat}{ps p pos:Pos}{a:Expr}{ta:TA}(hg:Gl X "enumerate")(hm:X.mg "enumerate"=none)(ha:PA X [a] ta)(hs:starEach [a] X.env=[(false,eval a X.env)]:=by rfl) :
  PI X (.Tuple elts x1 ps) (.Call (.Name "enumerate" p) [a] [] pos) (fun σ H R=>ta σ H fun vs H1=>∃ b a1,vs=[.ref a1]∧(∃ xs,SqB X.K H1 b a1 xs)∧R (Ite X.K b a1) H1):=by
 intro pins s σ H R I h
 refine Call_ (gU I hg hm rg (PyProof.Rows.callWith_type1 (thn (ha pos pins s σ H _ I h) fun us s1 ⟨vs,H1,I1,r1,q1⟩=>?_) hs rfl))
 obtain⟨b,a1,e,⟨xs,hx⟩,q⟩:=q1
 subst e
 cases r1 with
 | cons r rr =>
  cases rr
  cases r
  obtain⟨is1,rv1,o1,_⟩:=oB I1 hx
  have lt:a1 < s1.heap.objs.size:=by cases b<;>(obtain⟨_,e,_⟩:=o1;exact Heap.lt_size e)
  refine re o1 fun h' he hi hk=>kO (s:={ s1 with heap:=h' }) he ?_
  have I2:Inv X pins σ H1 { s1 with heap:=h',toks:=s1.toks }:=I1.kept hk
  refine⟨_,_,_,_,H1,rfl,I2,rf b (Nat.succ_ne_self _) (Nat.ne_of_lt lt) (Nat.ne_of_gt (Nat.lt_succ_of_lt lt)),⟨⟨_,he⟩,hi⟩,fun c hc=>?_,q⟩
  have hb:s1.heap.objs.size≤c:=by
   simp only[List.mem_cons,List.not_mem_nil,or_false]at hc
   rcases hc with rfl | rfl
   ·exact Nat.le_add_right _ _
   ·exact Nat.le_refl _
  exact I1.fpOk hb (I1.hok.fresh hb)
theorem pL:∀ {xs:List D} {k i:Nat} {x:D},xs[i]?=some x→(enD xs k)[i]?=some (.tup [.int ((k+i:Nat):Int),x])
 | a::xs,k,0,x,h=>by cases h;rfl
 | a::xs,k,i+1,x,h=>by
  have:=pL (xs:=xs) (k:=k+1) (i:=i) (by simpa using h)
  rw[show k+1+i=k+(i+1) by omega]at this
  simpa [enD] using this
 | [],_,_,_,h=>by simp at h
theorem lI:∀ (xs:List D) (k:Nat),(enD xs k).length=xs.length
 | [],_=>rfl
 | a::xs,k=>by show (enD xs (k+1)).length+1=_;rw[lI xs (k+1)];rfl
theorem rh {F:Fx}{b:Bool}{a:Addr}{xs:List D}{vs:List V}{Z:Hp}(h1:SqB F.K Z b a vs)(r1:Reps F.K F.C Z xs vs):WalkG F (Ite F.K b a) (enD xs 0) Z:=fun i H Z2 z1 z2=>by
 have l:=lI xs 0
 have e1:=r1.length
 refine⟨fun hi=>?_,fun hi=>⟨vs,h1.mono (z1.trans z2),by omega⟩⟩
 have hx:vs[i]?=some vs[i]:=List.getElem?_eq_getElem (by omega)
 refine⟨⟨vs,_,h1.mono (z1.trans z2),hx⟩,fun v H' ⟨p,x,hp,e,qx,eH⟩=>?_⟩
 subst e;subst eH
 obtain⟨dx,f1,g1⟩:=r1.get' (qx _ (h1.mono (z1.trans z2)))
 have z3:Same Z (upd Z2 p (.tup [.int (i:Int),x])):=z1.trans (aJ (z2.free hp))
 have f2:=pL (k:=0) f1
 rw[Nat.zero_add]at f2
 refine⟨upd Z2 p (.tup [.int (i:Int),x]),.tup [.int (i:Int),dx],Ex.alloc z2 hp,f2,?_⟩
 rw[Rep]
 exact⟨p,[.int (i:Int),x],rfl,SqT.of av,Reps.cons aO (Reps.cons (g1.mono z3) Reps.nil)⟩
section
variable {X:Cx}{F:Fx}{a:Expr}{ga:SS→R D}{k:Nat}
theorem vM {S:SS}{α:Type}(f:D→R α):((aL [ga]) S).bind (fun ds=>match ds with | [x]=>f x | _=>R.stuck)=(ga S).bind fun x=>f x:=by
 show (((ga S).bind fun d=>(R.ok []:R (List D)).bind fun ds=>R.ok (d::ds))).bind _=_
 cases ga S<;>rfl
theorem dX {elts:List Expr}{x1:Nat}{ps p pos:Pos}(bx:BX X F k)(hg:Gl X "enumerate")(hm:X.mg "enumerate"=none)(ha:FE X F a ga)(hs:starEach [a] X.env=[(false,eval a X.env)]:=by rfl) :
  FI X F (.Tuple elts x1 ps) (.Call (.Name "enumerate" p) [a] [] pos) (fun S=>(ga S).bind fun x=>dEnum x) :=
 (vL hg hm (FAL.out (aa ha ad (hs:=by rw[hs];rfl))) hs).weak fun σ H Q ⟨Z,S,ok,w⟩=>by
  have w:WG F H Z ((ga S).bind fun x=>dEnum x) _:=w
  rw[← vM]at w
  refine aZ ok w fun ds vs H1 Z1 ok1 x1 rs w1=>?_
  obtain⟨dx,rfl⟩:∃ dx,ds=[dx]:=by
   rcases ds with _ | ⟨dx,_ | ⟨dy,r⟩⟩
   ·exact False.elim w1
   ·exact⟨dx,rfl⟩
   ·exact False.elim w1
  focus
   have w2:WG F H1 Z1 (dEnum dx) _:=w1
   unfold dEnum sq at w2
   rw[Reps]at rs
   obtain⟨v1,r,rfl,q1,rs⟩:=rs
   rw[Reps]at rs
   subst rs
   cases e1:asSeq dx with
   | err k=>rw[e1]at w2;cases dx<;>cases e1
   | stuck=>rw[e1]at w2;exact w2.elim
   | ok xs =>
    rw[e1]at w2
    have w3:WG F H1 Z1 (R.bind (if xs.length≤16777216 then R.ok xs else R.stuck) fun xs=>R.ok (enD xs 0)) _:=w2
    split at w3
    ·rename_i hl1
     obtain⟨b1,a1,us1,rfl,s1,t1⟩:=xJ e1 q1
     rw[bx.K]
     exact⟨b1,a1,rfl,⟨us1,s1.mono ok1.sub⟩,WG.now w3 ok1.sub _ (rh s1 t1) (by rw[lI];exact hl1)⟩
    ·exact w3.elim
end
section
variable {X:Cx}{F:Fx}{a:Expr}{ga:SS→R D}{k:Nat}{p p2 pos pos2:Pos}
end
section
variable {prog:Program}{w:World}{A:Around}{E:Value→Shared→Prop}{s:Shared}
end
section
variable {X:Cx}{F:Fx}
variable {σ:Type}{S:SS}{rest:List Stmt}{J:σ→SS→Prop}{e:Expr}{ge:SS→R D}{r:R D}{n:Nat}
end
section
variable {X:Cx}{F:Fx}
theorem t3 (i j:Nat){x y:Str}{p1 p2 tp pos pt2:Pos}{k k2:_}{n:Nat}{a b:Expr}{gs:SS→R (List D)}(bx:BX X F n)(hN:X.N.Nodup)(ha:FA X F [a,b] gs)(hi:X.N[i]?=some x:=by rfl)(hj:X.N[j]?=some y:=by rfl)
  (hx:Loc X.env.scope x:=by first | exact Or.inl rfl | exact Or.inr rfl) (hy:Loc X.env.scope y:=by first | exact Or.inl rfl | exact Or.inr rfl)
  (hfx:X.fn x=true∨X.env.scope.names.lookup x=some .local:=by first | exact .inl rfl | exact .inr rfl) (hfy:X.fn y=true∨X.env.scope.names.lookup y=some .local:=by first | exact .inl rfl | exact .inr rfl)
  (hn:(assignEach [.Name x p1,.Name y p2] X.env).length=2:=by rfl) (hst:(assignEach [.Name x p1,.Name y p2] X.env).findIdx? (·.1)=none:=by rfl)
  (hs:swapsWithSole [.Tuple [.Name x p1,.Name y p2] k tp] (.Tuple [a,b] k2 pt2) pos.line X.env=pure false:=by rfl) (hw:swappedStores [.Tuple [.Name x p1,.Name y p2] k tp] (.Tuple [a,b] k2 pt2) X.env=pure none:=by rfl)
  (h1:(assignEach [.Tuple [.Name x p1,.Name y p2] k tp] X.env).map (·.2)=[assign (.Tuple [.Name x p1,.Name y p2] k tp) X.env]:=by rfl) :
  FS X F (.Assign [.Tuple [.Name x p1,.Name y p2] k tp] (.Tuple [a,b] k2 pt2) pos) (sAsg (gTup [i,j]) (eTup gs)) :=
 pK (sP ha) (mD [i,j] bx.calm (cp (cD hN hi hx hfx) (cp (cD hN hj hy hfy) lg)) hn hst bx.K) hs hw h1
end
def capB (XN:List Str)(scope:Scope)(N:List Str)(own:Nat):Nat→List Nat→Bool
 | _,[]=>true
 | j,i::r=>(match N[own+j]?,XN[i]? with
  | some x,some y=>x==y&&scope.names.lookup x==some .free
  | _,_=>false)&&capB XN scope N own (j+1) r
def blkB (XN:List Str)(osc scope:Scope)(N:List Str)(own:Nat)(cap:List Nat):Bool :=
 scope.kind==.function&&(scope.names.all fun y=>scope.names.lookup y.1==some y.2)&&(scope.names.all fun y=>!(y.2==.free)||(osc.names.lookup y.1==some .cell||osc.names.lookup y.1==some .free))&&N.length==own+cap.length&&capB XN scope N own 0 cap
theorem pM {XN:List Str}{scope:Scope}{N:List Str}{own:Nat}:∀ {cap:List Nat} {k:Nat},capB XN scope N own k cap=true→∀ j i,cap[j]?=some i→∃ x,N[own+(k+j)]?=some x∧XN[i]?=some x∧scope.names.lookup x=some .free
 | [],_,_,j,i,e=>by simp at e
 | c::r,k,h,j,i,e=>by
  unfold capB at h
  rw[Bool.and_eq_true]at h
  cases j with
  | zero =>
   simp only[List.getElem?_cons_zero,Option.some.injEq]at e
   subst e
   have h1:=h.1
   split at h1
   ·rename_i x y e1 e2
    rw[Bool.and_eq_true]at h1
    have:=eq_of_beq h1.1
    subst this
    exact⟨x,by rw[Nat.add_zero];exact e1,e2,eq_of_beq h1.2⟩
   ·cases h1
  | succ j =>
   obtain⟨x,a,b⟩:=pM h.2 j i (by simpa using e)
   exact⟨x,by rw[← a];congr 1;omega,b⟩
theorem BlkOk.of {XN:List Str}{osc scope:Scope}{N:List Str}{own:Nat}{cap:List Nat}(h:blkB XN osc scope N own cap=true):BlkOk XN osc scope N own cap:=by
 unfold blkB at h
 simp only[Bool.and_eq_true,List.all_eq_true]at h
 obtain⟨⟨⟨⟨h1,h2⟩,h3⟩,h4⟩,h5⟩:=h
 have look:∀ y∈scope.names,scope.names.lookup y.1=some y.2:=fun y hy=>eq_of_beq (h2 y hy)
 refine⟨eq_of_beq h1,fun y hy e=>by rw[look y hy,e],fun y hy e=>by rw[look y hy,e],fun y hy e=>by rw[look y hy,e],fun y hy e=>?_,eq_of_beq h4,fun j i e=>?_⟩
 ·have:=h3 y hy
  rw[e]at this
  simp only[beq_self_eq_true,Bool.not_true,Bool.false_or,Bool.or_eq_true]at this
  rcases this with z | z
  ·exact .inl (eq_of_beq z)
  ·exact .inr (eq_of_beq z)
 ·have:=pM h5 j i e
  rw[Nat.zero_add]at this
  exact this
section
variable {X:Cx}{F:Fx}{o e:Expr}{g:SS→R D}{gs:List (SS→R D)}{apos cpos:Pos}{k:Nat}
end
def OkD (P:Program)(w:World)(K:PySem.W.Frag)(mg:Str→Option Value)(base:Heap)(C:Nat→Addr)(k:Nat)(x:Str)(st:Stmt)(ps:List Str)(fn:List D→R D):Prop :=
 ∀ {f:Addr} {fd:FuncData},Fun K x x st f fd→FnOk P w K mg base (CXE P w) (k+1) f fd ps (spF K C ps.length fn)
def OkB (P:Program)(w:World)(K:PySem.W.Frag)(mg:Str→Option Value)(base:Heap)(C:Nat→Addr)(k:Nat)(N:List Str)(x:Str)(st:Stmt)(ds:List D)(l:L Unit):Prop :=
 ∀ (f:Addr) (cdv:Value) (A:Around) (outer:List Env) (s:Shared) (H Z:Hp) (E:XK),BX (bodyX P w K mg base N x (defScope st) f cdv A outer s H E) ⟨K,C,H,Z,E⟩ k →
  PassesOwn (model P w) (bodyX P w K mg base N x (defScope st) f cdv A outer s H E).A (bodyX P w K mg base N x (defScope st) f cdv A outer s H E).env (bodyX P w K mg base N x (defScope st) f cdv A outer s H E).xe →
  MadeX (bodyX P w K mg base N x (defScope st) f cdv A outer s H E) ⟨K,C,H,Z,E⟩→FL (bodyX P w K mg base N x (defScope st) f cdv A outer s H E) ⟨K,C,H,Z,E⟩ (startS N.length ds) (defBody st) JU l
theorem mkSc {N ps:List Str}{sc:Scope}(a:sc.kind=.function:=by rfl)(b:sc.isCoroutine=false:=by rfl)(c:sc.isGenerator=false:=by rfl)(d:N.Nodup:=by decide +kernel)(e:N.take ps.length=ps:=by rfl)
  (f:∀ x∈ps,sc.names.lookup x=some .local∨sc.names.lookup x=some .cell:=by decide +kernel) (g:∀ y∈sc.names,y.2≠.free:=by decide +kernel):FnScope N ps sc:=⟨a,b,c,d,e,f,g⟩
section
variable {P:Program}{w:World}{K:PySem.W.Frag}{mg:Str→Option Value}{base:Heap}{C:Nat→Addr}{k:Nat}{N ps:List Str}{x:Str}{st:Stmt}
theorem okd {fn:List D→R D}(S:FnScope N ps (defScope st))(h:∀ ds,ds.length=ps.length→∃ l,fn ds=outL l∧OkB P w K mg base C k N x st ds l):OkD P w K mg base C k x st ps fn:=fun F =>
 vJ F S fun cdv A outer s H Z E bx hp md ds hl=>by
  obtain⟨l,e,o⟩:=h ds hl
  exact⟨l,e,o _ cdv A outer s H Z E bx hp md⟩
theorem ok1 {p:Str}{c:D→L Unit}(S:FnScope N [p] (defScope st))(h:∀ a,OkB P w K mg base C k N x st [a] (c a)):OkD P w K mg base C k x st [p] (a1 c):=okd S fun ds hl=>by obtain⟨a,rfl⟩:=len1 hl;exact⟨c a,rfl,h a⟩
theorem ok2 {p q:Str}{c:D→D→L Unit}(S:FnScope N [p,q] (defScope st))(h:∀ a b,OkB P w K mg base C k N x st [a,b] (c a b)):OkD P w K mg base C k x st [p,q] (a2 c):=okd S fun ds hl=>by obtain⟨a,b,rfl⟩:=len2 hl;exact⟨c a b,rfl,h a b⟩
theorem ok3 {p q r:Str}{c:D→D→D→L Unit}(S:FnScope N [p,q,r] (defScope st))(h:∀ a b d,OkB P w K mg base C k N x st [a,b,d] (c a b d)):OkD P w K mg base C k x st [p,q,r] (a3 c):=okd S fun ds hl=>by obtain⟨a,b,d,rfl⟩:=len3 hl;exact⟨c a b d,rfl,h a b d⟩
theorem ok4 {p q r s:Str}{c:D→D→D→D→L Unit}(S:FnScope N [p,q,r,s] (defScope st))(h:∀ a b d e,OkB P w K mg base C k N x st [a,b,d,e] (c a b d e)):OkD P w K mg base C k x st [p,q,r,s] (a4 c):=okd S fun ds hl=>by obtain⟨a,b,d,e,rfl⟩:=len4 hl;exact⟨c a b d e,rfl,h a b d e⟩
theorem ok5 {p q r s t:Str}{c:D→D→D→D→D→L Unit}(S:FnScope N [p,q,r,s,t] (defScope st))(h:∀ a b d e f,OkB P w K mg base C k N x st [a,b,d,e,f] (c a b d e f)):OkD P w K mg base C k x st [p,q,r,s,t] (a5 c):=okd S fun ds hl=>by obtain⟨a,b,d,e,f,rfl⟩:=len5 hl;exact⟨c a b d e f,rfl,h a b d e f⟩
structure Fd (K:PySem.W.Frag)(mg:Str→Option Value)(x:Str)(ps:List Str)(st:Stmt):Prop where
 ex:∃ a fd,Fun K x x st a fd∧mg x=some (.ref a)∧Binds K fd ps []
theorem mG {f:Addr}{fd:FuncData}{n:Nat}:FnOk P w K mg base (CXE P w) k f fd ps (spF K C n fun _=>.stuck) :=
 ⟨fun vs H Q E h=>by obtain⟨_,_,_,_,_,z⟩:=h;exact z.elim,fun A outer s H args us vs Q E _ _ _ _ h=>by obtain⟨_,_,_,_,_,z⟩:=h;exact z.elim⟩
theorem yw {i:Nat}(F:Fd K mg x ps st)(hf:mg x=some (.ref (C i))):FnV P w K mg base C 0 i fun _=>.stuck:=by
 obtain⟨a,fd,F,h,b⟩:=F.ex
 rw[hf]at h
 cases h
 exact⟨fd,ps,mG,F.kp,b,fun _ _=>rfl⟩
theorem yx {i:Nat}{fn:List D→R D}(F:Fd K mg x ps st)(hf:mg x=some (.ref (C i)))(ok:OkD P w K mg base C k x st ps fn)(hl:∀ ds,ds.length≠ps.length→fn ds=.stuck):FnV P w K mg base C (k+1) i fn:=by
 obtain⟨a,fd,F,h,b⟩:=F.ex
 rw[hf]at h
 cases h
 exact⟨fd,ps,ok F,F.kp,b,hl⟩
theorem g0 (F:Fd K mg x ps st):Fn1 P w K mg base C 0 x ps (fun _=>.stuck):=by obtain⟨a,fd,F,h,b⟩:=F.ex;exact⟨a,fd,mG,h,F.kp,b⟩
theorem g1 {fn:List D→R D}(F:Fd K mg x ps st)(ok:OkD P w K mg base C k x st ps fn):Fn1 P w K mg base C (k+1) x ps fn:=by obtain⟨a,fd,F,h,b⟩:=F.ex;exact⟨a,fd,ok F,h,F.kp,b⟩
section
variable {h:Heap}{f:Addr}{oc:Value}{od an:Option Addr}{osl:Array (Option Value)}{kV doc pm cdv ct:Value}
theorem yy (X:K.In h)(G:h.Ns mainGlobals mg)(hb:∀ (kV doc pm:Value) (an:Option Addr) (cdv ct:Value) (us:List Value),us.length=ps.length→bindArgs (PySem.W.fnOf x x (defArgs st) (defBody st) (defScope st) .none kV doc pm an cdv ct) ⟨us,[]⟩=pure (ps.zip us))
  (a:PySem.W.nsIn K mainGlobals x=some (some (.ref f))) (l:K.lookup f=some ⟨oc,od,.func (PySem.W.fnOf x x (defArgs st) (defBody st) (defScope st) .none kV doc pm an cdv ct),osl⟩) (c:PySem.W.codeIn K cdv x=true) (k:PySem.W.keepIn K (.ref f)=true):Fd K mg x ps st :=
 ⟨f,_,og l c k,PySem.W.mg_of X G a,(og l c k).binds hb⟩
end
theorem ln1 {us:List Value}(h:us.length=1):∃ a,us=[a]:=match us,h with | [a],_=>⟨a,rfl⟩
theorem ln2 {us:List Value}(h:us.length=2):∃ a b,us=[a,b]:=match us,h with | [a,b],_=>⟨a,b,rfl⟩
theorem ln3 {us:List Value}(h:us.length=3):∃ a b c,us=[a,b,c]:=match us,h with | [a,b,c],_=>⟨a,b,c,rfl⟩
theorem ln4 {us:List Value}(h:us.length=4):∃ a b c d,us=[a,b,c,d]:=match us,h with | [a,b,c,d],_=>⟨a,b,c,d,rfl⟩
end
abbrev Ng (K:PySem.W.Frag)(x:Str)(v:Option Value):Prop:=PySem.W.nsIn K mainGlobals x=some v
theorem aN {K:PySem.W.Frag}{n c:Addr}{b:Bool}{cd:ClassData}(hd:PySem.W.clsIn K c=some cd)(hy:PySem.W.typeIn K (.ref c)=some (.type "type"))(hs:PySem.W.subIn K (.ref n) (.ref c)=some b)(hn:PySem.W.subIn K (.ref n) (.ref n)=some true):PySem.W.kitOne K (.ref n) (.ref c)=some b:=by
 unfold PySem.W.kitOne
 by_cases e:n=c
 ·subst e
  rw[hn]at hs
  rw[if_pos (by simp)]
  exact hs
 ·rw[if_neg (by simpa using e)]
  show (if ((PySem.W.clsIn K c).isSome&&PySem.W.typeIn K (.ref c)==some (.type "type"))=true then PySem.W.subIn K (.ref n) (.ref c) else none)=some b
  rw[hd,hy,if_pos (by simp)]
  exact hs
theorem oC {K:PySem.W.Frag}{n:Addr}(hs:PySem.W.subIn K (.ref n) (.type "ValueError")=some true):PySem.W.kitOne K (.ref n) (.type "ValueError")=some true:=by
 unfold PySem.W.kitOne
 rw[if_neg (by simp)]
 show (if PySem.W.kitMeta "ValueError"=true then PySem.W.subIn K (.ref n) (.type "ValueError") else none)=some true
 rw[if_pos (by decide +kernel)]
 exact hs
theorem pN {K:PySem.W.Frag}{C:Nat→Addr}{Z:Hp}:∀ ns:List Int,Reps K C Z (ns.map .int) (ns.map V.int)
 | []=>by rw[List.map_nil,List.map_nil,Reps]
 | i::ns=>by rw[List.map_cons,List.map_cons,Reps];exact⟨_,_,rfl,aO,pN ns⟩
section
variable {σ:Type}{X:Cx}{F:Fx}{S:SS}{J:σ→SS→Prop}
end
section
variable {X:Cx}{F:Fx}{e ey ex:Expr}{ge gy gx:SS→R D}{x:Str}{pos:Pos}{k:Nat}
end
section
variable {X:Cx}{F:Fx}{tg iter elt:Expr}{scope:Scope}{N:List Str}{own:Nat}{cap:List Nat}{pos:Pos}{git:SS→R (List D)}
end
section
variable {X:Cx}{F:Fx}{tg iter elt:Expr}{ifs:List Expr}{scope:Scope}{N:List Str}{own:Nat}{cap:List Nat}{pos:Pos}{git:SS→R (List D)}{g:D→SS→R SS}{gc:SS→R Bool}{ge:SS→R D}
end
section
variable {X:Cx}{F:Fx}{p pos p1 p2 p3:Pos}{e:Expr}{g:SS→R D}{k:Nat}
end
end FF
end
noncomputable section
namespace L2
open PySem PySem.Spec PyProof.Rows
section
variable {κ:Type}[DecidableEq κ]
def valV (kvs:List (κ×V))(k:κ):Option V:=(kvs.find? fun kv=>decide (kv.1=k)).map (·.2)
theorem t4 {p:κ×V}{r:List (κ×V)}{k:κ}(e:p.1=k):valV (p::r) k=some p.2:=by simp[valV,List.find?_cons,e]
theorem t5 {p:κ×V}{r:List (κ×V)}{k:κ}(e:¬ p.1=k):valV (p::r) k=valV r k:=by simp[valV,List.find?_cons,e]
theorem KV.any {kvs:List (κ×V)}{vs:List (κ×Value)}(r:KV kvs vs)(k:κ):(kvs.any fun kv=>decide (kv.1=k))=vs.any fun kv=>decide (kv.1=k):=by
 unfold KV at r
 induction r with
 | nil=>rfl
 | cons h t ih=>rw[List.any_cons,List.any_cons,ih,h.1]
theorem KV.length {kvs:List (κ×V)}{vs:List (κ×Value)}(r:KV kvs vs):kvs.length=vs.length:=Paired.length r
end
theorem yz {P:Program}{w:World}{k:Key}{u:Value}(r:RelV (kV k) u):(mixKind P w).is k u=true:=by
 cases k with
 | inl i=>obtain⟨t,e⟩:=(show ∃ t,u=Value.int i t from r);subst e;exact l5 P w i t
 | inr x=>obtain⟨t,e⟩:=(show ∃ t,u=Value.str x t from r);subst e;exact l6 P w x t
theorem fh {P:Program}{w:World}:∀ {ks:List Key} {us:List Value},Vals (ks.map kV) us→ItemsAre (mixKind P w) ks us
 | [],_,r=>by rw[List.map_nil]at r;cases r;exact .nil
 | k::ks,_,r=>by
  rw[List.map_cons]at r
  cases r with
  | cons h t=>exact .cons (yz h) (fh t)
section
variable {P:Program}{w:World}{H:Hp}{h:Heap}{a:Addr}
end
section
variable {X:Cx}{pins:List (Addr×Obj)}{σ:St}{H:Hp}{s:Shared}{a:Addr}{y v:V}{u r:Value}{o:Option V}{A:Around}{E:Value→Shared→Prop}
theorem Inv.big (I:Inv X pins σ H s):sysModules < s.heap.objs.size:=by
 have h:mainGlobals < s.heap.objs.size:=(I.mod.glob.keeps I.bk).lt
 exact Nat.lt_trans (by decide) h
theorem vN {h':Heap}{t':Nat}{ob:HO}(I:Inv X pins σ H s)(mu:Mut (H a))(hs:Heap.SameBut a s.heap h')(he:∃ q,h'.get? a=some q)(new:ObjOk X.prog X.w (upd H a ob) h' a ob) :
  Inv X pins σ (upd H a ob) { s with heap:=h',toks:=t' } :=
 I.write (x:=a) (e:=a) mu (.inl rfl) (fun b q hb z=>(hs.2 b hb).trans z) he new
end
section
variable {X:Cx}{pins:List (Addr×Obj)}{σ:St}{H:Hp}{s:Shared}{a:Addr}{kvs:List (Key×V)}{k:Key}{u:Value}{A:Around}{E:Value→Shared→Prop}
end
def NoSl (i:Expr):Prop:=∀ ov iv,subscripted i false ov iv=operate [ov,iv] (getItem ov iv)
theorem vO {prog:Program}{w:World}{A:Around}{E:Value→Shared→Prop}{s:Shared}{env:Env}{value slice:Expr}{pos:Pos}{T id:String}{Q:Value→Shared→Prop}
  (hl:typeLookup (.type T) "__getitem__"=pure (some (.builtin id))) (hs:NoSl slice)
  (h:wpAny (model prog w) A (eval value env) (fun o s₁=>wpAny (model prog w) A (eval slice env) (fun i s₂=>s₂.TypeIs o T∧wpAny (model prog w) A (getItem o i) Q E s₂) E s₁) E s) :
  wpAny (model prog w) A (eval (.Subscript value slice pos) env) Q E s:=by
 refine Subscript_ (wpAny_mono h (fun o s₁ h₁=>wpAny_mono h₁ (fun i s₂ h₂=>?_) fun _ _ x=>x) fun _ _ x=>x)
 obtain⟨hT,h₂⟩:=h₂
 unfold subscriptTail
 refine wpAny_bind ?_
 rw[getitemInPython_of_ne hT.not_modules]
 refine wpAny_bind (wpAny_specialOf hT hl ?_)
 have fin:wpAny (model prog w) A (subscripted slice false o i) (fun r s₃=>wpAny (model prog w) A (letTemporaryGo value o r >>= fun _=>pure r) Q E s₃) E s₂:=by
  rw[hs o i]
  exact wpAny_operating (wpAny_mono h₂ (fun r s₃ h₃=>wpAny_bind (wpAny_letTemporaryGo (wpAny_pure h₃))) fun _ _ x=>x)
 first
  | exact wpAny_pure (wpAny_bind fin)
  | exact wpAny_bind (wpAny_pure (wpAny_bind fin))
  | exact wpAny_bind fin
section
variable {X:Cx}{o i e value:Expr}{pos pos' tpos:Pos}{td ty tv:TE}
end
section
variable {X:Cx}{pos:Pos}
end
section
variable {X:Cx}{pins:List (Addr×Obj)}{σ:St}{H:Hp}{s:Shared}{a:Addr}{y d:V}{u r:Value}{o:Option V}{A:Around}{E:Value→Shared→Prop}
end
section
variable {X:Cx}{o e f:Expr}{apos cpos:Pos}{td ty tx:TE}
end
section
variable {X:Cx}{pins:List (Addr×Obj)}{σ:St}{H:Hp}{s:Shared}{a:Addr}{kvs:List (Key×V)}{A:Around}{E:Value→Shared→Prop}
end
section
variable {X:Cx}{pins:List (Addr×Obj)}{σ:St}{H:Hp}{s:Shared}{a:Addr}{y:V}{u:Value}{A:Around}{E:Value→Shared→Prop}
end
end L2
end
noncomputable section
namespace FF
open PySem PySem.Spec PyProof.Rows L2
def dicGet {κ:Type}[DecidableEq κ](m:List (κ×D))(k:κ):Option D:=(m.find? fun p=>decide (p.1=k)).map (·.2)
def dicPut {κ:Type}[DecidableEq κ](m:List (κ×D))(k:κ)(d:D):List (κ×D):=if (m.any fun p=>decide (p.1=k))=true then m.map (fun p=>if p.1=k then (p.1,d) else p) else m++[(k,d)]
section
variable {κ:Type}{F:Fx}{Z:Hp}{m:List (κ×D)}{kvs:List (κ×V)}{k:κ}{d:D}{v:V}
theorem Pairs.inv (h:Pairs F Z ((k,d)::m) kvs):∃ v r,kvs=(k,v)::r∧Rep F.K F.C Z d v∧Pairs F Z m r:=by
 cases kvs with
 | nil=>have:=h.1;cases this
 | cons p r =>
  obtain⟨k',v⟩:=p
  obtain⟨h1,h2⟩:=h
  rw[List.map_cons,List.map_cons]at h1
  injection h1 with h1 h3
  rw[List.map_cons,List.map_cons,Reps]at h2
  obtain⟨v',r',e,q1,q2⟩:=h2
  injection e with e1 e2
  subst e1 e2
  cases (show k'=k from h1)
  exact⟨v,r,rfl,q1,h3,q2⟩
theorem Pairs.inv0 (h:Pairs F Z ([]:List (κ×D)) kvs):kvs=[]:=by
 cases kvs with
 | nil=>rfl
 | cons p r=>have:=h.1;cases this
theorem Pairs.length (h:Pairs F Z m kvs):kvs.length=m.length:=by have:=congrArg List.length h.1;simpa using this
variable [DecidableEq κ]
theorem Pairs.get:∀ {m:List (κ×D)} {kvs:List (κ×V)},Pairs F Z m kvs→dicGet m k=some d→∃ v,valV kvs k=some v∧Rep F.K F.C Z d v
 | [],kvs,h,e=>nomatch e
 | (k',d')::m,kvs,h,e=>by
  obtain⟨v,q,rfl,h1,h2⟩:=h.inv
  unfold dicGet at e
  rw[List.find?_cons]at e
  by_cases hk:k'=k
  ·rw[decide_eq_true (show (k',d').1=k from hk)]at e
   cases e
   exact⟨v,t4 (p:=(k',v)) hk,h1⟩
  ·rw[decide_eq_false (show ¬ (k',d').1=k from hk)]at e
   obtain⟨u,e1,e2⟩:=h2.get e
   exact⟨u,by rw[t5 (p:=(k',v)) hk];exact e1,e2⟩
theorem Pairs.any:∀ {m:List (κ×D)} {kvs:List (κ×V)},Pairs F Z m kvs→(kvs.any fun kv=>decide (kv.1=k))=(m.any fun p=>decide (p.1=k))
 | [],kvs,h=>by rw[h.inv0];rfl
 | (k',d')::m,kvs,h=>by
  obtain⟨v,q,rfl,h1,h2⟩:=h.inv
  rw[List.any_cons,List.any_cons,h2.any]
end
section
variable {F:Fx}{H Z:Hp}{S:SS}{σ:St}
end
section
variable {X:Cx}{F:Fx}{pos p:Pos}{k:Nat}{g ge:SS→R D}{e ei:Expr}{x:Str}
end
section
variable {X:Cx}{F:Fx}{pos p:Pos}{keys:List (Option Expr)}{values:List Expr}{ks:List Key}{gs:List (SS→R D)}{g:SS→R D}{e:Expr}{x:Str}
end
section
variable {X:Cx}{F:Fx}{p pos:Pos}{e:Expr}{gs:SS→R (List D)}{k:Nat}
end
section
variable {X:Cx}{F:Fx}{pos p:Pos}{k:Nat}{ga gb:SS→R D}{a b:Expr}{x:Str}
end
section
variable {prog:Program}{w:World}{A:Around}{E:Value→Shared→Prop}{s:Shared}
end
section
variable {X:Cx}{F:Fx}{e st:Expr}{te:TE}{g:SS→R D}{pos p2:Pos}
end
end FF
end
noncomputable section
namespace HT
open PySem PyProof.Rows
section
open PySem.SeqAt
open PySem.AutoSeq1 (wpAny_loadPart')
open PySem.MeetsSeq PySem.MeetsSeq2 PySem.MeetsSeq3
end
section
variable {prog:Program}{w:World}{A:Around}{E:Value→Shared→Prop}{s:Shared}
end
end HT
end
noncomputable section
namespace FF
open PySem PySem.Spec PyProof.Rows L2
section
variable {X:Cx}{F:Fx}{a b:Expr}{ga gb:SS→R D}{pos:Pos}{k:Nat}
end
section
variable {M:Model}{A:Around}{E:Value→Shared→Prop}{s:Shared}
end
section
variable {P:Program}{w:World}{K:PySem.W.Frag}{mg:Str→Option Value}{base:Heap}{N:List Str}{qual:Str}{scope:Scope}{f:Addr}{cd:Value}{A:Around}{outer:List Env}{s0:Shared}{H0:Hp}{E:XK}
end
section
variable {X:Cx}{E:XK}{scope:Scope}{cl:List (Str×Addr)}{C:Addr}{s:Shared}{H:Hp}{fp:List Addr}{N:List Str}{pins:List (Addr×Obj)}{σ:L2.St}{H1:Hp}{s1:Shared}
end
section
variable {X:Cx}{E:XK}{elt tg iter:Expr}{scope:Scope}{N:List Str}{own:Nat}{cap:List Nat}{pos:Pos}{wi:TI}{g:TG}{tc:TT}{te:TE}
set_option maxHeartbeats 4000000 in
end
section
variable {X:Cx}{F:Fx}{tg iter elt:Expr}{scope:Scope}{N:List Str}{own:Nat}{cap:List Nat}{pos:Pos}{git:SS→R (List D)}{g:D→SS→R SS}{ge:SS→R D}
end
section
variable {X:Cx}{F:Fx}{p pos:Pos}{e:Expr}{kws:List Keyword}{gs:SS→R (List D)}{k:Nat}
end
section
variable {X:Cx}{F:Fx}{tg:Expr}{gs:SS→R (List D)}
end
section
variable {prog:Program}{w:World}{A:Around}{E:Value→Shared→Prop}{R:Result→Shared→Prop}{h₀:Heap}{l I S:Addr}{its:List Value}{ks:Nat→List Int}{s0:Shared}
end
def tupI?:D→Option (List Int)
 | .tup ds=>intsOf ds
 | _=>none
section
variable {X:Cx}{F:Fx}{p pos:Pos}{e:Expr}{gs:SS→R (List D)}{k:Nat}
end
section
variable {X:Cx}{F:Fx}{p pos:Pos}{e:Expr}{gs:SS→R (List D)}{k:Nat}
end
section
variable {prog:Program}{w:World}{A:Around}{E:Value→Shared→Prop}{s:Shared}
abbrev byT (w:World):Bool:=w.params.followText "set-order"
end
section
variable {prog:Program}{w:World}{A:Around}{E:Value→Shared→Prop}{s:Shared}{R:Result→Shared→Prop}
abbrev bare (w:World):Obj:={ cls:=.type "set",dict:=none,data:=.set #[] 0 (.fresh 0 0 (!byT w)) }
end
section
variable {prog:Program}{w:World}{A:Around}{E:Value→Shared→Prop}{s:Shared}
end
section
variable {prog:Program}{w:World}{A:Around}{E:Value→Shared→Prop}{s:Shared}
end
section
variable {prog:Program}{w:World}{A:Around}{E:Value→Shared→Prop}{s:Shared}
end
section
variable {prog:Program}{w:World}{A:Around}{E:Value→Shared→Prop}{s:Shared}
end
section
variable {prog:Program}{w:World}{A:Around}{E:Value→Shared→Prop}{s:Shared}
end
section
variable {X:Cx}{F:Fx}{p p2 pos pos2:Pos}{e:Expr}{gs:SS→R (List D)}{k:Nat}
end
section
variable {X:Cx}{F:Fx}
def eOwnLen (i:Nat):SS→R D:=fun S=>match S[i]? with
 | some (some (.own ds))=>.ok (.int (ds.length:Nat))
 | _=>.stuck
theorem ri (i:Nat){x:Str}{p p0 pos:Pos}{k:Nat}(bx:BX X F k)(hg:Gl X "len")(hm:X.mg "len"=none)(hi:X.N[i]?=some x:=by rfl)(hv:Vis X.env.scope x:=by first | exact Or.inl rfl | exact Or.inr (Or.inl rfl) | exact Or.inr (Or.inr rfl))(hd:(x==("__debug__":Str))=false:=by decide)
  (hcd:(x==("__classdict__":Str))=false:=by decide) (he:starEach [.Name x p0] X.env=(false,eval (.Name x p0) X.env)::starEach [] X.env:=by rfl) (hpl:(backTo pos (starEach [] X.env)).any (·.1)=false:=by rfl):FE X F (.Call (.Name "len" p) [.Name x p0] [] pos) (eOwnLen i) :=
 (dz fP hg hm PySem.boot_len (fe (cO hi hv hd hcd) jb he) (he:=he) (hpl:=hpl)).weak fun σ H Q ⟨Z,S,ok,w⟩=>by
  unfold eOwnLen at w
  split at w
  ·rename_i ds e0
   obtain⟨a,vs,e1,e2,e3,e4,r⟩:=ok.own i ds e0
   refine⟨.ref a,e1,a,vs,rfl,.inl (SqL.of e2),?_⟩
   rw[← r.length]
   exact WG.now w ok.sub _ aO
  ·exact w.elim
variable {σ':Type}{S:SS}{st:Stmt}{rest:List Stmt}{J:σ'→SS→Prop}
end
inductive Prd {α β:Type}(R:α→β→Prop):List α→List β→Prop
 | nil:Prd R [] []
 | cons {a b l r}:R a b→Prd R l r→Prd R (a::l) (b::r)
section
variable {prog:Program}{w:World}{E:Value→Shared→Prop}
end
theorem Prd.length {α β:Type}{R:α→β→Prop}:∀ {l:List α} {r:List β},Prd R l r→l.length=r.length
 | _,_,.nil=>rfl
 | _,_,.cons _ t=>by rw[List.length_cons,List.length_cons,t.length]
section
variable {prog:Program}{w:World}{A:Around}{E:Value→Shared→Prop}{s:Shared}{R:Result→Shared→Prop}
end
section
variable {X:Cx}{F:Fx}{p p2 pos pos2:Pos}{e:Expr}{gs:SS→R (List D)}{k:Nat}{pins:List (Addr×Obj)}{σ:List (Option V)}{H:Hp}{s:Shared}
end
end FF
end
noncomputable section
set_option maxRecDepth 1000000
namespace FF
open PySem PySem.Spec PyProof.Rows L2
def ltOf:Code→Option Value→Option Bool
 | .call (.builtin id) ⟨[.int a _,.int b _],[]⟩,none=>if id="int.__lt__" then some (decide (a < b)) else none
 | _,_=>none
def ev {α:Type}(σ:Setting):Sem α→Option α
 | .pure a=>some a
 | .rule _ k=>ev σ (k ())
 | .point _ k=>ev σ (k ())
 | .ask k=>ev σ (k σ)
 | .call c h _ _ k=>match ltOf c h with
  | some b=>ev σ (k (.ok (.ret (.bool b))))
  | none=>none
 | _=>none
section
variable {prog:Program}{w:World}{A:Around}{E:Value→Shared→Prop}{s:Shared}
end
def known (f:Nat→Int)(t:Nat→Tok):List Value:=(List.range 64).map fun i=>.int (f i) (t i)
section
variable {prog:Program}{w:World}{A:Around}{E:Value→Shared→Prop}{s:Shared}
end
section
variable {X:Cx}{F:Fx}{p pos:Pos}{e:Expr}{gs:SS→R (List D)}{k:Nat}
end
section
variable {X:Cx}{F:Fx}{pos:Pos}{k:Nat}{g ge:SS→R D}{e ei:Expr}{x:Str}
end
section
variable {X:Cx}{F:Fx}{p pos:Pos}{e a b:Expr}{ga gb:SS→R D}{gs:SS→R (List D)}{k:Nat}
end
section
variable {X:Cx}{F:Fx}{o e:Expr}{g:SS→R D}{gs:List (SS→R D)}{apos cpos:Pos}{k:Nat}
end
section
variable {X:Cx}{F:Fx}{e:Expr}{lo hi:Option Expr}{g:SS→R D}{l h:SS→R (Option Int)}{pos p2:Pos}
end
def insA {α:Type}(xs:List α)(n:Nat)(v:α):List α:=xs.take n++v::xs.drop n
def oIns (ds:List D)(i v:D):R (List D):=match i with
 | .int j=>if (0≤j∧j≤1000000)∧ds.length < 16777216 then .ok (insA ds j.toNat v) else .stuck
 | _=>.stuck
def sInsC (i:Nat)(gi ge:SS→R D):SS→O:=fun S=>match S[i]? with
 | some (some (.own ds))=>rO (((gi S).bind fun j=>(ge S).bind fun v=>oIns ds j v).bind fun ds'=>.ok (.nx (S.set i (some (.own ds')))))
 | _=>.stuck
def rInsert:V→List V→Hp→VK→Prop:=fun x vs H Q=>∃ l xs i y,x=.ref l∧vs=[.int i,y]∧H l=some (.lst xs)∧xs.length < sizeLine∧0≤i∧i≤1000000∧Q .non (upd H l (.lst (insA xs i.toNat y)))
section
variable {X:Cx}
theorem t6 {xs:List V}{us:List Value}{y:V}{u:Value}(n:Nat)(r:Vals xs us)(ry:RelV y u):Vals (insA xs n y) (insA us n u):=(r.take n).append (.cons ry (r.drop n))
theorem rj:MtM X "list.insert" rInsert:=by
 intro pins s σ H x vs v us Q I rx rv h
 obtain⟨l,xs,i,y,rfl,rfl,hH,hz,h0,h1,q⟩:=h
 cases rx
 obtain⟨u,c,rfl,ru,rc⟩:=vals2 rv
 obtain⟨t,rfl⟩:=(show ∃ t,u=Value.int i t from ru)
 obtain⟨z,its,n,r,hl,e⟩:=I.lstM hH
 refine wpAny_call_entry PySem.F.slot_list_insert ⟨_,e,rfl⟩ PySem.F.entry_list_insert ?_ (PySem.F.args_list_insert_3 _ _ _)
 have fits:Builtin.List.listFitsIndex i=true:=by
  unfold Builtin.List.listFitsIndex
  simp
  omega
 unfold Builtin.«list.insert» selfAndSome noKeywords
 refine wpAny_bind (wpAny_bind (wpAny_pure (wpAny_bind (wpAny_pure (wpAny_pure ?_)))))
 refine wpAny_bind ?_
 unfold asIndex
 refine wpAny_bind (wpAny_pure (wpAny_pure ?_))
 rw[if_neg (by rw[fits];decide)]
 have ea:(fun xs:Array Value=>(xs.extract 0 (if i < 0 then (i+(xs.size:Int)).toNat else min i.toNat xs.size)).push c++xs.extract (if i < 0 then (i+(xs.size:Int)).toNat else min i.toNat xs.size) xs.size) its.toArray=(insA its i.toNat c).toArray:=by
  dsimp only
  rw[if_neg (by omega)]
  apply Array.ext'
  show (SetTable.insertAt its.toArray (min i.toNat its.toArray.size) c).toList=_
  rw[SetTable.toList_insertAt,List.size_toArray]
  unfold insA
  by_cases hc:i.toNat≤its.length
  ·rw[Nat.min_eq_left hc]
  ·rw[Nat.min_eq_right (by omega),List.take_of_length_le (show its.length≤its.length from Nat.le_refl _),List.drop_eq_nil_of_le (Nat.le_refl _),List.take_of_length_le (show its.length≤i.toNat by omega),List.drop_eq_nil_of_le (show its.length≤i.toNat by omega)]
 have ln:(insA its i.toNat c).length=its.length+1:=by
  unfold insA
  rw[List.length_append,List.length_cons,List.length_take,List.length_drop]
  omega
 refine wpAny_bind (listUpdate_at e rfl ?_ (by rw[List.size_toArray];omega) (Nat.le_trans (Nat.le_of_eq (congrArg Array.size ea)) (by
  rw[List.size_toArray,ln]
  omega)))
 refine wpAny_pure ⟨_,rfl,.non,_,I.lset (its':=insA its i.toNat c) (t':=s.toks) hH e ea (t6 _ r rc) ?_,rfl,q⟩
 have ln2:(insA xs i.toNat y).length=xs.length+1:=by
  unfold insA
  rw[List.length_append,List.length_cons,List.length_take,List.length_drop]
  omega
 rw[ln2]
 omega
end
def sIns (i:Nat)(gs:SS→R (List D)):SS→O:=fun S=>match S[i]? with
 | some (some (.own ds))=>rO ((gs S).bind fun es=>match es with
  | [j,d]=>(oIns ds j d).bind fun ds'=>.ok (.nx (S.set i (some (.own ds'))))
  | _=>.stuck)
 | _=>.stuck
section
variable {X:Cx}{F:Fx}{e ei:Expr}{gs:SS→R (List D)}{pos p0 apos cpos:Pos}{x:Str}
theorem rk (i:Nat)(ha:FA X F [ei,e] gs)(hi:X.N[i]?=some x:=by rfl)(hv:Vis X.env.scope x:=by first | exact Or.inl rfl | exact Or.inr (Or.inl rfl) | exact Or.inr (Or.inr rfl))(hd:(x==("__debug__":Str))=false:=by decide)
  (hcd:(x==("__classdict__":Str))=false:=by decide)
  (hbase:attributeBase (.Name x p0) "insert" X.env (eval (.Name x p0) X.env)=eval (.Name x p0) X.env:=by rfl)
  (hfew:((backTo cpos (starEach [ei,e] X.env)).all (fun x=>!x.1)&&(backToKw cpos (keywordEach [] X.env)).all (fun x=>x.1.isSome)
   && decide ([ei,e].length+([]:List Keyword).length+(if ([]:List Keyword).isEmpty then 0 else 1) < 30))=true:=by rfl)
  (hline:(apos.endLine==cpos.line)=true:=by rfl) (hs:starEach [ei,e] X.env=(false,eval ei X.env)::starEach [e] X.env:=by rfl) (hplain:(backTo cpos (starEach [e] X.env)).any (·.1)=false:=by rfl)
  (hsw:swapsWith (.Call (.Attribute (.Name x p0) "insert" apos) [ei,e] [] cpos) none pos.line X.env=pure false:=by rfl) :
  FS X F (.Expr (.Call (.Attribute (.Name x p0) "insert" apos) [ei,e] [] cpos) pos) (sIns i gs) :=
 (iV (jd PySem.F.plainAttrs_list PySem.F.slot_list_insert (by kernel_rfl) (rj (X:=X)) (cO hi hv hd hcd) ha hbase hfew hline hs hplain) hsw).weak fun D σ H ⟨Z,S,ok,w⟩=>by
  unfold sIns at w
  split at w
  ·rename_i ds e0
   obtain⟨a,vs,e1,e2,e3,e4,r⟩:=ok.own i ds e0
   refine⟨.ref a,e1,.inl ⟨rfl,vs,SqL.of e2⟩,aZ ok (WO.wg ok w) fun es' us H1 Z1 ok1 x1 rs w1=>?_⟩
   split at w1
   ·rename_i dj d
    cases dj with
    | int j =>
     unfold oIns at w1
     dsimp only at w1
     split at w1
     ·rename_i hl
      rw[Reps]at rs
      obtain⟨v1,r1,rfl,q1,rs⟩:=rs
      rw[Reps]at rs
      obtain⟨v2,r2,rfl,q2,rs⟩:=rs
      rw[Reps]at rs
      subst rs
      rw[Rep]at q1
      subst q1
      have w2:=WG.now w1 ok1.sub
      refine⟨a,vs,j,v2,rfl,rfl,x1.same _ _ e2,by rw[← r.length,sizeLine_eq];exact hl.2,hl.1.1,hl.1.2,?_⟩
      have rr:=r.mono x1.z
      exact w2 σ _ Z1 (Same.refl _) (ok1.write e0 e1 ((rr.take j.toNat).append (Reps.cons q2 (rr.drop j.toNat))))
     ·exact w1.elim
    | _=>exact w1.elim
   ·exact w1.elim
  ·exact w.elim
theorem fs_I (i:Nat){st:Stmt}{gi ge:SS→R D}(h:FS X F st (sIns i (aL [gi,ge]))):FS X F st (sInsC i gi ge):=f8 h fun S=>by
 unfold sIns sInsC
 cases q:S[i]? with
 | none=>rfl
 | some o =>
  cases o with
  | none=>rfl
  | some x =>
   cases x with
   | own ds =>
    show rO ((((gi S).bind fun d=>((ge S).bind fun d=>(R.ok []:R (List D)).bind fun ds=>R.ok (d::ds)).bind fun ds=>R.ok (d::ds))).bind _)=_
    cases gi S with
    | ok a =>
     cases ge S with
     | ok b=>rfl
     | err k=>rfl
     | stuck=>rfl
    | err k=>rfl
    | stuck=>rfl
   | _=>rfl
end
section
variable {X:Cx}{pins:List (Addr×Obj)}{σ:St}
variable {F:Fx}{k:Nat}{f:Addr}{fd:FuncData}{ps:List Str}{t:List D→R D}{ds:List D}{l I S:Addr}{H0 Z0:Hp}{R:Result→Shared→Prop}{d:D}
end
section
variable {X:Cx}{F:Fx}{p pos kp np:Pos}{e:Expr}{g:SS→R D}{k:Nat}{x:Str}{ps:List Str}{t:List D→R D}
end
def tget (kvs:List TKV)(ks:List Int):Option V:=(kvs.find? fun p=>decide (p.1=ks)).map (·.2.2)
def tput (kvs:List TKV)(ks:List Int)(b:Addr)(v:V):List TKV:=if (kvs.any fun p=>decide (p.1=ks))=true then kvs.map (fun p=>if p.1=ks then (p.1,p.2.1,v) else p) else kvs++[(ks,b,v)]
section
variable {kvs:List TKV}{xs:List TKU}{ks:List Int}
theorem vP (r:Paired tabR kvs xs):RelO (tget kvs ks) ((atKey xs ks).map (·.2)):=by
 unfold tget atKey
 induction r with
 | nil=>exact True.intro
 | cons h _ ih =>
  rename_i p q ps qs _
  obtain⟨h1,h2,h3⟩:=h
  rw[List.find?_cons,List.find?_cons,← h1]
  by_cases c:p.1=ks
  ·rw[decide_eq_true c];exact h3
  ·rw[decide_eq_false c];exact ih
theorem mH (r:Paired tabR kvs xs):(atKey xs ks).isSome=(kvs.any fun p=>decide (p.1=ks)):=by
 unfold atKey
 rw[Option.isSome_map]
 induction r with
 | nil=>rfl
 | cons h _ ih =>
  rename_i p q ps qs _
  obtain⟨h1,h2,h3⟩:=h
  rw[List.find?_cons,List.any_cons,← h1,← ih]
  by_cases c:p.1=ks
  ·rw[decide_eq_true c];rfl
  ·rw[decide_eq_false c];rfl
theorem vQ {v:V}{u:Value}(rv:RelV v u)(r:Paired tabR kvs xs):Paired tabR (kvs.map fun p=>if p.1=ks then (p.1,p.2.1,v) else p) (xs.map (putAt ks u)):=by
 induction r with
 | nil=>exact .nil
 | cons h _ ih =>
  rename_i p q ps qs _
  refine .cons ?_ ih
  obtain⟨h1,h2,h3⟩:=h
  show tabR (if p.1=ks then (p.1,p.2.1,v) else p) (if q.1=ks then (q.1,q.2.1,u) else q)
  rw[← h1]
  by_cases c:p.1=ks
  ·rw[if_pos c,if_pos c];exact⟨rfl,h2,rv⟩
  ·rw[if_neg c,if_neg c];exact⟨h1,h2,h3⟩
theorem rl {α β:Type}{R:α→β→Prop}{as:List α}{bs:List β}{a:α}{b:β}(r:Paired R as bs)(h:R a b):Paired R (as++[a]) (bs++[b]):=by
 induction r with
 | nil=>exact .cons h .nil
 | cons h' _ ih=>exact .cons h' ih
theorem vR {v:V}{u:Value}{b:Addr}(rv:RelV v u)(r:Paired tabR kvs xs):Paired tabR (tput kvs ks b v) (storedH xs ks b u):=by
 unfold tput storedH
 rw[mH r]
 split
 ·exact vQ rv r
 ·exact rl r ⟨rfl,rfl,rv⟩
theorem t7 {α β:Type}{R:α→β→Prop}{as:List α}{bs:List β}(r:Paired R as bs):∀ b∈bs,∃ a∈as,R a b:=by
 induction r with
 | nil=>exact fun b hb=>nomatch hb
 | cons h _ ih =>
  intro b hb
  rcases List.mem_cons.mp hb with rfl | hb
  ·exact⟨_,.head _,h⟩
  ·obtain⟨a,ha,q⟩:=ih b hb
   exact⟨a,.tail _ ha,q⟩
theorem mI {α β:Type}{R:α→β→Prop}{as:List α}{bs:List β}(r:Paired R as bs):as.length=bs.length:=by
 induction r with
 | nil=>rfl
 | cons h _ ih=>rw[List.length_cons,List.length_cons,ih]
theorem t8 {v:V}{b:Addr}:(tput kvs ks b v).length≤kvs.length+1:=by unfold tput;split<;>simp
end
section
variable {X:Cx}{pins:List (Addr×Obj)}{σ:St}{H:Hp}{s:Shared}{a b:Addr}{kvs:List TKV}{ks:List Int}{A:Around}{E:Value→Shared→Prop}
theorem fh {P:Program}{w:World}:∀ {ks:List Int} {its:List Value},Vals (ks.map V.int) its→ItemsAre (intKind P w) ks its
 | [],its,h=>by cases h;exact .nil
 | k::ks,its,h=>by
  cases h with
  | cons h r =>
   obtain⟨t,rfl⟩:=h
   exact .cons (by show Value.isInt k (.int k t)=true;simp[Value.isInt]) (fh r)
theorem i4 (I:Inv X pins σ H s)(h:SqT X.K H b (ks.map V.int)):IsTupleKey (intKind X.prog X.w) s.heap ks b:=by
 obtain⟨its,r,⟨o,e,c,n,d⟩,_⟩:=I.tuple h
 exact⟨o,its.toArray,n,e,c,d,by simpa using fh r⟩
def KeysAt (K:PySem.W.Frag)(H:Hp)(kvs:List TKV):Prop:=∀ x∈kvs,SqT K H x.2.1 (x.1.map V.int)
theorem gj (I:Inv X pins σ H s)(e:H a=some (tabO a kvs))(hk:KeysAt X.K H kvs):∃ xs:List TKU,Paired tabR kvs xs∧xs.length≤sizeLine∧(a==sysModules)=false∧s.heap.DictOfH (tupleKind (intKind X.prog X.w)) a xs:=by
 obtain⟨xs,r,hl,hm,o,es,ep,h1,h2,h3,h4,h5⟩:=(show ObjOk X.prog X.w H s.heap a (tabO a kvs) from I.hok a _ e).1
 refine⟨xs,r,hl,hm,o,es,ep,h1,h2,h3,h4,fun x hx=>?_,h5⟩
 obtain⟨p,hp,q1,q2,_⟩:=t7 r x hx
 have:=i4 I (hk p hp)
 rw[← q1,← q2];exact this
theorem pO {P:Program}{w:World}{H':Hp}{h':Heap}(h:tabφ a kvs h'):ObjOk P w H' h' a (tabO a kvs):=by
 refine⟨h,?_,fun h1 h2 ⟨xs,r,hl,hm,o,es,ep,g1,g⟩ kk=>⟨xs,r,hl,hm,o,es,ep,kk o g1,g⟩⟩
 obtain⟨xs,r,hl,hm,o,es,ep,g1,g⟩:=h
 exact⟨o,g1⟩
theorem rm {v:V}{Q:Value→Shared→Prop}(hu:A.units+1 < cLine)(I:Inv X pins σ H s)(e:H a=some (tabO a kvs))(hk:KeysAt X.K H kvs)(hb:SqT X.K H b (ks.map V.int))(g:tget kvs ks=some v)(h:∀ w' s',Inv X pins σ H s'→RelV v w'→Q w' s') :
  wpAny (model X.prog X.w) A (getItem (.ref a) (.ref b)) Q E s:=by
 obtain⟨xs,r,hl,hm,dd⟩:=gj I e hk
 obtain⟨w',hw,rw'⟩:=RelO.some_of (v:=v) (o:=(atKey xs ks).map (·.2)) (by rw[← g];exact vP r)
 obtain⟨p,hp,hp2⟩:=Option.map_eq_some_iff.mp hw
 refine wpAny_getItem_heap (tupleKind_room_in1 hu) (i4 I hb) dd hp ?_
 rw[hp2]
 exact h w' _ (I.tok _) rw'
theorem t_in {Q:Value→Shared→Prop}(hu:A.units+1 < cLine)(I:Inv X pins σ H s)(e:H a=some (tabO a kvs))(hk:KeysAt X.K H kvs)(hb:SqT X.K H b (ks.map V.int))(h:∀ s',Inv X pins σ H s'→Q (.bool (kvs.any fun p=>decide (p.1=ks))) s') :
  wpAny (model X.prog X.w) A (compareOp .In (.ref b) (.ref a)) Q E s:=by
 obtain⟨xs,r,hl,hm,dd⟩:=gj I e hk
 refine wpAny_in_heap (tupleKind_room_in1 hu) (i4 I hb) hm dd ?_
 rw[mH r]
 exact h _ (I.tok _)
theorem rn {v:V}{u:Value}{Q:Unit→Shared→Prop}(hu:A.units+1 < cLine)(I:Inv X pins σ H s)(e:H a=some (tabO a kvs))(hk:KeysAt X.K H kvs)(hb:SqT X.K H b (ks.map V.int))(rv:RelV v u)(hl:kvs.length < 1000000)(h:∀ s',Inv X pins σ (upd H a (tabO a (tput kvs ks b v))) s'→Q () s') :
  wpAny (model X.prog X.w) A (setItem (.ref a) (.ref b) u) Q E s:=by
 obtain⟨xs,r,hl',hm,dd⟩:=gj I e hk
 refine wpAny_setItem_heap (hsz:=hl') (tupleKind_room_in1 hu) (i4 I hb) dd fun h' dd' hs=>h _ ?_
 obtain⟨q,es,ep,hq,h2,h3,h4,_,h5⟩:=dd'
 have rp:=vR (ks:=ks) (b:=b) rv r
 refine vN I (by rw[e];exact True.intro) hs ⟨q,hq⟩ (pO ⟨_,rp,?_,hm,q,es,ep,hq,h2,h3,h4,h5⟩)
 rw[← mI rp,sizeLine_eq]
 have:=t8 (kvs:=kvs) (ks:=ks) (b:=b) (v:=v)
 omega
theorem oD (I:Inv X pins σ H s)(e:H a=some (tabO a kvs)):s.TypeIs (.ref a) "dict" := by
 obtain⟨xs,r,hl,hm,o,es,ep,h1,h2,_⟩:=(show ObjOk X.prog X.w H s.heap a (tabO a kvs) from I.hok a _ e).1
 exact⟨o,h1,h2.1⟩
theorem ro {xs:List TKU}(hm:(a==sysModules)=false):MeetsIn X.prog X.w (Builtin.«dict.__len__» ⟨[.ref a],[]⟩) (fun _ R s=>s.heap.DictOfH (tupleKind (intKind X.prog X.w)) a xs∧R (.ok (.ret (.int xs.length s.toks))) { s with toks:=s.toks+1 }) :=
 .of_wp fun A R s ⟨dd,h⟩=>by
  obtain⟨o,es,ep,g1,g2,g3,g4,_⟩:=dd
  have en:es.size=xs.length:=size_of_entries g4
  show wpAny _ _ (dictSize a >>= _) _ _ s
  unfold dictSize
  refine wpAny_bind (wpAny_bind (wpAny_dictEntries g1 g3 (wpAny_pure ?_)))
  show wpAny _ _ (Builtin.Dict.pendingCount a >>= _) _ _ s
  refine wpAny_bind (wpAny_pendingCount_other hm (wpAny_ret_mkInt ?_))
  rw[en]
  exact h
theorem yA {Q:Value→Shared→Prop}(I:Inv X pins σ H s)(e:H a=some (tabO a kvs))(hk:KeysAt X.K H kvs)(h:∀ t s',Inv X pins σ H s'→Q (.int kvs.length t) s'):wpAny (model X.prog X.w) A (call (.builtin "len") [.ref a]) Q E s:=by
 obtain⟨xs,r,hl,hm,dd⟩:=gj I e hk
 have hz:xs.length < 2^63:=by rw[sizeLine_eq]at hl;omega
 rw[mI r]at h
 refine Calls.call_function_entry PySem.kind_len PySem.plain_len PySem.entry_len (PySem.args_len1 _) ?_
 unfold Builtin.«len»
 refine wpAny_bind (m:=oneArg "len" _) (wpAny_pure (wpAny_bind (m:=callSpecial? (.ref a) (Str.ofString "__len__")) (wpAny_callSpecial?_slot (name:=Str.ofString "__len__") dd.typeIs PySem.F.slot_dict_len
  (call_meetsIn PySem.F.slot_dict_len dd.typeIs PySem.F.entry_dict_len (PySem.F.args_dict_len_1 _) (ro hm) ⟨dd,?_⟩))))
 show wpAny _ _ _ _ _ { s with toks:=s.toks+1 }
 refine wpAny_bind (wpAny_holding (wpAny_pure (wpAny_bind (wpAny_letGo ?_))))
 show wpAny _ _ (if ((xs.length:Nat):Int) < 0 then _ else _) _ _ _
 rw[if_neg (by omega)]
 show wpAny _ _ (if ((xs.length:Nat):Int)≥2^63 then _ else _) _ _ _
 rw[if_neg (by omega)]
 exact wpAny_bind (wpAny_mkInt (wpAny_pure ⟨_,rfl,h _ _ (I.tok _)⟩))
end
section
variable {X:Cx}{pos:Pos}{o i e value:Expr}{td ty tv:TE}{pos':Pos}
theorem vS:PE X (.Dict [] [] pos) (fun _ H Q=>∀ p,H p=none→Q (.ref p) (upd H p (tabO p []))):=fun pins s σ H Q I h =>
 wpAny_Dict_empty ⟨.ref s.heap.objs.size,_,I.laid (a:=s.heap.objs.size) (o:=tabO s.heap.objs.size []) (t':=s.toks) (fun _ _ q=>Heap.get?_push_of_some _ q) (Nat.le_refl _)
  (pO ⟨[],.nil,Nat.zero_le _,beq_eq_false_iff_ne.mpr (Ne.symm (Nat.ne_of_lt I.big)),_,#[],0,Heap.get?_push_size _ rfl,⟨rfl,rfl,rfl⟩,rfl,rfl,List.nodup_nil⟩),rfl,h _ (I.hok.fresh (Nat.le_refl _))⟩
theorem vT (hu:X.A.units+1 < cLine)(ho:PE X o td)(hi:PE X i ty)(hs:NoSl i):PE X (.Subscript o i pos)
  (fun σ H Q=>td σ H fun x H1=>ty σ H1 fun y H2=>∃ a b kvs ks v,x=.ref a∧y=.ref b∧H2 a=some (tabO a kvs)∧KeysAt X.K H2 kvs∧SqT X.K H2 b (ks.map V.int)∧tget kvs ks=some v∧Q v H2):=by
 intro pins s σ H Q I h
 refine vO PySem.F.slot_dict_getitem.lookup hs (thn (ho pins s σ H _ I h) fun u s1 ⟨x,H1,I1,rx,q1⟩=>thn (hi pins s1 σ H1 _ I1 q1) fun iv s2 ⟨y,H2,I2,ry,a,b,kvs,ks,v,ex,ey,g1,g2,g3,g4,q2⟩=>?_)
 subst ex;subst ey
 cases (show u=Value.ref a from rx)
 cases (show iv=Value.ref b from ry)
 exact⟨oD I2 g1,rm hu I2 g1 g2 g3 g4 fun w' s' I' r'=>⟨v,H2,I',r',q2⟩⟩
def rTIn (K:PySem.W.Frag):R2:=fun x y H Q=>∃ a b kvs ks,x=.ref b∧y=.ref a∧H a=some (tabO a kvs)∧KeysAt K H kvs∧SqT K H b (ks.map V.int)∧Q (.bl (kvs.any fun p=>decide (p.1=ks))) H
theorem t9 (hu:X.A.units+1 < cLine):OpR X (compareOp .In) (rTIn X.K):=by
 intro pins s σ H x y v u Q I rx ry h
 obtain⟨a,b,kvs,ks,rfl,rfl,g1,g2,g3,q⟩:=h
 cases rx
 cases ry
 exact t_in hu I g1 g2 g3 fun s' I'=>⟨.bl _,H,I',rfl,q⟩
theorem vU (hu:X.A.units+1 < cLine)(ho:PE X o td)(hi:PE X i ty)(hv:PE X value tv)(hs:swapsWith value (some (.Subscript o i pos')) pos.line X.env=pure false):PS X (.Assign [.Subscript o i pos'] value pos)
  (fun D σ H=>tv σ H fun v H1=>td σ H1 fun x H2=>ty σ H2 fun y H3=>∃ a b kvs ks,x=.ref a∧y=.ref b∧H3 a=some (tabO a kvs)∧KeysAt X.K H3 kvs∧SqT X.K H3 b (ks.map V.int)∧kvs.length < 1000000∧D.nx σ (upd H3 a (tabO a (tput kvs ks b v)))):=by
 intro pins s σ H D I h
 refine wpAny_Assign_Subscript (thn (hv pins s σ H _ I h) fun r s1 ⟨v,H1,I1,rv,q1⟩=>thn (ho pins s1 σ H1 _ I1 q1) fun u s2 ⟨x,H2,I2,rx,q2⟩=>thn (hi pins s2 σ H2 _ I2 q2) fun iv s3 ⟨y,H3,I3,ry,a,b,kvs,ks,ex,ey,g1,g2,g3,g4,q3⟩=>?_) hs
 subst ex;subst ey
 cases (show u=Value.ref a from rx)
 cases (show iv=Value.ref b from ry)
 exact rn hu I3 g1 g2 g3 rv g4 fun s4 I4=>⟨σ,_,I4,q3⟩
end
def oTIn (m:List (List Int×D))(k:D):R D:=match tupI? k with
 | some k=>.ok (.bl (m.any fun p=>decide (p.1=k)))
 | none=>.stuck
def oTSt (m:List (List Int×D))(k d:D):R (List (List Int×D)):=match tupI? k with
 | some k=>if m.length < 1000000 then .ok (dicPut m k d) else .stuck
 | none=>.stuck
def tabD (m:List (List Int×D)):D:=.tab (m.map (·.1)) (m.map (·.2))
def dTx (d k:D):R D:=match d with
 | .tab ks xs=>match tupI? k with
  | some k=>match dicGet (ks.zip xs) k with
   | some d=>.ok d
   | none=>.stuck
  | none=>.stuck
 | _=>.stuck
def dLenD:List D→R D
 | [.tab ks _]=>.ok (.int (ks.length:Nat))
 | _=>.stuck
structure TabOk (F:Fx)(Z:Hp)(m:List (List Int×D))(kvs:List TKV):Prop where
 ks:kvs.map (·.1)=m.map (·.1)
 at_:KeysAt F.K Z kvs
 vs:Reps F.K F.C Z (m.map (·.2)) (kvs.map (·.2.2))
section
variable {F:Fx}{Z Z':Hp}{m:List (List Int×D)}{kvs:List TKV}{ks:List Int}{d:D}{v:V}{b:Addr}
theorem TabOk.mono (h:TabOk F Z m kvs)(z:Same Z Z'):TabOk F Z' m kvs:=⟨h.ks,fun x hx=>(h.at_ x hx).mono z,h.vs.mono z⟩
theorem TabOk.nil:TabOk F Z [] []:=⟨rfl,(fun x hx=>nomatch hx),Reps.nil⟩
theorem TabOk.cons (h:TabOk F Z m kvs)(hb:SqT F.K Z b (ks.map V.int))(r:Rep F.K F.C Z d v):TabOk F Z ((ks,d)::m) ((ks,b,v)::kvs) :=
 ⟨by rw[List.map_cons,List.map_cons,h.ks],fun x hx=>(List.mem_cons.mp hx).elim (fun z=>by rw[z];exact hb) (h.at_ x),Reps.cons r h.vs⟩
theorem TabOk.inv {k:List Int×D}(h:TabOk F Z (k::m) kvs):∃ b v r,kvs=(k.1,b,v)::r∧SqT F.K Z b (k.1.map V.int)∧Rep F.K F.C Z k.2 v∧TabOk F Z m r:=by
 cases kvs with
 | nil=>have:=h.ks;cases this
 | cons p r =>
  obtain⟨k',b,v⟩:=p
  obtain⟨h1,h2,h3⟩:=h
  rw[List.map_cons,List.map_cons]at h1
  injection h1 with h1 h4
  have q:=h2 _ (.head _)
  obtain⟨r1,r2⟩:=Reps.uncons h3
  cases (show k'=k.1 from h1)
  exact⟨b,v,r,rfl,q,r1,h4,fun x hx=>h2 x (.tail _ hx),r2⟩
theorem TabOk.inv0 (h:TabOk F Z [] kvs):kvs=[]:=by
 cases kvs with
 | nil=>rfl
 | cons p r=>have:=h.ks;cases this
theorem TabOk.any:∀ {m:List (List Int×D)} {kvs:List TKV},TabOk F Z m kvs→(kvs.any fun p=>decide (p.1=ks))=(m.any fun p=>decide (p.1=ks))
 | [],kvs,h=>by rw[h.inv0];rfl
 | k::m,kvs,h=>by
  obtain⟨b,v,r,rfl,_,_,h2⟩:=h.inv
  rw[List.any_cons,List.any_cons,h2.any]
theorem TabOk.len (h:TabOk F Z m kvs):kvs.length=m.length:=by have:=congrArg List.length h.ks;simpa using this
theorem TabOk.get:∀ {m:List (List Int×D)} {kvs:List TKV},TabOk F Z m kvs→dicGet m ks=some d→∃ v,tget kvs ks=some v∧Rep F.K F.C Z d v
 | [],kvs,h,e=>nomatch e
 | k::m,kvs,h,e=>by
  obtain⟨b,v,r,rfl,h0,h1,h2⟩:=h.inv
  unfold dicGet at e
  rw[List.find?_cons]at e
  unfold tget
  rw[List.find?_cons]
  by_cases hk:k.1=ks
  ·rw[decide_eq_true hk]at e
   rw[decide_eq_true (show (k.1,b,v).1=ks from hk)]
   cases e
   exact⟨v,rfl,h1⟩
  ·rw[decide_eq_false hk]at e
   rw[decide_eq_false (show ¬ (k.1,b,v).1=ks from hk)]
   exact h2.get e
theorem TabOk.upd (r:Rep F.K F.C Z d v):∀ {m:List (List Int×D)} {kvs:List TKV},TabOk F Z m kvs→TabOk F Z (m.map fun p=>if p.1=ks then (p.1,d) else p) (kvs.map fun p=>if p.1=ks then (p.1,p.2.1,v) else p)
 | [],kvs,h=>by rw[h.inv0];exact TabOk.nil
 | k::m,kvs,h=>by
  obtain⟨b,u,q,rfl,h0,h1,h2⟩:=h.inv
  rw[List.map_cons,List.map_cons]
  by_cases hk:k.1=ks
  ·rw[if_pos hk,if_pos (show (k.1,b,u).1=ks from hk)]
   exact(h2.upd r).cons h0 r
  ·rw[if_neg hk,if_neg (show ¬ (k.1,b,u).1=ks from hk)]
   obtain⟨k1,k2⟩:=k
   exact(h2.upd r).cons h0 h1
theorem TabOk.snoc (r:Rep F.K F.C Z d v)(hb:SqT F.K Z b (ks.map V.int)):∀ {m:List (List Int×D)} {kvs:List TKV},TabOk F Z m kvs→TabOk F Z (m++[(ks,d)]) (kvs++[(ks,b,v)])
 | [],kvs,h=>by rw[h.inv0];exact TabOk.nil.cons hb r
 | k::m,kvs,h=>by
  obtain⟨b',u,q,rfl,h0,h1,h2⟩:=h.inv
  obtain⟨k1,k2⟩:=k
  exact(h2.snoc r hb).cons h0 h1
theorem TabOk.put (h:TabOk F Z m kvs)(r:Rep F.K F.C Z d v)(hb:SqT F.K Z b (ks.map V.int)):TabOk F Z (dicPut m ks d) (tput kvs ks b v):=by
 unfold dicPut tput
 rw[h.any]
 split
 ·exact h.upd r
 ·exact h.snoc r hb
theorem mJ {α β:Type}:∀ l:List (α×β),(l.map (·.1)).zip (l.map (·.2))=l
 | []=>rfl
 | (a,b)::l=>by rw[List.map_cons,List.map_cons,List.zip_cons_cons,mJ l]
theorem pP {K:PySem.W.Frag}{C:Nat→Addr}{H0 Z0:Hp}{E:XK}{ks:List (List Int)}{xs:List D}(h:Rep K C Z (.tab ks xs) v):∃ a kvs,v=.ref a∧Z a=some (tabO a kvs)∧TabOk ⟨K,C,H0,Z0,E⟩ Z (ks.zip xs) kvs∧ks.length=xs.length:=by
 rw[Rep]at h
 obtain⟨a,kvs,h1,h2,h3,h4,h5⟩:=h
 have l1:=congrArg List.length h3
 have l2:=h5.length
 rw[List.length_map]at l1 l2
 refine⟨a,kvs,h1,h2,⟨?_,h4,?_⟩,by omega⟩
 ·rw[List.map_fst_zip (by omega)];exact h3
 ·rw[List.map_snd_zip (by omega)];exact h5
theorem jy {K:PySem.W.Frag}{C:Nat→Addr}{k:D}{y:V}(e:tupI? k=some ks)(r:Rep K C Z k y):∃ b,y=.ref b∧SqT K Z b (ks.map V.int):=by
 cases k with
 | tup ds =>
  rw[Rep]at r
  obtain⟨a,vs,rfl,h1,h2⟩:=r
  have:=dU h2 e
  subst this
  exact⟨a,rfl,h1⟩
 | _=>cases e
end
abbrev dt (m:List (List Int×D)):Option Sl:=some (.dit m)
def sTNew (i:Nat):SS→O:=fun S=>.nx (S.set i (some (.dit [])))
def eTIn (i:Nat)(g:SS→R D):SS→R D:=fun S=>(g S).bind fun k=>match S[i]? with
 | some (some (.dit m))=>oTIn m k
 | _=>.stuck
def sTSt (i:Nat)(gi ge:SS→R D):SS→O:=fun S=>match S[i]? with
 | some (some (.dit m))=>rO (((ge S).bind fun v=>(gi S).bind fun k=>oTSt m k v).bind fun m'=>.ok (.nx (S.set i (some (.dit m')))))
 | _=>.stuck
def eTLen (i:Nat):SS→R D:=fun S=>match S[i]? with
 | some (some (.dit m))=>.ok (.int (m.length:Nat))
 | _=>.stuck
section
variable {F:Fx}{H Z:Hp}{S:SS}{σ:St}
theorem StOk.dit (h:StOk F H Z S σ)(i:Nat)(m:List (List Int×D))(e:S[i]?=some (some (.dit m))):∃ a kvs,σ[i]?=some (some (.ref a))∧H a=some (tabO a kvs)∧TabOk F Z m kvs:=by
 obtain⟨v,A,e1,⟨a,kvs,rfl,rfl,e2,r1,r2,r3⟩,_⟩:=h.sl i _ e
 exact⟨a,kvs,e1,e2,r1,r2,r3⟩
theorem StOk.freezeT (h:StOk F H Z S σ){i:Nat}{m:List (List Int×D)}(e:S[i]?=some (some (.dit m))):∃ Z',Same Z Z'∧StOk F H Z' (S.set i (some (.val (tabD m)))) σ:=by
 obtain⟨v,A,e1,o,p⟩:=h.sl i _ e
 obtain⟨a,kvs,rfl,rfl,e2,r1,r2,r3⟩:=id o
 have za:Z a=none:=p.z a (.head _)
 have hz:Same Z (upd Z a (tabO a kvs)):=aJ za
 refine⟨upd Z a (tabO a kvs),hz,h.frzAll (x:=.dit m) (d:=tabD m) e e1 o hz (fun b q eb=>?_) (fun b hb=>?_) ?_⟩
 ·by_cases c:b=a
  ·subst c;rw[av]at eb;cases eb;exact e2
  ·rw[aA c]at eb;exact h.sub b q eb
 ·by_cases c:b=a
  ·subst c;exact .inr (.head _)
  ·rw[aA c]at hb;exact .inl hb
 ·unfold tabD
  rw[Rep]
  exact⟨a,kvs,rfl,av,r1,fun x hx=>(r2 x hx).mono hz,r3.mono hz⟩
end
section
variable {X:Cx}{F:Fx}{pos p p0:Pos}{k:Nat}{g ge:SS→R D}{e ei:Expr}{x:Str}
theorem kP (i:Nat){pos':Pos}(hN:X.N.Nodup)(hi:X.N[i]?=some x:=by rfl)(hx:Loc X.env.scope x:=by first | exact Or.inl rfl | exact Or.inr rfl)(hs:swapsWith (.Dict [] [] p) (some (.Name x pos')) pos.line X.env=pure false:=by rfl)
  (hf:X.fn x=true∨X.env.scope.names.lookup x=some .local:=by first | exact .inl rfl | exact .inr rfl):FS X F (.Assign [.Name x pos'] (.Dict [] [] p) pos) (sTNew i) :=
 (lh hN hi hx vS hs hf).weak fun D σ H ⟨Z,S,ok,w⟩=>fun a hp=>by
  have w2:WO F Z (.nx (S.set i (some (.dit [])))) D:=w
  exact w2 _ _ Z (Same.refl _) (ok.putNew (x:=.dit []) (A:=[a]) (Ex.hidden ok.sub hp) ⟨a,[],rfl,rfl,av,rfl,(fun x hx=>nomatch hx),Reps.nil⟩ ⟨by simp,fun b hb=>by cases List.mem_singleton.mp hb;exact ok.sub.free hp,fun b hb=>by cases List.mem_singleton.mp hb;exact ok.ex.same.free hp⟩ fun b hb=>by cases List.mem_singleton.mp hb;exact hp)
theorem pQ (i:Nat)(hK:X.K=F.K):∀ σ H Q,tE F (eTIn i g) σ H Q→tOp (rTIn X.K) (tE F g) (tVar i) σ H Q:=fun σ H Q ⟨Z,S,ok,w⟩=>by
 refine aH ok w fun d y H1 Z1 ok1 x1 ry w1=>?_
 split at w1
 ·rename_i m e0
  obtain⟨a,kvs,e1,e2,r⟩:=ok1.dit i m e0
  unfold oTIn at w1
  split at w1
  ·rename_i ks ek
   obtain⟨b,rfl,hb⟩:=jy ek ry
   refine⟨.ref a,e1,a,b,kvs,ks,rfl,rfl,e2,by rw[hK];exact fun x hx=>(r.at_ x hx).mono ok1.sub,by rw[hK];exact hb.mono ok1.sub,?_⟩
   rw[r.any]
   exact WG.now w1 ok1.sub _ aR
  ·exact w1.elim
 ·exact w1.elim
theorem yB (i:Nat)(bx:BX X F k)(he:FE X F e g)(hm:behindInMarks .In (.Name x p0)=false:=by rfl)(hi:X.N[i]?=some x:=by rfl)(hv:Vis X.env.scope x:=by first | exact Or.inl rfl | exact Or.inr (Or.inl rfl) | exact Or.inr (Or.inr rfl))(hd:(x==("__debug__":Str))=false:=by decide)
  (hcd:(x==("__classdict__":Str))=false:=by decide):FE X F (.Compare e [.In] [.Name x p0] pos) (eTIn i g) :=
 (pd (t9 (X:=X) (by have:=bx.room.un;omega)) he (cO hi hv hd hcd) hm).weak (pQ i bx.K)
theorem mK (i:Nat)(bx:BX X F k)(he:FE X F e g)(hm:behindInMarks .In (.Name x p0)=false:=by rfl)(hi:X.N[i]?=some x:=by rfl)(hv:Vis X.env.scope x:=by first | exact Or.inl rfl | exact Or.inr (Or.inl rfl) | exact Or.inr (Or.inr rfl))(hd:(x==("__debug__":Str))=false:=by decide)
  (hcd:(x==("__classdict__":Str))=false:=by decide):FT X F (.Compare e [.In] [.Name x p0] pos) (gB (eTIn i g)) :=
 (ph (t9 (X:=X) (by have:=bx.room.un;omega)) he (cO hi hv hd hcd) hm).weak (pq (pQ i bx.K))
theorem mM (i:Nat){pos':Pos}(bx:BX X F k)(he:FE X F e ge)(hix:FE X F ei g)(hi:X.N[i]?=some x:=by rfl)(hv:Vis X.env.scope x:=by first | exact Or.inl rfl | exact Or.inr (Or.inl rfl) | exact Or.inr (Or.inr rfl))(hd:(x==("__debug__":Str))=false:=by decide)
  (hcd:(x==("__classdict__":Str))=false:=by decide) (hs:swapsWith e (some (.Subscript (.Name x p0) ei pos')) pos.line X.env=pure false:=by rfl) :
  FS X F (.Assign [.Subscript (.Name x p0) ei pos'] e pos) (sTSt i g ge) :=
 (vU (X:=X) (by have:=bx.room.un;omega) (cO hi hv hd hcd) hix he hs).weak fun D σ H ⟨Z,S,ok,w⟩=>by
  unfold sTSt at w
  split at w
  ·rename_i m e0
   have w0:=WO.wg ok w
   rw[R.bind_assoc]at w0
   refine aH ok w0 fun d v H1 Z1 ok1 x1 rv w1=>?_
   obtain⟨a,kvs,e1,e2,r⟩:=ok1.dit i m e0
   rw[R.bind_assoc]at w1
   refine⟨.ref a,e1,aH ok1 w1 fun dk y H2 Z2 ok2 x2 ry w2=>?_⟩
   unfold oTSt at w2
   split at w2
   ·rename_i ks ek
    split at w2
    ·rename_i hl
     obtain⟨b,rfl,hb⟩:=jy ek ry
     have e3:=x2.same _ _ e2
     have r2:=r.mono x2.z
     have rp:=r2.put (rv.mono x2.z) hb
     refine⟨a,b,kvs,ks,rfl,rfl,e3,by rw[bx.K];exact fun x hx=>(r2.at_ x hx).mono ok2.sub,by rw[bx.K];exact hb.mono ok2.sub,by rw[r2.len];exact hl,?_⟩
     have w3:=WG.now w2 ok2.sub
     exact w3 σ _ Z2 (Same.refl _) (ok2.rewr (x:=.dit m) (x':=.dit (dicPut m ks d)) (A:=[a]) e0 e1 ⟨a,kvs,rfl,rfl,e3,r2.ks,r2.at_,r2.vs⟩ ⟨a,_,rfl,rfl,av,rp.ks,rp.at_,rp.vs⟩ fun b hb=>aA (fun z=>hb (by rw[z];exact List.mem_singleton.mpr rfl)))
    ·exact w2.elim
   ·exact w2.elim
  ·exact w.elim
theorem mO (bx:BX X F k){o:Expr}{go:SS→R D}(ho:FE X F o go)(he:FE X F e g)(hs:NoSl e:=by intro _ _;rfl):FE X F (.Subscript o e pos) (eOp dTx go g) :=
 (vT (X:=X) (by have:=bx.room.un;omega) ho he hs).weak fun σ H Q ⟨Z,S,ok,w⟩=>by
  refine aH ok w fun d x H1 Z1 ok1 x1 rx w1=>aH ok1 w1 fun dk y H2 Z2 ok2 x2 ry w2=>?_
  cases d with
  | tab ks xs =>
   obtain⟨a,kvs,rfl,ez,r,_⟩:=pP (H0:=F.H0) (Z0:=F.Z0) (E:=F.E) rx
   have w3:WG F H2 Z2 (match tupI? dk with | some k=>(match dicGet (ks.zip xs) k with | some d=>R.ok d | none=>R.stuck) | none=>R.stuck) fun d H' Z'=>∀ v,Rep F.K F.C Z' d v→Q v H':=w2
   cases ek:tupI? dk with
   | none=>rw[ek]at w3;exact w3.elim
   | some kk =>
    rw[ek]at w3
    cases ed:dicGet (ks.zip xs) kk with
    | none=>simp only[ed]at w3;exact w3.elim
    | some d' =>
     simp only[ed]at w3
     obtain⟨b,rfl,hb⟩:=jy ek ry
     have r2:=r.mono x2.z
     obtain⟨v,f1,f2⟩:=r2.get ed
     exact⟨a,b,kvs,kk,v,rfl,rfl,ok2.sub _ _ (x2.z _ _ ez),by rw[bx.K];exact fun x hx=>(r2.at_ x hx).mono ok2.sub,by rw[bx.K];exact hb.mono ok2.sub,f1,WG.now w3 ok2.sub v f2⟩
  | _=>exact w2.elim
theorem kQ (hK:X.K=F.K):CallR X (.builtin "len") (fun xs H Q=>∃ a kvs,xs=[.ref a]∧H a=some (tabO a kvs)∧KeysAt F.K H kvs∧Q (.int (kvs.length:Nat)) H):=by
 intro pins s σ H xs us Q I r h
 obtain⟨a,kvs,rfl,g1,g2,q⟩:=h
 obtain⟨u,rfl,ru⟩:=vals1 r
 cases ru
 exact yA I g1 (by rw[hK];exact g2) fun t s' I'=>⟨.int (kvs.length:Nat),H,I',⟨t,rfl⟩,q⟩
theorem rq {gs:SS→R (List D)}(bx:BX X F k)(hg:Gl X "len")(hm:X.mg "len"=none)(ha:FA X F [e] gs)(he:starEach [e] X.env=(false,eval e X.env)::starEach [] X.env:=by rfl)(hpl:(backTo pos (starEach [] X.env)).any (·.1)=false:=by rfl) :
  FE X F (.Call (.Name "len" p) [e] [] pos) (eCall dLenD gs) :=
 (dz (kQ bx.K) hg hm (by decide +kernel) ha (he:=he) (hpl:=hpl)).weak fun σ H Q ⟨Z,S,ok,w⟩=>by
  refine aZ ok w fun ds vs H1 Z1 ok1 x1 rs w1=>?_
  unfold dLenD at w1
  split at w1
  ·rename_i ks xs
   obtain⟨v,rfl,h⟩:=bL rs
   obtain⟨a,kvs,rfl,ez,r,hl⟩:=pP (H0:=F.H0) (Z0:=F.Z0) (E:=F.E) h
   have hkl:kvs.length=ks.length:=by rw[r.len,List.length_zip];omega
   refine⟨a,kvs,rfl,ok1.sub _ _ ez,fun x hx=>(r.at_ x hx).mono ok1.sub,?_⟩
   rw[hkl]
   exact WG.now w1 ok1.sub _ aO
  ·exact w1.elim
theorem oE (i:Nat)(bx:BX X F k)(hg:Gl X "len")(hm:X.mg "len"=none)(hi:X.N[i]?=some x:=by rfl)(hv:Vis X.env.scope x:=by first | exact Or.inl rfl | exact Or.inr (Or.inl rfl) | exact Or.inr (Or.inr rfl))(hd:(x==("__debug__":Str))=false:=by decide)
  (hcd:(x==("__classdict__":Str))=false:=by decide) (he:starEach [.Name x p0] X.env=(false,eval (.Name x p0) X.env)::starEach [] X.env:=by rfl) (hpl:(backTo pos (starEach [] X.env)).any (·.1)=false:=by rfl) :
  FE X F (.Call (.Name "len" p) [.Name x p0] [] pos) (eTLen i) :=
 (dz (kQ bx.K) hg hm (by decide +kernel) (fe (cO hi hv hd hcd) jb he) (he:=he) (hpl:=hpl)).weak fun σ H Q ⟨Z,S,ok,w⟩=>by
  unfold eTLen at w
  split at w
  ·rename_i m e0
   obtain⟨a,kvs,e1,e2,r⟩:=ok.dit i m e0
   refine⟨.ref a,e1,a,kvs,rfl,e2,fun x hx=>(r.at_ x hx).mono ok.sub,?_⟩
   rw[r.len]
   exact WG.now w ok.sub _ aO
  ·exact w.elim
end
section
variable {σ:Type}{X:Cx}{F:Fx}{S:SS}{J:σ→SS→Prop}
theorem pR (i:Nat){m:List (List Int×D)}{S':SS}{sts:List Stmt}{l:L σ}(hi:S[i]?=some (some (.dit m)))(hS:S.set i (some (.val (tabD m)))=S')(h:FL X F S' sts J l):FL X F S sts J l :=
 h.weak fun D ρ H ⟨Z,ok,w⟩=>by
  obtain⟨Z',z,ok'⟩:=ok.freezeT hi
  rw[hS]at ok'
  exact⟨Z',ok',WL.more w z⟩
end
section
variable {X:Cx}{F:Fx}
variable {σ':Type}{S:SS}{st:Stmt}{rest:List Stmt}{J:σ'→SS→Prop}
end
end FF
end
noncomputable section
namespace Lw
open PySem FF
def esL:List Nat:=[1,2,6]
namespace F
abbrev ae:Nat:=20
abbrev af:Nat:=21
abbrev aA:Nat:=22
abbrev au:Nat:=23
abbrev ar:Nat:=24
abbrev ai:Nat:=25
abbrev an:Nat:=26
abbrev ak:Nat:=44
abbrev aC:Nat:=27
abbrev ab:Nat:=28
abbrev aK:Nat:=45
abbrev aD:Nat:=46
abbrev aG:Nat:=47
abbrev aO:Nat:=51
abbrev aM:Nat:=52
abbrev aQ:Nat:=53
abbrev aW:Nat:=29
abbrev ao:Nat:=188
abbrev aJ:Nat:=189
abbrev aE:Nat:=190
abbrev aF:Nat:=191
abbrev av:Nat:=192
abbrev aN:Nat:=193
abbrev al:Nat:=194
abbrev aX:Nat:=195
abbrev ay:Nat:=196
abbrev aH:Nat:=197
abbrev aI:Nat:=198
abbrev aV:Nat:=30
abbrev ac:Nat:=31
abbrev ap:Nat:=32
abbrev az:Nat:=33
abbrev aq:Nat:=54
abbrev aP:Nat:=55
abbrev aL:Nat:=56
abbrev aS:Nat:=57
abbrev aw:Nat:=34
abbrev aT:Nat:=35
abbrev aR:Nat:=36
abbrev aa:Nat:=37
abbrev ag:Nat:=39
abbrev ax:Nat:=38
abbrev aj:Nat:=40
abbrev ad:Nat:=199
abbrev ah:Nat:=200
abbrev aU:Nat:=201
abbrev aB:Nat:=202
end F
def fvL:List Nat:=[21]
def fw (t:Nat→List D→R D)(thing:D):L Unit :=
 lB (vAnd (dIsA qInt thing) (vNot (dIsA qBool thing))) .rt
def dY (t:Nat→List D→R D)(thing:D):L Unit :=
 lB (vAnd (t F.ae [thing]) (rCh dLe dLe (.int 0) thing (.ok (.int 9)))) .rt
def fi (t:Nat→List D→R D)(thing:D):L Unit :=
 lB (vAnd (t F.ae [thing]) (rCh dLe dLe (.int 0) thing (.ok (.int 3)))) .rt
def dB (t:Nat→List D→R D)(size_:D)(thing:D)(is_end:D):L Unit :=
 lS (lB (σ:=Unit) (rNot (asB (dIsA qTup thing))) fun b=>if b=true then lB (onF fvL is_end fun i=>t i [thing]) .rt else .nx ()) fun _ =>
 lS (lB (σ:=Unit) (rOr (asB (dEq size_ (.int 0))) (asB ((dLen [thing]).bind fun x=>dNf x (.int 4)))) fun b1=>if b1=true then .rt (.bl false) else .nx ()) fun _ =>
 lB (((sq thing).bind fun xs=>cMap (fun part=>(dSub size_ (.int 1)).bind fun x1=>t F.au [x1,part,is_end]) xs).bind fun x2=>dAll [x2]) .rt
def bM (t:Nat→List D→R D)(thing:D)(is_end:D):L Unit :=
 lS (lB (σ:=Unit) (rOr (rNot (asB (dIsA qTup thing))) (asB ((dLen [thing]).bind fun x=>dNf x (.int 2)))) fun b=>if b=true then .rt (.bl false) else .nx ()) fun _ =>
 lB (vAnd ((dIx thing (.int 0)).bind fun x3=>t F.aA [x3]) ((dIx thing (.int 0)).bind fun x1=>(dIx thing (.int 1)).bind fun x2=>t F.au [x1,x2,is_end])) .rt
def bV (t:Nat→List D→R D)(four:D):L Unit :=
 lB (dIx four (.int 0)) fun first =>
 lS (lB (σ:=Unit) (rAnd (rNot (asB (dIsA qTup first))) (asB (dEq four (.tup [first,first,first,first])))) fun b=>if b=true then .rt first else .nx ()) fun _ =>
 .rt four
def cr (t:Nat→List D→R D)(tree_:D):L Unit :=
 lS (lB (σ:=Unit) (rNot (asB (dIsA qTup tree_))) fun b=>if b=true then .rt tree_ else .nx ()) fun _ =>
 lB ((((sq tree_).bind fun xs=>cMap (fun part=>t F.an [part]) xs).bind fun x=>dTuple [x]).bind fun x1=>t F.ai [x1]) .rt
def dC (t:Nat→List D→R D)(rows:D)(left:D)(top:D)(side:D):L Unit :=
 lS (lB (σ:=Unit) (asB (dEq side (.int 1))) fun b=>if b=true then lB ((dIx rows top).bind fun x=>dIx x left) .rt else .nx ()) fun _ =>
 lB (dDiv side (.int 2)) fun half =>
 lB (((t F.ak [rows,left,top,half]).bind fun x1=>((dAdd left half).bind fun x2=>t F.ak [rows,x2,top,half]).bind fun x3=>((dAdd top half).bind fun x4=>t F.ak [rows,left,x4,half]).bind fun x5=>((dAdd left half).bind fun x6=>(dAdd top half).bind fun x7=>t F.ak [rows,x6,x7,half]).bind fun x8=>.ok (.tup [x1,x3,x5,x8])).bind fun x9=>t F.ai [x9]) .rt
def cE (t:Nat→List D→R D)(thing:D):L Unit :=
 lB (t F.ar [thing,(.fn F.af)]) .rt
def bN (t:Nat→List D→R D)(thing:D):L Unit :=
 lB (rNot (asB (t F.aC [thing]))) fun b=>if b=true then .er 1 else .nx ()
def fj (t:Nat→List D→R D)(picture:D):L Unit :=
 lB ((dIx picture (.int 0)).bind fun x=>dIx (tupI [1,2,4,8]) x) .rt
def dZ (t:Nat→List D→R D)(side:D)(thing:D):L Unit :=
 lB (vAnd (t F.ae [thing]) (rCh dLe dLt (.int 0) thing (.ok side))) .rt
def cF (t:Nat→List D→R D)(picture:D)(x:D)(y:D):L Unit :=
 lB (t F.aK [picture]) fun side =>
 lB (rOr (rNot (asB (t F.aD [side,x]))) (rNot (asB (t F.aD [side,y])))) fun b=>if b=true then .er 2 else .nx ()
def gm (t:Nat→List D→R D)(thing:D)(side:D):L Unit :=
 lS (lB (σ:=Unit) (rOr (rNot (asB (dIsA qTup thing))) (asB ((dLen [thing]).bind fun x=>dNf x side))) fun b=>if b=true then .rt (.bl false) else .nx ()) fun _ =>
 lB (((sq thing).bind fun xs=>cMap (fun worth=>t F.af [worth]) xs).bind fun x1=>dAll [x1]) .rt
def d0 (t:Nat→List D→R D)(thing:D):L Unit :=
 lS (lB (σ:=Unit) (rOr (rNot (asB (dIsA qTup thing))) (asB ((dLen [thing]).bind fun x=>dNotInD x (tupI [1,2,4,8])))) fun b=>if b=true then .rt (.bl false) else .nx ()) fun _ =>
 lB (((sq thing).bind fun xs=>cMap (fun row=>(dLen [thing]).bind fun x1=>t F.aO [row,x1]) xs).bind fun x2=>dAll [x2]) .rt
def fk (t:Nat→List D→R D)(rows:D):L Unit :=
 lS (lB (σ:=Unit) (rNot (asB (t F.aM [rows]))) fun b=>if b=true then .er 1 else .nx ()) fun _ =>
 lB (dLen [rows]) fun side =>
 lB ((onT (tupI [1,2,4,8]) fun ls=>dIndexI ls [side]).bind fun x=>(t F.ak [rows,(.int 0),(.int 0),side]).bind fun x1=>.ok (.tup [x,x1])) .rt
def jz (t:Nat→List D→R D)(picture:D):L Unit :=
 lB (t F.ab [picture]) fun _ =>
 lB ((dIx picture (.int 0)).bind fun x=>((dIx picture (.int 1)).bind fun x1=>t F.an [x1]).bind fun x2=>.ok (.tup [x,x2])) .rt
def eQ (t:Nat→List D→R D)(left:D)(top:D)(half:D)(told:List D)(number:D)(part:D):L (List D) :=
 lB (((((dMod number (.int 2)).bind fun x=>dMul x half).bind fun x1=>dAdd left x1).bind fun x2=>(((dDiv number (.int 2)).bind fun x3=>dMul x3 half).bind fun x4=>dAdd top x4).bind fun x5=>t F.ao [part,x2,x5,half]).bind fun x6=>oExt told x6) fun told1 =>
 .nx told1
def cu (t:Nat→List D→R D)(tree_:D)(left:D)(top:D)(side:D):L Unit :=
 lS (lB (σ:=Unit) (rNot (asB (dIsA qTup tree_))) fun b=>if b=true then .rt (.lst [(.tup [left,top,side,tree_])]) else .nx ()) fun _ =>
 lB (dDiv side (.int 2)) fun half =>
 lS (lB (dEnum tree_) fun xs=>lFor (τ:=List D) (fun s p=>lUn2 p fun x0 x1=>eQ t left top half s x0 x1) xs []) fun told1 =>
 .rt (.lst told1)
def eR (t:Nat→List D→R D)(picture:D):L Unit :=
 lB (((t F.aW [picture]).bind fun x=>dIx x (.int 1)).bind fun x1=>(t F.aK [picture]).bind fun x2=>t F.ao [x1,(.int 0),(.int 0),x2]) .rt
def d4 (t:Nat→List D→R D)(thing:D)(side:D):L Unit :=
 lB (vAnd (dGe thing (.int 0)) ((dMod thing side).bind fun x=>dEq x (.int 0))) .rt
def bR (t:Nat→List D→R D)(thing:D):L Unit :=
 lS (lB (σ:=Unit) (rOr (rNot (asB (dIsA qTup thing))) (asB ((dLen [thing]).bind fun x=>dNf x (.int 4)))) fun b=>if b=true then .rt (.bl false) else .nx ()) fun _ =>
 lS (lB (σ:=Unit) (rNot (asB (((sq thing).bind fun xs=>cMap (fun number=>t F.ae [number]) xs).bind fun x1=>dAll [x1]))) fun b1=>if b1=true then .rt (.bl false) else .nx ()) fun _ =>
 lB (dIx thing (.int 2)) fun side =>
 lB (vAnd (dInD side (tupI [1,2,4,8])) (vAnd ((dIx thing (.int 0)).bind fun x4=>t F.aE [x4,side]) (vAnd ((dIx thing (.int 1)).bind fun x3=>t F.aE [x3,side]) ((dIx thing (.int 3)).bind fun x2=>t F.af [x2])))) .rt
def br (t:Nat→List D→R D)(side:D)(thing:D):L (Unit) :=
 lS (lB (σ:=Unit) (rNot (asB (t F.aF [thing]))) fun b=>if b=true then .er 6 else .nx ()) fun _ =>
 lB (rOr (asB (((dIx thing (.int 0)).bind fun x3=>(dIx thing (.int 2)).bind fun x4=>dAdd x3 x4).bind fun x5=>dGt x5 side)) (asB (((dIx thing (.int 1)).bind fun x=>(dIx thing (.int 2)).bind fun x1=>dAdd x x1).bind fun x2=>dGt x2 side))) fun b1=>if b1=true then .er 6 else .nx ()
def bW (t:Nat→List D→R D)(size_:D)(things:D):L Unit :=
 lS (lB (σ:=Unit) (rOr (rNot (asB (t F.aA [size_]))) (rNot (asB (dIsA qList things)))) fun b=>if b=true then .er 6 else .nx ()) fun _ =>
 lB (dIx (tupI [1,2,4,8]) size_) fun side =>
 lS (lB (sq things) fun xs=>lFor (τ:=Unit) (fun _ x=>br t side x) xs ()) fun _ =>
 .nx ()
def ci (t:Nat→List D→R D)(block:D)(spots:List D)(y:D):L (List D) :=
 lB ((((dIx block (.int 0)).bind fun x=>((dIx block (.int 0)).bind fun x1=>(dIx block (.int 2)).bind fun x2=>dAdd x1 x2).bind fun x3=>rng2 [x,x3]).bind fun xs=>cMap (fun x4=>.ok (.tup [x4,y])) xs).bind fun x5=>oExt spots x5) fun spots1 =>
 .nx spots1
def d5 (t:Nat→List D→R D)(block:D):L Unit :=
 lS (lB ((dIx block (.int 1)).bind fun x=>((dIx block (.int 1)).bind fun x1=>(dIx block (.int 2)).bind fun x2=>dAdd x1 x2).bind fun x3=>rng2 [x,x3]) fun xs1=>lFor (τ:=List D) (fun s x=>ci t block s x) xs1 []) fun spots1 =>
 .rt (.lst spots1)
def bc (t:Nat→List D→R D)(block:D)(worths:List (List Int×D))(spot:D):L (List (List Int×D)) :=
 lS (lB (σ:=Unit) (asB (oTIn worths spot)) fun b=>if b=true then .er 6 else .nx ()) fun _ =>
 lB ((dIx block (.int 3)).bind fun x=>oTSt worths spot x) fun worths1=>.nx worths1
def bd (t:Nat→List D→R D)(worths:List (List Int×D))(block:D):L (List (List Int×D)) :=
 lS (lB ((t F.aN [block]).bind fun x=>sq x) fun xs=>lFor (τ:=List (List Int×D)) (fun s x=>bc t block s x) xs worths) fun worths2 =>
 .nx worths2
def bE (t:Nat→List D→R D)(squares:D):L Unit :=
 lS (lB (sq squares) fun xs1=>lFor (τ:=List (List Int×D)) (fun s x=>bd t s x) xs1 []) fun worths2 =>
 .rt (tabD worths2)
def gn (t:Nat→List D→R D)(worths:D)(side:D)(y:D):L Unit :=
 lB (((rng1 [side]).bind fun xs=>cMap (fun x=>dTx worths (.tup [x,y])) xs).bind fun x1=>dTuple [x1]) .rt
def dc (t:Nat→List D→R D)(size_:D)(squares:D):L Unit :=
 lB (t F.av [size_,squares]) fun _ =>
 lB (t F.al [squares]) fun worths =>
 lB (dIx (tupI [1,2,4,8]) size_) fun side =>
 lS (lB (σ:=Unit) (asB ((dLenD [worths]).bind fun x=>(dMul side side).bind fun x1=>dNf x x1)) fun b=>if b=true then .er 6 else .nx ()) fun _ =>
 lB ((((rng1 [side]).bind fun xs=>cMap (fun y=>t F.aX [worths,side,y]) xs).bind fun x2=>dTuple [x2]).bind fun x3=>t F.aQ [x3]) .rt
def d7 (t:Nat→List D→R D)(block:D)(x:D)(y:D):L Unit :=
 lB (vAnd ((dIx block (.int 0)).bind fun x4=>rCh dLe dLt x4 x ((dIx block (.int 0)).bind fun x5=>(dIx block (.int 2)).bind fun x6=>dAdd x5 x6)) ((dIx block (.int 1)).bind fun x1=>rCh dLe dLt x1 y ((dIx block (.int 1)).bind fun x2=>(dIx block (.int 2)).bind fun x3=>dAdd x2 x3))) .rt
def b8 (t:Nat→List D→R D)(picture:D)(x:D)(y:D):L Unit :=
 lB (t F.ab [picture]) fun _ =>
 lB (t F.aG [picture,x,y]) fun _ =>
 lB ((((t F.aJ [picture]).bind fun x1=>sq x1).bind fun xs=>cFil (fun block=>(asB (t F.aH [block,x,y]))) (fun block=>.ok block) xs).bind fun x2=>dIx x2 (.int 0)) .rt
def gp (t:Nat→List D→R D)(yH:D)(yY:D):L Unit :=
 lS (lB (σ:=Unit) (asB ((dLen [yH]).bind fun x=>dLt yY x)) fun b=>if b=true then lB (dIx yH yY) .rt else .nx ()) fun _ =>
 lS (lB (σ:=Unit) (asB (dEq yH (.lst []))) fun b1=>if b1=true then .rt (.int 0) else .nx ()) fun _ =>
 lB (((((dLen [yH]).bind fun x1=>dMod yY x1).bind fun x2=>dIx yH x2).bind fun x3=>dMul x3 (.int 31)).bind fun x4=>dAdd x4 yY) .rt
def gq (t:Nat→List D→R D)(yH:D)(yY:D)(zJ:D):L Unit :=
 lB ((((t F.aV [yH,yY]).bind fun x=>((dAdd yY (.int 1)).bind fun x1=>dMul (.int 6151) x1).bind fun x2=>dAdd x x2).bind fun x3=>dMul x3 (.int 40692)).bind fun x4=>dMod x4 (.int 2147483399)) fun zt =>
 lB ((((dMul zt zt).bind fun x5=>(dDiv zt (.int 31)).bind fun x6=>dAdd x5 x6).bind fun x7=>dMod x7 (.int 2147483629)).bind fun x8=>dMod x8 zJ) .rt
def eS (t:Nat→List D→R D)(yH:D)(y9:D)(yN:D):L Unit :=
 lB (t F.ac [yH,y9,(.int 6)]) fun zz =>
 lS (lB (σ:=Unit) (rOr (asB (dEq yN (.int 0))) (asB (dLt zz (.int 2)))) fun b=>if b=true then lB ((((dAdd y9 (.int 1)).bind fun x=>t F.ac [yH,x,(.int 10)]).bind fun x1=>.ok (.lst [(.int 0),(.int 1),(.int 1),(.int 2),(.int 9),x1])).bind fun x2=>((dAdd y9 (.int 2)).bind fun x3=>t F.ac [yH,x3,(.int 6)]).bind fun x4=>dIx x2 x4) .rt else .nx ()) fun _ =>
 lS (lB (σ:=Unit) (asB (dEq zz (.int 2))) fun b1=>if b1=true then lB ((((dAdd y9 (.int 3)).bind fun x5=>(dSub yN (.int 1)).bind fun x6=>t F.ap [yH,x5,x6]).bind fun x7=>.ok (.tup [x7])).bind fun x8=>dMul x8 (.int 4)) .rt else .nx ()) fun _ =>
 lB (((rng1 [(.int 4)]).bind fun xs=>cMap (fun yY=>(((dMul (.int 5) y9).bind fun x9=>dAdd x9 (.int 7)).bind fun x10=>(dMul (.int 11) yY).bind fun x11=>dAdd x10 x11).bind fun x12=>(dSub yN (.int 1)).bind fun x13=>t F.ap [yH,x12,x13]) xs).bind fun x14=>dTuple [x14]) .rt
def de (t:Nat→List D→R D)(yH:D)(y9:D)(zK:D):L Unit :=
 lB ((((t F.ac [yH,y9,(.int 7)]).bind fun x=>dIx (.lst [(.int 0),(.int 0),(.int 0),(.int 1),(.int 1),(.int 2),(.int 3)]) x).bind fun x1=>dSub zK x1).bind fun x2=>dMax2 [(.int 0),x2]) fun yN =>
 lB (((dAdd y9 (.int 1)).bind fun x3=>t F.ap [yH,x3,yN]).bind fun x4=>.ok (.tup [yN,x4])) .rt
def cT (t:Nat→List D→R D)(yM:D)(zd:List D)(zM:D):L (List D) :=
 lB (((((dIx yM zM).bind fun x=>dLen [x]).bind fun x1=>rng1 [x1]).bind fun xs=>cMap (fun yY=>((dIx yM zM).bind fun x2=>dIx x2 yY).bind fun x3=>(((dAdd zM (.int 1)).bind fun x4=>dIx yM x4).bind fun x5=>dIx x5 yY).bind fun x6=>dAdd x3 x6) xs).bind fun x7=>oExt zd x7) fun y6 =>
 .nx y6
def cv (t:Nat→List D→R D)(yN:D)(yP:D):L Unit :=
 lS (lB (σ:=Unit) (asB (dEq yN (.int 0))) fun b=>if b=true then .rt (.lst [(.lst [yP])]) else .nx ()) fun _ =>
 lB (rIf (asB (dIsA qTup yP)) (.ok yP) (dMul (.tup [yP]) (.int 4))) fun y3 =>
 lB ((sq y3).bind fun xs=>cMap (fun zb=>(dSub yN (.int 1)).bind fun x=>t F.aq [x,zb]) xs) fun yM =>
 lS (lB (sq (.tup [(.int 0),(.int 2)])) fun xs2=>lFor (τ:=List D) (fun s x=>cT t yM s x) xs2 []) fun y6 =>
 .rt (.lst y6)
def gr (t:Nat→List D→R D)(yJ:D):L Unit :=
 lB (((((dIx yJ (.int 0)).bind fun x=>(dIx yJ (.int 1)).bind fun x1=>t F.aq [x,x1]).bind fun x2=>sq x2).bind fun xs=>cMap (fun zr=>dTuple [zr]) xs).bind fun x3=>dTuple [x3]) .rt
def cG (t:Nat→List D→R D)(zA:List D)(zr:D):L (List D) :=
 lB (oExt zA zr) fun yX =>
 .nx yX
def d8 (t:Nat→List D→R D)(yI:D)(y8:D)(yT:D)(y3:List D)(yQ:D):L (List D) :=
 lB ((((((asI yT).bind fun i=>((dAdd yT y8).bind asI).bind fun i1=>dSw yI i i1).bind fun x=>sq x).bind fun xs=>cMap (fun zr=>(asI yQ).bind fun i2=>((dAdd yQ y8).bind asI).bind fun i3=>dSw zr i2 i3) xs).bind fun x1=>t F.aL [x1]).bind fun x2=>oApp y3 x2) fun zN =>
 .nx zN
def d9 (t:Nat→List D→R D)(yI:D)(y8:D)(y3:List D)(yT:D):L (List D) :=
 lS (lB (sq (.tup [(.int 0),y8])) fun xs1=>lFor (τ:=List D) (fun s x=>d8 t yI y8 yT s x) xs1 y3) fun zv =>
 .nx zv
def dD (t:Nat→List D→R D)(yI:D):L Unit :=
 lS (lB (sq yI) fun xs=>lFor (τ:=List D) (fun s x=>cG t s x) xs []) fun yX =>
 lS (lB (σ:=Unit) (asB ((dLenSet [(.lst yX)]).bind fun x1=>dEq x1 (.int 1))) fun b=>if b=true then lB (dIx (.lst yX) (.int 0)) .rt else .nx ()) fun _ =>
 lB ((dLen [yI]).bind fun x2=>dDiv x2 (.int 2)) fun y8 =>
 lS (lB (sq (.tup [(.int 0),y8])) fun xs3=>lFor (τ:=List D) (fun s x=>d9 t yI y8 s x) xs3 []) fun zv =>
 lB (dTuple [(.lst zv)]) .rt
def lJ (t:Nat→List D→R D)(yI:D):L Unit :=
 lB ((onL (.lst [(.int 1),(.int 2),(.int 4),(.int 8)]) fun ls=>(dLen [yI]).bind fun x=>dIndexI ls [x]).bind fun x1=>(t F.aL [yI]).bind fun x2=>.ok (.tup [x1,x2])) .rt
def dq (t:Nat→List D→R D)(yK:D)(zd:List D)(yY:D):L (List D) :=
 lB (((((dIx yK yY).bind fun x=>t F.aw [x]).bind fun x1=>sq x1).bind fun xs=>cMap (fun yO=>dAdd (.tup [yY]) yO) xs).bind fun x2=>oExt zd x2) fun y6 =>
 .nx y6
def cU (t:Nat→List D→R D)(yK:D):L Unit :=
 lS (lB (σ:=List D) (asB (dIsA qTup yK)) fun b=>if b=true then lS (lB ((dLen [yK]).bind fun x=>rng1 [x]) fun xs1=>lFor (τ:=List D) (fun s x=>dq t yK s x) xs1 [(.tup [])]) fun y6 =>
 .nx y6 else .nx [(.tup [])]) fun zx =>
 .rt (.lst zx)
def gu (t:Nat→List D→R D)(yK:D)(yO:D)(zf:D):L Unit :=
 lS (lB (σ:=Unit) (asB (dEq yO (.tup []))) fun b=>if b=true then .rt zf else .nx ()) fun _ =>
 lB (dIx yO (.int 0)) fun yY =>
 lB ((((asI yY).bind fun i=>dSw yK none i).bind fun x=>(((dIx yK yY).bind fun x1=>(dSw yO (some 1) none).bind fun x2=>t F.aT [x1,x2,zf]).bind fun x3=>.ok (.tup [x3])).bind fun x4=>dAdd x x4).bind fun x5=>(((dAdd yY (.int 1)).bind asI).bind fun i1=>dSw yK i1 none).bind fun x6=>dAdd x5 x6) .rt
def eh (t:Nat→List D→R D)(yK:D)(yY:D):L (D) :=
 lB (dIx yK yY) fun zB =>
 .nx zB
def fm (t:Nat→List D→R D)(yK:D)(yO:D):L Unit :=
 lS (lB (sq yO) fun xs=>lFor (τ:=D) (fun s x=>eh t s x) xs yK) fun zO =>
 .rt zO
def bF (t:Nat→List D→R D)(yH:D)(y9:D)(yK:D):L Unit :=
 lB (t F.aw [yK]) fun yZ =>
 lB (((dLen [yZ]).bind fun x=>t F.ac [yH,y9,x]).bind fun x1=>dIx yZ x1) fun yO =>
 lB (t F.aR [yK,yO]) fun ze =>
 lB (((dMul (.tup [ze]) (.int 4)).bind fun x2=>.ok (.lst [(.lst [(.int 1),(.int 2),(.int 3),(.int 4)]),x2])).bind fun x3=>oExt [(.int (-1)),(.int 0),(.int 3),(.int 4),(.int 9),(.int 10),(.bl true),.non,(.str "1"),(.tup []),(.tup [(.int 1),(.int 2),(.int 3)]),(.tup [(.int 1),(.int 1),(.int 1),(.int 1)]),(.tup [(.int 1),(.int 2),(.int 3),(.int 4),(.int 5)])] x3) fun yM =>
 lB ((((dAdd y9 (.int 1)).bind fun x4=>t F.ac [yH,x4,(.int 15)]).bind fun x5=>oIx yM x5).bind fun x6=>t F.aT [yK,yO,x6]) .rt
def cw (t:Nat→List D→R D)(yK:D)(yN:D):L Unit :=
 lS (lB (σ:=Unit) (rAnd (asB (dIsA qInt yK)) (rNot (asB (dIsA qBool yK)))) fun b=>if b=true then lB (rCh dLe dLe (.int 0) yK (.ok (.int 9))) .rt else .nx ()) fun _ =>
 lS (lB (σ:=Unit) (rOr (rNot (asB (dIsA qTup yK))) (rOr (asB ((dLen [yK]).bind fun x=>dNf x (.int 4))) (asB (dEq yN (.int 0))))) fun b1=>if b1=true then .rt (.bl false) else .nx ()) fun _ =>
 lB (((sq yK).bind fun xs=>cFil (fun zb=>(rNot (asB ((dSub yN (.int 1)).bind fun x1=>t F.ag [zb,x1])))) (fun zb=>.ok zb) xs).bind fun x2=>dEq x2 (.lst [])) .rt
def bX (t:Nat→List D→R D)(yK:D):L Unit :=
 lS (lB (σ:=Unit) (rOr (rNot (asB (dIsA qTup yK))) (rOr (asB ((dLen [yK]).bind fun x2=>dNf x2 (.int 2))) (rOr (rNot (asB ((dIx yK (.int 0)).bind fun x1=>dIsA qInt x1))) (asB ((dIx yK (.int 0)).bind fun x=>dIsA qBool x))))) fun b=>if b=true then .rt (.bl false) else .nx ()) fun _ =>
 lB (vAnd ((dIx yK (.int 0)).bind fun x5=>rCh dLe dLe (.int 0) x5 (.ok (.int 3))) ((dIx yK (.int 1)).bind fun x3=>(dIx yK (.int 0)).bind fun x4=>t F.ag [x3,x4])) .rt
def dE (t:Nat→List D→R D)(y4:D):L Unit :=
 lB ((dIsA (qEx esL 3) y4).bind fun x=>(dIsA (qEx esL 6) y4).bind fun x1=>(dIsA (qEx esL 7) y4).bind fun x2=>.ok [x,x1,x2]) fun zG=>lB ((dIsA (qEx esL 8) y4).bind fun x3=>oApp zG x3) fun zC =>
 lB (((dIsA (qEx esL 1) y4).bind fun x4=>(dIsA (qEx esL 5) y4).bind fun x5=>(dIsA (qEx esL 2) y4).bind fun x6=>.ok (.lst [x4,x5,x6])).bind fun x7=>oExt zC x7) fun zE =>
 lB (((dIsA (qEx esL 10) y4).bind fun x8=>(dIsA (qEx esL 9) y4).bind fun x9=>(dIsA (qEx esL 4) y4).bind fun x10=>.ok (.lst [x8,x9,x10])).bind fun x11=>oExt zE x11) fun zi =>
 lS (lB (σ:=Unit) (rOr (asB ((onL (.lst zi) fun ls=>dCount ls [(.bl true)]).bind fun x12=>dNf x12 (.int 1))) (rNot (asB (dIsA (qVx esL) y4)))) fun b=>if b=true then .rt (.str "wrong") else .nx ()) fun _ =>
 lB ((dAdd (.lst [(.str "bad box"),(.str "no blocks"),(.str "no change"),(.str "no number"),(.str "no picture"),(.str "no rule"),(.str "no spot"),(.str "no text")]) (.lst [(.str "nothing done"),(.str "unlike")])).bind fun x13=>(onL (.lst zi) fun ls1=>dIndex ls1 [(.bl true)]).bind fun x14=>dIx x13 x14) .rt
def cx (t:Nat→List D→R D)(zg:D)(yS:D)(zh:D)(zk:D):L Unit :=
 lTry (τ:=D) (qTk esL) (lB (asB (dEq zg (.int 0))) fun b=>if b=true then lB (t F.aJ [yS]) fun zF =>
 .nx zF else lB (rIf (asB (dEq zg (.int 1))) (t F.ay [yS,zh]) (t F.aI [yS,zh,zk])) fun zw =>
 .nx zw) (fun zp=>lS (lB (σ:=Unit) (asB (dIs .non .non)) fun b1=>if b1=true then .rt zp else .nx ()) fun _ =>
 lB (t F.aj [.non]) .rt) (fun k=>lS (lB (σ:=Unit) (asB (dIs (.exc k) .non)) fun b2=>if b2=true then lB (R.stuck) .rt else .nx ()) fun _ =>
 lB (t F.aj [(.exc k)]) .rt)
def fr (t:Nat→List D→R D)(yQ:D)(yT:D)(yL:D)(zd:List D)(yY:D)(zb:D):L (List D) :=
 lB (((((dMod yY (.int 2)).bind fun x=>(dDiv yL (.int 2)).bind fun x1=>dMul x x1).bind fun x2=>dAdd yQ x2).bind fun x3=>(((dDiv yY (.int 2)).bind fun x4=>(dDiv yL (.int 2)).bind fun x5=>dMul x4 x5).bind fun x6=>dAdd yT x6).bind fun x7=>(dDiv yL (.int 2)).bind fun x8=>t F.ah [zb,x3,x7,x8]).bind fun x9=>oExt zd x9) fun y6 =>
 .nx y6
def cW (t:Nat→List D→R D)(yP:D)(yQ:D)(yT:D)(yL:D):L Unit :=
 lS (lB (σ:=Unit) (rNot (asB (dIsA qTup yP))) fun b=>if b=true then .rt (.lst [(.tup [yQ,yT,yL,yP])]) else .nx ()) fun _ =>
 lS (lB (dEnum yP) fun xs=>lFor (τ:=List D) (fun s p=>lUn2 p fun x0 x1=>fr t yQ yT yL s x0 x1) xs []) fun y6 =>
 .rt (.lst y6)
def eo (t:Nat→List D→R D)(yQ:D)(yT:D)(yU:D)(yV:D)(zm:List (List Int×D))(zP:D):L (List (List Int×D)) :=
 lB (((dMod zP yU).bind fun x=>dAdd yQ x).bind fun x1=>((dDiv zP yU).bind fun x2=>dAdd yT x2).bind fun x3=>.ok (.tup [x1,x3])) fun zq =>
 lS (lB (σ:=Unit) (asB (oTIn zm zq)) fun b=>if b=true then .rt (.str "no blocks") else .nx ()) fun _ =>
 lB (oTSt zm zq yV) fun zQ=>.nx zQ
def bi (t:Nat→List D→R D)(yL:D)(zm:List (List Int×D))(zu:D):L (List (List Int×D)) :=
 lS (lB (σ:=Unit) (rOr (rNot (asB (dIsA qTup zu))) (asB ((dLen [zu]).bind fun x=>dNf x (.int 4)))) fun b=>if b=true then .rt (.str "no blocks") else .nx ()) fun _ =>
 lS (lB (σ:=Unit) (asB (((sq zu).bind fun xs=>cFil (fun yS=>(rOr (rNot (asB (dIsA qInt yS))) (asB (dIsA qBool yS)))) (fun yS=>.ok yS) xs).bind fun x1=>dNf x1 (.lst []))) fun b1=>if b1=true then .rt (.str "no blocks") else .nx ()) fun _ =>
 lB (.ok zu) fun d=>lUn4 d fun yQ yT yU yV =>
 lS (lB (σ:=Unit) (rOr (asB (dNotInD yU (.tup [(.int 1),(.int 2),(.int 4),(.int 8)]))) (rOr (rNot (asB (rCh dLe dLe (.int 0) yV (.ok (.int 9))))) (rOr (asB ((dMod yQ yU).bind fun x3=>dNf x3 (.int 0))) (asB ((dMod yT yU).bind fun x2=>dNf x2 (.int 0)))))) fun b2=>if b2=true then .rt (.str "no blocks") else .nx ()) fun _ =>
 lS (lB (σ:=Unit) (rOr (asB (dLt yQ (.int 0))) (rOr (asB (dLt yT (.int 0))) (rOr (asB ((dAdd yQ yU).bind fun x5=>dGt x5 yL)) (asB ((dAdd yT yU).bind fun x4=>dGt x4 yL))))) fun b3=>if b3=true then .rt (.str "no blocks") else .nx ()) fun _ =>
 lS (lB ((dMul yU yU).bind fun x6=>rng1 [x6]) fun xs1=>lFor (τ:=List (List Int×D)) (fun s x=>eo t yQ yT yU yV s x) xs1 zm) fun zj =>
 .nx zj
def i5 (t:Nat→List D→R D)(yN:D)(yM:D):L Unit :=
 lB (dIx (.lst [(.int 1),(.int 2),(.int 4),(.int 8)]) yN) fun yL =>
 lS (lB (sq yM) fun xs2=>lFor (τ:=List (List Int×D)) (fun s x=>bi t yL s x) xs2 []) fun zj =>
 lS (lB (σ:=Unit) (asB ((dMul yL yL).bind fun x13=>dNf (.int (zj.length:Nat)) x13)) fun b5=>if b5=true then .rt (.str "no blocks") else .nx ()) fun _ =>
 lB ((((rng1 [yL]).bind fun xs3=>cMap (fun zH=>((rng1 [yL]).bind fun xs4=>cMap (fun zI=>dTx (tabD zj) (.tup [zI,zH])) xs4).bind fun x14=>dTuple [x14]) xs3).bind fun x15=>dTuple [x15]).bind fun x16=>t F.aS [x16]) .rt
def bY (t:Nat→List D→R D)(yH:D)(zc:List D)(yY:D)(zu:D):L (List D) :=
 lB (((dAdd (.int 5000) yY).bind fun x=>(dAdd (.int (zc.length:Nat)) (.int 1)).bind fun x1=>t F.ac [yH,x,x1]).bind fun x2=>oIns zc x2 zu) fun yW =>
 .nx yW
def cH (t:Nat→List D→R D)(yH:D)(yJ:D)(zc:D)(yY:D):L (Unit) :=
 lB (((dMul (.int 5) yY).bind fun x=>dAdd (.int 5100) x).bind fun x1=>(dLen [zc]).bind fun x2=>t F.ac [yH,x1,x2]) fun yO =>
 lB (((dMul (.int 5) yY).bind fun x3=>dAdd (.int 5101) x3).bind fun x4=>(dIx zc yO).bind fun x5=>t F.aa [yH,x4,x5]) fun zf =>
 lB (dIx zc yO) fun d=>lUn4 d fun yQ yT yU yV =>
 lB (((dAdd yQ yU).bind fun x6=>.ok (.tup [x6,yT,yU,yV])).bind fun x7=>((dMul (.int 2) yU).bind fun x8=>.ok (.tup [yQ,yT,x8,yV])).bind fun x9=>(((dDiv yU (.int 2)).bind fun x10=>dMax2 [(.int 1),x10]).bind fun x11=>.ok (.tup [yQ,yT,x11,yV])).bind fun x12=>.ok (.lst [x7,x9,x12])) fun zl =>
 lB ((((dIx zc yO).bind fun x13=>.ok (.lst [x13])).bind fun x14=>dMul x14 (.int 2)).bind fun x15=>((dIx zl (.int 0)).bind fun x16=>.ok (.lst [x16])).bind fun x17=>((dIx zl (.int 1)).bind fun x18=>.ok (.lst [x18])).bind fun x19=>((dIx zl (.int 2)).bind fun x20=>.ok (.lst [x20])).bind fun x21=>(((dAdd yQ (.int 1)).bind fun x22=>.ok (.tup [x22,yT,yU,yV])).bind fun x23=>.ok (.lst [x23])).bind fun x24=>.ok (.lst [(.lst [zf]),(.lst []),x15,x17,x19,x21,x24])) fun zy =>
 lB ((((asI yO).bind fun i=>dSw zc none i).bind fun x25=>((((dMul (.int 5) yY).bind fun x26=>dAdd (.int 5104) x26).bind fun x27=>t F.ac [yH,x27,(.int 7)]).bind fun x28=>dIx zy x28).bind fun x29=>dAdd x25 x29).bind fun x30=>(((dAdd yO (.int 1)).bind asI).bind fun i1=>dSw zc i1 none).bind fun x31=>dAdd x30 x31) fun zo =>
 lB (asB (((dIx yJ (.int 0)).bind fun x32=>t F.ad [(.int 1),x32,zo,.non]).bind fun x33=>((dIx yJ (.int 0)).bind fun x34=>t F.aU [x34,zo]).bind fun x35=>dNf x33 x35)) fun b=>if b=true then .rt (.bl false) else .nx ()
def fo (t:Nat→List D→R D)(yH:D):L Unit :=
 lB (t F.az [yH,(.int 0),(.int 3)]) fun yJ =>
 lB (t F.aP [yJ]) fun yI =>
 lB (dLen [yI]) fun yL =>
 lB (((t F.aS [yI]).bind fun x=>dIx x (.int 1)).bind fun x1=>t F.ah [x1,(.int 0),(.int 0),yL]) fun yR =>
 lS (lB (σ:=Unit) (asB ((t F.ad [(.int 0),yJ,.non,.non]).bind fun x2=>dNf x2 yR)) fun b=>if b=true then .rt (.bl false) else .nx ()) fun _ =>
 lB ((dIx yJ (.int 1)).bind fun x3=>t F.ah [x3,(.int 0),(.int 0),yL]) fun yM =>
 lS (lB (dEnum yM) fun xs=>lFor (τ:=List D) (fun s p=>lUn2 p fun x0 x1=>bY t yH s x0 x1) xs []) fun yW =>
 lS (lB (σ:=Unit) (asB (((dIx yJ (.int 0)).bind fun x9=>t F.ad [(.int 1),x9,(.lst yW),.non]).bind fun x10=>(t F.aS [yI]).bind fun x11=>dNf x10 x11)) fun b1=>if b1=true then .rt (.bl false) else .nx ()) fun _ =>
 lS (lB (rng1 [(.int 4)]) fun xs1=>lFor (τ:=Unit) (fun _ x=>cH t yH yJ (.lst yW) x) xs1 ()) fun _ =>
 lB (((dAdd yL (.int 2)).bind fun x49=>t F.ac [yH,(.int 5200),x49]).bind fun x50=>dSub x50 (.int 1)) fun zI =>
 lB (((dAdd yL (.int 2)).bind fun x51=>t F.ac [yH,(.int 5201),x51]).bind fun x52=>dSub x52 (.int 1)) fun zH =>
 lB ((sq yR).bind fun xs2=>cFil (fun yS=>(rAnd (asB ((dIx yS (.int 0)).bind fun x56=>rCh dLe dLt x56 zI ((dIx yS (.int 0)).bind fun x57=>(dIx yS (.int 2)).bind fun x58=>dAdd x57 x58))) (asB ((dIx yS (.int 1)).bind fun x53=>rCh dLe dLt x53 zH ((dIx yS (.int 1)).bind fun x54=>(dIx yS (.int 2)).bind fun x55=>dAdd x54 x55))))) (fun yS=>.ok yS) xs2) fun ze =>
 lS (lB (σ:=Unit) (asB ((t F.ad [(.int 2),yJ,zI,zH]).bind fun x59=>(rIf (asB (dNf ze (.lst []))) (dIx ze (.int 0)) (.ok (.str "no spot"))).bind fun x60=>dNf x59 x60)) fun b3=>if b3=true then .rt (.bl false) else .nx ()) fun _ =>
 lB (t F.aa [yH,(.int 5300),yJ]) fun zL =>
 lB (vOr (t F.ax [zL]) (((sq (.tup [(.int 0),(.int 2)])).bind fun xs3=>cMap (fun zg=>t F.ad [zg,zL,(.int 99),(.int 99)]) xs3).bind fun x61=>(dMul (.lst [(.str "no picture")]) (.int 2)).bind fun x62=>dEq x61 x62)) .rt
def pf:Nat→Nat→List D→R D
 | 0,_=>fun _=>.stuck
 | n+1,i=>match i with
  | 20=>a1 (fw (pf n))
  | 21=>a1 (dY (pf n))
  | 22=>a1 (fi (pf n))
  | 23=>a3 (dB (pf n))
  | 24=>a2 (bM (pf n))
  | 25=>a1 (bV (pf n))
  | 26=>a1 (cr (pf n))
  | 44=>a4 (dC (pf n))
  | 27=>a1 (cE (pf n))
  | 28=>a1 (bN (pf n))
  | 45=>a1 (fj (pf n))
  | 46=>a2 (dZ (pf n))
  | 47=>a3 (cF (pf n))
  | 51=>a2 (gm (pf n))
  | 52=>a1 (d0 (pf n))
  | 53=>a1 (fk (pf n))
  | 29=>a1 (jz (pf n))
  | 188=>a4 (cu (pf n))
  | 189=>a1 (eR (pf n))
  | 190=>a2 (d4 (pf n))
  | 191=>a1 (bR (pf n))
  | 192=>a2 (bW (pf n))
  | 193=>a1 (d5 (pf n))
  | 194=>a1 (bE (pf n))
  | 195=>a3 (gn (pf n))
  | 196=>a2 (dc (pf n))
  | 197=>a3 (d7 (pf n))
  | 198=>a3 (b8 (pf n))
  | 30=>a2 (gp (pf n))
  | 31=>a3 (gq (pf n))
  | 32=>a3 (eS (pf n))
  | 33=>a3 (de (pf n))
  | 54=>a2 (cv (pf n))
  | 55=>a1 (gr (pf n))
  | 56=>a1 (dD (pf n))
  | 57=>a1 (lJ (pf n))
  | 34=>a1 (cU (pf n))
  | 35=>a3 (gu (pf n))
  | 36=>a2 (fm (pf n))
  | 37=>a3 (bF (pf n))
  | 39=>a2 (cw (pf n))
  | 38=>a1 (bX (pf n))
  | 40=>a1 (dE (pf n))
  | 199=>a4 (cx (pf n))
  | 200=>a4 (cW (pf n))
  | 201=>a2 (i5 (pf n))
  | 202=>a1 (fo (pf n))
  | _=>fun _=>.stuck
theorem mP (n:Nat)(a0:D):pf (n+1) F.ae [a0]=outL (fw (pf n) a0):=rfl
theorem mQ (n:Nat)(a0:D):pf (n+1) F.af [a0]=outL (dY (pf n) a0):=rfl
theorem oF (n:Nat)(a0:D):pf (n+1) F.aA [a0]=outL (fi (pf n) a0):=rfl
theorem jA (n:Nat)(a0 a1 a2:D):pf (n+1) F.au [a0,a1,a2]=outL (dB (pf n) a0 a1 a2):=rfl
theorem hJ (n:Nat)(a0 a1:D):pf (n+1) F.ar [a0,a1]=outL (bM (pf n) a0 a1):=rfl
theorem iM (n:Nat)(a0:D):pf (n+1) F.ai [a0]=outL (bV (pf n) a0):=rfl
theorem gw (n:Nat)(a0:D):pf (n+1) F.an [a0]=outL (cr (pf n) a0):=rfl
theorem jB (n:Nat)(a0 a1 a2 a3:D):pf (n+1) F.ak [a0,a1,a2,a3]=outL (dC (pf n) a0 a1 a2 a3):=rfl
theorem km (n:Nat)(a0:D):pf (n+1) F.aC [a0]=outL (cE (pf n) a0):=rfl
theorem hR (n:Nat)(a0:D):pf (n+1) F.ab [a0]=outL (bN (pf n) a0):=rfl
theorem oG (n:Nat)(a0:D):pf (n+1) F.aK [a0]=outL (fj (pf n) a0):=rfl
theorem mR (n:Nat)(a0 a1:D):pf (n+1) F.aD [a0,a1]=outL (dZ (pf n) a0 a1):=rfl
theorem kn (n:Nat)(a0 a1 a2:D):pf (n+1) F.aG [a0,a1,a2]=outL (cF (pf n) a0 a1 a2):=rfl
theorem rz (n:Nat)(a0 a1:D):pf (n+1) F.aO [a0,a1]=outL (gm (pf n) a0 a1):=rfl
theorem mS (n:Nat)(a0:D):pf (n+1) F.aM [a0]=outL (d0 (pf n) a0):=rfl
theorem oH (n:Nat)(a0:D):pf (n+1) F.aQ [a0]=outL (fk (pf n) a0):=rfl
theorem pS (n:Nat)(a0:D):pf (n+1) F.aW [a0]=outL (jz (pf n) a0):=rfl
theorem gz (n:Nat)(a0 a1 a2 a3:D):pf (n+1) F.ao [a0,a1,a2,a3]=outL (cu (pf n) a0 a1 a2 a3):=rfl
theorem kR (n:Nat)(a0:D):pf (n+1) F.aJ [a0]=outL (eR (pf n) a0):=rfl
theorem mT (n:Nat)(a0 a1:D):pf (n+1) F.aE [a0,a1]=outL (d4 (pf n) a0 a1):=rfl
theorem df (n:Nat)(a0:D):pf (n+1) F.aF [a0]=outL (bR (pf n) a0):=rfl
theorem iO (n:Nat)(a0 a1:D):pf (n+1) F.av [a0,a1]=outL (bW (pf n) a0 a1):=rfl
theorem mU (n:Nat)(a0:D):pf (n+1) F.aN [a0]=outL (d5 (pf n) a0):=rfl
theorem gA (n:Nat)(a0:D):pf (n+1) F.al [a0]=outL (bE (pf n) a0):=rfl
theorem rA (n:Nat)(a0 a1 a2:D):pf (n+1) F.aX [a0,a1,a2]=outL (gn (pf n) a0 a1 a2):=rfl
theorem lK (n:Nat)(a0 a1:D):pf (n+1) F.ay [a0,a1]=outL (dc (pf n) a0 a1):=rfl
theorem mV (n:Nat)(a0 a1 a2:D):pf (n+1) F.aH [a0,a1,a2]=outL (d7 (pf n) a0 a1 a2):=rfl
theorem eT (n:Nat)(a0 a1 a2:D):pf (n+1) F.aI [a0,a1,a2]=outL (b8 (pf n) a0 a1 a2):=rfl
theorem rB (n:Nat)(a0 a1:D):pf (n+1) F.aV [a0,a1]=outL (gp (pf n) a0 a1):=rfl
theorem rC (n:Nat)(a0 a1 a2:D):pf (n+1) F.ac [a0,a1,a2]=outL (gq (pf n) a0 a1 a2):=rfl
theorem kT (n:Nat)(a0 a1 a2:D):pf (n+1) F.ap [a0,a1,a2]=outL (eS (pf n) a0 a1 a2):=rfl
theorem lL (n:Nat)(a0 a1 a2:D):pf (n+1) F.az [a0,a1,a2]=outL (de (pf n) a0 a1 a2):=rfl
theorem gC (n:Nat)(a0 a1:D):pf (n+1) F.aq [a0,a1]=outL (cv (pf n) a0 a1):=rfl
theorem rD (n:Nat)(a0:D):pf (n+1) F.aP [a0]=outL (gr (pf n) a0):=rfl
theorem jC (n:Nat)(a0:D):pf (n+1) F.aL [a0]=outL (dD (pf n) a0):=rfl
theorem vV (n:Nat)(a0:D):pf (n+1) F.aS [a0]=outL (lJ (pf n) a0):=rfl
theorem iD (n:Nat)(a0:D):pf (n+1) F.aw [a0]=outL (cU (pf n) a0):=rfl
theorem mW (n:Nat)(a0 a1 a2:D):pf (n+1) F.aT [a0,a1,a2]=outL (gu (pf n) a0 a1 a2):=rfl
theorem oI (n:Nat)(a0 a1:D):pf (n+1) F.aR [a0,a1]=outL (fm (pf n) a0 a1):=rfl
theorem gD (n:Nat)(a0 a1 a2:D):pf (n+1) F.aa [a0,a1,a2]=outL (bF (pf n) a0 a1 a2):=rfl
theorem gE (n:Nat)(a0 a1:D):pf (n+1) F.ag [a0,a1]=outL (cw (pf n) a0 a1):=rfl
theorem iP (n:Nat)(a0:D):pf (n+1) F.ax [a0]=outL (bX (pf n) a0):=rfl
theorem hV (n:Nat)(a0:D):pf (n+1) F.aj [a0]=outL (dE (pf n) a0):=rfl
theorem kU (n:Nat)(a0 a1 a2 a3:D):pf (n+1) F.ad [a0,a1,a2,a3]=outL (cx (pf n) a0 a1 a2 a3):=rfl
theorem iE (n:Nat)(a0 a1 a2 a3:D):pf (n+1) F.ah [a0,a1,a2,a3]=outL (cW (pf n) a0 a1 a2 a3):=rfl
theorem ua (n:Nat)(a0 a1:D):pf (n+1) F.aU [a0,a1]=outL (i5 (pf n) a0 a1):=rfl
theorem oJ (n:Nat)(a0:D):pf (n+1) F.aB [a0]=outL (fo (pf n) a0):=rfl
end Lw
end
noncomputable section
set_option maxHeartbeats 4000000
namespace Lw
open PySem PySem.Spec PyProof.Rows L2 FF
def top (i:Nat):Stmt:=PySem.Challenge.pw_fourfold_k60_whole_blocks.main.body.getD i (.Pass ⟨0,0,0,0⟩)
abbrev fz:Stmt:=top 15
theorem mX:FnScope ["thing"] ["thing"] (defScope fz):=mkSc
abbrev fA:Stmt:=top 16
theorem mY:FnScope ["thing"] ["thing"] (defScope fA):=mkSc
abbrev hZ:Stmt:=top 17
theorem oK:FnScope ["thing"] ["thing"] (defScope hZ):=mkSc
abbrev ia:Stmt:=top 18
theorem oM:FnScope ["size","thing","is_end"] ["size","thing","is_end"] (defScope ia):=mkSc
abbrev cA:Stmt:=top 19
theorem ib:FnScope ["thing","is_end"] ["thing","is_end"] (defScope cA):=mkSc
abbrev cX:Stmt:=top 20
theorem eM:FnScope ["four","first"] ["four"] (defScope cX):=mkSc
abbrev eU:Stmt:=top 21
theorem lM:FnScope ["tree"] ["tree"] (defScope eU):=mkSc
abbrev ic:Stmt:=top 22
theorem jD:FnScope ["rows","left","top","side","half"] ["rows","left","top","side"] (defScope ic):=mkSc
abbrev et:Stmt:=top 25
theorem ko:FnScope ["thing"] ["thing"] (defScope et):=mkSc
abbrev cB:Stmt:=top 26
theorem ie:FnScope ["thing"] ["thing"] (defScope cB):=mkSc
abbrev ig:Stmt:=top 27
theorem oN:FnScope ["picture"] ["picture"] (defScope ig):=mkSc
abbrev fB:Stmt:=top 28
theorem mZ:FnScope ["side","thing"] ["side","thing"] (defScope fB):=mkSc
abbrev eB:Stmt:=top 29
theorem ft:FnScope ["picture","x","y","side"] ["picture","x","y"] (defScope eB):=mkSc
abbrev jE:Stmt:=top 30
theorem rE:FnScope ["thing","side"] ["thing","side"] (defScope jE):=mkSc
abbrev fC:Stmt:=top 31
theorem m6:FnScope ["thing"] ["thing"] (defScope fC):=mkSc
abbrev ik:Stmt:=top 32
theorem jF:FnScope ["rows","side"] ["rows"] (defScope ik):=mkSc
abbrev oO:Stmt:=top 33
theorem vW:FnScope ["picture"] ["picture"] (defScope oO):=mkSc
abbrev eV:Stmt:=top 35
theorem cI:FnScope ["tree","left","top","side","half","told","number","part"] ["tree","left","top","side"] (defScope eV):=mkSc
abbrev jG:Stmt:=top 36
theorem rF:FnScope ["picture"] ["picture"] (defScope jG):=mkSc
abbrev fD:Stmt:=top 37
theorem m7:FnScope ["thing","side"] ["thing","side"] (defScope fD):=mkSc
abbrev fE:Stmt:=top 38
theorem iF:FnScope ["thing","side"] ["thing"] (defScope fE):=mkSc
abbrev cY:Stmt:=top 39
theorem cC:FnScope ["size","things","side","thing"] ["size","things"] (defScope cY):=mkSc
abbrev fF:Stmt:=top 40
theorem eW:FnScope ["block","spots","y"] ["block"] (defScope fF):=mkSc
abbrev b9:Stmt:=top 41
theorem bt:FnScope ["squares","worths","block","spot"] ["squares"] (defScope b9):=mkSc
abbrev jH:Stmt:=top 42
theorem rG:FnScope ["worths","side","y"] ["worths","side","y"] (defScope jH):=mkSc
abbrev eX:Stmt:=top 43
theorem eD:FnScope ["size","squares","worths","side"] ["size","squares"] (defScope eX):=mkSc
abbrev fG:Stmt:=top 44
theorem m8:FnScope ["block","x","y"] ["block","x","y"] (defScope fG):=mkSc
abbrev fH:Stmt:=top 45
theorem m9:FnScope ["picture","x","y"] ["picture","x","y"] (defScope fH):=mkSc
abbrev jI:Stmt:=top 47
theorem rH:FnScope ["_law_script","_law_k"] ["_law_script","_law_k"] (defScope jI):=mkSc
abbrev jJ:Stmt:=top 48
theorem kW:FnScope ["_law_script","_law_k","_law_many","_law_drawn"] ["_law_script","_law_k","_law_many"] (defScope jJ):=mkSc
abbrev jK:Stmt:=top 49
theorem kX:FnScope ["_law_script","_law_at","_law_size","_law_way"] ["_law_script","_law_at","_law_size"] (defScope jK):=mkSc
abbrev eY:Stmt:=top 50
theorem gF:FnScope ["_law_script","_law_at","_law_most","_law_size"] ["_law_script","_law_at","_law_most"] (defScope eY):=mkSc
abbrev eZ:Stmt:=top 51
theorem bZ:FnScope ["_law_size","_law_tree_here","_law_parts","_law_some","_law_made","_law_upper"] ["_law_size","_law_tree_here"] (defScope eZ):=mkSc
abbrev jL:Stmt:=top 52
theorem rJ:FnScope ["_law_picture_here"] ["_law_picture_here"] (defScope jL):=mkSc
abbrev il:Stmt:=top 53
theorem bS:FnScope ["_law_rows_here","_law_worths","_law_row","_law_half","_law_parts","_law_top","_law_left"] ["_law_rows_here"] (defScope il):=mkSc
abbrev oP:Stmt:=top 54
theorem vX:FnScope ["_law_rows_here"] ["_law_rows_here"] (defScope oP):=mkSc
abbrev fI:Stmt:=top 55
theorem e6:FnScope ["_law_thing","_law_made","_law_k"] ["_law_thing"] (defScope fI):=mkSc
abbrev lN:Stmt:=top 56
theorem na:FnScope ["_law_thing","_law_place","_law_new","_law_k"] ["_law_thing","_law_place","_law_new"] (defScope lN):=mkSc
abbrev im:Stmt:=top 57
theorem fJ:FnScope ["_law_thing","_law_place","_law_k"] ["_law_thing","_law_place"] (defScope im):=mkSc
abbrev cc:Stmt:=top 58
theorem ba:FnScope ["_law_script","_law_at","_law_thing","_law_places_here","_law_place","_law_here","_law_some"] ["_law_script","_law_at","_law_thing"] (defScope cc):=mkSc
abbrev cZ:Stmt:=top 59
theorem iQ:FnScope ["_law_thing"] ["_law_thing"] (defScope cZ):=mkSc
abbrev e7:Stmt:=top 60
theorem lO:FnScope ["_law_thing","_law_size"] ["_law_thing","_law_size"] (defScope e7):=mkSc
abbrev jM:Stmt:=top 61
theorem io:FnScope ["_law_kept","_law_kinds","_law_words"] ["_law_kept"] (defScope jM):=mkSc
abbrev jN:Stmt:=top 62
theorem cM:FnScope ["_law_what","_law_one","_law_other","_law_last","_law_kept","_law_answer","e"] ["_law_what","_law_one","_law_other","_law_last"] (defScope jN):=mkSc
abbrev fK:Stmt:=top 63
theorem e8:FnScope ["_law_tree_here","_law_left","_law_top","_law_side","_law_made","_law_k","_law_part"] ["_law_tree_here","_law_left","_law_top","_law_side"] (defScope fK):=mkSc
abbrev lP:Stmt:=top 64
theorem c7:FnScope ["_law_size","_law_some","_law_side","_law_spots","_law_block","_law_left","_law_top","_law_wide","_law_worth","_law_number","_law_spot"] ["_law_size","_law_some"] (defScope lP):=mkSc
abbrev bn:Stmt:=top 65
theorem aE:FnScope ["_law_script","_law_picture_here","_law_rows_here","_law_side","_law_due_here","_law_some","_law_mixed","_law_k","_law_block","_law_place","_law_new","_law_left","_law_top","_law_wide","_law_worth","_law_near","_law_news","_law_spoilt","_law_x","_law_y","_law_here","_law_bad"] ["_law_script"] (defScope bn):=mkSc
structure Txt (K:PySem.W.Frag)(mg:Str→Option Value)(C:Nat→Addr)(wP:Params):Prop where
 b_ValueError:mg "ValueError"=none
 b_all:mg "all"=none
 b_bool:mg "bool"=none
 b_enumerate:mg "enumerate"=none
 b_int:mg "int"=none
 b_isinstance:mg "isinstance"=none
 b_len:mg "len"=none
 b_list:mg "list"=none
 b_max:mg "max"=none
 b_range:mg "range"=none
 b_set:mg "set"=none
 b_tuple:mg "tuple"=none
 k_GREATEST_WORTH:∃ t,mg "GREATEST_WORTH"=some (.int 9 t)
 k_LARGEST_SIZE:∃ t,mg "LARGEST_SIZE"=some (.int 3 t)
 t_SIDES:∃ a,mg "SIDES"=some (.ref a)∧TupK K a [1,2,4,8]
 f_is_worth:mg "is_worth"=some (.ref (C F.af))
 c_FourError:mg "FourError"=some (.ref (C 0))
 c_NoPicture:mg "NoPicture"=some (.ref (C 1))
 c_NoSpot:mg "NoSpot"=some (.ref (C 2))
 c_BadBox:mg "BadBox"=some (.ref (C 3))
 c_Unlike:mg "Unlike"=some (.ref (C 4))
 c_NoRule:mg "NoRule"=some (.ref (C 5))
 c_NoBlocks:mg "NoBlocks"=some (.ref (C 6))
 c_NoChange:mg "NoChange"=some (.ref (C 7))
 c_NoNumber:mg "NoNumber"=some (.ref (C 8))
 c_NothingDone:mg "NothingDone"=some (.ref (C 9))
 c_NoText:mg "NoText"=some (.ref (C 10))
 x_NoPicture:PySem.W.excIn K (C 1) bmVE "ValueError.__new__"=true
 x_NoSpot:PySem.W.excIn K (C 2) bmVE "ValueError.__new__"=true
 x_NoBlocks:PySem.W.excIn K (C 6) bmVE "ValueError.__new__"=true
 i_BadBox:IsA K C (.ref (C 3)) (qEx esL 3)
 i_NoBlocks:IsA K C (.ref (C 6)) (qEx esL 6)
 i_NoChange:IsA K C (.ref (C 7)) (qEx esL 7)
 i_NoNumber:IsA K C (.ref (C 8)) (qEx esL 8)
 i_NoPicture:IsA K C (.ref (C 1)) (qEx esL 1)
 i_NoRule:IsA K C (.ref (C 5)) (qEx esL 5)
 i_NoSpot:IsA K C (.ref (C 2)) (qEx esL 2)
 i_NoText:IsA K C (.ref (C 10)) (qEx esL 10)
 i_NothingDone:IsA K C (.ref (C 9)) (qEx esL 9)
 i_Unlike:IsA K C (.ref (C 4)) (qEx esL 4)
 i_ValueError:IsA K C (.ty "ValueError") (qVx esL)
 takes:Takes K C (C 0) (qTk esL)
structure Tab (P:Program)(w:World)(K:PySem.W.Frag)(mg:Str→Option Value)(base:Heap)(C:Nat→Addr)(k:Nat)(t:Nat→List FF.D→FF.R FF.D):Prop where
 g20:Fn1 P w K mg base C k "is_whole" ["thing"] (t F.ae)
 g21:Fn1 P w K mg base C k "is_worth" ["thing"] (t F.af)
 g22:Fn1 P w K mg base C k "is_size" ["thing"] (t F.aA)
 g23:Fn1 P w K mg base C k "is_tree" ["size","thing","is_end"] (t F.au)
 g24:Fn1 P w K mg base C k "is_sized_tree" ["thing","is_end"] (t F.ar)
 g25:Fn1 P w K mg base C k "put_together" ["four"] (t F.ai)
 g26:Fn1 P w K mg base C k "lean_tree" ["tree"] (t F.an)
 g44:Fn1 P w K mg base C k "tree_of" ["rows","left","top","side"] (t F.ak)
 g27:Fn1 P w K mg base C k "is_picture" ["thing"] (t F.aC)
 g28:Fn1 P w K mg base C k "check_picture" ["thing"] (t F.ab)
 g45:Fn1 P w K mg base C k "side_of" ["picture"] (t F.aK)
 g46:Fn1 P w K mg base C k "is_along" ["side","thing"] (t F.aD)
 g47:Fn1 P w K mg base C k "check_spot" ["picture","x","y"] (t F.aG)
 g51:Fn1 P w K mg base C k "is_row" ["thing","side"] (t F.aO)
 g52:Fn1 P w K mg base C k "are_rows" ["thing"] (t F.aM)
 g53:Fn1 P w K mg base C k "of_rows" ["rows"] (t F.aQ)
 g29:Fn1 P w K mg base C k "lean" ["picture"] (t F.aW)
 g188:Fn1 P w K mg base C k "blocks_in" ["tree","left","top","side"] (t F.ao)
 g189:Fn1 P w K mg base C k "blocks" ["picture"] (t F.aJ)
 g190:Fn1 P w K mg base C k "is_place" ["thing","side"] (t F.aE)
 g191:Fn1 P w K mg base C k "is_block" ["thing"] (t F.aF)
 g192:Fn1 P w K mg base C k "check_blocks" ["size","things"] (t F.av)
 g193:Fn1 P w K mg base C k "spots_of" ["block"] (t F.aN)
 g194:Fn1 P w K mg base C k "worths_by_spot" ["squares"] (t F.al)
 g195:Fn1 P w K mg base C k "row_of" ["worths","side","y"] (t F.aX)
 g196:Fn1 P w K mg base C k "of_blocks" ["size","squares"] (t F.ay)
 g197:Fn1 P w K mg base C k "has_spot" ["block","x","y"] (t F.aH)
 g198:Fn1 P w K mg base C k "block_at" ["picture","x","y"] (t F.aI)
 g30:Fn1 P w K mg base C k "_law_cell" ["_law_script","_law_k"] (t F.aV)
 g31:Fn1 P w K mg base C k "_law_pick" ["_law_script","_law_k","_law_many"] (t F.ac)
 g32:Fn1 P w K mg base C k "_law_tree" ["_law_script","_law_at","_law_size"] (t F.ap)
 g33:Fn1 P w K mg base C k "_law_picture" ["_law_script","_law_at","_law_most"] (t F.az)
 g54:Fn1 P w K mg base C k "_law_rows_of" ["_law_size","_law_tree_here"] (t F.aq)
 g55:Fn1 P w K mg base C k "_law_rows" ["_law_picture_here"] (t F.aP)
 g56:Fn1 P w K mg base C k "_law_least" ["_law_rows_here"] (t F.aL)
 g57:Fn1 P w K mg base C k "_law_of" ["_law_rows_here"] (t F.aS)
 g34:Fn1 P w K mg base C k "_law_places" ["_law_thing"] (t F.aw)
 g35:Fn1 P w K mg base C k "_law_put" ["_law_thing","_law_place","_law_new"] (t F.aT)
 g36:Fn1 P w K mg base C k "_law_there" ["_law_thing","_law_place"] (t F.aR)
 g37:Fn1 P w K mg base C k "_law_spoilt_thing" ["_law_script","_law_at","_law_thing"] (t F.aa)
 g38:Fn1 P w K mg base C k "_law_is_picture" ["_law_thing"] (t F.ax)
 g39:Fn1 P w K mg base C k "_law_is_tree" ["_law_thing","_law_size"] (t F.ag)
 g40:Fn1 P w K mg base C k "_law_word" ["_law_kept"] (t F.aj)
 g199:Fn1 P w K mg base C k "_law_do" ["_law_what","_law_one","_law_other","_law_last"] (t F.ad)
 g200:Fn1 P w K mg base C k "_law_blocks" ["_law_tree_here","_law_left","_law_top","_law_side"] (t F.ah)
 g201:Fn1 P w K mg base C k "_law_due" ["_law_size","_law_some"] (t F.aU)
 g202:Fn1 P w K mg base C k "law" ["_law_script"] (t F.aB)
 v:∀ i∈fvL,FnV P w K mg base C k i (t i)
section
variable {P:Program}{w:World}{K:PySem.W.Frag}{mg:Str→Option Value}{base:Heap}{C:Nat→Addr}{k:Nat}{t:Nat→List FF.D→FF.R FF.D}(T:Txt K mg C w.params)(G:Tab P w K mg base C k t)
include T G
theorem nc:OkD P w K mg base C k "is_whole" fz ["thing"] (a1 (fw t)):=ok1 mX fun thing _ _ _ _ _ _ _ _ bx _ _=>by
 show FL _ _ [vv thing] _ _ _
 refine ar (ah (cQ (ao bx rfl T.b_isinstance iZ (ac 0) (aM rfl T.b_int (by decide +kernel) rfl)) (di (xm (ao bx rfl T.b_isinstance fX (ac 0) (aM rfl T.b_bool (by decide +kernel) rfl)))))) ?_
 rfl
theorem iG:OkD P w K mg base C k "is_worth" fA ["thing"] (a1 (dY t)):=ok1 mY fun thing _ _ _ _ _ _ _ _ bx _ _=>by
 show FL _ _ [vv thing] _ _ _
 refine ar (ah (cQ (af bx G.g20 rfl (aa (ac 0) ad)) (di (iY ae (ac 0) (pG T.k_GREATEST_WORTH rfl))))) ?_
 rfl
theorem oQ:OkD P w K mg base C k "is_size" hZ ["thing"] (a1 (fi t)):=ok1 oK fun thing _ _ _ _ _ _ _ _ bx _ _=>by
 show FL _ _ [vv thing] _ _ _
 refine ar (ah (cQ (af bx G.g20 rfl (aa (ac 0) ad)) (di (iY ae (ac 0) (pG T.k_LARGEST_SIZE rfl))))) ?_
 rfl
theorem oR:OkD P w K mg base C k "is_tree" ia ["size","thing","is_end"] (a3 (dB t)):=ok3 oM fun size_ thing is_end _ _ _ _ _ _ _ _ bx _ _=>by
 show FL _ _ [vv size_,vv thing,vv is_end] _ _ _
 refine ap (inj:=fun (_:Unit) (w:Unit)=>[vv size_,vv thing,vv is_end]) (au (aQ (aI (ao bx rfl T.b_isinstance bp (ac 1) (aM rfl T.b_tuple (by decide +kernel) rfl)))) ?_ ?_ ?_) (fun _ w=>?_)
 rfl
 ·refine ar (ah (tR bx G.v (ac 2) (aa (ac 1) ad))) ?_
  rfl
 ·exact ak ⟨(),rfl⟩
 refine ap (inj:=fun (_:Unit) (w1:Unit)=>[vv size_,vv thing,vv is_end]) (au (ft_w (bv (eL bx (ac 0) ae) (bG (b4 bx (fe_N (bh bx rfl T.b_len (FAL.out (aa (ac 1) ad)))) ae)))) ?_ ?_ ?_) (fun _ w1=>?_)
 rfl
 ·refine aw (ah cP) ?_
  rfl
 ·exact ak ⟨(),rfl⟩
 refine ar (ah (fe_N (lE bx rfl T.b_all (FAL.out (aa (fe_C (a9 (N:=["part","is_end","size"]) (own:=1) (cap:=[2,0]) bx (BlkOk.of (by kernel_rfl)) (aU bx.K (ac 1)) (bb (by decide)) (fun _ _ _ _ _=>ax 0 (show List.Nodup (α:=Str) ["part","is_end","size"] by decide +kernel)) (fun _ _ _ _ _=>(af (ay bx) G.g23 rfl (aa (eO (ac 2) ae) (aa (ac 0) (aa (ac 1) ad))))))) ad))))) ?_
 rfl
theorem ip:OkD P w K mg base C k "is_sized_tree" cA ["thing","is_end"] (a2 (bM t)):=ok2 ib fun thing is_end _ _ _ _ _ _ _ _ bx _ _=>by
 show FL _ _ [vv thing,vv is_end] _ _ _
 refine ap (inj:=fun (_:Unit) (w:Unit)=>[vv thing,vv is_end]) (au (ft_w (bv (aQ (aI (ao bx rfl T.b_isinstance bp (ac 0) (aM rfl T.b_tuple (by decide +kernel) rfl)))) (bG (b4 bx (fe_N (bh bx rfl T.b_len (FAL.out (aa (ac 0) ad)))) ae)))) ?_ ?_ ?_) (fun _ w=>?_)
 rfl
 ·refine aw (ah cP) ?_
  rfl
 ·exact ak ⟨(),rfl⟩
 refine ar (ah (cQ (af bx G.g22 rfl (aa (ag bx.K (ac 0) ae) ad)) (di (af bx G.g23 rfl (aa (ag bx.K (ac 0) ae) (aa (ag bx.K (ac 0) ae) (aa (ac 1) ad))))))) ?_
 rfl
theorem iR:OkD P w K mg base C k "put_together" cX ["four"] (a1 (bV t)):=ok1 eM fun four _ _ _ _ _ _ _ _ bx _ _=>by
 show FL _ _ [vv four,nn] _ _ _
 refine aj (S':=fun first=>[vv four,vv first]) (aC 1 eM.nd (ag bx.K (ac 0) ae)) ?_ (fun first=>?_)
 rfl
 refine ap (inj:=fun (_:Unit) (w:Unit)=>[vv four,vv first]) (au (ft_w (oi (aQ (aI (ao bx rfl T.b_isinstance bp (ac 1) (aM rfl T.b_tuple (by decide +kernel) rfl)))) (lw (eL bx (ac 0) (az (aa (ac 1) (aa (ac 1) (aa (ac 1) (aa (ac 1) ad))))))))) ?_ ?_ ?_) (fun _ w=>?_)
 rfl
 ·refine aw (ah (ac 1)) ?_
  rfl
 ·exact ak ⟨(),rfl⟩
 refine aw (ah (ac 0)) ?_
 rfl
theorem lQ:OkD P w K mg base C k "lean_tree" eU ["tree"] (a1 (cr t)):=ok1 lM fun tree_ _ _ _ _ _ _ _ _ bx _ _=>by
 show FL _ _ [vv tree_] _ _ _
 refine ap (inj:=fun (_:Unit) (w:Unit)=>[vv tree_]) (au (aQ (aI (ao bx rfl T.b_isinstance bp (ac 0) (aM rfl T.b_tuple (by decide +kernel) rfl)))) ?_ ?_ ?_) (fun _ w=>?_)
 rfl
 ·refine aw (ah (ac 0)) ?_
  rfl
 ·exact ak ⟨(),rfl⟩
 refine ar (ah (af bx G.g25 rfl (aa (fe_N (bU bx rfl T.b_tuple (FAL.out (aa (fe_C (a9 (N:=["part"]) (own:=1) (cap:=[]) bx (BlkOk.of (by kernel_rfl)) (aU bx.K (ac 0)) (bb (by decide)) (fun _ _ _ _ _=>ax 0 (show List.Nodup (α:=Str) ["part"] by decide +kernel)) (fun _ _ _ _ _=>(af (ay bx) G.g26 rfl (aa (ac 0) ad))))) ad)))) ad))) ?_
 rfl
theorem oS:OkD P w K mg base C k "tree_of" ic ["rows","left","top","side"] (a4 (dC t)):=ok4 jD fun rows left top side _ _ _ _ _ _ _ _ bx _ _=>by
 show FL _ _ [vv rows,vv left,vv top,vv side,nn] _ _ _
 refine ap (inj:=fun (_:Unit) (w:Unit)=>[vv rows,vv left,vv top,vv side,nn]) (au (eL bx (ac 3) ae) ?_ ?_ ?_) (fun _ w=>?_)
 rfl
 ·refine ar (ah (ag bx.K (ag bx.K (ac 0) (ac 2)) (ac 1))) ?_
  rfl
 ·exact ak ⟨(),rfl⟩
 refine aj (S':=fun half=>[vv rows,vv left,vv top,vv side,vv half]) (aC 4 jD.nd (cS (ac 3) ae)) ?_ (fun half=>?_)
 rfl
 refine ar (ah (af bx G.g25 rfl (aa (az (aa (af bx G.g44 rfl (aa (ac 0) (aa (ac 1) (aa (ac 2) (aa (ac 4) ad))))) (aa (af bx G.g44 rfl (aa (ac 0) (aa (aq bx.K (ac 1) (ac 4)) (aa (ac 2) (aa (ac 4) ad))))) (aa (af bx G.g44 rfl (aa (ac 0) (aa (ac 1) (aa (aq bx.K (ac 2) (ac 4)) (aa (ac 4) ad))))) (aa (af bx G.g44 rfl (aa (ac 0) (aa (aq bx.K (ac 1) (ac 4)) (aa (aq bx.K (ac 2) (ac 4)) (aa (ac 4) ad))))) ad))))) ad))) ?_
 rfl
theorem kq:OkD P w K mg base C k "is_picture" et ["thing"] (a1 (cE t)):=ok1 ko fun thing _ _ _ _ _ _ _ _ bx _ _=>by
 show FL _ _ [vv thing] _ _ _
 refine ar (ah (af bx G.g24 rfl (aa (ac 0) (aa (yr T.f_is_worth rfl) ad)))) ?_
 rfl
theorem ir:OkD P w K mg base C k "check_picture" cB ["thing"] (a1 (bN t)):=ok1 ie fun thing _ _ _ _ _ _ _ _ bx _ made=>by
 show FL _ _ [vv thing] _ _ _
 refine ju (au (aQ (aI (af bx G.g27 rfl (aa (ac 0) ad)))) ?_ ?_ ?_)
 rfl
 ·refine iB (cq 1 bx made rfl T.c_NoPicture T.x_NoPicture (FAL.out (aa aP ad))) ?_
  rfl
 ·exact ak True.intro
theorem oT:OkD P w K mg base C k "side_of" ig ["picture"] (a1 (fj t)):=ok1 oN fun picture _ _ _ _ _ _ _ _ bx _ _=>by
 show FL _ _ [vv picture] _ _ _
 refine ar (ah (ag bx.K (fY T.t_SIDES rfl) (ag bx.K (ac 0) ae))) ?_
 rfl
theorem ng:OkD P w K mg base C k "is_along" fB ["side","thing"] (a2 (dZ t)):=ok2 mZ fun side thing _ _ _ _ _ _ _ _ bx _ _=>by
 show FL _ _ [vv side,vv thing] _ _ _
 refine ar (ah (cQ (af bx G.g20 rfl (aa (ac 1) ad)) (di (lz ae (ac 1) (ac 0))))) ?_
 rfl
theorem kr:OkD P w K mg base C k "check_spot" eB ["picture","x","y"] (a3 (cF t)):=ok3 ft fun picture x y _ _ _ _ _ _ _ _ bx _ made=>by
 show FL _ _ [vv picture,vv x,vv y,nn] _ _ _
 refine aj (S':=fun side=>[vv picture,vv x,vv y,vv side]) (aC 3 ft.nd (af bx G.g45 rfl (aa (ac 0) ad))) ?_ (fun side=>?_)
 rfl
 refine ju (au (ft_w (bv (aQ (aI (af bx G.g46 rfl (aa (ac 3) (aa (ac 1) ad))))) (bG (aQ (aI (af bx G.g46 rfl (aa (ac 3) (aa (ac 2) ad)))))))) ?_ ?_ ?_)
 rfl
 ·refine iB (cq 2 bx made rfl T.c_NoSpot T.x_NoSpot (FAL.out (aa aP ad))) ?_
  rfl
 ·exact ak True.intro
theorem rK:OkD P w K mg base C k "is_row" jE ["thing","side"] (a2 (gm t)):=ok2 rE fun thing side _ _ _ _ _ _ _ _ bx _ _=>by
 show FL _ _ [vv thing,vv side] _ _ _
 refine ap (inj:=fun (_:Unit) (w:Unit)=>[vv thing,vv side]) (au (ft_w (bv (aQ (aI (ao bx rfl T.b_isinstance bp (ac 0) (aM rfl T.b_tuple (by decide +kernel) rfl)))) (bG (b4 bx (fe_N (bh bx rfl T.b_len (FAL.out (aa (ac 0) ad)))) (ac 1))))) ?_ ?_ ?_) (fun _ w=>?_)
 rfl
 ·refine aw (ah cP) ?_
  rfl
 ·exact ak ⟨(),rfl⟩
 refine ar (ah (fe_N (lE bx rfl T.b_all (FAL.out (aa (fe_C (a9 (N:=["worth"]) (own:=1) (cap:=[]) bx (BlkOk.of (by kernel_rfl)) (aU bx.K (ac 0)) (bb (by decide)) (fun _ _ _ _ _=>ax 0 (show List.Nodup (α:=Str) ["worth"] by decide +kernel)) (fun _ _ _ _ _=>(af (ay bx) G.g21 rfl (aa (ac 0) ad))))) ad))))) ?_
 rfl
theorem nh:OkD P w K mg base C k "are_rows" fC ["thing"] (a1 (d0 t)):=ok1 m6 fun thing _ _ _ _ _ _ _ _ bx _ _=>by
 show FL _ _ [vv thing] _ _ _
 refine ap (inj:=fun (_:Unit) (w:Unit)=>[vv thing]) (au (ft_w (bv (aQ (aI (ao bx rfl T.b_isinstance bp (ac 0) (aM rfl T.b_tuple (by decide +kernel) rfl)))) (bG (kM bx (fe_N (bh bx rfl T.b_len (FAL.out (aa (ac 0) ad)))) (fY T.t_SIDES rfl))))) ?_ ?_ ?_) (fun _ w=>?_)
 rfl
 ·refine aw (ah cP) ?_
  rfl
 ·exact ak ⟨(),rfl⟩
 refine ar (ah (fe_N (lE bx rfl T.b_all (FAL.out (aa (fe_C (a9 (N:=["row","thing"]) (own:=1) (cap:=[0]) bx (BlkOk.of (by kernel_rfl)) (aU bx.K (ac 0)) (bb (by decide)) (fun _ _ _ _ _=>ax 0 (show List.Nodup (α:=Str) ["row","thing"] by decide +kernel)) (fun _ _ _ _ _=>(af (ay bx) G.g51 rfl (aa (ac 0) (aa (fe_N (bh (ay bx) rfl T.b_len (FAL.out (aa (ac 1) ad)))) ad)))))) ad))))) ?_
 rfl
theorem oU:OkD P w K mg base C k "of_rows" ik ["rows"] (a1 (fk t)):=ok1 jF fun rows _ _ _ _ _ _ _ _ bx _ made=>by
 show FL _ _ [vv rows,nn] _ _ _
 refine ap (inj:=fun (_:Unit) (w:Unit)=>[vv rows,nn]) (au (aQ (aI (af bx G.g52 rfl (aa (ac 0) ad)))) ?_ ?_ ?_) (fun _ w=>?_)
 rfl
 ·refine iB (cq 1 bx made rfl T.c_NoPicture T.x_NoPicture (FAL.out (aa aP ad))) ?_
  rfl
 ·exact ak ⟨(),rfl⟩
 refine aj (S':=fun side=>[vv rows,vv side]) (aC 1 jF.nd (fe_N (bh bx rfl T.b_len (FAL.out (aa (ac 0) ad))))) ?_ (fun side=>?_)
 rfl
 refine ar (ah (az (aa (yt (qW bx T.t_SIDES rfl (FAL.out (aa (ac 1) ad)))) (aa (af bx G.g44 rfl (aa (ac 0) (aa ae (aa ae (aa (ac 1) ad))))) ad)))) ?_
 rfl
theorem vY:OkD P w K mg base C k "lean" oO ["picture"] (a1 (jz t)):=ok1 vW fun picture _ _ _ _ _ _ _ _ bx _ _=>by
 show FL _ _ [vv picture] _ _ _
 refine aj (S':=fun _=>[vv picture]) (iW (af bx G.g28 rfl (aa (ac 0) ad))) ?_ (fun _=>?_)
 rfl
 refine ar (ah (az (aa (ag bx.K (ac 0) ae) (aa (af bx G.g26 rfl (aa (ag bx.K (ac 0) ae) ad)) ad)))) ?_
 rfl
theorem lR:OkD P w K mg base C k "blocks_in" eV ["tree","left","top","side"] (a4 (cu t)):=ok4 cI fun tree_ left top side _ _ _ _ _ _ _ _ bx hpo _=>by
 show FL _ _ [vv tree_,vv left,vv top,vv side,nn,nn,nn,nn] _ _ _
 refine ap (inj:=fun (_:Unit) (w:Unit)=>[vv tree_,vv left,vv top,vv side,nn,nn,nn,nn]) (au (aQ (aI (ao bx rfl T.b_isinstance bp (ac 0) (aM rfl T.b_tuple (by decide +kernel) rfl)))) ?_ ?_ ?_) (fun _ w=>?_)
 rfl
 ·refine aw (ah (aF (aa (az (aa (ac 1) (aa (ac 2) (aa (ac 3) (aa (ac 0) ad))))) ad))) ?_
  rfl
 ·exact ak ⟨(),rfl⟩
 refine aj (S':=fun half=>[vv tree_,vv left,vv top,vv side,vv half,nn,nn,nn]) (aC 4 cI.nd (cS (ac 3) ae)) ?_ (fun half=>?_)
 rfl
 refine aV (S':=[vv tree_,vv left,vv top,vv side,vv half,ow [],nn,nn]) (fs_O (dm 5 cI.nd (FAL.out ad))) ?_ ?_
 rfl
 refine ap (inj:=fun (s:List D) (w1:Option Sl×Option Sl)=>[vv tree_,vv left,vv top,vv side,vv half,ow s,w1.1,w1.2]) (jv 6 7 (B:=fun (s:List D) (w1:Option Sl×Option Sl) x x1=>[vv tree_,vv left,vv top,vv side,vv half,ow s,vv x,vv x1]) (nn,nn) hpo rfl (dX bx rfl T.b_enumerate (ac 0)) ?_ (lH 6 7 rfl cI.nd) rfl (fun _ _ _ _=>rfl) (fun s w1 x x1=>?_)) (fun told1 w2=>?_)
 rfl
 ·refine aj (S':=fun told=>[vv tree_,vv left,vv top,vv side,vv half,ow told,vv x,vv x1]) (fs_X (bC 5 bx.K (FAL.out (aa (af bx G.g188 rfl (aa (ac 7) (aa (aq bx.K (ac 1) (aW bx.K (dl (ac 6) ae) (ac 4))) (aa (aq bx.K (ac 2) (aW bx.K (cS (ac 6) ae) (ac 4))) (aa (ac 4) ad))))) ad)))) ?_ (fun told=>?_)
  rfl
  exact ak ⟨(vv x,vv x1),rfl⟩
 refine dW 5 (S':=[vv tree_,vv left,vv top,vv side,vv half,vv (.lst told1),w2.1,w2.2]) rfl rfl ?_
 refine aw (ah (ac 5)) ?_
 rfl
theorem rL:OkD P w K mg base C k "blocks" jG ["picture"] (a1 (eR t)):=ok1 rF fun picture _ _ _ _ _ _ _ _ bx _ _=>by
 show FL _ _ [vv picture] _ _ _
 refine ar (ah (af bx G.g188 rfl (aa (ag bx.K (af bx G.g29 rfl (aa (ac 0) ad)) ae) (aa ae (aa ae (aa (af bx G.g45 rfl (aa (ac 0) ad)) ad)))))) ?_
 rfl
theorem ni:OkD P w K mg base C k "is_place" fD ["thing","side"] (a2 (d4 t)):=ok2 m7 fun thing side _ _ _ _ _ _ _ _ bx _ _=>by
 show FL _ _ [vv thing,vv side] _ _ _
 refine ar (ah (cQ (yg (ac 0) ae) (di (tm bx (dl (ac 0) (ac 1)) ae)))) ?_
 rfl
theorem nj:OkD P w K mg base C k "is_block" fE ["thing"] (a1 (bR t)):=ok1 iF fun thing _ _ _ _ _ _ _ _ bx _ _=>by
 show FL _ _ [vv thing,nn] _ _ _
 refine ap (inj:=fun (_:Unit) (w:Unit)=>[vv thing,nn]) (au (ft_w (bv (aQ (aI (ao bx rfl T.b_isinstance bp (ac 0) (aM rfl T.b_tuple (by decide +kernel) rfl)))) (bG (b4 bx (fe_N (bh bx rfl T.b_len (FAL.out (aa (ac 0) ad)))) ae)))) ?_ ?_ ?_) (fun _ w=>?_)
 rfl
 ·refine aw (ah cP) ?_
  rfl
 ·exact ak ⟨(),rfl⟩
 refine ap (inj:=fun (_:Unit) (w1:Unit)=>[vv thing,nn]) (au (aQ (aI (fe_N (lE bx rfl T.b_all (FAL.out (aa (fe_C (a9 (N:=["number"]) (own:=1) (cap:=[]) bx (BlkOk.of (by kernel_rfl)) (aU bx.K (ac 0)) (bb (by decide)) (fun _ _ _ _ _=>ax 0 (show List.Nodup (α:=Str) ["number"] by decide +kernel)) (fun _ _ _ _ _=>(af (ay bx) G.g20 rfl (aa (ac 0) ad))))) ad)))))) ?_ ?_ ?_) (fun _ w1=>?_)
 rfl
 ·refine aw (ah cP) ?_
  rfl
 ·exact ak ⟨(),rfl⟩
 refine aj (S':=fun side=>[vv thing,vv side]) (aC 1 iF.nd (ag bx.K (ac 0) ae)) ?_ (fun side=>?_)
 rfl
 refine ar (ah (cQ (xG bx (ac 1) (fY T.t_SIDES rfl)) (cQ (af bx G.g190 rfl (aa (ag bx.K (ac 0) ae) (aa (ac 1) ad))) (cQ (af bx G.g190 rfl (aa (ag bx.K (ac 0) ae) (aa (ac 1) ad))) (di (af bx G.g21 rfl (aa (ag bx.K (ac 0) ae) ad))))))) ?_
 rfl
theorem iS:OkD P w K mg base C k "check_blocks" cY ["size","things"] (a2 (bW t)):=ok2 cC fun size_ things _ _ _ _ _ _ _ _ bx hpo made=>by
 show FL _ _ [vv size_,vv things,nn,nn] _ _ _
 refine ap (inj:=fun (_:Unit) (w:Unit)=>[vv size_,vv things,nn,nn]) (au (ft_w (bv (aQ (aI (af bx G.g22 rfl (aa (ac 0) ad)))) (bG (aQ (aI (ao bx rfl T.b_isinstance tu (ac 1) (aM rfl T.b_list (by decide +kernel) rfl))))))) ?_ ?_ ?_) (fun _ w=>?_)
 rfl
 ·refine iB (cq 6 bx made rfl T.c_NoBlocks T.x_NoBlocks (FAL.out (aa aP ad))) ?_
  rfl
 ·exact ak ⟨(),rfl⟩
 refine aj (S':=fun side=>[vv size_,vv things,vv side,nn]) (aC 2 cC.nd (ag bx.K (fY T.t_SIDES rfl) (ac 0))) ?_ (fun side=>?_)
 rfl
 refine ap (inj:=fun (s:Unit) (w1:Option Sl)=>[vv size_,vv things,vv side,w1]) (bD 3 (B:=fun (s:Unit) (w1:Option Sl) x=>[vv size_,vv things,vv side,vv x]) nn hpo rfl (aU bx.K (ac 1)) ?_ (ax 3 cC.nd) rfl (fun _ _ _=>rfl) (fun s w1 x=>?_)) (fun _ w3=>?_)
 rfl
 ·refine ap (inj:=fun (_:Unit) (w2:Unit)=>[vv size_,vv things,vv side,vv x]) (au (aQ (aI (af bx G.g191 rfl (aa (ac 3) ad)))) ?_ ?_ ?_) (fun _ w2=>?_)
  rfl
  ·refine iB (cq 6 bx made rfl T.c_NoBlocks T.x_NoBlocks (FAL.out (aa aP ad))) ?_
   rfl
  ·exact ak ⟨(),rfl⟩
  refine ju (au (ft_w (bv (pz (aq bx.K (ag bx.K (ac 3) ae) (ag bx.K (ac 3) ae)) (ac 2)) (bG (pz (aq bx.K (ag bx.K (ac 3) ae) (ag bx.K (ac 3) ae)) (ac 2))))) ?_ ?_ ?_)
  rfl
  ·refine iB (cq 6 bx made rfl T.c_NoBlocks T.x_NoBlocks (FAL.out (aa aP ad))) ?_
   rfl
  ·exact ak ⟨vv x,rfl⟩
 exact ak True.intro
theorem nk:OkD P w K mg base C k "spots_of" fF ["block"] (a1 (d5 t)):=ok1 eW fun block _ _ _ _ _ _ _ _ bx hpo _=>by
 show FL _ _ [vv block,nn,nn] _ _ _
 refine aV (S':=[vv block,ow [],nn]) (fs_O (dm 1 eW.nd (FAL.out ad))) ?_ ?_
 rfl
 refine ap (inj:=fun (s:List D) (w:Option Sl)=>[vv block,ow s,w]) (bD 2 (B:=fun (s:List D) (w:Option Sl) x4=>[vv block,ow s,vv x4]) nn hpo rfl (wA (kH rfl T.b_range (FAL.out (aa (ag bx.K (ac 0) ae) (aa (aq bx.K (ag bx.K (ac 0) ae) (ag bx.K (ac 0) ae)) ad))))) ?_ (ax 2 eW.nd) rfl (fun _ _ _=>rfl) (fun s w x4=>?_)) (fun spots1 w1=>?_)
 rfl
 ·refine aj (S':=fun spots=>[vv block,ow spots,vv x4]) (fs_X (bC 1 bx.K (FAL.out (aa (fe_C (a9 (N:=["x","y"]) (own:=1) (cap:=[2]) bx (BlkOk.of (by kernel_rfl)) (wA (kH rfl T.b_range (FAL.out (aa (ag bx.K (ac 0) ae) (aa (aq bx.K (ag bx.K (ac 0) ae) (ag bx.K (ac 0) ae)) ad))))) (bb (by decide)) (fun _ _ _ _ _=>ax 0 (show List.Nodup (α:=Str) ["x","y"] by decide +kernel)) (fun _ _ _ _ _=>(az (aa (ac 0) (aa (ac 1) ad)))))) ad)))) ?_ (fun spots=>?_)
  rfl
  exact ak ⟨vv x4,rfl⟩
 refine dW 1 (S':=[vv block,vv (.lst spots1),w1]) rfl rfl ?_
 refine aw (ah (ac 1)) ?_
 rfl
theorem gG:OkD P w K mg base C k "worths_by_spot" b9 ["squares"] (a1 (bE t)):=ok1 bt fun squares _ _ _ _ _ _ _ _ bx hpo made=>by
 show FL _ _ [vv squares,nn,nn,nn] _ _ _
 refine aV (S':=[vv squares,dt [],nn,nn]) (kP 1 bt.nd) ?_ ?_
 rfl
 refine ap (inj:=fun (s:List (List Int×D)) (w:Option Sl×Option Sl)=>[vv squares,dt s,w.1,w.2]) (bD 2 (B:=fun (s:List (List Int×D)) (w:Option Sl×Option Sl) x=>[vv squares,dt s,vv x,w.2]) (nn,nn) hpo rfl (aU bx.K (ac 0)) ?_ (ax 2 bt.nd) rfl (fun _ _ _=>rfl) (fun s w x=>?_)) (fun worths2 w4=>?_)
 rfl
 ·refine ap (inj:=fun (s1:List (List Int×D)) (w1:Option Sl)=>[vv squares,dt s1,vv x,w1]) (bD 3 (B:=fun (s1:List (List Int×D)) (w1:Option Sl) x2=>[vv squares,dt s1,vv x,vv x2]) w.2 hpo rfl (aU bx.K (af bx G.g193 rfl (aa (ac 2) ad))) ?_ (ax 3 bt.nd) rfl (fun _ _ _=>rfl) (fun s1 w1 x2=>?_)) (fun worths1 w3=>?_)
  rfl
  ·refine ap (inj:=fun (_:Unit) (w2:Unit)=>[vv squares,dt s1,vv x,vv x2]) (au (mK 1 bx (ac 3)) ?_ ?_ ?_) (fun _ w2=>?_)
   rfl
   ·refine iB (cq 6 bx made rfl T.c_NoBlocks T.x_NoBlocks (FAL.out (aa aP ad))) ?_
    rfl
   ·exact ak ⟨(),rfl⟩
   refine aj (S':=fun worths=>[vv squares,dt worths,vv x,vv x2]) (mM 1 bx (ag bx.K (ac 2) ae) (ac 3)) ?_ (fun worths=>?_)
   rfl
   exact ak ⟨vv x2,rfl⟩
  exact ak ⟨(vv x,w3),rfl⟩
 refine pR 1 (S':=[vv squares,vv (tabD worths2),w4.1,w4.2]) rfl rfl ?_
 refine aw (ah (ac 1)) ?_
 rfl
theorem rM:OkD P w K mg base C k "row_of" jH ["worths","side","y"] (a3 (gn t)):=ok3 rG fun worths side y _ _ _ _ _ _ _ _ bx _ _=>by
 show FL _ _ [vv worths,vv side,vv y] _ _ _
 refine ar (ah (fe_N (bU bx rfl T.b_tuple (FAL.out (aa (fe_C (a9 (N:=["x","worths","y"]) (own:=1) (cap:=[0,2]) bx (BlkOk.of (by kernel_rfl)) (f9 (bB rfl T.b_range (FAL.out (aa (ac 1) ad)))) (bb (by decide)) (fun _ _ _ _ _=>ax 0 (show List.Nodup (α:=Str) ["x","worths","y"] by decide +kernel)) (fun _ _ _ _ _=>(mO (ay bx) (ac 1) (az (aa (ac 0) (aa (ac 2) ad))))))) ad))))) ?_
 rfl
theorem lT:OkD P w K mg base C k "of_blocks" eX ["size","squares"] (a2 (dc t)):=ok2 eD fun size_ squares _ _ _ _ _ _ _ _ bx _ made=>by
 show FL _ _ [vv size_,vv squares,nn,nn] _ _ _
 refine aj (S':=fun _=>[vv size_,vv squares,nn,nn]) (iW (af bx G.g192 rfl (aa (ac 0) (aa (ac 1) ad)))) ?_ (fun _=>?_)
 rfl
 refine aj (S':=fun worths=>[vv size_,vv squares,vv worths,nn]) (aC 2 eD.nd (af bx G.g194 rfl (aa (ac 1) ad))) ?_ (fun worths=>?_)
 rfl
 refine aj (S':=fun side=>[vv size_,vv squares,vv worths,vv side]) (aC 3 eD.nd (ag bx.K (fY T.t_SIDES rfl) (ac 0))) ?_ (fun side=>?_)
 rfl
 refine ap (inj:=fun (_:Unit) (w:Unit)=>[vv size_,vv squares,vv worths,vv side]) (au (b4 bx (fe_N (rq bx rfl T.b_len (FAL.out (aa (ac 2) ad)))) (aW bx.K (ac 3) (ac 3))) ?_ ?_ ?_) (fun _ w=>?_)
 rfl
 ·refine iB (cq 6 bx made rfl T.c_NoBlocks T.x_NoBlocks (FAL.out (aa aP ad))) ?_
  rfl
 ·exact ak ⟨(),rfl⟩
 refine ar (ah (af bx G.g53 rfl (aa (fe_N (bU bx rfl T.b_tuple (FAL.out (aa (fe_C (a9 (N:=["y","worths","side"]) (own:=1) (cap:=[2,3]) bx (BlkOk.of (by kernel_rfl)) (f9 (bB rfl T.b_range (FAL.out (aa (ac 3) ad)))) (bb (by decide)) (fun _ _ _ _ _=>ax 0 (show List.Nodup (α:=Str) ["y","worths","side"] by decide +kernel)) (fun _ _ _ _ _=>(af (ay bx) G.g195 rfl (aa (ac 1) (aa (ac 2) (aa (ac 0) ad))))))) ad)))) ad))) ?_
 rfl
theorem nq:OkD P w K mg base C k "has_spot" fG ["block","x","y"] (a3 (d7 t)):=ok3 m8 fun block x y _ _ _ _ _ _ _ _ bx _ _=>by
 show FL _ _ [vv block,vv x,vv y] _ _ _
 refine ar (ah (cQ (lz (ag bx.K (ac 0) ae) (ac 1) (aq bx.K (ag bx.K (ac 0) ae) (ag bx.K (ac 0) ae))) (di (lz (ag bx.K (ac 0) ae) (ac 2) (aq bx.K (ag bx.K (ac 0) ae) (ag bx.K (ac 0) ae)))))) ?_
 rfl
theorem nr:OkD P w K mg base C k "block_at" fH ["picture","x","y"] (a3 (b8 t)):=ok3 m9 fun picture x y _ _ _ _ _ _ _ _ bx _ _=>by
 show FL _ _ [vv picture,vv x,vv y] _ _ _
 refine aj (S':=fun _=>[vv picture,vv x,vv y]) (iW (af bx G.g28 rfl (aa (ac 0) ad))) ?_ (fun _=>?_)
 rfl
 refine aj (S':=fun _=>[vv picture,vv x,vv y]) (iW (af bx G.g47 rfl (aa (ac 0) (aa (ac 1) (aa (ac 2) ad))))) ?_ (fun _=>?_)
 rfl
 refine ar (ah (ag bx.K (fe_C (g8 (N:=["block","x","y"]) (own:=1) (cap:=[1,2]) bx (BlkOk.of (by kernel_rfl)) (aU bx.K (af bx G.g189 rfl (aa (ac 0) ad))) (bb (by decide)) (fun _ _ _ _ _=>ax 0 (show List.Nodup (α:=Str) ["block","x","y"] by decide +kernel)) (fun _ _ _ _ _=>(aI (af (ay bx) G.g197 rfl (aa (ac 0) (aa (ac 1) (aa (ac 2) ad)))))) (fun _ _ _ _ _=>(ac 0)))) ae)) ?_
 rfl
theorem rN:OkD P w K mg base C k "_law_cell" jI ["_law_script","_law_k"] (a2 (gp t)):=ok2 rH fun yH yY _ _ _ _ _ _ _ _ bx _ _=>by
 show FL _ _ [vv yH,vv yY] _ _ _
 refine ap (inj:=fun (_:Unit) (w:Unit)=>[vv yH,vv yY]) (au (px (ac 1) (fe_N (bh bx rfl T.b_len (FAL.out (aa (ac 0) ad))))) ?_ ?_ ?_) (fun _ w=>?_)
 rfl
 ·refine ar (ah (ag bx.K (ac 0) (ac 1))) ?_
  rfl
 ·exact ak ⟨(),rfl⟩
 refine ap (inj:=fun (_:Unit) (w1:Unit)=>[vv yH,vv yY]) (au (eL bx (ac 0) (aF ad)) ?_ ?_ ?_) (fun _ w1=>?_)
 rfl
 ·refine aw (ah ae) ?_
  rfl
 ·exact ak ⟨(),rfl⟩
 refine ar (ah (aq bx.K (aW bx.K (ag bx.K (ac 0) (dl (ac 1) (fe_N (bh bx rfl T.b_len (FAL.out (aa (ac 0) ad)))))) ae) (ac 1))) ?_
 rfl
theorem rP:OkD P w K mg base C k "_law_pick" jJ ["_law_script","_law_k","_law_many"] (a3 (gq t)):=ok3 kW fun yH yY zJ _ _ _ _ _ _ _ _ bx _ _=>by
 show FL _ _ [vv yH,vv yY,vv zJ,nn] _ _ _
 refine aj (S':=fun zt=>[vv yH,vv yY,vv zJ,vv zt]) (aC 3 kW.nd (dl (aW bx.K (aq bx.K (af bx G.g30 rfl (aa (ac 0) (aa (ac 1) ad))) (aW bx.K ae (aq bx.K (ac 1) ae))) ae) ae)) ?_ (fun zt=>?_)
 rfl
 refine ar (ah (dl (dl (aq bx.K (aW bx.K (ac 3) (ac 3)) (cS (ac 3) ae)) ae) (ac 2))) ?_
 rfl
theorem rQ:OkD P w K mg base C k "_law_tree" jK ["_law_script","_law_at","_law_size"] (a3 (eS t)):=ok3 kX fun yH y9 yN _ _ _ _ _ _ _ _ bx _ _=>by
 show FL _ _ [vv yH,vv y9,vv yN,nn] _ _ _
 refine aj (S':=fun zz=>[vv yH,vv y9,vv yN,vv zz]) (aC 3 kX.nd (af bx G.g31 rfl (aa (ac 0) (aa (ac 1) (aa ae ad))))) ?_ (fun zz=>?_)
 rfl
 refine ap (inj:=fun (_:Unit) (w:Unit)=>[vv yH,vv y9,vv yN,vv zz]) (au (ft_w (bv (eL bx (ac 2) ae) (bG (px (ac 3) ae)))) ?_ ?_ ?_) (fun _ w=>?_)
 rfl
 ·refine ar (ah (ag bx.K (aF (aa ae (aa ae (aa ae (aa ae (aa ae (aa (af bx G.g31 rfl (aa (ac 0) (aa (aq bx.K (ac 1) ae) (aa ae ad)))) ad))))))) (af bx G.g31 rfl (aa (ac 0) (aa (aq bx.K (ac 1) ae) (aa ae ad)))))) ?_
  rfl
 ·exact ak ⟨(),rfl⟩
 refine ap (inj:=fun (_:Unit) (w1:Unit)=>[vv yH,vv y9,vv yN,vv zz]) (au (eL bx (ac 3) ae) ?_ ?_ ?_) (fun _ w1=>?_)
 rfl
 ·refine ar (ah (aW bx.K (az (aa (af bx G.g32 rfl (aa (ac 0) (aa (aq bx.K (ac 1) ae) (aa (eO (ac 2) ae) ad)))) ad)) ae)) ?_
  rfl
 ·exact ak ⟨(),rfl⟩
 refine ar (ah (fe_N (bU bx rfl T.b_tuple (FAL.out (aa (fe_C (a9 (N:=["_law_k","_law_script","_law_size","_law_at"]) (own:=1) (cap:=[0,2,1]) bx (BlkOk.of (by kernel_rfl)) (f9 (bB rfl T.b_range (FAL.out (aa ae ad)))) (bb (by decide)) (fun _ _ _ _ _=>ax 0 (show List.Nodup (α:=Str) ["_law_k","_law_script","_law_size","_law_at"] by decide +kernel)) (fun _ _ _ _ _=>(af (ay bx) G.g32 rfl (aa (ac 1) (aa (aq (ay bx).K (aq (ay bx).K (aW (ay bx).K ae (ac 3)) ae) (aW (ay bx).K ae (ac 0))) (aa (eO (ac 2) ae) ad))))))) ad))))) ?_
 rfl
theorem lU:OkD P w K mg base C k "_law_picture" eY ["_law_script","_law_at","_law_most"] (a3 (de t)):=ok3 gF fun yH y9 zK _ _ _ _ _ _ _ _ bx _ _=>by
 show FL _ _ [vv yH,vv y9,vv zK,nn] _ _ _
 refine aj (S':=fun yN=>[vv yH,vv y9,vv zK,vv yN]) (aC 3 gF.nd (fe_N (pC bx rfl T.b_max (FAL.out (aa ae (aa (eO (ac 2) (ag bx.K (aF (aa ae (aa ae (aa ae (aa ae (aa ae (aa ae (aa ae ad)))))))) (af bx G.g31 rfl (aa (ac 0) (aa (ac 1) (aa ae ad)))))) ad)))))) ?_ (fun yN=>?_)
 rfl
 refine ar (ah (az (aa (ac 3) (aa (af bx G.g32 rfl (aa (ac 0) (aa (aq bx.K (ac 1) ae) (aa (ac 3) ad)))) ad)))) ?_
 rfl
theorem lV:OkD P w K mg base C k "_law_rows_of" eZ ["_law_size","_law_tree_here"] (a2 (cv t)):=ok2 bZ fun yN yP _ _ _ _ _ _ _ _ bx hpo _=>by
 show FL _ _ [vv yN,vv yP,nn,nn,nn,nn] _ _ _
 refine ap (inj:=fun (_:Unit) (w:Unit)=>[vv yN,vv yP,nn,nn,nn,nn]) (au (eL bx (ac 0) ae) ?_ ?_ ?_) (fun _ w=>?_)
 rfl
 ·refine aw (ah (aF (aa (aF (aa (ac 1) ad)) ad))) ?_
  rfl
 ·exact ak ⟨(),rfl⟩
 refine aj (S':=fun y3=>[vv yN,vv yP,vv y3,nn,nn,nn]) (aC 2 bZ.nd (sO (aI (ao bx rfl T.b_isinstance bp (ac 1) (aM rfl T.b_tuple (by decide +kernel) rfl))) (ac 1) (aW bx.K (az (aa (ac 1) ad)) ae))) ?_ (fun y3=>?_)
 rfl
 refine aj (S':=fun yM=>[vv yN,vv yP,vv y3,vv yM,nn,nn]) (aC 3 bZ.nd (fe_C (a9 (N:=["_law_part","_law_size"]) (own:=1) (cap:=[0]) bx (BlkOk.of (by kernel_rfl)) (aU bx.K (ac 2)) (bb (by decide)) (fun _ _ _ _ _=>ax 0 (show List.Nodup (α:=Str) ["_law_part","_law_size"] by decide +kernel)) (fun _ _ _ _ _=>(af (ay bx) G.g54 rfl (aa (eO (ac 1) ae) (aa (ac 0) ad)))))) (hs:=by kernel_rfl)) ?_ (fun yM=>?_)
 rfl
 refine aV (S':=[vv yN,vv yP,vv y3,vv yM,ow [],nn]) (fs_O (dm 4 bZ.nd (FAL.out ad))) ?_ ?_
 rfl
 refine ap (inj:=fun (s:List D) (w1:Option Sl)=>[vv yN,vv yP,vv y3,vv yM,ow s,w1]) (bD 5 (B:=fun (s:List D) (w1:Option Sl) x1=>[vv yN,vv yP,vv y3,vv yM,ow s,vv x1]) nn hpo rfl (aU bx.K (az (aa ae (aa ae ad)))) ?_ (ax 5 bZ.nd) rfl (fun _ _ _=>rfl) (fun s w1 x1=>?_)) (fun y6 w2=>?_)
 rfl
 ·refine aj (S':=fun zd=>[vv yN,vv yP,vv y3,vv yM,ow zd,vv x1]) (fs_X (bC 4 bx.K (FAL.out (aa (fe_C (a9 (N:=["_law_k","_law_some","_law_upper"]) (own:=1) (cap:=[3,5]) bx (BlkOk.of (by kernel_rfl)) (f9 (bB rfl T.b_range (FAL.out (aa (fe_N (bh bx rfl T.b_len (FAL.out (aa (ag bx.K (ac 3) (ac 5)) ad)))) ad)))) (bb (by decide)) (fun _ _ _ _ _=>ax 0 (show List.Nodup (α:=Str) ["_law_k","_law_some","_law_upper"] by decide +kernel)) (fun _ _ _ _ _=>(aq (ay bx).K (ag (ay bx).K (ag (ay bx).K (ac 1) (ac 2)) (ac 0)) (ag (ay bx).K (ag (ay bx).K (ac 1) (aq (ay bx).K (ac 2) ae)) (ac 0)))))) ad)))) ?_ (fun zd=>?_)
  rfl
  exact ak ⟨vv x1,rfl⟩
 refine dW 4 (S':=[vv yN,vv yP,vv y3,vv yM,vv (.lst y6),w2]) rfl rfl ?_
 refine aw (ah (ac 4)) ?_
 rfl
theorem rR:OkD P w K mg base C k "_law_rows" jL ["_law_picture_here"] (a1 (gr t)):=ok1 rJ fun yJ _ _ _ _ _ _ _ _ bx _ _=>by
 show FL _ _ [vv yJ] _ _ _
 refine ar (ah (fe_N (bU bx rfl T.b_tuple (FAL.out (aa (fe_C (a9 (N:=["_law_row"]) (own:=1) (cap:=[]) bx (BlkOk.of (by kernel_rfl)) (aU bx.K (af bx G.g54 rfl (aa (ag bx.K (ac 0) ae) (aa (ag bx.K (ac 0) ae) ad)))) (bb (by decide)) (fun _ _ _ _ _=>ax 0 (show List.Nodup (α:=Str) ["_law_row"] by decide +kernel)) (fun _ _ _ _ _=>(fe_N (bU (ay bx) rfl T.b_tuple (FAL.out (aa (ac 0) ad))))))) ad))))) ?_
 rfl
theorem oV:OkD P w K mg base C k "_law_least" il ["_law_rows_here"] (a1 (dD t)):=ok1 bS fun yI _ _ _ _ _ _ _ _ bx hpo _=>by
 show FL _ _ [vv yI,nn,nn,nn,nn,nn,nn] _ _ _
 refine aV (S':=[vv yI,ow [],nn,nn,nn,nn,nn]) (fs_O (dm 1 bS.nd (FAL.out ad))) ?_ ?_
 rfl
 refine ap (inj:=fun (s:List D) (w:Option Sl)=>[vv yI,ow s,w,nn,nn,nn,nn]) (bD 2 (B:=fun (s:List D) (w:Option Sl) x=>[vv yI,ow s,vv x,nn,nn,nn,nn]) nn hpo rfl (aU bx.K (ac 0)) ?_ (ax 2 bS.nd) rfl (fun _ _ _=>rfl) (fun s w x=>?_)) (fun yX w1=>?_)
 rfl
 ·refine aj (S':=fun zA=>[vv yI,ow zA,vv x,nn,nn,nn,nn]) (fs_X (bC 1 bx.K (FAL.out (aa (ac 2) ad)))) ?_ (fun zA=>?_)
  rfl
  exact ak ⟨vv x,rfl⟩
 refine dW 1 (S':=[vv yI,vv (.lst yX),w1,nn,nn,nn,nn]) rfl rfl ?_
 refine ap (inj:=fun (_:Unit) (w2:Unit)=>[vv yI,vv (.lst yX),w1,nn,nn,nn,nn]) (au (eL bx (fe_N (q0 bx rfl T.b_len rfl T.b_set (FAL.out (aa (ac 1) ad)))) ae) ?_ ?_ ?_) (fun _ w2=>?_)
 rfl
 ·refine ar (ah (ag bx.K (ac 1) ae)) ?_
  rfl
 ·exact ak ⟨(),rfl⟩
 refine aj (S':=fun y8=>[vv yI,vv (.lst yX),w1,vv y8,nn,nn,nn]) (aC 3 bS.nd (cS (fe_N (bh bx rfl T.b_len (FAL.out (aa (ac 0) ad)))) ae)) ?_ (fun y8=>?_)
 rfl
 refine aV (S':=[vv yI,vv (.lst yX),w1,vv y8,ow [],nn,nn]) (fs_O (dm 4 bS.nd (FAL.out ad))) ?_ ?_
 rfl
 refine ap (inj:=fun (s1:List D) (w3:Option Sl×Option Sl)=>[vv yI,vv (.lst yX),w1,vv y8,ow s1,w3.1,w3.2]) (bD 5 (B:=fun (s1:List D) (w3:Option Sl×Option Sl) x3=>[vv yI,vv (.lst yX),w1,vv y8,ow s1,vv x3,w3.2]) (nn,nn) hpo rfl (aU bx.K (az (aa ae (aa (ac 3) ad)))) ?_ (ax 5 bS.nd) rfl (fun _ _ _=>rfl) (fun s1 w3 x3=>?_)) (fun zv w6=>?_)
 rfl
 ·refine ap (inj:=fun (s2:List D) (w4:Option Sl)=>[vv yI,vv (.lst yX),w1,vv y8,ow s2,vv x3,w4]) (bD 6 (B:=fun (s2:List D) (w4:Option Sl) x4=>[vv yI,vv (.lst yX),w1,vv y8,ow s2,vv x3,vv x4]) w3.2 hpo rfl (aU bx.K (az (aa ae (aa (ac 3) ad)))) ?_ (ax 6 bS.nd) rfl (fun _ _ _=>rfl) (fun s2 w4 x4=>?_)) (fun zN w5=>?_)
  rfl
  ·refine aj (S':=fun y3=>[vv yI,vv (.lst yX),w1,vv y8,ow y3,vv x3,vv x4]) (fs_A (kJ 4 (FAL.out (aa (af bx G.g56 rfl (aa (fe_C (a9 (N:=["_law_row","_law_left","_law_half"]) (own:=1) (cap:=[6,3]) bx (BlkOk.of (by kernel_rfl)) (aU bx.K (fv bx.K (ac 0) (fW (ac 5)) (fW (aq bx.K (ac 5) (ac 3))))) (bb (by decide)) (fun _ _ _ _ _=>ax 0 (show List.Nodup (α:=Str) ["_law_row","_law_left","_law_half"] by decide +kernel)) (fun _ _ _ _ _=>(fv (ay bx).K (ac 0) (fW (ac 1)) (fW (aq (ay bx).K (ac 1) (ac 2))))))) ad)) ad)))) ?_ (fun y3=>?_)
   rfl
   exact ak ⟨vv x4,rfl⟩
  exact ak ⟨(vv x3,w5),rfl⟩
 refine dW 4 (S':=[vv yI,vv (.lst yX),w1,vv y8,vv (.lst zv),w6.1,w6.2]) rfl rfl ?_
 refine ar (ah (fe_N (bU bx rfl T.b_tuple (FAL.out (aa (ac 4) ad))))) ?_
 rfl
theorem vZ:OkD P w K mg base C k "_law_of" oP ["_law_rows_here"] (a1 (lJ t)):=ok1 vX fun yI _ _ _ _ _ _ _ _ bx _ _=>by
 show FL _ _ [vv yI] _ _ _
 refine ar (ah (az (aa (tU (qY bx (aF (aa ae (aa ae (aa ae (aa ae ad))))) (FAL.out (aa (fe_N (bh bx rfl T.b_len (FAL.out (aa (ac 0) ad)))) ad)))) (aa (af bx G.g56 rfl (aa (ac 0) ad)) ad)))) ?_
 rfl
theorem nt:OkD P w K mg base C k "_law_places" fI ["_law_thing"] (a1 (cU t)):=ok1 e6 fun yK _ _ _ _ _ _ _ _ bx hpo _=>by
 show FL _ _ [vv yK,nn,nn] _ _ _
 refine aV (S':=[vv yK,ow ([(.tup [])]),nn]) (fs_O (dm 1 e6.nd (FAL.out (aa (az ad) ad)))) ?_ ?_
 rfl
 refine ap (inj:=fun (zx:List D) (w2:Option Sl)=>[vv yK,ow zx,w2]) (au (aI (ao bx rfl T.b_isinstance bp (ac 0) (aM rfl T.b_tuple (by decide +kernel) rfl))) ?_ ?_ ?_) (fun zx w2=>?_)
 rfl
 ·refine ap (inj:=fun (s:List D) (w:Option Sl)=>[vv yK,ow s,w]) (bD 2 (B:=fun (s:List D) (w:Option Sl) x1=>[vv yK,ow s,vv x1]) nn hpo rfl (f9 (bB rfl T.b_range (FAL.out (aa (fe_N (bh bx rfl T.b_len (FAL.out (aa (ac 0) ad)))) ad)))) ?_ (ax 2 e6.nd) rfl (fun _ _ _=>rfl) (fun s w x1=>?_)) (fun y6 w1=>?_)
  rfl
  ·refine aj (S':=fun zd=>[vv yK,ow zd,vv x1]) (fs_X (bC 1 bx.K (FAL.out (aa (fe_C (a9 (N:=["_law_place","_law_k"]) (own:=1) (cap:=[2]) bx (BlkOk.of (by kernel_rfl)) (aU bx.K (af bx G.g34 rfl (aa (ag bx.K (ac 0) (ac 2)) ad))) (bb (by decide)) (fun _ _ _ _ _=>ax 0 (show List.Nodup (α:=Str) ["_law_place","_law_k"] by decide +kernel)) (fun _ _ _ _ _=>(aq (ay bx).K (az (aa (ac 1) ad)) (ac 0))))) ad)))) ?_ (fun zd=>?_)
   rfl
   exact ak ⟨vv x1,rfl⟩
  exact ak ⟨w1,rfl⟩
 ·exact ak ⟨nn,rfl⟩
 refine dW 1 (S':=[vv yK,vv (.lst zx),w2]) rfl rfl ?_
 refine aw (ah (ac 1)) ?_
 rfl
theorem ub:OkD P w K mg base C k "_law_put" lN ["_law_thing","_law_place","_law_new"] (a3 (gu t)):=ok3 na fun yK yO zf _ _ _ _ _ _ _ _ bx _ _=>by
 show FL _ _ [vv yK,vv yO,vv zf,nn] _ _ _
 refine ap (inj:=fun (_:Unit) (w:Unit)=>[vv yK,vv yO,vv zf,nn]) (au (eL bx (ac 1) (az ad)) ?_ ?_ ?_) (fun _ w=>?_)
 rfl
 ·refine aw (ah (ac 2)) ?_
  rfl
 ·exact ak ⟨(),rfl⟩
 refine aj (S':=fun yY=>[vv yK,vv yO,vv zf,vv yY]) (aC 3 na.nd (ag bx.K (ac 1) ae)) ?_ (fun yY=>?_)
 rfl
 refine ar (ah (aq bx.K (aq bx.K (fv bx.K (ac 0) mq (fW (ac 3))) (az (aa (af bx G.g35 rfl (aa (ag bx.K (ac 0) (ac 3)) (aa (fv bx.K (ac 1) (fW ae) mq) (aa (ac 2) ad)))) ad))) (fv bx.K (ac 0) (fW (aq bx.K (ac 3) ae)) mq))) ?_
 rfl
theorem oW:OkD P w K mg base C k "_law_there" im ["_law_thing","_law_place"] (a2 (fm t)):=ok2 fJ fun yK yO _ _ _ _ _ _ _ _ bx hpo _=>by
 show FL _ _ [vv yK,vv yO,nn] _ _ _
 refine ap (inj:=fun (s:D) (w:Option Sl)=>[vv s,vv yO,w]) (bD 2 (B:=fun (s:D) (w:Option Sl) x=>[vv s,vv yO,vv x]) nn hpo rfl (aU bx.K (ac 1)) ?_ (ax 2 fJ.nd) rfl (fun _ _ _=>rfl) (fun s w x=>?_)) (fun zO w1=>?_)
 rfl
 ·refine aj (S':=fun zB=>[vv zB,vv yO,vv x]) (aC 0 fJ.nd (ag bx.K (ac 0) (ac 2))) ?_ (fun zB=>?_)
  rfl
  exact ak ⟨vv x,rfl⟩
 refine aw (ah (ac 0)) ?_
 rfl
theorem gH:OkD P w K mg base C k "_law_spoilt_thing" cc ["_law_script","_law_at","_law_thing"] (a3 (bF t)):=ok3 ba fun yH y9 yK _ _ _ _ _ _ _ _ bx _ _=>by
 show FL _ _ [vv yH,vv y9,vv yK,nn,nn,nn,nn] _ _ _
 refine aj (S':=fun yZ=>[vv yH,vv y9,vv yK,vv yZ,nn,nn,nn]) (aC 3 ba.nd (af bx G.g34 rfl (aa (ac 2) ad))) ?_ (fun yZ=>?_)
 rfl
 refine aj (S':=fun yO=>[vv yH,vv y9,vv yK,vv yZ,vv yO,nn,nn]) (aC 4 ba.nd (ag bx.K (ac 3) (af bx G.g31 rfl (aa (ac 0) (aa (ac 1) (aa (fe_N (bh bx rfl T.b_len (FAL.out (aa (ac 3) ad)))) ad)))))) ?_ (fun yO=>?_)
 rfl
 refine aj (S':=fun ze=>[vv yH,vv y9,vv yK,vv yZ,vv yO,vv ze,nn]) (aC 5 ba.nd (af bx G.g36 rfl (aa (ac 2) (aa (ac 4) ad)))) ?_ (fun ze=>?_)
 rfl
 refine aV (S':=[vv yH,vv y9,vv yK,vv yZ,vv yO,vv ze,ow ([(.int (-1)),(.int 0),(.int 3),(.int 4),(.int 9),(.int 10),(.bl true),.non,(.str "1"),(.tup []),(.tup [(.int 1),(.int 2),(.int 3)]),(.tup [(.int 1),(.int 1),(.int 1),(.int 1)]),(.tup [(.int 1),(.int 2),(.int 3),(.int 4),(.int 5)])])]) (fs_O (dm 6 ba.nd (FAL.out (aa (xz ae) (aa ae (aa ae (aa ae (aa ae (aa ae (aa cP (aa dQ (aa aP (aa (az ad) (aa (az (aa ae (aa ae (aa ae ad)))) (aa (az (aa ae (aa ae (aa ae (aa ae ad))))) (aa (az (aa ae (aa ae (aa ae (aa ae (aa ae ad)))))) ad)))))))))))))))) ?_ ?_
 rfl
 refine aj (S':=fun yM=>[vv yH,vv y9,vv yK,vv yZ,vv yO,vv ze,ow yM]) (fs_X (bC 6 bx.K (FAL.out (aa (aF (aa (aF (aa ae (aa ae (aa ae (aa ae ad))))) (aa (aW bx.K (az (aa (ac 5) ad)) ae) ad))) ad)))) ?_ (fun yM=>?_)
 rfl
 refine ar (ah (af bx G.g35 rfl (aa (ac 2) (aa (ac 4) (aa (tJ 6 bx.K (af bx G.g31 rfl (aa (ac 0) (aa (aq bx.K (ac 1) ae) (aa ae ad))))) ad))))) ?_
 rfl
theorem iT:OkD P w K mg base C k "_law_is_picture" cZ ["_law_thing"] (a1 (bX t)):=ok1 iQ fun yK _ _ _ _ _ _ _ _ bx _ _=>by
 show FL _ _ [vv yK] _ _ _
 refine ap (inj:=fun (_:Unit) (w:Unit)=>[vv yK]) (au (ft_w (bv (aQ (aI (ao bx rfl T.b_isinstance bp (ac 0) (aM rfl T.b_tuple (by decide +kernel) rfl)))) (bv (b4 bx (fe_N (bh bx rfl T.b_len (FAL.out (aa (ac 0) ad)))) ae) (bv (aQ (aI (ao bx rfl T.b_isinstance iZ (ag bx.K (ac 0) ae) (aM rfl T.b_int (by decide +kernel) rfl)))) (bG (aI (ao bx rfl T.b_isinstance fX (ag bx.K (ac 0) ae) (aM rfl T.b_bool (by decide +kernel) rfl)))))))) ?_ ?_ ?_) (fun _ w=>?_)
 rfl
 ·refine aw (ah cP) ?_
  rfl
 ·exact ak ⟨(),rfl⟩
 refine ar (ah (cQ (iY ae (ag bx.K (ac 0) ae) ae) (di (af bx G.g39 rfl (aa (ag bx.K (ac 0) ae) (aa (ag bx.K (ac 0) ae) ad)))))) ?_
 rfl
theorem lW:OkD P w K mg base C k "_law_is_tree" e7 ["_law_thing","_law_size"] (a2 (cw t)):=ok2 lO fun yK yN _ _ _ _ _ _ _ _ bx _ _=>by
 show FL _ _ [vv yK,vv yN] _ _ _
 refine ap (inj:=fun (_:Unit) (w:Unit)=>[vv yK,vv yN]) (au (ft_w (oi (aI (ao bx rfl T.b_isinstance iZ (ac 0) (aM rfl T.b_int (by decide +kernel) rfl))) (lw (aQ (aI (ao bx rfl T.b_isinstance fX (ac 0) (aM rfl T.b_bool (by decide +kernel) rfl))))))) ?_ ?_ ?_) (fun _ w=>?_)
 rfl
 ·refine ar (ah (iY ae (ac 0) ae)) ?_
  rfl
 ·exact ak ⟨(),rfl⟩
 refine ap (inj:=fun (_:Unit) (w1:Unit)=>[vv yK,vv yN]) (au (ft_w (bv (aQ (aI (ao bx rfl T.b_isinstance bp (ac 0) (aM rfl T.b_tuple (by decide +kernel) rfl)))) (bv (b4 bx (fe_N (bh bx rfl T.b_len (FAL.out (aa (ac 0) ad)))) ae) (bG (eL bx (ac 1) ae))))) ?_ ?_ ?_) (fun _ w1=>?_)
 rfl
 ·refine aw (ah cP) ?_
  rfl
 ·exact ak ⟨(),rfl⟩
 refine ar (ah (tm bx (fe_C (g8 (N:=["_law_part","_law_size"]) (own:=1) (cap:=[1]) bx (BlkOk.of (by kernel_rfl)) (aU bx.K (ac 0)) (bb (by decide)) (fun _ _ _ _ _=>ax 0 (show List.Nodup (α:=Str) ["_law_part","_law_size"] by decide +kernel)) (fun _ _ _ _ _=>(aQ (aI (af (ay bx) G.g39 rfl (aa (ac 0) (aa (eO (ac 1) ae) ad)))))) (fun _ _ _ _ _=>(ac 0)))) (aF ad))) ?_
 rfl
theorem rS:OkD P w K mg base C k "_law_word" jM ["_law_kept"] (a1 (dE t)):=ok1 io fun y4 _ _ _ _ _ _ _ _ bx _ _=>by
 show FL _ _ [vv y4,nn,nn] _ _ _
 refine aj (S':=fun zG=>[vv y4,ow zG,nn]) (fs_O (dm 1 io.nd (FAL.out (aa (ao bx rfl T.b_isinstance T.i_BadBox (ac 0) (bo rfl T.c_BadBox rfl)) (aa (ao bx rfl T.b_isinstance T.i_NoBlocks (ac 0) (bo rfl T.c_NoBlocks rfl)) (aa (ao bx rfl T.b_isinstance T.i_NoChange (ac 0) (bo rfl T.c_NoChange rfl)) ad)))))) ?_ (fun zG=>?_)
 rfl
 refine aj (S':=fun zC=>[vv y4,ow zC,nn]) (fs_A (kJ 1 (FAL.out (aa (ao bx rfl T.b_isinstance T.i_NoNumber (ac 0) (bo rfl T.c_NoNumber rfl)) ad)))) ?_ (fun zC=>?_)
 rfl
 refine aj (S':=fun zE=>[vv y4,ow zE,nn]) (fs_X (bC 1 bx.K (FAL.out (aa (aF (aa (ao bx rfl T.b_isinstance T.i_NoPicture (ac 0) (bo rfl T.c_NoPicture rfl)) (aa (ao bx rfl T.b_isinstance T.i_NoRule (ac 0) (bo rfl T.c_NoRule rfl)) (aa (ao bx rfl T.b_isinstance T.i_NoSpot (ac 0) (bo rfl T.c_NoSpot rfl)) ad)))) ad)))) ?_ (fun zE=>?_)
 rfl
 refine aj (S':=fun zi=>[vv y4,ow zi,nn]) (fs_X (bC 1 bx.K (FAL.out (aa (aF (aa (ao bx rfl T.b_isinstance T.i_NoText (ac 0) (bo rfl T.c_NoText rfl)) (aa (ao bx rfl T.b_isinstance T.i_NothingDone (ac 0) (bo rfl T.c_NothingDone rfl)) (aa (ao bx rfl T.b_isinstance T.i_Unlike (ac 0) (bo rfl T.c_Unlike rfl)) ad)))) ad)))) ?_ (fun zi=>?_)
 rfl
 refine dW 1 (S':=[vv y4,vv (.lst zi),nn]) rfl rfl ?_
 refine ap (inj:=fun (_:Unit) (w:Unit)=>[vv y4,vv (.lst zi),nn]) (au (ft_w (bv (b4 bx (tU (tH bx (ac 1) (FAL.out (aa cP ad)))) ae) (bG (aQ (aI (ao bx rfl T.b_isinstance T.i_ValueError (ac 0) (aM rfl T.b_ValueError (by decide +kernel) rfl))))))) ?_ ?_ ?_) (fun _ w=>?_)
 rfl
 ·refine aw (ah aP) ?_
  rfl
 ·exact ak ⟨(),rfl⟩
 refine aV (S':=[vv y4,vv (.lst zi),vv (.lst [(.str "bad box"),(.str "no blocks"),(.str "no change"),(.str "no number"),(.str "no picture"),(.str "no rule"),(.str "no spot"),(.str "no text")])]) (aC 2 io.nd (aF (aa aP (aa aP (aa aP (aa aP (aa aP (aa aP (aa aP (aa aP ad)))))))))) ?_ ?_
 rfl
 refine ar (ah (ag bx.K (aq bx.K (ac 2) (aF (aa aP (aa aP ad)))) (tU (qQ bx (ac 1) (FAL.out (aa cP ad)))))) ?_
 rfl
theorem rT:OkD P w K mg base C k "_law_do" jN ["_law_what","_law_one","_law_other","_law_last"] (a4 (cx t)):=ok4 cM fun zg yS zh zk _ _ _ _ _ _ _ _ bx _ _=>by
 show FL _ _ [vv zg,vv yS,vv zh,vv zk,nn,nn,nn] _ _ _
 refine aV (S':=[vv zg,vv yS,vv zh,vv zk,vv .non,nn,nn]) (aC 4 cM.nd dQ) ?_ ?_
 rfl
 refine aV (S':=[vv zg,vv yS,vv zh,vv zk,vv .non,vv .non,nn]) (aC 5 cM.nd dQ) ?_ ?_
 rfl
 refine xE 6 4 (B:=fun k=>[nn,nn,nn,nn,vv (.exc k),nn,nn]) (vH 6 4 (inj:=fun (zp:D) (w:Unit)=>[vv zg,vv yS,vv zh,vv zk,vv .non,vv zp,nn]) bx (by decide) rfl rfl rfl cM.nd rfl T.c_FourError T.takes (fun pn xe H0 Z0 E bx=>?_)) (fun _=>rfl) (fun zp w=>?_) (fun k=>?_)
 ·refine ju (au (eL bx (ac 0) ae) ?_ ?_ ?_)
  rfl
  ·refine aj (S':=fun zF=>[vv zg,vv yS,vv zh,vv zk,vv .non,vv zF,nn]) (aC 5 cM.nd (af bx G.g189 rfl (aa (ac 1) ad))) ?_ (fun zF=>?_)
   rfl
   exact ak ⟨(),rfl⟩
  ·refine aj (S':=fun zw=>[vv zg,vv yS,vv zh,vv zk,vv .non,vv zw,nn]) (aC 5 cM.nd (sO (eL bx (ac 0) ae) (af bx G.g196 rfl (aa (ac 1) (aa (ac 2) ad))) (af bx G.g198 rfl (aa (ac 1) (aa (ac 2) (aa (ac 3) ad)))))) ?_ (fun zw=>?_)
   rfl
   exact ak ⟨(),rfl⟩
 ·refine ap (inj:=fun (_:Unit) (w1:Unit)=>[vv zg,vv yS,vv zh,vv zk,vv .non,vv zp,nn]) (au (wz (ac 4) dQ) ?_ ?_ ?_) (fun _ w1=>?_)
  rfl
  ·refine aw (ah (ac 5)) ?_
   rfl
  ·exact ak ⟨(),rfl⟩
  refine ar (ah (af bx G.g40 rfl (aa (ac 4) ad))) ?_
  rfl
 ·refine ap (inj:=fun (_:Unit) (w2:Unit)=>[nn,nn,nn,nn,vv (.exc k),nn,nn]) (au (wz (ac 4) dQ) ?_ ?_ ?_) (fun _ w2=>?_)
  rfl
  ·refine ar (ah (ac 5)) ?_
   rfl
  ·exact ak ⟨(),rfl⟩
  refine ar (ah (af bx G.g40 rfl (aa (ac 4) ad))) ?_
  rfl
theorem nu:OkD P w K mg base C k "_law_blocks" fK ["_law_tree_here","_law_left","_law_top","_law_side"] (a4 (cW t)):=ok4 e8 fun yP yQ yT yL _ _ _ _ _ _ _ _ bx hpo _=>by
 show FL _ _ [vv yP,vv yQ,vv yT,vv yL,nn,nn,nn] _ _ _
 refine ap (inj:=fun (_:Unit) (w:Unit)=>[vv yP,vv yQ,vv yT,vv yL,nn,nn,nn]) (au (aQ (aI (ao bx rfl T.b_isinstance bp (ac 0) (aM rfl T.b_tuple (by decide +kernel) rfl)))) ?_ ?_ ?_) (fun _ w=>?_)
 rfl
 ·refine aw (ah (aF (aa (az (aa (ac 1) (aa (ac 2) (aa (ac 3) (aa (ac 0) ad))))) ad))) ?_
  rfl
 ·exact ak ⟨(),rfl⟩
 refine aV (S':=[vv yP,vv yQ,vv yT,vv yL,ow [],nn,nn]) (fs_O (dm 4 e8.nd (FAL.out ad))) ?_ ?_
 rfl
 refine ap (inj:=fun (s:List D) (w1:Option Sl×Option Sl)=>[vv yP,vv yQ,vv yT,vv yL,ow s,w1.1,w1.2]) (jv 5 6 (B:=fun (s:List D) (w1:Option Sl×Option Sl) x x1=>[vv yP,vv yQ,vv yT,vv yL,ow s,vv x,vv x1]) (nn,nn) hpo rfl (dX bx rfl T.b_enumerate (ac 0)) ?_ (lH 5 6 rfl e8.nd) rfl (fun _ _ _ _=>rfl) (fun s w1 x x1=>?_)) (fun y6 w2=>?_)
 rfl
 ·refine aj (S':=fun zd=>[vv yP,vv yQ,vv yT,vv yL,ow zd,vv x,vv x1]) (fs_X (bC 4 bx.K (FAL.out (aa (af bx G.g200 rfl (aa (ac 6) (aa (aq bx.K (ac 1) (aW bx.K (dl (ac 5) ae) (cS (ac 3) ae))) (aa (aq bx.K (ac 2) (aW bx.K (cS (ac 5) ae) (cS (ac 3) ae))) (aa (cS (ac 3) ae) ad))))) ad)))) ?_ (fun zd=>?_)
  rfl
  exact ak ⟨(vv x,vv x1),rfl⟩
 refine dW 4 (S':=[vv yP,vv yQ,vv yT,vv yL,vv (.lst y6),w2.1,w2.2]) rfl rfl ?_
 refine aw (ah (ac 4)) ?_
 rfl
theorem uc:OkD P w K mg base C k "_law_due" lP ["_law_size","_law_some"] (a2 (i5 t)):=ok2 c7 fun yN yM _ _ _ _ _ _ _ _ bx hpo _=>by
 show FL _ _ [vv yN,vv yM,nn,nn,nn,nn,nn,nn,nn,nn,nn] _ _ _
 refine aj (S':=fun yL=>[vv yN,vv yM,vv yL,nn,nn,nn,nn,nn,nn,nn,nn]) (aC 2 c7.nd (ag bx.K (aF (aa ae (aa ae (aa ae (aa ae ad))))) (ac 0))) ?_ (fun yL=>?_)
 rfl
 refine aV (S':=[vv yN,vv yM,vv yL,dt [],nn,nn,nn,nn,nn,nn,nn]) (kP 3 c7.nd) ?_ ?_
 rfl
 refine ap (inj:=fun (s:List (List Int×D)) (w:Option Sl×Option Sl×Option Sl×Option Sl×Option Sl×Option Sl×Option Sl)=>[vv yN,vv yM,vv yL,dt s,w.1,w.2.1,w.2.2.1,w.2.2.2.1,w.2.2.2.2.1,w.2.2.2.2.2.1,w.2.2.2.2.2.2]) (bD 4 (B:=fun (s:List (List Int×D)) (w:Option Sl×Option Sl×Option Sl×Option Sl×Option Sl×Option Sl×Option Sl) x=>[vv yN,vv yM,vv yL,dt s,vv x,w.2.1,w.2.2.1,w.2.2.2.1,w.2.2.2.2.1,w.2.2.2.2.2.1,w.2.2.2.2.2.2]) (nn,nn,nn,nn,nn,nn,nn) hpo rfl (aU bx.K (ac 1)) ?_ (ax 4 c7.nd) rfl (fun _ _ _=>rfl) (fun s w x=>?_)) (fun zj w8=>?_)
 rfl
 ·refine ap (inj:=fun (_:Unit) (w1:Unit)=>[vv yN,vv yM,vv yL,dt s,vv x,w.2.1,w.2.2.1,w.2.2.2.1,w.2.2.2.2.1,w.2.2.2.2.2.1,w.2.2.2.2.2.2]) (au (ft_w (bv (aQ (aI (ao bx rfl T.b_isinstance bp (ac 4) (aM rfl T.b_tuple (by decide +kernel) rfl)))) (bG (b4 bx (fe_N (bh bx rfl T.b_len (FAL.out (aa (ac 4) ad)))) ae)))) ?_ ?_ ?_) (fun _ w1=>?_)
  rfl
  ·refine aw (ah aP) ?_
   rfl
  ·exact ak ⟨(),rfl⟩
  refine ap (inj:=fun (_:Unit) (w2:Unit)=>[vv yN,vv yM,vv yL,dt s,vv x,w.2.1,w.2.2.1,w.2.2.2.1,w.2.2.2.2.1,w.2.2.2.2.2.1,w.2.2.2.2.2.2]) (au (b4 bx (fe_C (g8 (N:=["_law_one"]) (own:=1) (cap:=[]) bx (BlkOk.of (by kernel_rfl)) (aU bx.K (ac 4)) (bb (by decide)) (fun _ _ _ _ _=>ax 0 (show List.Nodup (α:=Str) ["_law_one"] by decide +kernel)) (fun _ _ _ _ _=>(ft_w (bv (aQ (aI (ao (ay bx) rfl T.b_isinstance iZ (ac 0) (aM rfl T.b_int (by decide +kernel) rfl)))) (bG (aI (ao (ay bx) rfl T.b_isinstance fX (ac 0) (aM rfl T.b_bool (by decide +kernel) rfl))))))) (fun _ _ _ _ _=>(ac 0)))) (aF ad)) ?_ ?_ ?_) (fun _ w2=>?_)
  rfl
  ·refine aw (ah aP) ?_
   rfl
  ·exact ak ⟨(),rfl⟩
  refine tX 5 6 7 8 (S':=fun yQ yT yU yV=>[vv yN,vv yM,vv yL,dt s,vv x,vv yQ,vv yT,vv yU,vv yV,w.2.2.2.2.2.1,w.2.2.2.2.2.2]) bx c7.nd (ac 4) ?_ (fun _ _ _ _=>rfl) (fun yQ yT yU yV=>?_)
  rfl
  refine ap (inj:=fun (_:Unit) (w3:Unit)=>[vv yN,vv yM,vv yL,dt s,vv x,vv yQ,vv yT,vv yU,vv yV,w.2.2.2.2.2.1,w.2.2.2.2.2.2]) (au (ft_w (bv (kM bx (ac 7) (az (aa ae (aa ae (aa ae (aa ae ad)))))) (bv (aQ (vt ae (ac 8) ae)) (bv (b4 bx (dl (ac 5) (ac 7)) ae) (bG (b4 bx (dl (ac 6) (ac 7)) ae)))))) ?_ ?_ ?_) (fun _ w3=>?_)
  rfl
  ·refine aw (ah aP) ?_
   rfl
  ·exact ak ⟨(),rfl⟩
  refine ap (inj:=fun (_:Unit) (w4:Unit)=>[vv yN,vv yM,vv yL,dt s,vv x,vv yQ,vv yT,vv yU,vv yV,w.2.2.2.2.2.1,w.2.2.2.2.2.2]) (au (ft_w (bv (px (ac 5) ae) (bv (px (ac 6) ae) (bv (pz (aq bx.K (ac 5) (ac 7)) (ac 2)) (bG (pz (aq bx.K (ac 6) (ac 7)) (ac 2))))))) ?_ ?_ ?_) (fun _ w4=>?_)
  rfl
  ·refine aw (ah aP) ?_
   rfl
  ·exact ak ⟨(),rfl⟩
  refine ap (inj:=fun (s1:List (List Int×D)) (w5:Option Sl×Option Sl)=>[vv yN,vv yM,vv yL,dt s1,vv x,vv yQ,vv yT,vv yU,vv yV,w5.1,w5.2]) (bD 9 (B:=fun (s1:List (List Int×D)) (w5:Option Sl×Option Sl) x8=>[vv yN,vv yM,vv yL,dt s1,vv x,vv yQ,vv yT,vv yU,vv yV,vv x8,w5.2]) (w.2.2.2.2.2.1,w.2.2.2.2.2.2) hpo rfl (f9 (bB rfl T.b_range (FAL.out (aa (aW bx.K (ac 7) (ac 7)) ad)))) ?_ (ax 9 c7.nd) rfl (fun _ _ _=>rfl) (fun s1 w5 x8=>?_)) (fun zQ w7=>?_)
  rfl
  ·refine aj (S':=fun zq=>[vv yN,vv yM,vv yL,dt s1,vv x,vv yQ,vv yT,vv yU,vv yV,vv x8,vv zq]) (aC 10 c7.nd (az (aa (aq bx.K (ac 5) (dl (ac 9) (ac 7))) (aa (aq bx.K (ac 6) (cS (ac 9) (ac 7))) ad)))) ?_ (fun zq=>?_)
   rfl
   refine ap (inj:=fun (_:Unit) (w6:Unit)=>[vv yN,vv yM,vv yL,dt s1,vv x,vv yQ,vv yT,vv yU,vv yV,vv x8,vv zq]) (au (mK 3 bx (ac 10)) ?_ ?_ ?_) (fun _ w6=>?_)
   rfl
   ·refine aw (ah aP) ?_
    rfl
   ·exact ak ⟨(),rfl⟩
   refine aj (S':=fun zm=>[vv yN,vv yM,vv yL,dt zm,vv x,vv yQ,vv yT,vv yU,vv yV,vv x8,vv zq]) (mM 3 bx (ac 8) (ac 10)) ?_ (fun zm=>?_)
   rfl
   exact ak ⟨(vv x8,vv zq),rfl⟩
  exact ak ⟨(vv x,vv yQ,vv yT,vv yU,vv yV,w7.1,w7.2),rfl⟩
 refine ap (inj:=fun (_:Unit) (w9:Unit)=>[vv yN,vv yM,vv yL,dt zj,w8.1,w8.2.1,w8.2.2.1,w8.2.2.2.1,w8.2.2.2.2.1,w8.2.2.2.2.2.1,w8.2.2.2.2.2.2]) (au (b4 bx (oE 3 bx rfl T.b_len) (aW bx.K (ac 2) (ac 2))) ?_ ?_ ?_) (fun _ w9=>?_)
 rfl
 ·refine aw (ah aP) ?_
  rfl
 ·exact ak ⟨(),rfl⟩
 refine pR 3 (S':=[vv yN,vv yM,vv yL,vv (tabD zj),w8.1,w8.2.1,w8.2.2.1,w8.2.2.2.1,w8.2.2.2.2.1,w8.2.2.2.2.2.1,w8.2.2.2.2.2.2]) rfl rfl ?_
 refine ar (ah (af bx G.g57 rfl (aa (fe_N (bU bx rfl T.b_tuple (FAL.out (aa (fe_C (a9 (N:=["_law_y","_law_spots","_law_side"]) (own:=1) (cap:=[3,2]) bx (BlkOk.of (by kernel_rfl)) (f9 (bB rfl T.b_range (FAL.out (aa (ac 2) ad)))) (bb (by decide)) (fun _ _ _ _ _=>ax 0 (show List.Nodup (α:=Str) ["_law_y","_law_spots","_law_side"] by decide +kernel)) (fun _ _ _ _ _=>(fe_N (bU (ay bx) rfl T.b_tuple (FAL.out (aa (fe_C (a9 (N:=["_law_x","_law_spots","_law_y"]) (own:=1) (cap:=[1,0]) (ay bx) (BlkOk.of (by kernel_rfl)) (f9 (bB rfl T.b_range (FAL.out (aa (ac 2) ad)))) (bb (by decide)) (fun _ _ _ _ _=>ax 0 (show List.Nodup (α:=Str) ["_law_x","_law_spots","_law_y"] by decide +kernel)) (fun _ _ _ _ _=>(mO (ay (ay bx)) (ac 1) (az (aa (ac 0) (aa (ac 2) ad))))))) ad))))))) ad)))) ad))) ?_
 rfl
theorem jO:OkD P w K mg base C k "law" bn ["_law_script"] (a1 (fo t)):=ok1 aE fun yH _ _ _ _ _ _ _ _ bx hpo _=>by
 show FL _ _ [vv yH,nn,nn,nn,nn,nn,nn,nn,nn,nn,nn,nn,nn,nn,nn,nn,nn,nn,nn,nn,nn,nn] _ _ _
 refine aj (S':=fun yJ=>[vv yH,vv yJ,nn,nn,nn,nn,nn,nn,nn,nn,nn,nn,nn,nn,nn,nn,nn,nn,nn,nn,nn,nn]) (aC 1 aE.nd (af bx G.g33 rfl (aa (ac 0) (aa ae (aa ae ad))))) ?_ (fun yJ=>?_)
 rfl
 refine aj (S':=fun yI=>[vv yH,vv yJ,vv yI,nn,nn,nn,nn,nn,nn,nn,nn,nn,nn,nn,nn,nn,nn,nn,nn,nn,nn,nn]) (aC 2 aE.nd (af bx G.g55 rfl (aa (ac 1) ad))) ?_ (fun yI=>?_)
 rfl
 refine aj (S':=fun yL=>[vv yH,vv yJ,vv yI,vv yL,nn,nn,nn,nn,nn,nn,nn,nn,nn,nn,nn,nn,nn,nn,nn,nn,nn,nn]) (aC 3 aE.nd (fe_N (bh bx rfl T.b_len (FAL.out (aa (ac 2) ad))))) ?_ (fun yL=>?_)
 rfl
 refine aj (S':=fun yR=>[vv yH,vv yJ,vv yI,vv yL,vv yR,nn,nn,nn,nn,nn,nn,nn,nn,nn,nn,nn,nn,nn,nn,nn,nn,nn]) (aC 4 aE.nd (af bx G.g200 rfl (aa (ag bx.K (af bx G.g57 rfl (aa (ac 2) ad)) ae) (aa ae (aa ae (aa (ac 3) ad)))))) ?_ (fun yR=>?_)
 rfl
 refine ap (inj:=fun (_:Unit) (w:Unit)=>[vv yH,vv yJ,vv yI,vv yL,vv yR,nn,nn,nn,nn,nn,nn,nn,nn,nn,nn,nn,nn,nn,nn,nn,nn,nn]) (au (b4 bx (af bx G.g199 rfl (aa ae (aa (ac 1) (aa dQ (aa dQ ad))))) (ac 4)) ?_ ?_ ?_) (fun _ w=>?_)
 rfl
 ·refine aw (ah cP) ?_
  rfl
 ·exact ak ⟨(),rfl⟩
 refine aj (S':=fun yM=>[vv yH,vv yJ,vv yI,vv yL,vv yR,vv yM,nn,nn,nn,nn,nn,nn,nn,nn,nn,nn,nn,nn,nn,nn,nn,nn]) (aC 5 aE.nd (af bx G.g200 rfl (aa (ag bx.K (ac 1) ae) (aa ae (aa ae (aa (ac 3) ad)))))) ?_ (fun yM=>?_)
 rfl
 refine aV (S':=[vv yH,vv yJ,vv yI,vv yL,vv yR,vv yM,ow [],nn,nn,nn,nn,nn,nn,nn,nn,nn,nn,nn,nn,nn,nn,nn]) (fs_O (dm 6 aE.nd (FAL.out ad))) ?_ ?_
 rfl
 refine ap (inj:=fun (s:List D) (w1:Option Sl×Option Sl)=>[vv yH,vv yJ,vv yI,vv yL,vv yR,vv yM,ow s,w1.1,w1.2,nn,nn,nn,nn,nn,nn,nn,nn,nn,nn,nn,nn,nn]) (jv 7 8 (B:=fun (s:List D) (w1:Option Sl×Option Sl) x4 x5=>[vv yH,vv yJ,vv yI,vv yL,vv yR,vv yM,ow s,vv x4,vv x5,nn,nn,nn,nn,nn,nn,nn,nn,nn,nn,nn,nn,nn]) (nn,nn) hpo rfl (dX bx rfl T.b_enumerate (ac 5)) ?_ (lH 7 8 rfl aE.nd) rfl (fun _ _ _ _=>rfl) (fun s w1 x4 x5=>?_)) (fun yW w2=>?_)
 rfl
 ·refine aj (S':=fun zc=>[vv yH,vv yJ,vv yI,vv yL,vv yR,vv yM,ow zc,vv x4,vv x5,nn,nn,nn,nn,nn,nn,nn,nn,nn,nn,nn,nn,nn]) (fs_I 6 (rk 6 (FAL.out (aa (af bx G.g31 rfl (aa (ac 0) (aa (aq bx.K ae (ac 7)) (aa (aq bx.K (ri 6 bx rfl T.b_len) ae) ad)))) (aa (ac 8) ad))))) ?_ (fun zc=>?_)
  rfl
  exact ak ⟨(vv x4,vv x5),rfl⟩
 refine dW 6 (S':=[vv yH,vv yJ,vv yI,vv yL,vv yR,vv yM,vv (.lst yW),w2.1,w2.2,nn,nn,nn,nn,nn,nn,nn,nn,nn,nn,nn,nn,nn]) rfl rfl ?_
 refine ap (inj:=fun (_:Unit) (w3:Unit)=>[vv yH,vv yJ,vv yI,vv yL,vv yR,vv yM,vv (.lst yW),w2.1,w2.2,nn,nn,nn,nn,nn,nn,nn,nn,nn,nn,nn,nn,nn]) (au (b4 bx (af bx G.g199 rfl (aa ae (aa (ag bx.K (ac 1) ae) (aa (ac 6) (aa dQ ad))))) (af bx G.g57 rfl (aa (ac 2) ad))) ?_ ?_ ?_) (fun _ w3=>?_)
 rfl
 ·refine aw (ah cP) ?_
  rfl
 ·exact ak ⟨(),rfl⟩
 refine ap (inj:=fun (s1:Unit) (w4:Option Sl×Option Sl×Option Sl×Option Sl×Option Sl×Option Sl×Option Sl×Option Sl×Option Sl×Option Sl)=>[vv yH,vv yJ,vv yI,vv yL,vv yR,vv yM,vv (.lst yW),w4.1,w2.2,w4.2.1,w4.2.2.1,w4.2.2.2.1,w4.2.2.2.2.1,w4.2.2.2.2.2.1,w4.2.2.2.2.2.2.1,w4.2.2.2.2.2.2.2.1,w4.2.2.2.2.2.2.2.2.1,w4.2.2.2.2.2.2.2.2.2,nn,nn,nn,nn]) (bD 7 (B:=fun (s1:Unit) (w4:Option Sl×Option Sl×Option Sl×Option Sl×Option Sl×Option Sl×Option Sl×Option Sl×Option Sl×Option Sl) x12=>[vv yH,vv yJ,vv yI,vv yL,vv yR,vv yM,vv (.lst yW),vv x12,w2.2,w4.2.1,w4.2.2.1,w4.2.2.2.1,w4.2.2.2.2.1,w4.2.2.2.2.2.1,w4.2.2.2.2.2.2.1,w4.2.2.2.2.2.2.2.1,w4.2.2.2.2.2.2.2.2.1,w4.2.2.2.2.2.2.2.2.2,nn,nn,nn,nn]) (w2.1,nn,nn,nn,nn,nn,nn,nn,nn,nn) hpo rfl (f9 (bB rfl T.b_range (FAL.out (aa ae ad)))) ?_ (ax 7 aE.nd) rfl (fun _ _ _=>rfl) (fun s1 w4 x12=>?_)) (fun _ w5=>?_)
 rfl
 ·refine aj (S':=fun yO=>[vv yH,vv yJ,vv yI,vv yL,vv yR,vv yM,vv (.lst yW),vv x12,w2.2,vv yO,w4.2.2.1,w4.2.2.2.1,w4.2.2.2.2.1,w4.2.2.2.2.2.1,w4.2.2.2.2.2.2.1,w4.2.2.2.2.2.2.2.1,w4.2.2.2.2.2.2.2.2.1,w4.2.2.2.2.2.2.2.2.2,nn,nn,nn,nn]) (aC 9 aE.nd (af bx G.g31 rfl (aa (ac 0) (aa (aq bx.K ae (aW bx.K ae (ac 7))) (aa (fe_N (bh bx rfl T.b_len (FAL.out (aa (ac 6) ad)))) ad))))) ?_ (fun yO=>?_)
  rfl
  refine aj (S':=fun zf=>[vv yH,vv yJ,vv yI,vv yL,vv yR,vv yM,vv (.lst yW),vv x12,w2.2,vv yO,vv zf,w4.2.2.2.1,w4.2.2.2.2.1,w4.2.2.2.2.2.1,w4.2.2.2.2.2.2.1,w4.2.2.2.2.2.2.2.1,w4.2.2.2.2.2.2.2.2.1,w4.2.2.2.2.2.2.2.2.2,nn,nn,nn,nn]) (aC 10 aE.nd (af bx G.g37 rfl (aa (ac 0) (aa (aq bx.K ae (aW bx.K ae (ac 7))) (aa (ag bx.K (ac 6) (ac 9)) ad))))) ?_ (fun zf=>?_)
  rfl
  refine tX 11 12 13 14 (S':=fun yQ yT yU yV=>[vv yH,vv yJ,vv yI,vv yL,vv yR,vv yM,vv (.lst yW),vv x12,w2.2,vv yO,vv zf,vv yQ,vv yT,vv yU,vv yV,w4.2.2.2.2.2.2.2.1,w4.2.2.2.2.2.2.2.2.1,w4.2.2.2.2.2.2.2.2.2,nn,nn,nn,nn]) bx aE.nd (ag bx.K (ac 6) (ac 9)) ?_ (fun _ _ _ _=>rfl) (fun yQ yT yU yV=>?_)
  rfl
  refine aj (S':=fun zl=>[vv yH,vv yJ,vv yI,vv yL,vv yR,vv yM,vv (.lst yW),vv x12,w2.2,vv yO,vv zf,vv yQ,vv yT,vv yU,vv yV,vv zl,w4.2.2.2.2.2.2.2.2.1,w4.2.2.2.2.2.2.2.2.2,nn,nn,nn,nn]) (aC 15 aE.nd (aF (aa (az (aa (aq bx.K (ac 11) (ac 13)) (aa (ac 12) (aa (ac 13) (aa (ac 14) ad))))) (aa (az (aa (ac 11) (aa (ac 12) (aa (aW bx.K ae (ac 13)) (aa (ac 14) ad))))) (aa (az (aa (ac 11) (aa (ac 12) (aa (fe_N (pC bx rfl T.b_max (FAL.out (aa ae (aa (cS (ac 13) ae) ad))))) (aa (ac 14) ad))))) ad))))) ?_ (fun zl=>?_)
  rfl
  refine aj (S':=fun zy=>[vv yH,vv yJ,vv yI,vv yL,vv yR,vv yM,vv (.lst yW),vv x12,w2.2,vv yO,vv zf,vv yQ,vv yT,vv yU,vv yV,vv zl,vv zy,w4.2.2.2.2.2.2.2.2.2,nn,nn,nn,nn]) (aC 16 aE.nd (aF (aa (aF (aa (ac 10) ad)) (aa (aF ad) (aa (aW bx.K (aF (aa (ag bx.K (ac 6) (ac 9)) ad)) ae) (aa (aF (aa (ag bx.K (ac 15) ae) ad)) (aa (aF (aa (ag bx.K (ac 15) ae) ad)) (aa (aF (aa (ag bx.K (ac 15) ae) ad)) (aa (aF (aa (az (aa (aq bx.K (ac 11) ae) (aa (ac 12) (aa (ac 13) (aa (ac 14) ad))))) ad)) ad))))))))) ?_ (fun zy=>?_)
  rfl
  refine aj (S':=fun zo=>[vv yH,vv yJ,vv yI,vv yL,vv yR,vv yM,vv (.lst yW),vv x12,w2.2,vv yO,vv zf,vv yQ,vv yT,vv yU,vv yV,vv zl,vv zy,vv zo,nn,nn,nn,nn]) (aC 17 aE.nd (aq bx.K (aq bx.K (fv bx.K (ac 6) mq (fW (ac 9))) (ag bx.K (ac 16) (af bx G.g31 rfl (aa (ac 0) (aa (aq bx.K ae (aW bx.K ae (ac 7))) (aa ae ad)))))) (fv bx.K (ac 6) (fW (aq bx.K (ac 9) ae)) mq))) ?_ (fun zo=>?_)
  rfl
  refine ju (au (b4 bx (af bx G.g199 rfl (aa ae (aa (ag bx.K (ac 1) ae) (aa (ac 17) (aa dQ ad))))) (af bx G.g201 rfl (aa (ag bx.K (ac 1) ae) (aa (ac 17) ad)))) ?_ ?_ ?_)
  rfl
  ·refine aw (ah cP) ?_
   rfl
  ·exact ak ⟨(vv x12,vv yO,vv zf,vv yQ,vv yT,vv yU,vv yV,vv zl,vv zy,vv zo),rfl⟩
 refine vI 18 19 (S':=fun zI zH=>[vv yH,vv yJ,vv yI,vv yL,vv yR,vv yM,vv (.lst yW),w5.1,w2.2,w5.2.1,w5.2.2.1,w5.2.2.2.1,w5.2.2.2.2.1,w5.2.2.2.2.2.1,w5.2.2.2.2.2.2.1,w5.2.2.2.2.2.2.2.1,w5.2.2.2.2.2.2.2.2.1,w5.2.2.2.2.2.2.2.2.2,vv zI,vv zH,nn,nn]) (t3 18 19 bx aE.nd (FAL.out (aa (eO (af bx G.g31 rfl (aa (ac 0) (aa ae (aa (aq bx.K (ac 3) ae) ad)))) ae) (aa (eO (af bx G.g31 rfl (aa (ac 0) (aa ae (aa (aq bx.K (ac 3) ae) ad)))) ae) ad)))) ?_ ?_ (fun _ _=>rfl) (fun zI zH=>?_)
 rfl
 rfl
 refine aj (S':=fun ze=>[vv yH,vv yJ,vv yI,vv yL,vv yR,vv yM,vv (.lst yW),w5.1,w2.2,w5.2.1,w5.2.2.1,w5.2.2.2.1,w5.2.2.2.2.1,w5.2.2.2.2.2.1,w5.2.2.2.2.2.2.1,w5.2.2.2.2.2.2.2.1,w5.2.2.2.2.2.2.2.2.1,w5.2.2.2.2.2.2.2.2.2,vv zI,vv zH,vv ze,nn]) (fs_C (ly 20 (N:=["_law_one","_law_x","_law_y"]) (own:=1) (cap:=[18,19]) bx (BlkOk.of (by kernel_rfl)) (aU bx.K (ac 4)) (bb (by decide)) (fun _ _ _ _ _=>ax 0 (show List.Nodup (α:=Str) ["_law_one","_law_x","_law_y"] by decide +kernel)) (fun _ _ _ _ _=>(ft_w (oi (pA (ag (ay bx).K (ac 0) ae) (ac 1) (aq (ay bx).K (ag (ay bx).K (ac 0) ae) (ag (ay bx).K (ac 0) ae))) (lw (pA (ag (ay bx).K (ac 0) ae) (ac 2) (aq (ay bx).K (ag (ay bx).K (ac 0) ae) (ag (ay bx).K (ac 0) ae))))))) (fun _ _ _ _ _=>(ac 0)) aE.nd (hsw:=by kernel_rfl))) ?_ (fun ze=>?_)
 rfl
 refine ap (inj:=fun (_:Unit) (w6:Unit)=>[vv yH,vv yJ,vv yI,vv yL,vv yR,vv yM,vv (.lst yW),w5.1,w2.2,w5.2.1,w5.2.2.1,w5.2.2.2.1,w5.2.2.2.2.1,w5.2.2.2.2.2.1,w5.2.2.2.2.2.2.1,w5.2.2.2.2.2.2.2.1,w5.2.2.2.2.2.2.2.2.1,w5.2.2.2.2.2.2.2.2.2,vv zI,vv zH,vv ze,nn]) (au (b4 bx (af bx G.g199 rfl (aa ae (aa (ac 1) (aa (ac 18) (aa (ac 19) ad))))) (sO (b4 bx (ac 20) (aF ad)) (ag bx.K (ac 20) ae) aP)) ?_ ?_ ?_) (fun _ w6=>?_)
 rfl
 ·refine aw (ah cP) ?_
  rfl
 ·exact ak ⟨(),rfl⟩
 refine aj (S':=fun zL=>[vv yH,vv yJ,vv yI,vv yL,vv yR,vv yM,vv (.lst yW),w5.1,w2.2,w5.2.1,w5.2.2.1,w5.2.2.2.1,w5.2.2.2.2.1,w5.2.2.2.2.2.1,w5.2.2.2.2.2.2.1,w5.2.2.2.2.2.2.2.1,w5.2.2.2.2.2.2.2.2.1,w5.2.2.2.2.2.2.2.2.2,vv zI,vv zH,vv ze,vv zL]) (aC 21 aE.nd (af bx G.g37 rfl (aa (ac 0) (aa ae (aa (ac 1) ad))))) ?_ (fun zL=>?_)
 rfl
 refine ar (ah (yf (af bx G.g38 rfl (aa (ac 21) ad)) (di (tm bx (fe_C (a9 (N:=["_law_what","_law_bad"]) (own:=1) (cap:=[21]) bx (BlkOk.of (by kernel_rfl)) (aU bx.K (az (aa ae (aa ae ad)))) (bb (by decide)) (fun _ _ _ _ _=>ax 0 (show List.Nodup (α:=Str) ["_law_what","_law_bad"] by decide +kernel)) (fun _ _ _ _ _=>(af (ay bx) G.g199 rfl (aa (ac 0) (aa (ac 1) (aa ae (aa ae ad)))))))) (aW bx.K (aF (aa aP ad)) ae))))) ?_
 rfl
end
end Lw
end
noncomputable section
section
namespace Lw
open PySem FF
inductive Q (α:Type) where
 | lf (a:α) | nd (a b c d:Q α)
 deriving DecidableEq
section
variable {α β γ:Type}
def Q.dep:Q α→Nat
 | .lf _=>0
 | .nd a b c d=>1+max (max a.dep b.dep) (max c.dep d.dep)
def Q.at:Nat→Q α→Nat→Nat→α
 | _,.lf a,_,_=>a
 | 0,.nd a _ _ _,x,y=>Q.at 0 a x y
 | n+1,.nd a b c d,x,y=>if y < 2^n then (if x < 2^n then a.at n x y else b.at n (x - 2^n) y) else (if x < 2^n then c.at n x (y - 2^n) else d.at n (x - 2^n) (y - 2^n))
def Q.All (p:α→Prop):Q α→Prop
 | .lf a=>p a
 | .nd a b c d=>a.All p∧b.All p∧c.All p∧d.All p
def sh (f:Nat→Nat→α)(a b:Nat):Nat→Nat→α:=fun x y=>f (x+a) (y+b)
@[simp] theorem kY (n:Nat)(a:α)(x y:Nat):Q.at n (.lf a) x y=a:=by cases n<;>rfl
variable [DecidableEq α][DecidableEq β][DecidableEq γ]
def put4 (a b c d:Q α):Q α:=match a with
 | .lf v=>if b=.lf v∧c=.lf v∧d=.lf v then .lf v else .nd a b c d
 | _=>.nd a b c d
def T (f:Nat→Nat→α):Nat→Q α
 | 0=>.lf (f 0 0)
 | n+1=>put4 (T f n) (T (sh f (2^n) 0) n) (T (sh f 0 (2^n)) n) (T (sh f (2^n) (2^n)) n)
def Q.lean:Q α→Q α
 | .lf a=>.lf a
 | .nd a b c d=>put4 a.lean b.lean c.lean d.lean
theorem bO (n:Nat):(2^(n+1):Nat)=2^n+2^n:=by rw[Nat.pow_succ];omega
theorem rV (v:α):put4 (.lf v) (.lf v) (.lf v) (.lf v)=.lf v:=by simp[put4]
theorem v3 (n:Nat)(a b c d:Q α)(x y:Nat):(put4 a b c d).at (n+1) x y=(Q.nd a b c d).at (n+1) x y:=by
 unfold put4
 split
 ·split
  ·rename_i h
   obtain⟨rfl,rfl,rfl⟩:=h
   simp only[Q.at,kY,ite_self]
  ·rfl
 ·rfl
theorem ud (n:Nat)(a b c d:Q α)(ha:a.dep≤n)(hb:b.dep≤n)(hc:c.dep≤n)(hd:d.dep≤n):(put4 a b c d).dep≤n+1:=by
 unfold put4
 split
 ·split
  ·exact Nat.zero_le _
  ·simp only[Q.dep] at *;omega
 ·simp only[Q.dep] at *;omega
theorem bP:∀ (n:Nat) (f g:Nat→Nat→α),(∀ x y,x < 2^n→y < 2^n→f x y=g x y)→T f n=T g n
 | 0,f,g,h=>by rw[T,T,h 0 0 (by decide) (by decide)]
 | n+1,f,g,h=>by
  rw[bO]at h
  rw[T,T,bP n f g fun x y hx hy=>h x y (by omega) (by omega),bP n (sh f (2^n) 0) (sh g (2^n) 0) fun x y hx hy=>h _ _ (by omega) (by omega),
   bP n (sh f 0 (2^n)) (sh g 0 (2^n)) fun x y hx hy=>h _ _ (by omega) (by omega),bP n (sh f (2^n) (2^n)) (sh g (2^n) (2^n)) fun x y hx hy=>h _ _ (by omega) (by omega)]
theorem lX (v:α):∀ n,T (fun _ _=>v) n=.lf v
 | 0=>rfl
 | n+1=>by
  rw[T]
  show put4 (T (fun _ _=>v) n) (T (fun _ _=>v) n) (T (fun _ _=>v) n) (T (fun _ _=>v) n)=_
  rw[lX v n,rV]
theorem dF:∀ (n:Nat) (f:Nat→Nat→α),(T f n).dep≤n
 | 0,f=>Nat.le_refl _
 | n+1,f=>ud n _ _ _ _ (dF n _) (dF n _) (dF n _) (dF n _)
theorem T_at:∀ (n:Nat) (f:Nat→Nat→α) (x y:Nat),x < 2^n→y < 2^n→(T f n).at n x y=f x y
 | 0,f,x,y,hx,hy=>by
  have:x=0:=by simp at hx;exact hx
  have:y=0:=by simp at hy;exact hy
  subst x;subst y
  rfl
 | n+1,f,x,y,hx,hy=>by
  rw[bO]at hx hy
  rw[T,v3,Q.at]
  by_cases h1:y < 2^n
  ·rw[if_pos h1]
   by_cases h2:x < 2^n
   ·rw[if_pos h2,T_at n f x y h2 h1]
   ·rw[if_neg h2,T_at n _ _ _ (by omega) h1]
    unfold sh
    rw[show x - 2^n+2^n=x by omega,Nat.add_zero]
  ·rw[if_neg h1]
   by_cases h2:x < 2^n
   ·rw[if_pos h2,T_at n _ _ _ h2 (by omega)]
    unfold sh
    rw[show y - 2^n+2^n=y by omega,Nat.add_zero]
   ·rw[if_neg h2,T_at n _ _ _ (by omega) (by omega)]
    unfold sh
    rw[show x - 2^n+2^n=x by omega,show y - 2^n+2^n=y by omega]
theorem nv {p:α→Prop}:∀ (n:Nat) (f:Nat→Nat→α),(∀ x y,x < 2^n→y < 2^n→p (f x y))→(T f n).All p
 | 0,f,h=>h 0 0 (by decide) (by decide)
 | n+1,f,h=>by
  rw[bO]at h
  have ha:=nv n f fun x y hx hy=>h x y (by omega) (by omega)
  have hb:=nv n (sh f (2^n) 0) fun x y hx hy=>h _ _ (by omega) (by omega)
  have hc:=nv n (sh f 0 (2^n)) fun x y hx hy=>h _ _ (by omega) (by omega)
  have hd:=nv n (sh f (2^n) (2^n)) fun x y hx hy=>h _ _ (by omega) (by omega)
  rw[T]
  unfold put4
  split
  ·rename_i v e
   split
   ·rw[e]at ha;exact ha
   ·exact⟨ha,hb,hc,hd⟩
  ·exact⟨ha,hb,hc,hd⟩
theorem iu {p:α→Prop}:∀ (n:Nat) (t:Q α) (x y:Nat),t.All p→p (t.at n x y)
 | n,.lf a,x,y,h=>by rw[kY];exact h
 | 0,.nd a _ _ _,x,y,h=>iu 0 a x y h.1
 | n+1,.nd a b c d,x,y,h=>by
  rw[Q.at]
  split
  ·split
   ·exact iu n a _ _ h.1
   ·exact iu n b _ _ h.2.1
  ·split
   ·exact iu n c _ _ h.2.2.1
   ·exact iu n d _ _ h.2.2.2
theorem ue (n:Nat)(a b c d:Q α):T ((Q.nd a b c d).at (n+1)) (n+1)=put4 (T (a.at n) n) (T (b.at n) n) (T (c.at n) n) (T (d.at n) n):=by
 rw[T]
 congr 1
 ·exact bP n _ _ fun x y hx hy=>by rw[Q.at,if_pos hy,if_pos hx]
 ·exact bP n _ _ fun x y hx hy=>by
   unfold sh
   rw[Q.at,if_pos (by omega),if_neg (by omega)]
   simp
 ·exact bP n _ _ fun x y hx hy=>by
   unfold sh
   rw[Q.at,if_neg (by omega),if_pos (by omega)]
   simp
 ·exact bP n _ _ fun x y hx hy=>by
   unfold sh
   rw[Q.at,if_neg (by omega),if_neg (by omega)]
   simp
theorem iw:∀ (n:Nat) (t:Q α),t.dep≤n→t.lean=T (t.at n) n
 | n,.lf a,_=>by
  rw[Q.lean]
  exact(lX a n).symm.trans (bP _ _ _ fun x y _ _=>(kY _ _ _ _).symm)
 | 0,.nd a b c d,h=>by simp[Q.dep]at h
 | n+1,.nd a b c d,h=>by
  have h':1+max (max a.dep b.dep) (max c.dep d.dep)≤n+1:=h
  rw[ue,Q.lean,iw n a (by omega),iw n b (by omega),iw n c (by omega),iw n d (by omega)]
theorem gI {n:Nat}{t:Q α}(h:t.dep≤n):t.lean.dep≤n:=by rw[iw n t h];exact dF n _
structure En (e:α→D):Prop where
 tup:∀ a,isTup (e a)=false
 gd:∀ n a,good n (e a)=true
 eq:∀ a b,eqD (e a) (e b)=decide (a=b)
 tD:∀ a xs,eqD (e a) (.tup xs)=false
 dT:∀ a xs,eqD (.tup xs) (e a)=false
end
section
variable {α:Type}[DecidableEq α]{e:α→D}
def Q.d (e:α→D):Q α→D
 | .lf a=>e a
 | .nd a b c d=>.tup [a.d e,b.d e,c.d e,d.d e]
theorem Q.gd (E:En e):∀ (n:Nat) (t:Q α),t.dep≤n→good n (t.d e)=true
 | n,.lf a,_=>E.gd n a
 | 0,.nd a b c d,h=>by simp[Q.dep]at h
 | n+1,.nd a b c d,h=>by
  have h':1+max (max a.dep b.dep) (max c.dep d.dep)≤n+1:=h
  rw[Q.d,good,goods,goods,goods,goods,goods,Q.gd E n a (by omega),Q.gd E n b (by omega),Q.gd E n c (by omega),Q.gd E n d (by omega)]
  rfl
theorem Q.eqd (E:En e):∀ (s t:Q α),eqD (s.d e) (t.d e)=decide (s=t)
 | .lf a,.lf b=>by rw[Q.d,Q.d,E.eq];simp
 | .lf a,.nd ..=>by rw[Q.d,Q.d,E.tD];simp
 | .nd ..,.lf b=>by rw[Q.d,Q.d,E.dT];simp
 | .nd a b c d,.nd a' b' c' d'=>by
  rw[Q.d,Q.d,eqD,eqDs,eqDs,eqDs,eqDs,eqDs,Q.eqd E a a',Q.eqd E b b',Q.eqd E c c',Q.eqd E d d']
  simp[Bool.eq_iff_iff]
end
theorem En.int:En FF.D.int:=⟨fun _=>rfl,fun n a=>by cases n<;>rfl,fun a b=>by simp[eqD,Bool.beq_eq_decide_eq],fun a xs=>by simp[eqD],fun a xs=>by simp[eqD]⟩
theorem fL {xs:List D}(h:xs.length≤16777216):sq (.tup xs)=.ok xs:=by unfold sq asSeq;rw[R.bind_ok,if_pos h]
theorem dr {xs:List D}(h:xs.length≤16777216):sq (.lst xs)=.ok xs:=by unfold sq asSeq;rw[R.bind_ok,if_pos h]
theorem sq4 (a b c d:D):sq (.tup [a,b,c,d])=.ok [a,b,c,d]:=fL (by show 4≤16777216;decide)
theorem uf {e:D→R D}{f:D→D}:∀ {xs:List D},(∀ d∈xs,e d=.ok (f d))→cGo (fun _=>.ok true) e xs=.ok (xs.map f)
 | [],_=>rfl
 | x::xs,h=>by
  rw[cGo]
  simp only
  rw[h x (.head _),uf fun d hd=>h d (.tail _ hd)]
  rfl
theorem pT {e:D→R D}{xs:List D}(f:D→D)(h:∀ d∈xs,e d=.ok (f d)):cMap e xs=.ok (.lst (xs.map f)):=by
 unfold cMap;rw[uf h];rfl
theorem cj {α:Type}{e:D→R D}{l:List α}(c g:α→D)(h:∀ a∈l,e (c a)=.ok (g a)):cMap e (l.map c)=.ok (.lst (l.map g)):=by
 unfold cMap
 have:∀ {l:List α},(∀ a∈l,e (c a)=.ok (g a))→cGo (fun _=>.ok true) e (l.map c)=.ok (l.map g):=by
  intro l
  induction l with
  | nil=>intro _;rfl
  | cons a l ih =>
   intro h
   rw[List.map_cons,cGo]
   simp only
   rw[h a (.head _),ih fun b hb=>h b (.tail _ hb)]
   rfl
 rw[this h];rfl
theorem cMap4 {e:D→R D}{a b c d a' b' c' d':D}(ha:e a=.ok a')(hb:e b=.ok b')(hc:e c=.ok c')(hd:e d=.ok d'):cMap e [a,b,c,d]=.ok (.lst [a',b',c',d']):=by
 unfold cMap;simp only[cGo,ha,hb,hc,hd];rfl
theorem lY {α:Type}{c:D→R Bool}{e:D→R D}{l:List α}(k g:α→D)(p:α→Bool)(h:∀ a∈l,c (k a)=.ok (p a)∧(p a=true→e (k a)=.ok (g a))):cFil c e (l.map k)=.ok (.lst ((l.filter p).map g)):=by
 unfold cFil
 have:∀ {l:List α},(∀ a∈l,c (k a)=.ok (p a)∧(p a=true→e (k a)=.ok (g a)))→cGo c e (l.map k)=.ok ((l.filter p).map g):=by
  intro l
  induction l with
  | nil=>intro _;rfl
  | cons a l ih =>
   intro h
   have h1:=h a (.head _)
   have h2:=ih fun b hb=>h b (.tail _ hb)
   rw[List.map_cons,cGo,h1.1]
   cases q:p a with
   | false=>simp only;rw[h2,List.filter_cons_of_neg (by simp[q])]
   | true=>simp only;rw[h1.2 q,h2,List.filter_cons_of_pos q];rfl
 rw[this h];rfl
@[simp] theorem fM (xs:List D):dTuple [.lst xs]=.ok (.tup xs):=rfl
@[simp] theorem oX (xs:List D):dTuple [.tup xs]=.ok (.tup xs):=rfl
@[simp] theorem rW (xs:List D):dList [.tup xs]=.ok (.lst xs):=rfl
@[simp] theorem rX (xs:List D):dList [.lst xs]=.ok (.lst xs):=rfl
@[simp] theorem bf (xs:List D):dLen [.tup xs]=.ok (.int xs.length):=rfl
@[simp] theorem gJ (xs:List D):dLen [.lst xs]=.ok (.int xs.length):=rfl
@[simp] theorem aG (a b:Int):dAdd (.int a) (.int b)=.ok (.int (a+b)):=rfl
@[simp] theorem c8 (a b:Int):dSub (.int a) (.int b)=.ok (.int (a - b)):=rfl
@[simp] theorem gK (a b:Int):dLt (.int a) (.int b)=.ok (.bl (decide (a < b))):=rfl
@[simp] theorem eE (a b:Int):dLe (.int a) (.int b)=.ok (.bl (decide (a≤b))):=rfl
@[simp] theorem gL (a b:Int):dGt (.int a) (.int b)=.ok (.bl (decide (b < a))):=rfl
@[simp] theorem pU (a b:Int):dGe (.int a) (.int b)=.ok (.bl (decide (b≤a))):=rfl
@[simp] theorem i6 (a b:Int):dEq (.int a) (.int b)=.ok (.bl (decide (a=b))):=by
 show R.ok (D.bl (a==b))=_
 rw[Bool.beq_eq_decide_eq]
@[simp] theorem cJ (a b:Int):dNf (.int a) (.int b)=.ok (.bl (!decide (a=b))):=by
 show R.ok (D.bl (!(a==b)))=_
 rw[Bool.beq_eq_decide_eq]
theorem bg {a b:Int}(h:(-(2^64) < b∧b < 2^64)∨(-(2^64) < a∧a < 2^64)):dMul (.int a) (.int b)=.ok (.int (a*b)):=by
 have:cMul a b=true:=by unfold cMul;simp only[Bool.or_eq_true,Bool.and_eq_true,decide_eq_true_eq];rcases h with h | h;exact .inr h;exact .inl h
 show (if cMul a b=true then R.ok (D.int (a*b)) else R.stuck)=_
 rw[if_pos this]
theorem dG {a b:Int}(h0:0 < b)(h1:b < 1073741824):dDiv (.int a) (.int b)=.ok (.int (a/b)):=by
 have:cDiv a b=true:=by unfold cDiv;simp only[Bool.and_eq_true,decide_eq_true_eq];exact⟨h0,h1⟩
 show (if cDiv a b=true then R.ok (D.int (a/b)) else R.stuck)=_
 rw[if_pos this]
theorem bH {a b:Int}(h0:0 < b):dMod (.int a) (.int b)=.ok (.int (a%b)):=by
 show (if decide (0 < b)=true then R.ok (D.int (a%b)) else R.stuck)=_
 rw[if_pos (by simpa using h0)]
theorem ny {x y:D}(hx:good 60 x=true)(hy:good 60 y=true):dEq x y=.ok (.bl (eqD x y)):=by unfold dEq;rw[if_pos ⟨hx,hy⟩]
theorem jP {x y:D}(hx:good 60 x=true)(hy:good 60 y=true):dNf x y=.ok (.bl (!eqD x y)):=by unfold dNf;rw[if_pos ⟨hx,hy⟩]
theorem ll {α:Type}{xs:List α}{i:Nat}{x:α}(h:xs[i]?=some x):L2.atI xs ((i:Nat):Int)=some x:=by
 have hi:i < xs.length:=(List.getElem?_eq_some_iff.mp h).1
 unfold L2.atI L2.ixN
 rw[if_pos (by omega),if_pos (by omega)]
 simpa using h
theorem ixT {xs:List D}{i:Nat}{x:D}(h:xs[i]?=some x):dIx (.tup xs) (.int ((i:Nat):Int))=.ok x:=by
 show (match L2.atI xs (i:Int) with | some d=>R.ok d | none=>R.stuck)=_
 rw[ll h]
theorem ixL {xs:List D}{i:Nat}{x:D}(h:xs[i]?=some x):dIx (.lst xs) (.int ((i:Nat):Int))=.ok x:=by
 show (match L2.atI xs (i:Int) with | some d=>R.ok d | none=>R.stuck)=_
 rw[ll h]
@[simp] theorem ix20 (a b:D):dIx (.tup [a,b]) (.int 0)=.ok a:=rfl
@[simp] theorem ix21 (a b:D):dIx (.tup [a,b]) (.int 1)=.ok b:=rfl
@[simp] theorem ix40 (a b c d:D):dIx (.tup [a,b,c,d]) (.int 0)=.ok a:=rfl
@[simp] theorem ix41 (a b c d:D):dIx (.tup [a,b,c,d]) (.int 1)=.ok b:=rfl
@[simp] theorem ix42 (a b c d:D):dIx (.tup [a,b,c,d]) (.int 2)=.ok c:=rfl
@[simp] theorem ix43 (a b c d:D):dIx (.tup [a,b,c,d]) (.int 3)=.ok d:=rfl
@[simp] theorem aX (xs:List D):dIsA qTup (.tup xs)=.ok (.bl true):=rfl
@[simp] theorem rY (i:Int):dIsA qTup (.int i)=.ok (.bl false):=rfl
theorem jQ {α:Type}(p:α→Bool):∀ l:List α,boolsD (l.map fun d=>D.bl (p d))=some (l.map p)
 | []=>rfl
 | a::r=>by simp only[List.map_cons,boolsD,jQ p r,Option.map_some]
theorem gM {α:Type}(p:α→Bool)(l:List α):dAll [.lst (l.map fun d=>D.bl (p d))]=.ok (.bl (l.all p)):=by
 show (match boolsD (l.map fun d=>D.bl (p d)) with | some bs=>R.ok (D.bl (bs.all id)) | none=>R.stuck)=_
 rw[jQ]
 simp[List.all_map,Function.comp_def]
theorem gN (f:Int→Int→Bool)(F' G':D→D→R D){x y w:Int}{g:Int→Int→Bool}(h1:F' (.int x) (.int y)=.ok (.bl (f x y)))(h2:G' (.int y) (.int w)=.ok (.bl (g y w))):rCh F' G' (.int x) (.int y) (.ok (.int w))=.ok (.bl (f x y&&g y w)):=by
 unfold rCh
 rw[h1]
 cases f x y with
 | true=>show G' (.int y) (.int w)=_;rw[h2];rfl
 | false=>rfl
@[simp] theorem ug (x y w:Int):rCh dLe dLe (.int x) (.int y) (.ok (.int w))=.ok (.bl (decide (x≤y)&&decide (y≤w))):=gN (fun a b=>decide (a≤b)) _ _ (g:=fun a b=>decide (a≤b)) rfl rfl
@[simp] theorem uh (x y w:Int):rCh dLe dLt (.int x) (.int y) (.ok (.int w))=.ok (.bl (decide (x≤y)&&decide (y < w))):=gN (fun a b=>decide (a≤b)) _ _ (g:=fun a b=>decide (a < b)) rfl rfl
theorem i7 (a b:Bool):vAnd (.ok (.bl a)) (.ok (.bl b))=.ok (.bl (a&&b)):=by cases a<;>rfl
theorem xK (a b:Bool):vOr (.ok (.bl a)) (.ok (.bl b))=.ok (.bl (a||b)):=by cases a<;>rfl
theorem pV (a b:Bool):rAnd (.ok a) (.ok b)=.ok (a&&b):=by cases a<;>rfl
theorem eF (a b:Bool):rOr (.ok a) (.ok b)=.ok (a||b):=by cases a<;>rfl
def isW:D→Bool
 | .int _=>true
 | _=>false
def noX:D→Bool
 | .tab _ _=>false
 | .dic _ _=>false
 | .exc _=>false
 | .fn _=>false
 | _=>true
def inTo (hi:Int):D→Bool
 | .int i=>decide (0≤i)&&decide (i≤hi)
 | _=>false
theorem c9 {n:Nat}{d:D}(h:good n d=true):noX d=true:=by
 cases d<;>first | rfl | (cases n<;>simp[good]at h)
theorem e9 {n:Nat}(hn:1≤n){d:D}(h:noX d=true):pf n F.ae [d]=.ok (.bl (isW d)):=by
 obtain⟨m,rfl⟩:∃ m,n=m+1:=⟨n - 1,by omega⟩
 rw[mP]
 cases d<;>first | rfl | (cases h)
theorem jR {n:Nat}(hn:2≤n){d:D}(h:noX d=true):pf n F.af [d]=.ok (.bl (inTo 9 d)):=by
 obtain⟨m,rfl⟩:∃ m,n=m+1:=⟨n - 1,by omega⟩
 rw[mQ,dY,e9 (by omega) h]
 cases d<;>first | rfl | (cases h;done) | skip
 simp[isW,inTo]
theorem pW {n:Nat}(hn:2≤n){d:D}(h:noX d=true):pf n F.aA [d]=.ok (.bl (inTo 3 d)):=by
 obtain⟨m,rfl⟩:∃ m,n=m+1:=⟨n - 1,by omega⟩
 rw[oF,fi,e9 (by omega) h]
 cases d<;>first | rfl | (cases h;done) | skip
 simp[isW,inTo]
def STP:=And.intro @aB (And.intro @tM (And.intro @aS (And.intro @yj (And.intro @yk (And.intro @vE (And.intro @vD (And.intro @vF (And.intro @R.bind_ok (And.intro @R.bind_err (And.intro @aD (And.intro @bq (And.intro @pV (And.intro @eF (And.intro @xC (And.intro @xD (And.intro @ym (And.intro @fZ (And.intro @tN (And.intro @tO (And.intro @yn (And.intro @yo (And.intro @i7 (And.intro @xK (And.intro @vG (And.intro @yp (And.intro @yq (And.intro @Bool.not_true (And.intro @Bool.not_false (And.intro @Bool.false_or (And.intro @Bool.true_or (And.intro @Bool.or_false (And.intro @Bool.or_true (And.intro @Bool.true_and (And.intro @Bool.false_and (And.intro @Bool.and_true (And.intro @Bool.and_false (And.intro @Bool.false_eq_true (@Bool.true_eq_false))))))))))))))))))))))))))))))))))))))
def OPP:=And.intro @aG (And.intro @c8 (And.intro @gK (And.intro @eE (And.intro @gL (And.intro @pU (And.intro @i6 (And.intro @cJ (And.intro @bf (And.intro @gJ (And.intro @fM (And.intro @oX (And.intro @rW (And.intro @rX (And.intro @ix20 (And.intro @ix21 (And.intro @ix40 (And.intro @ix41 (And.intro @ix42 (And.intro @ix43 (And.intro @aX (And.intro @rY (And.intro @ug (@uh)))))))))))))))))))))))
def slim:Nat→D→Bool
 | n+1,.tup xs=>decide (xs.length≤1000)&&xs.all (slim n)
 | n+1,.lst xs=>decide (xs.length≤1000)&&xs.all (slim n)
 | _,_=>true
def treeOk (p:D→Bool):Nat→Int→D→Bool
 | n+1,s,.tup xs=>decide (s≠0)&&(decide (xs.length=4)&&xs.all (treeOk p n (s - 1)))
 | _,_,d=>p d
theorem cN {n:Nat}:∀ {xs:List D},goods n xs=true→∀ d∈xs,good n d=true
 | x::xs,h,d,hd=>by
  rw[goods,Bool.and_eq_true]at h
  cases hd with
  | head=>exact h.1
  | tail _ hd=>exact cN h.2 d hd
theorem bI {n:Nat}:∀ {xs:List D},(∀ d∈xs,good n d=true)→goods n xs=true
 | [],_=>rfl
 | x::xs,h=>by rw[goods,h x (.head _),bI fun d hd=>h d (.tail _ hd)];rfl
theorem ex1 {n k:Nat}(h:k+1≤n):∃ m,n=m+1∧k≤m:=⟨n - 1,by omega,by omega⟩
theorem cy {d:D}(h:isTup d=false)(h':noX d=true):dIsA qTup d=.ok (.bl false):=by cases d<;>first | rfl | (cases h;done) | (cases h';done)
theorem v4 {i c:Nat}{p:D→Bool}(hi:fvL.contains i=true)(hp:∀ m d,c≤m→noX d=true→pf m i [d]=.ok (.bl (p d))):∀ (n m:Nat) (s:Int) (d:D),good n d=true→slim n d=true→n+c+1≤m→pf m F.au [.int s,d,.fn i]=.ok (.bl (treeOk p n s d)):=by
 have flat:∀ (n m:Nat) (s:Int) (d:D),isTup d=false→noX d=true→c+1≤m→treeOk p n s d=p d→pf m F.au [.int s,d,.fn i]=.ok (.bl (treeOk p n s d)):=fun n m s d ht hx hm e=>by
  obtain⟨m,rfl,hm⟩:=ex1 hm
  rw[jA,dB,cy ht hx,e]
  have:onF fvL (.fn i) (fun i=>pf m i [d])=.ok (.bl (p d)):=by
   show (if fvL.contains i=true then pf m i [d] else R.stuck)=_
   rw[if_pos hi,hp m d (by omega) hx]
  simp[this]
 intro n
 induction n with
 | zero =>
  intro m s d hg hs hm
  have ht:isTup d=false:=by cases d<;>first | rfl | (simp[good]at hg)
  exact flat 0 m s d ht (c9 hg) (by omega) (by cases d<;>rfl)
 | succ n ih =>
  intro m s d hg hs hm
  by_cases ht:isTup d=true
  ·cases d with
   | tup xs =>
    rw[good]at hg
    rw[slim,Bool.and_eq_true,decide_eq_true_eq,List.all_eq_true]at hs
    obtain⟨m,rfl,hm⟩:=ex1 (show n+c+1+1≤m by omega)
    rw[jA,dB]
    have hc:cMap (fun part=>(dSub (.int s) (.int 1)).bind fun x1=>pf m F.au [x1,part,.fn i]) xs=.ok (.lst (xs.map fun d=>.bl (treeOk p n (s - 1) d))) :=
     pT _ fun d hd=>by rw[c8,R.bind_ok];exact ih m (s - 1) d (cN hg d hd) (hs.2 d hd) (by omega)
    simp only[aX,aD,bq,Bool.not_true,aB,aS,i6,bf,R.bind_ok,cJ,eF,fL (show xs.length≤16777216 by omega),hc,gM,treeOk]
    by_cases h0:s=0
    ·simp[h0]
    ·by_cases h4:xs.length=4
     ·simp[h0,h4]
     ·have h4':¬ ((xs.length:Int)=4):=by omega
      simp[h0,h4,h4']
   | _=>cases ht
  ·have ht':isTup d=false:=by simpa using ht
   exact flat (n+1) m s d ht' (c9 hg) (by omega) (by cases d<;>first | rfl | (cases ht';done))
def sizedOk (p:D→Bool)(n:Nat):D→Bool
 | .tup [s,t]=>inTo 3 s&&(match s with
  | .int i=>treeOk p n i t
  | _=>false)
 | _=>false
theorem ui {i c:Nat}{p:D→Bool}(hc:2≤c)(hi:fvL.contains i=true)(hp:∀ m d,c≤m→noX d=true→pf m i [d]=.ok (.bl (p d)))(n m:Nat)(d:D)(hg:good (n+1) d=true)(hs:slim (n+1) d=true)(hm:n+c+2≤m):pf m F.ar [d,.fn i]=.ok (.bl (sizedOk p n d)):=by
 obtain⟨m,rfl,hm⟩:=ex1 (show n+c+1+1≤m by omega)
 rw[hJ,bM]
 by_cases ht:isTup d=true
 ·cases d with
  | tup xs =>
   rw[good]at hg
   rw[slim,Bool.and_eq_true,decide_eq_true_eq,List.all_eq_true]at hs
   by_cases h2:xs.length=2
   ·match xs,h2 with
    | [a,b],_ =>
     have ga:=cN hg a (by simp)
     have gb:=cN hg b (by simp)
     have sb:=hs.2 b (by simp)
     have hz:pf m F.aA [a]=.ok (.bl (inTo 3 a)):=pW (by omega) (c9 ga)
     simp only[aX,aD,bq,Bool.not_true,bf,R.bind_ok,cJ,ix20,ix21,eF,List.length_cons,List.length_nil,hz]
     cases a with
     | int v =>
      rw[v4 hi hp n m v b gb sb (by omega)]
      by_cases hv:inTo 3 (.int v)=true
      ·simp[hv,sizedOk]
      ·have hv':inTo 3 (.int v)=false:=by simpa using hv
       simp[hv',sizedOk]
     | _=>simp[sizedOk,inTo]
   ·have h2':¬ ((xs.length:Int)=2):=by omega
    have e:sizedOk p n (.tup xs)=false:=by
     match xs,h2 with
     | [],_=>rfl
     | [_],_=>rfl
     | _::_::_::_,_=>rfl
    simp[h2',e]
  | _=>cases ht
 ·have ht':isTup d=false:=by simpa using ht
  rw[cy ht' (c9 hg)]
  have e:sizedOk p n d=false:=by cases d<;>first | rfl | (cases ht';done)
  simp[e]
def scr (ns:List Int):D:=.lst (ns.map .int)
def cell (ns:List Int)(k:Nat):Int:=if k < ns.length then ns.getD k 0 else if ns=[] then 0 else ns.getD (k%ns.length) 0*31+k
def pk (ns:List Int)(k:Nat)(m:Int):Int :=
 let d:=(cell ns k+6151*((k:Int)+1))*40692%2147483399
 (d*d+d/31)%2147483629%m
theorem gO {ns:List Int}{k:Nat}{m:Int}(h:0 < m):0≤pk ns k m:=Int.emod_nonneg _ (by omega)
theorem gP {ns:List Int}{k:Nat}{m:Int}(h:0 < m):pk ns k m < m:=Int.emod_lt_of_pos _ h
theorem kZ (n:Nat):∀ ns:List Int,goods n (ns.map .int)=true
 | []=>rfl
 | i::r=>by rw[List.map_cons,goods,kZ n r];cases n<;>rfl
theorem v5 {n:Nat}(hn:1≤n)(ns:List Int)(k:Nat):pf n F.aV [scr ns,.int k]=.ok (.int (cell ns k)):=by
 obtain⟨n,rfl,hn⟩:=ex1 hn
 rw[rB,gp]
 unfold scr cell
 by_cases h:k < ns.length
 ·have h':((k:Int) < (ns.length:Int)):=by omega
  have e0:=ixL (xs:=ns.map .int) (i:=k) (x:=.int (ns.getD k 0)) (by rw[List.getElem?_map,List.getElem?_eq_getElem h];simp[List.getD,h])
  simp only[STP,if_true,if_false,ite_true,ite_false,reduceIte,reduceCtorEq,OPP,List.length_map,decide_eq_true h',e0,if_pos h]
 ·have h':¬ ((k:Int) < (ns.length:Int)):=by omega
  cases ns with
  | nil =>
   have e1:dEq (.lst []) (.lst [])=.ok (.bl true):=rfl
   have h2:¬ ((k:Int) < ((0:Nat):Int)):=by omega
   simp only[STP,if_true,if_false,ite_true,ite_false,reduceIte,reduceCtorEq,OPP,List.map_nil,List.length_nil,decide_eq_false h2,e1,if_neg (Nat.not_lt_zero k)]
  | cons a r =>
   have hl:0 < (a::r).length:=by simp
   have hk:k%(a::r).length < (a::r).length:=Nat.mod_lt _ hl
   have e1:dEq (.lst ((a::r).map .int)) (.lst [])=.ok (.bl false):=by
    rw[ny (by rw[good];exact kZ _ _) rfl]
    simp[eqD,eqDs]
   have e2:dMod (.int (k:Int)) (.int ((a::r).length:Int))=.ok (.int ((k%(a::r).length:Nat):Int)):=by
    rw[bH (by omega)];rfl
   have e3:dIx (.lst ((a::r).map .int)) (.int ((k%(a::r).length:Nat):Int))=.ok (.int ((a::r).getD (k%(a::r).length) 0)) :=
    ixL (by rw[List.getElem?_map,List.getElem?_eq_getElem hk,List.getD,List.getElem?_eq_getElem hk];rfl)
   have e4:=bg (a:=(a::r).getD (k%(a::r).length) 0) (b:=31) (.inl (by decide))
   simp only[STP,if_true,if_false,ite_true,ite_false,reduceIte,reduceCtorEq,OPP,List.length_map,decide_eq_false h',e1,e2,e3,e4,if_neg h]
theorem i8 {n:Nat}(hn:2≤n)(ns:List Int)(k:Nat){m:Int}(hm:0 < m):pf n F.ac [scr ns,.int k,.int m]=.ok (.int (pk ns k m)):=by
 obtain⟨n,rfl,hn⟩:=ex1 hn
 rw[rC,gq,v5 (by omega)]
 simp only[R.bind_ok,aG]
 rw[bg (.inr (by decide))]
 simp only[R.bind_ok,aG]
 rw[bg (.inl (by decide))]
 simp only[R.bind_ok]
 rw[bH (by decide)]
 simp only[aB]
 have h0:0≤(cell ns k+6151*((k:Int)+1))*40692%2147483399:=Int.emod_nonneg _ (by decide)
 have h1:(cell ns k+6151*((k:Int)+1))*40692%2147483399 < 2147483399:=Int.emod_lt_of_pos _ (by decide)
 rw[bg (.inl ⟨by omega,by omega⟩),dG (by decide) (by decide)]
 simp only[R.bind_ok,aG]
 rw[bH (by decide)]
 simp only[R.bind_ok]
 rw[bH hm]
 rfl
theorem cK {n:Nat}(hn:2≤n)(ns:List Int)(k:Nat){a m:Int}(ha:a=(k:Int))(hm:0 < m):pf n F.ac [scr ns,.int a,.int m]=.ok (.int (pk ns k m)):=by subst ha;exact i8 hn ns k hm
def W9 (v:Int):Prop:=0≤v∧v≤9
def dleaf (ns:List Int)(k:Nat):Int:=[0,1,1,2,9,pk ns (k+1) 10].getD (pk ns (k+2) 6).toNat 0
def dt (ns:List Int):Nat→Nat→Q Int
 | 0,k=>.lf (dleaf ns k)
 | n+1,k=>if pk ns k 6 < 2 then .lf (dleaf ns k) else if pk ns k 6=2 then .nd (dt ns n (k+3)) (dt ns n (k+3)) (dt ns n (k+3)) (dt ns n (k+3)) else
  .nd (dt ns n (5*k+7)) (dt ns n (5*k+18)) (dt ns n (5*k+29)) (dt ns n (5*k+40))
theorem pX (ns:List Int)(k:Nat):W9 (dleaf ns k):=by
 unfold dleaf W9
 have h0:=gO (ns:=ns) (k:=k+2) (m:=6) (by decide)
 have h1:=gP (ns:=ns) (k:=k+2) (m:=6) (by decide)
 have g0:=gO (ns:=ns) (k:=k+1) (m:=10) (by decide)
 have g1:=gP (ns:=ns) (k:=k+1) (m:=10) (by decide)
 obtain⟨j,hj⟩:∃ j:Nat,pk ns (k+2) 6=(j:Int):=⟨(pk ns (k+2) 6).toNat,by omega⟩
 rw[hj]at h1 ⊢
 have:j < 6:=by omega
 rcases j with _ | _ | _ | _ | _ | _ | j<;>first | (simp;done) | (simp;omega) | omega
theorem uj (ns:List Int):∀ n k,(dt ns n k).dep≤n
 | 0,k=>Nat.le_refl _
 | n+1,k=>by
  rw[dt]
  have h1:=uj ns n
  split
  ·exact Nat.zero_le _
  ·split
   ·have:=h1 (k+3);simp only[Q.dep];omega
   ·have a:=h1 (5*k+7);have b:=h1 (5*k+18);have c:=h1 (5*k+29);have d:=h1 (5*k+40);simp only[Q.dep];omega
theorem uk (ns:List Int):∀ n k,(dt ns n k).All W9
 | 0,k=>pX ns k
 | n+1,k=>by
  rw[dt]
  have h1:=uk ns n
  split
  ·exact pX ns k
  ·split
   ·exact⟨h1 _,h1 _,h1 _,h1 _⟩
   ·exact⟨h1 _,h1 _,h1 _,h1 _⟩
theorem nz {n:Nat}(hn:2≤n)(ns:List Int)(k:Nat):((((dAdd (.int (k:Int)) (.int 1)).bind fun x=>pf n F.ac [scr ns,x,(.int 10)]).bind fun x1=>.ok (.lst [(.int 0),(.int 1),(.int 1),(.int 2),(.int 9),x1])).bind fun x2=>((dAdd (.int (k:Int)) (.int 2)).bind fun x3=>pf n F.ac [scr ns,x3,(.int 6)]).bind fun x4=>dIx x2 x4)=.ok (.int (dleaf ns k)):=by
 simp only[aG,R.bind_ok]
 rw[cK hn ns (k+1) (by omega) (by decide),cK hn ns (k+2) (by omega) (by decide)]
 simp only[R.bind_ok]
 have h0:=gO (ns:=ns) (k:=k+2) (m:=6) (by decide)
 have h1:=gP (ns:=ns) (k:=k+2) (m:=6) (by decide)
 unfold dleaf
 obtain⟨j,hj⟩:∃ j:Nat,pk ns (k+2) 6=(j:Int):=⟨(pk ns (k+2) 6).toNat,by omega⟩
 rw[hj]at h1 ⊢
 have:j < 6:=by omega
 rcases j with _ | _ | _ | _ | _ | _ | j<;>first | rfl | omega
theorem rep4 (x:D):dMul (.tup [x]) (.int 4)=.ok (.tup [x,x,x,x]):=rfl
theorem rng4:rng1 [.int 4]=.ok [.int 0,.int 1,.int 2,.int 3]:=rfl
theorem ul (ns:List Int):∀ (s k n:Nat),s+3≤n→pf n F.ap [scr ns,.int k,.int s]=.ok ((dt ns s k).d .int):=by
 intro s
 induction s with
 | zero =>
  intro k n hn
  obtain⟨n,rfl,hn⟩:=ex1 (show 2+1≤n by omega)
  rw[kT,eS,i8 (by omega) ns k (by decide)]
  simp only[aB]
  rw[nz (by omega)]
  simp[dt,Q.d]
 | succ s ih =>
  intro k n hn
  obtain⟨n,rfl,hn⟩:=ex1 (show s+3+1≤n by omega)
  rw[kT,eS,i8 (by omega) ns k (by decide)]
  simp only[aB]
  rw[nz (by omega)]
  have hs:¬ (((s+1:Nat):Int)=0):=by omega
  have hs1:((s+1:Nat):Int) - 1=(s:Int):=by omega
  have ih':∀ (a:Int) (j:Nat),a=(j:Int)→pf n F.ap [scr ns,.int a,.int (s:Int)]=.ok ((dt ns s j).d .int):=fun a j e=>by subst e;exact ih j n (by omega)
  rw[dt]
  by_cases h2:pk ns k 6 < 2
  ·simp only[STP,if_true,if_false,ite_true,ite_false,reduceIte,reduceCtorEq,OPP,decide_eq_false hs,decide_eq_true h2,if_pos h2,Q.d]
  ·by_cases h3:pk ns k 6=2
   ·have e:=ih' ((k:Int)+3) (k+3) (by omega)
    simp only[STP,if_true,if_false,ite_true,ite_false,reduceIte,reduceCtorEq,OPP,decide_eq_false hs,decide_eq_false h2,decide_eq_true h3,if_neg h2,if_pos h3,hs1,e,rep4,Q.d]
   ·have step:∀ (i:Nat) ,(((dMul (.int 5) (.int (k:Int))).bind fun x9=>dAdd x9 (.int 7)).bind fun x10=>(dMul (.int 11) (.int (i:Int))).bind fun x11=>dAdd x10 x11).bind (fun x12=>pf n F.ap [scr ns,x12,.int (s:Int)])=.ok ((dt ns s (5*k+7+11*i)).d .int):=fun i=>by
     rw[bg (.inr (by decide)),bg (.inr (by decide))]
     simp only[R.bind_ok,aG]
     exact ih' _ _ (by omega)
    have e:cMap (fun yY=>(((dMul (.int 5) (.int (k:Int))).bind fun x9=>dAdd x9 (.int 7)).bind fun x10=>(dMul (.int 11) yY).bind fun x11=>dAdd x10 x11).bind fun x12=>pf n F.ap [scr ns,x12,.int (s:Int)]) [.int 0,.int 1,.int 2,.int 3]=.ok (.lst [(dt ns s (5*k+7)).d .int,(dt ns s (5*k+18)).d .int,(dt ns s (5*k+29)).d .int,(dt ns s (5*k+40)).d .int]):=cMap4 (step 0) (step 1) (step 2) (step 3)
    simp only[STP,if_true,if_false,ite_true,ite_false,reduceIte,reduceCtorEq,OPP,decide_eq_false hs,decide_eq_false h2,decide_eq_false h3,if_neg h2,if_neg h3,hs1,rng4]
    rw[e]
    rfl
structure Pc (sz:Nat)(t:Q Int):Prop where
 h3:sz≤3
 dep:t.dep≤sz
 all:t.All W9
def picD (sz:Nat)(t:Q Int):D:=.tup [.int (sz:Int),t.d .int]
theorem v6 (ns:List Int)(k most n:Nat)(hm:most≤3)(hn:7≤n):∃ sz t,sz≤most∧Pc sz t∧pf n F.az [scr ns,.int k,.int most]=.ok (picD sz t):=by
 obtain⟨n,rfl,hn⟩:=ex1 (show 6+1≤n by omega)
 have h0:=gO (ns:=ns) (k:=k) (m:=7) (by decide)
 have h1:=gP (ns:=ns) (k:=k) (m:=7) (by decide)
 obtain⟨j,hj⟩:∃ j:Nat,pk ns k 7=(j:Int):=⟨(pk ns k 7).toNat,by omega⟩
 rw[hj]at h1
 have hj7:j < 7:=by omega
 obtain⟨c,hc3,hc⟩:∃ c:Nat,c≤3∧dIx (.lst [(.int 0),(.int 0),(.int 0),(.int 1),(.int 1),(.int 2),(.int 3)]) (.int (j:Int))=.ok (.int (c:Int)):=by
  rcases j with _ | _ | _ | _ | _ | _ | _ | j
  ·exact⟨0,by omega,rfl⟩
  ·exact⟨0,by omega,rfl⟩
  ·exact⟨0,by omega,rfl⟩
  ·exact⟨1,by omega,rfl⟩
  ·exact⟨1,by omega,rfl⟩
  ·exact⟨2,by omega,rfl⟩
  ·exact⟨3,by omega,rfl⟩
  ·omega
 refine⟨most - c,dt ns (most - c) (k+1),by omega,⟨by omega,uj _ _ _,uk _ _ _⟩,?_⟩
 have hx:dMax2 [.int 0,.int ((most:Int) - (c:Int))]=.ok (.int ((most - c:Nat):Int)):=by
  show R.ok (D.int (if (most:Int) - c > 0 then (most:Int) - c else 0))=_
  congr 2
  split<;>omega
 rw[lL,de,i8 (by omega) ns k (by decide),R.bind_ok,hj,hc]
 simp only[R.bind_ok,c8,hx,aB,aG]
 have e:((k:Int)+1)=((k+1:Nat):Int):=by omega
 rw[e,ul ns (most - c) (k+1) n (by omega)]
 rfl
section
variable {α:Type}[DecidableEq α]{e:α→D}
theorem cn:∀ {n m:Nat} {d:D},good n d=true→n≤m→good m d=true
 | n,m,.non,_,_=>by cases m<;>rfl
 | n,m,.bl _,_,_=>by cases m<;>rfl
 | n,m,.int _,_,_=>by cases m<;>rfl
 | n,m,.str _,_,_=>by cases m<;>rfl
 | n,m,.exc _,h,_=>by cases n<;>simp[good]at h
 | n,m,.fn _,h,_=>by cases n<;>simp[good]at h
 | 0,m,.tup _,h,_=>by simp[good]at h
 | 0,m,.lst _,h,_=>by simp[good]at h
 | n+1,0,.tup _,_,l=>by omega
 | n+1,0,.lst _,_,l=>by omega
 | n+1,m+1,.tup xs,h,l=>by
  rw[good]at h ⊢
  exact bI fun d hd=>cn (n:=n) (cN h d hd) (by omega)
 | n+1,m+1,.lst xs,h,l=>by
  rw[good]at h ⊢
  exact bI fun d hd=>cn (n:=n) (cN h d hd) (by omega)
theorem um (E:En e){n:Nat}(hn:1≤n){a b c d:Q α}(ha:a.dep≤50)(hb:b.dep≤50)(hc:c.dep≤50)(hd:d.dep≤50):pf n F.ai [.tup [a.d e,b.d e,c.d e,d.d e]]=.ok ((put4 a b c d).d e):=by
 obtain⟨n,rfl,hn⟩:=ex1 hn
 rw[iM,bV]
 cases a with
 | nd a1 a2 a3 a4=>simp only[STP,if_true,if_false,ite_true,ite_false,reduceIte,reduceCtorEq,OPP,Q.d,put4]
 | lf v =>
  have e1:dIsA qTup (Q.d e (.lf v))=.ok (.bl false):=cy (E.tup v) (c9 (E.gd 0 v))
  have gv:good 59 (e v)=true:=E.gd 59 v
  have e2:dEq (.tup [Q.d e (.lf v),b.d e,c.d e,d.d e]) (.tup [Q.d e (.lf v),Q.d e (.lf v),Q.d e (.lf v),Q.d e (.lf v)])=.ok (.bl (decide (b=.lf v)&&(decide (c=.lf v)&&decide (d=.lf v)))):=by
   rw[ny]
   ·rw[eqD,eqDs,eqDs,eqDs,eqDs,eqDs,Q.eqd E,Q.eqd E,Q.eqd E,Q.eqd E]
    simp
   ·rw[good,goods,goods,goods,goods,goods,cn (Q.gd E 50 b hb) (by decide),cn (Q.gd E 50 c hc) (by decide),cn (Q.gd E 50 d hd) (by decide),Q.d,gv]
    rfl
   ·rw[good,goods,goods,goods,goods,goods,Q.d,gv]
    rfl
  simp only[STP,if_true,if_false,ite_true,ite_false,reduceIte,reduceCtorEq,OPP,e1,e2]
  unfold put4
  by_cases hb':b=.lf v
  ·by_cases hc':c=.lf v
   ·by_cases hd':d=.lf v
    ·simp[hb',hc',hd']
    ·simp[hb',hc',hd',Q.d]
   ·simp[hb',hc',Q.d]
  ·simp[hb',Q.d]
theorem fc (E:En e):∀ (t:Q α) (n:Nat),t.dep≤40→t.dep+2≤n→pf n F.an [t.d e]=.ok (t.lean.d e)
 | .lf a,n,_,hn=>by
  obtain⟨n,rfl,hn⟩:=ex1 (show 1+1≤n by omega)
  rw[gw,cr]
  have e1:dIsA qTup (Q.d e (.lf a))=.ok (.bl false):=cy (E.tup a) (c9 (E.gd 0 a))
  simp only[STP,if_true,if_false,ite_true,ite_false,reduceIte,reduceCtorEq,e1,Q.lean]
 | .nd a b c d,n,hd,hn=>by
  have hd':1+max (max a.dep b.dep) (max c.dep d.dep)≤40:=hd
  have hn':1+max (max a.dep b.dep) (max c.dep d.dep)+2≤n:=hn
  obtain⟨n,rfl,hn⟩:=ex1 (show max (max a.dep b.dep) (max c.dep d.dep)+2+1≤n by omega)
  rw[gw,cr]
  have ka:=fc E a n (by omega) (by omega)
  have kb:=fc E b n (by omega) (by omega)
  have kc:=fc E c n (by omega) (by omega)
  have kd:=fc E d n (by omega) (by omega)
  have hm:cMap (fun part=>pf n F.an [part]) [a.d e,b.d e,c.d e,d.d e]=.ok (.lst [a.lean.d e,b.lean.d e,c.lean.d e,d.lean.d e]):=cMap4 ka kb kc kd
  have hp:=um E (n:=n) (by omega) (a:=a.lean) (b:=b.lean) (c:=c.lean) (d:=d.lean) (gI (n:=50) (by omega)) (gI (n:=50) (by omega)) (gI (n:=50) (by omega)) (gI (n:=50) (by omega))
  rw[Q.d]
  simp only[STP,if_true,if_false,ite_true,ite_false,reduceIte,reduceCtorEq,OPP,sq4,hm,hp,Q.lean]
theorem pY:∀ {n:Nat} {d:D},isTup d=false→isLst d=false→slim n d=true
 | 0,d,_,_=>by cases d<;>rfl
 | n+1,d,h,h'=>by cases d<;>first | rfl | (cases h;done) | (cases h';done)
theorem jS (hl:∀ a,isLst (e a)=false)(E:En e):∀ (n:Nat) (t:Q α),slim n (t.d e)=true
 | n,.lf a=>pY (E.tup a) (hl a)
 | 0,.nd ..=>rfl
 | n+1,.nd a b c d=>by
  rw[Q.d,Lw.slim]
  simp only[List.all_cons,List.all_nil,jS hl E n a,jS hl E n b,jS hl E n c,jS hl E n d,List.length_cons,List.length_nil]
  rfl
theorem jT {p:D→Bool}(E:En e):∀ (m:Nat) (s:Nat) (t:Q α),t.dep≤m→t.dep≤s→t.All (fun a=>p (e a)=true)→treeOk p m s (t.d e)=true
 | m,s,.lf a,_,_,h=>by
  have:treeOk p m s (e a)=p (e a):=by
   have:=E.tup a
   cases m with
   | zero=>cases e a<;>rfl
   | succ m=>cases q:e a<;>first | rfl | (rw[q]at this;cases this)
  exact this.trans h
 | 0,s,.nd a b c d,h,_,_=>by simp[Q.dep]at h
 | m+1,0,.nd a b c d,_,h,_=>by simp[Q.dep]at h
 | m+1,s+1,.nd a b c d,h,h',hall=>by
  have h1:1+max (max a.dep b.dep) (max c.dep d.dep)≤m+1:=h
  have h2:1+max (max a.dep b.dep) (max c.dep d.dep)≤s+1:=h'
  rw[Q.d,Lw.treeOk,show ((s+1:Nat):Int) - 1=(s:Int) by omega]
  have h0:((s+1:Nat):Int)≠0:=by omega
  simp only[List.all_cons,List.all_nil,jT E m s a (by omega) (by omega) hall.1,jT E m s b (by omega) (by omega) hall.2.1,jT E m s c (by omega) (by omega) hall.2.2.1,jT E m s d (by omega) (by omega) hall.2.2.2,List.length_cons,List.length_nil,decide_eq_true h0]
  rfl
end
theorem gQ {α:Type}{p q:α→Prop}(h:∀ a,p a→q a):∀ {t:Q α},t.All p→t.All q
 | .lf a,x=>h a x
 | .nd _ _ _ _,x=>⟨gQ h x.1,gQ h x.2.1,gQ h x.2.2.1,gQ h x.2.2.2⟩
theorem in9 {v:Int}(h:W9 v):inTo 9 (.int v)=true:=by simp[inTo,h.1,h.2]
theorem uo:fvL.contains F.af=true:=by decide
theorem uq {n m:Nat}{d:D}(hg:good (m+1) d=true)(hs:slim (m+1) d=true)(hn:m+5≤n):pf n F.aC [d]=.ok (.bl (sizedOk (inTo 9) m d)):=by
 obtain⟨n,rfl,hn⟩:=ex1 (show m+4+1≤n by omega)
 rw[km,cE,ui (c:=2) (p:=inTo 9) (by decide) uo (fun m d h1 h2=>jR h1 h2) m n d hg hs (by omega)]
 rfl
theorem k6 {n m:Nat}{d:D}(hg:good (m+1) d=true)(hs:slim (m+1) d=true)(hn:m+6≤n):pf n F.ab [d]=if sizedOk (inTo 9) m d=true then .ok .non else .err 1:=by
 obtain⟨n,rfl,hn⟩:=ex1 (show m+5+1≤n by omega)
 rw[hR,bN,uq hg hs (by omega)]
 cases sizedOk (inTo 9) m d<;>rfl
section
variable {sz:Nat}{t:Q Int}
theorem Pc.good (p:Pc sz t):good 4 (picD sz t)=true:=by
 unfold picD
 rw[FF.good,goods,goods,goods,Q.gd En.int 3 t (Nat.le_trans p.dep p.h3)]
 rfl
theorem Pc.slim (p:Pc sz t):slim 4 (picD sz t)=true:=by
 unfold picD
 rw[Lw.slim]
 simp only[List.all_cons,List.all_nil,jS (fun _=>rfl) En.int,pY (d:=.int (sz:Int)) rfl rfl,List.length_cons,List.length_nil]
 rfl
theorem Pc.sized (p:Pc sz t):sizedOk (inTo 9) 3 (picD sz t)=true:=by
 have h3:=p.h3
 have h1:inTo 3 (.int (sz:Int))=true:=by simp[inTo];omega
 unfold picD sizedOk
 simp only[h1,jT En.int 3 sz t (Nat.le_trans p.dep p.h3) p.dep (gQ (fun a h=>in9 h) p.all)]
 rfl
theorem Pc.check (p:Pc sz t){n:Nat}(hn:9≤n):pf n F.ab [picD sz t]=.ok .non:=by rw[k6 p.good p.slim hn,p.sized];rfl
theorem Pc.lean (p:Pc sz t){n:Nat}(hn:10≤n):pf n F.aW [picD sz t]=.ok (picD sz (T (t.at sz) sz)):=by
 obtain⟨n,rfl,hn⟩:=ex1 (show 9+1≤n by omega)
 have h3:=p.h3
 have hd:=p.dep
 have e1:=p.check (n:=n) (by omega)
 have e2:=fc En.int t n (by omega) (by omega)
 rw[pS,jz,e1,← iw sz t p.dep]
 unfold picD
 simp only[STP,if_true,if_false,ite_true,ite_false,reduceIte,reduceCtorEq,OPP,e2]
theorem pc_T {f:Nat→Nat→Int}(h3:sz≤3)(h:∀ x y,x < 2^sz→y < 2^sz→W9 (f x y)):Pc sz (T f sz):=⟨h3,dF sz f,nv sz f h⟩
theorem Pc.at (p:Pc sz t)(x y:Nat):W9 (t.at sz x y):=iu sz t x y p.all
theorem Pc.side (p:Pc sz t){n:Nat}(hn:1≤n):pf n F.aK [picD sz t]=.ok (.int ((2^sz:Nat):Int)):=by
 obtain⟨n,rfl,hn⟩:=ex1 (show 0+1≤n by omega)
 have h3:=p.h3
 rw[oG,fj]
 unfold picD
 have:sz=0∨sz=1∨sz=2∨sz=3:=by omega
 rcases this with rfl | rfl | rfl | rfl<;>rfl
end
section
variable {α:Type}[DecidableEq α]{e:α→D}
theorem p8 {s:Nat}(h:s≤3):2^s≤8:=by
 have:s=0∨s=1∨s=2∨s=3:=by omega
 rcases this with rfl | rfl | rfl | rfl<;>decide
theorem pos2 (s:Nat):0 < 2^s:=Nat.pow_pos (by decide)
theorem ur {a b:Nat}(h0:0 < b)(h1:b < 1073741824):dDiv (.int (a:Int)) (.int (b:Int))=.ok (.int ((a/b:Nat):Int)):=by
 rw[dG (by omega) (by omega)];rfl
end
def rowT {α:Type}(e:α→D)(f:Nat→Nat→α)(w y:Nat):D:=.tup ((List.range w).map fun x=>e (f x y))
def rowsT {α:Type}(e:α→D)(f:Nat→Nat→α)(w h:Nat):D:=.tup ((List.range h).map fun y=>rowT e f w y)
theorem eG {s:Nat}(h:s≤16777216):rng1 [.int (s:Int)]=.ok ((List.range s).map fun i=>D.int ((i:Nat):Int)):=by
 show (if -16777216≤(s:Int)∧(s:Int)≤16777216 then R.ok (rngD 0 (s:Int).toNat) else R.stuck)=_
 rw[if_pos ⟨by omega,by omega⟩]
 unfold rngD
 simp
theorem oY {α:Type}{e:α→D}{f g:Nat→Nat→α}{w y:Nat}(h:∀ x,x < w→f x y=g x y):rowT e f w y=rowT e g w y:=by
 unfold rowT
 congr 1
 exact List.map_congr_left fun x hx=>by rw[h x (List.mem_range.mp hx)]
theorem nA {α:Type}{e:α→D}{f g:Nat→Nat→α}{w k:Nat}(h:∀ x y,x < w→y < k→f x y=g x y):rowsT e f w k=rowsT e g w k:=by
 unfold rowsT
 congr 1
 exact List.map_congr_left fun y hy=>oY fun x hx=>h x y hx (List.mem_range.mp hy)
theorem v7 {α:Type}{e:α→D}{f:Nat→Nat→α}{w x y:Nat}(h:x < w):dIx (rowT e f w y) (.int (x:Int))=.ok (e (f x y)):=ixT (by simp[h])
theorem ut {α:Type}{e:α→D}{f:Nat→Nat→α}{w k y:Nat}(h:y < k):dIx (rowsT e f w k) (.int (y:Int))=.ok (rowT e f w y):=ixT (by simp[h])
section
variable {sz:Nat}{t:Q Int}
theorem rZ {n:Nat}(hn:2≤n)(s x:Int):pf n F.aD [.int s,.int x]=.ok (.bl (decide (0≤x)&&decide (x < s))):=by
 obtain⟨n,rfl,hn⟩:=ex1 (show 1+1≤n by omega)
 rw[mR,dZ,e9 (by omega) rfl]
 simp only[STP,if_true,if_false,ite_true,ite_false,reduceIte,reduceCtorEq,OPP,isW]
def inB (s:Nat)(x y:Int):Bool:=(decide (0≤x)&&decide (x < (s:Int)))&&(decide (0≤y)&&decide (y < (s:Int)))
theorem Pc.spot_any (p:Pc sz t){n:Nat}(hn:3≤n)(x y:Int):pf n F.aG [picD sz t,.int x,.int y]=if inB (2^sz) x y=true then .ok .non else .err 2:=by
 obtain⟨n,rfl,hn⟩:=ex1 (show 2+1≤n by omega)
 rw[kn,cF,p.side (by omega)]
 simp only[STP,if_true,if_false,ite_true,ite_false,reduceIte,reduceCtorEq,rZ (show 2≤n by omega)]
 unfold inB
 cases (decide (0≤x)&&decide (x < ((2^sz:Nat):Int)))<;>cases (decide (0≤y)&&decide (y < ((2^sz:Nat):Int)))<;>rfl
theorem v8 {s x y:Nat}(hx:x < s)(hy:y < s):inB s x y=true:=by unfold inB;simp;omega
theorem xL {s:Nat}{x y:Int}(h:inB s x y=true):∃ a b:Nat,x=a∧y=b∧a < s∧b < s:=by
 unfold inB at h
 simp only[Bool.and_eq_true,decide_eq_true_eq]at h
 exact⟨x.toNat,y.toNat,by omega,by omega,by omega,by omega⟩
end
theorem pZ (n:Nat):dDiv (.int ((2^(n+1):Nat):Int)) (.int 2)=.ok (.int ((2^n:Nat):Int)):=by
 have:=ur (a:=2^(n+1)) (b:=2) (by decide) (by decide)
 rw[show (2^(n+1)/2:Nat)=2^n by rw[bO];omega]at this
 exact this
theorem uu {α:Type}(f:Nat→Nat→α)(a b c d:Nat):sh (sh f a b) c d=sh f (a+c) (b+d):=by
 funext x y;unfold sh;rw[show x+c+a=x+(a+c) by omega,show y+d+b=y+(b+d) by omega]
theorem dH (f:Nat→Nat→Int)(w h:Nat):∀ (n k l tp:Nat),n≤3→l+2^n≤w→tp+2^n≤h→n+2≤k→pf k F.ak [rowsT .int f w h,.int (l:Int),.int (tp:Int),.int ((2^n:Nat):Int)]=.ok ((T (sh f l tp) n).d .int)
 | 0,k,l,tp,_,hl,ht,hk=>by
  obtain⟨k,rfl,hk⟩:=ex1 (show 1+1≤k by omega)
  have e1:=ut (e:=D.int) (f:=f) (w:=w) (k:=h) (y:=tp) (by omega)
  have e2:=v7 (e:=D.int) (f:=f) (w:=w) (x:=l) (y:=tp) (by omega)
  rw[jB,dC,show ((2^0:Nat):Int)=1 from rfl]
  simp only[STP,if_true,if_false,ite_true,ite_false,reduceIte,reduceCtorEq,OPP,decide_true,e1,e2]
  unfold T sh Q.d
  simp
 | n+1,k,l,tp,h3,hl,ht,hk=>by
  obtain⟨k,rfl,hk⟩:=ex1 (show n+2+1≤k by omega)
  rw[bO]at hl ht
  have hp:=pos2 n
  have e0:¬ (((2^(n+1):Nat):Int)=1):=by rw[bO];omega
  have k1:=dH f w h n k l tp (by omega) (by omega) (by omega) (by omega)
  have k2:=dH f w h n k (l+2^n) tp (by omega) (by omega) (by omega) (by omega)
  have k3:=dH f w h n k l (tp+2^n) (by omega) (by omega) (by omega) (by omega)
  have k4:=dH f w h n k (l+2^n) (tp+2^n) (by omega) (by omega) (by omega) (by omega)
  have c1:(l:Int)+((2^n:Nat):Int)=((l+2^n:Nat):Int):=by omega
  have c2:(tp:Int)+((2^n:Nat):Int)=((tp+2^n:Nat):Int):=by omega
  have hpt:=um En.int (n:=k) (by omega) (a:=T (sh f l tp) n) (b:=T (sh f (l+2^n) tp) n) (c:=T (sh f l (tp+2^n)) n) (d:=T (sh f (l+2^n) (tp+2^n)) n) (Nat.le_trans (dF n _) (by omega)) (Nat.le_trans (dF n _) (by omega)) (Nat.le_trans (dF n _) (by omega)) (Nat.le_trans (dF n _) (by omega))
  rw[jB,dC]
  simp only[STP,if_true,if_false,ite_true,ite_false,reduceIte,reduceCtorEq,OPP,decide_eq_false e0,pZ,c1,c2,k1,k2,k3,k4,hpt]
  rw[T,uu,uu,uu,Nat.add_zero,Nat.add_zero]
theorem uv {n:Nat}(hn:3≤n)(f:Nat→Nat→Int)(s y:Nat)(hs:s≤1000)(hw:∀ x,x < s→W9 (f x y)):pf n F.aO [rowT .int f s y,.int (s:Int)]=.ok (.bl true):=by
 obtain⟨n,rfl,hn⟩:=ex1 (show 2+1≤n by omega)
 have hm:cMap (fun worth=>pf n F.af [worth]) ((List.range s).map fun x=>D.int (f x y))=.ok (.lst ((List.range s).map fun x=>D.bl ((fun _=>true) x))) :=
  cj _ _ fun x hx=>by rw[jR (by omega) rfl,in9 (hw x (List.mem_range.mp hx))]
 rw[rz,gm]
 unfold rowT
 have hsq:sq (.tup ((List.range s).map fun x=>D.int (f x y)))=.ok ((List.range s).map fun x=>D.int (f x y)):=fL (by simp;omega)
 simp only[STP,if_true,if_false,ite_true,ite_false,reduceIte,reduceCtorEq,OPP,List.length_map,List.length_range,decide_true,hsq,hm,gM]
 simp
theorem bz {sz:Nat}(h:sz≤3):sz=0∨sz=1∨sz=2∨sz=3:=by omega
theorem nB {sz:Nat}(h:sz≤3):dNotInD (.int ((2^sz:Nat):Int)) (tupI [1,2,4,8])=.ok (.bl false):=by
 rcases bz h with rfl | rfl | rfl | rfl<;>rfl
theorem nC {sz:Nat}(h:sz≤3):(onT (tupI [1,2,4,8]) fun ls=>dIndexI ls [.int ((2^sz:Nat):Int)])=.ok (.int (sz:Int)):=by
 rcases bz h with rfl | rfl | rfl | rfl<;>rfl
theorem oZ {sz:Nat}(h:sz≤3):dIndexI [(.int 1),(.int 2),(.int 4),(.int 8)] [.int ((2^sz:Nat):Int)]=.ok (.int (sz:Int)):=by
 rcases bz h with rfl | rfl | rfl | rfl<;>rfl
def Wo (f:Nat→Nat→Int)(sz:Nat):Prop:=∀ x y,x < 2^sz→y < 2^sz→W9 (f x y)
theorem o0 {n sz:Nat}(hn:4≤n)(h3:sz≤3){f:Nat→Nat→Int}(hw:Wo f sz):pf n F.aM [rowsT .int f (2^sz) (2^sz)]=.ok (.bl true):=by
 obtain⟨n,rfl,hn⟩:=ex1 (show 3+1≤n by omega)
 have h8:=p8 h3
 have hl:(dLen [rowsT .int f (2^sz) (2^sz)])=.ok (.int ((2^sz:Nat):Int)):=by unfold rowsT;rw[bf,List.length_map,List.length_range]
 have hm:cMap (fun row=>(dLen [rowsT .int f (2^sz) (2^sz)]).bind fun x1=>pf n F.aO [row,x1]) ((List.range (2^sz)).map fun y=>rowT .int f (2^sz) y)=.ok (.lst ((List.range (2^sz)).map fun x=>D.bl ((fun _=>true) x))) :=
  cj _ _ fun y hy=>by rw[hl,R.bind_ok,uv (by omega) f _ y (by omega) fun x hx=>hw x y hx (List.mem_range.mp hy)]
 have ht:dIsA qTup (rowsT .int f (2^sz) (2^sz))=.ok (.bl true):=rfl
 have hsq:sq (rowsT .int f (2^sz) (2^sz))=.ok ((List.range (2^sz)).map fun y=>rowT .int f (2^sz) y):=fL (by simp;omega)
 rw[mS,d0]
 simp only[STP,if_true,if_false,ite_true,ite_false,reduceIte,reduceCtorEq,ht,hl,nB h3,hsq]
 rw[hl]at hm
 simp only[STP,if_true,if_false,ite_true,ite_false,reduceIte,reduceCtorEq]at hm
 simp only[STP,if_true,if_false,ite_true,ite_false,reduceIte,reduceCtorEq,hm,gM]
 simp
theorem r6 {n sz:Nat}(hn:6≤n)(h3:sz≤3){f:Nat→Nat→Int}(hw:Wo f sz):pf n F.aQ [rowsT .int f (2^sz) (2^sz)]=.ok (picD sz (T f sz)):=by
 obtain⟨n,rfl,hn⟩:=ex1 (show 5+1≤n by omega)
 have hl:(dLen [rowsT .int f (2^sz) (2^sz)])=.ok (.int ((2^sz:Nat):Int)):=by unfold rowsT;rw[bf,List.length_map,List.length_range]
 have e1:=dH f (2^sz) (2^sz) sz n 0 0 h3 (by omega) (by omega) (by omega)
 rw[oH,fk,o0 (by omega) h3 hw]
 simp only[STP,if_true,if_false,ite_true,ite_false,reduceIte,reduceCtorEq,hl,nC h3]
 rw[show ((0:Nat):Int)=0 from rfl]at e1
 rw[e1]
 rfl
def rowL {α:Type}(e:α→D)(f:Nat→Nat→α)(w y:Nat):D:=.lst ((List.range w).map fun x=>e (f x y))
def rowsL {α:Type}(e:α→D)(f:Nat→Nat→α)(w h:Nat):D:=.lst ((List.range h).map fun y=>rowL e f w y)
theorem uw {α:Type}{e:α→D}{f:Nat→Nat→α}{w k y:Nat}(h:y < k):dIx (rowsL e f w k) (.int (y:Int))=.ok (rowL e f w y):=ixL (by simp[h])
theorem catL {xs ys:List D}(h:xs.length+ys.length≤16777216):dAdd (.lst xs) (.lst ys)=.ok (.lst (xs++ys)):=by
 show (if xs.length+ys.length≤16777216 then R.ok (D.lst (xs++ys)) else R.stuck)=_
 rw[if_pos h]
theorem ux {α:Type}{e:α→D}{fa fb F:Nat→Nat→α}{h y y':Nat}(ha:∀ x,x < h→F x y'=fa x y)(hb:∀ x,x < h→F (h+x) y'=fb x y):((List.range h).map fun x=>e (fa x y))++((List.range h).map fun x=>e (fb x y))=(List.range (h+h)).map fun x=>e (F x y'):=by
 rw[List.range_add,List.map_append,List.map_map]
 congr 1
 ·exact List.map_congr_left fun x hx=>by rw[ha x (List.mem_range.mp hx)]
 ·exact List.map_congr_left fun x hx=>by show _=e (F (h+x) y');rw[hb x (List.mem_range.mp hx)]
theorem bJ {xs ys:List D}(h:xs.length+ys.length≤16777216):oExt xs (.lst ys)=.ok (xs++ys):=by unfold oExt;simp[h]
theorem uy {xs ys:List D}(h:xs.length+ys.length≤16777216):oExt xs (.tup ys)=.ok (xs++ys):=by unfold oExt;simp[h]
theorem v9 {xs:List D}{y:D}(h:xs.length < 16777216):oApp xs y=.ok (xs++[y]):=by unfold oApp;simp[h]
section
variable {α:Type}[DecidableEq α]{e:α→D}
theorem nD {fa fb F:Nat→Nat→α}{h o:Nat}(hh:h≤1000){some_:List D}{u:Nat}(e1:some_[u]?=some (rowsL e fa h h))(e2:some_[u+1]?=some (rowsL e fb h h))(ha:∀ x y,x < h→y < h→F x (o+y)=fa x y)(hb:∀ x y,x < h→y < h→F (h+x) (o+y)=fb x y){t:Nat→List D→R D}{made:List D}(hm:made.length≤1000) :
  cT t (.lst some_) made (.int (u:Int))=.nx (made++(List.range h).map fun y=>rowL e F (h+h) (o+y)):=by
 have i1:=ixL e1
 have i2:dIx (.lst some_) (.int ((u:Int)+1))=.ok (rowsL e fb h h):=by have:=ixL e2;rw[show ((u+1:Nat):Int)=(u:Int)+1 by omega]at this;exact this
 have hl:dLen [rowsL e fa h h]=.ok (.int (h:Int)):=by unfold rowsL;rw[gJ,List.length_map,List.length_range]
 have hc:cMap (fun yY=>((dIx (.lst some_) (.int (u:Int))).bind fun x2=>dIx x2 yY).bind fun x3=>(((dAdd (.int (u:Int)) (.int 1)).bind fun x4=>dIx (.lst some_) x4).bind fun x5=>dIx x5 yY).bind fun x6=>dAdd x3 x6) ((List.range h).map fun i=>D.int ((i:Nat):Int))=.ok (.lst ((List.range h).map fun y=>rowL e F (h+h) (o+y))) :=
  cj _ _ fun y hy=>by
   have hy:=List.mem_range.mp hy
   rw[i1]
   simp only[STP,if_true,if_false,ite_true,ite_false,reduceIte,reduceCtorEq,OPP,i2,uw hy]
   unfold rowL
   rw[catL (by simp;omega),ux (F:=F) (y':=o+y) (fun x hx=>ha x y hx hy) (fun x hx=>hb x y hx hy)]
 unfold cT
 rw[i1]
 simp only[STP,if_true,if_false,ite_true,ite_false,reduceIte,reduceCtorEq,hl,eG (show h≤16777216 by omega)]
 rw[i1]at hc
 simp only[STP,if_true,if_false,ite_true,ite_false,reduceIte,reduceCtorEq]at hc
 simp only[STP,if_true,if_false,ite_true,ite_false,reduceIte,reduceCtorEq,hc]
 rw[bJ (by simp;omega)]
 rfl
theorem db (E:En e):∀ (s:Nat) (t:Q α) (n:Nat),s≤3→t.dep≤s→s+1≤n→pf n F.aq [.int (s:Int),t.d e]=.ok (rowsL e (t.at s) (2^s) (2^s))
 | 0,t,n,_,hd,hn=>by
  obtain⟨n,rfl,hn⟩:=ex1 (show 0+1≤n by omega)
  rw[gC,cv,show ((0:Nat):Int)=0 from rfl]
  simp only[STP,if_true,if_false,ite_true,ite_false,reduceIte,reduceCtorEq,OPP,decide_true]
  cases t with
  | lf a=>rfl
  | nd=>simp[Q.dep]at hd
 | s+1,t,n,h3,hd,hn=>by
  obtain⟨n,rfl,hn⟩:=ex1 (show s+1+1≤n by omega)
  have e0:¬ (((s+1:Nat):Int)=0):=by omega
  have e1:((s+1:Nat):Int) - 1=(s:Int):=by omega
  have h8:=p8 (show s≤3 by omega)
  obtain⟨a,b,c,d,hq,ha,hb,hc,hd4,hF⟩:∃ a b c d:Q α,(rIf (asB (dIsA qTup (t.d e))) (.ok (t.d e)) (dMul (.tup [t.d e]) (.int 4)))=.ok (.tup [a.d e,b.d e,c.d e,d.d e])∧a.dep≤s∧b.dep≤s∧c.dep≤s∧d.dep≤s∧∀ x y,t.at (s+1) x y=(Q.nd a b c d).at (s+1) x y:=by
   cases t with
   | lf v =>
    refine⟨.lf v,.lf v,.lf v,.lf v,?_,Nat.zero_le _,Nat.zero_le _,Nat.zero_le _,Nat.zero_le _,fun x y=>by simp[Q.at]⟩
    rw[cy (d:=Q.d e (.lf v)) (E.tup v) (c9 (E.gd 0 v))]
    rfl
   | nd a b c d =>
    have hd':1+max (max a.dep b.dep) (max c.dep d.dep)≤s+1:=hd
    exact⟨a,b,c,d,rfl,by omega,by omega,by omega,by omega,fun _ _=>rfl⟩
  have ka:=db E s a n (by omega) ha (by omega)
  have kb:=db E s b n (by omega) hb (by omega)
  have kc:=db E s c n (by omega) hc (by omega)
  have kd:=db E s d n (by omega) hd4 (by omega)
  have hm:cMap (fun zb=>(dSub (.int ((s+1:Nat):Int)) (.int 1)).bind fun x=>pf n F.aq [x,zb]) [a.d e,b.d e,c.d e,d.d e]=.ok (.lst [rowsL e (a.at s) (2^s) (2^s),rowsL e (b.at s) (2^s) (2^s),rowsL e (c.at s) (2^s) (2^s),rowsL e (d.at s) (2^s) (2^s)]):=by
   rw[c8,e1];exact cMap4 ka kb kc kd
  have u1:=nD (e:=e) (fa:=a.at s) (fb:=b.at s) (F:=t.at (s+1)) (h:=2^s) (o:=0) (by omega) (some_:=[rowsL e (a.at s) (2^s) (2^s),rowsL e (b.at s) (2^s) (2^s),rowsL e (c.at s) (2^s) (2^s),rowsL e (d.at s) (2^s) (2^s)]) (u:=0) rfl rfl
   (fun x y hx hy=>by rw[hF,Q.at,if_pos (by omega),if_pos hx,Nat.zero_add]) (fun x y hx hy=>by rw[hF,Q.at,if_pos (by omega),if_neg (by omega),Nat.zero_add,Nat.add_sub_cancel_left]) (t:=pf n) (made:=[]) (by simp)
  have u2:=nD (e:=e) (fa:=c.at s) (fb:=d.at s) (F:=t.at (s+1)) (h:=2^s) (o:=2^s) (by omega) (some_:=[rowsL e (a.at s) (2^s) (2^s),rowsL e (b.at s) (2^s) (2^s),rowsL e (c.at s) (2^s) (2^s),rowsL e (d.at s) (2^s) (2^s)]) (u:=2) rfl rfl
   (fun x y hx hy=>by rw[hF,Q.at,if_neg (by omega),if_pos hx,Nat.add_sub_cancel_left]) (fun x y hx hy=>by rw[hF,Q.at,if_neg (by omega),if_neg (by omega),Nat.add_sub_cancel_left,Nat.add_sub_cancel_left]) (t:=pf n) (made:=(List.range (2^s)).map fun y=>rowL e (t.at (s+1)) (2^s+2^s) (0+y)) (by simp;omega)
  rw[gC,cv,hq]
  have hs2:sq (.tup [(.int 0),(.int 2)])=.ok [.int 0,.int 2]:=rfl
  rw[show ((0:Nat):Int)=0 from rfl]at u1
  rw[show ((2:Nat):Int)=2 from rfl]at u2
  simp only[STP,if_true,if_false,ite_true,ite_false,reduceIte,reduceCtorEq,OPP,decide_eq_false e0,sq4,e1,hs2,aK,jt]at hm ⊢
  simp only[STP,if_true,if_false,ite_true,ite_false,reduceIte,reduceCtorEq,hm,u1,List.nil_append]at u2 ⊢
  simp only[STP,if_true,if_false,ite_true,ite_false,reduceIte,reduceCtorEq,u2]
  unfold rowsL
  rw[bO,List.range_add,List.map_append,List.map_map]
  simp[Function.comp_def]
end
theorem Pc.lrows {sz:Nat}{t:Q Int}(p:Pc sz t){n:Nat}(hn:5≤n):pf n F.aP [picD sz t]=.ok (rowsT .int (t.at sz) (2^sz) (2^sz)):=by
 obtain⟨n,rfl,hn⟩:=ex1 (show 4+1≤n by omega)
 have h3:=p.h3
 have h8:=p8 h3
 have e1:=db En.int sz t n h3 p.dep (by omega)
 have hsq:sq (rowsL .int (t.at sz) (2^sz) (2^sz))=.ok ((List.range (2^sz)).map fun y=>rowL .int (t.at sz) (2^sz) y):=dr (by simp;omega)
 have hm:cMap (fun zr=>dTuple [zr]) ((List.range (2^sz)).map fun y=>rowL .int (t.at sz) (2^sz) y)=.ok (.lst ((List.range (2^sz)).map fun y=>rowT .int (t.at sz) (2^sz) y)):=cj _ _ fun y _=>rfl
 rw[rD,gr]
 unfold picD
 simp only[STP,if_true,if_false,ite_true,ite_false,reduceIte,reduceCtorEq,OPP,e1,hsq,hm]
 rfl
theorem nE {α:Type}(c:α→D){step:List D→D→L (List D)}(g:α→List D)(m:Nat):∀ (l:List α) (acc:List D),(∀ a∈l,∀ acc:List D,acc.length≤10000→step acc (c a)=.nx (acc++g a))→(∀ a∈l,(g a).length≤m)→acc.length+l.length*m≤10000→lFor step (l.map c) acc=.nx (acc++l.flatMap g)
 | [],acc,_,_,_=>by simp
 | a::l,acc,h,hm,hl=>by
  have hl':acc.length+(l.length+1)*m≤10000:=hl
  rw[Nat.add_mul]at hl'
  have ha:=hm a (.head _)
  rw[List.map_cons,aK,h a (.head _) acc (by omega),aS,nE c g m l (acc++g a) (fun b hb=>h b (.tail _ hb)) (fun b hb=>hm b (.tail _ hb)) (by rw[List.length_append];omega),List.flatMap_cons,List.append_assoc]
theorem jU:∀ is:List Int,intsOf (is.map .int)=some is
 | []=>rfl
 | i::r=>by rw[List.map_cons,intsOf,jU r];rfl
def vals (f:Nat→Nat→Int)(w k:Nat):List Int:=(List.range k).flatMap fun y=>(List.range w).map fun x=>f x y
theorem uz (f:Nat→Nat→Int)(w k:Nat):(vals f w k).length=k*w:=by
 unfold vals
 rw[List.length_flatMap]
 have:∀ l:List Nat,(l.map fun y=>((List.range w).map fun x=>f x y).length).sum=l.length*w:=fun l=>by
  induction l with
  | nil=>simp
  | cons a l ih=>rw[List.map_cons,List.sum_cons,ih,List.length_map,List.length_range,List.length_cons,Nat.add_mul];omega
 rw[this,List.length_range]
theorem nF {f:Nat→Nat→Int}{w k:Nat}{v:Int}:v∈vals f w k↔∃ x y,x < w∧y < k∧v=f x y:=by
 unfold vals
 simp only[List.mem_flatMap,List.mem_map,List.mem_range]
 constructor
 ·rintro ⟨y,hy,x,hx,rfl⟩;exact⟨x,y,hx,hy,rfl⟩
 ·rintro ⟨x,y,hx,hy,rfl⟩;exact⟨y,hy,x,hx,rfl⟩
theorem uA:∀ {l:List Int},l.eraseDups.length=1↔∃ a r,l=a::r∧∀ v∈l,v=a
 | []=>by simp
 | a::r=>by
  rw[List.eraseDups_cons]
  constructor
  ·intro h
   have h0:(r.filter fun b=>!b==a).eraseDups=[]:=List.length_eq_zero_iff.mp (by simpa using h)
   have h1:(r.filter fun b=>!b==a)=[]:=by
    cases q:(r.filter fun b=>!b==a) with
    | nil=>rfl
    | cons b s=>rw[q,List.eraseDups_cons]at h0;cases h0
   refine⟨a,r,rfl,fun v hv=>?_⟩
   cases hv with
   | head=>rfl
   | tail _ hv =>
    rw[List.filter_eq_nil_iff]at h1
    simpa using h1 v hv
  ·rintro ⟨a',r',e,h⟩
   cases e
   have:(r.filter fun b=>!b==a)=[]:=List.filter_eq_nil_iff.mpr fun v hv=>by simpa using h v (.tail _ hv)
   rw[this];rfl
theorem k7 {f:Nat→Nat→Int}{w k:Nat}(hw:0 < w)(hk:0 < k):∃ r,vals f w k=f 0 0::r:=by
 obtain⟨w,rfl⟩:∃ m,w=m+1:=⟨w - 1,by omega⟩
 obtain⟨k,rfl⟩:∃ m,k=m+1:=⟨k - 1,by omega⟩
 unfold vals
 rw[List.range_succ_eq_map (n:=k),List.flatMap_cons,List.range_succ_eq_map (n:=w),List.map_cons]
 exact⟨_,rfl⟩
theorem uB {f:Nat→Nat→Int}{w k:Nat}(hw:0 < w)(hk:0 < k):(vals f w k).eraseDups.length=1↔∀ x y,x < w→y < k→f x y=f 0 0:=by
 rw[uA]
 obtain⟨r,hr⟩:=k7 (f:=f) hw hk
 constructor
 ·rintro ⟨a,r',e,h⟩ x y hx hy
  rw[hr]at e
  cases e
  exact h _ (nF.mpr ⟨x,y,hx,hy,rfl⟩)
 ·intro h
  refine⟨_,r,hr,fun v hv=>?_⟩
  obtain⟨x,y,hx,hy,rfl⟩:=nF.mp hv
  exact h x y hx hy
theorem T_nd {α:Type}[DecidableEq α]{n:Nat}{f:Nat→Nat→α}(h:¬ ∀ x y,x < 2^(n+1)→y < 2^(n+1)→f x y=f 0 0):T f (n+1)=.nd (T f n) (T (sh f (2^n) 0) n) (T (sh f 0 (2^n)) n) (T (sh f (2^n) (2^n)) n):=by
 by_cases q:∃ v,T f (n+1)=.lf v
 ·obtain⟨v,q⟩:=q
  exfalso
  apply h
  intro x y hx hy
  have:=T_at (n+1) f x y hx hy
  rw[q,kY]at this
  have h0:=T_at (n+1) f 0 0 (pos2 _) (pos2 _)
  rw[q,kY]at h0
  rw[← this,h0]
 ·rw[T]at q ⊢
  unfold put4 at q ⊢
  split
  ·rename_i v e
   split
   ·rename_i h';exfalso;apply q;rw[e];simp only;rw[if_pos h'];exact⟨v,rfl⟩
   ·rw[e]
  ·rfl
theorem i9 {n d k:Nat}(h:k≤n):HT.sIx n d (some ((k:Nat):Int))=k:=by
 unfold HT.sIx
 simp only
 rw[if_neg (by omega)]
 rw[Int.toNat_natCast]
 omega
theorem k8 {g:Nat→D}{w a h:Nat}(hw:a+h≤w):cutD ((List.range w).map g) (some ((a:Nat):Int)) (some ((a+h:Nat):Int))=(List.range h).map fun i=>g (a+i):=by
 unfold cutD
 rw[List.length_map,List.length_range,i9 (by omega),i9 (by omega),← List.map_drop,← List.map_take]
 have:((List.range w).drop a).take (a+h - a)=(List.range h).map (a + ·):=by
  rw[show a+h - a=h by omega]
  apply List.ext_getElem?
  intro i
  rw[List.getElem?_take]
  by_cases hi:i < h
  ·rw[if_pos hi,List.getElem?_drop,List.getElem?_range (by omega),List.getElem?_map,List.getElem?_range hi];rfl
  ·rw[if_neg hi,List.getElem?_eq_none (by simp;omega)]
 rw[this,List.map_map]
 rfl
def seqD (b:Bool)(xs:List D):D:=if b then .tup xs else .lst xs
theorem o3 {b:Bool}{xs:List D}(h:xs.length≤16777216):sq (seqD b xs)=.ok xs:=by cases b;exact dr h;exact fL h
theorem wa {b:Bool}{xs:List D}{lo hi:Option Int}:dSw (seqD b xs) lo hi=.ok (seqD b (cutD xs lo hi)):=by cases b<;>rfl
theorem nG {b:Bool}{xs:List D}:dLen [seqD b xs]=.ok (.int xs.length):=by cases b<;>rfl
def rowsS {α:Type}(b:Bool)(e:α→D)(f:Nat→Nat→α)(w h:Nat):D:=seqD b ((List.range h).map fun y=>rowT e f w y)
theorem r8:∀ (n:Nat) (b:Bool) (f:Nat→Nat→Int) (k:Nat),n≤3→n+1≤k→pf k F.aL [rowsS b .int f (2^n) (2^n)]=.ok ((T f n).d .int):=by
 have flat:∀ (b:Bool) (f:Nat→Nat→Int) (s:Nat) (t:Nat→List D→R D),s≤8→lFor (τ:=List D) (fun s x=>cG t s x) ((List.range s).map fun y=>rowT .int f s y) []=.nx ((vals f s s).map .int):=fun b f s t hs=>by
  have h8:s*s≤64:=Nat.mul_le_mul hs hs
  have:=nE (fun y=>rowT .int f s y) (step:=fun s x=>cG t s x) (fun y=>(List.range s).map fun x=>D.int (f x y)) s (List.range s) [] (fun y hy acc ha=>by
   unfold cG rowT
   rw[uy (by simp;omega)]
   rfl) (fun y hy=>by simp) (by simp;omega)
  rw[this]
  unfold vals
  simp[List.map_flatMap,Function.comp_def]
 intro n
 induction n with
 | zero =>
  intro b f k _ hk
  obtain⟨k,rfl,hk⟩:=ex1 (show 0+1≤k by omega)
  have hf:=flat b f 1 (pf k) (by decide)
  rw[jC,dD]
  unfold rowsS
  rw[show (2^0:Nat)=1 from rfl,o3 (by simp),aB,hf]
  rfl
 | succ n ih =>
  intro b f k h3 hk
  obtain⟨k,rfl,hk⟩:=ex1 (show n+1+1≤k by omega)
  have h8:=p8 h3
  have hp:=pos2 (n+1)
  have hq:=pos2 n
  have hd:=bO n
  have hf:=flat b f (2^(n+1)) (pf k) h8
  have hls:dLenSet [.lst ((vals f (2^(n+1)) (2^(n+1))).map .int)]=.ok (.int ((vals f (2^(n+1)) (2^(n+1))).eraseDups.length:Nat)):=by
   have hl:(vals f (2^(n+1)) (2^(n+1))).length≤4000:=by
    rw[uz];have:=Nat.mul_le_mul h8 h8;omega
   unfold dLenSet;simp only[jU];rw[if_pos hl]
  have hv:=uB (f:=f) hp hp
  obtain⟨r,hr⟩:=k7 (f:=f) hp hp
  have hsq:sq (rowsS b .int f (2^(n+1)) (2^(n+1)))=.ok ((List.range (2^(n+1))).map fun y=>rowT .int f (2^(n+1)) y):=o3 (by simp;omega)
  have hln:dLen [rowsS b .int f (2^(n+1)) (2^(n+1))]=.ok (.int ((2^(n+1):Nat):Int)):=by unfold rowsS;rw[nG];simp
  rw[jC,dD]
  by_cases hall:∀ x y,x < 2^(n+1)→y < 2^(n+1)→f x y=f 0 0
  ·have h1:((vals f (2^(n+1)) (2^(n+1))).eraseDups.length:Int)=1:=by have:=hv.mpr hall;omega
   have h2:dIx (.lst ((vals f (2^(n+1)) (2^(n+1))).map .int)) (.int 0)=.ok (.int (f 0 0)):=by
    have:=ixL (xs:=(vals f (2^(n+1)) (2^(n+1))).map .int) (i:=0) (x:=.int (f 0 0)) (by rw[hr];rfl)
    exact this
   have h3:T f (n+1)=.lf (f 0 0):=(bP _ _ _ hall).trans (lX _ _)
   simp only[STP,if_true,if_false,ite_true,ite_false,reduceIte,reduceCtorEq,OPP,hsq,hf,hls,decide_eq_true h1,h2,h3,Q.d]
  ·have h1:¬ ((vals f (2^(n+1)) (2^(n+1))).eraseDups.length:Int)=1:=fun q=>hall (hv.mp (by omega))
   have one:∀ (tp lf:Nat) (parts:List D),tp+2^n≤2^(n+1)→lf+2^n≤2^(n+1)→parts.length≤10→d8 (pf k) (rowsS b .int f (2^(n+1)) (2^(n+1))) (.int ((2^n:Nat):Int)) (.int (tp:Int)) parts (.int (lf:Int))=.nx (parts++[(T (sh f lf tp) n).d .int]):=fun tp lf parts htp hlf hpa=>by
    have c1:(tp:Int)+((2^n:Nat):Int)=((tp+2^n:Nat):Int):=by omega
    have c2:(lf:Int)+((2^n:Nat):Int)=((lf+2^n:Nat):Int):=by omega
    have ai:∀ i:Int,asI (.int i)=.ok (some i):=fun _=>rfl
    have s1:dSw (rowsS b .int f (2^(n+1)) (2^(n+1))) (some (tp:Int)) (some ((tp+2^n:Nat):Int))=.ok (seqD b ((List.range (2^n)).map fun i=>rowT .int f (2^(n+1)) (tp+i))):=by
     unfold rowsS
     rw[wa,k8 htp]
    have s2:sq (seqD b ((List.range (2^n)).map fun i=>rowT .int f (2^(n+1)) (tp+i)))=.ok ((List.range (2^n)).map fun i=>rowT .int f (2^(n+1)) (tp+i)):=o3 (by simp;omega)
    have s3:cMap (fun zr=>dSw zr (some (lf:Int)) (some ((lf+2^n:Nat):Int))) ((List.range (2^n)).map fun i=>rowT .int f (2^(n+1)) (tp+i))=.ok (rowsS false .int (sh f lf tp) (2^n) (2^n)):=by
     refine(cj _ (fun i=>rowT .int (sh f lf tp) (2^n) i) fun i hi=>?_).trans rfl
     unfold rowT
     show R.ok (D.tup (cutD _ _ _))=_
     rw[k8 (g:=fun x=>D.int (f x (tp+i))) hlf]
     unfold sh
     congr 2
     exact List.map_congr_left fun x _=>by rw[Nat.add_comm lf x,Nat.add_comm tp i]
    have s4:=ih false (sh f lf tp) k (by omega) (by omega)
    unfold d8
    simp only[STP,if_true,if_false,ite_true,ite_false,reduceIte,reduceCtorEq,OPP,ai,c1,c2,s1,s2,s3,s4]
    rw[v9 (by omega)]
    rfl
   have pair:∀ (tp:Nat) (parts:List D),tp+2^n≤2^(n+1)→parts.length≤5→d9 (pf k) (rowsS b .int f (2^(n+1)) (2^(n+1))) (.int ((2^n:Nat):Int)) parts (.int (tp:Int))=.nx (parts++[(T (sh f 0 tp) n).d .int,(T (sh f (2^n) tp) n).d .int]):=fun tp parts htp hpa=>by
    have h0:=one tp 0 parts htp (by omega) (by omega)
    have h1:=one tp (2^n) (parts++[(T (sh f 0 tp) n).d .int]) htp (by omega) (by simp;omega)
    have hs2:sq (.tup [(.int 0),(.int ((2^n:Nat):Int))])=.ok [.int 0,.int ((2^n:Nat):Int)]:=rfl
    rw[show ((0:Nat):Int)=0 from rfl]at h0
    unfold d9
    simp only[STP,if_true,if_false,ite_true,ite_false,reduceIte,reduceCtorEq,hs2,aK,jt,h0,h1,List.append_assoc,List.cons_append,List.nil_append]
   have p0:=pair 0 [] (by omega) (by simp)
   have p1:=pair (2^n) [(T (sh f 0 0) n).d .int,(T (sh f (2^n) 0) n).d .int] (by omega) (by simp)
   have hs2:sq (.tup [(.int 0),(.int ((2^n:Nat):Int))])=.ok [.int 0,.int ((2^n:Nat):Int)]:=rfl
   rw[show ((0:Nat):Int)=0 from rfl]at p0
   rw[T_nd hall]
   simp only[STP,if_true,if_false,ite_true,ite_false,reduceIte,reduceCtorEq,OPP,hsq,hf,hls,decide_eq_false h1,hln,pZ,hs2,aK,jt,p0,List.nil_append,p1,List.cons_append,Q.d]
   rfl
theorem xM {n:Nat}(b:Bool)(f:Nat→Nat→Int){sz:Nat}(h3:sz≤3)(hn:5≤n):pf n F.aS [rowsS b .int f (2^sz) (2^sz)]=.ok (picD sz (T f sz)):=by
 obtain⟨n,rfl,hn⟩:=ex1 (show 4+1≤n by omega)
 have hln:dLen [rowsS b .int f (2^sz) (2^sz)]=.ok (.int ((2^sz:Nat):Int)):=by unfold rowsS;rw[nG];simp
 have e1:(onL (.lst [(.int 1),(.int 2),(.int 4),(.int 8)]) fun ls=>dIndexI ls [.int ((2^sz:Nat):Int)])=.ok (.int (sz:Int)):=oZ h3
 have e2:=r8 sz b f n h3 (by omega)
 rw[vV,lJ]
 simp only[STP,if_true,if_false,ite_true,ite_false,reduceIte,reduceCtorEq,hln,e1,e2]
 rfl
theorem wB {n:Nat}(f:Nat→Nat→Int){sz:Nat}(h3:sz≤3)(hn:5≤n):pf n F.aS [rowsT .int f (2^sz) (2^sz)]=.ok (picD sz (T f sz)):=xM true f h3 hn
section
variable {sz:Nat}{tr:Q Int}
end
theorem wc (i:Int):asI (.int i)=.ok (some i):=rfl
section
variable {sz:Nat}{tr:Q Int}
end
theorem iH {α τ:Type}(f:τ→α→L τ):∀ (xs ys:List α) (s:τ),lFor f (xs++ys) s=lS (lFor f xs s) fun s'=>lFor f ys s'
 | [],ys,s=>rfl
 | x::xs,ys,s=>by
  rw[List.cons_append,aK,aK]
  cases f s x with
  | nx s'=>exact iH f xs ys s'
  | rt d=>rfl
  | er k=>rfl
  | stuck=>rfl
theorem nH {α τ:Type}{f:τ→α→L τ}(c:Nat→α)(inv:Nat→τ):∀ n,(∀ i,i < n→f (inv i) (c i)=.nx (inv (i+1)))→lFor f ((List.range n).map c) (inv 0)=.nx (inv n)
 | 0,_=>rfl
 | n+1,h=>by
  rw[List.range_succ,List.map_append,iH,nH c inv n fun i hi=>h i (by omega),aS,List.map_cons,List.map_nil,aK,h n (by omega)]
  rfl
theorem nI {α:Type}{f:Unit→α→L Unit}:∀ (l:List α),(∀ a∈l,f () a=.nx ())→lFor f l ()=.nx ()
 | [],_=>rfl
 | a::l,h=>by rw[aK,h a (.head _),aS];exact nI l fun b hb=>h b (.tail _ hb)
theorem uC {a b:Nat}(h:a≤b)(hb:b≤1000000):rng2 [.int (a:Int),.int (b:Int)]=.ok ((List.range (b - a)).map fun i=>D.int (((a+i:Nat)):Int)):=by
 show (if (-16777216≤(a:Int)∧(a:Int)≤16777216)∧(-16777216≤(b:Int)∧(b:Int)≤16777216)∧(b:Int) - (a:Int)≤16777216 then R.ok (rngD (a:Int) ((b:Int) - (a:Int)).toNat) else R.stuck)=_
 rw[if_pos ⟨by omega,by omega,by omega⟩]
 unfold rngD
 rw[show ((b:Int) - (a:Int)).toNat=b - a by omega]
 congr 1
structure Sh (sz:Nat)(g:Nat→Nat→Int)(t:Q Int):Prop where
 p:Pc sz t
 w:∀ x y,x < 2^sz→y < 2^sz→t.at sz x y=g x y
theorem Sh.wo {sz:Nat}{g:Nat→Nat→Int}{t:Q Int}(h:Sh sz g t):Wo g sz:=fun x y hx hy=>by rw[← h.w x y hx hy];exact h.p.at x y
theorem sh_T {sz:Nat}{g:Nat→Nat→Int}(h3:sz≤3)(h:Wo g sz):Sh sz g (T g sz):=⟨pc_T h3 h,fun x y hx hy=>T_at sz g x y hx hy⟩
theorem Pc.sh {sz:Nat}{t:Q Int}(p:Pc sz t):Sh sz (t.at sz) t:=⟨p,fun _ _ _ _=>rfl⟩
section
variable {sz:Nat}{g:Nat→Nat→Int}{t:Q Int}
theorem Sh.lean (q:Sh sz g t){n:Nat}(hn:10≤n):pf n F.aW [picD sz t]=.ok (picD sz (T g sz)):=by rw[q.p.lean hn,bP sz _ _ q.w]
theorem Sh.lrows (q:Sh sz g t){n:Nat}(hn:5≤n):pf n F.aP [picD sz t]=.ok (rowsT .int g (2^sz) (2^sz)):=by rw[q.p.lrows hn,nA q.w]
end
theorem uD {xs:List D}{a:Nat}(h:a≤xs.length):cutD xs none (some ((a:Nat):Int))=xs.take a:=by
 unfold cutD
 rw[i9 h,HT.l9]
 simp
theorem jV {xs:List D}{a:Nat}(h:a≤xs.length):cutD xs (some ((a:Nat):Int)) none=xs.drop a:=by
 unfold cutD
 rw[i9 h,HT.l9,List.take_of_length_le (by simp)]
section
variable {sz:Nat}{g:Nat→Nat→Int}{t:Q Int}
end
theorem gR {x:D}(h:good 60 x=true):dNf x x=.ok (.bl false):=by rw[jP h h,FF.fS 60 x h];rfl
theorem Pc.g60 {sz:Nat}{t:Q Int}(p:Pc sz t):FF.good 60 (picD sz t)=true:=cn p.good (by decide)
def th (w:Nat):Nat→D→Bool
 | n+1,.tup xs=>decide (xs.length≤w)&&xs.all (th w n)
 | 0,.tup _=>false
 | _,.lst xs=>decide (xs.length≤w)&&xs.all flatD
 | _,.exc _=>false
 | _,.fn _=>false
 | _,.tab _ _=>false
 | _,.dic _ _=>false
 | _,_=>true
def kid (xs:List D)(i:Nat):D:=xs[i]?.getD .non
def places:Nat→D→List (List Nat)
 | n+1,.tup xs=>[]::(List.range xs.length).flatMap fun i=>(places n (kid xs i)).map (i::·)
 | _,_=>[[]]
def pD (p:List Nat):D:=.tup (p.map fun (i:Nat)=>.int (i:Int))
theorem o4 {xs:List D}{i:Nat}(h:i < xs.length):xs[i]?=some (kid xs i):=by
 unfold kid;rw[List.getElem?_eq_getElem h];rfl
theorem dg {xs:List D}{i:Nat}(h:i < xs.length):kid xs i∈xs:=by
 have:=o4 h
 exact List.mem_of_getElem? this
theorem lZ {xs:List D}{i:Nat}(h:i < xs.length):dIx (.tup xs) (.int (i:Int))=.ok (kid xs i):=by
 have e:L2.atI xs (i:Int)=some (kid xs i):=by
  unfold L2.atI L2.ixN
  rw[if_pos (by omega),if_pos (by omega)]
  show xs[(i:Int).toNat]?=_
  rw[Int.toNat_natCast]
  exact o4 h
 show (match L2.atI xs (i:Int) with | some d=>R.ok d | none=>R.stuck)=_
 rw[e]
theorem bj {w n:Nat}{xs:List D}:th w (n+1) (.tup xs)=true↔xs.length≤w∧∀ x∈xs,th w n x=true:=by
 rw[th,Bool.and_eq_true,decide_eq_true_eq,List.all_eq_true]
theorem jW {w n:Nat}{d:D}(h:th w n d=true):noX d=true:=by
 cases d<;>first | rfl | (cases n<;>simp[th]at h)
theorem k9 {n:Nat}{d:D}(h:flatD d=true):good n d=true:=by
 cases d<;>first | (simp[flatD]at h;done) | (cases n<;>rfl)
theorem r9 {n:Nat}{d:D}(h:flatD d=true):slim n d=true:=by
 cases d<;>first | (simp[flatD]at h;done) | (cases n<;>rfl)
theorem l0 {w:Nat}:∀ {n:Nat} {d:D},th w n d=true→good (n+1) d=true:=by
 intro n
 induction n with
 | zero =>
  intro d h
  cases d with
  | lst xs =>
   simp only[th,Bool.and_eq_true,decide_eq_true_eq,List.all_eq_true]at h
   rw[good]
   exact bI fun x hx=>k9 (h.2 x hx)
  | _=>first | rfl | (simp[th]at h)
 | succ n ih =>
  intro d h
  cases d with
  | tup xs =>
   rw[good]
   exact bI fun x hx=>ih ((bj.mp h).2 x hx)
  | lst xs =>
   simp only[th,Bool.and_eq_true,decide_eq_true_eq,List.all_eq_true]at h
   rw[good]
   exact bI fun x hx=>k9 (h.2 x hx)
  | _=>first | rfl | (simp[th]at h)
theorem wd {w:Nat}(hw:w≤1000):∀ {n:Nat} {d:D} (m:Nat),th w n d=true→slim m d=true:=by
 have hl:∀ {n:Nat} {xs:List D} (m:Nat),th w n (.lst xs)=true→slim m (.lst xs)=true:=fun {n xs} m h=>by
  have h':xs.length≤w∧∀ x∈xs,flatD x=true:=by
   cases n<;>simpa only[th,Bool.and_eq_true,decide_eq_true_eq,List.all_eq_true] using h
  cases m with
  | zero=>rfl
  | succ m =>
   rw[slim,Bool.and_eq_true,decide_eq_true_eq,List.all_eq_true]
   exact⟨by omega,fun x hx=>r9 (h'.2 x hx)⟩
 intro n
 induction n with
 | zero =>
  intro d m h
  cases d with
  | lst xs=>exact hl m h
  | _=>first | (cases m<;>rfl) | (simp[th]at h)
 | succ n ih =>
  intro d m h
  cases d with
  | lst xs=>exact hl m h
  | tup xs =>
   cases m with
   | zero=>rfl
   | succ m =>
    rw[slim,Bool.and_eq_true,decide_eq_true_eq,List.all_eq_true]
    exact⟨by have:=(bj.mp h).1;omega,fun x hx=>ih m ((bj.mp h).2 x hx)⟩
  | _=>first | (cases m<;>rfl) | (simp[th]at h)
theorem nJ {w v:Nat}(hv:w≤v):∀ {n m:Nat} {d:D},th w n d=true→n≤m→th v m d=true:=by
 have hl:∀ {n m:Nat} {xs:List D},th w n (.lst xs)=true→th v m (.lst xs)=true:=fun {n m xs} h=>by
  have h':xs.length≤w∧∀ x∈xs,flatD x=true:=by
   cases n<;>simpa only[th,Bool.and_eq_true,decide_eq_true_eq,List.all_eq_true] using h
  have:xs.length≤v∧∀ x∈xs,flatD x=true:=⟨by omega,h'.2⟩
  cases m<;>simpa only[th,Bool.and_eq_true,decide_eq_true_eq,List.all_eq_true] using this
 intro n
 induction n with
 | zero =>
  intro m d h _
  cases d with
  | lst xs=>exact hl h
  | _=>first | (cases m<;>rfl) | (simp[th]at h)
 | succ n ih =>
  intro m d h hm
  cases d with
  | lst xs=>exact hl h
  | tup xs =>
   obtain⟨m,rfl⟩:∃ k,m=k+1:=⟨m - 1,by omega⟩
   exact bj.mpr ⟨by have:=(bj.mp h).1;omega,fun x hx=>ih ((bj.mp h).2 x hx) (by omega)⟩
  | _=>first | (cases m<;>rfl) | (simp[th]at h)
theorem jX {α:Type}{g:Nat→List α}{b:Nat}:∀ k,(∀ i,i < k→(g i).length≤b)→((List.range k).flatMap g).length≤k*b
 | 0,_=>by simp
 | k+1,h=>by
  rw[List.range_succ,List.flatMap_append,List.length_append,Nat.succ_mul]
  have h1:=jX k fun i hi=>h i (by omega)
  have h2:=h k (by omega)
  have:([k].flatMap g).length=(g k).length:=by simp
  omega
theorem o5 (n:Nat)(d:D):1≤(places n d).length:=by
 cases n with
 | zero=>cases d<;>exact Nat.le_refl 1
 | succ n=>cases d<;>first | (show 1≤_+1;omega) | exact Nat.le_refl 1
theorem jY {w:Nat}:∀ {n:Nat} {d:D},th w n d=true→(places n d).length≤(w+1)^n:=by
 intro n
 induction n with
 | zero=>intro d h;cases d<;>exact Nat.le_refl 1
 | succ n ih =>
  intro d h
  have h1:1≤(w+1)^(n+1):=Nat.pow_pos (by omega)
  cases d with
  | tup xs =>
   have ht:=bj.mp h
   have:=jX (g:=fun i=>(places n (kid xs i)).map (i::·)) (b:=(w+1)^n) xs.length fun i hi=>by
    rw[List.length_map];exact ih (ht.2 _ (dg hi))
   show ((List.range xs.length).flatMap fun i=>(places n (kid xs i)).map (i::·)).length+1≤_
   have h2:xs.length*(w+1)^n≤w*(w+1)^n:=Nat.mul_le_mul_right _ ht.1
   have h3:1≤(w+1)^n:=Nat.pow_pos (by omega)
   have h4:(w+1)^(n+1)=w*(w+1)^n+(w+1)^n:=by rw[Nat.pow_succ,Nat.mul_comm,Nat.succ_mul]
   omega
  | _=>exact h1
theorem uE {w n:Nat}{d:D}(h:th w n d=true)(ht:isTup d=false):dIsA qTup d=.ok (.bl false):=cy ht (jW h)
theorem nK {n:Nat}{d:D}(ht:isTup d=false):places n d=[[]]:=by
 cases n<;>cases d<;>first | rfl | (cases ht;done)
theorem we (k:Nat)(p:List Nat)(h:p.length < 16777216):dAdd (.tup [.int (k:Int)]) (pD p)=.ok (pD (k::p)):=by
 show (if 1+(p.map fun (i:Nat)=>D.int (i:Int)).length≤16777216 then _ else _)=_
 rw[List.length_map,if_pos (by omega)]
 rfl
theorem dh {n:Nat}:∀ {d:D} {p:List Nat},p∈places n d→p.length≤n:=by
 induction n with
 | zero=>intro d p h;cases d<;>simp[places]at h<;>simp[h]
 | succ n ih =>
  intro d p h
  cases d with
  | tup xs =>
   rw[places,List.mem_cons,List.mem_flatMap]at h
   rcases h with rfl | ⟨i,_,h⟩
   ·simp
   ·obtain⟨q,hq,rfl⟩:=List.mem_map.mp h
    have:=ih hq
    simp only[List.length_cons]
    omega
  | _=>simp[places]at h;simp[h]
theorem se {w:Nat}:∀ (n m:Nat) (d:D),th w n d=true→(w+1)^n≤16000000→n+1≤m→w≤1000→n≤1000→pf m F.aw [d]=.ok (.lst ((places n d).map pD)):=by
 have flat:∀ (n m:Nat) (d:D),th w n d=true→isTup d=false→1≤m→pf m F.aw [d]=.ok (.lst ((places n d).map pD)):=fun n m d h ht hm=>by
  obtain⟨m,rfl,_⟩:=ex1 hm
  rw[iD,cU,uE h ht,nK ht]
  simp only[STP,if_true,if_false,ite_true,ite_false,reduceIte,reduceCtorEq]
  rfl
 intro n
 induction n with
 | zero =>
  intro m d h _ hm _ _
  exact flat 0 m d h (by cases d<;>first | rfl | (simp[th]at h)) hm
 | succ n ih =>
  intro m d h hp hm hw hn
  by_cases ht:isTup d=true
  ·cases d with
   | tup xs =>
    have hh:=bj.mp h
    obtain⟨m,rfl,hm⟩:=ex1 hm
    have hpn:(w+1)^n≤16000000:=Nat.le_trans (Nat.pow_le_pow_right (by omega) (Nat.le_succ n)) hp
    have loop:lFor (τ:=List D) (fun s x=>dq (pf m) (.tup xs) s x) ((List.range xs.length).map fun i=>.int (0+((i:Nat):Int))) ((fun k=>([]::(List.range k).flatMap fun i=>(places n (kid xs i)).map (i::·)).map pD) 0)=.nx (([]::(List.range xs.length).flatMap fun i=>(places n (kid xs i)).map (i::·)).map pD):=by
     refine nH _ (fun k=>([]::(List.range k).flatMap fun i=>(places n (kid xs i)).map (i::·)).map pD) xs.length fun i hi=>?_
     have hk:=ih m (kid xs i) (hh.2 _ (dg hi)) hpn (by omega) hw (by omega)
     have hc:cMap (fun yO=>dAdd (.tup [.int (i:Int)]) yO) ((places n (kid xs i)).map pD)=.ok (.lst (((places n (kid xs i)).map (i::·)).map pD)):=by
      rw[cj (l:=places n (kid xs i)) pD (fun p:List Nat=>pD (i::p)) fun p hp=>we i p (by have:=dh hp;omega),List.map_map]
      rfl
     have hl:=jY (hh.2 _ (dg hi))
     have hl2:=jX (g:=fun i=>(places n (kid xs i)).map (i::·)) (b:=(w+1)^n) i fun j hj=>by
      rw[List.length_map];exact jY (hh.2 _ (dg (by omega)))
     have h2:i*(w+1)^n+(w+1)^n≤(w+1)^(n+1):=by
      rw[← Nat.succ_mul,Nat.pow_succ,Nat.mul_comm];exact Nat.mul_le_mul_left _ (by have:=hh.1;omega)
     unfold dq
     rw[show (0:Int)+(i:Int)=(i:Int) by omega,lZ hi]
     simp only[STP,if_true,if_false,ite_true,ite_false,reduceIte,reduceCtorEq,hk,dr (show ((places n (kid xs i)).map pD).length≤16777216 by rw[List.length_map];omega),hc]
     have ho:oExt (([]::(List.range i).flatMap fun i=>(places n (kid xs i)).map (i::·)).map pD) (.lst (((places n (kid xs i)).map (i::·)).map pD))=.ok (([]::(List.range (i+1)).flatMap fun i=>(places n (kid xs i)).map (i::·)).map pD):=by
      show (if _ then _ else _)=_
      rw[if_pos (by simp only[List.length_map,List.length_cons];omega),← List.map_append,List.cons_append,List.range_succ,List.flatMap_append]
      simp
     rw[ho]
     simp only[STP,if_true,if_false,ite_true,ite_false,reduceIte,reduceCtorEq]
    rw[iD,cU]
    have hr:rng1 [.int (xs.length:Int)]=.ok ((List.range xs.length).map fun i=>.int (0+((i:Nat):Int))):=by
     have:=hh.1
     show (if _ then _ else _)=_
     rw[if_pos (by omega)]
     rw[Int.toNat_natCast]
     rfl
    have e0:((fun k=>([]::(List.range k).flatMap fun i=>(places n (kid xs i)).map (i::·)).map pD) 0)=[.tup []]:=rfl
    rw[e0]at loop
    simp only[aX,STP,if_true,if_false,ite_true,ite_false,reduceIte,reduceCtorEq,bf,hr,loop]
    rfl
   | _=>cases ht
  ·exact flat (n+1) m d h (by simpa using ht) (by omega)
def there:D→List Nat→D
 | d,[]=>d
 | .tup xs,i::p=>there (kid xs i) p
 | d,_::_=>d
def putAt:D→List Nat→D→D
 | _,[],e=>e
 | .tup xs,i::p,e=>.tup (xs.set i (putAt (kid xs i) p e))
 | d,_::_,_=>d
theorem eI {n:Nat}{d:D}{i:Nat}{p:List Nat}(h:i::p∈places n d):∃ xs k,n=k+1∧d=.tup xs∧i < xs.length∧p∈places k (kid xs i):=by
 cases n with
 | zero=>cases d<;>simp[places]at h
 | succ n =>
  cases d with
  | tup xs =>
   rw[places,List.mem_cons,List.mem_flatMap]at h
   rcases h with h | ⟨j,hj,h⟩
   ·cases h
   ·obtain⟨q,hq,e⟩:=List.mem_map.mp h
    injection e with e1 e2
    subst e1;subst e2
    exact⟨xs,n,rfl,rfl,List.mem_range.mp hj,hq⟩
  | _=>simp[places]at h
theorem jZ {t:Nat→List D→R D}:∀ {p:List Nat} {n:Nat} {d:D},p∈places n d→lFor (τ:=D) (fun s x=>eh t s x) (p.map fun (i:Nat)=>.int (i:Int)) d=.nx (there d p)
 | [],n,d,_=>by cases d<;>rfl
 | i::p,n,d,h=>by
  obtain⟨xs,k,rfl,rfl,hi,hp⟩:=eI h
  rw[List.map_cons,aK]
  unfold eh
  rw[lZ hi]
  simp only[STP,if_true,if_false,ite_true,ite_false,reduceIte,reduceCtorEq]
  exact jZ (t:=t) hp
theorem nM {w:Nat}:∀ {p:List Nat} {n:Nat} {d:D},p∈places n d→th w n d=true→th w (n - p.length) (there d p)=true
 | [],n,d,_,h=>by cases d<;>exact h
 | i::p,n,d,h,ht=>by
  obtain⟨xs,k,rfl,rfl,hi,hp⟩:=eI h
  have:=nM hp ((bj.mp ht).2 _ (dg hi))
  show th w (k+1 - (p.length+1)) _=true
  rw[Nat.add_sub_add_right]
  exact this
theorem uF {n m:Nat}{d:D}{p:List Nat}(h:p∈places n d)(hm:1≤m)(hn:n≤1000):pf m F.aR [d,pD p]=.ok (there d p):=by
 obtain⟨m,rfl,hm⟩:=ex1 hm
 rw[oI,fm]
 unfold pD
 have hl:=dh h
 rw[fL (by rw[List.length_map];omega)]
 simp only[STP,if_true,if_false,ite_true,ite_false,reduceIte,reduceCtorEq,jZ h]
theorem nN {w:Nat}:∀ {p:List Nat} {n N k:Nat} {d e:D},p∈places n d→th w n d=true→th w k e=true→k+p.length≤N→n≤N→th w N (putAt d p e)=true
 | [],n,N,k,d,e,_,_,he,hk,_=>by cases d<;>exact nJ (Nat.le_refl w) he (by simpa using hk)
 | i::p,n,N,k,d,e,h,hd,he,hk,hn=>by
  obtain⟨xs,j,rfl,rfl,hi,hp⟩:=eI h
  obtain⟨N,rfl⟩:∃ M,N=M+1:=⟨N - 1,by omega⟩
  have ht:=bj.mp hd
  have hr:=nN (N:=N) hp (ht.2 _ (dg hi)) he (by simp only[List.length_cons]at hk;omega) (by omega)
  show th w (N+1) (.tup (xs.set i (putAt (kid xs i) p e)))=true
  refine bj.mpr ⟨by rw[List.length_set];exact ht.1,fun x hx=>?_⟩
  rcases List.mem_or_eq_of_mem_set hx with hx | rfl
  ·exact nJ (Nat.le_refl w) (ht.2 x hx) (by omega)
  ·exact hr
theorem wf {n:Nat}(hn:1≤n)(p:List Nat):good n (pD p)=true:=by
 obtain⟨n,rfl⟩:∃ k,n=k+1:=⟨n - 1,by omega⟩
 unfold pD
 rw[good]
 refine bI fun d hd=>?_
 obtain⟨i,_,rfl⟩:=List.mem_map.mp hd
 cases n<;>rfl
theorem nO (xs ys:List D)(h:xs.length+ys.length≤16777216):dAdd (.tup xs) (.tup ys)=.ok (.tup (xs++ys)):=by
 show (if xs.length+ys.length≤16777216 then _ else _)=_
 rw[if_pos h]
theorem uG {w:Nat}(hw:w≤1000):∀ {p:List Nat} {n m:Nat} {d:D} (e:D),p∈places n d→th w n d=true→p.length+1≤m→pf m F.aT [d,pD p,e]=.ok (putAt d p e)
 | [],n,m,d,e,_,_,hm=>by
  obtain⟨m,rfl,hm⟩:=ex1 (k:=0) (by simpa using hm)
  rw[mW,gu]
  have:dEq (pD []) (.tup [])=.ok (.bl true):=rfl
  simp only[STP,if_true,if_false,ite_true,ite_false,reduceIte,reduceCtorEq,this]
  cases d<;>rfl
 | i::p,n,m,d,e,h,hd,hm=>by
  obtain⟨xs,j,rfl,rfl,hi,hp⟩:=eI h
  have ht:=bj.mp hd
  obtain⟨m,rfl,hm⟩:=ex1 hm
  have ih:=uG hw (m:=m) e hp (ht.2 _ (dg hi)) (by simpa using hm)
  have h0:dEq (pD (i::p)) (.tup [])=.ok (.bl false):=by
   unfold dEq
   rw[if_pos ⟨wf (by decide) _,rfl⟩]
   rfl
  have h1:dIx (pD (i::p)) (.int 0)=.ok (.int (i:Int)):=lZ (xs:=(i::p).map fun (i:Nat)=>D.int (i:Int)) (i:=0) (by simp)
  have h2:dSw (pD (i::p)) (some 1) none=.ok (pD p):=by
   show R.ok (D.tup (cutD _ (some ((1:Nat):Int)) none))=_
   rw[jV (by simp)]
   rfl
  have h3:dSw (.tup xs) none (some (i:Int))=.ok (.tup (xs.take i)):=by
   show R.ok (D.tup (cutD _ none (some (i:Int))))=_
   rw[uD (by omega)]
  have h4:dSw (.tup xs) (some ((i:Int)+1)) none=.ok (.tup (xs.drop (i+1))):=by
   rw[show (i:Int)+1=((i+1:Nat):Int) by omega]
   show R.ok (D.tup (cutD _ (some ((i+1:Nat):Int)) none))=_
   rw[jV (by omega)]
  have h5:∀ v:Int,asI (.int v)=.ok (some v):=fun v=>rfl
  have h6:dAdd (.tup (xs.take i)) (.tup [putAt (kid xs i) p e])=.ok (.tup (xs.take i++[putAt (kid xs i) p e])):=nO _ _ (by simp only[List.length_take,List.length_cons,List.length_nil];omega)
  have h7:dAdd (.tup (xs.take i++[putAt (kid xs i) p e])) (.tup (xs.drop (i+1)))=.ok (.tup (xs.set i (putAt (kid xs i) p e))):=by
   rw[nO _ _ (by simp only[List.length_append,List.length_take,List.length_drop,List.length_cons,List.length_nil];omega),List.set_eq_take_append_cons_drop,if_pos hi,List.append_assoc]
   rfl
  rw[mW,gu]
  simp only[STP,if_true,if_false,ite_true,ite_false,reduceIte,reduceCtorEq,h0,h1,h5,h3,lZ hi,h2,ih,h6,aG,h4,h7]
  rfl
theorem uH {ds:List D}{i:Int}(h0:0≤i)(h:i < ds.length):∃ e∈ds,L2.atI ds i=some e:=by
 refine⟨kid ds i.toNat,dg (by omega),?_⟩
 unfold L2.atI L2.ixN
 rw[if_pos h0,if_pos h]
 exact o4 (by omega)
theorem wj {ds:List D}{i:Int}(h0:0≤i)(h:i < ds.length):∃ e∈ds,oIx ds (.int i)=.ok e:=by
 obtain⟨e,he,h⟩:=uH h0 h
 refine⟨e,he,?_⟩
 show (match L2.atI ds i with | some d=>R.ok d | none=>R.stuck)=_
 rw[h]
theorem wl {ds:List D}{i:Int}(h0:0≤i)(h:i < ds.length):∃ e∈ds,dIx (.lst ds) (.int i)=.ok e:=by
 obtain⟨e,he,h⟩:=uH h0 h
 refine⟨e,he,?_⟩
 show (match L2.atI ds i with | some d=>R.ok d | none=>R.stuck)=_
 rw[h]
def news (here:D):List D:=[(.int (-1)),(.int 0),(.int 3),(.int 4),(.int 9),(.int 10),(.bl true),.non,(.str "1"),(.tup []),(.tup [(.int 1),(.int 2),(.int 3)]),(.tup [(.int 1),(.int 1),(.int 1),(.int 1)]),(.tup [(.int 1),(.int 2),(.int 3),(.int 4),(.int 5)]),(.lst [(.int 1),(.int 2),(.int 3),(.int 4)]),.tup [here,here,here,here]]
theorem wm {w n:Nat}(hw:5≤w){here e:D}(h:th w n here=true)(he:e∈news here):th w (n+1) e=true:=by
 have cons:∀ {xs:List D},xs.length≤w→(∀ x∈xs,th w n x=true)→th w (n+1) (.tup xs)=true:=fun h1 h2=>bj.mpr ⟨h1,h2⟩
 have iN:∀ i:Int,th w n (.int i)=true:=fun i=>by cases n<;>rfl
 unfold news at he
 simp only[List.mem_cons,List.not_mem_nil,or_false]at he
 rcases he with rfl | rfl | rfl | rfl | rfl | rfl | rfl | rfl | rfl | rfl | rfl | rfl | rfl | rfl | rfl
 any_goals rfl
 ·exact cons (Nat.le_trans (by decide) hw) (by intro x hx;simp only[List.mem_cons,List.not_mem_nil,or_false]at hx;rcases hx with rfl | rfl | rfl<;>exact iN _)
 ·exact cons (Nat.le_trans (by decide) hw) (by intro x hx;simp only[List.mem_cons,List.not_mem_nil,or_false]at hx;rcases hx with rfl | rfl | rfl | rfl<;>exact iN _)
 ·exact cons hw (by intro x hx;simp only[List.mem_cons,List.not_mem_nil,or_false]at hx;rcases hx with rfl | rfl | rfl | rfl | rfl<;>exact iN _)
 ·rw[th,Bool.and_eq_true,decide_eq_true_eq];exact⟨Nat.le_trans (by decide) hw,rfl⟩
 ·exact cons (by show 4≤w;omega) (by intro x hx;simp only[List.mem_cons,List.not_mem_nil,or_false]at hx;rcases hx with rfl | rfl | rfl | rfl<;>exact h)
theorem sf {w n:Nat}(hw:w≤1000)(h5:5≤w)(hn:n≤100)(hp:(w+1)^n≤16000000){d:D}(h:th w n d=true){m:Nat}(hm:n+4≤m)(ns:List Int)(k:Nat):∃ p∈places n d,∃ e∈news (there d p),pf m F.aa [scr ns,.int (k:Int),d]=.ok (putAt d p e):=by
 obtain⟨m,rfl,hm⟩:=ex1 (show n+3+1≤m by omega)
 have e1:=se n m d h hp (by omega) hw (by omega)
 have hl:=o5 n d
 have hl':(0:Int) < (((places n d).map pD).length:Nat):=by rw[List.length_map];omega
 have p1:=cK (n:=m) (by omega) ns k (a:=(k:Int)) (m:=(((places n d).map pD).length:Nat)) rfl hl'
 have b0:=gO (ns:=ns) (k:=k) (m:=(((places n d).map pD).length:Nat)) hl'
 have b1:=gP (ns:=ns) (k:=k) (m:=(((places n d).map pD).length:Nat)) hl'
 obtain⟨q,hq,e2⟩:=wl b0 b1
 obtain⟨p,hp',rfl⟩:=List.mem_map.mp hq
 have e3:=uF hp' (m:=m) (by omega) (by omega)
 have p2:=cK (n:=m) (by omega) ns (k+1) (a:=(k:Int)+1) (m:=15) (by omega) (by decide)
 have c0:=gO (ns:=ns) (k:=k+1) (m:=15) (by decide)
 have c1:=gP (ns:=ns) (k:=k+1) (m:=15) (by decide)
 obtain⟨e,he,e4⟩:=wj (ds:=news (there d p)) c0 (by show _ < ((15:Nat):Int);omega)
 have hd:=dh hp'
 have e5:=uG hw (m:=m) e hp' h (by omega)
 refine⟨p,hp',e,he,?_⟩
 have r4:dMul (.tup [there d p]) (.int 4)=.ok (.tup [there d p,there d p,there d p,there d p]):=rfl
 rw[gD,bF]
 simp only[STP,if_true,if_false,ite_true,ite_false,reduceIte,reduceCtorEq,e1,gJ,p1,e2,e3,r4]
 have ho:oExt [(.int (-1)),(.int 0),(.int 3),(.int 4),(.int 9),(.int 10),(.bl true),.non,(.str "1"),(.tup []),(.tup [(.int 1),(.int 2),(.int 3)]),(.tup [(.int 1),(.int 1),(.int 1),(.int 1)]),(.tup [(.int 1),(.int 2),(.int 3),(.int 4),(.int 5)])] (.lst [.lst [.int 1,.int 2,.int 3,.int 4],.tup [there d p,there d p,there d p,there d p]])=.ok (news (there d p)):=rfl
 simp only[STP,if_true,if_false,ite_true,ite_false,reduceIte,reduceCtorEq,ho,aG,p2,e4,e5]
theorem la {w n:Nat}(hw:w≤1000)(h5:5≤w)(hn:n≤100)(hp:(w+1)^n≤16000000){d:D}(h:th w n d=true){m:Nat}(hm:n+4≤m)(ns:List Int)(k:Nat):∃ d',th w (n+1) d'=true∧pf m F.aa [scr ns,.int (k:Int),d]=.ok d':=by
 obtain⟨p,hp',e,he,q⟩:=sf hw h5 hn hp h hm ns k
 have hd:=dh hp'
 exact⟨_,nN hp' h (wm h5 (nM hp' h) he) (by omega) (by omega),q⟩
theorem sg {w:Nat}(hw:w≤1000):∀ (n m:Nat) (s:Int) (d:D),th w n d=true→n+1≤m→n≤50→pf m F.ag [d,.int s]=.ok (.bl (treeOk (inTo 9) n s d)):=by
 have flat:∀ (n m:Nat) (s:Int) (d:D),th w n d=true→isTup d=false→1≤m→pf m F.ag [d,.int s]=.ok (.bl (treeOk (inTo 9) n s d)):=fun n m s d h ht hm=>by
  obtain⟨m,rfl,hm⟩:=ex1 hm
  have e:treeOk (inTo 9) n s d=inTo 9 d:=by cases n<;>cases d<;>first | rfl | (cases ht;done)
  rw[gE,cw,e]
  cases d with
  | int i =>
   have:rAnd (asB (dIsA qInt (.int i))) (rNot (asB (dIsA qBool (.int i))))=.ok true:=rfl
   simp only[this,STP,if_true,if_false,ite_true,ite_false,reduceIte,reduceCtorEq]
   simp only[rCh,eE,aD,R.bind_ok,inTo]
   by_cases h0:(0:Int)≤i<;>simp[h0]
  | tup _=>cases ht
  | exc _=>cases n<;>simp[th]at h
  | fn _=>cases n<;>simp[th]at h
  | tab _ _=>cases n<;>simp[th]at h
  | dic _ _=>cases n<;>simp[th]at h
  | _=>rfl
 intro n
 induction n with
 | zero=>intro m s d h hm _;exact flat 0 m s d h (by cases d<;>first | rfl | (simp[th]at h)) hm
 | succ n ih =>
  intro m s d h hm hn
  by_cases ht:isTup d=true
  ·cases d with
   | tup xs =>
    have hh:=bj.mp h
    obtain⟨m,rfl,hm⟩:=ex1 hm
    have hc:cFil (fun zb=>(rNot (asB ((dSub (.int s) (.int 1)).bind fun x1=>pf m F.ag [zb,x1])))) (fun zb=>.ok zb) xs=.ok (.lst (xs.filter fun d=>!treeOk (inTo 9) n (s - 1) d)):=by
     have:=lY (c:=fun zb=>(rNot (asB ((dSub (.int s) (.int 1)).bind fun x1=>pf m F.ag [zb,x1])))) (e:=fun zb=>.ok zb) (l:=xs) (fun d=>d) (fun d=>d) (fun d=>!treeOk (inTo 9) n (s - 1) d) fun d hd=>⟨by
      rw[c8,R.bind_ok,ih m (s - 1) d (hh.2 d hd) (by omega) (by omega)]
      rfl,fun _=>rfl⟩
     rw[List.map_id',List.map_id']at this
     exact this
    have he:dEq (.lst (xs.filter fun d=>!treeOk (inTo 9) n (s - 1) d)) (.lst [])=.ok (.bl (xs.all (treeOk (inTo 9) n (s - 1)))):=by
     unfold dEq
     rw[if_pos ⟨by
      rw[good]
      exact bI fun d hd=>cn (l0 (hh.2 d (List.mem_filter.mp hd).1)) (by omega),rfl⟩]
     cases hx:xs.filter fun d=>!treeOk (inTo 9) n (s - 1) d with
     | nil =>
      have:xs.all (treeOk (inTo 9) n (s - 1))=true:=by
       rw[List.all_eq_true]
       intro d hd
       have:=List.filter_eq_nil_iff.mp hx d hd
       simpa using this
      rw[this]
      rfl
     | cons a l =>
      have ha:a∈xs.filter fun d=>!treeOk (inTo 9) n (s - 1) d:=by rw[hx];simp
      have:=List.mem_filter.mp ha
      have:xs.all (treeOk (inTo 9) n (s - 1))=false:=by
       rw[List.all_eq_false]
       exact⟨a,this.1,by simpa using this.2⟩
      rw[this]
      rfl
    have hi:rAnd (asB (dIsA qInt (.tup xs))) (rNot (asB (dIsA qBool (.tup xs))))=.ok false:=rfl
    rw[gE,cw]
    simp only[hi,aX,STP,if_true,if_false,ite_true,ite_false,reduceIte,reduceCtorEq,bf,cJ,i6,fL (show xs.length≤16777216 by have:=hh.1;omega),hc,he,treeOk]
    by_cases h0:s=0
    ·by_cases h4:(xs.length:Int)=4<;>simp[h0,h4]
    ·by_cases h4:xs.length=4
     ·simp[h0,h4]
     ·have h4':¬ ((xs.length:Int)=4):=by omega
      simp[h0,h4,h4']
   | _=>cases ht
  ·exact flat (n+1) m s d h (by simpa using ht) (by omega)
theorem lb {w:Nat}(hw:w≤1000){n m:Nat}{d:D}(h:th w (n+1) d=true)(hm:n+2≤m)(hn:n≤50):pf m F.ax [d]=.ok (.bl (sizedOk (inTo 9) n d)):=by
 obtain⟨m,rfl,hm⟩:=ex1 hm
 rw[iP,bX]
 by_cases ht:isTup d=true
 ·cases d with
  | tup xs =>
   have hh:=bj.mp h
   by_cases h2:xs.length=2
   ·match xs,h2 with
    | [a,b],_ =>
     have ha:=hh.2 a (by simp)
     have hb:=hh.2 b (by simp)
     have l2:asB ((dLen [.tup [a,b]]).bind fun x2=>dNf x2 (.int 2))=.ok false:=rfl
     cases a with
     | int v =>
      have ht:=sg hw n m v b hb (by omega) hn
      have hi:(rNot (asB (dIsA qInt (.int v))))=.ok false:=rfl
      have hj:(asB (dIsA qBool (.int v)))=.ok false:=rfl
      simp only[aX,STP,if_true,if_false,ite_true,ite_false,reduceIte,reduceCtorEq,l2,ix20,ix21,hi,hj,ht,sizedOk,inTo,rCh,eE]
      by_cases c0:(0:Int)≤v
      ·by_cases c1:v≤3<;>simp[c0,c1]
      ·simp[c0]
     | exc _=>cases n<;>simp[th]at ha
     | fn _=>cases n<;>simp[th]at ha
     | tab _ _=>cases n<;>simp[th]at ha
     | dic _ _=>cases n<;>simp[th]at ha
     | _=>rfl
   ·have h2':¬ ((xs.length:Int)=2):=by omega
    have e:sizedOk (inTo 9) n (.tup xs)=false:=by
     match xs,h2 with
     | [],_=>rfl
     | [_],_=>rfl
     | _::_::_::_,_=>rfl
    simp[h2',e]
  | _=>cases ht
 ·have ht':isTup d=false:=by simpa using ht
  rw[cy ht' (jW h)]
  have e:sizedOk (inTo 9) n d=false:=by cases d<;>first | rfl | (cases ht';done)
  simp[e]
theorem Pc.th (p:Pc sz t):th 5 4 (picD sz t)=true:=by
 have hq:∀ (n:Nat) (t:Q Int),t.dep≤n→Lw.th 5 n (t.d .int)=true:=by
  intro n
  induction n with
  | zero=>intro t h;cases t with
   | lf a=>rfl
   | nd a b c d=>rw[Q.dep]at h;omega
  | succ n ih =>
   intro t h
   cases t with
   | lf a=>rfl
   | nd a b c d =>
    rw[Q.dep]at h
    refine bj.mpr ⟨by show 4≤5;decide,fun x hx=>?_⟩
    simp only[List.mem_cons,List.not_mem_nil,or_false]at hx
    rcases hx with rfl | rfl | rfl | rfl
    ·exact ih a (by omega)
    ·exact ih b (by omega)
    ·exact ih c (by omega)
    ·exact ih d (by omega)
 refine bj.mpr ⟨by show 2≤5;decide,fun x hx=>?_⟩
 simp only[List.mem_cons,List.not_mem_nil,or_false]at hx
 rcases hx with rfl | rfl
 ·rfl
 ·exact hq 3 t (by have:=p.dep;have:=p.h3;omega)
theorem word1 {m:Nat}(hm:1≤m):pf m F.aj [.exc 1]=.ok (.str "no picture"):=by
 obtain⟨m,rfl,hm⟩:=ex1 hm
 rw[hV,dE]
 rfl
section
variable {α:Type}[DecidableEq α]
end
section
variable {sz:Nat}{r:PySem.Str}{i:Nat}{f:Int→Int→Int}
variable {g g':Nat→Nat→Int}{t t':Q Int}
end
section
variable {α:Type}[DecidableEq α]
end
section
variable {p q r s:Nat}{m:Nat→(Nat→Nat→Int)→Nat→Nat→Int}
variable {sz:Nat}{g:Nat→Nat→Int}{t:Q Int}
end
section
variable {sz:Nat}{g g' g'':Nat→Nat→Int}{t t' t'':Q Int}
end
theorem si {w:Nat}(hw:w≤1000){n m:Nat}{d:D}(h:th w n d=true)(hm:n+6≤m)(c:sizedOk (inTo 9) n d=false):pf m F.ab [d]=.err 1:=by
 have e:=k6 (n:=m) (m:=n) (l0 h) (wd hw _ h) (by omega)
 rw[c]at e;exact e
section
variable {sz:Nat}{g:Nat→Nat→Int}{t:Q Int}
end
section
variable {sz:Nat}{g:Nat→Nat→Int}{t:Q Int}
end
structure Bk where
 l:Nat
 t:Nat
 w:Nat
 v:Int
 deriving DecidableEq
def Bk.d (b:Bk):D:=.tup [.int (b.l:Int),.int (b.t:Int),.int (b.w:Int),.int b.v]
abbrev Bk.has (b:Bk)(x y:Nat):Prop:=(b.l≤x∧x < b.l+b.w)∧b.t≤y∧y < b.t+b.w
def bks:Nat→Q Int→Nat→Nat→List Bk
 | n,.lf v,l,t=>[⟨l,t,2^n,v⟩]
 | 0,.nd _ _ _ _,_,_=>[]
 | n+1,.nd a b c d,l,t=>bks n a l t++(bks n b (l+2^n) t++(bks n c l (t+2^n)++bks n d (l+2^n) (t+2^n)))
theorem du (n:Nat)(v:Int)(l t:Nat):bks n (.lf v) l t=[⟨l,t,2^n,v⟩]:=by cases n<;>rfl
theorem bu:∀ (n:Nat) (q:Q Int) (l t:Nat),(bks n q l t).length≤4^n
 | n,.lf v,l,t=>by rw[du];exact Nat.one_le_pow _ _ (by decide)
 | 0,.nd _ _ _ _,_,_=>by simp[bks]
 | n+1,.nd a b c d,l,t=>by
  have h1:=bu n a l t;have h2:=bu n b (l+2^n) t;have h3:=bu n c l (t+2^n);have h4:=bu n d (l+2^n) (t+2^n)
  simp only[bks,List.length_append];rw[Nat.pow_succ];omega
theorem bT:∀ (n:Nat) (q:Q Int) (l t:Nat) {b:Bk},b∈bks n q l t→l≤b.l∧b.l+b.w≤l+2^n∧t≤b.t∧b.t+b.w≤t+2^n∧0 < b.w
 | n,.lf v,l,t,b,h=>by
  rw[du,List.mem_singleton]at h;subst h
  have:=Nat.two_pow_pos n
  refine⟨Nat.le_refl _,Nat.le_refl _,Nat.le_refl _,Nat.le_refl _,this⟩
 | 0,.nd _ _ _ _,_,_,b,h=>by cases h
 | n+1,.nd a b c d,l,t,k,h=>by
  simp only[bks,List.mem_append]at h
  rw[bO]
  rcases h with h | h | h | h<;>(have:=bT n _ _ _ h;omega)
theorem eJ:∀ (n:Nat) (q:Q Int) (l t:Nat),q.dep≤n→∀ x y,l≤x→x < l+2^n→t≤y→y < t+2^n→∃ b∈bks n q l t,b.has x y
 | n,.lf v,l,t,_,x,y,h1,h2,h3,h4=>⟨⟨l,t,2^n,v⟩,by rw[du];simp,⟨h1,h2⟩,h3,h4⟩
 | 0,.nd _ _ _ _,_,_,h,_,_,_,_,_,_=>by simp[Q.dep]at h
 | n+1,.nd a b c d,l,t,h,x,y,h1,h2,h3,h4=>by
  rw[bO]at h2 h4
  have hd:a.dep≤n∧b.dep≤n∧c.dep≤n∧d.dep≤n:=by simp only[Q.dep]at h;omega
  by_cases hx:x < l+2^n<;>by_cases hy:y < t+2^n
  ·obtain⟨k,hk,e⟩:=eJ n a l t hd.1 x y h1 hx h3 hy
   exact⟨k,by simp only[bks,List.mem_append];exact .inl hk,e⟩
  ·obtain⟨k,hk,e⟩:=eJ n c l (t+2^n) hd.2.2.1 x y h1 hx (by omega) (by omega)
   exact⟨k,by simp only[bks,List.mem_append];exact .inr (.inr (.inl hk)),e⟩
  ·obtain⟨k,hk,e⟩:=eJ n b (l+2^n) t hd.2.1 x y (by omega) (by omega) h3 hy
   exact⟨k,by simp only[bks,List.mem_append];exact .inr (.inl hk),e⟩
  ·obtain⟨k,hk,e⟩:=eJ n d (l+2^n) (t+2^n) hd.2.2.2 x y (by omega) (by omega) (by omega) (by omega)
   exact⟨k,by simp only[bks,List.mem_append];exact .inr (.inr (.inr hk)),e⟩
theorem p5:∀ (n:Nat) (q:Q Int) (l t:Nat) {b c:Bk},b∈bks n q l t→c∈bks n q l t→∀ {x y:Nat},b.has x y→c.has x y→b=c
 | n,.lf v,l,t,b,c,hb,hc,_,_,_,_=>by
  rw[du,List.mem_singleton]at hb hc;rw[hb,hc]
 | 0,.nd _ _ _ _,_,_,b,_,h,_,_,_,_,_=>by cases h
 | n+1,.nd qa qb qc qd,l,t,b,c,hb,hc,x,y,hx,hy=>by
  simp only[bks,List.mem_append]at hb hc
  have two:=Nat.two_pow_pos n
  rcases hb with hb | hb | hb | hb<;>rcases hc with hc | hc | hc | hc<;>first
   | exact p5 n _ _ _ hb hc hx hy
   | (exfalso;have h1:=bT n _ _ _ hb;have h2:=bT n _ _ _ hc;simp only[Bk.has]at hx hy;omega)
theorem uI:∀ (n:Nat) (q:Q Int) (l t:Nat) {b:Bk},b∈bks n q l t→∀ {x y:Nat},b.has x y→q.at n (x - l) (y - t)=b.v
 | n,.lf v,l,t,b,hb,x,y,h=>by rw[du,List.mem_singleton]at hb;rw[hb,kY]
 | 0,.nd _ _ _ _,_,_,b,h,_,_,_=>by cases h
 | n+1,.nd qa qb qc qd,l,t,b,hb,x,y,h=>by
  simp only[bks,List.mem_append]at hb
  simp only[Bk.has]at h
  rcases hb with hb | hb | hb | hb<;>(have h1:=bT n _ _ _ hb;have h2:=uI n _ _ _ hb (x:=x) (y:=y) h;simp only[Q.at])
  ·rw[if_pos (by omega),if_pos (by omega)];exact h2
  ·rw[if_pos (by omega),if_neg (by omega)];rw[← h2];congr 1<;>omega
  ·rw[if_neg (by omega),if_pos (by omega)];rw[← h2];congr 1<;>omega
  ·rw[if_neg (by omega),if_neg (by omega)];rw[← h2];congr 1<;>omega
theorem Q.isTup_nd (a b c d:Q Int):Q.d D.int (.nd a b c d)=.tup [a.d .int,b.d .int,c.d .int,d.d .int]:=rfl
theorem Q.isTup_lf (v:Int):Q.d D.int (.lf v)=.int v:=rfl
theorem nP {σ:Type}(a b:D)(k:D→D→L σ):lUn2 (.tup [a,b]) k=k a b:=rfl
theorem enum4 (a b c d:D):dEnum (.tup [a,b,c,d])=.ok [.tup [.int 0,a],.tup [.int 1,b],.tup [.int 2,c],.tup [.int 3,d]]:=by
 unfold dEnum;rw[sq4];rfl
theorem cz:∀ (n:Nat) (q:Q Int) (l t:Nat) (k:Nat),n≤3→q.dep≤n→n+1≤k→pf k F.ao [q.d .int,.int (l:Int),.int (t:Int),.int ((2^n:Nat):Int)]=.ok (.lst ((bks n q l t).map Bk.d))
 | n,.lf v,l,t,k+1,_,_,_=>by
  rw[gz,cu,Q.isTup_lf,du];simp only[STP,if_true,if_false,ite_true,ite_false,reduceIte,reduceCtorEq,OPP];rfl
 | n,.lf v,l,t,0,_,_,h=>by omega
 | 0,.nd _ _ _ _,_,_,_,_,h,_=>by simp[Q.dep]at h
 | n+1,.nd a b c d,l,t,k,h3,hd,hk=>by
  obtain⟨k,rfl⟩:∃ j,k=j+1:=⟨k - 1,by omega⟩
  have hd':a.dep≤n∧b.dep≤n∧c.dep≤n∧d.dep≤n:=by simp only[Q.dep]at hd;omega
  have e2:((2^(n+1):Nat):Int)/2=((2^n:Nat):Int):=by rw[bO];omega
  have hlt:((2^n:Nat):Int) < 2^64:=by
   have:n=0∨n=1∨n=2:=by omega
   rcases this with h | h | h<;>subst h<;>decide
  have A:=cz n a l t k (by omega) hd'.1 (by omega)
  have B:=cz n b (l+2^n) t k (by omega) hd'.2.1 (by omega)
  have C:=cz n c l (t+2^n) k (by omega) hd'.2.2.1 (by omega)
  have E:=cz n d (l+2^n) (t+2^n) k (by omega) hd'.2.2.2 (by omega)
  have lA:=bu n a l t;have lB':=bu n b (l+2^n) t;have lC:=bu n c l (t+2^n);have lD:=bu n d (l+2^n) (t+2^n)
  have l64:4^n≤16:=by
   have:n=0∨n=1∨n=2:=by omega
   rcases this with h | h | h<;>subst h<;>decide
  have hp:0≤((2^n:Nat):Int):=Int.natCast_nonneg _
  have m0:dMul (.int 0) (.int ((2^n:Nat):Int))=.ok (.int 0):=by rw[bg (.inr (by omega))];simp
  have m1:dMul (.int 1) (.int ((2^n:Nat):Int))=.ok (.int ((2^n:Nat):Int)):=by rw[bg (.inr (by omega))];simp
  rw[Int.natCast_add]at B C E
  rw[Int.natCast_add]at E
  rw[gz,cu,Q.isTup_nd]
  simp only[STP,if_true,if_false,ite_true,ite_false,reduceIte,reduceCtorEq,OPP,dG (show (0:Int) < 2 by decide) (by decide),e2,enum4,lFor,nP,eQ,bH (show (0:Int) < 2 by decide),show (0:Int)%2=0 from rfl,show (1:Int)%2=1 from rfl,show (2:Int)%2=0 from rfl,show (3:Int)%2=1 from rfl,show (0:Int)/2=0 from rfl,show (1:Int)/2=0 from rfl,show (2:Int)/2=1 from rfl,show (3:Int)/2=1 from rfl,m0,m1,Int.add_zero,A,B,C,E]
  rw[bJ (by simp;omega)]
  simp only[STP,if_true,if_false,ite_true,ite_false,reduceIte,reduceCtorEq]
  rw[bJ (by simp;omega)]
  simp only[STP,if_true,if_false,ite_true,ite_false,reduceIte,reduceCtorEq]
  rw[bJ (by simp;omega)]
  simp only[STP,if_true,if_false,ite_true,ite_false,reduceIte,reduceCtorEq]
  rw[bJ (by simp;omega)]
  simp only[STP,if_true,if_false,ite_true,ite_false,reduceIte,reduceCtorEq]
  rw[bks]
  simp only[List.map_append,List.nil_append,List.append_assoc]
section
variable {sz:Nat}{g:Nat→Nat→Int}{t:Q Int}
def bs (sz:Nat)(g:Nat→Nat→Int):List Bk:=bks sz (T g sz) 0 0
theorem uJ (h:sz≤3)(g:Nat→Nat→Int):(bs sz g).length≤64:=by
 have h1:=bu sz (T g sz) 0 0
 have:4^sz≤64:=by
  have:sz=0∨sz=1∨sz=2∨sz=3:=by omega
  rcases this with h | h | h | h<;>subst h<;>decide
 unfold bs;omega
theorem wC {b:Bk}(h:b∈bs sz g):b.l+b.w≤2^sz∧b.t+b.w≤2^sz∧0 < b.w:=by have:=bT sz _ 0 0 h;omega
theorem uK {b c:Bk}(hb:b∈bs sz g)(hc:c∈bs sz g){x y:Nat}(h1:b.has x y)(h2:c.has x y):b=c:=p5 sz _ 0 0 hb hc h1 h2
theorem xN {x y:Nat}(hx:x < 2^sz)(hy:y < 2^sz):∃ b∈bs sz g,b.has x y:=eJ sz _ 0 0 (dF _ _) x y (by omega) (by omega) (by omega) (by omega)
theorem Sh.blocks (q:Sh sz g t){n:Nat}(hn:11≤n):pf n F.aJ [picD sz t]=.ok (.lst ((bs sz g).map Bk.d)):=by
 obtain⟨n,rfl⟩:∃ j,n=j+1:=⟨n - 1,by omega⟩
 have h1:=q.lean (n:=n) (by omega)
 have h2:=q.p.side (n:=n) (by omega)
 have h3:=cz sz (T g sz) 0 0 n q.p.h3 (dF _ _) (by have:=q.p.h3;omega)
 rw[kR,eR]
 have h3':pf n F.ao [(T g sz).d .int,.int 0,.int 0,.int ((2^sz:Nat):Int)]=.ok (.lst ((bs sz g).map Bk.d)):=h3
 have h1':dIx (picD sz (T g sz)) (.int 1)=.ok ((T g sz).d .int):=rfl
 simp only[STP,if_true,if_false,ite_true,ite_false,reduceIte,reduceCtorEq,h1,h1',h2,h3']
theorem o6 {n:Nat}(hn:1≤n)(b:Bk)(x y:Nat):pf n F.aH [b.d,.int (x:Int),.int (y:Int)]=.ok (.bl (decide (b.has x y))):=by
 obtain⟨n,rfl⟩:∃ j,n=j+1:=⟨n - 1,by omega⟩
 rw[mV,d7,Bk.d]
 simp only[STP,if_true,if_false,ite_true,ite_false,reduceIte,reduceCtorEq,OPP]
 simp only[Bk.has]
 congr 2
 rw[← Bool.decide_and,← Bool.decide_and,← Bool.decide_and]
 apply decide_eq_decide.2;omega
theorem nQ {c:D→R Bool}(p:Bk→Bool){l:List Bk}(h:∀ b∈l,c b.d=.ok (p b)):cFil c (fun x=>.ok x) (l.map Bk.d)=.ok (.lst ((l.filter p).map Bk.d)) :=
 lY Bk.d Bk.d p fun a ha=>⟨h a ha,fun _=>rfl⟩
theorem gS {α:Type}{p:α→Bool}{l:List α}{m:α}(hm:m∈l)(hp:p m=true)(hu:∀ a∈l,p a=true→a=m):∃ r,l.filter p=m::r:=by
 cases hf:l.filter p with
 | nil=>exact absurd (List.mem_filter.2 ⟨hm,hp⟩) (by rw[hf];simp)
 | cons a r =>
  have:a∈l.filter p:=by rw[hf];exact .head _
  have:=List.mem_filter.1 this
  exact⟨r,by rw[hu a this.1 this.2]⟩
theorem Sh.blockat (q:Sh sz g t){n:Nat}(hn:12≤n){m:Bk}(hm:m∈bs sz g){x y:Nat}(h:m.has x y):pf n F.aI [picD sz t,.int (x:Int),.int (y:Int)]=.ok m.d:=by
 obtain⟨n,rfl⟩:∃ j,n=j+1:=⟨n - 1,by omega⟩
 have hin:=wC hm
 have h1:=q.p.check (n:=n) (by omega)
 have h2:=q.p.spot_any (n:=n) (by omega) x y
 rw[v8 (by simp only[Bk.has]at h;omega) (by simp only[Bk.has]at h;omega),if_pos rfl]at h2
 have h3:=q.blocks (n:=n) (by omega)
 have h4:=dr (xs:=(bs sz g).map Bk.d) (by have:=uJ q.p.h3 g;simp;omega)
 have h5:=nQ (c:=fun b=>asB (pf n F.aH [b,.int (x:Int),.int (y:Int)])) (fun b=>decide (b.has x y)) (l:=bs sz g) (fun b _=>by simp only[o6 (n:=n) (by omega)];rfl)
 obtain⟨r,hr⟩:=gS (p:=fun b:Bk=>decide (b.has x y)) hm (by simpa using h) (fun a ha hp=>uK ha hm (by simpa using hp) h)
 rw[eT,b8]
 have h6:dIx (.lst (m.d::r.map Bk.d)) (.int 0)=.ok m.d:=ixL (i:=0) rfl
 simp only[STP,if_true,if_false,ite_true,ite_false,reduceIte,reduceCtorEq,h1,h2,h3,h4,h5,hr,List.map_cons,h6]
end
section
variable {sz sz':Nat}{g g':Nat→Nat→Int}{t t':Q Int}
end
abbrev Mp:=List (List Int×D)
abbrev Sp:=Nat×Nat
def kS (s:Sp):List Int:=[(s.1:Int),(s.2:Int)]
def sD (s:Sp):D:=.tup [.int (s.1:Int),.int (s.2:Int)]
theorem xO (s:Sp):tupI? (sD s)=some (kS s):=rfl
theorem l3 {s t:Sp}(h:kS s=kS t):s=t:=by
 unfold kS at h
 injection h with h1 h2
 injection h2 with h2 _
 exact Prod.ext (by omega) (by omega)
def spots (b:Bk):List Sp:=(List.range b.w).flatMap fun j=>(List.range b.w).map fun i=>(b.l+i,b.t+j)
theorem dJ {b:Bk}{s:Sp}:s∈spots b↔b.has s.1 s.2:=by
 unfold spots
 simp only[List.mem_flatMap,List.mem_map,List.mem_range,Bk.has]
 constructor
 ·rintro ⟨j,hj,i,hi,rfl⟩;exact⟨⟨by show b.l≤b.l+i;omega,by show b.l+i < _;omega⟩,by show b.t≤b.t+j;omega,by show b.t+j < _;omega⟩
 ·rintro ⟨⟨h1,h2⟩,h3,h4⟩
  exact⟨s.2 - b.t,by omega,s.1 - b.l,by omega,Prod.ext (by show b.l+(s.1 - b.l)=s.1;omega) (by show b.t+(s.2 - b.t)=s.2;omega)⟩
theorem iI (b:Bk):(spots b).Nodup:=by
 unfold spots
 rw[List.Nodup,List.pairwise_flatMap]
 refine⟨fun j _=>?_,?_⟩
 ·rw[List.pairwise_map]
  exact List.Pairwise.imp (fun {a c} h e=>by injection e with e1 _;omega) (List.pairwise_lt_range (n:=b.w))
 ·refine List.Pairwise.imp (fun {j k} h s hs s' hs' e=>?_) (List.pairwise_lt_range (n:=b.w))
  obtain⟨i,_,rfl⟩:=List.mem_map.mp hs
  obtain⟨i',_,e'⟩:=List.mem_map.mp hs'
  rw[← e']at e
  injection e with _ e2
  omega
theorem dL (b:Bk):(spots b).length=b.w*b.w:=by
 unfold spots
 simp[List.length_flatMap,List.map_const',List.sum_replicate_nat]
def onK (m:Mp)(k:List Int):Bool:=m.any fun p=>decide (p.1=k)
theorem o7 {m:Mp}{k:List Int}{d:D}(h:onK m k=false):dicPut m k d=m++[(k,d)]:=by
 unfold dicPut
 rw[show (m.any fun p=>decide (p.1=k))=onK m k from rfl,h]
 rfl
theorem lc {m:Mp}{k:List Int}:onK m k=false↔k∉m.map (·.1):=by
 unfold onK
 rw[List.any_eq_false]
 constructor
 ·intro h hk
  obtain⟨p,hp,e⟩:=List.mem_map.mp hk
  exact h p hp (decide_eq_true e)
 ·intro h p hp e
  exact h (List.mem_map.mpr ⟨p,hp,of_decide_eq_true e⟩)
def fillS (v:Int):List Sp→Mp→Option Mp
 | [],m=>some m
 | s::r,m=>if onK m (kS s)=true then none else fillS v r (m++[(kS s,.int v)])
theorem nR (v:Int):∀ (l:List Sp) (m m':Mp),fillS v l m=some m'→m'=m++l.map fun s=>(kS s,D.int v)
 | [],m,m',h=>by cases h;simp
 | s::r,m,m',h=>by
  rw[fillS]at h
  split at h
  ·cases h
  ·rw[nR v r _ m' h];simp
theorem j0 (v:Int):∀ (l:List Sp) (m:Mp),l.Nodup→(∀ s∈l,kS s∉m.map (·.1))→fillS v l m=some (m++l.map fun s=>(kS s,D.int v))
 | [],m,_,_=>by simp[fillS]
 | s::r,m,hn,hm=>by
  have hs:=(List.nodup_cons.mp hn)
  rw[fillS,if_neg (by rw[lc.mpr (hm s (.head _))];decide),j0 v r _ hs.2 fun s' h'=>?_]
  ·simp
  ·rw[List.map_append,List.mem_append]
   rintro (z | z)
   ·exact hm s' (.tail _ h') z
   ·rw[List.map_cons,List.map_nil,List.mem_singleton]at z
    have:=l3 z
    subst this
    exact hs.1 h'
def bkOf (side:Nat):D→Option Bk
 | .tup [.int l,.int t,.int s,.int v]=>if (s=1∨s=2∨s=4∨s=8)∧(0≤l∧l%s=0)∧(0≤t∧t%s=0)∧(0≤v∧v≤9)∧l+s≤(side:Int)∧t+s≤(side:Int) then some ⟨l.toNat,t.toNat,s.toNat,v⟩ else none
 | _=>none
structure BkOk (side:Nat)(b:Bk):Prop where
 w:b.w=1∨b.w=2∨b.w=4∨b.w=8
 l:b.l%b.w=0
 t:b.t%b.w=0
 v:W9 b.v
 r:b.l+b.w≤side
 d:b.t+b.w≤side
theorem iy {side:Nat}{d:D}{b:Bk}(h:bkOf side d=some b):d=b.d∧BkOk side b:=by
 unfold bkOf at h
 split at h
 ·rename_i l t s v
  split at h
  ·rename_i c
   cases h
   obtain⟨c1,c2,c3,c4,c5,c6⟩:=c
   refine⟨by unfold Bk.d;rw[show ((l.toNat:Nat):Int)=l by omega,show ((t.toNat:Nat):Int)=t by omega,show ((s.toNat:Nat):Int)=s by omega],?_⟩
   refine⟨by show s.toNat=1∨s.toNat=2∨s.toNat=4∨s.toNat=8;omega,?_,?_,c4,by show l.toNat+s.toNat≤side;omega,by show t.toNat+s.toNat≤side;omega⟩
   ·show l.toNat%s.toNat=0
    rcases c1 with rfl | rfl | rfl | rfl<;>(simp;omega)
   ·show t.toNat%s.toNat=0
    rcases c1 with rfl | rfl | rfl | rfl<;>(simp;omega)
  ·cases h
 ·cases h
theorem xP {side:Nat}{b:Bk}(h:BkOk side b):bkOf side b.d=some b:=by
 unfold Bk.d bkOf
 have h1:=h.w;have h2:=h.l;have h3:=h.t;have h4:=h.v;have h5:=h.r;have h6:=h.d
 obtain⟨l,t,w,v⟩:=b
 simp only at h1 h2 h3 h4 h5 h6
 show (if ((w:Int)=1∨(w:Int)=2∨(w:Int)=4∨(w:Int)=8)∧(0≤(l:Int)∧(l:Int)%(w:Int)=0)∧(0≤(t:Int)∧(t:Int)%(w:Int)=0)∧(0≤v∧v≤9)∧(l:Int)+(w:Int)≤(side:Int)∧(t:Int)+(w:Int)≤(side:Int) then some (⟨(l:Int).toNat,(t:Int).toNat,(w:Int).toNat,v⟩:Bk) else none)=_
 rw[if_pos ⟨by omega,⟨by omega,by omega⟩,⟨by omega,by omega⟩,h4,by omega,by omega⟩]
 simp
def okTh (d:D):Prop:=th 5 3 d=true
theorem uL {n m:Nat}(hm:1≤m){d:D}(h:th 5 n d=true):pf m F.ae [d]=.ok (.bl (isW d)):=e9 hm (jW h)
section
variable {side n:Nat}
theorem nS {m:Nat}(hm:1≤m)(a s:Int)(hs:0 < s):pf m F.aE [.int a,.int s]=.ok (.bl (decide (0≤a)&&decide (a%s=0))):=by
 obtain⟨m,rfl,_⟩:=ex1 (show 0+1≤m by omega)
 rw[mT,d4,pU,bH hs,R.bind_ok,i6,i7]
 rfl
theorem inSides (s:Int):dInD (.int s) (tupI [1,2,4,8])=.ok (.bl (decide (s=1∨s=2∨s=4∨s=8))):=by
 unfold dInD tupI
 show (if _ then R.ok (D.bl (_)) else _)=_
 rw[if_pos ⟨by cases s<;>rfl,rfl⟩]
 congr 2
 simp only[List.map_cons,List.map_nil,List.any_cons,List.any_nil,Bool.or_false,eqD]
 rw[Bool.eq_iff_iff]
 simp only[Bool.or_eq_true,beq_iff_eq,decide_eq_true_eq]
 omega
theorem inSides2 (s:Int):dNotInD (.int s) (.tup [(.int 1),(.int 2),(.int 4),(.int 8)])=.ok (.bl (!decide (s=1∨s=2∨s=4∨s=8))):=by
 unfold dNotInD
 rw[show dInD (.int s) (.tup [(.int 1),(.int 2),(.int 4),(.int 8)])=dInD (.int s) (tupI [1,2,4,8]) from rfl,inSides]
 rfl
theorem sj {m:Nat}(hm:2≤m)(v:Int):pf m F.af [.int v]=.ok (.bl (decide (0≤v)&&decide (v≤9))):=jR hm rfl
theorem sk {m:Nat}(hm:3≤m)(l t s v:Int):pf m F.aF [.tup [.int l,.int t,.int s,.int v]]=.ok (.bl (decide ((s=1∨s=2∨s=4∨s=8)∧(0≤l∧l%s=0)∧(0≤t∧t%s=0)∧(0≤v∧v≤9)))):=by
 obtain⟨m,rfl,hm⟩:=ex1 (show 2+1≤m by omega)
 have w:∀ i:Int,pf m F.ae [.int i]=.ok (.bl true):=fun i=>e9 (by omega) rfl
 have cm:cMap (fun number=>pf m F.ae [number]) [.int l,.int t,.int s,.int v]=.ok (.lst [.bl true,.bl true,.bl true,.bl true]):=cMap4 (w l) (w t) (w s) (w v)
 rw[df,bR,aX,aD,bq,Bool.not_true,fZ,bf,R.bind_ok,show dNf (.int (([D.int l,.int t,.int s,.int v].length:Nat):Int)) (.int 4)=.ok (.bl false) from rfl,aD,aB,if_neg (by decide),aS,sq4,R.bind_ok,cm,R.bind_ok,show dAll [.lst [.bl true,.bl true,.bl true,.bl true]]=.ok (.bl true) from rfl,aD,bq,Bool.not_true,aB,if_neg (by decide),aS,ix42,aB,inSides,ix40,ix41,ix43]
 by_cases c:s=1∨s=2∨s=4∨s=8
 ·have hs:0 < s:=by omega
  rw[decide_eq_true c,tN,R.bind_ok,R.bind_ok,R.bind_ok,nS (by omega) l s hs,nS (by omega) t s hs,sj (by omega),i7,i7]
  show R.ok (D.bl _)=_
  congr 2
  simp only[Bool.decide_and,decide_eq_true c,Bool.true_and]
 ·rw[decide_eq_false c,tO]
  show R.ok (D.bl _)=_
  congr 2
  simp only[Bool.decide_and,decide_eq_false c,Bool.false_and]
theorem so {m:Nat}(hm:1≤m){xs:List D}(h:∀ x∈xs,th 5 2 x=true):cMap (fun number=>pf m F.ae [number]) xs=.ok (.lst (xs.map fun d=>D.bl (isW d))):=pT _ fun d hd=>uL hm (h d hd)
theorem l4 {d:D}(h:isW d=true):∃ i,d=.int i:=by
 cases d with
 | int i=>exact⟨i,rfl⟩
 | _=>cases h
theorem iJ {d:D}(h:okTh d):(∃ l t s v,d=.tup [.int l,.int t,.int s,.int v])∨(bkOf side d=none∧(∀ m,2≤m→pf m F.aF [d]=.ok (.bl false)) ∧
  ∀ (t:Nat→List D→R D) (sd:D) (mp:Mp),bi t sd mp d=.rt (.str "no blocks")):=by
 by_cases ht:isTup d=true
 ·cases d with
  | tup xs =>
   have hh:=bj.mp h
   by_cases h4:xs.length=4
   ·match xs,h4,hh with
    | [a,b,c,e],_,hh =>
     by_cases hw:(isW a&&(isW b&&(isW c&&isW e)))=true
     ·simp only[Bool.and_eq_true]at hw
      obtain⟨l,rfl⟩:=l4 hw.1
      obtain⟨t,rfl⟩:=l4 hw.2.1
      obtain⟨s,rfl⟩:=l4 hw.2.2.1
      obtain⟨v,rfl⟩:=l4 hw.2.2.2
      exact .inl ⟨l,t,s,v,rfl⟩
     ·right
      have nw:¬ (isW a=true∧isW b=true∧isW c=true∧isW e=true):=by simpa [Bool.and_eq_true] using hw
      refine⟨?_,fun m hm=>?_,fun t sd mp=>?_⟩
      ·unfold bkOf
       split
       ·rename_i l t s v heq
        cases heq
        exact absurd ⟨rfl,rfl,rfl,rfl⟩ nw
       ·rfl
      ·obtain⟨m,rfl,hm⟩:=ex1 (show 1+1≤m by omega)
       have cm:=so (m:=m) (by omega) (xs:=[a,b,c,e]) hh.2
       have da:dAll [.lst ([a,b,c,e].map fun d=>D.bl (isW d))]=.ok (.bl ([a,b,c,e].all isW)):=gM isW [a,b,c,e]
       have ff:[a,b,c,e].all isW=false:=by
        simp only[List.all_cons,List.all_nil,Bool.and_true]
        exact Bool.not_eq_true _ ▸ hw
       rw[df,bR,aX,aD,bq,Bool.not_true,fZ,bf,R.bind_ok,show dNf (.int (([a,b,c,e].length:Nat):Int)) (.int 4)=.ok (.bl false) from rfl,aD,aB,if_neg (by decide),aS,sq4,R.bind_ok,cm,R.bind_ok,da,ff]
       rfl
      ·have cf:∀ x∈[a,b,c,e],rOr (rNot (asB (dIsA qInt x))) (asB (dIsA qBool x))=.ok (!isW x):=fun x hx=>by
        have:=jW (hh.2 x hx)
        cases x<;>first | rfl | cases this
       have fl:cFil (fun yS=>(rOr (rNot (asB (dIsA qInt yS))) (asB (dIsA qBool yS)))) (fun yS=>.ok yS) [a,b,c,e]=.ok (.lst ([a,b,c,e].filter fun x=>!isW x)):=by
        have:=lY (c:=fun yS=>(rOr (rNot (asB (dIsA qInt yS))) (asB (dIsA qBool yS)))) (e:=fun yS=>.ok yS) (l:=[a,b,c,e]) id id (fun x=>!isW x) fun x hx=>⟨cf x hx,fun _=>rfl⟩
        simpa using this
       have gf:goods 59 ([a,b,c,e].filter fun x=>!isW x)=true:=bI fun x hx=>cn (l0 (hh.2 x (List.mem_filter.mp hx).1)) (by omega)
       have nf:dNf (.lst ([a,b,c,e].filter fun x=>!isW x)) (.lst [])=.ok (.bl true):=by
        rw[jP (by rw[good];exact gf) rfl]
        congr 2
        cases q:[a,b,c,e].filter fun x=>!isW x with
        | nil =>
         exfalso
         have al:=List.filter_eq_nil_iff.mp q
         exact nw ⟨by simpa using al a (by simp),by simpa using al b (by simp),by simpa using al c (by simp),by simpa using al e (by simp)⟩
        | cons x r=>rfl
       unfold bi
       rw[aX,aD,bq,Bool.not_true,fZ,bf,R.bind_ok,show dNf (.int (([a,b,c,e].length:Nat):Int)) (.int 4)=.ok (.bl false) from rfl,aD,aB,if_neg (by decide),aS,sq4,R.bind_ok,fl,R.bind_ok,nf]
       rfl
   ·right
    have n4:dNf (.int ((xs.length:Nat):Int)) (.int 4)=.ok (.bl true):=by rw[cJ,decide_eq_false (by omega)];rfl
    refine⟨?_,fun m hm=>?_,fun t sd mp=>?_⟩
    ·unfold bkOf
     split
     ·rename_i l t s v heq
      cases heq
      exact absurd rfl h4
     ·rfl
    ·obtain⟨m,rfl,hm⟩:=ex1 (show 1+1≤m by omega)
     rw[df,bR,aX,aD,bq,Bool.not_true,fZ,bf,R.bind_ok,n4]
     rfl
    ·unfold bi
     rw[aX,aD,bq,Bool.not_true,fZ,bf,R.bind_ok,n4]
     rfl
  | _=>cases ht
 ·right
  have hf:isTup d=false:=Bool.not_eq_true _ ▸ ht
  have ii:=cy hf (jW h)
  refine⟨?_,fun m hm=>?_,fun t sd mp=>?_⟩
  ·cases d<;>first | rfl | (cases hf;done)
  ·obtain⟨m,rfl,hm⟩:=ex1 (show 1+1≤m by omega)
   rw[df,bR,ii]
   rfl
  ·unfold bi
   rw[ii]
   rfl
end
abbrev nb:D:=.str "no blocks"
theorem uM (m:Mp)(s:Sp):oTIn m (sD s)=.ok (.bl (onK m (kS s))):=rfl
theorem uN {m:Mp}{s:Sp}{v:Int}(hl:m.length < 1000000)(h:onK m (kS s)=false):oTSt m (sD s) (.int v)=.ok (m++[(kS s,.int v)]):=by
 unfold oTSt
 rw[xO]
 show (if m.length < 1000000 then R.ok (dicPut m (kS s) (.int v)) else R.stuck)=_
 rw[if_pos hl,o7 h]
def wayS (l t w:Nat)(n:Nat):Sp:=(l+n%w,t+n/w)
theorem sr {b:Bk}(h:b.w=1∨b.w=2∨b.w=4∨b.w=8):(List.range (b.w*b.w)).map (wayS b.l b.t b.w)=spots b:=by
 obtain⟨l,t,w,v⟩:=b
 simp only at h
 have e:(List.range (w*w)).map (fun n=>(n%w,n/w))=(List.range w).flatMap fun j=>(List.range w).map fun i=>(i,j):=by rcases h with rfl | rfl | rfl | rfl<;>decide
 have e2:=congrArg (List.map fun s:Sp=>(l+s.1,t+s.2)) e
 rw[List.map_map,List.map_flatMap]at e2
 simp only[List.map_map]at e2
 exact e2
theorem uO (t:Nat→List D→R D){l tp w:Nat}{v:Int}(h0:0 < w)(h8:w≤8)(n:Nat)(m:Mp)(hl:m.length < 1000000):eo t (.int (l:Int)) (.int (tp:Int)) (.int (w:Int)) (.int v) m (.int (n:Int))=if onK m (kS (wayS l tp w n))=true then .rt nb else .nx (m++[(kS (wayS l tp w n),.int v)]):=by
 have e:(D.tup [.int ((l:Int)+(n:Int)%(w:Int)),.int ((tp:Int)+(n:Int)/(w:Int))])=sD (wayS l tp w n):=by unfold sD wayS;simp
 unfold eo
 rw[bH (by omega),R.bind_ok,aG,R.bind_ok,dG (by omega) (by omega),R.bind_ok,aG,R.bind_ok,aB,e,uM,aD,aB]
 by_cases c:onK m (kS (wayS l tp w n))=true
 ·rw[if_pos c,if_pos c];rfl
 ·rw[if_neg c,if_neg c,aS,uN hl (Bool.not_eq_true _ ▸ c)];rfl
def outM (e:L Mp):Option Mp→L Mp
 | none=>e
 | some m=>.nx m
theorem nT (t:Nat→List D→R D){l tp w:Nat}{v:Int}(h0:0 < w)(h8:w≤8):∀ (ns:List Nat) (m:Mp),m.length+ns.length≤100000→lFor (τ:=Mp) (fun s x=>eo t (.int (l:Int)) (.int (tp:Int)) (.int (w:Int)) (.int v) s x) (ns.map fun n:Nat=>D.int (n:Int)) m=outM (.rt nb) (fillS v (ns.map (wayS l tp w)) m)
 | [],m,_=>rfl
 | n::r,m,hl=>by
  rw[List.length_cons]at hl
  rw[List.map_cons,List.map_cons,aK,uO t h0 h8 n m (by omega),fillS]
  by_cases c:onK m (kS (wayS l tp w n))=true
  ·rw[if_pos c,if_pos c];rfl
  ·rw[if_neg c,if_neg c,aS]
   exact nT t h0 h8 r _ (by rw[List.length_append,List.length_singleton];omega)
theorem wD {τ:Type}(l:L τ):(lS l fun s=>.nx s)=l:=by cases l<;>rfl
def bkM (side:Nat)(d:D)(m:Mp):Option Mp:=match bkOf side d with
 | none=>none
 | some b=>fillS b.v (spots b) m
theorem wn (t:Nat→List D→R D)(side:Nat)(l tp s v:Int)(m:Mp)(hl:m.length+64≤100000):bi t (.int (side:Int)) m (.tup [.int l,.int tp,.int s,.int v])=outM (.rt nb) (bkM side (.tup [.int l,.int tp,.int s,.int v]) m):=by
 have fl:cFil (fun yS=>(rOr (rNot (asB (dIsA qInt yS))) (asB (dIsA qBool yS)))) (fun yS=>.ok yS) [.int l,.int tp,.int s,.int v]=.ok (.lst []):=rfl
 have un:∀ k:D→D→D→D→L Mp,lUn4 (.tup [.int l,.int tp,.int s,.int v]) k=k (.int l) (.int tp) (.int s) (.int v):=fun _=>rfl
 have ch:rCh dLe dLe (.int 0) (.int v) (.ok (.int 9))=.ok (.bl (decide (0≤v)&&decide (v≤9))):=gN (fun a b=>decide (a≤b)) dLe dLe (g:=fun a b=>decide (a≤b)) (eE 0 v) (eE v 9)
 unfold bi
 rw[aX,aD,bq,Bool.not_true,fZ,bf,R.bind_ok,show dNf (.int (([D.int l,.int tp,.int s,.int v].length:Nat):Int)) (.int 4)=.ok (.bl false) from rfl,aD,aB,if_neg (by decide),aS,sq4,R.bind_ok,fl,R.bind_ok,show dNf (.lst []) (.lst [])=.ok (.bl false) from rfl,aD,aB,if_neg (by decide),aS,aB,un,inSides2,aD]
 by_cases c1:s=1∨s=2∨s=4∨s=8
 ·have hs:0 < s:=by omega
  rw[decide_eq_true c1,Bool.not_true,fZ,ch,aD,bq,bH hs,R.bind_ok,cJ,aD,bH hs,R.bind_ok,cJ,aD,eF,eF,aB,gK,aD,gK,aD,aG,R.bind_ok,gL,aD,aG,R.bind_ok,gL,aD,eF,eF,eF,aB]
  by_cases c:(s=1∨s=2∨s=4∨s=8)∧(0≤l∧l%s=0)∧(0≤tp∧tp%s=0)∧(0≤v∧v≤9)∧l+s≤(side:Int)∧tp+s≤(side:Int)
  ·obtain⟨_,⟨a1,a2⟩,⟨a3,a4⟩,⟨a5,a6⟩,a7,a8⟩:=id c
   rw[if_neg (by simp[a2,a4,a5,a6]),aS,if_neg (by simp;omega),aS]
   obtain⟨l,rfl⟩:=Int.eq_ofNat_of_zero_le a1
   obtain⟨tp,rfl⟩:=Int.eq_ofNat_of_zero_le a3
   obtain⟨w,rfl⟩:=Int.eq_ofNat_of_zero_le (show 0≤s by omega)
   have hw:w=1∨w=2∨w=4∨w=8:=by omega
   have e:bkOf side (.tup [.int (l:Int),.int (tp:Int),.int (w:Int),.int v])=some ⟨l,tp,w,v⟩:=by
    show (if _ then _ else _)=_
    rw[if_pos c];rfl
   have ww:w*w≤64:=by rcases hw with rfl | rfl | rfl | rfl<;>decide
   have L:=nT t (l:=l) (tp:=tp) (w:=w) (v:=v) (by omega) (by omega) (List.range (w*w)) m (by rw[List.length_range];omega)
   rw[sr (b:=⟨l,tp,w,v⟩) hw]at L
   rw[bg (.inl (by omega)),R.bind_ok,show ((w:Int)*(w:Int))=((w*w:Nat):Int) by simp,eG (by omega),aB,L,wD]
   unfold bkM
   rw[e]
  ·have e:bkOf side (.tup [.int l,.int tp,.int s,.int v])=none:=by
    show (if _ then _ else _)=_
    rw[if_neg c]
   unfold bkM
   rw[e]
   by_cases f:((!(decide (0≤v)&&decide (v≤9)))||((!decide (l%s=0))||(!decide (tp%s=0))))=true
   ·rw[if_pos f];rfl
   ·rw[if_neg f,aS,if_pos]
    ·rfl
    ·simp only[Bool.or_eq_true,Bool.not_eq_true',Bool.and_eq_false_iff,decide_eq_false_iff_not,decide_eq_true_eq]at f ⊢
     omega
 ·rw[decide_eq_false c1]
  have e:bkOf side (.tup [.int l,.int tp,.int s,.int v])=none:=by
   show (if _ then _ else _)=_
   rw[if_neg (fun h=>c1 h.1)]
  unfold bkM
  rw[e]
  rfl
theorem su (t:Nat→List D→R D)(side:Nat){d:D}(h:okTh d)(m:Mp)(hl:m.length+64≤100000):bi t (.int (side:Int)) m d=outM (.rt nb) (bkM side d m):=by
 rcases iJ (side:=side) h with ⟨l,tp,s,v,rfl⟩ | ⟨h1,_,h3⟩
 ·exact wn t side l tp s v m hl
 ·rw[h3];unfold bkM;rw[h1];rfl
def goB (side:Nat):List D→Mp→Option Mp
 | [],m=>some m
 | d::r,m=>match bkM side d m with
  | none=>none
  | some m'=>goB side r m'
theorem p6 {side:Nat}{d:D}{m m':Mp}(h:bkM side d m=some m'):m'.length≤m.length+64:=by
 unfold bkM at h
 split at h
 ·cases h
 ·rename_i b hb
  have o:=(iy hb).2
  rw[nR _ _ _ _ h,List.length_append,List.length_map,dL]
  have:b.w*b.w≤64:=by rcases o.w with e | e | e | e<;>rw[e]<;>decide
  omega
theorem nU (t:Nat→List D→R D)(side:Nat):∀ (ds:List D) (m:Mp),(∀ d∈ds,okTh d)→m.length+64*ds.length≤100000→lFor (τ:=Mp) (fun s x=>bi t (.int (side:Int)) s x) ds m=outM (.rt nb) (goB side ds m)
 | [],m,_,_=>rfl
 | d::r,m,h,hl=>by
  rw[List.length_cons]at hl
  rw[aK,su t side (h d (.head _)) m (by omega),goB]
  cases q:bkM side d m with
  | none=>rfl
  | some m' =>
   have:=p6 q
   exact nU t side r m' (fun d hd=>h d (.tail _ hd)) (by omega)
theorem nV {n:Nat}(hn:3≤n)(side:Nat){d:D}(h:okTh d):br (pf n) (.int (side:Int)) d=if (bkOf side d).isSome=true then .nx () else .er 6:=by
 unfold br
 rcases iJ (side:=side) h with ⟨l,tp,s,v,rfl⟩ | ⟨h1,h2,_⟩
 ·rw[sk hn,aD,bq,aB]
  by_cases c0:(s=1∨s=2∨s=4∨s=8)∧(0≤l∧l%s=0)∧(0≤tp∧tp%s=0)∧(0≤v∧v≤9)
  ·rw[decide_eq_true c0,Bool.not_true,if_neg (by decide),aS,ix40,R.bind_ok,ix42,R.bind_ok,aG,R.bind_ok,gL,aD,ix41,R.bind_ok,R.bind_ok,aG,R.bind_ok,gL,aD,eF,aB]
   by_cases c:l+s≤(side:Int)∧tp+s≤(side:Int)
   ·have e:(bkOf side (.tup [.int l,.int tp,.int s,.int v])).isSome=true:=by
     show (if _ then _ else _:Option Bk).isSome=_
     rw[if_pos ⟨c0.1,c0.2.1,c0.2.2.1,c0.2.2.2,c.1,c.2⟩];rfl
    rw[if_pos e,if_neg (by simp;omega)]
   ·have e:¬ (bkOf side (.tup [.int l,.int tp,.int s,.int v])).isSome=true:=by
     show ¬ (if _ then _ else _:Option Bk).isSome=_
     rw[if_neg fun z=>c ⟨z.2.2.2.2.1,z.2.2.2.2.2⟩];decide
    rw[if_neg e,if_pos (by simp only[Bool.or_eq_true,decide_eq_true_eq];omega)]
  ·have e:¬ (bkOf side (.tup [.int l,.int tp,.int s,.int v])).isSome=true:=by
    show ¬ (if _ then _ else _:Option Bk).isSome=_
    rw[if_neg fun z=>c0 ⟨z.1,z.2.1,z.2.2.1,z.2.2.2.1⟩];decide
   rw[decide_eq_false c0,if_neg e];rfl
 ·rw[h2 n (by omega),h1];rfl
theorem j3 {n:Nat}(hn:3≤n)(side:Nat):∀ (ds:List D),(∀ d∈ds,okTh d)→lFor (τ:=Unit) (fun _ x=>br (pf n) (.int (side:Int)) x) ds ()=if (ds.all fun d=>(bkOf side d).isSome)=true then .nx () else .er 6
 | [],_=>rfl
 | d::r,h=>by
  rw[aK,nV hn side (h d (.head _)),List.all_cons]
  cases q:(bkOf side d).isSome with
  | false=>rfl
  | true=>rw[if_pos rfl,aS,Bool.true_and];exact j3 hn side r fun d hd=>h d (.tail _ hd)
theorem o8 {n:Nat}(hn:1≤n){side:Nat}{b:Bk}(o:BkOk side b)(h8:side≤8):pf n F.aN [b.d]=.ok (.lst ((spots b).map sD)):=by
 obtain⟨n,rfl,hn⟩:=ex1 (show 0+1≤n by omega)
 obtain⟨l,t,w,v⟩:=b
 have h1:=o.r;have h2:=o.d;have hw:=o.w
 simp only at h1 h2 hw
 have rr:∀ a:Nat,a≤1000→rng2 [.int (a:Int),.int ((a:Int)+(w:Int))]=.ok ((List.range w).map fun i=>D.int ((a+i:Nat):Int)):=fun a ha=>by
  rw[show ((a:Int)+(w:Int))=((a+w:Nat):Int) by simp,uC (by omega) (by omega),show a+w - a=w by omega]
 have st:∀ (y:Nat) (acc:List D),acc.length≤10000→ci (pf n) (.tup [.int (l:Int),.int (t:Int),.int (w:Int),.int v]) acc (.int (y:Int))=.nx (acc++(List.range w).map fun i=>sD (l+i,y)):=fun y acc ha=>by
  unfold ci
  rw[ix40,R.bind_ok,R.bind_ok,ix42,R.bind_ok,aG,R.bind_ok,rr l (by omega),R.bind_ok,cj (l:=List.range w) (fun i=>D.int ((l+i:Nat):Int)) (fun i=>sD (l+i,y)) (fun i _=>rfl),R.bind_ok,bJ (by simp;omega)]
  rfl
 have lp:∀ (js:List Nat) (acc:List D),acc.length+8*js.length≤10000→lFor (τ:=List D) (fun s x=>ci (pf n) (.tup [.int (l:Int),.int (t:Int),.int (w:Int),.int v]) s x) (js.map fun j=>D.int ((t+j:Nat):Int)) acc=.nx (acc++js.flatMap fun j=>(List.range w).map fun i=>sD (l+i,t+j)):=by
  intro js
  induction js with
  | nil=>intro acc _;simp
  | cons j r ih =>
   intro acc ha
   rw[List.length_cons]at ha
   rw[List.map_cons,aK,st (t+j) acc (by omega),aS,ih _ (by rw[List.length_append,List.length_map,List.length_range];omega),List.flatMap_cons,List.append_assoc]
 rw[mU,d5]
 unfold Bk.d
 rw[ix41,R.bind_ok,R.bind_ok,ix42,R.bind_ok,aG,R.bind_ok,rr t (by omega),aB,lp (List.range w) [] (by simp;omega),aS]
 show R.ok (D.lst _)=_
 unfold spots
 rw[List.nil_append,List.map_flatMap]
 simp only[List.map_map]
 rfl
theorem o9 {n:Nat}{b:Bk}(m:Mp)(s:Sp)(hl:m.length < 1000000):bc (pf n) b.d m (sD s)=if onK m (kS s)=true then .er 6 else .nx (m++[(kS s,.int b.v)]):=by
 unfold bc
 rw[uM,aD,aB]
 by_cases c:onK m (kS s)=true
 ·rw[if_pos c,if_pos c];rfl
 ·rw[if_neg c,if_neg c,aS]
  unfold Bk.d
  rw[ix43,R.bind_ok,uN hl (Bool.not_eq_true _ ▸ c)];rfl
theorem j4 {n:Nat}{b:Bk}:∀ (ss:List Sp) (m:Mp),m.length+ss.length≤100000→lFor (τ:=Mp) (fun s x=>bc (pf n) b.d s x) (ss.map sD) m=outM (.er 6) (fillS b.v ss m)
 | [],m,_=>rfl
 | s::r,m,hl=>by
  rw[List.length_cons]at hl
  rw[List.map_cons,aK,o9 m s (by omega),fillS]
  by_cases c:onK m (kS s)=true
  ·rw[if_pos c,if_pos c];rfl
  ·rw[if_neg c,if_neg c,aS]
   exact j4 r _ (by rw[List.length_append,List.length_singleton];omega)
theorem j5 {n:Nat}(hn:1≤n){side:Nat}(h8:side≤8):∀ (ds:List D) (m:Mp),(ds.all fun d=>(bkOf side d).isSome)=true→m.length+64*ds.length≤100000→lFor (τ:=Mp) (fun s x=>bd (pf n) s x) ds m=outM (.er 6) (goB side ds m)
 | [],m,_,_=>rfl
 | d::r,m,h,hl=>by
  rw[List.length_cons]at hl
  rw[List.all_cons,Bool.and_eq_true]at h
  obtain⟨b,hb⟩:=Option.isSome_iff_exists.mp h.1
  obtain⟨rfl,o⟩:=iy hb
  have ww:b.w*b.w≤64:=by rcases o.w with e | e | e | e<;>rw[e]<;>decide
  have st:bd (pf n) m b.d=outM (.er 6) (bkM side b.d m):=by
   unfold bd
   rw[o8 hn o h8,R.bind_ok,dr (by rw[List.length_map,dL];omega),aB,j4 _ _ (by rw[dL];omega),wD]
   unfold bkM;rw[hb]
  rw[aK,st,goB]
  cases q:bkM side b.d m with
  | none=>rfl
  | some m' =>
   have:=p6 q
   exact j5 hn h8 r m' h.2 (by omega)
theorem p7 {side:Nat}:∀ {ds:List D} {m m':Mp},goB side ds m=some m'→(ds.all fun d=>(bkOf side d).isSome)=true
 | [],_,_,_=>rfl
 | d::r,m,m',h=>by
  rw[goB]at h
  split at h
  ·cases h
  ·rename_i m1 hm
   rw[List.all_cons,p7 h,Bool.and_true]
   unfold bkM at hm
   split at hm
   ·cases hm
   ·rename_i b hb;rw[hb];rfl
theorem uP {α:Type}[DecidableEq α]:∀ {l k:List α},l.Nodup→(∀ a∈l,a∈k)→l.length≤k.length
 | [],_,_,_=>Nat.zero_le _
 | a::r,k,hn,hs=>by
  have h:=List.nodup_cons.mp hn
  have ha:=hs a (.head _)
  have:=uP (l:=r) (k:=k.erase a) h.2 fun b hb=>(List.mem_erase_of_ne (by rintro rfl;exact h.1 hb)).mpr (hs b (.tail _ hb))
  rw[List.length_erase_of_mem ha]at this
  have:=List.length_pos_of_mem ha
  rw[List.length_cons];omega
theorem p9 {α:Type}[DecidableEq α]:∀ {l k:List α},l.Nodup→(∀ a∈l,a∈k)→l.length=k.length→∀ a∈k,a∈l
 | [],k,_,_,e,a,ha=>by
  have:=List.length_pos_of_mem ha
  rw[← e]at this
  exact absurd this (by simp)
 | b::r,k,hn,hs,e,a,ha=>by
  have h:=List.nodup_cons.mp hn
  have hb:=hs b (.head _)
  by_cases c:a=b
  ·exact c ▸ .head _
  ·refine .tail _ (p9 (l:=r) (k:=k.erase b) h.2 (fun x hx=>(List.mem_erase_of_ne (by rintro rfl;exact h.1 hx)).mpr (hs x (.tail _ hx))) ?_ a ((List.mem_erase_of_ne c).mpr ha))
   rw[List.length_erase_of_mem hb,← e,List.length_cons];omega
def keys (m:Mp):List (List Int):=m.map (·.1)
structure MOk (side:Nat)(m:Mp):Prop where
 nd:(keys m).Nodup
 at_:∀ p∈m,∃ (s:Sp) (v:Int),p=(kS s,.int v)∧s.1 < side∧s.2 < side∧W9 v
theorem MOk.nil (side:Nat):MOk side []:=⟨by simp[keys],by simp⟩
theorem MOk.fill {side:Nat}{v:Int}(hv:W9 v):∀ {ss:List Sp} {m m':Mp},(∀ s∈ss,s.1 < side∧s.2 < side)→MOk side m→fillS v ss m=some m'→MOk side m'
 | [],m,m',_,h,e=>by cases e;exact h
 | s::r,m,m',hs,h,e=>by
  rw[fillS]at e
  split at e
  ·cases e
  ·rename_i c
   have hk:=lc.mp (Bool.not_eq_true _ ▸ c)
   refine MOk.fill hv (fun s hs'=>hs s (.tail _ hs')) ⟨?_,?_⟩ e
   ·unfold keys
    rw[List.map_append,List.map_cons,List.map_nil,List.nodup_append]
    exact⟨h.nd,by simp,fun a ha b hb=>by rw[List.mem_singleton]at hb;subst hb;rintro rfl;exact hk ha⟩
   ·intro p hp
    rcases List.mem_append.mp hp with z | z
    ·exact h.at_ p z
    ·rw[List.mem_singleton]at z
     exact⟨s,v,z,(hs s (.head _)).1,(hs s (.head _)).2,hv⟩
theorem BkOk.sp {side:Nat}{b:Bk}(o:BkOk side b):∀ s∈spots b,s.1 < side∧s.2 < side:=fun s hs=>by
 have h:=dJ.mp hs
 have h1:=o.r;have h2:=o.d
 exact⟨by omega,by omega⟩
theorem MOk.go {side:Nat}:∀ {ds:List D} {m m':Mp},MOk side m→goB side ds m=some m'→MOk side m'
 | [],m,m',h,e=>by cases e;exact h
 | d::r,m,m',h,e=>by
  rw[goB]at e
  split at e
  ·cases e
  ·rename_i m1 hm
   refine MOk.go ?_ e
   unfold bkM at hm
   split at hm
   ·cases hm
   ·rename_i b hb
    have o:=(iy hb).2
    exact MOk.fill o.v o.sp h hm
theorem qf:∀ {m:Mp} {k:List Int} {d:D},(keys m).Nodup→(k,d)∈m→dicGet m k=some d
 | (k',d')::r,k,d,hn,h=>by
  have hn':=List.nodup_cons.mp hn
  unfold dicGet
  rw[List.find?_cons]
  by_cases c:k'=k
  ·rw[decide_eq_true c]
   rcases List.mem_cons.mp h with e | e
   ·cases e;rfl
   ·exact absurd (List.mem_map.mpr ⟨_,e,rfl⟩) (c ▸ hn'.1)
  ·rw[decide_eq_false c]
   rcases List.mem_cons.mp h with e | e
   ·cases e;exact absurd rfl c
   ·exact qf hn'.2 e
def gv (m:Mp)(x y:Nat):Int:=match dicGet m (kS (x,y)) with
 | some (.int v)=>v
 | _=>0
theorem wE {m:Mp}{x y:Nat}{v:Int}(hn:(keys m).Nodup)(h:(kS (x,y),D.int v)∈m):gv m x y=v∧dicGet m (kS (x,y))=some (.int v):=by
 have:=qf hn h
 exact⟨by unfold gv;rw[this],this⟩
def allS (side:Nat):List Sp:=spots ⟨0,0,side,0⟩
theorem gT {side:Nat}{s:Sp}:s∈allS side↔s.1 < side∧s.2 < side:=by
 unfold allS
 rw[dJ]
 simp[Bk.has]
theorem MOk.full {side:Nat}{m:Mp}(h:MOk side m)(hl:m.length=side*side){x y:Nat}(hx:x < side)(hy:y < side):W9 (gv m x y)∧dicGet m (kS (x,y))=some (.int (gv m x y)):=by
 have hk:kS (x,y)∈keys m:=by
  refine p9 (k:=(allS side).map kS) h.nd (fun a ha=>?_) ?_ _ (List.mem_map.mpr ⟨(x,y),gT.mpr ⟨hx,hy⟩,rfl⟩)
  ·obtain⟨p,hp,rfl⟩:=List.mem_map.mp ha
   obtain⟨s,v,rfl,h1,h2,_⟩:=h.at_ p hp
   exact List.mem_map.mpr ⟨s,gT.mpr ⟨h1,h2⟩,rfl⟩
  ·unfold keys allS
   rw[List.length_map,List.length_map,dL,hl]
 obtain⟨p,hp,e⟩:=List.mem_map.mp hk
 obtain⟨s,v,rfl,h1,h2,hv⟩:=h.at_ p hp
 have:=l3 e
 subst this
 obtain⟨e1,e2⟩:=wE h.nd hp
 rw[e1]
 exact⟨hv,e2⟩
theorem yC {m:Mp}{x y:Nat}{v:Int}(h:dicGet m (kS (x,y))=some (.int v)):dTx (tabD m) (.tup [.int (x:Int),.int (y:Int)])=.ok (.int v):=by
 show (match dicGet ((m.map (·.1)).zip (m.map (·.2))) (kS (x,y)) with | some d=>R.ok d | none=>R.stuck)=_
 rw[mJ,h]
theorem uQ {m:Mp}{side:Nat}(hm:MOk side m)(hl:m.length=side*side)(h8:side≤8){y:Nat}(hy:y < side):(((rng1 [.int (side:Int)]).bind fun xs=>cMap (fun x=>dTx (tabD m) (.tup [x,.int (y:Int)])) xs).bind fun x1=>dTuple [x1])=.ok (rowT .int (gv m) side y):=by
 rw[eG (by omega),R.bind_ok,cj (l:=List.range side) (fun i=>D.int ((i:Nat):Int)) (fun x=>D.int (gv m x y)) (fun x hx=>yC (hm.full hl (List.mem_range.mp hx) hy).2),R.bind_ok]
 rfl
section
variable {sz:Nat}
def picB (sz:Nat)(ds:List D):Option (Nat→Nat→Int):=match goB (2^sz) ds [] with
 | none=>none
 | some m=>if m.length=2^sz*2^sz then some (gv m) else none
theorem wp {ds:List D}{g:Nat→Nat→Int}(h:picB sz ds=some g):Wo g sz:=by
 unfold picB at h
 split at h
 ·cases h
 ·rename_i m hm
  split at h
  ·rename_i hl
   cases h
   exact fun x y hx hy=>((MOk.nil _).go hm |>.full hl hx hy).1
  ·cases h
theorem nW (h3:sz≤3):dIx (tupI [1,2,4,8]) (.int (sz:Int))=.ok (.int ((2^sz:Nat):Int)):=by rcases bz h3 with rfl | rfl | rfl | rfl<;>rfl
theorem uR (h3:sz≤3):dIx (.lst [(.int 1),(.int 2),(.int 4),(.int 8)]) (.int (sz:Int))=.ok (.int ((2^sz:Nat):Int)):=by rcases bz h3 with rfl | rfl | rfl | rfl<;>rfl
theorem sideMul (h3:sz≤3):dMul (.int ((2^sz:Nat):Int)) (.int ((2^sz:Nat):Int))=.ok (.int ((2^sz*2^sz:Nat):Int)):=by rcases bz h3 with rfl | rfl | rfl | rfl<;>rfl
theorem xQ (h3:sz≤3){ds:List D}(h:∀ d∈ds,okTh d)(hl:ds.length≤1000){n:Nat}(hn:6≤n):pf n F.aU [.int (sz:Int),.lst ds]=.ok (match picB sz ds with | none=>nb | some g=>picD sz (T g sz)):=by
 obtain⟨n,rfl,hn⟩:=ex1 (show 5+1≤n by omega)
 have s8:2^sz≤8:=p8 h3
 rw[ua,i5,uR h3,aB,dr (by omega),aB,nU _ _ ds [] h (by simp;omega)]
 unfold picB
 cases q:goB (2^sz) ds [] with
 | none=>rfl
 | some m =>
  have mo:=(MOk.nil (2^sz)).go q
  rw[show outM (.rt nb) (some m)=.nx m from rfl,aS,sideMul h3,R.bind_ok,cJ,aD,aB]
  by_cases c:m.length=2^sz*2^sz
  ·simp only[if_pos c]
   rw[if_neg (by rw[c,decide_eq_true rfl];decide),aS,eG (by omega),R.bind_ok,cj (l:=List.range (2^sz)) (fun i=>D.int ((i:Nat):Int)) (fun y=>rowT .int (gv m) (2^sz) y) (fun y hy=>by
    have:=uQ mo c s8 (List.mem_range.mp hy)
    rw[eG (by omega)]at this
    exact this),R.bind_ok,fM,R.bind_ok]
   have:=wB (n:=n) (gv m) h3 (by omega)
   unfold rowsT at this
   rw[this]
   rfl
  ·simp only[if_neg c]
   rw[if_pos (by rw[decide_eq_false (fun z=>c (by exact_mod_cast z))];rfl)]
   rfl
theorem uS (h3:sz≤3){ds:List D}(h:∀ d∈ds,okTh d)(hl:ds.length≤1000){n:Nat}(hn:8≤n):pf n F.ay [.int (sz:Int),.lst ds]=(match picB sz ds with | none=>.err 6 | some g=>.ok (picD sz (T g sz))):=by
 obtain⟨n,rfl,hn⟩:=ex1 (show 7+1≤n by omega)
 have s8:2^sz≤8:=p8 h3
 have ck:pf n F.av [.int (sz:Int),.lst ds]=if (ds.all fun d=>(bkOf (2^sz) d).isSome)=true then .ok .non else .err 6:=by
  obtain⟨n,rfl,hn⟩:=ex1 (show 6+1≤n by omega)
  rw[iO,bW,pW (by omega) rfl,show inTo 3 (.int (sz:Int))=true by simp[inTo];omega,aD,bq,Bool.not_true,fZ,show dIsA qList (.lst ds)=.ok (.bl true) from rfl,aD,bq,Bool.not_true,aB,if_neg (by decide),aS,nW h3,aB,dr (by omega),aB,j3 (by omega) _ ds h]
  split<;>rfl
 rw[lK,dc,ck]
 unfold picB
 by_cases ca:(ds.all fun d=>(bkOf (2^sz) d).isSome)=true
 ·have wb:pf n F.al [.lst ds]=(match goB (2^sz) ds [] with | none=>.err 6 | some m=>.ok (tabD m)):=by
   obtain⟨n,rfl,hn⟩:=ex1 (show 6+1≤n by omega)
   rw[gA,bE,dr (by omega),aB,j5 (by omega) s8 ds [] ca (by simp;omega)]
   cases goB (2^sz) ds []<;>rfl
  rw[if_pos ca,aB,wb]
  cases q:goB (2^sz) ds [] with
  | none=>rfl
  | some m =>
   have mo:=(MOk.nil (2^sz)).go q
   show outL (lB (R.ok (tabD m)) _)=_
   rw[aB,nW h3,aB,show dLenD [tabD m]=.ok (.int (((m.map (·.1)).length:Nat):Int)) from rfl,List.length_map,R.bind_ok,sideMul h3,R.bind_ok,cJ,aD,aB]
   by_cases c:m.length=2^sz*2^sz
   ·simp only[if_pos c]
    rw[if_neg (by rw[c,decide_eq_true rfl];decide),aS,eG (by omega),R.bind_ok,cj (l:=List.range (2^sz)) (fun i=>D.int ((i:Nat):Int)) (fun y=>rowT .int (gv m) (2^sz) y) (fun y hy=>by
     obtain⟨n,rfl,hn⟩:=ex1 (show 6+1≤n by omega)
     rw[rA,gn,uQ mo c s8 (List.mem_range.mp hy)]
     rfl),R.bind_ok,fM,R.bind_ok]
    have:=r6 (n:=n) (f:=gv m) (by omega) h3 (fun x y hx hy=>(mo.full c hx hy).1)
    unfold rowsT at this
    rw[this]
    rfl
   ·simp only[if_neg c]
    rw[if_pos (by rw[decide_eq_false (fun z=>c (by exact_mod_cast z))];rfl)]
    rfl
 ·rw[if_neg ca]
  cases q:goB (2^sz) ds [] with
  | none=>rfl
  | some m=>exact absurd (p7 q) ca
end
def Apart (b c:Bk):Prop:=∀ x y,b.has x y→¬ c.has x y
theorem qh {side:Nat}:∀ (l:List Bk) (m:Mp),(∀ b∈l,BkOk side b)→l.Pairwise Apart→(∀ b∈l,∀ s∈spots b,kS s∉keys m)→goB side (l.map Bk.d) m=some (m++l.flatMap fun b=>(spots b).map fun s=>(kS s,D.int b.v))
 | [],m,_,_,_=>by simp[goB]
 | b::r,m,ho,hp,hm=>by
  have hp':=List.pairwise_cons.mp hp
  rw[List.map_cons,goB]
  have e:bkM side b.d m=some (m++(spots b).map fun s=>(kS s,D.int b.v)):=by
   unfold bkM
   rw[xP (ho b (.head _))]
   exact j0 b.v (spots b) m (iI b) (hm b (.head _))
  rw[e]
  show goB side (r.map Bk.d) _=_
  rw[qh r _ (fun c hc=>ho c (.tail _ hc)) hp'.2 fun c hc s hs=>?_]
  ·rw[List.flatMap_cons,List.append_assoc]
  ·unfold keys
   rw[List.map_append,List.mem_append,List.map_map]
   rintro (z | z)
   ·exact hm c (.tail _ hc) s hs z
   ·obtain⟨s',hs',e'⟩:=List.mem_map.mp z
    have:=l3 e'
    subst this
    exact hp'.1 c hc _ _ (dJ.mp hs') (dJ.mp hs)
theorem uT {sz:Nat}{l:List Bk}{g:Nat→Nat→Int}(ho:∀ b∈l,BkOk (2^sz) b)(hp:l.Pairwise Apart)(hc:∀ x y,x < 2^sz→y < 2^sz→∃ b∈l,b.has x y)(hg:∀ b∈l,∀ x y,b.has x y→g x y=b.v):∃ g',picB sz (l.map Bk.d)=some g'∧∀ x y,x < 2^sz→y < 2^sz→g' x y=g x y:=by
 have e:=qh l [] ho hp (fun b _ s _=>by simp[keys])
 rw[List.nil_append]at e
 have mo:=(MOk.nil (2^sz)).go e
 have mem:∀ x y,x < 2^sz→y < 2^sz→(kS (x,y),D.int (g x y))∈l.flatMap fun b=>(spots b).map fun s=>(kS s,D.int b.v):=fun x y hx hy=>by
  obtain⟨b,hb,h⟩:=hc x y hx hy
  exact List.mem_flatMap.mpr ⟨b,hb,List.mem_map.mpr ⟨(x,y),dJ.mpr h,by rw[hg b hb x y h]⟩⟩
 have hl:(l.flatMap fun b=>(spots b).map fun s=>(kS s,D.int b.v)).length=2^sz*2^sz:=by
  have a1:(keys (l.flatMap fun b=>(spots b).map fun s=>(kS s,D.int b.v))).length≤((allS (2^sz)).map kS).length:=uP mo.nd fun a ha=>by
   obtain⟨p,hp,rfl⟩:=List.mem_map.mp ha
   obtain⟨s,v,rfl,h1,h2,_⟩:=mo.at_ p hp
   exact List.mem_map.mpr ⟨s,gT.mpr ⟨h1,h2⟩,rfl⟩
  have a2:((allS (2^sz)).map kS).length≤(keys (l.flatMap fun b=>(spots b).map fun s=>(kS s,D.int b.v))).length:=uP (by
   rw[List.Nodup,List.pairwise_map]
   exact List.Pairwise.imp (fun {a b} h e=>h (l3 e)) (iI _)) fun a ha=>by
   obtain⟨s,hs,rfl⟩:=List.mem_map.mp ha
   have:=gT.mp hs
   exact List.mem_map.mpr ⟨_,mem s.1 s.2 this.1 this.2,rfl⟩
  unfold keys at a1 a2
  unfold allS at a1 a2
  rw[List.length_map,List.length_map,dL]at a1 a2
  simp only at a1 a2
  omega
 refine⟨gv (l.flatMap fun b=>(spots b).map fun s=>(kS s,D.int b.v)),?_,fun x y hx hy=>(wE mo.nd (mem x y hx hy)).1⟩
 unfold picB
 rw[e]
 simp only[if_pos hl]
theorem Apart.symm {b c:Bk}(h:Apart b c):Apart c b:=fun x y h1 h2=>h x y h2 h1
theorem dM:∀ (n:Nat) (q:Q Int) (l t:Nat),(bks n q l t).Pairwise Apart
 | n,.lf v,l,t=>by rw[du];simp
 | 0,.nd _ _ _ _,_,_=>by simp[bks]
 | n+1,.nd a b c d,l,t=>by
  rw[bks,List.pairwise_append,List.pairwise_append,List.pairwise_append]
  refine⟨dM n a l t,⟨dM n b _ t,⟨dM n c l _,dM n d _ _,?_⟩,?_⟩,?_⟩
  ·intro x hx y hy u v h1 h2
   have i1:=bT n _ _ _ hx;have i2:=bT n _ _ _ hy
   omega
  ·intro x hx y hy u v h1 h2
   have i1:=bT n _ _ _ hx
   rcases List.mem_append.mp hy with z | z
   ·have i2:=bT n _ _ _ z;omega
   ·have i2:=bT n _ _ _ z;omega
  ·intro x hx y hy u v h1 h2
   have i1:=bT n _ _ _ hx
   rcases List.mem_append.mp hy with z | z
   ·have i2:=bT n _ _ _ z;omega
   ·rcases List.mem_append.mp z with z | z
    ·have i2:=bT n _ _ _ z;omega
    ·have i2:=bT n _ _ _ z;omega
theorem j6:∀ (n:Nat) (q:Q Int) (l t:Nat),2^n ∣ l→2^n ∣ t→∀ {b:Bk},b∈bks n q l t→(∃ k,k≤n∧b.w=2^k)∧b.w ∣ b.l∧b.w ∣ b.t
 | n,.lf v,l,t,hl,ht,b,hb=>by
  rw[du,List.mem_singleton]at hb
  subst hb
  exact⟨⟨n,Nat.le_refl n,rfl⟩,hl,ht⟩
 | 0,.nd _ _ _ _,_,_,_,_,b,hb=>by simp[bks]at hb
 | n+1,.nd a b c d,l,t,hl,ht,x,hx=>by
  have h1:2^n ∣ l:=Nat.dvd_trans (Nat.pow_dvd_pow 2 (Nat.le_succ n)) hl
  have h2:2^n ∣ t:=Nat.dvd_trans (Nat.pow_dvd_pow 2 (Nat.le_succ n)) ht
  have h3:2^n ∣ l+2^n:=Nat.dvd_add h1 (Nat.dvd_refl _)
  have h4:2^n ∣ t+2^n:=Nat.dvd_add h2 (Nat.dvd_refl _)
  have up:((∃ k,k≤n∧x.w=2^k)∧x.w ∣ x.l∧x.w ∣ x.t)→(∃ k,k≤n+1∧x.w=2^k)∧x.w ∣ x.l∧x.w ∣ x.t:=fun ⟨⟨k,hk,e⟩,r⟩=>⟨⟨k,by omega,e⟩,r⟩
  rw[bks]at hx
  rcases List.mem_append.mp hx with z | z
  ·exact up (j6 n a l t h1 h2 z)
  ·rcases List.mem_append.mp z with z | z
   ·exact up (j6 n b _ t h3 h2 z)
   ·rcases List.mem_append.mp z with z | z
    ·exact up (j6 n c l _ h1 h4 z)
    ·exact up (j6 n d _ _ h3 h4 z)
theorem nX {p:Int→Prop}:∀ (n:Nat) (q:Q Int) (l t:Nat),q.All p→∀ {b:Bk},b∈bks n q l t→p b.v
 | n,.lf v,l,t,h,b,hb=>by
  rw[du,List.mem_singleton]at hb
  subst hb
  exact h
 | 0,.nd _ _ _ _,_,_,_,b,hb=>by simp[bks]at hb
 | n+1,.nd a b c d,l,t,h,x,hx=>by
  rw[bks]at hx
  rcases List.mem_append.mp hx with z | z
  ·exact nX n a l t h.1 z
  ·rcases List.mem_append.mp z with z | z
   ·exact nX n b _ t h.2.1 z
   ·rcases List.mem_append.mp z with z | z
    ·exact nX n c l _ h.2.2.1 z
    ·exact nX n d _ _ h.2.2.2 z
theorem Pc.bkok {sz:Nat}{t:Q Int}(p:Pc sz t){b:Bk}(hb:b∈bks sz t 0 0):BkOk (2^sz) b:=by
 obtain⟨⟨k,hk,e⟩,h1,h2⟩:=j6 sz t 0 0 (Nat.dvd_zero _) (Nat.dvd_zero _) hb
 have i:=bT sz t 0 0 hb
 have h3:=p.h3
 refine⟨?_,Nat.mod_eq_zero_of_dvd h1,Nat.mod_eq_zero_of_dvd h2,nX sz t 0 0 p.all hb,by omega,by omega⟩
 rw[e]
 rcases bz (show k≤3 by omega) with rfl | rfl | rfl | rfl<;>decide
theorem Pc.mixed {sz:Nat}{t:Q Int}(p:Pc sz t){l:List Bk}(h:l.Perm (bks sz t 0 0)):∃ g',picB sz (l.map Bk.d)=some g'∧∀ x y,x < 2^sz→y < 2^sz→g' x y=t.at sz x y:=by
 refine uT (fun b hb=>p.bkok (h.mem_iff.mp hb)) ?_ (fun x y hx hy=>?_) fun b hb x y hh=>?_
 ·exact(h.pairwise_iff fun {a b} r=>Apart.symm r).mpr (dM sz t 0 0)
 ·obtain⟨b,hb,hh⟩:=eJ sz t 0 0 p.dep x y (by omega) (by omega) (by omega) (by omega)
  exact⟨b,h.mem_iff.mpr hb,hh⟩
 ·exact uI sz t 0 0 (h.mem_iff.mp hb) hh
def tw (t:Nat→List D→R D)(r:R D):L Unit:=lTry (τ:=D) (qTk esL) (lB r .nx) (fun x=>.rt x) (fun k=>lB (t F.aj [.exc k]) .rt)
theorem xR {t:Nat→List D→R D}{k:Nat}{d:D}(hk:qTk esL k=true)(h:t F.aj [.exc k]=.ok d):outL (tw t (.err k))=.ok d:=by
 unfold tw
 rw[tM,vC,if_pos hk,h];rfl
theorem d6_0 (t:Nat→List D→R D)(a b c:D):cx t (.int 0) a b c=tw t (t F.aJ [a]):=rfl
theorem d6_1 (t:Nat→List D→R D)(a b c:D):cx t (.int 1) a b c=tw t (t F.ay [a,b]):=rfl
theorem d6_2 (t:Nat→List D→R D)(a b c:D):cx t (.int 2) a b c=tw t (t F.aI [a,b,c]):=rfl
theorem d6 {m:Nat}{w a b c d:D}{r:R D}(h:cx (pf m) w a b c=tw (pf m) r)(hr:r=.ok d):pf (m+1) F.ad [w,a,b,c]=.ok d:=by rw[kU,h,hr];rfl
theorem d6e {m:Nat}{w a b c d:D}{r:R D}{k:Nat}(h:cx (pf m) w a b c=tw (pf m) r)(hr:r=.err k)(hk:qTk esL k=true)(hw:pf m F.aj [.exc k]=.ok d):pf (m+1) F.ad [w,a,b,c]=.ok d:=by rw[kU,h,hr,xR hk hw]
theorem word2 {m:Nat}(hm:1≤m):pf m F.aj [.exc 2]=.ok (.str "no spot"):=by
 obtain⟨m,rfl,hm⟩:=ex1 hm
 rw[hV,dE]
 rfl
theorem word6 {m:Nat}(hm:1≤m):pf m F.aj [.exc 6]=.ok nb:=by
 obtain⟨m,rfl,hm⟩:=ex1 hm
 rw[hV,dE]
 rfl
theorem ce:∀ (n:Nat) (q:Q Int) (l t:Nat) (k:Nat),n≤3→q.dep≤n→n+1≤k→pf k F.ah [q.d .int,.int (l:Int),.int (t:Int),.int ((2^n:Nat):Int)]=.ok (.lst ((bks n q l t).map Bk.d))
 | n,.lf v,l,t,k+1,_,_,_=>by
  rw[iE,cW,Q.isTup_lf,du];simp only[STP,if_true,if_false,ite_true,ite_false,reduceIte,reduceCtorEq,OPP];rfl
 | n,.lf v,l,t,0,_,_,h=>by omega
 | 0,.nd _ _ _ _,_,_,_,_,h,_=>by simp[Q.dep]at h
 | n+1,.nd a b c d,l,t,k,h3,hd,hk=>by
  obtain⟨k,rfl⟩:∃ j,k=j+1:=⟨k - 1,by omega⟩
  have hd':a.dep≤n∧b.dep≤n∧c.dep≤n∧d.dep≤n:=by simp only[Q.dep]at hd;omega
  have e2:((2^(n+1):Nat):Int)/2=((2^n:Nat):Int):=by rw[bO];omega
  have hlt:((2^n:Nat):Int) < 2^64:=by
   have:n=0∨n=1∨n=2:=by omega
   rcases this with h | h | h<;>subst h<;>decide
  have A:=ce n a l t k (by omega) hd'.1 (by omega)
  have B:=ce n b (l+2^n) t k (by omega) hd'.2.1 (by omega)
  have C:=ce n c l (t+2^n) k (by omega) hd'.2.2.1 (by omega)
  have E:=ce n d (l+2^n) (t+2^n) k (by omega) hd'.2.2.2 (by omega)
  have lA:=bu n a l t;have lB':=bu n b (l+2^n) t;have lC:=bu n c l (t+2^n);have lD:=bu n d (l+2^n) (t+2^n)
  have l64:4^n≤16:=by
   have:n=0∨n=1∨n=2:=by omega
   rcases this with h | h | h<;>subst h<;>decide
  have hp:0≤((2^n:Nat):Int):=Int.natCast_nonneg _
  have m0:dMul (.int 0) (.int ((2^n:Nat):Int))=.ok (.int 0):=by rw[bg (.inr (by omega))];simp
  have m1:dMul (.int 1) (.int ((2^n:Nat):Int))=.ok (.int ((2^n:Nat):Int)):=by rw[bg (.inr (by omega))];simp
  rw[Int.natCast_add]at B C E
  rw[Int.natCast_add]at E
  rw[iE,cW,Q.isTup_nd]
  simp only[STP,if_true,if_false,ite_true,ite_false,reduceIte,reduceCtorEq,OPP,dG (show (0:Int) < 2 by decide) (by decide),e2,enum4,lFor,nP,fr,bH (show (0:Int) < 2 by decide),show (0:Int)%2=0 from rfl,show (1:Int)%2=1 from rfl,show (2:Int)%2=0 from rfl,show (3:Int)%2=1 from rfl,show (0:Int)/2=0 from rfl,show (1:Int)/2=0 from rfl,show (2:Int)/2=1 from rfl,show (3:Int)/2=1 from rfl,m0,m1,Int.add_zero,A,B,C,E]
  rw[bJ (by simp;omega)]
  simp only[STP,if_true,if_false,ite_true,ite_false,reduceIte,reduceCtorEq]
  rw[bJ (by simp;omega)]
  simp only[STP,if_true,if_false,ite_true,ite_false,reduceIte,reduceCtorEq]
  rw[bJ (by simp;omega)]
  simp only[STP,if_true,if_false,ite_true,ite_false,reduceIte,reduceCtorEq]
  rw[bJ (by simp;omega)]
  simp only[STP,if_true,if_false,ite_true,ite_false,reduceIte,reduceCtorEq]
  rw[bks]
  simp only[List.map_append,List.nil_append,List.append_assoc]
theorem uU {α β:Type}(f:α→β)(xs:List α)(n:Nat)(v:α):insA (xs.map f) n (f v)=(insA xs n v).map f:=by
 unfold insA
 rw[List.map_append,List.map_cons,List.map_take,List.map_drop]
theorem sv {α:Type}(xs:List α)(n:Nat)(v:α):(insA xs n v).Perm (v::xs):=by
 unfold insA
 refine List.perm_middle.trans ?_
 rw[List.take_append_drop]
theorem nY (ns:List Int){n:Nat}(hn:2≤n):∀ (l:List Bk) (k:Nat) (acc:List Bk),acc.length+l.length≤10000→∃ out:List Bk,out.Perm (acc++l)∧lFor (τ:=List D) (fun s p=>lUn2 p fun x0 x1=>bY (pf n) (scr ns) s x0 x1) (enD (l.map Bk.d) k) (acc.map Bk.d)=.nx (out.map Bk.d)
 | [],k,acc,_=>⟨acc,by simp,rfl⟩
 | b::r,k,acc,hl=>by
  rw[List.length_cons]at hl
  have p1:=cK (n:=n) hn ns (5000+k) (a:=5000+(k:Int)) (m:=(((acc.map Bk.d).length:Nat):Int)+1) (by omega) (by omega)
  have lo:=gO (ns:=ns) (k:=5000+k) (m:=(((acc.map Bk.d).length:Nat):Int)+1) (by omega)
  have hi:=gP (ns:=ns) (k:=5000+k) (m:=(((acc.map Bk.d).length:Nat):Int)+1) (by omega)
  generalize pk ns (5000+k) ((((acc.map Bk.d).length:Nat):Int)+1)=j at *
  have hl':(acc.map Bk.d).length=acc.length:=by simp
  rw[hl']at hi
  have st:bY (pf n) (scr ns) (acc.map Bk.d) (.int (k:Int)) b.d=.nx ((insA acc j.toNat b).map Bk.d):=by
   unfold bY
   rw[aG,R.bind_ok,aG,R.bind_ok,p1,R.bind_ok]
   have:oIns (acc.map Bk.d) (.int j) b.d=.ok (insA (acc.map Bk.d) j.toNat b.d):=by
    show (if (0≤j∧j≤1000000)∧(acc.map Bk.d).length < 16777216 then R.ok _ else R.stuck)=_
    rw[if_pos ⟨⟨lo,by omega⟩,by omega⟩]
   rw[this,uU]
   rfl
  have pm:=sv acc j.toNat b
  obtain⟨out,h1,h2⟩:=nY ns hn r (k+1) (insA acc j.toNat b) (by rw[pm.length_eq,List.length_cons];omega)
  refine⟨out,h1.trans ?_,?_⟩
  ·exact(pm.append_right r).trans (List.perm_middle (a:=b) (l₁:=acc) (l₂:=r)).symm
  ·rw[List.map_cons,enD,aK]
   show lS (bY (pf n) (scr ns) (acc.map Bk.d) (.int (k:Int)) b.d) _=_
   rw[st,aS,h2]
theorem th4 (a b c d:Int):th 5 1 (.tup [.int a,.int b,.int c,.int d])=true:=bj.mpr ⟨by show 4≤5;decide,fun x hx=>by
 simp only[List.mem_cons,List.not_mem_nil,or_false]at hx
 rcases hx with rfl | rfl | rfl | rfl<;>rfl⟩
theorem ok4 (a b c d:Int):okTh (.tup [.int a,.int b,.int c,.int d]):=nJ (Nat.le_refl 5) (th4 a b c d) (by decide)
theorem nZ (xs ys:List D)(h:xs.length+ys.length≤16777216):dAdd (.lst xs) (.lst ys)=.ok (.lst (xs++ys)):=by
 show (if xs.length+ys.length≤16777216 then _ else _)=_
 rw[if_pos h]
theorem wq (xs:List D)(lo hi:Option Int):dSw (.lst xs) lo hi=.ok (.lst (cutD xs lo hi)):=rfl
theorem max1 (x:Int):∃ z,dMax2 [.int 1,.int x]=.ok (.int z):=⟨_,rfl⟩
theorem wr:good 60 nb=true:=rfl
theorem uV {sz:Nat}(h3:sz≤3){ds:List D}(h:∀ d∈ds,okTh d)(hl:ds.length≤1000):∃ x,good 60 x=true∧pf 39 F.ad [.int 1,.int (sz:Int),.lst ds,.non]=.ok x∧pf 39 F.aU [.int (sz:Int),.lst ds]=.ok x:=by
 have a:=xQ h3 h hl (n:=39) (by decide)
 have b:=uS h3 h hl (n:=38) (by decide)
 cases q:picB sz ds with
 | none =>
  rw[q]at a b
  exact⟨nb,wr,d6e (m:=38) (d6_1 _ _ _ _) b (by decide) (word6 (by decide)),a⟩
 | some g =>
  rw[q]at a b
  exact⟨_,(sh_T h3 (wp q)).p.g60,d6 (m:=38) (d6_1 _ _ _ _) b,a⟩
theorem pb (ns:List Int){sz:Nat}{t:Q Int}(p:Pc sz t){M:List Bk}(h0:0 < M.length)(h64:M.length≤64)(k:Nat):cH (pf 39) (scr ns) (picD sz t) (.lst (M.map Bk.d)) (.int (k:Int))=.nx ():=by
 have ml:(M.map Bk.d).length=M.length:=by simp
 have m5:dMul (.int 5) (.int (k:Int))=.ok (.int (5*(k:Int))):=bg (.inr (by decide))
 have p1:=cK (n:=39) (by decide) ns (5100+5*k) (a:=5100+5*(k:Int)) (m:=(M.length:Int)) (by omega) (by omega)
 have lo:=gO (ns:=ns) (k:=5100+5*k) (m:=(M.length:Int)) (by omega)
 have hi:=gP (ns:=ns) (k:=5100+5*k) (m:=(M.length:Int)) (by omega)
 generalize pk ns (5100+5*k) (M.length:Int)=j at *
 obtain⟨j,rfl⟩:=Int.eq_ofNat_of_zero_le lo
 have hj:j < M.length:=by omega
 obtain⟨b,hb⟩:∃ b,M[j]?=some b:=⟨M[j],by rw[List.getElem?_eq_getElem hj]⟩
 have ij:dIx (.lst (M.map Bk.d)) (.int (j:Int))=.ok b.d:=ixL (by rw[List.getElem?_map,hb];rfl)
 obtain⟨nw,tn,en⟩:=la (w:=5) (n:=1) (by decide) (by decide) (by decide) (by decide) (d:=b.d) (th4 _ _ _ _) (m:=39) (by decide) ns (5101+5*k)
 have en':pf 39 F.aa [scr ns,.int (5101+5*(k:Int)),b.d]=.ok nw:=by
  rw[show (5101+5*(k:Int))=((5101+5*k:Nat):Int) by omega];exact en
 have p2:=cK (n:=39) (by decide) ns (5104+5*k) (a:=5104+5*(k:Int)) (m:=7) (by omega) (by decide)
 have lo2:=gO (ns:=ns) (k:=5104+5*k) (m:=7) (by decide)
 have hi2:=gP (ns:=ns) (k:=5104+5*k) (m:=7) (by decide)
 generalize pk ns (5104+5*k) 7=i at *
 have un:∀ k:D→D→D→D→L Unit,lUn4 b.d k=k (.int (b.l:Int)) (.int (b.t:Int)) (.int (b.w:Int)) (.int b.v):=fun _=>rfl
 have m2:dMul (.int 2) (.int (b.w:Int))=.ok (.int (2*(b.w:Int))):=bg (.inr (by decide))
 have d2:dDiv (.int (b.w:Int)) (.int 2)=.ok (.int ((b.w:Int)/2)):=dG (by decide) (by decide)
 obtain⟨z,hz⟩:=max1 ((b.w:Int)/2)
 have rp:dMul (.lst [b.d]) (.int 2)=.ok (.lst [b.d,b.d]):=rfl
 have c1:cutD (M.map Bk.d) none (some (j:Int))=(M.map Bk.d).take j:=uD (by omega)
 have c2:cutD (M.map Bk.d) (some ((j:Int)+1)) none=(M.map Bk.d).drop (j+1):=by
  have:=jV (xs:=M.map Bk.d) (a:=j+1) (by omega)
  rw[← this];rfl
 have n3:∀ x y w:D,dIx (.lst [x,y,w]) (.int 0)=.ok x∧dIx (.lst [x,y,w]) (.int 1)=.ok y∧dIx (.lst [x,y,w]) (.int 2)=.ok w:=fun _ _ _=>⟨rfl,rfl,rfl⟩
 unfold cH
 simp only[m5,R.bind_ok,aG,gJ,ml,p1,aB,ij,en',un,m2,d2,hz,rp,n3,wc,wq,c1,c2,p2]
 have hn:∃ lst,dIx (.lst [.lst [nw],.lst [],.lst [b.d,b.d],.lst [.tup [.int ((b.l:Int)+(b.w:Int)),.int (b.t:Int),.int (b.w:Int),.int b.v]],.lst [.tup [.int (b.l:Int),.int (b.t:Int),.int (2*(b.w:Int)),.int b.v]],.lst [.tup [.int (b.l:Int),.int (b.t:Int),.int z,.int b.v]],.lst [.tup [.int ((b.l:Int)+1),.int (b.t:Int),.int (b.w:Int),.int b.v]]]) (.int i)=.ok (.lst lst)∧lst.length≤2∧∀ d∈lst,okTh d:=by
  have hnw:okTh nw:=nJ (Nat.le_refl 5) tn (by decide)
  have one:∀ x:D,okTh x→∀ d∈[x],okTh d:=fun x hx d hd=>by rw[List.mem_singleton]at hd;exact hd ▸ hx
  have:i=0∨i=1∨i=2∨i=3∨i=4∨i=5∨i=6:=by omega
  rcases this with rfl | rfl | rfl | rfl | rfl | rfl | rfl
  ·exact⟨_,rfl,by simp,one _ hnw⟩
  ·exact⟨_,rfl,by simp,by simp⟩
  ·exact⟨_,rfl,by simp,fun d hd=>by
    have:d=b.d:=by simpa using hd
    exact this ▸ ok4 _ _ _ _⟩
  ·exact⟨_,rfl,by simp,one _ (ok4 _ _ _ _)⟩
  ·exact⟨_,rfl,by simp,one _ (ok4 _ _ _ _)⟩
  ·exact⟨_,rfl,by simp,one _ (ok4 _ _ _ _)⟩
  ·exact⟨_,rfl,by simp,one _ (ok4 _ _ _ _)⟩
 obtain⟨lst,el,l2,ol⟩:=hn
 have okM:∀ d∈M.map Bk.d,okTh d:=fun d hd=>by obtain⟨b,_,rfl⟩:=List.mem_map.mp hd;exact ok4 _ _ _ _
 obtain⟨x,gx,e1,e2⟩:=uV p.h3 (ds:=(M.map Bk.d).take j++lst++(M.map Bk.d).drop (j+1)) (fun d hd=>by
  rcases List.mem_append.mp hd with z | z
  ·rcases List.mem_append.mp z with z | z
   ·exact okM d (List.mem_of_mem_take z)
   ·exact ol d z
  ·exact okM d (List.mem_of_mem_drop z)) (by simp;omega)
 have i0:dIx (picD sz t) (.int 0)=.ok (.int (sz:Int)):=rfl
 rw[el,R.bind_ok,nZ _ _ (by simp;omega),R.bind_ok,nZ _ _ (by simp;omega),aB,i0,R.bind_ok,e1,R.bind_ok,R.bind_ok,e2,R.bind_ok,gR gx]
 rfl
def hasI (b:Bk)(x y:Int):Bool:=(decide ((b.l:Int)≤x)&&decide (x < (b.l:Int)+(b.w:Int)))&&(decide ((b.t:Int)≤y)&&decide (y < (b.t:Int)+(b.w:Int)))
theorem uW (b:Bk)(x y:Nat):hasI b (x:Int) (y:Int)=decide (b.has x y):=by
 unfold hasI
 rw[Bool.eq_iff_iff]
 simp only[Bool.and_eq_true,decide_eq_true_eq,Bk.has]
 omega
theorem wt {l:List Bk}(hl:l.length≤1000)(x y:Int):((sq (.lst (l.map Bk.d))).bind fun xs2=>cFil (fun yS=>(rAnd (asB ((dIx yS (.int 0)).bind fun x56=>rCh dLe dLt x56 (.int x) ((dIx yS (.int 0)).bind fun x57=>(dIx yS (.int 2)).bind fun x58=>dAdd x57 x58))) (asB ((dIx yS (.int 1)).bind fun x53=>rCh dLe dLt x53 (.int y) ((dIx yS (.int 1)).bind fun x54=>(dIx yS (.int 2)).bind fun x55=>dAdd x54 x55))))) (fun yS=>.ok yS) xs2)=.ok (.lst ((l.filter fun b=>hasI b x y).map Bk.d)):=by
 rw[dr (by simp;omega),R.bind_ok]
 exact nQ (fun b=>hasI b x y) fun b _=>by
  have r1:rCh dLe dLt (.int (b.l:Int)) (.int x) (.ok (.int ((b.l:Int)+(b.w:Int))))=.ok (.bl _):=gN (fun a b=>decide (a≤b)) dLe dLt (g:=fun a b=>decide (a < b)) (eE _ _) (gK _ _)
  have r2:rCh dLe dLt (.int (b.t:Int)) (.int y) (.ok (.int ((b.t:Int)+(b.w:Int))))=.ok (.bl _):=gN (fun a b=>decide (a≤b)) dLe dLt (g:=fun a b=>decide (a < b)) (eE _ _) (gK _ _)
  unfold Bk.d
  simp only[ix40,ix41,ix42,R.bind_ok,aG,r1,r2,aD,pV]
  rfl
theorem qi (b:Bk):good 2 b.d=true:=rfl
theorem qj (l:List Bk):good 60 (.lst (l.map Bk.d))=true:=by
 rw[good]
 exact bI fun d hd=>by obtain⟨b,_,rfl⟩:=List.mem_map.mp hd;exact cn (qi b) (by decide)
theorem sw {sz:Nat}{t:Q Int}{g:Nat→Nat→Int}(q:Sh sz g t)(x y:Int):∃ d,good 60 d=true∧pf 39 F.ad [.int 2,picD sz t,.int x,.int y]=.ok d∧(rIf (asB (dNf (.lst (((bs sz g).filter fun b=>hasI b x y).map Bk.d)) (.lst []))) (dIx (.lst (((bs sz g).filter fun b=>hasI b x y).map Bk.d)) (.int 0)) (.ok (.str "no spot")))=.ok d:=by
 by_cases h:inB (2^sz) x y=true
 ·obtain⟨a,b,rfl,rfl,ha,hb⟩:=xL h
  obtain⟨m,hm,hh⟩:=xN (g:=g) ha hb
  have e:((bs sz g).filter fun c=>hasI c (a:Int) (b:Int))=(bs sz g).filter fun c=>decide (c.has a b):=by
   congr 1;funext c;exact uW c a b
  obtain⟨r,hr⟩:=gS (p:=fun c:Bk=>decide (c.has a b)) hm (by simpa using hh) (fun c hc hp=>uK hc hm (by simpa using hp) hh)
  refine⟨m.d,cn (qi m) (by decide),d6 (m:=38) (d6_2 _ _ _ _) (q.blockat (by decide) hm hh),?_⟩
  have h0:dIx (.lst (m.d::r.map Bk.d)) (.int 0)=.ok m.d:=ixL (i:=0) rfl
  rw[e,hr,jP (qj _) rfl,List.map_cons,h0,show eqD (.lst (m.d::r.map Bk.d)) (.lst [])=false from rfl]
  rfl
 ·have e:((bs sz g).filter fun c=>hasI c x y)=[]:=List.filter_eq_nil_iff.mpr fun c hc z=>by
   have i:=wC hc
   unfold hasI at z
   simp only[Bool.and_eq_true,decide_eq_true_eq]at z
   apply h
   unfold inB
   simp only[Bool.and_eq_true,decide_eq_true_eq]
   omega
  refine⟨_,rfl,d6e (m:=38) (d6_2 _ _ _ _) (k:=2) ?_ (by decide) (word2 (by decide)),?_⟩
  ·rw[eT,b8,q.p.check (by decide),aB,q.p.spot_any (by decide),if_neg h]
   rfl
  ·rw[e];rfl
theorem kt (ns:List Int):pf 40 F.aB [.lst (ns.map .int)]=.ok (.bl true):=by
 obtain⟨sz,t,_,p,hp⟩:=v6 ns 0 3 39 (by decide) (by decide)
 have hp':pf 39 F.az [scr ns,.int 0,.int 3]=.ok (picD sz t):=hp
 have h8:=p8 p.h3
 have two:=pos2 sz
 have q:=p.sh
 have lr:=q.lrows (n:=39) (by decide)
 have el:dLen [rowsT .int (t.at sz) (2^sz) (2^sz)]=.ok (.int ((2^sz:Nat):Int)):=by unfold rowsT;simp
 have lo:=wB (n:=39) (t.at sz) p.h3 (by decide)
 have i1:∀ u:Q Int,dIx (picD sz u) (.int 1)=.ok (u.d .int):=fun _=>rfl
 have i0:dIx (picD sz t) (.int 0)=.ok (.int (sz:Int)):=rfl
 have lb1:pf 39 F.ah [(T (t.at sz) sz).d .int,.int 0,.int 0,.int ((2^sz:Nat):Int)]=.ok (.lst ((bs sz (t.at sz)).map Bk.d)):=ce sz (T (t.at sz) sz) 0 0 39 p.h3 (dF _ _) (by have:=p.h3;omega)
 have lb2:pf 39 F.ah [t.d .int,.int 0,.int 0,.int ((2^sz:Nat):Int)]=.ok (.lst ((bks sz t 0 0).map Bk.d)):=ce sz t 0 0 39 p.h3 p.dep (by have:=p.h3;omega)
 have do0:pf 39 F.ad [.int 0,picD sz t,.non,.non]=.ok (.lst ((bs sz (t.at sz)).map Bk.d)):=d6 (m:=38) (d6_0 _ _ _ _) (q.blocks (by decide))
 have l64:(bks sz t 0 0).length≤64:=by
  have h1:=bu sz t 0 0
  have:4^sz≤64:=by rcases bz p.h3 with h | h | h | h<;>subst h<;>decide
  omega
 have sqd:dEnum (.lst ((bks sz t 0 0).map Bk.d))=.ok (enD ((bks sz t 0 0).map Bk.d) 0):=by
  unfold dEnum
  rw[dr (by simp;omega)]
  rfl
 obtain⟨M,pm,lm⟩:=nY ns (n:=39) (by decide) (bks sz t 0 0) 0 [] (by simp;omega)
 rw[List.nil_append]at pm
 rw[List.map_nil]at lm
 have m0:0 < M.length:=by
  obtain⟨b,hb,_⟩:=eJ sz t 0 0 p.dep 0 0 (by omega) (by omega) (by omega) (by omega)
  exact List.length_pos_of_mem (pm.mem_iff.mpr hb)
 have m64:M.length≤64:=by rw[pm.length_eq];exact l64
 obtain⟨g',pg,eg⟩:=p.mixed pm
 have okM:∀ d∈M.map Bk.d,okTh d:=fun d hd=>by obtain⟨b,_,rfl⟩:=List.mem_map.mp hd;exact ok4 _ _ _ _
 have ofb:=uS p.h3 okM (by simp;omega) (n:=38) (by decide)
 rw[pg]at ofb
 have do1:pf 39 F.ad [.int 1,.int (sz:Int),.lst (M.map Bk.d),.non]=.ok (picD sz (T (t.at sz) sz)):=d6 (m:=38) (d6_1 _ _ _ _) (by rw[ofb,← bP sz _ _ eg])
 have r4:rng1 [.int 4]=.ok ((List.range 4).map fun i:Nat=>D.int (i:Int)):=eG (by decide)
 have l1:=nI (f:=fun _ x=>cH (pf 39) (scr ns) (picD sz t) (.lst (M.map Bk.d)) x) ((List.range 4).map fun i:Nat=>D.int (i:Int)) (fun d hd=>by
  obtain⟨k,_,rfl⟩:=List.mem_map.1 hd
  exact pb ns p m0 m64 k)
 have p1:=cK (n:=39) (by decide) ns 5200 (a:=5200) (m:=((2^sz:Nat):Int)+2) (by decide) (by omega)
 have p2:=cK (n:=39) (by decide) ns 5201 (a:=5201) (m:=((2^sz:Nat):Int)+2) (by decide) (by omega)
 generalize pk ns 5200 (((2^sz:Nat):Int)+2)=x at *
 generalize pk ns 5201 (((2^sz:Nat):Int)+2)=y at *
 have hh:=wt (l:=bs sz (t.at sz)) (by have:=uJ p.h3 (t.at sz);omega) (x - 1) (y - 1)
 obtain⟨d,gd,e1,e2⟩:=sw q (x - 1) (y - 1)
 obtain⟨bad,tb,eb⟩:=la (w:=5) (n:=4) (by decide) (by decide) (by decide) (by decide) p.th (m:=39) (by decide) ns 5300
 have eb':pf 39 F.aa [scr ns,.int 5300,picD sz t]=.ok bad:=eb
 have iq:=lb (w:=5) (by decide) (n:=4) tb (m:=39) (by decide) (by decide)
 rw[show D.lst (ns.map .int)=scr ns from rfl,oJ,fo,hp',aB,lr,aB,el,aB,lo,R.bind_ok,i1,R.bind_ok,lb1,aB,do0,R.bind_ok,gR (qj _),aD,aB,if_neg (by decide),aS,i1,R.bind_ok,lb2,aB,sqd,aB,lm,aS,i0,R.bind_ok,do1,R.bind_ok,R.bind_ok,gR (sh_T p.h3 q.wo).p.g60,aD,aB,if_neg (by decide),aS,r4,aB,l1,aS,aG,R.bind_ok,p1,R.bind_ok,c8,aB,R.bind_ok,p2,R.bind_ok,c8,aB,hh,aB,e1,R.bind_ok,e2,R.bind_ok,gR gd,aD,aB,if_neg (by decide),aS,eb',aB,iq]
 cases c4:sizedOk (inTo 9) 4 bad with
 | true=>rfl
 | false =>
  have cb:∀ m,30≤m→pf m F.ab [bad]=.err 1:=fun m hm=>by
   have h1:=lb (w:=5) (by decide) (n:=5) (nJ (Nat.le_refl 5) tb (show 5≤6 by decide)) (m:=39) (by decide) (by decide)
   rw[iq,c4]at h1
   exact si (n:=5) (by decide) tb (by omega) (D.bl.inj (R.ok.inj h1)).symm
  have y0:pf 39 F.ad [.int 0,bad,.int 99,.int 99]=_:=d6e (m:=38) (d6_0 _ _ _ _) (by rw[kR,eR,pS,jz,cb 36 (by decide)];rfl) (by decide) (word1 (m:=38) (by decide))
  have y1:pf 39 F.ad [.int 2,bad,.int 99,.int 99]=_:=d6e (m:=38) (d6_2 _ _ _ _) (by rw[eT,b8,cb 37 (by decide)];rfl) (by decide) (word1 (m:=38) (by decide))
  rw[show sq (.tup [(.int 0),(.int 2)])=.ok [.int 0,.int 2] from rfl]
  simp only[cMap,cGo,y0,y1,R.bind_ok]
  rfl
end Lw
end
end
noncomputable section
set_option maxHeartbeats 4000000
namespace Lw
open PySem PySem.Spec PyProof.Rows L2 FF
def cname:Nat→Str
 | 0 => "FourError"
 | 1 => "NoPicture"
 | 2 => "NoSpot"
 | 3 => "BadBox"
 | 4 => "Unlike"
 | 5 => "NoRule"
 | 6 => "NoBlocks"
 | 7 => "NoChange"
 | 8 => "NoNumber"
 | 9 => "NothingDone"
 | 10 => "NoText"
 | 21 => "is_worth"
 | _ => "?"
def Cof (K:PySem.W.Frag)(i:Nat):Addr:=match PySem.W.nsIn K mainGlobals (cname i) with
 | some (some (.ref a))=>a
 | _=>0
theorem cof {K:PySem.W.Frag}{i:Nat}{x:Str}{a:Addr}(h:Ng K x (some (.ref a)))(hx:cname i=x:=by rfl):Cof K i=a:=by unfold Cof;rw[hx,h]
structure Fds (K:PySem.W.Frag)(mg:Str→Option Value):Prop where
 F20:Fd K mg "is_whole" ["thing"] fz
 F21:Fd K mg "is_worth" ["thing"] fA
 F22:Fd K mg "is_size" ["thing"] hZ
 F23:Fd K mg "is_tree" ["size","thing","is_end"] ia
 F24:Fd K mg "is_sized_tree" ["thing","is_end"] cA
 F25:Fd K mg "put_together" ["four"] cX
 F26:Fd K mg "lean_tree" ["tree"] eU
 F44:Fd K mg "tree_of" ["rows","left","top","side"] ic
 F27:Fd K mg "is_picture" ["thing"] et
 F28:Fd K mg "check_picture" ["thing"] cB
 F45:Fd K mg "side_of" ["picture"] ig
 F46:Fd K mg "is_along" ["side","thing"] fB
 F47:Fd K mg "check_spot" ["picture","x","y"] eB
 F51:Fd K mg "is_row" ["thing","side"] jE
 F52:Fd K mg "are_rows" ["thing"] fC
 F53:Fd K mg "of_rows" ["rows"] ik
 F29:Fd K mg "lean" ["picture"] oO
 F188:Fd K mg "blocks_in" ["tree","left","top","side"] eV
 F189:Fd K mg "blocks" ["picture"] jG
 F190:Fd K mg "is_place" ["thing","side"] fD
 F191:Fd K mg "is_block" ["thing"] fE
 F192:Fd K mg "check_blocks" ["size","things"] cY
 F193:Fd K mg "spots_of" ["block"] fF
 F194:Fd K mg "worths_by_spot" ["squares"] b9
 F195:Fd K mg "row_of" ["worths","side","y"] jH
 F196:Fd K mg "of_blocks" ["size","squares"] eX
 F197:Fd K mg "has_spot" ["block","x","y"] fG
 F198:Fd K mg "block_at" ["picture","x","y"] fH
 F30:Fd K mg "_law_cell" ["_law_script","_law_k"] jI
 F31:Fd K mg "_law_pick" ["_law_script","_law_k","_law_many"] jJ
 F32:Fd K mg "_law_tree" ["_law_script","_law_at","_law_size"] jK
 F33:Fd K mg "_law_picture" ["_law_script","_law_at","_law_most"] eY
 F54:Fd K mg "_law_rows_of" ["_law_size","_law_tree_here"] eZ
 F55:Fd K mg "_law_rows" ["_law_picture_here"] jL
 F56:Fd K mg "_law_least" ["_law_rows_here"] il
 F57:Fd K mg "_law_of" ["_law_rows_here"] oP
 F34:Fd K mg "_law_places" ["_law_thing"] fI
 F35:Fd K mg "_law_put" ["_law_thing","_law_place","_law_new"] lN
 F36:Fd K mg "_law_there" ["_law_thing","_law_place"] im
 F37:Fd K mg "_law_spoilt_thing" ["_law_script","_law_at","_law_thing"] cc
 F38:Fd K mg "_law_is_picture" ["_law_thing"] cZ
 F39:Fd K mg "_law_is_tree" ["_law_thing","_law_size"] e7
 F40:Fd K mg "_law_word" ["_law_kept"] jM
 F199:Fd K mg "_law_do" ["_law_what","_law_one","_law_other","_law_last"] jN
 F200:Fd K mg "_law_blocks" ["_law_tree_here","_law_left","_law_top","_law_side"] fK
 F201:Fd K mg "_law_due" ["_law_size","_law_some"] lP
 F202:Fd K mg "law" ["_law_script"] bn
theorem tab {P:Program}{w:World}{K:PySem.W.Frag}{mg:Str→Option Value}{base:Heap}{C:Nat→Addr}(T:Txt K mg C w.params)(S:Fds K mg):∀ n,Tab P w K mg base C n (pf n)
 | 0=>⟨g0 S.F20,g0 S.F21,g0 S.F22,g0 S.F23,g0 S.F24,g0 S.F25,g0 S.F26,g0 S.F44,g0 S.F27,g0 S.F28,g0 S.F45,g0 S.F46,g0 S.F47,g0 S.F51,g0 S.F52,g0 S.F53,g0 S.F29,g0 S.F188,g0 S.F189,g0 S.F190,g0 S.F191,g0 S.F192,g0 S.F193,g0 S.F194,g0 S.F195,g0 S.F196,g0 S.F197,g0 S.F198,g0 S.F30,g0 S.F31,g0 S.F32,g0 S.F33,g0 S.F54,g0 S.F55,g0 S.F56,g0 S.F57,g0 S.F34,g0 S.F35,g0 S.F36,g0 S.F37,g0 S.F38,g0 S.F39,g0 S.F40,g0 S.F199,g0 S.F200,g0 S.F201,g0 S.F202,
  fun i hi=>by
  simp only[fvL,List.mem_cons,List.not_mem_nil,or_false]at hi
  rcases hi with rfl
  ·exact yw S.F21 T.f_is_worth⟩
 | n+1=>by
  have G:=tab T S n (P:=P) (w:=w) (base:=base)
  exact⟨g1 S.F20 (nc T G),g1 S.F21 (iG T G),g1 S.F22 (oQ T G),g1 S.F23 (oR T G),g1 S.F24 (ip T G),g1 S.F25 (iR T G),g1 S.F26 (lQ T G),g1 S.F44 (oS T G),g1 S.F27 (kq T G),g1 S.F28 (ir T G),g1 S.F45 (oT T G),g1 S.F46 (ng T G),g1 S.F47 (kr T G),g1 S.F51 (rK T G),g1 S.F52 (nh T G),g1 S.F53 (oU T G),g1 S.F29 (vY T G),g1 S.F188 (lR T G),g1 S.F189 (rL T G),g1 S.F190 (ni T G),g1 S.F191 (nj T G),g1 S.F192 (iS T G),g1 S.F193 (nk T G),g1 S.F194 (gG T G),g1 S.F195 (rM T G),g1 S.F196 (lT T G),g1 S.F197 (nq T G),g1 S.F198 (nr T G),g1 S.F30 (rN T G),g1 S.F31 (rP T G),g1 S.F32 (rQ T G),g1 S.F33 (lU T G),g1 S.F54 (lV T G),g1 S.F55 (rR T G),g1 S.F56 (oV T G),g1 S.F57 (vZ T G),g1 S.F34 (nt T G),g1 S.F35 (ub T G),g1 S.F36 (oW T G),g1 S.F37 (gH T G),g1 S.F38 (iT T G),g1 S.F39 (lW T G),g1 S.F40 (rS T G),g1 S.F199 (rT T G),g1 S.F200 (nu T G),g1 S.F201 (uc T G),g1 S.F202 (jO T G),
  fun i hi=>by
  simp only[fvL,List.mem_cons,List.not_mem_nil,or_false]at hi
  rcases hi with rfl
  ·exact yx S.F21 T.f_is_worth (iG T G) (fun ds h=>yu h)⟩
theorem xS {l:PySem.W.OpenLaw}{w:World}{K:PySem.W.Frag}{h:Heap}{mg:Str→Option Value}{fa f1 f46 C0 C1 C2 C3 C4 C5 C6 C7 C8 C9 C10:Addr}(X:K.In h)(G:h.Ns mainGlobals mg)(hfa:mg "law"=some (.ref fa))(S:Fds K mg)
  {od46 an46:Option Addr} {sl46:Array (Option Value)} {oc46 kV46 dc46 pm46 cd46 ct46:Value} {tk_GREATEST_WORTH tk_LARGEST_SIZE:Tok} {ta_SIDES:Addr} {tn_SIDES:Nat} {ts_SIDES:Array (Option Value)} {tt_SIDES_0 tt_SIDES_1 tt_SIDES_2 tt_SIDES_3:Tok} {cl_NoPicture cl_NoSpot cl_BadBox cl_Unlike cl_NoRule cl_NoBlocks cl_NoChange cl_NoNumber cl_NothingDone cl_NoText:ClassData}
  (z0:Ng K "is_worth" (some (.ref f1)))
  (z1:Ng K "law" (some (.ref f46)))
  (z2:K.lookup f46=some ⟨oc46,od46,.func (PySem.W.fnOf "law" "law" (defArgs bn) (defBody bn) (defScope bn) .none kV46 dc46 pm46 an46 cd46 ct46),sl46⟩)
  (z3:PySem.W.codeIn K cd46 "law"=true)
  (z4:PySem.W.keepIn K (.ref f46)=true)
  (z5:Ng K "ValueError" none)
  (z6:Ng K "all" none)
  (z7:Ng K "bool" none)
  (z8:Ng K "enumerate" none)
  (z9:Ng K "int" none)
  (z10:Ng K "isinstance" none)
  (z11:Ng K "len" none)
  (z12:Ng K "list" none)
  (z13:Ng K "max" none)
  (z14:Ng K "range" none)
  (z15:Ng K "set" none)
  (z16:Ng K "tuple" none)
  (z17:Ng K "GREATEST_WORTH" (some (.int 9 tk_GREATEST_WORTH)))
  (z18:Ng K "LARGEST_SIZE" (some (.int 3 tk_LARGEST_SIZE)))
  (z19:Ng K "SIDES" (some (.ref ta_SIDES)))
  (z20:K.lookup ta_SIDES=some ⟨.type "tuple",none,.seq #[.int 1 tt_SIDES_0,.int 2 tt_SIDES_1,.int 4 tt_SIDES_2,.int 8 tt_SIDES_3] tn_SIDES,ts_SIDES⟩)
  (z21:Ng K "FourError" (some (.ref C0)))
  (z22:Ng K "NoPicture" (some (.ref C1)))
  (z23:Ng K "NoSpot" (some (.ref C2)))
  (z24:Ng K "BadBox" (some (.ref C3)))
  (z25:Ng K "Unlike" (some (.ref C4)))
  (z26:Ng K "NoRule" (some (.ref C5)))
  (z27:Ng K "NoBlocks" (some (.ref C6)))
  (z28:Ng K "NoChange" (some (.ref C7)))
  (z29:Ng K "NoNumber" (some (.ref C8)))
  (z30:Ng K "NothingDone" (some (.ref C9)))
  (z31:Ng K "NoText" (some (.ref C10)))
  (z32:PySem.W.excIn K C1 bmVE "ValueError.__new__"=true)
  (z33:PySem.W.excIn K C2 bmVE "ValueError.__new__"=true)
  (z34:PySem.W.excIn K C6 bmVE "ValueError.__new__"=true)
  (z35:PySem.W.excIn K C0 bmVE "ValueError.__new__"=true)
  (z36:PySem.W.clsIn K C1=some cl_NoPicture)
  (z37:PySem.W.typeIn K (.ref C1)=some (.type "type"))
  (z38:PySem.W.clsIn K C2=some cl_NoSpot)
  (z39:PySem.W.typeIn K (.ref C2)=some (.type "type"))
  (z40:PySem.W.clsIn K C3=some cl_BadBox)
  (z41:PySem.W.typeIn K (.ref C3)=some (.type "type"))
  (z42:PySem.W.clsIn K C4=some cl_Unlike)
  (z43:PySem.W.typeIn K (.ref C4)=some (.type "type"))
  (z44:PySem.W.clsIn K C5=some cl_NoRule)
  (z45:PySem.W.typeIn K (.ref C5)=some (.type "type"))
  (z46:PySem.W.clsIn K C6=some cl_NoBlocks)
  (z47:PySem.W.typeIn K (.ref C6)=some (.type "type"))
  (z48:PySem.W.clsIn K C7=some cl_NoChange)
  (z49:PySem.W.typeIn K (.ref C7)=some (.type "type"))
  (z50:PySem.W.clsIn K C8=some cl_NoNumber)
  (z51:PySem.W.typeIn K (.ref C8)=some (.type "type"))
  (z52:PySem.W.clsIn K C9=some cl_NothingDone)
  (z53:PySem.W.typeIn K (.ref C9)=some (.type "type"))
  (z54:PySem.W.clsIn K C10=some cl_NoText)
  (z55:PySem.W.typeIn K (.ref C10)=some (.type "type"))
  (z56:PySem.W.subIn K (.ref C1) (.ref C1)=some true)
  (z57:PySem.W.subIn K (.ref C1) (.ref C2)=some false)
  (z58:PySem.W.subIn K (.ref C1) (.ref C3)=some false)
  (z59:PySem.W.subIn K (.ref C1) (.ref C4)=some false)
  (z60:PySem.W.subIn K (.ref C1) (.ref C5)=some false)
  (z61:PySem.W.subIn K (.ref C1) (.ref C6)=some false)
  (z62:PySem.W.subIn K (.ref C1) (.ref C7)=some false)
  (z63:PySem.W.subIn K (.ref C1) (.ref C8)=some false)
  (z64:PySem.W.subIn K (.ref C1) (.ref C9)=some false)
  (z65:PySem.W.subIn K (.ref C1) (.ref C10)=some false)
  (z66:PySem.W.subIn K (.ref C1) (.ref C0)=some true)
  (z67:PySem.W.subIn K (.ref C1) (.type "ValueError")=some true)
  (z68:PySem.W.findIn K (.ref C1) "__getattribute__"=some (some (.builtin "BaseException.__getattribute__")))
  (z69:PySem.W.findIn K (.ref C1) "__getattr__"=some none)
  (z70:PySem.W.findIn K (.ref C1) "__class__"=some (some (.builtin "object.__class__")))
  (z71:PySem.W.subIn K (.ref C1) (.type "BaseException")=some true)
  (z72:PySem.W.subIn K (.ref C1) (.type "object")=some true)
  (z73:PySem.W.subIn K (.ref C2) (.ref C1)=some false)
  (z74:PySem.W.subIn K (.ref C2) (.ref C2)=some true)
  (z75:PySem.W.subIn K (.ref C2) (.ref C3)=some false)
  (z76:PySem.W.subIn K (.ref C2) (.ref C4)=some false)
  (z77:PySem.W.subIn K (.ref C2) (.ref C5)=some false)
  (z78:PySem.W.subIn K (.ref C2) (.ref C6)=some false)
  (z79:PySem.W.subIn K (.ref C2) (.ref C7)=some false)
  (z80:PySem.W.subIn K (.ref C2) (.ref C8)=some false)
  (z81:PySem.W.subIn K (.ref C2) (.ref C9)=some false)
  (z82:PySem.W.subIn K (.ref C2) (.ref C10)=some false)
  (z83:PySem.W.subIn K (.ref C2) (.ref C0)=some true)
  (z84:PySem.W.subIn K (.ref C2) (.type "ValueError")=some true)
  (z85:PySem.W.findIn K (.ref C2) "__getattribute__"=some (some (.builtin "BaseException.__getattribute__")))
  (z86:PySem.W.findIn K (.ref C2) "__getattr__"=some none)
  (z87:PySem.W.findIn K (.ref C2) "__class__"=some (some (.builtin "object.__class__")))
  (z88:PySem.W.subIn K (.ref C2) (.type "BaseException")=some true)
  (z89:PySem.W.subIn K (.ref C2) (.type "object")=some true)
  (z90:PySem.W.subIn K (.ref C6) (.ref C1)=some false)
  (z91:PySem.W.subIn K (.ref C6) (.ref C2)=some false)
  (z92:PySem.W.subIn K (.ref C6) (.ref C3)=some false)
  (z93:PySem.W.subIn K (.ref C6) (.ref C4)=some false)
  (z94:PySem.W.subIn K (.ref C6) (.ref C5)=some false)
  (z95:PySem.W.subIn K (.ref C6) (.ref C6)=some true)
  (z96:PySem.W.subIn K (.ref C6) (.ref C7)=some false)
  (z97:PySem.W.subIn K (.ref C6) (.ref C8)=some false)
  (z98:PySem.W.subIn K (.ref C6) (.ref C9)=some false)
  (z99:PySem.W.subIn K (.ref C6) (.ref C10)=some false)
  (z100:PySem.W.subIn K (.ref C6) (.ref C0)=some true)
  (z101:PySem.W.subIn K (.ref C6) (.type "ValueError")=some true)
  (z102:PySem.W.findIn K (.ref C6) "__getattribute__"=some (some (.builtin "BaseException.__getattribute__")))
  (z103:PySem.W.findIn K (.ref C6) "__getattr__"=some none)
  (z104:PySem.W.findIn K (.ref C6) "__class__"=some (some (.builtin "object.__class__")))
  (z105:PySem.W.subIn K (.ref C6) (.type "BaseException")=some true)
  (z106:PySem.W.subIn K (.ref C6) (.type "object")=some true) :
  ∃ fd:FuncData,(∀ (s:Shared) (v:Value),BindsTo s fd ⟨[v],[]⟩ [("_law_script",v)])∧∀ base:Heap,K.In base→base.Ns mainGlobals mg→FnOk l.prog w K mg base (CXE l.prog w) 40 fa fd ["_law_script"] (spF K (Cof K) 1 (pf 40 Lw.F.aB)):=by
 have e:=hfa.symm.trans (PySem.W.mg_of X G z1)
 cases e
 have q_FourError:Cof K 0=C0:=cof z21
 have q_NoPicture:Cof K 1=C1:=cof z22
 have q_NoSpot:Cof K 2=C2:=cof z23
 have q_BadBox:Cof K 3=C3:=cof z24
 have q_Unlike:Cof K 4=C4:=cof z25
 have q_NoRule:Cof K 5=C5:=cof z26
 have q_NoBlocks:Cof K 6=C6:=cof z27
 have q_NoChange:Cof K 7=C7:=cof z28
 have q_NoNumber:Cof K 8=C8:=cof z29
 have q_NothingDone:Cof K 9=C9:=cof z30
 have q_NoText:Cof K 10=C10:=cof z31
 have xk_NoPicture:ExcK K (Cof K 1):=by rw[q_NoPicture];exact⟨z68,z69,z70,z71,z72,by rw[z36];rfl⟩
 have xk_NoSpot:ExcK K (Cof K 2):=by rw[q_NoSpot];exact⟨z85,z86,z87,z88,z89,by rw[z38];rfl⟩
 have xk_NoBlocks:ExcK K (Cof K 6):=by rw[q_NoBlocks];exact⟨z102,z103,z104,z105,z106,by rw[z46];rfl⟩
 have T:Txt K mg (Cof K) w.params:=⟨PySem.W.mg_none_of X G z5,
  PySem.W.mg_none_of X G z6,
  PySem.W.mg_none_of X G z7,
  PySem.W.mg_none_of X G z8,
  PySem.W.mg_none_of X G z9,
  PySem.W.mg_none_of X G z10,
  PySem.W.mg_none_of X G z11,
  PySem.W.mg_none_of X G z12,
  PySem.W.mg_none_of X G z13,
  PySem.W.mg_none_of X G z14,
  PySem.W.mg_none_of X G z15,
  PySem.W.mg_none_of X G z16,
  ⟨_,PySem.W.mg_of X G z17⟩,
  ⟨_,PySem.W.mg_of X G z18⟩,
  ⟨_,PySem.W.mg_of X G z19,_,_,_,z20,rfl,rfl,rfl,by show 4≤sizeLine;decide,(.cons ⟨_,rfl⟩ (.cons ⟨_,rfl⟩ (.cons ⟨_,rfl⟩ (.cons ⟨_,rfl⟩ .nil))))⟩,
  (by rw[cof (i:=F.af) z0];exact PySem.W.mg_of X G z0),
  (by rw[q_FourError];exact PySem.W.mg_of X G z21),
  (by rw[q_NoPicture];exact PySem.W.mg_of X G z22),
  (by rw[q_NoSpot];exact PySem.W.mg_of X G z23),
  (by rw[q_BadBox];exact PySem.W.mg_of X G z24),
  (by rw[q_Unlike];exact PySem.W.mg_of X G z25),
  (by rw[q_NoRule];exact PySem.W.mg_of X G z26),
  (by rw[q_NoBlocks];exact PySem.W.mg_of X G z27),
  (by rw[q_NoChange];exact PySem.W.mg_of X G z28),
  (by rw[q_NoNumber];exact PySem.W.mg_of X G z29),
  (by rw[q_NothingDone];exact PySem.W.mg_of X G z30),
  (by rw[q_NoText];exact PySem.W.mg_of X G z31),
  (by rw[q_NoPicture];exact z32),
  (by rw[q_NoSpot];exact z33),
  (by rw[q_NoBlocks];exact z34),
  (dn (fun j hj=>by
   simp only[esL,List.mem_cons,List.not_mem_nil,or_false]at hj
   rcases hj with rfl | rfl | rfl
   ·rw[q_NoPicture,q_BadBox];exact aN z40 z41 z58 z56
   ·rw[q_NoSpot,q_BadBox];exact aN z40 z41 z75 z74
   ·rw[q_NoBlocks,q_BadBox];exact aN z40 z41 z92 z95) (fun j hj=>by
   simp only[esL,List.mem_cons,List.not_mem_nil,or_false]at hj
   rcases hj with rfl | rfl | rfl
   ·exact xk_NoPicture
   ·exact xk_NoSpot
   ·exact xk_NoBlocks)),
  (dn (fun j hj=>by
   simp only[esL,List.mem_cons,List.not_mem_nil,or_false]at hj
   rcases hj with rfl | rfl | rfl
   ·rw[q_NoPicture,q_NoBlocks];exact aN z46 z47 z61 z56
   ·rw[q_NoSpot,q_NoBlocks];exact aN z46 z47 z78 z74
   ·rw[q_NoBlocks];exact aN z46 z47 z95 z95) (fun j hj=>by
   simp only[esL,List.mem_cons,List.not_mem_nil,or_false]at hj
   rcases hj with rfl | rfl | rfl
   ·exact xk_NoPicture
   ·exact xk_NoSpot
   ·exact xk_NoBlocks)),
  (dn (fun j hj=>by
   simp only[esL,List.mem_cons,List.not_mem_nil,or_false]at hj
   rcases hj with rfl | rfl | rfl
   ·rw[q_NoPicture,q_NoChange];exact aN z48 z49 z62 z56
   ·rw[q_NoSpot,q_NoChange];exact aN z48 z49 z79 z74
   ·rw[q_NoBlocks,q_NoChange];exact aN z48 z49 z96 z95) (fun j hj=>by
   simp only[esL,List.mem_cons,List.not_mem_nil,or_false]at hj
   rcases hj with rfl | rfl | rfl
   ·exact xk_NoPicture
   ·exact xk_NoSpot
   ·exact xk_NoBlocks)),
  (dn (fun j hj=>by
   simp only[esL,List.mem_cons,List.not_mem_nil,or_false]at hj
   rcases hj with rfl | rfl | rfl
   ·rw[q_NoPicture,q_NoNumber];exact aN z50 z51 z63 z56
   ·rw[q_NoSpot,q_NoNumber];exact aN z50 z51 z80 z74
   ·rw[q_NoBlocks,q_NoNumber];exact aN z50 z51 z97 z95) (fun j hj=>by
   simp only[esL,List.mem_cons,List.not_mem_nil,or_false]at hj
   rcases hj with rfl | rfl | rfl
   ·exact xk_NoPicture
   ·exact xk_NoSpot
   ·exact xk_NoBlocks)),
  (dn (fun j hj=>by
   simp only[esL,List.mem_cons,List.not_mem_nil,or_false]at hj
   rcases hj with rfl | rfl | rfl
   ·rw[q_NoPicture];exact aN z36 z37 z56 z56
   ·rw[q_NoSpot,q_NoPicture];exact aN z36 z37 z73 z74
   ·rw[q_NoBlocks,q_NoPicture];exact aN z36 z37 z90 z95) (fun j hj=>by
   simp only[esL,List.mem_cons,List.not_mem_nil,or_false]at hj
   rcases hj with rfl | rfl | rfl
   ·exact xk_NoPicture
   ·exact xk_NoSpot
   ·exact xk_NoBlocks)),
  (dn (fun j hj=>by
   simp only[esL,List.mem_cons,List.not_mem_nil,or_false]at hj
   rcases hj with rfl | rfl | rfl
   ·rw[q_NoPicture,q_NoRule];exact aN z44 z45 z60 z56
   ·rw[q_NoSpot,q_NoRule];exact aN z44 z45 z77 z74
   ·rw[q_NoBlocks,q_NoRule];exact aN z44 z45 z94 z95) (fun j hj=>by
   simp only[esL,List.mem_cons,List.not_mem_nil,or_false]at hj
   rcases hj with rfl | rfl | rfl
   ·exact xk_NoPicture
   ·exact xk_NoSpot
   ·exact xk_NoBlocks)),
  (dn (fun j hj=>by
   simp only[esL,List.mem_cons,List.not_mem_nil,or_false]at hj
   rcases hj with rfl | rfl | rfl
   ·rw[q_NoPicture,q_NoSpot];exact aN z38 z39 z57 z56
   ·rw[q_NoSpot];exact aN z38 z39 z74 z74
   ·rw[q_NoBlocks,q_NoSpot];exact aN z38 z39 z91 z95) (fun j hj=>by
   simp only[esL,List.mem_cons,List.not_mem_nil,or_false]at hj
   rcases hj with rfl | rfl | rfl
   ·exact xk_NoPicture
   ·exact xk_NoSpot
   ·exact xk_NoBlocks)),
  (dn (fun j hj=>by
   simp only[esL,List.mem_cons,List.not_mem_nil,or_false]at hj
   rcases hj with rfl | rfl | rfl
   ·rw[q_NoPicture,q_NoText];exact aN z54 z55 z65 z56
   ·rw[q_NoSpot,q_NoText];exact aN z54 z55 z82 z74
   ·rw[q_NoBlocks,q_NoText];exact aN z54 z55 z99 z95) (fun j hj=>by
   simp only[esL,List.mem_cons,List.not_mem_nil,or_false]at hj
   rcases hj with rfl | rfl | rfl
   ·exact xk_NoPicture
   ·exact xk_NoSpot
   ·exact xk_NoBlocks)),
  (dn (fun j hj=>by
   simp only[esL,List.mem_cons,List.not_mem_nil,or_false]at hj
   rcases hj with rfl | rfl | rfl
   ·rw[q_NoPicture,q_NothingDone];exact aN z52 z53 z64 z56
   ·rw[q_NoSpot,q_NothingDone];exact aN z52 z53 z81 z74
   ·rw[q_NoBlocks,q_NothingDone];exact aN z52 z53 z98 z95) (fun j hj=>by
   simp only[esL,List.mem_cons,List.not_mem_nil,or_false]at hj
   rcases hj with rfl | rfl | rfl
   ·exact xk_NoPicture
   ·exact xk_NoSpot
   ·exact xk_NoBlocks)),
  (dn (fun j hj=>by
   simp only[esL,List.mem_cons,List.not_mem_nil,or_false]at hj
   rcases hj with rfl | rfl | rfl
   ·rw[q_NoPicture,q_Unlike];exact aN z42 z43 z59 z56
   ·rw[q_NoSpot,q_Unlike];exact aN z42 z43 z76 z74
   ·rw[q_NoBlocks,q_Unlike];exact aN z42 z43 z93 z95) (fun j hj=>by
   simp only[esL,List.mem_cons,List.not_mem_nil,or_false]at hj
   rcases hj with rfl | rfl | rfl
   ·exact xk_NoPicture
   ·exact xk_NoSpot
   ·exact xk_NoBlocks)),
  (xB (fun j hj=>by
   simp only[esL,List.mem_cons,List.not_mem_nil,or_false]at hj
   rcases hj with rfl | rfl | rfl
   ·rw[q_NoPicture];exact oC z67
   ·rw[q_NoSpot];exact oC z84
   ·rw[q_NoBlocks];exact oC z101) (fun j hj=>by
   simp only[esL,List.mem_cons,List.not_mem_nil,or_false]at hj
   rcases hj with rfl | rfl | rfl
   ·exact xk_NoPicture
   ·exact xk_NoSpot
   ·exact xk_NoBlocks)),
  (tK (by rw[q_FourError];exact z35) (fun j hj=>by
   simp only[esL,List.mem_cons,List.not_mem_nil,or_false]at hj
   rcases hj with rfl | rfl | rfl
   ·rw[q_NoPicture,q_FourError];exact z66
   ·rw[q_NoSpot,q_FourError];exact z83
   ·rw[q_NoBlocks,q_FourError];exact z100))⟩
 have FL:=og (st:=bn) z2 z3 z4
 exact⟨PySem.W.fnOf "law" "law" (defArgs bn) (defBody bn) (defScope bn) .none kV46 dc46 pm46 an46 cd46 ct46,fun s v=>.of_eq rfl,fun base _ _=>jO T (tab T S 39) FL⟩
theorem walk {l:PySem.W.OpenLaw}{q:Program}{loose:List Str}{XP:(Str→Option Value)→Heap→Prop}{YP:World→Heap→Prop}{d:DefRec}{K:Params→PySem.W.Frag}(hn:l.most=some 63)(hdf:d.params.defaults=[])
  (hY:∀ (w:World) (h:Heap),YP w h→(K w.params).In h)
  (F:∀ (w:World) (mg:Str→Option Value) (fa:Addr) (h:Heap),(K w.params).In h→h.Ns mainGlobals mg→mg d.name=some (.ref fa) →
   ∃ fd:FuncData,(∀ (s:Shared) (u:Value),BindsTo s fd ⟨[u],[]⟩ [("_law_script",u)])∧∀ base:Heap,(K w.params).In base→base.Ns mainGlobals mg→FnOk l.prog w (K w.params) mg base (CXE l.prog w) 40 fa fd ["_law_script"] (spF (K w.params) (Cof (K w.params)) 1 (pf 40 Lw.F.aB))) :
  PySem.W.WalkO q loose XP YP l.row.toRowW d [] (fun f vs=>PySem.call f vs) :=
 L2.vb (n:=63) (k:=40) (x := "_law_script") (CX:=fun w=>CXE l.prog w) (sp:=fun w=>spF (K w.params) (Cof (K w.params)) 1 (pf 40 Lw.F.aB)) hn (by decide) hdf ⟨rfl,by decide,by decide⟩ hY F
  (fun w H a ns hl _ hS=>⟨rfl,H,[.lst (ns.map .int)],Same.refl H,by rw[Reps];exact⟨_,_,rfl,by rw[Rep];exact⟨a,_,rfl,hS,pN ns⟩,by rw[Reps]⟩,by rw[kt ns];exact fun H' Z' _ v rv=>by rw[Rep]at rv;exact rv⟩)
  fun w H s e s' z=>by obtain⟨_,_,_,_,_,_,_,_,_,_,_,_,_,z⟩:=z;exact z
end Lw
open PySem PySem.W PyProof.Rows
def PySem.W.Fast.tw18130676977189554880:Nat:=0
def PySem.W.Fast.tw11831955878857927071:Nat:=0
def PySem.W.Fast.tw6116605328984841418:Nat:=0
def PySem.W.Fast.tw6399067989277863594:Nat:=0
def PySem.W.Fast.tw12769127503821535127:Nat:=0
def PySem.W.Fast.tw18324950123968710572:Nat:=0
def PySem.W.Fast.tw18325857535688891682:Nat:=0
def PySem.W.Fast.tw17218316946771003913:Nat:=0
def PySem.W.Fast.tw11246022864770410981:Nat:=0
def PySem.W.Fast.tw1498215655648173043:Nat:=0
def PySem.W.Fast.tw11185326343458893935:Nat:=0
def PySem.W.Fast.tw12763266522836934955:Nat:=0
def PySem.W.Fast.tw1467397615375015586:Nat:=0
def PySem.W.Fast.tw4009253987383035393:Nat:=0
def PySem.W.Fast.tw5876073777954873474:Nat:=0
def PySem.W.Fast.tw17134305332693199246:Nat:=0
def PySem.W.Fast.tw10504764101478043969:Nat:=0
def PySem.W.Fast.tw281424953044295677:Nat:=0
def PySem.W.Fast.tw12268032201606310639:Nat:=0
def PySem.W.Fast.tw5483680811856868697:Nat:=0
def PySem.W.Fast.tw209898924600248103:Nat:=0
def PySem.W.Fast.tw3867346556461230205:Nat:=0
def PySem.W.Fast.tw9514066241241282309:Nat:=0
def PySem.W.Fast.tw10448064431954702526:Nat:=0
def PySem.W.Fast.tw7121608346325148369:Nat:=0
def PySem.W.Fast.tw9084078382772483433:Nat:=0
def PySem.W.Fast.tw5205710985675933343:Nat:=0
def PySem.W.Fast.tw17795827191164355884:Nat:=0
def PySem.W.Fast.tw15910851007801005399:Nat:=0
def PySem.W.Fast.tw8395321932220420543:Nat:=0
def PySem.W.Fast.tw8389569531971574559:Nat:=0
def PySem.W.Fast.tw15598596841692247691:Nat:=0
def PySem.W.Fast.tw2419626800688210597:Nat:=0
def PySem.W.Fast.tw9088101697535159546:Nat:=0
def PySem.W.Fast.tw9964098621063545638:Nat:=0
def PySem.W.Fast.tw3285621569145489030:Nat:=0
def PySem.W.Fast.tw3329261383196910375:Nat:=0
def PySem.W.Fast.tw15666458995579127579:Nat:=0
def PySem.W.Fast.tw16379644698957188888:Nat:=0
def PySem.W.Fast.tw8305422488755492752:Nat:=0
def PySem.W.Fast.tw9550847174916107132:Nat:=0
def PySem.W.Fast.tw4189331259618056858:Nat:=0
def PySem.W.Fast.tw3147118698405668361:Nat:=0
def PySem.W.Fast.tw14345144748345618392:Nat:=0
def PySem.W.Fast.tw3542882168895246196:Nat:=0
def PySem.W.Fast.tw11688680546353193420:Nat:=0
def PySem.W.Fast.tw312110621795946255:Nat:=0
def PySem.W.Fast.tw18442899667288548469:Nat:=0
def PySem.W.Fast.tw14387658763136649738:Nat:=0
def PySem.W.Fast.tw6072710440279547136:Nat:=0
def PySem.W.Fast.tw18136542758589392875:Nat:=0
def PySem.W.Fast.tw2394461757554019961:Nat:=0
def PySem.W.Fast.tw7953260469295684872:Nat:=0
def PySem.W.Fast.tw499759909238983986:Nat:=0
def PySem.W.Fast.tw9785876095327547319:Nat:=0
def PySem.W.Fast.tw17247313468182962047:Nat:=0
set_option maxRecDepth 100000 in
set_option maxHeartbeats 0 in
theorem PySem.Challenge.cw_fourfold_k60_whole_blocks_holds : PySem.Challenge.rw_fourfold_k60_whole_blocks.Holds := by
 w_on;o_law;k_head;(case hw=>w_witness2)
 k_fill
 refine Lw.walk (l:=PySem.Challenge.rw_fourfold_k60_whole_blocks) rfl rfl (fun w h Y=>PySem.W.kIn_of Y) ?F
 case F =>
  intro w mg fa h KX G hmg
  refine' Lw.xS KX G hmg ?S ?z0 ?z1 ?z2 ?z3 ?z4 ?z5 ?z6 ?z7 ?z8 ?z9 ?z10 ?z11 ?z12 ?z13 ?z14 ?z15 ?z16 ?z17 ?z18 ?z19 ?z20 ?z21 ?z22 ?z23 ?z24 ?z25 ?z26 ?z27 ?z28 ?z29 ?z30 ?z31 ?z32 ?z33 ?z34 ?z35 ?z36 ?z37 ?z38 ?z39 ?z40 ?z41 ?z42 ?z43 ?z44 ?z45 ?z46 ?z47 ?z48 ?z49 ?z50 ?z51 ?z52 ?z53 ?z54 ?z55 ?z56 ?z57 ?z58 ?z59 ?z60 ?z61 ?z62 ?z63 ?z64 ?z65 ?z66 ?z67 ?z68 ?z69 ?z70 ?z71 ?z72 ?z73 ?z74 ?z75 ?z76 ?z77 ?z78 ?z79 ?z80 ?z81 ?z82 ?z83 ?z84 ?z85 ?z86 ?z87 ?z88 ?z89 ?z90 ?z91 ?z92 ?z93 ?z94 ?z95 ?z96 ?z97 ?z98 ?z99 ?z100 ?z101 ?z102 ?z103 ?z104 ?z105 ?z106
  case S =>
   constructor
   all_goals
    refine' FF.yy KX G (fun _ _ _ _ _ _ us hl=>by first | (obtain⟨_,rfl⟩:=FF.ln1 hl;rfl) | (obtain⟨_,_,rfl⟩:=FF.ln2 hl;rfl) | (obtain⟨_,_,_,rfl⟩:=FF.ln3 hl;rfl) | (obtain⟨_,_,_,_,rfl⟩:=FF.ln4 hl;rfl) | (obtain⟨_,_,_,_,_,rfl⟩:=FF.ln5 hl;rfl) | (cases List.length_eq_zero_iff.mp hl;rfl)) ?a ?l ?c ?k
    (case a=>k_is);(case l=>k_is);(case c=>k_is);(case k=>k_is)
  (case z0=>show _=_;k_is)
  (case z1=>show _=_;k_is)
  (case z2=>k_is)
  (case z3=>k_is)
  (case z4=>k_is)
  (case z5=>show _=_;k_is)
  (case z6=>show _=_;k_is)
  (case z7=>show _=_;k_is)
  (case z8=>show _=_;k_is)
  (case z9=>show _=_;k_is)
  (case z10=>show _=_;k_is)
  (case z11=>show _=_;k_is)
  (case z12=>show _=_;k_is)
  (case z13=>show _=_;k_is)
  (case z14=>show _=_;k_is)
  (case z15=>show _=_;k_is)
  (case z16=>show _=_;k_is)
  (case z17=>show _=_;k_is)
  (case z18=>show _=_;k_is)
  (case z19=>show _=_;k_is)
  (case z20=>k_is)
  (case z21=>show _=_;k_is)
  (case z22=>show _=_;k_is)
  (case z23=>show _=_;k_is)
  (case z24=>show _=_;k_is)
  (case z25=>show _=_;k_is)
  (case z26=>show _=_;k_is)
  (case z27=>show _=_;k_is)
  (case z28=>show _=_;k_is)
  (case z29=>show _=_;k_is)
  (case z30=>show _=_;k_is)
  (case z31=>show _=_;k_is)
  (case z32=>k_exc)
  (case z33=>k_exc)
  (case z34=>k_exc)
  (case z35=>k_exc)
  (case z36=>k_is)
  (case z37=>k_is)
  (case z38=>k_is)
  (case z39=>k_is)
  (case z40=>k_is)
  (case z41=>k_is)
  (case z42=>k_is)
  (case z43=>k_is)
  (case z44=>k_is)
  (case z45=>k_is)
  (case z46=>k_is)
  (case z47=>k_is)
  (case z48=>k_is)
  (case z49=>k_is)
  (case z50=>k_is)
  (case z51=>k_is)
  (case z52=>k_is)
  (case z53=>k_is)
  (case z54=>k_is)
  (case z55=>k_is)
  (case z56=>k_is)
  (case z57=>k_is)
  (case z58=>k_is)
  (case z59=>k_is)
  (case z60=>k_is)
  (case z61=>k_is)
  (case z62=>k_is)
  (case z63=>k_is)
  (case z64=>k_is)
  (case z65=>k_is)
  (case z66=>k_is)
  (case z67=>k_is)
  (case z68=>k_is)
  (case z69=>k_is)
  (case z70=>k_is)
  (case z71=>k_is)
  (case z72=>k_is)
  (case z73=>k_is)
  (case z74=>k_is)
  (case z75=>k_is)
  (case z76=>k_is)
  (case z77=>k_is)
  (case z78=>k_is)
  (case z79=>k_is)
  (case z80=>k_is)
  (case z81=>k_is)
  (case z82=>k_is)
  (case z83=>k_is)
  (case z84=>k_is)
  (case z85=>k_is)
  (case z86=>k_is)
  (case z87=>k_is)
  (case z88=>k_is)
  (case z89=>k_is)
  (case z90=>k_is)
  (case z91=>k_is)
  (case z92=>k_is)
  (case z93=>k_is)
  (case z94=>k_is)
  (case z95=>k_is)
  (case z96=>k_is)
  (case z97=>k_is)
  (case z98=>k_is)
  (case z99=>k_is)
  (case z100=>k_is)
  (case z101=>k_is)
  (case z102=>k_is)
  (case z103=>k_is)
  (case z104=>k_is)
  (case z105=>k_is)
  (case z106=>k_is)
end
