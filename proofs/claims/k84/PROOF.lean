import PyProof.Rows.All
import Wide.All
import OpenK.AllK
import Wide.FinOn
import PyProof.EqAt
import PyProof.EqKinds
import PyProof.TupleCall
import PyProof.TupleKey
import PyProof.ExcArgsOwn
import PyProof.ExcAttrAll.ValueError
import PyProof.IsiH_tuple
import PyProof.Rows.TopTwo
import PyProof.ExcBaseAll.ValueError
import PyProof.RulesAs
import PyProof.RulesDel
import PyProof.Rows.Catch
import PyProof.WalkInts
import PyProof.SumWalkG
import PyProof.Rows.TupAssign
import PyProof.NeKinds
import PyProof.FactsAll.tuple_1
import PyProof.FactsAll.tuple_2
import PyProof.FactsAll.tuple_3
import PyProof.ZipIter
import PyProof.Rows.ZipGen
import PyProof.Draws
import PyProof.EnumMake
import PyProof.LayNew
import OpenK.KTop
import PyProof.DictWalks
import PyProof.ListRange
import PyProof.Rows.SortWalk
import PyProof.Rows.Range3
import PyProof.MinMaxWalk
import PyProof.SetKind
import PyProof.Rows.SetFrom
import PyProof.CollectWalk
import PyProof.FactsAll.set_1
import PyProof.FactsAll.set_2
import PyProof.StrCalls
import PyProof.StrBlock
import PyProof.StrBlockH
import PyProof.FactsAll.list_3
import KE.KMinKey
import PyProof.DictRoadsH
import KE.KLam
import KE.KDictOf
import PyProof.StrWalks
import PyProof.Rows.SortStr
import Lean
import PySem.Challenge.RW_fourfold_k84_albums_refused
set_option Elab.async false
set_option linter.all false
set_option maxRecDepth 100000
open PySem.W (TabsAt callWith_K cellsFrom_some codeIn codeRec_of emptyDict envX excIn fnOf hideAll instObj isFn keepIn kia_one kitOne kla_fn kla_obj lookIn makesIn methodCall_KW methodObj mg_none_of mg_of nsIn plainOver tabIn tabObj takerIn typeIn Frag subIn findIn clsIn plainGet OpenLaw)
noncomputable section
namespace L2
open PySem PySem.Spec PyProof.Rows
abbrev Key:=Sum Int Str
def keyIs:Key→Value→Bool
 | .inl k,v=>Value.isInt k v
 | .inr x,v=>Value.isStrOf x v
def keyH (w:World):Key→Int
 | .inl k=>hashInt k
 | .inr x=>hashStr w x
theorem aR:∀ {k:Key} {v:Value},keyIs k v=true→(∃ i t,k=Sum.inl i∧v=Value.int i t)∨(∃ x t,k=Sum.inr x∧v=Value.str x t)
 | .inl i,v,h=>by
  obtain⟨t,e⟩:=Value.isInt_shape (k:=i) (v:=v) h;exact .inl ⟨i,t,rfl,e⟩
 | .inr x,v,h=>by
  obtain⟨t,e⟩:=Value.isStrOf_shape (x:=x) (v:=v) h;exact .inr ⟨x,t,rfl,e⟩
theorem qA (i:Int)(t:Tok):keyIs (.inl i) (.int i t)=true:=by simp[keyIs,Value.isInt]
theorem qB (x:Str)(t:Tok):keyIs (.inr x) (.str x t)=true:=by simp[keyIs,Value.isStrOf]
theorem xH (a b:Int):decide ((Sum.inl a:Key)=Sum.inl b)=(a==b):=by
 by_cases e:a=b
 ·subst e;simp
 ·have h:¬ (Sum.inl a:Key)=Sum.inl b:=fun q=>e (Sum.inl.inj q)
  rw[decide_eq_false h];exact(beq_eq_false_iff_ne.mpr e).symm
theorem xI (a b:Str):decide ((Sum.inr a:Key)=Sum.inr b)=decide (a=b):=by
 by_cases e:a=b
 ·subst e;simp
 ·have h:¬ (Sum.inr a:Key)=Sum.inr b:=fun q=>e (Sum.inr.inj q)
  rw[decide_eq_false h,decide_eq_false e]
theorem xJ (a:Int)(b:Str):decide ((Sum.inl a:Key)=Sum.inr b)=false:=decide_eq_false (fun q=>nomatch q)
theorem xK (a:Str)(b:Int):decide ((Sum.inr a:Key)=Sum.inl b)=false:=decide_eq_false (fun q=>nomatch q)
def mixKind (prog:Program)(w:World):PySem.KeyKind prog w Key where
 is:=keyIs
 hash:=keyH w
 inj:=fun v a b ha hb=>by
  rcases aR ha with ⟨i,t,rfl,rfl⟩ | ⟨x,t,rfl,rfl⟩
  ·rcases aR hb with ⟨j,u,rfl,e⟩ | ⟨y,u,rfl,e⟩
   ·injection e with e1 _;rw[e1]
   ·exact nomatch e
  ·rcases aR hb with ⟨j,u,rfl,e⟩ | ⟨y,u,rfl,e⟩
   ·exact nomatch e
   ·injection e with e1 _;rw[e1]
 byValue:=fun k v h=>by
  rcases aR h with ⟨i,t,rfl,rfl⟩ | ⟨x,t,rfl,rfl⟩<;>rfl
 pyHash:=fun hv h=>by
  rcases aR hv with ⟨i,t,rfl,rfl⟩ | ⟨x,t,rfl,rfl⟩
  ·exact wpAny_pyHash_int h
  ·exact wpAny_pyHash_str h
 eqBool:=fun hu hv h=>by
  rcases aR hu with ⟨i,t,rfl,rfl⟩ | ⟨x,t,rfl,rfl⟩
  ·rcases aR hv with ⟨j,u,rfl,rfl⟩ | ⟨y,u,rfl,rfl⟩
   ·rw[xH]at h;exact wpAny_eqBool_int h
   ·rw[xJ]at h;exact SeqAt.EqAt.int_str i t y u _ _ _ _ h
  ·rcases aR hv with ⟨j,u,rfl,rfl⟩ | ⟨y,u,rfl,rfl⟩
   ·rw[xK]at h;exact SeqAt.EqAt.str_int x t j u _ _ _ _ h
   ·rw[xI]at h;exact wpAny_eqBool_str h
 «strs»:=fun k x t v h=>by
  rcases aR h with ⟨i,u,rfl,e⟩ | ⟨y,u,rfl,e⟩
  ·exact nomatch e
  ·injection e with e1 _
   subst e1;cases v<;>rfl
theorem mJ (prog:Program)(w:World)(i:Int)(t:Tok):(mixKind prog w).is (.inl i) (.int i t)=true:=qA i t
theorem mK (prog:Program)(w:World)(x:Str)(t:Tok):(mixKind prog w).is (.inr x) (.str x t)=true:=qB x t
end L2
namespace L2
open PySem PySem.Spec PyProof.Rows
inductive V where
 | non | bl (b:Bool) | int (i:Int) | str (x:Str) | byt (b:Array UInt8) | flt (b:UInt64) | ref (a:Addr) | ty (n:String)
 deriving DecidableEq
def RelV:V→Value→Prop
 | .non,u=>u=Value.none
 | .bl b,u=>u=Value.bool b
 | .int i,u=>∃ t,u=Value.int i t
 | .str x,u=>∃ t,u=Value.str x t
 | .byt b,u=>∃ t,u=Value.bytes b t
 | .flt b,u=>∃ t,u=Value.float b t
 | .ref a,u=>u=Value.ref a
 | .ty n,u=>u=Value.type n
abbrev Vals:List V→List Value→Prop:=Paired RelV
theorem Vals.length {xs:List V}{us:List Value}(r:Vals xs us):xs.length=us.length:=Paired.length r
theorem Vals.get:∀ {xs:List V} {us:List Value} {i:Nat} {x:V},Vals xs us→xs[i]?=some x→∃ u,us[i]?=some u∧RelV x u
 | _,_,_,_,.nil,e=>by simp at e
 | _,_,0,_,.cons r _,e=>by simp at e;subst e;exact⟨_,rfl,r⟩
 | _,_,i+1,x,.cons _ t,e=>by
  obtain⟨u,h1,h2⟩:=Vals.get (i:=i) (x:=x) t (by simpa using e);exact⟨u,by simpa using h1,h2⟩
theorem Vals.append:∀ {xs ys:List V} {us ws:List Value},Vals xs us→Vals ys ws→Vals (xs++ys) (us++ws)
 | _,_,_,_,.nil,s=>s
 | _,_,_,_,.cons r t,s=>.cons r (Vals.append t s)
theorem Vals.take:∀ {xs:List V} {us:List Value} (n:Nat),Vals xs us→Vals (xs.take n) (us.take n)
 | _,_,0,_=>.nil
 | _,_,_+1,.nil=>.nil
 | _,_,n+1,.cons r t=>.cons r (Vals.take n t)
theorem Vals.drop:∀ {xs:List V} {us:List Value} (n:Nat),Vals xs us→Vals (xs.drop n) (us.drop n)
 | _,_,0,r=>r
 | _,_,_+1,.nil=>.nil
 | _,_,n+1,.cons _ t=>Vals.drop n t
def RelO:Option V→Option Value→Prop
 | some v,some u=>RelV v u
 | none,none=>True
 | _,_=>False
def KV {κ:Type}:List (κ×V)→List (κ×Value)→Prop:=Paired fun (p:κ×V) (q:κ×Value)=>p.1=q.1∧RelV p.2 q.2
def kV:Key→V
 | .inl i=>.int i
 | .inr x=>.str x
inductive HO where
 | lst (xs:List V)
 | tup (xs:List V)
 | dK (kvs:List (Key×V)) | dT (kvs:List (List Key×V))
 | set (S:Int→Bool) (n:Nat)
 | ins (C dx:Addr) (fs:List (Str×V))
 | own (x:Addr)
 | xd (fs:List (Str×V))
 | met (f x:Addr)
 | rng (lo hi:Int)
 | frz (o:Obj) (u:HO)
 | tbl (ps:Array Value)
 | ext (φ:Heap→Prop)
abbrev Hp:=Addr→Option HO
def upd (H:Hp)(a:Addr)(o:HO):Hp:=fun b=>if b=a then some o else H b
theorem ai {H:Hp}{a:Addr}{o:HO}:upd H a o a=some o:=by unfold upd;rw[if_pos rfl]
theorem ag {H:Hp}{a b:Addr}{o:HO}(h:b≠a):upd H a o b=H b:=by unfold upd;rw[if_neg h]
theorem jg {H:Hp}{a:Addr}{o u:HO}:upd (upd H a o) a u=upd H a u:=by
 funext b;unfold upd;split<;>rfl
theorem za {H:Hp}{a b:Addr}{o u:HO}(h:H a=some o)(h':H b=some u)(d:o≠u):a≠b:=by
 intro e;subst e;rw[h]at h';exact d (Option.some.inj h')
theorem aG {H:Hp}{a b:Addr}{o:HO}(h:H a=some o)(h':H b=none):a≠b:=by
 intro e;subst e;rw[h]at h';cases h'
def TupO (h:Heap)(a:Addr)(its:Array Value):Prop:=∃ o,h.get? a=some o∧o.cls=.type "tuple" ∧ o.dict=none∧∃ n,o.data=.seq its n
theorem TupO.is {h:Heap}{a:Addr}{its:Array Value}(p:TupO h a its):IsTup h a its:=let ⟨o,e,c,_,d⟩:=p;⟨o,e,c,d⟩
theorem TupO.lt {h:Heap}{a:Addr}{its:Array Value}(p:TupO h a its):a < h.objs.size:=p.is.lt
theorem TupO.new (h:Heap)(its:Array Value):TupO (h.push { cls:=.type "tuple",data:=.seq its }) h.objs.size its:=⟨_,Heap.get?_push_size _ rfl,rfl,rfl,_,rfl⟩
section
variable (P:Program)(w:World)
def ObjOk (H:Hp)(h:Heap)(a:Addr):HO→Prop
 | .lst xs=>xs.length≤sizeLine∧∃ (its:List Value) (n:Nat),Vals xs its∧h.get? a=some { cls:=.type "list",data:=.seq its.toArray n }
 | .tup xs=>xs.length≤sizeLine∧∃ its:List Value,Vals xs its∧TupO h a its.toArray
 | .dK kvs=>kvs.length≤sizeLine∧(a==sysModules)=false∧∃ vs,KV kvs vs∧h.DictOf (mixKind P w) a vs
 | .dT kvs=>kvs.length≤sizeLine∧(a==sysModules)=false∧∃ xs:List (List Key×Addr×Value),
   Paired (fun (p:List Key×V) (q:List Key×Addr×Value)=>p.1=q.1∧H q.2.1=some (.tup (p.1.map kV))∧RelV p.2 q.2.2) kvs xs ∧
   ∃ o es ep,h.get? a=some o∧o.ExactDict∧o.data=.dict es ep∧es.toList=xs.map (entryOfKey (tupleKind (mixKind P w)))∧(xs.map (·.1)).Nodup
 | .set S n=>h.SetOf (intKind P w) a S n
 | .ins C dx fs=>H dx=some (.own a)∧fs.length≤1000∧dx≠a∧h.get? a=some (instObj C dx) ∧
   ∃ mA,h.Ns1 dx mA∧(∀ f,RelO (fs.lookup f) (mA f))∧PySem.Within mA (fs.map (·.1))
 | .own _=>∃ o,h.get? a=some o
 | .xd fs=>∃ mA,h.Ns1 a mA∧∀ f,RelO (fs.lookup f) (mA f)
 | .rng lo hi=>∃ t u v,h.get? a=some { cls:=.type "range",data:=.fields #[.int lo t,.int hi u,.int 1 v] }
 | .frz o u=>h.get? a=some o∧ObjOk H h a u
 | .tbl ps=>h.get? a=some { cls:=.none,data:=.fields ps }
 | .met f x=>h.get? a=some (methodObj (.ref f) (.ref x))
 | .ext φ=>φ h∧(∃ o,h.get? a=some o)∧∀ h1 h2:Heap,φ h1→(∀ o,h1.get? a=some o→h2.get? a=some o)→φ h2
def HOk (H:Hp)(h:Heap):Prop:=∀ a o,H a=some o→ObjOk P w H h a o
end
section
variable {P:Program}{w:World}{H H':Hp}{h h':Heap}{a:Addr}{o:HO}
theorem ObjOk.lt (x:ObjOk P w H h a o):a < h.objs.size:=by
 cases o with
 | lst xs=>obtain⟨_,_,_,_,e⟩:=x;exact Heap.lt_size e
 | tup xs=>obtain⟨_,_,_,p⟩:=x;exact p.lt
 | dK kvs=>obtain⟨_,_,_,_,o,_,_,e,_⟩:=x;exact Heap.lt_size e
 | dT kvs=>obtain⟨_,_,_,_,o,_,_,e,_⟩:=x;exact Heap.lt_size e
 | set S n=>obtain⟨o,_,_,_,e,_⟩:=x;exact Heap.lt_size e
 | ins C dx fs=>obtain⟨_,_,_,e,_⟩:=x;exact Heap.lt_size e
 | own y=>obtain⟨_,e⟩:=x;exact Heap.lt_size e
 | xd fs=>obtain⟨_,⟨_,_,_,e,_⟩,_⟩:=x;exact Heap.lt_size e
 | rng lo hi=>obtain⟨_,_,_,e⟩:=x;exact Heap.lt_size e
 | frz ob u=>obtain⟨e,_⟩:=x;exact Heap.lt_size e
 | tbl ps=>exact Heap.lt_size (show h.get? a=some _ from x)
 | met f y=>exact Heap.lt_size (show h.get? a=some _ from x)
 | ext φ=>obtain⟨_,⟨_,e⟩,_⟩:=x;exact Heap.lt_size e
theorem Paired.mapP {α β:Type}{F G:α→β→Prop}:∀ {l₁:List α} {l₂:List β},Paired F l₁ l₂→(∀ a b,F a b→G a b)→Paired G l₁ l₂
 | _,_,.nil,_=>.nil
 | _,_,.cons r t,f=>.cons (f _ _ r) (Paired.mapP t f)
theorem ObjOk.stay (x:ObjOk P w H h a o)(k:∀ b u,(b=a∨H b=some (.own a))→h.get? b=some u→h'.get? b=some u)
  (ho:∀ b,H b=some (.own a)→H' b=some (.own a)) (ht:∀ b xs,H b=some (.tup xs)→H' b=some (.tup xs)):ObjOk P w H' h' a o:=by
 induction o with
 | lst xs=>obtain⟨z,its,n,r,e⟩:=x;exact⟨z,its,n,r,k _ _ (.inl rfl) e⟩
 | tup xs=>obtain⟨z,its,r,ob,e,c⟩:=x;exact⟨z,its,r,ob,k _ _ (.inl rfl) e,c⟩
 | dK kvs=>obtain⟨z,y,vs,r,ob,es,ep,e,c⟩:=x;exact⟨z,y,vs,r,ob,es,ep,k _ _ (.inl rfl) e,c⟩
 | dT kvs =>
  obtain⟨z,y,xs,r,ob,es,ep,e,c⟩:=x;exact⟨z,y,xs,Paired.mapP r fun p q z=>⟨z.1,ht _ _ z.2.1,z.2.2⟩,ob,es,ep,k _ _ (.inl rfl) e,c⟩
 | set S n=>obtain⟨ob,es,ep,t,e,c⟩:=x;exact⟨ob,es,ep,t,k _ _ (.inl rfl) e,c⟩
 | ins C dx fs =>
  obtain⟨d,z,ne,e,mA,⟨od,es,ep,e2,c⟩,r⟩:=x;exact⟨ho _ d,z,ne,k _ _ (.inl rfl) e,mA,⟨od,es,ep,k _ _ (.inr d) e2,c⟩,r⟩
 | own y=>obtain⟨ob,e⟩:=x;exact⟨ob,k _ _ (.inl rfl) e⟩
 | xd fs=>obtain⟨mA,⟨od,es,ep,e,c⟩,r⟩:=x;exact⟨mA,⟨od,es,ep,k _ _ (.inl rfl) e,c⟩,r⟩
 | rng lo hi=>obtain⟨t,u,v,e⟩:=x;exact⟨t,u,v,k _ _ (.inl rfl) e⟩
 | frz ob u ih=>obtain⟨e,q⟩:=x;exact⟨k _ _ (.inl rfl) e,ih q⟩
 | tbl ps =>
  have e:h.get? a=some { cls:=.none,data:=.fields ps }:=x;show h'.get? a=some { cls:=.none,data:=.fields ps };exact k a _ (.inl rfl) e
 | met f y =>
  have e:h.get? a=some (methodObj (.ref f) (.ref y)):=x;show h'.get? a=some (methodObj (.ref f) (.ref y));exact k a _ (.inl rfl) e
 | ext φ=>obtain⟨p,⟨o,e⟩,st⟩:=x;exact⟨st _ _ p fun o q=>k _ _ (.inl rfl) q,⟨o,k _ _ (.inl rfl) e⟩,st⟩
theorem HOk.lt (x:HOk P w H h)(e:H a=some o):a < h.objs.size:=(x a o e).lt
theorem HOk.fresh (x:HOk P w H h)(e:h.objs.size≤a):H a=none:=by
 cases q:H a with
 | none=>rfl
 | some u=>exact absurd (Nat.lt_of_lt_of_le (x.lt q) e) (Nat.lt_irrefl _)
theorem HOk.kept (x:HOk P w H h)(k:∀ b u,h.get? b=some u→h'.get? b=some u):HOk P w H h':=fun a o e =>
 (x a o e).stay (fun b u _ q=>k b u q) (fun _ q=>q) fun _ _ q=>q
theorem HOk.laid (x:HOk P w H h)(k:∀ b u,h.get? b=some u→h'.get? b=some u)(hp:h.objs.size≤a)(new:ObjOk P w (upd H a o) h' a o):HOk P w (upd H a o) h':=fun b u e=>by
 have hn:=x.fresh hp;by_cases hb:b=a
 ·subst hb;rw[ai]at e;cases e;exact new
 ·rw[ag hb]at e;exact(x b u e).stay (fun c v _ q=>k c v q) (fun c q=>by rw[ag (aG q hn)];exact q) fun c xs q=>by rw[ag (aG q hn)];exact q
end
def Rd (H:Hp)(a:Addr)(u:HO):Prop:=H a=some u∨∃ o,H a=some (.frz o u)
theorem Rd.of {H:Hp}{a:Addr}{u:HO}(h:H a=some u):Rd H a u:=.inl h
theorem Rd.ok {P:Program}{w:World}{H:Hp}{h:Heap}{a:Addr}{u:HO}(r:Rd H a u)(x:HOk P w H h):ObjOk P w H h a u:=by
 rcases r with r | ⟨o,r⟩
 ·exact x a u r
 ·obtain⟨_,q⟩:=x a _ r;exact q
def Mut:Option HO→Prop
 | some (.lst _)=>True
 | some (.dK _)=>True
 | some (.dT _)=>True
 | some (.set _ _)=>True
 | some (.ins _ _ _)=>True
 | some (.ext _)=>True
 | _=>False
section
variable {P:Program}{w:World}{H:Hp}{h h':Heap}{x e:Addr}{o':HO}
theorem HOk.write (ok:HOk P w H h)(mu:Mut (H x))(he:e=x∨H e=some (.own x))(k:∀ b u,b≠e→h.get? b=some u→h'.get? b=some u)(heo:∃ u,h'.get? e=some u)
  (new:ObjOk P w (upd H x o') h' x o'):HOk P w (upd H x o') h':=fun b u q=>by
 have nown:∀ c y,H c=some (.own y)→c≠x:=fun c y r z=>by subst z;rw[r]at mu;exact mu
 have ntup:∀ c xs,H c=some (.tup xs)→c≠x:=fun c xs r z=>by subst z;rw[r]at mu;exact mu
 by_cases hb:b=x
 ·subst hb;rw[ai]at q;cases q;exact new
 ·rw[ag hb]at q;by_cases hbe:b=e
  ·have q':H b=some (.own x):=by
    rcases he with z | z
    ·exact absurd (hbe.trans z) hb
    ·rw[hbe];exact z
   rw[q]at q';cases q';obtain⟨v,hv⟩:=heo;exact⟨v,by rw[hbe];exact hv⟩
  ·refine(ok b u q).stay (fun c v hc r=>k c v ?_ r) (fun c r=>by rw[ag (nown c b r)];exact r) fun c xs r=>by rw[ag (ntup c xs r)];exact r
   rcases hc with rfl | hc
   ·exact hbe
   ·rintro rfl
    rcases he with z | z
    ·exact nown c b hc z
    ·rw[hc]at z;cases z;exact hb rfl
end
structure Un (fs ex:List Addr)(H H':Hp)(h h':Heap):Prop where
 keep:∀ b o,h.get? b=some o→H b=none→b∉fs→b∉ex→h'.get? b=some o
 slot:∀ b o,h.get? b=some o→H b=none→b∈fs→b∉ex→∃ sl,h'.get? b=some { o with slots:=sl }
 free:∀ b o,h.get? b=some o→H b=none→b∉ex→H' b=none
 there:∀ b o,h.get? b=some o→b∉ex→∃ o',h'.get? b=some o'
 tups:∀ b xs,H b=some (.tup xs)→H' b=some (.tup xs)
 frzs:∀ b o u,H b=some (.frz o u)→H' b=some (.frz o u)
 tbls:∀ b ps,H b=some (.tbl ps)→∃ more,H' b=some (.tbl (ps++more))
section
variable {fs fs' ex ex':List Addr}{H H1 H2:Hp}{h h1 h2 h':Heap}{a x e:Addr}{o:HO}
theorem Un.any (u:Un fs ex H H1 h h1){b:Addr}{ob:Obj}(q:h.get? b=some ob)(n:H b=none)(hx:b∉ex):∃ sl,h1.get? b=some { ob with slots:=sl }:=by
 by_cases hb:b∈fs
 ·exact u.slot b ob q n hb hx
 ·exact⟨ob.slots,u.keep b ob q n hb hx⟩
theorem Un.trans (a:Un fs ex H H1 h h1)(b:Un fs ex H1 H2 h1 h2):Un fs ex H H2 h h2 where
 keep:=fun c ob q n hc hx=>b.keep c ob (a.keep c ob q n hc hx) (a.free c ob q n hx) hc hx
 slot:=fun c ob q n hc hx=>by
  obtain⟨sl,e1⟩:=a.slot c ob q n hc hx;obtain⟨sl',e2⟩:=b.slot c _ e1 (a.free c ob q n hx) hc hx;exact⟨sl',e2⟩
 free:=fun c ob q n hx=>by
  obtain⟨o',e1⟩:=a.there c ob q hx;exact b.free c o' e1 (a.free c ob q n hx) hx
 there:=fun c ob q hx=>by
  obtain⟨o',e1⟩:=a.there c ob q hx;exact b.there c o' e1 hx
 tups:=fun c xs q=>b.tups c xs (a.tups c xs q)
 frzs:=fun c ob xs q=>b.frzs c ob xs (a.frzs c ob xs q)
 tbls:=fun c ps q=>by
  obtain⟨m1,e1⟩:=a.tbls c ps q;obtain⟨m2,e2⟩:=b.tbls c _ e1;exact⟨m1++m2,by rw[e2,Array.append_assoc]⟩
theorem Un.kept (k:∀ b u,h.get? b=some u→h'.get? b=some u):Un fs ex H H h h' :=
 ⟨fun b ob q _ _ _=>k b ob q,fun b ob q _ _ _=>⟨ob.slots,k b ob q⟩,fun _ _ _ n _=>n,fun b ob q _=>⟨ob,k b ob q⟩,fun _ _ q=>q,fun _ _ _ q=>q,fun _ ps q=>⟨#[],by rw[q];simp⟩⟩
theorem Un.refl:Un fs ex H H h h:=Un.kept fun _ _ q=>q
theorem Un.laid (k:∀ b u,h.get? b=some u→h'.get? b=some u)(hp:h.objs.size≤a)(hn:H a=none):Un fs ex H (upd H a o) h h' where
 keep:=fun b u q _ _ _=>k b u q
 slot:=fun b u q _ _ _=>⟨u.slots,k b u q⟩
 free:=fun b u q n _=>by rw[ag (Nat.ne_of_lt (Nat.lt_of_lt_of_le (Heap.lt_size q) hp))];exact n
 there:=fun b u q _=>⟨u,k b u q⟩
 tups:=fun b xs q=>by rw[ag (aG q hn)];exact q
 frzs:=fun b u xs q=>by rw[ag (aG q hn)];exact q
 tbls:=fun b ps q=>⟨#[],by rw[ag (aG q hn),q];simp⟩
theorem Un.write (mu:Mut (H x))(he:e=x∨H e=some (.own x))(k:∀ b u,b≠e→h.get? b=some u→h'.get? b=some u)(heo:∃ u,h'.get? e=some u):Un fs ex H (upd H x o) h h':=by
 have hx:∀ b,H b=none→b≠x:=fun b n z=>by subst z;rw[n]at mu;exact mu
 have hb:∀ b,H b=none→b≠e:=fun b n z=>by
  subst z;rcases he with r | r
  ·exact hx b n r
  ·rw[n]at r;cases r
 have hm:∀ b u,H b=some u→¬ Mut (some u)→b≠x:=fun b u q nm z=>by subst z;rw[q]at mu;exact nm mu
 refine⟨fun b u q n _ _=>k b u (hb b n) q,fun b u q n _ _=>⟨u.slots,k b u (hb b n) q⟩,fun b u q n _=>by rw[ag (hx b n)];exact n,fun b u q _=>?_,
  fun b xs q=>by rw[ag (hm b _ q fun z=>z)];exact q,fun b u xs q=>by rw[ag (hm b _ q fun z=>z)];exact q,fun b ps q=>⟨#[],by rw[ag (hm b _ q fun z=>z),q];simp⟩⟩
 by_cases hbe:b=e
 ·subst hbe;exact heo
 ·exact⟨u,k b u hbe q⟩
end
def trk (h:Heap)(H:Hp):List Addr:=(List.range h.objs.size).filter fun a=>(H a).isSome
def hidT (h:Heap)(H:Hp):Heap:=hideAll h (trk h H)
theorem qC (h:Heap)(H:Hp):(hidT h H).objs.size=h.objs.size:=PySem.W.hideAll_size _ _
theorem so {h:Heap}{H:Hp}{b:Addr}{o:Obj}(e:h.get? b=some o)(n:H b=none):(hidT h H).get? b=some o :=
 PySem.W.hideAll_get _ e fun hm=>by
  have q:(H b).isSome=true:=(List.mem_filter.mp hm).2;rw[n]at q;simp at q
theorem vc {h:Heap}{H:Hp}{b:Addr}{o:Obj}(e:(hidT h H).get? b=some o):h.get? b=some o∧H b=none:=by
 have e':h.get? b=some o:=PySem.W.of_hideAll (trk h H) e;refine⟨e',?_⟩;cases q:H b with
 | none=>rfl
 | some x =>
  have hm:b∈trk h H:=List.mem_filter.mpr ⟨List.mem_range.mpr (Heap.lt_size e'),by simp[q]⟩;have z:(hidT h H).get? b=none:=PySem.W.hideAll_none (trk h H) hm;rw[z]at e;cases e
def allNews (g h:Heap)(L:Addr):List (Addr×Obj):=(List.range h.objs.size).filterMap fun a=>if a=L∨(g.get? a).isSome=true then none else (h.get? a).map fun o=>(a,o)
def rest (g h:Heap)(L d:Addr):List (Addr×Obj):=(allNews g h L).filter fun p=>decide (p.1≠d)
end L2
namespace L2
open PySem PySem.Spec PyProof.Rows
structure Mod (K:Frag)(mg:Str→Option Value)(base:Heap):Prop where
 kin:K.In base
 glob:base.Ns mainGlobals mg
 blt:∃ mb,base.Ns builtinsNs mb∧∀ x:Str,x ≠ "__name__" → mb x=bootBuiltins x
 nolimit:base.NoLimit
structure Cx where
 prog:Program
 w:World
 K:Frag
 mg:Str→Option Value
 base:Heap
 A:Around
 N:List Str
 s₀:Shared
 H₀:Hp
 env:Env
 outer:List Env
 stack:List Env
 ex:List Addr
 fn:Str→Bool
 calm:Bool
 pn:List (Addr×Obj)
 xe:Value→Shared→Prop
def frs (l:List Env):List Addr:=l.filterMap (·.frame)
abbrev Cx.fs (X:Cx):List Addr:=frs X.outer
def Vis (sc:Scope)(x:Str):Prop:=sc.names.lookup x=some .local∨sc.names.lookup x=some .cell∨sc.names.lookup x=some .free
def Loc (sc:Scope)(x:Str):Prop:=sc.names.lookup x=some .local∨sc.names.lookup x=some .cell
def Look (env:Env)(h:Heap)(m:Str→Option Value)(x:Str)(u:Value):Prop :=
 (env.kindOf x=some .local∧m x=some u)∨((env.kindOf x=some .cell∨env.kindOf x=some .free)∧∃ c,env.cells.lookup x=some c∧h.IsCell c (some u))
structure Cx.Ok (X:Cx):Prop where
 mod:Mod X.K X.mg X.base
 kind:X.env.scope.kind=.function
 glob:X.env.globals=mainGlobals
 blt:X.env.builtins=builtinsNs
 above:X.s₀.heap.objs.size≤X.env.locals
 inj:∀ x y c,X.env.cells.lookup x=some c→X.env.cells.lookup y=some c→x=y
 has:∀ x,(X.env.kindOf x=some .cell∨X.env.kindOf x=some .free)→∃ c,X.env.cells.lookup x=some c
 cab:∀ x c,X.fn x=true→X.env.cells.lookup x=some c→X.s₀.heap.objs.size≤c
 hd:X.calm=true→X.A.handled=none
 frames:X.A.frames=some X.stack
 stk:X.stack=X.outer∨(X.stack=X.env::X.outer∧X.env.frame=some X.env.locals)
 exf:∀ b∈X.ex,b≠X.env.locals∧∀ x c,X.env.cells.lookup x=some c→c≠b
 bs:∀ b o,X.base.get? b=some o→X.s₀.heap.get? b=some o∧X.H₀ b=none
 bsz:X.base.objs.size≤X.s₀.heap.objs.size
 noex:∀ b o,X.base.get? b=some o→b∉X.ex
 exfs:∀ b∈X.ex,b∉X.fs
 funs:X.s₀.heap.FunFrames X.base X.outer
 frf:∀ b∈X.fs,X.H₀ b=none
structure Inv (X:Cx)(pins:List (Addr×Obj))(σ:List (Option V))(H:Hp)(s:Shared):Prop where
 ok:X.Ok
 os:s.os=X.s₀.os
 bare:AllBare s.gens
 base:Un X.fs X.ex X.H₀ H X.s₀.heap s.heap
 loc:∃ m,s.heap.Ns X.env.locals m∧∀ (i:Nat) (x:Str) (v:V),X.N[i]?=some x→σ[i]?=some (some v)→Vis X.env.scope x→∃ u,RelV v u∧Look X.env s.heap m x u
 cell:∀ x c,X.env.cells.lookup x=some c→∃ v,s.heap.IsCell c v
 free:H X.env.locals=none
 freeC:∀ x c,X.env.cells.lookup x=some c→H c=none
 pin:∀ p∈X.pn++pins,s.heap.get? p.1=some p.2∧H p.1=none∧p.1≠X.env.locals∧p.1∉X.fs∧∀ v,p.2.data≠.cell v
 hok:HOk X.prog X.w H s.heap
 len:σ.length=X.N.length
section
variable {X:Cx}{pins:List (Addr×Obj)}{σ:List (Option V)}{H H':Hp}{s:Shared}{h':Heap}
theorem Cx.Ok.nofr (ok:X.Ok){b:Addr}{o:Obj}(e:X.base.get? b=some o):b∉X.fs:=fun hb=>by
 have:=(ok.funs.mem hb).1;rw[e]at this;cases this
theorem Inv.bs (I:Inv X pins σ H s):∀ b o,X.base.get? b=some o→s.heap.get? b=some o∧H b=none:=fun b o e =>
 ⟨I.base.keep b o (I.ok.bs b o e).1 (I.ok.bs b o e).2 (I.ok.nofr e) (I.ok.noex b o e),I.base.free b o (I.ok.bs b o e).1 (I.ok.bs b o e).2 (I.ok.noex b o e)⟩
theorem Inv.bk (I:Inv X pins σ H s):∀ b o,X.base.get? b=some o→s.heap.get? b=some o:=fun b o e=>(I.bs b o e).1
theorem Inv.mod (I:Inv X pins σ H s):Mod X.K X.mg X.base:=I.ok.mod
theorem Inv.kIn (I:Inv X pins σ H s):X.K.In s.heap:=I.ok.mod.kin.keeps I.bk
theorem Inv.nolimit (I:Inv X pins σ H s):s.heap.NoLimit:=I.ok.mod.nolimit.keeps I.bk
theorem Inv.lt (I:Inv X pins σ H s):X.env.locals < s.heap.objs.size:=let ⟨_,hn,_⟩:=I.loc;hn.lt
theorem Inv.sz (I:Inv X pins σ H s):X.s₀.heap.objs.size≤s.heap.objs.size:=Nat.le_trans I.ok.above (Nat.le_of_lt I.lt)
theorem Inv.nofs (I:Inv X pins σ H s){a:Addr}(h:s.heap.objs.size≤a):a∉X.fs:=fun hb=>by
 obtain⟨_,o,ho,_⟩:=I.ok.funs.mem hb;exact absurd (Nat.lt_of_lt_of_le (Heap.lt_size ho) (Nat.le_trans I.sz h)) (Nat.lt_irrefl _)
theorem Inv.cne (I:Inv X pins σ H s):∀ x c,X.env.cells.lookup x=some c→c≠X.env.locals:=fun x c e z=>by
 obtain⟨v,o,ho,hd⟩:=I.cell x c e;obtain⟨m,⟨o',es,ep,ho',hd',_⟩,_⟩:=I.loc;rw[z,ho']at ho;cases ho;rw[hd']at hd;cases hd
theorem Inv.funs (I:Inv X pins σ H s):s.heap.FunFrames X.base X.outer:=by
 have all:∀ (l:List Env),(∀ b∈frs l,b∈X.fs)→X.s₀.heap.FunFrames X.base l→s.heap.FunFrames X.base l:=by
  intro l
  induction l with
  | nil=>intro _ _;trivial
  | cons env r ih =>
   intro hs hl;obtain⟨hk,⟨L,o,hf,hn,ho,hd⟩,hr⟩:=hl;have hL:L∈X.fs:=hs L (by unfold frs;rw[List.filterMap_cons,hf];exact List.mem_cons_self);obtain⟨sl,e⟩:=I.base.slot L o ho (I.ok.frf L hL) hL fun z=>I.ok.exfs L z hL
   exact⟨hk,⟨L,_,hf,hn,e,hd⟩,ih (fun b hb=>hs b (by unfold frs;rw[List.filterMap_cons,hf];exact List.mem_cons_of_mem _ hb)) hr⟩
 exact all X.outer (fun _ hb=>hb) I.ok.funs
theorem Inv.stack (I:Inv X pins σ H s):s.heap.FunFrames X.base X.stack:=by
 rcases I.ok.stk with e | ⟨e,hf⟩
 ·rw[e];exact I.funs
 ·rw[e];obtain⟨m,hn,_⟩:=I.loc;refine .cons (by rw[I.ok.kind];decide) hf hn ?_ I.funs;exact Heap.get?_none_of_le (Nat.le_trans I.ok.bsz I.ok.above)
theorem Inv.stkSub (I:Inv X pins σ H s):∀ b∈frs X.stack,b∈X.env.locals::X.fs:=fun b hb=>by
 rcases I.ok.stk with e | ⟨e,hf⟩
 ·rw[e]at hb;exact List.mem_cons_of_mem _ hb
 ·rw[e]at hb;unfold frs at hb;rw[List.filterMap_cons,hf]at hb;exact hb
theorem Inv.stkFree (I:Inv X pins σ H s):∀ b∈frs X.stack,H b=none:=fun b hb=>by
 rcases List.mem_cons.mp (I.stkSub b hb) with e | hb
 ·rw[e];exact I.free
 ·obtain⟨_,o,ho,_⟩:=I.ok.funs.mem hb;exact I.base.free b o ho (I.ok.frf b hb) fun z=>I.ok.exfs b z hb
theorem Inv.step {g':Array GenState}{t':Nat}{d':Drawn}{ch:List Addr}(I:Inv X pins σ H s)
  (hch:∀ b∈ch,(b∈X.ex∨X.s₀.heap.objs.size≤b)∧b≠X.env.locals∧(∀ x c,X.env.cells.lookup x=some c→c≠b)∧∀ p∈X.pn++pins,p.1≠b)
  (keep:∀ b o,b≠X.env.locals→b∉X.fs→b∉ch→s.heap.get? b=some o→H b=none→h'.get? b=some o)
  (slot:∀ b o,b≠X.env.locals→b∈X.fs→b∉ch→s.heap.get? b=some o→H b=none→∃ sl,h'.get? b=some { o with slots:=sl }) (free:∀ b o,b∉ch→s.heap.get? b=some o→H b=none→H' b=none)
  (there:∀ b o,b∉ch→s.heap.get? b=some o→∃ o',h'.get? b=some o')
  (tups:∀ b xs,H b=some (.tup xs)→H' b=some (.tup xs)) (frzs:∀ b o u,H b=some (.frz o u)→H' b=some (.frz o u)) (tbls:∀ b ps,H b=some (.tbl ps)→∃ more,H' b=some (.tbl (ps++more)))
  (ns:∀ m,s.heap.Ns X.env.locals m→h'.Ns X.env.locals m) (hok:HOk X.prog X.w H' h') (hg:AllBare g') :
  Inv X pins σ H' { s with heap:=h',gens:=g',drawn:=d',toks:=t' }:=by
 have neL:∀ b o,X.s₀.heap.get? b=some o→b≠X.env.locals:=fun b o e=>Nat.ne_of_lt (Nat.lt_of_lt_of_le (Heap.lt_size e) I.ok.above)
 have neC:∀ b o,X.s₀.heap.get? b=some o→b∉X.ex→b∉ch:=fun b o e hx hb=>by
  rcases(hch b hb).1 with z | z
  ·exact hx z
  ·exact absurd (Nat.lt_of_lt_of_le (Heap.lt_size e) z) (Nat.lt_irrefl _)
 have cellK:∀ x c,X.env.cells.lookup x=some c→∀ v,s.heap.IsCell c v→h'.IsCell c v:=fun x c e v ⟨o,ho,hd⟩=>by
  have nch:c∉ch:=fun z=>(hch c z).2.2.1 x c e rfl
  by_cases hc:c∈X.fs
  ·obtain⟨sl,q⟩:=slot c o (I.cne x c e) hc nch ho (I.freeC x c e);exact⟨_,q,hd⟩
  ·exact⟨o,keep c o (I.cne x c e) hc nch ho (I.freeC x c e),hd⟩
 refine⟨I.ok,I.os,hg,⟨fun b o e n hb hx=>?_,fun b o e n hb hx=>?_,fun b o e n hx=>?_,fun b o e hx=>?_,fun b xs e=>tups b xs (I.base.tups b xs e),fun b o xs e=>frzs b o xs (I.base.frzs b o xs e),fun b ps e=>?_⟩,?_,fun x c e=>?_,?_,fun x c e=>?_,fun p hp=>?_,hok,I.len⟩
 ·exact keep b o (neL b o e) hb (neC b o e hx) (I.base.keep b o e n hb hx) (I.base.free b o e n hx)
 ·obtain⟨sl,e1⟩:=I.base.slot b o e n hb hx;obtain⟨sl',e2⟩:=slot b _ (neL b o e) hb (neC b o e hx) e1 (I.base.free b o e n hx);exact⟨sl',e2⟩
 ·obtain⟨o',e1⟩:=I.base.there b o e hx;exact free b o' (neC b o e hx) e1 (I.base.free b o e n hx)
 ·obtain⟨o',e1⟩:=I.base.there b o e hx;exact there b o' (neC b o e hx) e1
 ·obtain⟨m1,e1⟩:=I.base.tbls b ps e;obtain⟨m2,e2⟩:=tbls b _ e1;exact⟨m1++m2,by rw[e2,Array.append_assoc]⟩
 ·obtain⟨m,hn,hl⟩:=I.loc;refine⟨m,ns m hn,fun i x v e1 e2 e3=>?_⟩;obtain⟨u,r,l⟩:=hl i x v e1 e2 e3;refine⟨u,r,?_⟩;rcases l with l | ⟨k,c,e,z⟩
  ·exact .inl l
  ·exact .inr ⟨k,c,e,cellK x c e _ z⟩
 ·obtain⟨v,z⟩:=I.cell x c e;exact⟨v,cellK x c e v z⟩
 ·obtain⟨m,⟨o,_,_,ho,_⟩,_⟩:=I.loc;exact free _ o (fun z=>(hch _ z).2.1 rfl) ho I.free
 ·obtain⟨v,o,ho,hd⟩:=I.cell x c e;exact free c o (fun z=>(hch c z).2.2.1 x c e rfl) ho (I.freeC x c e)
 ·obtain⟨e,n,ne,nf,d⟩:=I.pin p hp;have nch:p.1∉ch:=fun z=>(hch p.1 z).2.2.2 p hp rfl
  exact⟨keep p.1 p.2 ne nf nch e n,free p.1 p.2 nch e n,ne,nf,d⟩
theorem Inv.un {t':Nat}(I:Inv X pins σ H s)(u:Un X.fs [] H H' s.heap h')(hok:HOk X.prog X.w H' h'):Inv X pins σ H' { s with heap:=h',toks:=t' }:=by
 obtain⟨m,⟨o,es,ep,ho,r⟩,_⟩:=id I.loc;obtain⟨sl,hL⟩:=u.any ho I.free (by simp);exact I.step (g':=s.gens) (d':=s.drawn) (ch:=[]) (fun _ z=>nomatch z) (fun b o _ hb _ e n=>u.keep b o e n hb (by simp)) (fun b o _ hb _ e n=>u.slot b o e n hb (by simp)) (fun b o _ e n=>u.free b o e n (by simp)) (fun b o _ e=>u.there b o e (by simp)) u.tups u.frzs u.tbls (fun m' hm=>by
  obtain⟨o',es',ep',ho',r'⟩:=hm;rw[ho]at ho';cases ho';exact⟨_,es',ep',hL,r'⟩) hok I.bare
theorem Inv.call {g':Array GenState}{t':Nat}{d':Drawn}{ch:List Addr}(I:Inv X pins σ H s)(u:Un (frs X.stack) ch H H' s.heap h')(hok:HOk X.prog X.w H' h')(hg:AllBare g')
  (hch:∀ b∈ch,(b∈X.ex∨X.s₀.heap.objs.size≤b)∧b≠X.env.locals∧(∀ x c,X.env.cells.lookup x=some c→c≠b)∧∀ p∈X.pn++pins,p.1≠b) :
  Inv X pins σ H' { s with heap:=h',gens:=g',drawn:=d',toks:=t' }:=by
 obtain⟨m,⟨o,es,ep,ho,r⟩,_⟩:=id I.loc;obtain⟨sl,hL⟩:=u.any ho I.free fun z=>(hch _ z).2.1 rfl
 exact I.step (ch:=ch) hch (fun b o hL hb hc e n=>u.keep b o e n (fun z=>(List.mem_cons.mp (I.stkSub b z)).elim hL hb) hc) (fun b o _ _ hc e n=>u.any e n hc) (fun b o hc e n=>u.free b o e n hc) (fun b o hc e=>u.there b o e hc) u.tups u.frzs u.tbls (fun m' hm=>by
  obtain⟨o',es',ep',ho',r'⟩:=hm;rw[ho]at ho';cases ho';exact⟨_,es',ep',hL,r'⟩) hok hg
theorem Inv.turned {t':Nat}{it:Addr}(I:Inv X pins σ H s)(k:∀ b o,b≠it→s.heap.get? b=some o→h'.get? b=some o)(hn:H it=none)(hL:it≠X.env.locals)
  (h1:it∈X.ex∨X.s₀.heap.objs.size≤it) (h2:∀ x c,X.env.cells.lookup x=some c→c≠it) (h3:∀ p∈X.pn++pins,p.1≠it):Inv X pins σ H { s with heap:=h',toks:=t' }:=by
 have nit:∀ b u,H b=some u→b≠it:=fun b u e z=>by rw[z,hn]at e;cases e
 refine I.step (g':=s.gens) (d':=s.drawn) (ch:=[it]) (fun b hb=>?_) (fun b o _ _ hc e _=>k b o (fun z=>hc (by simp[z])) e) (fun b o _ _ hc e _=>⟨o.slots,k b o (fun z=>hc (by simp[z])) e⟩) (fun _ _ _ _ n=>n)
  (fun b o hc e=>⟨o,k b o (fun z=>hc (by simp[z])) e⟩) (fun _ _ e=>e) (fun _ _ _ e=>e) (fun b ps e=>⟨#[],by rw[e];simp⟩) (fun m hm=>?_) (fun b u e=>?_) I.bare
 ·have e:b=it:=by simpa using hb
  subst e;exact⟨h1,hL,h2,h3⟩
 ·obtain⟨o,es,ep,ho,r⟩:=hm;exact⟨o,es,ep,k _ o (Ne.symm hL) ho,r⟩
 ·refine(I.hok b u e).stay (fun c v hc q=>k c v ?_ q) (fun _ q=>q) fun _ _ q=>q
  rcases hc with z | z
  ·rw[z];exact nit b u e
  ·exact nit c _ z
theorem Inv.tok (I:Inv X pins σ H s)(t:Nat):Inv X pins σ H { s with toks:=t }:=I.un (h':=s.heap) (t':=t) Un.refl I.hok
theorem Inv.kept {t':Nat}(I:Inv X pins σ H s)(k:∀ b u,s.heap.get? b=some u→h'.get? b=some u):Inv X pins σ H { s with heap:=h',toks:=t' }:=I.un (Un.kept k) (I.hok.kept k)
theorem Inv.laid {a:Addr}{o:HO}{t':Nat}(I:Inv X pins σ H s)(k:∀ b u,s.heap.get? b=some u→h'.get? b=some u)(hp:s.heap.objs.size≤a)(new:ObjOk X.prog X.w (upd H a o) h' a o) :
  Inv X pins σ (upd H a o) { s with heap:=h',toks:=t' }:=I.un (Un.laid k hp (I.hok.fresh hp)) (I.hok.laid k hp new)
theorem Inv.write {x e:Addr}{o:HO}{t':Nat}(I:Inv X pins σ H s)(mu:Mut (H x))(he:e=x∨H e=some (.own x))(k:∀ b u,b≠e→s.heap.get? b=some u→h'.get? b=some u)(heo:∃ u,h'.get? e=some u)
  (new:ObjOk X.prog X.w (upd H x o) h' x o):Inv X pins σ (upd H x o) { s with heap:=h',toks:=t' }:=I.un (Un.write mu he k heo) (I.hok.write mu he k heo new)
theorem Inv.pins_of {pins':List (Addr×Obj)}(I:Inv X pins σ H s)(h:∀ p∈pins',s.heap.get? p.1=some p.2∧H p.1=none∧p.1≠X.env.locals∧p.1∉X.fs∧∀ v,p.2.data≠.cell v):Inv X pins' σ H s :=
 ⟨I.ok,I.os,I.bare,I.base,I.loc,I.cell,I.free,I.freeC,fun p hp=>(List.mem_append.mp hp).elim (fun z=>I.pin p (List.mem_append_left _ z)) (h p),I.hok,I.len⟩
theorem js {N:List Str}(hN:N.Nodup){i j:Nat}{x:Str}(a:N[i]?=some x)(b:N[j]?=some x):i=j:=by
 obtain⟨h1,e1⟩:=List.getElem?_eq_some_iff.mp a;obtain⟨h2,e2⟩:=List.getElem?_eq_some_iff.mp b;exact(List.getElem_inj hN).mp (e1.trans e2.symm)
theorem qD {M:Model}{A:Around}{E:Value→Shared→Prop}{i:Nat}{x:Str}{v:V}{u:Value}{Q:Unit→Shared→Prop}(I:Inv X pins σ H s)(hN:X.N.Nodup)(hi:X.N[i]?=some x)(hx:Loc X.env.scope x)(r:RelV v u)
  (h:∀ s',Inv X pins (σ.set i (some v)) H s'→(∃ a,Heap.SameBut a s.heap s'.heap∧(a=X.env.locals∨X.env.cells.lookup x=some a))→Q () s') (hf:X.fn x=true∨X.env.scope.names.lookup x=some .local:=by first | exact .inl rfl | exact .inr rfl | assumption):wpAny M A (storeName X.env x u) Q E s:=by
 obtain⟨m,hn,hl⟩:=id I.loc;have hcls:(X.env.scope.kind==.class||(X.env.scope.kind==.module&&X.env.locals != X.env.globals))=false:=by rw[I.ok.kind];rfl
 have hiσ:i < σ.length:=by rw[I.len];exact(List.getElem?_eq_some_iff.mp hi).1
 have cne:=I.cne;have tracked:∀ {a:Addr} {h':Heap},(∃ o,s.heap.get? a=some o∧H a=none)→Heap.SameBut a s.heap h'→HOk X.prog X.w H h':=fun {a h'} ha hs b ob e=>by
  obtain⟨_,_,hfree⟩:=ha;refine(I.hok b ob e).stay (fun c w' hc q=>(hs.2 c ?_).trans q) (fun _ q=>q) fun _ _ q=>q
  rintro rfl
  rcases hc with rfl | hc
  ·rw[hfree]at e;cases e
  ·rw[hfree]at hc;cases hc
 rcases hx with hk | hk
 ·refine wpAny_storeName_local hk hn (fun h' hn' hs=>?_) hcls;obtain⟨oL,_,_,hoL,_⟩:=id hn;refine h _ ⟨I.ok,I.os,I.bare,⟨fun b o e n hb hx=>?_,fun b o e n hb hx=>?_,I.base.free,fun b o e hx=>?_,I.base.tups,I.base.frzs,I.base.tbls⟩,⟨_,hn',fun j y v' e1 e2 e3=>?_⟩,fun y c e=>?_,I.free,I.freeC,fun p hp=>?_,tracked ⟨oL,hoL,I.free⟩ hs,by simpa using I.len⟩ ⟨_,hs,.inl rfl⟩
  ·exact(hs.2 b (Nat.ne_of_lt (Nat.lt_of_lt_of_le (Heap.lt_size e) I.ok.above))).trans (I.base.keep b o e n hb hx)
  ·obtain⟨sl,e1⟩:=I.base.slot b o e n hb hx;exact⟨sl,(hs.2 b (Nat.ne_of_lt (Nat.lt_of_lt_of_le (Heap.lt_size e) I.ok.above))).trans e1⟩
  ·obtain⟨o',e1⟩:=I.base.there b o e hx;exact⟨o',(hs.2 b (Nat.ne_of_lt (Nat.lt_of_lt_of_le (Heap.lt_size e) I.ok.above))).trans e1⟩
  ·by_cases hj:j=i
   ·subst hj;rw[hi]at e1;cases e1;rw[List.getElem?_set_self hiσ]at e2;cases e2;exact⟨u,r,.inl ⟨hk,by simp⟩⟩
   ·rw[List.getElem?_set_ne (Ne.symm hj)]at e2;obtain⟨u',r',q⟩:=hl j y v' e1 e2 e3;refine⟨u',r',?_⟩;rcases q with ⟨k,e⟩ | ⟨k,c,e,z⟩
    ·refine .inl ⟨k,?_⟩;have:y≠x:=fun e=>hj (js hN e1 (e ▸ hi))
     simp[this,e]
    ·exact .inr ⟨k,c,e,z.sameBut hs (cne y c e)⟩
  ·obtain⟨w',z⟩:=I.cell y c e;exact⟨w',z.sameBut hs (cne y c e)⟩
  ·obtain⟨e,n,ne,nf,d⟩:=I.pin p hp;exact⟨(hs.2 p.1 ne).trans e,n,ne,nf,d⟩
 ·have hfn:X.fn x=true:=by
   rcases hf with z | z
   ·exact z
   ·rw[z]at hk;cases hk
  obtain⟨c,hc⟩:=I.ok.has x (.inl hk);obtain⟨w',z⟩:=I.cell x c hc;refine wpAny_storeName_cell I.ok.kind hk hc z (fun h' hc' hs=>?_);obtain⟨oc,hoc,hocd⟩:=id z;refine h { s with heap:=h' } ⟨I.ok,I.os,I.bare,⟨fun b o e n hb hx=>?_,fun b o e n hb hx=>?_,I.base.free,fun b o e hx=>?_,I.base.tups,I.base.frzs,I.base.tbls⟩,⟨m,hn.sameBut hs (Ne.symm (cne x c hc)),fun j y v' e1 e2 e3=>?_⟩,fun y c' e=>?_,I.free,I.freeC,fun p hp=>?_,tracked ⟨oc,hoc,I.freeC x c hc⟩ hs,by simpa using I.len⟩ ⟨c,hs,.inr hc⟩
  ·exact(hs.2 b (Nat.ne_of_lt (Nat.lt_of_lt_of_le (Heap.lt_size e) (I.ok.cab x c hfn hc)))).trans (I.base.keep b o e n hb hx)
  ·obtain⟨sl,e1⟩:=I.base.slot b o e n hb hx;exact⟨sl,(hs.2 b (Nat.ne_of_lt (Nat.lt_of_lt_of_le (Heap.lt_size e) (I.ok.cab x c hfn hc)))).trans e1⟩
  ·obtain⟨o',e1⟩:=I.base.there b o e hx;exact⟨o',(hs.2 b (Nat.ne_of_lt (Nat.lt_of_lt_of_le (Heap.lt_size e) (I.ok.cab x c hfn hc)))).trans e1⟩
  ·by_cases hj:j=i
   ·subst hj;rw[hi]at e1;cases e1;rw[List.getElem?_set_self hiσ]at e2;cases e2;exact⟨u,r,.inr ⟨.inl hk,c,hc,hc'⟩⟩
   ·rw[List.getElem?_set_ne (Ne.symm hj)]at e2;obtain⟨u',r',q⟩:=hl j y v' e1 e2 e3;refine⟨u',r',?_⟩;rcases q with q | ⟨k,c',e,z'⟩
    ·exact .inl q
    ·refine .inr ⟨k,c',e,z'.sameBut hs ?_⟩
     rintro rfl
     exact hj (js hN e1 (I.ok.inj _ _ _ e hc ▸ hi))
  ·by_cases hcc:c'=c
   ·subst hcc;exact⟨_,hc'⟩
   ·obtain⟨w2,z2⟩:=I.cell y c' e;exact⟨w2,z2.sameBut hs hcc⟩
  ·obtain⟨e,n,ne,nf,d⟩:=I.pin p hp;refine⟨(hs.2 p.1 ?_).trans e,n,ne,nf,d⟩;intro q;rw[q,hoc]at e;have q':oc=p.2:=Option.some.inj e;exact d w' (by rw[← q'];exact hocd)
theorem gI {M:Model}{A:Around}{E:Value→Shared→Prop}{i:Nat}{x:Str}{v:V}{u:Value}{Q:Unit→Shared→Prop}(I:Inv X pins σ H s)(hN:X.N.Nodup)(hi:X.N[i]?=some x)(hx:Loc X.env.scope x)(r:RelV v u)
  (h:∀ s',Inv X pins (σ.set i (some v)) H s'→Q () s') (hf:X.fn x=true∨X.env.scope.names.lookup x=some .local:=by first | exact .inl rfl | exact .inr rfl | assumption):wpAny M A (storeName X.env x u) Q E s :=
 qD I hN hi hx r (fun s' I' _=>h s' I') hf
theorem Inv.call' {s':Shared}{ch:List Addr}(I:Inv X pins σ H s)(ho:s'.os=s.os)(u:Un (frs X.stack) ch H H' s.heap s'.heap)(hok:HOk X.prog X.w H' s'.heap)(hg:AllBare s'.gens)
  (hch:∀ b∈ch,(b∈X.ex∨X.s₀.heap.objs.size≤b)∧b≠X.env.locals∧(∀ x c,X.env.cells.lookup x=some c→c≠b)∧∀ p∈X.pn++pins,p.1≠b):Inv X pins σ H' s':=by
 obtain⟨h',g',d',t',o'⟩:=s';have e:o'=s.os:=ho;subst e;exact I.call (g':=g') (t':=t') (d':=d') u hok hg hch
end
abbrev XK:=Value→Option Addr→Hp→Prop
abbrev St:=List (Option V)
abbrev VK:=V→Hp→Prop
abbrev TE:=St→Hp→VK→Prop
abbrev TT:=St→Hp→(Bool→Hp→Prop)→Prop
abbrev TA:=St→Hp→(List V→Hp→Prop)→Prop
structure Ends where
 nx:St→Hp→Prop
 rt:VK
 bk:St→Hp→Prop:=fun _ _=>False
 ct:St→Hp→Prop:=fun _ _=>False
abbrev TS:=Ends→St→Hp→Prop
def EP (X:Cx)(pins:List (Addr×Obj))(σ:St)(Q:VK)(u:Value)(s':Shared):Prop:=∃ v H',Inv X pins σ H' s'∧RelV v u∧Q v H'
def TP (X:Cx)(pins:List (Addr×Obj))(σ:St)(Q:Bool→Hp→Prop)(b:Bool)(s':Shared):Prop:=∃ H',Inv X pins σ H' s'∧Q b H'
def AP (X:Cx)(pins:List (Addr×Obj))(σ:St)(Q:List V→Hp→Prop)(us:List Value)(s':Shared):Prop:=∃ vs H',Inv X pins σ H' s'∧Vals vs us∧Q vs H'
def SP (X:Cx)(pins:List (Addr×Obj))(D:Ends)(f:Flow)(s':Shared):Prop :=
 match f with
 | .next=>∃ σ' H',Inv X pins σ' H' s'∧D.nx σ' H'
 | .brk=>∃ σ' H',Inv X pins σ' H' s'∧D.bk σ' H'
 | .cont=>∃ σ' H',Inv X pins σ' H' s'∧D.ct σ' H'
 | .ret u=>∃ v σ' H',Inv X pins σ' H' s'∧RelV v u∧D.rt v H'
def PE (X:Cx)(e:Expr)(t:TE):Prop :=
 ∀ (pins:List (Addr×Obj)) (s:Shared) (σ:St) (H:Hp) (Q:VK),Inv X pins σ H s→t σ H Q→wpAny (model X.prog X.w) X.A (eval e X.env) (EP X pins σ Q) X.xe s
def PT (X:Cx)(e:Expr)(t:TT):Prop :=
 ∀ (pins:List (Addr×Obj)) (s:Shared) (σ:St) (H:Hp) (Q:Bool→Hp→Prop),Inv X pins σ H s→t σ H Q→wpAny (model X.prog X.w) X.A (isTrue e X.env (eval e X.env)) (TP X pins σ Q) X.xe s
def PW (X:Cx)(e:Expr)(t:TT):Prop :=
 ∀ (whole:Sem Value) (pins:List (Addr×Obj)) (s:Shared) (σ:St) (H:Hp) (Q:Bool→Hp→Prop),Inv X pins σ H s→t σ H Q→wpAny (model X.prog X.w) X.A (isTrue e X.env whole) (TP X pins σ Q) X.xe s
theorem PW.pt {X:Cx}{e:Expr}{t:TT}(h:PW X e t):PT X e t:=h _
def PA (X:Cx)(es:List Expr)(t:TA):Prop :=
 ∀ (pos:Pos) (pins:List (Addr×Obj)) (s:Shared) (σ:St) (H:Hp) (Q:List V→Hp→Prop),Inv X pins σ H s→t σ H Q→wpAny (model X.prog X.w) X.A (spliced (backTo pos (starEach es X.env))) (AP X pins σ Q) X.xe s
def PS (X:Cx)(st:Stmt)(t:TS):Prop :=
 ∀ (pins:List (Addr×Obj)) (s:Shared) (σ:St) (H:Hp) (D:Ends),Inv X pins σ H s→t D σ H→wpAny (model X.prog X.w) X.A (exec st X.env) (SP X pins D) X.xe s
def PSs (X:Cx)(st:List Stmt)(t:TS):Prop :=
 ∀ (pins:List (Addr×Obj)) (s:Shared) (σ:St) (H:Hp) (D:Ends),Inv X pins σ H s→t D σ H→wpAny (model X.prog X.w) X.A (execs st X.env) (SP X pins D) X.xe s
theorem thn {α:Type}{t:Sem α}{Q Q':α→Shared→Prop}{M:Model}{A:Around}{E:Value→Shared→Prop}{s:Shared}(h:wpAny M A t Q E s)(hQ:∀ a s,Q a s→Q' a s):wpAny M A t Q' E s:=wpAny_mono h hQ fun _ _ x=>x
end L2
namespace L2
open PySem PySem.Spec PyProof.Rows
section
variable {X:Cx}
theorem bin {a b:Expr}{ta tb:TE}(ha:PE X a ta)(hb:PE X b tb){pins:List (Addr×Obj)}{s:Shared}{σ:St}{H:Hp}{R:V→V→Hp→Prop}(I:Inv X pins σ H s)(h:ta σ H fun x H1=>tb σ H1 fun y H2=>R x y H2)
  {α:Type} {Q:α→Shared→Prop} {f:Value→Value→Sem α}
  (hf:∀ v u s2 x y H2,Inv X pins σ H2 s2→RelV x v→RelV y u→R x y H2→wpAny (model X.prog X.w) X.A (f v u) Q X.xe s2) :
  wpAny (model X.prog X.w) X.A (eval a X.env) (fun v s₁=>wpAny (model X.prog X.w) X.A (eval b X.env) (fun u s₂=>wpAny (model X.prog X.w) X.A (f v u) Q X.xe s₂) X.xe s₁) X.xe s:=by
 refine thn (ha pins s σ H _ I h) fun v s1 ⟨x,H1,I1,r1,q1⟩=>?_
 refine thn (hb pins s1 σ H1 _ I1 q1) fun u s2 ⟨y,H2,I2,r2,q2⟩=>?_
 exact hf v u s2 x y H2 I2 r1 r2 q2
def tVar (i:Nat):TE:=fun σ H Q=>∃ v,σ[i]?=some (some v)∧Q v H
def tC (v:V):TE:=fun _ H Q=>Q v H
theorem fe {i:Nat}{x:Str}{pos:Pos}(hN:X.N[i]?=some x)(hv:Vis X.env.scope x)(hd:(x==("__debug__":Str))=false:=by decide)(hcd:(x==("__classdict__":Str))=false:=by decide):PE X (.Name x pos) (tVar i):=by
 intro pins s σ H Q I h;obtain⟨v,e,h⟩:=h;obtain⟨m,hn,hl⟩:=I.loc;obtain⟨u,r,l⟩:=hl i x v hN e hv;have fin:EP X pins σ Q u s:=⟨v,H,I,r,h⟩;rcases l with ⟨hk,hm⟩ | ⟨hk,c,hc,hcell⟩
 ·exact wpAny_Name (wpAny_loadName_local I.ok.kind hk hn hm fin) hd
 ·rcases hk with hk | hk
  ·exact wpAny_Name (wpAny_loadName_cell I.ok.kind hk hc hcell fin) hd
  ·exact wpAny_Name (wpAny_loadName_free I.ok.kind hk hc hcell fin hcd) hd
theorem xL {i j pos}:PE X (.Constant (.int i) j pos) (tC (.int i)):=fun _ _ _ H _ I h=>wpAny_Constant_int ⟨.int i,H,I.tok _,⟨_,rfl⟩,h⟩
theorem zb {b j pos}:PE X (.Constant (.bool b) j pos) (tC (.bl b)):=fun _ _ _ H _ I h=>Constant_bool ⟨.bl b,H,I,rfl,h⟩
theorem xM {j pos}:PE X (.Constant .none j pos) (tC .non):=fun _ _ _ H _ I h=>Constant_none ⟨.non,H,I,rfl,h⟩
theorem xN {x j pos}:PE X (.Constant (.str x) j pos) (tC (.str x)):=fun _ _ _ H _ I h=>Calls.Constant_str ⟨.str x,H,I.tok _,⟨_,rfl⟩,h⟩
def Gl (X:Cx)(x:Str):Prop:=X.env.kindOf x=some .globalImplicit
theorem cR {E:Value→Shared→Prop}{pins:List (Addr×Obj)}{s:Shared}{σ:St}{H:Hp}{x:Str}{u:Value}{pos:Pos}{Q:Value→Shared→Prop}(I:Inv X pins σ H s)(hg:Gl X x)(hm:X.mg x=some u)(h:Q u s)
  (hd:(x==("__debug__":Str))=false:=by decide):wpAny (model X.prog X.w) X.A (eval (.Name x pos) X.env) Q E s :=
 Calls.Name_function_global I.ok.kind hg (Calls.loadGlobal_global (by rw[I.ok.glob];exact I.mod.glob.keeps I.bk) hm h) hd
theorem gu {E:Value→Shared→Prop}{pins:List (Addr×Obj)}{s:Shared}{σ:St}{H:Hp}{x:Str}{u:Value}{pos:Pos}{Q:Value→Shared→Prop}(I:Inv X pins σ H s)(hg:Gl X x)(hm:X.mg x=none)(hv:bootBuiltins x=some u)(h:Q u s)
  (hn:x ≠ "__name__" := by decide) (hd:(x==("__debug__":Str))=false:=by decide):wpAny (model X.prog X.w) X.A (eval (.Name x pos) X.env) Q E s:=by
 obtain⟨mb,h1,h2⟩:=I.mod.blt;exact Calls.Name_function_global I.ok.kind hg (Calls.loadGlobal_builtin (by rw[I.ok.glob];exact I.mod.glob.keeps I.bk) hm (by rw[I.ok.blt];exact h1.keeps I.bk) ((h2 x hn).trans hv) h) hd
theorem az {x:Str}{v:V}{u:Value}{pos:Pos}(hg:Gl X x)(hm:X.mg x=some u)(r:RelV v u)(hd:(x==("__debug__":Str))=false:=by decide):PE X (.Name x pos) (tC v) :=
 fun _ _ _ H _ I h=>cR I hg hm ⟨v,H,I,r,h⟩ hd
theorem bp {x:Str}{v:V}{u:Value}{pos:Pos}(hg:Gl X x)(hm:X.mg x=none)(hv:bootBuiltins x=some u)(r:RelV v u)(hn:x ≠ "__name__" := by decide)(hd:(x==("__debug__":Str))=false:=by decide):PE X (.Name x pos) (tC v) :=
 fun _ _ _ H _ I h=>gu I hg hm hv ⟨v,H,I,r,h⟩ hn hd
variable {a b:Expr}{ta tb:TE}{pos:Pos}
def PC (X:Cx)(op:CmpOp)(a b:Expr)(t:TE):Prop :=
 ∀ (pins:List (Addr×Obj)) (s:Shared) (σ:St) (H:Hp) (Q:VK),Inv X pins σ H s→t σ H Q →
  wpAny (model X.prog X.w) X.A (eval a X.env) (fun v s₁=>wpAny (model X.prog X.w) X.A (eval b X.env) (fun u s₂=>wpAny (model X.prog X.w) X.A (compareOp op v u) (EP X pins σ Q) X.xe s₂) X.xe s₁) X.xe s
theorem nobehind (b:Expr){op:CmpOp}(h:op≠.In)(h2:op≠.NotIn):behindInMarks op b=false:=by
 have e1:(op==CmpOp.In)=false:=by cases op<;>first | rfl | exact absurd rfl h
 have e2:(op==CmpOp.NotIn)=false:=by cases op<;>first | rfl | exact absurd rfl h2
 cases b<;>simp[behindInMarks,e1,e2]
def tB (t:TE):TT:=fun σ H Q=>t σ H fun x H1=>∃ c,x=.bl c∧Q c H1
theorem xO {op:CmpOp}{t:TE}(h:PC X op a b t)(h1:behindInMarks op b=false:=by first | exact nobehind _ (by decide) (by decide) | rfl):PE X (.Compare a [op] [b] pos) t:=fun pins s σ H Q I hw=>wpAny_Compare1 (h pins s σ H Q I hw) h1
theorem xP {op:CmpOp}{t:TE}(h:PC X op a b t)(h1:behindInMarks op b=false:=by first | exact nobehind _ (by decide) (by decide) | rfl):PT X (.Compare a [op] [b] pos) (tB t):=by
 intro pins s σ H Q I hw;refine wpAny_isTrue_Compare1 (thn (h pins s σ H _ I hw) fun v s1 h1=>thn h1 fun u s2 h2=>thn h2 fun c s3 ⟨x,H1,I1,r1,q1⟩=>?_) h1;obtain⟨d,rfl,q⟩:=q1;cases r1;exact wpAny_truthy_bool ⟨H1,I1,q⟩
theorem xQ {e:Expr}{t:TE}(h:PE X e t)(he:∀ whole,isTrue e X.env whole=(do let v ← whole;standAt e.pos;holding [v] (truthy v)):=by intro _;rfl):PT X e (tB t):=by
 intro pins s σ H Q I hw;refine isTrue_plain (thn (h pins s σ H _ I hw) fun v s1 ⟨x,H1,I1,r1,q1⟩=>?_) (he _);obtain⟨d,rfl,q⟩:=q1;cases r1;exact wpAny_truthy_bool ⟨H1,I1,q⟩
variable {tA tB':TT}{rest:List Expr}
def tAnd (t u:TT):TT:=fun σ H Q=>t σ H fun c H1=>if c=true then u σ H1 Q else Q false H1
def tOr (t u:TT):TT:=fun σ H Q=>t σ H fun c H1=>if c=true then Q true H1 else u σ H1 Q
def tNot (t:TT):TT:=fun σ H Q=>t σ H fun c H1=>Q (!c) H1
theorem vd (ha:PT X a tA):PW X (.BoolOp .And [a] pos) tA:=by
 intro wh pins s σ H Q I h;refine isTrue_and (thn (ha pins s σ H Q I h) fun c s1 e=>?_);cases c with
 | true=>exact isTrue_and_nil e
 | false=>exact e
theorem sr (ha:PT X a tA):PW X (.BoolOp .Or [a] pos) tA:=by
 intro wh pins s σ H Q I h;refine isTrue_or (thn (ha pins s σ H Q I h) fun c s1 e=>?_);cases c with
 | false=>exact isTrue_or_nil e
 | true=>exact e
theorem xR (ha:PT X a tA)(hb:PW X (.BoolOp .And (b::rest) pos) tB'):PW X (.BoolOp .And (a::b::rest) pos) (tAnd tA tB'):=by
 intro wh pins s σ H Q I h;refine isTrue_and (thn (ha pins s σ H _ I h) fun c s1 ⟨H1,I1,q1⟩=>?_);cases c with
 | true=>exact hb wh pins s1 σ H1 Q I1 q1
 | false=>exact⟨H1,I1,q1⟩
theorem xr (ha:PT X a tA)(hb:PW X (.BoolOp .Or (b::rest) pos) tB'):PW X (.BoolOp .Or (a::b::rest) pos) (tOr tA tB'):=by
 intro wh pins s σ H Q I h;refine isTrue_or (thn (ha pins s σ H _ I h) fun c s1 ⟨H1,I1,q1⟩=>?_);cases c with
 | true=>exact⟨H1,I1,q1⟩
 | false=>exact hb wh pins s1 σ H1 Q I1 q1
theorem xS (ha:PT X a tA):PT X (.UnaryOp .Not a pos) (tNot tA):=by
 intro pins s σ H Q I h;exact isTrue_not (ha pins s σ H (fun c H1=>Q (!c) H1) I h)
def tAndV (ta tb:TE):TE:=fun σ H Q=>ta σ H fun x H1=>∃ c,x=.bl c∧if c=true then tb σ H1 Q else Q (.bl false) H1
def tNotV (ta:TE):TE:=fun σ H Q=>ta σ H fun x H1=>∃ c,x=.bl c∧Q (.bl (!c)) H1
theorem su {op}{t:TE}(h:PE X a t):PE X (.BoolOp op [a] pos) t:=fun pins s σ H Q I hw=>BoolOp_one (h pins s σ H Q I hw)
theorem sv (ha:PE X a ta)(hb:PE X (.BoolOp .And (b::rest) pos) tb):PE X (.BoolOp .And (a::b::rest) pos) (tAndV ta tb):=by
 intro pins s σ H Q I h;refine BoolOp_and (thn (ha pins s σ H _ I h) fun v s1 ⟨x,H1,I1,r1,q1⟩=>?_);obtain⟨c,rfl,q1⟩:=q1;cases r1;refine wpAny_truthy_bool ?_;cases c with
 | true=>exact hb pins s1 σ H1 Q I1 q1
 | false=>exact⟨.bl false,H1,I1,rfl,q1⟩
theorem xT (ha:PE X a ta):PE X (.UnaryOp .Not a pos) (tNotV ta):=by
 intro pins s σ H Q I h;refine UnaryOp_ (thn (ha pins s σ H _ I h) fun v s1 ⟨x,H1,I1,r1,q1⟩=>?_);obtain⟨c,rfl,q1⟩:=q1;cases r1;exact not_of (wpAny_truthy_bool ⟨.bl (!c),H1,I1,rfl,q1⟩)
def tIf (t:TT)(ta tb:TE):TE:=fun σ H Q=>t σ H fun c H1=>if c=true then ta σ H1 Q else tb σ H1 Q
theorem sw {c:Expr}(hc:PT X c tA)(ha:PE X a ta)(hb:PE X b tb):PE X (.IfExp c a b pos) (tIf tA ta tb):=by
 intro pins s σ H Q I h;refine wpAny_IfExp (thn (hc pins s σ H _ I h) fun d s1 ⟨H1,I1,q1⟩=>?_);cases d with
 | true=>exact ha pins s1 σ H1 Q I1 q1
 | false=>exact hb pins s1 σ H1 Q I1 q1
end
end L2
namespace L2
open PySem PySem.Spec PyProof.Rows
def SqL (K:Frag)(H:Hp)(a:Addr)(xs:List V):Prop :=
 Rd H a (.lst xs) ∨
  ∃ (o:Obj) (its:Array Value) (n:Nat),K.lookup a=some o∧o.cls=.type "list" ∧ o.dict=none∧o.data=.seq its n∧its.size≤sizeLine∧Vals xs its.toList
def SqT (K:Frag)(H:Hp)(a:Addr)(xs:List V):Prop :=
 Rd H a (.tup xs) ∨
  ∃ (o:Obj) (its:Array Value) (n:Nat),K.lookup a=some o∧o.cls=.type "tuple" ∧ o.dict=none∧o.data=.seq its n∧its.size≤sizeLine∧Vals xs its.toList
def absV:Value→Option V
 | .none=>some .non
 | .bool b=>some (.bl b)
 | .int i _=>some (.int i)
 | .str x _=>some (.str x)
 | .bytes b _=>some (.byt b)
 | .float b _=>some (.flt b)
 | .ref a=>some (.ref a)
 | .type n=>some (.ty n)
 | _=>none
theorem RelV.abs {x:V}{u:Value}(r:RelV x u):absV u=some x:=by
 cases x with
 | non=>cases r;rfl
 | bl _=>cases r;rfl
 | int _=>obtain⟨t,rfl⟩:=r;rfl
 | str _=>obtain⟨t,rfl⟩:=r;rfl
 | byt _=>obtain⟨t,rfl⟩:=r;rfl
 | flt _=>obtain⟨t,rfl⟩:=r;rfl
 | ref _=>cases r;rfl
 | ty _=>cases r;rfl
theorem RelV.inj {x y:V}{u:Value}(r:RelV x u)(q:RelV y u):x=y:=Option.some.inj (r.abs.symm.trans q.abs)
theorem Vals.inj:∀ {xs ys:List V} {us:List Value},Vals xs us→Vals ys us→xs=ys
 | _,_,_,.nil,.nil=>rfl
 | _,_,_,.cons r t,.cons r' t'=>by rw[r.inj r',Vals.inj t t']
section
variable {X:Cx}{pins:List (Addr×Obj)}{σ:St}{H:Hp}{s:Shared}{a:Addr}{xs ys:List V}
theorem SqL.of {K:Frag}(h:H a=some (.lst xs)):SqL K H a xs:=.inl (.inl h)
theorem SqT.of {K:Frag}(h:H a=some (.tup xs)):SqT K H a xs:=.inl (.inl h)
theorem Inv.list (I:Inv X pins σ H s)(h:SqL X.K H a xs):∃ its:List Value,Vals xs its∧PlainL s.heap a its.toArray∧xs.length≤sizeLine:=by
 rcases h with h | ⟨o,its,n,hk,hc,hd,hs,hz,r⟩
 ·obtain⟨z,its,n,r,e⟩:=h.ok I.hok;exact⟨its,r,⟨_,n,e,rfl,rfl,rfl⟩,z⟩
 ·refine⟨its.toList,r,⟨o,n,I.kIn a o hk,hc,hd,by simpa using hs⟩,?_⟩;have e:=r.length;simp only[Array.length_toList]at e;omega
theorem Inv.tuple (I:Inv X pins σ H s)(h:SqT X.K H a xs):∃ its:List Value,Vals xs its∧IsTup s.heap a its.toArray∧xs.length≤sizeLine:=by
 rcases h with h | ⟨o,its,n,hk,hc,_,hs,hz,r⟩
 ·obtain⟨z,its,r,p⟩:=h.ok I.hok;exact⟨its,r,p.is,z⟩
 ·refine⟨its.toList,r,⟨o,I.kIn a o hk,hc,n,by simpa using hs⟩,?_⟩;have e:=r.length;simp only[Array.length_toList]at e;omega
theorem Inv.list_inj (I:Inv X pins σ H s)(h:SqL X.K H a xs)(h':SqL X.K H a ys):xs=ys:=by
 obtain⟨its,r,⟨o,n,e,_,_,d⟩,_⟩:=I.list h;obtain⟨its',r',⟨o',n',e',_,_,d'⟩,_⟩:=I.list h';rw[e]at e';cases e';rw[d]at d';injection d' with d1 _
 have:its=its':=by simpa using congrArg Array.toList d1
 subst this;exact r.inj r'
theorem Inv.tuple_inj (I:Inv X pins σ H s)(h:SqT X.K H a xs)(h':SqT X.K H a ys):xs=ys:=by
 obtain⟨its,r,⟨o,e,_,n,d⟩,_⟩:=I.tuple h;obtain⟨its',r',⟨o',e',_,n',d'⟩,_⟩:=I.tuple h';rw[e]at e';cases e';rw[d]at d';injection d' with d1 _
 have:its=its':=by simpa using congrArg Array.toList d1
 subst this;exact r.inj r'
end
section
variable {X:Cx}{pins:List (Addr×Obj)}{σ:St}{H:Hp}{s:Shared}{E:Value→Shared→Prop}
end
section
variable {X:Cx}{st:Stmt}{rest:List Stmt}{t u:TS}{e:Expr}{te:TE}{pos:Pos}
def tNext:TS:=fun D σ H=>D.nx σ H
def tSeq (t u:TS):TS:=fun D σ H=>t { D with nx:=u D } σ H
theorem pD:PSs X [] tNext:=fun _ _ σ H _ I h=>wpAny_execs_nil ⟨σ,H,I,h⟩
theorem bc (h1:PS X st t)(h2:PSs X rest u):PSs X (st::rest) (tSeq t u):=by
 intro pins s σ H D I h;refine wpAny_execs_cons (thn (h1 pins s σ H { D with nx:=u D } I h) fun f s1 q=>?_);cases f with
 | next =>
  obtain⟨σ',H',I',q⟩:=q;exact h2 pins s1 σ' H' D I' q
 | ret v=>exact q
 | brk=>exact q
 | cont=>exact q
theorem jh (h1:PS X st t):PSs X [st] t:=by
 intro pins s σ H D I h;refine wpAny_execs_cons (thn (h1 pins s σ H D I h) fun f s1 q=>?_);cases f with
 | next=>exact wpAny_execs_nil q
 | ret v=>exact q
 | brk=>exact q
 | cont=>exact q
theorem Inv.quiet {pins:List (Addr×Obj)}{σ:St}{H:Hp}{s:Shared}(I:Inv X pins σ H s):interactive X.env=false:=by simp[interactive,I.ok.kind]
def tDrop (te:TE):TS:=fun D σ H=>te σ H fun _ H1=>D.nx σ H1
theorem gJ (he:PE X e te)(hs:swapsWith e none pos.line X.env=pure false:=by rfl):PS X (.Expr e pos) (tDrop te):=by
 intro pins s σ H D I h;exact wpAny_Expr_any (thn (he pins s σ H _ I h) fun v s1 ⟨x,H1,I1,r1,q1⟩=>⟨σ,H1,I1,q1⟩) I.quiet hs
def tRet (te:TE):TS:=fun D σ H=>te σ H D.rt
theorem nO (he:PE X e te):PS X (.Return (some e) pos) (tRet te):=by
 intro pins s σ H D I h;exact wpAny_Return_some (thn (he pins s σ H _ I h) fun v s1 ⟨x,H1,I1,r1,q1⟩=>⟨x,σ,H1,I1,r1,q1⟩)
def tIfS (c:TT)(t u:TS):TS:=fun D σ H=>c σ H fun b H1=>if b=true then t D σ H1 else u D σ H1
theorem xt {c:Expr}{a b:List Stmt}{tc:TT}(hc:PT X c tc)(ha:PSs X a t)(hb:PSs X b u):PS X (.If c a b pos) (tIfS tc t u):=by
 intro pins s σ H D I h;refine wpAny_If (thn (hc pins s σ H _ I h) fun d s1 ⟨H1,I1,q1⟩=>?_);cases d with
 | true=>exact ha pins s1 σ H1 D I1 q1
 | false=>exact hb pins s1 σ H1 D I1 q1
def tNever:TS:=fun _ _ _=>False
theorem fI {sts:List Stmt}:PSs X sts tNever:=fun _ _ _ _ _ _ h=>h.elim
end
abbrev TG:=V→St→Hp→(St→Hp→Prop)→Prop
def PG (X:Cx)(target:Expr)(t:TG):Prop :=
 ∀ (pins:List (Addr×Obj)) (s:Shared) (σ:St) (H:Hp) (v:V) (u:Value) (Q:St→Hp→Prop),Inv X pins σ H s→RelV v u→t v σ H Q →
  wpAny (model X.prog X.w) X.A (assign target X.env u) (fun _ s'=>∃ σ' H',Inv X pins σ' H' s'∧Q σ' H') X.xe s
section
variable {X:Cx}{pos:Pos}
def gName (i:Nat):TG:=fun v σ H Q=>Q (σ.set i (some v)) H
theorem ve {i:Nat}{x:Str}(hN:X.N.Nodup)(hi:X.N[i]?=some x)(hx:Loc X.env.scope x)(hf:X.fn x=true∨X.env.scope.names.lookup x=some .local:=by first | exact .inl rfl | exact .inr rfl | assumption):PG X (.Name x pos) (gName i):=by
 intro pins s σ H v u Q I r h;exact wpAny_assign_Name (gI I hN hi hx r (fun s' I'=>⟨_,H,I',h⟩) hf)
def tAsg (te:TE)(g:TG):TS:=fun D σ H=>te σ H fun x H1=>g x σ H1 D.nx
theorem jt {i:Nat}{x:Str}{e:Expr}{te:TE}{pos':Pos}(hN:X.N.Nodup)(hi:X.N[i]?=some x)(hx:Loc X.env.scope x)(he:PE X e te)(hs:swapsWith e (some (.Name x pos')) pos.line X.env=pure false:=by rfl)(hf:X.fn x=true∨X.env.scope.names.lookup x=some .local:=by first | exact .inl rfl | exact .inr rfl | assumption) :
  PS X (.Assign [.Name x pos'] e pos) (tAsg te (gName i)):=by
 intro pins s σ H D I h;refine wpAny_Assign_Name (thn (he pins s σ H _ I h) fun v s1 ⟨y,H1,I1,r1,q1⟩=>?_) hs;exact gI I1 hN hi hx r1 (fun s2 I2=>⟨_,H1,I2,q1⟩) hf
end
section
variable {X:Cx}{pos:Pos}
end
structure It where
 go:Nat→Hp→Prop
 yld:Nat→Hp→V→Hp→Prop
 stop:Nat→Hp→Prop
def FpOk (X:Cx)(pins:List (Addr×Obj))(H:Hp)(b:Addr):Prop :=
 H b=none∧b≠X.env.locals∧b∉X.fs∧(b∈X.ex∨X.s₀.heap.objs.size≤b)∧(∀ x c,X.env.cells.lookup x=some c→c≠b)∧∀ p∈X.pn++pins,p.1≠b
theorem Inv.fpOk {X:Cx}{pins:List (Addr×Obj)}{σ:St}{H H':Hp}{s:Shared}{b:Addr}(I:Inv X pins σ H s)(hb:s.heap.objs.size≤b)(hn:H' b=none):FpOk X pins H' b:=by
 refine⟨hn,Nat.ne_of_gt (Nat.lt_of_lt_of_le I.lt hb),I.nofs hb,.inr (Nat.le_trans I.sz hb),fun x c e z=>?_,fun p hp z=>?_⟩
 ·obtain⟨v,q⟩:=I.cell x c e;exact absurd (Nat.lt_of_lt_of_le q.lt (by rw[z];exact hb)) (Nat.lt_irrefl _)
 ·exact absurd (Nat.lt_of_lt_of_le (Heap.lt_size (I.pin p hp).1) (by rw[z];exact hb)) (Nat.lt_irrefl _)
structure Turn (P:Program)(w:World)(K:Frag)(tg:Expr)(J:It)(fp:List Addr)(it:Addr)(tn:Nat→Heap→Prop):Prop where
 mem:it∈fp
 obj:∀ i h,tn i h→∀ b∈fp,∃ o,h.get? b=some o∧∀ v,o.data≠.cell v
 keep:∀ i h h',tn i h→(∀ b∈fp,∀ o,h.get? b=some o→h'.get? b=some o)→tn i h'
 item:∀ (X:Cx),X.prog=P→X.w=w→X.K=K→X.calm=true→∀ (i:Nat) (pins:List (Addr×Obj)) (s:Shared) (σ:St) (H:Hp) (E:Value→Shared→Prop),Inv X pins σ H s→(∀ b∈fp,FpOk X pins H b)→tn i s.heap→J.go i H →
  wpAny (model P w) X.A (pyNext (.ref it)) (fun r s1=>∃ u,r=some u ∧
   wpAny (model P w) X.A (letOwnedTupleGo tg (.ref it) u) (fun _ s2=>∃ x H',Inv X pins σ H' s2∧RelV x u∧J.yld i H x H'∧tn (i+1) s2.heap∧∀ b∈fp,H' b=none) E s1) E s
 done:∀ (X:Cx),X.prog=P→X.w=w→X.K=K→X.calm=true→∀ (i:Nat) (pins:List (Addr×Obj)) (s:Shared) (σ:St) (H:Hp) (E:Value→Shared→Prop),Inv X pins σ H s→(∀ b∈fp,FpOk X pins H b)→tn i s.heap→J.stop i H →
  wpAny (model P w) X.A (pyNext (.ref it)) (fun r s1=>r=none∧Inv X pins σ H s1) E s
 self:∀ (A:Around) (i:Nat) (s:Shared) (Q:Value→Shared→Prop) (E:Value→Shared→Prop),tn i s.heap→Q (.ref it) s→wpAny (model P w) A (pyIter (.ref it)) Q E s
abbrev TI:=St→Hp→(It→Hp→Prop)→Prop
def PIE (X:Cx)(pins:List (Addr×Obj))(σ:St)(tg:Expr)(R:It→Hp→Prop)(itv:Value)(s2:Shared):Prop :=
 ∃ (it:Addr) (fp:List Addr) (tn:Nat→Heap→Prop) (J:It) (H':Hp),itv=.ref it∧Inv X pins σ H' s2∧Turn X.prog X.w X.K tg J fp it tn∧tn 0 s2.heap∧(∀ b∈fp,FpOk X pins H' b)∧R J H'
def PI (X:Cx)(tg iter:Expr)(wi:TI):Prop :=
 ∀ (pins:List (Addr×Obj)) (s:Shared) (σ:St) (H:Hp) (R:It→Hp→Prop),Inv X pins σ H s→wi σ H R →
  wpAny (model X.prog X.w) X.A (eval iter X.env) (fun v s1=>wpAny (model X.prog X.w) X.A (pyIter v) (PIE X pins σ tg R) X.xe s1) X.xe s
theorem mM {M:Model}{A:Around}{E:Value→Shared→Prop}{s:Shared}{tg:Expr}{it:Addr}{u:Value}{o:Obj}{n:String}{vs:Array Value}{Q:Unit→Shared→Prop}(ho:s.heap.get? it=some o)(hc:o.cls=.type n)(hd:o.data=.fields vs)
  (hn:["enumerate","zip","dict_itemiterator","dict_reverseitemiterator","odict_iterator","itertools.zip_longest","itertools.pairwise"].contains n=false) (hQ:Q () s):wpAny M A (letOwnedTupleGo tg (.ref it) u) Q E s:=by
 unfold letOwnedTupleGo;cases tg<;>first
  | exact wpAny_pure hQ
  | (cases u<;>first
    | exact wpAny_pure hQ
    | (refine wpAny_bind (wpAny_load ho ?_)
       rw[hc,hd];show wpAny M A (if (["enumerate","zip","dict_itemiterator","dict_reverseitemiterator","odict_iterator","itertools.zip_longest","itertools.pairwise"].contains n&&vs[0]?==some (rawInt _))=true then _ else _) Q E s;rw[if_neg (by intro h;rw[hn,Bool.false_and]at h;cases h)];exact wpAny_pure hQ))
def Itl (K:Frag)(a:Addr):It :=
 ⟨fun i H=>∃ xs x,SqL K H a xs∧xs[i]?=some x,fun i H x H'=>H'=H∧∀ xs,SqL K H a xs→xs[i]?=some x,fun i H=>∃ xs,SqL K H a xs∧xs.length≤i⟩
def Itt (K:Frag)(a:Addr):It :=
 ⟨fun i H=>∃ xs x,SqT K H a xs∧xs[i]?=some x,fun i H x H'=>H'=H∧∀ xs,SqT K H a xs→xs[i]?=some x,fun i H=>∃ xs,SqT K H a xs∧xs.length≤i⟩
def Itr (lo:Int)(n:Nat):It:=⟨fun i _=>i < n,fun i H x H'=>H'=H∧x=.int (lo+i),fun i _=>n≤i⟩
theorem qE {P:Program}{w:World}{K:Frag}{tg:Expr}(a it:Addr):Turn P w K tg (Itl K a) [it] it (fun i h=>h.IsListIter it a i) where
 mem:=by simp
 obj:=fun i h st b hb=>by
  have e:b=it:=by simpa using hb
  subst e;obtain⟨o,e,c,d⟩:=st;exact⟨o,e,fun v z=>by rw[d]at z;cases z⟩
 keep:=fun i h h' st k=>st.at fun o e=>k it (by simp) o e
 item:=by
  intro X hP hw hK hc i pins s σ H E I hf st hg;subst hP hw hK;obtain⟨xs,x,hq,hx⟩:=hg;obtain⟨its,rv,p,hz⟩:=I.list hq;obtain⟨u,hu,ru⟩:=rv.get hx;obtain⟨f0,f1,f2,f3,f4,f5⟩:=hf it (by simp);refine wpAny_pyNext_list_item st p.isList (x:=u) (by simpa using hu) fun h' st' sb=>?_
  have I1:Inv X pins σ H { s with heap:=h' }:=I.turned (t':=s.toks) (fun b o hb e=>(sb.2 b hb).trans e) f0 f1 f3 f4 f5;obtain⟨o,e,c,d⟩:=id st';exact⟨u,rfl,mM (s:={ s with heap:=h' }) e c d (by decide) ⟨x,H,I1,ru,⟨rfl,fun ys hy=>by rw[I.list_inj hy hq];exact hx⟩,st',fun b hb=>(hf b hb).1⟩⟩
 done:=by
  intro X hP hw hK hc i pins s σ H E I hf st hg;subst hP hw hK;obtain⟨xs,hq,hx⟩:=hg;obtain⟨its,rv,p,hz⟩:=I.list hq;obtain⟨f0,f1,f2,f3,f4,f5⟩:=hf it (by simp);have hl:=rv.length;exact wpAny_pyNext_list_end (I.ok.hd hc) st p.isList (by simp;omega) fun h' eb=>⟨rfl,I.turned (t':=s.toks) (fun b o hb e=>eb b o hb e) f0 f1 f3 f4 f5⟩
 self:=fun _ _ _ _ _ st h=>wpAny_pyIter_listiter st h
theorem nQ {P:Program}{w:World}{K:Frag}{tg:Expr}(a it:Addr):Turn P w K tg (Itt K a) [it] it (fun i h=>h.IsTupleIter it a i) where
 mem:=by simp
 obj:=fun i h st b hb=>by
  have e:b=it:=by simpa using hb
  subst e;obtain⟨o,e,c,d⟩:=st;exact⟨o,e,fun v z=>by rw[d]at z;cases z⟩
 keep:=fun i h h' st k=>st.at fun o e=>k it (by simp) o e
 item:=by
  intro X hP hw hK hc i pins s σ H E I hf st hg;subst hP hw hK;obtain⟨xs,x,hq,hx⟩:=hg;obtain⟨its,rv,p,hz⟩:=I.tuple hq;obtain⟨u,hu,ru⟩:=rv.get hx;obtain⟨f0,f1,f2,f3,f4,f5⟩:=hf it (by simp);refine wpAny_pyNext_tuple_item st (show s.heap.IsTuple a its.toArray from p) (x:=u) (by simpa using hu) fun h' st' sb=>?_
  have I1:Inv X pins σ H { s with heap:=h' }:=I.turned (t':=s.toks) (fun b o hb e=>(sb.2 b hb).trans e) f0 f1 f3 f4 f5;obtain⟨o,e,c,d⟩:=id st';exact⟨u,rfl,mM (s:={ s with heap:=h' }) e c d (by decide) ⟨x,H,I1,ru,⟨rfl,fun ys hy=>by rw[I.tuple_inj hy hq];exact hx⟩,st',fun b hb=>(hf b hb).1⟩⟩
 done:=by
  intro X hP hw hK hc i pins s σ H E I hf st hg;subst hP hw hK;obtain⟨xs,hq,hx⟩:=hg;obtain⟨its,rv,p,hz⟩:=I.tuple hq;obtain⟨f0,f1,f2,f3,f4,f5⟩:=hf it (by simp);have hl:=rv.length;exact wpAny_pyNext_tuple_end (I.ok.hd hc) st (show s.heap.IsTuple a its.toArray from p) (by simp;omega) fun h' eb=>⟨rfl,I.turned (t':=s.toks) (fun b o hb e=>eb b o hb e) f0 f1 f3 f4 f5⟩
 self:=fun _ _ _ _ _ st h=>wpAny_pyIter_tupleiter st h
theorem nT {P:Program}{w:World}{K:Frag}{tg:Expr}(it:Addr)(lo:Int)(n:Nat):Turn P w K tg (Itr lo n) [it] it (fun i h=>IsRangeIter h it (lo+(i:Nat)*1) ((n:Int) - (i:Nat)) 1) where
 mem:=by simp
 obj:=fun i h st b hb=>by
  have e:b=it:=by simpa using hb
  subst e;exact⟨_,st,fun v z=>by
   have z':Data.fields _=Data.cell v:=z;cases z'⟩
 keep:=fun i h h' st k=>k it (by simp) _ st
 item:=by
  intro X hP hw hK hc i pins s σ H E I hf st hg;subst hP hw hK;obtain⟨f0,f1,f2,f3,f4,f5⟩:=hf it (by simp);have W:=Walks.range (prog:=X.prog) (w:=X.w) (I.ok.hd hc) it lo 1 n;refine W.item i s _ _ hg st fun v h' tk hv st' kk=>?_
  obtain⟨t,rfl⟩:=hv;have I1:Inv X pins σ H { s with heap:=h',toks:=tk }:=I.turned (fun b o hb e=>kk b o (by simpa using hb) e) f0 f1 f3 f4 f5;refine⟨_,rfl,mM (s:={ s with heap:=h',toks:=tk }) (n := "range_iterator") st' rfl rfl (by decide) ⟨.int (lo+i),H,I1,⟨t,?_⟩,⟨rfl,rfl⟩,st',fun b hb=>(hf b hb).1⟩⟩;rw[Int.mul_one]
 done:=by
  intro X hP hw hK hc i pins s σ H E I hf st hg;subst hP hw hK;obtain⟨f0,f1,f2,f3,f4,f5⟩:=hf it (by simp);exact wpAny_pyNext_range_end (I.ok.hd hc) st (by have:n≤i:=hg;omega) fun h' eb=>⟨rfl,I.turned (t':=s.toks) (fun b o hb e=>eb b o hb e) f0 f1 f3 f4 f5⟩
 self:=fun _ _ _ _ _ st h=>wpAny_pyIter_rangeiter st h
end L2
namespace L2
open PySem PySem.Spec PyProof.Rows
section
variable {X:Cx}{tg:Expr}
theorem sx {pins:List (Addr×Obj)}{σ:St}{H:Hp}{s:Shared}{R:It→Hp→Prop}{E:Value→Shared→Prop}{lo hi:Int}{t u v:Tok}{tk:Nat}(I:Inv X pins σ H s)(h1 : -(2^62)≤lo)(h2:lo < 2^62)(h3 : -(2^62)≤hi)(h4:hi < 2^62)
  (q:R (Itr lo (hi - lo).toNat) H):wpAny (model X.prog X.w) X.A (pyIter (.ref s.heap.objs.size)) (PIE X pins σ tg R) E { s with heap:=s.heap.push { cls:=.type "range",data:=.fields #[.int lo t,.int hi u,.int 1 v] },toks:=tk }:=by
 refine wpAny_pyIter_range (IsRange.new ..) (small_one h1 h2 h3 h4) ?_;have I1:Inv X pins σ H { s with heap:=s.heap.push { cls:=.type "range",data:=.fields #[.int lo t,.int hi u,.int 1 v] },toks:=tk }:=I.kept fun b o e=>Heap.get?_push_of_some _ e
 refine⟨(s.heap.push { cls:=.type "range",data:=.fields #[.int lo t,.int hi u,.int 1 v] }).objs.size,[(s.heap.push { cls:=.type "range",data:=.fields #[.int lo t,.int hi u,.int 1 v] }).objs.size],_,_,H,rfl,
  I1.kept (t':=tk) fun b o e=>Heap.get?_push_of_some _ e,nT _ lo (hi - lo).toNat,?_,fun b hb=>?_,q⟩
 ·have e1:lo+((0:Nat):Int)*1=lo:=by simp
  have e2:(((hi - lo).toNat:Nat):Int) - ((0:Nat):Int)=Builtin.Range.rangeSize lo hi 1:=by rw[rangeSize_one];split<;>omega
  show IsRangeIter _ _ (lo+((0:Nat):Int)*1) ((((hi - lo).toNat:Nat):Int) - ((0:Nat):Int)) 1;rw[e1,e2];exact Heap.get?_push_size _ rfl
 ·have e:b=(s.heap.push { cls:=.type "range",data:=.fields #[.int lo t,.int hi u,.int 1 v] }).objs.size:=by simpa using hb
  subst e;exact I1.fpOk (Nat.le_refl _) (I1.hok.fresh (Nat.le_refl _))
def iRng1 (ta:TA):TI:=fun σ H R=>ta σ H fun vs H1=>∃ j:Int,vs=[.int j]∧-(2^62)≤j∧j < 2^62∧R (Itr 0 j.toNat) H1
theorem qF {a:Expr}{ta:TA}{p pos:Pos}(hg:Gl X "range")(hm:X.mg "range"=none)(ha:PA X [a] ta)(hs:starEach [a] X.env=[(false,eval a X.env)]:=by rfl):PI X tg (.Call (.Name "range" p) [a] [] pos) (iRng1 ta):=by
 intro pins s σ H R I h;refine Call_ (gu I hg hm boot_range (PyProof.Rows.callWith_type1 (thn (ha pos pins s σ H _ I h) fun us s1 ⟨vs,H1,I1,r1,q1⟩=>?_) hs rfl));obtain⟨j,e,q1,q2,q⟩:=q1;subst e;cases r1 with
 | cons r rr =>
  cases rr;obtain⟨t,rfl⟩:=r;exact call_range_1 (sx I1 (by omega) (by omega) q1 q2 (by simpa using q))
def tFor (wi:TI)(g:TG)(tb:TS):TS:=fun D σ H=>wi σ H fun J H1=>∃ W:Nat→Nat→St→Hp→Prop,(∃ m,W 0 m σ H1)∧∀ i m σ H,W i m σ H →
 (J.stop i H∧D.nx σ H)∨(J.go i H∧∃ N:St→Hp→Prop,(∀ σ' H',N σ' H'→∃ m',m' < m∧W (i+1) m' σ' H')∧∀ x H',J.yld i H x H'→g x σ H' fun σ2 H2=>tb { D with nx:=N,ct:=N,bk:=D.nx } σ2 H2)
def pinsAt (fp:List Addr)(h:Heap):List (Addr×Obj):=fp.filterMap fun b=>(h.get? b).map fun o=>(b,o)
theorem dU {fp:List Addr}{h:Heap}{b:Addr}{o:Obj}(hb:b∈fp)(e:h.get? b=some o):(b,o)∈pinsAt fp h:=List.mem_filterMap.mpr ⟨b,hb,by rw[e];rfl⟩
theorem qG {fp:List Addr}{h:Heap}{p:Addr×Obj}(hp:p∈pinsAt fp h):p.1∈fp∧h.get? p.1=some p.2:=by
 obtain⟨b,hb,e⟩:=List.mem_filterMap.mp hp;cases q:h.get? b with
 | none=>rw[q]at e;cases e
 | some o =>
  rw[q]at e;have e':(b,o)=p:=Option.some.inj e;subst e';exact⟨hb,q⟩
theorem Inv.pinned {pins:List (Addr×Obj)}{σ:St}{H:Hp}{s:Shared}{fp:List Addr}(I:Inv X pins σ H s)(hf:∀ b∈fp,FpOk X pins H b)(ho:∀ b∈fp,∃ o,s.heap.get? b=some o∧∀ v,o.data≠.cell v):Inv X (pins++pinsAt fp s.heap) σ H s :=
 I.pins_of fun p hp=>(List.mem_append.mp hp).elim (fun z=>I.pin p (List.mem_append_right _ z)) fun z=>by
  obtain⟨hb,e⟩:=qG z;obtain⟨f0,f1,f2,_⟩:=hf p.1 hb;obtain⟨o,e',d⟩:=ho p.1 hb;rw[e]at e';cases e';exact⟨e,f0,f1,f2,d⟩
theorem Inv.unpinned {pins pl:List (Addr×Obj)}{σ:St}{H:Hp}{s:Shared}(I:Inv X (pins++pl) σ H s):Inv X pins σ H s:=I.pins_of fun p hp=>I.pin p (List.mem_append_right _ (List.mem_append_left _ hp))
theorem sy {iter:Expr}{body:List Stmt}{wi:TI}{g:TG}{tb:TS}{pos:Pos}(hp:PassesOwn (model X.prog X.w) X.A X.env X.xe)(hc:X.calm=true)(hi:PI X tg iter wi)(hg:PG X tg g)(hb:PSs X body tb)
  (hs:∀ x,foldedSetIterable iter X.env x=pure x:=by intro _;rfl):PS X (.For tg iter body [] pos) (tFor wi g tb):=by
 intro pins s σ H D I h;refine wpAny_For (thn (hi pins s σ H _ I h) fun v s1 h1=>thn h1 fun itv s2 h2=>?_) hs;obtain⟨it,fp,tn,J,H2,e,I2,T,st2,f2,W,⟨m0,w0⟩,turn⟩:=h2;subst e;have stat:∀ {H':Hp},(∀ b∈fp,H' b=none)→∀ b∈fp,FpOk X pins H' b:=fun hn b hb=>⟨hn b hb,(f2 b hb).2⟩
 refine codeAny_forLoop_any (fun n s'=>∃ i σ' H',Inv X pins σ' H' s'∧tn i s'.heap∧(∀ b∈fp,H' b=none)∧W i n σ' H') ?_ m0 ⟨0,σ,H2,I2,st2,fun b hb=>(f2 b hb).1,w0⟩
 rintro n s3 ⟨i,σ3,H3,I3,st3,fr3,w3⟩
 rcases turn i n σ3 H3 w3 with ⟨stop,qn⟩ | ⟨go,N,hN,step⟩
 ·refine wpAny_passesOwn hp (thn (T.done X rfl rfl rfl hc i pins s3 σ3 H3 X.xe I3 (stat fr3) st3 stop) fun r s4 ⟨hr,I4⟩=>?_);subst hr;exact wpAny_execs_nil ⟨σ3,H3,I4,qn⟩
 ·refine wpAny_passesOwn hp (thn (T.item X rfl rfl rfl hc i pins s3 σ3 H3 X.xe I3 (stat fr3) st3 go) fun r s4 ⟨u,hr,h4⟩=>?_);subst hr;refine wpAny_passesOwn hp (thn h4 fun _ s5 ⟨x,H5,I5,r5,y5,st5,fr5⟩=>?_);have I5':=I5.pinned (stat fr5) (T.obj _ _ st5);refine wpAny_passesOwn hp (thn (hg _ s5 σ3 H5 x u _ I5' r5 (step x H5 y5)) fun _ s6 ⟨σ6,H6,I6,q6⟩=>?_);refine wpAny_passesOwn hp (thn (hb _ s6 σ6 H6 _ I6 q6) fun f s7 q7=>?_);have again:∀ {σ7:St} {H7:Hp},Inv X (pins++pinsAt fp s5.heap) σ7 H7 s7→N σ7 H7→∃ m,m < n∧∃ i σ' H',Inv X pins σ' H' s7∧tn i s7.heap∧(∀ b∈fp,H' b=none)∧W i m σ' H':=fun {σ7 H7} I7 n7=>by
   obtain⟨m',hm,w7⟩:=hN σ7 H7 n7;refine⟨m',hm,i+1,σ7,H7,I7.unpinned,T.keep _ _ _ st5 fun b hb o e=>(I7.pin (b,o) (List.mem_append_right _ (List.mem_append_right _ (dU hb e)))).1,fun b hb=>?_,w7⟩;obtain⟨o,e,d⟩:=T.obj _ _ st5 b hb;exact(I7.pin (b,o) (List.mem_append_right _ (List.mem_append_right _ (dU hb e)))).2.1
  cases f with
  | next=>obtain⟨σ7,H7,I7,n7⟩:=q7;exact again I7 n7
  | cont=>obtain⟨σ7,H7,I7,n7⟩:=q7;exact again I7 n7
  | brk=>obtain⟨σ7,H7,I7,q7⟩:=q7;exact⟨σ7,H7,I7.unpinned,q7⟩
  | ret v=>obtain⟨x7,σ7,H7,I7,r7,q7⟩:=q7;exact⟨x7,σ7,H7,I7.unpinned,r7,q7⟩
end
end L2
namespace L2
open PySem PySem.Spec PyProof.Rows
abbrev R2:=V→V→Hp→VK→Prop
def OpR (X:Cx)(f:Value→Value→Sem Value)(r:R2):Prop :=
 ∀ (pins:List (Addr×Obj)) (s:Shared) (σ:St) (H:Hp) (x y:V) (v u:Value) (Q:VK),Inv X pins σ H s→RelV x v→RelV y u→r x y H Q →
  wpAny (model X.prog X.w) X.A (f v u) (EP X pins σ Q) X.xe s
def UnR (X:Cx)(f:Value→Sem Value)(r:V→Hp→VK→Prop):Prop :=
 ∀ (pins:List (Addr×Obj)) (s:Shared) (σ:St) (H:Hp) (x:V) (v:Value) (Q:VK),Inv X pins σ H s→RelV x v→r x H Q →
  wpAny (model X.prog X.w) X.A (f v) (EP X pins σ Q) X.xe s
def CallR (X:Cx)(f:Value)(r:List V→Hp→VK→Prop):Prop :=
 ∀ (pins:List (Addr×Obj)) (s:Shared) (σ:St) (H:Hp) (xs:List V) (us:List Value) (Q:VK),Inv X pins σ H s→Vals xs us→r xs H Q →
  wpAny (model X.prog X.w) X.A (call f us) (EP X pins σ Q) X.xe s
def TruR (X:Cx)(r:V→Hp→(Bool→Hp→Prop)→Prop):Prop :=
 ∀ (pins:List (Addr×Obj)) (s:Shared) (σ:St) (H:Hp) (x:V) (v:Value) (Q:Bool→Hp→Prop),Inv X pins σ H s→RelV x v→r x H Q →
  wpAny (model X.prog X.w) X.A (truthy v) (TP X pins σ Q) X.xe s
def tOp (r:R2)(ta tb:TE):TE:=fun σ H Q=>ta σ H fun x H1=>tb σ H1 fun y H2=>r x y H2 Q
def tUn (r:V→Hp→VK→Prop)(ta:TE):TE:=fun σ H Q=>ta σ H fun x H1=>r x H1 Q
def rI (C:Int→Int→Prop)(g:Int→Int→V):R2:=fun x y H Q=>∃ i j,x=.int i∧y=.int j∧C i j∧Q (g i j) H
def rI0 (g:Int→Int→V):R2:=fun x y H Q=>∃ i j,x=.int i∧y=.int j∧Q (g i j) H
def rU (g:Int→V):V→Hp→VK→Prop:=fun x H Q=>∃ i,x=.int i∧Q (g i) H
section
variable {X:Cx}{a b c:Expr}{ta tb tc:TE}{pos:Pos}
theorem binT (ha:PE X a ta)(hb:PE X b tb){pins:List (Addr×Obj)}{s:Shared}{σ:St}{H:Hp}{R:V→V→Hp→Prop}(I:Inv X pins σ H s)
  (h:ta σ H fun x H1=>tb σ H1 fun y H2=>R x y H2) {Q:Value→Shared→Prop} {f:Value→Value→Sem Value}
  (hf:∀ v u s2 x y H2,Inv X pins σ H2 s2→RelV x v→RelV y u→R x y H2→wpAny (model X.prog X.w) X.A (f v u) Q X.xe s2) :
  wpAny (model X.prog X.w) X.A (eval a X.env) (fun v s₁=>wpAny (model X.prog X.w) X.A (eval b X.env) (fun u s₂=>wpAny (model X.prog X.w) X.A (f v u) Q X.xe s₂) X.xe s₁) X.xe s:=by
 refine thn (ha pins s σ H _ I h) fun v s1 ⟨x,H1,I1,r1,q1⟩=>?_
 refine thn (hb pins s1 σ H1 _ I1 q1) fun u s2 ⟨y,H2,I2,r2,q2⟩=>?_
 exact hf v u s2 x y H2 I2 r1 r2 q2
theorem zc {op:Operator}{r:R2}(ho:OpR X (binaryOp op) r)(ha:PE X a ta)(hb:PE X b tb):PE X (.BinOp a op b pos) (tOp r ta tb):=by
 intro pins s σ H Q I h;exact wpAny_BinOp (binT ha hb I h fun v u s2 x y H2 I2 rx ry q=>ho pins s2 σ H2 x y v u Q I2 rx ry q)
theorem zd {op:UnaryOp}{r:V→Hp→VK→Prop}(ho:UnR X (unaryOp op) r)(ha:PE X a ta):PE X (.UnaryOp op a pos) (tUn r ta):=by
 intro pins s σ H Q I h;exact UnaryOp_ (thn (ha pins s σ H _ I h) fun v s1 ⟨x,H1,I1,r1,q1⟩=>ho pins s1 σ H1 x v Q I1 r1 q1)
theorem opI {f:Value→Value→Sem Value}{C:Int→Int→Prop}{g:Int→Int→Int}
  (rule:∀ (i j:Int) (t u:Tok) (s:Shared) (Q:Value→Shared→Prop) (E:Value→Shared→Prop),C i j→Q (.int (g i j) s.toks) { s with toks:=s.toks+1 }→wpAny (model X.prog X.w) X.A (f (.int i t) (.int j u)) Q E s) :
  OpR X f (rI C fun i j=>.int (g i j)):=by
 intro pins s σ H x y v u Q I rx ry h;obtain⟨i,j,rfl,rfl,hc,q⟩:=h;obtain⟨t,rfl⟩:=rx;obtain⟨t',rfl⟩:=ry;exact rule i j t t' s _ _ hc ⟨.int (g i j),H,I.tok _,⟨_,rfl⟩,q⟩
theorem opI0 {f:Value→Value→Sem Value}{g:Int→Int→Int}
  (rule:∀ (i j:Int) (t u:Tok) (s:Shared) (Q:Value→Shared→Prop) (E:Value→Shared→Prop),Q (.int (g i j) s.toks) { s with toks:=s.toks+1 }→wpAny (model X.prog X.w) X.A (f (.int i t) (.int j u)) Q E s) :
  OpR X f (rI0 fun i j=>.int (g i j)):=by
 intro pins s σ H x y v u Q I rx ry h;obtain⟨i,j,rfl,rfl,q⟩:=h;obtain⟨t,rfl⟩:=rx;obtain⟨t',rfl⟩:=ry;exact rule i j t t' s _ _ ⟨.int (g i j),H,I.tok _,⟨_,rfl⟩,q⟩
theorem opB0 {f:Value→Value→Sem Value}{g:Int→Int→Bool}
  (rule:∀ (i j:Int) (t u:Tok) (s:Shared) (Q:Value→Shared→Prop) (E:Value→Shared→Prop),Q (.bool (g i j)) s→wpAny (model X.prog X.w) X.A (f (.int i t) (.int j u)) Q E s) :
  OpR X f (rI0 fun i j=>.bl (g i j)):=by
 intro pins s σ H x y v u Q I rx ry h;obtain⟨i,j,rfl,rfl,q⟩:=h;obtain⟨t,rfl⟩:=rx;obtain⟨t',rfl⟩:=ry;exact rule i j t t' s _ _ ⟨.bl (g i j),H,I,rfl,q⟩
def CDiv (i j:Int):Prop:=0 < j∧j < 1073741824
def CMul (i j:Int):Prop:=(-(2^64) < i∧i < 2^64)∨(-(2^64) < j∧j < 2^64)
theorem CMul.ok {i j:Int}(h:CMul i j):IntMulOk i j:=by
 rcases h with ⟨h1,h2⟩ | ⟨h1,h2⟩
 ·exact .of_left (intBits_le_64 h1 h2)
 ·exact .of_right (intBits_le_64 h1 h2)
theorem xU:OpR X (binaryOp .Add) (rI0 fun i j=>.int (i+j)):=opI0 fun _ _ _ _ _ _ _ q=>add_int q
theorem xV:OpR X (binaryOp .Sub) (rI0 fun i j=>.int (i - j)):=opI0 fun _ _ _ _ _ _ _ q=>sub_int q
theorem xW:OpR X (binaryOp .Mult) (rI CMul fun i j=>.int (i*j)):=opI fun _ _ _ _ _ _ _ hc q=>mul_int q hc.ok
theorem vf:OpR X (binaryOp .FloorDiv) (rI CDiv fun i j=>.int (i/j)):=opI fun i j _ _ _ _ _ hc q=>by
 have h1:(0:Int) < j:=hc.1;have h2:j < 1073741824:=hc.2;exact floordiv_int (by omega) (by rw[Int.fdiv_eq_ediv_of_nonneg i (by omega)];exact q) (.inl (PyProof.noPylong_small (by omega)))
theorem xX:OpR X (binaryOp .Mod) (rI (fun _ j=>0 < j) fun i j=>.int (i%j)):=opI fun i j _ _ _ _ _ hc q=>by
 have h1:(0:Int) < j:=hc;exact mod_int' (by omega) (by rw[Int.fmod_eq_emod_of_nonneg i (by omega)];exact q)
theorem unI {f:Value→Sem Value}{g:Int→Int}
  (rule:∀ (i:Int) (t:Tok) (s:Shared) (Q:Value→Shared→Prop) (E:Value→Shared→Prop),Q (.int (g i) s.toks) { s with toks:=s.toks+1 }→wpAny (model X.prog X.w) X.A (f (.int i t)) Q E s) :
  UnR X f (rU fun i=>.int (g i)):=by
 intro pins s σ H x v Q I rx h;obtain⟨i,rfl,q⟩:=h;obtain⟨t,rfl⟩:=rx;exact rule i t s _ _ ⟨.int (g i),H,I.tok _,⟨_,rfl⟩,q⟩
theorem xY:UnR X (unaryOp .USub) (rU fun i=>.int (-i)):=unI fun _ _ _ _ _ q=>neg_int q
end
section
variable {X:Cx}{a b c:Expr}{ta tb tc:TE}{pos:Pos}
theorem xZ {pins:List (Addr×Obj)}{σ:St}{H:Hp}{s:Shared}{Q:VK}{k k':Bool}(I:Inv X pins σ H s)(q:Q (.bl k) H)(e:k=k'):EP X pins σ Q (.bool k') s:=by
 subst e;exact⟨.bl k,H,I,rfl,q⟩
theorem xv:OpR X (compareOp .Lt) (rI0 fun i j=>.bl (decide (i < j))):=opB0 fun _ _ _ _ _ _ _ q=>lt_int q
theorem mO:OpR X (compareOp .LtE) (rI0 fun i j=>.bl (decide (i≤j))):=opB0 fun _ _ _ _ _ _ _ q=>le_int q
theorem ze:OpR X (compareOp .GtE) (rI0 fun i j=>.bl (decide (j≤i))):=opB0 fun _ _ _ _ _ _ _ q=>ge_int q
theorem qH:OpR X (compareOp .In) (fun x y H Q=>∃ i j,x=.str i∧y=.str j∧Q (.bl (!(Builtin.Str.occurrences j i 0 j.length 1).isEmpty)) H):=by
 intro pins s σ H x y v u Q I rx ry h;obtain⟨i,j,rfl,rfl,q⟩:=h;obtain⟨t,rfl⟩:=rx;obtain⟨t',rfl⟩:=ry;exact in_str (xZ I q rfl)
theorem OpR.or {f:Value→Value→Sem Value}{r r':R2}(h:OpR X f r)(h':OpR X f r'):OpR X f (fun x y H Q=>r x y H Q∨r' x y H Q):=by
 intro pins s σ H x y v u Q I rx ry q;rcases q with q | q
 ·exact h pins s σ H x y v u Q I rx ry q
 ·exact h' pins s σ H x y v u Q I rx ry q
theorem nomark (b:Expr){op:CmpOp}(h:op≠.In:=by decide)(h2:op≠.NotIn:=by decide):behindInMarks op b=false:=by
 have e1:(op==CmpOp.In)=false:=by cases op<;>first | rfl | exact absurd rfl h
 have e2:(op==CmpOp.NotIn)=false:=by cases op<;>first | rfl | exact absurd rfl h2
 cases b<;>simp[behindInMarks,e1,e2]
theorem pE {op:CmpOp}{r:R2}(ho:OpR X (compareOp op) r)(ha:PE X a ta)(hb:PE X b tb)(hm:behindInMarks op b=false):PE X (.Compare a [op] [b] pos) (tOp r ta tb):=by
 intro pins s σ H Q I h;exact wpAny_Compare1 (binT ha hb I h fun v u s2 x y H2 I2 rx ry q=>ho pins s2 σ H2 x y v u Q I2 rx ry q) hm
def tTest (t:TE):TT:=fun σ H Q=>t σ H fun x H'=>∃ k,x=.bl k∧Q k H'
theorem pF {op:CmpOp}{r:R2}(ho:OpR X (compareOp op) r)(ha:PE X a ta)(hb:PE X b tb)(hm:behindInMarks op b=false):PT X (.Compare a [op] [b] pos) (tTest (tOp r ta tb)):=by
 intro pins s σ H Q I h;refine wpAny_isTrue_Compare1 (thn (ha pins s σ H _ I h) fun v s1 ⟨x,H1,I1,r1,q1⟩=>thn (hb pins s1 σ H1 _ I1 q1) fun u s2 ⟨y,H2,I2,r2,q2⟩ =>
  thn (ho pins s2 σ H2 x y v u _ I2 r1 r2 q2) fun c s3 ⟨z,H3,I3,r3,k,e,q3⟩=>?_) hm
 subst e;cases r3;exact wpAny_truthy_bool ⟨H3,I3,q3⟩
def tChain (r r':R2)(ta tb tc:TE):TE:=fun σ H Q=>ta σ H fun x H1=>tb σ H1 fun y H2=>r x y H2 fun z H3=>∃ k,z=.bl k ∧
 (if k=true then tc σ H3 fun w' H4=>r' y w' H4 Q else Q (.bl false) H3)
theorem sA {op op':CmpOp}{r r':R2}(ho:OpR X (compareOp op) r)(ho':OpR X (compareOp op') r')(ha:PE X a ta)(hb:PE X b tb)(hc:PE X c tc)
  (hm:lastMarks [op,op'] [b,c]=false:=by with_unfolding_all rfl):PE X (.Compare a [op,op'] [b,c] pos) (tChain r r' ta tb tc):=by
 intro pins s σ H Q I h;refine Compare_chain (thn (ha pins s σ H _ I h) fun v s1 ⟨x,H1,I1,r1,q1⟩=>chain_link (thn (hb pins s1 σ H1 _ I1 q1) fun u s2 ⟨y,H2,I2,r2,q2⟩ =>
  thn (ho pins s2 σ H2 x y v u _ I2 r1 r2 q2) fun d s3 ⟨z,H3,I3,r3,k,e,q3⟩=>?_)) hm
 subst e;cases r3;refine wpAny_truthy_bool ?_;cases k with
 | false=>exact ite_ff ⟨.bl false,H3,I3,rfl,q3⟩
 | true=>exact ite_tt (chain_last (thn (hc pins s3 σ H3 _ I3 q3) fun w' s4 ⟨z',H4,I4,r4,q4⟩=>ho' pins s4 σ H4 y z' u w' Q I4 r2 r4 q4))
theorem sB {op op':CmpOp}{r r':R2}(ho:OpR X (compareOp op) r)(ho':OpR X (compareOp op') r')(ha:PE X a ta)(hb:PE X b tb)(hc:PE X c tc)
  (hm:lastMarks [op,op'] [b,c]=false:=by with_unfolding_all rfl):PT X (.Compare a [op,op'] [b,c] pos) (tTest (tChain r r' ta tb tc)):=by
 intro pins s σ H Q I h;refine isTrue_chain (thn (ha pins s σ H _ I h) fun v s1 ⟨x,H1,I1,r1,q1⟩=>test_link (thn (hb pins s1 σ H1 _ I1 q1) fun u s2 ⟨y,H2,I2,r2,q2⟩ =>
  thn (ho pins s2 σ H2 x y v u _ I2 r1 r2 q2) fun d s3 ⟨z,H3,I3,r3,k,e,q3⟩=>?_)) hm
 subst e;cases r3;refine wpAny_truthy_bool ?_;cases k with
 | false =>
  obtain⟨k',e',q'⟩:=q3;cases e';exact ite_ff ⟨H3,I3,q'⟩
 | true =>
  refine ite_tt (test_last (thn (hc pins s3 σ H3 _ I3 q3) fun w' s4 ⟨z',H4,I4,r4,q4⟩=>thn (ho' pins s4 σ H4 y z' u w' _ I4 r2 r4 q4) fun d' s5 ⟨z2,H5,I5,r5,k2,e2,q5⟩=>?_));subst e2;cases r5;exact wpAny_truthy_bool ⟨H5,I5,q5⟩
def TruV (K:Frag)(x:V)(H:Hp)(k:Bool):Prop :=
 match x with
 | .non=>k=false
 | .bl b=>k=b
 | .int i=>k=(i != 0)
 | .str y=>y.length≤sizeLine∧k=((y.length:Int) != 0)
 | .byt y=>y.size≤sizeLine∧k=((y.size:Int) != 0)
 | .ref p=>(∃ xs,SqL K H p xs∧k = !xs.isEmpty)∨(∃ xs,SqT K H p xs∧k = !xs.isEmpty)∨∃ kvs,H p=some (.dK kvs)∧k = !kvs.isEmpty
 | _=>False
theorem nV {κ:Type}{kvs:List (κ×V)}{vs:List (κ×Value)}(r:KV kvs vs):(!vs.isEmpty) = !kvs.isEmpty:=by
 cases r<;>rfl
theorem ju {xs:List V}{its:List Value}(r:Vals xs its):(!its.toArray.isEmpty) = !xs.isEmpty:=by
 cases r<;>simp
theorem line63:(sizeLine:Nat) < 2^63:=by rw[sizeLine_eq];decide
theorem zN:TruR X (fun x H Q=>∃ k,TruV X.K x H k∧Q k H):=by
 intro pins s σ H x v Q I rx h;obtain⟨k,e,q⟩:=h;have hl:=line63;have hs:sizeLine=16777216:=sizeLine_eq;cases x with
 | non =>
  cases rx;have e':k=false:=e;subst e';exact truthy_none ⟨H,I,q⟩
 | bl b =>
  cases rx;have e':k=b:=e;subst e';exact wpAny_truthy_bool ⟨H,I,q⟩
 | int i =>
  obtain⟨t,rfl⟩:=rx;have e':k=(i != 0):=e;subst e';exact PySem.P.truthy_int ⟨H,I,q⟩
 | str y =>
  obtain⟨t,rfl⟩:=rx;obtain⟨hy,e'⟩:y.length≤sizeLine∧k=((y.length:Int) != 0):=e;subst e';exact PySem.P.truthy_str (by omega) ⟨H,I.tok _,q⟩
 | byt y =>
  obtain⟨t,rfl⟩:=rx;obtain⟨hy,e'⟩:y.size≤sizeLine∧k=((y.size:Int) != 0):=e;subst e';exact PySem.W.truthy_bytes (by omega) ⟨H,I.tok _,q⟩
 | ref p =>
  cases rx;have e':(∃ xs,SqL X.K H p xs∧k = !xs.isEmpty)∨(∃ xs,SqT X.K H p xs∧k = !xs.isEmpty)∨∃ kvs,H p=some (.dK kvs)∧k = !kvs.isEmpty:=e;rcases e' with ⟨xs,hx,e'⟩ | ⟨xs,hx,e'⟩ | ⟨kvs,hx,e'⟩
  ·subst e';obtain⟨its,r,pl,hz⟩:=I.list hx;have hlen:=r.length;exact wpAny_truthy_list pl.isList (by simp only[List.size_toArray];omega) ⟨H,I.tok _,by rw[ju r];exact q⟩
  ·subst e';obtain⟨its,r,pl,hz⟩:=I.tuple hx;have hlen:=r.length;exact truthy_tuple pl (by simp only[List.size_toArray];omega) ⟨H,I.tok _,by rw[ju r];exact q⟩
  ·subst e';obtain⟨hz,hS,vs,r,m⟩:kvs.length≤sizeLine∧(p==sysModules)=false∧∃ vs,KV kvs vs∧s.heap.DictOf (mixKind X.prog X.w) p vs:=I.hok p _ hx;have hlen:kvs.length=vs.length:=Paired.length r;exact wpAny_truthy_dict hS m (by omega) ⟨H,I.tok _,by rw[nV r];exact q⟩
 | _=>exact(show False from e).elim
def PlainIxT (b:Expr):Prop:=∀ o i,subscripted b false o i=operate [o,i] (getItem o i)
theorem vals1 {x:V}{us:List Value}(r:Vals [x] us):∃ u,us=[u]∧RelV x u:=by
 cases r with
 | cons r1 r2=>cases r2;exact⟨_,rfl,r1⟩
theorem vals2 {x y:V}{us:List Value}(r:Vals [x,y] us):∃ u w',us=[u,w']∧RelV x u∧RelV y w':=by
 cases r with
 | cons r1 r2 =>
  cases r2 with
  | cons r3 r4=>cases r4;exact⟨_,_,rfl,r1,r3⟩
theorem sC:CallR X (.builtin "abs") (fun xs H Q=>∃ i,xs=[.int i]∧Q (.int (if i < 0 then -i else i)) H):=by
 intro pins s σ H xs us Q I r h;obtain⟨i,rfl,q⟩:=h;obtain⟨u,rfl,t,rfl⟩:=vals1 r;exact call_abs_int fun u tk=>⟨.int (if i < 0 then -i else i),H,I.tok _,⟨_,rfl⟩,q⟩
theorem qI (hc:X.calm=true):CallR X (.builtin "max") (fun xs H Q=>∃ i j,xs=[.int i,.int j]∧Q (.int (if j > i then j else i)) H):=by
 intro pins s σ H xs us Q I r h;obtain⟨i,j,rfl,q⟩:=h;obtain⟨u,w',rfl,⟨t,rfl⟩,⟨t',rfl⟩⟩:=vals2 r;refine max_two_ints (I.ok.hd hc) fun h' tk k=>⟨_,H,I.kept k,?_,q⟩
 by_cases hj:j > i
 ·rw[if_pos hj,if_pos hj];exact⟨_,rfl⟩
 ·rw[if_neg hj,if_neg hj];exact⟨_,rfl⟩
theorem qJ (hc:X.calm=true):CallR X (.builtin "min") (fun xs H Q=>∃ i j,xs=[.int i,.int j]∧Q (.int (if j < i then j else i)) H):=by
 intro pins s σ H xs us Q I r h;obtain⟨i,j,rfl,q⟩:=h;obtain⟨u,w',rfl,⟨t,rfl⟩,⟨t',rfl⟩⟩:=vals2 r;refine min_two_ints (I.ok.hd hc) fun h' tk k=>⟨_,H,I.kept k,?_,q⟩
 by_cases hj:j < i
 ·rw[if_pos hj,if_pos hj];exact⟨_,rfl⟩
 ·rw[if_neg hj,if_neg hj];exact⟨_,rfl⟩
def LenV (K:Frag)(x:V)(H:Hp)(n:Nat):Prop :=
 match x with
 | .str y=>y.length≤sizeLine∧n=y.length
 | .byt y=>y.size≤sizeLine∧n=y.size
 | .ref p=>(∃ xs,SqL K H p xs∧n=xs.length)∨∃ xs,SqT K H p xs∧n=xs.length
 | _=>False
theorem sD:CallR X (.builtin "len") (fun xs H Q=>∃ x n,xs=[x]∧LenV X.K x H n∧Q (.int n) H):=by
 intro pins s σ H xs us Q I r h;obtain⟨x,n,rfl,e,q⟩:=h;obtain⟨u,rfl,rx⟩:=vals1 r;have hl:=line63;have hs:sizeLine=16777216:=sizeLine_eq;cases x with
 | str y =>
  obtain⟨t,rfl⟩:=rx;obtain⟨hy,e'⟩:y.length≤sizeLine∧n=y.length:=e;subst e';exact len_str (by omega) ⟨.int _,H,I.tok _,⟨_,rfl⟩,q⟩
 | byt y =>
  obtain⟨t,rfl⟩:=rx;obtain⟨hy,e'⟩:y.size≤sizeLine∧n=y.size:=e;subst e';exact PySem.W.len_bytes (by omega) ⟨.int _,H,I.tok _,⟨_,rfl⟩,q⟩
 | ref p =>
  cases rx;have e':(∃ xs,SqL X.K H p xs∧n=xs.length)∨∃ xs,SqT X.K H p xs∧n=xs.length:=e;rcases e' with ⟨xs,hx,e'⟩ | ⟨xs,hx,e'⟩
  ·subst e';obtain⟨its,r',pl,hz⟩:=I.list hx;have hlen:=r'.length;exact Calls.call_len_list pl.isList (by simp only[List.size_toArray];omega) ⟨.int xs.length,H,I.tok _,⟨_,by simp only[List.size_toArray];rw[hlen]⟩,q⟩
  ·subst e';obtain⟨its,r',pl,hz⟩:=I.tuple hx;have hlen:=r'.length;exact len_tuple pl (by simp only[List.size_toArray];omega) ⟨.int xs.length,H,I.tok _,⟨_,by simp only[List.size_toArray];rw[hlen]⟩,q⟩
 | _=>exact(show False from e).elim
end
end L2
namespace L2
open PySem PySem.Spec PyProof.Rows
structure ObjM (h:Heap)(x dx C:Addr)(mA:Str→Option Value):Prop where
 obj:h.get? x=some (instObj C dx)
 ns:h.Ns1 dx mA
 ne:dx≠x
theorem qK {h:Heap}{dx:Addr}{mA:Str→Option Value}(n:h.Ns1 dx mA):∃ od,h.get? dx=some od∧∀ name,lookIn name od=some (mA name):=by
 obtain⟨o,es,ep,ho,hd,hk,_,hm⟩:=n;refine⟨o,ho,fun name=>?_⟩;have e:=hm name;unfold nsFind findBy at e;rw[← Array.find?_toList]at e;unfold lookIn;rw[hd]
 dsimp only
 split
 ·rename_i y q;rw[q]at e;exact congrArg some e
 ·rename_i q;rw[q]at e;have a:es.toList.any (·.refKey)=false:=by
   rw[List.any_eq_false];intro y hy;obtain⟨z,t,hkey⟩:=hk y (Array.mem_toList_iff.mp hy)
   simp[DictEntry.refKey,hkey]
  have a':¬ es.toList.any (·.refKey)=true:=by rw[a];exact Bool.false_ne_true
  rw[if_neg a'];exact congrArg some e
theorem ObjM.look {h:Heap}{x dx C:Addr}{mA:Str→Option Value}(I:ObjM h x dx C mA):∃ od,PySem.W.InstAt h x (instObj C dx) C (some od)∧∀ name,lookIn name od=some (mA name) :=
 let ⟨od,ho,hl⟩:=qK I.ns
 ⟨od,⟨I.obj,rfl,rfl,ho⟩,hl⟩
section
variable {prog:Program}{w:World}{A:Around}{E:Value→Shared→Prop}{s:Shared}{K:Frag}{x dx C f:Addr}{mA:Str→Option Value}{name:Str}{v:Value}
theorem vg {expr:Bool}{Q:Value→Shared→Prop}(X:K.In s.heap)(I:ObjM s.heap x dx C mA)(hg:plainGet K C name=true)(hh:PySem.W.hasDictIn K C=true)
  (ha:findIn K (.ref C) name=some none) (hv:mA name=some v) (hv':PySem.W.handedIn v=true) (h:Q v { s with toks:=s.toks+1 }) :
  wpAny (model prog w) A (getAttr (.ref x) name expr) Q E s:=by
 obtain⟨od,J,hl⟩:=I.look;exact PySem.W.get_value X J (PySem.W.plainGet_of hg).1 (PySem.W.findObj_own hh ha rfl (by rw[hl,hv])) hv' h
theorem sE {pl:Sem Bool}{Q:Value×List Value→Shared→Prop}(X:K.In s.heap)(I:ObjM s.heap x dx C mA)(hg:plainGet K C name=true)
  (hf:findIn K (.ref C) name=some (some (.ref f))) (ht:isFn K (.ref f)=true) (hv:mA name=none) (h:Q (.ref f,[.ref x]) s) :
  wpAny (model prog w) A (getMethod (.ref x) name pl) Q E s:=by
 obtain⟨od,J,hl⟩:=I.look;exact PySem.W.method_fn X J (PySem.W.plainGet_of hg).1 (PySem.W.plainGet_of hg).2 hf (beq_iff_eq.mp ht) (by show (lookIn name od).map (·.isSome)=some false;rw[hl,hv];rfl) h
theorem vh {ns:List Str}{Q:Unit→Shared→Prop}(X:K.In s.heap)(I:ObjM s.heap x dx C mA)
  (hs:findIn K (.ref C) "__setattr__"=some (some (.builtin "object.__setattr__"))) (hp:plainOver K C=true) (ht:takerIn K C name=some none) (hh:PySem.W.hasDictIn K C=true)
  (hw:PySem.Within mA ns) (hsz:ns.length≤sizeLine)
  (h:∀ h',ObjM h' x dx C (fun y=>if y=name then some v else mA y)→Heap.SameBut dx s.heap h'→Q () { s with heap:=h',toks:=s.toks+2 }) :
  wpAny (model prog w) A (setAttr (.ref x) name v) Q E s:=by
 obtain⟨od,J,hl⟩:=I.look;refine PySem.W.set_plain X J hs (PySem.W.osa_open (s:={ s with toks:=s.toks+1 }) (r:=none) X J hp ht fun b=>?_);obtain⟨cd,hc,hd'⟩:=PySem.W.any_some hh;have hx:s.heap.get? x=some ⟨.ref C,some dx,.plain,#[]⟩:=I.obj;refine wpAny_bind (wpAny_pure (wpAny_bind (wpAny_bind (wpAny_loadPart hx (wpAny_bind (PySem.W.Looks.here (s:={ s with toks:=s.toks+1 }) (PySem.W.looks_clsIn X hc) ?_))))));rw[hd'];refine wpAny_pure (a:=some dx) (wpAny_bind (wpAny_pure (wpAny_bind ?_)));refine wpAny_nsSet1 (s:={ s with toks:=s.toks+1 }) I.ns fun h' hn2 hs2=>?_
 obtain⟨oD,esD,epD,hoD,hdD,hcD⟩:=hn2.count (PySem.Within.cons name v hw);refine wpAny_bind (wpAny_lookBehind hoD (by rw[hdD];exact pastItsLine_dict (Nat.le_trans hcD (by rw[List.length_cons];omega))) ?_);exact wpAny_pure (h _ ⟨(hs2.2 _ (Ne.symm I.ne)).trans I.obj,hn2,I.ne⟩ hs2)
theorem sF {R:Result→Shared→Prop}{vs:List Value}{kw:List (Str×Value)}(X:K.In s.heap)(hm:makesIn K C=true)
  (hi:findIn K (.ref C) "__init__"=some (some (.ref f))) (hf:typeIn K (.ref f)=some (.type "function"))
  (h:codeAny (model prog w) (A.under (.builtin "type.__call__" ⟨.ref C::vs,kw⟩)) (.call (.ref f) ⟨.ref (s.heap.objs.size+1)::vs,kw⟩) (PySem.W.InitBack (s.heap.objs.size+1) R)
   { s with heap:=(s.heap.push emptyDict).push (instObj C s.heap.objs.size) }) :
  codeAny (model prog w) A (.call (.ref C) ⟨vs,kw⟩) R s:=by
 obtain⟨hh,g,d,t,os⟩:=s;exact PySem.W.make_core (PySem.W.makes_of X hm) (PySem.W.looks_findIn X hi) (fun self=>PySem.W.bind_fn X self hf) (.inl rfl) h
end
def putF (f:Str)(v:V):List (Str×V)→List (Str×V)
 | []=>[(f,v)]
 | (g,x)::r=>if g=f then (g,v)::r else (g,x)::putF f v r
theorem iX (f g:Str)(v:V):∀ fs:List (Str×V),(putF f v fs).lookup g=if g=f then some v else fs.lookup g
 | []=>by
  show List.lookup g [(f,v)]=_;by_cases h:g=f
  ·have hb:(g==f)=true:=beq_iff_eq.mpr h;simp only[List.lookup,hb,if_pos h]
  ·have hb:(g==f)=false:=beq_eq_false_iff_ne.mpr h;simp only[List.lookup,hb,if_neg h]
 | (k,x)::r=>by
  have ih:=iX f g v r;rw[show putF f v ((k,x)::r)=(if k=f then (k,v)::r else (k,x)::putF f v r) from rfl];by_cases hk:k=f
  ·rw[if_pos hk];by_cases h:g=k
   ·have hb:(g==k)=true:=beq_iff_eq.mpr h;simp only[List.lookup,hb,if_pos (h.trans hk)]
   ·have hb:(g==k)=false:=beq_eq_false_iff_ne.mpr h;simp only[List.lookup,hb,if_neg (fun e:g=f=>h (e.trans hk.symm))]
  ·rw[if_neg hk];by_cases h:g=k
   ·have hb:(g==k)=true:=beq_iff_eq.mpr h;simp only[List.lookup,hb,if_neg (fun e:g=f=>hk (h.symm.trans e))]
   ·have hb:(g==k)=false:=beq_eq_false_iff_ne.mpr h;simp only[List.lookup,hb];exact ih
theorem iq (f:Str)(v:V):∀ fs:List (Str×V),f∈(putF f v fs).map (·.1)∧∀ g,g∈fs.map (·.1)→g∈(putF f v fs).map (·.1)
 | []=>⟨by simp[putF],fun g h=>by simp at h⟩
 | (k,x)::r=>by
  obtain⟨i1,i2⟩:=iq f v r;rw[show putF f v ((k,x)::r)=(if k=f then (k,v)::r else (k,x)::putF f v r) from rfl];by_cases hk:k=f
  ·rw[if_pos hk];subst hk;exact⟨by simp,fun g h=>by simpa using h⟩
  ·rw[if_neg hk];refine⟨?_,fun g h=>?_⟩
   ·rw[List.map_cons];exact List.mem_cons_of_mem _ i1
   ·rw[List.map_cons]at h ⊢;rcases List.mem_cons.mp h with e | e
    ·exact List.mem_cons.mpr (.inl e)
    ·exact List.mem_cons_of_mem _ (i2 g e)
theorem iY (f:Str)(v:V):∀ fs:List (Str×V),(putF f v fs).length≤fs.length+1
 | []=>by simp[putF]
 | (k,x)::r=>by
  have ih:=iY f v r;rw[show putF f v ((k,x)::r)=(if k=f then (k,v)::r else (k,x)::putF f v r) from rfl];by_cases hk:k=f
  ·rw[if_pos hk,List.length_cons,List.length_cons];omega
  ·rw[if_neg hk,List.length_cons,List.length_cons];omega
theorem RelO.some_of {v:V}{o:Option Value}(r:RelO (some v) o):∃ u,o=some u∧RelV v u:=by
 cases o with
 | none=>exact(show False from r).elim
 | some u=>exact⟨u,rfl,r⟩
theorem RelO.none_of {o:Option Value}(r:RelO none o):o=none:=by
 cases o with
 | none=>rfl
 | some u=>exact(show False from r).elim
theorem qL {v:V}{u:Value}(r:RelV v u):PySem.W.handedIn u=true:=by
 cases v with
 | non=>cases (show u=Value.none from r);rfl
 | bl b=>cases (show u=Value.bool b from r);rfl
 | int i=>obtain⟨t,e⟩:=(show ∃ t,u=Value.int i t from r);cases e;rfl
 | str x=>obtain⟨t,e⟩:=(show ∃ t,u=Value.str x t from r);cases e;rfl
 | byt b=>obtain⟨t,e⟩:=(show ∃ t,u=Value.bytes b t from r);cases e;rfl
 | flt b=>obtain⟨t,e⟩:=(show ∃ t,u=Value.float b t from r);cases e;rfl
 | ref a=>cases (show u=Value.ref a from r);rfl
 | ty n=>cases (show u=Value.type n from r);rfl
section
variable {P:Program}{w:World}{H H':Hp}{h h':Heap}{a C dx:Addr}{fs fs':List (Str×V)}
theorem l5 (hok:HOk P w H h)(e:H a=some (.ins C dx fs)):∃ mA,ObjM h a dx C mA∧(∀ f,RelO (fs.lookup f) (mA f))∧PySem.Within mA (fs.map (·.1))∧fs.length≤1000∧H dx=some (.own a):=by
 obtain⟨d,z,ne,ob,mA,n,r,q⟩:=(show ObjOk P w H h a (.ins C dx fs) from hok a _ e);exact⟨mA,⟨ob,n,ne⟩,r,q,z,d⟩
end
structure Cls (K:Frag)(C:Addr):Prop where
 pg:plainGet K C Str.empty=true
 hd:PySem.W.hasDictIn K C=true
 po:plainOver K C=true
 sa:findIn K (.ref C) "__setattr__"=some (some (.builtin "object.__setattr__"))
theorem Cls.get {K:Frag}{C:Addr}(c:Cls K C)(f:Str):plainGet K C f=true:=c.pg
def NoAttr (K:Frag)(C:Addr)(f:Str):Prop:=findIn K (.ref C) f=some none
theorem NoAttr.taker {K:Frag}{C:Addr}{f:Str}(n:NoAttr K C f):takerIn K C f=some none:=by
 unfold takerIn;rw[show findIn K (.ref C) f=some none from n];rfl
structure Meth (K:Frag)(C:Addr)(m:Str)(f:Addr):Prop where
 at_:findIn K (.ref C) m=some (some (.ref f))
 fn:isFn K (.ref f)=true
 kp:keepIn K (.ref f)=true
section
variable {X:Cx}{pins:List (Addr×Obj)}{σ:St}{H:Hp}{s:Shared}{a C dx:Addr}{fs:List (Str×V)}{f:Str}{v:V}{A:Around}{E:Value→Shared→Prop}
theorem nW {b:Bool}{Q:Value→Shared→Prop}(I:Inv X pins σ H s)(e:H a=some (.ins C dx fs))(c:Cls X.K C)(n:NoAttr X.K C f)(l:fs.lookup f=some v)
  (h:∀ u s',Inv X pins σ H s'→RelV v u→Q u s'):wpAny (model X.prog X.w) A (getAttr (.ref a) f b) Q E s:=by
 obtain⟨mA,O,r,_,_,_⟩:=l5 I.hok e;obtain⟨u,hu,ru⟩:=RelO.some_of (v:=v) (o:=mA f) (by rw[← l];exact r f);exact vg I.kIn O (c.get f) c.hd n hu (qL ru) (h u _ (I.tok _) ru)
theorem gv {m:Str}{g:Addr}{pl:Sem Bool}{Q:Value×List Value→Shared→Prop}(I:Inv X pins σ H s)(e:H a=some (.ins C dx fs))(c:Cls X.K C)(k:Meth X.K C m g)(l:fs.lookup m=none)
  (h:Q (.ref g,[.ref a]) s):wpAny (model X.prog X.w) A (getMethod (.ref a) m pl) Q E s:=by
 obtain⟨mA,O,r,_,_,_⟩:=l5 I.hok e;have hn:mA m=none:=RelO.none_of (by rw[← l];exact r m);exact sE I.kIn O (c.get m) k.at_ k.fn hn h
theorem nX {y:V}{u:Value}{Q:Unit→Shared→Prop}(I:Inv X pins σ H s)(e:H a=some (.ins C dx fs))(c:Cls X.K C)(n:NoAttr X.K C f)(hl:fs.length < 1000)(ry:RelV y u)
  (h:∀ s',Inv X pins σ (upd H a (.ins C dx (putF f y fs))) s'→Q () s'):wpAny (model X.prog X.w) A (setAttr (.ref a) f u) Q E s:=by
 obtain⟨mA,O,r,wi,_,ho⟩:=l5 I.hok e;have hz:(fs.map (·.1)).length≤sizeLine:=by rw[List.length_map,sizeLine_eq];omega
 refine vh I.kIn O c.sa c.po n.taker c.hd wi hz fun h' O' sb=>h _ ?_
 have hd:∃ o,h'.get? dx=some o:=let ⟨o,_,_,e',_⟩:=O'.ns;⟨o,e'⟩;refine I.write (x:=a) (e:=dx) (by rw[e];exact True.intro) (.inr ho) (fun b q hb z=>(sb.2 b hb).trans z) hd ?_;refine⟨by rw[ag O.ne];exact ho,?_,O.ne,O'.obj,_,O'.ns,fun g=>?_,fun g hg=>?_⟩
 ·have:=iY f y fs;omega
 ·show RelO ((putF f y fs).lookup g) (if g=f then some u else mA g);rw[iX];by_cases q:g=f
  ·rw[if_pos q,if_pos q];exact ry
  ·rw[if_neg q,if_neg q];exact r g
 ·by_cases q:g=f
  ·rw[q];exact(iq f y fs).1
  ·refine(iq f y fs).2 g (wi g fun z=>hg ?_);show (if g=f then some u else mA g)=none;rw[if_neg q];exact z
theorem Inv.made (I:Inv X pins σ H s):Inv X pins σ (upd (upd H s.heap.objs.size (.own (s.heap.objs.size+1))) (s.heap.objs.size+1) (.ins C s.heap.objs.size []))
  { s with heap:=(s.heap.push emptyDict).push (instObj C s.heap.objs.size) }:=by
 have e1:(s.heap.push emptyDict).get? s.heap.objs.size=some emptyDict:=Heap.get?_push_size s.heap rfl;have e2:((s.heap.push emptyDict).push (instObj C s.heap.objs.size)).get? (s.heap.objs.size+1)=some (instObj C s.heap.objs.size):=by
  have:=Heap.get?_push_size (s.heap.push emptyDict) (o:=instObj C s.heap.objs.size) rfl
  rwa [Heap.size_push]at this
 have e3:(s.heap.push emptyDict).Ns s.heap.objs.size (fun _=>none):=⟨emptyDict,#[],_,e1,rfl,(fun e he=>absurd he (by simp)),fun _=>rfl⟩;have I1:=I.laid (a:=s.heap.objs.size) (o:=.own (s.heap.objs.size+1)) (h':=s.heap.push emptyDict) (t':=s.toks) (fun b u q=>Heap.get?_push_of_some _ q) (Nat.le_refl _) ⟨_,e1⟩;refine I1.laid (a:=s.heap.objs.size+1) (o:=.ins C s.heap.objs.size []) (t':=s.toks) (fun b u q=>Heap.get?_push_of_some _ q) (Nat.le_of_eq (Heap.size_push _ _)) ?_;have ne:s.heap.objs.size≠s.heap.objs.size+1:=Nat.ne_of_lt (Nat.lt_succ_self _);refine⟨by rw[ag ne,ai],Nat.zero_le _,ne,e2,fun _=>none,(Heap.Ns1.of_empty e3).at fun o q=>Heap.get?_push_of_some _ q,fun _=>True.intro,fun y hy=>absurd rfl hy⟩
theorem vi {prog:Program}{w:World}{env:Env}{e:Expr}{f:Str}{pos:Pos}{s:Shared}{Q:Value→Shared→Prop}(hb:attributeBase e f env (eval e env)=eval e env)
  (h:wpAny (model prog w) A (eval e env) (fun o s₁=>wpAny (model prog w) A (getAttr o f true) Q E s₁) E s):wpAny (model prog w) A (eval (.Attribute e f pos) env) Q E s :=
 Attribute_any_ h (by rw[arm_eval_Attribute,hb])
end
def tFld (K:Frag)(ta:TE)(f:Str):TE:=fun σ H Q=>ta σ H fun x H1=>∃ a C dx fs v,x=.ref a∧H1 a=some (.ins C dx fs)∧Cls K C∧NoAttr K C f∧fs.lookup f=some v∧Q v H1
def sFld (K:Frag)(ta tv:TE)(f:Str):TS:=fun D σ H=>tv σ H fun y H1=>ta σ H1 fun x H2=>∃ a C dx fs,x=.ref a∧H2 a=some (.ins C dx fs)∧Cls K C∧NoAttr K C f∧fs.length < 1000 ∧
 D.nx σ (upd H2 a (.ins C dx (putF f y fs)))
section
variable {X:Cx}{o e value:Expr}{f:Str}{pos pos' tpos:Pos}{ta tv:TE}
theorem ya (he:PE X e ta)(hb:attributeBase e f X.env (eval e X.env)=eval e X.env):PE X (.Attribute e f pos) (tFld X.K ta f):=by
 intro pins s σ H Q I h;refine vi hb (thn (he pins s σ H _ I h) fun u s1 ⟨x,H1,I1,rx,a,C,dx,fs,v,ex,ea,c,n,l,q⟩=>?_);subst ex;obtain rfl:u=Value.ref a:=rx;exact nW I1 ea c n l fun u' s2 I2 ru=>⟨v,H1,I2,ru,q⟩
theorem yb (ha:PE X o ta)(hv:PE X value tv)(hs:swapsWith value (some (.Attribute o f pos')) pos.line X.env=pure false):PS X (.Assign [.Attribute o f pos'] value pos) (sFld X.K ta tv f):=by
 intro pins s σ H D I h;refine plainObj_wpAny_Assign_Attribute (thn (hv pins s σ H _ I h) fun u s1 ⟨y,H1,I1,ry,q⟩=>thn (ha pins s1 σ H1 _ I1 q) fun ov s2 ⟨x,H2,I2,rx,a,C,dx,fs,ex,ea,c,n,l,q2⟩=>?_) hs;subst ex;obtain rfl:ov=Value.ref a:=rx;exact nX I2 ea c n l ry fun s3 I3=>⟨σ,_,I3,q2⟩
theorem xw {pl:Sem Bool}{m:Str}{apos:Pos}{args:List Expr}{pins:List (Addr×Obj)}{s:Shared}{σ:St}{H:Hp}{Q:Value→Shared→Prop}{te:TE}(he:PE X e te)(I:Inv X pins σ H s)
  (h:te σ H fun x H1=>∃ a C dx fs g,x=.ref a∧H1 a=some (.ins C dx fs)∧Cls X.K C∧Meth X.K C m g∧fs.lookup m=none ∧
   ∀ s1,Inv X pins σ H1 s1→wpAny (model X.prog X.w) X.A (callWith pos (.ref g) [.ref a] (backTo pos (starEach args X.env)) (backToKw pos (keywordEach [] X.env))) Q X.xe s1)
  (ht:eval (.Call (.Attribute e m apos) args [] pos) X.env=(do
   let ov ← eval e X.env
   standAt apos.atName
   let (f,first) ← holding [ov] (getMethod ov m pl)
   callWith pos f first (backTo pos (starEach args X.env)) (backToKw pos (keywordEach [] X.env)))) :
  wpAny (model X.prog X.w) X.A (eval (.Call (.Attribute e m apos) args [] pos) X.env) Q X.xe s:=by
 refine methodCall_KW (pl:=pl) (thn (he pins s σ H _ I h) fun u s1 ⟨x,H1,I1,rx,a,C,dx,fs,g,ex,ea,c,k,l,q⟩=>?_) ht;subst ex;obtain rfl:u=Value.ref a:=rx;exact gv I1 ea c k l (q s1 I1)
end
section
variable {X:Cx}{pins:List (Addr×Obj)}{σ:St}{H:Hp}{s:Shared}{A:Around}{E:Value→Shared→Prop}{Q:Value→Shared→Prop}{c:Value}{b:Bool}
inductive TyOf (K:Frag)(H:Hp):V→Value→Prop where
 | non:TyOf K H .non (.type "NoneType")
 | bl (x:Bool):TyOf K H (.bl x) (.type "bool")
 | int (i:Int):TyOf K H (.int i) (.type "int")
 | str (x:Str):TyOf K H (.str x) (.type "str")
 | flt (x:UInt64):TyOf K H (.flt x) (.type "float")
 | lst {a:Addr} {xs:List V} (e:H a=some (.lst xs)):TyOf K H (.ref a) (.type "list")
 | frz {a:Addr} {o:Obj} {xs:List V} (e:H a=some (.frz o (.lst xs))):TyOf K H (.ref a) (.type "list")
 | tup {a:Addr} {xs:List V} (e:H a=some (.tup xs)):TyOf K H (.ref a) (.type "tuple")
 | dK {a:Addr} {kvs:List (Key×V)} (e:H a=some (.dK kvs)):TyOf K H (.ref a) (.type "dict")
 | dT {a:Addr} {kvs:List (List Key×V)} (e:H a=some (.dT kvs)):TyOf K H (.ref a) (.type "dict")
 | ins {a C dx:Addr} {fs:List (Str×V)} (e:H a=some (.ins C dx fs)) (cl:Cls K C) (ha:findIn K (.ref C) "__class__"=some (some (.builtin "object.__class__")))
   (hn:PySem.W.specialIn K (.builtin "object.__class__") "__get__"=some (some (.builtin "getset_descriptor.__get__"))) (htk:PySem.W.takesIn K (.builtin "object.__class__")=some true)
   (hm:PySem.W.mroIn K C (.type "object")=some true):TyOf K H (.ref a) (.ref C)
end
end L2
namespace L2
open PySem PySem.Spec PyProof.Rows
structure Room (k:Nat)(A:Around):Prop where
 hd:A.handled=none
 dp:A.depth+3*k+5 < recursionLimit
 un:A.units+16*k+200 < cLine
theorem Room.mono {j k:Nat}{A:Around}(r:Room k A)(h:j≤k):Room j A:=⟨r.hd,by have:=r.dp;omega,by have:=r.un;omega⟩
theorem Room.deeper {k:Nat}{A:Around}(r:Room (k+1) A)(env:Env):Room k (A.deeper env) :=
 ⟨r.hd,by have:=r.dp;show A.depth+1+3*k+5 < _;omega,by have:=r.un;show A.units+3+16*k+200 < _;omega⟩
structure RoomW (k:Nat)(A:Around):Prop where
 hd:A.handled=none
 dp:A.depth+3*k+3 < recursionLimit
 un:A.units+16*k+190 < cLine
theorem Room.w {k:Nat}{A:Around}(r:Room k A):RoomW k A:=⟨r.hd,by have:=r.dp;omega,by have:=r.un;omega⟩
theorem RoomW.deeper {k:Nat}{A:Around}(r:RoomW (k+1) A)(env:Env):Room k (A.deeper env) :=
 ⟨r.hd,by have:=r.dp;show A.depth+1+3*k+5 < _;omega,by have:=r.un;show A.units+3+16*k+200 < _;omega⟩
theorem RoomW.depth {k:Nat}{A:Around}(r:RoomW k A):A.depth < recursionLimit:=by have:=r.dp;omega
theorem nY {A:Around}{C:Addr}{us:List Value}{kw:List (Str×Value)}:(A.under (.builtin "type.__call__" ⟨.ref C::us,kw⟩)).depth=A.depth+1:=by
 first | rfl | simp[Around.under,Code.weight,Code.isCreation,Code.isGuard,Code.isCaller,Code.frames,Code.isFrame,guardIds]
theorem nZ {A:Around}{C:Addr}{us:List Value}{kw:List (Str×Value)}:(A.under (.builtin "type.__call__" ⟨.ref C::us,kw⟩)).units=A.units+1:=by
 first | rfl | simp[Around.under,Code.cUnits,Code.frames,Code.isFrame]
theorem Room.make {k:Nat}{A:Around}(r:Room k A)(C:Addr)(us:List Value)(kw:List (Str×Value)):RoomW k (A.under (.builtin "type.__call__" ⟨.ref C::us,kw⟩)) :=
 ⟨r.hd,by have:=r.dp;rw[nY];omega,by have:=r.un;rw[nZ];omega⟩
def tNil:TA:=fun _ H Q=>Q [] H
def tCons (ta:TE)(tr:TA):TA:=fun σ H Q=>ta σ H fun x H1=>tr σ H1 fun xs H2=>Q (x::xs) H2
section
variable {X:Cx}{e:Expr}{es:List Expr}{te:TE}{t:TA}{pos:Pos}
theorem gw:PA X [] tNil:=fun _ _ _ _ H Q I h=>Calls.spliced_nil ⟨[],H,I,.nil,h⟩
theorem cu (ha:PE X e te)(hr:PA X es t)(hs:starEach (e::es) X.env=(false,eval e X.env)::starEach es X.env:=by rfl):PA X (e::es) (tCons te t):=by
 intro pos pins s σ H Q I h;rw[hs];show wpAny _ _ (spliced ((false,eval e X.env)::backTo pos (starEach es X.env))) _ _ s;refine Calls.spliced_cons (thn (ha pins s σ H _ I h) fun u s1 ⟨x,H1,I1,r1,q1⟩=>?_);exact thn (hr pos pins s1 σ H1 _ I1 q1) fun us s2 ⟨xs,H2,I2,r2,q2⟩=>⟨x::xs,H2,I2,.cons r1 r2,q2⟩
def tTup (t:TA):TE:=fun σ H Q=>t σ H fun xs H1=>xs.length≤sizeLine∧∀ p,H1 p=none→Q (.ref p) (upd H1 p (.tup xs))
def tLst (t:TA):TE:=fun σ H Q=>t σ H fun xs H1=>xs.length≤sizeLine∧∀ p,H1 p=none→Q (.ref p) (upd H1 p (.lst xs))
theorem yc {x1}(h:PA X es t):PE X (.Tuple es x1 pos) (tTup t):=by
 intro pins s σ H Q I hq;refine wpAny_Tuple_spliced (thn (h pos pins s σ H _ I hq) fun us s1 ⟨xs,H1,I1,r,z,q⟩=>⟨by rw[← r.length];exact z,?_⟩);have hf:H1 s1.heap.objs.size=none:=I1.hok.fresh (Nat.le_refl _);refine⟨.ref s1.heap.objs.size,upd H1 s1.heap.objs.size (.tup xs),I1.laid (t':=s1.toks) (fun b u e=>Heap.get?_push_of_some _ e) (Nat.le_refl _) ?_,rfl,q _ hf⟩;exact⟨z,us,r,TupO.new _ _⟩
theorem n3 (h:PA X es t):PE X (.List es pos) (tLst t):=by
 intro pins s σ H Q I hq;refine wpAny_List_spliced (thn (h pos pins s σ H _ I hq) fun us s1 ⟨xs,H1,I1,r,z,q⟩=>⟨by rw[← r.length];exact z,?_⟩);have hf:H1 s1.heap.objs.size=none:=I1.hok.fresh (Nat.le_refl _);refine⟨.ref s1.heap.objs.size,upd H1 s1.heap.objs.size (.lst xs),I1.laid (t':=s1.toks) (fun b u e=>Heap.get?_push_of_some _ e) (Nat.le_refl _) ?_,rfl,q _ hf⟩;exact⟨z,us,0,r,Heap.get?_push_size _ rfl⟩
end
abbrev Sp:=List V→Hp→VK→XK→Prop
abbrev CXT:=List Env→Hp→Shared→XK→Value→Shared→Prop
structure Env0 (P:Program)(w:World)(K:Frag)(mg:Str→Option Value)(base:Heap)(A:Around)(outer:List Env)(s:Shared)(H:Hp):Prop where
 frames:A.frames=some outer
 mod:Mod K mg base
 bs:∀ b o,base.get? b=some o→s.heap.get? b=some o∧H b=none
 bsz:base.objs.size≤s.heap.objs.size
 funs:s.heap.FunFrames base outer
 frf:∀ b∈frs outer,H b=none
 hok:HOk P w H s.heap
 bare:AllBare s.gens
def CE (outer:List Env)(P:Program)(w:World)(H:Hp)(s:Shared)(Q:VK)(u:Value)(s':Shared):Prop :=
 ∃ v H',s'.os=s.os∧AllBare s'.gens∧Un (frs outer) [] H H' s.heap s'.heap∧HOk P w H' s'.heap∧RelV v u∧Q v H'
def CR (CX:CXT)(outer:List Env)(P:Program)(w:World)(H:Hp)(s:Shared)(Q:VK)(E:XK)(r:Result)(s':Shared):Prop :=
 match r with
 | .ok (.ret u)=>CE outer P w H s Q u s'
 | .ok _=>False
 | .error e=>CX outer H s E e s'
structure FnOk (P:Program)(w:World)(K:Frag)(mg:Str→Option Value)(base:Heap)(CX:CXT)(k:Nat)(f:Addr)(fd:FuncData)(ps:List Str)(sp:Sp):Prop where
 len:∀ vs H Q E,sp vs H Q E→vs.length=ps.length
 run:∀ (A:Around) (outer:List Env) (s:Shared) (H:Hp) (args:Args) (us:List Value) (vs:List V) (Q:VK) (E:XK),RoomW k A→Env0 P w K mg base A outer s H→BindsTo s fd args (ps.zip us)→Vals vs us→sp vs H Q E →
  codeAny (model P w) A (.call (.ref f) args) (CR CX outer P w H s Q E) s
theorem Env0.make {P:Program}{w:World}{K:Frag}{mg:Str→Option Value}{base:Heap}{A:Around}{outer:List Env}{s:Shared}{H:Hp}(e:Env0 P w K mg base A outer s H)(C:Addr)(us:List Value)(kw:List (Str×Value)) :
  Env0 P w K mg base (A.under (.builtin "type.__call__" ⟨.ref C::us,kw⟩)) outer s H:=⟨by first | exact e.frames | (simpa [Around.under,Code.envs,Code.isFrame,pushEnvs] using e.frames),e.mod,e.bs,e.bsz,e.funs,e.frf,e.hok,e.bare⟩
section
variable {X:Cx}{pins:List (Addr×Obj)}{σ:St}{H:Hp}{s s':Shared}
theorem Inv.env0 (I:Inv X pins σ H s):Env0 X.prog X.w X.K X.mg X.base X.A X.stack s H :=
 ⟨I.ok.frames,I.ok.mod,I.bs,Nat.le_trans I.ok.bsz I.sz,I.stack,I.stkFree,I.hok,I.bare⟩
theorem Inv.after {Q:VK}{u:Value}(I:Inv X pins σ H s)(h:CE X.stack X.prog X.w H s Q u s'):EP X pins σ Q u s':=by
 obtain⟨v,H',os,bare,un,hok,r,q⟩:=h;obtain⟨hh,g,d,t,os'⟩:=s';obtain rfl:os'=s.os:=os;exact⟨v,H',I.call (h':=hh) (g':=g) (d':=d) (t':=t) (ch:=[]) un hok bare (fun b z=>absurd z (by simp)),r,q⟩
end
def tCall (sp:Sp)(dvs:List V)(E:XK)(t:TA):TE:=fun σ H Q=>t σ H fun vs H1=>sp (vs++dvs) H1 Q E
def tMeth (C:Addr)(m:Str)(sp:Sp)(dvs:List V)(E:XK)(ta:TE)(t:TA):TE:=fun σ H Q=>ta σ H fun x H1=>∃ a dx fs,x=.ref a∧H1 a=some (.ins C dx fs)∧fs.lookup m=none ∧
 t σ H1 fun vs H2=>sp (x::(vs++dvs)) H2 Q E
def tMake (C:Addr)(sp:Sp)(dvs:List V)(E:XK)(t:TA):TE:=fun σ H Q=>t σ H fun vs H1=>∀ x dx,H1 x=none→H1 dx=none→dx≠x →
 sp (.ref x::(vs++dvs)) (upd (upd H1 dx (.own x)) x (.ins C dx [])) (fun v H2=>v=.non∧Q (.ref x) H2) E
def Binds (K:Frag)(fd:FuncData)(ps:List Str)(ds:List Value):Prop :=
 ∀ (s:Shared) (us:List Value),K.In s.heap→(us++ds).length=ps.length→BindsTo s fd ⟨us,[]⟩ (ps.zip (us++ds))
theorem Binds.all {K:Frag}{fd:FuncData}{ps:List Str}(h:∀ us:List Value,us.length=ps.length→bindArgs fd ⟨us,[]⟩=pure (ps.zip us)):Binds K fd ps []:=fun s us _ hl=>by
 rw[List.append_nil]at hl ⊢;exact .of_eq (h us hl)
def Passes (CX:CXT)(X:Cx)(E:XK):Prop:=∀ (pins:List (Addr×Obj)) (σ:St) (H:Hp) (s:Shared) (e:Value) (s':Shared),Inv X pins σ H s→CX X.stack H s E e s'→X.xe e s'
section
variable {X:Cx}{CX:CXT}{k:Nat}{f C:Addr}{fd:FuncData}{ps:List Str}{sp:Sp}{dvs:List V}{ds:List Value}{E:XK}{x m:Str}{p pos apos:Pos}{e o:Expr}{es:List Expr}{ta:TE}{t:TA}
theorem l6 {pins:List (Addr×Obj)}{σ:St}{H:Hp}{s:Shared}{Q:VK}{us:List Value}{vs:List V}(F:FnOk X.prog X.w X.K X.mg X.base CX k f fd ps sp)(hr:Room k X.A)(hb:Binds X.K fd ps ds)(hd:Vals dvs ds)(hx:Passes CX X E)
  (I:Inv X pins σ H s) (r:Vals vs us) (h:sp (vs++dvs) H Q E):wpAny (model X.prog X.w) X.A (call (.ref f) us) (EP X pins σ Q) X.xe s:=by
 have r2:Vals (vs++dvs) (us++ds):=r.append hd;have hl:(us++ds).length=ps.length:=by rw[← r2.length];exact F.len _ _ _ _ h
 refine wpAny_call (codeAny_mono (F.run X.A X.stack s H ⟨us,[]⟩ (us++ds) (vs++dvs) Q E hr.w I.env0 (hb s us I.kIn hl) r2 h) fun r s' hq=>?_);cases r with
 | error e=>exact hx pins σ H s e s' I hq
 | ok fl =>
  cases fl with
  | ret u=>exact I.after hq
  | next=>exact False.elim hq
  | brk=>exact False.elim hq
  | cont=>exact False.elim hq
theorem vj (F:FnOk X.prog X.w X.K X.mg X.base CX k f fd ps sp)(hr:Room k X.A)(hg:Gl X x)(hm:X.mg x=some (.ref f))(hk:keepIn X.K (.ref f)=true)(hb:Binds X.K fd ps ds)(hd:Vals dvs ds)(hx:Passes CX X E)
  (ha:PA X (e::es) t) (hdb:(x==("__debug__":Str))=false:=by decide) (he:starEach (e::es) X.env=(false,eval e X.env)::starEach es X.env:=by rfl) (hpl:(backTo pos (starEach es X.env)).any (·.1)=false:=by rfl) :
  PE X (.Call (.Name x p) (e::es) [] pos) (tCall sp dvs E t):=by
 intro pins s σ H Q I h;refine wpAny_Call_Name_kw (cR I hg hm ?_ hdb);refine callWith_K (h₀:=X.base) I.ok.mod.kin hk (thn (ha pos pins s σ H _ I h) fun us s1 ⟨vs,H1,I1,r,q⟩=>⟨I1.kIn,?_⟩) he hpl;exact l6 F hr hb hd hx I1 r q
theorem pG {pl:Sem Bool}(he:PE X o ta)(c:Cls X.K C)(hm:Meth X.K C m f)(F:FnOk X.prog X.w X.K X.mg X.base CX k f fd ps sp)(hr:Room k X.A)(hb:Binds X.K fd ps ds)(hd:Vals dvs ds)(hx:Passes CX X E)(ha:PA X (e::es) t)
  (hst:starEach (e::es) X.env=(false,eval e X.env)::starEach es X.env:=by rfl) (hpl:(backTo pos (starEach es X.env)).any (·.1)=false:=by rfl)
  (ht:eval (.Call (.Attribute o m apos) (e::es) [] pos) X.env=(do
   let ov ← eval o X.env
   standAt apos.atName
   let (f,first) ← holding [ov] (getMethod ov m pl)
   callWith pos f first (backTo pos (starEach (e::es) X.env)) (backToKw pos (keywordEach [] X.env))):=by rfl) :
  PE X (.Call (.Attribute o m apos) (e::es) [] pos) (tMeth C m sp dvs E ta t):=by
 intro pins s σ H Q I h;refine methodCall_KW (pl:=pl) (thn (he pins s σ H _ I h) fun u s1 ⟨x,H1,I1,rx,a,dx,fs,ex,ea,l,q⟩=>?_) ht;subst ex;obtain rfl:u=Value.ref a:=rx;refine gv I1 ea c hm l ?_;refine callWith_K (first:=[.ref a]) (h₀:=X.base) I.ok.mod.kin hm.kp (thn (ha pos pins s1 σ H1 _ I1 q) fun us s2 ⟨vs,H2,I2,r,q2⟩=>⟨I2.kIn,?_⟩) hst hpl;exact l6 (us:=.ref a::us) (vs:=.ref a::vs) F hr hb hd hx I2 (.cons rfl r) q2
theorem mP {pl:Sem Bool}(he:PE X o ta)(c:Cls X.K C)(hm:Meth X.K C m f)(F:FnOk X.prog X.w X.K X.mg X.base CX k f fd ps sp)(hr:Room k X.A)(hb:Binds X.K fd ps ds)(hd:Vals dvs ds)(hx:Passes CX X E)
  (ht:eval (.Call (.Attribute o m apos) [] [] pos) X.env=(do
   let ov ← eval o X.env
   standAt apos.atName
   let (f,first) ← holding [ov] (getMethod ov m pl)
   callWith pos f first (backTo pos (starEach [] X.env)) (backToKw pos (keywordEach [] X.env))):=by rfl) :
  PE X (.Call (.Attribute o m apos) [] [] pos) (tMeth C m sp dvs E ta tNil):=by
 intro pins s σ H Q I h;refine methodCall_KW (pl:=pl) (thn (he pins s σ H _ I h) fun u s1 ⟨x,H1,I1,rx,a,dx,fs,ex,ea,l,q⟩=>?_) ht;subst ex;obtain rfl:u=Value.ref a:=rx;refine gv I1 ea c hm l ?_;exact PySem.W.callWith_K0 (first:=[.ref a]) I1.kIn hm.kp (l6 (us:=[.ref a]) (vs:=[.ref a]) F hr hb hd hx I1 (.cons rfl .nil) q)
structure Mk (K:Frag)(C f:Addr):Prop where
 makes:makesIn K C=true
 init:findIn K (.ref C) "__init__"=some (some (.ref f))
 fn:isFn K (.ref f)=true
 kp:keepIn K (.ref C)=true
theorem mQ {pins:List (Addr×Obj)}{σ:St}{H:Hp}{s:Shared}{Q:VK}{us:List Value}{vs:List V}(M:Mk X.K C f)(F:FnOk X.prog X.w X.K X.mg X.base CX k f fd ps sp)(hr:Room k X.A)(hb:Binds X.K fd ps ds)(hd:Vals dvs ds)
  (hx:Passes CX X E) (I:Inv X pins σ H s) (r:Vals vs us)
  (h:∀ x dx,H x=none→H dx=none→dx≠x→sp (.ref x::(vs++dvs)) (upd (upd H dx (.own x)) x (.ins C dx [])) (fun v H2=>v=.non∧Q (.ref x) H2) E) :
  wpAny (model X.prog X.w) X.A (call (.ref C) us) (EP X pins σ Q) X.xe s:=by
 have hq:=h (s.heap.objs.size+1) s.heap.objs.size (I.hok.fresh (Nat.le_succ _)) (I.hok.fresh (Nat.le_refl _)) (Nat.ne_of_lt (Nat.lt_succ_self _));have I2:=Inv.made (C:=C) I;have r2:Vals (V.ref (s.heap.objs.size+1)::(vs++dvs)) (Value.ref (s.heap.objs.size+1)::(us++ds)):=.cons rfl (r.append hd);have hl:(Value.ref (s.heap.objs.size+1)::us++ds).length=ps.length:=by
  have e:=r2.length;rw[F.len _ _ _ _ hq]at e;exact e.symm
 refine wpAny_call (sF (f:=f) I.kIn M.makes M.init (beq_iff_eq.mp M.fn) (codeAny_mono (F.run _ X.stack _ _ ⟨Value.ref (s.heap.objs.size+1)::us,[]⟩ (Value.ref (s.heap.objs.size+1)::(us++ds)) _ _ E (hr.make C us [])
  (I2.env0.make C us []) (hb _ (Value.ref (s.heap.objs.size+1)::us) I2.kIn hl) r2 hq) fun r s' hq'=>?_))
 cases r with
 | error e=>exact hx pins σ _ _ e s' I2 hq'
 | ok fl =>
  cases fl with
  | ret u =>
   obtain⟨v,H',I3,rv,ev,q3⟩:=I2.after hq';subst ev;exact⟨rv,⟨V.ref (s.heap.objs.size+1),H',I3,rfl,q3⟩⟩
  | next=>exact False.elim hq'
  | brk=>exact False.elim hq'
  | cont=>exact False.elim hq'
theorem vk (M:Mk X.K C f)(F:FnOk X.prog X.w X.K X.mg X.base CX k f fd ps sp)(hr:Room k X.A)(hg:Gl X x)(hm:X.mg x=some (.ref C))(hb:Binds X.K fd ps ds)(hd:Vals dvs ds)(hx:Passes CX X E)
  (ha:PA X (e::es) t) (hdb:(x==("__debug__":Str))=false:=by decide) (he:starEach (e::es) X.env=(false,eval e X.env)::starEach es X.env:=by rfl) (hpl:(backTo pos (starEach es X.env)).any (·.1)=false:=by rfl) :
  PE X (.Call (.Name x p) (e::es) [] pos) (tMake C sp dvs E t):=by
 intro pins s σ H Q I h;refine wpAny_Call_Name_kw (cR I hg hm ?_ hdb);refine callWith_K (h₀:=X.base) I.ok.mod.kin M.kp (thn (ha pos pins s σ H _ I h) fun us s1 ⟨vs,H1,I1,r,q⟩=>⟨I1.kIn,?_⟩) he hpl;exact mQ M F hr hb hd hx I1 r q
theorem sG (M:Mk X.K C f)(F:FnOk X.prog X.w X.K X.mg X.base CX k f fd ps sp)(hr:Room k X.A)(hg:Gl X x)(hm:X.mg x=some (.ref C))(hb:Binds X.K fd ps ds)(hd:Vals dvs ds)(hx:Passes CX X E)
  (hdb:(x==("__debug__":Str))=false:=by decide):PE X (.Call (.Name x p) [] [] pos) (tMake C sp dvs E tNil):=by
 intro pins s σ H Q I h;refine wpAny_Call_Name_kw (cR I hg hm ?_ hdb);exact PySem.W.callWith_K0 I.kIn M.kp (mQ (us:=[]) M F hr hb hd hx I .nil h)
end
section
variable {X:Cx}{CX:CXT}{k:Nat}{f C:Addr}{fd:FuncData}{ps ks:List Str}{sp:Sp}{E:XK}{x m:Str}{p pos apos kpos:Pos}{e o:Expr}{es:List Expr}{kws:List Keyword}{te ta:TE}{t tk:TA}{nm:Option Str}
variable {g:List Value→List Value→List Value}{gV:List V→List V→List V}
end
structure FnScope (N P:List Str)(sc:Scope):Prop where
 kind:sc.kind=.function
 co:sc.isCoroutine=false
 gen:sc.isGenerator=false
 nd:N.Nodup
 pre:N.take P.length=P
 par:∀ x∈P,sc.names.lookup x=some .local∨sc.names.lookup x=some .cell
 nofree:∀ y∈sc.names,y.2≠.free
theorem lm {kindOf:Str→Option NameKind}{x:Str}:∀ {binds:List (Str×Value)} {m:Str→Option Value},(∀ v,(x,v)∉binds)→bindL kindOf binds m x=m x
 | [],_,_=>rfl
 | (n,v)::r,m,h=>by
  unfold bindL;rw[lm fun w hw=>h w (List.mem_cons_of_mem _ hw)];split
  ·have:x≠n:=by rintro rfl;exact h v List.mem_cons_self
   simp[this]
  ·rfl
theorem ln {kindOf:Str→Option NameKind}{x:Str}:∀ {binds:List (Str×Value)} {m:Str→Option Value},(∀ v,(x,v)∉binds)→bindC kindOf binds m x=m x
 | [],_,_=>rfl
 | (n,v)::r,m,h=>by
  unfold bindC;rw[ln fun w hw=>h w (List.mem_cons_of_mem _ hw)];split
  ·rfl
  ·have:x≠n:=by rintro rfl;exact h v List.mem_cons_self
   simp[this]
theorem ir {kindOf:Str→Option NameKind}{x:Str}{v:Value}:∀ {P:List Str} {vs:List Value} {i:Nat} {m:Str→Option Value},P.Nodup→P[i]?=some x→vs[i]?=some v→kindOf x=some .local →
  bindL kindOf (P.zip vs) m x=some v
 | [],_,_,_,_,h,_,_=>by simp at h
 | _::_,[],_,_,_,_,h,_=>by simp at h
 | p::P,w::vs,0,m,nd,h1,h2,hk=>by
  simp at h1 h2;subst h1;subst h2
  show bindL kindOf ((p,w)::P.zip vs) m p=_;unfold bindL;rw[lm fun v hv=>(List.nodup_cons.mp nd).1 (List.of_mem_zip hv).1,if_pos hk]
  simp
 | p::P,w::vs,i+1,m,nd,h1,h2,hk=>by
  show bindL kindOf ((p,w)::P.zip vs) m x=_;unfold bindL;exact ir (i:=i) (List.nodup_cons.mp nd).2 (by simpa using h1) (by simpa using h2) hk
theorem iu {kindOf:Str→Option NameKind}{x:Str}{v:Value}:∀ {P:List Str} {vs:List Value} {i:Nat} {m:Str→Option Value},P.Nodup→P[i]?=some x→vs[i]?=some v→kindOf x≠some .local →
  bindC kindOf (P.zip vs) m x=some v
 | [],_,_,_,_,h,_,_=>by simp at h
 | _::_,[],_,_,_,_,h,_=>by simp at h
 | p::P,w::vs,0,m,nd,h1,h2,hk=>by
  simp at h1 h2;subst h1;subst h2
  show bindC kindOf ((p,w)::P.zip vs) m p=_;unfold bindC;rw[ln fun v hv=>(List.nodup_cons.mp nd).1 (List.of_mem_zip hv).1,if_neg hk]
  simp
 | p::P,w::vs,i+1,m,nd,h1,h2,hk=>by
  show bindC kindOf ((p,w)::P.zip vs) m x=_;unfold bindC;exact iu (i:=i) (List.nodup_cons.mp nd).2 (by simpa using h1) (by simpa using h2) hk
def start (N:List Str)(vs:List V):St:=vs.map some++List.replicate (N.length - vs.length) none
def cxOf (CX:CXT)(P:Program)(w:World)(K:Frag)(mg:Str→Option Value)(base:Heap)(N:List Str)(qual:Str)(scope:Scope)(f:Addr)(cd:Value)(A:Around)(outer:List Env)(s:Shared)(H:Hp)(E:XK):Cx where
 prog:=P
 w:=w
 K:=K
 mg:=mg
 base:=base
 A:=A.deeper (envOfC qual scope s.heap.objs.size f cd)
 N:=N
 s₀:=s
 H₀:=H
 env:=envOfC qual scope s.heap.objs.size f cd
 outer:=outer
 stack:=envOfC qual scope s.heap.objs.size f cd::outer
 ex:=[]
 calm:=true
 fn:=fun _=>true
 pn:=[]
 xe:=fun e s'=>wpAny (model P w) (A.deeper (envOfC qual scope s.heap.objs.size f cd)) (leaving (envOfC qual scope s.heap.objs.size f cd) e) (fun _ s''=>CX outer H s E e s'') (fun e' s''=>CX outer H s E e' s'') s'
theorem gK {sc:Scope}{n:Nat}{x:Str}(h:sc.names.lookup x=some .cell):∃ c,(cellsFrom n sc.names []).lookup x=some c:=by
 have q:=cellsFrom_some sc.names n [] (.inl h);exact Option.isSome_iff_exists.mp q
theorem lq {CX:CXT}{P:Program}{w:World}{K:Frag}{mg:Str→Option Value}{base:Heap}{N ps:List Str}{qual:Str}{scope:Scope}{f:Addr}{cd:Value}{A:Around}{outer:List Env}{s s1:Shared}{H:Hp}{E:XK}{us:List Value}{vs:List V}
  (S:FnScope N ps scope) (hd:A.handled=none) (e0:Env0 P w K mg base A outer s H) (hl:vs.length=ps.length) (r:Vals vs us)
  (x:InCallC s s.heap.objs.size (bindL (envOfC qual scope s.heap.objs.size f cd).kindOf (ps.zip us) fun _=>none) (cellsFrom (s.heap.objs.size+1) scope.names []) (bindC (envOfC qual scope s.heap.objs.size f cd).kindOf (ps.zip us) fun _=>none) s1) :
  Inv (cxOf CX P w K mg base N qual scope f cd A outer s H E) [] (start N vs) H s1:=by
 have hpl:ps.length≤N.length:=by have:=congrArg List.length S.pre;rw[List.length_take]at this;omega
 obtain⟨h1,tk,rfl,hk⟩:=x.done;have noA:∀ b:Addr,b∉(cxOf CX P w K mg base N qual scope f cd A outer s H E).ex:=fun b z=>absurd (show b∈([]:List Addr) from z) (by simp)
 refine⟨⟨e0.mod,S.kind,rfl,rfl,Nat.le_refl _,fun y z c h1 h2=>?_,fun y hy=>?_,fun y c _ h=>?_,fun _=>hd,Around.frames_deeper e0.frames,.inr ⟨rfl,rfl⟩,fun b z=>absurd z (noA b),e0.bs,e0.bsz,fun b _ _=>noA b,fun b z=>absurd z (noA b),e0.funs,e0.frf⟩,
  rfl,e0.bare,Un.kept hk,⟨_,x.toInCall.ns,fun i y v h1 h2 h3=>?_⟩,fun y c h=>⟨_,x.cell y c h⟩,e0.hok.fresh (Nat.le_refl _),fun y c h=>?_,fun p hp=>absurd (show p∈([]:List (Addr×Obj)) from hp) (by simp),e0.hok.kept hk,?_⟩
 ·exact name_of_addr x.apart (PySem.mem_of_lookup h1) (PySem.mem_of_lookup h2)
 ·have hy:scope.names.lookup y=some .cell∨scope.names.lookup y=some .free:=hy;rcases hy with hy | hy
  ·exact gK hy
  ·exact absurd rfl (S.nofree _ (PySem.mem_of_lookup hy))
 ·exact Nat.le_of_lt (x.above y c (PySem.mem_of_lookup h))
 ·have hi:i < vs.length:=by
   unfold start at h2;by_cases hi:i < vs.length
   ·exact hi
   ·rw[List.getElem?_append_right (by simpa using hi)]at h2;rw[List.getElem?_replicate]at h2;split at h2<;>cases h2
  have ha:vs[i]?=some v:=by
   unfold start at h2;rw[List.getElem?_append_left (by simpa using hi),List.getElem?_map]at h2;cases e:vs[i]? with
   | none=>rw[e]at h2;cases h2
   | some a=>rw[e]at h2;cases h2;rfl
  obtain⟨u,hu,rv⟩:=r.get ha;have hp:ps[i]?=some y:=by
   rw[← S.pre,List.getElem?_take_of_lt (by omega)];exact h1
  have ndP:ps.Nodup:=by rw[← S.pre];exact S.nd.sublist (List.take_sublist _ _)
  refine⟨u,rv,?_⟩;rcases S.par y (List.mem_of_getElem? hp) with k | k
  ·exact .inl ⟨k,ir ndP hp hu k⟩
  ·obtain⟨c,e⟩:=gK (n:=s.heap.objs.size+1) k;refine .inr ⟨.inl k,c,e,?_⟩;have q:=x.cell y c e;rw[iu ndP hp hu (by show scope.names.lookup y≠_;rw[k];decide)]at q;exact q
 ·exact e0.hok.fresh (Nat.le_of_lt (x.above y c (PySem.mem_of_lookup h)))
 ·unfold start;show _=N.length;rw[List.length_append,List.length_map,List.length_replicate];omega
theorem lr {CX:CXT}{P:Program}{w:World}{K:Frag}{mg:Str→Option Value}{base:Heap}{k:Nat}{f:Addr}{name qual:Str}{params:Arguments}{body:List Stmt}{scope:Scope}{dV kV doc pm cdv ct oc:Value}{an od:Option Addr}
  {osl:Array (Option Value)} {N ps:List Str} {sp:Sp} (lk:K.lookup f=some ⟨oc,od,.func (fnOf name qual params body scope dV kV doc pm an cdv ct),osl⟩) (hcd:codeIn K cdv qual=true) (S:FnScope N ps scope)
  (len:∀ vs H Q E,sp vs H Q E→vs.length=ps.length)
  (hbody:∀ (A:Around) (outer:List Env) (s:Shared) (H:Hp) (vs:List V) (Q:VK) (E:XK),Room k (A.deeper (envOfC qual scope s.heap.objs.size f cdv))→sp vs H Q E →
   ∃ t,PSs (cxOf CX P w K mg base N qual scope f cdv A outer s H E) body t∧t { nx:=fun _ H'=>Q .non H',rt:=Q } (start N vs) H) :
  FnOk P w K mg base CX (k+1) f (fnOf name qual params body scope dV kV doc pm an cdv ct) ps sp:=by
 refine⟨len,fun A outer s H args us vs Q E hr e0 hb r hsp=>?_⟩;have hl:=len _ _ _ _ hsp;have KX:K.In s.heap:=e0.mod.kin.keeps fun b o e=>(e0.bs b o e).1
 have lim:s.heap.NoLimit:=e0.mod.nolimit.keeps fun b o e=>(e0.bs b o e).1
 have hkind:∀ y∈ps.zip us,scope.names.lookup y.1=some .local∨(scope.names.lookup y.1=some .cell∧((cellsFrom (s.heap.objs.size+1) scope.names []).lookup y.1).isSome=true):=fun ⟨n,v⟩ hy=>by
  rcases S.par n (List.of_mem_zip hy).1 with q | q
  ·exact .inl q
  ·exact .inr ⟨q,cellsFrom_some _ _ _ (.inl q)⟩
 refine codeAny_call_function hr.depth (KX _ _ lk) rfl S.co S.gen rfl (codeRec_of KX hcd) (hb _ _ _ _ ?_);refine wpAny_newFunctionEnv_cells S.kind hkind fun env he s1 x=>?_
 subst he;refine⟨lim.keeps x.toInCall.keep,codeAny_func ?_⟩;obtain⟨t,ht,hq⟩:=hbody A outer s H vs Q E (hr.deeper _) hsp;have I:Inv (cxOf CX P w K mg base N qual scope f cdv A outer s H E) [] (start N vs) H s1:=lq S hr.hd e0 hl r x;refine wpAny_mono (ht [] s1 (start N vs) H _ I hq) (fun fl s' hs=>?_) fun e s' hs=>hs
 have fin:∀ {σ':St} {H':Hp} {v:V} {u:Value},Inv (cxOf CX P w K mg base N qual scope f cdv A outer s H E) [] σ' H' s'→RelV v u→Q v H'→CE outer P w H s Q u s' :=
  fun {σ' H' v u} J rv q=>⟨v,H',J.os,J.bare,J.base,J.hok,rv,q⟩
 cases fl with
 | ret u =>
  obtain⟨v,σ',H',J,rv,q⟩:=hs;exact fin J rv q
 | next =>
  obtain⟨σ',H',J,q⟩:=hs;exact fin (v:=V.non) (u:=Value.none) J rfl q
 | brk =>
  obtain⟨_,_,_,q⟩:=hs;exact False.elim q
 | cont =>
  obtain⟨_,_,_,q⟩:=hs;exact False.elim q
end L2
namespace L2
open PySem PySem.Spec PyProof.Rows
section
variable {X:Cx}{x:Str}{p pos:Pos}{e:Expr}{es:List Expr}{t:TA}{id T:String}{r:List V→Hp→VK→Prop}
def tCB (r:List V→Hp→VK→Prop)(t:TA):TE:=fun σ H Q=>t σ H fun vs H1=>r vs H1 Q
theorem fg (hc:CallR X (.builtin id) r)(hg:Gl X x)(hm:X.mg x=none)(hv:bootBuiltins x=some (.builtin id))(ha:PA X (e::es) t)(hn:x ≠ "__name__" := by decide)(hdb:(x==("__debug__":Str))=false:=by decide)
  (he:starEach (e::es) X.env=(false,eval e X.env)::starEach es X.env:=by rfl) (hpl:(backTo pos (starEach es X.env)).any (·.1)=false:=by rfl):PE X (.Call (.Name x p) (e::es) [] pos) (tCB r t):=by
 intro pins s σ H Q I h;refine wpAny_Call_Name_kw (gu I hg hm hv ?_ hn hdb);exact PyProof.Rows.callWith_builtin1 (thn (ha pos pins s σ H _ I h) fun us s1 ⟨vs,H1,I1,r1,q1⟩=>hc pins s1 σ H1 vs us Q I1 r1 q1) he hpl
theorem lu (hc:CallR X (.type T) r)(hg:Gl X x)(hm:X.mg x=none)(hv:bootBuiltins x=some (.type T))(ha:PA X (e::es) t)(hn:x ≠ "__name__" := by decide)(hdb:(x==("__debug__":Str))=false:=by decide)
  (he:starEach (e::es) X.env=(false,eval e X.env)::starEach es X.env:=by rfl) (hpl:(backTo pos (starEach es X.env)).any (·.1)=false:=by rfl):PE X (.Call (.Name x p) (e::es) [] pos) (tCB r t):=by
 intro pins s σ H Q I h;refine wpAny_Call_Name_kw (gu I hg hm hv ?_ hn hdb);exact PyProof.Rows.callWith_type1 (thn (ha pos pins s σ H _ I h) fun us s1 ⟨vs,H1,I1,r1,q1⟩=>hc pins s1 σ H1 vs us Q I1 r1 q1) he hpl
end
end L2
namespace HT
open PySem PyProof.Rows
section
open PySem.SeqAt
open PySem.AutoSeq1 (wpAny_loadPart')
open PySem.MeetsSeq PySem.MeetsSeq2 PySem.MeetsSeq3
end
section
variable {prog:Program}{w:World}{A:Around}{E:Value→Shared→Prop}{s:Shared}
theorem vm {t b:Addr}{vs ws:List Value}{Q:Value→Shared→Prop}(ht:IsTup s.heap t vs.toArray)(hb:IsTup s.heap b ws.toArray)(hv:vs≠[])
  (h1:ws=[]→Q (.ref t) s) (h2:ws≠[]→Q (.ref s.heap.objs.size) { s with heap:=s.heap.push { cls:=.type "tuple",data:=.seq (vs++ws).toArray } })
  (hsz:vs.length+ws.length≤sizeLine):wpAny (model prog w) A (binaryOp .Add (.ref t) (.ref b)) Q E s:=by
 obtain⟨⟨cls,dd,data,sl⟩,ho,hc,n,hd⟩:=id ht;obtain⟨⟨cls2,dd2,data2,sl2⟩,ho2,hc2,n2,hd2⟩:=id hb;simp only at hc hd hc2 hd2;subst hc hd hc2 hd2;have e:vs.toArray++ws.toArray=(vs++ws).toArray:=by simp
 by_cases hw:ws=[]
 ·exact concat_meets ⟨_,ho,rfl⟩ ⟨_,ho2,rfl⟩ noFill_tuple_add seq_tuple_add PySem.F.slot_tuple_add PySem.F.entry_tuple_add (PySem.F.args_tuple_add_2 _ _)
   (tuple_addW1 t b vs.toArray ws.toArray n n2 dd dd2 sl sl2 (by simpa using hv) (by simp[hw])) ⟨ho,ho2,h1 hw⟩
 ·refine concat_meets ⟨_,ho,rfl⟩ ⟨_,ho2,rfl⟩ noFill_tuple_add seq_tuple_add PySem.F.slot_tuple_add PySem.F.entry_tuple_add (PySem.F.args_tuple_add_2 _ _)
   (tuple_addW2 t b vs.toArray ws.toArray n n2 dd dd2 sl sl2 (by simpa using hv) (by simpa using hw) (by rw[List.size_toArray,List.size_toArray];exact hsz)) ⟨ho,ho2,?_⟩
  rw[e];exact h2 hw
def sIx (n d:Nat):Option Int→Nat
 | none=>d
 | some v=>if v < 0 then (v+(n:Int)).toNat else min v.toNat n
theorem sH (n d:Nat):sIx n d none=d:=rfl
theorem ye (n d:Nat)(hd:d≤n)(o:Option Int):sIx n d o≤n:=by
 cases o with
 | none=>exact hd
 | some v =>
  show (if v < 0 then (v+(n:Int)).toNat else min v.toNat n)≤n;by_cases hv:v < 0
  ·rw[if_pos hv];omega
  ·rw[if_neg hv];exact Nat.min_le_right _ _
theorem pH (v:Int)(n d:Nat):(if v < 0 then max (v+(n:Int)) 0 else min v (n:Int))=((sIx n d (some v):Nat):Int):=by
 show (if v < 0 then max (v+(n:Int)) 0 else min v (n:Int))=(((if v < 0 then (v+(n:Int)).toNat else min v.toNat n):Nat):Int);by_cases hv:v < 0
 ·simp only[if_pos hv];omega
 ·simp only[if_neg hv];omega
theorem n6 (lo hi:Option Int)(n:Nat):Builtin.Slice.sliceAdjust lo hi 1 (n:Int)=(((sIx n 0 lo:Nat):Int),((sIx n n hi:Nat):Int)):=by
 have h1:¬ ((1:Int) < 0):=by omega
 unfold Builtin.Slice.sliceAdjust;simp only[h1,if_false];refine Prod.ext ?_ ?_
 ·cases lo with
  | none=>rfl
  | some v=>exact pH v n 0
 ·cases hi with
  | none=>rfl
  | some v=>exact pH v n n
theorem n8 (i j:Nat):Builtin.Slice.slicePlaces (i:Int) (j:Int) 1=j - i:=by
 unfold Builtin.Slice.slicePlaces;have h1:(1:Int) > 0:=by omega
 simp only[h1,if_true,Int.ediv_one];split<;>omega
theorem jv {v:Value}{o:Option Int}{Q:Option Int→Shared→Prop}(p:IsPart v o)(h:Q o s):wpAny (model prog w) A (Builtin.Slice.slicePartIndex v) Q E s:=by
 cases p with
 | none=>exact slicePart_none h
 | int i t=>exact slicePart_int h
theorem dJ {sl:Addr}{vl vu:Value}{lo hi:Option Int}{n:Nat}{Q:Int×Int×Nat→Shared→Prop}(hs:s.heap.IsSliceOf sl vl vu .none)(pl:IsPart vl lo)(pu:IsPart vu hi)
  (h:Q (((sIx n 0 lo:Nat):Int),1,sIx n n hi - sIx n 0 lo) s):wpAny (model prog w) A (Builtin.Slice.sliceApplied (.ref sl) (pure (n:Int))) Q E s:=by
 obtain⟨os,hos,hcs,hds⟩:=id hs;unfold Builtin.Slice.sliceApplied Builtin.Slice.sliceFields;refine wpAny_bind (wpAny_bind (wpAny_field hos hds (x:=vl) rfl (wpAny_bind (wpAny_field hos hds (x:=vu) rfl (wpAny_bind (wpAny_field hos hds (x:=.none) rfl (wpAny_pure ?_)))))));refine wpAny_bind (slicePart_none ?_);show wpAny _ _ (if ((1:Int)==0)=true then _ else _) _ _ s;rw[if_neg (by decide)];refine wpAny_bind (jv pl (wpAny_bind (jv pu (wpAny_bind (wpAny_pure ?_)))));show wpAny _ _ (match Builtin.Slice.sliceAdjust lo hi 1 (n:Int) with | (lo,hi)=>pure (lo,(1:Int),Builtin.Slice.slicePlaces lo hi 1)) _ _ s;rw[n6 lo hi n];show wpAny _ _ (pure (((sIx n 0 lo:Nat):Int),(1:Int),Builtin.Slice.slicePlaces ((sIx n 0 lo:Nat):Int) ((sIx n n hi:Nat):Int) 1)) _ _ s;rw[n8];exact wpAny_pure h
theorem sI (xs:Array Value)(i k:Nat):((List.range k).filterMap fun (m:Nat)=>xs[((i:Int)+(m:Int)*1).toNat]?).toArray=((xs.toList.drop i).take k).toArray:=by
 have e:(fun (m:Nat)=>xs[((i:Int)+(m:Int)*1).toNat]?)=fun m=>xs[i+m]?:=by
  funext m
  have:((i:Int)+(m:Int)*1).toNat=i+m:=by omega
  rw[this]
 rw[e];have:=pick_run xs i k;rw[List.filterMap_map]at this;have e2:((fun x=>xs[x]?)∘fun x=>i+x)=fun m=>xs[i+m]?:=rfl
 rw[e2]at this;rw[this]
theorem gL {t sl:Addr}{items:Array Value}{vl vu:Value}{lo hi:Option Int}{Q:Value→Shared→Prop}(ht:IsTup s.heap t items)(hs:s.heap.IsSliceOf sl vl vu .none)(pl:IsPart vl lo)(pu:IsPart vu hi)
  (hw:¬ (sIx items.size 0 lo=0∧sIx items.size items.size hi=items.size))
  (h:Q (.ref s.heap.objs.size) { s with heap:=s.heap.push { cls:=.type "tuple",data:=.seq ((items.toList.drop (sIx items.size 0 lo)).take (sIx items.size items.size hi - sIx items.size 0 lo)).toArray } })
  (hsz:items.size≤sizeLine):wpAny (model prog w) A (getItem (.ref t) (.ref sl)) Q E s:=by
 have htake:sizeOk (.seq ((items.toList.drop (sIx items.size 0 lo)).take (sIx items.size items.size hi - sIx items.size 0 lo)).toArray):=by
  show ((items.toList.drop (sIx items.size 0 lo)).take (sIx items.size items.size hi - sIx items.size 0 lo)).toArray.size≤sizeLine;rw[List.size_toArray,List.length_take,List.length_drop,Array.length_toList];omega
 have hj:sIx items.size items.size hi≤items.size:=ye _ _ (Nat.le_refl _) hi;obtain⟨os,hos,hcs,hds⟩:=id hs;have hTs:s.TypeIs (.ref sl) "slice" := ⟨os,hos,hcs⟩;unfold getItem
 try with_reducible refine wpAny_holding ?_
 first | refine wpAny_bind (wpAny_pure ?_) | skip
 refine wpAny_bind (wpAny_sequenceKey ht.typeIs (by decide) ?_);refine wpAny_bind (wpAny_callSpecial?_slot (name:=Str.ofString "__getitem__") ht.typeIs PyProof.Rows.slot_tuple_getitem
  (wpAny_call_entry PyProof.Rows.slot_tuple_getitem ht.typeIs entry_tuple_getitem ?_ (args_tuple_getitem _ _)))
 show wpAny _ _ (Builtin.Tuple.tupleItemsOf (.ref t) >>= _) _ _ s;refine wpAny_bind (tupleItemsOf_ ht ?_);refine wpAny_bind (wpAny_typeOf hTs ?_);rw[if_pos (by decide)];refine wpAny_bind (dJ hs pl pu ?_);have hno:¬ ((((sIx items.size 0 lo:Nat):Int)==0&&(1:Int)==1&&(sIx items.size items.size hi - sIx items.size 0 lo)==items.size)=true):=by
  intro q;rw[Bool.and_eq_true,Bool.and_eq_true]at q;have q1:((sIx items.size 0 lo:Nat):Int)=0:=eq_of_beq q.1.1;have q2:sIx items.size items.size hi - sIx items.size 0 lo=items.size:=eq_of_beq q.2;exact hw ⟨by omega,by omega⟩
 show wpAny _ _ (if (((sIx items.size 0 lo:Nat):Int)==0&&(1:Int)==1&&(sIx items.size items.size hi - sIx items.size 0 lo)==items.size)=true then _ else _) _ _ s;rw[if_neg hno,sI]
 first
  | exact wpAny_bind (m:=Builtin.Tuple.tupleExact _) (wpAny_newObj_type (wpAny_pure ⟨_,rfl,wpAny_pure h⟩) htake)
  | exact wpAny_bind (m:=Builtin.Tuple.tupleExact _) (wpAny_newObj_type (wpAny_bind (wpAny_pure (wpAny_pure ⟨_,rfl,wpAny_pure h⟩))) htake)
  | exact wpAny_bind (wpAny_bind (m:=Builtin.Tuple.tupleExact _) (wpAny_newObj_type (wpAny_pure (wpAny_pure ⟨_,rfl,wpAny_pure h⟩)) htake))
  | exact wpAny_bind (wpAny_bind (m:=Builtin.Tuple.tupleExact _) (wpAny_newObj_type (wpAny_pure ⟨_,rfl,wpAny_pure h⟩) htake))
end
end HT
namespace L2
open PySem PySem.Spec PyProof.Rows
abbrev TO:=St→Hp→(Option Int→Hp→Prop)→Prop
def PO (X:Cx)(e:Option Expr)(t:TO):Prop :=
 ∀ (pins:List (Addr×Obj)) (s:Shared) (σ:St) (H:Hp) (Q:Option Int→Hp→Prop),Inv X pins σ H s→t σ H Q →
  wpAny (model X.prog X.w) X.A (evalPart e X.env) (fun u s'=>∃ o H',Inv X pins σ H' s'∧IsPart u o∧Q o H') X.xe s
def tNoPart:TO:=fun _ H Q=>Q none H
def tPart (t:TE):TO:=fun σ H Q=>t σ H fun x H1=>∃ i,x=.int i∧Q (some i) H1
section
variable {X:Cx}{e:Expr}{te:TE}{lo hi:Option Expr}{tl th:TO}{pos p2:Pos}
theorem vn:PO X none tNoPart:=by
 intro pins s σ H Q I h;rw[evalPart_none];exact wpAny_pure ⟨none,H,I,.none,h⟩
theorem vp (h:PE X e te):PO X (some e) (tPart te):=by
 intro pins s σ H Q I hw;rw[evalPart_some];refine thn (h pins s σ H _ I hw) fun u s1 ⟨x,H1,I1,r1,q1⟩=>?_
 obtain⟨i,rfl,q⟩:=q1;obtain⟨t,rfl⟩:=r1;exact⟨some i,H1,I1,.int i t,q⟩
def SlR (X:Cx)(r:V→Option Int→Option Int→Hp→VK→Prop):Prop :=
 ∀ (pins:List (Addr×Obj)) (s:Shared) (σ:St) (H:Hp) (x:V) (v vl vu:Value) (lo hi:Option Int) (sl:Addr) (Q:VK),Inv X pins σ H s→RelV x v→s.heap.IsSliceOf sl vl vu .none→IsPart vl lo→IsPart vu hi→r x lo hi H Q →
  ∃ T id,typeLookup (.type T) "__getitem__"=pure (some (.builtin id))∧s.TypeIs v T∧wpAny (model X.prog X.w) X.A (getItem v (.ref sl)) (EP X pins σ Q) X.xe s
theorem SlR.or {r r':V→Option Int→Option Int→Hp→VK→Prop}(h:SlR X r)(h':SlR X r'):SlR X (fun x lo hi H Q=>r x lo hi H Q∨r' x lo hi H Q):=by
 intro pins s σ H x v vl vu lo hi sl Q I rx hs pl pu q;rcases q with q | q
 ·exact h pins s σ H x v vl vu lo hi sl Q I rx hs pl pu q
 ·exact h' pins s σ H x v vl vu lo hi sl Q I rx hs pl pu q
def tSl (r:V→Option Int→Option Int→Hp→VK→Prop)(te:TE)(tl th:TO):TE:=fun σ H Q=>te σ H fun x H1=>tl σ H1 fun l H2=>th σ H2 fun u H3=>r x l u H3 Q
theorem sJ {r:V→Option Int→Option Int→Hp→VK→Prop}(hr:SlR X r)(he:PE X e te)(hl:PO X lo tl)(hu:PO X hi th):PE X (.Subscript e (.Slice lo hi none p2) pos) (tSl r te tl th):=by
 intro pins s σ H Q I h;refine Subscript_ (thn (he pins s σ H _ I h) fun v s1 ⟨x,H1,I1,r1,q1⟩=>?_);refine wpAny_Slice (thn (hl pins s1 σ H1 _ I1 q1) fun vl s2 ⟨l,H2,I2,pl,q2⟩=>thn (hu pins s2 σ H2 _ I2 q2) fun vu s3 ⟨u,H3,I3,pu,q3⟩=>?_);rw[evalPart_none];refine wpAny_pure ?_;have I4:Inv X pins σ H3 { s3 with heap:=s3.heap.push { cls:=.type "slice",data:=.fields #[vl,vu,.none] } }:=I3.kept (t':=s3.toks) fun b ob q=>Heap.get?_push_of_some _ q
 obtain⟨T,id,hT,ht,hg⟩:=hr pins { s3 with heap:=s3.heap.push { cls:=.type "slice",data:=.fields #[vl,vu,.none] } } σ H3 x v vl vu l u s3.heap.objs.size Q I4 r1 (Heap.IsSliceOf.new ..) pl pu q3;show wpAny (model X.prog X.w) X.A (subscriptTail e (.Slice lo hi none p2) v (.ref s3.heap.objs.size)) (EP X pins σ Q) X.xe { s3 with heap:=s3.heap.push { cls:=.type "slice",data:=.fields #[vl,vu,.none] } };exact tail_any (ops:=[.ref s3.heap.objs.size,v]) ht hT hg (by with_unfolding_all rfl)
def cutV (xs:List V)(lo hi:Option Int):List V:=(xs.drop (HT.sIx xs.length 0 lo)).take (HT.sIx xs.length xs.length hi - HT.sIx xs.length 0 lo)
theorem iZ (xs:List V)(lo hi:Option Int):(cutV xs lo hi).length≤xs.length:=by
 unfold cutV;rw[List.length_take,List.length_drop];omega
def rSlT (K:Frag):V→Option Int→Option Int→Hp→VK→Prop:=fun x lo hi H Q=>∃ a xs,x=.ref a∧SqT K H a xs ∧
 ¬ (HT.sIx xs.length 0 lo=0∧HT.sIx xs.length xs.length hi=xs.length)∧∀ p,H p=none→Q (.ref p) (upd H p (.tup (cutV xs lo hi)))
theorem yf:SlR X (rSlT X.K):=by
 intro pins s σ H x v vl vu lo hi sl Q I rx hs pl pu h;obtain⟨a,xs,rfl,hx,hw,q⟩:=h;cases rx;obtain⟨its,r,ht,hz⟩:=I.tuple hx;have hlen:its.toArray.size=xs.length:=by rw[List.size_toArray];exact r.length.symm
 refine⟨"tuple",_,PyProof.Rows.slot_tuple_getitem.lookup,ht.typeIs,?_⟩;refine HT.gL ht hs pl pu (by rw[hlen];exact hw) ?_ (by rw[hlen];exact hz);rw[hlen];refine⟨.ref s.heap.objs.size,_,I.laid (t':=s.toks) (o:=.tup (cutV xs lo hi)) (fun b ob q=>Heap.get?_push_of_some _ q) (Nat.le_refl _) ?_,rfl,q _ (I.hok.fresh (Nat.le_refl _))⟩;exact⟨Nat.le_trans (iZ xs lo hi) hz,_,(r.drop (HT.sIx xs.length 0 lo)).take (HT.sIx xs.length xs.length hi - HT.sIx xs.length 0 lo),TupO.new _ _⟩
def rCatT (K:Frag):R2:=fun x y H Q=>∃ a b xs ys,x=.ref a∧y=.ref b∧SqT K H a xs∧SqT K H b ys∧xs≠[]∧xs.length+ys.length≤sizeLine ∧
 (ys=[]→Q (.ref a) H)∧(ys≠[]→∀ p,H p=none→Q (.ref p) (upd H p (.tup (xs++ys))))
theorem Vals.nil_iff {xs:List V}{us:List Value}(r:Vals xs us):us=[]↔xs=[]:=by
 cases r with
 | nil=>simp
 | cons _ _=>simp
theorem vq:OpR X (binaryOp .Add) (rCatT X.K):=by
 intro pins s σ H x y v u Q I rx ry h;obtain⟨a,b,xs,ys,rfl,rfl,ha,hb,hx,hz,q1,q2⟩:=h;cases rx;cases ry;obtain⟨its,r1,p1,_⟩:=I.tuple ha;obtain⟨its2,r2,p2,_⟩:=I.tuple hb;refine HT.vm p1 p2 (fun z=>hx (r1.nil_iff.mp z)) (fun z=>⟨.ref a,H,I,rfl,q1 (r2.nil_iff.mp z)⟩) (fun z=>?_) (by rw[← r1.length,← r2.length];exact hz);refine⟨.ref s.heap.objs.size,_,I.laid (t':=s.toks) (o:=.tup (xs++ys)) (fun b ob q=>Heap.get?_push_of_some _ q) (Nat.le_refl _) ?_,rfl,q2 (fun w=>z (r2.nil_iff.mpr w)) _ (I.hok.fresh (Nat.le_refl _))⟩;exact⟨by rw[List.length_append];exact hz,_,r1.append r2,TupO.new _ _⟩
end
end L2
namespace L2
open PySem PySem.Spec PyProof.Rows
def ixN (n:Nat)(i:Int):Option Nat:=if 0≤i then (if i < n then some i.toNat else none) else if -(n:Int)≤i then some (i+n).toNat else none
def atI {α:Type}(xs:List α)(i:Int):Option α:=(ixN xs.length i).bind fun j=>xs[j]?
theorem vr {n:Nat}{i:Int}{j:Nat}(h:ixN n i=some j):seqIndex? i n=some j∧j < n∧-(n:Int)≤i∧i < n:=by
 unfold ixN at h;by_cases h0:0≤i
 ·rw[if_pos h0]at h;by_cases h1:i < n
  ·rw[if_pos h1]at h;have e:i.toNat=j:=Option.some.inj h;exact⟨by rw[seqIndex_of h0 h1,e],by omega,by omega,h1⟩
  ·rw[if_neg h1]at h;cases h
 ·rw[if_neg h0]at h;by_cases h1 : -(n:Int)≤i
  ·rw[if_pos h1]at h;have e:(i+n).toNat=j:=Option.some.inj h;exact⟨by rw[seqIndex_neg (by omega) h1,e],by omega,h1,by omega⟩
  ·rw[if_neg h1]at h;cases h
theorem l7 {α:Type}{xs:List α}{i:Int}{v:α}(h:atI xs i=some v):∃ j,seqIndex? i xs.length=some j∧xs[j]?=some v∧j < xs.length∧-(xs.length:Int)≤i∧i < xs.length:=by
 unfold atI at h;cases e:ixN xs.length i with
 | none=>rw[e]at h;cases h
 | some j =>
  rw[e]at h;obtain⟨h1,h2,h3,h4⟩:=vr e;exact⟨j,h1,h,h2,h3,h4⟩
theorem pI {α:Type}{xs:List α}{j:Nat}{v:α}(h:xs[j]?=some v):atI xs (j:Int)=some v:=by
 have hj:j < xs.length:=(List.getElem?_eq_some_iff.mp h).1;have e:ixN xs.length (j:Int)=some j:=by
  unfold ixN;rw[if_pos (by omega),if_pos (by omega)];simp
 unfold atI;rw[e];exact h
def PlainIx (b:Expr):Prop:=∀ o i,subscripted b false o i=operate [o,i] (getItem o i)
def IxR (X:Cx)(r:R2):Prop :=
 ∀ (value slice:Expr) (pins:List (Addr×Obj)) (s:Shared) (σ:St) (H:Hp) (x y:V) (v u:Value) (Q:VK),Inv X pins σ H s→RelV x v→RelV y u→r x y H Q →
  subscripted slice false v u=operate [v,u] (getItem v u)→wpAny (model X.prog X.w) X.A (subscriptTail value slice v u) (EP X pins σ Q) X.xe s
def MtR (X:Cx)(id:String)(r:V→List V→Hp→VK→Prop):Prop :=
 ∀ (pins:List (Addr×Obj)) (s:Shared) (σ:St) (H:Hp) (x:V) (xs:List V) (v:Value) (us:List Value) (Q:VK),Inv X pins σ H s→RelV x v→Vals xs us→r x xs H Q →
  wpAny (model X.prog X.w) X.A (call (.builtin id) (v::us)) (EP X pins σ Q) X.xe s
section
variable {X:Cx}{a b:Expr}{ta tb:TE}{pos:Pos}
theorem IxR.or {r r':R2}(h:IxR X r)(h':IxR X r'):IxR X (fun x y H Q=>r x y H Q∨r' x y H Q):=by
 intro value slice pins s σ H x y v u Q I rx ry q hs;rcases q with q | q
 ·exact h value slice pins s σ H x y v u Q I rx ry q hs
 ·exact h' value slice pins s σ H x y v u Q I rx ry q hs
theorem xx {r:R2}(hr:IxR X r)(ha:PE X a ta)(hb:PE X b tb)(hs:PlainIx b):PE X (.Subscript a b pos) (tOp r ta tb):=by
 intro pins s σ H Q I h;exact Subscript_ (binT ha hb I h fun v u s2 x y H2 I2 rx ry q=>hr a b pins s2 σ H2 x y v u Q I2 rx ry q (hs _ _))
def rIxL (K:Frag):R2:=fun x y H Q=>∃ p xs i v,x=.ref p∧y=.int i∧SqL K H p xs∧atI xs i=some v∧Q v H
def rIxT (K:Frag):R2:=fun x y H Q=>∃ p xs i v,x=.ref p∧y=.int i∧SqT K H p xs∧atI xs i=some v∧Q v H
def rIxS:R2:=fun x y H Q=>∃ z i c,x=.str z∧y=.int i∧z.length≤sizeLine∧atI z.cps.toList i=some c∧Q (.str ⟨#[c]⟩) H
theorem vt:IxR X (rIxL X.K):=by
 intro value slice pins s σ H x y v u Q I rx ry h hs;obtain⟨p,xs,i,z,rfl,rfl,hq,he,q⟩:=h;cases rx;obtain⟨t,rfl⟩:=ry;obtain⟨its,r,pl,hz⟩:=I.list hq;obtain⟨j,h1,h2,h3,h4,h5⟩:=l7 he;obtain⟨w,ew,rw'⟩:=r.get h2;have hl:=r.length;have hn:=line63;have fin:EP X pins σ Q w s:=⟨z,H,I,rw',q⟩;by_cases h0:0≤i
 ·have hj:i.toNat=j:=by
   rw[seqIndex_of h0 h5]at h1;exact Option.some.inj h1
  exact item_listR pl.isList h0 (by omega) (by rw[hj];simpa using ew) fin hs
 ·have hj:(i+(its.toArray.size:Int)).toNat=j:=by
   rw[seqIndex_neg (by omega) h4]at h1;rw[List.size_toArray,← hl];exact Option.some.inj h1
  exact subscriptTail_builtinR (x:=w) pl.isList.typeIs slot_list_getitem.lookup
   (wpAny_getItem_list_neg (Q:=fun r s'=>r=w∧EP X pins σ Q r s') pl.isList (by omega) (by rw[List.size_toArray]<;>omega) (by omega) (by rw[hj];simpa using ew) ⟨rfl,fin⟩) hs
theorem yg:IxR X (rIxT X.K):=by
 intro value slice pins s σ H x y v u Q I rx ry h hs;obtain⟨p,xs,i,z,rfl,rfl,hq,he,q⟩:=h;cases rx;obtain⟨t,rfl⟩:=ry;obtain⟨its,r,pl,hz⟩:=I.tuple hq;obtain⟨j,h1,h2,h3,h4,h5⟩:=l7 he;obtain⟨w,ew,rw'⟩:=r.get h2;have hl:=r.length;have hn:=line63;have fin:EP X pins σ Q w s:=⟨z,H,I,rw',q⟩;exact subscriptTail_builtinR (x:=w) pl.typeIs slot_tuple_getitem.lookup
  (getItem_tuple (j:=j) (Q:=fun r s'=>r=w∧EP X pins σ Q r s') pl (by omega) (by omega) (by rw[List.size_toArray,← hl];exact h1) (by simpa using ew) ⟨rfl,fin⟩) hs
theorem yh:IxR X rIxS:=by
 intro value slice pins s σ H x y v u Q I rx ry h hs;obtain⟨z,i,c,rfl,rfl,hz,he,q⟩:=h;obtain⟨t,rfl⟩:=rx;obtain⟨t',rfl⟩:=ry;obtain⟨j,h1,h2,h3,h4,h5⟩:=l7 he;have hl:z.cps.toList.length=z.length:=by simp[Str.length]
 rw[hl]at h1 h4 h5;have hn:=line63;exact tail_any (typeIs_str s z t) slot_str_getitem.lookup (getItem_str (c:=c) (by
  have e1:decide (i < -(2^63:Int))=false:=decide_eq_false (by omega);have e2:decide (i≥2^63)=false:=decide_eq_false (by omega);rw[e1,e2,Bool.or_false]) (by rw[h1];simpa using h2) ⟨.str ⟨#[c]⟩,H,I.tok _,⟨_,rfl⟩,q⟩) hs
def rIx (K:Frag):R2:=fun x y H Q=>rIxL K x y H Q∨rIxT K x y H Q∨rIxS x y H Q
theorem sK:IxR X (rIx X.K):=vt.or (yg.or yh)
theorem Inv.lst {pins:List (Addr×Obj)}{σ:St}{H:Hp}{s:Shared}{p:Addr}{xs:List V}(I:Inv X pins σ H s)(h:H p=some (.lst xs)) :
  ∃ (its:List Value) (n:Nat),Vals xs its∧s.heap.get? p=some { cls:=.type "list",data:=.seq its.toArray n }∧xs.length≤sizeLine:=by
 obtain⟨z,its,n,r,e⟩:=I.hok p _ h;exact⟨its,n,r,e,z⟩
theorem l8 (lo hi:Option Int)(n:Nat):(sliceBounds lo hi none n).1=((HT.sIx n 0 lo:Nat):Int)∧(sliceBounds lo hi none n).2.1=((HT.sIx n n hi:Nat):Int)∧(sliceBounds lo hi none n).2.2=1:=by
 refine⟨?_,?_,rfl⟩
 ·cases lo with
  | none=>simp[sliceBounds,HT.sIx]
  | some i =>
   simp only[sliceBounds,HT.sIx,Option.getD_none,show (1:Int) > 0 by decide,if_true];by_cases h:i < 0
   ·simp only[h,if_true]<;>omega
   ·simp only[h,if_false]<;>omega
 ·cases hi with
  | none=>simp[sliceBounds,HT.sIx]
  | some i =>
   simp only[sliceBounds,HT.sIx,Option.getD_none,show (1:Int) > 0 by decide,if_true];by_cases h:i < 0
   ·simp only[h,if_true]<;>omega
   ·simp only[h,if_false]<;>omega
theorem kF (its:List Value)(lo hi:Option Int):slicePick its.toArray lo hi none=((its.drop (HT.sIx its.length 0 lo)).take (HT.sIx its.length its.length hi - HT.sIx its.length 0 lo)).toArray:=by
 obtain⟨h1,h2,h3⟩:=l8 lo hi its.toArray.size;unfold slicePick;rw[h1,h2,h3];simp only[sliceRange_one,pick_run,List.size_toArray]<;>rfl
def rSlL (K:Frag):V→Option Int→Option Int→Hp→VK→Prop:=fun x lo hi H Q=>∃ a xs,x=.ref a∧SqL K H a xs∧∀ p,H p=none→Q (.ref p) (upd H p (.lst (cutV xs lo hi)))
theorem vw:SlR X (rSlL X.K):=by
 intro pins s σ H x v vl vu lo hi sl Q I rx hs pl pu h;obtain⟨a,xs,rfl,hx,q⟩:=h;cases rx;obtain⟨its,r,ht,hz⟩:=I.list hx;have hlen:=r.length;refine⟨"list",_,slot_list_getitem.lookup,ht.isList.typeIs,?_⟩;refine wpAny_getItem_list_slice ht.isList hs pl pu .none (by simp) ?_ (by rw[List.size_toArray]<;>omega);rw[kF,← hlen];refine⟨.ref s.heap.objs.size,_,I.laid (t':=s.toks) (o:=.lst (cutV xs lo hi)) (fun b ob q=>Heap.get?_push_of_some _ q) (Nat.le_refl _) ?_,rfl,q _ (I.hok.fresh (Nat.le_refl _))⟩;exact⟨Nat.le_trans (iZ xs lo hi) hz,_,0,(r.drop (HT.sIx xs.length 0 lo)).take (HT.sIx xs.length xs.length hi - HT.sIx xs.length 0 lo),Heap.get?_push_size _ rfl⟩
def flatV:V→Bool
 | .non=>true
 | .bl _=>true
 | .int _=>true
 | .str _=>true
 | _=>false
def eqV:V→V→Bool
 | .non,.non=>true
 | .bl a,.bl b=>a==b
 | .bl a,.int b=>(if a then 1 else 0)==b
 | .int a,.bl b=>a==(if b then 1 else 0)
 | .int a,.int b=>a==b
 | .str a,.str b=>a==b
 | _,_=>false
theorem sL {A:Around}{s:Shared}{y x:V}{u v:Value}(ry:RelV y u)(rx:RelV x v)(fy:flatV y=true)(fx:flatV x=true):SeqAt.EqAt A s u v (eqV y x):=by
 cases y with
 | non =>
  cases ry;cases x with
  | non=>cases rx;exact SeqAt.EqAt.same _
  | bl b=>cases rx;exact SeqAt.EqAt.none_bool b
  | int b=>obtain⟨t,rfl⟩:=rx;exact SeqAt.EqAt.none_int b t
  | str b=>obtain⟨t,rfl⟩:=rx;exact SeqAt.EqAt.none_str b t
  | _=>exact absurd (show false=true from fx) Bool.false_ne_true
 | bl a =>
  cases ry;cases x with
  | non=>cases rx;exact SeqAt.EqAt.bool_none a
  | bl b=>cases rx;exact SeqAt.EqAt.bool_bool a b
  | int b=>obtain⟨t,rfl⟩:=rx;exact SeqAt.EqAt.bool_int a b t
  | str b=>obtain⟨t,rfl⟩:=rx;exact SeqAt.EqAt.bool_str a b t
  | _=>exact absurd (show false=true from fx) Bool.false_ne_true
 | int a =>
  obtain⟨t',rfl⟩:=ry;cases x with
  | non=>cases rx;exact SeqAt.EqAt.int_none a t'
  | bl b=>cases rx;exact SeqAt.EqAt.int_bool a t' b
  | int b=>obtain⟨t,rfl⟩:=rx;exact SeqAt.EqAt.int_int a t' b t
  | str b=>obtain⟨t,rfl⟩:=rx;exact SeqAt.EqAt.int_str a t' b t
  | _=>exact absurd (show false=true from fx) Bool.false_ne_true
 | str a =>
  obtain⟨t',rfl⟩:=ry;cases x with
  | non=>cases rx;exact SeqAt.EqAt.str_none a t'
  | bl b=>cases rx;exact SeqAt.EqAt.str_bool a t' b
  | int b=>obtain⟨t,rfl⟩:=rx;exact SeqAt.EqAt.str_int a t' b t
  | str b=>obtain⟨t,rfl⟩:=rx;exact SeqAt.EqAt.str_str a t' b t
  | _=>exact absurd (show false=true from fx) Bool.false_ne_true
 | _=>exact absurd (show false=true from fy) Bool.false_ne_true
theorem l9:CallR X (.builtin "len") (fun xs H Q=>∃ p ys,xs=[.ref p]∧(SqL X.K H p ys∨SqT X.K H p ys)∧Q (.int ys.length) H):=by
 intro pins s σ H xs us Q I r h;obtain⟨p,ys,rfl,hq,q⟩:=h;obtain⟨u,rfl,rx⟩:=vals1 r;cases rx;have hn:=line63;rcases hq with hq | hq
 ·obtain⟨its,r',pl,hz⟩:=I.list hq;have hlen:=r'.length;exact Calls.call_len_list pl.isList (by simp only[List.size_toArray]<;>omega) ⟨.int ys.length,H,I.tok _,⟨s.toks+1,by rw[List.size_toArray,hlen]⟩,q⟩
 ·obtain⟨its,r',pl,hz⟩:=I.tuple hq;have hlen:=r'.length;exact len_tuple pl (by simp only[List.size_toArray]<;>omega) ⟨.int ys.length,H,I.tok _,⟨s.toks+1,by rw[List.size_toArray,hlen]⟩,q⟩
theorem kG:CallR X (.type "tuple") (fun xs H Q=>∃ p ys,xs=[.ref p]∧((SqL X.K H p ys∧∀ l,H l=none→Q (.ref l) (upd H l (.tup ys)))∨(SqT X.K H p ys∧Q (.ref p) H))):=by
 intro pins s σ H xs us Q I r h;obtain⟨p,ys,rfl,h⟩:=h;obtain⟨u,rfl,rx⟩:=vals1 r;cases rx;rcases h with ⟨hq,q⟩ | ⟨hq,q⟩
 ·obtain⟨its,r',pl,hz⟩:=I.list hq;have hlen:=r'.length;refine call_tuple_list pl.isList (fun h' kp=>?_) (by simp only[List.size_toArray]<;>omega);have I1:Inv X pins σ H { s with heap:=h' }:=I.kept (t':=s.toks) kp;have I2:Inv X pins σ (upd H h'.objs.size (.tup ys)) { s with heap:=h'.push { cls:=.type "tuple",data:=.seq its.toArray } } :=
   I1.laid (t':=s.toks) (fun b o e=>Heap.get?_push_of_some _ e) (Nat.le_refl _) (show ObjOk X.prog X.w _ _ _ (.tup ys) from ⟨hz,its,r',TupO.new _ _⟩)
  exact⟨.ref h'.objs.size,_,I2,rfl,q _ (I1.hok.fresh (Nat.le_refl _))⟩
 ·obtain⟨its,r',pl,hz⟩:=I.tuple hq;exact call_tuple_same pl ⟨.ref p,H,I,rfl,q⟩
def tyV (K:Frag)(T:String)(x:V)(H:Hp):Prop:=match x with
 | .str _=>T="str"
 | .int _=>T="int"
 | .ref p=>(T="list" ∧ ∃ xs,SqL K H p xs)∨(T="tuple" ∧ ∃ o,K.lookup p=some o∧o.cls=.type "tuple" ∧ o.dict=none) ∨
   (T="dict" ∧ ((∃ kvs,H p=some (.dK kvs))∨∃ kvs,H p=some (.dT kvs)))∨(T="set" ∧ ∃ S n,H p=some (.set S n))
 | _=>False
theorem yi {pins:List (Addr×Obj)}{σ:St}{H:Hp}{s:Shared}{T:String}{x:V}{v:Value}(I:Inv X pins σ H s)(r:RelV x v)(ty:tyV X.K T x H) :
  s.TypeIs v T∧∀ a,v=.ref a→∃ ob,s.heap.get? a=some ob∧ob.dict=none:=by
 cases x with
 | str z =>
  obtain⟨t,rfl⟩:=r;cases (show T="str" from ty);exact⟨typeIs_str s z t,fun _ e=>nomatch e⟩
 | int i =>
  obtain⟨t,rfl⟩:=r;cases (show T="int" from ty);exact⟨typeIs_int s i t,fun _ e=>nomatch e⟩
 | ref p =>
  cases r;rcases ty with ⟨rfl,xs,hq⟩ | ⟨rfl,o,hk,hc,hd⟩ | ⟨rfl,hk⟩ | ⟨rfl,S,n,hk⟩
  ·obtain⟨its,_,pl,_⟩:=I.list hq;refine⟨pl.isList.typeIs,fun a e=>?_⟩;cases e;obtain⟨o,n,e,c,hd,_⟩:=pl;exact⟨o,e,hd⟩
  ·refine⟨⟨o,I.kIn p o hk,hc⟩,fun a e=>?_⟩;cases e;exact⟨o,I.kIn _ o hk,hd⟩
  ·have z:∃ o,s.heap.get? p=some o∧o.ExactDict:=by
    rcases hk with ⟨kvs,hk⟩ | ⟨kvs,hk⟩
    ·obtain⟨_,_,_,_,o,_,_,e,ex,_⟩:=I.hok p _ hk;exact⟨o,e,ex⟩
    ·obtain⟨_,_,_,_,o,_,_,e,ex,_⟩:=I.hok p _ hk;exact⟨o,e,ex⟩
   obtain⟨o,e,ex⟩:=z;refine⟨⟨o,e,ex.1⟩,fun a e2=>?_⟩;cases e2;exact⟨o,e,ex.2.1⟩
  ·obtain⟨o,_,_,_,e,ex,_⟩:=I.hok p _ hk;refine⟨⟨o,e,ex.1⟩,fun a e2=>?_⟩;cases e2;exact⟨o,e,ex.2.1⟩
 | _=>exact False.elim ty
def tBM (K:Frag)(T:String)(r:V→List V→Hp→VK→Prop)(to:TE)(t:TA):TE:=fun σ H Q=>to σ H fun x H1=>tyV K T x H1∧t σ H1 fun xs H2=>r x xs H2 Q
variable {o e:Expr}{es:List Expr}{to:TE}{t:TA}{name:Str}{apos cpos:Pos}{T id:String}{r:V→List V→Hp→VK→Prop}
theorem lw (pa:PlainAttrs T)(slot:Slot T name id)(hty:typeOf (.builtin id)=pure (.type "method_descriptor"))(hm:MtR X id r)(ho:PE X o to)(ha:PA X (e::es) t)
  (hbase:attributeBase o name X.env (eval o X.env)=eval o X.env:=by rfl)
  (hfew:((backTo cpos (starEach (e::es) X.env)).all (fun x=>!x.1)&&(backToKw cpos (keywordEach [] X.env)).all (fun x=>x.1.isSome)
   && decide ((e::es).length+([]:List Keyword).length+(if ([]:List Keyword).isEmpty then 0 else 1) < 30))=true:=by rfl)
  (hline:(apos.endLine==cpos.line)=true:=by rfl) (hs:starEach (e::es) X.env=(false,eval e X.env)::starEach es X.env:=by rfl) (hplain:(backTo cpos (starEach es X.env)).any (·.1)=false:=by rfl) :
  PE X (.Call (.Attribute o name apos) (e::es) [] cpos) (tBM X.K T r to t):=by
 intro pins s σ H Q I h;refine wpAny_Call_method_late hbase hfew hline rfl (thn (ho pins s σ H _ I h) fun v s1 ⟨x,H1,I1,r1,ty,q1⟩=>?_);obtain⟨h1,h2⟩:=yi I1 r1 ty;refine⟨T,id,pa,slot,hty,h1,h2,?_⟩;have hA:=ha cpos pins s1 σ H1 _ I1 q1;rw[hs]at hA ⊢;refine Calls.callWith_builtin (by show (false||(backTo cpos (starEach es X.env)).any (·.1))=false;rw[hplain]<;>rfl) (Calls.evalArgs_plain ?_);exact thn hA fun us s2 ⟨vs,H2,I2,r2,q2⟩=>hm pins s2 σ H2 x vs v us Q I2 r1 r2 q2
end
end L2
namespace L2
open PySem PySem.Spec PyProof.Rows
def MtM (X:Cx)(id:String)(r:V→List V→Hp→VK→Prop):Prop :=
 ∀ (pins:List (Addr×Obj)) (s:Shared) (σ:St) (H:Hp) (x:V) (xs:List V) (v:Value) (us:List Value) (Q:VK),Inv X pins σ H s→RelV x v→Vals xs us→r x xs H Q →
  wpAny (model X.prog X.w) X.A (call (.builtin id) (v::us)) (EP X pins σ Q) X.xe s
theorem Vals.one:∀ {x:V} {us:List Value},Vals [x] us→∃ u,us=[u]∧RelV x u
 | _,_,.cons r .nil=>⟨_,rfl,r⟩
theorem Vals.rep {xs:List V}{us:List Value}(h:Vals xs us):∀ k:Nat,Vals (List.replicate k xs).flatten (List.replicate k us).flatten
 | 0=>.nil
 | k+1=>by
  rw[List.replicate_succ,List.replicate_succ,List.flatten_cons,List.flatten_cons];exact Vals.append h (Vals.rep h k)
theorem iw (its:List Value):∀ (k:Nat) (acc:List Value),
  List.foldl (fun x1 x2=>x1++x2) acc.toArray (List.replicate k its.toArray)=(acc++(List.replicate k its).flatten).toArray
 | 0,acc=>by simp
 | k+1,acc=>by
  have e:acc.toArray++its.toArray=(acc++its).toArray:=by simp
  have e2:(acc++its)++(List.replicate k its).flatten=acc++(List.replicate (k+1) its).flatten:=by
   rw[List.replicate_succ,List.flatten_cons,List.append_assoc]
  rw[← e2,← iw its k (acc++its),← e,List.replicate_succ,List.foldl_cons]
section
variable {X:Cx}{pins:List (Addr×Obj)}{σ:St}{H:Hp}{s:Shared}{l b:Addr}{xs ys zs:List V}
theorem Inv.lset {its its':List Value}{n:Nat}{f:Array Value→Array Value}{t':Nat}(I:Inv X pins σ H s)(hH:H l=some (.lst xs))
  (e:s.heap.get? l=some { cls:=.type "list",data:=.seq its.toArray n }) (hf:f its.toArray=its'.toArray) (hv:Vals ys its') (hz:ys.length≤sizeLine) :
  Inv X pins σ (upd H l (.lst ys)) { s with heap:=s.heap.update l (Obj.mapSeq f),toks:=t' }:=by
 have q:=PySem.IsL.update e f;rw[hf]at q;refine I.write (x:=l) (e:=l) (by rw[hH];exact trivial) (.inl rfl) (fun b' u hb hu=>(Heap.get?_update_other s.heap (Obj.mapSeq f) (Ne.symm hb)).trans hu) ⟨_,q⟩ ?_;exact⟨hz,its',_,hv,q⟩
theorem Inv.lnew {its:List Value}{t':Nat}(I:Inv X pins σ H s)(hv:Vals ys its)(hz:ys.length≤sizeLine) :
  Inv X pins σ (upd H s.heap.objs.size (.lst ys)) { s with heap:=s.heap.push { cls:=.type "list",data:=.seq its.toArray },toks:=t' } :=
 I.laid (fun _ _ q=>Heap.get?_push_of_some _ q) (Nat.le_refl _) ⟨hz,its,0,hv,Heap.get?_push_size _ rfl⟩
theorem Inv.fresh (I:Inv X pins σ H s):H s.heap.objs.size=none:=I.hok.fresh (Nat.le_refl _)
theorem Inv.lstM (I:Inv X pins σ H s)(hH:H l=some (.lst xs)):xs.length≤sizeLine∧∃ (its:List Value) (n:Nat),Vals xs its∧xs.length=its.length∧s.heap.get? l=some { cls:=.type "list",data:=.seq its.toArray n }:=by
 obtain⟨z,its,n,r,e⟩:=I.hok l _ hH;exact⟨z,its,n,r,r.length,e⟩
theorem notLongL {n:Nat}(h:n≤sizeLine):Builtin.List.listTooLong n=false:=by
 unfold Builtin.List.listTooLong;exact decide_eq_false (by omega)
end
section
variable {X:Cx}
def rAppend:V→List V→Hp→VK→Prop:=fun x vs H Q=>∃ l xs y,x=.ref l∧vs=[y]∧H l=some (.lst xs)∧xs.length < sizeLine∧Q .non (upd H l (.lst (xs++[y])))
theorem ly:MtM X "list.append" rAppend:=by
 intro pins s σ H x vs v us Q I rx rv h;obtain⟨l,xs,y,rfl,rfl,hH,hz,q⟩:=h;cases rx;obtain⟨u,rfl,ru⟩:=rv.one;obtain⟨z,its,n,r,hl,e⟩:=I.lstM hH;refine call_meets F.slot_list_append ⟨_,e,rfl⟩ F.entry_list_append (F.args_list_append_2 _ _) (PySem.list_append l its.toArray n u (by rw[List.size_toArray];omega)) ⟨e,?_⟩;refine⟨.non,_,I.lset (its':=its++[u]) hH e (by simp) (r.append (.cons ru .nil)) ?_,rfl,q⟩;rw[List.length_append,List.length_singleton];omega
theorem pJ {α:Type}(xs:List α)(k:Nat):(List.replicate k xs).flatten.length=k*xs.length:=by
 induction k with
 | zero=>simp
 | succ k ih=>rw[List.replicate_succ,List.flatten_cons,List.length_append,ih,Nat.succ_mul,Nat.add_comm]
end
section
variable {prog:Program}{w:World}{A:Around}{E:Value→Shared→Prop}{s:Shared}
set_option maxRecDepth 100000 in
end
section
variable {X:Cx}
end
end L2
namespace Att
open PySem PySem.W PySem.Calls PyProof.Rows
theorem jd {P:Params}{h:Heap}:∀ (ns:List Int) (vs:List Value),WellAll P h vs (ns.map WData.int)→IntsAre vs ns:=by
 intro ns
 induction ns with
 | nil =>
  intro vs w;rw[List.map_nil]at w;cases w;exact .nil
 | cons n ns ih =>
  intro vs w;rw[List.map_cons]at w;cases w with
  | cons a b =>
   cases a;exact .cons _ _ (ih _ b)
theorem qM {l:OpenLaw}{n:Nat}(hn:l.most=some n){P:Params}{h:Heap}{args:List WData}{vals:List Value}
  (hpre:l.row.toRowW.claim.pre args=true) (hwl:WellAll P h vals args) :
  ∃ a vs ns,vals=[Value.ref a]∧args=[WData.list (ns.map WData.int)]∧h.get? a=some { cls:=.type "list",data:=.seq vs.toArray }∧IntsAre vs ns∧ns.length≤n:=by
 have hsh:WShape.hasAll [] args [.list .int]=true:=(pre_splitW hpre).1;have hc:l.pre.holds [] { args:=args }=true:=(pre_splitW hpre).2;obtain⟨d,r,rfl,h1,h2⟩:=hasAllW_cons hsh;obtain rfl:=hasAllW_nil h2;obtain⟨xs,rfl,h3⟩:=hasW_list h1;obtain⟨ns,rfl⟩:=items_int h3;have hlen:ns.length≤n:=by
  unfold OpenLaw.pre at hc;have h4:(WTm.not (.lt (.lit (.int (n:Int))) (.len (.arg 0)))).holds [] { args:=[.list (ns.map .int)] }=true:=by
   have h4:=(holds_andW hc).1;rw[hn]at h4;exact h4
  have h5:=condW_of h4 (w_not (w_lt w_lit (w_len_list (w_arg rfl))));rw[List.length_map]at h5;refine Nat.le_of_not_lt fun q=>?_
  have q':(n:Int) < ((ns.length:Nat):Int):=by omega
  first
   | (rw[decide_eq_true q']at h5;exact absurd h5 (by decide))
   | (simp at h5;omega)
 cases hwl with
 | cons w1 w2 =>
  cases w2;cases w1 with
  | list ho hall=>exact⟨_,_,ns,rfl,rfl,ho,jd ns _ hall,hlen⟩
theorem qN (l:OpenLaw)(args:List WData):l.row.toRowW.claim.post args (.bool true) args=true :=
 postW_of (r:=l.row.toRowW) (X:=(true==true))
  (show WShape.has [] (.bool true) .bool=true by first | rfl | decide | simp[WShape.has,WShape.arms,WShape.armsAll])
  (show (WTm.eq .res (.lit (.bool true))).value [] { args:=args,res:=some (.bool true),after:=args }=some (.bool (true==true)) from w_eq_bool (w_res rfl) w_lit) rfl
theorem attach_call {l:OpenLaw}{n:Nat}{q:Program}{loose:List Str}{XP:(Str→Option Value)→Heap→Prop}{YP:World→Heap→Prop}{d:DefRec}
  (hn:l.most=some n) (hdf:d.params.defaults=[])
  (call:∀ (w:World) (s₀ s₁:Shared) (mg mb:Str→Option Value) (fa:Addr) (o:Obj) (pm cd doc:Value) (a:Addr) (vs:List Value) (ns:List Int),
   Ground q loose [] XP w s₀ mg mb s₁.heap→YP w s₁.heap →
   s₁.heap.get? fa=some o→o.data=.func (docDef d.name d.params d.body d.scope pm cd doc)→s₁.heap.CodeRec cd d.name→mg d.name=some (.ref fa) →
   s₁.heap.get? a=some { cls:=.type "list",data:=.seq vs.toArray }→IntsAre vs ns→ns.length≤n→s₁.gens = #[] →
   codeAny (model l.prog w) callerA (.call (.ref fa) ⟨[.ref a],[]⟩) (fun r s'=>r=.ok (.ret (.bool true))∧OldK s₁.heap s'.heap∧s'.os=s₁.os∧AllBare s'.gens) s₁) :
  WalkO q loose XP YP l.row.toRowW d [] (fun f vs=>PySem.call f vs):=by
 intro w s₀ s₁ mg mb G Y fa o pm cd doc dV kV ho hd hcd hD hmg hg args vals as hpre hlay hrd hwl hlo;obtain rfl:dV=.none:=Dflts.none hD hdf;obtain rfl:kV=.none:=Dflts.noKw hD;obtain⟨a,vs,ns,rfl,rfl,hobj,hints,hlen⟩:=qM hn hpre hwl;refine enter_call (codeAny_mono (call w s₀ s₁ mg mb fa o pm cd doc a vs ns G Y ho (fd_plain hd) hcd hmg hobj hints hlen hg) fun r s' hq=>?_);obtain⟨rfl,h2,h3,h4⟩:=hq;exact⟨.inl ⟨.bool true,.bool true,[],rfl,fun _=>rfl,.bool true,qN l _,fun _=>⟨List.Pairwise.nil,fun _ hm=>(nomatch hm)⟩⟩,h2,h3,h4⟩
section
variable {prog:Program}{w:World}{A:Around}{E:Value→Shared→Prop}{s:Shared}{K:Frag}
theorem y8 {x C:Addr}{ox:Obj}{es:List DictEntry}{n:Nat}{name:Str}{expr:Bool}{v:Value}{Q:Value→Shared→Prop}
  (X:K.In s.heap) (I:PySem.W.InstAt s.heap x ox C (some (dictOf es n))) (hg:plainGet K C name=true) (hh:hasDictIn K C=true) (ha:findIn K (.ref C) name=some none)
  (hl:getL name es=some (some v)) (hv:handedIn v=true) (h:Q v { s with toks:=s.toks+1 }):wpAny (model prog w) A (getAttr (.ref x) name expr) Q E s :=
 get_value X I (plainGet_of hg).1 (findObj_own hh ha rfl hl) hv h
end
end Att
namespace L2
open PySem PySem.Spec PyProof.Rows
theorem lz:∀ {vs:List Value} {ns:List Int},IntsAre vs ns→Vals (ns.map V.int) vs
 | _,_,.nil=>.nil
 | _,_,.cons n t h=>.cons ⟨t,rfl⟩ (lz h)
end L2
namespace L2
open PySem PySem.Spec PyProof.Rows
end L2
namespace L2
open PySem PySem.Spec PyProof.Rows
def defArgs (s:Stmt):Arguments:=match s with
 | .FunctionDef _ a _ _ _ _ _ _ _ _=>a
 | _=>{ posonlyargs:=[],args:=[],vararg:=none,kwonlyargs:=[],kw_defaults:=[],kwarg:=none,defaults:=[] }
def defBody (s:Stmt):List Stmt:=match s with
 | .FunctionDef _ _ b _ _ _ _ _ _ _=>b
 | _=>[]
def defScope (s:Stmt):Scope:=match s with
 | .FunctionDef _ _ _ _ _ _ sc _ _ _=>sc
 | _=>{ kind:=.function,names:=[],isGenerator:=false,isCoroutine:=false }
abbrev CX0:CXT:=fun _ _ _ _ _ _=>False
abbrev E0:XK:=fun _ _ _=>False
structure Fun (K:Frag)(x qual:Str)(st:Stmt)(f:Addr)(fd:FuncData):Prop where
 ex:∃ (oc:Value) (od:Option Addr) (kV doc pm:Value) (an:Option Addr) (cdv ct:Value) (osl:Array (Option Value)),
  fd=fnOf x qual (defArgs st) (defBody st) (defScope st) .none kV doc pm an cdv ct∧K.lookup f=some ⟨oc,od,.func fd,osl⟩∧codeIn K cdv qual=true
 kp:keepIn K (.ref f)=true
section
variable {P:Program}{w:World}{K:Frag}{mg:Str→Option Value}{base:Heap}
theorem Fun.binds {x qual:Str}{st:Stmt}{f:Addr}{fd:FuncData}{ps:List Str}(F:Fun K x qual st f fd)
  (h:∀ (kV doc pm:Value) (an:Option Addr) (cdv ct:Value) (us:List Value),us.length=ps.length→bindArgs (fnOf x qual (defArgs st) (defBody st) (defScope st) .none kV doc pm an cdv ct) ⟨us,[]⟩=pure (ps.zip us)):Binds K fd ps []:=by
 obtain⟨oc,od,kV,doc,pm,an,cdv,ct,osl,rfl,lk,hcd⟩:=F.ex;exact .all (h kV doc pm an cdv ct)
theorem gz {x qual:Str}{st:Stmt}{f:Addr}{oc:Value}{od an:Option Addr}{osl:Array (Option Value)}{kV doc pm cdv ct:Value}(l:K.lookup f=some ⟨oc,od,.func (fnOf x qual (defArgs st) (defBody st) (defScope st) .none kV doc pm an cdv ct),osl⟩)
  (c:codeIn K cdv qual=true) (k:keepIn K (.ref f)=true):Fun K x qual st f (fnOf x qual (defArgs st) (defBody st) (defScope st) .none kV doc pm an cdv ct):=⟨⟨oc,od,kV,doc,pm,an,cdv,ct,osl,rfl,l,c⟩,k⟩
end
section
variable {X:Cx}
end
def Same (H H':Hp):Prop:=∀ b o,H b=some o→H' b=some o
theorem Same.refl (H:Hp):Same H H:=fun _ _ h=>h
theorem Same.trans {H H1 H2:Hp}(a:Same H H1)(b:Same H1 H2):Same H H2:=fun c o h=>b c o (a c o h)
theorem Same.free {H H':Hp}(e:Same H H'){l:Addr}(h:H' l=Option.none):H l=Option.none:=by
 cases q:H l with
 | none=>rfl
 | some o =>
  rw[e l o q]at h;cases h
theorem Same.seq {K:Frag}{H H':Hp}{a:Addr}{xs:List V}(e:Same H H')(h:SqL K H a xs):SqL K H' a xs:=by
 rcases h with (h | ⟨o,h⟩) | h
 ·exact .inl (.inl (e _ _ h))
 ·exact .inl (.inr ⟨o,e _ _ h⟩)
 ·exact .inr h
end L2
end
noncomputable section
namespace FF
abbrev St:=L2.St
end FF
namespace FF
open PySem
open AutoSeq1 (wpAny_loadPart')
theorem ix:fillsNumberSlot (.type "tuple") "mul"=pure false :=
 fillsNumberSlot_seq (id := "tuple.__mul__") (r:=some (.builtin "tuple.__rmul__")) F.slot_tuple_mul.lookup (by decide +kernel) F.slot_tuple_rmul.lookup (by decide +kernel)
theorem ma:seqRepeat? (.type "tuple")=pure (some (.builtin "tuple.__mul__")):=by
 unfold seqRepeat?;rw[seqSlot_of (T := "tuple") (name := "__mul__") (id := "tuple.__mul__") F.slot_tuple_mul.lookup (by decide +kernel),seqSlot_of (T := "tuple") (name := "__rmul__") (id := "tuple.__rmul__") F.slot_tuple_rmul.lookup (by decide +kernel)];rfl
theorem jw (a:Int)(t:Tok)(l:Addr)(items:Array Value)(n:Nat)(dd:Option Addr)(sl:Array (Option Value)) :
  Meets (Builtin.«int.__rmul__» ⟨[.int a t,.ref l],[]⟩) (fun _ R s=>s.heap.get? l=some { cls:=.type "tuple",dict:=dd,data:=.seq items n,slots:=sl }∧R (.ok (.ret Value.notImplemented)) s) :=
 .of_wp fun prog w A R s h=>by obtain⟨hp,g,d,tk,os⟩:=s;obtain⟨hl,h⟩:=h;wp_walk;exact⟨_,rfl,h⟩
theorem kH (l:Addr)(items:Array Value)(n:Nat)(k:Int)(t:Tok)(dd:Option Addr)(sl:Array (Option Value))(h0:2≤k)(h1:k < 1000000)(hsz:items.size*k.toNat≤sizeLine)(hne:items.isEmpty=false) :
  Meets (Builtin.«tuple.__mul__» ⟨[.ref l,.int k t],[]⟩) (fun _ R s=>s.heap.get? l=some { cls:=.type "tuple",dict:=dd,data:=.seq items n,slots:=sl } ∧
   R (.ok (.ret (.ref s.heap.objs.size))) { s with heap:=s.heap.push { cls:=.type "tuple",data:=.seq (List.foldl (fun x1 x2=>x1++x2) #[] (List.replicate k.toNat items)) } }) :=
 .of_wp fun prog w A R s h=>by
  obtain⟨hp,g,d,tk,os⟩:=s;obtain⟨hl,h⟩:=h;have f1:=AutoSeq1.idx_int;have f2:=AutoSeq1.sub_tuple_tuple;have c0:¬ (decide (k < -2^63)||decide (k≥2^63))=true:=by
   simp only[Bool.or_eq_true,decide_eq_true_eq];omega
  have c1:¬ (items.isEmpty||k==1)=true:=by
   rw[hne,Bool.false_or,beq_iff_eq];omega
  have c2:¬ (decide (k≤0)||items.isEmpty)=true:=by
   rw[hne,Bool.or_false,decide_eq_true_eq];omega
  have hs:sizeLine=16777216:=sizeLine_eq;have hk:(items.size:Int)*k=((items.size*k.toNat:Nat):Int):=by
   rw[Int.natCast_mul,Int.toNat_of_nonneg (by omega)]
  have c3:¬ ((items.size:Int)*k > (2^63 - 1)/8):=by
   rw[hk];omega
  have c4:¬ Builtin.Tuple.tupleTooMany ((items.size:Int)*k)=true:=by
   rw[hk];unfold Builtin.Tuple.tupleTooMany;simp only[decide_eq_true_eq];omega
  have hlen:(List.foldl (fun x1 x2=>x1++x2) #[] (List.replicate k.toNat items)).size≤sizeLine:=by
   have:∀ (m:Nat) (acc:Array Value),(List.foldl (fun x1 x2=>x1++x2) acc (List.replicate m items)).size=acc.size+m*items.size:=by
    intro m
    induction m with
    | zero=>intro acc;simp
    | succ m ih=>intro acc;rw[List.replicate_succ,List.foldl_cons,ih,Array.size_append,Nat.succ_mul];omega
   rw[this,Nat.mul_comm];simpa using hsz
  unfold Builtin.«tuple.__mul__»
  wp_walk using wpAny_loadPart' hl
  rw[if_neg c0]
  wp_walk using wpAny_loadPart' hl
  rw[if_neg c1]
  try wp_walk using wpAny_loadPart' hl
  rw[if_neg c2]
  try wp_walk using wpAny_loadPart' hl
  rw[if_neg c3]
  try wp_walk using wpAny_loadPart' hl
  rw[if_neg c4]
  try wp_walk using wpAny_loadPart' hl
  rw[if_neg (Nat.not_lt.mpr hlen)]
  try wp_walk using wpAny_loadPart' hl
  exact⟨_,rfl,h⟩
theorem kI (l:Addr)(items:Array Value)(n:Nat)(t:Tok)(dd:Option Addr)(sl:Array (Option Value)) :
  Meets (Builtin.«tuple.__mul__» ⟨[.ref l,.int 1 t],[]⟩) (fun _ R s=>s.heap.get? l=some { cls:=.type "tuple",dict:=dd,data:=.seq items n,slots:=sl }∧R (.ok (.ret (.ref l))) s) :=
 .of_wp fun prog w A R s h=>by
  obtain⟨hp,g,d,tk,os⟩:=s;obtain⟨hl,h⟩:=h;have f1:=AutoSeq1.idx_int;have f2:=AutoSeq1.sub_tuple_tuple;have c1:(items.isEmpty||(1:Int)==1)=true:=by simp
  unfold Builtin.«tuple.__mul__»
  wp_walk using wpAny_loadPart' hl
  exact⟨_,rfl,h⟩
theorem kJ (l:Addr)(n:Nat)(k:Int)(t:Tok)(dd:Option Addr)(sl:Array (Option Value))(h0:0≤k)(h1:k < 1000000) :
  Meets (Builtin.«tuple.__mul__» ⟨[.ref l,.int k t],[]⟩) (fun _ R s=>s.heap.get? l=some { cls:=.type "tuple",dict:=dd,data:=.seq #[] n,slots:=sl }∧R (.ok (.ret (.ref l))) s) :=
 .of_wp fun prog w A R s h=>by
  obtain⟨hp,g,d,tk,os⟩:=s;obtain⟨hl,h⟩:=h;have f1:=AutoSeq1.idx_int;have f2:=AutoSeq1.sub_tuple_tuple;have c0:¬ (decide (k < -2^63)||decide (k≥2^63))=true:=by
   simp only[Bool.or_eq_true,decide_eq_true_eq];omega
  have c1:((#[]:Array Value).isEmpty||k==1)=true:=by simp
  unfold Builtin.«tuple.__mul__»
  wp_walk using wpAny_loadPart' hl
  rw[if_neg c0]
  wp_walk using wpAny_loadPart' hl
  exact⟨_,rfl,h⟩
theorem jx (l:Addr)(items:Array Value)(n:Nat)(t:Tok)(dd:Option Addr)(sl:Array (Option Value))(hne:items.isEmpty=false) :
  Meets (Builtin.«tuple.__mul__» ⟨[.ref l,.int 0 t],[]⟩) (fun _ R s=>s.heap.get? l=some { cls:=.type "tuple",dict:=dd,data:=.seq items n,slots:=sl } ∧
   R (.ok (.ret (.ref s.heap.objs.size))) { s with heap:=s.heap.push { cls:=.type "tuple",data:=.seq #[] } }) :=
 .of_wp fun prog w A R s h=>by
  obtain⟨hp,g,d,tk,os⟩:=s;obtain⟨hl,h⟩:=h;have f1:=AutoSeq1.idx_int;have f2:=AutoSeq1.sub_tuple_tuple;have c1:¬ (items.isEmpty||(0:Int)==1)=true:=by rw[hne];decide
  have c2:(decide ((0:Int)≤0)||items.isEmpty)=true:=by simp
  unfold Builtin.«tuple.__mul__»
  wp_walk using wpAny_loadPart' hl
  exact⟨_,rfl,h⟩
end FF
namespace FF
open PySem
theorem dW (env:Env):∀ (names:List (Str×NameKind)) (acc:List (Str×Addr)),(∀ y∈names,y.2=.free→∃ c,env.cells.lookup y.1=some c)→(∀ n c,acc.lookup n=some c→env.cells.lookup n=some c) →
  ∃ cl,(forIn names acc fun (x:Str×NameKind) (cs:List (Str×Addr))=>(do
    if x.2==.free then let a ← cellOf env x.1;pure (ForInStep.yield ((x.1,a)::cs)) else pure (ForInStep.yield cs):Sem (ForInStep (List (Str×Addr)))))=pure cl ∧
   (∀ n c,cl.lookup n=some c→env.cells.lookup n=some c)∧(∀ n c,acc.lookup n=some c→∃ c',cl.lookup n=some c')∧(∀ y∈names,y.2=.free→∃ c,cl.lookup y.1=some c)
 | [],acc,_,h=>⟨acc,rfl,h,fun n c e=>⟨c,e⟩,fun _ z=>nomatch z⟩
 | (n,k)::r,acc,hf,h=>by
  by_cases hk:k=.free
  ·subst hk;obtain⟨c,hc⟩:=hf (n,.free) List.mem_cons_self rfl;have h':∀ m d,List.lookup m ((n,c)::acc)=some d→env.cells.lookup m=some d:=fun m d e=>by
    by_cases q:(m==n)=true
    ·have q':m=n:=eq_of_beq q;simp only[List.lookup,q]at e;cases e;rw[q'];exact hc
    ·have q':(m==n)=false:=by simpa using q
     simp only[List.lookup,q']at e;exact h m d e
   obtain⟨cl,e1,e2,e3,e4⟩:=dW env r ((n,c)::acc) (fun y hy=>hf y (List.mem_cons_of_mem _ hy)) h';have self:List.lookup n ((n,c)::acc)=some c:=by simp[List.lookup]
   refine⟨cl,?_,e2,fun m d e=>?_,fun y hy hy2=>?_⟩
   ·rw[List.forIn_cons];have:cellOf env n=pure c:=by unfold cellOf;rw[hc]
    simp only[beq_self_eq_true,if_true,this];exact e1
   ·by_cases q:(m==n)=true
    ·have q':m=n:=eq_of_beq q;rw[q'];exact e3 n c self
    ·have q':(m==n)=false:=by simpa using q
     exact e3 m d (by simp only[List.lookup,q'];exact e)
   ·rcases List.mem_cons.mp hy with z | z
    ·subst z;exact e3 n c self
    ·exact e4 y z hy2
  ·have hb:(k==NameKind.free)=false:=by simpa using hk
   obtain⟨cl,e1,e2,e3,e4⟩:=dW env r acc (fun y hy=>hf y (List.mem_cons_of_mem _ hy)) h;refine⟨cl,?_,e2,e3,fun y hy hy2=>?_⟩
   ·rw[List.forIn_cons];simp only[hb,Bool.false_eq_true,if_false];exact e1
   ·rcases List.mem_cons.mp hy with z | z
    ·subst z;exact absurd hy2 hk
    ·exact e4 y z hy2
theorem n9 (scope:Scope)(env:Env)(h:∀ y∈scope.names,y.2=.free→∃ c,env.cells.lookup y.1=some c) :
  ∃ cl,closureFor scope env=pure cl∧(∀ n c,cl.lookup n=some c→env.cells.lookup n=some c)∧(∀ y∈scope.names,y.2=.free→∃ c,cl.lookup y.1=some c):=by
 obtain⟨cl,e1,e2,_,e4⟩:=dW env scope.names [] h (fun n c e=>by simp at e);refine⟨cl,?_,e2,e4⟩;exact(congrArg (fun t:Sem (List (Str×Addr))=>t >>= fun s=>pure s) e1).trans rfl
end FF
namespace FF
open PySem
def tests (ifs:List Expr)(env:Env):Sem Bool:=match ifs with
 | []=>pure true
 | c::_=>isTrue c env (eval c env)
theorem qO {prog:Program}{w:World}{A:Around}{R:Result→Shared→Prop}{s:Shared}{elt target iter:Expr}{ifs:List Expr}{scope:Scope}{pos:Pos}{it acc:Value}{env:Env}(hifs:ifs.length≤1)(W:Nat→Shared→Prop)
  (turn:∀ n s,W n s→wpAny (model prog w) A (pyNext it) (fun r s1=>match r with
   | none=>R (.ok .next) s1
   | some v=>wpAny (model prog w) A (letOwnedTupleGo target it v) (fun _ s2=>wpAny (model prog w) A (assign target env v) (fun _ s3=>wpAny (model prog w) A (tests ifs env) (fun ok s4 =>
     if ok=true then wpAny (model prog w) A (eval elt env) (fun x s5=>wpAny (model prog w) A (call (.builtin "list.append") [acc,x]) (fun _ s6=>∃ m,m < n∧W m s6) (fun _ _=>False) s5) (fun _ _=>False) s4
     else ∃ m,m < n∧W m s4) (fun _ _=>False) s3) (fun _ _=>False) s2) (fun _ _=>False) s1) (fun _ _=>False) s)
  (n:Nat) (h:W n s):codeAny (model prog w) A (.compLoop (.ListComp elt [⟨target,iter,ifs,0⟩] scope pos) 0 it acc env) R s:=by
 have weak:∀ {α:Type} {t:Sem α} {Q Q':α→Shared→Prop} {E:Value→Shared→Prop} {s:Shared},wpAny (model prog w) A t Q (fun _ _=>False) s→(∀ a s,Q a s→Q' a s)→wpAny (model prog w) A t Q' E s :=
  fun h k=>wpAny_mono h k fun _ _ z=>z.elim
 refine codeAny_loop rfl W (fun n s hW=>?_) n h;show wpAny _ A ((compTurn (.ListComp elt [⟨target,iter,ifs,0⟩] scope pos) 0 it acc env).onRaise (fun x=>do noteFrame x env;theTreesLotGoes x)) _ _ s;refine wpAny_noted ?_;rw[compTurn_list];refine wpAny_bind (wpAny_standAt (wpAny_bind (weak (turn n s hW) fun r s1 h1=>?_)));cases r with
 | none=>exact wpAny_pure h1
 | some v =>
  refine wpAny_bind (weak h1 fun _ s2 h2=>wpAny_bind (weak h2 fun _ s3 h3=>wpAny_bind ?_));have fin:∀ ok s4,(if ok=true then wpAny (model prog w) A (eval elt env) (fun x s5=>wpAny (model prog w) A (call (.builtin "list.append") [acc,x]) (fun _ s6=>∃ m,m < n∧W m s6) (fun _ _=>False) s5) (fun _ _=>False) s4
     else ∃ m,m < n∧W m s4)→wpAny (model prog w) A (if ok=true then ((do let _ ← call (.builtin "list.append") [acc,← eval elt env];pure ()) >>= fun _=>again (.compLoop (.ListComp elt [⟨target,iter,ifs,0⟩] scope pos) 0 it acc env)) else again (.compLoop (.ListComp elt [⟨target,iter,ifs,0⟩] scope pos) 0 it acc env))
      (fun fin s'=>match fin with | .done f=>R (.ok f) s' | .again c'=>c'=(.compLoop (.ListComp elt [⟨target,iter,ifs,0⟩] scope pos) 0 it acc env)∧∃ m,m < n∧W m s') (notedBy (model prog w) A env fun e s'=>R (.error e) s') s4:=by
   intro ok s4 h4;cases ok with
   | true=>exact wpAny_bind (wpAny_bind (weak h4 fun x s5 h5=>wpAny_bind (weak h5 fun _ s6 h6=>wpAny_pure (wpAny_pure ⟨rfl,h6⟩))))
   | false=>exact wpAny_pure ⟨rfl,h4⟩
  match ifs,hifs,h3,fin with
  | [],_,h3,fin =>
   refine wpAny_tests_nil ?_;exact wpAny_bind (m:=(pure true:Sem Bool)) (weak h3 fin)
  | [c],_,h3,fin =>
   refine wpAny_tests_one ?_;exact weak h3 fin
end FF
namespace FF
open PySem PyProof.Rows
open AutoSeq1 (wpAny_loadPart')
theorem qP (l b:Addr)(items items2:Array Value)(n n2:Nat)(dd dd2:Option Addr)(sl sl2:Array (Option Value))(hsz:items.size+items2.size≤sizeLine) :
  Meets (Builtin.«list.__add__» ⟨[.ref l,.ref b],[]⟩) (fun _ R s=>s.heap.get? l=some { cls:=.type "list",dict:=dd,data:=.seq items n,slots:=sl }∧s.heap.get? b=some { cls:=.type "list",dict:=dd2,data:=.seq items2 n2,slots:=sl2 } ∧
   R (.ok (.ret (.ref s.heap.objs.size))) { s with heap:=s.heap.push { cls:=.type "list",data:=.seq (items++items2) } }) :=
 .of_wp fun prog w A R s h=>by
  obtain⟨hp,g,d,tk,os⟩:=s;obtain⟨hl,hb,h⟩:=h;have f1:=AutoSeq1.idx_int;have f2:=AutoSeq1.sub_tuple_tuple;have f3:=AutoSeq1.sub_list_list;have f4:=AutoSeq1.sub_tuple_list;have f5:=AutoSeq1.sub_list_tuple;have hl0:¬ Builtin.List.listTooLong (items.size+items2.size)=true:=by rw[L2.notLongL hsz];exact Bool.false_ne_true
  have hz:(items++items2).size≤sizeLine:=by rw[Array.size_append];exact hsz
  wp_walk using wpAny_loadPart' hl,wpAny_loadPart' hb
  all_goals first | exact⟨_,rfl,h⟩ | trace_state
theorem qQ (l:Addr)(items:Array Value)(n:Nat)(k:Int)(t:Tok)(dd:Option Addr)(sl:Array (Option Value))(h0 : -(2^63)≤k)(h1:k < 2^63)(hsz:items.size*k.toNat≤sizeLine) :
  Meets (Builtin.«list.__mul__» ⟨[.ref l,.int k t],[]⟩) (fun _ R s=>s.heap.get? l=some { cls:=.type "list",dict:=dd,data:=.seq items n,slots:=sl } ∧
   R (.ok (.ret (.ref s.heap.objs.size))) { s with heap:=s.heap.push { cls:=.type "list",data:=.seq (List.foldl (fun x1 x2=>x1++x2) #[] (List.replicate (if items.isEmpty=true then 0 else k.toNat) items)) } }) :=
 .of_wp fun prog w A R s h=>by
  obtain⟨hp,g,d,tk,os⟩:=s;obtain⟨hl,h⟩:=h;have f1:=AutoSeq1.idx_int;have f2:=AutoSeq1.sub_tuple_tuple;have f3:=AutoSeq1.sub_list_list;have hs:=sizeLine_eq;have c1:¬ items.size*k.toNat > (2^63 - 1)/8:=by omega
  have c2:¬ (!Builtin.List.listFitsIndex k)=true:=by rw[fitsIndex_both h0 h1];exact Bool.false_ne_true
  have c3:¬ Builtin.List.listTooLong (items.size*k.toNat)=true:=by rw[L2.notLongL hsz];exact Bool.false_ne_true
  have hz:=AutoListH.joined_fits c3
  wp_walk using wpAny_loadPart' hl
  rw[if_neg (Nat.not_lt.mpr hz)]
  wp_walk
  exact⟨_,rfl,h⟩
theorem kK (a:Int)(t:Tok)(l:Addr)(items:Array Value)(n:Nat)(dd:Option Addr)(sl:Array (Option Value)) :
  Meets (Builtin.«int.__rmul__» ⟨[.int a t,.ref l],[]⟩) (fun _ R s=>s.heap.get? l=some { cls:=.type "list",dict:=dd,data:=.seq items n,slots:=sl }∧R (.ok (.ret Value.notImplemented)) s) :=
 .of_wp fun prog w A R s h=>by obtain⟨hp,g,d,tk,os⟩:=s;obtain⟨hl,h⟩:=h;wp_walk;exact⟨_,rfl,h⟩
theorem qR (l b:Addr)(items items2:Array Value)(n n2:Nat)(dd2:Option Addr)(sl2:Array (Option Value))(hsz:items.size+items2.size≤sizeLine) :
  Meets (Builtin.«list.extend» ⟨[.ref l,.ref b],[]⟩) (fun _ R s=>s.heap.get? l=some { cls:=.type "list",data:=.seq items n }∧s.heap.get? b=some { cls:=.type "list",dict:=dd2,data:=.seq items2 n2,slots:=sl2 } ∧
   R (.ok (.ret .none)) { s with heap:=s.heap.update l (Obj.mapSeq fun x=>x++items2) }) :=
 .of_wp fun prog w A R s h=>by
  obtain⟨hp,g,d,tk,os⟩:=s;obtain⟨hl,hb,h⟩:=h;have f1:=AutoSeq1.idx_int;have f2:=AutoSeq1.sub_tuple_tuple;have f3:=AutoSeq1.sub_list_list;have f4:=AutoSeq1.sub_tuple_list;have f5:=AutoSeq1.sub_list_tuple;have hc0:¬(!items.isEmpty&&Builtin.List.listTooLong (items.size+items2.size))=true:=by rw[L2.notLongL hsz,Bool.and_false];exact Bool.false_ne_true
  have hc1:items.size≤sizeLine:=by omega
  have hs2:items.size+items2.size≤sizeLine+1:=by omega
  have hz':(items++items2).size≤sizeLine+1:=by rw[Array.size_append];omega
  wp_walk using (wpAny_updateSeq hl rfl (hz:=hc1) (_hz':=hz')),wpAny_loadPart' hl,wpAny_loadPart' hb
  exact⟨_,rfl,h⟩
theorem qS (l b:Addr)(items items2:Array Value)(n n2:Nat)(dd2:Option Addr)(sl2:Array (Option Value))(hsz:items.size+items2.size≤sizeLine) :
  Meets (Builtin.«list.extend» ⟨[.ref l,.ref b],[]⟩) (fun _ R s=>s.heap.get? l=some { cls:=.type "list",data:=.seq items n }∧s.heap.get? b=some { cls:=.type "tuple",dict:=dd2,data:=.seq items2 n2,slots:=sl2 } ∧
   R (.ok (.ret .none)) { s with heap:=s.heap.update l (Obj.mapSeq fun x=>x++items2) }) :=
 .of_wp fun prog w A R s h=>by
  obtain⟨hp,g,d,tk,os⟩:=s;obtain⟨hl,hb,h⟩:=h;have f1:=AutoSeq1.idx_int;have f2:=AutoSeq1.sub_tuple_tuple;have f3:=AutoSeq1.sub_list_list;have f4:=AutoSeq1.sub_tuple_list;have f5:=AutoSeq1.sub_list_tuple;have hc0:¬(!items.isEmpty&&Builtin.List.listTooLong (items.size+items2.size))=true:=by rw[L2.notLongL hsz,Bool.and_false];exact Bool.false_ne_true
  have hc1:items.size≤sizeLine:=by omega
  have hs2:items.size+items2.size≤sizeLine+1:=by omega
  have hz':(items++items2).size≤sizeLine+1:=by rw[Array.size_append];omega
  wp_walk using (wpAny_updateSeq hl rfl (hz:=hc1) (_hz':=hz')),wpAny_loadPart' hl,wpAny_loadPart' hb
  exact⟨_,rfl,h⟩
end FF
end
noncomputable section
namespace FF
open PySem PySem.Spec PyProof.Rows L2
inductive D where
 | non | bl (b:Bool) | int (i:Int) | str (x:Str) | tup (xs:List D) | lst (xs:List D) | exc (k:Nat) | fn (k:Nat) | tab (ks:List (List Int)) (xs:List D) | dic (ks:List Key) (xs:List D) | ptr (a:Addr)
inductive R (α:Type) where
 | ok (a:α) | err (k:Nat) | stuck
def R.bind {α β:Type}(r:R α)(f:α→R β):R β:=match r with
 | .ok a=>f a
 | .err k=>.err k
 | .stuck=>.stuck
@[simp] theorem R.bind_ok {α β:Type}(a:α)(f:α→R β):(R.ok a).bind f=f a:=rfl
@[simp] theorem R.bind_err {α β:Type}(k:Nat)(f:α→R β):(R.err k:R α).bind f=.err k:=rfl
@[simp] theorem R.bind_stuck {α β:Type}(f:α→R β):(R.stuck:R α).bind f=.stuck:=rfl
def excO (C:Nat→Addr)(k:Nat)(a:Addr):HO :=
 .ext fun h=>∃ o,h.get? a=some o∧o.cls=.ref (C k)∧∃ vs,o.data=.fields vs
abbrev TKV:=List Int×Addr×V
abbrev TKU:=List Int×Addr×Value
def hashT (ks:List Int):Int:=reduceHash (Builtin.Tuple.tupleHashOf (ks.map hashInt))
def tabR (p:TKV)(q:TKU):Prop:=p.1=q.1∧p.2.1=q.2.1∧RelV p.2.2 q.2.2
def tabφ (a:Addr)(kvs:List TKV)(h:Heap):Prop:=∃ xs:List TKU,Paired tabR kvs xs∧xs.length≤sizeLine∧(a==sysModules)=false∧∃ o es ep,h.get? a=some o∧o.ExactDict∧o.data=.dict es ep ∧
 es.toList=xs.map (fun x=>(⟨hashT x.1,.ref x.2.1,x.2.2⟩:DictEntry))∧(xs.map (·.1)).Nodup
def tabO (a:Addr)(kvs:List TKV):HO:=.ext (tabφ a kvs)
mutual
def Rep (K:Frag)(C:Nat→Addr)(Z:Hp):D→V→Prop
 | .non,v=>v=.non
 | .bl b,v=>v=.bl b
 | .int i,v=>v=.int i
 | .str x,v=>v=.str x
 | .tup ds,v=>∃ a vs,v=.ref a∧SqT K Z a vs∧Reps K C Z ds vs
 | .lst ds,v=>∃ a vs,v=.ref a∧SqL K Z a vs∧Reps K C Z ds vs
 | .exc k,v=>∃ a,v=.ref a∧Z a=some (excO C k a)
 | .fn k,v=>v=.ref (C k)
 | .tab ks ds,v=>∃ a kvs,v=.ref a∧Z a=some (tabO a kvs)∧kvs.map (·.1)=ks∧(∀ x∈kvs,SqT K Z x.2.1 (x.1.map V.int))∧Reps K C Z ds (kvs.map (·.2.2))
 | .dic ks ds,v=>∃ a kvs,v=.ref a∧Z a=some (.dK kvs)∧kvs.map (·.1)=ks∧Reps K C Z ds (kvs.map (·.2))
 | .ptr a,v=>v=.ref a
def Reps (K:Frag)(C:Nat→Addr)(Z:Hp):List D→List V→Prop
 | [],vs=>vs=[]
 | d::ds,vs=>∃ v r,vs=v::r∧Rep K C Z d v∧Reps K C Z ds r
end
theorem _root_.L2.SqT.mono {K:Frag}{Z Z':Hp}{a:Addr}{xs:List V}(e:Same Z Z')(h:SqT K Z a xs):SqT K Z' a xs:=by
 rcases h with (h | ⟨o,h⟩) | h
 ·exact .inl (.inl (e _ _ h))
 ·exact .inl (.inr ⟨o,e _ _ h⟩)
 ·exact .inr h
section
variable {K:Frag}{C:Nat→Addr}{Z Z':Hp}
mutual
theorem Rep.mono (e:Same Z Z'):∀ (d:D) (v:V),Rep K C Z d v→Rep K C Z' d v
 | .non,v,h=>by rw[Rep]at h ⊢;exact h
 | .bl b,v,h=>by rw[Rep]at h ⊢;exact h
 | .int i,v,h=>by rw[Rep]at h ⊢;exact h
 | .str x,v,h=>by rw[Rep]at h ⊢;exact h
 | .fn k,v,h=>by rw[Rep]at h ⊢;exact h
 | .tup ds,v,h=>by
  rw[Rep]at h ⊢;obtain⟨a,vs,h1,h2,h3⟩:=h;exact⟨a,vs,h1,h2.mono e,Reps.mono e ds vs h3⟩
 | .lst ds,v,h=>by
  rw[Rep]at h ⊢;obtain⟨a,vs,h1,h2,h3⟩:=h;exact⟨a,vs,h1,e.seq h2,Reps.mono e ds vs h3⟩
 | .exc k,v,h=>by
  rw[Rep]at h ⊢;obtain⟨a,h1,h2⟩:=h;exact⟨a,h1,e _ _ h2⟩
 | .tab ks ds,v,h=>by
  rw[Rep]at h ⊢;obtain⟨a,kvs,h1,h2,h3,h5,h4⟩:=h;exact⟨a,kvs,h1,e _ _ h2,h3,fun x hx=>(h5 x hx).mono e,Reps.mono e ds _ h4⟩
 | .dic ks ds,v,h=>by
  rw[Rep]at h ⊢;obtain⟨a,kvs,h1,h2,h3,h4⟩:=h;exact⟨a,kvs,h1,e _ _ h2,h3,Reps.mono e ds _ h4⟩
 | .ptr a,v,h=>by
  rw[Rep]at h ⊢;exact h
theorem Reps.mono (e:Same Z Z'):∀ (ds:List D) (vs:List V),Reps K C Z ds vs→Reps K C Z' ds vs
 | [],vs,h=>by rw[Reps]at h ⊢;exact h
 | d::ds,vs,h=>by
  rw[Reps]at h ⊢;obtain⟨v,r,h1,h2,h3⟩:=h;exact⟨v,r,h1,Rep.mono e d v h2,Reps.mono e ds r h3⟩
end
theorem Reps.nil:Reps K C Z [] []:=by rw[Reps]
theorem Reps.cons {d:D}{v:V}{ds:List D}{vs:List V}(h:Rep K C Z d v)(t:Reps K C Z ds vs):Reps K C Z (d::ds) (v::vs):=by
 rw[Reps];exact⟨v,vs,rfl,h,t⟩
theorem Reps.uncons {d:D}{v:V}{ds:List D}{vs:List V}(h:Reps K C Z (d::ds) (v::vs)):Rep K C Z d v∧Reps K C Z ds vs:=by
 rw[Reps]at h;obtain⟨v',r,e,h1,h2⟩:=h;cases e;exact⟨h1,h2⟩
theorem Reps.length:∀ {ds:List D} {vs:List V},Reps K C Z ds vs→ds.length=vs.length
 | [],vs,h=>by rw[Reps]at h;subst h;rfl
 | d::ds,vs,h=>by
  rw[Reps]at h;obtain⟨v,r,e,_,h2⟩:=h;subst e
  simp[Reps.length h2]
theorem Reps.get:∀ {ds:List D} {vs:List V} {i:Nat} {d:D},Reps K C Z ds vs→ds[i]?=some d→∃ v,vs[i]?=some v∧Rep K C Z d v
 | [],vs,i,d,h,e=>by simp at e
 | d'::ds,vs,i,d,h,e=>by
  rw[Reps]at h;obtain⟨v,r,q,h1,h2⟩:=h;subst q;cases i with
  | zero=>simp at e;subst e;exact⟨v,rfl,h1⟩
  | succ i =>
   obtain⟨v',e1,h3⟩:=Reps.get (i:=i) h2 (by simpa using e);exact⟨v',by simpa using e1,h3⟩
theorem Reps.get':∀ {ds:List D} {vs:List V} {i:Nat} {v:V},Reps K C Z ds vs→vs[i]?=some v→∃ d,ds[i]?=some d∧Rep K C Z d v
 | [],vs,i,v,h,e=>by rw[Reps]at h;subst h;simp at e
 | d'::ds,vs,i,v,h,e=>by
  rw[Reps]at h;obtain⟨v0,r,q,h1,h2⟩:=h;subst q;cases i with
  | zero=>simp at e;subst e;exact⟨d',rfl,h1⟩
  | succ i =>
   obtain⟨d,e1,h3⟩:=Reps.get' (i:=i) h2 (by simpa using e);exact⟨d,by simpa using e1,h3⟩
theorem Reps.append:∀ {ds es:List D} {vs us:List V},Reps K C Z ds vs→Reps K C Z es us→Reps K C Z (ds++es) (vs++us)
 | [],es,vs,us,h,h'=>by rw[Reps]at h;subst h;exact h'
 | d::ds,es,vs,us,h,h'=>by
  rw[Reps]at h;obtain⟨v,r,q,h1,h2⟩:=h;subst q;exact Reps.cons h1 (Reps.append h2 h')
theorem Reps.take:∀ {ds:List D} {vs:List V} (n:Nat),Reps K C Z ds vs→Reps K C Z (ds.take n) (vs.take n)
 | [],vs,n,h=>by rw[Reps]at h;subst h;simpa using Reps.nil
 | d::ds,vs,n,h=>by
  rw[Reps]at h;obtain⟨v,r,q,h1,h2⟩:=h;subst q;cases n with
  | zero=>exact Reps.nil
  | succ n=>exact Reps.cons h1 (Reps.take n h2)
theorem Reps.drop:∀ {ds:List D} {vs:List V} (n:Nat),Reps K C Z ds vs→Reps K C Z (ds.drop n) (vs.drop n)
 | [],vs,n,h=>by rw[Reps]at h;subst h;simpa using Reps.nil
 | d::ds,vs,n,h=>by
  rw[Reps]at h;obtain⟨v,r,q,h1,h2⟩:=h;subst q;cases n with
  | zero=>exact Reps.cons h1 h2
  | succ n=>exact Reps.drop n h2
end
structure Ex (H Z H' Z':Hp):Prop where
 same:Same H H'
 z:Same Z Z'
 sub:Same Z' H'
 new:∀ b,Z' b≠none→Z b≠none∨H b=none
theorem Ex.refl {H Z:Hp}(s:Same Z H):Ex H Z H Z:=⟨Same.refl _,Same.refl _,s,fun _ h=>.inl h⟩
theorem Ex.trans {H Z H1 Z1 H2 Z2:Hp}(a:Ex H Z H1 Z1)(b:Ex H1 Z1 H2 Z2):Ex H Z H2 Z2 :=
 ⟨a.same.trans b.same,a.z.trans b.z,b.sub,fun c h=>(b.new c h).elim (fun h1=>a.new c h1) fun h1=>.inr (a.same.free h1)⟩
theorem aC {H:Hp}{p:Addr}{o:HO}(h:H p=none):Same H (upd H p o):=fun b u e=>by
 rw[ag (aG e h)];exact e
theorem Ex.alloc {H Z:Hp}{p:Addr}{o:HO}(s:Same Z H)(h:H p=none):Ex H Z (upd H p o) (upd Z p o):=by
 have hz:Z p=none:=s.free h;refine⟨aC h,aC hz,fun b u e=>?_,fun b hb=>?_⟩
 ·by_cases q:b=p
  ·subst q;rw[ai]at e ⊢;exact e
  ·rw[ag q]at e ⊢;exact s b u e
 ·by_cases q:b=p
  ·subst q;exact .inr h
  ·rw[ag q]at hb;exact .inl hb
theorem Ex.hidden {H Z:Hp}{p:Addr}{o:HO}(s:Same Z H)(h:H p=none):Ex H Z (upd H p o) Z :=
 ⟨aC h,Same.refl _,s.trans (aC h),fun _ hb=>.inl hb⟩
inductive Sl where
 | val (d:D) | own (ds:List D) | mat (m:List (List D)) | dic (m:List (Key×D)) | dit (m:List (List Int×D))
abbrev SS:=List (Option Sl)
structure Fx where
 K:Frag
 C:Nat→Addr
 H0:Hp
 Z0:Hp
 E:XK
def Rows (F:Fx)(H Z:Hp):List (List D)→List Addr→Prop
 | [],[]=>True
 | ds::m,r::rs=>(∃ vs,H r=some (.lst vs)∧Reps F.K F.C Z ds vs)∧Rows F H Z m rs
 | _,_=>False
def Pairs {κ:Type}(F:Fx)(Z:Hp)(m:List (κ×D))(kvs:List (κ×V)):Prop:=kvs.map Prod.fst=m.map Prod.fst∧Reps F.K F.C Z (m.map Prod.snd) (kvs.map Prod.snd)
def Ow (F:Fx)(H Z:Hp):Sl→V→List Addr→Prop
 | .val d,v,A=>A=[]∧Rep F.K F.C Z d v
 | .own ds,v,A=>∃ a vs,v=.ref a∧A=[a]∧H a=some (.lst vs)∧Reps F.K F.C Z ds vs
 | .mat m,v,A=>∃ a rs,v=.ref a∧A=a::rs∧H a=some (.lst (rs.map V.ref))∧Rows F H Z m rs
 | .dic m,v,A=>∃ a kvs,v=.ref a∧A=[a]∧H a=some (.dK kvs)∧Pairs F Z m kvs
 | .dit m,v,A=>∃ a kvs,v=.ref a∧A=[a]∧H a=some (tabO a kvs)∧kvs.map (·.1)=m.map (·.1)∧(∀ x∈kvs,SqT F.K Z x.2.1 (x.1.map V.int))∧Reps F.K F.C Z (m.map (·.2)) (kvs.map (·.2.2))
structure Priv (F:Fx)(Z:Hp)(A:List Addr):Prop where
 nd:A.Nodup
 z:∀ a∈A,Z a=none
 h0:∀ a∈A,F.H0 a=none
structure StOk (F:Fx)(H Z:Hp)(S:SS)(σ:St):Prop where
 ex:Ex F.H0 F.Z0 H Z
 len:S.length=σ.length
 sl:∀ (i:Nat) (x:Sl),S[i]?=some (some x)→∃ v A,σ[i]?=some (some v)∧Ow F H Z x v A∧Priv F Z A
 dj:∀ (i j:Nat) (x y:Sl) (v w:V) (A B:List Addr),i≠j→S[i]?=some (some x)→S[j]?=some (some y)→σ[i]?=some (some v)→σ[j]?=some (some w)→Ow F H Z x v A→Ow F H Z y w B→∀ a∈A,a∉B
section
variable {F:Fx}{H Z H' Z':Hp}{S:SS}{σ:St}{x:Sl}{v:V}{A B:List Addr}
theorem Rows.mono (hz:Same Z Z'):∀ {m:List (List D)} {rs:List Addr},Rows F H Z m rs→(∀ a∈rs,∀ o,H a=some o→H' a=some o)→Rows F H' Z' m rs
 | [],[],_,_=>trivial
 | ds::m,r::rs,h,k=>by
  obtain⟨⟨vs,e,q⟩,h⟩:=h;exact⟨⟨vs,k r (.head _) _ e,q.mono hz⟩,Rows.mono hz h fun a ha=>k a (.tail _ ha)⟩
 | [],_::_,h,_=>h.elim
 | _::_,[],h,_=>h.elim
theorem Rows.there:∀ {m:List (List D)} {rs:List Addr},Rows F H Z m rs→∀ a∈rs,∃ o,H a=some o
 | [],[],_,a,ha=>nomatch ha
 | ds::m,r::rs,h,a,ha=>by
  obtain⟨⟨vs,e,q⟩,h⟩:=h;rcases List.mem_cons.mp ha with rfl | ha
  ·exact⟨_,e⟩
  ·exact Rows.there h a ha
 | [],_::_,h,_,_=>h.elim
 | _::_,[],h,_,_=>h.elim
theorem Rows.len:∀ {m:List (List D)} {rs:List Addr},Rows F H Z m rs→rs.length=m.length
 | [],[],_=>rfl
 | ds::m,r::rs,h=>by rw[List.length_cons,List.length_cons,Rows.len h.2]
 | [],_::_,h=>h.elim
 | _::_,[],h=>h.elim
theorem Rows.at:∀ {m:List (List D)} {rs:List Addr} {j:Nat} {ds:List D},Rows F H Z m rs→m[j]?=some ds→∃ r vs,rs[j]?=some r∧H r=some (.lst vs)∧Reps F.K F.C Z ds vs
 | ds::m,r::rs,0,_,h,e=>by
  obtain⟨⟨vs,q,k⟩,h⟩:=h;cases e;exact⟨r,vs,rfl,q,k⟩
 | ds::m,r::rs,j+1,_,h,e=>Rows.at (j:=j) h.2 e
 | [],_,_,_,_,e=>by simp at e
 | _::_,[],_,_,h,_=>h.elim
theorem mR:∀ {rs qs:List Addr},rs.map V.ref=qs.map V.ref→rs=qs
 | [],[],_=>rfl
 | r::rs,q::qs,h=>by
  rw[List.map_cons,List.map_cons]at h;injection h with h1 h2
  injection h1 with h1
  rw[h1,mR h2]
 | [],_::_,h=>nomatch h
 | _::_,[],h=>nomatch h
theorem Ow.mono (hz:Same Z Z')(h:Ow F H Z x v A)(hs:∀ a∈A,∀ o,H a=some o→H' a=some o):Ow F H' Z' x v A:=by
 cases x with
 | val d=>exact⟨h.1,h.2.mono hz⟩
 | own ds =>
  obtain⟨a,vs,e1,e2,e3,r⟩:=h;exact⟨a,vs,e1,e2,hs a (by rw[e2];exact .head _) _ e3,r.mono hz⟩
 | mat m =>
  obtain⟨a,rs,e1,e2,e3,r⟩:=h;exact⟨a,rs,e1,e2,hs a (by rw[e2];exact .head _) _ e3,r.mono hz fun b hb=>hs b (by rw[e2];exact .tail _ hb)⟩
 | dic m =>
  obtain⟨a,vs,e1,e2,e3,r⟩:=h;exact⟨a,vs,e1,e2,hs a (by rw[e2];exact .head _) _ e3,r.1,r.2.mono hz⟩
 | dit m =>
  obtain⟨a,vs,e1,e2,e3,r⟩:=h;exact⟨a,vs,e1,e2,hs a (by rw[e2];exact .head _) _ e3,r.1,fun x hx=>(r.2.1 x hx).mono hz,r.2.2.mono hz⟩
theorem Ow.det (h:Ow F H Z x v A)(h':Ow F H Z x v B):A=B:=by
 cases x with
 | val d=>rw[h.1,h'.1]
 | own ds =>
  obtain⟨a,vs,e1,e2,_⟩:=h;obtain⟨b,us,f1,f2,_⟩:=h';rw[e1]at f1;cases f1;rw[e2,f2]
 | mat m =>
  obtain⟨a,rs,e1,e2,e3,_⟩:=h;obtain⟨b,qs,f1,f2,f3,_⟩:=h';rw[e1]at f1;cases f1;rw[e3]at f3;injection f3 with f3
  injection f3 with f3
  rw[e2,f2,mR f3]
 | dic m =>
  obtain⟨a,vs,e1,e2,_⟩:=h;obtain⟨b,us,f1,f2,_⟩:=h';rw[e1]at f1;cases f1;rw[e2,f2]
 | dit m =>
  obtain⟨a,vs,e1,e2,_⟩:=h;obtain⟨b,us,f1,f2,_⟩:=h';rw[e1]at f1;cases f1;rw[e2,f2]
theorem Ow.there (h:Ow F H Z x v A):∀ a∈A,∃ o,H a=some o:=fun a ha=>by
 cases x with
 | val d=>rw[h.1]at ha;cases ha
 | own ds =>
  obtain⟨b,vs,e1,e2,e3,r⟩:=h;rw[e2]at ha;cases List.mem_singleton.mp ha;exact⟨_,e3⟩
 | mat m =>
  obtain⟨b,rs,e1,e2,e3,r⟩:=h;rw[e2]at ha;rcases List.mem_cons.mp ha with rfl | ha
  ·exact⟨_,e3⟩
  ·exact r.there a ha
 | dic m =>
  obtain⟨b,vs,e1,e2,e3,r⟩:=h;rw[e2]at ha;cases List.mem_singleton.mp ha;exact⟨_,e3⟩
 | dit m =>
  obtain⟨b,vs,e1,e2,e3,r⟩:=h;rw[e2]at ha;cases List.mem_singleton.mp ha;exact⟨_,e3⟩
theorem StOk.sub (h:StOk F H Z S σ):Same Z H:=h.ex.sub
theorem StOk.more (h:StOk F H Z S σ)(x:Ex H Z H' Z'):StOk F H' Z' S σ:=by
 have up:∀ {y:Sl} {v:V} {A:List Addr},Ow F H Z y v A→Ow F H' Z' y v A:=fun o=>o.mono x.z fun a _ o e=>x.same _ _ e
 refine⟨h.ex.trans x,h.len,fun i y e=>?_,fun i j y z v w A B hij e1 e2 e3 e4 o1 o2=>?_⟩
 ·obtain⟨v,A,e1,o,p⟩:=h.sl i y e;refine⟨v,A,e1,up o,p.nd,fun a ha=>?_,p.h0⟩;cases q:Z' a with
  | none=>rfl
  | some u =>
   obtain⟨w,hw⟩:=o.there a ha;rcases x.new a (by rw[q];simp) with z | z
   ·exact absurd (p.z a ha) z
   ·rw[hw]at z;cases z
 ·obtain⟨v',A',f1,q1,_⟩:=h.sl i y e1;obtain⟨w',B',f2,q2,_⟩:=h.sl j z e2;rw[e3]at f1;cases f1;rw[e4]at f2;cases f2;rw[o1.det (up q1),o2.det (up q2)];exact h.dj i j y z v w A' B' hij e1 e2 e3 e4 q1 q2
theorem StOk.val (h:StOk F H Z S σ)(i:Nat)(d:D)(e:S[i]?=some (some (.val d))):∃ v,σ[i]?=some (some v)∧Rep F.K F.C Z d v:=by
 obtain⟨v,A,e1,o,_⟩:=h.sl i _ e;exact⟨v,e1,o.2⟩
theorem StOk.own (h:StOk F H Z S σ)(i:Nat)(ds:List D)(e:S[i]?=some (some (.own ds))):∃ a vs,σ[i]?=some (some (.ref a))∧H a=some (.lst vs)∧Z a=none∧F.H0 a=none∧Reps F.K F.C Z ds vs:=by
 obtain⟨v,A,e1,⟨a,vs,rfl,rfl,q,r⟩,p⟩:=h.sl i _ e;exact⟨a,vs,e1,q,p.z a (.head _),p.h0 a (.head _),r⟩
theorem StOk.put (h:StOk F H Z S σ){i:Nat}(o:Ow F H Z x v A)(p:Priv F Z A)(hn:∀ (j:Nat) (y:Sl) (w:V) (B:List Addr),j≠i→S[j]?=some (some y)→σ[j]?=some (some w)→Ow F H Z y w B→∀ a∈A,a∉B) :
  StOk F H Z (S.set i (some x)) (σ.set i (some v)):=by
 have self:∀ {y:Option Sl},(S.set i (some x))[i]?=some y→y=some x∧i < S.length:=fun {y} e=>by
  by_cases hl:i < S.length
  ·rw[List.getElem?_set_self hl]at e;cases e;exact⟨rfl,hl⟩
  ·rw[List.getElem?_eq_none (by simpa using hl)]at e;cases e
 refine⟨h.ex,by simp[h.len],fun j y e=>?_,fun j k y z w u A' B' hjk e1 e2 e3 e4 o1 o2=>?_⟩
 ·by_cases q:i=j
  ·subst q;obtain⟨z,hl⟩:=self e;cases z;exact⟨v,A,by rw[List.getElem?_set_self (by rw[← h.len];exact hl)],o,p⟩
  ·rw[List.getElem?_set_ne q]at e ⊢;exact h.sl j y e
 ·by_cases q:i=j
  ·have q2:i≠k:=fun z=>hjk (q ▸ z)
   subst q;obtain⟨z,hl⟩:=self e1;cases z;rw[List.getElem?_set_self (by rw[← h.len];exact hl)]at e3;cases e3;rw[List.getElem?_set_ne q2]at e2 e4;rw[o1.det o];exact hn k _ _ _ (Ne.symm q2) e2 e4 o2
  ·rw[List.getElem?_set_ne q]at e1 e3;by_cases q2:i=k
   ·subst q2;obtain⟨z,hl⟩:=self e2;cases z;rw[List.getElem?_set_self (by rw[← h.len];exact hl)]at e4;cases e4;rw[o2.det o];exact fun a ha hb=>hn j _ _ _ (Ne.symm q) e1 e3 o1 a hb ha
   ·rw[List.getElem?_set_ne q2]at e2 e4;exact h.dj j k _ _ _ _ _ _ hjk e1 e2 e3 e4 o1 o2
theorem Priv.nil:Priv F Z []:=⟨List.Pairwise.nil,(fun _ h=>nomatch h),(fun _ h=>nomatch h)⟩
theorem StOk.setVal (h:StOk F H Z S σ){i:Nat}{d:D}{v:V}(r:Rep F.K F.C Z d v):StOk F H Z (S.set i (some (.val d))) (σ.set i (some v)) :=
 h.put (x:=.val d) (A:=[]) ⟨rfl,r⟩ Priv.nil fun _ _ _ _ _ _ _ _ _ ha=>nomatch ha
theorem StOk.putNew (h:StOk F H Z S σ){i:Nat}(e:Ex H Z H' Z')(o:Ow F H' Z' x v A)(p:Priv F Z' A)(hn:∀ a∈A,H a=none):StOk F H' Z' (S.set i (some x)) (σ.set i (some v)):=by
 refine(h.more e).put o p fun j y w B hj e1 e2 o2 a ha hb=>?_
 obtain⟨w',B',f1,q,_⟩:=h.sl j y e1;rw[e2]at f1;cases f1;rw[o2.det (q.mono e.z fun a _ o e'=>e.same _ _ e')]at hb;obtain⟨u,hu⟩:=q.there a hb;rw[hn a ha]at hu;cases hu
theorem StOk.newOwn (h:StOk F H Z S σ){i:Nat}{a:Addr}{ds:List D}{vs:List V}(hp:H a=none)(r:Reps F.K F.C Z ds vs):StOk F (upd H a (.lst vs)) Z (S.set i (some (.own ds))) (σ.set i (some (.ref a))) :=
 h.putNew (x:=.own ds) (A:=[a]) (Ex.hidden h.sub hp) ⟨a,vs,rfl,rfl,ai,r⟩ ⟨by simp,fun b hb=>by cases List.mem_singleton.mp hb;exact h.sub.free hp,fun b hb=>by cases List.mem_singleton.mp hb;exact h.ex.same.free hp⟩ fun b hb=>by cases List.mem_singleton.mp hb;exact hp
theorem StOk.rewr (h:StOk F H Z S σ){i:Nat}{x':Sl}(e:S[i]?=some (some x))(ev:σ[i]?=some (some v))(o:Ow F H Z x v A)(o':Ow F H' Z x' v A)(hH:∀ b,b∉A→H' b=H b):StOk F H' Z (S.set i (some x')) σ:=by
 have hl:i < S.length:=(List.getElem?_eq_some_iff.mp e).1;obtain⟨v',A',f1,q1,p⟩:=h.sl i x e;rw[ev]at f1;cases f1;cases o.det q1;have up:∀ {j:Nat} {y:Sl} {w:V} {B:List Addr},j≠i→S[j]?=some (some y)→σ[j]?=some (some w)→Ow F H Z y w B→Ow F H' Z y w B:=fun {j y w B} hj e1 e2 q=>q.mono (Same.refl _) fun b hb u eu=>by
  rw[hH b (h.dj j i y x w v B A hj e1 e e2 ev q o b hb)];exact eu
 refine⟨⟨fun b u q=>?_,h.ex.z,fun b u q=>?_,h.ex.new⟩,by simp[h.len],fun j y q=>?_,fun j k y z w u A' B' hjk e1 e2 e3 e4 o1 o2=>?_⟩
 ·rw[hH b fun z=>by rw[p.h0 b z]at q;cases q];exact h.ex.same b u q
 ·rw[hH b fun z=>by rw[p.z b z]at q;cases q];exact h.ex.sub b u q
 ·by_cases z:i=j
  ·subst z;rw[List.getElem?_set_self hl]at q;cases q;exact⟨v,A,ev,o',p⟩
  ·rw[List.getElem?_set_ne z]at q;obtain⟨w,B,g1,g2,g3⟩:=h.sl j y q;exact⟨w,B,g1,up (Ne.symm z) q g1 g2,g3⟩
 ·have one:∀ {j:Nat} {y:Sl} {w:V} {B:List Addr},(S.set i (some x'))[j]?=some (some y)→σ[j]?=some (some w)→Ow F H' Z y w B→∃ y0,S[j]?=some (some y0)∧Ow F H Z y0 w B:=fun {j y w B} g1 g2 g3=>by
   by_cases z:i=j
   ·subst z;rw[List.getElem?_set_self hl]at g1;cases g1;rw[ev]at g2;cases g2;rw[g3.det o'];exact⟨x,e,o⟩
   ·rw[List.getElem?_set_ne z]at g1;obtain⟨w',B',k1,k2,_⟩:=h.sl j y g1;rw[g2]at k1;cases k1;rw[g3.det (up (Ne.symm z) g1 g2 k2)];exact⟨y,g1,k2⟩
  obtain⟨y0,a1,a2⟩:=one e1 e3 o1;obtain⟨z0,b1,b2⟩:=one e2 e4 o2;exact h.dj j k y0 z0 w u A' B' hjk a1 b1 e3 e4 a2 b2
theorem StOk.write (h:StOk F H Z S σ){i:Nat}{ds es:List D}{a:Addr}{us:List V}(e:S[i]?=some (some (.own ds)))(ha:σ[i]?=some (some (.ref a)))(r:Reps F.K F.C Z es us) :
  StOk F (upd H a (.lst us)) Z (S.set i (some (.own es))) σ:=by
 obtain⟨a',vs,e1,e2,e3,e4,r0⟩:=h.own i ds e;rw[ha]at e1;cases e1;exact h.rewr (x:=.own ds) (A:=[a]) e ha ⟨a,vs,rfl,rfl,e2,r0⟩ ⟨a,us,rfl,rfl,ai,r⟩ fun b hb=>ag fun z=>hb (by rw[z];exact .head _)
theorem StOk.frzAll (h:StOk F H Z S σ){i:Nat}{d:D}(e:S[i]?=some (some x))(ev:σ[i]?=some (some v))(o:Ow F H Z x v A)(hz:Same Z Z')(hsub:Same Z' H)(hnew:∀ b,Z' b≠none→Z b≠none∨b∈A)(r:Rep F.K F.C Z' d v):StOk F H Z' (S.set i (some (.val d))) σ:=by
 have hl:i < S.length:=(List.getElem?_eq_some_iff.mp e).1;obtain⟨v',A',f1,q1,p⟩:=h.sl i x e;rw[ev]at f1;cases f1;cases o.det q1;have up:∀ {y:Sl} {w:V} {B:List Addr},Ow F H Z y w B→Ow F H Z' y w B:=fun q=>q.mono hz fun _ _ _ e=>e
 refine⟨⟨h.ex.same,h.ex.z.trans hz,hsub,fun b q=>?_⟩,by simp[h.len],fun j y q=>?_,fun j k y z w u A' B' hjk e1 e2 e3 e4 o1 o2=>?_⟩
 ·rcases hnew b q with z | z
  ·exact h.ex.new b z
  ·exact .inr (p.h0 b z)
 ·by_cases z:i=j
  ·subst z;rw[List.getElem?_set_self hl]at q;cases q;exact⟨v,[],ev,⟨rfl,r⟩,Priv.nil⟩
  ·rw[List.getElem?_set_ne z]at q;obtain⟨w,B,g1,g2,g3⟩:=h.sl j y q;refine⟨w,B,g1,up g2,g3.nd,fun b hb=>?_,g3.h0⟩;cases qz:Z' b with
   | none=>rfl
   | some u =>
    rcases hnew b (by rw[qz];simp) with y1 | y1
    ·exact absurd (g3.z b hb) y1
    ·exact absurd y1 (h.dj j i _ _ _ _ _ _ (Ne.symm z) q e g1 ev g2 o b hb)
 ·have one:∀ {j:Nat} {y:Sl} {w:V} {B:List Addr},(S.set i (some (.val d)))[j]?=some (some y)→σ[j]?=some (some w)→Ow F H Z' y w B→B=[]∨(j≠i∧S[j]?=some (some y)∧Ow F H Z y w B):=fun {j y w B} g1 g2 g3=>by
   by_cases z:i=j
   ·subst z;rw[List.getElem?_set_self hl]at g1;cases g1;exact .inl g3.1
   ·rw[List.getElem?_set_ne z]at g1;obtain⟨w',B',k1,k2,_⟩:=h.sl j y g1;rw[g2]at k1;cases k1;rw[g3.det (up k2)];exact .inr ⟨Ne.symm z,g1,k2⟩
  rcases one e1 e3 o1 with z1 | ⟨_,z1,z2⟩
  ·rw[z1];exact fun a ha=>nomatch ha
  ·rcases one e2 e4 o2 with y1 | ⟨_,y1,y2⟩
   ·rw[y1];exact fun a _ ha=>nomatch ha
   ·exact h.dj j k _ _ _ _ _ _ hjk z1 y1 e3 e4 z2 y2
theorem StOk.freeze (h:StOk F H Z S σ){i:Nat}{ds:List D}(e:S[i]?=some (some (.own ds))):∃ Z',Same Z Z'∧StOk F H Z' (S.set i (some (.val (.lst ds)))) σ:=by
 obtain⟨a,vs,e1,e2,e3,e4,r⟩:=h.own i ds e;have hz:Same Z (upd Z a (.lst vs)):=aC e3;refine⟨upd Z a (.lst vs),hz,h.frzAll (x:=.own ds) (A:=[a]) e e1 ⟨a,vs,rfl,rfl,e2,r⟩ hz (fun b o q=>?_) (fun b q=>?_) (by rw[Rep];exact⟨a,vs,rfl,SqL.of ai,r.mono hz⟩)⟩
 ·by_cases y:b=a
  ·subst y;rw[ai]at q;cases q;exact e2
  ·rw[ag y]at q;exact h.ex.sub b o q
 ·by_cases y:b=a
  ·exact .inr (by rw[y];exact .head _)
  ·rw[ag y]at q;exact .inl q
end
theorem sM {F G:Fx}{H Z:Hp}(hK:G.K=F.K:=by rfl)(hC:G.C=F.C:=by rfl):∀ {m:List (List D)} {rs:List Addr},Rows F H Z m rs→Rows G H Z m rs
 | [],[],_=>trivial
 | ds::m,r::rs,h=>by
  obtain⟨⟨vs,e,q⟩,h⟩:=h;exact⟨⟨vs,e,by rw[hK,hC];exact q⟩,sM hK hC h⟩
 | [],_::_,h=>h.elim
 | _::_,[],h=>h.elim
theorem ow_K {F G:Fx}{H Z:Hp}{x:Sl}{v:V}{A:List Addr}(h:Ow F H Z x v A)(hK:G.K=F.K:=by rfl)(hC:G.C=F.C:=by rfl):Ow G H Z x v A:=by
 cases x with
 | val d=>exact⟨h.1,by rw[hK,hC];exact h.2⟩
 | own ds=>obtain⟨a,vs,e1,e2,e3,r⟩:=h;exact⟨a,vs,e1,e2,e3,by rw[hK,hC];exact r⟩
 | mat m=>obtain⟨a,rs,e1,e2,e3,r⟩:=h;exact⟨a,rs,e1,e2,e3,sM hK hC r⟩
 | dic m=>obtain⟨a,vs,e1,e2,e3,r⟩:=h;exact⟨a,vs,e1,e2,e3,r.1,by rw[hK,hC];exact r.2⟩
 | dit m=>obtain⟨a,vs,e1,e2,e3,r⟩:=h;exact⟨a,vs,e1,e2,e3,r.1,by rw[hK];exact r.2.1,by rw[hK,hC];exact r.2.2⟩
def WG {α:Type}(F:Fx)(H Z:Hp)(r:R α)(P:α→Hp→Hp→Prop):Prop:=match r with
 | .ok a=>∀ H' Z',Ex H Z H' Z'→P a H' Z'
 | .err k=>∀ H',Same H H'→F.E (.ref (F.C k)) none H'
 | .stuck=>False
section
variable {α:Type}{F:Fx}{H Z H1 Z1:Hp}{r:R α}{P P':α→Hp→Hp→Prop}
theorem WG.more (w:WG F H Z r P)(x:Ex H Z H1 Z1):WG F H1 Z1 r P:=by
 cases r with
 | ok a=>exact fun H' Z' y=>w H' Z' (x.trans y)
 | err k=>exact fun H' y=>w H' (x.same.trans y)
 | stuck=>exact w
theorem WG.now {a:α}(w:WG F H Z (.ok a) P)(s:Same Z H):P a H Z:=w H Z (Ex.refl s)
end
def tE (F:Fx)(g:SS→R D):TE:=fun σ H Q=>∃ Z S,StOk F H Z S σ∧WG F H Z (g S) fun d H' Z'=>∀ v,Rep F.K F.C Z' d v→Q v H'
def tT (F:Fx)(g:SS→R Bool):TT:=fun σ H Q=>∃ Z S,StOk F H Z S σ∧WG F H Z (g S) fun b H' _=>Q b H'
def tAl (F:Fx)(g:SS→R (List D)):TA:=fun σ H Q=>∃ Z S,StOk F H Z S σ∧WG F H Z (g S) fun ds H' Z'=>∀ vs,Reps F.K F.C Z' ds vs→Q vs H'
inductive O where
 | nx (S:SS) | rt (d:D) | er (k:Nat) | bk (S:SS) | ct (S:SS) | stuck
def WO (F:Fx)(Z:Hp)(o:O)(D:Ends):Prop:=match o with
 | .nx S=>∀ σ H Z',Same Z Z'→StOk F H Z' S σ→D.nx σ H
 | .rt d=>∀ v H Z',Ex F.H0 F.Z0 H Z'→Rep F.K F.C Z' d v→D.rt v H
 | .er k=>∀ H,Same F.H0 H→F.E (.ref (F.C k)) none H
 | .bk S=>∀ σ H Z',Same Z Z'→StOk F H Z' S σ→D.bk σ H
 | .ct S=>∀ σ H Z',Same Z Z'→StOk F H Z' S σ→D.ct σ H
 | .stuck=>False
theorem WO.more {F:Fx}{Z Z1:Hp}{o:O}{D:Ends}(w:WO F Z o D)(z:Same Z Z1):WO F Z1 o D:=by
 cases o with
 | nx S=>exact fun σ H Z' q=>w σ H Z' (z.trans q)
 | rt d=>exact w
 | er k=>exact w
 | bk S=>exact fun σ H Z' q=>w σ H Z' (z.trans q)
 | ct S=>exact fun σ H Z' q=>w σ H Z' (z.trans q)
 | stuck=>exact w
def tS (F:Fx)(g:SS→O):TS:=fun D σ H=>∃ Z S,StOk F H Z S σ∧WO F Z (g S) D
abbrev FE (X:Cx)(F:Fx)(e:Expr)(g:SS→R D):Prop:=PE X e (tE F g)
abbrev FT (X:Cx)(F:Fx)(e:Expr)(g:SS→R Bool):Prop:=PT X e (tT F g)
abbrev FW (X:Cx)(F:Fx)(e:Expr)(g:SS→R Bool):Prop:=PW X e (tT F g)
abbrev FA (X:Cx)(F:Fx)(es:List Expr)(g:SS→R (List D)):Prop:=PA X es (tAl F g)
abbrev FS (X:Cx)(F:Fx)(st:Stmt)(g:SS→O):Prop:=PS X st (tS F g)
abbrev FSs (X:Cx)(F:Fx)(sts:List Stmt)(g:SS→O):Prop:=PSs X sts (tS F g)
theorem _root_.L2.PE.weak {X:Cx}{e:Expr}{t t':TE}(h:PE X e t)(w:∀ σ H Q,t' σ H Q→t σ H Q):PE X e t':=fun pins s σ H Q I q=>h pins s σ H Q I (w σ H Q q)
theorem _root_.L2.PT.weak {X:Cx}{e:Expr}{t t':TT}(h:PT X e t)(w:∀ σ H Q,t' σ H Q→t σ H Q):PT X e t':=fun pins s σ H Q I q=>h pins s σ H Q I (w σ H Q q)
theorem _root_.L2.PW.weak {X:Cx}{e:Expr}{t t':TT}(h:PW X e t)(w:∀ σ H Q,t' σ H Q→t σ H Q):PW X e t':=fun wh pins s σ H Q I q=>h wh pins s σ H Q I (w σ H Q q)
theorem _root_.L2.PA.weak {X:Cx}{e:List Expr}{t t':TA}(h:PA X e t)(w:∀ σ H Q,t' σ H Q→t σ H Q):PA X e t':=fun p pins s σ H Q I q=>h p pins s σ H Q I (w σ H Q q)
theorem _root_.L2.PS.weak {X:Cx}{e:Stmt}{t t':TS}(h:PS X e t)(w:∀ D σ H,t' D σ H→t D σ H):PS X e t':=fun pins s σ H D I q=>h pins s σ H D I (w D σ H q)
theorem _root_.L2.PSs.weak {X:Cx}{e:List Stmt}{t t':TS}(h:PSs X e t)(w:∀ D σ H,t' D σ H→t D σ H):PSs X e t':=fun pins s σ H D I q=>h pins s σ H D I (w D σ H q)
section
variable {F:Fx}{σ:St}{H Z:Hp}{S:SS}
theorem av {α:Type}{g:SS→R D}{k:D→R α}{P:α→Hp→Hp→Prop}{Q:VK}(ok:StOk F H Z S σ)(w:WG F H Z ((g S).bind k) P)
  (h:∀ d v H1 Z1,StOk F H1 Z1 S σ→Ex H Z H1 Z1→Rep F.K F.C Z1 d v→WG F H1 Z1 (k d) P→Q v H1):tE F g σ H Q:=by
 refine⟨Z,S,ok,?_⟩;cases e:g S with
 | ok d =>
  rw[e]at w;intro H1 Z1 x v r;exact h d v H1 Z1 (ok.more x) x r (WG.more (r:=k d) w x)
 | err k=>rw[e]at w;exact w
 | stuck=>rw[e]at w;exact w
theorem gM {α:Type}{g:SS→R Bool}{k:Bool→R α}{P:α→Hp→Hp→Prop}{Q:Bool→Hp→Prop}(ok:StOk F H Z S σ)(w:WG F H Z ((g S).bind k) P)
  (h:∀ b H1 Z1,StOk F H1 Z1 S σ→Ex H Z H1 Z1→WG F H1 Z1 (k b) P→Q b H1):tT F g σ H Q:=by
 refine⟨Z,S,ok,?_⟩;cases e:g S with
 | ok d =>
  rw[e]at w;intro H1 Z1 x;exact h d H1 Z1 (ok.more x) x (WG.more (r:=k d) w x)
 | err k=>rw[e]at w;exact w
 | stuck=>rw[e]at w;exact w
theorem bj {α:Type}{g:SS→R (List D)}{k:List D→R α}{P:α→Hp→Hp→Prop}{Q:List V→Hp→Prop}(ok:StOk F H Z S σ)(w:WG F H Z ((g S).bind k) P)
  (h:∀ ds vs H1 Z1,StOk F H1 Z1 S σ→Ex H Z H1 Z1→Reps F.K F.C Z1 ds vs→WG F H1 Z1 (k ds) P→Q vs H1):tAl F g σ H Q:=by
 refine⟨Z,S,ok,?_⟩;cases e:g S with
 | ok d =>
  rw[e]at w;intro H1 Z1 x v r;exact h d v H1 Z1 (ok.more x) x r (WG.more (r:=k d) w x)
 | err k=>rw[e]at w;exact w
 | stuck=>rw[e]at w;exact w
end
def eVar (i:Nat):SS→R D:=fun S=>match S[i]? with
 | some (some (.val d))=>.ok d
 | _=>.stuck
def eC (d:D):SS→R D:=fun _=>.ok d
section
variable {X:Cx}{F:Fx}{e a b:Expr}{g ga gb:SS→R D}{pos:Pos}
theorem cS {v:V}{d:D}(h:PE X e (tC v))(r:∀ Z,Rep F.K F.C Z d v):FE X F e (eC d):=h.weak fun σ H Q ⟨Z,S,ok,w⟩=>WG.now w ok.sub v (r Z)
theorem ah {i j pos}:FE X F (.Constant (.int i) j pos) (eC (.int i)):=cS xL fun _=>by rw[Rep]
theorem eZ {b j pos}:FE X F (.Constant (.bool b) j pos) (eC (.bl b)):=cS zb fun _=>by rw[Rep]
theorem oa {j pos}:FE X F (.Constant .none j pos) (eC .non):=cS xM fun _=>by rw[Rep]
theorem aj {x j pos}:FE X F (.Constant (.str x) j pos) (eC (.str x)):=cS xN fun _=>by rw[Rep]
theorem ac (i:Nat){x:Str}{pos:Pos}(hN:X.N[i]?=some x:=by rfl)(hv:Vis X.env.scope x:=by first | exact Or.inl rfl | exact Or.inr (Or.inl rfl) | exact Or.inr (Or.inr rfl))(hd:(x==("__debug__":Str))=false:=by decide)
  (hcd:(x==("__classdict__":Str))=false:=by decide):FE X F (.Name x pos) (eVar i):=(fe hN hv hd hcd).weak fun σ H Q ⟨Z,S,ok,w⟩=>by
 unfold eVar at w;split at w
 ·rename_i d e;obtain⟨v,e1,r⟩:=ok.val i d e;exact⟨v,e1,WG.now w ok.sub v r⟩
 ·exact w.elim
end
def OpD (F:Fx)(r:R2)(f:D→D→R D):Prop:=∀ (H Z:Hp) (x y:V) (dx dy:D) (Q:VK),Same Z H→Rep F.K F.C Z dx x→Rep F.K F.C Z dy y →
 WG F H Z (f dx dy) (fun d H' Z'=>∀ v,Rep F.K F.C Z' d v→Q v H')→r x y H Q
def eOp (f:D→D→R D)(ga gb:SS→R D):SS→R D:=fun S=>(ga S).bind fun x=>(gb S).bind fun y=>f x y
section
variable {X:Cx}{F:Fx}{e a b c:Expr}{ga gb gc:SS→R D}{pos:Pos}{r:R2}{f:D→D→R D}
theorem me (hd:OpD F r f):∀ σ H Q,tE F (eOp f ga gb) σ H Q→tOp r (tE F ga) (tE F gb) σ H Q:=fun σ H Q ⟨Z,S,ok,w⟩ =>
 av ok w fun dx x H1 Z1 ok1 x1 rx w1=>av ok1 w1 fun dy y H2 Z2 ok2 x2 ry w2=>hd H2 Z2 x y dx dy Q ok2.sub (rx.mono x2.z) ry w2
theorem mS {op:Operator}(ho:OpR X (binaryOp op) r)(hd:OpD F r f)(ha:FE X F a ga)(hb:FE X F b gb):FE X F (.BinOp a op b pos) (eOp f ga gb):=(zc ho ha hb).weak (me hd)
theorem sN {op:CmpOp}(ho:OpR X (compareOp op) r)(hd:OpD F r f)(ha:FE X F a ga)(hb:FE X F b gb)(hm:behindInMarks op b=false:=by first | exact nomark _ | rfl):FE X F (.Compare a [op] [b] pos) (eOp f ga gb) :=
 (pE ho ha hb hm).weak (me hd)
theorem zf (ho:IxR X r)(hd:OpD F r f)(ha:FE X F a ga)(hb:FE X F b gb)(hs:PlainIx b:=by intro _ _;rfl):FE X F (.Subscript a b pos) (eOp f ga gb):=(xx ho ha hb hs).weak (me hd)
def asB (r:R D):R Bool:=r.bind fun d=>match d with
 | .bl b=>.ok b
 | _=>.stuck
def gB (g:SS→R D):SS→R Bool:=fun S=>asB (g S)
theorem pK {t:TE}{g:SS→R D}(h:∀ σ H Q,tE F g σ H Q→t σ H Q):∀ σ H Q,tT F (gB g) σ H Q→tTest t σ H Q:=fun σ H Q ⟨Z,S,ok,w⟩=>by
 refine h σ H _ (av ok w fun d v H1 Z1 ok1 x1 rv w1=>?_);cases d with
 | bl b=>rw[Rep]at rv;exact⟨b,rv,WG.now w1 ok1.sub⟩
 | _=>exact w1.elim
theorem bE {g:SS→R D}(h:FE X F e g)(he:∀ whole,isTrue e X.env whole=(do let v ← whole;standAt e.pos;holding [v] (truthy v)):=by intro _;rfl):FT X F e (gB g) :=
 (xQ h he).weak (pK (t:=tE F g) fun _ _ _ q=>q)
theorem iy {op:CmpOp}(ho:OpR X (compareOp op) r)(hd:OpD F r f)(ha:FE X F a ga)(hb:FE X F b gb)(hm:behindInMarks op b=false:=by first | exact nomark _ | rfl):FT X F (.Compare a [op] [b] pos) (gB (eOp f ga gb)) :=
 (pF ho ha hb hm).weak (pK (me hd))
end
def gAnd (a b:SS→R Bool):SS→R Bool:=fun S=>(a S).bind fun c=>if c=true then b S else .ok false
def gOr (a b:SS→R Bool):SS→R Bool:=fun S=>(a S).bind fun c=>if c=true then .ok true else b S
def gNot (a:SS→R Bool):SS→R Bool:=fun S=>(a S).bind fun c=>.ok (!c)
def eIf (c:SS→R Bool)(a b:SS→R D):SS→R D:=fun S=>(c S).bind fun t=>if t=true then a S else b S
section
variable {X:Cx}{F:Fx}{e a b c:Expr}{rest:List Expr}{ta tb tc:SS→R Bool}{ga gb:SS→R D}{pos:Pos}
theorem mf (h:FT X F a ta):FW X F (.BoolOp .And [a] pos) ta:=vd h
theorem gA (h:FT X F a ta):FW X F (.BoolOp .Or [a] pos) ta:=sr h
theorem og (ha:FT X F a ta)(hb:FW X F (.BoolOp .And (b::rest) pos) tb):FW X F (.BoolOp .And (a::b::rest) pos) (gAnd ta tb) :=
 (xR ha hb).weak fun σ H Q ⟨Z,S,ok,w⟩=>gM ok w fun d H1 Z1 ok1 x1 w1=>by
  cases d with
  | true=>exact⟨Z1,S,ok1,w1⟩
  | false=>exact WG.now w1 ok1.sub
theorem jy (ha:FT X F a ta)(hb:FW X F (.BoolOp .Or (b::rest) pos) tb):FW X F (.BoolOp .Or (a::b::rest) pos) (gOr ta tb) :=
 (xr ha hb).weak fun σ H Q ⟨Z,S,ok,w⟩=>gM ok w fun d H1 Z1 ok1 x1 w1=>by
  cases d with
  | true=>exact WG.now w1 ok1.sub
  | false=>exact⟨Z1,S,ok1,w1⟩
theorem ft_w (h:FW X F e ta):FT X F e ta:=h.pt
theorem bw (h:FT X F a ta):FT X F (.UnaryOp .Not a pos) (gNot ta) :=
 (xS h).weak fun σ H Q ⟨Z,S,ok,w⟩=>gM ok w fun d H1 Z1 ok1 x1 w1=>WG.now w1 ok1.sub
theorem mh {op}(h:FE X F a ga):FE X F (.BoolOp op [a] pos) ga:=su h
def eAnd (a b:SS→R D):SS→R D:=fun S=>(asB (a S)).bind fun c=>if c=true then b S else .ok (.bl false)
def eNot (a:SS→R D):SS→R D:=fun S=>(asB (a S)).bind fun c=>.ok (.bl (!c))
theorem sO {α:Type}{σ:St}{H Z:Hp}{S:SS}{g:SS→R D}{k:Bool→R α}{P:α→Hp→Hp→Prop}{Q:VK}(ok:StOk F H Z S σ)(w:WG F H Z ((asB (g S)).bind k) P)
  (h:∀ c H1 Z1,StOk F H1 Z1 S σ→Ex H Z H1 Z1→WG F H1 Z1 (k c) P→Q (.bl c) H1):tE F g σ H Q:=by
 have e:(asB (g S)).bind k=(g S).bind fun d=>(match d with | .bl b=>R.ok b | _=>R.stuck).bind k:=by
  unfold asB;cases g S<;>rfl
 rw[e]at w;refine av ok w fun d v H1 Z1 ok1 x1 rv w1=>?_
 cases d with
 | bl b=>rw[Rep]at rv;subst rv;exact h b H1 Z1 ok1 x1 w1
 | _=>exact w1.elim
theorem mi (ha:FE X F a ga)(hb:FE X F (.BoolOp .And (b::rest) pos) gb):FE X F (.BoolOp .And (a::b::rest) pos) (eAnd ga gb) :=
 (sv ha hb).weak fun σ H Q ⟨Z,S,ok,w⟩=>sO ok w fun c H1 Z1 ok1 x1 w1=>⟨c,rfl,by
  cases c with
  | true=>exact⟨Z1,S,ok1,w1⟩
  | false=>exact WG.now w1 ok1.sub _ (by rw[Rep])⟩
theorem yj (ha:FE X F a ga):FE X F (.UnaryOp .Not a pos) (eNot ga) :=
 (xT ha).weak fun σ H Q ⟨Z,S,ok,w⟩=>sO ok w fun c H1 Z1 ok1 x1 w1=>⟨c,rfl,WG.now w1 ok1.sub _ (by rw[Rep])⟩
theorem zg (hc:FT X F c tc)(ha:FE X F a ga)(hb:FE X F b gb):FE X F (.IfExp c a b pos) (eIf tc ga gb) :=
 (sw hc ha hb).weak fun σ H Q ⟨Z,S,ok,w⟩=>gM ok w fun d H1 Z1 ok1 x1 w1=>by
  cases d with
  | true=>exact⟨Z1,S,ok1,w1⟩
  | false=>exact⟨Z1,S,ok1,w1⟩
end
def aNil:SS→R (List D):=fun _=>.ok []
def aCons (g:SS→R D)(gs:SS→R (List D)):SS→R (List D):=fun S=>(g S).bind fun d=>(gs S).bind fun ds=>.ok (d::ds)
def eTup (gs:SS→R (List D)):SS→R D:=fun S=>(gs S).bind fun ds=>if ds.length≤16777216 then .ok (.tup ds) else .stuck
def eLst (gs:SS→R (List D)):SS→R D:=fun S=>(gs S).bind fun ds=>if ds.length≤16777216 then .ok (.lst ds) else .stuck
section
variable {X:Cx}{F:Fx}{e:Expr}{es:List Expr}{g:SS→R D}{gs:SS→R (List D)}{pos:Pos}
theorem yk:FA X F [] aNil:=gw.weak fun σ H Q ⟨Z,S,ok,w⟩=>WG.now w ok.sub [] Reps.nil
theorem vz (ha:FE X F e g)(hr:FA X F es gs)(hs:starEach (e::es) X.env=(false,eval e X.env)::starEach es X.env:=by rfl):FA X F (e::es) (aCons g gs) :=
 (cu ha hr hs).weak fun σ H Q ⟨Z,S,ok,w⟩=>av ok w fun d v H1 Z1 ok1 x1 rv w1=>bj ok1 w1 fun ds vs H2 Z2 ok2 x2 rs w2=>WG.now w2 ok2.sub _ (Reps.cons (rv.mono x2.z) rs)
theorem yl {x1}(h:FA X F es gs):FE X F (.Tuple es x1 pos) (eTup gs) :=
 (yc h).weak fun σ H Q ⟨Z,S,ok,w⟩=>bj ok w fun ds vs H1 Z1 ok1 x1 rs w1=>by
  split at w1
  ·rename_i hl;refine⟨by rw[← rs.length,sizeLine_eq];exact hl,fun p hp=>?_⟩;have z:Same Z1 (upd Z1 p (.tup vs)):=aC (ok1.sub.free hp);exact w1 _ _ (Ex.alloc ok1.sub hp) _ (by rw[Rep];exact⟨p,vs,rfl,SqT.of ai,rs.mono z⟩)
  ·exact w1.elim
theorem ym (h:FA X F es gs):FE X F (.List es pos) (eLst gs) :=
 (n3 h).weak fun σ H Q ⟨Z,S,ok,w⟩=>bj ok w fun ds vs H1 Z1 ok1 x1 rs w1=>by
  split at w1
  ·rename_i hl;refine⟨by rw[← rs.length,sizeLine_eq];exact hl,fun p hp=>?_⟩;have z:Same Z1 (upd Z1 p (.lst vs)):=aC (ok1.sub.free hp);exact w1 _ _ (Ex.alloc ok1.sub hp) _ (by rw[Rep];exact⟨p,vs,rfl,SqL.of ai,rs.mono z⟩)
  ·exact w1.elim
end
def rO (r:R O):O:=match r with
 | .ok o=>o
 | .err k=>.er k
 | .stuck=>.stuck
def sDrop (g:SS→R D):SS→O:=fun S=>rO ((g S).bind fun _=>.ok (.nx S))
def sRet (g:SS→R D):SS→O:=fun S=>rO ((g S).bind fun d=>.ok (.rt d))
def sSet (i:Nat)(g:SS→R D):SS→O:=fun S=>rO ((g S).bind fun d=>.ok (.nx (S.set i (some (.val d)))))
section
variable {X:Cx}{F:Fx}{st:Stmt}{rest:List Stmt}{e c:Expr}{g:SS→R D}{gt:SS→R Bool}{ga gb:SS→O}{pos:Pos}
theorem WO.wg {D:Ends}{r:R O}{H Z:Hp}{S:SS}{σ:St}(ok:StOk F H Z S σ)(w:WO F Z (rO r) D):WG F H Z r fun o _ Z'=>WO F Z' o D:=by
 cases r with
 | ok o=>exact fun _ _ x=>WO.more w x.z
 | err k=>exact fun H' s=>w H' (ok.ex.same.trans s)
 | stuck=>exact w
theorem dX (h:FE X F e g)(hs:swapsWith e none pos.line X.env=pure false:=by rfl):FS X F (.Expr e pos) (sDrop g) :=
 (gJ h hs).weak fun D σ H ⟨Z,S,ok,w⟩=>av ok (WO.wg ok w) fun d v H1 Z1 ok1 x1 rv w1=>WG.now w1 ok1.sub σ H1 Z1 (Same.refl _) ok1
theorem ap (h:FE X F e g):FS X F (.Return (some e) pos) (sRet g) :=
 (nO h).weak fun D σ H ⟨Z,S,ok,w⟩=>av ok (WO.wg ok w) fun d v H1 Z1 ok1 x1 rv w1=>WG.now w1 ok1.sub v H1 Z1 ok1.ex rv
theorem aH (i:Nat){x:Str}{pos':Pos}(hN:X.N.Nodup)(h:FE X F e g)(hi:X.N[i]?=some x:=by rfl)(hx:Loc X.env.scope x:=by first | exact Or.inl rfl | exact Or.inr rfl)
  (hs:swapsWith e (some (.Name x pos')) pos.line X.env=pure false:=by rfl) (hf:X.fn x=true∨X.env.scope.names.lookup x=some .local:=by first | exact .inl rfl | exact .inr rfl):FS X F (.Assign [.Name x pos'] e pos) (sSet i g) :=
 (jt hN hi hx h hs hf).weak fun D σ H ⟨Z,S,ok,w⟩=>av ok (WO.wg ok w) fun d v H1 Z1 ok1 x1 rv w1=>WG.now w1 ok1.sub _ _ _ (Same.refl _) (ok1.setVal rv)
end
theorem OpD.or {F:Fx}{r r':R2}{f f':D→D→R D}(p:D→D→Bool)(h:OpD F r f)(h':OpD F r' f'):OpD F (fun x y H Q=>r x y H Q∨r' x y H Q) (fun x y=>if p x y=true then f x y else f' x y):=by
 intro H Z x y dx dy Q s rx ry w;by_cases e:p dx dy=true
 ·dsimp only at w;rw[if_pos e]at w;exact .inl (h H Z x y dx dy Q s rx ry w)
 ·dsimp only at w;rw[if_neg e]at w;exact .inr (h' H Z x y dx dy Q s rx ry w)
def dI (c:Int→Int→Bool)(g:Int→Int→D):D→D→R D
 | .int i,.int j=>if c i j=true then .ok (g i j) else .stuck
 | _,_=>.stuck
def dI0 (g:Int→Int→D):D→D→R D
 | .int i,.int j=>.ok (g i j)
 | _,_=>.stuck
theorem sP {F:Fx}{C:Int→Int→Prop}{c:Int→Int→Bool}{g:Int→Int→V}{g':Int→Int→D}(hc:∀ i j,c i j=true→C i j)(hg:∀ i j Z,Rep F.K F.C Z (g' i j) (g i j)):OpD F (rI C g) (dI c g'):=by
 intro H Z x y dx dy Q s rx ry w;cases dx with
 | int i =>
  cases dy with
  | int j =>
   rw[Rep]at rx;rw[Rep]at ry;subst rx;subst ry;unfold dI at w
   dsimp only at w
   split at w
   ·rename_i q;exact⟨i,j,rfl,rfl,hc i j q,WG.now w s _ (hg i j Z)⟩
   ·exact w.elim
  | _=>exact w.elim
 | _=>exact w.elim
theorem cY {F:Fx}{g:Int→Int→V}{g':Int→Int→D}(hg:∀ i j Z,Rep F.K F.C Z (g' i j) (g i j)):OpD F (rI0 g) (dI0 g'):=by
 intro H Z x y dx dy Q s rx ry w;cases dx with
 | int i =>
  cases dy with
  | int j =>
   rw[Rep]at rx;rw[Rep]at ry;subst rx;subst ry;exact⟨i,j,rfl,rfl,WG.now w s _ (hg i j Z)⟩
  | _=>exact w.elim
 | _=>exact w.elim
def cMul (i j:Int):Bool:=(decide (-(2^64) < i)&&decide (i < 2^64))||(decide (-(2^64) < j)&&decide (j < 2^64))
def cDiv (i j:Int):Bool:=decide (0 < j)&&decide (j < 1073741824)
theorem vA (i j:Int)(h:cMul i j=true):CMul i j:=by
 unfold cMul at h;simp only[Bool.or_eq_true,Bool.and_eq_true,decide_eq_true_eq]at h;exact h
theorem vB (i j:Int)(h:cDiv i j=true):CDiv i j:=by
 unfold cDiv at h;simp only[Bool.and_eq_true,decide_eq_true_eq]at h;exact h
def isInt:D→Bool
 | .int _=>true
 | _=>false
def isTup:D→Bool
 | .tup _=>true
 | _=>false
def isLst:D→Bool
 | .lst _=>true
 | _=>false
def dCatT:D→D→R D
 | .tup xs,.tup ys=>if xs.length+ys.length≤16777216 then .ok (.tup (xs++ys)) else .stuck
 | _,_=>.stuck
def dCatL:D→D→R D
 | .lst xs,.lst ys=>if xs.length+ys.length≤16777216 then .ok (.lst (xs++ys)) else .stuck
 | _,_=>.stuck
def dRepT:D→D→R D
 | .tup xs,.int k=>if 0≤k∧k < 1000000∧xs.length*k.toNat≤16777216 then .ok (.tup (List.replicate k.toNat xs).flatten) else .stuck
 | _,_=>.stuck
def dRepL:D→D→R D
 | .lst xs,.int k=>if 0≤k∧k < 1000000∧xs.length*k.toNat≤16777216 then .ok (.lst (List.replicate k.toNat xs).flatten) else .stuck
 | _,_=>.stuck
def dIx:D→D→R D
 | .tup xs,.int i=>match atI xs i with
  | some d=>.ok d
  | none=>.stuck
 | .lst xs,.int i=>match atI xs i with
  | some d=>.ok d
  | none=>.stuck
 | _,_=>.stuck
theorem Reps.at {K:Frag}{C:Nat→Addr}{Z:Hp}{ds:List D}{vs:List V}{i:Int}{d:D}(r:Reps K C Z ds vs)(h:atI ds i=some d):∃ v,atI vs i=some v∧Rep K C Z d v:=by
 unfold atI at h ⊢;rw[← r.length];cases e:ixN ds.length i with
 | none=>rw[e]at h;cases h
 | some j =>
  rw[e]at h;exact r.get (i:=j) h
theorem sQ {F:Fx}:OpD F (rIx F.K) dIx:=by
 intro H Z x y dx dy Q s rx ry w;cases dx with
 | tup ds =>
  cases dy with
  | int i =>
   rw[Rep]at rx;rw[Rep]at ry;obtain⟨a,vs,rfl,h1,h2⟩:=rx;subst ry;unfold dIx at w
   dsimp only at w
   split at w
   ·rename_i d e;obtain⟨v,e1,r⟩:=h2.at e;exact .inr (.inl ⟨a,vs,i,v,rfl,rfl,h1.mono s,e1,WG.now w s v r⟩)
   ·exact w.elim
  | _=>exact w.elim
 | lst ds =>
  cases dy with
  | int i =>
   rw[Rep]at rx;rw[Rep]at ry;obtain⟨a,vs,rfl,h1,h2⟩:=rx;subst ry;unfold dIx at w
   dsimp only at w
   split at w
   ·rename_i d e;obtain⟨v,e1,r⟩:=h2.at e;exact .inl ⟨a,vs,i,v,rfl,rfl,s.seq h1,e1,WG.now w s v r⟩
   ·exact w.elim
  | _=>exact w.elim
 | _=>exact w.elim
section
open AutoSeq1 (wpAny_loadPart')
theorem mT (l b:Addr)(items items2:Array Value)(n n2:Nat)(dd dd2:Option Addr)(sl sl2:Array (Option Value))(hc0:items.isEmpty=true) :
  Meets (Builtin.«tuple.__add__» ⟨[.ref l,.ref b],[]⟩) (fun _ R s=>s.heap.get? l=some { cls:=.type "tuple",dict:=dd,data:=.seq items n,slots:=sl }∧s.heap.get? b=some { cls:=.type "tuple",dict:=dd2,data:=.seq items2 n2,slots:=sl2 }∧R (.ok (.ret (.ref b))) s) :=
 .of_wp fun prog w A R s h=>by
  obtain⟨hp,g,d,tk,os⟩:=s;obtain⟨hl,hb,h⟩:=h;have f2:=AutoSeq1.sub_tuple_tuple;have f3:=AutoSeq1.sub_list_list
  wp_walk using wpAny_loadPart' hl,wpAny_loadPart' hb
  exact⟨_,rfl,h⟩
end
theorem gN {K:Frag}{C:Nat→Addr}{Z:Hp}{ds:List D}{vs:List V}(r:Reps K C Z ds vs):∀ k:Nat,Reps K C Z (List.replicate k ds).flatten (List.replicate k vs).flatten
 | 0=>Reps.nil
 | k+1=>by
  rw[List.replicate_succ,List.replicate_succ,List.flatten_cons,List.flatten_cons];exact r.append (gN r k)
def rCat2 (K:Frag):R2:=fun x y H Q=>∃ a b xs ys,x=.ref a∧y=.ref b∧SqT K H a xs∧SqT K H b ys∧xs.length+ys.length≤sizeLine∧(∀ p,H p=none→Q (.ref p) (upd H p (.tup (xs++ys))))∧(ys=[]→Q (.ref a) H)∧(xs=[]→Q (.ref b) H)
theorem vC {X:Cx}:OpR X (binaryOp .Add) (rCat2 X.K):=by
 intro pins s σ H x y v u Q I rx ry h;obtain⟨a,b,xs,ys,rfl,rfl,ha,hb,hz,q1,q2,q3⟩:=h;by_cases hx:xs=[]
 ·cases rx;cases ry;obtain⟨its,r1,p1,_⟩:=I.tuple ha;obtain⟨its2,r2,p2,_⟩:=I.tuple hb;obtain⟨⟨cls,dd,data,sl⟩,ho,hc,n,hd⟩:=id p1;obtain⟨⟨cls2,dd2,data2,sl2⟩,ho2,hc2,n2,hd2⟩:=id p2;simp only at hc hd hc2 hd2;subst hc hd hc2 hd2;have he:its=[]:=by
   have:=r1.length;rw[hx]at this;exact List.length_eq_zero_iff.mp this.symm
  exact concat_meets ⟨_,ho,rfl⟩ ⟨_,ho2,rfl⟩ noFill_tuple_add seq_tuple_add PySem.F.slot_tuple_add PySem.F.entry_tuple_add (PySem.F.args_tuple_add_2 _ _)
   (mT a b its.toArray its2.toArray n n2 dd dd2 sl sl2 (by simp[he])) ⟨ho,ho2,⟨.ref b,H,I,rfl,q3 hx⟩⟩
 ·exact vq pins s σ H _ _ v u Q I rx ry ⟨a,b,xs,ys,rfl,rfl,ha,hb,hx,hz,q2,fun _=>q1⟩
theorem sR {F:Fx}:OpD F (rCat2 F.K) dCatT:=by
 intro H Z x y dx dy Q s rx ry w;cases dx with
 | tup ds =>
  cases dy with
  | tup es =>
   rw[Rep]at rx;rw[Rep]at ry;obtain⟨a,vs,rfl,h1,h2⟩:=rx;obtain⟨b,us,rfl,k1,k2⟩:=ry;unfold dCatT at w
   dsimp only at w
   split at w
   ·rename_i hl;refine⟨a,b,vs,us,rfl,rfl,h1.mono s,k1.mono s,by rw[← h2.length,← k2.length,sizeLine_eq];exact hl,fun p hp=>?_,fun e=>?_,fun e=>?_⟩
    ·have z:Same Z (upd Z p (.tup (vs++us))):=aC (s.free hp);exact w _ _ (Ex.alloc s hp) _ (by rw[Rep];exact⟨p,_,rfl,SqT.of ai,(h2.append k2).mono z⟩)
    ·have:es=[]:=List.length_eq_zero_iff.mp (by rw[k2.length,e];rfl);subst this;exact WG.now w s _ (by rw[List.append_nil,Rep];exact⟨a,vs,rfl,h1,h2⟩)
    ·have:ds=[]:=List.length_eq_zero_iff.mp (by rw[h2.length,e];rfl);subst this;exact WG.now w s _ (by rw[List.nil_append,Rep];exact⟨b,us,rfl,k1,k2⟩)
   ·exact w.elim
  | _=>exact w.elim
 | _=>exact w.elim
def rRepT (K:Frag):R2:=fun x y H Q=>∃ a k xs,x=.ref a∧y=.int k∧SqT K H a xs∧0≤k∧k < 1000000∧xs.length*k.toNat≤sizeLine∧(∀ p,H p=none→Q (.ref p) (upd H p (.tup (List.replicate k.toNat xs).flatten)))∧((List.replicate k.toNat xs).flatten=xs→Q (.ref a) H)
theorem vD {X:Cx}:OpR X (binaryOp .Mult) (rRepT X.K):=by
 intro pins s σ H x y v u Q I rx ry h;obtain⟨a,k,xs,rfl,rfl,ha,h0,h1,hz,q1,q2⟩:=h;cases rx;obtain⟨t,rfl⟩:=ry;obtain⟨its,r,p1,_⟩:=I.tuple ha;have hl:=r.length;obtain⟨⟨cls,dd,data,sl⟩,ho,hc,n,hd⟩:=id p1;simp only at hc hd;subst hc hd;refine wpAny_binaryOp_repeat_ref (T := "tuple") (U := "int") (by decide) ⟨_,ho,rfl⟩ (fun s'=>typeIs_int s' k t) ix PySem.F.fills_int_mul PySem.F.slot_int_rmul ma PySem.F.slot_int_index.lookup
  (call_meets PySem.F.slot_int_rmul (typeIs_int s k t) PySem.F.entry_int_rmul (PySem.F.args_int_rmul_2 _ _) (jw k t a its.toArray n dd sl) ⟨ho,rfl,⟨_,ho,rfl⟩,?_⟩)
 cases its with
 | nil =>
  have hx:xs=[]:=List.length_eq_zero_iff.mp hl;have e:(List.replicate k.toNat xs).flatten=xs:=by rw[hx];simp
  exact call_meets PySem.F.slot_tuple_mul ⟨_,ho,rfl⟩ PySem.F.entry_tuple_mul (PySem.F.args_tuple_mul_2 _ _) (kJ a n k t dd sl h0 h1) ⟨ho,⟨.ref a,H,I,rfl,q2 e⟩⟩
 | cons it its' =>
  have hne:(it::its').toArray.isEmpty=false:=by simp
  by_cases k1:k=1
  ·subst k1;have e:(List.replicate (1:Int).toNat xs).flatten=xs:=by simp
   exact call_meets PySem.F.slot_tuple_mul ⟨_,ho,rfl⟩ PySem.F.entry_tuple_mul (PySem.F.args_tuple_mul_2 _ _) (kI a _ n t dd sl) ⟨ho,⟨.ref a,H,I,rfl,q2 e⟩⟩
  ·by_cases k0:k=0
   ·subst k0;refine call_meets PySem.F.slot_tuple_mul ⟨_,ho,rfl⟩ PySem.F.entry_tuple_mul (PySem.F.args_tuple_mul_2 _ _) (jx a _ n t dd sl hne) ⟨ho,?_⟩;refine⟨.ref s.heap.objs.size,_,I.laid (t':=s.toks) (o:=.tup []) (fun b ob q=>Heap.get?_push_of_some _ q) (Nat.le_refl _) ?_,rfl,q1 _ (I.hok.fresh (Nat.le_refl _))⟩;exact⟨Nat.zero_le _,[],.nil,TupO.new _ _⟩
   ·refine call_meets PySem.F.slot_tuple_mul ⟨_,ho,rfl⟩ PySem.F.entry_tuple_mul (PySem.F.args_tuple_mul_2 _ _) (kH a _ n k t dd sl (by omega) h1 (by rw[List.size_toArray,← hl];exact hz) hne) ⟨ho,?_⟩;have ef:=iw (it::its') k.toNat [];rw[List.nil_append]at ef;have ef':List.foldl (fun x1 x2=>x1++x2) #[] (List.replicate k.toNat (it::its').toArray)=(List.replicate k.toNat (it::its')).flatten.toArray:=ef;rw[ef'];refine⟨.ref s.heap.objs.size,_,I.laid (t':=s.toks) (o:=.tup (List.replicate k.toNat xs).flatten) (fun b ob q=>Heap.get?_push_of_some _ q) (Nat.le_refl _) ?_,rfl,q1 _ (I.hok.fresh (Nat.le_refl _))⟩;exact⟨by rw[pJ,Nat.mul_comm];exact hz,_,r.rep k.toNat,TupO.new _ _⟩
theorem sS {F:Fx}:OpD F (rRepT F.K) dRepT:=by
 intro H Z x y dx dy Q s rx ry w;cases dx with
 | tup ds =>
  cases dy with
  | int k =>
   rw[Rep]at rx;rw[Rep]at ry;obtain⟨a,vs,rfl,h1,h2⟩:=rx;subst ry;unfold dRepT at w
   dsimp only at w
   split at w
   ·rename_i hk;refine⟨a,k,vs,rfl,rfl,h1.mono s,hk.1,hk.2.1,by rw[← h2.length,sizeLine_eq];exact hk.2.2,fun p hp=>?_,fun e=>?_⟩
    ·have z:Same Z (upd Z p (.tup (List.replicate k.toNat vs).flatten)):=aC (s.free hp);exact w _ _ (Ex.alloc s hp) _ (by rw[Rep];exact⟨p,_,rfl,SqT.of ai,(gN h2 k.toNat).mono z⟩)
    ·refine WG.now w s _ ?_;rw[Rep];exact⟨a,vs,rfl,h1,by have:=gN h2 k.toNat;rw[e]at this;exact this⟩
   ·exact w.elim
  | _=>exact w.elim
 | _=>exact w.elim
theorem sT {F:Fx}:OpD F (fun x y H Q=>∃ a b xs ys,x=.ref a∧y=.ref b∧SqL F.K H a xs∧SqL F.K H b ys∧xs.length+ys.length≤sizeLine∧∀ p,H p=none→Q (.ref p) (upd H p (.lst (xs++ys)))) dCatL:=by
 intro H Z x y dx dy Q s rx ry w;cases dx with
 | lst ds =>
  cases dy with
  | lst es =>
   rw[Rep]at rx;rw[Rep]at ry;obtain⟨a,vs,rfl,h1,h2⟩:=rx;obtain⟨b,us,rfl,k1,k2⟩:=ry;unfold dCatL at w
   dsimp only at w
   split at w
   ·rename_i hl;refine⟨a,b,vs,us,rfl,rfl,s.seq h1,s.seq k1,by rw[← h2.length,← k2.length,sizeLine_eq];exact hl,fun p hp=>?_⟩;have z:Same Z (upd Z p (.lst (vs++us))):=aC (s.free hp);exact w _ _ (Ex.alloc s hp) _ (by rw[Rep];exact⟨p,_,rfl,SqL.of ai,(h2.append k2).mono z⟩)
   ·exact w.elim
  | _=>exact w.elim
 | _=>exact w.elim
theorem sU {X:Cx}:OpR X (binaryOp .Add) (fun x y H Q=>∃ a b xs ys,x=.ref a∧y=.ref b∧SqL X.K H a xs∧SqL X.K H b ys∧xs.length+ys.length≤sizeLine∧∀ p,H p=none→Q (.ref p) (upd H p (.lst (xs++ys)))):=by
 intro pins s σ H x y v u Q I rx ry h;obtain⟨a,b,xs,ys,rfl,rfl,ha,hb,hz,q⟩:=h;cases rx;cases ry;obtain⟨its,r,⟨o,n,e,c1,c2,c3⟩,_⟩:=I.list ha;obtain⟨its2,r2,⟨o2,n2,e2,d1,d2,d3⟩,_⟩:=I.list hb;have l1:=r.length;have l2:=r2.length;obtain⟨cls,dd,data,sl⟩:=o;obtain⟨cls2,dd2,data2,sl2⟩:=o2;simp only at c1 c3 d1 d3;subst c1 c3 d1 d3;refine concat_meets ⟨_,e,rfl⟩ ⟨_,e2,rfl⟩ noFill_list_add seq_list_add PySem.F.slot_list_add PySem.F.entry_list_add (PySem.F.args_list_add_2 _ _) (qP a b its.toArray its2.toArray n n2 dd dd2 sl sl2 (by rw[List.size_toArray,List.size_toArray];omega)) ⟨e,e2,?_⟩;have ea:its.toArray++its2.toArray=(its++its2).toArray:=by simp
 rw[ea];exact⟨.ref _,_,I.lnew (t':=s.toks) (r.append r2) (by rw[List.length_append];omega),rfl,q _ I.fresh⟩
def rRepL (K:Frag):R2:=fun x y H Q=>∃ a k xs,x=.ref a∧y=.int k∧SqL K H a xs∧0≤k∧k < 1000000∧xs.length*k.toNat≤sizeLine∧∀ p,H p=none→Q (.ref p) (upd H p (.lst (List.replicate k.toNat xs).flatten))
theorem vE {X:Cx}:OpR X (binaryOp .Mult) (rRepL X.K):=by
 intro pins s σ H x y v u Q I rx ry h;obtain⟨a,k,xs,rfl,rfl,ha,h0,h1,hz,q⟩:=h;cases rx;obtain⟨t,rfl⟩:=ry;obtain⟨its,r,⟨o,n,e,c1,c2,c3⟩,_⟩:=I.list ha;have hl:=r.length;obtain⟨cls,dd,data,sl⟩:=o;simp only at c1 c3;subst c1 c3;refine wpAny_binaryOp_repeat_ref (T := "list") (U := "int") (by decide) ⟨_,e,rfl⟩ (fun s'=>typeIs_int s' k t) noFill_list_mul PySem.F.fills_int_mul PySem.F.slot_int_rmul repeat_list PySem.F.slot_int_index.lookup
  (call_meets PySem.F.slot_int_rmul (typeIs_int s k t) PySem.F.entry_int_rmul (PySem.F.args_int_rmul_2 _ _) (kK k t a its.toArray n dd sl) ⟨e,rfl,⟨_,e,rfl⟩,
   call_meets PySem.F.slot_list_mul ⟨_,e,rfl⟩ PySem.F.entry_list_mul (PySem.F.args_list_mul_2 _ _) (qQ a its.toArray n k t dd sl (by omega) (by omega) (by rw[List.size_toArray,← hl];exact hz)) ⟨e,?_⟩⟩)
 have hnew:List.foldl (fun x1 x2=>x1++x2) #[] (List.replicate (if its.toArray.isEmpty=true then 0 else k.toNat) its.toArray)=(List.replicate k.toNat its).flatten.toArray:=by
  have f0:∀ m:Nat,List.foldl (fun x1 x2=>x1++x2) #[] (List.replicate m its.toArray)=(List.replicate m its).flatten.toArray:=fun m=>by
   have:=iw its m []
   rwa [List.nil_append]at this
  rw[f0];cases its with
  | nil=>simp
  | cons a r'=>rw[if_neg (by simp)]
 rw[hnew];exact⟨.ref _,_,I.lnew (t':=s.toks) (r.rep k.toNat) (by rw[pJ,Nat.mul_comm];exact hz),rfl,q _ I.fresh⟩
theorem sV {F:Fx}:OpD F (rRepL F.K) dRepL:=by
 intro H Z x y dx dy Q s rx ry w;cases dx with
 | lst ds =>
  cases dy with
  | int k =>
   rw[Rep]at rx;rw[Rep]at ry;obtain⟨a,vs,rfl,h1,h2⟩:=rx;subst ry;unfold dRepL at w
   dsimp only at w
   split at w
   ·rename_i hk;refine⟨a,k,vs,rfl,rfl,s.seq h1,hk.1,hk.2.1,by rw[← h2.length,sizeLine_eq];exact hk.2.2,fun p hp=>?_⟩;have z:Same Z (upd Z p (.lst (List.replicate k.toNat vs).flatten)):=aC (s.free hp);exact w _ _ (Ex.alloc s hp) _ (by rw[Rep];exact⟨p,_,rfl,SqL.of ai,(gN h2 k.toNat).mono z⟩)
   ·exact w.elim
  | _=>exact w.elim
 | _=>exact w.elim
mutual
def eqD:D→D→Bool
 | .non,.non=>true
 | .bl a,.bl b=>a==b
 | .bl a,.int b=>(if a then 1 else 0)==b
 | .int a,.bl b=>a==(if b then 1 else 0)
 | .int a,.int b=>a==b
 | .str a,.str b=>a==b
 | .tup xs,.tup ys=>eqDs xs ys
 | .lst xs,.lst ys=>eqDs xs ys
 | _,_=>false
def eqDs:List D→List D→Bool
 | [],[]=>true
 | x::xs,y::ys=>eqD x y&&eqDs xs ys
 | _,_=>false
end
mutual
def good:Nat→D→Bool
 | _,.exc _=>false
 | _,.fn _=>false
 | _,.tab _ _=>false
 | _,.dic _ _=>false
 | _,.ptr _=>false
 | 0,.tup _=>false
 | 0,.lst _=>false
 | n+1,.tup xs=>goods n xs
 | n+1,.lst xs=>goods n xs
 | _,_=>true
def goods:Nat→List D→Bool
 | _,[]=>true
 | n,x::xs=>good n x&&goods n xs
end
mutual
theorem jz:∀ (n:Nat) (d:D),good n d=true→eqD d d=true
 | n,.non,_=>by simp[eqD]
 | n,.bl b,_=>by simp[eqD]
 | n,.int i,_=>by simp[eqD]
 | n,.str x,_=>by simp[eqD]
 | 0,.tup xs,h=>by simp[good]at h
 | 0,.lst xs,h=>by simp[good]at h
 | n+1,.tup xs,h=>by rw[good]at h;rw[eqD];exact iz n xs h
 | n+1,.lst xs,h=>by rw[good]at h;rw[eqD];exact iz n xs h
 | n,.exc k,h=>by cases n<;>simp[good]at h
 | n,.fn k,h=>by cases n<;>simp[good]at h
 | n,.tab ks xs,h=>by cases n<;>simp[good]at h
 | n,.dic ks xs,h=>by cases n<;>simp[good]at h
 | n,.ptr a,h=>by cases n<;>simp[good]at h
theorem iz:∀ (n:Nat) (ds:List D),goods n ds=true→eqDs ds ds=true
 | n,[],_=>by simp[eqDs]
 | n,d::ds,h=>by
  rw[goods,Bool.and_eq_true]at h;rw[eqDs,jz n d h.1,iz n ds h.2];rfl
end
theorem aN {n:Nat}:∀ {ds:List D} {i:Nat} {d:D},goods n ds=true→ds[i]?=some d→good n d=true
 | [],_,_,_,e=>by simp at e
 | x::xs,0,d,h,e=>by
  rw[goods,Bool.and_eq_true]at h
  simp at e;subst e;exact h.1
 | x::xs,i+1,d,h,e=>by
  rw[goods,Bool.and_eq_true]at h;exact aN h.2 (by simpa using e)
theorem cF:∀ (ds es:List D),eqDs ds es=((List.range (min ds.length es.length)).all (fun j=>eqD (ds.getD j .non) (es.getD j .non))&&ds.length==es.length)
 | [],[]=>by simp[eqDs]
 | [],e::es=>by simp[eqDs]
 | d::ds,[]=>by simp[eqDs]
 | d::ds,e::es=>by
  rw[eqDs,cF ds es];have h1:min (d::ds).length (e::es).length=min ds.length es.length+1:=by simp only[List.length_cons];omega
  rw[h1,List.range_succ_eq_map,List.all_cons,List.all_map];have h2:((d::ds).length==(e::es).length)=(ds.length==es.length):=by simp
  rw[h2];simp only[List.getD_cons_zero,Bool.and_assoc];rfl
section
variable {X:Cx}{F:Fx}{pins:List (Addr×Obj)}{σ:St}{H Z:Hp}{s:Shared}
theorem lA {a:Addr}{xs ys:List V}(I:Inv X pins σ H s)(h:SqL X.K H a xs)(h':SqT X.K H a ys):False:=by
 obtain⟨its,r,p,_⟩:=I.list h;obtain⟨its',r',p',_⟩:=I.tuple h';exact SeqAt.ne_of_list_tuple p.isList (show s.heap.IsTuple a its'.toArray from p') rfl
mutual
theorem ji {K:Frag}{C:Nat→Addr}(hK:X.K=K)(I:Inv X pins σ H s)(z:Same Z H):∀ (n:Nat) (d e:D) (v:V),good n d=true→good n e=true→Rep K C Z d v→Rep K C Z e v→d=e
 | n,.non,e,v,g1,g2,h,h'=>by rw[Rep]at h;subst h;cases e<;>rw[Rep]at h'<;>first | rfl | (obtain⟨_,_,q,_⟩:=h';cases q;done) | (obtain⟨_,q,_⟩:=h';cases q;done) | (cases h';done)
 | n,.bl b,e,v,g1,g2,h,h'=>by rw[Rep]at h;subst h;cases e<;>rw[Rep]at h'<;>first | (cases h';rfl) | (obtain⟨_,_,q,_⟩:=h';cases q;done) | (obtain⟨_,q,_⟩:=h';cases q;done) | (cases h';done)
 | n,.int b,e,v,g1,g2,h,h'=>by rw[Rep]at h;subst h;cases e<;>rw[Rep]at h'<;>first | (cases h';rfl) | (obtain⟨_,_,q,_⟩:=h';cases q;done) | (obtain⟨_,q,_⟩:=h';cases q;done) | (cases h';done)
 | n,.str b,e,v,g1,g2,h,h'=>by rw[Rep]at h;subst h;cases e<;>rw[Rep]at h'<;>first | (cases h';rfl) | (obtain⟨_,_,q,_⟩:=h';cases q;done) | (obtain⟨_,q,_⟩:=h';cases q;done) | (cases h';done)
 | 0,.tup xs,e,v,g1,g2,h,h'=>by simp[good]at g1
 | 0,.lst xs,e,v,g1,g2,h,h'=>by simp[good]at g1
 | n,.exc k,e,v,g1,g2,h,h'=>by cases n<;>simp[good]at g1
 | n,.fn k,e,v,g1,g2,h,h'=>by cases n<;>simp[good]at g1
 | n,.tab ks xs,e,v,g1,g2,h,h'=>by cases n<;>simp[good]at g1
 | n,.dic ks xs,e,v,g1,g2,h,h'=>by cases n<;>simp[good]at g1
 | n,.ptr a,e,v,g1,g2,h,h'=>by cases n<;>simp[good]at g1
 | n+1,.tup ds,e,v,g1,g2,h,h'=>by
  rw[Rep]at h;obtain⟨a,vs,rfl,h1,h2⟩:=h;cases e with
  | tup es =>
   rw[Rep]at h';obtain⟨b,us,q,k1,k2⟩:=h';cases q;have e1:vs=us:=I.tuple_inj (by rw[hK];exact h1.mono z) (by rw[hK];exact k1.mono z);subst e1;rw[good]at g1 g2;rw[jA hK I z n ds es vs g1 g2 h2 k2]
  | lst es =>
   rw[Rep]at h';obtain⟨b,us,q,k1,k2⟩:=h';cases q;exact(lA I (by rw[hK];exact z.seq k1) (by rw[hK];exact h1.mono z)).elim
  | exc k=>simp[good]at g2
  | fn k=>simp[good]at g2
  | tab ks xs=>simp[good]at g2
  | dic ks xs=>simp[good]at g2
  | ptr a=>simp[good]at g2
  | _=>rw[Rep]at h';cases h'
 | n+1,.lst ds,e,v,g1,g2,h,h'=>by
  rw[Rep]at h;obtain⟨a,vs,rfl,h1,h2⟩:=h;cases e with
  | lst es =>
   rw[Rep]at h';obtain⟨b,us,q,k1,k2⟩:=h';cases q;have e1:vs=us:=I.list_inj (by rw[hK];exact z.seq h1) (by rw[hK];exact z.seq k1);subst e1;rw[good]at g1 g2;rw[jA hK I z n ds es vs g1 g2 h2 k2]
  | tup es =>
   rw[Rep]at h';obtain⟨b,us,q,k1,k2⟩:=h';cases q;exact(lA I (by rw[hK];exact z.seq h1) (by rw[hK];exact k1.mono z)).elim
  | exc k=>simp[good]at g2
  | fn k=>simp[good]at g2
  | tab ks xs=>simp[good]at g2
  | dic ks xs=>simp[good]at g2
  | ptr a=>simp[good]at g2
  | _=>rw[Rep]at h';cases h'
theorem jA {K:Frag}{C:Nat→Addr}(hK:X.K=K)(I:Inv X pins σ H s)(z:Same Z H):∀ (n:Nat) (ds es:List D) (vs:List V),goods n ds=true→goods n es=true→Reps K C Z ds vs→Reps K C Z es vs→ds=es
 | n,[],es,vs,g1,g2,h,h'=>by
  rw[Reps]at h;subst h;cases es with
  | nil=>rfl
  | cons e es=>rw[Reps]at h';obtain⟨_,_,q,_⟩:=h';cases q
 | n,d::ds,es,vs,g1,g2,h,h'=>by
  rw[Reps]at h;obtain⟨v,r,rfl,h1,h2⟩:=h;cases es with
  | nil=>rw[Reps]at h';cases h'
  | cons e es =>
   obtain⟨k1,k2⟩:=h'.uncons;rw[goods,Bool.and_eq_true]at g1 g2;rw[ji hK I z n d e v g1.1 g2.1 h1 k1,jA hK I z n ds es r g1.2 g2.2 h2 k2]
end
def flatD:D→Bool
 | .non=>true
 | .bl _=>true
 | .int _=>true
 | .str _=>true
 | _=>false
theorem gO {K:Frag}{C:Nat→Addr}{d:D}{v:V}(f:flatD d=true)(h:Rep K C Z d v):flatV v=true:=by
 cases d<;>first | (rw[Rep]at h;subst h;rfl) | simp[flatD]at f
theorem mU {K:Frag}{C:Nat→Addr}{d e:D}{v u:V}(f1:flatD d=true)(f2:flatD e=true)(h:Rep K C Z d v)(h':Rep K C Z e u):eqV v u=eqD d e:=by
 cases d<;>first | (simp[flatD]at f1;done) | (cases e<;>first | (simp[flatD]at f2;done) | (rw[Rep]at h;rw[Rep]at h';subst h;subst h';simp[eqV,eqD]))
set_option maxHeartbeats 4000000 in
theorem iA {K:Frag}{C:Nat→Addr}(hK:X.K=K)(I:Inv X pins σ H s)(z:Same Z H):∀ (n:Nat) (A:Around) (d e:D) (v u:V) (x y:Value),good n d=true→good n e=true→Rep K C Z d v→Rep K C Z e u→RelV v x→RelV u y→A.units+n < cLine→SeqAt.EqAt A s x y (eqD d e):=by
 intro n
 induction n with
 | zero =>
  intro A d e v u x y g1 g2 h h' rx ry hu;have f1:flatD d=true:=by cases d<;>first | rfl | simp[good]at g1
  have f2:flatD e=true:=by cases e<;>first | rfl | simp[good]at g2
  rw[← mU f1 f2 h h'];exact sL rx ry (gO f1 h) (gO f2 h')
 | succ n ih =>
  intro A d e v u x y g1 g2 h h' rx ry hu;have hu0:A.units < cLine:=by omega
  have in1:A.in1.units+n < cLine:=by show A.units+1+n < cLine;omega
  by_cases f1:flatD d=true
  ·by_cases f2:flatD e=true
   ·rw[← mU f1 f2 h h'];exact sL rx ry (gO f1 h) (gO f2 h')
   ·cases e with
    | tup es =>
     rw[Rep]at h';obtain⟨b,us,rfl,k1,k2⟩:=h';cases ry;obtain⟨its,_,p,_⟩:=I.tuple (by rw[hK];exact k1.mono z:SqT X.K H b us);have p':s.heap.IsTuple b its.toArray:=p;cases d<;>first | (simp[flatD]at f1;done) | (rw[Rep]at h;subst h;simp only[eqD];first | (cases rx;first | exact SeqAt.EqAt.none_tuple p' hu0 | exact SeqAt.EqAt.bool_tuple _ p' hu0) | (obtain⟨t,rfl⟩:=rx;first | exact SeqAt.EqAt.int_tuple _ _ p' hu0 | exact SeqAt.EqAt.str_tuple _ _ p' hu0))
    | lst es =>
     rw[Rep]at h';obtain⟨b,us,rfl,k1,k2⟩:=h';cases ry;obtain⟨its,_,p,_⟩:=I.list (by rw[hK];exact z.seq k1:SqL X.K H b us);have p':=p.isList;cases d<;>first | (simp[flatD]at f1;done) | (rw[Rep]at h;subst h;simp only[eqD];first | (cases rx;first | exact SeqAt.EqAt.none_list p' hu0 | exact SeqAt.EqAt.bool_list _ p' hu0) | (obtain⟨t,rfl⟩:=rx;first | exact SeqAt.EqAt.int_list _ _ p' hu0 | exact SeqAt.EqAt.str_list _ _ p' hu0))
    | exc k=>simp[good]at g2
    | fn k=>simp[good]at g2
    | tab ks xs=>simp[good]at g2
    | dic ks xs=>simp[good]at g2
    | ptr a=>simp[good]at g2
    | _=>simp[flatD]at f2
  ·cases d with
   | tup ds =>
    have hh:=h;rw[Rep]at h;obtain⟨a,vs,rfl,h1,h2⟩:=h;cases rx;obtain⟨its,r,p,_⟩:=I.tuple (by rw[hK];exact h1.mono z:SqT X.K H a vs);have p':s.heap.IsTuple a its.toArray:=p;cases e with
    | tup es =>
     have hh':=h';rw[Rep]at h';obtain⟨b,us,rfl,k1,k2⟩:=h';cases ry;by_cases hab:a=b
     ·subst hab;have:=ji hK I z (n+1) _ _ _ g1 g2 hh hh';rw[← this,jz (n+1) _ g1];exact SeqAt.EqAt.same _
     ·obtain⟨its2,r2,p2,_⟩:=I.tuple (by rw[hK];exact k1.mono z:SqT X.K H b us);have p2':s.heap.IsTuple b its2.toArray:=p2;rw[good]at g1 g2;have q:=SeqAt.RcAt.tuples (A:=A) (e:=fun j=>eqD (ds.getD j .non) (es.getD j .non)) p' p2' hu0 fun j j1 j2=>by
       have j1':j < its.length:=by simpa using j1
       have j2':j < its2.length:=by simpa using j2
       have l1:j < ds.length:=by rw[h2.length,r.length];exact j1'
       have l2:j < es.length:=by rw[k2.length,r2.length];exact j2'
       have e1:ds[j]?=some ds[j]:=by simp
       have e2:es[j]?=some es[j]:=by simp
       obtain⟨w1,f1,f2⟩:=h2.get e1;obtain⟨w2,f3,f4⟩:=k2.get e2;obtain⟨z1,m1,m2⟩:=r.get f1;obtain⟨z2,m3,m4⟩:=r2.get f3;have n1:its.toArray[j]=z1:=by simpa [j1'] using m1
       have n2:its2.toArray[j]=z2:=by simpa [j2'] using m3
       rw[n1,n2];have g3:ds.getD j .non=ds[j]:=by simp[l1]
       have g4:es.getD j .non=es[j]:=by simp[l2]
       rw[g3,g4];exact ih A.in1 _ _ w1 w2 z1 z2 (aN g1 e1) (aN g2 e2) f2 f4 m2 m4 in1
      rw[eqD,cF];have s1:its.toArray.size=ds.length:=by rw[List.size_toArray,h2.length,r.length]
      have s2:its2.toArray.size=es.length:=by rw[List.size_toArray,k2.length,r2.length]
      rw[s1,s2]at q;exact SeqAt.EqAt.of_refs hab q
    | lst es =>
     rw[Rep]at h';obtain⟨b,us,rfl,k1,k2⟩:=h';cases ry;obtain⟨its2,r2,p2,_⟩:=I.list (by rw[hK];exact z.seq k1:SqL X.K H b us);simp only[eqD];exact SeqAt.EqAt.tuple_list p' p2.isList hu0
    | exc k=>simp[good]at g2
    | fn k=>simp[good]at g2
    | tab ks xs=>simp[good]at g2
    | dic ks xs=>simp[good]at g2
    | ptr a=>simp[good]at g2
    | _=>rw[Rep]at h';subst h';simp only[eqD];first | (cases ry;first | exact SeqAt.EqAt.tuple_none p' hu0 | exact SeqAt.EqAt.tuple_bool _ p' hu0) | (obtain⟨t,rfl⟩:=ry;first | exact SeqAt.EqAt.tuple_int _ _ p' hu0 | exact SeqAt.EqAt.tuple_str _ _ p' hu0)
   | lst ds =>
    have hh:=h;rw[Rep]at h;obtain⟨a,vs,rfl,h1,h2⟩:=h;cases rx;obtain⟨its,r,p,_⟩:=I.list (by rw[hK];exact z.seq h1:SqL X.K H a vs);have p':=p.isList;cases e with
    | lst es =>
     have hh':=h';rw[Rep]at h';obtain⟨b,us,rfl,k1,k2⟩:=h';cases ry;by_cases hab:a=b
     ·subst hab;have:=ji hK I z (n+1) _ _ _ g1 g2 hh hh';rw[← this,jz (n+1) _ g1];exact SeqAt.EqAt.same _
     ·obtain⟨its2,r2,p2,_⟩:=I.list (by rw[hK];exact z.seq k1:SqL X.K H b us);have p2':=p2.isList;rw[good]at g1 g2;have s1:its.toArray.size=ds.length:=by rw[List.size_toArray,h2.length,r.length]
      have s2:its2.toArray.size=es.length:=by rw[List.size_toArray,k2.length,r2.length]
      rw[eqD,cF];by_cases hsz:ds.length=es.length
      ·have q:=SeqAt.RcAt.lists (A:=A) (e:=fun j=>eqD (ds.getD j .non) (es.getD j .non)) p' p2' (by rw[s1,s2];exact hsz) hu0 fun j j1 j2=>by
        have j1':j < its.length:=by simpa using j1
        have j2':j < its2.length:=by simpa using j2
        have l1:j < ds.length:=by rw[h2.length,r.length];exact j1'
        have l2:j < es.length:=by rw[k2.length,r2.length];exact j2'
        have e1:ds[j]?=some ds[j]:=by simp
        have e2:es[j]?=some es[j]:=by simp
        obtain⟨w1,f1,f2⟩:=h2.get e1;obtain⟨w2,f3,f4⟩:=k2.get e2;obtain⟨z1,m1,m2⟩:=r.get f1;obtain⟨z2,m3,m4⟩:=r2.get f3;have n1:its.toArray[j]=z1:=by simpa [j1'] using m1
        have n2:its2.toArray[j]=z2:=by simpa [j2'] using m3
        rw[n1,n2];have g3:ds.getD j .non=ds[j]:=by simp[l1]
        have g4:es.getD j .non=es[j]:=by simp[l2]
        rw[g3,g4];exact ih A.in1 _ _ w1 w2 z1 z2 (aN g1 e1) (aN g2 e2) f2 f4 m2 m4 in1
       rw[s1]at q;rw[hsz,Nat.min_self,beq_self_eq_true,Bool.and_true,← hsz];exact SeqAt.EqAt.of_refs hab q
      ·have q:=SeqAt.RcAt.lists_lengths (A:=A) p' p2' (by rw[s1,s2];simpa using hsz) hu0;rw[show (ds.length==es.length)=false by simpa using hsz,Bool.and_false];exact SeqAt.EqAt.of_refs hab q
    | tup es =>
     rw[Rep]at h';obtain⟨b,us,rfl,k1,k2⟩:=h';cases ry;obtain⟨its2,r2,p2,_⟩:=I.tuple (by rw[hK];exact k1.mono z:SqT X.K H b us);simp only[eqD];exact SeqAt.EqAt.list_tuple p' (show s.heap.IsTuple b its2.toArray from p2) hu0
    | exc k=>simp[good]at g2
    | fn k=>simp[good]at g2
    | tab ks xs=>simp[good]at g2
    | dic ks xs=>simp[good]at g2
    | ptr a=>simp[good]at g2
    | _=>rw[Rep]at h';subst h';simp only[eqD];first | (cases ry;first | exact SeqAt.EqAt.list_none p' hu0 | exact SeqAt.EqAt.list_bool _ p' hu0) | (obtain⟨t,rfl⟩:=ry;first | exact SeqAt.EqAt.list_int _ _ p' hu0 | exact SeqAt.EqAt.list_str _ _ p' hu0)
   | exc k=>simp[good]at g1
   | fn k=>simp[good]at g1
   | tab ks xs=>simp[good]at g1
   | dic ks xs=>simp[good]at g1
   | ptr a=>simp[good]at g1
   | _=>simp[flatD]at f1
end
theorem objThere {P:Program}{w:World}{H:Hp}{h:Heap}{a:Addr}{o:HO}(x:ObjOk P w H h a o):∃ ob,h.get? a=some ob:=by
 cases o with
 | lst xs=>obtain⟨_,_,_,_,e⟩:=x;exact⟨_,e⟩
 | tup xs=>obtain⟨_,_,_,o,e,_⟩:=x;exact⟨o,e⟩
 | dK kvs=>obtain⟨_,_,_,_,o,_,_,e,_⟩:=x;exact⟨o,e⟩
 | dT kvs=>obtain⟨_,_,_,_,o,_,_,e,_⟩:=x;exact⟨o,e⟩
 | set S n=>obtain⟨o,_,_,_,e,_⟩:=x;exact⟨o,e⟩
 | ins C dx fs=>obtain⟨_,_,_,e,_⟩:=x;exact⟨_,e⟩
 | own y=>exact x
 | xd fs=>obtain⟨_,⟨o,_,_,e,_⟩,_⟩:=x;exact⟨o,e⟩
 | rng lo hi=>obtain⟨_,_,_,e⟩:=x;exact⟨_,e⟩
 | frz ob u=>obtain⟨e,_⟩:=x;exact⟨_,e⟩
 | tbl ps=>exact⟨_,(show h.get? a=some _ from x)⟩
 | met f y=>exact⟨_,(show h.get? a=some _ from x)⟩
 | ext φ=>obtain⟨_,e,_⟩:=x;exact e
def Cov (B:Heap)(h h':Heap)(H':Hp)(l:List Env):Prop:=∀ b o,h'.get? b=some o→(H' b≠none∨∃ o',h.get? b=some o')→b∉frs l→B.get? b=some o
def CXE (P:Program)(w:World):CXT:=fun outer H s E e s' =>
 ∃ (ea C t:Addr) (H':Hp) (B:Heap),e=.ref ea∧s'.os=s.os∧AllBare s'.gens∧Un (frs outer) [] H H' s.heap s'.heap∧HOk P w H' s'.heap ∧
  Heap.FlyingW B outer ea (.ref C) (.ref t) s'.heap∧H' ea=none∧Cov B s.heap s'.heap H' outer∧E (.ref C) none H'
section
variable {X:Cx}{pins:List (Addr×Obj)}{σ:St}{H H':Hp}{s s':Shared}{B:Heap}
theorem vF {h2:Heap}{sc:Shared}(J:Inv X pins σ H' s')(I:∃ σ0 H0 pl,Inv X pl σ0 H0 sc)(hp:∀ p∈X.pn++pins,∃ o,sc.heap.get? p.1=some o)(hl:∀ o,s'.heap.get? X.env.locals=some o→∃ o',sc.heap.get? X.env.locals=some o')
  (cov:Cov B sc.heap s'.heap H' X.stack) (hB:B.StaysIn h2) (up:s'.heap.UpToSlots h2):Inv X pins σ H' { s' with heap:=h2 }:=by
 obtain⟨σ0,H0,pl,I0⟩:=I;have ins:∀ b o,X.s₀.heap.get? b=some o→b∉X.ex→∃ o',sc.heap.get? b=some o':=fun b o e hx=>I0.base.there b o e hx
 have nloc:∀ b o,X.s₀.heap.get? b=some o→b≠X.env.locals:=fun b o e=>Nat.ne_of_lt (Nat.lt_of_lt_of_le (Heap.lt_size e) J.ok.above)
 have nstk:∀ b,b≠X.env.locals→b∉X.fs→b∉frs X.stack:=fun b h1 h2 z=>(List.mem_cons.mp (J.stkSub b z)).elim h1 h2
 have trk:∀ b o,s'.heap.get? b=some o→H' b≠none→h2.get? b=some o:=fun b o e ht=>hB b o (cov b o e (.inl ht) fun z=>ht (J.stkFree b z))
 have nf:∀ b∈X.fs,∀ o,s'.heap.get? b=some o→∀ vs,o.data≠.fields vs:=fun b hb o e=>by
  obtain⟨_,o',e',d⟩:=J.funs.mem hb;rw[e]at e';cases e';exact d
 refine⟨J.ok,J.os,J.bare,⟨fun b o e n hb hx=>?_,fun b o e n hb hx=>?_,J.base.free,fun b o e hx=>?_,J.base.tups,J.base.frzs,J.base.tbls⟩,?_,fun x c e=>?_,J.free,J.freeC,fun p hpp=>?_,fun b u e=>?_,J.len⟩
 ·have e1:=J.base.keep b o e n hb hx;exact hB b o (cov b o e1 (.inr (ins b o e hx)) (nstk b (nloc b o e) hb))
 ·obtain⟨sl,e1⟩:=J.base.slot b o e n hb hx;obtain⟨sl',e2⟩:=up b _ e1 (nf b hb _ e1);exact⟨sl',e2⟩
 ·obtain⟨o',e1⟩:=J.base.there b o e hx;by_cases hb:b∈X.fs
  ·obtain⟨sl',e2⟩:=up b _ e1 (nf b hb _ e1);exact⟨_,e2⟩
  ·exact⟨o',hB b o' (cov b o' e1 (.inr (ins b o e hx)) (nstk b (nloc b o e) hb))⟩
 ·obtain⟨m,hn,hv⟩:=J.loc;refine⟨m,up.ns hn,fun i x v h1 h2 h3=>?_⟩;obtain⟨u,r,l⟩:=hv i x v h1 h2 h3;refine⟨u,r,?_⟩;rcases l with l | ⟨k,c,e,⟨o,ho,hd⟩⟩
  ·exact .inl l
  ·obtain⟨sl,e2⟩:=up c o ho fun vs q=>by rw[hd]at q;cases q
   exact .inr ⟨k,c,e,⟨_,e2,hd⟩⟩
 ·obtain⟨v,o,ho,hd⟩:=J.cell x c e;obtain⟨sl,e2⟩:=up c o ho fun vs q=>by rw[hd]at q;cases q
  exact⟨v,_,e2,hd⟩
 ·obtain⟨e,n,ne,nf',d⟩:=J.pin p hpp;exact⟨hB _ _ (cov p.1 p.2 e (.inr (hp p hpp)) (nstk _ ne nf')),n,ne,nf',d⟩
 ·refine(J.hok b u e).stay (fun c v hc q=>trk c v q ?_) (fun _ q=>q) fun _ _ q=>q
  rcases hc with z | z
  ·subst z;rw[e];simp
  ·rw[z];simp
end
section
variable {P:Program}{w:World}{K:Frag}{mg:Str→Option Value}{base:Heap}{N:List Str}{qual:Str}{scope:Scope}{f:Addr}{cd:Value}{A:Around}{outer:List Env}{s0:Shared}{H0:Hp}{E:XK}
abbrev bodyX (P:Program)(w:World)(K:Frag)(mg:Str→Option Value)(base:Heap)(N:List Str)(qual:Str)(scope:Scope)(f:Addr)(cd:Value)(A:Around)(outer:List Env)(s0:Shared)(H0:Hp)(E:XK):Cx :=
 cxOf (CXE P w) P w K mg base N qual scope f cd A outer s0 H0 E
theorem pM {pins:List (Addr×Obj)}{σ:St}{H':Hp}{s':Shared}{B h2:Heap}{ea C t:Addr}(J:Inv (bodyX P w K mg base N qual scope f cd A outer s0 H0 E) pins σ H' s')
  (cov:Cov B s0.heap s'.heap H' (envOfC qual scope s0.heap.objs.size f cd::outer)) (up:s'.heap.UpToSlots h2) (fl:Heap.FlyingW B outer ea (.ref C) (.ref t) h2) (hn:H' ea=none) (hE:E (.ref C) none H') :
  CXE P w outer H0 s0 E (.ref ea) { s' with heap:=h2 }:=by
 have hB:=fl.1;have nloc:∀ b o,s0.heap.get? b=some o→b≠s0.heap.objs.size:=fun b o e=>Nat.ne_of_lt (Heap.lt_size e)
 have nstk:∀ b,b≠s0.heap.objs.size→b∉frs outer→b∉frs (envOfC qual scope s0.heap.objs.size f cd::outer):=fun b h1 h2 z=>(List.mem_cons.mp (J.stkSub b z)).elim h1 h2
 have trk:∀ b o,s'.heap.get? b=some o→H' b≠none→B.get? b=some o:=fun b o e ht=>cov b o e (.inl ht) fun z=>ht (J.stkFree b z)
 have noe:∀ b:Addr,b∉([]:List Addr):=fun _ z=>nomatch z
 have nf:∀ b∈frs outer,∀ o,s'.heap.get? b=some o→∀ vs,o.data≠.fields vs:=fun b hb o e=>by
  obtain⟨_,o',e',d⟩:=J.funs.mem hb;rw[e]at e';cases e';exact d
 have thr:∀ b o,s0.heap.get? b=some o→∃ o',s'.heap.get? b=some o'∧(b∉frs outer→B.get? b=some o'):=fun b o e=>by
  obtain⟨o',e1⟩:=J.base.there b o e (noe b);exact⟨o',e1,fun hb=>cov b o' e1 (.inr ⟨o,e⟩) (nstk b (nloc b o e) hb)⟩
 refine⟨ea,C,t,H',B,rfl,J.os,J.bare,⟨fun b o e n hb hx=>?_,fun b o e n hb hx=>?_,J.base.free,fun b o e hx=>?_,J.base.tups,J.base.frzs,J.base.tbls⟩,fun b u e=>?_,fl,hn,fun b o e hc hb=>?_,hE⟩
 ·have e1:=J.base.keep b o e n hb hx;exact hB b o (cov b o e1 (.inr ⟨o,e⟩) (nstk b (nloc b o e) hb))
 ·obtain⟨sl,e1⟩:=J.base.slot b o e n hb hx;obtain⟨sl',e2⟩:=up b _ e1 (nf b hb _ e1);exact⟨sl',e2⟩
 ·obtain⟨o',e1,e2⟩:=thr b o e;by_cases hb:b∈frs outer
  ·obtain⟨sl',e3⟩:=up b _ e1 (nf b hb _ e1);exact⟨_,e3⟩
  ·exact⟨o',hB b o' (e2 hb)⟩
 ·refine(J.hok b u e).stay (fun c v hc q=>hB c v (trk c v q ?_)) (fun _ q=>q) fun _ _ q=>q
  rcases hc with z | z
  ·subst z;rw[e];simp
  ·rw[z];simp
 ·have same:∀ o',s'.heap.get? b=some o'→B.get? b=some o'→B.get? b=some o:=fun o' _ q=>by
   have:=hB b o' q;have e':h2.get? b=some o:=e;rw[e']at this;cases this;exact q
  rcases hc with z | ⟨o',z⟩
  ·cases q:H' b with
   | none=>exact absurd q z
   | some u =>
    obtain⟨o',e1⟩:=objThere (J.hok b u q);exact same o' e1 (trk b o' e1 (by rw[q];simp))
  ·obtain⟨o'',e1,e2⟩:=thr b o' z;exact same o'' e1 (e2 hb)
theorem bQ:Passes (CXE P w) (bodyX P w K mg base N qual scope f cd A outer s0 H0 E) E:=by
 intro pins σ H s e s' I h;obtain⟨ea,C,t,H',B,rfl,os,bare,un,hok,fl,hn,cov,hE⟩:=h;have J:Inv (bodyX P w K mg base N qual scope f cd A outer s0 H0 E) pins σ H' s':=I.call' (ch:=[]) os un hok bare fun b z=>nomatch z
 refine wpAny_leaves_onW I.ok.frames rfl fl fun h2 fl2 up=>?_
 refine pM J (fun b o e hc hb=>cov b o e ?_ hb) up fl2 hn hE;rcases hc with z | ⟨o',z⟩
 ·exact .inl z
 ·obtain⟨o'',z'⟩:=I.base.there b o' z (fun q=>nomatch q);exact .inr ⟨o'',z'⟩
theorem dL {pins:List (Addr×Obj)}{σ:St}{H:Hp}{s:Shared}{h1:Heap}{ea C:Addr}{args:List Value}(I:Inv (bodyX P w K mg base N qual scope f cd A outer s0 H0 E) pins σ H s)(hx:Heap.MadeExcOf s.heap h1 ea (.ref C) args)(hE:E (.ref C) none H) :
  (bodyX P w K mg base N qual scope f cd A outer s0 H0 E).xe (.ref ea) { s with heap:=h1 }:=by
 have hin:∀ env∈(envOfC qual scope s0.heap.objs.size f cd::outer),∀ a,env.frame=some a→a∈frs (envOfC qual scope s0.heap.objs.size f cd::outer):=fun env he a ha=>List.mem_filterMap.mpr ⟨env,he,ha⟩
 refine wpAny_leaves_madeW (s:={ s with heap:=h1 }) (base:=hideAll s.heap (frs (envOfC qual scope s0.heap.objs.size f cd::outer))) I.ok.frames rfl (fun b o q=>PySem.W.of_hideAll _ q) (PySem.W.funFrames_hide I.stack hin) hx fun h2 t fl _ _ up=>?_
 have hn:H ea=none:=by
  cases q:H ea with
  | none=>rfl
  | some u =>
   obtain⟨o,e⟩:=objThere (I.hok ea u q);rw[hx.new]at e;cases e
 exact pM (s':=s) I (fun b o e _ hb=>PySem.W.hideAll_get _ e hb) ((Heap.UpToSlots.of_keeps hx.keeps).trans up) fl hn hE
end
def relabN (names:List (Str×NameKind))(env:Env):List (Str×NameKind) :=
 names.map fun (n,k)=>if (k==.free&&env.scope.kind==.function&&env.kindOf n==some .cell) then (n,.cell) else (n,k)
theorem jB {env:Env}:∀ {names:List (Str×NameKind)} {x:Str},names.lookup x=some .free→(relabN names env).lookup x=some .cell∨(relabN names env).lookup x=some .free
 | [],_,h=>by simp at h
 | (n,k)::r,x,h=>by
  have ih:=@jB env r x;show List.lookup x ((if (k==NameKind.free&&env.scope.kind==.function&&env.kindOf n==some .cell)=true then (n,NameKind.cell) else (n,k))::relabN r env)=_∨List.lookup x ((if (k==NameKind.free&&env.scope.kind==.function&&env.kindOf n==some .cell)=true then (n,NameKind.cell) else (n,k))::relabN r env)=_;cases hx:x==n with
  | true =>
   simp only[List.lookup_cons,hx]at h;cases h;split
   ·exact .inl (by simp[List.lookup_cons,hx])
   ·exact .inr (by simp[List.lookup_cons,hx])
  | false =>
   simp only[List.lookup_cons,hx]at h;split<;>(simp only[List.lookup_cons,hx];exact ih h)
theorem jC {env:Env}:∀ {names:List (Str×NameKind)} {x:Str},((relabN names env).lookup x=some .cell∨(relabN names env).lookup x=some .free)→∃ y∈names,y.1=x∧(y.2=.free∨y.2=.cell)
 | [],_,h=>by simp[relabN]at h
 | (n,k)::r,x,h=>by
  have ih:=@jC env r x
  change List.lookup x ((if (k==NameKind.free&&env.scope.kind==.function&&env.kindOf n==some .cell)=true then (n,NameKind.cell) else (n,k))::relabN r env)=_∨List.lookup x ((if (k==NameKind.free&&env.scope.kind==.function&&env.kindOf n==some .cell)=true then (n,NameKind.cell) else (n,k))::relabN r env)=_ at h
  cases hx:x==n with
  | true =>
   have e:x=n:=eq_of_beq hx;refine⟨(n,k),List.mem_cons_self,e.symm,?_⟩;by_cases hq:(k==NameKind.free&&env.scope.kind==.function&&env.kindOf n==some .cell)=true
   ·simp only[Bool.and_eq_true,beq_iff_eq]at hq;exact .inl hq.1.1
   ·rw[if_neg hq]at h;simp only[List.lookup_cons,hx]at h;rcases h with h | h
    ·cases h;exact .inr rfl
    ·cases h;exact .inl rfl
  | false =>
   have h':(relabN r env).lookup x=some .cell∨(relabN r env).lookup x=some .free:=by
    by_cases hq:(k==NameKind.free&&env.scope.kind==.function&&env.kindOf n==some .cell)=true
    ·rw[if_pos hq]at h;simpa only[List.lookup_cons,hx] using h
    ·rw[if_neg hq]at h;simpa only[List.lookup_cons,hx] using h
   obtain⟨y,hy,e⟩:=ih h';exact⟨y,List.mem_cons_of_mem _ hy,e⟩
theorem bo:∀ (names:List (Str×NameKind)) (n:Nat) (acc:List (Str×Addr)),cellsFrom n names acc=cellsFrom n names []++acc
 | [],_,_=>rfl
 | (name,kind)::r,n,acc=>by
  unfold cellsFrom;split
  ·rw[bo r (n+1) ((name,n)::acc),bo r (n+1) [(name,n)],List.append_assoc];rfl
  ·exact bo r n acc
theorem iB:∀ (names:List (Str×NameKind)) (n:Nat) {x:Str} {c:Addr},(x,c)∈cellsFrom n names []→(x,NameKind.cell)∈names
 | [],_,_,_,h=>nomatch h
 | (name,kind)::r,n,x,c,h=>by
  unfold cellsFrom at h;split at h
  ·rename_i hk;rw[bo]at h;rcases List.mem_append.mp h with h | h
   ·exact List.mem_cons_of_mem _ (iB r _ h)
   ·rw[List.mem_singleton]at h;cases h;rw[eq_of_beq hk];exact List.mem_cons_self
  ·exact List.mem_cons_of_mem _ (iB r _ h)
theorem iC:∀ (names:List (Str×NameKind)) (n:Nat) {x:Str},(x,NameKind.cell)∈names→∃ c,(cellsFrom n names []).lookup x=some c
 | [],_,_,h=>nomatch h
 | (name,kind)::r,n,x,h=>by
  by_cases hr:(x,NameKind.cell)∈r
  ·unfold cellsFrom;split
   ·obtain⟨c,hc⟩:=iC r (n+1) hr;rw[bo,List.lookup_append,hc];exact⟨c,rfl⟩
   ·exact iC r n hr
  ·rcases List.mem_cons.mp h with e | e
   ·cases e;unfold cellsFrom;rw[if_pos (by rfl),bo,List.lookup_append];cases (cellsFrom (n+1) r []).lookup name with
    | some c=>exact⟨c,rfl⟩
    | none=>exact⟨n,by simp[List.lookup_cons]⟩
   ·exact absurd e hr
structure CellsB (scope:Scope)(cl cl2:List (Str×Addr))(C:Addr)(h:Heap):Prop where
 old:∀ n c,cl2.lookup n=some c→(cl.lookup n=some c∧(n,NameKind.cell)∉scope.names)∨(C < c∧h.IsCell c none∧(n,NameKind.cell)∈scope.names)
 keep:∀ n,(n,NameKind.cell)∉scope.names→cl2.lookup n=cl.lookup n
 mine:∀ n,(n,NameKind.cell)∈scope.names→∃ c,cl2.lookup n=some c
 inj:∀ x y c,C < c→cl2.lookup x=some c→cl2.lookup y=some c→(x,NameKind.cell)∈scope.names→(y,NameKind.cell)∈scope.names→x=y
section
variable {M:Model}{A:Around}{E:Value→Shared→Prop}{s:Shared}
theorem mj {scope:Scope}{globals:Addr}{cl:List (Str×Addr)}{qual:Str}{env:Env}{Q:Env→Shared→Prop}
  (hQ:∀ h' cl2,h'.Ns s.heap.objs.size (fun _=>none)→(∀ b o,s.heap.get? b=some o→h'.get? b=some o)→CellsB scope cl cl2 s.heap.objs.size h'→Q (newEnv scope s.heap.objs.size globals cl2 qual none .none (some env) builtinsNs) { s with heap:=h' }) :
  wpAny M A (newFunctionEnv scope globals cl [] qual none .none (some env)) Q E s:=by
 simp only[newFunctionEnv,Option.isSome_some,if_true];refine wpAny_bind (wpAny_alloc ?_);refine wpAny_bind (wpAny_layCells _ (fun name kind cells=>by cases hkc:kind==NameKind.cell<;>simp[hkc]) _ _ _ _ ?_);have ok:=cellsFrom_ok scope.names (s.heap.push { cls:=.type "dict",data:=.dict #[] }) (s.heap.objs.size+1) [] ⟨fun _ _ hm=>(nomatch hm),List.Pairwise.nil⟩ (by rw[Heap.size_push];exact Nat.le_refl _);rw[Heap.size_push]at ok;rw[show ({ s with heap:=s.heap.push { cls:=.type "dict",data:=.dict #[] } }:Shared).heap.objs.size=s.heap.objs.size+1 from Heap.size_push ..];simp only[List.forIn_nil];refine wpAny_bind (wpAny_pure (wpAny_pure ?_));refine hQ _ _ ((Heap.Ns.new s.heap (.type "dict")).keeps (pushCells_keeps _ _)) (fun b o e=>pushCells_keeps _ _ b o (Heap.get?_push_of_some _ e)) ?_;have look:∀ n,(cellsFrom (s.heap.objs.size+1) scope.names cl).lookup n=((cellsFrom (s.heap.objs.size+1) scope.names []).lookup n).or (cl.lookup n):=fun n=>by rw[bo,List.lookup_append]
 have no:∀ n,(n,NameKind.cell)∉scope.names→(cellsFrom (s.heap.objs.size+1) scope.names []).lookup n=none:=fun n hn=>by
  cases e:(cellsFrom (s.heap.objs.size+1) scope.names []).lookup n with
  | none=>rfl
  | some c=>exact absurd (iB _ _ (PySem.mem_of_lookup e)) hn
 have keep:∀ n,(n,NameKind.cell)∉scope.names→(cellsFrom (s.heap.objs.size+1) scope.names cl).lookup n=cl.lookup n:=fun n hn=>by rw[look,no n hn];rfl
 have new:∀ n,(n,NameKind.cell)∈scope.names→∃ c,(cellsFrom (s.heap.objs.size+1) scope.names []).lookup n=some c∧(cellsFrom (s.heap.objs.size+1) scope.names cl).lookup n=some c:=fun n hn=>by
  obtain⟨c,hc⟩:=iC scope.names (s.heap.objs.size+1) hn;exact⟨c,hc,by rw[look,hc];rfl⟩
 refine⟨fun n c e=>?_,keep,fun n hn=>?_,fun x y c _ ex ey hx hy=>?_⟩
 ·by_cases hn:(n,NameKind.cell)∈scope.names
  ·obtain⟨c',h1,h2⟩:=new n hn;rw[e]at h2;cases h2;have:=ok.empty n c (PySem.mem_of_lookup h1);exact .inr ⟨this.2,this.1,hn⟩
  ·rw[keep n hn]at e;exact .inl ⟨e,hn⟩
 ·obtain⟨c,_,h2⟩:=new n hn;exact⟨c,h2⟩
 ·obtain⟨c1,h1,h2⟩:=new x hx;obtain⟨c2,h3,h4⟩:=new y hy;rw[ex]at h2;cases h2;rw[ey]at h4;cases h4;exact name_of_addr ok.apart (PySem.mem_of_lookup h1) (PySem.mem_of_lookup h3)
end
theorem fi {names:List (Str×NameKind)}{x:Str}{k:NameKind}(h:names.lookup x=some k):(x,k)∈names:=PySem.mem_of_lookup h
def blk (X:Cx)(scope:Scope)(cl:List (Str×Addr))(C:Addr)(s:Shared)(H:Hp)(fp:List Addr)(N:List Str):Cx where
 prog:=X.prog
 w:=X.w
 K:=X.K
 mg:=X.mg
 base:=X.base
 A:=X.A
 N:=N
 s₀:=s
 H₀:=H
 env:=compEnvC scope cl C X.env
 outer:=X.stack
 stack:=X.stack
 ex:=fp
 fn:=fun x=>scope.names.lookup x==some .cell
 calm:=true
 pn:=[]
 xe:=fun _ _=>False
def startB (own:Nat)(cap:List Nat)(σ:St):St:=List.replicate own none++cap.map fun i=>(σ[i]?).getD none
structure BlkOk (XN:List Str)(osc scope:Scope)(N:List Str)(own:Nat)(cap:List Nat):Prop where
 kind:scope.kind=.function
 ncell:∀ y∈scope.names,y.2=.cell→scope.names.lookup y.1=some .cell
 nfree:∀ y∈scope.names,y.2=.free→scope.names.lookup y.1=some .free
 nloc:∀ y∈scope.names,y.2=.local→scope.names.lookup y.1=some .local
 free:∀ y∈scope.names,y.2=.free→osc.names.lookup y.1=some .cell∨osc.names.lookup y.1=some .free
 len:N.length=own+cap.length
 capN:∀ j i,cap[j]?=some i→∃ x,N[own+j]?=some x∧XN[i]?=some x∧scope.names.lookup x=some .free
section
variable {X:Cx}{pins:List (Addr×Obj)}{σ:St}{H:Hp}{s:Shared}{scope:Scope}{N:List Str}{own:Nat}{cap:List Nat}{cl:List (Str×Addr)}{fp:List Addr}
theorem vG {cl2:List (Str×Addr)}(b:BlkOk X.N X.env.scope scope N own cap)(hc:X.calm=true)(I:Inv X pins σ H s)(hf:∀ b∈fp,FpOk X pins H b)(hfo:∀ b∈fp,b < s.heap.objs.size)(c1:∀ n c,cl.lookup n=some c→X.env.cells.lookup n=some c)
  (c2:∀ y∈scope.names,y.2=.free→∃ c,cl.lookup y.1=some c) {h':Heap} {t':Nat} {m:Str→Option Value} (hns:h'.Ns s.heap.objs.size m) (hk:∀ b o,s.heap.get? b=some o→h'.get? b=some o) (cb:CellsB scope cl cl2 s.heap.objs.size h') :
  Inv (blk X scope cl2 s.heap.objs.size s H fp N) [] (startB own cap σ) H { s with heap:=h',toks:=t' }:=by
 have hC:H s.heap.objs.size=none:=I.hok.fresh (Nat.le_refl _);have lt:∀ n c,cl.lookup n=some c→c < s.heap.objs.size:=fun n c e=>by obtain⟨v,hv⟩:=I.cell n c (c1 n c e);exact hv.lt
 have inj:∀ x y c,cl2.lookup x=some c→cl2.lookup y=some c→x=y:=fun x y c h1 h2=>by
  rcases cb.old x c h1 with ⟨a1,_⟩ | ⟨a1,_,a2⟩<;>rcases cb.old y c h2 with ⟨b1,_⟩ | ⟨b1,_,b2⟩
  ·exact I.ok.inj x y c (c1 x c a1) (c1 y c b1)
  ·exact absurd (lt x c a1) (Nat.lt_asymm b1)
  ·exact absurd (lt y c b1) (Nat.lt_asymm a1)
  ·exact cb.inj x y c a1 h1 h2 a2 b2
 refine⟨⟨I.ok.mod,b.kind,I.ok.glob,I.ok.blt,Nat.le_refl _,inj,fun x hx=>?_,fun x c hx e=>?_,fun _=>I.ok.hd hc,I.ok.frames,.inl rfl,fun b' hb=>?_,I.bs,Nat.le_trans I.ok.bsz I.sz,fun b' o e hb=>?_,fun b' hb hm=>?_,I.stack,I.stkFree⟩,rfl,I.bare,Un.kept hk,⟨m,hns,fun i x v h1 h2 h3=>?_⟩,fun x c e=>?_,hC,fun x c e=>?_,fun p hp=>(nomatch hp),I.hok.kept hk,?_⟩
 ·obtain⟨y,hy,e1,e2⟩:=jC (env:=X.env) hx;rcases e2 with e2 | e2
  ·obtain⟨c,e⟩:=c2 y hy e2;have hn:(y.1,NameKind.cell)∉scope.names:=fun z=>by
    have q1:=b.nfree y hy e2;have q2:=b.ncell _ z rfl;rw[q1]at q2;cases q2
   exact⟨c,by rw[← e1];show cl2.lookup y.1=some c;rw[cb.keep _ hn];exact e⟩
  ·obtain⟨c,e⟩:=cb.mine y.1 (by rw[← e2];exact hy);exact⟨c,by rw[← e1];exact e⟩
 ·rcases cb.old x c e with ⟨a1,a2⟩ | ⟨a1,_,_⟩
  ·have hx':(scope.names.lookup x==some NameKind.cell)=true:=hx;exact absurd (fi (eq_of_beq hx')) a2
  ·exact Nat.le_of_lt a1
 ·refine⟨Nat.ne_of_lt (hfo b' hb),fun x c e=>?_⟩;rcases cb.old x c e with ⟨a1,_⟩ | ⟨a1,_,_⟩
  ·exact(hf b' hb).2.2.2.2.1 x c (c1 x c a1)
  ·exact fun z=>Nat.lt_asymm a1 (z ▸ hfo b' hb)
 ·rcases(hf b' hb).2.2.2.1 with z | z
  ·exact I.ok.noex b' o e z
  ·have:=Heap.lt_size (I.ok.bs b' o e).1;exact absurd (Nat.lt_of_lt_of_le this z) (Nat.lt_irrefl _)
 ·rcases List.mem_cons.mp (I.stkSub b' hm) with z | z
  ·exact(hf b' hb).2.1 z
  ·exact(hf b' hb).2.2.1 z
 ·
  unfold startB at h2;by_cases hi:i < own
  ·rw[List.getElem?_append_left (by simpa using hi),List.getElem?_replicate]at h2;split at h2<;>cases h2
  ·rw[List.getElem?_append_right (by simpa using hi),List.length_replicate,List.getElem?_map]at h2;cases e:cap[i - own]? with
   | none=>rw[e]at h2;cases h2
   | some k =>
    rw[e]at h2;obtain⟨x',f1,f2,f3⟩:=b.capN _ _ e;rw[show own+(i - own)=i by omega]at f1;have h1':N[i]?=some x:=h1;rw[h1']at f1;cases f1;have h2':σ[k]?=some (some v):=by
     cases q:σ[k]? with
     | none=>simp only[Option.map_some,q,Option.getD_none,Option.some.injEq]at h2;cases h2
     | some o=>simp only[Option.map_some,q,Option.getD_some,Option.some.injEq]at h2;rw[h2]
    obtain⟨m0,_,hl⟩:=I.loc;have kf:=b.free (x,.free) (fi f3) rfl;obtain⟨u,r,l⟩:=hl k x v f2 h2' (kf.elim (fun z=>.inr (.inl z)) fun z=>.inr (.inr z));refine⟨u,r,?_⟩;rcases l with ⟨z,_⟩ | ⟨_,c,e1,e2⟩
    ·have z':X.env.scope.names.lookup x=some .local:=z;rcases kf with y | y
     ·have y':X.env.scope.names.lookup x=some .cell:=y;rw[z']at y';cases y'
     ·have y':X.env.scope.names.lookup x=some .free:=y;rw[z']at y';cases y'
    ·obtain⟨c',g1⟩:=c2 (x,.free) (fi f3) rfl;have g2:=c1 x c' g1;rw[e1]at g2;cases g2;have hn:(x,NameKind.cell)∉scope.names:=fun z=>by
      have q2:=b.ncell _ z rfl;have q2':scope.names.lookup x=some .cell:=q2;rw[f3]at q2';cases q2'
     exact .inr ⟨jB (env:=X.env) f3,c,by show cl2.lookup x=some c;rw[cb.keep _ hn];exact g1,by obtain⟨o,ho,hd⟩:=e2;exact⟨o,hk _ _ ho,hd⟩⟩
 ·rcases cb.old x c e with ⟨a1,_⟩ | ⟨_,a2,_⟩
  ·obtain⟨v,o,ho,hd⟩:=I.cell x c (c1 x c a1);exact⟨v,o,hk _ _ ho,hd⟩
  ·exact⟨none,a2⟩
 ·rcases cb.old x c e with ⟨a1,_⟩ | ⟨a1,_,_⟩
  ·exact I.freeC x c (c1 x c a1)
  ·exact I.hok.fresh (Nat.le_of_lt a1)
 ·unfold startB;show _=N.length;rw[List.length_append,List.length_replicate,List.length_map,b.len]
theorem sW {s3 s':Shared}{H3 H':Hp}{σ':St}{pl:List (Addr×Obj)}{D C:Addr}(I:Inv X pins σ H s)(hf:∀ b∈fp,FpOk X pins H b)(hD:D=s.heap.objs.size)(h3:s3={ s with heap:=s.heap.push { cls:=.type "list",data:=.seq #[] } })(hH:H3=upd H D (.lst []))(hC:C=s3.heap.objs.size)
  (J:Inv (blk X scope cl C s3 H3 fp N) pl σ' H' s'):Inv X pins σ H' s'∧FpOk X pins H' C∧∃ m,s'.heap.Ns C m:=by
 subst h3;have hs:s.heap.objs.size≤C:=by rw[hC];show _≤(s.heap.push _).objs.size;rw[Heap.size_push];exact Nat.le_succ _
 have u1:Un (frs X.stack) fp H H3 s.heap (s.heap.push { cls:=.type "list",data:=.seq #[] }):=by
  rw[hH,hD];exact Un.laid (fun b u e=>Heap.get?_push_of_some _ e) (Nat.le_refl _) (I.hok.fresh (Nat.le_refl _))
 have u2:Un (frs X.stack) fp H3 H' (s.heap.push { cls:=.type "list",data:=.seq #[] }) s'.heap:=J.base;have os:s'.os=s.os:=J.os;refine⟨I.call' (ch:=fp) os (u1.trans u2) J.hok J.bare fun b hb=>?_,I.fpOk hs J.free,?_⟩
 ·obtain⟨_,f1,f2,f3,f4,f5⟩:=hf b hb;exact⟨f3,f1,f4,f5⟩
 ·obtain⟨m,hn,_⟩:=J.loc;exact⟨m,hn⟩
end
def tTests (ifs:List Expr)(t:TT):TT:=match ifs with
 | []=>fun _ H Q=>Q true H
 | _::_=>t
theorem oh {ifs:List Expr}{t:TT}{σ:St}{H:Hp}{Q:Bool→Hp→Prop}(e:ifs=[])(h:tTests ifs t σ H Q):Q true H:=by subst e;exact h
theorem oi {ifs:List Expr}{t:TT}{σ:St}{H:Hp}{Q:Bool→Hp→Prop}{c:Expr}(e:ifs=[c])(h:tTests ifs t σ H Q):t σ H Q:=by subst e;exact h
theorem qT {M:Model}{A:Around}{ifs:List Expr}{env:Env}{Q:Bool→Shared→Prop}{E:Value→Shared→Prop}{s:Shared}(hifs:ifs.length≤1)(h0:ifs=[]→Q true s)(h1:∀ c,ifs=[c]→wpAny M A (isTrue c env (eval c env)) Q E s):wpAny M A (tests ifs env) Q E s:=by
 match ifs,hifs,h0,h1 with
 | [],_,h0,_=>exact wpAny_pure (h0 rfl)
 | [c],_,_,h1=>exact h1 c rfl
def BlkW (sz:Nat)(J:It)(g:TG)(tc:TT)(te:TE)(D:Addr)(Fin:Hp→List V→Prop)(W:Nat→Nat→St→Hp→List V→Prop):Prop :=
 ∀ i m σ H ys,W i m σ H ys→H D=some (.lst ys)∧((J.stop i H∧Fin H ys)∨(J.go i H∧∀ x H',J.yld i H x H'→g x σ H' fun σ2 H2=>tc σ2 H2 fun ok H3 =>
  if ok=true then te σ2 H3 fun y H4=>H4 D=some (.lst ys)∧ys.length < sz∧∃ m',m' < m∧W (i+1) m' σ2 (upd H4 D (.lst (ys++[y]))) (ys++[y])
  else ∃ m',m' < m∧W (i+1) m' σ2 H3 ys))
section
variable {X:Cx}{elt tg iter:Expr}{ifs:List Expr}{scope:Scope}{N:List Str}{own:Nat}{cap:List Nat}{pos:Pos}{wi:TI}{g:TG}{tc:TT}{te:TE}
set_option maxHeartbeats 4000000 in
theorem sX {pins:List (Addr×Obj)}{σ:St}{H:Hp}{s:Shared}{it:Addr}{fp:List Addr}{tn:Nat→Heap→Prop}{J:It}{cl:List (Str×Addr)}{E:Value→Shared→Prop}{RR:Value→Addr→Result→Shared→Prop}{Fin:Addr→Hp→List V→Prop}
  (b:BlkOk X.N X.env.scope scope N own cap) (hc:X.calm=true) (hifs:ifs.length≤1)
  (hg:∀ cl C s H fp,PG (blk X scope cl C s H fp N) tg g) (ht:∀ c,ifs=[c]→∀ cl C s H fp,PT (blk X scope cl C s H fp N) c tc) (he:∀ cl C s H fp,PE (blk X scope cl C s H fp N) elt te)
  (hclos:closureFor scope X.env=pure cl) (c1:∀ n c,cl.lookup n=some c→X.env.cells.lookup n=some c) (c2:∀ y∈scope.names,y.2=.free→∃ c,cl.lookup y.1=some c)
  (I:Inv X pins σ H s) (T:Turn X.prog X.w X.K tg J fp it tn) (st:tn 0 s.heap) (hf:∀ b∈fp,FpOk X pins H b)
  (hW:∀ D,H D=none→∃ W,BlkW sizeLine J g (tTests ifs tc) te D (Fin D) W∧∃ m,W 0 m (startB own cap σ) (upd H D (.lst [])) [])
  (fin:∀ D C s' H' ys,Inv X pins σ H' s'→FpOk X pins H' C→(∃ m,s'.heap.Ns C m)→H' D=some (.lst ys)→Fin D H' ys→RR (.ref D) C (.ok .next) s') :
  wpAny (model X.prog X.w) X.A (newList []) (fun acc s3=>wpAny (model X.prog X.w) X.A (newFunctionEnv scope X.env.globals cl [] X.env.qual none .none (some X.env)) (fun cenv s4 =>
   codeAny (model X.prog X.w) X.A (.compStart (.ListComp elt [⟨tg,iter,ifs,0⟩] scope pos) 0 (.ref it) acc { cenv with scope:=relabel scope X.env }) (RR acc cenv.locals) s4) E s3) E s:=by
 have hfo:∀ b∈fp,b < s.heap.objs.size:=fun b hb=>by
  obtain⟨o,e,_⟩:=T.obj 0 _ st b hb;exact Heap.lt_size e
 have hD:H s.heap.objs.size=none:=I.hok.fresh (Nat.le_refl _);obtain⟨W,hturn,m0,w0⟩:=hW _ hD;refine wpAny_newObj_type (mj fun h1 cl2 hns kk cb=>?_);have I3:Inv X pins σ (upd H s.heap.objs.size (.lst [])) { s with heap:=s.heap.push { cls:=.type "list",data:=.seq #[] } }:=I.lnew (t':=s.toks) (its:=[]) .nil (Nat.zero_le _);have hfp3:∀ b∈fp,FpOk X pins (upd H s.heap.objs.size (.lst [])) b:=fun b hb=>⟨by rw[ag (Nat.ne_of_lt (hfo b hb))];exact(hf b hb).1,(hf b hb).2⟩
 have st1:tn 0 h1:=T.keep 0 _ _ st fun b hb o e=>kk b o (Heap.get?_push_of_some _ e)
 generalize hX:blk X scope cl2 (s.heap.push { cls:=.type "list",data:=.seq #[] }).objs.size { s with heap:=s.heap.push { cls:=.type "list",data:=.seq #[] } } (upd H s.heap.objs.size (.lst [])) fp N=X';have I4:Inv X' [] (startB own cap σ) (upd H s.heap.objs.size (.lst [])) { s with heap:=h1 }:=by
  rw[← hX];exact vG b hc I3 hfp3 (fun b hb=>Nat.lt_of_lt_of_le (hfo b hb) (by show _≤(s.heap.push _).objs.size;rw[Heap.size_push];exact Nat.le_succ _)) c1 c2 hns kk cb
 have eP:X'.prog=X.prog:=by rw[← hX];rfl
 have ew:X'.w=X.w:=by rw[← hX];rfl
 have eK:X'.K=X.K:=by rw[← hX];rfl
 have eA:X'.A=X.A:=by rw[← hX];rfl
 have ec:X'.calm=true:=by rw[← hX];rfl
 have ee:X'.env=compEnvC scope cl2 (s.heap.push { cls:=.type "list",data:=.seq #[] }).objs.size X.env:=by rw[← hX];rfl
 have ex:X'.xe=fun _ _=>False:=by rw[← hX];rfl
 have epn:X'.pn=[]:=by rw[← hX];rfl
 have eex:X'.ex=fp:=by rw[← hX];rfl
 have pg:PG X' tg g:=by rw[← hX];exact hg _ _ _ _ _
 have pe:PE X' elt te:=by rw[← hX];exact he _ _ _ _ _
 have pt:∀ c,ifs=[c]→PT X' c tc:=fun c q=>by rw[← hX];exact ht c q _ _ _ _ _
 have fpB:∀ {H':Hp},(∀ b∈fp,H' b=none)→∀ {s'':Shared} {σ':St},Inv X' [] σ' H' s''→∀ b∈fp,FpOk X' [] H' b:=fun {H'} hn {s'' σ'} Iv b hb =>
  ⟨hn b hb,(Iv.ok.exf b (by rw[eex];exact hb)).1,Iv.ok.exfs b (by rw[eex];exact hb),.inl (by rw[eex];exact hb),(Iv.ok.exf b (by rw[eex];exact hb)).2,fun p hp=>by rw[epn]at hp;exact(nomatch hp)⟩
 have loop:codeAny (model X.prog X.w) X.A (.compLoop (.ListComp elt [⟨tg,iter,ifs,0⟩] scope pos) 0 (.ref it) (.ref s.heap.objs.size) (compEnvC scope cl2 (s.heap.push { cls:=.type "list",data:=.seq #[] }).objs.size X.env))
   (RR (.ref s.heap.objs.size) (s.heap.push { cls:=.type "list",data:=.seq #[] }).objs.size) { s with heap:=h1 }:=by
  refine qO hifs (fun n s'=>∃ i σ' H' ys,Inv X' [] σ' H' s'∧tn i s'.heap∧(∀ b∈fp,H' b=none)∧W i n σ' H' ys) (fun n s5 ⟨i,σ5,H5,ys,I5,st5,fr5,w5⟩=>?_) m0
   ⟨0,startB own cap σ,_,[],I4,st1,fun b hb=>(hfp3 b hb).1,w0⟩
  obtain⟨hDy,hgo⟩:=hturn i n σ5 H5 ys w5;have hs5:=fpB fr5 I5;rcases hgo with ⟨stop,hfin⟩ | ⟨go,step⟩
  ·have q:=T.done X' eP ew eK ec i [] s5 σ5 H5 (fun _ _=>False) I5 hs5 st5 stop;rw[eA]at q;refine wpAny_mono q (fun r s6 ⟨hr,I6⟩=>?_) fun _ _ z=>z
   subst hr;rw[← hX]at I6;obtain⟨J1,J2,J3⟩:=sW I hf rfl rfl rfl rfl I6;exact fin _ _ s6 H5 ys J1 J2 J3 hDy hfin
  ·have q:=T.item X' eP ew eK ec i [] s5 σ5 H5 (fun _ _=>False) I5 hs5 st5 go;rw[eA]at q;refine wpAny_mono q (fun r s6 ⟨u,hr,h6⟩=>?_) fun _ _ z=>z
   subst hr;refine wpAny_mono h6 (fun _ s7 ⟨x,H7,I7,r7,y7,st7,fr7⟩=>?_) fun _ _ z=>z
   have I7':=I7.pinned (fpB fr7 I7) (T.obj _ _ st7);rw[List.nil_append]at I7';have qg:=pg _ s7 σ5 H7 x u _ I7' r7 (step x H7 y7);rw[eP,ew,eA,ee,ex]at qg;refine wpAny_mono qg (fun _ s8 ⟨σ8,H8,I8,q8⟩=>?_) fun _ _ z=>z
   have again:∀ {s9:Shared} {H9:Hp} {zs:List V},Inv X' (pinsAt fp s7.heap) σ8 H9 s9→(∃ m',m' < n∧W (i+1) m' σ8 H9 zs) →
     ∃ m,m < n∧∃ i σ' H' ys,Inv X' [] σ' H' s9∧tn i s9.heap∧(∀ b∈fp,H' b=none)∧W i m σ' H' ys:=fun {s9 H9 zs} I9 ⟨m',hm,w9⟩=>by
    have I9':Inv X' ([]++pinsAt fp s7.heap) σ8 H9 s9:=by rw[List.nil_append];exact I9
    refine⟨m',hm,i+1,σ8,H9,zs,I9'.unpinned,T.keep _ _ _ st7 fun b hb o e=>(I9.pin (b,o) (List.mem_append_right _ (dU hb e))).1,fun b hb=>?_,w9⟩;obtain⟨o,e,d⟩:=T.obj _ _ st7 b hb;exact(I9.pin (b,o) (List.mem_append_right _ (dU hb e))).2.1
   have body:∀ (ok:Bool) (s9:Shared),(∃ H9,Inv X' (pinsAt fp s7.heap) σ8 H9 s9∧(if ok=true then te σ8 H9 fun y H4=>H4 s.heap.objs.size=some (.lst ys)∧ys.length < sizeLine∧∃ m',m' < n∧W (i+1) m' σ8 (upd H4 s.heap.objs.size (.lst (ys++[y]))) (ys++[y]) else ∃ m',m' < n∧W (i+1) m' σ8 H9 ys)) →
     if ok=true then wpAny (model X.prog X.w) X.A (eval elt (compEnvC scope cl2 (s.heap.push { cls:=.type "list",data:=.seq #[] }).objs.size X.env)) (fun x s5=>wpAny (model X.prog X.w) X.A (call (.builtin "list.append") [.ref s.heap.objs.size,x]) (fun _ s6=>∃ m,m < n∧∃ i σ' H' ys,Inv X' [] σ' H' s6∧tn i s6.heap∧(∀ b∈fp,H' b=none)∧W i m σ' H' ys) (fun _ _=>False) s5) (fun _ _=>False) s9
     else ∃ m,m < n∧∃ i σ' H' ys,Inv X' [] σ' H' s9∧tn i s9.heap∧(∀ b∈fp,H' b=none)∧W i m σ' H' ys:=by
    intro ok s9 ⟨H9,I9,h9⟩;cases ok with
    | false=>exact again I9 h9
    | true =>
     have qe:=pe _ s9 σ8 H9 _ I9 h9;rw[eP,ew,eA,ee,ex]at qe;refine wpAny_mono qe (fun u s10 ⟨y,H10,I10,r10,hD10,hlt,m',hm,w10⟩=>?_) fun _ _ z=>z
     have qa:=ly (X:=X') (pinsAt fp s7.heap) s10 σ8 H10 (.ref s.heap.objs.size) [y] (.ref s.heap.objs.size) [u] (fun _ H11=>H11=upd H10 s.heap.objs.size (.lst (ys++[y]))) I10 rfl (.cons r10 .nil)
      ⟨s.heap.objs.size,ys,y,rfl,rfl,hD10,hlt,rfl⟩
     rw[eP,ew,eA,ex]at qa;refine wpAny_mono qa (fun _ s11 ⟨_,H11,I11,_,e11⟩=>?_) fun _ _ z=>z
     subst e11;exact again I11 ⟨m',hm,w10⟩
   refine qT hifs (fun q=>body true s8 ⟨H8,I8,oh q q8⟩) fun c q=>?_
   have qt:=pt c q _ s8 σ8 H8 _ I8 (oi q q8);rw[eP,ew,eA,ee,ex]at qt;exact wpAny_mono qt (fun ok s9 ⟨H9,I9,h9⟩=>body ok s9 ⟨H9,I9,h9⟩) fun _ _ z=>z
 exact codeAny_compStart_list loop (T.self _ 0 _ _ _ st1 loop)
def tComp (own:Nat)(cap:List Nat)(wi:TI)(g:TG)(tc:TT)(te:TE):TE:=fun σ H Q=>wi σ H fun J H1=>∀ D,H1 D=none→∃ W,BlkW sizeLine J g tc te D (fun H' _=>Q (.ref D) H') W∧∃ m,W 0 m (startB own cap σ) (upd H1 D (.lst [])) []
theorem pN (b:BlkOk X.N X.env.scope scope N own cap)(hc:X.calm=true)(hifs:ifs.length≤1)(hi:PI X tg iter wi)
  (hg:∀ cl C s H fp,PG (blk X scope cl C s H fp N) tg g) (ht:∀ c,ifs=[c]→∀ cl C s H fp,PT (blk X scope cl C s H fp N) c tc) (he:∀ cl C s H fp,PE (blk X scope cl C s H fp N) elt te)
  (hs:∀ x,foldedSetIterable iter X.env x=pure x:=by intro _;rfl):PE X (.ListComp elt [⟨tg,iter,ifs,0⟩] scope pos) (tComp own cap wi g (tTests ifs tc) te):=by
 intro pins s σ H Q I h;obtain⟨cl,hclos,c1,c2⟩:=n9 scope X.env fun y hy hf=>I.ok.has y.1 (b.free y hy hf)
 rw[eval_ListComp];refine wpAny_comprehension_free (use:=none) rfl hs hclos b.kind b.nloc (thn (hi pins s σ H _ I h) fun v s1 h1=>thn h1 fun itv s2 h2=>?_);obtain⟨it,fp,tn,J,H2,e,I2,T,st2,f2,hW⟩:=h2;subst e;refine sX (RR:=fun acc C=>compPost (model X.prog X.w) X.A X.xe none (EP X pins σ Q) acc C) b hc hifs hg ht he hclos c1 c2 I2 T st2 f2 hW fun D C s' H' ys J1 J2 ⟨m,hm⟩ hD hQ=>?_
 refine⟨m,hm,fun h' hsb=>⟨.ref D,H',?_,rfl,hQ⟩⟩;obtain⟨f0,f1,f2,f3,f4,f5⟩:=J2;exact J1.turned (t':=s'.toks) (fun b o hb e=>(hsb.2 b hb).trans e) f0 f1 f3 f4 f5
end
def Walk (J:It)(vs:List V)(Ok:Hp→Prop):Prop:=∀ (i:Nat) (H:Hp),Ok H→(i < vs.length→J.go i H∧∀ x H',J.yld i H x H'→H'=H∧vs[i]?=some x)∧(vs.length≤i→J.stop i H)
def WalkG (F:Fx)(J:It)(ds:List D)(Z1:Hp):Prop:=∀ (i:Nat) (H Z:Hp),Same Z1 Z→Same Z H→(i < ds.length→J.go i H∧∀ x H',J.yld i H x H'→∃ Z' d,Ex H Z H' Z'∧ds[i]?=some d∧Rep F.K F.C Z' d x)∧(ds.length≤i→J.stop i H)
theorem jD {F:Fx}{J:It}{ds:List D}{vs:List V}{Z1:Hp}(rs:Reps F.K F.C Z1 ds vs)(w:Walk J vs (Same Z1)):WalkG F J ds Z1:=fun i H Z z1 z2=>by
 obtain⟨k1,k2⟩:=w i H (z1.trans z2);have hl:=rs.length;refine⟨fun hi=>?_,fun hi=>k2 (by omega)⟩;obtain⟨go,y⟩:=k1 (by omega);exact⟨go,fun x H' hy=>by
  obtain⟨e0,e2⟩:=y x H' hy;subst e0;obtain⟨d,e3,rd⟩:=rs.get' e2;exact⟨Z,d,Ex.refl z2,e3,rd.mono z1⟩⟩
def tI (F:Fx)(g:SS→R (List D)):TI:=fun σ H Q=>∃ Z S,StOk F H Z S σ∧WG F H Z (g S) fun ds H' Z'=>∀ J,WalkG F J ds Z'→ds.length≤16777216→Q J H'
abbrev FI (X:Cx)(F:Fx)(tg e:Expr)(g:SS→R (List D)):Prop:=PI X tg e (tI F g)
def asSeq:D→R (List D)
 | .tup xs=>.ok xs
 | .lst xs=>.ok xs
 | _=>.stuck
def iSeq (g:SS→R D):SS→R (List D):=fun S=>(g S).bind fun d=>(asSeq d).bind fun ds=>if ds.length≤16777216 then .ok ds else .stuck
theorem _root_.L2.PI.weak {X:Cx}{tg e:Expr}{t t':TI}(h:PI X tg e t)(w:∀ σ H Q,t' σ H Q→t σ H Q):PI X tg e t':=fun pins s σ H Q I q=>h pins s σ H Q I (w σ H Q q)
theorem qU {K:Frag}{a:Addr}{vs:List V}{Z:Hp}(h:SqL K Z a vs):Walk (Itl K a) vs (Same Z):=fun i H hz =>
 ⟨fun hi=>⟨⟨vs,vs[i],hz.seq h,by simp[hi]⟩,fun x H' ⟨e,y⟩=>⟨e,y vs (hz.seq h)⟩⟩,fun hi=>⟨vs,hz.seq h,hi⟩⟩
theorem sY {K:Frag}{a:Addr}{vs:List V}{Z:Hp}(h:SqT K Z a vs):Walk (Itt K a) vs (Same Z):=fun i H hz =>
 ⟨fun hi=>⟨⟨vs,vs[i],h.mono hz,by simp[hi]⟩,fun x H' ⟨e,y⟩=>⟨e,y vs (h.mono hz)⟩⟩,fun hi=>⟨vs,h.mono hz,hi⟩⟩
theorem oj {lo:Int}{n:Nat}{Z:Hp}:Walk (Itr lo n) ((List.range n).map fun i=>.int (lo+(i:Nat))) (Same Z):=fun i H hz=>by
 refine⟨fun hi=>?_,fun hi=>?_⟩
 ·have hi':i < n:=by simpa using hi
  exact⟨hi',fun x H' ⟨e,y⟩=>⟨e,by rw[y];simp[hi']⟩⟩
 ·show n≤i
  simpa using hi
theorem yn {X:Cx}{tg l:Expr}{tl:TE}(hl:PE X l tl):PI X tg l (fun σ H R=>tl σ H fun x H1=>∃ a,x=.ref a∧(((∃ xs,SqL X.K H1 a xs)∧R (Itl X.K a) H1)∨((∃ xs,SqT X.K H1 a xs)∧R (Itt X.K a) H1))):=by
 intro pins s σ H Q I h;refine thn (hl pins s σ H _ I h) fun v s1 ⟨x,H1,I1,r1,a,e,q⟩=>?_
 subst e;cases r1;rcases q with ⟨⟨xs,hq⟩,q⟩ | ⟨⟨xs,hq⟩,q⟩
 ·obtain⟨its,rv,p,hz⟩:=I1.list hq;refine wpAny_pyIter_list p.isList ⟨s1.heap.objs.size,[s1.heap.objs.size],_,_,H1,rfl,I1.kept (t':=s1.toks) fun b o e=>Heap.get?_push_of_some _ e,qE a _,⟨_,Heap.get?_push_size _ rfl,rfl,rfl⟩,fun b hb=>?_,q⟩;obtain rfl:b=s1.heap.objs.size:=by simpa using hb
  exact I1.fpOk (Nat.le_refl _) (I1.hok.fresh (Nat.le_refl _))
 ·obtain⟨its,rv,p,hz⟩:=I1.tuple hq;refine wpAny_pyIter_tuple (show s1.heap.IsTuple a its.toArray from p) ⟨s1.heap.objs.size,[s1.heap.objs.size],_,_,H1,rfl,I1.kept (t':=s1.toks) fun b o e=>Heap.get?_push_of_some _ e,nQ a _,⟨_,Heap.get?_push_size _ rfl,rfl,rfl⟩,fun b hb=>?_,q⟩;obtain rfl:b=s1.heap.objs.size:=by simpa using hb
  exact I1.fpOk (Nat.le_refl _) (I1.hok.fresh (Nat.le_refl _))
section
variable {X:Cx}{F:Fx}{tg e:Expr}{g:SS→R D}{gs:SS→R (List D)}
theorem gC (hK:X.K=F.K)(h:FE X F e g):FI X F tg e (iSeq g):=(yn h).weak fun σ H Q ⟨Z,S,ok,w⟩=>av ok w fun d v H1 Z1 ok1 x1 rv w1=>by
 rw[hK];cases d with
 | tup ds =>
  rw[Rep]at rv;obtain⟨a,vs,rfl,h1,h2⟩:=rv;have w2:WG F H1 Z1 (if ds.length≤16777216 then R.ok ds else .stuck) _:=w1;split at w2
  ·rename_i hl;exact⟨a,rfl,.inr ⟨⟨vs,h1.mono ok1.sub⟩,WG.now w2 ok1.sub _ (jD h2 (sY h1)) hl⟩⟩
  ·exact w2.elim
 | lst ds =>
  rw[Rep]at rv;obtain⟨a,vs,rfl,h1,h2⟩:=rv;have w2:WG F H1 Z1 (if ds.length≤16777216 then R.ok ds else .stuck) _:=w1;split at w2
  ·rename_i hl;exact⟨a,rfl,.inl ⟨⟨vs,ok1.sub.seq h1⟩,WG.now w2 ok1.sub _ (jD h2 (qU h1)) hl⟩⟩
  ·exact w2.elim
 | _=>exact w1.elim
def rngD (lo:Int)(n:Nat):List D:=(List.range n).map fun i=>.int (lo+(i:Nat))
def rng1:List D→R (List D)
 | [.int j]=>if -16777216≤j∧j≤16777216 then .ok (rngD 0 j.toNat) else .stuck
 | _=>.stuck
def iRange1 (gs:SS→R (List D)):SS→R (List D):=fun S=>(gs S).bind rng1
theorem mV {K:Frag}{C:Nat→Addr}{Z:Hp}(lo:Int):∀ (l:List Nat),Reps K C Z (l.map fun i=>.int (lo+(i:Nat))) (l.map fun i=>.int (lo+(i:Nat)))
 | []=>Reps.nil
 | a::r=>Reps.cons (by rw[Rep]) (mV lo r)
theorem ml {K:Frag}{C:Nat→Addr}{Z:Hp}{j:Int}{vs:List V}(r:Reps K C Z [.int j] vs):vs=[.int j]:=by
 rw[Reps]at r;obtain⟨v,r',rfl,h1,h2⟩:=r;rw[Reps]at h2;rw[Rep]at h1;rw[h1,h2]
theorem mW {K:Frag}{C:Nat→Addr}{Z:Hp}{i j:Int}{vs:List V}(r:Reps K C Z [.int i,.int j] vs):vs=[.int i,.int j]:=by
 rw[Reps]at r;obtain⟨v,r',rfl,h1,h2⟩:=r;rw[Rep]at h1;rw[h1,ml h2]
theorem vH {ds:List D}{es:List D}(h:rng1 ds=.ok es):∃ j:Int,ds=[.int j]∧(-16777216≤j∧j≤16777216)∧es=rngD 0 j.toNat:=by
 unfold rng1 at h;split at h
 ·rename_i j;split at h
  ·rename_i q;cases h;exact⟨j,rfl,q,rfl⟩
  ·cases h
 ·cases h
theorem vI {ds:List D}{k:Nat}(h:rng1 ds=.err k):False:=by
 unfold rng1 at h;split at h
 ·split at h<;>cases h
 ·cases h
theorem lC {a:Expr}{p pos:Pos}(hg:Gl X "range")(hm:X.mg "range"=none)(ha:FA X F [a] gs)(hs:starEach [a] X.env=[(false,eval a X.env)]:=by rfl):FI X F tg (.Call (.Name "range" p) [a] [] pos) (iRange1 gs) :=
 (qF hg hm ha hs).weak fun σ H Q ⟨Z,S,ok,w⟩=>bj ok w fun ds vs H1 Z1 ok1 x1 rs w1=>by
  cases e:rng1 ds with
  | err k=>exact(vI e).elim
  | stuck=>rw[e]at w1;exact w1.elim
  | ok es =>
   rw[e]at w1;obtain⟨j,rfl,hj,rfl⟩:=vH e;exact⟨j,ml rs,by omega,by omega,WG.now w1 ok1.sub _ (jD (mV 0 _) oj) (by unfold rngD;rw[List.length_map,List.length_range];omega)⟩
end
def tGd (F:Fx)(g:D→SS→R SS):TG:=fun v σ H Q=>∃ Z S d,StOk F H Z S σ∧Rep F.K F.C Z d v∧WG F H Z (g d S) fun S' H' Z'=>∀ σ',StOk F H' Z' S' σ'→Q σ' H'
abbrev FG (X:Cx)(F:Fx)(tg:Expr)(g:D→SS→R SS):Prop:=PG X tg (tGd F g)
def gNm (i:Nat):D→SS→R SS:=fun d S=>.ok (S.set i (some (.val d)))
theorem _root_.L2.PG.weak {X:Cx}{tg:Expr}{t t':TG}(h:PG X tg t)(w:∀ v σ H Q,t' v σ H Q→t v σ H Q):PG X tg t':=fun pins s σ H v u Q I r q=>h pins s σ H v u Q I r (w v σ H Q q)
theorem bY {X:Cx}{F:Fx}(i:Nat){x:Str}{pos:Pos}(hN:X.N.Nodup)(hi:X.N[i]?=some x:=by rfl)(hx:Loc X.env.scope x:=by first | exact Or.inl rfl | exact Or.inr rfl)(hf:X.fn x=true∨X.env.scope.names.lookup x=some .local:=by first | exact .inl rfl | exact .inr rfl) :
  FG X F (.Name x pos) (gNm i):=(ve hN hi hx hf).weak fun v σ H Q ⟨Z,S,d,ok,r,w⟩=>WG.now w ok.sub _ (ok.setVal r)
def spF (K:Frag)(C:Nat→Addr)(n:Nat)(f:List D→R D):Sp:=fun vs H Q E =>
 vs.length=n∧∃ Z ds,Same Z H∧Reps K C Z ds vs∧WG ⟨K,C,H,Z,E⟩ H Z (f ds) fun d H' Z'=>∀ v,Rep K C Z' d v→Q v H'
def outD (o:O):R D:=match o with
 | .nx _=>.ok .non
 | .rt d=>.ok d
 | .er k=>.err k
 | _=>.stuck
def startS (n:Nat)(ds:List D):SS:=ds.map (fun d=>some (.val d))++List.replicate (n - ds.length) none
def fnD (n:Nat)(body:SS→O):List D→R D:=fun ds=>outD (body (startS n ds))
theorem dM {F:Fx}{N:List Str}{ds:List D}{vs:List V}(z:Same F.Z0 F.H0)(r:Reps F.K F.C F.Z0 ds vs):StOk F F.H0 F.Z0 (startS N.length ds) (start N vs):=by
 have hl:=r.length;have at_:∀ {i:Nat} {x:Option Sl},(startS N.length ds)[i]?=some x→(i < ds.length∧∃ d,ds[i]?=some d∧x=some (.val d))∨x=none:=fun {i x} e=>by
  unfold startS at e;by_cases hi:i < ds.length
  ·rw[List.getElem?_append_left (by simpa using hi),List.getElem?_map]at e;cases q:ds[i]? with
   | none=>rw[q]at e;cases e
   | some d=>rw[q]at e;cases e;exact .inl ⟨hi,d,rfl,rfl⟩
  ·rw[List.getElem?_append_right (by simpa using hi),List.getElem?_replicate]at e;split at e
   ·cases e;exact .inr rfl
   ·cases e
 refine⟨Ex.refl z,?_,fun i d e=>?_,fun i j x y v w A B _ e1 _ _ _ o1 _=>?_⟩
 ·unfold startS L2.start
  simp[hl]
 ·rcases at_ e with ⟨hi,d',e1,e2⟩ | e2
  ·cases e2;obtain⟨v,e3,rv⟩:=r.get e1;refine⟨v,[],?_,⟨rfl,rv⟩,Priv.nil⟩;unfold L2.start;rw[List.getElem?_append_left (by simpa [← hl] using hi),List.getElem?_map,e3];rfl
  ·cases e2
 ·rcases at_ e1 with ⟨_,d',_,e2⟩ | e2
  ·cases e2;rw[o1.1];exact fun a ha=>nomatch ha
  ·cases e2
section
variable {P:Program}{w:World}{K:Frag}{mg:Str→Option Value}{base:Heap}
structure BX (X:Cx)(F:Fx)(k:Nat):Prop where
 room:Room k X.A
 K:X.K=F.K
 calm:X.calm=true
 pass:Passes (CXE X.prog X.w) X F.E
theorem zO {x qual:Str}{st:Stmt}{f:Addr}{fd:FuncData}{N ps:List Str}{k:Nat}{C:Nat→Addr}{body:SS→O}(F:Fun K x qual st f fd)(S:FnScope N ps (defScope st))
  (h:∀ (cdv:Value) (A:Around) (outer:List Env) (s:Shared) (H Z:Hp) (E:XK),BX (bodyX P w K mg base N qual (defScope st) f cdv A outer s H E) ⟨K,C,H,Z,E⟩ k →
   PassesOwn (model P w) (bodyX P w K mg base N qual (defScope st) f cdv A outer s H E).A (bodyX P w K mg base N qual (defScope st) f cdv A outer s H E).env (bodyX P w K mg base N qual (defScope st) f cdv A outer s H E).xe →
   FSs (bodyX P w K mg base N qual (defScope st) f cdv A outer s H E) ⟨K,C,H,Z,E⟩ (defBody st) body) :
  FnOk P w K mg base (CXE P w) (k+1) f fd ps (spF K C ps.length (fnD N.length body)):=by
 obtain⟨oc,od,kV,doc,pm,an,cdv,ct,osl,rfl,lk,hcd⟩:=F.ex;refine lr lk hcd S (fun vs H Q E q=>q.1) fun A outer s H vs Q E hr hsp=>?_
 obtain⟨_,Z,ds,z,r,w⟩:=hsp;refine⟨_,h cdv A outer s H Z E ⟨hr,rfl,rfl,bQ⟩ PassesOwn.leaving,Z,startS N.length ds,dM (F:=⟨K,C,H,Z,E⟩) (N:=N) z r,?_⟩;unfold fnD at w;cases e:body (startS N.length ds) with
 | nx S'=>rw[e]at w;exact fun σ' H' Z' _ ok=>w H' Z' ok.ex .non (by rw[Rep])
 | rt d=>rw[e]at w;exact fun v H' Z' x rv=>w H' Z' x v rv
 | er k=>rw[e]at w;exact w
 | bk S'=>rw[e]at w;exact w.elim
 | ct S'=>rw[e]at w;exact w.elim
 | stuck=>rw[e]at w;exact w
end
structure Fn1 (P:Program)(w:World)(K:Frag)(mg:Str→Option Value)(base:Heap)(C:Nat→Addr)(k:Nat)(x:Str)(ps:List Str)(f:List D→R D):Prop where
 ex:∃ a fd,FnOk P w K mg base (CXE P w) k a fd ps (spF K C ps.length f)∧mg x=some (.ref a)∧keepIn K (.ref a)=true∧Binds K fd ps []
def eCall (f:List D→R D)(gs:SS→R (List D)):SS→R D:=fun S=>(gs S).bind f
section
variable {X:Cx}{F:Fx}{x:Str}{p pos:Pos}{e:Expr}{es:List Expr}{gs:SS→R (List D)}{k:Nat}{ps:List Str}{f:List D→R D}
theorem sZ (n:Nat)(hn:∀ S ds,gs S=.ok ds→ds.length=n):∀ σ H Q,tE F (eCall f gs) σ H Q→tCall (spF F.K F.C n f) [] F.E (tAl F gs) σ H Q:=fun σ H Q ⟨Z,S,ok,w⟩=>by
 refine⟨Z,S,ok,?_⟩;cases e:gs S with
 | err k=>unfold eCall at w;rw[e]at w;exact w
 | stuck=>unfold eCall at w;rw[e]at w;exact w
 | ok ds =>
  unfold eCall at w;rw[e]at w;intro H1 Z1 x1 vs rs;have w1:=WG.more (r:=f ds) w x1;refine⟨by rw[List.append_nil,← rs.length];exact hn S ds e,Z1,ds,x1.sub,by rw[List.append_nil];exact rs,?_⟩;cases q:f ds with
  | ok d=>rw[q]at w1;exact w1
  | err k=>rw[q]at w1;exact w1
  | stuck=>rw[q]at w1;exact w1
theorem vJ (b:BX X F k)(h:Fn1 X.prog X.w F.K X.mg X.base F.C k x ps f)(hg:Gl X x)(ha:FA X F (e::es) gs)(hn:∀ S ds,gs S=.ok ds→ds.length=ps.length)(hdb:(x==("__debug__":Str))=false:=by decide)
  (he:starEach (e::es) X.env=(false,eval e X.env)::starEach es X.env:=by rfl) (hpl:(backTo pos (starEach es X.env)).any (·.1)=false:=by rfl):FE X F (.Call (.Name x p) (e::es) [] pos) (eCall f gs):=by
 obtain⟨a,fd,h1,h2,h3,h4⟩:=h.ex;have hK:=b.K;exact(vj (ds:=[]) (dvs:=[]) (E:=F.E) (by rw[hK];exact h1) b.room hg h2 (by rw[hK];exact h3) (by rw[hK];exact h4) .nil b.pass ha hdb he hpl).weak (sZ ps.length hn)
theorem lD {g:SS→R D}{gs:SS→R (List D)}{n:Nat}(h:∀ S ds,gs S=.ok ds→ds.length=n):∀ S ds,aCons g gs S=.ok ds→ds.length=n+1:=fun S ds e=>by
 unfold aCons at e;cases q:g S with
 | err k=>rw[q]at e;cases e
 | stuck=>rw[q]at e;cases e
 | ok d =>
  rw[q]at e;cases q2:gs S with
  | err k=>rw[R.bind_ok,q2]at e;cases e
  | stuck=>rw[R.bind_ok,q2]at e;cases e
  | ok r =>
   rw[R.bind_ok,q2]at e;cases e
   simp[h S r q2]
end
def noErr {α:Type}(r:R α):R α:=match r with
 | .ok a=>.ok a
 | _=>.stuck
def blkS (own:Nat)(cap:List Nat)(S:SS):SS:=List.replicate own none++cap.map fun i=>match S[i]? with
 | some (some (.val d))=>some (.val d)
 | _=>none
def compGo (S:SS)(g:D→SS→R SS)(c:SS→R Bool)(e:SS→R D):List D→R (List D)
 | []=>.ok []
 | d::r=>(g d S).bind fun S1=>(c S1).bind fun t=>if t=true then (e S1).bind fun y=>(compGo S g c e r).bind fun ys=>.ok (y::ys) else compGo S g c e r
def eComp (own:Nat)(cap:List Nat)(it:SS→R (List D))(g:D→SS→R SS)(c:SS→R Bool)(e:SS→R D):SS→R D:=fun S=>(it S).bind fun ds=>(noErr (compGo (blkS own cap S) g c e ds)).bind fun ys=>.ok (.lst ys)
def tTrue:SS→R Bool:=fun _=>.ok true
abbrev noE (F:Fx):Fx:={ F with E:=fun _ _ _=>False }
def Own (own:Nat)(g:D→SS→R SS):Prop:=∀ d S S1,g d S=.ok S1→S1.length=S.length∧∀ i,own≤i→S1[i]?=S[i]?
theorem cZ {X:Cx}{F:Fx}{k:Nat}(bx:BX X F k){scope:Scope}{cl:List (Str×Addr)}{C:Addr}{s:Shared}{H:Hp}{fp:List Addr}{N:List Str}:BX (blk X scope cl C s H fp N) (noE F) k :=
 ⟨bx.room,bx.K,rfl,fun pins σ H s e s' _ h=>by
  obtain⟨_,_,_,_,_,_,_,_,_,_,_,_,_,hE⟩:=h;exact hE.elim⟩
theorem iD {own i:Nat}(h:i < own):Own own (gNm i):=fun d S S1 e=>by
 cases e;exact⟨by simp,fun j hj=>List.getElem?_set_ne (by omega)⟩
theorem StOk.forget {F:Fx}{H Z:Hp}{S S0:SS}{σ:St}(h:StOk F H Z S σ)(hl:S0.length=S.length)(hs:∀ (i:Nat) (x:Sl),S0[i]?=some (some x)→S[i]?=some (some x)):StOk F H Z S0 σ :=
 ⟨h.ex,hl.trans h.len,fun i x e=>h.sl i x (hs i _ e),fun i j x y v w A B hij e1 e2=>h.dj i j x y v w A B hij (hs i _ e1) (hs j _ e2)⟩
theorem gP {own:Nat}{cap:List Nat}{S:SS}{i:Nat}{x:Sl}(e:(blkS own cap S)[i]?=some (some x)):own≤i∧∃ k d,cap[i - own]?=some k∧S[k]?=some (some (.val d))∧x=.val d:=by
 unfold blkS at e;by_cases hi:i < own
 ·rw[List.getElem?_append_left (by simpa using hi),List.getElem?_replicate]at e;split at e<;>cases e
 ·rw[List.getElem?_append_right (by simpa using hi),List.length_replicate,List.getElem?_map]at e;cases q:cap[i - own]? with
  | none=>rw[q]at e;cases e
  | some k =>
   rw[q]at e;simp only[Option.map_some,Option.some.injEq]at e;split at e
   ·rename_i d q2;cases e;exact⟨by omega,k,d,rfl,q2,rfl⟩
   ·cases e
theorem qV {F:Fx}{H Z:Hp}{S:SS}{σ:St}{own:Nat}{cap:List Nat}{D:Addr}(ok:StOk F H Z S σ)(hD:H D=none):StOk (noE F) (upd H D (.lst [])) Z (blkS own cap S) (startB own cap σ):=by
 refine⟨ok.ex.trans (Ex.hidden ok.sub hD),by simp[blkS,startB],fun i x e=>?_,fun i j x y v w A B _ e1 _ _ _ o1 _=>?_⟩
 ·obtain⟨hi,k,d',q1,q2,q3⟩:=gP e;cases q3;obtain⟨v,e1,r⟩:=ok.val k d' q2;refine⟨v,[],?_,⟨rfl,r⟩,Priv.nil⟩;unfold startB;rw[List.getElem?_append_right (by simpa using hi),List.length_replicate,List.getElem?_map,q1]
  simp[e1]
 ·obtain⟨_,_,_,_,_,q⟩:=gP e1;cases q;rw[o1.1];exact fun a ha=>nomatch ha
section
variable {X:Cx}{F:Fx}{tg iter elt:Expr}{ifs:List Expr}{scope:Scope}{N:List Str}{own:Nat}{cap:List Nat}{pos:Pos}{git:SS→R (List D)}{g:D→SS→R SS}{gc:SS→R Bool}{ge:SS→R D}
theorem om {σ:St}{H Z:Hp}{S:SS}{ifs:List Expr}{P:D→Hp→Hp→Prop}{Q:Addr→Hp→Prop}(hgc:ifs=[]→gc=tTrue)(hgo:Own own g)(ok:StOk F H Z S σ)(w:WG F H Z (eComp own cap git g gc ge S) P)
  (hP:∀ D ys ds H1 Z1 H' Z',Ex H Z H1 Z1→H1 D=none→Ex H1 Z1 H' Z'→Z' D=none→(∀ H'' Z'',Ex H1 Z1 H'' Z''→P (.lst ds) H'' Z'')→H' D=some (.lst ys)→Reps F.K F.C Z' ds ys→Q D H') :
  tI F git σ H fun J H1=>∀ D,H1 D=none→∃ W,BlkW sizeLine J (tGd (noE F) g) (tTests ifs (tT (noE F) gc)) (tE (noE F) ge) D (fun H' _=>Q D H') W∧∃ m,W 0 m (startB own cap σ) (upd H1 D (.lst [])) []:=by
 refine⟨Z,S,ok,?_⟩;unfold eComp at w;cases e:git S with
 | err k=>rw[e]at w;exact w
 | stuck=>rw[e]at w;exact w
 | ok ds =>
  rw[e]at w;intro H1 Z1 x1 J wk hlen D hD;have w1:=WG.more (r:=(noErr (compGo (blkS own cap S) g gc ge ds)).bind fun ys=>R.ok (FF.D.lst ys)) w x1;have ok1:=ok.more x1;have hS:=sizeLine_eq;refine⟨fun i m σ' H' ys=>m=ds.length - i∧i≤ds.length∧H' D=some (.lst ys)∧ys.length≤i∧∃ Z' acc,Ex H1 Z1 H' Z'∧Z' D=none∧Reps F.K F.C Z' acc ys∧StOk (noE F) H' Z' (blkS own cap S) σ' ∧
   WG F H1 Z1 ((noErr (compGo (blkS own cap S) g gc ge (ds.drop i))).bind fun zs=>R.ok (FF.D.lst (acc++zs))) P,?_,ds.length,rfl,Nat.zero_le _,ai,Nat.le_refl _,Z1,[],Ex.hidden ok1.sub hD,ok1.sub.free hD,Reps.nil,qV ok1 hD,w1⟩
  rintro i m σ2 H2 ys ⟨rfl,hle,hDy,hyl,Z2,acc,x2,hZD,ra,ok2,w2⟩
  refine⟨hDy,?_⟩;obtain⟨k1,k2⟩:=wk i H2 Z2 x2.z x2.sub;by_cases hlt:i < ds.length
  ·obtain⟨go,y⟩:=k1 hlt;refine .inr ⟨go,fun x H' hy=>?_⟩;obtain⟨Z2',d,x',e3,rd⟩:=y x H' hy;have ok2:=ok2.more x';have hZD:Z2' D=none:=by
    cases r:Z2' D with
    | none=>rfl
    | some o =>
     rcases x'.new D (by rw[r];simp) with z | z
     ·exact absurd hZD z
     ·rw[hDy]at z;cases z
   have hDy:=x'.same _ _ hDy;have x2:=x2.trans x';have ra:=ra.mono x'.z;have hd:ds.drop i=d::ds.drop (i+1):=by
    obtain⟨hi,e4⟩:=List.getElem?_eq_some_iff.mp e3;rw[List.drop_eq_getElem_cons hi,e4]
   rw[hd]at w2;unfold compGo at w2;refine⟨Z2',blkS own cap S,d,ok2,rd,?_⟩;cases qg:g d (blkS own cap S) with
   | err k=>rw[qg]at w2;exact w2.elim
   | stuck=>rw[qg]at w2;exact w2.elim
   | ok S1 =>
    rw[qg,R.bind_ok]at w2;intro H3 Z3 x3 σ3 ok3;obtain⟨gl,gk⟩:=hgo _ _ _ qg;have back:∀ {H Z:Hp},StOk (noE F) H Z S1 σ3→StOk (noE F) H Z (blkS own cap S) σ3:=fun h=>h.forget gl.symm fun j z q=>by
     rw[gk j (gP q).1];exact q
    have hD3:H3 D=some (.lst ys):=x3.same _ _ hDy;have x13:=x2.trans x3;have zD:∀ {H Z:Hp},Ex H1 Z1 H Z→Ex H' Z2' H Z→Z D=none:=fun {H Z} _ q=>by
     cases r:Z D with
     | none=>rfl
     | some o =>
      rcases q.new D (by rw[r];simp) with z | z
      ·exact absurd hZD z
      ·rw[hDy]at z;cases z
    have fin:∀ (t:Bool) (H4 Z4:Hp),Ex H' Z2' H4 Z4→StOk (noE F) H4 Z4 S1 σ3→gc S1=.ok t→if t=true then tE (noE F) ge σ3 H4 fun y H5=>H5 D=some (.lst ys)∧ys.length < sizeLine∧∃ m',m' < ds.length - i∧(m'=ds.length - (i+1)∧i+1≤ds.length∧(upd H5 D (.lst (ys++[y]))) D=some (.lst (ys++[y]))∧(ys++[y]).length≤i+1∧∃ Z' acc,Ex H1 Z1 (upd H5 D (.lst (ys++[y]))) Z'∧Z' D=none∧Reps F.K F.C Z' acc (ys++[y])∧StOk (noE F) (upd H5 D (.lst (ys++[y]))) Z' (blkS own cap S) σ3 ∧
      WG F H1 Z1 ((noErr (compGo (blkS own cap S) g gc ge (ds.drop (i+1)))).bind fun zs=>R.ok (FF.D.lst (acc++zs))) P)
      else ∃ m',m' < ds.length - i∧(m'=ds.length - (i+1)∧i+1≤ds.length∧H4 D=some (.lst ys)∧ys.length≤i+1∧∃ Z' acc,Ex H1 Z1 H4 Z'∧Z' D=none∧Reps F.K F.C Z' acc ys∧StOk (noE F) H4 Z' (blkS own cap S) σ3 ∧
      WG F H1 Z1 ((noErr (compGo (blkS own cap S) g gc ge (ds.drop (i+1)))).bind fun zs=>R.ok (FF.D.lst (acc++zs))) P):=by
     intro t H4 Z4 x4 ok4 qc;rw[qc,R.bind_ok]at w2;cases t with
     | false =>
      rw[if_neg Bool.false_ne_true]at w2 ⊢;exact⟨ds.length - (i+1),by omega,rfl,hlt,x4.same _ _ hDy,by omega,Z4,acc,x2.trans x4,zD (x2.trans x4) x4,ra.mono x4.z,back ok4,w2⟩
     | true =>
      rw[if_pos rfl]at w2 ⊢;refine⟨Z4,S1,ok4,?_⟩;cases qe:ge S1 with
      | err k=>rw[qe]at w2;exact w2.elim
      | stuck=>rw[qe]at w2;exact w2.elim
      | ok yd =>
       rw[qe,R.bind_ok]at w2;intro H5 Z5 x5 yv ry;have hD5:H5 D=some (.lst ys):=x5.same _ _ (x4.same _ _ hDy);have x25:=x4.trans x5;have z5:=zD (x2.trans x25) x25;have ok5:=ok4.more x5;have n0:F.H0 D=none:=ok1.ex.same.free hD;have xu:Ex H1 Z1 (upd H5 D (.lst (ys++[yv]))) Z5:=by
        have q:=x2.trans x25;refine⟨fun b o e=>?_,q.z,fun b o e=>?_,q.new⟩
        ·rw[ag (fun z=>by subst z;rw[hD]at e;cases e)];exact q.same b o e
        ·rw[ag (fun z=>by subst z;rw[z5]at e;cases e)];exact q.sub b o e
       refine⟨hD5,by omega,ds.length - (i+1),by omega,rfl,hlt,ai,by simp;omega,Z5,acc++[yd],xu,z5,(ra.mono x25.z).append (Reps.cons ry Reps.nil),?_,?_⟩
       ·have q:=back ok5;refine⟨⟨fun b o e=>?_,q.ex.z,fun b o e=>?_,q.ex.new⟩,q.len,fun j x e=>?_,fun j k x y v w A B _ e1 _ _ _ o1 _=>?_⟩
        ·rw[ag (fun z=>by subst z;have e':F.H0 b=some o:=e;rw[n0]at e';cases e')];exact q.ex.same b o e
        ·rw[ag (fun z=>by subst z;rw[z5]at e;cases e)];exact q.ex.sub b o e
        ·obtain⟨_,_,_,_,_,z⟩:=gP e;cases z;obtain⟨v,e1,r⟩:=q.val j _ e;exact⟨v,[],e1,⟨rfl,r⟩,Priv.nil⟩
        ·obtain⟨_,_,_,_,_,z⟩:=gP e1;cases z;rw[o1.1];exact fun a ha=>nomatch ha
       ·cases qr:compGo (blkS own cap S) g gc ge (ds.drop (i+1)) with
        | err k=>rw[qr]at w2;exact w2.elim
        | stuck=>rw[qr]at w2;exact w2.elim
        | ok zs=>rw[qr]at w2;simpa [noErr,List.append_assoc] using w2
    cases qc:gc S1 with
    | err k=>rw[qc]at w2;exact w2.elim
    | stuck=>rw[qc]at w2;exact w2.elim
    | ok t =>
     cases ifs with
     | nil =>
      have:=hgc rfl;subst this;cases qc;exact fin true H3 Z3 x3 ok3 rfl
     | cons c r =>
      refine⟨Z3,S1,ok3,?_⟩;rw[qc];intro H4 Z4 x4;exact fin t H4 Z4 (x3.trans x4) (ok3.more x4) qc
  ·have ei:i=ds.length:=by omega
   refine .inl ⟨k2 (by omega),?_⟩;rw[List.drop_eq_nil_of_le (by omega)]at w2;have w3:WG F H1 Z1 (R.ok (FF.D.lst (acc++[]))) P:=w2;rw[List.append_nil]at w3;exact hP D ys acc H1 Z1 H2 Z2 x1 hD x2 hZD w3 hDy ra
theorem lE {σ:St}{H Z:Hp}{S:SS}{ifs:List Expr}{P:D→Hp→Hp→Prop}{Q:Addr→Hp→Prop}(hgc:ifs=[]→gc=tTrue)(hgo:Own own g)(ok:StOk F H Z S σ)(w:WG F H Z (eComp own cap git g gc ge S) P)(hP:∀ D ys ds H' Z',Ex H Z H' Z'→P (.lst ds) H' Z'→H' D=some (.lst ys)→Z' D=some (.lst ys)→Reps F.K F.C Z' ds ys→Q D H') :
  tI F git σ H fun J H1=>∀ D,H1 D=none→∃ W,BlkW sizeLine J (tGd (noE F) g) (tTests ifs (tT (noE F) gc)) (tE (noE F) ge) D (fun H' _=>Q D H') W∧∃ m,W 0 m (startB own cap σ) (upd H1 D (.lst [])) [] :=
 om hgc hgo ok w fun D ys ds H1 Z1 H2 Z2 x1 hD x2 hZD w3 hDy ra=>by
  have hz:Same Z2 (upd Z2 D (.lst ys)):=aC hZD;have xf:Ex H1 Z1 H2 (upd Z2 D (.lst ys)):=by
   refine⟨x2.same,x2.z.trans hz,fun b o e=>?_,fun b hb=>?_⟩
   ·by_cases q:b=D
    ·subst q;rw[ai]at e;cases e;exact hDy
    ·rw[ag q]at e;exact x2.sub b o e
   ·by_cases q:b=D
    ·subst q;exact .inr hD
    ·rw[ag q]at hb;exact x2.new b hb
  exact hP D ys ds H2 _ (x1.trans xf) (w3 H2 _ xf) hDy ai (ra.mono hz)
theorem gQ {k:Nat}(bx:BX X F k)(b:BlkOk X.N X.env.scope scope N own cap)(hi:FI X F tg iter git)(hgo:Own own g)
  (hg:∀ cl C s H fp,FG (blk X scope cl C s H fp N) (noE F) tg g) (he:∀ cl C s H fp,FE (blk X scope cl C s H fp N) (noE F) elt ge)
  (hs:∀ x,foldedSetIterable iter X.env x=pure x:=by intro _;rfl):FE X F (.ListComp elt [⟨tg,iter,[],0⟩] scope pos) (eComp own cap git g tTrue ge) :=
 (pN (ifs:=[]) (tc:=tT (noE F) tTrue) b bx.calm (by simp) hi hg (fun c q=>nomatch q) he hs).weak fun σ H Q ⟨Z,S,ok,w⟩ =>
  lE (fun _=>rfl) hgo ok w fun D ys ds H' Z' _ p h1 h2 r=>p _ (by rw[Rep];exact⟨D,ys,rfl,SqL.of h2,r⟩)
theorem qW {k:Nat}{c:Expr}(bx:BX X F k)(b:BlkOk X.N X.env.scope scope N own cap)(hi:FI X F tg iter git)(hgo:Own own g)
  (hg:∀ cl C s H fp,FG (blk X scope cl C s H fp N) (noE F) tg g) (ht:∀ cl C s H fp,FT (blk X scope cl C s H fp N) (noE F) c gc) (he:∀ cl C s H fp,FE (blk X scope cl C s H fp N) (noE F) elt ge)
  (hs:∀ x,foldedSetIterable iter X.env x=pure x:=by intro _;rfl):FE X F (.ListComp elt [⟨tg,iter,[c],0⟩] scope pos) (eComp own cap git g gc ge) :=
 (pN (ifs:=[c]) b bx.calm (by simp) hi hg (fun c' q=>by cases q;exact ht) he hs).weak fun σ H Q ⟨Z,S,ok,w⟩ =>
  lE (fun q=>nomatch q) hgo ok w fun D ys ds H' Z' _ p h1 h2 r=>p _ (by rw[Rep];exact⟨D,ys,rfl,SqL.of h2,r⟩)
end
def dAdd (x y:D):R D:=if isInt x=true then dI0 (fun i j=>.int (i+j)) x y else if isTup x=true then dCatT x y else dCatL x y
def dSub:D→D→R D:=dI0 fun i j=>.int (i - j)
def dMul (x y:D):R D:=if isInt x=true then dI cMul (fun i j=>.int (i*j)) x y else if isTup x=true then dRepT x y else dRepL x y
def dDiv:D→D→R D:=dI cDiv fun i j=>.int (i/j)
def dMod:D→D→R D:=dI (fun _ j=>decide (0 < j)) fun i j=>.int (i%j)
def dLt:D→D→R D:=dI0 fun i j=>.bl (decide (i < j))
def dLe:D→D→R D:=dI0 fun i j=>.bl (decide (i≤j))
def dGt:D→D→R D:=dI0 fun i j=>.bl (decide (j < i))
def dGe:D→D→R D:=dI0 fun i j=>.bl (decide (j≤i))
theorem aS {K:Frag}{C:Nat→Addr}{Z:Hp}{i:Int}:Rep K C Z (.int i) (.int i):=by rw[Rep]
theorem aU {K:Frag}{C:Nat→Addr}{Z:Hp}{i:Bool}:Rep K C Z (.bl i) (.bl i):=by rw[Rep]
section
variable {X:Cx}{F:Fx}{a b c:Expr}{ga gb gc:SS→R D}{pos:Pos}
theorem iE (ha:FE X F a ga)(hb:FE X F b gb):FE X F (.BinOp a .Sub b pos) (eOp dSub ga gb):=mS xV (cY fun _ _ _=>aS) ha hb
theorem yo (ha:FE X F a ga)(hb:FE X F b gb):FE X F (.BinOp a .FloorDiv b pos) (eOp dDiv ga gb):=mS vf (sP vB fun _ _ _=>aS) ha hb
theorem a9 (ha:FE X F a ga)(hb:FE X F b gb):FE X F (.BinOp a .Mod b pos) (eOp dMod ga gb):=mS xX (sP (fun i j h=>of_decide_eq_true h) fun _ _ _=>aS) ha hb
theorem zi (ha:FE X F a ga)(hb:FE X F b gb):FT X F (.Compare a [.Lt] [b] pos) (gB (eOp dLt ga gb)):=iy xv (cY fun _ _ _=>aU) ha hb
theorem zj (ha:FE X F a ga)(hb:FE X F b gb):FT X F (.Compare a [.GtE] [b] pos) (gB (eOp dGe ga gb)):=iy ze (cY fun _ _ _=>aU) ha hb
theorem aq (hK:X.K=F.K)(ha:FE X F a ga)(hb:FE X F b gb)(hs:PlainIx b:=by intro _ _;rfl):FE X F (.Subscript a b pos) (eOp dIx ga gb):=zf sK (by rw[hK];exact sQ) ha hb hs
theorem vK:OpR X (binaryOp .Add) (fun x y H Q=>rI0 (fun i j=>.int (i+j)) x y H Q∨(rCat2 X.K x y H Q∨∃ a b xs ys,x=.ref a∧y=.ref b∧SqL X.K H a xs∧SqL X.K H b ys∧xs.length+ys.length≤sizeLine∧∀ p,H p=none→Q (.ref p) (upd H p (.lst (xs++ys))))) :=
 xU.or (vC.or sU)
theorem aX (hK:X.K=F.K)(ha:FE X F a ga)(hb:FE X F b gb):FE X F (.BinOp a .Add b pos) (eOp dAdd ga gb) :=
 mS vK (by rw[hK];exact OpD.or (fun x _=>isInt x) (cY fun _ _ _=>aS) (OpD.or (fun x _=>isTup x) sR sT)) ha hb
theorem fj (hK:X.K=F.K)(ha:FE X F a ga)(hb:FE X F b gb):FE X F (.BinOp a .Mult b pos) (eOp dMul ga gb) :=
 mS (xW.or (vD.or vE)) (by rw[hK];exact OpD.or (fun x _=>isInt x) (sP vA fun _ _ _=>aS) (OpD.or (fun x _=>isTup x) sS sV)) ha hb
end
theorem yq {X:Cx}{pins:List (Addr×Obj)}{σ:St}{H Z:Hp}{s:Shared}{K:Frag}{C:Nat→Addr}(hK:X.K=K)(I:Inv X pins σ H s)(z:Same Z H)(n:Nat)(A:Around)(d e:D)(v u:V)(x y:Value)(g1:good n d=true)(g2:good n e=true)
  (h:Rep K C Z d v) (h':Rep K C Z e u) (rx:RelV v x) (ry:RelV u y) (hu:A.units+n < cLine):SeqAt.RcAt A s x y (eqD d e):=by
 have hu0:A.units < cLine:=by omega
 cases d with
 | exc k=>cases n<;>simp[good]at g1
 | fn k=>cases n<;>simp[good]at g1
 | tab ks xs=>cases n<;>simp[good]at g1
 | dic ks xs=>cases n<;>simp[good]at g1
 | ptr a=>cases n<;>simp[good]at g1
 | tup ds =>
  cases n with
  | zero=>simp[good]at g1
  | succ n =>
   have in1:A.in1.units+n < cLine:=by show A.units+1+n < cLine;omega
   rw[Rep]at h;obtain⟨a,vs,rfl,h1,h2⟩:=h;cases rx;obtain⟨its,r,p,_⟩:=I.tuple (by rw[hK];exact h1.mono z:SqT X.K H a vs);have p':s.heap.IsTuple a its.toArray:=p;cases e with
   | tup es =>
    rw[Rep]at h';obtain⟨b,us,rfl,k1,k2⟩:=h';cases ry;obtain⟨its2,r2,p2,_⟩:=I.tuple (by rw[hK];exact k1.mono z:SqT X.K H b us);have p2':s.heap.IsTuple b its2.toArray:=p2;rw[good]at g1 g2;have q:=SeqAt.RcAt.tuples (A:=A) (e:=fun j=>eqD (ds.getD j .non) (es.getD j .non)) p' p2' hu0 fun j j1 j2=>by
     have j1':j < its.length:=by simpa using j1
     have j2':j < its2.length:=by simpa using j2
     have l1:j < ds.length:=by rw[h2.length,r.length];exact j1'
     have l2:j < es.length:=by rw[k2.length,r2.length];exact j2'
     have e1:ds[j]?=some ds[j]:=by simp
     have e2:es[j]?=some es[j]:=by simp
     obtain⟨w1,f1,f2⟩:=h2.get e1;obtain⟨w2,f3,f4⟩:=k2.get e2;obtain⟨z1,m1,m2⟩:=r.get f1;obtain⟨z2,m3,m4⟩:=r2.get f3;have n1:its.toArray[j]=z1:=by simpa [j1'] using m1
     have n2:its2.toArray[j]=z2:=by simpa [j2'] using m3
     rw[n1,n2];have g3:ds.getD j .non=ds[j]:=by simp[l1]
     have g4:es.getD j .non=es[j]:=by simp[l2]
     rw[g3,g4];exact iA hK I z n A.in1 _ _ w1 w2 z1 z2 (aN g1 e1) (aN g2 e2) f2 f4 m2 m4 in1
    rw[eqD,cF];have s1:its.toArray.size=ds.length:=by rw[List.size_toArray,h2.length,r.length]
    have s2:its2.toArray.size=es.length:=by rw[List.size_toArray,k2.length,r2.length]
    rw[s1,s2]at q;exact q
   | lst es =>
    rw[Rep]at h';obtain⟨b,us,rfl,k1,k2⟩:=h';cases ry;obtain⟨its2,r2,p2,_⟩:=I.list (by rw[hK];exact z.seq k1:SqL X.K H b us);simp only[eqD];exact SeqAt.RcAt.tuple_list p' p2.isList hu0
   | exc k=>simp[good]at g2
   | fn k=>simp[good]at g2
   | tab ks xs=>simp[good]at g2
   | dic ks xs=>simp[good]at g2
   | ptr a=>simp[good]at g2
   | non=>rw[Rep]at h';subst h';cases ry;simp only[eqD];exact SeqAt.RcAt.tuple_none p' hu0
   | bl b=>rw[Rep]at h';subst h';cases ry;simp only[eqD];exact SeqAt.RcAt.tuple_bool _ p' hu0
   | int b=>rw[Rep]at h';subst h';obtain⟨t,rfl⟩:=ry;simp only[eqD];exact SeqAt.RcAt.tuple_int _ _ p' hu0
   | str b=>rw[Rep]at h';subst h';obtain⟨t,rfl⟩:=ry;simp only[eqD];exact SeqAt.RcAt.tuple_str _ _ p' hu0
 | lst ds =>
  cases n with
  | zero=>simp[good]at g1
  | succ n =>
   have in1:A.in1.units+n < cLine:=by show A.units+1+n < cLine;omega
   rw[Rep]at h;obtain⟨a,vs,rfl,h1,h2⟩:=h;cases rx;obtain⟨its,r,p,_⟩:=I.list (by rw[hK];exact z.seq h1:SqL X.K H a vs);have p':=p.isList;cases e with
   | lst es =>
    rw[Rep]at h';obtain⟨b,us,rfl,k1,k2⟩:=h';cases ry;obtain⟨its2,r2,p2,_⟩:=I.list (by rw[hK];exact z.seq k1:SqL X.K H b us);have p2':=p2.isList;rw[good]at g1 g2;have s1:its.toArray.size=ds.length:=by rw[List.size_toArray,h2.length,r.length]
    have s2:its2.toArray.size=es.length:=by rw[List.size_toArray,k2.length,r2.length]
    rw[eqD,cF];by_cases hsz:ds.length=es.length
    ·have q:=SeqAt.RcAt.lists (A:=A) (e:=fun j=>eqD (ds.getD j .non) (es.getD j .non)) p' p2' (by rw[s1,s2];exact hsz) hu0 fun j j1 j2=>by
      have j1':j < its.length:=by simpa using j1
      have j2':j < its2.length:=by simpa using j2
      have l1:j < ds.length:=by rw[h2.length,r.length];exact j1'
      have l2:j < es.length:=by rw[k2.length,r2.length];exact j2'
      have e1:ds[j]?=some ds[j]:=by simp
      have e2:es[j]?=some es[j]:=by simp
      obtain⟨w1,f1,f2⟩:=h2.get e1;obtain⟨w2,f3,f4⟩:=k2.get e2;obtain⟨z1,m1,m2⟩:=r.get f1;obtain⟨z2,m3,m4⟩:=r2.get f3;have n1:its.toArray[j]=z1:=by simpa [j1'] using m1
      have n2:its2.toArray[j]=z2:=by simpa [j2'] using m3
      rw[n1,n2];have g3:ds.getD j .non=ds[j]:=by simp[l1]
      have g4:es.getD j .non=es[j]:=by simp[l2]
      rw[g3,g4];exact iA hK I z n A.in1 _ _ w1 w2 z1 z2 (aN g1 e1) (aN g2 e2) f2 f4 m2 m4 in1
     rw[s1]at q;rw[hsz,Nat.min_self,beq_self_eq_true,Bool.and_true,← hsz];exact q
    ·have q:=SeqAt.RcAt.lists_lengths (A:=A) p' p2' (by rw[s1,s2];simpa using hsz) hu0;rw[show (ds.length==es.length)=false by simpa using hsz,Bool.and_false];exact q
   | tup es =>
    rw[Rep]at h';obtain⟨b,us,rfl,k1,k2⟩:=h';cases ry;obtain⟨its2,r2,p2,_⟩:=I.tuple (by rw[hK];exact k1.mono z:SqT X.K H b us);simp only[eqD];exact SeqAt.RcAt.list_tuple p' (show s.heap.IsTuple b its2.toArray from p2) hu0
   | exc k=>simp[good]at g2
   | fn k=>simp[good]at g2
   | tab ks xs=>simp[good]at g2
   | dic ks xs=>simp[good]at g2
   | ptr a=>simp[good]at g2
   | non=>rw[Rep]at h';subst h';cases ry;simp only[eqD];exact SeqAt.RcAt.list_none p' hu0
   | bl b=>rw[Rep]at h';subst h';cases ry;simp only[eqD];exact SeqAt.RcAt.list_bool _ p' hu0
   | int b=>rw[Rep]at h';subst h';obtain⟨t,rfl⟩:=ry;simp only[eqD];exact SeqAt.RcAt.list_int _ _ p' hu0
   | str b=>rw[Rep]at h';subst h';obtain⟨t,rfl⟩:=ry;simp only[eqD];exact SeqAt.RcAt.list_str _ _ p' hu0
 | non =>
  rw[Rep]at h;subst h;cases rx;cases e with
  | tup es =>
   rw[Rep]at h';obtain⟨b,us,rfl,k1,k2⟩:=h';cases ry;obtain⟨its2,r2,p2,_⟩:=I.tuple (by rw[hK];exact k1.mono z:SqT X.K H b us);simp only[eqD];exact SeqAt.RcAt.none_tuple (show s.heap.IsTuple b its2.toArray from p2) hu0
  | lst es =>
   rw[Rep]at h';obtain⟨b,us,rfl,k1,k2⟩:=h';cases ry;obtain⟨its2,r2,p2,_⟩:=I.list (by rw[hK];exact z.seq k1:SqL X.K H b us);simp only[eqD];exact SeqAt.RcAt.none_list p2.isList hu0
  | exc k=>cases n<;>simp[good]at g2
  | fn k=>cases n<;>simp[good]at g2
  | tab ks xs=>cases n<;>simp[good]at g2
  | dic ks xs=>cases n<;>simp[good]at g2
  | ptr a=>cases n<;>simp[good]at g2
  | non=>rw[Rep]at h';subst h';cases ry;simp only[eqD];exact SeqAt.RcAt.none_none
  | bl b=>rw[Rep]at h';subst h';cases ry;simp only[eqD];exact SeqAt.RcAt.none_bool _
  | int b=>rw[Rep]at h';subst h';obtain⟨t,rfl⟩:=ry;simp only[eqD];exact SeqAt.RcAt.none_int _ _
  | str b=>rw[Rep]at h';subst h';obtain⟨t,rfl⟩:=ry;simp only[eqD];exact SeqAt.RcAt.none_str _ _
 | bl a =>
  rw[Rep]at h;subst h;cases rx;cases e with
  | tup es =>
   rw[Rep]at h';obtain⟨b,us,rfl,k1,k2⟩:=h';cases ry;obtain⟨its2,r2,p2,_⟩:=I.tuple (by rw[hK];exact k1.mono z:SqT X.K H b us);simp only[eqD];exact SeqAt.RcAt.bool_tuple _ (show s.heap.IsTuple b its2.toArray from p2) hu0
  | lst es =>
   rw[Rep]at h';obtain⟨b,us,rfl,k1,k2⟩:=h';cases ry;obtain⟨its2,r2,p2,_⟩:=I.list (by rw[hK];exact z.seq k1:SqL X.K H b us);simp only[eqD];exact SeqAt.RcAt.bool_list _ p2.isList hu0
  | exc k=>cases n<;>simp[good]at g2
  | fn k=>cases n<;>simp[good]at g2
  | tab ks xs=>cases n<;>simp[good]at g2
  | dic ks xs=>cases n<;>simp[good]at g2
  | ptr a=>cases n<;>simp[good]at g2
  | non=>rw[Rep]at h';subst h';cases ry;simp only[eqD];exact SeqAt.RcAt.bool_none _
  | bl b=>rw[Rep]at h';subst h';cases ry;simp only[eqD];exact SeqAt.RcAt.bool_bool _ _
  | int b=>rw[Rep]at h';subst h';obtain⟨t,rfl⟩:=ry;simp only[eqD];exact SeqAt.RcAt.bool_int _ _ _
  | str b=>rw[Rep]at h';subst h';obtain⟨t,rfl⟩:=ry;simp only[eqD];exact SeqAt.RcAt.bool_str _ _ _
 | int a =>
  rw[Rep]at h;subst h;obtain⟨t0,rfl⟩:=rx;cases e with
  | tup es =>
   rw[Rep]at h';obtain⟨b,us,rfl,k1,k2⟩:=h';cases ry;obtain⟨its2,r2,p2,_⟩:=I.tuple (by rw[hK];exact k1.mono z:SqT X.K H b us);simp only[eqD];exact SeqAt.RcAt.int_tuple _ _ (show s.heap.IsTuple b its2.toArray from p2) hu0
  | lst es =>
   rw[Rep]at h';obtain⟨b,us,rfl,k1,k2⟩:=h';cases ry;obtain⟨its2,r2,p2,_⟩:=I.list (by rw[hK];exact z.seq k1:SqL X.K H b us);simp only[eqD];exact SeqAt.RcAt.int_list _ _ p2.isList hu0
  | exc k=>cases n<;>simp[good]at g2
  | fn k=>cases n<;>simp[good]at g2
  | tab ks xs=>cases n<;>simp[good]at g2
  | dic ks xs=>cases n<;>simp[good]at g2
  | ptr a=>cases n<;>simp[good]at g2
  | non=>rw[Rep]at h';subst h';cases ry;simp only[eqD];exact SeqAt.RcAt.int_none _ _
  | bl b=>rw[Rep]at h';subst h';cases ry;simp only[eqD];exact SeqAt.RcAt.int_bool _ _ _
  | int b=>rw[Rep]at h';subst h';obtain⟨t,rfl⟩:=ry;simp only[eqD];exact SeqAt.RcAt.int_int _ _ _ _
  | str b=>rw[Rep]at h';subst h';obtain⟨t,rfl⟩:=ry;simp only[eqD];exact SeqAt.RcAt.int_str _ _ _ _
 | str a =>
  rw[Rep]at h;subst h;obtain⟨t0,rfl⟩:=rx;cases e with
  | tup es =>
   rw[Rep]at h';obtain⟨b,us,rfl,k1,k2⟩:=h';cases ry;obtain⟨its2,r2,p2,_⟩:=I.tuple (by rw[hK];exact k1.mono z:SqT X.K H b us);simp only[eqD];exact SeqAt.RcAt.str_tuple _ _ (show s.heap.IsTuple b its2.toArray from p2) hu0
  | lst es =>
   rw[Rep]at h';obtain⟨b,us,rfl,k1,k2⟩:=h';cases ry;obtain⟨its2,r2,p2,_⟩:=I.list (by rw[hK];exact z.seq k1:SqL X.K H b us);simp only[eqD];exact SeqAt.RcAt.str_list _ _ p2.isList hu0
  | exc k=>cases n<;>simp[good]at g2
  | fn k=>cases n<;>simp[good]at g2
  | tab ks xs=>cases n<;>simp[good]at g2
  | dic ks xs=>cases n<;>simp[good]at g2
  | ptr a=>cases n<;>simp[good]at g2
  | non=>rw[Rep]at h';subst h';cases ry;simp only[eqD];exact SeqAt.RcAt.str_none _ _
  | bl b=>rw[Rep]at h';subst h';cases ry;simp only[eqD];exact SeqAt.RcAt.str_bool _ _ _
  | int b=>rw[Rep]at h';subst h';obtain⟨t,rfl⟩:=ry;simp only[eqD];exact SeqAt.RcAt.str_int _ _ _ _
  | str b=>rw[Rep]at h';subst h';obtain⟨t,rfl⟩:=ry;simp only[eqD];exact SeqAt.RcAt.str_str _ _ _ _
def dEq (x y:D):R D:=if good 60 x=true∧good 60 y=true then .ok (.bl (eqD x y)) else .stuck
def rEqD (K:Frag)(C:Nat→Addr):R2:=fun x y H Q=>∃ Z d e,Same Z H∧Rep K C Z d x∧Rep K C Z e y∧good 60 d=true∧good 60 e=true∧Q (.bl (eqD d e)) H
section
variable {X:Cx}{F:Fx}{a b c:Expr}{ga gb gc:SS→R D}{pos:Pos}{k:Nat}
theorem oo (hK:X.K=F.K)(hr:Room k X.A):OpR X (compareOp .Eq) (rEqD F.K F.C):=by
 intro pins s σ H x y v u Q I rx ry h;obtain⟨Z,d,e,z,h1,h2,g1,g2,q⟩:=h;have hu:X.A.units+60 < cLine:=by have:=hr.un;omega
 exact yq hK I z 60 X.A d e x y v u g1 g2 h1 h2 rx ry hu X.prog X.w X.xe _ ⟨.bl (eqD d e),H,I,rfl,q⟩
theorem oq:OpD F (rEqD F.K F.C) dEq:=by
 intro H Z x y dx dy Q s rx ry w;unfold dEq at w;split at w
 ·rename_i g;exact⟨Z,dx,dy,s,rx,ry,g.1,g.2,WG.now w s _ aU⟩
 ·exact w.elim
theorem xy (bx:BX X F k)(ha:FE X F a ga)(hb:FE X F b gb):FE X F (.Compare a [.Eq] [b] pos) (eOp dEq ga gb):=sN (oo bx.K bx.room) oq ha hb
theorem jE (bx:BX X F k)(ha:FE X F a ga)(hb:FE X F b gb):FT X F (.Compare a [.Eq] [b] pos) (gB (eOp dEq ga gb)):=iy (oo bx.K bx.room) oq ha hb
end
def eChain (f f':D→D→R D)(ga gb gc:SS→R D):SS→R D:=fun S=>(ga S).bind fun x=>(gb S).bind fun y=>(asB (f x y)).bind fun k=>if k=true then (gc S).bind fun w=>f' y w else .ok (.bl false)
section
variable {X:Cx}{F:Fx}{a b c:Expr}{ga gb gc:SS→R D}{pos:Pos}{r r':R2}{f f':D→D→R D}{op op':CmpOp}
theorem lF (hd:OpD F r f)(hd':OpD F r' f'):∀ σ H Q,tE F (eChain f f' ga gb gc) σ H Q→tChain r r' (tE F ga) (tE F gb) (tE F gc) σ H Q:=fun σ H Q ⟨Z,S,ok,w⟩ =>
 av ok w fun dx x H1 Z1 ok1 x1 rx w1=>av ok1 w1 fun dy y H2 Z2 ok2 x2 ry w2=>hd H2 Z2 x y dx dy _ ok2.sub (rx.mono x2.z) ry (by
  cases e:f dx dy with
  | err k=>rw[e]at w2;exact w2
  | stuck=>rw[e]at w2;exact w2
  | ok d =>
   rw[e]at w2;intro H3 Z3 x3 v rv;cases d with
   | bl k =>
    rw[Rep]at rv;subst rv;have w3:WG F H3 Z3 (if k=true then (gc S).bind fun w=>f' dy w else .ok (.bl false)) _:=WG.more w2 x3;refine⟨k,rfl,?_⟩;have ok3:=ok2.more x3;cases k with
    | false=>exact WG.now w3 ok3.sub _ aU
    | true=>exact av ok3 w3 fun dw wv H4 Z4 ok4 x4 rw' w4=>hd' H4 Z4 y wv dy dw Q ok4.sub (ry.mono (x3.z.trans x4.z)) rw' w4
   | _=>exact w2.elim)
theorem tj (ho:OpR X (compareOp op) r)(ho':OpR X (compareOp op') r')(hd:OpD F r f)(hd':OpD F r' f')(ha:FE X F a ga)(hb:FE X F b gb)(hc:FE X F c gc)(hm:lastMarks [op,op'] [b,c]=false:=by with_unfolding_all rfl) :
  FE X F (.Compare a [op,op'] [b,c] pos) (eChain f f' ga gb gc):=(sA ho ho' ha hb hc hm).weak (lF hd hd')
theorem mX (ho:OpR X (compareOp op) r)(ho':OpR X (compareOp op') r')(hd:OpD F r f)(hd':OpD F r' f')(ha:FE X F a ga)(hb:FE X F b gb)(hc:FE X F c gc)(hm:lastMarks [op,op'] [b,c]=false:=by with_unfolding_all rfl) :
  FT X F (.Compare a [op,op'] [b,c] pos) (gB (eChain f f' ga gb gc)):=(sB ho ho' ha hb hc hm).weak (pK (lF hd hd'))
theorem pO (ha:FE X F a ga)(hb:FE X F b gb)(hc:FE X F c gc)(hm:lastMarks [.LtE,.LtE] [b,c]=false:=by with_unfolding_all rfl):FE X F (.Compare a [.LtE,.LtE] [b,c] pos) (eChain dLe dLe ga gb gc):=tj mO mO (cY fun _ _ _=>aU) (cY fun _ _ _=>aU) ha hb hc hm
theorem vL (ha:FE X F a ga)(hb:FE X F b gb)(hc:FE X F c gc)(hm:lastMarks [.LtE,.LtE] [b,c]=false:=by with_unfolding_all rfl):FT X F (.Compare a [.LtE,.LtE] [b,c] pos) (gB (eChain dLe dLe ga gb gc)):=mX mO mO (cY fun _ _ _=>aU) (cY fun _ _ _=>aU) ha hb hc hm
theorem vM (ha:FE X F a ga)(hb:FE X F b gb)(hc:FE X F c gc)(hm:lastMarks [.LtE,.Lt] [b,c]=false:=by with_unfolding_all rfl):FT X F (.Compare a [.LtE,.Lt] [b,c] pos) (gB (eChain dLe dLt ga gb gc)):=mX mO xv (cY fun _ _ _=>aU) (cY fun _ _ _=>aU) ha hb hc hm
end
def dIs:D→D→R D
 | x,.non=>.ok (.bl (match x with | .non=>true | _=>false))
 | x,.bl b=>.ok (.bl (match x with | .bl a=>a==b | _=>false))
 | _,_=>.stuck
section
variable {X:Cx}{F:Fx}{a b:Expr}{ga gb:SS→R D}{pos:Pos}
end
def cutD (xs:List D)(lo hi:Option Int):List D:=(xs.drop (HT.sIx xs.length 0 lo)).take (HT.sIx xs.length xs.length hi - HT.sIx xs.length 0 lo)
theorem Reps.cut {K:Frag}{C:Nat→Addr}{Z:Hp}{ds:List D}{vs:List V}(r:Reps K C Z ds vs)(lo hi:Option Int):Reps K C Z (cutD ds lo hi) (cutV vs lo hi):=by
 unfold cutD cutV;rw[r.length];exact(r.drop _).take _
def dSl (d:D)(lo hi:Option Int):R D:=match d with
 | .lst xs=>.ok (.lst (cutD xs lo hi))
 | .tup xs=>if HT.sIx xs.length 0 lo=0∧HT.sIx xs.length xs.length hi=xs.length then .stuck else .ok (.tup (cutD xs lo hi))
 | _=>.stuck
def asI (d:D):R (Option Int):=match d with
 | .int i=>.ok (some i)
 | _=>.stuck
def pNo:SS→R (Option Int):=fun _=>.ok none
def pSo (g:SS→R D):SS→R (Option Int):=fun S=>(g S).bind asI
def tP (F:Fx)(g:SS→R (Option Int)):TO:=fun σ H Q=>∃ Z S,StOk F H Z S σ∧WG F H Z (g S) fun o H' _=>Q o H'
section
variable {X:Cx}{F:Fx}{e:Expr}{lo hi:Option Expr}{g:SS→R D}{l h:SS→R (Option Int)}{pos p2:Pos}
theorem zk:PO X none (tP F pNo):=fun pins s σ H Q I ⟨Z,S,ok,w⟩=>vn pins s σ H Q I (WG.now w ok.sub)
theorem zl (he:FE X F e g):PO X (some e) (tP F (pSo g)):=fun pins s σ H Q I ⟨Z,S,ok,w⟩=>vp he pins s σ H Q I (av ok w fun d v H1 Z1 ok1 x1 rv w1=>by
 cases d with
 | int i=>rw[Rep]at rv;exact⟨i,rv,WG.now (a:=some i) w1 ok1.sub⟩
 | _=>exact w1.elim)
theorem pR {α:Type}{σ:St}{H Z:Hp}{S:SS}{k:Option Int→R α}{P:α→Hp→Hp→Prop}{Q:Option Int→Hp→Prop}(ok:StOk F H Z S σ)(w:WG F H Z ((l S).bind k) P)
  (h:∀ o H1 Z1,StOk F H1 Z1 S σ→Ex H Z H1 Z1→WG F H1 Z1 (k o) P→Q o H1):tP F l σ H Q:=by
 refine⟨Z,S,ok,?_⟩;cases e:l S with
 | ok d =>
  rw[e]at w;intro H1 Z1 x;exact h d H1 Z1 (ok.more x) x (WG.more (r:=k d) w x)
 | err k=>rw[e]at w;exact w
 | stuck=>rw[e]at w;exact w
end
def CallD (F:Fx)(r:List V→Hp→VK→Prop)(f:List D→R D):Prop:=∀ (H Z:Hp) (xs:List V) (ds:List D) (Q:VK),Same Z H→Reps F.K F.C Z ds xs→WG F H Z (f ds) (fun d H' Z'=>∀ v,Rep F.K F.C Z' d v→Q v H')→r xs H Q
section
variable {X:Cx}{F:Fx}{x:Str}{p pos:Pos}{e:Expr}{es:List Expr}{gs:SS→R (List D)}{id T:String}{r:List V→Hp→VK→Prop}{f:List D→R D}
theorem tm (hd:CallD F r f):∀ σ H Q,tE F (eCall f gs) σ H Q→tCB r (tAl F gs) σ H Q:=fun σ H Q ⟨Z,S,ok,w⟩=>bj ok w fun ds vs H1 Z1 ok1 x1 rs w1=>hd H1 Z1 vs ds Q ok1.sub rs w1
theorem fk (hc:CallR X (.builtin id) r)(hd:CallD F r f)(hg:Gl X x)(hm:X.mg x=none)(hv:bootBuiltins x=some (.builtin id))(ha:FA X F (e::es) gs)(hn:x ≠ "__name__" := by decide)(hdb:(x==("__debug__":Str))=false:=by decide)
  (he:starEach (e::es) X.env=(false,eval e X.env)::starEach es X.env:=by rfl) (hpl:(backTo pos (starEach es X.env)).any (·.1)=false:=by rfl):FE X F (.Call (.Name x p) (e::es) [] pos) (eCall f gs):=(fg hc hg hm hv ha hn hdb he hpl).weak (tm hd)
theorem qX (hc:CallR X (.type T) r)(hd:CallD F r f)(hg:Gl X x)(hm:X.mg x=none)(hv:bootBuiltins x=some (.type T))(ha:FA X F (e::es) gs)(hn:x ≠ "__name__" := by decide)(hdb:(x==("__debug__":Str))=false:=by decide)
  (he:starEach (e::es) X.env=(false,eval e X.env)::starEach es X.env:=by rfl) (hpl:(backTo pos (starEach es X.env)).any (·.1)=false:=by rfl):FE X F (.Call (.Name x p) (e::es) [] pos) (eCall f gs):=(lu hc hg hm hv ha hn hdb he hpl).weak (tm hd)
end
theorem bI {K:Frag}{C:Nat→Addr}{Z:Hp}{d:D}{vs:List V}(r:Reps K C Z [d] vs):∃ v,vs=[v]∧Rep K C Z d v:=by
 rw[Reps]at r;obtain⟨v,r',rfl,h1,h2⟩:=r;rw[Reps]at h2;exact⟨v,by rw[h2],h1⟩
def dLen:List D→R D
 | [.lst xs]=>.ok (.int xs.length)
 | [.tup xs]=>.ok (.int xs.length)
 | _=>.stuck
theorem qY {F:Fx}:CallD F (fun xs H Q=>∃ p ys,xs=[.ref p]∧(SqL F.K H p ys∨SqT F.K H p ys)∧Q (.int ys.length) H) dLen:=by
 intro H Z xs ds Q s rs w;unfold dLen at w;split at w
 ·obtain⟨v,rfl,h⟩:=bI rs;rw[Rep]at h;obtain⟨a,vs,rfl,h1,h2⟩:=h;exact⟨a,vs,rfl,.inl (s.seq h1),by rw[← h2.length];exact WG.now w s _ aS⟩
 ·obtain⟨v,rfl,h⟩:=bI rs;rw[Rep]at h;obtain⟨a,vs,rfl,h1,h2⟩:=h;exact⟨a,vs,rfl,.inr (h1.mono s),by rw[← h2.length];exact WG.now w s _ aS⟩
 ·exact w.elim
def dMax2:List D→R D
 | [.int i,.int j]=>.ok (.int (if j > i then j else i))
 | _=>.stuck
theorem ot {F:Fx}:CallD F (fun xs H Q=>∃ i j,xs=[.int i,.int j]∧Q (.int (if j > i then j else i)) H) dMax2:=by
 intro H Z xs ds Q s rs w;unfold dMax2 at w;split at w
 ·exact⟨_,_,mW rs,WG.now w s _ aS⟩
 ·exact w.elim
def dTuple:List D→R D
 | [.lst xs]=>.ok (.tup xs)
 | [.tup xs]=>.ok (.tup xs)
 | _=>.stuck
theorem mY {F:Fx}:CallD F (fun xs H Q=>∃ p ys,xs=[.ref p]∧((SqL F.K H p ys∧∀ l,H l=none→Q (.ref l) (upd H l (.tup ys)))∨(SqT F.K H p ys∧Q (.ref p) H))) dTuple:=by
 intro H Z xs ds Q s rs w;unfold dTuple at w;split at w
 ·obtain⟨v,rfl,h⟩:=bI rs;rw[Rep]at h;obtain⟨a,vs,rfl,h1,h2⟩:=h;refine⟨a,vs,rfl,.inl ⟨s.seq h1,fun p hp=>?_⟩⟩;have z:Same Z (upd Z p (.tup vs)):=aC (s.free hp);exact w _ _ (Ex.alloc s hp) _ (by rw[Rep];exact⟨p,_,rfl,SqT.of ai,h2.mono z⟩)
 ·obtain⟨v,rfl,h⟩:=bI rs;have hh:=h;rw[Rep]at h;obtain⟨a,vs,rfl,h1,h2⟩:=h;exact⟨a,vs,rfl,.inr ⟨h1.mono s,WG.now w s _ hh⟩⟩
 ·exact w.elim
def boolsD:List D→Option (List Bool)
 | []=>some []
 | .bl b::r=>(boolsD r).map (b::·)
 | _::_=>none
theorem dY {K:Frag}{C:Nat→Addr}{Z:Hp}:∀ {ds:List D} {vs:List V} {bs:List Bool},Reps K C Z ds vs→boolsD ds=some bs→vs=bs.map V.bl
 | [],vs,bs,r,e=>by rw[Reps]at r;cases e;exact r
 | d::ds,vs,bs,r,e=>by
  rw[Reps]at r;obtain⟨v,r',rfl,h1,h2⟩:=r;cases d with
  | bl b =>
   rw[boolsD]at e;cases q:boolsD ds with
   | none=>rw[q]at e;cases e
   | some bs' =>
    rw[q]at e;cases e;rw[Rep]at h1;rw[h1,dY h2 q];rfl
  | _=>simp[boolsD]at e
def dAll:List D→R D
 | [.lst xs]=>match boolsD xs with
  | some bs=>.ok (.bl (bs.all id))
  | none=>.stuck
 | _=>.stuck
theorem bR:∀ {bs:List Bool} {us:List Value},Vals (bs.map V.bl) us→us=bs.map Value.bool
 | [],us,h=>by rw[List.map_nil]at h;cases h;rfl
 | b::bs,us,h=>by
  rw[List.map_cons]at h;cases h with
  | cons r t =>
   have r':_=Value.bool b:=r;rw[r',bR t];rfl
theorem jF {X:Cx}(hc:X.calm=true):CallR X (.builtin "all") (fun xs H Q=>∃ (p:Addr) (bs:List Bool),xs=[.ref p]∧SqL X.K H p (bs.map V.bl)∧Q (.bl (bs.all id)) H):=by
 intro pins s σ H xs us Q I r h;obtain⟨p,bs,rfl,hq,q⟩:=h;obtain⟨u,rfl,ru⟩:=vals1 r;cases ru;obtain⟨its,rv,pl,hz⟩:=I.list hq;have e:=bR rv;subst e;have hlt:p < s.heap.objs.size:=by obtain⟨o,_,ho,_⟩:=pl;exact Heap.lt_size ho
 refine call_all_walk (wpAny_pyIter_list pl.isList ⟨s.heap.objs.size,_,_,_,_,_,fun i=>bs.getD i false,rfl,Walks.list (show X.A.in1.handled=none from I.ok.hd hc) s.heap.objs.size p (Nat.ne_of_lt hlt) (bs.map Value.bool).toArray,⟨⟨_,Heap.get?_push_size _ rfl,rfl,rfl⟩,?_⟩,?_,fun h' tk hk=>?_⟩)
 ·obtain⟨o,ho,h2,n,h3⟩:=pl.isList;exact⟨o,Heap.get?_push_of_some _ ho,h2,n,h3⟩
 ·intro i v s' Q' E' hp hq';have hp':bs[i]?.map Value.bool=some v:=by simpa using hp
  cases e:bs[i]? with
  | none=>rw[e]at hp';cases hp'
  | some b =>
   rw[e]at hp';cases hp';refine wpAny_truthy_bool ?_;have:bs.getD i false=b:=by simp[List.getD,e]
   have hq2:Q' (bs.getD i false) s':=hq';rw[this]at hq2;exact hq2
 ·have hall:(List.range (bs.map Value.bool).toArray.size).all (fun i=>bs.getD i false)=bs.all id:=by
   rw[List.size_toArray,List.length_map];rw[Bool.eq_iff_iff,List.all_eq_true,List.all_eq_true];constructor
   ·intro h b hb;obtain⟨i,hi,rfl⟩:=List.mem_iff_getElem.mp hb;have:=h i (List.mem_range.mpr hi)
    simpa [List.getD,hi] using this
   ·intro h i hi;have hi':=List.mem_range.mp hi;have:=h bs[i] (List.getElem_mem hi')
    simpa [List.getD,hi'] using this
  rw[hall];exact⟨.bl (bs.all id),H,I.kept fun b o e=>hk b o (by simp;exact Nat.ne_of_lt (Heap.lt_size e)) (Heap.get?_push_of_some _ e),rfl,q⟩
theorem qZ {F:Fx}:CallD F (fun xs H Q=>∃ (p:Addr) (bs:List Bool),xs=[.ref p]∧SqL F.K H p (bs.map V.bl)∧Q (.bl (bs.all id)) H) dAll:=by
 intro H Z xs ds Q s rs w;unfold dAll at w;split at w
 ·split at w
  ·rename_i bs e;obtain⟨v,rfl,h⟩:=bI rs;rw[Rep]at h;obtain⟨a,vs,rfl,h1,h2⟩:=h;have e2:=dY h2 e;subst e2;exact⟨a,bs,rfl,s.seq h1,WG.now w s _ aU⟩
  ·exact w.elim
 ·exact w.elim
section
variable {X:Cx}{F:Fx}{p pos:Pos}{e:Expr}{es:List Expr}{gs:SS→R (List D)}{k:Nat}
theorem iF (bx:BX X F k)(hg:Gl X "len")(hm:X.mg "len"=none)(ha:FA X F [e] gs)(he:starEach [e] X.env=(false,eval e X.env)::starEach [] X.env:=by rfl)(hpl:(backTo pos (starEach [] X.env)).any (·.1)=false:=by rfl):FE X F (.Call (.Name "len" p) [e] [] pos) (eCall dLen gs) :=
 fk (by have:=l9 (X:=X);rw[bx.K]at this;exact this) qY hg hm PySem.boot_len ha (he:=he) (hpl:=hpl)
theorem vN {e2:Expr}(bx:BX X F k)(hg:Gl X "max")(hm:X.mg "max"=none)(ha:FA X F [e,e2] gs)(he:starEach [e,e2] X.env=(false,eval e X.env)::starEach [e2] X.env:=by rfl)(hpl:(backTo pos (starEach [e2] X.env)).any (·.1)=false:=by rfl) :
  FE X F (.Call (.Name "max" p) [e,e2] [] pos) (eCall dMax2 gs):=fk (qI bx.calm) ot hg hm (by decide +kernel) ha (he:=he) (hpl:=hpl)
theorem jG (bx:BX X F k)(hg:Gl X "tuple")(hm:X.mg "tuple"=none)(ha:FA X F [e] gs)(he:starEach [e] X.env=(false,eval e X.env)::starEach [] X.env:=by rfl)(hpl:(backTo pos (starEach [] X.env)).any (·.1)=false:=by rfl):FE X F (.Call (.Name "tuple" p) [e] [] pos) (eCall dTuple gs) :=
 qX (by have:=kG (X:=X);rw[bx.K]at this;exact this) mY hg hm (by decide +kernel) ha (he:=he) (hpl:=hpl)
theorem ts (bx:BX X F k)(hg:Gl X "all")(hm:X.mg "all"=none)(ha:FA X F [e] gs)(he:starEach [e] X.env=(false,eval e X.env)::starEach [] X.env:=by rfl)(hpl:(backTo pos (starEach [] X.env)).any (·.1)=false:=by rfl):FE X F (.Call (.Name "all" p) [e] [] pos) (eCall dAll gs) :=
 fk (id := "all") (by have:=jF (X:=X) bx.calm;rw[bx.K]at this;exact this) qZ hg hm (by decide +kernel) ha (he:=he) (hpl:=hpl)
end
end FF
end
noncomputable section
namespace FF
open PySem PySem.Spec PySem.Calls PyProof.Rows PySem.W
def ExcAt (a C:Addr)(h:Heap):Prop:=∃ o,h.get? a=some o∧o.cls=.ref C∧∃ vs,o.data=.fields vs
structure ExcK (K:Frag)(C:Addr):Prop where
 ga:findIn K (.ref C) "__getattribute__"=some (some (.builtin "BaseException.__getattribute__"))
 gt:findIn K (.ref C) "__getattr__"=some none
 cl:findIn K (.ref C) "__class__"=some (some (.builtin "object.__class__"))
 be:subIn K (.ref C) (.type "BaseException")=some true
 ob:subIn K (.ref C) (.type "object")=some true
 ty:(clsIn K C).isSome=true
section
variable {prog:Program}{w:World}{A:Around}{E:Value→Shared→Prop}{h:Heap}{g:Array GenState}{d:Drawn}{t:Nat}{os:OsState}{a C:Addr}{K:Frag}{o:Obj}{vs:Array Value}
theorem ou {M:Model}(p:ExcAt a C h):Looks M h (typeOf (.ref a)) (.ref C):=by
 obtain⟨o,h1,h2,h3⟩:=p;exact h2 ▸ (Looks.ld h1).andThen .now
theorem oy {M:Model}(X:K.In h)(k:ExcK K C):Looks M h (isType (.ref C)) true:=by
 have z:=k.ty;unfold clsIn at z;split at z
 ·rename_i c' d' cd' sl' ho;intro A' Q' E' s' kk q;unfold isType loadHead;exact wpAny_bind (wpAny_loadPart (kk _ _ (X _ _ ho)) (wpAny_pure q))
 ·cases z
theorem kL {R:Result→Shared→Prop}(X:K.In h)(k:ExcK K C)(hx:h.get? a=some o)(hc:o.cls=.ref C)(hq:R (.ok (.ret (.ref C))) ⟨h,g,d,t,os⟩) :
  codeAny (model prog w) A (.call (.builtin "getset_descriptor.__get__") ⟨[.builtin "object.__class__",.ref a,.ref C],[]⟩) R ⟨h,g,d,t,os⟩:=by
 have hT5:(⟨h,g,d,t,os⟩:Shared).TypeIs (.builtin "object.__class__") "getset_descriptor" := F.typeOf_object_class;have L8:Looks (model prog w) h (isSubtype (.ref C) (.type (".".intercalate ("object.__class__".cutAt '.').dropLast))) true:=by
  rw[F.owner_object_class];exact looks_subIn X k.ob
 refine codeAny_call_builtin F.slot_gs_get.plain F.entry_gs_get (F.slot_gs_get.check _ _ _ _ _ _ _ _ hT5 (F.args_gs_get _ _ _) ?_)
 repeat (any_goals (first | assumption | (with_reducible refine wpAny_loadPart_at hx ?_;rw[hc]) | (with_reducible refine L8.at ?_) | wp_step))
 refine⟨Code.quiet_builtin _ (by decide +kernel),codeAny_builtin F.entry_object_class ?_⟩
 repeat (any_goals (first | assumption | (with_reducible refine wpAny_loadPart_at hx ?_;rw[hc]) | wp_step))
theorem je {tk:Tok}{Q:Fin→Shared→Prop}(X:K.In h)(k:ExcK K C)(hx:h.get? a=some o)(hc:o.cls=.ref C)(hq:Q (.done (.ret (.ref C))) ⟨h,g,d,t,os⟩) :
  wpAny (model prog w) A (Builtin.«object.__getattribute__» ⟨[.ref a,.str "__class__" tk],[]⟩) Q E ⟨h,g,d,t,os⟩:=by
 have hT5:(⟨h,g,d,t,os⟩:Shared).TypeIs (.builtin "object.__class__") "getset_descriptor" := F.typeOf_object_class;have f5:=F.typeOf_object_class;have f6:=F.slot_gs_get.lookup;have f7:=F.slot_gs_set.lookup;have L4:Looks (model prog w) h (typeLookup (.ref C) "__class__") _:=looks_findIn X k.cl
 repeat (any_goals (first | assumption | (with_reducible refine wpAny_loadPart_at hx ?_;rw[hc]) | (with_reducible refine L4.at ?_) | wp_step))
 refine kL X k hx hc ?_
 repeat (any_goals (first | assumption | wp_step))
theorem rb {M:Model}{nameV:Value}{Q:Unit→Shared→Prop}(X:K.In h)(k:ExcK K C)(hx:h.get? a=some o)(hc:o.cls=.ref C)(hq:Q () ⟨h,g,d,t,os⟩):wpAny M A (checkBuiltinCall "BaseException.__getattribute__" ⟨[.ref a,nameV],[]⟩) Q E ⟨h,g,d,t,os⟩:=by
 have hk:builtinKind "BaseException.__getattribute__"=some .slot:=by decide +kernel
 have hsplit:splitId "BaseException.__getattribute__"=some ("BaseException","__getattribute__"):=by decide +kernel
 have L8:Looks M h (isSubtype (.ref C) (.type "BaseException")) true:=looks_subIn X k.be;have ha:=F.args_bexc_ga (.ref a) nameV;simp only[checkBuiltinCall,hk,hsplit];refine wpAny_bind ?_
 ·unfold isInstance
  repeat (first | (with_reducible refine wpAny_loadPart_at hx ?_;rw[hc]) | (with_reducible refine L8.at ?_) | wp_step)
  exact hq
theorem jH {tk:Tok}{R:Result→Shared→Prop}(X:K.In h)(k:ExcK K C)(hx:h.get? a=some o)(hc:o.cls=.ref C)(hq:R (.ok (.ret (.ref C))) ⟨h,g,d,t,os⟩) :
  codeAny (model prog w) A (.call (.builtin "BaseException.__getattribute__") ⟨[.ref a,.str "__class__" tk],[]⟩) R ⟨h,g,d,t,os⟩ :=
 codeAny_call_builtin F.attr_ValueError.ga.plain F.entry_bexc_ga (rb X k hx hc (je X k hx hc hq))
theorem mm {tk:Tok}{Q:Value→Shared→Prop}(X:K.In h)(k:ExcK K C)(hx:h.get? a=some o)(hc:o.cls=.ref C)(hq:Q (.ref C) ⟨h,g,d,t,os⟩) :
  wpAny (model prog w) A (getAttrBy (.ref a) (.str "__class__" tk) false) Q E ⟨h,g,d,t,os⟩:=by
 have f3:=F.attr_ValueError.ga.bind (.ref a);have L1:Looks (model prog w) h (typeLookup (.ref C) "__getattribute__") _:=looks_findIn X k.ga;have L2:Looks (model prog w) h (typeLookup (.ref C) "__getattr__") _:=looks_findIn X k.gt;have hx2:(Value.builtin "BaseException.__getattribute__" == Value.builtin "object.__getattribute__")=false:=by decide +kernel
 have hx1:(onTheHeap (Value.ref C)&&Value.builtin "BaseException.__getattribute__" == Value.builtin "object.__getattribute__")=false:=by rw[hx2];rfl
 repeat (any_goals (first | assumption | (with_reducible refine wpAny_loadPart_at hx ?_;rw[hc]) | (with_reducible refine L1.at ?_) | (with_reducible refine L2.at ?_) | wp_step))
 refine jH X k hx hc ?_
 repeat (any_goals (first | assumption | wp_step))
theorem jI {Q:Option Value→Shared→Prop}(X:K.In h)(k:ExcK K C)(hx:h.get? a=some o)(hc:o.cls=.ref C)(hq:Q (some (.ref C)) ⟨h,g,d,t+1,os⟩) :
  wpAny (model prog w) A (getAttr? (.ref a) "__class__") Q E ⟨h,g,d,t,os⟩:=by
 unfold getAttr? getAttrBy?
 repeat (any_goals (first | assumption | with_reducible apply mm X k hx hc | wp_step))
end
end FF
end
noncomputable section
namespace FF
open PySem PySem.Spec PyProof.Rows L2
theorem tu {K:Frag}{a C:Addr}(k:ExcK K C):PySem.W.KitX K (.ref a) (.ref C) (ExcAt a C) where
 ty:=fun _ _ _ p=>ou p
 it:=fun _ _ X _=>oy X k
 ne:=fun h tp dd its n sl X htp=>by
  refine Bool.eq_false_iff.mpr fun q=>?_
  have e:C=tp:=Value.ref.inj (beq_iff_eq.mp q);subst e;have z:=k.ty;unfold clsIn at z;split at z
  ·rename_i c' d' cd' sl' ho;have z:=(X _ _ ho).symm.trans htp;cases z
  ·cases z
 ca:=fun {_ _ _ _ _ s} X p h=>by
  obtain⟨hh,g,d,t,os⟩:=s;obtain⟨o,h1,h2,_⟩:=p;exact jI X k h1 h2 h
def tyD (C:Nat→Addr):D→Value
 | .non=>.type "NoneType"
 | .bl _=>.type "bool"
 | .int _=>.type "int"
 | .str _=>.type "str"
 | .tup _=>.type "tuple"
 | .lst _=>.type "list"
 | .exc k=>.ref (C k)
 | .fn _=>.none
 | .tab _ _=>.none
 | .dic _ _=>.none
 | .ptr _=>.none
def isDct:D→Bool
 | .tab _ _=>true
 | .dic _ _=>true
 | .ptr _=>true
 | _=>false
def cV:V→Value
 | .ty n=>.type n
 | .ref a=>.ref a
 | _=>.none
theorem i0 {X:Cx}{C:Nat→Addr}:CallR X (.builtin "isinstance") (fun xs H Q=>∃ (Z:Hp) (d:D) (x y:V) (b:Bool),xs=[x,y]∧Same Z H∧Rep X.K C Z d x∧((∃ n,y=.ty n)∨∃ a,y=.ref a) ∧
  kitOne X.K (tyD C d) (cV y)=some b∧(∀ j,d=.exc j→ExcK X.K (C j))∧(∀ j,d≠.fn j)∧isDct d=false∧Q (.bl b) H):=by
 intro pins s σ H xs us Q I r h;obtain⟨Z,d,x,y,b,rfl,sm,rp,hy,e,he,hf,hdc,q⟩:=h;obtain⟨u,c,rfl,ru,rc⟩:=vals2 r;have hc:c=cV y:=by
  rcases hy with ⟨n,rfl⟩ | ⟨a,rfl⟩<;>exact rc
 subst hc;have fin:∀ tk,EP X pins σ Q (.bool b) { s with toks:=tk }:=fun tk=>⟨.bl b,H,I.tok tk,rfl,q⟩
 cases d with
 | non=>rw[Rep]at rp;subst rp;cases (show u=Value.none from ru);exact kia_one PySem.W.kitx_none I.kIn True.intro e (fun z=>nomatch z) fin
 | bl k=>rw[Rep]at rp;subst rp;cases (show u=Value.bool k from ru);exact kia_one PySem.W.kitx_bool I.kIn True.intro e (fun z=>nomatch z) fin
 | int i=>rw[Rep]at rp;subst rp;obtain⟨t,rfl⟩:=(show ∃ t,u=Value.int i t from ru);exact kia_one PySem.W.kitx_int I.kIn True.intro e (fun z=>nomatch z) fin
 | str i=>rw[Rep]at rp;subst rp;obtain⟨t,rfl⟩:=(show ∃ t,u=Value.str i t from ru);exact kia_one PySem.W.kitx_str I.kIn True.intro e (fun z=>nomatch z) fin
 | tup ds =>
  rw[Rep]at rp;obtain⟨a,vs,rfl,h1,h2⟩:=rp;cases (show u=Value.ref a from ru);obtain⟨its,_,⟨o,p1,p2,_⟩,_⟩:=I.tuple (h1.mono sm);exact kia_one PySem.W.kitx_tuple I.kIn ⟨o,p1,p2⟩ e (fun z=>nomatch z) fin
 | lst ds =>
  rw[Rep]at rp;obtain⟨a,vs,rfl,h1,h2⟩:=rp;cases (show u=Value.ref a from ru);obtain⟨its,_,⟨o,n,p1,p2,_⟩,_⟩:=I.list (sm.seq h1);exact kia_one PySem.W.kitx_list I.kIn ⟨o,p1,p2⟩ e (fun z=>nomatch z) fin
 | fn k=>exact absurd rfl (hf k)
 | tab _ _=>cases hdc
 | dic _ _=>cases hdc
 | ptr _=>cases hdc
 | exc k =>
  rw[Rep]at rp;obtain⟨a,rfl,h1⟩:=rp;cases (show u=Value.ref a from ru);obtain⟨o,h2,h3,h5⟩:=(show ObjOk X.prog X.w H s.heap a (excO C k a) from I.hok a _ (sm a _ h1)).1;exact kia_one (tu (he k rfl)) I.kIn ⟨o,h2,h3,h5⟩ e (fun z=>nomatch z) fin
def dIsA (q:D→Option Bool)(d:D):R D:=match q d with
 | some b=>.ok (.bl b)
 | none=>.stuck
def eIs (q:D→Option Bool)(g:SS→R D):SS→R D:=fun S=>(g S).bind (dIsA q)
structure IsA (K:Frag)(C:Nat→Addr)(y:V)(q:D→Option Bool):Prop where
 one:(∃ n,y=.ty n)∨∃ a,y=.ref a
 ans:∀ d b,q d=some b→kitOne K (tyD C d) (cV y)=some b
 exc:∀ j b,q (.exc j)=some b→ExcK K (C j)
 fn:∀ j,q (.fn j)=none
 dct:∀ d,isDct d=true→q d=none
section
variable {X:Cx}{F:Fx}{p pos:Pos}{e ec:Expr}{g:SS→R D}{k:Nat}{y:V}{q:D→Option Bool}
theorem yr (bx:BX X F k)(hq:IsA F.K F.C y q):∀ σ H Q,tE F (eIs q g) σ H Q→tCB (fun xs H Q=>∃ (Z:Hp) (d:D) (x y:V) (b:Bool),xs=[x,y]∧Same Z H∧Rep X.K F.C Z d x∧((∃ n,y=.ty n)∨∃ a,y=.ref a) ∧
  kitOne X.K (tyD F.C d) (cV y)=some b∧(∀ j,d=.exc j→ExcK X.K (F.C j))∧(∀ j,d≠.fn j)∧isDct d=false∧Q (.bl b) H) (tCons (tE F g) (tCons (tC y) tNil)) σ H Q:=fun σ H Q ⟨Z,S,ok,w⟩ =>
 av ok w fun d v H1 Z1 ok1 x1 rv w1=>by
  cases e:q d with
  | none=>unfold dIsA at w1;rw[e]at w1;exact w1.elim
  | some b =>
   unfold dIsA at w1;rw[e]at w1;refine⟨Z1,d,v,y,b,rfl,ok1.sub,by rw[bx.K];exact rv,hq.one,by rw[bx.K];exact hq.ans d b e,fun j ej=>?_,fun j ej=>(by rw[ej,hq.fn j]at e;cases e),(by cases hd:isDct d with | false=>rfl | true=>rw[hq.dct d hd]at e;cases e),WG.now (a:=D.bl b) w1 ok1.sub _ aU⟩;subst ej;rw[bx.K];exact hq.exc j b e
theorem ax (bx:BX X F k)(hg:Gl X "isinstance")(hm:X.mg "isinstance"=none)(hq:IsA F.K F.C y q)(ha:FE X F e g)(hc:PE X ec (tC y))(he:starEach [e,ec] X.env=(false,eval e X.env)::starEach [ec] X.env:=by rfl)
  (he2:starEach [ec] X.env=(false,eval ec X.env)::starEach [] X.env:=by rfl) (hpl:(backTo pos (starEach [ec] X.env)).any (·.1)=false:=by rfl) :
  FE X F (.Call (.Name "isinstance" p) [e,ec] [] pos) (eIs q g) :=
 (fg (id := "isinstance") i0 hg hm (by decide +kernel) (cu ha (cu hc gw he2) he) (he:=he) (hpl:=hpl)).weak (yr bx hq)
end
def qTup:D→Option Bool
 | .tup _=>some true
 | .exc _=>none
 | .fn _=>none
 | .tab _ _=>none
 | .dic _ _=>none
 | .ptr _=>none
 | _=>some false
def qInt:D→Option Bool
 | .int _=>some true
 | .bl _=>some true
 | .exc _=>none
 | .fn _=>none
 | .tab _ _=>none
 | .dic _ _=>none
 | .ptr _=>none
 | _=>some false
def qBool:D→Option Bool
 | .bl _=>some true
 | .exc _=>none
 | .fn _=>none
 | .tab _ _=>none
 | .dic _ _=>none
 | .ptr _=>none
 | _=>some false
def qStr:D→Option Bool
 | .str _=>some true
 | .exc _=>none
 | .fn _=>none
 | .tab _ _=>none
 | .dic _ _=>none
 | .ptr _=>none
 | _=>some false
theorem cT {K:Frag}{C:Nat→Addr}:IsA K C (.ty "tuple") qTup:=⟨.inl ⟨_,rfl⟩,fun d b e=>by cases d<;>cases e<;>with_unfolding_all rfl,fun j b e=>(nomatch e),fun _=>rfl,fun d h=>by cases d<;>first | rfl | cases h⟩
theorem vO {K:Frag}{C:Nat→Addr}:IsA K C (.ty "int") qInt:=⟨.inl ⟨_,rfl⟩,fun d b e=>by cases d<;>cases e<;>with_unfolding_all rfl,fun j b e=>(nomatch e),fun _=>rfl,fun d h=>by cases d<;>first | rfl | cases h⟩
theorem tz {K:Frag}{C:Nat→Addr}:IsA K C (.ty "bool") qBool:=⟨.inl ⟨_,rfl⟩,fun d b e=>by cases d<;>cases e<;>with_unfolding_all rfl,fun j b e=>(nomatch e),fun _=>rfl,fun d h=>by cases d<;>first | rfl | cases h⟩
theorem vP {K:Frag}{C:Nat→Addr}:IsA K C (.ty "str") qStr:=⟨.inl ⟨_,rfl⟩,fun d b e=>by cases d<;>cases e<;>with_unfolding_all rfl,fun j b e=>(nomatch e),fun _=>rfl,fun d h=>by cases d<;>first | rfl | cases h⟩
def sOwn (i:Nat)(gs:SS→R (List D)):SS→O:=fun S=>rO ((gs S).bind fun ds=>if ds.length≤16777216 then .ok (.nx (S.set i (some (.own ds)))) else .stuck)
def sApp (i:Nat)(gs:SS→R (List D)):SS→O:=fun S=>match S[i]? with
 | some (some (.own ds))=>rO ((gs S).bind fun es=>match es with
  | [d]=>if ds.length < 16777216 then .ok (.nx (S.set i (some (.own (ds++[d]))))) else .stuck
  | _=>.stuck)
 | _=>.stuck
def sExt (i:Nat)(gs:SS→R (List D)):SS→O:=fun S=>match S[i]? with
 | some (some (.own ds))=>rO ((gs S).bind fun es=>match es with
  | [.lst xs]=>if ds.length+xs.length≤16777216 then .ok (.nx (S.set i (some (.own (ds++xs))))) else .stuck
  | [.tup xs]=>if ds.length+xs.length≤16777216 then .ok (.nx (S.set i (some (.own (ds++xs))))) else .stuck
  | _=>.stuck)
 | _=>.stuck
def rExt (K:Frag):V→List V→Hp→VK→Prop:=fun x vs H Q=>∃ l b xs zs,x=.ref l∧vs=[.ref b]∧H l=some (.lst xs)∧(SqL K H b zs∨SqT K H b zs)∧xs.length+zs.length≤sizeLine∧Q .non (upd H l (.lst (xs++zs)))
theorem yt {X:Cx}:MtR X "list.extend" (rExt X.K):=by
 intro pins s σ H x vs v us Q I rx rv h;obtain⟨l,b,xs,zs,rfl,rfl,hH,hB,hz,q⟩:=h;cases rx;obtain⟨u,rfl,ru⟩:=rv.one;cases ru;obtain⟨z,its,n,r,hl,e⟩:=I.lstM hH;rcases hB with hB | hB
 ·obtain⟨its2,r2,⟨⟨c2,d2,dt2,sl2⟩,n2,e2,p2,p3,p4⟩,z2⟩:=I.list hB;simp only at p2 p3 p4;subst p2 p3 p4;have hl2:=r2.length;have hsz:its.toArray.size+its2.toArray.size≤sizeLine:=by rw[List.size_toArray,List.size_toArray];omega
  refine call_meets F.slot_list_extend ⟨_,e,rfl⟩ F.entry_list_extend (F.args_list_extend_2 _ _) (qR l b its.toArray its2.toArray n n2 _ _ hsz) ⟨e,e2,?_⟩;refine⟨.non,_,I.lset (its':=its++its2) hH e (by simp) (r.append r2) ?_,rfl,q⟩;rw[List.length_append];omega
 ·obtain⟨its2,r2,⟨⟨c2,d2,dt2,sl2⟩,e2,p2,n2,p3⟩,z2⟩:=I.tuple hB;simp only at p2 p3;subst p2 p3;have hl2:=r2.length;have hsz:its.toArray.size+its2.toArray.size≤sizeLine:=by rw[List.size_toArray,List.size_toArray];omega
  refine call_meets F.slot_list_extend ⟨_,e,rfl⟩ F.entry_list_extend (F.args_list_extend_2 _ _) (qS l b its.toArray its2.toArray n n2 _ _ hsz) ⟨e,e2,?_⟩;refine⟨.non,_,I.lset (its':=its++its2) hH e (by simp) (r.append r2) ?_,rfl,q⟩;rw[List.length_append];omega
section
variable {X:Cx}{F:Fx}{e:Expr}{es:List Expr}{gs:SS→R (List D)}{pos p0 apos cpos lpos:Pos}{x:Str}
theorem mn (i:Nat){pos':Pos}(hN:X.N.Nodup)(h:FA X F es gs)(hi:X.N[i]?=some x:=by rfl)(hx:Loc X.env.scope x:=by first | exact Or.inl rfl | exact Or.inr rfl)
  (hs:swapsWith (.List es lpos) (some (.Name x pos')) pos.line X.env=pure false:=by rfl) (hf:X.fn x=true∨X.env.scope.names.lookup x=some .local:=by first | exact .inl rfl | exact .inr rfl):FS X F (.Assign [.Name x pos'] (.List es lpos) pos) (sOwn i gs) :=
 (jt hN hi hx (n3 h) hs hf).weak fun D σ H ⟨Z,S,ok,w⟩=>bj ok (WO.wg ok w) fun ds vs H1 Z1 ok1 x1 rs w1=>by
  split at w1
  ·rename_i hl;refine⟨by rw[← rs.length,sizeLine_eq];exact hl,fun p hp=>?_⟩;have w2:=WG.now w1 ok1.sub;exact w2 _ _ Z1 (Same.refl _) (ok1.newOwn hp rs)
  ·exact w1.elim
theorem fJ (i:Nat)(bK:X.K=F.K)(ha:FA X F [e] gs)(hi:X.N[i]?=some x:=by rfl)(hv:Vis X.env.scope x:=by first | exact Or.inl rfl | exact Or.inr (Or.inl rfl) | exact Or.inr (Or.inr rfl))(hd:(x==("__debug__":Str))=false:=by decide)
  (hcd:(x==("__classdict__":Str))=false:=by decide)
  (hbase:attributeBase (.Name x p0) "extend" X.env (eval (.Name x p0) X.env)=eval (.Name x p0) X.env:=by rfl)
  (hfew:((backTo cpos (starEach [e] X.env)).all (fun x=>!x.1)&&(backToKw cpos (keywordEach [] X.env)).all (fun x=>x.1.isSome)
   && decide ([e].length+([]:List Keyword).length+(if ([]:List Keyword).isEmpty then 0 else 1) < 30))=true:=by rfl)
  (hline:(apos.endLine==cpos.line)=true:=by rfl) (hs:starEach [e] X.env=(false,eval e X.env)::starEach [] X.env:=by rfl) (hplain:(backTo cpos (starEach [] X.env)).any (·.1)=false:=by rfl)
  (hsw:swapsWith (.Call (.Attribute (.Name x p0) "extend" apos) [e] [] cpos) none pos.line X.env=pure false:=by rfl) :
  FS X F (.Expr (.Call (.Attribute (.Name x p0) "extend" apos) [e] [] cpos) pos) (sExt i gs) :=
 (gJ (lw PySem.F.plainAttrs_list PySem.F.slot_list_extend (by kernel_rfl) (yt (X:=X)) (fe hi hv hd hcd) ha hbase hfew hline hs hplain) hsw).weak fun D σ H ⟨Z,S,ok,w⟩=>by
  unfold sExt at w;split at w
  ·rename_i ds e0;obtain⟨a,vs,e1,e2,e3,e4,r⟩:=ok.own i ds e0;refine⟨.ref a,e1,.inl ⟨rfl,vs,SqL.of e2⟩,bj ok (WO.wg ok w) fun es' us H1 Z1 ok1 x1 rs w1=>?_⟩;split at w1
   ·rename_i xs;split at w1
    ·rename_i hl;obtain⟨y,rfl,ry⟩:=bI rs;rw[Rep]at ry;obtain⟨b,zs,rfl,h1,h2⟩:=ry;have w2:=WG.now w1 ok1.sub;refine⟨a,b,vs,zs,rfl,rfl,x1.same _ _ e2,.inl (by rw[bK];exact ok1.sub.seq h1),by rw[← r.length,← h2.length,sizeLine_eq];exact hl,?_⟩;exact w2 σ _ Z1 (Same.refl _) (ok1.write e0 e1 ((r.mono x1.z).append h2))
    ·exact w1.elim
   ·rename_i xs;split at w1
    ·rename_i hl;obtain⟨y,rfl,ry⟩:=bI rs;rw[Rep]at ry;obtain⟨b,zs,rfl,h1,h2⟩:=ry;have w2:=WG.now w1 ok1.sub;refine⟨a,b,vs,zs,rfl,rfl,x1.same _ _ e2,.inr (by rw[bK];exact h1.mono ok1.sub),by rw[← r.length,← h2.length,sizeLine_eq];exact hl,?_⟩;exact w2 σ _ Z1 (Same.refl _) (ok1.write e0 e1 ((r.mono x1.z).append h2))
    ·exact w1.elim
   ·exact w1.elim
  ·exact w.elim
end
def dCount (xs es:List D):R D:=match es with
 | [.bl k]=>match boolsD xs with
  | some bs=>.ok (.int (bs.countP (· == k):Nat))
  | none=>.stuck
 | _=>.stuck
def dIndex (xs es:List D):R D:=match es with
 | [.bl k]=>match boolsD xs with
  | some bs=>if bs.idxOf k < bs.length then .ok (.int (bs.idxOf k:Nat)) else .stuck
  | none=>.stuck
 | _=>.stuck
def eMethL (f:List D→List D→R D)(g:SS→R D)(gs:SS→R (List D)):SS→R D:=fun S=>(g S).bind fun d=>match d with
 | .lst xs=>(gs S).bind fun es=>f xs es
 | _=>.stuck
def rCountB (K:Frag):V→List V→Hp→VK→Prop:=fun x vs H Q=>∃ (l:Addr) (bs:List Bool) (k:Bool),x=.ref l∧vs=[.bl k]∧SqL K H l (bs.map V.bl)∧Q (.int (bs.countP (· == k):Nat)) H
def rIndexB (K:Frag):V→List V→Hp→VK→Prop:=fun x vs H Q=>∃ (l:Addr) (bs:List Bool) (k:Bool),x=.ref l∧vs=[.bl k]∧SqL K H l (bs.map V.bl)∧bs.idxOf k < bs.length∧Q (.int (bs.idxOf k:Nat)) H
theorem dZ {X:Cx}{pins:List (Addr×Obj)}{σ:St}{H:Hp}{s:Shared}(I:Inv X pins σ H s){A:Around}(hu:A.units < cLine)(b k:Bool):SeqAt.EqAt A s (.bool b) (.bool k) (b==k) :=
 iA (K:=X.K) (C:=fun _=>0) (Z:=fun _=>none) rfl I (fun _ _ e=>nomatch e) 0 A (.bl b) (.bl k) (.bl b) (.bl k) _ _ rfl rfl aU aU rfl rfl (by omega)
def isB (k:Bool):Value→Bool
 | .bool b=>b==k
 | _=>false
theorem tD {X:Cx}{k:Nat}(hr:Room k X.A):MtR X "list.count" (rCountB X.K):=by
 intro pins s σ H x vs v us Q I rx rv h;obtain⟨l,bs,k,rfl,rfl,hH,q⟩:=h;cases rx;obtain⟨u,rfl,ru⟩:=rv.one;cases ru;obtain⟨its,r,⟨⟨c2,d2,dt2,sl2⟩,n2,e2,p2,p3,p4⟩,z2⟩:=I.list hH;have e:=bR r;subst e;simp only at p2 p3 p4;subst p2 p3 p4;refine call_meets F.slot_list_count ⟨_,e2,rfl⟩ F.entry_list_count (F.args_list_count_2 _ _) (SeqAt.list_countAt l _ n2 _ _ (.bool k) (isB k)) ⟨e2,fun y hy=>?_,?_⟩
 ·have hy':y∈bs.map Value.bool:=by simpa using hy
  obtain⟨b,_,rfl⟩:=List.mem_map.mp hy';exact dZ I (by have:=hr.un;show X.A.units+1 < cLine;omega) b k
 ·have hc:((bs.map Value.bool).toArray.toList.countP (isB k))=bs.countP (· == k):=by
   show (bs.map Value.bool).countP (isB k)=_;rw[List.countP_map];rfl
  rw[hc];exact⟨.int _,H,I.tok _,⟨_,rfl⟩,q⟩
theorem tF {X:Cx}{k:Nat}(hr:Room k X.A):MtR X "list.index" (rIndexB X.K):=by
 intro pins s σ H x vs v us Q I rx rv h;obtain⟨l,bs,k,rfl,rfl,hH,hj,q⟩:=h;cases rx;obtain⟨u,rfl,ru⟩:=rv.one;cases ru;obtain⟨its,r,⟨⟨c2,d2,dt2,sl2⟩,n2,e2,p2,p3,p4⟩,z2⟩:=I.list hH;have e:=bR r;subst e;simp only at p2 p3 p4;subst p2 p3 p4;rw[List.length_map,sizeLine_eq]at z2;have hsz:bs.idxOf k < (bs.map Value.bool).toArray.size:=by rw[List.size_toArray,List.length_map];exact hj
 have hat:∀ m (hm:m < (bs.map Value.bool).toArray.size) (hm':m < bs.length),isB k (bs.map Value.bool).toArray[m]=(bs[m]==k):=fun m hm hm'=>by simp[isB]
 refine call_meets F.slot_list_index ⟨_,e2,rfl⟩ F.entry_list_index (F.args_list_index_2 _ _) (SeqAt.list_indexAt l _ n2 _ _ (.bool k) (isB k) (bs.idxOf k) hsz (by omega) ?_ ?_) ⟨e2,fun y hy=>?_,⟨.int _,H,I.tok _,⟨_,rfl⟩,q⟩⟩
 ·rw[hat _ _ hj];exact List.findIdx_getElem (w:=hj)
 ·intro m hm hlt;have hm':m < bs.length:=by omega
  rw[hat _ _ hm'];exact Bool.eq_false_iff.mpr (by simpa using List.not_of_lt_findIdx hlt)
 ·have hy':y∈bs.map Value.bool:=by simpa using hy
  obtain⟨b,_,rfl⟩:=List.mem_map.mp hy';exact dZ I (by have:=hr.un;show X.A.units+1 < cLine;omega) b k
section
variable {X:Cx}{F:Fx}{o e:Expr}{g:SS→R D}{gs:SS→R (List D)}{apos cpos:Pos}{k:Nat}
theorem tG {K:Frag}{C:Nat→Addr}{Z:Hp}{k:Bool}{vs:List V}(r:Reps K C Z [.bl k] vs):vs=[.bl k]:=by
 obtain⟨v,rfl,h⟩:=bI r;rw[Rep]at h;rw[h]
def MethD (F:Fx)(r:V→List V→Hp→VK→Prop)(f:List D→List D→R D):Prop:=∀ (H Z:Hp) (a:Addr) (vs:List V) (xs:List D) (us:List V) (es:List D) (Q:VK),Same Z H→SqL F.K H a vs→Reps F.K F.C Z xs vs→Reps F.K F.C Z es us →
 WG F H Z (f xs es) (fun d H' Z'=>∀ v,Rep F.K F.C Z' d v→Q v H')→r (.ref a) us H Q
theorem i4:MethD F (rCountB F.K) dCount:=by
 intro H Z a vs xs us es Q s h1 h2 rs w;unfold dCount at w;split at w
 ·rename_i k;split at w
  ·rename_i bs eb;have e3:=dY h2 eb;subst e3;exact⟨a,bs,k,rfl,tG rs,h1,WG.now w s _ aS⟩
  ·exact w.elim
 ·exact w.elim
theorem i5:MethD F (rIndexB F.K) dIndex:=by
 intro H Z a vs xs us es Q s h1 h2 rs w;unfold dIndex at w;split at w
 ·rename_i k;split at w
  ·rename_i bs eb;have e3:=dY h2 eb;subst e3;split at w
   ·rename_i hl;exact⟨a,bs,k,rfl,tG rs,h1,hl,WG.now w s _ aS⟩
   ·exact w.elim
  ·exact w.elim
 ·exact w.elim
theorem fK {r:V→List V→Hp→VK→Prop}{f:List D→List D→R D}(hd:MethD F r f):∀ σ H Q,tE F (eMethL f g gs) σ H Q→tBM F.K "list" r (tE F g) (tAl F gs) σ H Q:=fun σ H Q ⟨Z,S,ok,w⟩=>av ok w fun d v H1 Z1 ok1 x1 rv w1=>by
 cases d with
 | lst xs =>
  rw[Rep]at rv;obtain⟨a,vs,rfl,h1,h2⟩:=rv;exact⟨.inl ⟨rfl,vs,ok1.sub.seq h1⟩,bj ok1 w1 fun es us H2 Z2 ok2 x2 rs w2=>hd H2 Z2 a vs xs us es Q ok2.sub (ok2.sub.seq (x2.z.seq h1)) (h2.mono x2.z) rs w2⟩
 | _=>exact w1.elim
theorem tH (bx:BX X F k)(ho:FE X F o g)(ha:FA X F [e] gs)
  (hbase:attributeBase o "count" X.env (eval o X.env)=eval o X.env:=by rfl)
  (hfew:((backTo cpos (starEach [e] X.env)).all (fun x=>!x.1)&&(backToKw cpos (keywordEach [] X.env)).all (fun x=>x.1.isSome)
   && decide ([e].length+([]:List Keyword).length+(if ([]:List Keyword).isEmpty then 0 else 1) < 30))=true:=by rfl)
  (hline:(apos.endLine==cpos.line)=true:=by rfl) (hs:starEach [e] X.env=(false,eval e X.env)::starEach [] X.env:=by rfl) (hplain:(backTo cpos (starEach [] X.env)).any (·.1)=false:=by rfl) :
  FE X F (.Call (.Attribute o "count" apos) [e] [] cpos) (eMethL dCount g gs) :=
 (lw PySem.F.plainAttrs_list PySem.F.slot_list_count (by kernel_rfl) (tD bx.room) ho ha hbase hfew hline hs hplain).weak (by rw[bx.K];exact fK i4)
theorem re (bx:BX X F k)(ho:FE X F o g)(ha:FA X F [e] gs)
  (hbase:attributeBase o "index" X.env (eval o X.env)=eval o X.env:=by rfl)
  (hfew:((backTo cpos (starEach [e] X.env)).all (fun x=>!x.1)&&(backToKw cpos (keywordEach [] X.env)).all (fun x=>x.1.isSome)
   && decide ([e].length+([]:List Keyword).length+(if ([]:List Keyword).isEmpty then 0 else 1) < 30))=true:=by rfl)
  (hline:(apos.endLine==cpos.line)=true:=by rfl) (hs:starEach [e] X.env=(false,eval e X.env)::starEach [] X.env:=by rfl) (hplain:(backTo cpos (starEach [] X.env)).any (·.1)=false:=by rfl) :
  FE X F (.Call (.Attribute o "index" apos) [e] [] cpos) (eMethL dIndex g gs) :=
 (lw PySem.F.plainAttrs_list PySem.F.slot_list_index (by kernel_rfl) (tF bx.room) ho ha hbase hfew hline hs hplain).weak (by rw[bx.K];exact fK i5)
end
def MadeX (X:Cx)(F:Fx):Prop:=∀ (pins:List (Addr×Obj)) (σ:St) (H:Hp) (s:Shared) (h1:Heap) (ea C:Addr) (args:List Value),Inv X pins σ H s→Heap.MadeExcOf s.heap h1 ea (.ref C) args→F.E (.ref C) none H→X.xe (.ref ea) { s with heap:=h1 }
def bmVE:List Value:=[.type "ValueError",.type "Exception",.type "BaseException",.type "object"]
theorem pS {K:Frag}{h:Heap}{C:Addr}{bmB:List Value}{newId:String}(X:K.In h)(q:excIn K C bmB newId=true) :
  ∃ (bm:List Value) (N:Addr) (nm qn:Str) (bs:List Value) (hdct:Bool) (sn:List Str) (sub:List Value) (ab:Bool) (col:Option Bool) (dd:Option Addr) (k0 k1 k2 k3 k5:Option Value) (mN:Str→Option Value),
   h.get? C=some (excClassObj nm qn C N bs bm hdct sn sub ab col dd k0 k1 k2 k3 k5 newId)∧h.Ns N mN∧mN "__init__"=none∧OwnTail h bmB bm:=by
 unfold excIn at q;split at q
 ·rename_i dd cd sl ho;split at q
  ·rename_i C' bm k0 k1 k2 k3 n k5 hm hs;simp only[Bool.and_eq_true,beq_iff_eq,Bool.not_eq_true']at q;obtain⟨⟨⟨⟨⟨rfl,rfl⟩,hdel⟩,ht⟩,hok⟩,hni⟩:=q;obtain⟨nm,bs,mro,ns,qn,hd,sn,sub,ab,col,del⟩:=cd
   dsimp only at hm hdel hok hni
   subst hm hdel;have hsl:sl = #[k0,k1,k2,k3,some (.builtin n),k5]:=by
    obtain⟨l⟩:=sl;simp only at hs;rw[hs]
   subst hsl;exact⟨bm,ns,nm,qn,bs,hd,sn,sub,ab,col,dd,k0,k1,k2,k3,k5,_,X _ _ ho,.of_isNs (PySem.W.isNs_of_in X hok),PySem.W.nsMap_none_of_in X hok hni,PySem.W.tail_of_in X ht⟩
  ·cases q
 ·cases q
def sRaise (j:Nat)(gs:SS→R (List D)):SS→O:=fun S=>rO ((gs S).bind fun ds=>if ds.length≤1000 then .ok (.er j) else .stuck)
section
variable {X:Cx}{F:Fx}{e:Expr}{es:List Expr}{gs:SS→R (List D)}{pos np cpos:Pos}{x:Str}{k j:Nat}
theorem ci (j:Nat)(bx:BX X F k)(hmade:MadeX X F)(hg:Gl X x)(hm:X.mg x=some (.ref (F.C j)))(q:excIn F.K (F.C j) bmVE "ValueError.__new__"=true)(ha:FA X F (e::es) gs)(hd:(x==("__debug__":Str))=false:=by decide)
  (he:starEach (e::es) X.env=(false,eval e X.env)::starEach es X.env:=by rfl) (hpl:(backTo cpos (starEach es X.env)).any (·.1)=false:=by rfl) :
  FS X F (.Raise (some (.Call (.Name x np) (e::es) [] cpos)) none pos) (sRaise j gs):=by
 intro pins s σ H D I h;obtain⟨Z,S,ok,w⟩:=h;have q':=q;rw[← bx.K]at q';obtain⟨bm,N,nm,qn,bs,hdct,sn,sub,ab,col,dd,k0,k1,k2,k3,k5,mN,hC0,hN0,hni0,T0⟩:=pS (bmB:=bmVE) I.ok.mod.kin q';have hb:∀ {pl σ' H' s'},Inv X pl σ' H' s'→∀ b o,X.base.get? b=some o→s'.heap.get? b=some o:=fun I'=>I'.bk
 refine wpAny_Raise_call_subU (C:=F.C j) (nm:=nm) (q:=qn) (N:=N) (bs:=bs) (bm:=bm) (hdct:=hdct) (sn:=sn) (sub:=sub) (ab:=ab) (col:=col) (dd:=dd) (k0:=k0) (k1:=k1) (k2:=k2) (k3:=k3) (k5:=k5) PySem.F.excBase_ValueError (by decide) PySem.F.excBase_ValueError (T0.hasType PySem.F.excBase_ValueError.hasBase) (I.ok.hd bx.calm) (by rw[he];show (false||(backTo cpos (starEach es X.env)).any (·.1))=false;rw[hpl];rfl) hni0 (cR I hg hm ⟨rfl,?_⟩ hd);have hA:=ha cpos pins s σ H (fun vs H1=>vs.length≤1000∧F.E (.ref (F.C j)) none H1) I (bj ok (WO.wg ok w) fun ds vs H1 Z1 ok1 x1 rs w1=>by
  split at w1
  ·rename_i hl;exact⟨by rw[← rs.length];exact hl,WG.now w1 ok1.sub H1 ok1.ex.same⟩
  ·exact w1.elim)
 rw[he]at hA ⊢;refine Calls.evalArgs_plain (thn hA fun us s2 ⟨vs,H2,I2,r2,q2⟩=>⟨rfl,?_,hb I2 _ _ hC0,hN0.keeps (hb I2),T0.keeps (hb I2),fun h' e hm'=>hmade pins σ H2 s2 h' e _ us I2 hm' q2.2⟩);rw[← r2.length,sizeLine_eq];omega
end
section
variable {X:Cx}{pins:List (Addr×Obj)}{σ:St}{H:Hp}{s:Shared}
theorem jJ (I:Inv X pins σ H s){A:Around}{calm:Bool}{pn pins':List (Addr×Obj)}{xe:Value→Shared→Prop}(hf:A.frames=X.A.frames)(hc:calm=true→A.handled=none)(hp:∀ p∈pn++pins',p∈X.pn++pins) :
  Inv { X with A:=A,calm:=calm,pn:=pn,xe:=xe } pins' σ H s :=
 ⟨⟨I.ok.mod,I.ok.kind,I.ok.glob,I.ok.blt,I.ok.above,I.ok.inj,I.ok.has,I.ok.cab,hc,hf.trans I.ok.frames,I.ok.stk,I.ok.exf,I.ok.bs,I.ok.bsz,I.ok.noex,I.ok.exfs,I.ok.funs,I.ok.frf⟩,I.os,I.bare,I.base,I.loc,I.cell,I.free,I.freeC,
  fun p hpp=>I.pin p (hp p hpp),I.hok,I.len⟩
theorem rg (I:Inv X pins σ H s){a:Addr}{o:HO}(hn:H a=none)(h0:X.s₀.heap.get? a=none)(hl:a≠X.env.locals)(hc:∀ x c,X.env.cells.lookup x=some c→c≠a)(hp:∀ p∈X.pn++pins,p.1≠a)
  (ho:ObjOk X.prog X.w (upd H a o) s.heap a o):Inv X pins σ (upd H a o) s:=by
 have nn:∀ {b:Addr} {u:HO},H b=some u→upd H a o b=some u:=fun {b u} e=>by rw[ag (aG e hn)];exact e
 refine⟨I.ok,I.os,I.bare,⟨I.base.keep,I.base.slot,fun b ob e n hx=>?_,I.base.there,fun b xs e=>nn (I.base.tups b xs e),fun b o' u e=>nn (I.base.frzs b o' u e),fun b ps e=>?_⟩,I.loc,I.cell,?_,fun x c e=>?_,fun p h=>?_,fun b u e=>?_,I.len⟩
 ·rw[ag (by rintro rfl;rw[h0]at e;cases e)];exact I.base.free b ob e n hx
 ·obtain⟨more,q⟩:=I.base.tbls b ps e;exact⟨more,nn q⟩
 ·rw[ag (Ne.symm hl)];exact I.free
 ·rw[ag (hc x c e)];exact I.freeC x c e
 ·obtain⟨a1,a2,a3⟩:=I.pin p h;exact⟨a1,by rw[ag (hp p h)];exact a2,a3⟩
 ·by_cases q:b=a
  ·subst q;rw[ai]at e;cases e;exact ho
  ·rw[ag q]at e;exact(I.hok b u e).stay (fun _ _ _ z=>z) (fun c z=>nn z) fun c xs z=>nn z
theorem rh {M:Model}{A:Around}{E:Value→Shared→Prop}{i:Nat}{n:Str}{v:V}{Q:Unit→Shared→Prop}(I:Inv X pins σ H s)(hN:X.N.Nodup)(hi:X.N[i]?=some n)(hk:X.env.kindOf n=some .local)(hs:X.env.scope.names.lookup n=some .local)(hv:σ[i]?=some (some v))
  (h:∀ s',Inv X pins (σ.set i none) H s'→Q () s'):wpAny M A (unbindName X.env n) Q E s:=by
 obtain⟨m,hn,hl⟩:=id I.loc;have hcls:(X.env.scope.kind==.class||(X.env.scope.kind==.module&&X.env.locals != X.env.globals))=false:=by rw[I.ok.kind];rfl
 obtain⟨u,ru,lk⟩:=hl i n v hi hv (.inl hs);have hm:m n=some u:=by
  rcases lk with ⟨_,e⟩ | ⟨z,_⟩
  ·exact e
  ·rw[hk]at z;rcases z with z | z<;>cases z
 have cne:=I.cne;have hiσ:i < σ.length:=(List.getElem?_eq_some_iff.mp hv).1;refine wpAny_unbindName_local hk hn hm hcls fun h' u' hn' hs'=>?_
 obtain⟨oL,_,_,hoL,_⟩:=id hn;have nl:∀ b o,X.s₀.heap.get? b=some o→b≠X.env.locals:=fun b o e=>Nat.ne_of_lt (Nat.lt_of_lt_of_le (Heap.lt_size e) I.ok.above)
 refine h _ ⟨I.ok,I.os,I.bare,⟨fun b o e nn hb hx=>(hs'.2 b (nl b o e)).trans (I.base.keep b o e nn hb hx),fun b o e nn hb hx=>?_,I.base.free,fun b o e hx=>?_,I.base.tups,I.base.frzs,I.base.tbls⟩,⟨_,hn',fun j y v' e1 e2 e3=>?_⟩,fun y c e=>?_,I.free,I.freeC,fun p hp=>?_,fun b ob e=>?_,by simpa using I.len⟩
 ·obtain⟨sl,e1⟩:=I.base.slot b o e nn hb hx;exact⟨sl,(hs'.2 b (nl b o e)).trans e1⟩
 ·obtain⟨o',e1⟩:=I.base.there b o e hx;exact⟨o',(hs'.2 b (nl b o e)).trans e1⟩
 ·have hj:j≠i:=fun q=>by
   subst q;rw[List.getElem?_set_self hiσ]at e2;cases e2
  rw[List.getElem?_set_ne (Ne.symm hj)]at e2;obtain⟨u2,r2,q⟩:=hl j y v' e1 e2 e3;refine⟨u2,r2,?_⟩;rcases q with ⟨k,e⟩ | ⟨k,c,e,z⟩
  ·refine .inl ⟨k,?_⟩;have:y≠n:=fun e=>hj (js hN e1 (e ▸ hi))
   simp[this,e]
  ·exact .inr ⟨k,c,e,z.sameBut hs' (cne y c e)⟩
 ·obtain⟨w',z⟩:=I.cell y c e;exact⟨w',z.sameBut hs' (cne y c e)⟩
 ·obtain⟨e,nn,ne,nf,d⟩:=I.pin p hp;exact⟨(hs'.2 p.1 ne).trans e,nn,ne,nf,d⟩
 ·refine(I.hok b ob e).stay (fun c w' hc q=>(hs'.2 c ?_).trans q) (fun _ q=>q) fun _ _ q=>q
  rintro rfl
  rcases hc with z | z
  ·subst z;rw[I.free]at e;cases e
  ·rw[I.free]at z;cases z
end
structure Takes (K:Frag)(C:Nat→Addr)(C0:Addr)(q:Nat→Bool):Prop where
 exc:excIn K C0 bmVE "ValueError.__new__"=true
 sub:∀ k,q k=true→subIn K (.ref (C k)) (.ref C0)=some true
theorem mZ {K:Frag}{C:Nat→Addr}{C0:Addr}{q:Nat→Bool}(T:Takes K C C0 q){M:Model}{A:Around}{E:Value→Shared→Prop}{h:Heap}{g:Array GenState}{d:Drawn}{t:Nat}{os:OsState}{e:Addr}{oe:Obj}{k:Nat}{Q:Bool→Shared→Prop}
  (X:K.In h) (he:h.get? e=some oe) (hc:oe.cls=.ref (C k)) (hk:q k=true) (hq:Q true ⟨h,g,d,t,os⟩):wpAny M A (excMatches (.ref e) (.ref C0)) Q E ⟨h,g,d,t,os⟩:=by
 obtain⟨bm,N,nm,qn,bs,hdct,sn,sub,ab,col,dd,k0,k1,k2,k3,k5,mN,hC,hN,hni,TL⟩:=pS X T.exc;have hcB:(Value.ref C0::bm).contains (.type "BaseException")=true:=by rw[List.contains_cons,TL.hasType (show bmVE.contains (.type "BaseException")=true by decide),Bool.or_true]
 have L3:=PySem.W.looks_subIn (M:=M) X (T.sub k hk);have f:=tc_notTuple;unfold excMatches
 repeat (first | (with_reducible refine wpAny_loadPart_at he ?_;rw[hc]) | with_reducible refine wpAny_loadPart_at hC ?_ | (with_reducible refine wpAny_isSubtype_exc hC ?_;rw[hcB]) | (with_reducible refine L3.at ?_) | wp_step)
 exact hq
abbrev tryX (X:Cx)(pn:List (Addr×Obj))(xe:Value→Shared→Prop):Cx:={ X with A:=X.A,calm:=X.calm,pn:=pn,xe:=xe }
section
variable {F:Fx}{H Z:Hp}{S:SS}{σ:St}
end
section
variable {X:Cx}{F:Fx}{body:List Stmt}{g:SS→O}{c n y:Str}{np np2 kp apos hpos pos:Pos}{k:Nat}{q:Nat→Bool}{C0:Addr}
end
def eNeg (g:SS→R D):SS→R D:=fun S=>(g S).bind fun d=>match d with
 | .int i=>.ok (.int (-i))
 | _=>.stuck
section
variable {X:Cx}{F:Fx}{a:Expr}{g:SS→R D}{pos:Pos}{x:Str}{i:Int}
theorem yu (h:FE X F a g):FE X F (.UnaryOp .USub a pos) (eNeg g):=(zd xY h).weak fun σ H Q ⟨Z,S,ok,w⟩=>av ok w fun d v H1 Z1 ok1 x1 rv w1=>by
 cases d with
 | int i=>rw[Rep]at rv;exact⟨i,rv,WG.now w1 ok1.sub _ aS⟩
 | _=>exact w1.elim
theorem fL (h:∃ t,X.mg x=some (.int i t))(hg:Gl X x)(hd:(x==("__debug__":Str))=false:=by decide):FE X F (.Name x pos) (eC (.int i)):=by
 obtain⟨t,e⟩:=h;exact cS (az (v:=.int i) hg e ⟨t,rfl⟩ hd) fun _=>aS
end
section
variable {X:Cx}{F:Fx}{e:Expr}{es:List Expr}{g:SS→R D}{gs:SS→R (List D)}
end
end FF
end
noncomputable section
namespace FF
open PySem L2
def tupI (l:List Int):D:=.tup (l.map .int)
def dSw (d:D)(lo hi:Option Int):R D:=match d with
 | .lst xs=>.ok (.lst (cutD xs lo hi))
 | .tup xs=>.ok (.tup (cutD xs lo hi))
 | _=>.stuck
def eSw (g:SS→R D)(l h:SS→R (Option Int)):SS→R D:=fun S=>(g S).bind fun d=>(l S).bind fun lo=>(h S).bind fun hi=>dSw d lo hi
def intsOf:List D→Option (List Int)
 | []=>some []
 | .int i::r=>(intsOf r).map (i::·)
 | _::_=>none
end FF
end
noncomputable section
namespace FF
open PySem PySem.Spec PyProof.Rows L2
def TupK (K:Frag)(a:Addr)(l:List Int):Prop :=
 ∃ (o:Obj) (its:Array Value) (n:Nat),K.lookup a=some o∧o.cls=.type "tuple" ∧ o.dict=none∧o.data=.seq its n∧its.size≤sizeLine∧Vals (l.map V.int) its.toList
theorem lG {K:Frag}{C:Nat→Addr}{Z:Hp}:∀ ns:List Int,Reps K C Z (ns.map .int) (ns.map V.int)
 | []=>by rw[List.map_nil,List.map_nil,Reps]
 | i::ns=>by rw[List.map_cons,List.map_cons,Reps];exact⟨_,_,rfl,aS,lG ns⟩
theorem pT {X:Cx}{F:Fx}{x:Str}{pos:Pos}{l:List Int}(h:∃ a,X.mg x=some (.ref a)∧TupK F.K a l)(hg:Gl X x)(hd:(x==("__debug__":Str))=false:=by decide):FE X F (.Name x pos) (eC (tupI l)):=by
 obtain⟨a,e,o,its,n,h1,h2,h2d,h3,h4,h5⟩:=h;exact cS (az (v:=.ref a) hg e rfl hd) fun Z=>by
  unfold tupI;rw[Rep];exact⟨a,_,rfl,.inr ⟨o,its,n,h1,h2,h2d,h3,h4,h5⟩,lG l⟩
section
variable {X:Cx}
end
section
variable {X:Cx}{F:Fx}{p pos:Pos}{e:Expr}{gs:SS→R (List D)}{k:Nat}
end
section
variable {X:Cx}{F:Fx}{o e:Expr}{g:SS→R D}{gs:SS→R (List D)}{apos cpos:Pos}{k:Nat}
end
end FF
namespace HT
open PySem PyProof.Rows
theorem fR {prog:Program}{w:World}{A:Around}{E:Value→Shared→Prop}{s:Shared}{t sl:Addr}{items:Array Value}{vl vu:Value}{lo hi:Option Int}{Q:Value→Shared→Prop}(ht:IsTup s.heap t items)(hs:s.heap.IsSliceOf sl vl vu .none)(pl:IsPart vl lo)(pu:IsPart vu hi)
  (hw:sIx items.size 0 lo=0∧sIx items.size items.size hi=items.size) (h:Q (.ref t) s):wpAny (model prog w) A (getItem (.ref t) (.ref sl)) Q E s:=by
 obtain⟨os,hos,hcs,hds⟩:=id hs;have hTs:s.TypeIs (.ref sl) "slice" := ⟨os,hos,hcs⟩;unfold getItem
 try with_reducible refine wpAny_holding ?_
 first | refine wpAny_bind (wpAny_pure ?_) | skip
 refine wpAny_bind (wpAny_sequenceKey ht.typeIs (by decide) ?_);refine wpAny_bind (wpAny_callSpecial?_slot (name:=Str.ofString "__getitem__") ht.typeIs PyProof.Rows.slot_tuple_getitem
  (wpAny_call_entry PyProof.Rows.slot_tuple_getitem ht.typeIs entry_tuple_getitem ?_ (args_tuple_getitem _ _)))
 show wpAny _ _ (Builtin.Tuple.tupleItemsOf (.ref t) >>= _) _ _ s;refine wpAny_bind (tupleItemsOf_ ht ?_);refine wpAny_bind (wpAny_typeOf hTs ?_);rw[if_pos (by decide)];refine wpAny_bind (dJ hs pl pu ?_);rw[hw.1,hw.2];show wpAny _ _ (if (((0:Nat):Int)==0&&(1:Int)==1&&(items.size - 0)==items.size)=true then _ else _) _ _ s;rw[if_pos (by simp)];unfold Builtin.Tuple.tupleIsExact;refine wpAny_bind (wpAny_bind (wpAny_typeOf ht.typeIs (wpAny_pure ?_)));rw[if_pos (by decide)];exact wpAny_bind (wpAny_rule (wpAny_pure ⟨_,rfl,wpAny_pure h⟩))
end HT
namespace FF
open PySem PySem.Spec PyProof.Rows L2
def rSlW (K:Frag):V→Option Int→Option Int→Hp→VK→Prop:=fun x lo hi H Q=>∃ a xs,x=.ref a∧SqT K H a xs∧(HT.sIx xs.length 0 lo=0∧HT.sIx xs.length xs.length hi=xs.length)∧Q (.ref a) H
theorem vQ {X:Cx}:SlR X (rSlW X.K):=by
 intro pins s σ H x v vl vu lo hi sl Q I rx hs pl pu h;obtain⟨a,xs,rfl,hx,hw,q⟩:=h;cases rx;obtain⟨its,r,ht,hz⟩:=I.tuple hx;have hlen:its.toArray.size=xs.length:=by rw[List.size_toArray];exact r.length.symm
 refine⟨"tuple",_,PyProof.Rows.slot_tuple_getitem.lookup,ht.typeIs,?_⟩;refine HT.fR ht hs pl pu (by rw[hlen];exact hw) ?_;exact⟨.ref a,H,I,rfl,q⟩
theorem ri {xs:List D}{lo hi:Option Int}(h:HT.sIx xs.length 0 lo=0∧HT.sIx xs.length xs.length hi=xs.length):cutD xs lo hi=xs:=by
 unfold cutD;rw[h.1,h.2,List.drop_zero,Nat.sub_zero,List.take_length]
section
variable {X:Cx}{F:Fx}{e:Expr}{lo hi:Option Expr}{g:SS→R D}{l h:SS→R (Option Int)}{pos p2:Pos}
theorem yw (hK:X.K=F.K)(he:FE X F e g)(hl:PO X lo (tP F l))(hh:PO X hi (tP F h)):FE X F (.Subscript e (.Slice lo hi none p2) pos) (eSw g l h) :=
 (sJ (vw.or (yf.or vQ)) he hl hh).weak fun σ H Q ⟨Z,S,ok,w⟩=>av ok w fun d v H1 Z1 ok1 x1 rv w1=>pR ok1 w1 fun o H2 Z2 ok2 x2 w2=>pR ok2 w2 fun o' H3 Z3 ok3 x3 w3=>by
  have rv3:=rv.mono (x2.z.trans x3.z);cases d with
  | lst ds =>
   rw[Rep]at rv3;obtain⟨a,vs,rfl,h1,h2⟩:=rv3;refine .inl ⟨a,vs,rfl,by rw[hK];exact ok3.sub.seq h1,fun p hp=>?_⟩;have z:Same Z3 (upd Z3 p (.lst (cutV vs o o'))):=aC (ok3.sub.free hp);exact w3 _ _ (Ex.alloc ok3.sub hp) _ (by rw[Rep];exact⟨p,_,rfl,SqL.of ai,(h2.cut o o').mono z⟩)
  | tup ds =>
   have rv4:=rv3;rw[Rep]at rv3;obtain⟨a,vs,rfl,h1,h2⟩:=rv3;have w4:WG F H3 Z3 (R.ok (FF.D.tup (cutD ds o o'))) _:=w3;by_cases hw:HT.sIx ds.length 0 o=0∧HT.sIx ds.length ds.length o'=ds.length
   ·refine .inr (.inr ⟨a,vs,rfl,by rw[hK];exact h1.mono ok3.sub,by rw[← h2.length];exact hw,?_⟩);rw[ri hw]at w4;exact WG.now w4 ok3.sub _ rv4
   ·refine .inr (.inl ⟨a,vs,rfl,by rw[hK];exact h1.mono ok3.sub,by rw[← h2.length];exact hw,fun p hp=>?_⟩);have z:Same Z3 (upd Z3 p (.tup (cutV vs o o'))):=aC (ok3.sub.free hp);exact w4 _ _ (Ex.alloc ok3.sub hp) _ (by rw[Rep];exact⟨p,_,rfl,SqT.of ai,(h2.cut o o').mono z⟩)
  | _=>exact w3.elim
end
theorem R.bind_assoc {α β γ:Type}(r:R α)(f:α→R β)(g:β→R γ):(r.bind f).bind g=r.bind fun x=>(f x).bind g:=by cases r<;>rfl
end FF
end
noncomputable section
namespace FF
open PySem L2
end FF
end
noncomputable section
namespace PySem.SeqAt
open AutoSeq1 (wpAny_loadPart')
open MeetsSeq MeetsSeq2 MeetsSeq3 SeqRoads2
end PySem.SeqAt
namespace FF
open PySem PySem.Spec PyProof.Rows L2
section
variable {X:Cx}{F:Fx}{a b:Expr}{ga gb:SS→R D}{pos:Pos}{k:Nat}
end
section
variable {X:Cx}{F:Fx}{a b:Expr}{ga gb:SS→R D}{pos:Pos}{k:Nat}
end
section
variable {X:Cx}{F:Fx}{o e:Expr}{g:SS→R D}{gs:SS→R (List D)}{apos cpos:Pos}{k:Nat}
end
section
variable {X:Cx}{F:Fx}{pos p:Pos}{k:Nat}{gs:SS→R (List D)}{g ge:SS→R D}{e ei:Expr}{x:Str}
end
def dNf (x y:D):R D:=if good 60 x=true∧good 60 y=true then .ok (.bl (!eqD x y)) else .stuck
theorem pU {X:Cx}{pins:List (Addr×Obj)}{σ:St}{H Z:Hp}{s:Shared}{K:Frag}{C:Nat→Addr}(hK:X.K=K)(I:Inv X pins σ H s)(z:Same Z H)(n:Nat)(A:Around)(d e:D)(v u:V)(x y:Value)(g1:good n d=true)(g2:good n e=true)
  (h:Rep K C Z d v) (h':Rep K C Z e u) (rx:RelV v x) (ry:RelV u y) (hu:A.units+n < cLine):SeqAt.RcNeAt A s x y (!eqD d e):=by
 have hu0:A.units < cLine:=by omega
 cases d with
 | exc k=>cases n<;>simp[good]at g1
 | fn k=>cases n<;>simp[good]at g1
 | tab ks xs=>cases n<;>simp[good]at g1
 | dic ks xs=>cases n<;>simp[good]at g1
 | ptr a=>cases n<;>simp[good]at g1
 | tup ds =>
  cases n with
  | zero=>simp[good]at g1
  | succ n =>
   have in1:A.in1.units+n < cLine:=by show A.units+1+n < cLine;omega
   rw[Rep]at h;obtain⟨a,vs,rfl,h1,h2⟩:=h;cases rx;obtain⟨its,r,p,_⟩:=I.tuple (by rw[hK];exact h1.mono z:SqT X.K H a vs);have p':s.heap.IsTuple a its.toArray:=p;cases e with
   | tup es =>
    rw[Rep]at h';obtain⟨b,us,rfl,k1,k2⟩:=h';cases ry;obtain⟨its2,r2,p2,_⟩:=I.tuple (by rw[hK];exact k1.mono z:SqT X.K H b us);have p2':s.heap.IsTuple b its2.toArray:=p2;rw[good]at g1 g2;have q:=SeqAt.RcNeAt.tuples (A:=A) (e:=fun j=>eqD (ds.getD j .non) (es.getD j .non)) p' p2' hu0 fun j j1 j2=>by
     have j1':j < its.length:=by simpa using j1
     have j2':j < its2.length:=by simpa using j2
     have l1:j < ds.length:=by rw[h2.length,r.length];exact j1'
     have l2:j < es.length:=by rw[k2.length,r2.length];exact j2'
     have e1:ds[j]?=some ds[j]:=by simp
     have e2:es[j]?=some es[j]:=by simp
     obtain⟨w1,f1,f2⟩:=h2.get e1;obtain⟨w2,f3,f4⟩:=k2.get e2;obtain⟨z1,m1,m2⟩:=r.get f1;obtain⟨z2,m3,m4⟩:=r2.get f3;have n1:its.toArray[j]=z1:=by simpa [j1'] using m1
     have n2:its2.toArray[j]=z2:=by simpa [j2'] using m3
     rw[n1,n2];have g3:ds.getD j .non=ds[j]:=by simp[l1]
     have g4:es.getD j .non=es[j]:=by simp[l2]
     rw[g3,g4];exact iA hK I z n A.in1 _ _ w1 w2 z1 z2 (aN g1 e1) (aN g2 e2) f2 f4 m2 m4 in1
    rw[eqD,cF];have s1:its.toArray.size=ds.length:=by rw[List.size_toArray,h2.length,r.length]
    have s2:its2.toArray.size=es.length:=by rw[List.size_toArray,k2.length,r2.length]
    rw[s1,s2]at q;exact q
   | lst es =>
    rw[Rep]at h';obtain⟨b,us,rfl,k1,k2⟩:=h';cases ry;obtain⟨its2,r2,p2,_⟩:=I.list (by rw[hK];exact z.seq k1:SqL X.K H b us);simp only[eqD,Bool.not_false,Bool.not_true];exact SeqAt.RcNeAt.tuple_list p' p2.isList hu0
   | exc k=>simp[good]at g2
   | fn k=>simp[good]at g2
   | tab ks xs=>simp[good]at g2
   | dic ks xs=>simp[good]at g2
   | ptr a=>simp[good]at g2
   | non=>rw[Rep]at h';subst h';cases ry;simp only[eqD,Bool.not_false,Bool.not_true];exact SeqAt.RcNeAt.tuple_none p' hu0
   | bl b=>rw[Rep]at h';subst h';cases ry;simp only[eqD,Bool.not_false,Bool.not_true];exact SeqAt.RcNeAt.tuple_bool _ p' hu0
   | int b=>rw[Rep]at h';subst h';obtain⟨t,rfl⟩:=ry;simp only[eqD,Bool.not_false,Bool.not_true];exact SeqAt.RcNeAt.tuple_int _ _ p' hu0
   | str b=>rw[Rep]at h';subst h';obtain⟨t,rfl⟩:=ry;simp only[eqD,Bool.not_false,Bool.not_true];exact SeqAt.RcNeAt.tuple_str _ _ p' hu0
 | lst ds =>
  cases n with
  | zero=>simp[good]at g1
  | succ n =>
   have in1:A.in1.units+n < cLine:=by show A.units+1+n < cLine;omega
   rw[Rep]at h;obtain⟨a,vs,rfl,h1,h2⟩:=h;cases rx;obtain⟨its,r,p,_⟩:=I.list (by rw[hK];exact z.seq h1:SqL X.K H a vs);have p':=p.isList;cases e with
   | lst es =>
    rw[Rep]at h';obtain⟨b,us,rfl,k1,k2⟩:=h';cases ry;obtain⟨its2,r2,p2,_⟩:=I.list (by rw[hK];exact z.seq k1:SqL X.K H b us);have p2':=p2.isList;rw[good]at g1 g2;have s1:its.toArray.size=ds.length:=by rw[List.size_toArray,h2.length,r.length]
    have s2:its2.toArray.size=es.length:=by rw[List.size_toArray,k2.length,r2.length]
    rw[eqD,cF];by_cases hsz:ds.length=es.length
    ·have q:=SeqAt.RcNeAt.lists (A:=A) (e:=fun j=>eqD (ds.getD j .non) (es.getD j .non)) p' p2' (by rw[s1,s2];exact hsz) hu0 fun j j1 j2=>by
      have j1':j < its.length:=by simpa using j1
      have j2':j < its2.length:=by simpa using j2
      have l1:j < ds.length:=by rw[h2.length,r.length];exact j1'
      have l2:j < es.length:=by rw[k2.length,r2.length];exact j2'
      have e1:ds[j]?=some ds[j]:=by simp
      have e2:es[j]?=some es[j]:=by simp
      obtain⟨w1,f1,f2⟩:=h2.get e1;obtain⟨w2,f3,f4⟩:=k2.get e2;obtain⟨z1,m1,m2⟩:=r.get f1;obtain⟨z2,m3,m4⟩:=r2.get f3;have n1:its.toArray[j]=z1:=by simpa [j1'] using m1
      have n2:its2.toArray[j]=z2:=by simpa [j2'] using m3
      rw[n1,n2];have g3:ds.getD j .non=ds[j]:=by simp[l1]
      have g4:es.getD j .non=es[j]:=by simp[l2]
      rw[g3,g4];exact iA hK I z n A.in1 _ _ w1 w2 z1 z2 (aN g1 e1) (aN g2 e2) f2 f4 m2 m4 in1
     rw[s1]at q;rw[hsz,Nat.min_self,beq_self_eq_true,Bool.and_true,← hsz];exact q
    ·have q:=SeqAt.RcNeAt.lists_lengths (A:=A) p' p2' (by rw[s1,s2];simpa using hsz) hu0;rw[show (ds.length==es.length)=false by simpa using hsz,Bool.and_false];exact q
   | tup es =>
    rw[Rep]at h';obtain⟨b,us,rfl,k1,k2⟩:=h';cases ry;obtain⟨its2,r2,p2,_⟩:=I.tuple (by rw[hK];exact k1.mono z:SqT X.K H b us);simp only[eqD,Bool.not_false,Bool.not_true];exact SeqAt.RcNeAt.list_tuple p' (show s.heap.IsTuple b its2.toArray from p2) hu0
   | exc k=>simp[good]at g2
   | fn k=>simp[good]at g2
   | tab ks xs=>simp[good]at g2
   | dic ks xs=>simp[good]at g2
   | ptr a=>simp[good]at g2
   | non=>rw[Rep]at h';subst h';cases ry;simp only[eqD,Bool.not_false,Bool.not_true];exact SeqAt.RcNeAt.list_none p' hu0
   | bl b=>rw[Rep]at h';subst h';cases ry;simp only[eqD,Bool.not_false,Bool.not_true];exact SeqAt.RcNeAt.list_bool _ p' hu0
   | int b=>rw[Rep]at h';subst h';obtain⟨t,rfl⟩:=ry;simp only[eqD,Bool.not_false,Bool.not_true];exact SeqAt.RcNeAt.list_int _ _ p' hu0
   | str b=>rw[Rep]at h';subst h';obtain⟨t,rfl⟩:=ry;simp only[eqD,Bool.not_false,Bool.not_true];exact SeqAt.RcNeAt.list_str _ _ p' hu0
 | non =>
  rw[Rep]at h;subst h;cases rx;cases e with
  | tup es =>
   rw[Rep]at h';obtain⟨b,us,rfl,k1,k2⟩:=h';cases ry;obtain⟨its2,r2,p2,_⟩:=I.tuple (by rw[hK];exact k1.mono z:SqT X.K H b us);simp only[eqD,Bool.not_false,Bool.not_true];exact SeqAt.RcNeAt.none_tuple (show s.heap.IsTuple b its2.toArray from p2) hu0
  | lst es =>
   rw[Rep]at h';obtain⟨b,us,rfl,k1,k2⟩:=h';cases ry;obtain⟨its2,r2,p2,_⟩:=I.list (by rw[hK];exact z.seq k1:SqL X.K H b us);simp only[eqD,Bool.not_false,Bool.not_true];exact SeqAt.RcNeAt.none_list p2.isList hu0
  | exc k=>cases n<;>simp[good]at g2
  | fn k=>cases n<;>simp[good]at g2
  | tab ks xs=>cases n<;>simp[good]at g2
  | dic ks xs=>cases n<;>simp[good]at g2
  | ptr a=>cases n<;>simp[good]at g2
  | non=>rw[Rep]at h';subst h';cases ry;simp only[eqD,Bool.not_false,Bool.not_true];exact SeqAt.RcNeAt.none_none
  | bl b=>rw[Rep]at h';subst h';cases ry;simp only[eqD,Bool.not_false,Bool.not_true];exact SeqAt.RcNeAt.none_bool _
  | int b=>rw[Rep]at h';subst h';obtain⟨t,rfl⟩:=ry;simp only[eqD,Bool.not_false,Bool.not_true];exact SeqAt.RcNeAt.none_int _ _
  | str b=>rw[Rep]at h';subst h';obtain⟨t,rfl⟩:=ry;simp only[eqD,Bool.not_false,Bool.not_true];exact SeqAt.RcNeAt.none_str _ _
 | bl a =>
  rw[Rep]at h;subst h;cases rx;cases e with
  | tup es =>
   rw[Rep]at h';obtain⟨b,us,rfl,k1,k2⟩:=h';cases ry;obtain⟨its2,r2,p2,_⟩:=I.tuple (by rw[hK];exact k1.mono z:SqT X.K H b us);simp only[eqD,Bool.not_false,Bool.not_true];exact SeqAt.RcNeAt.bool_tuple _ (show s.heap.IsTuple b its2.toArray from p2) hu0
  | lst es =>
   rw[Rep]at h';obtain⟨b,us,rfl,k1,k2⟩:=h';cases ry;obtain⟨its2,r2,p2,_⟩:=I.list (by rw[hK];exact z.seq k1:SqL X.K H b us);simp only[eqD,Bool.not_false,Bool.not_true];exact SeqAt.RcNeAt.bool_list _ p2.isList hu0
  | exc k=>cases n<;>simp[good]at g2
  | fn k=>cases n<;>simp[good]at g2
  | tab ks xs=>cases n<;>simp[good]at g2
  | dic ks xs=>cases n<;>simp[good]at g2
  | ptr a=>cases n<;>simp[good]at g2
  | non=>rw[Rep]at h';subst h';cases ry;simp only[eqD,Bool.not_false,Bool.not_true];exact SeqAt.RcNeAt.bool_none _
  | bl b=>rw[Rep]at h';subst h';cases ry;simp only[eqD,Bool.not_false,Bool.not_true];exact SeqAt.RcNeAt.bool_bool _ _
  | int b=>rw[Rep]at h';subst h';obtain⟨t,rfl⟩:=ry;simp only[eqD,Bool.not_false,Bool.not_true];exact SeqAt.RcNeAt.bool_int _ _ _
  | str b=>rw[Rep]at h';subst h';obtain⟨t,rfl⟩:=ry;simp only[eqD,Bool.not_false,Bool.not_true];exact SeqAt.RcNeAt.bool_str _ _ _
 | int a =>
  rw[Rep]at h;subst h;obtain⟨t0,rfl⟩:=rx;cases e with
  | tup es =>
   rw[Rep]at h';obtain⟨b,us,rfl,k1,k2⟩:=h';cases ry;obtain⟨its2,r2,p2,_⟩:=I.tuple (by rw[hK];exact k1.mono z:SqT X.K H b us);simp only[eqD,Bool.not_false,Bool.not_true];exact SeqAt.RcNeAt.int_tuple _ _ (show s.heap.IsTuple b its2.toArray from p2) hu0
  | lst es =>
   rw[Rep]at h';obtain⟨b,us,rfl,k1,k2⟩:=h';cases ry;obtain⟨its2,r2,p2,_⟩:=I.list (by rw[hK];exact z.seq k1:SqL X.K H b us);simp only[eqD,Bool.not_false,Bool.not_true];exact SeqAt.RcNeAt.int_list _ _ p2.isList hu0
  | exc k=>cases n<;>simp[good]at g2
  | fn k=>cases n<;>simp[good]at g2
  | tab ks xs=>cases n<;>simp[good]at g2
  | dic ks xs=>cases n<;>simp[good]at g2
  | ptr a=>cases n<;>simp[good]at g2
  | non=>rw[Rep]at h';subst h';cases ry;simp only[eqD,Bool.not_false,Bool.not_true];exact SeqAt.RcNeAt.int_none _ _
  | bl b=>rw[Rep]at h';subst h';cases ry;simp only[eqD,Bool.not_false,Bool.not_true];exact SeqAt.RcNeAt.int_bool _ _ _
  | int b=>rw[Rep]at h';subst h';obtain⟨t,rfl⟩:=ry;simp only[eqD,Bool.not_false,Bool.not_true];exact SeqAt.RcNeAt.int_int _ _ _ _
  | str b=>rw[Rep]at h';subst h';obtain⟨t,rfl⟩:=ry;simp only[eqD,Bool.not_false,Bool.not_true];exact SeqAt.RcNeAt.int_str _ _ _ _
 | str a =>
  rw[Rep]at h;subst h;obtain⟨t0,rfl⟩:=rx;cases e with
  | tup es =>
   rw[Rep]at h';obtain⟨b,us,rfl,k1,k2⟩:=h';cases ry;obtain⟨its2,r2,p2,_⟩:=I.tuple (by rw[hK];exact k1.mono z:SqT X.K H b us);simp only[eqD,Bool.not_false,Bool.not_true];exact SeqAt.RcNeAt.str_tuple _ _ (show s.heap.IsTuple b its2.toArray from p2) hu0
  | lst es =>
   rw[Rep]at h';obtain⟨b,us,rfl,k1,k2⟩:=h';cases ry;obtain⟨its2,r2,p2,_⟩:=I.list (by rw[hK];exact z.seq k1:SqL X.K H b us);simp only[eqD,Bool.not_false,Bool.not_true];exact SeqAt.RcNeAt.str_list _ _ p2.isList hu0
  | exc k=>cases n<;>simp[good]at g2
  | fn k=>cases n<;>simp[good]at g2
  | tab ks xs=>cases n<;>simp[good]at g2
  | dic ks xs=>cases n<;>simp[good]at g2
  | ptr a=>cases n<;>simp[good]at g2
  | non=>rw[Rep]at h';subst h';cases ry;simp only[eqD,Bool.not_false,Bool.not_true];exact SeqAt.RcNeAt.str_none _ _
  | bl b=>rw[Rep]at h';subst h';cases ry;simp only[eqD,Bool.not_false,Bool.not_true];exact SeqAt.RcNeAt.str_bool _ _ _
  | int b=>rw[Rep]at h';subst h';obtain⟨t,rfl⟩:=ry;simp only[eqD,Bool.not_false,Bool.not_true];exact SeqAt.RcNeAt.str_int _ _ _ _
  | str b=>rw[Rep]at h';subst h';obtain⟨t,rfl⟩:=ry;simp only[eqD,Bool.not_false,Bool.not_true];exact SeqAt.RcNeAt.str_str _ _ _ _
def rNf (K:Frag)(C:Nat→Addr):R2:=fun x y H Q=>∃ Z d e,Same Z H∧Rep K C Z d x∧Rep K C Z e y∧good 60 d=true∧good 60 e=true∧Q (.bl (!eqD d e)) H
section
variable {X:Cx}{F:Fx}{a b:Expr}{ga gb:SS→R D}{pos:Pos}{k:Nat}
theorem xz (hK:X.K=F.K)(hr:Room k X.A):OpR X (compareOp .NotEq) (rNf F.K F.C):=by
 intro pins s σ H x y v u Q I rx ry h;obtain⟨Z,d,e,z,h1,h2,g1,g2,q⟩:=h;have hu:X.A.units+60 < cLine:=by have:=hr.un;omega
 exact pU hK I z 60 X.A d e x y v u g1 g2 h1 h2 rx ry hu X.prog X.w X.xe _ ⟨.bl (!eqD d e),H,I,rfl,q⟩
theorem oz:OpD F (rNf F.K F.C) dNf:=by
 intro H Z x y dx dy Q s rx ry w;unfold dNf at w;split at w
 ·rename_i g;exact⟨Z,dx,dy,s,rx,ry,g.1,g.2,WG.now w s _ aU⟩
 ·exact w.elim
theorem fU (bx:BX X F k)(ha:FE X F a ga)(hb:FE X F b gb):FT X F (.Compare a [.NotEq] [b] pos) (gB (eOp dNf ga gb)):=iy (xz bx.K bx.room) oz ha hb
end
def qEx (es:List Nat)(i:Nat):D→Option Bool
 | .exc j=>if es.contains j=true then some (i==j||i==0) else none
 | _=>none
def qVx (es:List Nat):D→Option Bool
 | .exc j=>if es.contains j=true then some true else none
 | _=>none
def qTk (es:List Nat)(j:Nat):Bool:=es.contains j
theorem cG {K:Frag}{C:Nat→Addr}{es:List Nat}{i:Nat}(h:∀ j∈es,kitOne K (.ref (C j)) (.ref (C i))=some (i==j||i==0))(hx:∀ j∈es,ExcK K (C j)):IsA K C (.ref (C i)) (qEx es i):=by
 refine⟨.inr ⟨_,rfl⟩,fun d b e=>?_,fun j b e=>?_,fun _=>rfl,fun d h=>by cases d<;>first | rfl | cases h⟩
 ·cases d with
  | exc j =>
   have e':(if es.contains j=true then some (i==j||i==0) else none)=some b:=e;by_cases hj:es.contains j=true
   ·rw[if_pos hj]at e';cases e';exact h j (by simpa using hj)
   ·rw[if_neg hj]at e';cases e'
  | _=>cases e
 ·have e':(if es.contains j=true then some (i==j||i==0) else none)=some b:=e;by_cases hj:es.contains j=true
  ·exact hx j (by simpa using hj)
  ·rw[if_neg hj]at e';cases e'
theorem yx {K:Frag}{C:Nat→Addr}{es:List Nat}(h:∀ j∈es,kitOne K (.ref (C j)) (.type "ValueError")=some true)(hx:∀ j∈es,ExcK K (C j)):IsA K C (.ty "ValueError") (qVx es):=by
 refine⟨.inl ⟨_,rfl⟩,fun d b e=>?_,fun j b e=>?_,fun _=>rfl,fun d h=>by cases d<;>first | rfl | cases h⟩
 ·cases d with
  | exc j =>
   have e':(if es.contains j=true then some true else none)=some b:=e;by_cases hj:es.contains j=true
   ·rw[if_pos hj]at e';cases e';exact h j (by simpa using hj)
   ·rw[if_neg hj]at e';cases e'
  | _=>cases e
 ·have e':(if es.contains j=true then some true else none)=some b:=e;by_cases hj:es.contains j=true
  ·exact hx j (by simpa using hj)
  ·rw[if_neg hj]at e';cases e'
theorem tJ {K:Frag}{C:Nat→Addr}{es:List Nat}(h:excIn K (C 0) bmVE "ValueError.__new__"=true)(hs:∀ j∈es,subIn K (.ref (C j)) (.ref (C 0))=some true):Takes K C (C 0) (qTk es) :=
 ⟨h,fun k e=>hs k (by simpa [qTk] using e)⟩
section
variable {X:Cx}{F:Fx}{o e:Expr}{g:SS→R D}{gs:SS→R (List D)}{apos cpos:Pos}{k:Nat}
end
end FF
end
noncomputable section
namespace FF
open PySem L2
inductive L (σ:Type) where
 | nx (s:σ) | rt (d:D) | er (k:Nat) | stuck
def lB {α σ:Type}(r:R α)(k:α→L σ):L σ:=match r with
 | .ok a=>k a
 | .err e=>.er e
 | .stuck=>.stuck
def lS {τ σ:Type}(l:L τ)(k:τ→L σ):L σ:=match l with
 | .nx s=>k s
 | .rt d=>.rt d
 | .er e=>.er e
 | .stuck=>.stuck
def lFor {α τ:Type}(f:τ→α→L τ):List α→τ→L τ
 | [],s=>.nx s
 | d::r,s=>lS (f s d) fun s'=>lFor f r s'
def lTry {τ σ:Type}(q:Nat→Bool)(l:L τ)(k:τ→L σ)(h:Nat→L σ):L σ:=match l with
 | .nx s=>k s
 | .rt d=>.rt d
 | .er e=>if q e=true then h e else .stuck
 | .stuck=>.stuck
def outL {σ:Type}(l:L σ):R D:=match l with
 | .nx _=>.ok .non
 | .rt d=>.ok d
 | .er k=>.err k
 | .stuck=>.stuck
section
variable {α τ σ:Type}
@[simp] theorem tK (a:α)(k:α→L σ):lB (.ok a) k=k a:=rfl
@[simp] theorem yy (e:Nat)(k:α→L σ):lB (.err e) k=.er e:=rfl
@[simp] theorem zm (k:α→L σ):lB .stuck k=.stuck:=rfl
@[simp] theorem zo (s:τ)(k:τ→L σ):lS (.nx s) k=k s:=rfl
@[simp] theorem zp (d:D)(k:τ→L σ):lS (.rt d) k=.rt d:=rfl
@[simp] theorem zq (e:Nat)(k:τ→L σ):lS (.er e) k=.er e:=rfl
@[simp] theorem zr (k:τ→L σ):lS .stuck k=.stuck:=rfl
@[simp] theorem zt (f:τ→α→L τ)(s:τ):lFor f [] s=.nx s:=rfl
theorem rj (f:τ→α→L τ)(d:α)(r:List α)(s:τ):lFor f (d::r) s=lS (f s d) fun s'=>lFor f r s':=rfl
@[simp] theorem zK (q:Nat→Bool)(s:τ)(k:τ→L σ)(h:Nat→L σ):lTry q (.nx s) k h=k s:=rfl
@[simp] theorem zL (q:Nat→Bool)(d:D)(k:τ→L σ)(h:Nat→L σ):lTry q (.rt d:L τ) k h=.rt d:=rfl
@[simp] theorem zM (q:Nat→Bool)(e:Nat)(k:τ→L σ)(h:Nat→L σ):lTry q (.er e:L τ) k h=if q e=true then h e else .stuck:=rfl
@[simp] theorem vR (s:σ):outL (.nx s)=.ok .non:=rfl
@[simp] theorem vT (d:D):outL (.rt d:L σ)=.ok d:=rfl
@[simp] theorem vU (k:Nat):outL (.er k:L σ)=.err k:=rfl
end
def rAnd (a b:R Bool):R Bool:=a.bind fun c=>if c=true then b else .ok false
def rOr (a b:R Bool):R Bool:=a.bind fun c=>if c=true then .ok true else b
def rNot (a:R Bool):R Bool:=a.bind fun c=>.ok (!c)
def vAnd (a b:R D):R D:=(asB a).bind fun c=>if c=true then b else .ok (.bl false)
def vOr (a b:R D):R D:=(asB a).bind fun c=>if c=true then .ok (.bl true) else b
def vNot (a:R D):R D:=(asB a).bind fun c=>.ok (.bl (!c))
def rIf (c:R Bool)(a b:R D):R D:=c.bind fun t=>if t=true then a else b
def rCh (f f':D→D→R D)(x y:D)(w:R D):R D:=(asB (f x y)).bind fun k=>if k=true then w.bind fun w=>f' y w else .ok (.bl false)
@[simp] theorem iG (b:Bool):asB (.ok (.bl b))=.ok b:=rfl
@[simp] theorem yz (b:R Bool):rAnd (.ok true) b=b:=rfl
@[simp] theorem yA (b:R Bool):rAnd (.ok false) b=.ok false:=rfl
@[simp] theorem zu (b:R Bool):rOr (.ok true) b=.ok true:=rfl
@[simp] theorem zv (b:R Bool):rOr (.ok false) b=b:=rfl
@[simp] theorem vV (b:Bool):rNot (.ok b)=.ok (!b):=rfl
@[simp] theorem yB (b:R D):vAnd (.ok (.bl true)) b=b:=rfl
@[simp] theorem yC (b:R D):vAnd (.ok (.bl false)) b=.ok (.bl false):=rfl
@[simp] theorem zw (b:R D):vOr (.ok (.bl true)) b=.ok (.bl true):=rfl
@[simp] theorem zx (b:R D):vOr (.ok (.bl false)) b=b:=rfl
@[simp] theorem vW (b:Bool):vNot (.ok (.bl b))=.ok (.bl (!b)):=rfl
@[simp] theorem zy (a b:R D):rIf (.ok true) a b=a:=rfl
@[simp] theorem zA (a b:R D):rIf (.ok false) a b=b:=rfl
def bA {α:Type}:List (R D)→(List D→R α)→R α
 | [],k=>k []
 | r::rs,k=>r.bind fun d=>bA rs fun ds=>k (d::ds)
def cGo (c:D→R Bool)(e:D→R D):List D→R (List D)
 | []=>.ok []
 | d::r=>match c d with
  | .ok true=>match e d with
   | .ok y=>match cGo c e r with
    | .ok ys=>.ok (y::ys)
    | _=>.stuck
   | _=>.stuck
  | .ok false=>cGo c e r
  | _=>.stuck
def cMap (e:D→R D)(xs:List D):R D:=(cGo (fun _=>.ok true) e xs).bind fun ys=>.ok (.lst ys)
def cFil (c:D→R Bool)(e:D→R D)(xs:List D):R D:=(cGo c e xs).bind fun ys=>.ok (.lst ys)
def un2 {α:Type}(d:D)(k:D→D→R α):R α:=match d with
 | .tup [a,b]=>k a b
 | _=>.stuck
def sq (d:D):R (List D):=(asSeq d).bind fun ds=>if ds.length≤16777216 then .ok ds else .stuck
def dInD (x y:D):R D:=match y with
 | .tup ds=>if good 60 x=true∧goods 60 ds=true then .ok (.bl (ds.any fun e=>eqD e x)) else .stuck
 | .lst ds=>if good 60 x=true∧goods 60 ds=true then .ok (.bl (ds.any fun e=>eqD e x)) else .stuck
 | _=>.stuck
def dNotInD (x y:D):R D:=(asB (dInD x y)).bind fun k=>.ok (.bl (!k))
def dList:List D→R D
 | [.lst xs]=>.ok (.lst xs)
 | [.tup xs]=>.ok (.lst xs)
 | _=>.stuck
def dLenSet:List D→R D
 | [.lst xs]=>match intsOf xs with
  | some is=>if is.length≤4000 then .ok (.int (is.eraseDups.length:Nat)) else .stuck
  | none=>.stuck
 | _=>.stuck
def zipD:List D→List D→List D
 | a::r,b::s=>.tup [a,b]::zipD r s
 | _,_=>[]
def dZip (a b:D):R (List D):=(sq a).bind fun xs=>(sq b).bind fun ys=>.ok (zipD xs ys)
def dRev (d:D):R D:=match d with
 | .lst xs=>.ok (.lst xs.reverse)
 | .tup xs=>.ok (.tup xs.reverse)
 | _=>.stuck
def dMin2:List D→R D
 | [.int i,.int j]=>.ok (.int (if j < i then j else i))
 | _=>.stuck
def dAbs:List D→R D
 | [.int i]=>.ok (.int (i.natAbs:Int))
 | _=>.stuck
def onF {α:Type}(fs:List Nat)(f:D)(k:Nat→R α):R α:=match f with
 | .fn i=>if fs.contains i=true then k i else .stuck
 | _=>.stuck
def onL {α:Type}(d:D)(k:List D→R α):R α:=match d with
 | .lst xs=>k xs
 | _=>.stuck
def dTab (l:List (Str×Nat))(x:D):R D:=match x with
 | .str s=>match l.lookup s with
  | some k=>.ok (.fn k)
  | none=>.stuck
 | _=>.stuck
def tabK (l:List (Str×Nat)):D:=.lst (l.map fun p=>.str p.1)
def oApp (ds:List D)(v:D):R (List D):=if ds.length < 16777216 then .ok (ds++[v]) else .stuck
def oExt (ds:List D)(v:D):R (List D):=match v with
 | .lst xs=>if ds.length+xs.length≤16777216 then .ok (ds++xs) else .stuck
 | .tup xs=>if ds.length+xs.length≤16777216 then .ok (ds++xs) else .stuck
 | _=>.stuck
def a0 (k:L Unit):List D→R D
 | []=>outL k
 | _=>.stuck
def a1 (k:D→L Unit):List D→R D
 | [a]=>outL (k a)
 | _=>.stuck
def a2 (k:D→D→L Unit):List D→R D
 | [a,b]=>outL (k a b)
 | _=>.stuck
def a3 (k:D→D→D→L Unit):List D→R D
 | [a,b,c]=>outL (k a b c)
 | _=>.stuck
def a4 (k:D→D→D→D→L Unit):List D→R D
 | [a,b,c,d]=>outL (k a b c d)
 | _=>.stuck
def a5 (k:D→D→D→D→D→L Unit):List D→R D
 | [a,b,c,d,e]=>outL (k a b c d e)
 | _=>.stuck
def a6 (k:D→D→D→D→D→D→L Unit):List D→R D
 | [a,b,c,d,e,f]=>outL (k a b c d e f)
 | _=>.stuck
end FF
end
noncomputable section
namespace FF
open PySem PySem.Spec PyProof.Rows L2
section
variable {α τ σ W:Type}
def WL (F:Fx)(Z:Hp)(J:σ→SS→Prop)(l:L σ)(D:Ends):Prop:=match l with
 | .nx s=>∀ S ρ H Z',J s S→Same Z Z'→StOk F H Z' S ρ→D.nx ρ H
 | .rt d=>∀ v H Z',Ex F.H0 F.Z0 H Z'→Rep F.K F.C Z' d v→D.rt v H
 | .er k=>∀ H,Same F.H0 H→F.E (.ref (F.C k)) none H
 | .stuck=>False
theorem WL.more {F:Fx}{Z Z1:Hp}{J:σ→SS→Prop}{l:L σ}{D:Ends}(w:WL F Z J l D)(z:Same Z Z1):WL F Z1 J l D:=by
 cases l with
 | nx s=>exact fun S ρ H Z' j q=>w S ρ H Z' j (z.trans q)
 | rt d=>exact w
 | er k=>exact w
 | stuck=>exact w
def tL (F:Fx)(S:SS)(J:σ→SS→Prop)(l:L σ):TS:=fun D ρ H=>∃ Z,StOk F H Z S ρ∧WL F Z J l D
abbrev FL (X:Cx)(F:Fx)(S:SS)(sts:List Stmt)(J:σ→SS→Prop)(l:L σ):Prop:=PSs X sts (tL F S J l)
abbrev FL1 (X:Cx)(F:Fx)(S:SS)(st:Stmt)(J:σ→SS→Prop)(l:L σ):Prop:=PS X st (tL F S J l)
def JX (inj:τ→W→SS):τ→SS→Prop:=fun s S=>∃ w,S=inj s w
def JU:Unit→SS→Prop:=fun _ _=>True
abbrev vv (d:D):Option Sl:=some (.val d)
abbrev ow (ds:List D):Option Sl:=some (.own ds)
abbrev nn:Option Sl:=none
variable {X:Cx}{F:Fx}{S:SS}{st:Stmt}{rest:List Stmt}{J:σ→SS→Prop}{J1:τ→SS→Prop}
theorem bS {sts:List Stmt}{t:α→TS}(h:∀ a,PSs X sts (t a)):PSs X sts (fun D ρ H=>∃ a,t a D ρ H):=fun pins s ρ H D I ⟨a,w⟩=>h a pins s ρ H D I w
theorem WL.wg {D:Ends}{r:R α}{k:α→L σ}{H Z:Hp}{ρ:St}(ok:StOk F H Z S ρ)(w:WL F Z J (lB r k) D):WG F H Z r fun a _ Z'=>WL F Z' J (k a) D:=by
 cases r with
 | ok o=>exact fun _ _ x=>WL.more (l:=k o) w x.z
 | err k=>exact fun H' s=>w H' (ok.ex.same.trans s)
 | stuck=>exact w
theorem aF {s:σ}(h:J s S):FL X F S [] J (.nx s):=pD.weak fun D ρ H ⟨Z,ok,w⟩=>w S ρ H Z h (Same.refl _) ok
theorem aA {g:SS→O}{r:R α}{S':α→SS}{k:α→L σ}(h:FS X F st g)(hg:g S=rO (r.bind fun a=>.ok (.nx (S' a))))(hk:∀ a,FL X F (S' a) rest J (k a)):FL X F S (st::rest) J (lB r k) :=
 (bc h (bS hk)).weak fun D ρ H ⟨Z,ok,w⟩=>⟨Z,S,ok,by
  rw[hg];cases r with
  | ok a=>exact fun ρ' H' Z' z ok'=>⟨a,Z',ok',WL.more (l:=k a) w z⟩
  | err k=>exact w
  | stuck=>exact w⟩
theorem m6 {g:SS→O}{S':SS}{l:L σ}(h:FS X F st g)(hg:g S=.nx S')(hk:FL X F S' rest J l):FL X F S (st::rest) J l :=
 (bc h hk).weak fun D ρ H ⟨Z,ok,w⟩=>⟨Z,S,ok,by rw[hg];exact fun ρ' H' Z' z ok'=>⟨Z',ok',WL.more w z⟩⟩
theorem ay {g:SS→R D}{r:R D}(h:FS X F st (sRet g))(hr:g S=r):FL X F S (st::rest) J (lB r .rt) :=
 (bc h fI).weak fun D ρ H ⟨Z,ok,w⟩=>⟨Z,S,ok,by
  unfold sRet;rw[hr];cases r with
  | ok a=>exact w
  | err k=>exact w
  | stuck=>exact w⟩
theorem ba {g:SS→R D}{v:D}(h:FS X F st (sRet g))(hr:g S=.ok v):FL X F S (st::rest) J (.rt v):=ay (r:=.ok v) h hr
theorem lH {g:SS→O}{k:Nat}(h:FS X F st g)(hg:g S=.er k):FL X F S (st::rest) J (.er k) :=
 (bc h fI).weak fun D ρ H ⟨Z,ok,w⟩=>⟨Z,S,ok,by rw[hg];exact w⟩
theorem mo (i:Nat){ds:List D}{S':SS}{sts:List Stmt}{l:L σ}(hi:S[i]?=some (some (.own ds)))(hS:S.set i (some (.val (.lst ds)))=S')(h:FL X F S' sts J l):FL X F S sts J l :=
 h.weak fun D ρ H ⟨Z,ok,w⟩=>by
  obtain⟨Z',z,ok'⟩:=ok.freeze hi;rw[hS]at ok';exact⟨Z',ok',WL.more w z⟩
theorem aY {c:Expr}{a b:List Stmt}{pos:Pos}{gt:SS→R Bool}{r:R Bool}{A B:L σ}(hc:FT X F c gt)(hr:gt S=r)(ha:FL X F S a J A)(hb:FL X F S b J B):FL1 X F S (.If c a b pos) J (lB r fun t=>if t=true then A else B) :=
 (xt hc ha hb).weak fun D ρ H ⟨Z,ok,w⟩=>gM (k:=fun t=>R.ok t) (P:=fun t _ Z'=>WL F Z' J (if t=true then A else B) D) ok (by
  rw[hr];have:=WL.wg ok w;cases r<;>exact this) fun t H1 Z1 ok1 x1 w1=>by
  have w2:=WG.now w1 ok1.sub;cases t with
  | true=>exact⟨Z1,ok1,w2⟩
  | false=>exact⟨Z1,ok1,w2⟩
theorem jK {l:L σ}(h:FL1 X F S st J l):FL X F S [st] J l:=jh h
theorem bh {l:L τ}{k:τ→L σ}{inj:τ→W→SS}(h:FL1 X F S st (JX inj) l)(hk:∀ s w,FL X F (inj s w) rest J (k s)):FL X F S (st::rest) J (lS l k) :=
 (bc h (bS (fun s=>bS fun w=>hk s w))).weak fun D ρ H ⟨Z,ok,w⟩=>⟨Z,ok,by
  cases l with
  | nx s=>exact fun S' ρ' H' Z' ⟨x,e⟩ z ok'=>⟨s,x,Z',by rw[← e];exact ok',WL.more (l:=k s) w z⟩
  | rt d=>exact w
  | er k=>exact w
  | stuck=>exact w⟩
end
section
variable {σ τ W:Type}{X:Cx}{F:Fx}{S:SS}{tg iter:Expr}{body:List Stmt}{pos:Pos}{git:SS→R (List D)}{g:D→SS→R SS}{inj:τ→W→SS}{step:τ→D→L τ}
theorem tM {r:R (List D)}{s0:τ}(w0:W)(hp:PassesOwn (model X.prog X.w) X.A X.env X.xe)(hc:X.calm=true)(hi:FI X F tg iter git)(hr:git S=r)(hg:FG X F tg g)
  (hb:∀ s w x S1,g x (inj s w)=.ok S1→FL X F S1 body (JX inj) (step s x)) (hno:∀ s w x k,g x (inj s w)≠.err k) (hst:∀ s w x,g x (inj s w)=.stuck→step s x=.stuck)
  (hS:S=inj s0 w0) (hs:∀ x,foldedSetIterable iter X.env x=pure x:=by intro _;rfl):FL1 X F S (.For tg iter body [] pos) (JX inj) (lB r fun xs=>lFor step xs s0):=by
 have hbb:PSs X body (fun D ρ H=>∃ (q:τ×W×FF.D×SS) (_:g q.2.2.1 (inj q.1 q.2.1)=.ok q.2.2.2),tL F q.2.2.2 (JX inj) (step q.1 q.2.2.1) D ρ H):=fun pins s ρ H D I ⟨q,e,w⟩=>hb q.1 q.2.1 q.2.2.1 q.2.2.2 e pins s ρ H D I w
 refine(sy hp hc hi hg hbb hs).weak fun D ρ H ⟨Z,ok,w⟩=>?_
 refine⟨Z,S,ok,?_⟩;have w00:=WL.wg ok w;rw[hr];cases r with
 | err k=>exact w00
 | stuck=>exact w00
 | ok ds =>
  intro H1 Z1 x1;have w1:WL F Z1 (JX inj) (lFor step ds s0) D:=w00 H1 Z1 x1;intro J wk _;refine⟨fun i m ρ H=>m=ds.length - i∧i≤ds.length∧∃ Z2 s w,StOk F H Z2 (inj s w) ρ∧Same Z1 Z2∧WL F Z2 (JX inj) (lFor step (ds.drop i) s) D,⟨ds.length,rfl,Nat.zero_le _,Z1,s0,w0,by rw[← hS];exact ok.more x1,Same.refl _,w1⟩,?_⟩
  rintro i m ρ2 H2 ⟨rfl,hle,Z2,s,w2,ok2,z2,wl2⟩
  obtain⟨k1,k2⟩:=wk i H2 Z2 z2 ok2.sub;by_cases hlt:i < ds.length
  ·obtain⟨go,y⟩:=k1 hlt;refine .inr ⟨go,fun ρ' H'=>∃ Z3 s3 w3,StOk F H' Z3 (inj s3 w3) ρ'∧Same Z1 Z3∧WL F Z3 (JX inj) (lFor step (ds.drop (i+1)) s3) D,fun ρ' H' ⟨Z3,s3,w3,q⟩=>⟨ds.length - (i+1),by omega,rfl,hlt,Z3,s3,w3,q⟩,fun x H' hy=>?_⟩;obtain⟨Z2',d,x',e3,rd⟩:=y x H' hy;have ok2:=ok2.more x';have hd:ds.drop i=d::ds.drop (i+1):=by
    obtain⟨hi,e4⟩:=List.getElem?_eq_some_iff.mp e3;rw[List.drop_eq_getElem_cons hi,e4]
   rw[hd,rj]at wl2;refine⟨Z2',inj s w2,d,ok2,rd,?_⟩;cases q:g d (inj s w2) with
   | err k=>exact absurd q (hno s w2 d k)
   | stuck=>rw[hst s w2 d q]at wl2;exact wl2
   | ok S1 =>
    intro H4 Z4 x4 ρ4 ok4;refine⟨⟨s,w2,d,S1⟩,q,Z4,ok4,?_⟩;have z14:Same Z1 Z4:=(z2.trans x'.z).trans x4.z;cases qb:step s d with
    | nx s5 =>
     rw[qb]at wl2;exact fun S5 ρ5 H5 Z5 ⟨w5,e5⟩ z5 ok5=>⟨Z5,s5,w5,by rw[← e5];exact ok5,z14.trans z5,WL.more (l:=lFor step (ds.drop (i+1)) s5) wl2 ((x'.z.trans x4.z).trans z5)⟩
    | rt d=>rw[qb]at wl2;exact wl2
    | er k=>rw[qb]at wl2;exact wl2
    | stuck=>rw[qb]at wl2;exact wl2
  ·refine .inl ⟨k2 (by omega),?_⟩;rw[List.drop_eq_nil_of_le (by omega)]at wl2;exact wl2 (inj s w2) ρ2 H2 Z2 ⟨w2,rfl⟩ (Same.refl _) ok2
theorem mq (i:Nat){r:R (List D)}{s0:τ}{B:τ→W→D→SS}(w0:W)(hp:PassesOwn (model X.prog X.w) X.A X.env X.xe)(hc:X.calm=true)(hi:FI X F tg iter git)(hr:git S=r)(hg:FG X F tg (gNm i))
  (hS:S=inj s0 w0) (hB:∀ s w x,(inj s w).set i (some (.val x))=B s w x) (hb:∀ s w x,FL X F (B s w x) body (JX inj) (step s x))
  (hs:∀ x,foldedSetIterable iter X.env x=pure x:=by intro _;rfl):FL1 X F S (.For tg iter body [] pos) (JX inj) (lB r fun xs=>lFor step xs s0) :=
 tM w0 hp hc hi hr hg (fun s w x S1 e=>by cases e;rw[hB];exact hb s w x) (fun s w x k e=>nomatch e) (fun s w x e=>nomatch e) hS hs
end
section
variable {σ τ W:Type}{X:Cx}{F:Fx}{S:SS}{rest:List Stmt}{J:σ→SS→Prop}{k:Nat}
end
section
variable {σ τ W:Type}{S:SS}{X:Cx}{F:Fx}{body:List Stmt}{g:SS→O}{c n y:Str}{np np2 kp apos hpos pos:Pos}{k:Nat}{q:Nat→Bool}{C0:Addr}
end
section
variable {σ τ W:Type}{X:Cx}{F:Fx}{S:SS}{rest:List Stmt}{J:σ→SS→Prop}
end
section
variable {X:Cx}{F:Fx}{e:Expr}{es:List Expr}{g g':SS→R D}{gs:List (SS→R D)}{k:Nat}{f:List D→R D}{pos:Pos}
theorem gR (h:FE X F e g)(hg:∀ S,g S=g' S):FE X F e g':=by
 have:g=g':=funext hg;rw[← this];exact h
theorem jj {st:Stmt}{g g':SS→O}(h:FS X F st g)(hg:∀ S,g S=g' S):FS X F st g':=by
 have:g=g':=funext hg;rw[← this];exact h
def aL:List (SS→R D)→SS→R (List D)
 | []=>aNil
 | g::gs=>aCons g (aL gs)
def eBA {α:Type}(f:List D→R α)(gs:List (SS→R D)):SS→R α:=fun S=>bA (gs.map fun g=>g S) f
theorem fM {α β:Type}{r:R α}{f f':α→R β}(h:∀ a,f a=f' a):r.bind f=r.bind f':=by cases r<;>first | exact h _ | rfl
theorem cU {α:Type}(S:SS):∀ (gs:List (SS→R D)) (f:List D→R α),(aL gs S).bind f=eBA f gs S
 | [],f=>rfl
 | g::gs,f=>by
  show ((g S).bind fun d=>(aL gs S).bind fun ds=>R.ok (d::ds)).bind f=(g S).bind fun d=>bA (gs.map fun g=>g S) fun ds=>f (d::ds)
  rw[R.bind_assoc];refine fM fun d=>?_
  rw[R.bind_assoc];exact cU S gs fun ds=>f (d::ds)
theorem iH {S:SS}:∀ {gs:List (SS→R D)} {ds:List D},aL gs S=.ok ds→ds.length=gs.length
 | [],ds,h=>by cases h;rfl
 | g::gs,ds,h=>lD (n:=gs.length) (fun S' ds' h'=>by
   by_cases q:S'=S
   ·subst q;exact iH h'
   ·exact iH (S:=S') h') S ds h
structure FAL (X:Cx)(F:Fx)(es:List Expr)(gs:List (SS→R D)):Prop where
 out:FA X F es (aL gs)
theorem af:FAL X F [] []:=⟨yk⟩
theorem aa (ha:FE X F e g)(hr:FAL X F es gs)(hs:starEach (e::es) X.env=(false,eval e X.env)::starEach es X.env:=by rfl):FAL X F (e::es) (g::gs):=⟨vz ha hr.out hs⟩
theorem fe_N (h:FE X F e (eCall f (aL gs))):FE X F e (eBA f gs):=gR h fun S=>cU S gs f
theorem ak {x:Str}{p:Pos}{ps:List Str}(b:BX X F k)(h:Fn1 X.prog X.w F.K X.mg X.base F.C k x ps f)(hg:Gl X x)(ha:FAL X F (e::es) gs)(hn:gs.length=ps.length:=by rfl)(hdb:(x==("__debug__":Str))=false:=by decide)
  (he:starEach (e::es) X.env=(false,eval e X.env)::starEach es X.env:=by rfl) (hpl:(backTo pos (starEach es X.env)).any (·.1)=false:=by rfl):FE X F (.Call (.Name x p) (e::es) [] pos) (eBA f gs) :=
 fe_N (vJ b h hg ha.out (fun S ds q=>(iH q).trans hn) hdb he hpl)
theorem aM {x1}(h:FAL X F es gs)(hl:gs.length≤16777216:=by exact Nat.le_of_ble_eq_true rfl):FE X F (.Tuple es x1 pos) (eBA (fun ds=>.ok (.tup ds)) gs) :=
 gR (yl h.out) fun S=>by
  rw[← cU];show (aL gs S).bind _=_;cases q:aL gs S with
  | ok ds=>show (if ds.length≤16777216 then R.ok (FF.D.tup ds) else R.stuck)=_;rw[if_pos (by rw[iH q];exact hl)];rfl
  | err k=>rfl
  | stuck=>rfl
theorem au (h:FAL X F es gs)(hl:gs.length≤16777216:=by exact Nat.le_of_ble_eq_true rfl):FE X F (.List es pos) (eBA (fun ds=>.ok (.lst ds)) gs) :=
 gR (ym h.out) fun S=>by
  rw[← cU];show (aL gs S).bind _=_;cases q:aL gs S with
  | ok ds=>show (if ds.length≤16777216 then R.ok (FF.D.lst ds) else R.stuck)=_;rw[if_pos (by rw[iH q];exact hl)];rfl
  | err k=>rfl
  | stuck=>rfl
end
section
variable {X:Cx}{F:Fx}{k:Nat}{e f:Expr}{es:List Expr}{p pos:Pos}{x:Str}
theorem zB {i:Nat}(hm:X.mg x=some (.ref (F.C i)))(hg:Gl X x)(hd:(x==("__debug__":Str))=false:=by decide):FE X F (.Name x pos) (eC (.fn i)) :=
 cS (az (v:=.ref (F.C i)) hg hm rfl hd) fun _=>by rw[Rep]
theorem tN {CX:CXT}{E:XK}{tf:TE}{t:TA}(hf:PE X f tf)(hr:Room k X.A)(hx:Passes CX X E)(ha:PA X (e::es) t)
  (hev:eval (.Call f (e::es) [] pos) X.env=(do callWith pos (← eval f X.env) [] (backTo pos (starEach (e::es) X.env)) (backToKw pos (keywordEach [] X.env))):=by rfl)
  (he:starEach (e::es) X.env=(false,eval e X.env)::starEach es X.env:=by rfl) (hpl:(backTo pos (starEach es X.env)).any (·.1)=false:=by rfl) :
  PE X (.Call f (e::es) [] pos) (fun σ H Q=>tf σ H fun v H1=>∃ a fd ps sp,v=.ref a∧FnOk X.prog X.w X.K X.mg X.base CX k a fd ps sp∧keepIn X.K (.ref a)=true∧Binds X.K fd ps []∧t σ H1 fun vs H2=>sp (vs++[]) H2 Q E):=by
 intro pins s σ H Q I h;rw[hev];refine wpAny_bind (thn (hf pins s σ H _ I h) fun u s1 ⟨v,H1,I1,r,a,fd,ps,sp,ev,FO,hk,hb,q⟩=>?_);subst ev;cases r;refine callWith_K (h₀:=X.base) I1.ok.mod.kin hk (thn (ha pos pins s1 σ H1 _ I1 q) fun us s2 ⟨vs,H2,I2,r2,q2⟩=>⟨I2.kIn,?_⟩) he hpl;exact l6 FO hr hb .nil hx I2 r2 q2
structure FnV (P:Program)(w:World)(K:Frag)(mg:Str→Option Value)(base:Heap)(C:Nat→Addr)(k:Nat)(i:Nat)(f:List D→R D):Prop where
 ex:∃ fd ps,FnOk P w K mg base (CXE P w) k (C i) fd ps (spF K C ps.length f)∧keepIn K (.ref (C i))=true∧Binds K fd ps []∧∀ ds,ds.length≠ps.length→f ds=.stuck
def eCV (fs:List Nat)(t:Nat→List D→R D)(gf:SS→R D)(gs:List (SS→R D)):SS→R D:=fun S=>(gf S).bind fun f=>onF fs f fun i=>bA (gs.map fun g=>g S) (t i)
theorem m7 {fs:List Nat}{t:Nat→List D→R D}{gf:SS→R D}{gs:List (SS→R D)}(b:BX X F k)(hT:∀ i∈fs,FnV X.prog X.w F.K X.mg X.base F.C k i (t i))(hf:FE X F f gf)(ha:FAL X F (e::es) gs)
  (hev:eval (.Call f (e::es) [] pos) X.env=(do callWith pos (← eval f X.env) [] (backTo pos (starEach (e::es) X.env)) (backToKw pos (keywordEach [] X.env))):=by rfl)
  (he:starEach (e::es) X.env=(false,eval e X.env)::starEach es X.env:=by rfl) (hpl:(backTo pos (starEach es X.env)).any (·.1)=false:=by rfl) :
  FE X F (.Call f (e::es) [] pos) (eCV fs t gf gs) :=
 (tN hf b.room b.pass ha.out hev he hpl).weak fun σ H Q ⟨Z,S,ok,w⟩=>by
  refine av ok w fun d v H1 Z1 ok1 x1 rv w1=>?_
  cases d with
  | fn i =>
   by_cases hi:fs.contains i=true
   ·rw[Rep]at rv;obtain⟨fd,ps,h1,h2,h3,h4⟩:=(hT i (by simpa using hi)).ex;refine⟨F.C i,fd,ps,_,rv,by rw[b.K];exact h1,by rw[b.K];exact h2,by rw[b.K];exact h3,?_⟩;have e0:onF fs (.fn i) (fun i=>bA (gs.map fun g=>g S) (t i))=(aL gs S).bind (t i):=by
     rw[cU];show (if fs.contains i=true then _ else R.stuck)=_;rw[if_pos hi];rfl
    rw[e0]at w1;refine bj ok1 w1 fun ds vs H2 Z2 ok2 x2 rs w4=>?_
    by_cases hl:ds.length=ps.length
    ·refine⟨by rw[List.append_nil,← rs.length];exact hl,Z2,ds,ok2.sub,by rw[List.append_nil];exact rs,?_⟩;cases q:t i ds with
     | ok d=>rw[q]at w4;exact w4
     | err k=>rw[q]at w4;exact w4
     | stuck=>rw[q]at w4;exact w4
    ·rw[h4 ds hl]at w4;exact w4.elim
   ·have e0:onF fs (.fn i) (fun i=>bA (gs.map fun g=>g S) (t i))=.stuck:=by
     show (if fs.contains i=true then _ else R.stuck)=_;rw[if_neg hi]
    rw[e0]at w1;exact w1.elim
  | _=>exact w1.elim
end
theorem m8 {S:SS}{g:D→SS→R SS}{c:SS→R Bool}{e:SS→R D}:∀ ds,noErr (compGo S g c e ds)=cGo (fun d=>(g d S).bind c) (fun d=>(g d S).bind e) ds
 | []=>rfl
 | d::r=>by
  have ih:=m8 (S:=S) (g:=g) (c:=c) (e:=e) r;rw[cGo,compGo];cases q:g d S with
  | err k=>rfl
  | stuck=>rfl
  | ok S1 =>
   show noErr ((c S1).bind fun t=>if t=true then (e S1).bind fun y=>(compGo S g c e r).bind fun ys=>.ok (y::ys) else compGo S g c e r)=(match c S1 with
    | .ok true=>match e S1 with
     | .ok y=>match cGo _ _ r with
      | .ok ys=>.ok (y::ys)
      | _=>.stuck
     | _=>.stuck
    | .ok false=>cGo _ _ r
    | _=>.stuck)
   cases qc:c S1 with
   | err k=>rfl
   | stuck=>rfl
   | ok t =>
    cases t with
    | false=>exact ih
    | true =>
     show noErr ((e S1).bind fun y=>(compGo S g c e r).bind fun ys=>.ok (y::ys))=(match e S1 with
      | .ok y=>match cGo _ _ r with
       | .ok ys=>.ok (y::ys)
       | _=>.stuck
      | _=>.stuck)
     cases qe:e S1 with
     | err k=>rfl
     | stuck=>rfl
     | ok y =>
      rw[← ih];show noErr ((compGo S g c e r).bind fun ys=>.ok (y::ys))=(match noErr (compGo S g c e r) with
       | .ok ys=>.ok (y::ys)
       | _=>.stuck)
      cases compGo S g c e r<;>rfl
def eCC (own:Nat)(cap:List Nat)(it:SS→R (List D))(g:D→SS→R SS)(c:SS→R Bool)(e:SS→R D):SS→R D:=fun S=>(it S).bind fun ds=>(cGo (fun d=>(g d (blkS own cap S)).bind c) (fun d=>(g d (blkS own cap S)).bind e) ds).bind fun ys=>.ok (.lst ys)
theorem tO {own:Nat}{cap:List Nat}{it:SS→R (List D)}{g:D→SS→R SS}{c:SS→R Bool}{e:SS→R D}(S:SS):eComp own cap it g c e S=eCC own cap it g c e S:=by
 unfold eComp eCC;exact fM fun ds=>by rw[m8]
theorem fe_C {X:Cx}{F:Fx}{e:Expr}{own:Nat}{cap:List Nat}{it:SS→R (List D)}{g:D→SS→R SS}{c:SS→R Bool}{el:SS→R D}(h:FE X F e (eComp own cap it g c el)):FE X F e (eCC own cap it g c el):=gR h tO
section
variable {X:Cx}{F:Fx}{st:Stmt}{i:Nat}{g:SS→R D}
def sAppC (i:Nat)(g:SS→R D):SS→O:=fun S=>match S[i]? with
 | some (some (.own ds))=>rO (((g S).bind fun v=>oApp ds v).bind fun ds'=>.ok (.nx (S.set i (some (.own ds')))))
 | _=>.stuck
theorem tQ {α:Type}(r:R D)(f:List D→R α):((r.bind fun d=>(R.ok []:R (List D)).bind fun ds=>R.ok (d::ds)).bind f)=r.bind fun d=>f [d]:=by cases r<;>rfl
def sExtC (i:Nat)(g:SS→R D):SS→O:=fun S=>match S[i]? with
 | some (some (.own ds))=>rO (((g S).bind fun v=>oExt ds v).bind fun ds'=>.ok (.nx (S.set i (some (.own ds')))))
 | _=>.stuck
theorem fs_X (h:FS X F st (sExt i (aL [g]))):FS X F st (sExtC i g):=jj h fun S=>by
 unfold sExt sExtC;cases q:S[i]? with
 | none=>rfl
 | some o =>
  cases o with
  | none=>rfl
  | some x =>
   cases x with
   | val d=>rfl
   | mat m=>rfl
   | dic m=>rfl
   | dit m=>rfl
   | own ds =>
    show rO (((g S).bind fun d=>(R.ok []:R (List D)).bind fun ds=>R.ok (d::ds)).bind _)=rO _;rw[tQ,R.bind_assoc];refine congrArg rO (fM fun v=>?_);unfold oExt;cases v with
    | lst xs=>by_cases hl:ds.length+xs.length≤16777216<;>simp[hl]
    | tup xs=>by_cases hl:ds.length+xs.length≤16777216<;>simp[hl]
    | _=>rfl
def sOwnC (i:Nat)(gs:List (SS→R D)):SS→O:=fun S=>rO ((eBA .ok gs S).bind fun ds=>.ok (.nx (S.set i (some (.own ds)))))
theorem fs_O {gs:List (SS→R D)}(h:FS X F st (sOwn i (aL gs)))(hl:gs.length≤16777216:=by exact Nat.le_of_ble_eq_true rfl):FS X F st (sOwnC i gs):=jj h fun S=>by
 unfold sOwn sOwnC;rw[← cU,R.bind_assoc];refine congrArg rO ?_;cases q:aL gs S with
 | ok ds=>show (if ds.length≤16777216 then _ else _)=_;rw[if_pos (by rw[iH q];exact hl)];rfl
 | err k=>rfl
 | stuck=>rfl
end
section
variable {X:Cx}{F:Fx}{e tg:Expr}{g ga:SS→R D}{f:List D→List D→R D}{gs:List (SS→R D)}
def eML (f:List D→List D→R D)(g:SS→R D)(gs:List (SS→R D)):SS→R D:=fun S=>(g S).bind fun d=>onL d fun xs=>bA (gs.map fun g=>g S) (f xs)
theorem pW (h:FE X F e (eMethL f g (aL gs))):FE X F e (eML f g gs):=gR h fun S=>by
 unfold eMethL eML;refine fM fun d=>?_
 cases d with
 | lst xs=>exact cU S gs (f xs)
 | _=>rfl
theorem vX {g g':SS→R (List D)}(h:FI X F tg e g)(hg:∀ S,g S=g' S):FI X F tg e g':=by
 have:g=g':=funext hg;rw[← this];exact h
theorem xA (h:FI X F tg e (iRange1 (aL gs))):FI X F tg e (eBA rng1 gs):=vX h fun S=>cU S gs rng1
end
theorem zC {k:D→L Unit}{ds:List D}(h:ds.length≠1):a1 k ds=.stuck:=by
 match ds,h with
 | [],_=>rfl
 | [_],h=>exact absurd rfl h
 | _::_::_,_=>rfl
theorem i6 {k:D→D→L Unit}{ds:List D}(h:ds.length≠2):a2 k ds=.stuck:=by
 match ds,h with
 | [],_=>rfl
 | [_],_=>rfl
 | [_,_],h=>exact absurd rfl h
 | _::_::_::_,_=>rfl
section
variable {σ:Type}{X:Cx}{F:Fx}{S:SS}{st:Stmt}{rest:List Stmt}{J:σ→SS→Prop}
end
section
variable {P:Program}{w:World}{K:Frag}{mg:Str→Option Value}{base:Heap}
theorem vY {x qual:Str}{st:Stmt}{f:Addr}{fd:FuncData}{N ps:List Str}{k:Nat}{C:Nat→Addr}{fn:List D→R D}(F:Fun K x qual st f fd)(S:FnScope N ps (defScope st))
  (h:∀ (cdv:Value) (A:Around) (outer:List Env) (s:Shared) (H Z:Hp) (E:XK),BX (bodyX P w K mg base N qual (defScope st) f cdv A outer s H E) ⟨K,C,H,Z,E⟩ k →
   PassesOwn (model P w) (bodyX P w K mg base N qual (defScope st) f cdv A outer s H E).A (bodyX P w K mg base N qual (defScope st) f cdv A outer s H E).env (bodyX P w K mg base N qual (defScope st) f cdv A outer s H E).xe →
   MadeX (bodyX P w K mg base N qual (defScope st) f cdv A outer s H E) ⟨K,C,H,Z,E⟩ →
   ∀ ds,ds.length=ps.length→∃ l:L Unit,fn ds=outL l∧FL (bodyX P w K mg base N qual (defScope st) f cdv A outer s H E) ⟨K,C,H,Z,E⟩ (startS N.length ds) (defBody st) JU l) :
  FnOk P w K mg base (CXE P w) (k+1) f fd ps (spF K C ps.length fn):=by
 obtain⟨oc,od,kV,doc,pm,an,cdv,ct,osl,rfl,lk,hcd⟩:=F.ex;refine lr lk hcd S (fun vs H Q E q=>q.1) fun A outer s H vs Q E hr hsp=>?_
 obtain⟨hv,Z,ds,z,r,w⟩:=hsp;obtain⟨l,e,hl⟩:=h cdv A outer s H Z E ⟨hr,rfl,rfl,bQ⟩ PassesOwn.leaving (fun pins σ H1 s1 h1 ea C1 args I hx hE=>dL I hx hE) ds (by rw[r.length];exact hv);refine⟨_,hl,Z,dM (F:=⟨K,C,H,Z,E⟩) (N:=N) z r,?_⟩;rw[e]at w;cases l with
 | nx u=>exact fun S' ρ' H' Z' _ _ ok=>w H' Z' ok.ex .non (by rw[Rep])
 | rt d=>exact fun v H' Z' x rv=>w H' Z' x v rv
 | er k=>exact w
 | stuck=>exact w
end
theorem len1 {ds:List D}(h:ds.length=1):∃ a,ds=[a]:=by
 match ds,h with
 | [a],_=>exact⟨a,rfl⟩
theorem len2 {ds:List D}(h:ds.length=2):∃ a b,ds=[a,b]:=by
 match ds,h with
 | [a,b],_=>exact⟨a,b,rfl⟩
theorem len3 {ds:List D}(h:ds.length=3):∃ a b c,ds=[a,b,c]:=by
 match ds,h with
 | [a,b,c],_=>exact⟨a,b,c,rfl⟩
theorem len4 {ds:List D}(h:ds.length=4):∃ a b c d,ds=[a,b,c,d]:=by
 match ds,h with
 | [a,b,c,d],_=>exact⟨a,b,c,d,rfl⟩
theorem len5 {ds:List D}(h:ds.length=5):∃ a b c d e,ds=[a,b,c,d,e]:=by
 match ds,h with
 | [a,b,c,d,e],_=>exact⟨a,b,c,d,e,rfl⟩
section
variable {X:Cx}{F:Fx}{st:Stmt}{i:Nat}{g ge:SS→R D}
end
theorem tR {v v':V}{u:Value}(h:RelV v u)(h':RelV v' u):v=v':=by
 cases v<;>cases v'<;>simp only[L2.RelV]at h h'<;>first
  | rfl
  | (subst h;cases h';rfl)
  | (subst h;cases h';done)
  | (obtain⟨t,rfl⟩:=h;obtain⟨t',e⟩:=h';cases e;rfl)
  | (obtain⟨t,rfl⟩:=h;obtain⟨t',e⟩:=h';cases e;done)
  | (obtain⟨t,rfl⟩:=h;cases h';done)
  | (subst h;obtain⟨t',e⟩:=h';cases e;done)
section
variable {X:Cx}{F:Fx}{pins:List (Addr×Obj)}{σ:St}{H Z:Hp}{s:Shared}
open Classical in
noncomputable def itemB (P:Value→Prop) (u:Value):Bool:=if P u then true else false
theorem gS {K:Frag}{C:Nat→Addr}{n:Nat}{dx:D}{vx:V}{x:Value}(hK:X.K=K)(I:Inv X pins σ H s)(z:Same Z H)(gx:good n dx=true)(rx:Rep K C Z dx vx)(hx:RelV vx x){A:Around}(hu:A.units+n < cLine)(ds:List D)(hg:goods n ds=true){vs:List V}{us:List Value}(rs:Reps K C Z ds vs)(hv:Vals vs us) :
  ∃ e:Value→Bool,(∀ u∈us,SeqAt.EqAt A s u x (e u))∧us.any e=ds.any fun d=>eqD d dx:=by
 refine⟨itemB fun u=>∃ d v,good n d=true∧Rep K C Z d v∧RelV v u∧eqD d dx=true,?_⟩;have key:∀ (d:D) (v:V) (u:Value),good n d=true→Rep K C Z d v→RelV v u→itemB (fun u=>∃ d v,good n d=true∧Rep K C Z d v∧RelV v u∧eqD d dx=true) u=eqD d dx:=fun d v u gd rd hd=>by
  unfold itemB;by_cases h:eqD d dx=true
  ·rw[if_pos ⟨d,v,gd,rd,hd,h⟩,h]
  ·rw[if_neg,(by simpa using h:eqD d dx=false)]
   rintro ⟨d',v',g',r',h1,h2⟩
   have e1:=tR h1 hd;subst e1;rw[ji hK I z n d' d v' g' gd r' rd]at h2;exact h h2
 induction ds generalizing vs us with
 | nil =>
  rw[Reps]at rs;subst rs;cases hv;exact⟨fun u hu=>(nomatch hu),rfl⟩
 | cons d ds ih =>
  rw[Reps]at rs;obtain⟨v,r,rfl,r1,r2⟩:=rs;rw[goods,Bool.and_eq_true]at hg;cases hv with
  | cons hv1 hv2 =>
   obtain⟨i1,i2⟩:=ih hg.2 r2 hv2;refine⟨fun u hu'=>?_,?_⟩
   ·rcases List.mem_cons.mp hu' with e | e
    ·subst e;rw[key d v _ hg.1 r1 hv1];exact iA hK I z n A d dx v vx _ _ hg.1 gx r1 rx hv1 hx hu
    ·exact i1 u e
   ·rw[List.any_cons,List.any_cons,i2,key d v _ hg.1 r1 hv1]
end
def rInD (K:Frag)(C:Nat→Addr)(neg:Bool):R2:=fun x y H Q=>∃ (Z:Hp) (dx:D) (ds:List D) (p:Addr) (vs:List V),Same Z H∧Rep K C Z dx x∧good 60 dx=true∧y=.ref p∧(SqL K Z p vs∨SqT K Z p vs)∧Reps K C Z ds vs∧goods 60 ds=true∧Q (.bl (if neg then !(ds.any fun d=>eqD d dx) else ds.any fun d=>eqD d dx)) H
section
variable {X:Cx}{F:Fx}{a b:Expr}{ga gb:SS→R D}{pos:Pos}{k:Nat}
theorem zP (hK:X.K=F.K)(hr:Room k X.A):OpR X (compareOp .In) (rInD F.K F.C false):=by
 intro pins s σ H x y v u Q I rx ry h;obtain⟨Z,dx,ds,p,vs,z,rd,gd,rfl,hq,rs,gs,q⟩:=h;cases ry;have hu:X.A.in1.units+60 < cLine:=by have:=hr.un;show X.A.units+1+60 < cLine;omega
 rcases hq with hq | hq
 ·obtain⟨its,r,pl,hz⟩:=I.list (by rw[hK];exact z.seq hq);obtain⟨e,e1,e2⟩:=gS hK I z gd rd rx hu ds gs rs r;refine SeqAt.in_listAt e pl.isList (fun w hw=>e1 w (by simpa using hw)) ⟨.bl _,H,I,rfl,?_⟩;rw[show its.toArray.any e=its.any e by simp,e2];exact q
 ·obtain⟨its,r,pl,hz⟩:=I.tuple (by rw[hK];exact hq.mono z);obtain⟨e,e1,e2⟩:=gS hK I z gd rd rx hu ds gs rs r;refine SeqAt.in_tupleAt e pl (fun w hw=>e1 w (by simpa using hw)) ⟨.bl _,H,I,rfl,?_⟩;rw[show its.toArray.any e=its.any e by simp,e2];exact q
theorem rk (hK:X.K=F.K)(hr:Room k X.A):OpR X (compareOp .NotIn) (rInD F.K F.C true):=by
 intro pins s σ H x y v u Q I rx ry h;obtain⟨Z,dx,ds,p,vs,z,rd,gd,rfl,hq,rs,gs,q⟩:=h;cases ry;have hu:X.A.in1.units+60 < cLine:=by have:=hr.un;show X.A.units+1+60 < cLine;omega
 rcases hq with hq | hq
 ·obtain⟨its,r,pl,hz⟩:=I.list (by rw[hK];exact z.seq hq);obtain⟨e,e1,e2⟩:=gS hK I z gd rd rx hu ds gs rs r;refine SeqAt.notIn_listAt e pl.isList (fun w hw=>e1 w (by simpa using hw)) ⟨.bl _,H,I,rfl,?_⟩;rw[show its.toArray.any e=its.any e by simp,e2];exact q
 ·obtain⟨its,r,pl,hz⟩:=I.tuple (by rw[hK];exact hq.mono z);obtain⟨e,e1,e2⟩:=gS hK I z gd rd rx hu ds gs rs r;refine SeqAt.notIn_tupleAt e pl (fun w hw=>e1 w (by simpa using hw)) ⟨.bl _,H,I,rfl,?_⟩;rw[show its.toArray.any e=its.any e by simp,e2];exact q
theorem vZ {dx dy:D}{r:R D}(h:dInD dx dy=r):(∃ ds,(dy=.tup ds∨dy=.lst ds)∧good 60 dx=true∧goods 60 ds=true∧r=.ok (.bl (ds.any fun d=>eqD d dx)))∨r=.stuck:=by
 subst h;cases dy with
 | tup ds =>
  show _∨(if good 60 dx=true∧goods 60 ds=true then _ else _)=_;by_cases q:good 60 dx=true∧goods 60 ds=true
  ·exact .inl ⟨ds,.inl rfl,q.1,q.2,if_pos q⟩
  ·exact .inr (if_neg q)
 | lst ds =>
  show _∨(if good 60 dx=true∧goods 60 ds=true then _ else _)=_;by_cases q:good 60 dx=true∧goods 60 ds=true
  ·exact .inl ⟨ds,.inr rfl,q.1,q.2,if_pos q⟩
  ·exact .inr (if_neg q)
 | _=>exact .inr rfl
theorem oA:OpD F (rInD F.K F.C true) dNotInD:=by
 intro H Z x y dx dy Q s rx ry w;unfold dNotInD at w;rcases vZ (dx:=dx) (dy:=dy) rfl with ⟨ds,hd,g1,g2,e⟩ | e
 ·rw[e]at w;have w2:WG F H Z (R.ok (FF.D.bl (!(ds.any fun d=>eqD d dx)))) (fun d H' Z'=>∀ v,Rep F.K F.C Z' d v→Q v H'):=w;rcases hd with rfl | rfl
  ·rw[Rep]at ry;obtain⟨p,vs,rfl,h1,h2⟩:=ry;exact⟨Z,dx,ds,p,vs,s,rx,g1,rfl,.inr h1,h2,g2,WG.now w2 s _ aU⟩
  ·rw[Rep]at ry;obtain⟨p,vs,rfl,h1,h2⟩:=ry;exact⟨Z,dx,ds,p,vs,s,rx,g1,rfl,.inl h1,h2,g2,WG.now w2 s _ aU⟩
 ·rw[e]at w;exact w.elim
theorem rl (bx:BX X F k)(ha:FE X F a ga)(hb:FE X F b gb)(hm:behindInMarks .NotIn b=false:=by rfl):FT X F (.Compare a [.NotIn] [b] pos) (gB (eOp dNotInD ga gb)):=iy (rk bx.K bx.room) oA ha hb (hm:=hm)
end
section
variable {X:Cx}{F:Fx}{p pos:Pos}{e e2:Expr}{gs:SS→R (List D)}{k:Nat}
theorem oB:CallD F (fun xs H Q=>∃ i j,xs=[.int i,.int j]∧Q (.int (if j < i then j else i)) H) dMin2:=by
 intro H Z xs ds Q s rs w;unfold dMin2 at w;split at w
 ·exact⟨_,_,mW rs,WG.now w s _ aS⟩
 ·exact w.elim
theorem v4 (bx:BX X F k)(hg:Gl X "min")(hm:X.mg "min"=none)(ha:FA X F [e,e2] gs)(he:starEach [e,e2] X.env=(false,eval e X.env)::starEach [e2] X.env:=by rfl)(hpl:(backTo pos (starEach [e2] X.env)).any (·.1)=false:=by rfl) :
  FE X F (.Call (.Name "min" p) [e,e2] [] pos) (eCall dMin2 gs):=fk (qJ bx.calm) oB hg hm (by decide +kernel) ha (he:=he) (hpl:=hpl)
theorem rm:CallD F (fun xs H Q=>∃ i,xs=[.int i]∧Q (.int (if i < 0 then -i else i)) H) dAbs:=by
 intro H Z xs ds Q s rs w;unfold dAbs at w;split at w
 ·rename_i i;have e:(i.natAbs:Int)=if i < 0 then -i else i:=by split<;>omega
  rw[e]at w;exact⟨_,ml rs,WG.now w s _ aS⟩
 ·exact w.elim
theorem yD (bx:BX X F k)(hg:Gl X "abs")(hm:X.mg "abs"=none)(ha:FA X F [e] gs)(he:starEach [e] X.env=(false,eval e X.env)::starEach [] X.env:=by rfl)(hpl:(backTo pos (starEach [] X.env)).any (·.1)=false:=by rfl) :
  FE X F (.Call (.Name "abs" p) [e] [] pos) (eCall dAbs gs):=fk sC rm hg hm (by decide +kernel) ha (he:=he) (hpl:=hpl)
end
section
variable {X:Cx}{F:Fx}{pos p1 p2:Pos}{x y:Str}{kk:Nat}
end
section
variable {X:Cx}{F:Fx}{p p2 pos pos2:Pos}{e:Expr}{gs:SS→R (List D)}{k:Nat}
end
section
variable {X:Cx}{F:Fx}
variable {σ:Type}{S:SS}{rest:List Stmt}{J:σ→SS→Prop}{e:Expr}{ge:SS→R D}{r:R D}{n:Nat}
end
end FF
end
noncomputable section
namespace L2
open PySem PySem.Spec PyProof.Rows
section
variable {X:Cx}{pos:Pos}
end
end L2
namespace FF
open PySem PySem.Spec PyProof.Rows L2
section
variable {X:Cx}{F:Fx}{σ:Type}{S:SS}{st:Stmt}{rest:List Stmt}{J:σ→SS→Prop}
end
section
variable {prog:Program}{w:World}{A:Around}{E:Value→Shared→Prop}{s:Shared}
theorem gT {it t:Addr}{i:Nat}{items:Array Value}{x:Value}{Q:Value→Shared→Prop}(hit:s.heap.IsTupleIter it t i)
  (hl:s.heap.IsTuple t items) (hx:items[i]?=some x)
  (hQ:∀ h',h'.IsTupleIter it t (i+1)→Heap.SameBut it s.heap h'→Q x { s with heap:=h' }) :
  wpAny (model prog w) A (Builtin.SmallTypes.nextOf (.ref it)) Q E s:=by
 obtain⟨o,ho,hc,hd⟩:=id hit;obtain⟨ol,hol,_,nl,hdl⟩:=hl;unfold Builtin.SmallTypes.nextOf;refine wpAny_bind (wpAny_callSpecial?_slot (name:=Str.ofString "__next__") hit.typeIs F.slot_tuple_iterator_next
  (wpAny_call_entry F.slot_tuple_iterator_next hit.typeIs F.entry_tuple_iterator_next ?_ (F.args_tuple_iterator_next_1 _)))
 show wpAny _ _ (field (.ref it) 0 >>= _) _ _ s;refine wpAny_bind (wpAny_field ho hd (x:=.ref t) rfl ?_);show wpAny _ _ (if (Value.ref t==Value.none)=true then _ else _) _ _ s;rw[if_neg (show ¬ ((Value.ref t==Value.none)=true) from Bool.false_ne_true)];show wpAny _ _ (field (.ref it) 1 >>= _) _ _ s;refine wpAny_bind (wpAny_field ho hd (x:=.int i 0) rfl ?_);show wpAny _ _ (seqItems? (.ref t) >>= _) _ _ s;refine wpAny_bind (wpAny_seqItems hol hdl ?_);simp only[Int.toNat_natCast,hx];refine wpAny_bind (wpAny_setField ho hd (by simp) (wpAny_pure ⟨x,rfl,wpAny_pure (hQ _ ?_ (Heap.SameBut.update ..))⟩));exact⟨_,Heap.get?_update_self _ ho (Obj.isFreed_of_fields (Obj.data_mapFields hd _)),(Obj.cls_mapFields ..).trans hc,by
  rw[Obj.data_mapFields hd];simp[rawInt]⟩
theorem iI {it t:Addr}{i:Nat}{items:Array Value}{Q:Value→Shared→Prop}(hh:A.handled=none)
  (hit:s.heap.IsTupleIter it t i) (hl:s.heap.IsTuple t items) (hx:items[i]?=none)
  (hE:∀ h' e,Heap.ExtBut it s.heap h'→(∃ o,h'.get? e=some o∧o.cls=.type "StopIteration")→E (.ref e) { s with heap:=h' }) :
  wpAny (model prog w) A (Builtin.SmallTypes.nextOf (.ref it)) Q E s:=by
 obtain⟨o,ho,hc,hd⟩:=id hit;obtain⟨ol,hol,_,nl,hdl⟩:=hl;unfold Builtin.SmallTypes.nextOf;refine wpAny_bind (wpAny_callSpecial?_slot (name:=Str.ofString "__next__") hit.typeIs F.slot_tuple_iterator_next
  (wpAny_call_entry F.slot_tuple_iterator_next hit.typeIs F.entry_tuple_iterator_next ?_ (F.args_tuple_iterator_next_1 _)))
 show wpAny _ _ (field (.ref it) 0 >>= _) _ _ s;refine wpAny_bind (wpAny_field ho hd (x:=.ref t) rfl ?_);show wpAny _ _ (if (Value.ref t==Value.none)=true then _ else _) _ _ s;rw[if_neg (show ¬ ((Value.ref t==Value.none)=true) from Bool.false_ne_true)];show wpAny _ _ (field (.ref it) 1 >>= _) _ _ s;refine wpAny_bind (wpAny_field ho hd (x:=.int i 0) rfl ?_);show wpAny _ _ (seqItems? (.ref t) >>= _) _ _ s;refine wpAny_bind (wpAny_seqItems hol hdl ?_);simp only[Int.toNat_natCast,hx];refine wpAny_bind (wpAny_rule (wpAny_bind (wpAny_setField ho hd (by simp) ?_)));show wpAny _ _ (newExc (.type "StopIteration") [] >>= _) _ _ _;refine wpAny_bind ?_;simp only[newExc,newTuple];refine wpAny_bind (wpAny_newObj_type ?_ (by size_fits));refine wpAny_bind (m:=firstArgMember _ _) (wpAny_of_eq (a:=Value.none) (by first | rfl | (simp only[firstArgMember];rfl)) ?_);refine wpAny_newObj_type ?_ (by size_fits);simp only[raiseNew];refine wpAny_bind (wpAny_handled ?_)
 first | rw[show A.in1.handled=none from hh] | rw[hh]
 refine wpAny_bind (wpAny_pure (wpAny_throw ?_));exact hE _ _ (((Heap.SameBut.update ..).extBut.push _).push _) ⟨_,Heap.get?_push_size _ rfl,rfl⟩
def SIt (h:Heap)(b:Bool)(it a:Addr)(k:Nat):Prop:=if b=true then h.IsTupleIter it a k else h.IsListIter it a k
def SOb (h:Heap)(b:Bool)(a:Addr)(xs:Array Value):Prop:=if b=true then h.IsTuple a xs else h.IsList a xs
theorem SIt.at {h h':Heap}{b:Bool}{it a:Addr}{k:Nat}(x:SIt h b it a k)(f:∀ o,h.get? it=some o→h'.get? it=some o):SIt h' b it a k:=by
 cases b<;>(obtain⟨o,ho,r⟩:=x;exact⟨o,f o ho,r⟩)
theorem SOb.at {h h':Heap}{b:Bool}{a:Addr}{xs:Array Value}(x:SOb h b a xs)(f:∀ o,h.get? a=some o→h'.get? a=some o):SOb h' b a xs:=by
 cases b<;>(obtain⟨o,ho,r⟩:=x;exact⟨o,f o ho,r⟩)
theorem SIt.lt {h:Heap}{b:Bool}{it a:Addr}{k:Nat}(x:SIt h b it a k):∃ o,h.get? it=some o∧∀ v,o.data≠.cell v:=by
 cases b<;>(obtain⟨o,ho,_,hd⟩:=x;exact⟨o,ho,fun v z=>by rw[hd]at z;cases z⟩)
theorem cD {b:Bool}{it a:Addr}{i:Nat}{items:Array Value}{x:Value}{Q:Value→Shared→Prop}(hit:SIt s.heap b it a i)(hl:SOb s.heap b a items)(hx:items[i]?=some x)
  (hQ:∀ h',SIt h' b it a (i+1)→Heap.SameBut it s.heap h'→Q x { s with heap:=h' }):wpAny (model prog w) A (Builtin.SmallTypes.nextOf (.ref it)) Q E s:=by
 cases b with
 | true=>exact gT hit hl hx hQ
 | false=>exact wpAny_nextOf_list_item hit hl hx hQ
theorem gU {b:Bool}{it a:Addr}{i:Nat}{items:Array Value}{Q:Value→Shared→Prop}(hh:A.handled=none)(hit:SIt s.heap b it a i)(hl:SOb s.heap b a items)(hx:items[i]?=none)
  (hE:∀ h' e,Heap.ExtBut it s.heap h'→(∃ o,h'.get? e=some o∧o.cls=.type "StopIteration")→E (.ref e) { s with heap:=h' }):wpAny (model prog w) A (Builtin.SmallTypes.nextOf (.ref it)) Q E s:=by
 cases b with
 | true=>exact iI hh hit hl hx hE
 | false=>exact wpAny_nextOf_list_end hh hit hl hx hE
def itOb (b:Bool)(a:Addr):Obj:={ cls:=.type (if b=true then "tuple_iterator" else "list_iterator"),data:=.fields #[.ref a,.int 0 0] }
theorem pX {b:Bool}{a:Addr}{items:Array Value}{Q:Value→Shared→Prop}(hl:SOb s.heap b a items)(hQ:Q (.ref s.heap.objs.size) { s with heap:=s.heap.push (itOb b a) }):wpAny (model prog w) A (pyIter (.ref a)) Q E s:=by
 cases b with
 | true=>exact wpAny_pyIter_tuple hl hQ
 | false=>exact wpAny_pyIter_list hl hQ
def IsZ (h:Heap)(z TI TO:Addr)(f0 f1:Value):Prop:=h.get? z=some { cls:=.type "zip",dict:=none,data:=.fields #[f0,f1,.bool false,.ref TI,.ref TO],slots:=#[] }
theorem tU {a:Addr}{o:Obj}{Q:Option Obj→Shared→Prop}(ho:s.heap.get? a=some o)(h:Q (some o) s):wpAny (model prog w) A (loadIfAlive a) Q E s:=fun Γ p hΓ=>by
 show Sem.wp _ Γ (.loadIfAlive a .pure) _ _ p s;rw[Sem.wp_loadIfAlive,ho];exact h
theorem jL {z TI TO T:Addr}{oT:Obj}{u:Bool}{Q:Bool→Shared→Prop}(hz:IsZ s.heap z TI TO (rawInt T) (.bool u))(hoT:s.heap.get? T=some oT)
  (hQ:∀ h₁,IsZ h₁ z TI TO (rawInt T) (.bool true)→Heap.SameBut z s.heap h₁→Q false { s with heap:=h₁ }):wpAny (model prog w) A (Builtin.SmallTypes.ownedTupleIsFree (.ref z)) Q E s:=by
 unfold Builtin.SmallTypes.ownedTupleIsFree;refine wpAny_bind (wpAny_field hz rfl (x:=rawInt T) rfl ?_);show wpAny _ _ (loadIfAlive (T:Int).toNat >>= _) _ _ _;rw[Int.toNat_natCast];refine wpAny_bind (tU hoT ?_);show wpAny _ _ (field (.ref z) 1 >>= _) _ _ _;refine wpAny_bind (wpAny_field hz rfl (x:=.bool u) rfl ?_);cases u with
 | true=>exact wpAny_pure (hQ s.heap hz (Heap.SameBut.refl ..))
 | false=>exact wpAny_bind (wpAny_setField_rec hz (by simp) fun h₁ hz₁ hs₁=>wpAny_pure (hQ h₁ hz₁ hs₁))
theorem tV {z TI TO i1 i2 l1 l2:Addr}{b1 b2:Bool}{k1 k2:Nat}{xs ys:Array Value}{f0 x y a b:Value}{u:Bool}{Q:Value→Shared→Prop}(D:ZipApart z TI TO i1 i2 l1 l2)
  (hz:IsZ s.heap z TI TO f0 (.bool u)) (hf:f0=.none∨∃ (T:Addr) (o:Obj),f0=rawInt T∧T≠z∧T≠i1∧T≠i2∧s.heap.get? T=some o) (hTI:IsPair s.heap TI (.ref i1) (.ref i2)) (hTO:IsPair s.heap TO a b)
  (h1:SIt s.heap b1 i1 l1 k1) (h2:SIt s.heap b2 i2 l2 k2) (hl1:SOb s.heap b1 l1 xs) (hl2:SOb s.heap b2 l2 ys) (hx:xs[k1]?=some x) (hy:ys[k2]?=some y)
  (hQ:∀ h' g0 g1,IsZ h' z TI TO g0 (.bool g1)→(g0=rawInt s.heap.objs.size∨g0=f0∧f0≠.none)→(f0=.none→g0=rawInt s.heap.objs.size)→(∃ a b,IsPair h' TO a b)→SIt h' b1 i1 l1 (k1+1)→SIt h' b2 i2 l2 (k2+1)→IsPair h' s.heap.objs.size x y→h'.objs.size=s.heap.objs.size+1 →
   (∀ c o,c≠z→c≠TO→c≠i1→c≠i2→s.heap.get? c=some o→h'.get? c=some o)→Q (.ref s.heap.objs.size) { s with heap:=h' }) :
  wpAny (model prog w) A (Builtin.«zip.__next__» ⟨[.ref z],[]⟩) (fun fin s'=>∃ v,fin=.done (.ret v)∧Q v s') E s:=by
 show wpAny _ _ (field (.ref z) 2 >>= _) _ _ _;refine wpAny_bind (wpAny_field hz rfl (x:=.bool false) rfl ?_);show wpAny _ _ (field (.ref z) 3 >>= _) _ _ _;refine wpAny_bind (wpAny_field hz rfl (x:=.ref TI) rfl ?_);refine wpAny_bind (wpAny_seqItems hTI rfl ?_);show wpAny _ _ (Builtin.SmallTypes.ownedTupleIsFree (.ref z) >>= _) _ _ _;refine wpAny_bind ?_;rcases hf with rfl | ⟨T,oT,rfl,hTz,hT1,hT2,hoT⟩
 ·unfold Builtin.SmallTypes.ownedTupleIsFree;refine wpAny_bind (wpAny_field hz rfl (x:=.none) rfl ?_);refine wpAny_pure ?_;simp only[if_true];refine wpAny_bind (wpAny_rule ?_);refine wpAny_bind (wpAny_field hz rfl (x:=.ref TO) rfl ?_);refine wpAny_bind (wpAny_setField_rec hz (by simp) fun h₁ hz₁ hs₁=>?_)
  replace hz₁:IsZ h₁ z TI TO .ellipsis (.bool u):=hz₁
  refine wpAny_bind ?_;simp only[List.zipIdx_cons,List.zipIdx_nil,List.forIn_cons,List.forIn_nil];refine wpAny_bind (wpAny_bind (wpAny_onRaise ?_));show wpAny _ _ (Builtin.SmallTypes.nextOf (.ref i1) >>= _) _ _ _;refine wpAny_bind (cD (h1.at fun o e=>hs₁.extBut _ _ D.i1z e) (hl1.at fun o e=>hs₁.extBut _ _ D.l1z e) hx fun h₂ h1₂ hs₂=>wpAny_pure ?_);have hTO₂:IsPair h₂ TO a b:=hs₂.extBut _ _ D.TOi1 (hs₁.extBut _ _ D.TOz hTO);refine wpAny_bind (wpAny_seqItems hTO₂ rfl ?_);refine wpAny_bind (wpAny_updateSeq_pair hTO₂ fun h₃ hTO₃ hs₃=>?_)
  replace hTO₃:IsPair h₃ TO x b:=hTO₃
  refine wpAny_bind (wpAny_letGo (wpAny_pure ?_));refine wpAny_bind (wpAny_bind (wpAny_onRaise ?_));show wpAny _ _ (Builtin.SmallTypes.nextOf (.ref i2) >>= _) _ _ _;refine wpAny_bind (cD (((h2.at fun o e=>hs₁.extBut _ _ D.i2z e).at fun o e=>hs₂.extBut _ _ D.i12.symm e).at fun o e=>hs₃.extBut _ _ D.TOi2.symm e)
   (((hl2.at fun o e=>hs₁.extBut _ _ D.l2z e).at fun o e=>hs₂.extBut _ _ D.l2i1 e).at fun o e=>hs₃.extBut _ _ D.l2TO e) hy fun h₄ h2₄ hs₄=>wpAny_pure ?_)
  have hTO₄:IsPair h₄ TO x b:=hs₄.extBut _ _ D.TOi2 hTO₃;refine wpAny_bind (wpAny_seqItems hTO₄ rfl ?_);refine wpAny_bind (wpAny_updateSeq_pair hTO₄ fun h₅ hTO₅ hs₅=>?_)
  replace hTO₅:IsPair h₅ TO x y:=hTO₅
  refine wpAny_bind (wpAny_letGo (wpAny_pure (wpAny_pure ?_)));refine wpAny_bind (wpAny_seqItems hTO₅ rfl ?_);refine wpAny_bind (wpAny_newTuple ?_);have hsz:h₅.objs.size=s.heap.objs.size:=by rw[hs₅.1,hs₄.1,hs₃.1,hs₂.1,hs₁.1]
  have hz₅:IsZ h₅ z TI TO .ellipsis (.bool u):=hs₅.extBut _ _ D.TOz.symm (hs₄.extBut _ _ D.i2z.symm (hs₃.extBut _ _ D.TOz.symm (hs₂.extBut _ _ D.i1z.symm hz₁)));have hk₅:∀ c o,c≠z→c≠TO→c≠i1→c≠i2→s.heap.get? c=some o→h₅.get? c=some o:=fun c o c1 c2 c3 c4 e =>
   hs₅.extBut _ _ c2 (hs₄.extBut _ _ c4 (hs₃.extBut _ _ c2 (hs₂.extBut _ _ c3 (hs₁.extBut _ _ c1 e))))
  have h1₅:SIt h₅ b1 i1 l1 (k1+1):=((h1₂.at fun o e=>hs₃.extBut _ _ D.TOi1.symm e).at fun o e=>hs₄.extBut _ _ D.i12 e).at fun o e=>hs₅.extBut _ _ D.TOi1.symm e
  have h2₅:SIt h₅ b2 i2 l2 (k2+1):=h2₄.at fun o e=>hs₅.extBut _ _ D.TOi2.symm e
  have hzlt:z < h₅.objs.size:=Heap.lt_size hz₅;show wpAny _ _ (Builtin.SmallTypes.ownedTupleHandOut (.ref z) (.ref h₅.objs.size) >>= _) _ _ _;refine wpAny_bind ?_;unfold Builtin.SmallTypes.ownedTupleHandOut;have hz₆:IsZ (h₅.push { cls:=.type "tuple",data:=.seq #[x,y] }) z TI TO .ellipsis (.bool u):=Heap.get?_push_of_some _ hz₅;refine wpAny_bind (wpAny_setField_rec hz₆ (by simp) fun h₇ hz₇ hs₇=>?_)
  replace hz₇:IsZ h₇ z TI TO (rawInt h₅.objs.size) (.bool u):=hz₇
  refine wpAny_setField_rec hz₇ (by simp) fun h₈ hz₈ hs₈=>?_
  replace hz₈:IsZ h₈ z TI TO (rawInt h₅.objs.size) (.bool false):=hz₈
  have up:∀ c o,c≠z→h₅.get? c=some o→h₈.get? c=some o:=fun c o c1 e=>hs₈.extBut _ _ c1 (hs₇.extBut _ _ c1 (Heap.get?_push_of_some _ e))
  have hT₈:IsPair h₈ h₅.objs.size x y:=hs₈.extBut _ _ (Nat.ne_of_gt hzlt) (hs₇.extBut _ _ (Nat.ne_of_gt hzlt) (Heap.get?_push_size _ rfl));have hz8:h₈.objs.size=h₅.objs.size+1:=by rw[hs₈.1,hs₇.1,Heap.size_push]
  rw[hsz]at hz₈ hT₈ hz8;refine wpAny_pure ⟨_,rfl,?_⟩;show Q (.ref h₅.objs.size) _;rw[hsz];exact hQ h₈ _ _ hz₈ (.inl rfl) (fun _=>rfl) ⟨_,_,up _ _ D.TOz hTO₅⟩ (h1₅.at fun o e=>up _ o D.i1z e) (h2₅.at fun o e=>up _ o D.i2z e) hT₈ hz8 fun c o c1 c2 c3 c4 e=>up c o c1 (hk₅ c o c1 c2 c3 c4 e)
 ·refine jL hz hoT fun h₁ hz₁ hs₁=>?_
  simp only[Bool.false_eq_true,if_false];refine wpAny_bind ?_;simp only[List.forIn_toArray,List.forIn_cons,List.forIn_nil];refine wpAny_bind (wpAny_bind (wpAny_holding ?_));show wpAny _ _ (Builtin.SmallTypes.nextOf (.ref i1) >>= _) _ _ _;refine wpAny_bind (cD (h1.at fun o e=>hs₁.extBut _ _ D.i1z e) (hl1.at fun o e=>hs₁.extBut _ _ D.l1z e) hx fun h₂ h1₂ hs₂=>wpAny_pure ?_);refine wpAny_pure ?_;refine wpAny_bind (wpAny_bind (wpAny_holding ?_));show wpAny _ _ (Builtin.SmallTypes.nextOf (.ref i2) >>= _) _ _ _;refine wpAny_bind (cD ((h2.at fun o e=>hs₁.extBut _ _ D.i2z e).at fun o e=>hs₂.extBut _ _ D.i12.symm e)
   ((hl2.at fun o e=>hs₁.extBut _ _ D.l2z e).at fun o e=>hs₂.extBut _ _ D.l2i1 e) hy fun h₃ h2₃ hs₃=>wpAny_pure ?_)
  refine wpAny_pure (wpAny_pure ?_);refine wpAny_bind (wpAny_newTuple (hsz:=by show 2≤sizeLine;decide) (wpAny_pure ⟨_,rfl,?_⟩));have hsz:h₃.objs.size=s.heap.objs.size:=by rw[hs₃.1,hs₂.1,hs₁.1]
  have hk:∀ c o,c≠z→c≠i1→c≠i2→s.heap.get? c=some o→(h₃.push { cls:=.type "tuple",data:=.seq #[x,y] }).get? c=some o:=fun c o c1 c3 c4 e =>
   Heap.get?_push_of_some _ (hs₃.extBut _ _ c4 (hs₂.extBut _ _ c3 (hs₁.extBut _ _ c1 e)))
  have hz₃:IsZ (h₃.push { cls:=.type "tuple",data:=.seq #[x,y] }) z TI TO (rawInt T) (.bool true):=Heap.get?_push_of_some _ (hs₃.extBut _ _ D.i2z.symm (hs₂.extBut _ _ D.i1z.symm hz₁));have hT:IsPair (h₃.push { cls:=.type "tuple",data:=.seq #[x,y] }) s.heap.objs.size x y:=by rw[← hsz];exact Heap.get?_push_size _ rfl
  show Q (.ref h₃.objs.size) _;rw[hsz];exact hQ _ _ _ hz₃ (.inr ⟨rfl,by intro q;cases q⟩) (fun q=>by cases q) ⟨_,_,hk _ _ D.TOz D.TOi1 D.TOi2 hTO⟩ ((h1₂.at fun o e=>hs₃.extBut _ _ D.i12 e).at fun o e=>Heap.get?_push_of_some _ e) (h2₃.at fun o e=>Heap.get?_push_of_some _ e) hT
   (by rw[Heap.size_push,hsz]) fun c o c1 _ c3 c4 e=>hk c o c1 c3 c4 e
theorem v5 {z TI TO i1 i2 l1 l2:Addr}{b1 b2:Bool}{k1 k2:Nat}{xs ys:Array Value}{f0 a b:Value}{u:Bool}{Q:Fin→Shared→Prop}(hh:A.handled=none)(D:ZipApart z TI TO i1 i2 l1 l2)
  (hz:IsZ s.heap z TI TO f0 (.bool u)) (hf:f0=.none∨∃ (T:Addr) (o:Obj),f0=rawInt T∧T≠z∧T≠i1∧T≠i2∧s.heap.get? T=some o) (hTI:IsPair s.heap TI (.ref i1) (.ref i2)) (hTO:IsPair s.heap TO a b)
  (h1:SIt s.heap b1 i1 l1 k1) (h2:SIt s.heap b2 i2 l2 k2) (hl1:SOb s.heap b1 l1 xs) (hl2:SOb s.heap b2 l2 ys) (hend:xs[k1]?=none∨ys[k2]?=none)
  (hE:∀ h' e,(∀ c o,c≠z→c≠TO→c≠i1→c≠i2→s.heap.get? c=some o→h'.get? c=some o)→(∃ o,h'.get? e=some o∧o.cls=.type "StopIteration")→E (.ref e) { s with heap:=h' }) :
  wpAny (model prog w) A (Builtin.«zip.__next__» ⟨[.ref z],[]⟩) Q E s:=by
 show wpAny _ _ (field (.ref z) 2 >>= _) _ _ _;refine wpAny_bind (wpAny_field hz rfl (x:=.bool false) rfl ?_);show wpAny _ _ (field (.ref z) 3 >>= _) _ _ _;refine wpAny_bind (wpAny_field hz rfl (x:=.ref TI) rfl ?_);refine wpAny_bind (wpAny_seqItems hTI rfl ?_);show wpAny _ _ (Builtin.SmallTypes.ownedTupleIsFree (.ref z) >>= _) _ _ _;refine wpAny_bind ?_;rcases hf with rfl | ⟨T,oT,rfl,hTz,hT1,hT2,hoT⟩
 ·unfold Builtin.SmallTypes.ownedTupleIsFree;refine wpAny_bind (wpAny_field hz rfl (x:=.none) rfl ?_);refine wpAny_pure ?_;simp only[if_true];refine wpAny_bind (wpAny_rule ?_);refine wpAny_bind (wpAny_field hz rfl (x:=.ref TO) rfl ?_);refine wpAny_bind (wpAny_setField_rec hz (by simp) fun h₁ hz₁ hs₁=>?_)
  replace hz₁:IsZ h₁ z TI TO .ellipsis (.bool u):=hz₁
  refine wpAny_bind ?_;simp only[List.zipIdx_cons,List.zipIdx_nil,List.forIn_cons,List.forIn_nil];refine wpAny_bind (wpAny_bind (wpAny_onRaise ?_));show wpAny _ _ (Builtin.SmallTypes.nextOf (.ref i1) >>= _) _ _ _;cases hx:xs[k1]? with
  | none =>
   refine wpAny_bind (gU hh (h1.at fun o e=>hs₁.extBut _ _ D.i1z e) (hl1.at fun o e=>hs₁.extBut _ _ D.l1z e) hx fun h₂ e hs₂ he=>?_);obtain⟨oe,hoe,hce⟩:=he;have hz₂:IsZ h₂ z TI TO .ellipsis (.bool u):=hs₂ _ _ D.i1z.symm hz₁;have hez:e≠z:=fun x=>by subst x;rw[hz₂]at hoe;cases hoe;simp at hce
   refine wpAny_setField_rec hz₂ (by simp) fun h₃ _ hs₃=>hE h₃ e (fun c o c1 _ c3 _ x=>hs₃.extBut _ _ c1 (hs₂ _ _ c3 (hs₁.extBut _ _ c1 x))) ⟨oe,hs₃.extBut _ _ hez hoe,hce⟩
  | some x =>
   have hy:ys[k2]?=none:=by rcases hend with h | h;rw[hx]at h;cases h;exact h
   refine wpAny_bind (cD (h1.at fun o e=>hs₁.extBut _ _ D.i1z e) (hl1.at fun o e=>hs₁.extBut _ _ D.l1z e) hx fun h₂ h1₂ hs₂=>wpAny_pure ?_);have hTO₂:IsPair h₂ TO a b:=hs₂.extBut _ _ D.TOi1 (hs₁.extBut _ _ D.TOz hTO);refine wpAny_bind (wpAny_seqItems hTO₂ rfl ?_);refine wpAny_bind (wpAny_updateSeq_pair hTO₂ fun h₃ hTO₃ hs₃=>?_);refine wpAny_bind (wpAny_letGo (wpAny_pure ?_));refine wpAny_bind (wpAny_bind (wpAny_onRaise ?_));show wpAny _ _ (Builtin.SmallTypes.nextOf (.ref i2) >>= _) _ _ _;refine wpAny_bind (gU hh (((h2.at fun o e=>hs₁.extBut _ _ D.i2z e).at fun o e=>hs₂.extBut _ _ D.i12.symm e).at fun o e=>hs₃.extBut _ _ D.TOi2.symm e)
    (((hl2.at fun o e=>hs₁.extBut _ _ D.l2z e).at fun o e=>hs₂.extBut _ _ D.l2i1 e).at fun o e=>hs₃.extBut _ _ D.l2TO e) hy fun h₄ e hs₄ he=>?_)
   obtain⟨oe,hoe,hce⟩:=he;have hz₄:IsZ h₄ z TI TO .ellipsis (.bool u):=hs₄ _ _ D.i2z.symm (hs₃.extBut _ _ D.TOz.symm (hs₂.extBut _ _ D.i1z.symm hz₁));have hez:e≠z:=fun x=>by subst x;rw[hz₄]at hoe;cases hoe;simp at hce
   refine wpAny_setField_rec hz₄ (by simp) fun h₅ _ hs₅=>hE h₅ e (fun c o c1 c2 c3 c4 x=>hs₅.extBut _ _ c1 (hs₄ _ _ c4 (hs₃.extBut _ _ c2 (hs₂.extBut _ _ c3 (hs₁.extBut _ _ c1 x))))) ⟨oe,hs₅.extBut _ _ hez hoe,hce⟩
 ·refine jL hz hoT fun h₁ hz₁ hs₁=>?_
  simp only[Bool.false_eq_true,if_false];refine wpAny_bind ?_;simp only[List.forIn_toArray,List.forIn_cons,List.forIn_nil];refine wpAny_bind (wpAny_bind (wpAny_holding ?_));show wpAny _ _ (Builtin.SmallTypes.nextOf (.ref i1) >>= _) _ _ _;cases hx:xs[k1]? with
  | none =>
   refine wpAny_bind (gU hh (h1.at fun o e=>hs₁.extBut _ _ D.i1z e) (hl1.at fun o e=>hs₁.extBut _ _ D.l1z e) hx fun h₂ e hs₂ he=>?_);exact hE h₂ e (fun c o c1 _ c3 _ x=>hs₂ _ _ c3 (hs₁.extBut _ _ c1 x)) he
  | some x =>
   have hy:ys[k2]?=none:=by rcases hend with h | h;rw[hx]at h;cases h;exact h
   refine wpAny_bind (cD (h1.at fun o e=>hs₁.extBut _ _ D.i1z e) (hl1.at fun o e=>hs₁.extBut _ _ D.l1z e) hx fun h₂ h1₂ hs₂=>wpAny_pure ?_);refine wpAny_pure ?_;refine wpAny_bind (wpAny_bind (wpAny_holding ?_));show wpAny _ _ (Builtin.SmallTypes.nextOf (.ref i2) >>= _) _ _ _;refine wpAny_bind (gU hh ((h2.at fun o e=>hs₁.extBut _ _ D.i2z e).at fun o e=>hs₂.extBut _ _ D.i12.symm e)
    ((hl2.at fun o e=>hs₁.extBut _ _ D.l2z e).at fun o e=>hs₂.extBut _ _ D.l2i1 e) hy fun h₄ e hs₄ he=>?_)
   exact hE h₄ e (fun c o c1 _ c3 c4 x=>hs₄ _ _ c4 (hs₂.extBut _ _ c3 (hs₁.extBut _ _ c1 x))) he
structure Zs (h:Heap)(z TI TO i1 i2 l1 l2:Addr)(b1 b2:Bool)(k:Nat)(f0:Value):Prop where
 z:∃ u,IsZ h z TI TO f0 (.bool u)
 ti:IsPair h TI (.ref i1) (.ref i2)
 to:∃ a b,IsPair h TO a b
 h1:SIt h b1 i1 l1 k
 h2:SIt h b2 i2 l2 k
theorem Zs.at {h h':Heap}{z TI TO i1 i2 l1 l2:Addr}{b1 b2:Bool}{k:Nat}{f0:Value}(x:Zs h z TI TO i1 i2 l1 l2 b1 b2 k f0)(f:∀ b∈[z,TI,TO,i1,i2],∀ o,h.get? b=some o→h'.get? b=some o):Zs h' z TI TO i1 i2 l1 l2 b1 b2 k f0:=by
 obtain⟨⟨u,e1⟩,e2,⟨a,b,e3⟩,e4,e5⟩:=x;exact⟨⟨u,f z (by simp) _ e1⟩,f TI (by simp) _ e2,⟨a,b,f TO (by simp) _ e3⟩,e4.at fun o e=>f i1 (by simp) o e,e5.at fun o e=>f i2 (by simp) o e⟩
theorem tW {z TI TO i1 i2 l1 l2:Addr}{b1 b2:Bool}{k:Nat}{xs ys:Array Value}{f0 x y:Value}{Q:Option Value→Shared→Prop}(D:ZipApart z TI TO i1 i2 l1 l2)
  (hz:Zs s.heap z TI TO i1 i2 l1 l2 b1 b2 k f0) (hf:f0=.none∨∃ (T:Addr) (o:Obj),f0=rawInt T∧T≠z∧T≠i1∧T≠i2∧s.heap.get? T=some o)
  (hl1:SOb s.heap b1 l1 xs) (hl2:SOb s.heap b2 l2 ys) (hx:xs[k]?=some x) (hy:ys[k]?=some y)
  (hQ:∀ h' g0,Zs h' z TI TO i1 i2 l1 l2 b1 b2 (k+1) g0→(g0=rawInt s.heap.objs.size∨g0=f0∧f0≠.none)→(f0=.none→g0=rawInt s.heap.objs.size)→IsPair h' s.heap.objs.size x y→h'.objs.size=s.heap.objs.size+1 →
   (∀ c o,c≠z→c≠TO→c≠i1→c≠i2→s.heap.get? c=some o→h'.get? c=some o)→Q (some (.ref s.heap.objs.size)) { s with heap:=h' }) :
  wpAny (model prog w) A (pyNext (.ref z)) Q E s:=by
 obtain⟨⟨u,e1⟩,e2,⟨a,b,e3⟩,e4,e5⟩:=hz;have hT:s.TypeIs (.ref z) "zip" := ⟨_,e1,rfl⟩;unfold pyNext;exact wpAny_bind (wpAny_attempt (wpAny_callSpecial?_slot (name:=Str.ofString "__next__") hT F.slot_zip_next
  (wpAny_call_entry F.slot_zip_next hT F.entry_zip_next
   (tV D e1 hf e2 e3 e4 e5 hl1 hl2 hx hy fun h' g0 g1 a1 a2 a2' a3 a4 a5 a6 a7 a8=>wpAny_pure (hQ h' g0 ⟨⟨g1,a1⟩,a8 _ _ D.TIz D.TITO D.TIi1 D.TIi2 e2,a3,a4,a5⟩ a2 a2' a6 a7 a8)) (F.args_zip_next_1 _))))
theorem tX {z TI TO i1 i2 l1 l2:Addr}{b1 b2:Bool}{k:Nat}{xs ys:Array Value}{f0:Value}{Q:Option Value→Shared→Prop}(hh:A.handled=none)(D:ZipApart z TI TO i1 i2 l1 l2)
  (hz:Zs s.heap z TI TO i1 i2 l1 l2 b1 b2 k f0) (hf:f0=.none∨∃ (T:Addr) (o:Obj),f0=rawInt T∧T≠z∧T≠i1∧T≠i2∧s.heap.get? T=some o)
  (hl1:SOb s.heap b1 l1 xs) (hl2:SOb s.heap b2 l2 ys) (hend:xs[k]?=none∨ys[k]?=none)
  (hQ:∀ h',(∀ c o,c≠z→c≠TO→c≠i1→c≠i2→s.heap.get? c=some o→h'.get? c=some o)→Q none { s with heap:=h' }):wpAny (model prog w) A (pyNext (.ref z)) Q E s:=by
 obtain⟨⟨u,e1⟩,e2,⟨a,b,e3⟩,e4,e5⟩:=hz;have hT:s.TypeIs (.ref z) "zip" := ⟨_,e1,rfl⟩;unfold pyNext;refine wpAny_bind (wpAny_attempt (wpAny_callSpecial?_slot (name:=Str.ofString "__next__") hT F.slot_zip_next
  (wpAny_call_entry F.slot_zip_next hT F.entry_zip_next (v5 hh D e1 hf e2 e3 e4 e5 hl1 hl2 hend fun h' e hk he=>?_) (F.args_zip_next_1 _))))
 obtain⟨o,ho,hc⟩:=he;refine wpAny_bind (wpAny_isInstance (T := "StopIteration") (b:=true) ⟨o,ho,hc⟩ isSubtype_stop ?_);exact wpAny_pure (hQ _ hk)
theorem tY {z TI TO i1 i2 l1 l2:Addr}{b1 b2:Bool}{k:Nat}{f0:Value}{Q:Value→Shared→Prop}(hz:Zs s.heap z TI TO i1 i2 l1 l2 b1 b2 k f0)(h:Q (.ref z) s):wpAny (model prog w) A (pyIter (.ref z)) Q E s:=by
 obtain⟨⟨u,e1⟩,_⟩:=hz;have hT:s.TypeIs (.ref z) "zip" := ⟨_,e1,rfl⟩;refine wpAny_pyIter_slot hT F.slot_zip_iter (wpAny_call_entry F.slot_zip_iter hT F.entry_zip_iter ?_ (F.args_zip_iter_1 _));show wpAny _ _ (ret (.ref z)) _ _ s;exact wpAny_pure ⟨_,rfl,"zip",_,hT,F.slot_zip_next.lookup,h⟩
abbrev zH1 (h:Heap)(b1:Bool)(l1:Addr):Heap:=h.push (itOb b1 l1)
abbrev zH2 (h:Heap)(b1 b2:Bool)(l1 l2:Addr):Heap:=(zH1 h b1 l1).push (itOb b2 l2)
abbrev zH3 (h:Heap)(b1 b2:Bool)(l1 l2:Addr):Heap:=(zH2 h b1 b2 l1 l2).push { cls:=.type "tuple",data:=.seq #[.ref h.objs.size,.ref (zH1 h b1 l1).objs.size] }
abbrev zH4 (h:Heap)(b1 b2:Bool)(l1 l2:Addr):Heap:=(zH3 h b1 b2 l1 l2).push { cls:=.type "tuple",data:=.seq #[.none,.none] }
abbrev zH5 (h:Heap)(b1 b2:Bool)(l1 l2:Addr):Heap:=(zH4 h b1 b2 l1 l2).push { cls:=.type "zip",data:=.fields #[.none,.bool false,.bool false,.ref (zH2 h b1 b2 l1 l2).objs.size,.ref (zH3 h b1 b2 l1 l2).objs.size] }
theorem rn (b1 b2:Bool)(l1 l2:Addr)(xs ys:Array Value) :
  Meets (Builtin.«zip.__new__» ⟨[.type "zip",.ref l1,.ref l2],[]⟩) (fun _ R s=>SOb s.heap b1 l1 xs∧SOb s.heap b2 l2 ys ∧
   R (.ok (.ret (.ref (zH4 s.heap b1 b2 l1 l2).objs.size))) { s with heap:=zH5 s.heap b1 b2 l1 l2 }) :=
 .of_wp fun prog w A R s h=>by
  obtain⟨hp,g,d,tk,os⟩:=s;obtain⟨hl1,hl2,h⟩:=h;have hsub:=sub_zip;have hL1:SOb (Shared.heap ⟨hp,g,d,tk,os⟩) b1 l1 xs:=hl1;have hL2:SOb (Shared.heap ⟨hp.push (itOb b1 l1),g,d,tk,os⟩) b2 l2 ys:=hl2.at fun o e=>Heap.get?_push_of_some _ e
  wp_walk using pX hL1,pX hL2
  exact⟨_,rfl,h⟩
theorem tZ {b1 b2:Bool}{l1 l2:Addr}{xs ys:Array Value}{Q:Value→Shared→Prop}(hl1:SOb s.heap b1 l1 xs)(hl2:SOb s.heap b2 l2 ys)
  (h:∀ h',Zs h' (s.heap.objs.size+4) (s.heap.objs.size+2) (s.heap.objs.size+3) s.heap.objs.size (s.heap.objs.size+1) l1 l2 b1 b2 0 .none→(∀ c o,s.heap.get? c=some o→h'.get? c=some o)→Q (.ref (s.heap.objs.size+4)) { s with heap:=h' }) :
  wpAny (model prog w) A (call (.type "zip") [.ref l1,.ref l2]) Q E s:=by
 refine callType_new F.called_zip (by decide) (F.typeCall_zip_2 _ _) (F.newCall_zip_2 _ _) (fun obj=>F.args_object_init_3 obj _ _) F.entry_zip_new
  (rn b1 b2 l1 l2 xs ys) ⟨hl1,hl2,?_⟩
 have z1:(zH1 s.heap b1 l1).objs.size=s.heap.objs.size+1:=Heap.size_push ..;have z2:(zH2 s.heap b1 b2 l1 l2).objs.size=s.heap.objs.size+2:=by rw[Heap.size_push,z1]
 have z3:(zH3 s.heap b1 b2 l1 l2).objs.size=s.heap.objs.size+3:=by rw[Heap.size_push,z2]
 have z4:(zH4 s.heap b1 b2 l1 l2).objs.size=s.heap.objs.size+4:=by rw[Heap.size_push,z3]
 have g5:(zH5 s.heap b1 b2 l1 l2).get? (zH4 s.heap b1 b2 l1 l2).objs.size=some _:=Heap.get?_push_size _ rfl;have g4:(zH5 s.heap b1 b2 l1 l2).get? (zH3 s.heap b1 b2 l1 l2).objs.size=some _:=Heap.get?_push_of_some _ (Heap.get?_push_size _ rfl);have g3:(zH5 s.heap b1 b2 l1 l2).get? (zH2 s.heap b1 b2 l1 l2).objs.size=some _:=Heap.get?_push_of_some _ (Heap.get?_push_of_some _ (Heap.get?_push_size _ rfl));have g2:(zH5 s.heap b1 b2 l1 l2).get? (zH1 s.heap b1 l1).objs.size=some (itOb b2 l2):=Heap.get?_push_of_some _ (Heap.get?_push_of_some _ (Heap.get?_push_of_some _ (Heap.get?_push_size _ rfl)));have g1:(zH5 s.heap b1 b2 l1 l2).get? s.heap.objs.size=some (itOb b1 l1):=Heap.get?_push_of_some _ (Heap.get?_push_of_some _ (Heap.get?_push_of_some _ (Heap.get?_push_of_some _ (Heap.get?_push_size _ rfl))));have mk:∀ {h:Heap} {b:Bool} {it a:Addr},h.get? it=some (itOb b a)→SIt h b it a 0:=fun {h b it a} e=>by cases b<;>exact⟨_,e,rfl,rfl⟩
 show _∧_;rw[z2,z3,z4]at g5;rw[z1,z2]at g3;rw[z3]at g4;rw[z1]at g2;rw[z4];exact⟨⟨_,g5,rfl⟩,h _ ⟨⟨false,g5⟩,g3,⟨_,_,g4⟩,mk g1,mk g2⟩ fun c o x =>
  Heap.get?_push_of_some _ (Heap.get?_push_of_some _ (Heap.get?_push_of_some _ (Heap.get?_push_of_some _ (Heap.get?_push_of_some _ x))))⟩
end
section
variable {X:Cx}{pins:List (Addr×Obj)}{σ:St}{H:Hp}{s:Shared}{h':Heap}
theorem m9 {h:Heap}{b:Addr}{o x:Obj}(q:b≠h.objs.size)(e:(h.push x).get? b=some o):h.get? b=some o:=by
 rcases Heap.get?_push_cases e with ⟨z,_⟩ | z
 ·exact absurd z q
 ·exact z
theorem turnedL {t':Nat}{fp:List Addr}(I:Inv X pins σ H s)(hf:∀ b∈fp,FpOk X pins H b)(k:∀ b o,b∉fp→s.heap.get? b=some o→h'.get? b=some o):Inv X pins σ H { s with heap:=h',toks:=t' }:=by
 have nit:∀ b u,H b=some u→b∉fp:=fun b u e z=>by rw[(hf b z).1]at e;cases e
 refine I.step (g':=s.gens) (d':=s.drawn) (ch:=fp) (fun b hb=>?_) (fun b o _ _ hc e _=>k b o hc e) (fun b o _ _ hc e _=>⟨o.slots,k b o hc e⟩) (fun _ _ _ _ n=>n)
  (fun b o hc e=>⟨o,k b o hc e⟩) (fun _ _ e=>e) (fun _ _ _ e=>e) (fun b ps e=>⟨#[],by rw[e];simp⟩) (fun m hm=>?_) (fun b u e=>?_) I.bare
 ·obtain⟨_,f1,f2,f3,f4,f5⟩:=hf b hb;exact⟨f3,f1,f4,f5⟩
 ·obtain⟨o,es,ep,ho,r⟩:=hm;exact⟨o,es,ep,k _ o (fun z=>(hf _ z).2.1 rfl) ho,r⟩
 ·refine(I.hok b u e).stay (fun c v hc q=>k c v ?_ q) (fun _ q=>q) fun _ _ q=>q
  rcases hc with z | z
  ·rw[z];exact nit b u e
  ·exact nit c _ z
theorem turnedP {t':Nat}{fp:List Addr}{x y:V}{u v:Value}(I:Inv X pins σ H s)(hf:∀ b∈fp,FpOk X pins H b)(hlt:∀ b∈fp,b≠s.heap.objs.size)(rx:RelV x u)(ry:RelV y v)(hp:IsPair h' s.heap.objs.size u v)
  (k:∀ b o,b∉fp→s.heap.get? b=some o→h'.get? b=some o):Inv X pins σ (upd H s.heap.objs.size (.tup [x,y])) { s with heap:=h',toks:=t' }:=by
 have I1:Inv X pins σ (upd H s.heap.objs.size (.tup [x,y])) { s with heap:=s.heap.push { cls:=.type "tuple",data:=.seq #[u,v] },toks:=s.toks }:=by
  refine I.laid (t':=s.toks) (fun b u e=>Heap.get?_push_of_some _ e) (Nat.le_refl _) ?_;exact⟨by show 2≤sizeLine;decide,[u,v],.cons rx (.cons ry .nil),TupO.new _ _⟩
 refine turnedL (s:={ s with heap:=s.heap.push { cls:=.type "tuple",data:=.seq #[u,v] },toks:=s.toks }) (fp:=fp) (t':=t') I1 (fun b hb=>?_) fun b o hb e=>?_
 ·obtain⟨f0,f1⟩:=hf b hb;exact⟨by rw[ag (hlt b hb)];exact f0,f1⟩
 ·by_cases q:b=s.heap.objs.size
  ·subst q;have e':some _=some o:=(Heap.get?_push_size s.heap (o:={ cls:=.type "tuple",data:=.seq #[u,v] }) rfl).symm.trans e;cases e';exact hp
  ·have e':s.heap.get? b=some o:=by
    exact m9 q e
   exact k b o hb e'
end
def SqB (K:Frag)(H:Hp)(b:Bool)(a:Addr)(xs:List V):Prop:=if b=true then SqT K H a xs else SqL K H a xs
theorem iJ {X:Cx}{pins:List (Addr×Obj)}{σ:St}{H:Hp}{s:Shared}{b:Bool}{a:Addr}{xs:List V}(I:Inv X pins σ H s)(h:SqB X.K H b a xs):∃ its:List Value,Vals xs its∧SOb s.heap b a its.toArray∧xs.length≤sizeLine:=by
 cases b with
 | true =>
  obtain⟨its,rv,p,hz⟩:=I.tuple h;exact⟨its,rv,p,hz⟩
 | false =>
  obtain⟨its,rv,p,hz⟩:=I.list h;exact⟨its,rv,p.isList,hz⟩
theorem SqB.mono {K:Frag}{Z H:Hp}{b:Bool}{a:Addr}{xs:List V}(h:SqB K Z b a xs)(z:Same Z H):SqB K H b a xs:=by
 cases b with
 | true=>exact(show SqT K Z a xs from h).mono z
 | false=>exact z.seq h
theorem t4 {K:Frag}{C:Nat→Addr}{Z:Hp}{d:D}{ds:List D}{v:V}(e:asSeq d=.ok ds)(r:Rep K C Z d v):∃ b a vs,v=.ref a∧SqB K Z b a vs∧Reps K C Z ds vs:=by
 cases d with
 | tup xs =>
  cases e;rw[Rep]at r;obtain⟨a,vs,rfl,h1,h2⟩:=r;exact⟨true,a,vs,rfl,h1,h2⟩
 | lst xs =>
  cases e;rw[Rep]at r;obtain⟨a,vs,rfl,h1,h2⟩:=r;exact⟨false,a,vs,rfl,h1,h2⟩
 | _=>cases e
theorem t5:bootBuiltins "zip"=some (.type "zip"):=by decide +kernel
theorem na:∀ (xs ys:List D),(zipD xs ys).length=min xs.length ys.length
 | a::xs,b::ys=>by show (zipD xs ys).length+1=_;rw[na xs ys,List.length_cons,List.length_cons];omega
 | [],ys=>by cases ys<;>simp[zipD]
 | _::_,[]=>by simp[zipD]
section
variable {X:Cx}{F:Fx}{a b:Expr}{ga gb:SS→R D}{k:Nat}
theorem t7 {S:SS}{α:Type}(f:D→D→R α):((aL [ga,gb]) S).bind (fun ds=>match ds with | [x,y]=>f x y | _=>R.stuck)=(ga S).bind fun x=>(gb S).bind fun y=>f x y:=by
 show (((ga S).bind fun d=>((gb S).bind fun d=>(R.ok []:R (List D)).bind fun ds=>R.ok (d::ds)).bind fun ds=>R.ok (d::ds))).bind _=_;cases ga S with
 | ok x=>cases gb S<;>rfl
 | err k=>rfl
 | stuck=>rfl
end
section
variable {prog:Program}{w:World}{A:Around}{R:Result→Shared→Prop}{I S:Addr}{res:Value}{n:Nat}
theorem t8 (J:Nat→Shared→Prop)(hn:n≤sizeLine)
  (item:∀ i s,i < n→J i s→wpAny (model prog w) A.in1 (pyNext (.ref I)) (fun r s'=>∃ v acc c,r=some v∧s'.heap.get? S=some { cls:=.type "list",dict:=none,data:=.seq acc c,slots:=#[] }∧acc.size=i∧J (i+1) { s' with heap:=s'.heap.update S (Obj.mapSeq (·.push v)) }) (fun e s'=>R (.error e) s') s)
  (done:∀ s,J n s→wpAny (model prog w) A.in1 (pyNext (.ref I)) (fun r s'=>r=none∧R (.ok (.ret res)) s') (fun e s'=>R (.error e) s') s) :
  ∀ (k i:Nat) (s:Shared),n - i=k→i≤n→J i s→codeAny (model prog w) A (.builtin "list.extend.loop" ⟨[.ref S,.ref I,res],[]⟩) R s:=by
 intro k
 induction k with
 | zero =>
  intro i s hk hi hj;have hin:i=n:=by omega
  subst hin;refine codeAny_builtin F.entry_extend_loop ?_;rw[Around.under_plainId F.plain_extend_loop _];show wpAny _ A.in1 (pyNext (.ref I) >>= _) _ _ s;refine wpAny_bind (wpAny_mono (done s hj) (fun r s' h=>?_) fun _ _ e=>e);obtain⟨rfl,h⟩:=h;exact wpAny_pure h
 | succ k ih =>
  intro i s hk hi hj;have hlt:i < n:=by omega
  refine codeAny_builtin F.entry_extend_loop ?_;rw[Around.under_plainId F.plain_extend_loop _];show wpAny _ A.in1 (pyNext (.ref I) >>= _) _ _ s;refine wpAny_bind (wpAny_mono (item i s hlt hj) (fun r s' h=>?_) fun _ _ e=>e);obtain⟨v,acc,c,rfl,hS,hacc,hj'⟩:=h;show wpAny _ A.in1 (updateSeq S (·.push v) >>= _) _ _ _;refine wpAny_bind ?_;exact wpAny_updateSeq hS rfl (wpAny_pure ⟨plainId_quiet F.plain_extend_loop _,ih (i+1) _ (by omega) hlt hj'⟩)
   (by rw[hacc];omega) (by show (acc.push v).size≤sizeLine+1;rw[Array.size_push,hacc];omega)
theorem oC:typeLookup (.type "zip") "__len__"=pure none:=by rw[typeLookup_type,builtinLookup_eq_fast];kernel_rfl
theorem nb:typeLookup (.type "zip") "__length_hint__"=pure none:=by rw[typeLookup_type,builtinLookup_eq_fast];kernel_rfl
theorem v6 {s:Shared}{z TI TO i1 i2 l1 l2:Addr}{b1 b2:Bool}{k:Nat}{f0:Value}{c₀:Nat}(hz:Zs s.heap z TI TO i1 i2 l1 l2 b1 b2 k f0)(hS:s.heap.get? S=some { cls:=.type "list",data:=.seq #[] c₀ })
  (go:∀ f:Obj→Obj,codeAny (model prog w) A (.builtin "list.extend.loop" ⟨[.ref S,.ref z,res],[]⟩) R { s with heap:=(s.heap.update S (Obj.mapSeq (·.push Value.none))).update S (Obj.mapSeq (·.pop)) }) :
  wpAny (model prog w) A.in1 (Builtin.List.listExtendWith (.ref S) (.ref z) res)
   (fun fin s'=>match fin with | .done f=>R (.ok f) s' | .again c'=>c'.quiet=true∧codeAny (model prog w) A c' R s') (fun e s'=>R (.error e) s') s:=by
 obtain⟨⟨u,e1⟩,_⟩:=id hz;have hT:s.TypeIs (.ref z) "zip" := ⟨_,e1,rfl⟩;have hSI:S≠z:=fun e=>by subst e;have q:some (Value.type "list")=some (Value.type "zip"):=congrArg (fun o=>o.map Obj.cls) (hS.symm.trans e1);revert q;decide
 unfold Builtin.List.listExtendWith;refine wpAny_bind (wpAny_typeOf hT ?_);have h1:Builtin.List.listSameRef (.ref S) (.ref z)=false:=by simp[Builtin.List.listSameRef,hSI]
 have h2:(Value.type "zip" == Value.type "list")=false:=by decide
 have h3:(Value.type "zip" == Value.type "tuple")=false:=by decide
 simp only[h1,h2,h3,Bool.or_false,Bool.false_eq_true,if_false];refine wpAny_bind (tY hz ?_);refine wpAny_bind (wpAny_holding ?_);unfold Builtin.List.listLengthHint;refine wpAny_bind (wpAny_specialOf hT oC ?_);show wpAny _ A.in1 (specialOf (Value.ref z) (Str.ofString "__length_hint__") >>= _) _ _ _;refine wpAny_bind (wpAny_specialOf hT nb ?_);refine wpAny_pure ?_;show wpAny _ A.in1 (rule "list.extend.makes-room" >>= fun _=>Builtin.List.listTouch (.ref S) >>= fun _ =>
  again (.builtin "list.extend.loop" ⟨[.ref S,.ref z,res],[]⟩)) _ _ _
 refine wpAny_bind (wpAny_rule ?_);refine wpAny_bind ?_;show wpAny _ A.in1 (updateSeq S (·.push .none) >>= fun _=>updateSeq S (·.pop)) _ _ _;refine wpAny_bind (wpAny_updateSeq hS rfl ?_);have hS₂:=Heap.get?_update_self (Obj.mapSeq (·.push Value.none)) hS rfl;refine wpAny_updateSeq (hz:=by seq_fits) hS₂ rfl ?_;exact wpAny_pure ⟨plainId_quiet F.plain_extend_loop _,go id⟩
theorem t9 {s:Shared}{z TI TO i1 i2 l1 l2:Addr}{b1 b2:Bool}{k:Nat}{f0:Value}(hz:Zs s.heap z TI TO i1 i2 l1 l2 b1 b2 k f0)(hf:S∉[z,TI,TO,i1,i2])(hS:s.heap.get? S=some { cls:=.type "list",data:=.seq #[] })
  (go:codeAny (model prog w) A (.builtin "list.extend.loop" ⟨[.ref S,.ref z,.none],[]⟩) R { s with heap:=((s.heap.update S (Obj.mapSeq (fun _=>#[]))).update S (Obj.mapSeq (·.push Value.none))).update S (Obj.mapSeq (·.pop)) }) :
  wpAny (model prog w) A.in1 (Builtin.«list.__init__» ⟨[.ref S,.ref z],[]⟩)
   (fun fin s'=>match fin with | .done f=>R (.ok f) s' | .again c'=>c'.quiet=true∧codeAny (model prog w) A c' R s') (fun e s'=>R (.error e) s') s:=by
 show wpAny _ A.in1 (do let old ← Builtin.List.listItems (.ref S);Builtin.List.listUpdate (.ref S) (fun _=>#[]);letGo old.toList.reverse;Builtin.List.listExtendWith (.ref S) (.ref z) .none) _ _ s;refine wpAny_bind ?_;unfold Builtin.List.listItems;refine wpAny_bind (wpAny_seqItems hS rfl (wpAny_pure ?_));show wpAny _ A.in1 (updateSeq S (fun _=>#[]) >>= fun _=>letGo (#[]:Array Value).toList.reverse >>= fun _=>Builtin.List.listExtendWith (.ref S) (.ref z) .none) _ _ s;refine wpAny_bind (wpAny_updateSeq hS rfl ?_);have hS₂:=Heap.get?_update_self (Obj.mapSeq (fun _=>(#[]:Array Value))) hS rfl;refine wpAny_bind (wpAny_letGo ?_);exact v6 (hz.at fun b hb o e=>(Heap.get?_update_other _ _ (fun q:S=b=>hf (q ▸ hb))).trans e) hS₂ fun _=>go
theorem ua {s:Shared}{E:Value→Shared→Prop}{Q:Value→Shared→Prop}{z TI TO i1 i2 l1 l2:Addr}{b1 b2:Bool}{k:Nat}{f0:Value}(hz:Zs s.heap z TI TO i1 i2 l1 l2 b1 b2 k f0)
  (go:∀ R:Result→Shared→Prop,(∀ s',Q (.ref s.heap.objs.size) s'→R (.ok (.ret .none)) s')→(∀ e s',E e s'→R (.error e) s')→codeAny (model prog w) A.in1 (.builtin "list.extend.loop" ⟨[.ref s.heap.objs.size,.ref z,.none],[]⟩) R
   { s with heap:=(((s.heap.push { cls:=.type "list",data:=.seq #[] }).update s.heap.objs.size (Obj.mapSeq (fun _=>#[]))).update s.heap.objs.size (Obj.mapSeq (·.push Value.none))).update s.heap.objs.size (Obj.mapSeq (·.pop)) }) :
  wpAny (model prog w) A (call (.type "list") [.ref z]) Q E s:=by
 refine callType_codes (Q₁:=fun obj s₁=>obj=.ref s.heap.objs.size∧s₁={ s with heap:=s.heap.push { cls:=.type "list",data:=.seq #[] } }) F.called_list (F.typeCall_list_1 _) F.entry_list_init
  (code_list_new _ ⟨rfl,rfl⟩) fun obj s₁ h₁=>?_
 obtain⟨rfl,rfl⟩:=h₁;have hS:(s.heap.push { cls:=.type "list",data:=.seq #[] }).get? s.heap.objs.size=some { cls:=.type "list",data:=.seq #[] }:=Heap.get?_push_size _ rfl;have hf:s.heap.objs.size∉[z,TI,TO,i1,i2]:=fun hb=>by
  obtain⟨⟨u,e1⟩,e2,⟨p,q,e3⟩,e4,e5⟩:=hz;simp only[List.mem_cons,List.not_mem_nil,or_false]at hb;rcases hb with hb | hb | hb | hb | hb
  ·exact Nat.lt_irrefl _ (hb ▸ Heap.lt_size e1)
  ·exact Nat.lt_irrefl _ (hb ▸ Heap.lt_size e2)
  ·exact Nat.lt_irrefl _ (hb ▸ Heap.lt_size e3)
  ·obtain⟨o,ho,_⟩:=e4.lt;exact Nat.lt_irrefl _ (hb ▸ Heap.lt_size ho)
  ·obtain⟨o,ho,_⟩:=e5.lt;exact Nat.lt_irrefl _ (hb ▸ Heap.lt_size ho)
 refine⟨⟨_,hS,rfl⟩,F.args_list_init_2 _ _,t9 (hz.at fun b hb o e=>Heap.get?_push_of_some _ e) hf hS (go _ (fun s' h=>⟨rfl,h⟩) fun e s' h=>h)⟩
end
theorem jg {H:Hp}{p:Addr}{a b:HO}:upd (upd H p a) p b=upd H p b:=by
 funext c
 by_cases h:c=p
 ·subst h;rw[ai,ai]
 ·rw[ag h,ag h,ag h]
theorem lI:bootBuiltins "list"=some (.type "list"):=by decide +kernel
structure LzJ (X:Cx)(pins:List (Addr×Obj))(σ:St)(H1:Hp)(S z TI TO i1 i2 a1 a2:Addr)(b1 b2:Bool)(xs ys:List V)(i:Nat)(s:Shared):Prop where
 ex:∃ H vs f0,Inv X pins σ H s∧H S=some (.lst vs)∧vs.length=i∧Zs s.heap z TI TO i1 i2 a1 a2 b1 b2 i f0∧(f0=.none∨∃ (T:Addr) (t:List V),f0=rawInt T∧H T=some (.tup t))∧(∀ b∈[z,TI,TO,i1,i2],FpOk X pins H b)∧Same H1 H ∧
  ∀ (j:Nat) (x y v:V),xs[j]?=some x→ys[j]?=some y→vs[j]?=some v→∃ p,v=V.ref p∧H1 p=none∧H p=some (.tup [x,y])
section
variable {X:Cx}{pins:List (Addr×Obj)}{σ:St}{H1:Hp}{S z TI TO i1 i2 a1 a2:Addr}{b1 b2:Bool}{xs ys:List V}
theorem nc {H:Hp}{s:Shared}{f0:Value}(I:Inv X pins σ H s)(hf:∀ b∈[z,TI,TO,i1,i2],FpOk X pins H b)(h:f0=.none∨∃ (T:Addr) (t:List V),f0=rawInt T∧H T=some (.tup t)) :
  f0=.none∨∃ (T:Addr) (o:Obj),f0=rawInt T∧T≠z∧T≠i1∧T≠i2∧s.heap.get? T=some o:=by
 rcases h with h | ⟨T,t,e,hT⟩
 ·exact .inl h
 ·have ne:∀ b∈[z,TI,TO,i1,i2],T≠b:=fun b hb q=>by subst q;rw[(hf T hb).1]at hT;cases hT
  obtain⟨_,_,_,o,ho,_⟩:=I.hok T _ hT;exact .inr ⟨T,o,e,ne z (by simp),ne i1 (by simp),ne i2 (by simp),ho⟩
theorem v7 {A:Around}{E:Value→Shared→Prop}{s:Shared}{i:Nat}(D:ZipApart z TI TO i1 i2 a1 a2)(h1:SqB X.K H1 b1 a1 xs)(h2:SqB X.K H1 b2 a2 ys)(hS1:H1 S=none)(hi:i < min xs.length ys.length)(hz:min xs.length ys.length≤sizeLine)(J:LzJ X pins σ H1 S z TI TO i1 i2 a1 a2 b1 b2 xs ys i s) :
  wpAny (model X.prog X.w) A (pyNext (.ref z)) (fun r s'=>∃ v acc c,r=some v∧s'.heap.get? S=some { cls:=.type "list",dict:=none,data:=.seq acc c,slots:=#[] }∧acc.size=i∧LzJ X pins σ H1 S z TI TO i1 i2 a1 a2 b1 b2 xs ys (i+1) { s' with heap:=s'.heap.update S (Obj.mapSeq (·.push v)) }) E s:=by
 obtain⟨H,vs,f0,I,hS,hl,zs,hf0,hf,sm,pr⟩:=J.ex;have q1:=h1.mono sm;have q2:=h2.mono sm;obtain⟨is1,rv1,o1,_⟩:=iJ I q1;obtain⟨is2,rv2,o2,_⟩:=iJ I q2;have hx:xs[i]?=some xs[i]:=List.getElem?_eq_getElem (by omega);have hy:ys[i]?=some ys[i]:=List.getElem?_eq_getElem (by omega);obtain⟨u,hu,ru⟩:=rv1.get hx;obtain⟨v,hv,rv⟩:=rv2.get hy;obtain⟨its,n,r,eS,_⟩:=I.lst hS;have lt:∀ b∈[z,TI,TO,i1,i2],b≠s.heap.objs.size:=fun b hb=>by
  obtain⟨⟨u,e1⟩,e2,⟨p,q,e3⟩,e4,e5⟩:=zs;simp only[List.mem_cons,List.not_mem_nil,or_false]at hb;rcases hb with rfl | rfl | rfl | rfl | rfl
  ·exact Nat.ne_of_lt (Heap.lt_size e1)
  ·exact Nat.ne_of_lt (Heap.lt_size e2)
  ·exact Nat.ne_of_lt (Heap.lt_size e3)
  ·obtain⟨o,ho,_⟩:=e4.lt;exact Nat.ne_of_lt (Heap.lt_size ho)
  ·obtain⟨o,ho,_⟩:=e5.lt;exact Nat.ne_of_lt (Heap.lt_size ho)
 have neS:∀ b∈[z,TI,TO,i1,i2],S≠b:=fun b hb q=>by subst q;rw[(hf S hb).1]at hS;cases hS
 have nS:S≠s.heap.objs.size:=Nat.ne_of_lt (Heap.lt_size eS);refine tW D zs (nc I hf hf0) o1 o2 (x:=u) (y:=v) (by simpa using hu) (by simpa using hv) fun h' g0 c1 c2 _ c3 c4 c5=>?_
 have k2:∀ b o,b∉[z,TI,TO,i1,i2]→s.heap.get? b=some o→h'.get? b=some o:=fun b o hb e=>by
  simp only[List.mem_cons,List.not_mem_nil,or_false,not_or]at hb;exact c5 b o hb.1 hb.2.2.1 hb.2.2.2.1 hb.2.2.2.2 e
 have I2:Inv X pins σ (upd H s.heap.objs.size (.tup [xs[i],ys[i]])) { s with heap:=h',toks:=s.toks }:=turnedP I hf lt ru rv c3 k2;have eS':h'.get? S=some { cls:=.type "list",data:=.seq its.toArray n }:=k2 _ _ (fun hb=>neS S hb rfl) eS;have hl':=r.length;refine⟨_,its.toArray,n,rfl,eS',by simp;omega,?_⟩;have I3:=Inv.lset (t':=s.toks) (ys:=vs++[.ref s.heap.objs.size]) (its':=its++[.ref s.heap.objs.size]) (f:=(·.push (.ref s.heap.objs.size))) I2 (l:=S) (xs:=vs) (by rw[ag nS];exact hS) eS' (by simp) (show Vals (vs++[V.ref s.heap.objs.size]) (its++[Value.ref s.heap.objs.size]) from r.append (.cons (show RelV (V.ref s.heap.objs.size) (Value.ref s.heap.objs.size) from rfl) .nil)) (by simp only[List.length_append,List.length_cons,List.length_nil];omega);have fr:H s.heap.objs.size=none:=I.hok.fresh (Nat.le_refl _);refine⟨_,vs++[.ref s.heap.objs.size],g0,I3,ai,by simp[hl],c1.at fun b hb o e=>(Heap.get?_update_other _ _ (neS b hb)).trans e,?_,fun b hb=>?_,fun b o e=>?_,fun j x y w ex ey ew=>?_⟩
 ·rcases c2 with e | ⟨e,ne⟩
  ·exact .inr ⟨s.heap.objs.size,[xs[i],ys[i]],e,by rw[ag (Ne.symm nS),ai]⟩
  ·rcases hf0 with z0 | ⟨T,t,e2,hT⟩
   ·exact absurd z0 ne
   ·refine .inr ⟨T,t,e.trans e2,?_⟩;rw[ag (fun q=>by subst q;rw[hS]at hT;cases hT),ag (fun q=>by subst q;rw[fr]at hT;cases hT)];exact hT
 ·obtain⟨f0,f1⟩:=hf b hb;exact⟨by rw[ag (Ne.symm (neS b hb)),ag (lt b hb)];exact f0,f1⟩
 ·rw[ag (fun q=>by subst q;rw[hS1]at e;cases e),ag (fun q=>by subst q;have:=sm _ _ e;rw[fr]at this;cases this)];exact sm b o e
 ·by_cases hj:j < vs.length
  ·rw[List.getElem?_append_left hj]at ew;obtain⟨p,e1,e2,e3⟩:=pr j x y w ex ey ew;refine⟨p,e1,e2,?_⟩;rw[ag (fun q=>by subst q;rw[hS]at e3;cases e3),ag (fun q=>by subst q;rw[fr]at e3;cases e3)];exact e3
  ·rw[List.getElem?_append_right (by omega)]at ew;have hj':j=i:=by
    have:=(List.getElem?_eq_some_iff.mp ew).1;simp only[List.length_cons,List.length_nil]at this;omega
   subst hj';rw[hl,Nat.sub_self]at ew;cases ew;rw[hx]at ex;rw[hy]at ey;cases ex;cases ey;refine⟨s.heap.objs.size,rfl,?_,by rw[ag (Ne.symm nS),ai]⟩;cases q:H1 s.heap.objs.size with
   | none=>rfl
   | some o=>have:=sm _ _ q;rw[fr]at this;cases this
theorem ng {a b:Expr}{ta:TA}{p p2 pos pos2:Pos}(hc:X.calm=true)(hg:Gl X "list")(hm:X.mg "list"=none)(hg2:Gl X "zip")(hm2:X.mg "zip"=none)(ha:PA X [a,b] ta)
  (hs:starEach [a,b] X.env=[(false,eval a X.env),(false,eval b X.env)]) (hs2:starEach [b] X.env=[(false,eval b X.env)]) (hs3:starEach [.Call (.Name "zip" p2) [a,b] [] pos2] X.env=[(false,eval (.Call (.Name "zip" p2) [a,b] [] pos2) X.env)]) :
  PE X (.Call (.Name "list" p) [.Call (.Name "zip" p2) [a,b] [] pos2] [] pos) (fun σ H Q=>ta σ H fun ws H1=>∃ b1 b2 a1 a2 xs ys,ws=[.ref a1,.ref a2]∧SqB X.K H1 b1 a1 xs∧SqB X.K H1 b2 a2 ys ∧
   ∀ l vs H2,Same H1 H2→H1 l=none→H2 l=some (.lst vs)→vs.length=min xs.length ys.length→(∀ (j:Nat) (x y v:V),xs[j]?=some x→ys[j]?=some y→vs[j]?=some v→∃ p,v=V.ref p∧H1 p=none∧H2 p=some (.tup [x,y]))→Q (.ref l) H2):=by
 intro pins s σ H Q I h;refine Call_ (gu I hg hm lI (PyProof.Rows.callWith_type1 ?_ (by rw[hs3];rfl) (by rfl)));rw[hs3];refine Calls.spliced_cons ?_;refine Call_ (gu I hg2 hm2 t5 (PyProof.Rows.callWith_type1 (thn (ha pos2 pins s σ H _ I h) fun us s1 ⟨vs,H1,I1,r1,q1⟩=>?_) (by rw[hs,hs2]) (by rw[hs2];rfl)));obtain⟨b1,b2,a1,a2,xs,ys,e,hx,hy,q⟩:=q1;subst e;cases r1 with
 | cons r rr =>
  cases rr with
  | cons r' rr =>
   cases rr;cases r;cases r';obtain⟨is1,rv1,o1,z1⟩:=iJ I1 hx;obtain⟨is2,rv2,o2,z2⟩:=iJ I1 hy;have lt:∀ {b:Bool} {a:Addr} {is:Array Value},SOb s1.heap b a is→a < s1.heap.objs.size:=fun {b a is} o=>by cases b<;>(obtain⟨_,e,_⟩:=o;exact Heap.lt_size e)
   have D:=zipApart_new (lt o1) (lt o2);refine tZ o1 o2 fun h' zs hk=>Calls.spliced_nil ?_
   have I2:Inv X pins σ H1 { s1 with heap:=h',toks:=s1.toks }:=I1.kept hk;have hf2:∀ b∈[s1.heap.objs.size+4,s1.heap.objs.size+2,s1.heap.objs.size+3,s1.heap.objs.size,s1.heap.objs.size+1],FpOk X pins H1 b:=fun c hc=>by
    have hb:s1.heap.objs.size≤c:=by
     simp only[List.mem_cons,List.not_mem_nil,or_false]at hc;rcases hc with rfl | rfl | rfl | rfl | rfl
     ·exact Nat.le_add_right _ _
     ·exact Nat.le_add_right _ _
     ·exact Nat.le_add_right _ _
     ·exact Nat.le_refl _
     ·exact Nat.le_add_right _ _
    exact I1.fpOk hb (I1.hok.fresh hb)
   have fr:H1 h'.objs.size=none:=I2.hok.fresh (Nat.le_refl _);refine ua (s:={ s1 with heap:=h' }) zs fun R hR hE=>?_
   have I3:=Inv.lnew (t':=s1.toks) (ys:=[]) (its:=[]) I2 .nil (Nat.zero_le _);have e3:(h'.push { cls:=.type "list",data:=.seq #[] }).get? h'.objs.size=some { cls:=.type "list",data:=.seq ([]:List Value).toArray 0 }:=Heap.get?_push_size _ rfl;have I4:=Inv.lset (t':=s1.toks) (ys:=[]) (its':=[]) (f:=fun _=>#[]) I3 (l:=h'.objs.size) ai e3 rfl .nil (Nat.zero_le _);obtain⟨its4,n4,r4,e4,_⟩:=I4.lst ai;cases r4;have I5:=Inv.lset (t':=s1.toks) (ys:=[.non]) (its':=[.none]) (f:=(·.push Value.none)) I4 (l:=h'.objs.size) ai e4 rfl (.cons (show RelV .non Value.none from rfl) .nil) (by show 1≤sizeLine;decide);obtain⟨its5,n5,r5,e5,_⟩:=I5.lst ai;cases r5 with
   | cons p5 q5 =>
    cases q5;have I6:=Inv.lset (t':=s1.toks) (ys:=[]) (its':=[]) (f:=(·.pop)) I5 (l:=h'.objs.size) ai e5 rfl .nil (Nat.zero_le _);rw[jg,jg,jg]at I6;have ltz:∀ b∈[s1.heap.objs.size+4,s1.heap.objs.size+2,s1.heap.objs.size+3,s1.heap.objs.size,s1.heap.objs.size+1],h'.objs.size≠b:=fun b hb=>by
     obtain⟨⟨u,e1⟩,e2,⟨p,q,e3⟩,e4,e5⟩:=zs;simp only[List.mem_cons,List.not_mem_nil,or_false]at hb;rcases hb with rfl | rfl | rfl | rfl | rfl
     ·exact Nat.ne_of_gt (Heap.lt_size e1)
     ·exact Nat.ne_of_gt (Heap.lt_size e2)
     ·exact Nat.ne_of_gt (Heap.lt_size e3)
     ·obtain⟨o,ho,_⟩:=e4.lt;exact Nat.ne_of_gt (Heap.lt_size ho)
     ·obtain⟨o,ho,_⟩:=e5.lt;exact Nat.ne_of_gt (Heap.lt_size ho)
    refine t8 (n:=min xs.length ys.length) (LzJ X pins σ H1 h'.objs.size _ _ _ _ _ a1 a2 b1 b2 xs ys) (by omega) (fun i s' hi J=>v7 D hx hy fr hi (by omega) J) (fun s' J=>?_) _ 0 _ rfl (Nat.zero_le _) ?_
    ·obtain⟨H,vs,f0,J1,hS,hl,zs',hf0,hf,sm,pr⟩:=J.ex;obtain⟨js1,rw1,p1,_⟩:=iJ J1 (hx.mono sm);obtain⟨js2,rw2,p2,_⟩:=iJ J1 (hy.mono sm);have l1:=rw1.length;have l2:=rw2.length;refine tX (show X.A.in1.in1.handled=none from I.ok.hd hc) D zs' (nc J1 hf hf0) p1 p2 (by
      rcases Nat.le_total xs.length ys.length with h | h
      ·exact .inl (by simp;omega)
      ·exact .inr (by simp;omega)) fun h2 hk2=>⟨rfl,hR _ ⟨.ref h'.objs.size,H,turnedL (t':=s'.toks) J1 hf fun b o hb e=>?_,rfl,q _ vs H sm fr hS hl pr⟩⟩
     simp only[List.mem_cons,List.not_mem_nil,or_false,not_or]at hb;exact hk2 b o hb.1 hb.2.2.1 hb.2.2.2.1 hb.2.2.2.2 e
    ·refine⟨_,[],.none,I6,ai,rfl,zs.at fun b hb o e=>?_,.inl rfl,fun b hb=>?_,aC fr,fun j x y v _ _ ev=>by simp at ev⟩
     ·exact(Heap.get?_update_other _ _ (ltz b hb)).trans ((Heap.get?_update_other _ _ (ltz b hb)).trans ((Heap.get?_update_other _ _ (ltz b hb)).trans (Heap.get?_push_of_some _ e)))
     ·obtain⟨f0,f1⟩:=hf2 b hb;exact⟨by rw[ag (Ne.symm (ltz b hb))];exact f0,f1⟩
end
theorem ub {H1 Z H2:Hp}(z:Same Z H1)(s:Same H1 H2):Ex H1 Z H2 (fun b=>if H1 b=none then H2 b else Z b):=by
 refine⟨s,fun b o e=>?_,fun b o e=>?_,fun b hb=>?_⟩
 ·show (if H1 b=none then H2 b else Z b)=some o;rw[if_neg (by rw[z b o e];simp)];exact e
 ·have e':(if H1 b=none then H2 b else Z b)=some o:=e;split at e'
  ·exact e'
  ·exact s b o (z b o e')
 ·by_cases q:H1 b=none
  ·exact .inr q
  ·have hb':(if H1 b=none then H2 b else Z b)≠none:=hb;rw[if_neg q]at hb';exact .inl hb'
theorem mr {K:Frag}{C:Nat→Addr}{Z:Hp}:∀ {ds:List D} {vs:List V},ds.length=vs.length→(∀ (j:Nat) (d:D) (v:V),ds[j]?=some d→vs[j]?=some v→Rep K C Z d v)→Reps K C Z ds vs
 | [],[],_,_=>Reps.nil
 | d::ds,v::vs,hl,h=>Reps.cons (h 0 d v rfl rfl) (mr (by simpa using hl) fun j d' v' e1 e2=>h (j+1) d' v' (by simpa using e1) (by simpa using e2))
 | [],_::_,hl,_=>by simp at hl
 | _::_,[],hl,_=>by simp at hl
theorem nh:∀ {xs ys:List D} {i:Nat} {d:D},(zipD xs ys)[i]?=some d→∃ x y,xs[i]?=some x∧ys[i]?=some y∧d=.tup [x,y]
 | a::xs,b::ys,0,d,h=>by cases h;exact⟨a,b,rfl,rfl,rfl⟩
 | a::xs,b::ys,i+1,d,h=>by
  obtain⟨x,y,h1,h2,h3⟩:=nh (xs:=xs) (ys:=ys) (i:=i) (by simpa [zipD] using h);exact⟨x,y,by simpa using h1,by simpa using h2,h3⟩
 | [],ys,i,d,h=>by cases ys<;>simp[zipD]at h
 | _::_,[],i,d,h=>by simp[zipD]at h
section
variable {X:Cx}{F:Fx}{a b:Expr}{ga gb:SS→R D}{k:Nat}
theorem ni {p p2 pos pos2:Pos}(bx:BX X F k)(hg:Gl X "list")(hm:X.mg "list"=none)(hg2:Gl X "zip")(hm2:X.mg "zip"=none)(ha:FAL X F [a,b] [ga,gb])
  (hs:starEach [a,b] X.env=[(false,eval a X.env),(false,eval b X.env)]:=by rfl) (hs2:starEach [b] X.env=[(false,eval b X.env)]:=by rfl) (hs3:starEach [.Call (.Name "zip" p2) [a,b] [] pos2] X.env=[(false,eval (.Call (.Name "zip" p2) [a,b] [] pos2) X.env)]:=by rfl) :
  FE X F (.Call (.Name "list" p) [.Call (.Name "zip" p2) [a,b] [] pos2] [] pos) (fun S=>((ga S).bind fun x=>(gb S).bind fun y=>dZip x y).bind fun zs=>R.ok (FF.D.lst zs)) :=
 (ng bx.calm hg hm hg2 hm2 (FAL.out ha) hs hs2 hs3).weak fun σ H Q ⟨Z,S,ok,w⟩=>by
  have w:WG F H Z (((ga S).bind fun x=>(gb S).bind fun y=>dZip x y).bind fun zs=>R.ok (FF.D.lst zs)) _:=w;rw[← t7,R.bind_assoc]at w;refine bj ok w fun ds vs H1 Z1 ok1 x1 rs w1=>?_
  obtain⟨dx,dy,rfl⟩:∃ dx dy,ds=[dx,dy]:=by
   rcases ds with _ | ⟨dx,_ | ⟨dy,_ | ⟨dz,r⟩⟩⟩
   ·exact False.elim w1
   ·exact False.elim w1
   ·exact⟨dx,dy,rfl⟩
   ·exact False.elim w1
  focus
   have w2:WG F H1 Z1 ((dZip dx dy).bind fun zs=>R.ok (FF.D.lst zs)) _:=w1;unfold dZip sq at w2;rw[Reps]at rs;obtain⟨v1,r,rfl,q1,rs⟩:=rs;rw[Reps]at rs;obtain⟨v2,r,rfl,q2,rs⟩:=rs;rw[Reps]at rs;subst rs;cases e1:asSeq dx with
   | err k=>rw[e1]at w2;cases dx<;>cases e1
   | stuck=>rw[e1]at w2;exact w2.elim
   | ok xs =>
    rw[e1]at w2;have w3:WG F H1 Z1 ((R.bind (if xs.length≤16777216 then R.ok xs else R.stuck) fun xs=>((asSeq dy).bind fun ds=>if ds.length≤16777216 then R.ok ds else R.stuck).bind fun ys=>R.ok (zipD xs ys)).bind fun zs=>R.ok (FF.D.lst zs)) _:=w2;split at w3
    ·rename_i hl1;cases e2:asSeq dy with
     | err k=>rw[e2]at w3;cases dy<;>cases e2
     | stuck=>rw[e2]at w3;exact w3.elim
     | ok ys =>
      rw[e2]at w3;have w4:WG F H1 Z1 ((R.bind (if ys.length≤16777216 then R.ok ys else R.stuck) fun ys=>R.ok (zipD xs ys)).bind fun zs=>R.ok (FF.D.lst zs)) _:=w3;split at w4
      ·obtain⟨b1,a1,us1,rfl,s1,t1⟩:=t4 e1 q1;obtain⟨b2,a2,us2,rfl,s2,t2⟩:=t4 e2 q2;rw[bx.K];have l1:=t1.length;have l2:=t2.length;refine⟨b1,b2,a1,a2,us1,us2,rfl,s1.mono ok1.sub,s2.mono ok1.sub,fun l vs H2 sm hl e hv pr=>?_⟩;have w5:WG F H1 Z1 (R.ok (FF.D.lst (zipD xs ys))) _:=w4;have zz:Same Z1 (fun b=>if H1 b=none then H2 b else Z1 b):=(ub ok1.sub sm).z;refine w5 H2 _ (ub ok1.sub sm) _ ?_;rw[Rep];refine⟨l,vs,rfl,SqL.of (by show (if H1 l=none then H2 l else Z1 l)=_;rw[if_pos hl];exact e),mr (by rw[na,hv];omega) fun j d v ed ev=>?_⟩;obtain⟨x,y,f1,f2,rfl⟩:=nh ed;obtain⟨u1,g1,k1⟩:=t1.get f1;obtain⟨u2,g2,k2⟩:=t2.get f2;obtain⟨p,rfl,hp1,hp2⟩:=pr j u1 u2 v g1 g2 ev;rw[Rep];exact⟨p,[u1,u2],rfl,SqT.of (by show (if H1 p=none then H2 p else Z1 p)=_;rw[if_pos hp1];exact hp2),Reps.cons (k1.mono zz) (Reps.cons (k2.mono zz) Reps.nil)⟩
      ·exact w4.elim
    ·exact w3.elim
end
def TabE (C:Nat→Addr):List DictEntry→List (Str×Nat)→Prop
 | [],[]=>True
 | e::es,p::l=>(∃ t,e.key=.str p.1 t)∧e.val=.ref (C p.2)∧TabE C es l
 | _,_=>False
def TabK (K:Frag)(C:Nat→Addr)(P:Params)(a:Addr)(l:List (Str×Nat)):Prop :=
 ∃ es n,K.lookup a=some ⟨.type "dict",none,.dict es n,#[]⟩∧PySem.W.KeysLit P es.toList∧TabE C es.toList l∧(l.map (·.1)).Nodup∧l.length≤1000∧(a==sysModules)=false
theorem nj {C:Nat→Addr}{z:Str}{k:Nat}:∀ {es:List DictEntry} {l:List (Str×Nat)},TabE C es l→l.lookup z=some k→(es.find? fun e=>Value.isStrOf z e.key).map (·.val)=some (.ref (C k))
 | [],[],_,h=>by simp at h
 | e::es,p::l,⟨⟨t,e1⟩,e2,r⟩,h=>by
  rw[List.find?_cons,e1];by_cases q:z=p.1
  ·have h1:Value.isStrOf z (.str p.1 t)=true:=by rw[q];simp[Value.isStrOf]
   rw[h1];rw[List.lookup_cons]at h;have h2:(z==p.1)=true:=by rw[q];simp
   rw[h2]at h;cases h
   simp[e2]
  ·have h1:Value.isStrOf z (.str p.1 t)=false:=by
    simp only[Value.isStrOf]
    simpa using fun e=>q e.symm
   rw[h1];rw[List.lookup_cons]at h;have h2:(z==p.1)=false:=by simpa using q
   rw[h2]at h;exact nj r h
 | [],_::_,h,_=>h.elim
 | _::_,[],h,_=>h.elim
section
variable {X:Cx}{F:Fx}{e:Expr}{g:SS→R D}{k:Nat}{l:List (Str×Nat)}{x:Str}{p pos:Pos}
theorem yE {te:TE}{a:Addr}(hg:Gl X x)(hm:X.mg x=some (.ref a))(C:Nat→Addr)(hT:TabK X.K C X.w.params a l)(he:PE X e te)(hs:PlainIxT e)(hd:(x==("__debug__":Str))=false) :
  PE X (.Subscript (.Name x p) e pos) (tOp (fun u y H Q=>∃ z k,u=.ref a∧y=.str z∧l.lookup z=some k∧Q (.ref (C k)) H) (tC (.ref a)) te):=by
 obtain⟨es,n,h1,h2,h3,_⟩:=hT;intro pins s σ H Q I h;refine Subscript_ (binT (az (v:=.ref a) (pos:=p) hg hm rfl hd) he I h fun v u s2 x' y H2 I2 rx ry q=>?_);obtain⟨z,k,rfl,rfl,hl,q⟩:=q;cases rx;obtain⟨t,rfl⟩:=ry;have hM:=PySem.W.mapOf_K (prog:=X.prog) I2.kIn h1 h2;have hfind:findBy Value.isStrOf es z=some (.ref (C k)):=by
  unfold findBy;rw[← nj h3 hl,← Array.find?_toList]
 exact tail_any hM.typeIs slot_dict_getitem.lookup (wpAny_getItem_of (strKind_is X.prog X.w z t) hM hfind ⟨.ref (C k),H2,I2.tok _,rfl,q⟩) (hs _ _)
theorem yF (bx:BX X F k)(hT:∃ a,X.mg x=some (.ref a)∧TabK X.K F.C X.w.params a l)(hg:Gl X x)(he:FE X F e g)(hs:PlainIxT e:=by intro _ _;rfl)(hd:(x==("__debug__":Str))=false:=by decide):FE X F (.Subscript (.Name x p) e pos) (fun S=>(g S).bind fun y=>dTab l y):=by
 obtain⟨a,hm,hT⟩:=hT;refine(yE hg hm F.C hT he hs hd).weak fun σ H Q ⟨Z,S,ok,w⟩=>?_
 show tE F g σ H _;refine av ok w fun d v H1 Z1 ok1 x1 rv w1=>?_
 cases d with
 | str z =>
  have w2:WG F H1 Z1 (match l.lookup z with | some k=>R.ok (D.fn k) | none=>R.stuck) _:=w1;cases hl:l.lookup z with
  | none=>rw[hl]at w2;exact w2.elim
  | some kk =>
   rw[hl]at w2;rw[Rep]at rv;exact⟨z,kk,rfl,rv,hl,WG.now w2 ok1.sub _ (by rw[Rep])⟩
 | _=>exact w1.elim
end
theorem lJ {prog:Program}{w:World}{C:Nat→Addr}:∀ {es:List DictEntry} {l:List (Str×Nat)},TabE C es l→PySem.Pairs (PySem.strKind prog w) es (l.map fun p=>(p.1,Value.ref (C p.2)))
 | [],[],_=>.nil
 | e::es,p::l,⟨⟨t,e1⟩,e2,r⟩=>.cons (by rw[e1];exact strKind_is prog w p.1 t) e2 (lJ r)
 | [],_::_,h=>h.elim
 | _::_,[],h=>h.elim
section
variable {prog:Program}{w:World}{A:Around}{E:Value→Shared→Prop}{s:Shared}
theorem uc {R:Result→Shared→Prop}{d:Addr}{kvs:List (Str×Value)}{ep:Nat}(hh:A.handled=none)(hd:(d==sysModules)=false)(hm:s.heap.DictAt (PySem.strKind prog w) d kvs ep)(hlen:kvs.length≤1000)(S:Addr)(res:Value)(c₀:Nat)(hS:s.heap.get? S=some { cls:=.type "list",data:=.seq #[] c₀ })
  (hR:∀ h' tk acc' c',(∀ b o,b≠S→s.heap.get? b=some o→h'.get? b=some o)→h'.get? S=some { cls:=.type "list",dict:=none,data:=.seq acc' c',slots:=#[] } →
   ItemsOf (fun i v=>∃ k x,kvs[i]?=some (k,x)∧(PySem.strKind prog w).is k v=true) acc' kvs.length→R (.ok (.ret res)) { s with heap:=h',toks:=tk }) :
  wpAny (model prog w) A.in1 (Builtin.List.listExtendWith (.ref S) (.ref d) res)
   (fun fin s'=>match fin with | .done f=>R (.ok f) s' | .again c'=>c'.quiet=true∧codeAny (model prog w) A c' R s') (fun e s'=>R (.error e) s') s:=by
 have hT:s.TypeIs (.ref d) "dict" := hm.dictOf.typeIs;have hSd:S≠d:=fun e=>by
  obtain⟨o,ho,hc⟩:=hT;subst e;rw[hS]at ho;cases ho;have hc':Value.type "list"=Value.type "dict" := hc
  revert hc';decide
 have hSlt:S < s.heap.objs.size:=Heap.lt_size hS;have hSI:S≠s.heap.objs.size:=Nat.ne_of_lt hSlt;have hdI:d≠s.heap.objs.size:=by obtain⟨o,ho,_⟩:=hT;exact Nat.ne_of_lt (Heap.lt_size ho)
 have hSf:S∉[s.heap.objs.size,d]:=fun hm=>by
  simp only[List.mem_cons,List.not_mem_nil,or_false]at hm;rcases hm with h | h
  ·exact hSI h
  ·exact hSd h
 have W:=(Walks.dictKeys (prog:=prog) (w:=w) (A:=A.in1) (knd:=PySem.strKind prog w) hh s.heap.objs.size d hdI kvs ep).toS;have key:∀ (h:Heap) (c₁ tk:Nat),h.IsKeyIter s.heap.objs.size d 0 kvs.length ep→h.DictAt (PySem.strKind prog w) d kvs ep→(∀ b o,b≠S→s.heap.get? b=some o→h.get? b=some o) →
   h.get? S=some { cls:=.type "list",data:=.seq #[] c₁ }→codeAny (model prog w) A (.builtin "list.extend.loop" ⟨[.ref S,.ref s.heap.objs.size,res],[]⟩) R { s with heap:=h,toks:=tk }:=by
  intro h c₁ tk hit hD hk hS₁;refine codeAny_extend_loopS W (by rw[sizeLine_eq];omega) S hSf res kvs.length 0 _ #[] c₁ rfl (Nat.zero_le _) ⟨hit,hD⟩ hS₁ (ItemsOf.nil _) fun s' acc' c' hm hS' hacc=>?_
  rw[Moved.eq_with hm];refine hR s'.heap s'.toks acc' c' (fun b o hb e=>hm.heap b o (fun hmem=>?_) (hk b o hb e)) hS' hacc;rcases List.mem_cons.mp hmem with e' | hmem
  ·exact hb e'
  ·exact absurd (Heap.lt_size e) (by rw[List.mem_singleton.mp hmem];exact Nat.lt_irrefl _)
 unfold Builtin.List.listExtendWith;refine wpAny_bind (wpAny_typeOf (T := "dict") hT ?_);have h1:Builtin.List.listSameRef (.ref S) (.ref d)=false:=by simp[Builtin.List.listSameRef,hSd]
 have h2:(Value.type "dict" == Value.type "list")=false:=by decide
 have h3:(Value.type "dict" == Value.type "tuple")=false:=by decide
 simp only[h1,h2,h3,Bool.or_false,Bool.false_eq_true,if_false];refine wpAny_bind (wpAny_pyIter_dict hd hm ?_);have hT₁:Shared.TypeIs { s with heap:=s.heap.push { cls:=.type "dict_keyiterator",data:=.fields #[.ref d,.int 0 0,.int kvs.length 0,.int ep 0] } } (.ref d) "dict" := by obtain⟨o,ho,hc⟩:=hT;exact⟨o,Heap.get?_push_of_some _ ho,hc⟩
 refine wpAny_bind (wpAny_holding ?_);unfold Builtin.List.listLengthHint;refine wpAny_bind (wpAny_specialOf hT₁ F.slot_dict_len.lookup ?_);generalize hid:("dict.__len__":String)=id0
 wp_delta
 rw[show splitId id0=some ("dict","__len__") from by subst hid;decide +kernel];subst hid;refine wpAny_bind (wpAny_isInstance (T := "dict") (b:=true) hT₁ (by rw[isSubtype_type];kernel_rfl) ?_);refine wpAny_ite_split (fun hab=>absurd hab (by decide)) (fun _=>?_);refine wpAny_ite_split (fun _=>?_) (fun hab=>absurd (by decide +kernel) hab);refine wpAny_bind (wpAny_typeOf (T := "dict") hT₁ ?_);refine wpAny_pure ?_;have hit₁:(s.heap.push { cls:=.type "dict_keyiterator",data:=.fields #[.ref d,.int 0 0,.int kvs.length 0,.int ep 0] }).IsKeyIter s.heap.objs.size d 0 kvs.length ep:=⟨_,Heap.get?_push_size _ rfl,rfl,rfl⟩;have hD₁:(s.heap.push { cls:=.type "dict_keyiterator",data:=.fields #[.ref d,.int 0 0,.int kvs.length 0,.int ep 0] }).DictAt (PySem.strKind prog w) d kvs ep:=hm.at' fun o e=>Heap.get?_push_of_some _ e
 have hS₁:=Heap.get?_push_of_some { cls:=.type "dict_keyiterator",data:=.fields #[.ref d,.int 0 0,.int kvs.length 0,.int ep 0] } hS;refine wpAny_ite_split (fun _=>?_) (fun _=>wpAny_pure ⟨plainId_quiet F.plain_extend_loop _,key _ c₀ _ hit₁ hD₁ (fun b o _ e=>Heap.get?_push_of_some _ e) hS₁⟩);refine wpAny_bind (wpAny_rule ?_);refine wpAny_bind ?_;show wpAny _ _ (updateSeq S (·.push .none) >>= fun _=>updateSeq S (·.pop)) _ _ _;refine wpAny_bind (wpAny_updateSeq hS₁ rfl ?_);have hS₂:=Heap.get?_update_self (Obj.mapSeq (·.push Value.none)) hS₁ rfl;refine wpAny_updateSeq (hz:=by seq_fits) hS₂ rfl ?_;have hS₃:=Heap.get?_update_self (Obj.mapSeq (·.pop)) hS₂ rfl;refine wpAny_pure ⟨plainId_quiet F.plain_extend_loop _,key _ _ _ (hit₁.at fun o e=>?_) (hD₁.at' fun o e=>?_) (fun b o hb e=>?_) hS₃⟩
 ·exact(Heap.get?_update_other _ _ hSI).trans ((Heap.get?_update_other _ _ hSI).trans e)
 ·exact(Heap.get?_update_other _ _ hSd).trans ((Heap.get?_update_other _ _ hSd).trans e)
 ·exact(Heap.get?_update_other _ _ (Ne.symm hb)).trans ((Heap.get?_update_other _ _ (Ne.symm hb)).trans (Heap.get?_push_of_some _ e))
theorem rq {R:Result→Shared→Prop}{d:Addr}{kvs:List (Str×Value)}{ep:Nat}(hh:A.handled=none)(hd:(d==sysModules)=false)(hm:s.heap.DictAt (PySem.strKind prog w) d kvs ep)(hlen:kvs.length≤1000)(S:Addr)(hS:s.heap.get? S=some { cls:=.type "list",data:=.seq #[] })
  (hR:∀ h' tk acc' c',(∀ b o,b≠S→s.heap.get? b=some o→h'.get? b=some o)→h'.get? S=some { cls:=.type "list",dict:=none,data:=.seq acc' c',slots:=#[] } →
   ItemsOf (fun i v=>∃ k x,kvs[i]?=some (k,x)∧(PySem.strKind prog w).is k v=true) acc' kvs.length→R (.ok (.ret .none)) { s with heap:=h',toks:=tk }) :
  wpAny (model prog w) A.in1 (Builtin.«list.__init__» ⟨[.ref S,.ref d],[]⟩)
   (fun fin s'=>match fin with | .done f=>R (.ok f) s' | .again c'=>c'.quiet=true∧codeAny (model prog w) A c' R s') (fun e s'=>R (.error e) s') s:=by
 have hSd:S≠d:=fun e=>by
  obtain⟨o,ho,hc⟩:=hm.dictOf.typeIs (s:=s);subst e;rw[hS]at ho;cases ho;have hc':Value.type "list"=Value.type "dict" := hc
  revert hc';decide
 show wpAny _ _ (do let old ← Builtin.List.listItems (.ref S);Builtin.List.listUpdate (.ref S) (fun _=>#[]);letGo old.toList.reverse;Builtin.List.listExtendWith (.ref S) (.ref d) .none) _ _ s;refine wpAny_bind ?_;unfold Builtin.List.listItems;refine wpAny_bind (wpAny_seqItems hS rfl (wpAny_pure ?_));show wpAny _ _ (updateSeq S (fun _=>#[]) >>= fun _=>letGo (#[]:Array Value).toList.reverse >>= fun _=>Builtin.List.listExtendWith (.ref S) (.ref d) .none) _ _ s;refine wpAny_bind (wpAny_updateSeq hS rfl ?_);have hS₂:=Heap.get?_update_self (Obj.mapSeq (fun _=>(#[]:Array Value))) hS rfl;have oth:∀ b o,b≠S→s.heap.get? b=some o→(s.heap.update S (Obj.mapSeq (fun _=>(#[]:Array Value)))).get? b=some o :=
  fun b o hb e=>(Heap.get?_update_other _ _ (Ne.symm hb)).trans e
 refine wpAny_bind (wpAny_letGo ?_);refine uc hh hd (hm.at' fun o e=>oth d o (Ne.symm hSd) e) hlen S .none _ hS₂ fun h' tk acc' c' hk hS' hacc=>?_
 exact hR h' tk acc' c' (fun b o hb e=>hk b o hb (oth b o hb e)) hS' hacc
theorem jM {Q:Value→Shared→Prop}{d:Addr}{kvs:List (Str×Value)}{ep:Nat}(hh:A.handled=none)(hd:(d==sysModules)=false)(hm:s.heap.DictAt (PySem.strKind prog w) d kvs ep)(hlen:kvs.length≤1000)
  (hQ:∀ h' tk acc' c',(∀ b o,s.heap.get? b=some o→h'.get? b=some o)→h'.get? s.heap.objs.size=some { cls:=.type "list",dict:=none,data:=.seq acc' c',slots:=#[] } →
   ItemsOf (fun i v=>∃ k x,kvs[i]?=some (k,x)∧(PySem.strKind prog w).is k v=true) acc' kvs.length→Q (.ref s.heap.objs.size) { s with heap:=h',toks:=tk }) :
  wpAny (model prog w) A (call (.type "list") [.ref d]) Q E s:=by
 refine callType_codes (Q₁:=fun obj s₁=>obj=.ref s.heap.objs.size∧s₁={ s with heap:=s.heap.push { cls:=.type "list",data:=.seq #[] } }) F.called_list (F.typeCall_list_1 _) F.entry_list_init
  (code_list_new _ ⟨rfl,rfl⟩) fun obj s₁ h₁=>?_
 obtain⟨rfl,rfl⟩:=h₁;have hS:(s.heap.push { cls:=.type "list",data:=.seq #[] }).get? s.heap.objs.size=some { cls:=.type "list",data:=.seq #[] }:=Heap.get?_push_size _ rfl;refine⟨⟨_,hS,rfl⟩,F.args_list_init_2 _ _,rq (A:=A.in1) hh hd (hm.at' fun o e=>Heap.get?_push_of_some _ e) hlen _ hS fun h' tk acc' c' hk hS' hacc=>?_⟩;exact⟨rfl,hQ h' tk acc' c' (fun b o e=>hk b o (Nat.ne_of_lt (Heap.lt_size e)) (Heap.get?_push_of_some _ e)) hS' hacc⟩
end
section
variable {X:Cx}{F:Fx}{k:Nat}{l:List (Str×Nat)}{x:Str}{p p2 pos:Pos}
theorem oF {a:Addr}(hc:X.calm=true)(hg:Gl X "list")(hm:X.mg "list"=none)(hgx:Gl X x)(hmx:X.mg x=some (.ref a))(C:Nat→Addr)(hT:TabK X.K C X.w.params a l)(hd:(x==("__debug__":Str))=false)
  (hs:starEach [.Name x p2] X.env=[(false,eval (.Name x p2) X.env)]) :
  PE X (.Call (.Name "list" p) [.Name x p2] [] pos) (fun σ H Q=>∀ q,H q=none→Q (.ref q) (upd H q (.lst (l.map fun p=>.str p.1)))):=by
 obtain⟨es,n,h1,h2,h3,h4,h5,h6⟩:=hT;intro pins s σ H Q I h;refine Call_ (gu I hg hm lI (PyProof.Rows.callWith_type1 ?_ (by rw[hs];rfl) (by rfl)));rw[hs];refine Calls.spliced_cons (thn (az (v:=.ref a) (pos:=p2) hgx hmx rfl hd pins s σ H (fun v H'=>v=.ref a∧H'=H) I ⟨rfl,rfl⟩) fun v s1 ⟨y,H1,I1,r1,q1⟩=>Calls.spliced_nil ?_);obtain⟨rfl,rfl⟩:=q1;cases r1;have hD:s1.heap.DictAt (PySem.strKind X.prog X.w) a (l.map fun p=>(p.1,Value.ref (C p.2))) n:=by
  obtain⟨o,es',n',ho,hx,hdat,hk,_⟩:=PySem.W.mapOf_K (prog:=X.prog) (w:=X.w) I1.kIn h1 h2;have e1:=(I1.kIn a _ h1).symm.trans ho;cases e1;cases hdat;exact⟨_,es,ho,hx,rfl,hk,lJ h3,by rw[List.map_map];exact h4⟩
 refine jM (I1.ok.hd hc) h6 hD (by simpa using h5) fun h' tk acc' c' hk hS hacc=>?_
 have hv:Vals (l.map fun p=>V.str p.1) acc'.toList:=by
  have:∀ (l:List (Str×Nat)) (vs:List Value),vs.length=l.length→(∀ (j:Nat) (p:Str×Nat) (v:Value),l[j]?=some p→vs[j]?=some v→∃ t,v=.str p.1 t)→Vals (l.map fun p=>V.str p.1) vs:=by
   intro l
   induction l with
   | nil=>intro vs hl _;cases vs with
    | nil=>exact .nil
    | cons _ _=>simp at hl
   | cons p l ih =>
    intro vs hl h;cases vs with
    | nil=>simp at hl
    | cons v vs=>exact .cons (h 0 p v rfl rfl) (ih vs (by simpa using hl) fun j q u e1 e2=>h (j+1) q u (by simpa using e1) (by simpa using e2))
  refine this l acc'.toList (by have:=hacc.1;simpa using this) fun j p v e1 e2=>?_
  obtain⟨k,y,f1,f2⟩:=hacc.2 j v (by simpa using e2);have f1':(l[j]?).map (fun p=>(p.1,Value.ref (C p.2)))=some (k,y):=by simpa using f1
  rw[e1]at f1';cases f1';obtain⟨t,rfl⟩:=Value.isStrOf_shape f2;exact⟨t,rfl⟩
 refine⟨.ref s1.heap.objs.size,upd H1 s1.heap.objs.size (.lst (l.map fun p=>.str p.1)),I1.laid (t':=tk) hk (Nat.le_refl _) ⟨by rw[sizeLine_eq,List.length_map];omega,acc'.toList,c',hv,by simpa using hS⟩,rfl,h _ (I1.hok.fresh (Nat.le_refl _))⟩
theorem oG (bx:BX X F k)(hg:Gl X "list")(hm:X.mg "list"=none)(hT:∃ a,X.mg x=some (.ref a)∧TabK X.K F.C X.w.params a l)(hgx:Gl X x)(hd:(x==("__debug__":Str))=false:=by decide)
  (hs:starEach [.Name x p2] X.env=[(false,eval (.Name x p2) X.env)]:=by rfl):FE X F (.Call (.Name "list" p) [.Name x p2] [] pos) (fun _=>R.ok (tabK l)):=by
 obtain⟨a,hmx,hT⟩:=hT;refine(oF bx.calm hg hm hgx hmx F.C hT hd hs).weak fun σ H Q ⟨Z,S,ok,w⟩=>fun q hq=>?_
 have z:Same Z (upd Z q (.lst (l.map fun p=>V.str p.1))):=aC (ok.sub.free hq);refine w _ _ (Ex.alloc ok.sub hq) _ ?_;unfold tabK;rw[Rep];refine⟨q,_,rfl,SqL.of ai,?_⟩;have:∀ l:List (Str×Nat),Reps F.K F.C (upd Z q (.lst ((l.map fun p=>V.str p.1)))) (l.map fun p=>D.str p.1) (l.map fun p=>V.str p.1)→True:=fun _ _=>trivial
 refine mr (by simp) fun j d v e1 e2=>?_
 simp only[List.getElem?_map]at e1 e2;cases hl:l[j]? with
 | none=>rw[hl]at e1;cases e1
 | some pr =>
  rw[hl]at e1 e2;cases e1;cases e2;rw[Rep]
end
open AutoSeq1 (wpAny_loadPart')
section
variable {prog:Program}{w:World}{A:Around}{E:Value→Shared→Prop}{s:Shared}
end
section
variable {prog:Program}{w:World}{A:Around}{E:Value→Shared→Prop}{s:Shared}
end
section
variable {X:Cx}{F:Fx}{a:Expr}{ga:SS→R D}{k:Nat}
end
section
variable {X:Cx}{F:Fx}{a:Expr}{ga:SS→R D}{k:Nat}{p p2 pos pos2:Pos}
end
section
variable {prog:Program}{w:World}{A:Around}{E:Value→Shared→Prop}{s:Shared}
end
section
variable {X:Cx}{F:Fx}
variable {σ:Type}{S:SS}{rest:List Stmt}{J:σ→SS→Prop}{e:Expr}{ge:SS→R D}{r:R D}{n:Nat}
end
section
variable {X:Cx}{F:Fx}
end
def capB (XN:List Str)(scope:Scope)(N:List Str)(own:Nat):Nat→List Nat→Bool
 | _,[]=>true
 | j,i::r=>(match N[own+j]?,XN[i]? with
  | some x,some y=>x==y&&scope.names.lookup x==some .free
  | _,_=>false)&&capB XN scope N own (j+1) r
def blkB (XN:List Str)(osc scope:Scope)(N:List Str)(own:Nat)(cap:List Nat):Bool :=
 scope.kind==.function&&(scope.names.all fun y=>scope.names.lookup y.1==some y.2)&&(scope.names.all fun y=>!(y.2==.free)||(osc.names.lookup y.1==some .cell||osc.names.lookup y.1==some .free))&&N.length==own+cap.length&&capB XN scope N own 0 cap
theorem pY {XN:List Str}{scope:Scope}{N:List Str}{own:Nat}:∀ {cap:List Nat} {k:Nat},capB XN scope N own k cap=true→∀ j i,cap[j]?=some i→∃ x,N[own+(k+j)]?=some x∧XN[i]?=some x∧scope.names.lookup x=some .free
 | [],_,_,j,i,e=>by simp at e
 | c::r,k,h,j,i,e=>by
  unfold capB at h;rw[Bool.and_eq_true]at h;cases j with
  | zero =>
   simp only[List.getElem?_cons_zero,Option.some.injEq]at e;subst e;have h1:=h.1;split at h1
   ·rename_i x y e1 e2;rw[Bool.and_eq_true]at h1;have:=eq_of_beq h1.1;subst this;exact⟨x,by rw[Nat.add_zero];exact e1,e2,eq_of_beq h1.2⟩
   ·cases h1
  | succ j =>
   obtain⟨x,a,b⟩:=pY h.2 j i (by simpa using e);exact⟨x,by rw[← a];congr 1;omega,b⟩
theorem BlkOk.of {XN:List Str}{osc scope:Scope}{N:List Str}{own:Nat}{cap:List Nat}(h:blkB XN osc scope N own cap=true):BlkOk XN osc scope N own cap:=by
 unfold blkB at h;simp only[Bool.and_eq_true,List.all_eq_true]at h;obtain⟨⟨⟨⟨h1,h2⟩,h3⟩,h4⟩,h5⟩:=h;have look:∀ y∈scope.names,scope.names.lookup y.1=some y.2:=fun y hy=>eq_of_beq (h2 y hy)
 refine⟨eq_of_beq h1,fun y hy e=>by rw[look y hy,e],fun y hy e=>by rw[look y hy,e],fun y hy e=>by rw[look y hy,e],fun y hy e=>?_,eq_of_beq h4,fun j i e=>?_⟩
 ·have:=h3 y hy;rw[e]at this;simp only[beq_self_eq_true,Bool.not_true,Bool.false_or,Bool.or_eq_true]at this;rcases this with z | z
  ·exact .inl (eq_of_beq z)
  ·exact .inr (eq_of_beq z)
 ·have:=pY h5 j i e;rw[Nat.zero_add]at this;exact this
section
variable {X:Cx}{F:Fx}{o e:Expr}{g:SS→R D}{gs:List (SS→R D)}{apos cpos:Pos}{k:Nat}
end
def OkD (P:Program)(w:World)(K:Frag)(mg:Str→Option Value)(base:Heap)(C:Nat→Addr)(k:Nat)(x:Str)(st:Stmt)(ps:List Str)(fn:List D→R D):Prop :=
 ∀ {f:Addr} {fd:FuncData},Fun K x x st f fd→FnOk P w K mg base (CXE P w) (k+1) f fd ps (spF K C ps.length fn)
def OkB (P:Program)(w:World)(K:Frag)(mg:Str→Option Value)(base:Heap)(C:Nat→Addr)(k:Nat)(N:List Str)(x:Str)(st:Stmt)(ds:List D)(l:L Unit):Prop :=
 ∀ (f:Addr) (cdv:Value) (A:Around) (outer:List Env) (s:Shared) (H Z:Hp) (E:XK),BX (bodyX P w K mg base N x (defScope st) f cdv A outer s H E) ⟨K,C,H,Z,E⟩ k →
  PassesOwn (model P w) (bodyX P w K mg base N x (defScope st) f cdv A outer s H E).A (bodyX P w K mg base N x (defScope st) f cdv A outer s H E).env (bodyX P w K mg base N x (defScope st) f cdv A outer s H E).xe →
  MadeX (bodyX P w K mg base N x (defScope st) f cdv A outer s H E) ⟨K,C,H,Z,E⟩→FL (bodyX P w K mg base N x (defScope st) f cdv A outer s H E) ⟨K,C,H,Z,E⟩ (startS N.length ds) (defBody st) JU l
theorem mkSc {N ps:List Str}{sc:Scope}(a:sc.kind=.function:=by rfl)(b:sc.isCoroutine=false:=by rfl)(c:sc.isGenerator=false:=by rfl)(d:N.Nodup:=by decide +kernel)(e:N.take ps.length=ps:=by rfl)
  (f:∀ x∈ps,sc.names.lookup x=some .local∨sc.names.lookup x=some .cell:=by decide +kernel) (g:∀ y∈sc.names,y.2≠.free:=by decide +kernel):FnScope N ps sc:=⟨a,b,c,d,e,f,g⟩
section
variable {P:Program}{w:World}{K:Frag}{mg:Str→Option Value}{base:Heap}{C:Nat→Addr}{k:Nat}{N ps:List Str}{x:Str}{st:Stmt}
theorem okd {fn:List D→R D}(S:FnScope N ps (defScope st))(h:∀ ds,ds.length=ps.length→∃ l,fn ds=outL l∧OkB P w K mg base C k N x st ds l):OkD P w K mg base C k x st ps fn:=fun F =>
 vY F S fun cdv A outer s H Z E bx hp md ds hl=>by
  obtain⟨l,e,o⟩:=h ds hl;exact⟨l,e,o _ cdv A outer s H Z E bx hp md⟩
theorem ok1 {p:Str}{c:D→L Unit}(S:FnScope N [p] (defScope st))(h:∀ a,OkB P w K mg base C k N x st [a] (c a)):OkD P w K mg base C k x st [p] (a1 c):=okd S fun ds hl=>by obtain⟨a,rfl⟩:=len1 hl;exact⟨c a,rfl,h a⟩
theorem ok2 {p q:Str}{c:D→D→L Unit}(S:FnScope N [p,q] (defScope st))(h:∀ a b,OkB P w K mg base C k N x st [a,b] (c a b)):OkD P w K mg base C k x st [p,q] (a2 c):=okd S fun ds hl=>by obtain⟨a,b,rfl⟩:=len2 hl;exact⟨c a b,rfl,h a b⟩
theorem ok3 {p q r:Str}{c:D→D→D→L Unit}(S:FnScope N [p,q,r] (defScope st))(h:∀ a b d,OkB P w K mg base C k N x st [a,b,d] (c a b d)):OkD P w K mg base C k x st [p,q,r] (a3 c):=okd S fun ds hl=>by obtain⟨a,b,d,rfl⟩:=len3 hl;exact⟨c a b d,rfl,h a b d⟩
theorem ok4 {p q r s:Str}{c:D→D→D→D→L Unit}(S:FnScope N [p,q,r,s] (defScope st))(h:∀ a b d e,OkB P w K mg base C k N x st [a,b,d,e] (c a b d e)):OkD P w K mg base C k x st [p,q,r,s] (a4 c):=okd S fun ds hl=>by obtain⟨a,b,d,e,rfl⟩:=len4 hl;exact⟨c a b d e,rfl,h a b d e⟩
theorem ok5 {p q r s t:Str}{c:D→D→D→D→D→L Unit}(S:FnScope N [p,q,r,s,t] (defScope st))(h:∀ a b d e f,OkB P w K mg base C k N x st [a,b,d,e,f] (c a b d e f)):OkD P w K mg base C k x st [p,q,r,s,t] (a5 c):=okd S fun ds hl=>by obtain⟨a,b,d,e,f,rfl⟩:=len5 hl;exact⟨c a b d e f,rfl,h a b d e f⟩
structure Fd (K:Frag)(mg:Str→Option Value)(x:Str)(ps:List Str)(st:Stmt):Prop where
 ex:∃ a fd,Fun K x x st a fd∧mg x=some (.ref a)∧Binds K fd ps []
theorem nk {f:Addr}{fd:FuncData}{n:Nat}:FnOk P w K mg base (CXE P w) k f fd ps (spF K C n fun _=>.stuck) :=
 ⟨fun vs H Q E h=>by obtain⟨_,_,_,_,_,z⟩:=h;exact z.elim,fun A outer s H args us vs Q E _ _ _ _ h=>by obtain⟨_,_,_,_,_,z⟩:=h;exact z.elim⟩
theorem gW {i:Nat}(F:Fd K mg x ps st)(hf:mg x=some (.ref (C i))):FnV P w K mg base C 0 i fun _=>.stuck:=by
 obtain⟨a,fd,F,h,b⟩:=F.ex;rw[hf]at h;cases h;exact⟨fd,ps,nk,F.kp,b,fun _ _=>rfl⟩
theorem gX {i:Nat}{fn:List D→R D}(F:Fd K mg x ps st)(hf:mg x=some (.ref (C i)))(ok:OkD P w K mg base C k x st ps fn)(hl:∀ ds,ds.length≠ps.length→fn ds=.stuck):FnV P w K mg base C (k+1) i fn:=by
 obtain⟨a,fd,F,h,b⟩:=F.ex;rw[hf]at h;cases h;exact⟨fd,ps,ok F,F.kp,b,hl⟩
theorem g0 (F:Fd K mg x ps st):Fn1 P w K mg base C 0 x ps (fun _=>.stuck):=by obtain⟨a,fd,F,h,b⟩:=F.ex;exact⟨a,fd,nk,h,F.kp,b⟩
theorem g1 {fn:List D→R D}(F:Fd K mg x ps st)(ok:OkD P w K mg base C k x st ps fn):Fn1 P w K mg base C (k+1) x ps fn:=by obtain⟨a,fd,F,h,b⟩:=F.ex;exact⟨a,fd,ok F,h,F.kp,b⟩
section
variable {h:Heap}{f:Addr}{oc:Value}{od an:Option Addr}{osl:Array (Option Value)}{kV doc pm cdv ct:Value}
theorem zE (X:K.In h)(G:h.Ns mainGlobals mg)(hb:∀ (kV doc pm:Value) (an:Option Addr) (cdv ct:Value) (us:List Value),us.length=ps.length→bindArgs (fnOf x x (defArgs st) (defBody st) (defScope st) .none kV doc pm an cdv ct) ⟨us,[]⟩=pure (ps.zip us))
  (a:nsIn K mainGlobals x=some (some (.ref f))) (l:K.lookup f=some ⟨oc,od,.func (fnOf x x (defArgs st) (defBody st) (defScope st) .none kV doc pm an cdv ct),osl⟩) (c:codeIn K cdv x=true) (k:keepIn K (.ref f)=true):Fd K mg x ps st :=
 ⟨f,_,gz l c k,mg_of X G a,(gz l c k).binds hb⟩
end
theorem ln1 {us:List Value}(h:us.length=1):∃ a,us=[a]:=match us,h with | [a],_=>⟨a,rfl⟩
theorem ln2 {us:List Value}(h:us.length=2):∃ a b,us=[a,b]:=match us,h with | [a,b],_=>⟨a,b,rfl⟩
theorem ln3 {us:List Value}(h:us.length=3):∃ a b c,us=[a,b,c]:=match us,h with | [a,b,c],_=>⟨a,b,c,rfl⟩
theorem ln4 {us:List Value}(h:us.length=4):∃ a b c d,us=[a,b,c,d]:=match us,h with | [a,b,c,d],_=>⟨a,b,c,d,rfl⟩
theorem ln5 {us:List Value}(h:us.length=5):∃ a b c d e,us=[a,b,c,d,e]:=match us,h with | [a,b,c,d,e],_=>⟨a,b,c,d,e,rfl⟩
end
abbrev Ng (K:Frag)(x:Str)(v:Option Value):Prop:=nsIn K mainGlobals x=some v
theorem ao {K:Frag}{n c:Addr}{b:Bool}{cd:ClassData}(hd:clsIn K c=some cd)(hy:typeIn K (.ref c)=some (.type "type"))(hs:subIn K (.ref n) (.ref c)=some b)(hn:subIn K (.ref n) (.ref n)=some true):kitOne K (.ref n) (.ref c)=some b:=by
 unfold kitOne;by_cases e:n=c
 ·subst e;rw[hn]at hs;rw[if_pos (by simp)];exact hs
 ·rw[if_neg (by simpa using e)];show (if ((clsIn K c).isSome&&typeIn K (.ref c)==some (.type "type"))=true then subIn K (.ref n) (.ref c) else none)=some b;rw[hd,hy,if_pos (by simp)];exact hs
theorem iK {K:Frag}{n:Addr}(hs:subIn K (.ref n) (.type "ValueError")=some true):kitOne K (.ref n) (.type "ValueError")=some true:=by
 unfold kitOne;rw[if_neg (by simp)];show (if PySem.W.kitMeta "ValueError"=true then subIn K (.ref n) (.type "ValueError") else none)=some true;rw[if_pos (by decide +kernel)];exact hs
theorem p6 {K:Frag}{C:Nat→Addr}{Z:Hp}:∀ ns:List Int,Reps K C Z (ns.map .int) (ns.map V.int)
 | []=>by rw[List.map_nil,List.map_nil,Reps]
 | i::ns=>by rw[List.map_cons,List.map_cons,Reps];exact⟨_,_,rfl,aS,p6 ns⟩
section
variable {σ:Type}{X:Cx}{F:Fx}{S:SS}{J:σ→SS→Prop}
end
section
variable {X:Cx}{F:Fx}{e ey ex:Expr}{ge gy gx:SS→R D}{x:Str}{pos:Pos}{k:Nat}
end
section
variable {X:Cx}{F:Fx}{tg iter elt:Expr}{scope:Scope}{N:List Str}{own:Nat}{cap:List Nat}{pos:Pos}{git:SS→R (List D)}
end
section
variable {X:Cx}{F:Fx}{tg iter elt:Expr}{ifs:List Expr}{scope:Scope}{N:List Str}{own:Nat}{cap:List Nat}{pos:Pos}{git:SS→R (List D)}{g:D→SS→R SS}{gc:SS→R Bool}{ge:SS→R D}
end
section
variable {X:Cx}{F:Fx}{p pos p1 p2 p3:Pos}{e:Expr}{g:SS→R D}{k:Nat}
end
end FF
end
noncomputable section
namespace L2
open PySem PySem.Spec PyProof.Rows
section
variable {κ:Type}[DecidableEq κ]
def valV (kvs:List (κ×V))(k:κ):Option V:=(kvs.find? fun kv=>decide (kv.1=k)).map (·.2)
def putK (kvs:List (κ×V))(k:κ)(v:V):List (κ×V) :=
 if (kvs.any fun kv=>decide (kv.1=k))=true then kvs.map (fun kv=>if kv.1=k then (kv.1,v) else kv) else kvs++[(k,v)]
def dropK (kvs:List (κ×V))(k:κ):List (κ×V):=kvs.filter fun kv=>decide (kv.1≠k)
theorem gY {p:κ×V}{r:List (κ×V)}{k:κ}(e:p.1=k):valV (p::r) k=some p.2:=by simp[valV,List.find?_cons,e]
theorem gZ {p:κ×V}{r:List (κ×V)}{k:κ}(e:¬ p.1=k):valV (p::r) k=valV r k:=by simp[valV,List.find?_cons,e]
theorem nq (k:κ):∀ kvs:List (κ×V),(kvs.any fun kv=>decide (kv.1=k))=(valV kvs k).isSome
 | []=>rfl
 | p::r=>by
  rw[List.any_cons];by_cases e:p.1=k
  ·simp only[gY e,decide_eq_true e,Bool.true_or,Option.isSome_some]
  ·rw[gZ e,decide_eq_false e,Bool.false_or];exact nq k r
theorem i7 (kvs:List (κ×V))(k:κ)(v:V):(putK kvs k v).length≤kvs.length+1:=by
 unfold putK;split
 ·rw[List.length_map];omega
 ·rw[List.length_append,List.length_cons,List.length_nil];omega
theorem RelO.isSome_eq {o:Option V}{u:Option Value}(r:RelO o u):o.isSome=u.isSome:=by
 cases o with
 | none=>cases u with
  | none=>rfl
  | some _=>exact(show False from r).elim
 | some _=>cases u with
  | none=>exact(show False from r).elim
  | some _=>rfl
theorem KV.val {kvs:List (κ×V)}{vs:List (κ×Value)}(r:KV kvs vs)(k:κ):RelO (valV kvs k) (valueAt vs k):=by
 unfold KV at r
 induction r with
 | nil=>exact True.intro
 | @cons p q ps qs h t ih =>
  obtain⟨h1,h2⟩:=h;by_cases e:p.1=k
  ·have e':q.1=k:=h1.symm.trans e;have b:valueAt (q::qs) k=some q.2:=by simp[valueAt,List.find?_cons,e']
   rw[gY e,b];exact h2
  ·have e':¬ q.1=k:=fun z=>e (h1.trans z)
   have b:valueAt (q::qs) k=valueAt qs k:=by simp[valueAt,List.find?_cons,e']
   rw[gZ e,b];exact ih
theorem KV.any {kvs:List (κ×V)}{vs:List (κ×Value)}(r:KV kvs vs)(k:κ):(kvs.any fun kv=>decide (kv.1=k))=vs.any fun kv=>decide (kv.1=k):=by
 unfold KV at r
 induction r with
 | nil=>rfl
 | cons h t ih=>rw[List.any_cons,List.any_cons,ih,h.1]
theorem KV.repl {kvs:List (κ×V)}{vs:List (κ×Value)}(r:KV kvs vs)(k:κ){y:V}{u:Value}(ry:RelV y u) :
  KV (kvs.map fun kv=>if kv.1=k then (kv.1,y) else kv) (vs.map fun kv=>if kv.1=k then (kv.1,u) else kv):=by
 unfold KV at r ⊢
 induction r with
 | nil=>exact .nil
 | @cons p q ps qs h t ih =>
  rw[List.map_cons,List.map_cons];refine .cons ?_ ih;obtain⟨h1,h2⟩:=h;by_cases e:p.1=k
  ·rw[if_pos e,if_pos (h1.symm.trans e)];exact⟨h1,ry⟩
  ·rw[if_neg e,if_neg (fun z=>e (h1.trans z))];exact⟨h1,h2⟩
theorem KV.put {kvs:List (κ×V)}{vs:List (κ×Value)}(r:KV kvs vs)(k:κ){y:V}{u:Value}(ry:RelV y u):KV (putK kvs k y) (stored vs k u):=by
 unfold putK stored;rw[r.any k];by_cases e:(vs.any fun kv=>decide (kv.1=k))=true
 ·rw[if_pos e,if_pos e];exact r.repl k ry
 ·rw[if_neg e,if_neg e];exact Paired.snoc r ⟨rfl,ry⟩
theorem KV.drop {kvs:List (κ×V)}{vs:List (κ×Value)}(r:KV kvs vs)(k:κ):KV (dropK kvs k) (without vs k):=by
 unfold KV at r ⊢;unfold dropK without
 induction r with
 | nil=>exact .nil
 | @cons p q ps qs h t ih =>
  obtain⟨h1,h2⟩:=h;rw[List.filter_cons,List.filter_cons];by_cases e:p.1=k
  ·have a:¬ decide (p.1≠k)=true:=by simp[e]
   have b:¬ decide (q.1≠k)=true:=by simp[h1.symm.trans e]
   rw[if_neg a,if_neg b];exact ih
  ·have e':¬ q.1=k:=fun z=>e (h1.trans z)
   have a:decide (p.1≠k)=true:=by simp[e]
   have b:decide (q.1≠k)=true:=by simp[e']
   rw[if_pos a,if_pos b];exact .cons ⟨h1,h2⟩ ih
theorem KV.length {kvs:List (κ×V)}{vs:List (κ×Value)}(r:KV kvs vs):kvs.length=vs.length:=Paired.length r
theorem nr (kvs:List (κ×V))(k:κ):(dropK kvs k).length≤kvs.length:=List.length_filter_le _ _
end
theorem jN {P:Program}{w:World}{k:Key}{u:Value}(r:RelV (kV k) u):(mixKind P w).is k u=true:=by
 cases k with
 | inl i=>obtain⟨t,e⟩:=(show ∃ t,u=Value.int i t from r);subst e;exact mJ P w i t
 | inr x=>obtain⟨t,e⟩:=(show ∃ t,u=Value.str x t from r);subst e;exact mK P w x t
theorem lK {P:Program}{w:World}:∀ {ks:List Key} {us:List Value},Vals (ks.map kV) us→ItemsAre (mixKind P w) ks us
 | [],_,r=>by rw[List.map_nil]at r;cases r;exact .nil
 | k::ks,_,r=>by
  rw[List.map_cons]at r;cases r with
  | cons h t=>exact .cons (jN h) (lK t)
abbrev KT (H:Hp):List (List Key×V)→List (List Key×Addr×Value)→Prop:=Paired fun p q=>p.1=q.1∧H q.2.1=some (.tup (p.1.map kV))∧RelV p.2 q.2.2
theorem KT.val {H:Hp}{kvs:List (List Key×V)}{xs:List (List Key×Addr×Value)}(r:KT H kvs xs)(k:List Key):RelO (valV kvs k) ((atKey xs k).map (·.2)):=by
 induction r with
 | nil=>exact True.intro
 | @cons p q ps qs h t ih =>
  obtain⟨h1,_,h2⟩:=h;by_cases e:p.1=k
  ·have e':q.1=k:=h1.symm.trans e;have b:atKey (q::qs) k=some q.2:=by simp[atKey,List.find?_cons,e']
   rw[gY e,b];exact h2
  ·have e':¬ q.1=k:=fun z=>e (h1.trans z)
   have b:atKey (q::qs) k=atKey qs k:=by simp[atKey,List.find?_cons,e']
   rw[gZ e,b];exact ih
theorem KT.repl {H:Hp}{kvs:List (List Key×V)}{xs:List (List Key×Addr×Value)}(r:KT H kvs xs)(k:List Key){y:V}{u:Value}(ry:RelV y u) :
  KT H (kvs.map fun kv=>if kv.1=k then (kv.1,y) else kv) (xs.map (putAt k u)):=by
 induction r with
 | nil=>exact .nil
 | @cons p q ps qs h t ih =>
  rw[List.map_cons,List.map_cons];refine .cons ?_ ih;obtain⟨h1,h2,h3⟩:=h;unfold putAt;by_cases e:p.1=k
  ·rw[if_pos e,if_pos (h1.symm.trans e)];exact⟨h1,h2,ry⟩
  ·rw[if_neg e,if_neg (fun z=>e (h1.trans z))];exact⟨h1,h2,h3⟩
theorem KT.put {H:Hp}{kvs:List (List Key×V)}{xs:List (List Key×Addr×Value)}(r:KT H kvs xs)(k:List Key){b:Addr}{y:V}{u:Value}(hb:H b=some (.tup (k.map kV)))(ry:RelV y u) :
  KT H (putK kvs k y) (storedH xs k b u):=by
 have e:(kvs.any fun kv=>decide (kv.1=k))=(atKey xs k).isSome:=by
  rw[nq,(r.val k).isSome_eq,Option.isSome_map]
 unfold putK storedH;rw[e];by_cases q:(atKey xs k).isSome=true
 ·rw[if_pos q,if_pos q];exact r.repl k ry
 ·rw[if_neg q,if_neg q];exact Paired.snoc r ⟨rfl,hb,ry⟩
theorem KT.keeps {H H':Hp}{kvs:List (List Key×V)}{xs:List (List Key×Addr×Value)}(r:KT H kvs xs)(ht:∀ b ys,H b=some (.tup ys)→H' b=some (.tup ys)):KT H' kvs xs :=
 Paired.mapP r fun _ _ z=>⟨z.1,ht _ _ z.2.1,z.2.2⟩
section
variable {P:Program}{w:World}{H:Hp}{h:Heap}{a:Addr}
theorem xB {u:HO}(ok:HOk P w H h)(e:Rd H a u):ObjOk P w H h a u:=e.ok ok
theorem lL {kvs:List (Key×V)}(ok:HOk P w H h)(e:Rd H a (.dK kvs)):kvs.length≤sizeLine∧(a==sysModules)=false∧∃ vs,KV kvs vs∧h.DictOf (mixKind P w) a vs :=
 show ObjOk P w H h a (.dK kvs) from xB ok e
theorem ud {kvs:List (Key×V)}(ok:HOk P w H h)(e:H a=some (.dK kvs)):kvs.length≤sizeLine∧(a==sysModules)=false∧∃ vs,KV kvs vs∧h.DictOf (mixKind P w) a vs:=lL ok (.inl e)
theorem jO {ks:List Key}(ok:HOk P w H h)(e:H a=some (.tup (ks.map kV))):(tupleKind (mixKind P w)).is h ks a:=by
 obtain⟨_,its,r,o,h1,h2,_,n,h3⟩:=(show ObjOk P w H h a (.tup (ks.map kV)) from ok a _ e);exact⟨o,its.toArray,n,h1,h2,h3,by simpa using lK r⟩
theorem lM {kvs:List (List Key×V)}(ok:HOk P w H h)(e:Rd H a (.dT kvs)):kvs.length≤sizeLine∧(a==sysModules)=false ∧
  ∃ xs,KT H kvs xs∧h.DictOfH (tupleKind (mixKind P w)) a xs:=by
 obtain⟨z,y,xs,r,o,es,ep,h1,h2,h3,h4,h5⟩:=(show ObjOk P w H h a (.dT kvs) from xB ok e);refine⟨z,y,xs,r,o,es,ep,h1,h2,h3,h4,fun x hx=>?_,h5⟩;have all:∀ {l:List (List Key×V)} {m:List (List Key×Addr×Value)},KT H l m→∀ x∈m,(tupleKind (mixKind P w)).is h x.1 x.2.1:=by
  intro l m q
  induction q with
  | nil=>intro x hx;exact nomatch hx
  | @cons p q ps qs hq t ih =>
   intro x hx;rcases List.mem_cons.mp hx with e | hx
   ·subst e;exact jO ok (by rw[← hq.1];exact hq.2.1)
   ·exact ih x hx
 exact all r x hx
theorem zF {kvs:List (List Key×V)}(ok:HOk P w H h)(e:H a=some (.dT kvs)):kvs.length≤sizeLine∧(a==sysModules)=false ∧
  ∃ xs,KT H kvs xs∧h.DictOfH (tupleKind (mixKind P w)) a xs:=lM ok (.inl e)
end
def DGet (H:Hp)(a:Addr)(y:V)(r:Option V):Prop :=
 (∃ kvs k,Rd H a (.dK kvs)∧y=kV k∧r=valV kvs k)∨∃ kvs k b,Rd H a (.dT kvs)∧y=.ref b∧H b=some (.tup (k.map kV))∧r=valV kvs k
def DPut (H:Hp)(a:Addr)(y v:V)(H':Hp):Prop :=
 (∃ kvs k,H a=some (.dK kvs)∧y=kV k∧kvs.length < sizeLine∧H'=upd H a (.dK (putK kvs k v))) ∨
 ∃ kvs k b,H a=some (.dT kvs)∧y=.ref b∧H b=some (.tup (k.map kV))∧kvs.length < sizeLine∧H'=upd H a (.dT (putK kvs k v))
theorem DGet.k {H:Hp}{a:Addr}{kvs:List (Key×V)}{k:Key}(e:H a=some (.dK kvs)):DGet H a (kV k) (valV kvs k):=.inl ⟨kvs,k,.inl e,rfl,rfl⟩
theorem DPut.k {H:Hp}{a:Addr}{kvs:List (Key×V)}{k:Key}{v:V}(e:H a=some (.dK kvs))(hl:kvs.length < sizeLine):DPut H a (kV k) v (upd H a (.dK (putK kvs k v))):=.inl ⟨kvs,k,e,rfl,hl,rfl⟩
section
variable {X:Cx}{pins:List (Addr×Obj)}{σ:St}{H:Hp}{s:Shared}{a:Addr}{y v:V}{u r:Value}{o:Option V}{A:Around}{E:Value→Shared→Prop}
theorem Inv.big (I:Inv X pins σ H s):sysModules < s.heap.objs.size:=by
 have h:mainGlobals < s.heap.objs.size:=(I.mod.glob.keeps I.bk).lt;exact Nat.lt_trans (by decide) h
theorem rz {Q:Value→Shared→Prop}(hu:A.units+1 < cLine)(I:Inv X pins σ H s)(g:DGet H a y (some v))(ry:RelV y u)(h:∀ w' s',Inv X pins σ H s'→RelV v w'→Q w' s') :
  wpAny (model X.prog X.w) A (getItem (.ref a) u) Q E s:=by
 rcases g with ⟨kvs,k,e,ey,l⟩ | ⟨kvs,k,b,e,ey,eb,l⟩
 ·subst ey;obtain⟨z,hd,vs,rel,dd⟩:=lL I.hok e;obtain⟨w',hw,rw'⟩:=RelO.some_of (v:=v) (o:=valueAt vs k) (by rw[l];exact rel.val k);exact wpAny_getItem_of (jN ry) dd.mapOf hw (h w' _ (I.tok _) rw')
 ·subst ey;cases (show u=Value.ref b from ry);obtain⟨z,hd,xs,rel,dd⟩:=lM I.hok e;obtain⟨w',hw,rw'⟩:=RelO.some_of (v:=v) (o:=(atKey xs k).map (·.2)) (by rw[l];exact rel.val k);obtain⟨p,hp,hp2⟩:=Option.map_eq_some_iff.mp hw;refine wpAny_getItem_heap (tupleKind_room_in1 hu) (jO I.hok eb) dd hp ?_;rw[hp2];exact h w' _ (I.tok _) rw'
theorem d_in {Q:Value→Shared→Prop}(hu:A.units+1 < cLine)(I:Inv X pins σ H s)(g:DGet H a y o)(ry:RelV y u)(h:∀ s',Inv X pins σ H s'→Q (.bool o.isSome) s') :
  wpAny (model X.prog X.w) A (compareOp .In u (.ref a)) Q E s:=by
 rcases g with ⟨kvs,k,e,ey,l⟩ | ⟨kvs,k,b,e,ey,eb,l⟩
 ·subst ey;obtain⟨z,hd,vs,rel,dd⟩:=lL I.hok e;refine wpAny_in_of (jN ry) hd dd.mapOf ?_;rw[← (rel.val k).isSome_eq,← l];exact h _ (I.tok _)
 ·subst ey;cases (show u=Value.ref b from ry);obtain⟨z,hd,xs,rel,dd⟩:=lM I.hok e;refine wpAny_in_heap (tupleKind_room_in1 hu) (jO I.hok eb) hd dd ?_;have q:=(rel.val k).isSome_eq;rw[Option.isSome_map]at q;rw[← q,← l];exact h _ (I.tok _)
theorem v8 {Q:Value→Shared→Prop}(hu:A.units+1 < cLine)(I:Inv X pins σ H s)(g:DGet H a y o)(ry:RelV y u)(h:∀ s',Inv X pins σ H s'→Q (.bool (!o.isSome)) s') :
  wpAny (model X.prog X.w) A (compareOp .NotIn u (.ref a)) Q E s:=by
 rcases g with ⟨kvs,k,e,ey,l⟩ | ⟨kvs,k,b,e,ey,eb,l⟩
 ·subst ey;obtain⟨z,hd,vs,rel,dd⟩:=lL I.hok e;refine wpAny_notIn_of (jN ry) hd dd.mapOf ?_;rw[← (rel.val k).isSome_eq,← l];exact h _ (I.tok _)
 ·subst ey;cases (show u=Value.ref b from ry);obtain⟨z,hd,xs,rel,dd⟩:=lM I.hok e;refine wpAny_notIn_heap (tupleKind_room_in1 hu) (jO I.hok eb) hd dd ?_;have q:=(rel.val k).isSome_eq;rw[Option.isSome_map]at q;rw[← q,← l];exact h _ (I.tok _)
theorem jk {h':Heap}{t':Nat}{ob:HO}(I:Inv X pins σ H s)(mu:Mut (H a))(hs:Heap.SameBut a s.heap h')(he:∃ q,h'.get? a=some q)(new:ObjOk X.prog X.w (upd H a ob) h' a ob) :
  Inv X pins σ (upd H a ob) { s with heap:=h',toks:=t' } :=
 I.write (x:=a) (e:=a) mu (.inl rfl) (fun b q hb z=>(hs.2 b hb).trans z) he new
theorem oH {P:Program}{w:World}{H':Hp}{h':Heap}{kvs:List (Key×V)}{vs:List (Key×Value)}(z:kvs.length≤sizeLine)(hd:(a==sysModules)=false)(rel:KV kvs vs)(dd:h'.DictOf (mixKind P w) a vs) :
  ObjOk P w H' h' a (.dK kvs):=⟨z,hd,vs,rel,dd⟩
theorem rA {H':Hp}{Q:Unit→Shared→Prop}(hu:A.units+1 < cLine)(I:Inv X pins σ H s)(g:DPut H a y v H')(ry:RelV y u)(rv:RelV v r)(h:∀ s',Inv X pins σ H' s'→Q () s') :
  wpAny (model X.prog X.w) A (setItem (.ref a) u r) Q E s:=by
 rcases g with ⟨kvs,k,e,ey,l,eH⟩ | ⟨kvs,k,b,e,ey,eb,l,eH⟩
 ·subst ey eH;obtain⟨z,hd,vs,rel,dd⟩:=ud I.hok e;have hz:vs.length≤sizeLine:=by rw[← rel.length];exact z
  have hl:(putK kvs k v).length≤sizeLine:=by have:=i7 kvs k v;omega
  refine wpAny_setItem_pairs (hsz:=hz) (jN ry) dd fun h' dd' hs=>h _ ?_
  have he:∃ q,h'.get? a=some q:=let ⟨q,_,_,hq,_⟩:=dd';⟨q,hq⟩;exact jk I (by rw[e];exact True.intro) hs he (oH hl hd (rel.put k rv) dd')
 ·subst ey eH;cases (show u=Value.ref b from ry);obtain⟨z,hd,xs,rel,dd⟩:=zF I.hok e;have hz:xs.length≤sizeLine:=by rw[← Paired.length rel];exact z
  have hl:(putK kvs k v).length≤sizeLine:=by have:=i7 kvs k v;omega
  refine wpAny_setItem_heap (hsz:=hz) (tupleKind_room_in1 hu) (jO I.hok eb) dd fun h' dd' hs=>h _ ?_
  obtain⟨q,es,ep,hq,h2,h3,h4,_,h5⟩:=dd';refine jk I (by rw[e];exact True.intro) hs ⟨q,hq⟩ ⟨hl,hd,_,(rel.put k eb rv).keeps fun c ys ec=>?_,q,es,ep,hq,h2,h3,h4,h5⟩;rw[ag (za ec e (fun z=>nomatch z))];exact ec
end
section
variable {X:Cx}{pins:List (Addr×Obj)}{σ:St}{H:Hp}{s:Shared}{a:Addr}{kvs:List (Key×V)}{k:Key}{u:Value}{A:Around}{E:Value→Shared→Prop}
theorem y9 {Q:Unit→Shared→Prop}(I:Inv X pins σ H s)(e:H a=some (.dK kvs))(ry:RelV (kV k) u)(l:(valV kvs k).isSome=true)(h:∀ s',Inv X pins σ (upd H a (.dK (dropK kvs k))) s'→Q () s') :
  wpAny (model X.prog X.w) A (delItem (.ref a) u) Q E s:=by
 obtain⟨z,hd,vs,rel,dd⟩:=ud I.hok e;refine wpAny_delItem_slot dd.typeIs (by decide) PySem.F.slot_dict_delitem
  (call_meetsIn PySem.F.slot_dict_delitem dd.typeIs PySem.F.entry_dict_delitem (PySem.F.args_dict_delitem_2 _ _) (meets_dict_delitem_pairs (mixKind X.prog X.w) a (jN ry)) ⟨vs,dd,by rw[← rel.length];exact z,by rw[← (rel.val k).isSome_eq];exact l,fun h' dd' hs=>h _ ?_⟩)
 have he:∃ q,h'.get? a=some q:=let ⟨q,_,_,hq,_⟩:=dd';⟨q,hq⟩;exact jk I (by rw[e];exact True.intro) hs he (oH (Nat.le_trans (nr kvs k) z) hd (rel.drop k) dd')
theorem zG {v:V}{more:List Value}{Q:Value→Shared→Prop}(I:Inv X pins σ H s)(e:H a=some (.dK kvs))(ry:RelV (kV k) u)(l:valV kvs k=some v)(hm:more=[]∨∃ x,more=[x])
  (h:∀ w' s',Inv X pins σ (upd H a (.dK (dropK kvs k))) s'→RelV v w'→Q w' s'):wpAny (model X.prog X.w) A (call (.builtin "dict.pop") (.ref a::u::more)) Q E s:=by
 obtain⟨z,hd,vs,rel,dd⟩:=ud I.hok e;obtain⟨w',hw,rw'⟩:=RelO.some_of (v:=v) (o:=valueAt vs k) (by rw[← l];exact rel.val k);have hp:(keyPart u).isSome=true:=by
  cases k with
  | inl i=>obtain⟨t,q⟩:=(show ∃ t,u=Value.int i t from ry);subst q;rfl
  | inr x=>obtain⟨t,q⟩:=(show ∃ t,u=Value.str x t from ry);subst q;rfl
 have ha:argsOk "dict.pop" ⟨.ref a::u::more,[]⟩:=by
  rcases hm with q | ⟨x,q⟩
  ·subst q;exact PySem.F.args_dict_pop_2 _ _
  ·subst q;exact PySem.F.args_dict_pop_3 _ _ _
 refine call_meetsIn PySem.F.slot_dict_pop dd.typeIs PySem.F.entry_dict_pop ha (meets_dict_pop_there (mixKind X.prog X.w) a (jN ry) more hm hp)
  ⟨vs,w',dd,by rw[← rel.length];exact z,hw,fun h' dd' hs=>h w' _ ?_ rw'⟩
 have he:∃ q,h'.get? a=some q:=let ⟨q,_,_,hq,_⟩:=dd';⟨q,hq⟩;exact jk I (by rw[e];exact True.intro) hs he (oH (Nat.le_trans (nr kvs k) z) hd (rel.drop k) dd')
end
def NoSl (i:Expr):Prop:=∀ ov iv,subscripted i false ov iv=operate [ov,iv] (getItem ov iv)
theorem wa {prog:Program}{w:World}{A:Around}{E:Value→Shared→Prop}{s:Shared}{env:Env}{value slice:Expr}{pos:Pos}{T id:String}{Q:Value→Shared→Prop}
  (hl:typeLookup (.type T) "__getitem__"=pure (some (.builtin id))) (hs:NoSl slice)
  (h:wpAny (model prog w) A (eval value env) (fun o s₁=>wpAny (model prog w) A (eval slice env) (fun i s₂=>s₂.TypeIs o T∧wpAny (model prog w) A (getItem o i) Q E s₂) E s₁) E s) :
  wpAny (model prog w) A (eval (.Subscript value slice pos) env) Q E s:=by
 refine Subscript_ (wpAny_mono h (fun o s₁ h₁=>wpAny_mono h₁ (fun i s₂ h₂=>?_) fun _ _ x=>x) fun _ _ x=>x);obtain⟨hT,h₂⟩:=h₂;unfold subscriptTail;refine wpAny_bind ?_;rw[getitemInPython_of_ne hT.not_modules];refine wpAny_bind (wpAny_specialOf hT hl ?_);have fin:wpAny (model prog w) A (subscripted slice false o i) (fun r s₃=>wpAny (model prog w) A (letTemporaryGo value o r >>= fun _=>pure r) Q E s₃) E s₂:=by
  rw[hs o i];exact wpAny_operating (wpAny_mono h₂ (fun r s₃ h₃=>wpAny_bind (wpAny_letTemporaryGo (wpAny_pure h₃))) fun _ _ x=>x)
 first
  | exact wpAny_pure (wpAny_bind fin)
  | exact wpAny_bind (wpAny_pure (wpAny_bind fin))
  | exact wpAny_bind fin
theorem nt {X:Cx}{pins:List (Addr×Obj)}{σ:St}{H:Hp}{s:Shared}{a:Addr}{y:V}{o:Option V}(I:Inv X pins σ H s)(g:DGet H a y o):s.TypeIs (.ref a) "dict" := by
 rcases g with ⟨kvs,k,e,_,_⟩ | ⟨kvs,k,b,e,_,_,_⟩
 ·obtain⟨_,_,vs,_,dd⟩:=lL I.hok e;exact dd.typeIs
 ·obtain⟨_,_,xs,_,dd⟩:=lM I.hok e;exact dd.typeIs
def tDGet (td ty:TE):TE:=fun σ H Q=>td σ H fun x H1=>ty σ H1 fun y H2=>∃ a v,x=.ref a∧DGet H2 a y (some v)∧Q v H2
def tDIn (ty td:TE):TE:=fun σ H Q=>ty σ H fun y H1=>td σ H1 fun x H2=>∃ a o,x=.ref a∧DGet H2 a y o∧Q (.bl o.isSome) H2
def tDNotIn (ty td:TE):TE:=fun σ H Q=>ty σ H fun y H1=>td σ H1 fun x H2=>∃ a o,x=.ref a∧DGet H2 a y o∧Q (.bl (!o.isSome)) H2
def sDPut (td ty tv:TE):TS:=fun D σ H=>tv σ H fun v H1=>td σ H1 fun x H2=>ty σ H2 fun y H3=>∃ a H4,x=.ref a∧DPut H3 a y v H4∧D.nx σ H4
section
variable {X:Cx}{o i e value:Expr}{pos pos' tpos:Pos}{td ty tv:TE}
theorem p7 (hu:X.A.units+1 < cLine)(ho:PE X o td)(hi:PE X i ty)(hs:NoSl i):PE X (.Subscript o i pos) (tDGet td ty):=by
 intro pins s σ H Q I h;refine wa PySem.F.slot_dict_getitem.lookup hs (thn (ho pins s σ H _ I h) fun u s1 ⟨x,H1,I1,rx,q1⟩=>thn (hi pins s1 σ H1 _ I1 q1) fun iv s2 ⟨y,H2,I2,ry,a,v,ex,g,q2⟩=>?_);subst ex;obtain rfl:u=Value.ref a:=rx;exact⟨nt I2 g,rz hu I2 g ry fun w' s3 I3 rw'=>⟨v,H2,I3,rw',q2⟩⟩
theorem yG (hu:X.A.units+1 < cLine)(hi:PE X i ty)(ho:PE X o td):PC X .In i o (tDIn ty td):=by
 intro pins s σ H Q I h;refine thn (hi pins s σ H _ I h) fun iv s1 ⟨y,H1,I1,ry,q1⟩=>thn (ho pins s1 σ H1 _ I1 q1) fun u s2 ⟨x,H2,I2,rx,a,ov,ex,g,q2⟩=>?_
 subst ex;obtain rfl:u=Value.ref a:=rx;exact d_in hu I2 g ry fun s3 I3=>⟨.bl ov.isSome,H2,I3,rfl,q2⟩
theorem rB (hu:X.A.units+1 < cLine)(hi:PE X i ty)(ho:PE X o td):PC X .NotIn i o (tDNotIn ty td):=by
 intro pins s σ H Q I h;refine thn (hi pins s σ H _ I h) fun iv s1 ⟨y,H1,I1,ry,q1⟩=>thn (ho pins s1 σ H1 _ I1 q1) fun u s2 ⟨x,H2,I2,rx,a,ov,ex,g,q2⟩=>?_
 subst ex;obtain rfl:u=Value.ref a:=rx;exact v8 hu I2 g ry fun s3 I3=>⟨.bl (!ov.isSome),H2,I3,rfl,q2⟩
theorem wb (hu:X.A.units+1 < cLine)(ho:PE X o td)(hi:PE X i ty)(hv:PE X value tv)(hs:swapsWith value (some (.Subscript o i pos')) pos.line X.env=pure false) :
  PS X (.Assign [.Subscript o i pos'] value pos) (sDPut td ty tv):=by
 intro pins s σ H D I h;refine wpAny_Assign_Subscript (thn (hv pins s σ H _ I h) fun r s1 ⟨v,H1,I1,rv,q1⟩=>thn (ho pins s1 σ H1 _ I1 q1) fun u s2 ⟨x,H2,I2,rx,q2⟩=>thn (hi pins s2 σ H2 _ I2 q2) fun iv s3 ⟨y,H3,I3,ry,a,H4,ex,g,q3⟩=>?_) hs;subst ex;obtain rfl:u=Value.ref a:=rx;exact rA hu I3 g ry rv fun s4 I4=>⟨σ,H4,I4,q3⟩
end
theorem ue {P:Program}{w:World}{H:Hp}(h:Heap)(hb:sysModules < h.objs.size):ObjOk P w H (h.push { cls:=.type "dict",data:=.dict #[] }) h.objs.size (.dK []) :=
 ⟨Nat.zero_le _,beq_eq_false_iff_ne.mpr (Ne.symm (Nat.ne_of_lt hb)),[],.nil,Heap.DictOf.new h⟩
def tDNewK:TE:=fun _ H Q=>∀ p,H p=none→Q (.ref p) (upd H p (.dK []))
section
variable {X:Cx}{pos:Pos}
theorem uf:PE X (.Dict [] [] pos) tDNewK:=fun pins s σ H Q I h =>
 wpAny_Dict_empty ⟨.ref s.heap.objs.size,_,I.laid (a:=s.heap.objs.size) (o:=.dK []) (t':=s.toks) (fun _ _ q=>Heap.get?_push_of_some _ q) (Nat.le_refl _) (ue s.heap I.big),rfl,h _ (I.hok.fresh (Nat.le_refl _))⟩
end
structure M1 (X:Cx)(o:Expr)(m:Str)(apos:Pos)(e:Expr)(cpos:Pos):Prop where
 base:attributeBase o m X.env (eval o X.env)=eval o X.env
 few:((backTo cpos (starEach [e] X.env)).all (fun x=>!x.1)&&(backToKw cpos (keywordEach [] X.env)).all (fun x=>x.1.isSome)
  && decide (([e]:List Expr).length+([]:List Keyword).length+(if ([]:List Keyword).isEmpty then 0 else 1) < 30))=true
 line:(apos.endLine==cpos.line)=true
 trees:backTo cpos (starEach [e] X.env)=[(false,eval e X.env)]
def IsD (H:Hp)(a:Addr):Prop:=(∃ kvs,Rd H a (.dK kvs))∨∃ kvs,Rd H a (.dT kvs)
theorem yH {X:Cx}{pins:List (Addr×Obj)}{σ:St}{H:Hp}{s:Shared}{a:Addr}(I:Inv X pins σ H s)(d:IsD H a) :
  s.TypeIs (.ref a) "dict" ∧ (∀ b,Value.ref a=.ref b→∃ ob,s.heap.get? b=some ob∧ob.dict=none)∧(a==sysModules)=false:=by
 rcases d with ⟨kvs,e⟩ | ⟨kvs,e⟩
 ·obtain⟨_,hd,vs,_,dd⟩:=lL I.hok e;refine⟨dd.typeIs,fun b q=>?_,hd⟩;cases q;obtain⟨ob,_,_,h1,h2,_⟩:=dd;exact⟨ob,h1,h2.2.1⟩
 ·obtain⟨_,hd,xs,_,dd⟩:=lM I.hok e;refine⟨dd.typeIs,fun b q=>?_,hd⟩;cases q;obtain⟨ob,_,_,h1,h2,_⟩:=dd;exact⟨ob,h1,h2.2.1⟩
section
variable {X:Cx}{pins:List (Addr×Obj)}{σ:St}{H:Hp}{s:Shared}{a:Addr}{y d:V}{u r:Value}{o:Option V}{A:Around}{E:Value→Shared→Prop}
end
def tDPop1 (td ty:TE):TE:=fun σ H Q=>td σ H fun x H1=>∃ a,x=.ref a∧IsD H1 a∧ty σ H1 fun y H2=>∃ kvs k v,H2 a=some (.dK kvs)∧y=kV k∧valV kvs k=some v∧Q v (upd H2 a (.dK (dropK kvs k)))
section
variable {X:Cx}{o e f:Expr}{apos cpos:Pos}{td ty tx:TE}
theorem ug (ho:PE X o td)(he:PE X e ty)(m:M1 X o "pop" apos e cpos):PE X (.Call (.Attribute o "pop" apos) [e] [] cpos) (tDPop1 td ty):=by
 intro pins s σ H Q I h;refine wpAny_Call_method m.base m.few m.line PySem.F.plainAttrs_dict PySem.F.slot_dict_pop PySem.F.type_dict_pop (thn (ho pins s σ H _ I h) fun u s1 ⟨x,H1,I1,rx,a,ex,d,q1⟩=>?_);subst ex;obtain rfl:u=Value.ref a:=rx;obtain⟨t1,t2,_⟩:=yH I1 d;refine⟨t1,t2,?_⟩;rw[m.trees];refine Calls.callWith_builtin rfl (Calls.evalArgs_plain (Calls.spliced_cons (thn (he pins s1 σ H1 _ I1 q1) fun iv s2 ⟨y,H2,I2,ry,kvs,k,v,ea,ey,l,q2⟩=>Calls.spliced_nil ?_)));subst ey;exact zG I2 ea ry l (.inl rfl) fun w' s3 I3 rw'=>⟨v,_,I3,rw',q2⟩
end
section
variable {X:Cx}{pins:List (Addr×Obj)}{σ:St}{H:Hp}{s:Shared}{a:Addr}{kvs:List (Key×V)}{A:Around}{E:Value→Shared→Prop}
end
section
variable {X:Cx}{pins:List (Addr×Obj)}{σ:St}{H:Hp}{s:Shared}{a:Addr}{y:V}{u:Value}{A:Around}{E:Value→Shared→Prop}
end
end L2
end
noncomputable section
namespace FF
open PySem PySem.Spec PyProof.Rows L2
def keyOf:D→Option Key
 | .int i=>some (.inl i)
 | .str s=>some (.inr s)
 | _=>none
def dicGet {κ:Type}[DecidableEq κ](m:List (κ×D))(k:κ):Option D:=(m.find? fun p=>decide (p.1=k)).map (·.2)
def dicPut {κ:Type}[DecidableEq κ](m:List (κ×D))(k:κ)(d:D):List (κ×D):=if (m.any fun p=>decide (p.1=k))=true then m.map (fun p=>if p.1=k then (p.1,d) else p) else m++[(k,d)]
def oDIx (m:List (Key×D))(k:D):R D:=match keyOf k with
 | some k=>match dicGet m k with
  | some d=>.ok d
  | none=>.stuck
 | none=>.stuck
def oDSt (m:List (Key×D))(k d:D):R (List (Key×D)):=match keyOf k with
 | some k=>if m.length < 1000000 then .ok (dicPut m k d) else .stuck
 | none=>.stuck
section
variable {κ:Type}{F:Fx}{Z:Hp}{m:List (κ×D)}{kvs:List (κ×V)}{k:κ}{d:D}{v:V}
theorem Pairs.cons (r:Rep F.K F.C Z d v)(h:Pairs F Z m kvs):Pairs F Z ((k,d)::m) ((k,v)::kvs) :=
 ⟨by rw[List.map_cons,List.map_cons,h.1],by rw[List.map_cons,List.map_cons,Reps];exact⟨_,_,rfl,r,h.2⟩⟩
theorem Pairs.nil:Pairs F Z ([]:List (κ×D)) []:=⟨rfl,by rw[List.map_nil,Reps];rfl⟩
theorem Pairs.inv (h:Pairs F Z ((k,d)::m) kvs):∃ v r,kvs=(k,v)::r∧Rep F.K F.C Z d v∧Pairs F Z m r:=by
 cases kvs with
 | nil=>have:=h.1;cases this
 | cons p r =>
  obtain⟨k',v⟩:=p;obtain⟨h1,h2⟩:=h;rw[List.map_cons,List.map_cons]at h1;injection h1 with h1 h3
  rw[List.map_cons,List.map_cons,Reps]at h2;obtain⟨v',r',e,q1,q2⟩:=h2;injection e with e1 e2
  subst e1 e2;cases (show k'=k from h1);exact⟨v,r,rfl,q1,h3,q2⟩
theorem Pairs.inv0 (h:Pairs F Z ([]:List (κ×D)) kvs):kvs=[]:=by
 cases kvs with
 | nil=>rfl
 | cons p r=>have:=h.1;cases this
theorem Pairs.mono {Z':Hp}(h:Pairs F Z m kvs)(s:Same Z Z'):Pairs F Z' m kvs:=⟨h.1,h.2.mono s⟩
theorem Pairs.length (h:Pairs F Z m kvs):kvs.length=m.length:=by have:=congrArg List.length h.1;simpa using this
theorem Pairs.append {m':List (κ×D)}{r:List (κ×V)}:∀ {m:List (κ×D)} {kvs:List (κ×V)},Pairs F Z m kvs→Pairs F Z m' r→Pairs F Z (m++m') (kvs++r)
 | [],kvs,h,h'=>by rw[h.inv0];exact h'
 | (k,d)::m,kvs,h,h'=>by
  obtain⟨v,q,rfl,h1,h2⟩:=h.inv;exact(h2.append h').cons h1
variable [DecidableEq κ]
theorem Pairs.get:∀ {m:List (κ×D)} {kvs:List (κ×V)},Pairs F Z m kvs→dicGet m k=some d→∃ v,valV kvs k=some v∧Rep F.K F.C Z d v
 | [],kvs,h,e=>nomatch e
 | (k',d')::m,kvs,h,e=>by
  obtain⟨v,q,rfl,h1,h2⟩:=h.inv;unfold dicGet at e;rw[List.find?_cons]at e;by_cases hk:k'=k
  ·rw[decide_eq_true (show (k',d').1=k from hk)]at e;cases e;exact⟨v,gY (p:=(k',v)) hk,h1⟩
  ·rw[decide_eq_false (show ¬ (k',d').1=k from hk)]at e;obtain⟨u,e1,e2⟩:=h2.get e;exact⟨u,by rw[gZ (p:=(k',v)) hk];exact e1,e2⟩
theorem Pairs.any:∀ {m:List (κ×D)} {kvs:List (κ×V)},Pairs F Z m kvs→(kvs.any fun kv=>decide (kv.1=k))=(m.any fun p=>decide (p.1=k))
 | [],kvs,h=>by rw[h.inv0];rfl
 | (k',d')::m,kvs,h=>by
  obtain⟨v,q,rfl,h1,h2⟩:=h.inv;rw[List.any_cons,List.any_cons,h2.any]
theorem Pairs.upd (r:Rep F.K F.C Z d v):∀ {m:List (κ×D)} {kvs:List (κ×V)},Pairs F Z m kvs→Pairs F Z (m.map fun p=>if p.1=k then (p.1,d) else p) (kvs.map fun kv=>if kv.1=k then (kv.1,v) else kv)
 | [],kvs,h=>by rw[h.inv0];exact Pairs.nil
 | (k',d')::m,kvs,h=>by
  obtain⟨u,q,rfl,h1,h2⟩:=h.inv;rw[List.map_cons,List.map_cons];by_cases hk:k'=k
  ·rw[if_pos (show (k',d').1=k from hk),if_pos (show (k',u).1=k from hk)];exact(h2.upd r).cons r
  ·rw[if_neg (show ¬ (k',d').1=k from hk),if_neg (show ¬ (k',u).1=k from hk)];exact(h2.upd r).cons h1
theorem Pairs.put (r:Rep F.K F.C Z d v)(h:Pairs F Z m kvs):Pairs F Z (dicPut m k d) (putK kvs k v):=by
 unfold dicPut putK;rw[h.any];split
 ·exact h.upd r
 ·exact h.append (Pairs.nil.cons r)
end
section
variable {F:Fx}{H Z:Hp}{S:SS}{σ:St}
theorem StOk.dic (h:StOk F H Z S σ)(i:Nat)(m:List (Key×D))(e:S[i]?=some (some (.dic m))):∃ a kvs,σ[i]?=some (some (.ref a))∧H a=some (.dK kvs)∧Pairs F Z m kvs:=by
 obtain⟨v,A,e1,⟨a,kvs,rfl,rfl,e2,r⟩,_⟩:=h.sl i _ e;exact⟨a,kvs,e1,e2,r⟩
theorem cE {K:Frag}{C:Nat→Addr}{d:D}{k:Key}{y:V}(e:keyOf d=some k)(r:Rep K C Z d y):y=kV k:=by
 cases d with
 | int i=>cases e;rw[Rep]at r;exact r
 | str s=>cases e;rw[Rep]at r;exact r
 | _=>cases e
end
def eDicIx (i:Nat)(g:SS→R D):SS→R D:=fun S=>match S[i]? with
 | some (some (.dic m))=>(g S).bind fun k=>oDIx m k
 | _=>.stuck
def sDicSt (i:Nat)(gi ge:SS→R D):SS→O:=fun S=>match S[i]? with
 | some (some (.dic m))=>rO (((ge S).bind fun v=>(gi S).bind fun k=>oDSt m k v).bind fun m'=>.ok (.nx (S.set i (some (.dic m')))))
 | _=>.stuck
section
variable {X:Cx}{F:Fx}{pos p:Pos}{k:Nat}{g ge:SS→R D}{e ei:Expr}{x:Str}
theorem zH (i:Nat){p0:Pos}(bx:BX X F k)(he:FE X F e g)(hs:NoSl e:=by intro _ _;rfl)(hi:X.N[i]?=some x:=by rfl)(hv:Vis X.env.scope x:=by first | exact Or.inl rfl | exact Or.inr (Or.inl rfl) | exact Or.inr (Or.inr rfl))(hd:(x==("__debug__":Str))=false:=by decide)
  (hcd:(x==("__classdict__":Str))=false:=by decide):FE X F (.Subscript (.Name x p0) e pos) (eDicIx i g) :=
 (p7 (by have:=bx.room.un;omega) (fe hi hv hd hcd) he hs).weak fun σ H Q ⟨Z,S,ok,w⟩=>by
  unfold eDicIx at w;split at w
  ·rename_i m e0;obtain⟨a,kvs,e1,e2,r⟩:=ok.dic i m e0;refine⟨.ref a,e1,av ok w fun d y H1 Z1 ok1 x1 ry w1=>?_⟩;unfold oDIx at w1;split at w1
   ·rename_i kk ek;split at w1
    ·rename_i d' ed;obtain⟨v,f1,f2⟩:=(r.mono x1.z).get ed;rw[cE ek ry];refine⟨a,v,rfl,?_,WG.now w1 ok1.sub v f2⟩;rw[← f1];exact DGet.k (x1.same _ _ e2)
    ·exact w1.elim
   ·exact w1.elim
  ·exact w.elim
theorem uh (i:Nat){p0 pos':Pos}(bx:BX X F k)(he:FE X F e ge)(hix:FE X F ei g)(hi:X.N[i]?=some x:=by rfl)(hv:Vis X.env.scope x:=by first | exact Or.inl rfl | exact Or.inr (Or.inl rfl) | exact Or.inr (Or.inr rfl))(hd:(x==("__debug__":Str))=false:=by decide)
  (hcd:(x==("__classdict__":Str))=false:=by decide) (hs:swapsWith e (some (.Subscript (.Name x p0) ei pos')) pos.line X.env=pure false:=by rfl) :
  FS X F (.Assign [.Subscript (.Name x p0) ei pos'] e pos) (sDicSt i g ge) :=
 (wb (by have:=bx.room.un;omega) (fe hi hv hd hcd) hix he hs).weak fun D σ H ⟨Z,S,ok,w⟩=>by
  unfold sDicSt at w;split at w
  ·rename_i m e0;have w0:=WO.wg ok w;rw[R.bind_assoc]at w0;refine av ok w0 fun d v H1 Z1 ok1 x1 rv w1=>?_
   obtain⟨a,kvs,e1,e2,r⟩:=ok1.dic i m e0;rw[R.bind_assoc]at w1;refine⟨.ref a,e1,av ok1 w1 fun dk y H2 Z2 ok2 x2 ry w2=>?_⟩;unfold oDSt at w2;split at w2
   ·rename_i kk ek;split at w2
    ·rename_i hl;rw[cE ek ry];have e3:=x2.same _ _ e2;have r2:=r.mono x2.z;refine⟨a,_,rfl,DPut.k e3 (by rw[r2.length,sizeLine_eq];omega),?_⟩;have w3:=WG.now w2 ok2.sub;exact w3 σ _ Z2 (Same.refl _) (ok2.rewr (x:=.dic m) (x':=.dic (dicPut m kk d)) (A:=[a]) e0 e1 ⟨a,kvs,rfl,rfl,e3,r2⟩ ⟨a,_,rfl,rfl,ai,r2.put (rv.mono x2.z)⟩ fun b hb=>ag (fun z=>hb (by rw[z];exact List.mem_singleton.mpr rfl)))
    ·exact w2.elim
   ·exact w2.elim
  ·exact w.elim
end
abbrev dc (m:List (Key×D)):Option Sl:=some (.dic m)
section
variable {X:Cx}{F:Fx}{pos p:Pos}{keys:List (Option Expr)}{values:List Expr}{ks:List Key}{gs:List (SS→R D)}{g:SS→R D}{e:Expr}{x:Str}
end
section
variable {X:Cx}{F:Fx}{p pos:Pos}{e:Expr}{gs:SS→R (List D)}{k:Nat}
end
section
variable {X:Cx}{F:Fx}{pos p:Pos}{k:Nat}{ga gb:SS→R D}{a b:Expr}{x:Str}
end
section
variable {prog:Program}{w:World}{A:Around}{E:Value→Shared→Prop}{s:Shared}
end
section
variable {X:Cx}{F:Fx}{e st:Expr}{te:TE}{g:SS→R D}{pos p2:Pos}
end
end FF
end
noncomputable section
namespace HT
open PySem PyProof.Rows
section
open PySem.SeqAt
open PySem.AutoSeq1 (wpAny_loadPart')
open PySem.MeetsSeq PySem.MeetsSeq2 PySem.MeetsSeq3
end
section
variable {prog:Program}{w:World}{A:Around}{E:Value→Shared→Prop}{s:Shared}
end
end HT
end
noncomputable section
namespace FF
open PySem PySem.Spec PyProof.Rows L2
section
variable {X:Cx}{F:Fx}{a b:Expr}{ga gb:SS→R D}{pos:Pos}{k:Nat}
end
section
variable {M:Model}{A:Around}{E:Value→Shared→Prop}{s:Shared}
end
section
variable {P:Program}{w:World}{K:Frag}{mg:Str→Option Value}{base:Heap}{N:List Str}{qual:Str}{scope:Scope}{f:Addr}{cd:Value}{A:Around}{outer:List Env}{s0:Shared}{H0:Hp}{E:XK}
end
section
variable {X:Cx}{E:XK}{scope:Scope}{cl:List (Str×Addr)}{C:Addr}{s:Shared}{H:Hp}{fp:List Addr}{N:List Str}{pins:List (Addr×Obj)}{σ:L2.St}{H1:Hp}{s1:Shared}
end
section
variable {X:Cx}{E:XK}{elt tg iter:Expr}{scope:Scope}{N:List Str}{own:Nat}{cap:List Nat}{pos:Pos}{wi:TI}{g:TG}{tc:TT}{te:TE}
set_option maxHeartbeats 4000000 in
end
section
variable {X:Cx}{F:Fx}{tg iter elt:Expr}{scope:Scope}{N:List Str}{own:Nat}{cap:List Nat}{pos:Pos}{git:SS→R (List D)}{g:D→SS→R SS}{ge:SS→R D}
end
section
variable {X:Cx}{F:Fx}{p pos:Pos}{e:Expr}{kws:List Keyword}{gs:SS→R (List D)}{k:Nat}
end
section
variable {X:Cx}{F:Fx}{tg:Expr}{gs:SS→R (List D)}
end
section
variable {prog:Program}{w:World}{A:Around}{E:Value→Shared→Prop}{R:Result→Shared→Prop}{h₀:Heap}{l I S:Addr}{its:List Value}{ks:Nat→List Int}{s0:Shared}
end
section
variable {X:Cx}{F:Fx}{p pos:Pos}{e:Expr}{gs:SS→R (List D)}{k:Nat}
end
section
variable {X:Cx}{F:Fx}{p pos:Pos}{e:Expr}{gs:SS→R (List D)}{k:Nat}
end
section
variable {prog:Program}{w:World}{A:Around}{E:Value→Shared→Prop}{s:Shared}
abbrev byT (w:World):Bool:=w.params.followText "set-order"
end
section
variable {prog:Program}{w:World}{A:Around}{E:Value→Shared→Prop}{s:Shared}{R:Result→Shared→Prop}
abbrev bare (w:World):Obj:={ cls:=.type "set",dict:=none,data:=.set #[] 0 (.fresh 0 0 (!byT w)) }
end
section
variable {prog:Program}{w:World}{A:Around}{E:Value→Shared→Prop}{s:Shared}
end
section
variable {prog:Program}{w:World}{A:Around}{E:Value→Shared→Prop}{s:Shared}
end
section
variable {prog:Program}{w:World}{A:Around}{E:Value→Shared→Prop}{s:Shared}
end
section
variable {prog:Program}{w:World}{A:Around}{E:Value→Shared→Prop}{s:Shared}
abbrev lobj (xs:Array Value)(c:Nat):Obj:={ cls:=.type "list",dict:=none,data:=.seq xs c,slots:=#[] }
end
section
variable {prog:Program}{w:World}{A:Around}{E:Value→Shared→Prop}{s:Shared}
end
section
variable {X:Cx}{F:Fx}{p p2 pos pos2:Pos}{e:Expr}{gs:SS→R (List D)}{k:Nat}
end
section
variable {X:Cx}{F:Fx}
variable {σ':Type}{S:SS}{st:Stmt}{rest:List Stmt}{J:σ'→SS→Prop}
end
inductive Prd {α β:Type}(R:α→β→Prop):List α→List β→Prop
 | nil:Prd R [] []
 | cons {a b l r}:R a b→Prd R l r→Prd R (a::l) (b::r)
section
variable {prog:Program}{w:World}{E:Value→Shared→Prop}
end
theorem Prd.at {α β:Type}{R:α→β→Prop}:∀ {l:List α} {r:List β} {i:Nat} {a:α},Prd R l r→l[i]?=some a→∃ b,r[i]?=some b∧R a b
 | _,_,i,a,.nil,e=>by simp at e
 | _,_,0,a,.cons (b:=b) h _,e=>by
  cases e;exact⟨b,rfl,h⟩
 | _,_,i+1,a,.cons _ t,e=>t.at (i:=i) e
theorem Prd.length {α β:Type}{R:α→β→Prop}:∀ {l:List α} {r:List β},Prd R l r→l.length=r.length
 | _,_,.nil=>rfl
 | _,_,.cons _ t=>by rw[List.length_cons,List.length_cons,t.length]
section
variable {prog:Program}{w:World}{A:Around}{E:Value→Shared→Prop}{s:Shared}{R:Result→Shared→Prop}
end
section
variable {X:Cx}{F:Fx}{p p2 pos pos2:Pos}{e:Expr}{gs:SS→R (List D)}{k:Nat}{pins:List (Addr×Obj)}{σ:List (Option V)}{H:Hp}{s:Shared}
end
end FF
end
noncomputable section
set_option maxRecDepth 1000000
namespace FF
open PySem PySem.Spec PyProof.Rows L2
def ltOf:Code→Option Value→Option Bool
 | .call (.builtin id) ⟨[.int a _,.int b _],[]⟩,none=>if id="int.__lt__" then some (decide (a < b)) else none
 | _,_=>none
def ev {α:Type}(σ:Setting):Sem α→Option α
 | .pure a=>some a
 | .rule _ k=>ev σ (k ())
 | .point _ k=>ev σ (k ())
 | .ask k=>ev σ (k σ)
 | .call c h _ _ k=>match ltOf c h with
  | some b=>ev σ (k (.ok (.ret (.bool b))))
  | none=>none
 | _=>none
section
variable {prog:Program}{w:World}{A:Around}{E:Value→Shared→Prop}{s:Shared}
end
def known (f:Nat→Int)(t:Nat→Tok):List Value:=(List.range 64).map fun i=>.int (f i) (t i)
section
variable {prog:Program}{w:World}{A:Around}{E:Value→Shared→Prop}{s:Shared}
end
section
variable {X:Cx}{F:Fx}{p pos:Pos}{e:Expr}{gs:SS→R (List D)}{k:Nat}
end
section
variable {X:Cx}{F:Fx}{pos:Pos}{k:Nat}{g ge:SS→R D}{e ei:Expr}{x:Str}
end
def dAddS:D→D→R D
 | .str a,.str b=>if a.length+b.length≤16777216 then .ok (.str (a++b)) else .stuck
 | _,_=>.stuck
def dStrI:List D→R D
 | [.int i]=>if i.natAbs.log2 < 1920 then .ok (.str (toString i)) else .stuck
 | _=>.stuck
def dLenS:List D→R D
 | [.str y]=>if y.length≤16777216 then .ok (.int (y.length:Nat)) else .stuck
 | _=>.stuck
section
variable {X:Cx}{F:Fx}{p pos:Pos}{e a b:Expr}{ga gb:SS→R D}{gs:SS→R (List D)}{k:Nat}
theorem wc (bx:BX X F k)(hg:Gl X "len")(hm:X.mg "len"=none)(ha:FA X F [e] gs)(he:starEach [e] X.env=(false,eval e X.env)::starEach [] X.env:=by rfl)(hpl:(backTo pos (starEach [] X.env)).any (·.1)=false:=by rfl) :
  FE X F (.Call (.Name "len" p) [e] [] pos) (eCall dLenS gs) :=
 (fg sD hg hm PySem.boot_len ha (he:=he) (hpl:=hpl)).weak fun σ H Q ⟨Z,S,ok,w⟩=>by
  refine bj ok w fun ds vs H1 Z1 ok1 x1 rs w1=>?_
  unfold dLenS at w1;split at w1
  ·rename_i y;split at w1
   ·rename_i hl;obtain⟨v,rfl,h⟩:=bI rs;rw[Rep]at h;subst h;exact⟨.str y,y.length,rfl,⟨by rw[sizeLine_eq];exact hl,rfl⟩,WG.now w1 ok1.sub _ aS⟩
   ·exact w1.elim
  ·exact w1.elim
end
section
variable {X:Cx}{F:Fx}{o e:Expr}{g:SS→R D}{gs:List (SS→R D)}{apos cpos:Pos}{k:Nat}
end
section
variable {X:Cx}{F:Fx}{e:Expr}{lo hi:Option Expr}{g:SS→R D}{l h:SS→R (Option Int)}{pos p2:Pos}
end
section
variable {X:Cx}
end
section
variable {X:Cx}{F:Fx}{e ei:Expr}{gs:SS→R (List D)}{pos p0 apos cpos:Pos}{x:Str}
end
section
variable {X:Cx}{pins:List (Addr×Obj)}{σ:St}
variable {F:Fx}{k:Nat}{f:Addr}{fd:FuncData}{ps:List Str}{t:List D→R D}{ds:List D}{l I S:Addr}{H0 Z0:Hp}{R:Result→Shared→Prop}{d:D}
end
section
variable {X:Cx}{F:Fx}{p pos kp np:Pos}{e:Expr}{g:SS→R D}{k:Nat}{x:Str}{ps:List Str}{t:List D→R D}
end
section
variable {kvs:List TKV}{xs:List TKU}{ks:List Int}
end
section
variable {X:Cx}{pins:List (Addr×Obj)}{σ:St}{H:Hp}{s:Shared}{a b:Addr}{kvs:List TKV}{ks:List Int}{A:Around}{E:Value→Shared→Prop}
end
section
variable {X:Cx}{pos:Pos}{o i e value:Expr}{td ty tv:TE}{pos':Pos}
end
section
variable {F:Fx}{Z Z':Hp}{m:List (List Int×D)}{kvs:List TKV}{ks:List Int}{d:D}{v:V}{b:Addr}
end
section
variable {F:Fx}{H Z:Hp}{S:SS}{σ:St}
end
section
variable {X:Cx}{F:Fx}{pos p p0:Pos}{k:Nat}{g ge:SS→R D}{e ei:Expr}{x:Str}
end
section
variable {σ:Type}{X:Cx}{F:Fx}{S:SS}{J:σ→SS→Prop}
end
section
variable {X:Cx}{F:Fx}
theorem we {x y:Str}{pos:Pos}(h:∃ t,X.mg x=some (.str y t))(hg:Gl X x)(hd:(x==("__debug__":Str))=false:=by decide):FE X F (.Name x pos) (eC (.str y)):=by
 obtain⟨t,e⟩:=h;exact cS (az (v:=.str y) hg e ⟨t,rfl⟩ hd) fun _=>by rw[Rep]
variable {σ':Type}{S:SS}{st:Stmt}{rest:List Stmt}{J:σ'→SS→Prop}
end
inductive OC where
 | ins (c:Nat) (fs:List (Str×D)) | lst (ds:List D)
abbrev Wd:=Addr→Option OC
def wput (W:Wd)(a:Addr)(o:OC):Wd:=fun b=>if b=a then some o else W b
def WObj (K:Frag)(C:Nat→Addr)(H Z:Hp)(a:Addr):OC→Prop
 | .ins c fs=>∃ dx vs,H a=some (.ins (C c) dx vs)∧H dx=some (.own a)∧Cls K (C c)∧vs.map Prod.fst=fs.map Prod.fst∧Reps K C Z (fs.map Prod.snd) (vs.map Prod.snd)
 | .lst ds=>∃ vs,H a=some (.lst vs)∧Reps K C Z ds vs
def TblOk (H:Hp)(P:Addr)(q:Str):Prop:=∃ ps,H P=some (.tbl ps)∧TriplesOk ps.toList ∧
 ∀ pos cv,codeAmong pos ps.toList=some cv→∃ c oc ws t,cv=.ref c∧H c=some (.frz oc (.own 0))∧oc.data=.fields ws∧ws[1]?=some (.str q t)
def qOf (K:Frag)(f:Addr):Str:=match K.lookup f with
 | some ⟨_,_,.func fd,_⟩=>fd.qualname ++ ".<locals>." ++ "<lambda>"
 | _=>Str.empty
def Tbs (K:Frag)(C:Nat→Addr)(H:Hp):Prop:=∀ i,i < C 900→TblOk H (C (901+2*i)) (qOf K (C (902+2*i)))
theorem Tbs.mono {K:Frag}{C:Nat→Addr}{H H':Hp}(h:Tbs K C H)(x:Same H H'):Tbs K C H':=fun i hi=>by
 obtain⟨ps,e,t,k⟩:=h i hi;refine⟨ps,x _ _ e,t,fun pos cv q=>?_⟩;obtain⟨c,oc,ws,t,e1,e2,r⟩:=k pos cv q;exact⟨c,oc,ws,t,e1,x _ _ e2,r⟩
theorem Tbs.put {K:Frag}{C:Nat→Addr}{H:Hp}{a:Addr}{o:HO}(h:Tbs K C H)(m:Mut (H a)):Tbs K C (upd H a o):=fun i hi=>by
 obtain⟨ps,e,t,k⟩:=h i hi;refine⟨ps,by rw[ag (fun z=>by rw[← z,e]at m;exact m)];exact e,t,fun pos cv q=>?_⟩;obtain⟨c,oc,ws,t,e1,e2,r⟩:=k pos cv q;exact⟨c,oc,ws,t,e1,by rw[ag (fun z=>by rw[← z,e2]at m;exact m)];exact e2,r⟩
structure WdOk (K:Frag)(C:Nat→Addr)(H Z:Hp)(W:Wd):Prop where
 wo:∀ a o,W a=some o→WObj K C H Z a o
 tb:Tbs K C H
instance {K:Frag}{C:Nat→Addr}{H Z:Hp}{W:Wd}:CoeFun (WdOk K C H Z W) (fun _=>∀ a o,W a=some o→WObj K C H Z a o):=⟨WdOk.wo⟩
theorem WObj.mono {K:Frag}{C:Nat→Addr}{H Z H' Z':Hp}{a:Addr}{o:OC}(h:WObj K C H Z a o)(x:Same H H')(z:Same Z Z'):WObj K C H' Z' a o:=by
 cases o with
 | ins c fs=>obtain⟨dx,vs,e1,e2,c,e3,r⟩:=h;exact⟨dx,vs,x _ _ e1,x _ _ e2,c,e3,r.mono z⟩
 | lst ds=>obtain⟨vs,e1,r⟩:=h;exact⟨vs,x _ _ e1,r.mono z⟩
theorem WdOk.mono {K:Frag}{C:Nat→Addr}{H Z H' Z':Hp}{W:Wd}(h:WdOk K C H Z W)(x:Same H H')(z:Same Z Z'):WdOk K C H' Z' W:=⟨fun a o e=>(h.wo a o e).mono x z,h.tb.mono x⟩
structure GX (HW Z H HW' Z' H':Hp):Prop where
 fr:∀ b o,HW b=none→H b=some o→H' b=some o
 z:Same Z Z'
 zh:Same Z' H'
 wh:Same HW' H'
 dm:∀ b,HW b≠none→HW' b≠none
 nw:∀ b,HW' b≠none→HW b≠none∨H b=none
 nz:∀ b,Z' b≠none→Z b≠none∨H b=none
 dj:∀ b,HW' b≠none→Z' b=none
theorem ms {o:Option HO}(h:o≠none):∃ u,o=some u:=by cases o with | none=>exact absurd rfl h | some u=>exact⟨u,rfl⟩
theorem aW {o:Option HO}{u:HO}(h:o=some u):o≠none:=by rw[h];simp
theorem GX.refl {HW Z H:Hp}(zh:Same Z H)(wh:Same HW H)(dj:∀ b,HW b≠none→Z b=none):GX HW Z H HW Z H :=
 ⟨fun _ _ _ e=>e,Same.refl _,zh,wh,fun _ h=>h,fun _ h=>.inl h,fun _ h=>.inl h,dj⟩
theorem GX.trans {HW Z H HW1 Z1 H1 HW2 Z2 H2:Hp}(a:GX HW Z H HW1 Z1 H1)(b:GX HW1 Z1 H1 HW2 Z2 H2):GX HW Z H HW2 Z2 H2:=by
 have back:∀ c,H1 c=none→H c=none∨HW c≠none:=fun c h=>by
  cases e:HW c with
  | some o=>exact .inr (by simp)
  | none =>
   cases e2:H c with
   | none=>exact .inl rfl
   | some o=>have:=a.fr c o e e2;rw[h]at this;cases this
 refine⟨fun c o h1 h2=>?_,a.z.trans b.z,b.zh,b.wh,fun c h=>b.dm c (a.dm c h),fun c h=>?_,fun c h=>?_,b.dj⟩
 ·have e:=a.fr c o h1 h2;cases q:HW1 c with
  | none=>exact b.fr c o q e
  | some u =>
   rcases a.nw c (aW q) with z | z
   ·exact absurd h1 z
   ·rw[h2]at z;cases z
 ·rcases b.nw c h with z | z
  ·exact a.nw c z
  ·exact(back c z).symm
 ·rcases b.nz c h with z | z
  ·exact a.nz c z
  ·rcases back c z with q | q
   ·exact .inr q
   ·exact absurd (b.dj c (b.dm c (a.dm c q))) h
def kp (HW Z HW0 H0 H:Hp):Hp:=fun b=>if HW b≠none∨Z b≠none∨(HW0 b=none∧H0 b≠none) then H b else none
theorem mt {HW Z HW0 H0 H:Hp}:Same (kp HW Z HW0 H0 H) H:=fun b o e=>by
 unfold kp at e;split at e
 ·exact e
 ·cases e
section
variable {HW0 Z0 H0 HW Z H:Hp}
theorem kp_w (g:GX HW0 Z0 H0 HW Z H):Same HW (kp HW Z HW0 H0 H):=fun b o e=>by
 unfold kp;rw[if_pos (.inl (aW e))];exact g.wh b o e
theorem kp_z (g:GX HW0 Z0 H0 HW Z H):Same Z (kp HW Z HW0 H0 H):=fun b o e=>by
 unfold kp;rw[if_pos (.inr (.inl (aW e)))];exact g.zh b o e
theorem kp_0 (g:GX HW0 Z0 H0 HW Z H){b:Addr}{o:HO}(h:HW0 b=none)(e:H0 b=some o):kp HW Z HW0 H0 H b=some o:=by
 unfold kp;rw[if_pos (.inr (.inr ⟨h,aW e⟩))];exact g.fr b o h e
theorem fN (g:GX HW0 Z0 H0 HW Z H){b:Addr}(h:kp HW Z HW0 H0 H b=none):HW b=none∧Z b=none∧(HW0 b≠none∨H0 b=none):=by
 refine⟨?_,?_,?_⟩
 ·cases e:HW b with
  | none=>rfl
  | some o=>rw[kp_w g b o e]at h;cases h
 ·cases e:Z b with
  | none=>rfl
  | some o=>rw[kp_z g b o e]at h;cases h
 ·cases e:HW0 b with
  | some o=>exact .inl (by simp)
  | none =>
   cases e2:H0 b with
   | none=>exact .inr rfl
   | some o=>rw[kp_0 g e e2]at h;cases h
theorem xC {b:Addr}(h1:HW b=none)(h2:Z b=none)(h3:HW0 b≠none∨H0 b=none):kp HW Z HW0 H0 H b=none:=by
 unfold kp;rw[if_neg]
 rintro (z | z | z)
 ·exact z h1
 ·exact z h2
 ·rcases h3 with q | q
  ·exact q z.1
  ·exact z.2 q
theorem GX.err {H':Hp}(g:GX HW0 Z0 H0 HW Z H)(s:Same (kp HW Z HW0 H0 H) H'):GX HW0 Z0 H0 HW Z H' :=
 ⟨fun b o h e=>s b o (kp_0 g h e),g.z,(kp_z g).trans s,(kp_w g).trans s,g.dm,g.nw,g.nz,g.dj⟩
theorem GX.after {H' Z':Hp}(g:GX HW0 Z0 H0 HW Z H)(x:Ex (kp HW Z HW0 H0 H) Z H' Z'):GX HW0 Z0 H0 HW Z' H':=by
 have e:=g.err x.same;refine⟨e.fr,g.z.trans x.z,x.sub,e.wh,g.dm,g.nw,fun b h=>?_,fun b h=>?_⟩
 ·rcases x.new b h with q | q
  ·exact g.nz b q
  ·rcases(fN g q).2.2 with z | z
   ·exact absurd (fN g q).1 (g.dm b z)
   ·exact .inr z
 ·cases q:Z' b with
  | none=>rfl
  | some o =>
   rcases x.new b (aW q) with z | z
   ·exact absurd (g.dj b h) z
   ·exact absurd (fN g z).1 h
theorem GX.ex {H' Z':Hp}(zh:Same Z H)(wh:Same HW H)(dj:∀ b,HW b≠none→Z b=none)(x:Ex H Z H' Z'):GX HW Z H HW Z' H' :=
 ⟨fun b o _ e=>x.same b o e,x.z,x.sub,wh.trans x.same,fun _ h=>h,fun _ h=>.inl h,x.new,fun b h=>by
  cases q:Z' b with
  | none=>rfl
  | some o =>
   rcases x.new b (aW q) with z | z
   ·exact absurd (dj b h) z
   ·obtain⟨u,e⟩:=ms h;rw[wh b u e]at z;cases z⟩
end
theorem StOk.rebase {F F':Fx}{H Z:Hp}{S:SS}{σ:St}(h:StOk F H Z S σ)(x:Ex F'.H0 F'.Z0 H Z)(hp:∀ a o,H a=some o→Z a=none→F.H0 a=none→F'.H0 a=none)(hK:F'.K=F.K:=by rfl)(hC:F'.C=F.C:=by rfl):StOk F' H Z S σ:=by
 refine⟨x,h.len,fun i y e=>?_,fun i j y z v w A B hij e1 e2 e3 e4 o1 o2=>?_⟩
 ·obtain⟨v,A,e1,o,p⟩:=h.sl i y e;exact⟨v,A,e1,ow_K o hK hC,⟨p.nd,p.z,fun a ha=>let ⟨u,hu⟩:=o.there a ha;hp a u hu (p.z a ha) (p.h0 a ha)⟩⟩
 ·exact h.dj i j y z v w A B hij e1 e2 e3 e4 (ow_K o1 hK.symm hC.symm) (ow_K o2 hK.symm hC.symm)
structure Gx where
 K:Frag
 C:Nat→Addr
 HW0:Hp
 Z0:Hp
 H0:Hp
 E:XK
abbrev Gx.at (G:Gx)(H0 Z0:Hp):Fx:=⟨G.K,G.C,H0,Z0,G.E⟩
abbrev Gx.fx (G:Gx)(HW Z H:Hp):Fx:=⟨G.K,G.C,kp HW Z G.HW0 G.H0 H,Z,G.E⟩
structure GOk (G:Gx)(W:Wd)(HW Z H:Hp)(S:SS)(ρ:St):Prop where
 gx:GX G.HW0 G.Z0 G.H0 HW Z H
 wd:WdOk G.K G.C HW Z W
 nm:StOk (G.fx HW Z H) H Z S ρ
abbrev Wk (F:Fx)(W:Wd):Prop:=WdOk F.K F.C F.H0 F.Z0 W
section
variable {G:Gx}{W W':Wd}{HW Z H HW' Z' H':Hp}{S S':SS}{ρ ρ':St}
theorem GOk.wk (h:GOk G W HW Z H S ρ):Wk (G.fx HW Z H) W:=h.wd.mono (kp_w h.gx) (Same.refl _)
theorem GOk.after (h:GOk G W HW Z H S ρ)(k:StOk (G.fx HW Z H) H' Z' S' ρ'):GOk G W HW Z' H' S' ρ':=by
 have g:=h.gx.after k.ex;refine⟨g,h.wd.mono (Same.refl _) k.ex.z,k.rebase ⟨mt,Same.refl _,k.sub,fun _ q=>.inl q⟩ fun a o e z n=>?_⟩;have q:=fN h.gx n;exact xC q.1 z q.2.2
theorem GOk.more (h:GOk G W HW Z H S ρ)(x:GX HW Z H HW' Z' H')(w:WdOk G.K G.C HW' Z' W'):GOk G W' HW' Z' H' S ρ:=by
 have g:=h.gx.trans x;have keep:∀ {y:Sl} {v:V} {A:List Addr},Ow (G.fx HW Z H) H Z y v A→Priv (G.fx HW Z H) Z A→Ow (G.fx HW' Z' H') H' Z' y v A:=fun o p=>ow_K (o.mono x.z fun a ha u e=>x.fr a u (fN h.gx (p.h0 a ha)).1 e)
 refine⟨g,w,⟨⟨mt,Same.refl _,x.zh,fun _ q=>.inl q⟩,h.nm.len,fun i y e=>?_,fun i j y z v w A B hij e1 e2 e3 e4 o1 o2=>?_⟩⟩
 ·obtain⟨v,A,e1,o,p⟩:=h.nm.sl i y e;refine⟨v,A,e1,keep o p,⟨p.nd,fun a ha=>?_,fun a ha=>?_⟩⟩
  ·obtain⟨u,hu⟩:=o.there a ha;cases q:Z' a with
   | none=>rfl
   | some r =>
    rcases x.nz a (aW q) with z | z
    ·exact absurd (p.z a ha) z
    ·rw[hu]at z;cases z
  ·obtain⟨u,hu⟩:=o.there a ha;have n:=fN h.gx (p.h0 a ha);refine xC ?_ ?_ n.2.2
   ·cases q:HW' a with
    | none=>rfl
    | some r =>
     rcases x.nw a (aW q) with z | z
     ·exact absurd n.1 z
     ·rw[hu]at z;cases z
   ·cases q:Z' a with
    | none=>rfl
    | some r =>
     rcases x.nz a (aW q) with z | z
     ·exact absurd (p.z a ha) z
     ·rw[hu]at z;cases z
 ·obtain⟨v',A',f1,q1,p1⟩:=h.nm.sl i y e1;obtain⟨w',B',f2,q2,p2⟩:=h.nm.sl j z e2;rw[e3]at f1;cases f1;rw[e4]at f2;cases f2;rw[o1.det (keep q1 p1),o2.det (keep q2 p2)];exact h.nm.dj i j y z v w A' B' hij e1 e2 e3 e4 q1 q2
end
inductive RW where
 | ok (w:Wd) (d:D) | er (w:Wd) (k:Nat) | al (w:Wd) (f:Addr→RW) | stuck
inductive LW (σ:Type) where
 | nx (w:Wd) (s:σ) | rt (w:Wd) (d:D) | er (w:Wd) (k:Nat) | al (w:Wd) (f:Addr→LW σ) | stuck
def WRW (K:Frag)(C:Nat→Addr)(E:XK)(HW Z H:Hp)(P:Wd→D→Hp→Hp→Hp→Prop):RW→Prop
 | .ok w d=>∀ HW' Z' H',GX HW Z H HW' Z' H'→WdOk K C HW' Z' w→P w d HW' Z' H'
 | .er w k=>∀ HW' Z' H',GX HW Z H HW' Z' H'→WdOk K C HW' Z' w→E (.ref (C k)) none H'
 | .al w f=>∀ a,w a=none→WRW K C E HW Z H P (f a)
 | .stuck=>False
theorem WRW.more {K:Frag}{C:Nat→Addr}{E:XK}{HW Z H HW1 Z1 H1:Hp}{P:Wd→D→Hp→Hp→Hp→Prop}(x:GX HW Z H HW1 Z1 H1):∀ {r:RW},WRW K C E HW Z H P r→WRW K C E HW1 Z1 H1 P r
 | .ok w d,h=>fun a b c y=>h a b c (x.trans y)
 | .er w k,h=>fun a b c y=>h a b c (x.trans y)
 | .al w f,h=>fun a e=>WRW.more x (h a e)
 | .stuck,h=>h
theorem WRW.imp {K:Frag}{C:Nat→Addr}{E:XK}{HW Z H:Hp}{P P':Wd→D→Hp→Hp→Hp→Prop}(hp:∀ w d HW' Z' H',GX HW Z H HW' Z' H'→WdOk K C HW' Z' w→P w d HW' Z' H'→P' w d HW' Z' H'):∀ {r:RW},WRW K C E HW Z H P r→WRW K C E HW Z H P' r
 | .ok w d,h=>fun a b c y z=>hp w d a b c y z (h a b c y z)
 | .er w k,h=>h
 | .al w f,h=>fun a e=>WRW.imp hp (h a e)
 | .stuck,h=>h
def WGL {σ:Type}(G:Gx)(Z1:Hp)(J:σ→SS→Prop)(D:Ends):LW σ→Prop
 | .nx w s=>∀ S ρ HW Z H,J s S→Same Z1 Z→GOk G w HW Z H S ρ→D.nx ρ H
 | .rt w d=>∀ v HW Z H,GX G.HW0 G.Z0 G.H0 HW Z H→WdOk G.K G.C HW Z w→Rep G.K G.C Z d v→D.rt v H
 | .er w k=>∀ HW Z H,Same Z1 Z→GX G.HW0 G.Z0 G.H0 HW Z H→WdOk G.K G.C HW Z w→G.E (.ref (G.C k)) none H
 | .al w f=>∀ a,w a=none→WGL G Z1 J D (f a)
 | .stuck=>False
theorem WGL.more {σ:Type}{G:Gx}{Z1 Z2:Hp}{J:σ→SS→Prop}{D:Ends}(z:Same Z1 Z2):∀ {l:LW σ},WGL G Z1 J D l→WGL G Z2 J D l
 | .nx w s,h=>fun S ρ HW Z H j q=>h S ρ HW Z H j (z.trans q)
 | .rt w d,h=>h
 | .er w k,h=>fun HW Z H q=>h HW Z H (z.trans q)
 | .al w f,h=>fun a e=>WGL.more z (h a e)
 | .stuck,h=>h
def tGL {σ:Type}(G:Gx)(W:Wd)(S:SS)(J:σ→SS→Prop)(l:LW σ):TS:=fun D ρ H=>∃ HW Z,GOk G W HW Z H S ρ∧WGL G Z J D l
abbrev GL {σ:Type}(X:Cx)(G:Gx)(W:Wd)(S:SS)(sts:List Stmt)(J:σ→SS→Prop)(l:LW σ):Prop:=PSs X sts (tGL G W S J l)
abbrev GL1 {σ:Type}(X:Cx)(G:Gx)(W:Wd)(S:SS)(st:Stmt)(J:σ→SS→Prop)(l:LW σ):Prop:=PS X st (tGL G W S J l)
def tGE (G:Gx)(W:Wd)(S:SS)(r:RW):TE:=fun ρ H Q=>∃ HW Z,GOk G W HW Z H S ρ∧WRW G.K G.C G.E HW Z H (fun _ d _ Z' H'=>∀ v,Rep G.K G.C Z' d v→Q v H') r
abbrev GE (X:Cx)(G:Gx)(W:Wd)(S:SS)(e:Expr)(r:RW):Prop:=PE X e (tGE G W S r)
def rwR (W:Wd)(r:R D):RW:=match r with
 | .ok d=>.ok W d
 | .err k=>.er W k
 | .stuck=>.stuck
def rwA {α:Type}(W:Wd)(r:R α)(k:α→RW):RW:=match r with
 | .ok a=>k a
 | .err e=>.er W e
 | .stuck=>.stuck
def lwB {σ:Type}:RW→(Wd→D→LW σ)→LW σ
 | .ok w d,k=>k w d
 | .er w e,_=>.er w e
 | .al w f,k=>.al w fun a=>lwB (f a) k
 | .stuck,_=>.stuck
def rwB:RW→(Wd→D→RW)→RW
 | .ok w d,k=>k w d
 | .er w e,_=>.er w e
 | .al w f,k=>.al w fun a=>rwB (f a) k
 | .stuck,_=>.stuck
def lwS {τ σ:Type}:LW τ→(Wd→τ→LW σ)→LW σ
 | .nx w s,k=>k w s
 | .rt w d,_=>.rt w d
 | .er w e,_=>.er w e
 | .al w f,k=>.al w fun a=>lwS (f a) k
 | .stuck,_=>.stuck
def outW {σ:Type}:LW σ→RW
 | .nx w _=>.ok w .non
 | .rt w d=>.ok w d
 | .er w k=>.er w k
 | .al w f=>.al w fun a=>outW (f a)
 | .stuck=>.stuck
section
variable {X:Cx}{G:Gx}{W:Wd}{S:SS}{e:Expr}{es:List Expr}{st:Stmt}{rest:List Stmt}{σ τ V':Type}{J:σ→SS→Prop}
theorem GOk.wh {HW Z H:Hp}{ρ:St}(h:GOk G W HW Z H S ρ):Same HW H:=h.gx.wh
theorem GOk.zh {HW Z H:Hp}{ρ:St}(h:GOk G W HW Z H S ρ):Same Z H:=h.gx.zh
theorem GOk.self {HW Z H:Hp}{ρ:St}(h:GOk G W HW Z H S ρ):GX HW Z H HW Z H:=GX.refl h.gx.zh h.gx.wh h.gx.dj
theorem GOk.ex {HW Z H H' Z':Hp}{ρ:St}(h:GOk G W HW Z H S ρ)(x:Ex H Z H' Z'):GX HW Z H HW Z' H':=GX.ex h.gx.zh h.gx.wh h.gx.dj x
theorem bq {g:SS→R D}(h:∀ H0 Z0,Wk (G.at H0 Z0) W→FE X (G.at H0 Z0) e g):GE X G W S e (rwR W (g S)):=fun pins s ρ H Q I ⟨HW,Z,ok,w⟩=>by
 refine h _ _ ok.wk pins s ρ H Q I ⟨Z,S,ok.nm,?_⟩;cases q:g S with
 | ok d=>rw[q]at w;exact fun H' Z' x=>w HW Z' H' (ok.ex x) (ok.wd.mono (Same.refl _) x.z)
 | err k=>rw[q]at w;exact fun H' x=>w HW Z H' ⟨fun b o _ e=>x b o e,Same.refl _,ok.zh.trans x,ok.wh.trans x,fun _ h=>h,fun _ h=>.inl h,fun _ h=>.inl h,ok.gx.dj⟩ ok.wd
 | stuck=>rw[q]at w;exact w
theorem p8 {gs:SS→R (List D)}(h:∀ H0 Z0,Wk (G.at H0 Z0) W→FA X (G.at H0 Z0) es gs) :
  PA X es (fun ρ H Q=>∃ HW Z,GOk G W HW Z H S ρ∧match gs S with
   | .ok ds=>∀ H' Z',Ex H Z H' Z'→∀ vs,Reps G.K G.C Z' ds vs→Q vs H'
   | .err e=>∀ HW' Z' H',GX HW Z H HW' Z' H'→WdOk G.K G.C HW' Z' W→G.E (.ref (G.C e)) none H'
   | .stuck=>False):=fun pos pins s ρ H Q I ⟨HW,Z,ok,w⟩=>by
 refine h _ _ ok.wk pos pins s ρ H Q I ⟨Z,S,ok.nm,?_⟩;cases q:gs S with
 | ok d=>rw[q]at w;exact w
 | err k=>rw[q]at w;exact fun H' x=>w HW Z H' ⟨fun b o _ e=>x b o e,Same.refl _,ok.zh.trans x,ok.wh.trans x,fun _ h=>h,fun _ h=>.inl h,fun _ h=>.inl h,ok.gx.dj⟩ ok.wd
 | stuck=>rw[q]at w;exact w
theorem cH {s:σ}(h:J s S):GL X G W S [] J (.nx W s):=pD.weak fun D ρ H ⟨HW,Z,ok,w⟩=>w S ρ HW Z H h (Same.refl _) ok
theorem oI {l:LW σ}(h:GL1 X G W S st J l):GL X G W S [st] J l:=jh h
theorem WGL.bind {D:Ends}{J1:τ→SS→Prop}{Z:Hp}{k:Wd→τ→LW σ}{N:St→Hp→Prop}(hN:∀ w s S ρ HW Z' H,J1 s S→Same Z Z'→GOk G w HW Z' H S ρ→WGL G Z' J D (k w s)→N ρ H):∀ {l:LW τ},WGL G Z J D (lwS l k)→WGL G Z J1 { D with nx:=N } l
 | .nx w s,h=>fun S ρ HW Z' H j z ok=>hN w s S ρ HW Z' H j z ok (h.more z)
 | .rt w d,h=>h
 | .er w k,h=>h
 | .al w f,h=>fun a e=>WGL.bind hN (h a e)
 | .stuck,h=>h
theorem jP {l:LW τ}{k:Wd→τ→LW σ}{inj:τ→V'→SS}(h:GL1 X G W S st (JX inj) l)(hk:∀ w s x,GL X G w (inj s x) rest J (k w s)):GL X G W S (st::rest) J (lwS l k) :=
 (bc h (bS fun w=>bS fun s=>bS fun x=>hk w s x)).weak fun D ρ H ⟨HW,Z,ok,w⟩=>⟨HW,Z,ok,WGL.bind (fun w' s S' ρ' HW' Z' H' ⟨x,e⟩ z ok' wk=>⟨w',s,x,HW',Z',e ▸ ok',wk⟩) w⟩
theorem WRW.gl {D:Ends}{HW Z H:Hp}{ρ:St}{k:Wd→FF.D→LW σ}{Q:VK}(ok:GOk G W HW Z H S ρ)(hQ:∀ w d HW' Z' H' v,GOk G w HW' Z' H' S ρ→Same Z Z'→Rep G.K G.C Z' d v→WGL G Z' J D (k w d)→Q v H'):∀ {r:RW},WGL G Z J D (lwB r k)→WRW G.K G.C G.E HW Z H (fun _ d _ Z' H'=>∀ v,Rep G.K G.C Z' d v→Q v H') r
 | .ok w d,h=>fun HW' Z' H' x wd v r=>hQ w d HW' Z' H' v (ok.more x wd) x.z r (h.more x.z)
 | .er w k,h=>fun HW' Z' H' x wd=>h HW' Z' H' x.z (ok.gx.trans x) wd
 | .al w f,h=>fun a e=>WRW.gl ok hQ (h a e)
 | .stuck,h=>h
end
structure BG (X:Cx)(G:Gx)(k:Nat):Prop where
 room:Room k X.A
 K:X.K=G.K
 calm:X.calm=true
 pass:Passes (CXE X.prog X.w) X G.E
section
variable {X:Cx}{G:Gx}{W:Wd}{F:Fx}{k:Nat}
theorem BG.bx (b:BG X G k){H0 Z0:Hp}:BX X (G.at H0 Z0) k:=⟨b.room,b.K,b.calm,b.pass⟩
end
def dFld (c:Nat)(W:Wd)(f:Str)(d:D):R D:=match d with
 | .ptr a=>match W a with
  | some (.ins c' fs)=>if c'=c then match fs.lookup f with
   | some x=>.ok x
   | none=>.stuck
   else .stuck
  | _=>.stuck
 | _=>.stuck
def eFld (c:Nat)(W:Wd)(f:Str)(g:SS→R D):SS→R D:=fun S=>(g S).bind (dFld c W f)
theorem p9 {K:Frag}{C:Nat→Addr}{Z:Hp}{f:Str}:∀ {fs:List (Str×D)} {vs:List (Str×V)} {x:D},vs.map Prod.fst=fs.map Prod.fst→Reps K C Z (fs.map Prod.snd) (vs.map Prod.snd)→fs.lookup f=some x→∃ v,vs.lookup f=some v∧Rep K C Z x v
 | [],_,_,_,_,e=>by simp at e
 | (g,d)::fs,[],_,h,_,_=>by simp at h
 | (g,d)::fs,(g',v)::vs,x,h,r,e=>by
  rw[List.map_cons,List.map_cons,List.cons.injEq]at h;obtain⟨h1,h2⟩:=h;have h1:g'=g:=h1;subst h1;rw[List.map_cons,List.map_cons,Reps]at r;obtain⟨v0,r0,q,r1,r2⟩:=r;rw[List.cons.injEq]at q;obtain⟨q1,q2⟩:=q;subst q1 q2;rw[List.lookup_cons]at e ⊢;cases hb:(f==g') with
  | true=>rw[hb]at e;cases e;exact⟨v,rfl,r1⟩
  | false=>rw[hb]at e;exact p9 h2 r2 e
section
variable {X:Cx}{F:Fx}{W:Wd}{c:Nat}{f:Str}{e:Expr}{g:SS→R D}{pos:Pos}
theorem bb (hK:X.K=F.K)(wk:Wk F W)(hn:NoAttr X.K (F.C c) f)(he:FE X F e g)(hb:attributeBase e f X.env (eval e X.env)=eval e X.env:=by rfl):FE X F (.Attribute e f pos) (eFld c W f g) :=
 (ya he hb).weak fun σ H Q ⟨Z,S,ok,w⟩=>by
  refine av ok w fun d v H1 Z1 ok1 x1 r w1=>?_
  unfold dFld at w1;split at w1
  ·rename_i a;split at w1
   ·rename_i c' fs ew;split at w1
    ·rename_i ec;subst ec;split at w1
     ·rename_i x ex;rw[Rep]at r;subst r;obtain⟨dx,vs,e1,e2,cl,e3,rr⟩:=wk a _ ew;obtain⟨v,ev,rv⟩:=p9 e3 rr ex;exact⟨a,F.C c',dx,vs,v,rfl,ok1.ex.same _ _ e1,by rw[hK];exact cl,hn,ev,WG.now w1 ok1.sub _ (rv.mono ok1.ex.z)⟩
     ·exact w1.elim
    ·exact w1.elim
   ·exact w1.elim
  ·exact w1.elim
end
def putD (f:Str)(d:D):List (Str×D)→List (Str×D)
 | []=>[(f,d)]
 | (g,x)::r=>if g=f then (g,d)::r else (g,x)::putD f d r
theorem lN {K:Frag}{C:Nat→Addr}{Z:Hp}{f:Str}{d:D}{v:V}(rd:Rep K C Z d v):∀ {fs:List (Str×D)} {vs:List (Str×V)},vs.map Prod.fst=fs.map Prod.fst→Reps K C Z (fs.map Prod.snd) (vs.map Prod.snd) →
  (putF f v vs).map Prod.fst=(putD f d fs).map Prod.fst∧Reps K C Z ((putD f d fs).map Prod.snd) ((putF f v vs).map Prod.snd)
 | [],[],_,_=>⟨rfl,Reps.cons rd Reps.nil⟩
 | [],_::_,h,_=>by simp at h
 | _::_,[],h,_=>by simp at h
 | (g,x)::fs,(g',y)::vs,h,r=>by
  rw[List.map_cons,List.map_cons,List.cons.injEq]at h;obtain⟨h1,h2⟩:=h;have h1:g'=g:=h1;subst h1;rw[List.map_cons,List.map_cons,Reps]at r;obtain⟨v0,r0,q,r1,r2⟩:=r;rw[List.cons.injEq]at q;obtain⟨q1,q2⟩:=q;subst q1 q2;unfold putF putD;by_cases c:g'=f
  ·rw[if_pos c,if_pos c];exact⟨by rw[List.map_cons,List.map_cons,h2],Reps.cons rd r2⟩
  ·rw[if_neg c,if_neg c];obtain⟨a,b⟩:=lN rd h2 r2;exact⟨by rw[List.map_cons,List.map_cons,a],Reps.cons r1 b⟩
def wFld {σ:Type}(c:Nat)(W:Wd)(f:Str)(o d:D)(k:Wd→LW σ):LW σ:=match o with
 | .ptr a=>match W a with
  | some (.ins c' fs)=>if c'=c∧fs.length < 900 then k (wput W a (.ins c (putD f d fs))) else .stuck
  | _=>.stuck
 | _=>.stuck
section
variable {G:Gx}{W:Wd}{HW Z H:Hp}{S:SS}{ρ:St}
theorem GOk.put (h:GOk G W HW Z H S ρ){a:Addr}{o:HO}{oc:OC}(ha:HW a≠none)(hm:Mut (HW a))(hw:∀ H',Same Z Z→H' a=some o→(∀ b,b≠a→H' b=HW b)→WObj G.K G.C H' Z a oc)(hd:∀ b u,HW b=some (.own u)→b≠a) :
  GX HW Z H (upd HW a o) Z (upd H a o)∧GOk G (wput W a oc) (upd HW a o) Z (upd H a o) S ρ:=by
 have gx:GX HW Z H (upd HW a o) Z (upd H a o):=by
  refine⟨fun b u h1 h2=>?_,Same.refl _,fun b u e=>?_,fun b u e=>?_,fun b q=>?_,fun b q=>?_,fun b q=>.inl q,fun b q=>?_⟩
  ·rw[ag (fun z=>ha (by rw[← z];exact h1))];exact h2
  ·rw[ag (fun z=>by rw[z,h.gx.dj a ha]at e;cases e)];exact h.zh b u e
  ·by_cases z:b=a
   ·subst z;rw[ai]at e ⊢;exact e
   ·rw[ag z]at e ⊢;exact h.wh b u e
  ·by_cases z:b=a
   ·subst z;rw[ai];simp
   ·rw[ag z];exact q
  ·by_cases z:b=a
   ·subst z;exact .inl ha
   ·rw[ag z]at q;exact .inl q
  ·by_cases z:b=a
   ·subst z;exact h.gx.dj b ha
   ·rw[ag z]at q;exact h.gx.dj b q
 refine⟨gx,h.more gx ⟨fun b u e=>?_,h.wd.tb.put hm⟩⟩;unfold wput at e;split at e
 ·rename_i z;subst z;cases e;exact hw (upd HW b o) (Same.refl _) ai fun c hc=>ag hc
 ·rename_i z;have q:=h.wd b u e;cases u with
  | ins c fs=>obtain⟨dx,vs,e1,e2,cl,e3,r⟩:=q;exact⟨dx,vs,by rw[ag z];exact e1,by rw[ag (hd dx b e2)];exact e2,cl,e3,r⟩
  | lst ds=>obtain⟨vs,e1,r⟩:=q;exact⟨vs,by rw[ag z];exact e1,r⟩
end
section
variable {X:Cx}{G:Gx}{W:Wd}{S:SS}{o e:Expr}{σ:Type}{J:σ→SS→Prop}{r:RW}{pos pos':Pos}{f:Str}{c:Nat}
theorem wf {go:SS→R D}{po:D}{s:σ}(hK:X.K=G.K)(hn:NoAttr X.K (G.C c) f)(hv:GE X G W S e r)(ho:∀ H0 Z0 W',Wk (G.at H0 Z0) W'→FE X (G.at H0 Z0) o go)(hS:go S=.ok po)(hJ:J s S)
  (hs:swapsWith e (some (.Attribute o f pos')) pos.line X.env=pure false:=by rfl):GL1 X G W S (.Assign [.Attribute o f pos'] e pos) J (lwB r fun w d=>wFld c w f po d fun w'=>.nx w' s):=by
 have ho':PE X o (fun ρ H Q=>∃ W' HW Z,GOk G W' HW Z H S ρ∧tE (G.fx HW Z H) go ρ H Q):=fun pins s ρ H Q I ⟨W',HW,Z,ok,t⟩=>ho _ _ W' ok.wk pins s ρ H Q I t
 refine(yb ho' hv hs).weak fun D ρ H ⟨HW,Z,ok,w⟩=>⟨HW,Z,ok,WRW.gl (J:=J) (D:=D) (k:=fun w d=>wFld c w f po d fun w'=>.nx w' s) ok (fun w1 d HW1 Z1 H1 v ok1 z1 rd wl=>?_) w⟩
 refine⟨w1,HW1,Z1,ok1,Z1,S,ok1.nm,?_⟩;rw[hS];intro H2 Z2 x2 vo ro;unfold wFld at wl;cases po with
 | ptr a =>
  simp only at wl;cases ew:w1 a with
  | none=>rw[ew]at wl;exact wl.elim
  | some oc =>
   cases oc with
   | lst ds=>rw[ew]at wl;exact wl.elim
   | ins c' fs =>
   rw[ew]at wl;simp only at wl;by_cases ec:c'=c∧fs.length < 900
   ·rw[if_pos ec]at wl;obtain⟨rfl,hl⟩:=ec;have ok2:=ok1.more (ok1.ex x2) (ok1.wd.mono (Same.refl _) x2.z);rw[Rep]at ro;subst ro;obtain⟨dx,vs,e1,e2,cl,e3,rr⟩:=ok2.wd a _ ew;have lv:vs.length=fs.length:=by have:=congrArg List.length e3;simpa using this
    have rd2:=rd.mono x2.z;obtain⟨k1,k2⟩:=lN (f:=f) rd2 e3 rr;obtain⟨gx,ok3⟩:=ok2.put (a:=a) (o:=.ins (G.C c') dx (putF f v vs)) (oc:=.ins c' (putD f d fs)) (aW e1) (by rw[e1];exact True.intro) (fun H' _ ha hb=>⟨dx,_,ha,by rw[hb dx (fun z=>by rw[z,e1]at e2;cases e2)];exact e2,cl,k1,k2⟩) (fun b u q z=>by rw[z,e1]at q;cases q);exact⟨a,G.C c',dx,vs,rfl,ok2.wh _ _ e1,by rw[hK];exact cl,hn,by omega,wl S ρ _ Z2 _ hJ x2.z ok3⟩
   ·rw[if_neg ec]at wl;exact wl.elim
 | _=>exact wl.elim
theorem ui {s:σ}(h:GE X G W S e r)(hJ:J s S)(hs:swapsWith e none pos.line X.env=pure false:=by rfl):GL1 X G W S (.Expr e pos) J (lwB r fun w _=>.nx w s) :=
 (gJ h hs).weak fun D ρ H ⟨HW,Z,ok,w⟩=>⟨HW,Z,ok,WRW.gl (J:=J) (D:=D) (k:=fun w _=>.nx w s) ok (fun w1 d HW1 Z1 H1 v ok1 z1 rd wl=>wl S ρ HW1 Z1 H1 hJ (Same.refl _) ok1) w⟩
theorem qd (h:GE X G W S e r):GL1 X G W S (.Return (some e) pos) J (lwB r fun w d=>.rt w d) :=
 (nO h).weak fun D ρ H ⟨HW,Z,ok,w⟩=>⟨HW,Z,ok,WRW.gl (J:=J) (D:=D) (k:=fun w d=>.rt w d) ok (fun w1 d HW1 Z1 H1 v ok1 z1 rd wl=>wl v HW1 Z1 H1 ok1.gx ok1.wd rd) w⟩
theorem wj {i:Nat}{x:Str}{px:Pos}(hN:X.N.Nodup)(hi:X.N[i]?=some x)(hx:Loc X.env.scope x)(h:GE X G W S e r)(hf:X.fn x=true∨X.env.scope.names.lookup x=some .local)(hs:swapsWith e (some (.Name x px)) pos.line X.env=pure false:=by rfl) :
  GL1 X G W S (.Assign [.Name x px] e pos) (JX fun (d:D) (_:Unit)=>S.set i (vv d)) (lwB r fun w d=>.nx w d) :=
 (jt hN hi hx h hs (hf:=hf)).weak fun D ρ H ⟨HW,Z,ok,w⟩=>⟨HW,Z,ok,WRW.gl (J:=JX fun (d:FF.D) (_:Unit)=>S.set i (vv d)) (D:=D) (k:=fun w d=>.nx w d) ok (fun w1 d HW1 Z1 H1 v ok1 z1 rd wl=>wl _ _ HW1 Z1 H1 ⟨(),rfl⟩ (Same.refl _) ⟨ok1.gx,ok1.wd,ok1.nm.setVal rd⟩) w⟩
end
def spG (K:Frag)(C:Nat→Addr)(n:Nat)(f:Wd→List D→RW):Sp:=fun vs H Q E =>
 vs.length=n∧∃ W HW Z ds,Same Z H∧Same HW H∧(∀ b,HW b≠none→Z b=none)∧WdOk K C HW Z W∧Reps K C Z ds vs∧WRW K C E HW Z H (fun _ d _ Z' H'=>∀ v,Rep K C Z' d v→Q v H') (f W ds)
section
variable {P:Program}{w:World}{K:Frag}{mg:Str→Option Value}{base:Heap}
theorem WGL.start {G:Gx}{Q:VK}{Z1:Hp}:∀ {l:LW Unit},WRW G.K G.C G.E G.HW0 G.Z0 G.H0 (fun _ d _ Z' H'=>∀ v,Rep G.K G.C Z' d v→Q v H') (outW l)→WGL G Z1 JU { nx:=fun _ H'=>Q .non H',rt:=Q } l
 | .nx w s,h=>fun S ρ HW Z H _ _ ok=>h HW Z H ok.gx ok.wd .non (by rw[Rep])
 | .rt w d,h=>fun v HW Z H x wd r=>h HW Z H x wd v r
 | .er w k,h=>fun HW Z H _ gx wd=>h HW Z H gx wd
 | .al w f,h=>fun a e=>WGL.start (h a e)
 | .stuck,h=>h
theorem GOk.start {K:Frag}{C:Nat→Addr}{E:XK}{HW Z H:Hp}{W:Wd}{N:List Str}{ds:List D}{vs:List V}(zh:Same Z H)(wh:Same HW H)(dj:∀ b,HW b≠none→Z b=none)(wd:WdOk K C HW Z W)(r:Reps K C Z ds vs) :
  GOk ⟨K,C,HW,Z,H,E⟩ W HW Z H (startS N.length ds) (start N vs):=by
 have gx:GX HW Z H HW Z H:=GX.refl zh wh dj;refine⟨gx,wd,?_⟩;have s:=dM (F:=⟨K,C,H,Z,E⟩) (N:=N) zh r;exact s.rebase ⟨mt,Same.refl _,zh,fun _ q=>.inl q⟩ fun a o e _ n=>by
  have e:H a=some o:=e;have n:H a=none:=n;rw[e]at n;cases n
end
structure FnW (P:Program)(w:World)(K:Frag)(mg:Str→Option Value)(base:Heap)(C:Nat→Addr)(k:Nat)(x:Str)(ps:List Str)(f:Wd→List D→RW):Prop where
 ex:∃ a fd,FnOk P w K mg base (CXE P w) k a fd ps (spG K C ps.length f)∧mg x=some (.ref a)∧keepIn K (.ref a)=true∧Binds K fd ps []
structure MeW (P:Program)(w:World)(K:Frag)(mg:Str→Option Value)(base:Heap)(C:Nat→Addr)(k:Nat)(c:Nat)(m:Str)(ps:List Str)(f:Wd→List D→RW):Prop where
 ex:∃ a fd,FnOk P w K mg base (CXE P w) k a fd ps (spG K C ps.length f)∧Meth K (C c) m a∧Binds K fd ps []
structure MkW (P:Program)(w:World)(K:Frag)(mg:Str→Option Value)(base:Heap)(C:Nat→Addr)(k:Nat)(c:Nat)(x:Str)(ps:List Str)(f:Wd→List D→RW):Prop where
 ex:∃ a fd,FnOk P w K mg base (CXE P w) k a fd ps (spG K C ps.length f)∧Mk K (C c) a∧mg x=some (.ref (C c))∧Binds K fd ps []
 cls:Cls K (C c)
def rwM (c:Nat)(m:Str)(W:Wd)(o:D)(k:RW):RW:=match o with
 | .ptr a=>match W a with
  | some (.ins c' fs)=>if c'=c∧fs.lookup m=none then k else .stuck
  | _=>.stuck
 | _=>.stuck
def rwNew (c:Nat)(W:Wd)(f:Wd→List D→RW)(ds:List D):RW:=.al W fun a=>rwB (f (wput W a (.ins c [])) (.ptr a::ds)) fun w d=>match d with
 | .non=>.ok w (.ptr a)
 | _=>.stuck
theorem jl {f:Str}:∀ {fs:List (Str×D)} {vs:List (Str×V)},vs.map Prod.fst=fs.map Prod.fst→fs.lookup f=none→vs.lookup f=none
 | [],[],_,_=>rfl
 | [],_::_,h,_=>by simp at h
 | _::_,[],h,_=>by simp at h
 | (g,x)::fs,(g',y)::vs,h,e=>by
  rw[List.map_cons,List.map_cons,List.cons.injEq]at h;obtain⟨h1,h2⟩:=h;have h1:g'=g:=h1;subst h1;rw[List.lookup_cons]at e ⊢;cases hb:(f==g') with
  | true=>rw[hb]at e;cases e
  | false=>rw[hb]at e;exact jl h2 e
section
variable {X:Cx}{G:Gx}{W:Wd}{S:SS}{o e:Expr}{es:List Expr}{k:Nat}{x m:Str}{ps:List Str}{f:Wd→List D→RW}{gs:SS→R (List D)}{p pos apos:Pos}{c:Nat}
theorem wm (b:BG X G k)(h:MkW X.prog X.w G.K X.mg X.base G.C k c x ps f)(hg:Gl X x)(ha:∀ H0 Z0,Wk (G.at H0 Z0) W→FA X (G.at H0 Z0) (e::es) gs)(hn:∀ S ds,gs S=.ok ds→ds.length+1=ps.length)(hdb:(x==("__debug__":Str))=false:=by decide)
  (he:starEach (e::es) X.env=(false,eval e X.env)::starEach es X.env:=by rfl) (hpl:(backTo pos (starEach es X.env)).any (·.1)=false:=by rfl):GE X G W S (.Call (.Name x p) (e::es) [] pos) (rwA W (gs S) (rwNew c W f)):=by
 obtain⟨a,fd,h1,h2,h3,h4⟩:=h.ex;have hK:=b.K;refine(vk (ds:=[]) (dvs:=[]) (E:=G.E) (by rw[hK];exact h2) (by rw[hK];exact h1) b.room hg h3 (by rw[hK];exact h4) .nil b.pass (p8 (S:=S) ha) hdb he hpl).weak fun ρ H Q ⟨HW,Z,ok,w⟩=>⟨HW,Z,ok,?_⟩
 cases q:gs S with
 | err k=>rw[q]at w;exact w
 | stuck=>rw[q]at w;exact w
 | ok ds =>
  rw[q]at w;intro H1 Z1 x1 vs rs y dx hy hdx ne;have g:=ok.ex x1;have wn:W y=none:=by
   cases e:W y with
   | none=>rfl
   | some oc =>
    have q:=ok.wd y oc e;have:HW y≠none:=by cases oc with
     | ins c fs=>obtain⟨dx,vs,e1,_⟩:=q;exact aW e1
     | lst ds=>obtain⟨vs,e1,_⟩:=q;exact aW e1
    obtain⟨u,eu⟩:=ms this;rw[g.wh y u eu]at hy;cases hy
  have w1:=w y wn;have g2:GX HW Z1 H1 (upd (upd HW dx (.own y)) y (.ins (G.C c) dx [])) Z1 (upd (upd H1 dx (.own y)) y (.ins (G.C c) dx [])):=by
   have fz:∀ b,H1 b=none→Z1 b=none:=fun b h=>g.zh.free h
   refine⟨fun b u h1 h2=>?_,Same.refl _,fun b u e=>?_,fun b u e=>?_,fun b z=>?_,fun b z=>?_,fun b z=>.inl z,fun b z=>?_⟩
   ·rw[ag (fun z=>by rw[z,hy]at h2;cases h2),ag (fun z=>by rw[z,hdx]at h2;cases h2)];exact h2
   ·have e1:=g.zh b u e;rw[ag (fun z=>by rw[z,hy]at e1;cases e1),ag (fun z=>by rw[z,hdx]at e1;cases e1)];exact e1
   ·by_cases z:b=y
    ·subst z;rw[ai]at e ⊢;exact e
    ·rw[ag z]at e ⊢;by_cases z2:b=dx
     ·subst z2;rw[ai]at e ⊢;exact e
     ·rw[ag z2]at e ⊢;exact g.wh b u e
   ·by_cases q:b=y
    ·subst q;rw[ai];simp
    ·rw[ag q];by_cases z2:b=dx
     ·subst z2;rw[ai];simp
     ·rw[ag z2];exact z
   ·by_cases q:b=y
    ·subst q;exact .inr hy
    ·rw[ag q]at z;by_cases z2:b=dx
     ·subst z2;exact .inr hdx
     ·rw[ag z2]at z;exact .inl z
   ·by_cases q:b=y
    ·subst q;exact fz b hy
    ·rw[ag q]at z;by_cases z2:b=dx
     ·subst z2;exact fz b hdx
     ·rw[ag z2]at z;exact g.dj b z
  have gg:=g.trans g2;have wd2:WdOk G.K G.C (upd (upd HW dx (.own y)) y (.ins (G.C c) dx [])) Z1 (wput W y (.ins c [])):=by
   have sm:Same HW (upd (upd HW dx (.own y)) y (.ins (G.C c) dx [])):=fun b2 u2 e2=>by
    have e3:=g.wh b2 u2 e2;rw[ag (fun z=>by rw[z,hy]at e3;cases e3),ag (fun z=>by rw[z,hdx]at e3;cases e3)];exact e2
   refine⟨fun b u e=>?_,ok.wd.tb.mono sm⟩;unfold wput at e;split at e
   ·rename_i z;subst z;cases e;exact⟨dx,[],ai,by rw[ag ne];exact ai,h.cls,rfl,Reps.nil⟩
   ·exact((ok.wd b u e).mono (Same.refl _) x1.z).mono sm (Same.refl _)
  refine⟨?_,_,_,Z1,.ptr y::ds,gg.zh,gg.wh,gg.dj,wd2,?_,?_⟩
  ·rw[List.append_nil,List.length_cons,← rs.length];exact hn S ds q
  ·rw[List.append_nil];exact Reps.cons (by rw[Rep]) rs
  ·have goal:∀ {r:RW},WRW G.K G.C G.E HW Z H (fun _ d _ Z' H'=>∀ v,Rep G.K G.C Z' d v→Q v H') (rwB r fun w d=>match d with | .non=>.ok w (.ptr y) | _=>.stuck) →
     WRW G.K G.C G.E HW Z H (fun _ d _ Z' H'=>∀ v,Rep G.K G.C Z' d v→v=.non∧Q (.ref y) H') r:=fun {r}=>by
    induction r with
    | ok w d =>
     intro h;cases d with
     | non=>exact fun HW' Z' H' x wd v r=>⟨by rw[Rep]at r;exact r,h HW' Z' H' x wd (.ref y) (by rw[Rep])⟩
     | _=>exact h.elim
    | er w k=>exact fun h=>h
    | al w f ih=>exact fun h a e=>ih a (h a e)
    | stuck=>exact fun h=>h
   exact(goal w1).more gg
end
theorem WRW.bind {K:Frag}{C:Nat→Addr}{E:XK}{HW Z H:Hp}{P P1:Wd→D→Hp→Hp→Hp→Prop}{k:Wd→D→RW}(hp:∀ w d HW' Z' H',GX HW Z H HW' Z' H'→WdOk K C HW' Z' w→WRW K C E HW' Z' H' P (k w d)→P1 w d HW' Z' H'):∀ {r:RW},WRW K C E HW Z H P (rwB r k)→WRW K C E HW Z H P1 r
 | .ok w d,h=>fun a b c x y=>hp w d a b c x y (h.more x)
 | .er w k,h=>h
 | .al w f,h=>fun a e=>WRW.bind hp (h a e)
 | .stuck,h=>h
section
variable {X:Cx}{G:Gx}{W:Wd}{S:SS}{o a b c e:Expr}{es:List Expr}{k:Nat}{x m:Str}{ps:List Str}{f:Wd→List D→RW}{gs:SS→R (List D)}{go gb:SS→R D}{p pos apos:Pos}{cl:Nat}{r r1 r2:RW}
theorem uj {g:SS→R D}(h:∀ H0 Z0 W',Wk (G.at H0 Z0) W'→FE X (G.at H0 Z0) e g):PE X e (fun ρ H Q=>∃ W' HW Z,GOk G W' HW Z H S ρ∧tE (G.fx HW Z H) g ρ H Q):=fun pins s ρ H Q I ⟨W',HW,Z,ok,t⟩=>h _ _ W' ok.wk pins s ρ H Q I t
theorem qf {HW Z H:Hp}{ρ:St}{g:SS→R D}{α:Type}{kk:D→RW}{P:Wd→D→Hp→Hp→Hp→Prop}{Q:VK}(ok:GOk G W HW Z H S ρ)(w:WRW G.K G.C G.E HW Z H P (rwA W (g S) kk))
  (h:∀ d v H1 Z1,GOk G W HW Z1 H1 S ρ→GX HW Z H HW Z1 H1→Rep G.K G.C Z1 d v→WRW G.K G.C G.E HW Z1 H1 P (kk d)→Q v H1):tE (G.fx HW Z H) g ρ H Q:=by
 refine⟨Z,S,ok.nm,?_⟩;cases q:g S with
 | ok d =>
  rw[q]at w;intro H1 Z1 x v rv;have gx:=ok.ex x;exact h d v H1 Z1 (ok.more gx (ok.wd.mono (Same.refl _) x.z)) gx rv (WRW.more gx w)
 | err k=>rw[q]at w;exact fun H' x=>w HW Z H' ⟨fun b o _ e=>x b o e,Same.refl _,ok.zh.trans x,ok.wh.trans x,fun _ h=>h,fun _ h=>.inl h,fun _ h=>.inl h,ok.gx.dj⟩ ok.wd
 | stuck=>rw[q]at w;exact w
theorem uk {HW Z H:Hp}{ρ:St}{po:D}{kk:RW}{P:Wd→D→Hp→Hp→Hp→Prop}{v:V}(ok:GOk G W HW Z H S ρ)(rv:Rep G.K G.C Z po v)(w:WRW G.K G.C G.E HW Z H P (rwM cl m W po kk)) :
  ∃ a dx fs,v=.ref a∧H a=some (.ins (G.C cl) dx fs)∧fs.lookup m=none∧WRW G.K G.C G.E HW Z H P kk:=by
 unfold rwM at w;cases po with
 | ptr a =>
  simp only at w;cases ew:W a with
  | none=>rw[ew]at w;exact w.elim
  | some oc =>
   cases oc with
   | lst ds=>rw[ew]at w;exact w.elim
   | ins c' fs =>
    rw[ew]at w;simp only at w;by_cases ec:c'=cl∧fs.lookup m=none
    ·rw[if_pos ec]at w;obtain⟨rfl,hl⟩:=ec;rw[Rep]at rv;obtain⟨dx,vs,e1,e2,cl,e3,rr⟩:=ok.wd a _ ew;exact⟨a,dx,vs,rv,ok.wh _ _ e1,jl e3 hl,w⟩
    ·rw[if_neg ec]at w;exact w.elim
 | _=>exact w.elim
theorem g8 {pl:Sem Bool}(bg:BG X G k)(h:MeW X.prog X.w G.K X.mg X.base G.C k cl m ps f)(hc:Cls X.K (G.C cl))(hn:ps.length=1)(ho:∀ H0 Z0,Wk (G.at H0 Z0) W→FE X (G.at H0 Z0) o go)
  (ht:eval (.Call (.Attribute o m apos) [] [] pos) X.env=(do
   let ov ← eval o X.env
   standAt apos.atName
   let (f,first) ← holding [ov] (getMethod ov m pl)
   callWith pos f first (backTo pos (starEach [] X.env)) (backToKw pos (keywordEach [] X.env))):=by rfl) :
  GE X G W S (.Call (.Attribute o m apos) [] [] pos) (rwA W (go S) fun po=>rwM cl m W po (f W [po])):=by
 obtain⟨a,fd,h1,h2,h3⟩:=h.ex;have hK:=bg.K;have ho':PE X o (fun ρ H Q=>∃ HW Z,GOk G W HW Z H S ρ∧tE (G.fx HW Z H) go ρ H Q):=fun pins s ρ H Q I ⟨HW,Z,ok,t⟩=>ho _ _ ok.wk pins s ρ H Q I t
 refine(mP (pl:=pl) (ds:=[]) (dvs:=[]) (E:=G.E) ho' hc (by rw[hK];exact h2) (by rw[hK];exact h1) bg.room (by rw[hK];exact h3) .nil bg.pass ht).weak fun ρ H Q ⟨HW,Z,ok,w⟩=>⟨HW,Z,ok,?_⟩
 refine qf (α:=Unit) ok w fun d v H1 Z1 ok1 gx rv w1=>?_
 obtain⟨a,dx,fs,e1,e2,e3,w2⟩:=uk ok1 rv w1;exact⟨a,dx,fs,e1,e2,e3,hn.symm,W,HW,Z1,[d],ok1.zh,ok1.wh,ok1.gx.dj,ok1.wd,Reps.cons rv Reps.nil,w2⟩
theorem aE {pl:Sem Bool}(bg:BG X G k)(h:MeW X.prog X.w G.K X.mg X.base G.C k cl m ps f)(hc:Cls X.K (G.C cl))(ho:∀ H0 Z0,Wk (G.at H0 Z0) W→FE X (G.at H0 Z0) o go)(ha:∀ H0 Z0,Wk (G.at H0 Z0) W→FA X (G.at H0 Z0) (e::es) gs)(hn:∀ S ds,gs S=.ok ds→ds.length+1=ps.length)
  (hst:starEach (e::es) X.env=(false,eval e X.env)::starEach es X.env:=by rfl) (hpl:(backTo pos (starEach es X.env)).any (·.1)=false:=by rfl)
  (ht:eval (.Call (.Attribute o m apos) (e::es) [] pos) X.env=(do
   let ov ← eval o X.env
   standAt apos.atName
   let (f,first) ← holding [ov] (getMethod ov m pl)
   callWith pos f first (backTo pos (starEach (e::es) X.env)) (backToKw pos (keywordEach [] X.env))):=by rfl) :
  GE X G W S (.Call (.Attribute o m apos) (e::es) [] pos) (rwA W (go S) fun po=>rwM cl m W po (rwA W (gs S) fun ds=>f W (po::ds))):=by
 obtain⟨a,fd,h1,h2,h3⟩:=h.ex;have hK:=bg.K;have ho':PE X o (fun ρ H Q=>∃ HW Z,GOk G W HW Z H S ρ∧tE (G.fx HW Z H) go ρ H Q):=fun pins s ρ H Q I ⟨HW,Z,ok,t⟩=>ho _ _ ok.wk pins s ρ H Q I t
 refine(pG (pl:=pl) (ds:=[]) (dvs:=[]) (E:=G.E) ho' hc (by rw[hK];exact h2) (by rw[hK];exact h1) bg.room (by rw[hK];exact h3) .nil bg.pass (p8 (S:=S) ha) hst hpl ht).weak fun ρ H Q ⟨HW,Z,ok,w⟩=>⟨HW,Z,ok,?_⟩
 refine qf (α:=Unit) ok w fun d v H1 Z1 ok1 gx rv w1=>?_
 obtain⟨a,dx,fs,e1,e2,e3,w2⟩:=uk ok1 rv w1;refine⟨a,dx,fs,e1,e2,e3,HW,Z1,ok1,?_⟩;cases q:gs S with
 | err k=>rw[q]at w2;exact w2
 | stuck=>rw[q]at w2;exact w2
 | ok ds =>
  rw[q]at w2;intro H2 Z2 x2 vs rs;have g:=ok1.ex x2;refine⟨by rw[List.append_nil,List.length_cons,← rs.length];exact hn S ds q,W,HW,Z2,d::ds,g.zh,g.wh,g.dj,ok1.wd.mono (Same.refl _) x2.z,?_,WRW.more g w2⟩;rw[List.append_nil];exact Reps.cons (rv.mono x2.z) rs
theorem yI {op:CmpOp}{rr:R2}{ff:D→D→R D}(ho:OpR X (compareOp op) rr)(hd:∀ H0 Z0,OpD (G.at H0 Z0) rr ff)(ha:GE X G W S a r)(hb:∀ H0 Z0 W',Wk (G.at H0 Z0) W'→FE X (G.at H0 Z0) b gb)(hm:behindInMarks op b=false:=by first | exact nomark _ | rfl) :
  GE X G W S (.Compare a [op] [b] pos) (rwB r fun w d=>rwA w (gb S) fun y=>rwR w (ff d y)) :=
 (pE ho ha (uj (S:=S) hb) hm).weak fun ρ H Q ⟨HW,Z,ok,w⟩=>⟨HW,Z,ok,WRW.bind (fun w1 d HW1 Z1 H1 x1 wd1 w2 v rv=>by
  have ok1:=ok.more x1 wd1;refine⟨w1,HW1,Z1,ok1,qf (α:=Unit) ok1 w2 fun y vy H2 Z2 ok2 gx2 ry w3=>?_⟩;refine hd (kp HW1 Z2 G.HW0 G.H0 H2) Z2 H2 Z2 v vy d y Q ok2.zh (rv.mono gx2.z) ry ?_;cases q:ff d y with
  | ok z=>rw[q]at w3;exact fun H3 Z3 x3=>w3 HW1 Z3 H3 (ok2.ex x3) (ok2.wd.mono (Same.refl _) x3.z)
  | err k=>rw[q]at w3;exact fun H' x=>w3 HW1 Z2 H' ⟨fun b o _ e=>x b o e,Same.refl _,ok2.zh.trans x,ok2.wh.trans x,fun _ h=>h,fun _ h=>.inl h,fun _ h=>.inl h,ok2.gx.dj⟩ ok2.wd
  | stuck=>rw[q]at w3;exact w3) w⟩
def tGT (G:Gx)(W:Wd)(S:SS)(r:RW):TT:=fun ρ H Q=>∃ HW Z,GOk G W HW Z H S ρ∧WRW G.K G.C G.E HW Z H (fun _ d _ _ H'=>∃ t,d=.bl t∧Q t H') r
abbrev GT (X:Cx)(G:Gx)(W:Wd)(S:SS)(e:Expr)(r:RW):Prop:=PT X e (tGT G W S r)
def rwNot (r:RW):RW:=rwB r fun w d=>match d with
 | .bl t=>.ok w (.bl (!t))
 | _=>.stuck
theorem d0 {gt:SS→R Bool}(h:∀ H0 Z0,Wk (G.at H0 Z0) W→FT X (G.at H0 Z0) e gt):GT X G W S e (rwR W ((gt S).bind fun t=>.ok (.bl t))):=fun pins s ρ H Q I ⟨HW,Z,ok,w⟩=>by
 refine h _ _ ok.wk pins s ρ H Q I ⟨Z,S,ok.nm,?_⟩;cases q:gt S with
 | ok t=>rw[q]at w;exact fun H' Z' x=>let ⟨_,e,q⟩:=w HW Z' H' (ok.ex x) (ok.wd.mono (Same.refl _) x.z);by cases e;exact q
 | err k=>rw[q]at w;exact fun H' x=>w HW Z H' ⟨fun b o _ e=>x b o e,Same.refl _,ok.zh.trans x,ok.wh.trans x,fun _ h=>h,fun _ h=>.inl h,fun _ h=>.inl h,ok.gx.dj⟩ ok.wd
 | stuck=>rw[q]at w;exact w
def lwT {σ:Type}(r:RW)(A B:Wd→LW σ):LW σ:=lwB r fun w d=>match d with
 | .bl true=>A w
 | .bl false=>B w
 | _=>.stuck
theorem WRW.glT {σ:Type}{J:σ→SS→Prop}{D:Ends}{HW Z H:Hp}{ρ:St}{A B:Wd→LW σ}{Q:Bool→Hp→Prop}(ok:GOk G W HW Z H S ρ)(hQ:∀ w t HW' Z' H',GOk G w HW' Z' H' S ρ→Same Z Z'→WGL G Z' J D (if t=true then A w else B w)→Q t H'):∀ {r:RW},WGL G Z J D (lwT r A B)→WRW G.K G.C G.E HW Z H (fun _ d _ _ H'=>∃ t,d=.bl t∧Q t H') r
 | .ok w d,h=>fun HW' Z' H' x wd=>by
  cases d with
  | bl t=>exact⟨t,rfl,hQ w t HW' Z' H' (ok.more x wd) x.z (by cases t<;>exact WGL.more x.z h)⟩
  | _=>exact h.elim
 | .er w k,h=>fun HW' Z' H' x wd=>h HW' Z' H' x.z (ok.gx.trans x) wd
 | .al w f,h=>fun a e=>WRW.glT ok hQ (h a e)
 | .stuck,h=>h
theorem ul {σ:Type}{J:σ→SS→Prop}{sa sb:List Stmt}{A B:Wd→LW σ}(hc:GT X G W S c r)(ha:∀ w,GL X G w S sa J (A w))(hb:∀ w,GL X G w S sb J (B w)):GL1 X G W S (.If c sa sb pos) J (lwT r A B) :=
 (xt hc (bS ha) (bS hb)).weak fun D ρ H ⟨HW,Z,ok,w⟩=>⟨HW,Z,ok,WRW.glT ok (fun w1 t HW1 Z1 H1 ok1 z1 wl=>by
  cases t with
  | true=>exact⟨w1,HW1,Z1,ok1,wl⟩
  | false=>exact⟨w1,HW1,Z1,ok1,wl⟩) w⟩
end
section
variable {X:Cx}{body:List Stmt}{c n y:Str}{np np2 kp apos hpos pos:Pos}{k:Nat}{q:Nat→Bool}{C0:Addr}{C:Nat→Addr}{tb:XK→TS}
end
section
variable {X:Cx}{G:Gx}{W:Wd}{S:SS}{τ σ V':Type}{J:σ→SS→Prop}{body rest:List Stmt}{c n y:Str}{np np2 kp apos hpos pos:Pos}{k:Nat}{q:Nat→Bool}{C0:Addr}
end
def lwR {α σ:Type}(W:Wd)(r:R α)(k:α→LW σ):LW σ:=match r with
 | .ok a=>k a
 | .err e=>.er W e
 | .stuck=>.stuck
section
variable {X:Cx}{G:Gx}{W:Wd}{S:SS}{a b e:Expr}{es:List Expr}{st:Stmt}{rest:List Stmt}{α σ τ V':Type}{J:σ→SS→Prop}{k:Nat}{r:RW}{pos pos':Pos}
theorem jm {g:SS→O}(h:∀ H0 Z0,Wk (G.at H0 Z0) W→FS X (G.at H0 Z0) st g):PS X st (fun D ρ H=>∃ HW Z,GOk G W HW Z H S ρ∧WO (G.fx HW Z H) Z (g S) D):=fun pins s ρ H D I ⟨HW,Z,ok,w⟩=>h _ _ ok.wk pins s ρ H D I ⟨Z,S,ok.nm,w⟩
theorem bn {g:SS→O}{r:R α}{S':α→SS}{k:α→LW σ}(h:∀ H0 Z0,Wk (G.at H0 Z0) W→FS X (G.at H0 Z0) st g)(hg:g S=rO (r.bind fun a=>.ok (.nx (S' a))))(hk:∀ a,GL X G W (S' a) rest J (k a)):GL X G W S (st::rest) J (lwR W r k) :=
 (bc (jm (S:=S) h) (bS hk)).weak fun D ρ H ⟨HW,Z,ok,w⟩=>⟨HW,Z,ok,by
  rw[hg];cases r with
  | ok a=>exact fun ρ' H' Z' z ok'=>⟨a,HW,Z',ok.after ok',WGL.more (l:=k a) z w⟩
  | err k=>exact fun H' x=>w HW Z H' (Same.refl _) (ok.gx.err x) ok.wd
  | stuck=>exact w⟩
theorem um {g:SS→O}{S':SS}{l:LW σ}(h:∀ H0 Z0,Wk (G.at H0 Z0) W→FS X (G.at H0 Z0) st g)(hg:g S=.nx S')(hk:GL X G W S' rest J l):GL X G W S (st::rest) J l :=
 (bc (jm (S:=S) h) hk).weak fun D ρ H ⟨HW,Z,ok,w⟩=>⟨HW,Z,ok,by rw[hg];exact fun ρ' H' Z' z ok'=>⟨HW,Z',ok.after ok',WGL.more z w⟩⟩
theorem qh {g:SS→R D}{r:R D}(h:∀ H0 Z0,Wk (G.at H0 Z0) W→FS X (G.at H0 Z0) st (sRet g))(hr:g S=r):GL X G W S (st::rest) J (lwR W r fun d=>.rt W d) :=
 (bc (jm (S:=S) h) fI).weak fun D ρ H ⟨HW,Z,ok,w⟩=>⟨HW,Z,ok,by
  unfold sRet;rw[hr];cases r with
  | ok d=>exact fun v H' Z' x rv=>w v HW Z' H' (ok.gx.after x) (ok.wd.mono (Same.refl _) x.z) rv
  | err k=>exact fun H' x=>w HW Z H' (Same.refl _) (ok.gx.err x) ok.wd
  | stuck=>exact w⟩
theorem bJ {g:SS→R D}{d:D}(h:∀ H0 Z0,Wk (G.at H0 Z0) W→FS X (G.at H0 Z0) st (sRet g))(hr:g S=.ok d):GL X G W S (st::rest) J (.rt W d):=qh (r:=.ok d) h hr
theorem uo {g:SS→O}{e:Nat}(h:∀ H0 Z0,Wk (G.at H0 Z0) W→FS X (G.at H0 Z0) st g)(hg:g S=.er e):GL X G W S (st::rest) J (.er W e) :=
 (bc (jm (S:=S) h) fI).weak fun D ρ H ⟨HW,Z,ok,w⟩=>⟨HW,Z,ok,by rw[hg];exact fun H' x=>w HW Z H' (Same.refl _) (ok.gx.err x) ok.wd⟩
theorem uq (i:Nat){ds:List D}{S':SS}{sts:List Stmt}{l:LW σ}(hi:S[i]?=some (some (.own ds)))(hS:S.set i (some (.val (.lst ds)))=S')(h:GL X G W S' sts J l):GL X G W S sts J l :=
 h.weak fun D ρ H ⟨HW,Z,ok,w⟩=>by
  obtain⟨Z',z,ok'⟩:=ok.nm.freeze hi;rw[hS]at ok';exact⟨HW,Z',ok.after ok',WGL.more z w⟩
end
theorem WGL.bind2 {τ σ:Type}{G:Gx}{J:σ→SS→Prop}{D D':Ends}{J1:τ→SS→Prop}{Z:Hp}{k:Wd→τ→LW σ}(hr:D'.rt=D.rt)(hN:∀ w s S ρ HW Z' H,J1 s S→Same Z Z'→GOk G w HW Z' H S ρ→WGL G Z' J D (k w s)→D'.nx ρ H):∀ {l:LW τ},WGL G Z J D (lwS l k)→WGL G Z J1 D' l
 | .nx w s,h=>fun S ρ HW Z' H j z ok=>hN w s S ρ HW Z' H j z ok (h.more z)
 | .rt w d,h=>by
  show ∀ v HW Z H,GX G.HW0 G.Z0 G.H0 HW Z H→WdOk G.K G.C HW Z w→Rep G.K G.C Z d v→D'.rt v H;rw[hr];exact h
 | .er w k,h=>h
 | .al w f,h=>fun a e=>WGL.bind2 hr hN (h a e)
 | .stuck,h=>h
def lwFor {τ:Type}(step:Wd→τ→D→LW τ):List D→Wd→τ→LW τ
 | [],w,s=>.nx w s
 | d::r,w,s=>lwS (step w s d) fun w' s'=>lwFor step r w' s'
section
variable {X:Cx}{G:Gx}{W:Wd}{S:SS}{τ V':Type}{k:Nat}{tg iter:Expr}{body:List Stmt}{pos:Pos}{git:SS→R (List D)}{inj:τ→V'→SS}{step:Wd→τ→D→LW τ}
theorem wq (i:Nat){s0:τ}{B:τ→V'→D→SS}(w0:V')(hp:PassesOwn (model X.prog X.w) X.A X.env X.xe)(hc:X.calm=true)(hi:∀ H0 Z0,Wk (G.at H0 Z0) W→FI X (G.at H0 Z0) tg iter git)(hg:∀ H0 Z0 W',Wk (G.at H0 Z0) W'→FG X (G.at H0 Z0) tg (gNm i))
  (hS:S=inj s0 w0) (hB:∀ s w x,(inj s w).set i (some (.val x))=B s w x) (hb:∀ W' s w x,GL X G W' (B s w x) body (JX inj) (step W' s x))
  (hs:∀ x,foldedSetIterable iter X.env x=pure x:=by intro _;rfl):GL1 X G W S (.For tg iter body [] pos) (JX inj) (lwR W (git S) fun xs=>lwFor step xs W s0):=by
 have hi':PI X tg iter (fun ρ H Q=>∃ HW Z,GOk G W HW Z H S ρ∧tI (G.fx HW Z H) git ρ H Q):=fun pins s ρ H Q I ⟨HW,Z,ok,t⟩=>hi _ _ ok.wk pins s ρ H Q I t
 have hg':PG X tg (fun v ρ H Q=>∃ W' HW Z S',GOk G W' HW Z H S' ρ∧tGd (G.fx HW Z H) (gNm i) v ρ H Q):=fun pins s ρ H v u Q I r ⟨W',HW,Z,S',ok,t⟩=>hg _ _ W' ok.wk pins s ρ H v u Q I r t
 have hbb:PSs X body (fun D ρ H=>∃ q:Wd×τ×V'×FF.D,tGL G q.1 (B q.2.1 q.2.2.1 q.2.2.2) (JX inj) (step q.1 q.2.1 q.2.2.2) D ρ H):=fun pins s ρ H D I ⟨q,t⟩=>hb q.1 q.2.1 q.2.2.1 q.2.2.2 pins s ρ H D I t
 refine(sy hp hc hi' hg' hbb hs).weak fun D ρ H ⟨HW,Z,ok,w⟩=>⟨HW,Z,ok,Z,S,ok.nm,?_⟩
 cases q:git S with
 | err e=>rw[q]at w;exact fun H' x=>w HW Z H' (Same.refl _) (ok.gx.trans ⟨fun b o _ e=>x b o e,Same.refl _,ok.zh.trans x,ok.wh.trans x,fun _ h=>h,fun _ h=>.inl h,fun _ h=>.inl h,ok.gx.dj⟩) ok.wd
 | stuck=>rw[q]at w;exact w
 | ok ds =>
  rw[q]at w;intro H1 Z1 x1;have w1:WGL G Z1 (JX inj) D (lwFor step ds W s0):=WGL.more x1.z w;have okA:=ok.more (ok.ex x1) (ok.wd.mono (Same.refl _) x1.z);intro It wk _;refine⟨fun n m ρ H=>m=ds.length - n∧n≤ds.length∧∃ W2 HW2 Z2 s w,GOk G W2 HW2 Z2 H (inj s w) ρ∧Same Z1 Z2∧WGL G Z2 (JX inj) D (lwFor step (ds.drop n) W2 s),⟨ds.length,rfl,Nat.zero_le _,W,HW,Z1,s0,w0,by rw[← hS];exact okA,Same.refl _,w1⟩,?_⟩
  rintro n m ρ2 H2 ⟨rfl,hle,W2,HW2,Z2,s,w2,ok2,z2,wl2⟩
  obtain⟨k1,k2⟩:=wk n H2 Z2 z2 ok2.zh;by_cases hlt:n < ds.length
  ·obtain⟨go,y⟩:=k1 hlt;refine .inr ⟨go,fun ρ' H'=>∃ W3 HW3 Z3 s3 w3,GOk G W3 HW3 Z3 H' (inj s3 w3) ρ'∧Same Z1 Z3∧WGL G Z3 (JX inj) D (lwFor step (ds.drop (n+1)) W3 s3),fun ρ' H' ⟨W3,HW3,Z3,s3,w3,q⟩=>⟨ds.length - (n+1),by omega,rfl,hlt,W3,HW3,Z3,s3,w3,q⟩,fun x H' hy=>?_⟩;obtain⟨Z2',d,x',e3,rd⟩:=y x H' hy;have ok2:=ok2.more (ok2.ex x') (ok2.wd.mono (Same.refl _) x'.z);have hd:ds.drop n=d::ds.drop (n+1):=by
    obtain⟨hi,e4⟩:=List.getElem?_eq_some_iff.mp e3;rw[List.drop_eq_getElem_cons hi,e4]
   rw[hd]at wl2;refine⟨W2,HW2,Z2',inj s w2,ok2,Z2',inj s w2,d,ok2.nm,rd,?_⟩;intro H4 Z4 x4 ρ4 ok4;have okB:=ok2.after ok4;refine⟨⟨W2,s,w2,d⟩,HW2,Z4,by rw[← hB];exact okB,?_⟩;have z14:Same Z1 Z4:=(z2.trans x'.z).trans x4.z;refine WGL.bind2 (D:=D) (J1:=JX inj) (k:=fun w' s'=>lwFor step (ds.drop (n+1)) w' s') (by rfl) ?_ (WGL.more (x'.z.trans x4.z) wl2);intro w3 s3 S3 ρ3 HW3 Z3 H3 ⟨w5,e5⟩ z3 ok3 wl3;exact⟨w3,HW3,Z3,s3,w5,e5 ▸ ok3,z14.trans z3,wl3⟩
  ·refine .inl ⟨k2 (by omega),?_⟩;rw[List.drop_eq_nil_of_le (by omega)]at wl2;exact wl2 (inj s w2) ρ2 HW2 Z2 H2 ⟨w2,rfl⟩ (Same.refl _) ok2
end
def MadeG (X:Cx)(G:Gx):Prop:=∀ F:Fx,F.E=G.E→MadeX X F
theorem MadeG.of {X:Cx}{G:Gx}(m:MadeG X G){H0 Z0:Hp}:MadeX X (G.at H0 Z0):=m _ rfl
def spR (K:Frag)(C:Nat→Addr)(n:Nat)(f:Wd→List D→R D):Sp:=fun vs H Q E =>
 vs.length=n∧∃ W Z ds,Same Z H∧WdOk K C H Z W∧Reps K C Z ds vs∧WG ⟨K,C,H,Z,E⟩ H Z (f W ds) fun d H' Z'=>∀ v,Rep K C Z' d v→Q v H'
structure MeR (P:Program)(w:World)(K:Frag)(mg:Str→Option Value)(base:Heap)(C:Nat→Addr)(k:Nat)(c:Nat)(m:Str)(f:Wd→List D→R D):Prop where
 ex:∃ a fd x,FnOk P w K mg base (CXE P w) k a fd [x] (spR K C 1 f)∧Meth K (C c) m a∧Binds K fd [x] []
 cls:Cls K (C c)
def rM (c:Nat)(m:Str)(W:Wd)(o:D)(k:R D):R D:=match o with
 | .ptr a=>match W a with
  | some (.ins c' fs)=>if c'=c∧fs.lookup m=none then k else .stuck
  | _=>.stuck
 | _=>.stuck
def eMe0 (c:Nat)(m:Str)(W:Wd)(f:Wd→List D→R D)(go:SS→R D):SS→R D:=fun S=>(go S).bind fun o=>rM c m W o (f W [o])
section
variable {X:Cx}{F:Fx}{W:Wd}{c k:Nat}{m:Str}{o:Expr}{go:SS→R D}{f:Wd→List D→R D}{pos apos:Pos}
theorem bL {pl:Sem Bool}(bx:BX X F k)(wk:Wk F W)(h:MeR X.prog X.w F.K X.mg X.base F.C k c m f)(ho:FE X F o go)
  (ht:eval (.Call (.Attribute o m apos) [] [] pos) X.env=(do
   let ov ← eval o X.env
   standAt apos.atName
   let (f,first) ← holding [ov] (getMethod ov m pl)
   callWith pos f first (backTo pos (starEach [] X.env)) (backToKw pos (keywordEach [] X.env))):=by rfl) :
  FE X F (.Call (.Attribute o m apos) [] [] pos) (eMe0 c m W f go):=by
 obtain⟨a,fd,x,h1,h2,h3⟩:=h.ex;have hK:=bx.K;refine(mP (pl:=pl) (ds:=[]) (dvs:=[]) (E:=F.E) ho (by rw[hK];exact h.cls) (by rw[hK];exact h2) (by rw[hK];exact h1) bx.room (by rw[hK];exact h3) .nil bx.pass ht).weak fun ρ H Q ⟨Z,S,ok,w⟩=>?_
 refine av ok w fun d v H1 Z1 ok1 x1 rv w1=>?_
 unfold rM at w1;cases d with
 | ptr p =>
  simp only at w1;cases ew:W p with
  | none=>rw[ew]at w1;exact w1.elim
  | some oc =>
   cases oc with
   | lst ds=>rw[ew]at w1;exact w1.elim
   | ins c' fs =>
    rw[ew]at w1;simp only at w1;by_cases ec:c'=c∧fs.lookup m=none
    ·rw[if_pos ec]at w1;obtain⟨rfl,hl⟩:=ec;obtain⟨dx,vs,e1,e2,cl,e3,rr⟩:=wk p _ ew;have wd1:WdOk F.K F.C H1 Z1 W:=wk.mono ok1.ex.same ok1.ex.z;have rv':=rv;rw[Rep]at rv';refine⟨p,dx,vs,rv',ok1.ex.same _ _ e1,jl e3 hl,rfl,W,Z1,[.ptr p],ok1.sub,wd1,Reps.cons rv Reps.nil,?_⟩;cases q:f W [.ptr p] with
     | ok z=>rw[q]at w1;exact w1
     | err e=>rw[q]at w1;exact w1
     | stuck=>rw[q]at w1;exact w1
    ·rw[if_neg ec]at w1;exact w1.elim
 | _=>exact w1.elim
end
def OkG (P:Program)(w:World)(K:Frag)(mg:Str→Option Value)(base:Heap)(C:Nat→Addr)(k:Nat)(x qual:Str)(st:Stmt)(ps:List Str)(fn:Wd→List D→RW):Prop :=
 ∀ {f:Addr} {fd:FuncData},Fun K x qual st f fd→FnOk P w K mg base (CXE P w) (k+1) f fd ps (spG K C ps.length fn)
def OkGB (P:Program)(w:World)(K:Frag)(mg:Str→Option Value)(base:Heap)(C:Nat→Addr)(k:Nat)(N:List Str)(qual:Str)(st:Stmt)(W:Wd)(ds:List D)(l:LW Unit):Prop :=
 ∀ (f:Addr) (cdv:Value) (A:Around) (outer:List Env) (s:Shared) (HW Z H:Hp) (E:XK),BG (bodyX P w K mg base N qual (defScope st) f cdv A outer s H E) ⟨K,C,HW,Z,H,E⟩ k →
  PassesOwn (model P w) (bodyX P w K mg base N qual (defScope st) f cdv A outer s H E).A (bodyX P w K mg base N qual (defScope st) f cdv A outer s H E).env (bodyX P w K mg base N qual (defScope st) f cdv A outer s H E).xe →
  MadeG (bodyX P w K mg base N qual (defScope st) f cdv A outer s H E) ⟨K,C,HW,Z,H,E⟩→GL (bodyX P w K mg base N qual (defScope st) f cdv A outer s H E) ⟨K,C,HW,Z,H,E⟩ W (startS N.length ds) (defBody st) JU l
def OkR (P:Program)(w:World)(K:Frag)(mg:Str→Option Value)(base:Heap)(C:Nat→Addr)(k:Nat)(x qual:Str)(st:Stmt)(p:Str)(fn:Wd→List D→R D):Prop :=
 ∀ {f:Addr} {fd:FuncData},Fun K x qual st f fd→FnOk P w K mg base (CXE P w) (k+1) f fd [p] (spR K C 1 fn)
def OkRB (P:Program)(w:World)(K:Frag)(mg:Str→Option Value)(base:Heap)(C:Nat→Addr)(k:Nat)(N:List Str)(qual:Str)(st:Stmt)(W:Wd)(ds:List D)(l:L Unit):Prop :=
 ∀ (f:Addr) (cdv:Value) (A:Around) (outer:List Env) (s:Shared) (H Z:Hp) (E:XK),BX (bodyX P w K mg base N qual (defScope st) f cdv A outer s H E) ⟨K,C,H,Z,E⟩ k→Wk ⟨K,C,H,Z,E⟩ W →
  FL (bodyX P w K mg base N qual (defScope st) f cdv A outer s H E) ⟨K,C,H,Z,E⟩ (startS N.length ds) (defBody st) JU l
def b1 (k:Wd→D→LW Unit):Wd→List D→RW
 | W,[a]=>outW (k W a)
 | _,_=>.stuck
def b2 (k:Wd→D→D→LW Unit):Wd→List D→RW
 | W,[a,b]=>outW (k W a b)
 | _,_=>.stuck
def b3 (k:Wd→D→D→D→LW Unit):Wd→List D→RW
 | W,[a,b,c]=>outW (k W a b c)
 | _,_=>.stuck
def b4 (k:Wd→D→D→D→D→LW Unit):Wd→List D→RW
 | W,[a,b,c,d]=>outW (k W a b c d)
 | _,_=>.stuck
def b5 (k:Wd→D→D→D→D→D→LW Unit):Wd→List D→RW
 | W,[a,b,c,d,e]=>outW (k W a b c d e)
 | _,_=>.stuck
def r1 (k:Wd→D→L Unit):Wd→List D→R D
 | W,[a]=>outL (k W a)
 | _,_=>.stuck
section
variable {P:Program}{w:World}{K:Frag}{mg:Str→Option Value}{base:Heap}{C:Nat→Addr}{k:Nat}{N ps:List Str}{x qual:Str}{st:Stmt}
theorem okg {fn:Wd→List D→RW}(S:FnScope N ps (defScope st))(h:∀ W ds,ds.length=ps.length→∃ l,fn W ds=outW l∧OkGB P w K mg base C k N qual st W ds l):OkG P w K mg base C k x qual st ps fn:=fun {f fd} F=>by
 obtain⟨oc,od,kV,doc,pm,an,cdv,ct,osl,rfl,lk,hcd⟩:=F.ex;refine lr lk hcd S (fun vs H Q E q=>q.1) fun A outer s H vs Q E hr hsp=>?_
 obtain⟨hl,W,HW,Z,ds,zh,wh,dj,wd,r,wr⟩:=hsp;obtain⟨l,e,o⟩:=h W ds (by rw[r.length];exact hl);rw[e]at wr;exact⟨_,o _ cdv A outer s HW Z H E ⟨hr,rfl,rfl,bQ⟩ PassesOwn.leaving (fun F' e' pins σ H1 s1 h1 ea C1 args I hx hE=>dL I hx (by rw[e']at hE;exact hE)),HW,Z,GOk.start (N:=N) zh wh dj wd r,WGL.start (G:=⟨K,C,HW,Z,H,E⟩) wr⟩
theorem okr {p:Str}{fn:Wd→List D→R D}(S:FnScope N [p] (defScope st))(h:∀ W d,∃ l,fn W [d]=outL l∧OkRB P w K mg base C k N qual st W [d] l):OkR P w K mg base C k x qual st p fn:=fun {f fd} F=>by
 obtain⟨oc,od,kV,doc,pm,an,cdv,ct,osl,rfl,lk,hcd⟩:=F.ex;refine lr lk hcd S (fun vs H Q E q=>q.1) fun A outer s H vs Q E hr hsp=>?_
 obtain⟨hl,W,Z,ds,z,wd,r,wr⟩:=hsp;obtain⟨d,rfl⟩:=len1 (ds:=ds) (by rw[r.length];exact hl);obtain⟨l,e,o⟩:=h W d;refine⟨_,o _ cdv A outer s H Z E ⟨hr,rfl,rfl,bQ⟩ wd,Z,dM (F:=⟨K,C,H,Z,E⟩) (N:=N) z r,?_⟩;rw[e]at wr;cases l with
 | nx u=>exact fun S' ρ' H' Z' _ _ ok=>wr H' Z' ok.ex .non (by rw[Rep])
 | rt d=>exact fun v H' Z' x rv=>wr H' Z' x v rv
 | er k=>exact wr
 | stuck=>exact wr
theorem okg1 {p:Str}{c:Wd→D→LW Unit}(S:FnScope N [p] (defScope st))(h:∀ W a,OkGB P w K mg base C k N qual st W [a] (c W a)):OkG P w K mg base C k x qual st [p] (b1 c):=okg S fun W ds hl=>by obtain⟨a,rfl⟩:=len1 hl;exact⟨c W a,rfl,h W a⟩
theorem okg2 {p q:Str}{c:Wd→D→D→LW Unit}(S:FnScope N [p,q] (defScope st))(h:∀ W a b,OkGB P w K mg base C k N qual st W [a,b] (c W a b)):OkG P w K mg base C k x qual st [p,q] (b2 c):=okg S fun W ds hl=>by obtain⟨a,b,rfl⟩:=len2 hl;exact⟨c W a b,rfl,h W a b⟩
theorem okg3 {p q r:Str}{c:Wd→D→D→D→LW Unit}(S:FnScope N [p,q,r] (defScope st))(h:∀ W a b d,OkGB P w K mg base C k N qual st W [a,b,d] (c W a b d)):OkG P w K mg base C k x qual st [p,q,r] (b3 c):=okg S fun W ds hl=>by obtain⟨a,b,d,rfl⟩:=len3 hl;exact⟨c W a b d,rfl,h W a b d⟩
theorem okg4 {p q r s:Str}{c:Wd→D→D→D→D→LW Unit}(S:FnScope N [p,q,r,s] (defScope st))(h:∀ W a b d e,OkGB P w K mg base C k N qual st W [a,b,d,e] (c W a b d e)):OkG P w K mg base C k x qual st [p,q,r,s] (b4 c):=okg S fun W ds hl=>by obtain⟨a,b,d,e,rfl⟩:=len4 hl;exact⟨c W a b d e,rfl,h W a b d e⟩
theorem okg5 {p q r s t:Str}{c:Wd→D→D→D→D→D→LW Unit}(S:FnScope N [p,q,r,s,t] (defScope st))(h:∀ W a b d e f,OkGB P w K mg base C k N qual st W [a,b,d,e,f] (c W a b d e f)):OkG P w K mg base C k x qual st [p,q,r,s,t] (b5 c):=okg S fun W ds hl=>by obtain⟨a,b,d,e,f,rfl⟩:=len5 hl;exact⟨c W a b d e f,rfl,h W a b d e f⟩
theorem okr1 {p:Str}{c:Wd→D→L Unit}(S:FnScope N [p] (defScope st))(h:∀ W a,OkRB P w K mg base C k N qual st W [a] (c W a)):OkR P w K mg base C k x qual st p (r1 c):=okr S fun W d=>⟨c W d,rfl,h W d⟩
theorem iL {f:Addr}{fd:FuncData}{n:Nat}:FnOk P w K mg base (CXE P w) k f fd ps (spG K C n fun _ _=>.stuck) :=
 ⟨fun vs H Q E h=>by obtain⟨_,_,_,_,_,_,_,_,_,_,z⟩:=h;exact z.elim,fun A outer s H args us vs Q E _ _ _ _ h=>by obtain⟨_,_,_,_,_,_,_,_,_,_,z⟩:=h;exact z.elim⟩
theorem lO {f:Addr}{fd:FuncData}{n:Nat}:FnOk P w K mg base (CXE P w) k f fd ps (spR K C n fun _ _=>.stuck) :=
 ⟨fun vs H Q E h=>by obtain⟨_,_,_,_,_,_,_,z⟩:=h;exact z.elim,fun A outer s H args us vs Q E _ _ _ _ h=>by obtain⟨_,_,_,_,_,_,_,z⟩:=h;exact z.elim⟩
structure Md (K:Frag)(C:Nat→Addr)(c:Nat)(m qual:Str)(ps:List Str)(st:Stmt):Prop where
 ex:∃ a fd,Fun K m qual st a fd∧Meth K (C c) m a∧Binds K fd ps []
structure Kl (K:Frag)(mg:Str→Option Value)(C:Nat→Addr)(c:Nat)(x qual:Str)(ps:List Str)(st:Stmt):Prop where
 ex:∃ a fd,Fun K "__init__" qual st a fd∧Mk K (C c) a∧mg x=some (.ref (C c))∧Binds K fd ps []
 cls:Cls K (C c)
variable {c:Nat}{m:Str}{fn:Wd→List D→RW}{fr:Wd→List D→R D}{p:Str}
theorem w0 (F:Fd K mg x ps st):FnW P w K mg base C 0 x ps (fun _ _=>.stuck):=by obtain⟨a,fd,F,h,b⟩:=F.ex;exact⟨a,fd,iL,h,F.kp,b⟩
theorem w1 (F:Fd K mg x ps st)(ok:OkG P w K mg base C k x x st ps fn):FnW P w K mg base C (k+1) x ps fn:=by obtain⟨a,fd,F,h,b⟩:=F.ex;exact⟨a,fd,ok F,h,F.kp,b⟩
theorem m0 (F:Md K C c m qual ps st):MeW P w K mg base C 0 c m ps (fun _ _=>.stuck):=by obtain⟨a,fd,F,h,b⟩:=F.ex;exact⟨a,fd,iL,h,b⟩
theorem m1 (F:Md K C c m qual ps st)(ok:OkG P w K mg base C k m qual st ps fn):MeW P w K mg base C (k+1) c m ps fn:=by obtain⟨a,fd,F,h,b⟩:=F.ex;exact⟨a,fd,ok F,h,b⟩
theorem e0 (F:Md K C c m qual [p] st)(cl:Cls K (C c)):MeR P w K mg base C 0 c m (fun _ _=>.stuck):=by obtain⟨a,fd,F,h,b⟩:=F.ex;exact⟨⟨a,fd,p,lO,h,b⟩,cl⟩
theorem e1 (F:Md K C c m qual [p] st)(cl:Cls K (C c))(ok:OkR P w K mg base C k m qual st p fr):MeR P w K mg base C (k+1) c m fr:=by obtain⟨a,fd,F,h,b⟩:=F.ex;exact⟨⟨a,fd,p,ok F,h,b⟩,cl⟩
theorem n0 (F:Kl K mg C c x qual ps st):MkW P w K mg base C 0 c x ps (fun _ _=>.stuck):=by obtain⟨a,fd,F1,h,h2,b⟩:=F.ex;exact⟨⟨a,fd,iL,h,h2,b⟩,F.cls⟩
theorem n1 (F:Kl K mg C c x qual ps st)(ok:OkG P w K mg base C k "__init__" qual st ps fn):MkW P w K mg base C (k+1) c x ps fn:=by obtain⟨a,fd,F1,h,h2,b⟩:=F.ex;exact⟨⟨a,fd,ok F1,h,h2,b⟩,F.cls⟩
end
def rL:List (R D)→R (List D)
 | []=>.ok []
 | r::rs=>r.bind fun d=>(rL rs).bind fun ds=>.ok (d::ds)
theorem jn {τ σ:Type}(f:Wd→D→LW τ)(k:Wd→τ→LW σ):∀ r:RW,lwS (lwB r f) k=lwB r fun w d=>lwS (f w d) k
 | .ok w d=>rfl
 | .er w e=>rfl
 | .al w g=>by
  show LW.al w (fun a=>lwS (lwB (g a) f) k)=LW.al w fun a=>lwB (g a) fun w d=>lwS (f w d) k
  congr 1;funext a;exact jn f k (g a)
 | .stuck=>rfl
theorem ur {τ σ:Type}{c:Nat}{w:Wd}{f:Str}{o d:D}{g:Wd→LW τ}{k:Wd→τ→LW σ}:lwS (wFld c w f o d g) k=wFld c w f o d fun w'=>lwS (g w') k:=by
 unfold wFld;cases o with
 | ptr a =>
  simp only;cases w a with
  | none=>rfl
  | some oc =>
   cases oc with
   | lst ds=>rfl
   | ins c' fs =>
    simp only;by_cases h:c'=c∧fs.length < 900
    ·rw[if_pos h,if_pos h]
    ·rw[if_neg h,if_neg h];rfl
 | _=>rfl
section
variable {X:Cx}{G:Gx}{W:Wd}{S:SS}{a b o e oe ie:Expr}{st:Stmt}{rest:List Stmt}{σ:Type}{J:σ→SS→Prop}{r0 r:RW}{pos pos':Pos}{k:Nat}{gb go gi:SS→R D}
theorem yJ (i:Nat){x:Str}{px:Pos}{S':D→SS}{k:Wd→D→LW σ}(hN:X.N.Nodup)(h:GE X G W S e r0)(hr:r0=r)(hS:∀ d,S.set i (vv d)=S' d)(hk:∀ w d,GL X G w (S' d) rest J (k w d))(hi:X.N[i]?=some x:=by rfl)(hx:Loc X.env.scope x:=by first | exact Or.inl rfl | exact Or.inr rfl)
  (hf:X.fn x=true∨X.env.scope.names.lookup x=some .local:=by first | exact .inl rfl | exact .inr rfl) (hs:swapsWith e (some (.Name x px)) pos.line X.env=pure false:=by rfl):GL X G W S (.Assign [.Name x px] e pos::rest) J (lwB r k):=by
 have:=jP (rest:=rest) (J:=J) (k:=k) (wj (px:=px) (pos:=pos) hN hi hx h hf hs) (fun w d _=>by rw[hS];exact hk w d);rw[jn,hr]at this;exact this
theorem br {k:Wd→LW σ}(h:GE X G W S e r0)(hr:r0=r)(hk:∀ w,GL X G w S rest J (k w))(hs:swapsWith e none pos.line X.env=pure false:=by rfl):GL X G W S (.Expr e pos::rest) J (lwB r fun w _=>k w):=by
 have:=jP (rest:=rest) (J:=J) (k:=fun w (_:Unit)=>k w) (ui (pos:=pos) (J:=JX fun (_:Unit) (_:Unit)=>S) (s:=()) h ⟨(),rfl⟩ hs) (fun w _ _=>hk w);rw[jn,hr]at this;exact this
theorem mv (h:GE X G W S e r0)(hr:r0=r):GL X G W S [.Return (some e) pos] J (lwB r fun w d=>.rt w d):=by subst hr;exact oI (qd h)
theorem gD {f:Str}{c:Nat}{po:D}{k:Wd→LW σ}(bg:X.K=G.K)(hn:NoAttr X.K (G.C c) f)(hv:GE X G W S e r0)(hr:r0=r)(ho:∀ H0 Z0 W',Wk (G.at H0 Z0) W'→FE X (G.at H0 Z0) o go)(hS:go S=.ok po)(hk:∀ w,GL X G w S rest J (k w))
  (hs:swapsWith e (some (.Attribute o f pos')) pos.line X.env=pure false:=by rfl):GL X G W S (.Assign [.Attribute o f pos'] e pos::rest) J (lwB r fun w d=>wFld c w f po d k):=by
 have:=jP (rest:=rest) (J:=J) (k:=fun w (_:Unit)=>k w) (wf (pos:=pos) (pos':=pos') (J:=JX fun (_:Unit) (_:Unit)=>S) (s:=()) bg hn hv ho hS ⟨(),rfl⟩ hs) (fun w _ _=>hk w);rw[jn,hr]at this;simp only[ur]at this;exact this
theorem yK {c:Expr}{sa sb:List Stmt}{A B:Wd→LW σ}(hc:GT X G W S c r0)(hr:r0=r)(ha:∀ w,GL X G w S sa J (A w))(hb:∀ w,GL X G w S sb J (B w)):GL X G W S [.If c sa sb pos] J (lwT r A B):=by subst hr;exact oI (ul hc ha hb)
theorem g9 {τ V':Type}{c:Expr}{sa sb:List Stmt}{inj:τ→V'→SS}{A B:Wd→LW τ}{k:Wd→τ→LW σ}(hc:GT X G W S c r0)(hr:r0=r)(ha:∀ w,GL X G w S sa (JX inj) (A w))(hb:∀ w,GL X G w S sb (JX inj) (B w))(hk:∀ w s x,GL X G w (inj s x) rest J (k w s)):GL X G W S (.If c sa sb pos::rest) J (lwS (lwT r A B) k):=by subst hr;exact jP (ul hc ha hb) hk
theorem wt {τ V':Type}{inj:τ→V'→SS}{l0 l:LW τ}{k:Wd→τ→LW σ}(hl:l0=l)(h:GL1 X G W S st (JX inj) l0)(hk:∀ w s x,GL X G w (inj s x) rest J (k w s)):GL X G W S (st::rest) J (lwS l k):=by subst hl;exact jP h hk
theorem qi:∀ {gs:List (SS→R D)} {S:SS} {ds:List D},aL gs S=.ok ds→ds.length=gs.length
 | [],S,ds,h=>by cases h;rfl
 | g::gs,S,ds,h=>lD (fun S ds h=>qi h) S ds h
theorem ar {gs:List (SS→R D)}{S:SS}{ds:List D}{n:Nat}(h:aL gs S=.ok ds)(hn:gs.length+1=n:=by rfl):ds.length+1=n:=by rw[qi h];exact hn
theorem zI (bg:BG X G k)(ha:GE X G W S a r)(hb:∀ H0 Z0 W',Wk (G.at H0 Z0) W'→FE X (G.at H0 Z0) b gb):GE X G W S (.Compare a [.Eq] [b] pos) (rwB r fun w d=>rwA w (gb S) fun y=>rwR w (dEq d y)) :=
 yI (oo (F:=G.at G.H0 G.Z0) bg.K bg.room) (fun _ _=>oq) ha hb
end
structure MeRs (P:Program)(w:World)(K:Frag)(mg:Str→Option Value)(base:Heap)(C:Nat→Addr)(k:Nat)(c:Nat)(m:Str)(ps:List Str)(f:Wd→List D→R D):Prop where
 ex:∃ a fd,FnOk P w K mg base (CXE P w) k a fd ps (spR K C ps.length f)∧Meth K (C c) m a∧Binds K fd ps []
 cls:Cls K (C c)
def eMe (c:Nat)(m:Str)(W:Wd)(f:Wd→List D→R D)(go:SS→R D)(gs:SS→R (List D)):SS→R D:=fun S=>(go S).bind fun o=>rM c m W o ((gs S).bind fun ds=>f W (o::ds))
section
variable {X:Cx}{F:Fx}{W:Wd}{c k:Nat}{m:Str}{o e:Expr}{es:List Expr}{go:SS→R D}{gs:SS→R (List D)}{f:Wd→List D→R D}{ps:List Str}{pos apos:Pos}
theorem fV {pl:Sem Bool}(bx:BX X F k)(wk:Wk F W)(h:MeRs X.prog X.w F.K X.mg X.base F.C k c m ps f)(ho:FE X F o go)(ha:FA X F (e::es) gs)(hn:∀ S ds,gs S=.ok ds→ds.length+1=ps.length)
  (hst:starEach (e::es) X.env=(false,eval e X.env)::starEach es X.env:=by rfl) (hpl:(backTo pos (starEach es X.env)).any (·.1)=false:=by rfl)
  (ht:eval (.Call (.Attribute o m apos) (e::es) [] pos) X.env=(do
   let ov ← eval o X.env
   standAt apos.atName
   let (f,first) ← holding [ov] (getMethod ov m pl)
   callWith pos f first (backTo pos (starEach (e::es) X.env)) (backToKw pos (keywordEach [] X.env))):=by rfl) :
  FE X F (.Call (.Attribute o m apos) (e::es) [] pos) (eMe c m W f go gs):=by
 obtain⟨a,fd,h1,h2,h3⟩:=h.ex;have hK:=bx.K;refine(pG (pl:=pl) (ds:=[]) (dvs:=[]) (E:=F.E) ho (by rw[hK];exact h.cls) (by rw[hK];exact h2) (by rw[hK];exact h1) bx.room (by rw[hK];exact h3) .nil bx.pass ha hst hpl ht).weak fun ρ H Q ⟨Z,S,ok,w⟩=>?_
 refine av ok w fun d v H1 Z1 ok1 x1 rv w1=>?_
 unfold rM at w1;cases d with
 | ptr p =>
  simp only at w1;cases ew:W p with
  | none=>rw[ew]at w1;exact w1.elim
  | some oc =>
   cases oc with
   | lst ds=>rw[ew]at w1;exact w1.elim
   | ins c' fs =>
    rw[ew]at w1;simp only at w1;by_cases ec:c'=c∧fs.lookup m=none
    ·rw[if_pos ec]at w1;obtain⟨rfl,hl⟩:=ec;obtain⟨dx,vs,e1,e2,cl,e3,rr⟩:=wk p _ ew;have rv':=rv;rw[Rep]at rv';refine⟨p,dx,vs,rv',ok1.ex.same _ _ e1,jl e3 hl,Z1,S,ok1,?_⟩;cases q:gs S with
     | err k=>rw[q]at w1;exact w1
     | stuck=>rw[q]at w1;exact w1
     | ok ds =>
      rw[q]at w1;intro H2 Z2 x2 us rs;have ok2:=ok1.more x2;have w2:=WG.more (r:=f W (.ptr p::ds)) w1 x2;refine⟨by rw[List.append_nil,List.length_cons,← rs.length];exact hn S ds q,W,Z2,.ptr p::ds,ok2.sub,wk.mono ok2.ex.same ok2.ex.z,by rw[List.append_nil];exact Reps.cons (rv.mono x2.z) rs,?_⟩;cases q2:f W (.ptr p::ds) with
      | ok z=>rw[q2]at w2;exact w2
      | err e=>rw[q2]at w2;exact w2
      | stuck=>rw[q2]at w2;exact w2
    ·rw[if_neg ec]at w1;exact w1.elim
 | _=>exact w1.elim
end
section
variable {X:Cx}{G:Gx}{W:Wd}{S:SS}{k:Nat}{x:Str}{ps:List Str}{f:Wd→List D→RW}{p pos:Pos}{c:Nat}
theorem ut (b:BG X G k)(h:MkW X.prog X.w G.K X.mg X.base G.C k c x ps f)(hn:ps.length=1)(hg:Gl X x)(hdb:(x==("__debug__":Str))=false:=by decide):GE X G W S (.Call (.Name x p) [] [] pos) (rwNew c W f []):=by
 obtain⟨a,fd,h1,h2,h3,h4⟩:=h.ex;have hK:=b.K;refine(sG (ds:=[]) (dvs:=[]) (E:=G.E) (by rw[hK];exact h2) (by rw[hK];exact h1) b.room hg h3 (by rw[hK];exact h4) .nil b.pass hdb).weak fun ρ H Q ⟨HW,Z,ok,w⟩=>?_
 intro y dx hy hdx ne;have g:=ok.self;have wn:W y=none:=by
  cases e:W y with
  | none=>rfl
  | some oc =>
   have q:=ok.wd y oc e;have:HW y≠none:=by cases oc with
    | ins c fs=>obtain⟨dx,vs,e1,_⟩:=q;exact aW e1
    | lst ds=>obtain⟨vs,e1,_⟩:=q;exact aW e1
   obtain⟨u,eu⟩:=ms this;rw[g.wh y u eu]at hy;cases hy
 have w1:=w y wn;have g2:GX HW Z H (upd (upd HW dx (.own y)) y (.ins (G.C c) dx [])) Z (upd (upd H dx (.own y)) y (.ins (G.C c) dx [])):=by
  have fz:∀ b,H b=none→Z b=none:=fun b h=>g.zh.free h
  refine⟨fun b u h1 h2=>?_,Same.refl _,fun b u e=>?_,fun b u e=>?_,fun b z=>?_,fun b z=>?_,fun b z=>.inl z,fun b z=>?_⟩
  ·rw[ag (fun z=>by rw[z,hy]at h2;cases h2),ag (fun z=>by rw[z,hdx]at h2;cases h2)];exact h2
  ·have e1:=g.zh b u e;rw[ag (fun z=>by rw[z,hy]at e1;cases e1),ag (fun z=>by rw[z,hdx]at e1;cases e1)];exact e1
  ·by_cases z:b=y
   ·subst z;rw[ai]at e ⊢;exact e
   ·rw[ag z]at e ⊢;by_cases z2:b=dx
    ·subst z2;rw[ai]at e ⊢;exact e
    ·rw[ag z2]at e ⊢;exact g.wh b u e
  ·by_cases q:b=y
   ·subst q;rw[ai];simp
   ·rw[ag q];by_cases z2:b=dx
    ·subst z2;rw[ai];simp
    ·rw[ag z2];exact z
  ·by_cases q:b=y
   ·subst q;exact .inr hy
   ·rw[ag q]at z;by_cases z2:b=dx
    ·subst z2;exact .inr hdx
    ·rw[ag z2]at z;exact .inl z
  ·by_cases q:b=y
   ·subst q;exact fz b hy
   ·rw[ag q]at z;by_cases z2:b=dx
    ·subst z2;exact fz b hdx
    ·rw[ag z2]at z;exact g.dj b z
 have gg:=g.trans g2;have wd2:WdOk G.K G.C (upd (upd HW dx (.own y)) y (.ins (G.C c) dx [])) Z (wput W y (.ins c [])):=by
  have sm:Same HW (upd (upd HW dx (.own y)) y (.ins (G.C c) dx [])):=fun b2 u2 e2=>by
   have e3:=g.wh b2 u2 e2;rw[ag (fun z=>by rw[z,hy]at e3;cases e3),ag (fun z=>by rw[z,hdx]at e3;cases e3)];exact e2
  refine⟨fun b u e=>?_,ok.wd.tb.mono sm⟩;unfold wput at e;split at e
  ·rename_i z;subst z;cases e;exact⟨dx,[],ai,by rw[ag ne];exact ai,h.cls,rfl,Reps.nil⟩
  ·exact(ok.wd b u e).mono sm (Same.refl _)
 refine⟨?_,_,_,Z,.ptr y::[],gg.zh,gg.wh,gg.dj,wd2,?_,?_⟩
 ·exact hn.symm
 ·exact Reps.cons (by rw[Rep]) Reps.nil
 ·have goal:∀ {r:RW},WRW G.K G.C G.E HW Z H (fun _ d _ Z' H'=>∀ v,Rep G.K G.C Z' d v→Q v H') (rwB r fun w d=>match d with | .non=>.ok w (.ptr y) | _=>.stuck) →
    WRW G.K G.C G.E HW Z H (fun _ d _ Z' H'=>∀ v,Rep G.K G.C Z' d v→v=.non∧Q (.ref y) H') r:=fun {r}=>by
   induction r with
   | ok w d =>
    intro h;cases d with
    | non=>exact fun HW' Z' H' x wd v r=>⟨by rw[Rep]at r;exact r,h HW' Z' H' x wd (.ref y) (by rw[Rep])⟩
    | _=>exact h.elim
   | er w k=>exact fun h=>h
   | al w f ih=>exact fun h a e=>ih a (h a e)
   | stuck=>exact fun h=>h
  exact(goal w1).more gg
end
def wApp (W:Wd)(o:D)(k:R (List D)):RW:=match o with
 | .ptr a=>match W a with
  | some (.lst xs)=>rwA W k fun ds=>match ds with
   | [d]=>if xs.length < 16777216 then .ok (wput W a (.lst (xs++[d]))) .non else .stuck
   | _=>.stuck
  | _=>.stuck
 | _=>.stuck
section
variable {X:Cx}{G:Gx}{W:Wd}{S:SS}{oe e:Expr}{go:SS→R D}{gs:SS→R (List D)}{apos cpos:Pos}
end
def OkRs (P:Program)(w:World)(K:Frag)(mg:Str→Option Value)(base:Heap)(C:Nat→Addr)(k:Nat)(x qual:Str)(st:Stmt)(ps:List Str)(fn:Wd→List D→R D):Prop :=
 ∀ {f:Addr} {fd:FuncData},Fun K x qual st f fd→FnOk P w K mg base (CXE P w) (k+1) f fd ps (spR K C ps.length fn)
def OkRBm (P:Program)(w:World)(K:Frag)(mg:Str→Option Value)(base:Heap)(C:Nat→Addr)(k:Nat)(N:List Str)(qual:Str)(st:Stmt)(W:Wd)(ds:List D)(l:L Unit):Prop :=
 ∀ (f:Addr) (cdv:Value) (A:Around) (outer:List Env) (s:Shared) (H Z:Hp) (E:XK),BX (bodyX P w K mg base N qual (defScope st) f cdv A outer s H E) ⟨K,C,H,Z,E⟩ k→Wk ⟨K,C,H,Z,E⟩ W →
  PassesOwn (model P w) (bodyX P w K mg base N qual (defScope st) f cdv A outer s H E).A (bodyX P w K mg base N qual (defScope st) f cdv A outer s H E).env (bodyX P w K mg base N qual (defScope st) f cdv A outer s H E).xe →
  MadeX (bodyX P w K mg base N qual (defScope st) f cdv A outer s H E) ⟨K,C,H,Z,E⟩→FL (bodyX P w K mg base N qual (defScope st) f cdv A outer s H E) ⟨K,C,H,Z,E⟩ (startS N.length ds) (defBody st) JU l
def r2 (k:Wd→D→D→L Unit):Wd→List D→R D
 | W,[a,b]=>outL (k W a b)
 | _,_=>.stuck
def r3 (k:Wd→D→D→D→L Unit):Wd→List D→R D
 | W,[a,b,c]=>outL (k W a b c)
 | _,_=>.stuck
section
variable {P:Program}{w:World}{K:Frag}{mg:Str→Option Value}{base:Heap}{C:Nat→Addr}{k:Nat}{N ps:List Str}{x qual:Str}{st:Stmt}
theorem okrs {fn:Wd→List D→R D}(S:FnScope N ps (defScope st))(h:∀ W ds,ds.length=ps.length→∃ l,fn W ds=outL l∧OkRBm P w K mg base C k N qual st W ds l):OkRs P w K mg base C k x qual st ps fn:=fun {f fd} F=>by
 obtain⟨oc,od,kV,doc,pm,an,cdv,ct,osl,rfl,lk,hcd⟩:=F.ex;refine lr lk hcd S (fun vs H Q E q=>q.1) fun A outer s H vs Q E hr hsp=>?_
 obtain⟨hl,W,Z,ds,z,wd,r,wr⟩:=hsp;obtain⟨l,e,o⟩:=h W ds (by rw[r.length];exact hl);refine⟨_,o _ cdv A outer s H Z E ⟨hr,rfl,rfl,bQ⟩ wd PassesOwn.leaving (fun pins σ H1 s1 h1 ea C1 args I hx hE=>dL I hx hE),Z,dM (F:=⟨K,C,H,Z,E⟩) (N:=N) z r,?_⟩;rw[e]at wr;cases l with
 | nx u=>exact fun S' ρ' H' Z' _ _ ok=>wr H' Z' ok.ex .non (by rw[Rep])
 | rt d=>exact fun v H' Z' x rv=>wr H' Z' x v rv
 | er k=>exact wr
 | stuck=>exact wr
theorem okrs2 {p q:Str}{c:Wd→D→D→L Unit}(S:FnScope N [p,q] (defScope st))(h:∀ W a b,OkRBm P w K mg base C k N qual st W [a,b] (c W a b)):OkRs P w K mg base C k x qual st [p,q] (r2 c):=okrs S fun W ds hl=>by obtain⟨a,b,rfl⟩:=len2 hl;exact⟨c W a b,rfl,h W a b⟩
variable {c:Nat}{m:Str}{fr:Wd→List D→R D}
theorem es0 (F:Md K C c m qual ps st)(cl:Cls K (C c)):MeRs P w K mg base C 0 c m ps (fun _ _=>.stuck):=by obtain⟨a,fd,F,h,b⟩:=F.ex;exact⟨⟨a,fd,lO,h,b⟩,cl⟩
theorem es1 (F:Md K C c m qual ps st)(cl:Cls K (C c))(ok:OkRs P w K mg base C k m qual st ps fr):MeRs P w K mg base C (k+1) c m ps fr:=by obtain⟨a,fd,F,h,b⟩:=F.ex;exact⟨⟨a,fd,ok F,h,b⟩,cl⟩
end
section
variable {X:Cx}{G:Gx}{W:Wd}{S:SS}{a b:Expr}{r:RW}{gb:SS→R D}{pos:Pos}{k:Nat}
end
def lamX (P:Program)(w:World)(K:Frag)(mg:Str→Option Value)(base:Heap)(N:List Str)(qual:Str)(scope:Scope)(f:Addr)(cd:Value)(cl:List (Str×Addr))(A:Around)(outer:List Env)(s:Shared)(H:Hp)(E:XK):Cx where
 prog:=P
 w:=w
 K:=K
 mg:=mg
 base:=base
 A:=A.deeper (envX qual scope s.heap.objs.size f cd cl)
 N:=N
 s₀:=s
 H₀:=H
 env:=envX qual scope s.heap.objs.size f cd cl
 outer:=outer
 stack:=envX qual scope s.heap.objs.size f cd cl::outer
 ex:=[]
 calm:=true
 fn:=fun _=>false
 pn:=[]
 xe:=fun e s'=>wpAny (model P w) (A.deeper (envX qual scope s.heap.objs.size f cd cl)) (leaving (envX qual scope s.heap.objs.size f cd cl) e) (fun _ s''=>CXE P w outer H s E e s'') (fun e' s''=>CXE P w outer H s E e' s'') s'
section
variable {P:Program}{w:World}{K:Frag}{mg:Str→Option Value}{base:Heap}{N:List Str}{qual:Str}{scope:Scope}{f:Addr}{cd:Value}{cl:List (Str×Addr)}{A:Around}{outer:List Env}{s0:Shared}{H0:Hp}{E:XK}
theorem uu {pins:List (Addr×Obj)}{σ:St}{H':Hp}{s':Shared}{B h2:Heap}{ea C t:Addr}(J:Inv (lamX P w K mg base N qual scope f cd cl A outer s0 H0 E) pins σ H' s')
  (cov:Cov B s0.heap s'.heap H' (envX qual scope s0.heap.objs.size f cd cl::outer)) (up:s'.heap.UpToSlots h2) (fl:Heap.FlyingW B outer ea (.ref C) (.ref t) h2) (hn:H' ea=none) (hE:E (.ref C) none H') :
  CXE P w outer H0 s0 E (.ref ea) { s' with heap:=h2 }:=by
 have hB:=fl.1;have nloc:∀ b o,s0.heap.get? b=some o→b≠s0.heap.objs.size:=fun b o e=>Nat.ne_of_lt (Heap.lt_size e)
 have nstk:∀ b,b≠s0.heap.objs.size→b∉frs outer→b∉frs (envX qual scope s0.heap.objs.size f cd cl::outer):=fun b h1 h2 z=>(List.mem_cons.mp (J.stkSub b z)).elim h1 h2
 have trk:∀ b o,s'.heap.get? b=some o→H' b≠none→B.get? b=some o:=fun b o e ht=>cov b o e (.inl ht) fun z=>ht (J.stkFree b z)
 have noe:∀ b:Addr,b∉([]:List Addr):=fun _ z=>nomatch z
 have nf:∀ b∈frs outer,∀ o,s'.heap.get? b=some o→∀ vs,o.data≠.fields vs:=fun b hb o e=>by
  obtain⟨_,o',e',d⟩:=J.funs.mem hb;rw[e]at e';cases e';exact d
 have thr:∀ b o,s0.heap.get? b=some o→∃ o',s'.heap.get? b=some o'∧(b∉frs outer→B.get? b=some o'):=fun b o e=>by
  obtain⟨o',e1⟩:=J.base.there b o e (noe b);exact⟨o',e1,fun hb=>cov b o' e1 (.inr ⟨o,e⟩) (nstk b (nloc b o e) hb)⟩
 refine⟨ea,C,t,H',B,rfl,J.os,J.bare,⟨fun b o e n hb hx=>?_,fun b o e n hb hx=>?_,J.base.free,fun b o e hx=>?_,J.base.tups,J.base.frzs,J.base.tbls⟩,fun b u e=>?_,fl,hn,fun b o e hc hb=>?_,hE⟩
 ·have e1:=J.base.keep b o e n hb hx;exact hB b o (cov b o e1 (.inr ⟨o,e⟩) (nstk b (nloc b o e) hb))
 ·obtain⟨sl,e1⟩:=J.base.slot b o e n hb hx;obtain⟨sl',e2⟩:=up b _ e1 (nf b hb _ e1);exact⟨sl',e2⟩
 ·obtain⟨o',e1,e2⟩:=thr b o e;by_cases hb:b∈frs outer
  ·obtain⟨sl',e3⟩:=up b _ e1 (nf b hb _ e1);exact⟨_,e3⟩
  ·exact⟨o',hB b o' (e2 hb)⟩
 ·refine(J.hok b u e).stay (fun c v hc q=>hB c v (trk c v q ?_)) (fun _ q=>q) fun _ _ q=>q
  rcases hc with z | z
  ·subst z;rw[e];simp
  ·rw[z];simp
 ·have same:∀ o',s'.heap.get? b=some o'→B.get? b=some o'→B.get? b=some o:=fun o' _ q=>by
   have:=hB b o' q;have e':h2.get? b=some o:=e;rw[e']at this;cases this;exact q
  rcases hc with z | ⟨o',z⟩
  ·cases q:H' b with
   | none=>exact absurd q z
   | some u =>
    obtain⟨o',e1⟩:=objThere (J.hok b u q);exact same o' e1 (trk b o' e1 (by rw[q];simp))
  ·obtain⟨o'',e1,e2⟩:=thr b o' z;exact same o'' e1 (e2 hb)
theorem uv:Passes (CXE P w) (lamX P w K mg base N qual scope f cd cl A outer s0 H0 E) E:=by
 intro pins σ H s e s' I h;obtain⟨ea,C,t,H',B,rfl,os,bare,un,hok,fl,hn,cov,hE⟩:=h;have J:Inv (lamX P w K mg base N qual scope f cd cl A outer s0 H0 E) pins σ H' s':=I.call' (ch:=[]) os un hok bare fun b z=>nomatch z
 refine wpAny_leaves_onW I.ok.frames rfl fl fun h2 fl2 up=>?_
 refine uu J (fun b o e hc hb=>cov b o e ?_ hb) up fl2 hn hE;rcases hc with z | ⟨o',z⟩
 ·exact .inl z
 ·obtain⟨o'',z'⟩:=I.base.there b o' z (fun q=>nomatch q);exact .inr ⟨o'',z'⟩
end
end FF
namespace L2
open PySem PySem.Spec PyProof.Rows
structure RoomH (k:Nat)(A:Around):Prop where
 dp:A.depth+3*k+3 < recursionLimit
 un:A.units+16*k+190 < cLine
theorem RoomH.deeper {k:Nat}{A:Around}(r:RoomH (k+1) A)(env:Env):RoomH k (A.deeper env) :=
 ⟨by have:=r.dp;show A.depth+1+3*k+3 < _;omega,by have:=r.un;show A.units+3+16*k+190 < _;omega⟩
theorem RoomH.depth {k:Nat}{A:Around}(r:RoomH k A):A.depth < recursionLimit:=by have:=r.dp;omega
def cxOfH (CX:CXT)(P:Program)(w:World)(K:Frag)(mg:Str→Option Value)(base:Heap)(N:List Str)(qual:Str)(scope:Scope)(f:Addr)(cd:Value)(A:Around)(outer:List Env)(s:Shared)(H:Hp)(E:XK):Cx :=
 { cxOf CX P w K mg base N qual scope f cd A outer s H E with calm:=false }
theorem zJ {CX:CXT}{P:Program}{w:World}{K:Frag}{mg:Str→Option Value}{base:Heap}{k:Nat}{f:Addr}{name qual:Str}{params:Arguments}{body:List Stmt}{scope:Scope}{dV kV doc pm cdv ct oc:Value}{an od:Option Addr}
  {osl:Array (Option Value)} {N ps:List Str} {A:Around} {outer:List Env} {s:Shared} {H:Hp} {args:Args} {us:List Value} {vs:List V} {Q:VK} {E:XK} {t:TS} (lk:K.lookup f=some ⟨oc,od,.func (fnOf name qual params body scope dV kV doc pm an cdv ct),osl⟩) (hcd:codeIn K cdv qual=true) (S:FnScope N ps scope)
  (hl:vs.length=ps.length) (hr:RoomW (k+1) A) (e0:Env0 P w K mg base A outer s H) (hb:BindsTo s (fnOf name qual params body scope dV kV doc pm an cdv ct) args (ps.zip us)) (r:Vals vs us)
  (ht:PSs (cxOf CX P w K mg base N qual scope f cdv A outer s H E) body t) (hq:t { nx:=fun _ H'=>Q .non H',rt:=Q } (start N vs) H) :
  codeAny (model P w) A (.call (.ref f) args) (CR CX outer P w H s Q E) s:=by
 have KX:K.In s.heap:=e0.mod.kin.keeps fun b o e=>(e0.bs b o e).1
 have lim:s.heap.NoLimit:=e0.mod.nolimit.keeps fun b o e=>(e0.bs b o e).1
 have hkind:∀ y∈ps.zip us,scope.names.lookup y.1=some .local∨(scope.names.lookup y.1=some .cell∧((cellsFrom (s.heap.objs.size+1) scope.names []).lookup y.1).isSome=true):=fun ⟨n,v⟩ hy=>by
  rcases S.par n (List.of_mem_zip hy).1 with q | q
  ·exact .inl q
  ·exact .inr ⟨q,cellsFrom_some _ _ _ (.inl q)⟩
 refine codeAny_call_function hr.depth (KX _ _ lk) rfl S.co S.gen rfl (codeRec_of KX hcd) (hb _ _ _ _ ?_);refine wpAny_newFunctionEnv_cells S.kind hkind fun env he s1 x=>?_
 subst he;refine⟨lim.keeps x.toInCall.keep,codeAny_func ?_⟩;have I:Inv (cxOf CX P w K mg base N qual scope f cdv A outer s H E) [] (start N vs) H s1:=lq S hr.hd e0 hl r x;refine wpAny_mono (ht [] s1 (start N vs) H _ I hq) (fun fl s' hs=>?_) fun e s' hs=>hs
 have fin:∀ {σ':St} {H':Hp} {v:V} {u:Value},Inv (cxOf CX P w K mg base N qual scope f cdv A outer s H E) [] σ' H' s'→RelV v u→Q v H'→CE outer P w H s Q u s' :=
  fun {σ' H' v u} J rv q=>⟨v,H',J.os,J.bare,J.base,J.hok,rv,q⟩
 cases fl with
 | ret u =>
  obtain⟨v,σ',H',J,rv,q⟩:=hs;exact fin J rv q
 | next =>
  obtain⟨σ',H',J,q⟩:=hs;exact fin (v:=V.non) (u:=Value.none) J rfl q
 | brk =>
  obtain⟨_,_,_,q⟩:=hs;exact False.elim q
 | cont =>
  obtain⟨_,_,_,q⟩:=hs;exact False.elim q
theorem oJ {CX:CXT}{P:Program}{w:World}{K:Frag}{mg:Str→Option Value}{base:Heap}{N ps:List Str}{qual:Str}{scope:Scope}{f:Addr}{cd:Value}{A:Around}{outer:List Env}{s s1:Shared}{H:Hp}{E:XK}{us:List Value}{vs:List V}
  (S:FnScope N ps scope) (e0:Env0 P w K mg base A outer s H) (hl:vs.length=ps.length) (r:Vals vs us)
  (x:InCallC s s.heap.objs.size (bindL (envOfC qual scope s.heap.objs.size f cd).kindOf (ps.zip us) fun _=>none) (cellsFrom (s.heap.objs.size+1) scope.names []) (bindC (envOfC qual scope s.heap.objs.size f cd).kindOf (ps.zip us) fun _=>none) s1) :
  Inv (cxOfH CX P w K mg base N qual scope f cd A outer s H E) [] (start N vs) H s1:=by
 have hpl:ps.length≤N.length:=by have:=congrArg List.length S.pre;rw[List.length_take]at this;omega
 obtain⟨h1,tk,rfl,hk⟩:=x.done;have noA:∀ b:Addr,b∉(cxOfH CX P w K mg base N qual scope f cd A outer s H E).ex:=fun b z=>absurd (show b∈([]:List Addr) from z) (by simp)
 refine⟨⟨e0.mod,S.kind,rfl,rfl,Nat.le_refl _,fun y z c h1 h2=>?_,fun y hy=>?_,fun y c _ h=>?_,(fun z=>nomatch z),Around.frames_deeper e0.frames,.inr ⟨rfl,rfl⟩,fun b z=>absurd z (noA b),e0.bs,e0.bsz,fun b _ _=>noA b,fun b z=>absurd z (noA b),e0.funs,e0.frf⟩,
  rfl,e0.bare,Un.kept hk,⟨_,x.toInCall.ns,fun i y v h1 h2 h3=>?_⟩,fun y c h=>⟨_,x.cell y c h⟩,e0.hok.fresh (Nat.le_refl _),fun y c h=>?_,fun p hp=>absurd (show p∈([]:List (Addr×Obj)) from hp) (by simp),e0.hok.kept hk,?_⟩
 ·exact name_of_addr x.apart (PySem.mem_of_lookup h1) (PySem.mem_of_lookup h2)
 ·have hy:scope.names.lookup y=some .cell∨scope.names.lookup y=some .free:=hy;rcases hy with hy | hy
  ·exact gK hy
  ·exact absurd rfl (S.nofree _ (PySem.mem_of_lookup hy))
 ·exact Nat.le_of_lt (x.above y c (PySem.mem_of_lookup h))
 ·have hi:i < vs.length:=by
   unfold start at h2;by_cases hi:i < vs.length
   ·exact hi
   ·rw[List.getElem?_append_right (by simpa using hi)]at h2;rw[List.getElem?_replicate]at h2;split at h2<;>cases h2
  have ha:vs[i]?=some v:=by
   unfold start at h2;rw[List.getElem?_append_left (by simpa using hi),List.getElem?_map]at h2;cases e:vs[i]? with
   | none=>rw[e]at h2;cases h2
   | some a=>rw[e]at h2;cases h2;rfl
  obtain⟨u,hu,rv⟩:=r.get ha;have hp:ps[i]?=some y:=by
   rw[← S.pre,List.getElem?_take_of_lt (by omega)];exact h1
  have ndP:ps.Nodup:=by rw[← S.pre];exact S.nd.sublist (List.take_sublist _ _)
  refine⟨u,rv,?_⟩;rcases S.par y (List.mem_of_getElem? hp) with k | k
  ·exact .inl ⟨k,ir ndP hp hu k⟩
  ·obtain⟨c,e⟩:=gK (n:=s.heap.objs.size+1) k;refine .inr ⟨.inl k,c,e,?_⟩;have q:=x.cell y c e;rw[iu ndP hp hu (by show scope.names.lookup y≠_;rw[k];decide)]at q;exact q
 ·exact e0.hok.fresh (Nat.le_of_lt (x.above y c (PySem.mem_of_lookup h)))
 ·unfold start;show _=N.length;rw[List.length_append,List.length_map,List.length_replicate];omega
theorem yL {CX:CXT}{P:Program}{w:World}{K:Frag}{mg:Str→Option Value}{base:Heap}{k:Nat}{f:Addr}{name qual:Str}{params:Arguments}{body:List Stmt}{scope:Scope}{dV kV doc pm cdv ct oc:Value}{an od:Option Addr}
  {osl:Array (Option Value)} {N ps:List Str} {A:Around} {outer:List Env} {s:Shared} {H:Hp} {args:Args} {us:List Value} {vs:List V} {Q:VK} {E:XK} {t:TS} (lk:K.lookup f=some ⟨oc,od,.func (fnOf name qual params body scope dV kV doc pm an cdv ct),osl⟩) (hcd:codeIn K cdv qual=true) (S:FnScope N ps scope)
  (hl:vs.length=ps.length) (hr:RoomH (k+1) A) (e0:Env0 P w K mg base A outer s H) (hb:BindsTo s (fnOf name qual params body scope dV kV doc pm an cdv ct) args (ps.zip us)) (r:Vals vs us)
  (ht:PSs (cxOfH CX P w K mg base N qual scope f cdv A outer s H E) body t) (hq:t { nx:=fun _ H'=>Q .non H',rt:=Q } (start N vs) H) :
  codeAny (model P w) A (.call (.ref f) args) (CR CX outer P w H s Q E) s:=by
 have KX:K.In s.heap:=e0.mod.kin.keeps fun b o e=>(e0.bs b o e).1
 have lim:s.heap.NoLimit:=e0.mod.nolimit.keeps fun b o e=>(e0.bs b o e).1
 have hkind:∀ y∈ps.zip us,scope.names.lookup y.1=some .local∨(scope.names.lookup y.1=some .cell∧((cellsFrom (s.heap.objs.size+1) scope.names []).lookup y.1).isSome=true):=fun ⟨n,v⟩ hy=>by
  rcases S.par n (List.of_mem_zip hy).1 with q | q
  ·exact .inl q
  ·exact .inr ⟨q,cellsFrom_some _ _ _ (.inl q)⟩
 refine codeAny_call_function hr.depth (KX _ _ lk) rfl S.co S.gen rfl (codeRec_of KX hcd) (hb _ _ _ _ ?_);refine wpAny_newFunctionEnv_cells S.kind hkind fun env he s1 x=>?_
 subst he;refine⟨lim.keeps x.toInCall.keep,codeAny_func ?_⟩;have I:Inv (cxOfH CX P w K mg base N qual scope f cdv A outer s H E) [] (start N vs) H s1:=oJ S e0 hl r x;refine wpAny_mono (ht [] s1 (start N vs) H _ I hq) (fun fl s' hs=>?_) fun e s' hs=>hs
 have fin:∀ {σ':St} {H':Hp} {v:V} {u:Value},Inv (cxOfH CX P w K mg base N qual scope f cdv A outer s H E) [] σ' H' s'→RelV v u→Q v H'→CE outer P w H s Q u s' :=
  fun {σ' H' v u} J rv q=>⟨v,H',J.os,J.bare,J.base,J.hok,rv,q⟩
 cases fl with
 | ret u =>
  obtain⟨v,σ',H',J,rv,q⟩:=hs;exact fin J rv q
 | next =>
  obtain⟨σ',H',J,q⟩:=hs;exact fin (v:=V.non) (u:=Value.none) J rfl q
 | brk =>
  obtain⟨_,_,_,q⟩:=hs;exact False.elim q
 | cont =>
  obtain⟨_,_,_,q⟩:=hs;exact False.elim q
end L2
end
noncomputable section
namespace FF
open PySem PySem.Spec PyProof.Rows L2
structure Lam (h:Heap)(H:Hp)(qual:Str)(params:Arguments)(scope:Scope)(body:Expr)(N:List Str)(f:Addr)(vs:List V):Prop where
 ex:∃ pm c ctv cl oc ws t,H f=some (.frz (kla_obj "<lambda>" qual params body scope cl pm c ctv) (.own 0))∧H c=some (.frz oc (.own 0))∧oc.data=.fields ws∧ws[1]?=some (.str qual t) ∧
  (∀ x y a,cl.lookup x=some a→cl.lookup y=some a→x=y)∧(∀ x a,cl.lookup x=some a→(∃ v,h.IsCell a v)∧H a=none) ∧
  (∀ x,scope.names.lookup x=some .free→∃ a,cl.lookup x=some a) ∧
  (∀ (i:Nat) (x:Str) (v:V),N[i]?=some x→vs[i]?=some v→scope.names.lookup x=some .free∧∃ u a,RelV v u∧cl.lookup x=some a∧h.IsCell a (some u))
section
variable {X:Cx}{pins:List (Addr×Obj)}{σ:St}{H:Hp}{s:Shared}{qual:Str}{params:Arguments}{scope:Scope}{body:Expr}{N:List Str}{f:Addr}{vs:List V}
theorem nu {H0 H:Hp}{h0 h:Heap}{fs:List Addr}{a:Addr}{v:Option Value}(u:Un fs [] H0 H h0 h)(n:H0 a=none)(c:h0.IsCell a v):h.IsCell a v:=by
 obtain⟨o,e,d⟩:=c;obtain⟨sl,e2⟩:=u.any e n (by simp);exact⟨_,e2,d⟩
theorem Lam.later {H0:Hp}{h0 h:Heap}{fs:List Addr}(L:Lam h0 H0 qual params scope body N f vs)(u:Un fs [] H0 H h0 h):Lam h H qual params scope body N f vs:=by
 obtain⟨pm,c,ctv,cl,oc,ws,t,e1,e2,e3,e4,e5,e6,e7,e8⟩:=L.ex;refine⟨pm,c,ctv,cl,oc,ws,t,u.frzs _ _ _ e1,u.frzs _ _ _ e2,e3,e4,e5,fun x a q=>?_,e7,fun i x v q1 q2=>?_⟩
 ·obtain⟨⟨v,k⟩,n⟩:=e6 x a q;obtain⟨o,ho,_⟩:=id k;exact⟨⟨v,nu u n k⟩,u.free a o ho n (by simp)⟩
 ·obtain⟨k,w,a,r,q,z⟩:=e8 i x v q1 q2;exact⟨k,w,a,r,q,nu u (e6 x a q).2 z⟩
theorem lP {N:List Str}{vs:List V}(h:vs.length=N.length):L2.start N vs=vs.map some:=by
 unfold L2.start;rw[h,Nat.sub_self]
 simp
theorem wu {P:Program}{w:World}{K:Frag}{mg:Str→Option Value}{base:Heap}{cd:Value}{cl:List (Str×Addr)}{A:Around}{outer:List Env}{E:XK}{h1:Heap}{tk:Nat}{m:Str→Option Value}
  (hd:A.handled=none) (e0:Env0 P w K mg base A outer s H) (sk:scope.kind=.function) (snc:∀ x∈scope.names,x.2≠.cell) (hvl:vs.length=N.length) (hns:h1.Ns s.heap.objs.size m) (hk:∀ b o,s.heap.get? b=some o→h1.get? b=some o)
  (e5:∀ x y a,cl.lookup x=some a→cl.lookup y=some a→x=y) (e6:∀ x a,cl.lookup x=some a→(∃ v,s.heap.IsCell a v)∧H a=none) (e7:∀ x,scope.names.lookup x=some .free→∃ a,cl.lookup x=some a)
  (e8:∀ (i:Nat) (x:Str) (v:V),N[i]?=some x→vs[i]?=some v→scope.names.lookup x=some .free∧∃ u a,RelV v u∧cl.lookup x=some a∧s.heap.IsCell a (some u)) :
  Inv (lamX P w K mg base N qual scope f cd cl A outer s H E) [] (L2.start N vs) H { s with heap:=h1,toks:=tk }:=by
 have ck:∀ {a:Addr} {v:Option Value},s.heap.IsCell a v→h1.IsCell a v:=fun ⟨o,e,d⟩=>⟨o,hk _ _ e,d⟩
 have noA:∀ b:Addr,b∉(lamX P w K mg base N qual scope f cd cl A outer s H E).ex:=fun b z=>absurd (show b∈([]:List Addr) from z) (by simp)
 refine⟨⟨e0.mod,sk,rfl,rfl,Nat.le_refl _,e5,fun y hy=>?_,fun y c hf _=>absurd (show false=true from hf) Bool.false_ne_true,fun _=>hd,Around.frames_deeper e0.frames,.inr ⟨rfl,rfl⟩,fun b z=>absurd z (noA b),e0.bs,e0.bsz,fun b _ _=>noA b,fun b z=>absurd z (noA b),e0.funs,e0.frf⟩,
  rfl,e0.bare,Un.kept hk,⟨m,hns,fun i y v h1 h2 h3=>?_⟩,fun y c h=>?_,e0.hok.fresh (Nat.le_refl _),fun y c h=>(e6 y c h).2,fun p hp=>absurd (show p∈([]:List (Addr×Obj)) from hp) (by simp),e0.hok.kept hk,?_⟩
 ·have hy:scope.names.lookup y=some .cell∨scope.names.lookup y=some .free:=hy;rcases hy with hy | hy
  ·exact absurd rfl (snc _ (PySem.mem_of_lookup hy))
  ·exact e7 y hy
 ·rw[lP hvl,List.getElem?_map]at h2;cases q:vs[i]? with
  | none=>rw[q]at h2;cases h2
  | some v' =>
   rw[q]at h2;cases h2;obtain⟨k,u,a,r,q2,z⟩:=e8 i y v h1 q;exact⟨u,r,.inr ⟨.inr k,a,q2,ck z⟩⟩
 ·obtain⟨⟨v,z⟩,_⟩:=e6 y c h;exact⟨v,ck z⟩
 ·show (L2.start N vs).length=N.length;rw[lP hvl,List.length_map,hvl]
theorem ww {E:XK}{k:Nat}{Q:VK}(I:Inv X pins σ H s)(hc:X.calm=true)(L:Lam s.heap H qual params scope body N f vs)(hr:Room (k+1) X.A)(hx:Passes (CXE X.prog X.w) X E)
  (sk:scope.kind=.function) (sco:scope.isCoroutine=false) (sgen:scope.isGenerator=false) (snc:∀ x∈scope.names,x.2≠.cell) (hvl:vs.length=N.length)
  (hbind:∀ cl pm c ctv,bindArgs (kla_fn "<lambda>" qual params body scope cl pm c ctv) ⟨[],[]⟩=pure [])
  (hb:∀ cd cl,Room k (X.A.deeper (envX qual scope s.heap.objs.size f cd cl))→∃ t,PE (lamX X.prog X.w X.K X.mg X.base N qual scope f cd cl X.A X.stack s H E) body t∧t (L2.start N vs) H Q) :
  wpAny (model X.prog X.w) X.A (call (.ref f) []) (EP X pins σ Q) X.xe s:=by
 obtain⟨pm,c,ctv,cl,oc,ws,tq,e1,e2,e3,e4,e5,e6,e7,e8⟩:=L.ex;have ho:=(I.hok f _ e1).1;have hoc:=(I.hok c _ e2).1;refine wpAny_call (codeAny_mono (R:=CR (CXE X.prog X.w) X.stack X.prog X.w H s Q E) ?_ fun r s' hq=>?_)
 ·refine PySem.W.kla_callFunE (by have:=hr.dp;omega) ho rfl sco sgen rfl ⟨c,oc,ws,tq,rfl,hoc,e3,e4⟩ ?_;rw[hbind];refine wpAny_pure (wpAny_newFunctionEnv snc (fun x hx=>nomatch hx) (fun h₁ hns hsb=>?_) sk);have hk₁:∀ b o,s.heap.get? b=some o→h₁.get? b=some o:=fun b o e=>hsb.extBut b o (Nat.ne_of_lt (Heap.lt_size e)) (Heap.get?_push_of_some _ e)
  refine⟨I.nolimit.keeps hk₁,?_⟩;show codeAny _ _ (.expr body (envX qual scope s.heap.objs.size f (.ref c) cl)) _ _;obtain⟨t,hp,ht⟩:=hb (.ref c) cl (hr.deeper _);have I₁:Inv (lamX X.prog X.w X.K X.mg X.base N qual scope f (.ref c) cl X.A X.stack s H E) [] (L2.start N vs) H { s with heap:=h₁,toks:=s.toks+([]:List (Str×Value)).length } :=
   wu (I.ok.hd hc) I.env0 sk snc hvl hns hk₁ e5 e6 e7 e8
  refine PySem.W.kla_codeExpr (wpAny_mono (hp [] _ _ _ _ I₁ ht) (fun v s' hv=>?_) fun e s' he=>he);obtain⟨v',H',J,rv,q⟩:=hv;exact⟨v',H',J.os,J.bare,J.base,J.hok,rv,q⟩
 ·cases r with
  | error e=>exact hx pins σ H s e s' I hq
  | ok fl =>
   cases fl with
   | ret u=>exact I.after hq
   | next=>exact False.elim hq
   | brk=>exact False.elim hq
   | cont=>exact False.elim hq
theorem oK {E:XK}{k:Nat}{i:Nat}{x:Str}{p pos:Pos}{T:St→Hp→VK→Prop}(hc:X.calm=true)(hr:Room (k+1) X.A)(hx:Passes (CXE X.prog X.w) X E)
  (sk:scope.kind=.function) (sco:scope.isCoroutine=false) (sgen:scope.isGenerator=false) (snc:∀ x∈scope.names,x.2≠.cell) (hvl:vs.length=N.length)
  (hbind:∀ cl pm c ctv,bindArgs (kla_fn "<lambda>" qual params body scope cl pm c ctv) ⟨[],[]⟩=pure []) (hN:X.N[i]?=some x) (hv:Vis X.env.scope x)
  (hL:∀ pins σ H s,Inv X pins σ H s→Lam s.heap H qual params scope body N f vs)
  (hT:∀ σ H Q,T σ H Q→σ[i]?=some (some (.ref f)))
  (hb:∀ pins σ H s Q,Inv X pins σ H s→T σ H Q→∀ cd cl,Room k (X.A.deeper (envX qual scope s.heap.objs.size f cd cl))→∃ t,PE (lamX X.prog X.w X.K X.mg X.base N qual scope f cd cl X.A X.stack s H E) body t∧t (L2.start N vs) H Q)
  (hd:(x==("__debug__":Str))=false:=by decide) (hcd:(x==("__classdict__":Str))=false:=by decide):PE X (.Call (.Name x p) [] [] pos) T:=by
 intro pins s σ H Q I h;refine wpAny_Call_Name_kw ?_;refine thn (fe (pos:=p) hN hv hd hcd pins s σ H (fun v H'=>v=.ref f∧H'=H) I ⟨.ref f,hT _ _ _ h,rfl,rfl⟩) fun u s1 ⟨v,H1,I1,r,e1,e2⟩=>?_
 subst e1 e2;cases r;obtain⟨pm,c,ctv,cl,oc,ws,tq,e1,_⟩:=(hL pins σ H1 s1 I1).ex;refine PySem.W.callWith_F0 ⟨_,_,_,_,(I1.hok f _ e1).1⟩ ?_;exact ww I1 hc (hL pins σ H1 s1 I1) hr hx sk sco sgen snc hvl hbind (hb pins σ H1 s1 Q I1 h)
end
def CodeK (K:Frag)(c P:Addr):Prop :=
 ∃ o vs file tf flags tg inF text tt,K.lookup c=some o∧o.cls=.type "code" ∧ o.data=.fields vs∧vs[11]?=some (.ref P)∧vs.getD 11 .none=.ref P∧vs.getD 18 .none=.str file tf ∧
  vs.getD 7 .none=.int flags tg∧vs.getD 9 .none=.bool inF∧vs.getD 10 .none=.int text tt∧c≠P
theorem CodeK.hd {K:Frag}{c P:Addr}{h:Heap}(x:CodeK K c P)(k:K.In h):PySem.W.CodeHd h c P :=
 let ⟨o,vs,file,tf,flags,tg,inF,text,tt,e,r⟩:=x;⟨o,vs,file,tf,flags,tg,inF,text,tt,k _ _ e,r⟩
def BMn (mg:Str→Option Value)(base:Heap):Prop:=∃ bm ob,mg "__builtins__"=some (.ref bm)∧bm≠builtinsNs∧base.get? bm=some ob∧ob.cls=.type "module" ∧ ob.dict=some builtinsNs∧ob.data=.plain
structure LamX (X:Cx)(K:Frag)(C:Nat→Addr)(i:Nat):Prop where
 lt:i < C 900
 q:qOf K (C (902+2*i))=X.env.qual ++ "<lambda>"
 cd:∃ c,X.env.code=.ref c∧CodeK K c (C (901+2*i))
 bm:BMn X.mg X.base
 inj:∀ j,j < C 900→C (901+2*j)=C (901+2*i)→j=i
theorem rC {pos:Pos}(m:List Value)(l:List Value)(h:TriplesOk l):codeAmong pos (l++m)=(codeAmong pos l).or (codeAmong pos m):=by
 fun_induction TriplesOk l with
 | case1=>simp[codeAmong]
 | case2 a t b u x rest ih =>
  simp only[List.cons_append,codeAmong];split
  ·rfl
  ·exact ih h
 | case3 l h1 h2=>exact h.elim
section
variable {X:Cx}{G:Gx}{W:Wd}{HW Z H:Hp}{S:SS}{ρ:St}{pins:List (Addr×Obj)}{s:Shared}{params:Arguments}{scope:Scope}{body:Expr}{lpos:Pos}{clos:List (Str×Addr)}
theorem yM {Q:Value→Shared→Prop}(i:Nat)(I:Inv X pins ρ H s)(ok:GOk G W HW Z H S ρ)(hK:X.K=G.K)(lx:LamX X G.K G.C i)(hcl:closureFor scope X.env=pure clos)(hdef:defaultsOf params X.env=([],[]))
  (h:∀ f c ctv oc ws t pm s1 H1 HW1,Inv X pins ρ H1 s1→GX HW Z H HW1 Z H1→WdOk G.K G.C HW1 Z W→H1 f=some (.frz (kla_obj "<lambda>" (X.env.qual ++ "<lambda>") params body scope clos pm c ctv) (.own 0)) →
   H1 c=some (.frz oc (.own 0))→oc.data=.fields ws→ws[1]?=some (.str (X.env.qual ++ "<lambda>") t)→Q (.ref f) s1) :
  wpAny (model X.prog X.w) X.A (eval (.Lambda params body scope lpos) X.env) Q X.xe s:=by
 obtain⟨c,hcode,ck⟩:=lx.cd;obtain⟨ps,hP,tp,hits⟩:=ok.wd.tb i lx.lt;rw[lx.q]at hits;have tbo:∀ j,j < G.C 900→TblOk HW (G.C (901+2*j)) (qOf G.K (G.C (902+2*j))):=ok.wd.tb;have q0:=lx.q;generalize hPe:G.C (901+2*i)=P at hP ck;have hP':=ok.wh _ _ hP;have heP:s.heap.get? P=some (tabObj ps):=I.hok P _ hP';have CH:PySem.W.CodeHd s.heap c P:=ck.hd (hK ▸ I.kIn);have hg:s.heap.Ns mainGlobals X.mg:=I.ok.mod.glob.keeps I.bk;have hbs:∀ b o,X.base.get? b=some o→b≠P:=fun b o e z=>by
  have:=(I.bs b o e).2;rw[z,hP']at this;cases this
 have hgP:mainGlobals≠P:=by obtain⟨o,es,ep,e,_⟩:=I.ok.mod.glob;exact hbs _ _ e
 obtain⟨bm,ob,b1,b2,b3,b4,b5,b6⟩:=lx.bm;have hbG:bm≠mainGlobals:=fun q=>by
  obtain⟨o,es,ep,e,hd,_⟩:=I.ok.mod.glob;rw[q,e]at b3;cases b3;rw[hd]at b6;cases b6
 have hb:s.heap.BuiltinsAt X.mg P:=⟨bm,ob,b1,b2,hbG,hbs _ _ b3,I.bk _ _ b3,b4,b5,b6⟩;refine PySem.W.kla_eval hdef ?_;cases hq:codeAmong lpos ps.toList with
 | some cv =>
  obtain⟨c',oc,ws,t,rfl,hc',d1,d2⟩:=hits lpos cv hq;refine PySem.W.kla_makeFunctionHit (mg:=X.mg) hcl I.ok.glob hg hcode CH heP tp hq hb fun ctv h' tk hk hsz=>?_
  have hf:H h'.objs.size=none:=I.hok.fresh hsz;have hcH:=ok.wh _ _ hc';refine h _ c' ctv oc ws t _ _ _ HW (I.laid (o:=.frz (kla_obj "<lambda>" (X.env.qual ++ "<lambda>") params body scope clos ((X.mg "__name__").getD .none) c' ctv) (.own 0)) (t':=tk) (fun b u e=>Heap.get?_push_of_some _ (hk b u e)) hsz ⟨Heap.get?_push_size _ rfl,⟨_,Heap.get?_push_size _ rfl⟩⟩) ?_ ok.wd ai ?_ d1 d2
  ·exact ok.ex ⟨fun b u e=>by rw[ag (aG e hf)];exact e,Same.refl _,fun b u e=>by have e1:=ok.zh b u e;rw[ag (aG e1 hf)];exact e1,fun _ q=>.inl q⟩
  ·rw[ag (aG hcH hf)];exact hcH
 | none =>
  refine PySem.W.kla_makeFunction (mg:=X.mg) hcl I.ok.glob hg hcode CH heP tp hq hgP hb fun c' ctv h' tk hx hge hlt hrec htb=>?_
  obtain⟨c2,oc,ws,t,ec,hoc,d1,d2⟩:=hrec;cases ec;have hszf:s.heap.objs.size≤h'.objs.size:=Nat.le_trans hge (Nat.le_of_lt hlt);have hc0:H c'=none:=I.hok.fresh hge;have hf0:H h'.objs.size=none:=I.hok.fresh hszf;have ncf:c'≠h'.objs.size:=Nat.ne_of_lt hlt;have ncP:P≠c':=aG hP' hc0;have nfP:P≠h'.objs.size:=aG hP' hf0
  let fo:HO:=.frz (kla_obj "<lambda>" (X.env.qual ++ "<lambda>") params body scope clos ((X.mg "__name__").getD .none) c' ctv) (.own 0)
  let H1:Hp:=upd (upd (upd H P (.tbl (ps++#[rawInt lpos.line,rawInt lpos.col,.ref c']))) c' (.frz oc (.own 0))) h'.objs.size fo
  let HW1:Hp:=upd (upd HW P (.tbl (ps++#[rawInt lpos.line,rawInt lpos.col,.ref c']))) c' (.frz oc (.own 0))
  have a1:H1 h'.objs.size=some fo:=ai;have a2:H1 c'=some (.frz oc (.own 0)):=by show upd _ _ _ c'=_;rw[ag ncf,ai]
  have a3:H1 P=some (.tbl (ps++#[rawInt lpos.line,rawInt lpos.col,.ref c'])):=by show upd _ _ _ P=_;rw[ag nfP,ag ncP,ai]
  have a4:∀ b,b≠P→H b≠none→H1 b=H b:=fun b h1 h2=>by
   show upd _ _ _ b=_;rw[ag (fun z=>h2 (by rw[z];exact hf0)),ag (fun z=>h2 (by rw[z];exact hc0)),ag h1]
  have w2:HW1 c'=some (.frz oc (.own 0)):=ai;have w3:HW1 P=some (.tbl (ps++#[rawInt lpos.line,rawInt lpos.col,.ref c'])):=by show upd _ _ _ P=_;rw[ag ncP,ai]
  have wc0:HW c'=none:=ok.wh.free hc0;have w4:∀ b,b≠P→HW b≠none→HW1 b=HW b:=fun b h1 h2=>by
   show upd _ _ _ b=_;rw[ag (fun z=>h2 (by rw[z];exact wc0)),ag h1]
  have g1:∀ b o,b≠P→s.heap.get? b=some o→(h'.push (kla_obj "<lambda>" (X.env.qual ++ "<lambda>") params body scope clos ((X.mg "__name__").getD .none) c' ctv)).get? b=some o:=fun b o hb e=>Heap.get?_push_of_some _ (hx b o hb e)
  have nP:∀ b,H b=none→b≠P:=fun b n z=>by rw[z,hP']at n;cases n
  have nsz:∀ b o,s.heap.get? b=some o→b≠c'∧b≠h'.objs.size:=fun b o e=>⟨Nat.ne_of_lt (Nat.lt_of_lt_of_le (Heap.lt_size e) hge),Nat.ne_of_lt (Nat.lt_of_lt_of_le (Heap.lt_size e) hszf)⟩
  have un:Un X.fs [] H H1 s.heap (h'.push (kla_obj "<lambda>" (X.env.qual ++ "<lambda>") params body scope clos ((X.mg "__name__").getD .none) c' ctv)):=by
   refine⟨fun b o e n _ _=>g1 b o (nP b n) e,fun b o e n _ _=>⟨o.slots,g1 b o (nP b n) e⟩,fun b o e n _=>?_,fun b o e _=>?_,fun b xs e=>?_,fun b o u e=>?_,fun b qs e=>?_⟩
   ·show upd _ _ _ b=_;rw[ag (nsz b o e).2,ag (nsz b o e).1,ag (nP b n)];exact n
   ·by_cases hb:b=P
    ·exact⟨_,by rw[hb];exact Heap.get?_push_of_some _ htb⟩
    ·exact⟨o,g1 b o hb e⟩
   ·rw[a4 b (fun z=>by rw[z,hP']at e;cases e) (by rw[e];simp)];exact e
   ·rw[a4 b (fun z=>by rw[z,hP']at e;cases e) (by rw[e];simp)];exact e
   ·by_cases hb:b=P
    ·subst hb;rw[hP']at e;cases e;exact⟨_,a3⟩
    ·exact⟨#[],by rw[a4 b hb (by rw[e];simp),e];simp⟩
  have hok:HOk X.prog X.w H1 (h'.push (kla_obj "<lambda>" (X.env.qual ++ "<lambda>") params body scope clos ((X.mg "__name__").getD .none) c' ctv)):=fun b u e=>by
   by_cases hb1:b=h'.objs.size
   ·subst hb1;rw[a1]at e;cases e;exact⟨Heap.get?_push_size _ rfl,⟨_,Heap.get?_push_size _ rfl⟩⟩
   ·by_cases hb2:b=c'
    ·subst hb2;rw[a2]at e;cases e;exact⟨Heap.get?_push_of_some _ hoc,⟨_,Heap.get?_push_of_some _ hoc⟩⟩
    ·by_cases hb3:b=P
     ·subst hb3;rw[a3]at e;cases e;exact Heap.get?_push_of_some _ htb
     ·have e0:H b=some u:=by
       have:H1 b=H b:=by show upd _ _ _ b=_;rw[ag hb1,ag hb2,ag hb3]
       rw[← this];exact e
      refine(I.hok b u e0).stay (fun d v hd q=>g1 d v ?_ q) (fun d q=>?_) fun d xs q=>?_
      ·rcases hd with z | z
       ·rw[z];exact hb3
       ·intro z2;rw[z2,hP']at z;cases z
      ·rw[a4 d (fun z=>by rw[z,hP']at q;cases q) (by rw[q];simp)];exact q
      ·rw[a4 d (fun z=>by rw[z,hP']at q;cases q) (by rw[q];simp)];exact q
  have gx:GX HW Z H HW1 Z H1:=by
   refine⟨fun b o n e=>?_,Same.refl _,fun b o e=>?_,fun b o e=>?_,fun b n=>?_,fun b n=>?_,fun b n=>.inl n,fun b n=>?_⟩
   ·rw[a4 b (fun z=>by rw[z,hP]at n;cases n) (by rw[e];simp)];exact e
   ·have e1:=ok.zh b o e;rw[a4 b (fun z=>by rw[z]at e;rw[ok.gx.dj P (aW hP)]at e;cases e) (by rw[e1];simp)];exact e1
   ·by_cases hb:b=P
    ·subst hb;rw[w3]at e;rw[a3];exact e
    ·by_cases hb2:b=c'
     ·subst hb2;rw[w2]at e;rw[a2];exact e
     ·have e0:HW b=some o:=by
       have:HW1 b=HW b:=by show upd _ _ _ b=_;rw[ag hb2,ag hb]
       rw[← this];exact e
      have e1:=ok.wh b o e0;rw[a4 b hb (by rw[e1];simp)];exact e1
   ·by_cases hb:b=P
    ·rw[hb,w3];simp
    ·rw[w4 b hb n];exact n
   ·by_cases hb:b=P
    ·exact .inl (by rw[hb,hP];simp)
    ·by_cases hb2:b=c'
     ·exact .inr (by rw[hb2];exact hc0)
     ·have:HW1 b=HW b:=by show upd _ _ _ b=_;rw[ag hb2,ag hb]
      rw[this]at n;exact .inl n
   ·by_cases hb:b=P
    ·rw[hb];exact ok.gx.dj P (aW hP)
    ·by_cases hb2:b=c'
     ·rw[hb2];exact ok.zh.free hc0
     ·have:HW1 b=HW b:=by show upd _ _ _ b=_;rw[ag hb2,ag hb]
      rw[this]at n;exact ok.gx.dj b n
  have keepW:∀ b u,HW b=some u→(∀ qs,u≠.tbl qs)→HW1 b=some u:=fun b u e hn=>by
   rw[w4 b (fun z=>by rw[z,hP]at e;cases e;exact hn _ rfl) (by rw[e];simp)];exact e
  have wd:WdOk G.K G.C HW1 Z W:=by
   refine⟨fun b o e=>?_,fun j hj=>?_⟩
   ·have q:=ok.wd b o e;cases o with
    | ins n fs=>obtain⟨dx,vs,e1,e2,cl,e3,r⟩:=q;exact⟨dx,vs,keepW _ _ e1 (fun _ z=>nomatch z),keepW _ _ e2 (fun _ z=>nomatch z),cl,e3,r⟩
    | lst ds=>obtain⟨vs,e1,r⟩:=q;exact⟨vs,keepW _ _ e1 (fun _ z=>nomatch z),r⟩
   ·obtain⟨qs,f1,f2,f3⟩:=tbo j hj;by_cases hb:G.C (901+2*j)=P
    ·rw[hb]at f1 ⊢;have ej:qs=ps:=by rw[hP]at f1;cases f1;rfl
     subst ej;refine⟨_,w3,?_,fun pos cv q=>?_⟩
     ·rw[Array.toList_append];exact TriplesOk_snoc _ _ _ _ f2
     ·rw[Array.toList_append,rC _ _ f2]at q;cases hh:codeAmong pos qs.toList with
      | some v =>
       rw[hh]at q;cases q;obtain⟨c3,oc3,ws3,t3,k1,k2,k3,k4⟩:=f3 pos cv hh;exact⟨c3,oc3,ws3,t3,k1,keepW _ _ k2 (fun _ z=>nomatch z),k3,k4⟩
      | none =>
       rw[hh]at q;have q':codeAmong pos [rawInt lpos.line,rawInt lpos.col,.ref c']=some cv:=q;simp only[codeAmong,rawInt]at q';split at q'
       ·cases q';refine⟨c',oc,ws,t,rfl,w2,d1,?_⟩;rw[d2];rw[lx.inj j hj (hb.trans hPe.symm),q0]
       ·cases q'
    ·refine⟨qs,by rw[w4 _ hb (by rw[f1];simp)];exact f1,f2,fun pos cv q=>?_⟩;obtain⟨c3,oc3,ws3,t3,k1,k2,k3,k4⟩:=f3 pos cv q;exact⟨c3,oc3,ws3,t3,k1,keepW _ _ k2 (fun _ z=>nomatch z),k3,k4⟩
  exact h _ c' ctv oc ws t _ _ H1 HW1 (I.un (t':=tk) un hok) gx wd a1 a2 d1 d2
end
theorem BG.mono {X:Cx}{G:Gx}{j k:Nat}(b:BG X G k)(h:j≤k):BG X G j:=⟨b.room.mono h,b.K,b.calm,b.pass⟩
def LamB (P:Program)(w:World)(K:Frag)(mg:Str→Option Value)(base:Heap)(C:Nat→Addr)(k:Nat)(N:List Str)(qual:Str)(scope:Scope)(body:Expr)(ds:List D)(rf:Wd→RW):Prop :=
 ∀ (f:Addr) (cd:Value) (cl:List (Str×Addr)) (A:Around) (outer:List Env) (s:Shared) (HW Z H:Hp) (E:XK) (W:Wd),BG (lamX P w K mg base N qual scope f cd cl A outer s H E) ⟨K,C,HW,Z,H,E⟩ k →
  GE (lamX P w K mg base N qual scope f cd cl A outer s H E) ⟨K,C,HW,Z,H,E⟩ W (startS N.length ds) body (rf W)
structure LamSc (scope:Scope)(params:Arguments)(body:Expr)(qual:Str):Prop where
 sk:scope.kind=.function
 sco:scope.isCoroutine=false
 sgen:scope.isGenerator=false
 snc:∀ x∈scope.names,x.2≠.cell
 hb:∀ cl pm c ctv,bindArgs (kla_fn "<lambda>" qual params body scope cl pm c ctv) ⟨[],[]⟩=pure []
def DeedAt (X0:Cx)(G0:Gx)(k:Nat)(i:Nat)(x:Str)(f:Addr)(rf:Wd→RW):Prop:=∀ pn xe E' p pos W S,BG (tryX X0 pn xe) { G0 with E:=E' } k→S[i]?=some (some (.val (.ptr f))) →
 GE (tryX X0 pn xe) { G0 with E:=E' } W S (.Call (.Name x p) [] [] pos) (rf W)
section
variable {X:Cx}{G:Gx}{W:Wd}{S:SS}{k:Nat}{N:List Str}{qual:Str}{params:Arguments}{scope:Scope}{body:Expr}{ds:List D}{vs:List V}{rf:Wd→RW}{f:Addr}{x:Str}{p pos:Pos}
theorem wx (i:Nat)(bg:BG X G (k+1))(hex:X.ex=[])(L:Lam X.s₀.heap X.H₀ qual params scope body N f vs)(sc:LamSc scope params body qual)(hr:Reps G.K G.C G.Z0 ds vs)(hl:vs.length=N.length)
  (hS:S[i]?=some (some (.val (.ptr f)))) (hb:LamB X.prog X.w X.K X.mg X.base G.C k N qual scope body ds rf) (hi:X.N[i]?=some x) (hv:Vis X.env.scope x)
  (hd:(x==("__debug__":Str))=false) (hcd:(x==("__classdict__":Str))=false):GE X G W S (.Call (.Name x p) [] [] pos) (rf W):=by
 have hK:=bg.K;refine oK (E:=G.E) (i:=i) (f:=f) (vs:=vs) (N:=N) (qual:=qual) (params:=params) (scope:=scope) (body:=body) bg.calm bg.room bg.pass sc.sk sc.sco sc.sgen sc.snc hl sc.hb hi hv
  (fun pins σ H s I=>L.later (by have:=I.base;rw[hex]at this;exact this)) (fun σ H Q ⟨HW,Z,ok,w⟩=>?_) (fun pins σ H s Q I ⟨HW,Z,ok,w⟩ cd cl room=>?_) hd hcd
 ·obtain⟨v,A,e,o,_⟩:=ok.nm.sl i _ hS;have r:=o.2;rw[Rep]at r;rw[e,r]
 ·have b':BG (lamX X.prog X.w X.K X.mg X.base N qual scope f cd cl X.A X.stack s H G.E) ⟨X.K,G.C,HW,Z,H,G.E⟩ k:=⟨room,rfl,rfl,uv⟩;refine⟨_,hb f cd cl X.A X.stack s HW Z H G.E W b',HW,Z,GOk.start ok.zh ok.wh ok.gx.dj (by rw[hK];exact ok.wd) (by rw[hK];exact hr.mono ok.gx.z),?_⟩;rw[hK];exact w
inductive Cap (X:Cx)(S:SS)(scope:Scope):List Str→List D→Prop
 | nil:Cap X S scope [] []
 | cons (i:Nat) {x:Str} {d:D} {N:List Str} {ds:List D} (h1:X.N[i]?=some x) (h2:S[i]?=some (some (.val d))) (h3:X.env.scope.names.lookup x=some .cell) (h4:scope.names.lookup x=some .free) (r:Cap X S scope N ds):Cap X S scope (x::N) (d::ds)
theorem Cap.vals {HW Z H:Hp}{ρ:St}{pins:List (Addr×Obj)}{s:Shared}(ok:GOk G W HW Z H S ρ)(I:Inv X pins ρ H s):∀ {N:List Str} {ds:List D},Cap X S scope N ds→∃ vs,Reps G.K G.C Z ds vs∧vs.length=N.length ∧
  ∀ (i:Nat) (x:Str) (v:V),N[i]?=some x→vs[i]?=some v→scope.names.lookup x=some .free∧∃ u a,RelV v u∧X.env.cells.lookup x=some a∧s.heap.IsCell a (some u)
 | _,_,.nil=>⟨[],Reps.nil,rfl,fun i x v e _=>by simp at e⟩
 | _,_,.cons i h1 h2 h3 h4 r=>by
  obtain⟨vs,rs,hl,k⟩:=Cap.vals ok I r;obtain⟨v,A,e,o,_⟩:=ok.nm.sl i _ h2;obtain⟨m,hn,hv⟩:=I.loc;obtain⟨u,ru,lk⟩:=hv i _ v h1 e (.inr (.inl h3));refine⟨v::vs,Reps.cons o.2 rs,by rw[List.length_cons,List.length_cons,hl],fun j y w e1 e2=>?_⟩;cases j with
  | zero =>
   simp at e1 e2
   subst e1 e2;refine⟨h4,u,?_⟩;rcases lk with ⟨z,_⟩ | ⟨_,a,ea,z⟩
   ·have z:X.env.scope.names.lookup _=some .local:=z;rw[h3]at z;cases z
   ·exact⟨a,ru,ea,z⟩
  | succ j=>exact k j y w (by simpa using e1) (by simpa using e2)
def closOf (cells:List (Str×Addr))(fr:List Str):List (Str×Addr):=fr.map fun x=>(x,(cells.lookup x).getD 0)
theorem hG {cells:List (Str×Addr)}{y:Str}{a:Addr}:∀ {fr:List Str},fr.all (fun x=>(cells.lookup x).isSome)=true→(closOf cells fr).lookup y=some a→cells.lookup y=some a
 | [],_,e=>by simp[closOf]at e
 | x::fr,h,e=>by
  rw[List.all_cons,Bool.and_eq_true]at h;unfold closOf at e;rw[List.map_cons,List.lookup_cons]at e;cases q:(y==x) with
  | true =>
   rw[q]at e;have hy:y=x:=eq_of_beq q;subst hy;cases q2:cells.lookup y with
   | none=>rw[q2]at h;exact absurd h.1 (by simp)
   | some b=>rw[q2]at e;exact e
  | false=>rw[q]at e;exact hG h.2 e
theorem jQ {cells:List (Str×Addr)}{y:Str}:∀ {fr:List Str},y∈fr→∃ a,(closOf cells fr).lookup y=some a
 | x::fr,h=>by
  unfold closOf;rw[List.map_cons,List.lookup_cons];cases q:(y==x) with
  | true=>exact⟨_,rfl⟩
  | false =>
   rcases List.mem_cons.mp h with z | z
   ·rw[z]at q;simp at q
   ·exact jQ z
theorem uw {cells:List (Str×Addr)}{y:Str}{fr:List Str}{a:Addr}(h:fr.all (fun x=>(cells.lookup x).isSome)=true)(hy:y∈fr)(e:cells.lookup y=some a):(closOf cells fr).lookup y=some a:=by
 obtain⟨b,q⟩:=jQ (cells:=cells) hy;have:=hG h q;rw[e]at this;cases this;exact q
def tLam (G:Gx)(W:Wd)(S:SS)(qual:Str)(params:Arguments)(scope:Scope)(body:Expr)(clos:List (Str×Addr)):TE:=fun ρ H Q=>∃ HW Z,GOk G W HW Z H S ρ∧∀ f c ctv oc ws t pm H1 HW1,GX HW Z H HW1 Z H1→WdOk G.K G.C HW1 Z W →
 H1 f=some (.frz (kla_obj "<lambda>" qual params body scope clos pm c ctv) (.own 0))→H1 c=some (.frz oc (.own 0))→oc.data=.fields ws→ws[1]?=some (.str qual t)→Q (.ref f) H1
theorem yN {clos:List (Str×Addr)}{lpos:Pos}(i:Nat)(hK:X.K=G.K)(lx:LamX X G.K G.C i)(hcl:closureFor scope X.env=pure clos)(hdef:defaultsOf params X.env=([],[])) :
  PE X (.Lambda params body scope lpos) (tLam G W S (X.env.qual ++ "<lambda>") params scope body clos):=fun pins s ρ H Q I ⟨HW,Z,ok,w⟩ =>
 yM i I ok hK lx hcl hdef fun f c ctv oc ws t pm s1 H1 HW1 I1 gx wd a1 a2 a3 a4=>⟨.ref f,H1,I1,rfl,w f c ctv oc ws t pm H1 HW1 gx wd a1 a2 a3 a4⟩
def ToldB (P:Program)(w:World)(K:Frag)(mg:Str→Option Value)(base:Heap)(C:Nat→Addr)(k:Nat)(NT:List Str)(told dn:Str)(st:Stmt)(rf:Wd→RW)(lt:Wd→LW Unit):Prop :=
 ∀ (f:Addr) (cdv:Value) (A:Around) (outer:List Env) (s:Shared) (HW Z H:Hp) (E:XK) (fl:Addr),BG (bodyX P w K mg base NT told (defScope st) f cdv A outer s H E) ⟨K,C,HW,Z,H,E⟩ k →
  PassesOwn (model P w) (bodyX P w K mg base NT told (defScope st) f cdv A outer s H E).A (bodyX P w K mg base NT told (defScope st) f cdv A outer s H E).env (bodyX P w K mg base NT told (defScope st) f cdv A outer s H E).xe →
  MadeG (bodyX P w K mg base NT told (defScope st) f cdv A outer s H E) ⟨K,C,HW,Z,H,E⟩→DeedAt (bodyX P w K mg base NT told (defScope st) f cdv A outer s H E) ⟨K,C,HW,Z,H,E⟩ k 0 dn fl rf →
  ∀ W,GL (bodyX P w K mg base NT told (defScope st) f cdv A outer s H E) ⟨K,C,HW,Z,H,E⟩ W (startS NT.length [.ptr fl]) (defBody st) JU (lt W)
theorem bD {told dn:Str}{st:Stmt}{NT fr:List Str}{lt:Wd→LW Unit}{lpos:Pos}(i:Nat)(bg:BG X G (k+2))(lx:LamX X G.K G.C i)(FT:Fd G.K X.mg told [dn] st)(scT:FnScope NT [dn] (defScope st))(hN0:NT[0]?=some dn)(hg:Gl X told)
  (cap:Cap X S scope fr ds) (sc:LamSc scope params body (X.env.qual ++ "<lambda>"))
  (hb:LamB X.prog X.w X.K X.mg X.base G.C k fr (X.env.qual ++ "<lambda>") scope body ds rf) (hT:ToldB X.prog X.w X.K X.mg X.base G.C (k+1) NT told dn st rf lt)
  (hcl:closureFor scope X.env=pure (closOf X.env.cells fr):=by rfl) (hall:fr.all (fun x=>(X.env.cells.lookup x).isSome)=true:=by rfl) (hfr:scope.names.all (fun p=>p.2 != .free||fr.contains p.1)=true:=by rfl)
  (hdef:defaultsOf params X.env=([],[]):=by rfl) (hdb:(told==("__debug__":Str))=false:=by decide) (hdd:(dn==("__debug__":Str))=false:=by decide) (hdc:(dn==("__classdict__":Str))=false:=by decide)
  (he:starEach [.Lambda params body scope lpos] X.env=(false,eval (.Lambda params body scope lpos) X.env)::starEach [] X.env:=by rfl) (hpl:(backTo pos (starEach [] X.env)).any (·.1)=false:=by rfl) :
  GE X G W S (.Call (.Name told p) [.Lambda params body scope lpos] [] pos) (outW (lt W)):=by
 have hK:=bg.K;obtain⟨a,fd,F,hm,hbd⟩:=FT.ex;obtain⟨oc,od,kV,doc,pm,an,cdv,ct,osl,rfl,lk,hcd⟩:=F.ex;intro pins s ρ H Q I ⟨HW,Z,ok,w⟩;refine wpAny_Call_Name_kw (cR I hg hm ?_ hdb);refine callWith_K (h₀:=X.base) I.ok.mod.kin (by rw[hK];exact F.kp) (thn (cu (yN (G:=G) (W:=W) (S:=S) (body:=body) (lpos:=lpos) i hK lx hcl hdef) gw he pos pins s ρ H
  (fun vs H1=>∃ f c ctv oc ws t pm HW1,vs=[.ref f]∧GX HW Z H HW1 Z H1∧WdOk G.K G.C HW1 Z W∧H1 f=some (.frz (kla_obj "<lambda>" (X.env.qual ++ "<lambda>") params body scope (closOf X.env.cells fr) pm c ctv) (.own 0))∧H1 c=some (.frz oc (.own 0))∧oc.data=.fields ws∧ws[1]?=some (.str (X.env.qual ++ "<lambda>") t)) I
  ⟨HW,Z,ok,fun f c ctv oc ws t pm H1 HW1 gx wd a1 a2 a3 a4=>⟨f,c,ctv,oc,ws,t,pm,HW1,rfl,gx,wd,a1,a2,a3,a4⟩⟩) fun us s1 ⟨vs1,H1,I1,r1,q1⟩=>⟨I1.kIn,?_⟩) he hpl
 obtain⟨f,c,ctv,oc',ws,t,pm',HW1,rfl,gx,wd,a1,a2,a3,a4⟩:=q1;have ok1:GOk G W HW1 Z H1 S ρ:=ok.more gx wd;obtain⟨vs,rs,hl,kk⟩:=Cap.vals ok1 I1 cap;have memfr:∀ x,scope.names.lookup x=some .free→x∈fr:=fun x e=>by
  have m:=List.all_eq_true.mp hfr _ (PySem.mem_of_lookup e)
  simpa using m
 have L:Lam s1.heap H1 (X.env.qual ++ "<lambda>") params scope body fr f vs:=by
  refine⟨pm',c,ctv,closOf X.env.cells fr,oc',ws,t,a1,a2,a3,a4,fun x y b e1 e2=>I1.ok.inj x y b (hG hall e1) (hG hall e2),fun x b e=>?_,fun x e=>jQ (memfr x e),fun j x v e1 e2=>?_⟩
  ·have e':=hG hall e;exact⟨I1.cell x b e',I1.freeC x b e'⟩
  ·obtain⟨z,u,b,r,e,q⟩:=kk j x v e1 e2;exact⟨z,u,b,r,uw hall (memfr x z) e,q⟩
 obtain⟨u,rfl,ru⟩:=r1.one;have r':Vals [.ref f] [u]:=.cons ru .nil;have hlen:([u]++([]:List Value)).length=[dn].length:=rfl;have hbind:=(hbd s1 [u] (hK ▸ I1.kIn) hlen);have hWR:WRW G.K G.C G.E HW1 Z H1 (fun _ d _ Z' H'=>∀ v,Rep G.K G.C Z' d v→Q v H') (outW (lt W)):=w.more gx;have bT:BG (bodyX X.prog X.w X.K X.mg X.base NT told (defScope st) a cdv X.A X.stack s1 H1 G.E) ⟨X.K,G.C,HW1,Z,H1,G.E⟩ (k+1):=⟨bg.room.deeper _,rfl,rfl,bQ⟩;have hrun:=zJ (CX:=CXE X.prog X.w) (P:=X.prog) (w:=X.w) (K:=X.K) (mg:=X.mg) (base:=X.base) (k:=k+1) (A:=X.A) (outer:=X.stack) (s:=s1) (H:=H1) (args:=⟨[u],[]⟩) (us:=[u]) (vs:=[.ref f]) (Q:=Q) (E:=G.E)
  (by rw[hK];exact lk) (by rw[hK];exact hcd) scT rfl bg.room.w I1.env0 (by simpa using hbind) r'
  (hT a cdv X.A X.stack s1 HW1 Z H1 G.E f bT PassesOwn.leaving (fun F' e' pins σ H1 s1 h1 ea C1 args I hx hE=>dL I hx (by rw[e']at hE;exact hE))
   (fun pn xe E' p pos W S b hS=>wx 0 b rfl L sc (by show Reps X.K _ _ _ _;rw[hK];exact rs) hl hS hb hN0 ((scT.par dn (by simp)).imp id .inl) hdd hdc) W)
  ⟨HW1,Z,GOk.start (N:=NT) ok1.zh ok1.wh ok1.gx.dj (by rw[hK];exact wd) (Reps.cons (by rw[Rep]) Reps.nil),WGL.start (G:=⟨X.K,G.C,HW1,Z,H1,G.E⟩) (by rw[hK];exact hWR)⟩
 refine wpAny_call (codeAny_mono hrun fun r s' hq=>?_);cases r with
 | error e=>exact bg.pass pins ρ H1 s1 e s' I1 hq
 | ok fl =>
  cases fl with
  | ret u=>exact I1.after hq
  | next=>exact False.elim hq
  | brk=>exact False.elim hq
  | cont=>exact False.elim hq
end
structure HX (X:Cx)(F:Fx)(k:Nat):Prop where
 room:RoomH k X.A
 K:X.K=F.K
theorem rD {X:Cx}{k:Nat}(hr:RoomH k X.A):MtR X "list.count" (rCountB X.K):=by
 intro pins s σ H x vs v us Q I rx rv h;obtain⟨l,bs,k,rfl,rfl,hH,q⟩:=h;cases rx;obtain⟨u,rfl,ru⟩:=rv.one;cases ru;obtain⟨its,r,⟨⟨c2,d2,dt2,sl2⟩,n2,e2,p2,p3,p4⟩,z2⟩:=I.list hH;have e:=bR r;subst e;simp only at p2 p3 p4;subst p2 p3 p4;refine call_meets F.slot_list_count ⟨_,e2,rfl⟩ F.entry_list_count (F.args_list_count_2 _ _) (SeqAt.list_countAt l _ n2 _ _ (.bool k) (isB k)) ⟨e2,fun y hy=>?_,?_⟩
 ·have hy':y∈bs.map Value.bool:=by simpa using hy
  obtain⟨b,_,rfl⟩:=List.mem_map.mp hy';exact dZ I (by have:=hr.un;show X.A.units+1 < cLine;omega) b k
 ·have hc:((bs.map Value.bool).toArray.toList.countP (isB k))=bs.countP (· == k):=by
   show (bs.map Value.bool).countP (isB k)=_;rw[List.countP_map];rfl
  rw[hc];exact⟨.int _,H,I.tok _,⟨_,rfl⟩,q⟩
theorem rF {X:Cx}{k:Nat}(hr:RoomH k X.A):MtR X "list.index" (rIndexB X.K):=by
 intro pins s σ H x vs v us Q I rx rv h;obtain⟨l,bs,k,rfl,rfl,hH,hj,q⟩:=h;cases rx;obtain⟨u,rfl,ru⟩:=rv.one;cases ru;obtain⟨its,r,⟨⟨c2,d2,dt2,sl2⟩,n2,e2,p2,p3,p4⟩,z2⟩:=I.list hH;have e:=bR r;subst e;simp only at p2 p3 p4;subst p2 p3 p4;rw[List.length_map,sizeLine_eq]at z2;have hsz:bs.idxOf k < (bs.map Value.bool).toArray.size:=by rw[List.size_toArray,List.length_map];exact hj
 have hat:∀ m (hm:m < (bs.map Value.bool).toArray.size) (hm':m < bs.length),isB k (bs.map Value.bool).toArray[m]=(bs[m]==k):=fun m hm hm'=>by simp[isB]
 refine call_meets F.slot_list_index ⟨_,e2,rfl⟩ F.entry_list_index (F.args_list_index_2 _ _) (SeqAt.list_indexAt l _ n2 _ _ (.bool k) (isB k) (bs.idxOf k) hsz (by omega) ?_ ?_) ⟨e2,fun y hy=>?_,⟨.int _,H,I.tok _,⟨_,rfl⟩,q⟩⟩
 ·rw[hat _ _ hj];exact List.findIdx_getElem (w:=hj)
 ·intro m hm hlt;have hm':m < bs.length:=by omega
  rw[hat _ _ hm'];exact Bool.eq_false_iff.mpr (by simpa using List.not_of_lt_findIdx hlt)
 ·have hy':y∈bs.map Value.bool:=by simpa using hy
  obtain⟨b,_,rfl⟩:=List.mem_map.mp hy';exact dZ I (by have:=hr.un;show X.A.units+1 < cLine;omega) b k
section
variable {X:Cx}{F:Fx}{o e a b:Expr}{g ga gb:SS→R D}{gs:SS→R (List D)}{apos cpos p pos:Pos}{ec:Expr}{k:Nat}{y:V}{q:D→Option Bool}
theorem rG (bx:HX X F k)(ho:FE X F o g)(ha:FA X F [e] gs)
  (hbase:attributeBase o "count" X.env (eval o X.env)=eval o X.env:=by rfl)
  (hfew:((backTo cpos (starEach [e] X.env)).all (fun x=>!x.1)&&(backToKw cpos (keywordEach [] X.env)).all (fun x=>x.1.isSome)
   && decide ([e].length+([]:List Keyword).length+(if ([]:List Keyword).isEmpty then 0 else 1) < 30))=true:=by rfl)
  (hline:(apos.endLine==cpos.line)=true:=by rfl) (hs:starEach [e] X.env=(false,eval e X.env)::starEach [] X.env:=by rfl) (hplain:(backTo cpos (starEach [] X.env)).any (·.1)=false:=by rfl) :
  FE X F (.Call (.Attribute o "count" apos) [e] [] cpos) (eMethL dCount g gs) :=
 (lw PySem.F.plainAttrs_list PySem.F.slot_list_count (by kernel_rfl) (rD bx.room) ho ha hbase hfew hline hs hplain).weak (by rw[bx.K];exact fK i4)
theorem oM (bx:HX X F k)(ho:FE X F o g)(ha:FA X F [e] gs)
  (hbase:attributeBase o "index" X.env (eval o X.env)=eval o X.env:=by rfl)
  (hfew:((backTo cpos (starEach [e] X.env)).all (fun x=>!x.1)&&(backToKw cpos (keywordEach [] X.env)).all (fun x=>x.1.isSome)
   && decide ([e].length+([]:List Keyword).length+(if ([]:List Keyword).isEmpty then 0 else 1) < 30))=true:=by rfl)
  (hline:(apos.endLine==cpos.line)=true:=by rfl) (hs:starEach [e] X.env=(false,eval e X.env)::starEach [] X.env:=by rfl) (hplain:(backTo cpos (starEach [] X.env)).any (·.1)=false:=by rfl) :
  FE X F (.Call (.Attribute o "index" apos) [e] [] cpos) (eMethL dIndex g gs) :=
 (lw PySem.F.plainAttrs_list PySem.F.slot_list_index (by kernel_rfl) (rF bx.room) ho ha hbase hfew hline hs hplain).weak (by rw[bx.K];exact fK i5)
theorem wz (bx:HX X F k)(hq:IsA F.K F.C y q):∀ σ H Q,tE F (eIs q g) σ H Q→tCB (fun xs H Q=>∃ (Z:Hp) (d:D) (x y:V) (b:Bool),xs=[x,y]∧Same Z H∧Rep X.K F.C Z d x∧((∃ n,y=.ty n)∨∃ a,y=.ref a) ∧
  kitOne X.K (tyD F.C d) (cV y)=some b∧(∀ j,d=.exc j→ExcK X.K (F.C j))∧(∀ j,d≠.fn j)∧isDct d=false∧Q (.bl b) H) (tCons (tE F g) (tCons (tC y) tNil)) σ H Q:=fun σ H Q ⟨Z,S,ok,w⟩ =>
 av ok w fun d v H1 Z1 ok1 x1 rv w1=>by
  cases e:q d with
  | none=>unfold dIsA at w1;rw[e]at w1;exact w1.elim
  | some b =>
   unfold dIsA at w1;rw[e]at w1;refine⟨Z1,d,v,y,b,rfl,ok1.sub,by rw[bx.K];exact rv,hq.one,by rw[bx.K];exact hq.ans d b e,fun j ej=>?_,fun j ej=>(by rw[ej,hq.fn j]at e;cases e),(by cases hd:isDct d with | false=>rfl | true=>rw[hq.dct d hd]at e;cases e),WG.now (a:=D.bl b) w1 ok1.sub _ aU⟩;subst ej;rw[bx.K];exact hq.exc j b e
theorem aI (bx:HX X F k)(hg:Gl X "isinstance")(hm:X.mg "isinstance"=none)(hq:IsA F.K F.C y q)(ha:FE X F e g)(hc:PE X ec (tC y))(he:starEach [e,ec] X.env=(false,eval e X.env)::starEach [ec] X.env:=by rfl)
  (he2:starEach [ec] X.env=(false,eval ec X.env)::starEach [] X.env:=by rfl) (hpl:(backTo pos (starEach [ec] X.env)).any (·.1)=false:=by rfl) :
  FE X F (.Call (.Name "isinstance" p) [e,ec] [] pos) (eIs q g) :=
 (fg (id := "isinstance") i0 hg hm (by decide +kernel) (cu ha (cu hc gw he2) he) (he:=he) (hpl:=hpl)).weak (wz bx hq)
theorem yO (hK:X.K=F.K)(hr:RoomH k X.A):OpR X (compareOp .NotEq) (rNf F.K F.C):=by
 intro pins s σ H x y v u Q I rx ry h;obtain⟨Z,d,e,z,h1,h2,g1,g2,q⟩:=h;have hu:X.A.units+60 < cLine:=by have:=hr.un;omega
 exact pU hK I z 60 X.A d e x y v u g1 g2 h1 h2 rx ry hu X.prog X.w X.xe _ ⟨.bl (!eqD d e),H,I,rfl,q⟩
theorem yP (bx:HX X F k)(ha:FE X F a ga)(hb:FE X F b gb):FT X F (.Compare a [.NotEq] [b] pos) (gB (eOp dNf ga gb)):=iy (yO bx.K bx.room) oz ha hb
end
structure FnHd (P:Program)(w:World)(K:Frag)(mg:Str→Option Value)(base:Heap)(C:Nat→Addr)(k:Nat)(x:Str)(ps:List Str)(f:List D→R D):Prop where
 ex:∃ a fd,(∀ (A:Around) (outer:List Env) (s:Shared) (H:Hp) (args:Args) (us:List Value) (vs:List V) (Q:VK),RoomH k A→Env0 P w K mg base A outer s H→BindsTo s fd args (ps.zip us)→Vals vs us→spF K C ps.length f vs H Q E0 →
  codeAny (model P w) A (.call (.ref a) args) (CR CX0 outer P w H s Q E0) s)∧mg x=some (.ref a)∧keepIn K (.ref a)=true∧Binds K fd ps []
def OkHB (P:Program)(w:World)(K:Frag)(mg:Str→Option Value)(base:Heap)(C:Nat→Addr)(k:Nat)(N:List Str)(x:Str)(st:Stmt)(ds:List D)(l:L Unit):Prop :=
 ∀ (f:Addr) (cdv:Value) (A:Around) (outer:List Env) (s:Shared) (H Z:Hp),HX (cxOfH CX0 P w K mg base N x (defScope st) f cdv A outer s H E0) ⟨K,C,H,Z,E0⟩ k →
  FL (cxOfH CX0 P w K mg base N x (defScope st) f cdv A outer s H E0) ⟨K,C,H,Z,E0⟩ (startS N.length ds) (defBody st) JU l
section
variable {P:Program}{w:World}{K:Frag}{mg:Str→Option Value}{base:Heap}{C:Nat→Addr}{k:Nat}{N:List Str}{x p:Str}{st:Stmt}
theorem yQ (F:Fd K mg x [p] st):FnHd P w K mg base C 0 x [p] (fun _=>.stuck):=by
 obtain⟨a,fd,F,h,b⟩:=F.ex;exact⟨a,fd,fun A outer s H args us vs Q _ _ _ _ z=>by obtain⟨_,_,_,_,_,z⟩:=z;exact z.elim,h,F.kp,b⟩
theorem oN {c:D→L Unit}(F:Fd K mg x [p] st)(S:FnScope N [p] (defScope st))(h:∀ a,OkHB P w K mg base C k N x st [a] (c a)):FnHd P w K mg base C (k+1) x [p] (a1 c):=by
 obtain⟨a,fd,F,hm,b⟩:=F.ex;obtain⟨oc,od,kV,doc,pm,an,cdv,ct,osl,rfl,lk,hcd⟩:=F.ex;refine⟨a,_,fun A outer s H args us vs Q hr e0 hb r hsp=>?_,hm,F.kp,b⟩;obtain⟨hl,Z,ds,z,rs,wr⟩:=hsp;obtain⟨d,rfl⟩:=len1 (ds:=ds) (by rw[rs.length];exact hl);refine yL (k:=k) lk hcd S hl hr e0 hb r (h d a cdv A outer s H Z ⟨hr.deeper _,rfl⟩) ⟨Z,dM (F:=⟨K,C,H,Z,E0⟩) (N:=N) z rs,?_⟩;have wr:WG ⟨K,C,H,Z,E0⟩ H Z (outL (c d)) fun d H' Z'=>∀ v,Rep K C Z' d v→Q v H':=wr
 cases q:c d with
 | nx u=>rw[q]at wr;exact fun S' ρ' H' Z' _ _ ok=>wr H' Z' ok.ex .non (by rw[Rep])
 | rt d=>rw[q]at wr;exact fun v H' Z' x rv=>wr H' Z' x v rv
 | er k=>rw[q]at wr;exact wr
 | stuck=>rw[q]at wr;exact wr
end
def tCallH (K:Frag)(C:Nat→Addr)(f:List D→R D)(te:TE):TE:=fun σ H Q=>te σ H fun v H1=>spF K C 1 f [v] H1 Q E0
theorem ux {X:Cx}{C:Nat→Addr}{k:Nat}{x y:Str}{f:List D→R D}{e:Expr}{te:TE}{p pos:Pos}(h:FnHd X.prog X.w X.K X.mg X.base C k x [y] f)(hr:RoomH k X.A)(hg:Gl X x)(ha:PE X e te)
  (hdb:(x==("__debug__":Str))=false) (he:starEach [e] X.env=(false,eval e X.env)::starEach [] X.env) (hpl:(backTo pos (starEach [] X.env)).any (·.1)=false):PE X (.Call (.Name x p) [e] [] pos) (tCallH X.K C f te):=by
 obtain⟨a,fd,h1,h2,h3,h4⟩:=h.ex;intro pins s σ H Q I hq;refine wpAny_Call_Name_kw (cR I hg h2 ?_ hdb);refine callWith_K (h₀:=X.base) I.ok.mod.kin h3 (thn (cu ha gw he pos pins s σ H (fun vs H1=>∃ v,vs=[v]∧spF X.K C 1 f [v] H1 Q E0) I (by
  refine(show te σ H _ from ?_);exact cast (congrArg (te σ H) (by funext v H1;exact propext ⟨fun z=>⟨v,rfl,z⟩,fun ⟨v',e1,z⟩=>by cases e1;exact z⟩)) hq)) fun us s1 ⟨vs,H1,I1,r,q⟩=>⟨I1.kIn,?_⟩) he hpl
 obtain⟨v,rfl,q⟩:=q;have hlen:(us++([]:List Value)).length=[y].length:=by rw[List.append_nil,← r.length];rfl
 have hb:=h4 s1 us I1.kIn hlen;rw[List.append_nil]at hb;refine wpAny_call (codeAny_mono (h1 X.A X.stack s1 H1 ⟨us,[]⟩ us [v] Q hr I1.env0 hb r q) fun r s' hq=>?_);cases r with
 | error e=>exact False.elim hq
 | ok fl =>
  cases fl with
  | ret u=>exact I1.after hq
  | next=>exact False.elim hq
  | brk=>exact False.elim hq
  | cont=>exact False.elim hq
theorem uy {Z H:Hp}{a:Addr}{o:HO}(h:Same Z H):Same (upd Z a o) (upd H a o):=fun b u e=>by
 by_cases z:b=a
 ·subst z;rw[ai]at e ⊢;exact e
 ·rw[ag z]at e ⊢;exact h b u e
section
variable {X:Cx}{body:List Stmt}{c n cl yp:Str}{np np2 cp rp apos hpos pos:Pos}{fh:List D→R D}{k:Nat}{q:Nat→Bool}{C0:Addr}{C:Nat→Addr}{tb:XK→TS}
def tTryR (K:Frag)(C:Nat→Addr)(q:Nat→Bool)(fh:List D→R D)(tb:XK→TS):TS:=fun D σ H=>∃ E':XK,(∀ cls x H',E' cls x H'→∃ k Z',cls=.ref (C k)∧q k=true∧Same Z' H'∧∀ ea,H' ea=none →
 WG ⟨K,C,upd H' ea (excO C k ea),upd Z' ea (excO C k ea),E0⟩ (upd H' ea (excO C k ea)) (upd Z' ea (excO C k ea)) (fh [.exc k]) fun d H2 Z2=>∀ v,Rep K C Z2 d v→D.rt v H2)∧tb E' D σ H
theorem wA (i:Nat)(hr:RoomH k X.A)(hcf:FnHd X.prog X.w X.K X.mg X.base C k cl [yp] fh)(hgc:Gl X cl)(hst:X.stack=X.env::X.outer)(hfm:X.env.frame=some X.env.locals)(hex:X.ex=[])(hN:X.N.Nodup)(hg:Gl X c)(hm:X.mg c=some (.ref C0))(T:Takes X.K C C0 q)
  (hb:∀ pn xe E',Passes (CXE X.prog X.w) (tryX X pn xe) E'→PSs (tryX X pn xe) body (tb E'))
  (hi:X.N[i]?=some n:=by rfl) (hn:X.env.scope.names.lookup n=some .local:=by rfl) (hkn:X.env.kindOf n=some .local:=by rfl)
  (he:starEach [.Name n np2] X.env=(false,eval (.Name n np2) X.env)::starEach [] X.env:=by rfl) (hpl:(backTo apos (starEach [] X.env)).any (·.1)=false:=by rfl) (hdl:(cl==("__debug__":Str))=false:=by decide) (hdc:(c==("__debug__":Str))=false:=by decide) (hdn:(n==("__debug__":Str))=false:=by decide) (hcd:(n==("__classdict__":Str))=false:=by decide) :
  PS X (.Try body [.ExceptHandler (some (.Name c np)) (some n) [.Return (some (.Call (.Name cl cp) [.Name n np2] [] apos)) rp] hpos] [] [] pos) (tTryR X.K C q fh tb):=by
 intro pins s σ H D I h;obtain⟨E',hE',w⟩:=h;refine wpAny_Try_except ?_;have hil:i < X.N.length:=(List.getElem?_eq_some_iff.mp hi).1
 let txe:Value→Shared→Prop:=fun e s₁=>wpAny (model X.prog X.w) X.A (noteFrame e X.env) (fun _ s₂=>wpAny (model X.prog X.w) X.A (setFlight e none) (fun _ s₃=>wpAny (model X.prog X.w) X.A (handleBy e X.env [.ExceptHandler (some (.Name c np)) (some n) [.Return (some (.Call (.Name cl cp) [.Name n np2] [] apos)) rp] hpos]) (SP X pins D) X.xe s₃) X.xe s₂) X.xe s₁
 have back:∀ {pl:List (Addr×Obj)} {σ':St} {H':Hp} {s':Shared},Inv (tryX X (X.pn++pins) txe) pl σ' H' s'→Inv X pins σ' H' s':=fun J=>jJ (X:=tryX X (X.pn++pins) txe) J rfl I.ok.hd fun p hp=>List.mem_append_left _ hp
 have ps:Passes (CXE X.prog X.w) (tryX X (X.pn++pins) txe) E':=by
  intro pl σ1 H1 s1 e s2 I1 hx;obtain⟨ea,Ce,t,H2,B,rfl,os,bare,un,hok,fl,hn2,cov,hE⟩:=hx;obtain⟨k',Z',hC,hk,zs,w1⟩:=hE' _ _ _ hE;have J:Inv (tryX X (X.pn++pins) txe) pl σ1 H2 s2:=I1.call' (ch:=[]) os un hok bare (fun b z=>nomatch z);obtain⟨oe0,ws0,ge0,_,gd0,_⟩:=fl.first
  obtain⟨mL1,nL1,_⟩:=I1.loc;obtain⟨oL1,_,_,hoL1,_⟩:=id nL1;have hnf:ea∉frs X.stack:=fun z=>by
   rcases List.mem_cons.mp (J.stkSub ea z) with z1 | z1
   ·obtain⟨mL,nL,_⟩:=J.loc;obtain⟨oL,es,ep,hoL,hdL,_⟩:=nL;have hoL':s2.heap.get? ea=some oL:=by rw[z1];exact hoL
    rw[ge0]at hoL';cases hoL';rw[hdL]at gd0;cases gd0
   ·obtain⟨_,o',e',d⟩:=J.funs.mem z1;rw[ge0]at e';cases e';exact d _ gd0
  have hnew:∀ o,s1.heap.get? ea≠some o:=fun o z=>by
   have:=cov ea oe0 ge0 (.inr ⟨o,z⟩) hnf;rw[fl.2.1]at this;cases this
  have h0:X.s₀.heap.get? ea=none:=by
   cases z:X.s₀.heap.get? ea with
   | none=>rfl
   | some o =>
    obtain⟨o',z'⟩:=I1.base.there ea o z (by show ea∉X.ex;rw[hex];exact fun q=>nomatch q);exact absurd z' (hnew o')
  have hnl:ea≠X.env.locals:=fun z=>hnew oL1 (by rw[z];exact hoL1)
  obtain⟨hp2,g2,d2,t2,os2⟩:=s2;have fl':=fl;rw[show (tryX X (X.pn++pins) txe).stack=X.env::X.outer from hst]at fl';show txe (.ref ea) _;refine wpAny_looks_onW (I.ok.frames.trans (by rw[hst])) hfm fl' fun h4 held4 up4=>?_
  refine wpAny_landsW held4 fun h5 fl5 up5=>?_
  have fly:∀ {h6:Heap},B.StaysIn h6→hp2.UpToSlots h6→Inv (tryX X (X.pn++pins) txe) pl σ1 H2 ⟨h6,g2,d2,t2,os2⟩:=fun {h6} a b=>vF J ⟨σ1,H1,pl,I1⟩ (fun p hp=>⟨_,(I1.pin p hp).1⟩) (fun o _=>⟨oL1,hoL1⟩) cov a b
  have J5:=fly fl5.1 (up4.trans up5)
  let Xm:Cx:={ tryX X (X.pn++pins) txe with A:=X.A.mark (some (.ref ea)),calm:=false,pn:=X.pn++pins,xe:=fun _ _=>False }
  have J5m:Inv Xm pl σ1 H2 ⟨h5,g2,d2,t2,os2⟩:=jJ J5 rfl (fun z=>nomatch z) fun p hp=>hp
  refine wpAny_handleBy_cons (codeAny_handlers_test (cR (X:=Xm) J5m hg hm ?_ hdc)) (by intro z;cases z);obtain⟨ob,hob,hobc⟩:=fl5.there;refine mZ T (J5.kIn) hob (hobc.trans hC) hk ?_;refine codeAny_handlers_suite_as ?_;refine lands_againW fl5 fun h6 fl6 up6=>?_
  have J6:=fly fl6.1 ((up4.trans up5).trans up6);obtain⟨oe,ws,hoe,hoec,hoed,_⟩:=fl6.first
  have J7:=rg J6 (a:=ea) (o:=excO C k' ea) hn2 h0 hnl (fun x c' e z=>by
    obtain⟨v,o,ho,_⟩:=I1.cell x c' e;exact hnew o (by rw[← z];exact ho)) (fun p hp z=>hnew p.2 (by rw[← z];exact(I1.pin p hp).1)) ⟨⟨oe,hoe,hoec.trans hC,ws,hoed⟩,⟨oe,hoe⟩,fun h1 h2 ⟨o,a1,a2,a3⟩ kk=>⟨o,kk o a1,a2,a3⟩⟩
  have J7m:Inv Xm pl σ1 (upd H2 ea (excO C k' ea)) ⟨h6,g2,d2,t2,os2⟩:=jJ J7 rfl (fun z=>nomatch z) fun p hp=>hp
  have hl1:σ1.length=X.N.length:=I1.len;refine gI (X:=Xm) (v:=.ref ea) J7m hN hi (.inl hn) rfl (fun s8 I8=>?_) (.inr hn);have st:=jh (nO (X:=Xm) (pos:=rp) (ux (X:=Xm) (p:=cp) (pos:=apos) hcf ⟨hr.dp,hr.un⟩ hgc (fe (X:=Xm) (pos:=np2) hi (.inl hn) hdn hcd) hdl he hpl));have w2:=w1 ea hn2;refine wpAny_mono (st pl s8 _ _ ⟨fun _ _=>False,D.rt,fun _ _=>False,fun _ _=>False⟩ I8 ⟨.ref ea,by rw[List.getElem?_set_self (by rw[hl1];exact hil)],rfl,_,_,uy zs,Reps.cons (by rw[Rep];exact⟨ea,rfl,ai⟩) Reps.nil,w2⟩) (fun f s9 h9=>?_) fun _ _ z=>z.elim
  cases f with
  | ret u =>
   obtain⟨v9,σ9,H9,I9,rv9,q9⟩:=h9;show wpAny (model X.prog X.w) X.A (do bindName X.env n .none;unbindBehindTheSuite X.env n hpos) _ X.xe s9;have hl9:σ9.length=X.N.length:=I9.len;refine wpAny_bind (wpAny_bindName (gI (X:=Xm) (v:=.non) I9 hN hi (.inl hn) rfl (fun s10 I10=>?_) (.inr hn)));unfold unbindBehindTheSuite;refine wpAny_onRaise (rh (X:=Xm) (v:=.non) I10 hN hi hkn hn (by rw[List.getElem?_set_self (by rw[hl9];exact hil)]) fun s11 I11=>?_);have IX:Inv X pins _ _ s11:=jJ (X:=Xm) I11 rfl I.ok.hd fun p hp=>List.mem_append_left _ hp
   exact⟨v9,_,_,IX,rv9,q9⟩
  | _=>first | (obtain⟨_,_,_,z⟩:=h9;exact z.elim) | (obtain⟨_,_,_,_,_,z⟩:=h9;exact z.elim)
 have run:=hb (X.pn++pins) txe E' ps [] s σ H D (jJ I rfl I.ok.hd (by simp)) w;refine wpAny_mono run (fun f s1 h1=>?_) fun _ _ x=>x
 cases f with
 | next =>
  obtain⟨σ',H',I',d'⟩:=h1;exact wpAny_execs_nil ⟨σ',H',back I',d'⟩
 | brk =>
  obtain⟨σ',H',I',d'⟩:=h1;exact⟨σ',H',back I',d'⟩
 | cont =>
  obtain⟨σ',H',I',d'⟩:=h1;exact⟨σ',H',back I',d'⟩
 | ret u =>
  obtain⟨v,σ',H',I',r,d'⟩:=h1;exact⟨v,σ',H',back I',r,d'⟩
end
def lwTryR {σ:Type}(q:Nat→Bool)(fh:List D→R D):LW Unit→LW σ
 | .nx _ _=>.stuck
 | .rt w d=>.rt w d
 | .er w e=>if q e=true then (match fh [.exc e] with | .ok d=>.rt w d | _=>.stuck) else .stuck
 | .al w f=>.al w fun a=>lwTryR q fh (f a)
 | .stuck=>.stuck
section
variable {X:Cx}{G:Gx}{W:Wd}{S:SS}{σ:Type}{J:σ→SS→Prop}{body:List Stmt}{c n cl yp:Str}{np np2 cp rp apos hpos pos:Pos}{k:Nat}{q:Nat→Bool}{C0:Addr}{fh:List D→R D}
theorem wB (i:Nat){l:LW Unit}(bg:BG X G k)(hcf:FnHd X.prog X.w X.K X.mg X.base G.C k cl [yp] fh)(hgc:Gl X cl)(hst:X.stack=X.env::X.outer)(hfm:X.env.frame=some X.env.locals)(hex:X.ex=[])(hN:X.N.Nodup)(hg:Gl X c)(hm:X.mg c=some (.ref C0))(T:Takes G.K G.C C0 q)
  (hb:∀ pn xe E',BG (tryX X pn xe) { G with E:=E' } k→GL (tryX X pn xe) { G with E:=E' } W S body JU l)
  (hi:X.N[i]?=some n:=by rfl) (hn:X.env.scope.names.lookup n=some .local:=by rfl) (hkn:X.env.kindOf n=some .local:=by rfl)
  (he:starEach [.Name n np2] X.env=(false,eval (.Name n np2) X.env)::starEach [] X.env:=by rfl) (hpl:(backTo apos (starEach [] X.env)).any (·.1)=false:=by rfl) (hdl:(cl==("__debug__":Str))=false:=by decide)
  (hdc:(c==("__debug__":Str))=false:=by decide) (hdn:(n==("__debug__":Str))=false:=by decide) (hcd:(n==("__classdict__":Str))=false:=by decide) :
  GL X G W S [.Try body [.ExceptHandler (some (.Name c np)) (some n) [.Return (some (.Call (.Name cl cp) [.Name n np2] [] apos)) rp] hpos] [] [] pos] J (lwTryR q fh l):=by
 have hK:=bg.K;have ht:=wA (X:=X) (C:=G.C) (q:=q) (np:=np) (np2:=np2) (cp:=cp) (rp:=rp) (apos:=apos) (hpos:=hpos) (pos:=pos) i ⟨by have:=bg.room.dp;omega,by have:=bg.room.un;omega⟩ hcf hgc hst hfm hex hN hg hm (by rw[hK];exact T) (tb:=fun E'=>tGL { G with E:=E' } W S JU l)
  (fun pn xe E' ps=>hb pn xe E' ⟨bg.room,bg.K,bg.calm,ps⟩) hi hn hkn he hpl hdl hdc hdn hcd
 refine(jh ht).weak fun D ρ H ⟨HW,Z,ok,w⟩=>?_
 let E':XK:=fun cls _ H'=>∃ e w' HW' Z' d,cls=.ref (G.C e)∧q e=true∧GX G.HW0 G.Z0 G.H0 HW' Z' H'∧WdOk G.K G.C HW' Z' w'∧fh [.exc e]=.ok d∧WGL G Z' J D (.rt w' d)
 refine⟨E',fun cls x H' ⟨e,w',HW',Z',d,e1,e2,e3,e4,e5,e6⟩=>⟨e,Z',e1,e2,e3.zh,fun ea hn=>?_⟩,HW,Z,⟨ok.gx,ok.wd,ok.nm.rebase ⟨mt,Same.refl _,ok.zh,fun _ q=>.inl q⟩ (fun _ _ _ _ h=>h)⟩,?_⟩
 ·rw[e5];intro H2 Z2 x2 v rv;have x1:Ex H' Z' (upd H' ea (excO G.C e ea)) (upd Z' ea (excO G.C e ea)):=Ex.alloc e3.zh hn;have g1:GX HW' Z' H' HW' (upd Z' ea (excO G.C e ea)) (upd H' ea (excO G.C e ea)):=GX.ex e3.zh e3.wh e3.dj x1;have g2:GX HW' (upd Z' ea (excO G.C e ea)) (upd H' ea (excO G.C e ea)) HW' Z2 H2:=GX.ex g1.zh g1.wh g1.dj x2;have gg:=(e3.trans g1).trans g2;exact e6 v HW' Z2 H2 gg (e4.mono (Same.refl _) (x1.z.trans x2.z)) (by rw[← hK];exact rv)
 have key:∀ {l:LW Unit},WGL G Z J D (lwTryR q fh l)→WGL { G with E:=E' } Z JU D l:=fun {l}=>by
  induction l with
  | nx w s=>exact fun h=>h.elim
  | rt w d=>exact fun h=>h
  | er w e =>
   intro h HW' Z' H' zz gx wd;unfold lwTryR at h;by_cases hq:q e=true
   ·rw[if_pos hq]at h;cases hf:fh [.exc e] with
    | ok d=>rw[hf]at h;exact⟨e,w,HW',Z',d,rfl,hq,gx,wd,hf,WGL.more zz h⟩
    | err k=>rw[hf]at h;exact h.elim
    | stuck=>rw[hf]at h;exact h.elim
   ·rw[if_neg hq]at h;exact h.elim
  | al w f ih=>exact fun h a e=>ih a (h a e)
  | stuck=>exact fun h=>h
 exact key w
end
section
variable {X:Cx}{G:Gx}{W:Wd}{S:SS}{σ:Type}{J:σ→SS→Prop}{e:Expr}{r:RW}{rest:List Stmt}{x:Str}{pos pos' lpos p0 apos cpos:Pos}
theorem qj (i:Nat){S':D→SS}{k:Wd→D→LW σ}(hN:X.N.Nodup)(h:GE X G W S e r)(hS:∀ d,S.set i (some (.own [d]))=S' d)(hk:∀ w d,GL X G w (S' d) rest J (k w d))(hi:X.N[i]?=some x:=by rfl)(hx:Loc X.env.scope x:=by first | exact Or.inl rfl | exact Or.inr rfl)
  (hs:swapsWith (.List [e] lpos) (some (.Name x pos')) pos.line X.env=pure false:=by rfl) (hf:X.fn x=true∨X.env.scope.names.lookup x=some .local:=by first | exact .inl rfl | exact .inr rfl)
  (he:starEach [e] X.env=(false,eval e X.env)::starEach [] X.env:=by rfl):GL X G W S (.Assign [.Name x pos'] (.List [e] lpos) pos::rest) J (lwB r k) :=
 (bc (jt hN hi hx (n3 (cu h gw he)) hs hf) (bS fun w=>bS fun d=>hk w d)).weak fun D ρ H ⟨HW,Z,ok,w⟩ =>
  ⟨HW,Z,ok,WRW.gl (J:=J) (D:=D) (k:=k) ok (fun w1 d HW1 Z1 H1 v ok1 z1 rd wl=>⟨by show 1≤sizeLine;decide,fun p hp=>⟨w1,d,HW1,Z1,hS d ▸ ok1.after (ok1.nm.newOwn hp (Reps.cons rd Reps.nil)),wl⟩⟩) w⟩
theorem bZ (i:Nat){ds:List D}{S':List D→SS}{k:Wd→List D→LW σ}(h0:S[i]?=some (some (.own ds)))(h:GE X G W S e r)(hS:∀ xs,S.set i (some (.own xs))=S' xs)(hk:∀ w xs,GL X G w (S' xs) rest J (k w xs))
  (hi:X.N[i]?=some x:=by rfl) (hv:Vis X.env.scope x:=by first | exact Or.inl rfl | exact Or.inr (Or.inl rfl) | exact Or.inr (Or.inr rfl)) (hd:(x==("__debug__":Str))=false:=by decide)
  (hcd:(x==("__classdict__":Str))=false:=by decide)
  (hbase:attributeBase (.Name x p0) "append" X.env (eval (.Name x p0) X.env)=eval (.Name x p0) X.env:=by rfl)
  (hfew:((backTo cpos (starEach [e] X.env)).all (fun x=>!x.1)&&(backToKw cpos (keywordEach [] X.env)).all (fun x=>x.1.isSome)
   && decide ([e].length+([]:List Keyword).length+(if ([]:List Keyword).isEmpty then 0 else 1) < 30))=true:=by rfl)
  (hline:(apos.endLine==cpos.line)=true:=by rfl) (hs:starEach [e] X.env=(false,eval e X.env)::starEach [] X.env:=by rfl) (hplain:(backTo cpos (starEach [] X.env)).any (·.1)=false:=by rfl)
  (hsw:swapsWith (.Call (.Attribute (.Name x p0) "append" apos) [e] [] cpos) none pos.line X.env=pure false:=by rfl) :
  GL X G W S (.Expr (.Call (.Attribute (.Name x p0) "append" apos) [e] [] cpos) pos::rest) J (lwB r fun w d=>lwR w (oApp ds d) fun xs=>k w xs) :=
 (bc (gJ (lw PySem.F.plainAttrs_list PySem.F.slot_list_append (by kernel_rfl) (ly (X:=X)) (fe hi hv hd hcd) (cu h gw hs) hbase hfew hline hs hplain) hsw) (bS fun w=>bS fun xs=>hk w xs)).weak fun D ρ H ⟨HW,Z,ok,w⟩=>by
  obtain⟨a,vs,e1,e2,_⟩:=ok.nm.own i ds h0;refine⟨.ref a,e1,.inl ⟨rfl,vs,SqL.of e2⟩,HW,Z,ok,WRW.gl (J:=J) (D:=D) (k:=fun w d=>lwR w (oApp ds d) fun xs=>k w xs) ok (fun w1 d HW1 Z1 H1 v ok1 z1 rd wl=>?_) w⟩;obtain⟨a1,vs1,e1',e2',_,_,r1⟩:=ok1.nm.own i ds h0;rw[e1]at e1';cases e1';unfold oApp at wl;by_cases hl:ds.length < 16777216
  ·rw[if_pos hl]at wl;exact⟨a,vs1,v,rfl,rfl,e2',by rw[← r1.length,sizeLine_eq];exact hl,w1,_,HW1,Z1,hS _ ▸ ok1.after (ok1.nm.write h0 e1 (r1.append (Reps.cons rd Reps.nil))),wl⟩
  ·rw[if_neg hl]at wl;exact wl.elim
end
structure LamK (K:Frag)(C:Nat→Addr)(i:Nat):Prop where
 lt:i < C 900
 inj:∀ j,j < C 900→C (901+2*j)=C (901+2*i)→j=i
 cd:∃ c oc od fd sl,K.lookup (C (902+2*i))=some ⟨oc,od,.func fd,sl⟩∧fd.code=.ref c∧CodeK K c (C (901+2*i))
def OkGL (P:Program)(w:World)(K:Frag)(mg:Str→Option Value)(base:Heap)(C:Nat→Addr)(k i:Nat)(x:Str)(st:Stmt)(ps:List Str)(fn:Wd→List D→RW):Prop :=
 ∀ {f:Addr} {fd:FuncData},Fun K x x st f fd→f=C (902+2*i)→LamK K C i→BMn mg base→FnOk P w K mg base (CXE P w) (k+1) f fd ps (spG K C ps.length fn)
def OkGBL (P:Program)(w:World)(K:Frag)(mg:Str→Option Value)(base:Heap)(C:Nat→Addr)(k i:Nat)(N:List Str)(x:Str)(st:Stmt)(W:Wd)(ds:List D)(l:LW Unit):Prop :=
 ∀ (f:Addr) (cdv:Value) (A:Around) (outer:List Env) (s:Shared) (HW Z H:Hp) (E:XK),BG (bodyX P w K mg base N x (defScope st) f cdv A outer s H E) ⟨K,C,HW,Z,H,E⟩ k →
  PassesOwn (model P w) (bodyX P w K mg base N x (defScope st) f cdv A outer s H E).A (bodyX P w K mg base N x (defScope st) f cdv A outer s H E).env (bodyX P w K mg base N x (defScope st) f cdv A outer s H E).xe →
  MadeG (bodyX P w K mg base N x (defScope st) f cdv A outer s H E) ⟨K,C,HW,Z,H,E⟩→LamX (bodyX P w K mg base N x (defScope st) f cdv A outer s H E) K C i →
  GL (bodyX P w K mg base N x (defScope st) f cdv A outer s H E) ⟨K,C,HW,Z,H,E⟩ W (startS N.length ds) (defBody st) JU l
section
variable {P:Program}{w:World}{K:Frag}{mg:Str→Option Value}{base:Heap}{C:Nat→Addr}{k i:Nat}{N ps:List Str}{x:Str}{st:Stmt}{fn:Wd→List D→RW}
theorem okgl (S:FnScope N ps (defScope st))(h:∀ W ds,ds.length=ps.length→∃ l,fn W ds=outW l∧OkGBL P w K mg base C k i N x st W ds l):OkGL P w K mg base C k i x st ps fn:=fun {f fd} F hf lk bm=>by
 obtain⟨oc,od,kV,doc,pm,an,cdv,ct,osl,rfl,lo,hcd⟩:=F.ex;obtain⟨c,oc',od',fd',sl',l1,l2,l3⟩:=lk.cd;rw[← hf,lo]at l1;cases l1;have l2:cdv=.ref c:=l2;refine lr lo hcd S (fun vs H Q E q=>q.1) fun A outer s H vs Q E hr hsp=>?_
 obtain⟨hl,W,HW,Z,ds,zh,wh,dj,wd,r,wr⟩:=hsp;obtain⟨l,e,o⟩:=h W ds (by rw[r.length];exact hl);rw[e]at wr;have lx:LamX (bodyX P w K mg base N x (defScope st) f cdv A outer s H E) K C i:=⟨lk.lt,by rw[← hf];unfold qOf;rw[lo];rfl,⟨c,l2,l3⟩,bm,lk.inj⟩;exact⟨_,o _ cdv A outer s HW Z H E ⟨hr,rfl,rfl,bQ⟩ PassesOwn.leaving (fun F' e' pins σ H1 s1 h1 ea C1 args I hx hE=>dL I hx (by rw[e']at hE;exact hE)) lx,HW,Z,GOk.start (N:=N) zh wh dj wd r,WGL.start (G:=⟨K,C,HW,Z,H,E⟩) wr⟩
theorem okgl1 {p:Str}{c:Wd→D→LW Unit}(S:FnScope N [p] (defScope st))(h:∀ W a,OkGBL P w K mg base C k i N x st W [a] (c W a)):OkGL P w K mg base C k i x st [p] (b1 c):=okgl S fun W ds hl=>by obtain⟨a,rfl⟩:=len1 hl;exact⟨c W a,rfl,h W a⟩
end
theorem _root_.L2.RoomH.mono {j k:Nat}{A:Around}(r:RoomH k A)(h:j≤k):RoomH j A:=⟨by have:=r.dp;omega,by have:=r.un;omega⟩
theorem FnHd.mono {P:Program}{w:World}{K:Frag}{mg:Str→Option Value}{base:Heap}{C:Nat→Addr}{j k:Nat}{x:Str}{ps:List Str}{f:List D→R D}(h:FnHd P w K mg base C j x ps f)(hj:j≤k):FnHd P w K mg base C k x ps f:=by
 obtain⟨a,fd,h1,h2⟩:=h.ex;exact⟨a,fd,fun A outer s H args us vs Q hr=>h1 A outer s H args us vs Q (hr.mono hj),h2⟩
def codeKB (K:Frag)(c P:Addr):Bool:=match K.lookup c with
 | some ⟨.type n,_,.fields vs,_⟩=>(n == "code")&&(match (vs[11]?:Option Value),vs.getD 18 .none,vs.getD 7 .none,vs.getD 9 .none,vs.getD 10 .none with
  | some (.ref P'),.str _ _,.int _ _,.bool _,.int _ _=>(P'==P) && !(c==P)
  | _,_,_,_,_=>false)
 | _=>false
theorem uz {K:Frag}{c P:Addr}(h:codeKB K c P=true):CodeK K c P:=by
 unfold codeKB at h;split at h
 ·rename_i n d vs sl e;rw[Bool.and_eq_true]at h;obtain⟨h1,h2⟩:=h;have hn:n="code" := eq_of_beq h1;subst hn;split at h2
  ·rename_i P' f tf fl tg b tx tt e1 e2 e3 e4 e5;rw[Bool.and_eq_true]at h2;have hP:P'=P:=eq_of_beq h2.1;subst hP;have hc:c≠P':=fun z=>by rw[z]at h2;simp at h2
   refine⟨_,vs,f,tf,fl,tg,b,tx,tt,e,rfl,rfl,e1,?_,e2,e3,e4,e5,hc⟩;rw[Array.getD_eq_getD_getElem?,e1];rfl
  ·cases h2
 ·cases h
end FF
namespace L2
open PySem PySem.Spec PyProof.Rows
def OnlyT (tabs:List (Addr×Addr))(H:Hp):Prop:=(∀ b,H b=none∨(∃ o xs,H b=some (.frz o (.lst xs)))∨(b∈tabs.map (·.2)∧H b=some (.tbl #[])))∧∀ q∈tabs,H q.2=some (.tbl #[])
theorem rH {P:Program}{w:World}{K:Frag}{mg mb:Str→Option Value}{CX:CXT}{k:Nat}{fa a:Addr}{fd:FuncData}{x:Str}{sp:Sp}{s₁:Shared}{vs:List Value}{ns:List Int}{tabs:List (Addr×Addr)}
  (hT:TabsAt tabs s₁.heap) (hKT:∀ q∈tabs,K.lookup q.2=none) (bmn:FF.BMn mg s₁.heap)
  (KX:K.In s₁.heap) (hns:s₁.heap.Ns mainGlobals mg) (hb:s₁.heap.Ns builtinsNs mb) (hbb:∀ x:Str,x ≠ "__name__" → mb x=bootBuiltins x) (hlim:s₁.heap.NoLimit) (hg:s₁.gens = #[])
  (ha:s₁.heap.get? a=some { cls:=.type "list",data:=.seq vs.toArray }) (hi:IntsAre vs ns) (hl:ns.length≤sizeLine) (hr:Room k callerA)
  (F:∀ base:Heap,K.In base→base.Ns mainGlobals mg→FF.BMn mg base→FnOk P w K mg base CX k fa fd [x] sp) (hbind:∀ (s:Shared) (u:Value),BindsTo s fd ⟨[u],[]⟩ [(x,u)])
  (hsp:∀ H:Hp,OnlyT tabs H→SqL K H a (ns.map V.int)→sp [.ref a] H (fun v _=>v=.bl true) fun _ _ _=>False)
  (hCX:∀ H e s',CX [] H s₁ (fun _ _ _=>False) e s'→False) :
  codeAny (model P w) callerA (.call (.ref fa) ⟨[.ref a],[]⟩) (fun r s'=>r=.ok (.ret (.bool true))∧OldK s₁.heap s'.heap∧s'.os=s₁.os∧AllBare s'.gens) s₁:=by
 have rv:=lz hi;have lenV:=hi.length;have core:∀ H:Hp,OnlyT tabs H→SqL K H a (ns.map V.int)→HOk P w H s₁.heap→(∀ b,H b≠none→b=a∨b∈tabs.map (·.2))→(H a≠none→K.lookup a=none) →
   codeAny (model P w) callerA (.call (.ref fa) ⟨[.ref a],[]⟩) (fun r s'=>r=.ok (.ret (.bool true))∧OldK s₁.heap s'.heap∧s'.os=s₁.os∧AllBare s'.gens) s₁:=by
  intro H hO hS hok hA hK;have base_of:∀ {b:Addr} {o:Obj},s₁.heap.get? b=some o→H b=none→(hidT s₁.heap H).get? b=some o:=fun e n=>so e n
  have tabO:∀ b∈tabs.map (·.2),s₁.heap.get? b=some (tabObj #[]):=fun b hb'=>by
   obtain⟨q,hq,rfl⟩:=List.mem_map.mp hb';exact(hT q hq).2
  have noD:∀ {b:Addr} {o:Obj},s₁.heap.get? b=some o→(∀ ys n,o.data≠.seq ys n)→(∀ ys,o.data≠.fields ys)→H b=none:=fun {b o} e d1 d2=>by
   cases q:H b with
   | none=>rfl
   | some u =>
    rcases hA b (by rw[q];simp) with e' | e'
    ·subst e';rw[ha]at e;cases e;exact absurd rfl (d1 _ _)
    ·rw[tabO b e']at e;cases e;exact absurd rfl (d2 _)
  have noA:∀ {b:Addr} {o:Obj} {es:Array DictEntry} {ep:Nat},s₁.heap.get? b=some o→o.data=.dict es ep→H b=none:=fun {b o es ep} e d=>noD e (fun _ _ z=>by rw[d]at z;cases z) (fun _ z=>by rw[d]at z;cases z)
  have nsK:∀ {b:Addr} {m:Str→Option Value},s₁.heap.Ns b m→(hidT s₁.heap H).Ns b m:=fun {b m} ⟨o,es,ep,e,d,r⟩=>⟨o,es,ep,base_of e (noA e d),d,r⟩
  have hKb:K.In (hidT s₁.heap H):=fun b o e=>base_of (KX b o e) (by
   cases q:H b with
   | none=>rfl
   | some u =>
    rcases hA b (by rw[q];simp) with e' | e'
    ·subst e';rw[hK (by rw[q];simp)]at e;cases e
    ·obtain⟨q',hq',rfl⟩:=List.mem_map.mp e';rw[hKT q' hq']at e;cases e)
  have hM:Mod K mg (hidT s₁.heap H):=⟨hKb,nsK hns,⟨mb,nsK hb,hbb⟩,let ⟨mc,h1,h2⟩:=hlim;⟨mc,nsK h1,h2⟩⟩;have hbm:FF.BMn mg (hidT s₁.heap H):=by
   obtain⟨bm,ob,b1,b2,b3,b4,b5,b6⟩:=bmn;exact⟨bm,ob,b1,b2,base_of b3 (noD b3 (fun _ _ z=>by rw[b6]at z;cases z) (fun _ z=>by rw[b6]at z;cases z)),b4,b5,b6⟩
  have e0:Env0 P w K mg (hidT s₁.heap H) callerA [] s₁ H:=⟨rfl,hM,fun b o e=>vc e,Nat.le_of_eq (qC _ _),trivial,fun b hb=>absurd (show b∈([]:List Addr) from hb) (by simp),hok,.of_eq hg⟩;refine codeAny_mono ((F _ hKb (nsK hns) hbm).run callerA [] s₁ H ⟨[.ref a],[]⟩ [.ref a] [.ref a] _ _ hr.w e0 (hbind s₁ (.ref a)) (.cons rfl .nil) (hsp H hO hS)) fun r s' h=>?_
  cases r with
  | error e=>exact(hCX H e s' h).elim
  | ok fl =>
   cases fl with
   | next=>exact False.elim h
   | brk=>exact False.elim h
   | cont=>exact False.elim h
   | ret u =>
    obtain⟨v,H',os,bare,un,hok',r',q⟩:=h;have q':v=.bl true:=q;subst q';obtain rfl:u=Value.bool true:=r';have both:∀ b o,s₁.heap.get? b=some o→s'.heap.get? b=some o∨(isCodeTable s₁.heap b∧o=tabObj #[]∧∃ ps,s'.heap.get? b=some (tabObj ps)):=fun b o e=>by
     cases q:H b with
     | none=>exact .inl (un.keep b o e q (by intro z;exact absurd (show b∈([]:List Addr) from z) (by simp)) (by simp))
     | some u =>
      rcases hO.1 b with z | ⟨ob,xs,z⟩ | ⟨hm,z⟩
      ·rw[q]at z;cases z
      ·have z2:=un.frzs b ob _ z;obtain⟨e1,_⟩:=hok b _ z;obtain⟨e2,_⟩:=hok' b _ z2;rw[e]at e1;cases e1;exact .inl e2
      ·obtain⟨more,z2⟩:=un.tbls b _ z;have e2:s'.heap.get? b=some (tabObj (#[]++more)):=hok' b _ z2;obtain⟨qq,hq,rfl⟩:=List.mem_map.mp hm;have e3:=(hT qq hq).2;rw[e]at e3;exact .inr ⟨((hT qq hq).1.tab (hT qq hq).2).isCodeTable,Option.some.inj e3,_,e2⟩
    refine⟨rfl,⟨fun b o e=>?_,fun b o e=>?_⟩,os,bare⟩
    ·rcases both b o e with z | ⟨z1,rfl,ps,z2⟩
     ·exact .inl z
     ·exact .inr (.inl ⟨z1,rfl,#[],ps,rfl,by rw[Array.empty_append];exact z2⟩)
    ·rcases both b o e with z | ⟨z1,rfl,ps,z2⟩
     ·exact⟨_,z⟩
     ·exact⟨_,z2⟩
 have nta:a∉tabs.map (·.2):=fun z=>by
  obtain⟨q,hq,e⟩:=List.mem_map.mp z;have:=(hT q hq).2;rw[e,ha]at this;cases this
 have tobj:∀ b∈tabs.map (·.2),s₁.heap.get? b=some { cls:=.none,data:=.fields #[] }:=fun b hb'=>by
  obtain⟨q,hq,rfl⟩:=List.mem_map.mp hb';exact(hT q hq).2
 cases hk:K.lookup a with
 | some o =>
  have e:=KX a o hk;rw[ha]at e;cases e;refine core (fun b=>if b∈tabs.map (·.2) then some (.tbl #[]) else none) ⟨fun b=>?_,fun q hq=>if_pos (List.mem_map_of_mem hq)⟩ (.inr ⟨_,vs.toArray,_,hk,rfl,rfl,rfl,by rw[List.size_toArray,lenV];exact hl,by simpa using rv⟩) (fun b u z=>?_) (fun b z=>?_) fun z=>absurd (if_neg nta) z
  ·by_cases hb:b∈tabs.map (·.2)
   ·exact .inr (.inr ⟨hb,if_pos hb⟩)
   ·exact .inl (if_neg hb)
  ·by_cases hb:b∈tabs.map (·.2)
   ·have z':=(if_pos hb).symm.trans z;cases z';exact tobj b hb
   ·have z':=(if_neg hb).symm.trans z;cases z'
  ·by_cases hb:b∈tabs.map (·.2)
   ·exact .inr hb
   ·exact absurd (if_neg hb) z
 | none =>
  refine core (fun b=>if b=a then some (.frz { cls:=.type "list",data:=.seq vs.toArray } (.lst (ns.map V.int))) else if b∈tabs.map (·.2) then some (.tbl #[]) else none) ⟨fun b=>?_,fun q hq=>?_⟩ (.inl (.inr ⟨{ cls:=.type "list",data:=.seq vs.toArray },if_pos rfl⟩)) (fun b u z=>?_) (fun b z=>?_) fun _=>hk
  ·by_cases hb:b=a
   ·exact .inr (.inl ⟨_,_,if_pos hb⟩)
   ·by_cases hb2:b∈tabs.map (·.2)
    ·exact .inr (.inr ⟨hb2,(if_neg hb).trans (if_pos hb2)⟩)
    ·exact .inl ((if_neg hb).trans (if_neg hb2))
  ·have hm:=List.mem_map_of_mem (f:=(·.2)) hq;exact(if_neg fun (z:q.2=a)=>nta (by rw[← z];exact hm)).trans (if_pos hm)
  ·by_cases hb:b=a
   ·have z':=(if_pos hb).symm.trans z;cases z';subst hb;exact⟨ha,by rw[List.length_map];exact hl,vs,_,rv,ha⟩
   ·have z1:=(if_neg hb).symm.trans z;by_cases hb2:b∈tabs.map (·.2)
    ·have z':=(if_pos hb2).symm.trans z1;cases z';exact tobj b hb2
    ·have z':=(if_neg hb2).symm.trans z1;cases z'
  ·by_cases hb:b=a
   ·exact .inl hb
   ·by_cases hb2:b∈tabs.map (·.2)
    ·exact .inr hb2
    ·exact absurd ((if_neg hb).trans (if_neg hb2)) z
theorem uA {l:OpenLaw}{n k:Nat}{q:Program}{loose:List Str}{XP:(Str→Option Value)→Heap→Prop}{YP:World→Heap→Prop}{d:DefRec}{K:Params→Frag}{CX:World→CXT}{sp:World→Sp}{x:Str}{tabs:World→List (Addr×Addr)}
  (hT:∀ (w:World) (loose:List Str) (mean:ExcName→Option Value) (mg mb:Str→Option Value) (h:Heap),Top q loose mean mg mb h→(K w.params).In h→TabsAt (tabs w) h) (hKT:∀ (w:World),∀ q∈tabs w,(K w.params).lookup q.2=none)
  (hn:l.most=some n) (hn2:n≤sizeLine) (hdf:d.params.defaults=[]) (hr:Room k callerA)
  (hY:∀ (w:World) (h:Heap),YP w h→(K w.params).In h)
  (F:∀ (w:World) (mg:Str→Option Value) (fa:Addr) (h:Heap),(K w.params).In h→h.Ns mainGlobals mg→mg d.name=some (.ref fa) →
   ∃ fd:FuncData,(∀ (s:Shared) (u:Value),BindsTo s fd ⟨[u],[]⟩ [(x,u)]) ∧
    ∀ base:Heap,(K w.params).In base→base.Ns mainGlobals mg→FF.BMn mg base→FnOk l.prog w (K w.params) mg base (CX w) k fa fd [x] (sp w))
  (hsp:∀ (w:World) (H:Hp) (a:Addr) (ns:List Int),ns.length≤n→OnlyT (tabs w) H→SqL (K w.params) H a (ns.map V.int)→sp w [.ref a] H (fun v _=>v=.bl true) fun _ _ _=>False)
  (hCX:∀ (w:World) (H:Hp) (s:Shared) (e:Value) (s':Shared),CX w [] H s (fun _ _ _=>False) e s'→False) :
  PySem.W.WalkO q loose XP YP l.row.toRowW d [] (fun f vs=>PySem.call f vs):=by
 refine Att.attach_call hn hdf fun w s₀ s₁ mg mb fa o pm cd doc a vs ns G Y ho hd hcd hmg hobj hints hlen hg=>?_
 have KX:=hY w _ Y;obtain⟨fd,hb,hF⟩:=F w mg fa _ KX G.T.g hmg;exact rH (hT w _ _ mg mb _ G.T KX) (hKT w) G.T.bmain KX G.T.g G.T.b G.T.builtins G.T.nolimit hg hobj hints (Nat.le_trans hlen hn2) hr hF hb (fun H hO hS=>hsp w H a ns hlen hO hS) fun H e s'=>hCX w H s₁ e s'
end L2
end
noncomputable section
namespace FF
open PySem PySem.Spec PyProof.Rows L2
def tabOf (K:Frag)(x:Str):Addr×Addr:=(tabIn K x).getD (0,0)
def tabOkB (K:Frag)(x:Str):Bool:=match tabIn K x with
 | some (c,P)=>codeKB K c P&&(K.lookup P).isNone
 | none=>false
theorem jR {K:Frag}{x:Str}(h:tabOkB K x=true):tabIn K x=some (tabOf K x)∧CodeK K (tabOf K x).1 (tabOf K x).2∧K.lookup (tabOf K x).2=none:=by
 unfold tabOkB at h;unfold tabOf;cases q:tabIn K x with
 | none=>rw[q]at h;cases h
 | some p =>
  rw[q]at h;have h:(codeKB K p.1 p.2&&(K.lookup p.2).isNone)=true:=h;rw[Bool.and_eq_true]at h;exact⟨rfl,uz h.1,Option.isNone_iff_eq_none.mp h.2⟩
theorem yR {K:Frag}{x:Str}{c P f:Addr}(h:tabIn K x=some (c,P))(hf:nsIn K mainGlobals x=some (some (.ref f))):∃ oc od fd sl,K.lookup f=some ⟨oc,od,.func fd,sl⟩∧fd.code=.ref c:=by
 unfold tabIn at h;rw[hf]at h;simp only at h;split at h
 ·rename_i oc od fd sl hl;split at h
  ·rename_i c2 hc;split at h
   ·split at h
    ·cases h;exact⟨oc,od,fd,sl,hl,hc⟩
    ·cases h
   ·cases h
  ·cases h
 ·cases h
theorem wC {q:Program}{loose:List Str}{mean:ExcName→Option Value}{mg mb:Str→Option Value}{h:Heap}{K:Frag}{xs:List Str}(hB:∀ x∈xs,tabOkB K x=true)(hR:∀ x∈xs,((recsOf q).find? (fun e=>e.name==x)).isSome=true)
  (T:Top q loose mean mg mb h) (X:K.In h):TabsAt (xs.map (tabOf K)) h:=fun p hp=>by
 obtain⟨x,hx,rfl⟩:=List.mem_map.mp hp;obtain⟨d,hd⟩:=Option.isSome_iff_exists.mp (hR x hx);exact PySem.W.tab_of (c:=(tabOf K x).1) (P:=(tabOf K x).2) T X hd (jR (hB x hx)).1
theorem uB {K:Frag}{C:Nat→Addr}{x:Str}{f:Addr}(h0:C 900=1)(h1:C 901=(tabOf K x).2)(h2:C 902=f)(hB:tabOkB K x=true)(hf:nsIn K mainGlobals x=some (some (.ref f))):LamK K C 0:=by
 obtain⟨a,b,_⟩:=jR hB;obtain⟨oc,od,fd,sl,l1,l2⟩:=yR (c:=(tabOf K x).1) (P:=(tabOf K x).2) a hf;exact⟨by rw[h0];exact Nat.one_pos,fun j hj _=>by rw[h0]at hj;exact Nat.lt_one_iff.mp hj,_,oc,od,fd,sl,by rw[show 902+2*0=902 from rfl,h2];exact l1,l2,by rw[show 901+2*0=901 from rfl,h1];exact b⟩
theorem rJ {K:Frag}{C:Nat→Addr}{HW:Hp}(h:∀ i,i < C 900→HW (C (901+2*i))=some (.tbl #[])):Tbs K C HW:=fun i hi=>⟨#[],h i hi,trivial,fun pos cv q=>by simp[codeAmong]at q⟩
theorem uC {K:Frag}{C:Nat→Addr}{H:Hp}{a:Addr}{ns:List Int}{tabs:List (Addr×Addr)}{f:Wd→List D→RW}(hO:OnlyT tabs H)(hS:SqL K H a (ns.map V.int))(hC:∀ i,i < C 900→C (901+2*i)∈tabs.map (·.2))
  (hw:∀ HW Z,WRW K C (fun _ _ _=>False) HW Z H (fun _ d _ Z' H'=>∀ v,Rep K C Z' d v→v=.bl true) (f (fun _=>none) [.lst (ns.map .int)])) :
  spG K C 1 f [.ref a] H (fun v _=>v=.bl true) fun _ _ _=>False:=by
 refine⟨rfl,fun _=>none,fun b=>match H b with | some (.tbl ps)=>some (.tbl ps) | _=>none,fun b=>match H b with | some (.frz o u)=>some (.frz o u) | _=>none,[.lst (ns.map .int)],fun b o e=>?_,fun b o e=>?_,fun b h=>?_,⟨fun _ _ e=>(nomatch e),rJ fun i hi=>?_⟩,?_,hw _ _⟩
 ·simp only at e;split at e
  ·rename_i h;rw[h];exact e
  ·cases e
 ·simp only at e;split at e
  ·rename_i h;rw[h];exact e
  ·cases e
 ·simp only at h ⊢;split at h
  ·rename_i q;rw[q]
  ·exact absurd rfl h
 ·obtain⟨q,hq,e⟩:=List.mem_map.mp (hC i hi);have z:=hO.2 q hq;rw[e]at z;simp only[z]
 ·rw[Reps];refine⟨_,_,rfl,?_,Reps.nil⟩;rw[Rep];refine⟨a,_,rfl,?_,p6 ns⟩;rcases hS with (z | ⟨o,z⟩) | z
  ·rcases hO.1 a with q | ⟨o,xs,q⟩ | ⟨_,q⟩<;>(rw[z]at q;cases q)
  ·exact .inl (.inr ⟨o,by simp only[z]⟩)
  ·exact .inr z
theorem cj {X:Cx}{G:Gx}{W:Wd}{S:SS}{e:Expr}{r0 r:RW}(h:GE X G W S e r0)(hr:r0=r):GE X G W S e r:=hr ▸ h
end FF
namespace FF
open PySem PySem.Spec PyProof.Rows L2
def isStar:Expr→Bool
 | .Starred ..=>true
 | _=>false
theorem ae {e:Expr}{es:List Expr}{env:Env}(h:isStar e=false):starEach (e::es) env=(false,eval e env)::starEach es env:=by
 cases e<;>first | rfl | cases h
def dDx (d k:D):R D:=match d with
 | .dic ks xs=>match keyOf k with
  | some k=>match dicGet (ks.zip xs) k with
   | some d=>.ok d
   | none=>.stuck
  | none=>.stuck
 | _=>.stuck
section
variable {X:Cx}{F:Fx}{o e:Expr}{go g:SS→R D}{pos:Pos}{k:Nat}
theorem jo {Z:Hp}{ks:List Key}{xs:List D}{v:V}(h:Rep F.K F.C Z (.dic ks xs) v):∃ a kvs,v=.ref a∧Z a=some (.dK kvs)∧Pairs F Z (ks.zip xs) kvs:=by
 rw[Rep]at h;obtain⟨a,kvs,h1,h2,h3,h4⟩:=h;have l1:ks.length=kvs.length:=by rw[← h3,List.length_map]
 have l2:xs.length=kvs.length:=by have:=h4.length;rw[List.length_map]at this;exact this
 refine⟨a,kvs,h1,h2,?_,?_⟩
 ·rw[List.map_fst_zip (by omega)];exact h3
 ·rw[List.map_snd_zip (by omega)];exact h4
theorem wD (bx:BX X F k)(ho:FE X F o go)(he:FE X F e g)(hs:NoSl e:=by intro _ _;rfl):FE X F (.Subscript o e pos) (eOp dDx go g) :=
 (p7 (by have:=bx.room.un;omega) ho he hs).weak fun σ H Q ⟨Z,S,ok,w⟩=>by
  refine av ok w fun d x H1 Z1 ok1 x1 rx w1=>av ok1 w1 fun dk y H2 Z2 ok2 x2 ry w2=>?_
  cases d with
  | dic ks xs =>
   obtain⟨a,kvs,rfl,ez,r⟩:=jo rx;unfold dDx at w2;simp only at w2;cases ek:keyOf dk with
   | none=>rw[ek]at w2;exact w2.elim
   | some kk =>
    rw[ek]at w2;simp only at w2;cases ed:dicGet (ks.zip xs) kk with
    | none=>rw[ed]at w2;exact w2.elim
    | some d' =>
     rw[ed]at w2;obtain⟨v,f1,f2⟩:=(r.mono x2.z).get ed;rw[cE ek ry];refine⟨a,v,rfl,?_,WG.now w2 ok2.sub v f2⟩;rw[← f1];exact DGet.k (ok2.sub _ _ (x2.z _ _ ez))
  | _=>exact w2.elim
def dDin (x d:D):R D:=match d with
 | .dic ks xs=>match keyOf x with
  | some k=>.ok (.bl (dicGet (ks.zip xs) k).isSome)
  | none=>.stuck
 | _=>.stuck
def dDnin (x d:D):R D:=match d with
 | .dic ks xs=>match keyOf x with
  | some k=>.ok (.bl (!(dicGet (ks.zip xs) k).isSome))
  | none=>.stuck
 | _=>.stuck
theorem Pairs.some {κ:Type}[DecidableEq κ]{Z:Hp}{k:κ}:∀ {m:List (κ×D)} {kvs:List (κ×V)},Pairs F Z m kvs→(valV kvs k).isSome=(dicGet m k).isSome
 | [],kvs,h=>by rw[h.inv0];rfl
 | (k',d')::m,kvs,h=>by
  obtain⟨v,q,rfl,h1,h2⟩:=h.inv;have ih:=Pairs.some (k:=k) h2;unfold valV dicGet at ih ⊢;rw[List.find?_cons,List.find?_cons];by_cases c:k'=k
  ·simp[c]
  ·simpa [c] using ih
theorem wF (bx:BX X F k)(ho:FE X F o go)(he:FE X F e g):∀ σ H Q,tE F (eOp dDin g go) σ H Q→tDIn (tE F g) (tE F go) σ H Q:=fun σ H Q ⟨Z,S,ok,w⟩=>by
 refine av ok w fun dk y H1 Z1 ok1 x1 ry w1=>av ok1 w1 fun d x H2 Z2 ok2 x2 rx w2=>?_
 cases d with
 | dic ks xs =>
  obtain⟨a,kvs,rfl,ez,r⟩:=jo rx;unfold dDin at w2;simp only at w2;cases ek:keyOf dk with
  | none=>rw[ek]at w2;exact w2.elim
  | some kk =>
   rw[ek]at w2;rw[cE ek ry];refine⟨a,valV kvs kk,rfl,DGet.k (ok2.sub _ _ ez),?_⟩;rw[r.some];exact WG.now w2 ok2.sub _ aU
 | _=>exact w2.elim
theorem uD (bx:BX X F k)(ho:FE X F o go)(he:FE X F e g):∀ σ H Q,tE F (eOp dDnin g go) σ H Q→tDNotIn (tE F g) (tE F go) σ H Q:=fun σ H Q ⟨Z,S,ok,w⟩=>by
 refine av ok w fun dk y H1 Z1 ok1 x1 ry w1=>av ok1 w1 fun d x H2 Z2 ok2 x2 rx w2=>?_
 cases d with
 | dic ks xs =>
  obtain⟨a,kvs,rfl,ez,r⟩:=jo rx;unfold dDnin at w2;simp only at w2;cases ek:keyOf dk with
  | none=>rw[ek]at w2;exact w2.elim
  | some kk =>
   rw[ek]at w2;rw[cE ek ry];refine⟨a,valV kvs kk,rfl,DGet.k (ok2.sub _ _ ez),?_⟩;rw[r.some];exact WG.now w2 ok2.sub _ aU
 | _=>exact w2.elim
theorem wG (bx:BX X F k)(he:FE X F e g)(ho:FE X F o go)(hm:behindInMarks .In o=false:=by rfl):FE X F (.Compare e [.In] [o] pos) (eOp dDin g go):=(xO (yG (by have:=bx.room.un;omega) he ho) hm).weak (wF bx ho he)
theorem uE (bx:BX X F k)(he:FE X F e g)(ho:FE X F o go)(hm:behindInMarks .NotIn o=false:=by rfl):FT X F (.Compare e [.NotIn] [o] pos) (gB (eOp dDnin g go)):=(xP (rB (by have:=bx.room.un;omega) he ho) hm).weak (pK (uD bx ho he))
end
def dicD (m:List (Key×D)):D:=.dic (m.map (·.1)) (m.map (·.2))
section
variable {X:Cx}{F:Fx}{S:SS}{σ:Type}{J:σ→SS→Prop}
theorem StOk.freezeD {H Z:Hp}{ρ:St}(h:StOk F H Z S ρ){i:Nat}{m:List (Key×D)}(e:S[i]?=some (some (.dic m))):∃ Z',Same Z Z'∧StOk F H Z' (S.set i (some (.val (dicD m)))) ρ:=by
 obtain⟨v,A,e1,ow,p⟩:=h.sl i _ e;obtain⟨a,kvs,rfl,rfl,e2,r⟩:=id ow;have zn:Z a=none:=p.z a (.head _);have hz:Same Z (upd Z a (.dK kvs)):=aC zn;refine⟨upd Z a (.dK kvs),hz,h.frzAll (x:=.dic m) (A:=[a]) e e1 ow hz (fun b o q=>?_) (fun b q=>?_) (by rw[dicD,Rep];exact⟨a,kvs,rfl,ai,r.1,r.2.mono hz⟩)⟩
 ·by_cases z:b=a
  ·subst z;rw[ai]at q;cases q;exact e2
  ·rw[ag z]at q;exact h.sub b o q
 ·by_cases z:b=a
  ·subst z;exact .inr (.head _)
  ·rw[ag z]at q;exact .inl q
end
def Itx (x:Str):It where
 go:=fun i _=>i < x.cps.size
 yld:=fun i H v H'=>H'=H∧∃ c,x.cps[i]?=some c∧v=.str ⟨#[c]⟩
 stop:=fun i _=>x.cps.size≤i
theorem oO {P:Program}{w:World}{K:Frag}{tg:Expr}(x:Str)(t:Tok)(it:Addr):Turn P w K tg (Itx x) [it] it (fun i h=>h.IsStrIter it "str_ascii_iterator" x t i) where
 mem:=by simp
 obj:=fun i h st b hb=>by
  have e:b=it:=by simpa using hb
  subst e;obtain⟨o,ho,_,hd⟩:=st;exact⟨o,ho,fun v z=>by rw[hd]at z;cases z⟩
 keep:=fun i h h' st k=>let ⟨o,ho,r⟩:=st;⟨o,k it (by simp) o ho,r⟩
 item:=by
  intro X hP hw hK hc i pins s σ H E I hf st hg;subst hP hw hK;have hg:i < x.cps.size:=hg;obtain⟨f0,f1,f2,f3,f4,f5⟩:=hf it (by simp);refine wpAny_pyNext_ascii_item st (c:=x.cps[i]) (by simp[hg]) fun h' st' sb=>?_
  have I1:Inv X pins σ H { s with heap:=h',toks:=s.toks+1 }:=I.turned (t':=s.toks+1) (fun b o hb e=>(sb.2 b hb).trans e) f0 f1 f3 f4 f5;obtain⟨o,e,c,d⟩:=id st';exact⟨_,rfl,mM (s:={ s with heap:=h',toks:=s.toks+1 }) e c d (by decide) ⟨.str ⟨#[x.cps[i]]⟩,H,I1,⟨_,rfl⟩,⟨rfl,x.cps[i],by simp[hg],rfl⟩,st',fun b hb=>(hf b hb).1⟩⟩
 done:=by
  intro X hP hw hK hc i pins s σ H E I hf st hg;subst hP hw hK;have hg:x.cps.size≤i:=hg;obtain⟨f0,f1,f2,f3,f4,f5⟩:=hf it (by simp);exact wpAny_pyNext_ascii_end (I.ok.hd hc) st (by simp[hg]) fun h' eb=>⟨rfl,I.turned (t':=s.toks) (fun b o hb e=>eb b o hb e) f0 f1 f3 f4 f5⟩
 self:=fun _ _ _ _ _ st h=>wpAny_pyIter_striter_ascii st h
theorem rK {P:Program}{w:World}{K:Frag}{tg:Expr}(x:Str)(t:Tok)(it:Addr):Turn P w K tg (Itx x) [it] it (fun i h=>h.IsStrIter it "str_iterator" x t i) where
 mem:=by simp
 obj:=fun i h st b hb=>by
  have e:b=it:=by simpa using hb
  subst e;obtain⟨o,ho,_,hd⟩:=st;exact⟨o,ho,fun v z=>by rw[hd]at z;cases z⟩
 keep:=fun i h h' st k=>let ⟨o,ho,r⟩:=st;⟨o,k it (by simp) o ho,r⟩
 item:=by
  intro X hP hw hK hc i pins s σ H E I hf st hg;subst hP hw hK;have hg:i < x.cps.size:=hg;obtain⟨f0,f1,f2,f3,f4,f5⟩:=hf it (by simp);refine wpAny_pyNext_wide_item st (c:=x.cps[i]) (by simp[hg]) fun h' st' sb=>?_
  have I1:Inv X pins σ H { s with heap:=h',toks:=s.toks+1 }:=I.turned (t':=s.toks+1) (fun b o hb e=>(sb.2 b hb).trans e) f0 f1 f3 f4 f5;obtain⟨o,e,c,d⟩:=id st';exact⟨_,rfl,mM (s:={ s with heap:=h',toks:=s.toks+1 }) e c d (by decide) ⟨.str ⟨#[x.cps[i]]⟩,H,I1,⟨_,rfl⟩,⟨rfl,x.cps[i],by simp[hg],rfl⟩,st',fun b hb=>(hf b hb).1⟩⟩
 done:=by
  intro X hP hw hK hc i pins s σ H E I hf st hg;subst hP hw hK;have hg:x.cps.size≤i:=hg;obtain⟨f0,f1,f2,f3,f4,f5⟩:=hf it (by simp);exact wpAny_pyNext_wide_end (I.ok.hd hc) st (by simp[hg]) fun h' eb=>⟨rfl,I.turned (t':=s.toks) (fun b o hb e=>eb b o hb e) f0 f1 f3 f4 f5⟩
 self:=fun _ _ _ _ _ st h=>wpAny_pyIter_striter_wide st h
def signs (x:Str):List D:=x.cps.toList.map fun c=>.str ⟨#[c]⟩
def asTxt:D→R (List D)
 | .str x=>if x.cps.size≤16777216 then .ok (signs x) else .stuck
 | _=>.stuck
def iTxt (g:SS→R D):SS→R (List D):=fun S=>(g S).bind asTxt
theorem uF {F:Fx}{x:Str}{Z:Hp}:WalkG F (Itx x) (signs x) Z:=fun i H Z' z1 z2=>by
 have hl:(signs x).length=x.cps.size:=by simp[signs]
 refine⟨fun hi=>⟨by rw[hl]at hi;exact hi,fun v H' ⟨e,c,h1,h2⟩=>?_⟩,fun hi=>by rw[hl]at hi;exact hi⟩;subst e h2;refine⟨Z',.str ⟨#[c]⟩,Ex.refl z2,?_,by rw[Rep]⟩;simp only[signs,List.getElem?_map,Array.getElem?_toList,h1];rfl
theorem yS {X:Cx}{tg l:Expr}{tl:TE}(hl:PE X l tl):PI X tg l (fun σ H R=>tl σ H fun v H1=>∃ x,v=.str x∧R (Itx x) H1):=by
 intro pins s σ H R I h;refine thn (hl pins s σ H _ I h) fun v s1 ⟨y,H1,I1,r1,x,e,q⟩=>?_
 subst e;obtain⟨t,rfl⟩:=r1;have fin:∀ b∈[s1.heap.objs.size],FpOk X pins H1 b:=fun b hb=>by
  have e:b=s1.heap.objs.size:=by simpa using hb
  subst e;exact I1.fpOk (Nat.le_refl _) (I1.hok.fresh (Nat.le_refl _))
 cases ha:x.cps.all (· < 128)
 ·exact wpAny_pyIter_wide ha ⟨s1.heap.objs.size,[s1.heap.objs.size],_,_,H1,rfl,I1.kept (t':=s1.toks) fun b o e=>Heap.get?_push_of_some _ e,rK x t _,⟨_,Heap.get?_push_size _ rfl,rfl,rfl⟩,fin,q⟩
 ·exact wpAny_pyIter_ascii ha ⟨s1.heap.objs.size,[s1.heap.objs.size],_,_,H1,rfl,I1.kept (t':=s1.toks) fun b o e=>Heap.get?_push_of_some _ e,oO x t _,⟨_,Heap.get?_push_size _ rfl,rfl,rfl⟩,fin,q⟩
section
variable {X:Cx}{F:Fx}{tg a b e o:Expr}{g ga gb go:SS→R D}{gs:SS→R (List D)}{p pos:Pos}{k:Nat}
theorem yT (h:FE X F e g):FI X F tg e (iTxt g):=(yS h).weak fun σ H Q ⟨Z,S,ok,w⟩=>av ok w fun d v H1 Z1 ok1 x1 rv w1=>by
 cases d with
 | str x =>
  rw[Rep]at rv;have w2:WG F H1 Z1 (if x.cps.size≤16777216 then R.ok (signs x) else .stuck) _:=w1;split at w2
  ·rename_i hl;exact⟨x,rv,WG.now w2 ok1.sub _ uF (by simp[signs];exact hl)⟩
  ·exact w2.elim
 | _=>exact w1.elim
def dInS:D→D→R D
 | .str i,.str j=>.ok (.bl (!(Builtin.Str.occurrences j i 0 j.length 1).isEmpty))
 | _,_=>.stuck
theorem wH:OpD F (fun x y H Q=>∃ i j,x=.str i∧y=.str j∧Q (.bl (!(Builtin.Str.occurrences j i 0 j.length 1).isEmpty)) H) dInS:=by
 intro H Z x y dx dy Q s rx ry w;unfold dInS at w;split at w
 ·rename_i i j;rw[Rep]at rx ry;subst rx;subst ry;exact⟨i,j,rfl,rfl,WG.now w s _ aU⟩
 ·exact w.elim
theorem yU (ha:FE X F a ga)(hb:FE X F b gb)(hm:behindInMarks .In b=false:=by rfl):FE X F (.Compare a [.In] [b] pos) (eOp dInS ga gb):=sN qH wH ha hb hm
theorem uG:FE X F (.Dict [] [] pos) (fun _=>.ok (.dic [] [])):=uf.weak fun σ H Q ⟨Z,S,ok,w⟩=>fun q hq =>
 w _ _ (Ex.alloc ok.sub hq) _ (by rw[Rep];exact⟨q,[],rfl,ai,rfl,Reps.nil⟩)
end
theorem oP {X:Cx}:CallR X (.type "dict") (fun xs H Q=>∃ a kvs,xs=[.ref a]∧H a=some (.dK kvs)∧∀ p,H p=none→Q (.ref p) (upd H p (.dK kvs))):=by
 intro pins s σ H xs us Q I r h;obtain⟨a,kvs,rfl,e,q⟩:=h;obtain⟨u,rfl,ru⟩:=r.one;cases ru;obtain⟨hz,hs,vs,kv,hd⟩:=I.hok a _ e;refine kt_call_dict hs hd (by have:=kv.length;omega) fun h' hm sb=>?_
 have hf:H s.heap.objs.size=none:=I.hok.fresh (Nat.le_refl _);have kp:∀ b u,s.heap.get? b=some u→h'.get? b=some u:=fun b u e=>(sb.2 b (Nat.ne_of_lt (Heap.lt_size e))).trans (Heap.get?_push_of_some _ e)
 exact⟨.ref s.heap.objs.size,_,I.laid (o:=.dK kvs) (t':=s.toks) kp (Nat.le_refl _) ⟨hz,beq_eq_false_iff_ne.mpr (Ne.symm (Nat.ne_of_lt I.big)),vs,kv,hm⟩,rfl,q _ hf⟩
section
variable {X:Cx}{F:Fx}{e ei:Expr}{g:SS→R D}{gs:SS→R (List D)}{p pos pos' p0 apos cpos:Pos}{k:Nat}{x:Str}
def sDicOf (i:Nat)(gs:SS→R (List D)):SS→O:=fun S=>rO ((gs S).bind fun ds=>match ds with
 | [.dic ks xs]=>if ks.length=xs.length then .ok (.nx (S.set i (some (.dic (ks.zip xs))))) else .stuck
 | _=>.stuck)
theorem nv (i:Nat)(bx:BX X F k)(hN:X.N.Nodup)(hg:Gl X "dict")(hm:X.mg "dict"=none)(ha:FA X F [e] gs)(hi:X.N[i]?=some x:=by rfl)(hx:Loc X.env.scope x:=by first | exact Or.inl rfl | exact Or.inr rfl)
  (hs:swapsWith (.Call (.Name "dict" p) [e] [] cpos) (some (.Name x pos')) pos.line X.env=pure false:=by rfl) (hf:X.fn x=true∨X.env.scope.names.lookup x=some .local:=by first | exact .inl rfl | exact .inr rfl)
  (he:starEach [e] X.env=(false,eval e X.env)::starEach [] X.env:=by rfl) (hpl:(backTo cpos (starEach [] X.env)).any (·.1)=false:=by rfl) :
  FS X F (.Assign [.Name x pos'] (.Call (.Name "dict" p) [e] [] cpos) pos) (sDicOf i gs) :=
 (jt hN hi hx (lu oP hg hm (by decide +kernel) ha (he:=he) (hpl:=hpl)) hs hf).weak fun D σ H ⟨Z,S,ok,w⟩=>bj ok (WO.wg ok w) fun ds vs H1 Z1 ok1 x1 rs w1=>by
  split at w1
  ·rename_i ks xs;split at w1
   ·rename_i hl;obtain⟨v,rfl,rv⟩:=bI rs;obtain⟨a,kvs,rfl,ez,r⟩:=jo rv;refine⟨a,kvs,rfl,ok1.sub _ _ ez,fun q hq=>?_⟩;have w2:=WG.now w1 ok1.sub;exact w2 _ _ Z1 (Same.refl _) (ok1.putNew (x:=.dic (ks.zip xs)) (A:=[q]) (Ex.hidden ok1.sub hq) ⟨q,kvs,rfl,rfl,ai,r⟩ ⟨by simp,fun b hb=>by cases List.mem_singleton.mp hb;exact ok1.sub.free hq,fun b hb=>by cases List.mem_singleton.mp hb;exact ok1.ex.same.free hq⟩ fun b hb=>by cases List.mem_singleton.mp hb;exact hq)
   ·exact w1.elim
  ·exact w1.elim
def dropD (m:List (Key×D))(k:Key):List (Key×D):=m.filter fun p=>!decide (p.1=k)
theorem Pairs.drop {Z:Hp}{k:Key}:∀ {m:List (Key×D)} {kvs:List (Key×V)},Pairs F Z m kvs→Pairs F Z (dropD m k) (dropK kvs k)
 | [],kvs,h=>by rw[h.inv0];exact Pairs.nil
 | (k',d')::m,kvs,h=>by
  obtain⟨v,q,rfl,h1,h2⟩:=h.inv;have ih:=Pairs.drop (k:=k) h2;unfold dropD dropK at ih ⊢;rw[List.filter_cons,List.filter_cons];by_cases c:k'=k
  ·rw[if_neg (by simp[c]),if_neg (by simp[c])];exact ih
  ·rw[if_pos (by simp[c]),if_pos (by simp[c])];exact⟨by rw[List.map_cons,List.map_cons,ih.1],Reps.cons h1 ih.2⟩
def sDicPop (i:Nat)(g:SS→R D):SS→O:=fun S=>match S[i]? with
 | some (some (.dic m))=>rO ((g S).bind fun dk=>match keyOf dk with
  | some kk=>if (dicGet m kk).isSome=true then .ok (.nx (S.set i (some (.dic (dropD m kk))))) else .stuck
  | none=>.stuck)
 | _=>.stuck
theorem rN (i:Nat)(he:FE X F e g)(hi:X.N[i]?=some x:=by rfl)(hv:Vis X.env.scope x:=by first | exact Or.inl rfl | exact Or.inr (Or.inl rfl) | exact Or.inr (Or.inr rfl))(hd:(x==("__debug__":Str))=false:=by decide)
  (hcd:(x==("__classdict__":Str))=false:=by decide) (m1:M1 X (.Name x p0) "pop" apos e cpos) (hsw:swapsWith (.Call (.Attribute (.Name x p0) "pop" apos) [e] [] cpos) none pos.line X.env=pure false:=by rfl) :
  FS X F (.Expr (.Call (.Attribute (.Name x p0) "pop" apos) [e] [] cpos) pos) (sDicPop i g) :=
 (gJ (ug (fe hi hv hd hcd) he m1) hsw).weak fun D σ H ⟨Z,S,ok,w⟩=>by
  unfold sDicPop at w;split at w
  ·rename_i m e0;obtain⟨a,kvs,e1,e2,r⟩:=ok.dic i m e0;refine⟨.ref a,e1,a,rfl,.inl ⟨_,Rd.of e2⟩,av ok (WO.wg ok w) fun dk y H1 Z1 ok1 x1 ry w1=>?_⟩;split at w1
   ·rename_i kk ek;split at w1
    ·rename_i hs;obtain⟨d',hd'⟩:=Option.isSome_iff_exists.mp hs;obtain⟨v,f1,f2⟩:=(r.mono x1.z).get hd';have w2:=WG.now w1 ok1.sub;refine⟨kvs,kk,v,x1.same _ _ e2,cE ek ry,f1,?_⟩;exact w2 σ _ Z1 (Same.refl _) (ok1.rewr (x:=.dic m) (x':=.dic (dropD m kk)) (v:=.ref a) (A:=[a]) e0 e1 ⟨a,kvs,rfl,rfl,x1.same _ _ e2,r.mono x1.z⟩ ⟨a,_,rfl,rfl,ai,(r.mono x1.z).drop⟩ fun b hb=>ag fun z=>hb (by rw[z];exact .head _))
    ·exact w1.elim
   ·exact w1.elim
  ·exact w.elim
end
def leT (a b:Str):Bool:=!ltCps b.cps.toList a.cps.toList
def insT (x:Str):List Str→List Str
 | []=>[x]
 | y::r=>if leT x y=true then x::y::r else y::insT x r
def sortT:List Str→List Str
 | []=>[]
 | x::r=>insT x (sortT r)
theorem mw {a b:Str}:leT a b=true↔a.cps.toList≤b.cps.toList:=by
 unfold leT;rw[ltCps_eq,Bool.not_eq_true',decide_eq_false_iff_not];exact List.not_lt
theorem rP {a b:Str}(h:¬ leT a b=true):leT b a=true:=by
 rw[mw]at h ⊢;rcases List.le_total a.cps.toList b.cps.toList with z | z
 ·exact absurd z h
 ·exact z
theorem uH {a b:Str}(h1:leT a b=true)(h2:leT b a=true):a=b:=by
 rw[mw]at h1 h2;have e:=List.le_antisymm h1 h2;cases a with | mk x=>cases b with | mk y=>exact congrArg Str.mk (Array.toList_inj.mp e)
theorem lQ {a b c:Str}(h1:leT a b=true)(h2:leT b c=true):leT a c=true:=by
 rw[mw]at h1 h2 ⊢;exact List.le_trans h1 h2
theorem iM (x:Str):∀ l,(insT x l).Perm (x::l)
 | []=>.refl _
 | y::r=>by
  unfold insT;split
  ·exact .refl _
  ·exact((iM x r).cons y).trans (.swap x y r)
theorem gE:∀ l,(sortT l).Perm l
 | []=>.refl _
 | x::r=>(iM x _).trans ((gE r).cons x)
theorem qk (x:Str):∀ l,l.Pairwise (fun a b=>leT a b=true)→(insT x l).Pairwise fun a b=>leT a b=true
 | [],_=>by unfold insT;simp
 | y::r,h=>by
  have h1:=List.pairwise_cons.mp h;unfold insT;split
  ·rename_i c;exact List.pairwise_cons.mpr ⟨fun z hz=>by
    rcases List.mem_cons.mp hz with e | hz
    ·rw[e];exact c
    ·exact lQ c (h1.1 z hz),h⟩
  ·rename_i c;refine List.pairwise_cons.mpr ⟨fun z hz=>?_,qk x r h1.2⟩;rcases List.mem_cons.mp ((iM x r).mem_iff.mp hz) with e | hz
   ·rw[e];exact rP c
   ·exact h1.1 z hz
theorem ny:∀ l,(sortT l).Pairwise fun a b=>leT a b=true
 | []=>.nil
 | x::r=>qk x _ (ny r)
theorem jS:∀ (l:List Str),sortedS l=true→l.Pairwise fun a b=>leT a b=true
 | [],_=>.nil
 | [x],_=>by simp
 | x::y::r,h=>by
  have h':(leT x y&&risingS y r)=true:=h;rw[Bool.and_eq_true]at h';have ih:=jS (y::r) h'.2;refine List.pairwise_cons.mpr ⟨fun z hz=>?_,ih⟩;rcases List.mem_cons.mp hz with e | hz
  ·rw[e];exact h'.1
  ·exact lQ h'.1 ((List.pairwise_cons.mp ih).1 z hz)
theorem lR:∀ {a b:List Str},a.Perm b→a.Pairwise (fun a b=>leT a b=true)→b.Pairwise (fun a b=>leT a b=true)→a=b
 | [],b,p,_,_=>(List.nil_perm.mp p).symm
 | x::xs,[],p,_,_=>nomatch p.length_eq
 | x::xs,y::ys,p,ha,hb=>by
  have h1:=List.pairwise_cons.mp ha;have h2:=List.pairwise_cons.mp hb;have e:x=y:=by
   have m1:x∈y::ys:=p.subset List.mem_cons_self;have m2:y∈x::xs:=p.symm.subset List.mem_cons_self;rcases List.mem_cons.mp m1 with e | m1
   ·exact e
   ·rcases List.mem_cons.mp m2 with e | m2
    ·exact e.symm
    ·exact uH (h1.1 y m2) (h2.1 x m1)
  subst e;exact congrArg (x::·) (lR (p.cons_inv) h1.2 h2.2)
section
variable {prog:Program}{w:World}{A:Around}{E:Value→Shared→Prop}{s:Shared}{κ:Type}[DecidableEq κ]{knd:PySem.KeyKind prog w κ}
theorem rQ {R:Result→Shared→Prop}{d:Addr}{kvs:List (κ×Value)}{ep:Nat}(hh:A.handled=none)(hd:(d==sysModules)=false)(hm:s.heap.DictAt knd d kvs ep)(hlen:kvs.length≤1000)(S:Addr)(res:Value)(c₀:Nat)(hS:s.heap.get? S=some { cls:=.type "list",data:=.seq #[] c₀ })
  (hR:∀ h' tk acc' c',(∀ b o,b≠S→s.heap.get? b=some o→h'.get? b=some o)→h'.get? S=some { cls:=.type "list",dict:=none,data:=.seq acc' c',slots:=#[] } →
   ItemsOf (fun i v=>∃ k x,kvs[i]?=some (k,x)∧knd.is k v=true) acc' kvs.length→R (.ok (.ret res)) { s with heap:=h',toks:=tk }) :
  wpAny (model prog w) A.in1 (Builtin.List.listExtendWith (.ref S) (.ref d) res)
   (fun fin s'=>match fin with | .done f=>R (.ok f) s' | .again c'=>c'.quiet=true∧codeAny (model prog w) A c' R s') (fun e s'=>R (.error e) s') s:=by
 have hT:s.TypeIs (.ref d) "dict" := hm.dictOf.typeIs;have hSd:S≠d:=fun e=>by
  obtain⟨o,ho,hc⟩:=hT;subst e;rw[hS]at ho;cases ho;have hc':Value.type "list"=Value.type "dict" := hc
  revert hc';decide
 have hSlt:S < s.heap.objs.size:=Heap.lt_size hS;have hSI:S≠s.heap.objs.size:=Nat.ne_of_lt hSlt;have hdI:d≠s.heap.objs.size:=by obtain⟨o,ho,_⟩:=hT;exact Nat.ne_of_lt (Heap.lt_size ho)
 have hSf:S∉[s.heap.objs.size,d]:=fun hm=>by
  simp only[List.mem_cons,List.not_mem_nil,or_false]at hm;rcases hm with h | h
  ·exact hSI h
  ·exact hSd h
 have W:=(Walks.dictKeys (prog:=prog) (w:=w) (A:=A.in1) (knd:=knd) hh s.heap.objs.size d hdI kvs ep).toS;have key:∀ (h:Heap) (c₁ tk:Nat),h.IsKeyIter s.heap.objs.size d 0 kvs.length ep→h.DictAt knd d kvs ep→(∀ b o,b≠S→s.heap.get? b=some o→h.get? b=some o) →
   h.get? S=some { cls:=.type "list",data:=.seq #[] c₁ }→codeAny (model prog w) A (.builtin "list.extend.loop" ⟨[.ref S,.ref s.heap.objs.size,res],[]⟩) R { s with heap:=h,toks:=tk }:=by
  intro h c₁ tk hit hD hk hS₁;refine codeAny_extend_loopS W (by rw[sizeLine_eq];omega) S hSf res kvs.length 0 _ #[] c₁ rfl (Nat.zero_le _) ⟨hit,hD⟩ hS₁ (ItemsOf.nil _) fun s' acc' c' hm hS' hacc=>?_
  rw[Moved.eq_with hm];refine hR s'.heap s'.toks acc' c' (fun b o hb e=>hm.heap b o (fun hmem=>?_) (hk b o hb e)) hS' hacc;rcases List.mem_cons.mp hmem with e' | hmem
  ·exact hb e'
  ·exact absurd (Heap.lt_size e) (by rw[List.mem_singleton.mp hmem];exact Nat.lt_irrefl _)
 unfold Builtin.List.listExtendWith;refine wpAny_bind (wpAny_typeOf (T := "dict") hT ?_);have h1:Builtin.List.listSameRef (.ref S) (.ref d)=false:=by simp[Builtin.List.listSameRef,hSd]
 have h2:(Value.type "dict" == Value.type "list")=false:=by decide
 have h3:(Value.type "dict" == Value.type "tuple")=false:=by decide
 simp only[h1,h2,h3,Bool.or_false,Bool.false_eq_true,if_false];refine wpAny_bind (wpAny_pyIter_dict hd hm ?_);have hT₁:Shared.TypeIs { s with heap:=s.heap.push { cls:=.type "dict_keyiterator",data:=.fields #[.ref d,.int 0 0,.int kvs.length 0,.int ep 0] } } (.ref d) "dict" := by obtain⟨o,ho,hc⟩:=hT;exact⟨o,Heap.get?_push_of_some _ ho,hc⟩
 refine wpAny_bind (wpAny_holding ?_);unfold Builtin.List.listLengthHint;refine wpAny_bind (wpAny_specialOf hT₁ F.slot_dict_len.lookup ?_);generalize hid:("dict.__len__":String)=id0
 wp_delta
 rw[show splitId id0=some ("dict","__len__") from by subst hid;decide +kernel];subst hid;refine wpAny_bind (wpAny_isInstance (T := "dict") (b:=true) hT₁ (by rw[isSubtype_type];kernel_rfl) ?_);refine wpAny_ite_split (fun hab=>absurd hab (by decide)) (fun _=>?_);refine wpAny_ite_split (fun _=>?_) (fun hab=>absurd (by decide +kernel) hab);refine wpAny_bind (wpAny_typeOf (T := "dict") hT₁ ?_);refine wpAny_pure ?_;have hit₁:(s.heap.push { cls:=.type "dict_keyiterator",data:=.fields #[.ref d,.int 0 0,.int kvs.length 0,.int ep 0] }).IsKeyIter s.heap.objs.size d 0 kvs.length ep:=⟨_,Heap.get?_push_size _ rfl,rfl,rfl⟩;have hD₁:(s.heap.push { cls:=.type "dict_keyiterator",data:=.fields #[.ref d,.int 0 0,.int kvs.length 0,.int ep 0] }).DictAt knd d kvs ep:=hm.at' fun o e=>Heap.get?_push_of_some _ e
 have hS₁:=Heap.get?_push_of_some { cls:=.type "dict_keyiterator",data:=.fields #[.ref d,.int 0 0,.int kvs.length 0,.int ep 0] } hS;refine wpAny_ite_split (fun _=>?_) (fun _=>wpAny_pure ⟨plainId_quiet F.plain_extend_loop _,key _ c₀ _ hit₁ hD₁ (fun b o _ e=>Heap.get?_push_of_some _ e) hS₁⟩);refine wpAny_bind (wpAny_rule ?_);refine wpAny_bind ?_;show wpAny _ _ (updateSeq S (·.push .none) >>= fun _=>updateSeq S (·.pop)) _ _ _;refine wpAny_bind (wpAny_updateSeq hS₁ rfl ?_);have hS₂:=Heap.get?_update_self (Obj.mapSeq (·.push Value.none)) hS₁ rfl;refine wpAny_updateSeq (hz:=by seq_fits) hS₂ rfl ?_;have hS₃:=Heap.get?_update_self (Obj.mapSeq (·.pop)) hS₂ rfl;refine wpAny_pure ⟨plainId_quiet F.plain_extend_loop _,key _ _ _ (hit₁.at fun o e=>?_) (hD₁.at' fun o e=>?_) (fun b o hb e=>?_) hS₃⟩
 ·exact(Heap.get?_update_other _ _ hSI).trans ((Heap.get?_update_other _ _ hSI).trans e)
 ·exact(Heap.get?_update_other _ _ hSd).trans ((Heap.get?_update_other _ _ hSd).trans e)
 ·exact(Heap.get?_update_other _ _ (Ne.symm hb)).trans ((Heap.get?_update_other _ _ (Ne.symm hb)).trans (Heap.get?_push_of_some _ e))
theorem oQ {S d:Addr}{kvs:List (κ×Value)}{ep c:Nat}{R:Result→Shared→Prop}(hh:A.handled=none)(hd:(d==sysModules)=false)(hm:s.heap.DictAt knd d kvs ep)(hlen:kvs.length≤1000)(hl:s.heap.get? S=some (lobj #[] c))
  (q:∀ h' tk acc' c',(∀ b o,b≠S→s.heap.get? b=some o→h'.get? b=some o)→h'.get? S=some { cls:=.type "list",dict:=none,data:=.seq acc' c',slots:=#[] } →
   ItemsOf (fun i v=>∃ k x,kvs[i]?=some (k,x)∧knd.is k v=true) acc' kvs.length→R (.ok (.ret (.ref S))) { s with heap:=h',toks:=tk }) :
  codeAny (model prog w) A (.builtin "list.__iadd__" ⟨[.ref S,.ref d],[]⟩) R s:=by
 refine codeAny_builtin PySem.F.entry_list_iadd ?_;rw[Around.under_plainId PySem.F.plain_list_iadd _];have go:wpAny (model prog w) A.in1 (Builtin.List.listExtendWith (.ref S) (.ref d) (.ref S)) (fun fin s'=>match fin with | .done f=>R (.ok f) s' | .again c'=>c'.quiet=true∧codeAny (model prog w) A c' R s') (fun e s'=>R (.error e) s') s :=
  rQ (by simpa using hh) hd hm hlen S (.ref S) c hl q
 exact go
theorem kM {d:Addr}{kvs:List (κ×Value)}{ep:Nat}{Q:List Value→Shared→Prop}(hh:A.handled=none)(hd:(d==sysModules)=false)(hm:s.heap.DictAt knd d kvs ep)(hlen:kvs.length≤1000)
  (q:∀ h' tk (acc:Array Value),(∀ b o,s.heap.get? b=some o→h'.get? b=some o)→ItemsOf (fun i v=>∃ k x,kvs[i]?=some (k,x)∧knd.is k v=true) acc kvs.length→Q acc.toList { s with heap:=h',toks:=tk }):wpAny (model prog w) A (collect (.ref d)) Q E s:=by
 unfold collect;refine wpAny_bind (wpAny_runValue (codeAny_builtin PySem.F.entry_proto_collect ?_));rw[Around.under_plainId PySem.F.plain_proto_collect _];unfold Builtin.«proto.collect»;have hm1:(s.heap.push (lobj #[] 0)).DictAt knd d kvs ep:=hm.at' fun o e=>Heap.get?_push_of_some _ e
 refine wpAny_bind (wpAny_newList (wpAny_pure ⟨plainId_quiet PySem.F.plain_list_iadd _,oQ (by simpa using hh) hd hm1 hlen (Heap.get?_push_size _ rfl) fun h' tk acc' c' hk hS hacc=>?_⟩));refine wpAny_bind (wpAny_load hS (wpAny_pure ?_));exact q h' tk acc' (fun b o e=>hk b o (Nat.ne_of_lt (Heap.lt_size e)) (Heap.get?_push_of_some _ e)) hacc
theorem mx {d:Addr}{kvs:List (Key×Value)}{ss:List Str}{ep:Nat}{Q:Value→Shared→Prop}(hh:A.handled=none)(hd:(d==sysModules)=false)(hm:s.heap.DictAt (mixKind prog w) d kvs ep)(hs:kvs.map (·.1)=ss.map .inr)(h64:ss.length < 64)
  (q:∀ (h1 h':Heap) tk vs n,(∀ b o,s.heap.get? b=some o→h1.get? b=some o)→(∀ b o,h1.get? b=some o→h'.get? b=some o)→StrsAre vs (sortT ss)→h'.get? h1.objs.size=some (seqObj "list" vs.toArray n)→Q (.ref h1.objs.size) { s with heap:=h',toks:=tk }) :
  wpAny (model prog w) A (call (.builtin "sorted") [.ref d]) Q E s:=by
 have lk:kvs.length=ss.length:=by have:=congrArg List.length hs;simpa using this
 refine Calls.call_function_entry kind_sorted plain_sorted entry_sorted (args_sorted1 _) ?_;have go:wpAny (model prog w) A.in1 (collect (.ref d) >>= fun xs=>newList xs >>= fun l=>holding [l] (call (.builtin "list.sort") [l]) >>= fun _=>ret l) (fun fin s'=>∃ v,fin=.done (.ret v)∧Q v s') E s:=by
  refine wpAny_bind (kM (by simpa using hh) hd hm (by omega) fun h1 tk acc k1 it=>?_);have vS:StrsAre acc.toList ss:=by
   have:∀ (ss:List Str) (vs:List Value),vs.length=ss.length→(∀ (j:Nat) (y:Str) (v:Value),ss[j]?=some y→vs[j]?=some v→∃ t,v=.str y t)→StrsAre vs ss:=by
    intro ss
    induction ss with
    | nil=>intro vs hl _;cases vs with
     | nil=>exact .nil
     | cons _ _=>simp at hl
    | cons y l ih =>
     intro vs hl h;cases vs with
     | nil=>simp at hl
     | cons v vs =>
      obtain⟨t,e⟩:=h 0 y v rfl rfl;subst e;exact .cons y t (ih vs (by simpa using hl) fun j q u e1 e2=>h (j+1) q u (by simpa using e1) (by simpa using e2))
   refine this ss acc.toList (by have:=it.1;simp;omega) fun j y v e1 e2=>?_
   obtain⟨k,x,f1,f2⟩:=it.2 j v (by simpa using e2);have f3:(kvs.map (·.1))[j]?=some k:=by rw[List.getElem?_map,f1];rfl
   rw[hs,List.getElem?_map,e1]at f3;cases f3;exact Value.isStrOf_shape f2
  have lv:acc.toList.length < 64:=by have:=it.1;simp;omega
  refine wpAny_bind (wpAny_newList ?_ (by rw[sizeLine_eq];omega));have e1:(h1.push (seqObj "list" acc.toList.toArray 0)).get? h1.objs.size=some (seqObj "list" acc.toList.toArray 0):=Heap.get?_push_size _ rfl;refine wpAny_bind (wpAny_holding (wpAny_call_entry slot_list_sort ⟨_,e1,rfl⟩ entry_list_sort (list_sort_treeK strKind_oneLt e1 vS.keysOf (fun v₁ v₂ rest e=>keyKind_strs (by rw[← e];exact vS)) lv fun st' a1 a2=>⟨_,rfl,?_⟩) (args_list_sort _)));obtain⟨ss',b1,b2,b3⟩:=sorted_out_str vS a1 a2;have e2:=lR (b2.trans (gE ss).symm) (jS _ b3) (ny ss);subst e2;obtain⟨n,hn⟩:=sortedHeap_at (out:=(arrOf st').map (·.2)) e1;refine wpAny_pure ⟨_,rfl,q h1 _ _ ((arrOf st').map (·.2)).toList n k1 (fun b o e=>?_) b1 (by rw[Array.toArray_toList];exact hn)⟩;have lt:=Heap.lt_size e;refine(sortedHeap_old (Nat.ne_of_lt lt) ?_).trans (Heap.get?_push_of_some _ e);rw[size_push'];exact Nat.lt_succ_of_lt lt
 exact go
end
def textsOf:List Key→Option (List Str)
 | []=>some []
 | .inr x::r=>(textsOf r).map (x::·)
 | .inl _::_=>none
theorem i8:∀ {ks:List Key} {ss:List Str},textsOf ks=some ss→ks=ss.map .inr
 | [],ss,h=>by cases h;rfl
 | .inl _::_,ss,h=>nomatch h
 | .inr x::r,ss,h=>by
  unfold textsOf at h;cases q:textsOf r with
  | none=>rw[q]at h;cases h
  | some l=>rw[q]at h;cases h;rw[i8 q];rfl
def dSortD:List D→R D
 | [.dic ks _]=>match textsOf ks with
  | some ss=>if ss.length < 64 then .ok (.lst ((sortT ss).map .str)) else .stuck
  | none=>.stuck
 | _=>.stuck
theorem lT:∀ {vs:List Value} {ss:List Str},StrsAre vs ss→Vals (ss.map V.str) vs
 | _,_,.nil=>.nil
 | _,_,.cons y t h=>.cons ⟨t,rfl⟩ (lT h)
theorem lU {K:Frag}{C:Nat→Addr}{Z:Hp}:∀ ss:List Str,Reps K C Z (ss.map .str) (ss.map V.str)
 | []=>Reps.nil
 | x::r=>Reps.cons (by rw[Rep]) (lU r)
theorem ql {κ:Type}:∀ {kvs:List (κ×V)} {vs:List (κ×Value)},KV kvs vs→kvs.map (·.1)=vs.map (·.1)
 | _,_,.nil=>rfl
 | _,_,.cons r t=>by rw[List.map_cons,List.map_cons,r.1,ql t]
theorem my {X:Cx}(hc:X.calm=true):CallR X (.builtin "sorted") (fun xs H Q=>∃ a kvs ss,xs=[.ref a]∧H a=some (.dK kvs)∧kvs.map (·.1)=ss.map .inr∧ss.length < 64∧∀ p,H p=none→Q (.ref p) (upd H p (.lst ((sortT ss).map V.str)))):=by
 intro pins s σ H xs us Q I r h;obtain⟨a,kvs,ss,rfl,e,hk,h64,q⟩:=h;obtain⟨u,rfl,ru⟩:=r.one;cases ru;obtain⟨hz,hs,vs,kv,o,es,ep,dd⟩:=I.hok a _ e;have hk2:vs.map (·.1)=ss.map .inr:=by
  rw[← hk];exact(ql kv).symm
 refine mx (ep:=ep) (I.ok.hd hc) hs ⟨o,es,dd⟩ hk2 h64 fun h1 h' tk ws n k1 k2 vS e1=>?_
 have I1:=I.kept (t':=tk) k1;exact⟨.ref h1.objs.size,_,I1.laid (a:=h1.objs.size) (o:=.lst ((sortT ss).map V.str)) (t':=tk) k2 (Nat.le_refl _) ⟨by rw[List.length_map,(gE ss).length_eq,sizeLine_eq];omega,ws,n,lT vS,e1⟩,rfl,q _ (I1.hok.fresh (Nat.le_refl _))⟩
section
variable {X:Cx}{F:Fx}{e:Expr}{gs:SS→R (List D)}{p pos:Pos}{k:Nat}
theorem oR (bx:BX X F k)(hg:Gl X "sorted")(hm:X.mg "sorted"=none)(ha:FA X F [e] gs)(he:starEach [e] X.env=(false,eval e X.env)::starEach [] X.env:=by rfl)(hpl:(backTo pos (starEach [] X.env)).any (·.1)=false:=by rfl) :
  FE X F (.Call (.Name "sorted" p) [e] [] pos) (eCall dSortD gs) :=
 (fg (id := "sorted") (my bx.calm) hg hm (by decide +kernel) ha (he:=he) (hpl:=hpl)).weak fun σ H Q ⟨Z,S,ok,w⟩=>by
  refine bj ok w fun ds vs H1 Z1 ok1 x1 rs w1=>?_
  unfold dSortD at w1;split at w1
  ·rename_i ks xs;split at w1
   ·rename_i ss et;split at w1
    ·rename_i hl;obtain⟨v,rfl,rv⟩:=bI rs;rw[Rep]at rv;obtain⟨a,kvs,rfl,ez,e3,e4⟩:=rv;have et:=i8 et;refine⟨a,kvs,ss,rfl,ok1.sub _ _ ez,e3.trans et,hl,fun q hq=>?_⟩;have w2:=w1;exact w2 _ _ (Ex.alloc ok1.sub hq) _ (by rw[Rep];exact⟨q,_,rfl,SqL.of ai,lU _⟩)
    ·exact w1.elim
   ·exact w1.elim
  ·exact w1.elim
end
structure FSw (X:Cx)(F:Fx)(st:Stmt)(g:SS→O):Prop where
 out:FS X F st g
structure FEw (X:Cx)(F:Fx)(e:Expr)(g:SS→R D):Prop where
 out:FE X F e g
section
variable {X:Cx}{F:Fx}{e:Expr}{es:List Expr}{g:SS→R D}{gs:List (SS→R D)}{x:Str}{pos pos' lpos p0 apos cpos:Pos}{k:Nat}
theorem aT {i j pos}:FEw X F (.Constant (.int i) j pos) (eC (.int i)):=⟨ah⟩
theorem uI {i j pos}:FEw X F (.Constant (.bool i) j pos) (eC (.bl i)):=⟨eZ⟩
theorem wI {j pos}:FEw X F (.Constant .none j pos) (eC .non):=⟨oa⟩
theorem cw {x1}(h:FAL X F es gs)(hl:gs.length≤16777216:=by exact Nat.le_of_ble_eq_true rfl):FEw X F (.Tuple es x1 pos) (eBA (fun ds=>.ok (.tup ds)) gs):=⟨aM h hl⟩
theorem qm (h:FAL X F es gs)(hl:gs.length≤16777216:=by exact Nat.le_of_ble_eq_true rfl):FEw X F (.List es pos) (eBA (fun ds=>.ok (.lst ds)) gs):=⟨au h hl⟩
theorem falw (ha:FEw X F e g)(hr:FAL X F es gs)(hs:isStar e=false:=by rfl):FAL X F (e::es) (g::gs):=aa ha.out hr (ae hs)
theorem wJ (i:Nat)(hN:X.N.Nodup)(h:FEw X F e g)(hi:X.N[i]?=some x:=by rfl)(hx:Loc X.env.scope x:=by first | exact Or.inl rfl | exact Or.inr rfl)(hf:X.fn x=true∨X.env.scope.names.lookup x=some .local:=by first | exact .inl rfl | exact .inr rfl)
  (hs:swapsWith e (some (.Name x pos')) pos.line X.env=pure false:=by rfl):FSw X F (.Assign [.Name x pos'] e pos) (sSet i g):=⟨aH i hN h.out hi hx hs hf⟩
end
section
variable {X:Cx}{G:Gx}{W:Wd}{S:SS}{σ:Type}{J:σ→SS→Prop}{st:Stmt}{rest:List Stmt}{α:Type}
theorem rR {g:SS→O}{S':SS}{l:LW σ}(h:∀ H0 Z0,Wk (G.at H0 Z0) W→FSw X (G.at H0 Z0) st g)(hg:g S=.nx S')(hk:GL X G W S' rest J l):GL X G W S (st::rest) J l:=um (fun a b c=>(h a b c).out) hg hk
end
end FF
namespace FF
open PySem PySem.Spec PyProof.Rows L2
structure GLw {σ:Type}(X:Cx)(G:Gx)(W:Wd)(S:SS)(sts:List Stmt)(J:σ→SS→Prop)(l:LW σ):Prop where
 out:GL X G W S sts J l
section
variable {X:Cx}{G:Gx}{W:Wd}{S:SS}{σ:Type}{J:σ→SS→Prop}{st:Stmt}{rest sts:List Stmt}{α:Type}
theorem yV {l:LW σ}(h:GL X G W S sts J l):GLw X G W S sts J l:=⟨h⟩
theorem oS {g:SS→O}{S':SS}{l:LW σ}(h:∀ H0 Z0,Wk (G.at H0 Z0) W→FSw X (G.at H0 Z0) st g)(hg:g S=.nx S')(hk:GLw X G W S' rest J l):GLw X G W S (st::rest) J l:=⟨rR h hg hk.out⟩
end
section
variable {P:Program}{w:World}{K:Frag}{mg:Str→Option Value}{base:Heap}{C:Nat→Addr}{k i:Nat}{N ps:List Str}{x:Str}{st:Stmt}{fn:Wd→List D→RW}
def OkGBLw (P:Program)(w:World)(K:Frag)(mg:Str→Option Value)(base:Heap)(C:Nat→Addr)(k i:Nat)(N:List Str)(x:Str)(st:Stmt)(W:Wd)(ds:List D)(l:LW Unit):Prop :=
 ∀ (f:Addr) (cdv:Value) (A:Around) (outer:List Env) (s:Shared) (HW Z H:Hp) (E:XK),BG (bodyX P w K mg base N x (defScope st) f cdv A outer s H E) ⟨K,C,HW,Z,H,E⟩ k →
  PassesOwn (model P w) (bodyX P w K mg base N x (defScope st) f cdv A outer s H E).A (bodyX P w K mg base N x (defScope st) f cdv A outer s H E).env (bodyX P w K mg base N x (defScope st) f cdv A outer s H E).xe →
  MadeG (bodyX P w K mg base N x (defScope st) f cdv A outer s H E) ⟨K,C,HW,Z,H,E⟩→LamX (bodyX P w K mg base N x (defScope st) f cdv A outer s H E) K C i →
  GLw (bodyX P w K mg base N x (defScope st) f cdv A outer s H E) ⟨K,C,HW,Z,H,E⟩ W (startS N.length ds) (defBody st) JU l
theorem okgl1w {p:Str}{c:Wd→D→LW Unit}(S:FnScope N [p] (defScope st))(h:∀ W a,OkGBLw P w K mg base C k i N x st W [a] (c W a)):OkGL P w K mg base C k i x st [p] (b1 c):=okgl1 S fun W a f cdv A outer s HW Z H E b1 b2 b3 b4=>(h W a f cdv A outer s HW Z H E b1 b2 b3 b4).out
end
def dicOf:D→R (List (Key×D))
 | .dic ks xs=>if ks.length=xs.length then .ok (ks.zip xs) else .stuck
 | _=>.stuck
def oDPop (m:List (Key×D))(dk:D):R (List (Key×D)):=match keyOf dk with
 | some kk=>if (dicGet m kk).isSome=true then .ok (dropD m kk) else .stuck
 | none=>.stuck
def sDicOfC (i:Nat)(g:SS→R D):SS→O:=fun S=>rO (((g S).bind dicOf).bind fun m=>.ok (.nx (S.set i (some (.dic m)))))
def sDicPopC (i:Nat)(g:SS→R D):SS→O:=fun S=>match S[i]? with
 | some (some (.dic m))=>rO (((g S).bind (oDPop m)).bind fun m'=>.ok (.nx (S.set i (some (.dic m')))))
 | _=>.stuck
section
variable {X:Cx}{F:Fx}{st:Stmt}{g:SS→R D}{i:Nat}
theorem lV (h:FS X F st (sDicOf i (aL [g]))):FS X F st (sDicOfC i g):=jj h fun S=>by
 unfold sDicOf sDicOfC;show rO ((aL [g] S).bind _)=_;rw[show aL [g] S=(g S).bind fun d=>R.ok [d] from rfl];cases q:g S with
 | ok d =>
  cases d with
  | dic ks xs =>
   show rO (if ks.length=xs.length then R.ok (O.nx (S.set i (some (.dic (ks.zip xs))))) else .stuck)=rO ((if ks.length=xs.length then R.ok (ks.zip xs) else .stuck).bind _);by_cases c:ks.length=xs.length
   ·rw[if_pos c,if_pos c];rfl
   ·rw[if_neg c,if_neg c];rfl
  | _=>rfl
 | err k=>rfl
 | stuck=>rfl
theorem oU (h:FS X F st (sDicPop i g)):FS X F st (sDicPopC i g):=jj h fun S=>by
 unfold sDicPop sDicPopC;cases q:S[i]? with
 | none=>rfl
 | some o =>
  cases o with
  | none=>rfl
  | some y =>
   cases y with
   | dic m =>
    simp only;cases q2:g S with
    | ok d =>
     show rO (match keyOf d with | some kk=>if (dicGet m kk).isSome=true then R.ok (O.nx (S.set i (some (.dic (dropD m kk))))) else .stuck | none=>.stuck)=rO ((oDPop m d).bind _);unfold oDPop;cases keyOf d with
     | none=>rfl
     | some kk =>
      simp only;by_cases c:(dicGet m kk).isSome=true
      ·rw[if_pos c,if_pos c];rfl
      ·rw[if_neg c,if_neg c];rfl
    | err k=>rfl
    | stuck=>rfl
   | _=>rfl
end
section
variable {X:Cx}{G:Gx}{W:Wd}{S:SS}{σ:Type}{J:σ→SS→Prop}
theorem qo (i:Nat){m:List (Key×D)}{S':SS}{sts:List Stmt}{l:LW σ}(hi:S[i]?=some (some (.dic m)))(hS:S.set i (some (.val (dicD m)))=S')(h:GL X G W S' sts J l):GL X G W S sts J l :=
 h.weak fun D ρ H ⟨HW,Z,ok,w⟩=>by
  obtain⟨Z',z,ok'⟩:=ok.nm.freezeD hi;rw[hS]at ok';exact⟨HW,Z',ok.after ok',WGL.more z w⟩
end
section
variable {X:Cx}{G:Gx}{W:Wd}{S:SS}{a b:Expr}{rest:List Expr}{r:RW}{r2:Wd→RW}{gb:SS→R D}{pos:Pos}{k:Nat}
theorem WRW.ge {HW Z H:Hp}{ρ:St}{P:Wd→D→Hp→Hp→Hp→Prop}{k:Wd→D→RW}{Q:VK}(ok:GOk G W HW Z H S ρ)(hQ:∀ w d HW' Z' H' v,GOk G w HW' Z' H' S ρ→Same Z Z'→Rep G.K G.C Z' d v→WRW G.K G.C G.E HW' Z' H' P (k w d)→Q v H'):∀ {r:RW},WRW G.K G.C G.E HW Z H P (rwB r k)→WRW G.K G.C G.E HW Z H (fun _ d _ Z' H'=>∀ v,Rep G.K G.C Z' d v→Q v H') r
 | .ok w d,h=>fun HW' Z' H' x wd v r=>hQ w d HW' Z' H' v (ok.more x wd) x.z r (WRW.more x h)
 | .er w k,h=>h
 | .al w f,h=>fun a e=>WRW.ge ok hQ (h a e)
 | .stuck,h=>h
theorem xD (bg:BG X G k)(ha:GE X G W S a r)(hb:∀ H0 Z0 W',Wk (G.at H0 Z0) W'→FE X (G.at H0 Z0) b gb)(hs:PlainIx b:=by intro _ _;rfl):GE X G W S (.Subscript a b pos) (rwB r fun w d=>rwA w (gb S) fun y=>rwR w (dIx d y)):=by
 have hb':PE X b (fun ρ H Q=>∃ W' HW Z,GOk G W' HW Z H S ρ∧tE (G.fx HW Z H) gb ρ H Q):=fun pins s ρ H Q I ⟨W',HW,Z,ok,t⟩=>hb _ _ W' ok.wk pins s ρ H Q I t
 refine(xx (sK (X:=X)) ha hb' hs).weak fun ρ H Q ⟨HW,Z,ok,w⟩=>⟨HW,Z,ok,WRW.ge ok (fun w1 d HW1 Z1 H1 v ok1 z1 rd wl=>?_) w⟩
 refine⟨w1,HW1,Z1,ok1,Z1,S,ok1.nm,?_⟩;cases q:gb S with
 | err k=>rw[q]at wl;exact fun H' x=>wl HW1 Z1 H' ⟨fun b o _ e=>x b o e,Same.refl _,ok1.zh.trans x,ok1.wh.trans x,fun _ h=>h,fun _ h=>.inl h,fun _ h=>.inl h,ok1.gx.dj⟩ ok1.wd
 | stuck=>rw[q]at wl;exact wl
 | ok y =>
  rw[q]at wl;intro H2 Z2 x2 u ru;have g2:=ok1.ex x2;have w3:WRW G.K G.C G.E HW1 Z2 H2 (fun _ d _ Z' H'=>∀ v,Rep G.K G.C Z' d v→Q v H') (rwR w1 (dIx d y)):=WRW.more g2 wl;have key:=sQ (F:=G.at (fun _=>none) (fun _=>none)) H2 Z2 v u d y Q x2.sub (rd.mono x2.z) ru;rw[bg.K];refine key ?_;cases q2:dIx d y with
  | ok z=>rw[q2]at w3;exact fun H3 Z3 x3 v3 r3=>w3 HW1 Z3 H3 (GX.ex g2.zh g2.wh g2.dj x3) ((ok1.wd.mono (Same.refl _) x2.z).mono (Same.refl _) x3.z) v3 r3
  | err e =>
   rw[q2]at w3;exact fun H' x=>w3 HW1 Z2 H' ⟨fun b o _ e=>x b o e,Same.refl _,g2.zh.trans x,g2.wh.trans x,fun _ h=>h,fun _ h=>.inl h,fun _ h=>.inl h,g2.dj⟩ (ok1.wd.mono (Same.refl _) x2.z)
  | stuck=>rw[q2]at w3;exact w3
def rwAnd (r:RW)(k:Wd→RW):RW:=rwB r fun w d=>match d with
 | .bl true=>k w
 | .bl false=>.ok w (.bl false)
 | _=>.stuck
def rwOr (r:RW)(k:Wd→RW):RW:=rwB r fun w d=>match d with
 | .bl true=>.ok w (.bl true)
 | .bl false=>k w
 | _=>.stuck
theorem yW {op}(h:GE X G W S a r):GE X G W S (.BoolOp op [a] pos) r:=su h
theorem qp (ha:GE X G W S a r)(hb:∀ w,GE X G w S (.BoolOp .And (b::rest) pos) (r2 w)):GE X G W S (.BoolOp .And (a::b::rest) pos) (rwAnd r r2):=by
 have hb':PE X (.BoolOp .And (b::rest) pos) (fun ρ H Q=>∃ w,tGE G w S (r2 w) ρ H Q):=fun pins s ρ H Q I ⟨w,t⟩=>hb w pins s ρ H Q I t
 refine(sv ha hb').weak fun ρ H Q ⟨HW,Z,ok,w⟩=>⟨HW,Z,ok,WRW.ge ok (fun w1 d HW1 Z1 H1 v ok1 z1 rd wl=>?_) w⟩
 cases d with
 | bl t =>
  rw[Rep]at rd;refine⟨t,rd,?_⟩;cases t with
  | true=>exact⟨w1,HW1,Z1,ok1,wl⟩
  | false=>exact wl HW1 Z1 H1 ok1.self ok1.wd _ (by rw[Rep])
 | _=>exact wl.elim
theorem WRW.gt {HW Z H:Hp}{ρ:St}{P:Wd→D→Hp→Hp→Hp→Prop}{k:Wd→D→RW}{Q:Bool→Hp→Prop}(ok:GOk G W HW Z H S ρ)(hQ:∀ w d HW' Z' H',GOk G w HW' Z' H' S ρ→Same Z Z'→WRW G.K G.C G.E HW' Z' H' P (k w d)→∃ t,d=.bl t∧Q t H'):∀ {r:RW},WRW G.K G.C G.E HW Z H P (rwB r k)→WRW G.K G.C G.E HW Z H (fun _ d _ Z' H'=>∃ t,d=.bl t∧Q t H') r
 | .ok w d,h=>fun HW' Z' H' x wd=>hQ w d HW' Z' H' (ok.more x wd) x.z (WRW.more x h)
 | .er w k,h=>h
 | .al w f,h=>fun a e=>WRW.gt ok hQ (h a e)
 | .stuck,h=>h
abbrev GW (X:Cx)(G:Gx)(W:Wd)(S:SS)(e:Expr)(r:RW):Prop:=PW X e (tGT G W S r)
theorem uJ (h:GT X G W S a r):GW X G W S (.BoolOp .Or [a] pos) r:=sr h
theorem gt_w {e:Expr}(h:GW X G W S e r):GT X G W S e r:=h.pt
theorem uK (ha:GT X G W S a r)(hb:∀ w,GW X G w S (.BoolOp .Or (b::rest) pos) (r2 w)):GW X G W S (.BoolOp .Or (a::b::rest) pos) (rwOr r r2):=by
 have hb':PW X (.BoolOp .Or (b::rest) pos) (fun ρ H Q=>∃ w,tGT G w S (r2 w) ρ H Q):=fun wh pins s ρ H Q I ⟨w,t⟩=>hb w wh pins s ρ H Q I t
 refine fun wh pins s ρ H Q I ⟨HW,Z,ok,w⟩=>xr ha hb' wh pins s ρ H Q I ⟨HW,Z,ok,WRW.gt ok (fun w1 d HW1 Z1 H1 ok1 z1 wl=>?_) w⟩
 cases d with
 | bl t =>
  refine⟨t,rfl,?_⟩;cases t with
  | true =>
   rw[if_pos rfl];obtain⟨t,e,q⟩:=wl HW1 Z1 H1 ok1.self ok1.wd;cases e;exact q
  | false=>rw[if_neg Bool.false_ne_true];exact⟨w1,HW1,Z1,ok1,wl⟩
 | _=>exact wl.elim
theorem yX {op:CmpOp}{rr:R2}{ff:D→D→R D}(ho:OpR X (compareOp op) rr)(hd:∀ H0 Z0,OpD (G.at H0 Z0) rr ff)(ha:GE X G W S a r)(hb:∀ H0 Z0 W',Wk (G.at H0 Z0) W'→FE X (G.at H0 Z0) b gb)(hm:behindInMarks op b=false:=by first | exact nomark _ | rfl) :
  GT X G W S (.Compare a [op] [b] pos) (rwB r fun w d=>rwA w (gb S) fun y=>rwR w (ff d y)) :=
 (pF ho ha (uj (S:=S) hb) hm).weak fun ρ H Q ⟨HW,Z,ok,w⟩=>by
  have w':WRW G.K G.C G.E HW Z H (fun _ d _ Z' H'=>∀ v,Rep G.K G.C Z' d v→∃ t,v=.bl t∧Q t H') (rwB r fun w d=>rwA w (gb S) fun y=>rwR w (ff d y)):=w.imp fun w1 d HW' Z' H' x wd ⟨t,e,q⟩ v rv=>by subst e;rw[Rep]at rv;exact⟨t,rv,q⟩
  exact⟨HW,Z,ok,WRW.bind (fun w1 d HW1 Z1 H1 x1 wd1 w2 v rv=>by
   have ok1:=ok.more x1 wd1;refine⟨w1,HW1,Z1,ok1,qf (α:=Unit) ok1 w2 fun y vy H2 Z2 ok2 gx2 ry w3=>?_⟩;refine hd (kp HW1 Z2 G.HW0 G.H0 H2) Z2 H2 Z2 v vy d y (fun v H'=>∃ t,v=.bl t∧Q t H') ok2.zh (rv.mono gx2.z) ry ?_;cases q:ff d y with
   | ok z=>rw[q]at w3;exact fun H3 Z3 x3=>w3 HW1 Z3 H3 (ok2.ex x3) (ok2.wd.mono (Same.refl _) x3.z)
   | err k=>rw[q]at w3;exact fun H' x=>w3 HW1 Z2 H' ⟨fun b o _ e=>x b o e,Same.refl _,ok2.zh.trans x,ok2.wh.trans x,fun _ h=>h,fun _ h=>.inl h,fun _ h=>.inl h,ok2.gx.dj⟩ ok2.wd
   | stuck=>rw[q]at w3;exact w3) w'⟩
theorem uL (bg:BG X G k)(ha:GE X G W S a r)(hb:∀ H0 Z0 W',Wk (G.at H0 Z0) W'→FE X (G.at H0 Z0) b gb):GT X G W S (.Compare a [.NotEq] [b] pos) (rwB r fun w d=>rwA w (gb S) fun y=>rwR w (dNf d y)) :=
 yX (xz (F:=G.at G.H0 G.Z0) bg.K bg.room) (fun _ _=>oz) ha hb
end
end FF
end
noncomputable section
namespace Lw
open PySem FF
def esL:List Nat:=[1,2,4,5,9,11]
namespace F
abbrev ax:Nat:=20
abbrev ay:Nat:=21
abbrev aL:Nat:=22
abbrev aF:Nat:=23
abbrev aC:Nat:=24
abbrev ar:Nat:=25
abbrev aB:Nat:=26
abbrev av:Nat:=105
abbrev aG:Nat:=27
abbrev aq:Nat:=28
abbrev ak:Nat:=29
abbrev az:Nat:=69
abbrev aK:Nat:=70
abbrev aM:Nat:=125
abbrev aJ:Nat:=84
abbrev aI:Nat:=127
abbrev ap:Nat:=128
abbrev ae:Nat:=146
abbrev ah:Nat:=147
abbrev af:Nat:=148
abbrev ad:Nat:=149
abbrev an:Nat:=150
abbrev ag:Nat:=151
abbrev ai:Nat:=152
abbrev aj:Nat:=153
abbrev aH:Nat:=154
abbrev ab:Nat:=155
abbrev aE:Nat:=158
abbrev aA:Nat:=159
abbrev aw:Nat:=160
abbrev ao:Nat:=161
abbrev ac:Nat:=280
abbrev aa:Nat:=334
abbrev aD:Nat:=30
abbrev al:Nat:=31
abbrev au:Nat:=89
end F
def fvL:List Nat:=[21,146,147,148,149,150,151,152,153]
def mz:List (Str×Nat):=[("first",F.ae),("last",F.ah),("least",F.af),("greatest",F.ad),("sum",F.an),("times",F.ag),("less",F.ai),("same",F.aj)]
def jT (t:Nat→List D→R D)(thing:D):L Unit :=
 lB (vAnd (dIsA qInt thing) (vNot (dIsA qBool thing))) .rt
def jU (t:Nat→List D→R D)(thing:D):L Unit :=
 lB (vAnd (t F.ax [thing]) (rCh dLe dLe (.int 0) thing (.ok (.int 9)))) .rt
def lW (t:Nat→List D→R D)(thing:D):L Unit :=
 lB (vAnd (t F.ax [thing]) (rCh dLe dLe (.int 0) thing (.ok (.int 3)))) .rt
def lX (t:Nat→List D→R D)(size_:D)(thing:D)(is_end:D):L Unit :=
 lS (lB (σ:=Unit) (rNot (asB (dIsA qTup thing))) fun b=>if b=true then lB (onF fvL is_end fun i=>t i [thing]) .rt else .nx ()) fun _ =>
 lS (lB (σ:=Unit) (rOr (asB (dEq size_ (.int 0))) (asB ((dLen [thing]).bind fun x=>dNf x (.int 4)))) fun b1=>if b1=true then .rt (.bl false) else .nx ()) fun _ =>
 lB (((sq thing).bind fun xs=>cMap (fun part=>(dSub size_ (.int 1)).bind fun x1=>t F.aF [x1,part,is_end]) xs).bind fun x2=>dAll [x2]) .rt
def e9 (t:Nat→List D→R D)(thing:D)(is_end:D):L Unit :=
 lS (lB (σ:=Unit) (rOr (rNot (asB (dIsA qTup thing))) (asB ((dLen [thing]).bind fun x=>dNf x (.int 2)))) fun b=>if b=true then .rt (.bl false) else .nx ()) fun _ =>
 lB (vAnd ((dIx thing (.int 0)).bind fun x3=>t F.aL [x3]) ((dIx thing (.int 0)).bind fun x1=>(dIx thing (.int 1)).bind fun x2=>t F.aF [x1,x2,is_end])) .rt
def fm (t:Nat→List D→R D)(four:D):L Unit :=
 lB (dIx four (.int 0)) fun first =>
 lS (lB (σ:=Unit) (rAnd (rNot (asB (dIsA qTup first))) (asB (dEq four (.tup [first,first,first,first])))) fun b=>if b=true then .rt first else .nx ()) fun _ =>
 .rt four
def i9 (t:Nat→List D→R D)(tree_:D):L Unit :=
 lS (lB (σ:=Unit) (rNot (asB (dIsA qTup tree_))) fun b=>if b=true then .rt tree_ else .nx ()) fun _ =>
 lB ((((sq tree_).bind fun xs=>cMap (fun part=>t F.aB [part]) xs).bind fun x=>dTuple [x]).bind fun x1=>t F.ar [x1]) .rt
def fW (t:Nat→List D→R D)(tree_:D):L Unit :=
 lS (lB (σ:=Unit) (asB (dIsA qTup tree_)) fun b=>if b=true then .rt tree_ else .nx ()) fun _ =>
 .rt (.tup [tree_,tree_,tree_,tree_])
def hI (t:Nat→List D→R D)(thing:D):L Unit :=
 lB (t F.aC [thing,(.fn F.ay)]) .rt
def fb (t:Nat→List D→R D)(thing:D):L Unit :=
 lB (rNot (asB (t F.aG [thing]))) fun b=>if b=true then .er 1 else .nx ()
def uM (t:Nat→List D→R D)(picture:D):L Unit :=
 lB (t F.aq [picture]) fun _ =>
 lB ((dIx picture (.int 0)).bind fun x=>((dIx picture (.int 1)).bind fun x1=>t F.aB [x1]).bind fun x2=>.ok (.tup [x,x2])) .rt
def hU (t:Nat→List D→R D)(tree_:D)(order:D):L Unit :=
 lS (lB (σ:=Unit) (rNot (asB (dIsA qTup tree_))) fun b=>if b=true then .rt tree_ else .nx ()) fun _ =>
 lB (((sq order).bind fun xs=>cMap (fun number=>(dIx tree_ number).bind fun x=>t F.az [x,order]) xs).bind fun x1=>dTuple [x1]) .rt
def qu (t:Nat→List D→R D)(picture:D)(order:D):L Unit :=
 lB (t F.ak [picture]) fun shown =>
 lB ((dIx shown (.int 0)).bind fun x=>((dIx shown (.int 1)).bind fun x1=>t F.az [x1,order]).bind fun x2=>.ok (.tup [x,x2])) .rt
def nA (t:Nat→List D→R D)(picture:D):L Unit :=
 lB (t F.aK [picture,(tupI [2,0,3,1])]) .rt
def jV (t:Nat→List D→R D)(picture:D):L Unit :=
 lB (t F.aK [picture,(tupI [1,0,3,2])]) .rt
def ja (t:Nat→List D→R D)(thing:D):L Unit :=
 lB (rOr (rNot (asB (t F.ax [thing]))) (rNot (asB (rCh dLe dLt (.int 0) thing (.ok (.int 8)))))) fun b=>if b=true then .er 2 else .nx ()
def nB (t:Nat→List D→R D)(told:D)(step:D):L (D) :=
 lB (t F.aM [told]) fun told1 =>
 .nx told1
def nC (t:Nat→List D→R D)(picture:D)(way:D):L Unit :=
 lB (t F.ak [picture]) fun told =>
 lB (t F.aI [way]) fun _ =>
 lS (lB (σ:=D) (asB (dGe way (.int 4))) fun b=>if b=true then lB (t F.aJ [told]) fun told1 =>
 .nx told1 else .nx told) fun told2 =>
 lS (lB ((dMod way (.int 4)).bind fun x=>rng1 [x]) fun xs=>lFor (τ:=D) (fun s x=>nB t s x) xs told2) fun told4 =>
 .rt told4
def fX (t:Nat→List D→R D)(one:D)(other:D):L Unit :=
 .rt one
def hV (t:Nat→List D→R D)(one:D)(other:D):L Unit :=
 .rt other
def fY (t:Nat→List D→R D)(one:D)(other:D):L Unit :=
 lB (dMin2 [one,other]) .rt
def dN (t:Nat→List D→R D)(one:D)(other:D):L Unit :=
 lB (dMax2 [one,other]) .rt
def jb (t:Nat→List D→R D)(one:D)(other:D):L Unit :=
 lB ((dAdd one other).bind fun x=>dMod x (.int 10)) .rt
def fZ (t:Nat→List D→R D)(one:D)(other:D):L Unit :=
 lB ((dMul one other).bind fun x=>dMod x (.int 10)) .rt
def hZ (t:Nat→List D→R D)(one:D)(other:D):L Unit :=
 lB ((dSub one other).bind fun x=>dAbs [x]) .rt
def h7 (t:Nat→List D→R D)(one:D)(other:D):L Unit :=
 lB (rIf (asB (dEq one other)) (.ok (.int 1)) (.ok (.int 0))) .rt
def h8 (t:Nat→List D→R D)(thing:D)(words:D):L Unit :=
 lB (asB (dNotInD thing words)) fun b=>if b=true then .er 5 else .nx ()
def ia (t:Nat→List D→R D)(thing:D):L Unit :=
 lB (t F.aH [thing,(tabK mz)]) fun _ =>
 .nx ()
def iN (t:Nat→List D→R D)(things:D)(thing:D):L (Unit) :=
 lB (asB ((dIx thing (.int 0)).bind fun x=>((dIx things (.int 0)).bind fun x1=>dIx x1 (.int 0)).bind fun x2=>dNf x x2)) fun b=>if b=true then .er 4 else .nx ()
def f8 (t:Nat→List D→R D)(things:D):L Unit :=
 lS (lB (sq things) fun xs=>lFor (τ:=Unit) (fun _ x=>iN t things x) xs ()) fun _ =>
 .nx ()
def fS (t:Nat→List D→R D)(picture:D):L (Unit) :=
 lB (t F.aq [picture]) fun _ =>
 .nx ()
def dO (t:Nat→List D→R D)(pictures:D):L Unit :=
 lS (lB (sq pictures) fun xs=>lFor (τ:=Unit) (fun _ x=>fS t x) xs ()) fun _ =>
 lB (t F.aE [pictures]) fun _ =>
 .nx ()
def f9 (t:Nat→List D→R D)(make:D)(one:D)(other:D):L Unit :=
 lS (lB (σ:=Unit) (rAnd (rNot (asB (dIsA qTup one))) (rNot (asB (dIsA qTup other)))) fun b=>if b=true then lB (onF fvL make fun i=>t i [one,other]) .rt else .nx ()) fun _ =>
 lB (((t F.av [one]).bind fun x=>(t F.av [other]).bind fun x1=>dZip x x1).bind fun zs=>.ok (.lst zs)) fun couples =>
 lB ((((sq couples).bind fun xs=>cMap (fun couple=>(dIx couple (.int 0)).bind fun x2=>(dIx couple (.int 1)).bind fun x3=>t F.aw [make,x2,x3]) xs).bind fun x4=>dTuple [x4]).bind fun x5=>t F.ar [x5]) .rt
def nD (t:Nat→List D→R D)(rule:D)(one:D)(other:D):L Unit :=
 lB (t F.ab [rule]) fun _ =>
 lB (t F.aA [(.lst [one,other])]) fun _ =>
 lB ((dIx one (.int 0)).bind fun x=>((dTab mz rule).bind fun x1=>(dIx one (.int 1)).bind fun x2=>(dIx other (.int 1)).bind fun x3=>t F.aw [x1,x2,x3]).bind fun x4=>.ok (.tup [x,x4])) .rt
def lY (t:Nat→List D→R D)(thing:D):L Unit :=
 lS (lB (σ:=Unit) (rOr (rNot (asB (dIsA qStr thing))) (rNot (asB ((dLenS [thing]).bind fun x=>rCh dLe dLe (.int 1) x (.ok (.int 5)))))) fun b=>if b=true then .rt (.bl false) else .nx ()) fun _ =>
 lB (((asTxt thing).bind fun xs=>cMap (fun sign=>dInS sign (.str "abcdefghijklmnopqrstuvwxyz")) xs).bind fun x1=>dAll [x1]) .rt
def cx (t:Nat→List D→R D)(thing:D):L Unit :=
 lB (rNot (asB (t F.ac [thing]))) fun b=>if b=true then .er 11 else .nx ()
def ib (t:Nat→List D→R D)(zT:D)(Aa:D):L Unit :=
 lS (lB (σ:=Unit) (asB ((dLen [zT]).bind fun x=>dLt Aa x)) fun b=>if b=true then lB (dIx zT Aa) .rt else .nx ()) fun _ =>
 lS (lB (σ:=Unit) (asB (dEq zT (.lst []))) fun b1=>if b1=true then .rt (.int 0) else .nx ()) fun _ =>
 lB (((((dLen [zT]).bind fun x1=>dMod Aa x1).bind fun x2=>dIx zT x2).bind fun x3=>dMul x3 (.int 31)).bind fun x4=>dAdd x4 Aa) .rt
def ic (t:Nat→List D→R D)(zT:D)(Aa:D)(As:D):L Unit :=
 lB ((((t F.aD [zT,Aa]).bind fun x=>((dAdd Aa (.int 1)).bind fun x1=>dMul (.int 6151) x1).bind fun x2=>dAdd x x2).bind fun x3=>dMul x3 (.int 40692)).bind fun x4=>dMod x4 (.int 2147483399)) fun Ar =>
 lB ((((dMul Ar Ar).bind fun x5=>(dDiv Ar (.int 31)).bind fun x6=>dAdd x5 x6).bind fun x7=>dMod x7 (.int 2147483629)).bind fun x8=>dMod x8 As) .rt
def iO (t:Nat→List D→R D)(zV:D):L Unit :=
 lB ((dIsA (qEx esL 3) zV).bind fun x=>(dIsA (qEx esL 6) zV).bind fun x1=>(dIsA (qEx esL 7) zV).bind fun x2=>.ok [x,x1,x2]) fun Ap=>lB (((dIsA (qEx esL 11) zV).bind fun x3=>.ok (.lst [x3])).bind fun x4=>oExt Ap x4) fun Ac =>
 lB (((dIsA (qEx esL 8) zV).bind fun x5=>(dIsA (qEx esL 1) zV).bind fun x6=>(dIsA (qEx esL 5) zV).bind fun x7=>.ok (.lst [x5,x6,x7])).bind fun x8=>dAdd (.lst Ac) x8) fun Ae =>
 lB (((dIsA (qEx esL 2) zV).bind fun x9=>(dIsA (qEx esL 10) zV).bind fun x10=>(dIsA (qEx esL 9) zV).bind fun x11=>.ok (.lst [x9,x10,x11])).bind fun x12=>dAdd Ae x12) fun Af =>
 lB (((dIsA (qEx esL 4) zV).bind fun x13=>.ok (.lst [x13])).bind fun x14=>dAdd Af x14) fun zY =>
 lS (lB (σ:=Unit) (rOr (asB ((onL zY fun ls=>dCount ls [(.bl true)]).bind fun x15=>dNf x15 (.int 1))) (rNot (asB (dIsA (qVx esL) zV)))) fun b=>if b=true then .rt (.str "wrong") else .nx ()) fun _ =>
 lB (oExt [(.str "bad box"),(.str "no blocks"),(.str "no change"),(.str "no name"),(.str "no number"),(.str "no picture"),(.str "no rule")] (.lst [(.str "no spot"),(.str "no text")])) fun Ag =>
 lB ((dAdd (.lst Ag) (.lst [(.str "nothing done"),(.str "unlike")])).bind fun x16=>(onL zY fun ls1=>dIndex ls1 [(.bl true)]).bind fun x17=>dIx x16 x17) .rt
def pf:Nat→Nat→List D→R D
 | 0,_=>fun _=>.stuck
 | n+1,i=>match i with
  | 20=>a1 (jT (pf n))
  | 21=>a1 (jU (pf n))
  | 22=>a1 (lW (pf n))
  | 23=>a3 (lX (pf n))
  | 24=>a2 (e9 (pf n))
  | 25=>a1 (fm (pf n))
  | 26=>a1 (i9 (pf n))
  | 105=>a1 (fW (pf n))
  | 27=>a1 (hI (pf n))
  | 28=>a1 (fb (pf n))
  | 29=>a1 (uM (pf n))
  | 69=>a2 (hU (pf n))
  | 70=>a2 (qu (pf n))
  | 125=>a1 (nA (pf n))
  | 84=>a1 (jV (pf n))
  | 127=>a1 (ja (pf n))
  | 128=>a2 (nC (pf n))
  | 146=>a2 (fX (pf n))
  | 147=>a2 (hV (pf n))
  | 148=>a2 (fY (pf n))
  | 149=>a2 (dN (pf n))
  | 150=>a2 (jb (pf n))
  | 151=>a2 (fZ (pf n))
  | 152=>a2 (hZ (pf n))
  | 153=>a2 (h7 (pf n))
  | 154=>a2 (h8 (pf n))
  | 155=>a1 (ia (pf n))
  | 158=>a1 (f8 (pf n))
  | 159=>a1 (dO (pf n))
  | 160=>a3 (f9 (pf n))
  | 161=>a3 (nD (pf n))
  | 280=>a1 (lY (pf n))
  | 334=>a1 (cx (pf n))
  | 30=>a2 (ib (pf n))
  | 31=>a3 (ic (pf n))
  | 89=>a1 (iO (pf n))
  | _=>fun _=>.stuck
theorem kN (n:Nat)(a0:D):pf (n+1) F.aa [a0]=outL (cx (pf n) a0):=rfl
theorem rS (n:Nat)(a0 a1:D):pf (n+1) F.aD [a0,a1]=outL (ib (pf n) a0 a1):=rfl
theorem rT (n:Nat)(a0 a1 a2:D):pf (n+1) F.al [a0,a1,a2]=outL (ic (pf n) a0 a1 a2):=rfl
namespace M
abbrev uq9:Nat:=1
abbrev uqw:Nat:=2
abbrev uq1:Nat:=3
abbrev uj1:Nat:=4
abbrev ujv:Nat:=5
abbrev ujw:Nat:=6
abbrev uj2:Nat:=7
abbrev uja:Nat:=8
abbrev uqp:Nat:=9
abbrev uqs:Nat:=10
abbrev uql:Nat:=11
abbrev uqa:Nat:=12
abbrev uqt:Nat:=13
abbrev uqc:Nat:=14
abbrev uqn:Nat:=15
abbrev uqu:Nat:=16
abbrev uqo:Nat:=17
abbrev ujo:Nat:=18
abbrev ujb:Nat:=19
abbrev ujc:Nat:=20
abbrev law_k84:Nat:=21
end M
def aw (t:Nat→List D→R D)(rf:Wd→RW)(W:Wd):LW Unit :=
 lwTryR (qTk esL) (t F.au) (lwB (rf W) fun w d=>.rt w d)
def cy (t:Nat→List D→R D)(tr:Nat→Wd→List D→R D)(tw:Nat→Wd→List D→RW)(W:Wd)(self:D)(first:D):LW Unit :=
 lwB (rwR W (.ok (.lst [first]))) fun w d=>wFld 12 w "pages" self d fun w1 =>
 lwB (rwR w1 (.ok (.int 0))) fun w2 d1=>wFld 12 w2 "place" self d1 fun w3 =>
 .nx w3 ()
def cz (t:Nat→List D→R D)(tr:Nat→Wd→List D→R D)(W:Wd)(self:D):L Unit :=
 lB ((dFld 12 W "pages" self).bind fun x=>(dFld 12 W "place" self).bind fun x1=>dIx x x1) .rt
def b0 (t:Nat→List D→R D)(tr:Nat→Wd→List D→R D)(tw:Nat→Wd→List D→RW)(W:Wd)(self:D)(page:D):LW Unit :=
 lwB (rwR W ((dFld 12 W "place" self).bind fun x=>dAdd x (.int 1))) fun w d=>wFld 12 w "place" self d fun w1 =>
 lwB (rwR w1 (((dFld 12 w1 "pages" self).bind fun x1=>((dFld 12 w1 "place" self).bind asI).bind fun i=>dSw x1 none i).bind fun x2=>dAdd x2 (.lst [page]))) fun w2 d1=>wFld 12 w2 "pages" self d1 fun w3 =>
 .nx w3 ()
def cA (t:Nat→List D→R D)(tr:Nat→Wd→List D→R D)(tw:Nat→Wd→List D→RW)(W:Wd)(self:D):LW Unit :=
 lwS (lwT (σ:=Unit) (rwR W (((asB ((dFld 12 W "place" self).bind fun x=>dEq x (.int 0)))).bind fun t=>.ok (.bl t))) (fun w=>.er w 9) (fun w1=>.nx w1 ())) fun w2 _ =>
 lwR w2 (rM 12 "here" w2 self (tr M.uqw w2 [self])) fun left =>
 lwB (rwR w2 ((dFld 12 w2 "place" self).bind fun x1=>dSub x1 (.int 1))) fun w3 d=>wFld 12 w3 "place" self d fun w4 =>
 .rt w4 left
def b7 (t:Nat→List D→R D)(tr:Nat→Wd→List D→R D)(tw:Nat→Wd→List D→RW)(W:Wd)(self:D):LW Unit :=
 lwS (lwT (σ:=Unit) (rwR W (((asB ((dFld 12 W "place" self).bind fun x=>(((dFld 12 W "pages" self).bind fun x1=>dLen [x1]).bind fun x2=>dSub x2 (.int 1)).bind fun x3=>dEq x x3))).bind fun t=>.ok (.bl t))) (fun w=>.er w 9) (fun w1=>.nx w1 ())) fun w2 _ =>
 lwB (rwR w2 ((dFld 12 w2 "place" self).bind fun x4=>dAdd x4 (.int 1))) fun w3 d=>wFld 12 w3 "place" self d fun w4 =>
 lwR w4 (rM 12 "here" w4 self (tr M.uqw w4 [self])) fun d=>.rt w4 d
def b8 (t:Nat→List D→R D)(tr:Nat→Wd→List D→R D)(W:Wd)(self:D):L Unit :=
 lB ((dFld 12 W "place" self).bind fun x=>((((dFld 12 W "pages" self).bind fun x1=>dLen [x1]).bind fun x2=>dSub x2 (.int 1)).bind fun x3=>(dFld 12 W "place" self).bind fun x4=>dSub x3 x4).bind fun x5=>.ok (.tup [x,x5])) .rt
def cB (t:Nat→List D→R D)(tr:Nat→Wd→List D→R D)(tw:Nat→Wd→List D→RW)(W:Wd)(self:D):LW Unit :=
 lwB (rwA W (.ok self) fun o=>rwM 13 "begin" W o (rwA W (rL [(.ok (.dic [] []))]) fun ds=>tw M.uja W (o::ds))) fun w _ =>
 .nx w ()
def b9 (t:Nat→List D→R D)(tr:Nat→Wd→List D→R D)(tw:Nat→Wd→List D→RW)(W:Wd)(self:D)(held:D):LW Unit :=
 lwB (rwA W (rL [(.ok (.tup [(.str ""),held]))]) (rwNew 12 W (tw M.uq9))) fun w d=>wFld 13 w "steps" self d fun w1 =>
 .nx w1 ()
def bt (t:Nat→List D→R D)(tr:Nat→Wd→List D→R D)(W:Wd)(self:D):L Unit :=
 lB (((dFld 13 W "steps" self).bind fun x=>rM 12 "here" W x (tr M.uqw W [x])).bind fun x1=>dIx x1 (.int 1)) .rt
def cc (t:Nat→List D→R D)(tr:Nat→Wd→List D→R D)(tw:Nat→Wd→List D→RW)(W:Wd)(self:D)(word:D)(name:D)(picture:D):LW Unit :=
 lwR W ((rM 13 "pictures" W self (tr M.uqp W [self])).bind fun x=>dicOf x) fun held =>
 lwR W (oDSt held name picture) fun held1 =>
 lwB (rwA W (dFld 13 W "steps" self) fun o=>rwM 12 "go_on" W o (rwA W (rL [(.ok (.tup [word,(dicD held1)]))]) fun ds=>tw M.uq1 W (o::ds))) fun w _ =>
 .nx w ()
def bG (t:Nat→List D→R D)(tr:Nat→Wd→List D→R D)(tw:Nat→Wd→List D→RW)(W:Wd)(self:D)(name:D)(picture:D):LW Unit :=
 lwR W (t F.ak [picture]) fun told =>
 lwB (rwR W (t F.aa [name])) fun w _ =>
 lwR w ((rM 13 "pictures" w self (tr M.uqp w [self])).bind fun x=>dDin name x) fun had =>
 lwB (rwA w (.ok self) fun o=>rwM 13 "go_on" w o (rwA w (rL [(.ok (.str "put")),(.ok name),(.ok told)]) fun ds=>tw M.uqs w (o::ds))) fun w1 _ =>
 .rt w1 had
def aD (t:Nat→List D→R D)(tr:Nat→Wd→List D→R D)(W:Wd)(self:D)(name:D):L Unit :=
 lS (lB (σ:=Unit) (rOr (rNot (asB (t F.ac [name]))) (asB ((rM 13 "pictures" W self (tr M.uqp W [self])).bind fun x=>dDnin name x))) fun b=>if b=true then .er 11 else .nx ()) fun _ =>
 lB ((rM 13 "pictures" W self (tr M.uqp W [self])).bind fun x1=>dDx x1 name) .rt
def bM (t:Nat→List D→R D)(tr:Nat→Wd→List D→R D)(tw:Nat→Wd→List D→RW)(W:Wd)(self:D)(name:D):LW Unit :=
 lwR W (rM 13 "picture_of" W self ((rL [(.ok name)]).bind fun ds=>tr M.uqa W (self::ds))) fun told =>
 lwR W ((rM 13 "pictures" W self (tr M.uqp W [self])).bind fun x=>dicOf x) fun held =>
 lwR W (oDPop held name) fun held1 =>
 lwB (rwA W (dFld 13 W "steps" self) fun o=>rwM 12 "go_on" W o (rwA W (rL [(.ok (.tup [(.str "take"),(dicD held1)]))]) fun ds=>tw M.uq1 W (o::ds))) fun w _ =>
 .rt w told
def bu (t:Nat→List D→R D)(tr:Nat→Wd→List D→R D)(tw:Nat→Wd→List D→RW)(W:Wd)(self:D)(name:D)(rule:D)(one:D)(other:D):LW Unit :=
 lwB (rwR W (t F.ab [rule])) fun w _ =>
 lwB (rwR w (t F.aa [name])) fun w1 _ =>
 lwR w1 ((rM 13 "picture_of" w1 self ((rL [(.ok one)]).bind fun ds=>tr M.uqa w1 (self::ds))).bind fun x=>(rM 13 "picture_of" w1 self ((rL [(.ok other)]).bind fun ds1=>tr M.uqa w1 (self::ds1))).bind fun x1=>t F.ao [rule,x,x1]) fun told =>
 lwB (rwA w1 (.ok self) fun o=>rwM 13 "go_on" w1 o (rwA w1 (rL [(.ok (.str "join")),(.ok name),(.ok told)]) fun ds=>tw M.uqs w1 (o::ds))) fun w2 _ =>
 .rt w2 told
def bv (t:Nat→List D→R D)(tr:Nat→Wd→List D→R D)(tw:Nat→Wd→List D→RW)(W:Wd)(self:D)(name:D)(way:D):LW Unit :=
 lwR W ((rM 13 "picture_of" W self ((rL [(.ok name)]).bind fun ds=>tr M.uqa W (self::ds))).bind fun x=>t F.ap [x,way]) fun told =>
 lwB (rwA W (.ok self) fun o=>rwM 13 "go_on" W o (rwA W (rL [(.ok (.str "move")),(.ok name),(.ok told)]) fun ds=>tw M.uqs W (o::ds))) fun w _ =>
 .rt w told
def ce (t:Nat→List D→R D)(tr:Nat→Wd→List D→R D)(W:Wd)(self:D):L Unit :=
 lB ((rM 13 "pictures" W self (tr M.uqp W [self])).bind fun x=>dSortD [x]) .rt
def bd (t:Nat→List D→R D)(tr:Nat→Wd→List D→R D)(W:Wd)(self:D)(name:D):L Unit :=
 lB (rM 13 "picture_of" W self ((rL [(.ok name)]).bind fun ds=>tr M.uqa W (self::ds))) fun told =>
 lB (((rM 13 "names" W self (tr M.uqu W [self])).bind fun x=>sq x).bind fun xs=>cFil (fun other=>(rAnd (asB (dNf other name)) (asB ((rM 13 "picture_of" W self ((rL [(.ok other)]).bind fun ds1=>tr M.uqa W (self::ds1))).bind fun x1=>dEq x1 told)))) (fun other=>.ok other) xs) .rt
def cC (t:Nat→List D→R D)(tr:Nat→Wd→List D→R D)(tw:Nat→Wd→List D→RW)(W:Wd)(self:D):LW Unit :=
 lwB (rwB (rwA W (dFld 13 W "steps" self) fun o=>rwM 12 "back" W o (tw M.uj1 W [o])) fun w d=>rwA w (.ok (.int 0)) fun y=>rwR w (dIx d y)) fun w d=>.rt w d
def cf (t:Nat→List D→R D)(tr:Nat→Wd→List D→R D)(tw:Nat→Wd→List D→RW)(W:Wd)(self:D):LW Unit :=
 lwB (rwB (rwA W (dFld 13 W "steps" self) fun o=>rwM 12 "forth" W o (tw M.ujv W [o])) fun w d=>rwA w (.ok (.int 0)) fun y=>rwR w (dIx d y)) fun w d=>.rt w d
def cg (t:Nat→List D→R D)(tr:Nat→Wd→List D→R D)(W:Wd)(self:D):L Unit :=
 lB ((dFld 13 W "steps" self).bind fun x=>rM 12 "marks" W x (tr M.ujw W [x])) .rt
def bN (t:Nat→List D→R D)(tr:Nat→Wd→List D→R D)(tw:Nat→Wd→List D→RW)(zT:D)(At:D)(zR:D)(W:Wd)(Aa:D):LW Unit :=
 lwR W ((((t F.al [zT,.int 0,.int 9]).bind fun x=>(dMul (.int 2) Aa).bind fun x1=>dAdd x x1).bind fun x2=>dMod x2 (.int 9)).bind fun x3=>dIx At x3) fun zW =>
 lwR W ((((t F.al [zT,.int 1,.int 8]).bind fun x4=>(dMul (.int 3) Aa).bind fun x5=>dAdd x4 x5).bind fun x6=>dMod x6 (.int 8)).bind fun x7=>dIx (.lst [.non,(.str ""),(.str "A"),(.str "abcdef"),.int 5,(.lst [(.str "a")]),(.str "a b"),(.str "a1")]) x7) fun zS =>
 lwR W ((((t F.al [zT,.int 2,.int 4]).bind fun x8=>dAdd x8 Aa).bind fun x9=>dMod x9 (.int 4)).bind fun x10=>dIx (.lst [(.str "c"),(.str "ab"),(.str "x"),(.str "none")]) x10) fun zU =>
 lwR W ((((t F.al [zT,.int 3,.int 6]).bind fun x11=>dAdd x11 Aa).bind fun x12=>dMod x12 (.int 6)).bind fun x13=>dIx (.lst [(.str "most"),.non,.int 0,(.lst [(.str "sum")]),(.str "Sum"),(.str "")]) x13) fun zX =>
 lwB (outW (aw t (fun w=>rwA w (.ok zR) fun o=>rwM 13 "put" w o (rwA w (rL [((dMod Aa (.int 2)).bind fun x15=>dIx (.lst [zS,(.str "a")]) x15),(.ok zW)]) fun ds=>tw M.uql w (o::ds))) W)) fun w1 Aq =>
 lwB (outW (aw t (fun w2=>rwA w2 (.ok zR) fun o1=>rwM 13 "join" w2 o1 (rwA w2 (rL [((dMod Aa (.int 2)).bind fun x17=>dIx (.lst [zS,(.str "a")]) x17),(.ok zX),(.ok zU),(.ok (.str "b"))]) fun ds=>tw M.uqc w2 (o1::ds))) w1)) fun w3 d=>lwR w3 (oApp [Aq] d) fun Ah =>
 lwB (outW (aw t (fun w4=>rwA w4 (.ok zR) fun o2=>rwM 13 "join" w4 o2 (rwA w4 (rL [(.ok (.str "c")),(.ok (.str "sum")),(.ok (.str "a")),(.ok (.str "b"))]) fun ds=>tw M.uqc w4 (o2::ds))) w3)) fun w5 d1=>lwR w5 (oApp Ah d1) fun Ai =>
 lwB (outW (aw t (fun w6=>rwA w6 (.ok zR) fun o3=>rwM 13 "move" w6 o3 (rwA w6 (rL [(.ok (.str "a")),(dIx (.lst [.int 8,(.int (-1)),.int 9,.int 99]) Aa)]) fun ds=>tw M.uqn w6 (o3::ds))) w5)) fun w7 d2=>lwR w7 (oApp Ai d2) fun Ab =>
 lwS (lwT (σ:=Unit) (rwR w7 (((asB (dNf (.lst Ab) (.lst [(.str "no picture"),(.str "no rule"),(.str "unlike"),(.str "no spot")])))).bind fun t=>.ok (.bl t))) (fun w8=>.rt w8 (.bl false)) (fun w9=>.nx w9 ())) fun w10 _ =>
 lwB (outW (aw t (fun w11=>rwA w11 (.ok zR) fun o4=>rwM 13 "put" w11 o4 (rwA w11 (rL [(.ok zS),(.ok (.tup [.int 0,.int 0]))]) fun ds=>tw M.uql w11 (o4::ds))) w10)) fun w12 Aj =>
 lwB (outW (aw t (fun w13=>rwA w13 (.ok zR) fun o5=>rwM 13 "take" w13 o5 (rwA w13 (rL [((dMod Aa (.int 2)).bind fun x19=>dIx (.lst [zS,zU]) x19)]) fun ds=>tw M.uqt w13 (o5::ds))) w12)) fun w14 d3=>lwR w14 (oApp [Aj] d3) fun Ak =>
 lwB (outW (aw t (fun w15=>rwR w15 (rM 13 "picture_of" w15 zR ((rL [((dMod Aa (.int 2)).bind fun x21=>dIx (.lst [zU,zS]) x21)]).bind fun ds=>tr M.uqa w15 (zR::ds)))) w14)) fun w16 d4=>lwR w16 (oApp Ak d4) fun Al =>
 lwB (outW (aw t (fun w17=>rwA w17 (.ok zR) fun o6=>rwM 13 "move" w17 o6 (rwA w17 (rL [((dMod Aa (.int 2)).bind fun x23=>dIx (.lst [zS,zU]) x23),(.ok (.int 9))]) fun ds=>tw M.uqn w17 (o6::ds))) w16)) fun w18 d5=>lwR w18 (oApp Al d5) fun Am =>
 lwB (outW (aw t (fun w19=>rwR w19 (rM 13 "same_as" w19 zR ((rL [((dMod Aa (.int 2)).bind fun x25=>dIx (.lst [zU,zS]) x25)]).bind fun ds1=>tr M.uqo w19 (zR::ds1)))) w18)) fun w20 d6=>lwR w20 (oApp Am d6) fun An =>
 lwB (outW (aw t (fun w21=>rwA w21 (.ok zR) fun o7=>rwM 13 "join" w21 o7 (rwA w21 (rL [(.ok zS),(.ok (.str "sum")),(.ok (.str "a")),(.ok (.str "b"))]) fun ds=>tw M.uqc w21 (o7::ds))) w20)) fun w22 d7=>lwR w22 (oApp An d7) fun Ao =>
 lwB (outW (aw t (fun w23=>rwA w23 (.ok zR) fun o8=>rwM 13 "join" w23 o8 (rwA w23 (rL [(.ok (.str "c")),(.ok (.str "sum")),(.ok (.str "a")),((dMod Aa (.int 2)).bind fun x27=>dIx (.lst [zS,zU]) x27)]) fun ds=>tw M.uqc w23 (o8::ds))) w22)) fun w24 d8=>lwR w24 (oApp Ao d8) fun Ad =>
 lwB (outW (aw t (fun w25=>rwA w25 (.ok zR) fun o9=>rwM 13 "join" w25 o9 (rwA w25 (rL [(.ok (.str "c")),(.ok (.str "least")),((dMod Aa (.int 2)).bind fun x29=>dIx (.lst [zU,zS]) x29),(.ok (.str "b"))]) fun ds=>tw M.uqc w25 (o9::ds))) w24)) fun w26 d9=>lwR w26 (oApp Ad d9) fun zZ =>
 lwT (rwR w26 (((asB ((dMul (.lst [(.str "no name")]) (.int 8)).bind fun x30=>dNf (.lst zZ) x30))).bind fun t=>.ok (.bl t))) (fun w27=>.rt w27 (.bl false)) (fun w28=>.nx w28 ())
def fO (t:Nat→List D→R D)(tr:Nat→Wd→List D→R D)(tw:Nat→Wd→List D→RW)(W:Wd)(zT:D):LW Unit :=
 lwB (rwNew 13 W (tw M.uj2) []) fun w zR =>
 lwB (rwA w (.ok zR) fun o=>rwM 13 "put" w o (rwA w (rL [(.ok (.str "a")),(.ok (.tup [.int 1,(.tup [.int 1,.int 2,.int 3,.int 4])]))]) fun ds=>tw M.uql w (o::ds))) fun w1 _ =>
 lwB (rwA w1 (.ok zR) fun o1=>rwM 13 "put" w1 o1 (rwA w1 (rL [(.ok (.str "b")),(.ok (.tup [.int 2,.int 7]))]) fun ds=>tw M.uql w1 (o1::ds))) fun w2 _ =>
 lwB (rwA w2 (.ok zR) fun o2=>rwM 13 "move" w2 o2 (rwA w2 (rL [(.ok (.str "a")),(.ok (.int 1))]) fun ds=>tw M.uqn w2 (o2::ds))) fun w3 _ =>
 lwB (rwA w3 (.ok zR) fun o3=>rwM 13 "back" w3 o3 (tw M.ujo w3 [o3])) fun w4 _ =>
 lwS (lwR w4 (rng1 [.int 4]) fun xs=>lwFor (τ:=Unit) (fun W _ x=>bN t tr tw zT (.lst [.non,(.tup []),(.tup [.int 4,.int 0]),(.tup [.int 0,(.tup [.int 1,.int 1,.int 1,.int 1])]),(.tup [.int 1,(.tup [.int 1,.int 1,.int 1])]),(.lst [.int 0,.int 1]),(.tup [(.bl true),.int 1]),(.tup [.int 1,.int 10]),(.tup [.int 0,(.bl true)])]) zR W x) xs w4 ()) fun w35 _ =>
 lwS (lwT (σ:=Unit) (rwOr (rwR w35 (((asB ((rM 13 "names" w35 zR (tr M.uqu w35 [zR])).bind fun x32=>dNf x32 (.lst [(.str "a"),(.str "b")])))).bind fun t=>.ok (.bl t))) fun w36=>rwOr (rwR w36 (((asB ((rM 13 "marks" w36 zR (tr M.ujc w36 [zR])).bind fun x33=>dNf x33 (.tup [.int 2,.int 1])))).bind fun t=>.ok (.bl t))) fun w37=>rwB (rwA w37 (.ok zR) fun o14=>rwM 13 "forth" w37 o14 (tw M.ujb w37 [o14])) fun w38 d10=>rwA w38 (.ok (.str "move")) fun y=>rwR w38 (dNf d10 y)) (fun w39=>.rt w39 (.bl false)) (fun w40=>.nx w40 ())) fun w41 _ =>
 lwS (lwT (σ:=Unit) (rwOr (rwR w41 (((asB ((rM 13 "picture_of" w41 zR ((rL [(.ok (.str "a"))]).bind fun ds2=>tr M.uqa w41 (zR::ds2))).bind fun x34=>dNf x34 (.tup [.int 1,(.tup [.int 3,.int 1,.int 4,.int 2])])))).bind fun t=>.ok (.bl t))) fun w42=>rwB (rwA w42 (.ok zR) fun o15=>rwM 13 "join" w42 o15 (rwA w42 (rL [(.ok (.str "c")),(.ok (.str "less")),(.ok (.str "a")),(.ok (.str "a"))]) fun ds=>tw M.uqc w42 (o15::ds))) fun w43 d11=>rwA w43 (.ok (.tup [.int 1,.int 0])) fun y1=>rwR w43 (dNf d11 y1)) (fun w44=>.rt w44 (.bl false)) (fun w45=>.nx w45 ())) fun w46 _ =>
 lwB (rwAnd (rwB (rwA w46 (.ok zR) fun o16=>rwM 13 "take" w46 o16 (rwA w46 (rL [(.ok (.str "b"))]) fun ds=>tw M.uqt w46 (o16::ds))) fun w47 d12=>rwA w47 (.ok (.tup [.int 2,.int 7])) fun y2=>rwR w47 (dEq d12 y2)) fun w48=>rwAnd (rwR w48 ((rM 13 "names" w48 zR (tr M.uqu w48 [zR])).bind fun x35=>dEq x35 (.lst [(.str "a"),(.str "c")]))) fun w49=>rwR w49 ((rM 13 "same_as" w49 zR ((rL [(.ok (.str "a"))]).bind fun ds3=>tr M.uqo w49 (zR::ds3))).bind fun x36=>dEq x36 (.lst []))) fun w d=>.rt w d
def pr:Nat→Nat→Wd→List D→R D
 | 0,_=>fun _ _=>.stuck
 | n+1,i=>match i with
  | 2=>r1 (cz (pf n) (pr n))
  | 6=>r1 (b8 (pf n) (pr n))
  | 9=>r1 (bt (pf n) (pr n))
  | 12=>r2 (aD (pf n) (pr n))
  | 16=>r1 (ce (pf n) (pr n))
  | 17=>r2 (bd (pf n) (pr n))
  | 20=>r1 (cg (pf n) (pr n))
  | _=>fun _ _=>.stuck
def pw:Nat→Nat→Wd→List D→RW
 | 0,_=>fun _ _=>.stuck
 | n+1,i=>match i with
  | 1=>b2 (cy (pf n) (pr n) (pw n))
  | 3=>b2 (b0 (pf n) (pr n) (pw n))
  | 4=>b1 (cA (pf n) (pr n) (pw n))
  | 5=>b1 (b7 (pf n) (pr n) (pw n))
  | 7=>b1 (cB (pf n) (pr n) (pw n))
  | 8=>b2 (b9 (pf n) (pr n) (pw n))
  | 10=>b4 (cc (pf n) (pr n) (pw n))
  | 11=>b3 (bG (pf n) (pr n) (pw n))
  | 13=>b2 (bM (pf n) (pr n) (pw n))
  | 14=>b5 (bu (pf n) (pr n) (pw n))
  | 15=>b3 (bv (pf n) (pr n) (pw n))
  | 18=>b1 (cC (pf n) (pr n) (pw n))
  | 19=>b1 (cf (pf n) (pr n) (pw n))
  | 21=>match n with
   | m+2=>b1 (fO (pf m) (pr m) (pw m))
   | _=>fun _ _=>.stuck
  | _=>fun _ _=>.stuck
theorem kO (n:Nat)(W:Wd)(a0 a1:D):pw (n+1) M.uq9 W [a0,a1]=outW (cy (pf n) (pr n) (pw n) W a0 a1):=rfl
theorem kP (n:Nat)(W:Wd)(a0:D):pr (n+1) M.uqw W [a0]=outL (cz (pf n) (pr n) W a0):=rfl
theorem jW (n:Nat)(W:Wd)(a0 a1:D):pw (n+1) M.uq1 W [a0,a1]=outW (b0 (pf n) (pr n) (pw n) W a0 a1):=rfl
theorem kQ (n:Nat)(W:Wd)(a0:D):pw (n+1) M.uj1 W [a0]=outW (cA (pf n) (pr n) (pw n) W a0):=rfl
theorem jX (n:Nat)(W:Wd)(a0:D):pw (n+1) M.ujv W [a0]=outW (b7 (pf n) (pr n) (pw n) W a0):=rfl
theorem jY (n:Nat)(W:Wd)(a0:D):pr (n+1) M.ujw W [a0]=outL (b8 (pf n) (pr n) W a0):=rfl
theorem kR (n:Nat)(W:Wd)(a0:D):pw (n+1) M.uj2 W [a0]=outW (cB (pf n) (pr n) (pw n) W a0):=rfl
theorem jZ (n:Nat)(W:Wd)(a0 a1:D):pw (n+1) M.uja W [a0,a1]=outW (b9 (pf n) (pr n) (pw n) W a0 a1):=rfl
theorem ig (n:Nat)(W:Wd)(a0:D):pr (n+1) M.uqp W [a0]=outL (bt (pf n) (pr n) W a0):=rfl
theorem j0 (n:Nat)(W:Wd)(a0 a1 a2 a3:D):pw (n+1) M.uqs W [a0,a1,a2,a3]=outW (cc (pf n) (pr n) (pw n) W a0 a1 a2 a3):=rfl
theorem eh (n:Nat)(W:Wd)(a0 a1 a2:D):pw (n+1) M.uql W [a0,a1,a2]=outW (bG (pf n) (pr n) (pw n) W a0 a1 a2):=rfl
theorem bz (n:Nat)(W:Wd)(a0 a1:D):pr (n+1) M.uqa W [a0,a1]=outL (aD (pf n) (pr n) W a0 a1):=rfl
theorem gh (n:Nat)(W:Wd)(a0 a1:D):pw (n+1) M.uqt W [a0,a1]=outW (bM (pf n) (pr n) (pw n) W a0 a1):=rfl
theorem c6 (n:Nat)(W:Wd)(a0 a1 a2 a3 a4:D):pw (n+1) M.uqc W [a0,a1,a2,a3,a4]=outW (bu (pf n) (pr n) (pw n) W a0 a1 a2 a3 a4):=rfl
theorem c7 (n:Nat)(W:Wd)(a0 a1 a2:D):pw (n+1) M.uqn W [a0,a1,a2]=outW (bv (pf n) (pr n) (pw n) W a0 a1 a2):=rfl
theorem j6 (n:Nat)(W:Wd)(a0:D):pr (n+1) M.uqu W [a0]=outL (ce (pf n) (pr n) W a0):=rfl
theorem dP (n:Nat)(W:Wd)(a0 a1:D):pr (n+1) M.uqo W [a0,a1]=outL (bd (pf n) (pr n) W a0 a1):=rfl
theorem kS (n:Nat)(W:Wd)(a0:D):pw (n+1) M.ujo W [a0]=outW (cC (pf n) (pr n) (pw n) W a0):=rfl
theorem j7 (n:Nat)(W:Wd)(a0:D):pw (n+1) M.ujb W [a0]=outW (cf (pf n) (pr n) (pw n) W a0):=rfl
theorem j8 (n:Nat)(W:Wd)(a0:D):pr (n+1) M.ujc W [a0]=outL (cg (pf n) (pr n) W a0):=rfl
theorem oV (n:Nat)(W:Wd)(a0:D):pw (n+3) M.law_k84 W [a0]=outW (fO (pf n) (pr n) (pw n) W a0):=rfl
end Lw
end
noncomputable section
set_option maxHeartbeats 4000000
namespace Lw
open PySem PySem.Spec PyProof.Rows L2 FF
def top (i:Nat):Stmt:=PySem.Challenge.pw_fourfold_k84_albums_refused.main.body.getD i (.Pass ⟨0,0,0,0⟩)
abbrev gF:Stmt:=top 17
theorem nF:FnScope ["thing"] ["thing"] (defScope gF):=mkSc
abbrev gG:Stmt:=top 18
theorem nG:FnScope ["thing"] ["thing"] (defScope gG):=mkSc
abbrev iP:Stmt:=top 19
theorem oW:FnScope ["thing"] ["thing"] (defScope iP):=mkSc
abbrev iQ:Stmt:=top 20
theorem oX:FnScope ["size","thing","is_end"] ["size","thing","is_end"] (defScope iQ):=mkSc
abbrev cm:Stmt:=top 21
theorem iR:FnScope ["thing","is_end"] ["thing","is_end"] (defScope cm):=mkSc
abbrev cI:Stmt:=top 22
theorem fc:FnScope ["four","first"] ["four"] (defScope cI):=mkSc
abbrev fq:Stmt:=top 23
theorem mB:FnScope ["tree"] ["tree"] (defScope fq):=mkSc
abbrev c8:Stmt:=top 24
theorem j9:FnScope ["tree"] ["tree"] (defScope c8):=mkSc
abbrev em:Stmt:=top 26
theorem kT:FnScope ["thing"] ["thing"] (defScope em):=mkSc
abbrev cn:Stmt:=top 27
theorem iS:FnScope ["thing"] ["thing"] (defScope cn):=mkSc
abbrev oY:Stmt:=top 28
theorem wK:FnScope ["picture"] ["picture"] (defScope oY):=mkSc
abbrev eo:Stmt:=top 34
theorem kU:FnScope ["tree","order"] ["tree","order"] (defScope eo):=mkSc
abbrev mC:Stmt:=top 35
theorem nH:FnScope ["picture","order","shown"] ["picture","order"] (defScope mC):=mkSc
abbrev ka:Stmt:=top 36
theorem rV:FnScope ["picture"] ["picture"] (defScope ka):=mkSc
abbrev gH:Stmt:=top 37
theorem nI:FnScope ["picture"] ["picture"] (defScope gH):=mkSc
abbrev ft:Stmt:=top 38
theorem mD:FnScope ["thing"] ["thing"] (defScope ft):=mkSc
abbrev kb:Stmt:=top 39
theorem dQ:FnScope ["picture","way","told","step"] ["picture","way"] (defScope kb):=mkSc
abbrev c9:Stmt:=top 43
theorem kd:FnScope ["one","other"] ["one","other"] (defScope c9):=mkSc
abbrev eB:Stmt:=top 44
theorem kW:FnScope ["one","other"] ["one","other"] (defScope eB):=mkSc
abbrev da:Stmt:=top 45
theorem ke:FnScope ["one","other"] ["one","other"] (defScope da):=mkSc
abbrev bU:Stmt:=top 46
theorem ii:FnScope ["one","other"] ["one","other"] (defScope bU):=mkSc
abbrev fu:Stmt:=top 47
theorem mE:FnScope ["one","other"] ["one","other"] (defScope fu):=mkSc
abbrev db:Stmt:=top 48
theorem kg:FnScope ["one","other"] ["one","other"] (defScope db):=mkSc
abbrev eD:Stmt:=top 49
theorem kX:FnScope ["one","other"] ["one","other"] (defScope eD):=mkSc
abbrev eE:Stmt:=top 50
theorem kY:FnScope ["one","other"] ["one","other"] (defScope eE):=mkSc
abbrev eF:Stmt:=top 52
theorem kZ:FnScope ["thing","words"] ["thing","words"] (defScope eF):=mkSc
abbrev eG:Stmt:=top 53
theorem k6:FnScope ["thing"] ["thing"] (defScope eG):=mkSc
abbrev de:Stmt:=top 54
theorem fv:FnScope ["things","thing"] ["things"] (defScope de):=mkSc
abbrev bV:Stmt:=top 55
theorem cW:FnScope ["pictures","picture"] ["pictures"] (defScope bV):=mkSc
abbrev df:Stmt:=top 56
theorem fw:FnScope ["make","one","other","couples"] ["make","one","other"] (defScope df):=mkSc
abbrev kh:Stmt:=top 57
theorem rW:FnScope ["rule","one","other"] ["rule","one","other"] (defScope kh):=mkSc
abbrev iT:Stmt:=top 61
theorem oZ:FnScope ["thing"] ["thing"] (defScope iT):=mkSc
abbrev eI:Stmt:=top 62
theorem k7:FnScope ["thing"] ["thing"] (defScope eI):=mkSc
abbrev ki:Stmt:=top 65
theorem rX:FnScope ["_law_script","_law_k"] ["_law_script","_law_k"] (defScope ki):=mkSc
abbrev kj:Stmt:=top 66
theorem lZ:FnScope ["_law_script","_law_k","_law_many","_law_drawn"] ["_law_script","_law_k","_law_many"] (defScope kj):=mkSc
abbrev fP:Stmt:=top 67
theorem aB:FnScope ["_law_kept","_law_kinds","_law_some"] ["_law_kept"] (defScope fP):=mkSc
structure Txt (K:Frag)(mg:Str→Option Value)(C:Nat→Addr)(wP:Params):Prop where
 b_ValueError:mg "ValueError"=none
 uzq:mg "abs"=none
 uzl:mg "all"=none
 uzp:mg "bool"=none
 ux3:mg "dict"=none
 uzr:mg "int"=none
 uqb:mg "isinstance"=none
 uka:mg "len"=none
 ux4:mg "list"=none
 uzs:mg "max"=none
 uzt:mg "min"=none
 ux1:mg "range"=none
 uzg:mg "sorted"=none
 uzu:mg "str"=none
 uq2:mg "tuple"=none
 uzv:mg "zip"=none
 k_GREATEST_WORTH:∃ t,mg "GREATEST_WORTH"=some (.int 9 t)
 uk5:∃ t,mg "LARGEST_SIZE"=some (.int 3 t)
 uk6:∃ t,mg "LONGEST_NAME"=some (.int 5 t)
 k_TURNS:∃ t,mg "TURNS"=some (.int 4 t)
 k_WAYS:∃ t,mg "WAYS"=some (.int 8 t)
 ux5:∃ t,mg "LETTERS"=some (.str "abcdefghijklmnopqrstuvwxyz" t)
 t_BY_MIRRORING:∃ a,mg "BY_MIRRORING"=some (.ref a)∧TupK K a [1,0,3,2]
 t_BY_TURNING:∃ a,mg "BY_TURNING"=some (.ref a)∧TupK K a [2,0,3,1]
 d_RULES:∃ a,mg "RULES"=some (.ref a)∧TabK K C wP a mz
 f_is_worth:mg "is_worth"=some (.ref (C F.ay))
 f_first_worth:mg "first_worth"=some (.ref (C F.ae))
 f_last_worth:mg "last_worth"=some (.ref (C F.ah))
 f_least_worth:mg "least_worth"=some (.ref (C F.af))
 f_greatest_worth:mg "greatest_worth"=some (.ref (C F.ad))
 f_sum_worth:mg "sum_worth"=some (.ref (C F.an))
 f_times_worth:mg "times_worth"=some (.ref (C F.ag))
 f_less_worth:mg "less_worth"=some (.ref (C F.ai))
 f_same_worth:mg "same_worth"=some (.ref (C F.aj))
 uxw:mg "FourError"=some (.ref (C 0))
 uj7:mg "NoPicture"=some (.ref (C 1))
 uko:mg "NoSpot"=some (.ref (C 2))
 uxj:mg "BadBox"=some (.ref (C 3))
 ukp:mg "Unlike"=some (.ref (C 4))
 ukq:mg "NoRule"=some (.ref (C 5))
 ukr:mg "NoBlocks"=some (.ref (C 6))
 uks:mg "NoChange"=some (.ref (C 7))
 ukt:mg "NoNumber"=some (.ref (C 8))
 ujd:mg "NothingDone"=some (.ref (C 9))
 uxk:mg "NoText"=some (.ref (C 10))
 ukb:mg "NoName"=some (.ref (C 11))
 uxx:excIn K (C 1) bmVE "ValueError.__new__"=true
 uzh:excIn K (C 2) bmVE "ValueError.__new__"=true
 uzi:excIn K (C 4) bmVE "ValueError.__new__"=true
 uzj:excIn K (C 5) bmVE "ValueError.__new__"=true
 ukd:excIn K (C 9) bmVE "ValueError.__new__"=true
 uxl:excIn K (C 11) bmVE "ValueError.__new__"=true
 uxm:IsA K C (.ref (C 3)) (qEx esL 3)
 uku:IsA K C (.ref (C 6)) (qEx esL 6)
 ukv:IsA K C (.ref (C 7)) (qEx esL 7)
 uxn:IsA K C (.ref (C 11)) (qEx esL 11)
 ukw:IsA K C (.ref (C 8)) (qEx esL 8)
 ukn:IsA K C (.ref (C 1)) (qEx esL 1)
 uxo:IsA K C (.ref (C 5)) (qEx esL 5)
 uxp:IsA K C (.ref (C 2)) (qEx esL 2)
 uxq:IsA K C (.ref (C 10)) (qEx esL 10)
 uke:IsA K C (.ref (C 9)) (qEx esL 9)
 uxr:IsA K C (.ref (C 4)) (qEx esL 4)
 i_ValueError:IsA K C (.ty "ValueError") (qVx esL)
 takes:Takes K C (C 0) (qTk esL)
 uqy:Cls K (C 12)
 uqd:Cls K (C 13)
 uqz:NoAttr K (C 12) "pages"
 uqg:NoAttr K (C 12) "place"
 uqv:NoAttr K (C 13) "steps"
structure Tab (P:Program)(w:World)(K:Frag)(mg:Str→Option Value)(base:Heap)(C:Nat→Addr)(k:Nat)(t:Nat→List FF.D→FF.R FF.D):Prop where
 g20:Fn1 P w K mg base C k "is_whole" ["thing"] (t F.ax)
 g21:Fn1 P w K mg base C k "is_worth" ["thing"] (t F.ay)
 g22:Fn1 P w K mg base C k "is_size" ["thing"] (t F.aL)
 g23:Fn1 P w K mg base C k "is_tree" ["size","thing","is_end"] (t F.aF)
 g24:Fn1 P w K mg base C k "is_sized_tree" ["thing","is_end"] (t F.aC)
 g25:Fn1 P w K mg base C k "put_together" ["four"] (t F.ar)
 g26:Fn1 P w K mg base C k "lean_tree" ["tree"] (t F.aB)
 g105:Fn1 P w K mg base C k "quarters_in" ["tree"] (t F.av)
 g27:Fn1 P w K mg base C k "is_picture" ["thing"] (t F.aG)
 g28:Fn1 P w K mg base C k "check_picture" ["thing"] (t F.aq)
 g29:Fn1 P w K mg base C k "lean" ["picture"] (t F.ak)
 g69:Fn1 P w K mg base C k "moved_tree" ["tree","order"] (t F.az)
 g70:Fn1 P w K mg base C k "moved" ["picture","order"] (t F.aK)
 g125:Fn1 P w K mg base C k "turned" ["picture"] (t F.aM)
 g84:Fn1 P w K mg base C k "mirrored" ["picture"] (t F.aJ)
 g127:Fn1 P w K mg base C k "check_way" ["thing"] (t F.aI)
 g128:Fn1 P w K mg base C k "by_way" ["picture","way"] (t F.ap)
 g146:Fn1 P w K mg base C k "first_worth" ["one","other"] (t F.ae)
 g147:Fn1 P w K mg base C k "last_worth" ["one","other"] (t F.ah)
 g148:Fn1 P w K mg base C k "least_worth" ["one","other"] (t F.af)
 g149:Fn1 P w K mg base C k "greatest_worth" ["one","other"] (t F.ad)
 g150:Fn1 P w K mg base C k "sum_worth" ["one","other"] (t F.an)
 g151:Fn1 P w K mg base C k "times_worth" ["one","other"] (t F.ag)
 g152:Fn1 P w K mg base C k "less_worth" ["one","other"] (t F.ai)
 g153:Fn1 P w K mg base C k "same_worth" ["one","other"] (t F.aj)
 g154:Fn1 P w K mg base C k "check_word" ["thing","words"] (t F.aH)
 g155:Fn1 P w K mg base C k "check_rule" ["thing"] (t F.ab)
 g158:Fn1 P w K mg base C k "check_sizes" ["things"] (t F.aE)
 g159:Fn1 P w K mg base C k "check_pictures" ["pictures"] (t F.aA)
 g160:Fn1 P w K mg base C k "joined_tree" ["make","one","other"] (t F.aw)
 g161:Fn1 P w K mg base C k "joined" ["rule","one","other"] (t F.ao)
 g280:Fn1 P w K mg base C k "is_name" ["thing"] (t F.ac)
 g334:Fn1 P w K mg base C k "check_name" ["thing"] (t F.aa)
 g30:Fn1 P w K mg base C k "_law_cell" ["_law_script","_law_k"] (t F.aD)
 g31:Fn1 P w K mg base C k "_law_pick" ["_law_script","_law_k","_law_many"] (t F.al)
 g89:Fn1 P w K mg base C k "_law_class" ["_law_kept"] (t F.au)
 v:∀ i∈fvL,FnV P w K mg base C k i (t i)
section
variable {P:Program}{w:World}{K:Frag}{mg:Str→Option Value}{base:Heap}{C:Nat→Addr}{k:Nat}{t:Nat→List FF.D→FF.R FF.D}(T:Txt K mg C w.params)(G:Tab P w K mg base C k t)
include T G
theorem nJ:OkD P w K mg base C k "is_whole" gF ["thing"] (a1 (jT t)):=ok1 nF fun thing _ _ _ _ _ _ _ _ bx _ _=>by
 show FL _ _ [vv thing] _ _ _;refine ay (ap (mi (ax bx rfl T.uqb vO (ac 0) (bp rfl T.uzr (by decide +kernel) rfl)) (mh (yj (ax bx rfl T.uqb tz (ac 0) (bp rfl T.uzp (by decide +kernel) rfl)))))) ?_;rfl
theorem jc:OkD P w K mg base C k "is_worth" gG ["thing"] (a1 (jU t)):=ok1 nG fun thing _ _ _ _ _ _ _ _ bx _ _=>by
 show FL _ _ [vv thing] _ _ _;refine ay (ap (mi (ak bx G.g20 rfl (aa (ac 0) af (ae rfl))) (mh (pO ah (ac 0) (fL T.k_GREATEST_WORTH rfl))))) ?_;rfl
theorem o0:OkD P w K mg base C k "is_size" iP ["thing"] (a1 (lW t)):=ok1 oW fun thing _ _ _ _ _ _ _ _ bx _ _=>by
 show FL _ _ [vv thing] _ _ _;refine ay (ap (mi (ak bx G.g20 rfl (aa (ac 0) af (ae rfl))) (mh (pO ah (ac 0) (fL T.uk5 rfl))))) ?_;rfl
theorem pb:OkD P w K mg base C k "is_tree" iQ ["size","thing","is_end"] (a3 (lX t)):=ok3 oX fun size_ thing is_end _ _ _ _ _ _ _ _ bx _ _=>by
 show FL _ _ [vv size_,vv thing,vv is_end] _ _ _;refine bh (inj:=fun (_:Unit) (w:Unit)=>[vv size_,vv thing,vv is_end]) (aY (bw (bE (ax bx rfl T.uqb cT (ac 1) (bp rfl T.uq2 (by decide +kernel) rfl)))) ?_ ?_ ?_) (fun _ w=>?_);rfl
 ·refine ay (ap (m7 bx G.v (ac 2) (aa (ac 1) af (ae rfl)))) ?_;rfl
 ·exact aF ⟨(),rfl⟩
 refine bh (inj:=fun (_:Unit) (w1:Unit)=>[vv size_,vv thing,vv is_end]) (aY (ft_w (jy (jE bx (ac 0) ah) (gA (fU bx (fe_N (iF bx rfl T.uka (FAL.out (aa (ac 1) af (ae rfl))))) ah)))) ?_ ?_ ?_) (fun _ w1=>?_);rfl
 ·refine ba (ap eZ) ?_;rfl
 ·exact aF ⟨(),rfl⟩
 refine ay (ap (fe_N (ts bx rfl T.uzl (FAL.out (aa (fe_C (gQ (N:=["part","is_end","size"]) (own:=1) (cap:=[2,0]) bx (BlkOk.of (by kernel_rfl)) (gC bx.K (ac 1)) (iD (by decide)) (fun _ _ _ _ _=>bY 0 (show List.Nodup (α:=Str) ["part","is_end","size"] by decide +kernel)) (fun _ _ _ _ _=>(ak (cZ bx) G.g23 rfl (aa (iE (ac 2) ah) (aa (ac 0) (aa (ac 1) af (ae rfl)) (ae rfl)) (ae rfl)))))) af (ae rfl)))))) ?_;rfl
theorem iU:OkD P w K mg base C k "is_sized_tree" cm ["thing","is_end"] (a2 (e9 t)):=ok2 iR fun thing is_end _ _ _ _ _ _ _ _ bx _ _=>by
 show FL _ _ [vv thing,vv is_end] _ _ _;refine bh (inj:=fun (_:Unit) (w:Unit)=>[vv thing,vv is_end]) (aY (ft_w (jy (bw (bE (ax bx rfl T.uqb cT (ac 0) (bp rfl T.uq2 (by decide +kernel) rfl)))) (gA (fU bx (fe_N (iF bx rfl T.uka (FAL.out (aa (ac 0) af (ae rfl))))) ah)))) ?_ ?_ ?_) (fun _ w=>?_);rfl
 ·refine ba (ap eZ) ?_;rfl
 ·exact aF ⟨(),rfl⟩
 refine ay (ap (mi (ak bx G.g22 rfl (aa (aq bx.K (ac 0) ah) af (ae rfl))) (mh (ak bx G.g23 rfl (aa (aq bx.K (ac 0) ah) (aa (aq bx.K (ac 0) ah) (aa (ac 1) af (ae rfl)) (ae rfl)) (ae rfl)))))) ?_;rfl
theorem jf:OkD P w K mg base C k "put_together" cI ["four"] (a1 (fm t)):=ok1 fc fun four _ _ _ _ _ _ _ _ bx _ _=>by
 show FL _ _ [vv four,nn] _ _ _;refine aA (S':=fun first=>[vv four,vv first]) (aH 1 fc.nd (aq bx.K (ac 0) ah)) ?_ (fun first=>?_);rfl;refine bh (inj:=fun (_:Unit) (w:Unit)=>[vv four,vv first]) (aY (ft_w (og (bw (bE (ax bx rfl T.uqb cT (ac 1) (bp rfl T.uq2 (by decide +kernel) rfl)))) (mf (jE bx (ac 0) (aM (aa (ac 1) (aa (ac 1) (aa (ac 1) (aa (ac 1) af (ae rfl)) (ae rfl)) (ae rfl)) (ae rfl))))))) ?_ ?_ ?_) (fun _ w=>?_);rfl
 ·refine ba (ap (ac 1)) ?_;rfl
 ·exact aF ⟨(),rfl⟩
 refine ba (ap (ac 0)) ?_;rfl
theorem mF:OkD P w K mg base C k "lean_tree" fq ["tree"] (a1 (i9 t)):=ok1 mB fun tree_ _ _ _ _ _ _ _ _ bx _ _=>by
 show FL _ _ [vv tree_] _ _ _;refine bh (inj:=fun (_:Unit) (w:Unit)=>[vv tree_]) (aY (bw (bE (ax bx rfl T.uqb cT (ac 0) (bp rfl T.uq2 (by decide +kernel) rfl)))) ?_ ?_ ?_) (fun _ w=>?_);rfl
 ·refine ba (ap (ac 0)) ?_;rfl
 ·exact aF ⟨(),rfl⟩
 refine ay (ap (ak bx G.g25 rfl (aa (fe_N (jG bx rfl T.uq2 (FAL.out (aa (fe_C (gQ (N:=["part"]) (own:=1) (cap:=[]) bx (BlkOk.of (by kernel_rfl)) (gC bx.K (ac 0)) (iD (by decide)) (fun _ _ _ _ _=>bY 0 (show List.Nodup (α:=Str) ["part"] by decide +kernel)) (fun _ _ _ _ _=>(ak (cZ bx) G.g26 rfl (aa (ac 0) af (ae rfl)))))) af (ae rfl))))) af (ae rfl)))) ?_;rfl
theorem kl:OkD P w K mg base C k "quarters_in" c8 ["tree"] (a1 (fW t)):=ok1 j9 fun tree_ _ _ _ _ _ _ _ _ bx _ _=>by
 show FL _ _ [vv tree_] _ _ _;refine bh (inj:=fun (_:Unit) (w:Unit)=>[vv tree_]) (aY (bE (ax bx rfl T.uqb cT (ac 0) (bp rfl T.uq2 (by decide +kernel) rfl))) ?_ ?_ ?_) (fun _ w=>?_);rfl
 ·refine ba (ap (ac 0)) ?_;rfl
 ·exact aF ⟨(),rfl⟩
 refine ba (ap (aM (aa (ac 0) (aa (ac 0) (aa (ac 0) (aa (ac 0) af (ae rfl)) (ae rfl)) (ae rfl)) (ae rfl)))) ?_;rfl
theorem k8:OkD P w K mg base C k "is_picture" em ["thing"] (a1 (hI t)):=ok1 kT fun thing _ _ _ _ _ _ _ _ bx _ _=>by
 show FL _ _ [vv thing] _ _ _;refine ay (ap (ak bx G.g24 rfl (aa (ac 0) (aa (zB T.f_is_worth rfl) af (ae rfl)) (ae rfl)))) ?_;rfl
theorem iV:OkD P w K mg base C k "check_picture" cn ["thing"] (a1 (fb t)):=ok1 iS fun thing _ _ _ _ _ _ _ _ bx _ made=>by
 show FL _ _ [vv thing] _ _ _;refine jK (aY (bw (bE (ak bx G.g27 rfl (aa (ac 0) af (ae rfl))))) ?_ ?_ ?_);rfl
 ·refine lH (ci 1 bx made rfl T.uj7 T.uxx (FAL.out (aa aj af (ae rfl)))) ?_;rfl
 ·exact aF True.intro
theorem wL:OkD P w K mg base C k "lean" oY ["picture"] (a1 (uM t)):=ok1 wK fun picture _ _ _ _ _ _ _ _ bx _ _=>by
 show FL _ _ [vv picture] _ _ _;refine aA (S':=fun _=>[vv picture]) (dX (ak bx G.g28 rfl (aa (ac 0) af (ae rfl)))) ?_ (fun _=>?_);rfl;refine ay (ap (aM (aa (aq bx.K (ac 0) ah) (aa (ak bx G.g26 rfl (aa (aq bx.K (ac 0) ah) af (ae rfl))) af (ae rfl)) (ae rfl)))) ?_;rfl
theorem k9:OkD P w K mg base C k "moved_tree" eo ["tree","order"] (a2 (hU t)):=ok2 kU fun tree_ order _ _ _ _ _ _ _ _ bx _ _=>by
 show FL _ _ [vv tree_,vv order] _ _ _;refine bh (inj:=fun (_:Unit) (w:Unit)=>[vv tree_,vv order]) (aY (bw (bE (ax bx rfl T.uqb cT (ac 0) (bp rfl T.uq2 (by decide +kernel) rfl)))) ?_ ?_ ?_) (fun _ w=>?_);rfl
 ·refine ba (ap (ac 0)) ?_;rfl
 ·exact aF ⟨(),rfl⟩
 refine ay (ap (fe_N (jG bx rfl T.uq2 (FAL.out (aa (fe_C (gQ (N:=["number","order","tree"]) (own:=1) (cap:=[1,0]) bx (BlkOk.of (by kernel_rfl)) (gC bx.K (ac 1)) (iD (by decide)) (fun _ _ _ _ _=>bY 0 (show List.Nodup (α:=Str) ["number","order","tree"] by decide +kernel)) (fun _ _ _ _ _=>(ak (cZ bx) G.g69 rfl (aa (aq (cZ bx).K (ac 2) (ac 0)) (aa (ac 1) af (ae rfl)) (ae rfl)))))) af (ae rfl)))))) ?_;rfl
theorem uN:OkD P w K mg base C k "moved" mC ["picture","order"] (a2 (qu t)):=ok2 nH fun picture order _ _ _ _ _ _ _ _ bx _ _=>by
 show FL _ _ [vv picture,vv order,nn] _ _ _;refine aA (S':=fun shown=>[vv picture,vv order,vv shown]) (aH 2 nH.nd (ak bx G.g29 rfl (aa (ac 0) af (ae rfl)))) ?_ (fun shown=>?_);rfl;refine ay (ap (aM (aa (aq bx.K (ac 2) ah) (aa (ak bx G.g69 rfl (aa (aq bx.K (ac 2) ah) (aa (ac 1) af (ae rfl)) (ae rfl))) af (ae rfl)) (ae rfl)))) ?_;rfl
theorem rY:OkD P w K mg base C k "turned" ka ["picture"] (a1 (nA t)):=ok1 rV fun picture _ _ _ _ _ _ _ _ bx _ _=>by
 show FL _ _ [vv picture] _ _ _;refine ay (ap (ak bx G.g70 rfl (aa (ac 0) (aa (pT T.t_BY_TURNING rfl) af (ae rfl)) (ae rfl)))) ?_;rfl
theorem nK:OkD P w K mg base C k "mirrored" gH ["picture"] (a1 (jV t)):=ok1 nI fun picture _ _ _ _ _ _ _ _ bx _ _=>by
 show FL _ _ [vv picture] _ _ _;refine ay (ap (ak bx G.g70 rfl (aa (ac 0) (aa (pT T.t_BY_MIRRORING rfl) af (ae rfl)) (ae rfl)))) ?_;rfl
theorem mG:OkD P w K mg base C k "check_way" ft ["thing"] (a1 (ja t)):=ok1 mD fun thing _ _ _ _ _ _ _ _ bx _ made=>by
 show FL _ _ [vv thing] _ _ _;refine jK (aY (ft_w (jy (bw (bE (ak bx G.g20 rfl (aa (ac 0) af (ae rfl))))) (gA (bw (vM ah (ac 0) (fL T.k_WAYS rfl)))))) ?_ ?_ ?_);rfl
 ·refine lH (ci 2 bx made rfl T.uko T.uzh (FAL.out (aa aj af (ae rfl)))) ?_;rfl
 ·exact aF True.intro
theorem rZ:OkD P w K mg base C k "by_way" kb ["picture","way"] (a2 (nC t)):=ok2 dQ fun picture way _ _ _ _ _ _ _ _ bx hpo _=>by
 show FL _ _ [vv picture,vv way,nn,nn] _ _ _;refine aA (S':=fun told=>[vv picture,vv way,vv told,nn]) (aH 2 dQ.nd (ak bx G.g29 rfl (aa (ac 0) af (ae rfl)))) ?_ (fun told=>?_);rfl;refine aA (S':=fun _=>[vv picture,vv way,vv told,nn]) (dX (ak bx G.g127 rfl (aa (ac 1) af (ae rfl)))) ?_ (fun _=>?_);rfl;refine bh (inj:=fun (told2:D) (w:Unit)=>[vv picture,vv way,vv told2,nn]) (aY (zj (ac 1) (fL T.k_TURNS rfl)) ?_ ?_ ?_) (fun told2 w=>?_);rfl
 ·refine aA (S':=fun told1=>[vv picture,vv way,vv told1,nn]) (aH 2 dQ.nd (ak bx G.g84 rfl (aa (ac 2) af (ae rfl)))) ?_ (fun told1=>?_);rfl;exact aF ⟨(),rfl⟩
 ·exact aF ⟨(),rfl⟩
 refine bh (inj:=fun (s:D) (w1:Option Sl)=>[vv picture,vv way,vv s,w1]) (mq 3 (B:=fun (s:D) (w1:Option Sl) x1=>[vv picture,vv way,vv s,vv x1]) nn hpo rfl (xA (lC rfl T.ux1 (FAL.out (aa (a9 (ac 1) (fL T.k_TURNS rfl)) af (ae rfl))))) ?_ (bY 3 dQ.nd) rfl (fun _ _ _=>rfl) (fun s w1 x1=>?_)) (fun told4 w2=>?_);rfl
 ·refine aA (S':=fun told3=>[vv picture,vv way,vv told3,vv x1]) (aH 2 dQ.nd (ak bx G.g125 rfl (aa (ac 2) af (ae rfl)))) ?_ (fun told3=>?_);rfl;exact aF ⟨vv x1,rfl⟩
 refine ba (ap (ac 2)) ?_;rfl
theorem fA:OkD P w K mg base C k "first_worth" c9 ["one","other"] (a2 (fX t)):=ok2 kd fun one other _ _ _ _ _ _ _ _ _ _ _=>by
 show FL _ _ [vv one,vv other] _ _ _;refine ba (ap (ac 0)) ?_;rfl
theorem gj:OkD P w K mg base C k "last_worth" eB ["one","other"] (a2 (hV t)):=ok2 kW fun one other _ _ _ _ _ _ _ _ _ _ _=>by
 show FL _ _ [vv one,vv other] _ _ _;refine ba (ap (ac 1)) ?_;rfl
theorem fB:OkD P w K mg base C k "least_worth" da ["one","other"] (a2 (fY t)):=ok2 ke fun one other _ _ _ _ _ _ _ _ bx _ _=>by
 show FL _ _ [vv one,vv other] _ _ _;refine ay (ap (fe_N (v4 bx rfl T.uzt (FAL.out (aa (ac 0) (aa (ac 1) af (ae rfl)) (ae rfl)))))) ?_;rfl
theorem cX:OkD P w K mg base C k "greatest_worth" bU ["one","other"] (a2 (dN t)):=ok2 ii fun one other _ _ _ _ _ _ _ _ bx _ _=>by
 show FL _ _ [vv one,vv other] _ _ _;refine ay (ap (fe_N (vN bx rfl T.uzs (FAL.out (aa (ac 0) (aa (ac 1) af (ae rfl)) (ae rfl)))))) ?_;rfl
theorem ij:OkD P w K mg base C k "sum_worth" fu ["one","other"] (a2 (jb t)):=ok2 mE fun one other _ _ _ _ _ _ _ _ bx _ _=>by
 show FL _ _ [vv one,vv other] _ _ _;refine ay (ap (a9 (aX bx.K (ac 0) (ac 1)) ah)) ?_;rfl
theorem fC:OkD P w K mg base C k "times_worth" db ["one","other"] (a2 (fZ t)):=ok2 kg fun one other _ _ _ _ _ _ _ _ bx _ _=>by
 show FL _ _ [vv one,vv other] _ _ _;refine ay (ap (a9 (fj bx.K (ac 0) (ac 1)) ah)) ?_;rfl
theorem gm:OkD P w K mg base C k "less_worth" eD ["one","other"] (a2 (hZ t)):=ok2 kX fun one other _ _ _ _ _ _ _ _ bx _ _=>by
 show FL _ _ [vv one,vv other] _ _ _;refine ay (ap (fe_N (yD bx rfl T.uzq (FAL.out (aa (iE (ac 0) (ac 1)) af (ae rfl)))))) ?_;rfl
theorem gn:OkD P w K mg base C k "same_worth" eE ["one","other"] (a2 (h7 t)):=ok2 kY fun one other _ _ _ _ _ _ _ _ bx _ _=>by
 show FL _ _ [vv one,vv other] _ _ _;refine ay (ap (zg (jE bx (ac 0) (ac 1)) ah ah)) ?_;rfl
theorem la:OkD P w K mg base C k "check_word" eF ["thing","words"] (a2 (h8 t)):=ok2 kZ fun thing words _ _ _ _ _ _ _ _ bx _ made=>by
 show FL _ _ [vv thing,vv words] _ _ _;refine jK (aY (rl bx (ac 0) (ac 1)) ?_ ?_ ?_);rfl
 ·refine lH (ci 5 bx made rfl T.ukq T.uzj (FAL.out (aa aj af (ae rfl)))) ?_;rfl
 ·exact aF True.intro
theorem lb:OkD P w K mg base C k "check_rule" eG ["thing"] (a1 (ia t)):=ok1 k6 fun thing _ _ _ _ _ _ _ _ bx _ _=>by
 show FL _ _ [vv thing] _ _ _;refine aA (S':=fun _=>[vv thing]) (dX (ak bx G.g154 rfl (aa (ac 0) (aa (oG bx rfl T.ux4 T.d_RULES rfl) af (ae rfl)) (ae rfl)))) ?_ (fun _=>?_);rfl;exact aF True.intro
theorem km:OkD P w K mg base C k "check_sizes" de ["things"] (a1 (f8 t)):=ok1 fv fun things _ _ _ _ _ _ _ _ bx hpo made=>by
 show FL _ _ [vv things,nn] _ _ _;refine bh (inj:=fun (s:Unit) (w:Option Sl)=>[vv things,w]) (mq 1 (B:=fun (s:Unit) (w:Option Sl) x=>[vv things,vv x]) nn hpo rfl (gC bx.K (ac 0)) ?_ (bY 1 fv.nd) rfl (fun _ _ _=>rfl) (fun s w x=>?_)) (fun _ w1=>?_);rfl
 ·refine jK (aY (fU bx (aq bx.K (ac 1) ah) (aq bx.K (aq bx.K (ac 0) ah) ah)) ?_ ?_ ?_);rfl
  ·refine lH (ci 4 bx made rfl T.ukp T.uzi (FAL.out (aa aj af (ae rfl)))) ?_;rfl
  ·exact aF ⟨vv x,rfl⟩
 exact aF True.intro
theorem ik:OkD P w K mg base C k "check_pictures" bV ["pictures"] (a1 (dO t)):=ok1 cW fun pictures _ _ _ _ _ _ _ _ bx hpo _=>by
 show FL _ _ [vv pictures,nn] _ _ _;refine bh (inj:=fun (s:Unit) (w:Option Sl)=>[vv pictures,w]) (mq 1 (B:=fun (s:Unit) (w:Option Sl) x=>[vv pictures,vv x]) nn hpo rfl (gC bx.K (ac 0)) ?_ (bY 1 cW.nd) rfl (fun _ _ _=>rfl) (fun s w x=>?_)) (fun _ w1=>?_);rfl
 ·refine aA (S':=fun _=>[vv pictures,vv x]) (dX (ak bx G.g28 rfl (aa (ac 1) af (ae rfl)))) ?_ (fun _=>?_);rfl;exact aF ⟨vv x,rfl⟩
 refine aA (S':=fun _=>[vv pictures,w1]) (dX (ak bx G.g158 rfl (aa (ac 0) af (ae rfl)))) ?_ (fun _=>?_);rfl;exact aF True.intro
theorem kn:OkD P w K mg base C k "joined_tree" df ["make","one","other"] (a3 (f9 t)):=ok3 fw fun make one other _ _ _ _ _ _ _ _ bx _ _=>by
 show FL _ _ [vv make,vv one,vv other,nn] _ _ _;refine bh (inj:=fun (_:Unit) (w:Unit)=>[vv make,vv one,vv other,nn]) (aY (ft_w (og (bw (bE (ax bx rfl T.uqb cT (ac 1) (bp rfl T.uq2 (by decide +kernel) rfl)))) (mf (bw (bE (ax bx rfl T.uqb cT (ac 2) (bp rfl T.uq2 (by decide +kernel) rfl))))))) ?_ ?_ ?_) (fun _ w=>?_);rfl
 ·refine ay (ap (m7 bx G.v (ac 0) (aa (ac 1) (aa (ac 2) af (ae rfl)) (ae rfl)))) ?_;rfl
 ·exact aF ⟨(),rfl⟩
 refine aA (S':=fun couples=>[vv make,vv one,vv other,vv couples]) (aH 3 fw.nd (ni bx rfl T.ux4 rfl T.uzv (aa (ak bx G.g105 rfl (aa (ac 1) af (ae rfl))) (aa (ak bx G.g105 rfl (aa (ac 2) af (ae rfl))) af (ae rfl)) (ae rfl)))) ?_ (fun couples=>?_);rfl;refine ay (ap (ak bx G.g25 rfl (aa (fe_N (jG bx rfl T.uq2 (FAL.out (aa (fe_C (gQ (N:=["couple","make"]) (own:=1) (cap:=[0]) bx (BlkOk.of (by kernel_rfl)) (gC bx.K (ac 3)) (iD (by decide)) (fun _ _ _ _ _=>bY 0 (show List.Nodup (α:=Str) ["couple","make"] by decide +kernel)) (fun _ _ _ _ _=>(ak (cZ bx) G.g160 rfl (aa (ac 1) (aa (aq (cZ bx).K (ac 0) ah) (aa (aq (cZ bx).K (ac 0) ah) af (ae rfl)) (ae rfl)) (ae rfl)))))) af (ae rfl))))) af (ae rfl)))) ?_;rfl
theorem r6:OkD P w K mg base C k "joined" kh ["rule","one","other"] (a3 (nD t)):=ok3 rW fun rule one other _ _ _ _ _ _ _ _ bx _ _=>by
 show FL _ _ [vv rule,vv one,vv other] _ _ _;refine aA (S':=fun _=>[vv rule,vv one,vv other]) (dX (ak bx G.g155 rfl (aa (ac 0) af (ae rfl)))) ?_ (fun _=>?_);rfl;refine aA (S':=fun _=>[vv rule,vv one,vv other]) (dX (ak bx G.g159 rfl (aa (au (aa (ac 1) (aa (ac 2) af (ae rfl)) (ae rfl))) af (ae rfl)))) ?_ (fun _=>?_);rfl;refine ay (ap (aM (aa (aq bx.K (ac 1) ah) (aa (ak bx G.g160 rfl (aa (yF bx T.d_RULES rfl (ac 0)) (aa (aq bx.K (ac 1) ah) (aa (aq bx.K (ac 2) ah) af (ae rfl)) (ae rfl)) (ae rfl))) af (ae rfl)) (ae rfl)))) ?_;rfl
theorem pd:OkD P w K mg base C k "is_name" iT ["thing"] (a1 (lY t)):=ok1 oZ fun thing _ _ _ _ _ _ _ _ bx _ _=>by
 show FL _ _ [vv thing] _ _ _;refine bh (inj:=fun (_:Unit) (w:Unit)=>[vv thing]) (aY (ft_w (jy (bw (bE (ax bx rfl T.uqb vP (ac 0) (bp rfl T.uzu (by decide +kernel) rfl)))) (gA (bw (vL ah (fe_N (wc bx rfl T.uka (FAL.out (aa (ac 0) af (ae rfl))))) (fL T.uk6 rfl)))))) ?_ ?_ ?_) (fun _ w=>?_);rfl
 ·refine ba (ap eZ) ?_;rfl
 ·exact aF ⟨(),rfl⟩
 refine ay (ap (fe_N (ts bx rfl T.uzl (FAL.out (aa (fe_C (gQ (N:=["sign"]) (own:=1) (cap:=[]) bx (BlkOk.of (by kernel_rfl)) (yT (ac 0)) (iD (by decide)) (fun _ _ _ _ _=>bY 0 (show List.Nodup (α:=Str) ["sign"] by decide +kernel)) (fun _ _ _ _ _=>(yU (ac 0) (we T.ux5 rfl))))) af (ae rfl)))))) ?_;rfl
theorem lc:OkD P w K mg base C k "check_name" eI ["thing"] (a1 (cx t)):=ok1 k7 fun thing _ _ _ _ _ _ _ _ bx _ made=>by
 show FL _ _ [vv thing] _ _ _;refine jK (aY (bw (bE (ak bx G.g280 rfl (aa (ac 0) af (ae rfl))))) ?_ ?_ ?_);rfl
 ·refine lH (ci 11 bx made rfl T.ukb T.uxl (FAL.out (aa aj af (ae rfl)))) ?_;rfl
 ·exact aF True.intro
theorem r8:OkD P w K mg base C k "_law_cell" ki ["_law_script","_law_k"] (a2 (ib t)):=ok2 rX fun zT Aa _ _ _ _ _ _ _ _ bx _ _=>by
 show FL _ _ [vv zT,vv Aa] _ _ _;refine bh (inj:=fun (_:Unit) (w:Unit)=>[vv zT,vv Aa]) (aY (zi (ac 1) (fe_N (iF bx rfl T.uka (FAL.out (aa (ac 0) af (ae rfl)))))) ?_ ?_ ?_) (fun _ w=>?_);rfl
 ·refine ay (ap (aq bx.K (ac 0) (ac 1))) ?_;rfl
 ·exact aF ⟨(),rfl⟩
 refine bh (inj:=fun (_:Unit) (w1:Unit)=>[vv zT,vv Aa]) (aY (jE bx (ac 0) (au af)) ?_ ?_ ?_) (fun _ w1=>?_);rfl
 ·refine ba (ap ah) ?_;rfl
 ·exact aF ⟨(),rfl⟩
 refine ay (ap (aX bx.K (fj bx.K (aq bx.K (ac 0) (a9 (ac 1) (fe_N (iF bx rfl T.uka (FAL.out (aa (ac 0) af (ae rfl))))))) ah) (ac 1))) ?_;rfl
theorem r9:OkD P w K mg base C k "_law_pick" kj ["_law_script","_law_k","_law_many"] (a3 (ic t)):=ok3 lZ fun zT Aa As _ _ _ _ _ _ _ _ bx _ _=>by
 show FL _ _ [vv zT,vv Aa,vv As,nn] _ _ _;refine aA (S':=fun Ar=>[vv zT,vv Aa,vv As,vv Ar]) (aH 3 lZ.nd (a9 (fj bx.K (aX bx.K (ak bx G.g30 rfl (aa (ac 0) (aa (ac 1) af (ae rfl)) (ae rfl))) (fj bx.K ah (aX bx.K (ac 1) ah))) ah) ah)) ?_ (fun Ar=>?_);rfl;refine ay (ap (a9 (a9 (aX bx.K (fj bx.K (ac 3) (ac 3)) (yo (ac 3) ah)) ah) (ac 2))) ?_;rfl
theorem ph:OkD P w K mg base C k "_law_class" fP ["_law_kept"] (a1 (iO t)):=ok1 aB fun zV _ _ _ _ _ _ _ _ bx _ _=>by
 show FL _ _ [vv zV,nn,nn] _ _ _;refine aA (S':=fun Ap=>[vv zV,ow Ap,nn]) (fs_O (mn 1 aB.nd (FAL.out (aa (ax bx rfl T.uqb T.uxm (ac 0) (az rfl T.uxj rfl)) (aa (ax bx rfl T.uqb T.uku (ac 0) (az rfl T.ukr rfl)) (aa (ax bx rfl T.uqb T.ukv (ac 0) (az rfl T.uks rfl)) af (ae rfl)) (ae rfl)) (ae rfl))))) ?_ (fun Ap=>?_);rfl;refine aA (S':=fun Ac=>[vv zV,ow Ac,nn]) (fs_X (fJ 1 bx.K (FAL.out (aa (au (aa (ax bx rfl T.uqb T.uxn (ac 0) (az rfl T.ukb rfl)) af (ae rfl))) af (ae rfl))))) ?_ (fun Ac=>?_);rfl;refine mo 1 (S':=[vv zV,vv (.lst Ac),nn]) rfl rfl ?_;refine aA (S':=fun Ae=>[vv zV,vv Ae,nn]) (aH 1 aB.nd (aX bx.K (ac 1) (au (aa (ax bx rfl T.uqb T.ukw (ac 0) (az rfl T.ukt rfl)) (aa (ax bx rfl T.uqb T.ukn (ac 0) (az rfl T.uj7 rfl)) (aa (ax bx rfl T.uqb T.uxo (ac 0) (az rfl T.ukq rfl)) af (ae rfl)) (ae rfl)) (ae rfl))))) ?_ (fun Ae=>?_);rfl;refine aA (S':=fun Af=>[vv zV,vv Af,nn]) (aH 1 aB.nd (aX bx.K (ac 1) (au (aa (ax bx rfl T.uqb T.uxp (ac 0) (az rfl T.uko rfl)) (aa (ax bx rfl T.uqb T.uxq (ac 0) (az rfl T.uxk rfl)) (aa (ax bx rfl T.uqb T.uke (ac 0) (az rfl T.ujd rfl)) af (ae rfl)) (ae rfl)) (ae rfl))))) ?_ (fun Af=>?_);rfl;refine aA (S':=fun zY=>[vv zV,vv zY,nn]) (aH 1 aB.nd (aX bx.K (ac 1) (au (aa (ax bx rfl T.uqb T.uxr (ac 0) (az rfl T.ukp rfl)) af (ae rfl))))) ?_ (fun zY=>?_);rfl;refine bh (inj:=fun (_:Unit) (w:Unit)=>[vv zV,vv zY,nn]) (aY (ft_w (jy (fU bx (pW (tH bx (ac 1) (FAL.out (aa eZ af (ae rfl))))) ah) (gA (bw (bE (ax bx rfl T.uqb T.i_ValueError (ac 0) (bp rfl T.b_ValueError (by decide +kernel) rfl))))))) ?_ ?_ ?_) (fun _ w=>?_);rfl
 ·refine ba (ap aj) ?_;rfl
 ·exact aF ⟨(),rfl⟩
 refine m6 (S':=[vv zV,vv zY,ow ([(.str "bad box"),(.str "no blocks"),(.str "no change"),(.str "no name"),(.str "no number"),(.str "no picture"),(.str "no rule")])]) (fs_O (mn 2 aB.nd (FAL.out (by exact(aa aj (aa aj (aa aj (aa aj (aa aj (aa aj (aa aj af (ae rfl)) (ae rfl)) (ae rfl)) (ae rfl)) (ae rfl)) (ae rfl)) (ae rfl)))))) ?_ ?_;rfl;refine aA (S':=fun Ag=>[vv zV,vv zY,ow Ag]) (fs_X (fJ 2 bx.K (FAL.out (aa (au (aa aj (aa aj af (ae rfl)) (ae rfl))) af (ae rfl))))) ?_ (fun Ag=>?_);rfl;refine mo 2 (S':=[vv zV,vv zY,vv (.lst Ag)]) rfl rfl ?_;refine ay (ap (aq bx.K (aX bx.K (ac 2) (au (aa aj (aa aj af (ae rfl)) (ae rfl)))) (pW (re bx (ac 1) (FAL.out (aa eZ af (ae rfl))))))) ?_;rfl
end
def mth (s:Stmt)(j:Nat):Stmt:=match s with
 | .ClassDef _ _ _ b _ _ _ _ _ _ _=>b.getD j (.Pass ⟨0,0,0,0⟩)
 | _=>.Pass ⟨0,0,0,0⟩
abbrev eJ:Stmt:=mth (top 41) 0
theorem lg:FnScope ["self","first"] ["self","first"] (defScope eJ):=mkSc
abbrev eL:Stmt:=mth (top 41) 1
theorem lh:FnScope ["self"] ["self"] (defScope eL):=mkSc
abbrev dg:Stmt:=mth (top 41) 2
theorem ko:FnScope ["self","page"] ["self","page"] (defScope dg):=mkSc
abbrev eM:Stmt:=mth (top 41) 3
theorem gp:FnScope ["self","left"] ["self"] (defScope eM):=mkSc
abbrev dh:Stmt:=mth (top 41) 4
theorem kq:FnScope ["self"] ["self"] (defScope dh):=mkSc
abbrev di:Stmt:=mth (top 41) 5
theorem kr:FnScope ["self"] ["self"] (defScope di):=mkSc
abbrev eN:Stmt:=mth (top 63) 0
theorem li:FnScope ["self"] ["self"] (defScope eN):=mkSc
abbrev dl:Stmt:=mth (top 63) 1
theorem kt:FnScope ["self","held"] ["self","held"] (defScope dl):=mkSc
abbrev bW:Stmt:=mth (top 63) 2
theorem il:FnScope ["self"] ["self"] (defScope bW):=mkSc
abbrev dq:Stmt:=mth (top 63) 3
theorem fD:FnScope ["self","word","name","picture","held"] ["self","word","name","picture"] (defScope dq):=mkSc
abbrev fE:Stmt:=mth (top 63) 4
theorem eO:FnScope ["self","name","picture","told","had"] ["self","name","picture"] (defScope fE):=mkSc
abbrev bF:Stmt:=mth (top 63) 5
theorem fT:FnScope ["self","name"] ["self","name"] (defScope bF):=mkSc
abbrev eQ:Stmt:=mth (top 63) 6
theorem dr:FnScope ["self","name","told","held"] ["self","name"] (defScope eQ):=mkSc
abbrev eR:Stmt:=mth (top 63) 7
theorem gq:FnScope ["self","name","rule","one","other","told"] ["self","name","rule","one","other"] (defScope eR):=mkSc
abbrev eT:Stmt:=mth (top 63) 8
theorem gr:FnScope ["self","name","way","told"] ["self","name","way"] (defScope eT):=mkSc
abbrev dt:Stmt:=mth (top 63) 9
theorem ku:FnScope ["self"] ["self"] (defScope dt):=mkSc
abbrev cq:Stmt:=mth (top 63) 10
theorem dR:FnScope ["self","name","told"] ["self","name"] (defScope cq):=mkSc
abbrev eU:Stmt:=mth (top 63) 11
theorem lj:FnScope ["self"] ["self"] (defScope eU):=mkSc
abbrev du:Stmt:=mth (top 63) 12
theorem kx:FnScope ["self"] ["self"] (defScope du):=mkSc
abbrev dv:Stmt:=mth (top 63) 13
theorem ky:FnScope ["self"] ["self"] (defScope dv):=mkSc
abbrev bf:Stmt:=top 69
theorem aV:FnScope ["_law_script","_law_odd","_law_album","_law_k","_law_thing","_law_name","_law_gone","_law_rule","_law_told_here"] ["_law_script"] (defScope bf):=mkSc
abbrev im:Stmt:=top 68
theorem aO:FnScope ["_law_deed","e"] ["_law_deed"] (defScope im):=mkSc
structure TabQ (P:Program)(w:World)(K:Frag)(mg:Str→Option Value)(base:Heap)(C:Nat→Addr)(k:Nat)(t:Nat→List FF.D→FF.R FF.D)(tr:Nat→Wd→List FF.D→FF.R FF.D)(tw:Nat→Wd→List FF.D→RW):Prop where
 uzm:MkW P w K mg base C k 12 "Steps" ["self","first"] (tw M.uq9)
 uj3:MeR P w K mg base C k 12 "here" (tr M.uqw)
 ukf:MeW P w K mg base C k 12 "go_on" ["self","page"] (tw M.uq1)
 uxs:MeW P w K mg base C k 12 "back" ["self"] (tw M.uj1)
 uk9:MeW P w K mg base C k 12 "forth" ["self"] (tw M.ujv)
 uxa:MeR P w K mg base C k 12 "marks" (tr M.ujw)
 uzn:MkW P w K mg base C k 13 "Album" ["self"] (tw M.uj2)
 uxb:MeW P w K mg base C k 13 "begin" ["self","held"] (tw M.uja)
 uqr:MeR P w K mg base C k 13 "pictures" (tr M.uqp)
 ujz:MeW P w K mg base C k 13 "go_on" ["self","word","name","picture"] (tw M.uqs)
 ujx:MeW P w K mg base C k 13 "put" ["self","name","picture"] (tw M.uql)
 uqm:MeRs P w K mg base C k 13 "picture_of" ["self","name"] (tr M.uqa)
 ukh:MeW P w K mg base C k 13 "take" ["self","name"] (tw M.uqt)
 uq3:MeW P w K mg base C k 13 "join" ["self","name","rule","one","other"] (tw M.uqc)
 uj4:MeW P w K mg base C k 13 "move" ["self","name","way"] (tw M.uqn)
 uj0:MeR P w K mg base C k 13 "names" (tr M.uqu)
 uj5:MeRs P w K mg base C k 13 "same_as" ["self","name"] (tr M.uqo)
 uxt:MeW P w K mg base C k 13 "back" ["self"] (tw M.ujo)
 uxc:MeW P w K mg base C k 13 "forth" ["self"] (tw M.ujb)
 uxd:MeR P w K mg base C k 13 "marks" (tr M.ujc)
 hc:FnHd P w K mg base C k "_law_class" ["_law_kept"] (t F.au)
 uqq:Fd K mg "_law_told" ["_law_deed"] im
theorem fF {P:Program}{w:World}{K:Frag}{mg:Str→Option Value}{base:Heap}{C:Nat→Addr}{k:Nat}{t:Nat→List FF.D→FF.R FF.D}(T:Txt K mg C w.params)(zV:FF.D):OkHB P w K mg base C k ["_law_kept","_law_kinds","_law_some"] "_law_class" fP [zV] (iO t zV):=fun _ _ _ _ _ _ _ bx=>by
 show FL _ _ [vv zV,nn,nn] _ _ _;refine aA (S':=fun Ap=>[vv zV,ow Ap,nn]) (fs_O (mn 1 aB.nd (FAL.out (aa (aI bx rfl T.uqb T.uxm (ac 0) (az rfl T.uxj rfl)) (aa (aI bx rfl T.uqb T.uku (ac 0) (az rfl T.ukr rfl)) (aa (aI bx rfl T.uqb T.ukv (ac 0) (az rfl T.uks rfl)) af (ae rfl)) (ae rfl)) (ae rfl))))) ?_ (fun Ap=>?_);rfl;refine aA (S':=fun Ac=>[vv zV,ow Ac,nn]) (fs_X (fJ 1 bx.K (FAL.out (aa (au (aa (aI bx rfl T.uqb T.uxn (ac 0) (az rfl T.ukb rfl)) af (ae rfl))) af (ae rfl))))) ?_ (fun Ac=>?_);rfl;refine mo 1 (S':=[vv zV,vv (.lst Ac),nn]) rfl rfl ?_;refine aA (S':=fun Ae=>[vv zV,vv Ae,nn]) (aH 1 aB.nd (aX bx.K (ac 1) (au (aa (aI bx rfl T.uqb T.ukw (ac 0) (az rfl T.ukt rfl)) (aa (aI bx rfl T.uqb T.ukn (ac 0) (az rfl T.uj7 rfl)) (aa (aI bx rfl T.uqb T.uxo (ac 0) (az rfl T.ukq rfl)) af (ae rfl)) (ae rfl)) (ae rfl))))) ?_ (fun Ae=>?_);rfl;refine aA (S':=fun Af=>[vv zV,vv Af,nn]) (aH 1 aB.nd (aX bx.K (ac 1) (au (aa (aI bx rfl T.uqb T.uxp (ac 0) (az rfl T.uko rfl)) (aa (aI bx rfl T.uqb T.uxq (ac 0) (az rfl T.uxk rfl)) (aa (aI bx rfl T.uqb T.uke (ac 0) (az rfl T.ujd rfl)) af (ae rfl)) (ae rfl)) (ae rfl))))) ?_ (fun Af=>?_);rfl;refine aA (S':=fun zY=>[vv zV,vv zY,nn]) (aH 1 aB.nd (aX bx.K (ac 1) (au (aa (aI bx rfl T.uqb T.uxr (ac 0) (az rfl T.ukp rfl)) af (ae rfl))))) ?_ (fun zY=>?_);rfl;refine bh (inj:=fun (_:Unit) (w:Unit)=>[vv zV,vv zY,nn]) (aY (ft_w (jy (yP bx (pW (rG bx (ac 1) (FAL.out (aa eZ af (ae rfl))))) ah) (gA (bw (bE (aI bx rfl T.uqb T.i_ValueError (ac 0) (bp rfl T.b_ValueError (by decide +kernel) rfl))))))) ?_ ?_ ?_) (fun _ w=>?_);rfl
 ·refine ba (ap aj) ?_;rfl
 ·exact aF ⟨(),rfl⟩
 refine m6 (S':=[vv zV,vv zY,ow ([(.str "bad box"),(.str "no blocks"),(.str "no change"),(.str "no name"),(.str "no number"),(.str "no picture"),(.str "no rule")])]) (fs_O (mn 2 aB.nd (FAL.out (by exact(aa aj (aa aj (aa aj (aa aj (aa aj (aa aj (aa aj af (ae rfl)) (ae rfl)) (ae rfl)) (ae rfl)) (ae rfl)) (ae rfl)) (ae rfl)))))) ?_ ?_;rfl;refine aA (S':=fun Ag=>[vv zV,vv zY,ow Ag]) (fs_X (fJ 2 bx.K (FAL.out (aa (au (aa aj (aa aj af (ae rfl)) (ae rfl))) af (ae rfl))))) ?_ (fun Ag=>?_);rfl;refine mo 2 (S':=[vv zV,vv zY,vv (.lst Ag)]) rfl rfl ?_;refine ay (ap (aq bx.K (aX bx.K (ac 2) (au (aa aj (aa aj af (ae rfl)) (ae rfl)))) (pW (oM bx (ac 1) (FAL.out (aa eZ af (ae rfl))))))) ?_;rfl
section
variable {P:Program}{w:World}{K:Frag}{mg:Str→Option Value}{base:Heap}{C:Nat→Addr}{k:Nat}{t:Nat→List FF.D→FF.R FF.D}{tr:Nat→Wd→List FF.D→FF.R FF.D}{tw:Nat→Wd→List FF.D→RW}(T:Txt K mg C w.params)(G:Tab P w K mg base C k t)(Q:TabQ P w K mg base C k t tr tw)
include T G Q
theorem aJ (rf:Wd→RW):ToldB P w K mg base C (k+1) ["_law_deed","e"] "_law_told" "_law_deed" im rf (aw t rf):=fun _ _ _ _ _ _ _ _ _ _ bg _ _ deed W =>
 wB 1 bg (Q.hc.mono (Nat.le_succ k)) rfl rfl rfl rfl aO.nd rfl T.uxw T.takes (fun pn xe E' bg'=>oI (qd (deed pn xe E' _ _ W _ bg' rfl)))
theorem dA:OkG P w K mg base C k "__init__" "Steps.__init__" eJ ["self","first"] (b2 (cy t tr tw)):=okg2 lg fun W self first _ _ _ _ _ _ _ _ _ bg hpo made=>by
 show GL _ _ W [vv self,vv first] _ _ _;refine gD bg.K T.uqz (bq (fun H0 Z0 wk=>(au (aa (ac 1) af (ae rfl))))) ?_ (fun H0 Z0 W' wk=>(ac 0)) ?_ (fun w1=>?_);rfl;rfl;refine gD bg.K T.uqg (bq (fun H0 Z0 wk=>ah)) ?_ (fun H0 Z0 W' wk=>(ac 0)) ?_ (fun w3=>?_);rfl;rfl;exact cH True.intro
theorem dB:OkR P w K mg base C k "here" "Steps.here" eL "self" (r1 (cz t tr)):=okr1 lh fun W self _ _ _ _ _ _ _ _ bx wk=>by
 show FL _ _ [vv self] _ _ _;refine ay (ap (aq bx.K (bb bx.K wk T.uqz (ac 0)) (bb bx.K wk T.uqg (ac 0)))) ?_;rfl
theorem cJ:OkG P w K mg base C k "go_on" "Steps.go_on" dg ["self","page"] (b2 (b0 t tr tw)):=okg2 ko fun W self page _ _ _ _ _ _ _ _ _ bg hpo made=>by
 show GL _ _ W [vv self,vv page] _ _ _;refine gD bg.K T.uqg (bq (fun H0 Z0 wk=>(aX bg.bx.K (bb bg.bx.K wk T.uqg (ac 0)) ah))) ?_ (fun H0 Z0 W' wk=>(ac 0)) ?_ (fun w1=>?_);rfl;rfl;refine gD bg.K T.uqz (bq (fun H0 Z0 wk=>(aX bg.bx.K (yw bg.bx.K (bb bg.bx.K wk T.uqz (ac 0)) zk (zl (bb bg.bx.K wk T.uqg (ac 0)))) (au (aa (ac 1) af (ae rfl)))))) ?_ (fun H0 Z0 W' wk=>(ac 0)) ?_ (fun w3=>?_);rfl;rfl;exact cH True.intro
theorem dC:OkG P w K mg base C k "back" "Steps.back" eM ["self"] (b1 (cA t tr tw)):=okg1 gp fun W self _ _ _ _ _ _ _ _ _ bg hpo made=>by
 show GL _ _ W [vv self,nn] _ _ _;refine g9 (inj:=fun (_:Unit) (j:Unit)=>[vv self,nn]) (d0 (fun H0 Z0 wk=>(jE bg.bx (bb bg.bx.K wk T.uqg (ac 0)) ah))) ?_ (fun w=>?_) (fun w1=>?_) (fun w2 _ j=>?_);rfl
 ·refine uo (fun H0 Z0 wk=>ci 9 bg.bx made.of rfl T.ujd T.ukd (FAL.out (aa aj af (ae rfl)))) ?_;rfl
 ·exact cH ⟨(),rfl⟩
 refine bn (S':=fun left=>[vv self,vv left]) (fun H0 Z0 wk=>aH 1 gp.nd (bL bg.bx wk Q.uj3 (ac 0))) ?_ (fun left=>?_);rfl;refine gD bg.K T.uqg (bq (fun H0 Z0 wk=>(iE (bb bg.bx.K wk T.uqg (ac 0)) ah))) ?_ (fun H0 Z0 W' wk=>(ac 0)) ?_ (fun w4=>?_);rfl;rfl;refine bJ (fun H0 Z0 wk=>ap (ac 1)) ?_;rfl
theorem cK:OkG P w K mg base C k "forth" "Steps.forth" dh ["self"] (b1 (b7 t tr tw)):=okg1 kq fun W self _ _ _ _ _ _ _ _ _ bg hpo made=>by
 show GL _ _ W [vv self] _ _ _;refine g9 (inj:=fun (_:Unit) (j:Unit)=>[vv self]) (d0 (fun H0 Z0 wk=>(jE bg.bx (bb bg.bx.K wk T.uqg (ac 0)) (iE (fe_N (iF bg.bx rfl T.uka (FAL.out (aa (bb bg.bx.K wk T.uqz (ac 0)) af (ae rfl))))) ah)))) ?_ (fun w=>?_) (fun w1=>?_) (fun w2 _ j=>?_);rfl
 ·refine uo (fun H0 Z0 wk=>ci 9 bg.bx made.of rfl T.ujd T.ukd (FAL.out (aa aj af (ae rfl)))) ?_;rfl
 ·exact cH ⟨(),rfl⟩
 refine gD bg.K T.uqg (bq (fun H0 Z0 wk=>(aX bg.bx.K (bb bg.bx.K wk T.uqg (ac 0)) ah))) ?_ (fun H0 Z0 W' wk=>(ac 0)) ?_ (fun w4=>?_);rfl;rfl;refine qh (fun H0 Z0 wk=>ap (bL bg.bx wk Q.uj3 (ac 0))) ?_;rfl
theorem cL:OkR P w K mg base C k "marks" "Steps.marks" di "self" (r1 (b8 t tr)):=okr1 kr fun W self _ _ _ _ _ _ _ _ bx wk=>by
 show FL _ _ [vv self] _ _ _;refine ay (ap (aM (aa (bb bx.K wk T.uqg (ac 0)) (aa (iE (iE (fe_N (iF bx rfl T.uka (FAL.out (aa (bb bx.K wk T.uqz (ac 0)) af (ae rfl))))) ah) (bb bx.K wk T.uqg (ac 0))) af (ae rfl)) (ae rfl)))) ?_;rfl
theorem dD:OkG P w K mg base C k "__init__" "Album.__init__" eN ["self"] (b1 (cB t tr tw)):=okg1 li fun W self _ _ _ _ _ _ _ _ _ bg hpo made=>by
 show GL _ _ W [vv self] _ _ _;refine br (aE bg Q.uxb T.uqd (fun H0 Z0 wk=>(ac 0)) (fun H0 Z0 wk=>(FAL.out (aa uG af (ae rfl)))) (fun S ds h=>ar h)) ?_ (fun w=>?_);rfl;exact cH True.intro
theorem cM:OkG P w K mg base C k "begin" "Album.begin" dl ["self","held"] (b2 (b9 t tr tw)):=okg2 kt fun W self held _ _ _ _ _ _ _ _ _ bg hpo made=>by
 show GL _ _ W [vv self,vv held] _ _ _;refine gD bg.K T.uqv (wm bg Q.uzm rfl (fun H0 Z0 wk=>(FAL.out (aa (aM (aa aj (aa (ac 1) af (ae rfl)) (ae rfl))) af (ae rfl)))) (fun S ds h=>ar h)) ?_ (fun H0 Z0 W' wk=>(ac 0)) ?_ (fun w1=>?_);rfl;rfl;exact cH True.intro
theorem bO:OkR P w K mg base C k "pictures" "Album.pictures" bW "self" (r1 (bt t tr)):=okr1 il fun W self _ _ _ _ _ _ _ _ bx wk=>by
 show FL _ _ [vv self] _ _ _;refine ay (ap (aq bx.K (bL bx wk Q.uj3 (bb bx.K wk T.uqv (ac 0))) ah)) ?_;rfl
theorem cN:OkG P w K mg base C k "go_on" "Album.go_on" dq ["self","word","name","picture"] (b4 (cc t tr tw)):=okg4 fD fun W self word name picture _ _ _ _ _ _ _ _ _ bg hpo made=>by
 show GL _ _ W [vv self,vv word,vv name,vv picture,nn] _ _ _;refine bn (S':=fun held=>[vv self,vv word,vv name,vv picture,dc held]) (fun H0 Z0 wk=>(lV (nv 4 bg.bx fD.nd rfl T.ux3 (FAL.out (aa (bL bg.bx wk Q.uqr (ac 0)) af (ae rfl)))))) ?_ (fun held=>?_);rfl;refine bn (S':=fun held1=>[vv self,vv word,vv name,vv picture,dc held1]) (fun H0 Z0 wk=>(uh 4 bg.bx (ac 3) (ac 2))) ?_ (fun held1=>?_);rfl;refine qo 4 (S':=[vv self,vv word,vv name,vv picture,vv (dicD held1)]) rfl rfl ?_;refine br (aE bg Q.ukf T.uqy (fun H0 Z0 wk=>(bb bg.bx.K wk T.uqv (ac 0))) (fun H0 Z0 wk=>(FAL.out (aa (aM (aa (ac 1) (aa (ac 4) af (ae rfl)) (ae rfl))) af (ae rfl)))) (fun S ds h=>ar h)) ?_ (fun w=>?_);rfl;exact cH True.intro
theorem eV:OkG P w K mg base C k "put" "Album.put" fE ["self","name","picture"] (b3 (bG t tr tw)):=okg3 eO fun W self name picture _ _ _ _ _ _ _ _ _ bg hpo made=>by
 show GL _ _ W [vv self,vv name,vv picture,nn,nn] _ _ _;refine bn (S':=fun told=>[vv self,vv name,vv picture,vv told,nn]) (fun H0 Z0 wk=>aH 3 eO.nd (ak bg.bx G.g29 rfl (aa (ac 2) af (ae rfl)))) ?_ (fun told=>?_);rfl;refine br (bq (fun H0 Z0 wk=>(ak bg.bx G.g334 rfl (aa (ac 1) af (ae rfl))))) ?_ (fun w=>?_);rfl;refine bn (S':=fun had=>[vv self,vv name,vv picture,vv told,vv had]) (fun H0 Z0 wk=>aH 4 eO.nd (wG bg.bx (ac 1) (bL bg.bx wk Q.uqr (ac 0)))) ?_ (fun had=>?_);rfl;refine br (aE bg Q.ujz T.uqd (fun H0 Z0 wk=>(ac 0)) (fun H0 Z0 wk=>(FAL.out (aa aj (aa (ac 1) (aa (ac 3) af (ae rfl)) (ae rfl)) (ae rfl)))) (fun S ds h=>ar h)) ?_ (fun w1=>?_);rfl;refine bJ (fun H0 Z0 wk=>ap (ac 4)) ?_;rfl
theorem bB:OkRs P w K mg base C k "picture_of" "Album.picture_of" bF ["self","name"] (r2 (aD t tr)):=okrs2 fT fun W self name _ _ _ _ _ _ _ _ bx wk hpo made=>by
 show FL _ _ [vv self,vv name] _ _ _;refine bh (inj:=fun (_:Unit) (w:Unit)=>[vv self,vv name]) (aY (ft_w (jy (bw (bE (ak bx G.g280 rfl (aa (ac 1) af (ae rfl))))) (gA (uE bx (ac 1) (bL bx wk Q.uqr (ac 0)))))) ?_ ?_ ?_) (fun _ w=>?_);rfl
 ·refine lH (ci 11 bx made rfl T.ukb T.uxl (FAL.out (aa aj af (ae rfl)))) ?_;rfl
 ·exact aF ⟨(),rfl⟩
 refine ay (ap (wD bx (bL bx wk Q.uqr (ac 0)) (ac 1))) ?_;rfl
theorem dE:OkG P w K mg base C k "take" "Album.take" eQ ["self","name"] (b2 (bM t tr tw)):=okg2 dr fun W self name _ _ _ _ _ _ _ _ _ bg hpo made=>by
 show GL _ _ W [vv self,vv name,nn,nn] _ _ _;refine bn (S':=fun told=>[vv self,vv name,vv told,nn]) (fun H0 Z0 wk=>aH 2 dr.nd (fV bg.bx wk Q.uqm (ac 0) (FAL.out (aa (ac 1) af (ae rfl))) (fun S ds h=>ar h))) ?_ (fun told=>?_);rfl;refine bn (S':=fun held=>[vv self,vv name,vv told,dc held]) (fun H0 Z0 wk=>(lV (nv 3 bg.bx dr.nd rfl T.ux3 (FAL.out (aa (bL bg.bx wk Q.uqr (ac 0)) af (ae rfl)))))) ?_ (fun held=>?_);rfl;refine bn (S':=fun held1=>[vv self,vv name,vv told,dc held1]) (fun H0 Z0 wk=>(oU (rN 3 (ac 1) (m1:=⟨rfl,rfl,rfl,rfl⟩)))) ?_ (fun held1=>?_);rfl;refine qo 3 (S':=[vv self,vv name,vv told,vv (dicD held1)]) rfl rfl ?_;refine br (aE bg Q.ukf T.uqy (fun H0 Z0 wk=>(bb bg.bx.K wk T.uqv (ac 0))) (fun H0 Z0 wk=>(FAL.out (aa (aM (aa aj (aa (ac 3) af (ae rfl)) (ae rfl))) af (ae rfl)))) (fun S ds h=>ar h)) ?_ (fun w=>?_);rfl;refine bJ (fun H0 Z0 wk=>ap (ac 2)) ?_;rfl
theorem dF:OkG P w K mg base C k "join" "Album.join" eR ["self","name","rule","one","other"] (b5 (bu t tr tw)):=okg5 gq fun W self name rule one other _ _ _ _ _ _ _ _ _ bg hpo made=>by
 show GL _ _ W [vv self,vv name,vv rule,vv one,vv other,nn] _ _ _;refine br (bq (fun H0 Z0 wk=>(ak bg.bx G.g155 rfl (aa (ac 2) af (ae rfl))))) ?_ (fun w=>?_);rfl;refine br (bq (fun H0 Z0 wk=>(ak bg.bx G.g334 rfl (aa (ac 1) af (ae rfl))))) ?_ (fun w1=>?_);rfl;refine bn (S':=fun told=>[vv self,vv name,vv rule,vv one,vv other,vv told]) (fun H0 Z0 wk=>aH 5 gq.nd (ak bg.bx G.g161 rfl (aa (ac 2) (aa (fV bg.bx wk Q.uqm (ac 0) (FAL.out (aa (ac 3) af (ae rfl))) (fun S ds h=>ar h)) (aa (fV bg.bx wk Q.uqm (ac 0) (FAL.out (aa (ac 4) af (ae rfl))) (fun S ds h=>ar h)) af (ae rfl)) (ae rfl)) (ae rfl)))) ?_ (fun told=>?_);rfl;refine br (aE bg Q.ujz T.uqd (fun H0 Z0 wk=>(ac 0)) (fun H0 Z0 wk=>(FAL.out (aa aj (aa (ac 1) (aa (ac 5) af (ae rfl)) (ae rfl)) (ae rfl)))) (fun S ds h=>ar h)) ?_ (fun w2=>?_);rfl;refine bJ (fun H0 Z0 wk=>ap (ac 5)) ?_;rfl
theorem dG:OkG P w K mg base C k "move" "Album.move" eT ["self","name","way"] (b3 (bv t tr tw)):=okg3 gr fun W self name way _ _ _ _ _ _ _ _ _ bg hpo made=>by
 show GL _ _ W [vv self,vv name,vv way,nn] _ _ _;refine bn (S':=fun told=>[vv self,vv name,vv way,vv told]) (fun H0 Z0 wk=>aH 3 gr.nd (ak bg.bx G.g128 rfl (aa (fV bg.bx wk Q.uqm (ac 0) (FAL.out (aa (ac 1) af (ae rfl))) (fun S ds h=>ar h)) (aa (ac 2) af (ae rfl)) (ae rfl)))) ?_ (fun told=>?_);rfl;refine br (aE bg Q.ujz T.uqd (fun H0 Z0 wk=>(ac 0)) (fun H0 Z0 wk=>(FAL.out (aa aj (aa (ac 1) (aa (ac 3) af (ae rfl)) (ae rfl)) (ae rfl)))) (fun S ds h=>ar h)) ?_ (fun w=>?_);rfl;refine bJ (fun H0 Z0 wk=>ap (ac 3)) ?_;rfl
theorem cO:OkR P w K mg base C k "names" "Album.names" dt "self" (r1 (ce t tr)):=okr1 ku fun W self _ _ _ _ _ _ _ _ bx wk=>by
 show FL _ _ [vv self] _ _ _;refine ay (ap (fe_N (oR bx rfl T.uzg (FAL.out (aa (bL bx wk Q.uqr (ac 0)) af (ae rfl)))))) ?_;rfl
theorem bX:OkRs P w K mg base C k "same_as" "Album.same_as" cq ["self","name"] (r2 (bd t tr)):=okrs2 dR fun W self name _ _ _ _ _ _ _ _ bx wk hpo made=>by
 show FL _ _ [vv self,vv name,nn] _ _ _;refine aA (S':=fun told=>[vv self,vv name,vv told]) (aH 2 dR.nd (fV bx wk Q.uqm (ac 0) (FAL.out (aa (ac 1) af (ae rfl))) (fun S ds h=>ar h))) ?_ (fun told=>?_);rfl;refine ay (ap (fe_C (qW (N:=["other","name","told","self"]) (own:=1) (cap:=[1,2,0]) bx (BlkOk.of (by kernel_rfl)) (gC bx.K (bL bx wk Q.uj0 (ac 0))) (iD (by decide)) (fun _ _ _ _ _=>bY 0 (show List.Nodup (α:=Str) ["other","name","told","self"] by decide +kernel)) (fun _ _ _ _ _=>(ft_w (og (fU (cZ bx) (ac 0) (ac 1)) (mf (jE (cZ bx) (fV (cZ bx) wk Q.uqm (ac 3) (FAL.out (aa (ac 0) af (ae rfl))) (fun S ds h=>ar h)) (ac 2)))))) (fun _ _ _ _ _=>(ac 0))))) ?_;rfl
theorem dH:OkG P w K mg base C k "back" "Album.back" eU ["self"] (b1 (cC t tr tw)):=okg1 lj fun W self _ _ _ _ _ _ _ _ _ bg hpo made=>by
 show GL _ _ W [vv self] _ _ _;refine mv (xD bg (g8 bg Q.uxs T.uqy rfl (fun H0 Z0 wk=>(bb bg.bx.K wk T.uqv (ac 0)))) (fun H0 Z0 W' wk=>ah)) ?_;rfl
theorem cP:OkG P w K mg base C k "forth" "Album.forth" du ["self"] (b1 (cf t tr tw)):=okg1 kx fun W self _ _ _ _ _ _ _ _ _ bg hpo made=>by
 show GL _ _ W [vv self] _ _ _;refine mv (xD bg (g8 bg Q.uk9 T.uqy rfl (fun H0 Z0 wk=>(bb bg.bx.K wk T.uqv (ac 0)))) (fun H0 Z0 W' wk=>ah)) ?_;rfl
theorem cQ:OkR P w K mg base C k "marks" "Album.marks" dv "self" (r1 (cg t tr)):=okr1 ky fun W self _ _ _ _ _ _ _ _ bx wk=>by
 show FL _ _ [vv self] _ _ _;refine ay (ap (bL bx wk Q.uxa (bb bx.K wk T.uqv (ac 0)))) ?_;rfl
abbrev oDz0:D:=.lst [.non,(.tup []),(.tup [.int 4,.int 0]),(.tup [.int 0,(.tup [.int 1,.int 1,.int 1,.int 1])]),(.tup [.int 1,(.tup [.int 1,.int 1,.int 1])]),(.lst [.int 0,.int 1]),(.tup [(.bl true),.int 1]),(.tup [.int 1,.int 10]),(.tup [.int 0,(.bl true)])]
abbrev oDz1:D:=.lst [.int 8,(.int (-1)),.int 9,.int 99]
theorem pi:OkGL P w K mg base C (k+2) 0 "law" bf ["_law_script"] (b1 (fO t tr tw)):=okgl1w aV fun W zT _ _ _ _ _ _ _ _ _ bg2 hpo made lx=>by
 have bg:=bg2.mono (Nat.le_add_right k 2);show GLw _ _ W [vv zT,nn,nn,nn,nn,nn,nn,nn,nn] _ _ _;refine oS (S':=[vv zT,vv oDz0,nn,nn,nn,nn,nn,nn,nn]) (fun H0 Z0 wk=>wJ 1 aV.nd (qm (falw wI (falw (cw af) (falw (cw (falw aT (falw aT af))) (falw (cw (falw aT (falw (cw (falw aT (falw aT (falw aT (falw aT af))))) af))) (falw (cw (falw aT (falw (cw (falw aT (falw aT (falw aT af)))) af))) (falw (qm (falw aT (falw aT af))) (falw (cw (falw uI (falw aT af))) (falw (cw (falw aT (falw aT af))) (falw (cw (falw aT (falw uI af))) af))))))))))) ?_ ?_;rfl;refine yV ?_;refine yJ 2 (S':=fun zR=>[vv zT,vv oDz0,vv zR,nn,nn,nn,nn,nn,nn]) aV.nd (ut bg Q.uzn rfl rfl) ?_ (fun _=>rfl) (fun w zR=>?_);rfl;refine br (aE bg Q.ujx T.uqd (fun H0 Z0 wk=>(ac 2)) (fun H0 Z0 wk=>(FAL.out (by exact(aa aj (aa (aM (aa ah (aa (aM (aa ah (aa ah (aa ah (aa ah af (ae rfl)) (ae rfl)) (ae rfl)) (ae rfl))) af (ae rfl)) (ae rfl))) af (ae rfl)) (ae rfl))))) (fun S ds h=>ar h)) ?_ (fun w1=>?_);rfl;refine br (aE bg Q.ujx T.uqd (fun H0 Z0 wk=>(ac 2)) (fun H0 Z0 wk=>(FAL.out (aa aj (aa (aM (aa ah (aa ah af (ae rfl)) (ae rfl))) af (ae rfl)) (ae rfl)))) (fun S ds h=>ar h)) ?_ (fun w2=>?_);rfl;refine br (aE bg Q.uj4 T.uqd (fun H0 Z0 wk=>(ac 2)) (fun H0 Z0 wk=>(FAL.out (aa aj (aa ah af (ae rfl)) (ae rfl)))) (fun S ds h=>ar h)) ?_ (fun w3=>?_);rfl;refine br (g8 bg Q.uxt T.uqd rfl (fun H0 Z0 wk=>(ac 2))) ?_ (fun w4=>?_);rfl;refine wt (inj:=fun (_:Unit) (j:Option Sl×Option Sl×Option Sl×Option Sl×Option Sl×Option Sl)=>[vv zT,vv oDz0,vv zR,j.1,j.2.1,j.2.2.1,j.2.2.2.1,j.2.2.2.2.1,j.2.2.2.2.2]) ?_ (wq 3 (s0:=()) (B:=fun (_:Unit) (j:Option Sl×Option Sl×Option Sl×Option Sl×Option Sl×Option Sl) x=>[vv zT,vv oDz0,vv zR,vv x,j.2.1,j.2.2.1,j.2.2.2.1,j.2.2.2.2.1,j.2.2.2.2.2]) (step:=fun W _ x=>bN t tr tw zT oDz0 zR W x) (nn,nn,nn,nn,nn,nn) hpo rfl (fun H0 Z0 wk=>(xA (lC rfl T.ux1 (FAL.out (aa ah af (ae rfl)))))) (fun _ _ _ _=>bY 3 aV.nd) rfl (fun _ _ _=>rfl) (fun w5 _ j x=>?_)) (fun w35 _ j2=>?_);rfl
 ·refine bn (S':=fun zW=>[vv zT,vv oDz0,vv zR,vv x,vv zW,j.2.2.1,j.2.2.2.1,j.2.2.2.2.1,j.2.2.2.2.2]) (fun H0 Z0 wk=>aH 4 aV.nd (aq bg.bx.K (ac 1) (a9 (aX bg.bx.K (ak bg.bx G.g31 rfl (aa (ac 0) (aa ah (aa ah af (ae rfl)) (ae rfl)) (ae rfl))) (fj bg.bx.K ah (ac 3))) ah))) ?_ (fun zW=>?_);rfl;refine bn (S':=fun zS=>[vv zT,vv oDz0,vv zR,vv x,vv zW,vv zS,j.2.2.2.1,j.2.2.2.2.1,j.2.2.2.2.2]) (fun H0 Z0 wk=>aH 5 aV.nd (aq bg.bx.K (au (by exact(aa oa (aa aj (aa aj (aa aj (aa ah (aa (au (aa aj af (ae rfl))) (aa aj (aa aj af (ae rfl)) (ae rfl)) (ae rfl)) (ae rfl)) (ae rfl)) (ae rfl)) (ae rfl)) (ae rfl)))) (a9 (aX bg.bx.K (ak bg.bx G.g31 rfl (aa (ac 0) (aa ah (aa ah af (ae rfl)) (ae rfl)) (ae rfl))) (fj bg.bx.K ah (ac 3))) ah))) ?_ (fun zS=>?_);rfl;refine bn (S':=fun zU=>[vv zT,vv oDz0,vv zR,vv x,vv zW,vv zS,vv zU,j.2.2.2.2.1,j.2.2.2.2.2]) (fun H0 Z0 wk=>aH 6 aV.nd (aq bg.bx.K (au (aa aj (aa aj (aa aj (aa aj af (ae rfl)) (ae rfl)) (ae rfl)) (ae rfl))) (a9 (aX bg.bx.K (ak bg.bx G.g31 rfl (aa (ac 0) (aa ah (aa ah af (ae rfl)) (ae rfl)) (ae rfl))) (ac 3)) ah))) ?_ (fun zU=>?_);rfl;refine bn (S':=fun zX=>[vv zT,vv oDz0,vv zR,vv x,vv zW,vv zS,vv zU,vv zX,j.2.2.2.2.2]) (fun H0 Z0 wk=>aH 7 aV.nd (aq bg.bx.K (au (by exact(aa aj (aa oa (aa ah (aa (au (aa aj af (ae rfl))) (aa aj (aa aj af (ae rfl)) (ae rfl)) (ae rfl)) (ae rfl)) (ae rfl)) (ae rfl)))) (a9 (aX bg.bx.K (ak bg.bx G.g31 rfl (aa (ac 0) (aa ah (aa ah af (ae rfl)) (ae rfl)) (ae rfl))) (ac 3)) ah))) ?_ (fun zX=>?_);rfl;refine qj 8 (S':=fun Aq=>[vv zT,vv oDz0,vv zR,vv x,vv zW,vv zS,vv zU,vv zX,ow [Aq]]) aV.nd (bD (k:=k) (fr:=["_law_thing","_law_name","_law_k","_law_album"]) (ds:=[zW,zS,x,zR]) (rf:=(fun w6=>rwA w6 (.ok zR) fun o4=>rwM 13 "put" w6 o4 (rwA w6 (rL [((dMod x (.int 2)).bind fun x16=>dIx (.lst [zS,(.str "a")]) x16),(.ok zW)]) fun ds=>tw M.uql w6 (o4::ds)))) (lt:=aw t (fun w6=>rwA w6 (.ok zR) fun o4=>rwM 13 "put" w6 o4 (rwA w6 (rL [((dMod x (.int 2)).bind fun x16=>dIx (.lst [zS,(.str "a")]) x16),(.ok zW)]) fun ds=>tw M.uql w6 (o4::ds)))) 0 bg2 lx Q.uqq aO rfl rfl (.cons 4 rfl rfl rfl rfl (.cons 5 rfl rfl rfl rfl (.cons 3 rfl rfl rfl rfl (.cons 2 rfl rfl rfl rfl .nil)))) ⟨rfl,rfl,rfl,by decide,fun _ _ _ _=>rfl⟩ (fun _ _ _ _ _ _ _ _ _ _ w6 bg=>cj (aE bg Q.ujx T.uqd (fun H0 Z0 wk=>(ac 3)) (fun H0 Z0 wk=>(FAL.out (aa (aq bg.bx.K (au (aa (ac 1) (aa aj af (ae rfl)) (ae rfl))) (a9 (ac 2) ah)) (aa (ac 0) af (ae rfl)) (ae rfl)))) (fun S ds h=>ar h)) rfl) (aJ T G Q (fun w6=>rwA w6 (.ok zR) fun o4=>rwM 13 "put" w6 o4 (rwA w6 (rL [((dMod x (.int 2)).bind fun x16=>dIx (.lst [zS,(.str "a")]) x16),(.ok zW)]) fun ds=>tw M.uql w6 (o4::ds))))) (fun _=>rfl) (fun w7 Aq=>?_);refine bZ 8 (S':=fun Ah=>[vv zT,vv oDz0,vv zR,vv x,vv zW,vv zS,vv zU,vv zX,ow Ah]) rfl (bD (k:=k) (fr:=["_law_rule","_law_name","_law_k","_law_gone","_law_album"]) (ds:=[zX,zS,x,zU,zR]) (rf:=(fun w8=>rwA w8 (.ok zR) fun o5=>rwM 13 "join" w8 o5 (rwA w8 (rL [((dMod x (.int 2)).bind fun x18=>dIx (.lst [zS,(.str "a")]) x18),(.ok zX),(.ok zU),(.ok (.str "b"))]) fun ds=>tw M.uqc w8 (o5::ds)))) (lt:=aw t (fun w8=>rwA w8 (.ok zR) fun o5=>rwM 13 "join" w8 o5 (rwA w8 (rL [((dMod x (.int 2)).bind fun x18=>dIx (.lst [zS,(.str "a")]) x18),(.ok zX),(.ok zU),(.ok (.str "b"))]) fun ds=>tw M.uqc w8 (o5::ds)))) 0 bg2 lx Q.uqq aO rfl rfl (.cons 7 rfl rfl rfl rfl (.cons 5 rfl rfl rfl rfl (.cons 3 rfl rfl rfl rfl (.cons 6 rfl rfl rfl rfl (.cons 2 rfl rfl rfl rfl .nil))))) ⟨rfl,rfl,rfl,by decide,fun _ _ _ _=>rfl⟩ (fun _ _ _ _ _ _ _ _ _ _ w8 bg=>cj (aE bg Q.uq3 T.uqd (fun H0 Z0 wk=>(ac 4)) (fun H0 Z0 wk=>(FAL.out (aa (aq bg.bx.K (au (aa (ac 1) (aa aj af (ae rfl)) (ae rfl))) (a9 (ac 2) ah)) (aa (ac 0) (aa (ac 3) (aa aj af (ae rfl)) (ae rfl)) (ae rfl)) (ae rfl)))) (fun S ds h=>ar h)) rfl) (aJ T G Q (fun w8=>rwA w8 (.ok zR) fun o5=>rwM 13 "join" w8 o5 (rwA w8 (rL [((dMod x (.int 2)).bind fun x18=>dIx (.lst [zS,(.str "a")]) x18),(.ok zX),(.ok zU),(.ok (.str "b"))]) fun ds=>tw M.uqc w8 (o5::ds))))) (fun _=>rfl) (fun w9 Ah=>?_);refine bZ 8 (S':=fun Ai=>[vv zT,vv oDz0,vv zR,vv x,vv zW,vv zS,vv zU,vv zX,ow Ai]) rfl (bD (k:=k) (fr:=["_law_album"]) (ds:=[zR]) (rf:=(fun w10=>rwA w10 (.ok zR) fun o6=>rwM 13 "join" w10 o6 (rwA w10 (rL [(.ok (.str "c")),(.ok (.str "sum")),(.ok (.str "a")),(.ok (.str "b"))]) fun ds=>tw M.uqc w10 (o6::ds)))) (lt:=aw t (fun w10=>rwA w10 (.ok zR) fun o6=>rwM 13 "join" w10 o6 (rwA w10 (rL [(.ok (.str "c")),(.ok (.str "sum")),(.ok (.str "a")),(.ok (.str "b"))]) fun ds=>tw M.uqc w10 (o6::ds)))) 0 bg2 lx Q.uqq aO rfl rfl (.cons 2 rfl rfl rfl rfl .nil) ⟨rfl,rfl,rfl,by decide,fun _ _ _ _=>rfl⟩ (fun _ _ _ _ _ _ _ _ _ _ w10 bg=>cj (aE bg Q.uq3 T.uqd (fun H0 Z0 wk=>(ac 0)) (fun H0 Z0 wk=>(FAL.out (aa aj (aa aj (aa aj (aa aj af (ae rfl)) (ae rfl)) (ae rfl)) (ae rfl)))) (fun S ds h=>ar h)) rfl) (aJ T G Q (fun w10=>rwA w10 (.ok zR) fun o6=>rwM 13 "join" w10 o6 (rwA w10 (rL [(.ok (.str "c")),(.ok (.str "sum")),(.ok (.str "a")),(.ok (.str "b"))]) fun ds=>tw M.uqc w10 (o6::ds))))) (fun _=>rfl) (fun w11 Ai=>?_);refine bZ 8 (S':=fun Ab=>[vv zT,vv oDz0,vv zR,vv x,vv zW,vv zS,vv zU,vv zX,ow Ab]) rfl (bD (k:=k) (fr:=["_law_k","_law_album"]) (ds:=[x,zR]) (rf:=(fun w12=>rwA w12 (.ok zR) fun o7=>rwM 13 "move" w12 o7 (rwA w12 (rL [(.ok (.str "a")),(dIx oDz1 x)]) fun ds=>tw M.uqn w12 (o7::ds)))) (lt:=aw t (fun w12=>rwA w12 (.ok zR) fun o7=>rwM 13 "move" w12 o7 (rwA w12 (rL [(.ok (.str "a")),(dIx oDz1 x)]) fun ds=>tw M.uqn w12 (o7::ds)))) 0 bg2 lx Q.uqq aO rfl rfl (.cons 3 rfl rfl rfl rfl (.cons 2 rfl rfl rfl rfl .nil)) ⟨rfl,rfl,rfl,by decide,fun _ _ _ _=>rfl⟩ (fun _ _ _ _ _ _ _ _ _ _ w12 bg=>cj (aE bg Q.uj4 T.uqd (fun H0 Z0 wk=>(ac 1)) (fun H0 Z0 wk=>(FAL.out (aa aj (aa (aq bg.bx.K (au (aa ah (aa (yu ah) (aa ah (aa ah af (ae rfl)) (ae rfl)) (ae rfl)) (ae rfl))) (ac 0)) af (ae rfl)) (ae rfl)))) (fun S ds h=>ar h)) rfl) (aJ T G Q (fun w12=>rwA w12 (.ok zR) fun o7=>rwM 13 "move" w12 o7 (rwA w12 (rL [(.ok (.str "a")),(dIx oDz1 x)]) fun ds=>tw M.uqn w12 (o7::ds))))) (fun _=>rfl) (fun w13 Ab=>?_);refine uq 8 (S':=[vv zT,vv oDz0,vv zR,vv x,vv zW,vv zS,vv zU,vv zX,vv (.lst Ab)]) rfl rfl ?_;refine g9 (inj:=fun (_:Unit) (j1:Unit)=>[vv zT,vv oDz0,vv zR,vv x,vv zW,vv zS,vv zU,vv zX,vv (.lst Ab)]) (d0 (fun H0 Z0 wk=>(fU bg.bx (ac 8) (au (aa aj (aa aj (aa aj (aa aj af (ae rfl)) (ae rfl)) (ae rfl)) (ae rfl)))))) ?_ (fun w14=>?_) (fun w15=>?_) (fun w16 _ j1=>?_);rfl
  ·refine bJ (fun H0 Z0 wk=>ap eZ) ?_;rfl
  ·exact cH ⟨(),rfl⟩
  refine qj 8 (S':=fun Aj=>[vv zT,vv oDz0,vv zR,vv x,vv zW,vv zS,vv zU,vv zX,ow [Aj]]) aV.nd (bD (k:=k) (fr:=["_law_name","_law_album"]) (ds:=[zS,zR]) (rf:=(fun w17=>rwA w17 (.ok zR) fun o8=>rwM 13 "put" w17 o8 (rwA w17 (rL [(.ok zS),(.ok (.tup [.int 0,.int 0]))]) fun ds=>tw M.uql w17 (o8::ds)))) (lt:=aw t (fun w17=>rwA w17 (.ok zR) fun o8=>rwM 13 "put" w17 o8 (rwA w17 (rL [(.ok zS),(.ok (.tup [.int 0,.int 0]))]) fun ds=>tw M.uql w17 (o8::ds)))) 0 bg2 lx Q.uqq aO rfl rfl (.cons 5 rfl rfl rfl rfl (.cons 2 rfl rfl rfl rfl .nil)) ⟨rfl,rfl,rfl,by decide,fun _ _ _ _=>rfl⟩ (fun _ _ _ _ _ _ _ _ _ _ w17 bg=>cj (aE bg Q.ujx T.uqd (fun H0 Z0 wk=>(ac 1)) (fun H0 Z0 wk=>(FAL.out (aa (ac 0) (aa (aM (aa ah (aa ah af (ae rfl)) (ae rfl))) af (ae rfl)) (ae rfl)))) (fun S ds h=>ar h)) rfl) (aJ T G Q (fun w17=>rwA w17 (.ok zR) fun o8=>rwM 13 "put" w17 o8 (rwA w17 (rL [(.ok zS),(.ok (.tup [.int 0,.int 0]))]) fun ds=>tw M.uql w17 (o8::ds))))) (fun _=>rfl) (fun w18 Aj=>?_);refine bZ 8 (S':=fun Ak=>[vv zT,vv oDz0,vv zR,vv x,vv zW,vv zS,vv zU,vv zX,ow Ak]) rfl (bD (k:=k) (fr:=["_law_name","_law_k","_law_gone","_law_album"]) (ds:=[zS,x,zU,zR]) (rf:=(fun w19=>rwA w19 (.ok zR) fun o9=>rwM 13 "take" w19 o9 (rwA w19 (rL [((dMod x (.int 2)).bind fun x20=>dIx (.lst [zS,zU]) x20)]) fun ds=>tw M.uqt w19 (o9::ds)))) (lt:=aw t (fun w19=>rwA w19 (.ok zR) fun o9=>rwM 13 "take" w19 o9 (rwA w19 (rL [((dMod x (.int 2)).bind fun x20=>dIx (.lst [zS,zU]) x20)]) fun ds=>tw M.uqt w19 (o9::ds)))) 0 bg2 lx Q.uqq aO rfl rfl (.cons 5 rfl rfl rfl rfl (.cons 3 rfl rfl rfl rfl (.cons 6 rfl rfl rfl rfl (.cons 2 rfl rfl rfl rfl .nil)))) ⟨rfl,rfl,rfl,by decide,fun _ _ _ _=>rfl⟩ (fun _ _ _ _ _ _ _ _ _ _ w19 bg=>cj (aE bg Q.ukh T.uqd (fun H0 Z0 wk=>(ac 3)) (fun H0 Z0 wk=>(FAL.out (aa (aq bg.bx.K (au (aa (ac 0) (aa (ac 2) af (ae rfl)) (ae rfl))) (a9 (ac 1) ah)) af (ae rfl)))) (fun S ds h=>ar h)) rfl) (aJ T G Q (fun w19=>rwA w19 (.ok zR) fun o9=>rwM 13 "take" w19 o9 (rwA w19 (rL [((dMod x (.int 2)).bind fun x20=>dIx (.lst [zS,zU]) x20)]) fun ds=>tw M.uqt w19 (o9::ds))))) (fun _=>rfl) (fun w20 Ak=>?_);refine bZ 8 (S':=fun Al=>[vv zT,vv oDz0,vv zR,vv x,vv zW,vv zS,vv zU,vv zX,ow Al]) rfl (bD (k:=k) (fr:=["_law_name","_law_k","_law_gone","_law_album"]) (ds:=[zS,x,zU,zR]) (rf:=(fun w21=>rwR w21 (rM 13 "picture_of" w21 zR ((rL [((dMod x (.int 2)).bind fun x22=>dIx (.lst [zU,zS]) x22)]).bind fun ds=>tr M.uqa w21 (zR::ds))))) (lt:=aw t (fun w21=>rwR w21 (rM 13 "picture_of" w21 zR ((rL [((dMod x (.int 2)).bind fun x22=>dIx (.lst [zU,zS]) x22)]).bind fun ds=>tr M.uqa w21 (zR::ds))))) 0 bg2 lx Q.uqq aO rfl rfl (.cons 5 rfl rfl rfl rfl (.cons 3 rfl rfl rfl rfl (.cons 6 rfl rfl rfl rfl (.cons 2 rfl rfl rfl rfl .nil)))) ⟨rfl,rfl,rfl,by decide,fun _ _ _ _=>rfl⟩ (fun _ _ _ _ _ _ _ _ _ _ w21 bg=>cj (bq (fun H0 Z0 wk=>(fV bg.bx wk Q.uqm (ac 3) (FAL.out (aa (aq bg.bx.K (au (aa (ac 2) (aa (ac 0) af (ae rfl)) (ae rfl))) (a9 (ac 1) ah)) af (ae rfl))) (fun S ds h=>ar h)))) rfl) (aJ T G Q (fun w21=>rwR w21 (rM 13 "picture_of" w21 zR ((rL [((dMod x (.int 2)).bind fun x22=>dIx (.lst [zU,zS]) x22)]).bind fun ds=>tr M.uqa w21 (zR::ds)))))) (fun _=>rfl) (fun w22 Al=>?_);refine bZ 8 (S':=fun Am=>[vv zT,vv oDz0,vv zR,vv x,vv zW,vv zS,vv zU,vv zX,ow Am]) rfl (bD (k:=k) (fr:=["_law_name","_law_k","_law_gone","_law_album"]) (ds:=[zS,x,zU,zR]) (rf:=(fun w23=>rwA w23 (.ok zR) fun o10=>rwM 13 "move" w23 o10 (rwA w23 (rL [((dMod x (.int 2)).bind fun x24=>dIx (.lst [zS,zU]) x24),(.ok (.int 9))]) fun ds=>tw M.uqn w23 (o10::ds)))) (lt:=aw t (fun w23=>rwA w23 (.ok zR) fun o10=>rwM 13 "move" w23 o10 (rwA w23 (rL [((dMod x (.int 2)).bind fun x24=>dIx (.lst [zS,zU]) x24),(.ok (.int 9))]) fun ds=>tw M.uqn w23 (o10::ds)))) 0 bg2 lx Q.uqq aO rfl rfl (.cons 5 rfl rfl rfl rfl (.cons 3 rfl rfl rfl rfl (.cons 6 rfl rfl rfl rfl (.cons 2 rfl rfl rfl rfl .nil)))) ⟨rfl,rfl,rfl,by decide,fun _ _ _ _=>rfl⟩ (fun _ _ _ _ _ _ _ _ _ _ w23 bg=>cj (aE bg Q.uj4 T.uqd (fun H0 Z0 wk=>(ac 3)) (fun H0 Z0 wk=>(FAL.out (aa (aq bg.bx.K (au (aa (ac 0) (aa (ac 2) af (ae rfl)) (ae rfl))) (a9 (ac 1) ah)) (aa ah af (ae rfl)) (ae rfl)))) (fun S ds h=>ar h)) rfl) (aJ T G Q (fun w23=>rwA w23 (.ok zR) fun o10=>rwM 13 "move" w23 o10 (rwA w23 (rL [((dMod x (.int 2)).bind fun x24=>dIx (.lst [zS,zU]) x24),(.ok (.int 9))]) fun ds=>tw M.uqn w23 (o10::ds))))) (fun _=>rfl) (fun w24 Am=>?_);refine bZ 8 (S':=fun An=>[vv zT,vv oDz0,vv zR,vv x,vv zW,vv zS,vv zU,vv zX,ow An]) rfl (bD (k:=k) (fr:=["_law_name","_law_k","_law_gone","_law_album"]) (ds:=[zS,x,zU,zR]) (rf:=(fun w25=>rwR w25 (rM 13 "same_as" w25 zR ((rL [((dMod x (.int 2)).bind fun x26=>dIx (.lst [zU,zS]) x26)]).bind fun ds1=>tr M.uqo w25 (zR::ds1))))) (lt:=aw t (fun w25=>rwR w25 (rM 13 "same_as" w25 zR ((rL [((dMod x (.int 2)).bind fun x26=>dIx (.lst [zU,zS]) x26)]).bind fun ds1=>tr M.uqo w25 (zR::ds1))))) 0 bg2 lx Q.uqq aO rfl rfl (.cons 5 rfl rfl rfl rfl (.cons 3 rfl rfl rfl rfl (.cons 6 rfl rfl rfl rfl (.cons 2 rfl rfl rfl rfl .nil)))) ⟨rfl,rfl,rfl,by decide,fun _ _ _ _=>rfl⟩ (fun _ _ _ _ _ _ _ _ _ _ w25 bg=>cj (bq (fun H0 Z0 wk=>(fV bg.bx wk Q.uj5 (ac 3) (FAL.out (aa (aq bg.bx.K (au (aa (ac 2) (aa (ac 0) af (ae rfl)) (ae rfl))) (a9 (ac 1) ah)) af (ae rfl))) (fun S ds h=>ar h)))) rfl) (aJ T G Q (fun w25=>rwR w25 (rM 13 "same_as" w25 zR ((rL [((dMod x (.int 2)).bind fun x26=>dIx (.lst [zU,zS]) x26)]).bind fun ds1=>tr M.uqo w25 (zR::ds1)))))) (fun _=>rfl) (fun w26 An=>?_);refine bZ 8 (S':=fun Ao=>[vv zT,vv oDz0,vv zR,vv x,vv zW,vv zS,vv zU,vv zX,ow Ao]) rfl (bD (k:=k) (fr:=["_law_name","_law_album"]) (ds:=[zS,zR]) (rf:=(fun w27=>rwA w27 (.ok zR) fun o11=>rwM 13 "join" w27 o11 (rwA w27 (rL [(.ok zS),(.ok (.str "sum")),(.ok (.str "a")),(.ok (.str "b"))]) fun ds=>tw M.uqc w27 (o11::ds)))) (lt:=aw t (fun w27=>rwA w27 (.ok zR) fun o11=>rwM 13 "join" w27 o11 (rwA w27 (rL [(.ok zS),(.ok (.str "sum")),(.ok (.str "a")),(.ok (.str "b"))]) fun ds=>tw M.uqc w27 (o11::ds)))) 0 bg2 lx Q.uqq aO rfl rfl (.cons 5 rfl rfl rfl rfl (.cons 2 rfl rfl rfl rfl .nil)) ⟨rfl,rfl,rfl,by decide,fun _ _ _ _=>rfl⟩ (fun _ _ _ _ _ _ _ _ _ _ w27 bg=>cj (aE bg Q.uq3 T.uqd (fun H0 Z0 wk=>(ac 1)) (fun H0 Z0 wk=>(FAL.out (aa (ac 0) (aa aj (aa aj (aa aj af (ae rfl)) (ae rfl)) (ae rfl)) (ae rfl)))) (fun S ds h=>ar h)) rfl) (aJ T G Q (fun w27=>rwA w27 (.ok zR) fun o11=>rwM 13 "join" w27 o11 (rwA w27 (rL [(.ok zS),(.ok (.str "sum")),(.ok (.str "a")),(.ok (.str "b"))]) fun ds=>tw M.uqc w27 (o11::ds))))) (fun _=>rfl) (fun w28 Ao=>?_);refine bZ 8 (S':=fun Ad=>[vv zT,vv oDz0,vv zR,vv x,vv zW,vv zS,vv zU,vv zX,ow Ad]) rfl (bD (k:=k) (fr:=["_law_name","_law_k","_law_gone","_law_album"]) (ds:=[zS,x,zU,zR]) (rf:=(fun w29=>rwA w29 (.ok zR) fun o12=>rwM 13 "join" w29 o12 (rwA w29 (rL [(.ok (.str "c")),(.ok (.str "sum")),(.ok (.str "a")),((dMod x (.int 2)).bind fun x28=>dIx (.lst [zS,zU]) x28)]) fun ds=>tw M.uqc w29 (o12::ds)))) (lt:=aw t (fun w29=>rwA w29 (.ok zR) fun o12=>rwM 13 "join" w29 o12 (rwA w29 (rL [(.ok (.str "c")),(.ok (.str "sum")),(.ok (.str "a")),((dMod x (.int 2)).bind fun x28=>dIx (.lst [zS,zU]) x28)]) fun ds=>tw M.uqc w29 (o12::ds)))) 0 bg2 lx Q.uqq aO rfl rfl (.cons 5 rfl rfl rfl rfl (.cons 3 rfl rfl rfl rfl (.cons 6 rfl rfl rfl rfl (.cons 2 rfl rfl rfl rfl .nil)))) ⟨rfl,rfl,rfl,by decide,fun _ _ _ _=>rfl⟩ (fun _ _ _ _ _ _ _ _ _ _ w29 bg=>cj (aE bg Q.uq3 T.uqd (fun H0 Z0 wk=>(ac 3)) (fun H0 Z0 wk=>(FAL.out (aa aj (aa aj (aa aj (aa (aq bg.bx.K (au (aa (ac 0) (aa (ac 2) af (ae rfl)) (ae rfl))) (a9 (ac 1) ah)) af (ae rfl)) (ae rfl)) (ae rfl)) (ae rfl)))) (fun S ds h=>ar h)) rfl) (aJ T G Q (fun w29=>rwA w29 (.ok zR) fun o12=>rwM 13 "join" w29 o12 (rwA w29 (rL [(.ok (.str "c")),(.ok (.str "sum")),(.ok (.str "a")),((dMod x (.int 2)).bind fun x28=>dIx (.lst [zS,zU]) x28)]) fun ds=>tw M.uqc w29 (o12::ds))))) (fun _=>rfl) (fun w30 Ad=>?_);refine bZ 8 (S':=fun zZ=>[vv zT,vv oDz0,vv zR,vv x,vv zW,vv zS,vv zU,vv zX,ow zZ]) rfl (bD (k:=k) (fr:=["_law_name","_law_k","_law_gone","_law_album"]) (ds:=[zS,x,zU,zR]) (rf:=(fun w31=>rwA w31 (.ok zR) fun o13=>rwM 13 "join" w31 o13 (rwA w31 (rL [(.ok (.str "c")),(.ok (.str "least")),((dMod x (.int 2)).bind fun x30=>dIx (.lst [zU,zS]) x30),(.ok (.str "b"))]) fun ds=>tw M.uqc w31 (o13::ds)))) (lt:=aw t (fun w31=>rwA w31 (.ok zR) fun o13=>rwM 13 "join" w31 o13 (rwA w31 (rL [(.ok (.str "c")),(.ok (.str "least")),((dMod x (.int 2)).bind fun x30=>dIx (.lst [zU,zS]) x30),(.ok (.str "b"))]) fun ds=>tw M.uqc w31 (o13::ds)))) 0 bg2 lx Q.uqq aO rfl rfl (.cons 5 rfl rfl rfl rfl (.cons 3 rfl rfl rfl rfl (.cons 6 rfl rfl rfl rfl (.cons 2 rfl rfl rfl rfl .nil)))) ⟨rfl,rfl,rfl,by decide,fun _ _ _ _=>rfl⟩ (fun _ _ _ _ _ _ _ _ _ _ w31 bg=>cj (aE bg Q.uq3 T.uqd (fun H0 Z0 wk=>(ac 3)) (fun H0 Z0 wk=>(FAL.out (aa aj (aa aj (aa (aq bg.bx.K (au (aa (ac 2) (aa (ac 0) af (ae rfl)) (ae rfl))) (a9 (ac 1) ah)) (aa aj af (ae rfl)) (ae rfl)) (ae rfl)) (ae rfl)))) (fun S ds h=>ar h)) rfl) (aJ T G Q (fun w31=>rwA w31 (.ok zR) fun o13=>rwM 13 "join" w31 o13 (rwA w31 (rL [(.ok (.str "c")),(.ok (.str "least")),((dMod x (.int 2)).bind fun x30=>dIx (.lst [zU,zS]) x30),(.ok (.str "b"))]) fun ds=>tw M.uqc w31 (o13::ds))))) (fun _=>rfl) (fun w32 zZ=>?_);refine uq 8 (S':=[vv zT,vv oDz0,vv zR,vv x,vv zW,vv zS,vv zU,vv zX,vv (.lst zZ)]) rfl rfl ?_;refine yK (d0 (fun H0 Z0 wk=>(fU bg.bx (ac 8) (fj bg.bx.K (au (aa aj af (ae rfl))) ah)))) ?_ (fun w33=>?_) (fun w34=>?_);rfl
  ·refine bJ (fun H0 Z0 wk=>ap eZ) ?_;rfl
  ·exact cH ⟨(vv x,vv zW,vv zS,vv zU,vv zX,vv (.lst zZ)),rfl⟩
 refine g9 (inj:=fun (_:Unit) (j3:Unit)=>[vv zT,vv oDz0,vv zR,j2.1,j2.2.1,j2.2.2.1,j2.2.2.2.1,j2.2.2.2.2.1,j2.2.2.2.2.2]) (gt_w (uK (d0 (fun H0 Z0 wk=>(fU bg.bx (bL bg.bx wk Q.uj0 (ac 2)) (au (aa aj (aa aj af (ae rfl)) (ae rfl)))))) (fun w36=>(uK (d0 (fun H0 Z0 wk=>(fU bg.bx (bL bg.bx wk Q.uxd (ac 2)) (aM (aa ah (aa ah af (ae rfl)) (ae rfl)))))) (fun w37=>(uJ (uL bg (g8 bg Q.uxc T.uqd rfl (fun H0 Z0 wk=>(ac 2))) (fun H0 Z0 W' wk=>aj)))))))) ?_ (fun w39=>?_) (fun w40=>?_) (fun w41 _ j3=>?_);rfl
 ·refine bJ (fun H0 Z0 wk=>ap eZ) ?_;rfl
 ·exact cH ⟨(),rfl⟩
 refine g9 (inj:=fun (_:Unit) (j4:Unit)=>[vv zT,vv oDz0,vv zR,j2.1,j2.2.1,j2.2.2.1,j2.2.2.2.1,j2.2.2.2.2.1,j2.2.2.2.2.2]) (gt_w (uK (d0 (fun H0 Z0 wk=>(fU bg.bx (fV bg.bx wk Q.uqm (ac 2) (FAL.out (aa aj af (ae rfl))) (fun S ds h=>ar h)) (aM (aa ah (aa (aM (aa ah (aa ah (aa ah (aa ah af (ae rfl)) (ae rfl)) (ae rfl)) (ae rfl))) af (ae rfl)) (ae rfl)))))) (fun w42=>(uJ (uL bg (aE bg Q.uq3 T.uqd (fun H0 Z0 wk=>(ac 2)) (fun H0 Z0 wk=>(FAL.out (aa aj (aa aj (aa aj (aa aj af (ae rfl)) (ae rfl)) (ae rfl)) (ae rfl)))) (fun S ds h=>ar h)) (fun H0 Z0 W' wk=>(aM (aa ah (aa ah af (ae rfl)) (ae rfl))))))))) ?_ (fun w44=>?_) (fun w45=>?_) (fun w46 _ j4=>?_);rfl
 ·refine bJ (fun H0 Z0 wk=>ap eZ) ?_;rfl
 ·exact cH ⟨(),rfl⟩
 refine mv (qp (zI bg (aE bg Q.ukh T.uqd (fun H0 Z0 wk=>(ac 2)) (fun H0 Z0 wk=>(FAL.out (aa aj af (ae rfl)))) (fun S ds h=>ar h)) (fun H0 Z0 W' wk=>(aM (aa ah (aa ah af (ae rfl)) (ae rfl))))) (fun w48=>(qp (bq (fun H0 Z0 wk=>(xy bg.bx (bL bg.bx wk Q.uj0 (ac 2)) (au (aa aj (aa aj af (ae rfl)) (ae rfl)))))) (fun w49=>(yW (bq (fun H0 Z0 wk=>(xy bg.bx (fV bg.bx wk Q.uj5 (ac 2) (FAL.out (aa aj af (ae rfl))) (fun S ds h=>ar h)) (au af))))))))) ?_;rfl
end
end Lw
end
noncomputable section
section
namespace Lw
open PySem FF
inductive Q (α:Type) where
 | lf (a:α) | nd (a b c d:Q α)
 deriving DecidableEq
section
variable {α β γ:Type}
def Q.at:Nat→Q α→Nat→Nat→α
 | _,.lf a,_,_=>a
 | 0,.nd a _ _ _,x,y=>Q.at 0 a x y
 | n+1,.nd a b c d,x,y=>if y < 2^n then (if x < 2^n then a.at n x y else b.at n (x - 2^n) y) else (if x < 2^n then c.at n x (y - 2^n) else d.at n (x - 2^n) (y - 2^n))
@[simp] theorem zQ (n:Nat)(a:α)(x y:Nat):Q.at n (.lf a) x y=a:=by cases n<;>rfl
variable [DecidableEq α][DecidableEq β][DecidableEq γ]
end
section
variable {α:Type}[DecidableEq α]{e:α→D}
end
@[simp] theorem pj (xs:List D):dTuple [.lst xs]=.ok (.tup xs):=rfl
@[simp] theorem pp (xs:List D):dTuple [.tup xs]=.ok (.tup xs):=rfl
@[simp] theorem sd (xs:List D):dList [.tup xs]=.ok (.lst xs):=rfl
@[simp] theorem se (xs:List D):dList [.lst xs]=.ok (.lst xs):=rfl
@[simp] theorem uO (xs:List D):dLen [.tup xs]=.ok (.int xs.length):=rfl
@[simp] theorem kz (xs:List D):dLen [.lst xs]=.ok (.int xs.length):=rfl
@[simp] theorem dS (a b:Int):dAdd (.int a) (.int b)=.ok (.int (a+b)):=rfl
@[simp] theorem fG (a b:Int):dSub (.int a) (.int b)=.ok (.int (a - b)):=rfl
@[simp] theorem wM (a b:Int):dLt (.int a) (.int b)=.ok (.bl (decide (a < b))):=rfl
@[simp] theorem wN (a b:Int):dLe (.int a) (.int b)=.ok (.bl (decide (a≤b))):=rfl
@[simp] theorem wO (a b:Int):dGt (.int a) (.int b)=.ok (.bl (decide (b < a))):=rfl
@[simp] theorem wQ (a b:Int):dGe (.int a) (.int b)=.ok (.bl (decide (b≤a))):=rfl
@[simp] theorem mH (a b:Int):dEq (.int a) (.int b)=.ok (.bl (decide (a=b))):=by
 show R.ok (D.bl (a==b))=_;rw[Bool.beq_eq_decide_eq]
@[simp] theorem wR (a b:Int):dNf (.int a) (.int b)=.ok (.bl (!decide (a=b))):=by
 show R.ok (D.bl (!(a==b)))=_;rw[Bool.beq_eq_decide_eq]
theorem io {a b:Int}(h:(-(2^64) < b∧b < 2^64)∨(-(2^64) < a∧a < 2^64)):dMul (.int a) (.int b)=.ok (.int (a*b)):=by
 have:cMul a b=true:=by unfold cMul;simp only[Bool.or_eq_true,Bool.and_eq_true,decide_eq_true_eq];rcases h with h | h;exact .inr h;exact .inl h
 show (if cMul a b=true then R.ok (D.int (a*b)) else R.stuck)=_;rw[if_pos this]
theorem uP {a b:Int}(h0:0 < b)(h1:b < 1073741824):dDiv (.int a) (.int b)=.ok (.int (a/b)):=by
 have:cDiv a b=true:=by unfold cDiv;simp only[Bool.and_eq_true,decide_eq_true_eq];exact⟨h0,h1⟩
 show (if cDiv a b=true then R.ok (D.int (a/b)) else R.stuck)=_;rw[if_pos this]
theorem ip {a b:Int}(h0:0 < b):dMod (.int a) (.int b)=.ok (.int (a%b)):=by
 show (if decide (0 < b)=true then R.ok (D.int (a%b)) else R.stuck)=_;rw[if_pos (by simpa using h0)]
theorem uQ {x y:D}(hx:good 60 x=true)(hy:good 60 y=true):dEq x y=.ok (.bl (eqD x y)):=by unfold dEq;rw[if_pos ⟨hx,hy⟩]
theorem pI {α:Type}{xs:List α}{i:Nat}{x:α}(h:xs[i]?=some x):L2.atI xs ((i:Nat):Int)=some x:=by
 have hi:i < xs.length:=(List.getElem?_eq_some_iff.mp h).1;unfold L2.atI L2.ixN;rw[if_pos (by omega),if_pos (by omega)]
 simpa using h
theorem ixL {xs:List D}{i:Nat}{x:D}(h:xs[i]?=some x):dIx (.lst xs) (.int ((i:Nat):Int))=.ok x:=by
 show (match L2.atI xs (i:Int) with | some d=>R.ok d | none=>R.stuck)=_;rw[pI h]
@[simp] theorem ix20 (a b:D):dIx (.tup [a,b]) (.int 0)=.ok a:=rfl
@[simp] theorem ix21 (a b:D):dIx (.tup [a,b]) (.int 1)=.ok b:=rfl
@[simp] theorem ix40 (a b c d:D):dIx (.tup [a,b,c,d]) (.int 0)=.ok a:=rfl
@[simp] theorem ix41 (a b c d:D):dIx (.tup [a,b,c,d]) (.int 1)=.ok b:=rfl
@[simp] theorem ix42 (a b c d:D):dIx (.tup [a,b,c,d]) (.int 2)=.ok c:=rfl
@[simp] theorem ix43 (a b c d:D):dIx (.tup [a,b,c,d]) (.int 3)=.ok d:=rfl
@[simp] theorem sf (xs:List D):dIsA qTup (.tup xs)=.ok (.bl true):=rfl
@[simp] theorem sg (i:Int):dIsA qTup (.int i)=.ok (.bl false):=rfl
theorem qv (f:Int→Int→Bool)(F' G':D→D→R D){x y w:Int}{g:Int→Int→Bool}(h1:F' (.int x) (.int y)=.ok (.bl (f x y)))(h2:G' (.int y) (.int w)=.ok (.bl (g y w))):rCh F' G' (.int x) (.int y) (.ok (.int w))=.ok (.bl (f x y&&g y w)):=by
 unfold rCh;rw[h1];cases f x y with
 | true=>show G' (.int y) (.int w)=_;rw[h2];rfl
 | false=>rfl
@[simp] theorem uR (x y w:Int):rCh dLe dLe (.int x) (.int y) (.ok (.int w))=.ok (.bl (decide (x≤y)&&decide (y≤w))):=qv (fun a b=>decide (a≤b)) _ _ (g:=fun a b=>decide (a≤b)) rfl rfl
@[simp] theorem uS (x y w:Int):rCh dLe dLt (.int x) (.int y) (.ok (.int w))=.ok (.bl (decide (x≤y)&&decide (y < w))):=qv (fun a b=>decide (a≤b)) _ _ (g:=fun a b=>decide (a < b)) rfl rfl
theorem wS (a b:Bool):vAnd (.ok (.bl a)) (.ok (.bl b))=.ok (.bl (a&&b)):=by cases a<;>rfl
theorem yY (a b:Bool):vOr (.ok (.bl a)) (.ok (.bl b))=.ok (.bl (a||b)):=by cases a<;>rfl
theorem wT (a b:Bool):rAnd (.ok a) (.ok b)=.ok (a&&b):=by cases a<;>rfl
theorem yZ (a b:Bool):rOr (.ok a) (.ok b)=.ok (a||b):=by cases a<;>rfl
def STP:=And.intro @tK (And.intro @yy (And.intro @zo (And.intro @zp (And.intro @zq (And.intro @vT (And.intro @vR (And.intro @vU (And.intro @R.bind_ok (And.intro @R.bind_err (And.intro @iG (And.intro @vV (And.intro @wT (And.intro @yZ (And.intro @yz (And.intro @yA (And.intro @zu (And.intro @zv (And.intro @yB (And.intro @yC (And.intro @zw (And.intro @zx (And.intro @wS (And.intro @yY (And.intro @vW (And.intro @zy (And.intro @zA (And.intro @Bool.not_true (And.intro @Bool.not_false (And.intro @Bool.false_or (And.intro @Bool.true_or (And.intro @Bool.or_false (And.intro @Bool.or_true (And.intro @Bool.true_and (And.intro @Bool.false_and (And.intro @Bool.and_true (And.intro @Bool.and_false (And.intro @Bool.false_eq_true (@Bool.true_eq_false))))))))))))))))))))))))))))))))))))))
def OPP:=And.intro @dS (And.intro @fG (And.intro @wM (And.intro @wN (And.intro @wO (And.intro @wQ (And.intro @mH (And.intro @wR (And.intro @uO (And.intro @kz (And.intro @pj (And.intro @pp (And.intro @sd (And.intro @se (And.intro @ix20 (And.intro @ix21 (And.intro @ix40 (And.intro @ix41 (And.intro @ix42 (And.intro @ix43 (And.intro @sf (And.intro @sg (And.intro @uR (@uS)))))))))))))))))))))))
theorem ex1 {n k:Nat}(h:k+1≤n):∃ m,n=m+1∧k≤m:=⟨n - 1,by omega,by omega⟩
def scr (ns:List Int):D:=.lst (ns.map .int)
def cell (ns:List Int)(k:Nat):Int:=if k < ns.length then ns.getD k 0 else if ns=[] then 0 else ns.getD (k%ns.length) 0*31+k
def pk (ns:List Int)(k:Nat)(m:Int):Int :=
 let d:=(cell ns k+6151*((k:Int)+1))*40692%2147483399
 (d*d+d/31)%2147483629%m
theorem l4 (n:Nat):∀ ns:List Int,goods n (ns.map .int)=true
 | []=>rfl
 | i::r=>by rw[List.map_cons,goods,l4 n r];cases n<;>rfl
theorem wU {n:Nat}(hn:1≤n)(ns:List Int)(k:Nat):pf n F.aD [scr ns,.int k]=.ok (.int (cell ns k)):=by
 obtain⟨n,rfl,hn⟩:=ex1 hn;rw[rS,ib];unfold scr cell;by_cases h:k < ns.length
 ·have h':((k:Int) < (ns.length:Int)):=by omega
  have e0:=ixL (xs:=ns.map .int) (i:=k) (x:=.int (ns.getD k 0)) (by rw[List.getElem?_map,List.getElem?_eq_getElem h];simp[List.getD,h]);simp only[STP,if_true,if_false,ite_true,ite_false,reduceIte,reduceCtorEq,OPP,List.length_map,decide_eq_true h',e0,if_pos h]
 ·have h':¬ ((k:Int) < (ns.length:Int)):=by omega
  cases ns with
  | nil =>
   have e1:dEq (.lst []) (.lst [])=.ok (.bl true):=rfl;have h2:¬ ((k:Int) < ((0:Nat):Int)):=by omega
   simp only[STP,if_true,if_false,ite_true,ite_false,reduceIte,reduceCtorEq,OPP,List.map_nil,List.length_nil,decide_eq_false h2,e1,if_neg (Nat.not_lt_zero k)]
  | cons a r =>
   have hl:0 < (a::r).length:=by simp
   have hk:k%(a::r).length < (a::r).length:=Nat.mod_lt _ hl;have e1:dEq (.lst ((a::r).map .int)) (.lst [])=.ok (.bl false):=by
    rw[uQ (by rw[good];exact l4 _ _) rfl]
    simp[eqD,eqDs]
   have e2:dMod (.int (k:Int)) (.int ((a::r).length:Int))=.ok (.int ((k%(a::r).length:Nat):Int)):=by
    rw[ip (by omega)];rfl
   have e3:dIx (.lst ((a::r).map .int)) (.int ((k%(a::r).length:Nat):Int))=.ok (.int ((a::r).getD (k%(a::r).length) 0)) :=
    ixL (by rw[List.getElem?_map,List.getElem?_eq_getElem hk,List.getD,List.getElem?_eq_getElem hk];rfl)
   have e4:=io (a:=(a::r).getD (k%(a::r).length) 0) (b:=31) (.inl (by decide));simp only[STP,if_true,if_false,ite_true,ite_false,reduceIte,reduceCtorEq,OPP,List.length_map,decide_eq_false h',e1,e2,e3,e4,if_neg h]
theorem wV {n:Nat}(hn:2≤n)(ns:List Int)(k:Nat){m:Int}(hm:0 < m):pf n F.al [scr ns,.int k,.int m]=.ok (.int (pk ns k m)):=by
 obtain⟨n,rfl,hn⟩:=ex1 hn;rw[rT,ic,wU (by omega)];simp only[R.bind_ok,dS];rw[io (.inr (by decide))];simp only[R.bind_ok,dS];rw[io (.inl (by decide))];simp only[R.bind_ok];rw[ip (by decide)];simp only[tK];have h0:0≤(cell ns k+6151*((k:Int)+1))*40692%2147483399:=Int.emod_nonneg _ (by decide);have h1:(cell ns k+6151*((k:Int)+1))*40692%2147483399 < 2147483399:=Int.emod_lt_of_pos _ (by decide);rw[io (.inl ⟨by omega,by omega⟩),uP (by decide) (by decide)];simp only[R.bind_ok,dS];rw[ip (by decide)];simp only[R.bind_ok];rw[ip hm];rfl
theorem jp {n:Nat}(hn:2≤n)(ns:List Int)(k:Nat){a m:Int}(ha:a=(k:Int))(hm:0 < m):pf n F.al [scr ns,.int a,.int m]=.ok (.int (pk ns k m)):=by subst ha;exact wV hn ns k hm
theorem rng4:rng1 [.int 4]=.ok [.int 0,.int 1,.int 2,.int 3]:=rfl
def All (P:Wd→D→Prop):RW→Prop
 | .ok w d=>P w d
 | .er _ _=>False
 | .al w f=>∀ a,w a=none→All P (f a)
 | .stuck=>False
theorem All.lwB {P P':Wd→D→Prop}{k:Wd→D→LW Unit}(hk:∀ w d,P w d→All P' (outW (k w d))):∀ {r:RW},All P r→All P' (outW (lwB r k))
 | .ok w d,h=>hk w d h
 | .er _ _,h=>h.elim
 | .al w f,h=>fun a e=>All.lwB hk (h a e)
 | .stuck,h=>h.elim
theorem All.rwB {P P':Wd→D→Prop}{k:Wd→D→RW}(hk:∀ w d,P w d→All P' (k w d)):∀ {r:RW},All P r→All P' (rwB r k)
 | .ok w d,h=>hk w d h
 | .er _ _,h=>h.elim
 | .al w f,h=>fun a e=>All.rwB hk (h a e)
 | .stuck,h=>h.elim
abbrev tx (s:String):D:=.str (PySem.Str.ofString s)
abbrev nSt:Str:=PySem.Str.ofString "steps"
abbrev nPg:Str:=PySem.Str.ofString "pages"
abbrev nPl:Str:=PySem.Str.ofString "place"
theorem bi (w:Wd)(d:D):rwR w (.ok d)=.ok w d:=rfl
theorem aK {α:Type}(w:Wd)(a:α)(k:α→RW):rwA w (.ok a) k=k a:=rfl
theorem cr {α σ:Type}(w:Wd)(a:α)(k:α→LW σ):lwR w (.ok a) k=k a:=rfl
theorem bC {σ:Type}(w:Wd)(d:D)(k:Wd→D→LW σ):lwB (.ok w d) k=k w d:=rfl
theorem bH (w:Wd)(a:Nat)(o:OC):wput w a o a=some o:=if_pos rfl
theorem eW {w:Wd}{a b:Nat}{o:OC}(h:b≠a):wput w a o b=w b:=if_neg h
theorem aP {c:Nat}{w:Wd}{f:Str}{a:Nat}{fs:List (Str×D)}{x:D}(h:w a=some (.ins c fs))(hf:fs.lookup f=some x):dFld c w f (.ptr a)=.ok x:=by
 show (match w a with | some (.ins c' fs)=>if c'=c then match fs.lookup f with | some x=>R.ok x | none=>.stuck else .stuck | _=>.stuck)=_;rw[h];show (if c=c then match fs.lookup f with | some x=>R.ok x | none=>.stuck else .stuck)=_;rw[if_pos rfl,hf]
theorem eX {c:Nat}{w:Wd}{f:Str}{a:Nat}{fs:List (Str×D)}{d:D}{σ:Type}{k:Wd→LW σ}(h:w a=some (.ins c fs))(hl:fs.length < 900):wFld c w f (.ptr a) d k=k (wput w a (.ins c (putD f d fs))):=by
 show (match w a with | some (.ins c' fs)=>if c'=c∧fs.length < 900 then k (wput w a (.ins c (putD f d fs))) else .stuck | _=>.stuck)=_;rw[h];show (if c=c∧fs.length < 900 then k (wput w a (.ins c (putD f d fs))) else .stuck)=_;rw[if_pos ⟨rfl,hl⟩]
theorem aZ {c:Nat}{w:Wd}{m:Str}{a:Nat}{fs:List (Str×D)}{k:R D}(h:w a=some (.ins c fs))(hf:fs.lookup m=none):rM c m w (.ptr a) k=k:=by
 show (match w a with | some (.ins c' fs)=>if c'=c∧fs.lookup m=none then k else .stuck | _=>.stuck)=_;rw[h];show (if c=c∧fs.lookup m=none then k else .stuck)=_;rw[if_pos ⟨rfl,hf⟩]
theorem aQ {c:Nat}{w:Wd}{m:Str}{a:Nat}{fs:List (Str×D)}{k:RW}(h:w a=some (.ins c fs))(hf:fs.lookup m=none):rwM c m w (.ptr a) k=k:=by
 show (match w a with | some (.ins c' fs)=>if c'=c∧fs.lookup m=none then k else .stuck | _=>.stuck)=_;rw[h];show (if c=c∧fs.lookup m=none then k else .stuck)=_;rw[if_pos ⟨rfl,hf⟩]
theorem uT (i:Int):asI (.int i)=.ok (some i):=rfl
theorem wW {xs:List D}{a:Nat}(h:a≤xs.length):cutD xs none (some ((a:Nat):Int))=xs.take a:=by
 unfold cutD;have e:HT.sIx xs.length xs.length (some (a:Int))=a:=by
  show (if ((a:Int) < 0) then (((a:Int)+(xs.length:Int)).toNat) else min ((a:Int).toNat) xs.length)=a;rw[if_neg (by omega),Int.toNat_natCast];omega
 rw[e,HT.sH]
 simp
def stO (pg:List D)(i:Int):OC:=.ins 12 [(nPg,.lst pg),(nPl,.int i)]
structure PW (w:Wd)(p s:Nat)(pg:List D)(i:Nat):Prop where
 hp:w p=some (.ins 13 [(nSt,.ptr s)])
 hs:w s=some (stO pg i)
 ne:p≠s
def onW (w:Wd)(s:Nat)(pg:List D)(i:Nat)(d:D):Wd:=wput (wput w s (stO pg ((i:Int)+1))) s (stO (pg.take (i+1)++[d]) ((i:Int)+1))
def atW (w:Wd)(s:Nat)(pg:List D)(j:Int):Wd:=wput w s (stO pg j)
section
variable {w:Wd}{p s i n:Nat}{pg:List D}{d:D}
theorem mI (h:PW w p s pg i)(hi:pg[i]?=some d):pr (n+1) M.uqw w [.ptr s]=.ok d:=by
 rw[kP,cz,aP (x:=.lst pg) h.hs rfl,R.bind_ok,aP (x:=.int (i:Int)) h.hs rfl,R.bind_ok,ixL hi];rfl
theorem uU (h:PW w p s pg i):pr (n+1) M.ujw w [.ptr s]=.ok (.tup [.int (i:Int),.int ((pg.length:Int) - 1 - (i:Int))]):=by
 rw[jY,b8,aP (x:=.int (i:Int)) h.hs rfl,R.bind_ok,aP (x:=.lst pg) h.hs rfl,R.bind_ok,kz,R.bind_ok,fG,R.bind_ok,R.bind_ok,fG];rfl
theorem sh (h:PW w p s pg i):pr (n+2) M.ujc w [.ptr p]=.ok (.tup [.int (i:Int),.int ((pg.length:Int) - 1 - (i:Int))]):=by
 rw[j8,cg,aP (x:=.ptr s) h.hp rfl,R.bind_ok,aZ h.hs rfl,uU h];rfl
theorem xE (h:PW w p s pg i)(hi:i < pg.length)(hl:pg.length≤1000)(d:D):pw (n+1) M.uq1 w [.ptr s,d]=.ok (onW w s pg i d) .non:=by
 have e1:wput w s (stO pg ((i:Int)+1)) s=some (stO pg ((i:Int)+1)):=bH _ _ _;have c1:cutD pg none (some ((i:Int)+1))=pg.take (i+1):=by
  have:=wW (xs:=pg) (a:=i+1) (by omega);rw[← this];rfl
 have sl:dSw (.lst pg) none (some ((i:Int)+1))=.ok (.lst (pg.take (i+1))):=by show R.ok (D.lst (cutD pg none (some ((i:Int)+1))))=_;rw[c1]
 have ad:dAdd (.lst (pg.take (i+1))) (.lst [d])=.ok (.lst (pg.take (i+1)++[d])):=by
  show (if (pg.take (i+1)).length+[d].length≤16777216 then _ else _)=_;rw[if_pos (by rw[List.length_take,List.length_singleton];omega)]
 rw[jW,b0,aP (x:=.int (i:Int)) h.hs rfl,R.bind_ok,dS];simp only[bi,bC];rw[eX h.hs (by show 2 < 900;decide)];show outW (lwB (rwR (wput w s (stO pg ((i:Int)+1))) (((dFld 12 (wput w s (stO pg ((i:Int)+1))) nPg (.ptr s)).bind fun x1=>((dFld 12 (wput w s (stO pg ((i:Int)+1))) nPl (.ptr s)).bind asI).bind fun i=>dSw x1 none i).bind fun x2=>dAdd x2 (.lst [d]))) _)=_;rw[aP (x:=.lst pg) e1 rfl,R.bind_ok,aP (x:=.int ((i:Int)+1)) e1 rfl,R.bind_ok,uT,R.bind_ok,sl,R.bind_ok,ad];simp only[bi,bC];rw[eX e1 (by show 2 < 900;decide)];rfl
theorem PW.on (h:PW w p s pg i)(d:D):PW (onW w s pg i d) p s (pg.take (i+1)++[d]) (i+1) :=
 ⟨by unfold onW;rw[eW h.ne,eW h.ne];exact h.hp,by unfold onW;rw[bH];rfl,h.ne⟩
theorem PW.at_ (h:PW w p s pg i)(j:Nat):PW (atW w s pg (j:Int)) p s pg j:=⟨by unfold atW;rw[eW h.ne];exact h.hp,by unfold atW;rw[bH],h.ne⟩
theorem wX (h:PW w p s pg (i+1))(hi:pg[i+1]?=some d):pw (n+2) M.uj1 w [.ptr s]=.ok (atW w s pg (i:Int)) d:=by
 have nx:pr (n+1) M.uqw w [.ptr s]=.ok d:=mI h hi;rw[kQ,cA,aP (x:=.int ((i+1:Nat):Int)) h.hs rfl,R.bind_ok,mH,iG];rw[decide_eq_false (show ¬ ((i+1:Nat):Int)=0 by omega)];show outW (lwR w (rM 12 "here" w (.ptr s) (pr (n+1) M.uqw w [.ptr s])) _)=_;rw[aZ h.hs rfl,nx];show outW (lwB (rwR w ((dFld 12 w nPl (.ptr s)).bind fun x1=>dSub x1 (.int 1))) _)=_;rw[aP (x:=.int ((i+1:Nat):Int)) h.hs rfl,R.bind_ok,fG,show ((i+1:Nat):Int) - 1=(i:Int) by omega];simp only[bi,bC];rw[eX h.hs (by show 2 < 900;decide)];rfl
theorem uV (h:PW w p s pg i){d:D}(hd:pg[i+1]?=some d):pw (n+2) M.ujv w [.ptr s]=.ok (atW w s pg ((i+1:Nat):Int)) d:=by
 have lt:i+1 < pg.length:=(List.getElem?_eq_some_iff.mp hd).1;rw[jX,b7,aP (x:=.int (i:Int)) h.hs rfl,R.bind_ok,aP (x:=.lst pg) h.hs rfl,R.bind_ok,kz,R.bind_ok,fG,R.bind_ok,mH,iG];rw[decide_eq_false (show ¬ (i:Int)=(pg.length:Int) - 1 by omega)];show outW (lwB (rwR w ((dFld 12 w nPl (.ptr s)).bind fun x4=>dAdd x4 (.int 1))) _)=_;rw[aP (x:=.int (i:Int)) h.hs rfl,R.bind_ok,dS];simp only[bi,bC];rw[eX h.hs (by show 2 < 900;decide)];show outW (lwR (atW w s pg ((i:Int)+1)) (rM 12 "here" (atW w s pg ((i:Int)+1)) (.ptr s) (pr (n+1) M.uqw (atW w s pg ((i:Int)+1)) [.ptr s])) _)=_;have h2:PW (atW w s pg ((i:Int)+1)) p s pg (i+1):=h.at_ (i+1)
 rw[aZ h2.hs rfl,mI h2 hd];rfl
variable {wd nm x y z:D}{j:Nat}
theorem fQ (h:PW w p s pg i)(hi:pg[i]?=some (.tup [wd,d])):pr (n+2) M.uqp w [.ptr p]=.ok d:=by
 rw[ig,bt,aP (x:=.ptr s) h.hp rfl,R.bind_ok,aZ h.hs rfl,mI h hi];rfl
theorem pq (h:PW w p s pg i)(hi:pg[i]?=some (.tup [wd,d]))(hl:pg.length≤1000){m m':List (L2.Key×D)}(hm:dicOf d=.ok m)(hs:oDSt m nm x=.ok m')(v:D):pw (n+3) M.uqs w [.ptr p,v,nm,x]=.ok (onW w s pg i (.tup [v,dicD m'])) .non:=by
 rw[j0,cc,aZ h.hp rfl,fQ (n:=n) h hi,R.bind_ok,hm,cr,hs,cr,aP (x:=.ptr s) h.hp rfl,aK,aQ h.hs rfl];show outW (lwB (pw (n+2) M.uq1 w [.ptr s,.tup [v,dicD m']]) _)=_;rw[xE h (List.getElem?_eq_some_iff.mp hi).1 hl];rfl
theorem wY (h:pf n F.ak [x]=.err j):pw (n+1) M.uql w [.ptr p,nm,x]=.er w j:=by
 rw[eh,bG,h];rfl
theorem uW (h:pf n F.ak [x]=.ok y)(hn:pf n F.aa [nm]=.err j):pw (n+1) M.uql w [.ptr p,nm,x]=.er w j:=by
 rw[eh,bG,h,cr,hn];rfl
theorem uX (h:PW w p s pg i)(hi:pg[i]?=some (.tup [wd,d]))(hl:pg.length≤1000){m m':List (L2.Key×D)}(hx:pf (n+3) F.ak [x]=.ok y)(hn:pf (n+3) F.aa [nm]=.ok z){b:D}(hd:dDin nm d=.ok b)(hm:dicOf d=.ok m)(hs:oDSt m nm y=.ok m') :
  pw (n+4) M.uql w [.ptr p,nm,x]=.ok (onW w s pg i (.tup [tx "put",dicD m'])) b:=by
 rw[eh,bG,hx,cr,hn,bi,bC,aZ h.hp rfl,fQ (n:=n+1) h hi,R.bind_ok,hd,cr,aK,aQ h.hp rfl];show outW (lwB (pw (n+3) M.uqs w [.ptr p,tx "put",nm,y]) _)=_;rw[pq h hi hl hm hs];rfl
theorem qw (hn:pf n F.ac [nm]=.ok (.bl false)):pr (n+1) M.uqa w [.ptr p,nm]=.err 11:=by
 rw[bz,aD,hn];rfl
theorem nM (h:PW w p s pg i)(hi:pg[i]?=some (.tup [wd,d]))(hn:pf (n+2) F.ac [nm]=.ok (.bl true))(hd:dDnin nm d=.ok (.bl true)):pr (n+3) M.uqa w [.ptr p,nm]=.err 11:=by
 rw[bz,aD,hn,aZ h.hp rfl,fQ (n:=n) h hi,R.bind_ok,hd];rfl
theorem fH (h:PW w p s pg i)(hi:pg[i]?=some (.tup [wd,d]))(hn:pf (n+2) F.ac [nm]=.ok (.bl true))(hd:dDnin nm d=.ok (.bl false))(hx:dDx d nm=.ok x):pr (n+3) M.uqa w [.ptr p,nm]=.ok x:=by
 rw[bz,aD,hn,aZ h.hp rfl,fQ (n:=n) h hi,R.bind_ok,hd,R.bind_ok,hx];rfl
theorem uY (h:PW w p s pg i)(hp:pr n M.uqa w [.ptr p,nm]=.err j):pw (n+1) M.uqt w [.ptr p,nm]=.er w j:=by
 rw[gh,bM,aZ h.hp rfl];show outW (lwR w (pr n M.uqa w [.ptr p,nm]) _)=_;rw[hp];rfl
theorem wZ (h:PW w p s pg i)(hi:pg[i]?=some (.tup [wd,d]))(hl:pg.length≤1000)(hp:pr (n+2) M.uqa w [.ptr p,nm]=.ok x){m m':List (L2.Key×D)}(hm:dicOf d=.ok m)(hs:oDPop m nm=.ok m'):pw (n+3) M.uqt w [.ptr p,nm]=.ok (onW w s pg i (.tup [tx "take",dicD m'])) x:=by
 rw[gh,bM,aZ h.hp rfl];show outW (lwR w (pr (n+2) M.uqa w [.ptr p,nm]) _)=_;rw[hp,cr,aZ h.hp rfl,fQ (n:=n) h hi,R.bind_ok,hm,cr,hs,cr,aP (x:=.ptr s) h.hp rfl,aK,aQ h.hs rfl];show outW (lwB (pw (n+2) M.uq1 w [.ptr s,.tup [tx "take",dicD m']]) _)=_;rw[xE h (List.getElem?_eq_some_iff.mp hi).1 hl];rfl
theorem uZ (h:PW w p s pg i)(hp:pr n M.uqa w [.ptr p,nm]=.err j):pw (n+1) M.uqn w [.ptr p,nm,x]=.er w j:=by
 rw[c7,bv,aZ h.hp rfl];show outW (lwR w ((pr n M.uqa w [.ptr p,nm]).bind _) _)=_;rw[hp];rfl
theorem u0 (h:PW w p s pg i)(hp:pr n M.uqa w [.ptr p,nm]=.ok y)(hw:pf n F.ap [y,x]=.err j):pw (n+1) M.uqn w [.ptr p,nm,x]=.er w j:=by
 rw[c7,bv,aZ h.hp rfl];show outW (lwR w ((pr n M.uqa w [.ptr p,nm]).bind _) _)=_;rw[hp,R.bind_ok,hw];rfl
theorem xa (h:PW w p s pg i)(hi:pg[i]?=some (.tup [wd,d]))(hl:pg.length≤1000)(hp:pr (n+3) M.uqa w [.ptr p,nm]=.ok y)(hw:pf (n+3) F.ap [y,x]=.ok z){m m':List (L2.Key×D)}(hm:dicOf d=.ok m)(hs:oDSt m nm z=.ok m'):pw (n+4) M.uqn w [.ptr p,nm,x]=.ok (onW w s pg i (.tup [tx "move",dicD m'])) z:=by
 rw[c7,bv,aZ h.hp rfl];show outW (lwR w ((pr (n+3) M.uqa w [.ptr p,nm]).bind _) _)=_;rw[hp,R.bind_ok,hw,cr,aK,aQ h.hp rfl];show outW (lwB (pw (n+3) M.uqs w [.ptr p,tx "move",nm,z]) _)=_;rw[pq h hi hl hm hs];rfl
variable {ru a b:D}
theorem u3 (hr:pf n F.ab [ru]=.err j):pw (n+1) M.uqc w [.ptr p,nm,ru,a,b]=.er w j:=by
 rw[c6,bu,hr];rfl
theorem si (hr:pf n F.ab [ru]=.ok x)(hn:pf n F.aa [nm]=.err j):pw (n+1) M.uqc w [.ptr p,nm,ru,a,b]=.er w j:=by
 rw[c6,bu,hr,bi,bC,hn];rfl
theorem jq (h:PW w p s pg i)(hr:pf n F.ab [ru]=.ok x)(hn:pf n F.aa [nm]=.ok y):pw (n+1) M.uqc w [.ptr p,nm,ru,a,b]=outW (lwR w ((pr n M.uqa w [.ptr p,a]).bind fun x=>(pr n M.uqa w [.ptr p,b]).bind fun x1=>pf n F.ao [ru,x,x1]) fun told=>lwB (pw n M.uqs w [.ptr p,tx "join",nm,told]) fun w2 _=>(.rt w2 told:LW Unit)):=by
 rw[c6,bu,hr,bi,bC,hn,bi,bC,aZ h.hp rfl,aZ h.hp rfl];refine congrArg outW (congrArg _ (funext fun told=>?_));rw[aK,aQ h.hp rfl];rfl
theorem xb (h:PW w p s pg i)(hr:pf n F.ab [ru]=.ok x)(hn:pf n F.aa [nm]=.ok y)(ha:pr n M.uqa w [.ptr p,a]=.err j):pw (n+1) M.uqc w [.ptr p,nm,ru,a,b]=.er w j:=by
 rw[jq h hr hn,ha];rfl
theorem xc (h:PW w p s pg i)(hr:pf n F.ab [ru]=.ok x)(hn:pf n F.aa [nm]=.ok y){u:D}(ha:pr n M.uqa w [.ptr p,a]=.ok u)(hb:pr n M.uqa w [.ptr p,b]=.err j):pw (n+1) M.uqc w [.ptr p,nm,ru,a,b]=.er w j:=by
 rw[jq h hr hn,ha,hb];rfl
theorem xg (h:PW w p s pg i)(hr:pf n F.ab [ru]=.ok x)(hn:pf n F.aa [nm]=.ok y){u v:D}(ha:pr n M.uqa w [.ptr p,a]=.ok u)(hb:pr n M.uqa w [.ptr p,b]=.ok v)(hj:pf n F.ao [ru,u,v]=.err j):pw (n+1) M.uqc w [.ptr p,nm,ru,a,b]=.er w j:=by
 rw[jq h hr hn,ha,hb,R.bind_ok,R.bind_ok,hj];rfl
theorem xh (h:PW w p s pg i)(hi:pg[i]?=some (.tup [wd,d]))(hl:pg.length≤1000)(hr:pf (n+3) F.ab [ru]=.ok x)(hn:pf (n+3) F.aa [nm]=.ok y){u v:D}(ha:pr (n+3) M.uqa w [.ptr p,a]=.ok u)(hb:pr (n+3) M.uqa w [.ptr p,b]=.ok v)(hj:pf (n+3) F.ao [ru,u,v]=.ok z)
  {m m':List (L2.Key×D)} (hm:dicOf d=.ok m) (hs:oDSt m nm z=.ok m'):pw (n+4) M.uqc w [.ptr p,nm,ru,a,b]=.ok (onW w s pg i (.tup [tx "join",dicD m'])) z:=by
 rw[jq h hr hn,ha,hb,R.bind_ok,R.bind_ok,hj,cr,pq h hi hl hm hs];rfl
theorem u4 (h:PW w p s pg i)(hp:pr n M.uqa w [.ptr p,nm]=.err j):pr (n+1) M.uqo w [.ptr p,nm]=.err j:=by
 rw[dP,bd,aZ h.hp rfl];show outL (lB (pr n M.uqa w [.ptr p,nm]) _)=_;rw[hp];rfl
theorem kD (h:PW w p s pg i)(hi:pg[i]?=some (.tup [wd,d]))(hd:dSortD [d]=.ok x):pr (n+3) M.uqu w [.ptr p]=.ok x:=by
 rw[j6,ce,aZ h.hp rfl,fQ (n:=n) h hi,R.bind_ok,hd];rfl
theorem u5 (h:PW w p s pg (i+1))(hi:pg[i+1]?=some (.tup [wd,d])):pw (n+3) M.ujo w [.ptr p]=.ok (atW w s pg (i:Int)) wd:=by
 rw[kS,cC,aP (x:=.ptr s) h.hp rfl,aK,aQ h.hs rfl,wX h hi];rfl
theorem sj (h:PW w p s pg i)(hi:pg[i+1]?=some (.tup [wd,d])):pw (n+3) M.ujb w [.ptr p]=.ok (atW w s pg ((i+1:Nat):Int)) wd:=by
 rw[j7,cf,aP (x:=.ptr s) h.hp rfl,aK,aQ h.hs rfl,uV h hi];rfl
end
theorem u6 {W:Wd}{s n:Nat}(h:W s=some (.ins 12 []))(d:D):pw (n+1) M.uq9 W [.ptr s,d]=.ok (wput (wput W s (.ins 12 [(nPg,.lst [d])])) s (stO [d] 0)) .non:=by
 rw[kO,cy,bi,bC,eX h (by decide),bi,bC];rw[eX (bH W s (.ins 12 (putD "pages" (.lst [d]) []))) (by show 1 < 900;decide)];rfl
theorem u7 {W:Wd}{p n:Nat}{d:D}(h:W p=some (.ins 13 [])):All (fun w r=>r=.non∧∃ s,PW w p s [.tup [tx "",d]] 0) (pw (n+2) M.uja W [.ptr p,d]):=by
 rw[jZ,b9];show All _ (outW (lwB (rwNew 12 W (pw (n+1) M.uq9) [.tup [tx "",d]]) _));refine All.lwB (P:=fun w r=>∃ s,s≠p∧r=.ptr s∧w p=some (.ins 13 [])∧w s=some (stO [.tup [tx "",d]] 0)) (fun w r hw=>?_) ?_
 ·obtain⟨s,ne,rfl,h1,h2⟩:=hw;rw[eX h1 (by decide)];exact⟨rfl,s,by rw[bH];rfl,by rw[eW ne];exact h2,ne.symm⟩
 ·intro s hs;have ne:s≠p:=fun z=>by rw[z,h]at hs;cases hs
  show All _ (rwB (pw (n+1) M.uq9 (wput W s (.ins 12 [])) [.ptr s,.tup [tx "",d]]) _);rw[u6 (bH _ _ _)];exact⟨s,ne,rfl,by rw[eW ne.symm,eW ne.symm,eW ne.symm];exact h,bH _ _ _⟩
theorem u8 {W:Wd}{p n:Nat}(h:W p=some (.ins 13 [])):All (fun w r=>r=.non∧∃ s,PW w p s [.tup [tx "",.dic [] []]] 0) (pw (n+3) M.uj2 W [.ptr p]):=by
 rw[kR,cB,aK,aQ h rfl];show All _ (outW (lwB (pw (n+2) M.uja W [.ptr p,.dic [] []]) _));refine All.lwB (P:=fun w r=>r=.non∧∃ s,PW w p s [.tup [tx "",.dic [] []]] 0) (fun w r hw=>?_) (u7 h);exact⟨rfl,hw.2⟩
abbrev nP:D:=tx "no picture"
abbrev nR:D:=tx "no rule"
abbrev nU:D:=tx "unlike"
abbrev nS:D:=tx "no spot"
abbrev nN:D:=tx "no name"
def odds:List D:=[.non,(.tup []),(.tup [.int 4,.int 0]),(.tup [.int 0,(.tup [.int 1,.int 1,.int 1,.int 1])]),(.tup [.int 1,(.tup [.int 1,.int 1,.int 1])]),(.lst [.int 0,.int 1]),(.tup [(.bl true),.int 1]),(.tup [.int 1,.int 10]),(.tup [.int 0,(.bl true)])]
def nms:List D:=[.non,tx "",tx "A",tx "abcdef",.int 5,(.lst [tx "a"]),tx "a b",tx "a1"]
def gones:List D:=[tx "c",tx "ab",tx "x",tx "none"]
def ruls:List D:=[tx "most",.non,.int 0,(.lst [tx "sum"]),tx "Sum",tx ""]
def ways:List D:=[.int 8,(.int (-1)),.int 9,.int 99]
abbrev pP:D:=.tup [.int 1,(.tup [.int 1,.int 2,.int 3,.int 4])]
abbrev pQ:D:=.tup [.int 2,.int 7]
abbrev pV:D:=.tup [.int 1,(.tup [.int 3,.int 1,.int 4,.int 2])]
abbrev pZ:D:=.tup [.int 1,.int 0]
abbrev pL:D:=.tup [.int 0,.int 0]
abbrev kA:L2.Key:=.inr "a"
abbrev kB:L2.Key:=.inr "b"
abbrev kC:L2.Key:=.inr "c"
abbrev m2:List (L2.Key×D):=[(kA,pP),(kB,pQ)]
abbrev m3:List (L2.Key×D):=[(kA,pV),(kB,pQ)]
abbrev m4:List (L2.Key×D):=[(kA,pV),(kB,pQ),(kC,pZ)]
abbrev m5:List (L2.Key×D):=[(kA,pV),(kC,pZ)]
abbrev pgs:List D:=[.tup [tx "",.dic [] []],.tup [tx "put",dicD [(kA,pP)]],.tup [tx "put",dicD m2],.tup [tx "move",dicD m3]]
def isE (j:Nat):R D→Bool
 | .err k=>k==j
 | _=>false
theorem kE {j:Nat}{r:R D}(h:isE j r=true):r=.err j:=by
 cases r with
 | err k=>exact congrArg R.err (eq_of_beq h)
 | ok d=>cases h
 | stuck=>cases h
def isT (b:Bool):R D→Bool
 | .ok (.bl c)=>b==c
 | _=>false
theorem eY {b:Bool}{r:R D}(h:isT b r=true):r=.ok (.bl b):=by
 unfold isT at h;split at h
 ·rename_i c;rw[eq_of_beq h]
 ·cases h
theorem xi:odds.all (fun x=>isE 1 (pf 36 F.ak [x]))=true:=by decide +kernel
theorem xj:nms.all (fun x=>isT false (pf 34 F.ac [x])&&isT false (pf 35 F.ac [x])&&isT false (pf 36 F.ac [x]))=true:=by decide +kernel
theorem xk:nms.all (fun x=>isE 11 (pf 36 F.aa [x]))=true:=by decide +kernel
theorem xl:gones.all (fun x=>isT true (pf 34 F.ac [x])&&isT true (pf 35 F.ac [x])&&isT true (pf 36 F.ac [x])&&isT true (dDnin x (dicD m2)))=true:=by decide +kernel
theorem xm:ruls.all (fun x=>isE 5 (pf 36 F.ab [x]))=true:=by decide +kernel
theorem xn:ways.all (fun x=>isE 2 (pf 36 F.ap [pP,x]))=true:=by decide +kernel
theorem uni:pf 36 F.ao [tx "sum",pP,pQ]=.err 4:=kE (by decide +kernel)
theorem is_a:∀ n,n=34∨n=35∨n=36→pf n F.ac [tx "a"]=.ok (.bl true):=fun n h=>eY (by rcases h with rfl | rfl | rfl<;>decide +kernel)
theorem is_b:∀ n,n=34∨n=35∨n=36→pf n F.ac [tx "b"]=.ok (.bl true):=fun n h=>eY (by rcases h with rfl | rfl | rfl<;>decide +kernel)
theorem is_c:∀ n,n=34∨n=35∨n=36→pf n F.ac [tx "c"]=.ok (.bl true):=fun n h=>eY (by rcases h with rfl | rfl | rfl<;>decide +kernel)
theorem pv {nm:D}{n:Nat}(h:pf n F.ac [nm]=.ok (.bl true)):pf (n+1) F.aa [nm]=.ok .non:=by
 rw[kN,cx,h];rfl
theorem iW {xs:List D}{i:Int}(h0:0≤i)(h1:i < xs.length):∃ d∈xs,dIx (.lst xs) (.int i)=.ok d:=by
 have hj:L2.ixN xs.length i=some i.toNat:=by
  unfold L2.ixN;rw[if_pos h0,if_pos h1]
 have hl:i.toNat < xs.length:=by omega
 refine⟨xs[i.toNat],List.getElem_mem _,?_⟩;show (match (L2.ixN xs.length i).bind fun j=>xs[j]? with | some d=>R.ok d | none=>.stuck)=_;rw[hj];show (match xs[i.toNat]? with | some d=>R.ok d | none=>.stuck)=_;rw[List.getElem?_eq_getElem hl]
theorem py (x y:D)(k:Int):∃ e,(e=x∨e=y)∧((dMod (.int k) (.int 2)).bind fun i=>dIx (.lst [x,y]) i)=.ok e:=by
 obtain⟨e,he,h⟩:=iW (xs:=[x,y]) (i:=k%2) (Int.emod_nonneg _ (by decide)) (Int.emod_lt_of_pos _ (by decide));rw[List.mem_cons,List.mem_singleton]at he;exact⟨e,he,h⟩
theorem tb {rf:Wd→RW}{W:Wd}{k:Wd→D→LW Unit}{j:Nat}{d:D}{X:LW Unit}(h:rf W=.er W j)(hq:qTk esL j=true)(hc:pf 37 F.au [.exc j]=.ok d)(hk:k W d=X):lwB (outW (aw (pf 37) rf W)) k=X:=by
 have e:outW (aw (pf 37) rf W)=.ok W d:=by
  unfold aw;rw[h];show outW (if qTk esL j=true then (match pf 37 F.au [.exc j] with | .ok d=>LW.rt W d | _=>.stuck) else .stuck:LW Unit)=_;rw[if_pos hq,hc];rfl
 rw[e,bC,hk]
section
variable {w:Wd}{p s:Nat}
theorem pofE (h:PW w p s pgs 2){e nm go:D}(hn:nm∈nms)(hg:go∈gones)(he:e=nm∨e=go):pr 36 M.uqa w [.ptr p,e]=.err 11∧pr 37 M.uqa w [.ptr p,e]=.err 11:=by
 have c:=List.all_eq_true.mp xj nm hn;have g:=List.all_eq_true.mp xl go hg;simp only[Bool.and_eq_true]at c g;obtain⟨⟨c1,c2⟩,c3⟩:=c;obtain⟨⟨⟨g1,g2⟩,g3⟩,g4⟩:=g;rcases he with rfl | rfl
 ·exact⟨qw (eY c2),qw (eY c3)⟩
 ·exact⟨nM (n:=33) h rfl (eY g2) (eY g4),nM (n:=34) h rfl (eY g3) (eY g4)⟩
theorem pofA (h:PW w p s pgs 2):pr 36 M.uqa w [.ptr p,tx "a"]=.ok pP:=fH (n:=33) h rfl (is_a 35 (.inr (.inl rfl))) rfl rfl
theorem pofB (h:PW w p s pgs 2):pr 36 M.uqa w [.ptr p,tx "b"]=.ok pQ:=fH (n:=33) h rfl (is_b 35 (.inr (.inl rfl))) rfl rfl
theorem ck_c:pf 36 F.aa [tx "c"]=.ok .non:=pv (is_c 35 (.inr (.inl rfl)))
theorem pz:pf 36 F.ab [tx "sum"]=.ok .non:=by rfl
theorem u9:pf 36 F.ab [tx "least"]=.ok .non:=by rfl
theorem ln_L:pf 36 F.ak [pL]=.ok pL:=by rfl
theorem jr (ns:List Int)(h:PW w p s pgs 2)(k:Int)(h0:0≤k)(h4:k < 4):bN (pf 37) (pr 37) (pw 37) (scr ns) (.lst odds) (.ptr p) w (.int k)=.nx w ():=by
 unfold bN;rw[jp (k:=0) (by decide) ns (a:=0) (m:=9) rfl (by decide),jp (k:=1) (by decide) ns (a:=1) (m:=8) rfl (by decide),jp (k:=2) (by decide) ns (a:=2) (m:=4) rfl (by decide),jp (k:=3) (by decide) ns (a:=3) (m:=6) rfl (by decide)];obtain⟨x,hx,ex⟩:=iW (xs:=odds) (i:=(pk ns 0 9+2*k)%9) (Int.emod_nonneg _ (by decide)) (Int.emod_lt_of_pos _ (by decide));obtain⟨nm,hn,en⟩:=iW (xs:=nms) (i:=(pk ns 1 8+3*k)%8) (Int.emod_nonneg _ (by decide)) (Int.emod_lt_of_pos _ (by decide));obtain⟨go,hg,eg⟩:=iW (xs:=gones) (i:=(pk ns 2 4+k)%4) (Int.emod_nonneg _ (by decide)) (Int.emod_lt_of_pos _ (by decide));obtain⟨ru,hr,er⟩:=iW (xs:=ruls) (i:=(pk ns 3 6+k)%6) (Int.emod_nonneg _ (by decide)) (Int.emod_lt_of_pos _ (by decide));obtain⟨wy,hw,ew⟩:=iW (xs:=ways) (i:=k) h0 h4;show lwR w (dIx (.lst odds) (.int ((pk ns 0 9+2*k)%9))) _=_;rw[ex];show lwR w (dIx (.lst nms) (.int ((pk ns 1 8+3*k)%8))) _=_;rw[en];show lwR w (dIx (.lst gones) (.int ((pk ns 2 4+k)%4))) _=_;rw[eg];show lwR w (dIx (.lst ruls) (.int ((pk ns 3 6+k)%6))) _=_;rw[er,cr];obtain⟨e1,_,q1⟩:=py nm (tx "a") k;obtain⟨e2,i2,q2⟩:=py nm go k;obtain⟨e3,i3,q3⟩:=py go nm k;have ew':dIx (.lst [.int 8,(.int (-1)),.int 9,.int 99]) (.int k)=.ok wy:=ew;simp only[q1,q2,q3,ew'];have oE:pf 36 F.ak [x]=.err 1:=kE (List.all_eq_true.mp xi x hx);have nE:pf 36 F.aa [nm]=.err 11:=kE (List.all_eq_true.mp xk nm hn);have rE:pf 36 F.ab [ru]=.err 5:=kE (List.all_eq_true.mp xm ru hr);have wE:pf 36 F.ap [pP,wy]=.err 2:=kE (List.all_eq_true.mp xn wy hw);have p2:=pofE h hn hg i2;have p3:=pofE h hn hg i3.symm;refine tb (j:=1) (d:=nP) ?_ (by decide) (by rfl) ?_
 ·rw[aK,aQ h.hp rfl];exact wY oE
 refine tb (j:=5) (d:=nR) ?_ (by decide) (by rfl) ?_
 ·rw[aK,aQ h.hp rfl];exact u3 rE
 show lwB _ _=_;refine tb (j:=4) (d:=nU) ?_ (by decide) (by rfl) ?_
 ·rw[aK,aQ h.hp rfl];exact xg h pz ck_c (pofA h) (pofB h) uni
 show lwB _ _=_;refine tb (j:=2) (d:=nS) ?_ (by decide) (by rfl) ?_
 ·rw[aK,aQ h.hp rfl];exact u0 h (pofA h) wE
 show lwB _ _=_;refine tb (j:=11) (d:=nN) ?_ (by decide) (by rfl) ?_
 ·rw[aK,aQ h.hp rfl];exact uW ln_L nE
 refine tb (j:=11) (d:=nN) ?_ (by decide) (by rfl) ?_
 ·rw[aK,aQ h.hp rfl];exact uY h p2.1
 show lwB _ _=_;refine tb (j:=11) (d:=nN) ?_ (by decide) (by rfl) ?_
 ·rw[aZ h.hp rfl];exact congrArg (rwR w) p3.2
 show lwB _ _=_;refine tb (j:=11) (d:=nN) ?_ (by decide) (by rfl) ?_
 ·rw[aK,aQ h.hp rfl];exact uZ h p2.1
 show lwB _ _=_;refine tb (j:=11) (d:=nN) ?_ (by decide) (by rfl) ?_
 ·rw[aZ h.hp rfl];exact congrArg (rwR w) (u4 h p3.1)
 show lwB _ _=_;refine tb (j:=11) (d:=nN) ?_ (by decide) (by rfl) ?_
 ·rw[aK,aQ h.hp rfl];exact si pz nE
 show lwB _ _=_;refine tb (j:=11) (d:=nN) ?_ (by decide) (by rfl) ?_
 ·rw[aK,aQ h.hp rfl];exact xc h pz ck_c (pofA h) p2.1
 show lwB _ _=_;refine tb (j:=11) (d:=nN) ?_ (by decide) (by rfl) ?_
 ·rw[aK,aQ h.hp rfl];exact xb h u9 ck_c p3.1
 rfl
end
theorem ln_P:pf 36 F.ak [pP]=.ok pP:=by rfl
theorem ln_Q:pf 36 F.ak [pQ]=.ok pQ:=by rfl
theorem by_P:pf 36 F.ap [pP,.int 1]=.ok pV:=by rfl
theorem jn_V:pf 36 F.ao [tx "less",pV,pV]=.ok pZ:=by rfl
theorem xo:pf 36 F.ab [tx "less"]=.ok .non:=by rfl
theorem ck_a:pf 36 F.aa [tx "a"]=.ok .non:=pv (is_a 35 (.inr (.inl rfl)))
theorem ck_b:pf 36 F.aa [tx "b"]=.ok .non:=pv (is_b 35 (.inr (.inl rfl)))
abbrev pgs4:List D:=pgs++[.tup [tx "join",dicD m4]]
abbrev pgs5:List D:=pgs4++[.tup [tx "take",dicD m5]]
theorem xp {w:Wd}{p s:Nat}(h:PW w p s pgs5 5):pr 37 M.uqo w [.ptr p,tx "a"]=.ok (.lst []):=by
 have pa:pr 36 M.uqa w [.ptr p,tx "a"]=.ok pV:=fH (n:=33) h rfl (is_a 35 (.inr (.inl rfl))) rfl rfl;have pc:pr 36 M.uqa w [.ptr p,tx "c"]=.ok pZ:=fH (n:=33) h rfl (is_c 35 (.inr (.inl rfl))) rfl rfl;have nm:pr 36 M.uqu w [.ptr p]=.ok (.lst [tx "a",tx "c"]):=kD (n:=33) h rfl (by rfl);rw[dP,bd,aZ h.hp rfl];show outL (lB (pr 36 M.uqa w [.ptr p,tx "a"]) _)=_;rw[pa,tK,aZ h.hp rfl,nm];have f:∀ {a:D},(rM 13 "picture_of" w (.ptr p) ((rL [(.ok a)]).bind fun ds1=>pr 36 M.uqa w (.ptr p::ds1)))=pr 36 M.uqa w [.ptr p,a]:=fun {a}=>by rw[aZ h.hp rfl];rfl
 simp only[f];show outL (lB (cFil _ _ [tx "a",tx "c"]) _)=_;unfold cFil cGo cGo cGo;simp only[pa,pc];rfl
theorem xq (ns:List Int){w4:Wd}{p s:Nat}(g4:PW w4 p s pgs 2):lwFor (τ:=Unit) (fun W _ x=>bN (pf 37) (pr 37) (pw 37) (scr ns) (.lst odds) (.ptr p) W x) [.int 0,.int 1,.int 2,.int 3] w4 ()=.nx w4 ():=by
 unfold lwFor lwFor lwFor lwFor lwFor;simp only[jr ns g4 0 (by decide) (by decide),jr ns g4 1 (by decide) (by decide),jr ns g4 2 (by decide) (by decide),jr ns g4 3 (by decide) (by decide),lwS]
theorem y3:dSortD [dicD m2]=.ok (.lst [tx "a",tx "b"]):=by rfl
theorem y4:dSortD [dicD m5]=.ok (.lst [tx "a",tx "c"]):=by rfl
structure After (p:Nat)(w0 w1 w2 w3 w4 w5 w6 w7:Wd)(s:Nat):Prop where
 g0:PW w0 p s [.tup [tx "",.dic [] []]] 0
 e1:pw 37 M.uql w0 [.ptr p,tx "a",pP]=.ok w1 (.bl false)
 g1:PW w1 p s [.tup [tx "",.dic [] []],.tup [tx "put",dicD [(kA,pP)]]] 1
 e2:pw 37 M.uql w1 [.ptr p,tx "b",pQ]=.ok w2 (.bl false)
 g2:PW w2 p s [.tup [tx "",.dic [] []],.tup [tx "put",dicD [(kA,pP)]],.tup [tx "put",dicD m2]] 2
 e3:pw 37 M.uqn w2 [.ptr p,tx "a",.int 1]=.ok w3 pV
 g3:PW w3 p s pgs 3
 e4:pw 37 M.ujo w3 [.ptr p]=.ok w4 (tx "move")
 g4:PW w4 p s pgs 2
 n4:pr 37 M.uqu w4 [.ptr p]=.ok (.lst [tx "a",tx "b"])
 k4:pr 37 M.ujc w4 [.ptr p]=.ok (.tup [.int 2,.int 1])
 f4:pw 37 M.ujb w4 [.ptr p]=.ok w5 (tx "move")
 g5:PW w5 p s pgs 3
 p5:pr 37 M.uqa w5 [.ptr p,tx "a"]=.ok pV
 j5:pw 37 M.uqc w5 [.ptr p,tx "c",tx "less",tx "a",tx "a"]=.ok w6 pZ
 g6:PW w6 p s pgs4 4
 t6:pw 37 M.uqt w6 [.ptr p,tx "b"]=.ok w7 pQ
 g7:PW w7 p s pgs5 5
 n7:pr 37 M.uqu w7 [.ptr p]=.ok (.lst [tx "a",tx "c"])
 s7:pr 37 M.uqo w7 [.ptr p,tx "a"]=.ok (.lst [])
theorem a35:pf 35 F.ac [tx "a"]=.ok (.bl true):=is_a 35 (.inr (.inl rfl))
theorem a36:pf 36 F.ac [tx "a"]=.ok (.bl true):=is_a 36 (.inr (.inr rfl))
theorem b35:pf 35 F.ac [tx "b"]=.ok (.bl true):=is_b 35 (.inr (.inl rfl))
theorem va {w:Wd}{p s:Nat}(g0:PW w p s [.tup [tx "",.dic [] []]] 0):∃ w1 w2 w3 w4 w5 w6 w7,After p w w1 w2 w3 w4 w5 w6 w7 s:=by
 have e1:=uX (n:=33) (nm:=tx "a") (x:=pP) g0 rfl (by decide) ln_P ck_a (b:=.bl false) rfl (m:=[]) rfl (m':=[(kA,pP)]) rfl;have g1:PW _ p s [.tup [tx "",.dic [] []],.tup [tx "put",dicD [(kA,pP)]]] 1:=g0.on (.tup [tx "put",dicD [(kA,pP)]]);generalize onW w s _ 0 _=w1 at g1 e1;have e2:=uX (n:=33) (nm:=tx "b") (x:=pQ) g1 rfl (by decide) ln_Q ck_b (b:=.bl false) rfl (m:=[(kA,pP)]) rfl (m':=m2) rfl;have g2:PW _ p s [.tup [tx "",.dic [] []],.tup [tx "put",dicD [(kA,pP)]],.tup [tx "put",dicD m2]] 2:=g1.on (.tup [tx "put",dicD m2]);generalize onW w1 s _ 1 _=w2 at g2 e2;have e3:=xa (n:=33) (nm:=tx "a") (x:=.int 1) g2 rfl (by decide) (fH (n:=33) g2 rfl a35 rfl rfl) by_P (m:=m2) rfl (m':=m3) rfl;have g3:PW _ p s pgs 3:=g2.on (.tup [tx "move",dicD m3]);generalize onW w2 s _ 2 _=w3 at g3 e3;have e4:=u5 (n:=34) (i:=2) g3 rfl;have g4:PW _ p s pgs 2:=g3.at_ 2
 generalize atW w3 s pgs _=w4 at g4 e4;have f4:=sj (n:=34) g4 rfl;have g5:PW _ p s pgs 3:=g4.at_ 3
 generalize atW w4 s pgs _=w5 at g5 f4;have p5:=fH (n:=33) g5 rfl a35 rfl rfl;have j5:=xh (n:=33) (nm:=tx "c") (ru:=tx "less") g5 rfl (by decide) xo ck_c p5 p5 jn_V (m:=m3) rfl (m':=m4) rfl;have g6:PW _ p s pgs4 4:=g5.on (.tup [tx "join",dicD m4]);generalize onW w5 s pgs 3 _=w6 at g6 j5;have t6:=wZ (n:=34) (nm:=tx "b") (x:=pQ) g6 rfl (by decide) (fH (n:=33) g6 rfl b35 rfl rfl) (m:=m4) rfl (m':=m5) rfl;have g7:PW _ p s pgs5 5:=g6.on (.tup [tx "take",dicD m5]);generalize onW w6 s pgs4 4 _=w7 at g7 t6;exact⟨w1,w2,w3,w4,w5,w6,w7,g0,e1,g1,e2,g2,e3,g3,e4,g4,kD (n:=34) g4 rfl y3,sh (n:=35) g4,f4,g5,fH (n:=34) g5 rfl a36 rfl rfl,j5,g6,t6,g7,kD (n:=34) g7 rfl y4,xp g7⟩
section
variable {w:Wd}{p:Nat}{m:Str}{fs:List (Str×D)}{f:Nat}{tw:Nat→Wd→List D→RW}{tr:Nat→Wd→List D→R D}
theorem cw1 (h:w p=some (.ins 13 fs))(hf:fs.lookup m=none)(x:D):(rwA w (.ok (.ptr p)) fun o=>rwM 13 m w o (rwA w (rL [(.ok x)]) fun ds=>tw f w (o::ds)))=tw f w [.ptr p,x]:=by rw[aK,aQ h hf];rfl
theorem cw2 (h:w p=some (.ins 13 fs))(hf:fs.lookup m=none)(x y:D):(rwA w (.ok (.ptr p)) fun o=>rwM 13 m w o (rwA w (rL [(.ok x),(.ok y)]) fun ds=>tw f w (o::ds)))=tw f w [.ptr p,x,y]:=by rw[aK,aQ h hf];rfl
theorem cw4 (h:w p=some (.ins 13 fs))(hf:fs.lookup m=none)(x y z u:D):(rwA w (.ok (.ptr p)) fun o=>rwM 13 m w o (rwA w (rL [(.ok x),(.ok y),(.ok z),(.ok u)]) fun ds=>tw f w (o::ds)))=tw f w [.ptr p,x,y,z,u]:=by rw[aK,aQ h hf];rfl
theorem cw0 (h:w p=some (.ins 13 fs))(hf:fs.lookup m=none):(rwA w (.ok (.ptr p)) fun o=>rwM 13 m w o (tw f w [o]))=tw f w [.ptr p]:=by rw[aK,aQ h hf]
theorem cr1 (h:w p=some (.ins 13 fs))(hf:fs.lookup m=none)(x:D):rM 13 m w (.ptr p) ((rL [(.ok x)]).bind fun ds=>tr f w (.ptr p::ds))=tr f w [.ptr p,x]:=by rw[aZ h hf];rfl
theorem pA (w:Wd)(k:Wd→RW):rwOr (.ok w (.bl false)) k=k w:=rfl
theorem qx (w:Wd)(k:Wd→RW):rwAnd (.ok w (.bl true)) k=k w:=rfl
theorem pB (w:Wd)(d:D)(k:Wd→D→RW):rwB (.ok w d) k=k w d:=rfl
theorem xF {σ:Type}(w:Wd)(A B:Wd→LW σ):lwT (.ok w (.bl false)) A B=B w:=rfl
theorem pC {τ σ:Type}(w:Wd)(s:τ)(k:Wd→τ→LW σ):lwS (.nx w s) k=k w s:=rfl
end
theorem q1:dNf (.lst [tx "a",tx "b"]) (.lst [tx "a",tx "b"])=.ok (.bl false):=by rfl
theorem q2:dNf (.tup [.int 2,.int 1]) (.tup [.int 2,.int 1])=.ok (.bl false):=by rfl
theorem q3:dNf (tx "move") (tx "move")=.ok (.bl false):=by rfl
theorem q4:dNf pV pV=.ok (.bl false):=by rfl
theorem q5:dNf pZ pZ=.ok (.bl false):=by rfl
theorem q6:dEq pQ pQ=.ok (.bl true):=by rfl
theorem q7:dEq (.lst [tx "a",tx "c"]) (.lst [tx "a",tx "c"])=.ok (.bl true):=by rfl
theorem q8:dEq (.lst []) (.lst [])=.ok (.bl true):=by rfl
theorem ll (ns:List Int):All (fun _ d=>d=.bl true) (pw 40 M.law_k84 (fun _=>none) [.lst (ns.map .int)]):=by
 rw[oV 37];unfold fO;refine All.lwB (P:=fun w d=>∃ p s,d=.ptr p∧PW w p s [.tup [tx "",.dic [] []]] 0) (fun w d hw=>?_) ?_
 ·obtain⟨p,s,rfl,g0⟩:=hw;obtain⟨w1,w2,w3,w4,w5,w6,w7,A⟩:=va g0;have lp:=xq ns A.g4;rw[cw2 g0.hp rfl,A.e1,bC,cw2 A.g1.hp rfl,A.e2,bC,cw2 A.g2.hp rfl,A.e3,bC,cw0 A.g3.hp rfl,A.e4,bC,rng4,cr];rw[show (.lst (ns.map .int):D)=scr ns from rfl];unfold odds at lp;rw[lp,pC,aZ A.g4.hp rfl,A.n4,R.bind_ok,q1,iG,R.bind_ok,bi,pA,aZ A.g4.hp rfl,A.k4,R.bind_ok,q2,iG,R.bind_ok,bi,pA,cw0 A.g4.hp rfl,A.f4,pB,aK,q3,bi,xF,pC];rw[cr1 A.g5.hp rfl,A.p5,R.bind_ok,q4,iG,R.bind_ok,bi,pA,cw4 A.g5.hp rfl,A.j5,pB,aK,q5,bi,xF,pC];rw[cw1 A.g6.hp rfl,A.t6,pB,aK,q6,bi,qx,aZ A.g7.hp rfl,A.n7,R.bind_ok,q7,bi,qx,cr1 A.g7.hp rfl,A.s7,R.bind_ok,q8,bi,bC];exact rfl
 ·intro p hp;exact All.rwB (P:=fun w d=>d=.non∧∃ s,PW w p s [.tup [tx "",.dic [] []]] 0) (fun w d ⟨e,s,h⟩=>by subst e;exact⟨p,s,rfl,h⟩) (u8 (n:=34) (bH _ _ _))
end Lw
end
end
noncomputable section
set_option maxHeartbeats 4000000
namespace Lw
open PySem PySem.Spec PyProof.Rows L2 FF
def cname:Nat→Str
 | 0 => "FourError"
 | 1 => "NoPicture"
 | 2 => "NoSpot"
 | 3 => "BadBox"
 | 4 => "Unlike"
 | 5 => "NoRule"
 | 6 => "NoBlocks"
 | 7 => "NoChange"
 | 8 => "NoNumber"
 | 9 => "NothingDone"
 | 10 => "NoText"
 | 11 => "NoName"
 | 12 => "Steps"
 | 13 => "Album"
 | 21 => "is_worth"
 | 146 => "first_worth"
 | 147 => "last_worth"
 | 148 => "least_worth"
 | 149 => "greatest_worth"
 | 150 => "sum_worth"
 | 151 => "times_worth"
 | 152 => "less_worth"
 | 153 => "same_worth"
 | 902 => "law"
 | _ => "?"
def CofN (K:Frag)(i:Nat):Addr:=match nsIn K mainGlobals (cname i) with
 | some (some (.ref a))=>a
 | _=>0
def Cof (K:Frag):Nat→Addr
 | 900=>1
 | 901=>(tabOf K "law").2
 | i=>CofN K i
theorem cof {K:Frag}{i:Nat}{x:Str}{a:Addr}(h:Ng K x (some (.ref a)))(hx:cname i=x:=by rfl)(hi:Cof K i=CofN K i:=by rfl):Cof K i=a:=by rw[hi];unfold CofN;rw[hx,h]
structure Fds (K:Frag)(mg:Str→Option Value):Prop where
 F20:Fd K mg "is_whole" ["thing"] gF
 F21:Fd K mg "is_worth" ["thing"] gG
 F22:Fd K mg "is_size" ["thing"] iP
 F23:Fd K mg "is_tree" ["size","thing","is_end"] iQ
 F24:Fd K mg "is_sized_tree" ["thing","is_end"] cm
 F25:Fd K mg "put_together" ["four"] cI
 F26:Fd K mg "lean_tree" ["tree"] fq
 F105:Fd K mg "quarters_in" ["tree"] c8
 F27:Fd K mg "is_picture" ["thing"] em
 F28:Fd K mg "check_picture" ["thing"] cn
 F29:Fd K mg "lean" ["picture"] oY
 F69:Fd K mg "moved_tree" ["tree","order"] eo
 F70:Fd K mg "moved" ["picture","order"] mC
 F125:Fd K mg "turned" ["picture"] ka
 F84:Fd K mg "mirrored" ["picture"] gH
 F127:Fd K mg "check_way" ["thing"] ft
 F128:Fd K mg "by_way" ["picture","way"] kb
 F146:Fd K mg "first_worth" ["one","other"] c9
 F147:Fd K mg "last_worth" ["one","other"] eB
 F148:Fd K mg "least_worth" ["one","other"] da
 F149:Fd K mg "greatest_worth" ["one","other"] bU
 F150:Fd K mg "sum_worth" ["one","other"] fu
 F151:Fd K mg "times_worth" ["one","other"] db
 F152:Fd K mg "less_worth" ["one","other"] eD
 F153:Fd K mg "same_worth" ["one","other"] eE
 F154:Fd K mg "check_word" ["thing","words"] eF
 F155:Fd K mg "check_rule" ["thing"] eG
 F158:Fd K mg "check_sizes" ["things"] de
 F159:Fd K mg "check_pictures" ["pictures"] bV
 F160:Fd K mg "joined_tree" ["make","one","other"] df
 F161:Fd K mg "joined" ["rule","one","other"] kh
 F280:Fd K mg "is_name" ["thing"] iT
 F334:Fd K mg "check_name" ["thing"] eI
 F30:Fd K mg "_law_cell" ["_law_script","_law_k"] ki
 F31:Fd K mg "_law_pick" ["_law_script","_law_k","_law_many"] kj
 F89:Fd K mg "_law_class" ["_law_kept"] fP
 F_law_k84:Fd K mg "law" ["_law_script"] bf
 ukc:Fd K mg "_law_told" ["_law_deed"] im
structure Mds (K:Frag)(mg:Str→Option Value):Prop where
 uj8:Kl K mg (Cof K) 12 "Steps" "Steps.__init__" ["self","first"] eJ
 ujp:Md K (Cof K) 12 "here" "Steps.here" ["self"] eL
 uje:Md K (Cof K) 12 "go_on" "Steps.go_on" ["self","page"] dg
 ujq:Md K (Cof K) 12 "back" "Steps.back" ["self"] eM
 ujf:Md K (Cof K) 12 "forth" "Steps.forth" ["self"] dh
 ujg:Md K (Cof K) 12 "marks" "Steps.marks" ["self"] di
 uj9:Kl K mg (Cof K) 13 "Album" "Album.__init__" ["self"] eN
 ujh:Md K (Cof K) 13 "begin" "Album.begin" ["self","held"] dl
 uq4:Md K (Cof K) 13 "pictures" "Album.pictures" ["self"] bW
 uji:Md K (Cof K) 13 "go_on" "Album.go_on" ["self","word","name","picture"] dq
 ujy:Md K (Cof K) 13 "put" "Album.put" ["self","name","picture"] fE
 uq0:Md K (Cof K) 13 "picture_of" "Album.picture_of" ["self","name"] bF
 ujr:Md K (Cof K) 13 "take" "Album.take" ["self","name"] eQ
 ujs:Md K (Cof K) 13 "join" "Album.join" ["self","name","rule","one","other"] eR
 ujt:Md K (Cof K) 13 "move" "Album.move" ["self","name","way"] eT
 ujj:Md K (Cof K) 13 "names" "Album.names" ["self"] dt
 uq8:Md K (Cof K) 13 "same_as" "Album.same_as" ["self","name"] cq
 uju:Md K (Cof K) 13 "back" "Album.back" ["self"] eU
 ujk:Md K (Cof K) 13 "forth" "Album.forth" ["self"] du
 ujl:Md K (Cof K) 13 "marks" "Album.marks" ["self"] dv
 uxe:NoAttr K (Cof K 12) "pages"
 uxf:NoAttr K (Cof K 12) "place"
 uxg:NoAttr K (Cof K 13) "steps"
theorem bP {K:Frag}{c:Nat}{x m qual:Str}{ps:List Str}{st:Stmt}{Ck f:Addr}{oc:Value}{od an:Option Addr}{osl:Array (Option Value)}{kV doc pm cdv ct:Value}(hx:cname c=x)
  (hb:∀ (kV doc pm:Value) (an:Option Addr) (cdv ct:Value) (us:List Value),us.length=ps.length→bindArgs (fnOf m qual (defArgs st) (defBody st) (defScope st) .none kV doc pm an cdv ct) ⟨us,[]⟩=pure (ps.zip us))
  (z:Ng K x (some (.ref Ck))) (a:findIn K (.ref Ck) m=some (some (.ref f))) (i:isFn K (.ref f)=true) (l:K.lookup f=some ⟨oc,od,.func (fnOf m qual (defArgs st) (defBody st) (defScope st) .none kV doc pm an cdv ct),osl⟩) (c':codeIn K cdv qual=true) (k:keepIn K (.ref f)=true) (hi:Cof K c=CofN K c:=by rfl):Md K (Cof K) c m qual ps st :=
 ⟨f,_,gz l c' k,by rw[cof z hx hi];exact⟨a,i,k⟩,(gz l c' k).binds hb⟩
theorem xG {K:Frag}{h:Heap}{mg:Str→Option Value}{c:Nat}{x qual:Str}{ps:List Str}{st:Stmt}{Ck f:Addr}{oc:Value}{od an:Option Addr}{osl:Array (Option Value)}{kV doc pm cdv ct:Value}(X:K.In h)(G:h.Ns mainGlobals mg)(hx:cname c=x)
  (hb:∀ (kV doc pm:Value) (an:Option Addr) (cdv ct:Value) (us:List Value),us.length=ps.length→bindArgs (fnOf "__init__" qual (defArgs st) (defBody st) (defScope st) .none kV doc pm an cdv ct) ⟨us,[]⟩=pure (ps.zip us))
  (z:Ng K x (some (.ref Ck))) (a:findIn K (.ref Ck) "__init__"=some (some (.ref f))) (i:isFn K (.ref f)=true) (l:K.lookup f=some ⟨oc,od,.func (fnOf "__init__" qual (defArgs st) (defBody st) (defScope st) .none kV doc pm an cdv ct),osl⟩) (c':codeIn K cdv qual=true) (k:keepIn K (.ref f)=true)
  (pg:plainGet K Ck Str.empty=true) (hd:PySem.W.hasDictIn K Ck=true) (po:plainOver K Ck=true) (sa:findIn K (.ref Ck) "__setattr__"=some (some (.builtin "object.__setattr__"))) (mk:makesIn K Ck=true) (kc:keepIn K (.ref Ck)=true) (hi:Cof K c=CofN K c:=by rfl):Kl K mg (Cof K) c x qual ps st :=
 ⟨⟨f,_,gz l c' k,by rw[cof z hx hi];exact⟨mk,a,i,kc⟩,by rw[cof z hx hi];exact mg_of X G z,(gz l c' k).binds hb⟩,by rw[cof z hx hi];exact⟨pg,hd,po,sa⟩⟩
theorem vb {K:Frag}{c:Nat}{x a:Str}{Ck:Addr}(hx:cname c=x)(z:Ng K x (some (.ref Ck)))(n:findIn K (.ref Ck) a=some none)(hi:Cof K c=CofN K c:=by rfl):NoAttr K (Cof K c) a:=by rw[cof z hx hi];exact n
theorem tab {P:Program}{w:World}{K:Frag}{mg:Str→Option Value}{base:Heap}{C:Nat→Addr}(T:Txt K mg C w.params)(S:Fds K mg):∀ n,Tab P w K mg base C n (pf n)
 | 0=>⟨g0 S.F20,g0 S.F21,g0 S.F22,g0 S.F23,g0 S.F24,g0 S.F25,g0 S.F26,g0 S.F105,g0 S.F27,g0 S.F28,g0 S.F29,g0 S.F69,g0 S.F70,g0 S.F125,g0 S.F84,g0 S.F127,g0 S.F128,g0 S.F146,g0 S.F147,g0 S.F148,g0 S.F149,g0 S.F150,g0 S.F151,g0 S.F152,g0 S.F153,g0 S.F154,g0 S.F155,g0 S.F158,g0 S.F159,g0 S.F160,g0 S.F161,g0 S.F280,g0 S.F334,g0 S.F30,g0 S.F31,g0 S.F89,
  fun i hi=>by
  simp only[fvL,List.mem_cons,List.not_mem_nil,or_false]at hi;rcases hi with rfl | rfl | rfl | rfl | rfl | rfl | rfl | rfl | rfl
  ·exact gW S.F21 T.f_is_worth
  ·exact gW S.F146 T.f_first_worth
  ·exact gW S.F147 T.f_last_worth
  ·exact gW S.F148 T.f_least_worth
  ·exact gW S.F149 T.f_greatest_worth
  ·exact gW S.F150 T.f_sum_worth
  ·exact gW S.F151 T.f_times_worth
  ·exact gW S.F152 T.f_less_worth
  ·exact gW S.F153 T.f_same_worth⟩
 | n+1=>by
  have G:=tab T S n (P:=P) (w:=w) (base:=base);exact⟨g1 S.F20 (nJ T G),g1 S.F21 (jc T G),g1 S.F22 (o0 T G),g1 S.F23 (pb T G),g1 S.F24 (iU T G),g1 S.F25 (jf T G),g1 S.F26 (mF T G),g1 S.F105 (kl T G),g1 S.F27 (k8 T G),g1 S.F28 (iV T G),g1 S.F29 (wL T G),g1 S.F69 (k9 T G),g1 S.F70 (uN T G),g1 S.F125 (rY T G),g1 S.F84 (nK T G),g1 S.F127 (mG T G),g1 S.F128 (rZ T G),g1 S.F146 (fA T G),g1 S.F147 (gj T G),g1 S.F148 (fB T G),g1 S.F149 (cX T G),g1 S.F150 (ij T G),g1 S.F151 (fC T G),g1 S.F152 (gm T G),g1 S.F153 (gn T G),g1 S.F154 (la T G),g1 S.F155 (lb T G),g1 S.F158 (km T G),g1 S.F159 (ik T G),g1 S.F160 (kn T G),g1 S.F161 (r6 T G),g1 S.F280 (pd T G),g1 S.F334 (lc T G),g1 S.F30 (r8 T G),g1 S.F31 (r9 T G),g1 S.F89 (ph T G),
  fun i hi=>by
  simp only[fvL,List.mem_cons,List.not_mem_nil,or_false]at hi;rcases hi with rfl | rfl | rfl | rfl | rfl | rfl | rfl | rfl | rfl
  ·exact gX S.F21 T.f_is_worth (jc T G) (fun ds h=>zC h)
  ·exact gX S.F146 T.f_first_worth (fA T G) (fun ds h=>i6 h)
  ·exact gX S.F147 T.f_last_worth (gj T G) (fun ds h=>i6 h)
  ·exact gX S.F148 T.f_least_worth (fB T G) (fun ds h=>i6 h)
  ·exact gX S.F149 T.f_greatest_worth (cX T G) (fun ds h=>i6 h)
  ·exact gX S.F150 T.f_sum_worth (ij T G) (fun ds h=>i6 h)
  ·exact gX S.F151 T.f_times_worth (fC T G) (fun ds h=>i6 h)
  ·exact gX S.F152 T.f_less_worth (gm T G) (fun ds h=>i6 h)
  ·exact gX S.F153 T.f_same_worth (gn T G) (fun ds h=>i6 h)⟩
structure Lms (K:Frag)(mg:Str→Option Value):Prop where
 x0:mg "law"=some (.ref (Cof K 902))
 l0:LamK K (Cof K) 0
theorem tabQ {P:Program}{w:World}{K:Frag}{mg:Str→Option Value}{base:Heap}(T:Txt K mg (Cof K) w.params)(S:Fds K mg)(S2:Mds K mg)(LM:Lms K mg)(bm:BMn mg base)(n:Nat):TabQ P w K mg base (Cof K) n (pf n) (pr n) (pw n):=Nat.strongRecOn n fun n ih=>match n,ih with
 | 0,_=>⟨n0 S2.uj8,e0 S2.ujp T.uqy,m0 S2.uje,m0 S2.ujq,m0 S2.ujf,e0 S2.ujg T.uqy,n0 S2.uj9,m0 S2.ujh,e0 S2.uq4 T.uqd,m0 S2.uji,m0 S2.ujy,es0 S2.uq0 T.uqd,m0 S2.ujr,m0 S2.ujs,m0 S2.ujt,e0 S2.ujj T.uqd,es0 S2.uq8 T.uqd,m0 S2.uju,m0 S2.ujk,e0 S2.ujl T.uqd,yQ S.F89,S.ukc⟩
 | 1,ih=>by
  have G:=tab T S 0 (P:=P) (w:=w) (base:=base);have Q:=ih 0 (by omega);exact⟨n1 S2.uj8 (dA T G Q),e1 S2.ujp T.uqy (dB T G Q),m1 S2.uje (cJ T G Q),m1 S2.ujq (dC T G Q),m1 S2.ujf (cK T G Q),e1 S2.ujg T.uqy (cL T G Q),n1 S2.uj9 (dD T G Q),m1 S2.ujh (cM T G Q),e1 S2.uq4 T.uqd (bO T G Q),m1 S2.uji (cN T G Q),m1 S2.ujy (eV T G Q),es1 S2.uq0 T.uqd (bB T G Q),m1 S2.ujr (dE T G Q),m1 S2.ujs (dF T G Q),m1 S2.ujt (dG T G Q),e1 S2.ujj T.uqd (cO T G Q),es1 S2.uq8 T.uqd (bX T G Q),m1 S2.uju (dH T G Q),m1 S2.ujk (cP T G Q),e1 S2.ujl T.uqd (cQ T G Q),oN S.F89 aB (fF T),S.ukc⟩
 | 2,ih=>by
  have G:=tab T S 1 (P:=P) (w:=w) (base:=base);have Q:=ih 1 (by omega);exact⟨n1 S2.uj8 (dA T G Q),e1 S2.ujp T.uqy (dB T G Q),m1 S2.uje (cJ T G Q),m1 S2.ujq (dC T G Q),m1 S2.ujf (cK T G Q),e1 S2.ujg T.uqy (cL T G Q),n1 S2.uj9 (dD T G Q),m1 S2.ujh (cM T G Q),e1 S2.uq4 T.uqd (bO T G Q),m1 S2.uji (cN T G Q),m1 S2.ujy (eV T G Q),es1 S2.uq0 T.uqd (bB T G Q),m1 S2.ujr (dE T G Q),m1 S2.ujs (dF T G Q),m1 S2.ujt (dG T G Q),e1 S2.ujj T.uqd (cO T G Q),es1 S2.uq8 T.uqd (bX T G Q),m1 S2.uju (dH T G Q),m1 S2.ujk (cP T G Q),e1 S2.ujl T.uqd (cQ T G Q),oN S.F89 aB (fF T),S.ukc⟩
 | m+3,ih=>by
  have G:=tab T S (m+2) (P:=P) (w:=w) (base:=base);have Q:=ih (m+2) (by omega);have G0:=tab T S m (P:=P) (w:=w) (base:=base);have Q0:=ih m (by omega);exact⟨n1 S2.uj8 (dA T G Q),e1 S2.ujp T.uqy (dB T G Q),m1 S2.uje (cJ T G Q),m1 S2.ujq (dC T G Q),m1 S2.ujf (cK T G Q),e1 S2.ujg T.uqy (cL T G Q),n1 S2.uj9 (dD T G Q),m1 S2.ujh (cM T G Q),e1 S2.uq4 T.uqd (bO T G Q),m1 S2.uji (cN T G Q),m1 S2.ujy (eV T G Q),es1 S2.uq0 T.uqd (bB T G Q),m1 S2.ujr (dE T G Q),m1 S2.ujs (dF T G Q),m1 S2.ujt (dG T G Q),e1 S2.ujj T.uqd (cO T G Q),es1 S2.uq8 T.uqd (bX T G Q),m1 S2.uju (dH T G Q),m1 S2.ujk (cP T G Q),e1 S2.ujl T.uqd (cQ T G Q),oN S.F89 aB (fF T),S.ukc⟩
theorem esc {P:Nat→Prop}(h0:P 1)(h1:P 2)(h2:P 4)(h3:P 5)(h4:P 9)(h5:P 11):∀ j∈esL,P j:=fun j hj=>by
 simp only[esL,List.mem_cons,List.not_mem_nil,or_false]at hj;rcases hj with rfl | rfl | rfl | rfl | rfl | rfl
 ·exact h0
 ·exact h1
 ·exact h2
 ·exact h3
 ·exact h4
 ·exact h5
theorem y6 {l:OpenLaw}{w:World}{K:Frag}{h:Heap}{mg:Str→Option Value}{fa f1 f17 f18 f19 f20 f21 f22 f23 f24 f36 C0 C1 C2 C3 C4 C5 C6 C7 C8 C9 C10 C11:Addr}(X:K.In h)(G:h.Ns mainGlobals mg)(hfa:mg "law"=some (.ref fa))(S:Fds K mg)(S2:Mds K mg)
  {od36 an36:Option Addr} {sl36:Array (Option Value)} {oc36 kV36 dc36 pm36 cd36 ct36:Value} {uki ukx uky uzk uzo ux2:Tok} {uj6 ukg:Addr} {ukz uxh:Nat} {uk0 uxi:Array (Option Value)} {ukj ukk ukl ukm uk1 uk2 uk3 uk4:Tok} {td_RULES:Addr} {dn_RULES:Nat} {dt_RULES_0 dt_RULES_1 dt_RULES_2 dt_RULES_3 dt_RULES_4 dt_RULES_5 dt_RULES_6 dt_RULES_7:Tok} {uxu ux6 ux7 ux8 ux9 uxy uxz ux0 uk7 uza uzb:ClassData}
  (z0:Ng K "is_worth" (some (.ref f1)))
  (z1:Ng K "first_worth" (some (.ref f17)))
  (z2:Ng K "last_worth" (some (.ref f18)))
  (z3:Ng K "least_worth" (some (.ref f19)))
  (z4:Ng K "greatest_worth" (some (.ref f20)))
  (z5:Ng K "sum_worth" (some (.ref f21)))
  (z6:Ng K "times_worth" (some (.ref f22)))
  (z7:Ng K "less_worth" (some (.ref f23)))
  (z8:Ng K "same_worth" (some (.ref f24)))
  (z9:Ng K "law" (some (.ref f36)))
  (z10:K.lookup f36=some ⟨oc36,od36,.func (fnOf "law" "law" (defArgs bf) (defBody bf) (defScope bf) .none kV36 dc36 pm36 an36 cd36 ct36),sl36⟩)
  (z11:codeIn K cd36 "law"=true)
  (z12:keepIn K (.ref f36)=true)
  (z13:tabOkB K "law"=true)
  (z14:Ng K "ValueError" none)
  (z15:Ng K "abs" none)
  (z16:Ng K "all" none)
  (z17:Ng K "bool" none)
  (z18:Ng K "dict" none)
  (z19:Ng K "int" none)
  (z20:Ng K "isinstance" none)
  (z21:Ng K "len" none)
  (z22:Ng K "list" none)
  (z23:Ng K "max" none)
  (z24:Ng K "min" none)
  (z25:Ng K "range" none)
  (z26:Ng K "sorted" none)
  (z27:Ng K "str" none)
  (z28:Ng K "tuple" none)
  (z29:Ng K "zip" none)
  (z30:Ng K "GREATEST_WORTH" (some (.int 9 uki)))
  (z31:Ng K "LARGEST_SIZE" (some (.int 3 ukx)))
  (z32:Ng K "LONGEST_NAME" (some (.int 5 uky)))
  (z33:Ng K "TURNS" (some (.int 4 uzk)))
  (z34:Ng K "WAYS" (some (.int 8 uzo)))
  (z35:Ng K "LETTERS" (some (.str "abcdefghijklmnopqrstuvwxyz" ux2)))
  (z36:Ng K "BY_MIRRORING" (some (.ref uj6)))
  (z37:K.lookup uj6=some ⟨.type "tuple",none,.seq #[.int 1 ukj,.int 0 ukk,.int 3 ukl,.int 2 ukm] ukz,uk0⟩)
  (z38:Ng K "BY_TURNING" (some (.ref ukg)))
  (z39:K.lookup ukg=some ⟨.type "tuple",none,.seq #[.int 2 uk1,.int 0 uk2,.int 3 uk3,.int 1 uk4] uxh,uxi⟩)
  (z40:Ng K "RULES" (some (.ref td_RULES)))
  (z41:K.lookup td_RULES=some ⟨.type "dict",none,.dict #[⟨PyData.keyHash w.params "first",.str "first" dt_RULES_0,.ref f17⟩,⟨PyData.keyHash w.params "last",.str "last" dt_RULES_1,.ref f18⟩,⟨PyData.keyHash w.params "least",.str "least" dt_RULES_2,.ref f19⟩,⟨PyData.keyHash w.params "greatest",.str "greatest" dt_RULES_3,.ref f20⟩,⟨PyData.keyHash w.params "sum",.str "sum" dt_RULES_4,.ref f21⟩,⟨PyData.keyHash w.params "times",.str "times" dt_RULES_5,.ref f22⟩,⟨PyData.keyHash w.params "less",.str "less" dt_RULES_6,.ref f23⟩,⟨PyData.keyHash w.params "same",.str "same" dt_RULES_7,.ref f24⟩] dn_RULES,#[]⟩)
  (z42:(td_RULES==sysModules)=false)
  (z43:Ng K "FourError" (some (.ref C0)))
  (z44:Ng K "NoPicture" (some (.ref C1)))
  (z45:Ng K "NoSpot" (some (.ref C2)))
  (z46:Ng K "BadBox" (some (.ref C3)))
  (z47:Ng K "Unlike" (some (.ref C4)))
  (z48:Ng K "NoRule" (some (.ref C5)))
  (z49:Ng K "NoBlocks" (some (.ref C6)))
  (z50:Ng K "NoChange" (some (.ref C7)))
  (z51:Ng K "NoNumber" (some (.ref C8)))
  (z52:Ng K "NothingDone" (some (.ref C9)))
  (z53:Ng K "NoText" (some (.ref C10)))
  (z54:Ng K "NoName" (some (.ref C11)))
  (z55:excIn K C1 bmVE "ValueError.__new__"=true)
  (z56:excIn K C2 bmVE "ValueError.__new__"=true)
  (z57:excIn K C4 bmVE "ValueError.__new__"=true)
  (z58:excIn K C5 bmVE "ValueError.__new__"=true)
  (z59:excIn K C9 bmVE "ValueError.__new__"=true)
  (z60:excIn K C11 bmVE "ValueError.__new__"=true)
  (z61:excIn K C0 bmVE "ValueError.__new__"=true)
  (z62:clsIn K C1=some uxu)
  (z63:typeIn K (.ref C1)=some (.type "type"))
  (z64:clsIn K C2=some ux6)
  (z65:typeIn K (.ref C2)=some (.type "type"))
  (z66:clsIn K C3=some ux7)
  (z67:typeIn K (.ref C3)=some (.type "type"))
  (z68:clsIn K C4=some ux8)
  (z69:typeIn K (.ref C4)=some (.type "type"))
  (z70:clsIn K C5=some ux9)
  (z71:typeIn K (.ref C5)=some (.type "type"))
  (z72:clsIn K C6=some uxy)
  (z73:typeIn K (.ref C6)=some (.type "type"))
  (z74:clsIn K C7=some uxz)
  (z75:typeIn K (.ref C7)=some (.type "type"))
  (z76:clsIn K C8=some ux0)
  (z77:typeIn K (.ref C8)=some (.type "type"))
  (z78:clsIn K C9=some uk7)
  (z79:typeIn K (.ref C9)=some (.type "type"))
  (z80:clsIn K C10=some uza)
  (z81:typeIn K (.ref C10)=some (.type "type"))
  (z82:clsIn K C11=some uzb)
  (z83:typeIn K (.ref C11)=some (.type "type"))
  (z84:subIn K (.ref C1) (.ref C1)=some true)
  (z85:subIn K (.ref C1) (.ref C2)=some false)
  (z86:subIn K (.ref C1) (.ref C3)=some false)
  (z87:subIn K (.ref C1) (.ref C4)=some false)
  (z88:subIn K (.ref C1) (.ref C5)=some false)
  (z89:subIn K (.ref C1) (.ref C6)=some false)
  (z90:subIn K (.ref C1) (.ref C7)=some false)
  (z91:subIn K (.ref C1) (.ref C8)=some false)
  (z92:subIn K (.ref C1) (.ref C9)=some false)
  (z93:subIn K (.ref C1) (.ref C10)=some false)
  (z94:subIn K (.ref C1) (.ref C11)=some false)
  (z95:subIn K (.ref C1) (.ref C0)=some true)
  (z96:subIn K (.ref C1) (.type "ValueError")=some true)
  (z97:findIn K (.ref C1) "__getattribute__"=some (some (.builtin "BaseException.__getattribute__")))
  (z98:findIn K (.ref C1) "__getattr__"=some none)
  (z99:findIn K (.ref C1) "__class__"=some (some (.builtin "object.__class__")))
  (z100:subIn K (.ref C1) (.type "BaseException")=some true)
  (z101:subIn K (.ref C1) (.type "object")=some true)
  (z102:subIn K (.ref C2) (.ref C1)=some false)
  (z103:subIn K (.ref C2) (.ref C2)=some true)
  (z104:subIn K (.ref C2) (.ref C3)=some false)
  (z105:subIn K (.ref C2) (.ref C4)=some false)
  (z106:subIn K (.ref C2) (.ref C5)=some false)
  (z107:subIn K (.ref C2) (.ref C6)=some false)
  (z108:subIn K (.ref C2) (.ref C7)=some false)
  (z109:subIn K (.ref C2) (.ref C8)=some false)
  (z110:subIn K (.ref C2) (.ref C9)=some false)
  (z111:subIn K (.ref C2) (.ref C10)=some false)
  (z112:subIn K (.ref C2) (.ref C11)=some false)
  (z113:subIn K (.ref C2) (.ref C0)=some true)
  (z114:subIn K (.ref C2) (.type "ValueError")=some true)
  (z115:findIn K (.ref C2) "__getattribute__"=some (some (.builtin "BaseException.__getattribute__")))
  (z116:findIn K (.ref C2) "__getattr__"=some none)
  (z117:findIn K (.ref C2) "__class__"=some (some (.builtin "object.__class__")))
  (z118:subIn K (.ref C2) (.type "BaseException")=some true)
  (z119:subIn K (.ref C2) (.type "object")=some true)
  (z120:subIn K (.ref C4) (.ref C1)=some false)
  (z121:subIn K (.ref C4) (.ref C2)=some false)
  (z122:subIn K (.ref C4) (.ref C3)=some false)
  (z123:subIn K (.ref C4) (.ref C4)=some true)
  (z124:subIn K (.ref C4) (.ref C5)=some false)
  (z125:subIn K (.ref C4) (.ref C6)=some false)
  (z126:subIn K (.ref C4) (.ref C7)=some false)
  (z127:subIn K (.ref C4) (.ref C8)=some false)
  (z128:subIn K (.ref C4) (.ref C9)=some false)
  (z129:subIn K (.ref C4) (.ref C10)=some false)
  (z130:subIn K (.ref C4) (.ref C11)=some false)
  (z131:subIn K (.ref C4) (.ref C0)=some true)
  (z132:subIn K (.ref C4) (.type "ValueError")=some true)
  (z133:findIn K (.ref C4) "__getattribute__"=some (some (.builtin "BaseException.__getattribute__")))
  (z134:findIn K (.ref C4) "__getattr__"=some none)
  (z135:findIn K (.ref C4) "__class__"=some (some (.builtin "object.__class__")))
  (z136:subIn K (.ref C4) (.type "BaseException")=some true)
  (z137:subIn K (.ref C4) (.type "object")=some true)
  (z138:subIn K (.ref C5) (.ref C1)=some false)
  (z139:subIn K (.ref C5) (.ref C2)=some false)
  (z140:subIn K (.ref C5) (.ref C3)=some false)
  (z141:subIn K (.ref C5) (.ref C4)=some false)
  (z142:subIn K (.ref C5) (.ref C5)=some true)
  (z143:subIn K (.ref C5) (.ref C6)=some false)
  (z144:subIn K (.ref C5) (.ref C7)=some false)
  (z145:subIn K (.ref C5) (.ref C8)=some false)
  (z146:subIn K (.ref C5) (.ref C9)=some false)
  (z147:subIn K (.ref C5) (.ref C10)=some false)
  (z148:subIn K (.ref C5) (.ref C11)=some false)
  (z149:subIn K (.ref C5) (.ref C0)=some true)
  (z150:subIn K (.ref C5) (.type "ValueError")=some true)
  (z151:findIn K (.ref C5) "__getattribute__"=some (some (.builtin "BaseException.__getattribute__")))
  (z152:findIn K (.ref C5) "__getattr__"=some none)
  (z153:findIn K (.ref C5) "__class__"=some (some (.builtin "object.__class__")))
  (z154:subIn K (.ref C5) (.type "BaseException")=some true)
  (z155:subIn K (.ref C5) (.type "object")=some true)
  (z156:subIn K (.ref C9) (.ref C1)=some false)
  (z157:subIn K (.ref C9) (.ref C2)=some false)
  (z158:subIn K (.ref C9) (.ref C3)=some false)
  (z159:subIn K (.ref C9) (.ref C4)=some false)
  (z160:subIn K (.ref C9) (.ref C5)=some false)
  (z161:subIn K (.ref C9) (.ref C6)=some false)
  (z162:subIn K (.ref C9) (.ref C7)=some false)
  (z163:subIn K (.ref C9) (.ref C8)=some false)
  (z164:subIn K (.ref C9) (.ref C9)=some true)
  (z165:subIn K (.ref C9) (.ref C10)=some false)
  (z166:subIn K (.ref C9) (.ref C11)=some false)
  (z167:subIn K (.ref C9) (.ref C0)=some true)
  (z168:subIn K (.ref C9) (.type "ValueError")=some true)
  (z169:findIn K (.ref C9) "__getattribute__"=some (some (.builtin "BaseException.__getattribute__")))
  (z170:findIn K (.ref C9) "__getattr__"=some none)
  (z171:findIn K (.ref C9) "__class__"=some (some (.builtin "object.__class__")))
  (z172:subIn K (.ref C9) (.type "BaseException")=some true)
  (z173:subIn K (.ref C9) (.type "object")=some true)
  (z174:subIn K (.ref C11) (.ref C1)=some false)
  (z175:subIn K (.ref C11) (.ref C2)=some false)
  (z176:subIn K (.ref C11) (.ref C3)=some false)
  (z177:subIn K (.ref C11) (.ref C4)=some false)
  (z178:subIn K (.ref C11) (.ref C5)=some false)
  (z179:subIn K (.ref C11) (.ref C6)=some false)
  (z180:subIn K (.ref C11) (.ref C7)=some false)
  (z181:subIn K (.ref C11) (.ref C8)=some false)
  (z182:subIn K (.ref C11) (.ref C9)=some false)
  (z183:subIn K (.ref C11) (.ref C10)=some false)
  (z184:subIn K (.ref C11) (.ref C11)=some true)
  (z185:subIn K (.ref C11) (.ref C0)=some true)
  (z186:subIn K (.ref C11) (.type "ValueError")=some true)
  (z187:findIn K (.ref C11) "__getattribute__"=some (some (.builtin "BaseException.__getattribute__")))
  (z188:findIn K (.ref C11) "__getattr__"=some none)
  (z189:findIn K (.ref C11) "__class__"=some (some (.builtin "object.__class__")))
  (z190:subIn K (.ref C11) (.type "BaseException")=some true)
  (z191:subIn K (.ref C11) (.type "object")=some true) :
  ∃ fd:FuncData,(∀ (s:Shared) (v:Value),BindsTo s fd ⟨[v],[]⟩ [("_law_script",v)])∧∀ base:Heap,K.In base→base.Ns mainGlobals mg→BMn mg base→FnOk l.prog w K mg base (CXE l.prog w) 40 fa fd ["_law_script"] (spG K (Cof K) 1 (pw 40 Lw.M.law_k84)):=by
 have e:=hfa.symm.trans (mg_of X G z9);cases e;have uqx:Cof K 0=C0:=cof z43;have uqf:Cof K 1=C1:=cof z44;have uqh:Cof K 2=C2:=cof z45;have ujm:Cof K 3=C3:=cof z46;have uqi:Cof K 4=C4:=cof z47;have uqj:Cof K 5=C5:=cof z48;have uq5:Cof K 6=C6:=cof z49;have uq6:Cof K 7=C7:=cof z50;have uq7:Cof K 8=C8:=cof z51;have uqe:Cof K 9=C9:=cof z52;have ujn:Cof K 10=C10:=cof z53;have uqk:Cof K 11=C11:=cof z54;have uxv:ExcK K (Cof K 1):=by rw[uqf];exact⟨z97,z98,z99,z100,z101,by rw[z62];rfl⟩
 have uzc:ExcK K (Cof K 2):=by rw[uqh];exact⟨z115,z116,z117,z118,z119,by rw[z64];rfl⟩
 have uzd:ExcK K (Cof K 4):=by rw[uqi];exact⟨z133,z134,z135,z136,z137,by rw[z68];rfl⟩
 have uze:ExcK K (Cof K 5):=by rw[uqj];exact⟨z151,z152,z153,z154,z155,by rw[z70];rfl⟩
 have uk8:ExcK K (Cof K 9):=by rw[uqe];exact⟨z169,z170,z171,z172,z173,by rw[z78];rfl⟩
 have uzf:ExcK K (Cof K 11):=by rw[uqk];exact⟨z187,z188,z189,z190,z191,by rw[z82];rfl⟩
 have XKA:∀ j∈esL,ExcK K (Cof K j):=fun j hj=>by
  simp only[esL,List.mem_cons,List.not_mem_nil,or_false]at hj;rcases hj with rfl | rfl | rfl | rfl | rfl | rfl
  ·exact uxv
  ·exact uzc
  ·exact uzd
  ·exact uze
  ·exact uk8
  ·exact uzf
 have T:Txt K mg (Cof K) w.params:=⟨mg_none_of X G z14,
  mg_none_of X G z15,
  mg_none_of X G z16,
  mg_none_of X G z17,
  mg_none_of X G z18,
  mg_none_of X G z19,
  mg_none_of X G z20,
  mg_none_of X G z21,
  mg_none_of X G z22,
  mg_none_of X G z23,
  mg_none_of X G z24,
  mg_none_of X G z25,
  mg_none_of X G z26,
  mg_none_of X G z27,
  mg_none_of X G z28,
  mg_none_of X G z29,
  ⟨_,mg_of X G z30⟩,
  ⟨_,mg_of X G z31⟩,
  ⟨_,mg_of X G z32⟩,
  ⟨_,mg_of X G z33⟩,
  ⟨_,mg_of X G z34⟩,
  ⟨_,mg_of X G z35⟩,
  ⟨_,mg_of X G z36,_,_,_,z37,rfl,rfl,rfl,by show 4≤sizeLine;decide,(.cons ⟨_,rfl⟩ (.cons ⟨_,rfl⟩ (.cons ⟨_,rfl⟩ (.cons ⟨_,rfl⟩ .nil))))⟩,
  ⟨_,mg_of X G z38,_,_,_,z39,rfl,rfl,rfl,by show 4≤sizeLine;decide,(.cons ⟨_,rfl⟩ (.cons ⟨_,rfl⟩ (.cons ⟨_,rfl⟩ (.cons ⟨_,rfl⟩ .nil))))⟩,
  ⟨_,mg_of X G z40,_,_,z41,⟨⟨_,_,rfl,rfl⟩,⟨⟨_,_,rfl,rfl⟩,⟨⟨_,_,rfl,rfl⟩,⟨⟨_,_,rfl,rfl⟩,⟨⟨_,_,rfl,rfl⟩,⟨⟨_,_,rfl,rfl⟩,⟨⟨_,_,rfl,rfl⟩,⟨⟨_,_,rfl,rfl⟩,trivial⟩⟩⟩⟩⟩⟩⟩⟩,⟨⟨_,rfl⟩,congrArg Value.ref (cof (i:=F.ae) z1).symm,⟨⟨_,rfl⟩,congrArg Value.ref (cof (i:=F.ah) z2).symm,⟨⟨_,rfl⟩,congrArg Value.ref (cof (i:=F.af) z3).symm,⟨⟨_,rfl⟩,congrArg Value.ref (cof (i:=F.ad) z4).symm,⟨⟨_,rfl⟩,congrArg Value.ref (cof (i:=F.an) z5).symm,⟨⟨_,rfl⟩,congrArg Value.ref (cof (i:=F.ag) z6).symm,⟨⟨_,rfl⟩,congrArg Value.ref (cof (i:=F.ai) z7).symm,⟨⟨_,rfl⟩,congrArg Value.ref (cof (i:=F.aj) z8).symm,trivial⟩⟩⟩⟩⟩⟩⟩⟩,by decide +kernel,by decide,z42⟩,
  (by rw[cof (i:=F.ay) z0];exact mg_of X G z0),
  (by rw[cof (i:=F.ae) z1];exact mg_of X G z1),
  (by rw[cof (i:=F.ah) z2];exact mg_of X G z2),
  (by rw[cof (i:=F.af) z3];exact mg_of X G z3),
  (by rw[cof (i:=F.ad) z4];exact mg_of X G z4),
  (by rw[cof (i:=F.an) z5];exact mg_of X G z5),
  (by rw[cof (i:=F.ag) z6];exact mg_of X G z6),
  (by rw[cof (i:=F.ai) z7];exact mg_of X G z7),
  (by rw[cof (i:=F.aj) z8];exact mg_of X G z8),
  (by rw[uqx];exact mg_of X G z43),
  (by rw[uqf];exact mg_of X G z44),
  (by rw[uqh];exact mg_of X G z45),
  (by rw[ujm];exact mg_of X G z46),
  (by rw[uqi];exact mg_of X G z47),
  (by rw[uqj];exact mg_of X G z48),
  (by rw[uq5];exact mg_of X G z49),
  (by rw[uq6];exact mg_of X G z50),
  (by rw[uq7];exact mg_of X G z51),
  (by rw[uqe];exact mg_of X G z52),
  (by rw[ujn];exact mg_of X G z53),
  (by rw[uqk];exact mg_of X G z54),
  (by rw[uqf];exact z55),
  (by rw[uqh];exact z56),
  (by rw[uqi];exact z57),
  (by rw[uqj];exact z58),
  (by rw[uqe];exact z59),
  (by rw[uqk];exact z60),
  (cG (esc (by rw[uqf,ujm];exact ao z66 z67 z86 z84) (by rw[uqh,ujm];exact ao z66 z67 z104 z103) (by rw[uqi,ujm];exact ao z66 z67 z122 z123) (by rw[uqj,ujm];exact ao z66 z67 z140 z142) (by rw[uqe,ujm];exact ao z66 z67 z158 z164) (by rw[uqk,ujm];exact ao z66 z67 z176 z184)) XKA),
  (cG (esc (by rw[uqf,uq5];exact ao z72 z73 z89 z84) (by rw[uqh,uq5];exact ao z72 z73 z107 z103) (by rw[uqi,uq5];exact ao z72 z73 z125 z123) (by rw[uqj,uq5];exact ao z72 z73 z143 z142) (by rw[uqe,uq5];exact ao z72 z73 z161 z164) (by rw[uqk,uq5];exact ao z72 z73 z179 z184)) XKA),
  (cG (esc (by rw[uqf,uq6];exact ao z74 z75 z90 z84) (by rw[uqh,uq6];exact ao z74 z75 z108 z103) (by rw[uqi,uq6];exact ao z74 z75 z126 z123) (by rw[uqj,uq6];exact ao z74 z75 z144 z142) (by rw[uqe,uq6];exact ao z74 z75 z162 z164) (by rw[uqk,uq6];exact ao z74 z75 z180 z184)) XKA),
  (cG (esc (by rw[uqf,uqk];exact ao z82 z83 z94 z84) (by rw[uqh,uqk];exact ao z82 z83 z112 z103) (by rw[uqi,uqk];exact ao z82 z83 z130 z123) (by rw[uqj,uqk];exact ao z82 z83 z148 z142) (by rw[uqe,uqk];exact ao z82 z83 z166 z164) (by rw[uqk];exact ao z82 z83 z184 z184)) XKA),
  (cG (esc (by rw[uqf,uq7];exact ao z76 z77 z91 z84) (by rw[uqh,uq7];exact ao z76 z77 z109 z103) (by rw[uqi,uq7];exact ao z76 z77 z127 z123) (by rw[uqj,uq7];exact ao z76 z77 z145 z142) (by rw[uqe,uq7];exact ao z76 z77 z163 z164) (by rw[uqk,uq7];exact ao z76 z77 z181 z184)) XKA),
  (cG (esc (by rw[uqf];exact ao z62 z63 z84 z84) (by rw[uqh,uqf];exact ao z62 z63 z102 z103) (by rw[uqi,uqf];exact ao z62 z63 z120 z123) (by rw[uqj,uqf];exact ao z62 z63 z138 z142) (by rw[uqe,uqf];exact ao z62 z63 z156 z164) (by rw[uqk,uqf];exact ao z62 z63 z174 z184)) XKA),
  (cG (esc (by rw[uqf,uqj];exact ao z70 z71 z88 z84) (by rw[uqh,uqj];exact ao z70 z71 z106 z103) (by rw[uqi,uqj];exact ao z70 z71 z124 z123) (by rw[uqj];exact ao z70 z71 z142 z142) (by rw[uqe,uqj];exact ao z70 z71 z160 z164) (by rw[uqk,uqj];exact ao z70 z71 z178 z184)) XKA),
  (cG (esc (by rw[uqf,uqh];exact ao z64 z65 z85 z84) (by rw[uqh];exact ao z64 z65 z103 z103) (by rw[uqi,uqh];exact ao z64 z65 z121 z123) (by rw[uqj,uqh];exact ao z64 z65 z139 z142) (by rw[uqe,uqh];exact ao z64 z65 z157 z164) (by rw[uqk,uqh];exact ao z64 z65 z175 z184)) XKA),
  (cG (esc (by rw[uqf,ujn];exact ao z80 z81 z93 z84) (by rw[uqh,ujn];exact ao z80 z81 z111 z103) (by rw[uqi,ujn];exact ao z80 z81 z129 z123) (by rw[uqj,ujn];exact ao z80 z81 z147 z142) (by rw[uqe,ujn];exact ao z80 z81 z165 z164) (by rw[uqk,ujn];exact ao z80 z81 z183 z184)) XKA),
  (cG (esc (by rw[uqf,uqe];exact ao z78 z79 z92 z84) (by rw[uqh,uqe];exact ao z78 z79 z110 z103) (by rw[uqi,uqe];exact ao z78 z79 z128 z123) (by rw[uqj,uqe];exact ao z78 z79 z146 z142) (by rw[uqe];exact ao z78 z79 z164 z164) (by rw[uqk,uqe];exact ao z78 z79 z182 z184)) XKA),
  (cG (esc (by rw[uqf,uqi];exact ao z68 z69 z87 z84) (by rw[uqh,uqi];exact ao z68 z69 z105 z103) (by rw[uqi];exact ao z68 z69 z123 z123) (by rw[uqj,uqi];exact ao z68 z69 z141 z142) (by rw[uqe,uqi];exact ao z68 z69 z159 z164) (by rw[uqk,uqi];exact ao z68 z69 z177 z184)) XKA),
  (yx (esc (by rw[uqf];exact iK z96) (by rw[uqh];exact iK z114) (by rw[uqi];exact iK z132) (by rw[uqj];exact iK z150) (by rw[uqe];exact iK z168) (by rw[uqk];exact iK z186)) XKA),
  (tJ (by rw[uqx];exact z61) (esc (by rw[uqf,uqx];exact z95) (by rw[uqh,uqx];exact z113) (by rw[uqi,uqx];exact z131) (by rw[uqj,uqx];exact z149) (by rw[uqe,uqx];exact z167) (by rw[uqk,uqx];exact z185))),
  S2.uj8.cls,
  S2.uj9.cls,
  S2.uxe,
  S2.uxf,
  S2.uxg⟩
 have FL:=gz (st:=bf) z10 z11 z12;have e902:Cof K 902=_:=cof z9;have LM:Lms K mg:=⟨by rw[e902];exact mg_of X G z9,uB rfl rfl e902 z13 z9⟩;exact⟨fnOf "law" "law" (defArgs bf) (defBody bf) (defScope bf) .none kV36 dc36 pm36 an36 cd36 ct36,fun s v=>.of_eq rfl,fun base _ _ bm=>pi T (tab T S 37) (tabQ T S S2 LM bm 37) FL e902.symm LM.l0 bm⟩
theorem qy {K:Frag}{C:Nat→Addr}{E:L2.XK}{HW Z H:Hp}{P:Wd→FF.D→Hp→Hp→Hp→Prop}:∀ {r:RW},All (fun _ d=>d=.bl true) r→(∀ w d HW' Z' H',d=.bl true→P w d HW' Z' H')→WRW K C E HW Z H P r
 | .ok w d,h,k=>fun HW' Z' H' _ _=>k w d HW' Z' H' h
 | .er _ _,h,_=>h.elim
 | .al w f,h,k=>fun a e=>qy (h a e) k
 | .stuck,h,_=>h.elim
theorem walk {l:OpenLaw}{q:Program}{loose:List Str}{XP:(Str→Option Value)→Heap→Prop}{YP:World→Heap→Prop}{d:DefRec}{K:Params→Frag}(hB:∀ w:World,∀ x∈(["law"]:List Str),tabOkB (K w.params) x=true)(hR:∀ x∈(["law"]:List Str),((recsOf q).find? (fun e=>e.name==x)).isSome=true)(hn:l.most=some 63)(hdf:d.params.defaults=[])
  (hY:∀ (w:World) (h:Heap),YP w h→(K w.params).In h)
  (F:∀ (w:World) (mg:Str→Option Value) (fa:Addr) (h:Heap),(K w.params).In h→h.Ns mainGlobals mg→mg d.name=some (.ref fa) →
   ∃ fd:FuncData,(∀ (s:Shared) (u:Value),BindsTo s fd ⟨[u],[]⟩ [("_law_script",u)])∧∀ base:Heap,(K w.params).In base→base.Ns mainGlobals mg→BMn mg base→FnOk l.prog w (K w.params) mg base (CXE l.prog w) 40 fa fd ["_law_script"] (spG (K w.params) (Cof (K w.params)) 1 (pw 40 Lw.M.law_k84))) :
  PySem.W.WalkO q loose XP YP l.row.toRowW d [] (fun f vs=>PySem.call f vs) :=
 L2.uA (tabs:=fun w=>(["law"]:List Str).map (tabOf (K w.params))) (n:=63) (k:=40) (x := "_law_script") (CX:=fun w=>CXE l.prog w) (sp:=fun w=>spG (K w.params) (Cof (K w.params)) 1 (pw 40 Lw.M.law_k84))
  (fun w _ _ _ _ _ T X=>wC (hB w) hR T X) (fun w q hq=>by obtain⟨x,hx,rfl⟩:=List.mem_map.mp hq;exact(jR (hB w x hx)).2.2) hn (by decide) hdf ⟨rfl,by decide,by decide⟩ hY F
  (fun w H a ns hl hO hS=>uC hO hS (fun i hi=>match i,hi with
   | 0,_=>.head _
   | n+1,h=>absurd (show Nat.lt (n+1) 1 from h) (Nat.not_lt_of_le (Nat.le_add_left 1 n))) (fun HW Z=>qy (ll ns) (fun w d HW Z H' e v rv=>by subst e;rw[Rep]at rv;exact rv)))
  fun w H s e s' z=>by obtain⟨_,_,_,_,_,_,_,_,_,_,_,_,_,z⟩:=z;exact z
end Lw
open PySem PySem.W PyProof.Rows
def PySem.W.Fast.tw11352099483209828208:Nat:=0
def PySem.W.Fast.tw11630545265451577342:Nat:=0
def PySem.W.Fast.tw14047493883443536217:Nat:=0
def PySem.W.Fast.tw3122475968479108957:Nat:=0
def PySem.W.Fast.tw10841616005760825851:Nat:=0
def PySem.W.Fast.tw13484599974620747133:Nat:=0
def PySem.W.Fast.tw6658096208719060144:Nat:=0
def PySem.W.Fast.tw13550701711892830069:Nat:=0
def PySem.W.Fast.tw12055722236892523961:Nat:=0
def PySem.W.Fast.tw3831259677300912847:Nat:=0
def PySem.W.Fast.tw1143991545369033748:Nat:=0
def PySem.W.Fast.tw3247790444639460235:Nat:=0
def PySem.W.Fast.tw8054236105475647449:Nat:=0
def PySem.W.Fast.tw569114256415622473:Nat:=0
def PySem.W.Fast.tw9825325155740352349:Nat:=0
def PySem.W.Fast.tw366340137501980340:Nat:=0
def PySem.W.Fast.tw13487310497312240058:Nat:=0
def PySem.W.Fast.tw4555989176163916491:Nat:=0
def PySem.W.Fast.tw17093851592559225009:Nat:=0
def PySem.W.Fast.tw1954869232280157096:Nat:=0
def PySem.W.Fast.tw6595056014874465459:Nat:=0
def PySem.W.Fast.tw14005904511303280004:Nat:=0
def PySem.W.Fast.tw16007708697038981813:Nat:=0
def PySem.W.Fast.tw7117577899222233318:Nat:=0
def PySem.W.Fast.tw10497766375263814726:Nat:=0
def PySem.W.Fast.tw11898703197860103840:Nat:=0
def PySem.W.Fast.tw10475404928023636539:Nat:=0
def PySem.W.Fast.tw5763651280614673985:Nat:=0
def PySem.W.Fast.tw12876119696131171692:Nat:=0
def PySem.W.Fast.tw4778189224804041926:Nat:=0
def PySem.W.Fast.tw6840997850004125796:Nat:=0
def PySem.W.Fast.tw3901886322261265417:Nat:=0
def PySem.W.Fast.tw17500825640418694617:Nat:=0
def PySem.W.Fast.tw14450239284418237905:Nat:=0
def PySem.W.Fast.tw17763090083887592903:Nat:=0
def PySem.W.Fast.tw9807528091889944456:Nat:=0
def PySem.W.Fast.tw15936485059724663489:Nat:=0
def PySem.W.Fast.tw8757074714018556740:Nat:=0
def PySem.W.Fast.tw10201666837761761642:Nat:=0
def PySem.W.Fast.tw11016386258114797269:Nat:=0
def PySem.W.Fast.tw9068582424160569088:Nat:=0
def PySem.W.Fast.tw13320195041566903716:Nat:=0
def PySem.W.Fast.tw16117763624061544949:Nat:=0
def PySem.W.Fast.tw14378348582871516083:Nat:=0
def PySem.W.Fast.tw11764594975719422427:Nat:=0
def PySem.W.Fast.tw66786714820201360:Nat:=0
def PySem.W.Fast.tw1062948196881308069:Nat:=0
def PySem.W.Fast.tw861465109160457183:Nat:=0
def PySem.W.Fast.tw9315105368975759663:Nat:=0
def PySem.W.Fast.tw17167100604445986292:Nat:=0
def PySem.W.Fast.tw10496704776256389295:Nat:=0
def PySem.W.Fast.tw3270655876401880577:Nat:=0
def PySem.W.Fast.tw881043271021614725:Nat:=0
set_option maxRecDepth 100000 in
set_option maxHeartbeats 0 in
theorem PySem.Challenge.cw_fourfold_k84_albums_refused_holds : PySem.Challenge.rw_fourfold_k84_albums_refused.Holds := by
 w_on;o_law;k_head;(case hw=>w_witness2)
 k_fill
 refine Lw.walk (l:=PySem.Challenge.rw_fourfold_k84_albums_refused) ?B ?R rfl rfl (fun w h Y=>by first | exact PySem.W.km_in_of Y | exact PySem.W.kIn_of Y) ?F
 case B =>
  intro w x hx
  simp only[List.mem_cons,List.not_mem_nil,or_false]at hx
  rcases hx with rfl<;>kernel_rfl
 case R =>
  intro x hx
  simp only[List.mem_cons,List.not_mem_nil,or_false]at hx
  rcases hx with rfl<;>rfl
 case F =>
  intro w mg fa h KX G hmg
  refine' Lw.y6 KX G hmg ?S ?S2 ?z0 ?z1 ?z2 ?z3 ?z4 ?z5 ?z6 ?z7 ?z8 ?z9 ?z10 ?z11 ?z12 ?z13 ?z14 ?z15 ?z16 ?z17 ?z18 ?z19 ?z20 ?z21 ?z22 ?z23 ?z24 ?z25 ?z26 ?z27 ?z28 ?z29 ?z30 ?z31 ?z32 ?z33 ?z34 ?z35 ?z36 ?z37 ?z38 ?z39 ?z40 ?z41 ?z42 ?z43 ?z44 ?z45 ?z46 ?z47 ?z48 ?z49 ?z50 ?z51 ?z52 ?z53 ?z54 ?z55 ?z56 ?z57 ?z58 ?z59 ?z60 ?z61 ?z62 ?z63 ?z64 ?z65 ?z66 ?z67 ?z68 ?z69 ?z70 ?z71 ?z72 ?z73 ?z74 ?z75 ?z76 ?z77 ?z78 ?z79 ?z80 ?z81 ?z82 ?z83 ?z84 ?z85 ?z86 ?z87 ?z88 ?z89 ?z90 ?z91 ?z92 ?z93 ?z94 ?z95 ?z96 ?z97 ?z98 ?z99 ?z100 ?z101 ?z102 ?z103 ?z104 ?z105 ?z106 ?z107 ?z108 ?z109 ?z110 ?z111 ?z112 ?z113 ?z114 ?z115 ?z116 ?z117 ?z118 ?z119 ?z120 ?z121 ?z122 ?z123 ?z124 ?z125 ?z126 ?z127 ?z128 ?z129 ?z130 ?z131 ?z132 ?z133 ?z134 ?z135 ?z136 ?z137 ?z138 ?z139 ?z140 ?z141 ?z142 ?z143 ?z144 ?z145 ?z146 ?z147 ?z148 ?z149 ?z150 ?z151 ?z152 ?z153 ?z154 ?z155 ?z156 ?z157 ?z158 ?z159 ?z160 ?z161 ?z162 ?z163 ?z164 ?z165 ?z166 ?z167 ?z168 ?z169 ?z170 ?z171 ?z172 ?z173 ?z174 ?z175 ?z176 ?z177 ?z178 ?z179 ?z180 ?z181 ?z182 ?z183 ?z184 ?z185 ?z186 ?z187 ?z188 ?z189 ?z190 ?z191
  case S =>
   constructor
   all_goals
    refine' FF.zE KX G (fun _ _ _ _ _ _ us hl=>by first | (obtain⟨_,rfl⟩:=FF.ln1 hl;rfl) | (obtain⟨_,_,rfl⟩:=FF.ln2 hl;rfl) | (obtain⟨_,_,_,rfl⟩:=FF.ln3 hl;rfl) | (obtain⟨_,_,_,_,rfl⟩:=FF.ln4 hl;rfl) | (obtain⟨_,_,_,_,_,rfl⟩:=FF.ln5 hl;rfl) | (cases List.length_eq_zero_iff.mp hl;rfl)) ?a ?l ?c ?k
    (case a|l|c|k=>k_is)
  case S2 =>
   constructor
   ·refine' Lw.xG KX G rfl (fun _ _ _ _ _ _ us hl=>by first | (obtain⟨_,rfl⟩:=FF.ln1 hl;rfl) | (obtain⟨_,_,rfl⟩:=FF.ln2 hl;rfl) | (obtain⟨_,_,_,rfl⟩:=FF.ln3 hl;rfl) | (obtain⟨_,_,_,_,rfl⟩:=FF.ln4 hl;rfl) | (obtain⟨_,_,_,_,_,rfl⟩:=FF.ln5 hl;rfl)) ?z ?a ?i ?l ?c ?k ?pg ?hd ?po ?sa ?mk ?kc
    (case z=>show _=_;k_is);(case a|i|l|c|k|pg|hd|po|sa|mk|kc=>k_is)
   ·refine' Lw.bP rfl (fun _ _ _ _ _ _ us hl=>by first | (obtain⟨_,rfl⟩:=FF.ln1 hl;rfl) | (obtain⟨_,_,rfl⟩:=FF.ln2 hl;rfl) | (obtain⟨_,_,_,rfl⟩:=FF.ln3 hl;rfl) | (obtain⟨_,_,_,_,rfl⟩:=FF.ln4 hl;rfl) | (obtain⟨_,_,_,_,_,rfl⟩:=FF.ln5 hl;rfl)) ?z ?a ?i ?l ?c ?k
    (case z=>show _=_;k_is);(case a|i|l|c|k=>k_is)
   ·refine' Lw.bP rfl (fun _ _ _ _ _ _ us hl=>by first | (obtain⟨_,rfl⟩:=FF.ln1 hl;rfl) | (obtain⟨_,_,rfl⟩:=FF.ln2 hl;rfl) | (obtain⟨_,_,_,rfl⟩:=FF.ln3 hl;rfl) | (obtain⟨_,_,_,_,rfl⟩:=FF.ln4 hl;rfl) | (obtain⟨_,_,_,_,_,rfl⟩:=FF.ln5 hl;rfl)) ?z ?a ?i ?l ?c ?k
    (case z=>show _=_;k_is);(case a|i|l|c|k=>k_is)
   ·refine' Lw.bP rfl (fun _ _ _ _ _ _ us hl=>by first | (obtain⟨_,rfl⟩:=FF.ln1 hl;rfl) | (obtain⟨_,_,rfl⟩:=FF.ln2 hl;rfl) | (obtain⟨_,_,_,rfl⟩:=FF.ln3 hl;rfl) | (obtain⟨_,_,_,_,rfl⟩:=FF.ln4 hl;rfl) | (obtain⟨_,_,_,_,_,rfl⟩:=FF.ln5 hl;rfl)) ?z ?a ?i ?l ?c ?k
    (case z=>show _=_;k_is);(case a|i|l|c|k=>k_is)
   ·refine' Lw.bP rfl (fun _ _ _ _ _ _ us hl=>by first | (obtain⟨_,rfl⟩:=FF.ln1 hl;rfl) | (obtain⟨_,_,rfl⟩:=FF.ln2 hl;rfl) | (obtain⟨_,_,_,rfl⟩:=FF.ln3 hl;rfl) | (obtain⟨_,_,_,_,rfl⟩:=FF.ln4 hl;rfl) | (obtain⟨_,_,_,_,_,rfl⟩:=FF.ln5 hl;rfl)) ?z ?a ?i ?l ?c ?k
    (case z=>show _=_;k_is);(case a|i|l|c|k=>k_is)
   ·refine' Lw.bP rfl (fun _ _ _ _ _ _ us hl=>by first | (obtain⟨_,rfl⟩:=FF.ln1 hl;rfl) | (obtain⟨_,_,rfl⟩:=FF.ln2 hl;rfl) | (obtain⟨_,_,_,rfl⟩:=FF.ln3 hl;rfl) | (obtain⟨_,_,_,_,rfl⟩:=FF.ln4 hl;rfl) | (obtain⟨_,_,_,_,_,rfl⟩:=FF.ln5 hl;rfl)) ?z ?a ?i ?l ?c ?k
    (case z=>show _=_;k_is);(case a|i|l|c|k=>k_is)
   ·refine' Lw.xG KX G rfl (fun _ _ _ _ _ _ us hl=>by first | (obtain⟨_,rfl⟩:=FF.ln1 hl;rfl) | (obtain⟨_,_,rfl⟩:=FF.ln2 hl;rfl) | (obtain⟨_,_,_,rfl⟩:=FF.ln3 hl;rfl) | (obtain⟨_,_,_,_,rfl⟩:=FF.ln4 hl;rfl) | (obtain⟨_,_,_,_,_,rfl⟩:=FF.ln5 hl;rfl)) ?z ?a ?i ?l ?c ?k ?pg ?hd ?po ?sa ?mk ?kc
    (case z=>show _=_;k_is);(case a|i|l|c|k|pg|hd|po|sa|mk|kc=>k_is)
   ·refine' Lw.bP rfl (fun _ _ _ _ _ _ us hl=>by first | (obtain⟨_,rfl⟩:=FF.ln1 hl;rfl) | (obtain⟨_,_,rfl⟩:=FF.ln2 hl;rfl) | (obtain⟨_,_,_,rfl⟩:=FF.ln3 hl;rfl) | (obtain⟨_,_,_,_,rfl⟩:=FF.ln4 hl;rfl) | (obtain⟨_,_,_,_,_,rfl⟩:=FF.ln5 hl;rfl)) ?z ?a ?i ?l ?c ?k
    (case z=>show _=_;k_is);(case a|i|l|c|k=>k_is)
   ·refine' Lw.bP rfl (fun _ _ _ _ _ _ us hl=>by first | (obtain⟨_,rfl⟩:=FF.ln1 hl;rfl) | (obtain⟨_,_,rfl⟩:=FF.ln2 hl;rfl) | (obtain⟨_,_,_,rfl⟩:=FF.ln3 hl;rfl) | (obtain⟨_,_,_,_,rfl⟩:=FF.ln4 hl;rfl) | (obtain⟨_,_,_,_,_,rfl⟩:=FF.ln5 hl;rfl)) ?z ?a ?i ?l ?c ?k
    (case z=>show _=_;k_is);(case a|i|l|c|k=>k_is)
   ·refine' Lw.bP rfl (fun _ _ _ _ _ _ us hl=>by first | (obtain⟨_,rfl⟩:=FF.ln1 hl;rfl) | (obtain⟨_,_,rfl⟩:=FF.ln2 hl;rfl) | (obtain⟨_,_,_,rfl⟩:=FF.ln3 hl;rfl) | (obtain⟨_,_,_,_,rfl⟩:=FF.ln4 hl;rfl) | (obtain⟨_,_,_,_,_,rfl⟩:=FF.ln5 hl;rfl)) ?z ?a ?i ?l ?c ?k
    (case z=>show _=_;k_is);(case a|i|l|c|k=>k_is)
   ·refine' Lw.bP rfl (fun _ _ _ _ _ _ us hl=>by first | (obtain⟨_,rfl⟩:=FF.ln1 hl;rfl) | (obtain⟨_,_,rfl⟩:=FF.ln2 hl;rfl) | (obtain⟨_,_,_,rfl⟩:=FF.ln3 hl;rfl) | (obtain⟨_,_,_,_,rfl⟩:=FF.ln4 hl;rfl) | (obtain⟨_,_,_,_,_,rfl⟩:=FF.ln5 hl;rfl)) ?z ?a ?i ?l ?c ?k
    (case z=>show _=_;k_is);(case a|i|l|c|k=>k_is)
   ·refine' Lw.bP rfl (fun _ _ _ _ _ _ us hl=>by first | (obtain⟨_,rfl⟩:=FF.ln1 hl;rfl) | (obtain⟨_,_,rfl⟩:=FF.ln2 hl;rfl) | (obtain⟨_,_,_,rfl⟩:=FF.ln3 hl;rfl) | (obtain⟨_,_,_,_,rfl⟩:=FF.ln4 hl;rfl) | (obtain⟨_,_,_,_,_,rfl⟩:=FF.ln5 hl;rfl)) ?z ?a ?i ?l ?c ?k
    (case z=>show _=_;k_is);(case a|i|l|c|k=>k_is)
   ·refine' Lw.bP rfl (fun _ _ _ _ _ _ us hl=>by first | (obtain⟨_,rfl⟩:=FF.ln1 hl;rfl) | (obtain⟨_,_,rfl⟩:=FF.ln2 hl;rfl) | (obtain⟨_,_,_,rfl⟩:=FF.ln3 hl;rfl) | (obtain⟨_,_,_,_,rfl⟩:=FF.ln4 hl;rfl) | (obtain⟨_,_,_,_,_,rfl⟩:=FF.ln5 hl;rfl)) ?z ?a ?i ?l ?c ?k
    (case z=>show _=_;k_is);(case a|i|l|c|k=>k_is)
   ·refine' Lw.bP rfl (fun _ _ _ _ _ _ us hl=>by first | (obtain⟨_,rfl⟩:=FF.ln1 hl;rfl) | (obtain⟨_,_,rfl⟩:=FF.ln2 hl;rfl) | (obtain⟨_,_,_,rfl⟩:=FF.ln3 hl;rfl) | (obtain⟨_,_,_,_,rfl⟩:=FF.ln4 hl;rfl) | (obtain⟨_,_,_,_,_,rfl⟩:=FF.ln5 hl;rfl)) ?z ?a ?i ?l ?c ?k
    (case z=>show _=_;k_is);(case a|i|l|c|k=>k_is)
   ·refine' Lw.bP rfl (fun _ _ _ _ _ _ us hl=>by first | (obtain⟨_,rfl⟩:=FF.ln1 hl;rfl) | (obtain⟨_,_,rfl⟩:=FF.ln2 hl;rfl) | (obtain⟨_,_,_,rfl⟩:=FF.ln3 hl;rfl) | (obtain⟨_,_,_,_,rfl⟩:=FF.ln4 hl;rfl) | (obtain⟨_,_,_,_,_,rfl⟩:=FF.ln5 hl;rfl)) ?z ?a ?i ?l ?c ?k
    (case z=>show _=_;k_is);(case a|i|l|c|k=>k_is)
   ·refine' Lw.bP rfl (fun _ _ _ _ _ _ us hl=>by first | (obtain⟨_,rfl⟩:=FF.ln1 hl;rfl) | (obtain⟨_,_,rfl⟩:=FF.ln2 hl;rfl) | (obtain⟨_,_,_,rfl⟩:=FF.ln3 hl;rfl) | (obtain⟨_,_,_,_,rfl⟩:=FF.ln4 hl;rfl) | (obtain⟨_,_,_,_,_,rfl⟩:=FF.ln5 hl;rfl)) ?z ?a ?i ?l ?c ?k
    (case z=>show _=_;k_is);(case a|i|l|c|k=>k_is)
   ·refine' Lw.bP rfl (fun _ _ _ _ _ _ us hl=>by first | (obtain⟨_,rfl⟩:=FF.ln1 hl;rfl) | (obtain⟨_,_,rfl⟩:=FF.ln2 hl;rfl) | (obtain⟨_,_,_,rfl⟩:=FF.ln3 hl;rfl) | (obtain⟨_,_,_,_,rfl⟩:=FF.ln4 hl;rfl) | (obtain⟨_,_,_,_,_,rfl⟩:=FF.ln5 hl;rfl)) ?z ?a ?i ?l ?c ?k
    (case z=>show _=_;k_is);(case a|i|l|c|k=>k_is)
   ·refine' Lw.bP rfl (fun _ _ _ _ _ _ us hl=>by first | (obtain⟨_,rfl⟩:=FF.ln1 hl;rfl) | (obtain⟨_,_,rfl⟩:=FF.ln2 hl;rfl) | (obtain⟨_,_,_,rfl⟩:=FF.ln3 hl;rfl) | (obtain⟨_,_,_,_,rfl⟩:=FF.ln4 hl;rfl) | (obtain⟨_,_,_,_,_,rfl⟩:=FF.ln5 hl;rfl)) ?z ?a ?i ?l ?c ?k
    (case z=>show _=_;k_is);(case a|i|l|c|k=>k_is)
   ·refine' Lw.bP rfl (fun _ _ _ _ _ _ us hl=>by first | (obtain⟨_,rfl⟩:=FF.ln1 hl;rfl) | (obtain⟨_,_,rfl⟩:=FF.ln2 hl;rfl) | (obtain⟨_,_,_,rfl⟩:=FF.ln3 hl;rfl) | (obtain⟨_,_,_,_,rfl⟩:=FF.ln4 hl;rfl) | (obtain⟨_,_,_,_,_,rfl⟩:=FF.ln5 hl;rfl)) ?z ?a ?i ?l ?c ?k
    (case z=>show _=_;k_is);(case a|i|l|c|k=>k_is)
   ·refine' Lw.bP rfl (fun _ _ _ _ _ _ us hl=>by first | (obtain⟨_,rfl⟩:=FF.ln1 hl;rfl) | (obtain⟨_,_,rfl⟩:=FF.ln2 hl;rfl) | (obtain⟨_,_,_,rfl⟩:=FF.ln3 hl;rfl) | (obtain⟨_,_,_,_,rfl⟩:=FF.ln4 hl;rfl) | (obtain⟨_,_,_,_,_,rfl⟩:=FF.ln5 hl;rfl)) ?z ?a ?i ?l ?c ?k
    (case z=>show _=_;k_is);(case a|i|l|c|k=>k_is)
   ·refine' Lw.vb rfl ?z ?n
    (case z=>show _=_;k_is);(case n=>k_is)
   ·refine' Lw.vb rfl ?z ?n
    (case z=>show _=_;k_is);(case n=>k_is)
   ·refine' Lw.vb rfl ?z ?n
    (case z=>show _=_;k_is);(case n=>k_is)
  (case z0|z1|z2|z3|z4|z5|z6|z7|z8|z9=>show _=_;k_is)
  (case z10|z11|z12=>k_is)
  (case z13=>kernel_rfl)
  (case z14|z15|z16|z17|z18|z19|z20|z21|z22|z23|z24|z25|z26|z27|z28|z29|z30|z31|z32|z33|z34|z35|z36=>show _=_;k_is)
  (case z37=>k_is)
  (case z38=>show _=_;k_is)
  (case z39=>k_is)
  (case z40=>show _=_;k_is)
  (case z41=>k_is)
  (case z42=>first | rfl | decide)
  (case z43|z44|z45|z46|z47|z48|z49|z50|z51|z52|z53|z54=>show _=_;k_is)
  (case z55|z56|z57|z58|z59|z60|z61=>k_exc)
  (case z62|z63|z64|z65|z66|z67|z68|z69|z70|z71|z72|z73|z74|z75|z76|z77|z78|z79|z80|z81|z82|z83|z84|z85|z86|z87|z88|z89|z90|z91|z92|z93|z94|z95|z96|z97|z98|z99|z100|z101|z102|z103|z104|z105|z106|z107|z108|z109|z110|z111|z112|z113|z114|z115|z116|z117|z118|z119|z120|z121|z122|z123|z124|z125|z126|z127|z128|z129|z130|z131|z132|z133|z134|z135|z136|z137|z138|z139|z140|z141|z142|z143|z144|z145|z146|z147|z148|z149|z150|z151|z152|z153|z154|z155|z156|z157|z158|z159|z160|z161|z162|z163|z164|z165|z166|z167|z168|z169|z170|z171|z172|z173|z174|z175|z176|z177|z178|z179|z180|z181|z182|z183|z184|z185|z186|z187|z188|z189|z190|z191=>k_is)
end
